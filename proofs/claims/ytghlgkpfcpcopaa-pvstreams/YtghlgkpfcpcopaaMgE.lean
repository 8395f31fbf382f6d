/- The document's small questions about messages. The document's bytes: pvBytes, pvWords, pvAttribute. -/
import Derived.Test.YtghlgkpfcpcopaaPvN
namespace Go.Proofs.Ytghlgkpfcpcopaa.Pv
open Go.ChangeShapes Go.WideShapes Go.ChangeAt Go.RowKit Go.Joins Go.Proofs.Ytghlgkpfcpcopaa.PM Go.Proofs.Ytghlgkpfcpcopaa.Ask Go.Proofs.Ytghlgkpfcpcopaa.Ge
set_option linter.unusedVariables false

theorem rbetween_any (n lo hi : Int) (r : Bool) (hr : wi n lo hi = r) (w : World) :
    Calls Try.prog 78 #[.int .i64 n, .int .i64 lo, .int .i64 hi] w fun e w' => e = .returned (.bool r) ∧ w' = w := by
  have HR : Hid (wi n lo hi = r) := hr
  clear hr
  go_enter Try.func78, Try.ntmps78
  go_wp2_with fail
  all_goals
    go_ret
    refine ⟨ret_bool ?_, rfl⟩
    rw [← HR.out]
    unfold wi
    first
      | (symm; rw [decide_eq_false_iff_not]; omega)
      | (rw [Bool.eq_iff_iff, decide_eq_true_iff, decide_eq_true_iff]; omega)
set_option maxRecDepth 100000 in
set_option maxHeartbeats 4000000 in
theorem rbetweens_any (low : Int) (va : Option Addr) (cap : Nat) (ps : List Int) (n : Nat) (hn : ps.length = n) (w : World) (hl : Lst EI w va ps) (r : Bool) (hr : ps.all (fun x => wi x low 4294967295) = r) :
    Calls Try.prog 79 #[.slice va n cap, .int .i64 low] w fun e w' => e = .returned (.bool r) ∧ w' = w := by
  have HL : Hid (Lst EI w va ps) := hl
  have HN : Hid (ps.length = n) := hn
  have HR : Hid (ps.all (fun x => wi x low 4294967295) = r) := hr
  have HF : Hid (∀ x t (W : World), wi x low 4294967295 = t → Calls Try.prog 78 #[.int .i64 x, .int .i64 low, .int .i64 4294967295] W fun e w' => e = .returned (.bool t) ∧ w' = W) := fun x t W e => rbetween_any x low 4294967295 t e W
  have h63 := hl.small
  rw [hn] at h63
  clear hl hn hr
  go_enter Try.func79, Try.ntmps79
  go_wp2_with fail
  go_loopw [9] (fun iv wr => ∃ i : Nat, i ≤ n ∧ iv = .int .i64 (i : Int) ∧ (∀ j (hj : j < ps.length), j < i → wi ps[j] low 4294967295 = true) ∧ wr = w) (fun i _ => n - (intOf i).toNat)
  case atStart => exact ⟨0, by omega, rfl, fun j _ h => by omega, rfl⟩
  case round =>
    obtain ⟨i, hi, rfl, hlow, hwr⟩ := hrel
    subst hwr
    have HLOW : Hid (∀ j (hj : j < ps.length), j < i → wi ps[j] low 4294967295 = true) := hlow
    clear hlow
    by_cases hlt : i < n
    · have hil : i < ps.length := by rw [HN.out]; exact hlt
      obtain ⟨b, o, rfl, hbl, c0⟩ := lstI HL.out i hil
      obtain ⟨hb0, hhb⟩ : ∃ t, wi ps[i] low 4294967295 = t := ⟨_, rfl⟩
      have HH : Hid (wi ps[i] low 4294967295 = hb0) := hhb
      obtain ⟨x, hpp⟩ : ∃ p, ps[i] = p := ⟨_, rfl⟩
      rw [hpp] at c0 hhb
      have HC : Hid (∀ W, Calls Try.prog 78 #[.int .i64 x, .int .i64 low, .int .i64 4294967295] W fun e w' => e = .returned (.bool hb0) ∧ w' = W) := fun W => HF.out x hb0 W hhb
      have hii : (i : Int) < n := by omega
      have ii0 : (0 : Int) ≤ i := by omega
      clear hhb hpp
      cases hb0 with
      | true =>
        have HNX : Hid (∀ j (hj : j < ps.length), j < i + 1 → wi ps[j] low 4294967295 = true) := fun j hj h1 => by
          by_cases e : j = i
          · subst e; exact HH.out
          · exact HLOW.out j hj (by omega)
        go_wp2_with fail
        refine (HC.out _).mono ?_
        rintro e w2 ⟨rfl, hw2⟩
        rw [hw2]
        clear hw2 w2
        go_wp2_with fail
        exact ⟨⟨i + 1, by omega, by simp, HNX.out, by first | trivial | rfl⟩, by simp [intOf]; omega⟩
      | false =>
        have HE : Hid (false = r) := by
          show false = r
          rw [← HR.out]
          exact (all_no (f := fun x => wi x low 4294967295) i hil HH.out).symm
        go_wp2_with fail
        refine (HC.out _).mono ?_
        rintro e w2 ⟨rfl, hw2⟩
        rw [hw2]
        clear hw2 w2
        go_wp2_with fail
        go_ret
        exact ⟨ret_bool HE.out, rfl⟩
    · obtain rfl : i = n := by omega
      have HE : Hid (true = r) := by
        show true = r
        rw [← HR.out]
        exact (all_iff.2 (fun j hj => HLOW.out j hj (by rw [← HN.out]; exact hj))).symm
      go_wp2_with fail
      go_ret
      exact ⟨ret_bool HE.out, rfl⟩
set_option maxHeartbeats 4000000 in
theorem rabove_any (a n b m : Int) (r : Bool) (hr : lt2 (a, n) (b, m) = r) (w : World) :
    Calls Try.prog 77 #[.agg #[.int .u32 a, .int .i64 n], .agg #[.int .u32 b, .int .i64 m]] w fun e w' => e = .returned (.bool r) ∧ Below w.heap.size w w' := by
  have HR : Hid (lt2 (a, n) (b, m) = r) := hr
  clear hr
  go_enter Try.func77, Try.ntmps77
  go_wp2_with fail
  all_goals
    go_ret
    refine ⟨ret_bool ?_, bel2 _ _ _⟩
    rw [← HR.out]
    unfold lt2
    dsimp only
    first
      | (symm; rw [decide_eq_false_iff_not]; omega)
      | (symm; rw [decide_eq_true_iff]; omega)
      | (rw [Bool.eq_iff_iff, decide_eq_true_iff, decide_eq_true_iff]; omega)
set_option maxRecDepth 100000 in
set_option maxHeartbeats 4000000 in
theorem rrise_any (va : Option Addr) (cap : Nat) (ps : List (Int × Int)) (n : Nat) (hn : ps.length = n) (w : World) (hl : Lst E2 w va ps) (hp : ∀ p ∈ ps, InA p) (r : Bool) (hr : rise ps = r) :
    Calls Try.prog 49 #[.slice va n cap] w fun e w' => e = .returned (.bool r) ∧ Below w.heap.size w w' := by
  have HL : Hid (Lst E2 w va ps) := hl
  have HP : Hid (∀ p ∈ ps, InA p) := hp
  have HN : Hid (ps.length = n) := hn
  have HR : Hid (rise ps = r) := hr
  have h63 := hl.small
  rw [hn] at h63
  clear hl hp hn hr
  go_enter Try.func49, Try.ntmps49
  go_wp2_with fail
  go_loopw [3] (fun iv wr => ∃ i : Nat, 1 ≤ i ∧ i ≤ n + 1 ∧ iv = .int .i64 (i : Int) ∧ (∀ j (hj : j + 1 < ps.length), j + 1 < i → lt2 ps[j] ps[j + 1] = true) ∧ Below w.heap.size w wr) (fun i _ => n + 1 - (intOf i).toNat)
  case atStart => exact ⟨1, by omega, by omega, rfl, fun j _ h => by omega, Below.refl _ _⟩
  case round =>
    obtain ⟨i, hi1, hi, rfl, hlow, hb⟩ := hrel
    have HLOW : Hid (∀ j (hj : j + 1 < ps.length), j + 1 < i → lt2 ps[j] ps[j + 1] = true) := hlow
    have HB : Hid (Below w.heap.size w wr) := hb
    clear hlow hb
    by_cases hlt : i < n
    · obtain ⟨k, hk⟩ : ∃ k, k + 1 = i := ⟨i - 1, by omega⟩
      have hil : i < ps.length := by rw [HN.out]; exact hlt
      have hkl : k < ps.length := by omega
      obtain ⟨b, o, rfl, hbl, c0, c1⟩ := lst2 (HL.out.bel HB.out) k hkl
      obtain ⟨b', o', e, -, d0, d1⟩ := lst2 (HL.out.bel HB.out) i hil
      cases e
      have hin := HP.out _ (List.getElem_mem hkl)
      have hin2 := HP.out _ (List.getElem_mem hil)
      obtain ⟨hb0, hhb⟩ : ∃ t, lt2 ps[k] ps[i] = t := ⟨_, rfl⟩
      have HH : Hid (lt2 ps[k] ps[i] = hb0) := hhb
      obtain ⟨⟨pa, pn⟩, hpp⟩ : ∃ p, ps[k] = p := ⟨_, rfl⟩
      obtain ⟨⟨qa, qn⟩, hqq⟩ : ∃ p, ps[i] = p := ⟨_, rfl⟩
      rw [hpp] at c0 c1 hin hhb
      rw [hqq] at d0 d1 hin2 hhb
      dsimp only at c0 c1 d0 d1
      obtain ⟨p0, p1⟩ := hin
      obtain ⟨q0, q1⟩ := hin2
      dsimp only at p0 p1 q0 q1
      have HC : Hid (∀ W, Calls Try.prog 77 #[.agg #[.int .u32 pa, .int .i64 pn], .agg #[.int .u32 qa, .int .i64 qn]] W fun e w' => e = .returned (.bool hb0) ∧ Below W.heap.size W w') := fun W => rabove_any pa pn qa qn hb0 hhb W
      have hii : (i : Int) < n := by omega
      have ii0 : (0 : Int) ≤ (i : Int) := by omega
      have hk1 : IntKind.i64.wrap ((i : Int) - 1) = (k : Int) := by rw [IntWalk.i64_in _ (by omega)]; omega
      have hkn : (k : Int) < n := by omega
      have kk0 : (0 : Int) ≤ (k : Int) := by omega
      have HBD : Hid (∀ q, Below w.heap.size w (wr.drewN q)) := fun q => below_drewN HB.out q
      have HK : Hid (k + 1 = i) := hk
      clear hpp hqq hk
      cases hb0 with
      | true =>
        have HNX : Hid (∀ j (hj : j + 1 < ps.length), j + 1 < i + 1 → lt2 ps[j] ps[j + 1] = true) := fun j hj h1 => by
          by_cases e : j = k
          · subst e
            have := HH.out
            have e2 := HK.out
            subst e2
            exact this
          · exact HLOW.out j hj (by have := HK.out; omega)
        clear hhb
        go_wp2_with fail
        go_still_tail 9, (by kernel_rfl)
        go_wp2_with fail
        refine (HC.out _).mono ?_
        rintro e w2 ⟨rfl, hb2⟩
        have HB2 : Hid (Below w.heap.size w w2) := (HBD.out 1).trans (hb2.mono (HBD.out 1).size)
        clear hb2
        go_wp2_with fail
        exact ⟨⟨i + 1, by omega, by omega, by simp, HNX.out, HB2.out⟩, by simp [intOf]; omega⟩
      | false =>
        have HE : Hid (false = r) := by
          show false = r
          rw [← HR.out]
          have e2 := HK.out
          subst e2
          exact (chain_no k hil HH.out).symm
        clear hhb
        go_wp2_with fail
        go_still_tail 9, (by kernel_rfl)
        go_wp2_with fail
        refine (HC.out _).mono ?_
        rintro e w2 ⟨rfl, hb2⟩
        have HB2 : Hid (Below w.heap.size w w2) := (HBD.out 1).trans (hb2.mono (HBD.out 1).size)
        clear hb2
        go_wp2_with fail
        go_ret
        exact ⟨ret_bool HE.out, HB2.out⟩
    · have HE : Hid (true = r) := by
        show true = r
        rw [← HR.out]
        exact (chain_iff.2 (fun j hj => HLOW.out j hj (by have := HN.out; omega))).symm
      have hii : ¬ (i : Int) < n := by omega
      go_wp2_with fail
      go_ret
      exact ⟨ret_bool HE.out, HB.out⟩
def nothing (r : Rt) : Bool := decide (r.path.length = 0 ∧ r.marks.length = 0 ∧ r.clus.length = 0 ∧ r.org = 0 ∧ r.pref = 0 ∧ r.med = 0 ∧ r.next = 0 ∧ r.auth = 0)
set_option maxHeartbeats 4000000 in
theorem rnothing_any (r : Rt) (s : Sl) (b : Bool) (hb : nothing r = b) (w : World) :
    Calls Try.prog 75 #[rtV r s] w fun e w' => e = .returned (.bool b) ∧ Below w.heap.size w w' := by
  obtain ⟨pa, pn, path, org, pref, med, next, marks, clus, auth⟩ := r
  unfold nothing at hb
  dsimp only at hb
  obtain ⟨n1, hn1⟩ : ∃ n, path.length = n := ⟨_, rfl⟩
  obtain ⟨n2, hn2⟩ : ∃ n, marks.length = n := ⟨_, rfl⟩
  obtain ⟨n3, hn3⟩ : ∃ n, clus.length = n := ⟨_, rfl⟩
  unfold rtV
  dsimp only
  rw [hn1, hn2, hn3] at hb ⊢
  have HB : Hid (decide (n1 = 0 ∧ n2 = 0 ∧ n3 = 0 ∧ org = 0 ∧ pref = 0 ∧ med = 0 ∧ next = 0 ∧ auth = 0) = b) := hb
  clear hb hn1 hn2 hn3
  go_enter Try.func75, Try.ntmps75
  go_wp2_with fail
  all_goals
    go_ret
    refine ⟨ret_bool ?_, (Below.refl _ _).alloc (Nat.le_refl _) _⟩
    rw [← HB.out]
    first
      | (symm; rw [decide_eq_false_iff_not]; omega)
      | (symm; rw [decide_eq_true_iff]; omega)
      | (rw [Bool.eq_iff_iff, beq_iff_eq, decide_eq_true_iff]; omega)
end Go.Proofs.Ytghlgkpfcpcopaa.Pv
namespace Go.Proofs.Ytghlgkpfcpcopaa.Pv
open Go.ChangeShapes Go.WideShapes Go.ChangeAt Go.RowKit Go.Joins Go.Proofs.Ytghlgkpfcpcopaa.PM Go.Proofs.Ytghlgkpfcpcopaa.Ask Go.Proofs.Ytghlgkpfcpcopaa.Ge
set_option linter.unusedVariables false

set_option maxRecDepth 100000 in
set_option maxHeartbeats 4000000 in
theorem rbytes_any (n size : Nat) (hs8 : size ≤ 8) (hn : n < 9223372036854775808) (w : World) :
    Calls Try.prog 46 #[.int .i64 (n : Int), .int .i64 (size : Int)] w fun e w' => ∃ v', e = .returned v' ∧ OwnL E8 w.heap.size w' v' (big size n) ∧ Below w.heap.size w w' := by
  have ws : IntKind.i64.wrap ((size : Int) - 1) = (size : Int) - 1 := by rw [IntWalk.i64_in _ (by omega)]
  go_enter Try.func46, Try.ntmps46
  go_wp2_with fail
  go_loopw [5, 6] (fun bv iv wr => ∃ (k : Nat), k ≤ size ∧ iv = .int .i64 ((size : Int) - 1 - k) ∧ OwnL E8 w.heap.size wr bv ((big size n).take k) ∧ Below w.heap.size w wr) (fun _ i _ => (intOf i + 1).toNat)
  case atStart => exact ⟨0, by omega, by simp, OwnL.nil _ _ _, Below.refl _ _⟩
  case round =>
    obtain ⟨k, hk, rfl, hob, hkp⟩ := hrel
    have HO : Hid (OwnL E8 w.heap.size wr u5 ((big size n).take k)) := hob
    have HK : Hid (Below w.heap.size w wr) := hkp
    clear hob hkp
    by_cases hlt : k < size
    · obtain ⟨j, hj⟩ : ∃ j, size - 1 - k = j := ⟨_, rfl⟩
      have hjj : (size : Int) - 1 - (k : Int) = (j : Int) := by omega
      have hj0 : (0 : Int) ≤ (j : Int) := by omega
      have hj8 : j ≤ 7 := by omega
      obtain ⟨bs1, hbs⟩ : ∃ b, (big size n).take k = b := ⟨_, rfl⟩
      have hl1 : bs1.length ≤ 8 := by rw [← hbs, List.length_take]; omega
      obtain ⟨c, hc⟩ : ∃ c, n / 2 ^ (8 * j) % 256 = c := ⟨_, rfl⟩
      have HNX : Hid (bs1 ++ [c] = (big size n).take (k + 1)) := by
        show _ = _
        rw [← hbs, List.take_succ_eq_append_getElem (by simp [big]; exact hlt)]
        simp [big, hc, hj]
      rw [hbs] at HO
      rw [hjj]
      have w3 : IntKind.i64.wrap (8 * (j : Int)) = ((8 * j : Nat) : Int) := by rw [IntWalk.i64_in _ (by omega)]; omega
      have w4 : IntKind.i64.wrap ((j : Int) - 1) = (j : Int) - 1 := by rw [IntWalk.i64_in _ (by omega)]
      have hcv : (n : Int) / 2 ^ (8 * j) % 256 = (c : Int) := by
        rw [← hc]
        simp
      obtain ⟨W, hW⟩ : ∃ W, wr.alloc (Obj.cells #[.int .u8 (c : Int)] 5) = W := ⟨_, rfl⟩
      have HWE : Hid (wr.alloc (Obj.cells (E8.enc c).toArray E8.e) = W) := hW
      have hbl : Below wr.heap.size wr W := by rw [← hW]; exact (Below.refl _ wr).alloc (Nat.le_refl _) _
      have HWA : Hid (OwnL E8 w.heap.size W u5 bs1) := HO.out.bel hbl
      have HBW : Hid (Below w.heap.size w W) := HK.out.trans (hbl.mono HK.out.size)
      have hby : bs1.length ≤ 1099511627775 := by omega
      have HJ : Hid ((size : Int) - 1 - (k : Int) = (j : Int)) := hjj
      clear hbs hc hbl hjj ws
      go_wp2_with (at_builtin; refine list_app1 E8 rfl _ _ 22 rfl rfl w.heap.size u5 bs1 c hby (w := wr) W rfl HWA.out rfl HBW.out.size HWE.out.symm ?_)
      intro v' w' ho' hg' hat'
      have HO' : Hid (OwnL E8 w.heap.size w' v' ((big size n).take (k + 1))) := by have := ho'.out; rw [HNX.out] at this; exact this
      have HK' : Hid (Below w.heap.size w w') := HBW.out.grown hg'.out HBW.out.size (fun g e => (HWA.out.row.lt g e).1)
      clear ho' hg' hat'
      go_wp2_with fail
      refine ⟨⟨k + 1, by omega, ?_, HO'.out, HK'.out⟩, by simp [intOf]⟩
      have := HJ.out
      congr 1
      omega
    · obtain rfl : size = k := by omega
      have HE : Hid (OwnL E8 w.heap.size wr u5 (big size n)) := by
        have h1 := HO.out
        rw [List.take_of_length_le (by simp [big])] at h1
        exact h1
      have hm : (size : Int) - 1 - (size : Int) = -1 := by omega
      rw [hm]
      obtain ⟨va, vc, rfl, -⟩ := HE.out.form
      obtain ⟨vl, hvl⟩ : ∃ q, (big size n).length = q := ⟨_, rfl⟩
      rw [hvl] at HE
      rw [hvl]
      clear HO hvl ws hm
      go_wp2_with fail
      go_ret
      exact ⟨_, rfl, HE.out, HK.out⟩
set_option maxRecDepth 100000 in
set_option maxHeartbeats 8000000 in
theorem rwords_any (va : Option Addr) (cap : Nat) (xs : List Int) (n : Nat) (hn : xs.length = n) (hnl : n ≤ 100000) (w : World) (hl : Lst EI w va xs) (h0 : ∀ x ∈ xs, 0 ≤ x ∧ x < 9223372036854775808) :
    Calls Try.prog 81 #[.slice va n cap] w fun e w' => ∃ v, e = .returned v ∧ OwnL E8 w.heap.size w' v (wordsB 4 xs) ∧ Below w.heap.size w w' := by
  have HL : Hid (Lst EI w va xs) := hl
  have HN : Hid (xs.length = n) := hn
  have H0 : Hid (∀ x ∈ xs, 0 ≤ x ∧ x < 9223372036854775808) := h0
  clear hl hn h0
  go_enter Try.func81, Try.ntmps81
  go_wp2_with fail
  go_loopw [3, 8] (fun bv iv wr => ∃ i : Nat, i ≤ n ∧ iv = .int .i64 (i : Int) ∧ OwnL E8 w.heap.size wr bv (wordsB 4 (xs.take i)) ∧ Below w.heap.size w wr) (fun _ i _ => n - (intOf i).toNat)
  case atStart => exact ⟨0, by omega, rfl, OwnL.nil _ _ _, Below.refl _ _⟩
  case round =>
    obtain ⟨i, hi, rfl, ho, hb⟩ := hrel
    have HO : Hid (OwnL E8 w.heap.size wr u3 (wordsB 4 (xs.take i))) := ho
    have HB : Hid (Below w.heap.size w wr) := hb
    clear ho hb
    by_cases hlt : i < n
    · have hil : i < xs.length := by rw [HN.out]; exact hlt
      obtain ⟨b, o, rfl, hbb, c0⟩ := lstI (HL.out.bel HB.out) i hil
      have h0i := H0.out _ (List.getElem_mem hil)
      have HNX : Hid (wordsB 4 (xs.take (i + 1)) = wordsB 4 (xs.take i) ++ big 4 xs[i].toNat) := wordsB_snoc 4 xs i hil
      have hlen : (wordsB 4 (xs.take i)).length ≤ 400000 := by rw [wordsB_len, List.length_take]; omega
      obtain ⟨x, hxx⟩ : ∃ x, xs[i] = x := ⟨_, rfl⟩
      rw [hxx] at c0 h0i HNX
      obtain ⟨q, rfl⟩ : ∃ q : Nat, x = q := ⟨x.toNat, by omega⟩
      rw [Int.toNat_natCast] at HNX
      have hq : q < 9223372036854775808 := by omega
      have hii : (i : Int) < n := by omega
      have ii0 : (0 : Int) ≤ i := by omega
      clear hxx h0i
      go_wp2_with fail
      refine (rbytes_any q 4 (by decide) hq wr).mono ?_
      rintro e w1 ⟨v1, rfl, ho1, hb1⟩
      obtain ⟨a1, c1, hv1, -⟩ := ho1.form
      rw [big_len] at hv1
      subst hv1
      have HP1 : Hid (Pc8 w1 a1 4 c1 (big 4 q)) := OwnL.pc8 ho1
      have HB1 : Hid (Below w.heap.size w w1) := HB.out.trans (hb1.mono HB.out.size)
      have HO1 : Hid (OwnL E8 w.heap.size w1 u3 (wordsB 4 (xs.take i))) := HO.out.bel hb1
      have hby : (wordsB 4 (xs.take i)).length + 4 ≤ 1099511627775 := by omega
      clear ho1 hb1
      go_wp2_with (at_builtin; refine list_appL E8 rfl _ _ 22 rfl rfl w.heap.size u3 (wordsB 4 (xs.take i)) (big 4 q) a1 4 c1 w1 hby rfl HO1.out rfl HP1.out.l HP1.out.nil HP1.out.len HB1.out.size ?_)
      intro v2 w2 ho2 hg2 hat2
      have HO2 : Hid (OwnL E8 w.heap.size w2 v2 (wordsB 4 (xs.take (i + 1)))) := by rw [HNX.out]; exact ho2.out
      have HB2 : Hid (Below w.heap.size w w2) := HB1.out.grown hg2.out HB1.out.size (fun g e => (HO1.out.row.lt g e).1)
      clear ho2 hg2 hat2
      go_wp2_with fail
      exact ⟨⟨i + 1, by omega, by simp, HO2.out, HB2.out⟩, by simp [intOf]; omega⟩
    · obtain rfl : i = n := by omega
      have HE : Hid (OwnL E8 w.heap.size wr u3 (wordsB 4 xs)) := by
        have h1 := HO.out
        rw [List.take_of_length_le (by have := HN.out; omega)] at h1
        exact h1
      obtain ⟨va5, vc5, rfl, -⟩ := HE.out.form
      obtain ⟨vl, hvl⟩ : ∃ q, (wordsB 4 xs).length = q := ⟨_, rfl⟩
      rw [hvl] at HE
      rw [hvl]
      clear HO hvl
      go_wp2_with fail
      go_ret
      exact ⟨_, rfl, HE.out, HB.out⟩
theorem big1 {k : Nat} (h : k < 256) : big 1 k = [k] := by
  unfold big
  simp [List.range_succ]
  omega
set_option maxRecDepth 100000 in
set_option maxHeartbeats 8000000 in
theorem rattr_any (kind : Nat) (hk : kind < 256) (a : Option Addr) (n cap : Nat) (xs : List Nat) (hn : n ≤ 1000000) (w : World) (hp : Pc8 w a n cap xs) :
    Calls Try.prog 80 #[.int .i64 (kind : Int), .slice a n cap] w fun e w' => ∃ v, e = .returned v ∧ OwnL E8 w.heap.size w' v (attr kind xs) ∧ Below w.heap.size w w' := by
  have HP : Hid (Pc8 w a n cap xs) := hp
  have hku : IntKind.u8.wrap (kind : Int) = (kind : Int) := by rw [IntKind.wrap_u8]; omega
  clear hp
  go_enter Try.func80, Try.ntmps80
  go_upto_region 2 with fail
  obtain ⟨w0, hw0⟩ : ∃ w0, w.alloc (Obj.cells #[.int .u8 (kind : Int)] 5) = w0 := ⟨_, rfl⟩
  obtain ⟨m1, m2⟩ := own_made E8 (W := w) (W' := w0) [kind] 1 rfl (by decide) hw0
  have HO0 : Hid (OwnL E8 w.heap.size w0 (.slice (some ⟨w.heap.size, 0, none⟩) 1 1) [kind]) := m1
  have HB0 : Hid (Below w.heap.size w w0) := m2
  rw [hw0]
  clear hw0 m1 m2
  go_wp2_with fail
  refine (rbytes_any n 2 (by decide) (by omega) w0).mono ?_
  rintro e w1 ⟨v1, rfl, ho1, hb1⟩
  obtain ⟨a1, c1, hv1, -⟩ := ho1.form
  rw [big_len] at hv1
  subst hv1
  have HP1 : Hid (Pc8 w1 a1 2 c1 (big 2 n)) := OwnL.pc8 ho1
  have HB1 : Hid (Below w.heap.size w w1) := HB0.out.trans (hb1.mono HB0.out.size)
  have HO1 : Hid (OwnL E8 w.heap.size w1 (.slice (some ⟨w.heap.size, 0, none⟩) 1 1) [kind]) := HO0.out.bel hb1
  clear ho1 hb1 HO0 HB0
  go_wp2_with (at_builtin; refine list_appL E8 rfl _ _ 22 rfl rfl w.heap.size (.slice (some ⟨w.heap.size, 0, none⟩) 1 1) [kind] (big 2 n) a1 2 c1 w1 (by simp) rfl HO1.out rfl HP1.out.l HP1.out.nil HP1.out.len HB1.out.size ?_)
  intro v2 w2 ho2 hg2 hat2
  have HO2 : Hid (OwnL E8 w.heap.size w2 v2 ([kind] ++ big 2 n)) := ho2.out
  have HB2 : Hid (Below w.heap.size w w2) := HB1.out.grown hg2.out HB1.out.size (fun g e => (HO1.out.row.lt g e).1)
  have HP2 : Hid (Pc8 w2 a n cap xs) := HP.out.bel HB2.out
  have hby : ([kind] ++ big 2 n).length + n ≤ 1099511627775 := by rw [List.length_append, big_len]; simp; omega
  clear ho2 hg2 hat2 HO1 HB1 HP1
  go_wp2_with (at_builtin; refine list_appL E8 rfl _ _ 22 rfl rfl w.heap.size v2 ([kind] ++ big 2 n) xs a n cap w2 hby rfl HO2.out rfl HP2.out.l HP2.out.nil HP2.out.len HB2.out.size ?_)
  intro v3 w3 ho3 hg3 hat3
  have HO3 : Hid (OwnL E8 w.heap.size w3 v3 (attr kind xs)) := by
    unfold attr piece
    rw [big1 hk, HP.out.len]
    exact ho3.out
  have HB3 : Hid (Below w.heap.size w w3) := HB2.out.grown hg3.out HB2.out.size (fun g e => (HO2.out.row.lt g e).1)
  clear ho3 hg3 hat3 HO2 HB2 HP2
  obtain ⟨va5, vc5, rfl, -⟩ := HO3.out.form
  obtain ⟨vl, hvl⟩ : ∃ q, (attr kind xs).length = q := ⟨_, rfl⟩
  rw [hvl] at HO3
  rw [hvl]
  clear hvl
  go_wp2_with fail
  go_ret
  exact ⟨_, rfl, HO3.out, HB3.out⟩
end Go.Proofs.Ytghlgkpfcpcopaa.Pv
