/- The document's bytes: pvBytes, pvWords, pvAttribute. -/
import Derived.Test.YthcppiempcgnkaaPvQ
namespace Go.Proofs.Ythcppiempcgnkaa.Pv
open Go.ChangeShapes Go.WideShapes Go.ChangeAt Go.RowKit Go.Joins Go.Proofs.Ythcppiempcgnkaa.PM Go.Proofs.Ythcppiempcgnkaa.Ask Go.Proofs.Ythcppiempcgnkaa.Ge
set_option linter.unusedVariables false

set_option maxRecDepth 100000 in
set_option maxHeartbeats 4000000 in
theorem rbytes_any (n size : Nat) (hs8 : size ≤ 8) (hn : n < 9223372036854775808) (w : World) :
    Calls Try.prog 23 #[.int .i64 (n : Int), .int .i64 (size : Int)] w fun e w' => ∃ v', e = .returned v' ∧ OwnL E8 w.heap.size w' v' (big size n) ∧ Below w.heap.size w w' := by
  have ws : IntKind.i64.wrap ((size : Int) - 1) = (size : Int) - 1 := by rw [IntWalk.i64_in _ (by omega)]
  go_enter Try.func23, Try.ntmps23
  go_wp2_with fail
  go_loopw [5, 6] (fun bv iv wr => ∃ (k : Nat), k ≤ size ∧ iv = .int .i64 ((size : Int) - 1 - k) ∧ OwnL E8 w.heap.size wr bv ((big size n).take k) ∧ Below w.heap.size w wr) (fun _ i _ => (intOf i + 1).toNat)
  case atStart => exact ⟨0, by omega, by simp, OwnL.nil _ _ _, Below.refl _ _⟩
  case round =>
    obtain ⟨k, hk, rfl, hob, hkp⟩ := hrel
    have HO : Hid (OwnL E8 w.heap.size wr u5 ((big size n).take k)) := hob
    have HK : Hid (Below w.heap.size w wr) := hkp
    clear hob hkp
    by_cases hlt : k < size
    · obtain ⟨j, hj⟩ : ∃ j, size - 1 - k = j := ⟨_, rfl⟩
      have hjj : (size : Int) - 1 - (k : Int) = (j : Int) := by omega
      have hj0 : (0 : Int) ≤ (j : Int) := by omega
      have hj8 : j ≤ 7 := by omega
      obtain ⟨bs1, hbs⟩ : ∃ b, (big size n).take k = b := ⟨_, rfl⟩
      have hl1 : bs1.length ≤ 8 := by rw [← hbs, List.length_take]; omega
      obtain ⟨c, hc⟩ : ∃ c, n / 2 ^ (8 * j) % 256 = c := ⟨_, rfl⟩
      have HNX : Hid (bs1 ++ [c] = (big size n).take (k + 1)) := by
        show _ = _
        rw [← hbs, List.take_succ_eq_append_getElem (by simp [big]; exact hlt)]
        simp [big, hc, hj]
      rw [hbs] at HO
      rw [hjj]
      have w3 : IntKind.i64.wrap (8 * (j : Int)) = ((8 * j : Nat) : Int) := by rw [IntWalk.i64_in _ (by omega)]; omega
      have w4 : IntKind.i64.wrap ((j : Int) - 1) = (j : Int) - 1 := by rw [IntWalk.i64_in _ (by omega)]
      have hcv : (n : Int) / 2 ^ (8 * j) % 256 = (c : Int) := by
        rw [← hc]
        simp
      obtain ⟨W, hW⟩ : ∃ W, wr.alloc (Obj.cells #[.int .u8 (c : Int)] 5) = W := ⟨_, rfl⟩
      have HWE : Hid (wr.alloc (Obj.cells (E8.enc c).toArray E8.e) = W) := hW
      have hbl : Below wr.heap.size wr W := by rw [← hW]; exact (Below.refl _ wr).alloc (Nat.le_refl _) _
      have HWA : Hid (OwnL E8 w.heap.size W u5 bs1) := HO.out.bel hbl
      have HBW : Hid (Below w.heap.size w W) := HK.out.trans (hbl.mono HK.out.size)
      have hby : bs1.length ≤ 1099511627775 := by omega
      have HJ : Hid ((size : Int) - 1 - (k : Int) = (j : Int)) := hjj
      clear hbs hc hbl hjj ws
      go_wp2_with (at_builtin; refine list_app1 E8 rfl _ _ 32 rfl rfl w.heap.size u5 bs1 c hby (w := wr) W rfl HWA.out rfl HBW.out.size HWE.out.symm ?_)
      intro v' w' ho' hg' hat'
      have HO' : Hid (OwnL E8 w.heap.size w' v' ((big size n).take (k + 1))) := by have := ho'.out; rw [HNX.out] at this; exact this
      have HK' : Hid (Below w.heap.size w w') := HBW.out.grown hg'.out HBW.out.size (fun g e => (HWA.out.row.lt g e).1)
      clear ho' hg' hat'
      go_wp2_with fail
      refine ⟨⟨k + 1, by omega, ?_, HO'.out, HK'.out⟩, by simp [intOf]⟩
      have := HJ.out
      congr 1
      omega
    · obtain rfl : size = k := by omega
      have HE : Hid (OwnL E8 w.heap.size wr u5 (big size n)) := by
        have h1 := HO.out
        rw [List.take_of_length_le (by simp [big])] at h1
        exact h1
      have hm : (size : Int) - 1 - (size : Int) = -1 := by omega
      rw [hm]
      obtain ⟨va, vc, rfl, -⟩ := HE.out.form
      obtain ⟨vl, hvl⟩ : ∃ q, (big size n).length = q := ⟨_, rfl⟩
      rw [hvl] at HE
      rw [hvl]
      clear HO hvl ws hm
      go_wp2_with fail
      go_ret
      exact ⟨_, rfl, HE.out, HK.out⟩
set_option maxRecDepth 100000 in
set_option maxHeartbeats 8000000 in
theorem rwords_any (va : Option Addr) (cap : Nat) (xs : List Int) (n : Nat) (hn : xs.length = n) (hnl : n ≤ 100000) (w : World) (hl : Lst EI w va xs) (h0 : ∀ x ∈ xs, 0 ≤ x ∧ x < 9223372036854775808) :
    Calls Try.prog 57 #[.slice va n cap] w fun e w' => ∃ v, e = .returned v ∧ OwnL E8 w.heap.size w' v (wordsB 4 xs) ∧ Below w.heap.size w w' := by
  have HL : Hid (Lst EI w va xs) := hl
  have HN : Hid (xs.length = n) := hn
  have H0 : Hid (∀ x ∈ xs, 0 ≤ x ∧ x < 9223372036854775808) := h0
  clear hl hn h0
  go_enter Try.func57, Try.ntmps57
  go_wp2_with fail
  go_loopw [3, 8] (fun bv iv wr => ∃ i : Nat, i ≤ n ∧ iv = .int .i64 (i : Int) ∧ OwnL E8 w.heap.size wr bv (wordsB 4 (xs.take i)) ∧ Below w.heap.size w wr) (fun _ i _ => n - (intOf i).toNat)
  case atStart => exact ⟨0, by omega, rfl, OwnL.nil _ _ _, Below.refl _ _⟩
  case round =>
    obtain ⟨i, hi, rfl, ho, hb⟩ := hrel
    have HO : Hid (OwnL E8 w.heap.size wr u3 (wordsB 4 (xs.take i))) := ho
    have HB : Hid (Below w.heap.size w wr) := hb
    clear ho hb
    by_cases hlt : i < n
    · have hil : i < xs.length := by rw [HN.out]; exact hlt
      obtain ⟨b, o, rfl, hbb, c0⟩ := lstI (HL.out.bel HB.out) i hil
      have h0i := H0.out _ (List.getElem_mem hil)
      have HNX : Hid (wordsB 4 (xs.take (i + 1)) = wordsB 4 (xs.take i) ++ big 4 xs[i].toNat) := wordsB_snoc 4 xs i hil
      have hlen : (wordsB 4 (xs.take i)).length ≤ 400000 := by rw [wordsB_len, List.length_take]; omega
      obtain ⟨x, hxx⟩ : ∃ x, xs[i] = x := ⟨_, rfl⟩
      rw [hxx] at c0 h0i HNX
      obtain ⟨q, rfl⟩ : ∃ q : Nat, x = q := ⟨x.toNat, by omega⟩
      rw [Int.toNat_natCast] at HNX
      have hq : q < 9223372036854775808 := by omega
      have hii : (i : Int) < n := by omega
      have ii0 : (0 : Int) ≤ i := by omega
      clear hxx h0i
      go_wp2_with fail
      refine (rbytes_any q 4 (by decide) hq wr).mono ?_
      rintro e w1 ⟨v1, rfl, ho1, hb1⟩
      obtain ⟨a1, c1, hv1, -⟩ := ho1.form
      rw [big_len] at hv1
      subst hv1
      have HP1 : Hid (Pc8 w1 a1 4 c1 (big 4 q)) := OwnL.pc8 ho1
      have HB1 : Hid (Below w.heap.size w w1) := HB.out.trans (hb1.mono HB.out.size)
      have HO1 : Hid (OwnL E8 w.heap.size w1 u3 (wordsB 4 (xs.take i))) := HO.out.bel hb1
      have hby : (wordsB 4 (xs.take i)).length + 4 ≤ 1099511627775 := by omega
      clear ho1 hb1
      go_wp2_with (at_builtin; refine list_appL E8 rfl _ _ 32 rfl rfl w.heap.size u3 (wordsB 4 (xs.take i)) (big 4 q) a1 4 c1 w1 hby rfl HO1.out rfl HP1.out.l HP1.out.nil HP1.out.len HB1.out.size ?_)
      intro v2 w2 ho2 hg2 hat2
      have HO2 : Hid (OwnL E8 w.heap.size w2 v2 (wordsB 4 (xs.take (i + 1)))) := by rw [HNX.out]; exact ho2.out
      have HB2 : Hid (Below w.heap.size w w2) := HB1.out.grown hg2.out HB1.out.size (fun g e => (HO1.out.row.lt g e).1)
      clear ho2 hg2 hat2
      go_wp2_with fail
      exact ⟨⟨i + 1, by omega, by simp, HO2.out, HB2.out⟩, by simp [intOf]; omega⟩
    · obtain rfl : i = n := by omega
      have HE : Hid (OwnL E8 w.heap.size wr u3 (wordsB 4 xs)) := by
        have h1 := HO.out
        rw [List.take_of_length_le (by have := HN.out; omega)] at h1
        exact h1
      obtain ⟨va5, vc5, rfl, -⟩ := HE.out.form
      obtain ⟨vl, hvl⟩ : ∃ q, (wordsB 4 xs).length = q := ⟨_, rfl⟩
      rw [hvl] at HE
      rw [hvl]
      clear HO hvl
      go_wp2_with fail
      go_ret
      exact ⟨_, rfl, HE.out, HB.out⟩
theorem big1 {k : Nat} (h : k < 256) : big 1 k = [k] := by
  unfold big
  simp [List.range_succ]
  omega
set_option maxRecDepth 100000 in
set_option maxHeartbeats 8000000 in
theorem rattr_any (kind : Nat) (hk : kind < 256) (a : Option Addr) (n cap : Nat) (xs : List Nat) (hn : n ≤ 1000000) (w : World) (hp : Pc8 w a n cap xs) :
    Calls Try.prog 56 #[.int .i64 (kind : Int), .slice a n cap] w fun e w' => ∃ v, e = .returned v ∧ OwnL E8 w.heap.size w' v (attr kind xs) ∧ Below w.heap.size w w' := by
  have HP : Hid (Pc8 w a n cap xs) := hp
  have hku : IntKind.u8.wrap (kind : Int) = (kind : Int) := by rw [IntKind.wrap_u8]; omega
  clear hp
  go_enter Try.func56, Try.ntmps56
  go_upto_region 2 with fail
  obtain ⟨w0, hw0⟩ : ∃ w0, w.alloc (Obj.cells #[.int .u8 (kind : Int)] 5) = w0 := ⟨_, rfl⟩
  obtain ⟨m1, m2⟩ := own_made E8 (W := w) (W' := w0) [kind] 1 rfl (by decide) hw0
  have HO0 : Hid (OwnL E8 w.heap.size w0 (.slice (some ⟨w.heap.size, 0, none⟩) 1 1) [kind]) := m1
  have HB0 : Hid (Below w.heap.size w w0) := m2
  rw [hw0]
  clear hw0 m1 m2
  go_wp2_with fail
  refine (rbytes_any n 2 (by decide) (by omega) w0).mono ?_
  rintro e w1 ⟨v1, rfl, ho1, hb1⟩
  obtain ⟨a1, c1, hv1, -⟩ := ho1.form
  rw [big_len] at hv1
  subst hv1
  have HP1 : Hid (Pc8 w1 a1 2 c1 (big 2 n)) := OwnL.pc8 ho1
  have HB1 : Hid (Below w.heap.size w w1) := HB0.out.trans (hb1.mono HB0.out.size)
  have HO1 : Hid (OwnL E8 w.heap.size w1 (.slice (some ⟨w.heap.size, 0, none⟩) 1 1) [kind]) := HO0.out.bel hb1
  clear ho1 hb1 HO0 HB0
  go_wp2_with (at_builtin; refine list_appL E8 rfl _ _ 32 rfl rfl w.heap.size (.slice (some ⟨w.heap.size, 0, none⟩) 1 1) [kind] (big 2 n) a1 2 c1 w1 (by simp) rfl HO1.out rfl HP1.out.l HP1.out.nil HP1.out.len HB1.out.size ?_)
  intro v2 w2 ho2 hg2 hat2
  have HO2 : Hid (OwnL E8 w.heap.size w2 v2 ([kind] ++ big 2 n)) := ho2.out
  have HB2 : Hid (Below w.heap.size w w2) := HB1.out.grown hg2.out HB1.out.size (fun g e => (HO1.out.row.lt g e).1)
  have HP2 : Hid (Pc8 w2 a n cap xs) := HP.out.bel HB2.out
  have hby : ([kind] ++ big 2 n).length + n ≤ 1099511627775 := by rw [List.length_append, big_len]; simp; omega
  clear ho2 hg2 hat2 HO1 HB1 HP1
  go_wp2_with (at_builtin; refine list_appL E8 rfl _ _ 32 rfl rfl w.heap.size v2 ([kind] ++ big 2 n) xs a n cap w2 hby rfl HO2.out rfl HP2.out.l HP2.out.nil HP2.out.len HB2.out.size ?_)
  intro v3 w3 ho3 hg3 hat3
  have HO3 : Hid (OwnL E8 w.heap.size w3 v3 (attr kind xs)) := by
    unfold attr piece
    rw [big1 hk, HP.out.len]
    exact ho3.out
  have HB3 : Hid (Below w.heap.size w w3) := HB2.out.grown hg3.out HB2.out.size (fun g e => (HO2.out.row.lt g e).1)
  clear ho3 hg3 hat3 HO2 HB2 HP2
  obtain ⟨va5, vc5, rfl, -⟩ := HO3.out.form
  obtain ⟨vl, hvl⟩ : ∃ q, (attr kind xs).length = q := ⟨_, rfl⟩
  rw [hvl] at HO3
  rw [hvl]
  clear hvl
  go_wp2_with fail
  go_ret
  exact ⟨_, rfl, HO3.out, HB3.out⟩
end Go.Proofs.Ythcppiempcgnkaa.Pv
