/- The document's lists of prefixes: pfxInsert, pfxIn, pfxSplit: what each answers. -/
import Derived.Test.YtagfdmkgnedlbabDoorGeA
import Derived.Test.YtagfdmkgnedlbabDoorPcB
import Derived.Test.YtagfdmkgnedlbabDoorAsk3
namespace Go.Proofs.YtagfdmkgnedlbabDoor.Pc
open Go.ChangeShapes Go.WideShapes Go.ChangeAt Go.RowKit Go.Joins Go.Proofs.YtagfdmkgnedlbabDoor.PM Go.Proofs.YtagfdmkgnedlbabDoor.Ask Go.Proofs.YtagfdmkgnedlbabDoor.Ge
set_option linter.unusedVariables false

def E2 : El (Int × Int) := ⟨28, 22, 2, 16, .agg #[.int .u32 0, .int .i64 0], fun p => [.int .u32 p.1, .int .i64 p.2], by decide, by decide, fun _ => rfl, fun x u hu => by simp at hu; rcases hu with rfl | rfl <;> rfl, Tryd.underlying22, by kernel_rfl, rfl⟩
def EU : El Int := ⟨48, 53, 1, 8, .int .u64 0, fun p => [.int .u64 p], by decide, by decide, fun _ => rfl, fun x u hu => by simp at hu; subst hu; rfl, Tryd.underlying53, by kernel_rfl, rfl⟩
theorem insE_eq : ∀ (E : List Int) (i : Nat) (x : Int) (h : i < E.length), (∀ j (hj : j < i), E[j] < x) → E[i] = x → insE E x = E
  | a :: l, 0, x, h, _, e => by simp at e; subst e; simp [insE]
  | a :: l, i + 1, x, h, hj, e => by
    have h0 := hj 0 (by omega)
    simp at h0
    unfold insE
    rw [if_neg (by omega), if_neg (by omega), insE_eq l i x (by simpa using h) (fun j hj2 => by have := hj (j + 1) (by omega); simpa using this) (by simpa using e)]
theorem insE_lt : ∀ (E : List Int) (i : Nat) (x : Int) (h : i < E.length), (∀ j (hj : j < i), E[j] < x) → x < E[i] → insE E x = E.take i ++ [x] ++ E.drop i
  | a :: l, 0, x, h, _, e => by simp at e; unfold insE; rw [if_neg (by omega), if_pos e]; rfl
  | a :: l, i + 1, x, h, hj, e => by
    have h0 := hj 0 (by omega)
    simp at h0
    unfold insE
    rw [if_neg (by omega), if_neg (by omega), insE_lt l i x (by simpa using h) (fun j hj2 => by have := hj (j + 1) (by omega); simpa using this) (by simpa using e)]
    rfl
set_option maxRecDepth 100000 in
set_option maxHeartbeats 4000000 in
theorem insert_any (N : Nat) (a : Option Addr) (n c : Nat) (E : List Int) (x : Int) (w : World) (hN : N ≤ w.heap.size) (ho : OwnL EU N w (.slice a n c) E) (hn : n ≤ 1099511627000) (hx : ∃ y ∈ E, x ≤ y) :
    Calls Tryd.prog 35 #[.slice a n c, .int .u64 x] w fun e w' => ∃ a' n' c', e = .returned (.slice a' n' c') ∧ OwnL EU N w' (.slice a' n' c') (insE E x) ∧ Below w.heap.size w w' := by
  have HO : Hid (OwnL EU N w (.slice a n c) E) := ho
  obtain ⟨hlst, hlen⟩ := ho.lst
  have HL : Hid (Lst EU w a E) := hlst
  have HLEN : Hid (E.length = n) := hlen
  have HX : Hid (∃ y ∈ E, x ≤ y) := hx
  obtain ⟨y0, hy0, -⟩ := hx
  have hn0 : 0 < n := by rw [← hlen]; exact List.length_pos_of_mem hy0
  have hcap : n ≤ c := by
    obtain ⟨a2, c2, e2, h2, -⟩ := ho.form
    cases e2
    omega
  obtain ⟨b, o, ha, hbl, -⟩ := hlst.cells 0 (by omega)
  subst ha
  clear ho hlst hlen hy0
  go_enter Tryd.func35, Tryd.ntmps35
  go_wp2_with fail
  go_loopw [5] (fun iv wr => ∃ i : Nat, i ≤ n ∧ iv = .int .i64 (i : Int) ∧ (∀ j (hj : j < E.length), j < i → E[j] < x) ∧ wr = w) (fun i _ => n - (intOf i).toNat)
  case atStart => exact ⟨0, by omega, rfl, fun j _ h => by omega, rfl⟩
  case round =>
    obtain ⟨i, hi, rfl, hlow, rfl⟩ := hrel
    have HLOW : Hid (∀ j (hj : j < E.length), j < i → E[j] < x) := hlow
    clear hlow
    by_cases hlt : i < n
    · have hil : i < E.length := by rw [HLEN.out]; exact hlt
      obtain ⟨b', o', e, -, hc⟩ := HL.out.cells i hil
      cases e
      have hc0 := hc 0 (by decide)
      have c0 : wr.cell? ⟨b, o + i, none⟩ = some (.int .u64 E[i]) := by simpa [EU] using hc0
      obtain ⟨y, hy⟩ : ∃ y, E[i] = y := ⟨_, rfl⟩
      rw [hy] at c0
      have hii : (i : Int) < n := by omega
      have ii0 : (0 : Int) ≤ i := by omega
      have hic : i ≤ c := by omega
      by_cases he : y = x
      · subst he
        have HR : Hid (insE E y = E) := insE_eq E i y hil (fun j hj => HLOW.out j (by omega) hj) hy
        clear hc hc0
        go_wp2_with fail
        go_ret
        exact ⟨_, _, _, rfl, by rw [HR.out]; exact HO.out, Below.refl _ _⟩
      · by_cases hg : x < y
        · have HR : Hid (insE E x = E.take i ++ x :: E.drop i) := by show _ = _; rw [insE_lt E i x hil (fun j hj => HLOW.out j (by omega) hj) (by rw [hy]; exact hg), List.append_assoc]; rfl
          have heb : (y == x) = false := by simpa using he
          obtain ⟨w1, hw1⟩ : ∃ w1, wr.alloc (Obj.cells #[] 48) = w1 := ⟨_, rfl⟩
          have HM : Hid (OwnL EU wr.heap.size w1 (.slice (some ⟨wr.heap.size, 0, none⟩) 0 0) [] ∧ Below wr.heap.size wr w1) := own_made0 EU hw1
          have HT : Hid (Lst EU w1 (some ⟨b, o, none⟩) (E.take i)) := (HL.out.take i).bel HM.out.2
          have hm1 : wr.heap.size ≤ w1.heap.size := HM.out.2.size
          have HTL : Hid ((E.take i).length = i) := by show _ = _; rw [List.length_take, HLEN.out]; omega
          clear hc hc0
          go_wp2_with (at_builtin; refine list_appL EU rfl _ _ 53 rfl rfl wr.heap.size (.slice (some ⟨wr.heap.size, 0, none⟩) 0 0) [] (E.take i) (some ⟨b, o, none⟩) i c w1 (by simp; omega) rfl HM.out.1 rfl HT.out (fun e => by cases e) HTL.out hm1 ?_)
          intro v2 w2 ho2 hg2 hat2
          have HO2 : Hid (OwnL EU wr.heap.size w2 v2 (E.take i)) := ho2.out
          have HB2 : Hid (Below wr.heap.size wr w2) := HM.out.2.trans ((Below.refl _ w1).grown hg2.out hm1 (fun g e => by cases e; exact Nat.le_refl _))
          clear ho2 hg2 hat2 hw1 HT
          obtain ⟨w3, hw3⟩ : ∃ w3, w2.alloc (Obj.cells #[.int .u64 x] 48) = w3 := ⟨_, rfl⟩
          have HW3 : Hid (w2.alloc (Obj.cells (EU.enc x).toArray EU.e) = w3) := hw3
          have hb3 : Below w2.heap.size w2 w3 := by rw [← hw3]; exact (Below.refl _ w2).alloc (Nat.le_refl _) _
          have HB3 : Hid (Below wr.heap.size wr w3) := HB2.out.trans (hb3.mono HB2.out.size)
          have HO3 : Hid (OwnL EU wr.heap.size w3 v2 (E.take i)) := HO2.out.bel hb3
          have hm3 : wr.heap.size ≤ w3.heap.size := HB3.out.size
          have hg3 : (E.take i).length ≤ 1099511627775 := by rw [HTL.out]; omega
          clear hb3
          go_wp2_with (at_builtin; refine list_app1 EU rfl _ _ 53 rfl rfl wr.heap.size v2 (E.take i) x hg3 (w := w2) w3 rfl HO3.out rfl hm3 HW3.out.symm ?_)
          intro v4 w4 ho4 hg4 hat4
          have HO4 : Hid (OwnL EU wr.heap.size w4 v4 (E.take i ++ [x])) := ho4.out
          have HB4 : Hid (Below wr.heap.size wr w4) := HB3.out.trans ((Below.refl _ w3).grown hg4.out hm3 (fun g e => (HO3.out.row.lt g e).1))
          have HD4 : Hid (Lst EU w4 (some ⟨b, o + i, none⟩) (E.drop i)) := by
            have h1 := (HL.out.drop i).bel HB4.out
            have e : o + i * EU.k = o + i := by show o + i * 1 = _; omega
            rw [e] at h1
            exact h1
          have HDL : Hid ((E.drop i).length = n - i) := by show _ = _; rw [List.length_drop, HLEN.out]
          have hm4 : wr.heap.size ≤ w4.heap.size := HB4.out.size
          have hg4' : (E.take i ++ [x]).length + (n - i) ≤ 1099511627775 := by rw [List.length_append, HTL.out]; simp; omega
          clear ho4 hg4 hat4 hw3 HW3
          go_wp2_with (at_builtin; refine list_appL EU rfl _ _ 53 rfl rfl wr.heap.size v4 (E.take i ++ [x]) (E.drop i) (some ⟨b, o + i, none⟩) (n - i) (c - i) w4 hg4' rfl HO4.out rfl HD4.out (fun e => by cases e) HDL.out hm4 ?_)
          intro v5 w5 ho5 hg5 hat5
          obtain ⟨a5, c5, hv5, -⟩ := ho5.out.form
          obtain ⟨n5, hn5⟩ : ∃ q, (E.take i ++ x :: E.drop i).length = q := ⟨_, rfl⟩
          rw [hn5] at hv5
          subst hv5
          have HO5 : Hid (OwnL EU wr.heap.size w5 (.slice a5 n5 c5) (insE E x)) := by rw [HR.out]; exact ho5.out
          have HB5 : Hid (Below wr.heap.size wr w5) := HB4.out.trans ((Below.refl _ w4).grown hg5.out hm4 (fun g e => (HO4.out.row.lt g e).1))
          clear ho5 hg5 hat5 hn5
          go_wp2_with fail
          go_ret
          exact ⟨_, _, _, rfl, HO5.out.mono hN, HB5.out⟩
        · have heb : (y == x) = false := by simpa using he
          have HNX : Hid (∀ j (hj : j < E.length), j < i + 1 → E[j] < x) := fun j hj h1 => by
            by_cases e : j = i
            · subst e; rw [hy]; omega
            · exact HLOW.out j hj (by omega)
          clear hc hc0
          go_wp2_with fail
          exact ⟨⟨i + 1, by omega, by simp, HNX.out, trivial⟩, by simp [intOf]; omega⟩
    · exfalso
      obtain ⟨y, hy, hxy⟩ := HX.out
      obtain ⟨j, hj, rfl⟩ := List.getElem_of_mem hy
      have h1 := HLOW.out j hj (by rw [HLEN.out] at hj; omega)
      omega
set_option maxRecDepth 100000 in
set_option maxHeartbeats 4000000 in
theorem in_any (va : Option Addr) (cap : Nat) (ps : List (Int × Int)) (n : Nat) (hn : ps.length = n) (x : Int) (x0 : 0 ≤ x) (x1 : x < 4294967296) (w : World) (hl : Lst E2 w va ps) (hp : ∀ p ∈ ps, InA p) (r : Bool) (hr : anyH ps x = r) :
    Calls Tryd.prog 29 #[.slice va n cap, .int .u32 x] w fun e w' => e = .returned (.bool r) ∧ Below w.heap.size w w' := by
  have HL : Hid (Lst E2 w va ps) := hl
  have HP : Hid (∀ p ∈ ps, InA p) := hp
  have HN : Hid (ps.length = n) := hn
  have HR : Hid (anyH ps x = r) := hr
  have h63 := hl.small
  rw [hn] at h63
  clear hl hp hn hr
  go_enter Tryd.func29, Tryd.ntmps29
  go_wp2_with fail
  go_loopw [9] (fun iv wr => ∃ i : Nat, i ≤ n ∧ iv = .int .i64 (i : Int) ∧ (∀ j (hj : j < ps.length), j < i → has ps[j].1 ps[j].2 x = false) ∧ Below w.heap.size w wr) (fun i _ => n - (intOf i).toNat)
  case atStart => exact ⟨0, by omega, rfl, fun j _ h => by omega, Below.refl _ _⟩
  case round =>
    obtain ⟨i, hi, rfl, hlow, hb⟩ := hrel
    have HLOW : Hid (∀ j (hj : j < ps.length), j < i → has ps[j].1 ps[j].2 x = false) := hlow
    have HB : Hid (Below w.heap.size w wr) := hb
    clear hlow hb
    by_cases hlt : i < n
    · have hil : i < ps.length := by rw [HN.out]; exact hlt
      obtain ⟨b, o, rfl, hbl, hc⟩ := (HL.out.bel HB.out).cells i hil
      have c0 : wr.cell? ⟨b, o + i * 2, none⟩ = some (.int .u32 ps[i].1) := hc 0 (by decide)
      have c1 : wr.cell? ⟨b, o + i * 2 + 1, none⟩ = some (.int .i64 ps[i].2) := hc 1 (by decide)
      have hin := HP.out _ (List.getElem_mem hil)
      obtain ⟨hb0, hhb⟩ : ∃ t, has ps[i].1 ps[i].2 x = t := ⟨_, rfl⟩
      have HH : Hid (has ps[i].1 ps[i].2 x = hb0) := hhb
      obtain ⟨⟨pa, pn⟩, hpp⟩ : ∃ p, ps[i] = p := ⟨_, rfl⟩
      rw [hpp] at c0 c1 hin hhb
      dsimp only at c0 c1 hhb
      obtain ⟨p0, p1⟩ := hin
      dsimp only at p0 p1
      have hii : (i : Int) < n := by omega
      have ii0 : (0 : Int) ≤ i := by omega
      have HBA : Hid (∀ o, Below w.heap.size w (wr.alloc o)) := fun o => HB.out.alloc HB.out.size o
      clear hc
      cases hb0 with
      | true =>
        have HE : Hid (r = true) := by
          show r = true
          rw [← HR.out, anyH_iff]
          exact ⟨ps[i], List.getElem_mem hil, HH.out⟩
        go_wp2_with fail
        refine (rhas_yes pa pn x hhb p0 p1 x0 x1 _).mono ?_
        rintro e w2 ⟨rfl, hb2⟩
        have HB2 : Hid (Below w.heap.size w w2) := (HBA.out _).trans (hb2.mono (HBA.out _).size)
        clear hb2
        go_wp2_with fail
        go_ret
        exact ⟨congrArg (fun b => Ending.returned (Value.bool b)) HE.out.symm, HB2.out⟩
      | false =>
        have HNX : Hid (∀ j (hj : j < ps.length), j < i + 1 → has ps[j].1 ps[j].2 x = false) := fun j hj h1 => by
          by_cases e : j = i
          · subst e; exact HH.out
          · exact HLOW.out j hj (by omega)
        go_wp2_with fail
        refine (rhas_no pa pn x hhb p0 p1 x0 x1 _).mono ?_
        rintro e w2 ⟨rfl, hb2⟩
        have HB2 : Hid (Below w.heap.size w w2) := (HBA.out _).trans (hb2.mono (HBA.out _).size)
        clear hb2
        go_wp2_with fail
        exact ⟨⟨i + 1, by omega, by simp, HNX.out, HB2.out⟩, by simp [intOf]; omega⟩
    · obtain rfl : i = n := by omega
      have HE : Hid (r = false) := by
        show r = false
        rw [← HR.out]
        cases e : anyH ps x with
        | false => rfl
        | true =>
          obtain ⟨p, hp, h1⟩ := anyH_iff.1 e
          obtain ⟨j, hj, rfl⟩ := List.getElem_of_mem hp
          rw [HLOW.out j hj (by rw [← HN.out]; exact hj)] at h1
          cases h1
      go_wp2_with fail
      go_ret
      exact ⟨congrArg (fun b => Ending.returned (Value.bool b)) HE.out.symm, HB.out⟩
theorem u32_id {n : Int} (h0 : 0 ≤ n) (h1 : n < 4294967296) : IntKind.u32.wrap n = n := by rw [IntKind.wrap_u32]; omega
theorem u64_id {n : Int} (h0 : 0 ≤ n) (h1 : n < 18446744073709551616) : IntKind.u64.wrap n = n := by rw [IntKind.wrap_u64]; omega
set_option maxRecDepth 100000 in
set_option maxHeartbeats 8000000 in
theorem split_any (lo hi : Int) (l0 : 0 ≤ lo) (lh : lo ≤ hi) (h32 : hi ≤ 4294967296) (w : World) :
    Calls Tryd.prog 30 #[.int .u64 lo, .int .u64 hi] w fun e w' => ∃ a n c, e = .returned (.slice a n c) ∧ OwnL E2 w.heap.size w' (.slice a n c) (split lo hi) ∧ Below w.heap.size w w' := by
  go_enter Tryd.func30, Tryd.ntmps30
  go_wp2_with fail
  go_loopw [0, 5] (fun lv ov wr => ∃ (x : Int) (xs : List (Int × Int)), lv = .int .u64 x ∧ lo ≤ x ∧ x ≤ hi ∧ (xs.length : Int) ≤ x - lo ∧ split lo hi = xs ++ split x hi ∧ OwnL E2 w.heap.size wr ov xs ∧ Below w.heap.size w wr) (fun l _ _ => (hi - intOf l).toNat)
  case atStart => exact ⟨lo, [], rfl, by omega, by omega, by simp, rfl, OwnL.nil _ _ _, Below.refl _ _⟩
  case round =>
    obtain ⟨x, xs, rfl, hx1, hx2, hxl, hsp, how, hbl⟩ := hrel
    have HSP : Hid (split lo hi = xs ++ split x hi) := hsp
    have HO : Hid (OwnL E2 w.heap.size wr u5 xs) := how
    have HB : Hid (Below w.heap.size w wr) := hbl
    clear hsp how hbl
    by_cases hlt : x < hi
    · go_wp2_with fail
      go_loopw [6] (fun nv wr2 => ∃ n : Nat, n ≤ 32 ∧ nv = .int .i64 (n : Int) ∧ Fit x hi n ∧ down x hi 32 = down x hi n ∧ wr2 = wr) (fun i _ => (intOf i).toNat)
      case atStart => exact ⟨32, by omega, rfl, fit32 hlt, rfl, rfl⟩
      case round =>
        obtain ⟨n, hn, rfl, hfit, hdn, hwr⟩ := hrel
        subst hwr
        have HF : Hid (Fit x hi n) := hfit
        have HDN : Hid (down x hi 32 = down x hi n) := hdn
        clear hfit hdn
        have hnn : (n : Int) ≤ 32 := by omega
        obtain ⟨s2, hs2⟩ : ∃ s, psz (n : Int) = s := ⟨_, rfl⟩
        have HS2 : Hid (psz (n : Int) = s2) := hs2
        have hs21 := psz_pos (n : Int)
        have hs22 := psz_le (n : Int)
        rw [hs2] at hs21 hs22
        clear hs2
        by_cases hn0 : n = 0
        · have HD : Hid (down x hi 32 = n) := by show _ = _; rw [HDN.out, hn0]; rfl
          have hn0' : ¬ (0 : Int) < n := by omega
          clear hn0
          have HFI : Hid (x + s2 ≤ hi) := by have h1 := HF.out.2; rw [HS2.out] at h1; exact h1
          have hfi : x + s2 ≤ hi := HFI.out
          have hux : IntKind.u32.wrap x = x := u32_id (by omega) (by omega)
          have huw : IntKind.u64.wrap (x + s2) = x + s2 := u64_id (by omega) (by omega)
          obtain ⟨wA, hwA⟩ : ∃ wA, wr.alloc (Obj.cells #[.int .u32 x, .int .i64 (n : Int)] 28) = wA := ⟨_, rfl⟩
          have HWA : Hid (wr.alloc (Obj.cells (E2.enc (x, (n : Int))).toArray E2.e) = wA) := hwA
          have hbA : Below wr.heap.size wr wA := by rw [← hwA]; exact (Below.refl _ wr).alloc (Nat.le_refl _) _
          have HBA : Hid (Below w.heap.size w wA) := HB.out.trans (hbA.mono HB.out.size)
          have HOA : Hid (OwnL E2 w.heap.size wA u5 xs) := HO.out.bel hbA
          have hMA : w.heap.size ≤ wA.heap.size := HBA.out.size
          have hbig : xs.length ≤ 1099511627775 := by omega
          clear hbA
          go_wp2_with (at_builtin; refine list_app1 E2 rfl _ _ 22 rfl rfl w.heap.size u5 xs (x, (n : Int)) hbig (w := wr) wA rfl HOA.out rfl hMA HWA.out.symm ?_)
          intro v' w' ho hg hat
          have HO2 : Hid (OwnL E2 w.heap.size w' v' (xs ++ [(x, (n : Int))])) := ho.out
          have HB2 : Hid (Below w.heap.size w w') := HBA.out.trans ((Below.refl _ wA).grown hg.out hMA (fun g e => (HOA.out.row.lt g e).1))
          clear ho hg hat hwA HWA
          go_wp2_with fail
          refine (size_any (n : Int) (by omega) (by omega) _).mono ?_
          rintro e w2 ⟨rfl, hw2⟩
          rw [hw2, HS2.out]
          clear hw2 w2
          go_wp2_with fail
          refine ⟨⟨x + s2, xs ++ [(x, (n : Int))], rfl, by omega, by omega, by rw [List.length_append]; simp; omega, ?_, HO2.out, HB2.out⟩, by simp [intOf]; omega⟩
          rw [HSP.out, split_cons hlt, HD.out, HS2.out]
          simp
        · obtain ⟨m, hm⟩ : ∃ m, m + 1 = n := ⟨n - 1, by omega⟩
          have hm1 : IntKind.i64.wrap ((n : Int) - 1) = (m : Int) := by rw [IntWalk.i64_in _ (by omega)]; omega
          have hm0 : (0 : Int) < n := by omega
          obtain ⟨sz, hsz⟩ : ∃ s, psz (m : Int) = s := ⟨_, rfl⟩
          have HSZ : Hid (psz (m : Int) = sz) := hsz
          have hs1 := psz_pos (m : Int)
          have hs2 := psz_le (m : Int)
          rw [hsz] at hs1 hs2
          have HDS : Hid (down x hi n = if x % sz = 0 ∧ x + sz ≤ hi then down x hi m else n) := by
            show _ = _
            rw [← hm, ← hsz]
            rfl
          have hzw : IntKind.u64.wrap (x + sz) = x + sz := u64_id (by omega) (by omega)
          clear hsz
          by_cases hmod : x % sz = 0
          · go_wp2_with fail
            refine (size_any (m : Int) (by omega) (by omega) _).mono ?_
            rintro e w2 ⟨rfl, hw2⟩
            rw [hw2, HSZ.out]
            clear hw2 w2
            go_wp2_with fail
            refine (size_any (m : Int) (by omega) (by omega) _).mono ?_
            rintro e w2 ⟨rfl, hw2⟩
            rw [hw2, HSZ.out]
            clear hw2 w2
            by_cases hle : x + sz ≤ hi
            · go_wp2_with fail
              refine ⟨⟨m, by omega, rfl, ?_, ?_, trivial⟩, by simp [intOf]; omega⟩
              · unfold Fit; rw [HSZ.out]; exact ⟨hmod, hle⟩
              · rw [HDN.out, HDS.out, if_pos ⟨hmod, hle⟩]
            · have HD : Hid (down x hi 32 = n) := by show _ = _; rw [HDN.out, HDS.out, if_neg (fun h => hle h.2)]
              have HFI : Hid (x + s2 ≤ hi) := by have h1 := HF.out.2; rw [HS2.out] at h1; exact h1
              have hfi : x + s2 ≤ hi := HFI.out
              have hux : IntKind.u32.wrap x = x := u32_id (by omega) (by omega)
              have huw : IntKind.u64.wrap (x + s2) = x + s2 := u64_id (by omega) (by omega)
              obtain ⟨wA, hwA⟩ : ∃ wA, wr.alloc (Obj.cells #[.int .u32 x, .int .i64 (n : Int)] 28) = wA := ⟨_, rfl⟩
              have HWA : Hid (wr.alloc (Obj.cells (E2.enc (x, (n : Int))).toArray E2.e) = wA) := hwA
              have hbA : Below wr.heap.size wr wA := by rw [← hwA]; exact (Below.refl _ wr).alloc (Nat.le_refl _) _
              have HBA : Hid (Below w.heap.size w wA) := HB.out.trans (hbA.mono HB.out.size)
              have HOA : Hid (OwnL E2 w.heap.size wA u5 xs) := HO.out.bel hbA
              have hMA : w.heap.size ≤ wA.heap.size := HBA.out.size
              have hbig : xs.length ≤ 1099511627775 := by omega
              clear hbA
              go_wp2_with (at_builtin; refine list_app1 E2 rfl _ _ 22 rfl rfl w.heap.size u5 xs (x, (n : Int)) hbig (w := wr) wA rfl HOA.out rfl hMA HWA.out.symm ?_)
              intro v' w' ho hg hat
              have HO2 : Hid (OwnL E2 w.heap.size w' v' (xs ++ [(x, (n : Int))])) := ho.out
              have HB2 : Hid (Below w.heap.size w w') := HBA.out.trans ((Below.refl _ wA).grown hg.out hMA (fun g e => (HOA.out.row.lt g e).1))
              clear ho hg hat hwA HWA
              go_wp2_with fail
              refine (size_any (n : Int) (by omega) (by omega) _).mono ?_
              rintro e w2 ⟨rfl, hw2⟩
              rw [hw2, HS2.out]
              clear hw2 w2
              go_wp2_with fail
              refine ⟨⟨x + s2, xs ++ [(x, (n : Int))], rfl, by omega, by omega, by rw [List.length_append]; simp; omega, ?_, HO2.out, HB2.out⟩, by simp [intOf]; omega⟩
              rw [HSP.out, split_cons hlt, HD.out, HS2.out]
              simp
          · have hmb : (x % sz == 0) = false := by simpa using hmod
            have HD : Hid (down x hi 32 = n) := by show _ = _; rw [HDN.out, HDS.out, if_neg (fun h => hmod h.1)]
            go_wp2_with fail
            refine (size_any (m : Int) (by omega) (by omega) _).mono ?_
            rintro e w2 ⟨rfl, hw2⟩
            rw [hw2, HSZ.out]
            clear hw2 w2
            have HFI : Hid (x + s2 ≤ hi) := by have h1 := HF.out.2; rw [HS2.out] at h1; exact h1
            have hfi : x + s2 ≤ hi := HFI.out
            have hux : IntKind.u32.wrap x = x := u32_id (by omega) (by omega)
            have huw : IntKind.u64.wrap (x + s2) = x + s2 := u64_id (by omega) (by omega)
            obtain ⟨wA, hwA⟩ : ∃ wA, wr.alloc (Obj.cells #[.int .u32 x, .int .i64 (n : Int)] 28) = wA := ⟨_, rfl⟩
            have HWA : Hid (wr.alloc (Obj.cells (E2.enc (x, (n : Int))).toArray E2.e) = wA) := hwA
            have hbA : Below wr.heap.size wr wA := by rw [← hwA]; exact (Below.refl _ wr).alloc (Nat.le_refl _) _
            have HBA : Hid (Below w.heap.size w wA) := HB.out.trans (hbA.mono HB.out.size)
            have HOA : Hid (OwnL E2 w.heap.size wA u5 xs) := HO.out.bel hbA
            have hMA : w.heap.size ≤ wA.heap.size := HBA.out.size
            have hbig : xs.length ≤ 1099511627775 := by omega
            clear hbA
            go_wp2_with (at_builtin; refine list_app1 E2 rfl _ _ 22 rfl rfl w.heap.size u5 xs (x, (n : Int)) hbig (w := wr) wA rfl HOA.out rfl hMA HWA.out.symm ?_)
            intro v' w' ho hg hat
            have HO2 : Hid (OwnL E2 w.heap.size w' v' (xs ++ [(x, (n : Int))])) := ho.out
            have HB2 : Hid (Below w.heap.size w w') := HBA.out.trans ((Below.refl _ wA).grown hg.out hMA (fun g e => (HOA.out.row.lt g e).1))
            clear ho hg hat hwA HWA
            go_wp2_with fail
            refine (size_any (n : Int) (by omega) (by omega) _).mono ?_
            rintro e w2 ⟨rfl, hw2⟩
            rw [hw2, HS2.out]
            clear hw2 w2
            go_wp2_with fail
            refine ⟨⟨x + s2, xs ++ [(x, (n : Int))], rfl, by omega, by omega, by rw [List.length_append]; simp; omega, ?_, HO2.out, HB2.out⟩, by simp [intOf]; omega⟩
            rw [HSP.out, split_cons hlt, HD.out, HS2.out]
            simp
    · obtain rfl : x = hi := by omega
      have HE : Hid (OwnL E2 w.heap.size wr u5 (split lo x)) := by
        have h1 := HSP.out
        rw [show split x x = [] from split_nil (by omega), List.append_nil] at h1
        rw [h1]
        exact HO.out
      obtain ⟨a, c, hv, -⟩ := HO.out.form
      subst hv
      go_wp2_with fail
      go_ret
      exact ⟨_, _, _, rfl, HE.out, HB.out⟩
end Go.Proofs.YtagfdmkgnedlbabDoor.Pc
