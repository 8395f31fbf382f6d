/- PolicyMatches' law: what it answers. -/
import Derived.Test.YtagfdmkgnedlbagPoK
import Derived.Test.YtagfdmkgnedlbagPoO
import Derived.Test.YtagfdmkgnedlbagPoQ
import Derived.Test.YtagfdmkgnedlbagPoR
namespace Go.Proofs.Ytagfdmkgnedlbag.Po
open Go.ChangeShapes Go.WideShapes Go.ChangeAt Go.RowKit Go.Joins Go.Proofs.Ytagfdmkgnedlbag.Ge
set_option linter.unusedVariables false

set_option maxRecDepth 100000 in
set_option maxHeartbeats 4000000 in
theorem matches_any (p : Pat) (a : Option Addr) (c : Nat) (va : Option Addr) (ca : Nat) (xs : List Int) (ln : Nat) (hln : xs.length = ln) (w : World) (hbp : sz p ≤ 1048576) (hln2 : ln ≤ 1048576) (hp : PA w w.heap.size p a) (hx : Lst EI w va xs) (hnil : va = none → ln = 0 ∧ ca = 0) :
    Calls Try.prog 3 #[pv p a c, .slice va ln ca] w fun e w' => e = .returned (.bool true) ∧ Below w.heap.size w w' := by
  have HX : Hid (Lst EI w va xs) := hx
  have HP : Hid (PA w w.heap.size p a) := hp
  have HLN : Hid (xs.length = ln) := hln
  have HNL : Hid (va = none → ln = 0 ∧ ca = 0) := hnil
  have HCC : Hid (Cc p) := pcopy_any _ p (Nat.le_refl _) hbp
  have HSC : Hid (Sc p) := psame_any _ p (Nat.le_refl _) hbp
  have HEC : Hid (Ec p) := ends_any _ p (Nat.le_refl _)
  clear hx hp hln hnil
  obtain ⟨k, n, sub⟩ := p
  obtain ⟨pl, hpl⟩ : ∃ l, sub.length = l := ⟨_, rfl⟩
  obtain ⟨s, hs⟩ : ∃ s, w.heap.size = s := ⟨_, rfl⟩
  obtain ⟨w0, hw0⟩ : ∃ w0, w.alloc (Obj.cells #[.int .i64 k, .int .i64 n, .slice a pl c] 24) = w0 := ⟨_, rfl⟩
  have HX0 : Hid (w0.heap[s]? = some (Obj.cells #[.int .i64 k, .int .i64 n, .slice a pl c] 24)) := by rw [← hw0, ← hs]; exact World.alloc_heap_new w _
  have hs0 : w0.heap.size = s + 1 := by rw [← hw0, ← hs]; simp
  have HB0 : Hid (Below w.heap.size w w0) := by rw [← hw0]; exact (Below.refl _ w).alloc (Nat.le_refl _) _
  have HKE : Hid (∀ W, Below w0.heap.size w0 W → Below w.heap.size w W) := fun W h => HB0.out.trans (h.mono HB0.out.size)
  have HPP : Hid (∀ W, Below w0.heap.size w0 W → PA W W.heap.size (.mk k n sub) a) := fun W h => (HP.out.bel (HKE.out W h)).mono (HKE.out W h).size
  have HXX : Hid (∀ W, Below w0.heap.size w0 W → Lst EI W va xs) := fun W h => HX.out.bel (HKE.out W h)
  have HC1 : Hid (∀ W, Below w0.heap.size w0 W → W.cell? ⟨s, 0, none⟩ = some (.int .i64 k) ∧ W.cell? ⟨s, 1, none⟩ = some (.int .i64 n) ∧ W.cell? ⟨s, 2, none⟩ = some (.slice a pl c)) := fun W h => cell_three ((h.block s (by omega)).trans HX0.out)
  obtain ⟨x0, x1, x2⟩ := HC1.out w0 (Below.refl _ _)
  have HC := HCC.out a c w0 (HPP.out w0 (Below.refl _ _))
  unfold pv at HC ⊢
  dsimp only [Pat.kind, Pat.num, Pat.sub] at HC ⊢
  rw [hpl] at HC ⊢
  go_enter Try.func3, Try.ntmps3
  go_wp2_with fail
  refine HC.mono ?_
  rintro e w1 ⟨a', c', rfl, hpr, hb1⟩
  have HE1 : Hid (Below w0.heap.size w0 w1) := hb1
  have HPR : Hid (PA w1 w1.heap.size (.mk k n sub) a') := hpr.pa
  clear hpr hb1 HC x0 x1 x2
  go_upto_region 2 with fail
  obtain ⟨sm, hsm⟩ : ∃ z, w1.heap.size = z := ⟨_, rfl⟩
  obtain ⟨w2, hw2⟩ : ∃ W, w1.alloc (Obj.cells #[.int .i64 k, .int .i64 n, .slice a' pl c'] 24) = W := ⟨_, rfl⟩
  have hs2 : w2.heap.size = sm + 1 := by rw [← hw2, ← hsm]; simp
  have HXM : Hid (w2.heap[sm]? = some (Obj.cells #[.int .i64 k, .int .i64 n, .slice a' pl c'] 24)) := by rw [← hw2, ← hsm]; exact World.alloc_heap_new w1 _
  have HB12 : Hid (Below w1.heap.size w1 w2) := by rw [← hw2]; exact (Below.refl _ w1).alloc (Nat.le_refl _) _
  have HE2 : Hid (Below w0.heap.size w0 w2) := HE1.out.trans (HB12.out.mono HE1.out.size)
  obtain ⟨w3, hw3⟩ : ∃ W, w2.alloc (Obj.cells #[] 3) = W := ⟨_, rfl⟩
  obtain ⟨ho3, hb3⟩ := own_made0 EI hw3
  rw [hs2] at ho3
  have HO3 : Hid (OwnL EI (sm + 1) w3 (.slice (some ⟨sm + 1, 0, none⟩) 0 0) []) := ho3
  have HB23 : Hid (Below w2.heap.size w2 w3) := hb3
  have HE3 : Hid (Below w0.heap.size w0 w3) := HE2.out.trans (HB23.out.mono HE2.out.size)
  have hs3 : w3.heap.size = sm + 1 + 1 := by rw [← hw3, ← hs2]; simp
  clear ho3 hb3
  rw [hsm, hw2]
  go_wp2_with (at_builtin; refine list_appL EI rfl _ _ 25 rfl rfl (sm + 1) (.slice (some ⟨sm + 1, 0, none⟩) 0 0) [] xs va ln ca w3 (by simp; omega) rfl HO3.out rfl (HXX.out w3 HE3.out) HNL.out HLN.out (by omega) ?_)
  intro v4 w4 ho4 hg4 hat4
  have HO4 : Hid (OwnL EI (sm + 1) w4 v4 xs) := ho4.out
  have HB34 : Hid (Below (sm + 1) w3 w4) := (Below.refl _ w3).grown hg4.out (by omega) (fun g e => by cases e; exact Nat.le_refl _)
  have HB24 : Hid (Below w2.heap.size w2 w4) := HB23.out.trans (by rw [hs2]; exact HB34.out)
  clear ho4 hg4 hat4 hw3
  obtain ⟨s4, hs4⟩ : ∃ z, w4.heap.size = z := ⟨_, rfl⟩
  have hs24 : sm + 1 ≤ s4 := by have := HB24.out.size; omega
  obtain ⟨w5, hw5⟩ : ∃ W, w4.alloc (Obj.cells #[.int .i64 5, .int .i64 5] 3) = W := ⟨_, rfl⟩
  obtain ⟨ho5, hb5⟩ := own_made EI [5, 5] 2 rfl (by decide) hw5
  have HL5 : Hid (Lst EI w5 (some ⟨s4, 0, none⟩) [5, 5]) := by rw [← hs4]; exact ho5.lst.1
  have HB45 : Hid (Below w4.heap.size w4 w5) := hb5
  have HO5 : Hid (OwnL EI (sm + 1) w5 v4 xs) := HO4.out.bel HB45.out
  have h45 : sm + 1 ≤ w5.heap.size := by have := HB45.out.size; omega
  clear ho5 hb5
  go_wp2_with (at_builtin; refine list_appL EI rfl _ _ 25 rfl rfl (sm + 1) v4 xs [5, 5] (some ⟨s4, 0, none⟩) 2 2 w5 (by rw [HLN.out]; omega) rfl HO5.out rfl HL5.out (fun e => by cases e) rfl h45 ?_)
  intro v6 w6 ho6 hg6 hat6
  have HB56 : Hid (Below (sm + 1) w5 w6) := (Below.refl _ w5).grown hg6.out h45 (fun g e => (HO5.out.row.lt g e).1)
  have HB26 : Hid (Below w2.heap.size w2 w6) := by
    rw [hs2]
    exact (HB24.out.mono (by omega)).trans ((HB45.out.mono (by omega)).trans HB56.out)
  have h26 : sm + 1 ≤ w6.heap.size := by have := HB26.out.size; omega
  obtain ⟨a6, c6, hv6, hc6, hn6, -⟩ := ho6.out.form
  have hl6 : (xs ++ [5, 5]).length = ln + 2 := by rw [List.length_append, HLN.out]; rfl
  obtain ⟨l6, hl6'⟩ : ∃ z, ln + 2 = z := ⟨_, rfl⟩
  rw [hl6, hl6'] at hv6 hc6 hn6
  subst hv6
  have HL6 : Hid (Lst EI w6 a6 (xs ++ [5, 5])) := ho6.out.lst.1
  obtain ⟨g, o, rfl, hg, h5⟩ := ei_get HL6.out (i := ln) (by rw [hl6]; omega)
  have e5 : (xs ++ [5, 5])[ln]'(by rw [hl6]; omega) = 5 := by
    have := HLN.out
    subst this
    simp
  rw [e5] at h5
  have HT6 : Hid (Lst EI w6 (some ⟨g, o, none⟩) xs) := by
    have h := HL6.out.take ln
    rw [← HLN.out, List.take_left] at h
    exact h
  have HC5 : Hid (∀ W, Below w6.heap.size w6 W → W.cell? ⟨g, o + ln, none⟩ = some (.int .i64 5)) := fun W h => by
    obtain ⟨b2, o2, e2, -, h2⟩ := ei_get (HL6.out.bel h) (i := ln) (by rw [hl6]; omega)
    cases e2
    rw [e5] at h2
    exact h2
  have HE6 : Hid (∀ W, Below w6.heap.size w6 W → Below w0.heap.size w0 W) := fun W h => HE2.out.trans ((HB26.out.trans (h.mono HB26.out.size)).mono HE2.out.size)
  have HM6 : Hid (∀ W, Below w6.heap.size w6 W → PA W W.heap.size (.mk k n sub) a') := fun W h => by
    have hb : Below w1.heap.size w1 W := HB12.out.trans ((HB26.out.trans (h.mono HB26.out.size)).mono HB12.out.size)
    exact (HPR.out.bel hb).mono hb.size
  have HC2 : Hid (∀ W, Below w6.heap.size w6 W → W.cell? ⟨sm, 0, none⟩ = some (.int .i64 k) ∧ W.cell? ⟨sm, 1, none⟩ = some (.int .i64 n) ∧ W.cell? ⟨sm, 2, none⟩ = some (.slice a' pl c')) := fun W h => cell_three (((HB26.out.trans (h.mono HB26.out.size)).block sm (by omega)).trans HXM.out)
  obtain ⟨r, hr⟩ : ∃ b, mt (.mk k n sub) xs = b := ⟨_, rfl⟩
  have HR : Hid (mt (.mk k n sub) xs = r) := hr
  have HMT : Hid (∀ W, Below w6.heap.size w6 W → Calls Try.prog 6 #[.agg #[.int .i64 k, .int .i64 n, .slice a' pl c'], .slice (some ⟨g, o, none⟩) ln c6] W fun e w' => e = .returned (.bool r) ∧ Below W.heap.size W w') := fun W h => by
    have := match_any (.mk k n sub) a' c' (some ⟨g, o, none⟩) c6 xs ln HLN.out W (by omega) (by omega) (HM6.out W h) (HT6.out.bel h)
    unfold pv at this
    dsimp only [Pat.kind, Pat.num, Pat.sub] at this
    rw [hpl, HR.out] at this
    exact this
  have HPM : Hid (∀ W, Below w6.heap.size w6 W → Calls Try.prog 7 #[.agg #[.int .i64 k, .int .i64 n, .slice a pl c], .slice va ln ca] W fun e w' => e = .returned (.bool r) ∧ Below W.heap.size W w') := fun W h => by
    have := polmatch_any (.mk k n sub) HEC.out xs ln a va c ca W HLN.out hln2 hbp (HPP.out W (HE6.out W h)) (HXX.out W (HE6.out W h))
    unfold pv at this
    dsimp only [Pat.kind, Pat.num, Pat.sub] at this
    rw [hpl, HR.out] at this
    exact this
  have HSM : Hid (∀ W, Below w6.heap.size w6 W → Calls Try.prog 8 #[.agg #[.int .i64 k, .int .i64 n, .slice a' pl c'], .agg #[.int .i64 k, .int .i64 n, .slice a pl c]] W fun e w' => e = .returned (.bool true) ∧ Below W.heap.size W w') := fun W h => by
    have := HSC.out a' a c' c W (HM6.out W h) (HPP.out W (HE6.out W h))
    unfold pv at this
    dsimp only [Pat.kind, Pat.num, Pat.sub] at this
    rw [hpl] at this
    exact this
  have HIN : Hid (∀ W, Below w6.heap.size w6 W → Calls Try.prog 9 #[.slice (some ⟨g, o, none⟩) ln c6, .slice va ln ca] W fun e w' => e = .returned (.bool true) ∧ Below W.heap.size W w') := fun W h =>
    ints_any (some ⟨g, o, none⟩) va c6 ca xs ln HLN.out W (HT6.out.bel h) (HXX.out W (HE6.out W h))
  have HDR : Hid (Below w6.heap.size w6 w6.drew) := drewB w6
  have HFIN : Hid (∀ W, Below w6.heap.size w6 W → Below w.heap.size w W) := fun W h => HKE.out W (HE6.out W h)
  obtain ⟨x0, x1, x2⟩ := HC1.out w6 (HE6.out w6 (Below.refl _ _))
  obtain ⟨y0, y1, y2⟩ := HC2.out w6 (Below.refl _ _)
  have hlc : (ln : Int) ≤ c6 := by omega
  have hlc' : ln ≤ c6 := by omega
  have hll : (ln : Int) < l6 := by omega
  have hln0 : (0 : Int) ≤ ln := by omega
  clear ho6 hg6 hat6 hw5 hl6 hr e5 hn6 HL6 HB56 HO5 HB45 HL5 HO4 HB34 HB24 HO3 HB23 hs2 hw2 hs0 hw0 hbp
  go_upto_region 3 with fail
  clear HX HLN HNL HP HCC HSC HEC HX0 HB0 HKE HPP HXX HE1 HPR HXM HB12 HE2 HE3 HB26 HT6 HM6 HR hpl hs hsm hs3 hs4 hs24 h45 h26 hl6' hln2 hc6 hg
  cases r
  all_goals
    go_region_held3 (fun W => (W.cell? ⟨s, 0, none⟩ = some (.int .i64 k) ∧ W.cell? ⟨s, 1, none⟩ = some (.int .i64 n) ∧ W.cell? ⟨s, 2, none⟩ = some (.slice a pl c)) ∧ (W.cell? ⟨sm, 0, none⟩ = some (.int .i64 k) ∧ W.cell? ⟨sm, 1, none⟩ = some (.int .i64 n) ∧ W.cell? ⟨sm, 2, none⟩ = some (.slice a' pl c')) ∧ W.cell? ⟨g, o + ln, none⟩ = some (.int .i64 5)) (first | (simp [go_sem, x0, x1, x2, y0, y1, y2, h5]; done) | (refine ⟨⟨?_, ?_, ?_⟩, ⟨?_, ?_, ?_⟩, ?_⟩ <;> assumption) | go_keep)
      (first
        | (go_at_call_of 6 (Value.agg #[.int .i64 k, .int .i64 n, .slice a' pl c']); refine (HMT.out _ HDR.out).mono ?_; rintro e w7 ⟨rfl, hb7⟩; have HF7 : Hid (Below w6.heap.size w6 w7) := HDR.out.trans (hb7.mono HDR.out.size); obtain ⟨u70, u71, u72⟩ := HC1.out w7 (HE6.out w7 HF7.out); obtain ⟨v70, v71, v72⟩ := HC2.out w7 HF7.out; have f75 := HC5.out w7 HF7.out; clear hb7)
        | (go_at_call_of 7 (Value.agg #[.int .i64 k, .int .i64 n, .slice a pl c]); refine (HPM.out _ HF7.out).mono ?_; rintro e w8 ⟨rfl, hb8⟩; have HF8 : Hid (Below w6.heap.size w6 w8) := HF7.out.trans (hb8.mono HF7.out.size); obtain ⟨u80, u81, u82⟩ := HC1.out w8 (HE6.out w8 HF8.out); obtain ⟨v80, v81, v82⟩ := HC2.out w8 HF8.out; have f85 := HC5.out w8 HF8.out; clear hb8)
        | (go_at_call_of 8 (Value.agg #[.int .i64 k, .int .i64 n, .slice a' pl c']); refine (HSM.out _ HF8.out).mono ?_; rintro e w9 ⟨rfl, hb9⟩; have HF9 : Hid (Below w6.heap.size w6 w9) := HF8.out.trans (hb9.mono HF8.out.size); obtain ⟨u90, u91, u92⟩ := HC1.out w9 (HE6.out w9 HF9.out); obtain ⟨v90, v91, v92⟩ := HC2.out w9 HF9.out; have f95 := HC5.out w9 HF9.out; clear hb9)
        | (go_at_call_of 9 (Value.slice (some ⟨g, o, none⟩) ln c6); refine (HIN.out _ HF9.out).mono ?_; rintro e w10 ⟨rfl, hb10⟩; have HF10 : Hid (Below w6.heap.size w6 w10) := HF9.out.trans (hb10.mono HF9.out.size); obtain ⟨u100, u101, u102⟩ := HC1.out w10 (HE6.out w10 HF10.out); obtain ⟨v100, v101, v102⟩ := HC2.out w10 HF10.out; have f105 := HC5.out w10 HF10.out; clear hb10))
    go_wp2_with fail
    go_ret
    exact ⟨rfl, HFIN.out _ HF10.out⟩
end Go.Proofs.Ytagfdmkgnedlbag.Po
