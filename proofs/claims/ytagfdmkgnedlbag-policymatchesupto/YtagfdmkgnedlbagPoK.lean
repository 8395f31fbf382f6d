/- Match, patternOne, patternTwo: what each answers. -/
import Derived.Test.YtagfdmkgnedlbagPoJ
namespace Go.Proofs.Ytagfdmkgnedlbag.Po
open Go.ChangeShapes Go.WideShapes Go.ChangeAt Go.RowKit Go.Joins Go.Proofs.Ytagfdmkgnedlbag.Ge
set_option linter.unusedVariables false

set_option maxRecDepth 100000 in
set_option maxHeartbeats 4000000 in
theorem match_any (p : Pat) (a : Option Addr) (c : Nat) (va : Option Addr) (ca : Nat) (xs : List Int) (ln : Nat) (hln : xs.length = ln) (w : World) (hbig : 2 * sz p ≤ 1099511627000) (hln2 : ln ≤ 1099511627775) (hp : PA w w.heap.size p a) (hx : Lst EI w va xs) :
    Calls Try.prog 6 #[pv p a c, .slice va ln ca] w fun e w' => e = .returned (.bool (mt p xs)) ∧ Below w.heap.size w w' := by
  have HX : Hid (Lst EI w va xs) := hx
  have HP : Hid (PA w w.heap.size p a) := hp
  obtain ⟨r, hr⟩ : ∃ r, mt p xs = r := ⟨_, rfl⟩
  have HR : Hid (r = true ↔ Lang p xs) := by show _ ↔ _; rw [← hr]; exact mt_iff p xs
  rw [hr]
  clear hr hx hp
  obtain ⟨k, n, sub⟩ := p
  obtain ⟨pl, hpl⟩ : ∃ l, sub.length = l := ⟨_, rfl⟩
  obtain ⟨w0, hw0⟩ : ∃ w0, w.alloc (Obj.cells #[.int .i64 k, .int .i64 n, .slice a pl c] 24) = w0 := ⟨_, rfl⟩
  have HB0 : Hid (Below w.heap.size w w0) := by rw [← hw0]; exact (Below.refl _ w).alloc (Nat.le_refl _) _
  have HC := machineOf_any (.mk k n sub) a c w0 hbig ((HP.out.bel HB0.out).mono HB0.out.size)
  unfold pv at HC ⊢
  dsimp only [Pat.kind, Pat.num, Pat.sub] at HC ⊢
  rw [hpl] at HC ⊢
  obtain ⟨s, hs⟩ : ∃ s, w.heap.size = s := ⟨_, rfl⟩
  have hx0 : w0.heap[s]? = some (Obj.cells #[.int .i64 k, .int .i64 n, .slice a pl c] 24) := by rw [← hw0, ← hs]; exact World.alloc_heap_new w _
  obtain ⟨x0, x1, x2⟩ := cell_three hx0
  clear hx0
  go_enter Try.func6, Try.ntmps6
  go_wp2_with fail
  refine HC.mono ?_
  rintro e w1 ⟨bm, T, b, aS, cS, rfl, hM, hB, hb1⟩
  have HB1 : Hid (Below w.heap.size w w1) := HB0.out.trans (hb1.mono HB0.out.size)
  have hTl : T.length ≤ 1099511627775 := by have := hB.few; have e : S0.length = 2 := rfl; omega
  have hT2 : 2 ≤ T.length := by have := hB.le; have e : S0.length = 2 := rfl; omega
  have HT := takes_any bm T b aS cS va ca xs ln hln w1 hTl hln2 hB.lt hT2 hM (HX.out.bel HB1.out) r (HR.out.trans (built_takes hB rfl xs).symm)
  clear hM hB hb1 HC
  go_wp2_with fail
  refine HT.mono ?_
  rintro e w2 ⟨rfl, hb2⟩
  have HB2 : Hid (Below w.heap.size w w2) := HB1.out.trans (hb2.mono HB1.out.size)
  clear hb2 HT
  go_wp2_with fail
  go_ret
  exact ⟨rfl, HB2.out⟩
theorem pa_nil (w : World) (N : Nat) (k n : Int) (a : Option Addr) : PA w N (.mk k n []) a := .mk 0 0 (fun _ => none) (fun _ => 0) (fun i h => absurd h (by simp)) (fun i h => absurd h (by simp))
/-- parts that were just laid in a list -/
theorem pa_one {w : World} {N g c : Nat} {k n : Int} {p : Pat} {a : Option Addr} (hg : g < N) (hh : w.heap[g]? = some (Obj.cells #[.int .i64 p.kind, .int .i64 p.num, .slice a p.sub.length c] 24)) (hp : PA w N p a) : PA w N (.mk k n [p]) (some ⟨g, 0, none⟩) := by
  refine .mk g 0 (fun _ => a) (fun _ => c) (fun i h => ?_) (fun i h => ?_)
  · obtain rfl : i = 0 := by simpa using h
    exact ⟨rfl, hg, (box_at hh).1, (box_at hh).1, (box_at hh).1⟩
  · obtain rfl : i = 0 := by simpa using h
    exact hp
theorem pa_two {w : World} {N g c c' : Nat} {k n : Int} {p q : Pat} {a a' : Option Addr} (hg : g < N) (hh : w.heap[g]? = some (Obj.cells #[.int .i64 p.kind, .int .i64 p.num, .slice a p.sub.length c, .int .i64 q.kind, .int .i64 q.num, .slice a' q.sub.length c'] 24)) (hp : PA w N p a) (hq : PA w N q a') : PA w N (.mk k n [p, q]) (some ⟨g, 0, none⟩) := by
  refine .mk g 0 (fun i => if i = 0 then a else a') (fun i => if i = 0 then c else c') (fun i h => ?_) (fun i h => ?_)
  · match i, h with
    | 0, _ => exact ⟨rfl, hg, (box_at hh).1, (box_at hh).1, (box_at hh).1⟩
    | 1, _ => exact ⟨rfl, hg, (box_at hh).1, (box_at hh).1, (box_at hh).1⟩
  · match i, h with
    | 0, _ => exact hp
    | 1, _ => exact hq
/-- a pattern that was made of others -/
def Pm (p : Pat) (c : Nat) (w : World) (e : Ending) (w' : World) : Prop := ∃ a, e = .returned (pv p a c) ∧ PA w' w'.heap.size p a ∧ Below w.heap.size w w'
set_option maxRecDepth 100000 in
set_option maxHeartbeats 4000000 in
theorem one_any (k : Int) (p : Pat) (a : Option Addr) (c : Nat) (w : World) (hp : PA w w.heap.size p a) :
    Calls Try.prog 11 #[.int .i64 k, pv p a c] w (Pm (.mk k 0 [p]) 1 w) := by
  have HP : Hid (PA w w.heap.size p a) := hp
  clear hp
  obtain ⟨pk, pn, ps⟩ := p
  obtain ⟨pl, hpl⟩ : ∃ l, ps.length = l := ⟨_, rfl⟩
  unfold pv
  dsimp only [Pat.kind, Pat.num, Pat.sub]
  rw [hpl]
  go_enter Try.func11, Try.ntmps11
  go_wp2_with fail
  obtain ⟨w1, hw1⟩ : ∃ w1, w.alloc (Obj.cells #[.int .i64 pk, .int .i64 pn, .slice a pl c] 24) = w1 := ⟨_, rfl⟩
  obtain ⟨s, hs⟩ : ∃ s, w.heap.size = s := ⟨_, rfl⟩
  have hs1 : w1.heap.size = s + 1 := by rw [← hw1, ← hs]; simp
  have HB1 : Hid (Below w.heap.size w w1) := by rw [← hw1]; exact (Below.refl _ w).alloc (Nat.le_refl _) _
  obtain ⟨w2, hw2⟩ : ∃ w2, w1.alloc (Obj.cells #[.int .i64 k, .int .i64 0, .slice (some ⟨s + 1 + 1, 0, none⟩) 1 1] 24) = w2 := ⟨_, rfl⟩
  have hs2 : w2.heap.size = s + 1 + 1 := by rw [← hw2, ← hs1]; simp
  have HB2 : Hid (Below w.heap.size w w2) := by rw [← hw2]; exact HB1.out.alloc HB1.out.size _
  have hr2 : w2.heap[s + 1]? = some (Obj.cells #[.int .i64 k, .int .i64 0, .slice (some ⟨s + 1 + 1, 0, none⟩) 1 1] 24) := by rw [← hw2, ← hs1]; exact World.alloc_heap_new w1 _
  obtain ⟨w3, hw3⟩ : ∃ w3, w2.alloc (Obj.cells #[.int .i64 pk, .int .i64 pn, .slice a pl c] 24) = w3 := ⟨_, rfl⟩
  have hs3 : w3.heap.size = s + 1 + 1 + 1 := by rw [← hw3, ← hs2]; simp
  have HB3 : Hid (Below w.heap.size w w3) := by rw [← hw3]; exact HB2.out.alloc HB2.out.size _
  have hr3 : w3.heap[s + 1]? = some (Obj.cells #[.int .i64 k, .int .i64 0, .slice (some ⟨s + 1 + 1, 0, none⟩) 1 1] 24) := by rw [← hw3]; exact (((Below.refl _ w2).alloc (Nat.le_refl _) _).block (s + 1) (by omega)).trans hr2
  have hx3 : w3.heap[s + 1 + 1]? = some (Obj.cells #[.int .i64 pk, .int .i64 pn, .slice a pl c] 24) := by rw [← hw3, ← hs2]; exact World.alloc_heap_new w2 _
  have HPA : Hid (PA w3 w3.heap.size (.mk k 0 [.mk pk pn ps]) (some ⟨s + 1 + 1, 0, none⟩)) := pa_one (p := .mk pk pn ps) (a := a) (c := c) (by omega) (by show w3.heap[s + 1 + 1]? = some (Obj.cells #[.int .i64 pk, .int .i64 pn, .slice a ps.length c] 24); rw [hpl]; exact hx3) ((HP.out.bel HB3.out).mono HB3.out.size)
  obtain ⟨y0, y1, y2⟩ := cell_three hr3
  rw [hw1, hs, hw2, hw3]
  refine ⟨rfl, pv (.mk k 0 [.mk pk pn ps]) (some ⟨s + 1 + 1, 0, none⟩) 1, ?_, _, rfl, HPA.out, HB3.out⟩
  unfold pv
  simp [results, Try.results11, go_sem, y0, y1, y2, Pat.kind, Pat.num, Pat.sub]
set_option maxRecDepth 100000 in
set_option maxHeartbeats 4000000 in
theorem two_any (k : Int) (p q : Pat) (a a' : Option Addr) (c c' : Nat) (w : World) (hp : PA w w.heap.size p a) (hq : PA w w.heap.size q a') :
    Calls Try.prog 10 #[.int .i64 k, pv p a c, pv q a' c'] w (Pm (.mk k 0 [p, q]) 2 w) := by
  have HP : Hid (PA w w.heap.size p a) := hp
  have HQ : Hid (PA w w.heap.size q a') := hq
  clear hp hq
  obtain ⟨pk, pn, ps⟩ := p
  obtain ⟨pl, hpl⟩ : ∃ l, ps.length = l := ⟨_, rfl⟩
  obtain ⟨qk, qn, qs⟩ := q
  obtain ⟨ql, hql⟩ : ∃ l, qs.length = l := ⟨_, rfl⟩
  unfold pv
  dsimp only [Pat.kind, Pat.num, Pat.sub]
  rw [hpl, hql]
  go_enter Try.func10, Try.ntmps10
  go_wp2_with fail
  obtain ⟨s, hs⟩ : ∃ s, w.heap.size = s := ⟨_, rfl⟩
  obtain ⟨w1, hw1⟩ : ∃ w1, w.alloc (Obj.cells #[.int .i64 pk, .int .i64 pn, .slice a pl c] 24) = w1 := ⟨_, rfl⟩
  have hs1 : w1.heap.size = s + 1 := by rw [← hw1, ← hs]; simp
  have HB1 : Hid (Below w.heap.size w w1) := by rw [← hw1]; exact (Below.refl _ w).alloc (Nat.le_refl _) _
  obtain ⟨w2, hw2⟩ : ∃ w2, w1.alloc (Obj.cells #[.int .i64 qk, .int .i64 qn, .slice a' ql c'] 24) = w2 := ⟨_, rfl⟩
  have hs2 : w2.heap.size = s + 1 + 1 := by rw [← hw2, ← hs1]; simp
  have HB2 : Hid (Below w.heap.size w w2) := by rw [← hw2]; exact HB1.out.alloc HB1.out.size _
  obtain ⟨w3, hw3⟩ : ∃ w3, w2.alloc (Obj.cells #[.int .i64 k, .int .i64 0, .slice (some ⟨s + 1 + 1 + 1, 0, none⟩) 2 2] 24) = w3 := ⟨_, rfl⟩
  have hs3 : w3.heap.size = s + 1 + 1 + 1 := by rw [← hw3, ← hs2]; simp
  have HB3 : Hid (Below w.heap.size w w3) := by rw [← hw3]; exact HB2.out.alloc HB2.out.size _
  have hr3 : w3.heap[s + 1 + 1]? = some (Obj.cells #[.int .i64 k, .int .i64 0, .slice (some ⟨s + 1 + 1 + 1, 0, none⟩) 2 2] 24) := by rw [← hw3, ← hs2]; exact World.alloc_heap_new w2 _
  obtain ⟨w4, hw4⟩ : ∃ w4, w3.alloc (Obj.cells #[.int .i64 pk, .int .i64 pn, .slice a pl c, .int .i64 qk, .int .i64 qn, .slice a' ql c'] 24) = w4 := ⟨_, rfl⟩
  have hs4 : w4.heap.size = s + 1 + 1 + 1 + 1 := by rw [← hw4, ← hs3]; simp
  have HB4 : Hid (Below w.heap.size w w4) := by rw [← hw4]; exact HB3.out.alloc HB3.out.size _
  have hr4 : w4.heap[s + 1 + 1]? = some (Obj.cells #[.int .i64 k, .int .i64 0, .slice (some ⟨s + 1 + 1 + 1, 0, none⟩) 2 2] 24) := by rw [← hw4]; exact (((Below.refl _ w3).alloc (Nat.le_refl _) _).block (s + 1 + 1) (by omega)).trans hr3
  have hx4 : w4.heap[s + 1 + 1 + 1]? = some (Obj.cells #[.int .i64 pk, .int .i64 pn, .slice a pl c, .int .i64 qk, .int .i64 qn, .slice a' ql c'] 24) := by rw [← hw4, ← hs3]; exact World.alloc_heap_new w3 _
  have HPA : Hid (PA w4 w4.heap.size (.mk k 0 [.mk pk pn ps, .mk qk qn qs]) (some ⟨s + 1 + 1 + 1, 0, none⟩)) := pa_two (p := .mk pk pn ps) (q := .mk qk qn qs) (a := a) (a' := a') (c := c) (c' := c') (by omega) (by show w4.heap[s + 1 + 1 + 1]? = some (Obj.cells #[.int .i64 pk, .int .i64 pn, .slice a ps.length c, .int .i64 qk, .int .i64 qn, .slice a' qs.length c'] 24); rw [hpl, hql]; exact hx4) ((HP.out.bel HB4.out).mono HB4.out.size) ((HQ.out.bel HB4.out).mono HB4.out.size)
  obtain ⟨y0, y1, y2⟩ := cell_three hr4
  rw [hw1, hw2, hs, hw3, hw4]
  refine ⟨rfl, pv (.mk k 0 [.mk pk pn ps, .mk qk qn qs]) (some ⟨s + 1 + 1 + 1, 0, none⟩) 2, ?_, _, rfl, HPA.out, HB4.out⟩
  unfold pv
  simp [results, Try.results10, go_sem, y0, y1, y2, Pat.kind, Pat.num, Pat.sub]
end Go.Proofs.Ytagfdmkgnedlbag.Po
