/- A row of offers that is turned: one number, or a whole offer. -/
import Derived.Test.YtkahjibdmhaglaaChX
import Derived.Test.YtkahjibdmhaglaaChY
import Derived.Test.YtkahjibdmhaglaaChZ
import Derived.Deep.MidRow
namespace Go.Proofs.Ytkahjibdmhaglaa.Ch
open Go.ChangeShapes Go.WideShapes Go.ChangeAt Go.RowKit Go.Joins Go.Deep Go.Proofs.Ytkahjibdmhaglaa.Ge
set_option linter.unusedVariables false
set_option linter.unusedSimpArgs false

structure RowO (g : Nat) (ys : List (Of × Oa)) (W : World) : Prop where
  lt : g < W.heap.size
  rg : ∀ i (h : i < ys.length), W.rangeAt g (i * 13) (ofL ys[i].1 ys[i].2)
  th : ∀ i, i < ys.length → W.there g (i * 13) 13
theorem RowO.of_own {N g n c : Nat} {W : World} {ys : List (Of × Oa)} (h : Gm.OwnL EO N W (.slice (some ⟨g, 0, none⟩) n c) ys) : RowO g ys W := by
  obtain ⟨h1, h2, h3, -⟩ := h.at0
  have hc : ∀ i (hi : i < ys.length) j, j < 13 → W.cell? ⟨g, i * 13 + j, none⟩ = (ofL ys[i].1 ys[i].2)[j]? := fun i hi j hj => h1 i hi j hj
  refine ⟨h3, fun i hi j v hv => ?_, fun i hi j hj => ⟨?_, h2 _⟩⟩
  · have hj : j < 13 := by
      have := (List.getElem?_eq_some_iff.1 hv).1
      exact this
    rw [hc i hi j hj]; exact hv
  · rw [hc i hi j hj, List.getElem?_eq_getElem (show j < (ofL ys[i].1 ys[i].2).length from hj)]
    rfl
theorem RowO.lst {g : Nat} {W : World} {ys : List (Of × Oa)} (h : RowO g ys W) (hs : ys.length ≤ 1000) : Gm.Lst EO W (some ⟨g, 0, none⟩) ys := ⟨by omega, fun i hi => ⟨g, 0, rfl, h.lt, fun j hj => by
  have hj2 : j < (ofL ys[i].1 ys[i].2).length := hj
  rw [Nat.zero_add]
  show W.cell? ⟨g, i * 13 + j, none⟩ = (ofL ys[i].1 ys[i].2)[j]?
  rw [List.getElem?_eq_getElem hj2]
  exact h.rg i hi j _ (List.getElem?_eq_getElem hj2)⟩⟩
theorem RowO.bel {g : Nat} {W W' : World} {ys : List (Of × Oa)} (h : RowO g ys W) (hb : Below W.heap.size W W') : RowO g ys W' := by
  have e := hb.block g h.lt
  refine ⟨Nat.lt_of_lt_of_le h.lt hb.size, fun i hi j v hv => ?_, fun i hi j hj => ?_⟩
  · exact (World.cell?_of_block (w := W) e).trans (h.rg i hi j v hv)
  · have h5 := h.th i hi j hj
    unfold World.cell? World.frozen? at h5 ⊢
    rw [e]
    exact h5
theorem RowO.set {g i : Nat} {W : World} {ys : List (Of × Oa)} (h : RowO g ys W) (hi : i < ys.length) (q : Of × Oa) : RowO g (ys.set i q) (W.setCells g (i * 13) (ofL q.1 q.2)) := by
  have hl : (ofL q.1 q.2).length = 13 := rfl
  refine ⟨by rw [(ko_cells g _ _ _).size]; exact h.lt, fun k hk => ?_, fun k hk => ?_⟩
  · rw [List.length_set] at hk
    by_cases e : k = i
    · subst e
      rw [List.getElem_set_self]
      exact World.rangeAt_setCells_same _ _ _ _ (h.th k hi)
    · have e1 : (ys.set i q)[k]'(by rw [List.length_set]; exact hk) = ys[k] := by rw [List.getElem_set_ne (Ne.symm e)]
      rw [e1]
      refine World.rangeAt_setCells_apart (h.rg k hk) _ _ _ (.inr ?_)
      have h13 : (ofL ys[k].1 ys[k].2).length = 13 := rfl
      rw [hl, h13]
      rcases Nat.lt_or_gt_of_ne e with h5 | h5
      · exact .inl (by omega)
      · exact .inr (by omega)
  · rw [List.length_set] at hk
    exact World.there_setCells (h.th k hk) _ _ _
/-- copies in a row at g -/
structure Cq (N g : Nat) (W : World) (ys : List (Of × Oa)) : Prop where
  row : RowO g ys W
  ok : ∀ q ∈ ys, OcOk N W q.1 q.2
  ap : ∀ q ∈ ys, ¬ InL g q.1 q.2
  bd : ∀ q ∈ ys, Bd q.1
theorem Cps.cq {N g n c : Nat} {W : World} {ys : List (Of × Oa)} (h : Cps N W (.slice (some ⟨g, 0, none⟩) n c) ys) : Cq N g W ys := ⟨RowO.of_own h.own, h.ok, fun q hq => h.ap q hq g rfl, h.bd⟩
theorem Cq.bel {N g : Nat} {W W' : World} {ys : List (Of × Oa)} (h : Cq N g W ys) (hb : Below W.heap.size W W') : Cq N g W' ys := ⟨h.row.bel hb, fun q hq => (h.ok q hq).bel hb, h.ap, h.bd⟩
theorem Cq.oks {N g : Nat} {W : World} {ys : List (Of × Oa)} (h : Cq N g W ys) : ∀ q ∈ ys, OfOk W 1048576 q.1 q.2 := fun q hq => (h.ok q hq).ok (h.bd q hq)
theorem Cq.set {N g i : Nat} {W : World} {ys : List (Of × Oa)} (h : Cq N g W ys) (hi : i < ys.length) {q : Of × Oa} (hq : OcOk N W q.1 q.2) (hqa : ¬ InL g q.1 q.2) (hqb : Bd q.1) : Cq N g (W.setCells g (i * 13) (ofL q.1 q.2)) (ys.set i q) := by
  have hk := ko_cells g (ofL q.1 q.2) (i * 13) W
  have hall : ∀ p ∈ ys.set i q, OcOk N W p.1 p.2 ∧ ¬ InL g p.1 p.2 ∧ Bd p.1 := fun p hp => by
    rcases List.mem_or_eq_of_mem_set hp with h1 | rfl
    · exact ⟨h.ok p h1, h.ap p h1, h.bd p h1⟩
    · exact ⟨hq, hqa, hqb⟩
  exact ⟨h.row.set hi q, fun p hp => (hall p hp).1.blk (fun b e => hk.block b (fun e2 => (hall p hp).2.1 (e2 ▸ e))), fun p hp => (hall p hp).2.1, fun p hp => (hall p hp).2.2⟩
/-- the peer alone is turned -/
theorem Cq.peer {N g i : Nat} {W : World} {ys : List (Of × Oa)} (h : Cq N g W ys) (hi : i < ys.length) (p : Int) : Cq N g (W.setCell ⟨g, i * 13 + 10, none⟩ (.int .i64 p)) (ys.set i ({ ys[i].1 with peer := p }, ys[i].2)) := by
  have hk := Ko.set W g (i * 13 + 10) (.int .i64 p)
  have hm := List.getElem_mem hi
  have hall : ∀ q ∈ ys.set i ({ ys[i].1 with peer := p }, ys[i].2), OcOk N W q.1 q.2 ∧ ¬ InL g q.1 q.2 ∧ Bd q.1 := fun q hq => by
    rcases List.mem_or_eq_of_mem_set hq with h1 | rfl
    · exact ⟨h.ok q h1, h.ap q h1, h.bd q h1⟩
    · have o := h.ok _ hm
      have b := h.bd _ hm
      exact ⟨⟨o.p, o.m, o.c⟩, (show ¬ InL g ys[i].1 ys[i].2 from h.ap _ hm), ⟨b.bp, b.bm, b.bc, b.org, b.pref⟩⟩
  refine ⟨⟨by rw [hk.size]; exact h.row.lt, fun k hkl j v hv => ?_, fun k hkl j hj => ?_⟩, fun q hq => (hall q hq).1.blk (fun b e => hk.block b (fun e2 => (hall q hq).2.1 (e2 ▸ e))), fun q hq => (hall q hq).2.1, fun q hq => (hall q hq).2.2⟩
  · rw [List.length_set] at hkl
    have hj : j < 13 := (List.getElem?_eq_some_iff.1 hv).1
    by_cases e : k = i ∧ j = 10
    · obtain ⟨rfl, rfl⟩ := e
      rw [List.getElem_set_self] at hv
      have h9 := (h.row.th k hi 10 (by decide)).1
      obtain ⟨u, hu⟩ := Option.isSome_iff_exists.1 h9
      rw [World.cell?_setCell_same _ _ _ hu]
      exact hv
    · rw [World.cell?_setCell_other _ _ _ _ (by intro e'; simp only [Addr.mk.injEq] at e'; omega)]
      refine h.row.rg k hkl j v ?_
      by_cases e2 : k = i
      · subst e2
        rw [List.getElem_set_self] at hv
        rw [← hv]
        rcases j with _ | _ | _ | _ | _ | _ | _ | _ | _ | _ | _ | _ | _ | j
        all_goals first | rfl | omega
      · rw [List.getElem_set_ne (Ne.symm e2)] at hv
        exact hv
  · rw [List.length_set] at hkl
    have h9 := h.row.th k hkl j hj
    refine ⟨?_, by rw [World.frozen?_setCell]; exact h9.2⟩
    obtain ⟨u, hu⟩ := Option.isSome_iff_exists.1 h9.1
    by_cases e : (⟨g, i * 13 + 10, none⟩ : Addr) = ⟨g, k * 13 + j, none⟩
    · rw [e, World.cell?_setCell_same _ _ _ hu]; rfl
    · rw [World.cell?_setCell_other _ _ _ _ e, hu]; rfl
theorem perm_swap {α : Type} (l : List α) {p q : Nat} (hp : p < l.length) (hq : q < l.length) : ((l.set p l[q]).set q l[p]).Perm l := Go.Sort.perm_set_set l p q hp hq
end Go.Proofs.Ytkahjibdmhaglaa.Ch
