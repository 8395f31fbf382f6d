/- what Paths and then spfAt tell. -/
import Derived.Test.YthhdpfgepjmgkaaDkO
namespace Go.Proofs.Ythhdpfgepjmgkaa.Dj
open Go.ChangeShapes Go.WideShapes Go.ChangeAt Go.RowKit Go.Joins Go.Deep Go.Proofs.Ythhdpfgepjmgkaa.Ge
set_option linter.unusedVariables false
set_option linter.unusedSimpArgs false

theorem pa_len {es vs : List Ed} {root : Int} {f : Kw} {rs : List Rc} (hnet : Net es vs root f) (hpw : rs.Pairwise (fun p q => p.n < q.n)) (hkn : ∀ v d ls, f v = some (d, ls) ↔ ∃ q ∈ rs, q.n = v ∧ q.d = d ∧ q.ls = ls) : rs.length ≤ es.length + 1 := by
  have h1 : (rs.map (·.n)).length ≤ (root :: es.map (·.t)).length := nodup_le _ _ (by
    rw [List.nodup_iff_pairwise_ne, List.pairwise_map]
    exact hpw.imp (fun h => by omega)) (fun v hv => by
    obtain ⟨q, hq, rfl⟩ := List.mem_map.1 hv
    obtain ⟨⟨p, hp, -⟩, -⟩ := (hnet.td q.n q.d q.ls ((hkn _ _ _).2 ⟨q, hq, rfl, rfl, rfl⟩)).sh
    rcases isP_end p _ _ hp with c | ⟨e, he, c⟩
    · rw [c]; exact List.mem_cons_self
    · exact List.mem_cons_of_mem _ (List.mem_map.2 ⟨e, (lastE_some ((hnet.vm e).1 he)).1, c⟩))
  rw [List.length_map, List.length_cons, List.length_map] at h1
  exact h1
/-- what Paths and then spfAt tell -/
def Tl (N : Nat) (es : List Ed) (fr to : Int) (q : Rc) (ok : Bool) (W : World) : Prop := ∃ vs f, Net es vs fr f ∧ (ok = true → f to = some (q.d, q.ls) ∧ Lst EI W q.a q.ls ∧ ∀ b o s, q.a = some ⟨b, o, s⟩ → N ≤ b ∧ b < W.heap.size) ∧ (ok = false → f to = none)
theorem Tl.bel {N : Nat} {es : List Ed} {fr to : Int} {q : Rc} {ok : Bool} {W W' : World} (h : Tl N es fr to q ok W) (hb : Below W.heap.size W W') : Tl N es fr to q ok W' := by
  obtain ⟨vs, f, h1, h2, h3⟩ := h
  exact ⟨vs, f, h1, fun c => ⟨(h2 c).1, (h2 c).2.1.bel hb, fun b o s e => ⟨((h2 c).2.2 b o s e).1, Nat.lt_of_lt_of_le ((h2 c).2.2 b o s e).2 hb.size⟩⟩, h3⟩
theorem tell_of {es vs : List Ed} {fr to : Int} {f : Kw} {w W W' : World} {rs : List Rc} {q : Rc} {ok : Bool} (hn : Net es vs fr f) (hkn : ∀ v d ls, f v = some (d, ls) ↔ ∃ q ∈ rs, q.n = v ∧ q.d = d ∧ q.ls = ls) (hws : Ws w rs W) (hb : Below W.heap.size W W') (h1 : ok = true → q ∈ rs ∧ q.n = to) (h2 : ok = false → q = zr ∧ ∀ x ∈ rs, x.n ≠ to) : Tl w.heap.size es fr to q ok W' := by
  refine ⟨vs, f, hn, fun c => ⟨(hkn _ _ _).2 ⟨q, (h1 c).1, (h1 c).2, rfl, rfl⟩, ((hws.ck q (h1 c).1).lst.1).bel hb, fun b o s e => ?_⟩, fun c => ?_⟩
  · have hw := hws.ck q (h1 c).1
    have h5 : (lv q).ownBlock = some b := by
      rcases hw.row.2 with ⟨h6, -⟩ | ⟨g', c', cur, h6, -⟩
      · unfold lv at h6; rw [e] at h6; cases h6
      · unfold lv at h6 ⊢; rw [e] at h6; cases h6; rw [e]; rfl
    exact ⟨(hw.row.lt b h5).1, Nat.lt_of_lt_of_le (hw.row.lt b h5).2 hb.size⟩
  cases hf : f to with
  | none => rfl
  | some y => obtain ⟨x, hx, e, -⟩ := (hkn to y.1 y.2).1 hf; exact absurd e ((h2 c).2 x hx)
end Go.Proofs.Ythhdpfgepjmgkaa.Dj
