/- Ranges over maps, plain: what has been visited, what is left; boxes that are made. -/
import Derived.Test.YtjfiahendnlcjaaDaC
namespace Go.Proofs.Ytjfiahendnlcjaa.Da
open Go.ChangeShapes Go.WideShapes Go.ChangeAt Go.RowKit Go.Joins Go.Deep Go.Proofs.Ytjfiahendnlcjaa.Ge
set_option linter.unusedVariables false
set_option linter.unusedSimpArgs false

section
variable {κ β : Type}
/-- visited, left -/
structure Rg (es : Ents κ β) (seen : Array Nat) (vs rs : Ents κ β) : Prop where
  perm : (vs ++ rs).Perm es
  sn : seen = (vs.map (·.2.2)).toArray
theorem Rg.nil (es : Ents κ β) : Rg es #[] [] es := ⟨List.Perm.refl _, rfl⟩
theorem Rg.mem {es : Ents κ β} {seen : Array Nat} {vs rs : Ents κ β} (h : Rg es seen vs rs) {x : κ × β × Nat} (hx : x ∈ vs) : x.2.2 ∈ seen := by
  rw [h.sn]
  simp only [List.mem_toArray]
  exact List.mem_map.2 ⟨x, hx, rfl⟩
theorem Rg.step {es : Ents κ β} {seen : Array Nat} {vs rs : Ents κ β} (h : Rg es seen vs rs) {x : κ × β × Nat} (hx : x ∈ es) (hn : x.2.2 ∉ seen) : ∃ rs', Rg es (seen.push x.2.2) (vs ++ [x]) rs' := by
  have hm : x ∈ rs := by
    rcases List.mem_append.1 (h.perm.mem_iff.2 hx) with c | c
    · exact absurd (h.mem c) hn
    · exact c
  obtain ⟨l1, l2, rfl⟩ := List.append_of_mem hm
  refine ⟨l1 ++ l2, ?_, ?_⟩
  · refine List.Perm.trans ?_ h.perm
    rw [List.append_assoc]
    refine List.Perm.append_left vs ?_
    show (x :: (l1 ++ l2)).Perm _
    exact List.perm_middle.symm
  · rw [h.sn]
    simp
theorem Rg.size {es : Ents κ β} {seen : Array Nat} {vs rs : Ents κ β} (h : Rg es seen vs rs) : seen.size + rs.length = es.length := by
  have := h.perm.length_eq
  rw [List.length_append] at this
  rw [h.sn]
  simpa using this
theorem Rg.lt {es : Ents κ β} {seen : Array Nat} {vs rs : Ents κ β} (h : Rg es seen vs rs) {x : κ × β × Nat} (hx : x ∈ es) (hn : x.2.2 ∉ seen) : seen.size < es.length := by
  obtain ⟨rs', h'⟩ := h.step hx hn
  have := h'.size
  rw [Array.size_push] at this
  omega
theorem Rg.nd {es : Ents κ β} {c : Nat} (ok : Mok es c) {seen : Array Nat} {vs rs : Ents κ β} (h : Rg es seen vs rs) : ((vs ++ rs).map (·.2.2)).Nodup := (h.perm.map _).nodup_iff.2 ok.nb
theorem Rg.done {es : Ents κ β} {c : Nat} (ok : Mok es c) {seen : Array Nat} {vs rs : Ents κ β} (h : Rg es seen vs rs) (ha : ∀ x ∈ es, x.2.2 ∈ seen) : vs.Perm es := by
  have hr : rs = [] := by
    cases hrs : rs with
    | nil => rfl
    | cons x l =>
      exfalso
      subst hrs
      have hx := ha x (h.perm.mem_iff.1 (List.mem_append_right _ List.mem_cons_self))
      rw [h.sn] at hx
      simp only [List.mem_toArray] at hx
      have hnd := h.nd ok
      rw [List.map_append, List.nodup_append] at hnd
      exact hnd.2.2 _ hx _ (List.mem_map.2 ⟨x, List.mem_cons_self, rfl⟩) rfl
  have := h.perm
  rw [hr, List.append_nil] at this
  exact this
/-- what is left of the entries where those that are visited and dead are gone -/
def lv (es : Ents κ β) (dead : κ × β × Nat → Bool) (seen : Array Nat) : Ents κ β := es.filter (fun x => !(seen.contains x.2.2 && dead x))
theorem lv_nil (es : Ents κ β) (dead : κ × β × Nat → Bool) : lv es dead #[] = es := by
  unfold lv
  rw [List.filter_eq_self]
  intro x hx
  simp
theorem lv_ok {es : Ents κ β} {c : Nat} (ok : Mok es c) (dead : κ × β × Nat → Bool) (seen : Array Nat) : Mok (lv es dead seen) c := ⟨ok.nk.sublist (List.filter_sublist.map _), ok.nb.sublist (List.filter_sublist.map _), fun x hx => ok.lt x (List.mem_filter.1 hx).1⟩
theorem born_inj {es : Ents κ β} {c : Nat} (ok : Mok es c) {x y : κ × β × Nat} (hx : x ∈ es) (hy : y ∈ es) (e : x.2.2 = y.2.2) : x = y := by
  have hn := ok.nb
  clear ok
  induction es with
  | nil => cases hx
  | cons z es ih =>
    rw [List.map_cons, List.nodup_cons] at hn
    rcases List.mem_cons.1 hx with rfl | hx'
    · rcases List.mem_cons.1 hy with rfl | hy'
      · rfl
      · exact absurd (by rw [e]; exact List.mem_map.2 ⟨y, hy', rfl⟩) hn.1
    · rcases List.mem_cons.1 hy with rfl | hy'
      · exact absurd (by rw [← e]; exact List.mem_map.2 ⟨x, hx', rfl⟩) hn.1
      · exact ih hx' hy' hn.2
theorem key_inj {es : Ents κ β} {c : Nat} (ok : Mok es c) {x y : κ × β × Nat} (hx : x ∈ es) (hy : y ∈ es) (e : x.1 = y.1) : x = y := by
  have hn := ok.nk
  clear ok
  induction es with
  | nil => cases hx
  | cons z es ih =>
    rw [List.map_cons, List.nodup_cons] at hn
    rcases List.mem_cons.1 hx with rfl | hx'
    · rcases List.mem_cons.1 hy with rfl | hy'
      · rfl
      · exact absurd (by rw [e]; exact List.mem_map.2 ⟨y, hy', rfl⟩) hn.1
    · rcases List.mem_cons.1 hy with rfl | hy'
      · exact absurd (by rw [← e]; exact List.mem_map.2 ⟨x, hx', rfl⟩) hn.1
      · exact ih hx' hy' hn.2
theorem lv_stay {es : Ents κ β} {c : Nat} (ok : Mok es c) (dead : κ × β × Nat → Bool) (seen : Array Nat) {x : κ × β × Nat} (hx : x ∈ es) (hd : dead x = false) : lv es dead (seen.push x.2.2) = lv es dead seen := by
  unfold lv
  apply List.filter_congr
  intro y hy
  by_cases e : y.2.2 = x.2.2
  · rw [born_inj ok hy hx e, hd]; simp
  · have : (seen.push x.2.2).contains y.2.2 = seen.contains y.2.2 := by simp [e]
    rw [this]
theorem lv_drop [DecidableEq κ] {es : Ents κ β} {c : Nat} (ok : Mok es c) (dead : κ × β × Nat → Bool) (seen : Array Nat) {x : κ × β × Nat} (hx : x ∈ es) (hd : dead x = true) : mdel (lv es dead seen) x.1 = lv es dead (seen.push x.2.2) := by
  rw [mdel_eq (lv_ok ok dead seen)]
  unfold lv
  rw [List.filter_filter]
  apply List.filter_congr
  intro y hy
  by_cases e : y.2.2 = x.2.2
  · have := born_inj ok hy hx e
    subst this
    simp [hd]
  · have h1 : (seen.push x.2.2).contains y.2.2 = seen.contains y.2.2 := by simp [e]
    have h2 : y.1 ≠ x.1 := fun c => e (by rw [key_inj ok hy hx c])
    rw [h1]
    simp [h2]
theorem lv_done {es : Ents κ β} (dead : κ × β × Nat → Bool) (seen : Array Nat) (h : ∀ x ∈ lv es dead seen, x.2.2 ∈ seen) : lv es dead seen = es.filter (fun x => !dead x) := by
  unfold lv
  apply List.filter_congr
  intro y hy
  cases hd : dead y with
  | false => simp
  | true =>
    by_cases hs : y.2.2 ∈ seen
    · simp [hs]
    · exfalso
      refine hs (h y ?_)
      unfold lv
      rw [List.mem_filter]
      exact ⟨hy, by simp [hs]⟩
theorem lv_mem {es : Ents κ β} {dead : κ × β × Nat → Bool} {seen : Array Nat} {x : κ × β × Nat} (hx : x ∈ lv es dead seen) : x ∈ es := (List.mem_filter.1 hx).1
theorem lv_all {es : Ents κ β} {dead : κ × β × Nat → Bool} {seen : Array Nat} (h : ∀ x ∈ lv es dead seen, x.2.2 ∈ seen) : ∀ x ∈ es, x.2.2 ∈ seen := fun x hx => by
  by_cases hs : x.2.2 ∈ seen
  · exact hs
  · exact h x (List.mem_filter.2 ⟨hx, by simp [hs]⟩)
end
/-- how many an iterator has given -/
def sn (W : World) (r : Nat) : Nat := match W.heap[r]? with
  | some (.mapIter _ _ seen _) => seen.size
  | _ => 0
theorem sn_of {W : World} {r b since c0 : Nat} {seen : Array Nat} (h : IB r b since seen c0 W) : sn W r = seen.size := by unfold sn; rw [h]
theorem pxnew_run {o : Oper} {ρ : Operand → Value} {W : World} (ho : o.op = .alloc 35) : (execOp ρ o).run Try.prog W = .ok (.value (.pointer (some ⟨W.heap.size, 0, none⟩))) (W.alloc (Obj.cells (pxL (0, 0)).toArray 35)) := by
  unfold execOp
  rw [ho]
  simp [go_sem, pxL]
theorem pnnew_run {o : Oper} {ρ : Operand → Value} {W : World} (ho : o.op = .alloc 60) : (execOp ρ o).run Try.prog W = .ok (.value (.pointer (some ⟨W.heap.size, 0, none⟩))) (W.alloc (Obj.cells (pnL ⟨0, 0, false⟩).toArray 60)) := by
  unfold execOp
  rw [ho]
  simp [go_sem, pnL]
section
variable {ops : Array Oper} {rest : List Oper} {o : Oper} {ac : Act} {Q : Exit → Act → World → Prop} {W : World}
theorem list_pxnew (hgd : o.guard = none) (ho : o.op = .alloc 35)
    (k : ∀ b W', Hid (W.heap.size = b) → Hid (SB PxK b (pxL (0, 0)) W') → Hid (Below W.heap.size W W') → wpList Try.prog ops Q rest (ac.put o.dst (.pointer (some ⟨b, 0, none⟩))) W') : wpList Try.prog ops Q (o :: rest) ac W := by
  refine wpList_plain hgd fun K hK => ?_
  unfold Oper.wp
  rw [pxnew_run ho]
  exact hK _ _ (k _ _ rfl (World.alloc_heap_new W _) ((Below.refl _ W).alloc (Nat.le_refl _) _))
theorem list_pnnew (hgd : o.guard = none) (ho : o.op = .alloc 60)
    (k : ∀ b W', Hid (W.heap.size = b) → Hid (SB PnK b (pnL ⟨0, 0, false⟩) W') → Hid (Below W.heap.size W W') → wpList Try.prog ops Q rest (ac.put o.dst (.pointer (some ⟨b, 0, none⟩))) W') : wpList Try.prog ops Q (o :: rest) ac W := by
  refine wpList_plain hgd fun K hK => ?_
  unfold Oper.wp
  rw [pnnew_run ho]
  exact hK _ _ (k _ _ rfl (World.alloc_heap_new W _) ((Below.refl _ W).alloc (Nat.le_refl _) _))
end
end Go.Proofs.Ytjfiahendnlcjaa.Da
