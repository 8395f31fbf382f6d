/- Maps in memory, of any keys and items: looked up, put, dropped, ranged over. -/
import Derived.Test.YthhdpfgepjmgkaaGeC
import Derived.Maps.RangeRun
namespace Go.Proofs.Ythhdpfgepjmgkaa.Ge
open Go.ChangeShapes Go.WideShapes Go.ChangeAt Go.RowKit Go.Joins Go.Deep
set_option linter.unusedVariables false
set_option linter.unusedSimpArgs false

/-! plain: entries with stamps -/
abbrev Ents (κ β : Type) := List (κ × β × Nat)
section plain
variable {κ β : Type} [DecidableEq κ]
/-- the place and the item of a key -/
def mfind (k : κ) : Ents κ β → Nat → Option (Nat × β)
  | [], _ => none
  | x :: es, i => if k = x.1 then some (i, x.2.1) else mfind k es (i + 1)
def mget (es : Ents κ β) (k : κ) : Option β := (mfind k es 0).map (·.2)
def mput (es : Ents κ β) (c : Nat) (k : κ) (v : β) : Ents κ β := match mfind k es 0 with
  | some (i, _) => es.modify i (fun x => (k, v, x.2.2))
  | none => es ++ [(k, v, c)]
def mclk (es : Ents κ β) (c : Nat) (k : κ) : Nat := if (mfind k es 0).isSome then c else c + 1
def mdel (es : Ents κ β) (k : κ) : Ents κ β := match mfind k es 0 with
  | some (i, _) => es.eraseIdx i
  | none => es
/-- keys and stamps each once; stamps below the clock -/
structure Mok (es : Ents κ β) (c : Nat) : Prop where
  nk : (es.map (·.1)).Nodup
  nb : (es.map (·.2.2)).Nodup
  lt : ∀ x ∈ es, x.2.2 < c
theorem mfind_shift (k : κ) : ∀ (es : Ents κ β) (i : Nat), mfind k es i = (mfind k es 0).map (fun p => (p.1 + i, p.2))
  | [], i => rfl
  | x :: es, i => by
    unfold mfind
    split
    · simp
    · rw [mfind_shift k es (i + 1), mfind_shift k es (0 + 1)]
      cases mfind k es 0 <;> simp; omega
theorem mget_nil (k : κ) : mget ([] : Ents κ β) k = none := rfl
theorem mget_cons (x : κ × β × Nat) (es : Ents κ β) (k : κ) : mget (x :: es) k = if k = x.1 then some x.2.1 else mget es k := by
  unfold mget
  conv => lhs; unfold mfind
  split
  · rfl
  · rw [mfind_shift]
    cases mfind k es 0 <;> rfl
theorem mfind_some {k : κ} {es : Ents κ β} {i : Nat} {v : β} (h : mfind k es 0 = some (i, v)) : ∃ hi : i < es.length, es[i].1 = k ∧ es[i].2.1 = v := by
  induction es generalizing i with
  | nil => cases h
  | cons x es ih =>
    unfold mfind at h
    split at h
    · cases h; rename_i e; exact ⟨by simp, e.symm, rfl⟩
    · rw [mfind_shift] at h
      cases hm : mfind k es 0 with
      | none => rw [hm] at h; cases h
      | some p =>
        rw [hm] at h
        obtain ⟨j, u⟩ := p
        cases h
        obtain ⟨hj, h1, h2⟩ := ih hm
        exact ⟨by simp; omega, by simpa using h1, by simpa using h2⟩
theorem mfind_none {k : κ} {es : Ents κ β} (h : mfind k es 0 = none) : ∀ x ∈ es, x.1 ≠ k := by
  induction es with
  | nil => intro x hx; cases hx
  | cons y es ih =>
    unfold mfind at h
    split at h
    · cases h
    · rename_i hne
      rw [mfind_shift] at h
      intro x hx
      rcases List.mem_cons.1 hx with rfl | hx
      · exact fun e => hne e.symm
      · refine ih ?_ x hx
        cases hm : mfind k es 0 with
        | none => rfl
        | some p => rw [hm] at h; cases h
theorem mget_of_mem {es : Ents κ β} {c : Nat} (h : Mok es c) {x : κ × β × Nat} (hx : x ∈ es) : mget es x.1 = some x.2.1 := by
  have hn := h.nk
  clear h
  induction es with
  | nil => cases hx
  | cons y es ih =>
    rw [mget_cons]
    rw [List.map_cons, List.nodup_cons] at hn
    rcases List.mem_cons.1 hx with rfl | hx
    · rw [if_pos rfl]
    · rw [if_neg (fun e => hn.1 (by rw [← e]; exact List.mem_map.2 ⟨x, hx, rfl⟩))]
      exact ih hx hn.2
theorem mem_of_mget {es : Ents κ β} {k : κ} {v : β} (h : mget es k = some v) : ∃ x ∈ es, x.1 = k ∧ x.2.1 = v := by
  unfold mget at h
  cases hm : mfind k es 0 with
  | none => rw [hm] at h; cases h
  | some p =>
    obtain ⟨i, u⟩ := p
    rw [hm] at h
    cases h
    obtain ⟨hi, h1, h2⟩ := mfind_some hm
    exact ⟨es[i], List.getElem_mem hi, h1, h2⟩
theorem mget_none_iff {es : Ents κ β} {k : κ} : mget es k = none ↔ ∀ x ∈ es, x.1 ≠ k := by
  constructor
  · intro h
    refine mfind_none ?_
    unfold mget at h
    cases hm : mfind k es 0 with
    | none => rfl
    | some p => rw [hm] at h; cases h
  · intro h
    cases hm : mget es k with
    | none => rfl
    | some v => obtain ⟨x, hx, h1, -⟩ := mem_of_mget hm; exact absurd h1 (h x hx)
theorem mput_get (es : Ents κ β) (c : Nat) (k : κ) (v : β) (q : κ) : mget (mput es c k v) q = if q = k then some v else mget es q := by
  unfold mput
  cases hm : mfind k es 0 with
  | none =>
    have hk := mfind_none hm
    clear hm
    dsimp only
    induction es with
    | nil => rw [List.nil_append, mget_cons]
    | cons x es ih =>
      rw [List.cons_append, mget_cons, mget_cons, ih (fun y hy => hk y (List.mem_cons_of_mem _ hy))]
      have := hk x List.mem_cons_self
      split
      · rename_i e; rw [if_neg (fun e2 => this (e.symm.trans e2))]
      · rfl
  | some p =>
    obtain ⟨i, u⟩ := p
    dsimp only
    induction es generalizing i with
    | nil => cases hm
    | cons x es ih =>
      unfold mfind at hm
      split at hm
      · rename_i e
        cases hm
        rw [List.modify_zero_cons, mget_cons, mget_cons]
        dsimp only
        split
        · rfl
        · rename_i e2; rw [if_neg (fun c => e2 (c.trans e.symm))]
      · rename_i e
        rw [mfind_shift] at hm
        cases hq : mfind k es 0 with
        | none => rw [hq] at hm; cases hm
        | some p =>
          rw [hq] at hm
          obtain ⟨j, u2⟩ := p
          cases hm
          rw [List.modify_succ_cons, mget_cons, mget_cons, ih j hq]
          split
          · rename_i e2; rw [if_neg (fun c => e (c.symm.trans e2))]
          · rfl
theorem mput_ok {es : Ents κ β} {c : Nat} (h : Mok es c) (k : κ) (v : β) : Mok (mput es c k v) (mclk es c k) := by
  unfold mput mclk
  cases hm : mfind k es 0 with
  | none =>
    have hk := mfind_none hm
    dsimp only [Option.isSome]
    refine ⟨?_, ?_, ?_⟩
    · rw [List.map_append, List.nodup_append]
      refine ⟨h.nk, by simp, ?_⟩
      intro a ha b hb e
      obtain ⟨x, hx, rfl⟩ := List.mem_map.1 ha
      simp at hb
      exact hk x hx (e.trans hb)
    · rw [List.map_append, List.nodup_append]
      refine ⟨h.nb, by simp, ?_⟩
      intro a ha b hb e
      obtain ⟨x, hx, rfl⟩ := List.mem_map.1 ha
      simp at hb
      have := h.lt x hx
      omega
    · intro x hx
      rcases List.mem_append.1 hx with h1 | h1
      · have := h.lt x h1; simp; omega
      · simp at h1; subst h1; simp
  | some p =>
    obtain ⟨i, u⟩ := p
    dsimp only [Option.isSome]
    obtain ⟨hi, h1, h2⟩ := mfind_some hm
    have e1 : (es.modify i fun x => (k, v, x.2.2)).map (·.1) = es.map (·.1) := by
      apply List.ext_getElem
      · simp
      · intro j hj1 hj2
        simp [List.getElem_modify]
        split
        · rename_i e; subst e; exact h1.symm
        · rfl
    have e2 : (es.modify i fun x => (k, v, x.2.2)).map (·.2.2) = es.map (·.2.2) := by
      apply List.ext_getElem
      · simp
      · intro j hj1 hj2
        simp [List.getElem_modify]
        split <;> rfl
    refine ⟨by rw [e1]; exact h.nk, by rw [e2]; exact h.nb, ?_⟩
    intro x hx
    have : x.2.2 ∈ es.map (·.2.2) := by rw [← e2]; exact List.mem_map.2 ⟨x, hx, rfl⟩
    obtain ⟨y, hy, e⟩ := List.mem_map.1 this
    simp only [if_true]
    rw [← e]
    exact h.lt y hy
theorem mdel_eq {es : Ents κ β} {c : Nat} (h : Mok es c) (k : κ) : mdel es k = es.filter (fun x => decide (x.1 ≠ k)) := by
  have hn := h.nk
  clear h
  unfold mdel
  induction es with
  | nil => rfl
  | cons x es ih =>
    rw [List.map_cons, List.nodup_cons] at hn
    have ih := ih hn.2
    conv => lhs; unfold mfind
    by_cases e : k = x.1
    · rw [if_pos e]
      dsimp only
      rw [List.eraseIdx_cons_zero, List.filter_cons_of_neg (by simp [e])]
      symm
      rw [List.filter_eq_self]
      intro y hy
      simp
      intro e2
      exact hn.1 (by rw [← e, ← e2]; exact List.mem_map.2 ⟨y, hy, rfl⟩)
    · rw [if_neg e, mfind_shift, List.filter_cons_of_pos (by simp; exact fun c => e c.symm)]
      cases hm : mfind k es 0 with
      | none => rw [hm] at ih; dsimp only [Option.map] at ih ⊢; rw [← ih]
      | some p =>
        obtain ⟨i, u⟩ := p
        rw [hm] at ih
        dsimp only [Option.map] at ih ⊢
        rw [← ih, List.eraseIdx_cons_succ]
theorem mdel_ok {es : Ents κ β} {c : Nat} (h : Mok es c) (k : κ) : Mok (mdel es k) c := by
  rw [mdel_eq h]
  exact ⟨h.nk.sublist (List.filter_sublist.map _), h.nb.sublist (List.filter_sublist.map _), fun x hx => h.lt x (List.mem_filter.1 hx).1⟩
theorem mdel_get {es : Ents κ β} {c : Nat} (h : Mok es c) (k q : κ) : mget (mdel es k) q = if q = k then none else mget es q := by
  rw [mdel_eq h]
  by_cases e : q = k
  · rw [if_pos e, mget_none_iff]
    intro x hx
    have := (List.mem_filter.1 hx).2
    simp at this
    rw [e]
    exact this
  · rw [if_neg e]
    clear h
    induction es with
    | nil => rfl
    | cons x es ih =>
      by_cases e2 : x.1 = k
      · rw [List.filter_cons_of_neg (by simp [e2]), ih, mget_cons, if_neg (fun c => e (c.trans e2))]
      · rw [List.filter_cons_of_pos (by simp [e2]), mget_cons, mget_cons, ih]
end plain
/-! in memory -/
theorem erase_map {α γ : Type} (f : α → γ) : ∀ (l : List α) (i : Nat), (l.map f).eraseIdx i = (l.eraseIdx i).map f
  | [], _ => rfl
  | x :: l, 0 => rfl
  | x :: l, i + 1 => by rw [List.map_cons, List.eraseIdx_cons_succ, erase_map f l i, List.eraseIdx_cons_succ, List.map_cons]
/-- a kind of map -/
structure Mk (κ β : Type) [DecidableEq κ] where
  t : TypeId
  kt : TypeId
  et : TypeId
  ek : κ → Value
  ev : β → Value
  z : Value
  hu : Try.prog.underlying t = some (.map kt et)
  hz : ∀ W, (zeroValue et).run Try.prog W = .ok z W
  hc : ∀ e k W, (Instr.checkKey e 10000 kt (ek k)).run Try.prog W = .ok () W
  hb : ∀ k, Instr.sameBits 10000 (ek k) (ek k) = true
  hf : ∀ (k : κ) (es : Ents κ β) W, (Instr.findKey kt (ek k) (es.map (fun x => (⟨ek x.1, ev x.2.1, x.2.2⟩ : MapEntry)))).run Try.prog W = .ok ((mfind k es 0).map (fun p => (p.1, ev p.2))) W
section mem
variable {κ β : Type} [DecidableEq κ]
def Mk.ent (M : Mk κ β) (x : κ × β × Nat) : MapEntry := ⟨M.ek x.1, M.ev x.2.1, x.2.2⟩
/-- a block that holds one -/
def MB (M : Mk κ β) (b : Nat) (es : Ents κ β) (c : Nat) (W : World) : Prop := W.heap[b]? = some (.map (es.map M.ent).toArray c)
theorem MB.lt {M : Mk κ β} {b c : Nat} {es : Ents κ β} {W : World} (h : MB M b es c W) : b < W.heap.size := (Array.getElem?_eq_some_iff.1 h).1
theorem MB.blk {M : Mk κ β} {b c : Nat} {es : Ents κ β} {W W' : World} (h : MB M b es c W) (hb : W'.heap[b]? = W.heap[b]?) : MB M b es c W' := hb.trans h
theorem run_getMap {M : Mk κ β} {b c : Nat} {es : Ents κ β} {W : World} (h : MB M b es c W) : (getObj b).run Try.prog W = .ok (.map (es.map M.ent).toArray c) W := MapKept.run_getObj_map h
theorem run_find {M : Mk κ β} (k : κ) (es : Ents κ β) (W : World) : (Instr.findKey M.kt (M.ek k) (es.map M.ent)).run Try.prog W = .ok ((mfind k es 0).map (fun p => (p.1, M.ev p.2))) W := M.hf k es W
/-- what a look-up answers -/
def Mk.got (M : Mk κ β) (es : Ents κ β) (k : κ) : Value := match mget es k with
  | some v => M.ev v
  | none => M.z
theorem look_run {o : Oper} {ρ : Operand → Value} {W : World} (M : Mk κ β) (x y : Operand) (ho : o.op = .lookup M.t x y false) {b c : Nat} {es : Ents κ β} {k : κ} (hx : ρ x = .map (some b)) (hy : ρ y = M.ek k) (h : MB M b es c W) : (execOp ρ o).run Try.prog W = .ok (.value (M.got es k)) W := by
  unfold execOp
  simp only [ho, hx, hy, Instr.lookup, Sem.run_bind, Sem.run_pure, Result.andThen_ok, run_underlying M.hu, run_getMap h, M.hc, List.toList_toArray, run_find]
  unfold Mk.got mget
  cases mfind k es 0 with
  | none => simp [M.hz]
  | some p => simp
theorem look2_run {o : Oper} {ρ : Operand → Value} {W : World} (M : Mk κ β) (x y : Operand) (ho : o.op = .lookup M.t x y true) {b c : Nat} {es : Ents κ β} {k : κ} (hx : ρ x = .map (some b)) (hy : ρ y = M.ek k) (h : MB M b es c W) : (execOp ρ o).run Try.prog W = .ok (.value (.tuple #[M.got es k, .bool (mget es k).isSome])) W := by
  unfold execOp
  simp only [ho, hx, hy, Instr.lookup, Sem.run_bind, Sem.run_pure, Result.andThen_ok, run_underlying M.hu, run_getMap h, M.hc, List.toList_toArray, run_find]
  unfold Mk.got mget
  cases mfind k es 0 with
  | none => simp [M.hz]
  | some p => simp
theorem run_setMap {M : Mk κ β} {b c : Nat} {es : Ents κ β} {W : World} (h : MB M b es c W) (o' : Obj) : (setObj b o').run Try.prog W = .ok () (ChangeMaps.setBlock W b o') := by
  have : W.heap[b]? = some (.map (es.map M.ent).toArray c) := h
  simp [setObj, Sem.run, this, ChangeMaps.setBlock]
theorem MB.set {M : Mk κ β} {b c c' : Nat} {es es' : Ents κ β} {W : World} (h : MB M b es c W) : MB M b es' c' (ChangeMaps.setBlock W b (.map (es'.map M.ent).toArray c')) ∧ Ko W b (ChangeMaps.setBlock W b (.map (es'.map M.ent).toArray c')) := by
  have hl := h.lt
  unfold ChangeMaps.setBlock
  refine ⟨?_, ⟨⟨rfl, rfl, rfl, by simp, fun g hg => absurd hg (Nat.not_lt_zero _)⟩, by simp, fun g hg => ?_⟩⟩
  · show (W.heap.setIfInBounds b _)[b]? = _
    rw [Array.getElem?_setIfInBounds_self_of_lt hl]
  · show (W.heap.setIfInBounds b _)[g]? = _
    rw [Array.getElem?_setIfInBounds_ne (fun e => hg e.symm)]
theorem put_run {o : Oper} {ρ : Operand → Value} {W : World} (M : Mk κ β) (x y v : Operand) (ho : o.op = .mapUpdate M.t x y v) {b c : Nat} {es : Ents κ β} {k : κ} {u : β} (hx : ρ x = .map (some b)) (hy : ρ y = M.ek k) (hv : ρ v = M.ev u) (h : MB M b es c W) : (execOp ρ o).run Try.prog W = .ok .skip (ChangeMaps.setBlock W b (.map ((mput es c k u).map M.ent).toArray (mclk es c k))) := by
  unfold execOp
  simp only [ho, hx, hy, hv, Instr.mapUpdate, Sem.run_bind, Sem.run_pure, Result.andThen_ok, run_underlying M.hu, run_getMap h, M.hc, List.toList_toArray, run_find]
  unfold mput mclk
  cases hm : mfind k es 0 with
  | none =>
    simp only [Option.map_none, run_setMap h, Result.andThen_ok]
    simp [Mk.ent]
  | some p =>
    obtain ⟨i, u0⟩ := p
    obtain ⟨hi, h1, h2⟩ := mfind_some hm
    have hk : (((es.map M.ent).toArray[i]?).map (·.key)).getD (M.ek k) = M.ek k := by simp [hi, Mk.ent, h1]
    have hs : (Instr.keyThatStays (M.ek k) (M.ek k)).run Try.prog W = .ok (M.ek k) W := by
      unfold Instr.keyThatStays
      rw [if_pos (M.hb k)]
      rfl
    simp only [Option.map_some, Sem.run_bind, hk, hs, Result.andThen_ok, run_setMap h]
    congr 3
    · apply Array.toList_inj.1
      apply List.ext_getElem
      · simp
      · intro j hj1 hj2
        simp [Array.getElem_modify, List.getElem_modify, Mk.ent]
        split <;> rfl
theorem run_delete {W : World} (M : Mk κ β) (ty : TypeId) {b c : Nat} {es : Ents κ β} {k : κ} (h : MB M b es c W) : (Builtin.delete_ #[M.t, M.kt] ty #[.map (some b), M.ek k]).run Try.prog W = .ok (.tuple #[]) (ChangeMaps.setBlock W b (.map ((mdel es k).map M.ent).toArray c)) := by
  simp only [Builtin.delete_, List.getElem?_toArray, List.getElem?_cons_zero, List.getElem?_cons_succ, Sem.run_bind, Sem.run_pure, Result.andThen_ok, run_underlying M.hu, run_getMap h, M.hc, List.toList_toArray, run_find]
  unfold mdel
  cases hm : mfind k es 0 with
  | none => simp only [Option.map_none, Sem.run_bind, Sem.run_pure, run_setMap h, Result.andThen_ok]
  | some p =>
    obtain ⟨i, u0⟩ := p
    obtain ⟨hi, h1, h2⟩ := mfind_some hm
    simp only [Option.map_some, Sem.run_bind, Sem.run_pure, run_setMap h, Result.andThen_ok]
    congr 3
    · apply Array.toList_inj.1
      simp only [Array.toList_eraseIdxIfInBounds, List.toList_toArray]
      exact erase_map _ _ _
/-! arms of a walk -/
variable {ops : Array Oper} {rest : List Oper} {o : Oper} {ac : Act} {Q : Exit → Act → World → Prop} {W : World}
theorem list_look (M : Mk κ β) (hgd : o.guard = none) (x y : Operand) (ho : o.op = .lookup M.t x y false) {b c : Nat} {es : Ents κ β} {k : κ} (hx : ac.eval x = .map (some b)) (hy : ac.eval y = M.ek k) (h : MB M b es c W)
    (kk : wpList Try.prog ops Q rest (ac.put o.dst (M.got es k)) W) : wpList Try.prog ops Q (o :: rest) ac W := by
  refine wpList_plain hgd fun K hK => ?_
  unfold Oper.wp
  rw [look_run M x y ho hx hy h]
  exact hK _ _ kk
theorem list_look2 (M : Mk κ β) (hgd : o.guard = none) (x y : Operand) (ho : o.op = .lookup M.t x y true) {b c : Nat} {es : Ents κ β} {k : κ} (hx : ac.eval x = .map (some b)) (hy : ac.eval y = M.ek k) (h : MB M b es c W)
    (kk : wpList Try.prog ops Q rest (ac.put o.dst (.tuple #[M.got es k, .bool (mget es k).isSome])) W) : wpList Try.prog ops Q (o :: rest) ac W := by
  refine wpList_plain hgd fun K hK => ?_
  unfold Oper.wp
  rw [look2_run M x y ho hx hy h]
  exact hK _ _ kk
theorem list_put (M : Mk κ β) (hgd : o.guard = none) (x y v : Operand) (ho : o.op = .mapUpdate M.t x y v) {b c : Nat} {es : Ents κ β} {k : κ} {u : β} (hx : ac.eval x = .map (some b)) (hy : ac.eval y = M.ek k) (hv : ac.eval v = M.ev u) (h : MB M b es c W)
    (kk : ∀ W', Hid (MB M b (mput es c k u) (mclk es c k) W') → Hid (Ko W b W') → wpList Try.prog ops Q rest (ac.put o.dst undef) W') : wpList Try.prog ops Q (o :: rest) ac W := by
  refine wpList_plain hgd fun K hK => ?_
  unfold Oper.wp
  rw [put_run M x y v ho hx hy hv h]
  exact hK _ _ (kk _ h.set.1 h.set.2)
theorem put_step {a : Act} {K : Act → World → Prop} {cc : Bool} {E0 : Prop} (M : Mk κ β) (x y v : Operand) (ho : o.op = .mapUpdate M.t x y v) {b c : Nat} {es : Ents κ β} {k : κ} {u : β} (hx : a.eval x = .map (some b)) (hy : a.eval y = M.ek k) (hv : a.eval v = M.ev u) (h : MB M b es c W) (hc : cc = true)
    (kk : ∀ W', Hid (MB M b (mput es c k u) (mclk es c k) W') → Hid (Ko W b W') → K (a.put o.dst undef) W') : if cc = true then Oper.wp Try.prog o a W K Q else E0 :=
  step_runs hc (put_run M x y v ho hx hy hv h) (kk _ h.set.1 h.set.2)
theorem del_run {ρ : Operand → Value} (M : Mk κ β) (x y : Operand) (ho : o.op = .call { callee := .builtin .delete, args := #[x, y], argTypes := #[M.t, M.kt] }) {b c : Nat} {es : Ents κ β} {k : κ} (hx : ρ x = .map (some b)) (hy : ρ y = M.ek k) (h : MB M b es c W) : (execOp ρ o).run Try.prog W = .ok (.value (.tuple #[])) (ChangeMaps.setBlock W b (.map ((mdel es k).map M.ent).toArray c)) := by
  unfold execOp
  simp only [ho, resolve, invoke, builtin, Sem.run_bind, Sem.run_pure, Result.andThen_ok, List.map_toArray, List.map_cons, List.map_nil, hx, hy, run_delete M _ h]
theorem list_del (M : Mk κ β) (hgd : o.guard = none) (x y : Operand) (ho : o.op = .call { callee := .builtin .delete, args := #[x, y], argTypes := #[M.t, M.kt] }) {b c : Nat} {es : Ents κ β} {k : κ} (hx : ac.eval x = .map (some b)) (hy : ac.eval y = M.ek k) (h : MB M b es c W)
    (kk : ∀ W', Hid (MB M b (mdel es k) c W') → Hid (Ko W b W') → wpList Try.prog ops Q rest (ac.put o.dst (.tuple #[])) W') : wpList Try.prog ops Q (o :: rest) ac W := by
  refine wpList_plain hgd fun K hK => ?_
  unfold Oper.wp
  rw [del_run M x y ho hx hy h]
  exact hK _ _ (kk _ h.set.1 h.set.2)
theorem del_step {a : Act} {K : Act → World → Prop} {cc : Bool} {E0 : Prop} (M : Mk κ β) (x y : Operand) (ho : o.op = .call { callee := .builtin .delete, args := #[x, y], argTypes := #[M.t, M.kt] }) {b c : Nat} {es : Ents κ β} {k : κ} (hx : a.eval x = .map (some b)) (hy : a.eval y = M.ek k) (h : MB M b es c W) (hc : cc = true)
    (kk : ∀ W', Hid (MB M b (mdel es k) c W') → Hid (Ko W b W') → K (a.put o.dst (.tuple #[])) W') : if cc = true then Oper.wp Try.prog o a W K Q else E0 :=
  step_run hc (del_run M x y ho hx hy h) (kk _ h.set.1 h.set.2)
theorem below_drew (W : World) : Below W.heap.size W W.drew := ⟨rfl, rfl, rfl, Nat.le_refl _, fun _ _ => rfl⟩
/-- an iterator -/
def IB (r b since : Nat) (seen : Array Nat) (c0 : Nat) (W : World) : Prop := W.heap[r]? = some (.mapIter (some b) since seen c0)
theorem IB.lt {r b since c0 : Nat} {seen : Array Nat} (h : IB r b since seen c0 W) : r < W.heap.size := (Array.getElem?_eq_some_iff.1 h).1
theorem IB.blk {W' : World} {r b since c0 : Nat} {seen : Array Nat} (h : IB r b since seen c0 W) (hb : W'.heap[r]? = W.heap[r]?) : IB r b since seen c0 W' := hb.trans h
theorem list_range (M : Mk κ β) (hgd : o.guard = none) (x : Operand) (ho : o.op = .range M.t x) {b c : Nat} {es : Ents κ β} (hx : ac.eval x = .map (some b)) (h : MB M b es c W)
    (kk : ∀ r W', Hid (W.heap.size = r) → Hid (IB r b c #[] c W') → Hid (Below W.heap.size W W') → wpList Try.prog ops Q rest (ac.put o.dst (.pointer (some ⟨r, 0, none⟩))) W') : wpList Try.prog ops Q (o :: rest) ac W := by
  refine wpList_plain hgd fun K hK => ?_
  unfold Oper.wp execOp
  simp only [ho, hx, Sem.run_bind, Result.andThen_ok, run_range_map W M.t M.kt M.et b _ c M.hu h, Sem.run_pure]
  exact hK _ _ (kk _ _ rfl (World.alloc_heap_new W _) ((Below.refl _ W).alloc (Nat.le_refl _) _))
theorem set_ko {r b since c0 : Nat} {seen : Array Nat} (h : IB r b since seen c0 W) (W1 : World) (h1 : W1 = W ∨ W1 = W.drew) (ob : Obj) : Ko W r (ChangeMaps.setBlock W1 r ob) ∧ (ChangeMaps.setBlock W1 r ob).heap[r]? = some ob := by
  have hl := h.lt
  have e : W1.heap = W.heap ∧ Below 0 W W1 := by
    rcases h1 with rfl | rfl
    · exact ⟨rfl, Below.refl _ _⟩
    · exact ⟨rfl, (below_drew W).mono (Nat.zero_le _)⟩
  have hs : Below 0 W1 (ChangeMaps.setBlock W1 r ob) := ⟨rfl, rfl, rfl, by unfold ChangeMaps.setBlock; simp, fun g hg => absurd hg (Nat.not_lt_zero _)⟩
  refine ⟨⟨e.2.trans hs, by unfold ChangeMaps.setBlock; simp [e.1], fun g hg => ?_⟩, ?_⟩
  · show (W1.heap.setIfInBounds r ob)[g]? = _
    rw [Array.getElem?_setIfInBounds_ne (fun e => hg e.symm), e.1]
  · show (W1.heap.setIfInBounds r ob)[r]? = _
    rw [Array.getElem?_setIfInBounds_self_of_lt (by rw [e.1]; exact hl)]
/-- (so that the walk leaves it whole) -/
structure En (α : Type) where
  v : α
def AllIn (es : Ents κ β) (seen : Array Nat) : Prop := ∀ x ∈ es, x.2.2 ∈ seen
/-- one step of a range over a map: nothing is left, or whichever entry -/
theorem list_next (M : Mk κ β) (hgd : o.guard = none) (x : Operand) (ho : o.op = .next x false) {r b since c0 c : Nat} {seen : Array Nat} {es : Ents κ β} (hx : ac.eval x = .pointer (some ⟨r, 0, none⟩)) (hr : IB r b since seen c0 W) (h : MB M b es c W) (hold : ∀ x ∈ es, x.2.2 < since) (hsc : since ≤ c0)
    (k0 : Hid (AllIn es seen) → wpList Try.prog ops Q rest (ac.put o.dst (.tuple #[.bool false])) W)
    (k1 : ∀ (x : En (κ × β × Nat)) W', Hid (x.v ∈ es ∧ x.v.2.2 ∉ seen) → Hid (IB r b since (seen.push x.v.2.2) c W') → Hid (Ko W r W') → wpList Try.prog ops Q rest (ac.put o.dst (.tuple #[.bool true, M.ek x.v.1, M.ev x.v.2.1])) W') : wpList Try.prog ops Q (o :: rest) ac W := by
  refine wpList_plain hgd fun K hK => ?_
  unfold Oper.wp execOp
  have hm : ∀ e ∈ (es.map M.ent).toArray.toList, e.born < since := fun e he => by
    rw [List.toList_toArray] at he
    obtain ⟨y, hy, rfl⟩ := List.mem_map.1 he
    exact hold y hy
  rcases run_next_at (P := Try.prog) W o.type r b since c0 seen _ c hr h hm hsc with ⟨h0, hrun⟩ | ⟨e, he, w1, hw1, hrun⟩
  · simp only [ho, hx, Sem.run_bind, hrun, Result.andThen_ok, Sem.run_pure]
    refine hK _ _ (k0 (fun y hy => ?_))
    have h0' : leftOf (es.map M.ent).toArray seen = #[] := Array.eq_empty_of_size_eq_zero h0
    unfold leftOf at h0'
    rw [Array.filter_eq_empty_iff] at h0'
    have := h0' (a := M.ent y) (by simp; exact ⟨_, _, _, hy, rfl⟩)
    simpa [Mk.ent] using this
  · simp only [ho, hx, Sem.run_bind, hrun, Result.andThen_ok, Sem.run_pure]
    unfold leftOf at he
    simp only [Array.toList_filter, List.mem_filter, List.toList_toArray] at he
    obtain ⟨hmem, hns⟩ := he
    obtain ⟨y, hy, rfl⟩ := List.mem_map.1 hmem
    have hk := set_ko hr w1 hw1 (.mapIter (some b) since (seen.push (M.ent y).born) c)
    exact hK _ _ (k1 ⟨y⟩ _ ⟨hy, by simpa [Mk.ent] using hns⟩ hk.2 hk.1)
/-- the round's key and item -/
theorem list_entry (M : Mk κ β) (hgd : o.guard = none) (x : Operand) (ho : o.op = .entry x) {r b since c : Nat} {seen : Array Nat} {es : Ents κ β} {y : κ × β × Nat} (hx : ac.eval x = .pointer (some ⟨r, 0, none⟩)) (hr : IB r b since (seen.push y.2.2) c W) (h : MB M b es c W) (hy : y ∈ es) (hn : (es.map (·.2.2)).Nodup)
    (kk : wpList Try.prog ops Q rest (ac.put o.dst (.tuple #[M.ek y.1, M.ev y.2.1])) W) : wpList Try.prog ops Q (o :: rest) ac W := by
  refine wpList_plain hgd fun K hK => ?_
  unfold Oper.wp execOp
  have hrun := run_entry_at (P := Try.prog) W r b since seen (es.map M.ent).toArray c (M.ent y) hr h (by simp; exact ⟨_, _, _, hy, rfl⟩) (by simpa [Mk.ent, Function.comp_def] using hn)
  simp only [ho, hx, Sem.run_bind, hrun, Result.andThen_ok, Sem.run_pure]
  exact hK _ _ kk
end mem
end Go.Proofs.Ythhdpfgepjmgkaa.Ge
