/- What follows behind a message's sum: readBody. -/
import Derived.Test.YtanboekdfdafmaaPwH
import Derived.BigRegion
namespace Go.Proofs.Ytanboekdfdafmaa.Pv
open Go.ChangeShapes Go.WideShapes Go.ChangeAt Go.RowKit Go.Joins Go.Proofs.Ytanboekdfdafmaa.PM Go.Proofs.Ytanboekdfdafmaa.Ask Go.Proofs.Ytanboekdfdafmaa.Ge
set_option linter.unusedVariables false

/-- a message that tells nothing, in a box's place -/
theorem MB.zero {bm : Nat} {m : Ms} {s : Sl} {w : World} (h : MB bm m s w) : MB bm ms0 sZ ((((((((((((((((((w).setCell ⟨bm, 0, none⟩ (.int .i64 0)).setCell ⟨bm, 1, none⟩ (.int .i64 0)).setCell ⟨bm, 2, none⟩ (.int .i64 0)).setCell ⟨bm, 3, none⟩ (.int .i64 0)).setCell ⟨bm, 4, none⟩ (.int .i64 0)).setCell ⟨bm, 5, none⟩ (.slice none 0 0)).setCell ⟨bm, 6, none⟩ (.slice none 0 0)).setCell ⟨bm, 7, none⟩ (.int .u32 0)).setCell ⟨bm, 8, none⟩ (.int .i64 0)).setCell ⟨bm, 9, none⟩ (.slice none 0 0)).setCell ⟨bm, 10, none⟩ (.int .i64 0)).setCell ⟨bm, 11, none⟩ (.int .i64 0)).setCell ⟨bm, 12, none⟩ (.int .i64 0)).setCell ⟨bm, 13, none⟩ (.int .u32 0)).setCell ⟨bm, 14, none⟩ (.slice none 0 0)).setCell ⟨bm, 15, none⟩ (.slice none 0 0)).setCell ⟨bm, 16, none⟩ (.int .i64 0)) := by
  have h0 := h
  unfold MB at h0 ⊢
  have h1 := heap_setCell_same _ bm 0 _ _ (.int .i64 0) h0
  have h2 := heap_setCell_same _ bm 1 _ _ (.int .i64 0) h1
  have h3 := heap_setCell_same _ bm 2 _ _ (.int .i64 0) h2
  have h4 := heap_setCell_same _ bm 3 _ _ (.int .i64 0) h3
  have h5 := heap_setCell_same _ bm 4 _ _ (.int .i64 0) h4
  have h6 := heap_setCell_same _ bm 5 _ _ (.slice none 0 0) h5
  have h7 := heap_setCell_same _ bm 6 _ _ (.slice none 0 0) h6
  have h8 := heap_setCell_same _ bm 7 _ _ (.int .u32 0) h7
  have h9 := heap_setCell_same _ bm 8 _ _ (.int .i64 0) h8
  have h10 := heap_setCell_same _ bm 9 _ _ (.slice none 0 0) h9
  have h11 := heap_setCell_same _ bm 10 _ _ (.int .i64 0) h10
  have h12 := heap_setCell_same _ bm 11 _ _ (.int .i64 0) h11
  have h13 := heap_setCell_same _ bm 12 _ _ (.int .i64 0) h12
  have h14 := heap_setCell_same _ bm 13 _ _ (.int .u32 0) h13
  have h15 := heap_setCell_same _ bm 14 _ _ (.slice none 0 0) h14
  have h16 := heap_setCell_same _ bm 15 _ _ (.slice none 0 0) h15
  have h17 := heap_setCell_same _ bm 16 _ _ (.int .i64 0) h16
  rw [h17]
  simp [msL, ms0, sZ, rtZ]
theorem Kr.zero (w : World) (bm : Nat) : Kr w bm ((((((((((((((((((w).setCell ⟨bm, 0, none⟩ (.int .i64 0)).setCell ⟨bm, 1, none⟩ (.int .i64 0)).setCell ⟨bm, 2, none⟩ (.int .i64 0)).setCell ⟨bm, 3, none⟩ (.int .i64 0)).setCell ⟨bm, 4, none⟩ (.int .i64 0)).setCell ⟨bm, 5, none⟩ (.slice none 0 0)).setCell ⟨bm, 6, none⟩ (.slice none 0 0)).setCell ⟨bm, 7, none⟩ (.int .u32 0)).setCell ⟨bm, 8, none⟩ (.int .i64 0)).setCell ⟨bm, 9, none⟩ (.slice none 0 0)).setCell ⟨bm, 10, none⟩ (.int .i64 0)).setCell ⟨bm, 11, none⟩ (.int .i64 0)).setCell ⟨bm, 12, none⟩ (.int .i64 0)).setCell ⟨bm, 13, none⟩ (.int .u32 0)).setCell ⟨bm, 14, none⟩ (.slice none 0 0)).setCell ⟨bm, 15, none⟩ (.slice none 0 0)).setCell ⟨bm, 16, none⟩ (.int .i64 0)) := (((((((((((((((((Kr.set _ _ _ _).trans (Kr.set _ _ _ _)).trans (Kr.set _ _ _ _)).trans (Kr.set _ _ _ _)).trans (Kr.set _ _ _ _)).trans (Kr.set _ _ _ _)).trans (Kr.set _ _ _ _)).trans (Kr.set _ _ _ _)).trans (Kr.set _ _ _ _)).trans (Kr.set _ _ _ _)).trans (Kr.set _ _ _ _)).trans (Kr.set _ _ _ _)).trans (Kr.set _ _ _ _)).trans (Kr.set _ _ _ _)).trans (Kr.set _ _ _ _)).trans (Kr.set _ _ _ _)).trans (Kr.set _ _ _ _))
/-- the same message, laid anew -/
theorem MB.same {bm : Nat} {m : Ms} {s : Sl} {w : World} (h : MB bm m s w) : MB bm m s ((((((((((((((((((w).setCell ⟨bm, 0, none⟩ (.int .i64 m.kind)).setCell ⟨bm, 1, none⟩ (.int .i64 m.dom)).setCell ⟨bm, 2, none⟩ (.int .i64 m.id)).setCell ⟨bm, 3, none⟩ (.int .i64 m.hold)).setCell ⟨bm, 4, none⟩ (.int .i64 m.code)).setCell ⟨bm, 5, none⟩ (.slice s.l m.lost.length s.lc)).setCell ⟨bm, 6, none⟩ (.slice s.h m.hv.length s.hc)).setCell ⟨bm, 7, none⟩ (.int .u32 m.rt.pa)).setCell ⟨bm, 8, none⟩ (.int .i64 m.rt.pn)).setCell ⟨bm, 9, none⟩ (.slice s.p m.rt.path.length s.pc)).setCell ⟨bm, 10, none⟩ (.int .i64 m.rt.org)).setCell ⟨bm, 11, none⟩ (.int .i64 m.rt.pref)).setCell ⟨bm, 12, none⟩ (.int .i64 m.rt.med)).setCell ⟨bm, 13, none⟩ (.int .u32 m.rt.next)).setCell ⟨bm, 14, none⟩ (.slice s.m m.rt.marks.length s.mc)).setCell ⟨bm, 15, none⟩ (.slice s.c m.rt.clus.length s.cc)).setCell ⟨bm, 16, none⟩ (.int .i64 m.rt.auth)) := by
  have h0 := h
  unfold MB at h0 ⊢
  have h1 := heap_setCell_same _ bm 0 _ _ (.int .i64 m.kind) h0
  have h2 := heap_setCell_same _ bm 1 _ _ (.int .i64 m.dom) h1
  have h3 := heap_setCell_same _ bm 2 _ _ (.int .i64 m.id) h2
  have h4 := heap_setCell_same _ bm 3 _ _ (.int .i64 m.hold) h3
  have h5 := heap_setCell_same _ bm 4 _ _ (.int .i64 m.code) h4
  have h6 := heap_setCell_same _ bm 5 _ _ (.slice s.l m.lost.length s.lc) h5
  have h7 := heap_setCell_same _ bm 6 _ _ (.slice s.h m.hv.length s.hc) h6
  have h8 := heap_setCell_same _ bm 7 _ _ (.int .u32 m.rt.pa) h7
  have h9 := heap_setCell_same _ bm 8 _ _ (.int .i64 m.rt.pn) h8
  have h10 := heap_setCell_same _ bm 9 _ _ (.slice s.p m.rt.path.length s.pc) h9
  have h11 := heap_setCell_same _ bm 10 _ _ (.int .i64 m.rt.org) h10
  have h12 := heap_setCell_same _ bm 11 _ _ (.int .i64 m.rt.pref) h11
  have h13 := heap_setCell_same _ bm 12 _ _ (.int .i64 m.rt.med) h12
  have h14 := heap_setCell_same _ bm 13 _ _ (.int .u32 m.rt.next) h13
  have h15 := heap_setCell_same _ bm 14 _ _ (.slice s.m m.rt.marks.length s.mc) h14
  have h16 := heap_setCell_same _ bm 15 _ _ (.slice s.c m.rt.clus.length s.cc) h15
  have h17 := heap_setCell_same _ bm 16 _ _ (.int .i64 m.rt.auth) h16
  rw [h17]
  simp [msL]
theorem Kr.same (w : World) (bm : Nat) (m : Ms) (s : Sl) : Kr w bm ((((((((((((((((((w).setCell ⟨bm, 0, none⟩ (.int .i64 m.kind)).setCell ⟨bm, 1, none⟩ (.int .i64 m.dom)).setCell ⟨bm, 2, none⟩ (.int .i64 m.id)).setCell ⟨bm, 3, none⟩ (.int .i64 m.hold)).setCell ⟨bm, 4, none⟩ (.int .i64 m.code)).setCell ⟨bm, 5, none⟩ (.slice s.l m.lost.length s.lc)).setCell ⟨bm, 6, none⟩ (.slice s.h m.hv.length s.hc)).setCell ⟨bm, 7, none⟩ (.int .u32 m.rt.pa)).setCell ⟨bm, 8, none⟩ (.int .i64 m.rt.pn)).setCell ⟨bm, 9, none⟩ (.slice s.p m.rt.path.length s.pc)).setCell ⟨bm, 10, none⟩ (.int .i64 m.rt.org)).setCell ⟨bm, 11, none⟩ (.int .i64 m.rt.pref)).setCell ⟨bm, 12, none⟩ (.int .i64 m.rt.med)).setCell ⟨bm, 13, none⟩ (.int .u32 m.rt.next)).setCell ⟨bm, 14, none⟩ (.slice s.m m.rt.marks.length s.mc)).setCell ⟨bm, 15, none⟩ (.slice s.c m.rt.clus.length s.cc)).setCell ⟨bm, 16, none⟩ (.int .i64 m.rt.auth)) := (((((((((((((((((Kr.set _ _ _ _).trans (Kr.set _ _ _ _)).trans (Kr.set _ _ _ _)).trans (Kr.set _ _ _ _)).trans (Kr.set _ _ _ _)).trans (Kr.set _ _ _ _)).trans (Kr.set _ _ _ _)).trans (Kr.set _ _ _ _)).trans (Kr.set _ _ _ _)).trans (Kr.set _ _ _ _)).trans (Kr.set _ _ _ _)).trans (Kr.set _ _ _ _)).trans (Kr.set _ _ _ _)).trans (Kr.set _ _ _ _)).trans (Kr.set _ _ _ _)).trans (Kr.set _ _ _ _)).trans (Kr.set _ _ _ _))
def RbPost (w : World) (o : Option (Ms × List Nat)) (e : Ending) (w' : World) : Prop :=
  match o with
  | none => e = .returned (.tuple #[msV ms0 sZ, .slice none 0 0, .int .i64 4]) ∧ Below w.heap.size w w'
  | some (m, body) => ∃ s ba bn bc, e = .returned (.tuple #[msV m s, .slice ba bn bc, .int .i64 0]) ∧ Pc8 w' ba bn bc body ∧ MO w.heap.size w' m s ∧ Below w.heap.size w w'
theorem drew_bel (w : World) : Below w.heap.size w w.drew := ⟨rfl, rfl, rfl, Nat.le_refl _, fun _ _ => rfl⟩
theorem wp_meet {P : Program} {c : Code} {Q : Exit → Act → World → Prop} {a : Act} {w : World} (A : Act) (W : World) (h1 : c.wp P (fun e a' w' => e = .normal ∧ a' = A ∧ w' = W) a w) (h2 : Q .normal A W) : c.wp P Q a w :=
  Code.wp_mono (fun e a' w' h => by obtain ⟨rfl, rfl, rfl⟩ := h; exact h2) h1
theorem step_val {P : Program} {o : Oper} {a : Act} {w : World} {K : Act → World → Prop} {Q : Exit → Act → World → Prop} {v : Value} {c : Bool} {E : Prop} (hc : c = true) (h : (execOp a.eval o).run P w = .ok (.value v) w) (hk : K (a.put o.dst v) w) : if c = true then Oper.wp P o a w K Q else E := by
  rw [if_pos hc]; unfold Oper.wp; rw [h]; exact hk
theorem step_skip {P : Program} {o : Oper} {a : Act} {w : World} {K : Act → World → Prop} {Q : Exit → Act → World → Prop} {c : Bool} {E : Prop} (hc : c = true) (h : (execOp a.eval o).run P w = .ok .skip w) (hk : K (a.put o.dst undef) w) : if c = true then Oper.wp P o a w K Q else E := by
  rw [if_pos hc]; unfold Oper.wp; rw [h]; exact hk
/-- the named results' boxes -/
structure RbS (w : World) (bm bb be : Nat) (W : World) (m : Ms) (s : Sl) (bv ev : Value) : Prop where
  mb : MB bm m s W
  hb : W.heap[bb]? = some (Obj.cells #[bv] 32)
  he : W.heap[be]? = some (Obj.cells #[ev] 59)
  bel : Below w.heap.size w W
theorem rb_start (k : Int) (va : Option Addr) (n cap : Nat) (xs : List Nat) (w W : World) (h : Pce w.heap.size w va n cap xs)
    (hW : (((w.alloc (Obj.cells #[.int .i64 k, .int .i64 0, .int .i64 0, .int .i64 0, .int .i64 0, .slice none 0 0, .slice none 0 0, .int .u32 0, .int .i64 0, .slice none 0 0, .int .i64 0, .int .i64 0, .int .i64 0, .int .u32 0, .slice none 0 0, .slice none 0 0, .int .i64 0] 54)).alloc (Obj.cells #[.slice va n cap] 32)).alloc (Obj.cells #[.int .i64 0] 59)).alloc (Obj.cells #[.slice va n cap] 127) = W) :
    RbS w w.heap.size (w.heap.size + 1) (w.heap.size + 1 + 1) W { ms0 with kind := k } sZ (.slice va n cap) (.int .i64 0) ∧ Rdr w.heap.size W (w.heap.size + 1 + 1 + 1) va n cap xs ∧ W.heap.size = w.heap.size + 4 := by
  obtain ⟨w1, hw1⟩ : ∃ w1, w.alloc (Obj.cells #[.int .i64 k, .int .i64 0, .int .i64 0, .int .i64 0, .int .i64 0, .slice none 0 0, .slice none 0 0, .int .u32 0, .int .i64 0, .slice none 0 0, .int .i64 0, .int .i64 0, .int .i64 0, .int .u32 0, .slice none 0 0, .slice none 0 0, .int .i64 0] 54) = w1 := ⟨_, rfl⟩
  rw [hw1] at hW
  obtain ⟨w2, hw2⟩ : ∃ w2, w1.alloc (Obj.cells #[.slice va n cap] 32) = w2 := ⟨_, rfl⟩
  rw [hw2] at hW
  obtain ⟨w3, hw3⟩ : ∃ w3, w2.alloc (Obj.cells #[.int .i64 0] 59) = w3 := ⟨_, rfl⟩
  rw [hw3] at hW
  have z1 : w1.heap.size = w.heap.size + 1 := by rw [← hw1]; simp
  have z2 : w2.heap.size = w.heap.size + 1 + 1 := by rw [← hw2]; simp [z1]
  have z3 : w3.heap.size = w.heap.size + 1 + 1 + 1 := by rw [← hw3]; simp [z2]
  have e1 := World.alloc_heap_new w (Obj.cells #[.int .i64 k, .int .i64 0, .int .i64 0, .int .i64 0, .int .i64 0, .slice none 0 0, .slice none 0 0, .int .u32 0, .int .i64 0, .slice none 0 0, .int .i64 0, .int .i64 0, .int .i64 0, .int .u32 0, .slice none 0 0, .slice none 0 0, .int .i64 0] 54)
  rw [hw1] at e1
  have e2 := World.alloc_heap_new w1 (Obj.cells #[.slice va n cap] 32)
  rw [hw2] at e2
  have e3 := World.alloc_heap_new w2 (Obj.cells #[.int .i64 0] 59)
  rw [hw3] at e3
  have b1 : Below w.heap.size w w1 := by rw [← hw1]; exact (Below.refl _ w).alloc (Nat.le_refl _) _
  have b2 : Below w1.heap.size w1 w2 := by rw [← hw2]; exact (Below.refl _ w1).alloc (Nat.le_refl _) _
  have b3 : Below w2.heap.size w2 w3 := by rw [← hw3]; exact (Below.refl _ w2).alloc (Nat.le_refl _) _
  have b13 : Below w.heap.size w w3 := (b1.trans (b2.mono (by omega))).trans (b3.mono (by omega))
  obtain ⟨hr, b4, z4⟩ := rdr_new (h.bel b13) (by omega) hW
  rw [z3] at hr
  refine ⟨⟨?_, ?_, ?_, b13.trans (b4.mono (by omega))⟩, hr, by omega⟩
  · unfold MB
    rw [b4.block _ (by omega), b3.block _ (by omega), b2.block _ (by omega), e1]
    rfl
  · rw [b4.block _ (by omega), b3.block _ (by omega), ← z1, e2]
  · rw [b4.block _ (by omega), ← z2, e3]
/-- what is there already is laid anew -/
theorem setCell_self {w : World} {b i : Nat} {cs : Array Value} {t : TypeId} {v : Value} (h : w.heap[b]? = some (Obj.cells cs t)) (hv : cs[i]? = some v) : w.setCell ⟨b, i, none⟩ v = w := by
  obtain ⟨hb, e⟩ := Array.getElem?_eq_some_iff.1 h
  obtain ⟨hi, e2⟩ := Array.getElem?_eq_some_iff.1 hv
  have h1 : (w.setCell ⟨b, i, none⟩ v).heap = w.heap := by
    apply Array.ext_getElem?
    intro k
    by_cases hk : k = b
    · subst hk
      rw [heap_setCell_same w k i cs t v h, h]
      congr 2
      apply Array.ext_getElem?
      intro j
      rw [Array.getElem?_setIfInBounds]
      by_cases hj : i = j
      · subst hj
        rw [if_pos rfl, if_pos hi, hv]
      · rw [if_neg hj]
    · exact heap_setCell_other w ⟨b, i, none⟩ k v hk
  unfold World.setCell at h1 ⊢
  dsimp only at h1
  rw [h1]
theorem MB.self {bm : Nat} {m : Ms} {s : Sl} {w : World} (h : MB bm m s w) (i : Nat) (v : Value) (hv : (msL m s)[i]? = some v) : w.setCell ⟨bm, i, none⟩ v = w := setCell_self h (by simpa using hv)
/-- what is caught: a message that tells nothing, and ErrForm -/
theorem rb_zero {w X : World} {bm bb be : Nat} {m : Ms} {s : Sl} {bv ev : Value} (h : RbS w bm bb be X m s bv ev) (d1 : ¬ bm = bb) (d2 : ¬ bm = be) (d3 : ¬ bb = be) (h1 : w.heap.size ≤ bm) (h2 : w.heap.size ≤ bb) (h3 : w.heap.size ≤ be) : ∃ Z, ((((((((((((((((((((X).setCell ⟨bm, 0, none⟩ (.int .i64 0)).setCell ⟨bm, 1, none⟩ (.int .i64 0)).setCell ⟨bm, 2, none⟩ (.int .i64 0)).setCell ⟨bm, 3, none⟩ (.int .i64 0)).setCell ⟨bm, 4, none⟩ (.int .i64 0)).setCell ⟨bm, 5, none⟩ (.slice none 0 0)).setCell ⟨bm, 6, none⟩ (.slice none 0 0)).setCell ⟨bm, 7, none⟩ (.int .u32 0)).setCell ⟨bm, 8, none⟩ (.int .i64 0)).setCell ⟨bm, 9, none⟩ (.slice none 0 0)).setCell ⟨bm, 10, none⟩ (.int .i64 0)).setCell ⟨bm, 11, none⟩ (.int .i64 0)).setCell ⟨bm, 12, none⟩ (.int .i64 0)).setCell ⟨bm, 13, none⟩ (.int .u32 0)).setCell ⟨bm, 14, none⟩ (.slice none 0 0)).setCell ⟨bm, 15, none⟩ (.slice none 0 0)).setCell ⟨bm, 16, none⟩ (.int .i64 0)).setCell ⟨bb, 0, none⟩ (.slice none 0 0)).setCell ⟨be, 0, none⟩ (.int .i64 4)) = Z ∧ RbS w bm bb be Z ms0 sZ (.slice none 0 0) (.int .i64 4) := by
  refine ⟨_, rfl, ?_⟩
  have k := h.bel.size
  have hm := h.mb.zero
  have hk := Kr.zero X bm
  obtain ⟨Y, hY⟩ : ∃ Y, (((((((((((((((((X).setCell ⟨bm, 0, none⟩ (.int .i64 0)).setCell ⟨bm, 1, none⟩ (.int .i64 0)).setCell ⟨bm, 2, none⟩ (.int .i64 0)).setCell ⟨bm, 3, none⟩ (.int .i64 0)).setCell ⟨bm, 4, none⟩ (.int .i64 0)).setCell ⟨bm, 5, none⟩ (.slice none 0 0)).setCell ⟨bm, 6, none⟩ (.slice none 0 0)).setCell ⟨bm, 7, none⟩ (.int .u32 0)).setCell ⟨bm, 8, none⟩ (.int .i64 0)).setCell ⟨bm, 9, none⟩ (.slice none 0 0)).setCell ⟨bm, 10, none⟩ (.int .i64 0)).setCell ⟨bm, 11, none⟩ (.int .i64 0)).setCell ⟨bm, 12, none⟩ (.int .i64 0)).setCell ⟨bm, 13, none⟩ (.int .u32 0)).setCell ⟨bm, 14, none⟩ (.slice none 0 0)).setCell ⟨bm, 15, none⟩ (.slice none 0 0)).setCell ⟨bm, 16, none⟩ (.int .i64 0) = Y := ⟨_, rfl⟩
  rw [hY] at hm hk ⊢
  have kY := hk.str.size
  have b1 : Y.heap[bb]? = some (Obj.cells #[bv] 32) := (hk.block bb (Array.getElem?_eq_some_iff.1 h.hb).1 (fun e => d1 e.symm)).trans h.hb
  have b2 : Y.heap[be]? = some (Obj.cells #[ev] 59) := (hk.block be (Array.getElem?_eq_some_iff.1 h.he).1 (fun e => d2 e.symm)).trans h.he
  obtain ⟨V, hV⟩ : ∃ V, Y.setCell ⟨bb, 0, none⟩ (.slice none 0 0) = V := ⟨_, rfl⟩
  have hkV : Kr Y bb V := by rw [← hV]; exact Kr.set _ _ _ _
  have kV := hkV.str.size
  have b3 : V.heap[bb]? = some (Obj.cells #[.slice none 0 0] 32) := by rw [← hV, heap_setCell_same Y bb 0 _ _ _ b1]; rfl
  have b4 : V.heap[be]? = some (Obj.cells #[ev] 59) := (hkV.block be (Array.getElem?_eq_some_iff.1 b2).1 (fun e => d3 e.symm)).trans b2
  rw [hV]
  have hkU : Kr V be (V.setCell ⟨be, 0, none⟩ (.int .i64 4)) := Kr.set _ _ _ _
  refine ⟨(hm.blk (hkV.block bm hm.lt d1)).blk (hkU.block bm (Nat.lt_of_lt_of_le hm.lt kV) d2), (hkU.block bb (Array.getElem?_eq_some_iff.1 b3).1 d3).trans b3, ?_, h.bel.trans ((hk.below h1 k).trans ((hkV.below h2 (by omega)).trans (hkU.below h3 (by omega))))⟩
  rw [heap_setCell_same V be 0 _ _ _ b4]
  rfl
/-- the results are read -/
theorem rb_res {w W : World} {bm bb be : Nat} {m : Ms} {s : Sl} {ba : Option Addr} {bn bc : Nat} {k : Int} (h : RbS w bm bb be W m s (.slice ba bn bc) (.int .i64 k)) {tm : Array Value} (t4 : (tm[4]?).getD undef = .pointer (some ⟨bm, 0, none⟩)) (t5 : (tm[5]?).getD undef = .pointer (some ⟨bb, 0, none⟩)) (t6 : (tm[6]?).getD undef = .pointer (some ⟨be, 0, none⟩)) : (results Try.f73 tm).run Try.prog W = .ok (.tuple #[msV m s, .slice ba bn bc, .int .i64 k]) W := by
  obtain ⟨c0, c1, c2, c3, c4, c5, c6, c7, c8, c9, c10, c11, c12, c13, c14, c15, c16⟩ := h.mb.box
  have cb : W.cell? ⟨bb, 0, none⟩ = some (.slice ba bn bc) := by unfold World.cell?; rw [h.hb]; rfl
  have ce : W.cell? ⟨be, 0, none⟩ = some (.int .i64 k) := by unfold World.cell?; rw [h.he]; rfl
  unfold msV
  simp [results, Try.results73, go_sem, t4, t5, t6, c0, c1, c2, c3, c4, c5, c6, c7, c8, c9, c10, c11, c12, c13, c14, c15, c16, cb, ce]
theorem mload_run {o : Oper} (x : Operand) (ho : o.op = .load 54 x) {ρ : Operand → Value} {bm : Nat} (hx : ρ x = .pointer (some ⟨bm, 0, none⟩)) {m : Ms} {s : Sl} {W : World} (h : MB bm m s W) : (execOp ρ o).run Try.prog W = .ok (.value (msV m s)) W := by
  obtain ⟨c0, c1, c2, c3, c4, c5, c6, c7, c8, c9, c10, c11, c12, c13, c14, c15, c16⟩ := h.box
  unfold execOp msV
  rw [ho]
  simp [go_sem, hx, c0, c1, c2, c3, c4, c5, c6, c7, c8, c9, c10, c11, c12, c13, c14, c15, c16]
theorem mstore_run {o : Oper} (x y : Operand) (ho : o.op = .store 54 x y) {ρ : Operand → Value} {bm : Nat} {m : Ms} {s : Sl} {W : World} (hx : ρ x = .pointer (some ⟨bm, 0, none⟩)) (hy : ρ y = msV m s) (h : MB bm m s W) : (execOp ρ o).run Try.prog W = .ok .skip W := by
  obtain ⟨c0, c1, c2, c3, c4, c5, c6, c7, c8, c9, c10, c11, c12, c13, c14, c15, c16⟩ := h.box
  have g0 := h.fro 0
  have s0 : W.setCell ⟨bm, 0, none⟩ _ = W := h.self 0 _ rfl
  have g1 := h.fro 1
  have s1 : W.setCell ⟨bm, 1, none⟩ _ = W := h.self 1 _ rfl
  have g2 := h.fro 2
  have s2 : W.setCell ⟨bm, 2, none⟩ _ = W := h.self 2 _ rfl
  have g3 := h.fro 3
  have s3 : W.setCell ⟨bm, 3, none⟩ _ = W := h.self 3 _ rfl
  have g4 := h.fro 4
  have s4 : W.setCell ⟨bm, 4, none⟩ _ = W := h.self 4 _ rfl
  have g5 := h.fro 5
  have s5 : W.setCell ⟨bm, 5, none⟩ _ = W := h.self 5 _ rfl
  have g6 := h.fro 6
  have s6 : W.setCell ⟨bm, 6, none⟩ _ = W := h.self 6 _ rfl
  have g7 := h.fro 7
  have s7 : W.setCell ⟨bm, 7, none⟩ _ = W := h.self 7 _ rfl
  have g8 := h.fro 8
  have s8 : W.setCell ⟨bm, 8, none⟩ _ = W := h.self 8 _ rfl
  have g9 := h.fro 9
  have s9 : W.setCell ⟨bm, 9, none⟩ _ = W := h.self 9 _ rfl
  have g10 := h.fro 10
  have s10 : W.setCell ⟨bm, 10, none⟩ _ = W := h.self 10 _ rfl
  have g11 := h.fro 11
  have s11 : W.setCell ⟨bm, 11, none⟩ _ = W := h.self 11 _ rfl
  have g12 := h.fro 12
  have s12 : W.setCell ⟨bm, 12, none⟩ _ = W := h.self 12 _ rfl
  have g13 := h.fro 13
  have s13 : W.setCell ⟨bm, 13, none⟩ _ = W := h.self 13 _ rfl
  have g14 := h.fro 14
  have s14 : W.setCell ⟨bm, 14, none⟩ _ = W := h.self 14 _ rfl
  have g15 := h.fro 15
  have s15 : W.setCell ⟨bm, 15, none⟩ _ = W := h.self 15 _ rfl
  have g16 := h.fro 16
  have s16 : W.setCell ⟨bm, 16, none⟩ _ = W := h.self 16 _ rfl
  unfold msV at hy
  unfold execOp
  rw [ho]
  simp [go_sem, hx, hy, c0, g0, s0, c1, g1, s1, c2, g2, s2, c3, g3, s3, c4, g4, s4, c5, g5, s5, c6, g6, s6, c7, g7, s7, c8, g8, s8, c9, g9, s9, c10, g10, s10, c11, g11, s11, c12, g12, s12, c13, g13, s13, c14, g14, s14, c15, g15, s15, c16, g16, s16]
theorem cload_run {o : Oper} (x : Operand) (ho : o.op = .load 32 x) {ρ : Operand → Value} {b : Nat} (hx : ρ x = .pointer (some ⟨b, 0, none⟩)) {ba : Option Addr} {bn bc : Nat} {W : World} (h : W.heap[b]? = some (Obj.cells #[.slice ba bn bc] 32)) : (execOp ρ o).run Try.prog W = .ok (.value (.slice ba bn bc)) W := by
  have cb : W.cell? ⟨b, 0, none⟩ = some (.slice ba bn bc) := by unfold World.cell?; rw [h]; rfl
  unfold execOp
  rw [ho]
  simp [go_sem, hx, cb]
theorem cstore_run {o : Oper} (x y : Operand) (ho : o.op = .store 32 x y) {ρ : Operand → Value} {b : Nat} (hx : ρ x = .pointer (some ⟨b, 0, none⟩)) {ba : Option Addr} {bn bc : Nat} (hy : ρ y = .slice ba bn bc) {W : World} (h : W.heap[b]? = some (Obj.cells #[.slice ba bn bc] 32)) : (execOp ρ o).run Try.prog W = .ok .skip W := by
  have cb : W.cell? ⟨b, 0, none⟩ = some (.slice ba bn bc) := by unfold World.cell?; rw [h]; rfl
  have gb : W.frozen? ⟨b, 0, none⟩ = false := by unfold World.frozen?; rw [h]; rfl
  have sb : W.setCell ⟨b, 0, none⟩ (.slice ba bn bc) = W := setCell_self h rfl
  unfold execOp
  rw [ho]
  simp [go_sem, hx, hy, cb, gb, sb]
theorem estore_run {o : Oper} (x y : Operand) (ho : o.op = .store 59 x y) {ρ : Operand → Value} {b : Nat} (hx : ρ x = .pointer (some ⟨b, 0, none⟩)) {k : Int} (hy : ρ y = .int .i64 k) {W : World} (h : W.heap[b]? = some (Obj.cells #[.int .i64 k] 59)) : (execOp ρ o).run Try.prog W = .ok .skip W := by
  have cb : W.cell? ⟨b, 0, none⟩ = some (.int .i64 k) := by unfold World.cell?; rw [h]; rfl
  have gb : W.frozen? ⟨b, 0, none⟩ = false := by unfold World.frozen?; rw [h]; rfl
  have sb : W.setCell ⟨b, 0, none⟩ (.int .i64 k) = W := setCell_self h rfl
  unfold execOp
  rw [ho]
  simp [go_sem, hx, hy, cb, gb, sb]
end Go.Proofs.Ytanboekdfdafmaa.Pv
