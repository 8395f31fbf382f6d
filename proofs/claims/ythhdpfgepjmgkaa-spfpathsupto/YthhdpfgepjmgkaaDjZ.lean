/- settle, the plain part: between two turns, in memory. -/
import Derived.Test.YthhdpfgepjmgkaaDjY
namespace Go.Proofs.Ythhdpfgepjmgkaa.Dj
open Go.ChangeShapes Go.WideShapes Go.ChangeAt Go.RowKit Go.Joins Go.Deep Go.Proofs.Ythhdpfgepjmgkaa.Ge
set_option linter.unusedVariables false
set_option linter.unusedSimpArgs false

theorem isP_end {vs : List Ed} : ∀ (p : List Ed) (a b : Int), isP vs a p b → b = a ∨ ∃ e ∈ vs, e.t = b
  | [], a, b, h => .inl (show a = b from h).symm
  | e :: p, a, b, h => by
    obtain ⟨h1, h2, h3⟩ := h
    rcases isP_end p _ _ h3 with c | c
    · exact .inr ⟨e, h1.1, c.symm⟩
    · exact .inr c
theorem Dij.many {vs : List Ed} {r : Int} {f : Kw} {due : Int → Option Int} {k : Nat} (h : Dij vs r f due k) (n : Int) (hn : f n ≠ none) : n = r ∨ ∃ e ∈ vs, e.t = n := by
  cases hf : f n with
  | none => exact absurd hf hn
  | some p =>
    obtain ⟨d, ls⟩ := p
    obtain ⟨⟨q, hq, -⟩, -⟩ := (h.a n d ls hf).sh
    exact isP_end q _ _ hq
/-- edges of those that are known -/
def kc (vs : List Ed) (f : Kw) : Nat := (vs.filter (fun e => (f e.f).isSome)).length
theorem kc_put (f : Kw) (n d : Int) (ls : List Int) (hn : f n = none) : ∀ vs : List Ed, kc vs (putK f n d ls) = kc vs f + (vs.filter (fun e => decide (e.f = n))).length
  | [] => rfl
  | e :: vs => by
    have ih := kc_put f n d ls hn vs
    unfold kc at ih ⊢
    rw [List.filter_cons, List.filter_cons, List.filter_cons]
    by_cases c : e.f = n
    · have h1 : (putK f n d ls e.f).isSome = true := by unfold putK; rw [if_pos c]; rfl
      have h2 : (f e.f).isSome = false := by rw [c, hn]; rfl
      rw [if_pos h1, h2, if_neg (by simp), if_pos (decide_eq_true c)]
      simp only [List.length_cons]
      omega
    · have h1 : putK f n d ls e.f = f e.f := by unfold putK; rw [if_neg c]
      rw [h1, if_neg (show ¬ decide (e.f = n) = true by simp [c])]
      split
      · simp only [List.length_cons]; omega
      · exact ih
theorem kc_le (vs : List Ed) (f : Kw) : kc vs f ≤ vs.length := List.length_filter_le _ _
/-- routers that may be reached -/
def rts (vs : List Ed) (r : Int) : List Int := r :: vs.map (fun e => e.t)
theorem rts_len (vs : List Ed) (r : Int) : (rts vs r).length = vs.length + 1 := by simp [rts]
structure TI (w : World) (vs : List Ed) (root : Int) (U : List Int) (kb qb db sb : Nat) (f : Kw) (k : Nat) (F : Nat → Prop) (due2 : Int → Option Int) (KQ : Nat) (qv sv : Value) (sx : List Int) (W : World) : Prop where
  kf : Kf (fun g => g = kb) w W
  kn : Kn kb f k F W
  fo : FOk f U
  fl : ∀ g, F g → w.heap.size ≤ g ∧ g < W.heap.size ∧ ¬ fpQ qb db qv g ∧ ¬ fpT sb sv g
  qs : Qs w.heap.size qb db qv KQ due2 W
  ql : ∀ g, fpQ qb db qv g → w.heap.size ≤ g ∧ ¬ fpT sb sv g
  rs : Rs w.heap.size sb sv sx (rts vs root) W
  rl : ∀ g, fpT sb sv g → w.heap.size ≤ g
  kq : KQ ≤ 1 + kc vs f
  kw : kb < w.heap.size
theorem TI.nx {w : World} {vs : List Ed} {root : Int} {U : List Int} {kb qb db sb : Nat} {f : Kw} {k : Nat} {F : Nat → Prop} {due2 : Int → Option Int} {KQ : Nat} {qv sv : Value} {sx : List Int} {W W' : World} (h : TI w vs root U kb qb db sb f k F due2 KQ qv sv sx W) (hb : Below W.heap.size W W') : TI w vs root U kb qb db sb f k F due2 KQ qv sv sx W' :=
  ⟨h.kf.trans (Kf.of_bel (F := fun g => g = kb) hb) (fun _ _ c => c), h.kn.bel hb, h.fo, fun g hg => ⟨(h.fl g hg).1, Nat.lt_of_lt_of_le (h.fl g hg).2.1 hb.size, (h.fl g hg).2.2⟩, h.qs.bel hb, h.ql, h.rs.bel hb, h.rl, h.kq, h.kw⟩
/-- a fresh block is apart from all of it -/
theorem TI.fresh {w : World} {vs : List Ed} {root : Int} {U : List Int} {kb qb db sb : Nat} {f : Kw} {k : Nat} {F : Nat → Prop} {due2 : Int → Option Int} {KQ : Nat} {qv sv : Value} {sx : List Int} {W : World} (h : TI w vs root U kb qb db sb f k F due2 KQ qv sv sx W) {g : Nat} (hg : W.heap.size ≤ g) : ¬ fpQ qb db qv g ∧ ¬ fpT sb sv g ∧ ¬ F g ∧ g ≠ kb := by
  refine ⟨fun c => ?_, fun c => ?_, fun c => ?_, fun c => ?_⟩
  · have := h.qs.lt g c; omega
  · have := h.rs.lt g c; omega
  · have := (h.fl g c).2.1; omega
  · have := h.kn.lt; omega
/-- a call that turned the queue alone -/
theorem TI.queue {w : World} {vs : List Ed} {root : Int} {U : List Int} {kb qb db sb : Nat} {f : Kw} {k : Nat} {F : Nat → Prop} {due2 due3 : Int → Option Int} {KQ KR : Nat} {qv qv' sv : Value} {sx : List Int} {W W' : World} (h : TI w vs root U kb qb db sb f k F due2 KQ qv sv sx W) (hk : Kf (fpQ qb db qv) W W') (hq : Qs w.heap.size qb db qv' KR due3 W') (ho : ∀ g, qv'.ownBlock = some g → qv.ownBlock = some g ∨ W.heap.size ≤ g) (hkr : KR ≤ 1 + kc vs f) : TI w vs root U kb qb db sb f k F due3 KR qv' sv sx W' := by
  have hkb : ¬ fpQ qb db qv kb := fun c => by have h1 := (h.ql kb c).1; have h2 := h.kw; omega
  have hfq : ∀ g, g < W.heap.size → fpQ qb db qv' g → fpQ qb db qv g := fun g hg c => by
    rcases c with c | c | c
    · exact .inl c
    · exact .inr (.inl c)
    · rcases ho g c with d | d
      · exact .inr (.inr d)
      · omega
  refine ⟨h.kf.trans hk (fun g hg c => ?_), h.kn.kf hk (fun g hg c => ?_), h.fo, fun g hg => ⟨(h.fl g hg).1, Nat.lt_of_lt_of_le (h.fl g hg).2.1 hk.size, fun c => (h.fl g hg).2.2.1 (hfq g (h.fl g hg).2.1 c), (h.fl g hg).2.2.2⟩, hq, fun g hg => ?_, h.rs.blk (fun g hg hl => hk.blk g hl (fun c => (h.ql g c).2 hg)), h.rl, hkr, h.kw⟩
  · have := (h.ql g c).1; omega
  · rcases hg with rfl | hg
    · exact hkb c
    · exact (h.fl g hg).2.2.1 c
  · by_cases hl : g < W.heap.size
    · exact h.ql g (hfq g hl hg)
    · exact ⟨Nat.le_trans h.kf.size (by omega), fun c => hl (h.rs.lt g c)⟩
/-- a call that turned the set alone -/
theorem TI.set {w : World} {vs : List Ed} {root : Int} {U : List Int} {kb qb db sb : Nat} {f : Kw} {k : Nat} {F : Nat → Prop} {due2 : Int → Option Int} {KQ : Nat} {qv sv sv' : Value} {sx sx' : List Int} {W W' : World} (h : TI w vs root U kb qb db sb f k F due2 KQ qv sv sx W) (hk : Kf (fpT sb sv) W W') (hr : Rs w.heap.size sb sv' sx' (rts vs root) W') (ho : ∀ g, sv'.ownBlock = some g → sv.ownBlock = some g ∨ W.heap.size ≤ g) : TI w vs root U kb qb db sb f k F due2 KQ qv sv' sx' W' := by
  have hft : ∀ g, g < W.heap.size → fpT sb sv' g → fpT sb sv g := fun g hg c => by
    rcases c with c | c
    · exact .inl c
    · rcases ho g c with d | d
      · exact .inr d
      · omega
  have hkb : ¬ fpT sb sv kb := fun c => by have h1 := h.rl kb c; have h2 := h.kw; omega
  refine ⟨h.kf.trans hk (fun g hg c => ?_), h.kn.kf hk (fun g hg c => ?_), h.fo, fun g hg => ⟨(h.fl g hg).1, Nat.lt_of_lt_of_le (h.fl g hg).2.1 hk.size, (h.fl g hg).2.2.1, fun c => (h.fl g hg).2.2.2 (hft g (h.fl g hg).2.1 c)⟩, h.qs.blk (fun g hg hl => hk.blk g hl (h.ql g hg).2), fun g hg => ⟨(h.ql g hg).1, fun c => (h.ql g hg).2 (hft g (h.qs.lt g hg) c)⟩, hr, fun g hg => ?_, h.kq, h.kw⟩
  · have := h.rl g c; omega
  · rcases hg with rfl | hg
    · exact hkb c
    · exact (h.fl g hg).2.2.2 c
  · by_cases hl : g < W.heap.size
    · exact h.rl g (hft g hl hg)
    · exact Nat.le_trans h.kf.size (by omega)
/-- a store in a box that is apart -/
theorem TI.box {w : World} {vs : List Ed} {root : Int} {U : List Int} {kb qb db sb : Nat} {f : Kw} {k : Nat} {F : Nat → Prop} {due2 : Int → Option Int} {KQ : Nat} {qv sv : Value} {sx : List Int} {W W' : World} (h : TI w vs root U kb qb db sb f k F due2 KQ qv sv sx W) {g : Nat} (hk : Ko W g W') (ha : ¬ fpQ qb db qv g ∧ ¬ fpT sb sv g ∧ ¬ F g ∧ g ≠ kb) (hg : w.heap.size ≤ g := by assumption) : TI w vs root U kb qb db sb f k F due2 KQ qv sv sx W' := by
  have hb : ∀ x, x ≠ g → W'.heap[x]? = W.heap[x]? := hk.block
  have hs : W.heap.size ≤ W'.heap.size := Nat.le_of_eq hk.size.symm
  refine ⟨h.kf.trans (Kf.of_ko (F := fun x => x = g) hk (fun _ => rfl)) (fun x hx c => ?_), h.kn.blk hs (fun x hx hl => hb x (fun c => ?_)), h.fo, fun x hx => ⟨(h.fl x hx).1, Nat.lt_of_lt_of_le (h.fl x hx).2.1 hs, (h.fl x hx).2.2⟩, h.qs.blk (fun x hx hl => hb x (fun c => ha.1 (by rw [← c]; exact hx))), h.ql, h.rs.blk (fun x hx hl => hb x (fun c => ha.2.1 (by rw [← c]; exact hx))), h.rl, h.kq, h.kw⟩
  · omega
  · subst c
    rcases hx with c | c
    · exact ha.2.2.2 c
    · exact ha.2.2.1 c
/-- how many are known, as the world has it -/
def kl (W : World) (kb : Nat) : Nat := match W.heap[kb]? with
  | some (.map m _) => m.size
  | _ => 0
theorem Kn.kl {kb : Nat} {f : Kw} {k : Nat} {F : Nat → Prop} {W : World} (h : Kn kb f k F W) : kl W kb = k := by
  obtain ⟨ks, kc, h1, h2, h3, -⟩ := h.ex
  unfold Dj.kl
  rw [show W.heap[kb]? = _ from h1]
  simp [h3]
/-- at the head: a turn, or none -/
def TH (w : World) (vs : List Ed) (root : Int) (U : List Int) (kb qb db sb b9 : Nat) (ok : Bool) (k : Nat) (W : World) : Prop := ∃ (d n : Int) (f : Kw) (F : Nat → Prop) (due due2 : Int → Option Int) (KQ : Nat) (qv sv : Value) (sx : List Int), TI w vs root U kb qb db sb f k F due2 KQ qv sv sx W ∧ SB TnK b9 (tnL ⟨d, n⟩) W ∧ w.heap.size ≤ b9 ∧ ¬ fpQ qb db qv b9 ∧ ¬ fpT sb sv b9 ∧ ¬ F b9 ∧ Dij vs root f due k ∧ (ok = true → due n = some d ∧ (∀ m dm, due m = some dm → d ≤ dm) ∧ due2 = dropP due n) ∧ (ok = false → ∀ m, due m = none)
def TePost (w : World) (vs : List Ed) (root : Int) (kb : Nat) (U : List Int) (e : Ending) (w' : World) : Prop := ∃ v f k F, e = .returned v ∧ Kn kb f k F w' ∧ Kf (fun g => g = kb) w w' ∧ FOk f U ∧ (∀ g, F g → w.heap.size ≤ g) ∧ (∀ v d ls, f v = some (d, ls) → Told vs root v d ls) ∧ ∀ v p, isP vs root p v → f v ≠ none
/-- a region's end, whatever its order -/
theorem wp_via {P : Program} {c : Code} {Q : Exit → Act → World → Prop} {a : Act} {w : World} (L : Nat → Nat → Rc → Rc → List (Nat × Value)) (R : Nat → Nat → Rc → Rc → World → Prop) (h1 : ∀ b1 b2 q x W, Hid (R b1 b2 q x W) → Q .normal ((L b1 b2 q x).foldl (fun a p => a.put (some p.1) p.2) a) W) (h2 : c.wp P (fun e a' W => ∃ b1 b2 q x, e = .normal ∧ a' = (L b1 b2 q x).foldl (fun a p => a.put (some p.1) p.2) a ∧ R b1 b2 q x W) a w) : c.wp P Q a w :=
  Code.wp_mono (fun e a' W ⟨b1, b2, q, x, e1, e2, r⟩ => by rw [e1, e2]; exact h1 b1 b2 q x W r) h2
end Go.Proofs.Ythhdpfgepjmgkaa.Dj
