/- A queue's turns: Push, Pop of the methods; of the heap. -/
import Derived.Test.YthhdpfgepjmgkaaDjI
namespace Go.Proofs.Ythhdpfgepjmgkaa.Dj
open Go.ChangeShapes Go.WideShapes Go.ChangeAt Go.RowKit Go.Joins Go.Deep Go.Proofs.Ythhdpfgepjmgkaa.Ge
set_option linter.unusedVariables false
set_option linter.unusedSimpArgs false

/-- nothing below has turned but for F -/
structure Kf (F : Nat → Prop) (W W' : World) : Prop where
  str : Below 0 W W'
  blk : ∀ b, b < W.heap.size → ¬ F b → W'.heap[b]? = W.heap[b]?
theorem Kf.refl (F : Nat → Prop) (W : World) : Kf F W W := ⟨Below.refl _ _, fun _ _ _ => rfl⟩
theorem Kf.size {F : Nat → Prop} {W W' : World} (h : Kf F W W') : W.heap.size ≤ W'.heap.size := h.str.size
theorem Kf.trans {F G : Nat → Prop} {W W1 W2 : World} (h : Kf F W W1) (k : Kf G W1 W2) (hG : ∀ b, b < W.heap.size → G b → F b) : Kf F W W2 := ⟨h.str.trans k.str, fun b hb hn => (k.blk b (Nat.lt_of_lt_of_le hb h.size) (fun c => hn (hG b hb c))).trans (h.blk b hb hn)⟩
theorem Kf.of_ko {F : Nat → Prop} {W W' : World} {g : Nat} (h : Ko W g W') (hg : g < W.heap.size → F g) : Kf F W W' := ⟨h.str, fun b hb hn => h.block b (fun e => hn (by rw [e]; exact hg (by rw [← e]; exact hb)))⟩
theorem Kf.of_bel {F : Nat → Prop} {W W' : World} (h : Below W.heap.size W W') : Kf F W W' := ⟨h.mono (Nat.zero_le _), fun b hb _ => h.block b hb⟩
theorem Kf.of_grown {F : Nat → Prop} {W W' : World} {o : Option Nat} (h : W.grownBy W' o) (ho : ∀ g, o = some g → F g) : Kf F W W' := ⟨(Below.refl 0 W).grown h (Nat.zero_le _) (fun _ _ => Nat.zero_le _), fun b hb hn => h.block b hb (fun e => hn (ho b e.symm))⟩
theorem Kf.mono {F G : Nat → Prop} {W W' : World} (h : Kf F W W') (hF : ∀ b, F b → G b) : Kf G W W' := ⟨h.str, fun b hb hn => h.blk b hb (fun c => hn (hF b c))⟩
theorem Kf.below {F : Nat → Prop} {W W' : World} {N : Nat} (h : Kf F W W') (hN : N ≤ W.heap.size) (hF : ∀ b, F b → N ≤ b) : Below N W W' := ⟨h.str.os, h.str.tape, h.str.output, h.str.size, fun k hk => h.blk k (by omega) (fun c => by have := hF k c; omega)⟩
/-- a queue's struct, its turns -/
structure Qt (N qb : Nat) (u : Value) (v : Value) (xs : List Tn) (W : World) : Prop where
  box : SB QuK qb [v, u] W
  own : OwnL ET N W v xs
  ne : ∀ g, v.ownBlock = some g → qb ≠ g
def fpT (qb : Nat) (v : Value) (b : Nat) : Prop := b = qb ∨ v.ownBlock = some b
theorem Qt.tq {N qb g n c : Nat} {u : Value} {xs : List Tn} {W : World} (h : Qt N qb u (.slice (some ⟨g, 0, none⟩) n c) xs W) : TQ N qb g n c xs W := ⟨h.box.cell 0, h.own, h.ne g rfl⟩
theorem Qt.of_tq {N qb g n c : Nat} {u : Value} {xs ys : List Tn} {W W' : World} (h : Qt N qb u (.slice (some ⟨g, 0, none⟩) n c) xs W) (ht : TQ N qb g n c ys W') (hk : Ko W g W') : Qt N qb u (.slice (some ⟨g, 0, none⟩) n c) ys W' := ⟨h.box.blk (hk.block qb ht.ne), ht.own, h.ne⟩
theorem Qt.bel {N qb : Nat} {u v : Value} {xs : List Tn} {W W' : World} (h : Qt N qb u v xs W) (hb : Below W.heap.size W W') : Qt N qb u v xs W' := ⟨h.box.blk (hb.block qb h.box.lt), h.own.bel hb, h.ne⟩
theorem Qt.blk {N qb : Nat} {u v : Value} {xs : List Tn} {W W' : World} (h : Qt N qb u v xs W) (hb : ∀ b, fpT qb v b → b < W.heap.size → W'.heap[b]? = W.heap[b]?) : Qt N qb u v xs W' := ⟨h.box.blk (hb qb (.inl rfl) h.box.lt), h.own.blk (fun g e => hb g (.inr e) (h.own.row.lt g e).2), h.ne⟩
theorem Qt.form {N qb : Nat} {u v : Value} {xs : List Tn} {W : World} (h : Qt N qb u v xs W) (h0 : xs ≠ []) : ∃ g c, v = .slice (some ⟨g, 0, none⟩) xs.length c ∧ xs.length ≤ c := by
  rcases h.own.row.2 with ⟨h1, h2⟩ | ⟨g, c, cur, h1, h2, h3, h4, h5⟩
  · exact absurd (List.length_eq_zero_iff.1 h2) h0
  · exact ⟨g, c, h1, h4⟩
theorem cs_take {α : Type} (E : El α) : ∀ (xs : List α) (i : Nat), E.cs (xs.take i) = (E.cs xs).take (i * E.k)
  | [], i => by rw [List.take_nil]; show ([] : List Value) = List.take _ []; rw [List.take_nil]
  | x :: xs, 0 => by rw [List.take_zero, Nat.zero_mul, List.take_zero]; rfl
  | x :: xs, i + 1 => by
    rw [List.take_succ_cons]
    show E.enc x ++ E.cs (xs.take i) = (E.enc x ++ E.cs xs).take ((i + 1) * E.k)
    have e1 : (E.enc x).take ((i + 1) * E.k) = E.enc x := List.take_of_length_le (by rw [E.hlen x]; exact Nat.le_mul_of_pos_left _ (by omega))
    have e2 : (i + 1) * E.k - (E.enc x).length = i * E.k := by rw [E.hlen x, Nat.succ_mul]; omega
    rw [List.take_append, e1, e2, cs_take E xs i]
theorem own_take {α : Type} {E : El α} {N g n c : Nat} {W : World} {xs : List α} (h : OwnL E N W (.slice (some ⟨g, 0, none⟩) n c) xs) {i : Nat} (hi : i ≤ n) : OwnL E N W (.slice (some ⟨g, 0, none⟩) i c) (xs.take i) := by
  have hn := h.lst.2
  rcases h.row.2 with ⟨h1, h2⟩ | ⟨g', c', cur, h1, h2, h3, h4, h5, h6, h7⟩
  · cases h1
  · cases h1
    have hl : (xs.take i).length = i := by rw [List.length_take]; omega
    refine ⟨by rw [cs_len], .inr ⟨g, c, cur, by rw [hl], h2, h3, by rw [hl]; omega, h5, h6, ?_⟩⟩
    rw [hl, cs_take, ← h7, List.take_take, Nat.min_eq_left (Nat.mul_le_mul_right _ (by omega))]
theorem tbuild_run {o : Oper} (x : Operand) (ho : o.op = .buildSlice 92 1 #[(0, x)]) {ρ : Operand → Value} {m : Tn} {W : World} (hx : ρ x = .agg (tnL m).toArray) : (execOp ρ o).run Try.prog W = .ok (.value (.slice (some ⟨W.heap.size, 0, none⟩) 1 1)) (W.alloc (Obj.cells (tnL m).toArray 77)) := by
  unfold execOp
  rw [ho]
  simp [go_sem, hx, tnL]
theorem tbuild_step {o : Oper} {a : Act} {W : World} {K : Act → World → Prop} {Q : Exit → Act → World → Prop} {c : Bool} {E : Prop} (x : Operand) (ho : o.op = .buildSlice 92 1 #[(0, x)]) {m : Tn} (hx : a.eval x = .agg (tnL m).toArray) (hc : c = true)
    (k : ∀ b W', Hid (W.heap.size = b) → Hid (Lst ET W' (some ⟨b, 0, none⟩) [m]) → Hid (Below W.heap.size W W') → K (a.put o.dst (.slice (some ⟨b, 0, none⟩) 1 1)) W') : if c = true then Oper.wp Try.prog o a W K Q else E :=
  step_run hc (tbuild_run x ho hx) (k _ _ rfl ((own_made ET (W := W) [m] 1 rfl (by decide) rfl).1.lst.1) ((Below.refl _ W).alloc (Nat.le_refl _) _))
theorem run_putT {W : World} {b k : Nat} {u : Value} {a : Option Addr} {n c : Nat} (hc : W.cell? ⟨b, k, none⟩ = some u) (hf : W.frozen? ⟨b, k, none⟩ = false) {o : Oper} {ρ : Operand → Value} (x y : Operand) (ho : o.op = .store 92 x y) (hx : ρ x = .pointer (some ⟨b, k, none⟩)) (hy : ρ y = .slice a n c) : (execOp ρ o).run Try.prog W = .ok .skip (W.setCell ⟨b, k, none⟩ (.slice a n c)) := by
  have a2 := Try.isAgg92
  have z2 := Try.sizeOf92
  unfold execOp
  rw [ho]
  simp [go_sem, hx, hy, hc, hf, a2, z2]
def PuPost (w : World) (N qb : Nat) (u v : Value) (xs : List Tn) (x : Tn) (e : Ending) (w' : World) : Prop := e = .returned (.tuple #[]) ∧ ∃ v', Qt N qb u v' (xs ++ [x]) w' ∧ Kf (fpT qb v) w w' ∧ ∀ g, v'.ownBlock = some g → v.ownBlock = some g ∨ w.heap.size ≤ g
set_option maxRecDepth 100000 in
set_option maxHeartbeats 16000000 in
theorem tpush_any (N qb : Nat) (u v : Value) (xs : List Tn) (x : Tn) (w : World) (hN : N ≤ w.heap.size) (hl : xs.length < 1000000000) (h : Qt N qb u v xs w) : Calls Try.prog 110 #[.pointer (some ⟨qb, 0, none⟩), .iface 77 (.agg (tnL x).toArray)] w (PuPost w N qb u v xs x) := by
  obtain ⟨va, vc, rfl, -, -, -⟩ := h.own.form
  obtain ⟨n, hn⟩ : ∃ y, xs.length = y := ⟨_, rfl⟩
  rw [hn] at h ⊢
  have HN : Hid (xs.length = n) := hn
  have HNN : Hid (N ≤ w.heap.size) := hN
  have HL : Hid (xs.length < 1000000000) := hl
  have HQ : Hid (Qt N qb u (.slice va n vc) xs w) := h
  clear hn h hl hN
  go_enter Try.func110, Try.ntmps110
  go_wp2_with fail
  refine wp_region_held_drew (S := fun _ => True) (by kernel_rfl) trivial (fun hHeld => ?_)
  obtain ⟨wd, hwd⟩ : ∃ y, w.drew = y := ⟨_, rfl⟩
  have HD : Hid (Qt N qb u (.slice va n vc) xs wd) := by rw [← hwd]; exact HQ.out.bel (drew_bel w)
  have HBD : Hid (Below w.heap.size w wd) := by rw [← hwd]; exact drew_bel w
  have HRD : Hid (∀ W', Below wd.heap.size wd W' → W'.cell? ⟨qb, 0, none⟩ = some (.slice va n vc)) := fun W' hb => (HD.out.bel hb).box.cell 0
  rw [hwd]
  clear hwd
  refine wpAnyH_take (i := 0) (v := .pointer (some ⟨qb, 0, none⟩)) rfl (by kernel_rfl) (by kernel_rfl) (by kernel_rfl) (fun _ _ _ h => h) (Or.inl ⟨by rfl, ?_⟩) (by assumption) ?_
  case refine_1 => intro W hSw; go_simp; try rfl
  try simp only [Act.put, List.getElem_toArray, List.getElem_cons_zero, List.getElem_cons_succ, List.setIfInBounds_toArray, List.set_cons_zero, List.set_cons_succ]
  refine wpAnyH_take (i := 1) (v := .pointer (some ⟨qb, 0, none⟩)) rfl (by kernel_rfl) (by kernel_rfl) (by kernel_rfl) (fun _ _ _ h => h) (Or.inl ⟨by rfl, ?_⟩) (by assumption) ?_
  case refine_1 => intro W hSw; go_simp; try rfl
  try simp only [Act.put, List.getElem_toArray, List.getElem_cons_zero, List.getElem_cons_succ, List.setIfInBounds_toArray, List.set_cons_zero, List.set_cons_succ]
  refine wpAnyH_take (i := 2) (v := .pointer (some ⟨qb, 0, none⟩)) rfl (by kernel_rfl) (by kernel_rfl) (by kernel_rfl) (fun _ _ _ h => h) (Or.inl ⟨by rfl, ?_⟩) (by assumption) ?_
  case refine_1 => intro W hSw; go_simp; try rfl
  try simp only [Act.put, List.getElem_toArray, List.getElem_cons_zero, List.getElem_cons_succ, List.setIfInBounds_toArray, List.set_cons_zero, List.set_cons_succ]
  refine wpAnyH_take (i := 4) (v := .iface 77 (.agg (tnL x).toArray)) rfl (by kernel_rfl) (by kernel_rfl) (by kernel_rfl) (fun _ _ _ h => h) (Or.inl ⟨by rfl, ?_⟩) (by assumption) ?_
  case refine_1 => intro W hSw; go_simp; try rfl
  try simp only [Act.put, List.getElem_toArray, List.getElem_cons_zero, List.getElem_cons_succ, List.setIfInBounds_toArray, List.set_cons_zero, List.set_cons_succ]
  refine wpAnyH_take (i := 5) (v := .agg (tnL x).toArray) rfl (by kernel_rfl) (by kernel_rfl) (by kernel_rfl) (fun _ _ _ h => h) (Or.inl ⟨by rfl, ?_⟩) (by assumption) ?_
  case refine_1 => intro W hSw; go_simp; try rfl
  try simp only [Act.put, List.getElem_toArray, List.getElem_cons_zero, List.getElem_cons_succ, List.setIfInBounds_toArray, List.set_cons_zero, List.set_cons_succ]
  refine wpAnyH_ready (rs := [3, 6]) (by kernel_rfl) (by simp) ?_
  refine AllReadyH.cons rfl (fun K hK => ?_) (AllReadyH.cons rfl (fun K hK => ?_) AllReadyH.nil)
  · skip
    go_simp
    have c0 : wd.cell? ⟨qb, 0, none⟩ = some (.slice va n vc) := HRD.out wd (Below.refl _ _)
    go_simp
    refine hK.out _ _ trivial (fun hHeld => ?_)
    clear hK K c0
    try simp only [Act.put, List.getElem_toArray, List.getElem_cons_zero, List.getElem_cons_succ, List.setIfInBounds_toArray, List.set_cons_zero, List.set_cons_succ]
    refine wpAnyH_ready (rs := [6]) (by kernel_rfl) (by simp) ?_
    refine AllReadyH.cons rfl (fun K hK => ?_) AllReadyH.nil
    refine tbuild_step (.tmp 9) rfl (m := x) rfl rfl (fun b9 w2 hb hx hbl => ?_)
    refine hK.out _ _ trivial (fun hHeld => ?_)
    have HB2 : Hid (Below wd.heap.size wd w2) := hbl.out
    have HLX : Hid (Lst ET w2 (some ⟨b9, 0, none⟩) [x]) := hx.out
    clear hK K hb hx hbl
    try simp only [Act.put, List.getElem_toArray, List.getElem_cons_zero, List.getElem_cons_succ, List.setIfInBounds_toArray, List.set_cons_zero, List.set_cons_succ]
    refine wpAnyH_ready (rs := [7]) (by kernel_rfl) (by simp) ?_
    refine AllReadyH.cons rfl (fun K hK => ?_) AllReadyH.nil
    refine step_appL ET (.tmp 7) (.tmp 10) 92 rfl rfl N (.slice va n vc) xs [x] (some ⟨b9, 0, none⟩) 1 1 w2 (by have := HL.out; omega) rfl (HD.out.own.bel HB2.out) rfl HLX.out (fun e => by cases e) rfl (Nat.le_trans HNN.out (Nat.le_trans HBD.out.size HB2.out.size)) rfl (fun v3 w3 ho3 hg3 ha3 => ?_)
    refine hK.out _ _ trivial (fun hHeld => ?_)
    clear hK K
    obtain ⟨va3, vc3, rfl, -, -, -⟩ := ho3.out.form
    obtain ⟨n3, hn3⟩ : ∃ y, (xs ++ [x]).length = y := ⟨_, rfl⟩
    have HO3 : Hid (OwnL ET N w3 (.slice va3 n3 vc3) (xs ++ [x])) := by rw [← hn3]; exact ho3.out
    have HA3 : Hid (∀ g, (Value.slice va3 n3 vc3).ownBlock = some g → (Value.slice va n vc).ownBlock = some g ∨ w2.heap.size ≤ g) := fun g e => by
      rw [← hn3] at e
      rcases ha3.out with h | h
      · exact .inl (by rw [← h]; exact e)
      · rw [h] at e; cases e; exact .inr (Nat.le_refl _)
    have HS3 : Hid (SB QuK qb [.slice va n vc, u] w3) := (HD.out.bel HB2.out).box.blk (hg3.out.block qb (HD.out.bel HB2.out).box.lt (fun e => HD.out.ne qb e.symm rfl))
    have HK3 : Hid (Kf (fpT qb (.slice va n vc)) w w3) := (Kf.of_bel (HBD.out.trans (HB2.out.mono HBD.out.size))).trans (Kf.of_grown hg3.out (F := fpT qb (.slice va n vc)) (fun g e => .inr e)) (fun b _ e => e)
    rw [hn3]
    clear ho3 hg3 ha3 hn3
    try simp only [Act.put, List.getElem_toArray, List.getElem_cons_zero, List.getElem_cons_succ, List.setIfInBounds_toArray, List.set_cons_zero, List.set_cons_succ]
    refine wpAnyH_take (i := 8) (v := .pointer (some ⟨qb, 0, none⟩)) rfl (by kernel_rfl) (by kernel_rfl) (by kernel_rfl) (fun _ _ _ h => h) (Or.inl ⟨by rfl, ?_⟩) (by assumption) ?_
    case refine_1 => intro W hSw; go_simp; try rfl
    try simp only [Act.put, List.getElem_toArray, List.getElem_cons_zero, List.getElem_cons_succ, List.setIfInBounds_toArray, List.set_cons_zero, List.set_cons_succ]
    refine wpAnyH_ready (rs := [9]) (by kernel_rfl) (by simp) ?_
    refine AllReadyH.cons rfl (fun K hK => ?_) AllReadyH.nil
    have hc0 : w3.cell? ⟨qb, 0, none⟩ = some (.slice va n vc) := HS3.out.cell 0
    refine step_runs rfl (run_putT hc0 (HS3.out.fro 0) (.tmp 12) (.tmp 11) rfl rfl rfl) ?_
    refine hK.out _ _ trivial (fun hHeld => ?_)
    clear hK K hc0
    have HKS := Ko.set w3 qb 0 (.slice va3 n3 vc3)
    have HE : Hid (PuPost w N qb u (.slice va n vc) xs x (.returned (.tuple #[])) (w3.setCell ⟨qb, 0, none⟩ (.slice va3 n3 vc3))) := by
      refine ⟨rfl, .slice va3 n3 vc3, ⟨HS3.out.set 0 _ rfl, HO3.out.blk (fun g e => HKS.block g (fun c => ?_)), fun g e c => ?_⟩, HK3.out.trans (Kf.of_ko HKS (F := fpT qb (.slice va n vc)) (fun _ => .inl rfl)) (fun b _ e => e), fun g e => ?_⟩
      · subst c
        rcases HA3.out g e with h | h
        · exact HD.out.ne g h rfl
        · have := HD.out.box.lt; have := HB2.out.size; omega
      · subst c
        rcases HA3.out qb e with h | h
        · exact HD.out.ne qb h rfl
        · have := HD.out.box.lt; have := HB2.out.size; omega
      · rcases HA3.out g e with h | h
        · exact .inl h
        · exact .inr (by have := HB2.out.size; have := HBD.out.size; omega)
    clear HKS
    refine wpAnyH_done (by kernel_rfl) ?_ _
    clear hHeld
    go_wp2_with fail
    go_end0
    exact HE.out
  · skip
    refine tbuild_step (.tmp 9) rfl (m := x) rfl rfl (fun b9 w2 hb hx hbl => ?_)
    refine hK.out _ _ trivial (fun hHeld => ?_)
    have HB2 : Hid (Below wd.heap.size wd w2) := hbl.out
    have HLX : Hid (Lst ET w2 (some ⟨b9, 0, none⟩) [x]) := hx.out
    clear hK K hb hx hbl
    try simp only [Act.put, List.getElem_toArray, List.getElem_cons_zero, List.getElem_cons_succ, List.setIfInBounds_toArray, List.set_cons_zero, List.set_cons_succ]
    refine wpAnyH_ready (rs := [3]) (by kernel_rfl) (by simp) ?_
    refine AllReadyH.cons rfl (fun K hK => ?_) AllReadyH.nil
    go_simp
    have c0 : w2.cell? ⟨qb, 0, none⟩ = some (.slice va n vc) := HRD.out w2 HB2.out
    go_simp
    refine hK.out _ _ trivial (fun hHeld => ?_)
    clear hK K c0
    try simp only [Act.put, List.getElem_toArray, List.getElem_cons_zero, List.getElem_cons_succ, List.setIfInBounds_toArray, List.set_cons_zero, List.set_cons_succ]
    refine wpAnyH_ready (rs := [7]) (by kernel_rfl) (by simp) ?_
    refine AllReadyH.cons rfl (fun K hK => ?_) AllReadyH.nil
    refine step_appL ET (.tmp 7) (.tmp 10) 92 rfl rfl N (.slice va n vc) xs [x] (some ⟨b9, 0, none⟩) 1 1 w2 (by have := HL.out; omega) rfl (HD.out.own.bel HB2.out) rfl HLX.out (fun e => by cases e) rfl (Nat.le_trans HNN.out (Nat.le_trans HBD.out.size HB2.out.size)) rfl (fun v3 w3 ho3 hg3 ha3 => ?_)
    refine hK.out _ _ trivial (fun hHeld => ?_)
    clear hK K
    obtain ⟨va3, vc3, rfl, -, -, -⟩ := ho3.out.form
    obtain ⟨n3, hn3⟩ : ∃ y, (xs ++ [x]).length = y := ⟨_, rfl⟩
    have HO3 : Hid (OwnL ET N w3 (.slice va3 n3 vc3) (xs ++ [x])) := by rw [← hn3]; exact ho3.out
    have HA3 : Hid (∀ g, (Value.slice va3 n3 vc3).ownBlock = some g → (Value.slice va n vc).ownBlock = some g ∨ w2.heap.size ≤ g) := fun g e => by
      rw [← hn3] at e
      rcases ha3.out with h | h
      · exact .inl (by rw [← h]; exact e)
      · rw [h] at e; cases e; exact .inr (Nat.le_refl _)
    have HS3 : Hid (SB QuK qb [.slice va n vc, u] w3) := (HD.out.bel HB2.out).box.blk (hg3.out.block qb (HD.out.bel HB2.out).box.lt (fun e => HD.out.ne qb e.symm rfl))
    have HK3 : Hid (Kf (fpT qb (.slice va n vc)) w w3) := (Kf.of_bel (HBD.out.trans (HB2.out.mono HBD.out.size))).trans (Kf.of_grown hg3.out (F := fpT qb (.slice va n vc)) (fun g e => .inr e)) (fun b _ e => e)
    rw [hn3]
    clear ho3 hg3 ha3 hn3
    try simp only [Act.put, List.getElem_toArray, List.getElem_cons_zero, List.getElem_cons_succ, List.setIfInBounds_toArray, List.set_cons_zero, List.set_cons_succ]
    refine wpAnyH_take (i := 8) (v := .pointer (some ⟨qb, 0, none⟩)) rfl (by kernel_rfl) (by kernel_rfl) (by kernel_rfl) (fun _ _ _ h => h) (Or.inl ⟨by rfl, ?_⟩) (by assumption) ?_
    case refine_1 => intro W hSw; go_simp; try rfl
    try simp only [Act.put, List.getElem_toArray, List.getElem_cons_zero, List.getElem_cons_succ, List.setIfInBounds_toArray, List.set_cons_zero, List.set_cons_succ]
    refine wpAnyH_ready (rs := [9]) (by kernel_rfl) (by simp) ?_
    refine AllReadyH.cons rfl (fun K hK => ?_) AllReadyH.nil
    have hc0 : w3.cell? ⟨qb, 0, none⟩ = some (.slice va n vc) := HS3.out.cell 0
    refine step_runs rfl (run_putT hc0 (HS3.out.fro 0) (.tmp 12) (.tmp 11) rfl rfl rfl) ?_
    refine hK.out _ _ trivial (fun hHeld => ?_)
    clear hK K hc0
    have HKS := Ko.set w3 qb 0 (.slice va3 n3 vc3)
    have HE : Hid (PuPost w N qb u (.slice va n vc) xs x (.returned (.tuple #[])) (w3.setCell ⟨qb, 0, none⟩ (.slice va3 n3 vc3))) := by
      refine ⟨rfl, .slice va3 n3 vc3, ⟨HS3.out.set 0 _ rfl, HO3.out.blk (fun g e => HKS.block g (fun c => ?_)), fun g e c => ?_⟩, HK3.out.trans (Kf.of_ko HKS (F := fpT qb (.slice va n vc)) (fun _ => .inl rfl)) (fun b _ e => e), fun g e => ?_⟩
      · subst c
        rcases HA3.out g e with h | h
        · exact HD.out.ne g h rfl
        · have := HD.out.box.lt; have := HB2.out.size; omega
      · subst c
        rcases HA3.out qb e with h | h
        · exact HD.out.ne qb h rfl
        · have := HD.out.box.lt; have := HB2.out.size; omega
      · rcases HA3.out g e with h | h
        · exact .inl h
        · exact .inr (by have := HB2.out.size; have := HBD.out.size; omega)
    clear HKS
    refine wpAnyH_done (by kernel_rfl) ?_ _
    clear hHeld
    go_wp2_with fail
    go_end0
    exact HE.out
theorem list_sat (T : Sk) {ops : Array Oper} {rest : List Oper} {o : Oper} {ac : Act} {Q : Exit → Act → World → Prop} {W : World} (hgd : o.guard = none) (x : Operand) (ho : o.op = .load T.t x) {b k : Nat} {cs : List Value} (hx : ac.eval x = .pointer (some ⟨b, k, none⟩)) (h : ∀ j, j < T.k → W.cell? ⟨b, k + j, none⟩ = cs[j]?) (hl : cs.length = T.k) (kk : wpList Try.prog ops Q rest (ac.put o.dst (.agg cs.toArray)) W) : wpList Try.prog ops Q (o :: rest) ac W := by
  refine wpList_plain hgd fun K hK => ?_
  unfold Oper.wp
  rw [sat_run T x ho hx h hl]
  exact hK _ _ kk
theorem cap_le {α : Type} {E : El α} {N n c : Nat} {a : Option Addr} {W : World} {xs : List α} (h : OwnL E N W (.slice a n c) xs) : n ≤ c := by
  obtain ⟨a', c', e, h1, -⟩ := h.form
  cases e
  exact h1
def PoPost (w : World) (N qb : Nat) (u : Value) (g n c : Nat) (xs : List Tn) (e : Ending) (w' : World) : Prop := ∃ x, e = .returned (.iface 77 (.agg (tnL x).toArray)) ∧ xs[n]? = some x ∧ Qt N qb u (.slice (some ⟨g, 0, none⟩) n c) (xs.take n) w' ∧ Kf (fun b => b = qb) w w'
set_option maxRecDepth 100000 in
set_option maxHeartbeats 16000000 in
theorem tpop_any (N qb : Nat) (u : Value) (g n c : Nat) (xs : List Tn) (w : World) (hn : n < 1099511627776) (h : Qt N qb u (.slice (some ⟨g, 0, none⟩) (n + 1) c) xs w) : Calls Try.prog 109 #[.pointer (some ⟨qb, 0, none⟩)] w (PoPost w N qb u g n c xs) := by
  have hl : xs.length = n + 1 := h.own.lst.2
  have HQ : Hid (Qt N qb u (.slice (some ⟨g, 0, none⟩) (n + 1) c) xs w) := h
  obtain ⟨x, hx⟩ : ∃ y, (xs[n]'(by omega)) = y := ⟨_, rfl⟩
  have HX : Hid (xs[n]? = some x) := by rw [← hx]; exact List.getElem?_eq_getElem (by omega)
  have HC : Hid (n + 1 ≤ c) := cap_le h.own
  have HCX : Hid (∀ k, k < TnK.k → w.cell? ⟨g, n * 2 + k, none⟩ = (tnL x)[k]?) := by rw [← hx]; exact tn_cells h.own (by omega)
  have c0 : w.cell? ⟨qb, 0, none⟩ = some (.slice (some ⟨g, 0, none⟩) (n + 1) c) := h.box.cell 0
  have n0 : (0 : Int) ≤ (n : Int) := by omega
  have n2 : (n : Int) < 1099511627776 := by omega
  obtain ⟨m, hm⟩ : ∃ m, n + 1 = m := ⟨_, rfl⟩
  have hmn : (m : Int) - 1 = (n : Int) := by omega
  have n1 : (n : Int) < (m : Int) := by omega
  have hnc : (n : Int) ≤ (c : Int) := by have := HC.out; omega
  rw [hm] at HQ HC c0
  clear hx h hl hm hn
  go_enter Try.func109, Try.ntmps109
  go_wp2_with (first | (refine list_sat TnK rfl _ rfl (b := g) (k := n * 2) (cs := tnL x) rfl HCX.out rfl ?_) | (refine list_newl TnK _ z_tn rfl rfl ?_))
  intro b4 w1 hb4 hs4 hbl4
  have HS4 : Hid (SB TnK b4 (tnL ⟨0, 0⟩) w1) := hs4.out
  have HB1 : Hid (Below w.heap.size w w1) := hbl4.out
  have HLB : Hid (w.heap.size ≤ b4) := by rw [hb4.out]; exact Nat.le_refl _
  have HQ1 : Hid (Qt N qb u (.slice (some ⟨g, 0, none⟩) m c) xs w1) := HQ.out.bel hbl4.out
  clear hb4 hs4 hbl4 c0
  go_wp2_with (refine list_sstore TnK rfl _ _ rfl (b := b4) (cs := tnL ⟨0, 0⟩) (cs' := tnL x) rfl rfl HS4.out rfl rfl rfl ?_)
  intro w2 hs2 hk2
  have HS2 : Hid (SB TnK b4 (tnL x) w2) := hs2.out
  have HB2 : Hid (Below w.heap.size w w2) := HB1.out.trans (hk2.out.below HLB.out)
  have HQ2 : Hid (Qt N qb u (.slice (some ⟨g, 0, none⟩) m c) xs w2) := HQ.out.bel HB2.out
  have c0 : w2.cell? ⟨qb, 0, none⟩ = some (.slice (some ⟨g, 0, none⟩) m c) := HQ2.out.box.cell 0
  have f0 : w2.frozen? ⟨qb, 0, none⟩ = false := HQ2.out.box.fro 0
  have HK2 := Ko.set w2 qb 0 (.slice (some ⟨g, 0, none⟩) n c)
  have HE : Hid (PoPost w N qb u g n c xs (.returned (.iface 77 (.agg (tnL x).toArray))) (w2.setCell ⟨qb, 0, none⟩ (.slice (some ⟨g, 0, none⟩) n c))) := by
    have hne := HQ2.out.ne g rfl
    exact ⟨x, rfl, HX.out, ⟨HQ2.out.box.set 0 _ rfl, (own_take HQ2.out.own (show n ≤ m by omega)).blk (fun g' e => HK2.block g' (by cases e; exact fun c => hne c.symm)), fun g' e => by cases e; exact hne⟩, (Kf.of_bel HB2.out).trans (Kf.of_ko HK2 (F := fun b => b = qb) (fun _ => rfl)) (fun b _ e => e)⟩
  have HS3 : Hid (SB TnK b4 (tnL x) (w2.setCell ⟨qb, 0, none⟩ (.slice (some ⟨g, 0, none⟩) n c))) := HS2.out.blk (HK2.block b4 (fun c => by have h1 := HQ.out.box.lt; have h2 := HLB.out; omega))
  clear hs2 hk2 HS4 HB1 HQ1 HK2 HQ2
  go_wp2_with (refine list_sload TnK rfl _ rfl (b := b4) (cs := tnL x) rfl HS3.out rfl ?_)
  go_ret
  exact HE.out
end Go.Proofs.Ythhdpfgepjmgkaa.Dj
