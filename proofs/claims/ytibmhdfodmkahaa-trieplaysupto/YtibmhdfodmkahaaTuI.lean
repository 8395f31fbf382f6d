/- TrieLater. -/
import Derived.Test.YtibmhdfodmkahaaTuH
namespace Go.Proofs.Ytibmhdfodmkahaa.Tu
open Go.ChangeShapes Go.WideShapes Go.ChangeAt Go.RowKit Go.Shelf Go.Proofs.Ytibmhdfodmkahaa.PM Go.Proofs.Ytibmhdfodmkahaa.TrM Go.Proofs.Ytibmhdfodmkahaa.Ask Go.Proofs.Ytibmhdfodmkahaa.Tri
set_option linter.unusedVariables false
attribute [local go_sem] Oper.semAt_some

/-- a list in a box, its own block from base on -/
def Bl (B base : Nat) (pre : List (Int × Int × Int)) (v : Value) (W : World) : Prop := Boxed W B 38 v ∧ RowOf W base 43 v pre
theorem Bl.own {B base : Nat} {pre : List (Int × Int × Int)} {v : Value} {A C : World} {row : Option Nat} (h : Bl B base pre v A) (hg : A.grownBy C row) (hr : ∀ r, row = some r → ∃ o : Obj, A.heap[r]? = some o ∧ o.isCells = false) : Bl B base pre v C :=
  ⟨box_own h.1 hg hr, row_own h.2 hg hr⟩
/-- an item is appended to it: what stays -/
theorem Bl.app {B base : Nat} {pre : List (Int × Int × Int)} {v v' : Value} {W w2 : World} {tmp : Obj} {y : Int × Int × Int} (h : Bl B base pre v W) (hN : base ≤ W.heap.size)
    (hown' : w2.ownsRow base 43 3 v' (pre.length + 1) (encs pre ++ [.int .u32 y.1, .int .i64 y.2.1, .int .i64 y.2.2])) (hgrow : (W.alloc tmp).grownBy w2 v.ownBlock) (hat : v'.ownBlock = v.ownBlock ∨ v'.ownBlock = some (W.heap.size + 1)) :
    Boxed w2 B 38 v ∧ Bl B base (pre ++ [y]) v' (w2.setCell ⟨B, 0, none⟩ v') ∧ KeepsOthers W (w2.setCell ⟨B, 0, none⟩ v') ∧ W.heap.size ≤ (w2.setCell ⟨B, 0, none⟩ v').heap.size ∧
      (∀ k, k < W.heap.size → k ≠ B → some k ≠ v.ownBlock → (w2.setCell ⟨B, 0, none⟩ v').heap[k]? = W.heap[k]?) ∧ (∀ n, n ≤ B → n ≤ base → Below n W (w2.setCell ⟨B, 0, none⟩ v')) ∧ (∀ k, k < W.heap.size → some k ≠ v.ownBlock → some k ≠ v'.ownBlock) := by
  obtain ⟨hv, hrow⟩ := h
  have hv1 : Boxed w2 B 38 v := (Boxed.alloc hv tmp).kept hgrow (hv.not_row (by decide) hrow)
  have hsz : W.heap.size + 1 ≤ w2.heap.size := by have := hgrow.size; simpa using this
  have hblk : ∀ k, k < W.heap.size → k ≠ B → some k ≠ v.ownBlock → (w2.setCell ⟨B, 0, none⟩ v').heap[k]? = W.heap[k]? := fun k hk h1 h2 => by
    rw [Below.heap_setCell _ _ _ _ (by simpa using h1), hgrow.block k (by simp; omega) h2]
    exact Below.heap_alloc _ _ _ hk
  have hko : KeepsOthers W (w2.setCell ⟨B, 0, none⟩ v') := by
    refine ((KeepsOthers.alloc W tmp).trans (KeepsOthers.of_grownBy hgrow fun j o ej hj => ?_)).trans (KeepsOthers.setCell _ _ _)
    rcases (World.ownsRow.alloc hrow tmp).2 with ⟨rfl, _⟩ | ⟨g, cap, cur, rfl, _, hgb, _⟩
    · simp [Value.ownBlock] at ej
    · obtain rfl : g = j := by simpa [Value.ownBlock] using ej
      rw [hgb] at hj; cases hj; rfl
  refine ⟨hv1, ⟨hv1.set v', ?_⟩, hko, by simp; omega, hblk, ?_, ?_⟩
  · obtain ⟨ya, yn, yv⟩ := y
    unfold RowOf; rw [encs_snoc, List.length_append]
    exact World.ownsRow.kept hown' (grownBy_setCell' w2 B v') (.inr (hv1.not_row (by decide) hown').symm)
  · intro n h1 h2
    have hne : ∀ k, v.ownBlock = some k → base ≤ k := fun k e => (World.ownsRow.lt hrow k e).1
    refine ⟨?_, ?_, ?_, by simp; omega, fun k hk => ?_⟩
    · exact (grownBy_setCell' w2 B v').os.trans hgrow.os
    · exact (grownBy_setCell' w2 B v').tape.trans hgrow.tape
    · exact (grownBy_setCell' w2 B v').output.trans hgrow.output
    · by_cases hl : k < W.heap.size
      · exact hblk k hl (by omega) (fun e => by have := hne k e.symm; omega)
      · exact absurd hl (by omega)
  · intro k hk h1 e
    rcases hat with hat | hat
    · rw [hat] at e; exact h1 e
    · rw [hat] at e; simp at e; omega
/-- another list stays meanwhile -/
theorem Bl.stay {B base : Nat} {pre : List (Int × Int × Int)} {v u : Value} {W W' : World} {B' : Nat} (h : Bl B base pre v W) (hB : B ≠ B') (hu : some B ≠ u.ownBlock) (hv : ∀ k, v.ownBlock = some k → k ≠ B' ∧ some k ≠ u.ownBlock) (hblk : ∀ k, k < W.heap.size → k ≠ B' → some k ≠ u.ownBlock → W'.heap[k]? = W.heap[k]?) : Bl B base pre v W' := by
  obtain ⟨h1, h2⟩ := h
  refine ⟨(hblk B (Array.getElem?_eq_some_iff.1 h1).1 hB hu).trans h1, ?_⟩
  refine ⟨h2.1, ?_⟩
  rcases h2.2 with h3 | ⟨g, cap, cur, h3, h4, h5, h6⟩
  · exact .inl h3
  · have hg := hv g (by rw [h3]; rfl)
    exact .inr ⟨g, cap, cur, h3, h4, (hblk g (Array.getElem?_eq_some_iff.1 h5).1 hg.1 hg.2).trans h5, h6⟩
theorem two_new (w : World) (o1 o2 : Obj) (W : World) (hW : W = (w.alloc o1).alloc o2) : W.heap[w.heap.size]? = some o1 ∧ W.heap[w.heap.size + 1]? = some o2 ∧ W.heap.size = w.heap.size + 2 ∧ Below w.heap.size w W := by
  subst hW
  have e1 := World.alloc_heap_new w o1
  have e2 := World.alloc_heap_new (w.alloc o1) o2
  rw [World.size_alloc] at e2
  exact ⟨hkA _ e1, e2, by simp, ((Below.refl _ w).alloc (Nat.le_refl _) _).alloc (by simp) _⟩
theorem four_new (w : World) (o1 o2 o3 o4 : Obj) (W : World) (hW : W = (((w.alloc o1).alloc o2).alloc o3).alloc o4) : W.heap[w.heap.size]? = some o1 ∧ W.heap[w.heap.size + 1]? = some o2 ∧ W.heap[w.heap.size + 1 + 1]? = some o3 ∧ W.heap[w.heap.size + 1 + 1 + 1]? = some o4 ∧ W.heap.size = w.heap.size + 4 ∧ Below w.heap.size w W := by
  subst hW
  have e1 := World.alloc_heap_new w o1
  have e2 := World.alloc_heap_new (w.alloc o1) o2
  have e3 := World.alloc_heap_new ((w.alloc o1).alloc o2) o3
  have e4 := World.alloc_heap_new (((w.alloc o1).alloc o2).alloc o3) o4
  rw [World.size_alloc] at e2 e3 e4
  rw [World.size_alloc] at e3 e4
  rw [World.size_alloc] at e4
  exact ⟨hkA _ (hkA _ (hkA _ e1)), hkA _ (hkA _ e2), hkA _ e3, e4, by simp, ((((Below.refl _ w).alloc (Nat.le_refl _) _).alloc (by simp) _).alloc (by simp; omega) _).alloc (by simp; omega) _⟩

set_option maxRecDepth 100000 in
set_option maxHeartbeats 8000000 in
theorem later_any (ok : Nat → Prop) (bt : Nat) (t : Tr) (K : List (Int × Int)) (a n v x k : Int) (w : World) (hh : HoldsN ok w bt t) (hok : ¬ ok bt) (hnew : ∀ b, w.heap.size ≤ b → ok b) (hgd : Gd K t) (hK : K.length ≤ 1099511627776) (a0 : 0 ≤ a) (a1 : a < 4294967296) (ha : (a, n) ∈ K) (x0 : 0 ≤ x) (x1 : x < 4294967296) (T : Tr) (hT : (del (put1 t (a, n, v)) x k).1 = T) :
    Calls Try.prog 28 #[.pointer (some ⟨bt, 0, none⟩), .agg #[.int .u32 a, .int .i64 n, .int .i64 v], .agg #[.int .u32 x, .int .i64 k]] w fun e w' => ∃ b1 c1 b2 c2, e = .returned (.tuple #[.slice b1 (allT T).length c1, .slice b2 (allT T).length c2]) ∧ Arr3 w' b1 (allT T) ∧ Arr3 w' b2 (allT T) ∧ Tuz.BelX bt w.heap.size w w' ∧ HoldsN ok w' bt T := by
  refine (callsIn_wide (n := 4)).1 ?_
  have HH : Hid (HoldsN ok w bt t) := hh
  have HG : Hid (Gd K t) := hgd
  have HTE : Hid ((del (put1 t (a, n, v)) x k).1 = T) := hT
  have hbt := hh.lt
  clear hh hgd hT
  refine callsIn_of_wp_marks Try.func28 rfl trivial ?_ rfl
  simp only [Try.ntmps28, List.size_toArray, List.length_cons, List.length_nil, Nat.reduceAdd, Nat.reduceSub, Array.replicate_succ, Array.replicate_zero, List.push_toArray, List.append_toArray, List.nil_append, List.cons_append]
  gi_wp2
  refine ⟨trivial, ?_⟩
  refine (callsIn_wide.2 (all_any bt _)).mono ?_
  rintro e w1 ⟨rfl, hw1⟩
  simp only [World.size_alloc]
  obtain ⟨g1, g2, g3, g4, hsz, hB0⟩ := four_new w _ _ _ _ w1 hw1
  have p0 : w1.cell? ⟨w.heap.size, 0, none⟩ = some (.int .u32 a) := by simp [World.cell?, g1]
  have p1 : w1.cell? ⟨w.heap.size, 1, none⟩ = some (.int .i64 n) := by simp [World.cell?, g1]
  have p2 : w1.cell? ⟨w.heap.size, 2, none⟩ = some (.int .i64 v) := by simp [World.cell?, g1]
  have q0 : w1.cell? ⟨w.heap.size + 1, 0, none⟩ = some (.int .u32 x) := by simp [World.cell?, g2]
  have q1 : w1.cell? ⟨w.heap.size + 1, 1, none⟩ = some (.int .i64 k) := by simp [World.cell?, g2]
  have cT : w1.cell? ⟨w.heap.size + 1 + 1, 0, none⟩ = some (.pointer (some ⟨bt, 0, none⟩)) := by simp [World.cell?, g3]
  have c0 : w1.cell? ⟨w.heap.size + 1 + 1 + 1, 0, none⟩ = some (.int .u32 0) := by simp [World.cell?, g4]
  have c1 : w1.cell? ⟨w.heap.size + 1 + 1 + 1, 1, none⟩ = some (.int .i64 0) := by simp [World.cell?, g4]
  clear hw1 g1 g2 g3 g4
  gi_wp2
  refine ⟨trivial, ?_⟩
  have hh1 := HH.out.bel hB0
  refine (callsIn_wide.2 (put_n ok bt t a n v w1 hh1 hok (fun b hb => hnew b (by omega)) HG.out.wf HG.out.bz a0 a1 (Nat.le_trans HG.out.len hK))).mono ?_
  rintro e w2 ⟨rfl, hbut2, hh2⟩
  have hg2 : Gd K (put1 t (a, n, v)) := HG.out.put1 ⟨a0, a1⟩ ha
  have lt1 : ∀ j, j < 4 → w.heap.size + j < w1.heap.size := fun j hj => by omega
  have q0' := (hbut2.cell (b := w.heap.size + 1) 0 (by omega) (by omega)).trans q0
  have q1' := (hbut2.cell (b := w.heap.size + 1) 1 (by omega) (by omega)).trans q1
  clear q0 q1 p0 p1 p2
  gi_wp2
  refine ⟨trivial, ?_⟩
  refine (callsIn_wide.2 (drop_n ok bt _ x k w2 hh2 hok (fun b hb => hnew b (by have := hbut2.size; omega)) hg2.wf x0 x1 (Nat.le_trans hg2.len hK))).mono ?_
  rintro e w3 ⟨rfl, hbut3, hh3⟩
  rw [HTE.out] at hh3
  have hgT : Gd K T := by have := hg2.del (a := x) (n := k); rw [HTE.out] at this; exact this
  have hbut : But bt w1 w3 := hbut2.trans hbut3
  have cT3 := (hbut.cell (b := w.heap.size + 1 + 1) 0 (by omega) (by omega)).trans cT
  have c03 := (hbut.cell (b := w.heap.size + 1 + 1 + 1) 0 (by omega) (by omega)).trans c0
  have c13 := (hbut.cell (b := w.heap.size + 1 + 1 + 1) 1 (by omega) (by omega)).trans c1
  have HX3 : Hid (Tuz.BelX bt w.heap.size w w3) := belX_but (Tuz.BelX.of hB0) hB0.size hbut
  have hs3 : w.heap.size + 4 ≤ w3.heap.size := by have := hbut.size; omega
  have HH3 : Hid (HoldsN ok w3 bt T) := hh3
  have HGT : Hid (Gd K T) := hgT
  have hund := und_all hgT.wf
  clear hbut2 hbut3 hbut hh2 hh3 hh1 hg2 q0' q1' cT c0 c1 hgT lt1 hB0 hsz HTE HG HH
  generalize (TrM.look t a n) = r1 at *
  gi_wp2
  --RANGES
  obtain ⟨w4, hw4⟩ : ∃ w4, (w3.alloc (Obj.cells #[.slice none 0 0] 38)).alloc (Obj.cells #[.slice none 0 0] 38) = w4 := ⟨_, rfl⟩
  obtain ⟨g1, g2, hs4, hB4⟩ := two_new w3 _ _ w4 hw4.symm
  rw [hw4]
  generalize Value.tuple #[Value.int .i64 (r1.getD 0), Value.bool r1.isSome] = tu1
  generalize Value.tuple #[Value.int .i64 ((TrM.look (put1 t (a, n, v)) x k).getD 0), Value.bool (TrM.look (put1 t (a, n, v)) x k).isSome] = tu2
  clear hw4
  obtain ⟨pT, hhT⟩ := HH3.out
  have hlenT : (allT T).length ≤ 1099511627776 := Nat.le_trans HGT.out.len hK
  have hwT := HGT.out.wf
  have hrep : Rep (fun b => b < w3.heap.size) w3 T pT := by
    obtain ⟨-, -, -, -, -, h⟩ := hhT
    exact h.lt.below (Below.refl _ _) (fun b h => h.2)
  have HR4 : Hid (Rep (fun b => b < w3.heap.size) w4 T pT) := hrep.under hB4
  have hroot4 := cell_bel hhT.root hB4
  have cT4 := cell_bel cT3 hB4
  have c04 := cell_bel c03 hB4
  have c14 := cell_bel c13 hB4
  refine wpIn_rangeFunc_ownH rfl (by decide) (gf := 49) rfl trivial (enters_of Try.func49 (by kernel_rfl) rfl)
    (Tri.under_stops 3 _ _ bt w3.heap.size T pT 0 0 (by decide) (by decide) w4 cT4 hroot4 c04 c14 HR4.out hwT (by omega)) belowK_t (belowK_b (by omega)) (Below.refl _ _) (fun _ => rfl)
    (fun pre W => (((∃ vl, Bl w3.heap.size w3.heap.size pre vl W ∧ some (w3.heap.size + 1) ≠ vl.ownBlock) ∧ Boxed W (w3.heap.size + 1) 38 (.slice none 0 0)) ∧ w3.heap.size + 2 ≤ W.heap.size) ∧ Below w3.heap.size w4 W) (fun _ _ _ => False)
    (OwnFrom.and (Own.from (fun s A B row hs hg hr => ⟨⟨by obtain ⟨vl, h1, h2⟩ := hs.1.1; exact ⟨vl, h1.own hg hr, h2⟩, box_own hs.1.2 hg hr⟩, Nat.le_trans hs.2 hg.size⟩) _) (ownFrom_below (by omega) (by omega)))
    (fun _ _ _ _ _ hs _ _ => hs) ⟨⟨⟨⟨_, ⟨g1, RowOf.nil _ _ _⟩, fun e => by simp [Value.ownBlock] at e⟩, g2⟩, by omega⟩, Below.refl _ _⟩
    (fun y a' W => ∃ Bx, w3.heap.size + 2 ≤ Bx ∧ (W.cell? ⟨Bx, 0, none⟩ = some (.int .u32 y.1) ∧ W.cell? ⟨Bx, 1, none⟩ = some (.int .i64 y.2.1)) ∧
      a' = { tmps := #[.pointer (some ⟨bt, 0, none⟩), .agg #[.int .u32 a, .int .i64 n, .int .i64 v], .agg #[.int .u32 x, .int .i64 k], undef, .pointer (some ⟨w.heap.size, 0, none⟩), .pointer (some ⟨w.heap.size + 1, 0, none⟩), .slice none 0 0, .slice none 0 0, .func (.func 49) #[] #[.pointer (some ⟨w.heap.size + 1 + 1, 0, none⟩), .pointer (some ⟨w.heap.size + 1 + 1 + 1, 0, none⟩)], .pointer (some ⟨w3.heap.size, 0, none⟩), .pointer (some ⟨w3.heap.size + 1, 0, none⟩), .pointer (some ⟨Bx, 0, none⟩), .int .i64 y.2.2, undef, undef, .pointer (some ⟨bt, 0, none⟩), .func (.func 49) #[] #[.pointer (some ⟨w.heap.size + 1 + 1, 0, none⟩), .pointer (some ⟨w.heap.size + 1 + 1 + 1, 0, none⟩)], .pointer (some ⟨bt, 0, none⟩), .pointer (some ⟨w.heap.size, 0, none⟩), .agg #[.int .u32 a, .int .i64 n], .pointer (some ⟨w.heap.size, 2, none⟩), .int .i64 v, tu1, .pointer (some ⟨bt, 0, none⟩), .agg #[.int .u32 x, .int .i64 k], tu2, .func (.func 49) #[] #[.pointer (some ⟨w.heap.size + 1 + 1, 0, none⟩), .pointer (some ⟨w.heap.size + 1 + 1 + 1, 0, none⟩)], .agg #[.int .u32 y.1, .int .i64 y.2.1], .int .i64 y.2.2, undef, undef, undef, undef, undef, undef, undef, undef, undef, undef, undef, undef, undef, undef, undef, undef, undef], defers := [] })
    (fun y a' s A B row hs hg hr => by
      obtain ⟨Bx, h1, ⟨h2, h3⟩, h4⟩ := hs
      exact ⟨Bx, h1, ⟨cell_kept h2 hg (fun r e => (hr r e).2), cell_kept h3 hg (fun r e => (hr r e).2)⟩, h4⟩) ?assign1 ?body1 ?done1 ?stop1
  case assign1 =>
    rintro l pre ⟨ya, yn, yv⟩ W K2 ⟨⟨⟨⟨vl, hi, hne⟩, hbx⟩, hs5⟩, hB⟩ hK2
    dsimp only [enc3]
    gi_wp2
    exact hK2 _ _ ((KeepsOthers.alloc _ _).from _) ((Below.refl _ W).alloc (by omega) _) ⟨⟨⟨⟨vl, hi.own (World.grownBy_alloc W _ none) (fun r e => by cases e), hne⟩, box_own hbx (World.grownBy_alloc W _ none) (fun r e => by cases e)⟩, by simp; omega⟩, hB.alloc (by omega) _⟩
      ⟨W.heap.size, hs5, ⟨by simp, by simp⟩, rfl⟩
  case body1 =>
    rintro l pre ⟨ya, yn, yv⟩ a' W hl ⟨rr, hrr⟩ ⟨⟨⟨⟨vl, hi, hne⟩, hbx⟩, hs5⟩, hB⟩ ⟨Bx, hBx, ⟨y0, y1⟩, rfl⟩ hlt
    rw [hund] at hlt
    have HI : Hid (Bl w3.heap.size w3.heap.size pre vl W) := hi
    have HBX : Hid (Boxed W (w3.heap.size + 1) 38 (.slice none 0 0)) := hbx
    have hcv := hi.1.cell
    clear hi hbx
    obtain ⟨i0, hi0, hz0, hz1, hz2⟩ := info_parts infoI
    have hby2 : (pre.length + 1) * 24 ≤ 140737488355328 := by omega
    gi_wp2_with (gi_at_builtin; refine wpListIn_append_own_at _ rfl _ _ 38 rfl (w3.heap.size) 43 i0 (.agg #[.int .u32 0, .int .i64 0, .int .i64 0]) 3 24 Try.underlying38 hi0 hz0 hz1 hz2 rfl (by decide) vl pre.length (encs pre) rfl (World.ownsRow.alloc HI.out.2 _) ⟨W.heap.size, 0, none⟩ 1 1 [.int .u32 ya, .int .i64 yn, .int .i64 yv] rfl rfl (by
      intro j u' hj
      match j, hj with
      | 0, hj => simp at hj; subst hj; simp [Addr.add]
      | 1, hj => simp at hj; subst hj; simp [Addr.add]
      | 2, hj => simp at hj; subst hj; simp [Addr.add]) (by intro u' hu'; simp at hu'; rcases hu' with rfl | rfl | rfl <;> rfl) (by unfold maxLen; omega) hby2 (by simp; omega) ?_)
    intro v' wB hown' hgrow _ hat
    obtain ⟨hv1, hbl, hko, hsz, hblk, hbel, hout⟩ := HI.out.app (y := (ya, yn, yv)) (by omega) hown' hgrow hat
    obtain ⟨g', cap', rfl⟩ := ownsRow_succ hown'
    have hc1 := hv1.cell
    have hf1 := hv1.frozen
    have hb1 := hbel w3.heap.size (Nat.le_refl _) (Nat.le_refl _)
    have HN : Hid (_ ∧ _) := And.intro (hout (w3.heap.size + 1) (by omega) hne) ((hblk (w3.heap.size + 1) (by omega) (by omega) hne).trans HBX.out)
    gi_wp2
    exact ⟨hko.from _, hb1, ⟨⟨⟨_, hbl, HN.out.1⟩, HN.out.2⟩, by omega⟩, hB.trans hb1⟩
  case stop1 =>
    rintro D c pre W _ _ h _
    exact h.elim
  case done1 =>
    rintro D1 ys W5 hD1 rfl ⟨⟨⟨⟨v1, hi, hne1⟩, hbx⟩, hs5⟩, hB⟩ hKD1
    rw [hund] at hi
    have HI1 : Hid (Bl w3.heap.size w3.heap.size (allT T) v1 W5) := hi
    have HBX : Hid (Boxed W5 (w3.heap.size + 1) 38 (.slice none 0 0)) := hbx
    have hB5 : Below w3.heap.size w3 W5 := hB4.trans hB
    have hD1lt : D1 < W5.heap.size := (Array.getElem?_eq_some_iff.1 hKD1).1
    have HKD1 : Hid (W5.heap[D1]? = some (.deferred (some []))) := hKD1
    have HNE1 : Hid (some (w3.heap.size + 1) ≠ v1.ownBlock) := hne1
    have hv1lt : ∀ k, v1.ownBlock = some k → k < W5.heap.size := fun k e => (World.ownsRow.lt hi.2 k e).2
    clear hi hbx hKD1 hne1 cT4 c04 c14 hroot4 g1 g2
    have hroot5 := cell_bel hhT.root hB5
    have cT5 := cell_bel cT3 hB5
    have c05 := cell_bel c03 hB5
    have c15 := cell_bel c13 hB5
    gi_wp2
    refine wpIn_rangeFunc_ownH rfl (by decide) (gf := 49) rfl trivial (enters_of Try.func49 (by kernel_rfl) rfl)
      (Tri.under_stops 3 _ _ bt w3.heap.size T pT 0 0 (by decide) (by decide) W5 cT5 hroot5 c05 c15 (hrep.under hB5) hwT (by omega)) belowK_t (belowK_b (by omega)) (Below.refl _ _) (fun _ => rfl)
      (fun pre W => (((∃ vl, Bl (w3.heap.size + 1) W5.heap.size pre vl W) ∧ Bl w3.heap.size w3.heap.size (allT T) v1 W) ∧ W5.heap.size ≤ W.heap.size) ∧ (W.heap[D1]? = some (.deferred (some [])) ∧ Below w3.heap.size W5 W)) (fun _ _ _ => False)
      (OwnFrom.and (Own.from (fun s A B row hs hg hr => ⟨⟨by obtain ⟨vl, h1⟩ := hs.1.1; exact ⟨vl, h1.own hg hr⟩, hs.1.2.own hg hr⟩, Nat.le_trans hs.2 hg.size⟩) _) (OwnFrom.and (fun s A B row hs hg hr => (hg.block D1 (Array.getElem?_eq_some_iff.1 hs).1 (fun e => by have := (hr D1 e.symm).1; omega)).trans hs) (ownFrom_below (by omega) (by omega))))
      (fun _ _ _ _ _ hs _ _ => hs) ⟨⟨⟨⟨_, HBX.out, RowOf.nil _ _ _⟩, HI1.out⟩, by omega⟩, HKD1.out, Below.refl _ _⟩
      (fun y a' W => ∃ Bx, w3.heap.size + 2 ≤ Bx ∧ (W.cell? ⟨Bx, 0, none⟩ = some (.int .u32 y.1) ∧ W.cell? ⟨Bx, 1, none⟩ = some (.int .i64 y.2.1)) ∧
        a' = { tmps := #[.pointer (some ⟨bt, 0, none⟩), .agg #[.int .u32 a, .int .i64 n, .int .i64 v], .agg #[.int .u32 x, .int .i64 k], undef, .pointer (some ⟨w.heap.size, 0, none⟩), .pointer (some ⟨w.heap.size + 1, 0, none⟩), .slice none 0 0, .slice none 0 0, .func (.func 49) #[] #[.pointer (some ⟨w.heap.size + 1 + 1, 0, none⟩), .pointer (some ⟨w.heap.size + 1 + 1 + 1, 0, none⟩)], .pointer (some ⟨w3.heap.size, 0, none⟩), .pointer (some ⟨w3.heap.size + 1, 0, none⟩), undef, undef, .pointer (some ⟨Bx, 0, none⟩), .int .i64 y.2.2, .pointer (some ⟨bt, 0, none⟩), .func (.func 49) #[] #[.pointer (some ⟨w.heap.size + 1 + 1, 0, none⟩), .pointer (some ⟨w.heap.size + 1 + 1 + 1, 0, none⟩)], .pointer (some ⟨bt, 0, none⟩), .pointer (some ⟨w.heap.size, 0, none⟩), .agg #[.int .u32 a, .int .i64 n], .pointer (some ⟨w.heap.size, 2, none⟩), .int .i64 v, tu1, .pointer (some ⟨bt, 0, none⟩), .agg #[.int .u32 x, .int .i64 k], tu2, .func (.func 49) #[] #[.pointer (some ⟨w.heap.size + 1 + 1, 0, none⟩), .pointer (some ⟨w.heap.size + 1 + 1 + 1, 0, none⟩)], undef, undef, undef, undef, undef, undef, undef, undef, .func (.func 49) #[] #[.pointer (some ⟨w.heap.size + 1 + 1, 0, none⟩), .pointer (some ⟨w.heap.size + 1 + 1 + 1, 0, none⟩)], .agg #[.int .u32 y.1, .int .i64 y.2.1], .int .i64 y.2.2, undef, undef, undef, undef, undef, undef, undef, undef], defers := [] })
      (fun y a' s A B row hs hg hr => by
        obtain ⟨Bx, h1, ⟨h2, h3⟩, h4⟩ := hs
        exact ⟨Bx, h1, ⟨cell_kept h2 hg (fun r e => (hr r e).2), cell_kept h3 hg (fun r e => (hr r e).2)⟩, h4⟩) ?assign2 ?body2 ?done2 ?stop2
    case assign2 =>
      rintro l pre ⟨ya, yn, yv⟩ W K2 ⟨⟨⟨⟨vl, hi⟩, hi1⟩, hs6⟩, hD, hB6⟩ hK2
      dsimp only [enc3]
      gi_wp2
      exact hK2 _ _ ((KeepsOthers.alloc _ _).from _) ((Below.refl _ W).alloc (by omega) _) ⟨⟨⟨⟨vl, hi.own (World.grownBy_alloc W _ none) (fun r e => by cases e)⟩, hi1.own (World.grownBy_alloc W _ none) (fun r e => by cases e)⟩, by simp; omega⟩, (Below.heap_alloc _ _ _ (by omega)).trans hD, hB6.alloc (by omega) _⟩
        ⟨W.heap.size, by omega, ⟨by simp, by simp⟩, rfl⟩
    case body2 =>
      rintro l pre ⟨ya, yn, yv⟩ a' W hl ⟨rr, hrr⟩ ⟨⟨⟨⟨vl, hi⟩, hi1⟩, hs6⟩, hD, hB6⟩ ⟨Bx, hBx, ⟨y0, y1⟩, rfl⟩ hlt
      rw [hund] at hlt
      have HI : Hid (Bl (w3.heap.size + 1) W5.heap.size pre vl W) := hi
      have HI2 : Hid (Bl w3.heap.size w3.heap.size (allT T) v1 W) := hi1
      have HDD : Hid (W.heap[D1]? = some (.deferred (some []))) := hD
      have hcv := hi.1.cell
      have hvlo : ∀ k, vl.ownBlock = some k → W5.heap.size ≤ k := fun k e => (World.ownsRow.lt hi.2 k e).1
      clear hi hi1 hD
      obtain ⟨i0, hi0, hz0, hz1, hz2⟩ := info_parts infoI
      have hby2 : (pre.length + 1) * 24 ≤ 140737488355328 := by omega
      gi_wp2_with (gi_at_builtin; refine wpListIn_append_own_at _ rfl _ _ 38 rfl (W5.heap.size) 43 i0 (.agg #[.int .u32 0, .int .i64 0, .int .i64 0]) 3 24 Try.underlying38 hi0 hz0 hz1 hz2 rfl (by decide) vl pre.length (encs pre) rfl (World.ownsRow.alloc HI.out.2 _) ⟨W.heap.size, 0, none⟩ 1 1 [.int .u32 ya, .int .i64 yn, .int .i64 yv] rfl rfl (by
        intro j u' hj
        match j, hj with
        | 0, hj => simp at hj; subst hj; simp [Addr.add]
        | 1, hj => simp at hj; subst hj; simp [Addr.add]
        | 2, hj => simp at hj; subst hj; simp [Addr.add]) (by intro u' hu'; simp at hu'; rcases hu' with rfl | rfl | rfl <;> rfl) (by unfold maxLen; omega) hby2 (by simp; omega) ?_)
      intro v' wB hown' hgrow _ hat
      obtain ⟨hv1, hbl, hko, hsz, hblk, hbel, hout⟩ := HI.out.app (y := (ya, yn, yv)) (by omega) hown' hgrow hat
      obtain ⟨g', cap', rfl⟩ := ownsRow_succ hown'
      have hc1 := hv1.cell
      have hf1 := hv1.frozen
      have hb1 := hbel w3.heap.size (by omega) (by omega)
      have HN : Hid (Bl w3.heap.size w3.heap.size (allT T) v1 _ ∧ _) := And.intro (HI2.out.stay (B' := w3.heap.size + 1) (by omega) (fun e => by have := hvlo _ e.symm; omega) (fun k e => ⟨fun e2 => by subst e2; exact HNE1.out e.symm, fun e2 => by have := hvlo _ e2.symm; have := hv1lt _ e; omega⟩) hblk) (hko.same D1 _ HDD.out rfl)
      gi_wp2
      exact ⟨hko.from _, hb1, ⟨⟨⟨_, hbl⟩, HN.out.1⟩, by omega⟩, HN.out.2, hB6.trans hb1⟩
    case stop2 =>
      rintro D c pre W _ _ h _
      exact h.elim
    case done2 =>
      rintro D2 ys W6 hD2 rfl ⟨⟨⟨⟨v2, hi2⟩, hi1⟩, hs6⟩, hD, hB6⟩ hKD2
      rw [hund] at hi2
      obtain ⟨ra1, rc1, hve1, -, -⟩ := arr_of_own hi1.2 (all_u32 hwT)
      obtain ⟨ra2, rc2, hve2, -, -⟩ := arr_of_own hi2.2 (all_u32 hwT)
      subst hve1 hve2
      have HI1' : Hid (Bl w3.heap.size w3.heap.size (allT T) (.slice ra1 (allT T).length rc1) W6) := hi1
      have HI2' : Hid (Bl (w3.heap.size + 1) W5.heap.size (allT T) (.slice ra2 (allT T).length rc2) W6) := hi2
      have HD1' : Hid (W6.heap[D1]? = some (.deferred (some []))) := hD
      have HD2' : Hid (W6.heap[D2]? = some (.deferred (some []))) := hKD2
      have e1 := hi1.1.cell
      have e2 := hi2.1.cell
      have HB6 : Hid (Below w3.heap.size w3 W6) := hB5.trans hB6
      clear hi1 hi2 hD hKD2 HI1 HBX HKD1 HNE1 hv1lt
      gi_wp2
      refine wpIn_wide.2 ?_
      go_region
      gi_wp2
      have hne12 : D1 ≠ D2 := by omega
      have hk2 : W6.drew.heap[D2]? = some (.deferred (some [])) := HD2'.out
      have hg2 := grownBy_putObj' W6.drew D2 (.deferred none)
      have hk1 : (W6.drew.putObj D2 (.deferred none)).heap[D1]? = some (.deferred (some [])) := (hg2.block D1 (Array.getElem?_eq_some_iff.1 HD1'.out).1 (fun e => hne12 (Option.some.inj e))).trans HD1'.out
      have hg1 := grownBy_putObj' (W6.drew.putObj D2 (.deferred none)) D1 (.deferred none)
      have hr2 : ∀ r : Nat, some D2 = some r → ∃ o : Obj, W6.drew.heap[r]? = some o ∧ o.isCells = false := fun r e => by cases e; exact ⟨_, hk2, rfl⟩
      have hr1 : ∀ r : Nat, some D1 = some r → ∃ o : Obj, (W6.drew.putObj D2 (.deferred none)).heap[r]? = some o ∧ o.isCells = false := fun r e => by cases e; exact ⟨_, hk1, rfl⟩
      have b9 : Below w3.heap.size w3 ((W6.drew.putObj D2 (.deferred none)).putObj D1 (.deferred none)) := (HB6.out.drew.trans (belowK_b (w := w3) (Nat.le_refl _) W6.drew D2 _ _ (by have := hB5.size; omega) hk2 rfl rfl)).trans (belowK_b (w := w3) (Nat.le_refl _) _ D1 _ _ (by omega) hk1 rfl rfl)
      have r1' : RowOf W6.drew w3.heap.size 43 (.slice ra1 (allT T).length rc1) (allT T) := HI1'.out.2
      have r2' : RowOf W6.drew W5.heap.size 43 (.slice ra2 (allT T).length rc2) (allT T) := HI2'.out.2
      obtain ⟨_, _, h1, ha1, -⟩ := arr_of_own (row_own (row_own r1' hg2 hr2) hg1 hr1) (all_u32 hwT)
      obtain ⟨_, _, h2, ha2, -⟩ := arr_of_own (row_own (row_own r2' hg2 hr2) hg1 hr1) (all_u32 hwT)
      cases h1
      cases h2
      refine ⟨by simp, .inl ⟨_, _, rfl, run_takeDeferred hk2, ⟨by simp, .inl ⟨_, _, rfl, run_takeDeferred hk1, ?_⟩⟩⟩⟩
      exact ⟨_, results_tmp2 rfl _ _ _, ra1, rc1, ra2, rc2, rfl, ha1, ha2, HX3.out.trans (Tuz.BelX.of (b9.mono (by omega))), HH3.out.bel b9⟩
end Go.Proofs.Ytibmhdfodmkahaa.Tu
