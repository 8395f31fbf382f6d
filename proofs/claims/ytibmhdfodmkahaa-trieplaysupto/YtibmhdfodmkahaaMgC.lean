/- Under, the first few. Over, the first few. A round of triePlay: kind 5. A round of triePlay: kind 6. -/
import Derived.Test.YtibmhdfodmkahaaTuC
import Derived.Test.YtibmhdfodmkahaaMgA
namespace Go.Proofs.Ytibmhdfodmkahaa.Tu
open Go.ChangeShapes Go.WideShapes Go.ChangeAt Go.RowKit Go.Shelf Go.Proofs.Ytibmhdfodmkahaa.PM Go.Proofs.Ytibmhdfodmkahaa.TrM Go.Proofs.Ytibmhdfodmkahaa.Ask Go.Proofs.Ytibmhdfodmkahaa.Tri
set_option linter.unusedVariables false
attribute [local go_sem] Oper.semAt_some

/-- how many are given, where there are as many -/
def fw (few : Int) : Nat := max 1 few.toNat
theorem fw_one {few : Int} {pre : List (Int × Int × Int)} {y : Int × Int × Int} (h : pre ≠ [] → (pre.length : Int) < few) (h2 : few ≤ ((pre ++ [y]).length : Int)) : (pre ++ [y]).length = fw few := by
  unfold fw
  rw [List.length_append, List.length_singleton] at h2 ⊢
  by_cases e : pre = []
  · subst e; simp at h2 ⊢; omega
  · have := h e; omega
theorem fw_all {few : Int} {ys : List (Int × Int × Int)} (h : ys ≠ [] → (ys.length : Int) < few) : ys.take (fw few) = ys := by
  by_cases e : ys = []
  · subst e; simp
  · have := h e
    exact List.take_of_length_le (by unfold fw; omega)
theorem fw_pre {few : Int} {pre ys : List (Int × Int × Int)} (h : pre <+: ys) (hl : pre.length = fw few) : ys.take (fw few) = pre := by
  rw [← hl]; exact (List.prefix_iff_eq_take.1 h).symm
/-- few lies in its box, p in its own, and the iterator's p stays -/
def Fv (s : Nat) (x k few : Int) (W : World) : Prop := (W.cell? ⟨s, 0, none⟩ = some (.int .u32 x) ∧ W.cell? ⟨s, 1, none⟩ = some (.int .i64 k)) ∧ W.cell? ⟨s + 1, 0, none⟩ = some (.int .i64 few) ∧ W.heap[s + 1 + 1 + 1 + 1]? = some (Obj.cells #[.int .u32 x, .int .i64 k] 33)
theorem Fv.own {s : Nat} {x k few : Int} {A B : World} {row : Option Nat} (h : Fv s x k few A) (hg : A.grownBy B row) (hr : ∀ r, row = some r → ∃ o : Obj, A.heap[r]? = some o ∧ o.isCells = false) : Fv s x k few B :=
  ⟨⟨cell_kept h.1.1 hg hr, cell_kept h.1.2 hg hr⟩, cell_kept h.2.1 hg hr, (hg.block _ (Array.getElem?_eq_some_iff.1 h.2.2).1 (fun e => by obtain ⟨o, ho, hc⟩ := hr _ e.symm; rw [h.2.2] at ho; cases ho; cases hc)).trans h.2.2⟩
theorem Fv.app {s : Nat} {x k few : Int} {W w2 : World} {v v' : Value} {tmp : Obj} {pre : List (Int × Int × Int)} (h : Fv s x k few W) (hrow : RowOf W (s + 1 + 1) 43 v pre) (hgrow : (W.alloc tmp).grownBy w2 v.ownBlock) (hb : Below (s + 1 + 1) W (w2.setCell ⟨s + 1 + 1, 0, none⟩ v')) :
    Fv s x k few (w2.setCell ⟨s + 1 + 1, 0, none⟩ v') ∧ (w2.setCell ⟨s + 1 + 1, 0, none⟩ v').heap[s + 1 + 1 + 1 + 1]? = W.heap[s + 1 + 1 + 1 + 1]? := by
  have hlt : s + 1 + 1 + 1 + 1 < W.heap.size := (Array.getElem?_eq_some_iff.1 h.2.2).1
  have hne : some (s + 1 + 1 + 1 + 1) ≠ v.ownBlock := by
    rcases hrow.2 with ⟨rfl, _⟩ | ⟨g, cap, cur, rfl, _, hgb, _⟩
    · intro e; simp [Value.ownBlock] at e
    · intro e
      obtain rfl : s + 1 + 1 + 1 + 1 = g := by simpa [Value.ownBlock] using e
      rw [h.2.2] at hgb
      simp at hgb
  have e1 : (w2.setCell ⟨s + 1 + 1, 0, none⟩ v').heap[s + 1 + 1 + 1 + 1]? = W.heap[s + 1 + 1 + 1 + 1]? := by
    rw [Below.heap_setCell _ _ _ _ (by simp; omega), hgrow.block _ (by simp; omega) hne]
    exact Below.heap_alloc _ _ _ hlt
  exact ⟨⟨⟨(hb.cell (p := ⟨s, 0, none⟩) (show s < s + 1 + 1 by omega)).trans h.1.1, (hb.cell (p := ⟨s, 1, none⟩) (show s < s + 1 + 1 by omega)).trans h.1.2⟩, (hb.cell (p := ⟨s + 1, 0, none⟩) (show s + 1 < s + 1 + 1 by omega)).trans h.2.1, e1.trans h.2.2⟩, e1⟩
/-- none of them, or fewer than are asked -/
def Lo (few : Int) (pre : List (Int × Int × Int)) : Prop := pre ≠ [] → (pre.length : Int) < few
theorem und_u32 {t : Tr} (hw : WF t) (x k : Int) : ∀ d ∈ und t x k, In32 d.1 := fun d hd => by
  rw [und_bund hw] at hd; exact all_u32 hw d (List.mem_filter.1 hd).1
theorem ov_u32 {t : Tr} (hw : WF t) (x k : Int) : ∀ d ∈ ov t x k, In32 d.1 := fun d hd => by
  rw [ov_ovs hw] at hd; exact all_u32 hw d (List.mem_filter.1 hd).1
/-- the list that is collected, in its box, behind the two -/
def Co (s : Nat) (pre : List (Int × Int × Int)) (W : World) : Prop := Coll (s + 1 + 1) pre W

set_option maxRecDepth 100000 in
set_option maxHeartbeats 4000000 in
theorem TrieUnder_any (ok : Nat → Prop) (bt : Nat) (t : Tr) (p : Option Addr) (c x k few : Int) (x0 : 0 ≤ x) (x1 : x < 4294967296) (w : World) (hh : Holds ok w bt t p c) (hw : WF t) (hby : (allT t).length * 24 ≤ 140737488355328) (ys0 : List (Int × Int × Int)) (hys : (und t x k).take (fw few) = ys0) :
    Calls Try.prog 20 #[.pointer (some ⟨bt, 0, none⟩), .agg #[.int .u32 x, .int .i64 k], .int .i64 few] w fun e w' => ∃ a cap, e = .returned (.slice a ys0.length cap) ∧ Arr3 w' a ys0 ∧ Below w.heap.size w w' := by
  refine (callsIn_wide (n := 4)).1 ?_
  have HH : Hid (Holds ok w bt t p c) := hh
  have HY : Hid ((und t x k).take (fw few) = ys0) := hys
  clear hh hys
  have hlen := und_len hw x k
  refine callsIn_of_wp_marks Try.func20 rfl trivial ?_ rfl
  simp only [Try.ntmps20, List.size_toArray, List.length_cons, List.length_nil, Nat.reduceAdd, Nat.reduceSub, Array.replicate_succ, Array.replicate_zero, List.push_toArray, List.append_toArray, List.nil_append, List.cons_append]
  gi_wp2
  refine ⟨trivial, ?_⟩
  refine (callsIn_wide.2 (under_any bt x k _)).mono ?_
  rintro e w1 ⟨rfl, hw1⟩
  simp only [World.size_alloc]
  obtain ⟨g1, g2, g3, g4, g5, hsz, hB0⟩ := five w _ _ _ _ _ w1 hw1
  have HFv : Hid (Fv w.heap.size x k few w1) := ⟨⟨by simp [World.cell?, g1], by simp [World.cell?, g1]⟩, by simp [World.cell?, g2], g5⟩
  have HC0 : Hid (Co w.heap.size [] w1) := ⟨_, g3, RowOf.nil _ _ _⟩
  have cT : w1.cell? ⟨w.heap.size + 1 + 1 + 1, 0, none⟩ = some (.pointer (some ⟨bt, 0, none⟩)) := by simp [World.cell?, g4]
  have c0 : w1.cell? ⟨w.heap.size + 1 + 1 + 1 + 1, 0, none⟩ = some (.int .u32 x) := by simp [World.cell?, g5]
  have c1 : w1.cell? ⟨w.heap.size + 1 + 1 + 1 + 1, 1, none⟩ = some (.int .i64 k) := by simp [World.cell?, g5]
  clear hw1 g1 g2 g3 g4 g5
  gi_wp2
  have hh1 : Holds ok w1 bt t p c := HH.out.bel hB0
  have hrep : Rep (fun b => b < w.heap.size) w1 t p := HH.out.rep.lt.below hB0 (fun b h => h.2)
  refine wpIn_rangeFunc_ownH rfl (by decide) (gf := 49) rfl trivial (enters_of Try.func49 (by kernel_rfl) rfl)
    (under_stops 3 _ _ bt w.heap.size t p x k x0 x1 w1 cT hh1.root c0 c1 hrep hw hB0.size) belowK_t (belowK_b hB0.size) (Below.refl _ _) (fun _ => rfl)
    (fun pre W => (((Co w.heap.size pre W ∧ Fv w.heap.size x k few W) ∧ w.heap.size + 5 ≤ W.heap.size) ∧ Lo few pre) ∧ Below w.heap.size w W)
    (fun c pre W => ((c = .exit 0 ∧ pre.length = fw few) ∧ Co w.heap.size pre W) ∧ Below w.heap.size w W)
    (OwnFrom.and (Own.from (fun s A B row hs hg hr => ⟨⟨⟨hs.1.1.1.own hg hr, hs.1.1.2.own hg hr⟩, Nat.le_trans hs.1.2 hg.size⟩, hs.2⟩) _) (ownFrom_below (Nat.le_refl _) hB0.size))
    (fun c => OwnFrom.and (Own.from (fun s A B row hs hg hr => ⟨hs.1, hs.2.own hg hr⟩) _) (ownFrom_below (Nat.le_refl _) hB0.size)) ⟨⟨⟨⟨HC0.out, HFv.out⟩, by omega⟩, fun h => absurd rfl h⟩, hB0⟩
    (fun y a' W => ∃ Bx, w.heap.size + 5 ≤ Bx ∧ (W.cell? ⟨Bx, 0, none⟩ = some (.int .u32 y.1) ∧ W.cell? ⟨Bx, 1, none⟩ = some (.int .i64 y.2.1)) ∧
      a' = { tmps := #[.pointer (some ⟨bt, 0, none⟩), .agg #[.int .u32 x, .int .i64 k], .int .i64 few, undef, .pointer (some ⟨w.heap.size, 0, none⟩), .pointer (some ⟨w.heap.size + 1, 0, none⟩), .slice none 0 0, .pointer (some ⟨w.heap.size + 1 + 1, 0, none⟩),
        .pointer (some ⟨Bx, 0, none⟩), .int .i64 y.2.2, .pointer (some ⟨bt, 0, none⟩), .agg #[.int .u32 x, .int .i64 k], .func (.func 49) #[] #[.pointer (some ⟨w.heap.size + 1 + 1 + 1, 0, none⟩), .pointer (some ⟨w.heap.size + 1 + 1 + 1 + 1, 0, none⟩)],
        .agg #[.int .u32 y.1, .int .i64 y.2.1], .int .i64 y.2.2, undef, undef, undef, undef, undef, undef, undef, undef, undef, undef, undef], defers := [] })
    (fun y a' s A B row hs hg hr => by
      obtain ⟨Bx, h1, ⟨h2, h3⟩, h4⟩ := hs
      exact ⟨Bx, h1, ⟨cell_kept h2 hg (fun r e => (hr r e).2), cell_kept h3 hg (fun r e => (hr r e).2)⟩, h4⟩) ?assign ?body ?done ?stop
  case assign =>
    rintro l pre ⟨ya, yn, yv⟩ W K ⟨⟨⟨⟨hi, hf⟩, hs5⟩, hp⟩, hB⟩ hK
    dsimp only [enc3]
    gi_wp2
    exact hK _ _ ((KeepsOthers.alloc _ _).from _) ((Below.refl _ W).alloc hB.size _) ⟨⟨⟨⟨hi.own (World.grownBy_alloc W _ none) (fun r e => by cases e), hf.own (World.grownBy_alloc W _ none) (fun r e => by cases e)⟩, by simp; omega⟩, hp⟩, hB.alloc hB.size _⟩
      ⟨W.heap.size, hs5, ⟨by simp, by simp⟩, rfl⟩
  case body =>
    rintro l pre ⟨ya, yn, yv⟩ a' W hl ⟨rr, hrr⟩ ⟨⟨⟨⟨⟨v, hv, hrow⟩, hf⟩, hs5⟩, hp⟩, hB⟩ ⟨Bx, hBx, ⟨y0, y1⟩, rfl⟩ hlt
    have HFW : Hid (Fv w.heap.size x k few W) := hf
    have hcv := hv.cell
    have HROW : Hid (RowOf W (w.heap.size + 1 + 1) 43 v pre) := hrow
    have HP : Hid (Lo few pre) := hp
    obtain ⟨i0, hi, hz0, hz1, hz2⟩ := info_parts infoI
    have hby2 : (pre.length + 1) * 24 ≤ 140737488355328 := by omega
    have hn₀ : w.heap.size + 1 + 1 ≤ W.heap.size := by omega
    clear hrow hp hf
    gi_wp2_with (gi_at_builtin; refine wpListIn_append_own _ rfl _ _ 38 rfl (w.heap.size + 1 + 1) 43 i0 (.agg #[.int .u32 0, .int .i64 0, .int .i64 0]) 3 24 Try.underlying38 hi hz0 hz1 hz2 rfl (by decide) v pre.length (encs pre) rfl (World.ownsRow.alloc HROW.out _) ⟨W.heap.size, 0, none⟩ 1 1 [.int .u32 ya, .int .i64 yn, .int .i64 yv] rfl rfl (by
      intro j u' hj
      match j, hj with
      | 0, hj => simp at hj; subst hj; simp [Addr.add]
      | 1, hj => simp at hj; subst hj; simp [Addr.add]
      | 2, hj => simp at hj; subst hj; simp [Addr.add]) (by intro u' hu'; simp at hu'; rcases hu' with rfl | rfl | rfl <;> rfl) (by unfold maxLen; omega) hby2 (by simp; omega) ?_)
    intro v' w2 hown' hgrow _
    obtain ⟨g', cap', rfl⟩ := ownsRow_succ hown'
    obtain ⟨hv1, hv2, hr2, hk2, hb2⟩ := hv.appended (n₀ := w.heap.size + 1 + 1) (by decide) HROW.out hn₀ (Nat.le_refl _) hown' hgrow
    have hc1 := hv1.cell
    have hf1 := hv1.frozen
    obtain ⟨hf2, hkb⟩ := HFW.out.app HROW.out hgrow hb2
    have HF2 : Hid (Fv w.heap.size x k few _) := hf2
    obtain ⟨⟨q0, q1⟩, q2, q3⟩ := hf2
    have hc2 := hv2.cell
    have HC2 : Hid (Co w.heap.size (pre ++ [(ya, yn, yv)]) _) := ⟨_, hv2, by unfold RowOf; rw [encs_snoc, List.length_append]; exact hr2⟩
    have hs2 := hb2.size
    have hbb : Below w.heap.size W _ := hb2.mono (by omega)
    have HL1 : Hid ((pre ++ [(ya, yn, yv)]).length = pre.length + 1) := List.length_append
    clear q3
    by_cases hle : few ≤ ((pre.length + 1 : Nat) : Int)
    · have HFW1 : Hid ((pre ++ [(ya, yn, yv)]).length = fw few) := fw_one HP.out (by rw [HL1.out]; exact hle)
      gi_wp2
      exact ⟨hk2.from _, ⟨⟨rfl, HFW1.out⟩, HC2.out⟩, hB.trans hbb⟩
    · have HFW1 : Hid (Lo few (pre ++ [(ya, yn, yv)])) := fun _ => by rw [HL1.out]; omega
      gi_wp2
      exact ⟨hk2.from _, hbb, ⟨⟨⟨HC2.out, HF2.out⟩, by omega⟩, HFW1.out⟩, hB.trans hbb⟩
  case done =>
    rintro D ys W hD rfl ⟨⟨⟨⟨hi, hf⟩, hs5⟩, hp⟩, hB⟩ hK
    have hy := HY.out
    rw [fw_all hp] at hy
    subst hy
    obtain ⟨v, hv, hrow⟩ := hi
    obtain ⟨ra, rc, hve, harr, -⟩ := arr_of_own hrow (und_u32 hw x k)
    subst hve
    have hcv := hv.cell
    have HARR : Hid (Arr3 (W.putObj D (.deferred none)) ra (und t x k)) := by
      obtain ⟨ra', rc', hve', harr', -⟩ := arr_of_own (row_own hrow (grownBy_putObj' W D (.deferred none)) (fun r e => by cases e; exact ⟨_, hK, rfl⟩)) (und_u32 hw x k)
      cases hve'; exact harr'
    clear hrow harr
    gi_wp2
    refine ⟨by simp, .inl ⟨_, _, rfl, run_takeDeferred hK, ?_⟩⟩
    exact ⟨_, results_tmp rfl _ _ _, ra, rc, rfl, HARR.out, hB.trans (belowK_b (w := w) (Nat.le_refl _) W D _ _ (by omega) hK rfl rfl)⟩
  case stop =>
    rintro D c pre W hD hpre ⟨⟨⟨rfl, hl⟩, hi⟩, hB⟩ hK
    have hy := HY.out
    rw [fw_pre hpre hl] at hy
    clear hl
    subst hy
    have hu : ∀ d ∈ pre, In32 d.1 := fun d hd => und_u32 hw x k d (hpre.subset hd)
    obtain ⟨v, hv, hrow⟩ := hi
    obtain ⟨ra, rc, hve, harr, -⟩ := arr_of_own hrow hu
    subst hve
    have hcv := hv.cell
    have HARR : Hid (Arr3 (W.putObj D (.deferred none)) ra pre) := by
      obtain ⟨ra', rc', hve', harr', -⟩ := arr_of_own (row_own hrow (grownBy_putObj' W D (.deferred none)) (fun r e => by cases e; exact ⟨_, hK, rfl⟩)) hu
      cases hve'; exact harr'
    clear hrow harr
    gi_wp2
    refine ⟨by simp, .inl ⟨_, _, rfl, run_takeDeferred hK, ?_⟩⟩
    exact ⟨_, results_tmp rfl _ _ _, ra, rc, rfl, HARR.out, hB.trans (belowK_b (w := w) (Nat.le_refl _) W D _ _ (by omega) hK rfl rfl)⟩
end Go.Proofs.Ytibmhdfodmkahaa.Tu
namespace Go.Proofs.Ytibmhdfodmkahaa.Tu
open Go.ChangeShapes Go.WideShapes Go.ChangeAt Go.RowKit Go.Shelf Go.Proofs.Ytibmhdfodmkahaa.PM Go.Proofs.Ytibmhdfodmkahaa.TrM Go.Proofs.Ytibmhdfodmkahaa.Ask Go.Proofs.Ytibmhdfodmkahaa.Tri
set_option linter.unusedVariables false
attribute [local go_sem] Oper.semAt_some

set_option maxRecDepth 100000 in
set_option maxHeartbeats 4000000 in
theorem TrieOver_any (ok : Nat → Prop) (bt : Nat) (t : Tr) (p : Option Addr) (c x k few : Int) (x0 : 0 ≤ x) (x1 : x < 4294967296) (w : World) (hh : Holds ok w bt t p c) (hw : WF t) (hby : (allT t).length * 24 ≤ 140737488355328) (ys0 : List (Int × Int × Int)) (hys : (ov t x k).take (fw few) = ys0) :
    Calls Try.prog 22 #[.pointer (some ⟨bt, 0, none⟩), .agg #[.int .u32 x, .int .i64 k], .int .i64 few] w fun e w' => ∃ a cap, e = .returned (.slice a ys0.length cap) ∧ Arr3 w' a ys0 ∧ Below w.heap.size w w' := by
  refine (callsIn_wide (n := 4)).1 ?_
  have HH : Hid (Holds ok w bt t p c) := hh
  have HY : Hid ((ov t x k).take (fw few) = ys0) := hys
  clear hh hys
  have hlen := ov_len hw x k
  refine callsIn_of_wp_marks Try.func22 rfl trivial ?_ rfl
  simp only [Try.ntmps22, List.size_toArray, List.length_cons, List.length_nil, Nat.reduceAdd, Nat.reduceSub, Array.replicate_succ, Array.replicate_zero, List.push_toArray, List.append_toArray, List.nil_append, List.cons_append]
  gi_wp2
  refine ⟨trivial, ?_⟩
  refine (callsIn_wide.2 (over_any bt x k _)).mono ?_
  rintro e w1 ⟨rfl, hw1⟩
  simp only [World.size_alloc]
  obtain ⟨g1, g2, g3, g4, g5, hsz, hB0⟩ := five w _ _ _ _ _ w1 hw1
  have HFv : Hid (Fv w.heap.size x k few w1) := ⟨⟨by simp [World.cell?, g1], by simp [World.cell?, g1]⟩, by simp [World.cell?, g2], g5⟩
  have HC0 : Hid (Co w.heap.size [] w1) := ⟨_, g3, RowOf.nil _ _ _⟩
  have cT : w1.cell? ⟨w.heap.size + 1 + 1 + 1, 0, none⟩ = some (.pointer (some ⟨bt, 0, none⟩)) := by simp [World.cell?, g4]
  have c0 : w1.cell? ⟨w.heap.size + 1 + 1 + 1 + 1, 0, none⟩ = some (.int .u32 x) := by simp [World.cell?, g5]
  have c1 : w1.cell? ⟨w.heap.size + 1 + 1 + 1 + 1, 1, none⟩ = some (.int .i64 k) := by simp [World.cell?, g5]
  clear hw1 g1 g2 g3 g4 g5
  gi_wp2
  have hh1 : Holds ok w1 bt t p c := HH.out.bel hB0
  have hrep : Rep (fun b => b < w.heap.size) w1 t p := HH.out.rep.lt.below hB0 (fun b h => h.2)
  refine wpIn_rangeFunc_ownH rfl (by decide) (gf := 48) rfl trivial (enters_of Try.func48 (by kernel_rfl) rfl)
    (over_stops 3 _ _ bt w.heap.size t p x k x0 x1 w1 cT hh1.root c0 c1 hrep hw hB0.size) Kept.trans (Kept.book hB0.size (by omega)) (Below.refl _ _) (fun _ => rfl)
    (fun pre W => (((Co w.heap.size pre W ∧ Fv w.heap.size x k few W) ∧ w.heap.size + 5 ≤ W.heap.size) ∧ Lo few pre) ∧ Below w.heap.size w W)
    (fun c pre W => ((c = .exit 0 ∧ pre.length = fw few) ∧ Co w.heap.size pre W) ∧ Below w.heap.size w W)
    (OwnFrom.and (Own.from (fun s A B row hs hg hr => ⟨⟨⟨hs.1.1.1.own hg hr, hs.1.1.2.own hg hr⟩, Nat.le_trans hs.1.2 hg.size⟩, hs.2⟩) _) (ownFrom_below (Nat.le_refl _) hB0.size))
    (fun c => OwnFrom.and (Own.from (fun s A B row hs hg hr => ⟨hs.1, hs.2.own hg hr⟩) _) (ownFrom_below (Nat.le_refl _) hB0.size)) ⟨⟨⟨⟨HC0.out, HFv.out⟩, by omega⟩, fun h => absurd rfl h⟩, hB0⟩
    (fun y a' W => ∃ Bx, w.heap.size + 5 ≤ Bx ∧ (W.cell? ⟨Bx, 0, none⟩ = some (.int .u32 y.1) ∧ W.cell? ⟨Bx, 1, none⟩ = some (.int .i64 y.2.1)) ∧
      a' = { tmps := #[.pointer (some ⟨bt, 0, none⟩), .agg #[.int .u32 x, .int .i64 k], .int .i64 few, undef, .pointer (some ⟨w.heap.size, 0, none⟩), .pointer (some ⟨w.heap.size + 1, 0, none⟩), .slice none 0 0, .pointer (some ⟨w.heap.size + 1 + 1, 0, none⟩),
        .pointer (some ⟨Bx, 0, none⟩), .int .i64 y.2.2, .pointer (some ⟨bt, 0, none⟩), .agg #[.int .u32 x, .int .i64 k], .func (.func 48) #[] #[.pointer (some ⟨w.heap.size + 1 + 1 + 1, 0, none⟩), .pointer (some ⟨w.heap.size + 1 + 1 + 1 + 1, 0, none⟩)],
        .agg #[.int .u32 y.1, .int .i64 y.2.1], .int .i64 y.2.2, undef, undef, undef, undef, undef, undef, undef, undef, undef, undef, undef], defers := [] })
    (fun y a' s A B row hs hg hr => by
      obtain ⟨Bx, h1, ⟨h2, h3⟩, h4⟩ := hs
      exact ⟨Bx, h1, ⟨cell_kept h2 hg (fun r e => (hr r e).2), cell_kept h3 hg (fun r e => (hr r e).2)⟩, h4⟩) ?assign ?body ?done ?stop
  case assign =>
    rintro l pre ⟨ya, yn, yv⟩ W K ⟨⟨⟨⟨hi, hf⟩, hs5⟩, hp⟩, hB⟩ hK
    dsimp only [enc3]
    gi_wp2
    exact hK _ _ ((KeepsOthers.alloc _ _).from _) ⟨(Below.refl _ W).alloc hB.size _, Below.heap_alloc _ _ _ (by omega)⟩ ⟨⟨⟨⟨hi.own (World.grownBy_alloc W _ none) (fun r e => by cases e), hf.own (World.grownBy_alloc W _ none) (fun r e => by cases e)⟩, by simp; omega⟩, hp⟩, hB.alloc hB.size _⟩
      ⟨W.heap.size, hs5, ⟨by simp, by simp⟩, rfl⟩
  case body =>
    rintro l pre ⟨ya, yn, yv⟩ a' W hl ⟨rr, hrr⟩ ⟨⟨⟨⟨⟨v, hv, hrow⟩, hf⟩, hs5⟩, hp⟩, hB⟩ ⟨Bx, hBx, ⟨y0, y1⟩, rfl⟩ hlt
    have HFW : Hid (Fv w.heap.size x k few W) := hf
    have hcv := hv.cell
    have HROW : Hid (RowOf W (w.heap.size + 1 + 1) 43 v pre) := hrow
    have HP : Hid (Lo few pre) := hp
    obtain ⟨i0, hi, hz0, hz1, hz2⟩ := info_parts infoI
    have hby2 : (pre.length + 1) * 24 ≤ 140737488355328 := by omega
    have hn₀ : w.heap.size + 1 + 1 ≤ W.heap.size := by omega
    clear hrow hp hf
    gi_wp2_with (gi_at_builtin; refine wpListIn_append_own _ rfl _ _ 38 rfl (w.heap.size + 1 + 1) 43 i0 (.agg #[.int .u32 0, .int .i64 0, .int .i64 0]) 3 24 Try.underlying38 hi hz0 hz1 hz2 rfl (by decide) v pre.length (encs pre) rfl (World.ownsRow.alloc HROW.out _) ⟨W.heap.size, 0, none⟩ 1 1 [.int .u32 ya, .int .i64 yn, .int .i64 yv] rfl rfl (by
      intro j u' hj
      match j, hj with
      | 0, hj => simp at hj; subst hj; simp [Addr.add]
      | 1, hj => simp at hj; subst hj; simp [Addr.add]
      | 2, hj => simp at hj; subst hj; simp [Addr.add]) (by intro u' hu'; simp at hu'; rcases hu' with rfl | rfl | rfl <;> rfl) (by unfold maxLen; omega) hby2 (by simp; omega) ?_)
    intro v' w2 hown' hgrow _
    obtain ⟨g', cap', rfl⟩ := ownsRow_succ hown'
    obtain ⟨hv1, hv2, hr2, hk2, hb2⟩ := hv.appended (n₀ := w.heap.size + 1 + 1) (by decide) HROW.out hn₀ (Nat.le_refl _) hown' hgrow
    have hc1 := hv1.cell
    have hf1 := hv1.frozen
    obtain ⟨hf2, hkb⟩ := HFW.out.app HROW.out hgrow hb2
    have HF2 : Hid (Fv w.heap.size x k few _) := hf2
    obtain ⟨⟨q0, q1⟩, q2, q3⟩ := hf2
    have hc2 := hv2.cell
    have HC2 : Hid (Co w.heap.size (pre ++ [(ya, yn, yv)]) _) := ⟨_, hv2, by unfold RowOf; rw [encs_snoc, List.length_append]; exact hr2⟩
    have hs2 := hb2.size
    have hbb : Below w.heap.size W _ := hb2.mono (by omega)
    have HL1 : Hid ((pre ++ [(ya, yn, yv)]).length = pre.length + 1) := List.length_append
    clear q3
    by_cases hle : few ≤ ((pre.length + 1 : Nat) : Int)
    · have HFW1 : Hid ((pre ++ [(ya, yn, yv)]).length = fw few) := fw_one HP.out (by rw [HL1.out]; exact hle)
      gi_wp2
      exact ⟨hk2.from _, ⟨⟨rfl, HFW1.out⟩, HC2.out⟩, hB.trans hbb⟩
    · have HFW1 : Hid (Lo few (pre ++ [(ya, yn, yv)])) := fun _ => by rw [HL1.out]; omega
      gi_wp2
      exact ⟨hk2.from _, ⟨hbb, hkb⟩, ⟨⟨⟨HC2.out, HF2.out⟩, by omega⟩, HFW1.out⟩, hB.trans hbb⟩
  case done =>
    rintro D ys W hD rfl ⟨⟨⟨⟨hi, hf⟩, hs5⟩, hp⟩, hB⟩ hK
    have hy := HY.out
    rw [fw_all hp] at hy
    subst hy
    obtain ⟨v, hv, hrow⟩ := hi
    obtain ⟨ra, rc, hve, harr, -⟩ := arr_of_own hrow (ov_u32 hw x k)
    subst hve
    have hcv := hv.cell
    have HARR : Hid (Arr3 (W.putObj D (.deferred none)) ra (ov t x k)) := by
      obtain ⟨ra', rc', hve', harr', -⟩ := arr_of_own (row_own hrow (grownBy_putObj' W D (.deferred none)) (fun r e => by cases e; exact ⟨_, hK, rfl⟩)) (ov_u32 hw x k)
      cases hve'; exact harr'
    clear hrow harr
    gi_wp2
    refine ⟨by simp, .inl ⟨_, _, rfl, run_takeDeferred hK, ?_⟩⟩
    exact ⟨_, results_tmp rfl _ _ _, ra, rc, rfl, HARR.out, hB.trans (belowK_b (w := w) (Nat.le_refl _) W D _ _ (by omega) hK rfl rfl)⟩
  case stop =>
    rintro D c pre W hD hpre ⟨⟨⟨rfl, hl⟩, hi⟩, hB⟩ hK
    have hy := HY.out
    rw [fw_pre hpre hl] at hy
    clear hl
    subst hy
    have hu : ∀ d ∈ pre, In32 d.1 := fun d hd => ov_u32 hw x k d (hpre.subset hd)
    obtain ⟨v, hv, hrow⟩ := hi
    obtain ⟨ra, rc, hve, harr, -⟩ := arr_of_own hrow hu
    subst hve
    have hcv := hv.cell
    have HARR : Hid (Arr3 (W.putObj D (.deferred none)) ra pre) := by
      obtain ⟨ra', rc', hve', harr', -⟩ := arr_of_own (row_own hrow (grownBy_putObj' W D (.deferred none)) (fun r e => by cases e; exact ⟨_, hK, rfl⟩)) hu
      cases hve'; exact harr'
    clear hrow harr
    gi_wp2
    refine ⟨by simp, .inl ⟨_, _, rfl, run_takeDeferred hK, ?_⟩⟩
    exact ⟨_, results_tmp rfl _ _ _, ra, rc, rfl, HARR.out, hB.trans (belowK_b (w := w) (Nat.le_refl _) W D _ _ (by omega) hK rfl rfl)⟩
end Go.Proofs.Ytibmhdfodmkahaa.Tu
namespace Go.Proofs.Ytibmhdfodmkahaa.Tu
open Go.ChangeShapes Go.WideShapes Go.ChangeAt Go.RowKit Go.Joins Go.Proofs.Ytibmhdfodmkahaa.PM Go.Proofs.Ytibmhdfodmkahaa.TrM Go.Proofs.Ytibmhdfodmkahaa.Ask Go.Proofs.Ytibmhdfodmkahaa.Tri
set_option linter.unusedVariables false
set_option linter.unusedSimpArgs false

set_option maxRecDepth 1000000 in
set_option maxHeartbeats 16000000 in
theorem case_5 {w wr : World} {ss : List Sp} {L k cap : Nat} {va : Option Addr} {ts : List Tr} {bts : List Nat} {bks : List Bs} {gt gb n cT cb : Nat} {U : Nat → Value} (hL : ss.length = L) (hbig : L ≤ 1048576) (hk : k < L) (hkd : k < ss.length) (H : Ge.Lst ES w va ss) (s : Sp) (hs : ss[k] = s) (hok : SpOk s)
    (hst : St w.heap.size w (keys (ss.take k)) ts ts bts bks (.slice (some ⟨gt, 0, none⟩) n cT) (.slice (some ⟨gb, 0, none⟩) n cb) wr) (hn : ts.length = n) (hkind : s.kind = 5) :
    Code.wp Try.prog body (Exit.then (fun a' w'' => WI w ss va L cap a' w'' ∧ Wmu L a' w'' < L - k) (QX w ss va L cap)) ⟨fr U va L cap (.slice (some ⟨gt, 0, none⟩) n cT) (.slice (some ⟨gb, 0, none⟩) n cb) (.int .i64 (k : Int)), []⟩ wr := by
  have HL : Hid (ss.length = L) := hL
  have HN : Hid (ts.length = n) := hn
  have HST : Hid (St w.heap.size w (keys (ss.take k)) ts ts bts bks (.slice (some ⟨gt, 0, none⟩) n cT) (.slice (some ⟨gb, 0, none⟩) n cb) wr) := hst
  obtain ⟨b, o, e, hbl, hc⟩ := (H.bel (hst.bel.mono (by have := hst.nsz; omega))).cells k hkd
  subst e
  have c0 := hc 0 (by decide)
  have c1 := hc 1 (by decide)
  have c2 := hc 2 (by decide)
  have c3 := hc 3 (by decide)
  have c4 := hc 4 (by decide)
  have c5 := hc 5 (by decide)
  have c6 := hc 6 (by decide)
  have HS : Hid (ss[k] = s) := hs
  rw [hs] at c0 c1 c2 c3 c4 c5 c6
  simp only [ES, spL, List.getElem?_cons_zero, List.getElem?_cons_succ, Nat.add_zero] at c0 c1 c2 c3 c4 c5 c6
  have hkk : (k : Int) < L := by omega
  have kk0 : (0 : Int) ≤ k := by omega
  clear hc hs hst hn hL
  obtain ⟨kd, tr, sa, sn, sv, sf, sd⟩ := s
  obtain ⟨hoa, hod, hot⟩ := hok
  dsimp only at hkind hoa hod hot c0 c1 c2 c3 c4 c5 c6
  have HKD : Hid (kd = 5) := hkind
  clear hkind
  obtain ⟨tx, htx⟩ : ∃ tx : Int, tx = if tr < 0 then 0 else tr := ⟨_, rfl⟩
  have htx0 : 0 ≤ tx ∧ tx < 9223372036854775808 := by rw [htx]; split <;> omega
  have HTX : Hid (tx = if tr < 0 then 0 else tr) := htx
  clear htx
  conv => arg 2; whnf
  unfold fr
  go_upto_region 9 with fail
  obtain ⟨wA, hwA⟩ : ∃ wA, wr.alloc (Obj.cells #[.int .i64 kd, .int .i64 tr, .int .u32 sa, .int .i64 sn, .int .i64 sv, .int .i64 sf, .int .u32 sd] 35) = wA := ⟨_, rfl⟩
  have HWA : Hid (Below wr.heap.size wr wA ∧ wA.heap.size = wr.heap.size + 1 ∧ Bx7 wr.heap.size ⟨kd, tr, sa, sn, sv, sf, sd⟩ wA ∧ wA.cell? ⟨wr.heap.size, 1, none⟩ = some (.int .i64 tr) ∧ wA.frozen? ⟨wr.heap.size, 1, none⟩ = false) := by
    rw [← hwA]
    exact ⟨(Below.refl _ wr).alloc (Nat.le_refl _) _, by simp, ⟨by simp, by simp, by simp, by simp, by simp, by simp, by simp⟩, by simp, by simp⟩
  rw [hwA]
  clear hwA c0 c1 c2 c3 c4 c5 c6 hbl
  obtain ⟨bs, hbs⟩ : ∃ bs, wr.heap.size = bs := ⟨_, rfl⟩
  have HBS : Hid (wr.heap.size = bs) := hbs
  rw [hbs] at HWA ⊢
  clear hbs
  obtain ⟨hb, hsz, hbx, ct, cf⟩ := HWA.out
  go_upto_if 55 with fail
  go_cut [] from 56 to 56 (fun wx => Bx7 bs ⟨kd, tr, sa, sn, sv, sf, sd⟩ wx ∧ wx.cell? ⟨bs, 1, none⟩ = some (.int .i64 tx) ∧ Below bs wr wx ∧ wx.heap.size = bs + 1)
  case first =>
    by_cases htr : tr < 0
    · have e : tx = 0 := by rw [HTX.out, if_pos htr]
      go_wp2_with fail
      go_meet
      exact ⟨⟨by simp [go_sem, hbx.k], by simp [go_sem, hbx.a], by simp [go_sem, hbx.n], by simp [go_sem, hbx.v], by simp [go_sem, hbx.f], by simp [go_sem, hbx.d], by simpa using hbx.lt⟩, by rw [e]; simp [go_sem, ct], hb.setCell (p := ⟨bs, 1, none⟩) (Nat.le_refl _) _, by simpa using hsz⟩
    · have e : tx = tr := by rw [HTX.out, if_neg htr]
      go_wp2_with fail
      go_meet
      exact ⟨hbx, by rw [e]; exact ct, hb, hsz⟩
  case rest =>
    obtain ⟨hbx', ct', hb', hsz'⟩ := hcut
    have HSTc : Hid (St w.heap.size w (keys (ss.take (k + 1))) ts ts bts bks (.slice (some ⟨gt, 0, none⟩) n cT) (.slice (some ⟨gb, 0, none⟩) n cb) wc) := (HST.out.below (by rw [HBS.out]; exact hb')).keys hkd
    have HBX : Hid (Bx7 bs ⟨kd, tr, sa, sn, sv, sf, sd⟩ wc) := hbx'
    have HSZ : Hid (wc.heap.size = bs + 1) := hsz'
    have HGB : Hid (gt < bs ∧ gb < bs) := by rw [← HBS.out]; exact ⟨(HST.out.ot.row.lt gt rfl).2, (HST.out.ob.row.lt gb rfl).2⟩
    have HLT : Hid (∀ b ∈ bts, b < bs) := fun b hb => by rw [← HBS.out]; exact HST.out.lt hb
    clear hbx' hb' HST HWA hb hsz hbx ct cf HTX
    have hn0 : 0 < n := by rw [← HN.out]; exact HSTc.out.pos
    have hn12 : n ≤ 12 := by rw [← HN.out]; exact HSTc.out.few
    obtain ⟨q, hq⟩ : ∃ q : Nat, tx.tmod (n : Int) = (q : Int) := ⟨(tx.tmod (n : Int)).toNat, by rw [Int.toNat_of_nonneg (Int.tmod_nonneg _ htx0.1)]⟩
    have hqn : q < n := by
      have := Int.tmod_lt_of_pos tx (b := (n : Int)) (by omega)
      omega
    have hqi : (q : Int) < n := by omega
    have hq0 : (0 : Int) ≤ q := by omega
    have hni : (0 : Int) < n := by omega
    have hqb : q < bts.length := by rw [HSTc.out.l1, HN.out]; exact hqn
    have hqk : q < bks.length := by rw [HSTc.out.l2, HN.out]; exact hqn
    have hqt : q < ts.length := by rw [HN.out]; exact hqn
    obtain ⟨bt, hbt⟩ : ∃ bt, bts[q] = bt := ⟨_, rfl⟩
    obtain ⟨bk, hbk⟩ : ∃ bk, bks[q] = bk := ⟨_, rfl⟩
    have HBT : Hid (bts[q] = bt) := hbt
    have HBK : Hid (bks[q] = bk) := hbk
    have hbtb : bt < bs := by rw [← hbt]; exact HLT.out _ (List.getElem_mem hqb)
    have d0 : wc.cell? ⟨gt, q, none⟩ = some (.pointer (some ⟨bt, 0, none⟩)) := by
      have := HSTc.out.ot.at0.1 q hqb 0 (by decide)
      rw [hbt] at this; simpa [EP] using this
    have d1 : wc.cell? ⟨gb, q, none⟩ = some (.slice bk.1 bk.2.1 bk.2.2) := by
      have := HSTc.out.ob.at0.1 q hqk 0 (by decide)
      rw [hbk] at this; simpa [EB] using this
    have d0a : ∀ ob, (wc.alloc ob).cell? ⟨gt, q, none⟩ = some (.pointer (some ⟨bt, 0, none⟩)) := fun ob => cell_bel d0 ((Below.refl _ wc).alloc (Nat.le_refl _) _)
    have d1a : ∀ ob, (wc.alloc ob).cell? ⟨gb, q, none⟩ = some (.slice bk.1 bk.2.1 bk.2.2) := fun ob => cell_bel d1 ((Below.refl _ wc).alloc (Nat.le_refl _) _)
    clear hbt hbk
    go_wp2_with fail
    go_region
    go_upto_region 14 with fail
    obtain ⟨bka, bkl, bkc⟩ := bk
    dsimp only
    obtain ⟨wD, hwD⟩ : ∃ wD, (wc.alloc (Obj.cells #[.slice bka bkl bkc] 28)).drew = wD := ⟨_, rfl⟩
    have hbD : Below wc.heap.size wc wD := by rw [← hwD]; exact ((Below.refl _ wc).alloc (Nat.le_refl _) _).drew
    have HBC : Hid (wD.cell? ⟨bs + 1, 0, none⟩ = some (.slice bka bkl bkc) ∧ bs + 1 < wD.heap.size) := by
      rw [← hwD, ← HSZ.out]
      exact ⟨by simp [go_sem], by simp⟩
    have HSD : Hid (St w.heap.size w (keys (ss.take (k + 1))) ts ts bts bks (.slice (some ⟨gt, 0, none⟩) n cT) (.slice (some ⟨gb, 0, none⟩) n cb) wD) := HSTc.out.below hbD
    have HBD : Hid (Bx7 bs ⟨kd, tr, sa, sn, sv, sf, sd⟩ wD) := HBX.out.below hbD
    have HC1 : Hid (wD.cell? ⟨bs, 1, none⟩ = some (.int .i64 tx)) := cell_bel ct' hbD
    first | rw [hwD] | rw [HSZ.out, hwD]
    clear hwD hbD HBX HSTc HSZ d0 d1 d0a d1a ct'
    obtain ⟨T, hT⟩ : ∃ T, ts[q] = T := ⟨_, rfl⟩
    have HT : Hid (ts[q] = T) := hT
    have HH : Hid (HoldsN (okL bts (.slice (some ⟨gt, 0, none⟩) n cT) (.slice (some ⟨gb, 0, none⟩) n cb)) wD bt T) := by have := HSD.out.ho q hqb hqt; rw [hT, HBT.out] at this; exact this
    have HBO : Hid (Bo (okL bts (.slice (some ⟨gt, 0, none⟩) n cT) (.slice (some ⟨gb, 0, none⟩) n cb)) wD (bka, bkl, bkc) (allT T)) := by have := HSD.out.bo q hqk hqt; rw [hT, HBK.out] at this; exact this
    have HG : Hid (Gd (keys (ss.take (k + 1))) T) := by rw [← hT]; exact HSD.out.gt _ (List.getElem_mem hqt)
    have HK1 : Hid ((keys (ss.take (k + 1))).length ≤ 1099511627776) := keys_le hk hbig
    have hkl : bkl = (allT T).length := HBO.out.len
    have hlen : (allT T).length ≤ 1099511627776 := Nat.le_trans HG.out.len HK1.out
    have e0 := HBD.out.k
    have e2 := HBD.out.a
    have e3 := HBD.out.n
    have e4 := HBD.out.v
    have e5 := HBD.out.f
    have e6 := HBD.out.d
    have e7 := HBC.out.1
    have hki : (k : Int) + 1 = ((k + 1 : Nat) : Int) := by omega
    have HKI : Hid ((k : Int) + 1 = ((k + 1 : Nat) : Int)) := hki
    dsimp only at e0 e2 e3 e4 e5 e6
    clear hT hki
    obtain rfl := HKD.out
    subst hkl
    have hlen2 : (allT T).length ≤ 4194304 := Nat.le_trans HG.out.len (by rw [keys_len, List.length_take]; omega)
    obtain ⟨pt, hht⟩ := HH.out
    obtain ⟨zl, hzl⟩ : ∃ zl, und T sa sn = zl := ⟨_, rfl⟩
    have hzl2 : Bk.bund sa sn (allT T) = zl := by rw [← und_bund HG.out.wf, hzl]
    have hzlen : zl.length ≤ (allT T).length := by rw [← hzl]; exact und_len HG.out.wf sa sn
    obtain ⟨ys, hys⟩ : ∃ ys, zl.take (fw sf) = ys := ⟨_, rfl⟩
    have hz0 : 0 ≤ max 0 sf := by omega
    have hfw : min (max 1 (max 0 sf).toNat) zl.length = ys.length := by rw [← hys, List.length_take]; unfold fw; omega
    have hyt : zl.take ys.length = ys := by
      rw [← hys, List.length_take]
      rcases Nat.le_total (fw sf) zl.length with h | h
      · rw [Nat.min_eq_left h]
      · rw [Nat.min_eq_right h, List.take_of_length_le (Nat.le_refl _), List.take_of_length_le h]
    have HFEW : Hid (∀ W, Below wD.heap.size wD W → Calls Try.prog 20 #[.pointer (some ⟨bt, 0, none⟩), .agg #[.int .u32 sa, .int .i64 sn], .int .i64 sf] W fun e w' => ∃ a cap, e = .returned (.slice a ys.length cap) ∧ Arr3 w' a ys ∧ Below W.heap.size W w') := fun W hW => TrieUnder_any _ bt T pt _ sa sn sf hoa.1 hoa.2 W (hht.bel hW) HG.out.wf (by omega) ys (by rw [hzl]; exact hys)
    have harr := HBO.out.arr
    have HBKU : Hid (∀ W, Below wD.heap.size wD W → Calls Try.prog 21 #[.agg #[.slice bka (allT T).length bkc], .agg #[.int .u32 sa, .int .i64 sn]] W fun e w' => ∃ va' cap', e = .returned (.slice va' zl.length cap') ∧ Bk.Arr3 w' va' zl ∧ Below W.heap.size W w') := fun W hW => (Bk.bunder_any bka bkc (allT T) sa sn hoa.1 hoa.2 W (to_bk (harr.bel hW)) (by omega)).mono (fun e w' ⟨a1, c1, h1, h2, h3, h4⟩ => by rw [hzl2] at h1 h2; exact ⟨a1, c1, h1, h2, h3⟩)
    have HSAM : Hid (∀ (a1 b1 : Option Addr) (c1 d1 : Nat) (W : World), Arr3 W a1 ys → Arr3 W b1 zl → Calls Try.prog 10 #[.slice a1 ys.length c1, .slice b1 zl.length d1, .int .i64 (max 0 sf)] W fun e w' => e = .returned (.bool true) ∧ Below W.heap.size W w') := fun a1 b1 c1 d1 W h1 h2 => same_few a1 b1 c1 d1 zl ys.length (max 0 sf) hz0 hfw.symm W (by rw [hyt]; exact h1) h2
    clear hht harr hzl hzl2 hys hfw hyt HH HBO hz0
    generalize ys.length = yn at *
    generalize zl.length = zn at *
    go_wp2_with fail
    refine wp_region_held_drew (S := fun W => ((W.cell? ⟨bs, 2, none⟩ = some (.int .u32 sa) ∧ W.cell? ⟨bs, 3, none⟩ = some (.int .i64 sn)) ∧ W.cell? ⟨bs, 5, none⟩ = some (.int .i64 sf)) ∧ W.cell? ⟨bs + 1, 0, none⟩ = some (.slice bka (allT T).length bkc)) (by kernel_rfl) ⟨⟨⟨e2, e3⟩, e5⟩, e7⟩ (fun hHeld => ?_)
    obtain ⟨X0, hX0⟩ : ∃ x, wD.drew = x := ⟨_, rfl⟩
    have hb0 : Below wD.heap.size wD X0 := by rw [← hX0]; exact bel_q wD 1
    rw [hX0] at hHeld ⊢
    clear hX0 e2 e3 e4 e5 e6 e7
    refine wpAnyH_take (i := 0) (v := ?_) rfl (by kernel_rfl) (by kernel_rfl) (by kernel_rfl) (fun _ _ _ h => h) (Or.inl ⟨by rfl, ?_⟩) (by assumption) ?_
    case refine_2 => intro W hSw; go_simp; try rfl
    try simp only [Act.put, List.getElem_toArray, List.getElem_cons_zero, List.getElem_cons_succ, List.setIfInBounds_toArray, List.set_cons_zero, List.set_cons_succ]
    refine wpAnyH_take (i := 1) (v := ?_) rfl (by kernel_rfl) (by kernel_rfl) (by kernel_rfl) (fun _ _ _ h => h) (Or.inl ⟨by rfl, ?_⟩) (by assumption) ?_
    case refine_2 => intro W hSw; go_simp; try rfl
    try simp only [Act.put, List.getElem_toArray, List.getElem_cons_zero, List.getElem_cons_succ, List.setIfInBounds_toArray, List.set_cons_zero, List.set_cons_succ]
    refine wpAnyH_take (i := 2) (v := .agg #[.int .u32 sa, .int .i64 sn]) rfl (by kernel_rfl) (by kernel_rfl) (by kernel_rfl) (fun _ _ _ h => h) (Or.inl ⟨by rfl, ?_⟩) (by assumption) ?_
    case refine_1 => intro W hSw; obtain ⟨⟨⟨a1, a2⟩, a3⟩, a4⟩ := hSw; go_simp; try rfl
    try simp only [Act.put, List.getElem_toArray, List.getElem_cons_zero, List.getElem_cons_succ, List.setIfInBounds_toArray, List.set_cons_zero, List.set_cons_succ]
    refine wpAnyH_take (i := 3) (v := ?_) rfl (by kernel_rfl) (by kernel_rfl) (by kernel_rfl) (fun _ _ _ h => h) (Or.inl ⟨by rfl, ?_⟩) (by assumption) ?_
    case refine_2 => intro W hSw; go_simp; try rfl
    try simp only [Act.put, List.getElem_toArray, List.getElem_cons_zero, List.getElem_cons_succ, List.setIfInBounds_toArray, List.set_cons_zero, List.set_cons_succ]
    refine wpAnyH_take (i := 4) (v := .int .i64 sf) rfl (by kernel_rfl) (by kernel_rfl) (by kernel_rfl) (fun _ _ _ h => h) (Or.inl ⟨by rfl, ?_⟩) (by assumption) ?_
    case refine_1 => intro W hSw; obtain ⟨⟨⟨a1, a2⟩, a3⟩, a4⟩ := hSw; go_simp; try rfl
    try simp only [Act.put, List.getElem_toArray, List.getElem_cons_zero, List.getElem_cons_succ, List.setIfInBounds_toArray, List.set_cons_zero, List.set_cons_succ]
    refine wpAnyH_take (i := 6) (v := .agg #[.slice bka (allT T).length bkc]) rfl (by kernel_rfl) (by kernel_rfl) (by kernel_rfl) (fun _ _ _ h => h) (Or.inl ⟨by rfl, ?_⟩) (by assumption) ?_
    case refine_1 => intro W hSw; obtain ⟨⟨⟨a1, a2⟩, a3⟩, a4⟩ := hSw; go_simp; try rfl
    try simp only [Act.put, List.getElem_toArray, List.getElem_cons_zero, List.getElem_cons_succ, List.setIfInBounds_toArray, List.set_cons_zero, List.set_cons_succ]
    refine wpAnyH_take (i := 7) (v := ?_) rfl (by kernel_rfl) (by kernel_rfl) (by kernel_rfl) (fun _ _ _ h => h) (Or.inl ⟨by rfl, ?_⟩) (by assumption) ?_
    case refine_2 => intro W hSw; go_simp; try rfl
    try simp only [Act.put, List.getElem_toArray, List.getElem_cons_zero, List.getElem_cons_succ, List.setIfInBounds_toArray, List.set_cons_zero, List.set_cons_succ]
    refine wpAnyH_take (i := 8) (v := .agg #[.int .u32 sa, .int .i64 sn]) rfl (by kernel_rfl) (by kernel_rfl) (by kernel_rfl) (fun _ _ _ h => h) (Or.inl ⟨by rfl, ?_⟩) (by assumption) ?_
    case refine_1 => intro W hSw; obtain ⟨⟨⟨a1, a2⟩, a3⟩, a4⟩ := hSw; go_simp; try rfl
    try simp only [Act.put, List.getElem_toArray, List.getElem_cons_zero, List.getElem_cons_succ, List.setIfInBounds_toArray, List.set_cons_zero, List.set_cons_succ]
    refine wpAnyH_take (i := 10) (v := ?_) rfl (by kernel_rfl) (by kernel_rfl) (by kernel_rfl) (fun _ _ _ h => h) (Or.inl ⟨by rfl, ?_⟩) (by assumption) ?_
    case refine_2 => intro W hSw; go_simp; try rfl
    try simp only [Act.put, List.getElem_toArray, List.getElem_cons_zero, List.getElem_cons_succ, List.setIfInBounds_toArray, List.set_cons_zero, List.set_cons_succ]
    refine wpAnyH_take (i := 11) (v := .int .i64 sf) rfl (by kernel_rfl) (by kernel_rfl) (by kernel_rfl) (fun _ _ _ h => h) (Or.inl ⟨by rfl, ?_⟩) (by assumption) ?_
    case refine_1 => intro W hSw; obtain ⟨⟨⟨a1, a2⟩, a3⟩, a4⟩ := hSw; go_simp; try rfl
    try simp only [Act.put, List.getElem_toArray, List.getElem_cons_zero, List.getElem_cons_succ, List.setIfInBounds_toArray, List.set_cons_zero, List.set_cons_succ]
    refine wpAnyH_take (i := 12) (v := .int .i64 (max 0 sf)) rfl (by kernel_rfl) (by kernel_rfl) (by kernel_rfl) (fun _ _ _ h => h) (Or.inl ⟨by rfl, ?_⟩) (by assumption) ?_
    case refine_1 => intro W hSw; go_simp; try rfl
    try simp only [Act.put, List.getElem_toArray, List.getElem_cons_zero, List.getElem_cons_succ, List.setIfInBounds_toArray, List.set_cons_zero, List.set_cons_succ]
    refine wpAnyH_ready (rs := [5]) (by kernel_rfl) (by simp) ?_
    refine AllReadyH.cons rfl (fun K hK => ?_) AllReadyH.nil
    go_simp
    refine (HFEW.out X0 hb0).mono ?_
    rintro e X1 ⟨xa, xc, rfl, hxa, hb1⟩
    have hb01 : Below wD.heap.size wD X1 := hb0.trans (hb1.mono hb0.size)
    have HXA : Hid (Arr3 X1 xa ys) := hxa
    refine hK.out _ _ ⟨⟨⟨cell_bel hHeld.1.1.1 hb1, cell_bel hHeld.1.1.2 hb1⟩, cell_bel hHeld.1.2 hb1⟩, cell_bel hHeld.2 hb1⟩ (fun hHeld => ?_)
    clear hK K hxa hb0 hb1
    try simp only [Act.put, List.getElem_toArray, List.getElem_cons_zero, List.getElem_cons_succ, List.setIfInBounds_toArray, List.set_cons_zero, List.set_cons_succ]
    refine wpAnyH_ready (rs := [9]) (by kernel_rfl) (by simp) ?_
    refine AllReadyH.cons rfl (fun K hK => ?_) AllReadyH.nil
    go_simp
    refine (HBKU.out X1 hb01).mono ?_
    rintro e X2 ⟨ya, yc, rfl, hya, hb2⟩
    have hb02 : Below wD.heap.size wD X2 := hb01.trans (hb2.mono hb01.size)
    have HYA : Hid (Arr3 X2 ya zl) := of_bk hya
    have HXB : Hid (Arr3 X2 xa ys) := HXA.out.bel hb2
    refine hK.out _ _ ⟨⟨⟨cell_bel hHeld.1.1.1 hb2, cell_bel hHeld.1.1.2 hb2⟩, cell_bel hHeld.1.2 hb2⟩, cell_bel hHeld.2 hb2⟩ (fun hHeld => ?_)
    clear hK K hya hb01 hb2 HXA
    try simp only [Act.put, List.getElem_toArray, List.getElem_cons_zero, List.getElem_cons_succ, List.setIfInBounds_toArray, List.set_cons_zero, List.set_cons_succ]
    refine wpAnyH_ready (rs := [13]) (by kernel_rfl) (by simp) ?_
    refine AllReadyH.cons rfl (fun K hK => ?_) AllReadyH.nil
    go_simp
    refine (HSAM.out xa ya xc yc X2 HXB.out HYA.out).mono ?_
    rintro e X3 ⟨rfl, hb3⟩
    have hb03 : Below wD.heap.size wD X3 := hb02.trans (hb3.mono hb02.size)
    refine hK.out _ _ ⟨⟨⟨cell_bel hHeld.1.1.1 hb3, cell_bel hHeld.1.1.2 hb3⟩, cell_bel hHeld.1.2 hb3⟩, cell_bel hHeld.2 hb3⟩ (fun hHeld => ?_)
    clear hK K hb02 hb3 HXB HYA
    try simp only [Act.put, List.getElem_toArray, List.getElem_cons_zero, List.getElem_cons_succ, List.setIfInBounds_toArray, List.set_cons_zero, List.set_cons_succ]
    refine wpAnyH_take (i := 14) (v := ?_) rfl (by kernel_rfl) (by kernel_rfl) (by kernel_rfl) (fun _ _ _ h => h) (Or.inl ⟨by rfl, ?_⟩) (by assumption) ?_
    case refine_2 => intro W hSw; go_simp; try rfl
    try simp only [Act.put, List.getElem_toArray, List.getElem_cons_zero, List.getElem_cons_succ, List.setIfInBounds_toArray, List.set_cons_zero, List.set_cons_succ]
    refine wpAnyH_done (by kernel_rfl) ?_ _
    clear hHeld HFEW HBKU HSAM
    have HSX : Hid (St w.heap.size w (keys (ss.take (k + 1))) ts ts bts bks (.slice (some ⟨gt, 0, none⟩) n cT) (.slice (some ⟨gb, 0, none⟩) n cb) X3) := HSD.out.below hb03
    clear HSD HBD HBC
    go_wp2_with fail
    rw [HKI.out]
    exact wi_end fr_mk (Nat.lt_succ_self k) hk ⟨ts, bts, bks, HSX.out⟩
end Go.Proofs.Ytibmhdfodmkahaa.Tu
namespace Go.Proofs.Ytibmhdfodmkahaa.Tu
open Go.ChangeShapes Go.WideShapes Go.ChangeAt Go.RowKit Go.Joins Go.Proofs.Ytibmhdfodmkahaa.PM Go.Proofs.Ytibmhdfodmkahaa.TrM Go.Proofs.Ytibmhdfodmkahaa.Ask Go.Proofs.Ytibmhdfodmkahaa.Tri
set_option linter.unusedVariables false
set_option linter.unusedSimpArgs false

set_option maxRecDepth 1000000 in
set_option maxHeartbeats 16000000 in
theorem case_6 {w wr : World} {ss : List Sp} {L k cap : Nat} {va : Option Addr} {ts : List Tr} {bts : List Nat} {bks : List Bs} {gt gb n cT cb : Nat} {U : Nat → Value} (hL : ss.length = L) (hbig : L ≤ 1048576) (hk : k < L) (hkd : k < ss.length) (H : Ge.Lst ES w va ss) (s : Sp) (hs : ss[k] = s) (hok : SpOk s)
    (hst : St w.heap.size w (keys (ss.take k)) ts ts bts bks (.slice (some ⟨gt, 0, none⟩) n cT) (.slice (some ⟨gb, 0, none⟩) n cb) wr) (hn : ts.length = n) (hkind : s.kind = 6) :
    Code.wp Try.prog body (Exit.then (fun a' w'' => WI w ss va L cap a' w'' ∧ Wmu L a' w'' < L - k) (QX w ss va L cap)) ⟨fr U va L cap (.slice (some ⟨gt, 0, none⟩) n cT) (.slice (some ⟨gb, 0, none⟩) n cb) (.int .i64 (k : Int)), []⟩ wr := by
  have HL : Hid (ss.length = L) := hL
  have HN : Hid (ts.length = n) := hn
  have HST : Hid (St w.heap.size w (keys (ss.take k)) ts ts bts bks (.slice (some ⟨gt, 0, none⟩) n cT) (.slice (some ⟨gb, 0, none⟩) n cb) wr) := hst
  obtain ⟨b, o, e, hbl, hc⟩ := (H.bel (hst.bel.mono (by have := hst.nsz; omega))).cells k hkd
  subst e
  have c0 := hc 0 (by decide)
  have c1 := hc 1 (by decide)
  have c2 := hc 2 (by decide)
  have c3 := hc 3 (by decide)
  have c4 := hc 4 (by decide)
  have c5 := hc 5 (by decide)
  have c6 := hc 6 (by decide)
  have HS : Hid (ss[k] = s) := hs
  rw [hs] at c0 c1 c2 c3 c4 c5 c6
  simp only [ES, spL, List.getElem?_cons_zero, List.getElem?_cons_succ, Nat.add_zero] at c0 c1 c2 c3 c4 c5 c6
  have hkk : (k : Int) < L := by omega
  have kk0 : (0 : Int) ≤ k := by omega
  clear hc hs hst hn hL
  obtain ⟨kd, tr, sa, sn, sv, sf, sd⟩ := s
  obtain ⟨hoa, hod, hot⟩ := hok
  dsimp only at hkind hoa hod hot c0 c1 c2 c3 c4 c5 c6
  have HKD : Hid (kd = 6) := hkind
  clear hkind
  obtain ⟨tx, htx⟩ : ∃ tx : Int, tx = if tr < 0 then 0 else tr := ⟨_, rfl⟩
  have htx0 : 0 ≤ tx ∧ tx < 9223372036854775808 := by rw [htx]; split <;> omega
  have HTX : Hid (tx = if tr < 0 then 0 else tr) := htx
  clear htx
  conv => arg 2; whnf
  unfold fr
  go_upto_region 9 with fail
  obtain ⟨wA, hwA⟩ : ∃ wA, wr.alloc (Obj.cells #[.int .i64 kd, .int .i64 tr, .int .u32 sa, .int .i64 sn, .int .i64 sv, .int .i64 sf, .int .u32 sd] 35) = wA := ⟨_, rfl⟩
  have HWA : Hid (Below wr.heap.size wr wA ∧ wA.heap.size = wr.heap.size + 1 ∧ Bx7 wr.heap.size ⟨kd, tr, sa, sn, sv, sf, sd⟩ wA ∧ wA.cell? ⟨wr.heap.size, 1, none⟩ = some (.int .i64 tr) ∧ wA.frozen? ⟨wr.heap.size, 1, none⟩ = false) := by
    rw [← hwA]
    exact ⟨(Below.refl _ wr).alloc (Nat.le_refl _) _, by simp, ⟨by simp, by simp, by simp, by simp, by simp, by simp, by simp⟩, by simp, by simp⟩
  rw [hwA]
  clear hwA c0 c1 c2 c3 c4 c5 c6 hbl
  obtain ⟨bs, hbs⟩ : ∃ bs, wr.heap.size = bs := ⟨_, rfl⟩
  have HBS : Hid (wr.heap.size = bs) := hbs
  rw [hbs] at HWA ⊢
  clear hbs
  obtain ⟨hb, hsz, hbx, ct, cf⟩ := HWA.out
  go_upto_if 55 with fail
  go_cut [] from 56 to 56 (fun wx => Bx7 bs ⟨kd, tr, sa, sn, sv, sf, sd⟩ wx ∧ wx.cell? ⟨bs, 1, none⟩ = some (.int .i64 tx) ∧ Below bs wr wx ∧ wx.heap.size = bs + 1)
  case first =>
    by_cases htr : tr < 0
    · have e : tx = 0 := by rw [HTX.out, if_pos htr]
      go_wp2_with fail
      go_meet
      exact ⟨⟨by simp [go_sem, hbx.k], by simp [go_sem, hbx.a], by simp [go_sem, hbx.n], by simp [go_sem, hbx.v], by simp [go_sem, hbx.f], by simp [go_sem, hbx.d], by simpa using hbx.lt⟩, by rw [e]; simp [go_sem, ct], hb.setCell (p := ⟨bs, 1, none⟩) (Nat.le_refl _) _, by simpa using hsz⟩
    · have e : tx = tr := by rw [HTX.out, if_neg htr]
      go_wp2_with fail
      go_meet
      exact ⟨hbx, by rw [e]; exact ct, hb, hsz⟩
  case rest =>
    obtain ⟨hbx', ct', hb', hsz'⟩ := hcut
    have HSTc : Hid (St w.heap.size w (keys (ss.take (k + 1))) ts ts bts bks (.slice (some ⟨gt, 0, none⟩) n cT) (.slice (some ⟨gb, 0, none⟩) n cb) wc) := (HST.out.below (by rw [HBS.out]; exact hb')).keys hkd
    have HBX : Hid (Bx7 bs ⟨kd, tr, sa, sn, sv, sf, sd⟩ wc) := hbx'
    have HSZ : Hid (wc.heap.size = bs + 1) := hsz'
    have HGB : Hid (gt < bs ∧ gb < bs) := by rw [← HBS.out]; exact ⟨(HST.out.ot.row.lt gt rfl).2, (HST.out.ob.row.lt gb rfl).2⟩
    have HLT : Hid (∀ b ∈ bts, b < bs) := fun b hb => by rw [← HBS.out]; exact HST.out.lt hb
    clear hbx' hb' HST HWA hb hsz hbx ct cf HTX
    have hn0 : 0 < n := by rw [← HN.out]; exact HSTc.out.pos
    have hn12 : n ≤ 12 := by rw [← HN.out]; exact HSTc.out.few
    obtain ⟨q, hq⟩ : ∃ q : Nat, tx.tmod (n : Int) = (q : Int) := ⟨(tx.tmod (n : Int)).toNat, by rw [Int.toNat_of_nonneg (Int.tmod_nonneg _ htx0.1)]⟩
    have hqn : q < n := by
      have := Int.tmod_lt_of_pos tx (b := (n : Int)) (by omega)
      omega
    have hqi : (q : Int) < n := by omega
    have hq0 : (0 : Int) ≤ q := by omega
    have hni : (0 : Int) < n := by omega
    have hqb : q < bts.length := by rw [HSTc.out.l1, HN.out]; exact hqn
    have hqk : q < bks.length := by rw [HSTc.out.l2, HN.out]; exact hqn
    have hqt : q < ts.length := by rw [HN.out]; exact hqn
    obtain ⟨bt, hbt⟩ : ∃ bt, bts[q] = bt := ⟨_, rfl⟩
    obtain ⟨bk, hbk⟩ : ∃ bk, bks[q] = bk := ⟨_, rfl⟩
    have HBT : Hid (bts[q] = bt) := hbt
    have HBK : Hid (bks[q] = bk) := hbk
    have hbtb : bt < bs := by rw [← hbt]; exact HLT.out _ (List.getElem_mem hqb)
    have d0 : wc.cell? ⟨gt, q, none⟩ = some (.pointer (some ⟨bt, 0, none⟩)) := by
      have := HSTc.out.ot.at0.1 q hqb 0 (by decide)
      rw [hbt] at this; simpa [EP] using this
    have d1 : wc.cell? ⟨gb, q, none⟩ = some (.slice bk.1 bk.2.1 bk.2.2) := by
      have := HSTc.out.ob.at0.1 q hqk 0 (by decide)
      rw [hbk] at this; simpa [EB] using this
    have d0a : ∀ ob, (wc.alloc ob).cell? ⟨gt, q, none⟩ = some (.pointer (some ⟨bt, 0, none⟩)) := fun ob => cell_bel d0 ((Below.refl _ wc).alloc (Nat.le_refl _) _)
    have d1a : ∀ ob, (wc.alloc ob).cell? ⟨gb, q, none⟩ = some (.slice bk.1 bk.2.1 bk.2.2) := fun ob => cell_bel d1 ((Below.refl _ wc).alloc (Nat.le_refl _) _)
    clear hbt hbk
    go_wp2_with fail
    go_region
    go_upto_region 14 with fail
    obtain ⟨bka, bkl, bkc⟩ := bk
    dsimp only
    obtain ⟨wD, hwD⟩ : ∃ wD, (wc.alloc (Obj.cells #[.slice bka bkl bkc] 28)).drew = wD := ⟨_, rfl⟩
    have hbD : Below wc.heap.size wc wD := by rw [← hwD]; exact ((Below.refl _ wc).alloc (Nat.le_refl _) _).drew
    have HBC : Hid (wD.cell? ⟨bs + 1, 0, none⟩ = some (.slice bka bkl bkc) ∧ bs + 1 < wD.heap.size) := by
      rw [← hwD, ← HSZ.out]
      exact ⟨by simp [go_sem], by simp⟩
    have HSD : Hid (St w.heap.size w (keys (ss.take (k + 1))) ts ts bts bks (.slice (some ⟨gt, 0, none⟩) n cT) (.slice (some ⟨gb, 0, none⟩) n cb) wD) := HSTc.out.below hbD
    have HBD : Hid (Bx7 bs ⟨kd, tr, sa, sn, sv, sf, sd⟩ wD) := HBX.out.below hbD
    have HC1 : Hid (wD.cell? ⟨bs, 1, none⟩ = some (.int .i64 tx)) := cell_bel ct' hbD
    first | rw [hwD] | rw [HSZ.out, hwD]
    clear hwD hbD HBX HSTc HSZ d0 d1 d0a d1a ct'
    obtain ⟨T, hT⟩ : ∃ T, ts[q] = T := ⟨_, rfl⟩
    have HT : Hid (ts[q] = T) := hT
    have HH : Hid (HoldsN (okL bts (.slice (some ⟨gt, 0, none⟩) n cT) (.slice (some ⟨gb, 0, none⟩) n cb)) wD bt T) := by have := HSD.out.ho q hqb hqt; rw [hT, HBT.out] at this; exact this
    have HBO : Hid (Bo (okL bts (.slice (some ⟨gt, 0, none⟩) n cT) (.slice (some ⟨gb, 0, none⟩) n cb)) wD (bka, bkl, bkc) (allT T)) := by have := HSD.out.bo q hqk hqt; rw [hT, HBK.out] at this; exact this
    have HG : Hid (Gd (keys (ss.take (k + 1))) T) := by rw [← hT]; exact HSD.out.gt _ (List.getElem_mem hqt)
    have HK1 : Hid ((keys (ss.take (k + 1))).length ≤ 1099511627776) := keys_le hk hbig
    have hkl : bkl = (allT T).length := HBO.out.len
    have hlen : (allT T).length ≤ 1099511627776 := Nat.le_trans HG.out.len HK1.out
    have e0 := HBD.out.k
    have e2 := HBD.out.a
    have e3 := HBD.out.n
    have e4 := HBD.out.v
    have e5 := HBD.out.f
    have e6 := HBD.out.d
    have e7 := HBC.out.1
    have hki : (k : Int) + 1 = ((k + 1 : Nat) : Int) := by omega
    have HKI : Hid ((k : Int) + 1 = ((k + 1 : Nat) : Int)) := hki
    dsimp only at e0 e2 e3 e4 e5 e6
    clear hT hki
    obtain rfl := HKD.out
    subst hkl
    have hlen2 : (allT T).length ≤ 4194304 := Nat.le_trans HG.out.len (by rw [keys_len, List.length_take]; omega)
    obtain ⟨pt, hht⟩ := HH.out
    obtain ⟨zl, hzl⟩ : ∃ zl, ov T sa sn = zl := ⟨_, rfl⟩
    have hzl2 : Bk.bov sa sn 33 (allT T) = zl := by rw [← ov_bov HG.out.wf, hzl]
    have hzlen : zl.length ≤ (allT T).length := by rw [← hzl]; exact ov_len HG.out.wf sa sn
    obtain ⟨ys, hys⟩ : ∃ ys, zl.take (fw sf) = ys := ⟨_, rfl⟩
    have hz0 : 0 ≤ max 0 sf := by omega
    have hfw : min (max 1 (max 0 sf).toNat) zl.length = ys.length := by rw [← hys, List.length_take]; unfold fw; omega
    have hyt : zl.take ys.length = ys := by
      rw [← hys, List.length_take]
      rcases Nat.le_total (fw sf) zl.length with h | h
      · rw [Nat.min_eq_left h]
      · rw [Nat.min_eq_right h, List.take_of_length_le (Nat.le_refl _), List.take_of_length_le h]
    have HFEW : Hid (∀ W, Below wD.heap.size wD W → Calls Try.prog 22 #[.pointer (some ⟨bt, 0, none⟩), .agg #[.int .u32 sa, .int .i64 sn], .int .i64 sf] W fun e w' => ∃ a cap, e = .returned (.slice a ys.length cap) ∧ Arr3 w' a ys ∧ Below W.heap.size W w') := fun W hW => TrieOver_any _ bt T pt _ sa sn sf hoa.1 hoa.2 W (hht.bel hW) HG.out.wf (by omega) ys (by rw [hzl]; exact hys)
    have harr := HBO.out.arr
    have HBKU : Hid (∀ W, Below wD.heap.size wD W → Calls Try.prog 23 #[.agg #[.slice bka (allT T).length bkc], .agg #[.int .u32 sa, .int .i64 sn]] W fun e w' => ∃ va' cap', e = .returned (.slice va' zl.length cap') ∧ Bk.Arr3 w' va' zl ∧ Below W.heap.size W w') := fun W hW => (Bk.bover_any bka bkc (allT T) sa sn hoa.1 hoa.2 W (to_bk (harr.bel hW)) (by omega)).mono (fun e w' ⟨a1, c1, h1, h2, h3, h4⟩ => by rw [hzl2] at h1 h2; exact ⟨a1, c1, h1, h2, h3⟩)
    have HSAM : Hid (∀ (a1 b1 : Option Addr) (c1 d1 : Nat) (W : World), Arr3 W a1 ys → Arr3 W b1 zl → Calls Try.prog 10 #[.slice a1 ys.length c1, .slice b1 zl.length d1, .int .i64 (max 0 sf)] W fun e w' => e = .returned (.bool true) ∧ Below W.heap.size W w') := fun a1 b1 c1 d1 W h1 h2 => same_few a1 b1 c1 d1 zl ys.length (max 0 sf) hz0 hfw.symm W (by rw [hyt]; exact h1) h2
    clear hht harr hzl hzl2 hys hfw hyt HH HBO hz0
    generalize ys.length = yn at *
    generalize zl.length = zn at *
    go_wp2_with fail
    refine wp_region_held_drew (S := fun W => ((W.cell? ⟨bs, 2, none⟩ = some (.int .u32 sa) ∧ W.cell? ⟨bs, 3, none⟩ = some (.int .i64 sn)) ∧ W.cell? ⟨bs, 5, none⟩ = some (.int .i64 sf)) ∧ W.cell? ⟨bs + 1, 0, none⟩ = some (.slice bka (allT T).length bkc)) (by kernel_rfl) ⟨⟨⟨e2, e3⟩, e5⟩, e7⟩ (fun hHeld => ?_)
    obtain ⟨X0, hX0⟩ : ∃ x, wD.drew = x := ⟨_, rfl⟩
    have hb0 : Below wD.heap.size wD X0 := by rw [← hX0]; exact bel_q wD 1
    rw [hX0] at hHeld ⊢
    clear hX0 e2 e3 e4 e5 e6 e7
    refine wpAnyH_take (i := 0) (v := ?_) rfl (by kernel_rfl) (by kernel_rfl) (by kernel_rfl) (fun _ _ _ h => h) (Or.inl ⟨by rfl, ?_⟩) (by assumption) ?_
    case refine_2 => intro W hSw; go_simp; try rfl
    try simp only [Act.put, List.getElem_toArray, List.getElem_cons_zero, List.getElem_cons_succ, List.setIfInBounds_toArray, List.set_cons_zero, List.set_cons_succ]
    refine wpAnyH_take (i := 1) (v := ?_) rfl (by kernel_rfl) (by kernel_rfl) (by kernel_rfl) (fun _ _ _ h => h) (Or.inl ⟨by rfl, ?_⟩) (by assumption) ?_
    case refine_2 => intro W hSw; go_simp; try rfl
    try simp only [Act.put, List.getElem_toArray, List.getElem_cons_zero, List.getElem_cons_succ, List.setIfInBounds_toArray, List.set_cons_zero, List.set_cons_succ]
    refine wpAnyH_take (i := 2) (v := .agg #[.int .u32 sa, .int .i64 sn]) rfl (by kernel_rfl) (by kernel_rfl) (by kernel_rfl) (fun _ _ _ h => h) (Or.inl ⟨by rfl, ?_⟩) (by assumption) ?_
    case refine_1 => intro W hSw; obtain ⟨⟨⟨a1, a2⟩, a3⟩, a4⟩ := hSw; go_simp; try rfl
    try simp only [Act.put, List.getElem_toArray, List.getElem_cons_zero, List.getElem_cons_succ, List.setIfInBounds_toArray, List.set_cons_zero, List.set_cons_succ]
    refine wpAnyH_take (i := 3) (v := ?_) rfl (by kernel_rfl) (by kernel_rfl) (by kernel_rfl) (fun _ _ _ h => h) (Or.inl ⟨by rfl, ?_⟩) (by assumption) ?_
    case refine_2 => intro W hSw; go_simp; try rfl
    try simp only [Act.put, List.getElem_toArray, List.getElem_cons_zero, List.getElem_cons_succ, List.setIfInBounds_toArray, List.set_cons_zero, List.set_cons_succ]
    refine wpAnyH_take (i := 4) (v := .int .i64 sf) rfl (by kernel_rfl) (by kernel_rfl) (by kernel_rfl) (fun _ _ _ h => h) (Or.inl ⟨by rfl, ?_⟩) (by assumption) ?_
    case refine_1 => intro W hSw; obtain ⟨⟨⟨a1, a2⟩, a3⟩, a4⟩ := hSw; go_simp; try rfl
    try simp only [Act.put, List.getElem_toArray, List.getElem_cons_zero, List.getElem_cons_succ, List.setIfInBounds_toArray, List.set_cons_zero, List.set_cons_succ]
    refine wpAnyH_take (i := 6) (v := .agg #[.slice bka (allT T).length bkc]) rfl (by kernel_rfl) (by kernel_rfl) (by kernel_rfl) (fun _ _ _ h => h) (Or.inl ⟨by rfl, ?_⟩) (by assumption) ?_
    case refine_1 => intro W hSw; obtain ⟨⟨⟨a1, a2⟩, a3⟩, a4⟩ := hSw; go_simp; try rfl
    try simp only [Act.put, List.getElem_toArray, List.getElem_cons_zero, List.getElem_cons_succ, List.setIfInBounds_toArray, List.set_cons_zero, List.set_cons_succ]
    refine wpAnyH_take (i := 7) (v := ?_) rfl (by kernel_rfl) (by kernel_rfl) (by kernel_rfl) (fun _ _ _ h => h) (Or.inl ⟨by rfl, ?_⟩) (by assumption) ?_
    case refine_2 => intro W hSw; go_simp; try rfl
    try simp only [Act.put, List.getElem_toArray, List.getElem_cons_zero, List.getElem_cons_succ, List.setIfInBounds_toArray, List.set_cons_zero, List.set_cons_succ]
    refine wpAnyH_take (i := 8) (v := .agg #[.int .u32 sa, .int .i64 sn]) rfl (by kernel_rfl) (by kernel_rfl) (by kernel_rfl) (fun _ _ _ h => h) (Or.inl ⟨by rfl, ?_⟩) (by assumption) ?_
    case refine_1 => intro W hSw; obtain ⟨⟨⟨a1, a2⟩, a3⟩, a4⟩ := hSw; go_simp; try rfl
    try simp only [Act.put, List.getElem_toArray, List.getElem_cons_zero, List.getElem_cons_succ, List.setIfInBounds_toArray, List.set_cons_zero, List.set_cons_succ]
    refine wpAnyH_take (i := 10) (v := ?_) rfl (by kernel_rfl) (by kernel_rfl) (by kernel_rfl) (fun _ _ _ h => h) (Or.inl ⟨by rfl, ?_⟩) (by assumption) ?_
    case refine_2 => intro W hSw; go_simp; try rfl
    try simp only [Act.put, List.getElem_toArray, List.getElem_cons_zero, List.getElem_cons_succ, List.setIfInBounds_toArray, List.set_cons_zero, List.set_cons_succ]
    refine wpAnyH_take (i := 11) (v := .int .i64 sf) rfl (by kernel_rfl) (by kernel_rfl) (by kernel_rfl) (fun _ _ _ h => h) (Or.inl ⟨by rfl, ?_⟩) (by assumption) ?_
    case refine_1 => intro W hSw; obtain ⟨⟨⟨a1, a2⟩, a3⟩, a4⟩ := hSw; go_simp; try rfl
    try simp only [Act.put, List.getElem_toArray, List.getElem_cons_zero, List.getElem_cons_succ, List.setIfInBounds_toArray, List.set_cons_zero, List.set_cons_succ]
    refine wpAnyH_take (i := 12) (v := .int .i64 (max 0 sf)) rfl (by kernel_rfl) (by kernel_rfl) (by kernel_rfl) (fun _ _ _ h => h) (Or.inl ⟨by rfl, ?_⟩) (by assumption) ?_
    case refine_1 => intro W hSw; go_simp; try rfl
    try simp only [Act.put, List.getElem_toArray, List.getElem_cons_zero, List.getElem_cons_succ, List.setIfInBounds_toArray, List.set_cons_zero, List.set_cons_succ]
    refine wpAnyH_ready (rs := [5]) (by kernel_rfl) (by simp) ?_
    refine AllReadyH.cons rfl (fun K hK => ?_) AllReadyH.nil
    go_simp
    refine (HFEW.out X0 hb0).mono ?_
    rintro e X1 ⟨xa, xc, rfl, hxa, hb1⟩
    have hb01 : Below wD.heap.size wD X1 := hb0.trans (hb1.mono hb0.size)
    have HXA : Hid (Arr3 X1 xa ys) := hxa
    refine hK.out _ _ ⟨⟨⟨cell_bel hHeld.1.1.1 hb1, cell_bel hHeld.1.1.2 hb1⟩, cell_bel hHeld.1.2 hb1⟩, cell_bel hHeld.2 hb1⟩ (fun hHeld => ?_)
    clear hK K hxa hb0 hb1
    try simp only [Act.put, List.getElem_toArray, List.getElem_cons_zero, List.getElem_cons_succ, List.setIfInBounds_toArray, List.set_cons_zero, List.set_cons_succ]
    refine wpAnyH_ready (rs := [9]) (by kernel_rfl) (by simp) ?_
    refine AllReadyH.cons rfl (fun K hK => ?_) AllReadyH.nil
    go_simp
    refine (HBKU.out X1 hb01).mono ?_
    rintro e X2 ⟨ya, yc, rfl, hya, hb2⟩
    have hb02 : Below wD.heap.size wD X2 := hb01.trans (hb2.mono hb01.size)
    have HYA : Hid (Arr3 X2 ya zl) := of_bk hya
    have HXB : Hid (Arr3 X2 xa ys) := HXA.out.bel hb2
    refine hK.out _ _ ⟨⟨⟨cell_bel hHeld.1.1.1 hb2, cell_bel hHeld.1.1.2 hb2⟩, cell_bel hHeld.1.2 hb2⟩, cell_bel hHeld.2 hb2⟩ (fun hHeld => ?_)
    clear hK K hya hb01 hb2 HXA
    try simp only [Act.put, List.getElem_toArray, List.getElem_cons_zero, List.getElem_cons_succ, List.setIfInBounds_toArray, List.set_cons_zero, List.set_cons_succ]
    refine wpAnyH_ready (rs := [13]) (by kernel_rfl) (by simp) ?_
    refine AllReadyH.cons rfl (fun K hK => ?_) AllReadyH.nil
    go_simp
    refine (HSAM.out xa ya xc yc X2 HXB.out HYA.out).mono ?_
    rintro e X3 ⟨rfl, hb3⟩
    have hb03 : Below wD.heap.size wD X3 := hb02.trans (hb3.mono hb02.size)
    refine hK.out _ _ ⟨⟨⟨cell_bel hHeld.1.1.1 hb3, cell_bel hHeld.1.1.2 hb3⟩, cell_bel hHeld.1.2 hb3⟩, cell_bel hHeld.2 hb3⟩ (fun hHeld => ?_)
    clear hK K hb02 hb3 HXB HYA
    try simp only [Act.put, List.getElem_toArray, List.getElem_cons_zero, List.getElem_cons_succ, List.setIfInBounds_toArray, List.set_cons_zero, List.set_cons_succ]
    refine wpAnyH_take (i := 14) (v := ?_) rfl (by kernel_rfl) (by kernel_rfl) (by kernel_rfl) (fun _ _ _ h => h) (Or.inl ⟨by rfl, ?_⟩) (by assumption) ?_
    case refine_2 => intro W hSw; go_simp; try rfl
    try simp only [Act.put, List.getElem_toArray, List.getElem_cons_zero, List.getElem_cons_succ, List.setIfInBounds_toArray, List.set_cons_zero, List.set_cons_succ]
    refine wpAnyH_done (by kernel_rfl) ?_ _
    clear hHeld HFEW HBKU HSAM
    have HSX : Hid (St w.heap.size w (keys (ss.take (k + 1))) ts ts bts bks (.slice (some ⟨gt, 0, none⟩) n cT) (.slice (some ⟨gb, 0, none⟩) n cb) X3) := HSD.out.below hb03
    clear HSD HBD HBC
    go_wp2_with fail
    rw [HKI.out]
    exact wi_end fr_mk (Nat.lt_succ_self k) hk ⟨ts, bts, bks, HSX.out⟩
end Go.Proofs.Ytibmhdfodmkahaa.Tu
