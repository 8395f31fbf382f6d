/- The trie's Get. -/
import Derived.Test.YtibmhdfodmkahaaTuA
import Derived.Test.YtibmhdfodmkahaaTrS
import Derived.Test.YtibmhdfodmkahaaTrAB
namespace Go.Proofs.Ytibmhdfodmkahaa.Tu
open Go.ChangeShapes Go.WideShapes Go.ChangeAt Go.RowKit Go.Shelf Go.Proofs.Ytibmhdfodmkahaa.PM Go.Proofs.Ytibmhdfodmkahaa.TrM Go.Proofs.Ytibmhdfodmkahaa.Ask Go.Proofs.Ytibmhdfodmkahaa.Tri
set_option linter.unusedVariables false
attribute [local go_sem] Oper.semAt_some

theorem mem_vld {t : Tr} (hw : WF t) {y : Int × Int × Int} (hy : y ∈ allT t) : vld y.1 y.2.1 = true := by
  cases t with
  | nil => cases hy
  | node b m u h l r => exact (cov_vld (all_root hw (show Root b m (.node b m u h l r) from TrM.cov_self hw.1) y hy)).2.1
theorem ov_mem {t : Tr} (hw : WF t) {x k v : Int} : (x, k, v) ∈ ov t x k ↔ TrM.look t x k = some v := by
  rw [ov_ovs hw, ← mem_allT hw]
  unfold ovs
  rw [List.mem_filter]
  exact ⟨fun h => h.1, fun h => ⟨h, TrM.cov_self (mem_vld hw h)⟩⟩
theorem ov_none {t : Tr} (hw : WF t) {x k : Int} (h : ∀ y ∈ ov t x k, ¬ (y.1 = x ∧ y.2.1 = k)) : TrM.look t x k = none := by
  cases hl : TrM.look t x k with
  | none => rfl
  | some v => exact absurd ⟨rfl, rfl⟩ (h _ ((ov_mem hw).2 hl))

/-- none of them is the prefix -/
def NoP (x k : Int) (pre : List (Int × Int × Int)) : Prop := ∀ y ∈ pre, ¬ (y.1 = x ∧ y.2.1 = k)
theorem NoP.snoc {x k : Int} {pre : List (Int × Int × Int)} {ya yn yv : Int} (h : NoP x k pre) (e : ¬ (ya = x ∧ yn = k)) : NoP x k (pre ++ [(ya, yn, yv)]) := fun y hy => by
  rcases List.mem_append.1 hy with hy | hy
  · exact h y hy
  · rw [List.mem_singleton] at hy; subst hy; exact e
/-- it is among them -/
def HasP (x k v : Int) (pre : List (Int × Int × Int)) : Prop := (x, k, v) ∈ pre
/-- Get's own variables, from block s on -/
def Gv (s : Nat) (x k v : Int) (f : Bool) (W : World) : Prop := (W.cell? ⟨s, 0, none⟩ = some (.int .u32 x) ∧ W.cell? ⟨s, 1, none⟩ = some (.int .i64 k)) ∧ Boxed W (s + 1) 3 (.int .i64 v) ∧ Boxed W (s + 1 + 1) 4 (.bool f)
theorem Gv.own {s : Nat} {x k v : Int} {f : Bool} {A B : World} {row : Option Nat} (h : Gv s x k v f A) (hg : A.grownBy B row) (hr : ∀ r, row = some r → ∃ o : Obj, A.heap[r]? = some o ∧ o.isCells = false) : Gv s x k v f B :=
  ⟨⟨cell_kept h.1.1 hg hr, cell_kept h.1.2 hg hr⟩, box_own h.2.1 hg hr, box_own h.2.2 hg hr⟩
theorem five (w : World) (o1 o2 o3 o4 o5 : Obj) (W : World) (hW : W = ((((w.alloc o1).alloc o2).alloc o3).alloc o4).alloc o5) :
    W.heap[w.heap.size]? = some o1 ∧ W.heap[w.heap.size + 1]? = some o2 ∧ W.heap[w.heap.size + 1 + 1]? = some o3 ∧ W.heap[w.heap.size + 1 + 1 + 1]? = some o4 ∧ W.heap[w.heap.size + 1 + 1 + 1 + 1]? = some o5 ∧ W.heap.size = w.heap.size + 5 ∧ Below w.heap.size w W := by
  subst hW
  have e1 := World.alloc_heap_new w o1
  have e2 := World.alloc_heap_new (w.alloc o1) o2
  have e3 := World.alloc_heap_new ((w.alloc o1).alloc o2) o3
  have e4 := World.alloc_heap_new (((w.alloc o1).alloc o2).alloc o3) o4
  have e5 := World.alloc_heap_new ((((w.alloc o1).alloc o2).alloc o3).alloc o4) o5
  rw [World.size_alloc] at e2 e3 e4 e5
  rw [World.size_alloc] at e3 e4 e5
  rw [World.size_alloc] at e4 e5
  rw [World.size_alloc] at e5
  exact ⟨hkA _ (hkA _ (hkA _ (hkA _ e1))), hkA _ (hkA _ (hkA _ e2)), hkA _ (hkA _ e3), hkA _ e4, e5, by simp, (((((Below.refl _ w).alloc (Nat.le_refl _) _).alloc (by simp) _).alloc (by simp; omega) _).alloc (by simp; omega) _).alloc (by simp; omega) _⟩

set_option maxRecDepth 100000 in
set_option maxHeartbeats 2000000 in
theorem get_any (ok : Nat → Prop) (bt : Nat) (t : Tr) (p : Option Addr) (c x k : Int) (x0 : 0 ≤ x) (x1 : x < 4294967296) (w : World) (hh : Holds ok w bt t p c) (hw : WF t) (r : Option Int) (hr : TrM.look t x k = r) :
    Calls Try.prog 18 #[.pointer (some ⟨bt, 0, none⟩), .agg #[.int .u32 x, .int .i64 k]] w fun e w' => e = .returned (.tuple #[.int .i64 (r.getD 0), .bool r.isSome]) ∧ Below w.heap.size w w' := by
  refine (callsIn_wide (n := 4)).1 ?_
  have HH : Hid (Holds ok w bt t p c) := hh
  have HR : Hid (TrM.look t x k = r) := hr
  clear hh hr
  refine callsIn_of_wp_marks Try.func18 rfl trivial ?_ rfl
  simp only [Try.ntmps18, List.size_toArray, List.length_cons, List.length_nil, Nat.reduceAdd, Nat.reduceSub, Array.replicate_succ, Array.replicate_zero, List.push_toArray, List.append_toArray, List.nil_append, List.cons_append]
  gi_wp2
  refine ⟨trivial, ?_⟩
  refine (callsIn_wide.2 (over_any bt x k _)).mono ?_
  rintro e w1 ⟨rfl, hw1⟩
  simp only [World.size_alloc]
  obtain ⟨g1, g2, g3, g4, g5, hsz, hB0⟩ := five w _ _ _ _ _ w1 hw1
  have HGv : Hid (Gv w.heap.size x k 0 false w1) := ⟨⟨by simp [World.cell?, g1], by simp [World.cell?, g1]⟩, g2, g3⟩
  have cT : w1.cell? ⟨w.heap.size + 1 + 1 + 1, 0, none⟩ = some (.pointer (some ⟨bt, 0, none⟩)) := by simp [World.cell?, g4]
  have c0 : w1.cell? ⟨w.heap.size + 1 + 1 + 1 + 1, 0, none⟩ = some (.int .u32 x) := by simp [World.cell?, g5]
  have c1 : w1.cell? ⟨w.heap.size + 1 + 1 + 1 + 1, 1, none⟩ = some (.int .i64 k) := by simp [World.cell?, g5]
  clear hw1 g1 g2 g3 g4 g5
  gi_wp2
  have hh1 : Holds ok w1 bt t p c := HH.out.bel hB0
  have hrep : Rep (fun b => b < w.heap.size) w1 t p := HH.out.rep.lt.below hB0 (fun b h => h.2)
  refine wpIn_rangeFunc_ownH rfl (by decide) (gf := 48) rfl trivial (enters_of Try.func48 (by kernel_rfl) rfl)
    (over_stops 3 _ _ bt w.heap.size t p x k x0 x1 w1 cT hh1.root c0 c1 hrep hw hB0.size) Kept.trans (Kept.book hB0.size (by omega)) (Below.refl _ _) (fun _ => rfl)
    (fun pre W => ((Gv w.heap.size x k 0 false W ∧ w.heap.size + 5 ≤ W.heap.size) ∧ NoP x k pre) ∧ Below w.heap.size w W)
    (fun c pre W => (c = .ret ∧ ∃ v, HasP x k v pre ∧ Gv w.heap.size x k v true W) ∧ Below w.heap.size w W)
    (OwnFrom.and (Own.from (fun s A B row hs hg hr => ⟨⟨hs.1.1.own hg hr, Nat.le_trans hs.1.2 hg.size⟩, hs.2⟩) _) (ownFrom_below (Nat.le_refl _) hB0.size))
    (fun c => OwnFrom.and (Own.from (fun s A B row hs hg hr => ⟨hs.1, by obtain ⟨v, h1, h2⟩ := hs.2; exact ⟨v, h1, h2.own hg hr⟩⟩) _) (ownFrom_below (Nat.le_refl _) hB0.size)) ⟨⟨⟨HGv.out, by omega⟩, fun y hy => by cases hy⟩, hB0⟩
    (fun y a' W => ∃ Bx, w.heap.size + 5 ≤ Bx ∧ (W.cell? ⟨Bx, 0, none⟩ = some (.int .u32 y.1) ∧ W.cell? ⟨Bx, 1, none⟩ = some (.int .i64 y.2.1)) ∧
      a' = { tmps := #[.pointer (some ⟨bt, 0, none⟩), .agg #[.int .u32 x, .int .i64 k], undef, .pointer (some ⟨w.heap.size, 0, none⟩), .pointer (some ⟨w.heap.size + 1, 0, none⟩), .pointer (some ⟨w.heap.size + 1 + 1, 0, none⟩),
        .pointer (some ⟨Bx, 0, none⟩), .int .i64 y.2.2, undef, .pointer (some ⟨bt, 0, none⟩), .agg #[.int .u32 x, .int .i64 k], .func (.func 48) #[] #[.pointer (some ⟨w.heap.size + 1 + 1 + 1, 0, none⟩), .pointer (some ⟨w.heap.size + 1 + 1 + 1 + 1, 0, none⟩)],
        .agg #[.int .u32 y.1, .int .i64 y.2.1], .int .i64 y.2.2, undef, undef, undef, undef, undef], defers := [] })
    (fun y a' s A B row hs hg hr => by
      obtain ⟨Bx, h1, ⟨h2, h3⟩, h4⟩ := hs
      exact ⟨Bx, h1, ⟨cell_kept h2 hg (fun r e => (hr r e).2), cell_kept h3 hg (fun r e => (hr r e).2)⟩, h4⟩) ?assign ?body ?done ?stop
  case assign =>
    rintro l pre ⟨ya, yn, yv⟩ W K ⟨⟨⟨hi, hs5⟩, hp⟩, hB⟩ hK
    dsimp only [enc3]
    gi_wp2
    exact hK _ _ ((KeepsOthers.alloc _ _).from _) ⟨(Below.refl _ W).alloc hB.size _, Below.heap_alloc _ _ _ (by omega)⟩ ⟨⟨⟨hi.own (World.grownBy_alloc W _ none) (fun r e => by cases e), by simp; omega⟩, hp⟩, hB.alloc hB.size _⟩
      ⟨W.heap.size, hs5, ⟨by simp, by simp⟩, rfl⟩
  case body =>
    rintro l pre ⟨ya, yn, yv⟩ a' W hl ⟨rr, hrr⟩ ⟨⟨⟨hi, hs5⟩, hp⟩, hB⟩ ⟨Bx, hBx, ⟨y0, y1⟩, rfl⟩ hlt
    have HI : Hid (Gv w.heap.size x k 0 false W) := hi
    obtain ⟨⟨p0, p1⟩, bv, bf⟩ := hi
    have HP : Hid (NoP x k pre) := hp
    have cv := bv.cell
    have cf := bf.cell
    have fv := bv.frozen
    have ff := bf.frozen
    clear hp
    by_cases e : ya = x ∧ yn = k
    · obtain ⟨rfl, rfl⟩ := e
      gi_wp2
      have b1 : Boxed (W.setCell ⟨w.heap.size + 1, 0, none⟩ (.int .i64 yv)) (w.heap.size + 1 + 1) 4 (.bool false) := (Below.heap_setCell _ _ _ _ (by simp)).trans bf
      have b2 : Boxed ((W.setCell ⟨w.heap.size + 1, 0, none⟩ (.int .i64 yv)).setCell ⟨w.heap.size + 1 + 1, 0, none⟩ (.bool true)) (w.heap.size + 1) 3 (.int .i64 yv) := (Below.heap_setCell _ _ _ _ (by simp)).trans (bv.set _)
      exact ⟨((KeepsOthers.setCell W _ _).trans (KeepsOthers.setCell _ _ _)).from _, ⟨rfl, yv, List.mem_append.2 (.inr (by simp)), ⟨by simp [go_sem, p0], by simp [go_sem, p1]⟩, b2, b1.set _⟩,
        (hB.setCell (p := ⟨w.heap.size + 1, 0, none⟩) (by simp) _).setCell (p := ⟨w.heap.size + 1 + 1, 0, none⟩) (by simp; omega) _⟩
    · have HE : Hid (NoP x k (pre ++ [(ya, yn, yv)])) := HP.out.snoc e
      have hkt : Kept w.heap.size (w.heap.size + 1 + 1 + 1 + 1) W W := ⟨Below.refl _ _, rfl⟩
      rcases ne_cases e with e1 | ⟨rfl, e1⟩
      · gi_wp2
        exact ⟨KeepsFrom.refl _ _, hkt, ⟨⟨HI.out, hs5⟩, HE.out⟩, hB⟩
      · gi_wp2
        exact ⟨KeepsFrom.refl _ _, hkt, ⟨⟨HI.out, hs5⟩, HE.out⟩, hB⟩
  case done =>
    rintro D ys W hD rfl ⟨⟨⟨hi, hs5⟩, hp⟩, hB⟩ hK
    have hn := ov_none hw hp
    rw [HR.out] at hn
    subst hn
    clear hp
    obtain ⟨⟨p0, p1⟩, bv, bf⟩ := hi
    have cv := bv.cell
    have cf := bf.cell
    have fv := bv.frozen
    have ff := bf.frozen
    gi_wp2
    have b1 : Boxed (W.setCell ⟨w.heap.size + 1, 0, none⟩ (.int .i64 0)) (w.heap.size + 1 + 1) 4 (.bool false) := (Below.heap_setCell _ _ _ _ (by simp)).trans bf
    have b2 : Boxed ((W.setCell ⟨w.heap.size + 1, 0, none⟩ (.int .i64 0)).setCell ⟨w.heap.size + 1 + 1, 0, none⟩ (.bool false)) (w.heap.size + 1) 3 (.int .i64 0) := (Below.heap_setCell _ _ _ _ (by simp)).trans (bv.set _)
    have b3 := b1.set (.bool false)
    have hB2 := (hB.setCell (p := ⟨w.heap.size + 1, 0, none⟩) (by simp) (.int .i64 0)).setCell (p := ⟨w.heap.size + 1 + 1, 0, none⟩) (by simp; omega) (.bool false)
    have hK2 := ((KeepsOthers.setCell W ⟨w.heap.size + 1, 0, none⟩ (.int .i64 0)).trans (KeepsOthers.setCell _ ⟨w.heap.size + 1 + 1, 0, none⟩ (.bool false))).same D _ hK rfl
    generalize (W.setCell ⟨w.heap.size + 1, 0, none⟩ (.int .i64 0)).setCell ⟨w.heap.size + 1 + 1, 0, none⟩ (.bool false) = W2 at *
    refine ⟨by simp, .inl ⟨_, _, rfl, run_takeDeferred hK2, ?_⟩⟩
    have q1 := cell_kept b2.cell (grownBy_putObj' W2 D (.deferred none)) (fun r e => by cases e; exact ⟨_, hK2, rfl⟩)
    have q2 := cell_kept b3.cell (grownBy_putObj' W2 D (.deferred none)) (fun r e => by cases e; exact ⟨_, hK2, rfl⟩)
    refine ⟨_, ?_, rfl, hB2.trans (belowK_b (w := w) (Nat.le_refl _) W2 D _ _ (by omega) hK2 rfl rfl)⟩
    simp [results, Try.f18, go_sem, q1, q2]
  case stop =>
    rintro D c pre W hD hpre ⟨⟨rfl, v, hv, hi⟩, hB⟩ hK
    have hl := (ov_mem hw).1 (hpre.subset hv)
    rw [HR.out] at hl
    subst hl
    obtain ⟨⟨p0, p1⟩, bv, bf⟩ := hi
    gi_wp2
    refine ⟨by simp, .inl ⟨_, _, rfl, run_takeDeferred hK, ?_⟩⟩
    have q1 := cell_kept bv.cell (grownBy_putObj' W D (.deferred none)) (fun r e => by cases e; exact ⟨_, hK, rfl⟩)
    have q2 := cell_kept bf.cell (grownBy_putObj' W D (.deferred none)) (fun r e => by cases e; exact ⟨_, hK, rfl⟩)
    refine ⟨_, ?_, rfl, hB.trans (belowK_b (w := w) (Nat.le_refl _) W D _ _ (by omega) hK rfl rfl)⟩
    simp [results, Try.f18, go_sem, q1, q2]
end Go.Proofs.Ytibmhdfodmkahaa.Tu
