/- Over and Match: what they answer. -/
import Derived.Test.YtibmhdfodmkahaaTrL
import Derived.Test.YtibmhdfodmkahaaTrK
import Derived.Test.YtibmhdfodmkahaaTrR
namespace Go.Proofs.Ytibmhdfodmkahaa.Tri
open Go.ChangeShapes Go.WideShapes Go.ChangeAt Go.RowKit Go.Shelf Go.Proofs.Ytibmhdfodmkahaa.PM Go.Proofs.Ytibmhdfodmkahaa.TrM Go.Proofs.Ytibmhdfodmkahaa.Ask
set_option linter.unusedVariables false
attribute [local go_sem] Oper.semAt_some

set_option maxHeartbeats 1000000 in
theorem over_any (bt : Nat) (x k : Int) (w : World) :
    Calls Try.prog 36 #[.pointer (some ⟨bt, 0, none⟩), .agg #[.int .u32 x, .int .i64 k]] w fun e w' => e = .returned (.func (.func 48) #[] #[.pointer (some ⟨w.heap.size, 0, none⟩), .pointer (some ⟨w.heap.size + 1, 0, none⟩)]) ∧
      w' = (w.alloc (.cells #[.pointer (some ⟨bt, 0, none⟩)] 24)).alloc (.cells #[.int .u32 x, .int .i64 k] 33) := by
  go_enter Try.func36, Try.ntmps36
  go_wp2_with fail
  go_ret
  exact ⟨rfl, rfl⟩

theorem over_stops (n bT bP bt n₀ : Nat) (t : Tr) (p : Option Addr) (x k : Int) (x0 : 0 ≤ x) (x1 : x < 4294967296) (w : World) (cT : w.cell? ⟨bT, 0, none⟩ = some (.pointer (some ⟨bt, 0, none⟩))) (cR : w.cell? ⟨bt, 0, none⟩ = some (.pointer p))
    (c0 : w.cell? ⟨bP, 0, none⟩ = some (.int .u32 x)) (c1 : w.cell? ⟨bP, 1, none⟩ = some (.int .i64 k)) (hr : Rep (fun b => b < n₀) w t p) (hw : WF t) (hn : n₀ ≤ w.heap.size) :
    SeqStopsK Fence.wide n Try.prog 48 #[.pointer (some ⟨bT, 0, none⟩), .pointer (some ⟨bP, 0, none⟩)] enc3 (Kept n₀ bP) (fun ys => ys = ov t x k) (fun pre => pre <+: ov t x k) (ov t x k).length w :=
  fun l J Jx W hW hJ hJx hY h0 => over1 n l bT bP bt n₀ t p x k x0 x1 J Jx (fun s A B hs hb => hJ s A B none hs (grown_bel hb none) (fun r e => by cases e)) hY W (cell_bel cT hW) (cell_bel cR hW)
    ⟨rfl, rfl, hr.under (hW.mono hn), hw, h0, cell_bel c0 hW, cell_bel c1 hW, Nat.le_trans hn hW.size⟩

/-- Match's own variables, from block s on -/
structure Mv (s : Nat) (r : Option (Int × Int × Int)) (W : World) : Prop where
  r0 : W.cell? ⟨s, 0, none⟩ = some (.int .u32 0)
  r1 : W.cell? ⟨s, 1, none⟩ = some (.int .i64 0)
  a0 : W.cell? ⟨s + 1, 0, none⟩ = some (.int .u32 (mA r))
  a1 : W.cell? ⟨s + 1, 1, none⟩ = some (.int .i64 (mN r))
  v0 : W.cell? ⟨s + 1 + 1, 0, none⟩ = some (.int .i64 (mV r))
  f0 : W.cell? ⟨s + 1 + 1 + 1, 0, none⟩ = some (.bool r.isSome)
  zr0 : W.frozen? ⟨s, 0, none⟩ = false
  zr1 : W.frozen? ⟨s, 1, none⟩ = false
  za0 : W.frozen? ⟨s + 1, 0, none⟩ = false
  za1 : W.frozen? ⟨s + 1, 1, none⟩ = false
  zv0 : W.frozen? ⟨s + 1 + 1, 0, none⟩ = false
  zf0 : W.frozen? ⟨s + 1 + 1 + 1, 0, none⟩ = false
theorem Mv.own {s : Nat} {r : Option (Int × Int × Int)} {A B : World} {row : Option Nat} (h : Mv s r A) (hg : A.grownBy B row) (hr : ∀ r, row = some r → ∃ o : Obj, A.heap[r]? = some o ∧ o.isCells = false) : Mv s r B :=
  ⟨cell_kept h.r0 hg hr, cell_kept h.r1 hg hr, cell_kept h.a0 hg hr, cell_kept h.a1 hg hr, cell_kept h.v0 hg hr, cell_kept h.f0 hg hr, (frozen_kept h.r0 hg hr).trans h.zr0, (frozen_kept h.r1 hg hr).trans h.zr1, (frozen_kept h.a0 hg hr).trans h.za0, (frozen_kept h.a1 hg hr).trans h.za1, (frozen_kept h.v0 hg hr).trans h.zv0, (frozen_kept h.f0 hg hr).trans h.zf0⟩

theorem hkA {V : World} (o : Obj) {k : Nat} {x : Obj} (h : V.heap[k]? = some x) : (V.alloc o).heap[k]? = some x := (Below.heap_alloc V o k (Array.getElem?_eq_some_iff.1 h).1).trans h
theorem six (w : World) (o1 o2 o3 o4 o5 o6 : Obj) (W : World) (hW : W = (((((w.alloc o1).alloc o2).alloc o3).alloc o4).alloc o5).alloc o6) :
    W.heap[w.heap.size]? = some o1 ∧ W.heap[w.heap.size + 1]? = some o2 ∧ W.heap[w.heap.size + 1 + 1]? = some o3 ∧ W.heap[w.heap.size + 1 + 1 + 1]? = some o4 ∧ W.heap[w.heap.size + 1 + 1 + 1 + 1]? = some o5 ∧ W.heap[w.heap.size + 1 + 1 + 1 + 1 + 1]? = some o6 := by
  subst hW
  have e1 := World.alloc_heap_new w o1
  have e2 := World.alloc_heap_new (w.alloc o1) o2
  have e3 := World.alloc_heap_new ((w.alloc o1).alloc o2) o3
  have e4 := World.alloc_heap_new (((w.alloc o1).alloc o2).alloc o3) o4
  have e5 := World.alloc_heap_new ((((w.alloc o1).alloc o2).alloc o3).alloc o4) o5
  have e6 := World.alloc_heap_new (((((w.alloc o1).alloc o2).alloc o3).alloc o4).alloc o5) o6
  rw [World.size_alloc] at e2 e3 e4 e5 e6
  rw [World.size_alloc] at e3 e4 e5 e6
  rw [World.size_alloc] at e4 e5 e6
  rw [World.size_alloc] at e5 e6
  rw [World.size_alloc] at e6
  exact ⟨hkA _ (hkA _ (hkA _ (hkA _ (hkA _ e1)))), hkA _ (hkA _ (hkA _ (hkA _ e2))), hkA _ (hkA _ (hkA _ e3)), hkA _ (hkA _ e4), hkA _ e5, e6⟩

set_option maxRecDepth 100000 in
set_option maxHeartbeats 2000000 in
theorem match_any (ok : Nat → Prop) (bt : Nat) (t : Tr) (p : Option Addr) (c x : Int) (x0 : 0 ≤ x) (x1 : x < 4294967296) (w : World) (hh : Holds ok w bt t p c) (hw : WF t) (r : Option (Int × Int × Int)) (hr : mt t x none = r) :
    Calls Try.prog 13 #[.pointer (some ⟨bt, 0, none⟩), .int .u32 x] w fun e w' => e = .returned (.tuple #[.agg #[.int .u32 (mA r), .int .i64 (mN r)], .int .i64 (mV r), .bool r.isSome]) ∧ Below w.heap.size w w' := by
  refine (callsIn_wide (n := 4)).1 ?_
  have HH : Hid (Holds ok w bt t p c) := hh
  have HR : Hid (mt t x none = r) := hr
  clear hh hr
  refine callsIn_of_wp_marks Try.func13 rfl trivial ?_ rfl
  simp only [Try.ntmps13, List.size_toArray, List.length_cons, List.length_nil, Nat.reduceAdd, Nat.reduceSub, Array.replicate_succ, Array.replicate_zero, List.push_toArray, List.append_toArray, List.nil_append, List.cons_append]
  gi_wp2
  refine ⟨trivial, ?_⟩
  refine (callsIn_wide.2 (over_any bt x 32 _)).mono ?_
  rintro e w1 ⟨rfl, hw1⟩
  simp only [World.size_alloc]
  have hB0 : Below w.heap.size w w1 := by
    rw [hw1]
    exact ((((((Below.refl _ w).alloc (Nat.le_refl _) _).alloc (by simp) _).alloc (by simp; omega) _).alloc (by simp; omega) _).alloc (by simp; omega) _).alloc (by simp; omega) _
  have hsz : w1.heap.size = w.heap.size + 6 := by rw [hw1]; simp
  obtain ⟨g1, g2, g3, g4, g5, g6⟩ := six w _ _ _ _ _ _ w1 hw1
  have hMv : Mv w.heap.size none w1 := by constructor <;> simp [mA, mN, mV, World.cell?, World.frozen?, g1, g2, g3, g4]
  have cT : w1.cell? ⟨w.heap.size + 1 + 1 + 1 + 1, 0, none⟩ = some (.pointer (some ⟨bt, 0, none⟩)) := by simp [World.cell?, g5]
  have c0 : w1.cell? ⟨w.heap.size + 1 + 1 + 1 + 1 + 1, 0, none⟩ = some (.int .u32 x) := by simp [World.cell?, g6]
  have c1 : w1.cell? ⟨w.heap.size + 1 + 1 + 1 + 1 + 1, 1, none⟩ = some (.int .i64 32) := by simp [World.cell?, g6]
  have HMv : Hid (Mv w.heap.size none w1) := hMv
  clear hw1 g1 g2 g3 g4 g5 g6 hMv
  gi_wp2
  have hh1 : Holds ok w1 bt t p c := HH.out.bel hB0
  have hrep : Rep (fun b => b < w.heap.size) w1 t p := by
    refine (HH.out.rep.lt.below hB0 (fun b h => h.2))
  refine wpIn_rangeFunc_ownH rfl (by decide) (gf := 48) rfl trivial (enters_of Try.func48 (by kernel_rfl) rfl)
    (over_stops 3 _ _ bt w.heap.size t p x 32 x0 x1 w1 cT hh1.root c0 c1 hrep hw hB0.size) Kept.trans (Kept.book hB0.size (by omega)) (Below.refl _ _) (fun _ => rfl)
    (fun pre W => (Mv w.heap.size (lastOr none pre) W ∧ w.heap.size + 6 ≤ W.heap.size) ∧ Below w.heap.size w W) (fun _ _ _ => False)
    (OwnFrom.and (Own.from (fun s A B row hs hg hr => ⟨hs.1.own hg hr, Nat.le_trans hs.2 hg.size⟩) _) (ownFrom_below (Nat.le_refl _) hB0.size))
    (fun _ _ _ _ _ hs _ _ => hs) ⟨⟨HMv.out, by omega⟩, hB0⟩
    (fun y a' W => ∃ Bx, w.heap.size + 6 ≤ Bx ∧ (W.cell? ⟨Bx, 0, none⟩ = some (.int .u32 y.1) ∧ W.cell? ⟨Bx, 1, none⟩ = some (.int .i64 y.2.1)) ∧
      a' = { tmps := #[.pointer (some ⟨bt, 0, none⟩), .int .u32 x, undef, undef, .pointer (some ⟨w.heap.size, 0, none⟩), .int .i64 0, .bool false, .pointer (some ⟨w.heap.size + 1, 0, none⟩), .pointer (some ⟨w.heap.size + 1 + 1, 0, none⟩), .pointer (some ⟨w.heap.size + 1 + 1 + 1, 0, none⟩),
        .pointer (some ⟨Bx, 0, none⟩), .int .i64 y.2.2, .pointer (some ⟨bt, 0, none⟩), .int .u32 x, .agg #[.int .u32 x, .int .i64 32], .func (.func 48) #[] #[.pointer (some ⟨w.heap.size + 1 + 1 + 1 + 1, 0, none⟩), .pointer (some ⟨w.heap.size + 1 + 1 + 1 + 1 + 1, 0, none⟩)],
        .agg #[.int .u32 y.1, .int .i64 y.2.1], .int .i64 y.2.2, undef, undef, undef, undef, undef], defers := [] })
    (fun y a' s A B row hs hg hr => by
      obtain ⟨Bx, h1, ⟨h2, h3⟩, h4⟩ := hs
      exact ⟨Bx, h1, ⟨cell_kept h2 hg (fun r e => (hr r e).2), cell_kept h3 hg (fun r e => (hr r e).2)⟩, h4⟩) ?assign ?body ?done ?stop
  case assign =>
    rintro l pre ⟨ya, yn, yv⟩ W K ⟨⟨hi, hs6⟩, hB⟩ hK
    dsimp only [enc3]
    gi_wp2
    exact hK _ _ ((KeepsOthers.alloc _ _).from _) ⟨(Below.refl _ W).alloc hB.size _, Below.heap_alloc _ _ _ (by omega)⟩ ⟨⟨hi.own (World.grownBy_alloc W _ none) (fun r e => by cases e), by simp; omega⟩, hB.alloc hB.size _⟩
      ⟨W.heap.size, hs6, ⟨by simp, by simp⟩, rfl⟩
  case body =>
    rintro l pre ⟨ya, yn, yv⟩ a' W hl ⟨rr, hrr⟩ ⟨⟨hi, hs6⟩, hB⟩ ⟨Bx, hBx, ⟨y0, y1⟩, rfl⟩ hlt
    have hi' := hi
    obtain ⟨r0, r1, a0, a1, v0, f0, zr0, zr1, za0, za1, zv0, zf0⟩ := hi
    gi_wp2
    refine ⟨((((KeepsOthers.setCell W _ _).trans (KeepsOthers.setCell _ _ _)).trans (KeepsOthers.setCell _ _ _)).trans (KeepsOthers.setCell _ _ _)).from _, ⟨?_, ?_⟩, ⟨?_, by simpa using hs6⟩, ?_⟩
    · exact ((((Below.refl w.heap.size W).setCell (p := ⟨w.heap.size + 1, 0, none⟩) (by simp) _).setCell (p := ⟨w.heap.size + 1, 1, none⟩) (by simp) _).setCell (p := ⟨w.heap.size + 1 + 1, 0, none⟩) (by simp; omega) _).setCell (p := ⟨w.heap.size + 1 + 1 + 1, 0, none⟩) (by simp; omega) _
    · rw [Below.heap_setCell _ _ _ _ (by simp; omega), Below.heap_setCell _ _ _ _ (by simp; omega), Below.heap_setCell _ _ _ _ (by simp; omega), Below.heap_setCell _ _ _ _ (by simp; omega)]
    · rw [lastOr_snoc]
      constructor <;> simp [go_sem, mA, mN, mV, r0, r1, a0, a1, v0, f0, zr0, zr1, za0, za1, zv0, zf0]
    · exact (((hB.setCell (p := ⟨w.heap.size + 1, 0, none⟩) (by simp) _).setCell (p := ⟨w.heap.size + 1, 1, none⟩) (by simp) _).setCell (p := ⟨w.heap.size + 1 + 1, 0, none⟩) (by simp; omega) _).setCell (p := ⟨w.heap.size + 1 + 1 + 1, 0, none⟩) (by simp; omega) _
  case done =>
    rintro D ys W hD rfl ⟨⟨hi, hs6⟩, hB⟩ hK
    rw [← mt_ov, HR.out] at hi
    obtain ⟨r0, r1, a0, a1, v0, f0, zr0, zr1, za0, za1, zv0, zf0⟩ := hi
    gi_wp2
    refine wpIn_wide.2 ?_
    go_region
    gi_wp2
    have q0 : (((W.setCell ⟨w.heap.size, 0, none⟩ (.int .u32 (mA r))).setCell ⟨w.heap.size, 1, none⟩ (.int .i64 (mN r))).drew).cell? ⟨w.heap.size, 0, none⟩ = some (.int .u32 (mA r)) := by simp [go_sem, r0]
    have q1 : (((W.setCell ⟨w.heap.size, 0, none⟩ (.int .u32 (mA r))).setCell ⟨w.heap.size, 1, none⟩ (.int .i64 (mN r))).drew).cell? ⟨w.heap.size, 1, none⟩ = some (.int .i64 (mN r)) := by simp [go_sem, r1]
    have hK2 : (((W.setCell ⟨w.heap.size, 0, none⟩ (.int .u32 (mA r))).setCell ⟨w.heap.size, 1, none⟩ (.int .i64 (mN r))).drew).heap[D]? = some (.deferred (some [])) :=
      ((KeepsOthers.setCell W ⟨w.heap.size, 0, none⟩ (.int .u32 (mA r))).trans (KeepsOthers.setCell _ ⟨w.heap.size, 1, none⟩ (.int .i64 (mN r)))).same D _ hK rfl
    have hB2 : Below w.heap.size w (((W.setCell ⟨w.heap.size, 0, none⟩ (.int .u32 (mA r))).setCell ⟨w.heap.size, 1, none⟩ (.int .i64 (mN r))).drew) :=
      ((hB.setCell (p := ⟨w.heap.size, 0, none⟩) (Nat.le_refl _) _).setCell (p := ⟨w.heap.size, 1, none⟩) (Nat.le_refl _) _).drew
    generalize ((W.setCell ⟨w.heap.size, 0, none⟩ (.int .u32 (mA r))).setCell ⟨w.heap.size, 1, none⟩ (.int .i64 (mN r))).drew = W2 at *
    have hg : W2.grownBy (W2.putObj D (.deferred none)) (some D) := grownBy_putObj' W2 D _
    have q0' := cell_kept q0 hg (fun r e => by cases e; exact ⟨_, hK2, rfl⟩)
    have q1' := cell_kept q1 hg (fun r e => by cases e; exact ⟨_, hK2, rfl⟩)
    refine ⟨by simp, .inl ⟨_, _, rfl, run_takeDeferred hK2, ?_⟩⟩
    refine ⟨_, ?_, rfl, hB2.trans (belowK_b (w := w) (Nat.le_refl _) W2 D _ _ (by omega) hK2 rfl rfl)⟩
    simp [results, Try.f13, go_sem, q0', q1']
  case stop =>
    rintro D c pre W _ _ h _
    exact h.elim

end Go.Proofs.Ytibmhdfodmkahaa.Tri
