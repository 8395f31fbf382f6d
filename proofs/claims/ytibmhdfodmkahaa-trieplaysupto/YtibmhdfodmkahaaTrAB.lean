/- All and TrieAll: what they answer. -/
import Derived.Test.YtibmhdfodmkahaaTrAA
import Derived.Test.YtibmhdfodmkahaaTrY
import Derived.Test.YtibmhdfodmkahaaTrK
namespace Go.Proofs.Ytibmhdfodmkahaa.Tri
open Go.ChangeShapes Go.WideShapes Go.ChangeAt Go.RowKit Go.Shelf Go.Proofs.Ytibmhdfodmkahaa.PM Go.Proofs.Ytibmhdfodmkahaa.TrM Go.Proofs.Ytibmhdfodmkahaa.Ask
set_option linter.unusedVariables false
attribute [local go_sem] Oper.semAt_some

theorem all_u32 {t : Tr} (hw : WF t) : ∀ d ∈ allT t, In32 d.1 := by
  induction t with
  | nil => intro d hd; cases hd
  | node b m u h l r il ir =>
    obtain ⟨hv, hb, r0, r1, w0, w1⟩ := hw
    intro d hd
    rw [allT_node] at hd
    rcases List.mem_append.1 hd with hd | hd
    · cases h <;> simp at hd
      subst hd; exact hb
    · rcases List.mem_append.1 hd with hd | hd
      · exact il w0 d hd
      · exact ir w1 d hd

set_option maxHeartbeats 1000000 in
theorem under_any (bt : Nat) (x k : Int) (w : World) :
    Calls Try.prog 39 #[.pointer (some ⟨bt, 0, none⟩), .agg #[.int .u32 x, .int .i64 k]] w fun e w' => e = .returned (.func (.func 49) #[] #[.pointer (some ⟨w.heap.size, 0, none⟩), .pointer (some ⟨w.heap.size + 1, 0, none⟩)]) ∧
      w' = (w.alloc (.cells #[.pointer (some ⟨bt, 0, none⟩)] 24)).alloc (.cells #[.int .u32 x, .int .i64 k] 33) := by
  go_enter Try.func39, Try.ntmps39
  go_wp2_with fail
  go_ret
  exact ⟨rfl, rfl⟩
set_option maxHeartbeats 1000000 in
theorem all_any (bt : Nat) (w : World) :
    Calls Try.prog 34 #[.pointer (some ⟨bt, 0, none⟩)] w fun e w' => e = .returned (.func (.func 49) #[] #[.pointer (some ⟨w.heap.size, 0, none⟩), .pointer (some ⟨w.heap.size + 1, 0, none⟩)]) ∧
      w' = (w.alloc (.cells #[.pointer (some ⟨bt, 0, none⟩)] 24)).alloc (.cells #[.int .u32 0, .int .i64 0] 33) := by
  go_enter Try.func34, Try.ntmps34
  go_wp2_with fail
  refine (under_any bt 0 0 w).mono ?_
  rintro e w1 ⟨rfl, hw1⟩
  go_wp2_with fail
  go_ret
  exact ⟨rfl, rfl⟩

theorem under_stops (n bT bP bt n₀ : Nat) (t : Tr) (p : Option Addr) (x k : Int) (x0 : 0 ≤ x) (x1 : x < 4294967296) (w : World) (cT : w.cell? ⟨bT, 0, none⟩ = some (.pointer (some ⟨bt, 0, none⟩))) (cR : w.cell? ⟨bt, 0, none⟩ = some (.pointer p))
    (c0 : w.cell? ⟨bP, 0, none⟩ = some (.int .u32 x)) (c1 : w.cell? ⟨bP, 1, none⟩ = some (.int .i64 k)) (hr : Rep (fun b => b < n₀) w t p) (hw : WF t) (hn : n₀ ≤ w.heap.size) :
    SeqStopsK Fence.wide n Try.prog 49 #[.pointer (some ⟨bT, 0, none⟩), .pointer (some ⟨bP, 0, none⟩)] enc3 (Below n₀) (fun ys => ys = und t x k) (fun pre => pre <+: und t x k) (und t x k).length w :=
  fun l J Jx W hW hJ hJx hY h0 => under1 n l bT bP bt n₀ t p x k x0 x1 J Jx (fun s A B hs hb => hJ s A B none hs (grown_bel hb none) (fun r e => by cases e)) hY W (cell_bel cT hW) (cell_bel cR hW)
    ⟨rfl, rfl, hr.under (hW.mono hn), hw, h0, cell_bel c0 hW, cell_bel c1 hW, Nat.le_trans hn hW.size⟩

theorem row_own {A B : World} {row : Option Nat} {base : Nat} {E : TypeId} {v : Value} {l : List (Int × Int × Int)} (h : RowOf A base E v l) (hg : A.grownBy B row) (hr : ∀ r, row = some r → ∃ o : Obj, A.heap[r]? = some o ∧ o.isCells = false) : RowOf B base E v l :=
  World.ownsRow.kept h hg (by
    rcases h.2 with ⟨rfl, _⟩ | ⟨g, cap, cur, rfl, _, hgb, _⟩
    · exact .inl rfl
    · refine .inr (fun e => ?_)
      obtain ⟨o, ho, hc⟩ := hr g e.symm
      rw [hgb] at ho; cases ho; cases hc)
theorem box_own {A B : World} {row : Option Nat} {b : Nat} {t : TypeId} {v : Value} (h : Boxed A b t v) (hg : A.grownBy B row) (hr : ∀ r, row = some r → ∃ o : Obj, A.heap[r]? = some o ∧ o.isCells = false) : Boxed B b t v :=
  h.kept hg (fun e => by obtain ⟨o, ho, hc⟩ := hr b e.symm; rw [show A.heap[b]? = _ from h] at ho; cases ho; cases hc)

/-- the list that TrieAll collects -/
def Coll (s : Nat) (pre : List (Int × Int × Int)) (W : World) : Prop := ∃ v, Boxed W s 38 v ∧ RowOf W s 43 v pre
theorem Coll.own {s : Nat} {pre : List (Int × Int × Int)} {A B : World} {row : Option Nat} (h : Coll s pre A) (hg : A.grownBy B row) (hr : ∀ r, row = some r → ∃ o : Obj, A.heap[r]? = some o ∧ o.isCells = false) : Coll s pre B := by
  obtain ⟨v, h1, h2⟩ := h
  exact ⟨v, box_own h1 hg hr, row_own h2 hg hr⟩

set_option maxRecDepth 100000 in
set_option maxHeartbeats 2000000 in
theorem trieAll_any (ok : Nat → Prop) (bt : Nat) (t : Tr) (p : Option Addr) (c : Int) (w : World) (hh : Holds ok w bt t p c) (hw : WF t) (hby : (allT t).length * 24 ≤ 140737488355328) :
    Calls Try.prog 11 #[.pointer (some ⟨bt, 0, none⟩)] w fun e w' => ∃ a cap, e = .returned (.slice a (allT t).length cap) ∧ Arr3 w' a (allT t) ∧ Below w.heap.size w w' := by
  refine (callsIn_wide (n := 4)).1 ?_
  have HH : Hid (Holds ok w bt t p c) := hh
  clear hh
  have hund := und_all hw
  refine callsIn_of_wp_marks Try.func11 rfl trivial ?_ rfl
  simp only [Try.ntmps11, List.size_toArray, List.length_cons, List.length_nil, Nat.reduceAdd, Nat.reduceSub, Array.replicate_succ, Array.replicate_zero, List.push_toArray, List.append_toArray, List.nil_append, List.cons_append]
  gi_wp2
  refine ⟨trivial, ?_⟩
  refine (callsIn_wide.2 (all_any bt _)).mono ?_
  rintro e w1 ⟨rfl, hw1⟩
  simp only [World.size_alloc]
  obtain ⟨g1, g2, g3, hsz, hB0⟩ := three_blocks w _ _ _ w1 hw1
  have hbox : Boxed w1 w.heap.size 38 (.slice none 0 0) := g1
  have cT : w1.cell? ⟨w.heap.size + 1, 0, none⟩ = some (.pointer (some ⟨bt, 0, none⟩)) := by simp [World.cell?, g2]
  have c0 : w1.cell? ⟨w.heap.size + 1 + 1, 0, none⟩ = some (.int .u32 0) := by simp [World.cell?, g3]
  have c1 : w1.cell? ⟨w.heap.size + 1 + 1, 1, none⟩ = some (.int .i64 0) := by simp [World.cell?, g3]
  have HC0 : Hid (Coll w.heap.size [] w1) := ⟨_, hbox, RowOf.nil _ _ _⟩
  clear hw1 g1 g2 g3 hbox
  gi_wp2
  have hh1 : Holds ok w1 bt t p c := HH.out.bel hB0
  have hrep : Rep (fun b => b < w.heap.size) w1 t p := by
    refine (HH.out.rep.lt.below hB0 (fun b h => h.2))
  refine wpIn_rangeFunc_ownH rfl (by decide) (gf := 49) rfl trivial (enters_of Try.func49 (by kernel_rfl) rfl)
    (under_stops 3 _ _ bt w.heap.size t p 0 0 (by decide) (by decide) w1 cT hh1.root c0 c1 hrep hw hB0.size) belowK_t (belowK_b hB0.size) (Below.refl _ _) (fun _ => rfl)
    (fun pre W => (Coll w.heap.size pre W ∧ w.heap.size + 3 ≤ W.heap.size) ∧ Below w.heap.size w W) (fun _ _ _ => False)
    (OwnFrom.and (Own.from (fun s A B row hs hg hr => ⟨hs.1.own hg hr, Nat.le_trans hs.2 hg.size⟩) _) (ownFrom_below (Nat.le_refl _) hB0.size))
    (fun _ _ _ _ _ hs _ _ => hs) ⟨⟨HC0.out, by omega⟩, hB0⟩
    (fun y a' W => ∃ Bx, w.heap.size + 3 ≤ Bx ∧ (W.cell? ⟨Bx, 0, none⟩ = some (.int .u32 y.1) ∧ W.cell? ⟨Bx, 1, none⟩ = some (.int .i64 y.2.1)) ∧
      a' = { tmps := #[.pointer (some ⟨bt, 0, none⟩), undef, .slice none 0 0, .pointer (some ⟨w.heap.size, 0, none⟩), .pointer (some ⟨Bx, 0, none⟩), .int .i64 y.2.2, .pointer (some ⟨bt, 0, none⟩),
        .func (.func 49) #[] #[.pointer (some ⟨w.heap.size + 1, 0, none⟩), .pointer (some ⟨w.heap.size + 1 + 1, 0, none⟩)],
        .agg #[.int .u32 y.1, .int .i64 y.2.1], .int .i64 y.2.2, undef, undef, undef, undef, undef, undef, undef], defers := [] })
    (fun y a' s A B row hs hg hr => by
      obtain ⟨Bx, h1, ⟨h2, h3⟩, h4⟩ := hs
      exact ⟨Bx, h1, ⟨cell_kept h2 hg (fun r e => (hr r e).2), cell_kept h3 hg (fun r e => (hr r e).2)⟩, h4⟩) ?assign ?body ?done ?stop
  case assign =>
    rintro l pre ⟨ya, yn, yv⟩ W K ⟨⟨hi, hs3⟩, hB⟩ hK
    dsimp only [enc3]
    gi_wp2
    exact hK _ _ ((KeepsOthers.alloc _ _).from _) ((Below.refl _ W).alloc hB.size _) ⟨⟨hi.own (World.grownBy_alloc W _ none) (fun r e => by cases e), by simp; omega⟩, hB.alloc hB.size _⟩
      ⟨W.heap.size, hs3, ⟨by simp, by simp⟩, rfl⟩
  case body =>
    rintro l pre ⟨ya, yn, yv⟩ a' W hl ⟨rr, hrr⟩ ⟨⟨⟨v, hv, hrow⟩, hs3⟩, hB⟩ ⟨Bx, hBx, ⟨y0, y1⟩, rfl⟩ hlt
    rw [hund] at hlt
    have hcv := hv.cell
    have HROW : Hid (RowOf W w.heap.size 43 v pre) := hrow
    obtain ⟨i0, hi, hz0, hz1, hz2⟩ := info_parts infoI
    have hby2 : (pre.length + 1) * 24 ≤ 140737488355328 := by omega
    clear hrow
    gi_wp2_with (gi_at_builtin; refine wpListIn_append_own _ rfl _ _ 38 rfl w.heap.size 43 i0 (.agg #[.int .u32 0, .int .i64 0, .int .i64 0]) 3 24 Try.underlying38 hi hz0 hz1 hz2 rfl (by decide) v pre.length (encs pre) rfl (World.ownsRow.alloc HROW.out _) ⟨W.heap.size, 0, none⟩ 1 1 [.int .u32 ya, .int .i64 yn, .int .i64 yv] rfl rfl (by
      intro j u' hj
      match j, hj with
      | 0, hj => simp at hj; subst hj; simp [Addr.add]
      | 1, hj => simp at hj; subst hj; simp [Addr.add]
      | 2, hj => simp at hj; subst hj; simp [Addr.add]) (by intro u' hu'; simp at hu'; rcases hu' with rfl | rfl | rfl <;> rfl) (by unfold maxLen; omega) hby2 (by simp; omega) ?_)
    intro v' w2 hown' hgrow _
    obtain ⟨g', cap', rfl⟩ := ownsRow_succ hown'
    obtain ⟨hv1, hv2, hr2, hk2, hb2⟩ := hv.appended (by decide) HROW.out hB.size (Nat.le_refl _) hown' hgrow
    have hc1 := hv1.cell
    have hf1 := hv1.frozen
    gi_wp2
    exact ⟨hk2.from _, hb2, ⟨⟨_, hv2, by unfold RowOf; rw [encs_snoc, List.length_append]; exact hr2⟩, Nat.le_trans hs3 hb2.size⟩, hB.trans hb2⟩
  case done =>
    rintro D ys W hD rfl ⟨⟨⟨v, hv, hrow⟩, hs3⟩, hB⟩ hK
    rw [hund] at hrow
    obtain ⟨ra, rc, hve, harr, -⟩ := arr_of_own hrow (all_u32 hw)
    subst hve
    have hcv := hv.cell
    have HARR : Hid (Arr3 (W.putObj D (.deferred none)) ra (allT t)) := by
      obtain ⟨ra', rc', hve', harr', -⟩ := arr_of_own (row_own hrow (grownBy_putObj' W D (.deferred none)) (fun r e => by cases e; exact ⟨_, hK, rfl⟩)) (all_u32 hw)
      cases hve'; exact harr'
    clear hrow harr
    gi_wp2
    refine ⟨by simp, .inl ⟨_, _, rfl, run_takeDeferred hK, ?_⟩⟩
    exact ⟨_, results_tmp rfl _ _ _, ra, rc, rfl, HARR.out, hB.trans (belowK_b (w := w) (Nat.le_refl _) W D _ _ (by omega) hK rfl rfl)⟩
  case stop =>
    rintro D c pre W _ _ h _
    exact h.elim
end Go.Proofs.Ytibmhdfodmkahaa.Tri
