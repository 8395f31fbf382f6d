/- Over: what the iterator gives. -/
import Derived.RangeFuncNested
import Derived.RangeFuncBound
import Derived.RangeFuncCalls
import Derived.RangeFuncLeaves
import Derived.RangeFuncFrom
import Derived.Shelf.Abstract
import Derived.Shelf.RegionOpen
import Derived.WalkKit
import Derived.OwnWalkIn
import Derived.TacticsInMore
import Derived.LoopNIn
import Derived.LoopIn
import Derived.Test.YtibmhdfodmkahaaTrQ
import Derived.Test.YtibmhdfodmkahaaTrC
namespace Go.Proofs.Ytibmhdfodmkahaa.Tri
open Go.ChangeShapes Go.WideShapes Go.ChangeAt Go.RowKit Go.Shelf Go.Proofs.Ytibmhdfodmkahaa.PM Go.Proofs.Ytibmhdfodmkahaa.TrM Go.Proofs.Ytibmhdfodmkahaa.Ask
set_option linter.unusedVariables false
attribute [local go_sem] Oper.semAt_some

theorem grown_bel {w w' : World} (h : Below w.heap.size w w') (row : Option Nat) : w.grownBy w' row := ⟨h.os, h.tape, h.output, h.size, fun k hk _ => h.block k hk⟩
theorem cell_bel {w w' : World} {a : Addr} {v : Value} (h : w.cell? a = some v) (hb : Below w.heap.size w w') : w'.cell? a = some v := cell_kept h (grown_bel hb none) (fun r e => by cases e)

/-- what a round of the loop must keep: all below n₀, and one block -/
def Kept (n₀ bP : Nat) (A B : World) : Prop := Below n₀ A B ∧ B.heap[bP]? = A.heap[bP]?
theorem Kept.trans {n₀ bP : Nat} {A B C : World} (h : Kept n₀ bP A B) (k : Kept n₀ bP B C) : Kept n₀ bP A C := ⟨h.1.trans k.1, k.2.trans h.2⟩
theorem Kept.book {n₀ bP : Nat} {w : World} (hn : n₀ ≤ w.heap.size) (hP : bP < w.heap.size) (W : World) (l : Nat) (o o' : Obj) (hl : w.heap.size ≤ l) (h : W.heap[l]? = some o) (h1 : o.isCells = false) (h2 : o.isWalk = false) : Kept n₀ bP W (W.putObj l o') :=
  ⟨belowK_b hn W l o o' hl h h1 h2, (grownBy_putObj' W l o').block bP (by have := (Array.getElem?_eq_some_iff.1 h).1; omega) (by intro e; cases e; omega)⟩

theorem Rep.under {n₀ : Nat} {w w' : World} {t : Tr} {p : Option Addr} (h : Rep (fun b => b < n₀) w t p) (hw : Below n₀ w w') : Rep (fun b => b < n₀) w' t p := by
  induction t generalizing p with
  | nil => exact h
  | node a n v hh l r il ir =>
    obtain ⟨hb, b, pl, pr, e, hlt, hok, ⟨h0, h1, h2, h3, h4, h5⟩, hl, hr⟩ := h
    exact ⟨hb, b, pl, pr, e, Nat.lt_of_lt_of_le hlt hw.size, hok, ⟨(hw.cell (p := ⟨b, 0, none⟩) hok).trans h0, (hw.cell (p := ⟨b, 1, none⟩) hok).trans h1, (hw.cell (p := ⟨b, 2, none⟩) hok).trans h2, (hw.cell (p := ⟨b, 3, none⟩) hok).trans h3, (hw.cell (p := ⟨b, 4, none⟩) hok).trans h4, (hw.cell (p := ⟨b, 5, none⟩) hok).trans h5⟩, il hl, ir hr⟩

/-- how far the loop has to go, read off the world -/
def tms (p : Value) (w : World) : Nat := match p with
  | .pointer (some a) => (match w.cell? ⟨a.block, 1, none⟩ with | some (.int _ n) => (33 - n).toNat | _ => 0)
  | _ => 0
theorem tms_rep {ok : Nat → Prop} {w : World} {t : Tr} {p : Option Addr} (h : Rep ok w t p) : tms (.pointer p) w = room t := by
  cases t with
  | nil => have e : p = none := h; subst e; rfl
  | node a n v hh l r =>
    obtain ⟨hb, b, pl, pr, rfl, hlt, hok, ⟨h0, h1, h2, h3, h4, h5⟩, hl, hr⟩ := h
    unfold tms; simp only [h1]; rfl

def enc3 (y : Int × Int × Int) : Array Value := #[.agg #[.int .u32 y.1, .int .i64 y.2.1], .int .i64 y.2.2]

structure At (J : List (Int × Int × Int) → World → Prop) (n₀ bP : Nat) (x k : Int) (all : List (Int × Int × Int)) (p : Value) (wr : World) (pre : List (Int × Int × Int)) (s : Tr) (q : Option Addr) : Prop where
  ptr : p = .pointer q
  list : all = pre ++ ov s x k
  rep : Rep (fun b => b < n₀) wr s q
  wf : WF s
  j : J pre wr
  c0 : wr.cell? ⟨bP, 0, none⟩ = some (.int .u32 x)
  c1 : wr.cell? ⟨bP, 1, none⟩ = some (.int .i64 k)
  size : n₀ ≤ wr.heap.size

theorem At.bel {J : List (Int × Int × Int) → World → Prop} {n₀ bP : Nat} {x k : Int} {all : List (Int × Int × Int)} {p : Value} {wr w' : World} {pre : List (Int × Int × Int)} {s : Tr} {q : Option Addr}
    (h : At J n₀ bP x k all p wr pre s q) (hb : Below wr.heap.size wr w') (hJ : ∀ s A B, J s A → Below A.heap.size A B → J s B) : At J n₀ bP x k all p w' pre s q :=
  ⟨h.ptr, h.list, h.rep.under (hb.mono h.size), h.wf, hJ _ _ _ h.j hb, cell_bel h.c0 hb, cell_bel h.c1 hb, Nat.le_trans h.size hb.size⟩

theorem At.next {J : List (Int × Int × Int) → World → Prop} {n₀ bP : Nat} {x k : Int} {all : List (Int × Int × Int)} {p : Value} {w1 W3 : World} {pre pre' : List (Int × Int × Int)} {b m u : Int} {h : Bool} {l r s : Tr} {q q' : Option Addr}
    (hat : At J n₀ bP x k all p w1 pre (.node b m u h l r) q) (hK : Kept n₀ bP w1 W3) (hJ3 : J pre' W3) (hJ : ∀ s A B, J s A → Below A.heap.size A B → J s B) (hl : all = pre' ++ ov s x k) (hr : Rep (fun b => b < n₀) W3 s q') (hw : WF s) (qn : Nat) :
    At J n₀ bP x k all (.pointer q') (W3.drewN qn) pre' s q' :=
  have h1 : n₀ ≤ W3.heap.size := Nat.le_trans hat.size hK.1.size
  ⟨rfl, hl, hr.under ((bel_q W3 qn).mono h1), hw, hJ _ _ _ hJ3 (bel_q W3 qn), cell_bel ((World.cell?_of_block hK.2).trans hat.c0) (bel_q W3 qn), cell_bel ((World.cell?_of_block hK.2).trans hat.c1) (bel_q W3 qn), h1⟩
theorem Kept.bel {n₀ bP : Nat} {w w' : World} {v : Value} (hn : n₀ ≤ w.heap.size) (h : w.cell? ⟨bP, 0, none⟩ = some v) (hb : Below w.heap.size w w') : Kept n₀ bP w w' :=
  ⟨hb.mono hn, hb.block bP (by obtain ⟨o, ho, -⟩ := cells_of_cell h; exact (Array.getElem?_eq_some_iff.1 ho).1)⟩
theorem tms_kid {ok : Nat → Prop} {w w' : World} {b m u : Int} {h : Bool} {l r s : Tr} {p q : Option Addr} {sd : Int} (hw : WF (.node b m u h l r)) (hr : Root (kid b m sd) (m + 1) s) (h0 : Rep ok w (.node b m u h l r) p) (h1 : Rep ok w' s q) : tms (.pointer q) w' < tms (.pointer p) w := by
  rw [tms_rep h0, tms_rep h1]; exact room_kid hw hr

/-- how a round ends -/
def Yw (J Jx : List (Int × Int × Int) → World → Prop) (n₀ bP : Nat) (w1 : World) (pre : List (Int × Int × Int)) (v : Bool) (W3 : World) : Prop := (v = true ∧ J pre W3 ∧ Kept n₀ bP w1 W3) ∨ (v = false ∧ Jx pre W3)

set_option maxRecDepth 100000 in
set_option maxHeartbeats 2000000 in
theorem over1 (n l bT bP bt n₀ : Nat) (t : Tr) (p : Option Addr) (x k : Int) (x0 : 0 ≤ x) (x1 : x < 4294967296) (J Jx : List (Int × Int × Int) → World → Prop) (hJ : ∀ s A B, J s A → Below A.heap.size A B → J s B)
    (hY : ∀ pre y W1, J pre W1 → pre.length < (ov t x k).length → YieldAt Fence.wide (n - 1) Try.prog l (enc3 y) W1 fun e W' => (e = .returned (.bool true) ∧ J (pre ++ [y]) W' ∧ Kept n₀ bP W1 W') ∨ (e = .returned (.bool false) ∧ Jx (pre ++ [y]) W'))
    (W : World) (cT : W.cell? ⟨bT, 0, none⟩ = some (.pointer (some ⟨bt, 0, none⟩))) (cR : W.cell? ⟨bt, 0, none⟩ = some (.pointer p)) (h0 : At J n₀ bP x k (ov t x k) (.pointer p) W [] t p) :
    CallsIn Fence.wide n Try.prog 48 #[.func (.yield l) #[] #[], .pointer (some ⟨bT, 0, none⟩), .pointer (some ⟨bP, 0, none⟩)] W fun e W' => (∃ v, e = .returned v) ∧
      ((∃ ys, ys = ov t x k ∧ J ys W') ∨ (∃ pre, pre <+: ov t x k ∧ Jx pre W')) := by
  have H0 : Hid (At J n₀ bP x k (ov t x k) (.pointer p) W [] t p) := h0
  clear h0
  generalize ov t x k = all at *
  refine callsIn_of_wp Try.func48 rfl trivial ?_ rfl
  simp only [Try.ntmps48, List.size_toArray, List.length_cons, List.length_nil, Nat.reduceAdd, Nat.reduceSub, Array.replicate_succ, Array.replicate_zero, List.push_toArray, List.append_toArray, List.nil_append, List.cons_append]
  gi_wp2
  gi_loopw [4] (fun p wr => ∃ pre s q, At J n₀ bP x k all p wr pre s q) tms
  case atStart =>
    exact ⟨_, _, _, H0.out⟩
  case round =>
    obtain ⟨pre, s, q, hat⟩ := hrel
    have HAT : Hid (At J n₀ bP x k all _ _ pre s q) := hat
    obtain rfl := hat.ptr
    clear hat
    cases s with
    | nil =>
      obtain rfl : q = none := HAT.out.rep
      gi_wp2
      refine wpIn_wide.2 ?_
      go_quiet (fail)
      gi_wp2
      go_end0
      exact ⟨⟨_, rfl⟩, .inl ⟨all, rfl, by rw [HAT.out.list, ov_nil, List.append_nil]; exact hJ _ _ _ HAT.out.j (bel_q wr nq)⟩⟩
    | node b m u h l2 r2 =>
      obtain ⟨hbd, bn, pl, pr, rfl, hlt, hok, hc, -, -⟩ := HAT.out.rep
      obtain ⟨b0, b1, m0, m1⟩ := hbd
      have k0 := cell_regrown (w := wr) (a := ⟨bn, 0, none⟩) hc.1
      have k1 := cell_regrown (w := wr) (a := ⟨bn, 1, none⟩) hc.2.1
      have j0 := cell_regrown (w := wr) (a := ⟨bP, 0, none⟩) HAT.out.c0
      have j1 := cell_regrown (w := wr) (a := ⟨bP, 1, none⟩) HAT.out.c1
      cases hcv : cov b m x k with
      | false =>
        have HV : Hid (cov b m x k = false) := hcv
        clear hcv hc
        gi_wp2
        refine wpIn_wide.2 ?_
        refine wp_region_quiet_below (by kernel_rfl) (by kernel_rfl) ?_
        repeat (go_big_quiet_step ((go_at_call 41; exact Calls.regrown_of (covers_is b m x k false HV.out b0 b1 x0 x1 _))))
        refine wpQuiet_nil ?_
        intro w1 hw'
        have hb1 := regrown_bel hw'
        gi_wp2
        go_end0
        exact ⟨⟨_, rfl⟩, .inl ⟨all, rfl, by rw [HAT.out.list, ov_out HV.out, List.append_nil]; exact hJ _ _ _ HAT.out.j hb1⟩⟩
      | true =>
        have HV : Hid (cov b m x k = true) := hcv
        clear hcv hc
        gi_wp2
        refine wpIn_wide.2 ?_
        refine wp_region_quiet_below (by kernel_rfl) (by kernel_rfl) ?_
        repeat (go_big_quiet_step ((go_at_call 41; exact Calls.regrown_of (covers_is b m x k true HV.out b0 b1 x0 x1 _))))
        refine wpQuiet_nil ?_
        intro w1 hw'
        have hb1 := regrown_bel hw'
        have HAT1 : Hid (At J n₀ bP x k all _ w1 pre _ _) := HAT.out.bel hb1 hJ
        clear k0 k1 j0 j1 hw' hlt
        obtain ⟨-, bn2, pl2, pr2, e2, hlt, -, hc, -, -⟩ := HAT1.out.rep
        cases e2
        obtain ⟨c0, c1, c2, c3, c4, c5⟩ := hc
        cases h with
        | false =>
          gi_wp2
          refine wpIn_wide.2 ?_
          go_quiet (fail)
          obtain ⟨W3, hW3⟩ : ∃ W3, w1.drewN nq = W3 := ⟨_, rfl⟩
          have hK3 : Kept n₀ bP w1 W3 := by rw [← hW3]; exact Kept.bel HAT1.out.size HAT1.out.c0 (bel_q w1 nq)
          have hJ3 : J pre W3 := by rw [← hW3]; exact hJ _ _ _ HAT1.out.j (bel_q w1 nq)
          rw [hW3]
          clear hW3 c0 c1 c2 c3 c4 c5
          obtain ⟨-, bn3, pl3, pr3, e3, hlt3, -, hc3, hl3, hr3⟩ := HAT1.out.rep.under hK3.1
          cases e3
          have d0 : W3.cell? ⟨bP, 0, none⟩ = some (.int .u32 x) := (World.cell?_of_block hK3.2).trans HAT1.out.c0
          rcases sdI_01 x m with hs | hs
          · have HS : Hid (sdI x m = 0) := hs
            clear hs
            gi_wp2
            refine ⟨trivial, fun h => (by cases h), ?_⟩
            refine (callsIn_wide.2 (toward_l bn b m u false pl3 pr3 x HS.out m0 m1 x0 x1 _ hc3)).mono ?_
            rintro e w4 ⟨rfl, q4, rfl⟩
            gi_wp2
            go_roundw
            case rel => exact ⟨pre, l2, pl3, HAT1.out.next hK3 hJ3 hJ (by rw [HAT1.out.list, ov_f0 HV.out HS.out]) hl3 HAT.out.wf.2.2.2.2.1 q4⟩
            case measure => exact tms_kid HAT.out.wf HAT.out.wf.2.2.1 HAT.out.rep (hl3.under ((bel_q W3 q4).mono (Nat.le_trans HAT1.out.size hK3.1.size)))
          · have HS : Hid (sdI x m = 1) := hs
            clear hs
            gi_wp2
            refine ⟨trivial, fun h => (by cases h), ?_⟩
            refine (callsIn_wide.2 (toward_r bn b m u false pl3 pr3 x HS.out m0 m1 x0 x1 _ hc3)).mono ?_
            rintro e w4 ⟨rfl, q4, rfl⟩
            gi_wp2
            go_roundw
            case rel => exact ⟨pre, r2, pr3, HAT1.out.next hK3 hJ3 hJ (by rw [HAT1.out.list, ov_f1 HV.out HS.out]) hr3 HAT.out.wf.2.2.2.2.2 q4⟩
            case measure => exact tms_kid HAT.out.wf HAT.out.wf.2.2.2.1 HAT.out.rep (hr3.under ((bel_q W3 q4).mono (Nat.le_trans HAT1.out.size hK3.1.size)))
        | true =>
          obtain ⟨fn, tmps, assign, body, hy, hR⟩ := hY pre (b, m, u) w1.drew (hJ _ _ _ HAT1.out.j (bel_q w1 1)) (by rw [HAT1.out.list]; rcases sdI_01 x m with hs | hs <;> simp [ov_t0, ov_t1, HV.out, hs])
          dsimp only [enc3] at hy
          have hR' := hR.mono (R' := fun e W' => ∃ v, e = .returned (.bool v) ∧ Yw J Jx n₀ bP w1 (pre ++ [(b, m, u)]) v W') (by
            rintro e W3 (⟨rfl, hJ3, hk3⟩ | ⟨rfl, hJx3⟩)
            · exact ⟨true, rfl, .inl ⟨rfl, hJ3, (Kept.bel HAT1.out.size HAT1.out.c0 (bel_q w1 1)).trans hk3⟩⟩
            · exact ⟨false, rfl, .inr ⟨rfl, hJx3⟩⟩)
          clear hR
          have hmix : Try.prog.follows .mixedOrders = true := by kernel_rfl
          gi_wp2
          gi_region_with_o (first | (refine ⟨fun h => (by cases h), hR'.mono ?_⟩; rintro e W3 ⟨v, rfl, hv⟩))
          all_goals
            clear hR' hy c0 c1 c2 c3 c4 c5
            rcases hv with ⟨rfl, hJ3, hK3⟩ | ⟨rfl, hJx3⟩
            · obtain ⟨-, bn3, pl3, pr3, e3, hlt3, -, hc3, hl3, hr3⟩ := HAT1.out.rep.under hK3.1
              cases e3
              have d0 : W3.cell? ⟨bP, 0, none⟩ = some (.int .u32 x) := (World.cell?_of_block hK3.2).trans HAT1.out.c0
              rcases sdI_01 x m with hs | hs
              · have HS : Hid (sdI x m = 0) := hs
                clear hs
                gi_wp2
                refine ⟨trivial, fun h => (by cases h), ?_⟩
                refine (callsIn_wide.2 (toward_l bn b m u true pl3 pr3 x HS.out m0 m1 x0 x1 _ hc3)).mono ?_
                rintro e w4 ⟨rfl, q4, rfl⟩
                gi_wp2
                go_roundw
                case rel => exact ⟨pre ++ [(b, m, u)], l2, pl3, HAT1.out.next hK3 hJ3 hJ (by rw [HAT1.out.list, ov_t0 HV.out HS.out]; simp) hl3 HAT.out.wf.2.2.2.2.1 q4⟩
                case measure => exact tms_kid HAT.out.wf HAT.out.wf.2.2.1 HAT.out.rep (hl3.under ((bel_q W3 q4).mono (Nat.le_trans HAT1.out.size hK3.1.size)))
              · have HS : Hid (sdI x m = 1) := hs
                clear hs
                gi_wp2
                refine ⟨trivial, fun h => (by cases h), ?_⟩
                refine (callsIn_wide.2 (toward_r bn b m u true pl3 pr3 x HS.out m0 m1 x0 x1 _ hc3)).mono ?_
                rintro e w4 ⟨rfl, q4, rfl⟩
                gi_wp2
                go_roundw
                case rel => exact ⟨pre ++ [(b, m, u)], r2, pr3, HAT1.out.next hK3 hJ3 hJ (by rw [HAT1.out.list, ov_t1 HV.out HS.out]; simp) hr3 HAT.out.wf.2.2.2.2.2 q4⟩
                case measure => exact tms_kid HAT.out.wf HAT.out.wf.2.2.2.1 HAT.out.rep (hr3.under ((bel_q W3 q4).mono (Nat.le_trans HAT1.out.size hK3.1.size)))
            · gi_wp2
              refine bodyPost_ret (results_none rfl _ _ _) rfl ?_
              refine ⟨⟨_, rfl⟩, .inr ⟨pre ++ [(b, m, u)], ?_, hJx3⟩⟩
              rw [HAT1.out.list]
              rcases sdI_01 x m with hs | hs
              · rw [ov_t0 HV.out hs]; exact ⟨ov l2 x k, by simp⟩
              · rw [ov_t1 HV.out hs]; exact ⟨ov r2 x k, by simp⟩

end Go.Proofs.Ytibmhdfodmkahaa.Tri
