/- What keeps a message from being written: routeInRange, inRange, check. -/
import Derived.Test.YtanboekdfdafmaaPvF
import Derived.Deep.CutRange
import Derived.Deep.RegionHeld3
namespace Go.Proofs.Ytanboekdfdafmaa.Pv
open Go.ChangeShapes Go.WideShapes Go.ChangeAt Go.RowKit Go.Joins Go.Proofs.Ytanboekdfdafmaa.PM Go.Proofs.Ytanboekdfdafmaa.Ask Go.Proofs.Ytanboekdfdafmaa.Ge
set_option linter.unusedVariables false

/-- a box that holds it -/
structure RBox (b : Nat) (r : Rt) (s : Sl) (w : World) : Prop where
  c0 : w.cell? ⟨b, 0, none⟩ = some (.int .u32 r.pa)
  c1 : w.cell? ⟨b, 1, none⟩ = some (.int .i64 r.pn)
  c2 : w.cell? ⟨b, 2, none⟩ = some (.slice s.p r.path.length s.pc)
  c3 : w.cell? ⟨b, 3, none⟩ = some (.int .i64 r.org)
  c4 : w.cell? ⟨b, 4, none⟩ = some (.int .i64 r.pref)
  c5 : w.cell? ⟨b, 5, none⟩ = some (.int .i64 r.med)
  c6 : w.cell? ⟨b, 6, none⟩ = some (.int .u32 r.next)
  c7 : w.cell? ⟨b, 7, none⟩ = some (.slice s.m r.marks.length s.mc)
  c8 : w.cell? ⟨b, 8, none⟩ = some (.slice s.c r.clus.length s.cc)
  c9 : w.cell? ⟨b, 9, none⟩ = some (.int .i64 r.auth)
theorem RBox.blk {b : Nat} {r : Rt} {s : Sl} {w w' : World} (h : RBox b r s w) (hb : w'.heap[b]? = w.heap[b]?) : RBox b r s w' := by
  have k : ∀ i, w'.cell? ⟨b, i, none⟩ = w.cell? ⟨b, i, none⟩ := fun i => World.cell?_of_block (w := w) hb
  exact ⟨(k 0).trans h.c0, (k 1).trans h.c1, (k 2).trans h.c2, (k 3).trans h.c3, (k 4).trans h.c4, (k 5).trans h.c5, (k 6).trans h.c6, (k 7).trans h.c7, (k 8).trans h.c8, (k 9).trans h.c9⟩
theorem RBox.bel {b : Nat} {r : Rt} {s : Sl} {N : Nat} {w w' : World} (h : RBox b r s w) (hb : Below N w w') (hl : b < N) : RBox b r s w' := h.blk (hb.block b hl)
/-- a box that holds it -/
structure MBox (b : Nat) (m : Ms) (s : Sl) (w : World) : Prop where
  c0 : w.cell? ⟨b, 0, none⟩ = some (.int .i64 m.kind)
  c1 : w.cell? ⟨b, 1, none⟩ = some (.int .i64 m.dom)
  c2 : w.cell? ⟨b, 2, none⟩ = some (.int .i64 m.id)
  c3 : w.cell? ⟨b, 3, none⟩ = some (.int .i64 m.hold)
  c4 : w.cell? ⟨b, 4, none⟩ = some (.int .i64 m.code)
  c5 : w.cell? ⟨b, 5, none⟩ = some (.slice s.l m.lost.length s.lc)
  c6 : w.cell? ⟨b, 6, none⟩ = some (.slice s.h m.hv.length s.hc)
  c7 : w.cell? ⟨b, 7, none⟩ = some (.int .u32 m.rt.pa)
  c8 : w.cell? ⟨b, 8, none⟩ = some (.int .i64 m.rt.pn)
  c9 : w.cell? ⟨b, 9, none⟩ = some (.slice s.p m.rt.path.length s.pc)
  c10 : w.cell? ⟨b, 10, none⟩ = some (.int .i64 m.rt.org)
  c11 : w.cell? ⟨b, 11, none⟩ = some (.int .i64 m.rt.pref)
  c12 : w.cell? ⟨b, 12, none⟩ = some (.int .i64 m.rt.med)
  c13 : w.cell? ⟨b, 13, none⟩ = some (.int .u32 m.rt.next)
  c14 : w.cell? ⟨b, 14, none⟩ = some (.slice s.m m.rt.marks.length s.mc)
  c15 : w.cell? ⟨b, 15, none⟩ = some (.slice s.c m.rt.clus.length s.cc)
  c16 : w.cell? ⟨b, 16, none⟩ = some (.int .i64 m.rt.auth)
theorem MBox.blk {b : Nat} {m : Ms} {s : Sl} {w w' : World} (h : MBox b m s w) (hb : w'.heap[b]? = w.heap[b]?) : MBox b m s w' := by
  have k : ∀ i, w'.cell? ⟨b, i, none⟩ = w.cell? ⟨b, i, none⟩ := fun i => World.cell?_of_block (w := w) hb
  exact ⟨(k 0).trans h.c0, (k 1).trans h.c1, (k 2).trans h.c2, (k 3).trans h.c3, (k 4).trans h.c4, (k 5).trans h.c5, (k 6).trans h.c6, (k 7).trans h.c7, (k 8).trans h.c8, (k 9).trans h.c9, (k 10).trans h.c10, (k 11).trans h.c11, (k 12).trans h.c12, (k 13).trans h.c13, (k 14).trans h.c14, (k 15).trans h.c15, (k 16).trans h.c16⟩
theorem MBox.bel {b : Nat} {m : Ms} {s : Sl} {N : Nat} {w w' : World} (h : MBox b m s w) (hb : Below N w w') (hl : b < N) : MBox b m s w' := h.blk (hb.block b hl)
theorem rbox_new {r : Rt} {s : Sl} {w W : World} (h : w.alloc (Obj.cells #[.int .u32 r.pa, .int .i64 r.pn, .slice s.p r.path.length s.pc, .int .i64 r.org, .int .i64 r.pref, .int .i64 r.med, .int .u32 r.next, .slice s.m r.marks.length s.mc, .slice s.c r.clus.length s.cc, .int .i64 r.auth] 52) = W) : RBox w.heap.size r s W ∧ Below w.heap.size w W ∧ W.heap.size = w.heap.size + 1 := by
  subst h
  exact ⟨by constructor <;> simp, (Below.refl _ _).alloc (Nat.le_refl _) _, by simp⟩
theorem mbox_new {m : Ms} {s : Sl} {w W : World} (h : w.alloc (Obj.cells #[.int .i64 m.kind, .int .i64 m.dom, .int .i64 m.id, .int .i64 m.hold, .int .i64 m.code, .slice s.l m.lost.length s.lc, .slice s.h m.hv.length s.hc, .int .u32 m.rt.pa, .int .i64 m.rt.pn, .slice s.p m.rt.path.length s.pc, .int .i64 m.rt.org, .int .i64 m.rt.pref, .int .i64 m.rt.med, .int .u32 m.rt.next, .slice s.m m.rt.marks.length s.mc, .slice s.c m.rt.clus.length s.cc, .int .i64 m.rt.auth] 54) = W) : MBox w.heap.size m s W ∧ Below w.heap.size w W ∧ W.heap.size = w.heap.size + 1 := by
  subst h
  exact ⟨by constructor <;> simp, (Below.refl _ _).alloc (Nat.le_refl _) _, by simp⟩
/-- a message's lists lie -/
structure ROk (w : World) (r : Rt) (s : Sl) : Prop where
  p : Lst EI w s.p r.path
  m : Lst EI w s.m r.marks
  c : Lst EI w s.c r.clus
  pc : r.path.length ≤ s.pc
  mc : r.marks.length ≤ s.mc
  cc : r.clus.length ≤ s.cc
  n0 : 0 ≤ r.next
  n1 : r.next < 4294967296
theorem ROk.bel {w w' : World} {r : Rt} {s : Sl} (h : ROk w r s) (hb : Below w.heap.size w w') : ROk w' r s := ⟨h.p.bel hb, h.m.bel hb, h.c.bel hb, h.pc, h.mc, h.cc, h.n0, h.n1⟩
structure MOk (w : World) (m : Ms) (s : Sl) : Prop where
  l : Lst E2 w s.l m.lost
  h : Lst E2 w s.h m.hv
  lc : m.lost.length ≤ s.lc
  hc : m.hv.length ≤ s.hc
  il : ∀ p ∈ m.lost, InA p
  ih : ∀ p ∈ m.hv, InA p
  r : ROk w m.rt s
theorem MOk.bel {w w' : World} {m : Ms} {s : Sl} (h : MOk w m s) (hb : Below w.heap.size w w') : MOk w' m s := ⟨h.l.bel hb, h.h.bel hb, h.lc, h.hc, h.il, h.ih, h.r.bel hb⟩
set_option maxRecDepth 100000 in
set_option maxHeartbeats 8000000 in
theorem rrange_any (r : Rt) (s : Sl) (w : World) (hok : ROk w r s) (t : Bool) (ht : routeR r = t) :
    Calls Try.prog 64 #[rtV r s] w fun e w' => e = .returned (.bool t) ∧ Below w.heap.size w w' := by
  have HOK : Hid (ROk w r s) := hok
  obtain ⟨b1, h1⟩ : ∃ b, wi r.org 0 2 = b := ⟨_, rfl⟩
  obtain ⟨b2, h2⟩ : ∃ b, isNo r.med = b := ⟨_, rfl⟩
  obtain ⟨b3, h3⟩ : ∃ b, isNo r.pref = b := ⟨_, rfl⟩
  obtain ⟨b4, h4⟩ : ∃ b, isNo r.auth = b := ⟨_, rfl⟩
  obtain ⟨b5, h5⟩ : ∃ b, decide (r.path.length ≤ 64) = b := ⟨_, rfl⟩
  obtain ⟨b6, h6⟩ : ∃ b, r.path.all isNm = b := ⟨_, rfl⟩
  obtain ⟨b7, h7⟩ : ∃ b, decide (r.marks.length ≤ 32) = b := ⟨_, rfl⟩
  obtain ⟨b8, h8⟩ : ∃ b, r.marks.all isNo = b := ⟨_, rfl⟩
  obtain ⟨b9, h9⟩ : ∃ b, decide (r.clus.length ≤ 32) = b := ⟨_, rfl⟩
  obtain ⟨b10, h10⟩ : ∃ b, r.clus.all isNo = b := ⟨_, rfl⟩
  unfold routeR at ht
  rw [h1, h2, h3, h4, h5, h6, h7, h8, h9, h10] at ht
  have HT : Hid ((b1 && b2 && b3 && b4 && b5 && b6 && b7 && b8 && b9 && b10) = t) := ht
  have H1 : Hid (wi r.org 0 2 = b1) := h1
  have H2 : Hid (isNo r.med = b2) := h2
  have H3 : Hid (isNo r.pref = b3) := h3
  have H4 : Hid (isNo r.auth = b4) := h4
  have H6 : Hid (r.path.all isNm = b6) := h6
  have H8 : Hid (r.marks.all isNo = b8) := h8
  have H10 : Hid (r.clus.all isNo = b10) := h10
  obtain ⟨L1, hL1⟩ : ∃ n, r.path.length = n := ⟨_, rfl⟩
  obtain ⟨L2, hL2⟩ : ∃ n, r.marks.length = n := ⟨_, rfl⟩
  obtain ⟨L3, hL3⟩ : ∃ n, r.clus.length = n := ⟨_, rfl⟩
  have HL1 : Hid (r.path.length = L1) := hL1
  have HL2 : Hid (r.marks.length = L2) := hL2
  have HL3 : Hid (r.clus.length = L3) := hL3
  have HS1 := hok.p.small
  have HS2 := hok.m.small
  have HS3 := hok.c.small
  rw [hL1] at h5 HS1
  rw [hL2] at h7 HS2
  rw [hL3] at h9 HS3
  have H5 : Hid (decide (L1 ≤ 64) = b5) := h5
  have H7 : Hid (decide (L2 ≤ 32) = b7) := h7
  have H9 : Hid (decide (L3 ≤ 32) = b9) := h9
  clear h1 h2 h3 h4 h5 h6 h7 h8 h9 h10 ht hok
  unfold rtV
  rw [hL1, hL2, hL3]
  clear hL1 hL2 hL3
  go_enter Try.func64, Try.ntmps64
  go_upto_region 1 with fail
  obtain ⟨w0, hw0⟩ : ∃ w0, w.alloc (Obj.cells #[.int .u32 r.pa, .int .i64 r.pn, .slice s.p L1 s.pc, .int .i64 r.org, .int .i64 r.pref, .int .i64 r.med, .int .u32 r.next, .slice s.m L2 s.mc, .slice s.c L3 s.cc, .int .i64 r.auth] 52) = w0 := ⟨_, rfl⟩
  obtain ⟨hbx, hb0, hs0⟩ := rbox_new (r := r) (s := s) (w := w) (W := w0) (by rw [HL1.out, HL2.out, HL3.out]; exact hw0)
  obtain ⟨b, hb⟩ : ∃ b, w.heap.size = b := ⟨_, rfl⟩
  rw [hw0]
  rw [hb] at hbx hs0 ⊢
  have HX : Hid (RBox b r s w0) := hbx
  have HB0 : Hid (Below w.heap.size w w0) := hb0
  have HRB : Hid (ROk w0 r s) := HOK.out.bel hb0
  clear hw0 hbx hb0 HOK
  obtain ⟨c0, c1, c2, c3, c4, c5, c6, c7, c8, c9⟩ := HX.out
  rw [HL1.out] at c2
  rw [HL2.out] at c7
  rw [HL3.out] at c8
  go_wp2_with fail
  refine (within_any r.org 0 2 b1 H1.out _).mono ?_
  rintro e w5 ⟨rfl, hw5⟩
  rw [hw5]
  clear hw5 w5
  cases b1 with
  | false =>
    go_wp2_with fail
    go_ret
    exact ⟨ret_bool (by rw [← HT.out]; simp), by first | exact HB0.out | (rw [← hb]; exact HB0.out)⟩
  | true =>
    go_wp2_with fail
    refine (number_any r.med b2 H2.out _).mono ?_
    rintro e w5 ⟨rfl, hw5⟩
    rw [hw5]
    clear hw5 w5
    cases b2 with
    | false =>
      go_wp2_with fail
      go_ret
      exact ⟨ret_bool (by rw [← HT.out]; simp), by first | exact HB0.out | (rw [← hb]; exact HB0.out)⟩
    | true =>
      go_wp2_with fail
      refine (number_any r.pref b3 H3.out _).mono ?_
      rintro e w5 ⟨rfl, hw5⟩
      rw [hw5]
      clear hw5 w5
      cases b3 with
      | false =>
        go_wp2_with fail
        go_ret
        exact ⟨ret_bool (by rw [← HT.out]; simp), by first | exact HB0.out | (rw [← hb]; exact HB0.out)⟩
      | true =>
        go_wp2_with fail
        refine (number_any r.auth b4 H4.out _).mono ?_
        rintro e w5 ⟨rfl, hw5⟩
        rw [hw5]
        clear hw5 w5
        cases b4 with
        | false =>
          go_wp2_with fail
          go_ret
          exact ⟨ret_bool (by rw [← HT.out]; simp), by first | exact HB0.out | (rw [← hb]; exact HB0.out)⟩
        | true =>
          cases b5 with
          | false =>
            have g5 : ¬ (L1 : Int) ≤ 64 := by have := H5.out; simp at this; omega
            go_wp2_with fail
            go_ret
            exact ⟨ret_bool (by rw [← HT.out]; simp), by first | exact HB0.out | (rw [← hb]; exact HB0.out)⟩
          | true =>
            have g5 : (L1 : Int) ≤ 64 := by have := H5.out; simp at this; omega
            go_wp2_with fail
            refine (allName_any s.p s.pc r.path L1 HL1.out w0 HRB.out.p b6 H6.out).mono ?_
            rintro e w1 ⟨rfl, hb1⟩
            have HB1 : Hid (Below w.heap.size w w1) := HB0.out.trans (hb1.mono HB0.out.size)
            have HR1 : Hid (ROk w1 r s) := HRB.out.bel hb1
            have HX1 : Hid (RBox b r s w1) := HX.out.blk (hb1.block b (by omega))
            have hs1 : b < w1.heap.size := by have := hb1.size; omega
            clear c0 c1 c2 c3 c4 c5 c6 c7 c8 c9 hb1
            obtain ⟨c0, c1, c2, c3, c4, c5, c6, c7, c8, c9⟩ := HX1.out
            rw [HL1.out] at c2
            rw [HL2.out] at c7
            rw [HL3.out] at c8
            cases b6 with
            | false =>
              go_wp2_with fail
              go_ret
              exact ⟨ret_bool (by rw [← HT.out]; simp), by first | exact HB1.out | (rw [← hb]; exact HB1.out)⟩
            | true =>
              cases b7 with
              | false =>
                have g7 : ¬ (L2 : Int) ≤ 32 := by have := H7.out; simp at this; omega
                go_wp2_with fail
                go_ret
                exact ⟨ret_bool (by rw [← HT.out]; simp), by first | exact HB1.out | (rw [← hb]; exact HB1.out)⟩
              | true =>
                have g7 : (L2 : Int) ≤ 32 := by have := H7.out; simp at this; omega
                go_wp2_with fail
                refine (allNumber_any s.m s.mc r.marks L2 HL2.out w1 HR1.out.m b8 H8.out).mono ?_
                rintro e w2 ⟨rfl, hb2⟩
                have HB2 : Hid (Below w.heap.size w w2) := HB1.out.trans (hb2.mono HB1.out.size)
                have HR2 : Hid (ROk w2 r s) := HR1.out.bel hb2
                have HX2 : Hid (RBox b r s w2) := HX1.out.blk (hb2.block b (by omega))
                have hs2 : b < w2.heap.size := by have := hb2.size; omega
                clear c0 c1 c2 c3 c4 c5 c6 c7 c8 c9 hb2
                obtain ⟨c0, c1, c2, c3, c4, c5, c6, c7, c8, c9⟩ := HX2.out
                rw [HL1.out] at c2
                rw [HL2.out] at c7
                rw [HL3.out] at c8
                cases b8 with
                | false =>
                  go_wp2_with fail
                  go_ret
                  exact ⟨ret_bool (by rw [← HT.out]; simp), by first | exact HB2.out | (rw [← hb]; exact HB2.out)⟩
                | true =>
                  cases b9 with
                  | false =>
                    have g9 : ¬ (L3 : Int) ≤ 32 := by have := H9.out; simp at this; omega
                    go_wp2_with fail
                    go_ret
                    exact ⟨ret_bool (by rw [← HT.out]; simp), by first | exact HB2.out | (rw [← hb]; exact HB2.out)⟩
                  | true =>
                    have g9 : (L3 : Int) ≤ 32 := by have := H9.out; simp at this; omega
                    go_wp2_with fail
                    refine (allNumber_any s.c s.cc r.clus L3 HL3.out w2 HR2.out.c b10 H10.out).mono ?_
                    rintro e w3 ⟨rfl, hb3⟩
                    have HB3 : Hid (Below w.heap.size w w3) := HB2.out.trans (hb3.mono HB2.out.size)
                    have HR3 : Hid (ROk w3 r s) := HR2.out.bel hb3
                    have HX3 : Hid (RBox b r s w3) := HX2.out.blk (hb3.block b (by omega))
                    have hs3 : b < w3.heap.size := by have := hb3.size; omega
                    clear c0 c1 c2 c3 c4 c5 c6 c7 c8 c9 hb3
                    obtain ⟨c0, c1, c2, c3, c4, c5, c6, c7, c8, c9⟩ := HX3.out
                    rw [HL1.out] at c2
                    rw [HL2.out] at c7
                    rw [HL3.out] at c8
                    go_wp2_with fail
                    go_ret
                    exact ⟨ret_bool (by rw [← HT.out]; simp), by first | exact HB3.out | (rw [← hb]; exact HB3.out)⟩
end Go.Proofs.Ytanboekdfdafmaa.Pv
