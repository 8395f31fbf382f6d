/- What keeps a message from being written: check. -/
import Derived.Test.YtanboekdfdafmaaPvH
namespace Go.Proofs.Ytanboekdfdafmaa.Pv
open Go.ChangeShapes Go.WideShapes Go.ChangeAt Go.RowKit Go.Joins Go.Proofs.Ytanboekdfdafmaa.PM Go.Proofs.Ytanboekdfdafmaa.Ask Go.Proofs.Ytanboekdfdafmaa.Ge
set_option linter.unusedVariables false

set_option maxRecDepth 100000 in
set_option maxHeartbeats 16000000 in
theorem check_any (m : Ms) (s : Sl) (w : World) (hok : MOk w m s) (t : Int) (ht : chk m = t) :
    Calls Try.prog 34 #[msV m s] w fun e w' => e = .returned (.int .i64 t) ∧ Below w.heap.size w w' := by
  have HOK : Hid (MOk w m s) := hok
  obtain ⟨b1, h1⟩ : ∃ b, isK m.kind = b := ⟨_, rfl⟩
  obtain ⟨b2, h2⟩ : ∃ b, form m = b := ⟨_, rfl⟩
  obtain ⟨b3, h3⟩ : ∃ b, allV m.lost = b := ⟨_, rfl⟩
  obtain ⟨b4, h4⟩ : ∃ b, allV m.hv = b := ⟨_, rfl⟩
  obtain ⟨b5, h5⟩ : ∃ b, rise m.lost = b := ⟨_, rfl⟩
  obtain ⟨b6, h6⟩ : ∃ b, rise m.hv = b := ⟨_, rfl⟩
  obtain ⟨b7, h7⟩ : ∃ b, meet m.lost m.hv = b := ⟨_, rfl⟩
  obtain ⟨b8, h8⟩ : ∃ b, inR m = b := ⟨_, rfl⟩
  obtain ⟨b9, h9⟩ : ∃ b, riseI m.rt.marks = b := ⟨_, rfl⟩
  unfold chk at ht
  rw [h1, h2, h3, h4, h5, h6, h7, h8, h9] at ht
  have HT : Hid ((if b1 = false then 13 else if b2 = false then 4 else if (b3 && b4) = false then 3 else if (b5 && b6 && !b7) = false then 8 else if b8 = false then 2 else if b9 = false then 4 else 0) = t) := ht
  have H1 : Hid (isK m.kind = b1) := h1
  have H2 : Hid (form m = b2) := h2
  have H3 : Hid (allV m.lost = b3) := h3
  have H4 : Hid (allV m.hv = b4) := h4
  have H5 : Hid (rise m.lost = b5) := h5
  have H6 : Hid (rise m.hv = b6) := h6
  have H7 : Hid (meet m.lost m.hv = b7) := h7
  have H8 : Hid (inR m = b8) := h8
  have H9 : Hid (riseI m.rt.marks = b9) := h9
  obtain ⟨n1, hn1⟩ : ∃ n, m.lost.length = n := ⟨_, rfl⟩
  have HN1 : Hid (m.lost.length = n1) := hn1
  obtain ⟨n2, hn2⟩ : ∃ n, m.hv.length = n := ⟨_, rfl⟩
  have HN2 : Hid (m.hv.length = n2) := hn2
  obtain ⟨q1, hq1⟩ : ∃ n, m.rt.path.length = n := ⟨_, rfl⟩
  have HQ1 : Hid (m.rt.path.length = q1) := hq1
  obtain ⟨q2, hq2⟩ : ∃ n, m.rt.marks.length = n := ⟨_, rfl⟩
  have HQ2 : Hid (m.rt.marks.length = q2) := hq2
  obtain ⟨q3, hq3⟩ : ∃ n, m.rt.clus.length = n := ⟨_, rfl⟩
  have HQ3 : Hid (m.rt.clus.length = q3) := hq3
  clear ht hok h1 h2 h3 h4 h5 h6 h7 h8 h9
  have HV : Hid (msV m s = .agg #[.int .i64 m.kind, .int .i64 m.dom, .int .i64 m.id, .int .i64 m.hold, .int .i64 m.code, .slice s.l n1 s.lc, .slice s.h n2 s.hc, .int .u32 m.rt.pa, .int .i64 m.rt.pn, .slice s.p q1 s.pc, .int .i64 m.rt.org, .int .i64 m.rt.pref, .int .i64 m.rt.med, .int .u32 m.rt.next, .slice s.m q2 s.mc, .slice s.c q3 s.cc, .int .i64 m.rt.auth]) := by unfold msV; rw [hn1, hn2, hq1, hq2, hq3]; rfl
  rw [HV.out]
  clear hn1 hn2 hq1 hq2 hq3
  go_enter Try.func34, Try.ntmps34
  go_upto_region 1 with fail
  obtain ⟨w0, hw0⟩ : ∃ w0, w.alloc (Obj.cells #[.int .i64 m.kind, .int .i64 m.dom, .int .i64 m.id, .int .i64 m.hold, .int .i64 m.code, .slice s.l n1 s.lc, .slice s.h n2 s.hc, .int .u32 m.rt.pa, .int .i64 m.rt.pn, .slice s.p q1 s.pc, .int .i64 m.rt.org, .int .i64 m.rt.pref, .int .i64 m.rt.med, .int .u32 m.rt.next, .slice s.m q2 s.mc, .slice s.c q3 s.cc, .int .i64 m.rt.auth] 54) = w0 := ⟨_, rfl⟩
  obtain ⟨hbx, hb0, hs0⟩ := mbox_new (m := m) (s := s) (w := w) (W := w0) (by rw [HN1.out, HN2.out, HQ1.out, HQ2.out, HQ3.out]; exact hw0)
  obtain ⟨b, hb⟩ : ∃ b, w.heap.size = b := ⟨_, rfl⟩
  rw [hw0]
  rw [hb] at hbx hs0 ⊢
  have HX0 : Hid (MBox b m s w0) := hbx
  have HB0 : Hid (Below w.heap.size w w0) := hb0
  have HO0 : Hid (MOk w0 m s) := HOK.out.bel hb0
  clear hw0 hbx hb0 HOK
  obtain ⟨c0, c1, c2, c3, c4, c5, c6, c7, c8, c9, c10, c11, c12, c13, c14, c15, c16⟩ := HX0.out
  rw [HN1.out] at c5
  rw [HN2.out] at c6
  rw [HQ1.out] at c9
  rw [HQ2.out] at c14
  rw [HQ3.out] at c15
  go_wp2_with fail
  refine (kind_any m.kind b1 H1.out _).mono ?_
  rintro e w5 ⟨rfl, hw5⟩
  rw [hw5]
  clear hw5 w5
  cases b1 with
  | false =>
    go_wp2_with fail
    go_ret
    exact ⟨ret_i64 (by rw [← HT.out]; simp), by first | exact HB0.out | (rw [← hb]; exact HB0.out)⟩
  | true =>
    have HFA := form_any m s b2 H2.out w0
    rw [HV.out] at HFA
    go_wp2_with fail
    refine (HFA).mono ?_
    rintro e w1 ⟨rfl, hb1⟩
    have HB1 : Hid (Below w.heap.size w w1) := HB0.out.trans (hb1.mono HB0.out.size)
    have HO1 : Hid (MOk w1 m s) := HO0.out.bel hb1
    have HX1 : Hid (MBox b m s w1) := HX0.out.blk (hb1.block b (by omega))
    have hs1 : b < w1.heap.size := by have := hb1.size; omega
    clear c0 c1 c2 c3 c4 c5 c6 c7 c8 c9 c10 c11 c12 c13 c14 c15 c16 hb1
    obtain ⟨c0, c1, c2, c3, c4, c5, c6, c7, c8, c9, c10, c11, c12, c13, c14, c15, c16⟩ := HX1.out
    rw [HN1.out] at c5
    rw [HN2.out] at c6
    rw [HQ1.out] at c9
    rw [HQ2.out] at c14
    rw [HQ3.out] at c15
    clear HFA
    cases b2 with
    | false =>
      go_wp2_with fail
      go_ret
      exact ⟨ret_i64 (by rw [← HT.out]; simp), by first | exact HB1.out | (rw [← hb]; exact HB1.out)⟩
    | true =>
      go_wp2_with fail
      refine (all2_any s.l s.lc m.lost n1 HN1.out w1 HO1.out.l HO1.out.il b3 H3.out).mono ?_
      rintro e w2 ⟨rfl, hb2⟩
      have HB2 : Hid (Below w.heap.size w w2) := HB1.out.trans (hb2.mono HB1.out.size)
      have HO2 : Hid (MOk w2 m s) := HO1.out.bel hb2
      have HX2 : Hid (MBox b m s w2) := HX1.out.blk (hb2.block b (by omega))
      have hs2 : b < w2.heap.size := by have := hb2.size; omega
      clear c0 c1 c2 c3 c4 c5 c6 c7 c8 c9 c10 c11 c12 c13 c14 c15 c16 hb2
      obtain ⟨c0, c1, c2, c3, c4, c5, c6, c7, c8, c9, c10, c11, c12, c13, c14, c15, c16⟩ := HX2.out
      rw [HN1.out] at c5
      rw [HN2.out] at c6
      rw [HQ1.out] at c9
      rw [HQ2.out] at c14
      rw [HQ3.out] at c15
      cases b3 with
      | false =>
        go_wp2_with fail
        go_ret
        exact ⟨ret_i64 (by rw [← HT.out]; simp), by first | exact HB2.out | (rw [← hb]; exact HB2.out)⟩
      | true =>
        go_wp2_with fail
        refine (all2_any s.h s.hc m.hv n2 HN2.out w2 HO2.out.h HO2.out.ih b4 H4.out).mono ?_
        rintro e w3 ⟨rfl, hb3⟩
        have HB3 : Hid (Below w.heap.size w w3) := HB2.out.trans (hb3.mono HB2.out.size)
        have HO3 : Hid (MOk w3 m s) := HO2.out.bel hb3
        have HX3 : Hid (MBox b m s w3) := HX2.out.blk (hb3.block b (by omega))
        have hs3 : b < w3.heap.size := by have := hb3.size; omega
        clear c0 c1 c2 c3 c4 c5 c6 c7 c8 c9 c10 c11 c12 c13 c14 c15 c16 hb3
        obtain ⟨c0, c1, c2, c3, c4, c5, c6, c7, c8, c9, c10, c11, c12, c13, c14, c15, c16⟩ := HX3.out
        rw [HN1.out] at c5
        rw [HN2.out] at c6
        rw [HQ1.out] at c9
        rw [HQ2.out] at c14
        rw [HQ3.out] at c15
        cases b4 with
        | false =>
          go_wp2_with fail
          go_ret
          exact ⟨ret_i64 (by rw [← HT.out]; simp), by first | exact HB3.out | (rw [← hb]; exact HB3.out)⟩
        | true =>
          go_wp2_with fail
          refine (rise2_any s.l s.lc m.lost n1 HN1.out w3 HO3.out.l HO3.out.il b5 H5.out).mono ?_
          rintro e w4 ⟨rfl, hb4⟩
          have HB4 : Hid (Below w.heap.size w w4) := HB3.out.trans (hb4.mono HB3.out.size)
          have HO4 : Hid (MOk w4 m s) := HO3.out.bel hb4
          have HX4 : Hid (MBox b m s w4) := HX3.out.blk (hb4.block b (by omega))
          have hs4 : b < w4.heap.size := by have := hb4.size; omega
          clear c0 c1 c2 c3 c4 c5 c6 c7 c8 c9 c10 c11 c12 c13 c14 c15 c16 hb4
          obtain ⟨c0, c1, c2, c3, c4, c5, c6, c7, c8, c9, c10, c11, c12, c13, c14, c15, c16⟩ := HX4.out
          rw [HN1.out] at c5
          rw [HN2.out] at c6
          rw [HQ1.out] at c9
          rw [HQ2.out] at c14
          rw [HQ3.out] at c15
          cases b5 with
          | false =>
            go_wp2_with fail
            go_ret
            exact ⟨ret_i64 (by rw [← HT.out]; simp), by first | exact HB4.out | (rw [← hb]; exact HB4.out)⟩
          | true =>
            go_wp2_with fail
            refine (rise2_any s.h s.hc m.hv n2 HN2.out w4 HO4.out.h HO4.out.ih b6 H6.out).mono ?_
            rintro e w5 ⟨rfl, hb5⟩
            have HB5 : Hid (Below w.heap.size w w5) := HB4.out.trans (hb5.mono HB4.out.size)
            have HO5 : Hid (MOk w5 m s) := HO4.out.bel hb5
            have HX5 : Hid (MBox b m s w5) := HX4.out.blk (hb5.block b (by omega))
            have hs5 : b < w5.heap.size := by have := hb5.size; omega
            clear c0 c1 c2 c3 c4 c5 c6 c7 c8 c9 c10 c11 c12 c13 c14 c15 c16 hb5
            obtain ⟨c0, c1, c2, c3, c4, c5, c6, c7, c8, c9, c10, c11, c12, c13, c14, c15, c16⟩ := HX5.out
            rw [HN1.out] at c5
            rw [HN2.out] at c6
            rw [HQ1.out] at c9
            rw [HQ2.out] at c14
            rw [HQ3.out] at c15
            cases b6 with
            | false =>
              go_wp2_with fail
              go_ret
              exact ⟨ret_i64 (by rw [← HT.out]; simp), by first | exact HB5.out | (rw [← hb]; exact HB5.out)⟩
            | true =>
              go_wp2_with fail
              refine (meet_any s.l s.h s.lc s.hc m.lost m.hv n1 n2 HN1.out HN2.out (by rw [← HN1.out]; exact HO5.out.lc) (by rw [← HN2.out]; exact HO5.out.hc) w5 HO5.out.l HO5.out.h HO5.out.il HO5.out.ih H5.out H6.out b7 H7.out).mono ?_
              rintro e w6 ⟨rfl, hb6⟩
              have HB6 : Hid (Below w.heap.size w w6) := HB5.out.trans (hb6.mono HB5.out.size)
              have HO6 : Hid (MOk w6 m s) := HO5.out.bel hb6
              have HX6 : Hid (MBox b m s w6) := HX5.out.blk (hb6.block b (by omega))
              have hs6 : b < w6.heap.size := by have := hb6.size; omega
              clear c0 c1 c2 c3 c4 c5 c6 c7 c8 c9 c10 c11 c12 c13 c14 c15 c16 hb6
              obtain ⟨c0, c1, c2, c3, c4, c5, c6, c7, c8, c9, c10, c11, c12, c13, c14, c15, c16⟩ := HX6.out
              rw [HN1.out] at c5
              rw [HN2.out] at c6
              rw [HQ1.out] at c9
              rw [HQ2.out] at c14
              rw [HQ3.out] at c15
              cases b7 with
              | true =>
                go_wp2_with fail
                go_ret
                exact ⟨ret_i64 (by rw [← HT.out]; simp), by first | exact HB6.out | (rw [← hb]; exact HB6.out)⟩
              | false =>
                have HFA := range_any m s w6 HO6.out b8 H8.out
                rw [HV.out] at HFA
                go_wp2_with fail
                refine (HFA).mono ?_
                rintro e w7 ⟨rfl, hb7⟩
                have HB7 : Hid (Below w.heap.size w w7) := HB6.out.trans (hb7.mono HB6.out.size)
                have HO7 : Hid (MOk w7 m s) := HO6.out.bel hb7
                have HX7 : Hid (MBox b m s w7) := HX6.out.blk (hb7.block b (by omega))
                have hs7 : b < w7.heap.size := by have := hb7.size; omega
                clear c0 c1 c2 c3 c4 c5 c6 c7 c8 c9 c10 c11 c12 c13 c14 c15 c16 hb7
                obtain ⟨c0, c1, c2, c3, c4, c5, c6, c7, c8, c9, c10, c11, c12, c13, c14, c15, c16⟩ := HX7.out
                rw [HN1.out] at c5
                rw [HN2.out] at c6
                rw [HQ1.out] at c9
                rw [HQ2.out] at c14
                rw [HQ3.out] at c15
                clear HFA
                cases b8 with
                | false =>
                  go_wp2_with fail
                  go_ret
                  exact ⟨ret_i64 (by rw [← HT.out]; simp), by first | exact HB7.out | (rw [← hb]; exact HB7.out)⟩
                | true =>
                  go_wp2_with fail
                  refine (riseI_any s.m s.mc m.rt.marks q2 HQ2.out w7 HO7.out.r.m b9 H9.out).mono ?_
                  rintro e w8 ⟨rfl, hb8⟩
                  have HB8 : Hid (Below w.heap.size w w8) := HB7.out.trans (hb8.mono HB7.out.size)
                  have HO8 : Hid (MOk w8 m s) := HO7.out.bel hb8
                  have HX8 : Hid (MBox b m s w8) := HX7.out.blk (hb8.block b (by omega))
                  have hs8 : b < w8.heap.size := by have := hb8.size; omega
                  clear c0 c1 c2 c3 c4 c5 c6 c7 c8 c9 c10 c11 c12 c13 c14 c15 c16 hb8
                  obtain ⟨c0, c1, c2, c3, c4, c5, c6, c7, c8, c9, c10, c11, c12, c13, c14, c15, c16⟩ := HX8.out
                  rw [HN1.out] at c5
                  rw [HN2.out] at c6
                  rw [HQ1.out] at c9
                  rw [HQ2.out] at c14
                  rw [HQ3.out] at c15
                  cases b9 with
                  | false =>
                    go_wp2_with fail
                    go_ret
                    exact ⟨ret_i64 (by rw [← HT.out]; simp), by first | exact HB8.out | (rw [← hb]; exact HB8.out)⟩
                  | true =>
                    go_wp2_with fail
                    go_ret
                    exact ⟨ret_i64 (by rw [← HT.out]; simp), by first | exact HB8.out | (rw [← hb]; exact HB8.out)⟩
end Go.Proofs.Ytanboekdfdafmaa.Pv
