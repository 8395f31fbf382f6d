/- The document's pvRange. -/
import Derived.Test.YthcppiempcgnkaaPvQ
namespace Go.Proofs.Ythcppiempcgnkaa.Pv
open Go.ChangeShapes Go.WideShapes Go.ChangeAt Go.RowKit Go.Joins Go.Proofs.Ythcppiempcgnkaa.PM Go.Proofs.Ythcppiempcgnkaa.Ask Go.Proofs.Ythcppiempcgnkaa.Ge
set_option linter.unusedVariables false

def wN (lo x : Int) : Bool := wi x lo 4294967295
def openR (m : Ms) : Bool := !decide (m.kind = 1) || (wi m.dom 1 4294967295 && wi m.id 1 4294967295 && (decide (m.hold = 0) || wi m.hold 3 65535))
def rrange (m : Ms) : Bool := openR m && (wi m.code 0 255 && wi m.rt.org 0 2 && m.rt.path.all (fun x => wi x 1 4294967295) && m.rt.marks.all (fun x => wi x 0 4294967295) && m.rt.clus.all (fun x => wi x 0 4294967295)) && (wi m.rt.med 0 4294967295 && wi m.rt.pref 0 4294967295 && wi m.rt.auth 0 4294967295) && decide (m.rt.path.length ≤ 64 ∧ m.rt.marks.length ≤ 32 ∧ m.rt.clus.length ≤ 32)
set_option maxRecDepth 100000 in
set_option maxHeartbeats 8000000 in
theorem rrange_any2 (m : Ms) (s : Sl) (w : World) (hok : MOk w m s) (t : Bool) (ht : rrange m = t) :
    Calls Try.prog 22 #[msV m s] w fun e w' => e = .returned (.bool t) ∧ Below w.heap.size w w' := by
  have HOK : Hid (MOk w m s) := hok
  obtain ⟨b1, h1⟩ : ∃ b, openR m = b := ⟨_, rfl⟩
  have H1 : Hid (openR m = b1) := h1
  obtain ⟨b2, h2⟩ : ∃ b, wi m.code 0 255 = b := ⟨_, rfl⟩
  have H2 : Hid (wi m.code 0 255 = b2) := h2
  obtain ⟨b3, h3⟩ : ∃ b, wi m.rt.org 0 2 = b := ⟨_, rfl⟩
  have H3 : Hid (wi m.rt.org 0 2 = b3) := h3
  obtain ⟨b4, h4⟩ : ∃ b, m.rt.path.all (fun x => wi x 1 4294967295) = b := ⟨_, rfl⟩
  have H4 : Hid (m.rt.path.all (fun x => wi x 1 4294967295) = b4) := h4
  obtain ⟨b5, h5⟩ : ∃ b, m.rt.marks.all (fun x => wi x 0 4294967295) = b := ⟨_, rfl⟩
  have H5 : Hid (m.rt.marks.all (fun x => wi x 0 4294967295) = b5) := h5
  obtain ⟨b6, h6⟩ : ∃ b, m.rt.clus.all (fun x => wi x 0 4294967295) = b := ⟨_, rfl⟩
  have H6 : Hid (m.rt.clus.all (fun x => wi x 0 4294967295) = b6) := h6
  obtain ⟨b7, h7⟩ : ∃ b, (wi m.rt.med 0 4294967295 && wi m.rt.pref 0 4294967295 && wi m.rt.auth 0 4294967295) = b := ⟨_, rfl⟩
  have H7 : Hid ((wi m.rt.med 0 4294967295 && wi m.rt.pref 0 4294967295 && wi m.rt.auth 0 4294967295) = b7) := h7
  obtain ⟨n1, hn1⟩ : ∃ n, m.lost.length = n := ⟨_, rfl⟩
  have HN1 : Hid (m.lost.length = n1) := hn1
  obtain ⟨n2, hn2⟩ : ∃ n, m.hv.length = n := ⟨_, rfl⟩
  have HN2 : Hid (m.hv.length = n2) := hn2
  obtain ⟨q1, hq1⟩ : ∃ n, m.rt.path.length = n := ⟨_, rfl⟩
  have HQ1 : Hid (m.rt.path.length = q1) := hq1
  obtain ⟨q2, hq2⟩ : ∃ n, m.rt.marks.length = n := ⟨_, rfl⟩
  have HQ2 : Hid (m.rt.marks.length = q2) := hq2
  obtain ⟨q3, hq3⟩ : ∃ n, m.rt.clus.length = n := ⟨_, rfl⟩
  have HQ3 : Hid (m.rt.clus.length = q3) := hq3
  have HV : Hid (msV m s = .agg #[.int .i64 m.kind, .int .i64 m.dom, .int .i64 m.id, .int .i64 m.hold, .int .i64 m.code, .slice s.l n1 s.lc, .slice s.h n2 s.hc, .int .u32 m.rt.pa, .int .i64 m.rt.pn, .slice s.p q1 s.pc, .int .i64 m.rt.org, .int .i64 m.rt.pref, .int .i64 m.rt.med, .int .u32 m.rt.next, .slice s.m q2 s.mc, .slice s.c q3 s.cc, .int .i64 m.rt.auth]) := by unfold msV; rw [hn1, hn2, hq1, hq2, hq3]; rfl
  unfold rrange at ht
  rw [h1, h2, h3, h4, h5, h6, h7, hq1, hq2, hq3] at ht
  have HT : Hid ((b1 && (b2 && b3 && b4 && b5 && b6) && b7 && decide (q1 ≤ 64 ∧ q2 ≤ 32 ∧ q3 ≤ 32)) = t) := ht
  have HS1 := hok.r.p.small
  have HS2 := hok.r.m.small
  have HS3 := hok.r.c.small
  rw [hq1] at HS1
  rw [hq2] at HS2
  rw [hq3] at HS3
  rw [HV.out]
  have HS7 : Hid (∀ W W', W.alloc (Obj.cells #[.int .i64 m.rt.med, .int .i64 m.rt.pref, .int .i64 m.rt.auth] 3) = W' → Below W.heap.size W W' ∧ Calls Try.prog 55 #[.slice (some ⟨W.heap.size, 0, none⟩) 3 3, .int .i64 0] W' fun e w' => e = .returned (.bool b7) ∧ w' = W') := fun W W' h => by
    obtain ⟨m1, m2⟩ := own_made EI (W := W) (W' := W') [m.rt.med, m.rt.pref, m.rt.auth] 3 rfl (by decide) h
    exact ⟨m2, rbetweens_any 0 _ 3 [m.rt.med, m.rt.pref, m.rt.auth] 3 rfl W' m1.lst.1 b7 (by rw [← h7]; simp [List.all_cons, Bool.and_assoc])⟩
  clear hn1 hn2 hq1 hq2 hq3 ht h1 h2 h3 h4 h5 h6 h7 hok
  go_enter Try.func22, Try.ntmps22
  go_upto_region 2 with fail
  obtain ⟨wA, hwA⟩ : ∃ w0, w.alloc (Obj.cells #[.int .i64 m.kind, .int .i64 m.dom, .int .i64 m.id, .int .i64 m.hold, .int .i64 m.code, .slice s.l n1 s.lc, .slice s.h n2 s.hc, .int .u32 m.rt.pa, .int .i64 m.rt.pn, .slice s.p q1 s.pc, .int .i64 m.rt.org, .int .i64 m.rt.pref, .int .i64 m.rt.med, .int .u32 m.rt.next, .slice s.m q2 s.mc, .slice s.c q3 s.cc, .int .i64 m.rt.auth] 30) = w0 := ⟨_, rfl⟩
  obtain ⟨hbx, hbA, hsA⟩ := mbox_new (m := m) (s := s) (w := w) (W := wA) (by rw [HN1.out, HN2.out, HQ1.out, HQ2.out, HQ3.out]; exact hwA)
  rw [hwA]
  obtain ⟨w0, hw0⟩ : ∃ w0, wA.alloc (Obj.cells #[.int .u32 m.rt.pa, .int .i64 m.rt.pn, .slice s.p q1 s.pc, .int .i64 m.rt.org, .int .i64 m.rt.pref, .int .i64 m.rt.med, .int .u32 m.rt.next, .slice s.m q2 s.mc, .slice s.c q3 s.cc, .int .i64 m.rt.auth] 28) = w0 := ⟨_, rfl⟩
  obtain ⟨hrx, hb0, hs0⟩ := rbox_new (r := m.rt) (s := s) (w := wA) (W := w0) (by rw [HQ1.out, HQ2.out, HQ3.out]; exact hw0)
  rw [hw0]
  obtain ⟨b, hb⟩ : ∃ b, w.heap.size = b := ⟨_, rfl⟩
  rw [hsA] at hrx
  rw [hb] at hbx hrx ⊢
  have HBZ : Hid (w.heap.size = b) := hb
  have HX0 : Hid (MBox b m s w0) := hbx.blk (hb0.block b (by omega))
  have HR0 : Hid (RBox (b + 1) m.rt s w0) := hrx
  have HB0 : Hid (Below w.heap.size w w0) := hbA.trans (hb0.mono hbA.size)
  have HO0 : Hid (MOk w0 m s) := HOK.out.bel HB0.out
  have hb1 : b + 1 < w0.heap.size := by omega
  clear hwA hw0 hbx hb0 hrx hs0 hsA hbA hb HOK
  obtain ⟨c0, c1, c2, c3, c4, c5, c6, c7, c8, c9, c10, c11, c12, c13, c14, c15, c16⟩ := HX0.out
  rw [HN1.out] at c5
  rw [HN2.out] at c6
  rw [HQ1.out] at c9
  rw [HQ2.out] at c14
  rw [HQ3.out] at c15
  obtain ⟨r0, r1, r2, r3, r4, r5, r6, r7, r8, r9⟩ := HR0.out
  rw [HQ1.out] at r2
  rw [HQ2.out] at r7
  rw [HQ3.out] at r8
  by_cases k1 : m.kind = 1
  · have HOP : Hid ((wi m.dom 1 4294967295 && wi m.id 1 4294967295 && (decide (m.hold = 0) || wi m.hold 3 65535)) = b1) := by
      show _ = _
      rw [← H1.out]
      unfold openR
      rw [decide_eq_true k1]
      simp
    rw [k1] at c0
    obtain ⟨d1, g1⟩ : ∃ b, wi m.dom 1 4294967295 = b := ⟨_, rfl⟩
    obtain ⟨d2, g2⟩ : ∃ b, wi m.id 1 4294967295 = b := ⟨_, rfl⟩
    obtain ⟨d3, g3⟩ : ∃ b, wi m.hold 3 65535 = b := ⟨_, rfl⟩
    have G1 : Hid (wi m.dom 1 4294967295 = d1) := g1
    have G2 : Hid (wi m.id 1 4294967295 = d2) := g2
    have G3 : Hid (wi m.hold 3 65535 = d3) := g3
    rw [g1, g2, g3] at HOP
    clear g1 g2 g3
    go_wp2_with fail
    refine (rbetween_any m.dom 1 4294967295 d1 G1.out _).mono ?_
    rintro e w5 ⟨rfl, hw5⟩
    rw [hw5]
    clear hw5 w5
    cases d1 with
    | false =>
      obtain rfl : b1 = false := by rw [← HOP.out]; simp
      go_wp2_with fail
      go_ret
      exact ⟨ret_bool (by rw [← HT.out]; simp), HB0.out⟩
    | true =>
      go_wp2_with fail
      refine (rbetween_any m.id 1 4294967295 d2 G2.out _).mono ?_
      rintro e w5 ⟨rfl, hw5⟩
      rw [hw5]
      clear hw5 w5
      cases d2 with
      | false =>
        obtain rfl : b1 = false := by rw [← HOP.out]; simp
        go_wp2_with fail
        go_ret
        exact ⟨ret_bool (by rw [← HT.out]; simp), HB0.out⟩
      | true =>
        by_cases h0 : m.hold = 0
        · obtain rfl : b1 = true := by rw [← HOP.out, decide_eq_true h0]; simp
          have h0b : (m.hold != 0) = false := by simpa using h0
          rw [h0] at c3
          clear h0 h0b
          go_wp2_with fail
          refine (rbetween_any m.code 0 255 b2 H2.out _).mono ?_
          rintro e w5 ⟨rfl, hw5⟩
          rw [hw5]
          clear hw5 w5
          cases b2 with
          | false =>
            go_wp2_with fail
            go_ret
            exact ⟨ret_bool (by rw [← HT.out]; simp), HB0.out⟩
          | true =>
            go_wp2_with fail
            refine (rbetween_any m.rt.org 0 2 b3 H3.out _).mono ?_
            rintro e w5 ⟨rfl, hw5⟩
            rw [hw5]
            clear hw5 w5
            cases b3 with
            | false =>
              go_wp2_with fail
              go_ret
              exact ⟨ret_bool (by rw [← HT.out]; simp), HB0.out⟩
            | true =>
              go_wp2_with fail
              refine (rbetweens_any 1 s.p s.pc m.rt.path q1 HQ1.out _ HO0.out.r.p b4 H4.out).mono ?_
              rintro e w5 ⟨rfl, hw5⟩
              rw [hw5]
              clear hw5 w5
              cases b4 with
              | false =>
                go_wp2_with fail
                go_ret
                exact ⟨ret_bool (by rw [← HT.out]; simp), HB0.out⟩
              | true =>
                go_wp2_with fail
                refine (rbetweens_any 0 s.m s.mc m.rt.marks q2 HQ2.out _ HO0.out.r.m b5 H5.out).mono ?_
                rintro e w5 ⟨rfl, hw5⟩
                rw [hw5]
                clear hw5 w5
                cases b5 with
                | false =>
                  go_wp2_with fail
                  go_ret
                  exact ⟨ret_bool (by rw [← HT.out]; simp), HB0.out⟩
                | true =>
                  go_wp2_with fail
                  refine (rbetweens_any 0 s.c s.cc m.rt.clus q3 HQ3.out _ HO0.out.r.c b6 H6.out).mono ?_
                  rintro e w5 ⟨rfl, hw5⟩
                  rw [hw5]
                  clear hw5 w5
                  cases b6 with
                  | false =>
                    go_wp2_with fail
                    go_ret
                    exact ⟨ret_bool (by rw [← HT.out]; simp), HB0.out⟩
                  | true =>
                    go_wp2_with fail
                    obtain ⟨w9, hw9⟩ : ∃ w9, w0.alloc (Obj.cells #[.int .i64 m.rt.med, .int .i64 m.rt.pref, .int .i64 m.rt.auth] 3) = w9 := ⟨_, rfl⟩
                    obtain ⟨hb9, hc9⟩ := HS7.out w0 w9 hw9
                    have HB9 : Hid (Below w.heap.size w w9) := HB0.out.trans (hb9.mono HB0.out.size)
                    have HR9 : Hid (RBox (b + 1) m.rt s w9) := HR0.out.blk (hb9.block (b + 1) hb1)
                    rw [hw9]
                    refine hc9.mono ?_
                    rintro e w5 ⟨rfl, hw5⟩
                    rw [hw5]
                    clear hw5 w5
                    clear hw9 hb9 hc9 r0 r1 r2 r3 r4 r5 r6 r7 r8 r9 c0 c1 c2 c3 c4 c5 c6 c7 c8 c9 c10 c11 c12 c13 c14 c15 c16
                    obtain ⟨r0, r1, r2, r3, r4, r5, r6, r7, r8, r9⟩ := HR9.out
                    rw [HQ1.out] at r2
                    rw [HQ2.out] at r7
                    rw [HQ3.out] at r8
                    cases b7 with
                    | false =>
                      go_wp2_with fail
                      go_ret
                      exact ⟨ret_bool (by rw [← HT.out]; simp), HB9.out⟩
                    | true =>
                      go_wp2_with fail
                      all_goals
                        go_ret
                        refine ⟨ret_bool ?_, HB9.out⟩
                        rw [← HT.out]
                        simp only [Bool.and_true, Bool.true_and]
                        first
                          | (symm; rw [decide_eq_false_iff_not]; omega)
                          | (symm; rw [decide_eq_true_iff]; omega)
                          | (rw [Bool.eq_iff_iff, decide_eq_true_iff, decide_eq_true_iff]; omega)
        · have HH : Hid ((decide (m.hold = 0)) = false) := decide_eq_false h0
          have h0b : (m.hold != 0) = true := by simpa using h0
          clear h0
          go_wp2_with fail
          refine (rbetween_any m.hold 3 65535 d3 G3.out _).mono ?_
          rintro e w5 ⟨rfl, hw5⟩
          rw [hw5]
          clear hw5 w5
          cases d3 with
          | false =>
            obtain rfl : b1 = false := by rw [← HOP.out, HH.out]; simp
            go_wp2_with fail
            go_ret
            exact ⟨ret_bool (by rw [← HT.out]; simp), HB0.out⟩
          | true =>
            obtain rfl : b1 = true := by rw [← HOP.out, HH.out]; simp
            go_wp2_with fail
            refine (rbetween_any m.code 0 255 b2 H2.out _).mono ?_
            rintro e w5 ⟨rfl, hw5⟩
            rw [hw5]
            clear hw5 w5
            cases b2 with
            | false =>
              go_wp2_with fail
              go_ret
              exact ⟨ret_bool (by rw [← HT.out]; simp), HB0.out⟩
            | true =>
              go_wp2_with fail
              refine (rbetween_any m.rt.org 0 2 b3 H3.out _).mono ?_
              rintro e w5 ⟨rfl, hw5⟩
              rw [hw5]
              clear hw5 w5
              cases b3 with
              | false =>
                go_wp2_with fail
                go_ret
                exact ⟨ret_bool (by rw [← HT.out]; simp), HB0.out⟩
              | true =>
                go_wp2_with fail
                refine (rbetweens_any 1 s.p s.pc m.rt.path q1 HQ1.out _ HO0.out.r.p b4 H4.out).mono ?_
                rintro e w5 ⟨rfl, hw5⟩
                rw [hw5]
                clear hw5 w5
                cases b4 with
                | false =>
                  go_wp2_with fail
                  go_ret
                  exact ⟨ret_bool (by rw [← HT.out]; simp), HB0.out⟩
                | true =>
                  go_wp2_with fail
                  refine (rbetweens_any 0 s.m s.mc m.rt.marks q2 HQ2.out _ HO0.out.r.m b5 H5.out).mono ?_
                  rintro e w5 ⟨rfl, hw5⟩
                  rw [hw5]
                  clear hw5 w5
                  cases b5 with
                  | false =>
                    go_wp2_with fail
                    go_ret
                    exact ⟨ret_bool (by rw [← HT.out]; simp), HB0.out⟩
                  | true =>
                    go_wp2_with fail
                    refine (rbetweens_any 0 s.c s.cc m.rt.clus q3 HQ3.out _ HO0.out.r.c b6 H6.out).mono ?_
                    rintro e w5 ⟨rfl, hw5⟩
                    rw [hw5]
                    clear hw5 w5
                    cases b6 with
                    | false =>
                      go_wp2_with fail
                      go_ret
                      exact ⟨ret_bool (by rw [← HT.out]; simp), HB0.out⟩
                    | true =>
                      go_wp2_with fail
                      obtain ⟨w9, hw9⟩ : ∃ w9, w0.alloc (Obj.cells #[.int .i64 m.rt.med, .int .i64 m.rt.pref, .int .i64 m.rt.auth] 3) = w9 := ⟨_, rfl⟩
                      obtain ⟨hb9, hc9⟩ := HS7.out w0 w9 hw9
                      have HB9 : Hid (Below w.heap.size w w9) := HB0.out.trans (hb9.mono HB0.out.size)
                      have HR9 : Hid (RBox (b + 1) m.rt s w9) := HR0.out.blk (hb9.block (b + 1) hb1)
                      rw [hw9]
                      refine hc9.mono ?_
                      rintro e w5 ⟨rfl, hw5⟩
                      rw [hw5]
                      clear hw5 w5
                      clear hw9 hb9 hc9 r0 r1 r2 r3 r4 r5 r6 r7 r8 r9 c0 c1 c2 c3 c4 c5 c6 c7 c8 c9 c10 c11 c12 c13 c14 c15 c16
                      obtain ⟨r0, r1, r2, r3, r4, r5, r6, r7, r8, r9⟩ := HR9.out
                      rw [HQ1.out] at r2
                      rw [HQ2.out] at r7
                      rw [HQ3.out] at r8
                      cases b7 with
                      | false =>
                        go_wp2_with fail
                        go_ret
                        exact ⟨ret_bool (by rw [← HT.out]; simp), HB9.out⟩
                      | true =>
                        go_wp2_with fail
                        all_goals
                          go_ret
                          refine ⟨ret_bool ?_, HB9.out⟩
                          rw [← HT.out]
                          simp only [Bool.and_true, Bool.true_and]
                          first
                            | (symm; rw [decide_eq_false_iff_not]; omega)
                            | (symm; rw [decide_eq_true_iff]; omega)
                            | (rw [Bool.eq_iff_iff, decide_eq_true_iff, decide_eq_true_iff]; omega)
  · obtain rfl : b1 = true := by
      rw [← H1.out]
      unfold openR
      rw [decide_eq_false k1]
      simp
    have k1b : (m.kind == 1) = false := by simpa using k1
    clear k1
    go_wp2_with fail
    refine (rbetween_any m.code 0 255 b2 H2.out _).mono ?_
    rintro e w5 ⟨rfl, hw5⟩
    rw [hw5]
    clear hw5 w5
    cases b2 with
    | false =>
      go_wp2_with fail
      go_ret
      exact ⟨ret_bool (by rw [← HT.out]; simp), HB0.out⟩
    | true =>
      go_wp2_with fail
      refine (rbetween_any m.rt.org 0 2 b3 H3.out _).mono ?_
      rintro e w5 ⟨rfl, hw5⟩
      rw [hw5]
      clear hw5 w5
      cases b3 with
      | false =>
        go_wp2_with fail
        go_ret
        exact ⟨ret_bool (by rw [← HT.out]; simp), HB0.out⟩
      | true =>
        go_wp2_with fail
        refine (rbetweens_any 1 s.p s.pc m.rt.path q1 HQ1.out _ HO0.out.r.p b4 H4.out).mono ?_
        rintro e w5 ⟨rfl, hw5⟩
        rw [hw5]
        clear hw5 w5
        cases b4 with
        | false =>
          go_wp2_with fail
          go_ret
          exact ⟨ret_bool (by rw [← HT.out]; simp), HB0.out⟩
        | true =>
          go_wp2_with fail
          refine (rbetweens_any 0 s.m s.mc m.rt.marks q2 HQ2.out _ HO0.out.r.m b5 H5.out).mono ?_
          rintro e w5 ⟨rfl, hw5⟩
          rw [hw5]
          clear hw5 w5
          cases b5 with
          | false =>
            go_wp2_with fail
            go_ret
            exact ⟨ret_bool (by rw [← HT.out]; simp), HB0.out⟩
          | true =>
            go_wp2_with fail
            refine (rbetweens_any 0 s.c s.cc m.rt.clus q3 HQ3.out _ HO0.out.r.c b6 H6.out).mono ?_
            rintro e w5 ⟨rfl, hw5⟩
            rw [hw5]
            clear hw5 w5
            cases b6 with
            | false =>
              go_wp2_with fail
              go_ret
              exact ⟨ret_bool (by rw [← HT.out]; simp), HB0.out⟩
            | true =>
              go_wp2_with fail
              obtain ⟨w9, hw9⟩ : ∃ w9, w0.alloc (Obj.cells #[.int .i64 m.rt.med, .int .i64 m.rt.pref, .int .i64 m.rt.auth] 3) = w9 := ⟨_, rfl⟩
              obtain ⟨hb9, hc9⟩ := HS7.out w0 w9 hw9
              have HB9 : Hid (Below w.heap.size w w9) := HB0.out.trans (hb9.mono HB0.out.size)
              have HR9 : Hid (RBox (b + 1) m.rt s w9) := HR0.out.blk (hb9.block (b + 1) hb1)
              rw [hw9]
              refine hc9.mono ?_
              rintro e w5 ⟨rfl, hw5⟩
              rw [hw5]
              clear hw5 w5
              clear hw9 hb9 hc9 r0 r1 r2 r3 r4 r5 r6 r7 r8 r9 c0 c1 c2 c3 c4 c5 c6 c7 c8 c9 c10 c11 c12 c13 c14 c15 c16
              obtain ⟨r0, r1, r2, r3, r4, r5, r6, r7, r8, r9⟩ := HR9.out
              rw [HQ1.out] at r2
              rw [HQ2.out] at r7
              rw [HQ3.out] at r8
              cases b7 with
              | false =>
                go_wp2_with fail
                go_ret
                exact ⟨ret_bool (by rw [← HT.out]; simp), HB9.out⟩
              | true =>
                go_wp2_with fail
                all_goals
                  go_ret
                  refine ⟨ret_bool ?_, HB9.out⟩
                  rw [← HT.out]
                  simp only [Bool.and_true, Bool.true_and]
                  first
                    | (symm; rw [decide_eq_false_iff_not]; omega)
                    | (symm; rw [decide_eq_true_iff]; omega)
                    | (rw [Bool.eq_iff_iff, decide_eq_true_iff, decide_eq_true_iff]; omega)
end Go.Proofs.Ythcppiempcgnkaa.Pv
