/- Two messages that tell the same: routeSame, pvSame. -/
import Derived.Test.YtghlgkpfcpcopaaPwR
namespace Go.Proofs.Ytghlgkpfcpcopaa.Pv
open Go.ChangeShapes Go.WideShapes Go.ChangeAt Go.RowKit Go.Joins Go.Proofs.Ytghlgkpfcpcopaa.PM Go.Proofs.Ytghlgkpfcpcopaa.Ask Go.Proofs.Ytghlgkpfcpcopaa.Ge
set_option linter.unusedVariables false

theorem rbx_new {r : Rt} {s : Sl} {w W : World} {k : Nat} (hk : w.heap.size = k) (h : w.alloc (Obj.cells #[.int .u32 r.pa, .int .i64 r.pn, .slice s.p r.path.length s.pc, .int .i64 r.org, .int .i64 r.pref, .int .i64 r.med, .int .u32 r.next, .slice s.m r.marks.length s.mc, .slice s.c r.clus.length s.cc, .int .i64 r.auth] 29) = W) : RBox k r s W ∧ Below w.heap.size w W ∧ W.heap.size = k + 1 := by
  subst hk
  exact rbox_new h
set_option maxRecDepth 100000 in
set_option maxHeartbeats 8000000 in
theorem rsame_any (r : Rt) (s1 s2 : Sl) (w : World) (h1 : ROk w r s1) (h2 : ROk w r s2) :
    Calls Try.prog 30 #[rtV r s1, rtV r s2] w fun e w' => e = .returned (.bool true) ∧ Below w.heap.size w w' := by
  have H1 : Hid (ROk w r s1) := h1
  have H2 : Hid (ROk w r s2) := h2
  obtain ⟨q1, hq1⟩ : ∃ n, r.path.length = n := ⟨_, rfl⟩
  have HQ1 : Hid (r.path.length = q1) := hq1
  obtain ⟨q2, hq2⟩ : ∃ n, r.marks.length = n := ⟨_, rfl⟩
  have HQ2 : Hid (r.marks.length = q2) := hq2
  obtain ⟨q3, hq3⟩ : ∃ n, r.clus.length = n := ⟨_, rfl⟩
  have HQ3 : Hid (r.clus.length = q3) := hq3
  unfold rtV
  rw [hq1, hq2, hq3]
  clear h1 h2 hq1 hq2 hq3
  go_enter Try.func30, Try.ntmps30
  go_upto_region 1 with fail
  obtain ⟨wa, hwa⟩ : ∃ W, w.alloc (Obj.cells #[.int .u32 r.pa, .int .i64 r.pn, .slice s1.p q1 s1.pc, .int .i64 r.org, .int .i64 r.pref, .int .i64 r.med, .int .u32 r.next, .slice s1.m q2 s1.mc, .slice s1.c q3 s1.cc, .int .i64 r.auth] 29) = W := ⟨_, rfl⟩
  obtain ⟨b1, hb1⟩ : ∃ k, w.heap.size = k := ⟨_, rfl⟩
  obtain ⟨hx1, hba, hsa⟩ := rbx_new (r := r) (s := s1) (W := wa) hb1 (by rw [HQ1.out, HQ2.out, HQ3.out]; exact hwa)
  obtain ⟨wb, hwb⟩ : ∃ W, wa.alloc (Obj.cells #[.int .u32 r.pa, .int .i64 r.pn, .slice s2.p q1 s2.pc, .int .i64 r.org, .int .i64 r.pref, .int .i64 r.med, .int .u32 r.next, .slice s2.m q2 s2.mc, .slice s2.c q3 s2.cc, .int .i64 r.auth] 29) = W := ⟨_, rfl⟩
  obtain ⟨b2, hb2⟩ : ∃ k, b1 + 1 = k := ⟨_, rfl⟩
  obtain ⟨hx2, hbb, hsb⟩ := rbx_new (r := r) (s := s2) (w := wa) (W := wb) (k := b2) (by omega) (by rw [HQ1.out, HQ2.out, HQ3.out]; exact hwb)
  rw [hwa, hwb, hb1, hb2]
  have HBW : Hid (Below w.heap.size w wb) := hba.trans (hbb.mono hba.size)
  have HX1 : Hid (∀ W, Below wb.heap.size wb W → RBox b1 r s1 W) := fun W h => (hx1.blk (hbb.block b1 (by omega))).blk (h.block b1 (by omega))
  have HX2 : Hid (∀ W, Below wb.heap.size wb W → RBox b2 r s2 W) := fun W h => hx2.blk (h.block b2 (by omega))
  have HR1 : Hid (∀ W, Below wb.heap.size wb W → ROk W r s1) := fun W h => (H1.out.bel HBW.out).bel h
  have HR2 : Hid (∀ W, Below wb.heap.size wb W → ROk W r s2) := fun W h => (H2.out.bel HBW.out).bel h
  clear hwa hwb hb1 hb2 hx1 hx2 hba hbb hsa hsb H1 H2
  obtain ⟨c0, c1, c2, c3, c4, c5, c6, c7, c8, c9⟩ := HX1.out wb (Below.refl _ _)
  rw [HQ1.out] at c2
  rw [HQ2.out] at c7
  rw [HQ3.out] at c8
  obtain ⟨d0, d1, d2, d3, d4, d5, d6, d7, d8, d9⟩ := HX2.out wb (Below.refl _ _)
  rw [HQ1.out] at d2
  rw [HQ2.out] at d7
  rw [HQ3.out] at d8
  go_wp2_with fail
  refine (ints_same s1.p s1.pc s2.p s2.pc r.path q1 HQ1.out wb (HR1.out _ (Below.refl _ _)).p (HR2.out _ (Below.refl _ _)).p).mono ?_
  rintro e w1 ⟨rfl, hb1⟩
  have HB1 : Hid (Below wb.heap.size wb w1) := hb1
  clear hb1 c0 d0 c1 d1 c2 d2 c3 d3 c4 d4 c5 d5 c6 d6 c7 d7 c8 d8 c9 d9
  obtain ⟨c0, c1, c2, c3, c4, c5, c6, c7, c8, c9⟩ := HX1.out w1 HB1.out
  rw [HQ1.out] at c2
  rw [HQ2.out] at c7
  rw [HQ3.out] at c8
  obtain ⟨d0, d1, d2, d3, d4, d5, d6, d7, d8, d9⟩ := HX2.out w1 HB1.out
  rw [HQ1.out] at d2
  rw [HQ2.out] at d7
  rw [HQ3.out] at d8
  go_wp2_with fail
  refine (ints_same s1.m s1.mc s2.m s2.mc r.marks q2 HQ2.out w1 (HR1.out _ HB1.out).m (HR2.out _ HB1.out).m).mono ?_
  rintro e w2 ⟨rfl, hb2⟩
  have HB2 : Hid (Below wb.heap.size wb w2) := HB1.out.trans (hb2.mono HB1.out.size)
  clear hb2 HB1 c0 d0 c1 d1 c2 d2 c3 d3 c4 d4 c5 d5 c6 d6 c7 d7 c8 d8 c9 d9
  obtain ⟨c0, c1, c2, c3, c4, c5, c6, c7, c8, c9⟩ := HX1.out w2 HB2.out
  rw [HQ1.out] at c2
  rw [HQ2.out] at c7
  rw [HQ3.out] at c8
  obtain ⟨d0, d1, d2, d3, d4, d5, d6, d7, d8, d9⟩ := HX2.out w2 HB2.out
  rw [HQ1.out] at d2
  rw [HQ2.out] at d7
  rw [HQ3.out] at d8
  go_wp2_with fail
  refine (ints_same s1.c s1.cc s2.c s2.cc r.clus q3 HQ3.out w2 (HR1.out _ HB2.out).c (HR2.out _ HB2.out).c).mono ?_
  rintro e w3 ⟨rfl, hb3⟩
  have HB3 : Hid (Below w.heap.size w w3) := HBW.out.trans ((HB2.out.trans (hb3.mono HB2.out.size)).mono HBW.out.size)
  clear hb3 HB2 c0 d0 c1 d1 c2 d2 c3 d3 c4 d4 c5 d5 c6 d6 c7 d7 c8 d8 c9 d9
  go_wp2_with fail
  go_ret
  exact ⟨rfl, HB3.out⟩
theorem mbx2_new {m : Ms} {s : Sl} {w W : World} {k : Nat} (hk : w.heap.size = k) (h : w.alloc (Obj.cells #[.int .i64 m.kind, .int .i64 m.dom, .int .i64 m.id, .int .i64 m.hold, .int .i64 m.code, .slice s.l m.lost.length s.lc, .slice s.h m.hv.length s.hc, .int .u32 m.rt.pa, .int .i64 m.rt.pn, .slice s.p m.rt.path.length s.pc, .int .i64 m.rt.org, .int .i64 m.rt.pref, .int .i64 m.rt.med, .int .u32 m.rt.next, .slice s.m m.rt.marks.length s.mc, .slice s.c m.rt.clus.length s.cc, .int .i64 m.rt.auth] 31) = W) : MBox k m s W ∧ Below w.heap.size w W ∧ W.heap.size = k + 1 := by
  subst hk
  exact mbox_new h
set_option maxRecDepth 100000 in
set_option maxHeartbeats 16000000 in
theorem msame_any (m : Ms) (s1 s2 : Sl) (w : World) (h1 : MOk w m s1) (h2 : MOk w m s2) :
    Calls Try.prog 9 #[msV m s1, msV m s2] w fun e w' => e = .returned (.bool true) ∧ Below w.heap.size w w' := by
  have H1 : Hid (MOk w m s1) := h1
  have H2 : Hid (MOk w m s2) := h2
  obtain ⟨n1, hn1⟩ : ∃ n, m.lost.length = n := ⟨_, rfl⟩
  have HN1 : Hid (m.lost.length = n1) := hn1
  obtain ⟨n2, hn2⟩ : ∃ n, m.hv.length = n := ⟨_, rfl⟩
  have HN2 : Hid (m.hv.length = n2) := hn2
  obtain ⟨q1, hq1⟩ : ∃ n, m.rt.path.length = n := ⟨_, rfl⟩
  have HQ1 : Hid (m.rt.path.length = q1) := hq1
  obtain ⟨q2, hq2⟩ : ∃ n, m.rt.marks.length = n := ⟨_, rfl⟩
  have HQ2 : Hid (m.rt.marks.length = q2) := hq2
  obtain ⟨q3, hq3⟩ : ∃ n, m.rt.clus.length = n := ⟨_, rfl⟩
  have HQ3 : Hid (m.rt.clus.length = q3) := hq3
  have HRV : Hid (∀ s : Sl, rtV m.rt s = .agg #[.int .u32 m.rt.pa, .int .i64 m.rt.pn, .slice s.p q1 s.pc, .int .i64 m.rt.org, .int .i64 m.rt.pref, .int .i64 m.rt.med, .int .u32 m.rt.next, .slice s.m q2 s.mc, .slice s.c q3 s.cc, .int .i64 m.rt.auth]) := fun s => by unfold rtV; rw [hq1, hq2, hq3]
  unfold msV
  rw [hn1, hn2, hq1, hq2, hq3]
  clear h1 h2 hn1 hn2 hq1 hq2 hq3
  go_enter Try.func9, Try.ntmps9
  go_upto_region 1 with fail
  obtain ⟨wa, hwa⟩ : ∃ W, w.alloc (Obj.cells #[.int .i64 m.kind, .int .i64 m.dom, .int .i64 m.id, .int .i64 m.hold, .int .i64 m.code, .slice s1.l n1 s1.lc, .slice s1.h n2 s1.hc, .int .u32 m.rt.pa, .int .i64 m.rt.pn, .slice s1.p q1 s1.pc, .int .i64 m.rt.org, .int .i64 m.rt.pref, .int .i64 m.rt.med, .int .u32 m.rt.next, .slice s1.m q2 s1.mc, .slice s1.c q3 s1.cc, .int .i64 m.rt.auth] 31) = W := ⟨_, rfl⟩
  obtain ⟨b1, hb1⟩ : ∃ k, w.heap.size = k := ⟨_, rfl⟩
  obtain ⟨hx1, hba, hsa⟩ := mbx2_new (m := m) (s := s1) (W := wa) hb1 (by rw [HN1.out, HN2.out, HQ1.out, HQ2.out, HQ3.out]; exact hwa)
  obtain ⟨wb, hwb⟩ : ∃ W, wa.alloc (Obj.cells #[.int .i64 m.kind, .int .i64 m.dom, .int .i64 m.id, .int .i64 m.hold, .int .i64 m.code, .slice s2.l n1 s2.lc, .slice s2.h n2 s2.hc, .int .u32 m.rt.pa, .int .i64 m.rt.pn, .slice s2.p q1 s2.pc, .int .i64 m.rt.org, .int .i64 m.rt.pref, .int .i64 m.rt.med, .int .u32 m.rt.next, .slice s2.m q2 s2.mc, .slice s2.c q3 s2.cc, .int .i64 m.rt.auth] 31) = W := ⟨_, rfl⟩
  obtain ⟨b2, hb2⟩ : ∃ k, b1 + 1 = k := ⟨_, rfl⟩
  obtain ⟨hx2, hbb, hsb⟩ := mbx2_new (m := m) (s := s2) (w := wa) (W := wb) (k := b2) (by omega) (by rw [HN1.out, HN2.out, HQ1.out, HQ2.out, HQ3.out]; exact hwb)
  rw [hwa, hwb, hb1, hb2]
  have HBW : Hid (Below w.heap.size w wb) := hba.trans (hbb.mono hba.size)
  have HX1 : Hid (∀ W, Below wb.heap.size wb W → MBox b1 m s1 W) := fun W h => (hx1.blk (hbb.block b1 (by omega))).blk (h.block b1 (by omega))
  have HX2 : Hid (∀ W, Below wb.heap.size wb W → MBox b2 m s2 W) := fun W h => hx2.blk (h.block b2 (by omega))
  have HR1 : Hid (∀ W, Below wb.heap.size wb W → MOk W m s1) := fun W h => (H1.out.bel HBW.out).bel h
  have HR2 : Hid (∀ W, Below wb.heap.size wb W → MOk W m s2) := fun W h => (H2.out.bel HBW.out).bel h
  clear hwa hwb hb1 hb2 hx1 hx2 hba hbb hsa hsb H1 H2
  obtain ⟨c0, c1, c2, c3, c4, c5, c6, c7, c8, c9, c10, c11, c12, c13, c14, c15, c16⟩ := HX1.out wb (Below.refl _ _)
  rw [HN1.out] at c5
  rw [HN2.out] at c6
  rw [HQ1.out] at c9
  rw [HQ2.out] at c14
  rw [HQ3.out] at c15
  obtain ⟨d0, d1, d2, d3, d4, d5, d6, d7, d8, d9, d10, d11, d12, d13, d14, d15, d16⟩ := HX2.out wb (Below.refl _ _)
  rw [HN1.out] at d5
  rw [HN2.out] at d6
  rw [HQ1.out] at d9
  rw [HQ2.out] at d14
  rw [HQ3.out] at d15
  go_wp2_with fail
  refine (pfxs_same s1.l s1.lc s2.l s2.lc m.lost n1 HN1.out wb (HR1.out _ (Below.refl _ _)).l (HR2.out _ (Below.refl _ _)).l).mono ?_
  rintro e w1 ⟨rfl, hb1⟩
  have HB1 : Hid (Below wb.heap.size wb w1) := hb1
  clear hb1 c0 d0 c1 d1 c2 d2 c3 d3 c4 d4 c5 d5 c6 d6 c7 d7 c8 d8 c9 d9 c10 d10 c11 d11 c12 d12 c13 d13 c14 d14 c15 d15 c16 d16
  obtain ⟨c0, c1, c2, c3, c4, c5, c6, c7, c8, c9, c10, c11, c12, c13, c14, c15, c16⟩ := HX1.out w1 HB1.out
  rw [HN1.out] at c5
  rw [HN2.out] at c6
  rw [HQ1.out] at c9
  rw [HQ2.out] at c14
  rw [HQ3.out] at c15
  obtain ⟨d0, d1, d2, d3, d4, d5, d6, d7, d8, d9, d10, d11, d12, d13, d14, d15, d16⟩ := HX2.out w1 HB1.out
  rw [HN1.out] at d5
  rw [HN2.out] at d6
  rw [HQ1.out] at d9
  rw [HQ2.out] at d14
  rw [HQ3.out] at d15
  go_wp2_with fail
  refine (pfxs_same s1.h s1.hc s2.h s2.hc m.hv n2 HN2.out w1 (HR1.out _ HB1.out).h (HR2.out _ HB1.out).h).mono ?_
  rintro e w2 ⟨rfl, hb2⟩
  have HB2 : Hid (Below wb.heap.size wb w2) := HB1.out.trans (hb2.mono HB1.out.size)
  clear hb2 HB1 c0 d0 c1 d1 c2 d2 c3 d3 c4 d4 c5 d5 c6 d6 c7 d7 c8 d8 c9 d9 c10 d10 c11 d11 c12 d12 c13 d13 c14 d14 c15 d15 c16 d16
  obtain ⟨c0, c1, c2, c3, c4, c5, c6, c7, c8, c9, c10, c11, c12, c13, c14, c15, c16⟩ := HX1.out w2 HB2.out
  rw [HN1.out] at c5
  rw [HN2.out] at c6
  rw [HQ1.out] at c9
  rw [HQ2.out] at c14
  rw [HQ3.out] at c15
  obtain ⟨d0, d1, d2, d3, d4, d5, d6, d7, d8, d9, d10, d11, d12, d13, d14, d15, d16⟩ := HX2.out w2 HB2.out
  rw [HN1.out] at d5
  rw [HN2.out] at d6
  rw [HQ1.out] at d9
  rw [HQ2.out] at d14
  rw [HQ3.out] at d15
  have HRS := rsame_any m.rt s1 s2 w2 (HR1.out _ HB2.out).r (HR2.out _ HB2.out).r
  rw [HRV.out s1, HRV.out s2] at HRS
  go_wp2_with fail
  refine HRS.mono ?_
  rintro e w3 ⟨rfl, hb3⟩
  have HB3 : Hid (Below w.heap.size w w3) := HBW.out.trans ((HB2.out.trans (hb3.mono HB2.out.size)).mono HBW.out.size)
  clear hb3 HB2 HRS c0 d0 c1 d1 c2 d2 c3 d3 c4 d4 c5 d5 c6 d6 c7 d7 c8 d8 c9 d9 c10 d10 c11 d11 c12 d12 c13 d13 c14 d14 c15 d15 c16 d16
  go_wp2_with fail
  go_ret
  exact ⟨rfl, HB3.out⟩
end Go.Proofs.Ytghlgkpfcpcopaa.Pv
