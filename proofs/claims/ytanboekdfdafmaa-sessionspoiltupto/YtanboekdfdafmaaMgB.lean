/- Two messages that tell the same: chooseInts, prefixesSame, routeSame, pvSame. Two messages that tell the same: routeSame, pvSame. PvOnly answers true. PvBack answers true. -/
import Derived.Test.YtanboekdfdafmaaPvG
import Derived.Deep.QuietTactic
import Derived.BigQuiet
import Derived.Test.YtanboekdfdafmaaMgA
import Derived.StillTailTactics
namespace Go.Proofs.Ytanboekdfdafmaa.Pv
open Go.ChangeShapes Go.WideShapes Go.ChangeAt Go.RowKit Go.Joins Go.Proofs.Ytanboekdfdafmaa.PM Go.Proofs.Ytanboekdfdafmaa.Ask Go.Proofs.Ytanboekdfdafmaa.Ge
set_option linter.unusedVariables false

theorem dn_bel (w : World) (q : Nat) : Below w.heap.size w (w.drewN q) := ⟨rfl, rfl, rfl, Nat.le_refl _, fun _ _ => rfl⟩
set_option maxRecDepth 100000 in
set_option maxHeartbeats 4000000 in
theorem ints_same (a1 : Option Addr) (c1 : Nat) (a2 : Option Addr) (c2 : Nat) (xs : List Int) (n : Nat) (hn : xs.length = n) (w : World) (h1 : Lst EI w a1 xs) (h2 : Lst EI w a2 xs) :
    Calls Try.prog 40 #[.slice a1 n c1, .slice a2 n c2] w fun e w' => e = .returned (.bool true) ∧ Below w.heap.size w w' := by
  have H1 : Hid (Lst EI w a1 xs) := h1
  have H2 : Hid (Lst EI w a2 xs) := h2
  have HN : Hid (xs.length = n) := hn
  have hsm := h1.small
  rw [hn] at hsm
  clear h1 h2 hn
  go_enter Try.func40, Try.ntmps40
  go_wp2_with fail
  go_loopw [13] (fun iv wr => ∃ i : Nat, i ≤ n ∧ iv = .int .i64 (i : Int) ∧ Below w.heap.size w wr) (fun i _ => n - (intOf i).toNat)
  case atStart => exact ⟨0, by omega, rfl, Below.refl _ _⟩
  case round =>
    obtain ⟨i, hi, rfl, hb⟩ := hrel
    have HB : Hid (Below w.heap.size w wr) := hb
    clear hb
    by_cases hlt : i < n
    · have hil : i < xs.length := by rw [HN.out]; exact hlt
      obtain ⟨b, o, rfl, hbl, c0⟩ := lstI (H1.out.bel HB.out) i hil
      obtain ⟨b', o', rfl, hbl', c0'⟩ := lstI (H2.out.bel HB.out) i hil
      obtain ⟨x, hx⟩ : ∃ x, xs[i] = x := ⟨_, rfl⟩
      rw [hx] at c0 c0'
      have hii : (i : Int) < (n : Int) := by omega
      have ii0 : (0 : Int) ≤ i := by omega
      clear hx
      go_wp2_with fail
      go_quiet (fail)
      have HB2 : Hid (Below w.heap.size w (wr.drewN nq)) := HB.out.trans ((dn_bel wr nq).mono HB.out.size)
      go_wp2_with fail
      exact ⟨⟨i + 1, by omega, by simp, HB2.out⟩, by simp [intOf]; omega⟩
    · obtain rfl : i = n := by omega
      go_wp2_with fail
      go_ret
      exact ⟨rfl, HB.out⟩
set_option maxRecDepth 100000 in
set_option maxHeartbeats 4000000 in
theorem pfxs_same (a1 : Option Addr) (c1 : Nat) (a2 : Option Addr) (c2 : Nat) (xs : List (Int × Int)) (n : Nat) (hn : xs.length = n) (w : World) (h1 : Lst E2 w a1 xs) (h2 : Lst E2 w a2 xs) :
    Calls Try.prog 31 #[.slice a1 n c1, .slice a2 n c2] w fun e w' => e = .returned (.bool true) ∧ Below w.heap.size w w' := by
  have H1 : Hid (Lst E2 w a1 xs) := h1
  have H2 : Hid (Lst E2 w a2 xs) := h2
  have HN : Hid (xs.length = n) := hn
  have hsm := h1.small
  rw [hn] at hsm
  clear h1 h2 hn
  go_enter Try.func31, Try.ntmps31
  go_wp2_with fail
  go_loopw [13] (fun iv wr => ∃ i : Nat, i ≤ n ∧ iv = .int .i64 (i : Int) ∧ Below w.heap.size w wr) (fun i _ => n - (intOf i).toNat)
  case atStart => exact ⟨0, by omega, rfl, Below.refl _ _⟩
  case round =>
    obtain ⟨i, hi, rfl, hb⟩ := hrel
    have HB : Hid (Below w.heap.size w wr) := hb
    clear hb
    by_cases hlt : i < n
    · have hil : i < xs.length := by rw [HN.out]; exact hlt
      obtain ⟨b, o, rfl, hbl, c0, d0⟩ := lst2 (H1.out.bel HB.out) i hil
      obtain ⟨b', o', rfl, hbl', c0', d0'⟩ := lst2 (H2.out.bel HB.out) i hil
      obtain ⟨⟨x, y⟩, hx⟩ : ∃ x, xs[i] = x := ⟨_, rfl⟩
      rw [hx] at c0 c0' d0 d0'
      dsimp only at c0 c0' d0 d0'
      have hii : (i : Int) < (n : Int) := by omega
      have ii0 : (0 : Int) ≤ i := by omega
      clear hx
      go_wp2_with fail
      go_quiet (fail)
      have HB2 : Hid (Below w.heap.size w (wr.drewN nq)) := HB.out.trans ((dn_bel wr nq).mono HB.out.size)
      go_wp2_with fail
      exact ⟨⟨i + 1, by omega, by simp, HB2.out⟩, by simp [intOf]; omega⟩
    · obtain rfl : i = n := by omega
      go_wp2_with fail
      go_ret
      exact ⟨rfl, HB.out⟩
end Go.Proofs.Ytanboekdfdafmaa.Pv
namespace Go.Proofs.Ytanboekdfdafmaa.Pv
open Go.ChangeShapes Go.WideShapes Go.ChangeAt Go.RowKit Go.Joins Go.Proofs.Ytanboekdfdafmaa.PM Go.Proofs.Ytanboekdfdafmaa.Ask Go.Proofs.Ytanboekdfdafmaa.Ge
set_option linter.unusedVariables false

theorem rbx_new {r : Rt} {s : Sl} {w W : World} {k : Nat} (hk : w.heap.size = k) (h : w.alloc (Obj.cells #[.int .u32 r.pa, .int .i64 r.pn, .slice s.p r.path.length s.pc, .int .i64 r.org, .int .i64 r.pref, .int .i64 r.med, .int .u32 r.next, .slice s.m r.marks.length s.mc, .slice s.c r.clus.length s.cc, .int .i64 r.auth] 52) = W) : RBox k r s W ∧ Below w.heap.size w W ∧ W.heap.size = k + 1 := by
  subst hk
  exact rbox_new h
set_option maxRecDepth 100000 in
set_option maxHeartbeats 8000000 in
theorem rsame_any (r : Rt) (s1 s2 : Sl) (w : World) (h1 : ROk w r s1) (h2 : ROk w r s2) :
    Calls Try.prog 32 #[rtV r s1, rtV r s2] w fun e w' => e = .returned (.bool true) ∧ Below w.heap.size w w' := by
  have H1 : Hid (ROk w r s1) := h1
  have H2 : Hid (ROk w r s2) := h2
  obtain ⟨q1, hq1⟩ : ∃ n, r.path.length = n := ⟨_, rfl⟩
  have HQ1 : Hid (r.path.length = q1) := hq1
  obtain ⟨q2, hq2⟩ : ∃ n, r.marks.length = n := ⟨_, rfl⟩
  have HQ2 : Hid (r.marks.length = q2) := hq2
  obtain ⟨q3, hq3⟩ : ∃ n, r.clus.length = n := ⟨_, rfl⟩
  have HQ3 : Hid (r.clus.length = q3) := hq3
  unfold rtV
  rw [hq1, hq2, hq3]
  clear h1 h2 hq1 hq2 hq3
  go_enter Try.func32, Try.ntmps32
  go_upto_region 1 with fail
  obtain ⟨wa, hwa⟩ : ∃ W, w.alloc (Obj.cells #[.int .u32 r.pa, .int .i64 r.pn, .slice s1.p q1 s1.pc, .int .i64 r.org, .int .i64 r.pref, .int .i64 r.med, .int .u32 r.next, .slice s1.m q2 s1.mc, .slice s1.c q3 s1.cc, .int .i64 r.auth] 52) = W := ⟨_, rfl⟩
  obtain ⟨b1, hb1⟩ : ∃ k, w.heap.size = k := ⟨_, rfl⟩
  obtain ⟨hx1, hba, hsa⟩ := rbx_new (r := r) (s := s1) (W := wa) hb1 (by rw [HQ1.out, HQ2.out, HQ3.out]; exact hwa)
  obtain ⟨wb, hwb⟩ : ∃ W, wa.alloc (Obj.cells #[.int .u32 r.pa, .int .i64 r.pn, .slice s2.p q1 s2.pc, .int .i64 r.org, .int .i64 r.pref, .int .i64 r.med, .int .u32 r.next, .slice s2.m q2 s2.mc, .slice s2.c q3 s2.cc, .int .i64 r.auth] 52) = W := ⟨_, rfl⟩
  obtain ⟨b2, hb2⟩ : ∃ k, b1 + 1 = k := ⟨_, rfl⟩
  obtain ⟨hx2, hbb, hsb⟩ := rbx_new (r := r) (s := s2) (w := wa) (W := wb) (k := b2) (by omega) (by rw [HQ1.out, HQ2.out, HQ3.out]; exact hwb)
  rw [hwa, hwb, hb1, hb2]
  have HBW : Hid (Below w.heap.size w wb) := hba.trans (hbb.mono hba.size)
  have HX1 : Hid (∀ W, Below wb.heap.size wb W → RBox b1 r s1 W) := fun W h => (hx1.blk (hbb.block b1 (by omega))).blk (h.block b1 (by omega))
  have HX2 : Hid (∀ W, Below wb.heap.size wb W → RBox b2 r s2 W) := fun W h => hx2.blk (h.block b2 (by omega))
  have HR1 : Hid (∀ W, Below wb.heap.size wb W → ROk W r s1) := fun W h => (H1.out.bel HBW.out).bel h
  have HR2 : Hid (∀ W, Below wb.heap.size wb W → ROk W r s2) := fun W h => (H2.out.bel HBW.out).bel h
  clear hwa hwb hb1 hb2 hx1 hx2 hba hbb hsa hsb H1 H2
  obtain ⟨c0, c1, c2, c3, c4, c5, c6, c7, c8, c9⟩ := HX1.out wb (Below.refl _ _)
  rw [HQ1.out] at c2
  rw [HQ2.out] at c7
  rw [HQ3.out] at c8
  obtain ⟨d0, d1, d2, d3, d4, d5, d6, d7, d8, d9⟩ := HX2.out wb (Below.refl _ _)
  rw [HQ1.out] at d2
  rw [HQ2.out] at d7
  rw [HQ3.out] at d8
  go_wp2_with fail
  refine (ints_same s1.p s1.pc s2.p s2.pc r.path q1 HQ1.out wb (HR1.out _ (Below.refl _ _)).p (HR2.out _ (Below.refl _ _)).p).mono ?_
  rintro e w1 ⟨rfl, hb1⟩
  have HB1 : Hid (Below wb.heap.size wb w1) := hb1
  clear hb1 c0 d0 c1 d1 c2 d2 c3 d3 c4 d4 c5 d5 c6 d6 c7 d7 c8 d8 c9 d9
  obtain ⟨c0, c1, c2, c3, c4, c5, c6, c7, c8, c9⟩ := HX1.out w1 HB1.out
  rw [HQ1.out] at c2
  rw [HQ2.out] at c7
  rw [HQ3.out] at c8
  obtain ⟨d0, d1, d2, d3, d4, d5, d6, d7, d8, d9⟩ := HX2.out w1 HB1.out
  rw [HQ1.out] at d2
  rw [HQ2.out] at d7
  rw [HQ3.out] at d8
  go_wp2_with fail
  refine (ints_same s1.m s1.mc s2.m s2.mc r.marks q2 HQ2.out w1 (HR1.out _ HB1.out).m (HR2.out _ HB1.out).m).mono ?_
  rintro e w2 ⟨rfl, hb2⟩
  have HB2 : Hid (Below wb.heap.size wb w2) := HB1.out.trans (hb2.mono HB1.out.size)
  clear hb2 HB1 c0 d0 c1 d1 c2 d2 c3 d3 c4 d4 c5 d5 c6 d6 c7 d7 c8 d8 c9 d9
  obtain ⟨c0, c1, c2, c3, c4, c5, c6, c7, c8, c9⟩ := HX1.out w2 HB2.out
  rw [HQ1.out] at c2
  rw [HQ2.out] at c7
  rw [HQ3.out] at c8
  obtain ⟨d0, d1, d2, d3, d4, d5, d6, d7, d8, d9⟩ := HX2.out w2 HB2.out
  rw [HQ1.out] at d2
  rw [HQ2.out] at d7
  rw [HQ3.out] at d8
  go_wp2_with fail
  refine (ints_same s1.c s1.cc s2.c s2.cc r.clus q3 HQ3.out w2 (HR1.out _ HB2.out).c (HR2.out _ HB2.out).c).mono ?_
  rintro e w3 ⟨rfl, hb3⟩
  have HB3 : Hid (Below w.heap.size w w3) := HBW.out.trans ((HB2.out.trans (hb3.mono HB2.out.size)).mono HBW.out.size)
  clear hb3 HB2 c0 d0 c1 d1 c2 d2 c3 d3 c4 d4 c5 d5 c6 d6 c7 d7 c8 d8 c9 d9
  go_wp2_with fail
  go_ret
  exact ⟨rfl, HB3.out⟩
theorem mbx2_new {m : Ms} {s : Sl} {w W : World} {k : Nat} (hk : w.heap.size = k) (h : w.alloc (Obj.cells #[.int .i64 m.kind, .int .i64 m.dom, .int .i64 m.id, .int .i64 m.hold, .int .i64 m.code, .slice s.l m.lost.length s.lc, .slice s.h m.hv.length s.hc, .int .u32 m.rt.pa, .int .i64 m.rt.pn, .slice s.p m.rt.path.length s.pc, .int .i64 m.rt.org, .int .i64 m.rt.pref, .int .i64 m.rt.med, .int .u32 m.rt.next, .slice s.m m.rt.marks.length s.mc, .slice s.c m.rt.clus.length s.cc, .int .i64 m.rt.auth] 54) = W) : MBox k m s W ∧ Below w.heap.size w W ∧ W.heap.size = k + 1 := by
  subst hk
  exact mbox_new h
set_option maxRecDepth 100000 in
set_option maxHeartbeats 16000000 in
theorem msame_any (m : Ms) (s1 s2 : Sl) (w : World) (h1 : MOk w m s1) (h2 : MOk w m s2) :
    Calls Try.prog 24 #[msV m s1, msV m s2] w fun e w' => e = .returned (.bool true) ∧ Below w.heap.size w w' := by
  have H1 : Hid (MOk w m s1) := h1
  have H2 : Hid (MOk w m s2) := h2
  obtain ⟨n1, hn1⟩ : ∃ n, m.lost.length = n := ⟨_, rfl⟩
  have HN1 : Hid (m.lost.length = n1) := hn1
  obtain ⟨n2, hn2⟩ : ∃ n, m.hv.length = n := ⟨_, rfl⟩
  have HN2 : Hid (m.hv.length = n2) := hn2
  obtain ⟨q1, hq1⟩ : ∃ n, m.rt.path.length = n := ⟨_, rfl⟩
  have HQ1 : Hid (m.rt.path.length = q1) := hq1
  obtain ⟨q2, hq2⟩ : ∃ n, m.rt.marks.length = n := ⟨_, rfl⟩
  have HQ2 : Hid (m.rt.marks.length = q2) := hq2
  obtain ⟨q3, hq3⟩ : ∃ n, m.rt.clus.length = n := ⟨_, rfl⟩
  have HQ3 : Hid (m.rt.clus.length = q3) := hq3
  have HRV : Hid (∀ s : Sl, rtV m.rt s = .agg #[.int .u32 m.rt.pa, .int .i64 m.rt.pn, .slice s.p q1 s.pc, .int .i64 m.rt.org, .int .i64 m.rt.pref, .int .i64 m.rt.med, .int .u32 m.rt.next, .slice s.m q2 s.mc, .slice s.c q3 s.cc, .int .i64 m.rt.auth]) := fun s => by unfold rtV; rw [hq1, hq2, hq3]
  unfold msV
  rw [hn1, hn2, hq1, hq2, hq3]
  clear h1 h2 hn1 hn2 hq1 hq2 hq3
  go_enter Try.func24, Try.ntmps24
  go_upto_region 1 with fail
  obtain ⟨wa, hwa⟩ : ∃ W, w.alloc (Obj.cells #[.int .i64 m.kind, .int .i64 m.dom, .int .i64 m.id, .int .i64 m.hold, .int .i64 m.code, .slice s1.l n1 s1.lc, .slice s1.h n2 s1.hc, .int .u32 m.rt.pa, .int .i64 m.rt.pn, .slice s1.p q1 s1.pc, .int .i64 m.rt.org, .int .i64 m.rt.pref, .int .i64 m.rt.med, .int .u32 m.rt.next, .slice s1.m q2 s1.mc, .slice s1.c q3 s1.cc, .int .i64 m.rt.auth] 54) = W := ⟨_, rfl⟩
  obtain ⟨b1, hb1⟩ : ∃ k, w.heap.size = k := ⟨_, rfl⟩
  obtain ⟨hx1, hba, hsa⟩ := mbx2_new (m := m) (s := s1) (W := wa) hb1 (by rw [HN1.out, HN2.out, HQ1.out, HQ2.out, HQ3.out]; exact hwa)
  obtain ⟨wb, hwb⟩ : ∃ W, wa.alloc (Obj.cells #[.int .i64 m.kind, .int .i64 m.dom, .int .i64 m.id, .int .i64 m.hold, .int .i64 m.code, .slice s2.l n1 s2.lc, .slice s2.h n2 s2.hc, .int .u32 m.rt.pa, .int .i64 m.rt.pn, .slice s2.p q1 s2.pc, .int .i64 m.rt.org, .int .i64 m.rt.pref, .int .i64 m.rt.med, .int .u32 m.rt.next, .slice s2.m q2 s2.mc, .slice s2.c q3 s2.cc, .int .i64 m.rt.auth] 54) = W := ⟨_, rfl⟩
  obtain ⟨b2, hb2⟩ : ∃ k, b1 + 1 = k := ⟨_, rfl⟩
  obtain ⟨hx2, hbb, hsb⟩ := mbx2_new (m := m) (s := s2) (w := wa) (W := wb) (k := b2) (by omega) (by rw [HN1.out, HN2.out, HQ1.out, HQ2.out, HQ3.out]; exact hwb)
  rw [hwa, hwb, hb1, hb2]
  have HBW : Hid (Below w.heap.size w wb) := hba.trans (hbb.mono hba.size)
  have HX1 : Hid (∀ W, Below wb.heap.size wb W → MBox b1 m s1 W) := fun W h => (hx1.blk (hbb.block b1 (by omega))).blk (h.block b1 (by omega))
  have HX2 : Hid (∀ W, Below wb.heap.size wb W → MBox b2 m s2 W) := fun W h => hx2.blk (h.block b2 (by omega))
  have HR1 : Hid (∀ W, Below wb.heap.size wb W → MOk W m s1) := fun W h => (H1.out.bel HBW.out).bel h
  have HR2 : Hid (∀ W, Below wb.heap.size wb W → MOk W m s2) := fun W h => (H2.out.bel HBW.out).bel h
  clear hwa hwb hb1 hb2 hx1 hx2 hba hbb hsa hsb H1 H2
  obtain ⟨c0, c1, c2, c3, c4, c5, c6, c7, c8, c9, c10, c11, c12, c13, c14, c15, c16⟩ := HX1.out wb (Below.refl _ _)
  rw [HN1.out] at c5
  rw [HN2.out] at c6
  rw [HQ1.out] at c9
  rw [HQ2.out] at c14
  rw [HQ3.out] at c15
  obtain ⟨d0, d1, d2, d3, d4, d5, d6, d7, d8, d9, d10, d11, d12, d13, d14, d15, d16⟩ := HX2.out wb (Below.refl _ _)
  rw [HN1.out] at d5
  rw [HN2.out] at d6
  rw [HQ1.out] at d9
  rw [HQ2.out] at d14
  rw [HQ3.out] at d15
  go_wp2_with fail
  refine (pfxs_same s1.l s1.lc s2.l s2.lc m.lost n1 HN1.out wb (HR1.out _ (Below.refl _ _)).l (HR2.out _ (Below.refl _ _)).l).mono ?_
  rintro e w1 ⟨rfl, hb1⟩
  have HB1 : Hid (Below wb.heap.size wb w1) := hb1
  clear hb1 c0 d0 c1 d1 c2 d2 c3 d3 c4 d4 c5 d5 c6 d6 c7 d7 c8 d8 c9 d9 c10 d10 c11 d11 c12 d12 c13 d13 c14 d14 c15 d15 c16 d16
  obtain ⟨c0, c1, c2, c3, c4, c5, c6, c7, c8, c9, c10, c11, c12, c13, c14, c15, c16⟩ := HX1.out w1 HB1.out
  rw [HN1.out] at c5
  rw [HN2.out] at c6
  rw [HQ1.out] at c9
  rw [HQ2.out] at c14
  rw [HQ3.out] at c15
  obtain ⟨d0, d1, d2, d3, d4, d5, d6, d7, d8, d9, d10, d11, d12, d13, d14, d15, d16⟩ := HX2.out w1 HB1.out
  rw [HN1.out] at d5
  rw [HN2.out] at d6
  rw [HQ1.out] at d9
  rw [HQ2.out] at d14
  rw [HQ3.out] at d15
  go_wp2_with fail
  refine (pfxs_same s1.h s1.hc s2.h s2.hc m.hv n2 HN2.out w1 (HR1.out _ HB1.out).h (HR2.out _ HB1.out).h).mono ?_
  rintro e w2 ⟨rfl, hb2⟩
  have HB2 : Hid (Below wb.heap.size wb w2) := HB1.out.trans (hb2.mono HB1.out.size)
  clear hb2 HB1 c0 d0 c1 d1 c2 d2 c3 d3 c4 d4 c5 d5 c6 d6 c7 d7 c8 d8 c9 d9 c10 d10 c11 d11 c12 d12 c13 d13 c14 d14 c15 d15 c16 d16
  obtain ⟨c0, c1, c2, c3, c4, c5, c6, c7, c8, c9, c10, c11, c12, c13, c14, c15, c16⟩ := HX1.out w2 HB2.out
  rw [HN1.out] at c5
  rw [HN2.out] at c6
  rw [HQ1.out] at c9
  rw [HQ2.out] at c14
  rw [HQ3.out] at c15
  obtain ⟨d0, d1, d2, d3, d4, d5, d6, d7, d8, d9, d10, d11, d12, d13, d14, d15, d16⟩ := HX2.out w2 HB2.out
  rw [HN1.out] at d5
  rw [HN2.out] at d6
  rw [HQ1.out] at d9
  rw [HQ2.out] at d14
  rw [HQ3.out] at d15
  have HRS := rsame_any m.rt s1 s2 w2 (HR1.out _ HB2.out).r (HR2.out _ HB2.out).r
  rw [HRV.out s1, HRV.out s2] at HRS
  go_wp2_with fail
  refine HRS.mono ?_
  rintro e w3 ⟨rfl, hb3⟩
  have HB3 : Hid (Below w.heap.size w w3) := HBW.out.trans ((HB2.out.trans (hb3.mono HB2.out.size)).mono HBW.out.size)
  clear hb3 HB2 HRS c0 d0 c1 d1 c2 d2 c3 d3 c4 d4 c5 d5 c6 d6 c7 d7 c8 d8 c9 d9 c10 d10 c11 d11 c12 d12 c13 d13 c14 d14 c15 d15 c16 d16
  go_wp2_with fail
  go_ret
  exact ⟨rfl, HB3.out⟩
end Go.Proofs.Ytanboekdfdafmaa.Pv
namespace Go.Proofs.Ytanboekdfdafmaa.Pv
open Go.ChangeShapes Go.WideShapes Go.ChangeAt Go.RowKit Go.Joins Go.Proofs.Ytanboekdfdafmaa.PM Go.Proofs.Ytanboekdfdafmaa.Ask Go.Proofs.Ytanboekdfdafmaa.Ge
set_option linter.unusedVariables false
def msA : Ms := ⟨3, 0, 0, 0, 0, [], [], rtZ⟩
theorem msA_ok (N : Nat) (w : World) : MO N w msA sZ := mo_zero _ _ _ rfl rfl rfl
theorem encA : encE msA = 0 := by decide
theorem encAB : (encB msA).length = 9 := by
  unfold encB
  rw [encA, if_pos rfl, frame_len]
  rfl
end Go.Proofs.Ytanboekdfdafmaa.Pv
namespace Go.Proofs.Ytanboekdfdafmaa.Pv
open Go.ChangeShapes Go.WideShapes Go.ChangeAt Go.RowKit Go.Joins Go.Proofs.Ytanboekdfdafmaa.PM Go.Proofs.Ytanboekdfdafmaa.Ask Go.Proofs.Ytanboekdfdafmaa.Ge
set_option linter.unusedVariables false

set_option maxHeartbeats 4000000 in
theorem small_any (m : Ms) (s : Sl) (hb : m.lost.length ≤ 1048576 ∧ m.hv.length ≤ 1048576 ∧ m.rt.path.length ≤ 1048576 ∧ m.rt.marks.length ≤ 1048576 ∧ m.rt.clus.length ≤ 1048576) (t : Bool) (ht : decide (m.lost.length + m.hv.length + m.rt.path.length + m.rt.marks.length + m.rt.clus.length ≤ 20000) = t) (w : World) :
    Calls Try.prog 14 #[msV m s] w fun e w' => e = .returned (.bool t) ∧ Below w.heap.size w w' := by
  obtain ⟨n1, hn1⟩ : ∃ n, m.lost.length = n := ⟨_, rfl⟩
  obtain ⟨n2, hn2⟩ : ∃ n, m.hv.length = n := ⟨_, rfl⟩
  obtain ⟨q1, hq1⟩ : ∃ n, m.rt.path.length = n := ⟨_, rfl⟩
  obtain ⟨q2, hq2⟩ : ∃ n, m.rt.marks.length = n := ⟨_, rfl⟩
  obtain ⟨q3, hq3⟩ : ∃ n, m.rt.clus.length = n := ⟨_, rfl⟩
  rw [hn1, hn2, hq1, hq2, hq3] at hb ht
  unfold msV
  rw [hn1, hn2, hq1, hq2, hq3]
  obtain ⟨b1, b2, b3, b4, b5⟩ := hb
  have HT : Hid (decide (n1 + n2 + q1 + q2 + q3 ≤ 20000) = t) := ht
  clear hn1 hn2 hq1 hq2 hq3 ht
  go_enter Try.func14, Try.ntmps14
  go_wp2_with fail
  go_ret
  refine ⟨ret_bool ?_, (Below.refl _ _).alloc (Nat.le_refl _) _⟩
  rw [← HT.out, Bool.eq_iff_iff, decide_eq_true_iff, decide_eq_true_iff]
  omega
/-- which of n things a raw number speaks of -/
def md (c : Int) (n : Nat) : Nat := (c % (n : Int)).toNat
theorem md_lt {c : Int} {n : Nat} (h : 0 < n) : md c n < n := by
  unfold md
  have h1 := Int.emod_nonneg c (show (n : Int) ≠ 0 by omega)
  have h2 := Int.emod_lt_of_pos c (show (0 : Int) < n by omega)
  omega
theorem md_eq {c : Int} {n : Nat} (h : 0 < n) : (md c n : Int) = if c.tmod n < 0 then c.tmod n + n else c.tmod n := by
  unfold md
  rw [Int.toNat_of_nonneg (Int.emod_nonneg c (by omega))]
  have e := Int.emod_eq_tmod (a := c) (b := (n : Int))
  split at e
  · rename_i hc
    have h1 : 0 ≤ c.tmod n := by
      rcases hc with hc | hc
      · exact Int.tmod_nonneg _ hc
      · rw [Int.tmod_eq_zero_of_dvd hc]; exact Int.le_refl _
    rw [e, if_neg (by omega)]
    omega
  · rename_i hc
    have h1 : c.tmod n < 0 := by
      have h2 : ¬ 0 ≤ c := fun h => hc (.inl h)
      have h3 : c.tmod n ≠ 0 := fun h => hc (.inr (Int.dvd_of_tmod_eq_zero h))
      have h4 : c.tmod n ≤ 0 := by
        have e5 := Int.neg_tmod (-c) (n : Int)
        rw [Int.neg_neg] at e5
        have h6 := Int.tmod_nonneg (n : Int) (show 0 ≤ -c by omega)
        omega
      omega
    rw [e, if_pos h1]
    simp
set_option maxHeartbeats 4000000 in
theorem mod_any (c : Int) (hc : -9223372036854775808 ≤ c ∧ c < 9223372036854775808) (n : Nat) (h : 0 < n) (h2 : n ≤ 1048576) (k : Nat) (hk : md c n = k) (w : World) :
    Calls Try.prog 8 #[.int .i64 c, .int .i64 (n : Int)] w fun e w' => e = .returned (.int .i64 (k : Int)) ∧ w' = w := by
  have HK : Hid ((k : Int) = if c.tmod n < 0 then c.tmod n + n else c.tmod n) := by show _ = _; rw [← hk]; exact md_eq h
  have hlt : k < n := by rw [← hk]; exact md_lt h
  obtain ⟨t, ht⟩ : ∃ t, c.tmod n = t := ⟨_, rfl⟩
  rw [ht] at HK
  have hn0 : ¬ (n : Int) = 0 := by omega
  have htr : -(n : Int) < t ∧ t < n := by
    rw [← ht]
    have h5 := Int.lt_tmod_of_pos c (show (0 : Int) < n by omega)
    have h6 := Int.tmod_lt_of_pos c (show (0 : Int) < n by omega)
    exact ⟨h5, h6⟩
  by_cases hneg : t < 0
  · have HK2 : Hid ((k : Int) = t + n) := by have := HK.out; rw [if_pos hneg] at this; exact this
    clear HK hk
    go_enter Try.func8, Try.ntmps8
    go_wp2_with fail
    go_ret
    exact ⟨ret_i64 HK2.out.symm, rfl⟩
  · have HK2 : Hid ((k : Int) = t) := by have := HK.out; rw [if_neg hneg] at this; exact this
    clear HK hk
    go_enter Try.func8, Try.ntmps8
    go_wp2_with fail
    go_ret
    exact ⟨ret_i64 HK2.out.symm, rfl⟩
theorem mbox_run {o : Oper} (x : Operand) (ho : o.op = .box 54 x) {ρ : Operand → Value} {m : Ms} {s : Sl} {W : World} (hx : ρ x = msV m s) : (execOp ρ o).run Try.prog W = .ok (.value (.pointer (some ⟨W.heap.size, 0, none⟩))) (W.alloc (Obj.cells (msL m s).toArray 54)) := by
  unfold msV at hx
  unfold execOp
  rw [ho]
  simp [go_sem, hx, msL]
/-- a message is boxed -/
theorem list_mbox {ops : Array Oper} {rest : List Oper} {o : Oper} {ac : Act} {Q : Exit → Act → World → Prop} {W : World} (hgd : o.guard = none) (x : Operand) (ho : o.op = .box 54 x) {m : Ms} {s : Sl} (hx : ac.eval x = msV m s)
    (k : ∀ W', Hid (MB W.heap.size m s W') → Hid (Below W.heap.size W W') → wpList Try.prog ops Q rest (ac.put o.dst (.pointer (some ⟨W.heap.size, 0, none⟩))) W') : wpList Try.prog ops Q (o :: rest) ac W := by
  refine wpList_plain hgd fun K hK => ?_
  unfold Oper.wp
  rw [mbox_run x ho hx]
  exact hK _ _ (k _ (World.alloc_heap_new W _) ((Below.refl _ W).alloc (Nat.le_refl _) _))
/-- a message is loaded, where the guard lets it -/
theorem list_mloadg {ops : Array Oper} {rest : List Oper} {o : Oper} {ac : Act} {Q : Exit → Act → World → Prop} {W : World} (hw : Region.wanted o (yielded ops ac.tmps) = true) (x : Operand) (ho : o.op = .load 54 x) {b : Nat} {m : Ms} {s : Sl} (hx : ac.eval x = .pointer (some ⟨b, 0, none⟩)) (h : MB b m s W)
    (k : wpList Try.prog ops Q rest (ac.put o.dst (msV m s)) W) : wpList Try.prog ops Q (o :: rest) ac W := by
  unfold wpList
  rw [if_pos hw]
  left
  unfold Oper.wp
  rw [mload_run x ho hx h]
  exact k
theorem bits_xor8 (a b : Nat) (ha : a < 256) (hb : b < 256) : bits .xor .u8 (a : Int) (b : Int) = ((a ^^^ b : Nat) : Int) ∧ a ^^^ b < 256 := by
  have ha' : a % 2 ^ IntKind.u8.bits = a := Nat.mod_eq_of_lt ha
  have hb' : b % 2 ^ IntKind.u8.bits = b := Nat.mod_eq_of_lt hb
  have h : a ^^^ b < 256 := Nat.xor_lt_two_pow (n := 8) ha hb
  refine ⟨?_, h⟩
  simp only [bits, BitVec.ofInt_natCast, BitVec.toNat_xor, BitVec.toNat_ofNat, ha', hb']
  rw [IntKind.wrap_u8]
  omega
end Go.Proofs.Ytanboekdfdafmaa.Pv
