/- SessionLives: the law. -/
import Derived.Test.YtanboekdfdafmaaMgP
namespace Go.Proofs.Ytanboekdfdafmaa.Pv
open Go.ChangeShapes Go.WideShapes Go.ChangeAt Go.RowKit Go.Joins Go.Deep Go.Proofs.Ytanboekdfdafmaa.PM Go.Proofs.Ytanboekdfdafmaa.Ask Go.Proofs.Ytanboekdfdafmaa.Ge
set_option linter.unusedVariables false
set_option linter.unusedSimpArgs false
/-- within the loop -/
structure LI (N : Nat) (w9 : World) (bt : Nat) (c9 : Cp) (d0 i0 h0 d1 i1 h1 : Int) (j : Nat) (wr : World) (t : Tl) (c : Cp) (k a0 e0 a1 e1 : Int) : Prop where
  ti : TI N wr bt t c
  b : c.b = c9.b
  kl : Kl w9 wr bt c9 c
  v : vw t = v4 d0 i0 h0 d1 i1 h1 k a0 e0 a1 e1
  iv : Iv (min h0 h1) k a0 e0 a1 e1
  k0 : 0 ≤ k ∧ k ≤ 1000 * (j : Int)
set_option maxRecDepth 100000 in
set_option maxHeartbeats 16000000 in
theorem slives_any (D0 D1 I0 I1 H0 H1 : Int) (vc : Option Addr) (nc cc : Nat) (ws : List Int) (w : World) (hd0 : -9223372036854775808 ≤ D0 ∧ D0 < 9223372036854775808) (hd1 : -9223372036854775808 ≤ D1 ∧ D1 < 9223372036854775808) (hi0 : -9223372036854775808 ≤ I0 ∧ I0 < 9223372036854775808) (hi1 : -9223372036854775808 ≤ I1 ∧ I1 < 9223372036854775808) (hh0 : -9223372036854775808 ≤ H0 ∧ H0 < 9223372036854775808) (hh1 : -9223372036854775808 ≤ H1 ∧ H1 < 9223372036854775808) (hcn : ws.length = nc) (hcl : Lst EI w vc ws) (hci : ∀ c ∈ ws, -9223372036854775808 ≤ c ∧ c < 9223372036854775808) (hnc : nc ≤ 9223372036854775807) :
    Calls Try.prog 4 #[.agg #[.int .i64 D0, .int .i64 D1], .agg #[.int .i64 I0, .int .i64 I1], .agg #[.int .i64 H0, .int .i64 H1], .slice vc nc cc] w fun e w' => e = .returned (.bool true) ∧ Below w.heap.size w w' := by
  obtain ⟨d0, i0, h0, d1, i1, h1, hcg, hhs, hr0, hr1, hl0, hl1⟩ := cfg_ok D0 D1 I0 I1 H0 H1
  have HCG : Hid (∀ W, Calls Try.prog 6 #[.agg #[.int .i64 D0, .int .i64 D1], .agg #[.int .i64 I0, .int .i64 I1], .agg #[.int .i64 H0, .int .i64 H1]] W fun e w' => e = .returned (.agg [Value.int .i64 d0, .int .i64 i0, .int .i64 h0, .int .i64 d1, .int .i64 d1, .int .i64 i1, .int .i64 h1, .int .i64 d0].toArray) ∧ Below W.heap.size W w') := fun W => cfgs_any D0 D1 I0 I1 H0 H1 W hd0 hd1 hi0 hi1 hh0 hh1 _ hcg
  have HHS : Hid (Hs d0 i0 h0 d1 i1 h1) := hhs
  have HR0 : Hid (Rc d0 i0 h0 d1) := hr0
  have HR1 : Hid (Rc d1 i1 h1 d0) := hr1
  have HLS : Hid (Lst EI w vc ws) := hcl
  have HCN : Hid (ws.length = nc) := hcn
  have HCI : Hid (∀ c ∈ ws, -9223372036854775808 ≤ c ∧ c < 9223372036854775808) := hci
  clear hd0 hd1 hi0 hi1 hh0 hh1 hcg hhs hr0 hr1 hcl hcn hci
  go_enter Try.func4, Try.ntmps4
  go_wp2_with (refine list_sbox ArK rfl _ rfl (cs := [.int .i64 D0, .int .i64 D1]) rfl ?_)
  intro w3 hx3 hb3 hz3
  clear hz3
  obtain ⟨b3, hb3e⟩ : ∃ y, w.heap.size = y := ⟨_, rfl⟩
  rw [hb3e]
  go_wp2_with (refine list_sbox ArK rfl _ rfl (cs := [.int .i64 I0, .int .i64 I1]) rfl ?_)
  intro w4 hx4 hb4 hz4
  clear hz4
  obtain ⟨b4, hb4e⟩ : ∃ y, w3.heap.size = y := ⟨_, rfl⟩
  rw [hb4e]
  go_wp2_with (refine list_sbox ArK rfl _ rfl (cs := [.int .i64 H0, .int .i64 H1]) rfl ?_)
  intro w5 hx5 hb5 hz5
  clear hz5
  obtain ⟨b5, hb5e⟩ : ∃ y, w4.heap.size = y := ⟨_, rfl⟩
  rw [hb5e]
  have HBE5 : Hid (Below w.heap.size w w5) := by
    have q1 := hb3.out
    have q2 := q1.trans (hb4.out.mono q1.size)
    exact q2.trans (hb5.out.mono q2.size)
  have HX3 : Hid (SB ArK b3 [.int .i64 D0, .int .i64 D1] w5) := by
    have h := hx3.out
    rw [hb3e] at h
    have h2 := h.blk (hb4.out.block _ h.lt)
    exact h2.blk (hb5.out.block _ h2.lt)
  have HX4 : Hid (SB ArK b4 [.int .i64 I0, .int .i64 I1] w5) := by
    have h := hx4.out
    rw [hb4e] at h
    exact h.blk (hb5.out.block _ h.lt)
  have HX5 : Hid (SB ArK b5 [.int .i64 H0, .int .i64 H1] w5) := by
    have h := hx5.out
    rw [hb5e] at h
    exact h
  clear hx3 hb3 hb3e hx4 hb4 hb4e hx5 hb5 hb5e
  by_cases hbig : 100 < nc
  · have hbi : (100 : Int) < (nc : Int) := by omega
    go_wp2_with fail
    go_ret
    exact ⟨rfl, HBE5.out⟩
  · have hbi : ¬ (100 : Int) < (nc : Int) := by omega
    go_wp2_with (first | (refine list_sload ArK rfl _ rfl (b := b3) (cs := [.int .i64 D0, .int .i64 D1]) rfl HX3.out rfl ?_) | (refine list_sload ArK rfl _ rfl (b := b4) (cs := [.int .i64 I0, .int .i64 I1]) rfl HX4.out rfl ?_) | (refine list_sload ArK rfl _ rfl (b := b5) (cs := [.int .i64 H0, .int .i64 H1]) rfl HX5.out rfl ?_))
    refine (HCG.out w5).mono ?_
    rintro e w6 ⟨rfl, hb6⟩
    have HBE6 : Hid (Below w.heap.size w w6) := HBE5.out.trans (hb6.mono HBE5.out.size)
    clear hb6 HX3 HX4 HX5
    go_wp2_with (refine list_cnew rfl rfl ?_)
    intro bc w7 hbc hx7 hb7
    go_wp2_with (refine list_sstore CgK rfl _ _ rfl (b := bc) (cs := c8z) (cs' := [.int .i64 d0, .int .i64 i0, .int .i64 h0, .int .i64 d1, .int .i64 d1, .int .i64 i1, .int .i64 h1, .int .i64 d0]) rfl rfl hx7.out rfl rfl rfl ?_)
    intro w8 hx8 hk8
    have HX8 : Hid (SB CgK bc [.int .i64 d0, .int .i64 i0, .int .i64 h0, .int .i64 d1, .int .i64 d1, .int .i64 i1, .int .i64 h1, .int .i64 d0] w8) := hx8.out
    have HBC : Hid (w.heap.size ≤ bc) := by show _ ≤ _; have := hbc.out; have := HBE6.out.size; omega
    have HBE8 : Hid (Below w.heap.size w w8) := (HBE6.out.trans (hb7.out.mono HBE6.out.size)).trans (hk8.out.below HBC.out)
    clear hbc hx7 hb7 hx8 hk8
    have HTN := tnew_any d0 i0 h0 d1 d1 i1 h1 d0 w8 HR0.out HR1.out
    go_wp2_with (refine list_sload CgK rfl _ rfl (b := bc) (cs := [.int .i64 d0, .int .i64 i0, .int .i64 h0, .int .i64 d1, .int .i64 d1, .int .i64 i1, .int .i64 h1, .int .i64 d0]) rfl HX8.out rfl ?_)
    refine HTN.mono ?_
    rintro e w9 ⟨bt, b0, b1, rfl, hti, hb9, hlo⟩
    have HTI : Hid (TI w8.heap.size w9 bt (newT (newS d0 i0 h0 d1) (newS d1 i1 h1 d0)) (newC b0 b1)) := hti
    have HBE9 : Hid (Below w.heap.size w w9) := HBE8.out.trans (hb9.mono HBE8.out.size)
    have HX9 : Hid (SB CgK bc [.int .i64 d0, .int .i64 i0, .int .i64 h0, .int .i64 d1, .int .i64 d1, .int .i64 i1, .int .i64 h1, .int .i64 d0] w9) := HX8.out.blk (hb9.block bc HX8.out.lt)
    have HLO : Hid (∀ g, (newC b0 b1).A bt g → w8.heap.size ≤ g) := hlo
    have hb9z := hb9.size
    have HBCL : Hid (bc < w8.heap.size) := HX8.out.lt
    have c0 : w9.cell? ⟨bt, 0, none⟩ = some (.pointer (some ⟨b0, 0, none⟩)) := hti.box.cell 0
    clear HTN hti hb9 hlo
    have HNS : Hid (w8.heap.size ≤ w9.heap.size) := hb9z
    obtain ⟨t0, ht0⟩ : ∃ y, newT (newS d0 i0 h0 d1) (newS d1 i1 h1 d0) = y := ⟨_, rfl⟩
    have HT0 : Hid (newT (newS d0 i0 h0 d1) (newS d1 i1 h1 d0) = t0) := ht0
    rw [ht0] at HTI
    have HV1 : Hid (vw (startT t0 0 0) = ⟨opS d0 i0 h0 d1, newS d1 i1 h1 d0, [], encB (opn (newS d0 i0 h0 d1)), 0, 0, [], [], [], [], 0⟩) := by rw [← ht0]; exact vw_start0 HHS.out
    have HV0 : Hid (t0.y 1 = [] ∧ t0.o 0 = [] ∧ t0.u 0 = 0) := by rw [← ht0]; exact ⟨rfl, rfl, rfl⟩
    obtain ⟨c9, hc9⟩ : ∃ y, newC b0 b1 = y := ⟨_, rfl⟩
    have HC9 : Hid (c9.b 0 = b0 ∧ c9.b 1 = b1) := by rw [← hc9]; exact ⟨rfl, rfl⟩
    rw [hc9] at HTI HLO
    clear ht0 hc9
    obtain ⟨sa, oa, hsa⟩ : ∃ a b, startP (t0.s 0) 0 = (a, b) := ⟨_, _, rfl⟩
    have HSA : Hid (startP (t0.s 0) 0 = (sa, oa)) := hsa
    have HST := start_any (c9.b 0) (t0.s 0) (c9.st 0) 0 w9 (HTI.out.e 0 (by omega)) (by decide) sa oa hsa
    rw [HC9.out.1] at HST
    go_wp2_with fail
    refine HST.mono ?_
    intro e w10 hm
    rw [← HC9.out.1] at hm
    obtain ⟨vb, ve, l, c1, rfl, ht1, hk1, hb1, hov, hav, hml⟩ := mv_step HTI.out (i := 0) (by omega) HNS.out hm
    have hoo := Oo.start (t0.s 0) 0
    rw [hsa] at hoo
    dsimp only at hoo
    have HOUT := out0_any w8.heap.size bt (sesP t0 0 sa) c1 oa vb ve l w10 ht1 (Nat.le_trans HNS.out hk1.str.size) hov hav hoo.1.u8 hoo.1.kd (by show (t0.y 1).length + _ ≤ _; rw [HV0.out.1]; have := hoo.2.1; simp; omega) (by have := hoo.2.2; omega) (by show (t0.o 0).length ≤ _; rw [HV0.out.2.1]; simp) (by show 0 ≤ t0.u 0 ∧ t0.u 0 ≤ _; rw [HV0.out.2.2]; decide) (startT t0 0 0) (by unfold startT; rw [HSA.out])
    have HK1 : Hid (Kl w9 w10 bt c9 c1 ∧ (c1.b = c9.b ∧ c1.h = c9.h) ∧ (∀ p ∈ l, ∀ g, Mown p.2 g → w9.heap.size ≤ g)) := ⟨hk1, hb1, hml⟩
    clear HST hm ht1 hk1 hb1 hov hav hml hoo c0 hsa
    go_wp2_with fail
    refine HOUT.mono ?_
    intro e w11 ho
    obtain ⟨rfl, c2, ht2, hk2, hb2⟩ := out_step HK1.out.1 HK1.out.2.1 HK1.out.2.2 ho
    obtain ⟨t1, ht1⟩ : ∃ y, startT t0 0 0 = y := ⟨_, rfl⟩
    have HT1 : Hid (startT t0 0 0 = t1) := ht1
    rw [ht1] at ht2 HV1
    have HT2 : Hid (TI w8.heap.size w11 bt t1 c2) := ht2
    have HK2 : Hid (Kl w9 w11 bt c9 c2) := hk2
    have HB2 : Hid (c2.b = c9.b) := hb2.1
    have HW1 : Hid (t1.y 0 = [] ∧ t1.o 1 = [] ∧ t1.u 1 = 0) := ⟨congrArg Vs.y0 HV1.out, congrArg Vs.o1 HV1.out, congrArg Vs.u1 HV1.out⟩
    have HN11 : Hid (w8.heap.size ≤ w11.heap.size) := Nat.le_trans HNS.out hk2.str.size
    have d1c : w11.cell? ⟨bt, 1, none⟩ = some (.pointer (some ⟨b1, 0, none⟩)) := by rw [← HC9.out.2, ← hb2.1]; exact ht2.box.cell 1
    have HB21 : Hid (c2.b 1 = b1) := by rw [hb2.1]; exact HC9.out.2
    clear HOUT ho ht1 ht2 hk2 hb2 HK1
    obtain ⟨sb, o2, hsb⟩ : ∃ a b, startP (t1.s 1) 0 = (a, b) := ⟨_, _, rfl⟩
    have HSB : Hid (startP (t1.s 1) 0 = (sb, o2)) := hsb
    have HST := start_any (c2.b 1) (t1.s 1) (c2.st 1) 0 w11 (HT2.out.e 1 (by omega)) (by decide) sb o2 hsb
    rw [HB21.out] at HST
    go_wp2_with fail
    refine HST.mono ?_
    intro e w12 hm
    rw [← HB21.out] at hm
    obtain ⟨vb, ve, l, c3, rfl, ht3, hk3, hb3, hov, hav, hml⟩ := mv_step HT2.out (i := 1) (by omega) HN11.out hm
    have hoo := Oo.start (t1.s 1) 0
    rw [hsb] at hoo
    dsimp only at hoo
    have HOUT := out1_any w8.heap.size bt (sesP t1 1 sb) c3 o2 vb ve l w12 ht3 (Nat.le_trans HN11.out hk3.str.size) hov hav hoo.1.u8 hoo.1.kd (by show (t1.y 0).length + _ ≤ _; rw [HW1.out.1]; have := hoo.2.1; simp; omega) (by have := hoo.2.2; omega) (by show (t1.o 1).length ≤ _; rw [HW1.out.2.1]; simp) (by show 0 ≤ t1.u 1 ∧ t1.u 1 ≤ _; rw [HW1.out.2.2]; decide) (startT t1 1 0) (by unfold startT; rw [HSB.out])
    have HK3 : Hid (Kl w11 w12 bt c2 c3 ∧ (c3.b = c2.b ∧ c3.h = c2.h) ∧ (∀ p ∈ l, ∀ g, Mown p.2 g → w11.heap.size ≤ g)) := ⟨hk3, hb3, hml⟩
    clear HST hm ht3 hk3 hb3 hov hav hml hoo d1c hsb
    go_wp2_with fail
    refine HOUT.mono ?_
    intro e w13 ho
    obtain ⟨rfl, c4, ht4, hk4, hb4⟩ := out_step HK3.out.1 HK3.out.2.1 HK3.out.2.2 ho
    obtain ⟨t2, ht2⟩ : ∃ y, startT t1 1 0 = y := ⟨_, rfl⟩
    have hv2 : vw t2 = v1 d0 i0 h0 d1 i1 h1 := by rw [← ht2, ← HT1.out, ← HT0.out]; exact vw_start HHS.out
    rw [ht2] at ht4
    have HT4 : Hid (TI w8.heap.size w13 bt t2 c4) := ht4
    have HK4 : Hid (Kl w9 w13 bt c9 c4) := HK2.out.trans hk4
    have HB4 : Hid (c4.b = c9.b) := hb4.1.trans HB2.out
    obtain ⟨bd1, bd2, hv20⟩ := opens_bd HHS.out hv2
    have HSE := settle_any w8.heap.size bt t2 c4 w13 ht4 (Nat.le_trans HNS.out HK4.out.str.size) bd1 bd2 true (rest_true (vw_y hv20).1 (vw_y hv20).2)
    have HV20 : Hid (vw (bothN 20 t2) = v4 d0 i0 h0 d1 i1 h1 0 0 0 0 0) := hv20
    clear HOUT ho ht2 ht4 hk4 hb4 HK3 hv2 bd1 bd2 hv20
    go_wp2_with fail
    refine HSE.mono ?_
    rintro e w14 ⟨rfl, c5, hsi⟩
    obtain ⟨t3, ht3⟩ : ∃ y, bothN 20 t2 = y := ⟨_, rfl⟩
    rw [ht3] at hsi HV20
    clear ht3
    have HB5 : Hid (c5.b = c9.b) := hsi.b.trans HB4.out
    have HK5 : Hid (Kl w9 w14 bt c9 c5) := HK4.out.trans hsi.k
    have HX14 : Hid (SB CgK bc [.int .i64 d0, .int .i64 i0, .int .i64 h0, .int .i64 d1, .int .i64 d1, .int .i64 i1, .int .i64 h1, .int .i64 d0] w14) := HX9.out.blk (HK5.out.blk bc HX9.out.lt (fun e => by have := HLO.out bc e; have := HBCL.out; omega))
    have HZ : Hid (min h0 h1 = 0 ∨ 3 ≤ min h0 h1) := by have := HHS.out.ph0; have := HHS.out.ph1; show _ ∨ _; omega
    have HIV0 : Hid (Iv (min h0 h1) 0 0 0 0 0) := ⟨by omega, by
      rcases HZ.out with e | e
      · exact .inl e
      · have := tdiv_one e; exact .inr ⟨e, by omega, by omega⟩⟩
    have HLI0 : Hid (LI w8.heap.size w9 bt c9 d0 i0 h0 d1 i1 h1 0 w14 t3 c5 0 0 0 0 0) := ⟨hsi.ti, HB5.out, HK5.out, HV20.out, HIV0.out, by omega⟩
    have HN : Hid (w8.heap.size ≤ w9.heap.size ∧ w.heap.size ≤ w8.heap.size) := ⟨HNS.out, HBE8.out.size⟩
    clear hsi HV20 HB5 HK5 HIV0 HSE HT4 HB4 HK4 HTI HT2 HK2 HB2 HB21 HW1 HN11 HV1 HV0 HSA HSB HT0 HT1 HX9 HX8 HBE8 HBE6 HNS HCG HR0 HR1 HBE5
    have m2 : w14.cell? ⟨bc, 2, none⟩ = some (.int .i64 h0) := HX14.out.cell 2
    have m6 : w14.cell? ⟨bc, 6, none⟩ = some (.int .i64 h1) := HX14.out.cell 6
    obtain ⟨hd, hhd⟩ : ∃ y, min h0 h1 = y := ⟨_, rfl⟩
    have HHD : Hid (min h0 h1 = hd) := hhd
    have hdr : (0 : Int) ≤ hd ∧ hd ≤ 59 := by have := HZ.out; omega
    obtain ⟨q3, hq3⟩ : ∃ y, hd.tdiv 3 = y := ⟨_, rfl⟩
    have HQ3 : Hid (hd.tdiv 3 = q3) := hq3
    have hqr : (0 : Int) ≤ q3 ∧ q3 ≤ 19 := by rw [← hq3, Int.tdiv_eq_ediv_of_nonneg (by omega)]; omega
    have hwq : IntKind.i64.wrap (hd.tdiv 3) = q3 := by rw [hq3]; exact IntWalk.i64_in _ (by omega)
    clear hq3 HZ
    go_wp2_with (refine list_min rfl _ _ rfl (a := h0) (b := h1) (c := hd) rfl rfl hhd ?_)
    clear m2 m6 HX14 hhd
    try simp only [hwq]
    clear hwq
    go_loopw [63] (fun kv wr => ∃ (j : Nat) (t : Tl) (c : Cp) (k a0 e0 a1 e1 : Int), j ≤ nc ∧ kv = .int .i64 (j : Int) ∧ LI w8.heap.size w9 bt c9 d0 i0 h0 d1 i1 h1 j wr t c k a0 e0 a1 e1) (fun k _ => nc - (intOf k).toNat)
    case atStart => exact ⟨0, t3, c5, 0, 0, 0, 0, 0, Nat.zero_le _, rfl, HLI0.out⟩
    case round =>
      obtain ⟨j, tq, cq, k, a0, e0, a1, e1, hj, rfl, hli⟩ := hrel
      have HL : Hid (LI w8.heap.size w9 bt c9 d0 i0 h0 d1 i1 h1 j wr tq cq k a0 e0 a1 e1) := hli
      clear hli HLI0
      obtain ⟨wq, hwq⟩ : ∃ y, wr = y := ⟨_, rfl⟩
      rw [hwq] at HL ⊢
      clear hwq
      have hk0 := HL.out.k0
      have HBW : Hid (Below w.heap.size w wq) := HBE9.out.trans ((HL.out.kl.below HN.out.1 HLO.out).mono HN.out.2)
      by_cases hjl : j < nc
      case pos =>
        have hjli : (j : Int) < (nc : Int) := by omega
        obtain ⟨cb, co, rfl, -, cc0⟩ := lstI (HLS.out.bel HBW.out) j (by rw [HCN.out]; exact hjl)
        obtain ⟨cv, hcv⟩ : ∃ y, ws[j]'(by rw [HCN.out]; exact hjl) = y := ⟨_, rfl⟩
        have HCR : Hid (-9223372036854775808 ≤ cv ∧ cv < 9223372036854775808) := by rw [← hcv]; exact HCI.out _ (List.getElem_mem _)
        rw [hcv] at cc0
        clear hcv
        obtain ⟨n1, hn1⟩ : ∃ y, md cv 1000 = y := ⟨_, rfl⟩
        have HM1 : Hid (∀ W, Calls Try.prog 8 #[.int .i64 cv, .int .i64 1000] W fun e w' => e = .returned (.int .i64 (n1 : Int)) ∧ w' = W) := fun W => mod_any cv HCR.out 1000 (by omega) (by omega) n1 hn1 W
        have ln1 : n1 < 1000 := by rw [← hn1]; exact md_lt (by omega)
        clear hn1
        go_wp2_with fail
        refine (HM1.out wq).mono ?_
        rintro e w' ⟨rfl, hw'⟩
        rw [hw']
        clear hw' w' HM1
        have HTC : Hid (TC bt cq k wq) := by have h := HL.out.ti.tc; rw [(vw_parts HL.out.v).2.2.2.2.2] at h; exact h
        have cc10 : wq.cell? ⟨bt, 10, none⟩ = some (.int .i64 k) := HTC.out.2.2
        have fr10 : wq.frozen? ⟨bt, 10, none⟩ = false := HL.out.ti.box.fro 10
        by_cases hdz : hd = 0
        case' pos =>
          obtain ⟨nn, hnn⟩ : ∃ y, n1 = y := ⟨_, rfl⟩
          have HNR : Hid (nn < 1000 ∧ (min h0 h1 = 0 ∨ (nn : Int) ≤ (min h0 h1).tdiv 3)) := by rw [← hnn, HHD.out]; exact ⟨ln1, .inl hdz⟩
          rw [hnn]
          have hgt : ¬ (0 : Int) < hd := by omega
          clear hnn hdz ln1
        case' neg =>
          have hgt : (0 : Int) < hd := by omega
          obtain ⟨mn, hmn⟩ : ∃ y : Nat, q3 + 1 = (y : Int) := ⟨(q3 + 1).toNat, by omega⟩
          have hwm : IntKind.i64.wrap (q3 + 1) = (mn : Int) := by rw [hmn]; exact IntWalk.i64_in _ (by omega)
          obtain ⟨nn, hnn⟩ : ∃ y, md cv mn = y := ⟨_, rfl⟩
          have HM2 : Hid (∀ W, Calls Try.prog 8 #[.int .i64 cv, .int .i64 (mn : Int)] W fun e w' => e = .returned (.int .i64 (nn : Int)) ∧ w' = W) := fun W => mod_any cv HCR.out mn (by omega) (by omega) nn hnn W
          have hln : nn < mn := by rw [← hnn]; exact md_lt (by omega)
          have HNR : Hid (nn < 1000 ∧ (min h0 h1 = 0 ∨ (nn : Int) ≤ (min h0 h1).tdiv 3)) := by rw [HHD.out, HQ3.out]; exact ⟨by omega, .inr (by omega)⟩
          clear hnn hdz ln1 hln
          go_wp2_with fail
          try simp only [hwm]
          refine (HM2.out wq).mono ?_
          rintro e w' ⟨rfl, hw'⟩
          rw [hw']
          clear hw' w' HM2 hmn hwm
        all_goals
          have hnr := HNR.out.1
          have HT2 : Hid (TI w8.heap.size (wq.setCell ⟨bt, 10, none⟩ (.int .i64 (k + (nn : Int)))) bt { tq with clk := k + (nn : Int) } cq ∧ Kl wq (wq.setCell ⟨bt, 10, none⟩ (.int .i64 (k + (nn : Int)))) bt cq cq) := HL.out.ti.clock _
          obtain ⟨k2, hk2⟩ : ∃ y, k + (nn : Int) = y := ⟨_, rfl⟩
          have hwk : IntKind.i64.wrap (k + (nn : Int)) = k2 := by rw [hk2]; exact IntWalk.i64_in _ (by omega)
          have HKK : Hid (k ≤ k2 ∧ k2 ≤ 1000 * ((j + 1 : Nat) : Int) ∧ 0 ≤ k2 ∧ k2 ≤ 1000000 ∧ (min h0 h1 = 0 ∨ k2 - k ≤ (min h0 h1).tdiv 3)) := by
            have := HNR.out.2
            refine ⟨by omega, by push_cast; omega, by omega, by omega, by omega⟩
          rw [hk2] at HT2
          go_wp2_with fail
          try simp only [hwk]
          clear hk2 hwk
          obtain ⟨w15, hw15⟩ : ∃ y, wq.setCell ⟨bt, 10, none⟩ (.int .i64 k2) = y := ⟨_, rfl⟩
          rw [hw15] at HT2 ⊢
          clear hw15 HNR hgt cc10 fr10 HTC cc0
          have HTX : Hid (TI w8.heap.size w15.drew bt { tq with clk := k2 } cq) := HT2.out.1.bel (drew_bel w15)
          have HKX : Hid (Kl w9 w15.drew bt c9 cq) := (HL.out.kl.trans HT2.out.2).trans (Kl.bel (drew_bel w15))
          refine wp_region_held_drew (S := TC bt cq k2) (by kernel_rfl) HTX.out.tc (fun hHeld => ?_)
          obtain ⟨X0, hX0⟩ : ∃ x, w15.drew = x := ⟨_, rfl⟩
          rw [hX0] at HTX HKX hHeld ⊢
          clear hX0 HT2
          have HV0 : Hid (vw ({ tq with clk := k2 } : Tl) = { v4 d0 i0 h0 d1 i1 h1 k a0 e0 a1 e1 with k := k2 }) := by show _ = _; rw [vw_clk, HL.out.v]
          obtain ⟨u0, hu0⟩ : ∃ y, ({ tq with clk := k2 } : Tl) = y := ⟨_, rfl⟩
          have HU0 : Hid (u0.clk = k2) := by rw [← hu0]; rfl
          rw [hu0] at HTX HV0
          clear hu0
          have HN0 : Hid (w8.heap.size ≤ X0.heap.size) := Nat.le_trans HN.out.1 HKX.out.str.size
          have HTK0 := tick0_out w8.heap.size bt u0 cq X0 HTX.out HN0.out (by rw [HU0.out]; have := HKK.out; omega) (by rw [(vw_parts HV0.out).2.1.2]; exact Nat.zero_le _) (by rw [(vw_parts HV0.out).2.2.2.1.1]; exact Nat.zero_le _) (by rw [(vw_parts HV0.out).2.2.1.1]; show (0 : Int) ≤ 1 ∧ (1 : Int) ≤ _; decide)
          rw [HU0.out] at HTK0
          refine wpAnyH_take (i := 0) (v := .pointer (some ⟨bt, 0, none⟩)) rfl (by kernel_rfl) (by kernel_rfl) (by kernel_rfl) (fun _ _ _ h => h) (Or.inl ⟨by rfl, ?_⟩) (by assumption) ?_
          case refine_1 => intro W hSw; go_simp; try rfl
          try simp only [Act.put, List.getElem_toArray, List.getElem_cons_zero, List.getElem_cons_succ, List.setIfInBounds_toArray, List.set_cons_zero, List.set_cons_succ]
          refine wpAnyH_take (i := 1) (v := .pointer (some ⟨bt, 0, none⟩)) rfl (by kernel_rfl) (by kernel_rfl) (by kernel_rfl) (fun _ _ _ h => h) (Or.inl ⟨by rfl, ?_⟩) (by assumption) ?_
          case refine_1 => intro W hSw; go_simp; try rfl
          try simp only [Act.put, List.getElem_toArray, List.getElem_cons_zero, List.getElem_cons_succ, List.setIfInBounds_toArray, List.set_cons_zero, List.set_cons_succ]
          refine wpAnyH_take (i := 2) (v := .pointer (some ⟨bt, 0, none⟩)) rfl (by kernel_rfl) (by kernel_rfl) (by kernel_rfl) (fun _ _ _ h => h) (Or.inl ⟨by rfl, ?_⟩) (by assumption) ?_
          case refine_1 => intro W hSw; go_simp; try rfl
          try simp only [Act.put, List.getElem_toArray, List.getElem_cons_zero, List.getElem_cons_succ, List.setIfInBounds_toArray, List.set_cons_zero, List.set_cons_succ]
          refine wpAnyH_take (i := 3) (v := .pointer (some ⟨bt, 0, none⟩)) rfl (by kernel_rfl) (by kernel_rfl) (by kernel_rfl) (fun _ _ _ h => h) (Or.inl ⟨by rfl, ?_⟩) (by assumption) ?_
          case refine_1 => intro W hSw; go_simp; try rfl
          try simp only [Act.put, List.getElem_toArray, List.getElem_cons_zero, List.getElem_cons_succ, List.setIfInBounds_toArray, List.set_cons_zero, List.set_cons_succ]
          refine wpAnyH_take (i := 4) (v := .pointer (some ⟨bt, 0, none⟩)) rfl (by kernel_rfl) (by kernel_rfl) (by kernel_rfl) (fun _ _ _ h => h) (Or.inl ⟨by rfl, ?_⟩) (by assumption) ?_
          case refine_1 => intro W hSw; go_simp; try rfl
          try simp only [Act.put, List.getElem_toArray, List.getElem_cons_zero, List.getElem_cons_succ, List.setIfInBounds_toArray, List.set_cons_zero, List.set_cons_succ]
          refine wpAnyH_take (i := 5) (v := .pointer (some ⟨cq.b 0, 0, none⟩)) rfl (by kernel_rfl) (by kernel_rfl) (by kernel_rfl) (fun _ _ _ h => h) (Or.inl ⟨by rfl, ?_⟩) (by assumption) ?_
          case refine_1 => intro W hSw; have cc : W.cell? ⟨bt, 0, none⟩ = some (.pointer (some ⟨cq.b 0, 0, none⟩)) := hSw.1; go_simp; try rfl
          try simp only [Act.put, List.getElem_toArray, List.getElem_cons_zero, List.getElem_cons_succ, List.setIfInBounds_toArray, List.set_cons_zero, List.set_cons_succ]
          refine wpAnyH_take (i := 6) (v := .pointer (some ⟨bt, 0, none⟩)) rfl (by kernel_rfl) (by kernel_rfl) (by kernel_rfl) (fun _ _ _ h => h) (Or.inl ⟨by rfl, ?_⟩) (by assumption) ?_
          case refine_1 => intro W hSw; go_simp; try rfl
          try simp only [Act.put, List.getElem_toArray, List.getElem_cons_zero, List.getElem_cons_succ, List.setIfInBounds_toArray, List.set_cons_zero, List.set_cons_succ]
          refine wpAnyH_take (i := 7) (v := .pointer (some ⟨bt, 0, none⟩)) rfl (by kernel_rfl) (by kernel_rfl) (by kernel_rfl) (fun _ _ _ h => h) (Or.inl ⟨by rfl, ?_⟩) (by assumption) ?_
          case refine_1 => intro W hSw; go_simp; try rfl
          try simp only [Act.put, List.getElem_toArray, List.getElem_cons_zero, List.getElem_cons_succ, List.setIfInBounds_toArray, List.set_cons_zero, List.set_cons_succ]
          refine wpAnyH_take (i := 8) (v := .pointer (some ⟨bt, 10, none⟩)) rfl (by kernel_rfl) (by kernel_rfl) (by kernel_rfl) (fun _ _ _ h => h) (Or.inl ⟨by rfl, ?_⟩) (by assumption) ?_
          case refine_1 => intro W hSw; go_simp; try rfl
          try simp only [Act.put, List.getElem_toArray, List.getElem_cons_zero, List.getElem_cons_succ, List.setIfInBounds_toArray, List.set_cons_zero, List.set_cons_succ]
          refine wpAnyH_take (i := 9) (v := .int .i64 k2) rfl (by kernel_rfl) (by kernel_rfl) (by kernel_rfl) (fun _ _ _ h => h) (Or.inl ⟨by rfl, ?_⟩) (by assumption) ?_
          case refine_1 => intro W hSw; have cc : W.cell? ⟨bt, 10, none⟩ = some (.int .i64 k2) := hSw.2.2; go_simp; try rfl
          try simp only [Act.put, List.getElem_toArray, List.getElem_cons_zero, List.getElem_cons_succ, List.setIfInBounds_toArray, List.set_cons_zero, List.set_cons_succ]
          refine wpAnyH_ready (rs := [10]) (by kernel_rfl) (by simp) ?_
          refine AllReadyH.cons rfl (fun K hK => ?_) AllReadyH.nil
          go_simp
          refine HTK0.mono ?_
          rintro e X1 ⟨vb, ve, rfl, hmid⟩
          have HOUT := hmid.2.2
          refine hK.out _ _ (hmid.1) (fun hHeld => ?_)
          clear hK K hmid HTK0
          try simp only [Act.put, List.getElem_toArray, List.getElem_cons_zero, List.getElem_cons_succ, List.setIfInBounds_toArray, List.set_cons_zero, List.set_cons_succ]
          refine wpAnyH_ready (rs := [11]) (by kernel_rfl) (by simp) ?_
          refine AllReadyH.cons rfl (fun K hK => ?_) AllReadyH.nil
          go_simp
          refine HOUT.mono ?_
          rintro e X2 ⟨rfl, c2, ht2, hkl2, hb2⟩
          have HU1 : Hid ((tickT u0 0).clk = k2) := (tickT_clk u0 0).trans HU0.out
          refine hK.out _ _ (by have h := ht2.tc.b hb2.1; rw [HU1.out] at h; exact h) (fun hHeld => ?_)
          clear hK K HOUT
          try simp only [Act.put, List.getElem_toArray, List.getElem_cons_zero, List.getElem_cons_succ, List.setIfInBounds_toArray, List.set_cons_zero, List.set_cons_succ]
          have HV1 : Hid (vw (tickT u0 0) = tk0 { v4 d0 i0 h0 d1 i1 h1 k a0 e0 a1 e1 with k := k2 }) := by show _ = _; rw [vw_tick0, HV0.out]
          obtain ⟨u1, hu1⟩ : ∃ y, tickT u0 0 = y := ⟨_, rfl⟩
          rw [hu1] at ht2 HU1 HV1
          have HT2 : Hid (TI w8.heap.size X2 bt u1 c2) := ht2
          have HK2 : Hid (Kl w9 X2 bt c9 c2) := HKX.out.trans hkl2
          have HB2 : Hid (c2.b = cq.b) := hb2.1
          have HN2 : Hid (w8.heap.size ≤ X2.heap.size) := Nat.le_trans HN.out.1 HK2.out.str.size
          clear hu1 ht2 hkl2 hb2 HTX HKX HN0
          have HTK1 := tick1_out w8.heap.size bt u1 c2 X2 HT2.out HN2.out (by rw [HU1.out]; have := HKK.out; omega) (by rw [(vw_parts HV1.out).2.1.1]; exact Nat.zero_le _) (by rw [(vw_parts HV1.out).2.2.2.1.2]; exact Nat.zero_le _) (by rw [(vw_parts HV1.out).2.2.1.2]; show (0 : Int) ≤ 1 ∧ (1 : Int) ≤ _; decide)
          rw [HU1.out, HB2.out] at HTK1
          refine wpAnyH_take (i := 12) (v := .bool false) rfl (by kernel_rfl) (by kernel_rfl) (by kernel_rfl) (fun _ _ _ h => h) (Or.inl ⟨by rfl, ?_⟩) (by assumption) ?_
          case refine_1 => intro W hSw; go_simp; try rfl
          try simp only [Act.put, List.getElem_toArray, List.getElem_cons_zero, List.getElem_cons_succ, List.setIfInBounds_toArray, List.set_cons_zero, List.set_cons_succ]
          refine wpAnyH_take (i := 13) (v := .bool false) rfl (by kernel_rfl) (by kernel_rfl) (by kernel_rfl) (fun _ _ _ h => h) (Or.inl ⟨by rfl, ?_⟩) (by assumption) ?_
          case refine_1 => intro W hSw; go_simp; try rfl
          try simp only [Act.put, List.getElem_toArray, List.getElem_cons_zero, List.getElem_cons_succ, List.setIfInBounds_toArray, List.set_cons_zero, List.set_cons_succ]
          refine wpAnyH_take (i := 14) (v := .pointer (some ⟨bt, 0, none⟩)) rfl (by kernel_rfl) (by kernel_rfl) (by kernel_rfl) (fun _ _ _ h => h) (Or.inl ⟨by rfl, ?_⟩) (by assumption) ?_
          case refine_1 => intro W hSw; go_simp; try rfl
          try simp only [Act.put, List.getElem_toArray, List.getElem_cons_zero, List.getElem_cons_succ, List.setIfInBounds_toArray, List.set_cons_zero, List.set_cons_succ]
          refine wpAnyH_take (i := 15) (v := .pointer (some ⟨bt, 0, none⟩)) rfl (by kernel_rfl) (by kernel_rfl) (by kernel_rfl) (fun _ _ _ h => h) (Or.inl ⟨by rfl, ?_⟩) (by assumption) ?_
          case refine_1 => intro W hSw; go_simp; try rfl
          try simp only [Act.put, List.getElem_toArray, List.getElem_cons_zero, List.getElem_cons_succ, List.setIfInBounds_toArray, List.set_cons_zero, List.set_cons_succ]
          refine wpAnyH_take (i := 16) (v := .pointer (some ⟨bt, 0, none⟩)) rfl (by kernel_rfl) (by kernel_rfl) (by kernel_rfl) (fun _ _ _ h => h) (Or.inl ⟨by rfl, ?_⟩) (by assumption) ?_
          case refine_1 => intro W hSw; go_simp; try rfl
          try simp only [Act.put, List.getElem_toArray, List.getElem_cons_zero, List.getElem_cons_succ, List.setIfInBounds_toArray, List.set_cons_zero, List.set_cons_succ]
          refine wpAnyH_take (i := 17) (v := .pointer (some ⟨bt, 0, none⟩)) rfl (by kernel_rfl) (by kernel_rfl) (by kernel_rfl) (fun _ _ _ h => h) (Or.inl ⟨by rfl, ?_⟩) (by assumption) ?_
          case refine_1 => intro W hSw; go_simp; try rfl
          try simp only [Act.put, List.getElem_toArray, List.getElem_cons_zero, List.getElem_cons_succ, List.setIfInBounds_toArray, List.set_cons_zero, List.set_cons_succ]
          refine wpAnyH_take (i := 18) (v := .pointer (some ⟨bt, 1, none⟩)) rfl (by kernel_rfl) (by kernel_rfl) (by kernel_rfl) (fun _ _ _ h => h) (Or.inl ⟨by rfl, ?_⟩) (by assumption) ?_
          case refine_1 => intro W hSw; go_simp; try rfl
          try simp only [Act.put, List.getElem_toArray, List.getElem_cons_zero, List.getElem_cons_succ, List.setIfInBounds_toArray, List.set_cons_zero, List.set_cons_succ]
          refine wpAnyH_take (i := 19) (v := .pointer (some ⟨cq.b 1, 0, none⟩)) rfl (by kernel_rfl) (by kernel_rfl) (by kernel_rfl) (fun _ _ _ h => h) (Or.inl ⟨by rfl, ?_⟩) (by assumption) ?_
          case refine_1 => intro W hSw; have cc : W.cell? ⟨bt, 1, none⟩ = some (.pointer (some ⟨cq.b 1, 0, none⟩)) := hSw.2.1; go_simp; try rfl
          try simp only [Act.put, List.getElem_toArray, List.getElem_cons_zero, List.getElem_cons_succ, List.setIfInBounds_toArray, List.set_cons_zero, List.set_cons_succ]
          refine wpAnyH_take (i := 20) (v := .pointer (some ⟨bt, 0, none⟩)) rfl (by kernel_rfl) (by kernel_rfl) (by kernel_rfl) (fun _ _ _ h => h) (Or.inl ⟨by rfl, ?_⟩) (by assumption) ?_
          case refine_1 => intro W hSw; go_simp; try rfl
          try simp only [Act.put, List.getElem_toArray, List.getElem_cons_zero, List.getElem_cons_succ, List.setIfInBounds_toArray, List.set_cons_zero, List.set_cons_succ]
          refine wpAnyH_take (i := 21) (v := .pointer (some ⟨bt, 0, none⟩)) rfl (by kernel_rfl) (by kernel_rfl) (by kernel_rfl) (fun _ _ _ h => h) (Or.inl ⟨by rfl, ?_⟩) (by assumption) ?_
          case refine_1 => intro W hSw; go_simp; try rfl
          try simp only [Act.put, List.getElem_toArray, List.getElem_cons_zero, List.getElem_cons_succ, List.setIfInBounds_toArray, List.set_cons_zero, List.set_cons_succ]
          refine wpAnyH_take (i := 22) (v := .pointer (some ⟨bt, 10, none⟩)) rfl (by kernel_rfl) (by kernel_rfl) (by kernel_rfl) (fun _ _ _ h => h) (Or.inl ⟨by rfl, ?_⟩) (by assumption) ?_
          case refine_1 => intro W hSw; go_simp; try rfl
          try simp only [Act.put, List.getElem_toArray, List.getElem_cons_zero, List.getElem_cons_succ, List.setIfInBounds_toArray, List.set_cons_zero, List.set_cons_succ]
          refine wpAnyH_take (i := 23) (v := .int .i64 k2) rfl (by kernel_rfl) (by kernel_rfl) (by kernel_rfl) (fun _ _ _ h => h) (Or.inl ⟨by rfl, ?_⟩) (by assumption) ?_
          case refine_1 => intro W hSw; have cc : W.cell? ⟨bt, 10, none⟩ = some (.int .i64 k2) := hSw.2.2; go_simp; try rfl
          try simp only [Act.put, List.getElem_toArray, List.getElem_cons_zero, List.getElem_cons_succ, List.setIfInBounds_toArray, List.set_cons_zero, List.set_cons_succ]
          refine wpAnyH_ready (rs := [24]) (by kernel_rfl) (by simp) ?_
          refine AllReadyH.cons rfl (fun K hK => ?_) AllReadyH.nil
          go_simp
          refine HTK1.mono ?_
          rintro e X3 ⟨vb, ve, rfl, hmid⟩
          have HOUT := hmid.2.2
          refine hK.out _ _ (hmid.1.b HB2.out) (fun hHeld => ?_)
          clear hK K hmid HTK1
          try simp only [Act.put, List.getElem_toArray, List.getElem_cons_zero, List.getElem_cons_succ, List.setIfInBounds_toArray, List.set_cons_zero, List.set_cons_succ]
          refine wpAnyH_ready (rs := [25]) (by kernel_rfl) (by simp) ?_
          refine AllReadyH.cons rfl (fun K hK => ?_) AllReadyH.nil
          go_simp
          refine HOUT.mono ?_
          rintro e X4 ⟨rfl, c4, ht4, hkl4, hb4⟩
          have HU2 : Hid ((tickT u1 1).clk = k2) := (tickT_clk u1 1).trans HU1.out
          refine hK.out _ _ (by have h := ht4.tc.b (hb4.1.trans HB2.out); rw [HU2.out] at h; exact h) (fun hHeld => ?_)
          clear hK K HOUT
          try simp only [Act.put, List.getElem_toArray, List.getElem_cons_zero, List.getElem_cons_succ, List.setIfInBounds_toArray, List.set_cons_zero, List.set_cons_succ]
          have hv2 : vw (tickT u1 1) = tk1 (tk0 { v4 d0 i0 h0 d1 i1 h1 k a0 e0 a1 e1 with k := k2 }) := by show _ = _; rw [vw_tick1, HV1.out]
          obtain ⟨u2, hu2⟩ : ∃ y, tickT u1 1 = y := ⟨_, rfl⟩
          rw [hu2] at ht4 hv2
          have HK4 : Hid (Kl w9 X4 bt c9 c4) := HK2.out.trans hkl4
          have HB4 : Hid (c4.b = cq.b) := hb4.1.trans HB2.out
          obtain ⟨f0, g0, f1, g1, hiv, bd1, bd2, hv3⟩ := lives HL.out.iv HKK.out.1 HKK.out.2.2.2.2 (by have := HKK.out; omega) hv2
          have HSE := settle_any w8.heap.size bt u2 c4 X4 ht4 (Nat.le_trans HN.out.1 HK4.out.str.size) bd1 bd2 true (rest_true (vw_y hv3).1 (vw_y hv3).2)
          have HV3 : Hid (vw (bothN 20 u2) = v4 d0 i0 h0 d1 i1 h1 k2 f0 g0 f1 g1) := hv3
          have HIV : Hid (Iv (min h0 h1) k2 f0 g0 f1 g1) := hiv
          obtain ⟨u3, hu3⟩ : ∃ y, bothN 20 u2 = y := ⟨_, rfl⟩
          rw [hu3] at HSE HV3
          clear hu2 ht4 hkl4 hb4 hv2 bd1 bd2 hv3 hiv HT2 HK2 HB2 HN2 hu3 HV0 HV1 HU0 HU1 HU2
          refine wpAnyH_take (i := 26) (v := .bool false) rfl (by kernel_rfl) (by kernel_rfl) (by kernel_rfl) (fun _ _ _ h => h) (Or.inl ⟨by rfl, ?_⟩) (by assumption) ?_
          case refine_1 => intro W hSw; go_simp; try rfl
          try simp only [Act.put, List.getElem_toArray, List.getElem_cons_zero, List.getElem_cons_succ, List.setIfInBounds_toArray, List.set_cons_zero, List.set_cons_succ]
          refine wpAnyH_take (i := 27) (v := .bool false) rfl (by kernel_rfl) (by kernel_rfl) (by kernel_rfl) (fun _ _ _ h => h) (Or.inl ⟨by rfl, ?_⟩) (by assumption) ?_
          case refine_1 => intro W hSw; go_simp; try rfl
          try simp only [Act.put, List.getElem_toArray, List.getElem_cons_zero, List.getElem_cons_succ, List.setIfInBounds_toArray, List.set_cons_zero, List.set_cons_succ]
          refine wpAnyH_take (i := 28) (v := .bool false) rfl (by kernel_rfl) (by kernel_rfl) (by kernel_rfl) (fun _ _ _ h => h) (Or.inl ⟨by rfl, ?_⟩) (by assumption) ?_
          case refine_1 => intro W hSw; go_simp; try rfl
          try simp only [Act.put, List.getElem_toArray, List.getElem_cons_zero, List.getElem_cons_succ, List.setIfInBounds_toArray, List.set_cons_zero, List.set_cons_succ]
          refine wpAnyH_take (i := 29) (v := .pointer (some ⟨bt, 0, none⟩)) rfl (by kernel_rfl) (by kernel_rfl) (by kernel_rfl) (fun _ _ _ h => h) (Or.inl ⟨by rfl, ?_⟩) (by assumption) ?_
          case refine_1 => intro W hSw; go_simp; try rfl
          try simp only [Act.put, List.getElem_toArray, List.getElem_cons_zero, List.getElem_cons_succ, List.setIfInBounds_toArray, List.set_cons_zero, List.set_cons_succ]
          refine wpAnyH_ready (rs := [30]) (by kernel_rfl) (by simp) ?_
          refine AllReadyH.cons rfl (fun K hK => ?_) AllReadyH.nil
          go_simp
          refine HSE.mono ?_
          rintro e X5 ⟨rfl, c5, hsi⟩
          have HT5 : Hid (TI w8.heap.size X5 bt u3 c5) := hsi.ti
          have HB5 : Hid (c5.b = cq.b) := hsi.b.trans HB4.out
          have HK5 : Hid (Kl w9 X5 bt c9 c5) := HK4.out.trans hsi.k
          have HU3 : Hid (u3.clk = k2) := (vw_parts HV3.out).2.2.2.2.2
          refine hK.out _ _ (by have h := HT5.out.tc.b HB5.out; rw [HU3.out] at h; exact h) (fun hHeld => ?_)
          clear hK K HSE hsi HB4 HK4
          try simp only [Act.put, List.getElem_toArray, List.getElem_cons_zero, List.getElem_cons_succ, List.setIfInBounds_toArray, List.set_cons_zero, List.set_cons_succ]
          refine wpAnyH_take (i := 31) (v := .bool false) rfl (by kernel_rfl) (by kernel_rfl) (by kernel_rfl) (fun _ _ _ h => h) (Or.inl ⟨by rfl, ?_⟩) (by assumption) ?_
          case refine_1 => intro W hSw; go_simp; try rfl
          try simp only [Act.put, List.getElem_toArray, List.getElem_cons_zero, List.getElem_cons_succ, List.setIfInBounds_toArray, List.set_cons_zero, List.set_cons_succ]
          refine wpAnyH_take (i := 32) (v := .bool false) rfl (by kernel_rfl) (by kernel_rfl) (by kernel_rfl) (fun _ _ _ h => h) (Or.inl ⟨by rfl, ?_⟩) (by assumption) ?_
          case refine_1 => intro W hSw; go_simp; try rfl
          try simp only [Act.put, List.getElem_toArray, List.getElem_cons_zero, List.getElem_cons_succ, List.setIfInBounds_toArray, List.set_cons_zero, List.set_cons_succ]
          refine wpAnyH_done (by kernel_rfl) ?_ _
          clear hHeld
          have s0 : X5.cell? ⟨bt, 0, none⟩ = some (.pointer (some ⟨c5.b 0, 0, none⟩)) := HT5.out.tc.1
          have s1 : X5.cell? ⟨bt, 1, none⟩ = some (.pointer (some ⟨c5.b 1, 0, none⟩)) := HT5.out.tc.2.1
          have HS0 := state_any (c5.b 0) 3 X5 (HT5.out.state 0 (by omega) (by rw [(vw_parts HV3.out).1.1]; rfl))
          have HS1 := state_any (c5.b 1) 3 X5 (HT5.out.state 1 (by omega) (by rw [(vw_parts HV3.out).1.2]; rfl))
          go_wp2_with fail
          refine HS0.mono ?_
          rintro e w' ⟨rfl, hw'⟩
          rw [hw']
          clear hw' w' HS0
          go_wp2_with fail
          refine HS1.mono ?_
          rintro e w' ⟨rfl, hw'⟩
          rw [hw']
          clear hw' w' HS1
          go_wp2_with fail
          exact ⟨⟨j + 1, u3, c5, k2, f0, g0, f1, g1, by omega, by simp, ⟨HT5.out, HB5.out.trans HL.out.b, HK5.out, HV3.out, HIV.out, by have := HKK.out; omega⟩⟩, by simp [intOf]; omega⟩
      case neg =>
        have hjli : ¬ (j : Int) < (nc : Int) := by omega
        have HTC : Hid (TC bt cq k wq) := by have h := HL.out.ti.tc; rw [(vw_parts HL.out.v).2.2.2.2.2] at h; exact h
        have cc10 : wq.cell? ⟨bt, 10, none⟩ = some (.int .i64 k) := HTC.out.2.2
        have fr10 : wq.frozen? ⟨bt, 10, none⟩ = false := HL.out.ti.box.fro 10
        by_cases hdz : hd = 0
        case pos =>
          have hdb : (hd == 0) = true := by simpa using hdz
          go_wp2_with fail
          go_ret
          exact ⟨rfl, HBW.out⟩
        case neg =>
          have hdb : (hd == 0) = false := by simpa using hdz
          have HT2 : Hid (TI w8.heap.size (wq.setCell ⟨bt, 10, none⟩ (.int .i64 (k + hd))) bt { tq with clk := k + hd } cq ∧ Kl wq (wq.setCell ⟨bt, 10, none⟩ (.int .i64 (k + hd))) bt cq cq) := HL.out.ti.clock _
          obtain ⟨k2, hk2⟩ : ∃ y, k + hd = y := ⟨_, rfl⟩
          have hwk : IntKind.i64.wrap (k + hd) = k2 := by rw [hk2]; exact IntWalk.i64_in _ (by omega)
          have HKK : Hid (k ≤ k2 ∧ 0 ≤ k2 ∧ k2 ≤ 1000000 ∧ min h0 h1 ≠ 0 ∧ min h0 h1 ≤ k2 - a0 ∧ min h0 h1 ≤ k2 - a1) := by
            have := HL.out.iv.z
            rw [HHD.out]
            exact ⟨by omega, by omega, by omega, hdz, by omega, by omega⟩
          rw [hk2] at HT2
          go_wp2_with fail
          try simp only [hwk]
          clear hk2 hwk
          obtain ⟨w15, hw15⟩ : ∃ y, wq.setCell ⟨bt, 10, none⟩ (.int .i64 k2) = y := ⟨_, rfl⟩
          rw [hw15] at HT2 ⊢
          clear hw15 cc10 fr10 HTC
          have HTX : Hid (TI w8.heap.size w15.drew bt { tq with clk := k2 } cq) := HT2.out.1.bel (drew_bel w15)
          have HKX : Hid (Kl w9 w15.drew bt c9 cq) := (HL.out.kl.trans HT2.out.2).trans (Kl.bel (drew_bel w15))
          refine wp_region_held_drew (S := TC bt cq k2) (by kernel_rfl) HTX.out.tc (fun hHeld => ?_)
          obtain ⟨X0, hX0⟩ : ∃ x, w15.drew = x := ⟨_, rfl⟩
          rw [hX0] at HTX HKX hHeld ⊢
          clear hX0 HT2
          have HV0 : Hid (vw ({ tq with clk := k2 } : Tl) = { v4 d0 i0 h0 d1 i1 h1 k a0 e0 a1 e1 with k := k2 }) := by show _ = _; rw [vw_clk, HL.out.v]
          obtain ⟨u0, hu0⟩ : ∃ y, ({ tq with clk := k2 } : Tl) = y := ⟨_, rfl⟩
          have HU0 : Hid (u0.clk = k2) := by rw [← hu0]; rfl
          rw [hu0] at HTX HV0
          clear hu0
          have HN0 : Hid (w8.heap.size ≤ X0.heap.size) := Nat.le_trans HN.out.1 HKX.out.str.size
          have HTK0 := tick0_out w8.heap.size bt u0 cq X0 HTX.out HN0.out (by rw [HU0.out]; have := HKK.out; omega) (by rw [(vw_parts HV0.out).2.1.2]; exact Nat.zero_le _) (by rw [(vw_parts HV0.out).2.2.2.1.1]; exact Nat.zero_le _) (by rw [(vw_parts HV0.out).2.2.1.1]; show (0 : Int) ≤ 1 ∧ (1 : Int) ≤ _; decide)
          rw [HU0.out] at HTK0
          refine wpAnyH_take (i := 0) (v := .pointer (some ⟨bt, 0, none⟩)) rfl (by kernel_rfl) (by kernel_rfl) (by kernel_rfl) (fun _ _ _ h => h) (Or.inl ⟨by rfl, ?_⟩) (by assumption) ?_
          case refine_1 => intro W hSw; go_simp; try rfl
          try simp only [Act.put, List.getElem_toArray, List.getElem_cons_zero, List.getElem_cons_succ, List.setIfInBounds_toArray, List.set_cons_zero, List.set_cons_succ]
          refine wpAnyH_take (i := 1) (v := .pointer (some ⟨bt, 0, none⟩)) rfl (by kernel_rfl) (by kernel_rfl) (by kernel_rfl) (fun _ _ _ h => h) (Or.inl ⟨by rfl, ?_⟩) (by assumption) ?_
          case refine_1 => intro W hSw; go_simp; try rfl
          try simp only [Act.put, List.getElem_toArray, List.getElem_cons_zero, List.getElem_cons_succ, List.setIfInBounds_toArray, List.set_cons_zero, List.set_cons_succ]
          refine wpAnyH_take (i := 2) (v := .pointer (some ⟨bt, 0, none⟩)) rfl (by kernel_rfl) (by kernel_rfl) (by kernel_rfl) (fun _ _ _ h => h) (Or.inl ⟨by rfl, ?_⟩) (by assumption) ?_
          case refine_1 => intro W hSw; go_simp; try rfl
          try simp only [Act.put, List.getElem_toArray, List.getElem_cons_zero, List.getElem_cons_succ, List.setIfInBounds_toArray, List.set_cons_zero, List.set_cons_succ]
          refine wpAnyH_take (i := 3) (v := .pointer (some ⟨bt, 0, none⟩)) rfl (by kernel_rfl) (by kernel_rfl) (by kernel_rfl) (fun _ _ _ h => h) (Or.inl ⟨by rfl, ?_⟩) (by assumption) ?_
          case refine_1 => intro W hSw; go_simp; try rfl
          try simp only [Act.put, List.getElem_toArray, List.getElem_cons_zero, List.getElem_cons_succ, List.setIfInBounds_toArray, List.set_cons_zero, List.set_cons_succ]
          refine wpAnyH_take (i := 4) (v := .pointer (some ⟨bt, 0, none⟩)) rfl (by kernel_rfl) (by kernel_rfl) (by kernel_rfl) (fun _ _ _ h => h) (Or.inl ⟨by rfl, ?_⟩) (by assumption) ?_
          case refine_1 => intro W hSw; go_simp; try rfl
          try simp only [Act.put, List.getElem_toArray, List.getElem_cons_zero, List.getElem_cons_succ, List.setIfInBounds_toArray, List.set_cons_zero, List.set_cons_succ]
          refine wpAnyH_take (i := 5) (v := .pointer (some ⟨cq.b 0, 0, none⟩)) rfl (by kernel_rfl) (by kernel_rfl) (by kernel_rfl) (fun _ _ _ h => h) (Or.inl ⟨by rfl, ?_⟩) (by assumption) ?_
          case refine_1 => intro W hSw; have cc : W.cell? ⟨bt, 0, none⟩ = some (.pointer (some ⟨cq.b 0, 0, none⟩)) := hSw.1; go_simp; try rfl
          try simp only [Act.put, List.getElem_toArray, List.getElem_cons_zero, List.getElem_cons_succ, List.setIfInBounds_toArray, List.set_cons_zero, List.set_cons_succ]
          refine wpAnyH_take (i := 6) (v := .pointer (some ⟨bt, 0, none⟩)) rfl (by kernel_rfl) (by kernel_rfl) (by kernel_rfl) (fun _ _ _ h => h) (Or.inl ⟨by rfl, ?_⟩) (by assumption) ?_
          case refine_1 => intro W hSw; go_simp; try rfl
          try simp only [Act.put, List.getElem_toArray, List.getElem_cons_zero, List.getElem_cons_succ, List.setIfInBounds_toArray, List.set_cons_zero, List.set_cons_succ]
          refine wpAnyH_take (i := 7) (v := .pointer (some ⟨bt, 0, none⟩)) rfl (by kernel_rfl) (by kernel_rfl) (by kernel_rfl) (fun _ _ _ h => h) (Or.inl ⟨by rfl, ?_⟩) (by assumption) ?_
          case refine_1 => intro W hSw; go_simp; try rfl
          try simp only [Act.put, List.getElem_toArray, List.getElem_cons_zero, List.getElem_cons_succ, List.setIfInBounds_toArray, List.set_cons_zero, List.set_cons_succ]
          refine wpAnyH_take (i := 8) (v := .pointer (some ⟨bt, 10, none⟩)) rfl (by kernel_rfl) (by kernel_rfl) (by kernel_rfl) (fun _ _ _ h => h) (Or.inl ⟨by rfl, ?_⟩) (by assumption) ?_
          case refine_1 => intro W hSw; go_simp; try rfl
          try simp only [Act.put, List.getElem_toArray, List.getElem_cons_zero, List.getElem_cons_succ, List.setIfInBounds_toArray, List.set_cons_zero, List.set_cons_succ]
          refine wpAnyH_take (i := 9) (v := .int .i64 k2) rfl (by kernel_rfl) (by kernel_rfl) (by kernel_rfl) (fun _ _ _ h => h) (Or.inl ⟨by rfl, ?_⟩) (by assumption) ?_
          case refine_1 => intro W hSw; have cc : W.cell? ⟨bt, 10, none⟩ = some (.int .i64 k2) := hSw.2.2; go_simp; try rfl
          try simp only [Act.put, List.getElem_toArray, List.getElem_cons_zero, List.getElem_cons_succ, List.setIfInBounds_toArray, List.set_cons_zero, List.set_cons_succ]
          refine wpAnyH_ready (rs := [10]) (by kernel_rfl) (by simp) ?_
          refine AllReadyH.cons rfl (fun K hK => ?_) AllReadyH.nil
          go_simp
          refine HTK0.mono ?_
          rintro e X1 ⟨vb, ve, rfl, hmid⟩
          have HOUT := hmid.2.2
          refine hK.out _ _ (hmid.1) (fun hHeld => ?_)
          clear hK K hmid HTK0
          try simp only [Act.put, List.getElem_toArray, List.getElem_cons_zero, List.getElem_cons_succ, List.setIfInBounds_toArray, List.set_cons_zero, List.set_cons_succ]
          refine wpAnyH_ready (rs := [11]) (by kernel_rfl) (by simp) ?_
          refine AllReadyH.cons rfl (fun K hK => ?_) AllReadyH.nil
          go_simp
          refine HOUT.mono ?_
          rintro e X2 ⟨rfl, c2, ht2, hkl2, hb2⟩
          have HU1 : Hid ((tickT u0 0).clk = k2) := (tickT_clk u0 0).trans HU0.out
          refine hK.out _ _ (by have h := ht2.tc.b hb2.1; rw [HU1.out] at h; exact h) (fun hHeld => ?_)
          clear hK K HOUT
          try simp only [Act.put, List.getElem_toArray, List.getElem_cons_zero, List.getElem_cons_succ, List.setIfInBounds_toArray, List.set_cons_zero, List.set_cons_succ]
          refine wpAnyH_done (by kernel_rfl) ?_ _
          clear hHeld
          have HV1 : Hid (vw (tickT u0 0) = tk0 { v4 d0 i0 h0 d1 i1 h1 k a0 e0 a1 e1 with k := k2 }) := by show _ = _; rw [vw_tick0, HV0.out]
          obtain ⟨u1, hu1⟩ : ∃ y, tickT u0 0 = y := ⟨_, rfl⟩
          rw [hu1] at ht2 HU1 HV1
          have HT2 : Hid (TI w8.heap.size X2.drew bt u1 c2) := ht2.bel (drew_bel X2)
          have HK2 : Hid (Kl w9 X2.drew bt c9 c2) := (HKX.out.trans hkl2).trans (Kl.bel (drew_bel X2))
          have HB2 : Hid (c2.b = cq.b) := hb2.1
          have HN2 : Hid (w8.heap.size ≤ X2.drew.heap.size) := Nat.le_trans HN.out.1 HK2.out.str.size
          clear hu1 ht2 hkl2 hb2 HTX HKX HN0
          go_wp2_with fail
          refine wp_region_held_drew (S := TC bt cq k2) (by kernel_rfl) (by have h := HT2.out.tc.b HB2.out; rw [HU1.out] at h; exact h) (fun hHeld => ?_)
          obtain ⟨X3, hX3⟩ : ∃ x, X2.drew = x := ⟨_, rfl⟩
          rw [hX3] at HT2 HK2 HN2 hHeld ⊢
          clear hX3
          have HTK1 := tick1_out w8.heap.size bt u1 c2 X3 HT2.out HN2.out (by rw [HU1.out]; have := HKK.out; omega) (by rw [(vw_parts HV1.out).2.1.1]; exact Nat.zero_le _) (by rw [(vw_parts HV1.out).2.2.2.1.2]; exact Nat.zero_le _) (by rw [(vw_parts HV1.out).2.2.1.2]; show (0 : Int) ≤ 1 ∧ (1 : Int) ≤ _; decide)
          rw [HU1.out, HB2.out] at HTK1
          refine wpAnyH_take (i := 0) (v := .pointer (some ⟨bt, 0, none⟩)) rfl (by kernel_rfl) (by kernel_rfl) (by kernel_rfl) (fun _ _ _ h => h) (Or.inl ⟨by rfl, ?_⟩) (by assumption) ?_
          case refine_1 => intro W hSw; go_simp; try rfl
          try simp only [Act.put, List.getElem_toArray, List.getElem_cons_zero, List.getElem_cons_succ, List.setIfInBounds_toArray, List.set_cons_zero, List.set_cons_succ]
          refine wpAnyH_take (i := 1) (v := .pointer (some ⟨bt, 0, none⟩)) rfl (by kernel_rfl) (by kernel_rfl) (by kernel_rfl) (fun _ _ _ h => h) (Or.inl ⟨by rfl, ?_⟩) (by assumption) ?_
          case refine_1 => intro W hSw; go_simp; try rfl
          try simp only [Act.put, List.getElem_toArray, List.getElem_cons_zero, List.getElem_cons_succ, List.setIfInBounds_toArray, List.set_cons_zero, List.set_cons_succ]
          refine wpAnyH_take (i := 2) (v := .pointer (some ⟨bt, 0, none⟩)) rfl (by kernel_rfl) (by kernel_rfl) (by kernel_rfl) (fun _ _ _ h => h) (Or.inl ⟨by rfl, ?_⟩) (by assumption) ?_
          case refine_1 => intro W hSw; go_simp; try rfl
          try simp only [Act.put, List.getElem_toArray, List.getElem_cons_zero, List.getElem_cons_succ, List.setIfInBounds_toArray, List.set_cons_zero, List.set_cons_succ]
          refine wpAnyH_take (i := 3) (v := .pointer (some ⟨bt, 0, none⟩)) rfl (by kernel_rfl) (by kernel_rfl) (by kernel_rfl) (fun _ _ _ h => h) (Or.inl ⟨by rfl, ?_⟩) (by assumption) ?_
          case refine_1 => intro W hSw; go_simp; try rfl
          try simp only [Act.put, List.getElem_toArray, List.getElem_cons_zero, List.getElem_cons_succ, List.setIfInBounds_toArray, List.set_cons_zero, List.set_cons_succ]
          refine wpAnyH_take (i := 4) (v := .pointer (some ⟨bt, 1, none⟩)) rfl (by kernel_rfl) (by kernel_rfl) (by kernel_rfl) (fun _ _ _ h => h) (Or.inl ⟨by rfl, ?_⟩) (by assumption) ?_
          case refine_1 => intro W hSw; go_simp; try rfl
          try simp only [Act.put, List.getElem_toArray, List.getElem_cons_zero, List.getElem_cons_succ, List.setIfInBounds_toArray, List.set_cons_zero, List.set_cons_succ]
          refine wpAnyH_take (i := 5) (v := .pointer (some ⟨cq.b 1, 0, none⟩)) rfl (by kernel_rfl) (by kernel_rfl) (by kernel_rfl) (fun _ _ _ h => h) (Or.inl ⟨by rfl, ?_⟩) (by assumption) ?_
          case refine_1 => intro W hSw; have cc : W.cell? ⟨bt, 1, none⟩ = some (.pointer (some ⟨cq.b 1, 0, none⟩)) := hSw.2.1; go_simp; try rfl
          try simp only [Act.put, List.getElem_toArray, List.getElem_cons_zero, List.getElem_cons_succ, List.setIfInBounds_toArray, List.set_cons_zero, List.set_cons_succ]
          refine wpAnyH_take (i := 6) (v := .pointer (some ⟨bt, 0, none⟩)) rfl (by kernel_rfl) (by kernel_rfl) (by kernel_rfl) (fun _ _ _ h => h) (Or.inl ⟨by rfl, ?_⟩) (by assumption) ?_
          case refine_1 => intro W hSw; go_simp; try rfl
          try simp only [Act.put, List.getElem_toArray, List.getElem_cons_zero, List.getElem_cons_succ, List.setIfInBounds_toArray, List.set_cons_zero, List.set_cons_succ]
          refine wpAnyH_take (i := 7) (v := .pointer (some ⟨bt, 0, none⟩)) rfl (by kernel_rfl) (by kernel_rfl) (by kernel_rfl) (fun _ _ _ h => h) (Or.inl ⟨by rfl, ?_⟩) (by assumption) ?_
          case refine_1 => intro W hSw; go_simp; try rfl
          try simp only [Act.put, List.getElem_toArray, List.getElem_cons_zero, List.getElem_cons_succ, List.setIfInBounds_toArray, List.set_cons_zero, List.set_cons_succ]
          refine wpAnyH_take (i := 8) (v := .pointer (some ⟨bt, 10, none⟩)) rfl (by kernel_rfl) (by kernel_rfl) (by kernel_rfl) (fun _ _ _ h => h) (Or.inl ⟨by rfl, ?_⟩) (by assumption) ?_
          case refine_1 => intro W hSw; go_simp; try rfl
          try simp only [Act.put, List.getElem_toArray, List.getElem_cons_zero, List.getElem_cons_succ, List.setIfInBounds_toArray, List.set_cons_zero, List.set_cons_succ]
          refine wpAnyH_take (i := 9) (v := .int .i64 k2) rfl (by kernel_rfl) (by kernel_rfl) (by kernel_rfl) (fun _ _ _ h => h) (Or.inl ⟨by rfl, ?_⟩) (by assumption) ?_
          case refine_1 => intro W hSw; have cc : W.cell? ⟨bt, 10, none⟩ = some (.int .i64 k2) := hSw.2.2; go_simp; try rfl
          try simp only [Act.put, List.getElem_toArray, List.getElem_cons_zero, List.getElem_cons_succ, List.setIfInBounds_toArray, List.set_cons_zero, List.set_cons_succ]
          refine wpAnyH_ready (rs := [10]) (by kernel_rfl) (by simp) ?_
          refine AllReadyH.cons rfl (fun K hK => ?_) AllReadyH.nil
          go_simp
          refine HTK1.mono ?_
          rintro e X4 ⟨vb, ve, rfl, hmid⟩
          have HOUT := hmid.2.2
          refine hK.out _ _ (hmid.1.b HB2.out) (fun hHeld => ?_)
          clear hK K hmid HTK1
          try simp only [Act.put, List.getElem_toArray, List.getElem_cons_zero, List.getElem_cons_succ, List.setIfInBounds_toArray, List.set_cons_zero, List.set_cons_succ]
          refine wpAnyH_ready (rs := [11]) (by kernel_rfl) (by simp) ?_
          refine AllReadyH.cons rfl (fun K hK => ?_) AllReadyH.nil
          go_simp
          refine HOUT.mono ?_
          rintro e X5 ⟨rfl, c4, ht4, hkl4, hb4⟩
          have HU2 : Hid ((tickT u1 1).clk = k2) := (tickT_clk u1 1).trans HU1.out
          refine hK.out _ _ (by have h := ht4.tc.b (hb4.1.trans HB2.out); rw [HU2.out] at h; exact h) (fun hHeld => ?_)
          clear hK K HOUT
          try simp only [Act.put, List.getElem_toArray, List.getElem_cons_zero, List.getElem_cons_succ, List.setIfInBounds_toArray, List.set_cons_zero, List.set_cons_succ]
          refine wpAnyH_done (by kernel_rfl) ?_ _
          clear hHeld
          have HV2 : Hid (vw (tickT u1 1) = tk1 (tk0 { v4 d0 i0 h0 d1 i1 h1 k a0 e0 a1 e1 with k := k2 })) := by show _ = _; rw [vw_tick1, HV1.out]
          obtain ⟨u2, hu2⟩ : ∃ y, tickT u1 1 = y := ⟨_, rfl⟩
          rw [hu2] at ht4 HV2
          have HT5 : Hid (TI w8.heap.size X5 bt u2 c4) := ht4
          have HK5 : Hid (Kl w9 X5 bt c9 c4) := HK2.out.trans hkl4
          clear hu2 ht4 hkl4 hb4 HV1 HV0 HU0 HU1 HU2 HT2 HK2
          have s0 : X5.cell? ⟨bt, 0, none⟩ = some (.pointer (some ⟨c4.b 0, 0, none⟩)) := HT5.out.tc.1
          have s1 : X5.cell? ⟨bt, 1, none⟩ = some (.pointer (some ⟨c4.b 1, 0, none⟩)) := HT5.out.tc.2.1
          have HS0 := state_any (c4.b 0) 0 X5 (HT5.out.state 0 (by omega) (by rw [(vw_parts HV2.out).1.1]; exact up_end HKK.out.1 HKK.out.2.2.2.1 HKK.out.2.2.2.2.1))
          have HS1 := state_any (c4.b 1) 0 X5 (HT5.out.state 1 (by omega) (by rw [(vw_parts HV2.out).1.2]; exact up_end HKK.out.1 (by rw [Int.min_comm]; exact HKK.out.2.2.2.1) (by rw [Int.min_comm]; exact HKK.out.2.2.2.2.2)))
          go_wp2_with fail
          refine HS0.mono ?_
          rintro e w' ⟨rfl, hw'⟩
          rw [hw']
          clear hw' w' HS0
          go_wp2_with fail
          refine HS1.mono ?_
          rintro e w' ⟨rfl, hw'⟩
          rw [hw']
          clear hw' w' HS1
          go_wp2_with fail
          go_ret
          exact ⟨rfl, HBE9.out.trans ((HK5.out.below HN.out.1 HLO.out).mono HN.out.2)⟩
end Go.Proofs.Ytanboekdfdafmaa.Pv
