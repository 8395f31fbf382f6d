/- DampPlays: its law. -/
import Derived.Test.YtjfiahendnlcjaaDqG
namespace Go.Proofs.Ytjfiahendnlcjaa.Da
open Go.ChangeShapes Go.WideShapes Go.ChangeAt Go.RowKit Go.Joins Go.Deep Go.Proofs.Ytjfiahendnlcjaa.Ge Go.Proofs.Ytjfiahendnlcjaa.PM Go.Proofs.Ytjfiahendnlcjaa.Ask
set_option linter.unusedVariables false
set_option linter.unusedSimpArgs false

theorem max_run {o : Oper} {ρ : Operand → Value} {W : World} (x y : Operand) (ho : o.op = .call { callee := .builtin .max, args := #[x, y], argTypes := #[3, 3] }) {a b : Int} (hx : ρ x = .int .i64 a) (hy : ρ y = .int .i64 b) : (execOp ρ o).run Try.prog W = .ok (.value (.int .i64 (max a b))) W := by
  unfold execOp
  rw [ho]
  by_cases h : a < b
  · have : max a b = b := by omega
    rw [this]
    simp [go_sem, hx, hy, h]
    try exact this
  · have : max a b = a := by omega
    rw [this]
    simp [go_sem, hx, hy, h]
    try exact this
theorem list_max {ops : Array Oper} {rest : List Oper} {o : Oper} {ac : Act} {Q : Exit → Act → World → Prop} {W : World} (hgd : o.guard = none) (x y : Operand) (ho : o.op = .call { callee := .builtin .max, args := #[x, y], argTypes := #[3, 3] }) {a b c : Int} (hx : ac.eval x = .int .i64 a) (hy : ac.eval y = .int .i64 b) (hc : max a b = c)
    (k : wpList Try.prog ops Q rest (ac.put o.dst (.int .i64 c)) W) : wpList Try.prog ops Q (o :: rest) ac W := by
  subst hc
  refine wpList_plain hgd fun K hK => ?_
  unfold Oper.wp
  rw [max_run x y ho hx hy]
  exact hK _ _ k
/-- both between two steps -/
structure LS (w : World) (dx : Dw) (bd n : Nat) (iv : Value) (W : World) : Prop where
  at_ : ∃ (i : Nat) (c : Dc) (va : Option Addr) (ln cap : Nat), i ≤ n ∧ iv = .int .i64 (i : Int) ∧ LQ w dx bd i c va ln cap W ∧ SB DdK bd (ddL c va ln cap) W
structure SpI (W8 : World) (g nl : Nat) (kv : Value) (W : World) : Prop where
  at_ : ∃ k : Nat, k ≤ nl ∧ kv = .int .i64 (k : Int)
  ko : Ko W8 g W
  th : Th W g (nl * 2)
set_option maxRecDepth 100000 in
set_option maxHeartbeats 32000000 in
theorem plays_any (ca cb cc cd ce cf : Int) (va0 : Option Addr) (n cap0 : Nat) (l : List Ds) (w : World) (hl : Lst ED w va0 l) (hln : l.length = n) (hlo : ∀ x ∈ l, DsOk x) :
    Calls Try.prog 3 #[.agg (cgL ca cb cc cd ce cf).toArray, .slice va0 n cap0] w fun e w' => e = .returned (.bool true) ∧ Below w.heap.size w w' := by
  have HL : Hid (Lst ED w va0 l) := hl
  have HLN : Hid (l.length = n) := hln
  have HLO : Hid (∀ x ∈ l, DsOk x) := hlo
  have hns : n ≤ 9223372036854775807 := by rw [← hln]; exact hl.small
  clear hl hln hlo
  go_enter Try.func3, Try.ntmps3
  go_wp2_with (refine list_sbox CgK rfl _ rfl (cs := [.int .i64 ca, .int .i64 cb, .int .i64 cc, .int .i64 cd, .int .i64 ce, .int .i64 cf]) rfl ?_)
  intro w1 hb1 hbl1 hz1
  obtain ⟨b2, hb3⟩ : ∃ y, w.heap.size = y := ⟨_, rfl⟩
  have HX1 : Hid (SB CgK b2 [.int .i64 ca, .int .i64 cb, .int .i64 cc, .int .i64 cd, .int .i64 ce, .int .i64 cf] w1) := by rw [← hb3]; exact hb1.out
  have HB1 : Hid (Below w.heap.size w w1) := hbl1.out
  rw [hb3]
  clear hb1 hbl1 hz1 hb3
  by_cases h3 : 1000 < n
  case pos =>
    have h3i : (1000 : Int) < (n : Int) := by omega
    go_wp2_with fail
    go_ret
    exact ⟨rfl, HB1.out⟩
  have h3i : ¬ (1000 : Int) < (n : Int) := by omega
  by_cases hm : mayD ca cb cc cd ce cf
  case neg =>
    have HM : Hid (¬ mayD ca cb cc cd ce cf) := hm
    clear hm
    go_wp2_with (refine list_sload CgK rfl _ rfl (b := b2) (cs := [.int .i64 ca, .int .i64 cb, .int .i64 cc, .int .i64 cd, .int .i64 ce, .int .i64 cf]) rfl HX1.out rfl ?_)
    refine (new_no ca cb cc cd ce cf w1 HM.out).mono ?_
    rintro e w3 ⟨rfl, hb3⟩
    have HX3 : Hid (SB CgK b2 [.int .i64 ca, .int .i64 cb, .int .i64 cc, .int .i64 cd, .int .i64 ce, .int .i64 cf] w3) := HX1.out.blk (hb3.block _ HX1.out.lt)
    have HB3 : Hid (Below w.heap.size w w3) := HB1.out.trans (hb3.mono HB1.out.size)
    clear hb3 HX1 HB1
    go_wp2_with (refine list_sload CgK rfl _ rfl (b := b2) (cs := [.int .i64 ca, .int .i64 cb, .int .i64 cc, .int .i64 cd, .int .i64 ce, .int .i64 cf]) rfl HX3.out rfl ?_)
    refine (dmay_any ca cb cc cd ce cf false (fun h => absurd h HM.out) (fun _ => rfl) w3).mono ?_
    rintro e w4 ⟨rfl, hb4⟩
    have HB4 : Hid (Below w.heap.size w w4) := HB3.out.trans (hb4.mono HB3.out.size)
    clear hb4 HX3 HB3
    go_wp2_with fail
    go_ret
    exact ⟨rfl, HB4.out⟩
  have HM : Hid (mayD ca cb cc cd ce cf) := hm
  clear hm
  go_wp2_with (refine list_sload CgK rfl _ rfl (b := b2) (cs := [.int .i64 ca, .int .i64 cb, .int .i64 cc, .int .i64 cd, .int .i64 ce, .int .i64 cf]) rfl HX1.out rfl ?_)
  refine (new_any ca cb cc cd ce cf w1 HM.out).mono ?_
  rintro e w3 ⟨dx, rfl, hdx, hb3, hfx⟩
  have HX3 : Hid (SB CgK b2 [.int .i64 ca, .int .i64 cb, .int .i64 cc, .int .i64 cd, .int .i64 ce, .int .i64 cf] w3) := HX1.out.blk (hb3.block _ HX1.out.lt)
  have HB3 : Hid (Below w.heap.size w w3) := HB1.out.trans (hb3.mono HB1.out.size)
  have HDX : Hid (Dp w3 dx (dcOf ca cb cc cd ce cf) [] 0 [] 0) := hdx
  have HFX : Hid (∀ g, fpD dx g → w.heap.size ≤ g ∧ g < w3.heap.size) := fun g hg => ⟨Nat.le_trans HB1.out.size (hfx g hg), hdx.lt g hg⟩
  clear hdx hb3 hfx HX1 HB1
  obtain ⟨bx, hbx⟩ : ∃ y, dx.b = y := ⟨_, rfl⟩
  have HBX : Hid (dx.b = bx) := hbx
  rw [hbx]
  clear hbx
  go_wp2_with (refine list_sload CgK rfl _ rfl (b := b2) (cs := [.int .i64 ca, .int .i64 cb, .int .i64 cc, .int .i64 cd, .int .i64 ce, .int .i64 cf]) rfl HX3.out rfl ?_)
  refine (dmay_any ca cb cc cd ce cf true (fun _ => rfl) (fun h => absurd HM.out h) w3).mono ?_
  rintro e w4 ⟨rfl, hb4⟩
  have HX4 : Hid (SB CgK b2 [.int .i64 ca, .int .i64 cb, .int .i64 cc, .int .i64 cd, .int .i64 ce, .int .i64 cf] w4) := HX3.out.blk (hb4.block _ HX3.out.lt)
  have HB4 : Hid (Below w.heap.size w w4) := HB3.out.trans (hb4.mono HB3.out.size)
  have HD4 : Hid (Dp w4 dx (dcOf ca cb cc cd ce cf) [] 0 [] 0) := HDX.out.bel hb4
  have HF4 : Hid (∀ g, fpD dx g → w.heap.size ≤ g ∧ g < w4.heap.size) := fun g hg => ⟨(HFX.out g hg).1, Nat.lt_of_lt_of_le (HFX.out g hg).2 hb4.size⟩
  clear hb4 HX3 HB3 HDX HFX
  go_wp2_with (first | (refine list_sload CgK rfl _ rfl (b := b2) (cs := [.int .i64 ca, .int .i64 cb, .int .i64 cc, .int .i64 cd, .int .i64 ce, .int .i64 cf]) rfl HX4.out rfl ?_) | (refine list_ddnew rfl rfl ?_))
  intro bd w5 hbe hx hb
  have HX5 : Hid (SB DdK bd (ddL zc none 0 0) w5) := hx.out
  have HB5 : Hid (Below w.heap.size w w5) := HB4.out.trans (hb.out.mono HB4.out.size)
  have HD5 : Hid (Dp w5 dx (dcOf ca cb cc cd ce cf) [] 0 [] 0) := HD4.out.bel hb.out
  have HBD : Hid (w.heap.size ≤ bd ∧ ¬ fpD dx bd) := ⟨by have := hbe.out; have := HB4.out.size; omega, fun hf => by have := (HF4.out bd hf).2; have := hbe.out; omega⟩
  have HFP : Hid (∀ g, fpD dx g → w.heap.size ≤ g) := fun g hg => (HF4.out g hg).1
  clear hbe hx hb HX4 HB4 HD4 HF4
  have HCV : Hid ([.int .i64 ca, .int .i64 cb, .int .i64 cc, .int .i64 cd, .int .i64 ce, .int .i64 cf, .int .i64 0, .slice none 0 0] = ddL (dcOf ca cb cc cd ce cf) none 0 0) := by
    have h9 := HM.out
    unfold mayD at h9
    show _ = _
    unfold ddL dcOf
    simp only [List.cons.injEq, Value.int.injEq, and_true, true_and]
    refine ⟨?_, ?_, ?_, ?_, ?_, ?_, ?_⟩ <;> omega
  go_wp2_with (refine list_sstore DdK rfl _ _ rfl (b := bd) (cs := ddL zc none 0 0) (cs' := [.int .i64 ca, .int .i64 cb, .int .i64 cc, .int .i64 cd, .int .i64 ce, .int .i64 cf, .int .i64 0, .slice none 0 0]) rfl rfl HX5.out rfl rfl rfl ?_)
  intro w6 hx6 hk6
  have HS6 : Hid (LS w dx bd n (.int .i64 0) w6) := by
    have h1 := hx6.out
    rw [HCV.out] at h1
    refine ⟨⟨0, dcOf ca cb cc cd ce cf, none, 0, 0, Nat.zero_le _, rfl, ⟨⟨[], 0, [], 0, [], HD5.out.blk (fun g hg _ => hk6.out.block g (fun e => HBD.out.2 (e ▸ hg))), ⟨List.nodup_nil, (fun m hm => by cases hm), (fun p t ht => rfl), (fun p t ht => rfl), (fun p => rfl), (fun p hp => by cases hp)⟩, ⟨Nat.zero_le _, fun i hi => absurd hi (by simp)⟩, rfl, Nat.zero_le _, Nat.zero_le _, Nat.zero_le _⟩, (fun b o s e => by cases e), HB5.out.trans (hk6.out.below HBD.out.1), HFP.out, HBD.out⟩, h1⟩⟩
  clear hx6 hk6 HX5 HD5 HB5 HCV HM
  go_wp2_with fail
  go_loopw [46, 9, 10, 11, 12, 13, 14, 15, 16, 17, 18] (fun iv _ _ _ _ _ _ _ _ _ _ wr => LS w dx bd n iv wr) (fun i _ _ _ _ _ _ _ _ _ _ _ => n - (intOf i).toNat)
  case atStart => exact HS6.out
  case round =>
    obtain ⟨⟨i, c, va, ln, cap, hi, rfl, hlq, hsb⟩⟩ := hrel
    have HQ : Hid (LQ w dx bd i c va ln cap wr) := hlq
    have HX : Hid (SB DdK bd (ddL c va ln cap) wr) := hsb
    obtain ⟨wz, hwz⟩ : ∃ y, wr = y := ⟨_, rfl⟩
    rw [hwz] at HQ HX ⊢
    clear hwz hlq hsb HS6
    by_cases hlt : i < n
    case neg =>
      have hlti : ¬ (i : Int) < (n : Int) := by omega
      have HE : Hid (Below w.heap.size w wz) := HQ.out.bel
      go_wp2_with fail
      go_ret
      exact ⟨rfl, HE.out⟩
    have hlti : (i : Int) < (n : Int) := by omega
    have hi0 : (0 : Int) ≤ (i : Int) := by omega
    obtain ⟨lb, lo, rfl, hlbl, hcl⟩ := lstD HL.out i (by rw [HLN.out]; exact hlt)
    obtain ⟨x, hx⟩ : ∃ y, l[i]'(by rw [HLN.out]; exact hlt) = y := ⟨_, rfl⟩
    have HXO : Hid (DsOk x) := HLO.out x (hx ▸ List.getElem_mem _)
    rw [hx] at hcl
    have HC5 : Hid (∀ j, j < DsK.k → wz.cell? ⟨lb, lo + i * 5 + j, none⟩ = (dsL x)[j]?) := fun j hj => by
      rw [← hcl j hj]
      unfold World.cell?
      rw [HQ.out.bel.block lb hlbl]
    clear hcl hx hlbl
    go_wp2_with (first | (refine list_sat DsK rfl _ rfl (b := lb) (k := lo + i * 5) (cs := dsL x) rfl HC5.out rfl ?_) | (refine list_dsnew rfl rfl ?_))
    intro b9 w7 hbe hx7 hbl7
    have HX7 : Hid (SB DsK b9 (dsL ⟨0, (0, 0), 0, 0⟩) w7) := hx7.out
    have HB7 : Hid (Below wz.heap.size wz w7) := hbl7.out
    have HN9 : Hid (wz.heap.size ≤ b9) := Nat.le_of_eq hbe.out
    clear hbe hx7 hbl7 HC5
    go_wp2_with (refine list_sstore DsK rfl _ _ rfl (b := b9) (cs := dsL ⟨0, (0, 0), 0, 0⟩) (cs' := dsL x) rfl rfl HX7.out rfl rfl rfl ?_)
    intro w8 hx8 hk8
    have HX9 : Hid (SB DsK b9 (dsL x) w8) := hx8.out
    have HB8 : Hid (Below wz.heap.size wz w8) := HB7.out.trans (hk8.out.below HN9.out)
    have HF9 : Hid (¬ fpD dx b9) := fun hf => by have := HQ.out.lt _ hf; have := HN9.out; omega
    have HDL : Hid (bd < wz.heap.size) := HX.out.lt
    clear hx8 hk8 HX7 HB7
    obtain ⟨nw, hnw⟩ : ∃ y, IntKind.i64.wrap ((c.clock : Int) + x.wt) = y := ⟨_, rfl⟩
    have HNR : Hid (-9223372036854775808 ≤ nw ∧ nw < 9223372036854775808) := by rw [← hnw]; exact wrap_rng _
    have HXD : Hid (SB DdK bd (ddL c va ln cap) w8) := HX.out.blk (HB8.out.block _ HX.out.lt)
    have HQ8 : Hid (LQ w dx bd i c va ln cap w8) := HQ.out.step HB8.out
    have HCP : Hid (∀ W, SB DsK b9 (dsL x) W → ∀ j, j < PxK.k → W.cell? ⟨b9, 1 + j, none⟩ = (pxL x.p)[j]?) := fun W hW => by have h5 := ds_px (k := 0) (sb_five hW); exact h5
    have HLE : Hid (w.heap.size ≤ b9 ∧ b9 ≠ bd) := ⟨Nat.le_trans HQ.out.bel.size HN9.out, by have := HDL.out; have := HN9.out; show b9 ≠ bd; omega⟩
    have hbdl : bd < w8.heap.size := HXD.out.lt
    clear HQ HX HB8 HN9 HDL
    have cd6 : w8.cell? ⟨bd, 6, none⟩ = some (.int .i64 (c.clock : Int)) := HXD.out.cell 6
    have c94 : w8.cell? ⟨b9, 4, none⟩ = some (.int .i64 x.wt) := HX9.out.cell 4
    have c90 : w8.cell? ⟨b9, 0, none⟩ = some (.int .i64 x.d) := HX9.out.cell 0
    have c93 : w8.cell? ⟨b9, 3, none⟩ = some (.int .i64 x.what) := HX9.out.cell 3
    by_cases hd0 : x.d = 0
    case pos =>
      as_aux_lemma =>
        have hd0b : (x.d == 0) = true := by simpa using hd0
        clear hd0
        have HFL := HQ8.out.flap hbdl (by omega) x.p HXO.out.1 x.what nw
        rw [HBX.out] at HFL
        go_wp2_with (refine list_sat PxK rfl _ rfl (b := b9) (k := 1) (cs := pxL x.p) rfl (HCP.out _ HX9.out) rfl ?_)
        refine HFL.mono ?_
        rintro e W1 ⟨r, rfl, hk1, hnext⟩
        have HNX := hnext W1 (Below.refl _ _)
        have HXA : Hid (SB DsK b9 (dsL x) W1) := HX9.out.blk (hk1.blk _ HX9.out.lt HF9.out)
        have HDA : Hid (SB DdK bd (ddL c va ln cap) W1) := HXD.out.blk (hk1.blk _ HXD.out.lt HQ8.out.bdn.2)
        clear hk1 hnext HFL HQ8 HX9 HXD cd6 c94 c90 c93
        have c93 : W1.cell? ⟨b9, 3, none⟩ = some (.int .i64 x.what) := HXA.out.cell 3
        go_wp2_with (first | (refine list_sload DdK rfl _ rfl (b := bd) (cs := ddL c va ln cap) rfl HDA.out rfl ?_) | (refine list_sat PxK rfl _ rfl (b := b9) (k := 1) (cs := pxL x.p) rfl (HCP.out _ HXA.out) rfl ?_))
        refine HNX.mono ?_
        rintro e W2 ⟨c', va', n', cap', rfl, hb2, hq2⟩
        have HQ2 : Hid (LQ w dx bd (i + 1) c' va' n' cap' W2) := hq2
        have HD2 : Hid (SB DdK bd (ddL c va ln cap) W2) := HDA.out.blk (hb2.block _ HDA.out.lt)
        clear hb2 hq2 HNX HXA HDA c93
        go_wp2_with (refine list_ddnew rfl rfl ?_)
        intro b12 W3 hbe hx hb
        have HB3 : Hid (Below W2.heap.size W2 W3) := hb.out
        have HX3 : Hid (SB DdK b12 (ddL zc none 0 0) W3) := hx.out
        have HN3 : Hid (W2.heap.size ≤ b12) := Nat.le_of_eq hbe.out
        clear hbe hx hb
        go_wp2_with (refine list_sstore DdK rfl _ _ rfl (b := b12) (cs := ddL zc none 0 0) (cs' := ddL c' va' n' cap') rfl rfl HX3.out rfl rfl rfl ?_)
        intro W4 hx4 hk4
        have HX4 : Hid (SB DdK b12 (ddL c' va' n' cap') W4) := hx4.out
        have HB4 : Hid (Below W2.heap.size W2 W4) := HB3.out.trans (hk4.out.below HN3.out)
        have HQ4 : Hid (LQ w dx bd (i + 1) c' va' n' cap' W4) := HQ2.out.step HB4.out
        have HD4 : Hid (SB DdK bd (ddL c va ln cap) W4) := HD2.out.blk (HB4.out.block _ HD2.out.lt)
        clear hx4 hk4 HB3 HX3 HB4 HQ2 HD2 HN3
        go_wp2_with (first | (refine list_sload DdK rfl _ rfl (b := b12) (cs := ddL c' va' n' cap') rfl HX4.out rfl ?_) | (refine list_sstore DdK rfl _ _ rfl (b := bd) (cs := ddL c va ln cap) (cs' := ddL c' va' n' cap') rfl rfl HD4.out rfl rfl rfl ?_))
        intro W5 hx5 hk5
        have HEND : Hid (LS w dx bd n (.int .i64 ((i + 1 : Nat) : Int)) W5) := ⟨⟨i + 1, c', va', n', cap', by omega, rfl, HQ4.out.kb hk5.out, hx5.out⟩⟩
        clear hx5 hk5 HX4 HQ4 HD4
        go_wp2_with fail
        refine ⟨?_, by simp [intOf]; omega⟩
        first | exact HEND.out | simpa using HEND.out
    case neg =>
    have hd0b : (x.d == 0) = false := by simpa using hd0
    by_cases hd1 : x.d = 1
    case pos =>
      as_aux_lemma =>
        have hd1b : (x.d == 1) = true := by simpa using hd1
        clear hd0 hd1
        obtain ⟨t, ht⟩ : ∃ t : Nat, max nw (c.clock : Int) = (t : Int) := ⟨(max nw (c.clock : Int)).toNat, by omega⟩
        obtain ⟨z, hb, hask⟩ := (HQ8.out.step (drew_bel w8)).ask x.p nw HNR.out.2 t ht
        rw [HBX.out] at hask
        have HASK : Hid (∀ W', Below w8.drew.heap.size w8.drew W' → _ ∧ _ ∧ _ ∧ _) := hask
        clear hask
        have HT : Hid (max nw (c.clock : Int) = (t : Int)) := ht
        clear ht
        go_upto_region 21 with fail
        go_wp2_with (refine list_max rfl _ _ rfl rfl rfl HT.out ?_)
        have HQD : Hid (LQ w dx bd i c va ln cap w8.drew) := HQ8.out.step (drew_bel w8)
        have HS0 : Hid (SB DdK bd (ddL c va ln cap) w8.drew ∧ SB DsK b9 (dsL x) w8.drew) := ⟨HXD.out.blk ((drew_bel w8).block _ HXD.out.lt), HX9.out.blk ((drew_bel w8).block _ HX9.out.lt)⟩
        refine wp_region_held_drew (S := fun W => SB DdK bd (ddL c va ln cap) W ∧ SB DsK b9 (dsL x) W) (by kernel_rfl) HS0.out (fun hHeld => ?_)
        obtain ⟨wd, hwd⟩ : ∃ z, w8.drew = z := ⟨_, rfl⟩
        rw [hwd] at HASK HQD hHeld ⊢
        clear hwd HS0 HQ8 HX9 HXD cd6 c94 c90 c93
        have HBA : Hid (Below wd.heap.size wd wd) := Below.refl _ _
        refine wpAnyH_take (i := 0) (v := .pointer (some ⟨bx, 0, none⟩)) rfl (by kernel_rfl) (by kernel_rfl) (by kernel_rfl) (fun _ _ _ h => h) (Or.inl ⟨by rfl, ?_⟩) (by assumption) ?_
        case refine_1 => intro W hSw; go_simp; try rfl
        try simp only [Act.put, List.getElem_toArray, List.getElem_cons_zero, List.getElem_cons_succ, List.setIfInBounds_toArray, List.set_cons_zero, List.set_cons_succ]
        refine wpAnyH_take (i := 1) (v := .pointer (some ⟨b9, 1, none⟩)) rfl (by kernel_rfl) (by kernel_rfl) (by kernel_rfl) (fun _ _ _ h => h) (Or.inl ⟨by rfl, ?_⟩) (by assumption) ?_
        case refine_1 => intro W hSw; go_simp; try rfl
        try simp only [Act.put, List.getElem_toArray, List.getElem_cons_zero, List.getElem_cons_succ, List.setIfInBounds_toArray, List.set_cons_zero, List.set_cons_succ]
        refine wpAnyH_take (i := 2) (v := .agg (pxL x.p).toArray) rfl (by kernel_rfl) (by kernel_rfl) (by kernel_rfl) (fun _ _ _ h => h) (Or.inl ⟨by rfl, fun W hSw => sat_run PxK (.tmp 87) rfl (b := b9) (k := 1) rfl (HCP.out _ hSw.2) rfl⟩) (by assumption) ?_
        try simp only [Act.put, List.getElem_toArray, List.getElem_cons_zero, List.getElem_cons_succ, List.setIfInBounds_toArray, List.set_cons_zero, List.set_cons_succ]
        refine wpAnyH_take (i := 3) (v := .int .i64 nw) rfl (by kernel_rfl) (by kernel_rfl) (by kernel_rfl) (fun _ _ _ h => h) (Or.inl ⟨by rfl, ?_⟩) (by assumption) ?_
        case refine_1 => intro W hSw; go_simp; try rfl
        try simp only [Act.put, List.getElem_toArray, List.getElem_cons_zero, List.getElem_cons_succ, List.setIfInBounds_toArray, List.set_cons_zero, List.set_cons_succ]
        refine wpAnyH_take (i := 5) (v := .agg (ddL c va ln cap).toArray) rfl (by kernel_rfl) (by kernel_rfl) (by kernel_rfl) (fun _ _ _ h => h) (Or.inl ⟨by rfl, fun W hSw => Go.Proofs.Ytjfiahendnlcjaa.Ge.sload_run DdK (.tmp 7) rfl (b := bd) rfl hSw.1 rfl⟩) (by assumption) ?_
        try simp only [Act.put, List.getElem_toArray, List.getElem_cons_zero, List.getElem_cons_succ, List.setIfInBounds_toArray, List.set_cons_zero, List.set_cons_succ]
        refine wpAnyH_take (i := 6) (v := .pointer (some ⟨b9, 1, none⟩)) rfl (by kernel_rfl) (by kernel_rfl) (by kernel_rfl) (fun _ _ _ h => h) (Or.inl ⟨by rfl, ?_⟩) (by assumption) ?_
        case refine_1 => intro W hSw; go_simp; try rfl
        try simp only [Act.put, List.getElem_toArray, List.getElem_cons_zero, List.getElem_cons_succ, List.setIfInBounds_toArray, List.set_cons_zero, List.set_cons_succ]
        refine wpAnyH_take (i := 7) (v := .agg (pxL x.p).toArray) rfl (by kernel_rfl) (by kernel_rfl) (by kernel_rfl) (fun _ _ _ h => h) (Or.inl ⟨by rfl, fun W hSw => sat_run PxK (.tmp 92) rfl (b := b9) (k := 1) rfl (HCP.out _ hSw.2) rfl⟩) (by assumption) ?_
        try simp only [Act.put, List.getElem_toArray, List.getElem_cons_zero, List.getElem_cons_succ, List.setIfInBounds_toArray, List.set_cons_zero, List.set_cons_succ]
        refine wpAnyH_take (i := 8) (v := .int .i64 (t : Int)) rfl (by kernel_rfl) (by kernel_rfl) (by kernel_rfl) (fun _ _ _ h => h) (Or.inl ⟨by rfl, ?_⟩) (by assumption) ?_
        case refine_1 => intro W hSw; go_simp; try rfl
        try simp only [Act.put, List.getElem_toArray, List.getElem_cons_zero, List.getElem_cons_succ, List.setIfInBounds_toArray, List.set_cons_zero, List.set_cons_succ]
        refine wpAnyH_ready (rs := [4]) (by kernel_rfl) (by simp) ?_
        refine AllReadyH.cons rfl (fun K hK => ?_) AllReadyH.nil
        have HPE := (HASK.out wd HBA.out).1
        go_simp
        refine HPE.mono ?_
        rintro e p1 ⟨rfl, hbe⟩
        have HBp1 : Hid (Below wd.heap.size wd p1) := HBA.out.trans (hbe.mono HBA.out.size)
        refine hK.out _ _ ⟨hHeld.1.blk (hbe.block _ hHeld.1.lt), hHeld.2.blk (hbe.block _ hHeld.2.lt)⟩ (fun hHeld => ?_)
        clear hK K hbe HPE
        try simp only [Act.put, List.getElem_toArray, List.getElem_cons_zero, List.getElem_cons_succ, List.setIfInBounds_toArray, List.set_cons_zero, List.set_cons_succ]
        refine wpAnyH_ready (rs := [9]) (by kernel_rfl) (by simp) ?_
        refine AllReadyH.cons rfl (fun K hK => ?_) AllReadyH.nil
        have HPE := (HASK.out p1 HBp1.out).2.1
        go_simp
        refine HPE.mono ?_
        rintro e p2 ⟨rfl, hbe⟩
        have HBp2 : Hid (Below wd.heap.size wd p2) := HBp1.out.trans (hbe.mono HBp1.out.size)
        refine hK.out _ _ ⟨hHeld.1.blk (hbe.block _ hHeld.1.lt), hHeld.2.blk (hbe.block _ hHeld.2.lt)⟩ (fun hHeld => ?_)
        clear hK K hbe HPE
        try simp only [Act.put, List.getElem_toArray, List.getElem_cons_zero, List.getElem_cons_succ, List.setIfInBounds_toArray, List.set_cons_zero, List.set_cons_succ]
        refine wpAnyH_take (i := 10) (v := .bool false) rfl (by kernel_rfl) (by kernel_rfl) (by kernel_rfl) (fun _ _ _ h => h) (Or.inl ⟨by rfl, ?_⟩) (by assumption) ?_
        case refine_1 => intro W hSw; go_simp; try rfl
        try simp only [Act.put, List.getElem_toArray, List.getElem_cons_zero, List.getElem_cons_succ, List.setIfInBounds_toArray, List.set_cons_zero, List.set_cons_succ]
        refine wpAnyH_take (i := 11) (v := .bool false) rfl (by kernel_rfl) (by kernel_rfl) (by kernel_rfl) (fun _ _ _ h => h) (Or.inl ⟨by rfl, ?_⟩) (by assumption) ?_
        case refine_1 => intro W hSw; go_simp; try rfl
        try simp only [Act.put, List.getElem_toArray, List.getElem_cons_zero, List.getElem_cons_succ, List.setIfInBounds_toArray, List.set_cons_zero, List.set_cons_succ]
        refine wpAnyH_take (i := 12) (v := .pointer (some ⟨bx, 0, none⟩)) rfl (by kernel_rfl) (by kernel_rfl) (by kernel_rfl) (fun _ _ _ h => h) (Or.inl ⟨by rfl, ?_⟩) (by assumption) ?_
        case refine_1 => intro W hSw; go_simp; try rfl
        try simp only [Act.put, List.getElem_toArray, List.getElem_cons_zero, List.getElem_cons_succ, List.setIfInBounds_toArray, List.set_cons_zero, List.set_cons_succ]
        refine wpAnyH_take (i := 13) (v := .pointer (some ⟨b9, 1, none⟩)) rfl (by kernel_rfl) (by kernel_rfl) (by kernel_rfl) (fun _ _ _ h => h) (Or.inl ⟨by rfl, ?_⟩) (by assumption) ?_
        case refine_1 => intro W hSw; go_simp; try rfl
        try simp only [Act.put, List.getElem_toArray, List.getElem_cons_zero, List.getElem_cons_succ, List.setIfInBounds_toArray, List.set_cons_zero, List.set_cons_succ]
        refine wpAnyH_take (i := 14) (v := .agg (pxL x.p).toArray) rfl (by kernel_rfl) (by kernel_rfl) (by kernel_rfl) (fun _ _ _ h => h) (Or.inl ⟨by rfl, fun W hSw => sat_run PxK (.tmp 99) rfl (b := b9) (k := 1) rfl (HCP.out _ hSw.2) rfl⟩) (by assumption) ?_
        try simp only [Act.put, List.getElem_toArray, List.getElem_cons_zero, List.getElem_cons_succ, List.setIfInBounds_toArray, List.set_cons_zero, List.set_cons_succ]
        refine wpAnyH_take (i := 15) (v := .int .i64 nw) rfl (by kernel_rfl) (by kernel_rfl) (by kernel_rfl) (fun _ _ _ h => h) (Or.inl ⟨by rfl, ?_⟩) (by assumption) ?_
        case refine_1 => intro W hSw; go_simp; try rfl
        try simp only [Act.put, List.getElem_toArray, List.getElem_cons_zero, List.getElem_cons_succ, List.setIfInBounds_toArray, List.set_cons_zero, List.set_cons_succ]
        refine wpAnyH_take (i := 17) (v := .agg (ddL c va ln cap).toArray) rfl (by kernel_rfl) (by kernel_rfl) (by kernel_rfl) (fun _ _ _ h => h) (Or.inl ⟨by rfl, fun W hSw => Go.Proofs.Ytjfiahendnlcjaa.Ge.sload_run DdK (.tmp 7) rfl (b := bd) rfl hSw.1 rfl⟩) (by assumption) ?_
        try simp only [Act.put, List.getElem_toArray, List.getElem_cons_zero, List.getElem_cons_succ, List.setIfInBounds_toArray, List.set_cons_zero, List.set_cons_succ]
        refine wpAnyH_take (i := 18) (v := .pointer (some ⟨b9, 1, none⟩)) rfl (by kernel_rfl) (by kernel_rfl) (by kernel_rfl) (fun _ _ _ h => h) (Or.inl ⟨by rfl, ?_⟩) (by assumption) ?_
        case refine_1 => intro W hSw; go_simp; try rfl
        try simp only [Act.put, List.getElem_toArray, List.getElem_cons_zero, List.getElem_cons_succ, List.setIfInBounds_toArray, List.set_cons_zero, List.set_cons_succ]
        refine wpAnyH_take (i := 19) (v := .agg (pxL x.p).toArray) rfl (by kernel_rfl) (by kernel_rfl) (by kernel_rfl) (fun _ _ _ h => h) (Or.inl ⟨by rfl, fun W hSw => sat_run PxK (.tmp 104) rfl (b := b9) (k := 1) rfl (HCP.out _ hSw.2) rfl⟩) (by assumption) ?_
        try simp only [Act.put, List.getElem_toArray, List.getElem_cons_zero, List.getElem_cons_succ, List.setIfInBounds_toArray, List.set_cons_zero, List.set_cons_succ]
        refine wpAnyH_take (i := 20) (v := .int .i64 (t : Int)) rfl (by kernel_rfl) (by kernel_rfl) (by kernel_rfl) (fun _ _ _ h => h) (Or.inl ⟨by rfl, ?_⟩) (by assumption) ?_
        case refine_1 => intro W hSw; go_simp; try rfl
        try simp only [Act.put, List.getElem_toArray, List.getElem_cons_zero, List.getElem_cons_succ, List.setIfInBounds_toArray, List.set_cons_zero, List.set_cons_succ]
        refine wpAnyH_ready (rs := [16]) (by kernel_rfl) (by simp) ?_
        refine AllReadyH.cons rfl (fun K hK => ?_) AllReadyH.nil
        have HPE := (HASK.out p2 HBp2.out).2.2.1
        go_simp
        refine HPE.mono ?_
        rintro e p3 ⟨rfl, hbe⟩
        have HBp3 : Hid (Below wd.heap.size wd p3) := HBp2.out.trans (hbe.mono HBp2.out.size)
        refine hK.out _ _ ⟨hHeld.1.blk (hbe.block _ hHeld.1.lt), hHeld.2.blk (hbe.block _ hHeld.2.lt)⟩ (fun hHeld => ?_)
        clear hK K hbe HPE
        try simp only [Act.put, List.getElem_toArray, List.getElem_cons_zero, List.getElem_cons_succ, List.setIfInBounds_toArray, List.set_cons_zero, List.set_cons_succ]
        refine wpAnyH_ready (rs := [21]) (by kernel_rfl) (by simp) ?_
        refine AllReadyH.cons rfl (fun K hK => ?_) AllReadyH.nil
        have HPE := (HASK.out p3 HBp3.out).2.2.2
        go_simp
        refine HPE.mono ?_
        rintro e p4 ⟨rfl, hbe⟩
        have HBp4 : Hid (Below wd.heap.size wd p4) := HBp3.out.trans (hbe.mono HBp3.out.size)
        refine hK.out _ _ ⟨hHeld.1.blk (hbe.block _ hHeld.1.lt), hHeld.2.blk (hbe.block _ hHeld.2.lt)⟩ (fun hHeld => ?_)
        clear hK K hbe HPE
        try simp only [Act.put, List.getElem_toArray, List.getElem_cons_zero, List.getElem_cons_succ, List.setIfInBounds_toArray, List.set_cons_zero, List.set_cons_succ]
        refine wpAnyH_take (i := 22) (v := .bool false) rfl (by kernel_rfl) (by kernel_rfl) (by kernel_rfl) (fun _ _ _ h => h) (Or.inl ⟨by rfl, ?_⟩) (by assumption) ?_
        case refine_1 => intro W hSw; go_simp; try rfl
        try simp only [Act.put, List.getElem_toArray, List.getElem_cons_zero, List.getElem_cons_succ, List.setIfInBounds_toArray, List.set_cons_zero, List.set_cons_succ]
        refine wpAnyH_take (i := 23) (v := .bool false) rfl (by kernel_rfl) (by kernel_rfl) (by kernel_rfl) (fun _ _ _ h => h) (Or.inl ⟨by rfl, ?_⟩) (by assumption) ?_
        case refine_1 => intro W hSw; go_simp; try rfl
        try simp only [Act.put, List.getElem_toArray, List.getElem_cons_zero, List.getElem_cons_succ, List.setIfInBounds_toArray, List.set_cons_zero, List.set_cons_succ]
        refine wpAnyH_done (by kernel_rfl) ?_ _
        have HXE : Hid (SB DdK bd (ddL c va ln cap) p4) := hHeld.1
        clear hHeld
        have HEND : Hid (LS w dx bd n (.int .i64 ((i + 1 : Nat) : Int)) p4) := ⟨⟨i + 1, c, va, ln, cap, by omega, rfl, (HQD.out.step HBp4.out).next, HXE.out⟩⟩
        clear HBA HBp1 HBp2 HBp3 HBp4 HASK HQD HXE
        go_wp2_with fail
        refine ⟨?_, by simp [intOf]; omega⟩
        first | exact HEND.out | simpa using HEND.out
    case neg =>
    have hd1b : (x.d == 1) = false := by simpa using hd1
    by_cases hd2 : x.d = 2
    case neg =>
      as_aux_lemma =>
        have hd2b : (x.d == 2) = false := by simpa using hd2
        clear hd0 hd1 hd2
        have HEND : Hid (LS w dx bd n (.int .i64 ((i + 1 : Nat) : Int)) w8) := ⟨⟨i + 1, c, va, ln, cap, by omega, rfl, HQ8.out.next, HXD.out⟩⟩
        go_wp2_with fail
        refine ⟨?_, by simp [intOf]; omega⟩
        first | exact HEND.out | simpa using HEND.out
    case pos =>
      as_aux_lemma =>
        have hd2b : (x.d == 2) = true := by simpa using hd2
        clear hd0 hd1 hd2
        obtain ⟨t, ht⟩ : ∃ t : Nat, max (c.clock : Int) (min nw 1099511627776) = (t : Int) := ⟨(max (c.clock : Int) (min nw 1099511627776)).toNat, by omega⟩
        have HFR := HQ8.out.freed hbdl (by omega) nw t ht
        rw [HBX.out] at HFR
        clear ht
        go_wp2_with fail
        refine HFR.mono ?_
        rintro e W1 ⟨vl, nl, cl, rfl, hk1, hnl, hth, hnext⟩
        have HNX := hnext W1 (Below.refl _ _)
        have HDA : Hid (SB DdK bd (ddL c va ln cap) W1) := HXD.out.blk (hk1.blk _ HXD.out.lt HQ8.out.bdn.2)
        have HTH : Hid (∀ k, k < nl → ∃ g, vl = some ⟨g, 0, none⟩ ∧ (w.heap.size ≤ g ∧ ¬ fpD dx g ∧ g ≠ bd) ∧ g < W1.heap.size ∧ Th W1 g (nl * 2)) := fun k hk => by
          obtain ⟨g, h1, h2, h3, h4⟩ := hth k hk
          exact ⟨g, h1, ⟨Nat.le_trans HQ8.out.bel.size h2, fun hf => by have := HQ8.out.lt g hf; omega, by omega⟩, h3, h4⟩
        clear hk1 hnext hth HFR HQ8 HX9 HXD cd6 c94 c90 c93
        go_wp2_with (refine list_sload DdK rfl _ rfl (b := bd) (cs := ddL c va ln cap) rfl HDA.out rfl ?_)
        refine HNX.mono ?_
        rintro e W2 ⟨va', n', cap', oa, oc, rfl, hb2, hva', hsame, hq2⟩
        have HQ2 : Hid (LQ w dx bd (i + 1) (clkD c t) va' n' cap' W2) := hq2
        have HD2 : Hid (SB DdK bd (ddL c va ln cap) W2) := HDA.out.blk (hb2.block _ HDA.out.lt)
        have HTH2 : Hid (∀ k, k < nl → ∃ g, vl = some ⟨g, 0, none⟩ ∧ (w.heap.size ≤ g ∧ ¬ fpD dx g ∧ g ≠ bd) ∧ (∀ b o s, va' = some ⟨b, o, s⟩ → b ≠ g) ∧ g < W2.heap.size ∧ Th W2 g (nl * 2)) := fun k hk => by
          obtain ⟨g, h1, h2, h3, h4⟩ := HTH.out k hk
          exact ⟨g, h1, h2, fun b o s e => by have := hva' b o s e; omega, Nat.lt_of_lt_of_le h3 hb2.size, h4.blk (hb2.block g h3)⟩
        have HSM : Hid (∀ W2', Below W2.heap.size W2 W2' → Calls Try.prog 16 #[.slice vl nl cl, .slice oa nl oc] W2' fun e3 w3 => e3 = .returned (.bool true) ∧ Below W2'.heap.size W2' w3) := hsame
        clear hb2 hq2 hva' hsame HNX HDA HTH
        go_wp2_with (refine list_ddnew rfl rfl ?_)
        intro b16 W3 hbe hx hb
        have HB3 : Hid (Below W2.heap.size W2 W3) := hb.out
        have HX3 : Hid (SB DdK b16 (ddL zc none 0 0) W3) := hx.out
        have HN3 : Hid (W2.heap.size ≤ b16) := Nat.le_of_eq hbe.out
        clear hbe hx hb
        go_wp2_with (refine list_sstore DdK rfl _ _ rfl (b := b16) (cs := ddL zc none 0 0) (cs' := ddL (clkD c t) va' n' cap') rfl rfl HX3.out rfl rfl rfl ?_)
        intro W4 hx4 hk4
        have HX4 : Hid (SB DdK b16 (ddL (clkD c t) va' n' cap') W4) := hx4.out
        have HB4 : Hid (Below W2.heap.size W2 W4) := HB3.out.trans (hk4.out.below HN3.out)
        have HPS := HSM.out W4 HB4.out
        clear hx4 hk4 HB3 HX3 HSM
        go_wp2_with fail
        refine HPS.mono ?_
        rintro e W5 ⟨rfl, hb5⟩
        have HB5 : Hid (Below W2.heap.size W2 W5) := HB4.out.trans (hb5.mono HB4.out.size)
        have HX5 : Hid (SB DdK b16 (ddL (clkD c t) va' n' cap') W5) := HX4.out.blk (hb5.block _ HX4.out.lt)
        have HQ5 : Hid (LQ w dx bd (i + 1) (clkD c t) va' n' cap' W5) := HQ2.out.step HB5.out
        have HD5 : Hid (SB DdK bd (ddL c va ln cap) W5) := HD2.out.blk (HB5.out.block _ HD2.out.lt)
        have HTH5 : Hid (∀ k, k < nl → ∃ g, vl = some ⟨g, 0, none⟩ ∧ (w.heap.size ≤ g ∧ ¬ fpD dx g ∧ g ≠ bd) ∧ (∀ b o s, va' = some ⟨b, o, s⟩ → b ≠ g) ∧ g ≠ b16 ∧ Th W5 g (nl * 2)) := fun k hk => by
          obtain ⟨g, h1, h2, h3, h4, h5⟩ := HTH2.out k hk
          exact ⟨g, h1, h2, h3, by have := HN3.out; show g ≠ b16; omega, h5.blk (HB5.out.block g h4)⟩
        clear hb5 HPS HB4 HB5 HX4 HQ2 HD2 HTH2 HN3
        go_wp2_with fail
        obtain ⟨gz, hgz⟩ : ∃ gz, ∀ k, k < nl → vl = some ⟨gz, 0, none⟩ ∧ (w.heap.size ≤ gz ∧ ¬ fpD dx gz ∧ gz ≠ bd) ∧ (∀ b o s, va' = some ⟨b, o, s⟩ → b ≠ gz) ∧ gz ≠ b16 ∧ Th W5 gz (nl * 2) := by
          by_cases h0 : 0 < nl
          · obtain ⟨g, hg⟩ := HTH5.out 0 h0
            exact ⟨g, fun k _ => hg⟩
          · exact ⟨0, fun k hk => absurd hk (by omega)⟩
        have HGZ : Hid (∀ k, k < nl → vl = some ⟨gz, 0, none⟩ ∧ (w.heap.size ≤ gz ∧ ¬ fpD dx gz ∧ gz ≠ bd) ∧ (∀ b o s, va' = some ⟨b, o, s⟩ → b ≠ gz) ∧ gz ≠ b16 ∧ Th W5 gz (nl * 2)) := hgz
        clear hgz HTH5
        go_loopw [127, 18] (fun kv _ wr => (∃ k : Nat, k ≤ nl ∧ kv = .int .i64 (k : Int)) ∧ (0 < nl → Th wr gz (nl * 2)) ∧ LQ w dx bd (i + 1) (clkD c t) va' n' cap' wr ∧ SB DdK b16 (ddL (clkD c t) va' n' cap') wr ∧ SB DdK bd (ddL c va ln cap) wr) (fun k _ _ => nl - (intOf k).toNat)
        case atStart => exact ⟨⟨0, Nat.zero_le _, rfl⟩, (fun h0 => (HGZ.out 0 h0).2.2.2.2), HQ5.out, HX5.out, HD5.out⟩
        case round =>
          obtain ⟨⟨k, hk, rfl⟩, hth, hq, hx16, hxd⟩ := hrel
          have HTW : Hid (0 < nl → Th wr gz (nl * 2)) := hth
          have HQW : Hid (LQ w dx bd (i + 1) (clkD c t) va' n' cap' wr) := hq
          have HXW : Hid (SB DdK b16 (ddL (clkD c t) va' n' cap') wr) := hx16
          have HDW : Hid (SB DdK bd (ddL c va ln cap) wr) := hxd
          obtain ⟨WX, hwx⟩ : ∃ y, wr = y := ⟨_, rfl⟩
          rw [hwx] at HTW HQW HXW HDW ⊢
          clear hwx hth hq hx16 hxd HQ5 HX5 HD5
          by_cases hkn : k < nl
          case pos =>
            have hki : (k : Int) < (nl : Int) := by omega
            have hk0 : (0 : Int) ≤ (k : Int) := by omega
            obtain ⟨rfl, hg1, hg2, hg3, -⟩ := HGZ.out k hkn
            have HT2 := HTW.out (by omega)
            have HT3 : Hid (Th WX gz (nl * 2)) := HT2
            clear HT2
            go_wp2_with (refine list_iput PxK rfl _ _ rfl (g := gz) (off := k * 2) (m := nl * 2) (vs := [.int .u32 0, .int .i64 77]) rfl rfl HT3.out (by simp; omega) rfl rfl ?_)
            intro WY hty hky
            have HE : Hid ((0 < nl → Th WY gz (nl * 2)) ∧ LQ w dx bd (i + 1) (clkD c t) va' n' cap' WY ∧ SB DdK b16 (ddL (clkD c t) va' n' cap') WY ∧ SB DdK bd (ddL c va ln cap) WY) := ⟨fun _ => hty.out, HQW.out.ko hky.out hg1.2.1 hg1.1 hg2, HXW.out.blk (hky.out.block _ (fun e => hg3 e.symm)), HDW.out.blk (hky.out.block _ (fun e => hg1.2.2 e.symm))⟩
            clear hty hky HTW HQW HXW HDW HT3
            go_wp2_with fail
            exact ⟨⟨⟨k + 1, by omega, by simp⟩, HE.out⟩, by simp [intOf]; omega⟩
          case neg =>
            have hki : ¬ (k : Int) < (nl : Int) := by omega
            go_wp2_with (first | (refine list_sload DdK rfl _ rfl (b := b16) (cs := ddL (clkD c t) va' n' cap') rfl HXW.out rfl ?_) | (refine list_sstore DdK rfl _ _ rfl (b := bd) (cs := ddL c va ln cap) (cs' := ddL (clkD c t) va' n' cap') rfl rfl HDW.out rfl rfl rfl ?_))
            intro WY hx5 hk5
            have HEND : Hid (LS w dx bd n (.int .i64 ((i + 1 : Nat) : Int)) WY) := ⟨⟨i + 1, clkD c t, va', n', cap', by omega, rfl, HQW.out.kb hk5.out, hx5.out⟩⟩
            clear hx5 hk5 HQW HXW HDW HTW
            go_wp2_with fail
            refine ⟨?_, by simp [intOf]; omega⟩
            first | exact HEND.out | simpa using HEND.out
end Go.Proofs.Ytjfiahendnlcjaa.Da
