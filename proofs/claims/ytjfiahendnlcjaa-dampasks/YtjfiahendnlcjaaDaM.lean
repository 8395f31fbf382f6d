/- DampAsks: its law. -/
import Derived.Test.YtjfiahendnlcjaaDaL
namespace Go.Proofs.Ytjfiahendnlcjaa.Da
open Go.ChangeShapes Go.WideShapes Go.ChangeAt Go.RowKit Go.Joins Go.Deep Go.Proofs.Ytjfiahendnlcjaa.Ge Go.Proofs.Ytjfiahendnlcjaa.PM Go.Proofs.Ytjfiahendnlcjaa.Ask
set_option linter.unusedVariables false
set_option linter.unusedSimpArgs false

theorem wrap_rng (z : Int) : -9223372036854775808 ≤ IntKind.i64.wrap z ∧ IntKind.i64.wrap z < 9223372036854775808 := by rw [IntKind.wrap_i64]; omega
theorem ds_px {W : World} {b k : Nat} {x : Ds} (h : ∀ j, j < 5 → W.cell? ⟨b, k + j, none⟩ = (dsL x)[j]?) : ∀ j, j < PxK.k → W.cell? ⟨b, k + 1 + j, none⟩ = (pxL x.p)[j]? := fun j hj => by
  have hj2 : j < 2 := hj
  rw [Nat.add_assoc, h (1 + j) (by omega)]
  match j, hj2 with
  | 0, _ => rfl
  | 1, _ => rfl
theorem sb_five {W : World} {b : Nat} {x : Ds} (h : SB DsK b (dsL x) W) : ∀ j, j < 5 → W.cell? ⟨b, 0 + j, none⟩ = (dsL x)[j]? := fun j _ => by rw [Nat.zero_add]; exact h.cell j
set_option maxRecDepth 100000 in
set_option maxHeartbeats 32000000 in
theorem asks_any (ca cb cc cd ce cf : Int) (va : Option Addr) (n cap : Nat) (l : List Ds) (vb : Option Addr) (m capb : Nat) (q : List Ds) (w : World) (hl : Lst ED w va l) (hln : l.length = n) (hlo : ∀ x ∈ l, DsOk x) (hq : Lst ED w vb q) (hqn : q.length = m) :
    Calls Try.prog 4 #[.agg (cgL ca cb cc cd ce cf).toArray, .slice va n cap, .slice vb m capb] w fun e w' => e = .returned (.bool true) ∧ Below w.heap.size w w' := by
  have HL : Hid (Lst ED w va l) := hl
  have HLN : Hid (l.length = n) := hln
  have HLO : Hid (∀ x ∈ l, DsOk x) := hlo
  have HQ : Hid (Lst ED w vb q) := hq
  have HQN : Hid (q.length = m) := hqn
  have hns : n ≤ 9223372036854775807 := by rw [← hln]; exact hl.small
  have hms : m ≤ 9223372036854775807 := by rw [← hqn]; exact hq.small
  clear hl hln hlo hq hqn
  go_enter Try.func4, Try.ntmps4
  go_wp2_with (refine list_sbox CgK rfl _ rfl (cs := [.int .i64 ca, .int .i64 cb, .int .i64 cc, .int .i64 cd, .int .i64 ce, .int .i64 cf]) rfl ?_)
  intro w1 hb1 hbl1 hz1
  obtain ⟨b3, hb3⟩ : ∃ y, w.heap.size = y := ⟨_, rfl⟩
  have HX1 : Hid (SB CgK b3 [.int .i64 ca, .int .i64 cb, .int .i64 cc, .int .i64 cd, .int .i64 ce, .int .i64 cf] w1) := by rw [← hb3]; exact hb1.out
  have HB1 : Hid (Below w.heap.size w w1) := hbl1.out
  rw [hb3]
  clear hb1 hbl1 hz1 hb3
  go_wp2_with fail
  refine (works_any w1).mono ?_
  rintro e w2 ⟨rfl, hb2⟩
  have HX2 : Hid (SB CgK b3 [.int .i64 ca, .int .i64 cb, .int .i64 cc, .int .i64 cd, .int .i64 ce, .int .i64 cf] w2) := HX1.out.blk (hb2.block _ HX1.out.lt)
  have HB2 : Hid (Below w.heap.size w w2) := HB1.out.trans (hb2.mono HB1.out.size)
  clear hb2 HX1 HB1
  by_cases hm : mayD ca cb cc cd ce cf
  case neg =>
    have HM : Hid (¬ mayD ca cb cc cd ce cf) := hm
    clear hm
    go_wp2_with (refine list_sload CgK rfl _ rfl (b := b3) (cs := [.int .i64 ca, .int .i64 cb, .int .i64 cc, .int .i64 cd, .int .i64 ce, .int .i64 cf]) rfl HX2.out rfl ?_)
    refine (new_no ca cb cc cd ce cf w2 HM.out).mono ?_
    rintro e w3 ⟨rfl, hb3⟩
    have HX3 : Hid (SB CgK b3 [.int .i64 ca, .int .i64 cb, .int .i64 cc, .int .i64 cd, .int .i64 ce, .int .i64 cf] w3) := HX2.out.blk (hb3.block _ HX2.out.lt)
    have HB3 : Hid (Below w.heap.size w w3) := HB2.out.trans (hb3.mono HB2.out.size)
    clear hb3 HX2 HB2
    go_wp2_with (refine list_sload CgK rfl _ rfl (b := b3) (cs := [.int .i64 ca, .int .i64 cb, .int .i64 cc, .int .i64 cd, .int .i64 ce, .int .i64 cf]) rfl HX3.out rfl ?_)
    refine (new_no ca cb cc cd ce cf w3 HM.out).mono ?_
    rintro e w4 ⟨rfl, hb4⟩
    have HB4 : Hid (Below w.heap.size w w4) := HB3.out.trans (hb4.mono HB3.out.size)
    clear hb4 HX3 HB3
    by_cases h3 : 300 < n
    · have h3i : (300 : Int) < (n : Int) := by omega
      go_wp2_with fail
      go_ret
      exact ⟨rfl, HB4.out⟩
    · have h3i : ¬ (300 : Int) < (n : Int) := by omega
      by_cases h4 : 300 < m
      · have h4i : (300 : Int) < (m : Int) := by omega
        go_wp2_with fail
        go_ret
        exact ⟨rfl, HB4.out⟩
      · have h4i : ¬ (300 : Int) < (m : Int) := by omega
        go_wp2_with fail
        go_ret
        exact ⟨rfl, HB4.out⟩
  have HM : Hid (mayD ca cb cc cd ce cf) := hm
  clear hm
  go_wp2_with (refine list_sload CgK rfl _ rfl (b := b3) (cs := [.int .i64 ca, .int .i64 cb, .int .i64 cc, .int .i64 cd, .int .i64 ce, .int .i64 cf]) rfl HX2.out rfl ?_)
  refine (new_any ca cb cc cd ce cf w2 HM.out).mono ?_
  rintro e w3 ⟨dx, rfl, hdx, hb3, hfx⟩
  have HX3 : Hid (SB CgK b3 [.int .i64 ca, .int .i64 cb, .int .i64 cc, .int .i64 cd, .int .i64 ce, .int .i64 cf] w3) := HX2.out.blk (hb3.block _ HX2.out.lt)
  have HB3 : Hid (Below w.heap.size w w3) := HB2.out.trans (hb3.mono HB2.out.size)
  have HDX : Hid (Dp w3 dx (dcOf ca cb cc cd ce cf) [] 0 [] 0) := hdx
  have HFX : Hid (∀ g, fpD dx g → w.heap.size ≤ g ∧ g < w3.heap.size) := fun g hg => ⟨Nat.le_trans HB2.out.size (hfx g hg), hdx.lt g hg⟩
  clear hdx hb3 hfx HX2 HB2
  go_wp2_with (refine list_sload CgK rfl _ rfl (b := b3) (cs := [.int .i64 ca, .int .i64 cb, .int .i64 cc, .int .i64 cd, .int .i64 ce, .int .i64 cf]) rfl HX3.out rfl ?_)
  refine (new_any ca cb cc cd ce cf w3 HM.out).mono ?_
  rintro e w4 ⟨dy, rfl, hdy, hb4, hfy⟩
  have HLA0 : Hid (LA w dx dy 0 (dcOf ca cb cc cd ce cf) w4) := ⟨⟨[], 0, [], 0, [], 0, [], 0, HDX.out.bel hb4, hdy, fun _ => rfl, fun _ => rfl, Nat.le_refl _, Nat.le_refl _, Nat.le_refl _, Nat.le_refl _⟩, fun g h1 h2 => by have := (HFX.out g h1).2; have := hfy g h2; omega, fun g hg => (HFX.out g hg).1, fun g hg => Nat.le_trans HB3.out.size (hfy g hg), HB3.out.trans (hb4.mono HB3.out.size), fun g hg => hg.elim (fun c => Nat.lt_of_lt_of_le (HFX.out g c).2 hb4.size) (fun c => hdy.lt g c)⟩
  have HB4 : Hid (Below w.heap.size w w4) := HLA0.out.bel
  clear hdy hb4 hfy HDX HFX HX3 HB3
  obtain ⟨bx, hbx⟩ : ∃ y, dx.b = y := ⟨_, rfl⟩
  obtain ⟨by_, hby⟩ : ∃ y, dy.b = y := ⟨_, rfl⟩
  have HBX : Hid (dx.b = bx ∧ dy.b = by_) := ⟨hbx, hby⟩
  rw [hbx, hby]
  clear hbx hby
  by_cases h3 : 300 < n
  case pos =>
    have h3i : (300 : Int) < (n : Int) := by omega
    go_wp2_with fail
    go_ret
    exact ⟨rfl, HB4.out⟩
  have h3i : ¬ (300 : Int) < (n : Int) := by omega
  by_cases h4 : 300 < m
  case pos =>
    have h4i : (300 : Int) < (m : Int) := by omega
    go_wp2_with fail
    go_ret
    exact ⟨rfl, HB4.out⟩
  have h4i : ¬ (300 : Int) < (m : Int) := by omega
  obtain ⟨c0', hc0⟩ : ∃ y, dcOf ca cb cc cd ce cf = y := ⟨_, rfl⟩
  have HCL : Hid (c0'.clock = 0) := by rw [← hc0]; rfl
  rw [hc0] at HLA0
  clear hc0 HM HB4
  go_wp2_with fail
  go_loopw [60, 11] (fun iv cv wr => ∃ (i : Nat) (c : Dc), i ≤ n ∧ iv = .int .i64 (i : Int) ∧ cv = .int .i64 (c.clock : Int) ∧ LA w dx dy i c wr) (fun i _ _ => n - (intOf i).toNat)
  case atStart => exact ⟨0, c0', by omega, rfl, by rw [HCL.out]; rfl, HLA0.out⟩
  case round =>
    obtain ⟨i, c, hi, rfl, rfl, hla⟩ := hrel
    have HA : Hid (LA w dx dy i c wr) := hla
    clear hla HLA0 HCL
    obtain ⟨wz, hwz⟩ : ∃ y, wr = y := ⟨_, rfl⟩
    rw [hwz] at HA ⊢
    clear hwz
    by_cases hlt : i < n
    case neg =>
      have hlti : ¬ (i : Int) < (n : Int) := by omega
      have HE : Hid (Below w.heap.size w wz) := HA.out.bel
      go_wp2_with fail
      go_ret
      exact ⟨rfl, HE.out⟩
    have hlti : (i : Int) < (n : Int) := by omega
    obtain ⟨lb, lo, rfl, hlbl, hcl⟩ := lstD HL.out i (by rw [HLN.out]; exact hlt)
    obtain ⟨x, hx⟩ : ∃ y, l[i]'(by rw [HLN.out]; exact hlt) = y := ⟨_, rfl⟩
    have HXO : Hid (DsOk x) := HLO.out x (hx ▸ List.getElem_mem _)
    rw [hx] at hcl
    have HC5 : Hid (∀ j, j < DsK.k → wz.cell? ⟨lb, lo + i * 5 + j, none⟩ = (dsL x)[j]?) := fun j hj => by
      rw [← hcl j hj]
      unfold World.cell?
      rw [HA.out.bel.block lb hlbl]
    clear hcl hx hlbl
    go_wp2_with (first | (refine list_sat DsK rfl _ rfl (b := lb) (k := lo + i * 5) (cs := dsL x) rfl HC5.out rfl ?_) | (refine list_dsnew rfl rfl ?_))
    intro b13 w5 hb13 hx13 hbl5
    have HX13 : Hid (SB DsK b13 (dsL ⟨0, (0, 0), 0, 0⟩) w5) := hx13.out
    have HA5 : Hid (LA w dx dy i c w5) := HA.out.step hbl5.out
    have HN13 : Hid (w.heap.size ≤ b13 ∧ ¬ fpD dx b13 ∧ ¬ fpD dy b13) := by
      have h1 := hb13.out; have h2 := HA.out.bel.size
      exact ⟨by omega, fun hf => by have := HA.out.lt _ (.inl hf); omega, fun hf => by have := HA.out.lt _ (.inr hf); omega⟩
    clear hb13 hx13 hbl5 HA HC5
    go_wp2_with (refine list_sstore DsK rfl _ _ rfl (b := b13) (cs := dsL ⟨0, (0, 0), 0, 0⟩) (cs' := dsL x) rfl rfl HX13.out rfl rfl rfl ?_)
    intro w6 hx6 hk6
    have HX6 : Hid (SB DsK b13 (dsL x) w6) := hx6.out
    have HA6 : Hid (LA w dx dy i c w6) := HA5.out.ko hk6.out HN13.out.2.1 HN13.out.2.2 HN13.out.1
    clear hx6 hk6 HX13 HA5
    obtain ⟨nw, hnw⟩ : ∃ y, IntKind.i64.wrap ((c.clock : Int) + x.wt) = y := ⟨_, rfl⟩
    have HNW : Hid (IntKind.i64.wrap ((c.clock : Int) + x.wt) = nw) := hnw
    have HNR : Hid (-9223372036854775808 ≤ nw ∧ nw < 9223372036854775808) := by rw [← hnw]; exact wrap_rng _
    clear hnw
    go_wp2_with fail
    go_loopw [14] (fun kv wr => ∃ k : Nat, k ≤ 700 ∧ kv = .int .i64 (k : Int) ∧ LA w dx dy i c wr ∧ SB DsK b13 (dsL x) wr) (fun k _ => m - (intOf k).toNat)
    case atStart => exact ⟨i, by omega, rfl, HA6.out, HX6.out⟩
    case round =>
      obtain ⟨k, hk7, rfl, hla, hsb⟩ := hrel
      have HA : Hid (LA w dx dy i c wr) := hla
      have HX : Hid (SB DsK b13 (dsL x) wr) := hsb
      clear hla hsb HA6 HX6
      obtain ⟨wy, hwy⟩ : ∃ y, wr = y := ⟨_, rfl⟩
      rw [hwy] at HA HX ⊢
      clear hwy
      by_cases hkm : k < m
      case pos =>
        as_aux_lemma =>
          have hki : (k : Int) < (m : Int) := by omega
          have hk0 : (0 : Int) ≤ (k : Int) := by omega
          have hkw : IntKind.i64.wrap (k : Int) = (k : Int) := IntWalk.i64_in _ (by omega)
          have hkn : IntKind.i64.wrap ((k : Int) + (n : Int)) = ((k + n : Nat) : Int) := by rw [IntWalk.i64_in _ (by omega)]; omega
          obtain ⟨qb, qo, rfl, hqbl, hcq⟩ := lstD HQ.out k (by rw [HQN.out]; exact hkm)
          obtain ⟨y, hy⟩ : ∃ y, q[k]'(by rw [HQN.out]; exact hkm) = y := ⟨_, rfl⟩
          rw [hy] at hcq
          have HCW : Hid (∀ W, Below w.heap.size w W → ∀ j, j < 5 → W.cell? ⟨qb, qo + k * 5 + j, none⟩ = (dsL y)[j]?) := fun W hW j hj => by
            rw [← hcq j hj]
            unfold World.cell?
            rw [hW.block qb hqbl]
          obtain ⟨kw, hkw2⟩ : ∃ z, IntKind.i64.wrap ((c.clock : Int) + y.wt) = z := ⟨_, rfl⟩
          have HKW : Hid (IntKind.i64.wrap ((c.clock : Int) + y.wt) = kw) := hkw2
          have HKR : Hid (-9223372036854775808 ≤ kw ∧ kw < 9223372036854775808) := by rw [← hkw2]; exact wrap_rng _
          clear hcq hy hqbl hkw2
          obtain ⟨z1, h1, hask⟩ := HA.out.ask y.p kw HKR.out.2
          rw [HBX.out.1, HBX.out.2] at hask
          have HASK : Hid (∀ W', Below wy.heap.size wy W' → _ ∧ _ ∧ _ ∧ _) := hask
          clear hask
          go_wp2_with fail
          have HBDwe : Hid (Below wy.heap.size wy wy.drew) := drew_bel wy
          have HC0 : Hid (∀ j, j < 5 → wy.drew.cell? ⟨qb, qo + k * 5 + j, none⟩ = (dsL y)[j]?) := HCW.out _ (HA.out.bel.trans (HBDwe.out.mono HA.out.bel.size))
          refine wp_region_held_drew (S := fun W => ∀ j, j < 5 → W.cell? ⟨qb, qo + k * 5 + j, none⟩ = (dsL y)[j]?) (by kernel_rfl) HC0.out (fun hHeld => ?_)
          obtain ⟨wdwe, hwd⟩ : ∃ z, wy.drew = z := ⟨_, rfl⟩
          rw [hwd] at HBDwe hHeld ⊢
          clear hwd HC0
          refine wpAnyH_take (i := 0) (v := .pointer (some ⟨by_, 0, none⟩)) rfl (by kernel_rfl) (by kernel_rfl) (by kernel_rfl) (fun _ _ _ h => h) (Or.inl ⟨by rfl, ?_⟩) (by assumption) ?_
          case refine_1 => intro W hSw; go_simp; try rfl
          try simp only [Act.put, List.getElem_toArray, List.getElem_cons_zero, List.getElem_cons_succ, List.setIfInBounds_toArray, List.set_cons_zero, List.set_cons_succ]
          refine wpAnyH_take (i := 1) (v := .slice (some ⟨qb, qo, none⟩) m capb) rfl (by kernel_rfl) (by kernel_rfl) (by kernel_rfl) (fun _ _ _ h => h) (Or.inl ⟨by rfl, ?_⟩) (by assumption) ?_
          case refine_1 => intro W hSw; go_simp; try rfl
          try simp only [Act.put, List.getElem_toArray, List.getElem_cons_zero, List.getElem_cons_succ, List.setIfInBounds_toArray, List.set_cons_zero, List.set_cons_succ]
          refine wpAnyH_take (i := 2) (v := .int .i64 (k : Int)) rfl (by kernel_rfl) (by kernel_rfl) (by kernel_rfl) (fun _ _ _ h => h) (Or.inl ⟨by rfl, ?_⟩) (by assumption) ?_
          case refine_1 => intro W hSw; go_simp; try rfl
          try simp only [Act.put, List.getElem_toArray, List.getElem_cons_zero, List.getElem_cons_succ, List.setIfInBounds_toArray, List.set_cons_zero, List.set_cons_succ]
          refine wpAnyH_take (i := 3) (v := .pointer (some ⟨qb, qo + k * 5, none⟩)) rfl (by kernel_rfl) (by kernel_rfl) (by kernel_rfl) (fun _ _ _ h => h) (Or.inl ⟨by rfl, ?_⟩) (by assumption) ?_
          case refine_1 => intro W hSw; go_simp; try rfl
          try simp only [Act.put, List.getElem_toArray, List.getElem_cons_zero, List.getElem_cons_succ, List.setIfInBounds_toArray, List.set_cons_zero, List.set_cons_succ]
          refine wpAnyH_take (i := 4) (v := .pointer (some ⟨qb, qo + k * 5 + 1, none⟩)) rfl (by kernel_rfl) (by kernel_rfl) (by kernel_rfl) (fun _ _ _ h => h) (Or.inl ⟨by rfl, ?_⟩) (by assumption) ?_
          case refine_1 => intro W hSw; go_simp; try rfl
          try simp only [Act.put, List.getElem_toArray, List.getElem_cons_zero, List.getElem_cons_succ, List.setIfInBounds_toArray, List.set_cons_zero, List.set_cons_succ]
          refine wpAnyH_take (i := 5) (v := .agg (pxL y.p).toArray) rfl (by kernel_rfl) (by kernel_rfl) (by kernel_rfl) (fun _ _ _ h => h) (Or.inl ⟨by rfl, fun W hSw => sat_run PxK (.tmp 78) rfl (b := qb) (k := qo + k * 5 + 1) rfl (ds_px hSw) rfl⟩) (by assumption) ?_
          try simp only [Act.put, List.getElem_toArray, List.getElem_cons_zero, List.getElem_cons_succ, List.setIfInBounds_toArray, List.set_cons_zero, List.set_cons_succ]
          refine wpAnyH_take (i := 6) (v := .int .i64 (c.clock : Int)) rfl (by kernel_rfl) (by kernel_rfl) (by kernel_rfl) (fun _ _ _ h => h) (Or.inl ⟨by rfl, ?_⟩) (by assumption) ?_
          case refine_1 => intro W hSw; go_simp; try rfl
          try simp only [Act.put, List.getElem_toArray, List.getElem_cons_zero, List.getElem_cons_succ, List.setIfInBounds_toArray, List.set_cons_zero, List.set_cons_succ]
          refine wpAnyH_take (i := 7) (v := .slice (some ⟨qb, qo, none⟩) m capb) rfl (by kernel_rfl) (by kernel_rfl) (by kernel_rfl) (fun _ _ _ h => h) (Or.inl ⟨by rfl, ?_⟩) (by assumption) ?_
          case refine_1 => intro W hSw; go_simp; try rfl
          try simp only [Act.put, List.getElem_toArray, List.getElem_cons_zero, List.getElem_cons_succ, List.setIfInBounds_toArray, List.set_cons_zero, List.set_cons_succ]
          refine wpAnyH_take (i := 8) (v := .int .i64 (k : Int)) rfl (by kernel_rfl) (by kernel_rfl) (by kernel_rfl) (fun _ _ _ h => h) (Or.inl ⟨by rfl, ?_⟩) (by assumption) ?_
          case refine_1 => intro W hSw; go_simp; try rfl
          try simp only [Act.put, List.getElem_toArray, List.getElem_cons_zero, List.getElem_cons_succ, List.setIfInBounds_toArray, List.set_cons_zero, List.set_cons_succ]
          refine wpAnyH_take (i := 9) (v := .pointer (some ⟨qb, qo + k * 5, none⟩)) rfl (by kernel_rfl) (by kernel_rfl) (by kernel_rfl) (fun _ _ _ h => h) (Or.inl ⟨by rfl, ?_⟩) (by assumption) ?_
          case refine_1 => intro W hSw; go_simp; try rfl
          try simp only [Act.put, List.getElem_toArray, List.getElem_cons_zero, List.getElem_cons_succ, List.setIfInBounds_toArray, List.set_cons_zero, List.set_cons_succ]
          refine wpAnyH_take (i := 10) (v := .pointer (some ⟨qb, qo + k * 5 + 4, none⟩)) rfl (by kernel_rfl) (by kernel_rfl) (by kernel_rfl) (fun _ _ _ h => h) (Or.inl ⟨by rfl, ?_⟩) (by assumption) ?_
          case refine_1 => intro W hSw; go_simp; try rfl
          try simp only [Act.put, List.getElem_toArray, List.getElem_cons_zero, List.getElem_cons_succ, List.setIfInBounds_toArray, List.set_cons_zero, List.set_cons_succ]
          refine wpAnyH_take (i := 11) (v := .int .i64 y.wt) rfl (by kernel_rfl) (by kernel_rfl) (by kernel_rfl) (fun _ _ _ h => h) (Or.inl ⟨by rfl, ?_⟩) (by assumption) ?_
          case refine_1 => intro W hSw; have k1 : W.cell? ⟨qb, qo + k * 5 + 4, none⟩ = some (.int .i64 y.wt) := hSw 4 (by decide); go_simp; try rfl
          try simp only [Act.put, List.getElem_toArray, List.getElem_cons_zero, List.getElem_cons_succ, List.setIfInBounds_toArray, List.set_cons_zero, List.set_cons_succ]
          refine wpAnyH_take (i := 12) (v := .int .i64 kw) rfl (by kernel_rfl) (by kernel_rfl) (by kernel_rfl) (fun _ _ _ h => h) (Or.inl ⟨by rfl, ?_⟩) (by assumption) ?_
          case refine_1 => intro W hSw; have k2 := HKW.out; go_simp; try rfl
          try simp only [Act.put, List.getElem_toArray, List.getElem_cons_zero, List.getElem_cons_succ, List.setIfInBounds_toArray, List.set_cons_zero, List.set_cons_succ]
          refine wpAnyH_ready (rs := [13]) (by kernel_rfl) (by simp) ?_
          refine AllReadyH.cons rfl (fun K hK => ?_) AllReadyH.nil
          have HPE := (HASK.out wdwe HBDwe.out).2.1
          go_simp
          refine HPE.mono ?_
          rintro e we ⟨rfl, hbe⟩
          have HBLwe : Hid (Below wy.heap.size wy we) := HBDwe.out.trans (hbe.mono HBDwe.out.size)
          refine hK.out _ _ (HCW.out _ (HA.out.bel.trans (HBLwe.out.mono HA.out.bel.size))) (fun hHeld => ?_)
          clear hK K hbe HPE HBDwe
          try simp only [Act.put, List.getElem_toArray, List.getElem_cons_zero, List.getElem_cons_succ, List.setIfInBounds_toArray, List.set_cons_zero, List.set_cons_succ]
          refine wpAnyH_done (by kernel_rfl) ?_ _
          clear hHeld
          go_wp2_with fail
          have HBDwf : Hid (Below wy.heap.size wy we.drew) := HBLwe.out.trans ((drew_bel we).mono HBLwe.out.size)
          have HC0 : Hid (∀ j, j < 5 → we.drew.cell? ⟨qb, qo + k * 5 + j, none⟩ = (dsL y)[j]?) := HCW.out _ (HA.out.bel.trans (HBDwf.out.mono HA.out.bel.size))
          refine wp_region_held_drew (S := fun W => ∀ j, j < 5 → W.cell? ⟨qb, qo + k * 5 + j, none⟩ = (dsL y)[j]?) (by kernel_rfl) HC0.out (fun hHeld => ?_)
          obtain ⟨wdwf, hwd⟩ : ∃ z, we.drew = z := ⟨_, rfl⟩
          rw [hwd] at HBDwf hHeld ⊢
          clear hwd HC0
          refine wpAnyH_take (i := 0) (v := .pointer (some ⟨by_, 0, none⟩)) rfl (by kernel_rfl) (by kernel_rfl) (by kernel_rfl) (fun _ _ _ h => h) (Or.inl ⟨by rfl, ?_⟩) (by assumption) ?_
          case refine_1 => intro W hSw; go_simp; try rfl
          try simp only [Act.put, List.getElem_toArray, List.getElem_cons_zero, List.getElem_cons_succ, List.setIfInBounds_toArray, List.set_cons_zero, List.set_cons_succ]
          refine wpAnyH_take (i := 1) (v := .slice (some ⟨qb, qo, none⟩) m capb) rfl (by kernel_rfl) (by kernel_rfl) (by kernel_rfl) (fun _ _ _ h => h) (Or.inl ⟨by rfl, ?_⟩) (by assumption) ?_
          case refine_1 => intro W hSw; go_simp; try rfl
          try simp only [Act.put, List.getElem_toArray, List.getElem_cons_zero, List.getElem_cons_succ, List.setIfInBounds_toArray, List.set_cons_zero, List.set_cons_succ]
          refine wpAnyH_take (i := 2) (v := .int .i64 (k : Int)) rfl (by kernel_rfl) (by kernel_rfl) (by kernel_rfl) (fun _ _ _ h => h) (Or.inl ⟨by rfl, ?_⟩) (by assumption) ?_
          case refine_1 => intro W hSw; go_simp; try rfl
          try simp only [Act.put, List.getElem_toArray, List.getElem_cons_zero, List.getElem_cons_succ, List.setIfInBounds_toArray, List.set_cons_zero, List.set_cons_succ]
          refine wpAnyH_take (i := 3) (v := .pointer (some ⟨qb, qo + k * 5, none⟩)) rfl (by kernel_rfl) (by kernel_rfl) (by kernel_rfl) (fun _ _ _ h => h) (Or.inl ⟨by rfl, ?_⟩) (by assumption) ?_
          case refine_1 => intro W hSw; go_simp; try rfl
          try simp only [Act.put, List.getElem_toArray, List.getElem_cons_zero, List.getElem_cons_succ, List.setIfInBounds_toArray, List.set_cons_zero, List.set_cons_succ]
          refine wpAnyH_take (i := 4) (v := .pointer (some ⟨qb, qo + k * 5 + 1, none⟩)) rfl (by kernel_rfl) (by kernel_rfl) (by kernel_rfl) (fun _ _ _ h => h) (Or.inl ⟨by rfl, ?_⟩) (by assumption) ?_
          case refine_1 => intro W hSw; go_simp; try rfl
          try simp only [Act.put, List.getElem_toArray, List.getElem_cons_zero, List.getElem_cons_succ, List.setIfInBounds_toArray, List.set_cons_zero, List.set_cons_succ]
          refine wpAnyH_take (i := 5) (v := .agg (pxL y.p).toArray) rfl (by kernel_rfl) (by kernel_rfl) (by kernel_rfl) (fun _ _ _ h => h) (Or.inl ⟨by rfl, fun W hSw => sat_run PxK (.tmp 92) rfl (b := qb) (k := qo + k * 5 + 1) rfl (ds_px hSw) rfl⟩) (by assumption) ?_
          try simp only [Act.put, List.getElem_toArray, List.getElem_cons_zero, List.getElem_cons_succ, List.setIfInBounds_toArray, List.set_cons_zero, List.set_cons_succ]
          refine wpAnyH_take (i := 6) (v := .int .i64 (c.clock : Int)) rfl (by kernel_rfl) (by kernel_rfl) (by kernel_rfl) (fun _ _ _ h => h) (Or.inl ⟨by rfl, ?_⟩) (by assumption) ?_
          case refine_1 => intro W hSw; go_simp; try rfl
          try simp only [Act.put, List.getElem_toArray, List.getElem_cons_zero, List.getElem_cons_succ, List.setIfInBounds_toArray, List.set_cons_zero, List.set_cons_succ]
          refine wpAnyH_take (i := 7) (v := .slice (some ⟨qb, qo, none⟩) m capb) rfl (by kernel_rfl) (by kernel_rfl) (by kernel_rfl) (fun _ _ _ h => h) (Or.inl ⟨by rfl, ?_⟩) (by assumption) ?_
          case refine_1 => intro W hSw; go_simp; try rfl
          try simp only [Act.put, List.getElem_toArray, List.getElem_cons_zero, List.getElem_cons_succ, List.setIfInBounds_toArray, List.set_cons_zero, List.set_cons_succ]
          refine wpAnyH_take (i := 8) (v := .int .i64 (k : Int)) rfl (by kernel_rfl) (by kernel_rfl) (by kernel_rfl) (fun _ _ _ h => h) (Or.inl ⟨by rfl, ?_⟩) (by assumption) ?_
          case refine_1 => intro W hSw; go_simp; try rfl
          try simp only [Act.put, List.getElem_toArray, List.getElem_cons_zero, List.getElem_cons_succ, List.setIfInBounds_toArray, List.set_cons_zero, List.set_cons_succ]
          refine wpAnyH_take (i := 9) (v := .pointer (some ⟨qb, qo + k * 5, none⟩)) rfl (by kernel_rfl) (by kernel_rfl) (by kernel_rfl) (fun _ _ _ h => h) (Or.inl ⟨by rfl, ?_⟩) (by assumption) ?_
          case refine_1 => intro W hSw; go_simp; try rfl
          try simp only [Act.put, List.getElem_toArray, List.getElem_cons_zero, List.getElem_cons_succ, List.setIfInBounds_toArray, List.set_cons_zero, List.set_cons_succ]
          refine wpAnyH_take (i := 10) (v := .pointer (some ⟨qb, qo + k * 5 + 4, none⟩)) rfl (by kernel_rfl) (by kernel_rfl) (by kernel_rfl) (fun _ _ _ h => h) (Or.inl ⟨by rfl, ?_⟩) (by assumption) ?_
          case refine_1 => intro W hSw; go_simp; try rfl
          try simp only [Act.put, List.getElem_toArray, List.getElem_cons_zero, List.getElem_cons_succ, List.setIfInBounds_toArray, List.set_cons_zero, List.set_cons_succ]
          refine wpAnyH_take (i := 11) (v := .int .i64 y.wt) rfl (by kernel_rfl) (by kernel_rfl) (by kernel_rfl) (fun _ _ _ h => h) (Or.inl ⟨by rfl, ?_⟩) (by assumption) ?_
          case refine_1 => intro W hSw; have k1 : W.cell? ⟨qb, qo + k * 5 + 4, none⟩ = some (.int .i64 y.wt) := hSw 4 (by decide); go_simp; try rfl
          try simp only [Act.put, List.getElem_toArray, List.getElem_cons_zero, List.getElem_cons_succ, List.setIfInBounds_toArray, List.set_cons_zero, List.set_cons_succ]
          refine wpAnyH_take (i := 12) (v := .int .i64 kw) rfl (by kernel_rfl) (by kernel_rfl) (by kernel_rfl) (fun _ _ _ h => h) (Or.inl ⟨by rfl, ?_⟩) (by assumption) ?_
          case refine_1 => intro W hSw; have k2 := HKW.out; go_simp; try rfl
          try simp only [Act.put, List.getElem_toArray, List.getElem_cons_zero, List.getElem_cons_succ, List.setIfInBounds_toArray, List.set_cons_zero, List.set_cons_succ]
          refine wpAnyH_ready (rs := [13]) (by kernel_rfl) (by simp) ?_
          refine AllReadyH.cons rfl (fun K hK => ?_) AllReadyH.nil
          have HPE := (HASK.out wdwf HBDwf.out).2.2.2
          go_simp
          refine HPE.mono ?_
          rintro e wf ⟨rfl, hbe⟩
          have HBLwf : Hid (Below wy.heap.size wy wf) := HBDwf.out.trans (hbe.mono HBDwf.out.size)
          refine hK.out _ _ (HCW.out _ (HA.out.bel.trans (HBLwf.out.mono HA.out.bel.size))) (fun hHeld => ?_)
          clear hK K hbe HPE HBDwf
          try simp only [Act.put, List.getElem_toArray, List.getElem_cons_zero, List.getElem_cons_succ, List.setIfInBounds_toArray, List.set_cons_zero, List.set_cons_succ]
          refine wpAnyH_done (by kernel_rfl) ?_ _
          clear hHeld
          have HAF : Hid (LA w dx dy i c wf ∧ SB DsK b13 (dsL x) wf) := ⟨HA.out.step HBLwf.out, HX.out.blk (HBLwf.out.block _ HX.out.lt)⟩
          clear HBLwe HBLwf HASK HCW HA HX
          go_wp2_with fail
          exact ⟨⟨k + n, by omega, by simp, HAF.out.1, HAF.out.2⟩, by simp [intOf]; omega⟩
      case neg =>
        have hki : ¬ (k : Int) < (m : Int) := by omega
        have c13w : wy.cell? ⟨b13, 4, none⟩ = some (.int .i64 x.wt) := HX.out.cell 4
        have c13d : wy.cell? ⟨b13, 0, none⟩ = some (.int .i64 x.d) := HX.out.cell 0
        have hnw := HNW.out
        by_cases hd2 : x.d = 2
        case pos =>
          as_aux_lemma =>
            have hd2b : (x.d == 2) = true := by simpa using hd2
            clear hd2
            obtain ⟨t, ht⟩ : ∃ t : Nat, max (c.clock : Int) (min nw 1099511627776) = (t : Int) := ⟨(max (c.clock : Int) (min nw 1099511627776)).toNat, by omega⟩
            have HFR := HA.out.freed (by omega) nw t ht
            rw [HBX.out.1] at HFR
            go_wp2_with fail
            refine HFR.mono ?_
            rintro e w7 ⟨va7, n7, cap7, rfl, hk7', hnext⟩
            have HNX := hnext w7 (Below.refl _ _)
            rw [HBX.out.2] at HNX
            clear hk7' hnext HFR
            go_wp2_with fail
            refine HNX.mono ?_
            rintro e w8 ⟨vb8, capb8, rfl, hk8, hps, hla8⟩
            have HPS := hps w8 (Below.refl _ _)
            have HL8 : Hid (LA w dx dy (i + 1) (clkD c t) w8) := hla8
            clear hk8 hps hla8 HNX
            go_wp2_with fail
            refine HPS.mono ?_
            rintro e w9 ⟨rfl, hb9⟩
            have HL9 : Hid (LA w dx dy (i + 1) (clkD c t) w9) := HL8.out.step hb9
            clear hb9 HPS HL8
            go_wp2_with fail
            exact ⟨⟨i + 1, clkD c t, by omega, by simp, rfl, HL9.out⟩, by simp [intOf]; omega⟩
        case neg =>
          have hd2b : (x.d == 2) = false := by simpa using hd2
          clear hd2
          have HFL := (HA.out.step (drew_bel wy)).flap (by omega) x.p HXO.out.1 x.what nw
          rw [HBX.out.1] at HFL
          go_wp2_with fail
          have HS0 : Hid (SB DsK b13 (dsL x) wy.drew) := HX.out.blk ((drew_bel wy).block _ HX.out.lt)
          refine wp_region_held_drew (S := fun W => SB DsK b13 (dsL x) W) (by kernel_rfl) HS0.out (fun hHeld => ?_)
          obtain ⟨wd, hwd⟩ : ∃ z, wy.drew = z := ⟨_, rfl⟩
          rw [hwd] at HFL hHeld ⊢
          clear hwd HS0 HA HX c13w c13d
          refine wpAnyH_take (i := 0) (v := .pointer (some ⟨bx, 0, none⟩)) rfl (by kernel_rfl) (by kernel_rfl) (by kernel_rfl) (fun _ _ _ h => h) (Or.inl ⟨by rfl, ?_⟩) (by assumption) ?_
          case refine_1 => intro W hSw; go_simp; try rfl
          try simp only [Act.put, List.getElem_toArray, List.getElem_cons_zero, List.getElem_cons_succ, List.setIfInBounds_toArray, List.set_cons_zero, List.set_cons_succ]
          refine wpAnyH_take (i := 1) (v := .pointer (some ⟨b13, 1, none⟩)) rfl (by kernel_rfl) (by kernel_rfl) (by kernel_rfl) (fun _ _ _ h => h) (Or.inl ⟨by rfl, ?_⟩) (by assumption) ?_
          case refine_1 => intro W hSw; go_simp; try rfl
          try simp only [Act.put, List.getElem_toArray, List.getElem_cons_zero, List.getElem_cons_succ, List.setIfInBounds_toArray, List.set_cons_zero, List.set_cons_succ]
          refine wpAnyH_take (i := 2) (v := .agg (pxL x.p).toArray) rfl (by kernel_rfl) (by kernel_rfl) (by kernel_rfl) (fun _ _ _ h => h) (Or.inl ⟨by rfl, fun W hSw => sat_run PxK (.tmp 122) rfl (b := b13) (k := 1) rfl (ds_px (k := 0) (sb_five hSw)) rfl⟩) (by assumption) ?_
          try simp only [Act.put, List.getElem_toArray, List.getElem_cons_zero, List.getElem_cons_succ, List.setIfInBounds_toArray, List.set_cons_zero, List.set_cons_succ]
          refine wpAnyH_take (i := 3) (v := .pointer (some ⟨b13, 3, none⟩)) rfl (by kernel_rfl) (by kernel_rfl) (by kernel_rfl) (fun _ _ _ h => h) (Or.inl ⟨by rfl, ?_⟩) (by assumption) ?_
          case refine_1 => intro W hSw; go_simp; try rfl
          try simp only [Act.put, List.getElem_toArray, List.getElem_cons_zero, List.getElem_cons_succ, List.setIfInBounds_toArray, List.set_cons_zero, List.set_cons_succ]
          refine wpAnyH_take (i := 4) (v := .int .i64 x.what) rfl (by kernel_rfl) (by kernel_rfl) (by kernel_rfl) (fun _ _ _ h => h) (Or.inl ⟨by rfl, ?_⟩) (by assumption) ?_
          case refine_1 => intro W hSw; have k1 : W.cell? ⟨b13, 3, none⟩ = some (.int .i64 x.what) := hSw.cell 3; go_simp; try rfl
          try simp only [Act.put, List.getElem_toArray, List.getElem_cons_zero, List.getElem_cons_succ, List.setIfInBounds_toArray, List.set_cons_zero, List.set_cons_succ]
          refine wpAnyH_take (i := 5) (v := .int .i64 nw) rfl (by kernel_rfl) (by kernel_rfl) (by kernel_rfl) (fun _ _ _ h => h) (Or.inl ⟨by rfl, ?_⟩) (by assumption) ?_
          case refine_1 => intro W hSw; go_simp; try rfl
          try simp only [Act.put, List.getElem_toArray, List.getElem_cons_zero, List.getElem_cons_succ, List.setIfInBounds_toArray, List.set_cons_zero, List.set_cons_succ]
          refine wpAnyH_take (i := 7) (v := .pointer (some ⟨by_, 0, none⟩)) rfl (by kernel_rfl) (by kernel_rfl) (by kernel_rfl) (fun _ _ _ h => h) (Or.inl ⟨by rfl, ?_⟩) (by assumption) ?_
          case refine_1 => intro W hSw; go_simp; try rfl
          try simp only [Act.put, List.getElem_toArray, List.getElem_cons_zero, List.getElem_cons_succ, List.setIfInBounds_toArray, List.set_cons_zero, List.set_cons_succ]
          refine wpAnyH_take (i := 8) (v := .pointer (some ⟨b13, 1, none⟩)) rfl (by kernel_rfl) (by kernel_rfl) (by kernel_rfl) (fun _ _ _ h => h) (Or.inl ⟨by rfl, ?_⟩) (by assumption) ?_
          case refine_1 => intro W hSw; go_simp; try rfl
          try simp only [Act.put, List.getElem_toArray, List.getElem_cons_zero, List.getElem_cons_succ, List.setIfInBounds_toArray, List.set_cons_zero, List.set_cons_succ]
          refine wpAnyH_take (i := 9) (v := .agg (pxL x.p).toArray) rfl (by kernel_rfl) (by kernel_rfl) (by kernel_rfl) (fun _ _ _ h => h) (Or.inl ⟨by rfl, fun W hSw => sat_run PxK (.tmp 129) rfl (b := b13) (k := 1) rfl (ds_px (k := 0) (sb_five hSw)) rfl⟩) (by assumption) ?_
          try simp only [Act.put, List.getElem_toArray, List.getElem_cons_zero, List.getElem_cons_succ, List.setIfInBounds_toArray, List.set_cons_zero, List.set_cons_succ]
          refine wpAnyH_take (i := 10) (v := .pointer (some ⟨b13, 3, none⟩)) rfl (by kernel_rfl) (by kernel_rfl) (by kernel_rfl) (fun _ _ _ h => h) (Or.inl ⟨by rfl, ?_⟩) (by assumption) ?_
          case refine_1 => intro W hSw; go_simp; try rfl
          try simp only [Act.put, List.getElem_toArray, List.getElem_cons_zero, List.getElem_cons_succ, List.setIfInBounds_toArray, List.set_cons_zero, List.set_cons_succ]
          refine wpAnyH_take (i := 11) (v := .int .i64 x.what) rfl (by kernel_rfl) (by kernel_rfl) (by kernel_rfl) (fun _ _ _ h => h) (Or.inl ⟨by rfl, ?_⟩) (by assumption) ?_
          case refine_1 => intro W hSw; have k1 : W.cell? ⟨b13, 3, none⟩ = some (.int .i64 x.what) := hSw.cell 3; go_simp; try rfl
          try simp only [Act.put, List.getElem_toArray, List.getElem_cons_zero, List.getElem_cons_succ, List.setIfInBounds_toArray, List.set_cons_zero, List.set_cons_succ]
          refine wpAnyH_take (i := 12) (v := .int .i64 nw) rfl (by kernel_rfl) (by kernel_rfl) (by kernel_rfl) (fun _ _ _ h => h) (Or.inl ⟨by rfl, ?_⟩) (by assumption) ?_
          case refine_1 => intro W hSw; go_simp; try rfl
          try simp only [Act.put, List.getElem_toArray, List.getElem_cons_zero, List.getElem_cons_succ, List.setIfInBounds_toArray, List.set_cons_zero, List.set_cons_succ]
          refine wpAnyH_ready (rs := [6]) (by kernel_rfl) (by simp) ?_
          refine AllReadyH.cons rfl (fun K hK => ?_) AllReadyH.nil
          go_simp
          refine HFL.mono ?_
          rintro e w7 ⟨r, rfl, hk7', hr0, hnext⟩
          have HNX := hnext w7 (Below.refl _ _)
          rw [HBX.out.2] at HNX
          have HR0 : Hid (r = 0 → (c.clock : Int) ≤ nw ∧ nw ≤ 1099511627776) := hr0
          refine hK.out _ _ (hHeld.blk (hk7'.blk _ hHeld.lt HN13.out.2.1)) (fun hHeld => ?_)
          clear hK K hk7' hr0 hnext HFL
          try simp only [Act.put, List.getElem_toArray, List.getElem_cons_zero, List.getElem_cons_succ, List.setIfInBounds_toArray, List.set_cons_zero, List.set_cons_succ]
          refine wpAnyH_ready (rs := [13]) (by kernel_rfl) (by simp) ?_
          refine AllReadyH.cons rfl (fun K hK => ?_) AllReadyH.nil
          go_simp
          refine HNX.mono ?_
          rintro e w8 ⟨rfl, hk8, hla8⟩
          have HL8 : Hid (LA w dx dy (i + 1) (ckOf c r nw) w8) := hla8
          refine hK.out _ _ (hHeld.blk (hk8.blk _ hHeld.lt HN13.out.2.2)) (fun hHeld => ?_)
          clear hK K hk8 hla8 HNX
          try simp only [Act.put, List.getElem_toArray, List.getElem_cons_zero, List.getElem_cons_succ, List.setIfInBounds_toArray, List.set_cons_zero, List.set_cons_succ]
          refine wpAnyH_take (i := 14) (v := .int .i64 r) rfl (by kernel_rfl) (by kernel_rfl) (by kernel_rfl) (fun _ _ _ h => h) (Or.inl ⟨by rfl, ?_⟩) (by assumption) ?_
          case refine_1 => intro W hSw; go_simp; try rfl
          try simp only [Act.put, List.getElem_toArray, List.getElem_cons_zero, List.getElem_cons_succ, List.setIfInBounds_toArray, List.set_cons_zero, List.set_cons_succ]
          refine wpAnyH_take (i := 15) (v := .int .i64 r) rfl (by kernel_rfl) (by kernel_rfl) (by kernel_rfl) (fun _ _ _ h => h) (Or.inl ⟨by rfl, ?_⟩) (by assumption) ?_
          case refine_1 => intro W hSw; go_simp; try rfl
          try simp only [Act.put, List.getElem_toArray, List.getElem_cons_zero, List.getElem_cons_succ, List.setIfInBounds_toArray, List.set_cons_zero, List.set_cons_succ]
          refine wpAnyH_done (by kernel_rfl) ?_ _
          have HX8 : Hid (SB DsK b13 (dsL x) w8) := hHeld
          clear hHeld
          obtain ⟨z1, h1, hask⟩ := (HL8.out.step (drew_bel w8)).ask x.p nw HNR.out.2
          rw [HBX.out.1, HBX.out.2] at hask
          have HASK : Hid (∀ W', Below w8.drew.heap.size w8.drew W' → _ ∧ _ ∧ _ ∧ _) := hask
          clear hask
          go_wp2_with fail
          have HS0 : Hid (SB DsK b13 (dsL x) w8.drew) := HX8.out.blk ((drew_bel w8).block _ HX8.out.lt)
          refine wp_region_held_drew (S := fun W => SB DsK b13 (dsL x) W) (by kernel_rfl) HS0.out (fun hHeld => ?_)
          have HL9 : Hid (LA w dx dy (i + 1) (ckOf c r nw) w8.drew) := HL8.out.step (drew_bel w8)
          obtain ⟨wd2, hwd⟩ : ∃ z, w8.drew = z := ⟨_, rfl⟩
          rw [hwd] at HASK HL9 hHeld ⊢
          clear hwd HS0 HX8 HL8
          have HBA : Hid (Below wd2.heap.size wd2 wd2) := Below.refl _ _
          refine wpAnyH_take (i := 0) (v := .int .i64 r) rfl (by kernel_rfl) (by kernel_rfl) (by kernel_rfl) (fun _ _ _ h => h) (Or.inl ⟨by rfl, ?_⟩) (by assumption) ?_
          case refine_1 => intro W hSw; go_simp; try rfl
          try simp only [Act.put, List.getElem_toArray, List.getElem_cons_zero, List.getElem_cons_succ, List.setIfInBounds_toArray, List.set_cons_zero, List.set_cons_succ]
          refine wpAnyH_take (i := 1) (v := .int .i64 r) rfl (by kernel_rfl) (by kernel_rfl) (by kernel_rfl) (fun _ _ _ h => h) (Or.inl ⟨by rfl, ?_⟩) (by assumption) ?_
          case refine_1 => intro W hSw; go_simp; try rfl
          try simp only [Act.put, List.getElem_toArray, List.getElem_cons_zero, List.getElem_cons_succ, List.setIfInBounds_toArray, List.set_cons_zero, List.set_cons_succ]
          refine wpAnyH_take (i := 2) (v := .bool false) rfl (by kernel_rfl) (by kernel_rfl) (by kernel_rfl) (fun _ _ _ h => h) (Or.inl ⟨by rfl, ?_⟩) (by assumption) ?_
          case refine_1 => intro W hSw; go_simp; try rfl
          try simp only [Act.put, List.getElem_toArray, List.getElem_cons_zero, List.getElem_cons_succ, List.setIfInBounds_toArray, List.set_cons_zero, List.set_cons_succ]
          refine wpAnyH_take (i := 3) (v := .bool false) rfl (by kernel_rfl) (by kernel_rfl) (by kernel_rfl) (fun _ _ _ h => h) (Or.inl ⟨by rfl, ?_⟩) (by assumption) ?_
          case refine_1 => intro W hSw; go_simp; try rfl
          try simp only [Act.put, List.getElem_toArray, List.getElem_cons_zero, List.getElem_cons_succ, List.setIfInBounds_toArray, List.set_cons_zero, List.set_cons_succ]
          refine wpAnyH_take (i := 4) (v := .pointer (some ⟨bx, 0, none⟩)) rfl (by kernel_rfl) (by kernel_rfl) (by kernel_rfl) (fun _ _ _ h => h) (Or.inl ⟨by rfl, ?_⟩) (by assumption) ?_
          case refine_1 => intro W hSw; go_simp; try rfl
          try simp only [Act.put, List.getElem_toArray, List.getElem_cons_zero, List.getElem_cons_succ, List.setIfInBounds_toArray, List.set_cons_zero, List.set_cons_succ]
          refine wpAnyH_take (i := 5) (v := .pointer (some ⟨b13, 1, none⟩)) rfl (by kernel_rfl) (by kernel_rfl) (by kernel_rfl) (fun _ _ _ h => h) (Or.inl ⟨by rfl, ?_⟩) (by assumption) ?_
          case refine_1 => intro W hSw; go_simp; try rfl
          try simp only [Act.put, List.getElem_toArray, List.getElem_cons_zero, List.getElem_cons_succ, List.setIfInBounds_toArray, List.set_cons_zero, List.set_cons_succ]
          refine wpAnyH_take (i := 6) (v := .agg (pxL x.p).toArray) rfl (by kernel_rfl) (by kernel_rfl) (by kernel_rfl) (fun _ _ _ h => h) (Or.inl ⟨by rfl, fun W hSw => sat_run PxK (.tmp 140) rfl (b := b13) (k := 1) rfl (ds_px (k := 0) (sb_five hSw)) rfl⟩) (by assumption) ?_
          try simp only [Act.put, List.getElem_toArray, List.getElem_cons_zero, List.getElem_cons_succ, List.setIfInBounds_toArray, List.set_cons_zero, List.set_cons_succ]
          refine wpAnyH_take (i := 7) (v := .int .i64 nw) rfl (by kernel_rfl) (by kernel_rfl) (by kernel_rfl) (fun _ _ _ h => h) (Or.inl ⟨by rfl, ?_⟩) (by assumption) ?_
          case refine_1 => intro W hSw; go_simp; try rfl
          try simp only [Act.put, List.getElem_toArray, List.getElem_cons_zero, List.getElem_cons_succ, List.setIfInBounds_toArray, List.set_cons_zero, List.set_cons_succ]
          refine wpAnyH_take (i := 9) (v := .pointer (some ⟨by_, 0, none⟩)) rfl (by kernel_rfl) (by kernel_rfl) (by kernel_rfl) (fun _ _ _ h => h) (Or.inl ⟨by rfl, ?_⟩) (by assumption) ?_
          case refine_1 => intro W hSw; go_simp; try rfl
          try simp only [Act.put, List.getElem_toArray, List.getElem_cons_zero, List.getElem_cons_succ, List.setIfInBounds_toArray, List.set_cons_zero, List.set_cons_succ]
          refine wpAnyH_take (i := 10) (v := .pointer (some ⟨b13, 1, none⟩)) rfl (by kernel_rfl) (by kernel_rfl) (by kernel_rfl) (fun _ _ _ h => h) (Or.inl ⟨by rfl, ?_⟩) (by assumption) ?_
          case refine_1 => intro W hSw; go_simp; try rfl
          try simp only [Act.put, List.getElem_toArray, List.getElem_cons_zero, List.getElem_cons_succ, List.setIfInBounds_toArray, List.set_cons_zero, List.set_cons_succ]
          refine wpAnyH_take (i := 11) (v := .agg (pxL x.p).toArray) rfl (by kernel_rfl) (by kernel_rfl) (by kernel_rfl) (fun _ _ _ h => h) (Or.inl ⟨by rfl, fun W hSw => sat_run PxK (.tmp 145) rfl (b := b13) (k := 1) rfl (ds_px (k := 0) (sb_five hSw)) rfl⟩) (by assumption) ?_
          try simp only [Act.put, List.getElem_toArray, List.getElem_cons_zero, List.getElem_cons_succ, List.setIfInBounds_toArray, List.set_cons_zero, List.set_cons_succ]
          refine wpAnyH_take (i := 12) (v := .int .i64 nw) rfl (by kernel_rfl) (by kernel_rfl) (by kernel_rfl) (fun _ _ _ h => h) (Or.inl ⟨by rfl, ?_⟩) (by assumption) ?_
          case refine_1 => intro W hSw; go_simp; try rfl
          try simp only [Act.put, List.getElem_toArray, List.getElem_cons_zero, List.getElem_cons_succ, List.setIfInBounds_toArray, List.set_cons_zero, List.set_cons_succ]
          refine wpAnyH_ready (rs := [8]) (by kernel_rfl) (by simp) ?_
          refine AllReadyH.cons rfl (fun K hK => ?_) AllReadyH.nil
          have HPE := (HASK.out wd2 HBA.out).1
          go_simp
          refine HPE.mono ?_
          rintro e p1 ⟨rfl, hbe⟩
          have HBp1 : Hid (Below wd2.heap.size wd2 p1) := HBA.out.trans (hbe.mono HBA.out.size)
          refine hK.out _ _ (hHeld.blk (hbe.block _ hHeld.lt)) (fun hHeld => ?_)
          clear hK K hbe HPE
          try simp only [Act.put, List.getElem_toArray, List.getElem_cons_zero, List.getElem_cons_succ, List.setIfInBounds_toArray, List.set_cons_zero, List.set_cons_succ]
          refine wpAnyH_ready (rs := [13]) (by kernel_rfl) (by simp) ?_
          refine AllReadyH.cons rfl (fun K hK => ?_) AllReadyH.nil
          have HPE := (HASK.out p1 HBp1.out).2.1
          go_simp
          refine HPE.mono ?_
          rintro e p2 ⟨rfl, hbe⟩
          have HBp2 : Hid (Below wd2.heap.size wd2 p2) := HBp1.out.trans (hbe.mono HBp1.out.size)
          refine hK.out _ _ (hHeld.blk (hbe.block _ hHeld.lt)) (fun hHeld => ?_)
          clear hK K hbe HPE
          try simp only [Act.put, List.getElem_toArray, List.getElem_cons_zero, List.getElem_cons_succ, List.setIfInBounds_toArray, List.set_cons_zero, List.set_cons_succ]
          refine wpAnyH_take (i := 14) (v := .bool false) rfl (by kernel_rfl) (by kernel_rfl) (by kernel_rfl) (fun _ _ _ h => h) (Or.inl ⟨by rfl, ?_⟩) (by assumption) ?_
          case refine_1 => intro W hSw; go_simp; try rfl
          try simp only [Act.put, List.getElem_toArray, List.getElem_cons_zero, List.getElem_cons_succ, List.setIfInBounds_toArray, List.set_cons_zero, List.set_cons_succ]
          refine wpAnyH_take (i := 15) (v := .bool false) rfl (by kernel_rfl) (by kernel_rfl) (by kernel_rfl) (fun _ _ _ h => h) (Or.inl ⟨by rfl, ?_⟩) (by assumption) ?_
          case refine_1 => intro W hSw; go_simp; try rfl
          try simp only [Act.put, List.getElem_toArray, List.getElem_cons_zero, List.getElem_cons_succ, List.setIfInBounds_toArray, List.set_cons_zero, List.set_cons_succ]
          refine wpAnyH_take (i := 16) (v := .bool false) rfl (by kernel_rfl) (by kernel_rfl) (by kernel_rfl) (fun _ _ _ h => h) (Or.inl ⟨by rfl, ?_⟩) (by assumption) ?_
          case refine_1 => intro W hSw; go_simp; try rfl
          try simp only [Act.put, List.getElem_toArray, List.getElem_cons_zero, List.getElem_cons_succ, List.setIfInBounds_toArray, List.set_cons_zero, List.set_cons_succ]
          refine wpAnyH_take (i := 17) (v := .pointer (some ⟨bx, 0, none⟩)) rfl (by kernel_rfl) (by kernel_rfl) (by kernel_rfl) (fun _ _ _ h => h) (Or.inl ⟨by rfl, ?_⟩) (by assumption) ?_
          case refine_1 => intro W hSw; go_simp; try rfl
          try simp only [Act.put, List.getElem_toArray, List.getElem_cons_zero, List.getElem_cons_succ, List.setIfInBounds_toArray, List.set_cons_zero, List.set_cons_succ]
          refine wpAnyH_take (i := 18) (v := .pointer (some ⟨b13, 1, none⟩)) rfl (by kernel_rfl) (by kernel_rfl) (by kernel_rfl) (fun _ _ _ h => h) (Or.inl ⟨by rfl, ?_⟩) (by assumption) ?_
          case refine_1 => intro W hSw; go_simp; try rfl
          try simp only [Act.put, List.getElem_toArray, List.getElem_cons_zero, List.getElem_cons_succ, List.setIfInBounds_toArray, List.set_cons_zero, List.set_cons_succ]
          refine wpAnyH_take (i := 19) (v := .agg (pxL x.p).toArray) rfl (by kernel_rfl) (by kernel_rfl) (by kernel_rfl) (fun _ _ _ h => h) (Or.inl ⟨by rfl, fun W hSw => sat_run PxK (.tmp 153) rfl (b := b13) (k := 1) rfl (ds_px (k := 0) (sb_five hSw)) rfl⟩) (by assumption) ?_
          try simp only [Act.put, List.getElem_toArray, List.getElem_cons_zero, List.getElem_cons_succ, List.setIfInBounds_toArray, List.set_cons_zero, List.set_cons_succ]
          refine wpAnyH_take (i := 20) (v := .int .i64 nw) rfl (by kernel_rfl) (by kernel_rfl) (by kernel_rfl) (fun _ _ _ h => h) (Or.inl ⟨by rfl, ?_⟩) (by assumption) ?_
          case refine_1 => intro W hSw; go_simp; try rfl
          try simp only [Act.put, List.getElem_toArray, List.getElem_cons_zero, List.getElem_cons_succ, List.setIfInBounds_toArray, List.set_cons_zero, List.set_cons_succ]
          refine wpAnyH_take (i := 22) (v := .pointer (some ⟨by_, 0, none⟩)) rfl (by kernel_rfl) (by kernel_rfl) (by kernel_rfl) (fun _ _ _ h => h) (Or.inl ⟨by rfl, ?_⟩) (by assumption) ?_
          case refine_1 => intro W hSw; go_simp; try rfl
          try simp only [Act.put, List.getElem_toArray, List.getElem_cons_zero, List.getElem_cons_succ, List.setIfInBounds_toArray, List.set_cons_zero, List.set_cons_succ]
          refine wpAnyH_take (i := 23) (v := .pointer (some ⟨b13, 1, none⟩)) rfl (by kernel_rfl) (by kernel_rfl) (by kernel_rfl) (fun _ _ _ h => h) (Or.inl ⟨by rfl, ?_⟩) (by assumption) ?_
          case refine_1 => intro W hSw; go_simp; try rfl
          try simp only [Act.put, List.getElem_toArray, List.getElem_cons_zero, List.getElem_cons_succ, List.setIfInBounds_toArray, List.set_cons_zero, List.set_cons_succ]
          refine wpAnyH_take (i := 24) (v := .agg (pxL x.p).toArray) rfl (by kernel_rfl) (by kernel_rfl) (by kernel_rfl) (fun _ _ _ h => h) (Or.inl ⟨by rfl, fun W hSw => sat_run PxK (.tmp 158) rfl (b := b13) (k := 1) rfl (ds_px (k := 0) (sb_five hSw)) rfl⟩) (by assumption) ?_
          try simp only [Act.put, List.getElem_toArray, List.getElem_cons_zero, List.getElem_cons_succ, List.setIfInBounds_toArray, List.set_cons_zero, List.set_cons_succ]
          refine wpAnyH_take (i := 25) (v := .int .i64 nw) rfl (by kernel_rfl) (by kernel_rfl) (by kernel_rfl) (fun _ _ _ h => h) (Or.inl ⟨by rfl, ?_⟩) (by assumption) ?_
          case refine_1 => intro W hSw; go_simp; try rfl
          try simp only [Act.put, List.getElem_toArray, List.getElem_cons_zero, List.getElem_cons_succ, List.setIfInBounds_toArray, List.set_cons_zero, List.set_cons_succ]
          refine wpAnyH_ready (rs := [21]) (by kernel_rfl) (by simp) ?_
          refine AllReadyH.cons rfl (fun K hK => ?_) AllReadyH.nil
          have HPE := (HASK.out p2 HBp2.out).2.2.1
          go_simp
          refine HPE.mono ?_
          rintro e p3 ⟨rfl, hbe⟩
          have HBp3 : Hid (Below wd2.heap.size wd2 p3) := HBp2.out.trans (hbe.mono HBp2.out.size)
          refine hK.out _ _ (hHeld.blk (hbe.block _ hHeld.lt)) (fun hHeld => ?_)
          clear hK K hbe HPE
          try simp only [Act.put, List.getElem_toArray, List.getElem_cons_zero, List.getElem_cons_succ, List.setIfInBounds_toArray, List.set_cons_zero, List.set_cons_succ]
          refine wpAnyH_ready (rs := [26]) (by kernel_rfl) (by simp) ?_
          refine AllReadyH.cons rfl (fun K hK => ?_) AllReadyH.nil
          have HPE := (HASK.out p3 HBp3.out).2.2.2
          go_simp
          refine HPE.mono ?_
          rintro e p4 ⟨rfl, hbe⟩
          have HBp4 : Hid (Below wd2.heap.size wd2 p4) := HBp3.out.trans (hbe.mono HBp3.out.size)
          refine hK.out _ _ (hHeld.blk (hbe.block _ hHeld.lt)) (fun hHeld => ?_)
          clear hK K hbe HPE
          try simp only [Act.put, List.getElem_toArray, List.getElem_cons_zero, List.getElem_cons_succ, List.setIfInBounds_toArray, List.set_cons_zero, List.set_cons_succ]
          refine wpAnyH_take (i := 27) (v := .bool false) rfl (by kernel_rfl) (by kernel_rfl) (by kernel_rfl) (fun _ _ _ h => h) (Or.inl ⟨by rfl, ?_⟩) (by assumption) ?_
          case refine_1 => intro W hSw; go_simp; try rfl
          try simp only [Act.put, List.getElem_toArray, List.getElem_cons_zero, List.getElem_cons_succ, List.setIfInBounds_toArray, List.set_cons_zero, List.set_cons_succ]
          refine wpAnyH_take (i := 28) (v := .bool false) rfl (by kernel_rfl) (by kernel_rfl) (by kernel_rfl) (fun _ _ _ h => h) (Or.inl ⟨by rfl, ?_⟩) (by assumption) ?_
          case refine_1 => intro W hSw; go_simp; try rfl
          try simp only [Act.put, List.getElem_toArray, List.getElem_cons_zero, List.getElem_cons_succ, List.setIfInBounds_toArray, List.set_cons_zero, List.set_cons_succ]
          refine wpAnyH_done (by kernel_rfl) ?_ _
          clear hHeld
          have HLF : Hid (LA w dx dy (i + 1) (ckOf c r nw) p4) := HL9.out.step HBp4.out
          clear HBA HBp1 HBp2 HBp3 HBp4 HL9 HASK
          by_cases h0 : r = 0
          case pos =>
            have h0b : (r == 0) = true := by simpa using h0
            have HF : Hid (nw = (((ckOf c r nw).clock : Nat) : Int)) := by
              have := HR0.out h0
              show _ = _
              unfold ckOf
              rw [if_pos h0]
              show nw = ((nw.toNat : Nat) : Int)
              omega
            clear h0
            go_wp2_with fail
            exact ⟨⟨i + 1, ckOf c r nw, by omega, by simp, by rw [← HF.out], HLF.out⟩, by simp [intOf]; omega⟩
          case neg =>
            have h0b : (r == 0) = false := by simpa using h0
            have HF : Hid (ckOf c r nw = c) := by show _ = _; unfold ckOf; rw [if_neg h0]
            have HLG : Hid (LA w dx dy (i + 1) c p4) := by rw [← HF.out]; exact HLF.out
            clear h0 HLF HF
            go_wp2_with fail
            exact ⟨⟨i + 1, c, by omega, by simp, rfl, HLG.out⟩, by simp [intOf]; omega⟩
end Go.Proofs.Ytjfiahendnlcjaa.Da
