/- DampEnds: its law. -/
import Derived.Test.YtjfiahendnlcjaaDaN
namespace Go.Proofs.Ytjfiahendnlcjaa.Da
open Go.ChangeShapes Go.WideShapes Go.ChangeAt Go.RowKit Go.Joins Go.Deep Go.Proofs.Ytjfiahendnlcjaa.Ge Go.Proofs.Ytjfiahendnlcjaa.PM Go.Proofs.Ytjfiahendnlcjaa.Ask
set_option linter.unusedVariables false
set_option linter.unusedSimpArgs false

theorem k_few {m k r : Nat} (hm : m ≤ 1000000) (hr : 1 ≤ r) (h : r ≤ m / 2 ^ k) : k < 20 := by
  refine Decidable.by_contra fun hk => ?_
  have h1 : 2 ^ 20 ≤ 2 ^ k := Nat.pow_le_pow_right (by decide) (by omega)
  have h2 : m / 2 ^ k = 0 := Nat.div_eq_of_lt (by omega)
  omega
theorem not_ahead {ys : List (Int × Int)} {y : Int × Int} {i : Nat} (hn : ys.Nodup) (hi : i < ys.length) (hy : ys[i] = y) : y ∉ ys.take i := by
  intro hm
  obtain ⟨j, hj, e⟩ := List.mem_take_iff_getElem.1 hm
  have hlt : j < i := by omega
  have := (List.nodup_iff_pairwise_ne.1 hn)
  exact (List.pairwise_iff_getElem.1 this j i (by omega) hi hlt) (e.trans hy.symm)
/-- the halving loop -/
def HI (wz : World) (m h clk : Nat) (vv tv : Value) (W : World) : Prop := ∃ k : Nat, k ≤ 20 ∧ vv = .int .i64 ((m / 2 ^ k : Nat) : Int) ∧ tv = .int .i64 ((clk + k * h : Nat) : Int) ∧ W = wz
def StI (wz : World) (n : Nat) (iv : Value) (W : World) : Prop := ∃ i : Nat, i ≤ n ∧ iv = .int .i64 (i : Int) ∧ Below wz.heap.size wz W
set_option maxRecDepth 100000 in
set_option maxHeartbeats 32000000 in
theorem ends_any (ca cb cc cd ce cf : Int) (va : Option Addr) (n cap : Nat) (l : List Ds) (w : World) (hl : Lst ED w va l) (hln : l.length = n) (hlo : ∀ x ∈ l, DsOk x) :
    Calls Try.prog 5 #[.agg (cgL ca cb cc cd ce cf).toArray, .slice va n cap] w fun e w' => e = .returned (.bool true) ∧ Below w.heap.size w w' := by
  have HL : Hid (Lst ED w va l) := hl
  have HLN : Hid (l.length = n) := hln
  have HLO : Hid (∀ x ∈ l, DsOk x) := hlo
  have hns : n ≤ 9223372036854775807 := by rw [← hln]; exact hl.small
  clear hl hln hlo
  go_enter Try.func5, Try.ntmps5
  go_wp2_with (refine list_sbox CgK rfl _ rfl (cs := [.int .i64 ca, .int .i64 cb, .int .i64 cc, .int .i64 cd, .int .i64 ce, .int .i64 cf]) rfl ?_)
  intro w1 hb1 hbl1 hz1
  obtain ⟨b3, hb3⟩ : ∃ y, w.heap.size = y := ⟨_, rfl⟩
  have HX1 : Hid (SB CgK b3 [.int .i64 ca, .int .i64 cb, .int .i64 cc, .int .i64 cd, .int .i64 ce, .int .i64 cf] w1) := by rw [← hb3]; exact hb1.out
  have HB1 : Hid (Below w.heap.size w w1) := hbl1.out
  have HW3 : Hid (w.heap.size ≤ b3) := Nat.le_of_eq hb3
  rw [hb3]
  clear hb1 hbl1 hz1 hb3
  go_wp2_with fail
  refine (works_any w1).mono ?_
  rintro e w2 ⟨rfl, hb2⟩
  have HX2 : Hid (SB CgK b3 [.int .i64 ca, .int .i64 cb, .int .i64 cc, .int .i64 cd, .int .i64 ce, .int .i64 cf] w2) := HX1.out.blk (hb2.block _ HX1.out.lt)
  have HB2 : Hid (Below w.heap.size w w2) := HB1.out.trans (hb2.mono HB1.out.size)
  clear hb2 HX1 HB1
  by_cases hm : mayD ca cb cc cd ce cf
  case neg =>
    have HM : Hid (¬ mayD ca cb cc cd ce cf) := hm
    clear hm
    go_wp2_with (refine list_sload CgK rfl _ rfl (b := b3) (cs := [.int .i64 ca, .int .i64 cb, .int .i64 cc, .int .i64 cd, .int .i64 ce, .int .i64 cf]) rfl HX2.out rfl ?_)
    refine (new_no ca cb cc cd ce cf w2 HM.out).mono ?_
    rintro e w3 ⟨rfl, hb3⟩
    have HB3 : Hid (Below w.heap.size w w3) := HB2.out.trans (hb3.mono HB2.out.size)
    clear hb3 HX2 HB2
    by_cases h3 : 300 < n
    · have h3i : (300 : Int) < (n : Int) := by omega
      go_wp2_with fail
      go_ret
      exact ⟨rfl, HB3.out⟩
    · have h3i : ¬ (300 : Int) < (n : Int) := by omega
      go_wp2_with fail
      go_ret
      exact ⟨rfl, HB3.out⟩
  have HM : Hid (mayD ca cb cc cd ce cf) := hm
  clear hm
  go_wp2_with (refine list_sload CgK rfl _ rfl (b := b3) (cs := [.int .i64 ca, .int .i64 cb, .int .i64 cc, .int .i64 cd, .int .i64 ce, .int .i64 cf]) rfl HX2.out rfl ?_)
  refine (new_any ca cb cc cd ce cf w2 HM.out).mono ?_
  rintro e w3 ⟨d, rfl, hdx, hb3, hfx⟩
  obtain ⟨c0', hc0⟩ : ∃ y, dcOf ca cb cc cd ce cf = y := ⟨_, rfl⟩
  rw [hc0] at hdx
  have HEI0 : Hid (EI w d b3 [.int .i64 ca, .int .i64 cb, .int .i64 cc, .int .i64 cd, .int .i64 ce, .int .i64 cf] c0' 0 c0' (.slice none 0 0) [] w3) := ⟨⟨[], 0, [], 0, hdx, ⟨List.nodup_nil, fun p => by simp [mget, mfind]⟩, Nat.le_refl _, Nat.le_refl _⟩, OwnL.nil E2 _ _, HX2.out.blk (hb3.block _ HX2.out.lt), Nat.le_refl _, rfl, (fun g e => by cases e), (fun g e => by cases e), fun g hg => ⟨Nat.le_trans HB2.out.size (hfx g hg), hdx.lt g hg, fun e => by have := hfx g hg; have := HX2.out.lt; omega⟩, HW3.out, HB2.out.trans (hb3.mono HB2.out.size)⟩
  have HCL : Hid (c0'.clock = 0) := by rw [← hc0]; rfl
  have HCC : Hid ((c0'.half : Int) = ca ∧ (c0'.reuse : Int) = cc ∧ (c0'.most : Int) = cd) := by
    have hm := HM.out
    unfold mayD at hm
    rw [← hc0]
    show ((ca.toNat : Nat) : Int) = ca ∧ ((cc.toNat : Nat) : Int) = cc ∧ ((cd.toNat : Nat) : Int) = cd
    omega
  have HOK : Hid (DcOk c0') := hdx.cok
  have HB3 : Hid (Below w.heap.size w w3) := HEI0.out.bel
  clear hdx hb3 hfx hc0 HX2 HB2 HM
  obtain ⟨bx, hbx⟩ : ∃ y, d.b = y := ⟨_, rfl⟩
  have HBX : Hid (d.b = bx) := hbx
  rw [hbx]
  clear hbx
  by_cases h3 : 300 < n
  case pos =>
    have h3i : (300 : Int) < (n : Int) := by omega
    go_wp2_with fail
    go_ret
    exact ⟨rfl, HB3.out⟩
  have h3i : ¬ (300 : Int) < (n : Int) := by omega
  clear HB3
  go_wp2_with fail
  go_loopw [39, 7, 8] (fun iv cv hv wr => ∃ (i : Nat) (c : Dc) (hs : List (Int × Int)), i ≤ n ∧ iv = .int .i64 (i : Int) ∧ cv = .int .i64 (c.clock : Int) ∧ EI w d b3 [.int .i64 ca, .int .i64 cb, .int .i64 cc, .int .i64 cd, .int .i64 ce, .int .i64 cf] c0' i c hv hs wr) (fun i _ _ _ => n - (intOf i).toNat)
  case atStart => exact ⟨0, c0', [], by omega, rfl, by rw [HCL.out]; rfl, HEI0.out⟩
  case round =>
    obtain ⟨i, c, hs, hi, rfl, rfl, hei⟩ := hrel
    obtain ⟨ha, hc, hvf, -⟩ := hei.own.form
    obtain ⟨hn, hnl⟩ : ∃ y, hs.length = y := ⟨_, rfl⟩
    rw [hnl] at hvf
    subst hvf
    have HNL : Hid (hs.length = hn) := hnl
    have HHL : Hid (hs.length ≤ i) := hei.hl
    have HA : Hid (EI w d b3 [.int .i64 ca, .int .i64 cb, .int .i64 cc, .int .i64 cd, .int .i64 ce, .int .i64 cf] c0' i c (.slice ha hn hc) hs wr) := hei
    clear hei HEI0 HCL hnl
    obtain ⟨wz, hwz⟩ : ∃ y, wr = y := ⟨_, rfl⟩
    rw [hwz] at HA ⊢
    clear hwz
    by_cases hlt : i < n
    case pos =>
      as_aux_lemma =>
        have hlti : (i : Int) < (n : Int) := by omega
        obtain ⟨lb, lo, rfl, hlbl, hcl⟩ := lstD HL.out i (by rw [HLN.out]; exact hlt)
        obtain ⟨x, hx⟩ : ∃ y, l[i]'(by rw [HLN.out]; exact hlt) = y := ⟨_, rfl⟩
        have HXO : Hid (DsOk x) := HLO.out x (hx ▸ List.getElem_mem _)
        rw [hx] at hcl
        have HC5 : Hid (∀ j, j < DsK.k → wz.cell? ⟨lb, lo + i * 5 + j, none⟩ = (dsL x)[j]?) := fun j hj => by
          rw [← hcl j hj]
          unfold World.cell?
          rw [HA.out.bel.block lb hlbl]
        clear hcl hx hlbl
        go_wp2_with (first | (refine list_sat DsK rfl _ rfl (b := lb) (k := lo + i * 5) (cs := dsL x) rfl HC5.out rfl ?_) | (refine list_dsnew rfl rfl ?_))
        intro b10 w5 hb10 hx10 hbl5
        have HX10 : Hid (SB DsK b10 (dsL ⟨0, (0, 0), 0, 0⟩) w5) := hx10.out
        have HA5 : Hid (EI w d b3 [.int .i64 ca, .int .i64 cb, .int .i64 cc, .int .i64 cd, .int .i64 ce, .int .i64 cf] c0' i c (.slice ha hn hc) hs w5) := HA.out.step hbl5.out
        have HN10 : Hid (w.heap.size ≤ b10 ∧ ¬ fpD d b10 ∧ b10 ≠ b3 ∧ ∀ g, (Value.slice ha hn hc).ownBlock = some g → g ≠ b10) := by
          have h1 := hb10.out; have h2 := HA.out.bel.size; have h4 := HA.out.box.lt
          exact ⟨by omega, fun hf => by have := (HA.out.lx _ hf).2.1; omega, by omega, fun g e => by have := (HA.out.own.row.lt g e).2; omega⟩
        clear hb10 hx10 hbl5 HA HC5
        go_wp2_with (refine list_sstore DsK rfl _ _ rfl (b := b10) (cs := dsL ⟨0, (0, 0), 0, 0⟩) (cs' := dsL x) rfl rfl HX10.out rfl rfl rfl ?_)
        intro w6 hx6 hk6
        have HX6 : Hid (SB DsK b10 (dsL x) w6) := hx6.out
        have HA6 : Hid (EI w d b3 [.int .i64 ca, .int .i64 cb, .int .i64 cc, .int .i64 cd, .int .i64 ce, .int .i64 cf] c0' i c (.slice ha hn hc) hs w6) := HA5.out.ko hk6.out HN10.out.2.1 HN10.out.2.2.1 HN10.out.1 HN10.out.2.2.2
        clear hx6 hk6 HX10 HA5
        obtain ⟨dd, ⟨p1, p2⟩, dwh, dwt⟩ := x
        have c10w : w6.cell? ⟨b10, 4, none⟩ = some (.int .i64 dwt) := HX6.out.cell 4
        have c10k : w6.cell? ⟨b10, 3, none⟩ = some (.int .i64 dwh) := HX6.out.cell 3
        have c10a : w6.cell? ⟨b10, 1, none⟩ = some (.int .u32 p1) := HX6.out.cell 1
        have c10b : w6.cell? ⟨b10, 2, none⟩ = some (.int .i64 p2) := HX6.out.cell 2
        obtain ⟨mx, hmx⟩ : ∃ y, max 0 dwt = y := ⟨_, rfl⟩
        obtain ⟨nw, hnw⟩ : ∃ y, IntKind.i64.wrap ((c.clock : Int) + mx) = y := ⟨_, rfl⟩
        have HFL := HA6.out.flap (by omega) (p1, p2) HXO.out.1 dwh nw
        rw [HBX.out] at HFL
        go_wp2_with fail
        refine HFL.mono ?_
        rintro e w7 ⟨r, rfl, hk7, ho7, hs7, hno7, hok7⟩
        have HX7 : Hid (SB DsK b10 (dsL ⟨dd, (p1, p2), dwh, dwt⟩) w7) := HX6.out.blk (hk7.blk _ HX6.out.lt HN10.out.2.1)
        clear HFL hk7 c10w c10k c10a c10b HX6 HA6 hmx hnw
        by_cases h0 : r = 0
        case neg =>
          have h0b : (r == 0) = false := by simpa using h0
          have HE : Hid (EI w d b3 [.int .i64 ca, .int .i64 cb, .int .i64 cc, .int .i64 cd, .int .i64 ce, .int .i64 cf] c0' (i + 1) c (.slice ha hn hc) hs w7) := hno7 h0
          clear h0 hno7 hok7 ho7 hs7
          go_wp2_with fail
          exact ⟨⟨i + 1, c, hs, by omega, by simp, rfl, HE.out⟩, by simp [intOf]; omega⟩
        case pos =>
          have h0b : (r == 0) = true := by simpa using h0
          obtain ⟨hb, hcl, hcon, hem⟩ := hok7 h0
          have HNW : Hid (nw = (((clkD c nw.toNat).clock : Nat) : Int)) := by show nw = ((nw.toNat : Nat) : Int); omega
          have HEM : Hid (∀ W', Below w7.heap.size w7 W' → EM w d b3 [.int .i64 ca, .int .i64 cb, .int .i64 cc, .int .i64 cd, .int .i64 ce, .int .i64 cf] c0' i (clkD c nw.toNat) (.slice ha hn hc) hs (p1, p2) hb W') := hem
          have HO7 : Hid (OwnL E2 w.heap.size w7 (.slice ha hn hc) hs) := ho7
          have HS7 : Hid (w.heap.size ≤ w7.heap.size) := hs7
          have HCN := hcon w7 (Below.refl _ _)
          rw [HBX.out] at HCN
          have c10a : w7.cell? ⟨b10, 1, none⟩ = some (.int .u32 p1) := HX7.out.cell 1
          have c10b : w7.cell? ⟨b10, 2, none⟩ = some (.int .i64 p2) := HX7.out.cell 2
          clear h0 hno7 hok7 ho7 hs7 hcl hcon hem
          go_wp2_with fail
          refine HCN.mono ?_
          rintro e w8 ⟨rfl, hb8⟩
          have HB8 : Hid (Below w7.heap.size w7 w8) := hb8
          have HX8 : Hid (SB DsK b10 (dsL ⟨dd, (p1, p2), dwh, dwt⟩) w8) := HX7.out.blk (hb8.block _ HX7.out.lt)
          have c10a : w8.cell? ⟨b10, 1, none⟩ = some (.int .u32 p1) := HX8.out.cell 1
          have c10b : w8.cell? ⟨b10, 2, none⟩ = some (.int .i64 p2) := HX8.out.cell 2
          clear hb8 HCN HX7
          cases hb with
          | false =>
            have HE : Hid (EI w d b3 [.int .i64 ca, .int .i64 cb, .int .i64 cc, .int .i64 cd, .int .i64 ce, .int .i64 cf] c0' (i + 1) (clkD c nw.toNat) (.slice ha hn hc) hs w8) := (HEM.out w8 HB8.out).1 (fun h => by cases h.1)
            clear HEM
            go_wp2_with fail
            exact ⟨⟨i + 1, clkD c nw.toNat, hs, by omega, by simp, by rw [← HNW.out], HE.out⟩, by simp [intOf]; omega⟩
          | true =>
            obtain ⟨rr, hrr⟩ : ∃ y, decide ((p1, p2) ∈ hs) = y := ⟨_, rfl⟩
            have HPI := pin_any ha hn hc hs HNL.out (p1, p2) rr hrr w8 (HO7.out.bel HB8.out).lst.1
            have HRR : Hid (decide ((p1, p2) ∈ hs) = rr) := hrr
            clear hrr
            go_wp2_with fail
            refine HPI.mono ?_
            rintro e w9 ⟨rfl, hb9⟩
            have HB9 : Hid (Below w7.heap.size w7 w9) := HB8.out.trans (hb9.mono HB8.out.size)
            have HX9 : Hid (SB DsK b10 (dsL ⟨dd, (p1, p2), dwh, dwt⟩) w9) := HX8.out.blk (hb9.block _ HX8.out.lt)
            clear hb9 HPI HX8 HB8 c10a c10b
            cases rr with
            | true =>
              have HE : Hid (EI w d b3 [.int .i64 ca, .int .i64 cb, .int .i64 cc, .int .i64 cd, .int .i64 ce, .int .i64 cf] c0' (i + 1) (clkD c nw.toNat) (.slice ha hn hc) hs w9) := (HEM.out w9 HB9.out).1 (fun h => h.2 (of_decide_eq_true HRR.out))
              clear HEM
              go_wp2_with fail
              exact ⟨⟨i + 1, clkD c nw.toNat, hs, by omega, by simp, by rw [← HNW.out], HE.out⟩, by simp [intOf]; omega⟩
            | false =>
              have HG := (HEM.out w9 HB9.out).2 rfl (of_decide_eq_false HRR.out)
              have HGH : Hid (∀ v' W', OwnL E2 w.heap.size W' v' (hs ++ [(p1, p2)]) → Below w.heap.size w9 W' → (∀ q, q < w9.heap.size → ¬ (Value.slice ha hn hc).ownBlock = some q → W'.heap[q]? = w9.heap[q]?) → (v'.ownBlock = (Value.slice ha hn hc).ownBlock ∨ ∃ q, v'.ownBlock = some q ∧ w9.heap.size ≤ q) → EI w d b3 [.int .i64 ca, .int .i64 cb, .int .i64 cc, .int .i64 cd, .int .i64 ce, .int .i64 cf] c0' (i + 1) (clkD c nw.toNat) v' (hs ++ [(p1, p2)]) W') := HG
              have c10a : w9.cell? ⟨b10, 1, none⟩ = some (.int .u32 p1) := HX9.out.cell 1
              have c10b : w9.cell? ⟨b10, 2, none⟩ = some (.int .i64 p2) := HX9.out.cell 2
              have HO9 : Hid (OwnL E2 w.heap.size w9 (.slice ha hn hc) hs) := HO7.out.bel HB9.out
              have HA2 : Hid (Below w9.heap.size w9 (w9.alloc (Obj.cells (pxL (p1, p2)).toArray 35))) := (Below.refl _ w9).alloc (Nat.le_refl _) _
              have HSW : Hid (w.heap.size ≤ w9.heap.size) := Nat.le_trans HS7.out HB9.out.size
              have HH4 : Hid (hs.length ≤ 1099511627775) := by
                have h1 := HHL.out
                show _ ≤ _
                omega
              clear HG HEM
              go_wp2_with (first | (refine list_pbuild rfl _ rfl (p := (p1, p2)) rfl ?_) | (refine list_app1 E2 rfl _ _ 43 rfl rfl w.heap.size (.slice ha hn hc) hs (p1, p2) HH4.out (w := w9) (w9.alloc (Obj.cells (pxL (p1, p2)).toArray 35)) rfl (HO9.out.bel HA2.out) rfl (Nat.le_trans HSW.out HA2.out.size) rfl ?_))
              intro v11 w11 ho11 hg11 ha11
              have HE : Hid (EI w d b3 [.int .i64 ca, .int .i64 cb, .int .i64 cc, .int .i64 cd, .int .i64 ce, .int .i64 cf] c0' (i + 1) (clkD c nw.toNat) v11 (hs ++ [(p1, p2)]) w11) := HGH.out v11 w11 ho11.out ((HA2.out.mono HSW.out).grown hg11.out (Nat.le_trans HSW.out HA2.out.size) (fun k e => (HO9.out.row.lt k e).1)) (fun q hq hne => (hg11.out.block q (Nat.lt_of_lt_of_le hq HA2.out.size) (fun e => hne e.symm)).trans (HA2.out.block q hq)) (ha11.out.imp id (fun h => ⟨_, h, Nat.le_succ _⟩))
              clear ho11 hg11 ha11 HGH HO9 HA2 HSW c10a c10b
              go_wp2_with fail
              exact ⟨⟨i + 1, clkD c nw.toNat, hs ++ [(p1, p2)], by omega, by simp, by rw [← HNW.out], HE.out⟩, by simp [intOf]; omega⟩
    case neg =>
      obtain rfl : n = i := by omega
      have hlti : ¬ (n : Int) < (n : Int) := by omega
      obtain ⟨es, ce', us, cu, hdp, hsm, hel, hul⟩ := HA.out.st
      have HD : Hid (Dp wz d c es ce' us cu) := hdp
      have HSM : Hid (Sm hs us) := hsm
      have HLU : Hid (us.length ≤ 300) := by show _ ≤ _; omega
      have HCC2 : Hid (c.half = c0'.half ∧ c.reuse = c0'.reuse ∧ c.most = c0'.most) := by
        have := HA.out.cc
        exact ⟨by rw [this]; rfl, by rw [this]; rfl, by rw [this]; rfl⟩
      obtain ⟨m, hm⟩ : ∃ y, c.most = y := ⟨_, rfl⟩
      obtain ⟨h, hh⟩ : ∃ y, c.half = y := ⟨_, rfl⟩
      obtain ⟨ru, hru⟩ : ∃ y, c.reuse = y := ⟨_, rfl⟩
      obtain ⟨clk, hclk⟩ : ∃ y, c.clock = y := ⟨_, rfl⟩
      have k0 : wz.cell? ⟨b3, 0, none⟩ = some (.int .i64 (h : Int)) := by rw [← hh, HCC2.out.1, HCC.out.1]; exact HA.out.box.cell 0
      have k2 : wz.cell? ⟨b3, 2, none⟩ = some (.int .i64 (ru : Int)) := by rw [← hru, HCC2.out.2.1, HCC.out.2.1]; exact HA.out.box.cell 2
      have k3 : wz.cell? ⟨b3, 3, none⟩ = some (.int .i64 (m : Int)) := by rw [← hm, HCC2.out.2.2, HCC.out.2.2]; exact HA.out.box.cell 3
      have HBD : Hid (m ≤ 1000000 ∧ (1 ≤ h ∧ h ≤ 10000) ∧ 1 ≤ ru ∧ clk ≤ 1099511627776) := by
        have := hdp.cok.most; have := hdp.cok.half; have := hdp.cok.reuse; have := hdp.cok.clock
        show _ ∧ _
        omega
      have HEQ : Hid (c.most = m ∧ c.half = h ∧ c.reuse = ru ∧ c.clock = clk) := ⟨hm, hh, hru, hclk⟩
      rw [hclk]
      clear hdp hsm hel hul HCC2 HCC HOK hm hh hru hclk hlt
      go_wp2_with fail
      go_loopw [12, 13] (fun vv tv wr => HI wz m h clk vv tv wr) (fun v _ _ => (intOf v).toNat)
      case atStart => exact ⟨0, by omega, by simp, by simp, rfl⟩
      case round =>
        obtain ⟨k, hk, rfl, rfl, hw⟩ := hrel
        obtain rfl : wz = wr := hw.symm
        clear hw
        obtain ⟨q, hq⟩ : ∃ y, m / 2 ^ k = y := ⟨_, rfl⟩
        obtain ⟨T, hT⟩ : ∃ y, clk + k * h = y := ⟨_, rfl⟩
        have HQ : Hid (m / 2 ^ k = q) := hq
        have HT : Hid (clk + k * h = T) := hT
        rw [hq, hT]
        clear hq hT
        have hTb : T ≤ 1099511627776 + 200000 := by
          have h1 := HBD.out
          have h2 : k * h ≤ 20 * 10000 := Nat.mul_le_mul hk h1.2.1.2
          have h3 := HT.out
          omega
        by_cases hge : ru ≤ q
        case pos =>
          as_aux_lemma =>
            have hgi : (ru : Int) ≤ (q : Int) := by omega
            have hdv : ((q : Nat) : Int).tdiv 2 = ((q / 2 : Nat) : Int) := rfl
            have hhb := HBD.out.2.1.2
            have hwr : IntKind.i64.wrap ((T : Int) + (h : Int)) = ((T + h : Nat) : Int) := by rw [IntWalk.i64_in _ (by omega)]; omega
            have HK : Hid (k < 20 ∧ 1 ≤ q) := by
              have h1 := HBD.out; have h2 := HQ.out
              exact ⟨k_few h1.1 h1.2.2.1 (by omega), by omega⟩
            have HN1 : Hid (q / 2 = m / 2 ^ (k + 1)) := by show _ = _; rw [← HQ.out, Nat.div_div_eq_div_mul, Nat.pow_succ]
            have HN2 : Hid (T + h = clk + (k + 1) * h) := by show _ = _; rw [← HT.out, Nat.add_mul, Nat.one_mul, Nat.add_assoc]
            obtain ⟨q2, hq2⟩ : ∃ y, q / 2 = y := ⟨_, rfl⟩
            obtain ⟨T2, hT2⟩ : ∃ y, T + h = y := ⟨_, rfl⟩
            have HM2 : Hid (q2 < q) := by have := HK.out.2; show _ < _; omega
            rw [hq2] at hdv HN1
            rw [hT2] at hwr HN2
            have hqm : q ≤ m := by rw [← HQ.out]; exact Nat.div_le_self _ _
            have HW64 : Hid (wrap64 (q2 : Int) = (q2 : Int)) := IntWalk.wrap64_in _ (by have := HBD.out.1; omega)
            have HMS : Hid ((intOf (.int .i64 (q2 : Int))).toNat < (intOf (.int .i64 (q : Int))).toNat) := by
              show ((q2 : Nat) : Int).toNat < ((q : Nat) : Int).toNat
              have := HM2.out
              omega
            clear hq2 hT2 hhb hqm
            go_wp2_with fail
            refine ⟨⟨k + 1, by have := HK.out.1; omega, by rw [HW64.out, ← HN1.out], by rw [← HN2.out], rfl⟩, ?_⟩
            rw [HW64.out]
            exact HMS.out
        case neg =>
          have hgi : ¬ (ru : Int) ≤ (q : Int) := by omega
          by_cases hTm : 1099511627776 < T
          case pos =>
            as_aux_lemma =>
              have hTi : (1099511627776 : Int) < (T : Int) := by omega
              have HE : Hid (Below w.heap.size w wz) := HA.out.bel
              go_wp2_with fail
              go_ret
              exact ⟨rfl, HE.out⟩
          have hTi : ¬ (1099511627776 : Int) < (T : Int) := by omega
          have HFR : Hid (c.most / 2 ^ k < c.reuse ∧ c.clock + k * c.half ≤ T ∧ c.clock ≤ T) := by
            have h1 := HEQ.out
            rw [h1.1, h1.2.1, h1.2.2.1, h1.2.2.2, HQ.out, HT.out]
            have := HT.out
            exact ⟨by omega, Nat.le_refl _, by omega⟩
          have HTB : Hid (T ≤ 1099511627776) := by show _ ≤ _; omega
          clear hge hTm hTb
          go_wp2_with fail
          go_loopw [92] (fun iv wr => StI wz n iv wr) (fun i _ => n - (intOf i).toNat)
          case atStart => exact ⟨0, by omega, rfl, Below.refl _ _⟩
          case round =>
            obtain ⟨i, hi, rfl, hbw⟩ := hrel
            have HBW : Hid (Below wz.heap.size wz wr) := hbw
            clear hbw
            obtain ⟨wy, hwy⟩ : ∃ y, wr = y := ⟨_, rfl⟩
            rw [hwy] at HBW ⊢
            clear hwy
            by_cases hlt : i < n
            case pos =>
              as_aux_lemma =>
                have hlti : (i : Int) < (n : Int) := by omega
                obtain ⟨lb, lo, rfl, hlbl, hcl⟩ := lstD HL.out i (by rw [HLN.out]; exact hlt)
                obtain ⟨x, hx⟩ : ∃ y, l[i]'(by rw [HLN.out]; exact hlt) = y := ⟨_, rfl⟩
                rw [hx] at hcl
                have HC5 : Hid (∀ j, j < DsK.k → wy.cell? ⟨lb, lo + i * 5 + j, none⟩ = (dsL x)[j]?) := fun j hj => by
                  rw [← hcl j hj]
                  unfold World.cell?
                  rw [(HA.out.bel.trans (HBW.out.mono HA.out.bel.size)).block lb hlbl]
                clear hcl hx hlbl
                go_wp2_with (first | (refine list_sat DsK rfl _ rfl (b := lb) (k := lo + i * 5) (cs := dsL x) rfl HC5.out rfl ?_) | (refine list_dsnew rfl rfl ?_))
                intro b15 w5 hb15 hx15 hbl5
                have HX15 : Hid (SB DsK b15 (dsL ⟨0, (0, 0), 0, 0⟩) w5) := hx15.out
                have HN15 : Hid (wz.heap.size ≤ b15) := by have := hb15.out; have := HBW.out.size; show _ ≤ _; omega
                have HB5 : Hid (Below wz.heap.size wz w5) := HBW.out.trans (hbl5.out.mono HBW.out.size)
                clear hb15 hx15 hbl5 HC5 HBW
                go_wp2_with (refine list_sstore DsK rfl _ _ rfl (b := b15) (cs := dsL ⟨0, (0, 0), 0, 0⟩) (cs' := dsL x) rfl rfl HX15.out rfl rfl rfl ?_)
                intro w6 hx6 hk6
                have HX6 : Hid (SB DsK b15 (dsL x) w6) := hx6.out
                have HB6 : Hid (Below wz.heap.size wz w6) := HB5.out.trans (hk6.out.below HN15.out)
                clear hx6 hk6 HX15 HB5
                obtain ⟨dd, ⟨p1, p2⟩, dwh, dwt⟩ := x
                have c10a : w6.cell? ⟨b15, 1, none⟩ = some (.int .u32 p1) := HX6.out.cell 1
                have c10b : w6.cell? ⟨b15, 2, none⟩ = some (.int .i64 p2) := HX6.out.cell 2
                have HH := heldq_any d c es ce' us cu (p1, p2) (T : Int) T w6 (HD.out.bel HB6.out) (by have := HTB.out; omega) (by have := HFR.out.2.2; omega)
                rw [late_gen HD.out.cok _ HD.out.pn_ok k T HFR.out.1 HFR.out.2.1 (p1, p2), HBX.out] at HH
                go_wp2_with fail
                refine HH.mono ?_
                rintro e w7 ⟨rfl, hb7⟩
                have HB7 : Hid (Below wz.heap.size wz w7) := HB6.out.trans (hb7.mono HB6.out.size)
                clear hb7 HH HB6 c10a c10b HX6
                go_wp2_with fail
                exact ⟨⟨i + 1, by omega, by simp, HB7.out⟩, by simp [intOf]; omega⟩
            case neg =>
              have hlti : ¬ (i : Int) < (n : Int) := by omega
              have HFD := freed_any d c es ce' us cu (T : Int) T wy (HD.out.bel HBW.out) (by have := HFR.out.2.2; have := HTB.out; omega) (by have := HLU.out; omega)
              rw [HBX.out] at HFD
              clear k0 k2 k3 hgi hlt
              go_wp2_with fail
              refine HFD.mono ?_
              rintro e w7 ⟨⟨vl, nl, capl, ys, rfl, hyl, hn6, hls, hsr, hpm, hva⟩, hkd, hdp⟩
              have hfa := fr_all (HD.out.bel HBW.out) k T HFR.out.1 HFR.out.2.1
              rw [hfa.1] at hpm
              rw [hfa.2] at hdp
              have HPM : Hid (ys.Perm hs) := hpm.trans (HSM.out.perm HD.out.uok).symm
              have HDF : Hid (Dp w7 d (clkD c T) (liveP c es T) ce' [] cu) := hdp
              have HLY : Hid (Lst E2 w7 vl ys) := hls
              have HVA : Hid (∀ g o s, vl = some ⟨g, o, s⟩ → o = 0 ∧ s = none ∧ nl ≤ capl) := fun g o s e => ⟨(hva g o s e).1, (hva g o s e).2.1, (hva g o s e).2.2.2.2.2⟩
              have HAY : Hid (EI w d b3 [.int .i64 ca, .int .i64 cb, .int .i64 cc, .int .i64 cd, .int .i64 ce, .int .i64 cf] c0' n c (.slice ha hn hc) hs wy) := HA.out.step HBW.out
              have HOW : Hid (Lst E2 w7 ha hs) := (HAY.out.own.blk (fun g e => hkd.blk g (HAY.out.own.row.lt g e).2 (HAY.out.ap g e))).lst.1
              have HB7 : Hid (Below w.heap.size w w7) := hkd.below HAY.out.bel (fun g hg => (HAY.out.lx g hg).1)
              have HYL : Hid (ys.length = nl) := hyl
              have HNE : Hid (nl = hn) := by show _ = _; rw [← hyl, HPM.out.length_eq]; exact HNL.out
              obtain rfl : hn = nl := HNE.out.symm
              have hnb : hn ≤ 1000000 := hn6
              have HLX : Hid (∀ g, fpD d g → w.heap.size ≤ g) := fun g hg => (HAY.out.lx g hg).1
              clear hyl hn6 hls hsr hpm hva hkd hdp hfa HFD HNE HAY HA HBW HD hlti
              go_wp2_with fail
              go_loopw [107] (fun iv wr => StI w7 hn iv wr) (fun i _ => hn - (intOf i).toNat)
              case atStart => exact ⟨0, by omega, rfl, Below.refl _ _⟩
              case round =>
                obtain ⟨i2, hi2, rfl, hbw⟩ := hrel
                have HBW : Hid (Below w7.heap.size w7 wr) := hbw
                clear hbw
                obtain ⟨wq, hwq⟩ : ∃ y, wr = y := ⟨_, rfl⟩
                rw [hwq] at HBW ⊢
                clear hwq
                by_cases hlt : i2 < hn
                case pos =>
                  as_aux_lemma =>
                    have hlti : (i2 : Int) < (hn : Int) := by omega
                    have hil : i2 < ys.length := by rw [HYL.out]; exact hlt
                    obtain ⟨gb, go, hvl, hgl, hcl⟩ := (HLY.out.bel HBW.out).cells i2 hil
                    subst hvl
                    obtain ⟨rfl, -, hcapl⟩ := HVA.out gb go none rfl
                    obtain ⟨y, hy⟩ : ∃ y, ys[i2] = y := ⟨_, rfl⟩
                    have HYI : Hid (ys[i2] = y) := hy
                    rw [hy, Nat.zero_add] at hcl
                    have HC : Hid (∀ j, j < PxK.k → wq.cell? ⟨gb, i2 * 2 + j, none⟩ = (pxL y)[j]?) := hcl
                    clear hy hcl hgl
                    go_wp2_with (first | (refine list_sat PxK rfl _ rfl (b := gb) (k := i2 * 2) (cs := pxL y) rfl HC.out rfl ?_) | (refine list_pxnew rfl rfl ?_))
                    intro b18 w5 hb18 hx18 hbl5
                    have HX18 : Hid (SB PxK b18 (pxL (0, 0)) w5) := hx18.out
                    have HN18 : Hid (w7.heap.size ≤ b18) := by have := hb18.out; have := HBW.out.size; show _ ≤ _; omega
                    have HB5 : Hid (Below w7.heap.size w7 w5) := HBW.out.trans (hbl5.out.mono HBW.out.size)
                    clear hb18 hx18 hbl5 HC HBW
                    go_wp2_with (refine list_sstore PxK rfl _ _ rfl (b := b18) (cs := pxL (0, 0)) (cs' := pxL y) rfl rfl HX18.out rfl rfl rfl ?_)
                    intro w6 hx6 hk6
                    have HX6 : Hid (SB PxK b18 (pxL y) w6) := hx6.out
                    have HB6 : Hid (Below w7.heap.size w7 w6) := HB5.out.trans (hk6.out.below HN18.out)
                    clear hx6 hk6 HX18 HB5
                    go_wp2_with fail
                    have HS0 : Hid (SB PxK b18 (pxL y) w6.drew) := HX6.out.blk ((drew_bel w6).block _ HX6.out.lt)
                    have HBD6 : Hid (Below w7.heap.size w7 w6.drew) := HB6.out.trans ((drew_bel w6).mono HB6.out.size)
                    refine wp_region_held_drew (S := fun W => SB PxK b18 (pxL y) W) (by kernel_rfl) HS0.out (fun hHeld => ?_)
                    obtain ⟨wd, hwd⟩ : ∃ z, w6.drew = z := ⟨_, rfl⟩
                    rw [hwd] at HBD6 hHeld ⊢
                    clear hwd HS0 HX6 HB6
                    refine wpAnyH_take (i := 0) (v := .slice ha hn hc) rfl (by kernel_rfl) (by kernel_rfl) (by kernel_rfl) (fun _ _ _ h => h) (Or.inl ⟨by rfl, ?_⟩) (by assumption) ?_
                    case refine_1 => intro W hSw; go_simp; try rfl
                    try simp only [Act.put, List.getElem_toArray, List.getElem_cons_zero, List.getElem_cons_succ, List.setIfInBounds_toArray, List.set_cons_zero, List.set_cons_succ]
                    refine wpAnyH_take (i := 1) (v := .agg (pxL y).toArray) rfl (by kernel_rfl) (by kernel_rfl) (by kernel_rfl) (fun _ _ _ h => h) (Or.inl ⟨by rfl, fun W hSw => Go.Proofs.Ytjfiahendnlcjaa.Ge.sload_run PxK (.tmp 18) rfl (b := b18) rfl hSw rfl⟩) (by assumption) ?_
                    try simp only [Act.put, List.getElem_toArray, List.getElem_cons_zero, List.getElem_cons_succ, List.setIfInBounds_toArray, List.set_cons_zero, List.set_cons_succ]
                    refine wpAnyH_ready (rs := [2]) (by kernel_rfl) (by simp) ?_
                    refine AllReadyH.cons rfl (fun K hK => ?_) AllReadyH.nil
                    have HPI := pin_any ha hn hc hs HNL.out y true (decide_eq_true (HPM.out.mem_iff.1 (HYI.out ▸ List.getElem_mem hil))) wd (HOW.out.bel HBD6.out)
                    go_simp
                    refine HPI.mono ?_
                    rintro e we ⟨rfl, hbe⟩
                    have HBE : Hid (Below w7.heap.size w7 we) := HBD6.out.trans (hbe.mono HBD6.out.size)
                    refine hK.out _ _ (hHeld.blk (hbe.block _ hHeld.lt)) (fun hHeld => ?_)
                    clear hK K hbe HPI HBD6
                    try simp only [Act.put, List.getElem_toArray, List.getElem_cons_zero, List.getElem_cons_succ, List.setIfInBounds_toArray, List.set_cons_zero, List.set_cons_succ]
                    refine wpAnyH_take (i := 3) (v := .bool false) rfl (by kernel_rfl) (by kernel_rfl) (by kernel_rfl) (fun _ _ _ h => h) (Or.inl ⟨by rfl, ?_⟩) (by assumption) ?_
                    case refine_1 => intro W hSw; go_simp; try rfl
                    try simp only [Act.put, List.getElem_toArray, List.getElem_cons_zero, List.getElem_cons_succ, List.setIfInBounds_toArray, List.set_cons_zero, List.set_cons_succ]
                    refine wpAnyH_take (i := 4) (v := .bool false) rfl (by kernel_rfl) (by kernel_rfl) (by kernel_rfl) (fun _ _ _ h => h) (Or.inl ⟨by rfl, ?_⟩) (by assumption) ?_
                    case refine_1 => intro W hSw; go_simp; try rfl
                    try simp only [Act.put, List.getElem_toArray, List.getElem_cons_zero, List.getElem_cons_succ, List.setIfInBounds_toArray, List.set_cons_zero, List.set_cons_succ]
                    refine wpAnyH_take (i := 5) (v := .slice (some ⟨gb, 0, none⟩) hn capl) rfl (by kernel_rfl) (by kernel_rfl) (by kernel_rfl) (fun _ _ _ h => h) (Or.inl ⟨by rfl, ?_⟩) (by assumption) ?_
                    case refine_1 => intro W hSw; go_simp; try rfl
                    try simp only [Act.put, List.getElem_toArray, List.getElem_cons_zero, List.getElem_cons_succ, List.setIfInBounds_toArray, List.set_cons_zero, List.set_cons_succ]
                    refine wpAnyH_take (i := 6) (v := .int .i64 (i2 : Int)) rfl (by kernel_rfl) (by kernel_rfl) (by kernel_rfl) (fun _ _ _ h => h) (Or.inl ⟨by rfl, ?_⟩) (by assumption) ?_
                    case refine_1 => intro W hSw; go_simp; try rfl
                    try simp only [Act.put, List.getElem_toArray, List.getElem_cons_zero, List.getElem_cons_succ, List.setIfInBounds_toArray, List.set_cons_zero, List.set_cons_succ]
                    refine wpAnyH_take (i := 7) (v := .slice (some ⟨gb, 0, none⟩) i2 capl) rfl (by kernel_rfl) (by kernel_rfl) (by kernel_rfl) (fun _ _ _ h => h) (Or.inl ⟨by rfl, ?_⟩) (by assumption) ?_
                    case refine_1 => intro W hSw; have k1 : ¬ capl < i2 := (by omega); go_simp; try rfl
                    try simp only [Act.put, List.getElem_toArray, List.getElem_cons_zero, List.getElem_cons_succ, List.setIfInBounds_toArray, List.set_cons_zero, List.set_cons_succ]
                    refine wpAnyH_take (i := 8) (v := .agg (pxL y).toArray) rfl (by kernel_rfl) (by kernel_rfl) (by kernel_rfl) (fun _ _ _ h => h) (Or.inl ⟨by rfl, fun W hSw => Go.Proofs.Ytjfiahendnlcjaa.Ge.sload_run PxK (.tmp 18) rfl (b := b18) rfl hSw rfl⟩) (by assumption) ?_
                    try simp only [Act.put, List.getElem_toArray, List.getElem_cons_zero, List.getElem_cons_succ, List.setIfInBounds_toArray, List.set_cons_zero, List.set_cons_succ]
                    refine wpAnyH_ready (rs := [9]) (by kernel_rfl) (by simp) ?_
                    refine AllReadyH.cons rfl (fun K hK => ?_) AllReadyH.nil
                    have HPI := pin_any (some ⟨gb, 0, none⟩) i2 capl (ys.take i2) (by rw [List.length_take]; omega) y false (decide_eq_false (not_ahead (HPM.out.nodup_iff.2 HSM.out.nd) hil HYI.out)) we ((HLY.out.bel HBE.out).take i2)
                    go_simp
                    refine HPI.mono ?_
                    rintro e wf ⟨rfl, hbe⟩
                    have HBF : Hid (Below w7.heap.size w7 wf) := HBE.out.trans (hbe.mono HBE.out.size)
                    refine hK.out _ _ (hHeld.blk (hbe.block _ hHeld.lt)) (fun hHeld => ?_)
                    clear hK K hbe HPI HBE
                    try simp only [Act.put, List.getElem_toArray, List.getElem_cons_zero, List.getElem_cons_succ, List.setIfInBounds_toArray, List.set_cons_zero, List.set_cons_succ]
                    refine wpAnyH_take (i := 10) (v := .bool false) rfl (by kernel_rfl) (by kernel_rfl) (by kernel_rfl) (fun _ _ _ h => h) (Or.inl ⟨by rfl, ?_⟩) (by assumption) ?_
                    case refine_1 => intro W hSw; go_simp; try rfl
                    try simp only [Act.put, List.getElem_toArray, List.getElem_cons_zero, List.getElem_cons_succ, List.setIfInBounds_toArray, List.set_cons_zero, List.set_cons_succ]
                    refine wpAnyH_done (by kernel_rfl) ?_ _
                    clear hHeld
                    go_wp2_with fail
                    exact ⟨⟨i2 + 1, by omega, by simp, HBF.out⟩, by simp [intOf]; omega⟩
                case neg =>
                  have hlti : ¬ (i2 : Int) < (hn : Int) := by omega
                  have HFD := freed_any d (clkD c T) (liveP c es T) ce' [] cu (T : Int) T wq (HDF.out.bel HBW.out) (by show max ((T : Nat) : Int) _ = _; have := HTB.out; omega) (by simp)
                  rw [HBX.out] at HFD
                  clear hlt
                  go_wp2_with fail
                  refine HFD.mono ?_
                  rintro e w8 ⟨⟨vl2, nl2, capl2, zs, rfl, hzl, -, -, -, hpz, -⟩, hkd, -⟩
                  have hz0 : nl2 = 0 := by rw [← hzl, hpz.length_eq]; rfl
                  subst hz0
                  have HE : Hid (Below w.heap.size w w8) := hkd.below (HB7.out.trans (HBW.out.mono HB7.out.size)) HLX.out
                  clear hzl hpz hkd HFD
                  go_wp2_with fail
                  go_ret
                  exact ⟨rfl, HE.out⟩
end Go.Proofs.Ytjfiahendnlcjaa.Da
