/- The damper: checkFlap, Flap. -/
import Derived.Test.YtjfiahendnlcjaaDaD
namespace Go.Proofs.Ytjfiahendnlcjaa.Da
open Go.ChangeShapes Go.WideShapes Go.ChangeAt Go.RowKit Go.Joins Go.Deep Go.Proofs.Ytjfiahendnlcjaa.Ge Go.Proofs.Ytjfiahendnlcjaa.PM Go.Proofs.Ytjfiahendnlcjaa.Ask
set_option linter.unusedVariables false
set_option linter.unusedSimpArgs false

/-- why a flap is refused -/
def chkP (c : Dc) (es : Ents Pf Pn) (p : Pf) (what now : Int) : Int :=
  if vld p.1 p.2 = false then 3 else if ¬ (1 ≤ what ∧ what ≤ 3) then 13 else if ¬ ((c.clock : Int) ≤ now ∧ now ≤ 1099511627776) then 2
  else if penP c (mget es) p now.toNat = 0 ∧ 64 ≤ cntP c es now.toNat then 12 else 0
set_option maxRecDepth 100000 in
set_option maxHeartbeats 8000000 in
theorem check_any (d : Dw) (c : Dc) (es : Ents Pf Pn) (ce : Nat) (us : Ents Pf Unit) (cu : Nat) (p : Pf) (what now : Int) (w : World) (h : Dp w d c es ce us cu) (hp : 0 ≤ p.1 ∧ p.1 < 4294967296) (hl : es.length ≤ 1000000) (r : Int) (hr : chkP c es p what now = r) :
    Calls Try.prog 20 #[.pointer (some ⟨d.b, 0, none⟩), pfV p, .int .i64 what, .int .i64 now] w fun e w' => e = .returned (.int .i64 r) ∧ Below w.heap.size w w' := by
  have HD : Hid (Dp w d c es ce us cu) := h
  have HL : Hid (es.length ≤ 1000000) := hl
  have HR : Hid (chkP c es p what now = r) := hr
  obtain ⟨p1, p2⟩ := p
  have HP : Hid (0 ≤ p1 ∧ p1 < 4294967296) := hp
  clear h hl hr hp
  obtain ⟨b, hb⟩ : ∃ y, d.b = y := ⟨_, rfl⟩
  rw [hb]
  have HB : Hid (d.b = b) := hb
  clear hb
  go_enter Try.func20, Try.ntmps20
  go_wp2_with (refine list_sbox PxK rfl _ rfl (cs := pxL (p1, p2)) rfl ?_)
  intro w1 hx1 hb1 hz
  obtain ⟨b5, hb5⟩ : ∃ y, w.heap.size = y := ⟨_, rfl⟩
  have HX : Hid (SB PxK b5 (pxL (p1, p2)) w1) := by rw [← hb5]; exact hx1.out
  have HB1 : Hid (Below w.heap.size w w1) := hb1.out
  rw [hb5]
  clear hx1 hb1 hz hb5
  go_wp2_with (refine list_sload PxK rfl _ rfl (b := b5) (cs := pxL (p1, p2)) rfl HX.out rfl ?_)
  refine (valid_any p1 p2 HP.out.1 HP.out.2 w1).mono ?_
  rintro e w2 ⟨rfl, hb2⟩
  have HX2 : Hid (SB PxK b5 (pxL (p1, p2)) w2) := HX.out.blk (hb2.block _ HX.out.lt)
  have HB2 : Hid (Below w.heap.size w w2) := HB1.out.trans (hb2.mono HB1.out.size)
  have HD2 : Hid (Dp w2 d c es ce us cu) := HD.out.bel HB2.out
  clear hb2 HX HB1
  obtain ⟨vv, hvv⟩ : ∃ y, vld p1 p2 = y := ⟨_, rfl⟩
  rw [hvv]
  have HV : Hid (vld p1 p2 = vv) := hvv
  clear hvv
  cases vv
  case false =>
    have HE : Hid (3 = r) := by show _ = _; rw [← HR.out]; unfold chkP; rw [if_pos HV.out]
    go_wp2_with fail
    go_ret
    exact ⟨by rw [← HE.out]; rfl, HB2.out⟩
  have HVN : Hid (¬ vld p1 p2 = false) := by show ¬ _; rw [HV.out]; decide
  obtain ⟨kw, hkw⟩ : ∃ y, decide ((1 : Int) ≤ what ∧ what ≤ 3) = y := ⟨_, rfl⟩
  have HKW : Hid (decide ((1 : Int) ≤ what ∧ what ≤ 3) = kw) := hkw
  clear hkw
  go_wp2_with fail
  refine (within_any what 1 3 kw HKW.out w2).mono ?_
  rintro e w3 ⟨rfl, hw3⟩
  rw [hw3]
  clear hw3 w3
  cases kw
  case false =>
    have HE : Hid (13 = r) := by show _ = _; rw [← HR.out]; unfold chkP; rw [if_neg HVN.out, if_pos (of_decide_eq_false HKW.out)]
    go_wp2_with fail
    go_ret
    exact ⟨by rw [← HE.out]; rfl, HB2.out⟩
  have HX0 : Hid (SB DmK b (dmL c d.bp d.bu) w2) := by rw [← HB.out]; exact HD2.out.box
  have c6 : w2.cell? ⟨b, 6, none⟩ = some (.int .i64 (c.clock : Int)) := HX0.out.cell 6
  obtain ⟨kn, hkn⟩ : ∃ y, decide ((c.clock : Int) ≤ now ∧ now ≤ 1099511627776) = y := ⟨_, rfl⟩
  have HKN : Hid (decide ((c.clock : Int) ≤ now ∧ now ≤ 1099511627776) = kn) := hkn
  clear hkn
  go_wp2_with fail
  refine (within_any now c.clock 1099511627776 kn HKN.out w2).mono ?_
  rintro e w3 ⟨rfl, hw3⟩
  rw [hw3]
  clear hw3 w3 c6 HX0
  cases kn
  case false =>
    have HE : Hid (2 = r) := by show _ = _; rw [← HR.out]; unfold chkP; rw [if_neg HVN.out, if_neg (not_not_intro (of_decide_eq_true HKW.out)), if_pos (of_decide_eq_false HKN.out)]
    go_wp2_with fail
    go_ret
    exact ⟨by rw [← HE.out]; rfl, HB2.out⟩
  obtain ⟨nw, rfl⟩ : ∃ y : Nat, now = (y : Int) := ⟨now.toNat, by have := of_decide_eq_true HKN.out; omega⟩
  have HNW : Hid (c.clock ≤ nw ∧ nw < 9223372036854775808) := by have := of_decide_eq_true HKN.out; show _ ∧ _; omega
  have HR2 : Hid ((if penP c (mget es) (p1, p2) nw = 0 ∧ 64 ≤ cntP c es nw then (12 : Int) else 0) = r) := by
    show _ = _
    rw [← HR.out]
    unfold chkP
    rw [if_neg HVN.out, if_neg (not_not_intro (of_decide_eq_true HKW.out)), if_neg (not_not_intro (of_decide_eq_true HKN.out)), Int.toNat_natCast]
  have HPE := pen_any d c es ce us cu (p1, p2) nw w2 HD2.out HNW.out
  rw [HB.out] at HPE
  go_wp2_with (refine list_sload PxK rfl _ rfl (b := b5) (cs := pxL (p1, p2)) rfl HX2.out rfl ?_)
  refine HPE.mono ?_
  rintro e w3 ⟨rfl, hb3⟩
  have HB3 : Hid (Below w.heap.size w w3) := HB2.out.trans (hb3.mono HB2.out.size)
  have HD3 : Hid (Dp w3 d c es ce us cu) := HD2.out.bel hb3
  clear hb3 HPE HD2 HB2 HX2
  obtain ⟨pz, hpz⟩ : ∃ y, penP c (mget es) (p1, p2) nw = y := ⟨_, rfl⟩
  rw [hpz] at HR2 ⊢
  clear hpz
  by_cases hz : pz = 0
  case neg =>
    have hzb : ((pz : Int) == 0) = false := by simpa using hz
    have HE : Hid (0 = r) := by show _ = _; rw [← HR2.out, if_neg (fun c => hz c.1)]
    clear hz
    go_wp2_with fail
    go_ret
    exact ⟨by rw [← HE.out]; rfl, HB3.out⟩
  have hzb : ((pz : Int) == 0) = true := by simpa using hz
  have HZ : Hid (pz = 0) := hz
  clear hz
  have HCO := count_any d c es ce us cu nw w3 HD3.out HNW.out HL.out
  rw [HB.out] at HCO
  go_wp2_with fail
  refine HCO.mono ?_
  rintro e w4 ⟨rfl, hb4⟩
  have HB4 : Hid (Below w.heap.size w w4) := HB3.out.trans (hb4.mono HB3.out.size)
  clear hb4 HCO HD3 HB3
  obtain ⟨cz, hcz⟩ : ∃ y, cntP c es nw = y := ⟨_, rfl⟩
  rw [hcz] at HR2 ⊢
  clear hcz
  by_cases h64 : 64 ≤ cz
  · have h6i : (64 : Int) ≤ (cz : Int) := by omega
    have HE : Hid (12 = r) := by show _ = _; rw [← HR2.out, if_pos ⟨HZ.out, h64⟩]
    go_wp2_with fail
    go_ret
    exact ⟨by rw [← HE.out]; rfl, HB4.out⟩
  · have h6i : ¬ (64 : Int) ≤ (cz : Int) := by omega
    have HE : Hid (0 = r) := by show _ = _; rw [← HR2.out, if_neg (fun c => h64 c.2)]
    go_wp2_with fail
    go_ret
    exact ⟨by rw [← HE.out]; rfl, HB4.out⟩
end Go.Proofs.Ytjfiahendnlcjaa.Da
