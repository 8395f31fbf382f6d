/- The damper: countAt, moveTo, within, price. -/
import Derived.Test.YtjfiahendnlcjaaDaR
import Derived.Deep.CutBlock
namespace Go.Proofs.Ytjfiahendnlcjaa.Da
open Go.ChangeShapes Go.WideShapes Go.ChangeAt Go.RowKit Go.Joins Go.Deep Go.Proofs.Ytjfiahendnlcjaa.Ge
set_option linter.unusedVariables false
set_option linter.unusedSimpArgs false

def atX (c : Dc) (now : Nat) (x : Pf × Pn × Nat) : Nat := atP c.half x.2.1.v (now - x.2.1.s)
def cntP (c : Dc) (es : Ents Pf Pn) (now : Nat) : Nat := es.countP (fun x => decide (0 < atX c now x))
theorem within_any (n lo hi : Int) (r : Bool) (hr : decide (lo ≤ n ∧ n ≤ hi) = r) (w : World) : Calls Try.prog 19 #[.int .i64 n, .int .i64 lo, .int .i64 hi] w fun e w' => e = .returned (.bool r) ∧ w' = w := by
  by_cases h1 : lo ≤ n
  · by_cases h2 : n ≤ hi
    · have HE : Hid (true = r) := by show _ = _; rw [← hr]; exact (decide_eq_true ⟨h1, h2⟩).symm
      clear hr
      go_enter Try.func19, Try.ntmps19
      go_wp2_with fail
      go_ret
      exact ⟨by rw [← HE.out]; rfl, rfl⟩
    · have HE : Hid (false = r) := by show _ = _; rw [← hr]; exact (decide_eq_false (fun c => h2 c.2)).symm
      clear hr
      go_enter Try.func19, Try.ntmps19
      go_wp2_with fail
      go_ret
      exact ⟨by rw [← HE.out]; rfl, rfl⟩
  · have HE : Hid (false = r) := by show _ = _; rw [← hr]; exact (decide_eq_false (fun c => h1 c.1)).symm
    clear hr
    go_enter Try.func19, Try.ntmps19
    go_wp2_with fail
    go_ret
    exact ⟨by rw [← HE.out]; rfl, rfl⟩
def priceP (c : Dc) (what : Int) : Nat := if what = 1 then c.down else if what = 2 then c.change else 0
set_option maxRecDepth 100000 in
theorem price_any (b : Nat) (c : Dc) (bp bu : Nat) (what : Int) (w : World) (h : SB DmK b (dmL c bp bu) w) : Calls Try.prog 22 #[.pointer (some ⟨b, 0, none⟩), .int .i64 what] w fun e w' => e = .returned (.int .i64 (priceP c what : Nat)) ∧ w' = w := by
  have c4 : w.cell? ⟨b, 4, none⟩ = some (.int .i64 (c.down : Int)) := h.cell 4
  have c5 : w.cell? ⟨b, 5, none⟩ = some (.int .i64 (c.change : Int)) := h.cell 5
  clear h
  by_cases h1 : what = 1
  · have HE : Hid (priceP c what = c.down) := by show _ = _; unfold priceP; rw [if_pos h1]
    have h1b : (what == 1) = true := by simpa using h1
    clear h1
    go_enter Try.func22, Try.ntmps22
    go_wp2_with fail
    go_ret
    rw [HE.out]
    exact ⟨rfl, rfl⟩
  · have h1b : (what == 1) = false := by simpa using h1
    by_cases h2 : what = 2
    · have HE : Hid (priceP c what = c.change) := by show _ = _; unfold priceP; rw [if_neg h1, if_pos h2]
      have h2b : (what == 2) = true := by simpa using h2
      clear h1 h2
      go_enter Try.func22, Try.ntmps22
      go_wp2_with fail
      go_ret
      rw [HE.out]
      exact ⟨rfl, rfl⟩
    · have HE : Hid (priceP c what = 0) := by show _ = _; unfold priceP; rw [if_neg h1, if_neg h2]
      have h2b : (what == 2) = false := by simpa using h2
      clear h1 h2
      go_enter Try.func22, Try.ntmps22
      go_wp2_with fail
      go_ret
      rw [HE.out]
      exact ⟨rfl, rfl⟩
/-- within countAt -/
structure CI (w : World) (d : Dw) (c : Dc) (es : Ents Pf Pn) (ce : Nat) (us : Ents Pf Unit) (cu : Nat) (now r : Nat) (n : Nat) (W : World) : Prop where
  dp : Dp W d c es ce us cu
  it : ∃ seen vs rs, IB r d.bp ce seen ce W ∧ Rg es seen vs rs ∧ n = vs.countP (fun x => decide (0 < atX c now x))
  rn : w.heap.size ≤ r
  bel : Below w.heap.size w W
set_option maxRecDepth 100000 in
set_option maxHeartbeats 8000000 in
theorem count_any (d : Dw) (c : Dc) (es : Ents Pf Pn) (ce : Nat) (us : Ents Pf Unit) (cu : Nat) (now : Nat) (w : World) (h : Dp w d c es ce us cu) (hn : c.clock ≤ now ∧ now < 9223372036854775808) (hl : es.length ≤ 1000000) :
    Calls Try.prog 31 #[.pointer (some ⟨d.b, 0, none⟩), .int .i64 (now : Int)] w fun e w' => e = .returned (.int .i64 (cntP c es now : Nat)) ∧ Below w.heap.size w w' := by
  have HD : Hid (Dp w d c es ce us cu) := h
  have HN : Hid (c.clock ≤ now ∧ now < 9223372036854775808) := hn
  have HL : Hid (es.length ≤ 1000000) := hl
  clear h hn hl
  obtain ⟨b, hb⟩ : ∃ y, d.b = y := ⟨_, rfl⟩
  rw [hb]
  have HB : Hid (d.b = b) := hb
  clear hb
  have HX0 : Hid (SB DmK b (dmL c d.bp d.bu) w) := by rw [← HB.out]; exact HD.out.box
  have c7 : w.cell? ⟨b, 7, none⟩ = some (.map (some d.bp)) := HX0.out.cell 7
  go_enter Try.func31, Try.ntmps31
  go_wp2_with (refine list_range MPn rfl _ rfl (b := d.bp) (es := es) (c := ce) rfl HD.out.pm ?_)
  intro r w1 hr hib hb1
  have HI0 : Hid (CI w d c es ce us cu now r 0 w1) := ⟨HD.out.bel hb1.out, ⟨#[], [], es, hib.out, Rg.nil es, rfl⟩, by have := hr.out; omega, hb1.out⟩
  clear hr hib hb1 c7
  go_wp2_with fail
  go_loopw [5] (fun nv wr => ∃ n : Nat, nv = .int .i64 (n : Int) ∧ CI w d c es ce us cu now r n wr) (fun _ wr => es.length - sn wr r)
  case atStart => exact ⟨0, rfl, HI0.out⟩
  case round =>
    obtain ⟨n, rfl, hci⟩ := hrel
    have HC : Hid (CI w d c es ce us cu now r n wr) := hci
    clear hci HI0
    obtain ⟨wz, hwz⟩ : ∃ y, wr = y := ⟨_, rfl⟩
    rw [hwz] at HC ⊢
    clear hwz
    obtain ⟨seen, vs, rs, hib, hrg, hnv⟩ := HC.out.it
    have HIB : Hid (IB r d.bp ce seen ce wz) := hib
    have HRG : Hid (Rg es seen vs rs) := hrg
    have HNV : Hid (n = vs.countP (fun x => decide (0 < atX c now x))) := hnv
    have hnl : n ≤ 1000000 := by
      have h1 := hrg.perm.length_eq
      rw [List.length_append] at h1
      have h2 : n ≤ vs.length := by rw [hnv]; exact List.countP_le_length
      have := HL.out
      omega
    have HSN : Hid (sn wz r = seen.size) := sn_of hib
    clear hib hrg hnv
    go_wp2_with (refine list_next MPn rfl _ rfl (r := r) (b := d.bp) (since := ce) (c0 := ce) (c := ce) (seen := seen) (es := es) rfl HIB.out HC.out.dp.pm HC.out.dp.eok.lt (Nat.le_refl _) ?_ ?_)
    case' refine_1 =>
      intro hall
      have HE : Hid (n = cntP c es now) := by
        show _ = _
        rw [HNV.out]
        exact (HRG.out.done HC.out.dp.eok hall.out).countP_eq _
      have HBB : Hid (Below w.heap.size w wz) := HC.out.bel
      clear hall HRG HNV HIB HC
      go_wp2_with fail
      go_ret
      rw [← HE.out]
      exact ⟨rfl, HBB.out⟩
    case' refine_2 =>
      intro xe w2 hx hib2 hk2
      obtain ⟨x⟩ := xe
      dsimp only at hx hib2 ⊢
      have HX : Hid (x ∈ es ∧ x.2.2 ∉ seen) := hx.out
      have HIB2 : Hid (IB r d.bp ce (seen.push x.2.2) ce w2) := hib2.out
      have HD2 : Hid (Dp w2 d c es ce us cu) := HC.out.dp.blk (fun g hg hl => hk2.out.block g (fun e => by have h1 := HD.out.lt g hg; have := HC.out.rn; omega))
      have HB2 : Hid (Below w.heap.size w w2) := HC.out.bel.trans (hk2.out.below HC.out.rn)
      have HRN : Hid (w.heap.size ≤ r) := HC.out.rn
      obtain ⟨rs', hrg'⟩ := HRG.out.step hx.out.1 hx.out.2
      have HRG2 : Hid (Rg es (seen.push x.2.2) (vs ++ [x]) rs') := hrg'
      have HLT : Hid (seen.size < es.length) := HRG.out.lt hx.out.1 hx.out.2
      obtain ⟨⟨p1, p2⟩, pv, st⟩ := x
      clear hx hib2 hk2 hrg' HIB HC HRG
      go_wp2_with (first | (refine list_entry MPn rfl _ rfl (r := r) (b := d.bp) (since := ce) (c := ce) (seen := seen) (es := es) (y := ((p1, p2), pv, st)) rfl HIB2.out HD2.out.pm HX.out.1 HD2.out.eok.nb ?_) | (refine list_pnnew rfl rfl ?_))
      intro b7 w3 hb7 hx7 hb3
      have HX7 : Hid (SB PnK b7 (pnL ⟨0, 0, false⟩) w3) := hx7.out
      have HD3 : Hid (Dp w3 d c es ce us cu) := HD2.out.bel hb3.out
      have HB3 : Hid (Below w.heap.size w w3) := HB2.out.trans (hb3.out.mono HB2.out.size)
      have HI3 : Hid (IB r d.bp ce (seen.push st) ce w3) := HIB2.out.blk (hb3.out.block _ HIB2.out.lt)
      have HQ3 : Hid (w.heap.size ≤ b7 ∧ r ≠ b7) := by have := hb7.out; have := HB2.out.size; have := HIB2.out.lt; show _ ∧ _; omega
      clear hb7 hx7 hb3 HD2 HB2 HIB2
      go_wp2_with (refine list_sstore PnK rfl _ _ rfl (b := b7) (cs := pnL ⟨0, 0, false⟩) (cs' := pnL pv) rfl rfl HX7.out rfl rfl rfl ?_)
      intro w4 hx4 hk4
      have HX4 : Hid (SB PnK b7 (pnL pv) w4) := hx4.out
      have HB4 : Hid (Below w.heap.size w w4) := HB3.out.trans (hk4.out.below HQ3.out.1)
      have HD4 : Hid (Dp w4 d c es ce us cu) := HD3.out.blk (fun g hg hl => hk4.out.block g (fun e => by have := HD.out.lt g hg; have := HQ3.out.1; omega))
      have HI4 : Hid (IB r d.bp ce (seen.push st) ce w4) := HI3.out.blk (hk4.out.block _ HQ3.out.2)
      clear hx4 hk4 HX7 HD3 HB3 HI3
      go_wp2_with fail
      have HDD : Hid (Dp w4.drew d c es ce us cu) := HD4.out.bel (drew_bel w4)
      have HII : Hid (IB r d.bp ce (seen.push st) ce w4.drew) := HI4.out.blk ((drew_bel w4).block _ HI4.out.lt)
      have HBD : Hid (Below w.heap.size w w4.drew) := HB4.out.trans ((drew_bel w4).mono HB4.out.size)
      have HS0 : Hid (SB DmK b (dmL c d.bp d.bu) w4.drew ∧ SB PnK b7 (pnL pv) w4.drew) := by rw [← HB.out]; exact ⟨HDD.out.box, HX4.out.blk ((drew_bel w4).block _ HX4.out.lt)⟩
      refine wp_region_held_drew (S := fun W => SB DmK b (dmL c d.bp d.bu) W ∧ SB PnK b7 (pnL pv) W) (by kernel_rfl) HS0.out (fun hHeld => ?_)
      obtain ⟨wd, hwd⟩ : ∃ y, w4.drew = y := ⟨_, rfl⟩
      rw [hwd] at HDD HBD HII hHeld ⊢
      clear hwd HS0 HD4 HI4 HB4 HX4
      refine wpAnyH_take (i := 0) (v := .agg (pnL pv).toArray) rfl (by kernel_rfl) (by kernel_rfl) (by kernel_rfl) (fun _ _ _ h => h) (Or.inl ⟨by rfl, fun W hSw => Go.Proofs.Ytjfiahendnlcjaa.Ge.sload_run PnK (.tmp 7) rfl (b := b7) rfl hSw.2 rfl⟩) (by assumption) ?_
      try simp only [Act.put, List.getElem_toArray, List.getElem_cons_zero, List.getElem_cons_succ, List.setIfInBounds_toArray, List.set_cons_zero, List.set_cons_succ]
      refine wpAnyH_take (i := 1) (v := .int .i64 (now : Int)) rfl (by kernel_rfl) (by kernel_rfl) (by kernel_rfl) (fun _ _ _ h => h) (Or.inl ⟨by rfl, ?_⟩) (by assumption) ?_
      case refine_1 => intro W hSw; go_simp; try rfl
      try simp only [Act.put, List.getElem_toArray, List.getElem_cons_zero, List.getElem_cons_succ, List.setIfInBounds_toArray, List.set_cons_zero, List.set_cons_succ]
      refine wpAnyH_take (i := 2) (v := .pointer (some ⟨b, 0, none⟩)) rfl (by kernel_rfl) (by kernel_rfl) (by kernel_rfl) (fun _ _ _ h => h) (Or.inl ⟨by rfl, ?_⟩) (by assumption) ?_
      case refine_1 => intro W hSw; go_simp; try rfl
      try simp only [Act.put, List.getElem_toArray, List.getElem_cons_zero, List.getElem_cons_succ, List.setIfInBounds_toArray, List.set_cons_zero, List.set_cons_succ]
      refine wpAnyH_take (i := 3) (v := .pointer (some ⟨b, 0, none⟩)) rfl (by kernel_rfl) (by kernel_rfl) (by kernel_rfl) (fun _ _ _ h => h) (Or.inl ⟨by rfl, ?_⟩) (by assumption) ?_
      case refine_1 => intro W hSw; go_simp; try rfl
      try simp only [Act.put, List.getElem_toArray, List.getElem_cons_zero, List.getElem_cons_succ, List.setIfInBounds_toArray, List.set_cons_zero, List.set_cons_succ]
      refine wpAnyH_take (i := 4) (v := .pointer (some ⟨b, 0, none⟩)) rfl (by kernel_rfl) (by kernel_rfl) (by kernel_rfl) (fun _ _ _ h => h) (Or.inl ⟨by rfl, ?_⟩) (by assumption) ?_
      case refine_1 => intro W hSw; go_simp; try rfl
      try simp only [Act.put, List.getElem_toArray, List.getElem_cons_zero, List.getElem_cons_succ, List.setIfInBounds_toArray, List.set_cons_zero, List.set_cons_succ]
      refine wpAnyH_take (i := 5) (v := .pointer (some ⟨b, 0, none⟩)) rfl (by kernel_rfl) (by kernel_rfl) (by kernel_rfl) (fun _ _ _ h => h) (Or.inl ⟨by rfl, ?_⟩) (by assumption) ?_
      case refine_1 => intro W hSw; go_simp; try rfl
      try simp only [Act.put, List.getElem_toArray, List.getElem_cons_zero, List.getElem_cons_succ, List.setIfInBounds_toArray, List.set_cons_zero, List.set_cons_succ]
      refine wpAnyH_take (i := 6) (v := .int .i64 (c.half : Int)) rfl (by kernel_rfl) (by kernel_rfl) (by kernel_rfl) (fun _ _ _ h => h) (Or.inl ⟨by rfl, ?_⟩) (by assumption) ?_
      case refine_1 => intro W hSw; have k1 : W.cell? ⟨b, 0, none⟩ = some (.int .i64 (c.half : Int)) := hSw.1.cell 0; go_simp; try rfl
      try simp only [Act.put, List.getElem_toArray, List.getElem_cons_zero, List.getElem_cons_succ, List.setIfInBounds_toArray, List.set_cons_zero, List.set_cons_succ]
      refine wpAnyH_ready (rs := [7]) (by kernel_rfl) (by simp) ?_
      refine AllReadyH.cons rfl (fun K hK => ?_) AllReadyH.nil
      go_simp
      refine (at_any pv now c.half wd (by have h1 := (HDD.out.pen _ HX.out.1).2.1; have := HDD.out.cok.most; dsimp only at h1; omega) HDD.out.cok.half HN.out.2 (by have h1 := (HDD.out.pen _ HX.out.1).2.2; have := HN.out.1; dsimp only at h1; omega)).mono ?_
      rintro e we ⟨rfl, hbe⟩
      have HBE : Hid (Below w.heap.size w we) := HBD.out.trans (hbe.mono HBD.out.size)
      have HDE : Hid (Dp we d c es ce us cu) := HDD.out.bel hbe
      have HIE : Hid (IB r d.bp ce (seen.push st) ce we) := HII.out.blk (hbe.block _ HII.out.lt)
      refine hK.out _ _ ⟨hHeld.1.blk (hbe.block _ hHeld.1.lt), hHeld.2.blk (hbe.block _ hHeld.2.lt)⟩ (fun hHeld => ?_)
      clear hK K hbe HDD HBD HII
      obtain ⟨az, haz⟩ : ∃ y, atP c.half pv.v (now - pv.s) = y := ⟨_, rfl⟩
      have HAZ : Hid (atX c now ((p1, p2), pv, st) = az) := haz
      rw [haz]
      clear haz
      try simp only [Act.put, List.getElem_toArray, List.getElem_cons_zero, List.getElem_cons_succ, List.setIfInBounds_toArray, List.set_cons_zero, List.set_cons_succ]
      by_cases hz : 0 < az
      case pos =>
        have hzi : (0 : Int) < (az : Int) := by omega
        refine wpAnyH_take (i := 8) (v := .bool true) rfl (by kernel_rfl) (by kernel_rfl) (by kernel_rfl) (fun _ _ _ h => h) (Or.inl ⟨by rfl, ?_⟩) (by assumption) ?_
        case refine_1 => intro W hSw; go_simp; try rfl
        try simp only [Act.put, List.getElem_toArray, List.getElem_cons_zero, List.getElem_cons_succ, List.setIfInBounds_toArray, List.set_cons_zero, List.set_cons_succ]
        refine wpAnyH_done (by kernel_rfl) ?_ _
        clear hHeld
        have HCI : Hid (CI w d c es ce us cu now r (n + 1) we) := ⟨HDE.out, ⟨_, _, _, HIE.out, HRG2.out, by rw [List.countP_append, ← HNV.out, List.countP_singleton, HAZ.out, decide_eq_true hz]; rfl⟩, HRN.out, HBE.out⟩
        have HSE : Hid (sn we r = seen.size + 1) := by show _ = _; rw [sn_of HIE.out, Array.size_push]
        clear HDE HIE HBE HRG2 HAZ
        go_wp2_with fail
        refine ⟨⟨n + 1, by simp, HCI.out⟩, ?_⟩
        rw [HSN.out, HSE.out]
        have := HLT.out
        omega
      case neg =>
        have hzi : ¬ (0 : Int) < (az : Int) := by omega
        refine wpAnyH_take (i := 8) (v := .bool false) rfl (by kernel_rfl) (by kernel_rfl) (by kernel_rfl) (fun _ _ _ h => h) (Or.inl ⟨by rfl, ?_⟩) (by assumption) ?_
        case refine_1 => intro W hSw; go_simp; try rfl
        try simp only [Act.put, List.getElem_toArray, List.getElem_cons_zero, List.getElem_cons_succ, List.setIfInBounds_toArray, List.set_cons_zero, List.set_cons_succ]
        refine wpAnyH_done (by kernel_rfl) ?_ _
        clear hHeld
        have HCI : Hid (CI w d c es ce us cu now r (n) we) := ⟨HDE.out, ⟨_, _, _, HIE.out, HRG2.out, by rw [List.countP_append, ← HNV.out, List.countP_singleton, HAZ.out, decide_eq_false hz]; rfl⟩, HRN.out, HBE.out⟩
        have HSE : Hid (sn we r = seen.size + 1) := by show _ = _; rw [sn_of HIE.out, Array.size_push]
        clear HDE HIE HBE HRG2 HAZ
        go_wp2_with fail
        refine ⟨⟨n, by simp, HCI.out⟩, ?_⟩
        rw [HSN.out, HSE.out]
        have := HLT.out
        omega
/-- dead at a time -/
def deadX (c : Dc) (now : Nat) (x : Pf × Pn × Nat) : Bool := decide (atX c now x = 0)
def liveP (c : Dc) (es : Ents Pf Pn) (now : Nat) : Ents Pf Pn := es.filter (fun x => !deadX c now x)
def clkD (c : Dc) (now : Nat) : Dc := { c with clock := now }
/-- within moveTo -/
structure MI (w : World) (d : Dw) (c : Dc) (es : Ents Pf Pn) (ce : Nat) (us : Ents Pf Unit) (cu : Nat) (now r : Nat) (W : World) : Prop where
  it : ∃ seen vs rs, IB r d.bp ce seen ce W ∧ Rg es seen vs rs ∧ Dp W d c (lv es (deadX c now) seen) ce us cu
  rn : w.heap.size ≤ r
  str : Below 0 w W
  blk : ∀ g, g < w.heap.size → ¬ fpD d g → W.heap[g]? = w.heap[g]?
theorem Dp.clk {W W' : World} {d : Dw} {c : Dc} {es : Ents Pf Pn} {ce : Nat} {us : Ents Pf Unit} {cu : Nat} (h : Dp W d c es ce us cu) {now : Nat} (hn : c.clock ≤ now ∧ now ≤ 1099511627776) (hx : SB DmK d.b (dmL (clkD c now) d.bp d.bu) W') (hk : Ko W d.b W') : Dp W' d (clkD c now) es ce us cu :=
  ⟨hx, h.pm.blk (hk.block _ h.ne.1.symm), h.um.blk (hk.block _ h.ne.2.1.symm), h.eok, h.uok, h.ne, ⟨h.cok.half, h.cok.reuse, h.cok.most, h.cok.down, h.cok.change, hn.2⟩, fun x hx => ⟨(h.pen x hx).1, (h.pen x hx).2.1, Nat.le_trans (h.pen x hx).2.2 hn.1⟩, h.ui⟩
/-- what a call on a damper keeps -/
structure Kd (w w' : World) (d : Dw) : Prop where
  str : Below 0 w w'
  blk : ∀ g, g < w.heap.size → ¬ fpD d g → w'.heap[g]? = w.heap[g]?
theorem Kd.refl (w : World) (d : Dw) : Kd w w d := ⟨Below.refl _ _, fun _ _ _ => rfl⟩
theorem Kd.trans {w w1 w2 : World} {d : Dw} (h : Kd w w1 d) (k : Kd w1 w2 d) : Kd w w2 d := ⟨h.str.trans k.str, fun g hg hf => (k.blk g (Nat.lt_of_lt_of_le hg h.str.size) hf).trans (h.blk g hg hf)⟩
theorem Kd.bel {w w1 : World} (d : Dw) (h : Below w.heap.size w w1) : Kd w w1 d := ⟨h.mono (Nat.zero_le _), fun g hg _ => h.block g hg⟩
theorem Kd.ko {w w1 : World} {d : Dw} {b : Nat} (h : Ko w b w1) (hb : fpD d b ∨ w.heap.size ≤ b) : Kd w w1 d := ⟨h.str, fun g hg hf => h.block g (fun e => by
  rcases hb with c | c
  · exact hf (e ▸ c)
  · omega)⟩
theorem Kd.kov {w0 w w1 : World} {d : Dw} {b : Nat} (h : Kd w0 w d) (k : Ko w b w1) (hb : fpD d b ∨ w0.heap.size ≤ b) : Kd w0 w1 d := ⟨h.str.trans k.str, fun g hg hf => (k.block g (fun e => by
  rcases hb with c | c
  · exact hf (e ▸ c)
  · omega)).trans (h.blk g hg hf)⟩
def MvD (w : World) (d : Dw) (c : Dc) (es : Ents Pf Pn) (ce : Nat) (us : Ents Pf Unit) (cu : Nat) (now : Nat) (e : Ending) (w' : World) : Prop := (∃ u, e = .returned u) ∧ Dp w' d (clkD c now) (liveP c es now) ce us cu ∧ Kd w w' d
set_option maxRecDepth 100000 in
set_option maxHeartbeats 8000000 in
theorem move_any (d : Dw) (c : Dc) (es : Ents Pf Pn) (ce : Nat) (us : Ents Pf Unit) (cu : Nat) (now : Nat) (w : World) (h : Dp w d c es ce us cu) (hn : c.clock ≤ now ∧ now ≤ 1099511627776) :
    Calls Try.prog 24 #[.pointer (some ⟨d.b, 0, none⟩), .int .i64 (now : Int)] w (MvD w d c es ce us cu now) := by
  have HD : Hid (Dp w d c es ce us cu) := h
  have HN : Hid (c.clock ≤ now ∧ now ≤ 1099511627776) := hn
  clear h hn
  obtain ⟨b, hb⟩ : ∃ y, d.b = y := ⟨_, rfl⟩
  rw [hb]
  have HB : Hid (d.b = b) := hb
  clear hb
  have HX0 : Hid (SB DmK b (dmL c d.bp d.bu) w) := by rw [← HB.out]; exact HD.out.box
  have c6 : w.cell? ⟨b, 6, none⟩ = some (.int .i64 (c.clock : Int)) := HX0.out.cell 6
  have f6 : w.frozen? ⟨b, 6, none⟩ = false := HX0.out.fro 6
  have HX1 : Hid (SB DmK b (dmL (clkD c now) d.bp d.bu) (w.setCell ⟨b, 6, none⟩ (.int .i64 (now : Int)))) := HX0.out.set 6 _ rfl
  have HK1 : Hid (Ko w b (w.setCell ⟨b, 6, none⟩ (.int .i64 (now : Int)))) := Ko.set _ _ _ _
  go_enter Try.func24, Try.ntmps24
  go_upto_region 1 with fail
  obtain ⟨w0, hw0⟩ : ∃ y, w.setCell ⟨b, 6, none⟩ (.int .i64 (now : Int)) = y := ⟨_, rfl⟩
  rw [hw0] at HX1 HK1 ⊢
  clear hw0 c6 f6 HX0
  obtain ⟨c', hc'⟩ : ∃ y, clkD c now = y := ⟨_, rfl⟩
  have HD0 : Hid (Dp w0 d c' es ce us cu) := by rw [← hc']; exact HD.out.clk HN.out (by rw [HB.out]; exact HX1.out) (by rw [HB.out]; exact HK1.out)
  have HCC : Hid (c'.half = c.half ∧ c'.clock = now ∧ clkD c now = c') := by rw [← hc']; exact ⟨rfl, rfl, rfl⟩
  have HK0 : Hid (Kd w w0 d) := Kd.ko HK1.out (.inl (.inl HB.out.symm))
  rw [hc'] at HX1
  clear hc' HK1
  have c7 : w0.cell? ⟨b, 7, none⟩ = some (.map (some d.bp)) := HX1.out.cell 7
  go_wp2_with (refine list_range MPn rfl _ rfl (b := d.bp) (es := es) (c := ce) rfl HD0.out.pm ?_)
  intro r w1 hr hib hb1
  have HI0 : Hid (MI w0 d c' es ce us cu now r w1) := ⟨⟨#[], [], es, hib.out, Rg.nil es, by rw [lv_nil]; exact HD0.out.bel hb1.out⟩, by have := hr.out; omega, hb1.out.mono (Nat.zero_le _), fun g hg _ => hb1.out.block g hg⟩
  have HLT0 : Hid (∀ g, fpD d g → g < w0.heap.size) := HD0.out.lt
  have HEO : Hid (Mok es ce) := HD0.out.eok
  clear hr hib hb1 c7
  go_wp2_with fail
  go_loopw [15] (fun _ wr => MI w0 d c' es ce us cu now r wr) (fun _ wr => es.length - sn wr r)
  case atStart => exact HI0.out
  case round =>
    have HC : Hid (MI w0 d c' es ce us cu now r wr) := hrel
    clear hrel HI0
    obtain ⟨wz, hwz⟩ : ∃ y, wr = y := ⟨_, rfl⟩
    rw [hwz] at HC ⊢
    clear hwz
    obtain ⟨seen, vs, rs, hib, hrg, hdp⟩ := HC.out.it
    obtain ⟨el, hel⟩ : ∃ y, lv es (deadX c' now) seen = y := ⟨_, rfl⟩
    rw [hel] at hdp
    have HEL : Hid (lv es (deadX c' now) seen = el) := hel
    have HIB : Hid (IB r d.bp ce seen ce wz) := hib
    have HRG : Hid (Rg es seen vs rs) := hrg
    have HDP : Hid (Dp wz d c' el ce us cu) := hdp
    have HSN : Hid (sn wz r = seen.size) := sn_of hib
    clear hib hrg hdp hel
    go_wp2_with (refine list_next MPn rfl _ rfl (r := r) (b := d.bp) (since := ce) (c0 := ce) (c := ce) (seen := seen) (es := el) rfl HIB.out HDP.out.pm HDP.out.eok.lt (Nat.le_refl _) ?_ ?_)
    case' refine_1 =>
      intro hall
      have HE : Hid (Dp wz d c' (liveP c es now) ce us cu ∧ Kd w wz d) := by
        refine ⟨?_, HK0.out.trans ⟨HC.out.str, HC.out.blk⟩⟩
        have h1 : el = liveP c es now := by
          rw [← HEL.out, lv_done _ _ (by rw [HEL.out]; exact hall.out)]
          unfold liveP deadX atX
          rw [HCC.out.1]
        rw [← h1]
        exact HDP.out
      clear hall HRG HIB HC HDP HEL
      go_wp2_with fail
      refine ⟨rfl, .tuple #[], ?_, ⟨_, rfl⟩, ?_, HE.out.2⟩
      · simp [results, Try.results24, go_sem]
      · rw [HCC.out.2.2]; exact HE.out.1
    case' refine_2 =>
      intro xe w2 hx hib2 hk2
      obtain ⟨x⟩ := xe
      dsimp only at hx hib2 ⊢
      have HX : Hid (x ∈ el ∧ x ∈ es ∧ x.2.2 ∉ seen) := ⟨hx.out.1, by have := hx.out.1; rw [← HEL.out] at this; exact lv_mem this, hx.out.2⟩
      have HIB2 : Hid (IB r d.bp ce (seen.push x.2.2) ce w2) := hib2.out
      have HRN : Hid (w0.heap.size ≤ r) := HC.out.rn
      have HD2 : Hid (Dp w2 d c' el ce us cu) := HDP.out.blk (fun g hg hl => hk2.out.block g (fun e => by have h1 := HLT0.out g hg; have := HRN.out; omega))
      have HK2 : Hid (Kd w0 w2 d) := Kd.kov ⟨HC.out.str, HC.out.blk⟩ hk2.out (.inr HRN.out)
      obtain ⟨rs', hrg'⟩ := HRG.out.step HX.out.2.1 HX.out.2.2
      have HRG2 : Hid (Rg es (seen.push x.2.2) (vs ++ [x]) rs') := hrg'
      have HLT : Hid (seen.size < es.length) := HRG.out.lt HX.out.2.1 HX.out.2.2
      have HLV : Hid ((deadX c' now x = false → lv es (deadX c' now) (seen.push x.2.2) = el) ∧ (deadX c' now x = true → lv es (deadX c' now) (seen.push x.2.2) = mdel el x.1)) := ⟨fun hd => by rw [lv_stay HEO.out _ _ HX.out.2.1 hd]; exact HEL.out, fun hd => by rw [← HEL.out, lv_drop HEO.out _ _ HX.out.2.1 hd]⟩
      obtain ⟨⟨p1, p2⟩, pv, st⟩ := x
      clear hx hib2 hk2 hrg' HIB HC HRG HDP HEL
      go_wp2_with (first | (refine list_entry MPn rfl _ rfl (r := r) (b := d.bp) (since := ce) (c := ce) (seen := seen) (es := el) (y := ((p1, p2), pv, st)) rfl HIB2.out HD2.out.pm HX.out.1 HD2.out.eok.nb ?_) | (refine list_pxnew rfl rfl ?_))
      intro b4 w3 hb4 hx4 hb3
      have HX4 : Hid (SB PxK b4 (pxL (0, 0)) w3) := hx4.out
      have HD3 : Hid (Dp w3 d c' el ce us cu) := HD2.out.bel hb3.out
      have HK3 : Hid (Kd w0 w3 d) := HK2.out.trans (Kd.bel d hb3.out)
      have HI3 : Hid (IB r d.bp ce (seen.push st) ce w3) := HIB2.out.blk (hb3.out.block _ HIB2.out.lt)
      have HQ3 : Hid (w0.heap.size ≤ b4 ∧ r ≠ b4 ∧ w2.heap.size = b4) := by have := hb4.out; have := HK2.out.str.size; have := HIB2.out.lt; show _ ∧ _; omega
      clear hb4 hx4 hb3 HD2 HK2 HIB2
      go_wp2_with (refine list_pnnew rfl rfl ?_)
      intro b5 w5 hb5 hx5 hbl5
      have HX45 : Hid (SB PxK b4 (pxL (0, 0)) w5) := HX4.out.blk (hbl5.out.block _ HX4.out.lt)
      have HX5 : Hid (SB PnK b5 (pnL ⟨0, 0, false⟩) w5) := hx5.out
      have HD5 : Hid (Dp w5 d c' el ce us cu) := HD3.out.bel hbl5.out
      have HK5 : Hid (Kd w0 w5 d) := HK3.out.trans (Kd.bel d hbl5.out)
      have HI5 : Hid (IB r d.bp ce (seen.push st) ce w5) := HI3.out.blk (hbl5.out.block _ HI3.out.lt)
      have HQ5 : Hid (w0.heap.size ≤ b5 ∧ r ≠ b5 ∧ b4 ≠ b5) := by have := hb5.out; have := HK3.out.str.size; have := HI3.out.lt; have := HX4.out.lt; show _ ∧ _; omega
      clear hb5 hx5 hbl5 HD3 HK3 HI3 HX4
      go_wp2_with (refine list_sstore PxK rfl _ _ rfl (b := b4) (cs := pxL (0, 0)) (cs' := pxL (p1, p2)) rfl rfl HX45.out rfl rfl rfl ?_)
      intro w6 hx6 hk6
      have HX6 : Hid (SB PxK b4 (pxL (p1, p2)) w6 ∧ SB PnK b5 (pnL ⟨0, 0, false⟩) w6) := ⟨hx6.out, HX5.out.blk (hk6.out.block _ HQ5.out.2.2.symm)⟩
      have HK6 : Hid (Kd w0 w6 d) := HK5.out.kov hk6.out (.inr HQ3.out.1)
      have HD6 : Hid (Dp w6 d c' el ce us cu) := HD5.out.blk (fun g hg hl => hk6.out.block g (fun e => by have := HLT0.out g hg; have := HQ3.out.1; omega))
      have HI6 : Hid (IB r d.bp ce (seen.push st) ce w6) := HI5.out.blk (hk6.out.block _ HQ3.out.2.1)
      clear hx6 hk6 HX45 HX5 HD5 HK5 HI5
      go_wp2_with (refine list_sstore PnK rfl _ _ rfl (b := b5) (cs := pnL ⟨0, 0, false⟩) (cs' := pnL pv) rfl rfl HX6.out.2 rfl rfl rfl ?_)
      intro w4 hx4 hk4
      have HX4 : Hid (SB PxK b4 (pxL (p1, p2)) w4 ∧ SB PnK b5 (pnL pv) w4) := ⟨HX6.out.1.blk (hk4.out.block _ HQ5.out.2.2), hx4.out⟩
      have HK4 : Hid (Kd w0 w4 d) := HK6.out.kov hk4.out (.inr HQ5.out.1)
      have HD4 : Hid (Dp w4 d c' el ce us cu) := HD6.out.blk (fun g hg hl => hk4.out.block g (fun e => by have := HLT0.out g hg; have := HQ5.out.1; omega))
      have HI4 : Hid (IB r d.bp ce (seen.push st) ce w4) := HI6.out.blk (hk4.out.block _ HQ5.out.2.1)
      clear hx4 hk4 HX6 HD6 HK6 HI6
      go_wp2_with fail
      have HDD : Hid (Dp w4.drew d c' el ce us cu) := HD4.out.bel (drew_bel w4)
      have HII : Hid (IB r d.bp ce (seen.push st) ce w4.drew) := HI4.out.blk ((drew_bel w4).block _ HI4.out.lt)
      have HKD : Hid (Kd w0 w4.drew d) := HK4.out.trans (Kd.bel d (drew_bel w4))
      have HS0 : Hid (SB DmK b (dmL c' d.bp d.bu) w4.drew ∧ SB PnK b5 (pnL pv) w4.drew ∧ SB PxK b4 (pxL (p1, p2)) w4.drew) := by rw [← HB.out]; exact ⟨HDD.out.box, HX4.out.2.blk ((drew_bel w4).block _ HX4.out.2.lt), HX4.out.1.blk ((drew_bel w4).block _ HX4.out.1.lt)⟩
      refine wp_region_held_drew (S := fun W => SB DmK b (dmL c' d.bp d.bu) W ∧ SB PnK b5 (pnL pv) W ∧ SB PxK b4 (pxL (p1, p2)) W) (by kernel_rfl) HS0.out (fun hHeld => ?_)
      obtain ⟨wd, hwd⟩ : ∃ y, w4.drew = y := ⟨_, rfl⟩
      rw [hwd] at HDD HKD HII hHeld ⊢
      clear hwd HS0 HD4 HI4 HK4 HX4
      refine wpAnyH_take (i := 0) (v := .agg (pnL pv).toArray) rfl (by kernel_rfl) (by kernel_rfl) (by kernel_rfl) (fun _ _ _ h => h) (Or.inl ⟨by rfl, fun W hSw => Go.Proofs.Ytjfiahendnlcjaa.Ge.sload_run PnK (.tmp 5) rfl (b := b5) rfl hSw.2.1 rfl⟩) (by assumption) ?_
      try simp only [Act.put, List.getElem_toArray, List.getElem_cons_zero, List.getElem_cons_succ, List.setIfInBounds_toArray, List.set_cons_zero, List.set_cons_succ]
      refine wpAnyH_take (i := 1) (v := .int .i64 (now : Int)) rfl (by kernel_rfl) (by kernel_rfl) (by kernel_rfl) (fun _ _ _ h => h) (Or.inl ⟨by rfl, ?_⟩) (by assumption) ?_
      case refine_1 => intro W hSw; go_simp; try rfl
      try simp only [Act.put, List.getElem_toArray, List.getElem_cons_zero, List.getElem_cons_succ, List.setIfInBounds_toArray, List.set_cons_zero, List.set_cons_succ]
      refine wpAnyH_take (i := 2) (v := .pointer (some ⟨b, 0, none⟩)) rfl (by kernel_rfl) (by kernel_rfl) (by kernel_rfl) (fun _ _ _ h => h) (Or.inl ⟨by rfl, ?_⟩) (by assumption) ?_
      case refine_1 => intro W hSw; go_simp; try rfl
      try simp only [Act.put, List.getElem_toArray, List.getElem_cons_zero, List.getElem_cons_succ, List.setIfInBounds_toArray, List.set_cons_zero, List.set_cons_succ]
      refine wpAnyH_take (i := 3) (v := .pointer (some ⟨b, 0, none⟩)) rfl (by kernel_rfl) (by kernel_rfl) (by kernel_rfl) (fun _ _ _ h => h) (Or.inl ⟨by rfl, ?_⟩) (by assumption) ?_
      case refine_1 => intro W hSw; go_simp; try rfl
      try simp only [Act.put, List.getElem_toArray, List.getElem_cons_zero, List.getElem_cons_succ, List.setIfInBounds_toArray, List.set_cons_zero, List.set_cons_succ]
      refine wpAnyH_take (i := 4) (v := .pointer (some ⟨b, 0, none⟩)) rfl (by kernel_rfl) (by kernel_rfl) (by kernel_rfl) (fun _ _ _ h => h) (Or.inl ⟨by rfl, ?_⟩) (by assumption) ?_
      case refine_1 => intro W hSw; go_simp; try rfl
      try simp only [Act.put, List.getElem_toArray, List.getElem_cons_zero, List.getElem_cons_succ, List.setIfInBounds_toArray, List.set_cons_zero, List.set_cons_succ]
      refine wpAnyH_take (i := 5) (v := .pointer (some ⟨b, 0, none⟩)) rfl (by kernel_rfl) (by kernel_rfl) (by kernel_rfl) (fun _ _ _ h => h) (Or.inl ⟨by rfl, ?_⟩) (by assumption) ?_
      case refine_1 => intro W hSw; go_simp; try rfl
      try simp only [Act.put, List.getElem_toArray, List.getElem_cons_zero, List.getElem_cons_succ, List.setIfInBounds_toArray, List.set_cons_zero, List.set_cons_succ]
      refine wpAnyH_take (i := 6) (v := .int .i64 (c'.half : Int)) rfl (by kernel_rfl) (by kernel_rfl) (by kernel_rfl) (fun _ _ _ h => h) (Or.inl ⟨by rfl, ?_⟩) (by assumption) ?_
      case refine_1 => intro W hSw; have k1 : W.cell? ⟨b, 0, none⟩ = some (.int .i64 (c'.half : Int)) := hSw.1.cell 0; go_simp; try rfl
      try simp only [Act.put, List.getElem_toArray, List.getElem_cons_zero, List.getElem_cons_succ, List.setIfInBounds_toArray, List.set_cons_zero, List.set_cons_succ]
      refine wpAnyH_ready (rs := [7]) (by kernel_rfl) (by simp) ?_
      refine AllReadyH.cons rfl (fun K hK => ?_) AllReadyH.nil
      go_simp
      refine (at_any pv now c'.half wd (by have h1 := (HDD.out.pen _ HX.out.1).2.1; have := HDD.out.cok.most; dsimp only at h1; omega) HDD.out.cok.half (by have := HN.out.2; omega) (by have h1 := (HDD.out.pen _ HX.out.1).2.2; rw [HCC.out.2.1] at h1; exact h1)).mono ?_
      rintro e we ⟨rfl, hbe⟩
      have HKE : Hid (Kd w0 we d) := HKD.out.trans (Kd.bel d hbe)
      have HDE : Hid (Dp we d c' el ce us cu) := HDD.out.bel hbe
      have HIE : Hid (IB r d.bp ce (seen.push st) ce we) := HII.out.blk (hbe.block _ HII.out.lt)
      refine hK.out _ _ ⟨hHeld.1.blk (hbe.block _ hHeld.1.lt), hHeld.2.1.blk (hbe.block _ hHeld.2.1.lt), hHeld.2.2.blk (hbe.block _ hHeld.2.2.lt)⟩ (fun hHeld => ?_)
      clear hK K hbe HDD HKD HII
      obtain ⟨az, haz⟩ : ∃ y, atP c'.half pv.v (now - pv.s) = y := ⟨_, rfl⟩
      have HAZ : Hid (deadX c' now ((p1, p2), pv, st) = decide (az = 0)) := by rw [← haz]; rfl
      rw [haz]
      clear haz
      try simp only [Act.put, List.getElem_toArray, List.getElem_cons_zero, List.getElem_cons_succ, List.setIfInBounds_toArray, List.set_cons_zero, List.set_cons_succ]
      by_cases hz : az = 0
      case neg =>
        have hzi : ((az : Int) == 0) = false := by simpa using hz
        refine wpAnyH_take (i := 8) (v := .bool false) rfl (by kernel_rfl) (by kernel_rfl) (by kernel_rfl) (fun _ _ _ h => h) (Or.inl ⟨by rfl, ?_⟩) (by assumption) ?_
        case refine_1 => intro W hSw; go_simp; try (simpa using hz)
        try simp only [Act.put, List.getElem_toArray, List.getElem_cons_zero, List.getElem_cons_succ, List.setIfInBounds_toArray, List.set_cons_zero, List.set_cons_succ]
        refine wpAnyH_done (by kernel_rfl) ?_ _
        clear hHeld
        have HCI : Hid (MI w0 d c' es ce us cu now r we) := ⟨⟨_, _, _, HIE.out, HRG2.out, by rw [HLV.out.1 (by rw [HAZ.out]; exact decide_eq_false hz)]; exact HDE.out⟩, HRN.out, HKE.out.str, HKE.out.blk⟩
        have HSE : Hid (sn we r = seen.size + 1) := by show _ = _; rw [sn_of HIE.out, Array.size_push]
        clear HDE HIE HKE HRG2 HAZ HLV
        go_wp2_with fail
        refine ⟨HCI.out, ?_⟩
        rw [HSN.out, HSE.out]
        have := HLT.out
        omega
      case pos =>
        have hzi : ((az : Int) == 0) = true := by simpa using hz
        refine wpAnyH_take (i := 8) (v := .bool true) rfl (by kernel_rfl) (by kernel_rfl) (by kernel_rfl) (fun _ _ _ h => h) (Or.inl ⟨by rfl, ?_⟩) (by assumption) ?_
        case refine_1 => intro W hSw; go_simp; try (simpa using hz)
        try simp only [Act.put, List.getElem_toArray, List.getElem_cons_zero, List.getElem_cons_succ, List.setIfInBounds_toArray, List.set_cons_zero, List.set_cons_succ]
        refine wpAnyH_done (by kernel_rfl) ?_ _
        have HX4 : Hid (SB PxK b4 (pxL (p1, p2)) we) := hHeld.2.2
        clear hHeld
        go_wp2_with fail
        have HDD : Hid (Dp we.drew d c' el ce us cu) := HDE.out.bel (drew_bel we)
        have HII : Hid (IB r d.bp ce (seen.push st) ce we.drew) := HIE.out.blk ((drew_bel we).block _ HIE.out.lt)
        have HKD : Hid (Kd w0 we.drew d) := HKE.out.trans (Kd.bel d (drew_bel we))
        have HS0 : Hid (SB DmK b (dmL c' d.bp d.bu) we.drew ∧ SB PxK b4 (pxL (p1, p2)) we.drew) := by rw [← HB.out]; exact ⟨HDD.out.box, HX4.out.blk ((drew_bel we).block _ HX4.out.lt)⟩
        refine wp_region_held_drew (S := fun W => SB DmK b (dmL c' d.bp d.bu) W ∧ SB PxK b4 (pxL (p1, p2)) W) (by kernel_rfl) HS0.out (fun hHeld => ?_)
        obtain ⟨wd2, hwd⟩ : ∃ y, we.drew = y := ⟨_, rfl⟩
        rw [hwd] at HDD HKD HII hHeld ⊢
        clear hwd HS0 HDE HIE HKE HX4
        refine wpAnyH_take (i := 0) (v := .pointer (some ⟨b, 0, none⟩)) rfl (by kernel_rfl) (by kernel_rfl) (by kernel_rfl) (fun _ _ _ h => h) (Or.inl ⟨by rfl, ?_⟩) (by assumption) ?_
        case refine_1 => intro W hSw; go_simp; try rfl
        try simp only [Act.put, List.getElem_toArray, List.getElem_cons_zero, List.getElem_cons_succ, List.setIfInBounds_toArray, List.set_cons_zero, List.set_cons_succ]
        refine wpAnyH_take (i := 1) (v := .pointer (some ⟨b, 0, none⟩)) rfl (by kernel_rfl) (by kernel_rfl) (by kernel_rfl) (fun _ _ _ h => h) (Or.inl ⟨by rfl, ?_⟩) (by assumption) ?_
        case refine_1 => intro W hSw; go_simp; try rfl
        try simp only [Act.put, List.getElem_toArray, List.getElem_cons_zero, List.getElem_cons_succ, List.setIfInBounds_toArray, List.set_cons_zero, List.set_cons_succ]
        refine wpAnyH_take (i := 2) (v := .pointer (some ⟨b, 7, none⟩)) rfl (by kernel_rfl) (by kernel_rfl) (by kernel_rfl) (fun _ _ _ h => h) (Or.inl ⟨by rfl, ?_⟩) (by assumption) ?_
        case refine_1 => intro W hSw; go_simp; try rfl
        try simp only [Act.put, List.getElem_toArray, List.getElem_cons_zero, List.getElem_cons_succ, List.setIfInBounds_toArray, List.set_cons_zero, List.set_cons_succ]
        refine wpAnyH_take (i := 3) (v := .map (some d.bp)) rfl (by kernel_rfl) (by kernel_rfl) (by kernel_rfl) (fun _ _ _ h => h) (Or.inl ⟨by rfl, ?_⟩) (by assumption) ?_
        case refine_1 => intro W hSw; have k1 : W.cell? ⟨b, 7, none⟩ = some (.map (some d.bp)) := hSw.1.cell 7; go_simp; try rfl
        try simp only [Act.put, List.getElem_toArray, List.getElem_cons_zero, List.getElem_cons_succ, List.setIfInBounds_toArray, List.set_cons_zero, List.set_cons_succ]
        refine wpAnyH_take (i := 4) (v := .agg (pxL (p1, p2)).toArray) rfl (by kernel_rfl) (by kernel_rfl) (by kernel_rfl) (fun _ _ _ h => h) (Or.inl ⟨by rfl, fun W hSw => Go.Proofs.Ytjfiahendnlcjaa.Ge.sload_run PxK (.tmp 4) rfl (b := b4) rfl hSw.2 rfl⟩) (by assumption) ?_
        try simp only [Act.put, List.getElem_toArray, List.getElem_cons_zero, List.getElem_cons_succ, List.setIfInBounds_toArray, List.set_cons_zero, List.set_cons_succ]
        refine wpAnyH_ready (rs := [5]) (by kernel_rfl) (by simp) ?_
        refine AllReadyH.cons rfl (fun K hK => ?_) AllReadyH.nil
        refine del_step MPn (.tmp 32) (.tmp 33) rfl (b := d.bp) (c := ce) (es := el) (k := (p1, p2)) rfl rfl HDD.out.pm rfl (fun wg hmb hkg => ?_)
        have HDG : Hid (Dp wg d c' (mdel el (p1, p2)) ce us cu) := ⟨HDD.out.box.blk (hkg.out.block _ HDD.out.ne.1), hmb.out, HDD.out.um.blk (hkg.out.block _ HDD.out.ne.2.2.symm), mdel_ok HDD.out.eok _, HDD.out.uok, HDD.out.ne, HDD.out.cok, fun x hx => HDD.out.pen x (by rw [mdel_eq HDD.out.eok] at hx; exact (List.mem_filter.1 hx).1), HDD.out.ui⟩
        have HIG : Hid (IB r d.bp ce (seen.push st) ce wg) := HII.out.blk (hkg.out.block _ (fun e => by have h1 := HLT0.out d.bp (.inr (.inl rfl)); have := HRN.out; omega))
        have HKG : Hid (Kd w0 wg d) := HKD.out.kov hkg.out (.inl (.inr (.inl rfl)))
        refine hK.out _ _ ⟨hHeld.1.blk (hkg.out.block _ (by rw [← HB.out]; exact HDD.out.ne.1)), hHeld.2.blk (hkg.out.block _ (fun e => by have h1 := HLT0.out d.bp (.inr (.inl rfl)); have := HQ3.out.1; omega))⟩ (fun hHeld => ?_)
        clear hK K hmb hkg HDD HKD HII
        try simp only [Act.put, List.getElem_toArray, List.getElem_cons_zero, List.getElem_cons_succ, List.setIfInBounds_toArray, List.set_cons_zero, List.set_cons_succ]
        refine wpAnyH_done (by kernel_rfl) ?_ _
        clear hHeld
        have HCI : Hid (MI w0 d c' es ce us cu now r wg) := ⟨⟨_, _, _, HIG.out, HRG2.out, by rw [HLV.out.2 (by rw [HAZ.out]; exact decide_eq_true hz)]; exact HDG.out⟩, HRN.out, HKG.out.str, HKG.out.blk⟩
        have HSE : Hid (sn wg r = seen.size + 1) := by show _ = _; rw [sn_of HIG.out, Array.size_push]
        clear HDG HIG HKG HRG2 HAZ HLV
        go_wp2_with fail
        refine ⟨HCI.out, ?_⟩
        rw [HSN.out, HSE.out]
        have := HLT.out
        omega
end Go.Proofs.Ytjfiahendnlcjaa.Da
