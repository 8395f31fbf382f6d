/- The damper: Flap. -/
import Derived.Test.YtjfiahendnlcjaaDaE
namespace Go.Proofs.Ytjfiahendnlcjaa.Da
open Go.ChangeShapes Go.WideShapes Go.ChangeAt Go.RowKit Go.Joins Go.Deep Go.Proofs.Ytjfiahendnlcjaa.Ge Go.Proofs.Ytjfiahendnlcjaa.PM Go.Proofs.Ytjfiahendnlcjaa.Ask
set_option linter.unusedVariables false
set_option linter.unusedSimpArgs false

theorem atP_le (half v t : Nat) : atP half v t ≤ v := Nat.le_trans (Nat.sub_le _ _) (Nat.div_le_self _ _)
/-- what a flap makes of a penalty, and whether it is held -/
def valP (c : Dc) (f : Pf → Option Pn) (p : Pf) (what : Int) (now : Nat) : Nat := min (penP c f p now + priceP c what) c.most
def hldP (c : Dc) (f : Pf → Option Pn) (p : Pf) (what : Int) (now : Nat) : Bool := heldP c f p now || decide (c.limit ≤ valP c f p what now)
def flE (c : Dc) (es : Ents Pf Pn) (ce : Nat) (p : Pf) (now v : Nat) (h : Bool) : Ents Pf Pn := if 0 < v then mput (liveP c es now) ce p ⟨v, now, h⟩ else liveP c es now
def flC (c : Dc) (es : Ents Pf Pn) (ce : Nat) (p : Pf) (now v : Nat) : Nat := if 0 < v then mclk (liveP c es now) ce p else ce
def flU (us : Ents Pf Unit) (cu : Nat) (p : Pf) (h : Bool) : Ents Pf Unit := if h = true then mput us cu p () else us
def flD (us : Ents Pf Unit) (cu : Nat) (p : Pf) (h : Bool) : Nat := if h = true then mclk us cu p else cu
theorem Dp.putE {W W' : World} {d : Dw} {c : Dc} {es : Ents Pf Pn} {ce : Nat} {us : Ents Pf Unit} {cu : Nat} (h : Dp W d c es ce us cu) {p : Pf} {x : Pn} (hx : 0 < x.v ∧ x.v ≤ c.most ∧ x.s ≤ c.clock) (hm : MB MPn d.bp (mput es ce p x) (mclk es ce p) W') (hk : Ko W d.bp W') : Dp W' d c (mput es ce p x) (mclk es ce p) us cu :=
  ⟨h.box.blk (hk.block _ h.ne.1), hm, h.um.blk (hk.block _ h.ne.2.2.symm), mput_ok h.eok p x, h.uok, h.ne, h.cok, fun y hy => by
    have h1 := mget_of_mem (mput_ok h.eok p x) hy
    rw [mput_get] at h1
    split at h1
    · cases h1; exact hx
    · obtain ⟨z, hz, -, e⟩ := mem_of_mget h1
      rw [← e]
      exact h.pen z hz, h.ui⟩
theorem Dp.putU {W W' : World} {d : Dw} {c : Dc} {es : Ents Pf Pn} {ce : Nat} {us : Ents Pf Unit} {cu : Nat} (h : Dp W d c es ce us cu) {p : Pf} (hp : 0 ≤ p.1 ∧ p.1 < 4294967296) (hm : MB MUn d.bu (mput us cu p ()) (mclk us cu p) W') (hk : Ko W d.bu W') : Dp W' d c es ce (mput us cu p ()) (mclk us cu p) :=
  ⟨h.box.blk (hk.block _ h.ne.2.1), h.pm.blk (hk.block _ h.ne.2.2), hm, h.eok, mput_ok h.uok p (), h.ne, h.cok, h.pen, fun y hy => by
    have h1 := mget_of_mem (mput_ok h.uok p ()) hy
    rw [mput_get] at h1
    split at h1
    · rename_i e; rw [e]; exact hp
    · obtain ⟨z, hz, e, -⟩ := mem_of_mget h1
      rw [← e]
      exact h.ui z hz⟩
structure FlPost (w : World) (d : Dw) (c : Dc) (es : Ents Pf Pn) (ce : Nat) (us : Ents Pf Unit) (cu : Nat) (p : Pf) (what now : Int) (e : Ending) (w' : World) : Prop where
  e : e = .returned (.int .i64 (chkP c es p what now))
  k : Kd w w' d
  no : chkP c es p what now ≠ 0 → Dp w' d c es ce us cu
  ok : chkP c es p what now = 0 → Dp w' d (clkD c now.toNat) (flE c es ce p now.toNat (valP c (mget es) p what now.toNat) (hldP c (mget es) p what now.toNat)) (flC c es ce p now.toNat (valP c (mget es) p what now.toNat)) (flU us cu p (hldP c (mget es) p what now.toNat)) (flD us cu p (hldP c (mget es) p what now.toNat))
theorem chk_ok {c : Dc} {es : Ents Pf Pn} {p : Pf} {what now : Int} (h : chkP c es p what now = 0) : (c.clock : Int) ≤ now ∧ now ≤ 1099511627776 := by
  unfold chkP at h
  split at h
  · cases h
  · split at h
    · cases h
    · split at h
      · cases h
      · rename_i h5; exact Decidable.not_not.1 h5
set_option maxRecDepth 100000 in
set_option maxHeartbeats 16000000 in
theorem flap_any (d : Dw) (c : Dc) (es : Ents Pf Pn) (ce : Nat) (us : Ents Pf Unit) (cu : Nat) (p : Pf) (what now : Int) (w : World) (h : Dp w d c es ce us cu) (hp : 0 ≤ p.1 ∧ p.1 < 4294967296) (hl : es.length ≤ 1000000) :
    Calls Try.prog 8 #[.pointer (some ⟨d.b, 0, none⟩), pfV p, .int .i64 what, .int .i64 now] w (FlPost w d c es ce us cu p what now) := by
  have HD : Hid (Dp w d c es ce us cu) := h
  have HL : Hid (es.length ≤ 1000000) := hl
  have HP : Hid (0 ≤ p.1 ∧ p.1 < 4294967296) := hp
  clear h hl hp
  obtain ⟨b, hb⟩ : ∃ y, d.b = y := ⟨_, rfl⟩
  rw [hb]
  have HB : Hid (d.b = b) := hb
  clear hb
  obtain ⟨r, hr⟩ : ∃ y, chkP c es p what now = y := ⟨_, rfl⟩
  have HR : Hid (chkP c es p what now = r) := hr
  clear hr
  go_enter Try.func8, Try.ntmps8
  go_wp2_with (refine list_sbox PxK rfl _ rfl (cs := pxL p) rfl ?_)
  intro w1 hx1 hb1 hz
  obtain ⟨b5, hb5⟩ : ∃ y, w.heap.size = y := ⟨_, rfl⟩
  have HX : Hid (SB PxK b5 (pxL p) w1) := by rw [← hb5]; exact hx1.out
  have HB1 : Hid (Below w.heap.size w w1) := hb1.out
  have HB5 : Hid (w.heap.size = b5) := hb5
  rw [hb5]
  clear hx1 hb1 hz hb5
  have HCK := check_any d c es ce us cu p what now w1 (HD.out.bel HB1.out) HP.out HL.out r HR.out
  rw [HB.out] at HCK
  go_wp2_with (refine list_sload PxK rfl _ rfl (b := b5) (cs := pxL p) rfl HX.out rfl ?_)
  refine HCK.mono ?_
  rintro e w2 ⟨rfl, hb2⟩
  have HX2 : Hid (SB PxK b5 (pxL p) w2) := HX.out.blk (hb2.block _ HX.out.lt)
  have HB2 : Hid (Below w.heap.size w w2) := HB1.out.trans (hb2.mono HB1.out.size)
  have HD2 : Hid (Dp w2 d c es ce us cu) := HD.out.bel HB2.out
  clear hb2 HX HB1 HCK
  by_cases h0 : r = 0
  case neg =>
    have h0b : (r != 0) = true := by simpa using h0
    have HE : Hid (FlPost w d c es ce us cu p what now (.returned (.int .i64 r)) w2) := ⟨by rw [HR.out], Kd.bel d HB2.out, fun _ => HD2.out, fun c => absurd (HR.out.symm.trans c) h0⟩
    clear h0
    go_wp2_with fail
    go_ret
    exact HE.out
  have h0b : (r != 0) = false := by simpa using h0
  have HR0 : Hid (chkP c es p what now = 0) := HR.out.trans h0
  have HNR : Hid ((c.clock : Int) ≤ now ∧ now ≤ 1099511627776) := chk_ok HR0.out
  clear h0
  obtain ⟨nw, rfl⟩ : ∃ y : Nat, now = (y : Int) := ⟨now.toNat, by have := HNR.out; omega⟩
  have HNW : Hid (c.clock ≤ nw ∧ nw ≤ 1099511627776) := by have := HNR.out; show _ ∧ _; omega
  go_wp2_with fail
  have HDD : Hid (Dp w2.drew d c es ce us cu) := HD2.out.bel (drew_bel w2)
  have HBD : Hid (Below w.heap.size w w2.drew) := HB2.out.trans ((drew_bel w2).mono HB2.out.size)
  have HS0 : Hid (SB DmK b (dmL c d.bp d.bu) w2.drew ∧ SB PxK b5 (pxL p) w2.drew) := by rw [← HB.out]; exact ⟨HDD.out.box, HX2.out.blk ((drew_bel w2).block _ HX2.out.lt)⟩
  refine wp_region_held_drew (S := fun W => SB DmK b (dmL c d.bp d.bu) W ∧ SB PxK b5 (pxL p) W) (by kernel_rfl) HS0.out (fun hHeld => ?_)
  obtain ⟨wd, hwd⟩ : ∃ y, w2.drew = y := ⟨_, rfl⟩
  rw [hwd] at HDD HBD hHeld ⊢
  clear hwd HS0 HD2 HB2 HX2
  refine wpAnyH_take (i := 0) (v := .pointer (some ⟨b, 0, none⟩)) rfl (by kernel_rfl) (by kernel_rfl) (by kernel_rfl) (fun _ _ _ h => h) (Or.inl ⟨by rfl, ?_⟩) (by assumption) ?_
  case refine_1 => intro W hSw; go_simp; try rfl
  try simp only [Act.put, List.getElem_toArray, List.getElem_cons_zero, List.getElem_cons_succ, List.setIfInBounds_toArray, List.set_cons_zero, List.set_cons_succ]
  refine wpAnyH_take (i := 1) (v := .agg (pxL p).toArray) rfl (by kernel_rfl) (by kernel_rfl) (by kernel_rfl) (fun _ _ _ h => h) (Or.inl ⟨by rfl, fun W hSw => Go.Proofs.Ytjfiahendnlcjaa.Ge.sload_run PxK (.tmp 5) rfl (b := b5) rfl hSw.2 rfl⟩) (by assumption) ?_
  try simp only [Act.put, List.getElem_toArray, List.getElem_cons_zero, List.getElem_cons_succ, List.setIfInBounds_toArray, List.set_cons_zero, List.set_cons_succ]
  refine wpAnyH_take (i := 2) (v := .int .i64 (nw : Int)) rfl (by kernel_rfl) (by kernel_rfl) (by kernel_rfl) (fun _ _ _ h => h) (Or.inl ⟨by rfl, ?_⟩) (by assumption) ?_
  case refine_1 => intro W hSw; go_simp; try rfl
  try simp only [Act.put, List.getElem_toArray, List.getElem_cons_zero, List.getElem_cons_succ, List.setIfInBounds_toArray, List.set_cons_zero, List.set_cons_succ]
  refine wpAnyH_take (i := 4) (v := .pointer (some ⟨b, 0, none⟩)) rfl (by kernel_rfl) (by kernel_rfl) (by kernel_rfl) (fun _ _ _ h => h) (Or.inl ⟨by rfl, ?_⟩) (by assumption) ?_
  case refine_1 => intro W hSw; go_simp; try rfl
  try simp only [Act.put, List.getElem_toArray, List.getElem_cons_zero, List.getElem_cons_succ, List.setIfInBounds_toArray, List.set_cons_zero, List.set_cons_succ]
  refine wpAnyH_take (i := 5) (v := .int .i64 what) rfl (by kernel_rfl) (by kernel_rfl) (by kernel_rfl) (fun _ _ _ h => h) (Or.inl ⟨by rfl, ?_⟩) (by assumption) ?_
  case refine_1 => intro W hSw; go_simp; try rfl
  try simp only [Act.put, List.getElem_toArray, List.getElem_cons_zero, List.getElem_cons_succ, List.setIfInBounds_toArray, List.set_cons_zero, List.set_cons_succ]
  refine wpAnyH_take (i := 8) (v := .pointer (some ⟨b, 0, none⟩)) rfl (by kernel_rfl) (by kernel_rfl) (by kernel_rfl) (fun _ _ _ h => h) (Or.inl ⟨by rfl, ?_⟩) (by assumption) ?_
  case refine_1 => intro W hSw; go_simp; try rfl
  try simp only [Act.put, List.getElem_toArray, List.getElem_cons_zero, List.getElem_cons_succ, List.setIfInBounds_toArray, List.set_cons_zero, List.set_cons_succ]
  refine wpAnyH_take (i := 9) (v := .pointer (some ⟨b, 0, none⟩)) rfl (by kernel_rfl) (by kernel_rfl) (by kernel_rfl) (fun _ _ _ h => h) (Or.inl ⟨by rfl, ?_⟩) (by assumption) ?_
  case refine_1 => intro W hSw; go_simp; try rfl
  try simp only [Act.put, List.getElem_toArray, List.getElem_cons_zero, List.getElem_cons_succ, List.setIfInBounds_toArray, List.set_cons_zero, List.set_cons_succ]
  refine wpAnyH_take (i := 10) (v := .pointer (some ⟨b, 0, none⟩)) rfl (by kernel_rfl) (by kernel_rfl) (by kernel_rfl) (fun _ _ _ h => h) (Or.inl ⟨by rfl, ?_⟩) (by assumption) ?_
  case refine_1 => intro W hSw; go_simp; try rfl
  try simp only [Act.put, List.getElem_toArray, List.getElem_cons_zero, List.getElem_cons_succ, List.setIfInBounds_toArray, List.set_cons_zero, List.set_cons_succ]
  refine wpAnyH_take (i := 11) (v := .pointer (some ⟨b, 3, none⟩)) rfl (by kernel_rfl) (by kernel_rfl) (by kernel_rfl) (fun _ _ _ h => h) (Or.inl ⟨by rfl, ?_⟩) (by assumption) ?_
  case refine_1 => intro W hSw; go_simp; try rfl
  try simp only [Act.put, List.getElem_toArray, List.getElem_cons_zero, List.getElem_cons_succ, List.setIfInBounds_toArray, List.set_cons_zero, List.set_cons_succ]
  refine wpAnyH_take (i := 12) (v := .int .i64 (c.most : Int)) rfl (by kernel_rfl) (by kernel_rfl) (by kernel_rfl) (fun _ _ _ h => h) (Or.inl ⟨by rfl, ?_⟩) (by assumption) ?_
  case refine_1 => intro W hSw; have k1 : W.cell? ⟨b, 3, none⟩ = some (.int .i64 (c.most : Int)) := hSw.1.cell 3; go_simp; try rfl
  try simp only [Act.put, List.getElem_toArray, List.getElem_cons_zero, List.getElem_cons_succ, List.setIfInBounds_toArray, List.set_cons_zero, List.set_cons_succ]
  refine wpAnyH_ready (rs := [3]) (by kernel_rfl) (by simp) ?_
  refine AllReadyH.cons rfl (fun K hK => ?_) AllReadyH.nil
  have HPE := pen_any d c es ce us cu p nw wd HDD.out ⟨HNW.out.1, by have := HNW.out.2; omega⟩
  rw [HB.out] at HPE
  go_simp
  refine HPE.mono ?_
  rintro e we ⟨rfl, hbe⟩
  have HBE : Hid (Below w.heap.size w we) := HBD.out.trans (hbe.mono HBD.out.size)
  have HDE : Hid (Dp we d c es ce us cu) := HDD.out.bel hbe
  refine hK.out _ _ ⟨hHeld.1.blk (hbe.block _ hHeld.1.lt), hHeld.2.blk (hbe.block _ hHeld.2.lt)⟩ (fun hHeld => ?_)
  clear hK K hbe HPE HDD HBD
  try simp only [Act.put, List.getElem_toArray, List.getElem_cons_zero, List.getElem_cons_succ, List.setIfInBounds_toArray, List.set_cons_zero, List.set_cons_succ]
  refine wpAnyH_ready (rs := [6]) (by kernel_rfl) (by simp) ?_
  refine AllReadyH.cons rfl (fun K hK => ?_) AllReadyH.nil
  go_simp
  refine (price_any b c d.bp d.bu what we hHeld.1).mono ?_
  rintro e wf ⟨rfl, hwf⟩
  rw [hwf]
  clear hwf wf
  refine hK.out _ _ hHeld (fun hHeld => ?_)
  clear hK K
  obtain ⟨pz, hpz⟩ : ∃ y, penP c (mget es) p nw = y := ⟨_, rfl⟩
  obtain ⟨qz, hqz⟩ : ∃ y, priceP c what = y := ⟨_, rfl⟩
  obtain ⟨v, hv⟩ : ∃ y, valP c (mget es) p what nw = y := ⟨_, rfl⟩
  have HV : Hid (valP c (mget es) p what nw = v) := hv
  have hpm : pz ≤ 1000000 := by rw [← hpz]; have h1 := (HDE.out.pn_ok p).1; have h2 := HDE.out.cok.most; exact Nat.le_trans (atP_le _ _ _) (by omega)
  have hqm : qz ≤ 1000000 := by rw [← hqz]; unfold priceP; have := HDE.out.cok.down; have := HDE.out.cok.change; split <;> (try split) <;> omega
  have hvm : min ((pz : Int) + (qz : Int)) (c.most : Int) = (v : Int) := by rw [← hv]; unfold valP; rw [hpz, hqz]; omega
  have hvm2 : v ≤ c.most := by rw [← hv]; unfold valP; exact Nat.min_le_right _ _
  rw [hpz, hqz]
  clear hpz hqz hv
  try simp only [Act.put, List.getElem_toArray, List.getElem_cons_zero, List.getElem_cons_succ, List.setIfInBounds_toArray, List.set_cons_zero, List.set_cons_succ]
  refine wpAnyH_take (i := 7) (v := .int .i64 ((pz : Int) + (qz : Int))) rfl (by kernel_rfl) (by kernel_rfl) (by kernel_rfl) (fun _ _ _ h => h) (Or.inl ⟨by rfl, ?_⟩) (by assumption) ?_
  case refine_1 => intro W hSw; have kw : IntKind.i64.wrap ((pz : Int) + (qz : Int)) = (pz : Int) + (qz : Int) := IntWalk.i64_in _ (by omega); go_simp; try rfl
  try simp only [Act.put, List.getElem_toArray, List.getElem_cons_zero, List.getElem_cons_succ, List.setIfInBounds_toArray, List.set_cons_zero, List.set_cons_succ]
  refine wpAnyH_take (i := 13) (v := .int .i64 (v : Int)) rfl (by kernel_rfl) (by kernel_rfl) (by kernel_rfl) (fun _ _ _ h => h) (Or.inl ⟨by rfl, ?_⟩) (by assumption) ?_
  case refine_1 => intro W hSw; rw [← hvm]; go_simp; split <;> omega
  try simp only [Act.put, List.getElem_toArray, List.getElem_cons_zero, List.getElem_cons_succ, List.setIfInBounds_toArray, List.set_cons_zero, List.set_cons_succ]
  refine wpAnyH_take (i := 14) (v := .int .i64 (v : Int)) rfl (by kernel_rfl) (by kernel_rfl) (by kernel_rfl) (fun _ _ _ h => h) (Or.inl ⟨by rfl, ?_⟩) (by assumption) ?_
  case refine_1 => intro W hSw; go_simp; try rfl
  try simp only [Act.put, List.getElem_toArray, List.getElem_cons_zero, List.getElem_cons_succ, List.setIfInBounds_toArray, List.set_cons_zero, List.set_cons_succ]
  refine wpAnyH_done (by kernel_rfl) ?_ _
  have HX3 : Hid (SB DmK b (dmL c d.bp d.bu) we ∧ SB PxK b5 (pxL p) we) := hHeld
  clear hHeld
  have HHE := held_any d c es ce us cu p nw we HDE.out ⟨HNW.out.1, by have := HNW.out.2; omega⟩
  rw [HB.out] at HHE
  obtain ⟨h1, hh1⟩ : ∃ y, heldP c (mget es) p nw = y := ⟨_, rfl⟩
  rw [hh1] at HHE
  obtain ⟨h2, hh2⟩ : ∃ y, hldP c (mget es) p what nw = y := ⟨_, rfl⟩
  have HH : Hid (hldP c (mget es) p what nw = h2) := hh2
  have HH2 : Hid ((h1 || decide (c.limit ≤ v)) = h2) := by show _ = _; rw [← hh2]; unfold hldP; rw [hh1, HV.out]
  clear hh1 hh2
  go_upto_region 5 with fail
  go_cut [11] from 12 to 67 (fun hv wx => hv = .bool h2 ∧ Below w.heap.size w wx ∧ Dp wx d c es ce us cu ∧ SB PxK b5 (pxL p) wx)
  case first =>
    go_wp2_with (refine list_sload PxK rfl _ rfl (b := b5) (cs := pxL p) rfl HX3.out.2 rfl ?_)
    refine HHE.mono ?_
    rintro e wf ⟨rfl, hbf⟩
    have HBF : Hid (Below w.heap.size w wf) := HBE.out.trans (hbf.mono HBE.out.size)
    have HDF : Hid (Dp wf d c es ce us cu) := HDE.out.bel hbf
    have HXF : Hid (SB PxK b5 (pxL p) wf) := HX3.out.2.blk (hbf.block _ HX3.out.2.lt)
    have HXG : Hid (SB DmK b (dmL c d.bp d.bu) wf) := HX3.out.1.blk (hbf.block _ HX3.out.1.lt)
    have c1 : wf.cell? ⟨b, 1, none⟩ = some (.int .i64 (c.limit : Int)) := HXG.out.cell 1
    clear hbf HHE HBE HDE HX3
    cases h1
    case true =>
      have HE : Hid (true = h2) := by show _ = _; rw [← HH2.out]; rfl
      go_wp2_with fail
      go_meet
      exact ⟨by rw [← HE.out], HBF.out, HDF.out, HXF.out⟩
    case false =>
      by_cases hlm : c.limit ≤ v
      · have hli : (c.limit : Int) ≤ (v : Int) := by omega
        have HE : Hid (true = h2) := by show _ = _; rw [← HH2.out, decide_eq_true hlm]; rfl
        go_wp2_with fail
        go_meet
        exact ⟨by rw [← HE.out], HBF.out, HDF.out, HXF.out⟩
      · have hli : ¬ (c.limit : Int) ≤ (v : Int) := by omega
        have HE : Hid (false = h2) := by show _ = _; rw [← HH2.out, decide_eq_false hlm]; rfl
        go_wp2_with fail
        go_meet
        exact ⟨by rw [← HE.out], HBF.out, HDF.out, HXF.out⟩
  case rest =>
    obtain ⟨rfl, g1, g2, g3⟩ := hcut
    obtain ⟨wx, hwx⟩ : ∃ y, wc = y := ⟨_, rfl⟩
    rw [hwx] at g1 g2 g3 ⊢
    have HB6 : Hid (Below w.heap.size w wx) := g1
    have HX6 : Hid (SB PxK b5 (pxL p) wx) := g3
    have HMV := move_any d c es ce us cu nw wx g2 HNW.out
    rw [HB.out] at HMV
    clear hwx g1 g2 g3 HHE HBE HDE HX3
    go_wp2_with fail
    refine HMV.mono ?_
    rintro e w7 ⟨⟨u, rfl⟩, hd7, hk7⟩
    obtain ⟨el, hel⟩ : ∃ y, liveP c es nw = y := ⟨_, rfl⟩
    rw [hel] at hd7
    obtain ⟨c', hc'⟩ : ∃ y, clkD c nw = y := ⟨_, rfl⟩
    have HCC : Hid (clkD c nw = c' ∧ c'.most = c.most ∧ c'.clock = nw) := by rw [← hc']; exact ⟨rfl, rfl, rfl⟩
    rw [hc'] at hd7
    have HEL : Hid (liveP c es nw = el) := hel
    have HD7 : Hid (Dp w7 d c' el ce us cu) := hd7
    have HK7 : Hid (Kd w w7 d) := (Kd.bel d HB6.out).trans hk7
    have HX7 : Hid (SB PxK b5 (pxL p) w7) := HX6.out.blk (hk7.blk _ HX6.out.lt (fun hf => by have := HD.out.lt _ hf; have := HB5.out; omega))
    clear hel hc' hd7 hk7 HMV HB6 HX6
    go_upto_if 51 with fail
    go_cut [51] from 52 to 67 (fun _ wx => Dp wx d c' (flE c es ce p nw v h2) (flC c es ce p nw v) us cu ∧ Kd w wx d ∧ SB PxK b5 (pxL p) wx)
    case first =>
      by_cases hv0 : 0 < v
      case neg =>
        have hvi : ¬ (0 : Int) < (v : Int) := by omega
        have HE : Hid (flE c es ce p nw v h2 = el ∧ flC c es ce p nw v = ce) := by unfold flE flC; rw [if_neg hv0, if_neg hv0]; exact ⟨HEL.out, rfl⟩
        go_wp2_with fail
        go_meet
        rw [HE.out.1, HE.out.2]
        exact ⟨HD7.out, HK7.out, HX7.out⟩
      case pos =>
        have hvi : (0 : Int) < (v : Int) := by omega
        have HE : Hid (flE c es ce p nw v h2 = mput el ce p ⟨v, nw, h2⟩ ∧ flC c es ce p nw v = mclk el ce p) := by unfold flE flC; rw [if_pos hv0, if_pos hv0, HEL.out]; exact ⟨rfl, rfl⟩
        go_wp2_with fail
        have HDD : Hid (Dp w7.drew d c' el ce us cu) := HD7.out.bel (drew_bel w7)
        have HKD : Hid (Kd w w7.drew d) := HK7.out.trans (Kd.bel d (drew_bel w7))
        have HS0 : Hid (SB DmK b (dmL c' d.bp d.bu) w7.drew ∧ SB PxK b5 (pxL p) w7.drew) := by rw [← HB.out]; exact ⟨HDD.out.box, HX7.out.blk ((drew_bel w7).block _ HX7.out.lt)⟩
        refine wp_region_held_drew (S := fun W => SB DmK b (dmL c' d.bp d.bu) W ∧ SB PxK b5 (pxL p) W) (by kernel_rfl) HS0.out (fun hHeld => ?_)
        obtain ⟨wd2, hwd⟩ : ∃ y, w7.drew = y := ⟨_, rfl⟩
        rw [hwd] at HDD HKD hHeld ⊢
        clear hwd HS0 HD7 HK7 HX7
        refine wpAnyH_take (i := 0) (v := .pointer (some ⟨b, 0, none⟩)) rfl (by kernel_rfl) (by kernel_rfl) (by kernel_rfl) (fun _ _ _ h => h) (Or.inl ⟨by rfl, ?_⟩) (by assumption) ?_
        case refine_1 => intro W hSw; go_simp; try rfl
        try simp only [Act.put, List.getElem_toArray, List.getElem_cons_zero, List.getElem_cons_succ, List.setIfInBounds_toArray, List.set_cons_zero, List.set_cons_succ]
        refine wpAnyH_take (i := 1) (v := .pointer (some ⟨b, 0, none⟩)) rfl (by kernel_rfl) (by kernel_rfl) (by kernel_rfl) (fun _ _ _ h => h) (Or.inl ⟨by rfl, ?_⟩) (by assumption) ?_
        case refine_1 => intro W hSw; go_simp; try rfl
        try simp only [Act.put, List.getElem_toArray, List.getElem_cons_zero, List.getElem_cons_succ, List.setIfInBounds_toArray, List.set_cons_zero, List.set_cons_succ]
        refine wpAnyH_take (i := 2) (v := .pointer (some ⟨b, 7, none⟩)) rfl (by kernel_rfl) (by kernel_rfl) (by kernel_rfl) (fun _ _ _ h => h) (Or.inl ⟨by rfl, ?_⟩) (by assumption) ?_
        case refine_1 => intro W hSw; go_simp; try rfl
        try simp only [Act.put, List.getElem_toArray, List.getElem_cons_zero, List.getElem_cons_succ, List.setIfInBounds_toArray, List.set_cons_zero, List.set_cons_succ]
        refine wpAnyH_take (i := 3) (v := .map (some d.bp)) rfl (by kernel_rfl) (by kernel_rfl) (by kernel_rfl) (fun _ _ _ h => h) (Or.inl ⟨by rfl, ?_⟩) (by assumption) ?_
        case refine_1 => intro W hSw; have k1 : W.cell? ⟨b, 7, none⟩ = some (.map (some d.bp)) := hSw.1.cell 7; go_simp; try rfl
        try simp only [Act.put, List.getElem_toArray, List.getElem_cons_zero, List.getElem_cons_succ, List.setIfInBounds_toArray, List.set_cons_zero, List.set_cons_succ]
        refine wpAnyH_take (i := 4) (v := .agg (pxL p).toArray) rfl (by kernel_rfl) (by kernel_rfl) (by kernel_rfl) (fun _ _ _ h => h) (Or.inl ⟨by rfl, fun W hSw => Go.Proofs.Ytjfiahendnlcjaa.Ge.sload_run PxK (.tmp 5) rfl (b := b5) rfl hSw.2 rfl⟩) (by assumption) ?_
        try simp only [Act.put, List.getElem_toArray, List.getElem_cons_zero, List.getElem_cons_succ, List.setIfInBounds_toArray, List.set_cons_zero, List.set_cons_succ]
        refine wpAnyH_take (i := 5) (v := .int .i64 (v : Int)) rfl (by kernel_rfl) (by kernel_rfl) (by kernel_rfl) (fun _ _ _ h => h) (Or.inl ⟨by rfl, ?_⟩) (by assumption) ?_
        case refine_1 => intro W hSw; go_simp; try rfl
        try simp only [Act.put, List.getElem_toArray, List.getElem_cons_zero, List.getElem_cons_succ, List.setIfInBounds_toArray, List.set_cons_zero, List.set_cons_succ]
        refine wpAnyH_take (i := 6) (v := .int .i64 (nw : Int)) rfl (by kernel_rfl) (by kernel_rfl) (by kernel_rfl) (fun _ _ _ h => h) (Or.inl ⟨by rfl, ?_⟩) (by assumption) ?_
        case refine_1 => intro W hSw; go_simp; try rfl
        try simp only [Act.put, List.getElem_toArray, List.getElem_cons_zero, List.getElem_cons_succ, List.setIfInBounds_toArray, List.set_cons_zero, List.set_cons_succ]
        refine wpAnyH_take (i := 7) (v := .bool h2) rfl (by kernel_rfl) (by kernel_rfl) (by kernel_rfl) (fun _ _ _ h => h) (Or.inl ⟨by rfl, ?_⟩) (by assumption) ?_
        case refine_1 => intro W hSw; go_simp; try rfl
        try simp only [Act.put, List.getElem_toArray, List.getElem_cons_zero, List.getElem_cons_succ, List.setIfInBounds_toArray, List.set_cons_zero, List.set_cons_succ]
        refine wpAnyH_take (i := 8) (v := pnV ⟨v, nw, h2⟩) rfl (by kernel_rfl) (by kernel_rfl) (by kernel_rfl) (fun _ _ _ h => h) (Or.inl ⟨by rfl, ?_⟩) (by assumption) ?_
        case refine_1 => intro W hSw; go_simp; try rfl
        try simp only [Act.put, List.getElem_toArray, List.getElem_cons_zero, List.getElem_cons_succ, List.setIfInBounds_toArray, List.set_cons_zero, List.set_cons_succ]
        refine wpAnyH_ready (rs := [9]) (by kernel_rfl) (by simp) ?_
        refine AllReadyH.cons rfl (fun K hK => ?_) AllReadyH.nil
        refine put_step MPn (.tmp 55) (.tmp 56) (.tmp 60) rfl (b := d.bp) (c := ce) (es := el) (k := p) (u := ⟨v, nw, h2⟩) rfl rfl rfl HDD.out.pm rfl (fun wg hmb hkg => ?_)
        have HDG : Hid (Dp wg d c' (mput el ce p ⟨v, nw, h2⟩) (mclk el ce p) us cu) := HDD.out.putE ⟨hv0, by rw [HCC.out.2.1]; exact hvm2, by rw [HCC.out.2.2]; exact Nat.le_refl _⟩ hmb.out hkg.out
        have HKG : Hid (Kd w wg d) := HKD.out.kov hkg.out (.inl (.inr (.inl rfl)))
        have HNB : Hid (b5 ≠ d.bp) := fun e => by have h5 := HD.out.lt d.bp (.inr (.inl rfl)); have := HB5.out; omega
        have HXG : Hid (SB PxK b5 (pxL p) wg) := hHeld.2.blk (hkg.out.block _ HNB.out)
        refine hK.out _ _ ⟨hHeld.1.blk (hkg.out.block _ (by rw [← HB.out]; exact HDD.out.ne.1)), HXG.out⟩ (fun hHeld => ?_)
        clear hK K hmb hkg HDD HKD
        try simp only [Act.put, List.getElem_toArray, List.getElem_cons_zero, List.getElem_cons_succ, List.setIfInBounds_toArray, List.set_cons_zero, List.set_cons_succ]
        refine wpAnyH_done (by kernel_rfl) ?_ _
        clear hHeld
        go_wp2_with fail
        go_meet
        rw [HE.out.1, HE.out.2]
        exact ⟨HDG.out, HKG.out, HXG.out⟩
    case rest =>
      obtain ⟨g1, g2, g3⟩ := hcut
      obtain ⟨wx2, hwx⟩ : ∃ y, wc = y := ⟨_, rfl⟩
      rw [hwx] at g1 g2 g3 ⊢
      obtain ⟨e8, he8⟩ : ∃ y, flE c es ce p nw v h2 = y := ⟨_, rfl⟩
      obtain ⟨ce8, hce8⟩ : ∃ y, flC c es ce p nw v = y := ⟨_, rfl⟩
      rw [he8, hce8] at g1
      have HE8 : Hid (flE c es ce p nw v h2 = e8 ∧ flC c es ce p nw v = ce8) := ⟨he8, hce8⟩
      have HD8 : Hid (Dp wx2 d c' e8 ce8 us cu) := g1
      have HK8 : Hid (Kd w wx2 d) := g2
      have HX8 : Hid (SB PxK b5 (pxL p) wx2) := g3
      clear hwx g1 g2 g3 he8 hce8 HD7 HK7 HX7
      have HFIN : Hid (∀ wy us' cu', flU us cu p h2 = us' → flD us cu p h2 = cu' → Dp wy d c' e8 ce8 us' cu' → Kd w wy d → FlPost w d c es ce us cu p what (nw : Int) (.returned (.int .i64 0)) wy) := fun wy us' cu' e1 e2 g1 g2 => ⟨by rw [HR0.out], g2, fun c => absurd HR0.out c, fun _ => by rw [Int.toNat_natCast, HV.out, HH.out, HE8.out.1, HE8.out.2, e1, e2, HCC.out.1]; exact g1⟩
      cases h2
      case false =>
        have HE : Hid (FlPost w d c es ce us cu p what (nw : Int) (.returned (.int .i64 0)) wx2) := HFIN.out wx2 us cu rfl rfl HD8.out HK8.out
        go_wp2_with fail
        go_ret
        exact HE.out
      case true =>
        go_wp2_with fail
        have HDD : Hid (Dp wx2.drew d c' e8 ce8 us cu) := HD8.out.bel (drew_bel wx2)
        have HKD : Hid (Kd w wx2.drew d) := HK8.out.trans (Kd.bel d (drew_bel wx2))
        have HS0 : Hid (SB DmK b (dmL c' d.bp d.bu) wx2.drew ∧ SB PxK b5 (pxL p) wx2.drew) := by rw [← HB.out]; exact ⟨HDD.out.box, HX8.out.blk ((drew_bel wx2).block _ HX8.out.lt)⟩
        refine wp_region_held_drew (S := fun W => SB DmK b (dmL c' d.bp d.bu) W ∧ SB PxK b5 (pxL p) W) (by kernel_rfl) HS0.out (fun hHeld => ?_)
        obtain ⟨wd3, hwd⟩ : ∃ y, wx2.drew = y := ⟨_, rfl⟩
        rw [hwd] at HDD HKD hHeld ⊢
        clear hwd HS0 HD8 HK8 HX8
        refine wpAnyH_take (i := 0) (v := .pointer (some ⟨b, 0, none⟩)) rfl (by kernel_rfl) (by kernel_rfl) (by kernel_rfl) (fun _ _ _ h => h) (Or.inl ⟨by rfl, ?_⟩) (by assumption) ?_
        case refine_1 => intro W hSw; go_simp; try rfl
        try simp only [Act.put, List.getElem_toArray, List.getElem_cons_zero, List.getElem_cons_succ, List.setIfInBounds_toArray, List.set_cons_zero, List.set_cons_succ]
        refine wpAnyH_take (i := 1) (v := .pointer (some ⟨b, 0, none⟩)) rfl (by kernel_rfl) (by kernel_rfl) (by kernel_rfl) (fun _ _ _ h => h) (Or.inl ⟨by rfl, ?_⟩) (by assumption) ?_
        case refine_1 => intro W hSw; go_simp; try rfl
        try simp only [Act.put, List.getElem_toArray, List.getElem_cons_zero, List.getElem_cons_succ, List.setIfInBounds_toArray, List.set_cons_zero, List.set_cons_succ]
        refine wpAnyH_take (i := 2) (v := .pointer (some ⟨b, 8, none⟩)) rfl (by kernel_rfl) (by kernel_rfl) (by kernel_rfl) (fun _ _ _ h => h) (Or.inl ⟨by rfl, ?_⟩) (by assumption) ?_
        case refine_1 => intro W hSw; go_simp; try rfl
        try simp only [Act.put, List.getElem_toArray, List.getElem_cons_zero, List.getElem_cons_succ, List.setIfInBounds_toArray, List.set_cons_zero, List.set_cons_succ]
        refine wpAnyH_take (i := 3) (v := .map (some d.bu)) rfl (by kernel_rfl) (by kernel_rfl) (by kernel_rfl) (fun _ _ _ h => h) (Or.inl ⟨by rfl, ?_⟩) (by assumption) ?_
        case refine_1 => intro W hSw; have k1 : W.cell? ⟨b, 8, none⟩ = some (.map (some d.bu)) := hSw.1.cell 8; go_simp; try rfl
        try simp only [Act.put, List.getElem_toArray, List.getElem_cons_zero, List.getElem_cons_succ, List.setIfInBounds_toArray, List.set_cons_zero, List.set_cons_succ]
        refine wpAnyH_take (i := 4) (v := .agg (pxL p).toArray) rfl (by kernel_rfl) (by kernel_rfl) (by kernel_rfl) (fun _ _ _ h => h) (Or.inl ⟨by rfl, fun W hSw => Go.Proofs.Ytjfiahendnlcjaa.Ge.sload_run PxK (.tmp 5) rfl (b := b5) rfl hSw.2 rfl⟩) (by assumption) ?_
        try simp only [Act.put, List.getElem_toArray, List.getElem_cons_zero, List.getElem_cons_succ, List.setIfInBounds_toArray, List.set_cons_zero, List.set_cons_succ]
        refine wpAnyH_take (i := 5) (v := .agg #[]) rfl (by kernel_rfl) (by kernel_rfl) (by kernel_rfl) (fun _ _ _ h => h) (Or.inl ⟨by rfl, ?_⟩) (by assumption) ?_
        case refine_1 => intro W hSw; go_simp; try rfl
        try simp only [Act.put, List.getElem_toArray, List.getElem_cons_zero, List.getElem_cons_succ, List.setIfInBounds_toArray, List.set_cons_zero, List.set_cons_succ]
        refine wpAnyH_ready (rs := [6]) (by kernel_rfl) (by simp) ?_
        refine AllReadyH.cons rfl (fun K hK => ?_) AllReadyH.nil
        refine put_step MUn (.tmp 65) (.tmp 66) (.tmp 67) rfl (b := d.bu) (c := cu) (es := us) (k := p) (u := ()) rfl rfl rfl HDD.out.um rfl (fun wg hmb hkg => ?_)
        have HDG : Hid (Dp wg d c' e8 ce8 (mput us cu p ()) (mclk us cu p)) := HDD.out.putU HP.out hmb.out hkg.out
        have HKG : Hid (Kd w wg d) := HKD.out.kov hkg.out (.inl (.inr (.inr rfl)))
        have HNB : Hid (b5 ≠ d.bu) := fun e => by have h5 := HD.out.lt d.bu (.inr (.inr rfl)); have := HB5.out; omega
        refine hK.out _ _ ⟨hHeld.1.blk (hkg.out.block _ (by rw [← HB.out]; exact HDD.out.ne.2.1)), hHeld.2.blk (hkg.out.block _ HNB.out)⟩ (fun hHeld => ?_)
        clear hK K hmb hkg HDD HKD
        try simp only [Act.put, List.getElem_toArray, List.getElem_cons_zero, List.getElem_cons_succ, List.setIfInBounds_toArray, List.set_cons_zero, List.set_cons_succ]
        refine wpAnyH_done (by kernel_rfl) ?_ _
        clear hHeld
        have HE : Hid (FlPost w d c es ce us cu p what (nw : Int) (.returned (.int .i64 0)) wg) := HFIN.out wg _ _ rfl rfl HDG.out HKG.out
        go_wp2_with fail
        go_ret
        exact HE.out
end Go.Proofs.Ytjfiahendnlcjaa.Da
