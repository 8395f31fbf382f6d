/- The damper: Freed. -/
import Derived.Test.YtjfiahendnlcjaaDaS
namespace Go.Proofs.Ytjfiahendnlcjaa.Da
open Go.ChangeShapes Go.WideShapes Go.ChangeAt Go.RowKit Go.Joins Go.Deep Go.Shelf Go.Proofs.Ytjfiahendnlcjaa.Ge Go.Proofs.Ytjfiahendnlcjaa.PM Go.Proofs.Ytjfiahendnlcjaa.Ask
set_option linter.unusedVariables false
set_option linter.unusedSimpArgs false

theorem pbuild_run {o : Oper} (x : Operand) (ho : o.op = .buildSlice 43 1 #[(0, x)]) {ρ : Operand → Value} {p : Pf} {W : World} (hx : ρ x = .agg (pxL p).toArray) : (execOp ρ o).run Try.prog W = .ok (.value (.slice (some ⟨W.heap.size, 0, none⟩) 1 1)) (W.alloc (Obj.cells (pxL p).toArray 35)) := by
  unfold pxL at hx
  unfold execOp
  rw [ho]
  simp [go_sem, hx, pxL]
theorem list_pbuild {ops : Array Oper} {rest : List Oper} {o : Oper} {ac : Act} {Q : Exit → Act → World → Prop} {W : World} (hgd : o.guard = none) (x : Operand) (ho : o.op = .buildSlice 43 1 #[(0, x)]) {p : Pf} (hx : ac.eval x = .agg (pxL p).toArray)
    (k : wpList Try.prog ops Q rest (ac.put o.dst (.slice (some ⟨W.heap.size, 0, none⟩) 1 1)) (W.alloc (Obj.cells (pxL p).toArray 35))) : wpList Try.prog ops Q (o :: rest) ac W := by
  refine wpList_plain hgd fun K hK => ?_
  unfold Oper.wp
  rw [pbuild_run x ho hx]
  exact hK _ _ k
/-- is it free? -/
def freeX (c : Dc) (f : Pf → Option Pn) (t : Nat) (x : Pf × Unit × Nat) : Bool := !heldP c f x.1 t
def Srt (ys : List (Int × Int)) : Prop := ys.Pairwise (fun p q => p.1 < q.1 ∨ (p.1 = q.1 ∧ p.2 ≤ q.2))
/-- within Freed -/
structure FI (w : World) (N : Nat) (d : Dw) (c : Dc) (es : Ents Pf Pn) (ce : Nat) (us : Ents Pf Unit) (cu : Nat) (t r : Nat) (ov : Value) (W : World) : Prop where
  it : ∃ seen vs rs, IB r d.bu cu seen cu W ∧ Rg us seen vs rs ∧ Dp W d c es ce (lv us (freeX c (mget es) t) seen) cu ∧ OwnL E2 N W ov ((vs.filter (freeX c (mget es) t)).map (·.1))
  rn : w.heap.size ≤ r
  nr : ∀ g, ov.ownBlock = some g → g ≠ r
  str : Below 0 w W
  blk : ∀ g, g < w.heap.size → ¬ fpD d g → W.heap[g]? = w.heap[g]?
structure FrPost (w : World) (d : Dw) (c : Dc) (es : Ents Pf Pn) (ce : Nat) (us : Ents Pf Unit) (cu : Nat) (t : Nat) (e : Ending) (w' : World) : Prop where
  a : ∃ va n cap ys, e = .returned (.slice va n cap) ∧ ys.length = n ∧ n ≤ 1000000 ∧ Lst E2 w' va ys ∧ Srt ys ∧ ys.Perm ((us.filter (freeX (clkD c t) (mget (liveP c es t)) t)).map (·.1)) ∧ (∀ g o s, va = some ⟨g, o, s⟩ → o = 0 ∧ s = none ∧ w.heap.size ≤ g ∧ g < w'.heap.size ∧ (∀ k, k < n * 2 → w'.frozen? ⟨g, k, none⟩ = false) ∧ n ≤ cap)
  k : Kd w w' d
  dp : Dp w' d (clkD c t) (liveP c es t) ce (us.filter (fun x => !freeX (clkD c t) (mget (liveP c es t)) t x)) cu
set_option maxRecDepth 100000 in
set_option maxHeartbeats 16000000 in
theorem freed_any (d : Dw) (c : Dc) (es : Ents Pf Pn) (ce : Nat) (us : Ents Pf Unit) (cu : Nat) (now : Int) (t : Nat) (w : World) (h : Dp w d c es ce us cu) (ht : max (c.clock : Int) (min now 1099511627776) = (t : Int)) (hl : us.length ≤ 1000000) :
    Calls Try.prog 14 #[.pointer (some ⟨d.b, 0, none⟩), .int .i64 now] w (FrPost w d c es ce us cu t) := by
  have HD : Hid (Dp w d c es ce us cu) := h
  have HL : Hid (us.length ≤ 1000000) := hl
  have HT : Hid (c.clock ≤ t ∧ t ≤ 1099511627776) := by have := h.cok.clock; show _ ∧ _; omega
  clear h hl
  obtain ⟨b, hb⟩ : ∃ y, d.b = y := ⟨_, rfl⟩
  rw [hb]
  have HB : Hid (d.b = b) := hb
  clear hb
  have HX0 : Hid (SB DmK b (dmL c d.bp d.bu) w) := by rw [← HB.out]; exact HD.out.box
  have c6 : w.cell? ⟨b, 6, none⟩ = some (.int .i64 (c.clock : Int)) := HX0.out.cell 6
  have HMV := move_any d c es ce us cu t w HD.out HT.out
  rw [HB.out] at HMV
  go_enter Try.func14, Try.ntmps14
  go_wp2_with fail
  refine HMV.mono ?_
  rintro e w2 ⟨⟨u, rfl⟩, hd2, hk2⟩
  have HFD : Hid (∀ (es' : Ents Pf Pn) (c' : Dc), liveP c es t = es' → clkD c t = c' → ∀ va n cap ys wy, ys.length = n → n ≤ 1000000 → Lst E2 wy va ys → Srt ys → ys.Perm ((us.filter (freeX c' (mget es') t)).map (·.1)) → (∀ g o s, va = some ⟨g, o, s⟩ → o = 0 ∧ s = none ∧ w.heap.size ≤ g ∧ g < wy.heap.size ∧ (∀ k, k < n * 2 → wy.frozen? ⟨g, k, none⟩ = false) ∧ n ≤ cap) → Kd w wy d → Dp wy d c' es' ce (us.filter (fun x => !freeX c' (mget es') t x)) cu → FrPost w d c es ce us cu t (.returned (.slice va n cap)) wy) := fun es' c' e1 e2 va n cap ys wy h1 h2 h3 h4 h5 h6 h7 h8 => ⟨⟨va, n, cap, ys, rfl, h1, h2, h3, h4, by rw [e1, e2]; exact h5, h6⟩, h7, by rw [e1, e2]; exact h8⟩
  obtain ⟨el, hel⟩ : ∃ y, liveP c es t = y := ⟨_, rfl⟩
  obtain ⟨c', hc'⟩ : ∃ y, clkD c t = y := ⟨_, rfl⟩
  have HCT : Hid (c'.clock = t) := by rw [← hc']; rfl
  rw [hel, hc'] at hd2
  have HFE := HFD.out el c' hel hc'
  have HFE2 : Hid (∀ va n cap ys wy, ys.length = n → n ≤ 1000000 → Lst E2 wy va ys → Srt ys → ys.Perm ((us.filter (freeX c' (mget el) t)).map (·.1)) → (∀ g o s, va = some ⟨g, o, s⟩ → o = 0 ∧ s = none ∧ w.heap.size ≤ g ∧ g < wy.heap.size ∧ (∀ k, k < n * 2 → wy.frozen? ⟨g, k, none⟩ = false) ∧ n ≤ cap) → Kd w wy d → Dp wy d c' el ce (us.filter (fun x => !freeX c' (mget el) t x)) cu → FrPost w d c es ce us cu t (.returned (.slice va n cap)) wy) := HFE
  have HD2 : Hid (Dp w2 d c' el ce us cu) := hd2
  have HK2 : Hid (Kd w w2 d) := hk2
  clear hel hc' hd2 hk2 HMV HFD HFE c6 HX0 ht
  have HX2 : Hid (SB DmK b (dmL c' d.bp d.bu) w2) := by rw [← HB.out]; exact HD2.out.box
  have c8 : w2.cell? ⟨b, 8, none⟩ = some (.map (some d.bu)) := HX2.out.cell 8
  go_wp2_with (refine list_range MUn rfl _ rfl (b := d.bu) (es := us) (c := cu) rfl HD2.out.um ?_)
  intro r w1 hr hib hb1
  have HLT0 : Hid (∀ g, fpD d g → g < w2.heap.size) := HD2.out.lt
  have HUO : Hid (Mok us cu) := HD2.out.uok
  have HUI : Hid (∀ x ∈ us, 0 ≤ x.1.1 ∧ x.1.1 < 4294967296) := HD2.out.ui
  have HSZ : Hid (w.heap.size ≤ w2.heap.size) := HK2.out.str.size
  have HI0 : Hid (FI w2 w2.heap.size d c' el ce us cu t r (.slice none 0 0) w1) := ⟨⟨#[], [], us, hib.out, Rg.nil us, by rw [lv_nil]; exact HD2.out.bel hb1.out, OwnL.nil _ _ _⟩, by have := hr.out; omega, (fun g e => by cases e), hb1.out.mono (Nat.zero_le _), fun g hg _ => hb1.out.block g hg⟩
  clear hr hib hb1 c8 HX2
  go_wp2_with fail
  go_loopw [5] (fun ov wr => FI w2 w2.heap.size d c' el ce us cu t r ov wr) (fun _ wr => us.length - sn wr r)
  case atStart => exact HI0.out
  case round =>
    have HC : Hid (FI w2 w2.heap.size d c' el ce us cu t r u5 wr) := hrel
    clear hrel HI0
    obtain ⟨wz, hwz⟩ : ∃ y, wr = y := ⟨_, rfl⟩
    rw [hwz] at HC ⊢
    clear hwz
    obtain ⟨seen, vs, rs, hib, hrg, hdp, hown⟩ := HC.out.it
    obtain ⟨ul, hul⟩ : ∃ y, lv us (freeX c' (mget el) t) seen = y := ⟨_, rfl⟩
    rw [hul] at hdp
    obtain ⟨xs, hxs⟩ : ∃ y, (vs.filter (freeX c' (mget el) t)).map (·.1) = y := ⟨_, rfl⟩
    rw [hxs] at hown
    have HXS : Hid ((vs.filter (freeX c' (mget el) t)).map (·.1) = xs) := hxs
    have HEL : Hid (lv us (freeX c' (mget el) t) seen = ul) := hul
    have HIB : Hid (IB r d.bu cu seen cu wz) := hib
    have HRG : Hid (Rg us seen vs rs) := hrg
    have HDP : Hid (Dp wz d c' el ce ul cu) := hdp
    have HSN : Hid (sn wz r = seen.size) := sn_of hib
    have HKZ : Hid (Kd w2 wz d) := ⟨HC.out.str, HC.out.blk⟩
    have HRN : Hid (w2.heap.size ≤ r) := HC.out.rn
    have HNR : Hid (∀ g, u5.ownBlock = some g → g ≠ r) := HC.out.nr
    have hxl : xs.length ≤ 1000000 := by
      rw [← hxs, List.length_map]
      have h1 := List.length_filter_le (freeX c' (mget el) t) vs
      have h2 := hrg.perm.length_eq
      rw [List.length_append] at h2
      have := HL.out
      omega
    obtain ⟨oa, oc, hov, hocl, hon, hog⟩ := hown.form
    obtain ⟨n, hn⟩ : ∃ y, xs.length = y := ⟨_, rfl⟩
    rw [hn] at hov hocl hon
    have HNX : Hid (xs.length = n) := hn
    subst hov
    have HOW : Hid (OwnL E2 w2.heap.size wz (.slice oa n oc) xs) := hown
    have HOG : Hid (∀ b o, oa = some ⟨b, o, none⟩ → o = 0 ∧ w2.heap.size ≤ b ∧ b < wz.heap.size) := hog
    have HON : Hid (oa = none → n = 0 ∧ oc = 0) := hon
    clear hib hrg hdp hul hxs hown hog hn hon HC
    go_wp2_with (refine list_next MUn rfl _ rfl (r := r) (b := d.bu) (since := cu) (c0 := cu) (c := cu) (seen := seen) (es := ul) rfl HIB.out HDP.out.um HDP.out.uok.lt (Nat.le_refl _) ?_ ?_)
    case' refine_1 =>
      intro hall
      have hal2 : ∀ x ∈ lv us (freeX c' (mget el) t) seen, x.2.2 ∈ seen := by rw [HEL.out]; exact hall.out
      have HUF : Hid (us.filter (fun x => !freeX c' (mget el) t x) = ul) := by show _ = _; rw [← HEL.out]; exact (lv_done _ _ hal2).symm
      have HPM : Hid (xs.Perm ((us.filter (freeX c' (mget el) t)).map (·.1))) := by
        rw [← HXS.out]
        exact ((HRG.out.done HUO.out (lv_all hal2)).filter _).map _
      have HKW : Hid (Kd w wz d) := HK2.out.trans HKZ.out
      clear hall hal2 HRG HXS HEL HIB HKZ HK2
      cases oa with
      | none =>
        obtain ⟨rfl, rfl⟩ := HON.out rfl
        have hx0 : xs = [] := List.length_eq_zero_iff.1 HNX.out
        subst hx0
        have HE : Hid (FrPost w d c es ce us cu t (.returned (.slice none 0 0)) wz) := HFE2.out none 0 0 [] wz rfl (Nat.zero_le _) ⟨by simp, fun i hi => absurd hi (by simp)⟩ List.Pairwise.nil HPM.out (fun g o s e => by cases e) HKW.out (by rw [HUF.out]; exact HDP.out)
        have hcon := AnyF.slices_SortFunc_none Try.sortPf none 0 (.func (.func 29) #[] #[]) wz
        change Calls Try.prog 28 _ _ _ at hcon
        go_wp2_with fail
        refine hcon.mono ?_
        rintro e w3 ⟨rfl, hw3⟩
        rw [hw3]
        clear hw3 w3 hcon
        go_wp2_with fail
        go_ret
        exact HE.out
      | some ad =>
        obtain ⟨g, og, sp⟩ := ad
        have hgf : og = 0 ∧ sp = none := by
          rcases HOW.out.row.2 with ⟨h1, -⟩ | ⟨g', c', cur, h1, -⟩
          · cases h1
          · cases h1; exact ⟨rfl, rfl⟩
        obtain ⟨rfl, rfl⟩ := hgf
        obtain ⟨-, hg1, hg2⟩ := HOG.out g 0 rfl
        obtain ⟨fa, fc, hfv, hfl, -⟩ := HOW.out.form
        have hcap : n ≤ oc := by cases hfv; exact hfl
        clear hfl hfv
        have HSO := sort_any w2.heap.size g n oc xs wz HOW.out (by rw [← HNX.out]; omega)
        go_wp2_with fail
        refine HSO.mono ?_
        rintro e w3 ⟨rfl, ys, hper, hpw, hlst, hgr, hfr⟩
        have hkg : ∀ q, q < wz.heap.size → q ≠ g → w3.heap[q]? = wz.heap[q]? := fun q hq hne => hgr.block q hq (fun e => hne (by cases e; rfl))
        have HE : Hid (FrPost w d c es ce us cu t (.returned (.slice (some ⟨g, 0, none⟩) n oc)) w3) := HFE2.out (some ⟨g, 0, none⟩) n oc ys w3 (by rw [hper.length_eq]; exact HNX.out) (by rw [← HNX.out]; exact hxl) hlst hpw (hper.trans HPM.out) (fun g' o' s' e => by cases e; exact ⟨rfl, rfl, by have := HSZ.out; omega, Nat.lt_of_lt_of_le hg2 hgr.size, hfr, hcap⟩) ⟨HKW.out.str.trans ((Below.refl _ wz).grown hgr (Nat.zero_le _) (fun _ _ => Nat.zero_le _)), fun q hq hf => (hkg q (Nat.lt_of_lt_of_le hq HKW.out.str.size) (by have := HSZ.out; omega)).trans (HKW.out.blk q hq hf)⟩ (by rw [HUF.out]; exact HDP.out.blk (fun q hq hl => hkg q hl (fun e => by have := HLT0.out q hq; omega)))
        clear hper hpw hlst hgr hfr hkg HSO
        go_wp2_with fail
        go_ret
        exact HE.out
    case' refine_2 =>
      intro xe w3 hx hib2 hk3
      obtain ⟨x⟩ := xe
      dsimp only at hx hib2 ⊢
      have HX : Hid (x ∈ ul ∧ x ∈ us ∧ x.2.2 ∉ seen) := ⟨hx.out.1, by have := hx.out.1; rw [← HEL.out] at this; exact lv_mem this, hx.out.2⟩
      have HIB2 : Hid (IB r d.bu cu (seen.push x.2.2) cu w3) := hib2.out
      have HD3 : Hid (Dp w3 d c' el ce ul cu) := HDP.out.blk (fun g hg hl => hk3.out.block g (fun e => by have h1 := HLT0.out g hg; have := HRN.out; omega))
      have HK3 : Hid (Kd w2 w3 d) := HKZ.out.kov hk3.out (.inr HRN.out)
      have HO3 : Hid (OwnL E2 w2.heap.size w3 (.slice oa n oc) xs) := HOW.out.blk (fun g e => hk3.out.block g (HNR.out g e))
      obtain ⟨rs', hrg'⟩ := HRG.out.step HX.out.2.1 HX.out.2.2
      have HRG2 : Hid (Rg us (seen.push x.2.2) (vs ++ [x]) rs') := hrg'
      have HLT : Hid (seen.size < us.length) := HRG.out.lt HX.out.2.1 HX.out.2.2
      have HLV : Hid ((freeX c' (mget el) t x = false → lv us (freeX c' (mget el) t) (seen.push x.2.2) = ul) ∧ (freeX c' (mget el) t x = true → lv us (freeX c' (mget el) t) (seen.push x.2.2) = mdel ul x.1)) := ⟨fun hd => by rw [lv_stay HUO.out _ _ HX.out.2.1 hd]; exact HEL.out, fun hd => by rw [← HEL.out, lv_drop HUO.out _ _ HX.out.2.1 hd]⟩
      have HXV : Hid ((freeX c' (mget el) t x = false → ((vs ++ [x]).filter (freeX c' (mget el) t)).map (·.1) = xs) ∧ (freeX c' (mget el) t x = true → ((vs ++ [x]).filter (freeX c' (mget el) t)).map (·.1) = xs ++ [x.1])) := ⟨fun hd => by rw [List.filter_append, List.map_append, HXS.out, List.filter_cons_of_neg (by rw [hd]; decide)]; simp, fun hd => by rw [List.filter_append, List.map_append, HXS.out, List.filter_cons_of_pos hd]; simp⟩
      have HKI : Hid (0 ≤ x.1.1 ∧ x.1.1 < 4294967296) := HUI.out x HX.out.2.1
      obtain ⟨⟨p1, p2⟩, pu, st⟩ := x
      dsimp only at *
      clear hx hib2 hk3 hrg' HIB HRG HDP HEL HXS HKZ HOW HOG HON
      go_wp2_with (first | (refine list_entry MUn rfl _ rfl (r := r) (b := d.bu) (since := cu) (c := cu) (seen := seen) (es := ul) (y := ((p1, p2), pu, st)) rfl HIB2.out HD3.out.um HX.out.1 HD3.out.uok.nb ?_) | (refine list_pxnew rfl rfl ?_))
      intro b6 w4 hb6 hx6 hb4
      have HX6 : Hid (SB PxK b6 (pxL (0, 0)) w4) := hx6.out
      have HD4 : Hid (Dp w4 d c' el ce ul cu) := HD3.out.bel hb4.out
      have HK4 : Hid (Kd w2 w4 d) := HK3.out.trans (Kd.bel d hb4.out)
      have HI4 : Hid (IB r d.bu cu (seen.push st) cu w4) := HIB2.out.blk (hb4.out.block _ HIB2.out.lt)
      have HO4 : Hid (OwnL E2 w2.heap.size w4 (.slice oa n oc) xs) := HO3.out.bel hb4.out
      have HQ6 : Hid (w2.heap.size ≤ b6 ∧ r ≠ b6 ∧ ∀ g, (Value.slice oa n oc).ownBlock = some g → g ≠ b6) := by
        have h1 := hb6.out; have h2 := HK3.out.str.size; have h3 := HIB2.out.lt
        exact ⟨by omega, by omega, fun g e => by have := (HO3.out.row.lt g e).2; omega⟩
      clear hb6 hx6 hb4 HD3 HK3 HIB2 HO3
      go_wp2_with (refine list_sstore PxK rfl _ _ rfl (b := b6) (cs := pxL (0, 0)) (cs' := pxL (p1, p2)) rfl rfl HX6.out rfl rfl rfl ?_)
      intro w5 hx5 hk5
      have HX5 : Hid (SB PxK b6 (pxL (p1, p2)) w5) := hx5.out
      have HK5 : Hid (Kd w2 w5 d) := HK4.out.kov hk5.out (.inr HQ6.out.1)
      have HD5 : Hid (Dp w5 d c' el ce ul cu) := HD4.out.blk (fun g hg hl => hk5.out.block g (fun e => by have := HLT0.out g hg; have := HQ6.out.1; omega))
      have HI5 : Hid (IB r d.bu cu (seen.push st) cu w5) := HI4.out.blk (hk5.out.block _ HQ6.out.2.1)
      have HO5 : Hid (OwnL E2 w2.heap.size w5 (.slice oa n oc) xs) := HO4.out.blk (fun g e => hk5.out.block g (HQ6.out.2.2 g e))
      clear hx5 hk5 HX6 HD4 HK4 HI4 HO4
      go_wp2_with fail
      have HDD : Hid (Dp w5.drew d c' el ce ul cu) := HD5.out.bel (drew_bel w5)
      have HII : Hid (IB r d.bu cu (seen.push st) cu w5.drew) := HI5.out.blk ((drew_bel w5).block _ HI5.out.lt)
      have HKD : Hid (Kd w2 w5.drew d) := HK5.out.trans (Kd.bel d (drew_bel w5))
      have HOD : Hid (OwnL E2 w2.heap.size w5.drew (.slice oa n oc) xs) := HO5.out.bel (drew_bel w5)
      have HS0 : Hid (SB DmK b (dmL c' d.bp d.bu) w5.drew ∧ SB PxK b6 (pxL (p1, p2)) w5.drew) := by rw [← HB.out]; exact ⟨HDD.out.box, HX5.out.blk ((drew_bel w5).block _ HX5.out.lt)⟩
      refine wp_region_held_drew (S := fun W => SB DmK b (dmL c' d.bp d.bu) W ∧ SB PxK b6 (pxL (p1, p2)) W) (by kernel_rfl) HS0.out (fun hHeld => ?_)
      obtain ⟨wd, hwd⟩ : ∃ y, w5.drew = y := ⟨_, rfl⟩
      rw [hwd] at HDD HKD HII HOD hHeld ⊢
      clear hwd HS0 HD5 HI5 HK5 HX5 HO5
      refine wpAnyH_take (i := 0) (v := .pointer (some ⟨b, 0, none⟩)) rfl (by kernel_rfl) (by kernel_rfl) (by kernel_rfl) (fun _ _ _ h => h) (Or.inl ⟨by rfl, ?_⟩) (by assumption) ?_
      case refine_1 => intro W hSw; go_simp; try rfl
      try simp only [Act.put, List.getElem_toArray, List.getElem_cons_zero, List.getElem_cons_succ, List.setIfInBounds_toArray, List.set_cons_zero, List.set_cons_succ]
      refine wpAnyH_take (i := 1) (v := .agg (pxL (p1, p2)).toArray) rfl (by kernel_rfl) (by kernel_rfl) (by kernel_rfl) (fun _ _ _ h => h) (Or.inl ⟨by rfl, fun W hSw => Go.Proofs.Ytjfiahendnlcjaa.Ge.sload_run PxK (.tmp 6) rfl (b := b6) rfl hSw.2 rfl⟩) (by assumption) ?_
      try simp only [Act.put, List.getElem_toArray, List.getElem_cons_zero, List.getElem_cons_succ, List.setIfInBounds_toArray, List.set_cons_zero, List.set_cons_succ]
      refine wpAnyH_take (i := 2) (v := .pointer (some ⟨b, 0, none⟩)) rfl (by kernel_rfl) (by kernel_rfl) (by kernel_rfl) (fun _ _ _ h => h) (Or.inl ⟨by rfl, ?_⟩) (by assumption) ?_
      case refine_1 => intro W hSw; go_simp; try rfl
      try simp only [Act.put, List.getElem_toArray, List.getElem_cons_zero, List.getElem_cons_succ, List.setIfInBounds_toArray, List.set_cons_zero, List.set_cons_succ]
      refine wpAnyH_take (i := 3) (v := .pointer (some ⟨b, 0, none⟩)) rfl (by kernel_rfl) (by kernel_rfl) (by kernel_rfl) (fun _ _ _ h => h) (Or.inl ⟨by rfl, ?_⟩) (by assumption) ?_
      case refine_1 => intro W hSw; go_simp; try rfl
      try simp only [Act.put, List.getElem_toArray, List.getElem_cons_zero, List.getElem_cons_succ, List.setIfInBounds_toArray, List.set_cons_zero, List.set_cons_succ]
      refine wpAnyH_take (i := 4) (v := .pointer (some ⟨b, 6, none⟩)) rfl (by kernel_rfl) (by kernel_rfl) (by kernel_rfl) (fun _ _ _ h => h) (Or.inl ⟨by rfl, ?_⟩) (by assumption) ?_
      case refine_1 => intro W hSw; go_simp; try rfl
      try simp only [Act.put, List.getElem_toArray, List.getElem_cons_zero, List.getElem_cons_succ, List.setIfInBounds_toArray, List.set_cons_zero, List.set_cons_succ]
      refine wpAnyH_take (i := 5) (v := .int .i64 (t : Int)) rfl (by kernel_rfl) (by kernel_rfl) (by kernel_rfl) (fun _ _ _ h => h) (Or.inl ⟨by rfl, ?_⟩) (by assumption) ?_
      case refine_1 => intro W hSw; have k1 : W.cell? ⟨b, 6, none⟩ = some (.int .i64 (t : Int)) := (hSw.1.cell 6).trans (by rw [← HCT.out]; rfl); go_simp; try rfl
      try simp only [Act.put, List.getElem_toArray, List.getElem_cons_zero, List.getElem_cons_succ, List.setIfInBounds_toArray, List.set_cons_zero, List.set_cons_succ]
      refine wpAnyH_ready (rs := [6]) (by kernel_rfl) (by simp) ?_
      refine AllReadyH.cons rfl (fun K hK => ?_) AllReadyH.nil
      have HHE := held_any d c' el ce ul cu (p1, p2) t wd HDD.out ⟨by rw [HCT.out]; exact Nat.le_refl _, by have := HT.out.2; omega⟩
      rw [HB.out] at HHE
      go_simp
      refine HHE.mono ?_
      rintro e we ⟨rfl, hbe⟩
      have HKE : Hid (Kd w2 we d) := HKD.out.trans (Kd.bel d hbe)
      have HDE : Hid (Dp we d c' el ce ul cu) := HDD.out.bel hbe
      have HIE : Hid (IB r d.bu cu (seen.push st) cu we) := HII.out.blk (hbe.block _ HII.out.lt)
      have HOE : Hid (OwnL E2 w2.heap.size we (.slice oa n oc) xs) := HOD.out.bel hbe
      refine hK.out _ _ ⟨hHeld.1.blk (hbe.block _ hHeld.1.lt), hHeld.2.blk (hbe.block _ hHeld.2.lt)⟩ (fun hHeld => ?_)
      clear hK K hbe HDD HKD HII HOD HHE
      obtain ⟨hz, hhz⟩ : ∃ y, heldP c' (mget el) (p1, p2) t = y := ⟨_, rfl⟩
      have HFX : Hid (freeX c' (mget el) t ((p1, p2), pu, st) = !hz) := by rw [← hhz]; rfl
      rw [hhz]
      clear hhz
      try simp only [Act.put, List.getElem_toArray, List.getElem_cons_zero, List.getElem_cons_succ, List.setIfInBounds_toArray, List.set_cons_zero, List.set_cons_succ]
      cases hz
      case true =>
        refine wpAnyH_take (i := 7) (v := .bool false) rfl (by kernel_rfl) (by kernel_rfl) (by kernel_rfl) (fun _ _ _ h => h) (Or.inl ⟨by rfl, ?_⟩) (by assumption) ?_
        case refine_1 => intro W hSw; go_simp; try rfl
        try simp only [Act.put, List.getElem_toArray, List.getElem_cons_zero, List.getElem_cons_succ, List.setIfInBounds_toArray, List.set_cons_zero, List.set_cons_succ]
        refine wpAnyH_done (by kernel_rfl) ?_ _
        clear hHeld
        have HCI : Hid (FI w2 w2.heap.size d c' el ce us cu t r (.slice oa n oc) we) := ⟨⟨_, _, _, HIE.out, HRG2.out, by rw [HLV.out.1 HFX.out]; exact HDE.out, by rw [HXV.out.1 HFX.out]; exact HOE.out⟩, HRN.out, HNR.out, HKE.out.str, HKE.out.blk⟩
        have HSE : Hid (sn we r = seen.size + 1) := by show _ = _; rw [sn_of HIE.out, Array.size_push]
        clear HDE HIE HKE HRG2 HFX HLV HXV HOE
        go_wp2_with fail
        refine ⟨HCI.out, ?_⟩
        rw [HSN.out, HSE.out]
        have := HLT.out
        omega
      case false =>
        refine wpAnyH_take (i := 7) (v := .bool true) rfl (by kernel_rfl) (by kernel_rfl) (by kernel_rfl) (fun _ _ _ h => h) (Or.inl ⟨by rfl, ?_⟩) (by assumption) ?_
        case refine_1 => intro W hSw; go_simp; try rfl
        try simp only [Act.put, List.getElem_toArray, List.getElem_cons_zero, List.getElem_cons_succ, List.setIfInBounds_toArray, List.set_cons_zero, List.set_cons_succ]
        refine wpAnyH_done (by kernel_rfl) ?_ _
        have HXE : Hid (SB PxK b6 (pxL (p1, p2)) we) := hHeld.2
        clear hHeld
        have HA2 : Hid (Below we.heap.size we (we.alloc (Obj.cells (pxL (p1, p2)).toArray 35))) := (Below.refl _ we).alloc (Nat.le_refl _) _
        have HSW : Hid (w2.heap.size ≤ we.heap.size) := HKE.out.str.size
        go_wp2_with (first | (refine list_pbuild rfl _ rfl (p := (p1, p2)) rfl ?_) | (refine list_app1 E2 rfl _ _ 43 rfl rfl w2.heap.size (.slice oa n oc) xs (p1, p2) (by rw [HNX.out]; have := HNX.out; omega) (w := we) (we.alloc (Obj.cells (pxL (p1, p2)).toArray 35)) rfl (HOE.out.bel HA2.out) rfl (Nat.le_trans HSW.out HA2.out.size) rfl ?_) | (refine list_sload PxK rfl _ rfl (b := b6) (cs := pxL (p1, p2)) rfl HXE.out rfl ?_))
        intro v7 w7 ho7 hg7 ha7
        have HB7 : Hid (Below w2.heap.size we w7) := (HA2.out.mono HSW.out).grown hg7.out (Nat.le_trans HSW.out HA2.out.size) (fun k e => (HOE.out.row.lt k e).1)
        have HNO : Hid (∀ q, q < we.heap.size → (¬ (Value.slice oa n oc).ownBlock = some q) → w7.heap[q]? = we.heap[q]?) := fun q hq hne => (hg7.out.block q (Nat.lt_of_lt_of_le hq HA2.out.size) (fun e => hne e.symm)).trans (HA2.out.block q hq)
        have HO7 : Hid (OwnL E2 w2.heap.size w7 v7 (xs ++ [(p1, p2)])) := ho7.out
        have HK7 : Hid (Kd w2 w7 d) := ⟨HKE.out.str.trans (HB7.out.mono (Nat.zero_le _)), fun q hq hf => (HB7.out.block q hq).trans (HKE.out.blk q hq hf)⟩
        have HD7 : Hid (Dp w7 d c' el ce ul cu) := HDE.out.blk (fun q hq hl => HB7.out.block q (HLT0.out q hq))
        have HI7 : Hid (IB r d.bu cu (seen.push st) cu w7) := HIE.out.blk (HNO.out r HIE.out.lt (fun e => HNR.out r e rfl))
        have HX7 : Hid (SB PxK b6 (pxL (p1, p2)) w7) := HXE.out.blk (HNO.out b6 HXE.out.lt (fun e => HQ6.out.2.2 b6 e rfl))
        have HNR7 : Hid (∀ g, v7.ownBlock = some g → g ≠ r) := fun g e => by
          rcases ha7.out with h5 | h5
          · exact HNR.out g (h5 ▸ e)
          · have h6 := HIE.out.lt
            have h7 := HA2.out.size
            rw [h5] at e
            cases e
            omega
        obtain ⟨va7, vc7, hv7, -⟩ := HO7.out.form
        obtain ⟨n7, hn7⟩ : ∃ y, (xs ++ [(p1, p2)]).length = y := ⟨_, rfl⟩
        rw [hn7] at hv7
        subst hv7
        clear ho7 hg7 ha7 HA2 HDE HIE HKE HOE HXE HNO HB7 hn7
        go_wp2_with fail
        have HDD : Hid (Dp w7.drew d c' el ce ul cu) := HD7.out.bel (drew_bel w7)
        have HII : Hid (IB r d.bu cu (seen.push st) cu w7.drew) := HI7.out.blk ((drew_bel w7).block _ HI7.out.lt)
        have HKD : Hid (Kd w2 w7.drew d) := HK7.out.trans (Kd.bel d (drew_bel w7))
        have HOD : Hid (OwnL E2 w2.heap.size w7.drew (.slice va7 n7 vc7) (xs ++ [(p1, p2)])) := HO7.out.bel (drew_bel w7)
        have HS0 : Hid (SB DmK b (dmL c' d.bp d.bu) w7.drew ∧ SB PxK b6 (pxL (p1, p2)) w7.drew) := by rw [← HB.out]; exact ⟨HDD.out.box, HX7.out.blk ((drew_bel w7).block _ HX7.out.lt)⟩
        refine wp_region_held_drew (S := fun W => SB DmK b (dmL c' d.bp d.bu) W ∧ SB PxK b6 (pxL (p1, p2)) W) (by kernel_rfl) HS0.out (fun hHeld => ?_)
        obtain ⟨wd2, hwd⟩ : ∃ y, w7.drew = y := ⟨_, rfl⟩
        rw [hwd] at HDD HKD HII HOD hHeld ⊢
        clear hwd HS0 HD7 HI7 HK7 HX7 HO7
        refine wpAnyH_take (i := 0) (v := .pointer (some ⟨b, 0, none⟩)) rfl (by kernel_rfl) (by kernel_rfl) (by kernel_rfl) (fun _ _ _ h => h) (Or.inl ⟨by rfl, ?_⟩) (by assumption) ?_
        case refine_1 => intro W hSw; go_simp; try rfl
        try simp only [Act.put, List.getElem_toArray, List.getElem_cons_zero, List.getElem_cons_succ, List.setIfInBounds_toArray, List.set_cons_zero, List.set_cons_succ]
        refine wpAnyH_take (i := 1) (v := .pointer (some ⟨b, 0, none⟩)) rfl (by kernel_rfl) (by kernel_rfl) (by kernel_rfl) (fun _ _ _ h => h) (Or.inl ⟨by rfl, ?_⟩) (by assumption) ?_
        case refine_1 => intro W hSw; go_simp; try rfl
        try simp only [Act.put, List.getElem_toArray, List.getElem_cons_zero, List.getElem_cons_succ, List.setIfInBounds_toArray, List.set_cons_zero, List.set_cons_succ]
        refine wpAnyH_take (i := 2) (v := .pointer (some ⟨b, 8, none⟩)) rfl (by kernel_rfl) (by kernel_rfl) (by kernel_rfl) (fun _ _ _ h => h) (Or.inl ⟨by rfl, ?_⟩) (by assumption) ?_
        case refine_1 => intro W hSw; go_simp; try rfl
        try simp only [Act.put, List.getElem_toArray, List.getElem_cons_zero, List.getElem_cons_succ, List.setIfInBounds_toArray, List.set_cons_zero, List.set_cons_succ]
        refine wpAnyH_take (i := 3) (v := .map (some d.bu)) rfl (by kernel_rfl) (by kernel_rfl) (by kernel_rfl) (fun _ _ _ h => h) (Or.inl ⟨by rfl, ?_⟩) (by assumption) ?_
        case refine_1 => intro W hSw; have k1 : W.cell? ⟨b, 8, none⟩ = some (.map (some d.bu)) := hSw.1.cell 8; go_simp; try rfl
        try simp only [Act.put, List.getElem_toArray, List.getElem_cons_zero, List.getElem_cons_succ, List.setIfInBounds_toArray, List.set_cons_zero, List.set_cons_succ]
        refine wpAnyH_take (i := 4) (v := .agg (pxL (p1, p2)).toArray) rfl (by kernel_rfl) (by kernel_rfl) (by kernel_rfl) (fun _ _ _ h => h) (Or.inl ⟨by rfl, fun W hSw => Go.Proofs.Ytjfiahendnlcjaa.Ge.sload_run PxK (.tmp 6) rfl (b := b6) rfl hSw.2 rfl⟩) (by assumption) ?_
        try simp only [Act.put, List.getElem_toArray, List.getElem_cons_zero, List.getElem_cons_succ, List.setIfInBounds_toArray, List.set_cons_zero, List.set_cons_succ]
        refine wpAnyH_ready (rs := [5]) (by kernel_rfl) (by simp) ?_
        refine AllReadyH.cons rfl (fun K hK => ?_) AllReadyH.nil
        refine del_step MUn (.tmp 40) (.tmp 41) rfl (b := d.bu) (c := cu) (es := ul) (k := (p1, p2)) rfl rfl HDD.out.um rfl (fun wg hmb hkg => ?_)
        have hbu : d.bu < w2.heap.size := HLT0.out d.bu (.inr (.inr rfl))
        have HDG : Hid (Dp wg d c' el ce (mdel ul (p1, p2)) cu) := ⟨HDD.out.box.blk (hkg.out.block _ HDD.out.ne.2.1), HDD.out.pm.blk (hkg.out.block _ HDD.out.ne.2.2), hmb.out, HDD.out.eok, mdel_ok HDD.out.uok _, HDD.out.ne, HDD.out.cok, HDD.out.pen, fun x hx => HDD.out.ui x (by rw [mdel_eq HDD.out.uok] at hx; exact (List.mem_filter.1 hx).1)⟩
        have HIG : Hid (IB r d.bu cu (seen.push st) cu wg) := HII.out.blk (hkg.out.block _ (fun e => by have := HRN.out; omega))
        have HKG : Hid (Kd w2 wg d) := HKD.out.kov hkg.out (.inl (.inr (.inr rfl)))
        have HOG2 : Hid (OwnL E2 w2.heap.size wg (.slice va7 n7 vc7) (xs ++ [(p1, p2)])) := HOD.out.blk (fun g e => hkg.out.block g (fun e2 => by have := (HOD.out.row.lt g e).1; omega))
        refine hK.out _ _ ⟨hHeld.1.blk (hkg.out.block _ (by rw [← HB.out]; exact HDD.out.ne.2.1)), hHeld.2.blk (hkg.out.block _ (fun e => by have := HQ6.out.1; omega))⟩ (fun hHeld => ?_)
        clear hK K hmb hkg HDD HKD HII HOD
        try simp only [Act.put, List.getElem_toArray, List.getElem_cons_zero, List.getElem_cons_succ, List.setIfInBounds_toArray, List.set_cons_zero, List.set_cons_succ]
        refine wpAnyH_done (by kernel_rfl) ?_ _
        clear hHeld
        have HCI : Hid (FI w2 w2.heap.size d c' el ce us cu t r (.slice va7 n7 vc7) wg) := ⟨⟨_, _, _, HIG.out, HRG2.out, by rw [HLV.out.2 HFX.out]; exact HDG.out, by rw [HXV.out.2 HFX.out]; exact HOG2.out⟩, HRN.out, HNR7.out, HKG.out.str, HKG.out.blk⟩
        have HSE : Hid (sn wg r = seen.size + 1) := by show _ = _; rw [sn_of HIG.out, Array.size_push]
        clear HDG HIG HKG HRG2 HFX HLV HXV HOG2
        go_wp2_with fail
        refine ⟨HCI.out, ?_⟩
        rw [HSN.out, HSE.out]
        have := HLT.out
        omega
end Go.Proofs.Ytjfiahendnlcjaa.Da
