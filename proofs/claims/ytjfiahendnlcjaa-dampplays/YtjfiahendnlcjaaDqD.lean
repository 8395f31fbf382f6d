/- The document's damper in memory: Penalty, Held. -/
import Derived.Test.YtjfiahendnlcjaaDqC
namespace Go.Proofs.Ytjfiahendnlcjaa.Da
open Go.ChangeShapes Go.WideShapes Go.ChangeAt Go.RowKit Go.Joins Go.Deep Go.Proofs.Ytjfiahendnlcjaa.Ge Go.Proofs.Ytjfiahendnlcjaa.PM Go.Proofs.Ytjfiahendnlcjaa.Ask
set_option linter.unusedVariables false
set_option linter.unusedSimpArgs false

def BdL (c : Dc) (L : List DM) : Prop := ∀ m ∈ L, m.v ≤ c.most ∧ m.s ≤ c.clock
theorem dd_cf {W : World} {b : Nat} {c : Dc} {a : Option Addr} {n k : Nat} (h : SB DdK b (ddL c a n k) W) : ∀ j, j < CgK.k → W.cell? ⟨b, 0 + j, none⟩ = (cfL c)[j]? := fun j hj => by
  have hj6 : j < 6 := hj
  rw [Nat.zero_add, h.cell j]
  match j, hj6 with
  | 0, _ => rfl
  | 1, _ => rfl
  | 2, _ => rfl
  | 3, _ => rfl
  | 4, _ => rfl
  | 5, _ => rfl
set_option maxRecDepth 100000 in
set_option maxHeartbeats 8000000 in
theorem dpen_any (c : Dc) (hc : DcOk c) (va : Option Addr) (n cap : Nat) (L : List DM) (hn : L.length = n) (hbd : BdL c L) (p : Pf) (now : Nat) (hnow : c.clock ≤ now ∧ now < 9223372036854775808) (w : World) (h : Lst EK w va L) :
    Calls Try.prog 11 #[.agg (ddL c va n cap).toArray, pfV p, .int .i64 (now : Int)] w fun e w' => e = .returned (.int .i64 (penP c (dfn L) p now : Nat)) ∧ Below w.heap.size w w' := by
  have H : Hid (Lst EK w va L) := h
  have HN : Hid (L.length = n) := hn
  have HC : Hid (DcOk c) := hc
  have HBL : Hid (BdL c L) := hbd
  have HNW : Hid (c.clock ≤ now ∧ now < 9223372036854775808) := hnow
  have HFI := find_any c va n cap L hn p
  have hFI : Hid (∀ w, Lst EK w va L → Calls Try.prog 26 #[.agg (ddL c va n cap).toArray, pfV p] w fun e w' => e = .returned (.int .i64 (dix L p)) ∧ Below w.heap.size w w') := HFI
  clear HFI
  have hsm := h.small
  rw [hn] at hsm
  clear h hn hc hbd hnow
  go_enter Try.func11, Try.ntmps11
  go_wp2_with (refine list_sbox DdK rfl _ rfl (cs := ddL c va n cap) rfl ?_)
  intro w1 hb1 hbl1 hz1
  obtain ⟨bd, hbd⟩ : ∃ y, w.heap.size = y := ⟨_, rfl⟩
  have HX1 : Hid (SB DdK bd (ddL c va n cap) w1) := by rw [← hbd]; exact hb1.out
  have HB1 : Hid (Below w.heap.size w w1) := hbl1.out
  rw [hbd]
  clear hb1 hbl1 hz1 hbd
  go_wp2_with (refine list_sbox PxK rfl _ rfl (cs := pxL p) rfl ?_)
  intro w2 hb2 hbl2 hz2
  obtain ⟨bp, hbp⟩ : ∃ y, w1.heap.size = y := ⟨_, rfl⟩
  have HX2 : Hid (SB PxK bp (pxL p) w2) := by rw [← hbp]; exact hb2.out
  have HX3 : Hid (SB DdK bd (ddL c va n cap) w2) := HX1.out.blk (hbl2.out.block _ HX1.out.lt)
  have HB2 : Hid (Below w.heap.size w w2) := HB1.out.trans (hbl2.out.mono HB1.out.size)
  rw [hbp]
  clear hb2 hbl2 hz2 hbp HX1 HB1
  have HFC := hFI.out w2 (H.out.bel HB2.out)
  go_wp2_with (first | (refine list_sload DdK rfl _ rfl (b := bd) (cs := ddL c va n cap) rfl HX3.out rfl ?_) | (refine list_sload PxK rfl _ rfl (b := bp) (cs := pxL p) rfl HX2.out rfl ?_))
  refine HFC.mono ?_
  rintro e w3 ⟨rfl, hb3⟩
  have HX4 : Hid (SB PxK bp (pxL p) w3) := HX2.out.blk (hb3.block _ HX2.out.lt)
  have HX5 : Hid (SB DdK bd (ddL c va n cap) w3) := HX3.out.blk (hb3.block _ HX3.out.lt)
  have HB3 : Hid (Below w.heap.size w w3) := HB2.out.trans (hb3.mono HB2.out.size)
  clear hb3 HFC HX2 HX3 HB2 hFI
  rcases dix_cases L p with ⟨hz, hg⟩ | ⟨i, hi, hz, hp, hg⟩
  case inl =>
    rw [hz]
    have HE : Hid (penP c (dfn L) p now = 0) := by show _ = _; unfold penP pn dfn; rw [hg]; exact atP_0 _ _
    clear hz hg
    go_wp2_with fail
    go_ret
    exact ⟨by rw [HE.out]; try rfl, HB3.out⟩
  case inr =>
    rw [hz]
    obtain ⟨lb, lo, rfl, hlb, hcl⟩ := (H.out.bel HB3.out).cells i hi
    obtain ⟨x, hx⟩ : ∃ x, L[i] = x := ⟨_, rfl⟩
    have hxm : x ∈ L := hx ▸ List.getElem_mem hi
    rw [hx] at hcl hg
    obtain ⟨xp, xv, xs, xh, xd⟩ := x
    have HXB : Hid (xv ≤ c.most ∧ xs ≤ c.clock) := HBL.out _ hxm
    have HE : Hid (penP c (dfn L) p now = atP c.half xv (now - xs)) := by show _ = _; unfold penP pn dfn; rw [hg]; rfl
    have hin : (i : Int) < (n : Int) := by have := HN.out; omega
    have hi0 : (0 : Int) ≤ (i : Int) := by omega
    have hi1 : ¬ (i : Int) < 0 := by omega
    have HCE : Hid (∀ W, Below w.heap.size w W → ∀ j, j < 6 → W.cell? ⟨lb, lo + i * 6 + j, none⟩ = (mkL ⟨xp, xv, xs, xh, xd⟩)[j]?) := fun W hW j hj => by
      obtain ⟨lb', lo', e, -, hc'⟩ := (H.out.bel hW).cells i hi
      cases e
      rw [hx] at hc'
      exact hc' j hj
    have HSB : Hid (IntKind.i64.wrap ((now : Int) - (xs : Int)) = ((now - xs : Nat) : Int)) := by
      have h1 := HNW.out; have h2 := HXB.out.2
      show _ = _
      rw [IntWalk.i64_in _ (by omega)]; omega
    have HSB2 : Hid (wrap64 ((now : Int) - (xs : Int)) = ((now - xs : Nat) : Int)) := by
      have h1 := HNW.out; have h2 := HXB.out.2
      show _ = _
      rw [IntWalk.wrap64_in _ (by omega)]; omega
    clear hz hg hp hx hcl hlb
    go_wp2_with fail
    have HBD : Hid (Below w.heap.size w w3.drew) := HB3.out.trans ((drew_bel w3).mono HB3.out.size)
    have HS0 : Hid (SB DdK bd (ddL c (some ⟨lb, lo, none⟩) n cap) w3.drew ∧ ∀ j, j < 6 → w3.drew.cell? ⟨lb, lo + i * 6 + j, none⟩ = (mkL ⟨xp, xv, xs, xh, xd⟩)[j]?) := ⟨HX5.out.blk ((drew_bel w3).block _ HX5.out.lt), HCE.out _ HBD.out⟩
    refine wp_region_held_drew (S := fun W => SB DdK bd (ddL c (some ⟨lb, lo, none⟩) n cap) W ∧ ∀ j, j < 6 → W.cell? ⟨lb, lo + i * 6 + j, none⟩ = (mkL ⟨xp, xv, xs, xh, xd⟩)[j]?) (by kernel_rfl) HS0.out (fun hHeld => ?_)
    obtain ⟨wd, hwd⟩ : ∃ z, w3.drew = z := ⟨_, rfl⟩
    rw [hwd] at HBD hHeld ⊢
    clear hwd HS0 HX4 HX5
    refine wpAnyH_take (i := 0) (v := .pointer (some ⟨bd, 0, none⟩)) rfl (by kernel_rfl) (by kernel_rfl) (by kernel_rfl) (fun _ _ _ h => h) (Or.inl ⟨by rfl, ?_⟩) (by assumption) ?_
    case refine_1 => intro W hSw; go_simp; try rfl
    try simp only [Act.put, List.getElem_toArray, List.getElem_cons_zero, List.getElem_cons_succ, List.setIfInBounds_toArray, List.set_cons_zero, List.set_cons_succ]
    refine wpAnyH_take (i := 1) (v := .agg (cfL c).toArray) rfl (by kernel_rfl) (by kernel_rfl) (by kernel_rfl) (fun _ _ _ h => h) (Or.inl ⟨by rfl, fun W hSw => sat_run CgK (.tmp 13) rfl (b := bd) (k := 0) rfl (dd_cf hSw.1) rfl⟩) (by assumption) ?_
    try simp only [Act.put, List.getElem_toArray, List.getElem_cons_zero, List.getElem_cons_succ, List.setIfInBounds_toArray, List.set_cons_zero, List.set_cons_succ]
    refine wpAnyH_take (i := 2) (v := .pointer (some ⟨bd, 7, none⟩)) rfl (by kernel_rfl) (by kernel_rfl) (by kernel_rfl) (fun _ _ _ h => h) (Or.inl ⟨by rfl, ?_⟩) (by assumption) ?_
    case refine_1 => intro W hSw; go_simp; try rfl
    try simp only [Act.put, List.getElem_toArray, List.getElem_cons_zero, List.getElem_cons_succ, List.setIfInBounds_toArray, List.set_cons_zero, List.set_cons_succ]
    refine wpAnyH_take (i := 3) (v := .slice (some ⟨lb, lo, none⟩) n cap) rfl (by kernel_rfl) (by kernel_rfl) (by kernel_rfl) (fun _ _ _ h => h) (Or.inl ⟨by rfl, ?_⟩) (by assumption) ?_
    case refine_1 => intro W hSw; have k1 : W.cell? ⟨bd, 7, none⟩ = some (.slice (some ⟨lb, lo, none⟩) n cap) := hSw.1.cell 7; go_simp; try rfl
    try simp only [Act.put, List.getElem_toArray, List.getElem_cons_zero, List.getElem_cons_succ, List.setIfInBounds_toArray, List.set_cons_zero, List.set_cons_succ]
    refine wpAnyH_take (i := 4) (v := .int .i64 (i : Int)) rfl (by kernel_rfl) (by kernel_rfl) (by kernel_rfl) (fun _ _ _ h => h) (Or.inl ⟨by rfl, ?_⟩) (by assumption) ?_
    case refine_1 => intro W hSw; go_simp; try rfl
    try simp only [Act.put, List.getElem_toArray, List.getElem_cons_zero, List.getElem_cons_succ, List.setIfInBounds_toArray, List.set_cons_zero, List.set_cons_succ]
    refine wpAnyH_take (i := 5) (v := .pointer (some ⟨lb, lo + i * 6, none⟩)) rfl (by kernel_rfl) (by kernel_rfl) (by kernel_rfl) (fun _ _ _ h => h) (Or.inl ⟨by rfl, ?_⟩) (by assumption) ?_
    case refine_1 => intro W hSw; go_simp; try rfl
    try simp only [Act.put, List.getElem_toArray, List.getElem_cons_zero, List.getElem_cons_succ, List.setIfInBounds_toArray, List.set_cons_zero, List.set_cons_succ]
    refine wpAnyH_take (i := 6) (v := .pointer (some ⟨lb, lo + i * 6 + 2, none⟩)) rfl (by kernel_rfl) (by kernel_rfl) (by kernel_rfl) (fun _ _ _ h => h) (Or.inl ⟨by rfl, ?_⟩) (by assumption) ?_
    case refine_1 => intro W hSw; go_simp; try rfl
    try simp only [Act.put, List.getElem_toArray, List.getElem_cons_zero, List.getElem_cons_succ, List.setIfInBounds_toArray, List.set_cons_zero, List.set_cons_succ]
    refine wpAnyH_take (i := 7) (v := .int .i64 (xv : Int)) rfl (by kernel_rfl) (by kernel_rfl) (by kernel_rfl) (fun _ _ _ h => h) (Or.inl ⟨by rfl, ?_⟩) (by assumption) ?_
    case refine_1 => intro W hSw; have k2 : W.cell? ⟨lb, lo + i * 6 + 2, none⟩ = some (.int .i64 (xv : Int)) := hSw.2 2 (by decide); go_simp; try rfl
    try simp only [Act.put, List.getElem_toArray, List.getElem_cons_zero, List.getElem_cons_succ, List.setIfInBounds_toArray, List.set_cons_zero, List.set_cons_succ]
    refine wpAnyH_take (i := 8) (v := .int .i64 (now : Int)) rfl (by kernel_rfl) (by kernel_rfl) (by kernel_rfl) (fun _ _ _ h => h) (Or.inl ⟨by rfl, ?_⟩) (by assumption) ?_
    case refine_1 => intro W hSw; go_simp; try rfl
    try simp only [Act.put, List.getElem_toArray, List.getElem_cons_zero, List.getElem_cons_succ, List.setIfInBounds_toArray, List.set_cons_zero, List.set_cons_succ]
    refine wpAnyH_take (i := 9) (v := .pointer (some ⟨bd, 7, none⟩)) rfl (by kernel_rfl) (by kernel_rfl) (by kernel_rfl) (fun _ _ _ h => h) (Or.inl ⟨by rfl, ?_⟩) (by assumption) ?_
    case refine_1 => intro W hSw; go_simp; try rfl
    try simp only [Act.put, List.getElem_toArray, List.getElem_cons_zero, List.getElem_cons_succ, List.setIfInBounds_toArray, List.set_cons_zero, List.set_cons_succ]
    refine wpAnyH_take (i := 10) (v := .slice (some ⟨lb, lo, none⟩) n cap) rfl (by kernel_rfl) (by kernel_rfl) (by kernel_rfl) (fun _ _ _ h => h) (Or.inl ⟨by rfl, ?_⟩) (by assumption) ?_
    case refine_1 => intro W hSw; have k1 : W.cell? ⟨bd, 7, none⟩ = some (.slice (some ⟨lb, lo, none⟩) n cap) := hSw.1.cell 7; go_simp; try rfl
    try simp only [Act.put, List.getElem_toArray, List.getElem_cons_zero, List.getElem_cons_succ, List.setIfInBounds_toArray, List.set_cons_zero, List.set_cons_succ]
    refine wpAnyH_take (i := 11) (v := .int .i64 (i : Int)) rfl (by kernel_rfl) (by kernel_rfl) (by kernel_rfl) (fun _ _ _ h => h) (Or.inl ⟨by rfl, ?_⟩) (by assumption) ?_
    case refine_1 => intro W hSw; go_simp; try rfl
    try simp only [Act.put, List.getElem_toArray, List.getElem_cons_zero, List.getElem_cons_succ, List.setIfInBounds_toArray, List.set_cons_zero, List.set_cons_succ]
    refine wpAnyH_take (i := 12) (v := .pointer (some ⟨lb, lo + i * 6, none⟩)) rfl (by kernel_rfl) (by kernel_rfl) (by kernel_rfl) (fun _ _ _ h => h) (Or.inl ⟨by rfl, ?_⟩) (by assumption) ?_
    case refine_1 => intro W hSw; go_simp; try rfl
    try simp only [Act.put, List.getElem_toArray, List.getElem_cons_zero, List.getElem_cons_succ, List.setIfInBounds_toArray, List.set_cons_zero, List.set_cons_succ]
    refine wpAnyH_take (i := 13) (v := .pointer (some ⟨lb, lo + i * 6 + 3, none⟩)) rfl (by kernel_rfl) (by kernel_rfl) (by kernel_rfl) (fun _ _ _ h => h) (Or.inl ⟨by rfl, ?_⟩) (by assumption) ?_
    case refine_1 => intro W hSw; go_simp; try rfl
    try simp only [Act.put, List.getElem_toArray, List.getElem_cons_zero, List.getElem_cons_succ, List.setIfInBounds_toArray, List.set_cons_zero, List.set_cons_succ]
    refine wpAnyH_take (i := 14) (v := .int .i64 (xs : Int)) rfl (by kernel_rfl) (by kernel_rfl) (by kernel_rfl) (fun _ _ _ h => h) (Or.inl ⟨by rfl, ?_⟩) (by assumption) ?_
    case refine_1 => intro W hSw; have k2 : W.cell? ⟨lb, lo + i * 6 + 3, none⟩ = some (.int .i64 (xs : Int)) := hSw.2 3 (by decide); go_simp; try rfl
    try simp only [Act.put, List.getElem_toArray, List.getElem_cons_zero, List.getElem_cons_succ, List.setIfInBounds_toArray, List.set_cons_zero, List.set_cons_succ]
    refine wpAnyH_take (i := 15) (v := .int .i64 ((now - xs : Nat) : Int)) rfl (by kernel_rfl) (by kernel_rfl) (by kernel_rfl) (fun _ _ _ h => h) (Or.inl ⟨by rfl, ?_⟩) (by assumption) ?_
    case refine_1 => intro W hSw; have k3 := HSB.out; have k4 := HSB2.out; go_simp; try rfl
    try simp only [Act.put, List.getElem_toArray, List.getElem_cons_zero, List.getElem_cons_succ, List.setIfInBounds_toArray, List.set_cons_zero, List.set_cons_succ]
    refine wpAnyH_ready (rs := [16]) (by kernel_rfl) (by simp) ?_
    refine AllReadyH.cons rfl (fun K hK => ?_) AllReadyH.nil
    have HPE := worth_any c HC.out xv (now - xs) (by have := HXB.out.1; have := HC.out.most; omega) (by have := HNW.out; omega) wd
    go_simp
    refine HPE.mono ?_
    rintro e we ⟨rfl, hbe⟩
    have HBE : Hid (Below w.heap.size w we) := HBD.out.trans (hbe.mono HBD.out.size)
    refine hK.out _ _ ⟨hHeld.1.blk (hbe.block _ hHeld.1.lt), HCE.out _ HBE.out⟩ (fun hHeld => ?_)
    clear hK K hbe HPE
    rw [← HE.out]
    try simp only [Act.put, List.getElem_toArray, List.getElem_cons_zero, List.getElem_cons_succ, List.setIfInBounds_toArray, List.set_cons_zero, List.set_cons_succ]
    refine wpAnyH_take (i := 17) (v := .int .i64 (penP c (dfn L) p now : Nat)) rfl (by kernel_rfl) (by kernel_rfl) (by kernel_rfl) (fun _ _ _ h => h) (Or.inl ⟨by rfl, ?_⟩) (by assumption) ?_
    case refine_1 => intro W hSw; go_simp; try rfl
    try simp only [Act.put, List.getElem_toArray, List.getElem_cons_zero, List.getElem_cons_succ, List.setIfInBounds_toArray, List.set_cons_zero, List.set_cons_succ]
    refine wpAnyH_done (by kernel_rfl) ?_ _
    clear hHeld
    go_wp2_with fail
    go_ret
    exact ⟨rfl, HBE.out⟩
set_option maxRecDepth 100000 in
set_option maxHeartbeats 8000000 in
theorem dheld_any (c : Dc) (hc : DcOk c) (va : Option Addr) (n cap : Nat) (L : List DM) (hn : L.length = n) (hbd : BdL c L) (p : Pf) (now : Nat) (hnow : c.clock ≤ now ∧ now < 9223372036854775808) (w : World) (h : Lst EK w va L) :
    Calls Try.prog 13 #[.agg (ddL c va n cap).toArray, pfV p, .int .i64 (now : Int)] w fun e w' => e = .returned (.bool (heldP c (dfn L) p now)) ∧ Below w.heap.size w w' := by
  have H : Hid (Lst EK w va L) := h
  have HN : Hid (L.length = n) := hn
  have HC : Hid (DcOk c) := hc
  have HBL : Hid (BdL c L) := hbd
  have HNW : Hid (c.clock ≤ now ∧ now < 9223372036854775808) := hnow
  have HFI := find_any c va n cap L hn p
  have hFI : Hid (∀ w, Lst EK w va L → Calls Try.prog 26 #[.agg (ddL c va n cap).toArray, pfV p] w fun e w' => e = .returned (.int .i64 (dix L p)) ∧ Below w.heap.size w w') := HFI
  clear HFI
  have hsm := h.small
  rw [hn] at hsm
  clear h hn hc hbd hnow
  go_enter Try.func13, Try.ntmps13
  go_wp2_with (refine list_sbox DdK rfl _ rfl (cs := ddL c va n cap) rfl ?_)
  intro w1 hb1 hbl1 hz1
  obtain ⟨bd, hbd⟩ : ∃ y, w.heap.size = y := ⟨_, rfl⟩
  have HX1 : Hid (SB DdK bd (ddL c va n cap) w1) := by rw [← hbd]; exact hb1.out
  have HB1 : Hid (Below w.heap.size w w1) := hbl1.out
  rw [hbd]
  clear hb1 hbl1 hz1 hbd
  go_wp2_with (refine list_sbox PxK rfl _ rfl (cs := pxL p) rfl ?_)
  intro w2 hb2 hbl2 hz2
  obtain ⟨bp, hbp⟩ : ∃ y, w1.heap.size = y := ⟨_, rfl⟩
  have HX2 : Hid (SB PxK bp (pxL p) w2) := by rw [← hbp]; exact hb2.out
  have HX3 : Hid (SB DdK bd (ddL c va n cap) w2) := HX1.out.blk (hbl2.out.block _ HX1.out.lt)
  have HB2 : Hid (Below w.heap.size w w2) := HB1.out.trans (hbl2.out.mono HB1.out.size)
  rw [hbp]
  clear hb2 hbl2 hz2 hbp HX1 HB1
  have HFC := hFI.out w2 (H.out.bel HB2.out)
  go_wp2_with (first | (refine list_sload DdK rfl _ rfl (b := bd) (cs := ddL c va n cap) rfl HX3.out rfl ?_) | (refine list_sload PxK rfl _ rfl (b := bp) (cs := pxL p) rfl HX2.out rfl ?_))
  refine HFC.mono ?_
  rintro e w3 ⟨rfl, hb3⟩
  have HX4 : Hid (SB PxK bp (pxL p) w3) := HX2.out.blk (hb3.block _ HX2.out.lt)
  have HX5 : Hid (SB DdK bd (ddL c va n cap) w3) := HX3.out.blk (hb3.block _ HX3.out.lt)
  have HB3 : Hid (Below w.heap.size w w3) := HB2.out.trans (hb3.mono HB2.out.size)
  clear hb3 HFC HX2 HX3 HB2 hFI
  rcases dix_cases L p with ⟨hz, hg⟩ | ⟨i, hi, hz, hp, hg⟩
  case inl =>
    rw [hz]
    have HE : Hid (heldP c (dfn L) p now = false) := by show _ = _; unfold heldP pn dfn; rw [hg]; rfl
    clear hz hg
    go_wp2_with fail
    have HBD : Hid (Below w.heap.size w w3.drew) := HB3.out.trans ((drew_bel w3).mono HB3.out.size)
    refine wp_region_held_drew (S := fun W => True) (by kernel_rfl) trivial (fun hHeld => ?_)
    obtain ⟨wd, hwd⟩ : ∃ z, w3.drew = z := ⟨_, rfl⟩
    rw [hwd] at HBD ⊢
    clear hwd HX4 HX5
    refine wpAnyH_take (i := 0) (v := .int .i64 (-1)) rfl (by kernel_rfl) (by kernel_rfl) (by kernel_rfl) (fun _ _ _ h => h) (Or.inl ⟨by rfl, ?_⟩) (by assumption) ?_
    case refine_1 => intro W hSw; go_simp; try rfl
    try simp only [Act.put, List.getElem_toArray, List.getElem_cons_zero, List.getElem_cons_succ, List.setIfInBounds_toArray, List.set_cons_zero, List.set_cons_succ]
    refine wpAnyH_take (i := 1) (v := .bool false) rfl (by kernel_rfl) (by kernel_rfl) (by kernel_rfl) (fun _ _ _ h => h) (Or.inl ⟨by rfl, ?_⟩) (by assumption) ?_
    case refine_1 => intro W hSw; go_simp; try rfl
    try simp only [Act.put, List.getElem_toArray, List.getElem_cons_zero, List.getElem_cons_succ, List.setIfInBounds_toArray, List.set_cons_zero, List.set_cons_succ]
    refine wpAnyH_take (i := 2) (v := .bool false) rfl (by kernel_rfl) (by kernel_rfl) (by kernel_rfl) (fun _ _ _ h => h) (Or.inl ⟨by rfl, ?_⟩) (by assumption) ?_
    case refine_1 => intro W hSw; go_simp; try rfl
    try simp only [Act.put, List.getElem_toArray, List.getElem_cons_zero, List.getElem_cons_succ, List.setIfInBounds_toArray, List.set_cons_zero, List.set_cons_succ]
    refine wpAnyH_take (i := 3) (v := undef) rfl (by kernel_rfl) (by kernel_rfl) (by kernel_rfl) (fun _ _ _ h => h) (Or.inr ⟨by rfl, rfl⟩) (by assumption) ?_
    try simp only [Act.put, List.getElem_toArray, List.getElem_cons_zero, List.getElem_cons_succ, List.setIfInBounds_toArray, List.set_cons_zero, List.set_cons_succ]
    refine wpAnyH_take (i := 4) (v := undef) rfl (by kernel_rfl) (by kernel_rfl) (by kernel_rfl) (fun _ _ _ h => h) (Or.inr ⟨by rfl, rfl⟩) (by assumption) ?_
    try simp only [Act.put, List.getElem_toArray, List.getElem_cons_zero, List.getElem_cons_succ, List.setIfInBounds_toArray, List.set_cons_zero, List.set_cons_succ]
    refine wpAnyH_take (i := 5) (v := undef) rfl (by kernel_rfl) (by kernel_rfl) (by kernel_rfl) (fun _ _ _ h => h) (Or.inr ⟨by rfl, rfl⟩) (by assumption) ?_
    try simp only [Act.put, List.getElem_toArray, List.getElem_cons_zero, List.getElem_cons_succ, List.setIfInBounds_toArray, List.set_cons_zero, List.set_cons_succ]
    refine wpAnyH_take (i := 6) (v := undef) rfl (by kernel_rfl) (by kernel_rfl) (by kernel_rfl) (fun _ _ _ h => h) (Or.inr ⟨by rfl, rfl⟩) (by assumption) ?_
    try simp only [Act.put, List.getElem_toArray, List.getElem_cons_zero, List.getElem_cons_succ, List.setIfInBounds_toArray, List.set_cons_zero, List.set_cons_succ]
    refine wpAnyH_take (i := 7) (v := undef) rfl (by kernel_rfl) (by kernel_rfl) (by kernel_rfl) (fun _ _ _ h => h) (Or.inr ⟨by rfl, rfl⟩) (by assumption) ?_
    try simp only [Act.put, List.getElem_toArray, List.getElem_cons_zero, List.getElem_cons_succ, List.setIfInBounds_toArray, List.set_cons_zero, List.set_cons_succ]
    refine wpAnyH_take (i := 8) (v := undef) rfl (by kernel_rfl) (by kernel_rfl) (by kernel_rfl) (fun _ _ _ h => h) (Or.inr ⟨by rfl, rfl⟩) (by assumption) ?_
    try simp only [Act.put, List.getElem_toArray, List.getElem_cons_zero, List.getElem_cons_succ, List.setIfInBounds_toArray, List.set_cons_zero, List.set_cons_succ]
    refine wpAnyH_take (i := 9) (v := .bool false) rfl (by kernel_rfl) (by kernel_rfl) (by kernel_rfl) (fun _ _ _ h => h) (Or.inl ⟨by rfl, ?_⟩) (by assumption) ?_
    case refine_1 => intro W hSw; go_simp; try rfl
    try simp only [Act.put, List.getElem_toArray, List.getElem_cons_zero, List.getElem_cons_succ, List.setIfInBounds_toArray, List.set_cons_zero, List.set_cons_succ]
    refine wpAnyH_take (i := 10) (v := .bool false) rfl (by kernel_rfl) (by kernel_rfl) (by kernel_rfl) (fun _ _ _ h => h) (Or.inl ⟨by rfl, ?_⟩) (by assumption) ?_
    case refine_1 => intro W hSw; go_simp; try rfl
    try simp only [Act.put, List.getElem_toArray, List.getElem_cons_zero, List.getElem_cons_succ, List.setIfInBounds_toArray, List.set_cons_zero, List.set_cons_succ]
    refine wpAnyH_take (i := 11) (v := undef) rfl (by kernel_rfl) (by kernel_rfl) (by kernel_rfl) (fun _ _ _ h => h) (Or.inr ⟨by rfl, rfl⟩) (by assumption) ?_
    try simp only [Act.put, List.getElem_toArray, List.getElem_cons_zero, List.getElem_cons_succ, List.setIfInBounds_toArray, List.set_cons_zero, List.set_cons_succ]
    refine wpAnyH_take (i := 12) (v := undef) rfl (by kernel_rfl) (by kernel_rfl) (by kernel_rfl) (fun _ _ _ h => h) (Or.inr ⟨by rfl, rfl⟩) (by assumption) ?_
    try simp only [Act.put, List.getElem_toArray, List.getElem_cons_zero, List.getElem_cons_succ, List.setIfInBounds_toArray, List.set_cons_zero, List.set_cons_succ]
    refine wpAnyH_take (i := 13) (v := undef) rfl (by kernel_rfl) (by kernel_rfl) (by kernel_rfl) (fun _ _ _ h => h) (Or.inr ⟨by rfl, rfl⟩) (by assumption) ?_
    try simp only [Act.put, List.getElem_toArray, List.getElem_cons_zero, List.getElem_cons_succ, List.setIfInBounds_toArray, List.set_cons_zero, List.set_cons_succ]
    refine wpAnyH_take (i := 14) (v := undef) rfl (by kernel_rfl) (by kernel_rfl) (by kernel_rfl) (fun _ _ _ h => h) (Or.inr ⟨by rfl, rfl⟩) (by assumption) ?_
    try simp only [Act.put, List.getElem_toArray, List.getElem_cons_zero, List.getElem_cons_succ, List.setIfInBounds_toArray, List.set_cons_zero, List.set_cons_succ]
    refine wpAnyH_take (i := 15) (v := undef) rfl (by kernel_rfl) (by kernel_rfl) (by kernel_rfl) (fun _ _ _ h => h) (Or.inr ⟨by rfl, rfl⟩) (by assumption) ?_
    try simp only [Act.put, List.getElem_toArray, List.getElem_cons_zero, List.getElem_cons_succ, List.setIfInBounds_toArray, List.set_cons_zero, List.set_cons_succ]
    refine wpAnyH_take (i := 16) (v := undef) rfl (by kernel_rfl) (by kernel_rfl) (by kernel_rfl) (fun _ _ _ h => h) (Or.inr ⟨by rfl, rfl⟩) (by assumption) ?_
    try simp only [Act.put, List.getElem_toArray, List.getElem_cons_zero, List.getElem_cons_succ, List.setIfInBounds_toArray, List.set_cons_zero, List.set_cons_succ]
    refine wpAnyH_take (i := 17) (v := undef) rfl (by kernel_rfl) (by kernel_rfl) (by kernel_rfl) (fun _ _ _ h => h) (Or.inr ⟨by rfl, rfl⟩) (by assumption) ?_
    try simp only [Act.put, List.getElem_toArray, List.getElem_cons_zero, List.getElem_cons_succ, List.setIfInBounds_toArray, List.set_cons_zero, List.set_cons_succ]
    refine wpAnyH_take (i := 18) (v := undef) rfl (by kernel_rfl) (by kernel_rfl) (by kernel_rfl) (fun _ _ _ h => h) (Or.inr ⟨by rfl, rfl⟩) (by assumption) ?_
    try simp only [Act.put, List.getElem_toArray, List.getElem_cons_zero, List.getElem_cons_succ, List.setIfInBounds_toArray, List.set_cons_zero, List.set_cons_succ]
    refine wpAnyH_take (i := 19) (v := .bool false) rfl (by kernel_rfl) (by kernel_rfl) (by kernel_rfl) (fun _ _ _ h => h) (Or.inl ⟨by rfl, ?_⟩) (by assumption) ?_
    case refine_1 => intro W hSw; go_simp; try rfl
    try simp only [Act.put, List.getElem_toArray, List.getElem_cons_zero, List.getElem_cons_succ, List.setIfInBounds_toArray, List.set_cons_zero, List.set_cons_succ]
    refine wpAnyH_take (i := 20) (v := .bool false) rfl (by kernel_rfl) (by kernel_rfl) (by kernel_rfl) (fun _ _ _ h => h) (Or.inl ⟨by rfl, ?_⟩) (by assumption) ?_
    case refine_1 => intro W hSw; go_simp; try rfl
    try simp only [Act.put, List.getElem_toArray, List.getElem_cons_zero, List.getElem_cons_succ, List.setIfInBounds_toArray, List.set_cons_zero, List.set_cons_succ]
    refine wpAnyH_done (by kernel_rfl) ?_ _
    clear hHeld
    go_wp2_with fail
    go_ret
    rw [HE.out]
    exact ⟨rfl, HBD.out⟩
  case inr =>
    rw [hz]
    obtain ⟨lb, lo, rfl, hlb, hcl⟩ := (H.out.bel HB3.out).cells i hi
    obtain ⟨x, hx⟩ : ∃ x, L[i] = x := ⟨_, rfl⟩
    rw [hx] at hcl hg
    obtain ⟨xp, xv, xs, xh, xd⟩ := x
    have HE : Hid (heldP c (dfn L) p now = (xh && decide (c.reuse ≤ penP c (dfn L) p now))) := by
      have e : (pn (dfn L) p).h = xh := by unfold pn dfn; rw [hg]; rfl
      show _ = _
      unfold heldP
      rw [e]
    have hin : (i : Int) < (n : Int) := by have := HN.out; omega
    have hi0 : (0 : Int) ≤ (i : Int) := by omega
    have HCE : Hid (∀ W, Below w.heap.size w W → ∀ j, j < 6 → W.cell? ⟨lb, lo + i * 6 + j, none⟩ = (mkL ⟨xp, xv, xs, xh, xd⟩)[j]?) := fun W hW j hj => by
      obtain ⟨lb', lo', e, -, hc'⟩ := (H.out.bel hW).cells i hi
      cases e
      rw [hx] at hc'
      exact hc' j hj
    clear hz hg hp hx hcl hlb
    go_wp2_with fail
    have HBD : Hid (Below w.heap.size w w3.drew) := HB3.out.trans ((drew_bel w3).mono HB3.out.size)
    have HS0 : Hid (SB DdK bd (ddL c (some ⟨lb, lo, none⟩) n cap) w3.drew ∧ SB PxK bp (pxL p) w3.drew ∧ ∀ j, j < 6 → w3.drew.cell? ⟨lb, lo + i * 6 + j, none⟩ = (mkL ⟨xp, xv, xs, xh, xd⟩)[j]?) := ⟨HX5.out.blk ((drew_bel w3).block _ HX5.out.lt), HX4.out.blk ((drew_bel w3).block _ HX4.out.lt), HCE.out _ HBD.out⟩
    refine wp_region_held_drew (S := fun W => SB DdK bd (ddL c (some ⟨lb, lo, none⟩) n cap) W ∧ SB PxK bp (pxL p) W ∧ ∀ j, j < 6 → W.cell? ⟨lb, lo + i * 6 + j, none⟩ = (mkL ⟨xp, xv, xs, xh, xd⟩)[j]?) (by kernel_rfl) HS0.out (fun hHeld => ?_)
    obtain ⟨wd, hwd⟩ : ∃ z, w3.drew = z := ⟨_, rfl⟩
    rw [hwd] at HBD hHeld ⊢
    clear hwd HS0 HX4 HX5
    cases xh with
    | false =>
      rw [Bool.false_and] at HE
      refine wpAnyH_take (i := 0) (v := .int .i64 (i : Int)) rfl (by kernel_rfl) (by kernel_rfl) (by kernel_rfl) (fun _ _ _ h => h) (Or.inl ⟨by rfl, ?_⟩) (by assumption) ?_
      case refine_1 => intro W hSw; go_simp; try rfl
      try simp only [Act.put, List.getElem_toArray, List.getElem_cons_zero, List.getElem_cons_succ, List.setIfInBounds_toArray, List.set_cons_zero, List.set_cons_succ]
      refine wpAnyH_take (i := 1) (v := .bool true) rfl (by kernel_rfl) (by kernel_rfl) (by kernel_rfl) (fun _ _ _ h => h) (Or.inl ⟨by rfl, ?_⟩) (by assumption) ?_
      case refine_1 => intro W hSw; go_simp; try rfl
      try simp only [Act.put, List.getElem_toArray, List.getElem_cons_zero, List.getElem_cons_succ, List.setIfInBounds_toArray, List.set_cons_zero, List.set_cons_succ]
      refine wpAnyH_take (i := 2) (v := .bool true) rfl (by kernel_rfl) (by kernel_rfl) (by kernel_rfl) (fun _ _ _ h => h) (Or.inl ⟨by rfl, ?_⟩) (by assumption) ?_
      case refine_1 => intro W hSw; go_simp; try rfl
      try simp only [Act.put, List.getElem_toArray, List.getElem_cons_zero, List.getElem_cons_succ, List.setIfInBounds_toArray, List.set_cons_zero, List.set_cons_succ]
      refine wpAnyH_take (i := 3) (v := .pointer (some ⟨bd, 7, none⟩)) rfl (by kernel_rfl) (by kernel_rfl) (by kernel_rfl) (fun _ _ _ h => h) (Or.inl ⟨by rfl, ?_⟩) (by assumption) ?_
      case refine_1 => intro W hSw; go_simp; try rfl
      try simp only [Act.put, List.getElem_toArray, List.getElem_cons_zero, List.getElem_cons_succ, List.setIfInBounds_toArray, List.set_cons_zero, List.set_cons_succ]
      refine wpAnyH_take (i := 4) (v := .slice (some ⟨lb, lo, none⟩) n cap) rfl (by kernel_rfl) (by kernel_rfl) (by kernel_rfl) (fun _ _ _ h => h) (Or.inl ⟨by rfl, ?_⟩) (by assumption) ?_
      case refine_1 => intro W hSw; have k1 : W.cell? ⟨bd, 7, none⟩ = some (.slice (some ⟨lb, lo, none⟩) n cap) := hSw.1.cell 7; go_simp; try rfl
      try simp only [Act.put, List.getElem_toArray, List.getElem_cons_zero, List.getElem_cons_succ, List.setIfInBounds_toArray, List.set_cons_zero, List.set_cons_succ]
      refine wpAnyH_take (i := 5) (v := .int .i64 (i : Int)) rfl (by kernel_rfl) (by kernel_rfl) (by kernel_rfl) (fun _ _ _ h => h) (Or.inl ⟨by rfl, ?_⟩) (by assumption) ?_
      case refine_1 => intro W hSw; go_simp; try rfl
      try simp only [Act.put, List.getElem_toArray, List.getElem_cons_zero, List.getElem_cons_succ, List.setIfInBounds_toArray, List.set_cons_zero, List.set_cons_succ]
      refine wpAnyH_take (i := 6) (v := .pointer (some ⟨lb, lo + i * 6, none⟩)) rfl (by kernel_rfl) (by kernel_rfl) (by kernel_rfl) (fun _ _ _ h => h) (Or.inl ⟨by rfl, ?_⟩) (by assumption) ?_
      case refine_1 => intro W hSw; go_simp; try rfl
      try simp only [Act.put, List.getElem_toArray, List.getElem_cons_zero, List.getElem_cons_succ, List.setIfInBounds_toArray, List.set_cons_zero, List.set_cons_succ]
      refine wpAnyH_take (i := 7) (v := .pointer (some ⟨lb, lo + i * 6 + 4, none⟩)) rfl (by kernel_rfl) (by kernel_rfl) (by kernel_rfl) (fun _ _ _ h => h) (Or.inl ⟨by rfl, ?_⟩) (by assumption) ?_
      case refine_1 => intro W hSw; go_simp; try rfl
      try simp only [Act.put, List.getElem_toArray, List.getElem_cons_zero, List.getElem_cons_succ, List.setIfInBounds_toArray, List.set_cons_zero, List.set_cons_succ]
      refine wpAnyH_take (i := 8) (v := .bool false) rfl (by kernel_rfl) (by kernel_rfl) (by kernel_rfl) (fun _ _ _ h => h) (Or.inl ⟨by rfl, ?_⟩) (by assumption) ?_
      case refine_1 => intro W hSw; have k2 : W.cell? ⟨lb, lo + i * 6 + 4, none⟩ = some (.bool false) := hSw.2.2 4 (by decide); go_simp; try rfl
      try simp only [Act.put, List.getElem_toArray, List.getElem_cons_zero, List.getElem_cons_succ, List.setIfInBounds_toArray, List.set_cons_zero, List.set_cons_succ]
      refine wpAnyH_take (i := 9) (v := .bool false) rfl (by kernel_rfl) (by kernel_rfl) (by kernel_rfl) (fun _ _ _ h => h) (Or.inl ⟨by rfl, ?_⟩) (by assumption) ?_
      case refine_1 => intro W hSw; go_simp; try rfl
      try simp only [Act.put, List.getElem_toArray, List.getElem_cons_zero, List.getElem_cons_succ, List.setIfInBounds_toArray, List.set_cons_zero, List.set_cons_succ]
      refine wpAnyH_take (i := 10) (v := .bool false) rfl (by kernel_rfl) (by kernel_rfl) (by kernel_rfl) (fun _ _ _ h => h) (Or.inl ⟨by rfl, ?_⟩) (by assumption) ?_
      case refine_1 => intro W hSw; go_simp; try rfl
      try simp only [Act.put, List.getElem_toArray, List.getElem_cons_zero, List.getElem_cons_succ, List.setIfInBounds_toArray, List.set_cons_zero, List.set_cons_succ]
      refine wpAnyH_take (i := 11) (v := undef) rfl (by kernel_rfl) (by kernel_rfl) (by kernel_rfl) (fun _ _ _ h => h) (Or.inr ⟨by rfl, rfl⟩) (by assumption) ?_
      try simp only [Act.put, List.getElem_toArray, List.getElem_cons_zero, List.getElem_cons_succ, List.setIfInBounds_toArray, List.set_cons_zero, List.set_cons_succ]
      refine wpAnyH_take (i := 12) (v := undef) rfl (by kernel_rfl) (by kernel_rfl) (by kernel_rfl) (fun _ _ _ h => h) (Or.inr ⟨by rfl, rfl⟩) (by assumption) ?_
      try simp only [Act.put, List.getElem_toArray, List.getElem_cons_zero, List.getElem_cons_succ, List.setIfInBounds_toArray, List.set_cons_zero, List.set_cons_succ]
      refine wpAnyH_take (i := 13) (v := undef) rfl (by kernel_rfl) (by kernel_rfl) (by kernel_rfl) (fun _ _ _ h => h) (Or.inr ⟨by rfl, rfl⟩) (by assumption) ?_
      try simp only [Act.put, List.getElem_toArray, List.getElem_cons_zero, List.getElem_cons_succ, List.setIfInBounds_toArray, List.set_cons_zero, List.set_cons_succ]
      refine wpAnyH_take (i := 14) (v := undef) rfl (by kernel_rfl) (by kernel_rfl) (by kernel_rfl) (fun _ _ _ h => h) (Or.inr ⟨by rfl, rfl⟩) (by assumption) ?_
      try simp only [Act.put, List.getElem_toArray, List.getElem_cons_zero, List.getElem_cons_succ, List.setIfInBounds_toArray, List.set_cons_zero, List.set_cons_succ]
      refine wpAnyH_take (i := 15) (v := undef) rfl (by kernel_rfl) (by kernel_rfl) (by kernel_rfl) (fun _ _ _ h => h) (Or.inr ⟨by rfl, rfl⟩) (by assumption) ?_
      try simp only [Act.put, List.getElem_toArray, List.getElem_cons_zero, List.getElem_cons_succ, List.setIfInBounds_toArray, List.set_cons_zero, List.set_cons_succ]
      refine wpAnyH_take (i := 16) (v := undef) rfl (by kernel_rfl) (by kernel_rfl) (by kernel_rfl) (fun _ _ _ h => h) (Or.inr ⟨by rfl, rfl⟩) (by assumption) ?_
      try simp only [Act.put, List.getElem_toArray, List.getElem_cons_zero, List.getElem_cons_succ, List.setIfInBounds_toArray, List.set_cons_zero, List.set_cons_succ]
      refine wpAnyH_take (i := 17) (v := undef) rfl (by kernel_rfl) (by kernel_rfl) (by kernel_rfl) (fun _ _ _ h => h) (Or.inr ⟨by rfl, rfl⟩) (by assumption) ?_
      try simp only [Act.put, List.getElem_toArray, List.getElem_cons_zero, List.getElem_cons_succ, List.setIfInBounds_toArray, List.set_cons_zero, List.set_cons_succ]
      refine wpAnyH_take (i := 18) (v := undef) rfl (by kernel_rfl) (by kernel_rfl) (by kernel_rfl) (fun _ _ _ h => h) (Or.inr ⟨by rfl, rfl⟩) (by assumption) ?_
      try simp only [Act.put, List.getElem_toArray, List.getElem_cons_zero, List.getElem_cons_succ, List.setIfInBounds_toArray, List.set_cons_zero, List.set_cons_succ]
      refine wpAnyH_take (i := 19) (v := .bool false) rfl (by kernel_rfl) (by kernel_rfl) (by kernel_rfl) (fun _ _ _ h => h) (Or.inl ⟨by rfl, ?_⟩) (by assumption) ?_
      case refine_1 => intro W hSw; go_simp; try rfl
      try simp only [Act.put, List.getElem_toArray, List.getElem_cons_zero, List.getElem_cons_succ, List.setIfInBounds_toArray, List.set_cons_zero, List.set_cons_succ]
      refine wpAnyH_take (i := 20) (v := .bool false) rfl (by kernel_rfl) (by kernel_rfl) (by kernel_rfl) (fun _ _ _ h => h) (Or.inl ⟨by rfl, ?_⟩) (by assumption) ?_
      case refine_1 => intro W hSw; go_simp; try rfl
      try simp only [Act.put, List.getElem_toArray, List.getElem_cons_zero, List.getElem_cons_succ, List.setIfInBounds_toArray, List.set_cons_zero, List.set_cons_succ]
      refine wpAnyH_done (by kernel_rfl) ?_ _
      clear hHeld
      go_wp2_with fail
      go_ret
      rw [HE.out]
      exact ⟨rfl, HBD.out⟩
    | true =>
      rw [Bool.true_and] at HE
      refine wpAnyH_take (i := 0) (v := .int .i64 (i : Int)) rfl (by kernel_rfl) (by kernel_rfl) (by kernel_rfl) (fun _ _ _ h => h) (Or.inl ⟨by rfl, ?_⟩) (by assumption) ?_
      case refine_1 => intro W hSw; go_simp; try rfl
      try simp only [Act.put, List.getElem_toArray, List.getElem_cons_zero, List.getElem_cons_succ, List.setIfInBounds_toArray, List.set_cons_zero, List.set_cons_succ]
      refine wpAnyH_take (i := 1) (v := .bool true) rfl (by kernel_rfl) (by kernel_rfl) (by kernel_rfl) (fun _ _ _ h => h) (Or.inl ⟨by rfl, ?_⟩) (by assumption) ?_
      case refine_1 => intro W hSw; go_simp; try rfl
      try simp only [Act.put, List.getElem_toArray, List.getElem_cons_zero, List.getElem_cons_succ, List.setIfInBounds_toArray, List.set_cons_zero, List.set_cons_succ]
      refine wpAnyH_take (i := 2) (v := .bool true) rfl (by kernel_rfl) (by kernel_rfl) (by kernel_rfl) (fun _ _ _ h => h) (Or.inl ⟨by rfl, ?_⟩) (by assumption) ?_
      case refine_1 => intro W hSw; go_simp; try rfl
      try simp only [Act.put, List.getElem_toArray, List.getElem_cons_zero, List.getElem_cons_succ, List.setIfInBounds_toArray, List.set_cons_zero, List.set_cons_succ]
      refine wpAnyH_take (i := 3) (v := .pointer (some ⟨bd, 7, none⟩)) rfl (by kernel_rfl) (by kernel_rfl) (by kernel_rfl) (fun _ _ _ h => h) (Or.inl ⟨by rfl, ?_⟩) (by assumption) ?_
      case refine_1 => intro W hSw; go_simp; try rfl
      try simp only [Act.put, List.getElem_toArray, List.getElem_cons_zero, List.getElem_cons_succ, List.setIfInBounds_toArray, List.set_cons_zero, List.set_cons_succ]
      refine wpAnyH_take (i := 4) (v := .slice (some ⟨lb, lo, none⟩) n cap) rfl (by kernel_rfl) (by kernel_rfl) (by kernel_rfl) (fun _ _ _ h => h) (Or.inl ⟨by rfl, ?_⟩) (by assumption) ?_
      case refine_1 => intro W hSw; have k1 : W.cell? ⟨bd, 7, none⟩ = some (.slice (some ⟨lb, lo, none⟩) n cap) := hSw.1.cell 7; go_simp; try rfl
      try simp only [Act.put, List.getElem_toArray, List.getElem_cons_zero, List.getElem_cons_succ, List.setIfInBounds_toArray, List.set_cons_zero, List.set_cons_succ]
      refine wpAnyH_take (i := 5) (v := .int .i64 (i : Int)) rfl (by kernel_rfl) (by kernel_rfl) (by kernel_rfl) (fun _ _ _ h => h) (Or.inl ⟨by rfl, ?_⟩) (by assumption) ?_
      case refine_1 => intro W hSw; go_simp; try rfl
      try simp only [Act.put, List.getElem_toArray, List.getElem_cons_zero, List.getElem_cons_succ, List.setIfInBounds_toArray, List.set_cons_zero, List.set_cons_succ]
      refine wpAnyH_take (i := 6) (v := .pointer (some ⟨lb, lo + i * 6, none⟩)) rfl (by kernel_rfl) (by kernel_rfl) (by kernel_rfl) (fun _ _ _ h => h) (Or.inl ⟨by rfl, ?_⟩) (by assumption) ?_
      case refine_1 => intro W hSw; go_simp; try rfl
      try simp only [Act.put, List.getElem_toArray, List.getElem_cons_zero, List.getElem_cons_succ, List.setIfInBounds_toArray, List.set_cons_zero, List.set_cons_succ]
      refine wpAnyH_take (i := 7) (v := .pointer (some ⟨lb, lo + i * 6 + 4, none⟩)) rfl (by kernel_rfl) (by kernel_rfl) (by kernel_rfl) (fun _ _ _ h => h) (Or.inl ⟨by rfl, ?_⟩) (by assumption) ?_
      case refine_1 => intro W hSw; go_simp; try rfl
      try simp only [Act.put, List.getElem_toArray, List.getElem_cons_zero, List.getElem_cons_succ, List.setIfInBounds_toArray, List.set_cons_zero, List.set_cons_succ]
      refine wpAnyH_take (i := 8) (v := .bool true) rfl (by kernel_rfl) (by kernel_rfl) (by kernel_rfl) (fun _ _ _ h => h) (Or.inl ⟨by rfl, ?_⟩) (by assumption) ?_
      case refine_1 => intro W hSw; have k2 : W.cell? ⟨lb, lo + i * 6 + 4, none⟩ = some (.bool true) := hSw.2.2 4 (by decide); go_simp; try rfl
      try simp only [Act.put, List.getElem_toArray, List.getElem_cons_zero, List.getElem_cons_succ, List.setIfInBounds_toArray, List.set_cons_zero, List.set_cons_succ]
      refine wpAnyH_take (i := 9) (v := .bool true) rfl (by kernel_rfl) (by kernel_rfl) (by kernel_rfl) (fun _ _ _ h => h) (Or.inl ⟨by rfl, ?_⟩) (by assumption) ?_
      case refine_1 => intro W hSw; go_simp; try rfl
      try simp only [Act.put, List.getElem_toArray, List.getElem_cons_zero, List.getElem_cons_succ, List.setIfInBounds_toArray, List.set_cons_zero, List.set_cons_succ]
      refine wpAnyH_take (i := 10) (v := .bool true) rfl (by kernel_rfl) (by kernel_rfl) (by kernel_rfl) (fun _ _ _ h => h) (Or.inl ⟨by rfl, ?_⟩) (by assumption) ?_
      case refine_1 => intro W hSw; go_simp; try rfl
      try simp only [Act.put, List.getElem_toArray, List.getElem_cons_zero, List.getElem_cons_succ, List.setIfInBounds_toArray, List.set_cons_zero, List.set_cons_succ]
      refine wpAnyH_take (i := 11) (v := .agg (ddL c (some ⟨lb, lo, none⟩) n cap).toArray) rfl (by kernel_rfl) (by kernel_rfl) (by kernel_rfl) (fun _ _ _ h => h) (Or.inl ⟨by rfl, fun W hSw => Go.Proofs.Ytjfiahendnlcjaa.Ge.sload_run DdK (.tmp 3) rfl (b := bd) rfl hSw.1 rfl⟩) (by assumption) ?_
      try simp only [Act.put, List.getElem_toArray, List.getElem_cons_zero, List.getElem_cons_succ, List.setIfInBounds_toArray, List.set_cons_zero, List.set_cons_succ]
      refine wpAnyH_take (i := 12) (v := .agg (pxL p).toArray) rfl (by kernel_rfl) (by kernel_rfl) (by kernel_rfl) (fun _ _ _ h => h) (Or.inl ⟨by rfl, fun W hSw => Go.Proofs.Ytjfiahendnlcjaa.Ge.sload_run PxK (.tmp 4) rfl (b := bp) rfl hSw.2.1 rfl⟩) (by assumption) ?_
      try simp only [Act.put, List.getElem_toArray, List.getElem_cons_zero, List.getElem_cons_succ, List.setIfInBounds_toArray, List.set_cons_zero, List.set_cons_succ]
      refine wpAnyH_take (i := 13) (v := .int .i64 (now : Int)) rfl (by kernel_rfl) (by kernel_rfl) (by kernel_rfl) (fun _ _ _ h => h) (Or.inl ⟨by rfl, ?_⟩) (by assumption) ?_
      case refine_1 => intro W hSw; go_simp; try rfl
      try simp only [Act.put, List.getElem_toArray, List.getElem_cons_zero, List.getElem_cons_succ, List.setIfInBounds_toArray, List.set_cons_zero, List.set_cons_succ]
      refine wpAnyH_take (i := 15) (v := .pointer (some ⟨bd, 0, none⟩)) rfl (by kernel_rfl) (by kernel_rfl) (by kernel_rfl) (fun _ _ _ h => h) (Or.inl ⟨by rfl, ?_⟩) (by assumption) ?_
      case refine_1 => intro W hSw; go_simp; try rfl
      try simp only [Act.put, List.getElem_toArray, List.getElem_cons_zero, List.getElem_cons_succ, List.setIfInBounds_toArray, List.set_cons_zero, List.set_cons_succ]
      refine wpAnyH_take (i := 16) (v := .pointer (some ⟨bd, 2, none⟩)) rfl (by kernel_rfl) (by kernel_rfl) (by kernel_rfl) (fun _ _ _ h => h) (Or.inl ⟨by rfl, ?_⟩) (by assumption) ?_
      case refine_1 => intro W hSw; go_simp; try rfl
      try simp only [Act.put, List.getElem_toArray, List.getElem_cons_zero, List.getElem_cons_succ, List.setIfInBounds_toArray, List.set_cons_zero, List.set_cons_succ]
      refine wpAnyH_take (i := 17) (v := .int .i64 (c.reuse : Int)) rfl (by kernel_rfl) (by kernel_rfl) (by kernel_rfl) (fun _ _ _ h => h) (Or.inl ⟨by rfl, ?_⟩) (by assumption) ?_
      case refine_1 => intro W hSw; have k1 : W.cell? ⟨bd, 2, none⟩ = some (.int .i64 (c.reuse : Int)) := hSw.1.cell 2; go_simp; try rfl
      try simp only [Act.put, List.getElem_toArray, List.getElem_cons_zero, List.getElem_cons_succ, List.setIfInBounds_toArray, List.set_cons_zero, List.set_cons_succ]
      refine wpAnyH_ready (rs := [14]) (by kernel_rfl) (by simp) ?_
      refine AllReadyH.cons rfl (fun K hK => ?_) AllReadyH.nil
      have HPE := dpen_any c HC.out _ n cap L HN.out HBL.out p now HNW.out wd (H.out.bel HBD.out)
      go_simp
      refine HPE.mono ?_
      rintro e we ⟨rfl, hbe⟩
      have HBE : Hid (Below w.heap.size w we) := HBD.out.trans (hbe.mono HBD.out.size)
      refine hK.out _ _ ⟨hHeld.1.blk (hbe.block _ hHeld.1.lt), hHeld.2.1.blk (hbe.block _ hHeld.2.1.lt), HCE.out _ HBE.out⟩ (fun hHeld => ?_)
      clear hK K hbe HPE
      obtain ⟨pz, hpz⟩ : ∃ y, penP c (dfn L) p now = y := ⟨_, rfl⟩
      rw [hpz] at HE ⊢
      obtain ⟨r, hr⟩ : ∃ y, decide (c.reuse ≤ pz) = y := ⟨_, rfl⟩
      have hr2 : decide ((c.reuse : Int) ≤ (pz : Int)) = r := by rw [← hr]; exact decide_eq_decide.2 (by omega)
      rw [hr] at HE
      clear hpz
      try simp only [Act.put, List.getElem_toArray, List.getElem_cons_zero, List.getElem_cons_succ, List.setIfInBounds_toArray, List.set_cons_zero, List.set_cons_succ]
      refine wpAnyH_take (i := 18) (v := .bool r) rfl (by kernel_rfl) (by kernel_rfl) (by kernel_rfl) (fun _ _ _ h => h) (Or.inl ⟨by rfl, ?_⟩) (by assumption) ?_
      case refine_1 => intro W hSw; go_simp; try rfl
      try simp only [Act.put, List.getElem_toArray, List.getElem_cons_zero, List.getElem_cons_succ, List.setIfInBounds_toArray, List.set_cons_zero, List.set_cons_succ]
      refine wpAnyH_take (i := 19) (v := .bool r) rfl (by kernel_rfl) (by kernel_rfl) (by kernel_rfl) (fun _ _ _ h => h) (Or.inl ⟨by rfl, ?_⟩) (by assumption) ?_
      case refine_1 => intro W hSw; go_simp; try rfl
      try simp only [Act.put, List.getElem_toArray, List.getElem_cons_zero, List.getElem_cons_succ, List.setIfInBounds_toArray, List.set_cons_zero, List.set_cons_succ]
      refine wpAnyH_take (i := 20) (v := .bool r) rfl (by kernel_rfl) (by kernel_rfl) (by kernel_rfl) (fun _ _ _ h => h) (Or.inl ⟨by rfl, ?_⟩) (by assumption) ?_
      case refine_1 => intro W hSw; go_simp; try rfl
      try simp only [Act.put, List.getElem_toArray, List.getElem_cons_zero, List.getElem_cons_succ, List.setIfInBounds_toArray, List.set_cons_zero, List.set_cons_succ]
      refine wpAnyH_done (by kernel_rfl) ?_ _
      clear hHeld
      go_wp2_with fail
      go_ret
      rw [HE.out]
      exact ⟨rfl, HBE.out⟩
end Go.Proofs.Ytjfiahendnlcjaa.Da
