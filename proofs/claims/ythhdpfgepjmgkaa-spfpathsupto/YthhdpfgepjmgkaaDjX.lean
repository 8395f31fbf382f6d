/- spread: who gets a turn since one is reached otherwise. -/
import Derived.Test.YthhdpfgepjmgkaaDjW
namespace Go.Proofs.Ythhdpfgepjmgkaa.Dj
open Go.ChangeShapes Go.WideShapes Go.ChangeAt Go.RowKit Go.Joins Go.Deep Go.Proofs.Ythhdpfgepjmgkaa.Ge
set_option linter.unusedVariables false
set_option linter.unusedSimpArgs false

theorem now_bd {f : Kw} {U : List Int} (h : FOk f U) (n : Int) : 0 ≤ (nowP f n).1 ∧ (nowP f n).1 ≤ far ∧ (∀ y ∈ (nowP f n).2, y ∈ U) ∧ (nowP f n).2.length ≤ 100000000 := by
  cases hn : f n with
  | none => rw [now_none hn]; exact ⟨by decide, Int.le_refl _, fun y hy => absurd hy List.not_mem_nil, Nat.zero_le _⟩
  | some p => obtain ⟨d, ls⟩ := p; rw [now_some hn]; exact h _ _ _ hn
/-- between two edges -/
structure SI (w : World) (N b5 b6 qb db : Nat) (qv : Value) (r q : Rc) (KQ : Nat) (due : Int → Option Int) (W : World) : Prop where
  kf : Kf (fpQ qb db qv) w W
  x5 : SB RcK b5 (rcL r) W
  x6 : SB RcK b6 (rcL q) W
  qs : ∃ v', Qs N qb db v' KQ due W ∧ ¬ fpQ qb db v' b5 ∧ ¬ fpQ qb db v' b6 ∧ ∀ g, v'.ownBlock = some g → qv.ownBlock = some g ∨ w.heap.size ≤ g
theorem SI.nx {w : World} {N b5 b6 qb db : Nat} {qv : Value} {r q : Rc} {KQ : Nat} {due : Int → Option Int} {W W' : World} (h : SI w N b5 b6 qb db qv r q KQ due W) (hb : Below W.heap.size W W') : SI w N b5 b6 qb db qv r q KQ due W' := by
  obtain ⟨v', h1, h2⟩ := h.qs
  exact ⟨h.kf.trans (Kf.of_bel (F := fpQ qb db qv) hb) (fun _ _ c => c), h.x5.blk (hb.block b5 h.x5.lt), h.x6.blk (hb.block b6 h.x6.lt), v', h1.bel hb, h2⟩
theorem SI.up {w : World} {N b5 b6 qb db : Nat} {qv : Value} {r q : Rc} {KQ KQ' : Nat} {due : Int → Option Int} {W : World} (h : SI w N b5 b6 qb db qv r q KQ due W) (hk : KQ ≤ KQ') : SI w N b5 b6 qb db qv r q KQ' due W := by
  obtain ⟨v', h1, h2⟩ := h.qs
  exact ⟨h.kf, h.x5, h.x6, v', h1.mono hk, h2⟩
set_option maxRecDepth 100000 in
set_option maxHeartbeats 32000000 in
theorem spread_any (B N : Nat) (w0 : World) (N1 : Nat) (Fo Fi : Nat → Prop) (em : Ents Pt Int) (cm : Nat) (eo : Ents Int Sl) (co : Nat) (ei : Ents Int Sl) (ci : Nat) (b : Nb) (vs : List Ed) (root : Int) (tb kb : Nat) (f : Kw) (k : Nat) (F : Nat → Prop) (U : List Int) (qb db : Nat) (qv : Value) (KQ : Nat) (due : Int → Option Int) (r : Rc) (w : World) (hB : w0.heap.size = B) (hN : N ≤ w.heap.size) (ht : SB TrK tb (trL b root kb) w) (hnw : Nw N1 b vs Fo Fi em cm eo co ei ci w0) (hb0 : Below B w0 w) (hk : Kn kb f k F w) (hf : FOk f U) (hvs : vs.length < 500000000) (hok : ∀ e ∈ vs, 1 ≤ e.c ∧ e.c ≤ 65535) (hq : Qs N qb db qv KQ due w) (hap : ∀ g, fpQ qb db qv g → B ≤ g ∧ g ≠ tb ∧ g ≠ kb ∧ ¬ F g) (hK : KQ < 500000000) (hr : 0 ≤ r.d ∧ r.d ≤ far) : Calls Try.prog 43 #[.pointer (some ⟨tb, 0, none⟩), .pointer (some ⟨qb, 0, none⟩), .agg (rcL r).toArray] w (AdPost w N qb db qv (KQ + (vs.filter (fun e => decide (e.f = r.n))).length) ((vs.filter (fun e => decide (e.f = r.n))).foldl (spS vs f r.d (nowP f r.n).1) due)) := by
  have HT : Hid (SB TrK tb (trL b root kb) w) := ht
  have HNG : Hid (NgB B b vs w ∧ B ≤ w.heap.size ∧ N ≤ w.heap.size) := ⟨⟨fun W hW => ⟨N1, Fo, Fi, em, cm, eo, co, ei, ci, hnw.bel (by rw [hB]; exact hb0.trans hW)⟩⟩, by have := hb0.size; omega, hN⟩
  have HNW : Hid (w0.heap.size = B ∧ Nw N1 b vs Fo Fi em cm eo co ei ci w0 ∧ Below B w0 w) := ⟨hB, hnw, hb0⟩
  have HK : Hid (Kn kb f k F w) := hk
  have HF : Hid (FOk f U) := hf
  have HOK : Hid (∀ e ∈ vs, 1 ≤ e.c ∧ e.c ≤ 65535) := hok
  have HVS : Hid (vs.length < 500000000 ∧ KQ < 500000000) := ⟨hvs, hK⟩
  have HQS : Hid (Qs N qb db qv KQ due w) := hq
  have HAP : Hid (∀ g, fpQ qb db qv g → B ≤ g ∧ g ≠ tb ∧ g ≠ kb ∧ ¬ F g) := hap
  have HR : Hid (0 ≤ r.d ∧ r.d ≤ far) := hr
  clear hB hN ht hnw hb0 hk hf hok hvs hq hap hK hr
  go_enter Try.func43, Try.ntmps43
  go_wp2_with (refine list_boxl RcK rfl _ rfl (cs := rcL r) rfl ?_)
  intro b5 w1 hb5 hs5 hbl5
  have HB1 : Hid (w.heap.size = b5 ∧ Below w.heap.size w w1) := ⟨hb5.out, hbl5.out⟩
  have HS5 : Hid (SB RcK b5 (rcL r) w1) := hs5.out
  have c50 : w1.cell? ⟨b5, 0, none⟩ = some (.int .i64 r.n) := hs5.out.cell 0
  clear hb5 hs5 hbl5
  go_wp2_with fail
  refine (now_any b root tb kb f k F r.n w1 (HT.out.blk (HB1.out.2.block tb HT.out.lt)) (HK.out.bel HB1.out.2)).mono ?_
  rintro e w2 ⟨q, rfl, hqn, hqd, hqo, hb2⟩
  have HQ : Hid (q.n = r.n ∧ nowP f r.n = (q.d, q.ls)) := ⟨hqn, hqd⟩
  have HB2 : Hid (w1.heap.size ≤ w2.heap.size ∧ Below w.heap.size w w2 ∧ SB RcK b5 (rcL r) w2) := ⟨hb2.size, HB1.out.2.trans (hb2.mono HB1.out.2.size), HS5.out.blk (hb2.block b5 HS5.out.lt)⟩
  have H51 : Hid (b5 < w1.heap.size) := HS5.out.lt
  clear hqn hqd hqo hb2 c50 HS5
  go_wp2_with (refine list_newl RcK _ z_rc rfl rfl ?_)
  intro b6 w3 hb6 hs6 hbl6
  have HB3 : Hid (w2.heap.size = b6 ∧ Below w.heap.size w w3 ∧ SB RcK b5 (rcL r) w3) := ⟨hb6.out, HB2.out.2.1.trans (hbl6.out.mono HB2.out.2.1.size), HB2.out.2.2.blk (hbl6.out.block b5 HB2.out.2.2.lt)⟩
  have HS6 : Hid (SB RcK b6 (rcL zr) w3) := hs6.out
  clear hb6 hs6 hbl6
  go_wp2_with (refine list_sstore RcK rfl _ _ rfl (b := b6) (cs := rcL zr) (cs' := rcL q) rfl rfl HS6.out rfl rfl rfl ?_)
  intro w4 hs6 hk6
  have HBW : Hid (Below w.heap.size w w4) := HB3.out.2.1.trans (hk6.out.below (by have h1 := HB3.out.1; have h2 := HB2.out.2.1.size; omega))
  have H56 : Hid (w.heap.size ≤ b5 ∧ b5 < b6) := ⟨by have := HB1.out.1; omega, by have h1 := HB3.out.1; have h2 := HB2.out.1; have h3 := H51.out; omega⟩
  have H5F : Hid (∀ g v', fpQ qb db v' g → w.heap.size ≤ g → (∀ g, v'.ownBlock = some g → qv.ownBlock = some g) → False) := fun g v' hg hl ho => by
    have h9 : fpQ qb db qv g := hg.imp id (fun c => c.imp id (fun c => ho g c))
    have := HQS.out.lt g h9
    omega
  have HI0 : Hid (SI w N b5 b6 qb db qv r q KQ due w4) := ⟨Kf.of_bel HBW.out, HB3.out.2.2.blk (hk6.out.block b5 (by have := H56.out; omega)), hs6.out, qv, HQS.out.bel HBW.out, fun c => H5F.out b5 qv c H56.out.1 (fun _ h => h), fun c => H5F.out b6 qv c (by have := H56.out; omega) (fun _ h => h), fun g h => .inl h⟩
  have HT4 : Hid (SB TrK tb (trL b root kb) w4) := HT.out.blk (HBW.out.block tb HT.out.lt)
  clear hs6 hk6 HS6 HB1 HB2 HB3 H51
  have hnw : Nw N1 b vs Fo Fi em cm eo co ei ci w := HNW.out.2.1.bel (by rw [HNW.out.1]; exact HNW.out.2.2)
  have HMO : Hid (MB MIS b.o eo co w4) := hnw.out.m.blk (HBW.out.block b.o hnw.out.m.lt)
  have hown := hnw.out.own r.n
  obtain ⟨L, hL⟩ : ∃ y, vs.filter (fun e => decide (e.f = r.n)) = y := ⟨_, rfl⟩
  have HLL : Hid (vs.filter (fun e => decide (e.f = r.n)) = L) := hL
  try dsimp only at hown
  rw [hL] at hown
  obtain ⟨⟨la, ln, lc⟩, hse⟩ : ∃ s : Sl, s0 eo r.n = s := ⟨_, rfl⟩
  rw [hse] at hown
  have HLS : Hid (Lst EE w la L ∧ L.length = ln ∧ ln < 500000000 ∧ (∀ e ∈ L, e ∈ vs) ∧ KQ + ln < 1000000000) := by
    have h1 : L.length = ln := hown.lst.2
    have h2 := List.length_filter_le (fun e => decide (e.f = r.n)) vs
    rw [hL] at h2
    have h3 := HVS.out
    exact ⟨hown.lst.1, h1, by omega, fun e he => by rw [← hL] at he; exact (List.mem_filter.1 he).1, by omega⟩
  have HGI : Hid (MIS.got eo r.n = .slice la ln lc) := by show _ = _; rw [got_is, hse]; rfl
  have HND : Hid ((nowP f r.n).1 = q.d) := by show _ = _; rw [HQ.out.2]
  have HLW : Hid (∀ W, Below B w W → Lst EE W la L) := fun W hW => by
    have h1 := ((HNW.out.2.1.bel (by rw [HNW.out.1]; exact HNW.out.2.2.trans hW) : Nw N1 b vs Fo Fi em cm eo co ei ci W)).out.own r.n
    try dsimp only at h1
    rw [HLL.out, hse] at h1
    exact h1.lst.1
  clear hnw hown hL hse
  go_upto_region 2 with fail
  obtain ⟨w5, hw5⟩ : ∃ y, w4.drew = y := ⟨_, rfl⟩
  have HW5 : Hid (w4.drew = w5) := hw5
  have HBE : Hid (Below w4.heap.size w4 w5) := by rw [← hw5]; exact drew_bel w4
  have HI4 : Hid (SI w N b5 b6 qb db qv r q KQ due w5) := HI0.out.nx HBE.out
  have HM5 : Hid (SB TrK tb (trL b root kb) w5 ∧ SB RcK b5 (rcL r) w5 ∧ MB MIS b.o eo co w5) := ⟨HT4.out.blk (HBE.out.block tb HT4.out.lt), HI4.out.x5, HMO.out.blk (HBE.out.block b.o HMO.out.lt)⟩
  clear hw5 HT4 HBE
  refine wp_region_held_drew (S := fun W => SB TrK tb (trL b root kb) W ∧ SB RcK b5 (rcL r) W ∧ MB MIS b.o eo co W) (by kernel_rfl) (by rw [HW5.out]; exact HM5.out) (fun hHeld => ?_)
  rw [HW5.out] at hHeld ⊢
  refine wpAnyH_take (i := 0) (v := .pointer (some ⟨tb, 0, none⟩)) rfl (by kernel_rfl) (by kernel_rfl) (by kernel_rfl) (fun _ _ _ h => h) (Or.inl ⟨by rfl, ?_⟩) (by assumption) ?_
  case refine_1 => intro W hSw; go_simp; try rfl
  try simp only [Act.put, List.getElem_toArray, List.getElem_cons_zero, List.getElem_cons_succ, List.setIfInBounds_toArray, List.set_cons_zero, List.set_cons_succ]
  refine wpAnyH_take (i := 1) (v := .pointer (some ⟨tb, 0, none⟩)) rfl (by kernel_rfl) (by kernel_rfl) (by kernel_rfl) (fun _ _ _ h => h) (Or.inl ⟨by rfl, ?_⟩) (by assumption) ?_
  case refine_1 => intro W hSw; go_simp; try rfl
  try simp only [Act.put, List.getElem_toArray, List.getElem_cons_zero, List.getElem_cons_succ, List.setIfInBounds_toArray, List.set_cons_zero, List.set_cons_succ]
  refine wpAnyH_take (i := 2) (v := .pointer (some ⟨tb, 0, none⟩)) rfl (by kernel_rfl) (by kernel_rfl) (by kernel_rfl) (fun _ _ _ h => h) (Or.inl ⟨by rfl, ?_⟩) (by assumption) ?_
  case refine_1 => intro W hSw; go_simp; try rfl
  try simp only [Act.put, List.getElem_toArray, List.getElem_cons_zero, List.getElem_cons_succ, List.setIfInBounds_toArray, List.set_cons_zero, List.set_cons_succ]
  refine wpAnyH_take (i := 3) (v := .pointer (some ⟨tb, 2, none⟩)) rfl (by kernel_rfl) (by kernel_rfl) (by kernel_rfl) (fun _ _ _ h => h) (Or.inl ⟨by rfl, ?_⟩) (by assumption) ?_
  case refine_1 => intro W hSw; go_simp; try rfl
  try simp only [Act.put, List.getElem_toArray, List.getElem_cons_zero, List.getElem_cons_succ, List.setIfInBounds_toArray, List.set_cons_zero, List.set_cons_succ]
  refine wpAnyH_take (i := 4) (v := .map (some b.o)) rfl (by kernel_rfl) (by kernel_rfl) (by kernel_rfl) (fun _ _ _ h => h) (Or.inl ⟨by rfl, ?_⟩) (by assumption) ?_
  case refine_1 => intro W hSw; have k1 : W.cell? ⟨tb, 2, none⟩ = some (.map (some b.o)) := hSw.1.cell 2; go_simp; try rfl
  try simp only [Act.put, List.getElem_toArray, List.getElem_cons_zero, List.getElem_cons_succ, List.setIfInBounds_toArray, List.set_cons_zero, List.set_cons_succ]
  refine wpAnyH_take (i := 5) (v := .pointer (some ⟨b5, 0, none⟩)) rfl (by kernel_rfl) (by kernel_rfl) (by kernel_rfl) (fun _ _ _ h => h) (Or.inl ⟨by rfl, ?_⟩) (by assumption) ?_
  case refine_1 => intro W hSw; go_simp; try rfl
  try simp only [Act.put, List.getElem_toArray, List.getElem_cons_zero, List.getElem_cons_succ, List.setIfInBounds_toArray, List.set_cons_zero, List.set_cons_succ]
  refine wpAnyH_take (i := 6) (v := .int .i64 r.n) rfl (by kernel_rfl) (by kernel_rfl) (by kernel_rfl) (fun _ _ _ h => h) (Or.inl ⟨by rfl, ?_⟩) (by assumption) ?_
  case refine_1 => intro W hSw; have k1 : W.cell? ⟨b5, 0, none⟩ = some (.int .i64 r.n) := hSw.2.1.cell 0; go_simp; try rfl
  try simp only [Act.put, List.getElem_toArray, List.getElem_cons_zero, List.getElem_cons_succ, List.setIfInBounds_toArray, List.set_cons_zero, List.set_cons_succ]
  refine wpAnyH_take (i := 7) (v := .slice la ln lc) rfl (by kernel_rfl) (by kernel_rfl) (by kernel_rfl) (fun _ _ _ h => h) (Or.inl ⟨by rfl, (fun W hSw => look_runv MIS (.tmp 20) (.tmp 22) rfl (k := r.n) rfl rfl hSw.2.2 HGI.out)⟩) (by assumption) ?_
  try simp only [Act.put, List.getElem_toArray, List.getElem_cons_zero, List.getElem_cons_succ, List.setIfInBounds_toArray, List.set_cons_zero, List.set_cons_succ]
  refine wpAnyH_take (i := 8) (v := .int .i64 (ln : Int)) rfl (by kernel_rfl) (by kernel_rfl) (by kernel_rfl) (fun _ _ _ h => h) (Or.inl ⟨by rfl, ?_⟩) (by assumption) ?_
  case refine_1 => intro W hSw; go_simp; try rfl
  try simp only [Act.put, List.getElem_toArray, List.getElem_cons_zero, List.getElem_cons_succ, List.setIfInBounds_toArray, List.set_cons_zero, List.set_cons_succ]
  refine wpAnyH_take (i := 9) (v := .int .i64 0) rfl (by kernel_rfl) (by kernel_rfl) (by kernel_rfl) (fun _ _ _ h => h) (Or.inl ⟨by rfl, ?_⟩) (by assumption) ?_
  case refine_1 => intro W hSw; go_simp; try rfl
  try simp only [Act.put, List.getElem_toArray, List.getElem_cons_zero, List.getElem_cons_succ, List.setIfInBounds_toArray, List.set_cons_zero, List.set_cons_succ]
  refine wpAnyH_done (by kernel_rfl) ?_ _
  clear hHeld HM5
  go_wp2_with fail
  go_loopw [25, 8, 9, 10, 11] (fun iv _ _ _ _ wr => ∃ (i : Nat), i ≤ ln ∧ iv = .int .i64 (i : Int) ∧ SI w N b5 b6 qb db qv r q (KQ + i) ((L.take i).foldl (spS vs f r.d q.d) due) wr) (fun iv _ _ _ _ _ => ln - (intOf iv).toNat)
  case atStart => exact ⟨0, Nat.zero_le _, rfl, by rw [List.take_zero]; exact HI4.out⟩
  case round =>
    obtain ⟨i, hi, rfl, hbi⟩ := hrel
    obtain ⟨wz, hwz⟩ : ∃ y, wr = y := ⟨_, rfl⟩
    rw [hwz] at hbi ⊢
    have HSI : Hid (SI w N b5 b6 qb db qv r q (KQ + i) ((L.take i).foldl (spS vs f r.d q.d) due) wz) := hbi
    clear hbi hwz HI0 HMO HGI HI4
    have hilb : (i : Int) < 500000000 := by have := HLS.out.2.2.1; omega
    by_cases hlt : i < ln
    case neg =>
      have hii : ¬ (i : Int) < (ln : Int) := by omega
      have HE : Hid (AdPost w N qb db qv (KQ + (vs.filter (fun e => decide (e.f = r.n))).length) ((vs.filter (fun e => decide (e.f = r.n))).foldl (spS vs f r.d (nowP f r.n).1) due) (.returned (.tuple #[])) wz) := by
        rw [HLL.out, HND.out, HLS.out.2.1]
        obtain ⟨v', h1, -, -, h2⟩ := HSI.out.qs
        rw [List.take_of_length_le (by rw [HLS.out.2.1]; omega)] at h1
        exact ⟨rfl, v', h1.mono (by omega), HSI.out.kf, h2⟩
      go_wp2_with fail
      go_end0
      exact HE.out
    have hii : (i : Int) < (ln : Int) := by omega
    have ii0 : (0 : Int) ≤ (i : Int) := by omega
    have HFB : Hid (∀ g, fpQ qb db qv g → B ≤ g) := fun g hg => (HAP.out g hg).1
    have HBB : Hid (Below B w wz) := HSI.out.kf.below HNG.out.2.1 HFB.out
    have HTz : Hid (SB TrK tb (trL b root kb) wz) := HT.out.blk (HSI.out.kf.blk tb HT.out.lt (fun c => (HAP.out tb c).2.1 rfl))
    have HKz : Hid (Kn kb f k F wz) := HK.out.kf HSI.out.kf (fun g hg c => hg.elim (fun e => (HAP.out g c).2.2.1 e) (fun e => (HAP.out g c).2.2.2 e))
    obtain ⟨lb, lo, rfl, -, hce⟩ := (HLW.out wz HBB.out).cells i (by rw [HLS.out.2.1]; exact hlt)
    obtain ⟨x, hx⟩ : ∃ y, L[i]'(by rw [HLS.out.2.1]; exact hlt) = y := ⟨_, rfl⟩
    rw [hx] at hce
    have HCE : Hid (∀ j, j < EdK.k → wz.cell? ⟨lb, lo + i * 4 + j, none⟩ = (edL x)[j]?) := hce
    have HTK : Hid (L.take (i + 1) = L.take i ++ [x]) := by rw [← hx]; exact (List.take_append_getElem _).symm
    have HXV : Hid (x ∈ vs) := by rw [← hx]; exact HLS.out.2.2.2.1 _ (List.getElem_mem _)
    clear hce hx
    go_wp2_with (first | (refine list_sat EdK rfl _ rfl (b := lb) (k := lo + i * 4) (cs := edL x) rfl HCE.out rfl ?_) | (refine list_newl EdK _ z_ed rfl rfl ?_))
    intro b8 w8 hb8 hs8 hbl8
    have HB8 : Hid (wz.heap.size ≤ b8 ∧ Below wz.heap.size wz w8) := ⟨by rw [hb8.out]; exact Nat.le_refl _, hbl8.out⟩
    have HS8 : Hid (SB EdK b8 (edL ⟨0, 0, 0, 0⟩) w8) := hs8.out
    clear hb8 hs8 hbl8 HCE
    go_wp2_with (refine list_sstore EdK rfl _ _ rfl (b := b8) (cs := edL ⟨0, 0, 0, 0⟩) (cs' := edL x) rfl rfl HS8.out rfl rfl rfl ?_)
    intro w9 hs9 hk9
    have HS9 : Hid (SB EdK b8 (edL x) w9) := hs9.out
    have HB9 : Hid (Below wz.heap.size wz w9) := HB8.out.2.trans (hk9.out.below HB8.out.1)
    have c81 : w9.cell? ⟨b8, 1, none⟩ = some (.int .i64 x.t) := HS9.out.cell 1
    clear hs9 hk9 HS8
    go_wp2_with fail
    refine (now_any b root tb kb f k F x.t w9 (HTz.out.blk (HB9.out.block tb HTz.out.lt)) (HKz.out.bel HB9.out)).mono ?_
    rintro e w10 ⟨z, rfl, hzn, hz, hzo, hb10⟩
    have HZ : Hid ((nowP f x.t).1 = z.d) := by show _ = _; rw [hz]
    have hfd : ∀ W, Sem.run Try.prog (Instr.field 32 (.agg (rcL z).toArray) 1) W = .ok (.int .i64 z.d) W := fun _ => by kernel_rfl
    have HB10 : Hid (Below wz.heap.size wz w10) := HB9.out.trans (hb10.mono HB9.out.size)
    have HS10 : Hid (SB EdK b8 (edL x) w10) := HS9.out.blk (hb10.block b8 HS9.out.lt)
    have HSI10 : Hid (SI w N b5 b6 qb db qv r q (KQ + i) ((L.take i).foldl (spS vs f r.d q.d) due) w10) := HSI.out.nx HB10.out
    have HT10 : Hid (SB TrK tb (trL b root kb) w10) := HTz.out.blk (HB10.out.block tb HTz.out.lt)
    have HN10 : Hid (Below B w w10) := HSI10.out.kf.below HNG.out.2.1 HFB.out
    clear hzn hz hzo hb10 c81 HS9 HSI HTz HKz HB9 HB8
    have HZB : Hid (0 ≤ z.d ∧ z.d ≤ far) := by rw [← HZ.out]; exact ⟨(now_bd HF.out x.t).1, (now_bd HF.out x.t).2.1⟩
    have HQB : Hid (0 ≤ q.d ∧ q.d ≤ far) := by rw [← HND.out]; exact ⟨(now_bd HF.out r.n).1, (now_bd HF.out r.n).2.1⟩
    have HXC : Hid (1 ≤ x.c ∧ x.c ≤ 65535) := HOK.out x HXV.out
    obtain ⟨dz, hdz⟩ : ∃ y, z.d = y := ⟨_, rfl⟩
    have HDZ : Hid (z.d = dz) := hdz
    obtain ⟨sw, hsw⟩ : ∃ y, r.d + x.c = y := ⟨_, rfl⟩
    have HSW : Hid (r.d + x.c = sw) := hsw
    obtain ⟨sn, hsn⟩ : ∃ y, q.d + x.c = y := ⟨_, rfl⟩
    have HSN : Hid (q.d + x.c = sn) := hsn
    have hsw2 : wrap64 (r.d + x.c) = sw := by rw [← hsw]; have h1 := HR.out; have h2 := HXC.out; unfold far at h1; unfold wrap64; omega
    have hsn2 : wrap64 (q.d + x.c) = sn := by rw [← hsn]; have h1 := HQB.out; have h2 := HXC.out; unfold far at h1; unfold wrap64; omega
    have hsw3 : IntKind.i64.wrap (r.d + x.c) = sw := by rw [← hsw]; have h1 := HR.out; have h2 := HXC.out; unfold far at h1; exact wr64 _ (by omega) (by omega)
    have hsn3 : IntKind.i64.wrap (q.d + x.c) = sn := by rw [← hsn]; have h1 := HQB.out; have h2 := HXC.out; unfold far at h1; exact wr64 _ (by omega) (by omega)
    obtain ⟨lo', hlo⟩ : ∃ y, (sw == dz) = y := ⟨_, rfl⟩
    have HLO : Hid ((sw == dz) = lo') := hlo
    obtain ⟨ga, hga⟩ : ∃ y, decide (sn ≤ dz) = y := ⟨_, rfl⟩
    have HGA : Hid (decide (sn ≤ dz) = ga) := hga
    clear hsw hsn hlo hga
    go_upto_region 6 with fail
    clear hdz hfd
    obtain ⟨wd, hwd⟩ : ∃ y, w10.drew = y := ⟨_, rfl⟩
    have HWD : Hid (w10.drew = wd) := hwd
    have HBD : Hid (Below w10.heap.size w10 wd) := by rw [← hwd]; exact drew_bel w10
    have HS8D : Hid (SB EdK b8 (edL x) wd) := HS10.out.blk (HBD.out.block b8 HS10.out.lt)
    have HTD : Hid (SB TrK tb (trL b root kb) wd) := HT10.out.blk (HBD.out.block tb HT10.out.lt)
    have HSID : Hid (SI w N b5 b6 qb db qv r q (KQ + i) ((L.take i).foldl (spS vs f r.d q.d) due) wd) := HSI10.out.nx HBD.out
    clear hwd HBD HS10 HT10 HSI10 HN10
    refine wp_region_held_drew (S := fun W => SB RcK b5 (rcL r) W ∧ SB EdK b8 (edL x) W ∧ SB RcK b6 (rcL q) W) (by kernel_rfl) (by rw [HWD.out]; exact ⟨HSID.out.x5, HS8D.out, HSID.out.x6⟩) (fun hHeld => ?_)
    rw [HWD.out] at hHeld ⊢
    refine wpAnyH_take (i := 0) (v := .pointer (some ⟨b5, 1, none⟩)) rfl (by kernel_rfl) (by kernel_rfl) (by kernel_rfl) (fun _ _ _ h => h) (Or.inl ⟨by rfl, ?_⟩) (by assumption) ?_
    case refine_1 => intro W hSw; go_simp; try rfl
    try simp only [Act.put, List.getElem_toArray, List.getElem_cons_zero, List.getElem_cons_succ, List.setIfInBounds_toArray, List.set_cons_zero, List.set_cons_succ]
    refine wpAnyH_take (i := 1) (v := .int .i64 r.d) rfl (by kernel_rfl) (by kernel_rfl) (by kernel_rfl) (fun _ _ _ h => h) (Or.inl ⟨by rfl, ?_⟩) (by assumption) ?_
    case refine_1 => intro W hSw; have k1 : W.cell? ⟨b5, 1, none⟩ = some (.int .i64 r.d) := hSw.1.cell 1; go_simp; try rfl
    try simp only [Act.put, List.getElem_toArray, List.getElem_cons_zero, List.getElem_cons_succ, List.setIfInBounds_toArray, List.set_cons_zero, List.set_cons_succ]
    refine wpAnyH_take (i := 2) (v := .pointer (some ⟨b8, 2, none⟩)) rfl (by kernel_rfl) (by kernel_rfl) (by kernel_rfl) (fun _ _ _ h => h) (Or.inl ⟨by rfl, ?_⟩) (by assumption) ?_
    case refine_1 => intro W hSw; go_simp; try rfl
    try simp only [Act.put, List.getElem_toArray, List.getElem_cons_zero, List.getElem_cons_succ, List.setIfInBounds_toArray, List.set_cons_zero, List.set_cons_succ]
    refine wpAnyH_take (i := 3) (v := .int .i64 x.c) rfl (by kernel_rfl) (by kernel_rfl) (by kernel_rfl) (fun _ _ _ h => h) (Or.inl ⟨by rfl, ?_⟩) (by assumption) ?_
    case refine_1 => intro W hSw; have k1 : W.cell? ⟨b8, 2, none⟩ = some (.int .i64 x.c) := hSw.2.1.cell 2; go_simp; try rfl
    try simp only [Act.put, List.getElem_toArray, List.getElem_cons_zero, List.getElem_cons_succ, List.setIfInBounds_toArray, List.set_cons_zero, List.set_cons_succ]
    refine wpAnyH_take (i := 4) (v := .int .i64 sw) rfl (by kernel_rfl) (by kernel_rfl) (by kernel_rfl) (fun _ _ _ h => h) (Or.inl ⟨by rfl, ?_⟩) (by assumption) ?_
    case refine_1 => intro W hSw; go_simp; try rfl
    try simp only [Act.put, List.getElem_toArray, List.getElem_cons_zero, List.getElem_cons_succ, List.setIfInBounds_toArray, List.set_cons_zero, List.set_cons_succ]
    refine wpAnyH_take (i := 5) (v := .int .i64 dz) rfl (by kernel_rfl) (by kernel_rfl) (by kernel_rfl) (fun _ _ _ h => h) (Or.inl ⟨by rfl, ?_⟩) (by assumption) ?_
    case refine_1 => intro W hSw; go_simp; try rfl
    try simp only [Act.put, List.getElem_toArray, List.getElem_cons_zero, List.getElem_cons_succ, List.setIfInBounds_toArray, List.set_cons_zero, List.set_cons_succ]
    refine wpAnyH_take (i := 6) (v := .bool lo') rfl (by kernel_rfl) (by kernel_rfl) (by kernel_rfl) (fun _ _ _ h => h) (Or.inl ⟨by rfl, ?_⟩) (by assumption) ?_
    case refine_1 => intro W hSw; go_simp; all_goals first | exact HLO.out | (simpa using HLO.out) | rfl
    try simp only [Act.put, List.getElem_toArray, List.getElem_cons_zero, List.getElem_cons_succ, List.setIfInBounds_toArray, List.set_cons_zero, List.set_cons_succ]
    refine wpAnyH_take (i := 7) (v := .pointer (some ⟨b6, 1, none⟩)) rfl (by kernel_rfl) (by kernel_rfl) (by kernel_rfl) (fun _ _ _ h => h) (Or.inl ⟨by rfl, ?_⟩) (by assumption) ?_
    case refine_1 => intro W hSw; go_simp; try rfl
    try simp only [Act.put, List.getElem_toArray, List.getElem_cons_zero, List.getElem_cons_succ, List.setIfInBounds_toArray, List.set_cons_zero, List.set_cons_succ]
    refine wpAnyH_take (i := 8) (v := .int .i64 q.d) rfl (by kernel_rfl) (by kernel_rfl) (by kernel_rfl) (fun _ _ _ h => h) (Or.inl ⟨by rfl, ?_⟩) (by assumption) ?_
    case refine_1 => intro W hSw; have k1 : W.cell? ⟨b6, 1, none⟩ = some (.int .i64 q.d) := hSw.2.2.cell 1; go_simp; try rfl
    try simp only [Act.put, List.getElem_toArray, List.getElem_cons_zero, List.getElem_cons_succ, List.setIfInBounds_toArray, List.set_cons_zero, List.set_cons_succ]
    refine wpAnyH_take (i := 9) (v := .pointer (some ⟨b8, 2, none⟩)) rfl (by kernel_rfl) (by kernel_rfl) (by kernel_rfl) (fun _ _ _ h => h) (Or.inl ⟨by rfl, ?_⟩) (by assumption) ?_
    case refine_1 => intro W hSw; go_simp; try rfl
    try simp only [Act.put, List.getElem_toArray, List.getElem_cons_zero, List.getElem_cons_succ, List.setIfInBounds_toArray, List.set_cons_zero, List.set_cons_succ]
    refine wpAnyH_take (i := 10) (v := .int .i64 x.c) rfl (by kernel_rfl) (by kernel_rfl) (by kernel_rfl) (fun _ _ _ h => h) (Or.inl ⟨by rfl, ?_⟩) (by assumption) ?_
    case refine_1 => intro W hSw; have k1 : W.cell? ⟨b8, 2, none⟩ = some (.int .i64 x.c) := hSw.2.1.cell 2; go_simp; try rfl
    try simp only [Act.put, List.getElem_toArray, List.getElem_cons_zero, List.getElem_cons_succ, List.setIfInBounds_toArray, List.set_cons_zero, List.set_cons_succ]
    refine wpAnyH_take (i := 11) (v := .int .i64 sn) rfl (by kernel_rfl) (by kernel_rfl) (by kernel_rfl) (fun _ _ _ h => h) (Or.inl ⟨by rfl, ?_⟩) (by assumption) ?_
    case refine_1 => intro W hSw; go_simp; try rfl
    try simp only [Act.put, List.getElem_toArray, List.getElem_cons_zero, List.getElem_cons_succ, List.setIfInBounds_toArray, List.set_cons_zero, List.set_cons_succ]
    refine wpAnyH_take (i := 12) (v := .int .i64 dz) rfl (by kernel_rfl) (by kernel_rfl) (by kernel_rfl) (fun _ _ _ h => h) (Or.inl ⟨by rfl, ?_⟩) (by assumption) ?_
    case refine_1 => intro W hSw; go_simp; try rfl
    try simp only [Act.put, List.getElem_toArray, List.getElem_cons_zero, List.getElem_cons_succ, List.setIfInBounds_toArray, List.set_cons_zero, List.set_cons_succ]
    refine wpAnyH_take (i := 13) (v := .bool ga) rfl (by kernel_rfl) (by kernel_rfl) (by kernel_rfl) (fun _ _ _ h => h) (Or.inl ⟨by rfl, ?_⟩) (by assumption) ?_
    case refine_1 => intro W hSw; go_simp; all_goals first | exact HGA.out | (simpa using HGA.out) | rfl
    try simp only [Act.put, List.getElem_toArray, List.getElem_cons_zero, List.getElem_cons_succ, List.setIfInBounds_toArray, List.set_cons_zero, List.set_cons_succ]
    refine wpAnyH_take (i := 14) (v := .bool lo') rfl (by kernel_rfl) (by kernel_rfl) (by kernel_rfl) (fun _ _ _ h => h) (Or.inl ⟨by rfl, ?_⟩) (by assumption) ?_
    case refine_1 => intro W hSw; go_simp; try rfl
    try simp only [Act.put, List.getElem_toArray, List.getElem_cons_zero, List.getElem_cons_succ, List.setIfInBounds_toArray, List.set_cons_zero, List.set_cons_succ]
    refine wpAnyH_take (i := 15) (v := .bool ga) rfl (by kernel_rfl) (by kernel_rfl) (by kernel_rfl) (fun _ _ _ h => h) (Or.inl ⟨by rfl, ?_⟩) (by assumption) ?_
    case refine_1 => intro W hSw; go_simp; try rfl
    try simp only [Act.put, List.getElem_toArray, List.getElem_cons_zero, List.getElem_cons_succ, List.setIfInBounds_toArray, List.set_cons_zero, List.set_cons_succ]
    refine wpAnyH_done (by kernel_rfl) ?_ _
    clear hHeld hsw2 hsn2 hsw3 hsn3
    go_upto_region 7 with fail
    obtain ⟨wh, hwh⟩ : ∃ y, wd.drew = y := ⟨_, rfl⟩
    have HWH : Hid (wd.drew = wh) := hwh
    have HBH : Hid (Below wd.heap.size wd wh) := by rw [← hwh]; exact drew_bel wd
    have HS8H : Hid (SB EdK b8 (edL x) wh) := HS8D.out.blk (HBH.out.block b8 HS8D.out.lt)
    have HTH : Hid (SB TrK tb (trL b root kb) wh) := HTD.out.blk (HBH.out.block tb HTD.out.lt)
    have HSIH : Hid (SI w N b5 b6 qb db qv r q (KQ + i) ((L.take i).foldl (spS vs f r.d q.d) due) wh) := HSID.out.nx HBH.out
    clear hwh HS8D HTD HSID HBH HWD
    refine wp_region_held_drew (S := fun W => SB EdK b8 (edL x) W ∧ SB TrK tb (trL b root kb) W) (by kernel_rfl) (by rw [HWH.out]; exact ⟨HS8H.out, HTH.out⟩) (fun hHeld => ?_)
    rw [HWH.out] at hHeld ⊢
    by_cases hlg : lo' = false ∧ ga = false
    case pos =>
      obtain ⟨h1, h2⟩ := hlg
      subst h1
      subst h2
      have HSK : Hid (spS vs f r.d q.d ((L.take i).foldl (spS vs f r.d q.d) due) x = (L.take i).foldl (spS vs f r.d q.d) due) := by
        show _ = _
        unfold spS
        rw [if_neg]
        rintro ⟨h1 | h1, -⟩
        · rw [HZ.out, HDZ.out, HSW.out] at h1
          have := HLO.out
          simp [h1] at this
        · rw [HZ.out, HDZ.out, HSN.out] at h1
          have := HGA.out
          simp [h1] at this
      refine wpAnyH_take (i := 0) (v := .bool false) rfl (by kernel_rfl) (by kernel_rfl) (by kernel_rfl) (fun _ _ _ h => h) (Or.inl ⟨by rfl, ?_⟩) (by assumption) ?_
      case refine_1 => intro W hSw; go_simp; try rfl
      try simp only [Act.put, List.getElem_toArray, List.getElem_cons_zero, List.getElem_cons_succ, List.setIfInBounds_toArray, List.set_cons_zero, List.set_cons_succ]
      refine wpAnyH_take (i := 1) (v := .bool false) rfl (by kernel_rfl) (by kernel_rfl) (by kernel_rfl) (fun _ _ _ h => h) (Or.inl ⟨by rfl, ?_⟩) (by assumption) ?_
      case refine_1 => intro W hSw; go_simp; try rfl
      try simp only [Act.put, List.getElem_toArray, List.getElem_cons_zero, List.getElem_cons_succ, List.setIfInBounds_toArray, List.set_cons_zero, List.set_cons_succ]
      refine wpAnyH_take (i := 2) (v := .bool false) rfl (by kernel_rfl) (by kernel_rfl) (by kernel_rfl) (fun _ _ _ h => h) (Or.inl ⟨by rfl, ?_⟩) (by assumption) ?_
      case refine_1 => intro W hSw; go_simp; try rfl
      try simp only [Act.put, List.getElem_toArray, List.getElem_cons_zero, List.getElem_cons_succ, List.setIfInBounds_toArray, List.set_cons_zero, List.set_cons_succ]
      refine wpAnyH_take (i := 3) (v := .bool false) rfl (by kernel_rfl) (by kernel_rfl) (by kernel_rfl) (fun _ _ _ h => h) (Or.inl ⟨by rfl, ?_⟩) (by assumption) ?_
      case refine_1 => intro W hSw; go_simp; try rfl
      try simp only [Act.put, List.getElem_toArray, List.getElem_cons_zero, List.getElem_cons_succ, List.setIfInBounds_toArray, List.set_cons_zero, List.set_cons_succ]
      refine wpAnyH_take (i := 4) (v := .bool false) rfl (by kernel_rfl) (by kernel_rfl) (by kernel_rfl) (fun _ _ _ h => h) (Or.inl ⟨by rfl, ?_⟩) (by assumption) ?_
      case refine_1 => intro W hSw; go_simp; try rfl
      try simp only [Act.put, List.getElem_toArray, List.getElem_cons_zero, List.getElem_cons_succ, List.setIfInBounds_toArray, List.set_cons_zero, List.set_cons_succ]
      refine wpAnyH_take (i := 5) (v := undef) rfl (by kernel_rfl) (by kernel_rfl) (by kernel_rfl) (fun _ _ _ h => h) (Or.inr ⟨by rfl, rfl⟩) (by assumption) ?_
      try simp only [Act.put, List.getElem_toArray, List.getElem_cons_zero, List.getElem_cons_succ, List.setIfInBounds_toArray, List.set_cons_zero, List.set_cons_succ]
      refine wpAnyH_take (i := 6) (v := undef) rfl (by kernel_rfl) (by kernel_rfl) (by kernel_rfl) (fun _ _ _ h => h) (Or.inr ⟨by rfl, rfl⟩) (by assumption) ?_
      try simp only [Act.put, List.getElem_toArray, List.getElem_cons_zero, List.getElem_cons_succ, List.setIfInBounds_toArray, List.set_cons_zero, List.set_cons_succ]
      refine wpAnyH_take (i := 7) (v := undef) rfl (by kernel_rfl) (by kernel_rfl) (by kernel_rfl) (fun _ _ _ h => h) (Or.inr ⟨by rfl, rfl⟩) (by assumption) ?_
      try simp only [Act.put, List.getElem_toArray, List.getElem_cons_zero, List.getElem_cons_succ, List.setIfInBounds_toArray, List.set_cons_zero, List.set_cons_succ]
      refine wpAnyH_take (i := 8) (v := undef) rfl (by kernel_rfl) (by kernel_rfl) (by kernel_rfl) (fun _ _ _ h => h) (Or.inr ⟨by rfl, rfl⟩) (by assumption) ?_
      try simp only [Act.put, List.getElem_toArray, List.getElem_cons_zero, List.getElem_cons_succ, List.setIfInBounds_toArray, List.set_cons_zero, List.set_cons_succ]
      refine wpAnyH_take (i := 9) (v := undef) rfl (by kernel_rfl) (by kernel_rfl) (by kernel_rfl) (fun _ _ _ h => h) (Or.inr ⟨by rfl, rfl⟩) (by assumption) ?_
      try simp only [Act.put, List.getElem_toArray, List.getElem_cons_zero, List.getElem_cons_succ, List.setIfInBounds_toArray, List.set_cons_zero, List.set_cons_succ]
      refine wpAnyH_take (i := 10) (v := undef) rfl (by kernel_rfl) (by kernel_rfl) (by kernel_rfl) (fun _ _ _ h => h) (Or.inr ⟨by rfl, rfl⟩) (by assumption) ?_
      try simp only [Act.put, List.getElem_toArray, List.getElem_cons_zero, List.getElem_cons_succ, List.setIfInBounds_toArray, List.set_cons_zero, List.set_cons_succ]
      refine wpAnyH_take (i := 11) (v := .bool false) rfl (by kernel_rfl) (by kernel_rfl) (by kernel_rfl) (fun _ _ _ h => h) (Or.inl ⟨by rfl, ?_⟩) (by assumption) ?_
      case refine_1 => intro W hSw; go_simp; try rfl
      try simp only [Act.put, List.getElem_toArray, List.getElem_cons_zero, List.getElem_cons_succ, List.setIfInBounds_toArray, List.set_cons_zero, List.set_cons_succ]
      refine wpAnyH_done (by kernel_rfl) ?_ _
      clear hHeld
      go_wp2_with fail
      refine ⟨⟨i + 1, by omega, by simp, by rw [HTK.out, List.foldl_append]; show SI w N b5 b6 qb db qv r q _ (spS _ _ _ _ _ _) _; rw [HSK.out]; exact HSIH.out.up (by omega)⟩, ?_⟩
      simp [intOf]
      omega
    have HLG : Hid ((r.d + x.c = (nowP f x.t).1 ∨ q.d + x.c ≤ (nowP f x.t).1)) := by
      show _ ∨ _
      rw [HZ.out, HDZ.out, HSW.out, HSN.out]
      have h1 := HLO.out
      have h2 := HGA.out
      cases lo' <;> cases ga
      · exact absurd ⟨rfl, rfl⟩ hlg
      · exact .inr (by simpa using h2)
      · exact .inl (by simpa using h1)
      · exact .inl (by simpa using h1)
    obtain ⟨lg, hlg2⟩ : ∃ y, (lo' || ga) = y := ⟨_, rfl⟩
    have hlt : lg = true := by
      rw [← hlg2]
      cases lo' <;> cases ga
      · exact absurd ⟨rfl, rfl⟩ hlg
      all_goals rfl
    clear hlg
    cases lo'
    case true =>
      refine wpAnyH_take (i := 0) (v := .bool true) rfl (by kernel_rfl) (by kernel_rfl) (by kernel_rfl) (fun _ _ _ h => h) (Or.inl ⟨by rfl, ?_⟩) (by assumption) ?_
      case refine_1 => intro W hSw; go_simp; try rfl
      try simp only [Act.put, List.getElem_toArray, List.getElem_cons_zero, List.getElem_cons_succ, List.setIfInBounds_toArray, List.set_cons_zero, List.set_cons_succ]
      refine wpAnyH_take (i := 1) (v := .bool true) rfl (by kernel_rfl) (by kernel_rfl) (by kernel_rfl) (fun _ _ _ h => h) (Or.inl ⟨by rfl, ?_⟩) (by assumption) ?_
      case refine_1 => intro W hSw; go_simp; try rfl
      try simp only [Act.put, List.getElem_toArray, List.getElem_cons_zero, List.getElem_cons_succ, List.setIfInBounds_toArray, List.set_cons_zero, List.set_cons_succ]
      refine wpAnyH_take (i := 2) (v := undef) rfl (by kernel_rfl) (by kernel_rfl) (by kernel_rfl) (fun _ _ _ h => h) (Or.inr ⟨by rfl, rfl⟩) (by assumption) ?_
      try simp only [Act.put, List.getElem_toArray, List.getElem_cons_zero, List.getElem_cons_succ, List.setIfInBounds_toArray, List.set_cons_zero, List.set_cons_succ]
      refine wpAnyH_take (i := 3) (v := .bool true) rfl (by kernel_rfl) (by kernel_rfl) (by kernel_rfl) (fun _ _ _ h => h) (Or.inl ⟨by rfl, ?_⟩) (by assumption) ?_
      case refine_1 => intro W hSw; go_simp; try rfl
      try simp only [Act.put, List.getElem_toArray, List.getElem_cons_zero, List.getElem_cons_succ, List.setIfInBounds_toArray, List.set_cons_zero, List.set_cons_succ]
      refine wpAnyH_take (i := 4) (v := .bool true) rfl (by kernel_rfl) (by kernel_rfl) (by kernel_rfl) (fun _ _ _ h => h) (Or.inl ⟨by rfl, ?_⟩) (by assumption) ?_
      case refine_1 => intro W hSw; go_simp; try rfl
      try simp only [Act.put, List.getElem_toArray, List.getElem_cons_zero, List.getElem_cons_succ, List.setIfInBounds_toArray, List.set_cons_zero, List.set_cons_succ]
      refine wpAnyH_take (i := 5) (v := .pointer (some ⟨tb, 0, none⟩)) rfl (by kernel_rfl) (by kernel_rfl) (by kernel_rfl) (fun _ _ _ h => h) (Or.inl ⟨by rfl, ?_⟩) (by assumption) ?_
      case refine_1 => intro W hSw; go_simp; try rfl
      try simp only [Act.put, List.getElem_toArray, List.getElem_cons_zero, List.getElem_cons_succ, List.setIfInBounds_toArray, List.set_cons_zero, List.set_cons_succ]
      refine wpAnyH_take (i := 6) (v := .pointer (some ⟨tb, 0, none⟩)) rfl (by kernel_rfl) (by kernel_rfl) (by kernel_rfl) (fun _ _ _ h => h) (Or.inl ⟨by rfl, ?_⟩) (by assumption) ?_
      case refine_1 => intro W hSw; go_simp; try rfl
      try simp only [Act.put, List.getElem_toArray, List.getElem_cons_zero, List.getElem_cons_succ, List.setIfInBounds_toArray, List.set_cons_zero, List.set_cons_succ]
      refine wpAnyH_take (i := 7) (v := .pointer (some ⟨tb, 0, none⟩)) rfl (by kernel_rfl) (by kernel_rfl) (by kernel_rfl) (fun _ _ _ h => h) (Or.inl ⟨by rfl, ?_⟩) (by assumption) ?_
      case refine_1 => intro W hSw; go_simp; try rfl
      try simp only [Act.put, List.getElem_toArray, List.getElem_cons_zero, List.getElem_cons_succ, List.setIfInBounds_toArray, List.set_cons_zero, List.set_cons_succ]
      refine wpAnyH_take (i := 8) (v := .agg (nwL b).toArray) rfl (by kernel_rfl) (by kernel_rfl) (by kernel_rfl) (fun _ _ _ h => h) (Or.inl ⟨by rfl, (fun W hSw => sat_run NwK (.tmp 55) rfl (b := tb) (k := 0) rfl (fun j hj => by rw [Nat.zero_add, hSw.2.cell]; rcases (show j = 0 ∨ j = 1 ∨ j = 2 ∨ j = 3 from by have h9 : j < 4 := hj; omega) with rfl | rfl | rfl | rfl <;> rfl) rfl)⟩) (by assumption) ?_
      try simp only [Act.put, List.getElem_toArray, List.getElem_cons_zero, List.getElem_cons_succ, List.setIfInBounds_toArray, List.set_cons_zero, List.set_cons_succ]
      refine wpAnyH_take (i := 9) (v := .agg (edL x).toArray) rfl (by kernel_rfl) (by kernel_rfl) (by kernel_rfl) (fun _ _ _ h => h) (Or.inl ⟨by rfl, (fun W hSw => Go.Proofs.Ythhdpfgepjmgkaa.Ge.sload_run EdK (.tmp 8) rfl (b := b8) rfl hSw.1 rfl)⟩) (by assumption) ?_
      try simp only [Act.put, List.getElem_toArray, List.getElem_cons_zero, List.getElem_cons_succ, List.setIfInBounds_toArray, List.set_cons_zero, List.set_cons_succ]
      refine wpAnyH_ready (rs := [10]) (by kernel_rfl) (by simp) ?_
      refine AllReadyH.cons rfl (fun K hK => ?_) AllReadyH.nil
      go_simp
      obtain ⟨ps, hps⟩ : ∃ y, decide (0 < cnt vs (x.t, x.f)) = y := ⟨_, rfl⟩
      have HPS : Hid (decide (0 < cnt vs (x.t, x.f)) = ps) := hps
      refine (stands_any b vs x ps hps wh (HNG.out.1.rd wh (HSIH.out.kf.below HNG.out.2.1 HFB.out))).mono ?_
      rintro e wf ⟨rfl, hbf⟩
      refine hK.out _ _ ⟨hHeld.1.blk (hbf.block b8 hHeld.1.lt), hHeld.2.blk (hbf.block tb hHeld.2.lt)⟩ (fun hHeld => ?_)
      have HSIF : Hid (SI w N b5 b6 qb db qv r q (KQ + i) ((L.take i).foldl (spS vs f r.d q.d) due) wf) := HSIH.out.nx hbf
      have HS8F : Hid (SB EdK b8 (edL x) wf) := hHeld.1
      clear hK K hbf hps
      try simp only [Act.put, List.getElem_toArray, List.getElem_cons_zero, List.getElem_cons_succ, List.setIfInBounds_toArray, List.set_cons_zero, List.set_cons_succ]
      refine wpAnyH_take (i := 11) (v := .bool ps) rfl (by kernel_rfl) (by kernel_rfl) (by kernel_rfl) (fun _ _ _ h => h) (Or.inl ⟨by rfl, ?_⟩) (by assumption) ?_
      case refine_1 => intro W hSw; go_simp; try rfl
      try simp only [Act.put, List.getElem_toArray, List.getElem_cons_zero, List.getElem_cons_succ, List.setIfInBounds_toArray, List.set_cons_zero, List.set_cons_succ]
      refine wpAnyH_done (by kernel_rfl) ?_ _
      clear hHeld hlt hlg2
      cases ps
      case false =>
        have HSK : Hid (spS vs f r.d q.d ((L.take i).foldl (spS vs f r.d q.d) due) x = (L.take i).foldl (spS vs f r.d q.d) due) := by
          show _ = _
          unfold spS
          rw [if_neg]
          rintro ⟨-, h1⟩
          have := HPS.out
          simp [h1] at this
        go_wp2_with fail
        refine ⟨⟨i + 1, by omega, by simp, by rw [HTK.out, List.foldl_append]; show SI w N b5 b6 qb db qv r q _ (spS _ _ _ _ _ _) _; rw [HSK.out]; exact HSIF.out.up (by omega)⟩, ?_⟩
        simp [intOf]
        omega
      have HPT : Hid (0 < cnt vs (x.t, x.f)) := by have h9 := HPS.out; show 0 < _; simpa using h9
      obtain ⟨mi, hmi⟩ : ∃ y, min dz sn = y := ⟨_, rfl⟩
      have HSK : Hid (spS vs f r.d q.d ((L.take i).foldl (spS vs f r.d q.d) due) x = addP ((L.take i).foldl (spS vs f r.d q.d) due) x.t mi) := by
        show _ = _
        unfold spS
        rw [if_pos ⟨HLG.out, HPT.out⟩, HZ.out, HDZ.out, HSN.out, hmi]
      have hmm : (if sn < dz then sn else dz) = mi := by rw [← hmi]; split <;> omega
      have hmm2 : (if dz < sn then dz else sn) = mi := by rw [← hmi]; split <;> omega
      have hmm3 : (if dz ≤ sn then dz else sn) = mi := by rw [← hmi]; split <;> omega
      have hsn2 : wrap64 (q.d + x.c) = sn := by have h0 := HSN.out; have h1 := HQB.out; have h2 := HXC.out; unfold far at h1; rw [← h0]; unfold wrap64; omega
      have c81 : wf.cell? ⟨b8, 1, none⟩ = some (.int .i64 x.t) := HS8F.out.cell 1
      have c82 : wf.cell? ⟨b8, 2, none⟩ = some (.int .i64 x.c) := HS8F.out.cell 2
      have c61 : wf.cell? ⟨b6, 1, none⟩ = some (.int .i64 q.d) := HSIF.out.x6.cell 1
      obtain ⟨v7, hv7, hn5, hn6, hv7o⟩ := HSIF.out.qs
      have HV7 : Hid (Qs N qb db v7 (KQ + i) ((L.take i).foldl (spS vs f r.d q.d) due) wf) := hv7
      have HV5 : Hid (¬ fpQ qb db v7 b5 ∧ ¬ fpQ qb db v7 b6 ∧ ∀ g, v7.ownBlock = some g → qv.ownBlock = some g ∨ w.heap.size ≤ g) := ⟨hn5, hn6, hv7o⟩
      clear hv7 hn5 hn6 hv7o
      go_wp2_with fail
      refine (add_any N qb db v7 (KQ + i) _ x.t mi wf (Nat.le_trans HNG.out.2.2 HSIF.out.kf.size) (by have := HLS.out.2.2.2.2; omega) HV7.out).mono ?_
      rintro e w20 ⟨rfl, v8, hq8, hk8, ho8⟩
      have HG : Hid (SI w N b5 b6 qb db qv r q (KQ + (i + 1)) ((L.take (i + 1)).foldl (spS vs f r.d q.d) due) w20) := by
        have h58 : ∀ g, g < wf.heap.size → ¬ fpQ qb db v7 g → ¬ fpQ qb db v8 g := fun g hg hn c => by
          rcases c with c | c | c
          · exact hn (.inl c)
          · exact hn (.inr (.inl c))
          · rcases ho8 g c with h | h
            · exact hn (.inr (.inr h))
            · omega
        refine ⟨HSIF.out.kf.trans hk8 (fun g hg c => ?_), HSIF.out.x5.blk (hk8.blk b5 HSIF.out.x5.lt HV5.out.1), HSIF.out.x6.blk (hk8.blk b6 HSIF.out.x6.lt HV5.out.2.1), v8, ?_, h58 b5 HSIF.out.x5.lt HV5.out.1, h58 b6 HSIF.out.x6.lt HV5.out.2.1, fun g hg => ?_⟩
        · rcases c with c | c | c
          · exact .inl c
          · exact .inr (.inl c)
          · rcases HV5.out.2.2 g c with h | h
            · exact .inr (.inr h)
            · omega
        · rw [HTK.out, List.foldl_append]
          show Qs N qb db v8 _ (spS _ _ _ _ _ _) _
          rw [HSK.out]
          exact hq8
        · rcases ho8 g hg with h | h
          · exact HV5.out.2.2 g h
          · exact .inr (Nat.le_trans HSIF.out.kf.size h)
      clear hq8 hk8 ho8
      go_wp2_with fail
      refine ⟨⟨i + 1, by omega, by simp, HG.out⟩, ?_⟩
      simp [intOf]
      omega
    have hgt : ga = true := by simpa [← hlg2] using hlt
    subst hgt
    refine wpAnyH_take (i := 0) (v := .bool false) rfl (by kernel_rfl) (by kernel_rfl) (by kernel_rfl) (fun _ _ _ h => h) (Or.inl ⟨by rfl, ?_⟩) (by assumption) ?_
    case refine_1 => intro W hSw; go_simp; try rfl
    try simp only [Act.put, List.getElem_toArray, List.getElem_cons_zero, List.getElem_cons_succ, List.setIfInBounds_toArray, List.set_cons_zero, List.set_cons_succ]
    refine wpAnyH_take (i := 1) (v := .bool false) rfl (by kernel_rfl) (by kernel_rfl) (by kernel_rfl) (fun _ _ _ h => h) (Or.inl ⟨by rfl, ?_⟩) (by assumption) ?_
    case refine_1 => intro W hSw; go_simp; try rfl
    try simp only [Act.put, List.getElem_toArray, List.getElem_cons_zero, List.getElem_cons_succ, List.setIfInBounds_toArray, List.set_cons_zero, List.set_cons_succ]
    refine wpAnyH_take (i := 2) (v := .bool true) rfl (by kernel_rfl) (by kernel_rfl) (by kernel_rfl) (fun _ _ _ h => h) (Or.inl ⟨by rfl, ?_⟩) (by assumption) ?_
    case refine_1 => intro W hSw; go_simp; try rfl
    try simp only [Act.put, List.getElem_toArray, List.getElem_cons_zero, List.getElem_cons_succ, List.setIfInBounds_toArray, List.set_cons_zero, List.set_cons_succ]
    refine wpAnyH_take (i := 3) (v := .bool true) rfl (by kernel_rfl) (by kernel_rfl) (by kernel_rfl) (fun _ _ _ h => h) (Or.inl ⟨by rfl, ?_⟩) (by assumption) ?_
    case refine_1 => intro W hSw; go_simp; try rfl
    try simp only [Act.put, List.getElem_toArray, List.getElem_cons_zero, List.getElem_cons_succ, List.setIfInBounds_toArray, List.set_cons_zero, List.set_cons_succ]
    refine wpAnyH_take (i := 4) (v := .bool true) rfl (by kernel_rfl) (by kernel_rfl) (by kernel_rfl) (fun _ _ _ h => h) (Or.inl ⟨by rfl, ?_⟩) (by assumption) ?_
    case refine_1 => intro W hSw; go_simp; try rfl
    try simp only [Act.put, List.getElem_toArray, List.getElem_cons_zero, List.getElem_cons_succ, List.setIfInBounds_toArray, List.set_cons_zero, List.set_cons_succ]
    refine wpAnyH_take (i := 5) (v := .pointer (some ⟨tb, 0, none⟩)) rfl (by kernel_rfl) (by kernel_rfl) (by kernel_rfl) (fun _ _ _ h => h) (Or.inl ⟨by rfl, ?_⟩) (by assumption) ?_
    case refine_1 => intro W hSw; go_simp; try rfl
    try simp only [Act.put, List.getElem_toArray, List.getElem_cons_zero, List.getElem_cons_succ, List.setIfInBounds_toArray, List.set_cons_zero, List.set_cons_succ]
    refine wpAnyH_take (i := 6) (v := .pointer (some ⟨tb, 0, none⟩)) rfl (by kernel_rfl) (by kernel_rfl) (by kernel_rfl) (fun _ _ _ h => h) (Or.inl ⟨by rfl, ?_⟩) (by assumption) ?_
    case refine_1 => intro W hSw; go_simp; try rfl
    try simp only [Act.put, List.getElem_toArray, List.getElem_cons_zero, List.getElem_cons_succ, List.setIfInBounds_toArray, List.set_cons_zero, List.set_cons_succ]
    refine wpAnyH_take (i := 7) (v := .pointer (some ⟨tb, 0, none⟩)) rfl (by kernel_rfl) (by kernel_rfl) (by kernel_rfl) (fun _ _ _ h => h) (Or.inl ⟨by rfl, ?_⟩) (by assumption) ?_
    case refine_1 => intro W hSw; go_simp; try rfl
    try simp only [Act.put, List.getElem_toArray, List.getElem_cons_zero, List.getElem_cons_succ, List.setIfInBounds_toArray, List.set_cons_zero, List.set_cons_succ]
    refine wpAnyH_take (i := 8) (v := .agg (nwL b).toArray) rfl (by kernel_rfl) (by kernel_rfl) (by kernel_rfl) (fun _ _ _ h => h) (Or.inl ⟨by rfl, (fun W hSw => sat_run NwK (.tmp 55) rfl (b := tb) (k := 0) rfl (fun j hj => by rw [Nat.zero_add, hSw.2.cell]; rcases (show j = 0 ∨ j = 1 ∨ j = 2 ∨ j = 3 from by have h9 : j < 4 := hj; omega) with rfl | rfl | rfl | rfl <;> rfl) rfl)⟩) (by assumption) ?_
    try simp only [Act.put, List.getElem_toArray, List.getElem_cons_zero, List.getElem_cons_succ, List.setIfInBounds_toArray, List.set_cons_zero, List.set_cons_succ]
    refine wpAnyH_take (i := 9) (v := .agg (edL x).toArray) rfl (by kernel_rfl) (by kernel_rfl) (by kernel_rfl) (fun _ _ _ h => h) (Or.inl ⟨by rfl, (fun W hSw => Go.Proofs.Ythhdpfgepjmgkaa.Ge.sload_run EdK (.tmp 8) rfl (b := b8) rfl hSw.1 rfl)⟩) (by assumption) ?_
    try simp only [Act.put, List.getElem_toArray, List.getElem_cons_zero, List.getElem_cons_succ, List.setIfInBounds_toArray, List.set_cons_zero, List.set_cons_succ]
    refine wpAnyH_ready (rs := [10]) (by kernel_rfl) (by simp) ?_
    refine AllReadyH.cons rfl (fun K hK => ?_) AllReadyH.nil
    go_simp
    obtain ⟨ps, hps⟩ : ∃ y, decide (0 < cnt vs (x.t, x.f)) = y := ⟨_, rfl⟩
    have HPS : Hid (decide (0 < cnt vs (x.t, x.f)) = ps) := hps
    refine (stands_any b vs x ps hps wh (HNG.out.1.rd wh (HSIH.out.kf.below HNG.out.2.1 HFB.out))).mono ?_
    rintro e wf ⟨rfl, hbf⟩
    refine hK.out _ _ ⟨hHeld.1.blk (hbf.block b8 hHeld.1.lt), hHeld.2.blk (hbf.block tb hHeld.2.lt)⟩ (fun hHeld => ?_)
    have HSIF : Hid (SI w N b5 b6 qb db qv r q (KQ + i) ((L.take i).foldl (spS vs f r.d q.d) due) wf) := HSIH.out.nx hbf
    have HS8F : Hid (SB EdK b8 (edL x) wf) := hHeld.1
    clear hK K hbf hps
    try simp only [Act.put, List.getElem_toArray, List.getElem_cons_zero, List.getElem_cons_succ, List.setIfInBounds_toArray, List.set_cons_zero, List.set_cons_succ]
    refine wpAnyH_take (i := 11) (v := .bool ps) rfl (by kernel_rfl) (by kernel_rfl) (by kernel_rfl) (fun _ _ _ h => h) (Or.inl ⟨by rfl, ?_⟩) (by assumption) ?_
    case refine_1 => intro W hSw; go_simp; try rfl
    try simp only [Act.put, List.getElem_toArray, List.getElem_cons_zero, List.getElem_cons_succ, List.setIfInBounds_toArray, List.set_cons_zero, List.set_cons_succ]
    refine wpAnyH_done (by kernel_rfl) ?_ _
    clear hHeld hlt hlg2
    cases ps
    case false =>
      have HSK : Hid (spS vs f r.d q.d ((L.take i).foldl (spS vs f r.d q.d) due) x = (L.take i).foldl (spS vs f r.d q.d) due) := by
        show _ = _
        unfold spS
        rw [if_neg]
        rintro ⟨-, h1⟩
        have := HPS.out
        simp [h1] at this
      go_wp2_with fail
      refine ⟨⟨i + 1, by omega, by simp, by rw [HTK.out, List.foldl_append]; show SI w N b5 b6 qb db qv r q _ (spS _ _ _ _ _ _) _; rw [HSK.out]; exact HSIF.out.up (by omega)⟩, ?_⟩
      simp [intOf]
      omega
    have HPT : Hid (0 < cnt vs (x.t, x.f)) := by have h9 := HPS.out; show 0 < _; simpa using h9
    obtain ⟨mi, hmi⟩ : ∃ y, min dz sn = y := ⟨_, rfl⟩
    have HSK : Hid (spS vs f r.d q.d ((L.take i).foldl (spS vs f r.d q.d) due) x = addP ((L.take i).foldl (spS vs f r.d q.d) due) x.t mi) := by
      show _ = _
      unfold spS
      rw [if_pos ⟨HLG.out, HPT.out⟩, HZ.out, HDZ.out, HSN.out, hmi]
    have hmm : (if sn < dz then sn else dz) = mi := by rw [← hmi]; split <;> omega
    have hmm2 : (if dz < sn then dz else sn) = mi := by rw [← hmi]; split <;> omega
    have hmm3 : (if dz ≤ sn then dz else sn) = mi := by rw [← hmi]; split <;> omega
    have hsn2 : wrap64 (q.d + x.c) = sn := by have h0 := HSN.out; have h1 := HQB.out; have h2 := HXC.out; unfold far at h1; rw [← h0]; unfold wrap64; omega
    have c81 : wf.cell? ⟨b8, 1, none⟩ = some (.int .i64 x.t) := HS8F.out.cell 1
    have c82 : wf.cell? ⟨b8, 2, none⟩ = some (.int .i64 x.c) := HS8F.out.cell 2
    have c61 : wf.cell? ⟨b6, 1, none⟩ = some (.int .i64 q.d) := HSIF.out.x6.cell 1
    obtain ⟨v7, hv7, hn5, hn6, hv7o⟩ := HSIF.out.qs
    have HV7 : Hid (Qs N qb db v7 (KQ + i) ((L.take i).foldl (spS vs f r.d q.d) due) wf) := hv7
    have HV5 : Hid (¬ fpQ qb db v7 b5 ∧ ¬ fpQ qb db v7 b6 ∧ ∀ g, v7.ownBlock = some g → qv.ownBlock = some g ∨ w.heap.size ≤ g) := ⟨hn5, hn6, hv7o⟩
    clear hv7 hn5 hn6 hv7o
    go_wp2_with fail
    refine (add_any N qb db v7 (KQ + i) _ x.t mi wf (Nat.le_trans HNG.out.2.2 HSIF.out.kf.size) (by have := HLS.out.2.2.2.2; omega) HV7.out).mono ?_
    rintro e w20 ⟨rfl, v8, hq8, hk8, ho8⟩
    have HG : Hid (SI w N b5 b6 qb db qv r q (KQ + (i + 1)) ((L.take (i + 1)).foldl (spS vs f r.d q.d) due) w20) := by
      have h58 : ∀ g, g < wf.heap.size → ¬ fpQ qb db v7 g → ¬ fpQ qb db v8 g := fun g hg hn c => by
        rcases c with c | c | c
        · exact hn (.inl c)
        · exact hn (.inr (.inl c))
        · rcases ho8 g c with h | h
          · exact hn (.inr (.inr h))
          · omega
      refine ⟨HSIF.out.kf.trans hk8 (fun g hg c => ?_), HSIF.out.x5.blk (hk8.blk b5 HSIF.out.x5.lt HV5.out.1), HSIF.out.x6.blk (hk8.blk b6 HSIF.out.x6.lt HV5.out.2.1), v8, ?_, h58 b5 HSIF.out.x5.lt HV5.out.1, h58 b6 HSIF.out.x6.lt HV5.out.2.1, fun g hg => ?_⟩
      · rcases c with c | c | c
        · exact .inl c
        · exact .inr (.inl c)
        · rcases HV5.out.2.2 g c with h | h
          · exact .inr (.inr h)
          · omega
      · rw [HTK.out, List.foldl_append]
        show Qs N qb db v8 _ (spS _ _ _ _ _ _) _
        rw [HSK.out]
        exact hq8
      · rcases ho8 g hg with h | h
        · exact HV5.out.2.2 g h
        · exact .inr (Nat.le_trans HSIF.out.kf.size h)
    clear hq8 hk8 ho8
    go_wp2_with fail
    refine ⟨⟨i + 1, by omega, by simp, HG.out⟩, ?_⟩
    simp [intOf]
    omega
end Go.Proofs.Ythhdpfgepjmgkaa.Dj
