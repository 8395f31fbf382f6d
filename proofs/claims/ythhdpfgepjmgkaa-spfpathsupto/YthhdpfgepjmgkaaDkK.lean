/- spfMet. -/
import Derived.Test.YthhdpfgepjmgkaaDkJ
namespace Go.Proofs.Ythhdpfgepjmgkaa.Dj
open Go.ChangeShapes Go.WideShapes Go.ChangeAt Go.RowKit Go.Joins Go.Deep Go.Proofs.Ythhdpfgepjmgkaa.Ge
set_option linter.unusedVariables false
set_option linter.unusedSimpArgs false

/-- the edge at place i makes the length -/
def Mt (es : List Ed) (rs : List Rc) (r : Rc) (i : Nat) : Prop := ∃ e, es[i]? = some e ∧ e.t = r.n ∧ Sd es i ∧ (∃ q ∈ rs, q.n = e.f) ∧ ∀ q ∈ rs, q.n = e.f → q.d + e.c = r.d
def MtPost (w : World) (P : Prop) (e : Ending) (w' : World) : Prop := ∃ r : Bool, e = .returned (.bool r) ∧ (P → r = true) ∧ Below w.heap.size w w'
set_option maxRecDepth 100000 in
set_option maxHeartbeats 32000000 in
theorem met_any (la : Option Addr) (n lc : Nat) (es : List Ed) (a : Option Addr) (m c : Nat) (rs : List Rc) (r : Rc) (w : World) (hn : es.length = n) (hb : n < 1000000000) (h : Lst EE w la es) (hm : rs.length = m) (hmb : m < 1000000000) (hr : Lst ER w a rs) (hrs : ∀ q ∈ rs, 0 ≤ q.d ∧ q.d ≤ far) : Calls Try.prog 13 #[.slice la n lc, .slice a m c, .agg (rcL r).toArray] w (MtPost w (∃ i, Mt es rs r i)) := by
  have HX : Hid (Lst EE w la es ∧ es.length = n ∧ n < 1000000000) := ⟨h, hn, hb⟩
  have HR : Hid (Lst ER w a rs ∧ rs.length = m ∧ m < 1000000000 ∧ ∀ q ∈ rs, 0 ≤ q.d ∧ q.d ≤ far) := ⟨hr, hm, hmb, hrs⟩
  have hn0 : (n : Int) < 1000000000 := by omega
  clear h hn hb hm hmb hr hrs
  go_enter Try.func13, Try.ntmps13
  go_wp2_with (refine list_boxl RcK rfl _ rfl (cs := rcL r) rfl ?_)
  intro b5 w1 hb1 hs1 hbl1
  have HB1 : Hid (Below w.heap.size w w1 ∧ SB RcK b5 (rcL r) w1) := ⟨hbl1.out, hs1.out⟩
  clear hb1 hs1 hbl1
  go_wp2_with fail
  go_loopw [13, 7, 8, 9, 10] (fun iv _ _ _ _ wr => ∃ (i : Nat), i ≤ n ∧ iv = .int .i64 (i : Int) ∧ Below w.heap.size w wr ∧ SB RcK b5 (rcL r) wr ∧ ∀ j, j < i → ¬ Mt es rs r j) (fun iv _ _ _ _ _ => n - (intOf iv).toNat)
  case atStart => exact ⟨0, Nat.zero_le _, rfl, HB1.out.1, HB1.out.2, fun j h => by omega⟩
  case round =>
    obtain ⟨i, hin, rfl, hbl, hs5, hno⟩ := hrel
    obtain ⟨wz, hwz⟩ : ∃ y, wr = y := ⟨_, rfl⟩
    rw [hwz] at hbl hs5 ⊢
    have HI : Hid (Below w.heap.size w wz ∧ SB RcK b5 (rcL r) wz ∧ ∀ j, j < i → ¬ Mt es rs r j) := ⟨hbl, hs5, hno⟩
    have hi0 : (i : Int) < 1000000000 := by omega
    have hi2 : (0 : Int) ≤ (i : Int) := by omega
    clear hbl hs5 hno hwz
    by_cases hlt : i < n
    case neg =>
      have hii : ¬ (i : Int) < (n : Int) := by omega
      have HE : Hid (MtPost w (∃ i, Mt es rs r i) (.returned (.bool false)) wz) := ⟨false, rfl, fun ⟨j, hj⟩ => absurd hj (HI.out.2.2 j (by obtain ⟨e, h1, -⟩ := hj; have h5 := (List.getElem?_eq_some_iff.1 h1).1; have h6 := HX.out.2.1; omega)), HI.out.1⟩
      go_wp2_with fail
      go_ret
      exact HE.out
    have hii : (i : Int) < (n : Int) := by omega
    have hju : IntKind.u64.wrap (i : Int) = (i : Int) := by simp [IntKind.wrap, IntKind.bits, IntKind.signed]; omega
    obtain ⟨x, hx⟩ : ∃ y, es[i]? = some y := ⟨es[i]'(by have := HX.out.2.1; omega), List.getElem?_eq_getElem _⟩
    have HEi : Hid (es[i]? = some x) := hx
    obtain ⟨lb, lo, rfl, -, -⟩ := HX.out.1.cells i (by have := HX.out.2.1; omega)
    have HCE : Hid (∀ q, q < 4 → wz.cell? ⟨lb, lo + i * 4 + q, none⟩ = (edL x)[q]?) := fun q hq => ed_cells HX.out.1 HI.out.1 HEi.out q hq
    clear hx
    have HG : Hid (∀ W, Below wz.heap.size wz W → ¬ Mt es rs r i → (∃ (i2 : Nat), i2 ≤ n ∧ Value.int .i64 (↑i + 1) = .int .i64 (i2 : Int) ∧ Below w.heap.size w W ∧ SB RcK b5 (rcL r) W ∧ ∀ j, j < i2 → ¬ Mt es rs r j)) := fun W hW hno => ⟨i + 1, by omega, by simp, HI.out.1.trans (hW.mono HI.out.1.size), HI.out.2.1.blk (hW.block b5 HI.out.2.1.lt), fun j hj => by
      by_cases c : j = i
      · rw [c]; exact hno
      · exact HI.out.2.2 j (by omega)⟩
    go_wp2_with (first | (refine list_sat EdK rfl _ rfl (b := lb) (k := lo + i * 4) (cs := edL x) rfl HCE.out rfl ?_) | (refine list_newl EdK _ z_ed rfl rfl ?_))
    intro b8 w8 hb8 hs8 hbl8
    have HB8 : Hid (wz.heap.size ≤ b8 ∧ Below wz.heap.size wz w8) := ⟨by rw [hb8.out]; exact Nat.le_refl _, hbl8.out⟩
    have HS8 : Hid (SB EdK b8 (edL ⟨0, 0, 0, 0⟩) w8) := hs8.out
    clear hb8 hs8 hbl8 HCE
    go_wp2_with (refine list_sstore EdK rfl _ _ rfl (b := b8) (cs := edL ⟨0, 0, 0, 0⟩) (cs' := edL x) rfl rfl HS8.out rfl rfl rfl ?_)
    intro w9 hs9 hk9
    have HS9 : Hid (SB EdK b8 (edL x) w9) := hs9.out
    have HB9 : Hid (Below wz.heap.size wz w9) := HB8.out.2.trans (hk9.out.below HB8.out.1)
    have HS59 : Hid (SB RcK b5 (rcL r) w9) := HI.out.2.1.blk (HB9.out.block b5 HI.out.2.1.lt)
    clear hs9 hk9 HS8 HB8
    have c81 : w9.cell? ⟨b8, 1, none⟩ = some (.int .i64 x.t) := HS9.out.cell 1
    have c50 : w9.cell? ⟨b5, 0, none⟩ = some (.int .i64 r.n) := HS59.out.cell 0
    by_cases htn : x.t = r.n
    case neg =>
      have hbn : (x.t != r.n) = true := by simp [htn]
      have HN : Hid (¬ Mt es rs r i) := fun ⟨e, h1, h2, _⟩ => (by rw [HEi.out] at h1; cases h1; exact htn h2)
      clear htn
      go_wp2_with fail
      refine ⟨HG.out w9 HB9.out HN.out, ?_⟩
      simp [intOf]
      omega
    have HTN : Hid (x.t = r.n) := htn
    have hbn : (x.t != r.n) = false := by simp [htn]
    clear htn
    go_wp2_with fail
    refine (sd_any (some ⟨lb, lo, none⟩) n lc es i w9 HX.out.2.1 HX.out.2.2 hlt (HX.out.1.bel (HI.out.1.trans (HB9.out.mono HI.out.1.size)))).mono ?_
    rintro e0 w10 ⟨s, rfl, hs, hb10⟩
    have HSD : Hid (s = true ↔ Sd es i) := hs
    have HB10 : Hid (Below wz.heap.size wz w10) := HB9.out.trans (hb10.mono HB9.out.size)
    have HS10 : Hid (SB EdK b8 (edL x) w10 ∧ SB RcK b5 (rcL r) w10) := ⟨HS9.out.blk (hb10.block b8 HS9.out.lt), HS59.out.blk (hb10.block b5 HS59.out.lt)⟩
    clear hs hb10 hbn c81 c50 HS9 HS59
    cases s
    case false =>
      have HN : Hid (¬ Mt es rs r i) := fun ⟨e, h1, h2, h3, _⟩ => (by have := HSD.out.2 h3; simp at this)
      go_wp2_with fail
      refine ⟨HG.out w10 HB10.out HN.out, ?_⟩
      simp [intOf]
      omega
    have HSI : Hid (Sd es i) := HSD.out.1 (by simp)
    have c80 : w10.cell? ⟨b8, 0, none⟩ = some (.int .i64 x.f) := HS10.out.1.cell 0
    go_wp2_with fail
    refine (at_any a m c rs x.f w10 HR.out.2.1 HR.out.2.2.1 (HR.out.1.bel (HI.out.1.trans (HB10.out.mono HI.out.1.size)))).mono ?_
    rintro e0 w11 ⟨q, ok, rfl, hb11, hq1, hq2⟩
    have HQ : Hid ((ok = true → q ∈ rs ∧ q.n = x.f) ∧ (ok = false → q = zr ∧ ∀ x' ∈ rs, x'.n ≠ x.f)) := ⟨hq1, hq2⟩
    have HB11 : Hid (Below wz.heap.size wz w11) := HB10.out.trans (hb11.mono HB10.out.size)
    have HS11 : Hid (SB EdK b8 (edL x) w11 ∧ SB RcK b5 (rcL r) w11) := ⟨HS10.out.1.blk (hb11.block b8 HS10.out.1.lt), HS10.out.2.blk (hb11.block b5 HS10.out.2.lt)⟩
    clear hb11 hq1 hq2 HS10 c80
    go_wp2_with (refine list_newl RcK _ z_rc rfl rfl ?_)
    intro b9 w12 hb12 hs12 hbl12
    have HB12 : Hid (w11.heap.size ≤ b9 ∧ Below wz.heap.size wz w12 ∧ wz.heap.size ≤ b9 ∧ b8 < b9 ∧ b5 < b9) := by
      have h1 := hb12.out
      have h2 := HB11.out.size
      have h3 := HS11.out.1.lt
      have h4 := HS11.out.2.lt
      exact ⟨by omega, HB11.out.trans (hbl12.out.mono h2), by omega, by omega, by omega⟩
    have HS12 : Hid (SB RcK b9 (rcL zr) w12 ∧ SB EdK b8 (edL x) w12 ∧ SB RcK b5 (rcL r) w12) := ⟨hs12.out, HS11.out.1.blk (hbl12.out.block b8 HS11.out.1.lt), HS11.out.2.blk (hbl12.out.block b5 HS11.out.2.lt)⟩
    clear hb12 hs12 hbl12 HS11
    go_wp2_with (refine list_sstore RcK rfl _ _ rfl (b := b9) (cs := rcL zr) (cs' := rcL q) rfl rfl HS12.out.1 rfl rfl rfl ?_)
    intro w13 hs13 hk13
    have HB13 : Hid (Below wz.heap.size wz w13) := HB12.out.2.1.trans (hk13.out.below HB12.out.2.2.1)
    have HS13 : Hid (SB RcK b9 (rcL q) w13 ∧ SB EdK b8 (edL x) w13 ∧ SB RcK b5 (rcL r) w13) := ⟨hs13.out, HS12.out.2.1.blk (hk13.out.block b8 (by have := HB12.out; omega)), HS12.out.2.2.blk (hk13.out.block b5 (by have := HB12.out; omega))⟩
    clear hs13 hk13 HS12
    cases ok
    case false =>
      have HN : Hid (¬ Mt es rs r i) := fun ⟨e, h1, _, _, ⟨y, hy, h4⟩, _⟩ => (by rw [HEi.out] at h1; cases h1; exact (HQ.out.2 (by simp)).2 y hy h4)
      go_wp2_with fail
      refine ⟨HG.out w13 HB13.out HN.out, ?_⟩
      simp [intOf]
      omega
    have HQM : Hid (q ∈ rs ∧ q.n = x.f) := HQ.out.1 (by simp)
    have HXC : Hid (1 ≤ x.c ∧ x.c ≤ 65535) := by
      obtain ⟨e, h1, ⟨e2, h2, h3, -⟩, -⟩ := HSI.out
      rw [HEi.out] at h2
      cases h2
      unfold vd inr at h3
      simp only [Bool.and_eq_true, decide_eq_true_eq] at h3
      exact ⟨by omega, by omega⟩
    obtain ⟨qd, hqd⟩ : ∃ y, q.d + x.c = y := ⟨_, rfl⟩
    have HQD : Hid (q.d + x.c = qd) := hqd
    have hw64 : wrap64 (q.d + x.c) = qd := by rw [← hqd]; have h1 := HR.out.2.2.2 q HQM.out.1; have h2 := HXC.out; unfold far at h1; unfold wrap64; omega
    clear hqd
    have c91 : w13.cell? ⟨b9, 1, none⟩ = some (.int .i64 q.d) := HS13.out.1.cell 1
    have c82 : w13.cell? ⟨b8, 2, none⟩ = some (.int .i64 x.c) := HS13.out.2.1.cell 2
    have c51 : w13.cell? ⟨b5, 1, none⟩ = some (.int .i64 r.d) := HS13.out.2.2.cell 1
    by_cases hqr : qd = r.d
    case neg =>
      have hbq : (qd == r.d) = false := beq_false_of_ne hqr
      have HN : Hid (¬ Mt es rs r i) := fun ⟨e, h1, _, _, _, h5⟩ => (by rw [HEi.out] at h1; cases h1; have h6 := h5 q HQM.out.1 HQM.out.2; rw [HQD.out] at h6; exact hqr h6)
      clear hqr
      go_wp2_with fail
      refine ⟨HG.out w13 HB13.out HN.out, ?_⟩
      simp [intOf]
      omega
    have hbq : (qd == r.d) = true := by simp [hqr]
    clear hqr
    have HE : Hid (MtPost w (∃ i, Mt es rs r i) (.returned (.bool true)) w13) := ⟨true, rfl, fun _ => rfl, HI.out.1.trans (HB13.out.mono HI.out.1.size)⟩
    go_wp2_with fail
    go_ret
    exact HE.out
end Go.Proofs.Ythhdpfgepjmgkaa.Dj
