/- spfOver. -/
import Derived.Test.YthhdpfgepjmgkaaDkL
namespace Go.Proofs.Ythhdpfgepjmgkaa.Dj
open Go.ChangeShapes Go.WideShapes Go.ChangeAt Go.RowKit Go.Joins Go.Deep Go.Proofs.Ythhdpfgepjmgkaa.Ge
set_option linter.unusedVariables false
set_option linter.unusedSimpArgs false

/-- the edge at place i is the one from there over that link, and stands -/
def Ov (es : List Ed) (fr lk : Int) (i : Nat) (e : Ed) : Prop := es[i]? = some e ∧ e.f = fr ∧ e.l = lk ∧ Sd es i
def OvPost (w : World) (es : List Ed) (fr lk : Int) (en : Ending) (w' : World) : Prop := ∃ (e : Ed) (ok : Bool), en = .returned (.tuple #[.agg (edL e).toArray, .bool ok]) ∧ Below w.heap.size w w' ∧ (ok = true → ∃ i, Ov es fr lk i e) ∧ (ok = false → ∀ i e, ¬ Ov es fr lk i e)
set_option maxRecDepth 100000 in
set_option maxHeartbeats 32000000 in
theorem over_any (la : Option Addr) (n lc : Nat) (es : List Ed) (fr lk : Int) (w : World) (hn : es.length = n) (hb : n < 1000000000) (h : Lst EE w la es) : Calls Try.prog 14 #[.slice la n lc, .int .i64 fr, .int .i64 lk] w (OvPost w es fr lk) := by
  have HX : Hid (Lst EE w la es ∧ es.length = n ∧ n < 1000000000) := ⟨h, hn, hb⟩
  have hn0 : (n : Int) < 1000000000 := by omega
  clear h hn hb
  go_enter Try.func14, Try.ntmps14
  go_wp2_with (refine list_newl EdK _ z_ed rfl rfl ?_)
  intro b6 w1 hb1 hs1 hbl1
  have HB1 : Hid (w.heap.size ≤ b6 ∧ Below w.heap.size w w1 ∧ SB EdK b6 (edL ⟨0, 0, 0, 0⟩) w1) := ⟨by rw [hb1.out]; exact Nat.le_refl _, hbl1.out, hs1.out⟩
  clear hb1 hs1 hbl1
  go_wp2_with fail
  go_loopw [12, 8, 9] (fun iv _ _ wr => ∃ (i : Nat), i ≤ n ∧ iv = .int .i64 (i : Int) ∧ Below w.heap.size w wr ∧ SB EdK b6 (edL ⟨0, 0, 0, 0⟩) wr ∧ ∀ j e, j < i → ¬ Ov es fr lk j e) (fun iv _ _ _ => n - (intOf iv).toNat)
  case atStart => exact ⟨0, Nat.zero_le _, rfl, HB1.out.2.1, HB1.out.2.2, fun j e h => by omega⟩
  case round =>
    obtain ⟨i, hin, rfl, hbl, hs6, hno⟩ := hrel
    obtain ⟨wz, hwz⟩ : ∃ y, wr = y := ⟨_, rfl⟩
    rw [hwz] at hbl hs6 ⊢
    have HI : Hid (Below w.heap.size w wz ∧ SB EdK b6 (edL ⟨0, 0, 0, 0⟩) wz ∧ ∀ j e, j < i → ¬ Ov es fr lk j e) := ⟨hbl, hs6, hno⟩
    have hi0 : (i : Int) < 1000000000 := by omega
    have hi2 : (0 : Int) ≤ (i : Int) := by omega
    clear hbl hs6 hno hwz
    by_cases hlt : i < n
    case neg =>
      have hii : ¬ (i : Int) < (n : Int) := by omega
      go_wp2_with (refine list_sstore EdK rfl _ _ rfl (b := b6) (cs := edL ⟨0, 0, 0, 0⟩) (cs' := edL ⟨0, 0, 0, 0⟩) rfl rfl HI.out.2.1 rfl rfl rfl ?_)
      intro w5 hs5 hk5
      have HE : Hid (OvPost w es fr lk (.returned (.tuple #[.agg (edL ⟨0, 0, 0, 0⟩).toArray, .bool false])) w5) := ⟨⟨0, 0, 0, 0⟩, false, rfl, HI.out.1.trans (hk5.out.below HB1.out.1), fun c => (by cases c), fun _ j e hj => HI.out.2.2 j e (by have h5 := (List.getElem?_eq_some_iff.1 hj.1).1; have h6 := HX.out.2.1; omega) hj⟩
      have HS5 : Hid (SB EdK b6 (edL ⟨0, 0, 0, 0⟩) w5) := hs5.out
      clear hs5 hk5
      go_wp2_with fail
      exact ret_cell1 EdK rfl rfl HS5.out rfl rfl HE.out
    have hii : (i : Int) < (n : Int) := by omega
    have hju : IntKind.u64.wrap (i : Int) = (i : Int) := by simp [IntKind.wrap, IntKind.bits, IntKind.signed]; omega
    obtain ⟨x, hx⟩ : ∃ y, es[i]? = some y := ⟨es[i]'(by have := HX.out.2.1; omega), List.getElem?_eq_getElem _⟩
    have HEi : Hid (es[i]? = some x) := hx
    obtain ⟨lb, lo, rfl, -, -⟩ := HX.out.1.cells i (by have := HX.out.2.1; omega)
    have HCE : Hid (∀ q, q < 4 → wz.cell? ⟨lb, lo + i * 4 + q, none⟩ = (edL x)[q]?) := fun q hq => ed_cells HX.out.1 HI.out.1 HEi.out q hq
    clear hx
    have HG : Hid (∀ W, Below wz.heap.size wz W → (¬ (x.f = fr ∧ x.l = lk ∧ Sd es i)) → (∃ (i2 : Nat), i2 ≤ n ∧ Value.int .i64 (↑i + 1) = .int .i64 (i2 : Int) ∧ Below w.heap.size w W ∧ SB EdK b6 (edL ⟨0, 0, 0, 0⟩) W ∧ ∀ j e, j < i2 → ¬ Ov es fr lk j e)) := fun W hW hno => ⟨i + 1, by omega, by simp, HI.out.1.trans (hW.mono HI.out.1.size), HI.out.2.1.blk (hW.block b6 HI.out.2.1.lt), fun j e hj h => by
      by_cases c : j = i
      · subst c
        obtain ⟨h1, h2⟩ := h
        rw [HEi.out] at h1
        cases h1
        exact hno h2
      · exact HI.out.2.2 j e (by omega) h⟩
    go_wp2_with (first | (refine list_sat EdK rfl _ rfl (b := lb) (k := lo + i * 4) (cs := edL x) rfl HCE.out rfl ?_) | (refine list_newl EdK _ z_ed rfl rfl ?_))
    intro b8 w8 hb8 hs8 hbl8
    have HB8 : Hid (wz.heap.size ≤ b8 ∧ Below wz.heap.size wz w8) := ⟨by rw [hb8.out]; exact Nat.le_refl _, hbl8.out⟩
    have HS8 : Hid (SB EdK b8 (edL ⟨0, 0, 0, 0⟩) w8) := hs8.out
    clear hb8 hs8 hbl8 HCE
    go_wp2_with (refine list_sstore EdK rfl _ _ rfl (b := b8) (cs := edL ⟨0, 0, 0, 0⟩) (cs' := edL x) rfl rfl HS8.out rfl rfl rfl ?_)
    intro w9 hs9 hk9
    have HS9 : Hid (SB EdK b8 (edL x) w9) := hs9.out
    have HB9 : Hid (Below wz.heap.size wz w9) := HB8.out.2.trans (hk9.out.below HB8.out.1)
    clear hs9 hk9 HS8 HB8
    have c80 : w9.cell? ⟨b8, 0, none⟩ = some (.int .i64 x.f) := HS9.out.cell 0
    have c83 : w9.cell? ⟨b8, 3, none⟩ = some (.int .i64 x.l) := HS9.out.cell 3
    by_cases hxf : x.f = fr
    case neg =>
      have hbf : (x.f == fr) = false := beq_false_of_ne hxf
      have HN : Hid (¬ (x.f = fr ∧ x.l = lk ∧ Sd es i)) := fun h => hxf h.1
      clear hxf
      go_wp2_with fail
      refine ⟨HG.out w9 HB9.out HN.out, ?_⟩
      simp [intOf]
      omega
    have HXF : Hid (x.f = fr) := hxf
    have hbf : (x.f == fr) = true := by simp [hxf]
    clear hxf
    by_cases hxl : x.l = lk
    case neg =>
      have hbg : (x.l == lk) = false := beq_false_of_ne hxl
      have HN : Hid (¬ (x.f = fr ∧ x.l = lk ∧ Sd es i)) := fun h => hxl h.2.1
      clear hxl
      go_wp2_with fail
      refine ⟨HG.out w9 HB9.out HN.out, ?_⟩
      simp [intOf]
      omega
    have HXL : Hid (x.l = lk) := hxl
    have hbg : (x.l == lk) = true := by simp [hxl]
    clear hxl
    go_wp2_with fail
    refine (sd_any (some ⟨lb, lo, none⟩) n lc es i w9 HX.out.2.1 HX.out.2.2 hlt (HX.out.1.bel (HI.out.1.trans (HB9.out.mono HI.out.1.size)))).mono ?_
    rintro e0 w10 ⟨s, rfl, hs, hb10⟩
    have HSD : Hid (s = true ↔ Sd es i) := hs
    have HB10 : Hid (Below wz.heap.size wz w10) := HB9.out.trans (hb10.mono HB9.out.size)
    have HS10 : Hid (SB EdK b8 (edL x) w10 ∧ SB EdK b6 (edL ⟨0, 0, 0, 0⟩) w10) := ⟨HS9.out.blk (hb10.block b8 HS9.out.lt), HI.out.2.1.blk (HB10.out.block b6 HI.out.2.1.lt)⟩
    clear hs hb10 hbf hbg c80 c83 HS9
    cases s
    case false =>
      have HN : Hid (¬ (x.f = fr ∧ x.l = lk ∧ Sd es i)) := fun h => (by have := HSD.out.2 h.2.2; simp at this)
      go_wp2_with fail
      refine ⟨HG.out w10 HB10.out HN.out, ?_⟩
      simp [intOf]
      omega
    have HSI : Hid (Sd es i) := HSD.out.1 (by simp)
    go_wp2_with (first | (refine list_sload EdK rfl _ rfl (b := b8) (cs := edL x) rfl HS10.out.1 rfl ?_) | (refine list_sstore EdK rfl _ _ rfl (b := b6) (cs := edL ⟨0, 0, 0, 0⟩) (cs' := edL x) rfl rfl HS10.out.2 rfl rfl rfl ?_))
    intro w11 hs11 hk11
    have HE : Hid (OvPost w es fr lk (.returned (.tuple #[.agg (edL x).toArray, .bool true])) w11) := ⟨x, true, rfl, (HI.out.1.trans (HB10.out.mono HI.out.1.size)).trans (hk11.out.below HB1.out.1), fun _ => ⟨i, HEi.out, HXF.out, HXL.out, HSI.out⟩, fun c => (by cases c)⟩
    have HS11 : Hid (SB EdK b6 (edL x) w11) := hs11.out
    clear hs11 hk11
    go_wp2_with fail
    exact ret_cell1 EdK rfl rfl HS11.out rfl rfl HE.out
end Go.Proofs.Ythhdpfgepjmgkaa.Dj
