/- SpfValid; spfAt. -/
import Derived.Test.YthhdpfgepjmgkaaDkF
namespace Go.Proofs.Ythhdpfgepjmgkaa.Dj
open Go.ChangeShapes Go.WideShapes Go.ChangeAt Go.RowKit Go.Joins Go.Deep Go.Proofs.Ythhdpfgepjmgkaa.Ge
set_option linter.unusedVariables false
set_option linter.unusedSimpArgs false

set_option maxRecDepth 100000 in
set_option maxHeartbeats 8000000 in
theorem rvalid_any (e : Ed) (w : World) : Calls Try.prog 31 #[.agg (edL e).toArray] w (BlPost w (vd e)) := by
  go_enter Try.func31, Try.ntmps31
  go_wp2_with (refine list_boxl EdK rfl _ rfl (cs := edL e) rfl ?_)
  intro b w1 hb hs hbl
  have HB : Hid (Below w.heap.size w w1) := hbl.out
  have c0 : w1.cell? ⟨b, 0, none⟩ = some (.int .i64 e.f) := hs.out.cell 0
  have c1 : w1.cell? ⟨b, 1, none⟩ = some (.int .i64 e.t) := hs.out.cell 1
  have c2 : w1.cell? ⟨b, 2, none⟩ = some (.int .i64 e.c) := hs.out.cell 2
  have c3 : w1.cell? ⟨b, 3, none⟩ = some (.int .i64 e.l) := hs.out.cell 3
  clear hb hs hbl
  obtain ⟨ef, et, ec, el⟩ := e
  dsimp only at c0 c1 c2 c3
  by_cases h0 : ef < 0
  case pos =>
    have HE : Hid (vd ⟨ef, et, ec, el⟩ = false) := by show _ = _; unfold vd inr; simp; omega
    go_wp2_with fail
    go_ret
    exact ⟨by rw [HE.out]; try rfl, HB.out⟩
  by_cases h1 : 4294967295 < ef
  case pos =>
    have HE : Hid (vd ⟨ef, et, ec, el⟩ = false) := by show _ = _; unfold vd inr; simp; omega
    go_wp2_with fail
    go_ret
    exact ⟨by rw [HE.out]; try rfl, HB.out⟩
  by_cases h2 : et < 0
  case pos =>
    have HE : Hid (vd ⟨ef, et, ec, el⟩ = false) := by show _ = _; unfold vd inr; simp; omega
    go_wp2_with fail
    go_ret
    exact ⟨by rw [HE.out]; try rfl, HB.out⟩
  by_cases h3 : 4294967295 < et
  case pos =>
    have HE : Hid (vd ⟨ef, et, ec, el⟩ = false) := by show _ = _; unfold vd inr; simp; omega
    go_wp2_with fail
    go_ret
    exact ⟨by rw [HE.out]; try rfl, HB.out⟩
  by_cases h4 : ef = et
  case pos =>
    have hq : (ef == et) = true := by simp [h4]
    have HE : Hid (vd ⟨ef, et, ec, el⟩ = false) := by show _ = _; unfold vd inr; simp; omega
    clear h4
    go_wp2_with fail
    go_ret
    exact ⟨by rw [HE.out]; try rfl, HB.out⟩
  have hq : (ef == et) = false := beq_false_of_ne h4
  by_cases h5 : 1 ≤ ec
  case neg =>
    have HE : Hid (vd ⟨ef, et, ec, el⟩ = false) := by show _ = _; unfold vd inr; simp; omega
    go_wp2_with fail
    go_ret
    exact ⟨by rw [HE.out]; try rfl, HB.out⟩
  by_cases h6 : ec ≤ 65535
  case neg =>
    have HE : Hid (vd ⟨ef, et, ec, el⟩ = false) := by show _ = _; unfold vd inr; simp; omega
    go_wp2_with fail
    go_ret
    exact ⟨by rw [HE.out]; try rfl, HB.out⟩
  by_cases h7 : 0 ≤ el
  case neg =>
    have HE : Hid (vd ⟨ef, et, ec, el⟩ = false) := by show _ = _; unfold vd inr; simp; omega
    go_wp2_with fail
    go_ret
    exact ⟨by rw [HE.out]; try rfl, HB.out⟩
  by_cases h8 : el ≤ 65535
  case neg =>
    have HE : Hid (vd ⟨ef, et, ec, el⟩ = false) := by show _ = _; unfold vd inr; simp; omega
    go_wp2_with fail
    go_ret
    exact ⟨by rw [HE.out]; try rfl, HB.out⟩
  have HE : Hid (vd ⟨ef, et, ec, el⟩ = true) := by show _ = _; unfold vd inr; simp; omega
  go_wp2_with fail
  go_ret
  exact ⟨by rw [HE.out]; try rfl, HB.out⟩
def AtPost (w : World) (rs : List Rc) (n : Int) (e : Ending) (w' : World) : Prop := ∃ (q : Rc) (ok : Bool), e = .returned (.tuple #[.agg (rcL q).toArray, .bool ok]) ∧ Below w.heap.size w w' ∧ (ok = true → q ∈ rs ∧ q.n = n) ∧ (ok = false → q = zr ∧ ∀ x ∈ rs, x.n ≠ n)
set_option maxRecDepth 100000 in
set_option maxHeartbeats 16000000 in
theorem at_any (a : Option Addr) (m c : Nat) (rs : List Rc) (n : Int) (w : World) (hm : rs.length = m) (hb : m < 1000000000) (h : Lst ER w a rs) : Calls Try.prog 11 #[.slice a m c, .int .i64 n] w (AtPost w rs n) := by
  have HX : Hid (Lst ER w a rs ∧ rs.length = m ∧ m < 1000000000) := ⟨h, hm, hb⟩
  clear h hm hb
  go_enter Try.func11, Try.ntmps11
  go_wp2_with (refine list_newl RcK _ z_rc rfl rfl ?_)
  intro b4 w1 hb1 hs1 hbl1
  have HB1 : Hid (w.heap.size ≤ b4 ∧ Below w.heap.size w w1 ∧ SB RcK b4 (rcL zr) w1) := ⟨by rw [hb1.out]; exact Nat.le_refl _, hbl1.out, hs1.out⟩
  clear hb1 hs1 hbl1
  go_wp2_with fail
  go_loopw [10, 7] (fun iv _ wr => ∃ (i : Nat), i ≤ m ∧ iv = .int .i64 (i : Int) ∧ Below w.heap.size w wr ∧ SB RcK b4 (rcL zr) wr ∧ ∀ x ∈ rs.take i, x.n ≠ n) (fun iv _ _ => m - (intOf iv).toNat)
  case atStart => exact ⟨0, Nat.zero_le _, rfl, HB1.out.2.1, HB1.out.2.2, fun x hx => absurd hx (by simp)⟩
  case round =>
    obtain ⟨i, hi, rfl, hbl, hs4, hno⟩ := hrel
    obtain ⟨wz, hwz⟩ : ∃ y, wr = y := ⟨_, rfl⟩
    rw [hwz] at hbl hs4 ⊢
    have HI : Hid (Below w.heap.size w wz ∧ SB RcK b4 (rcL zr) wz ∧ ∀ x ∈ rs.take i, x.n ≠ n) := ⟨hbl, hs4, hno⟩
    clear hbl hs4 hno hwz
    have hilb : (i : Int) < 1000000000 := by have := HX.out.2.2; omega
    by_cases hlt : i < m
    case neg =>
      have hii : ¬ (i : Int) < (m : Int) := by omega
      go_wp2_with (refine list_sstore RcK rfl _ _ rfl (b := b4) (cs := rcL zr) (cs' := rcL zr) rfl rfl HI.out.2.1 rfl rfl rfl ?_)
      intro w5 hs5 hk5
      have HE : Hid (AtPost w rs n (.returned (.tuple #[.agg (rcL zr).toArray, .bool false])) w5) := ⟨zr, false, rfl, HI.out.1.trans (hk5.out.below HB1.out.1), fun c => (by cases c), fun _ => ⟨rfl, fun x hx => HI.out.2.2 x (by rw [List.take_of_length_le (by rw [HX.out.2.1]; omega)]; exact hx)⟩⟩
      have HS5 : Hid (SB RcK b4 (rcL zr) w5) := hs5.out
      clear hs5 hk5
      go_wp2_with fail
      exact ret_cell1 RcK rfl rfl HS5.out rfl rfl HE.out
    have hii : (i : Int) < (m : Int) := by omega
    have ii0 : (0 : Int) ≤ (i : Int) := by omega
    obtain ⟨lb, lo, rfl, -, hce⟩ := (HX.out.1.bel HI.out.1).cells i (by rw [HX.out.2.1]; exact hlt)
    obtain ⟨x, hx⟩ : ∃ y, rs[i]'(by rw [HX.out.2.1]; exact hlt) = y := ⟨_, rfl⟩
    rw [hx] at hce
    have HCE : Hid (∀ j, j < RcK.k → wz.cell? ⟨lb, lo + i * 3 + j, none⟩ = (rcL x)[j]?) := hce
    have HTK : Hid (rs.take (i + 1) = rs.take i ++ [x]) := by rw [← hx]; exact (List.take_append_getElem _).symm
    have HXV : Hid (x ∈ rs) := by rw [← hx]; exact List.getElem_mem _
    clear hce hx
    go_wp2_with (first | (refine list_sat RcK rfl _ rfl (b := lb) (k := lo + i * 3) (cs := rcL x) rfl HCE.out rfl ?_) | (refine list_newl RcK _ z_rc rfl rfl ?_))
    intro b7 w7 hb7 hs7 hbl7
    have HB7 : Hid (wz.heap.size ≤ b7 ∧ Below wz.heap.size wz w7) := ⟨by rw [hb7.out]; exact Nat.le_refl _, hbl7.out⟩
    have HS7 : Hid (SB RcK b7 (rcL zr) w7) := hs7.out
    clear hb7 hs7 hbl7 HCE
    go_wp2_with (refine list_sstore RcK rfl _ _ rfl (b := b7) (cs := rcL zr) (cs' := rcL x) rfl rfl HS7.out rfl rfl rfl ?_)
    intro w8 hs8 hk8
    have HS8 : Hid (SB RcK b7 (rcL x) w8) := hs8.out
    have HB8 : Hid (Below wz.heap.size wz w8) := HB7.out.2.trans (hk8.out.below HB7.out.1)
    have HI8 : Hid (Below w.heap.size w w8 ∧ SB RcK b4 (rcL zr) w8) := ⟨HI.out.1.trans (HB8.out.mono HI.out.1.size), HI.out.2.1.blk (HB8.out.block b4 HI.out.2.1.lt)⟩
    have c70 : w8.cell? ⟨b7, 0, none⟩ = some (.int .i64 x.n) := HS8.out.cell 0
    clear hs8 hk8 HS7 HB7
    by_cases hxn : x.n = n
    case pos =>
      have HXN : Hid (x.n = n) := hxn
      have hbq : (x.n == n) = true := by simp [hxn]
      clear hxn
      go_wp2_with (first | (refine list_sload RcK rfl _ rfl (b := b7) (cs := rcL x) rfl HS8.out rfl ?_) | (refine list_sstore RcK rfl _ _ rfl (b := b4) (cs := rcL zr) (cs' := rcL x) rfl rfl HI8.out.2 rfl rfl rfl ?_))
      intro w9 hs9 hk9
      have HE : Hid (AtPost w rs n (.returned (.tuple #[.agg (rcL x).toArray, .bool true])) w9) := ⟨x, true, rfl, HI8.out.1.trans (hk9.out.below HB1.out.1), fun _ => ⟨HXV.out, HXN.out⟩, fun c => (by cases c)⟩
      have HS5 : Hid (SB RcK b4 (rcL x) w9) := hs9.out
      clear hs9 hk9 hbq
      go_wp2_with fail
      exact ret_cell1 RcK rfl rfl HS5.out rfl rfl HE.out
    have HG : Hid (∃ (i2 : Nat), i2 ≤ m ∧ Value.int .i64 (↑i + 1) = .int .i64 (i2 : Int) ∧ Below w.heap.size w w8 ∧ SB RcK b4 (rcL zr) w8 ∧ ∀ x ∈ rs.take i2, x.n ≠ n) := ⟨i + 1, by omega, by simp, HI8.out.1, HI8.out.2, fun y hy => by
      rw [HTK.out] at hy
      rcases List.mem_append.1 hy with c | c
      · exact HI.out.2.2 y c
      · rw [List.mem_singleton] at c; rw [c]; exact hxn⟩
    have hbq : (x.n == n) = false := beq_false_of_ne hxn
    clear hxn
    go_wp2_with fail
    refine ⟨HG.out, ?_⟩
    simp [intOf]
    omega
end Go.Proofs.Ythhdpfgepjmgkaa.Dj
