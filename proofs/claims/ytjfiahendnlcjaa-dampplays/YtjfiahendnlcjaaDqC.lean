/- The document's damper in memory: DampMay, DampWorth, find. -/
import Derived.Test.YtjfiahendnlcjaaDqB
namespace Go.Proofs.Ytjfiahendnlcjaa.Da
open Go.ChangeShapes Go.WideShapes Go.ChangeAt Go.RowKit Go.Joins Go.Deep Go.Proofs.Ytjfiahendnlcjaa.Ge Go.Proofs.Ytjfiahendnlcjaa.PM Go.Proofs.Ytjfiahendnlcjaa.Ask
set_option linter.unusedVariables false
set_option linter.unusedSimpArgs false

def mkL (m : DM) : List Value := [.int .u32 m.p.1, .int .i64 m.p.2, .int .i64 (m.v : Int), .int .i64 (m.s : Int), .bool m.h, .bool m.due]
def MkK : Sk := ⟨64, 6, _, Try.underlying64, rfl, by kernel_rfl⟩
def EK : El DM := ⟨64, 30, 6, 40, .agg #[.int .u32 0, .int .i64 0, .int .i64 0, .int .i64 0, .bool false, .bool false], mkL, by decide, by decide, fun _ => rfl, fun x u hu => by simp [mkL] at hu; rcases hu with rfl | rfl | rfl | rfl | rfl | rfl <;> rfl, Try.underlying30, by kernel_rfl, rfl⟩
/-- a config's cells, and the whole's -/
def cfL (c : Dc) : List Value := [.int .i64 (c.half : Int), .int .i64 (c.limit : Int), .int .i64 (c.reuse : Int), .int .i64 (c.most : Int), .int .i64 (c.down : Int), .int .i64 (c.change : Int)]
def ddL (c : Dc) (a : Option Addr) (n k : Nat) : List Value := [.int .i64 (c.half : Int), .int .i64 (c.limit : Int), .int .i64 (c.reuse : Int), .int .i64 (c.most : Int), .int .i64 (c.down : Int), .int .i64 (c.change : Int), .int .i64 (c.clock : Int), .slice a n k]
def DdK : Sk := ⟨32, 8, _, Try.underlying32, rfl, by kernel_rfl⟩
set_option maxRecDepth 100000 in
set_option maxHeartbeats 8000000 in
theorem dmay_any (ca cb cc cd ce cf : Int) (r : Bool) (hT : mayD ca cb cc cd ce cf → r = true) (hF : ¬ mayD ca cb cc cd ce cf → r = false) (w : World) :
    Calls Try.prog 7 #[.agg (cgL ca cb cc cd ce cf).toArray] w fun e w' => e = .returned (.bool r) ∧ Below w.heap.size w w' := by
  have HT : Hid (mayD ca cb cc cd ce cf → r = true) := hT
  have HF : Hid (¬ mayD ca cb cc cd ce cf → r = false) := hF
  clear hT hF
  go_enter Try.func7, Try.ntmps7
  go_wp2_with (refine list_sbox CgK rfl _ rfl (cs := cgL ca cb cc cd ce cf) rfl ?_)
  intro w1 hb1 hbl1 hz1
  obtain ⟨bc, hbc⟩ : ∃ y, w.heap.size = y := ⟨_, rfl⟩
  have HX1 : Hid (SB CgK bc (cgL ca cb cc cd ce cf) w1) := by rw [← hbc]; exact hb1.out
  have HB1 : Hid (Below w.heap.size w w1) := hbl1.out
  rw [hbc]
  clear hb1 hbl1 hz1 hbc
  have c0 : w1.cell? ⟨bc, 0, none⟩ = some (.int .i64 ca) := HX1.out.cell 0
  have c1 : w1.cell? ⟨bc, 1, none⟩ = some (.int .i64 cb) := HX1.out.cell 1
  have c2 : w1.cell? ⟨bc, 2, none⟩ = some (.int .i64 cc) := HX1.out.cell 2
  have c3 : w1.cell? ⟨bc, 3, none⟩ = some (.int .i64 cd) := HX1.out.cell 3
  have c4 : w1.cell? ⟨bc, 4, none⟩ = some (.int .i64 ce) := HX1.out.cell 4
  have c5 : w1.cell? ⟨bc, 5, none⟩ = some (.int .i64 cf) := HX1.out.cell 5
  by_cases h0 : ca < 1
  case pos =>
    have HE : Hid (r = false) := HF.out (fun h => by unfold mayD at h; omega)
    go_wp2_with fail
    go_ret
    exact ⟨by rw [HE.out]; try rfl, HB1.out⟩
  by_cases h1 : 10000 < ca
  case pos =>
    have HE : Hid (r = false) := HF.out (fun h => by unfold mayD at h; omega)
    go_wp2_with fail
    go_ret
    exact ⟨by rw [HE.out]; try rfl, HB1.out⟩
  by_cases h2 : cc < 1
  case pos =>
    have HE : Hid (r = false) := HF.out (fun h => by unfold mayD at h; omega)
    go_wp2_with fail
    go_ret
    exact ⟨by rw [HE.out]; try rfl, HB1.out⟩
  by_cases h3 : cb ≤ cc
  case pos =>
    have HE : Hid (r = false) := HF.out (fun h => by unfold mayD at h; omega)
    go_wp2_with fail
    go_ret
    exact ⟨by rw [HE.out]; try rfl, HB1.out⟩
  by_cases h4 : cd < cb
  case pos =>
    have HE : Hid (r = false) := HF.out (fun h => by unfold mayD at h; omega)
    go_wp2_with fail
    go_ret
    exact ⟨by rw [HE.out]; try rfl, HB1.out⟩
  by_cases h5 : 1000000 < cd
  case pos =>
    have HE : Hid (r = false) := HF.out (fun h => by unfold mayD at h; omega)
    go_wp2_with fail
    go_ret
    exact ⟨by rw [HE.out]; try rfl, HB1.out⟩
  by_cases h6 : 0 ≤ ce
  case neg =>
    have HE : Hid (r = false) := HF.out (fun h => by unfold mayD at h; omega)
    go_wp2_with fail
    go_ret
    exact ⟨by rw [HE.out]; try rfl, HB1.out⟩
  by_cases h7 : ce ≤ 1000000
  case neg =>
    have HE : Hid (r = false) := HF.out (fun h => by unfold mayD at h; omega)
    go_wp2_with fail
    go_ret
    exact ⟨by rw [HE.out]; try rfl, HB1.out⟩
  by_cases h8 : 0 ≤ cf
  case neg =>
    have HE : Hid (r = false) := HF.out (fun h => by unfold mayD at h; omega)
    go_wp2_with fail
    go_ret
    exact ⟨by rw [HE.out]; try rfl, HB1.out⟩
  by_cases h9 : cf ≤ 1000000
  case neg =>
    have HE : Hid (r = false) := HF.out (fun h => by unfold mayD at h; omega)
    go_wp2_with fail
    go_ret
    exact ⟨by rw [HE.out]; try rfl, HB1.out⟩
  have HE : Hid (r = true) := HT.out (by unfold mayD; omega)
  go_wp2_with fail
  go_ret
  exact ⟨by rw [HE.out]; try rfl, HB1.out⟩
def WoI (v q : Nat) (wz : World) (iv vv : Value) (W : World) : Prop := ∃ i : Nat, i ≤ q ∧ iv = .int .i64 (i : Int) ∧ vv = .int .i64 ((v / 2 ^ i : Nat) : Int) ∧ W = wz
theorem half_all {v i q : Nat} (h : i ≤ q) (h2 : i = q ∨ v / 2 ^ i = 0) : v / 2 ^ i = v / 2 ^ q := by
  rcases h2 with rfl | h2
  · rfl
  · have : v / 2 ^ q ≤ v / 2 ^ i := Nat.div_le_div_left (Nat.pow_le_pow_right (by decide) h) (Nat.two_pow_pos i)
    rw [h2] at this ⊢
    exact (Nat.le_zero.1 this).symm
set_option maxRecDepth 100000 in
set_option maxHeartbeats 8000000 in
theorem worth_any (c : Dc) (hc : DcOk c) (v t : Nat) (hv : v ≤ 1000000) (ht : t < 9223372036854775808) (w : World) :
    Calls Try.prog 27 #[.agg (cfL c).toArray, .int .i64 (v : Int), .int .i64 (t : Int)] w fun e w' => e = .returned (.int .i64 (atP c.half v t : Nat)) ∧ Below w.heap.size w w' := by
  have hh := hc.half
  obtain ⟨half, hhf⟩ : ∃ y, c.half = y := ⟨_, rfl⟩
  have HHF : Hid (c.half = half) := hhf
  rw [hhf] at hh ⊢
  clear hc
  go_enter Try.func27, Try.ntmps27
  go_wp2_with (refine list_sbox CgK rfl _ rfl (cs := cfL c) rfl ?_)
  intro w1 hb1 hbl1 hz1
  obtain ⟨bc, hbc⟩ : ∃ y, w.heap.size = y := ⟨_, rfl⟩
  have HB1 : Hid (Below w.heap.size w w1) := hbl1.out
  have c0 : w1.cell? ⟨bc, 0, none⟩ = some (.int .i64 (half : Int)) := by rw [← hbc, ← hhf]; exact hb1.out.cell 0
  rw [hbc]
  clear hb1 hbl1 hz1 hbc hhf
  obtain ⟨q, hq⟩ : ∃ y, t / half = y := ⟨_, rfl⟩
  obtain ⟨r, hr⟩ : ∃ y, t % half = y := ⟨_, rfl⟩
  obtain ⟨m, hm⟩ : ∃ y, q * half = y := ⟨_, rfl⟩
  have hdm := Nat.div_add_mod t half
  have hqt : q ≤ t := by rw [← hq]; exact Nat.div_le_self _ _
  have hr2 : r < half := by rw [← hr]; exact Nat.mod_lt _ (by omega)
  rw [hq, hr, Nat.mul_comm half q, hm] at hdm
  have d1 : (t : Int).tdiv (half : Int) = (q : Int) := by rw [← hq]; exact (Int.ofNat_tdiv t half).symm
  have d2 : (q : Int) * (half : Int) = (m : Int) := by rw [← hm]; push_cast; rfl
  have w1q : IntKind.i64.wrap (q : Int) = (q : Int) := IntWalk.i64_in _ (by omega)
  have w1m : IntKind.i64.wrap (m : Int) = (m : Int) := IntWalk.i64_in _ (by omega)
  have w1r : IntKind.i64.wrap ((t : Int) - (m : Int)) = (r : Int) := by rw [IntWalk.i64_in _ (by omega)]; omega
  have hh0 : ¬ (half : Int) = 0 := by omega
  have HA : Hid (t / half = q ∧ t % half = r) := ⟨hq, hr⟩
  clear hq hr hm hdm
  go_wp2_with fail
  go_loopw [9, 1] (fun iv vv wr => WoI v q w1 iv vv wr) (fun i _ _ => q - (intOf i).toNat)
  case atStart => exact ⟨0, by omega, rfl, by simp, rfl⟩
  case round =>
    obtain ⟨i, hi, rfl, rfl, hw⟩ := hrel
    obtain rfl : w1 = wr := hw.symm
    clear hw
    obtain ⟨L, hL⟩ : ∃ y, v / 2 ^ i = y := ⟨_, rfl⟩
    have hLv : L ≤ 1000000 := by rw [← hL]; exact Nat.le_trans (Nat.div_le_self _ _) hv
    have HL : Hid (v / 2 ^ i = L) := hL
    rw [hL]
    clear hL
    by_cases hgo : i < q ∧ 0 < L
    case pos =>
      have h1 : (i : Int) < (q : Int) := by omega
      have h2 : (0 : Int) < (L : Int) := by omega
      have hdv : ((L : Nat) : Int).tdiv 2 = ((L / 2 : Nat) : Int) := rfl
      have HN : Hid (L / 2 = v / 2 ^ (i + 1)) := by show _ = _; rw [← HL.out, Nat.div_div_eq_div_mul, Nat.pow_succ]
      obtain ⟨L2, hL2⟩ : ∃ y, L / 2 = y := ⟨_, rfl⟩
      rw [hL2] at hdv HN
      have HW : Hid (wrap64 (L2 : Int) = (L2 : Int)) := IntWalk.wrap64_in _ (by omega)
      have HW2 : Hid (IntKind.i64.wrap ((i : Int) + 1) = ((i + 1 : Nat) : Int)) := by show _ = _; rw [IntWalk.i64_in _ (by omega)]; omega
      have HW3 : Hid (wrap64 ((i : Int) + 1) = ((i + 1 : Nat) : Int)) := by show _ = _; rw [IntWalk.wrap64_in _ (by omega)]; omega
      have hig := hgo.1
      clear hL2 hgo
      go_wp2_with fail
      refine ⟨⟨i + 1, by omega, by first | (rw [HW3.out]; done) | (simp; done) | (rw [HW2.out]), by first | (rw [HW.out, ← HN.out]; done) | rw [← HN.out], rfl⟩, ?_⟩
      first | rw [HW3.out] | skip
      simp [intOf]
      omega
    case neg =>
      have HE : Hid (v / 2 ^ i = v / 2 ^ q) := half_all hi (by have := HL.out; omega)
      obtain ⟨M, hM⟩ : ∃ y, L - L / 2 = y := ⟨_, rfl⟩
      obtain ⟨X, hX⟩ : ∃ y, M * r / half = y := ⟨_, rfl⟩
      have hML : M ≤ L := by omega
      have hmr : M * r ≤ 1000000 * 10000 := Nat.mul_le_mul (by omega) (by omega)
      have hXM : X ≤ M := by
        rw [← hX]
        refine Nat.div_le_of_le_mul ?_
        rw [Nat.mul_comm half M]
        exact Nat.mul_le_mul_left _ (by omega)
      have HR : Hid (atP half v t = L - X) := by show _ = _; unfold atP; rw [HA.out.1, HA.out.2, ← HE.out, HL.out, hM, hX]
      have HF : Hid (wrap64 ((L : Int) - wrap64 ((wrap64 (((L : Int) - (L : Int) / 2) * (r : Int))).tdiv (half : Int))) = ((L - X : Nat) : Int)) := by
        have f1 : (L : Int) - (L : Int) / 2 = (M : Int) := by omega
        have f2 : (M : Int) * (r : Int) = ((M * r : Nat) : Int) := by push_cast; rfl
        have f3 : wrap64 ((M * r : Nat) : Int) = ((M * r : Nat) : Int) := IntWalk.wrap64_in _ (by omega)
        have f4 : (((M * r : Nat) : Int)).tdiv (half : Int) = (X : Int) := by rw [← hX]; exact (Int.ofNat_tdiv _ half).symm
        show _ = _
        rw [f1, f2, f3, f4, IntWalk.wrap64_in (X : Int) (by omega), IntWalk.wrap64_in _ (by omega)]
        omega
      clear hX hXM hmr hML hM d1 d2 w1q w1m w1r hv ht hqt
      by_cases hlt : i < q
      · have h1 : (i : Int) < (q : Int) := by omega
        have h2 : ¬ (0 : Int) < (L : Int) := by omega
        clear hgo
        go_wp2_with fail
        go_ret
        refine ⟨?_, HB1.out⟩
        show Ending.returned (Value.int IntKind.i64 (wrap64 ((L : Int) - wrap64 ((wrap64 (((L : Int) - (L : Int) / 2) * (r : Int))).tdiv (half : Int))))) = _
        rw [HF.out, HR.out]
      · have h1 : ¬ (i : Int) < (q : Int) := by omega
        clear hgo
        go_wp2_with fail
        go_ret
        refine ⟨?_, HB1.out⟩
        show Ending.returned (Value.int IntKind.i64 (wrap64 ((L : Int) - wrap64 ((wrap64 (((L : Int) - (L : Int) / 2) * (r : Int))).tdiv (half : Int))))) = _
        rw [HF.out, HR.out]
/-- where a mark stands -/
def dix (L : List DM) (p : Pf) : Int := ((L.findIdx? (fun m => decide (m.p = p))).map (fun i => (i : Int))).getD (-1)
theorem dix_at {L : List DM} {p : Pf} {i : Nat} (hi : i < L.length) (hp : L[i].p = p) (hb : ∀ j (hj : j < i), (L[j]'(by omega)).p ≠ p) : dix L p = (i : Int) ∧ dget L p = some L[i] := by
  have h1 : L.findIdx? (fun m => decide (m.p = p)) = some i := by
    rw [List.findIdx?_eq_some_iff_getElem]
    exact ⟨hi, by simpa using hp, fun j hj => by simpa using hb j hj⟩
  have h2 : L.find? (fun m => decide (m.p = p)) = some L[i] := by
    rw [List.find?_eq_some_iff_getElem]
    exact ⟨by simpa using hp, i, hi, rfl, fun j hj => by simpa using hb j hj⟩
  exact ⟨by unfold dix; rw [h1]; rfl, h2⟩
theorem dix_no {L : List DM} {p : Pf} (h : ∀ j (hj : j < L.length), L[j].p ≠ p) : dix L p = -1 ∧ dget L p = none := by
  have hm : ∀ m ∈ L, ¬ m.p = p := fun m hm => by
    obtain ⟨j, hj, e⟩ := List.getElem_of_mem hm
    rw [← e]
    exact h j hj
  have h1 : L.findIdx? (fun m => decide (m.p = p)) = none := by
    rw [List.findIdx?_eq_none_iff]
    exact fun m hx => by simpa using hm m hx
  have h2 : L.find? (fun m => decide (m.p = p)) = none := by
    rw [List.find?_eq_none]
    exact fun m hx => by simpa using hm m hx
  exact ⟨by unfold dix; rw [h1]; rfl, h2⟩
theorem dix_cases (L : List DM) (p : Pf) : (dix L p = -1 ∧ dget L p = none) ∨ ∃ (i : Nat) (hi : i < L.length), dix L p = (i : Int) ∧ L[i].p = p ∧ dget L p = some L[i] := by
  cases hf : L.findIdx? (fun m => decide (m.p = p)) with
  | none =>
    rw [List.findIdx?_eq_none_iff] at hf
    exact .inl (dix_no (fun j hj => by simpa using hf L[j] (List.getElem_mem hj)))
  | some i =>
    rw [List.findIdx?_eq_some_iff_getElem] at hf
    obtain ⟨hi, hp, hb⟩ := hf
    have hp2 : L[i].p = p := by simpa using hp
    have := dix_at hi hp2 (fun j hj => by simpa using hb j hj)
    exact .inr ⟨i, hi, this.1, hp2, this.2⟩
def FnI (w : World) (L : List DM) (p : Pf) (n : Nat) (iv : Value) (W : World) : Prop := ∃ i : Nat, i ≤ n ∧ iv = .int .i64 (i : Int) ∧ Below w.heap.size w W ∧ ∀ j (hj : j < i) (hl : j < L.length), L[j].p ≠ p
set_option maxRecDepth 100000 in
set_option maxHeartbeats 8000000 in
theorem find_any (c : Dc) (va : Option Addr) (n cap : Nat) (L : List DM) (hn : L.length = n) (p : Pf) (w : World) (h : Lst EK w va L) :
    Calls Try.prog 26 #[.agg (ddL c va n cap).toArray, pfV p] w fun e w' => e = .returned (.int .i64 (dix L p)) ∧ Below w.heap.size w w' := by
  have H : Hid (Lst EK w va L) := h
  have HN : Hid (L.length = n) := hn
  have hsm := h.small
  rw [hn] at hsm
  obtain ⟨z, hz⟩ : ∃ y, dix L p = y := ⟨_, rfl⟩
  have HZ : Hid (dix L p = z) := hz
  rw [hz]
  clear h hn hz
  go_enter Try.func26, Try.ntmps26
  go_wp2_with (refine list_sbox DdK rfl _ rfl (cs := ddL c va n cap) rfl ?_)
  intro w1 hb1 hbl1 hz1
  obtain ⟨bd, hbd⟩ : ∃ y, w.heap.size = y := ⟨_, rfl⟩
  have HX1 : Hid (SB DdK bd (ddL c va n cap) w1) := by rw [← hbd]; exact hb1.out
  have HB1 : Hid (Below w.heap.size w w1) := hbl1.out
  rw [hbd]
  clear hb1 hbl1 hz1 hbd
  go_wp2_with (refine list_sbox PxK rfl _ rfl (cs := pxL p) rfl ?_)
  intro w2 hb2 hbl2 hz2
  obtain ⟨bp, hbp⟩ : ∃ y, w1.heap.size = y := ⟨_, rfl⟩
  have HX2 : Hid (SB PxK bp (pxL p) w2) := by rw [← hbp]; exact hb2.out
  have HX3 : Hid (SB DdK bd (ddL c va n cap) w2) := HX1.out.blk (hbl2.out.block _ HX1.out.lt)
  have HB2 : Hid (Below w.heap.size w w2) := HB1.out.trans (hbl2.out.mono HB1.out.size)
  rw [hbp]
  clear hb2 hbl2 hz2 hbp HX1 HB1
  have c7 : w2.cell? ⟨bd, 7, none⟩ = some (.slice va n cap) := HX3.out.cell 7
  go_wp2_with fail
  go_loopw [9] (fun iv wr => FnI w2 L p n iv wr) (fun i _ => n - (intOf i).toNat)
  case atStart => exact ⟨0, by omega, rfl, Below.refl _ _, fun j hj => by omega⟩
  case round =>
    obtain ⟨i, hi, rfl, hb, hno⟩ := hrel
    have HB : Hid (Below w2.heap.size w2 wr) := hb
    have HNO : Hid (∀ j (hj : j < i) (hl : j < L.length), L[j].p ≠ p) := hno
    clear hb hno c7
    have HBW : Hid (Below w.heap.size w wr) := HB2.out.trans (HB.out.mono HB2.out.size)
    have HXP : Hid (SB PxK bp (pxL p) wr) := HX2.out.blk (HB.out.block _ HX2.out.lt)
    have c7 : wr.cell? ⟨bd, 7, none⟩ = some (.slice va n cap) := (HX3.out.blk (HB.out.block _ HX3.out.lt)).cell 7
    by_cases hlt : i < n
    case pos =>
      have hil : i < L.length := by rw [HN.out]; exact hlt
      obtain ⟨b, o, rfl, hbl, hc⟩ := (H.out.bel HBW.out).cells i hil
      obtain ⟨x, hx⟩ : ∃ x, L[i] = x := ⟨_, rfl⟩
      have HXI : Hid (L[i] = x) := hx
      rw [hx] at hc
      obtain ⟨⟨x1, x2⟩, xv, xs, xh, xd⟩ := x
      obtain ⟨p1, p2⟩ := p
      have k0 : wr.cell? ⟨b, o + i * 6, none⟩ = some (.int .u32 x1) := hc 0 (by decide)
      have k1 : wr.cell? ⟨b, o + i * 6 + 1, none⟩ = some (.int .i64 x2) := hc 1 (by decide)
      have q0 : wr.cell? ⟨bp, 0, none⟩ = some (.int .u32 p1) := HXP.out.cell 0
      have q1 : wr.cell? ⟨bp, 1, none⟩ = some (.int .i64 p2) := HXP.out.cell 1
      have hii : (i : Int) < (n : Int) := by omega
      have ii0 : (0 : Int) ≤ i := by omega
      clear hx hc hbl
      by_cases hxp : x1 = p1 ∧ x2 = p2
      case pos =>
        obtain ⟨rfl, rfl⟩ := hxp
        have HE : Hid (z = (i : Int)) := by show _ = _; rw [← HZ.out]; exact (dix_at hil (by rw [HXI.out]) (fun j hj => HNO.out j hj (by omega))).1
        go_wp2_with fail
        go_quiet (fail)
        have HB2' : Hid (Below w.heap.size w (wr.drewN nq)) := HBW.out.trans ((dn_bel wr nq).mono HBW.out.size)
        go_wp2_with fail
        go_ret
        exact ⟨by rw [HE.out]; try rfl, HB2'.out⟩
      case neg =>
        have HNE : Hid (∀ j (hj : j < i + 1) (hl : j < L.length), L[j].p ≠ (p1, p2)) := fun j hj hl => by
          rcases Nat.lt_succ_iff_lt_or_eq.1 hj with h5 | h5
          · exact HNO.out j h5 hl
          · subst h5
            rw [HXI.out]
            exact fun e => hxp (by cases e; exact ⟨rfl, rfl⟩)
        have hor : x1 ≠ p1 ∨ (x1 = p1 ∧ x2 ≠ p2) := by omega
        clear hxp
        rcases hor with hne | ⟨rfl, hne⟩
        all_goals
          have hnb := beq_false_of_ne hne
          go_wp2_with fail
          go_quiet (fail)
          have HB2' : Hid (Below w2.heap.size w2 (wr.drewN nq)) := HB.out.trans ((dn_bel wr nq).mono HB.out.size)
          go_wp2_with fail
          exact ⟨⟨i + 1, by omega, by simp, HB2'.out, HNE.out⟩, by simp [intOf]; omega⟩
    case neg =>
      have HE : Hid (z = -1) := by show _ = _; rw [← HZ.out]; exact (dix_no (fun j hj => HNO.out j (by rw [HN.out] at hj; omega) hj)).1
      have hii : ¬ (i : Int) < (n : Int) := by omega
      go_wp2_with fail
      go_ret
      exact ⟨by rw [HE.out]; try rfl, HBW.out⟩
end Go.Proofs.Ytjfiahendnlcjaa.Da
