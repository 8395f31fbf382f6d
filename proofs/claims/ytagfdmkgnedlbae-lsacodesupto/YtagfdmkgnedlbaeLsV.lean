/- reader.stub: what it answers. -/
import Derived.Test.YtagfdmkgnedlbaeLsP
namespace Go.Proofs.Ytagfdmkgnedlbae.Ls
open Go.ChangeShapes Go.WideShapes Go.ChangeAt Go.RowKit Go.Joins Go.Proofs.Ytagfdmkgnedlbae.PM Go.Proofs.Ytagfdmkgnedlbae.Ask
set_option linter.unusedVariables false

theorem rdV_lt {r : Rst} (h : ∀ d ∈ r.1, d < 256) (n : Nat) : rdV n r < 256 ^ n := by
  unfold rdV
  split
  · exact num_lt h n (by assumption)
  · exact Nat.pow_pos (by decide)
theorem RI.u8 {M br : Nat} {w : World} {r : Rst} {W : World} (h : RI M br w r W) : ∀ d ∈ r.1, d < 256 := by
  obtain ⟨va, cap, _, _, hb, _⟩ := h.rd.rest
  exact hb.u8
/-- number, with letters for what it answers and leaves -/
theorem RI.numL {M br : Nat} {w : World} {r : Rst} {W : World} (h : RI M br w r W) (size : Nat) (sz : Int) (hs : ((size : Nat) : Int) = sz) (h0 : 0 < size) (h7 : size ≤ 7) (v : Int) (hv : ((rdV size r : Nat) : Int) = v) (r' : Rst) (hr : rdR size r = r') :
    Calls Try.prog 56 #[.pointer (some ⟨br, 0, none⟩), .int .i64 sz] W fun e w' => e = .returned (.int .i64 v) ∧ RI M br w r' w' ∧ Kr br W w' := by
  have h1 : RI M br W r W := ⟨h.rd, Kr.refl _ _⟩
  refine (h1.num size sz hs h0 h7).mono ?_
  rintro e w' ⟨rfl, h2⟩
  subst hv hr
  exact ⟨rfl, ⟨h2.rd, h.kr.trans h2.kr⟩, h2.kr⟩
theorem u32_in {n : Int} (h0 : 0 ≤ n) (h1 : n < 4294967296) : IntKind.u32.wrap n = n := by rw [IntKind.wrap_u32]; omega
theorem cells2 {W : World} {t : Nat} {x y : Value} {T : TypeId} (h : W.heap[t]? = some (Obj.cells #[x, y] T)) : W.cell? ⟨t, 0, none⟩ = some x ∧ W.cell? ⟨t, 1, none⟩ = some y := by
  refine ⟨?_, ?_⟩ <;> simp [World.cell?, h]
theorem cells3 {W : World} {t : Nat} {x y z : Value} {T : TypeId} (h : W.heap[t]? = some (Obj.cells #[x, y, z] T)) : W.cell? ⟨t, 0, none⟩ = some x ∧ W.cell? ⟨t, 1, none⟩ = some y ∧ W.cell? ⟨t, 2, none⟩ = some z := by
  refine ⟨?_, ?_, ?_⟩ <;> simp [World.cell?, h]
theorem frozen_cells {W : World} {t : Nat} {a : Array Value} {T : TypeId} (h : W.heap[t]? = some (Obj.cells a T)) : ∀ i, W.frozen? ⟨t, i, none⟩ = false := by
  intro i
  simp [World.frozen?, h]
def decSt (r : Rst) : (Int × Int × Int) × Rst := (((rdV 4 r : Nat), (rdV 1 (rdR 4 r) : Nat), (rdV 2 (rdR 1 (rdR 4 r)) : Nat)), rdR 2 (rdR 1 (rdR 4 r)))
def decLk (r : Rst) : (Int × Int × Int) × Rst := (((rdV 4 r : Nat), (rdV 2 (rdR 4 r) : Nat), (rdV 2 (rdR 2 (rdR 4 r)) : Nat)), rdR 2 (rdR 2 (rdR 4 r)))
set_option maxRecDepth 100000 in
set_option maxHeartbeats 4000000 in
theorem rstub_any (M br : Nat) (w0 w : World) (r : Rst) (h : RI M br w0 r w) (xa xb xc : Int) (r3 : Rst) (hd : decSt r = ((xa, xb, xc), r3)) :
    Calls Try.prog 67 #[.pointer (some ⟨br, 0, none⟩)] w fun e w' => e = .returned (.agg #[.int .u32 xa, .int .i64 xb, .int .i64 xc]) ∧ RI M br w0 r3 w' ∧ Kr br w w' := by
  unfold decSt at hd
  injection hd with hd1 hd2
  injection hd1 with ha hd1
  injection hd1 with hb hc
  obtain ⟨r1, hr1⟩ : ∃ r1, rdR 4 r = r1 := ⟨_, rfl⟩
  rw [hr1] at hb hc hd2
  obtain ⟨r2, hr2⟩ : ∃ r2, rdR 1 r1 = r2 := ⟨_, rfl⟩
  rw [hr2] at hc hd2
  have hbr : br < w.heap.size := Nat.lt_of_lt_of_le h.rd.lt h.rd.le
  have hal : rdV 4 r < 4294967296 := rdV_lt h.u8 4
  have HMA : Hid (xa % 4294967296 = xa) := by show _ = _; omega
  have HR1 : Hid (rdR 4 r = r1) := hr1
  have HR2 : Hid (rdR 1 r1 = r2) := hr2
  have HR3 : Hid (rdR 2 r2 = r3) := hd2
  have HA : Hid (((rdV 4 r : Nat) : Int) = xa) := ha
  have HBB : Hid (((rdV 1 r1 : Nat) : Int) = xb) := hb
  have HCC : Hid (((rdV 2 r2 : Nat) : Int) = xc) := hc
  have hM : M ≤ w.heap.size := h.rd.le
  have HKR : Hid (Kr br w0 w) := h.kr
  have HH : Hid (RI M br w r w) := ⟨h.rd, Kr.refl _ _⟩
  clear hr1 hr2 hd2 ha hb hc h hal
  go_enter Try.func67, Try.ntmps67
  go_wp2_with fail
  obtain ⟨wA, hwA⟩ : ∃ wA, w.alloc (Obj.cells #[.int .u32 0, .int .i64 0, .int .i64 0] 56) = wA := ⟨_, rfl⟩
  have HIA : Hid (RI M br w r wA) := by rw [← hwA]; exact HH.out.alloc _
  have HGA : Hid (wA.heap[w.heap.size]? = some (Obj.cells #[.int .u32 0, .int .i64 0, .int .i64 0] 56)) := by rw [← hwA]; exact World.alloc_heap_new w _
  obtain ⟨s, hs⟩ : ∃ s, w.heap.size = s := ⟨_, rfl⟩
  rw [hwA, hs]
  rw [hs] at HGA
  have hsb : ¬ s = br := by omega
  clear hwA
  refine (HIA.out.numL 4 4 rfl (by decide) (by decide) xa HA.out r1 HR1.out).mono ?_
  rintro e w1 ⟨rfl, hi1, hk1⟩
  have HI1 : Hid (RI M br w r1 w1) := hi1
  have HG1 : Hid (w1.heap[s]? = some (Obj.cells #[.int .u32 0, .int .i64 0, .int .i64 0] 56)) := (hk1.block s (Array.getElem?_eq_some_iff.1 HGA.out).1 hsb).trans HGA.out
  clear HIA HGA hi1 hk1
  go_wp2_with fail
  refine (HI1.out.numL 1 1 rfl (by decide) (by decide) xb HBB.out r2 HR2.out).mono ?_
  rintro e w2 ⟨rfl, hi1, hk1⟩
  have HI2 : Hid (RI M br w r2 w2) := hi1
  have HG2 : Hid (w2.heap[s]? = some (Obj.cells #[.int .u32 0, .int .i64 0, .int .i64 0] 56)) := (hk1.block s (Array.getElem?_eq_some_iff.1 HG1.out).1 hsb).trans HG1.out
  clear HI1 HG1 hi1 hk1
  go_wp2_with fail
  rw [HMA.out]
  obtain ⟨t, ht⟩ : ∃ t, w2.heap.size = t := ⟨_, rfl⟩
  rw [ht]
  have hst : s < t := by rw [← ht]; exact (Array.getElem?_eq_some_iff.1 HG2.out).1
  have htb : ¬ t = br := by omega
  obtain ⟨wB, hwB⟩ : ∃ wB, w2.alloc (Obj.cells #[.int .u32 xa, .int .i64 xb] 24) = wB := ⟨_, rfl⟩
  have HIB : Hid (RI M br w r2 wB) := by rw [← hwB]; exact HI2.out.alloc _
  have HGB : Hid (wB.heap[s]? = some (Obj.cells #[.int .u32 0, .int .i64 0, .int .i64 0] 56)) := by rw [← hwB]; exact (Below.heap_alloc w2 _ s (by omega)).trans HG2.out
  have HTB : Hid (wB.heap[t]? = some (Obj.cells #[.int .u32 xa, .int .i64 xb] 24)) := by rw [← hwB, ← ht]; exact World.alloc_heap_new w2 _
  rw [hwB]
  clear hwB HI2 HG2
  refine wp_region_held_drew (S := fun _ => True) (by kernel_rfl) trivial (fun hHeld => ?_)
  obtain ⟨wD, hwD⟩ : ∃ wD, wB.drew = wD := ⟨_, rfl⟩
  have HID : Hid (RI M br w r2 wD) := by rw [← hwD]; exact HIB.out.drew
  have HGD : Hid (wD.heap[s]? = some (Obj.cells #[.int .u32 0, .int .i64 0, .int .i64 0] 56)) := by rw [← hwD]; exact HGB.out
  have HTD : Hid (wD.heap[t]? = some (Obj.cells #[.int .u32 xa, .int .i64 xb] 24)) := by rw [← hwD]; exact HTB.out
  rw [hwD]
  clear hwD HIB HGB HTB
  refine wpAnyH_take (i := 1) (v := ?_) rfl (by kernel_rfl) (by kernel_rfl) (by kernel_rfl) (fun _ _ _ h => h) (Or.inl ⟨by rfl, ?_⟩) (by assumption) ?_
  case refine_2 => intro W hSw; go_simp; try rfl
  try simp only [Act.put, List.getElem_toArray, List.getElem_cons_zero, List.getElem_cons_succ, List.setIfInBounds_toArray, List.set_cons_zero, List.set_cons_succ]
  refine wpAnyH_ready (rs := [0, 2]) (by kernel_rfl) (by simp) ?_
  refine AllReadyH.cons rfl (fun K hK => ?_) (AllReadyH.cons rfl (fun K hK => ?_) AllReadyH.nil)
  · obtain ⟨d0, d1⟩ := cells2 HTD.out
    go_simp
    refine hK.out _ _ trivial (fun hHeld => ?_)
    clear hK K
    try simp only [Act.put, List.getElem_toArray, List.getElem_cons_zero, List.getElem_cons_succ, List.setIfInBounds_toArray, List.set_cons_zero, List.set_cons_succ]
    clear d0 d1
    refine wpAnyH_ready (rs := [2]) (by kernel_rfl) (by simp) ?_
    refine AllReadyH.cons rfl (fun K hK => ?_) AllReadyH.nil
    go_simp
    refine (HID.out.numL 2 2 rfl (by decide) (by decide) xc HCC.out r3 HR3.out).mono ?_
    rintro e w3 ⟨rfl, hi1, hk1⟩
    have HI3 : Hid (RI M br w r3 w3) := hi1
    have HG3 : Hid (w3.heap[s]? = some (Obj.cells #[.int .u32 0, .int .i64 0, .int .i64 0] 56)) := (hk1.block s (Array.getElem?_eq_some_iff.1 HGD.out).1 hsb).trans HGD.out
    have HT3 : Hid (w3.heap[t]? = some (Obj.cells #[.int .u32 xa, .int .i64 xb] 24)) := (hk1.block t (Array.getElem?_eq_some_iff.1 HTD.out).1 htb).trans HTD.out
    clear hi1 hk1
    go_wp2_with fail
    refine hK.out _ _ trivial (fun hHeld => ?_)
    clear hK K
    try simp only [Act.put, List.getElem_toArray, List.getElem_cons_zero, List.getElem_cons_succ, List.setIfInBounds_toArray, List.set_cons_zero, List.set_cons_succ]
    refine wpAnyH_take (i := 3) (v := ?_) rfl (by kernel_rfl) (by kernel_rfl) (by kernel_rfl) (fun _ _ _ h => h) (Or.inl ⟨by rfl, ?_⟩) (by assumption) ?_
    case refine_2 => intro W hSw; go_simp; try rfl
    try simp only [Act.put, List.getElem_toArray, List.getElem_cons_zero, List.getElem_cons_succ, List.setIfInBounds_toArray, List.set_cons_zero, List.set_cons_succ]
    refine wpAnyH_ready (rs := [4]) (by kernel_rfl) (by simp) ?_
    refine AllReadyH.cons rfl (fun K hK => ?_) AllReadyH.nil
    obtain ⟨d0, d1, d2⟩ := cells3 HG3.out
    have dz := frozen_cells HG3.out
    go_simp
    refine hK.out _ _ trivial (fun hHeld => ?_)
    clear hK K
    try simp only [Act.put, List.getElem_toArray, List.getElem_cons_zero, List.getElem_cons_succ, List.setIfInBounds_toArray, List.set_cons_zero, List.set_cons_succ]
    refine wpAnyH_done (by kernel_rfl) ?_ _
    have HF : Hid (∀ v0 v1 v2, RI M br w0 r3 (((w3.setCell ⟨s, 0, none⟩ v0).setCell ⟨s, 1, none⟩ v1).setCell ⟨s, 2, none⟩ v2) ∧ Kr br w (((w3.setCell ⟨s, 0, none⟩ v0).setCell ⟨s, 1, none⟩ v1).setCell ⟨s, 2, none⟩ v2)) := fun v0 v1 v2 => by
      have hb : Below w.heap.size w3 (((w3.setCell ⟨s, 0, none⟩ v0).setCell ⟨s, 1, none⟩ v1).setCell ⟨s, 2, none⟩ v2) := (((Below.refl _ w3).setCell (p := ⟨s, 0, none⟩) (by show _ ≤ s; omega) v0).setCell (p := ⟨s, 1, none⟩) (by show _ ≤ s; omega) v1).setCell (p := ⟨s, 2, none⟩) (by show _ ≤ s; omega) v2
      have h1 := HI3.out.high hM hb
      exact ⟨⟨h1.rd, HKR.out.trans h1.kr⟩, h1.kr⟩
    go_wp2_with fail
    refine bodyPost_ret (v := .agg #[.int .u32 xa, .int .i64 xb, .int .i64 xc]) (by simp [results, Try.results67, go_sem, d0, d1, d2]) rfl ⟨rfl, HF.out _ _ _⟩
  · go_simp
    refine (HID.out.numL 2 2 rfl (by decide) (by decide) xc HCC.out r3 HR3.out).mono ?_
    rintro e w3 ⟨rfl, hi1, hk1⟩
    have HI3 : Hid (RI M br w r3 w3) := hi1
    have HG3 : Hid (w3.heap[s]? = some (Obj.cells #[.int .u32 0, .int .i64 0, .int .i64 0] 56)) := (hk1.block s (Array.getElem?_eq_some_iff.1 HGD.out).1 hsb).trans HGD.out
    have HT3 : Hid (w3.heap[t]? = some (Obj.cells #[.int .u32 xa, .int .i64 xb] 24)) := (hk1.block t (Array.getElem?_eq_some_iff.1 HTD.out).1 htb).trans HTD.out
    clear hi1 hk1
    go_wp2_with fail
    refine hK.out _ _ trivial (fun hHeld => ?_)
    clear hK K
    try simp only [Act.put, List.getElem_toArray, List.getElem_cons_zero, List.getElem_cons_succ, List.setIfInBounds_toArray, List.set_cons_zero, List.set_cons_succ]
    refine wpAnyH_ready (rs := [0]) (by kernel_rfl) (by simp) ?_
    refine AllReadyH.cons rfl (fun K hK => ?_) AllReadyH.nil
    obtain ⟨d0, d1⟩ := cells2 HT3.out
    go_simp
    refine hK.out _ _ trivial (fun hHeld => ?_)
    clear hK K
    try simp only [Act.put, List.getElem_toArray, List.getElem_cons_zero, List.getElem_cons_succ, List.setIfInBounds_toArray, List.set_cons_zero, List.set_cons_succ]
    clear d0 d1
    refine wpAnyH_take (i := 3) (v := ?_) rfl (by kernel_rfl) (by kernel_rfl) (by kernel_rfl) (fun _ _ _ h => h) (Or.inl ⟨by rfl, ?_⟩) (by assumption) ?_
    case refine_2 => intro W hSw; go_simp; try rfl
    try simp only [Act.put, List.getElem_toArray, List.getElem_cons_zero, List.getElem_cons_succ, List.setIfInBounds_toArray, List.set_cons_zero, List.set_cons_succ]
    refine wpAnyH_ready (rs := [4]) (by kernel_rfl) (by simp) ?_
    refine AllReadyH.cons rfl (fun K hK => ?_) AllReadyH.nil
    obtain ⟨d0, d1, d2⟩ := cells3 HG3.out
    have dz := frozen_cells HG3.out
    go_simp
    refine hK.out _ _ trivial (fun hHeld => ?_)
    clear hK K
    try simp only [Act.put, List.getElem_toArray, List.getElem_cons_zero, List.getElem_cons_succ, List.setIfInBounds_toArray, List.set_cons_zero, List.set_cons_succ]
    refine wpAnyH_done (by kernel_rfl) ?_ _
    have HF : Hid (∀ v0 v1 v2, RI M br w0 r3 (((w3.setCell ⟨s, 0, none⟩ v0).setCell ⟨s, 1, none⟩ v1).setCell ⟨s, 2, none⟩ v2) ∧ Kr br w (((w3.setCell ⟨s, 0, none⟩ v0).setCell ⟨s, 1, none⟩ v1).setCell ⟨s, 2, none⟩ v2)) := fun v0 v1 v2 => by
      have hb : Below w.heap.size w3 (((w3.setCell ⟨s, 0, none⟩ v0).setCell ⟨s, 1, none⟩ v1).setCell ⟨s, 2, none⟩ v2) := (((Below.refl _ w3).setCell (p := ⟨s, 0, none⟩) (by show _ ≤ s; omega) v0).setCell (p := ⟨s, 1, none⟩) (by show _ ≤ s; omega) v1).setCell (p := ⟨s, 2, none⟩) (by show _ ≤ s; omega) v2
      have h1 := HI3.out.high hM hb
      exact ⟨⟨h1.rd, HKR.out.trans h1.kr⟩, h1.kr⟩
    go_wp2_with fail
    refine bodyPost_ret (v := .agg #[.int .u32 xa, .int .i64 xb, .int .i64 xc]) (by simp [results, Try.results67, go_sem, d0, d1, d2]) rfl ⟨rfl, HF.out _ _ _⟩
end Go.Proofs.Ytagfdmkgnedlbae.Ls
