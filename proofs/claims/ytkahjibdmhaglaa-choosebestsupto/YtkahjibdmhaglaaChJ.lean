/- The order of offers: steps in a row, the first number that is not 0. -/
import Derived.Test.YtkahjibdmhaglaaChI
import Derived.Test.YtkahjibdmhaglaaSsF
namespace Go.Proofs.Ytkahjibdmhaglaa.Ch
open Go.ChangeShapes Go.WideShapes Go.ChangeAt Go.RowKit Go.Joins Go.Deep Go.Proofs.Ytkahjibdmhaglaa.Ge
open Go.Sort hiding Below
set_option linter.unusedVariables false
set_option linter.unusedSimpArgs false

/-- only draws and new blocks -/
def Gw (w w' : World) : Prop := ∃ q os, w' = grow (w.drewN q) os
theorem Gw.refl (w : World) : Gw w w := ⟨0, #[], by rw [grow_empty]; rfl⟩
theorem Gw.trans {w w1 w2 : World} (h : Gw w w1) (h2 : Gw w1 w2) : Gw w w2 := by
  obtain ⟨q, os, rfl⟩ := h
  obtain ⟨q', os', rfl⟩ := h2
  refine ⟨q + q', os ++ os', ?_⟩
  show grow (grow ((w.drewN q).drewN q') os) os' = _
  rw [grow_grow, World.drewN_drewN]
theorem Gw.dn (w : World) (q : Nat) : Gw w (w.drewN q) := ⟨q, #[], by rw [grow_empty]⟩
theorem Gw.new (w : World) (o : Obj) : Gw w (w.alloc o) := ⟨0, #[o], by rw [alloc_eq_grow]; rfl⟩
theorem Gw.bel {w w' : World} (h : Gw w w') : Below w.heap.size w w' := by
  obtain ⟨q, os, rfl⟩ := h
  exact ⟨rfl, rfl, rfl, by rw [size_grow]; exact Nat.le_add_right _ _, fun b hb => heap_grow_old (w.drewN q) os hb⟩
/-- a step, as a function value -/
theorem stp_call (k : Nat) (hk : k < 8) : ∃ g, fvK k = .func (.func g) #[] #[] ∧ (∀ args w, (callFunc g args).run Try.prog w = .ok (.enter g args) w) ∧ ∀ (b k1 k2 : Nat) (x y : Of) (s t : Oa) (w : World), OfAt w b k1 x s → OfAt w b k2 y t → Calls Try.prog g #[.pointer (some ⟨b, k1, none⟩), .pointer (some ⟨b, k2, none⟩)] w fun e w' => e = .returned (.int .i64 (stp k x y)) ∧ ∃ q, w' = w.drewN q :=
  match k, hk with
  | 0, _ => ⟨38, rfl, enters_of Try.func38 (by kernel_rfl) rfl, fun b k1 k2 x y s t w h1 h2 => st0_any b k1 k2 x y s t w h1 h2⟩
  | 1, _ => ⟨40, rfl, enters_of Try.func40 (by kernel_rfl) rfl, fun b k1 k2 x y s t w h1 h2 => st1_any b k1 k2 x y s t w h1 h2⟩
  | 2, _ => ⟨41, rfl, enters_of Try.func41 (by kernel_rfl) rfl, fun b k1 k2 x y s t w h1 h2 => st2_any b k1 k2 x y s t w h1 h2⟩
  | 3, _ => ⟨43, rfl, enters_of Try.func43 (by kernel_rfl) rfl, fun b k1 k2 x y s t w h1 h2 => st3_any b k1 k2 x y s t w h1 h2⟩
  | 4, _ => ⟨45, rfl, enters_of Try.func45 (by kernel_rfl) rfl, fun b k1 k2 x y s t w h1 h2 => st4_any b k1 k2 x y s t w h1 h2⟩
  | 5, _ => ⟨46, rfl, enters_of Try.func46 (by kernel_rfl) rfl, fun b k1 k2 x y s t w h1 h2 => st5_any b k1 k2 x y s t w h1 h2⟩
  | 6, _ => ⟨47, rfl, enters_of Try.func47 (by kernel_rfl) rfl, fun b k1 k2 x y s t w h1 h2 => st6_any b k1 k2 x y s t w h1 h2⟩
  | 7, _ => ⟨48, rfl, enters_of Try.func48 (by kernel_rfl) rfl, fun b k1 k2 x y s t w h1 h2 => st7_any b k1 k2 x y s t w h1 h2⟩
/-- the first that is not 0 -/
def orP : List Int → Int
  | [] => 0
  | v :: vs => if v ≠ 0 then v else orP vs
theorem orP_at : ∀ (vs : List Int) (i : Nat) (hi : i < vs.length), (∀ j (hj : j < i), vs[j]'(by omega) = 0) → vs[i] ≠ 0 → orP vs = vs[i]
  | v :: vs, 0, _, _, h => by
    show (if v ≠ 0 then v else orP vs) = v
    exact if_pos h
  | v :: vs, i + 1, hi, h0, h => by
    have h5 : v = 0 := h0 0 (by omega)
    show (if v ≠ 0 then v else orP vs) = vs[i]'(by simpa using hi)
    rw [if_neg (by omega)]
    exact orP_at vs i (by simpa using hi) (fun j hj => h0 (j + 1) (by omega)) h
theorem orP_no : ∀ (vs : List Int), (∀ j (hj : j < vs.length), vs[j] = 0) → orP vs = 0
  | [], _ => rfl
  | v :: vs, h => by
    have h5 : v = 0 := h 0 (by simp)
    show (if v ≠ 0 then v else orP vs) = 0
    rw [if_neg (by omega)]
    exact orP_no vs (fun j hj => h (j + 1) (by simpa using hj))
def cmpA (ks : List Nat) (x y : Of) : Int := orP (ks.map (fun k => stp k x y))
structure CaI (w : World) (ks : List Nat) (x y : Of) (m : Nat) (iv : Value) (W : World) : Prop where
  at_ : ∃ i q : Nat, i ≤ m ∧ iv = .int .i64 (i : Int) ∧ W = w.drewN q ∧ ∀ j (hj : j < i) (hl : j < ks.length), stp ks[j] x y = 0
set_option maxRecDepth 100000 in
set_option maxHeartbeats 8000000 in
theorem cmps_any (ks : List Nat) (m sc sb b k1 k2 : Nat) (x y : Of) (s t : Oa) (w : World) (hkm : ks.length = m) (hm : m ≤ 100) (hks : ∀ k ∈ ks, k < 8) (hs : ∀ i (hi : i < ks.length), w.cell? ⟨sb, i, none⟩ = some (fvK ks[i])) (h1 : OfAt w b k1 x s) (h2 : OfAt w b k2 y t) : Calls Try.prog 51 #[.slice (some ⟨sb, 0, none⟩) m sc, .pointer (some ⟨b, k1, none⟩), .pointer (some ⟨b, k2, none⟩)] w fun e w' => e = .returned (.int .i64 (cmpA ks x y)) ∧ ∃ q, w' = w.drewN q := by
  have HN : Hid (ks.length = m) := hkm
  have HK : Hid (∀ k ∈ ks, k < 8) := hks
  have HS : Hid (∀ i (hi : i < ks.length), w.cell? ⟨sb, i, none⟩ = some (fvK ks[i])) := hs
  have H12 : Hid (OfAt w b k1 x s ∧ OfAt w b k2 y t) := ⟨h1, h2⟩
  obtain ⟨z, hz⟩ : ∃ z, cmpA ks x y = z := ⟨_, rfl⟩
  have HZ : Hid (cmpA ks x y = z) := hz
  rw [hz]
  clear hkm hks hs h1 h2 hz
  go_enter Try.func51, Try.ntmps51
  go_wp2_with fail
  go_loopw [12, 8, 9] (fun iv _ _ wr => CaI w ks x y m iv wr) (fun i _ _ _ => m - (intOf i).toNat)
  case atStart => exact ⟨0, 0, by omega, rfl, rfl, fun j hj => by omega⟩
  case round =>
    obtain ⟨i, q, hi, rfl, hw, hno⟩ := hrel
    obtain ⟨wz, hwz⟩ : ∃ y, wr = y := ⟨_, rfl⟩
    rw [hwz] at hw ⊢
    have HW : Hid (wz = w.drewN q) := hw
    have HNO : Hid (∀ j (hj : j < i) (hl : j < ks.length), stp ks[j] x y = 0) := hno
    clear hw hwz hno
    by_cases hlt : i < m
    case neg =>
      have hii : ¬ (i : Int) < (m : Int) := by omega
      have HE : Hid (z = 0) := by
        show _ = _
        rw [← HZ.out]
        exact orP_no _ (fun j hj => by rw [List.getElem_map]; exact HNO.out j (by have := HN.out; rw [List.length_map] at hj; omega) (by rw [List.length_map] at hj; exact hj))
      go_wp2_with fail
      go_ret
      exact ⟨by rw [HE.out]; try rfl, q, HW.out⟩
    have hil : i < ks.length := by rw [HN.out]; exact hlt
    have hii : (i : Int) < (m : Int) := by omega
    have ii0 : (0 : Int) ≤ (i : Int) := by omega
    obtain ⟨k, hk⟩ : ∃ y, ks[i] = y := ⟨_, rfl⟩
    obtain ⟨g, hg, eg, HC⟩ := stp_call k (HK.out k (hk ▸ List.getElem_mem hil))
    have c1 : wz.cell? ⟨sb, i, none⟩ = some (.func (.func g) #[] #[]) := by
      rw [HW.out, ← hg, ← hk]
      exact HS.out i hil
    have HCA := HC b k1 k2 x y s t wz (by rw [HW.out]; exact H12.out.1) (by rw [HW.out]; exact H12.out.2)
    have HKK : Hid (ks[i] = k) := hk
    obtain ⟨v, hv⟩ : ∃ y', stp k x y = y' := ⟨_, rfl⟩
    have HV : Hid (stp k x y = v) := hv
    rw [hv] at HCA
    clear hk hg HC hv
    by_cases hv0 : v = 0
    case pos =>
      subst hv0
      have HN2 : Hid (∀ j (hj : j < i + 1) (hl : j < ks.length), stp ks[j] x y = 0) := fun j hj hl => by
        rcases Nat.lt_succ_iff_lt_or_eq.1 hj with h5 | h5
        · exact HNO.out j h5 hl
        · subst h5
          rw [HKK.out]
          exact HV.out
      go_wp2_with (go_at_fn g; refine HCA.mono ?_; rintro e W2 ⟨rfl, q2, hw2⟩; have HW2 : Hid (W2 = w.drewN (q + q2)) := (by show _ = _; rw [hw2, HW.out, World.drewN_drewN]); clear hw2 HCA)
      refine ⟨⟨i + 1, q + q2, by omega, by simp, HW2.out, HN2.out⟩, ?_⟩
      simp [intOf]
      omega
    case neg =>
      have hvb : (v != 0) = true := by simpa using hv0
      have HE : Hid (z = v) := by
        show _ = _
        rw [← HZ.out]
        have h5 := orP_at (ks.map (fun k => stp k x y)) i (by simpa using hil) (fun j hj => by rw [List.getElem_map]; exact HNO.out j hj (by omega)) (by rw [List.getElem_map, HKK.out, HV.out]; exact hv0)
        rw [List.getElem_map, HKK.out, HV.out] at h5
        exact h5
      clear hv0
      go_wp2_with (go_at_fn g; refine HCA.mono ?_; rintro e W2 ⟨rfl, q2, hw2⟩; have HW2 : Hid (W2 = w.drewN (q + q2)) := (by show _ = _; rw [hw2, HW.out, World.drewN_drewN]); clear hw2 HCA)
      go_ret
      exact ⟨by rw [HE.out]; try rfl, q + q2, HW2.out⟩
structure OrI (w : World) (vs : List Int) (m : Nat) (iv : Value) (W : World) : Prop where
  at_ : ∃ i : Nat, i ≤ m ∧ iv = .int .i64 (i : Int) ∧ W = w ∧ ∀ j (hj : j < i) (hl : j < vs.length), vs[j] = 0
set_option maxRecDepth 100000 in
set_option maxHeartbeats 8000000 in
theorem or_any (vs : List Int) (b m c : Nat) (hm : vs.length = m) (w : World) (h : Lst EI w (some ⟨b, 0, none⟩) vs) : Calls Try.prog 25 #[.slice (some ⟨b, 0, none⟩) m c] w fun e w' => e = .returned (.int .i64 (orP vs)) ∧ w' = w := by
  have HN : Hid (vs.length = m) := hm
  have H : Hid (Lst EI w (some ⟨b, 0, none⟩) vs) := h
  have hsm := h.small
  rw [hm] at hsm
  obtain ⟨z, hz⟩ : ∃ z, orP vs = z := ⟨_, rfl⟩
  have HZ : Hid (orP vs = z) := hz
  rw [hz]
  clear hm h hz
  go_enter Try.func25, Try.ntmps25
  go_wp2_with fail
  go_loopw [8, 5] (fun iv _ wr => OrI w vs m iv wr) (fun i _ _ => m - (intOf i).toNat)
  case atStart => exact ⟨0, by omega, rfl, rfl, fun j hj => by omega⟩
  case round =>
    obtain ⟨i, hi, rfl, hw, hno⟩ := hrel
    rw [hw]
    have HNO : Hid (∀ j (hj : j < i) (hl : j < vs.length), vs[j] = 0) := hno
    clear hw hno
    by_cases hlt : i < m
    case neg =>
      have hii : ¬ (i : Int) < (m : Int) := by omega
      have HE : Hid (z = 0) := by
        show _ = _
        rw [← HZ.out]
        exact orP_no _ (fun j hj => HNO.out j (by have := HN.out; omega) hj)
      go_wp2_with fail
      go_ret
      exact ⟨by rw [HE.out]; try rfl, rfl⟩
    have hil : i < vs.length := by rw [HN.out]; exact hlt
    have hii : (i : Int) < (m : Int) := by omega
    have ii0 : (0 : Int) ≤ (i : Int) := by omega
    obtain ⟨v, hv⟩ : ∃ y, vs[i] = y := ⟨_, rfl⟩
    have HV : Hid (vs[i] = v) := hv
    have c1 : w.cell? ⟨b, i, none⟩ = some (.int .i64 v) := by
      obtain ⟨b', o', e', -, hc⟩ := H.out.cells i hil
      cases e'
      have h5 := hc 0 (by decide)
      have e1 : EI.k = 1 := rfl
      rw [e1, Nat.mul_one, Nat.zero_add, hv] at h5
      exact h5
    clear hv
    by_cases hv0 : v = 0
    case pos =>
      subst hv0
      have HN2 : Hid (∀ j (hj : j < i + 1) (hl : j < vs.length), vs[j] = 0) := fun j hj hl => by
        rcases Nat.lt_succ_iff_lt_or_eq.1 hj with h5 | h5
        · exact HNO.out j h5 hl
        · subst h5
          exact HV.out
      go_wp2_with fail
      refine ⟨⟨i + 1, by omega, by simp, rfl, HN2.out⟩, ?_⟩
      simp [intOf]
      omega
    case neg =>
      have hvb : (v != 0) = true := by simpa using hv0
      have HE : Hid (z = v) := by
        show _ = _
        rw [← HZ.out, orP_at vs i hil (fun j hj => HNO.out j hj (by omega)) (by rw [HV.out]; exact hv0)]
        exact HV.out
      clear hv0
      go_wp2_with fail
      go_ret
      exact ⟨by rw [HE.out]; try rfl, rfl⟩
end Go.Proofs.Ytkahjibdmhaglaa.Ch
