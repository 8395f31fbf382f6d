/- The heap mended downwards. -/
import Derived.Test.YthhdpfgepjmgkaaDjH
namespace Go.Proofs.Ythhdpfgepjmgkaa.Dj
open Go.ChangeShapes Go.WideShapes Go.ChangeAt Go.RowKit Go.Joins Go.Deep Go.Proofs.Ythhdpfgepjmgkaa.Ge
set_option linter.unusedVariables false
set_option linter.unusedSimpArgs false

theorem sw_out (xs : List Tn) {i j k : Nat} (h1 : k ≠ i) (h2 : k ≠ j) : (sw xs i j)[k]? = xs[k]? := by
  unfold sw
  split
  · rw [List.getElem?_set_ne (Ne.symm h2), List.getElem?_set_ne (Ne.symm h1)]
  · rfl
def DnPost (w : World) (N qb g m c n : Nat) (xs : List Tn) (e : Ending) (w' : World) : Prop := ∃ b ys, e = .returned (.bool b) ∧ TQ N qb g m c ys w' ∧ ys.Perm xs ∧ Hp ys n ∧ Ko w g w' ∧ ∀ k, n ≤ k → ys[k]? = xs[k]?
structure DI (w : World) (N qb g m c n : Nat) (xs : List Tn) (iv : Value) (W : World) : Prop where
  at_ : ∃ (i : Nat) (ys : List Tn), iv = .int .i64 (i : Int) ∧ i ≤ n ∧ Dn ys n i ∧ TQ N qb g m c ys W ∧ ys.Perm xs ∧ Ko w g W ∧ ∀ k, n ≤ k → ys[k]? = xs[k]?
theorem ls_any (N qb g n c : Nat) (xs : List Tn) (i j : Nat) (w : World) (h : TQ N qb g n c xs w) (hi : i < n) (hj : j < n) (r : Bool) (hr : decide (dd xs i < dd xs j) = r) : Calls Try.prog 107 #[.slice (some ⟨g, 0, none⟩) n c, .int .i64 (i : Int), .int .i64 (j : Int)] w (fun e w' => e = .returned (.bool r) ∧ w.drew = w') :=
  less_any N g n c xs i j w h.own hi hj r (fun h1 h2 => by rw [← hr, dd_at h1, dd_at h2])
set_option maxRecDepth 100000 in
set_option maxHeartbeats 16000000 in
theorem down_any (N qb g m c n : Nat) (xs : List Tn) (w : World) (hm : m < 1099511627776) (hnm : n ≤ m) (h : TQ N qb g m c xs w) (hd : Dn xs n 0) : Calls Try.prog 66 #[.iface 97 (.pointer (some ⟨qb, 0, none⟩)), .int .i64 0, .int .i64 (n : Int)] w (DnPost w N qb g m c n xs) := by
  have H0 : Hid (DI w N qb g m c n xs (.int .i64 0) w) := ⟨0, xs, rfl, Nat.zero_le _, hd, h, List.Perm.refl _, Ko.refl _ _, fun _ _ => rfl⟩
  clear hd h
  go_enter Try.func66, Try.ntmps66
  go_wp2_with fail
  go_loopw [7, 8, 9, 10] (fun iv _ _ _ wr => DI w N qb g m c n xs iv wr) (fun iv _ _ _ _ => n - (intOf iv).toNat)
  case atStart => exact H0.out
  case round =>
    obtain ⟨i, ys, rfl, hin, hdn, htq, hpm, hko, hout⟩ := hrel
    obtain ⟨wz, hwz⟩ : ∃ y, wr = y := ⟨_, rfl⟩
    rw [hwz] at htq hko ⊢
    have HDN : Hid (Dn ys n i) := hdn
    have HTQ : Hid (TQ N qb g m c ys wz) := htq
    have HPM : Hid (ys.Perm xs) := hpm
    have HKO : Hid (Ko w g wz) := hko
    have HOUT : Hid (∀ k, n ≤ k → ys[k]? = xs[k]?) := hout
    have HL : Hid (ys.length = m) := htq.own.lst.2
    clear hdn htq hpm hko hout hwz
    have hib : (i : Int) < 1099511627776 := by omega
    by_cases h1 : n ≤ 2 * i + 1
    case pos =>
      have hz1 : (n : Int) ≤ 2 * (i : Int) + 1 := by omega
      have HE : Hid (∀ b, DnPost w N qb g m c n xs (.returned (.bool b)) wz) := fun b => ⟨b, ys, rfl, HTQ.out, HPM.out, HDN.out.done (fun k k0 kn ke => by omega), HKO.out, HOUT.out⟩
      clear h1
      go_wp2_with fail
      go_ret
      exact HE.out _
    have hz1 : ¬ (n : Int) ≤ 2 * (i : Int) + 1 := by omega
    have hz2 : ¬ 2 * (i : Int) + 1 < 0 := by omega
    by_cases h2 : 2 * i + 2 < n
    case neg =>
      have hz3 : ¬ 2 * (i : Int) + 1 + 1 < (n : Int) := by omega
      have HCH : Hid (Ch ys n i (2 * i + 1)) := ⟨by omega, by omega, by omega, fun k k0 kn ke => by rw [show k = 2 * i + 1 by omega]; exact Int.le_refl _⟩
      have HT : Hid (TQ N qb g m c ys wz) := HTQ.out
      have HK : Hid (Ko w g wz) := HKO.out
      clear HTQ HKO
      obtain ⟨r, hr⟩ : ∃ y, decide (dd ys (2 * i + 1) < dd ys i) = y := ⟨_, rfl⟩
      have HR : Hid (decide (dd ys (2 * i + 1) < dd ys i) = r) := hr
      have HLS : Hid (Calls Try.prog 107 #[.slice (some ⟨g, 0, none⟩) m c, .int .i64 (2 * (i : Int) + 1), .int .i64 (i : Int)] wz (fun e w' => e = .returned (.bool r) ∧ wz.drew = w')) := ls_any N qb g m c ys (2 * i + 1) i wz HT.out (by omega) (by omega) r hr
      clear hr
      go_wp2_with fail
      rw [m_less wz qb _ m c HT.out.cell, Result.andThen_ok, e_less]
      refine HLS.out.mono ?_
      rintro e w4 ⟨rfl, rfl⟩
      obtain ⟨w4, hw4⟩ : ∃ y, wz.drew = y := ⟨_, rfl⟩
      rw [hw4]
      replace HT : Hid (TQ N qb g m c ys w4) := by rw [← hw4]; exact HT.out.bel (drew_bel wz)
      replace HK : Hid (Ko w g w4) := by rw [← hw4]; exact HK.out.trans (Ko.drew wz g)
      clear hw4 HLS
      cases r
      case false =>
        have hle := of_decide_eq_false HR.out
        have HE : Hid (∀ b, DnPost w N qb g m c n xs (.returned (.bool b)) w4) := fun b => ⟨b, ys, rfl, HT.out, HPM.out, HDN.out.done (fun k k0 kn ke => by have := HCH.out.2.2.2 k k0 kn ke; omega), HK.out, HOUT.out⟩
        clear hle
        go_wp2_with fail
        go_ret
        exact HE.out _
      have hlt := of_decide_eq_true HR.out
      have HDS : Hid (Dn (sw ys i (2 * i + 1)) n (2 * i + 1)) := HDN.out.step (by rw [HL.out]; exact hnm) HCH.out hlt
      have HSW : Hid (Calls Try.prog 108 #[.slice (some ⟨g, 0, none⟩) m c, .int .i64 (i : Int), .int .i64 (2 * (i : Int) + 1)] w4 (fun e w' => e = .returned (.tuple #[]) ∧ OwnL ET N w' (.slice (some ⟨g, 0, none⟩) m c) (sw ys i (2 * i + 1)) ∧ Ko w4 g w')) := swap_any N g m c ys i (2 * i + 1) w4 HT.out.own (by omega) (by omega)
      clear hlt
      go_wp2_with fail
      rw [m_swap w4 qb _ m c HT.out.cell, Result.andThen_ok, e_swap]
      refine HSW.out.mono ?_
      rintro e w5 ⟨rfl, ho5, hk5⟩
      have HD5 : Hid (DI w N qb g m c n xs (.int .i64 (2 * (i : Int) + 1)) w5) := ⟨2 * i + 1, sw ys i (2 * i + 1), rfl, by omega, HDS.out, HT.out.nx ho5 hk5, (sw_perm _ _ _).trans HPM.out, HK.out.trans hk5, fun k hk => by rw [sw_out ys (by omega) (by omega)]; exact HOUT.out k hk⟩
      clear ho5 hk5 HSW
      go_wp2_with fail
      refine ⟨HD5.out, ?_⟩
      simp [intOf]
      omega
    have hz3 : 2 * (i : Int) + 1 + 1 < (n : Int) := by omega
    obtain ⟨q, hq⟩ : ∃ y, decide (dd ys (2 * i + 1 + 1) < dd ys (2 * i + 1)) = y := ⟨_, rfl⟩
    have HQ : Hid (decide (dd ys (2 * i + 1 + 1) < dd ys (2 * i + 1)) = q) := hq
    have HLQ : Hid (Calls Try.prog 107 #[.slice (some ⟨g, 0, none⟩) m c, .int .i64 (2 * (i : Int) + 1 + 1), .int .i64 (2 * (i : Int) + 1)] wz (fun e w' => e = .returned (.bool q) ∧ wz.drew = w')) := ls_any N qb g m c ys (2 * i + 1 + 1) (2 * i + 1) wz HTQ.out (by omega) (by omega) q hq
    clear hq
    go_wp2_with fail
    rw [m_less wz qb _ m c HTQ.out.cell, Result.andThen_ok, e_less]
    refine HLQ.out.mono ?_
    rintro e w2 ⟨rfl, rfl⟩
    obtain ⟨w2, hw2⟩ : ∃ y, wz.drew = y := ⟨_, rfl⟩
    rw [hw2]
    have HT : Hid (TQ N qb g m c ys w2) := by rw [← hw2]; exact HTQ.out.bel (drew_bel wz)
    have HK : Hid (Ko w g w2) := by rw [← hw2]; exact HKO.out.trans (Ko.drew wz g)
    clear hw2 HLQ HTQ HKO
    cases q
    case false =>
      have HCH : Hid (Ch ys n i (2 * i + 1)) := ⟨by omega, by omega, by omega, fun k k0 kn ke => by
        have hle := of_decide_eq_false HQ.out
        rcases (show k = 2 * i + 1 ∨ k = 2 * i + 1 + 1 by omega) with rfl | rfl
        · exact Int.le_refl _
        · omega⟩
      obtain ⟨r, hr⟩ : ∃ y, decide (dd ys (2 * i + 1) < dd ys i) = y := ⟨_, rfl⟩
      have HR : Hid (decide (dd ys (2 * i + 1) < dd ys i) = r) := hr
      have HLS : Hid (Calls Try.prog 107 #[.slice (some ⟨g, 0, none⟩) m c, .int .i64 (2 * (i : Int) + 1), .int .i64 (i : Int)] w2 (fun e w' => e = .returned (.bool r) ∧ w2.drew = w')) := ls_any N qb g m c ys (2 * i + 1) i w2 HT.out (by omega) (by omega) r hr
      clear hr
      go_wp2_with fail
      rw [m_less w2 qb _ m c HT.out.cell, Result.andThen_ok, e_less]
      refine HLS.out.mono ?_
      rintro e w4 ⟨rfl, rfl⟩
      obtain ⟨w4, hw4⟩ : ∃ y, w2.drew = y := ⟨_, rfl⟩
      rw [hw4]
      replace HT : Hid (TQ N qb g m c ys w4) := by rw [← hw4]; exact HT.out.bel (drew_bel w2)
      replace HK : Hid (Ko w g w4) := by rw [← hw4]; exact HK.out.trans (Ko.drew w2 g)
      clear hw4 HLS
      cases r
      case false =>
        have hle := of_decide_eq_false HR.out
        have HE : Hid (∀ b, DnPost w N qb g m c n xs (.returned (.bool b)) w4) := fun b => ⟨b, ys, rfl, HT.out, HPM.out, HDN.out.done (fun k k0 kn ke => by have := HCH.out.2.2.2 k k0 kn ke; omega), HK.out, HOUT.out⟩
        clear hle
        go_wp2_with fail
        go_ret
        exact HE.out _
      have hlt := of_decide_eq_true HR.out
      have HDS : Hid (Dn (sw ys i (2 * i + 1)) n (2 * i + 1)) := HDN.out.step (by rw [HL.out]; exact hnm) HCH.out hlt
      have HSW : Hid (Calls Try.prog 108 #[.slice (some ⟨g, 0, none⟩) m c, .int .i64 (i : Int), .int .i64 (2 * (i : Int) + 1)] w4 (fun e w' => e = .returned (.tuple #[]) ∧ OwnL ET N w' (.slice (some ⟨g, 0, none⟩) m c) (sw ys i (2 * i + 1)) ∧ Ko w4 g w')) := swap_any N g m c ys i (2 * i + 1) w4 HT.out.own (by omega) (by omega)
      clear hlt
      go_wp2_with fail
      rw [m_swap w4 qb _ m c HT.out.cell, Result.andThen_ok, e_swap]
      refine HSW.out.mono ?_
      rintro e w5 ⟨rfl, ho5, hk5⟩
      have HD5 : Hid (DI w N qb g m c n xs (.int .i64 (2 * (i : Int) + 1)) w5) := ⟨2 * i + 1, sw ys i (2 * i + 1), rfl, by omega, HDS.out, HT.out.nx ho5 hk5, (sw_perm _ _ _).trans HPM.out, HK.out.trans hk5, fun k hk => by rw [sw_out ys (by omega) (by omega)]; exact HOUT.out k hk⟩
      clear ho5 hk5 HSW
      go_wp2_with fail
      refine ⟨HD5.out, ?_⟩
      simp [intOf]
      omega
    have HCH : Hid (Ch ys n i (2 * i + 1 + 1)) := ⟨by omega, by omega, by omega, fun k k0 kn ke => by
      have hle := of_decide_eq_true HQ.out
      rcases (show k = 2 * i + 1 ∨ k = 2 * i + 1 + 1 by omega) with rfl | rfl
      · omega
      · exact Int.le_refl _⟩
    obtain ⟨r, hr⟩ : ∃ y, decide (dd ys (2 * i + 1 + 1) < dd ys i) = y := ⟨_, rfl⟩
    have HR : Hid (decide (dd ys (2 * i + 1 + 1) < dd ys i) = r) := hr
    have HLS : Hid (Calls Try.prog 107 #[.slice (some ⟨g, 0, none⟩) m c, .int .i64 (2 * (i : Int) + 1 + 1), .int .i64 (i : Int)] w2 (fun e w' => e = .returned (.bool r) ∧ w2.drew = w')) := ls_any N qb g m c ys (2 * i + 1 + 1) i w2 HT.out (by omega) (by omega) r hr
    clear hr
    go_wp2_with fail
    rw [m_less w2 qb _ m c HT.out.cell, Result.andThen_ok, e_less]
    refine HLS.out.mono ?_
    rintro e w4 ⟨rfl, rfl⟩
    obtain ⟨w4, hw4⟩ : ∃ y, w2.drew = y := ⟨_, rfl⟩
    rw [hw4]
    replace HT : Hid (TQ N qb g m c ys w4) := by rw [← hw4]; exact HT.out.bel (drew_bel w2)
    replace HK : Hid (Ko w g w4) := by rw [← hw4]; exact HK.out.trans (Ko.drew w2 g)
    clear hw4 HLS
    cases r
    case false =>
      have hle := of_decide_eq_false HR.out
      have HE : Hid (∀ b, DnPost w N qb g m c n xs (.returned (.bool b)) w4) := fun b => ⟨b, ys, rfl, HT.out, HPM.out, HDN.out.done (fun k k0 kn ke => by have := HCH.out.2.2.2 k k0 kn ke; omega), HK.out, HOUT.out⟩
      clear hle
      go_wp2_with fail
      go_ret
      exact HE.out _
    have hlt := of_decide_eq_true HR.out
    have HDS : Hid (Dn (sw ys i (2 * i + 1 + 1)) n (2 * i + 1 + 1)) := HDN.out.step (by rw [HL.out]; exact hnm) HCH.out hlt
    have HSW : Hid (Calls Try.prog 108 #[.slice (some ⟨g, 0, none⟩) m c, .int .i64 (i : Int), .int .i64 (2 * (i : Int) + 1 + 1)] w4 (fun e w' => e = .returned (.tuple #[]) ∧ OwnL ET N w' (.slice (some ⟨g, 0, none⟩) m c) (sw ys i (2 * i + 1 + 1)) ∧ Ko w4 g w')) := swap_any N g m c ys i (2 * i + 1 + 1) w4 HT.out.own (by omega) (by omega)
    clear hlt
    go_wp2_with fail
    rw [m_swap w4 qb _ m c HT.out.cell, Result.andThen_ok, e_swap]
    refine HSW.out.mono ?_
    rintro e w5 ⟨rfl, ho5, hk5⟩
    have HD5 : Hid (DI w N qb g m c n xs (.int .i64 (2 * (i : Int) + 1 + 1)) w5) := ⟨2 * i + 1 + 1, sw ys i (2 * i + 1 + 1), rfl, by omega, HDS.out, HT.out.nx ho5 hk5, (sw_perm _ _ _).trans HPM.out, HK.out.trans hk5, fun k hk => by rw [sw_out ys (by omega) (by omega)]; exact HOUT.out k hk⟩
    clear ho5 hk5 HSW
    go_wp2_with fail
    refine ⟨HD5.out, ?_⟩
    simp [intOf]
    omega
end Go.Proofs.Ythhdpfgepjmgkaa.Dj
