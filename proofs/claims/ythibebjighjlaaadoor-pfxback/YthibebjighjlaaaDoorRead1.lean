/- readNumber: what it answers, at every text. -/
import Derived.Test.YthibebjighjlaaaDoorRows
import Derived.Test.YthibebjighjlaaaDoorTMath
import Derived.ProofKit
import Derived.OpenShut
import Derived.WalkLawsBesides
import Derived.Below
import Derived.Deep.QuietTactic
import Derived.BigQuiet
import Derived.Lib.IndexBytes
namespace Go.Proofs.YthibebjighjlaaaDoor.Rd
open Go.ChangeShapes Go.WideShapes Go.ChangeAt Go.RowKit Go.Proofs.YthibebjighjlaaaDoor.TM
set_option linter.unusedVariables false

theorem byte_at (s : ByteArray) (k : Nat) (h : k < s.size) : s.data.toList[k]? = some s[k] := by
  rw [List.getElem?_eq_getElem (by simpa using h)]; rfl

theorem stop_at (s : ByteArray) (k : Nat) (h : k < s.size) (hk : k = nd s.data.toList) : ¬ (48 ≤ (s[k].toNat : Int) ∧ (s[k].toNat : Int) ≤ 57) := by
  intro hd
  have h2 := nd_stop s.data.toList s[k] (by rw [← hk]; exact byte_at s k h)
  rw [(isD_iff _).2 hd] at h2
  cases h2

/-- what readNumber answers -/
def rdV (l : List UInt8) (most : Nat) : Value :=
  if okN l (min (nd l) most) = true then .tuple #[.int .i64 (val (l.take (min (nd l) most))), .string (bs (l.drop (min (nd l) most))), .bool true]
  else .tuple #[.int .i64 0, .string ⟨#[]⟩, .bool false]

theorem fin_eq {v v' : Value} (h : v' = v) : Ending.returned v = .returned v' := by rw [h]
theorem extract_bs (s : ByteArray) (k : Nat) : s.extract k s.size = bs (s.data.toList.drop k) := by
  apply bs_inj
  rw [bs_list, Lib.extract_to_end]

set_option maxHeartbeats 4000000 in
theorem readNumber_any (s : ByteArray) (most : Nat) (hm : most ≤ 3) (h1 : 1 ≤ most) (w : World) (hs : s.size ≤ maxLen) :
    Calls Tryd.prog 24 #[.string s, .int .i64 most] w fun e w' => e = .returned (rdV s.data.toList most) ∧ ∃ q, w' = w.drewN q := by
  unfold maxLen at hs
  have hn := nd_le s.data.toList
  go_enter Tryd.func24, Tryd.ntmps24
  go_wp2_with fail
  go_loop [4, 7] (fun n i => ∃ k : Nat, k ≤ nd s.data.toList ∧ k ≤ most ∧ i = .int .i64 k ∧ n = .int .i64 (val (s.data.toList.take k))) (fun _ i => most - (intOf i).toNat)
  case atStart => exact ⟨0, Nat.zero_le _, Nat.zero_le _, rfl, rfl⟩
  case round =>
    obtain ⟨k, hk, hkm, rfl, rfl⟩ := hrel
    have hlen : s.data.toList.length = s.size := rfl
    by_cases hlt : k < nd s.data.toList ∧ k < most
    · have hks : k < s.size := by omega
      obtain ⟨c, hc, hd⟩ := nd_get s.data.toList k hlt.1
      have hc' : c = s[k] := by rw [byte_at s k hks] at hc; simpa using hc.symm
      subst hc'
      have hd2 := (isD_iff _).1 hd
      have hb := val_take3 s.data.toList k (by omega) (by omega)
      have HV : Hid (val (s.data.toList.take (k + 1)) = val (s.data.toList.take k) * 10 + ((s[k].toNat : Int) - 48)) := by
        show _ = _; rw [take_snoc _ k _ hc, val_snoc]
      have g1 := hd2.1
      have g2 := hd2.2
      have g3 := hlt.2
      clear hc hd hd2
      go_wp2_with fail
      exact ⟨⟨k + 1, by omega, by omega, by go_num, by rw [HV.out]⟩, by simp [intOf]; omega⟩
    · have HK : Hid (k = min (nd s.data.toList) most) := by show _ = _; omega
      have hb := val_take3 s.data.toList k (by omega) (by omega)
      have hks : (k : Int) ≤ (s.size : Int) := by omega
      have hst := stop_at s k
      have hke : k = nd s.data.toList ∨ k = most := by omega
      have hr : (¬ (k : Int) < (s.size : Int)) ∨ (k < s.size ∧ ¬ (k : Int) < (most : Int)) ∨ (k < s.size ∧ (k : Int) < (most : Int) ∧ ∃ h : k < s.size, (s[k].toNat : Int) < 48) ∨ (k < s.size ∧ (k : Int) < (most : Int) ∧ ∃ h : k < s.size, 57 < (s[k].toNat : Int)) := by
        by_cases e1 : k < s.size
        · by_cases e2 : k < most
          · have := hst e1 (by omega)
            by_cases e3 : (s[k].toNat : Int) < 48
            · right; right; left; exact ⟨e1, by omega, e1, e3⟩
            · right; right; right; exact ⟨e1, by omega, e1, by omega⟩
          · right; left; exact ⟨e1, by omega⟩
        · left; omega
      have ha : (((k : Int) == 0) = true ∧ okN s.data.toList k = false) ∨ (((k : Int) == 0) = false ∧ ¬ (1 : Int) < (k : Int) ∧ okN s.data.toList k = true) ∨ (((k : Int) == 0) = false ∧ (1 : Int) < (k : Int) ∧ (∃ h : 0 < s.size, ((s[0].toNat : Int) == 48) = true) ∧ okN s.data.toList k = false) ∨ (((k : Int) == 0) = false ∧ (1 : Int) < (k : Int) ∧ (∃ h : 0 < s.size, ((s[0].toNat : Int) == 48) = false) ∧ okN s.data.toList k = true) := by
        by_cases e1 : k = 0
        · left; subst e1; exact ⟨by simp, okN_zero _⟩
        · by_cases e2 : k = 1
          · right; left; subst e2; exact ⟨by simp, by omega, okN_one _⟩
          · have h0 : 0 < s.size := by omega
            have hb0 := byte_at s 0 h0
            right; right
            by_cases e3 : (s[0].toNat : Int) = 48
            · left
              have e4 : s[0] = 48 := by
                apply UInt8.toNat_inj.1; simp; omega
              exact ⟨by simp; omega, by omega, ⟨h0, by simp [e3]⟩, okN_lead _ _ (by rw [hb0, e4]) (by omega)⟩
            · right
              exact ⟨by simp; omega, by omega, ⟨h0, by simpa using e3⟩, okN_fine _ _ _ hb0 e3 (by omega)⟩
      clear hst hke hlt hlen hn
      have hfin : (okN s.data.toList k = false → rdV s.data.toList most = .tuple #[.int .i64 0, .string ⟨#[]⟩, .bool false]) ∧ (okN s.data.toList k = true → rdV s.data.toList most = .tuple #[.int .i64 (val (s.data.toList.take k)), .string (s.extract k s.size), .bool true]) := by
        rw [extract_bs]; unfold rdV; rw [← HK.out]; constructor <;> (intro h; simp [h])
      have HF : Hid (_ ∧ _) := hfin
      clear hfin
      rcases ha with ⟨a1, a2⟩ | ⟨a1, a3, a2⟩ | ⟨a1, a3, ⟨a4, a5⟩, a2⟩ | ⟨a1, a3, ⟨a4, a5⟩, a2⟩
      · have HE := HF.out.1 a2
        have HG : Hid (_ = _) := HE
        clear a2 HE
        rcases hr with r1 | ⟨r1, r2⟩ | ⟨r1, r2, r3, r4⟩ | ⟨r1, r2, r3, r4⟩
        all_goals
          go_wp2_with fail
          go_ret3
          exact ⟨fin_eq HG.out, 0, rfl⟩
      · have HE := HF.out.2 a2
        have HG : Hid (_ = _) := HE
        clear a2 HE
        rcases hr with r1 | ⟨r1, r2⟩ | ⟨r1, r2, r3, r4⟩ | ⟨r1, r2, r3, r4⟩
        all_goals
          go_wp2_with fail
          go_quiet (fail)
          go_wp2_with fail
          go_ret3
          exact ⟨fin_eq HG.out, nq, rfl⟩
      · have HE := HF.out.1 a2
        have HG : Hid (_ = _) := HE
        clear a2 HE
        rcases hr with r1 | ⟨r1, r2⟩ | ⟨r1, r2, r3, r4⟩ | ⟨r1, r2, r3, r4⟩
        all_goals
          go_wp2_with fail
          go_ret3
          exact ⟨fin_eq HG.out, 0, rfl⟩
      · have HE := HF.out.2 a2
        have HG : Hid (_ = _) := HE
        clear a2 HE
        rcases hr with r1 | ⟨r1, r2⟩ | ⟨r1, r2, r3, r4⟩ | ⟨r1, r2, r3, r4⟩
        all_goals
          go_wp2_with fail
          go_quiet (fail)
          go_wp2_with fail
          go_ret3
          exact ⟨fin_eq HG.out, nq, rfl⟩
end Go.Proofs.YthibebjighjlaaaDoor.Rd
