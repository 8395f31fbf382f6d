/- The document's reading of numbers: what pfxDigits and pfxNumber answer, at every text and place. -/
import Derived.Test.YthibebjighjlaaaRead3
namespace Go.Proofs.Ythibebjighjlaaa.Rd
open Go.ChangeShapes Go.WideShapes Go.ChangeAt Go.RowKit Go.Proofs.Ythibebjighjlaaa.TM
set_option linter.unusedVariables false

theorem drop_at (s : ByteArray) (i k : Nat) (h : i + k < s.size) : (s.data.toList.drop i)[k]? = some s[i + k] := by
  rw [List.getElem?_drop]; exact byte_at s (i + k) h
theorem stop_drop (s : ByteArray) (i k : Nat) (h : i + k < s.size) (hk : k = nd (s.data.toList.drop i)) : ¬ (48 ≤ (s[i + k].toNat : Int) ∧ (s[i + k].toNat : Int) ≤ 57) := by
  intro hd
  have h2 := nd_stop (s.data.toList.drop i) s[i + k] (by rw [← hk]; exact drop_at s i k h)
  rw [(isD_iff _).2 hd] at h2
  cases h2

set_option maxHeartbeats 4000000 in
theorem digits_any (s : ByteArray) (i : Nat) (hi : i ≤ s.size) (w : World) (hs : s.size ≤ maxLen) :
    Calls Try.prog 28 #[.string s, .int .i64 i] w fun e w' => e = .returned (.tuple #[.int .i64 (val ((s.data.toList.drop i).take (min (nd (s.data.toList.drop i)) 4))), .int .i64 (min (nd (s.data.toList.drop i)) 4 : Nat), .int .i64 (i + min (nd (s.data.toList.drop i)) 4 : Nat)]) ∧ w' = w := by
  unfold maxLen at hs
  have hn := nd_le (s.data.toList.drop i)
  have hlen : s.data.toList.length = s.size := rfl
  simp only [List.length_drop] at hn
  go_enter Try.func28, Try.ntmps28
  go_wp2_with fail
  go_loop [1, 7, 8] (fun p v n => ∃ k : Nat, k ≤ nd (s.data.toList.drop i) ∧ k ≤ 4 ∧ p = .int .i64 ((i + k : Nat) : Int) ∧ v = .int .i64 (val ((s.data.toList.drop i).take k)) ∧ n = .int .i64 k) (fun _ _ n => 4 - (intOf n).toNat)
  case atStart => exact ⟨0, Nat.zero_le _, Nat.zero_le _, rfl, rfl, rfl⟩
  case round =>
    obtain ⟨k, hk, hkm, rfl, rfl, rfl⟩ := hrel
    by_cases hlt : k < nd (s.data.toList.drop i) ∧ k < 4
    · have hks : i + k < s.size := by omega
      obtain ⟨c, hc, hd⟩ := nd_get (s.data.toList.drop i) k hlt.1
      have hc' : c = s[i + k] := by rw [drop_at s i k hks] at hc; simpa using hc.symm
      subst hc'
      have hd2 := (isD_iff _).1 hd
      have hb := val_take3 (s.data.toList.drop i) k (by omega) (by omega)
      have HV : Hid (val ((s.data.toList.drop i).take (k + 1)) = val ((s.data.toList.drop i).take k) * 10 + ((s[i + k].toNat : Int) - 48)) := by
        show _ = _; rw [take_snoc _ k _ hc, val_snoc]
      have g1 := hd2.1
      have g2 := hd2.2
      have g3 := hlt.2
      clear hc hd hd2
      go_wp2_with fail
      exact ⟨⟨k + 1, by omega, by omega, by go_num, by rw [HV.out], by go_num⟩, by simp [intOf]; omega⟩
    · have HK : Hid (k = min (nd (s.data.toList.drop i)) 4) := by show _ = _; omega
      have hb := val_take (s.data.toList.drop i) k (by omega) (by omega)
      have hst := stop_drop s i k
      have hke : k = nd (s.data.toList.drop i) ∨ k = 4 := by omega
      have hr : (¬ ((i + k : Nat) : Int) < (s.size : Int)) ∨ (∃ h : i + k < s.size, (s[i + k].toNat : Int) < 48) ∨ (∃ h : i + k < s.size, ¬ (s[i + k].toNat : Int) < 48 ∧ 57 < (s[i + k].toNat : Int)) ∨ (∃ h : i + k < s.size, (48 ≤ (s[i + k].toNat : Int)) ∧ ((s[i + k].toNat : Int) ≤ 57) ∧ ¬ (k : Int) < 4) := by
        by_cases e1 : i + k < s.size
        · right
          by_cases e3 : (s[i + k].toNat : Int) < 48
          · left; exact ⟨e1, e3⟩
          · by_cases e4 : 57 < (s[i + k].toNat : Int)
            · right; left; exact ⟨e1, e3, e4⟩
            · right; right
              refine ⟨e1, by omega, by omega, ?_⟩
              intro h4
              exact hst e1 (by omega) ⟨by omega, by omega⟩
        · left; omega
      clear hst hke hlt hlen hn
      have HG : Hid (Value.tuple #[.int .i64 (val ((s.data.toList.drop i).take (min (nd (s.data.toList.drop i)) 4))), .int .i64 (min (nd (s.data.toList.drop i)) 4 : Nat), .int .i64 (i + min (nd (s.data.toList.drop i)) 4 : Nat)] = Value.tuple #[.int .i64 (val ((s.data.toList.drop i).take k)), .int .i64 k, .int .i64 ((i + k : Nat) : Int)]) := by
        show _ = _; rw [← HK.out]
      rcases hr with r1 | ⟨r1, r2⟩ | ⟨r1, r2, r3⟩ | ⟨r1, r2, r3, r4⟩
      all_goals
        go_wp2_with fail
        go_ret3
        exact ⟨fin_eq HG.out, rfl⟩
end Go.Proofs.Ythibebjighjlaaa.Rd
