/- The stable sort's rotate. -/
import Derived.Test.YtkahjibdmhaglaaSsB
namespace Go.Proofs.Ytkahjibdmhaglaa.Ss
open Go.Sort Go.Shelf Go.RowKit Go.Lib Go.Proofs
set_option linter.unusedVariables false
variable {α : Type} [Inhabited α]

set_option maxHeartbeats 8000000 in
set_option maxRecDepth 1000000 in
theorem rot_any (enc : α → Value) (fv : Value) (blk off cap sz a m b : Nat) (d0 d : Array α) (w0 w : World)
    (R : Row1 enc w0 blk off d0) (hs : d0.size = sz) (hz : d.size = sz) (S : SW enc w0 blk off d w) (ham : a < m) (hmb : m < b) (hb : b ≤ sz) (hsz : sz < 4611686018427387904) :
    Calls Try.prog 78 #[.slice (some ⟨blk, off, none⟩) sz cap, .int .i64 a, .int .i64 m, .int .i64 b, fv] w fun e w' => e = .returned (.tuple #[]) ∧ ∃ d', IsRot a m b a b d d' ∧ SW enc w0 blk off d' w' := by
  have S0 : Aside (SW enc w0 blk off d w) := S
  have r1 : IntKind.i64.wrap ((m : Int) - (a : Int)) = (m : Int) - (a : Int) := by rw [IntKind.wrap_i64]; omega
  have r2 : IntKind.i64.wrap ((b : Int) - (m : Int)) = (b : Int) - (m : Int) := by rw [IntKind.wrap_i64]; omega
  have hz0 : Aside (d.size = sz) := hz
  clear S hz
  go_enter Try.func78, Try.ntmps78
  go_wp2
  go_loopg [10, 11] (m - a + (b - m)) (fun kx s8 s9 wr => ∃ (i j : Nat) (dk : Array α), s8 = .int .i64 i ∧ s9 = .int .i64 j ∧ 0 < i ∧ 0 < j ∧ i ≤ m - a ∧ j ≤ b - m ∧ i + j ≤ kx ∧ Aside (dk.size = sz) ∧ Aside (SW enc w0 blk off dk wr) ∧ Aside (∀ d', IsRot (m - i) m (m + j) a b dk d' → IsRot a m b a b d d'))
  case atStart => exact ⟨m - a, b - m, d, by congr 1; omega, by congr 1; omega, by omega, by omega, by omega, by omega, by omega, hz0, S0, fun d' h => by
    have e1 : m - (m - a) = a := by omega
    have e2 : m + (b - m) = b := by omega
    rw [e1, e2] at h
    exact h⟩
  case round =>
    clear S0 r1 r2 hz0
    obtain ⟨i, j, dk, rfl, rfl, hi0, hj0, hi, hj, hkx, HZ, S1, H1⟩ := hrel
    have r3 : IntKind.i64.wrap ((m : Int) - (i : Int)) = (m : Int) - (i : Int) := by rw [IntKind.wrap_i64]; omega
    have e3 : ((m - i : Nat) : Int) = (m : Int) - (i : Int) := by omega
    by_cases hne : (i : Int) = (j : Int)
    · obtain rfl : i = j := by omega
      clear hne
      have HC := swr_any enc fv blk off cap sz (m - i) m i d0 dk w0 wr R hs HZ.out S1.out (by omega) (by omega) hsz
      rw [e3] at HC
      go_wp2_with fail
      refine HC.mono ?_
      rintro e w' ⟨rfl, d1, h1, s1⟩
      have hA : Aside (SW enc w0 blk off d1 w') := s1
      have h1A : Aside (IsSw _ _ _ _ _ dk d1) := h1
      clear s1 h1 HC
      go_wp2_with fail
      go_end0
      exact ⟨rfl, d1, H1.out d1 (IsRot.eq (by omega) (by omega) (by omega) (by rw [HZ.out]; omega) h1A.out), hA.out⟩
    · by_cases hgt : (j : Int) < (i : Int)
      · have HC := swr_any enc fv blk off cap sz (m - i) m j d0 dk w0 wr R hs HZ.out S1.out (by omega) (by omega) hsz
        rw [e3] at HC
        have r4 : IntKind.i64.wrap ((i : Int) - (j : Int)) = (i : Int) - (j : Int) := by rw [IntKind.wrap_i64]; omega
        have hbb : ((i : Int) == (j : Int)) = false := by simpa using hne
        have HZ2 : Aside (dk.size = sz) := HZ
        clear HZ
        go_wp2_with fail
        refine HC.mono ?_
        rintro e w' ⟨rfl, d1, h1, s1⟩
        have hA : Aside (SW enc w0 blk off d1 w') := s1
        have h1A : Aside (IsSw _ _ _ _ _ dk d1) := h1
        clear s1 h1 HC
        go_wp2_with fail
        go_roundg (i - j + j)
        case measure => omega
        case rel => exact ⟨i - j, j, d1, by congr 1; omega, rfl, by omega, by omega, by omega, by omega, by omega, (h1A.out.size.trans HZ2.out : d1.size = sz), hA, fun d' h => H1.out d' (IsRot.gt (by omega) (by omega) (by have := HZ2.out; omega) (by omega) (by omega) (by have := HZ2.out; omega) h1A.out h)⟩
      · have e5 : ((m + j - i : Nat) : Int) = (m : Int) + (j : Int) - (i : Int) := by omega
        have HC := swr_any enc fv blk off cap sz (m - i) (m + j - i) i d0 dk w0 wr R hs HZ.out S1.out (by omega) (by omega) hsz
        rw [e3, e5] at HC
        have r4 : IntKind.i64.wrap ((j : Int) - (i : Int)) = (j : Int) - (i : Int) := by rw [IntKind.wrap_i64]; omega
        have r5 : IntKind.i64.wrap ((m : Int) + (j : Int)) = (m : Int) + (j : Int) := by rw [IntKind.wrap_i64]; omega
        have r6 : IntKind.i64.wrap ((m : Int) + (j : Int) - (i : Int)) = (m : Int) + (j : Int) - (i : Int) := by rw [IntKind.wrap_i64]; omega
        have hbb : ((i : Int) == (j : Int)) = false := by simpa using hne
        have HZ2 : Aside (dk.size = sz) := HZ
        clear HZ
        go_wp2_with fail
        refine HC.mono ?_
        rintro e w' ⟨rfl, d1, h1, s1⟩
        have hA : Aside (SW enc w0 blk off d1 w') := s1
        have h1A : Aside (IsSw _ _ _ _ _ dk d1) := h1
        clear s1 h1 HC
        go_wp2_with fail
        go_roundg (i + (j - i))
        case measure => omega
        case rel =>
          have e6 : m - i + i = m := by omega
          have h1' : IsSw (m - i) (m + j - i) i (m - i) (m + j) dk d1 := by
            have e7 : m + j - i + i = m + j := by omega
            have h1 := h1A.out
            rw [e7] at h1
            exact h1
          exact ⟨i, j - i, d1, rfl, by congr 1; omega, by omega, by omega, by omega, by omega, by omega, (h1A.out.size.trans HZ2.out : d1.size = sz), hA, fun d' h => H1.out d' (IsRot.lt (by omega) (by omega) (by have := HZ2.out; omega) (by omega) (by omega) (by have := HZ2.out; omega) h1' h)⟩
end Go.Proofs.Ytkahjibdmhaglaa.Ss
