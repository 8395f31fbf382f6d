/- The document's reading of four numbers with dots: what pfxNumber and pfxQuad answer, at every text. -/
import Derived.Test.YthibebjighjlaaaRead4
namespace Go.Proofs.Ythibebjighjlaaa.Rd
open Go.ChangeShapes Go.WideShapes Go.ChangeAt Go.RowKit Go.Proofs.Ythibebjighjlaaa.TM
set_option linter.unusedVariables false

theorem digits_c (s : ByteArray) (i c : Nat) (hc : min (nd (s.data.toList.drop i)) 4 = c) (hi : i ≤ s.size) (w : World) (hs : s.size ≤ maxLen) :
    Calls Try.prog 28 #[.string s, .int .i64 i] w fun e w' => e = .returned (.tuple #[.int .i64 (val ((s.data.toList.drop i).take c)), .int .i64 c, .int .i64 ((i : Int) + (c : Int))]) ∧ w' = w := by
  have := digits_any s i hi w hs
  rw [hc] at this
  simpa using this

/-- the document's number of at most so many digits at the beginning of a text, and how many -/
def rnM (r : List UInt8) (most : Nat) : Option (Int × Nat) :=
  if okN r (min (nd r) 4) = true ∧ min (nd r) 4 ≤ most then some (val (r.take (min (nd r) 4)), min (nd r) 4) else none
/-- what pfxNumber answers -/
def rnV (r : List UInt8) (i most : Nat) : Value := match rnM r most with
  | some (v, c) => .tuple #[.int .i64 v, .int .i64 ((i : Int) + (c : Int))]
  | none => .tuple #[.int .i64 0, .int .i64 (-1)]

set_option maxHeartbeats 4000000 in
theorem number_any (s : ByteArray) (i most : Nat) (hi : i ≤ s.size) (hm : most ≤ 3) (w : World) (hs : s.size ≤ maxLen) :
    Calls Try.prog 24 #[.string s, .int .i64 i, .int .i64 most] w fun e w' => e = .returned (rnV (s.data.toList.drop i) i most) ∧ w' = w := by
  obtain ⟨c, hc⟩ : ∃ c, min (nd (s.data.toList.drop i)) 4 = c := ⟨_, rfl⟩
  have hc4 : c ≤ 4 := by omega
  have hn := nd_le (s.data.toList.drop i)
  have hlen : s.data.toList.length = s.size := rfl
  simp only [List.length_drop] at hn
  have hcn : c ≤ s.size - i := by omega
  have HC : Hid (min (nd (s.data.toList.drop i)) 4 = c) := hc
  have hno : okN (s.data.toList.drop i) c = false ∨ ¬ c ≤ most → rnV (s.data.toList.drop i) i most = .tuple #[.int .i64 0, .int .i64 (-1)] := by
    intro h; unfold rnV rnM; rw [hc, if_neg (by intro ⟨h1, h2⟩; rcases h with h | h <;> simp_all)]
  have hyes : okN (s.data.toList.drop i) c = true → c ≤ most → rnV (s.data.toList.drop i) i most = .tuple #[.int .i64 (val ((s.data.toList.drop i).take c)), .int .i64 ((i : Int) + (c : Int))] := by
    intro h1 h2; unfold rnV rnM; rw [hc, if_pos ⟨h1, h2⟩]
  have HS : Hid (s.size ≤ maxLen) := hs
  unfold maxLen at hs
  clear hc hn
  by_cases e0 : c = 0
  · have HG : Hid (_ = _) := hno (.inl (by rw [e0]; exact okN_zero _))
    have b0 : ((c : Int) == 0) = true := by simp [e0]
    clear hno hyes e0 hlen
    go_enter Try.func24, Try.ntmps24
    go_wp2_with (go_at_call 28; refine (digits_c s i c HC.out hi _ HS.out).mono ?_; rintro e w1 ⟨rfl, rfl⟩)
    go_ret2
    exact ⟨fin_eq HG.out, rfl⟩
  · have b0 : ((c : Int) == 0) = false := by simp; omega
    have h0 : i < s.size := by omega
    have hb0 : (s.data.toList.drop i)[0]? = some s[i] := by have := drop_at s i 0 (by omega); simpa using this
    by_cases e1 : c ≤ most
    · have b1 : ¬ (most : Int) < (c : Int) := by omega
      by_cases e2 : c = 1
      · have HG : Hid (_ = _) := hyes (by rw [e2]; exact okN_one _) e1
        have b2 : ¬ (1 : Int) < (c : Int) := by omega
        clear hno hyes e0 e2 hlen hb0
        go_enter Try.func24, Try.ntmps24
        go_wp2_with (go_at_call 28; refine (digits_c s i c HC.out hi _ HS.out).mono ?_; rintro e w1 ⟨rfl, rfl⟩)
        go_ret2
        exact ⟨fin_eq HG.out, rfl⟩
      · have b2 : (1 : Int) < (c : Int) := by omega
        by_cases e3 : (s[i].toNat : Int) = 48
        · have e4 : s[i] = 48 := by apply UInt8.toNat_inj.1; simp; omega
          have HG : Hid (_ = _) := hno (.inl (okN_lead _ _ (by rw [hb0, e4]) (by omega)))
          have b3 : ((s[i].toNat : Int) == 48) = true := by simp [e3]
          clear hno hyes e0 e2 hlen hb0 e3 e4
          go_enter Try.func24, Try.ntmps24
          go_wp2_with (go_at_call 28; refine (digits_c s i c HC.out hi _ HS.out).mono ?_; rintro e w1 ⟨rfl, rfl⟩)
          go_ret2
          exact ⟨fin_eq HG.out, rfl⟩
        · have HG : Hid (_ = _) := hyes (okN_fine _ _ _ hb0 e3 (by omega)) e1
          have b3 : ((s[i].toNat : Int) == 48) = false := by simpa using e3
          clear hno hyes e0 e2 hlen hb0 e3
          go_enter Try.func24, Try.ntmps24
          go_wp2_with (go_at_call 28; refine (digits_c s i c HC.out hi _ HS.out).mono ?_; rintro e w1 ⟨rfl, rfl⟩)
          go_ret2
          exact ⟨fin_eq HG.out, rfl⟩
    · have HG : Hid (_ = _) := hno (.inr e1)
      have b1 : (most : Int) < (c : Int) := by omega
      clear hno hyes e0 hlen hb0
      go_enter Try.func24, Try.ntmps24
      go_wp2_with (go_at_call 28; refine (digits_c s i c HC.out hi _ HS.out).mono ?_; rintro e w1 ⟨rfl, rfl⟩)
      go_ret2
      exact ⟨fin_eq HG.out, rfl⟩

theorem number_yes {s : ByteArray} {i most : Nat} {v : Int} {c : Nat} (h : rnM (s.data.toList.drop i) most = some (v, c)) (hi : i ≤ s.size) (hm : most ≤ 3) (hs : s.size ≤ maxLen) (w : World) :
    Calls Try.prog 24 #[.string s, .int .i64 i, .int .i64 most] w fun e w' => e = .returned (.tuple #[.int .i64 v, .int .i64 ((i : Int) + (c : Int))]) ∧ w' = w := by
  have := number_any s i most hi hm w hs
  unfold rnV at this
  rw [h] at this
  exact this
theorem number_no {s : ByteArray} {i most : Nat} (h : rnM (s.data.toList.drop i) most = none) (hi : i ≤ s.size) (hm : most ≤ 3) (hs : s.size ≤ maxLen) (w : World) :
    Calls Try.prog 24 #[.string s, .int .i64 i, .int .i64 most] w fun e w' => e = .returned (.tuple #[.int .i64 0, .int .i64 (-1)]) ∧ w' = w := by
  have := number_any s i most hi hm w hs
  unfold rnV at this
  rw [h] at this
  exact this
theorem rnM_some {r : List UInt8} {most : Nat} {v : Int} {c : Nat} (hm : most ≤ 3) (h : rnM r most = some (v, c)) : (0 ≤ v ∧ v ≤ 999) ∧ c ≤ r.length ∧ 1 ≤ c := by
  unfold rnM at h
  split at h
  · rename_i hk
    simp at h
    obtain ⟨rfl, rfl⟩ := h
    have := nd_le r
    refine ⟨val_take3 _ _ (by omega) (by omega), by omega, ?_⟩
    by_cases e : min (nd r) 4 = 0
    · rw [e, okN_zero] at hk; exact absurd hk.1 (by simp)
    · omega
  · cases h
end Go.Proofs.Ythibebjighjlaaa.Rd
