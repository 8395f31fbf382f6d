/- What is printed is read as it was: plain lists of bytes. -/
import Derived.Test.YthibebjighjlaaaDoorRead8
import Derived.Test.YthibebjighjlaaaDoorPr3
namespace Go.Proofs.YthibebjighjlaaaDoor.Bk
open Go.Proofs.YthibebjighjlaaaDoor.TM Go.Proofs.YthibebjighjlaaaDoor.Rd Go.Proofs.YthibebjighjlaaaDoor.Pr Go.Proofs.YthibebjighjlaaaDoor.PM

theorem ch_num (k : Nat) (h : k ≤ 9) : ((UInt8.ofNat (48 + k)).toNat : Int) = 48 + (k : Int) := by simp; omega
theorem ch_dig (k : Nat) (h : k ≤ 9) : isD (UInt8.ofNat (48 + k)) = true := by rw [isD_iff, ch_num k h]; omega
theorem ch_zero (k : Nat) (h : k ≤ 9) (h1 : 1 ≤ k) : ¬ UInt8.ofNat (48 + k) = 48 := by
  intro e; have := ch_num k h; rw [e] at this; simp at this; omega
/-- no digit follows -/
def Stops (r : List UInt8) : Prop := r = [] ∨ ∃ c t, r = c :: t ∧ isD c = false
theorem nd_stops {r : List UInt8} (h : Stops r) : nd r = 0 := by
  rcases h with rfl | ⟨c, t, rfl, hc⟩
  · rfl
  · rw [nd_cons, hc]; rfl

/-- the digits of a number of at most three, ahead of what is no digit -/
theorem dec_read (u : Nat) (hu : u ≤ 255) (r : List UInt8) (hr : Stops r) :
    nd (Lib.decDigits u ++ r) = (Lib.decDigits u).length ∧ okN (Lib.decDigits u ++ r) (Lib.decDigits u).length = true ∧ val (Lib.decDigits u) = (u : Int) := by
  by_cases h1 : u < 10
  · rw [Lib.decDigits_one h1]
    refine ⟨?_, okN_one _, ?_⟩
    · simp only [List.cons_append, List.nil_append, nd_cons, ch_dig u (by omega), nd_stops hr]; rfl
    · simp only [val, List.foldl]; rw [ch_num u (by omega)]; omega
  · by_cases h2 : u < 100
    · rw [Lib.decDigits_two h1 h2]
      refine ⟨?_, ?_, ?_⟩
      · simp only [List.cons_append, List.nil_append, nd_cons, ch_dig (u / 10) (by omega), ch_dig (u % 10) (by omega), nd_stops hr]; rfl
      · refine okN_fine _ _ (UInt8.ofNat (48 + u / 10)) rfl ?_ (by simp)
        rw [ch_num _ (by omega)]; omega
      · simp only [val, List.foldl]; rw [ch_num _ (by omega), ch_num _ (by omega)]; omega
    · have e : Lib.decDigits u = [UInt8.ofNat (48 + u / 10 / 10), UInt8.ofNat (48 + u / 10 % 10), UInt8.ofNat (48 + u % 10)] := by
        rw [Lib.decDigits, dif_neg h1, Lib.decDigits_two (by omega) (by omega)]; rfl
      rw [e]
      refine ⟨?_, ?_, ?_⟩
      · simp only [List.cons_append, List.nil_append, nd_cons, ch_dig (u / 10 / 10) (by omega), ch_dig (u / 10 % 10) (by omega), ch_dig (u % 10) (by omega), nd_stops hr]; rfl
      · refine okN_fine _ _ (UInt8.ofNat (48 + u / 10 / 10)) rfl ?_ (by simp)
        rw [ch_num _ (by omega)]; omega
      · simp only [val, List.foldl]; rw [ch_num _ (by omega), ch_num _ (by omega), ch_num _ (by omega)]; omega

theorem numQ_dec (u : Nat) (hu : u ≤ 255) (r : List UInt8) (hr : Stops r) : numQ (Lib.decDigits u ++ r) = some ((u : Int), r) := by
  obtain ⟨h1, h2, h3⟩ := dec_read u hu r hr
  have h4 := dec_len u hu
  unfold numQ
  rw [h1, Nat.min_eq_left h4.2, if_pos h2, List.take_left, List.drop_left, h3]
theorem num2_dec (u : Nat) (hu : u ≤ 32) : num2 (Lib.decDigits u) = some ((u : Int), []) := by
  obtain ⟨h1, h2, h3⟩ := dec_read u (by omega) [] (.inl rfl)
  rw [List.append_nil] at h1 h2
  have h4 : (Lib.decDigits u).length ≤ 2 := by
    by_cases h : u < 10
    · rw [Lib.decDigits_one h]; simp
    · rw [Lib.decDigits_two h (by omega)]; simp
  unfold num2
  rw [h1, Nat.min_eq_left h4, if_pos h2, List.take_length, List.drop_length, h3]
theorem stops_dot (t : List UInt8) : Stops (46 :: t) := .inr ⟨46, t, rfl, by decide⟩
theorem stops_sl (t : List UInt8) : Stops (47 :: t) := .inr ⟨47, t, rfl, by decide⟩

/-- the four numbers of an address's text, and what stands behind it -/
theorem rq4_adr (a : Nat) (ha : a < 4294967296) (r : List UInt8) (hr : Stops r) :
    rq4 (adr a ++ r) = some (((a / 16777216 : Nat) : Int), ((a / 65536 % 256 : Nat) : Int), ((a / 256 % 256 : Nat) : Int), ((a % 256 : Nat) : Int), r) := by
  have e : adr a ++ r = Lib.decDigits (a / 16777216) ++ (46 :: (Lib.decDigits (a / 65536 % 256) ++ (46 :: (Lib.decDigits (a / 256 % 256) ++ (46 :: (Lib.decDigits (a % 256) ++ r)))))) := by simp [adr]
  rw [e]
  have n1 := numQ_dec (a / 16777216) (by omega) (46 :: (Lib.decDigits (a / 65536 % 256) ++ (46 :: (Lib.decDigits (a / 256 % 256) ++ (46 :: (Lib.decDigits (a % 256) ++ r)))))) (stops_dot _)
  have n2 := numQ_dec (a / 65536 % 256) (by omega) (46 :: (Lib.decDigits (a / 256 % 256) ++ (46 :: (Lib.decDigits (a % 256) ++ r)))) (stops_dot _)
  have n3 := numQ_dec (a / 256 % 256) (by omega) (46 :: (Lib.decDigits (a % 256) ++ r)) (stops_dot _)
  have n4 := numQ_dec (a % 256) (by omega) r hr
  have hd : ∀ t, dotQ (46 :: t) = some t := fun t => rfl
  unfold rq4 rq3 rq2 rq1
  rw [n1]
  simp only [Option.bind_some, hd, n2, n3, n4]
theorem fine_adr (a : Nat) (ha : a < 4294967296) : fineB ((a / 16777216 : Nat) : Int) ((a / 65536 % 256 : Nat) : Int) ((a / 256 % 256 : Nat) : Int) ((a % 256 : Nat) : Int) = true := by
  simp only [fineB, decide_eq_true_eq]; omega
theorem jt_adr (a : Nat) : jt ((a / 16777216 : Nat) : Int) ((a / 65536 % 256 : Nat) : Int) ((a / 256 % 256 : Nat) : Int) ((a % 256 : Nat) : Int) 4 = (a : Int) := by
  simp only [jt]; omega
theorem paC_adr (a : Nat) (ha : a < 4294967296) : paC (adr a) = ((a : Int), 0) := by
  have h := rq4_adr a ha [] (.inl rfl)
  rw [List.append_nil] at h
  unfold paC
  rw [h]
  simp only
  rw [if_pos trivial, if_pos (fine_adr a ha), jt_adr]
theorem prC_sp (a n : Nat) (ha : a < 4294967296) (hn : n ≤ 32) (hv : vld a n = true) : prC (adr a ++ 47 :: Lib.decDigits n) = ((a : Int), (n : Int), 0) := by
  have h := rq4_adr a ha (47 :: Lib.decDigits n) (stops_sl _)
  unfold prC
  rw [h]
  have hs : slQ (47 :: Lib.decDigits n) = some (Lib.decDigits n) := rfl
  simp only [hs, num2_dec n hn]
  rw [if_pos trivial, if_pos ⟨fine_adr a ha, by omega⟩, jt_adr, if_pos hv]
theorem prC_nil : prC [] = (0, 0, 1) := by decide
theorem sp_bs (a n : Nat) : sp a n = bs (adr a ++ 47 :: Lib.decDigits n) := by
  unfold sp sa sd bs; apply ByteArray.ext; simp
theorem adr_len (a : Nat) (ha : a < 4294967296) : (adr a).length ≤ 20 := pre_le a ha 4 (by omega)
end Go.Proofs.YthibebjighjlaaaDoor.Bk
