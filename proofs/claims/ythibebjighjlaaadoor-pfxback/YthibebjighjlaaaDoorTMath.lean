/- Reading numbers off lists of bytes; plain lists and arithmetic alone. -/
import Derived.WalkKit
namespace Go.Proofs.YthibebjighjlaaaDoor.TM

def isD (c : UInt8) : Bool := decide (48 ≤ (c.toNat : Int)) && decide ((c.toNat : Int) ≤ 57)
/-- how many digits a text begins with -/
def nd (l : List UInt8) : Nat := (l.takeWhile isD).length
/-- the number that digits write -/
def val (l : List UInt8) : Int := l.foldl (fun v c => v * 10 + ((c.toNat : Int) - 48)) 0
/-- a string of these bytes -/
def bs (l : List UInt8) : ByteArray := ⟨l.toArray⟩

theorem bs_data (s : ByteArray) : bs s.data.toList = s := by cases s; simp [bs]
theorem bs_size (l : List UInt8) : (bs l).size = l.length := by simp [bs, ByteArray.size]
theorem bs_list (l : List UInt8) : (bs l).data.toList = l := by simp [bs]
theorem bs_inj {a b : ByteArray} (h : a.data.toList = b.data.toList) : a = b := by
  rw [← bs_data a, ← bs_data b, h]
theorem nd_le (l : List UInt8) : nd l ≤ l.length := by
  unfold nd; exact (List.takeWhile_sublist _).length_le
theorem nd_cons (c : UInt8) (l : List UInt8) : nd (c :: l) = if isD c then nd l + 1 else 0 := by
  unfold nd; rw [List.takeWhile_cons]; split <;> simp
theorem nd_get (l : List UInt8) (k : Nat) (h : k < nd l) : ∃ c, l[k]? = some c ∧ isD c = true := by
  induction l generalizing k with
  | nil => simp [nd] at h
  | cons c l ih =>
    rw [nd_cons] at h
    split at h
    · rename_i hc
      cases k with
      | zero => exact ⟨c, by simp, hc⟩
      | succ k => obtain ⟨d, hd, hd2⟩ := ih k (by omega); exact ⟨d, by simpa using hd, hd2⟩
    · omega
theorem nd_stop (l : List UInt8) (c : UInt8) (h : l[nd l]? = some c) : isD c = false := by
  induction l with
  | nil => simp at h
  | cons d l ih =>
    rw [nd_cons] at h
    split at h
    · exact ih (by simpa using h)
    · rename_i hd; simp at h; subst h; simpa using hd
theorem val_snoc (l : List UInt8) (c : UInt8) : val (l ++ [c]) = val l * 10 + ((c.toNat : Int) - 48) := by simp [val]
theorem val_nil : val [] = 0 := rfl
theorem take_snoc (l : List UInt8) (k : Nat) (c : UInt8) (h : l[k]? = some c) : l.take (k + 1) = l.take k ++ [c] := by
  rw [List.take_add_one, h]; rfl
theorem isD_iff (c : UInt8) : isD c = true ↔ 48 ≤ (c.toNat : Int) ∧ (c.toNat : Int) ≤ 57 := by simp [isD]
theorem val_bd (l : List UInt8) (k : Nat) (h : k ≤ nd l) : 0 ≤ val (l.take k) ∧ val (l.take k) < 10 ^ k := by
  induction k with
  | zero => simp [val]
  | succ k ih =>
    obtain ⟨c, hc, hd⟩ := nd_get l k (by omega)
    rw [take_snoc l k c hc, val_snoc, Int.pow_succ]
    have := (isD_iff c).1 hd
    have := ih (by omega)
    omega
theorem val_take (l : List UInt8) (k : Nat) (h : k ≤ nd l) (h4 : k ≤ 4) : 0 ≤ val (l.take k) ∧ val (l.take k) ≤ 9999 := by
  have h1 := val_bd l k h
  have : k = 0 ∨ k = 1 ∨ k = 2 ∨ k = 3 ∨ k = 4 := by omega
  rcases this with rfl | rfl | rfl | rfl | rfl <;> omega
theorem val_take3 (l : List UInt8) (k : Nat) (h : k ≤ nd l) (h4 : k ≤ 3) : 0 ≤ val (l.take k) ∧ val (l.take k) ≤ 999 := by
  have h1 := val_bd l k h
  have : k = 0 ∨ k = 1 ∨ k = 2 ∨ k = 3 := by omega
  rcases this with rfl | rfl | rfl | rfl <;> omega
theorem val_take2 (l : List UInt8) (k : Nat) (h : k ≤ nd l) (h4 : k ≤ 2) : 0 ≤ val (l.take k) ∧ val (l.take k) ≤ 99 := by
  have h1 := val_bd l k h
  have : k = 0 ∨ k = 1 ∨ k = 2 := by omega
  rcases this with rfl | rfl | rfl <;> omega

/-- do c digits write a number without a leading 0? -/
def okN (l : List UInt8) (c : Nat) : Bool := decide (1 ≤ c) && (decide (c ≤ 1) || !(l[0]? == some 48))
theorem okN_zero (l : List UInt8) : okN l 0 = false := by simp [okN]
theorem okN_one (l : List UInt8) : okN l 1 = true := by simp [okN]
theorem okN_lead (l : List UInt8) (c : Nat) (h : l[0]? = some 48) (hc : 1 < c) : okN l c = false := by
  have : ¬ c ≤ 1 := by omega
  simp [okN, h, this]
theorem okN_fine (l : List UInt8) (c : Nat) (d : UInt8) (h : l[0]? = some d) (hd : (d.toNat : Int) ≠ 48) (hc : 1 < c) : okN l c = true := by
  have h2 : ¬ d = 48 := by intro e; subst e; exact hd (by decide)
  have h1 : 1 ≤ c := by omega
  simp [okN, h, h2, h1]
end Go.Proofs.YthibebjighjlaaaDoor.TM
