/- The document's reading of four numbers with dots: what pfxQuad answers, at every text. -/
import Derived.Test.YthibebjighjlaaaDoorRead5
namespace Go.Proofs.YthibebjighjlaaaDoor.Rd
open Go.ChangeShapes Go.WideShapes Go.ChangeAt Go.RowKit Go.Proofs.YthibebjighjlaaaDoor.TM
set_option linter.unusedVariables false

/-- a number behind the place i: the number, and the place behind it -/
def nmP (L : List UInt8) (i : Nat) : Option (Int × Nat) := (rnM (L.drop i) 3).bind fun y => some (y.1, i + y.2)
/-- a dot at the place i, then a number -/
def stP (L : List UInt8) (i : Nat) : Option (Int × Nat) := if L[i]? = some 46 then nmP L (i + 1) else none
def pq1 (L : List UInt8) : Option (Int × Nat) := nmP L 0
def pq2 (L : List UInt8) : Option (Int × Int × Nat) := (pq1 L).bind fun x => (stP L x.2).bind fun y => some (x.1, y.1, y.2)
def pq3 (L : List UInt8) : Option (Int × Int × Int × Nat) := (pq2 L).bind fun x => (stP L x.2.2).bind fun y => some (x.1, x.2.1, y.1, y.2)
def pq4 (L : List UInt8) : Option (Int × Int × Int × Int × Nat) := (pq3 L).bind fun x => (stP L x.2.2.2).bind fun y => some (x.1, x.2.1, x.2.2.1, y.1, y.2)
def fineB (a b c d : Int) : Bool := decide (a ≤ 255 ∧ b ≤ 255 ∧ c ≤ 255 ∧ d ≤ 255)
/-- what pfxQuad answers -/
def pqV (L : List UInt8) : Value := match pq4 L with
  | some (a, b, c, d, i) => .tuple #[.int .u32 (jt (a % 256) (b % 256) (c % 256) (d % 256) 4), .int .i64 i, .bool (fineB a b c d)]
  | none => .tuple #[.int .u32 0, .int .i64 (-1), .bool false]
theorem pqV_none {l : List UInt8} (h : pq4 l = none) : pqV l = .tuple #[.int .u32 0, .int .i64 (-1), .bool false] := by unfold pqV; rw [h]
theorem pqV_some {l : List UInt8} {a b c d : Int} {i : Nat} (h : pq4 l = some (a, b, c, d, i)) : pqV l = .tuple #[.int .u32 (jt (a % 256) (b % 256) (c % 256) (d % 256) 4), .int .i64 i, .bool (fineB a b c d)] := by unfold pqV; rw [h]

theorem nmP_some {L : List UInt8} {i j : Nat} {v : Int} (hi : i ≤ L.length) (h : nmP L i = some (v, j)) : (0 ≤ v ∧ v ≤ 999) ∧ j ≤ L.length ∧ i ≤ j ∧ ∃ c, rnM (L.drop i) 3 = some (v, c) ∧ j = i + c := by
  unfold nmP at h
  cases e : rnM (L.drop i) 3 with
  | none => rw [e] at h; cases h
  | some y =>
    obtain ⟨v', c⟩ := y
    rw [e] at h
    simp at h
    obtain ⟨rfl, rfl⟩ := h
    have := rnM_some (by omega) e
    simp only [List.length_drop] at this
    exact ⟨this.1, by omega, by omega, c, rfl, rfl⟩
theorem nmP_none {L : List UInt8} {i : Nat} (h : nmP L i = none) : rnM (L.drop i) 3 = none := by
  unfold nmP at h
  cases e : rnM (L.drop i) 3 with
  | none => rfl
  | some y => rw [e] at h; cases h

theorem i64_and255 (n : Int) (h0 : 0 ≤ n) (h1 : n ≤ 999) : bits .and .i64 n 255 = n % 256 := by
  obtain ⟨m, rfl⟩ := Int.eq_ofNat_of_zero_le h0
  have hm : m < 2 ^ 64 := by omega
  have e : (BitVec.ofInt 64 (m : Int) &&& BitVec.ofInt 64 255).toNat = m % 256 := by
    rw [BitVec.toNat_and]
    have e1 : (BitVec.ofInt 64 (m : Int)).toNat = m := by simp; omega
    have e2 : (BitVec.ofInt 64 255).toNat = 255 := by decide
    rw [e1, e2]
    exact Nat.and_two_pow_sub_one_eq_mod m 8
  show IntKind.i64.wrap ((BitVec.ofInt 64 (m : Int) &&& BitVec.ofInt 64 255).toNat : Int) = _
  rw [e]
  simp only [IntKind.wrap, IntKind.bits, IntKind.signed]
  simp
  omega
theorem jstep (x v : Int) (hx : 0 ≤ x) (hx2 : x ≤ 16777215) (hv : 0 ≤ v) (hv2 : v ≤ 999) : (x * 256 % 4294967296 + bits .and .i64 v 255 % 4294967296) % 4294967296 = x * 256 + v % 256 := by
  rw [i64_and255 v hv hv2]; omega
theorem dot_test (s : ByteArray) (j : Nat) (hj : j < s.size) : (s.data.toList[j]? = some 46 ↔ (s[j].toNat : Int) = 46) := by
  rw [byte_at s j hj]
  constructor
  · intro h; simp at h; rw [h]; decide
  · intro h; have : s[j] = 46 := by apply UInt8.toNat_inj.1; simp; omega
    rw [this]

end Go.Proofs.YthibebjighjlaaaDoor.Rd
