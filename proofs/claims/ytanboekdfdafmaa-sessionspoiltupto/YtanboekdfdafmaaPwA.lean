/- Reading a message's head: wire.Number, tellsSize, sizeOf, kindOf. -/
import Derived.Test.YtanboekdfdafmaaPvB
namespace Go.Proofs.Ytanboekdfdafmaa.Pv
open Go.ChangeShapes Go.WideShapes Go.ChangeAt Go.RowKit Go.Joins Go.Proofs.Ytanboekdfdafmaa.PM Go.Proofs.Ytanboekdfdafmaa.Ask Go.Proofs.Ytanboekdfdafmaa.Ge
set_option linter.unusedVariables false

/-- the number that bytes are, the highest first -/
def num (bs : List Nat) : Nat := bs.foldl (fun n c => n * 256 + c) 0
theorem num_snoc (bs : List Nat) (c : Nat) : num (bs ++ [c]) = num bs * 256 + c := by unfold num; rw [List.foldl_append]; rfl
theorem num_take (bs : List Nat) (k : Nat) (h : k < bs.length) : num (bs.take (k + 1)) = num (bs.take k) * 256 + bs[k] := by
  rw [List.take_succ_eq_append_getElem h, num_snoc]
theorem num_lt {bs : List Nat} (h : ∀ d ∈ bs, d < 256) : ∀ k, k ≤ bs.length → num (bs.take k) < 256 ^ k
  | 0, _ => by simp [num]
  | k + 1, hk => by
    rw [num_take bs k (by omega), Nat.pow_succ]
    have h1 := num_lt h k (by omega)
    have h2 := h _ (List.getElem_mem (show k < bs.length by omega))
    omega
theorem bits_or8 (a c : Nat) (ha : a < 36028797018963968) (hc : c < 256) : bits .or .i64 ((a : Int) * 256) (c : Int) = ((a * 256 + c : Nat) : Int) := by
  have ha' : (a * 256) % 2 ^ IntKind.i64.bits = a * 256 := Nat.mod_eq_of_lt (by show a * 256 < 18446744073709551616; omega)
  have hc' : c % 2 ^ IntKind.i64.bits = c := Nat.mod_eq_of_lt (by show c < 18446744073709551616; omega)
  have e : (a : Int) * 256 = ((a * 256 : Nat) : Int) := by omega
  have h : a * 256 ||| c = a * 256 + c := by
    have := Nat.two_pow_add_eq_or_of_lt (i := 8) hc a
    rw [show a * 256 = 2 ^ 8 * a by omega]
    exact this.symm
  rw [e]
  simp only [bits, BitVec.ofInt_natCast, BitVec.toNat_or, BitVec.toNat_ofNat, ha', hc', h]
  rw [IntWalk.i64_in _ (by omega)]
set_option maxRecDepth 100000 in
set_option maxHeartbeats 4000000 in
theorem wnumber_any (va : Option Addr) (cap : Nat) (bs : List Nat) (size : Nat) (hl : bs.length = size) (hs8 : size ≤ 7) (w : World) (h : Lst E8 w va bs) (hu8 : ∀ d ∈ bs, d < 256) :
    Calls Try.prog 70 #[.slice va size cap] w fun e w' => e = .returned (.int .i64 (num bs : Nat)) ∧ w' = w := by
  have HX : Hid (Lst E8 w va bs) := h
  have HU8 : Hid (∀ d ∈ bs, d < 256) := hu8
  have HLX : Hid (bs.length = size) := hl
  clear h hl hu8
  go_enter Try.func70, Try.ntmps70
  go_wp2_with fail
  go_loopw [3, 8] (fun nv iv wr => ∃ (k : Nat), k ≤ size ∧ iv = .int .i64 k ∧ nv = .int .i64 (num (bs.take k) : Nat) ∧ wr = w) (fun _ i _ => size - (intOf i).toNat)
  case atStart => exact ⟨0, by omega, rfl, rfl, rfl⟩
  case round =>
    obtain ⟨k, hk, rfl, rfl, hwr⟩ := hrel
    subst hwr
    by_cases hlt : k < size
    · have hkd : k < bs.length := by rw [HLX.out]; omega
      obtain ⟨b, o, rfl, hbl, c0⟩ := lst8 HX.out k hkd
      have hu := HU8.out _ (List.getElem_mem hkd)
      have hT : num (bs.take (k + 1)) = num (bs.take k) * 256 + bs[k] := num_take bs k hkd
      have hlt2 : num (bs.take k) < 281474976710656 := Nat.lt_of_lt_of_le (num_lt HU8.out k (by omega)) (Nat.pow_le_pow_right (n := 256) (j := 6) (by decide) (by omega))
      obtain ⟨c, hc⟩ : ∃ c, bs[k] = c := ⟨_, rfl⟩
      obtain ⟨t, ht⟩ : ∃ t, num (bs.take k) = t := ⟨_, rfl⟩
      rw [hc] at c0 hu hT
      rw [ht] at hT hlt2 ⊢
      have HT : Hid (num (bs.take (k + 1)) = t * 256 + c) := hT
      have hkk : (k : Int) < size := by omega
      have kk0 : (0 : Int) ≤ k := by omega
      have w8 : IntKind.i64.wrap ((t : Int) * 256) = (t : Int) * 256 := by rw [IntWalk.i64_in _ (by omega)]
      have HOR : Hid (bits .or .i64 ((t : Int) * 256) (c : Int) = ((t * 256 + c : Nat) : Int)) := bits_or8 t c (by omega) hu
      clear hc ht hT
      go_wp2_with fail
      exact ⟨⟨k + 1, by omega, by simp, by rw [HT.out, ← HOR.out], by first | trivial | rfl⟩, by simp [intOf]; omega⟩
    · obtain rfl : size = k := by omega
      have HN : Hid (num (bs.take size) = num bs) := by show _ = _; rw [← HLX.out, List.take_length]
      rw [HN.out]
      go_wp2_with fail
      go_ret
      exact ⟨rfl, rfl⟩
theorem tells_any (va : Option Addr) (cap : Nat) (n : Nat) (w : World) :
    Calls Try.prog 56 #[.slice va n cap] w fun e w' => e = .returned (.bool (decide (6 ≤ n))) ∧ w' = w := by
  go_enter Try.func56, Try.ntmps56
  go_wp2_with fail
  go_ret
  refine ⟨ret_bool ?_, rfl⟩
  rw [Bool.eq_iff_iff, decide_eq_true_iff, decide_eq_true_iff]
  omega
theorem kindOf_any (va : Option Addr) (cap : Nat) (bs : List Nat) (n : Nat) (hn : bs.length = n) (h7 : 7 ≤ n) (h63 : n ≤ 9223372036854775807) (k : Nat) (hk : bs[6]? = some k) (hk8 : k < 256) (w : World) (h : Lst E8 w va bs) :
    Calls Try.prog 72 #[.slice va n cap] w fun e w' => e = .returned (.int .i64 (k : Int)) ∧ w' = w := by
  obtain ⟨b, o, rfl, hbl, c0⟩ := lst8 h 6 (by omega)
  obtain ⟨h6, e6⟩ := List.getElem?_eq_some_iff.1 hk
  rw [e6] at c0
  have hi : (6 : Int) < n := by omega
  clear h hk e6 h6 hn
  go_enter Try.func72, Try.ntmps72
  go_wp2_with fail
  go_ret
  exact ⟨rfl, rfl⟩
set_option maxHeartbeats 1000000 in
theorem sizeOf_any (va : Option Addr) (cap : Nat) (bs : List Nat) (n : Nat) (hn : bs.length = n) (h6 : 6 ≤ n) (hc : n ≤ cap) (w : World) (h : Lst E8 w va bs) (hu : ∀ d ∈ bs, d < 256) :
    Calls Try.prog 57 #[.slice va n cap] w fun e w' => e = .returned (.int .i64 (num ((bs.drop 4).take 2) : Nat)) ∧ w' = w := by
  obtain ⟨b, o, rfl, hbl, c0⟩ := lst8 h 0 (by omega)
  have HL : Hid (Lst E8 w (some ⟨b, o + 4, none⟩) ((bs.drop 4).take 2)) := by
    have h1 := (h.drop 4).take 2
    exact h1
  have HN : Hid (((bs.drop 4).take 2).length = 2) := by show _ = _; rw [List.length_take, List.length_drop]; omega
  have HU : Hid (∀ d ∈ (bs.drop 4).take 2, d < 256) := fun d hd => hu d (List.mem_of_mem_drop (List.mem_of_mem_take hd))
  have h6c : 6 ≤ cap := by omega
  have h6d : (6 : Int) ≤ cap := by omega
  clear h hu c0 hn hc h6
  go_enter Try.func57, Try.ntmps57
  go_wp2_with fail
  refine (wnumber_any (some ⟨b, o + 4, none⟩) (cap - 4) ((bs.drop 4).take 2) 2 HN.out (by decide) w HL.out HU.out).mono ?_
  rintro e w5 ⟨rfl, hw5⟩
  rw [hw5]
  clear hw5 w5
  go_wp2_with fail
  go_ret
  exact ⟨rfl, rfl⟩
end Go.Proofs.Ytanboekdfdafmaa.Pv
