/- check: the remainder over bytes, as the program and as the document reckons it. -/
import Derived.Test.YtagfdmkgnedlbaeLsD
import Derived.Laws.BitsLemmas
namespace Go.Proofs.Ytagfdmkgnedlbae.Ls
open Go.ChangeShapes Go.WideShapes Go.ChangeAt Go.RowKit Go.Proofs.Ytagfdmkgnedlbae.PM Go.Proofs.Ytagfdmkgnedlbae.Ask
set_option linter.unusedVariables false

/-- bytes lie at a slice -/
structure By (w : World) (a : Option Addr) (bs : List Nat) : Prop where
  small : bs.length ≤ 9223372036854775807
  cells : ∀ i (h : i < bs.length), ∃ b o, a = some ⟨b, o, none⟩ ∧ b < w.heap.size ∧ w.cell? ⟨b, o + i, none⟩ = some (.int .u8 (bs[i] : Int))
  u8 : ∀ d ∈ bs, d < 256
theorem By.bel {w w' : World} {a : Option Addr} {bs : List Nat} (h : By w a bs) (hb : Below w.heap.size w w') : By w' a bs :=
  ⟨h.small, fun i hi => by
    obtain ⟨b, o, e, hlt, h0⟩ := h.cells i hi
    exact ⟨b, o, e, Nat.lt_of_lt_of_le hlt hb.size, cell_bel h0 hb⟩, h.u8⟩
/-- one bit more -/
def cstep (t bit : Nat) : Nat := (t * 2 % 4294967296) ^^^ ((t / 2147483648 ^^^ bit) * 79764919 % 4294967296)
def cbit (c i : Nat) : Nat := c / 2 ^ (7 - i) % 2
/-- the bits of a byte from i on -/
def cbits (t c i : Nat) : Nat → Nat
  | 0 => t
  | n + 1 => cbits (cstep t (cbit c i)) c (i + 1) n
def cbyte (t c : Nat) : Nat := cbits t c 0 8
def crc (t : Nat) (bs : List Nat) : Nat := bs.foldl cbyte t
theorem xor_lt32 {a b : Nat} (ha : a < 4294967296) (hb : b < 4294967296) : a ^^^ b < 4294967296 := Nat.xor_lt_two_pow (n := 32) ha hb
theorem cstep_lt (t bit : Nat) : cstep t bit < 4294967296 := xor_lt32 (Nat.mod_lt _ (by decide)) (Nat.mod_lt _ (by decide))
theorem cbits_lt {c : Nat} : ∀ (n t i : Nat), t < 4294967296 → cbits t c i n < 4294967296
  | 0, t, i, h => h
  | n + 1, t, i, h => cbits_lt n _ _ (cstep_lt _ _)
theorem bits_xor32 (a b : Nat) (ha : a < 4294967296) (hb : b < 4294967296) : bits .xor .u32 (a : Int) (b : Int) = ((a ^^^ b : Nat) : Int) := by
  have ha' : a % 2 ^ IntKind.u32.bits = a := Nat.mod_eq_of_lt ha
  have hb' : b % 2 ^ IntKind.u32.bits = b := Nat.mod_eq_of_lt hb
  have h := xor_lt32 ha hb
  simp only [bits, BitVec.ofInt_natCast, BitVec.toNat_xor, BitVec.toNat_ofNat, ha', hb']
  rw [IntKind.wrap_u32]
  omega
theorem bits_one (x : Nat) (h : x < 4294967296) : bits .and .u32 (x : Int) 1 = ((x % 2 : Nat) : Int) := by
  have := bits_mask .u32 32 (by decide) (fun n h0 h1 => by rw [IntKind.wrap_u32]; omega) 1 (by decide) (x : Int) (by omega) (by omega)
  simpa using this
theorem cstep_int (t c : Nat) (i : Nat) (ht : t < 4294967296) (hc : c < 256) (hi : i < 8) :
    bits .xor .u32 ((t : Int) * 2 % 4294967296) (bits .xor .u32 ((t : Int) / 2147483648) (bits .and .u32 ((c : Int) / 2 ^ (7 - i)) 1) * 79764919 % 4294967296) = ((cstep t (cbit c i) : Nat) : Int) := by
  have e1 : (c : Int) / 2 ^ (7 - i) = ((c / 2 ^ (7 - i) : Nat) : Int) := by
    rw [Int.natCast_ediv]; simp
  have hq : c / 2 ^ (7 - i) < 4294967296 := Nat.lt_of_le_of_lt (Nat.div_le_self _ _) (by omega)
  rw [e1, bits_one _ hq]
  have e2 : (t : Int) / 2147483648 = ((t / 2147483648 : Nat) : Int) := by omega
  rw [e2, bits_xor32 _ _ (by omega) (by omega)]
  have e3 : (((t / 2147483648 ^^^ c / 2 ^ (7 - i) % 2 : Nat) : Int)) * 79764919 % 4294967296 = (((t / 2147483648 ^^^ c / 2 ^ (7 - i) % 2) * 79764919 % 4294967296 : Nat) : Int) := by omega
  have e4 : (t : Int) * 2 % 4294967296 = ((t * 2 % 4294967296 : Nat) : Int) := by omega
  rw [e3, e4, bits_xor32 _ _ (Nat.mod_lt _ (by decide)) (Nat.mod_lt _ (by decide))]
  rfl

set_option maxRecDepth 100000 in
set_option maxHeartbeats 2000000 in
theorem check_any (va : Option Addr) (cap : Nat) (bs : List Nat) (L : Nat) (hL : bs.length = L) (w : World) (hx : By w va bs) (r : Int) (hr : ((crc 4294967295 bs : Nat) : Int) = r) :
    Calls Try.prog 51 #[.slice va L cap] w fun e w' => e = .returned (.int .i64 r) ∧ w' = w := by
  have HX : Hid (By w va bs) := hx
  have HLX : Hid (bs.length = L) := hL
  have HR : Hid (((crc 4294967295 bs : Nat) : Int) = r) := hr
  have hl9 := hx.small
  rw [hL] at hl9
  clear hx hL hr
  go_enter Try.func51, Try.ntmps51
  go_wp2_with fail
  go_loopw [3, 10] (fun sv iv wr => ∃ (k s : Nat), k ≤ L ∧ iv = .int .i64 k ∧ sv = .int .u32 s ∧ s < 4294967296 ∧ ((crc s (bs.drop k) : Nat) : Int) = r ∧ wr = w) (fun _ i _ => L - (intOf i).toNat)
  case atStart => exact ⟨0, 4294967295, by omega, rfl, rfl, by decide, HR.out, rfl⟩
  case round =>
    obtain ⟨k, s, hk, rfl, rfl, s1, hg, hwr⟩ := hrel
    subst hwr
    have HG : Hid (((crc s (bs.drop k) : Nat) : Int) = r) := hg
    clear hg
    by_cases hlt : k < L
    · have hkd : k < bs.length := by rw [HLX.out]; exact hlt
      obtain ⟨b, o, rfl, hbl, c0⟩ := HX.out.cells k hkd
      have hu := HX.out.u8 _ (List.getElem_mem hkd)
      obtain ⟨c, hc⟩ : ∃ c, bs[k] = c := ⟨_, rfl⟩
      have HG2 : Hid (((crc (cbyte s c) (bs.drop (k + 1)) : Nat) : Int) = r) := by
        have h1 := HG.out
        rw [List.drop_eq_getElem_cons hkd, hc] at h1
        exact h1
      rw [hc] at c0 hu
      have hkk : (k : Int) < L := by omega
      have kk0 : (0 : Int) ≤ k := by omega
      clear hc HG
      go_wp2_with fail
      go_loopw [3, 14] (fun sv iv wr2 => ∃ (i t : Nat), i ≤ 8 ∧ iv = .int .i64 i ∧ sv = .int .u32 t ∧ t < 4294967296 ∧ cbits t c i (8 - i) = cbyte s c ∧ wr2 = wr) (fun _ i _ => 8 - (intOf i).toNat)
      case atStart => exact ⟨0, s, by omega, rfl, rfl, s1, rfl, rfl⟩
      case round =>
        obtain ⟨i, t, hi, rfl, rfl, t1, hcb, hwr2⟩ := hrel
        subst hwr2
        have HCB : Hid (cbits t c i (8 - i) = cbyte s c) := hcb
        clear hcb
        by_cases hlt8 : i < 8
        · have hi8 : (i : Int) < 8 := by omega
          have hi0 : (0 : Int) ≤ i := by omega
          have hw : IntKind.i64.wrap (7 - (i : Int)) = 7 - i := by rw [IntWalk.i64_in _ (by omega)]
          have HST : Hid (Value.int .u32 (bits .xor .u32 ((t : Int) * 2 % 4294967296) (bits .xor .u32 ((t : Int) / 2147483648) (bits .and .u32 ((c : Int) / 2 ^ (7 - i)) 1) * 79764919 % 4294967296)) = .int .u32 (cstep t (cbit c i) : Nat)) := by rw [cstep_int t c i t1 hu hlt8]; exact rfl
          have HNX : Hid (cbits (cstep t (cbit c i)) c (i + 1) (8 - (i + 1)) = cbyte s c) := by
            have h1 := HCB.out
            rw [show 8 - i = (8 - (i + 1)) + 1 by omega] at h1
            exact h1
          go_wp2_with fail
          exact ⟨⟨i + 1, cstep t (cbit c i), by omega, by simp, HST.out, cstep_lt _ _, HNX.out, by first | trivial | rfl⟩, by simp [intOf]; omega⟩
        · obtain rfl : i = 8 := by omega
          have HE : Hid (t = cbyte s c) := HCB.out
          have HG3 : Hid (((crc t (bs.drop (k + 1)) : Nat) : Int) = r) := by rw [HE.out]; exact HG2.out
          clear HCB HE HG2
          go_wp2_with fail
          exact ⟨⟨k + 1, t, by omega, by simp, rfl, t1, HG3.out, by first | trivial | rfl⟩, by simp [intOf]; omega⟩
    · obtain rfl : L = k := by omega
      have HE : Hid ((s : Int) = r) := by
        have h1 := HG.out
        rw [List.drop_of_length_le (by rw [HLX.out]; omega)] at h1
        exact h1
      clear HG
      go_wp2_with fail
      go_ret
      exact ⟨ret_i64 HE.out, rfl⟩
end Go.Proofs.Ytagfdmkgnedlbae.Ls
