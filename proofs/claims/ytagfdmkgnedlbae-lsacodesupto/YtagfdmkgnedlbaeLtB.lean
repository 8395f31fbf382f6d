/- The document's LsaCheck and LsaNum: what they answer. -/
import Derived.Test.YtagfdmkgnedlbaeLsZd
import Derived.Test.YtagfdmkgnedlbaeLtA
namespace Go.Proofs.Ytagfdmkgnedlbae.Ls
open Go.ChangeShapes Go.WideShapes Go.ChangeAt Go.RowKit Go.Joins Go.Proofs.Ytagfdmkgnedlbae.PM Go.Proofs.Ytagfdmkgnedlbae.Ask
set_option linter.unusedVariables false

/-- the document's remainder -/
theorem cstep_ref (t b : Nat) (ht : t < 4294967296) (hb : b < 2) : cstep t b = if t / 2147483648 = b then t * 2 % 4294967296 else (t * 2 % 4294967296) ^^^ 79764919 := by
  have h2 : t / 2147483648 < 2 := by omega
  unfold cstep
  obtain ⟨x, hx⟩ : ∃ x, t / 2147483648 = x := ⟨_, rfl⟩
  rw [hx] at h2 ⊢
  by_cases e : x = b
  · rw [if_pos e, e, Nat.xor_self]
    simp
  · rw [if_neg e]
    have : x ^^^ b = 1 := by
      rcases (show x = 0 ∧ b = 1 ∨ x = 1 ∧ b = 0 by omega) with ⟨rfl, rfl⟩ | ⟨rfl, rfl⟩ <;> rfl
    rw [this]
theorem mod32 (q : Nat) (h : q < 4294967296) : ((q : Nat) : Int) % 4294967296 = (q : Int) := by omega
theorem bit_int (c i : Nat) (hc : c < 256) (hi : i < 8) : bits .and .u32 ((c : Int) / 2 ^ (7 - i)) 1 = ((cbit c i : Nat) : Int) := by
  have e1 : (c : Int) / 2 ^ (7 - i) = ((c / 2 ^ (7 - i) : Nat) : Int) := by
    rw [Int.natCast_ediv]; simp
  have hq : c / 2 ^ (7 - i) < 4294967296 := Nat.lt_of_le_of_lt (Nat.div_le_self _ _) (by omega)
  rw [e1, bits_one _ hq]
  rfl
set_option maxRecDepth 100000 in
set_option maxHeartbeats 4000000 in
theorem rcheck_any (va : Option Addr) (cap : Nat) (bs : List Nat) (L : Nat) (hL : bs.length = L) (h48 : L ≤ 1048576) (w : World) (hx : By w va bs) (r : Int) (hr : ((crc 4294967295 bs : Nat) : Int) = r) :
    Calls Try.prog 45 #[.slice va L cap] w fun e w' => e = .returned (.int .u32 r) ∧ w' = w := by
  have HX : Hid (By w va bs) := hx
  have HLX : Hid (bs.length = L) := hL
  have HBL : Hid ((bl bs).length = 8 * L) := by rw [← hL]; exact bl_len bs
  rw [crc_bl] at hr
  have HR : Hid (((crcb 4294967295 (bl bs) : Nat) : Int) = r) := hr
  clear hx hL hr
  have hw8 : IntKind.i64.wrap (8 * (L : Int)) = 8 * (L : Int) := by rw [IntWalk.i64_in _ (by omega)]
  go_enter Try.func45, Try.ntmps45
  go_wp2_with fail
  go_loopw [3, 4] (fun sv iv wr => ∃ (J s : Nat), J ≤ 8 * L ∧ iv = .int .i64 (J : Int) ∧ sv = .int .u32 s ∧ s < 4294967296 ∧ ((crcb s ((bl bs).drop J) : Nat) : Int) = r ∧ wr = w) (fun _ i _ => 8 * L - (intOf i).toNat)
  case atStart => exact ⟨0, 4294967295, by omega, rfl, rfl, by decide, HR.out, rfl⟩
  case round =>
    obtain ⟨J, s, hJ, rfl, rfl, s1, hg, hwr⟩ := hrel
    subst hwr
    have HG : Hid (((crcb s ((bl bs).drop J) : Nat) : Int) = r) := hg
    clear hg
    by_cases hlt : J < 8 * L
    · obtain ⟨k, hk⟩ : ∃ k, J / 8 = k := ⟨_, rfl⟩
      obtain ⟨i, hi⟩ : ∃ k, J % 8 = k := ⟨_, rfl⟩
      have hkd : k < bs.length := by rw [HLX.out]; omega
      have hi8 : i < 8 := by omega
      obtain ⟨b, o, rfl, hbl, c0⟩ := HX.out.cells k hkd
      have hu := HX.out.u8 _ (List.getElem_mem hkd)
      obtain ⟨c, hc⟩ : ∃ c, bs[k] = c := ⟨_, rfl⟩
      rw [hc] at c0 hu
      obtain ⟨bt, hbt⟩ : ∃ x, cbit c i = x := ⟨_, rfl⟩
      have hb2 : bt < 2 := by rw [← hbt]; exact Nat.mod_lt _ (by decide)
      have hbit : bits .and .u32 ((c : Int) / 2 ^ (7 - i) % 4294967296) 1 = (bt : Int) := by
        have e1 : (c : Int) / 2 ^ (7 - i) = ((c / 2 ^ (7 - i) : Nat) : Int) := by rw [Int.natCast_ediv]; simp
        have hq : c / 2 ^ (7 - i) < 4294967296 := Nat.lt_of_le_of_lt (Nat.div_le_self _ _) (by omega)
        have e2 : (c : Int) / 2 ^ (7 - i) % 4294967296 = (c : Int) / 2 ^ (7 - i) := by rw [e1]; exact mod32 _ hq
        rw [e2, bit_int c i hu hi8, hbt]
      have HST : Hid (cstep s bt = if s / 2147483648 = bt then s * 2 % 4294967296 else (s * 2 % 4294967296) ^^^ 79764919) := cstep_ref s bt s1 hb2
      have HNX : Hid (((crcb (cstep s bt) ((bl bs).drop (J + 1)) : Nat) : Int) = r) := by
        have h1 := HG.out
        have h2 := bl_at bs J (by rw [hk]; exact hkd)
        have h3 : J < (bl bs).length := by rw [HBL.out]; exact hlt
        rw [List.getElem?_eq_getElem h3] at h2
        injection h2 with h2
        simp only [hk, hi, hc, hbt] at h2
        rw [List.drop_eq_getElem_cons h3, h2] at h1
        exact h1
      have hlt8 : (J : Int) < 8 * (L : Int) := by omega
      have hq : ((J : Int)).tdiv 8 = (k : Int) := by rw [Int.tdiv_eq_ediv_of_nonneg (by omega)]; omega
      have hm : ((J : Int)).tmod 8 = (i : Int) := by rw [Int.tmod_eq_emod_of_nonneg (by omega)]; omega
      have hwk : IntKind.i64.wrap (k : Int) = k := by rw [IntWalk.i64_in _ (by omega)]
      have hwi : IntKind.i64.wrap (i : Int) = i := by rw [IntWalk.i64_in _ (by omega)]
      have hw7 : IntKind.i64.wrap (7 - (i : Int)) = ((7 - i : Nat) : Int) := by rw [IntWalk.i64_in _ (by omega)]; omega
      have hk0 : (0 : Int) ≤ k := by omega
      have hkL : (k : Int) < L := by omega
      clear hc HG hk hi hbt
      by_cases hsb : s / 2147483648 = bt
      · have hsI : (s : Int) / 2147483648 = (bt : Int) := by omega
        have hsB : ((s : Int) / 2147483648 != (bt : Int)) = false := by rw [hsI]; simp
        have HE : Hid (cstep s bt = s * 2 % 4294967296) := by rw [HST.out, if_pos hsb]; exact rfl
        go_wp2_with fail
        exact ⟨⟨J + 1, cstep s bt, by omega, by simp, by rw [HE.out]; simp, cstep_lt _ _, HNX.out, by first | trivial | rfl⟩, by simp [intOf]; omega⟩
      · have hsI : ¬ (s : Int) / 2147483648 = (bt : Int) := by omega
        have hsB : ((s : Int) / 2147483648 != (bt : Int)) = true := by simpa using hsI
        have HE : Hid (Value.int .u32 (bits .xor .u32 ((s : Int) * 2 % 4294967296) 79764919) = .int .u32 ((cstep s bt : Nat) : Int)) := by
          show _ = _
          rw [HST.out, if_neg hsb, show (s : Int) * 2 % 4294967296 = ((s * 2 % 4294967296 : Nat) : Int) by omega]
          have := bits_xor32 (s * 2 % 4294967296) 79764919 (Nat.mod_lt _ (by decide)) (by decide)
          rw [← this]
          rfl
        go_wp2_with fail
        exact ⟨⟨J + 1, cstep s bt, by omega, by simp, HE.out, cstep_lt _ _, HNX.out, by first | trivial | rfl⟩, by simp [intOf]; omega⟩
    · obtain rfl : J = 8 * L := by omega
      have HE : Hid ((s : Int) = r) := by
        have h1 := HG.out
        rw [List.drop_of_length_le (by rw [HBL.out]; omega)] at h1
        exact h1
      have hne : ¬ ((8 * L : Nat) : Int) < 8 * (L : Int) := by omega
      clear HG
      go_wp2_with fail
      go_ret
      exact ⟨by rw [HE.out]; rfl, rfl⟩
set_option maxRecDepth 100000 in
set_option maxHeartbeats 4000000 in
theorem rnumr_any (va : Option Addr) (cap : Nat) (bs : List Nat) (L : Nat) (hL : bs.length = L) (at_ n : Nat) (atI nI : Int) (hat : ((at_ : Nat) : Int) = atI) (hn : ((n : Nat) : Int) = nI) (hn7 : n ≤ 7) (hin : at_ + n ≤ L) (w : World) (hx : By w va bs) (r : Int) (hr : ((num ((bs.drop at_).take n) : Nat) : Int) = r) :
    Calls Try.prog 64 #[.slice va L cap, .int .i64 atI, .int .i64 nI] w fun e w' => e = .returned (.int .i64 r) ∧ w' = w := by
  subst hat hn
  have hsm := hx.small
  rw [hL] at hsm
  have HX : Hid (By w va bs) := hx
  have HLX : Hid (bs.length = L) := hL
  have HR : Hid (((num ((bs.drop at_).take n) : Nat) : Int) = r) := hr
  have HDL : Hid ((bs.drop at_).length = L - at_) := by rw [List.length_drop, hL]; exact rfl
  clear hx hL hr
  go_enter Try.func64, Try.ntmps64
  go_wp2_with fail
  go_loopw [7, 8] (fun vv iv wr => ∃ k : Nat, k ≤ n ∧ iv = .int .i64 (k : Int) ∧ vv = .int .i64 ((num ((bs.drop at_).take k) : Nat) : Int) ∧ wr = w) (fun _ i _ => n - (intOf i).toNat)
  case atStart => exact ⟨0, by omega, rfl, rfl, rfl⟩
  case round =>
    obtain ⟨k, hk, rfl, rfl, hwr⟩ := hrel
    subst hwr
    by_cases hlt : k < n
    · have hkd : at_ + k < bs.length := by rw [HLX.out]; omega
      obtain ⟨b, o, rfl, hbl, c0⟩ := HX.out.cells (at_ + k) hkd
      have hu := HX.out.u8 _ (List.getElem_mem hkd)
      have hdk : k < (bs.drop at_).length := by rw [HDL.out]; omega
      have hT : num ((bs.drop at_).take (k + 1)) = num ((bs.drop at_).take k) * 256 + bs[at_ + k] := by
        rw [num_take _ k hdk, List.getElem_drop]
      have hlt2 : num ((bs.drop at_).take k) < 281474976710656 := Nat.lt_of_lt_of_le (num_lt (fun d hd => HX.out.u8 d (List.mem_of_mem_drop hd)) k (by omega)) (Nat.pow_le_pow_right (n := 256) (j := 6) (by decide) (by omega))
      obtain ⟨c, hc⟩ : ∃ c, bs[at_ + k] = c := ⟨_, rfl⟩
      obtain ⟨t, ht⟩ : ∃ t, num ((bs.drop at_).take k) = t := ⟨_, rfl⟩
      rw [hc] at c0 hu hT
      rw [ht] at hT hlt2 ⊢
      have HT : Hid (num ((bs.drop at_).take (k + 1)) = t * 256 + c) := hT
      obtain ⟨J, hJ⟩ : ∃ J, at_ + k = J := ⟨_, rfl⟩
      have hwJ : IntKind.i64.wrap ((at_ : Int) + (k : Int)) = (J : Int) := by rw [IntWalk.i64_in _ (by omega)]; omega
      rw [hJ] at c0
      have hJ0 : (0 : Int) ≤ J := by omega
      have hJL : (J : Int) < L := by omega
      have hkk : (k : Int) < n := by omega
      have kk0 : (0 : Int) ≤ k := by omega
      have w8 : IntKind.i64.wrap ((t : Int) * 256) = (t : Int) * 256 := by rw [IntWalk.i64_in _ (by omega)]
      have w9 : IntKind.i64.wrap ((t : Int) * 256 + (c : Int)) = (t : Int) * 256 + (c : Int) := by rw [IntWalk.i64_in _ (by omega)]
      clear hc ht hT
      go_wp2_with fail
      exact ⟨⟨k + 1, by omega, by simp, by rw [HT.out]; simp, by first | trivial | rfl⟩, by simp [intOf]; omega⟩
    · obtain rfl : n = k := by omega
      go_wp2_with fail
      go_ret
      exact ⟨by rw [HR.out]; rfl, rfl⟩
end Go.Proofs.Ytagfdmkgnedlbae.Ls
