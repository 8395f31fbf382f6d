/- A frame is right; with one byte changed it is not. Plain. -/
import Derived.Test.YtghlgkpfcpcopaaPwW
namespace Go.Proofs.Ytghlgkpfcpcopaa.Pv
open Go.Proofs.Ytghlgkpfcpcopaa.PM
set_option linter.unusedVariables false

theorem frame_drops (k : Nat) (b : List Nat) : (frame k b).take 4 = [255, 255, 255, 255] ∧ ((frame k b).drop 4).take 2 = big 2 (9 + b.length) ∧ ((frame k b).drop 6).take 1 = big 1 k ∧ ((frame k b).drop 7).take 2 = big 2 (ssum 65535 (k :: b)) ∧ (frame k b).drop 9 = b := by
  have e : frame k b = [255, 255, 255, 255] ++ (big 2 (9 + b.length) ++ (big 1 k ++ (big 2 (ssum 65535 (k :: b)) ++ b))) := by unfold frame; simp only [List.append_assoc]
  have d4 : (frame k b).drop 4 = big 2 (9 + b.length) ++ (big 1 k ++ (big 2 (ssum 65535 (k :: b)) ++ b)) := by rw [e]; rfl
  have d6 : (frame k b).drop 6 = big 1 k ++ (big 2 (ssum 65535 (k :: b)) ++ b) := by rw [show 6 = 4 + 2 from rfl, ← List.drop_drop, d4]; exact List.drop_left' (big_len 2 _)
  have d7 : (frame k b).drop 7 = big 2 (ssum 65535 (k :: b)) ++ b := by rw [show 7 = 6 + 1 from rfl, ← List.drop_drop, d6]; exact List.drop_left' (big_len 1 _)
  have d9 : (frame k b).drop 9 = b := by rw [show 9 = 7 + 2 from rfl, ← List.drop_drop, d7]; exact List.drop_left' (big_len 2 _)
  exact ⟨by rw [e]; rfl, by rw [d4]; exact List.take_left' (big_len 2 _), by rw [d6]; exact List.take_left' (big_len 1 _), by rw [d7]; exact List.take_left' (big_len 2 _), d9⟩
theorem frame_six {k : Nat} (hk : k < 256) (b : List Nat) : (frame k b)[6]? = some k := by
  obtain ⟨-, -, h, -, -⟩ := frame_drops k b
  have h1 : (((frame k b).drop 6).take 1)[0]? = (frame k b)[6]? := by simp
  rw [← h1, h]
  simp [big]
  omega
theorem frame_right {k : Nat} {b : List Nat} (hk : 1 ≤ k ∧ k ≤ 4) (hl : b.length ≤ 1015) (hu : ∀ d ∈ b, d < 256) : frE (frame k b) = 0 := by
  obtain ⟨h1, h2, h3, h4, h5⟩ := frame_drops k b
  have hlen := frame_len k b
  have h6 := frame_six (k := k) (by omega) b
  have n2 : num (big 2 (9 + b.length)) = 9 + b.length := num_big 2 _ (by simp; omega)
  have hb : bgE (frame k b) = 0 := by
    unfold bgE
    rw [h1, h2, n2, if_neg (by decide), if_neg (by omega)]
  have hs : ssum 65535 (k :: b) < 65536 := ssum_lt _ _ (by decide) (fun d hd => by
    rcases List.mem_cons.1 hd with e | e
    · omega
    · exact hu d e)
  have n7 : num (big 2 (ssum 65535 (k :: b))) = ssum 65535 (k :: b) := num_big 2 _ (by simpa using hs)
  unfold frE
  rw [hlen, if_neg (by omega), hb, if_neg (by simp), h2, n2, if_neg (by simp), h4, n7, h6, h5]
  simp only [Option.getD_some]
  rw [if_neg (by simp), if_neg (by rw [isK_iff.2 ⟨by omega, by omega⟩]; decide)]
theorem dec_back {m : Ms} (he : encE m = 0) (hi : InM m) : dec (encB m) = (m, 0) := by
  unfold encE at he
  split at he
  · rename_i hc
    have hck := ck_of hc
    split at he
    · cases he
    · split at he
      · cases he
      · rename_i hl1 hl2
        have he0 : encE m = 0 := by unfold encE; rw [if_pos hc, if_neg hl1, if_neg hl2]
        have hB : encB m = frame m.kind.toNat (body m) := by unfold encB; rw [if_pos he0]
        have hk := hck.k
        have hf := frame_right (k := m.kind.toNat) (b := body m) (by omega) (by omega) (body_u8 m)
        obtain ⟨-, -, -, -, h5⟩ := frame_drops m.kind.toNat (body m)
        rw [hB, dec_some hf (frame_six (by omega) _) (by rw [h5]; exact read_back hck hi (by omega)), if_pos ⟨he0, hB⟩]
  · rename_i hc
    exact absurd he hc
/-- the sum tells one byte from another -/
theorem sbit_inj {a b : Nat} (ha : a < 65536) (hb : b < 65536) (h : sbit a = sbit b) : a = b := by
  unfold sbit at h
  have qa : a / 32768 = 0 ∨ a / 32768 = 1 := by omega
  have qb : b / 32768 = 0 ∨ b / 32768 = 1 := by omega
  have par : ∀ x q : Nat, (x * 2 % 65536 ^^^ q * 4129) % 2 = q % 2 := fun x q => by
    have e1 : (x * 2 % 65536 ^^^ q * 4129) % 2 = ((x * 2 % 65536) % 2 ^^^ (q * 4129) % 2) := by
      have := @Nat.xor_mod_two_pow (x * 2 % 65536) (q * 4129) 1
      simpa using this
    rw [e1]
    have e2 : (x * 2 % 65536) % 2 = 0 := by omega
    have e3 : (q * 4129) % 2 = q % 2 := by omega
    rw [e2, e3]
    simp
  have h2 : (a / 32768) % 2 = (b / 32768) % 2 := by
    have e1 := par a (a / 32768)
    have e2 := par b (b / 32768)
    rw [h] at e1
    exact e1.symm.trans e2
  have h3 : a / 32768 = b / 32768 := by omega
  rw [h3] at h
  have h4 : a * 2 % 65536 = b * 2 % 65536 := by
    have e := congrArg (fun z => z ^^^ b / 32768 * 4129) h
    simp only [Nat.xor_assoc, Nat.xor_self, Nat.xor_zero] at e
    exact e
  omega
theorem sbits_inj : ∀ (k a b : Nat), a < 65536 → b < 65536 → sbits k a = sbits k b → a = b
  | 0, a, b, _, _, h => h
  | k + 1, a, b, ha, hb, h => sbit_inj ha hb (sbits_inj k _ _ (sbit_lt ha) (sbit_lt hb) h)
theorem xor_inj {a b c : Nat} (h : a ^^^ c = b ^^^ c) : a = b := by
  have e := congrArg (fun z => z ^^^ c) h
  simpa [Nat.xor_assoc] using e
theorem stir_injS {s t c : Nat} (hs : s < 65536) (ht : t < 65536) (hc : c < 256) (h : stir s c = stir t c) : s = t :=
  xor_inj (sbits_inj 8 _ _ (xor_lt16 hs (by omega)) (xor_lt16 ht (by omega)) h)
theorem stir_injC {s c d : Nat} (hs : s < 65536) (hc : c < 256) (hd : d < 256) (h : stir s c = stir s d) : c = d := by
  have e := sbits_inj 8 _ _ (xor_lt16 hs (by omega)) (xor_lt16 hs (by omega)) h
  rw [Nat.xor_comm, Nat.xor_comm s] at e
  have := xor_inj e
  omega
theorem ssum_injS : ∀ {xs : List Nat} {s t : Nat}, s < 65536 → t < 65536 → (∀ d ∈ xs, d < 256) → ssum s xs = ssum t xs → s = t
  | [], s, t, _, _, _, h => h
  | x :: xs, s, t, hs, ht, hu, h => by
    have hx := hu x (List.mem_cons_self ..)
    exact stir_injS hs ht hx (ssum_injS (stir_lt hs hx) (stir_lt ht hx) (fun d hd => hu d (List.mem_cons_of_mem _ hd)) h)
theorem ssum_set : ∀ {xs : List Nat} {s y i : Nat} (hi : i < xs.length), s < 65536 → (∀ d ∈ xs, d < 256) → y < 256 → ssum s (xs.set i y) = ssum s xs → y = xs[i]
  | x :: xs, s, y, 0, _, hs, hu, hy, h => by
    have hx := hu x (List.mem_cons_self ..)
    have h2 : stir s y = stir s x := ssum_injS (stir_lt hs hy) (stir_lt hs hx) (fun d hd => hu d (List.mem_cons_of_mem _ hd)) h
    exact stir_injC hs hy hx h2
  | x :: xs, s, y, i + 1, hi, hs, hu, hy, h => by
    have hx := hu x (List.mem_cons_self ..)
    have := ssum_set (xs := xs) (i := i) (by simpa using hi) (stir_lt hs hx) (fun d hd => hu d (List.mem_cons_of_mem _ hd)) hy h
    simpa using this
theorem set_u8 {xs : List Nat} (hu : ∀ d ∈ xs, d < 256) (i : Nat) {y : Nat} (hy : y < 256) : ∀ d ∈ xs.set i y, d < 256 := fun d hd => by
  rcases List.mem_or_eq_of_mem_set hd with e | e
  · exact hu d e
  · omega
theorem num_inj {a b : List Nat} (hl : a.length = b.length) (ha : ∀ d ∈ a, d < 256) (hb : ∀ d ∈ b, d < 256) (h : num a = num b) : a = b := by
  rw [← big_num _ a rfl ha, ← big_num _ b rfl hb, hl, h]
theorem one_byte {f : List Nat} (hu : ∀ d ∈ f, d < 256) (h9 : 9 ≤ f.length) (hf : frE f = 0) {i y : Nat} (hi : i < f.length) (hy : y < 256) (hne : y ≠ f[i]) : frE (f.set i y) ≠ 0 := by
  intro hc
  have huc := set_u8 hu i hy
  have hlc : (f.set i y).length = f.length := List.length_set ..
  obtain ⟨-, kf, k6, -, -, sf, zf, bf⟩ := frE_ok (by omega) hf
  obtain ⟨-, kc, k6c, -, -, sc, zc, bc⟩ := frE_ok (by rw [hlc]; omega) hc
  have hat : (f.set i y)[i]'(by rw [hlc]; exact hi) = y := List.getElem_set_self ..
  rw [hlc] at zc
  have same : ∀ a k : Nat, a ≤ i → i < a + k → num (((f.set i y).drop a).take k) = num ((f.drop a).take k) → False := fun a k h1 h2 h3 => by
    have e := num_inj (by simp) (take_u8 (drop_u8 huc a) k) (take_u8 (drop_u8 hu a) k) h3
    have e1 := congrArg (fun l => l[i - a]?) e
    simp only [List.getElem?_take, List.getElem?_drop, show a + (i - a) = i by omega, show i - a < k by omega, if_true] at e1
    rw [List.getElem?_eq_getElem hi, List.getElem?_eq_getElem (by rw [hlc]; exact hi), hat] at e1
    exact hne (Option.some.inj e1)
  by_cases h4 : i < 4
  · have e1 := bc i (by rw [hlc]; exact hi) h4
    rw [hat] at e1
    have e2 := bf i hi h4
    exact hne (e1.trans e2.symm)
  by_cases h6 : i < 6
  · exact same 4 2 (by omega) (by omega) (zc.trans zf.symm)
  by_cases h7 : i = 6
  · subst h7
    have e0 : (f.set 6 y).drop 9 = f.drop 9 := List.drop_set_of_lt (by decide)
    have e1 : (f.set 6 y).drop 7 = f.drop 7 := List.drop_set_of_lt (by decide)
    rw [e0, e1] at sc
    rw [List.getElem?_eq_getElem hi] at k6
    rw [List.getElem?_eq_getElem (by rw [hlc]; exact hi), hat] at k6c
    cases k6
    cases k6c
    have hx := hu _ (List.getElem_mem hi)
    have e2 : stir 65535 y = stir 65535 f[6] := ssum_injS (stir_lt (by decide) hy) (stir_lt (by decide) hx) (drop_u8 hu 9) (sc.trans sf.symm)
    exact hne (stir_injC (by decide) hy hx e2)
  have k6e : (f.set i y)[6]? = f[6]? := List.getElem?_set_ne (by omega)
  rw [k6e, k6] at k6c
  cases k6c
  by_cases h9i : i < 9
  · have e0 : (f.set i y).drop 9 = f.drop 9 := List.drop_set_of_lt (by omega)
    rw [e0] at sc
    exact same 7 2 (by omega) (by omega) (sc.symm.trans sf)
  · have e0 : (f.set i y).drop 9 = (f.drop 9).set (i - 9) y := by rw [List.drop_set, if_neg (by omega)]
    have e1 : ((f.set i y).drop 7).take 2 = (f.drop 7).take 2 := by
      apply List.ext_getElem?
      intro j
      simp only [List.getElem?_take, List.getElem?_drop]
      split
      · exact List.getElem?_set_ne (by omega)
      · rfl
    rw [e0, e1, ← sf] at sc
    have hl9 : i - 9 < (f.drop 9).length := by rw [List.length_drop]; omega
    have e2 : y = (f.drop 9)[i - 9] := ssum_set hl9 (stir_lt (by decide) (by
      obtain ⟨h1, h2⟩ := List.getElem?_eq_some_iff.1 k6
      rw [← h2]; exact hu _ (List.getElem_mem h1))) (drop_u8 hu 9) hy sc
    rw [List.getElem_drop] at e2
    apply hne
    rw [e2]
    congr 1
    omega
end Go.Proofs.Ytghlgkpfcpcopaa.Pv
