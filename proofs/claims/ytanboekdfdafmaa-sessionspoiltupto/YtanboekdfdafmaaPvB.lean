/- Numbers as bytes, and the sum: what wire.Put, stir and sumOf answer. -/
import Derived.Test.YtanboekdfdafmaaGeA
import Derived.Test.YtanboekdfdafmaaPvA
import Derived.Test.YtanboekdfdafmaaAsk3
import Derived.Laws.BitsLemmas
namespace Go.Proofs.Ytanboekdfdafmaa.Pv
open Go.ChangeShapes Go.WideShapes Go.ChangeAt Go.RowKit Go.Joins Go.Proofs.Ytanboekdfdafmaa.PM Go.Proofs.Ytanboekdfdafmaa.Ask Go.Proofs.Ytanboekdfdafmaa.Ge
set_option linter.unusedVariables false

def E8 : El Nat := ⟨5, 32, 1, 1, .int .u8 0, fun p => [.int .u8 (p : Int)], by decide, by decide, fun _ => rfl, fun x u hu => by simp at hu; subst hu; rfl, Try.underlying32, by kernel_rfl, rfl⟩
def EI : El Int := ⟨3, 50, 1, 8, .int .i64 0, fun p => [.int .i64 p], by decide, by decide, fun _ => rfl, fun x u hu => by simp at hu; subst hu; rfl, Try.underlying50, by kernel_rfl, rfl⟩
def E2 : El (Int × Int) := ⟨49, 46, 2, 16, .agg #[.int .u32 0, .int .i64 0], fun p => [.int .u32 p.1, .int .i64 p.2], by decide, by decide, fun _ => rfl, fun x u hu => by simp at hu; rcases hu with rfl | rfl <;> rfl, Try.underlying46, by kernel_rfl, rfl⟩
theorem lst8 {w : World} {a : Option Addr} {bs : List Nat} (h : Lst E8 w a bs) (i : Nat) (hi : i < bs.length) : ∃ b o, a = some ⟨b, o, none⟩ ∧ b < w.heap.size ∧ w.cell? ⟨b, o + i, none⟩ = some (.int .u8 (bs[i] : Int)) := by
  obtain ⟨b, o, e, hl, hc⟩ := h.cells i hi
  have := hc 0 (by decide)
  exact ⟨b, o, e, hl, by simpa [E8] using this⟩
theorem lstI {w : World} {a : Option Addr} {bs : List Int} (h : Lst EI w a bs) (i : Nat) (hi : i < bs.length) : ∃ b o, a = some ⟨b, o, none⟩ ∧ b < w.heap.size ∧ w.cell? ⟨b, o + i, none⟩ = some (.int .i64 (bs[i] : Int)) := by
  obtain ⟨b, o, e, hl, hc⟩ := h.cells i hi
  have := hc 0 (by decide)
  exact ⟨b, o, e, hl, by simpa [EI] using this⟩
theorem lst2 {w : World} {a : Option Addr} {ps : List (Int × Int)} (h : Lst E2 w a ps) (i : Nat) (hi : i < ps.length) : ∃ b o, a = some ⟨b, o, none⟩ ∧ b < w.heap.size ∧ w.cell? ⟨b, o + i * 2, none⟩ = some (.int .u32 ps[i].1) ∧ w.cell? ⟨b, o + i * 2 + 1, none⟩ = some (.int .i64 ps[i].2) := by
  obtain ⟨b, o, e, hl, hc⟩ := h.cells i hi
  exact ⟨b, o, e, hl, hc 0 (by decide), hc 1 (by decide)⟩
set_option maxRecDepth 100000 in
set_option maxHeartbeats 4000000 in
theorem put_any (N : Nat) (v0 : Value) (bs : List Nat) (size n : Nat) (hs8 : size ≤ 8) (hn : n < 9223372036854775808) (hbig : bs.length ≤ 1048576) (w : World) (hN : N ≤ w.heap.size) (h : OwnL E8 N w v0 bs) :
    Calls Try.prog 51 #[v0, .int .i64 (size : Int), .int .i64 (n : Int)] w fun e w' => ∃ v', e = .returned v' ∧ OwnL E8 N w' v' (bs ++ big size n) ∧ Below N w w' := by
  have H : Hid (OwnL E8 N w v0 bs) := h
  clear h
  go_enter Try.func51, Try.ntmps51
  go_wp2_with fail
  go_loopw [0, 9] (fun bv iv wr => ∃ (k : Nat), k ≤ size ∧ iv = .int .i64 k ∧ OwnL E8 N wr bv (bs ++ (big size n).take k) ∧ Below N w wr) (fun _ i _ => size - (intOf i).toNat)
  case atStart => exact ⟨0, by omega, rfl, by simpa using H.out, Below.refl _ _⟩
  case round =>
    obtain ⟨k, hk, rfl, hob, hkp⟩ := hrel
    have HO : Hid (OwnL E8 N wr u0 (bs ++ (big size n).take k)) := hob
    have HK : Hid (Below N w wr) := hkp
    clear hob hkp
    by_cases hlt : k < size
    · have hkk : (k : Int) < size := by omega
      have kk0 : (0 : Int) ≤ k := by omega
      obtain ⟨bs1, hbs⟩ : ∃ b, bs ++ (big size n).take k = b := ⟨_, rfl⟩
      have hl1 : bs1.length ≤ 1048584 := by rw [← hbs, List.length_append, List.length_take]; omega
      obtain ⟨c, hc⟩ : ∃ c, n / 2 ^ (8 * (size - 1 - k)) % 256 = c := ⟨_, rfl⟩
      have HNX : Hid (bs1 ++ [c] = bs ++ (big size n).take (k + 1)) := by
        show _ = _
        rw [← hbs, List.take_succ_eq_append_getElem (by simp [big]; exact hlt), List.append_assoc]
        simp [big, hc]
      rw [hbs] at HO
      have w1 : IntKind.i64.wrap ((size : Int) - 1) = ((size - 1 : Nat) : Int) := by rw [IntWalk.i64_in _ (by omega)]; omega
      have w2 : IntKind.i64.wrap (((size - 1 : Nat) : Int) - (k : Int)) = ((size - 1 - k : Nat) : Int) := by rw [IntWalk.i64_in _ (by omega)]; omega
      have w3 : IntKind.i64.wrap (8 * ((size - 1 - k : Nat) : Int)) = ((8 * (size - 1 - k) : Nat) : Int) := by rw [IntWalk.i64_in _ (by omega)]; omega
      have hcv : (n : Int) / 2 ^ (8 * (size - 1 - k)) % 256 = (c : Int) := by
        rw [← hc]
        simp
      obtain ⟨W, hW⟩ : ∃ W, wr.alloc (Obj.cells #[.int .u8 (c : Int)] 5) = W := ⟨_, rfl⟩
      have HWE : Hid (wr.alloc (Obj.cells (E8.enc c).toArray E8.e) = W) := hW
      have hbl : Below wr.heap.size wr W := by rw [← hW]; exact (Below.refl _ wr).alloc (Nat.le_refl _) _
      have HWA : Hid (OwnL E8 N W u0 bs1) := HO.out.bel hbl
      have HBW : Hid (Below N w W) := HK.out.trans (hbl.mono (Nat.le_trans hN HK.out.size))
      have hNW : N ≤ W.heap.size := Nat.le_trans hN HBW.out.size
      have hby : bs1.length ≤ 1099511627775 := by omega
      clear hbs hc hbl
      go_wp2_with (at_builtin; refine list_app1 E8 rfl _ _ 32 rfl rfl N u0 bs1 c hby (w := wr) W rfl HWA.out rfl hNW HWE.out.symm ?_)
      intro v' w' ho' hg' hat'
      have HO' : Hid (OwnL E8 N w' v' (bs ++ (big size n).take (k + 1))) := by have := ho'.out; rw [HNX.out] at this; exact this
      have HK' : Hid (Below N w w') := HBW.out.grown hg'.out hNW (fun g e => (HWA.out.row.lt g e).1)
      clear ho' hg' hat'
      go_wp2_with fail
      exact ⟨⟨k + 1, by omega, by simp, HO'.out, HK'.out⟩, by simp [intOf]; omega⟩
    · obtain rfl : size = k := by omega
      have HE : Hid (OwnL E8 N wr u0 (bs ++ big size n)) := by
        have h1 := HO.out
        rw [List.take_of_length_le (by simp [big])] at h1
        exact h1
      obtain ⟨va, vc, rfl, -⟩ := HE.out.form
      obtain ⟨vl, hvl⟩ : ∃ q, (bs ++ big size n).length = q := ⟨_, rfl⟩
      rw [hvl] at HE
      rw [hvl]
      clear HO hvl
      go_wp2_with fail
      go_ret
      exact ⟨_, rfl, HE.out, HK.out⟩
theorem ret_u16 {a b : Int} (h : a = b) : Ending.returned (.int .u16 a) = .returned (.int .u16 b) := by rw [h]
theorem bits_xor16 (a b : Nat) (ha : a < 65536) (hb : b < 65536) : bits .xor .u16 (a : Int) (b : Int) = ((a ^^^ b : Nat) : Int) := by
  have ha' : a % 2 ^ IntKind.u16.bits = a := Nat.mod_eq_of_lt ha
  have hb' : b % 2 ^ IntKind.u16.bits = b := Nat.mod_eq_of_lt hb
  have h := xor_lt16 ha hb
  simp only [bits, BitVec.ofInt_natCast, BitVec.toNat_xor, BitVec.toNat_ofNat, ha', hb']
  rw [IntKind.wrap_u16]
  omega
theorem sbit_int (t : Nat) (ht : t < 65536) : bits .xor .u16 (IntKind.u16.wrap ((t : Int) * 2)) ((t : Int) / 32768 * 4129) = ((sbit t : Nat) : Int) := by
  have h2 : t / 32768 < 2 := by omega
  have h3 : t / 32768 * 4129 ≤ 1 * 4129 := Nat.mul_le_mul_right _ (by omega)
  have e3 : (t : Int) / 32768 * 4129 = ((t / 32768 * 4129 : Nat) : Int) := by omega
  have e4 : IntKind.u16.wrap ((t : Int) * 2) = ((t * 2 % 65536 : Nat) : Int) := by rw [IntKind.wrap_u16]; omega
  rw [e3, e4, bits_xor16 _ _ (Nat.mod_lt _ (by decide)) (by omega)]
  rfl
set_option maxRecDepth 100000 in
set_option maxHeartbeats 4000000 in
theorem stir_any (s c : Nat) (hs : s < 65536) (hc : c < 256) (r : Nat) (hr : stir s c = r) (w : World) :
    Calls Try.prog 69 #[.int .u16 (s : Int), .int .u8 (c : Int)] w fun e w' => e = .returned (.int .u16 (r : Int)) ∧ w' = w := by
  obtain ⟨x, hx⟩ : ∃ x, s ^^^ (c * 256) = x := ⟨_, rfl⟩
  have hx1 : x < 65536 := by rw [← hx]; exact xor_lt16 hs (by omega)
  have HR : Hid (sbits 8 x = r) := by rw [← hx]; exact hr
  have e1 : (c : Int) * 256 = ((c * 256 : Nat) : Int) := by omega
  have hxx : bits .xor .u16 (s : Int) ((c : Int) * 256) = (x : Int) := by rw [e1, bits_xor16 _ _ hs (by omega), hx]
  clear hx hr e1
  go_enter Try.func69, Try.ntmps69
  go_wp2_with fail
  go_loopw [0, 10] (fun sv iv wr => ∃ (k t : Nat), k ≤ 8 ∧ iv = .int .i64 k ∧ sv = .int .u16 (t : Int) ∧ t < 65536 ∧ sbits (8 - k) t = r ∧ wr = w) (fun _ i _ => 8 - (intOf i).toNat)
  case atStart => exact ⟨0, x, by omega, rfl, by first | rfl | rw [hxx], hx1, HR.out, rfl⟩
  case round =>
    obtain ⟨k, t, hk, rfl, rfl, ht, hg, hwr⟩ := hrel
    subst hwr
    have HG : Hid (sbits (8 - k) t = r) := hg
    clear hg
    by_cases hlt : k < 8
    · have hi8 : (k : Int) < 8 := by omega
      have HST : Hid (Value.int .u16 (bits .xor .u16 (IntKind.u16.wrap ((t : Int) * 2)) ((t : Int) / 32768 * 4129)) = .int .u16 (sbit t : Nat)) := by rw [sbit_int t ht]; exact rfl
      have HNX : Hid (sbits (8 - (k + 1)) (sbit t) = r) := by
        have h1 := HG.out
        rw [show 8 - k = (8 - (k + 1)) + 1 by omega] at h1
        exact h1
      go_wp2_with fail
      exact ⟨⟨k + 1, sbit t, by omega, by simp, HST.out, sbit_lt ht, HNX.out, by first | trivial | rfl⟩, by simp [intOf]; omega⟩
    · obtain rfl : k = 8 := by omega
      have HE : Hid (t = r) := HG.out
      clear HG
      go_wp2_with fail
      go_ret
      exact ⟨ret_u16 (by rw [HE.out]), rfl⟩
set_option maxRecDepth 100000 in
set_option maxHeartbeats 4000000 in
theorem sumOf_any (c : Nat) (hc : c < 256) (va : Option Addr) (cap : Nat) (bs : List Nat) (L : Nat) (hL : bs.length = L) (w : World) (hx : Lst E8 w va bs) (hu : ∀ d ∈ bs, d < 256) (r : Nat) (hr : ssum 65535 (c :: bs) = r) :
    Calls Try.prog 55 #[.int .u8 (c : Int), .slice va L cap] w fun e w' => e = .returned (.int .i64 (r : Int)) ∧ w' = w := by
  have HX : Hid (Lst E8 w va bs) := hx
  have HU : Hid (∀ d ∈ bs, d < 256) := hu
  have HLX : Hid (bs.length = L) := hL
  obtain ⟨s0, hs0⟩ : ∃ s, stir 65535 c = s := ⟨_, rfl⟩
  have HS0 : Hid (stir 65535 c = s0) := hs0
  have hs1 : s0 < 65536 := by rw [← hs0]; exact stir_lt (by decide) hc
  have HR : Hid (ssum s0 bs = r) := by rw [← hs0]; exact hr
  have hl9 := hx.small
  rw [hL] at hl9
  clear hx hL hr hu hs0
  go_enter Try.func55, Try.ntmps55
  go_wp2_with fail
  refine (stir_any 65535 c (by decide) hc s0 HS0.out _).mono ?_
  rintro e w1 ⟨rfl, hw1⟩
  rw [hw1]
  clear hw1 w1
  go_wp2_with fail
  go_loopw [5, 12] (fun sv iv wr => ∃ (k s : Nat), k ≤ L ∧ iv = .int .i64 k ∧ sv = .int .u16 (s : Int) ∧ s < 65536 ∧ ssum s (bs.drop k) = r ∧ wr = w) (fun _ i _ => L - (intOf i).toNat)
  case atStart => exact ⟨0, s0, by omega, rfl, rfl, hs1, HR.out, rfl⟩
  case round =>
    obtain ⟨k, s, hk, rfl, rfl, s1, hg, hwr⟩ := hrel
    subst hwr
    have HG : Hid (ssum s (bs.drop k) = r) := hg
    clear hg
    by_cases hlt : k < L
    · have hkd : k < bs.length := by rw [HLX.out]; exact hlt
      obtain ⟨b, o, rfl, hbl, c0⟩ := lst8 HX.out k hkd
      have hu := HU.out _ (List.getElem_mem hkd)
      obtain ⟨d, hd⟩ : ∃ c, bs[k] = c := ⟨_, rfl⟩
      obtain ⟨q, hq⟩ : ∃ q, stir s d = q := ⟨_, rfl⟩
      have HG2 : Hid (ssum q (bs.drop (k + 1)) = r) := by
        have h1 := HG.out
        rw [List.drop_eq_getElem_cons hkd, hd] at h1
        rw [← hq]
        exact h1
      have HQ : Hid (stir s d = q) := hq
      rw [hd] at c0 hu
      have hq1 : q < 65536 := by rw [← hq]; exact stir_lt s1 hu
      have hkk : (k : Int) < L := by omega
      have kk0 : (0 : Int) ≤ k := by omega
      clear hd HG hq
      go_wp2_with fail
      refine (stir_any s d s1 hu q HQ.out _).mono ?_
      rintro e w1 ⟨rfl, hw1⟩
      rw [hw1]
      clear hw1 w1
      go_wp2_with fail
      exact ⟨⟨k + 1, q, by omega, by simp, rfl, hq1, HG2.out, by first | trivial | rfl⟩, by simp [intOf]; omega⟩
    · obtain rfl : L = k := by omega
      have HE : Hid (s = r) := by
        have h1 := HG.out
        rw [List.drop_of_length_le (by rw [HLX.out]; omega)] at h1
        exact h1
      clear HG
      go_wp2_with fail
      go_ret
      exact ⟨ret_i64 (by rw [HE.out]), rfl⟩
end Go.Proofs.Ytanboekdfdafmaa.Pv
