/- PvOnly answers true. -/
import Derived.Test.YtghlgkpfcpcopaaPwQ
import Derived.Test.YtghlgkpfcpcopaaPwS
namespace Go.Proofs.Ytghlgkpfcpcopaa.Pv
open Go.ChangeShapes Go.WideShapes Go.ChangeAt Go.RowKit Go.Joins Go.Proofs.Ytghlgkpfcpcopaa.PM Go.Proofs.Ytghlgkpfcpcopaa.Ask Go.Proofs.Ytghlgkpfcpcopaa.Ge
set_option linter.unusedVariables false

set_option maxRecDepth 100000 in
theorem bsame_any (va : Option Addr) (cap : Nat) (vb : Option Addr) (cap2 : Nat) (bs : List Nat) (L : Nat) (hL : bs.length = L) (w : World) (hx : Lst E8 w va bs) (hy : Lst E8 w vb bs) :
    Calls Try.prog 10 #[.slice va L cap, .slice vb L cap2] w fun e w' => e = .returned (.bool true) ∧ w' = w := by
  have h1 := conv_by (cap := cap) hx hL
  have h2 := conv_by (cap := cap2) hy hL
  obtain ⟨S, hS⟩ : ∃ S, strOfNums (bs.map (fun x : Nat => (x : Int))) = S := ⟨_, rfl⟩
  rw [hS] at h1 h2
  clear hx hy hS hL
  go_enter Try.func10, Try.ntmps10
  go_wp2_with fail
  go_ret
  exact ⟨rfl, rfl⟩
def msA : Ms := ⟨3, 0, 0, 0, 0, [], [], rtZ⟩
theorem msA_ok (N : Nat) (w : World) : MO N w msA sZ := mo_zero _ _ _ rfl rfl rfl
theorem encA : encE msA = 0 := by decide
theorem encAB : (encB msA).length = 9 := by
  unfold encB
  rw [encA, if_pos rfl, frame_len]
  rfl
set_option maxRecDepth 100000 in
set_option maxHeartbeats 16000000 in
theorem only_any (va : Option Addr) (n cap : Nat) (xs : List Nat) (hn : xs.length = n) (hcap : n ≤ cap) (w : World) (hl : Lst E8 w va xs) (hu : ∀ d ∈ xs, d < 256) :
    Calls Try.prog 4 #[.slice va n cap] w fun e w' => e = .returned (.bool true) ∧ Below w.heap.size w w' := by
  have HL : Hid (Lst E8 w va xs) := hl
  have HU : Hid (∀ d ∈ xs, d < 256) := hu
  have HN : Hid (xs.length = n) := hn
  have hsm := hl.small
  rw [hn] at hsm
  have HEA := encode_any msA sZ w (msA_ok 0 w).ok ⟨by decide, by decide⟩ _ _ rfl encA
  clear hl hu hn
  go_enter Try.func4, Try.ntmps4
  go_wp2_with fail
  refine HEA.mono ?_
  rintro e w1 ⟨v1, rfl, ho1, hb1⟩
  obtain ⟨va1, vc1, hv1, -⟩ := ho1.form
  rw [encAB] at hv1
  subst hv1
  have HB1 : Hid (Below w.heap.size w w1) := hb1
  clear ho1 hb1 HEA
  by_cases hbig : 20000 < n
  · have hbi : (20000 : Int) < (n : Int) := by omega
    go_wp2_with fail
    go_ret
    exact ⟨rfl, HB1.out⟩
  · have hbi : ¬ (20000 : Int) < (n : Int) := by omega
    go_wp2_with fail
    refine (decode_any va n cap xs HN.out hcap w1 (HL.out.bel HB1.out) HU.out).mono ?_
    rintro e w2 ⟨s, rfl, hmo2, hb2⟩
    obtain ⟨m, er, hd⟩ : ∃ m er, dec xs = (m, er) := ⟨_, _, rfl⟩
    rw [hd] at hmo2 ⊢
    dsimp only at hmo2 ⊢
    have HD : Hid (dec xs = (m, er)) := hd
    have HMO2 : Hid (MO w1.heap.size w2 m s) := hmo2
    have HB2 : Hid (Below w.heap.size w w2) := HB1.out.trans (hb2.mono HB1.out.size)
    clear hb2 hd hmo2 HB1
    go_wp2_with (refine list_mstore rfl _ _ rfl (b := w2.heap.size) (m := m) (s := s) rfl rfl (mb_zero rfl rfl).1 ?_)
    intro w4 hm4 hk4
    obtain ⟨hz3, hb3⟩ := mb_zero (w := w2) rfl rfl
    have hk24 : Below w2.heap.size w2 w4 := hb3.trans (hk4.out.below (Nat.le_refl _) hb3.size)
    have HB4 : Hid (Below w.heap.size w w4) := HB2.out.trans (hk24.mono HB2.out.size)
    have HMO4 : Hid (MO w1.heap.size w4 m s) := HMO2.out.blk (fun g _ _ hl => hk24.block g hl)
    obtain ⟨bq, hbq⟩ : ∃ k, w2.heap.size = k := ⟨_, rfl⟩
    rw [hbq] at hm4 ⊢
    have HQ4 : Hid (MB bq m s w4) := hm4
    clear hm4 hk4 hz3 hb3 HB2 HMO2 hk24 hbq
    by_cases he0 : er = 0
    · subst he0
      obtain ⟨p1, p2, p3⟩ := only_plain HU.out HD.out
      obtain ⟨bs, hbs⟩ : ∃ bs, encB m = bs := ⟨_, rfl⟩
      rw [hbs, HN.out] at p2 p3
      obtain ⟨L, hL⟩ : ∃ L, bs.length = L := ⟨_, rfl⟩
      rw [hL] at p2 p3
      have HP3 : Hid (L = n → bs = xs) := p3
      have HLL : Hid (bs.length = L) := hL
      have hsz : m.lost.length ≤ 100000 ∧ m.hv.length ≤ 100000 := by
        rcases dec_cases xs with ⟨e', he', hne⟩ | ⟨m', kd, body, he', -, -, -, -, -, hx, -, -⟩
        · have h5 := HD.out; rw [he'] at h5; cases h5; exact absurd rfl hne
        · have h5 := HD.out; rw [he'] at h5; cases h5
          obtain ⟨q1, q2, -, -⟩ := readB_len hx
          rw [List.length_drop, HN.out] at q1 q2
          omega
      have HENC := encode_any m s w4 HMO4.out.ok hsz bs 0 hbs p1
      clear hbs p1 p3 hL hsz
      go_wp2_with (refine list_mload rfl _ rfl (b := bq) rfl HQ4.out ?_)
      refine HENC.mono ?_
      rintro e w5 ⟨v5, rfl, ho5, hb5⟩
      obtain ⟨va5, vc5, hv5, -⟩ := ho5.form
      rw [HLL.out] at hv5
      subst hv5
      have HB5 : Hid (Below w.heap.size w w5) := HB4.out.trans (hb5.mono HB4.out.size)
      have HO5 : Hid (OwnL E8 w4.heap.size w5 (.slice va5 L vc5) bs) := ho5
      clear ho5 hb5 HENC HB4 HQ4 HMO4
      have hLn : ¬ (n : Int) < (L : Int) := by omega
      by_cases hlt : L < n
      · have hlti : (L : Int) < (n : Int) := by omega
        go_wp2_with fail
        go_ret
        exact ⟨rfl, HB5.out⟩
      · obtain rfl : L = n := by omega
        have hlti : ¬ (L : Int) < (L : Int) := by omega
        have e5 := HP3.out rfl
        have HBS := bsame_any va cap va5 vc5 xs L HN.out w5 (HL.out.bel HB5.out) (by rw [← e5]; exact HO5.out.lst.1)
        clear e5 HP3 HLL HO5
        go_wp2_with fail
        refine HBS.mono ?_
        rintro e w6 ⟨rfl, hw6⟩
        rw [hw6]
        clear hw6 w6 HBS
        go_wp2_with fail
        go_ret
        exact ⟨rfl, HB5.out⟩
    · have he0b : (er != 0) = true := by simpa using he0
      obtain rfl : ms0 = m := (dec_err HD.out he0).symm
      have HSM := msame_any ms0 s sZ w4 HMO4.out.ok (mo_zero w1.heap.size w4 ms0 rfl rfl rfl).ok
      clear HMO4
      go_wp2_with (refine list_mload rfl _ rfl (b := bq) rfl HQ4.out ?_)
      refine HSM.mono ?_
      rintro e w5 ⟨rfl, hb5⟩
      have HB5 : Hid (Below w.heap.size w w5) := HB4.out.trans (hb5.mono HB4.out.size)
      clear hb5 HSM HB4 HQ4
      go_wp2_with fail
      go_ret
      exact ⟨rfl, HB5.out⟩
end Go.Proofs.Ytghlgkpfcpcopaa.Pv
