/- checkFrame: what it answers. -/
import Derived.Test.YtagfdmkgnedlbaeLsV
import Derived.Deep.RegionHeld3
import Derived.Deep.CutRange
namespace Go.Proofs.Ytagfdmkgnedlbae.Ls
open Go.ChangeShapes Go.WideShapes Go.ChangeAt Go.RowKit Go.Joins Go.Proofs.Ytagfdmkgnedlbae.PM Go.Proofs.Ytagfdmkgnedlbae.Ask
set_option linter.unusedVariables false

def frameE (bs : List Nat) : Int :=
  if 4096 < bs.length then 6 else if bs.length < 20 then 4 else
  if ¬ num (bs.take 2) = 22342 ∨ ¬ num ((bs.drop 4).take 2) = bs.length then 4 else
  if ¬ num (bs.drop (bs.length - 4)) = crc 4294967295 (bs.take (bs.length - 4)) then 5 else 0
theorem By.take {w : World} {a : Option Addr} {bs : List Nat} (h : By w a bs) (n : Nat) : By w a (bs.take n) :=
  ⟨by rw [List.length_take]; have := h.small; omega, fun i hi => by
    rw [List.length_take] at hi
    obtain ⟨b, o, e, hl, hc⟩ := h.cells i (by omega)
    exact ⟨b, o, e, hl, by rw [List.getElem_take]; exact hc⟩, fun d hd => h.u8 d (List.mem_of_mem_take hd)⟩
theorem By.drop {w : World} {b o : Nat} {bs : List Nat} (h : By w (some ⟨b, o, none⟩) bs) (n : Nat) (hb : b < w.heap.size) : By w (some ⟨b, o + n, none⟩) (bs.drop n) :=
  ⟨by rw [List.length_drop]; have := h.small; omega, fun i hi => by
    rw [List.length_drop] at hi
    obtain ⟨b1, o1, e, hl, hc⟩ := h.cells (n + i) (by omega)
    cases e
    exact ⟨b, o + n, rfl, hl, by rw [List.getElem_drop, Nat.add_assoc]; exact hc⟩, fun d hd => h.u8 d (List.mem_of_mem_drop hd)⟩
theorem By.kr {br : Nat} {w w' : World} {a : Option Addr} {bs : List Nat} (h : By w a bs) (hb : Kr br w w') (hn : ∀ b o, a = some ⟨b, o, none⟩ → ¬ b = br) : By w' a bs :=
  ⟨h.small, fun i hi => by
    obtain ⟨b, o, e, hlt, h0⟩ := h.cells i hi
    exact ⟨b, o, e, Nat.lt_of_lt_of_le hlt hb.str.size, (World.cell?_of_block (w := w) (hb.block b hlt (hn b o e))).trans h0⟩, h.u8⟩
/-- a reader's two cells -/
structure RB (W : World) (b : Nat) (va : Option Addr) (L cap : Nat) : Prop where
  c0 : W.cell? ⟨b, 0, none⟩ = some (.slice va L cap)
  c1 : W.cell? ⟨b, 1, none⟩ = some (.bool false)
  f0 : W.frozen? ⟨b, 0, none⟩ = false
  f1 : W.frozen? ⟨b, 1, none⟩ = false
  lt : b < W.heap.size
theorem RB.blk {W W' : World} {b : Nat} {va : Option Addr} {L cap : Nat} (h : RB W b va L cap) (hb : W'.heap[b]? = W.heap[b]?) (hs : W.heap.size ≤ W'.heap.size) : RB W' b va L cap :=
  ⟨(World.cell?_of_block (w := W) hb).trans h.c0, (World.cell?_of_block (w := W) hb).trans h.c1, (World.frozen?_of_block (w := W) hb).trans h.f0, (World.frozen?_of_block (w := W) hb).trans h.f1, Nat.lt_of_lt_of_le h.lt hs⟩
/-- a reader that was just made -/
theorem RB.ri {M br L cap : Nat} {W : World} {va : Option Addr} {bs : List Nat} (hg : RB W br va L cap) (hL : bs.length = L) (hc : L ≤ cap) (hb : By W va bs) (hn : ∀ b o, va = some ⟨b, o, none⟩ → ¬ b = br ∧ b < M) (hM : br < M) (hs : M ≤ W.heap.size) : RI M br W (bs, false) W := by
  subst hL
  exact ⟨⟨⟨va, cap, hg.c0, hc, hb, hn⟩, hg.c1, hg.f0, hg.f1, hM, hs⟩, Kr.refl _ _⟩
theorem rdV_of {n : Nat} {r : Rst} (h : n ≤ r.1.length) : rdV n r = num (r.1.take n) := if_pos h
theorem rdR_of {n : Nat} {r : Rst} (h : n ≤ r.1.length) : rdR n r = (r.1.drop n, r.2) := if_pos h
set_option maxRecDepth 100000 in
set_option maxHeartbeats 8000000 in
theorem frame_any (va : Option Addr) (cap : Nat) (bs : List Nat) (L : Nat) (hL : bs.length = L) (hcap : L ≤ cap) (w : World) (hx : By w va bs) (r : Int) (hr : frameE bs = r) :
    Calls Try.prog 55 #[.slice va L cap] w fun e w' => e = .returned (.int .i64 r) ∧ Below w.heap.size w w' := by
  have HX : Hid (By w va bs) := hx
  have HLX : Hid (bs.length = L) := hL
  have hl9 := hx.small
  rw [hL] at hl9
  unfold frameE at hr
  rw [hL] at hr
  have HR : Hid ((if 4096 < L then 6 else if L < 20 then 4 else if ¬ num (bs.take 2) = 22342 ∨ ¬ num ((bs.drop 4).take 2) = L then 4 else if ¬ num (bs.drop (L - 4)) = crc 4294967295 (bs.take (L - 4)) then 5 else 0) = r) := hr
  clear hx hL hr
  go_enter Try.func55, Try.ntmps55
  by_cases h1 : 4096 < L
  · obtain rfl : r = 6 := by have := HR.out; rw [if_pos h1] at this; exact this.symm
    have h1' : (4096 : Int) < L := by omega
    go_wp2_with fail
    go_ret
    exact ⟨rfl, Below.refl _ _⟩
  · have h1' : ¬ (4096 : Int) < L := by omega
    have HR2 : Hid ((if L < 20 then 4 else if ¬ num (bs.take 2) = 22342 ∨ ¬ num ((bs.drop 4).take 2) = L then 4 else if ¬ num (bs.drop (L - 4)) = crc 4294967295 (bs.take (L - 4)) then 5 else 0) = r) := by have := HR.out; rw [if_neg h1] at this; exact this
    clear HR
    by_cases h2 : L < 20
    · obtain rfl : r = 4 := by have := HR2.out; rw [if_pos h2] at this; exact this.symm
      have h2' : (L : Int) < 20 := by omega
      go_wp2_with fail
      go_ret
      exact ⟨rfl, Below.refl _ _⟩
    · have h2' : ¬ (L : Int) < 20 := by omega
      have HR3 : Hid ((if ¬ num (bs.take 2) = 22342 ∨ ¬ num ((bs.drop 4).take 2) = L then 4 else if ¬ num (bs.drop (L - 4)) = crc 4294967295 (bs.take (L - 4)) then 5 else 0) = r) := by have := HR2.out; rw [if_neg h2] at this; exact this
      clear HR2
      obtain ⟨b, o, hva, hbl, -⟩ := HX.out.cells 0 (by rw [HLX.out]; omega)
      subst hva
      have hw4 : IntKind.i64.wrap ((L : Int) - 4) = ((L - 4 : Nat) : Int) := by rw [IntWalk.i64_in _ (by omega)]; omega
      go_wp2_with fail
      go_cut [3, 4] from 8 to 40 (fun p q wx => ∃ b1 b2, p = .pointer (some ⟨b1, 0, none⟩) ∧ q = .pointer (some ⟨b2, 0, none⟩) ∧ RB wx b1 (some ⟨b, o, none⟩) L cap ∧ RB wx b2 (some ⟨b, o + (L - 4), none⟩) 4 (cap - (L - 4)) ∧ ¬ b1 = b2 ∧ w.heap.size ≤ b1 ∧ w.heap.size ≤ b2 ∧ Below w.heap.size w wx)
      case first =>
        refine wp_region_held_drew (S := fun _ => True) (by kernel_rfl) trivial (fun hHeld => ?_)
        obtain ⟨wD, hwD⟩ : ∃ wD, w.drew = wD := ⟨_, rfl⟩
        have HDB : Hid (Below w.heap.size w wD) := by rw [← hwD]; exact drew_bel w
        have hsz : w.heap.size ≤ wD.heap.size := HDB.out.size
        rw [hwD]
        clear hwD
        refine wpAnyH_take (i := 0) (v := ?_) rfl (by kernel_rfl) (by kernel_rfl) (by kernel_rfl) (fun _ _ _ h => h) (Or.inl ⟨by rfl, ?_⟩) (by assumption) ?_
        case refine_2 => intro W hSw; go_simp; try rfl
        try simp only [Act.put, List.getElem_toArray, List.getElem_cons_zero, List.setIfInBounds_toArray, List.set_cons_zero, List.set_cons_succ]
        refine wpAnyH_take (i := 1) (v := ?_) rfl (by kernel_rfl) (by kernel_rfl) (by kernel_rfl) (fun _ _ _ h => h) (Or.inl ⟨by rfl, ?_⟩) (by assumption) ?_
        case refine_2 => intro W hSw; go_simp; try rfl
        try simp only [Act.put, List.getElem_toArray, List.getElem_cons_zero, List.getElem_cons_succ, List.setIfInBounds_toArray, List.set_cons_zero, List.set_cons_succ]
        refine wpAnyH_take (i := 2) (v := ?_) rfl (by kernel_rfl) (by kernel_rfl) (by kernel_rfl) (fun _ _ _ h => h) (Or.inl ⟨by rfl, ?_⟩) (by assumption) ?_
        case refine_2 => intro W hSw; go_simp; try rfl
        try simp only [Act.put, List.getElem_toArray, List.getElem_cons_zero, List.getElem_cons_succ, List.setIfInBounds_toArray, List.set_cons_zero, List.set_cons_succ]
        refine wpAnyH_take (i := 3) (v := ?_) rfl (by kernel_rfl) (by kernel_rfl) (by kernel_rfl) (fun _ _ _ h => h) (Or.inl ⟨by rfl, ?_⟩) (by assumption) ?_
        case refine_2 => intro W hSw; go_simp; try rfl
        try simp only [Act.put, List.getElem_toArray, List.getElem_cons_zero, List.getElem_cons_succ, List.setIfInBounds_toArray, List.set_cons_zero, List.set_cons_succ]
        refine wpAnyH_take (i := 4) (v := ?_) rfl (by kernel_rfl) (by kernel_rfl) (by kernel_rfl) (fun _ _ _ h => h) (Or.inl ⟨by rfl, ?_⟩) (by assumption) ?_
        case refine_2 => intro W hSw; go_simp; try rfl
        try simp only [Act.put, List.getElem_toArray, List.getElem_cons_zero, List.getElem_cons_succ, List.setIfInBounds_toArray, List.set_cons_zero, List.set_cons_succ]
        refine wpAnyH_take (i := 5) (v := ?_) rfl (by kernel_rfl) (by kernel_rfl) (by kernel_rfl) (fun _ _ _ h => h) (Or.inl ⟨by rfl, ?_⟩) (by assumption) ?_
        case refine_2 => intro W hSw; go_simp; try rfl
        try simp only [Act.put, List.getElem_toArray, List.getElem_cons_zero, List.getElem_cons_succ, List.setIfInBounds_toArray, List.set_cons_zero, List.set_cons_succ]
        refine wpAnyH_take (i := 6) (v := ?_) rfl (by kernel_rfl) (by kernel_rfl) (by kernel_rfl) (fun _ _ _ h => h) (Or.inl ⟨by rfl, ?_⟩) (by assumption) ?_
        case refine_2 => intro W hSw; go_simp; try rfl
        try simp only [Act.put, List.getElem_toArray, List.getElem_cons_zero, List.getElem_cons_succ, List.setIfInBounds_toArray, List.set_cons_zero, List.set_cons_succ]
        refine wpAnyH_take (i := 7) (v := ?_) rfl (by kernel_rfl) (by kernel_rfl) (by kernel_rfl) (fun _ _ _ h => h) (Or.inl ⟨by rfl, ?_⟩) (by assumption) ?_
        case refine_2 => intro W hSw; go_simp; try rfl
        try simp only [Act.put, List.getElem_toArray, List.getElem_cons_zero, List.getElem_cons_succ, List.setIfInBounds_toArray, List.set_cons_zero, List.set_cons_succ]
        refine wpAnyH_ready (rs := [8, 9]) (by kernel_rfl) (by simp) ?_
        refine AllReadyH.cons rfl (fun K hK => ?_) (AllReadyH.cons rfl (fun K hK => ?_) AllReadyH.nil)
        · go_simp
          refine hK.out _ _ trivial (fun hHeld => ?_)
          clear hK K
          try simp only [Act.put, List.getElem_toArray, List.getElem_cons_zero, List.getElem_cons_succ, List.setIfInBounds_toArray, List.set_cons_zero, List.set_cons_succ]
          refine wpAnyH_ready (rs := [9]) (by kernel_rfl) (by simp) ?_
          refine AllReadyH.cons rfl (fun K hK => ?_) AllReadyH.nil
          go_simp
          refine hK.out _ _ trivial (fun hHeld => ?_)
          clear hK K
          try simp only [Act.put, List.getElem_toArray, List.getElem_cons_zero, List.getElem_cons_succ, List.setIfInBounds_toArray, List.set_cons_zero, List.set_cons_succ]
          refine wpAnyH_ready (rs := [10]) (by kernel_rfl) (by simp) ?_
          refine AllReadyH.cons rfl (fun K hK => ?_) AllReadyH.nil
          go_simp
          refine hK.out _ _ trivial (fun hHeld => ?_)
          clear hK K
          try simp only [Act.put, List.getElem_toArray, List.getElem_cons_zero, List.getElem_cons_succ, List.setIfInBounds_toArray, List.set_cons_zero, List.set_cons_succ]
          refine wpAnyH_ready (rs := [11]) (by kernel_rfl) (by simp) ?_
          refine AllReadyH.cons rfl (fun K hK => ?_) AllReadyH.nil
          go_simp
          refine hK.out _ _ trivial (fun hHeld => ?_)
          clear hK K
          try simp only [Act.put, List.getElem_toArray, List.getElem_cons_zero, List.getElem_cons_succ, List.setIfInBounds_toArray, List.set_cons_zero, List.set_cons_succ]
          refine wpAnyH_done (by kernel_rfl) ?_ _
          go_wp2_with fail
          go_meet
          refine ⟨wD.heap.size, wD.heap.size + 1, rfl, rfl, ?_, ?_, by omega, by omega, by omega, ?_⟩
          · constructor <;> simp [go_sem]
          · constructor <;> simp [go_sem] <;> omega
          · exact (HDB.out.alloc (by omega) _).alloc (by simp; omega) _
        · go_simp
          refine hK.out _ _ trivial (fun hHeld => ?_)
          clear hK K
          try simp only [Act.put, List.getElem_toArray, List.getElem_cons_zero, List.getElem_cons_succ, List.setIfInBounds_toArray, List.set_cons_zero, List.set_cons_succ]
          refine wpAnyH_ready (rs := [8]) (by kernel_rfl) (by simp) ?_
          refine AllReadyH.cons rfl (fun K hK => ?_) AllReadyH.nil
          go_simp
          refine hK.out _ _ trivial (fun hHeld => ?_)
          clear hK K
          try simp only [Act.put, List.getElem_toArray, List.getElem_cons_zero, List.getElem_cons_succ, List.setIfInBounds_toArray, List.set_cons_zero, List.set_cons_succ]
          refine wpAnyH_ready (rs := [10]) (by kernel_rfl) (by simp) ?_
          refine AllReadyH.cons rfl (fun K hK => ?_) AllReadyH.nil
          go_simp
          refine hK.out _ _ trivial (fun hHeld => ?_)
          clear hK K
          try simp only [Act.put, List.getElem_toArray, List.getElem_cons_zero, List.getElem_cons_succ, List.setIfInBounds_toArray, List.set_cons_zero, List.set_cons_succ]
          refine wpAnyH_ready (rs := [11]) (by kernel_rfl) (by simp) ?_
          refine AllReadyH.cons rfl (fun K hK => ?_) AllReadyH.nil
          go_simp
          refine hK.out _ _ trivial (fun hHeld => ?_)
          clear hK K
          try simp only [Act.put, List.getElem_toArray, List.getElem_cons_zero, List.getElem_cons_succ, List.setIfInBounds_toArray, List.set_cons_zero, List.set_cons_succ]
          refine wpAnyH_done (by kernel_rfl) ?_ _
          go_wp2_with fail
          go_meet
          refine ⟨wD.heap.size + 1, wD.heap.size, rfl, rfl, ?_, ?_, by omega, by omega, by omega, ?_⟩
          · constructor <;> simp [go_sem]
          · constructor <;> simp [go_sem] <;> omega
          · exact (HDB.out.alloc (by omega) _).alloc (by simp; omega) _
      case rest =>
        obtain ⟨b1, b2, rfl, rfl, hb1, hb2, hne, hl1, hl2, hbw⟩ := hcut
        have HBW : Hid (Below w.heap.size w wc) := hbw
        have HBY : Hid (By wc (some ⟨b, o, none⟩) bs) := HX.out.bel hbw
        have HB2 : Hid (RB wc b2 (some ⟨b, o + (L - 4), none⟩) 4 (cap - (L - 4))) := hb2
        have HR0 : Hid (RI wc.heap.size b1 wc (bs, false) wc) := hb1.ri HLX.out hcap HBY.out (fun b' o' e => by cases e; exact ⟨by omega, Nat.lt_of_lt_of_le hbl hbw.size⟩) hb1.lt (Nat.le_refl _)
        obtain ⟨v1, hv1⟩ : ∃ v, num (bs.take 2) = v := ⟨_, rfl⟩
        obtain ⟨v3, hv3⟩ : ∃ v, num ((bs.drop 4).take 2) = v := ⟨_, rfl⟩
        obtain ⟨v2, hv2⟩ : ∃ v, num ((bs.drop 2).take 2) = v := ⟨_, rfl⟩
        rw [hv1, hv3] at HR3
        have hlen := HLX.out
        have E1 : Hid (((rdV 2 (bs, false) : Nat) : Int) = (v1 : Int)) := by show _ = _; rw [rdV_of (by show 2 ≤ bs.length; omega), ← hv1]
        have Q1 : Hid (rdR 2 (bs, false) = (bs.drop 2, false)) := rdR_of (by show 2 ≤ bs.length; omega)
        have E2 : Hid (((rdV 2 (bs.drop 2, false) : Nat) : Int) = (v2 : Int)) := by show _ = _; rw [rdV_of (by show 2 ≤ (bs.drop 2).length; rw [List.length_drop]; omega), ← hv2]
        have Q2 : Hid (rdR 2 (bs.drop 2, false) = (bs.drop 4, false)) := by
          show _ = _
          rw [rdR_of (by show 2 ≤ (bs.drop 2).length; rw [List.length_drop]; omega), List.drop_drop]
        have E3 : Hid (((rdV 2 (bs.drop 4, false) : Nat) : Int) = (v3 : Int)) := by show _ = _; rw [rdV_of (by show 2 ≤ (bs.drop 4).length; rw [List.length_drop]; omega), ← hv3]
        obtain ⟨v4, hv4⟩ : ∃ v, num (bs.drop (L - 4)) = v := ⟨_, rfl⟩
        obtain ⟨v5, hv5⟩ : ∃ v, crc 4294967295 (bs.take (L - 4)) = v := ⟨_, rfl⟩
        rw [hv4, hv5] at HR3
        have HV5 : Hid (((crc 4294967295 (bs.take (L - 4)) : Nat) : Int) = (v5 : Int)) := by rw [← hv5]; exact rfl
        have E4 : Hid (((rdV 4 (bs.drop (L - 4), false) : Nat) : Int) = (v4 : Int)) := by
          show _ = _
          have h4 : (bs.drop (L - 4)).length = 4 := by rw [List.length_drop, hlen]; omega
          rw [rdV_of (by show 4 ≤ (bs.drop (L - 4)).length; omega), List.take_of_length_le (by show (bs.drop (L - 4)).length ≤ 4; omega), ← hv4]
        clear hb1 hb2 hbw hv1 hv2 hv3 hv4 hv5
        go_wp2_with fail
        refine (HR0.out.numL 2 2 rfl (by decide) (by decide) v1 E1.out _ Q1.out).mono ?_
        rintro e w1 ⟨rfl, hi1, -⟩
        have HR1 : Hid (RI wc.heap.size b1 wc (bs.drop 2, false) w1) := hi1
        clear hi1
        go_wp2_with fail
        refine (HR1.out.numL 2 2 rfl (by decide) (by decide) v2 E2.out _ Q2.out).mono ?_
        rintro e w2 ⟨rfl, hi1, -⟩
        have HR2 : Hid (RI wc.heap.size b1 wc (bs.drop 4, false) w2) := hi1
        clear hi1
        go_wp2_with fail
        refine (HR2.out.numL 2 2 rfl (by decide) (by decide) v3 E3.out _ rfl).mono ?_
        rintro e w3 ⟨rfl, hi1, -⟩
        have hkr := hi1.kr
        have HB3 : Hid (RB w3 b2 (some ⟨b, o + (L - 4), none⟩) 4 (cap - (L - 4))) := HB2.out.blk (hkr.block b2 HB2.out.lt (fun e => hne e.symm)) hkr.str.size
        have HBY3 : Hid (By w3 (some ⟨b, o, none⟩) bs) := HBY.out.kr hkr (fun b' o' e => by cases e; omega)
        have HBW3 : Hid (Below w.heap.size w w3) := HBW.out.trans ⟨hkr.str.os, hkr.str.tape, hkr.str.output, hkr.str.size, fun k hk => hkr.block k (Nat.lt_of_lt_of_le hk HBW.out.size) (by omega)⟩
        clear hi1 hkr HB2 HBY HR0 HR1 HR2
        by_cases hm : v1 = 22342
        · subst hm
          by_cases hm2 : v3 = L
          · subst hm2
            have HR4 : Hid ((if ¬ v4 = v5 then 5 else 0) = r) := by have := HR3.out; rw [if_neg (by simp)] at this; exact this
            clear HR3
            go_wp2_with fail
            refine wp_region_held_drew (S := fun _ => True) (by kernel_rfl) trivial (fun hHeld => ?_)
            obtain ⟨wD, hwD⟩ : ∃ wD, w3.drew = wD := ⟨_, rfl⟩
            have hdb : Below w3.heap.size w3 wD := by rw [← hwD]; exact drew_bel w3
            have HBYD : Hid (By wD (some ⟨b, o, none⟩) bs) := HBY3.out.bel hdb
            have HBD : Hid (RB wD b2 (some ⟨b, o + (v3 - 4), none⟩) 4 (cap - (v3 - 4))) := HB3.out.blk (hdb.block b2 HB3.out.lt) hdb.size
            have HBWD : Hid (Below w.heap.size w wD) := HBW3.out.trans (hdb.mono HBW3.out.size)
            have HRD : Hid (RI wD.heap.size b2 wD (bs.drop (v3 - 4), false) wD) := HBD.out.ri (by rw [List.length_drop, HLX.out]; omega) (by omega) (HBYD.out.drop _ (Nat.lt_of_lt_of_le hbl HBWD.out.size)) (fun b' o' e => by cases e; exact ⟨by omega, Nat.lt_of_lt_of_le hbl HBWD.out.size⟩) HBD.out.lt (Nat.le_refl _)
            rw [hwD]
            clear hwD hdb HBY3 HB3
            have hc4 : v3 ≤ cap + 4 := by omega
            refine wpAnyH_take (i := 1) (v := ?_) rfl (by kernel_rfl) (by kernel_rfl) (by kernel_rfl) (fun _ _ _ h => h) (Or.inl ⟨by rfl, ?_⟩) (by assumption) ?_
            case refine_2 => intro W hSw; go_simp; try rfl
            try simp only [Act.put, List.getElem_toArray, List.getElem_cons_zero, List.getElem_cons_succ, List.setIfInBounds_toArray, List.set_cons_zero, List.set_cons_succ]
            refine wpAnyH_take (i := 2) (v := ?_) rfl (by kernel_rfl) (by kernel_rfl) (by kernel_rfl) (fun _ _ _ h => h) (Or.inl ⟨by rfl, ?_⟩) (by assumption) ?_
            case refine_2 => intro W hSw; go_simp; try rfl
            try simp only [Act.put, List.getElem_toArray, List.getElem_cons_zero, List.getElem_cons_succ, List.setIfInBounds_toArray, List.set_cons_zero, List.set_cons_succ]
            refine wpAnyH_take (i := 3) (v := ?_) rfl (by kernel_rfl) (by kernel_rfl) (by kernel_rfl) (fun _ _ _ h => h) (Or.inl ⟨by rfl, ?_⟩) (by assumption) ?_
            case refine_2 => intro W hSw; go_simp; try rfl
            try simp only [Act.put, List.getElem_toArray, List.getElem_cons_zero, List.getElem_cons_succ, List.setIfInBounds_toArray, List.set_cons_zero, List.set_cons_succ]
            refine wpAnyH_take (i := 4) (v := ?_) rfl (by kernel_rfl) (by kernel_rfl) (by kernel_rfl) (fun _ _ _ h => h) (Or.inl ⟨by rfl, ?_⟩) (by assumption) ?_
            case refine_2 => intro W hSw; go_simp; try rfl
            try simp only [Act.put, List.getElem_toArray, List.getElem_cons_zero, List.getElem_cons_succ, List.setIfInBounds_toArray, List.set_cons_zero, List.set_cons_succ]
            refine wpAnyH_take (i := 5) (v := ?_) rfl (by kernel_rfl) (by kernel_rfl) (by kernel_rfl) (fun _ _ _ h => h) (Or.inl ⟨by rfl, ?_⟩) (by assumption) ?_
            case refine_2 => intro W hSw; go_simp; try rfl
            try simp only [Act.put, List.getElem_toArray, List.getElem_cons_zero, List.getElem_cons_succ, List.setIfInBounds_toArray, List.set_cons_zero, List.set_cons_succ]
            refine wpAnyH_ready (rs := [0]) (by kernel_rfl) (by simp) ?_
            refine AllReadyH.cons rfl (fun K hK => ?_) AllReadyH.nil
            go_simp
            refine (HRD.out.numL 4 4 rfl (by decide) (by decide) v4 E4.out _ rfl).mono ?_
            rintro e w4 ⟨rfl, hi1, hk1⟩
            have HBY4 : Hid (By w4 (some ⟨b, o, none⟩) (bs.take (v3 - 4))) := (HBYD.out.kr hk1 (fun b' o' e => by cases e; omega)).take _
            have HBW4 : Hid (Below w.heap.size w w4) := HBWD.out.trans ⟨hk1.str.os, hk1.str.tape, hk1.str.output, hk1.str.size, fun k hk => hk1.block k (Nat.lt_of_lt_of_le hk HBWD.out.size) (by omega)⟩
            clear hi1 hk1
            go_wp2_with fail
            refine hK.out _ _ trivial (fun hHeld => ?_)
            clear hK K
            try simp only [Act.put, List.getElem_toArray, List.getElem_cons_zero, List.getElem_cons_succ, List.setIfInBounds_toArray, List.set_cons_zero, List.set_cons_succ]
            refine wpAnyH_ready (rs := [6]) (by kernel_rfl) (by simp) ?_
            refine AllReadyH.cons rfl (fun K hK => ?_) AllReadyH.nil
            go_simp
            refine (check_any (some ⟨b, o, none⟩) cap (bs.take (v3 - 4)) (v3 - 4) (by rw [List.length_take, HLX.out]; omega) w4 HBY4.out v5 HV5.out).mono ?_
            rintro e w5 ⟨rfl, hw5⟩
            rw [hw5]
            clear hw5 w5
            go_wp2_with fail
            refine hK.out _ _ trivial (fun hHeld => ?_)
            clear hK K
            try simp only [Act.put, List.getElem_toArray, List.getElem_cons_zero, List.getElem_cons_succ, List.setIfInBounds_toArray, List.set_cons_zero, List.set_cons_succ]
            refine wpAnyH_take (i := 7) (v := ?_) rfl (by kernel_rfl) (by kernel_rfl) (by kernel_rfl) (fun _ _ _ h => h) (Or.inl ⟨by rfl, ?_⟩) (by assumption) ?_
            case refine_2 => intro W hSw; go_simp; try rfl
            try simp only [Act.put, List.getElem_toArray, List.getElem_cons_zero, List.getElem_cons_succ, List.setIfInBounds_toArray, List.set_cons_zero, List.set_cons_succ]
            refine wpAnyH_done (by kernel_rfl) ?_ _
            by_cases h45 : v4 = v5
            · obtain rfl : r = 0 := by have := HR4.out; rw [if_neg (by simpa using h45)] at this; exact this.symm
              subst h45
              go_wp2_with fail
              go_ret
              exact ⟨rfl, HBW4.out⟩
            · obtain rfl : r = 5 := by have := HR4.out; rw [if_pos h45] at this; exact this.symm
              have h45' : ¬ (v4 : Int) = v5 := by omega
              go_wp2_with fail
              go_ret
              exact ⟨rfl, HBW4.out⟩
          · obtain rfl : r = 4 := by have := HR3.out; rw [if_pos (Or.inr hm2)] at this; exact this.symm
            have hm2' : ¬ (v3 : Int) = L := by omega
            go_wp2_with fail
            go_ret
            exact ⟨rfl, HBW3.out⟩
        · obtain rfl : r = 4 := by have := HR3.out; rw [if_pos (Or.inl hm)] at this; exact this.symm
          have hm' : ¬ (v1 : Int) = 22342 := by omega
          go_wp2_with fail
          go_ret
          exact ⟨rfl, HBW3.out⟩
end Go.Proofs.Ytagfdmkgnedlbae.Ls
