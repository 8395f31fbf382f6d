/- LsaBurst: what it answers. -/
import Derived.Test.YtagfdmkgnedlbaeLsZc
import Derived.Test.YtagfdmkgnedlbaeLsZe
import Derived.StillTailTactics
namespace Go.Proofs.Ytagfdmkgnedlbae.Ls
open Go.ChangeShapes Go.WideShapes Go.ChangeAt Go.RowKit Go.Joins Go.Proofs.Ytagfdmkgnedlbae.PM Go.Proofs.Ytagfdmkgnedlbae.Ask
set_option linter.unusedVariables false

theorem pow7 (R : Nat) : 2 ^ (7 - R) < 256 := Nat.lt_of_le_of_lt (Nat.pow_le_pow_right (n := 2) (by decide) (show 7 - R ≤ 7 by omega)) (by decide)
theorem xor_turn (c R : Nat) (hc : c < 256) : bits .xor .u8 (c : Int) (IntKind.u8.wrap (2 ^ (7 - R))) = ((c ^^^ 2 ^ (7 - R) : Nat) : Int) := by
  have h7 := pow7 R
  have e : ((2 : Int) ^ (7 - R)) = ((2 ^ (7 - R) : Nat) : Int) := by simp
  rw [e]
  obtain ⟨d, hd⟩ : ∃ d, 2 ^ (7 - R) = d := ⟨_, rfl⟩
  rw [hd] at h7 ⊢
  have hw : IntKind.u8.wrap (d : Int) = (d : Int) := by rw [IntKind.wrap_u8]; omega
  have hx : c ^^^ d < 256 := Nat.xor_lt_two_pow (n := 8) hc h7
  have hc' : c % 2 ^ IntKind.u8.bits = c := Nat.mod_eq_of_lt hc
  have hd' : d % 2 ^ IntKind.u8.bits = d := Nat.mod_eq_of_lt h7
  rw [hw]
  simp only [bits, BitVec.ofInt_natCast, BitVec.toNat_xor, BitVec.toNat_ofNat, hc', hd']
  rw [IntKind.wrap_u8]
  omega
set_option maxRecDepth 100000 in
set_option maxHeartbeats 16000000 in
theorem burst_any (kind frm area seen : Int) (va : Option Addr) (cap : Nat) (xs : List Lsa) (L : Nat) (hL : xs.length = L) (at_ pt : Int) (hpt0 : 0 ≤ pt) (hpt1 : pt < 4294967296) (w : World) (hx : LAll w va xs) :
    Calls Try.prog 7 #[pkV kind frm area seen va L cap, .int .i64 at_, .int .u32 pt] w fun e w' => e = .returned (.bool true) ∧ Below w.heap.size w w' := by
  have HX : Hid (LAll w va xs) := hx
  have HLX : Hid (xs.length = L) := hL
  obtain ⟨⟨es, er⟩, hE⟩ : ∃ y, encP ⟨kind, frm, area, seen, xs⟩ = y := ⟨_, rfl⟩
  obtain ⟨hs, hH, hHl⟩ := enc_hello 0 (by decide) (by decide)
  have HE : Hid (encP ⟨kind, frm, area, seen, xs⟩ = (es, er)) := hE
  have HH : Hid (encP ⟨1, 1, 0, 0, []⟩ = (hs, 0)) := hH
  have HHL : Hid (hs.length = 20) := hHl
  have HENC : Hid (∀ W, Below w.heap.size w W → Calls Try.prog 18 #[pkV kind frm area seen va L cap] W (EncPost W es er)) := fun W hW => encode_any kind frm area seen va cap xs L HLX.out W (HX.out.bel hW) es er HE.out
  have HHEL : Hid (∀ W, Calls Try.prog 18 #[pkV 1 1 0 0 none 0 0] W (EncPost W hs 0)) := fun W => encode_any 1 1 0 0 none 0 [] 0 rfl W ⟨by simp, fun i hi => by cases hi⟩ hs 0 HH.out
  clear hx hL hE hH hHl
  unfold pkV at HENC HHEL ⊢
  go_enter Try.func7, Try.ntmps7
  go_wp2_with fail
  obtain ⟨w0, hw0⟩ : ∃ w0, w.alloc (Obj.cells #[.int .i64 kind, .int .i64 frm, .int .i64 area, .int .i64 seen, .slice va L cap] 36) = w0 := ⟨_, rfl⟩
  obtain ⟨hz, -, hbz, hszz⟩ := pbox_new hw0
  obtain ⟨s, hs0⟩ : ∃ s, w.heap.size = s := ⟨_, rfl⟩
  rw [hs0] at hz hszz
  rw [hw0, hs0]
  have HB0 : Hid (Below w.heap.size w w0) := hbz
  have HP0 : Hid (PBox s kind frm area seen (.slice va L cap) w0) := hz
  clear hw0 hz hbz
  refine (HENC.out w0 HB0.out).mono ?_
  rintro e w1 ⟨v1, rfl, hown, hb1⟩
  obtain ⟨ve, le, ce, rfl⟩ := ownB_slice hown
  have HP1 : Hid (PBox s kind frm area seen (.slice va L cap) w1) := HP0.out.blk (hb1.block s (by omega))
  have HB1 : Hid (Below w.heap.size w w1) := HB0.out.trans (hb1.mono HB0.out.size)
  have HO1 : Hid (OwnB w0.heap.size w1 (.slice ve le ce) es) := hown
  have hs1 : s < w1.heap.size := by have := hb1.size; omega
  clear hown hb1 HP0 HB0
  by_cases her : er = 0
  · subst her
    obtain ⟨hdec, hlen, hl40⟩ := dec_enc HE.out (enc_fits HE.out HX.out)
    have HDEC : Hid (decP es = (⟨kind, frm, area, seen, xs⟩, 0)) := hdec
    have hby := HO1.out.by (enc_u8 HE.out)
    have hl20 : 20 ≤ es.length := (frame_len (dec_frame hdec)).1
    have hle : 20 ≤ le ∧ le ≤ 4096 := by rw [← hby.2.1]; exact ⟨hl20, hl40⟩
    obtain ⟨b, o, hva, hbl, -⟩ := hby.1.cells 0 (by omega)
    have hvb : w0.heap.size ≤ b := hby.2.2.2 b o hva
    have HFZ : Hid (∀ i, w1.frozen? ⟨b, i, none⟩ = false) := by
      rcases HO1.out.row.2 with ⟨h1, -⟩ | ⟨g, c, cur, hv, -, hb, -⟩
      · cases h1; cases hva
      · cases hv
        cases hva
        intro i
        simp [World.frozen?, hb]
    subst hva
    have HBY : Hid (By w1 (some ⟨b, o, none⟩) es) := hby.1
    have HEL : Hid (es.length = le) := hby.2.1
    have hlc : le ≤ ce := hby.2.2.1
    clear hby hdec hlen hl40 hl20
    have hl20' : ¬ (le : Int) < 20 := by omega
    go_wp2_with fail
    obtain ⟨F, hF, hFl⟩ : ∃ F : Nat, wrap64 ((IntKind.u64.wrap at_).tmod (8 * (le : Int))) = (F : Int) ∧ F < 8 * le := by
      have h0 : 0 ≤ IntKind.u64.wrap at_ := by rw [IntKind.wrap_u64]; omega
      have h1 : (IntKind.u64.wrap at_).tmod (8 * (le : Int)) = IntKind.u64.wrap at_ % (8 * (le : Int)) := Int.tmod_eq_emod_of_nonneg h0
      have h2 := Int.emod_nonneg (IntKind.u64.wrap at_) (show (8 * (le : Int)) ≠ 0 by omega)
      have h3 := Int.emod_lt_of_pos (IntKind.u64.wrap at_) (show 0 < (8 * (le : Int)) by omega)
      refine ⟨(IntKind.u64.wrap at_ % (8 * (le : Int))).toNat, ?_, by omega⟩
      rw [h1]
      unfold wrap64
      omega
    rw [hF]
    clear hF
    go_loopw [12, 13] (fun tv kv wr => ∃ (k : Nat) (t : Bool) (cs : List Nat), k ≤ 32 ∧ kv = .int .i64 k ∧ tv = .bool t ∧ Tn es F k t cs ∧ By wr (some ⟨b, o, none⟩) cs ∧ (∀ i, wr.frozen? ⟨b, i, none⟩ = false) ∧ PBox s kind frm area seen (.slice va L cap) wr ∧ Below w.heap.size w wr ∧ w1.heap.size ≤ wr.heap.size) (fun _ i _ => 32 - (intOf i).toNat)
    case atStart => exact ⟨0, false, es, by omega, rfl, rfl, Tn.start (enc_u8 HE.out) F, HBY.out, HFZ.out, HP1.out, HB1.out, Nat.le_refl _⟩
    case round =>
      obtain ⟨k, t, cs, hk, rfl, rfl, htn, hcb, hcf, hpb, hbw, hsw⟩ := hrel
      have HTN : Hid (Tn es F k t cs) := htn
      have HCB : Hid (By wr (some ⟨b, o, none⟩) cs) := hcb
      have HCF : Hid (∀ i, wr.frozen? ⟨b, i, none⟩ = false) := hcf
      have HPB : Hid (PBox s kind frm area seen (.slice va L cap) wr) := hpb
      have HBW : Hid (Below w.heap.size w wr) := hbw
      have hcl : cs.length = le := by rw [htn.len]; exact HEL.out
      clear htn hcb hcf hpb hbw
      by_cases hgo : k < 32 ∧ F + k < 8 * le
      · obtain ⟨hk32, hfk⟩ := hgo
        have k1 : (k : Int) < 32 := by omega
        have k0 : (0 : Int) ≤ k := by omega
        have k2 : (F : Int) + k < 8 * le := by omega
        have hw1 : IntKind.i64.wrap ((F : Int) + k) = ((F + k : Nat) : Int) := by rw [IntWalk.i64_in _ (by omega)]; omega
        obtain ⟨J, hJ⟩ : ∃ J, F + k = J := ⟨_, rfl⟩
        rw [hJ] at hw1 hfk
        have hq : ((J : Int)).tdiv 8 = ((J / 8 : Nat) : Int) := by rw [Int.tdiv_eq_ediv_of_nonneg (by omega)]; omega
        have hm : ((J : Int)).tmod 8 = ((J % 8 : Nat) : Int) := by rw [Int.tmod_eq_emod_of_nonneg (by omega)]; omega
        have hq1 : ((J / 8 : Nat) : Int) < le := by omega
        have hq2 : J / 8 < cs.length := by omega
        obtain ⟨Q, hQ⟩ : ∃ Q, J / 8 = Q := ⟨_, rfl⟩
        obtain ⟨R, hR⟩ : ∃ R, J % 8 = R := ⟨_, rfl⟩
        have hR8 : R < 8 := by omega
        rw [hQ] at hq hq1 hq2
        rw [hR] at hm
        have hq0 : (0 : Int) ≤ (Q : Int) := by omega
        obtain ⟨b1, o1, e1, hbl1, c6⟩ := HCB.out.cells Q hq2
        cases e1
        obtain ⟨c, hc⟩ : ∃ c, cs[Q] = c := ⟨_, rfl⟩
        have hc8 : c < 256 := by rw [← hc]; exact HCB.out.u8 _ (List.getElem_mem hq2)
        rw [hc] at c6
        have hfz := HCF.out (o + Q)
        have hwQ : IntKind.i64.wrap (Q : Int) = Q := by rw [IntWalk.i64_in _ (by omega)]
        have hwR : IntKind.i64.wrap (R : Int) = R := by rw [IntWalk.i64_in _ (by omega)]
        have hw7 : IntKind.i64.wrap (7 - (R : Int)) = ((7 - R : Nat) : Int) := by rw [IntWalk.i64_in _ (by omega)]; omega
        have HXV : Hid (bits .xor .u8 (c : Int) (IntKind.u8.wrap (2 ^ (7 - R))) = ((c ^^^ 2 ^ (7 - R) : Nat) : Int)) := xor_turn c R hc8
        have HX8 : Hid (c ^^^ 2 ^ (7 - R) < 256) := Nat.xor_lt_two_pow (n := 8) hc8 (pow7 R)
        have HFL : Hid (fl cs J = cs.set Q (c ^^^ 2 ^ (7 - R))) := by
          show _ = _
          unfold fl
          rw [hQ, hR, List.getD_eq_getElem?_getD, List.getElem?_eq_getElem hq2, hc]
          rfl
        clear hc
        go_wp2_with fail
        · refine wp_region_held_drew (S := fun _ => True) (by kernel_rfl) trivial (fun hHeld => ?_)
          obtain ⟨wD, hwD⟩ : ∃ wD, wr.drew = wD := ⟨_, rfl⟩
          have d6 : wD.cell? ⟨b, o + Q, none⟩ = some (.int .u8 (c : Int)) := by rw [← hwD]; exact c6
          have dz : wD.frozen? ⟨b, o + Q, none⟩ = false := by rw [← hwD]; exact hfz
          rw [hwD]
          refine wpAnyH_take (i := 0) (v := ?_) rfl (by kernel_rfl) (by kernel_rfl) (by kernel_rfl) (fun _ _ _ h => h) (Or.inl ⟨by rfl, ?_⟩) (by assumption) ?_
          case refine_2 => intro W hSw; go_simp; try rfl
          try simp only [Act.put, List.getElem_toArray, List.getElem_cons_zero, List.setIfInBounds_toArray, List.set_cons_zero, List.set_cons_succ]
          refine wpAnyH_take (i := 1) (v := ?_) rfl (by kernel_rfl) (by kernel_rfl) (by kernel_rfl) (fun _ _ _ h => h) (Or.inl ⟨by rfl, ?_⟩) (by assumption) ?_
          case refine_2 => intro W hSw; go_simp; try rfl
          try simp only [Act.put, List.getElem_toArray, List.getElem_cons_zero, List.getElem_cons_succ, List.setIfInBounds_toArray, List.set_cons_zero, List.set_cons_succ]
          refine wpAnyH_take (i := 2) (v := ?_) rfl (by kernel_rfl) (by kernel_rfl) (by kernel_rfl) (fun _ _ _ h => h) (Or.inl ⟨by rfl, ?_⟩) (by assumption) ?_
          case refine_2 => intro W hSw; go_simp; try rfl
          try simp only [Act.put, List.getElem_toArray, List.getElem_cons_zero, List.getElem_cons_succ, List.setIfInBounds_toArray, List.set_cons_zero, List.set_cons_succ]
          refine wpAnyH_take (i := 3) (v := ?_) rfl (by kernel_rfl) (by kernel_rfl) (by kernel_rfl) (fun _ _ _ h => h) (Or.inl ⟨by rfl, ?_⟩) (by assumption) ?_
          case refine_2 => intro W hSw; go_simp; try rfl
          try simp only [Act.put, List.getElem_toArray, List.getElem_cons_zero, List.getElem_cons_succ, List.setIfInBounds_toArray, List.set_cons_zero, List.set_cons_succ]
          refine wpAnyH_take (i := 4) (v := ?_) rfl (by kernel_rfl) (by kernel_rfl) (by kernel_rfl) (fun _ _ _ h => h) (Or.inl ⟨by rfl, ?_⟩) (by assumption) ?_
          case refine_2 => intro W hSw; go_simp; try rfl
          try simp only [Act.put, List.getElem_toArray, List.getElem_cons_zero, List.getElem_cons_succ, List.setIfInBounds_toArray, List.set_cons_zero, List.set_cons_succ]
          refine wpAnyH_take (i := 5) (v := ?_) rfl (by kernel_rfl) (by kernel_rfl) (by kernel_rfl) (fun _ _ _ h => h) (Or.inl ⟨by rfl, ?_⟩) (by assumption) ?_
          case refine_2 => intro W hSw; go_simp; try rfl
          try simp only [Act.put, List.getElem_toArray, List.getElem_cons_zero, List.getElem_cons_succ, List.setIfInBounds_toArray, List.set_cons_zero, List.set_cons_succ]
          refine wpAnyH_take (i := 7) (v := ?_) rfl (by kernel_rfl) (by kernel_rfl) (by kernel_rfl) (fun _ _ _ h => h) (Or.inl ⟨by rfl, ?_⟩) (by assumption) ?_
          case refine_2 => intro W hSw; go_simp; try rfl
          try simp only [Act.put, List.getElem_toArray, List.getElem_cons_zero, List.getElem_cons_succ, List.setIfInBounds_toArray, List.set_cons_zero, List.set_cons_succ]
          refine wpAnyH_take (i := 8) (v := ?_) rfl (by kernel_rfl) (by kernel_rfl) (by kernel_rfl) (fun _ _ _ h => h) (Or.inl ⟨by rfl, ?_⟩) (by assumption) ?_
          case refine_2 => intro W hSw; go_simp; try rfl
          try simp only [Act.put, List.getElem_toArray, List.getElem_cons_zero, List.getElem_cons_succ, List.setIfInBounds_toArray, List.set_cons_zero, List.set_cons_succ]
          refine wpAnyH_take (i := 9) (v := ?_) rfl (by kernel_rfl) (by kernel_rfl) (by kernel_rfl) (fun _ _ _ h => h) (Or.inl ⟨by rfl, ?_⟩) (by assumption) ?_
          case refine_2 => intro W hSw; go_simp; try rfl
          try simp only [Act.put, List.getElem_toArray, List.getElem_cons_zero, List.getElem_cons_succ, List.setIfInBounds_toArray, List.set_cons_zero, List.set_cons_succ]
          refine wpAnyH_take (i := 10) (v := ?_) rfl (by kernel_rfl) (by kernel_rfl) (by kernel_rfl) (fun _ _ _ h => h) (Or.inl ⟨by rfl, ?_⟩) (by assumption) ?_
          case refine_2 => intro W hSw; go_simp; try rfl
          try simp only [Act.put, List.getElem_toArray, List.getElem_cons_zero, List.getElem_cons_succ, List.setIfInBounds_toArray, List.set_cons_zero, List.set_cons_succ]
          refine wpAnyH_take (i := 11) (v := ?_) rfl (by kernel_rfl) (by kernel_rfl) (by kernel_rfl) (fun _ _ _ h => h) (Or.inl ⟨by rfl, ?_⟩) (by assumption) ?_
          case refine_2 => intro W hSw; go_simp; try rfl
          try simp only [Act.put, List.getElem_toArray, List.getElem_cons_zero, List.getElem_cons_succ, List.setIfInBounds_toArray, List.set_cons_zero, List.set_cons_succ]
          refine wpAnyH_take (i := 12) (v := ?_) rfl (by kernel_rfl) (by kernel_rfl) (by kernel_rfl) (fun _ _ _ h => h) (Or.inl ⟨by rfl, ?_⟩) (by assumption) ?_
          case refine_2 => intro W hSw; go_simp; try rfl
          try simp only [Act.put, List.getElem_toArray, List.getElem_cons_zero, List.getElem_cons_succ, List.setIfInBounds_toArray, List.set_cons_zero, List.set_cons_succ]
          refine wpAnyH_ready (rs := [6]) (by kernel_rfl) (by simp) ?_
          refine AllReadyH.cons rfl (fun K hK => ?_) AllReadyH.nil
          go_simp
          refine hK.out _ _ trivial (fun hHeld => ?_)
          clear hK K
          try simp only [Act.put, List.getElem_toArray, List.getElem_cons_zero, List.getElem_cons_succ, List.setIfInBounds_toArray, List.set_cons_zero, List.set_cons_succ]
          refine wpAnyH_take (i := 13) (v := ?_) rfl (by kernel_rfl) (by kernel_rfl) (by kernel_rfl) (fun _ _ _ h => h) (Or.inl ⟨by rfl, ?_⟩) (by assumption) ?_
          case refine_2 => intro W hSw; go_simp; try rfl
          try simp only [Act.put, List.getElem_toArray, List.getElem_cons_zero, List.getElem_cons_succ, List.setIfInBounds_toArray, List.set_cons_zero, List.set_cons_succ]
          refine wpAnyH_take (i := 14) (v := ?_) rfl (by kernel_rfl) (by kernel_rfl) (by kernel_rfl) (fun _ _ _ h => h) (Or.inl ⟨by rfl, ?_⟩) (by assumption) ?_
          case refine_2 => intro W hSw; go_simp; try rfl
          try simp only [Act.put, List.getElem_toArray, List.getElem_cons_zero, List.getElem_cons_succ, List.setIfInBounds_toArray, List.set_cons_zero, List.set_cons_succ]
          refine wpAnyH_ready (rs := [15]) (by kernel_rfl) (by simp) ?_
          refine AllReadyH.cons rfl (fun K hK => ?_) AllReadyH.nil
          go_simp
          rw [HXV.out]
          refine hK.out _ _ trivial (fun hHeld => ?_)
          clear hK K
          try simp only [Act.put, List.getElem_toArray, List.getElem_cons_zero, List.getElem_cons_succ, List.setIfInBounds_toArray, List.set_cons_zero, List.set_cons_succ]
          refine wpAnyH_done (by kernel_rfl) ?_ _
          have n1 : By (wD.setCell ⟨b, o + Q, none⟩ (.int .u8 ((c ^^^ 2 ^ (7 - R) : Nat) : Int))) (some ⟨b, o, none⟩) (fl cs J) := by
            rw [HFL.out]
            exact By.set (by rw [← hwD]; exact HCB.out.bel (drew_bel wr)) hq2 HX8.out
          have n2 : ∀ i, (wD.setCell ⟨b, o + Q, none⟩ (.int .u8 ((c ^^^ 2 ^ (7 - R) : Nat) : Int))).frozen? ⟨b, i, none⟩ = false := fun i => by rw [World.frozen?_setCell, ← hwD]; exact HCF.out i
          have n3 : PBox s kind frm area seen (.slice va L cap) (wD.setCell ⟨b, o + Q, none⟩ (.int .u8 ((c ^^^ 2 ^ (7 - R) : Nat) : Int))) := HPB.out.blk ((Below.heap_setCell wD ⟨b, o + Q, none⟩ _ s (by show s ≠ b; omega)).trans (by rw [← hwD]; rfl))
          have n4 : Below w.heap.size w (wD.setCell ⟨b, o + Q, none⟩ (.int .u8 ((c ^^^ 2 ^ (7 - R) : Nat) : Int))) := by
            rw [← hwD]
            exact (HBW.out.trans ((drew_bel wr).mono HBW.out.size)).setCell (p := ⟨b, o + Q, none⟩) (by show _ ≤ b; omega) _
          have n5 : w1.heap.size ≤ (wD.setCell ⟨b, o + Q, none⟩ (.int .u8 ((c ^^^ 2 ^ (7 - R) : Nat) : Int))).heap.size := by rw [← hwD]; simpa using hsw
          have n6 : Tn es F (k + 1) true (fl cs J) := by rw [← hJ]; exact HTN.out.turn (by rw [HEL.out]; omega)
          clear d6 dz c6 hfz
          go_wp2_with fail
          exact ⟨⟨k + 1, true, fl cs J, by omega, by simp, rfl, n6, n1, n2, n3, n4, n5⟩, by simp [intOf]; omega⟩
        · exact ⟨⟨k + 1, t, cs, by omega, by simp, rfl, HTN.out.pass, HCB.out, HCF.out, HPB.out, HBW.out, hsw⟩, by simp [intOf]; omega⟩
      · have hstop : (¬ (k : Int) < 32) ∨ ((k : Int) < 32 ∧ ¬ (F : Int) + k < 8 * le) := by omega
        have k0 : (0 : Int) ≤ k := by omega
        have hw1 : IntKind.i64.wrap ((F : Int) + k) = (F : Int) + k := by rw [IntWalk.i64_in _ (by omega)]
        have HDC : Hid (∃ q f, decP cs = (q, f) ∧ (t = true → (f != 0) = true) ∧ (t = false → q = ⟨kind, frm, area, seen, xs⟩ ∧ f = 0)) := by
          cases t with
          | true =>
            have h1 := HTN.out.refused hk (enc_u8 HE.out) (dec_frame HDEC.out)
            refine ⟨noPk, frameE cs, ?_, fun _ => by simpa using h1, fun e => by cases e⟩
            unfold decP
            rw [if_neg h1]
          | false =>
            have h1 := HTN.out.no rfl
            subst h1
            exact ⟨_, 0, HDEC.out, (fun e => by cases e), fun _ => ⟨rfl, rfl⟩⟩
        obtain ⟨q, f, hd, hyes, hno⟩ := HDC.out
        have HDQ := decode_any (some ⟨b, o, none⟩) ce cs le hcl hlc wr HCB.out q f hd
        have HYES : Hid (t = true → (f != 0) = true) := hyes
        have HNO : Hid (t = false → q = ⟨kind, frm, area, seen, xs⟩ ∧ f = 0) := hno
        clear hd hyes hno HDC HTN
        rcases hstop with hst | ⟨hst, hst2⟩
        all_goals
          go_wp2_with fail
          refine HDQ.mono ?_
          rintro e x5 ⟨vq, cq, ys, rfl, hmap, hdo, hb5⟩
          have hal := hdo.all (by rw [← hmap, List.length_map])
          rw [hmap] at hal
          have HAL : Hid (LAll x5 vq q.xs) := hal
          have HBx : Hid (Below w.heap.size w x5) := HBW.out.trans (hb5.mono HBW.out.size)
          have HPx : Hid (PBox s kind frm area seen (.slice va L cap) x5) := HPB.out.blk (hb5.block s (by omega))
          clear hal hmap hdo
          unfold pkV
          cases t with
          | true =>
            have hf1 := HYES.out rfl
            have HBa : Hid (Below w.heap.size w (x5.alloc (Obj.cells #[.int .i64 q.kind, .int .i64 q.frm, .int .i64 q.area, .int .i64 q.seen, .slice vq q.xs.length cq] 36))) := HBx.out.alloc HBx.out.size _
            clear HDQ
            go_wp2_with fail
            go_ret
            exact ⟨rfl, HBa.out⟩
          | false =>
            obtain ⟨hq1, hf0⟩ := HNO.out rfl
            subst hq1 hf0
            dsimp only at HAL ⊢
            rw [HLX.out]
            have hs5 : s < x5.heap.size := by have := hb5.size; omega
            clear HDQ
            go_upto_region 17 with fail
            obtain ⟨x6, hx6⟩ : ∃ w3, x5.alloc (Obj.cells #[.int .i64 kind, .int .i64 frm, .int .i64 area, .int .i64 seen, .slice vq L cq] 36) = w3 := ⟨_, rfl⟩
            obtain ⟨hz, -, hbz, hsz3⟩ := pbox_new hx6
            obtain ⟨s7, hs7⟩ : ∃ s, x5.heap.size = s := ⟨_, rfl⟩
            rw [hs7] at hz
            rw [hx6, hs7]
            have HPS := psame_any kind frm area seen va cap vq cq xs L HLX.out x6 (HX.out.bel (HBx.out.trans (hbz.mono HBx.out.size))) (HAL.out.bel hbz)
            unfold pkV at HPS
            obtain ⟨c0, c1, c2, c3, c4⟩ := HPx.out.blk (hbz.block s hs5)
            obtain ⟨d0, d1, d2, d3, d4⟩ := hz
            have HB6 : Hid (Below w.heap.size w x6) := HBx.out.trans (hbz.mono HBx.out.size)
            clear hx6 hbz HAL HBx HPx
            go_wp2_with fail
            refine HPS.mono ?_
            rintro e x7 ⟨rfl, hb7⟩
            have HB7 : Hid (Below w.heap.size w x7) := HB6.out.trans (hb7.mono HB6.out.size)
            clear c0 c1 c2 c3 c4 d0 d1 d2 d3 d4 hb7 HPS HB6
            go_wp2_with fail
            go_ret
            exact ⟨rfl, HB7.out⟩
  · have her2 : (er == 0) = false := by simpa using her
    have her3 : (er != 0) = true := by simpa using her
    go_wp2_with fail
    refine (HHEL.out w1).mono ?_
    rintro e x8 ⟨v8, rfl, hown, hb8⟩
    obtain ⟨vh, lh, ch, rfl⟩ := ownB_slice hown
    have hh := (hown.by (enc_u8 HH.out)).2.1
    rw [HHL.out] at hh
    subst hh
    have HBF : Hid (Below w.heap.size w x8) := HB1.out.trans (hb8.mono HB1.out.size)
    clear hown hb8
    go_wp2_with fail
    go_ret
    exact ⟨rfl, HBF.out⟩
end Go.Proofs.Ytagfdmkgnedlbae.Ls
