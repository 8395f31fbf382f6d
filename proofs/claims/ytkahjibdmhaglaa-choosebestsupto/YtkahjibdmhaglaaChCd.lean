/- The document's ChooseBest, ChooseOrder, ChooseEven. -/
import Derived.Test.YtkahjibdmhaglaaChCc
namespace Go.Proofs.Ytkahjibdmhaglaa.Ch
open Go.ChangeShapes Go.WideShapes Go.ChangeAt Go.RowKit Go.Joins Go.Deep Go.Proofs.Ytkahjibdmhaglaa.Ge
set_option linter.unusedVariables false
set_option linter.unusedSimpArgs false

theorem ofs_nx {w W : World} {la : Option Addr} {xs : List (Of × Oa)} (h : Ofs w.heap.size w la xs) (hb : Below w.heap.size w W) : Ofs W.heap.size W la xs := (h.bel hb).mono hb.size
theorem B1.lst {w W : World} {n g : Nat} {F : Nat → Bool} (h : B1 w n g F W) : Lst EB W (some ⟨g, 0, none⟩) (bl n F) := h.own.lst.1
set_option maxRecDepth 100000 in
set_option maxHeartbeats 8000000 in
theorem rbest_any (la : Option Addr) (n lc : Nat) (xs : List (Of × Oa)) (hxn : xs.length = n) (hn : n ≤ 1000) (w : World) (hx : Ofs w.heap.size w la xs) (z : Int) (hz : bsI (bsP (atO xs) (rchP (atO xs) n)) = z) : Calls Try.prog 10 #[.slice la n lc] w (BoPost w w.heap.size z) := by
  have HX : Hid (Ofs w.heap.size w la xs) := hx
  have HN : Hid (xs.length = n) := hxn
  have HZ : Hid (bsI (bsP (atO xs) (rchP (atO xs) n)) = z) := hz
  obtain ⟨i0, hi, hz0, hz1, hz2⟩ := info_of EB.hi
  clear hx hxn hz
  go_enter Try.func10, Try.ntmps10
  go_wp2_with (at_make; refine wpList_make_full _ rfl _ _ 53 rfl w.heap.size 4 i0 _ 1 Try.underlying53 hi hz0 hz1 _ _ _ _ n rfl rfl rfl rfl (by rw [hz2]; show 1 * n ≤ _; omega) (by unfold maxLen; omega) (Nat.le_refl _) ?_)
  intro w1 hrow hgr
  rw [eb_rep] at hrow
  have HB0 : Hid (B1 w n w.heap.size (fun _ => false) w1) := (B1.made (Below.refl _ _) hn hrow hgr).1
  obtain ⟨g1, hg1⟩ : ∃ y, w.heap.size = y := ⟨_, rfl⟩
  have HB1 : Hid (B1 w n g1 (fun _ => false) w1) := by rw [← hg1]; exact HB0.out
  rw [hg1]
  clear hrow hgr hi hz0 hz1 hz2 HB0 hg1
  have hL := rleft_any 11 9 (.inr ⟨rfl, rfl⟩) la n lc xs HN.out hn (some ⟨g1, 0, none⟩) n (fun _ => false) w1 (ofs_nx HX.out HB1.out.bel) HB1.out.lst
  rw [show ((11 : Nat) : Int) = 11 from rfl, ps_none] at hL
  go_wp2_with fail
  refine hL.mono ?_
  rintro e w2 ⟨g2, rfl, hb2⟩
  have HB2 : Hid (Lst EB w2 (some ⟨g2, 0, none⟩) (bl n (lfF (atO xs) (rchP (atO xs) n) 11)) ∧ Below w.heap.size w w2) := ⟨hb2.lst, HB1.out.bel.trans (hb2.bel.mono HB1.out.bel.size)⟩
  clear hb2 hL HB1
  go_wp2_with fail
  refine (rfirst_any (some ⟨g2, 0, none⟩) n n (lfF (atO xs) (rchP (atO xs) n) 11) w2 HB2.out.1).mono ?_
  rintro e w3 ⟨rfl, rfl⟩
  have HE : Hid (bsI (firstP (lfF (atO xs) (rchP (atO xs) n) 11) n) = z) := by
    show _ = _
    rw [first_best (ps := rchP (atO xs) n) (by rw [← ps_none]; exact ps_pw _ _ _) (rch_in _ _)]
    exact HZ.out
  rw [HE.out]
  go_wp2_with fail
  go_ret
  exact ⟨rfl, HB2.out.2⟩
structure OrJ (w : World) (W1 : World) (n g4 : Nat) (ps : List Nat) (iv lv : Value) (W : World) : Prop where
  at_ : ∃ k : Nat, k ≤ n ∧ k ≤ ps.length ∧ iv = .int .i64 (k : Int) ∧ OwnL EN W1.heap.size W lv (ps.take k) ∧ B1 w n g4 (inF (ps.take k)) W
  bel : W1.heap.size ≤ W.heap.size
theorem take_in {ps : List Nat} {k j : Nat} (h : k < ps.length) : inF (ps.take (k + 1)) j = if j = ps[k] then true else inF (ps.take k) j := by
  have e1 : ps.take (k + 1) = ps.take k ++ [ps[k]] := (List.take_append_getElem h).symm
  unfold inF
  rw [e1]
  by_cases e : j = ps[k]
  · rw [if_pos e, e]
    exact decide_eq_true (List.mem_append_right _ (List.mem_singleton.2 rfl))
  · rw [if_neg e, Bool.eq_iff_iff, decide_eq_true_iff, decide_eq_true_iff, List.mem_append, List.mem_singleton]
    exact ⟨fun c => c.elim id (fun c => absurd c e), .inl⟩
set_option maxRecDepth 100000 in
set_option maxHeartbeats 16000000 in
theorem rorder_any (la : Option Addr) (n lc : Nat) (xs : List (Of × Oa)) (hxn : xs.length = n) (hn : n ≤ 1000) (w : World) (hx : Ofs w.heap.size w la xs) (ps : List Nat) (hpn : ps.length ≤ n) (hin : InN ps n) (hk : ∀ k (hk : k < ps.length), bsP (atO xs) (psP (atO xs) n (inF (ps.take k))) = some ps[k]) (hne : bsP (atO xs) (psP (atO xs) n (inF ps)) = none) : Calls Try.prog 12 #[.slice la n lc] w (RcPost w ps) := by
  have HX : Hid (Ofs w.heap.size w la xs) := hx
  have HN : Hid (xs.length = n) := hxn
  have HPN : Hid (ps.length ≤ n) := hpn
  have HIN : Hid (InN ps n) := hin
  have HK : Hid (∀ k (hk : k < ps.length), bsP (atO xs) (psP (atO xs) n (inF (ps.take k))) = some ps[k]) := hk
  have HNE : Hid (bsP (atO xs) (psP (atO xs) n (inF ps)) = none) := hne
  obtain ⟨i0, hi, hz0, hz1, hz2⟩ := info_of EB.hi
  clear hx hxn hpn hin hk hne
  go_enter Try.func12, Try.ntmps12
  go_wp2_with (at_make; refine wpList_make_full _ rfl _ _ 53 rfl w.heap.size 4 i0 _ 1 Try.underlying53 hi hz0 hz1 _ _ _ _ n rfl rfl rfl rfl (by rw [hz2]; show 1 * n ≤ _; omega) (by unfold maxLen; omega) (Nat.le_refl _) ?_)
  intro w1 hrow hgr
  rw [eb_rep] at hrow
  have HB1 : Hid (B1 w n w.heap.size (fun _ => false) w1) := (B1.made (Below.refl _ _) hn hrow hgr).1
  obtain ⟨g1, hg1⟩ : ∃ y, w.heap.size = y := ⟨_, rfl⟩
  have HG1 : Hid (B1 w n g1 (fun _ => false) w1 ∧ g1 < w1.heap.size) := by rw [← hg1]; exact ⟨HB1.out, HB1.out.lt.1⟩
  rw [hg1]
  clear hrow hgr hi hz0 hz1 hz2 HB1 hg1
  go_wp2_with fail
  go_loopw [12, 3, 5, 6] (fun iv lv _ _ wr => OrJ w w1 n g1 ps iv lv wr) (fun i _ _ _ _ => n - (intOf i).toNat)
  case atStart => exact ⟨⟨0, by omega, by omega, rfl, OwnL.nil _ _ _, HG1.out.1.congr (fun j hj => by simp [inF])⟩, Nat.le_refl _⟩
  case round =>
    obtain ⟨⟨k, hk1, hk2, rfl, ho, hb⟩, hsz⟩ := hrel
    obtain ⟨wz, hwz⟩ : ∃ y, wr = y := ⟨_, rfl⟩
    rw [hwz] at ho hb hsz ⊢
    have HB : Hid (B1 w n g1 (inF (ps.take k)) wz) := hb
    have HO : Hid (OwnL EN w1.heap.size wz u3 (ps.take k)) := ho
    have HSZ : Hid (w1.heap.size ≤ wz.heap.size) := hsz
    clear ho hb hsz hwz
    by_cases hlt : k < n
    case neg =>
      have hii : ¬ (k : Int) < (n : Int) := by omega
      have HE : Hid (RcPost w ps (.returned u3) wz) := by
        have h5 := HO.out
        rw [List.take_of_length_le (by have := HPN.out; omega)] at h5
        exact ⟨_, rfl, h5.mono HG1.out.1.bel.size, HB.out.bel⟩
      go_wp2_with fail
      go_ret
      exact HE.out
    have hii : (k : Int) < (n : Int) := by omega
    have ii0 : (0 : Int) ≤ (k : Int) := by omega
    have hL := rleft_any 11 9 (.inr ⟨rfl, rfl⟩) la n lc xs HN.out hn (some ⟨g1, 0, none⟩) n (inF (ps.take k)) wz (ofs_nx HX.out HB.out.bel) HB.out.lst
    rw [show ((11 : Nat) : Int) = 11 from rfl] at hL
    go_wp2_with fail
    refine hL.mono ?_
    rintro e w2 ⟨g2, rfl, hb2⟩
    have HB2 : Hid (Lst EB w2 (some ⟨g2, 0, none⟩) (bl n (lfF (atO xs) (psP (atO xs) n (inF (ps.take k))) 11)) ∧ B1 w n g1 (inF (ps.take k)) w2 ∧ OwnL EN w1.heap.size w2 u3 (ps.take k) ∧ w1.heap.size ≤ w2.heap.size) := ⟨hb2.lst, HB.out.nx hb2.bel, HO.out.bel hb2.bel, Nat.le_trans HSZ.out hb2.bel.size⟩
    clear hb2 hL HB HO HSZ
    go_wp2_with fail
    refine (rfirst_any (some ⟨g2, 0, none⟩) n n _ w2 HB2.out.1).mono ?_
    rintro e w3 ⟨rfl, hw3⟩
    rw [hw3]
    clear hw3 w3
    rw [first_best (ps_pw _ _ _) (ps_in _ _ _)]
    by_cases hkl : k < ps.length
    case neg =>
      have hkp : ps.take k = ps := List.take_of_length_le (by omega)
      rw [hkp, HNE.out]
      have HE : Hid (RcPost w ps (.returned u3) w2) := by
        have h5 := HB2.out.2.2.1
        rw [hkp] at h5
        exact ⟨_, rfl, h5.mono HG1.out.1.bel.size, HB2.out.2.1.bel⟩
      have hb0 : bsI none = -1 := rfl
      rw [hb0]
      clear hkp
      go_wp2_with fail
      go_ret
      exact HE.out
    rw [HK.out k hkl]
    obtain ⟨b, hb⟩ : ∃ y, ps[k] = y := ⟨_, rfl⟩
    have HPK : Hid (ps.take (k + 1) = ps.take k ++ [b]) := by rw [← hb]; exact (List.take_append_getElem hkl).symm
    have HBN : Hid (b < n) := by rw [← hb]; exact HIN.out _ (List.getElem_mem hkl)
    have HTI : Hid (∀ j, inF (ps.take (k + 1)) j = if j = b then true else inF (ps.take k) j) := by rw [← hb]; exact fun j => take_in hkl
    have hbI : bsI (some ps[k]) = (b : Int) := by rw [← hb]; rfl
    rw [hbI]
    have hb0 : ¬ (b : Int) < 0 := by omega
    have hb1 : (0 : Int) ≤ (b : Int) := by omega
    have hb2 : (b : Int) < (n : Int) := by have := HBN.out; omega
    have HA2 : Hid (Below w2.heap.size w2 (w2.alloc (Obj.cells (EN.enc b).toArray 3))) := (Below.refl _ w2).alloc (Nat.le_refl _) _
    have HSZ : Hid (w1.heap.size ≤ (w2.alloc (Obj.cells (EN.enc b).toArray 3)).heap.size) := Nat.le_trans HB2.out.2.2.2 HA2.out.size
    clear hb hbI
    go_wp2_with (first | (refine list_nbuild rfl _ rfl b rfl ?_) | (at_builtin; refine list_app1 EN rfl _ _ 24 rfl rfl w1.heap.size u3 (ps.take k) b (by rw [List.length_take]; omega) (w := w2) (w2.alloc (Obj.cells (EN.enc b).toArray 3)) rfl (HB2.out.2.2.1.bel HA2.out) rfl HSZ.out rfl ?_))
    intro v7 w7 ho7 hg7 ha7
    have HB7 : Hid (Below w1.heap.size (w2.alloc (Obj.cells (EN.enc b).toArray 3)) w7) := (Below.refl _ _).grown hg7.out HSZ.out (fun k e => (HB2.out.2.2.1.row.lt k e).1)
    have HF7 : Hid (B1 w n g1 (inF (ps.take k)) w7) := by
      have h5 := HB2.out.2.1.nx HA2.out
      exact ⟨h5.own.blk (fun q e => by cases e; exact HB7.out.block g1 HG1.out.2), h5.bel.trans (HB7.out.mono HG1.out.1.bel.size)⟩
    have HO7 : Hid (OwnL EN w1.heap.size w7 v7 (ps.take (k + 1)) ∧ w1.heap.size ≤ w7.heap.size) := ⟨by rw [HPK.out]; exact ho7.out, Nat.le_trans HSZ.out HB7.out.size⟩
    have e1 := HF7.out.get HBN.out
    have e2 := HF7.out.fro HBN.out
    obtain ⟨old, hold⟩ : ∃ y, inF (ps.take k) b = y := ⟨_, rfl⟩
    rw [hold] at e1
    have HI : Hid (OrJ w w1 n g1 ps (.int .i64 ((k + 1 : Nat) : Int)) v7 (w7.setCell ⟨g1, b, none⟩ (.bool true))) := by
      have hk := Ko.set w7 g1 b (.bool true)
      refine ⟨⟨k + 1, by omega, by omega, rfl, HO7.out.1.blk (fun q e => hk.block q (fun e2 => ?_)), HF7.out.set HBN.out true (fun j hj => (HTI.out j).symm)⟩, Nat.le_trans HO7.out.2 (Nat.le_of_eq hk.size.symm)⟩
      have h5 := (HO7.out.1.row.lt q e).1
      have h6 := HG1.out.2
      omega
    clear ho7 hg7 ha7 HA2 HSZ HB7 HF7 HO7 hold HB2
    go_wp2_with fail
    refine ⟨?_, ?_⟩
    · first | exact HI.out | simpa using HI.out
    · simp [intOf]
      omega
end Go.Proofs.Ytkahjibdmhaglaa.Ch
