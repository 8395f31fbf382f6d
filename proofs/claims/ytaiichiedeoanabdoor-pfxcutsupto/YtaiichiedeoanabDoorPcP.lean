/- pfxDoes of 1 and 2 and PfxCuts: what each answers. -/
import Derived.Test.YtaiichiedeoanabDoorPcK
import Derived.Test.YtaiichiedeoanabDoorPcO
namespace Go.Proofs.YtaiichiedeoanabDoor.Pc
open Go.ChangeShapes Go.WideShapes Go.ChangeAt Go.RowKit Go.Joins Go.Shelf Go.Proofs.YtaiichiedeoanabDoor.PM Go.Proofs.YtaiichiedeoanabDoor.Ask Go.Proofs.YtaiichiedeoanabDoor.Ge
set_option linter.unusedVariables false

set_option maxRecDepth 100000 in
set_option maxHeartbeats 16000000 in
theorem does1_any (va : Option Addr) (ca : Nat) (ps : List (Int × Int)) (n : Nat) (hn : ps.length = n) (vb : Option Addr) (cb : Nat) (qs : List (Int × Int)) (m : Nat) (hm : qs.length = m) (hbig : n + m ≤ 137438953472) (w : World) (hT : Tab w) (hlp : Lst E2 w va ps) (hlq : Lst E2 w vb qs) (hpp : ∀ p ∈ ps, InA p) (hpq : ∀ p ∈ qs, InA p) (hna : va = none → n = 0 ∧ ca = 0) (hnb : vb = none → m = 0 ∧ cb = 0) :
    Calls Tryd.prog 5 #[.int .i64 1, .slice va n ca, .slice vb m cb] w fun e w' => e = .returned (.bool true) ∧ Below w.heap.size w w' := by
  have HT : Hid (Tab w) := hT
  have HLP : Hid (Lst E2 w va ps) := hlp
  have HLQ : Hid (Lst E2 w vb qs) := hlq
  have HPP : Hid (∀ p ∈ ps, InA p) := hpp
  have HPQ : Hid (∀ p ∈ qs, InA p) := hpq
  have HNP : Hid (ps.length = n) := hn
  have HNQ : Hid (qs.length = m) := hm
  have HNA : Hid (va = none → n = 0 ∧ ca = 0) := hna
  have HNB : Hid (vb = none → m = 0 ∧ cb = 0) := hnb
  obtain ⟨R, hR⟩ : ∃ R, setK 1 ps qs = R := ⟨_, rfl⟩
  have HR : Hid (setK 1 ps qs = R) := hR
  obtain ⟨k, hk⟩ : ∃ k, R.length = k := ⟨_, rfl⟩
  have HK : Hid (R.length = k) := hk
  have hk32 : k ≤ 4294967296 := by
    rw [← hk, ← hR]
    exact setK_len 1 ps qs hpp hpq
  have hns : n ≤ 9223372036854775807 := by omega
  have hb2 : n + m ≤ 274877906944 := by omega
  clear hlp hlq hpp hpq hn hm hna hnb hT hR hk
  go_enter Tryd.func5, Tryd.ntmps5
  go_wp2_with fail
  refine (want1_any va ca ps n HNP.out vb cb qs m HNQ.out hb2 w HLP.out HLQ.out HPP.out HPQ.out HNA.out HNB.out).mono ?_
  rintro e w1 ⟨aW, nW, cW, rfl, hoW, hbW⟩
  rw [HR.out] at hoW
  obtain rfl : nW = k := by rw [← hoW.lst.2, HK.out]
  have hsz1 := hbW.size
  obtain ⟨A1, hA1⟩ : ∃ A, w1.heap.size = A := ⟨_, rfl⟩
  have HB1 : Hid (Below w.heap.size w w1) := hbW
  have HW1 : Hid (Bt w.heap.size A1 w1 (.slice aW nW cW) R) := Bt.made hoW hA1
  clear hoW hbW
  go_wp2_with fail
  refine (room_any va ca ps n HNP.out (by omega) w1 (HLP.out.bel HB1.out) HNA.out).mono ?_
  rintro e w2 ⟨gx, cx, rfl, hox, hbx⟩
  have hsz2 := hbx.size
  obtain ⟨A2, hA2⟩ : ∃ A, w2.heap.size = A := ⟨_, rfl⟩
  have HB2 : Hid (Below w.heap.size w w2) := HB1.out.trans (hbx.mono hsz1)
  have HX2 : Hid (Bt A1 A2 w2 (.slice (some ⟨gx, 0, none⟩) (n + 3) cx) (room ps)) := Bt.made (by rw [← hA1]; exact hox) hA2
  have HW2 : Hid (Bt w.heap.size A1 w2 (.slice aW nW cW) R) := HW1.out.bel hbx
  clear hox hbx HW1
  go_wp2_with fail
  refine (room_any vb cb qs m HNQ.out (by omega) w2 (HLQ.out.bel HB2.out) HNB.out).mono ?_
  rintro e w3 ⟨gy, cy, rfl, hoy, hby⟩
  have hsz3 := hby.size
  obtain ⟨A3, hA3⟩ : ∃ A, w3.heap.size = A := ⟨_, rfl⟩
  have HB3 : Hid (Below w.heap.size w w3) := HB2.out.trans (hby.mono HB2.out.size)
  have HY3 : Hid (Bt A2 A3 w3 (.slice (some ⟨gy, 0, none⟩) (m + 3) cy) (room qs)) := Bt.made (by rw [← hA2]; exact hoy) hA3
  have HX3 : Hid (Bt A1 A2 w3 (.slice (some ⟨gx, 0, none⟩) (n + 3) cx) (room ps)) := HX2.out.bel hby
  have HW3 : Hid (Bt w.heap.size A1 w3 (.slice aW nW cW) R) := HW2.out.bel hby
  clear hoy hby HX2 HW2
  have hcx : n + 3 ≤ cx := by
    obtain ⟨a9, c9, e9, h9, -⟩ := HX3.out.own.form
    have h8 := HX3.out.own.lst.2
    injection e9 with _ _ e3
    omega
  have hcy : m + 3 ≤ cy := by
    obtain ⟨a9, c9, e9, h9, -⟩ := HY3.out.own.form
    have h8 := HY3.out.own.lst.2
    injection e9 with _ _ e3
    omega
  have hn0 : (0 : Int) ≤ n := by omega
  have hm0 : (0 : Int) ≤ m := by omega
  have hncx : n ≤ cx := by omega
  have hmcy : m ≤ cy := by omega
  have HXT : Hid (∀ W, OwnL E2 A1 W (.slice (some ⟨gx, 0, none⟩) (n + 3) cx) (room ps) → OwnL E2 A1 W (.slice (some ⟨gx, 0, none⟩) n cx) ps) := fun W h => by
    have h1 := OwnL.takeN (n := n) h (by omega) (fun e => by cases e)
    have e : (room ps).take n = ps := by unfold room; rw [← HNP.out]; exact List.take_left
    rw [e] at h1
    exact h1
  have HYT : Hid (∀ W, OwnL E2 A2 W (.slice (some ⟨gy, 0, none⟩) (m + 3) cy) (room qs) → OwnL E2 A2 W (.slice (some ⟨gy, 0, none⟩) m cy) qs) := fun W h => by
    have h1 := OwnL.takeN (n := m) h (by omega) (fun e => by cases e)
    have e : (room qs).take m = qs := by unfold room; rw [← HNQ.out]; exact List.take_left
    rw [e] at h1
    exact h1
  go_wp2_with fail
  go_still_tail 9, (by kernel_rfl)
  go_wp2_with fail
  have HA3' : Hid (Al w A1 A2 A3 (.slice aW nW cW) (.slice (some ⟨gx, 0, none⟩) (n + 3) cx) (.slice (some ⟨gy, 0, none⟩) (m + 3) cy) R (room ps) (room qs) w3) := ⟨HB3.out, HW3.out, HX3.out, HY3.out, by omega, by omega, by omega, by omega⟩
  clear HW3 HX3 HY3 HB3 HB2 HB1
  obtain ⟨w4, hw4⟩ : ∃ w4, w3.drew = w4 := ⟨_, rfl⟩
  rw [hw4]
  have HA4 : Hid (Al w A1 A2 A3 (.slice aW nW cW) (.slice (some ⟨gx, 0, none⟩) (n + 3) cx) (.slice (some ⟨gy, 0, none⟩) (m + 3) cy) R (room ps) (room qs) w4) := by rw [← hw4]; exact HA3'.out.next (drew_bel w3)
  clear hw4 HA3'
  refine (ask1_any (some ⟨gx, 0, none⟩) cx ps n HNP.out (some ⟨gy, 0, none⟩) cy qs m HNQ.out hb2 w4 (HT.out.bel HA4.out.bel) (HXT.out _ HA4.out.xX.own).lst.1 (HYT.out _ HA4.out.yY.own).lst.1 HPP.out HPQ.out).mono ?_
  rintro e w5 ⟨a5, n5, c5, rfl, ho, hb⟩
  rw [HR.out] at ho
  obtain rfl : nW = n5 := by rw [← ho.lst.2, HK.out]
  have HA5 : Hid (Al w A1 A2 A3 (.slice aW nW cW) (.slice (some ⟨gx, 0, none⟩) (n + 3) cx) (.slice (some ⟨gy, 0, none⟩) (m + 3) cy) R (room ps) (room qs) w5) := HA4.out.next hb
  obtain ⟨A4, hA4⟩ : ∃ A, w4.heap.size = A := ⟨_, rfl⟩
  obtain ⟨A5, hA5⟩ : ∃ A, w5.heap.size = A := ⟨_, rfl⟩
  have hA34 : A3 ≤ A4 := by rw [← hA4]; exact HA4.out.sz
  have hA45 : A4 ≤ A5 := by rw [← hA4, ← hA5]; exact hb.size
  have HO5 : Hid (Bt A4 A5 w5 (.slice a5 nW c5) R) := Bt.made (by rw [← hA4]; exact ho) hA5
  clear ho hb HA4
  go_wp2_with fail
  refine (psame_any a5 c5 aW cW R nW HK.out w5 HO5.out.own.lst.1 HA5.out.wW.own.lst.1).mono ?_
  rintro e w6 ⟨rfl, hb6⟩
  have HA6 : Hid (Al w A1 A2 A3 (.slice aW nW cW) (.slice (some ⟨gx, 0, none⟩) (n + 3) cx) (.slice (some ⟨gy, 0, none⟩) (m + 3) cy) R (room ps) (room qs) w6) := HA5.out.next hb6
  have HO6 : Hid (Bt A4 A5 w6 (.slice a5 nW c5) R) := HO5.out.bel hb6
  have hA56 : A5 ≤ w6.heap.size := by rw [← hA5]; exact hb6.size
  clear hb6 HA5 HO5
  go_wp2_with fail
  go_still_tail 9, (by kernel_rfl)
  go_wp2_with fail
  obtain ⟨w7, hw7⟩ : ∃ w7, w6.drew = w7 := ⟨_, rfl⟩
  rw [hw7]
  have HA7 : Hid (Al w A1 A2 A3 (.slice aW nW cW) (.slice (some ⟨gx, 0, none⟩) (n + 3) cx) (.slice (some ⟨gy, 0, none⟩) (m + 3) cy) R (room ps) (room qs) w7) := by rw [← hw7]; exact HA6.out.next (drew_bel w6)
  have HO7 : Hid (Bt A4 A5 w7 (.slice a5 nW c5) R) := by rw [← hw7]; exact HO6.out.bel (drew_bel w6)
  have hA57 : A5 ≤ w7.heap.size := by rw [← hw7]; exact hA56
  clear hw7 HA6 HO6
  refine (ask1_any (some ⟨gx, 0, none⟩) cx ps n HNP.out (some ⟨gy, 0, none⟩) cy qs m HNQ.out hb2 w7 (HT.out.bel HA7.out.bel) (HXT.out _ HA7.out.xX.own).lst.1 (HYT.out _ HA7.out.yY.own).lst.1 HPP.out HPQ.out).mono ?_
  rintro e w8 ⟨a8, n8, c8, rfl, ho, hb⟩
  rw [HR.out] at ho
  obtain rfl : nW = n8 := by rw [← ho.lst.2, HK.out]
  have HA8 : Hid (Al w A1 A2 A3 (.slice aW nW cW) (.slice (some ⟨gx, 0, none⟩) (n + 3) cx) (.slice (some ⟨gy, 0, none⟩) (m + 3) cy) R (room ps) (room qs) w8) := HA7.out.next hb
  have HO8 : Hid (Bt A4 A5 w8 (.slice a5 nW c5) R) := HO7.out.bel hb
  obtain ⟨A8, hA8⟩ : ∃ A, w8.heap.size = A := ⟨_, rfl⟩
  have HT8 : Hid (Bt A5 A8 w8 (.slice a8 nW c8) R) := ⟨ho.mono hA57, fun g e => by rw [← hA8]; exact (ho.row.lt g e).2⟩
  have hA58 : A5 ≤ w8.heap.size := Nat.le_trans hA57 hb.size
  clear ho hb HA7 HO7
  go_wp2_with fail
  refine (psame_any a8 c8 aW cW R nW HK.out w8 HT8.out.own.lst.1 HA8.out.wW.own.lst.1).mono ?_
  rintro e w9 ⟨rfl, hb9⟩
  have HA9 : Hid (Al w A1 A2 A3 (.slice aW nW cW) (.slice (some ⟨gx, 0, none⟩) (n + 3) cx) (.slice (some ⟨gy, 0, none⟩) (m + 3) cy) R (room ps) (room qs) w9) := HA8.out.next hb9
  have HO9 : Hid (Bt A4 A5 w9 (.slice a5 nW c5) R) := HO8.out.bel hb9
  have HT9 : Hid (Bt A5 A8 w9 (.slice a8 nW c8) R) := HT8.out.bel hb9
  have hA59 : A5 ≤ w9.heap.size := Nat.le_trans hA58 hb9.size
  clear hb9 HA8 HO8 HT8
  go_wp2_with fail
  refine (mark_any A4 a5 nW c5 R 101 w9 (by omega) HO9.out.own (by omega)).mono ?_
  rintro e w10 ⟨⟨u, rfl⟩, hg10⟩
  have HA10 : Hid (Al w A1 A2 A3 (.slice aW nW cW) (.slice (some ⟨gx, 0, none⟩) (n + 3) cx) (.slice (some ⟨gy, 0, none⟩) (m + 3) cy) R (room ps) (room qs) w10) := HA9.out.grown hg10 (fun g e => by have := (HO9.out.own.row.lt g e).1; omega)
  have HT10 : Hid (Bt A5 A8 w10 (.slice a8 nW c8) R) := HT9.out.grown hg10 (fun g e => Or.inl (HO9.out.lt g e))
  clear hg10 HA9 HO9 HT9
  go_wp2_with fail
  refine (psame_any a8 c8 aW cW R nW HK.out w10 HT10.out.own.lst.1 HA10.out.wW.own.lst.1).mono ?_
  rintro e w11 ⟨rfl, hb11⟩
  have HA11 : Hid (Al w A1 A2 A3 (.slice aW nW cW) (.slice (some ⟨gx, 0, none⟩) (n + 3) cx) (.slice (some ⟨gy, 0, none⟩) (m + 3) cy) R (room ps) (room qs) w11) := HA10.out.next hb11
  have HT11 : Hid (Bt A5 A8 w11 (.slice a8 nW c8) R) := HT10.out.bel hb11
  clear hb11 HA10 HT10
  go_wp2_with fail
  refine (room_any va ca ps n HNP.out (by omega) w11 (HLP.out.bel HA11.out.bel) HNA.out).mono ?_
  rintro e w12 ⟨g12, c12, rfl, ho12, hb12⟩
  have HA12 : Hid (Al w A1 A2 A3 (.slice aW nW cW) (.slice (some ⟨gx, 0, none⟩) (n + 3) cx) (.slice (some ⟨gy, 0, none⟩) (m + 3) cy) R (room ps) (room qs) w12) := HA11.out.next hb12
  have HT12 : Hid (Bt A5 A8 w12 (.slice a8 nW c8) R) := HT11.out.bel hb12
  have HP12 := psame_any (some ⟨gx, 0, none⟩) cx (some ⟨g12, 0, none⟩) c12 (room ps) (n + 3) HA12.out.xX.own.lst.2 w12 HA12.out.xX.own.lst.1 ho12.lst.1
  clear hb12 ho12 HA11 HT11
  go_wp2_with fail
  refine HP12.mono ?_
  rintro e w13 ⟨rfl, hb13⟩
  have HA13 : Hid (Al w A1 A2 A3 (.slice aW nW cW) (.slice (some ⟨gx, 0, none⟩) (n + 3) cx) (.slice (some ⟨gy, 0, none⟩) (m + 3) cy) R (room ps) (room qs) w13) := HA12.out.next hb13
  have HT13 : Hid (Bt A5 A8 w13 (.slice a8 nW c8) R) := HT12.out.bel hb13
  clear hb13 HA12 HT12 HP12
  go_wp2_with fail
  refine (room_any vb cb qs m HNQ.out (by omega) w13 (HLQ.out.bel HA13.out.bel) HNB.out).mono ?_
  rintro e w14 ⟨g14, c14, rfl, ho14, hb14⟩
  have HA14 : Hid (Al w A1 A2 A3 (.slice aW nW cW) (.slice (some ⟨gx, 0, none⟩) (n + 3) cx) (.slice (some ⟨gy, 0, none⟩) (m + 3) cy) R (room ps) (room qs) w14) := HA13.out.next hb14
  have HT14 : Hid (Bt A5 A8 w14 (.slice a8 nW c8) R) := HT13.out.bel hb14
  have HP14 := psame_any (some ⟨gy, 0, none⟩) cy (some ⟨g14, 0, none⟩) c14 (room qs) (m + 3) HA14.out.yY.own.lst.2 w14 HA14.out.yY.own.lst.1 ho14.lst.1
  clear hb14 ho14 HA13 HT13
  go_wp2_with fail
  refine HP14.mono ?_
  rintro e w15 ⟨rfl, hb15⟩
  have HA15 : Hid (Al w A1 A2 A3 (.slice aW nW cW) (.slice (some ⟨gx, 0, none⟩) (n + 3) cx) (.slice (some ⟨gy, 0, none⟩) (m + 3) cy) R (room ps) (room qs) w15) := HA14.out.next hb15
  have HT15 : Hid (Bt A5 A8 w15 (.slice a8 nW c8) R) := HT14.out.bel hb15
  have hs15 := HA15.out.sz
  clear hb15 HA14 HT14 HP14
  go_wp2_with fail
  refine (mark_any A1 (some ⟨gx, 0, none⟩) n cx ps 102 w15 (by omega) (HXT.out _ HA15.out.xX.own) (by omega)).mono ?_
  rintro e w16 ⟨⟨u, rfl⟩, hg16⟩
  have hgx1 : A1 ≤ gx := (HA15.out.xX.own.row.lt gx rfl).1
  have hgx2 : gx < A2 := HA15.out.xX.lt gx rfl
  have hgy1 : A2 ≤ gy := (HA15.out.yY.own.row.lt gy rfl).1
  have hgy2 : gy < A3 := HA15.out.yY.lt gy rfl
  have ho1 := HA15.out.o1
  have HW16 : Hid (Bt w.heap.size A1 w16 (.slice aW nW cW) R) := HA15.out.wW.grown hg16 (fun g e => by cases e; exact Or.inr hgx1)
  have HY16 : Hid (Bt A2 A3 w16 (.slice (some ⟨gy, 0, none⟩) (m + 3) cy) (room qs)) := HA15.out.yY.grown hg16 (fun g e => by cases e; exact Or.inl hgx2)
  have HT16 : Hid (Bt A5 A8 w16 (.slice a8 nW c8) R) := HT15.out.grown hg16 (fun g e => by cases e; exact Or.inl (show gx < A5 by omega))
  have HB16 : Hid (Below w.heap.size w w16) := bel_grown HA15.out.bel hg16 HA15.out.bel.size (fun g e => by cases e; show _ ≤ gx; omega)
  have hs16 : A3 ≤ w16.heap.size := Nat.le_trans hs15 hg16.size
  clear hg16 HA15 HT15
  go_wp2_with fail
  refine (mark_any A2 (some ⟨gy, 0, none⟩) m cy qs 103 w16 (by omega) (HYT.out _ HY16.out.own) (by omega)).mono ?_
  rintro e w17 ⟨⟨u, rfl⟩, hg17⟩
  have HW17 : Hid (Bt w.heap.size A1 w17 (.slice aW nW cW) R) := HW16.out.grown hg17 (fun g e => by cases e; exact Or.inr (show A1 ≤ gy by omega))
  have HT17 : Hid (Bt A5 A8 w17 (.slice a8 nW c8) R) := HT16.out.grown hg17 (fun g e => by cases e; exact Or.inl (show gy < A5 by omega))
  have HB17 : Hid (Below w.heap.size w w17) := bel_grown HB16.out hg17 HB16.out.size (fun g e => by cases e; show _ ≤ gy; omega)
  clear hg17 HW16 HT16 HB16 HY16
  go_wp2_with fail
  refine (psame_any a8 c8 aW cW R nW HK.out w17 HT17.out.own.lst.1 HW17.out.own.lst.1).mono ?_
  rintro e w18 ⟨rfl, hb18⟩
  have HB18 : Hid (Below w.heap.size w w18) := HB17.out.trans (hb18.mono HB17.out.size)
  clear hb18
  go_wp2_with fail
  go_ret
  exact ⟨rfl, HB18.out⟩
set_option maxRecDepth 100000 in
set_option maxHeartbeats 16000000 in
theorem does2_any (va : Option Addr) (ca : Nat) (ps : List (Int × Int)) (n : Nat) (hn : ps.length = n) (vb : Option Addr) (cb : Nat) (qs : List (Int × Int)) (m : Nat) (hm : qs.length = m) (hbig : n + m ≤ 137438953472) (w : World) (hT : Tab w) (hlp : Lst E2 w va ps) (hlq : Lst E2 w vb qs) (hpp : ∀ p ∈ ps, InA p) (hpq : ∀ p ∈ qs, InA p) (hna : va = none → n = 0 ∧ ca = 0) (hnb : vb = none → m = 0 ∧ cb = 0) :
    Calls Tryd.prog 5 #[.int .i64 2, .slice va n ca, .slice vb m cb] w fun e w' => e = .returned (.bool true) ∧ Below w.heap.size w w' := by
  have HT : Hid (Tab w) := hT
  have HLP : Hid (Lst E2 w va ps) := hlp
  have HLQ : Hid (Lst E2 w vb qs) := hlq
  have HPP : Hid (∀ p ∈ ps, InA p) := hpp
  have HPQ : Hid (∀ p ∈ qs, InA p) := hpq
  have HNP : Hid (ps.length = n) := hn
  have HNQ : Hid (qs.length = m) := hm
  have HNA : Hid (va = none → n = 0 ∧ ca = 0) := hna
  have HNB : Hid (vb = none → m = 0 ∧ cb = 0) := hnb
  obtain ⟨R, hR⟩ : ∃ R, setK 2 ps qs = R := ⟨_, rfl⟩
  have HR : Hid (setK 2 ps qs = R) := hR
  obtain ⟨k, hk⟩ : ∃ k, R.length = k := ⟨_, rfl⟩
  have HK : Hid (R.length = k) := hk
  have hk32 : k ≤ 4294967296 := by
    rw [← hk, ← hR]
    exact setK_len 2 ps qs hpp hpq
  have hns : n ≤ 9223372036854775807 := by omega
  have hb2 : n + m ≤ 274877906944 := by omega
  clear hlp hlq hpp hpq hn hm hna hnb hT hR hk
  go_enter Tryd.func5, Tryd.ntmps5
  go_wp2_with fail
  refine (want2_any va ca ps n HNP.out vb cb qs m HNQ.out hb2 w HLP.out HLQ.out HPP.out HPQ.out HNA.out HNB.out).mono ?_
  rintro e w1 ⟨aW, nW, cW, rfl, hoW, hbW⟩
  rw [HR.out] at hoW
  obtain rfl : nW = k := by rw [← hoW.lst.2, HK.out]
  have hsz1 := hbW.size
  obtain ⟨A1, hA1⟩ : ∃ A, w1.heap.size = A := ⟨_, rfl⟩
  have HB1 : Hid (Below w.heap.size w w1) := hbW
  have HW1 : Hid (Bt w.heap.size A1 w1 (.slice aW nW cW) R) := Bt.made hoW hA1
  clear hoW hbW
  go_wp2_with fail
  refine (room_any va ca ps n HNP.out (by omega) w1 (HLP.out.bel HB1.out) HNA.out).mono ?_
  rintro e w2 ⟨gx, cx, rfl, hox, hbx⟩
  have hsz2 := hbx.size
  obtain ⟨A2, hA2⟩ : ∃ A, w2.heap.size = A := ⟨_, rfl⟩
  have HB2 : Hid (Below w.heap.size w w2) := HB1.out.trans (hbx.mono hsz1)
  have HX2 : Hid (Bt A1 A2 w2 (.slice (some ⟨gx, 0, none⟩) (n + 3) cx) (room ps)) := Bt.made (by rw [← hA1]; exact hox) hA2
  have HW2 : Hid (Bt w.heap.size A1 w2 (.slice aW nW cW) R) := HW1.out.bel hbx
  clear hox hbx HW1
  go_wp2_with fail
  refine (room_any vb cb qs m HNQ.out (by omega) w2 (HLQ.out.bel HB2.out) HNB.out).mono ?_
  rintro e w3 ⟨gy, cy, rfl, hoy, hby⟩
  have hsz3 := hby.size
  obtain ⟨A3, hA3⟩ : ∃ A, w3.heap.size = A := ⟨_, rfl⟩
  have HB3 : Hid (Below w.heap.size w w3) := HB2.out.trans (hby.mono HB2.out.size)
  have HY3 : Hid (Bt A2 A3 w3 (.slice (some ⟨gy, 0, none⟩) (m + 3) cy) (room qs)) := Bt.made (by rw [← hA2]; exact hoy) hA3
  have HX3 : Hid (Bt A1 A2 w3 (.slice (some ⟨gx, 0, none⟩) (n + 3) cx) (room ps)) := HX2.out.bel hby
  have HW3 : Hid (Bt w.heap.size A1 w3 (.slice aW nW cW) R) := HW2.out.bel hby
  clear hoy hby HX2 HW2
  have hcx : n + 3 ≤ cx := by
    obtain ⟨a9, c9, e9, h9, -⟩ := HX3.out.own.form
    have h8 := HX3.out.own.lst.2
    injection e9 with _ _ e3
    omega
  have hcy : m + 3 ≤ cy := by
    obtain ⟨a9, c9, e9, h9, -⟩ := HY3.out.own.form
    have h8 := HY3.out.own.lst.2
    injection e9 with _ _ e3
    omega
  have hn0 : (0 : Int) ≤ n := by omega
  have hm0 : (0 : Int) ≤ m := by omega
  have hncx : n ≤ cx := by omega
  have hmcy : m ≤ cy := by omega
  have HXT : Hid (∀ W, OwnL E2 A1 W (.slice (some ⟨gx, 0, none⟩) (n + 3) cx) (room ps) → OwnL E2 A1 W (.slice (some ⟨gx, 0, none⟩) n cx) ps) := fun W h => by
    have h1 := OwnL.takeN (n := n) h (by omega) (fun e => by cases e)
    have e : (room ps).take n = ps := by unfold room; rw [← HNP.out]; exact List.take_left
    rw [e] at h1
    exact h1
  have HYT : Hid (∀ W, OwnL E2 A2 W (.slice (some ⟨gy, 0, none⟩) (m + 3) cy) (room qs) → OwnL E2 A2 W (.slice (some ⟨gy, 0, none⟩) m cy) qs) := fun W h => by
    have h1 := OwnL.takeN (n := m) h (by omega) (fun e => by cases e)
    have e : (room qs).take m = qs := by unfold room; rw [← HNQ.out]; exact List.take_left
    rw [e] at h1
    exact h1
  go_wp2_with fail
  go_still_tail 9, (by kernel_rfl)
  go_wp2_with fail
  have HA3' : Hid (Al w A1 A2 A3 (.slice aW nW cW) (.slice (some ⟨gx, 0, none⟩) (n + 3) cx) (.slice (some ⟨gy, 0, none⟩) (m + 3) cy) R (room ps) (room qs) w3) := ⟨HB3.out, HW3.out, HX3.out, HY3.out, by omega, by omega, by omega, by omega⟩
  clear HW3 HX3 HY3 HB3 HB2 HB1
  obtain ⟨w4, hw4⟩ : ∃ w4, w3.drew = w4 := ⟨_, rfl⟩
  rw [hw4]
  have HA4 : Hid (Al w A1 A2 A3 (.slice aW nW cW) (.slice (some ⟨gx, 0, none⟩) (n + 3) cx) (.slice (some ⟨gy, 0, none⟩) (m + 3) cy) R (room ps) (room qs) w4) := by rw [← hw4]; exact HA3'.out.next (drew_bel w3)
  clear hw4 HA3'
  refine (ask2_any (some ⟨gx, 0, none⟩) cx ps n HNP.out (some ⟨gy, 0, none⟩) cy qs m HNQ.out hb2 w4 (HT.out.bel HA4.out.bel) (HXT.out _ HA4.out.xX.own).lst.1 (HYT.out _ HA4.out.yY.own).lst.1 HPP.out HPQ.out).mono ?_
  rintro e w5 ⟨a5, n5, c5, rfl, ho, hb⟩
  rw [HR.out] at ho
  obtain rfl : nW = n5 := by rw [← ho.lst.2, HK.out]
  have HA5 : Hid (Al w A1 A2 A3 (.slice aW nW cW) (.slice (some ⟨gx, 0, none⟩) (n + 3) cx) (.slice (some ⟨gy, 0, none⟩) (m + 3) cy) R (room ps) (room qs) w5) := HA4.out.next hb
  obtain ⟨A4, hA4⟩ : ∃ A, w4.heap.size = A := ⟨_, rfl⟩
  obtain ⟨A5, hA5⟩ : ∃ A, w5.heap.size = A := ⟨_, rfl⟩
  have hA34 : A3 ≤ A4 := by rw [← hA4]; exact HA4.out.sz
  have hA45 : A4 ≤ A5 := by rw [← hA4, ← hA5]; exact hb.size
  have HO5 : Hid (Bt A4 A5 w5 (.slice a5 nW c5) R) := Bt.made (by rw [← hA4]; exact ho) hA5
  clear ho hb HA4
  go_wp2_with fail
  refine (psame_any a5 c5 aW cW R nW HK.out w5 HO5.out.own.lst.1 HA5.out.wW.own.lst.1).mono ?_
  rintro e w6 ⟨rfl, hb6⟩
  have HA6 : Hid (Al w A1 A2 A3 (.slice aW nW cW) (.slice (some ⟨gx, 0, none⟩) (n + 3) cx) (.slice (some ⟨gy, 0, none⟩) (m + 3) cy) R (room ps) (room qs) w6) := HA5.out.next hb6
  have HO6 : Hid (Bt A4 A5 w6 (.slice a5 nW c5) R) := HO5.out.bel hb6
  have hA56 : A5 ≤ w6.heap.size := by rw [← hA5]; exact hb6.size
  clear hb6 HA5 HO5
  go_wp2_with fail
  go_still_tail 9, (by kernel_rfl)
  go_wp2_with fail
  obtain ⟨w7, hw7⟩ : ∃ w7, w6.drew = w7 := ⟨_, rfl⟩
  rw [hw7]
  have HA7 : Hid (Al w A1 A2 A3 (.slice aW nW cW) (.slice (some ⟨gx, 0, none⟩) (n + 3) cx) (.slice (some ⟨gy, 0, none⟩) (m + 3) cy) R (room ps) (room qs) w7) := by rw [← hw7]; exact HA6.out.next (drew_bel w6)
  have HO7 : Hid (Bt A4 A5 w7 (.slice a5 nW c5) R) := by rw [← hw7]; exact HO6.out.bel (drew_bel w6)
  have hA57 : A5 ≤ w7.heap.size := by rw [← hw7]; exact hA56
  clear hw7 HA6 HO6
  refine (ask2_any (some ⟨gx, 0, none⟩) cx ps n HNP.out (some ⟨gy, 0, none⟩) cy qs m HNQ.out hb2 w7 (HT.out.bel HA7.out.bel) (HXT.out _ HA7.out.xX.own).lst.1 (HYT.out _ HA7.out.yY.own).lst.1 HPP.out HPQ.out).mono ?_
  rintro e w8 ⟨a8, n8, c8, rfl, ho, hb⟩
  rw [HR.out] at ho
  obtain rfl : nW = n8 := by rw [← ho.lst.2, HK.out]
  have HA8 : Hid (Al w A1 A2 A3 (.slice aW nW cW) (.slice (some ⟨gx, 0, none⟩) (n + 3) cx) (.slice (some ⟨gy, 0, none⟩) (m + 3) cy) R (room ps) (room qs) w8) := HA7.out.next hb
  have HO8 : Hid (Bt A4 A5 w8 (.slice a5 nW c5) R) := HO7.out.bel hb
  obtain ⟨A8, hA8⟩ : ∃ A, w8.heap.size = A := ⟨_, rfl⟩
  have HT8 : Hid (Bt A5 A8 w8 (.slice a8 nW c8) R) := ⟨ho.mono hA57, fun g e => by rw [← hA8]; exact (ho.row.lt g e).2⟩
  have hA58 : A5 ≤ w8.heap.size := Nat.le_trans hA57 hb.size
  clear ho hb HA7 HO7
  go_wp2_with fail
  refine (psame_any a8 c8 aW cW R nW HK.out w8 HT8.out.own.lst.1 HA8.out.wW.own.lst.1).mono ?_
  rintro e w9 ⟨rfl, hb9⟩
  have HA9 : Hid (Al w A1 A2 A3 (.slice aW nW cW) (.slice (some ⟨gx, 0, none⟩) (n + 3) cx) (.slice (some ⟨gy, 0, none⟩) (m + 3) cy) R (room ps) (room qs) w9) := HA8.out.next hb9
  have HO9 : Hid (Bt A4 A5 w9 (.slice a5 nW c5) R) := HO8.out.bel hb9
  have HT9 : Hid (Bt A5 A8 w9 (.slice a8 nW c8) R) := HT8.out.bel hb9
  have hA59 : A5 ≤ w9.heap.size := Nat.le_trans hA58 hb9.size
  clear hb9 HA8 HO8 HT8
  go_wp2_with fail
  refine (mark_any A4 a5 nW c5 R 101 w9 (by omega) HO9.out.own (by omega)).mono ?_
  rintro e w10 ⟨⟨u, rfl⟩, hg10⟩
  have HA10 : Hid (Al w A1 A2 A3 (.slice aW nW cW) (.slice (some ⟨gx, 0, none⟩) (n + 3) cx) (.slice (some ⟨gy, 0, none⟩) (m + 3) cy) R (room ps) (room qs) w10) := HA9.out.grown hg10 (fun g e => by have := (HO9.out.own.row.lt g e).1; omega)
  have HT10 : Hid (Bt A5 A8 w10 (.slice a8 nW c8) R) := HT9.out.grown hg10 (fun g e => Or.inl (HO9.out.lt g e))
  clear hg10 HA9 HO9 HT9
  go_wp2_with fail
  refine (psame_any a8 c8 aW cW R nW HK.out w10 HT10.out.own.lst.1 HA10.out.wW.own.lst.1).mono ?_
  rintro e w11 ⟨rfl, hb11⟩
  have HA11 : Hid (Al w A1 A2 A3 (.slice aW nW cW) (.slice (some ⟨gx, 0, none⟩) (n + 3) cx) (.slice (some ⟨gy, 0, none⟩) (m + 3) cy) R (room ps) (room qs) w11) := HA10.out.next hb11
  have HT11 : Hid (Bt A5 A8 w11 (.slice a8 nW c8) R) := HT10.out.bel hb11
  clear hb11 HA10 HT10
  go_wp2_with fail
  refine (room_any va ca ps n HNP.out (by omega) w11 (HLP.out.bel HA11.out.bel) HNA.out).mono ?_
  rintro e w12 ⟨g12, c12, rfl, ho12, hb12⟩
  have HA12 : Hid (Al w A1 A2 A3 (.slice aW nW cW) (.slice (some ⟨gx, 0, none⟩) (n + 3) cx) (.slice (some ⟨gy, 0, none⟩) (m + 3) cy) R (room ps) (room qs) w12) := HA11.out.next hb12
  have HT12 : Hid (Bt A5 A8 w12 (.slice a8 nW c8) R) := HT11.out.bel hb12
  have HP12 := psame_any (some ⟨gx, 0, none⟩) cx (some ⟨g12, 0, none⟩) c12 (room ps) (n + 3) HA12.out.xX.own.lst.2 w12 HA12.out.xX.own.lst.1 ho12.lst.1
  clear hb12 ho12 HA11 HT11
  go_wp2_with fail
  refine HP12.mono ?_
  rintro e w13 ⟨rfl, hb13⟩
  have HA13 : Hid (Al w A1 A2 A3 (.slice aW nW cW) (.slice (some ⟨gx, 0, none⟩) (n + 3) cx) (.slice (some ⟨gy, 0, none⟩) (m + 3) cy) R (room ps) (room qs) w13) := HA12.out.next hb13
  have HT13 : Hid (Bt A5 A8 w13 (.slice a8 nW c8) R) := HT12.out.bel hb13
  clear hb13 HA12 HT12 HP12
  go_wp2_with fail
  refine (room_any vb cb qs m HNQ.out (by omega) w13 (HLQ.out.bel HA13.out.bel) HNB.out).mono ?_
  rintro e w14 ⟨g14, c14, rfl, ho14, hb14⟩
  have HA14 : Hid (Al w A1 A2 A3 (.slice aW nW cW) (.slice (some ⟨gx, 0, none⟩) (n + 3) cx) (.slice (some ⟨gy, 0, none⟩) (m + 3) cy) R (room ps) (room qs) w14) := HA13.out.next hb14
  have HT14 : Hid (Bt A5 A8 w14 (.slice a8 nW c8) R) := HT13.out.bel hb14
  have HP14 := psame_any (some ⟨gy, 0, none⟩) cy (some ⟨g14, 0, none⟩) c14 (room qs) (m + 3) HA14.out.yY.own.lst.2 w14 HA14.out.yY.own.lst.1 ho14.lst.1
  clear hb14 ho14 HA13 HT13
  go_wp2_with fail
  refine HP14.mono ?_
  rintro e w15 ⟨rfl, hb15⟩
  have HA15 : Hid (Al w A1 A2 A3 (.slice aW nW cW) (.slice (some ⟨gx, 0, none⟩) (n + 3) cx) (.slice (some ⟨gy, 0, none⟩) (m + 3) cy) R (room ps) (room qs) w15) := HA14.out.next hb15
  have HT15 : Hid (Bt A5 A8 w15 (.slice a8 nW c8) R) := HT14.out.bel hb15
  have hs15 := HA15.out.sz
  clear hb15 HA14 HT14 HP14
  go_wp2_with fail
  refine (mark_any A1 (some ⟨gx, 0, none⟩) n cx ps 102 w15 (by omega) (HXT.out _ HA15.out.xX.own) (by omega)).mono ?_
  rintro e w16 ⟨⟨u, rfl⟩, hg16⟩
  have hgx1 : A1 ≤ gx := (HA15.out.xX.own.row.lt gx rfl).1
  have hgx2 : gx < A2 := HA15.out.xX.lt gx rfl
  have hgy1 : A2 ≤ gy := (HA15.out.yY.own.row.lt gy rfl).1
  have hgy2 : gy < A3 := HA15.out.yY.lt gy rfl
  have ho1 := HA15.out.o1
  have HW16 : Hid (Bt w.heap.size A1 w16 (.slice aW nW cW) R) := HA15.out.wW.grown hg16 (fun g e => by cases e; exact Or.inr hgx1)
  have HY16 : Hid (Bt A2 A3 w16 (.slice (some ⟨gy, 0, none⟩) (m + 3) cy) (room qs)) := HA15.out.yY.grown hg16 (fun g e => by cases e; exact Or.inl hgx2)
  have HT16 : Hid (Bt A5 A8 w16 (.slice a8 nW c8) R) := HT15.out.grown hg16 (fun g e => by cases e; exact Or.inl (show gx < A5 by omega))
  have HB16 : Hid (Below w.heap.size w w16) := bel_grown HA15.out.bel hg16 HA15.out.bel.size (fun g e => by cases e; show _ ≤ gx; omega)
  have hs16 : A3 ≤ w16.heap.size := Nat.le_trans hs15 hg16.size
  clear hg16 HA15 HT15
  go_wp2_with fail
  refine (mark_any A2 (some ⟨gy, 0, none⟩) m cy qs 103 w16 (by omega) (HYT.out _ HY16.out.own) (by omega)).mono ?_
  rintro e w17 ⟨⟨u, rfl⟩, hg17⟩
  have HW17 : Hid (Bt w.heap.size A1 w17 (.slice aW nW cW) R) := HW16.out.grown hg17 (fun g e => by cases e; exact Or.inr (show A1 ≤ gy by omega))
  have HT17 : Hid (Bt A5 A8 w17 (.slice a8 nW c8) R) := HT16.out.grown hg17 (fun g e => by cases e; exact Or.inl (show gy < A5 by omega))
  have HB17 : Hid (Below w.heap.size w w17) := bel_grown HB16.out hg17 HB16.out.size (fun g e => by cases e; show _ ≤ gy; omega)
  clear hg17 HW16 HT16 HB16 HY16
  go_wp2_with fail
  refine (psame_any a8 c8 aW cW R nW HK.out w17 HT17.out.own.lst.1 HW17.out.own.lst.1).mono ?_
  rintro e w18 ⟨rfl, hb18⟩
  have HB18 : Hid (Below w.heap.size w w18) := HB17.out.trans (hb18.mono HB17.out.size)
  clear hb18
  go_wp2_with fail
  go_ret
  exact ⟨rfl, HB18.out⟩
set_option maxRecDepth 100000 in
set_option maxHeartbeats 8000000 in
theorem cuts_any (va : Option Addr) (ca : Nat) (ps : List (Int × Int)) (n : Nat) (hn : ps.length = n) (vb : Option Addr) (cb : Nat) (qs : List (Int × Int)) (m : Nat) (hm : qs.length = m) (hbig : n + m ≤ 137438953472) (w : World) (hT : Tab w) (hlp : Lst E2 w va ps) (hlq : Lst E2 w vb qs) (hpp : ∀ p ∈ ps, InA p) (hpq : ∀ p ∈ qs, InA p) (hna : va = none → n = 0 ∧ ca = 0) (hnb : vb = none → m = 0 ∧ cb = 0) :
    Calls Tryd.prog 3 #[.slice va n ca, .slice vb m cb] w fun e w' => e = .returned (.bool true) ∧ Below w.heap.size w w' := by
  have HD := does1_any va ca ps n hn vb cb qs m hm hbig w hT hlp hlq hpp hpq hna hnb
  have HD2 : Hid (∀ w', Below w.heap.size w w' → Calls Tryd.prog 5 #[.int .i64 2, .slice va n ca, .slice vb m cb] w' fun e w2 => e = .returned (.bool true) ∧ Below w'.heap.size w' w2) := fun w' hb =>
    does2_any va ca ps n hn vb cb qs m hm hbig w' (hT.bel hb) (hlp.bel hb) (hlq.bel hb) hpp hpq hna hnb
  clear hlp hlq hpp hpq hn hm hna hnb hT
  go_enter Tryd.func3, Tryd.ntmps3
  go_wp2_with fail
  refine HD.mono ?_
  rintro e w1 ⟨rfl, hb1⟩
  have HB1 : Hid (Below w.heap.size w w1) := hb1
  clear hb1 HD
  go_wp2_with fail
  refine (HD2.out w1 HB1.out).mono ?_
  rintro e w2 ⟨rfl, hb2⟩
  have HB2 : Hid (Below w.heap.size w w2) := HB1.out.trans (hb2.mono HB1.out.size)
  clear hb2 HD2
  go_wp2_with fail
  go_ret
  exact ⟨rfl, HB2.out⟩
end Go.Proofs.YtaiichiedeoanabDoor.Pc
