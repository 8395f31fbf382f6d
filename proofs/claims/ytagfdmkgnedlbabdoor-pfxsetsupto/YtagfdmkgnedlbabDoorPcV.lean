/- PfxSets' law: what it answers. -/
import Derived.Test.YtagfdmkgnedlbabDoorPcT
import Derived.Test.YtagfdmkgnedlbabDoorPcU
import Derived.Test.YtagfdmkgnedlbabDoorPcO
namespace Go.Proofs.YtagfdmkgnedlbabDoor.Pc
open Go.ChangeShapes Go.WideShapes Go.ChangeAt Go.RowKit Go.Joins Go.Shelf Go.Proofs.YtagfdmkgnedlbabDoor.PM Go.Proofs.YtagfdmkgnedlbabDoor.Ask Go.Proofs.YtagfdmkgnedlbabDoor.Ge
set_option linter.unusedVariables false

theorem isSet_cov (ps : List (Int × Int)) (hp : ∀ p ∈ ps, InA p) : IsSet (covP ps) (anyH ps) := by
  have h := isSet_K 0 ps [] hp (fun p h => by cases h)
  have e : innW 0 ps [] = anyH ps := by
    funext x
    unfold innW
    simp
  unfold setK at h
  rw [e, List.append_nil] at h
  exact h
theorem cov_five : (covP [(5, 32)]).length = 1 := by decide
theorem has_five : has 5 32 5 = true := by decide
theorem cov2 {va vb : Option Addr} {n m ca cb : Nat} {ps qs : List (Int × Int)} (hn : ps.length = n) (hm : qs.length = m) (hbig : n + m ≤ 274877906944) {w w1 : World} (hT : Tab w) (hlp : Lst E2 w va ps) (hlq : Lst E2 w vb qs) (hpp : ∀ p ∈ ps, InA p) (hpq : ∀ p ∈ qs, InA p)
    (hw1 : w.alloc (Obj.cells #[.slice va n ca, .slice vb m cb] 22) = w1) :
    Calls Tryd.prog 6 #[.slice (some ⟨w.heap.size, 0, none⟩) 2 2] w1 fun e w' => ∃ a k c, e = .returned (.slice a k c) ∧ OwnL E2 w.heap.size w' (.slice a k c) (covP (ps ++ qs)) ∧ Below w.heap.size w w' := by
  obtain ⟨hl1, hb1⟩ := ll_made [(va, n, ca), (vb, m, cb)] [ps, qs] 2 rfl (by decide) rfl hw1 (fun i h1 h2 => by
    match i, h1 with
    | 0, _ => exact ⟨hlp, hn⟩
    | 1, _ => exact ⟨hlq, hm⟩)
  have HC := cover_any (some ⟨w.heap.size, 0, none⟩) 2 [(va, n, ca), (vb, m, cb)] [ps, qs] 2 rfl (by simp; omega) (fun l hl p hp => by
    simp at hl
    rcases hl with rfl | rfl
    · exact hpp p hp
    · exact hpq p hp) w1 (hT.bel hb1) hl1
  have e1 : [ps, qs].flatten = ps ++ qs := by simp
  rw [e1] at HC
  refine HC.mono ?_
  rintro e w2 ⟨a2, n2, c2, rfl, ho2, hb2⟩
  exact ⟨a2, n2, c2, rfl, ho2.mono hb1.size, hb1.trans (hb2.mono hb1.size)⟩
theorem cov1 {va : Option Addr} {n ca : Nat} {ps : List (Int × Int)} (hn : ps.length = n) (hbig : n ≤ 274877906944) {w w1 : World} (hT : Tab w) (hlp : Lst E2 w va ps) (hpp : ∀ p ∈ ps, InA p)
    (hw1 : w.alloc (Obj.cells #[.slice va n ca] 22) = w1) :
    Calls Tryd.prog 6 #[.slice (some ⟨w.heap.size, 0, none⟩) 1 1] w1 fun e w' => ∃ a k c, e = .returned (.slice a k c) ∧ OwnL E2 w.heap.size w' (.slice a k c) (covP ps) ∧ Below w.heap.size w w' := by
  obtain ⟨hl1, hb1⟩ := ll_made [(va, n, ca)] [ps] 1 rfl (by decide) rfl hw1 (fun i h1 h2 => by
    match i, h1 with
    | 0, _ => exact ⟨hlp, hn⟩)
  have HC := cover_any (some ⟨w.heap.size, 0, none⟩) 1 [(va, n, ca)] [ps] 1 rfl (by simp; omega) (fun l hl p hp => by
    simp at hl
    subst hl
    exact hpp p hp) w1 (hT.bel hb1) hl1
  have e1 : [ps].flatten = ps := by simp
  rw [e1] at HC
  refine HC.mono ?_
  rintro e w2 ⟨a2, n2, c2, rfl, ho2, hb2⟩
  exact ⟨a2, n2, c2, rfl, ho2.mono hb1.size, hb1.trans (hb2.mono hb1.size)⟩
theorem cov_turn (ps qs : List (Int × Int)) (hp : ∀ p ∈ ps, InA p) (hq : ∀ p ∈ qs, InA p) : covP (qs ++ ps.reverse) = covP (ps ++ qs) := by
  refine isSet_uniq (isSet_cov _ (fun p h => ?_)) (isSet_cov _ (fun p h => ?_)) (fun x _ _ => ?_)
  · rcases List.mem_append.1 h with h | h
    · exact hq p h
    · exact hp p (List.mem_reverse.1 h)
  · rcases List.mem_append.1 h with h | h
    · exact hp p h
    · exact hq p h
  · rw [anyH_app, anyH_app, anyH_rev, Bool.or_comm]
theorem cov_parts (ps qs : List (Int × Int)) (hp : ∀ p ∈ ps, InA p) (hq : ∀ p ∈ qs, InA p) : covP (setK 1 ps qs ++ setK 2 ps qs) = covP ps := by
  have h1 := isSet_K 1 ps qs hp hq
  have h2 := isSet_K 2 ps qs hp hq
  refine isSet_uniq (isSet_cov _ (fun p h => ?_)) (isSet_cov _ hp) (fun x x0 x1 => ?_)
  · rcases List.mem_append.1 h with h | h
    · exact ((isSet_lean h1).2 p h).2
    · exact ((isSet_lean h2).2 p h).2
  · rw [anyH_app, isSet_has h1 x0 x1, isSet_has h2 x0 x1]
    unfold innW
    cases anyH ps x <;> cases anyH qs x <;> rfl
theorem cov_cov (ps : List (Int × Int)) (hp : ∀ p ∈ ps, InA p) : covP (covP ps) = covP ps := by
  have h1 := isSet_cov ps hp
  refine isSet_uniq (isSet_cov _ (fun p h => ((isSet_lean h1).2 p h).2)) h1 (fun x x0 x1 => ?_)
  rw [isSet_has h1 x0 x1]
theorem both_turn (ps qs : List (Int × Int)) (hp : ∀ p ∈ ps, InA p) (hq : ∀ p ∈ qs, InA p) : setK 2 qs ps.reverse = setK 2 ps qs := by
  refine isSet_uniq (isSet_K 2 qs ps.reverse hq (fun p h => hp p (List.mem_reverse.1 h))) (isSet_K 2 ps qs hp hq) (fun x _ _ => ?_)
  unfold innW
  rw [anyH_rev]
  cases anyH ps x <;> cases anyH qs x <;> rfl
theorem rev_snoc (ps : List (Int × Int)) (i : Nat) (h : i < ps.length) : (ps.drop i).reverse = (ps.drop (i + 1)).reverse ++ [ps[i]] := by
  rw [List.drop_eq_getElem_cons h, List.reverse_cons]
set_option maxRecDepth 100000 in
set_option maxHeartbeats 8000000 in
theorem sets_any (va : Option Addr) (ca : Nat) (ps : List (Int × Int)) (n : Nat) (hn : ps.length = n) (vb : Option Addr) (cb : Nat) (qs : List (Int × Int)) (m : Nat) (hm : qs.length = m) (hbig : n + m ≤ 137438953472) (x : Int) (x0 : 0 ≤ x) (x1 : x < 4294967296) (w : World) (hT : Tab w) (hlp : Lst E2 w va ps) (hlq : Lst E2 w vb qs) (hpp : ∀ p ∈ ps, InA p) (hpq : ∀ p ∈ qs, InA p) :
    Calls Tryd.prog 4 #[.slice va n ca, .slice vb m cb, .int .u32 x] w fun e w' => e = .returned (.bool true) ∧ Below w.heap.size w w' := by
  have HT : Hid (Tab w) := hT
  have HLP : Hid (Lst E2 w va ps) := hlp
  have HLQ : Hid (Lst E2 w vb qs) := hlq
  have HPP : Hid (∀ p ∈ ps, InA p) := hpp
  have HPQ : Hid (∀ p ∈ qs, InA p) := hpq
  have HNP : Hid (ps.length = n) := hn
  have HNQ : Hid (qs.length = m) := hm
  clear hlp hlq hpp hpq hn hm hT
  go_enter Tryd.func4, Tryd.ntmps4
  obtain ⟨w1, hw1⟩ : ∃ w1, w.alloc (Obj.cells #[.int .u32 5, .int .i64 32] 28) = w1 := ⟨_, rfl⟩
  obtain ⟨hO1, hb1⟩ := own_made E2 [(5, 32)] 1 rfl (by decide) hw1
  obtain ⟨w2, hw2⟩ : ∃ w2, w1.alloc (Obj.cells #[.slice (some ⟨w.heap.size, 0, none⟩) 1 1] 22) = w2 := ⟨_, rfl⟩
  have HC := cov1 (ca := 1) rfl (by decide) (HT.out.bel hb1) hO1.lst.1 (fun p hp => by simp at hp; subst hp; exact ⟨by decide, by decide⟩) hw2
  have HB1 : Hid (Below w.heap.size w w1) := hb1
  clear hO1 hb1
  go_wp2_with fail
  refine HC.mono ?_
  rintro e w3 ⟨a3, n3, c3, rfl, ho3, hb3⟩
  obtain rfl : n3 = 1 := by
    have h1 := ho3.lst.2
    rw [cov_five] at h1
    exact h1.symm
  have HB3 : Hid (Below w.heap.size w w3) := HB1.out.trans (hb3.mono HB1.out.size)
  clear ho3 hb3 HC hw2 hw1 HB1
  go_wp2_with fail
  refine (has_yes 5 32 5 has_five (by decide) (by decide) (by decide) (by decide) _).mono ?_
  rintro e w4 ⟨rfl, hb4⟩
  have HB4 : Hid (Below w.heap.size w w4) := HB3.out.trans (hb4.mono HB3.out.size)
  clear hb4 HB3
  obtain ⟨w5, hw5⟩ : ∃ w5, w4.alloc (Obj.cells #[.slice va n ca, .slice vb m cb] 22) = w5 := ⟨_, rfl⟩
  have HC := cov2 HNP.out HNQ.out (by omega) (HT.out.bel HB4.out) (HLP.out.bel HB4.out) (HLQ.out.bel HB4.out) HPP.out HPQ.out hw5
  go_wp2_with fail
  refine HC.mono ?_
  rintro e w6 ⟨aA, nA, cA, rfl, hoA, hb6⟩
  have HA6 : Hid (OwnL E2 w4.heap.size w6 (.slice aA nA cA) (covP (ps ++ qs))) := hoA
  have HB6 : Hid (Below w.heap.size w w6) := HB4.out.trans (hb6.mono HB4.out.size)
  clear hoA hb6 HC hw5
  have HC := without_any va ca ps n HNP.out vb cb qs m HNQ.out (by omega) w6 (HT.out.bel HB6.out) (HLP.out.bel HB6.out) (HLQ.out.bel HB6.out) HPP.out HPQ.out
  go_wp2_with fail
  refine HC.mono ?_
  rintro e w7 ⟨aL, nL, cL, rfl, hoL, hb7⟩
  have HA7 : Hid (OwnL E2 w4.heap.size w7 (.slice aA nA cA) (covP (ps ++ qs))) := HA6.out.bel hb7
  have HL7 : Hid (OwnL E2 w6.heap.size w7 (.slice aL nL cL) (setK 1 ps qs)) := hoL
  have HB7 : Hid (Below w.heap.size w w7) := HB6.out.trans (hb7.mono HB6.out.size)
  clear hoL hb7 HC HA6
  have HC := both_any va ca ps n HNP.out vb cb qs m HNQ.out (by omega) w7 (HT.out.bel HB7.out) (HLP.out.bel HB7.out) (HLQ.out.bel HB7.out) HPP.out HPQ.out
  go_wp2_with fail
  refine HC.mono ?_
  rintro e w8 ⟨aU, nU, cU, rfl, hoU, hb8⟩
  have HA8 : Hid (OwnL E2 w4.heap.size w8 (.slice aA nA cA) (covP (ps ++ qs))) := HA7.out.bel hb8
  have HL8 : Hid (OwnL E2 w6.heap.size w8 (.slice aL nL cL) (setK 1 ps qs)) := HL7.out.bel hb8
  have HU8 : Hid (OwnL E2 w7.heap.size w8 (.slice aU nU cU) (setK 2 ps qs)) := hoU
  have HB8 : Hid (Below w.heap.size w w8) := HB7.out.trans (hb8.mono HB7.out.size)
  clear hoU hb8 HC HA7 HL7
  obtain ⟨pa, hpa⟩ : ∃ b, anyH ps x = b := ⟨_, rfl⟩
  obtain ⟨qa, hqa⟩ : ∃ b, anyH qs x = b := ⟨_, rfl⟩
  have HPA : Hid (anyH ps x = pa) := hpa
  have HQA : Hid (anyH qs x = qa) := hqa
  clear hpa hqa
  have HC := holds_any va ca ps n HNP.out x x0 x1 w8 (HLP.out.bel HB8.out) HPP.out pa HPA.out
  go_wp2_with fail
  refine HC.mono ?_
  rintro e w9 ⟨rfl, hb9⟩
  have HA9 : Hid (OwnL E2 w4.heap.size w9 (.slice aA nA cA) (covP (ps ++ qs))) := HA8.out.bel hb9
  have HL9 : Hid (OwnL E2 w6.heap.size w9 (.slice aL nL cL) (setK 1 ps qs)) := HL8.out.bel hb9
  have HU9 : Hid (OwnL E2 w7.heap.size w9 (.slice aU nU cU) (setK 2 ps qs)) := HU8.out.bel hb9
  have HB9 : Hid (Below w.heap.size w w9) := HB8.out.trans (hb9.mono HB8.out.size)
  clear hb9 HC HA8 HL8 HU8
  have HC := holds_any vb cb qs m HNQ.out x x0 x1 w9 (HLQ.out.bel HB9.out) HPQ.out qa HQA.out
  go_wp2_with fail
  refine HC.mono ?_
  rintro e w10 ⟨rfl, hb10⟩
  have HA10 : Hid (OwnL E2 w4.heap.size w10 (.slice aA nA cA) (covP (ps ++ qs))) := HA9.out.bel hb10
  have HL10 : Hid (OwnL E2 w6.heap.size w10 (.slice aL nL cL) (setK 1 ps qs)) := HL9.out.bel hb10
  have HU10 : Hid (OwnL E2 w7.heap.size w10 (.slice aU nU cU) (setK 2 ps qs)) := HU9.out.bel hb10
  have HB10 : Hid (Below w.heap.size w w10) := HB9.out.trans (hb10.mono HB9.out.size)
  clear hb10 HC HA9 HL9 HU9
  have HIA : Hid (IsSet (covP (ps ++ qs)) (anyH (ps ++ qs))) := isSet_cov _ (fun p hp => by
    rcases List.mem_append.1 hp with h1 | h1
    · exact HPP.out p h1
    · exact HPQ.out p h1)
  have HIL : Hid (IsSet (setK 1 ps qs) (innW 1 ps qs)) := isSet_K 1 ps qs HPP.out HPQ.out
  have HIU : Hid (IsSet (setK 2 ps qs) (innW 2 ps qs)) := isSet_K 2 ps qs HPP.out HPQ.out
  have HLA : Hid ((covP (ps ++ qs)).length ≤ 4294967296) := covP_len _ (fun p hp => by
    rcases List.mem_append.1 hp with h1 | h1
    · exact HPP.out p h1
    · exact HPQ.out p h1)
  have HLL : Hid ((setK 1 ps qs).length ≤ 4294967296) := setK_len 1 ps qs HPP.out HPQ.out
  have HLU : Hid ((setK 2 ps qs).length ≤ 4294967296) := setK_len 2 ps qs HPP.out HPQ.out
  have HHA : Hid (anyH (covP (ps ++ qs)) x = (pa || qa)) := by show _ = _; rw [isSet_has HIA.out x0 x1, anyH_app, HPA.out, HQA.out]
  have HHL : Hid (anyH (setK 1 ps qs) x = (pa && !qa)) := by show _ = _; rw [isSet_has HIL.out x0 x1]; unfold innW; rw [HPA.out, HQA.out]; rfl
  have HHU : Hid (anyH (setK 2 ps qs) x = (pa && qa)) := by show _ = _; rw [isSet_has HIU.out x0 x1]; unfold innW; rw [HPA.out, HQA.out]; rfl
  have HPT : Hid (∀ p ∈ ps.reverse, InA p) := fun p h => HPP.out p (List.mem_reverse.1 h)
  have HE1 : Hid (covP (qs ++ ps.reverse) = covP (ps ++ qs)) := cov_turn ps qs HPP.out HPQ.out
  have HE2 : Hid (covP (setK 1 ps qs ++ setK 2 ps qs) = covP ps) := cov_parts ps qs HPP.out HPQ.out
  have HE3 : Hid (covP (covP (ps ++ qs)) = covP (ps ++ qs)) := cov_cov (ps ++ qs) (fun p hp => by
    rcases List.mem_append.1 hp with h1 | h1
    · exact HPP.out p h1
    · exact HPQ.out p h1)
  have HE4 : Hid (setK 2 qs ps.reverse = setK 2 ps qs) := both_turn ps qs HPP.out HPQ.out
  have HLP2 : Hid ((covP ps).length ≤ 4294967296) := covP_len ps HPP.out
  obtain ⟨SA, hSA⟩ : ∃ S, covP (ps ++ qs) = S := ⟨_, rfl⟩
  obtain ⟨SL, hSL⟩ : ∃ S, setK 1 ps qs = S := ⟨_, rfl⟩
  obtain ⟨SU, hSU⟩ : ∃ S, setK 2 ps qs = S := ⟨_, rfl⟩
  rw [hSA] at HA10 HIA HLA HHA HE1 HE3
  rw [hSL] at HL10 HIL HLL HHL HE2
  rw [hSU] at HU10 HIU HLU HHU HE2 HE4
  obtain rfl : SA.length = nA := HA10.out.lst.2
  obtain rfl : SL.length = nL := HL10.out.lst.2
  obtain rfl : SU.length = nU := HU10.out.lst.2
  clear hSA hSL hSU HPA HQA
  have HC1 := fun W (hb : Below w10.heap.size w10 W) => holds_any aA cA SA _ rfl x x0 x1 W (HA10.out.lst.1.bel hb) (fun p hp => ((isSet_lean HIA.out).2 p hp).2) _ HHA.out
  have HC2 := fun W (hb : Below w10.heap.size w10 W) => holds_any aL cL SL _ rfl x x0 x1 W (HL10.out.lst.1.bel hb) (fun p hp => ((isSet_lean HIL.out).2 p hp).2) _ HHL.out
  have HC3 := fun W (hb : Below w10.heap.size w10 W) => holds_any aU cU SU _ rfl x x0 x1 W (HU10.out.lst.1.bel hb) (fun p hp => ((isSet_lean HIU.out).2 p hp).2) _ HHU.out
  clear HHA HHL HHU
  cases pa <;> cases qa
  all_goals
    go_wp2_with fail
    refine (HC1 w10 (Below.refl _ _)).mono ?_
    rintro e w11 ⟨rfl, hb11⟩
    go_wp2_with fail
    refine (HC2 w11 hb11).mono ?_
    rintro e w12 ⟨rfl, hb12⟩
    have hb12' : Below w10.heap.size w10 w12 := hb11.trans (hb12.mono hb11.size)
    go_wp2_with fail
    refine (HC3 w12 hb12').mono ?_
    rintro e w13 ⟨rfl, hb13⟩
    have HD13 : Hid (Below w10.heap.size w10 w13) := hb12'.trans (hb13.mono hb12'.size)
    clear hb11 hb12 hb12' hb13 HC1 HC2 HC3
    go_wp2_with fail
    refine (lean_any aA cA SA _ rfl HLA.out w13 (HA10.out.lst.1.bel HD13.out) (isSet_lean HIA.out).1 (isSet_lean HIA.out).2).mono ?_
    rintro e w14 ⟨rfl, hb14⟩
    have HD14 : Hid (Below w10.heap.size w10 w14) := HD13.out.trans (hb14.mono HD13.out.size)
    clear hb14 HD13
    go_wp2_with fail
    refine (lean_any aL cL SL _ rfl HLL.out w14 (HL10.out.lst.1.bel HD14.out) (isSet_lean HIL.out).1 (isSet_lean HIL.out).2).mono ?_
    rintro e w15 ⟨rfl, hb15⟩
    have HD15 : Hid (Below w10.heap.size w10 w15) := HD14.out.trans (hb15.mono HD14.out.size)
    clear hb15 HD14
    go_wp2_with fail
    refine (lean_any aU cU SU _ rfl HLU.out w15 (HU10.out.lst.1.bel HD15.out) (isSet_lean HIU.out).1 (isSet_lean HIU.out).2).mono ?_
    rintro e w16 ⟨rfl, hb16⟩
    have HD16 : Hid (Below w10.heap.size w10 w16) := HD15.out.trans (hb16.mono HD15.out.size)
    clear hb16 HD15
    go_wp2_with fail
    go_loopw [12, 13] (fun ov iv wr => ∃ (i : Nat), i ≤ n ∧ iv = .int .i64 ((i : Int) - 1) ∧ OwnL E2 w10.heap.size wr ov (ps.drop i).reverse ∧ Below w10.heap.size w10 wr) (fun _ i _ => (intOf i + 1).toNat)
    case atStart => exact ⟨n, Nat.le_refl _, rfl, by rw [← HNP.out, List.drop_length]; exact OwnL.nil _ _ _, HD16.out⟩
    case round =>
      obtain ⟨i, hi, rfl, how, hbl⟩ := hrel
      have HO : Hid (OwnL E2 w10.heap.size wr u12 (ps.drop i).reverse) := how
      have HB : Hid (Below w10.heap.size w10 wr) := hbl
      clear how hbl
      cases i with
      | succ j =>
        have e0 : ((j + 1 : Nat) : Int) - 1 = (j : Int) := by omega
        rw [e0]
        have hjl : j < ps.length := by rw [HNP.out]; omega
        have HBW : Hid (Below w.heap.size w wr) := HB10.out.trans (HB.out.mono HB10.out.size)
        obtain ⟨b, o, rfl, hbl, hc⟩ := (HLP.out.bel HBW.out).cells j hjl
        have c0 : wr.cell? ⟨b, o + j * 2, none⟩ = some (.int .u32 ps[j].1) := hc 0 (by decide)
        have c1 : wr.cell? ⟨b, o + j * 2 + 1, none⟩ = some (.int .i64 ps[j].2) := hc 1 (by decide)
        have HRV : Hid ((ps.drop j).reverse = (ps.drop (j + 1)).reverse ++ [ps[j]]) := rev_snoc ps j hjl
        have hzl : (ps.drop (j + 1)).reverse.length ≤ 1099511627775 := by rw [List.length_reverse, List.length_drop, HNP.out]; omega
        obtain ⟨⟨pa, pn⟩, hpp⟩ : ∃ p, ps[j] = p := ⟨_, rfl⟩
        rw [hpp] at c0 c1 HRV
        dsimp only at c0 c1
        obtain ⟨zs, hzs⟩ : ∃ z, (ps.drop (j + 1)).reverse = z := ⟨_, rfl⟩
        rw [hzs] at HO HRV hzl
        have hjj : (j : Int) < n := by omega
        have jj0 : (0 : Int) ≤ j := by omega
        obtain ⟨wC, hwC⟩ : ∃ wC, wr.alloc (Obj.cells #[.int .u32 pa, .int .i64 pn] 28) = wC := ⟨_, rfl⟩
        have HWC : Hid (wr.alloc (Obj.cells (E2.enc (pa, pn)).toArray E2.e) = wC) := hwC
        have hbC : Below wr.heap.size wr wC := by rw [← hwC]; exact (Below.refl _ wr).alloc (Nat.le_refl _) _
        have HBC : Hid (Below w10.heap.size w10 wC) := HB.out.trans (hbC.mono HB.out.size)
        have HOC : Hid (OwnL E2 w10.heap.size wC u12 zs) := HO.out.bel hbC
        have hmC : w10.heap.size ≤ wC.heap.size := HBC.out.size
        clear hbC hc hpp hzs e0
        go_wp2_with (at_builtin; refine list_app1 E2 rfl _ _ 22 rfl rfl w10.heap.size u12 zs (pa, pn) hzl (w := wr) wC rfl HOC.out rfl hmC HWC.out.symm ?_)
        intro v' w' ho hg hat
        have HO3 : Hid (OwnL E2 w10.heap.size w' v' (ps.drop j).reverse) := by show OwnL _ _ _ _ _; rw [HRV.out]; exact ho.out
        have HB3 : Hid (Below w10.heap.size w10 w') := HBC.out.trans ((Below.refl _ wC).grown hg.out hmC (fun g e => (HOC.out.row.lt g e).1))
        clear ho hg hat HWC hwC
        go_wp2_with fail
        exact ⟨⟨j, by omega, rfl, HO3.out, HB3.out⟩, by simp [intOf]⟩
      | zero =>
        have e0 : ((0 : Nat) : Int) - 1 = -1 := rfl
        rw [e0]
        rw [List.drop_zero] at HO
        have HNT : Hid (ps.reverse.length = n) := by show _ = _; rw [List.length_reverse]; exact HNP.out
        obtain ⟨aT, cT, hu, -⟩ := HO.out.form
        rw [HNT.out] at hu
        subst hu
        have HBW : Hid (Below w.heap.size w wr) := HB10.out.trans (HB.out.mono HB10.out.size)
        clear HD16
        obtain ⟨w20, hw20⟩ : ∃ w20, wr.alloc (Obj.cells #[.slice vb m cb, .slice aT n cT] 22) = w20 := ⟨_, rfl⟩
        have HC := cov2 HNQ.out HNT.out (by omega) (HT.out.bel HBW.out) (HLQ.out.bel HBW.out) HO.out.lst.1 HPQ.out HPT.out hw20
        rw [HE1.out] at HC
        go_wp2_with fail
        refine HC.mono ?_
        rintro e w21 ⟨a21, n21, c21, rfl, ho21, hb21⟩
        obtain rfl : SA.length = n21 := ho21.lst.2
        have HB21 : Hid (Below w10.heap.size w10 w21) := HB.out.trans (hb21.mono HB.out.size)
        have HO21 : Hid (OwnL E2 w10.heap.size w21 (.slice aT n cT) ps.reverse) := HO.out.bel hb21
        have HP := psame_any a21 c21 aA cA SA _ rfl w21 ho21.lst.1 (HA10.out.bel HB21.out).lst.1
        clear ho21 hb21 HC hw20 HO
        go_wp2_with fail
        refine HP.mono ?_
        rintro e w22 ⟨rfl, hb22⟩
        have HB22 : Hid (Below w10.heap.size w10 w22) := HB21.out.trans (hb22.mono HB21.out.size)
        have HO22 : Hid (OwnL E2 w10.heap.size w22 (.slice aT n cT) ps.reverse) := HO21.out.bel hb22
        clear hb22 HP HO21 HB21
        obtain ⟨w23, hw23⟩ : ∃ w23, w22.alloc (Obj.cells #[.slice aL SL.length cL, .slice aU SU.length cU] 22) = w23 := ⟨_, rfl⟩
        have HBW22 : Hid (Below w.heap.size w w22) := HB10.out.trans (HB22.out.mono HB10.out.size)
        have HC := cov2 (ca := cL) (cb := cU) (w := w22) (w1 := w23) rfl rfl (by have h1 := HLL.out; have h2 := HLU.out; omega) (HT.out.bel HBW22.out) (HL10.out.bel HB22.out).lst.1 (HU10.out.bel HB22.out).lst.1 (fun p hp => ((isSet_lean HIL.out).2 p hp).2) (fun p hp => ((isSet_lean HIU.out).2 p hp).2) hw23
        rw [HE2.out] at HC
        go_wp2_with fail
        refine HC.mono ?_
        rintro e w24 ⟨a24, n24, c24, rfl, ho24, hb24⟩
        obtain rfl : (covP ps).length = n24 := ho24.lst.2
        have HB24 : Hid (Below w10.heap.size w10 w24) := HB22.out.trans (hb24.mono HB22.out.size)
        have HO24 : Hid (OwnL E2 w10.heap.size w24 (.slice aT n cT) ps.reverse) := HO22.out.bel hb24
        have HX24 : Hid (OwnL E2 w22.heap.size w24 (.slice a24 (covP ps).length c24) (covP ps)) := ho24
        clear ho24 hb24 HC hw23 HO22 HBW22
        obtain ⟨w25, hw25⟩ : ∃ w25, w24.alloc (Obj.cells #[.slice va n ca] 22) = w25 := ⟨_, rfl⟩
        have HBW24 : Hid (Below w.heap.size w w24) := HB10.out.trans (HB24.out.mono HB10.out.size)
        have HC := cov1 (ca := ca) HNP.out (by omega) (HT.out.bel HBW24.out) (HLP.out.bel HBW24.out) HPP.out hw25
        go_wp2_with fail
        refine HC.mono ?_
        rintro e w26 ⟨a26, n26, c26, rfl, ho26, hb26⟩
        obtain rfl : (covP ps).length = n26 := ho26.lst.2
        have HB26 : Hid (Below w10.heap.size w10 w26) := HB24.out.trans (hb26.mono HB24.out.size)
        have HO26 : Hid (OwnL E2 w10.heap.size w26 (.slice aT n cT) ps.reverse) := HO24.out.bel hb26
        have HP := psame_any a24 c24 a26 c26 (covP ps) _ rfl w26 (HX24.out.bel hb26).lst.1 ho26.lst.1
        clear ho26 hb26 HC hw25 HO24 HBW24 HX24
        go_wp2_with fail
        refine HP.mono ?_
        rintro e w27 ⟨rfl, hb27⟩
        have HB27 : Hid (Below w10.heap.size w10 w27) := HB26.out.trans (hb27.mono HB26.out.size)
        have HO27 : Hid (OwnL E2 w10.heap.size w27 (.slice aT n cT) ps.reverse) := HO26.out.bel hb27
        clear hb27 HP HO26 HB26
        obtain ⟨w28, hw28⟩ : ∃ w28, w27.alloc (Obj.cells #[.slice aA SA.length cA] 22) = w28 := ⟨_, rfl⟩
        have HBW27 : Hid (Below w.heap.size w w27) := HB10.out.trans (HB27.out.mono HB10.out.size)
        have HC := cov1 (ca := cA) (w := w27) (w1 := w28) rfl (by have h1 := HLA.out; omega) (HT.out.bel HBW27.out) (HA10.out.bel HB27.out).lst.1 (fun p hp => ((isSet_lean HIA.out).2 p hp).2) hw28
        rw [HE3.out] at HC
        go_wp2_with fail
        refine HC.mono ?_
        rintro e w29 ⟨a29, n29, c29, rfl, ho29, hb29⟩
        obtain rfl : SA.length = n29 := ho29.lst.2
        have HB29 : Hid (Below w10.heap.size w10 w29) := HB27.out.trans (hb29.mono HB27.out.size)
        have HO29 : Hid (OwnL E2 w10.heap.size w29 (.slice aT n cT) ps.reverse) := HO27.out.bel hb29
        have HP := psame_any a29 c29 aA cA SA _ rfl w29 ho29.lst.1 (HA10.out.bel HB29.out).lst.1
        clear ho29 hb29 HC hw28 HO27 HBW27
        go_wp2_with fail
        refine HP.mono ?_
        rintro e w30 ⟨rfl, hb30⟩
        have HB30 : Hid (Below w10.heap.size w10 w30) := HB29.out.trans (hb30.mono HB29.out.size)
        have HO30 : Hid (OwnL E2 w10.heap.size w30 (.slice aT n cT) ps.reverse) := HO29.out.bel hb30
        clear hb30 HP HO29 HB29
        have HBW30 : Hid (Below w.heap.size w w30) := HB10.out.trans (HB30.out.mono HB10.out.size)
        have HC := both_any vb cb qs m HNQ.out aT cT ps.reverse n HNT.out (by omega) w30 (HT.out.bel HBW30.out) (HLQ.out.bel HBW30.out) HO30.out.lst.1 HPQ.out HPT.out
        rw [HE4.out] at HC
        go_wp2_with fail
        refine HC.mono ?_
        rintro e w31 ⟨a31, n31, c31, rfl, ho31, hb31⟩
        obtain rfl : SU.length = n31 := ho31.lst.2
        have HB31 : Hid (Below w10.heap.size w10 w31) := HB30.out.trans (hb31.mono HB30.out.size)
        have HP := psame_any a31 c31 aU cU SU _ rfl w31 ho31.lst.1 (HU10.out.bel HB31.out).lst.1
        clear ho31 hb31 HC HO30 HBW30
        go_wp2_with fail
        refine HP.mono ?_
        rintro e w32 ⟨rfl, hb32⟩
        have HB32 : Hid (Below w10.heap.size w10 w32) := HB31.out.trans (hb32.mono HB31.out.size)
        have HBW32 : Hid (Below w.heap.size w w32) := HB10.out.trans (HB32.out.mono HB10.out.size)
        clear hb32 HP HB31
        go_wp2_with fail
        go_ret
        exact ⟨rfl, HBW32.out⟩
end Go.Proofs.YtagfdmkgnedlbabDoor.Pc
