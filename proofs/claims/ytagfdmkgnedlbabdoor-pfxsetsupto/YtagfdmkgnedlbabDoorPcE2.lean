/- The document's PfxSet: what it answers. -/
import Derived.Test.YtagfdmkgnedlbabDoorPcE
namespace Go.Proofs.YtagfdmkgnedlbabDoor.Pc
open Go.ChangeShapes Go.WideShapes Go.ChangeAt Go.RowKit Go.Joins Go.Proofs.YtagfdmkgnedlbabDoor.PM Go.Proofs.YtagfdmkgnedlbabDoor.Ask Go.Proofs.YtagfdmkgnedlbabDoor.Ge
set_option linter.unusedVariables false

set_option maxRecDepth 100000 in
set_option maxHeartbeats 16000000 in
theorem set2_any (va : Option Addr) (ca : Nat) (ps : List (Int × Int)) (n : Nat) (hn : ps.length = n) (vb : Option Addr) (cb : Nat) (qs : List (Int × Int)) (m : Nat) (hm : qs.length = m) (hbig : n + m ≤ 274877906944) (w : World) (hlp : Lst E2 w va ps) (hlq : Lst E2 w vb qs) (hpp : ∀ p ∈ ps, InA p) (hpq : ∀ p ∈ qs, InA p) (hna : va = none → n = 0 ∧ ca = 0) (hnb : vb = none → m = 0 ∧ cb = 0) :
    Calls Tryd.prog 25 #[.slice va n ca, .slice vb m cb, .int .i64 2] w fun e w' => ∃ a n c, e = .returned (.slice a n c) ∧ OwnL E2 w.heap.size w' (.slice a n c) (setP (innW 2 ps qs) (ends (ps ++ qs))) ∧ Below w.heap.size w w' := by
  have HLP : Hid (Lst E2 w va ps) := hlp
  have HLQ : Hid (Lst E2 w vb qs) := hlq
  have HPP : Hid (∀ p ∈ ps, InA p) := hpp
  have HPQ : Hid (∀ p ∈ qs, InA p) := hpq
  have HNP : Hid (ps.length = n) := hn
  have HNQ : Hid (qs.length = m) := hm
  have HNA : Hid (va = none → n = 0 ∧ ca = 0) := hna
  have HNB : Hid (vb = none → m = 0 ∧ cb = 0) := hnb
  have hEk := ends_eok (ps ++ qs) (fun p hp => by
    rcases List.mem_append.1 hp with h1 | h1
    · exact hpp p h1
    · exact hpq p h1)
  have hEo := eok_ends hEk (innW 2 ps qs) (innW_const hEk 2)
  obtain ⟨E, hE⟩ : ∃ E, ends (ps ++ qs) = E := ⟨_, rfl⟩
  rw [hE] at hEk hEo ⊢
  have HE0 : Hid (ends (ps ++ qs) = E) := hE
  clear hE
  clear hlp hlq hpp hpq hn hm hna hnb
  go_enter Tryd.func25, Tryd.ntmps25
  obtain ⟨w1, hw1⟩ : ∃ w1, w.alloc (Obj.cells #[] 28) = w1 := ⟨_, rfl⟩
  have HM : Hid (OwnL E2 w.heap.size w1 (.slice (some ⟨w.heap.size, 0, none⟩) 0 0) [] ∧ Below w.heap.size w w1) := own_made0 E2 hw1
  have hm1 : w.heap.size ≤ w1.heap.size := HM.out.2.size
  have HL1 : Hid (Lst E2 w1 va ps) := HLP.out.bel HM.out.2
  have hg1 : ([] : List (Int × Int)).length + n ≤ 1099511627775 := by simp; omega
  go_wp2_with (at_builtin; refine list_appL E2 rfl _ _ 22 rfl rfl w.heap.size (.slice (some ⟨w.heap.size, 0, none⟩) 0 0) [] ps va n ca w1 hg1 rfl HM.out.1 rfl HL1.out HNA.out HNP.out hm1 ?_)
  intro v2 w2 ho2 hg2 hat2
  have HO2 : Hid (OwnL E2 w.heap.size w2 v2 ps) := ho2.out
  have HB2 : Hid (Below w.heap.size w w2) := HM.out.2.trans ((Below.refl _ w1).grown hg2.out hm1 (fun g e => by cases e; exact Nat.le_refl _))
  have hm2 : w.heap.size ≤ w2.heap.size := HB2.out.size
  have HL2 : Hid (Lst E2 w2 vb qs) := HLQ.out.bel HB2.out
  have hg2' : ps.length + m ≤ 1099511627775 := by rw [HNP.out]; omega
  clear ho2 hg2 hat2 hw1 hg1
  go_wp2_with (at_builtin; refine list_appL E2 rfl _ _ 22 rfl rfl w.heap.size v2 ps qs vb m cb w2 hg2' rfl HO2.out rfl HL2.out HNB.out HNQ.out hm2 ?_)
  intro v3 w3 ho3 hg3 hat3
  obtain ⟨a3, c3, hv3, -⟩ := ho3.out.form
  obtain ⟨n3, hn3⟩ : ∃ q, (ps ++ qs).length = q := ⟨_, rfl⟩
  rw [hn3] at hv3
  subst hv3
  have HL3 : Hid (Lst E2 w3 a3 (ps ++ qs)) := ho3.out.lst.1
  have HB3 : Hid (Below w.heap.size w w3) := HB2.out.trans ((Below.refl _ w2).grown hg3.out hm2 (fun g e => (HO2.out.row.lt g e).1))
  have HN3 : Hid ((ps ++ qs).length = n3) := hn3
  have hn3b : n3 ≤ 274877906944 := by rw [← hn3, List.length_append, HNP.out, HNQ.out]; omega
  clear ho3 hg3 hat3 hn3
  go_wp2_with fail
  refine (ends_any a3 c3 (ps ++ qs) n3 HN3.out hn3b w3 HL3.out (fun p hp => by
    rcases List.mem_append.1 hp with h1 | h1
    · exact HPP.out p h1
    · exact HPQ.out p h1)).mono ?_
  rintro e w4 ⟨aE, nE, cE, rfl, hoE, hbE, hnE⟩
  rw [HE0.out] at hoE
  obtain ⟨hlE, hlenE⟩ := hoE.lst
  have HLE : Hid (Lst EU w4 aE E) := hlE
  have HNE : Hid (E.length = nE) := hlenE
  have HEK : Hid (EOk E (ps ++ qs)) := hEk
  have HEO : Hid (EndsOk (innW 2 ps qs) E ∧ ∃ l, E = 0 :: l) := hEo
  have HBA : Hid (Below w.heap.size w w4) := HB3.out.trans (hbE.mono HB3.out.size)
  obtain ⟨N, hN⟩ : ∃ N, w4.heap.size = N := ⟨_, rfl⟩
  have hN4 : w.heap.size ≤ N := by rw [← hN]; exact HBA.out.size
  have hnE1 : 1 ≤ nE := by
    rw [← hlenE]
    exact List.length_pos_of_mem hEk.top
  obtain ⟨bE, oE, haE, -, -⟩ := hlE.cells 0 (by omega)
  subst haE
  have HCE0 : Hid (∀ (i : Nat) (hi : i < E.length) W, Below N w4 W → W.cell? ⟨bE, oE + i, none⟩ = some (.int .u64 E[i])) := fun i hi W hW => by
    obtain ⟨b, o, e, -, hc⟩ := (HLE.out.bel (by rw [hN]; exact hW)).cells i hi
    cases e
    have h1 := hc 0 (by decide)
    simpa [EU] using h1
  have HST : Hid (setP (innW 2 ps qs) E = [] ++ cut (runs (innW 2 ps qs) (E.drop 0) false 0)) := rfl
  clear hoE hbE hlE hlenE hEk hEo HL3 HB3 HL2 HB2 HO2 HM HL1
  go_wp2_with fail
  go_loopw [8, 9, 10, 11] (fun ov bv fv iv wr => ∃ (i : Nat) (op : Bool) (fr : Int) (xs : List (Int × Int)), i < nE ∧ iv = .int .i64 (i : Int) ∧ bv = .bool op ∧ fv = .int .u64 fr ∧ OwnL E2 N wr ov xs ∧ Below N w4 wr ∧ setP (innW 2 ps qs) E = xs ++ cut (runs (innW 2 ps qs) (E.drop i) op fr) ∧ (op = true → 0 ≤ fr ∧ fr < E.getD i 0 ∧ (xs.length : Int) ≤ fr) ∧ (op = false → (xs.length : Int) ≤ E.getD i 0)) (fun _ _ _ i _ => nE - (intOf i).toNat)
  case atStart => exact ⟨0, false, 0, [], by omega, rfl, rfl, rfl, OwnL.nil _ _ _, by rw [← hN]; exact Below.refl _ _, HST.out, (fun e => by cases e), fun _ => by obtain ⟨-, l, hl⟩ := HEO.out; rw [hl]; simp⟩
  case round =>
    obtain ⟨i, op, fr, xs, hi, rfl, rfl, rfl, how, hbl, hset, hop, hcl⟩ := hrel
    obtain ⟨ov, hov⟩ : ∃ v, u8 = v := ⟨_, rfl⟩
    rw [hov] at how ⊢
    have HXO : Hid (OwnL E2 N wr ov xs) := how
    have HXB : Hid (Below N w4 wr) := hbl
    clear how hbl hov HST
    have hil : i < E.length := by rw [HNE.out]; exact hi
    obtain ⟨a, ha⟩ : ∃ a, E[i] = a := ⟨_, rfl⟩
    have hga : E.getD i 0 = a := by rw [List.getD_eq_getElem?_getD, List.getElem?_eq_getElem hil, ha]; rfl
    rw [hga] at hop hcl
    have HCE : Hid (∀ W, Below N w4 W → W.cell? ⟨bE, oE + i, none⟩ = some (.int .u64 a)) := fun W hW => by rw [HCE0.out i hil W hW, ha]
    have hab := HEK.out.bd a (by rw [← ha]; exact List.getElem_mem hil)
    by_cases hlt : i + 1 < nE
    · have hil2 : i + 1 < E.length := by rw [HNE.out]; exact hlt
      obtain ⟨b, hb⟩ : ∃ b, E[i + 1] = b := ⟨_, rfl⟩
      have hltb : a < b := by
        rw [← ha, ← hb]
        exact List.pairwise_iff_getElem.1 HEK.out.rise i (i + 1) hil hil2 (by omega)
      have hbb := HEK.out.bd b (by rw [← hb]; exact List.getElem_mem hil2)
      obtain ⟨l, hl⟩ : ∃ l, E.drop (i + 2) = l := ⟨_, rfl⟩
      have HDR : Hid (E.drop (i + 1) = b :: l) := by show _ = _; rw [List.drop_eq_getElem_cons hil2, hb, hl]
      have HSET : Hid (setP (innW 2 ps qs) E = xs ++ cut (runs (innW 2 ps qs) (a :: b :: l) op fr)) := by
        have e : E.drop i = a :: b :: l := by rw [List.drop_eq_getElem_cons hil, ha, HDR.out]
        rw [e] at hset
        exact hset
      have HEB : Hid (E.getD (i + 1) 0 = b) := by show _ = _; rw [List.getD_eq_getElem?_getD, List.getElem?_eq_getElem hil2, hb]; rfl
      have HOP : Hid (op = true → 0 ≤ fr ∧ fr < a ∧ (xs.length : Int) ≤ fr) := hop
      have HCL : Hid (op = false → (xs.length : Int) ≤ a) := hcl
      obtain ⟨ia, hia⟩ : ∃ t, anyH ps a = t := ⟨_, rfl⟩
      have HIA : Hid (anyH ps a = ia) := hia
      have a0 : 0 ≤ a := hab.1
      have a1 : a < 4294967296 := by omega
      have hu : IntKind.u32.wrap a = a := u32_id a0 a1
      have c0 := HCE.out wr HXB.out
      have hii : (i : Int) + 1 < nE := by omega
      have hii2 : (i : Int) < nE := by omega
      have ii0 : (0 : Int) ≤ i := by omega
      have hwi : IntKind.i64.wrap ((i : Int) + 1) = (i : Int) + 1 := by rw [IntWalk.i64_in _ (by omega)]
      clear hset hop hcl hia hl ha hga
      cases ia with
      | true =>
        go_wp2_with fail
        refine (in_any va ca ps n HNP.out a a0 a1 _ (HLP.out.bel (HBA.out.trans (HXB.out.mono hN4))) HPP.out _ HIA.out).mono ?_
        rintro e w5 ⟨rfl, hb5⟩
        have HXO1 : Hid (OwnL E2 N w5 ov xs) := HXO.out.bel hb5
        have HXB1 : Hid (Below N w4 w5) := HXB.out.trans (hb5.mono (by have := HXB.out.size; omega))
        clear hb5 HXO HXB c0
        have HXO : Hid (OwnL E2 N w5 ov xs) := HXO1.out
        have HXB : Hid (Below N w4 w5) := HXB1.out
        clear HXO1 HXB1
        have c0 : w5.cell? ⟨bE, oE + i, none⟩ = some (.int .u64 a) := HCE.out w5 HXB.out
        obtain ⟨iq, hiq⟩ : ∃ t, anyH qs a = t := ⟨_, rfl⟩
        have HIQ : Hid (anyH qs a = iq) := hiq
        clear hiq
        cases iq with
        | true =>
          go_wp2_with fail
          refine (in_any vb cb qs m HNQ.out a a0 a1 _ (HLQ.out.bel (HBA.out.trans (HXB.out.mono hN4))) HPQ.out _ HIQ.out).mono ?_
          rintro e w6 ⟨rfl, hb6⟩
          have HXO1 : Hid (OwnL E2 N w6 ov xs) := HXO.out.bel hb6
          have HXB1 : Hid (Below N w4 w6) := HXB.out.trans (hb6.mono (by have := HXB.out.size; omega))
          clear hb6 HXO HXB c0
          have HXO : Hid (OwnL E2 N w6 ov xs) := HXO1.out
          have HXB : Hid (Below N w4 w6) := HXB1.out
          clear HXO1 HXB1
          have c0 : w6.cell? ⟨bE, oE + i, none⟩ = some (.int .u64 a) := HCE.out w6 HXB.out
          have HI : Hid (innW 2 ps qs a = true) := by
            show _ = _
            unfold innW
            rw [HIA.out, HIQ.out]
            rfl
          cases op with
          | true =>
            obtain ⟨f0, f1, f2⟩ := HOP.out rfl
            have HN2 : Hid (setP (innW 2 ps qs) E = xs ++ cut (runs (innW 2 ps qs) (b :: l) true fr)) := by
              show _ = _
              rw [HSET.out, runs_in _ _ _ _ _ _ HI.out]
              rfl
            go_wp2_with fail
            exact ⟨⟨i + 1, true, fr, xs, by omega, by simp, rfl, rfl, HXO.out, HXB.out, by rw [HDR.out]; exact HN2.out, fun _ => ⟨f0, by rw [HEB.out]; omega, f2⟩, fun e => by cases e⟩, by simp [intOf]; omega⟩
          | false =>
            have f2 := HCL.out rfl
            have HN2 : Hid (setP (innW 2 ps qs) E = xs ++ cut (runs (innW 2 ps qs) (b :: l) true a)) := by
              show _ = _
              rw [HSET.out, runs_in _ _ _ _ _ _ HI.out]
              rfl
            go_wp2_with fail
            exact ⟨⟨i + 1, true, a, xs, by omega, by simp, rfl, rfl, HXO.out, HXB.out, by rw [HDR.out]; exact HN2.out, fun _ => ⟨by omega, by rw [HEB.out]; omega, f2⟩, fun e => by cases e⟩, by simp [intOf]; omega⟩
        | false =>
          go_wp2_with fail
          refine (in_any vb cb qs m HNQ.out a a0 a1 _ (HLQ.out.bel (HBA.out.trans (HXB.out.mono hN4))) HPQ.out _ HIQ.out).mono ?_
          rintro e w6 ⟨rfl, hb6⟩
          have HXO1 : Hid (OwnL E2 N w6 ov xs) := HXO.out.bel hb6
          have HXB1 : Hid (Below N w4 w6) := HXB.out.trans (hb6.mono (by have := HXB.out.size; omega))
          clear hb6 HXO HXB c0
          have HXO : Hid (OwnL E2 N w6 ov xs) := HXO1.out
          have HXB : Hid (Below N w4 w6) := HXB1.out
          clear HXO1 HXB1
          have c0 : w6.cell? ⟨bE, oE + i, none⟩ = some (.int .u64 a) := HCE.out w6 HXB.out
          have HI : Hid (innW 2 ps qs a = false) := by
            show _ = _
            unfold innW
            rw [HIA.out, HIQ.out]
            rfl
          cases op with
          | true =>
            obtain ⟨f0, f1, f2⟩ := HOP.out rfl
            have HN2 : Hid (setP (innW 2 ps qs) E = (xs ++ split fr a) ++ cut (runs (innW 2 ps qs) (b :: l) false fr)) := by
              show _ = _
              rw [HSET.out, runs_out _ _ _ _ _ _ HI.out]
              simp [cut]
            have hsl := split_len fr a (by omega)
            go_wp2_with fail
            refine (split_any fr a f0 (by omega) (by omega) _).mono ?_
            rintro e w7 ⟨a7, n7, c7, rfl, ho7, hb7⟩
            obtain ⟨hl7, hn7⟩ := ho7.lst
            have hnil7 : a7 = none → n7 = 0 ∧ c7 = 0 := by
              obtain ⟨a8, c8, e8, -, h8, -⟩ := ho7.form
              cases e8
              rw [hn7] at h8
              exact h8
            have HL7 : Hid (Lst E2 w7 a7 (split fr a)) := hl7
            have HN7 : Hid ((split fr a).length = n7) := hn7
            have HI7 : Hid (a7 = none → n7 = 0 ∧ c7 = 0) := hnil7
            have HO7 : Hid (OwnL E2 N w7 ov xs) := HXO.out.bel hb7
            have HB7 : Hid (Below N w4 w7) := HXB.out.trans (hb7.mono (by have := HXB.out.size; omega))
            have hm7 : N ≤ w7.heap.size := by have := HB7.out.size; omega
            have hb8 : xs.length + n7 ≤ 1099511627775 := by rw [← hn7]; omega
            clear ho7 hb7 hl7 hn7 hnil7
            go_wp2_with (at_builtin; refine list_appL E2 rfl _ _ 22 rfl rfl N ov xs (split fr a) a7 n7 c7 w7 hb8 rfl HO7.out rfl HL7.out HI7.out HN7.out hm7 ?_)
            intro v8 w8 ho8 hg8 hat8
            have HO8 : Hid (OwnL E2 N w8 v8 (xs ++ split fr a)) := ho8.out
            have HB8 : Hid (Below N w4 w8) := HB7.out.trans ((Below.refl _ w7).grown hg8.out hm7 (fun g e => (HO7.out.row.lt g e).1))
            clear ho8 hg8 hat8
            go_wp2_with fail
            exact ⟨⟨i + 1, false, fr, xs ++ split fr a, by omega, by simp, rfl, rfl, HO8.out, HB8.out, by rw [HDR.out]; exact HN2.out, (fun e => by cases e), fun _ => by rw [HEB.out, List.length_append]; omega⟩, by simp [intOf]; omega⟩
          | false =>
            have f2 := HCL.out rfl
            have HN2 : Hid (setP (innW 2 ps qs) E = xs ++ cut (runs (innW 2 ps qs) (b :: l) false fr)) := by
              show _ = _
              rw [HSET.out, runs_out _ _ _ _ _ _ HI.out]
              rfl
            go_wp2_with fail
            exact ⟨⟨i + 1, false, fr, xs, by omega, by simp, rfl, rfl, HXO.out, HXB.out, by rw [HDR.out]; exact HN2.out, (fun e => by cases e), fun _ => by rw [HEB.out]; omega⟩, by simp [intOf]; omega⟩
      | false =>
        go_wp2_with fail
        refine (in_any va ca ps n HNP.out a a0 a1 _ (HLP.out.bel (HBA.out.trans (HXB.out.mono hN4))) HPP.out _ HIA.out).mono ?_
        rintro e w5 ⟨rfl, hb5⟩
        have HXO1 : Hid (OwnL E2 N w5 ov xs) := HXO.out.bel hb5
        have HXB1 : Hid (Below N w4 w5) := HXB.out.trans (hb5.mono (by have := HXB.out.size; omega))
        clear hb5 HXO HXB c0
        have HXO : Hid (OwnL E2 N w5 ov xs) := HXO1.out
        have HXB : Hid (Below N w4 w5) := HXB1.out
        clear HXO1 HXB1
        have c0 : w5.cell? ⟨bE, oE + i, none⟩ = some (.int .u64 a) := HCE.out w5 HXB.out
        obtain ⟨iq, hiq⟩ : ∃ t, anyH qs a = t := ⟨_, rfl⟩
        have HIQ : Hid (anyH qs a = iq) := hiq
        clear hiq
        cases iq with
        | true =>
          go_wp2_with fail
          refine (in_any vb cb qs m HNQ.out a a0 a1 _ (HLQ.out.bel (HBA.out.trans (HXB.out.mono hN4))) HPQ.out _ HIQ.out).mono ?_
          rintro e w6 ⟨rfl, hb6⟩
          have HXO1 : Hid (OwnL E2 N w6 ov xs) := HXO.out.bel hb6
          have HXB1 : Hid (Below N w4 w6) := HXB.out.trans (hb6.mono (by have := HXB.out.size; omega))
          clear hb6 HXO HXB c0
          have HXO : Hid (OwnL E2 N w6 ov xs) := HXO1.out
          have HXB : Hid (Below N w4 w6) := HXB1.out
          clear HXO1 HXB1
          have c0 : w6.cell? ⟨bE, oE + i, none⟩ = some (.int .u64 a) := HCE.out w6 HXB.out
          have HI : Hid (innW 2 ps qs a = false) := by
            show _ = _
            unfold innW
            rw [HIA.out, HIQ.out]
            rfl
          cases op with
          | true =>
            obtain ⟨f0, f1, f2⟩ := HOP.out rfl
            have HN2 : Hid (setP (innW 2 ps qs) E = (xs ++ split fr a) ++ cut (runs (innW 2 ps qs) (b :: l) false fr)) := by
              show _ = _
              rw [HSET.out, runs_out _ _ _ _ _ _ HI.out]
              simp [cut]
            have hsl := split_len fr a (by omega)
            go_wp2_with fail
            refine (split_any fr a f0 (by omega) (by omega) _).mono ?_
            rintro e w7 ⟨a7, n7, c7, rfl, ho7, hb7⟩
            obtain ⟨hl7, hn7⟩ := ho7.lst
            have hnil7 : a7 = none → n7 = 0 ∧ c7 = 0 := by
              obtain ⟨a8, c8, e8, -, h8, -⟩ := ho7.form
              cases e8
              rw [hn7] at h8
              exact h8
            have HL7 : Hid (Lst E2 w7 a7 (split fr a)) := hl7
            have HN7 : Hid ((split fr a).length = n7) := hn7
            have HI7 : Hid (a7 = none → n7 = 0 ∧ c7 = 0) := hnil7
            have HO7 : Hid (OwnL E2 N w7 ov xs) := HXO.out.bel hb7
            have HB7 : Hid (Below N w4 w7) := HXB.out.trans (hb7.mono (by have := HXB.out.size; omega))
            have hm7 : N ≤ w7.heap.size := by have := HB7.out.size; omega
            have hb8 : xs.length + n7 ≤ 1099511627775 := by rw [← hn7]; omega
            clear ho7 hb7 hl7 hn7 hnil7
            go_wp2_with (at_builtin; refine list_appL E2 rfl _ _ 22 rfl rfl N ov xs (split fr a) a7 n7 c7 w7 hb8 rfl HO7.out rfl HL7.out HI7.out HN7.out hm7 ?_)
            intro v8 w8 ho8 hg8 hat8
            have HO8 : Hid (OwnL E2 N w8 v8 (xs ++ split fr a)) := ho8.out
            have HB8 : Hid (Below N w4 w8) := HB7.out.trans ((Below.refl _ w7).grown hg8.out hm7 (fun g e => (HO7.out.row.lt g e).1))
            clear ho8 hg8 hat8
            go_wp2_with fail
            exact ⟨⟨i + 1, false, fr, xs ++ split fr a, by omega, by simp, rfl, rfl, HO8.out, HB8.out, by rw [HDR.out]; exact HN2.out, (fun e => by cases e), fun _ => by rw [HEB.out, List.length_append]; omega⟩, by simp [intOf]; omega⟩
          | false =>
            have f2 := HCL.out rfl
            have HN2 : Hid (setP (innW 2 ps qs) E = xs ++ cut (runs (innW 2 ps qs) (b :: l) false fr)) := by
              show _ = _
              rw [HSET.out, runs_out _ _ _ _ _ _ HI.out]
              rfl
            go_wp2_with fail
            exact ⟨⟨i + 1, false, fr, xs, by omega, by simp, rfl, rfl, HXO.out, HXB.out, by rw [HDR.out]; exact HN2.out, (fun e => by cases e), fun _ => by rw [HEB.out]; omega⟩, by simp [intOf]; omega⟩
        | false =>
          go_wp2_with fail
          refine (in_any vb cb qs m HNQ.out a a0 a1 _ (HLQ.out.bel (HBA.out.trans (HXB.out.mono hN4))) HPQ.out _ HIQ.out).mono ?_
          rintro e w6 ⟨rfl, hb6⟩
          have HXO1 : Hid (OwnL E2 N w6 ov xs) := HXO.out.bel hb6
          have HXB1 : Hid (Below N w4 w6) := HXB.out.trans (hb6.mono (by have := HXB.out.size; omega))
          clear hb6 HXO HXB c0
          have HXO : Hid (OwnL E2 N w6 ov xs) := HXO1.out
          have HXB : Hid (Below N w4 w6) := HXB1.out
          clear HXO1 HXB1
          have c0 : w6.cell? ⟨bE, oE + i, none⟩ = some (.int .u64 a) := HCE.out w6 HXB.out
          have HI : Hid (innW 2 ps qs a = false) := by
            show _ = _
            unfold innW
            rw [HIA.out, HIQ.out]
            rfl
          cases op with
          | true =>
            obtain ⟨f0, f1, f2⟩ := HOP.out rfl
            have HN2 : Hid (setP (innW 2 ps qs) E = (xs ++ split fr a) ++ cut (runs (innW 2 ps qs) (b :: l) false fr)) := by
              show _ = _
              rw [HSET.out, runs_out _ _ _ _ _ _ HI.out]
              simp [cut]
            have hsl := split_len fr a (by omega)
            go_wp2_with fail
            refine (split_any fr a f0 (by omega) (by omega) _).mono ?_
            rintro e w7 ⟨a7, n7, c7, rfl, ho7, hb7⟩
            obtain ⟨hl7, hn7⟩ := ho7.lst
            have hnil7 : a7 = none → n7 = 0 ∧ c7 = 0 := by
              obtain ⟨a8, c8, e8, -, h8, -⟩ := ho7.form
              cases e8
              rw [hn7] at h8
              exact h8
            have HL7 : Hid (Lst E2 w7 a7 (split fr a)) := hl7
            have HN7 : Hid ((split fr a).length = n7) := hn7
            have HI7 : Hid (a7 = none → n7 = 0 ∧ c7 = 0) := hnil7
            have HO7 : Hid (OwnL E2 N w7 ov xs) := HXO.out.bel hb7
            have HB7 : Hid (Below N w4 w7) := HXB.out.trans (hb7.mono (by have := HXB.out.size; omega))
            have hm7 : N ≤ w7.heap.size := by have := HB7.out.size; omega
            have hb8 : xs.length + n7 ≤ 1099511627775 := by rw [← hn7]; omega
            clear ho7 hb7 hl7 hn7 hnil7
            go_wp2_with (at_builtin; refine list_appL E2 rfl _ _ 22 rfl rfl N ov xs (split fr a) a7 n7 c7 w7 hb8 rfl HO7.out rfl HL7.out HI7.out HN7.out hm7 ?_)
            intro v8 w8 ho8 hg8 hat8
            have HO8 : Hid (OwnL E2 N w8 v8 (xs ++ split fr a)) := ho8.out
            have HB8 : Hid (Below N w4 w8) := HB7.out.trans ((Below.refl _ w7).grown hg8.out hm7 (fun g e => (HO7.out.row.lt g e).1))
            clear ho8 hg8 hat8
            go_wp2_with fail
            exact ⟨⟨i + 1, false, fr, xs ++ split fr a, by omega, by simp, rfl, rfl, HO8.out, HB8.out, by rw [HDR.out]; exact HN2.out, (fun e => by cases e), fun _ => by rw [HEB.out, List.length_append]; omega⟩, by simp [intOf]; omega⟩
          | false =>
            have f2 := HCL.out rfl
            have HN2 : Hid (setP (innW 2 ps qs) E = xs ++ cut (runs (innW 2 ps qs) (b :: l) false fr)) := by
              show _ = _
              rw [HSET.out, runs_out _ _ _ _ _ _ HI.out]
              rfl
            go_wp2_with fail
            exact ⟨⟨i + 1, false, fr, xs, by omega, by simp, rfl, rfl, HXO.out, HXB.out, by rw [HDR.out]; exact HN2.out, (fun e => by cases e), fun _ => by rw [HEB.out]; omega⟩, by simp [intOf]; omega⟩
    · have hdl : E.drop i = [4294967296] ∧ a = 4294967296 := by
        have h1 : E.drop i = [a] := by
          rw [List.drop_eq_getElem_cons hil, ha, List.drop_of_length_le (by rw [HNE.out]; omega)]
        have h2 := HEK.out.top
        obtain ⟨j, hj, hj2⟩ := List.getElem_of_mem h2
        by_cases e : j = i
        · subst e
          rw [ha] at hj2
          rw [hj2] at h1 ⊢
          exact ⟨h1, rfl⟩
        · have h3 := List.pairwise_iff_getElem.1 HEK.out.rise j i hj hil (by rw [HNE.out] at hj; omega)
          rw [hj2, ha] at h3
          omega
      have hii : ¬ (i : Int) + 1 < nE := by omega
      have hwi : IntKind.i64.wrap ((i : Int) + 1) = (i : Int) + 1 := by rw [IntWalk.i64_in _ (by omega)]
      rw [hdl.1] at hset
      rw [hdl.2] at hop
      cases op with
      | false =>
        have HR : Hid (OwnL E2 N wr ov (setP (innW 2 ps qs) E)) := by
          have h1 : setP (innW 2 ps qs) E = xs := by rw [hset]; simp [runs, cut]
          rw [h1]
          exact HXO.out
        obtain ⟨a9, c9, hv9, -⟩ := HR.out.form
        subst hv9
        clear hset hop hcl
        go_wp2_with fail
        go_ret
        exact ⟨_, _, _, rfl, HR.out.mono hN4, HBA.out.trans (HXB.out.mono hN4)⟩
      | true =>
        obtain ⟨f0, f1, f2⟩ := hop rfl
        have HR : Hid (setP (innW 2 ps qs) E = xs ++ split fr 4294967296) := by
          show _ = _
          rw [hset]
          simp [runs, cut]
        have hsl := split_len fr 4294967296 (by omega)
        clear hset hop hcl
        go_wp2_with fail
        refine (split_any fr 4294967296 f0 (by omega) (by omega) _).mono ?_
        rintro e w7 ⟨a7, n7, c7, rfl, ho7, hb7⟩
        obtain ⟨hl7, hn7⟩ := ho7.lst
        have hnil7 : a7 = none → n7 = 0 ∧ c7 = 0 := by
          obtain ⟨a8, c8, e8, -, h8, -⟩ := ho7.form
          cases e8
          rw [hn7] at h8
          exact h8
        have HL7 : Hid (Lst E2 w7 a7 (split fr 4294967296)) := hl7
        have HN7 : Hid ((split fr 4294967296).length = n7) := hn7
        have HI7 : Hid (a7 = none → n7 = 0 ∧ c7 = 0) := hnil7
        have HO7 : Hid (OwnL E2 N w7 ov xs) := HXO.out.bel hb7
        have HB7 : Hid (Below N w4 w7) := HXB.out.trans (hb7.mono (by have := HXB.out.size; omega))
        have hm7 : N ≤ w7.heap.size := by have := HB7.out.size; omega
        have hb8 : xs.length + n7 ≤ 1099511627775 := by rw [← hn7]; omega
        clear ho7 hb7 hl7 hn7 hnil7
        go_wp2_with (at_builtin; refine list_appL E2 rfl _ _ 22 rfl rfl N ov xs (split fr 4294967296) a7 n7 c7 w7 hb8 rfl HO7.out rfl HL7.out HI7.out HN7.out hm7 ?_)
        intro v8 w8 ho8 hg8 hat8
        have HO8 : Hid (OwnL E2 N w8 v8 (setP (innW 2 ps qs) E)) := by rw [HR.out]; exact ho8.out
        have HB8 : Hid (Below N w4 w8) := HB7.out.trans ((Below.refl _ w7).grown hg8.out hm7 (fun g e => (HO7.out.row.lt g e).1))
        clear ho8 hg8 hat8
        obtain ⟨a9, c9, hv9, -⟩ := HO8.out.form
        subst hv9
        go_wp2_with fail
        go_ret
        exact ⟨_, _, _, rfl, HO8.out.mono hN4, HBA.out.trans (HB8.out.mono hN4)⟩
end Go.Proofs.YtagfdmkgnedlbabDoor.Pc
