/- The document's attributes. The document's pvForm. The document's pvRange. The document's prefixes as bytes, and its sum. -/
import Derived.Test.YtghlgkpfcpcopaaMgE
import Derived.Deep.CutRange
namespace Go.Proofs.Ytghlgkpfcpcopaa.Pv
open Go.ChangeShapes Go.WideShapes Go.ChangeAt Go.RowKit Go.Joins Go.Proofs.Ytghlgkpfcpcopaa.PM Go.Proofs.Ytghlgkpfcpcopaa.Ask Go.Proofs.Ytghlgkpfcpcopaa.Ge
set_option linter.unusedVariables false

theorem attr_len (k : Nat) (xs : List Nat) : (attr k xs).length = 3 + xs.length := by
  unfold attr piece
  rw [List.length_append, List.length_append, big_len, big_len]
  omega
theorem words1 (size : Nat) (X : Nat) : wordsB size [(X : Int)] = big size X := by simp [wordsB]
theorem own_slice {N : Nat} {w : World} {v : Value} {xs : List Nat} (h : OwnL E8 N w v xs) : ∃ a n c, v = .slice a n c ∧ OwnL E8 N w (.slice a n c) xs ∧ xs.length = n := by
  obtain ⟨a, c, e, -⟩ := h.form
  exact ⟨a, _, c, e, by rw [← e]; exact h, rfl⟩
theorem eqN (X k : Nat) (B C : List Nat) (h : (if X = 0 then B else B ++ attr k (big 4 X)) = C) : B ++ attrIf k 4 ((X : Int) != 0) [(X : Int)] = C := by
  rw [← h]
  unfold attrIf
  by_cases hX : X = 0
  · subst hX; simp
  · have : ((X : Int) != 0) = true := by simp; omega
    rw [this, if_pos rfl, if_neg hX, words1]
theorem eqL (q k : Nat) (xs : List Int) (B C : List Nat) (h : (if q = 0 then B else B ++ attr k (wordsB 4 xs)) = C) : B ++ attrIf k 4 (decide (0 < q)) xs = C := by
  rw [← h]
  unfold attrIf
  by_cases hX : q = 0
  · subst hX; simp
  · rw [decide_eq_true (by omega), if_pos rfl, if_neg hX]
set_option maxRecDepth 100000 in
set_option maxHeartbeats 16000000 in
theorem docattrs_any (m : Ms) (s : Sl) (w : World) (hok : MOk w m s) (hr : RR m.rt) (hv : m.hv.length = 0 → attrs m = []) :
    Calls Try.prog 52 #[msV m s] w fun e w' => ∃ v, e = .returned v ∧ OwnL E8 w.heap.size w' v (attrs m) ∧ Below w.heap.size w w' := by
  have HOK : Hid (MOk w m s) := hok
  have HRR : Hid (RR m.rt) := hr
  obtain ⟨n1, hn1⟩ : ∃ n, m.lost.length = n := ⟨_, rfl⟩
  have HN1 : Hid (m.lost.length = n1) := hn1
  obtain ⟨n2, hn2⟩ : ∃ n, m.hv.length = n := ⟨_, rfl⟩
  have HN2 : Hid (m.hv.length = n2) := hn2
  obtain ⟨q1, hq1⟩ : ∃ n, m.rt.path.length = n := ⟨_, rfl⟩
  have HQ1 : Hid (m.rt.path.length = q1) := hq1
  obtain ⟨q2, hq2⟩ : ∃ n, m.rt.marks.length = n := ⟨_, rfl⟩
  have HQ2 : Hid (m.rt.marks.length = q2) := hq2
  obtain ⟨q3, hq3⟩ : ∃ n, m.rt.clus.length = n := ⟨_, rfl⟩
  have HQ3 : Hid (m.rt.clus.length = q3) := hq3
  have HV : Hid (msV m s = .agg #[.int .i64 m.kind, .int .i64 m.dom, .int .i64 m.id, .int .i64 m.hold, .int .i64 m.code, .slice s.l n1 s.lc, .slice s.h n2 s.hc, .int .u32 m.rt.pa, .int .i64 m.rt.pn, .slice s.p q1 s.pc, .int .i64 m.rt.org, .int .i64 m.rt.pref, .int .i64 m.rt.med, .int .u32 m.rt.next, .slice s.m q2 s.mc, .slice s.c q3 s.cc, .int .i64 m.rt.auth]) := by unfold msV; rw [hn1, hn2, hq1, hq2, hq3]; rfl
  rw [hn2] at hv
  have HV0 : Hid (n2 = 0 → attrs m = []) := hv
  obtain ⟨ORG, hORG, hORG1⟩ : ∃ X : Nat, m.rt.org = X ∧ X ≤ 2 := ⟨m.rt.org.toNat, by have := hr.org; omega, by have := hr.org; omega⟩
  obtain ⟨MED, hMED, hMED1⟩ : ∃ X : Nat, m.rt.med = X ∧ X < 9223372036854775808 := ⟨m.rt.med.toNat, by have := hr.med; omega, by have := hr.med; omega⟩
  obtain ⟨PREF, hPREF, hPREF1⟩ : ∃ X : Nat, m.rt.pref = X ∧ X < 9223372036854775808 := ⟨m.rt.pref.toNat, by have := hr.pref; omega, by have := hr.pref; omega⟩
  obtain ⟨AUTH, hAUTH, hAUTH1⟩ : ∃ X : Nat, m.rt.auth = X ∧ X < 9223372036854775808 := ⟨m.rt.auth.toNat, by have := hr.auth; omega, by have := hr.auth; omega⟩
  obtain ⟨NEXT, hNEXT, hNEXT1⟩ : ∃ X : Nat, m.rt.next = X ∧ X < 4294967296 := ⟨m.rt.next.toNat, by have := hok.r.n0; omega, by have := hok.r.n1; have := hok.r.n0; omega⟩
  obtain ⟨B1, hB1⟩ : ∃ B, attr 1 [ORG] = B := ⟨_, rfl⟩
  obtain ⟨B2, hB2⟩ : ∃ B, B1 ++ attr 2 (wordsB 4 m.rt.path) = B := ⟨_, rfl⟩
  obtain ⟨B3, hB3⟩ : ∃ B, B2 ++ attr 3 (big 4 NEXT) = B := ⟨_, rfl⟩
  obtain ⟨B4, hB4⟩ : ∃ B, (if MED = 0 then B3 else B3 ++ attr 4 (big 4 MED)) = B := ⟨_, rfl⟩
  obtain ⟨B5, hB5⟩ : ∃ B, (if PREF = 0 then B4 else B4 ++ attr 5 (big 4 PREF)) = B := ⟨_, rfl⟩
  obtain ⟨B6, hB6⟩ : ∃ B, (if q2 = 0 then B5 else B5 ++ attr 6 (wordsB 4 m.rt.marks)) = B := ⟨_, rfl⟩
  obtain ⟨B7, hB7⟩ : ∃ B, (if AUTH = 0 then B6 else B6 ++ attr 7 (big 4 AUTH)) = B := ⟨_, rfl⟩
  obtain ⟨B8, hB8⟩ : ∃ B, (if q3 = 0 then B7 else B7 ++ attr 8 (wordsB 4 m.rt.clus)) = B := ⟨_, rfl⟩
  have hq1l := hr.lp
  have hq2l := hr.lm
  have hq3l := hr.lcl
  rw [hq1] at hq1l
  rw [hq2] at hq2l
  rw [hq3] at hq3l
  have hl1 : B1.length = 4 := by rw [← hB1, attr_len]; rfl
  have hl2 : B2.length ≤ 300 := by rw [← hB2, List.length_append, attr_len, wordsB_len, hq1]; omega
  have hl3 : B3.length ≤ 400 := by rw [← hB3, List.length_append, attr_len, big_len]; omega
  have hl4 : B4.length ≤ 500 := by
    rw [← hB4]
    split
    · omega
    · rw [List.length_append, attr_len, big_len]; omega
  have hl5 : B5.length ≤ 600 := by
    rw [← hB5]
    split
    · omega
    · rw [List.length_append, attr_len, big_len]; omega
  have hl6 : B6.length ≤ 900 := by
    rw [← hB6]
    split
    · omega
    · rw [List.length_append, attr_len, wordsB_len, hq2]; omega
  have hl7 : B7.length ≤ 1000 := by
    rw [← hB7]
    split
    · omega
    · rw [List.length_append, attr_len, big_len]; omega
  have HALL : Hid (0 < n2 → attrs m = B8) := fun h0 => by
    unfold attrs
    rw [hn2, hq2, hq3, hORG, hMED, hPREF, hAUTH, hNEXT]
    have e1 : attrIf 1 1 (decide (0 < n2)) [(ORG : Int)] = B1 := by unfold attrIf; rw [decide_eq_true h0, if_pos rfl, words1, ← hB1, big1 (by omega)]
    have e2 : B1 ++ attrIf 2 4 (decide (0 < n2)) m.rt.path = B2 := by unfold attrIf; rw [decide_eq_true h0, if_pos rfl, hB2]
    have e3 : B2 ++ attrIf 3 4 (decide (0 < n2)) [(NEXT : Int)] = B3 := by unfold attrIf; rw [decide_eq_true h0, if_pos rfl, words1, hB3]
    rw [e1, e2, e3, eqN MED 4 B3 B4 hB4, eqN PREF 5 B4 B5 hB5, eqL q2 6 m.rt.marks B5 B6 hB6, eqN AUTH 7 B6 B7 hB7, eqL q3 8 m.rt.clus B7 B8 hB8]
  have HB1 : Hid (attr 1 [ORG] = B1) := hB1
  have HB2 : Hid (B1 ++ attr 2 (wordsB 4 m.rt.path) = B2) := hB2
  have HB3 : Hid (B2 ++ attr 3 (big 4 NEXT) = B3) := hB3
  have HB4 : Hid ((MED = 0 → B3 = B4) ∧ (¬ MED = 0 → B3 ++ attr 4 (big 4 MED) = B4)) := ⟨fun h => by rw [if_pos h] at hB4; exact hB4, fun h => by rw [if_neg h] at hB4; exact hB4⟩
  have HB5 : Hid ((PREF = 0 → B4 = B5) ∧ (¬ PREF = 0 → B4 ++ attr 5 (big 4 PREF) = B5)) := ⟨fun h => by rw [if_pos h] at hB5; exact hB5, fun h => by rw [if_neg h] at hB5; exact hB5⟩
  have HB6 : Hid ((q2 = 0 → B5 = B6) ∧ (¬ q2 = 0 → B5 ++ attr 6 (wordsB 4 m.rt.marks) = B6)) := ⟨fun h => by rw [if_pos h] at hB6; exact hB6, fun h => by rw [if_neg h] at hB6; exact hB6⟩
  have HB7 : Hid ((AUTH = 0 → B6 = B7) ∧ (¬ AUTH = 0 → B6 ++ attr 7 (big 4 AUTH) = B7)) := ⟨fun h => by rw [if_pos h] at hB7; exact hB7, fun h => by rw [if_neg h] at hB7; exact hB7⟩
  have HB8 : Hid ((q3 = 0 → B7 = B8) ∧ (¬ q3 = 0 → B7 ++ attr 8 (wordsB 4 m.rt.clus) = B8)) := ⟨fun h => by rw [if_pos h] at hB8; exact hB8, fun h => by rw [if_neg h] at hB8; exact hB8⟩
  have HCE : Hid (m.rt.org = ORG ∧ m.rt.med = MED ∧ m.rt.pref = PREF ∧ m.rt.auth = AUTH ∧ m.rt.next = NEXT) := ⟨hORG, hMED, hPREF, hAUTH, hNEXT⟩
  have hou : IntKind.u8.wrap (ORG : Int) = (ORG : Int) := by rw [IntKind.wrap_u8]; omega
  rw [HV.out]
  clear hn1 hn2 hq1 hq2 hq3 hv hB1 hB2 hB3 hB4 hB5 hB6 hB7 hB8 hORG hMED hPREF hAUTH hNEXT hok hr
  go_enter Try.func52, Try.ntmps52
  by_cases h2 : n2 = 0
  · subst h2
    have HE : Hid (∀ W, Below w.heap.size w W → ∃ v, Ending.returned (.slice none 0 0) = .returned v ∧ OwnL E8 w.heap.size W v (attrs m) ∧ Below w.heap.size w W) := fun W h => ⟨_, rfl, by rw [HV0.out rfl]; exact OwnL.nil _ _ _, h⟩
    go_wp2_with fail
    go_ret
    exact HE.out _ ((Below.refl _ w).alloc (Nat.le_refl _) _)
  · have h2b : ((n2 : Int) == 0) = false := by simp; omega
    have HALL2 : Hid (attrs m = B8) := HALL.out (by omega)
    go_upto_region 4 with fail
    obtain ⟨wA, hwA⟩ : ∃ w0, w.alloc (Obj.cells #[.int .i64 m.kind, .int .i64 m.dom, .int .i64 m.id, .int .i64 m.hold, .int .i64 m.code, .slice s.l n1 s.lc, .slice s.h n2 s.hc, .int .u32 m.rt.pa, .int .i64 m.rt.pn, .slice s.p q1 s.pc, .int .i64 m.rt.org, .int .i64 m.rt.pref, .int .i64 m.rt.med, .int .u32 m.rt.next, .slice s.m q2 s.mc, .slice s.c q3 s.cc, .int .i64 m.rt.auth] 31) = w0 := ⟨_, rfl⟩
    obtain ⟨hbx, hbA, hsA⟩ := mbox_new (m := m) (s := s) (w := w) (W := wA) (by rw [HN1.out, HN2.out, HQ1.out, HQ2.out, HQ3.out]; exact hwA)
    rw [hwA]
    obtain ⟨w1, hw1⟩ : ∃ w0, wA.alloc (Obj.cells #[.int .u32 m.rt.pa, .int .i64 m.rt.pn, .slice s.p q1 s.pc, .int .i64 m.rt.org, .int .i64 m.rt.pref, .int .i64 m.rt.med, .int .u32 m.rt.next, .slice s.m q2 s.mc, .slice s.c q3 s.cc, .int .i64 m.rt.auth] 29) = w0 := ⟨_, rfl⟩
    obtain ⟨hrx, hb1, hs1⟩ := rbox_new (r := m.rt) (s := s) (w := wA) (W := w1) (by rw [HQ1.out, HQ2.out, HQ3.out]; exact hw1)
    rw [hw1]
    obtain ⟨b, hb⟩ : ∃ b, w.heap.size = b := ⟨_, rfl⟩
    rw [hsA] at hrx
    rw [hb] at hrx ⊢
    have HBZ : Hid (w.heap.size = b) := hb
    have HBW : Hid (Below w.heap.size w w1) := hbA.trans (hb1.mono hbA.size)
    have HRX : Hid (RBox (b + 1) m.rt s w1) := hrx
    have hN1 : b + 2 ≤ w1.heap.size := by omega
    have HRC : Hid (∀ W, Below (b + 2) w1 W → W.cell? ⟨b + 1, 3, none⟩ = some (.int .i64 (ORG : Int)) ∧ W.cell? ⟨b + 1, 5, none⟩ = some (.int .i64 (MED : Int)) ∧ W.cell? ⟨b + 1, 4, none⟩ = some (.int .i64 (PREF : Int)) ∧ W.cell? ⟨b + 1, 9, none⟩ = some (.int .i64 (AUTH : Int)) ∧ W.cell? ⟨b + 1, 6, none⟩ = some (.int .u32 (NEXT : Int)) ∧ W.cell? ⟨b + 1, 2, none⟩ = some (.slice s.p q1 s.pc) ∧ W.cell? ⟨b + 1, 7, none⟩ = some (.slice s.m q2 s.mc) ∧ W.cell? ⟨b + 1, 8, none⟩ = some (.slice s.c q3 s.cc)) := fun W h => by
      have h5 := HRX.out.blk (h.block (b + 1) (by omega))
      obtain ⟨e1, e2, e3, e4, e5⟩ := HCE.out
      refine ⟨?_, ?_, ?_, ?_, ?_, ?_, ?_, ?_⟩
      · rw [← e1]; exact h5.c3
      · rw [← e2]; exact h5.c5
      · rw [← e3]; exact h5.c4
      · rw [← e4]; exact h5.c9
      · rw [← e5]; exact h5.c6
      · rw [← HQ1.out]; exact h5.c2
      · rw [← HQ2.out]; exact h5.c7
      · rw [← HQ3.out]; exact h5.c8
    have HWW : Hid (∀ W, Below (b + 2) w1 W → Below w.heap.size w W) := fun W h => HBW.out.trans (h.mono (by rw [HBZ.out]; omega))
    have HLP : Hid (∀ W, Below (b + 2) w1 W → Lst EI W s.p m.rt.path ∧ Lst EI W s.m m.rt.marks ∧ Lst EI W s.c m.rt.clus) := fun W h => ⟨HOK.out.r.p.bel (HWW.out W h), HOK.out.r.m.bel (HWW.out W h), HOK.out.r.c.bel (HWW.out W h)⟩
    have HXP : Hid (∀ x ∈ m.rt.path, 0 ≤ x ∧ x < 9223372036854775808) := fun x hx => by have := HRR.out.path x hx; omega
    have HXM : Hid (∀ x ∈ m.rt.marks, 0 ≤ x ∧ x < 9223372036854775808) := fun x hx => by have := HRR.out.marks x hx; omega
    have HXC : Hid (∀ x ∈ m.rt.clus, 0 ≤ x ∧ x < 9223372036854775808) := fun x hx => by have := HRR.out.clus x hx; omega
    have HWL : Hid ((wordsB 4 m.rt.path).length ≤ 256 ∧ (wordsB 4 m.rt.marks).length ≤ 128 ∧ (wordsB 4 m.rt.clus).length ≤ 128) := by
      refine ⟨?_, ?_, ?_⟩ <;> rw [wordsB_len]
      · rw [HQ1.out]; omega
      · rw [HQ2.out]; omega
      · rw [HQ3.out]; omega
    clear hwA hw1 hbx hbA hsA hb1 hs1 hrx hb h2
    obtain ⟨o0, o1, o2, o3, o4, o5, o6, o7⟩ := HRC.out w1 (Below.refl _ _)
    obtain ⟨y1, hy1⟩ : ∃ W, w1.alloc (Obj.cells #[.int .u8 (ORG : Int)] 5) = W := ⟨_, rfl⟩
    obtain ⟨k1, k2⟩ := own_made E8 (W := w1) (W' := y1) [ORG] 1 rfl (by decide) hy1
    have HP1 : Hid (Pc8 y1 (some ⟨w1.heap.size, 0, none⟩) 1 1 [ORG]) := OwnL.pc8 k1
    have HY1 : Hid (Below w1.heap.size w1 y1) := k2
    clear k1 k2
    go_wp2_with fail
    try rw [hy1]
    refine (rattr_any 1 (by decide) (some ⟨w1.heap.size, 0, none⟩) 1 1 [ORG] (by decide) y1 HP1.out).mono ?_
    rintro e z1 ⟨v1, rfl, ho1, hb1⟩
    have HE1 : Hid (Below (b + 2) w1 z1) := (HY1.out.mono hN1).trans (hb1.mono (Nat.le_trans hN1 HY1.out.size))
    have HO1 : Hid (OwnL E8 (b + 2) z1 v1 B1) := by rw [← HB1.out]; exact ho1.mono (Nat.le_trans hN1 HY1.out.size)
    clear hy1 ho1 hb1 HP1 HY1 o0 o1 o2 o3 o4 o5 o6 o7
    obtain ⟨o0, o1, o2, o3, o4, o5, o6, o7⟩ := HRC.out z1 HE1.out
    go_wp2_with fail
    refine (rwords_any s.p s.pc m.rt.path q1 HQ1.out (by omega) z1 (HLP.out z1 HE1.out).1 HXP.out).mono ?_
    rintro e p2 ⟨vp2, rfl, hop2, hbp2⟩
    obtain ⟨ap2, np2, cp2, rfl, hop22, hlp2⟩ := own_slice hop2
    have hnp2 : np2 ≤ 1000 := by rw [← hlp2]; first | (rw [big_len]; decide) | (have := HWL.out; omega)
    have HPP2 : Hid (Pc8 p2 ap2 np2 cp2 (wordsB 4 m.rt.path)) := OwnL.pc8 hop22
    have HEP2 : Hid (Below (b + 2) w1 p2) := (HE1.out).trans (hbp2.mono (Nat.le_trans hN1 (HE1.out).size))
    have HOP2 : Hid (OwnL E8 (b + 2) p2 v1 B1) := HO1.out.bel hbp2
    clear hop2 hop22 hbp2
    go_wp2_with fail
    refine (rattr_any 2 (by decide) ap2 np2 cp2 (wordsB 4 m.rt.path) (by omega) p2 HPP2.out).mono ?_
    rintro e r2 ⟨vr2, rfl, hor2, hbr2⟩
    obtain ⟨ar2, nr2, cr2, rfl, hor22, hlr2⟩ := own_slice hor2
    have hnr2 : nr2 ≤ 2000 := by rw [← hlr2, attr_len, hlp2]; omega
    have HPR2 : Hid (Pc8 r2 ar2 nr2 cr2 (attr 2 (wordsB 4 m.rt.path))) := OwnL.pc8 hor22
    have HER2 : Hid (Below (b + 2) w1 r2) := HEP2.out.trans (hbr2.mono (Nat.le_trans hN1 HEP2.out.size))
    have HOR2 : Hid (OwnL E8 (b + 2) r2 v1 B1) := HOP2.out.bel hbr2
    have hNR2 : b + 2 ≤ r2.heap.size := Nat.le_trans hN1 HER2.out.size
    have hby2 : B1.length + nr2 ≤ 1099511627775 := by omega
    clear hor2 hor22 hbr2 hlr2 hlp2 HPP2 HOP2
    go_wp2_with (at_builtin; refine list_appL E8 rfl _ _ 22 rfl rfl (b + 2) v1 B1 (attr 2 (wordsB 4 m.rt.path)) ar2 nr2 cr2 r2 hby2 rfl HOR2.out rfl HPR2.out.l HPR2.out.nil HPR2.out.len hNR2 ?_)
    intro v2 z2 ho2 hg2 hat2
    have HO2 : Hid (OwnL E8 (b + 2) z2 v2 B2) := by rw [← HB2.out]; exact ho2.out
    have HE2 : Hid (Below (b + 2) w1 z2) := HER2.out.grown hg2.out hNR2 (fun g e => (HOR2.out.row.lt g e).1)
    clear ho2 hg2 hat2 HOR2 HPR2 HER2 hby2 hNR2
    clear o0 o1 o2 o3 o4 o5 o6 o7
    obtain ⟨o0, o1, o2, o3, o4, o5, o6, o7⟩ := HRC.out z2 HE2.out
    go_wp2_with fail
    refine (rbytes_any NEXT 4 (by decide) (by omega) z2).mono ?_
    rintro e p3 ⟨vp3, rfl, hop3, hbp3⟩
    obtain ⟨ap3, np3, cp3, rfl, hop23, hlp3⟩ := own_slice hop3
    have hnp3 : np3 ≤ 1000 := by rw [← hlp3]; first | (rw [big_len]; decide) | (have := HWL.out; omega)
    have HPP3 : Hid (Pc8 p3 ap3 np3 cp3 (big 4 NEXT)) := OwnL.pc8 hop23
    have HEP3 : Hid (Below (b + 2) w1 p3) := (HE2.out).trans (hbp3.mono (Nat.le_trans hN1 (HE2.out).size))
    have HOP3 : Hid (OwnL E8 (b + 2) p3 v2 B2) := HO2.out.bel hbp3
    clear hop3 hop23 hbp3
    go_wp2_with fail
    refine (rattr_any 3 (by decide) ap3 np3 cp3 (big 4 NEXT) (by omega) p3 HPP3.out).mono ?_
    rintro e r3 ⟨vr3, rfl, hor3, hbr3⟩
    obtain ⟨ar3, nr3, cr3, rfl, hor23, hlr3⟩ := own_slice hor3
    have hnr3 : nr3 ≤ 2000 := by rw [← hlr3, attr_len, hlp3]; omega
    have HPR3 : Hid (Pc8 r3 ar3 nr3 cr3 (attr 3 (big 4 NEXT))) := OwnL.pc8 hor23
    have HER3 : Hid (Below (b + 2) w1 r3) := HEP3.out.trans (hbr3.mono (Nat.le_trans hN1 HEP3.out.size))
    have HOR3 : Hid (OwnL E8 (b + 2) r3 v2 B2) := HOP3.out.bel hbr3
    have hNR3 : b + 2 ≤ r3.heap.size := Nat.le_trans hN1 HER3.out.size
    have hby3 : B2.length + nr3 ≤ 1099511627775 := by omega
    clear hor3 hor23 hbr3 hlr3 hlp3 HPP3 HOP3
    go_wp2_with (at_builtin; refine list_appL E8 rfl _ _ 22 rfl rfl (b + 2) v2 B2 (attr 3 (big 4 NEXT)) ar3 nr3 cr3 r3 hby3 rfl HOR3.out rfl HPR3.out.l HPR3.out.nil HPR3.out.len hNR3 ?_)
    intro v3 z3 ho3 hg3 hat3
    have HO3 : Hid (OwnL E8 (b + 2) z3 v3 B3) := by rw [← HB3.out]; exact ho3.out
    have HE3 : Hid (Below (b + 2) w1 z3) := HER3.out.grown hg3.out hNR3 (fun g e => (HOR3.out.row.lt g e).1)
    clear ho3 hg3 hat3 HOR3 HPR3 HER3 hby3 hNR3
    clear o0 o1 o2 o3 o4 o5 o6 o7
    obtain ⟨o0, o1, o2, o3, o4, o5, o6, o7⟩ := HRC.out z3 HE3.out
    obtain ⟨a3, n3, c3, hv3, hs3, -⟩ := own_slice HO3.out
    subst hv3
    clear hs3 HO1 HO2 HE1 HE2
    go_upto_if 31 with fail
    go_cut [4] from 5 to 76 (fun bv wx => ∃ a n c, bv = .slice a n c ∧ OwnL E8 (b + 2) wx (.slice a n c) B4 ∧ Below (b + 2) w1 wx)
    case first =>
      by_cases hc : MED = 0
      · have HZ : Hid (OwnL E8 (b + 2) z3 (.slice a3 n3 c3) B4) := by rw [← HB4.out.1 hc]; exact HO3.out
        subst hc
        go_wp2_with fail
        go_meet
        exact ⟨_, _, _, rfl, HZ.out, HE3.out⟩
      · have hcb : ((MED : Int) != 0) = true := by simp; omega
        have HBY : Hid (B3 ++ attr 4 (big 4 MED) = B4) := HB4.out.2 hc
        clear hc
        go_wp2_with fail
        refine (rbytes_any MED 4 (by decide) (by omega) z3).mono ?_
        rintro e p4 ⟨vp4, rfl, hop4, hbp4⟩
        obtain ⟨ap4, np4, cp4, rfl, hop24, hlp4⟩ := own_slice hop4
        have hnp4 : np4 ≤ 1000 := by rw [← hlp4]; first | (rw [big_len]; decide) | (have := HWL.out; omega)
        have HPP4 : Hid (Pc8 p4 ap4 np4 cp4 (big 4 MED)) := OwnL.pc8 hop24
        have HEP4 : Hid (Below (b + 2) w1 p4) := (HE3.out).trans (hbp4.mono (Nat.le_trans hN1 (HE3.out).size))
        have HOP4 : Hid (OwnL E8 (b + 2) p4 (.slice a3 n3 c3) B3) := HO3.out.bel hbp4
        clear hop4 hop24 hbp4
        go_wp2_with fail
        refine (rattr_any 4 (by decide) ap4 np4 cp4 (big 4 MED) (by omega) p4 HPP4.out).mono ?_
        rintro e r4 ⟨vr4, rfl, hor4, hbr4⟩
        obtain ⟨ar4, nr4, cr4, rfl, hor24, hlr4⟩ := own_slice hor4
        have hnr4 : nr4 ≤ 2000 := by rw [← hlr4, attr_len, hlp4]; omega
        have HPR4 : Hid (Pc8 r4 ar4 nr4 cr4 (attr 4 (big 4 MED))) := OwnL.pc8 hor24
        have HER4 : Hid (Below (b + 2) w1 r4) := HEP4.out.trans (hbr4.mono (Nat.le_trans hN1 HEP4.out.size))
        have HOR4 : Hid (OwnL E8 (b + 2) r4 (.slice a3 n3 c3) B3) := HOP4.out.bel hbr4
        have hNR4 : b + 2 ≤ r4.heap.size := Nat.le_trans hN1 HER4.out.size
        have hby4 : B3.length + nr4 ≤ 1099511627775 := by omega
        clear hor4 hor24 hbr4 hlr4 hlp4 HPP4 HOP4
        go_wp2_with (at_builtin; refine list_appL E8 rfl _ _ 22 rfl rfl (b + 2) (.slice a3 n3 c3) B3 (attr 4 (big 4 MED)) ar4 nr4 cr4 r4 hby4 rfl HOR4.out rfl HPR4.out.l HPR4.out.nil HPR4.out.len hNR4 ?_)
        intro v4 z4 ho4 hg4 hat4
        have HO4 : Hid (OwnL E8 (b + 2) z4 v4 B4) := by rw [← HBY.out]; exact ho4.out
        have HE4 : Hid (Below (b + 2) w1 z4) := HER4.out.grown hg4.out hNR4 (fun g e => (HOR4.out.row.lt g e).1)
        clear ho4 hg4 hat4 HOR4 HPR4 HER4 hby4 hNR4
        obtain ⟨af, nf, cf, hvf, hsf, -⟩ := own_slice HO4.out
        subst hvf
        clear hsf
        go_wp2_with fail
        go_meet
        exact ⟨_, _, _, rfl, HO4.out, HE4.out⟩
    case rest =>
      obtain ⟨a4, n4, c4, rfl, ho4, he4⟩ := hcut
      have HO4 : Hid (OwnL E8 (b + 2) wc (.slice a4 n4 c4) B4) := ho4
      have HE4 : Hid (Below (b + 2) w1 wc) := he4
      obtain ⟨z4, hz4⟩ : ∃ z, wc = z := ⟨_, rfl⟩
      rw [hz4] at HO4 HE4 ⊢
      clear ho4 he4 hz4 o0 o1 o2 o3 o4 o5 o6 o7
      obtain ⟨o0, o1, o2, o3, o4, o5, o6, o7⟩ := HRC.out z4 HE4.out
      go_upto_if 40 with fail
      go_cut [4] from 5 to 76 (fun bv wx => ∃ a n c, bv = .slice a n c ∧ OwnL E8 (b + 2) wx (.slice a n c) B5 ∧ Below (b + 2) w1 wx)
      case first =>
        by_cases hc : PREF = 0
        · have HZ : Hid (OwnL E8 (b + 2) z4 (.slice a4 n4 c4) B5) := by rw [← HB5.out.1 hc]; exact HO4.out
          subst hc
          go_wp2_with fail
          go_meet
          exact ⟨_, _, _, rfl, HZ.out, HE4.out⟩
        · have hcb : ((PREF : Int) != 0) = true := by simp; omega
          have HBY : Hid (B4 ++ attr 5 (big 4 PREF) = B5) := HB5.out.2 hc
          clear hc
          go_wp2_with fail
          refine (rbytes_any PREF 4 (by decide) (by omega) z4).mono ?_
          rintro e p5 ⟨vp5, rfl, hop5, hbp5⟩
          obtain ⟨ap5, np5, cp5, rfl, hop25, hlp5⟩ := own_slice hop5
          have hnp5 : np5 ≤ 1000 := by rw [← hlp5]; first | (rw [big_len]; decide) | (have := HWL.out; omega)
          have HPP5 : Hid (Pc8 p5 ap5 np5 cp5 (big 4 PREF)) := OwnL.pc8 hop25
          have HEP5 : Hid (Below (b + 2) w1 p5) := (HE4.out).trans (hbp5.mono (Nat.le_trans hN1 (HE4.out).size))
          have HOP5 : Hid (OwnL E8 (b + 2) p5 (.slice a4 n4 c4) B4) := HO4.out.bel hbp5
          clear hop5 hop25 hbp5
          go_wp2_with fail
          refine (rattr_any 5 (by decide) ap5 np5 cp5 (big 4 PREF) (by omega) p5 HPP5.out).mono ?_
          rintro e r5 ⟨vr5, rfl, hor5, hbr5⟩
          obtain ⟨ar5, nr5, cr5, rfl, hor25, hlr5⟩ := own_slice hor5
          have hnr5 : nr5 ≤ 2000 := by rw [← hlr5, attr_len, hlp5]; omega
          have HPR5 : Hid (Pc8 r5 ar5 nr5 cr5 (attr 5 (big 4 PREF))) := OwnL.pc8 hor25
          have HER5 : Hid (Below (b + 2) w1 r5) := HEP5.out.trans (hbr5.mono (Nat.le_trans hN1 HEP5.out.size))
          have HOR5 : Hid (OwnL E8 (b + 2) r5 (.slice a4 n4 c4) B4) := HOP5.out.bel hbr5
          have hNR5 : b + 2 ≤ r5.heap.size := Nat.le_trans hN1 HER5.out.size
          have hby5 : B4.length + nr5 ≤ 1099511627775 := by omega
          clear hor5 hor25 hbr5 hlr5 hlp5 HPP5 HOP5
          go_wp2_with (at_builtin; refine list_appL E8 rfl _ _ 22 rfl rfl (b + 2) (.slice a4 n4 c4) B4 (attr 5 (big 4 PREF)) ar5 nr5 cr5 r5 hby5 rfl HOR5.out rfl HPR5.out.l HPR5.out.nil HPR5.out.len hNR5 ?_)
          intro v5 z5 ho5 hg5 hat5
          have HO5 : Hid (OwnL E8 (b + 2) z5 v5 B5) := by rw [← HBY.out]; exact ho5.out
          have HE5 : Hid (Below (b + 2) w1 z5) := HER5.out.grown hg5.out hNR5 (fun g e => (HOR5.out.row.lt g e).1)
          clear ho5 hg5 hat5 HOR5 HPR5 HER5 hby5 hNR5
          obtain ⟨af, nf, cf, hvf, hsf, -⟩ := own_slice HO5.out
          subst hvf
          clear hsf
          go_wp2_with fail
          go_meet
          exact ⟨_, _, _, rfl, HO5.out, HE5.out⟩
      case rest =>
        obtain ⟨a5, n5, c5, rfl, ho5, he5⟩ := hcut
        have HO5 : Hid (OwnL E8 (b + 2) wc (.slice a5 n5 c5) B5) := ho5
        have HE5 : Hid (Below (b + 2) w1 wc) := he5
        obtain ⟨z5, hz5⟩ : ∃ z, wc = z := ⟨_, rfl⟩
        rw [hz5] at HO5 HE5 ⊢
        clear ho5 he5 hz5 o0 o1 o2 o3 o4 o5 o6 o7
        obtain ⟨o0, o1, o2, o3, o4, o5, o6, o7⟩ := HRC.out z5 HE5.out
        go_upto_if 50 with fail
        go_cut [4] from 5 to 76 (fun bv wx => ∃ a n c, bv = .slice a n c ∧ OwnL E8 (b + 2) wx (.slice a n c) B6 ∧ Below (b + 2) w1 wx)
        case first =>
          by_cases hc : q2 = 0
          · have HZ : Hid (OwnL E8 (b + 2) z5 (.slice a5 n5 c5) B6) := by rw [← HB6.out.1 hc]; exact HO5.out
            subst hc
            go_wp2_with fail
            go_meet
            exact ⟨_, _, _, rfl, HZ.out, HE5.out⟩
          · have hcb : (0 : Int) < (q2 : Int) := by omega
            have HBY : Hid (B5 ++ attr 6 (wordsB 4 m.rt.marks) = B6) := HB6.out.2 hc
            clear hc
            go_wp2_with fail
            refine (rwords_any s.m s.mc m.rt.marks q2 HQ2.out (by omega) z5 (HLP.out z5 HE5.out).2.1 HXM.out).mono ?_
            rintro e p6 ⟨vp6, rfl, hop6, hbp6⟩
            obtain ⟨ap6, np6, cp6, rfl, hop26, hlp6⟩ := own_slice hop6
            have hnp6 : np6 ≤ 1000 := by rw [← hlp6]; first | (rw [big_len]; decide) | (have := HWL.out; omega)
            have HPP6 : Hid (Pc8 p6 ap6 np6 cp6 (wordsB 4 m.rt.marks)) := OwnL.pc8 hop26
            have HEP6 : Hid (Below (b + 2) w1 p6) := (HE5.out).trans (hbp6.mono (Nat.le_trans hN1 (HE5.out).size))
            have HOP6 : Hid (OwnL E8 (b + 2) p6 (.slice a5 n5 c5) B5) := HO5.out.bel hbp6
            clear hop6 hop26 hbp6
            go_wp2_with fail
            refine (rattr_any 6 (by decide) ap6 np6 cp6 (wordsB 4 m.rt.marks) (by omega) p6 HPP6.out).mono ?_
            rintro e r6 ⟨vr6, rfl, hor6, hbr6⟩
            obtain ⟨ar6, nr6, cr6, rfl, hor26, hlr6⟩ := own_slice hor6
            have hnr6 : nr6 ≤ 2000 := by rw [← hlr6, attr_len, hlp6]; omega
            have HPR6 : Hid (Pc8 r6 ar6 nr6 cr6 (attr 6 (wordsB 4 m.rt.marks))) := OwnL.pc8 hor26
            have HER6 : Hid (Below (b + 2) w1 r6) := HEP6.out.trans (hbr6.mono (Nat.le_trans hN1 HEP6.out.size))
            have HOR6 : Hid (OwnL E8 (b + 2) r6 (.slice a5 n5 c5) B5) := HOP6.out.bel hbr6
            have hNR6 : b + 2 ≤ r6.heap.size := Nat.le_trans hN1 HER6.out.size
            have hby6 : B5.length + nr6 ≤ 1099511627775 := by omega
            clear hor6 hor26 hbr6 hlr6 hlp6 HPP6 HOP6
            go_wp2_with (at_builtin; refine list_appL E8 rfl _ _ 22 rfl rfl (b + 2) (.slice a5 n5 c5) B5 (attr 6 (wordsB 4 m.rt.marks)) ar6 nr6 cr6 r6 hby6 rfl HOR6.out rfl HPR6.out.l HPR6.out.nil HPR6.out.len hNR6 ?_)
            intro v6 z6 ho6 hg6 hat6
            have HO6 : Hid (OwnL E8 (b + 2) z6 v6 B6) := by rw [← HBY.out]; exact ho6.out
            have HE6 : Hid (Below (b + 2) w1 z6) := HER6.out.grown hg6.out hNR6 (fun g e => (HOR6.out.row.lt g e).1)
            clear ho6 hg6 hat6 HOR6 HPR6 HER6 hby6 hNR6
            obtain ⟨af, nf, cf, hvf, hsf, -⟩ := own_slice HO6.out
            subst hvf
            clear hsf
            go_wp2_with fail
            go_meet
            exact ⟨_, _, _, rfl, HO6.out, HE6.out⟩
        case rest =>
          obtain ⟨a6, n6, c6, rfl, ho6, he6⟩ := hcut
          have HO6 : Hid (OwnL E8 (b + 2) wc (.slice a6 n6 c6) B6) := ho6
          have HE6 : Hid (Below (b + 2) w1 wc) := he6
          obtain ⟨z6, hz6⟩ : ∃ z, wc = z := ⟨_, rfl⟩
          rw [hz6] at HO6 HE6 ⊢
          clear ho6 he6 hz6 o0 o1 o2 o3 o4 o5 o6 o7
          obtain ⟨o0, o1, o2, o3, o4, o5, o6, o7⟩ := HRC.out z6 HE6.out
          go_upto_if 59 with fail
          go_cut [4] from 5 to 76 (fun bv wx => ∃ a n c, bv = .slice a n c ∧ OwnL E8 (b + 2) wx (.slice a n c) B7 ∧ Below (b + 2) w1 wx)
          case first =>
            by_cases hc : AUTH = 0
            · have HZ : Hid (OwnL E8 (b + 2) z6 (.slice a6 n6 c6) B7) := by rw [← HB7.out.1 hc]; exact HO6.out
              subst hc
              go_wp2_with fail
              go_meet
              exact ⟨_, _, _, rfl, HZ.out, HE6.out⟩
            · have hcb : ((AUTH : Int) != 0) = true := by simp; omega
              have HBY : Hid (B6 ++ attr 7 (big 4 AUTH) = B7) := HB7.out.2 hc
              clear hc
              go_wp2_with fail
              refine (rbytes_any AUTH 4 (by decide) (by omega) z6).mono ?_
              rintro e p7 ⟨vp7, rfl, hop7, hbp7⟩
              obtain ⟨ap7, np7, cp7, rfl, hop27, hlp7⟩ := own_slice hop7
              have hnp7 : np7 ≤ 1000 := by rw [← hlp7]; first | (rw [big_len]; decide) | (have := HWL.out; omega)
              have HPP7 : Hid (Pc8 p7 ap7 np7 cp7 (big 4 AUTH)) := OwnL.pc8 hop27
              have HEP7 : Hid (Below (b + 2) w1 p7) := (HE6.out).trans (hbp7.mono (Nat.le_trans hN1 (HE6.out).size))
              have HOP7 : Hid (OwnL E8 (b + 2) p7 (.slice a6 n6 c6) B6) := HO6.out.bel hbp7
              clear hop7 hop27 hbp7
              go_wp2_with fail
              refine (rattr_any 7 (by decide) ap7 np7 cp7 (big 4 AUTH) (by omega) p7 HPP7.out).mono ?_
              rintro e r7 ⟨vr7, rfl, hor7, hbr7⟩
              obtain ⟨ar7, nr7, cr7, rfl, hor27, hlr7⟩ := own_slice hor7
              have hnr7 : nr7 ≤ 2000 := by rw [← hlr7, attr_len, hlp7]; omega
              have HPR7 : Hid (Pc8 r7 ar7 nr7 cr7 (attr 7 (big 4 AUTH))) := OwnL.pc8 hor27
              have HER7 : Hid (Below (b + 2) w1 r7) := HEP7.out.trans (hbr7.mono (Nat.le_trans hN1 HEP7.out.size))
              have HOR7 : Hid (OwnL E8 (b + 2) r7 (.slice a6 n6 c6) B6) := HOP7.out.bel hbr7
              have hNR7 : b + 2 ≤ r7.heap.size := Nat.le_trans hN1 HER7.out.size
              have hby7 : B6.length + nr7 ≤ 1099511627775 := by omega
              clear hor7 hor27 hbr7 hlr7 hlp7 HPP7 HOP7
              go_wp2_with (at_builtin; refine list_appL E8 rfl _ _ 22 rfl rfl (b + 2) (.slice a6 n6 c6) B6 (attr 7 (big 4 AUTH)) ar7 nr7 cr7 r7 hby7 rfl HOR7.out rfl HPR7.out.l HPR7.out.nil HPR7.out.len hNR7 ?_)
              intro v7 z7 ho7 hg7 hat7
              have HO7 : Hid (OwnL E8 (b + 2) z7 v7 B7) := by rw [← HBY.out]; exact ho7.out
              have HE7 : Hid (Below (b + 2) w1 z7) := HER7.out.grown hg7.out hNR7 (fun g e => (HOR7.out.row.lt g e).1)
              clear ho7 hg7 hat7 HOR7 HPR7 HER7 hby7 hNR7
              obtain ⟨af, nf, cf, hvf, hsf, -⟩ := own_slice HO7.out
              subst hvf
              clear hsf
              go_wp2_with fail
              go_meet
              exact ⟨_, _, _, rfl, HO7.out, HE7.out⟩
          case rest =>
            obtain ⟨a7, n7, c7, rfl, ho7, he7⟩ := hcut
            have HO7 : Hid (OwnL E8 (b + 2) wc (.slice a7 n7 c7) B7) := ho7
            have HE7 : Hid (Below (b + 2) w1 wc) := he7
            obtain ⟨z7, hz7⟩ : ∃ z, wc = z := ⟨_, rfl⟩
            rw [hz7] at HO7 HE7 ⊢
            clear ho7 he7 hz7 o0 o1 o2 o3 o4 o5 o6 o7
            obtain ⟨o0, o1, o2, o3, o4, o5, o6, o7⟩ := HRC.out z7 HE7.out
            go_upto_if 69 with fail
            go_cut [4] from 5 to 76 (fun bv wx => ∃ a n c, bv = .slice a n c ∧ OwnL E8 (b + 2) wx (.slice a n c) B8 ∧ Below (b + 2) w1 wx)
            case first =>
              by_cases hc : q3 = 0
              · have HZ : Hid (OwnL E8 (b + 2) z7 (.slice a7 n7 c7) B8) := by rw [← HB8.out.1 hc]; exact HO7.out
                subst hc
                go_wp2_with fail
                go_meet
                exact ⟨_, _, _, rfl, HZ.out, HE7.out⟩
              · have hcb : (0 : Int) < (q3 : Int) := by omega
                have HBY : Hid (B7 ++ attr 8 (wordsB 4 m.rt.clus) = B8) := HB8.out.2 hc
                clear hc
                go_wp2_with fail
                refine (rwords_any s.c s.cc m.rt.clus q3 HQ3.out (by omega) z7 (HLP.out z7 HE7.out).2.2 HXC.out).mono ?_
                rintro e p8 ⟨vp8, rfl, hop8, hbp8⟩
                obtain ⟨ap8, np8, cp8, rfl, hop28, hlp8⟩ := own_slice hop8
                have hnp8 : np8 ≤ 1000 := by rw [← hlp8]; first | (rw [big_len]; decide) | (have := HWL.out; omega)
                have HPP8 : Hid (Pc8 p8 ap8 np8 cp8 (wordsB 4 m.rt.clus)) := OwnL.pc8 hop28
                have HEP8 : Hid (Below (b + 2) w1 p8) := (HE7.out).trans (hbp8.mono (Nat.le_trans hN1 (HE7.out).size))
                have HOP8 : Hid (OwnL E8 (b + 2) p8 (.slice a7 n7 c7) B7) := HO7.out.bel hbp8
                clear hop8 hop28 hbp8
                go_wp2_with fail
                refine (rattr_any 8 (by decide) ap8 np8 cp8 (wordsB 4 m.rt.clus) (by omega) p8 HPP8.out).mono ?_
                rintro e r8 ⟨vr8, rfl, hor8, hbr8⟩
                obtain ⟨ar8, nr8, cr8, rfl, hor28, hlr8⟩ := own_slice hor8
                have hnr8 : nr8 ≤ 2000 := by rw [← hlr8, attr_len, hlp8]; omega
                have HPR8 : Hid (Pc8 r8 ar8 nr8 cr8 (attr 8 (wordsB 4 m.rt.clus))) := OwnL.pc8 hor28
                have HER8 : Hid (Below (b + 2) w1 r8) := HEP8.out.trans (hbr8.mono (Nat.le_trans hN1 HEP8.out.size))
                have HOR8 : Hid (OwnL E8 (b + 2) r8 (.slice a7 n7 c7) B7) := HOP8.out.bel hbr8
                have hNR8 : b + 2 ≤ r8.heap.size := Nat.le_trans hN1 HER8.out.size
                have hby8 : B7.length + nr8 ≤ 1099511627775 := by omega
                clear hor8 hor28 hbr8 hlr8 hlp8 HPP8 HOP8
                go_wp2_with (at_builtin; refine list_appL E8 rfl _ _ 22 rfl rfl (b + 2) (.slice a7 n7 c7) B7 (attr 8 (wordsB 4 m.rt.clus)) ar8 nr8 cr8 r8 hby8 rfl HOR8.out rfl HPR8.out.l HPR8.out.nil HPR8.out.len hNR8 ?_)
                intro v8 z8 ho8 hg8 hat8
                have HO8 : Hid (OwnL E8 (b + 2) z8 v8 B8) := by rw [← HBY.out]; exact ho8.out
                have HE8 : Hid (Below (b + 2) w1 z8) := HER8.out.grown hg8.out hNR8 (fun g e => (HOR8.out.row.lt g e).1)
                clear ho8 hg8 hat8 HOR8 HPR8 HER8 hby8 hNR8
                obtain ⟨af, nf, cf, hvf, hsf, -⟩ := own_slice HO8.out
                subst hvf
                clear hsf
                go_wp2_with fail
                go_meet
                exact ⟨_, _, _, rfl, HO8.out, HE8.out⟩
            case rest =>
              obtain ⟨a8, n8, c8, rfl, ho8, he8⟩ := hcut
              have HO8 : Hid (OwnL E8 (b + 2) wc (.slice a8 n8 c8) B8) := ho8
              have HE8 : Hid (Below (b + 2) w1 wc) := he8
              obtain ⟨z8, hz8⟩ : ∃ z, wc = z := ⟨_, rfl⟩
              rw [hz8] at HO8 HE8 ⊢
              clear ho8 he8 hz8 o0 o1 o2 o3 o4 o5 o6 o7
              obtain ⟨o0, o1, o2, o3, o4, o5, o6, o7⟩ := HRC.out z8 HE8.out
              have HF : Hid (OwnL E8 w.heap.size z8 (.slice a8 n8 c8) (attrs m)) := by rw [HALL2.out, HBZ.out]; exact HO8.out.mono (by omega)
              have HG : Hid (Below w.heap.size w z8) := HWW.out z8 HE8.out
              go_wp2_with fail
              go_ret
              exact ⟨_, rfl, HF.out, HG.out⟩
end Go.Proofs.Ytghlgkpfcpcopaa.Pv
namespace Go.Proofs.Ytghlgkpfcpcopaa.Pv
open Go.ChangeShapes Go.WideShapes Go.ChangeAt Go.RowKit Go.Joins Go.Proofs.Ytghlgkpfcpcopaa.PM Go.Proofs.Ytghlgkpfcpcopaa.Ask Go.Proofs.Ytghlgkpfcpcopaa.Ge
set_option linter.unusedVariables false

def rformN (pa pn kind dom id hold code : Int) (n1 n2 : Nat) : Bool := decide (pa = 0 ∧ pn = 0 ∧ (kind = 1 ∨ (dom = 0 ∧ id = 0 ∧ hold = 0)) ∧ (kind = 2 ∨ (n1 = 0 ∧ n2 = 0)) ∧ (kind = 4 ∨ code = 0))
def rform (m : Ms) : Bool := rformN m.rt.pa m.rt.pn m.kind m.dom m.id m.hold m.code m.lost.length m.hv.length && (decide (0 < m.hv.length) || nothing m.rt)
theorem bare_nothing (r : Rt) : bare r = (decide (r.pa = 0 ∧ r.pn = 0) && nothing r) := by
  unfold bare nothing
  rw [Bool.eq_iff_iff]
  simp only [Bool.and_eq_true, decide_eq_true_eq]
  omega
theorem rform_eq {m : Ms} (hk : 1 ≤ m.kind ∧ m.kind ≤ 4) : rform m = form m := by
  unfold rform form rformN
  rw [bare_nothing]
  generalize nothing m.rt = nt
  generalize m.lost.length = n1
  generalize m.hv.length = n2
  generalize m.rt.pa = pa
  generalize m.rt.pn = pn
  generalize m.dom = dom
  generalize m.id = id
  generalize m.hold = hold
  generalize m.code = code
  obtain ⟨kind, hkk⟩ : ∃ k, m.kind = k := ⟨_, rfl⟩
  rw [hkk] at hk ⊢
  obtain ⟨h1, h2⟩ := hk
  have h5 : kind = 1 ∨ kind = 2 ∨ kind = 3 ∨ kind = 4 := by omega
  clear hkk
  rw [Bool.eq_iff_iff]
  by_cases h0 : 0 < n2
  · rcases h5 with k | k | k | k <;> subst k <;> cases nt <;> simp [h0] <;> omega
  · obtain rfl : n2 = 0 := by omega
    rcases h5 with k | k | k | k <;> subst k <;> cases nt <;> simp <;> omega
set_option maxRecDepth 100000 in
set_option maxHeartbeats 8000000 in
theorem rform_any (m : Ms) (s : Sl) (t : Bool) (ht : rform m = t) (w : World) :
    Calls Try.prog 47 #[msV m s] w fun e w' => e = .returned (.bool t) ∧ Below w.heap.size w w' := by
  obtain ⟨nt, hnt⟩ : ∃ b, nothing m.rt = b := ⟨_, rfl⟩
  have HNT : Hid (nothing m.rt = nt) := hnt
  obtain ⟨n1, hn1⟩ : ∃ n, m.lost.length = n := ⟨_, rfl⟩
  have HN1 : Hid (m.lost.length = n1) := hn1
  obtain ⟨n2, hn2⟩ : ∃ n, m.hv.length = n := ⟨_, rfl⟩
  have HN2 : Hid (m.hv.length = n2) := hn2
  obtain ⟨q1, hq1⟩ : ∃ n, m.rt.path.length = n := ⟨_, rfl⟩
  have HQ1 : Hid (m.rt.path.length = q1) := hq1
  obtain ⟨q2, hq2⟩ : ∃ n, m.rt.marks.length = n := ⟨_, rfl⟩
  have HQ2 : Hid (m.rt.marks.length = q2) := hq2
  obtain ⟨q3, hq3⟩ : ∃ n, m.rt.clus.length = n := ⟨_, rfl⟩
  have HQ3 : Hid (m.rt.clus.length = q3) := hq3
  have HV : Hid (msV m s = .agg #[.int .i64 m.kind, .int .i64 m.dom, .int .i64 m.id, .int .i64 m.hold, .int .i64 m.code, .slice s.l n1 s.lc, .slice s.h n2 s.hc, .int .u32 m.rt.pa, .int .i64 m.rt.pn, .slice s.p q1 s.pc, .int .i64 m.rt.org, .int .i64 m.rt.pref, .int .i64 m.rt.med, .int .u32 m.rt.next, .slice s.m q2 s.mc, .slice s.c q3 s.cc, .int .i64 m.rt.auth]) := by unfold msV; rw [hn1, hn2, hq1, hq2, hq3]; rfl
  unfold rform at ht
  rw [hnt, hn1, hn2] at ht
  have HT : Hid ((rformN m.rt.pa m.rt.pn m.kind m.dom m.id m.hold m.code n1 n2 && (decide (0 < n2) || nt)) = t) := ht
  have HNC : Hid (∀ W, Calls Try.prog 75 #[.agg #[.int .u32 m.rt.pa, .int .i64 m.rt.pn, .slice s.p q1 s.pc, .int .i64 m.rt.org, .int .i64 m.rt.pref, .int .i64 m.rt.med, .int .u32 m.rt.next, .slice s.m q2 s.mc, .slice s.c q3 s.cc, .int .i64 m.rt.auth]] W fun e w' => e = .returned (.bool nt) ∧ Below W.heap.size W w') := fun W => by
    have := rnothing_any m.rt s nt HNT.out W
    unfold rtV at this
    rw [hq1, hq2, hq3] at this
    exact this
  rw [HV.out]
  clear hn1 hn2 hq1 hq2 hq3 ht hnt
  go_enter Try.func47, Try.ntmps47
  go_upto_region 1 with fail
  obtain ⟨w0, hw0⟩ : ∃ w0, w.alloc (Obj.cells #[.int .i64 m.kind, .int .i64 m.dom, .int .i64 m.id, .int .i64 m.hold, .int .i64 m.code, .slice s.l n1 s.lc, .slice s.h n2 s.hc, .int .u32 m.rt.pa, .int .i64 m.rt.pn, .slice s.p q1 s.pc, .int .i64 m.rt.org, .int .i64 m.rt.pref, .int .i64 m.rt.med, .int .u32 m.rt.next, .slice s.m q2 s.mc, .slice s.c q3 s.cc, .int .i64 m.rt.auth] 31) = w0 := ⟨_, rfl⟩
  obtain ⟨hbx, hb0, hs0⟩ := mbox_new (m := m) (s := s) (w := w) (W := w0) (by rw [HN1.out, HN2.out, HQ1.out, HQ2.out, HQ3.out]; exact hw0)
  obtain ⟨b, hb⟩ : ∃ b, w.heap.size = b := ⟨_, rfl⟩
  rw [hw0]
  rw [hb] at hbx ⊢
  have HBZ : Hid (w.heap.size = b) := hb
  have HX0 : Hid (MBox b m s w0) := hbx
  have HB0 : Hid (Below w.heap.size w w0) := hb0
  have hbs : b < w0.heap.size := by omega
  clear hw0 hbx hb0 hb hs0
  obtain ⟨c0, c1, c2, c3, c4, c5, c6, c7, c8, c9, c10, c11, c12, c13, c14, c15, c16⟩ := HX0.out
  rw [HN1.out] at c5
  rw [HN2.out] at c6
  rw [HQ1.out] at c9
  rw [HQ2.out] at c14
  rw [HQ3.out] at c15
  obtain ⟨kind, dom, id, hold, code, lost, hv, r⟩ := m
  obtain ⟨pa, pn, path, org, pref, med, next, marks, clus, auth⟩ := r
  dsimp only at *
  by_cases hz : pa = 0 ∧ pn = 0
  · obtain ⟨rfl, rfl⟩ := hz
    by_cases h2 : n2 = 0
    · subst h2
      go_wp2_with fail
      refine (HNC.out _).mono ?_
      rintro e w1 ⟨rfl, hb1⟩
      have HB1 : Hid (Below w.heap.size w w1) := HB0.out.trans (hb1.mono HB0.out.size)
      have HX1 : Hid (MBox b _ s w1) := HX0.out.blk (hb1.block b hbs)
      clear hb1 c0 c1 c2 c3 c4 c5 c6 c7 c8 c9 c10 c11 c12 c13 c14 c15 c16
      obtain ⟨c0, c1, c2, c3, c4, c5, c6, c7, c8, c9, c10, c11, c12, c13, c14, c15, c16⟩ := HX1.out
      dsimp only at *
      rw [HN1.out] at c5
      rw [HN2.out] at c6
      rw [HQ1.out] at c9
      rw [HQ2.out] at c14
      rw [HQ3.out] at c15
      cases nt with
      | false =>
        go_wp2_with fail
        go_ret
        exact ⟨ret_bool (by rw [← HT.out]; simp), HB1.out⟩
      | true =>
        go_wp2_with fail
        all_goals
          go_ret
          refine ⟨ret_bool ?_, HB1.out⟩
          try simp only [bne_iff_ne, ne_eq, bne_eq_false_iff_eq] at *
          rw [← HT.out]
          unfold rformN
          simp only [Nat.lt_irrefl, decide_false, Bool.false_or, Bool.and_true]
          try simp only [true_and, and_true]
          first
            | (symm; rw [decide_eq_false_iff_not]; omega)
            | (symm; rw [decide_eq_true_iff]; omega)
            | (rw [Bool.eq_iff_iff, beq_iff_eq, decide_eq_true_iff]; omega)
            | (rw [Bool.eq_iff_iff, Bool.or_eq_true, beq_iff_eq, beq_iff_eq, decide_eq_true_iff]; omega)
    · have h2b : ((n2 : Int) == 0) = false := by simp; omega
      have h2c : 0 < n2 := by omega
      have h2d : (0 : Int) < n2 := by omega
      go_wp2_with fail
      all_goals
        go_ret
        refine ⟨ret_bool ?_, HB0.out⟩
        try simp only [bne_iff_ne, ne_eq, bne_eq_false_iff_eq] at *
        rw [← HT.out]
        unfold rformN
        simp only [h2c, decide_true, Bool.true_or, Bool.and_true]
        try simp only [true_and]
        first
          | (symm; rw [decide_eq_false_iff_not]; omega)
          | (symm; rw [decide_eq_true_iff]; omega)
          | (rw [Bool.eq_iff_iff, beq_iff_eq, decide_eq_true_iff]; omega)
          | (rw [Bool.eq_iff_iff, Bool.or_eq_true, beq_iff_eq, beq_iff_eq, decide_eq_true_iff]; omega)
  · have HF : Hid (false = t) := by
      show false = t
      rw [← HT.out]
      unfold rformN
      rw [decide_eq_false (by omega)]
      simp
    go_wp2_with fail
    all_goals
      go_ret
      exact ⟨ret_bool HF.out, HB0.out⟩
end Go.Proofs.Ytghlgkpfcpcopaa.Pv
namespace Go.Proofs.Ytghlgkpfcpcopaa.Pv
open Go.ChangeShapes Go.WideShapes Go.ChangeAt Go.RowKit Go.Joins Go.Proofs.Ytghlgkpfcpcopaa.PM Go.Proofs.Ytghlgkpfcpcopaa.Ask Go.Proofs.Ytghlgkpfcpcopaa.Ge
set_option linter.unusedVariables false

def wN (lo x : Int) : Bool := wi x lo 4294967295
def openR (m : Ms) : Bool := !decide (m.kind = 1) || (wi m.dom 1 4294967295 && wi m.id 1 4294967295 && (decide (m.hold = 0) || wi m.hold 3 65535))
def rrange (m : Ms) : Bool := openR m && (wi m.code 0 255 && wi m.rt.org 0 2 && m.rt.path.all (fun x => wi x 1 4294967295) && m.rt.marks.all (fun x => wi x 0 4294967295) && m.rt.clus.all (fun x => wi x 0 4294967295)) && (wi m.rt.med 0 4294967295 && wi m.rt.pref 0 4294967295 && wi m.rt.auth 0 4294967295) && decide (m.rt.path.length ≤ 64 ∧ m.rt.marks.length ≤ 32 ∧ m.rt.clus.length ≤ 32)
set_option maxRecDepth 100000 in
set_option maxHeartbeats 8000000 in
theorem rrange_any2 (m : Ms) (s : Sl) (w : World) (hok : MOk w m s) (t : Bool) (ht : rrange m = t) :
    Calls Try.prog 50 #[msV m s] w fun e w' => e = .returned (.bool t) ∧ Below w.heap.size w w' := by
  have HOK : Hid (MOk w m s) := hok
  obtain ⟨b1, h1⟩ : ∃ b, openR m = b := ⟨_, rfl⟩
  have H1 : Hid (openR m = b1) := h1
  obtain ⟨b2, h2⟩ : ∃ b, wi m.code 0 255 = b := ⟨_, rfl⟩
  have H2 : Hid (wi m.code 0 255 = b2) := h2
  obtain ⟨b3, h3⟩ : ∃ b, wi m.rt.org 0 2 = b := ⟨_, rfl⟩
  have H3 : Hid (wi m.rt.org 0 2 = b3) := h3
  obtain ⟨b4, h4⟩ : ∃ b, m.rt.path.all (fun x => wi x 1 4294967295) = b := ⟨_, rfl⟩
  have H4 : Hid (m.rt.path.all (fun x => wi x 1 4294967295) = b4) := h4
  obtain ⟨b5, h5⟩ : ∃ b, m.rt.marks.all (fun x => wi x 0 4294967295) = b := ⟨_, rfl⟩
  have H5 : Hid (m.rt.marks.all (fun x => wi x 0 4294967295) = b5) := h5
  obtain ⟨b6, h6⟩ : ∃ b, m.rt.clus.all (fun x => wi x 0 4294967295) = b := ⟨_, rfl⟩
  have H6 : Hid (m.rt.clus.all (fun x => wi x 0 4294967295) = b6) := h6
  obtain ⟨b7, h7⟩ : ∃ b, (wi m.rt.med 0 4294967295 && wi m.rt.pref 0 4294967295 && wi m.rt.auth 0 4294967295) = b := ⟨_, rfl⟩
  have H7 : Hid ((wi m.rt.med 0 4294967295 && wi m.rt.pref 0 4294967295 && wi m.rt.auth 0 4294967295) = b7) := h7
  obtain ⟨n1, hn1⟩ : ∃ n, m.lost.length = n := ⟨_, rfl⟩
  have HN1 : Hid (m.lost.length = n1) := hn1
  obtain ⟨n2, hn2⟩ : ∃ n, m.hv.length = n := ⟨_, rfl⟩
  have HN2 : Hid (m.hv.length = n2) := hn2
  obtain ⟨q1, hq1⟩ : ∃ n, m.rt.path.length = n := ⟨_, rfl⟩
  have HQ1 : Hid (m.rt.path.length = q1) := hq1
  obtain ⟨q2, hq2⟩ : ∃ n, m.rt.marks.length = n := ⟨_, rfl⟩
  have HQ2 : Hid (m.rt.marks.length = q2) := hq2
  obtain ⟨q3, hq3⟩ : ∃ n, m.rt.clus.length = n := ⟨_, rfl⟩
  have HQ3 : Hid (m.rt.clus.length = q3) := hq3
  have HV : Hid (msV m s = .agg #[.int .i64 m.kind, .int .i64 m.dom, .int .i64 m.id, .int .i64 m.hold, .int .i64 m.code, .slice s.l n1 s.lc, .slice s.h n2 s.hc, .int .u32 m.rt.pa, .int .i64 m.rt.pn, .slice s.p q1 s.pc, .int .i64 m.rt.org, .int .i64 m.rt.pref, .int .i64 m.rt.med, .int .u32 m.rt.next, .slice s.m q2 s.mc, .slice s.c q3 s.cc, .int .i64 m.rt.auth]) := by unfold msV; rw [hn1, hn2, hq1, hq2, hq3]; rfl
  unfold rrange at ht
  rw [h1, h2, h3, h4, h5, h6, h7, hq1, hq2, hq3] at ht
  have HT : Hid ((b1 && (b2 && b3 && b4 && b5 && b6) && b7 && decide (q1 ≤ 64 ∧ q2 ≤ 32 ∧ q3 ≤ 32)) = t) := ht
  have HS1 := hok.r.p.small
  have HS2 := hok.r.m.small
  have HS3 := hok.r.c.small
  rw [hq1] at HS1
  rw [hq2] at HS2
  rw [hq3] at HS3
  rw [HV.out]
  have HS7 : Hid (∀ W W', W.alloc (Obj.cells #[.int .i64 m.rt.med, .int .i64 m.rt.pref, .int .i64 m.rt.auth] 3) = W' → Below W.heap.size W W' ∧ Calls Try.prog 79 #[.slice (some ⟨W.heap.size, 0, none⟩) 3 3, .int .i64 0] W' fun e w' => e = .returned (.bool b7) ∧ w' = W') := fun W W' h => by
    obtain ⟨m1, m2⟩ := own_made EI (W := W) (W' := W') [m.rt.med, m.rt.pref, m.rt.auth] 3 rfl (by decide) h
    exact ⟨m2, rbetweens_any 0 _ 3 [m.rt.med, m.rt.pref, m.rt.auth] 3 rfl W' m1.lst.1 b7 (by rw [← h7]; simp [List.all_cons, Bool.and_assoc])⟩
  clear hn1 hn2 hq1 hq2 hq3 ht h1 h2 h3 h4 h5 h6 h7 hok
  go_enter Try.func50, Try.ntmps50
  go_upto_region 2 with fail
  obtain ⟨wA, hwA⟩ : ∃ w0, w.alloc (Obj.cells #[.int .i64 m.kind, .int .i64 m.dom, .int .i64 m.id, .int .i64 m.hold, .int .i64 m.code, .slice s.l n1 s.lc, .slice s.h n2 s.hc, .int .u32 m.rt.pa, .int .i64 m.rt.pn, .slice s.p q1 s.pc, .int .i64 m.rt.org, .int .i64 m.rt.pref, .int .i64 m.rt.med, .int .u32 m.rt.next, .slice s.m q2 s.mc, .slice s.c q3 s.cc, .int .i64 m.rt.auth] 31) = w0 := ⟨_, rfl⟩
  obtain ⟨hbx, hbA, hsA⟩ := mbox_new (m := m) (s := s) (w := w) (W := wA) (by rw [HN1.out, HN2.out, HQ1.out, HQ2.out, HQ3.out]; exact hwA)
  rw [hwA]
  obtain ⟨w0, hw0⟩ : ∃ w0, wA.alloc (Obj.cells #[.int .u32 m.rt.pa, .int .i64 m.rt.pn, .slice s.p q1 s.pc, .int .i64 m.rt.org, .int .i64 m.rt.pref, .int .i64 m.rt.med, .int .u32 m.rt.next, .slice s.m q2 s.mc, .slice s.c q3 s.cc, .int .i64 m.rt.auth] 29) = w0 := ⟨_, rfl⟩
  obtain ⟨hrx, hb0, hs0⟩ := rbox_new (r := m.rt) (s := s) (w := wA) (W := w0) (by rw [HQ1.out, HQ2.out, HQ3.out]; exact hw0)
  rw [hw0]
  obtain ⟨b, hb⟩ : ∃ b, w.heap.size = b := ⟨_, rfl⟩
  rw [hsA] at hrx
  rw [hb] at hbx hrx ⊢
  have HBZ : Hid (w.heap.size = b) := hb
  have HX0 : Hid (MBox b m s w0) := hbx.blk (hb0.block b (by omega))
  have HR0 : Hid (RBox (b + 1) m.rt s w0) := hrx
  have HB0 : Hid (Below w.heap.size w w0) := hbA.trans (hb0.mono hbA.size)
  have HO0 : Hid (MOk w0 m s) := HOK.out.bel HB0.out
  have hb1 : b + 1 < w0.heap.size := by omega
  clear hwA hw0 hbx hb0 hrx hs0 hsA hbA hb HOK
  obtain ⟨c0, c1, c2, c3, c4, c5, c6, c7, c8, c9, c10, c11, c12, c13, c14, c15, c16⟩ := HX0.out
  rw [HN1.out] at c5
  rw [HN2.out] at c6
  rw [HQ1.out] at c9
  rw [HQ2.out] at c14
  rw [HQ3.out] at c15
  obtain ⟨r0, r1, r2, r3, r4, r5, r6, r7, r8, r9⟩ := HR0.out
  rw [HQ1.out] at r2
  rw [HQ2.out] at r7
  rw [HQ3.out] at r8
  by_cases k1 : m.kind = 1
  · have HOP : Hid ((wi m.dom 1 4294967295 && wi m.id 1 4294967295 && (decide (m.hold = 0) || wi m.hold 3 65535)) = b1) := by
      show _ = _
      rw [← H1.out]
      unfold openR
      rw [decide_eq_true k1]
      simp
    rw [k1] at c0
    obtain ⟨d1, g1⟩ : ∃ b, wi m.dom 1 4294967295 = b := ⟨_, rfl⟩
    obtain ⟨d2, g2⟩ : ∃ b, wi m.id 1 4294967295 = b := ⟨_, rfl⟩
    obtain ⟨d3, g3⟩ : ∃ b, wi m.hold 3 65535 = b := ⟨_, rfl⟩
    have G1 : Hid (wi m.dom 1 4294967295 = d1) := g1
    have G2 : Hid (wi m.id 1 4294967295 = d2) := g2
    have G3 : Hid (wi m.hold 3 65535 = d3) := g3
    rw [g1, g2, g3] at HOP
    clear g1 g2 g3
    go_wp2_with fail
    refine (rbetween_any m.dom 1 4294967295 d1 G1.out _).mono ?_
    rintro e w5 ⟨rfl, hw5⟩
    rw [hw5]
    clear hw5 w5
    cases d1 with
    | false =>
      obtain rfl : b1 = false := by rw [← HOP.out]; simp
      go_wp2_with fail
      go_ret
      exact ⟨ret_bool (by rw [← HT.out]; simp), HB0.out⟩
    | true =>
      go_wp2_with fail
      refine (rbetween_any m.id 1 4294967295 d2 G2.out _).mono ?_
      rintro e w5 ⟨rfl, hw5⟩
      rw [hw5]
      clear hw5 w5
      cases d2 with
      | false =>
        obtain rfl : b1 = false := by rw [← HOP.out]; simp
        go_wp2_with fail
        go_ret
        exact ⟨ret_bool (by rw [← HT.out]; simp), HB0.out⟩
      | true =>
        by_cases h0 : m.hold = 0
        · obtain rfl : b1 = true := by rw [← HOP.out, decide_eq_true h0]; simp
          have h0b : (m.hold != 0) = false := by simpa using h0
          rw [h0] at c3
          clear h0 h0b
          go_wp2_with fail
          refine (rbetween_any m.code 0 255 b2 H2.out _).mono ?_
          rintro e w5 ⟨rfl, hw5⟩
          rw [hw5]
          clear hw5 w5
          cases b2 with
          | false =>
            go_wp2_with fail
            go_ret
            exact ⟨ret_bool (by rw [← HT.out]; simp), HB0.out⟩
          | true =>
            go_wp2_with fail
            refine (rbetween_any m.rt.org 0 2 b3 H3.out _).mono ?_
            rintro e w5 ⟨rfl, hw5⟩
            rw [hw5]
            clear hw5 w5
            cases b3 with
            | false =>
              go_wp2_with fail
              go_ret
              exact ⟨ret_bool (by rw [← HT.out]; simp), HB0.out⟩
            | true =>
              go_wp2_with fail
              refine (rbetweens_any 1 s.p s.pc m.rt.path q1 HQ1.out _ HO0.out.r.p b4 H4.out).mono ?_
              rintro e w5 ⟨rfl, hw5⟩
              rw [hw5]
              clear hw5 w5
              cases b4 with
              | false =>
                go_wp2_with fail
                go_ret
                exact ⟨ret_bool (by rw [← HT.out]; simp), HB0.out⟩
              | true =>
                go_wp2_with fail
                refine (rbetweens_any 0 s.m s.mc m.rt.marks q2 HQ2.out _ HO0.out.r.m b5 H5.out).mono ?_
                rintro e w5 ⟨rfl, hw5⟩
                rw [hw5]
                clear hw5 w5
                cases b5 with
                | false =>
                  go_wp2_with fail
                  go_ret
                  exact ⟨ret_bool (by rw [← HT.out]; simp), HB0.out⟩
                | true =>
                  go_wp2_with fail
                  refine (rbetweens_any 0 s.c s.cc m.rt.clus q3 HQ3.out _ HO0.out.r.c b6 H6.out).mono ?_
                  rintro e w5 ⟨rfl, hw5⟩
                  rw [hw5]
                  clear hw5 w5
                  cases b6 with
                  | false =>
                    go_wp2_with fail
                    go_ret
                    exact ⟨ret_bool (by rw [← HT.out]; simp), HB0.out⟩
                  | true =>
                    go_wp2_with fail
                    obtain ⟨w9, hw9⟩ : ∃ w9, w0.alloc (Obj.cells #[.int .i64 m.rt.med, .int .i64 m.rt.pref, .int .i64 m.rt.auth] 3) = w9 := ⟨_, rfl⟩
                    obtain ⟨hb9, hc9⟩ := HS7.out w0 w9 hw9
                    have HB9 : Hid (Below w.heap.size w w9) := HB0.out.trans (hb9.mono HB0.out.size)
                    have HR9 : Hid (RBox (b + 1) m.rt s w9) := HR0.out.blk (hb9.block (b + 1) hb1)
                    rw [hw9]
                    refine hc9.mono ?_
                    rintro e w5 ⟨rfl, hw5⟩
                    rw [hw5]
                    clear hw5 w5
                    clear hw9 hb9 hc9 r0 r1 r2 r3 r4 r5 r6 r7 r8 r9 c0 c1 c2 c3 c4 c5 c6 c7 c8 c9 c10 c11 c12 c13 c14 c15 c16
                    obtain ⟨r0, r1, r2, r3, r4, r5, r6, r7, r8, r9⟩ := HR9.out
                    rw [HQ1.out] at r2
                    rw [HQ2.out] at r7
                    rw [HQ3.out] at r8
                    cases b7 with
                    | false =>
                      go_wp2_with fail
                      go_ret
                      exact ⟨ret_bool (by rw [← HT.out]; simp), HB9.out⟩
                    | true =>
                      go_wp2_with fail
                      all_goals
                        go_ret
                        refine ⟨ret_bool ?_, HB9.out⟩
                        rw [← HT.out]
                        simp only [Bool.and_true, Bool.true_and]
                        first
                          | (symm; rw [decide_eq_false_iff_not]; omega)
                          | (symm; rw [decide_eq_true_iff]; omega)
                          | (rw [Bool.eq_iff_iff, decide_eq_true_iff, decide_eq_true_iff]; omega)
        · have HH : Hid ((decide (m.hold = 0)) = false) := decide_eq_false h0
          have h0b : (m.hold != 0) = true := by simpa using h0
          clear h0
          go_wp2_with fail
          refine (rbetween_any m.hold 3 65535 d3 G3.out _).mono ?_
          rintro e w5 ⟨rfl, hw5⟩
          rw [hw5]
          clear hw5 w5
          cases d3 with
          | false =>
            obtain rfl : b1 = false := by rw [← HOP.out, HH.out]; simp
            go_wp2_with fail
            go_ret
            exact ⟨ret_bool (by rw [← HT.out]; simp), HB0.out⟩
          | true =>
            obtain rfl : b1 = true := by rw [← HOP.out, HH.out]; simp
            go_wp2_with fail
            refine (rbetween_any m.code 0 255 b2 H2.out _).mono ?_
            rintro e w5 ⟨rfl, hw5⟩
            rw [hw5]
            clear hw5 w5
            cases b2 with
            | false =>
              go_wp2_with fail
              go_ret
              exact ⟨ret_bool (by rw [← HT.out]; simp), HB0.out⟩
            | true =>
              go_wp2_with fail
              refine (rbetween_any m.rt.org 0 2 b3 H3.out _).mono ?_
              rintro e w5 ⟨rfl, hw5⟩
              rw [hw5]
              clear hw5 w5
              cases b3 with
              | false =>
                go_wp2_with fail
                go_ret
                exact ⟨ret_bool (by rw [← HT.out]; simp), HB0.out⟩
              | true =>
                go_wp2_with fail
                refine (rbetweens_any 1 s.p s.pc m.rt.path q1 HQ1.out _ HO0.out.r.p b4 H4.out).mono ?_
                rintro e w5 ⟨rfl, hw5⟩
                rw [hw5]
                clear hw5 w5
                cases b4 with
                | false =>
                  go_wp2_with fail
                  go_ret
                  exact ⟨ret_bool (by rw [← HT.out]; simp), HB0.out⟩
                | true =>
                  go_wp2_with fail
                  refine (rbetweens_any 0 s.m s.mc m.rt.marks q2 HQ2.out _ HO0.out.r.m b5 H5.out).mono ?_
                  rintro e w5 ⟨rfl, hw5⟩
                  rw [hw5]
                  clear hw5 w5
                  cases b5 with
                  | false =>
                    go_wp2_with fail
                    go_ret
                    exact ⟨ret_bool (by rw [← HT.out]; simp), HB0.out⟩
                  | true =>
                    go_wp2_with fail
                    refine (rbetweens_any 0 s.c s.cc m.rt.clus q3 HQ3.out _ HO0.out.r.c b6 H6.out).mono ?_
                    rintro e w5 ⟨rfl, hw5⟩
                    rw [hw5]
                    clear hw5 w5
                    cases b6 with
                    | false =>
                      go_wp2_with fail
                      go_ret
                      exact ⟨ret_bool (by rw [← HT.out]; simp), HB0.out⟩
                    | true =>
                      go_wp2_with fail
                      obtain ⟨w9, hw9⟩ : ∃ w9, w0.alloc (Obj.cells #[.int .i64 m.rt.med, .int .i64 m.rt.pref, .int .i64 m.rt.auth] 3) = w9 := ⟨_, rfl⟩
                      obtain ⟨hb9, hc9⟩ := HS7.out w0 w9 hw9
                      have HB9 : Hid (Below w.heap.size w w9) := HB0.out.trans (hb9.mono HB0.out.size)
                      have HR9 : Hid (RBox (b + 1) m.rt s w9) := HR0.out.blk (hb9.block (b + 1) hb1)
                      rw [hw9]
                      refine hc9.mono ?_
                      rintro e w5 ⟨rfl, hw5⟩
                      rw [hw5]
                      clear hw5 w5
                      clear hw9 hb9 hc9 r0 r1 r2 r3 r4 r5 r6 r7 r8 r9 c0 c1 c2 c3 c4 c5 c6 c7 c8 c9 c10 c11 c12 c13 c14 c15 c16
                      obtain ⟨r0, r1, r2, r3, r4, r5, r6, r7, r8, r9⟩ := HR9.out
                      rw [HQ1.out] at r2
                      rw [HQ2.out] at r7
                      rw [HQ3.out] at r8
                      cases b7 with
                      | false =>
                        go_wp2_with fail
                        go_ret
                        exact ⟨ret_bool (by rw [← HT.out]; simp), HB9.out⟩
                      | true =>
                        go_wp2_with fail
                        all_goals
                          go_ret
                          refine ⟨ret_bool ?_, HB9.out⟩
                          rw [← HT.out]
                          simp only [Bool.and_true, Bool.true_and]
                          first
                            | (symm; rw [decide_eq_false_iff_not]; omega)
                            | (symm; rw [decide_eq_true_iff]; omega)
                            | (rw [Bool.eq_iff_iff, decide_eq_true_iff, decide_eq_true_iff]; omega)
  · obtain rfl : b1 = true := by
      rw [← H1.out]
      unfold openR
      rw [decide_eq_false k1]
      simp
    have k1b : (m.kind == 1) = false := by simpa using k1
    clear k1
    go_wp2_with fail
    refine (rbetween_any m.code 0 255 b2 H2.out _).mono ?_
    rintro e w5 ⟨rfl, hw5⟩
    rw [hw5]
    clear hw5 w5
    cases b2 with
    | false =>
      go_wp2_with fail
      go_ret
      exact ⟨ret_bool (by rw [← HT.out]; simp), HB0.out⟩
    | true =>
      go_wp2_with fail
      refine (rbetween_any m.rt.org 0 2 b3 H3.out _).mono ?_
      rintro e w5 ⟨rfl, hw5⟩
      rw [hw5]
      clear hw5 w5
      cases b3 with
      | false =>
        go_wp2_with fail
        go_ret
        exact ⟨ret_bool (by rw [← HT.out]; simp), HB0.out⟩
      | true =>
        go_wp2_with fail
        refine (rbetweens_any 1 s.p s.pc m.rt.path q1 HQ1.out _ HO0.out.r.p b4 H4.out).mono ?_
        rintro e w5 ⟨rfl, hw5⟩
        rw [hw5]
        clear hw5 w5
        cases b4 with
        | false =>
          go_wp2_with fail
          go_ret
          exact ⟨ret_bool (by rw [← HT.out]; simp), HB0.out⟩
        | true =>
          go_wp2_with fail
          refine (rbetweens_any 0 s.m s.mc m.rt.marks q2 HQ2.out _ HO0.out.r.m b5 H5.out).mono ?_
          rintro e w5 ⟨rfl, hw5⟩
          rw [hw5]
          clear hw5 w5
          cases b5 with
          | false =>
            go_wp2_with fail
            go_ret
            exact ⟨ret_bool (by rw [← HT.out]; simp), HB0.out⟩
          | true =>
            go_wp2_with fail
            refine (rbetweens_any 0 s.c s.cc m.rt.clus q3 HQ3.out _ HO0.out.r.c b6 H6.out).mono ?_
            rintro e w5 ⟨rfl, hw5⟩
            rw [hw5]
            clear hw5 w5
            cases b6 with
            | false =>
              go_wp2_with fail
              go_ret
              exact ⟨ret_bool (by rw [← HT.out]; simp), HB0.out⟩
            | true =>
              go_wp2_with fail
              obtain ⟨w9, hw9⟩ : ∃ w9, w0.alloc (Obj.cells #[.int .i64 m.rt.med, .int .i64 m.rt.pref, .int .i64 m.rt.auth] 3) = w9 := ⟨_, rfl⟩
              obtain ⟨hb9, hc9⟩ := HS7.out w0 w9 hw9
              have HB9 : Hid (Below w.heap.size w w9) := HB0.out.trans (hb9.mono HB0.out.size)
              have HR9 : Hid (RBox (b + 1) m.rt s w9) := HR0.out.blk (hb9.block (b + 1) hb1)
              rw [hw9]
              refine hc9.mono ?_
              rintro e w5 ⟨rfl, hw5⟩
              rw [hw5]
              clear hw5 w5
              clear hw9 hb9 hc9 r0 r1 r2 r3 r4 r5 r6 r7 r8 r9 c0 c1 c2 c3 c4 c5 c6 c7 c8 c9 c10 c11 c12 c13 c14 c15 c16
              obtain ⟨r0, r1, r2, r3, r4, r5, r6, r7, r8, r9⟩ := HR9.out
              rw [HQ1.out] at r2
              rw [HQ2.out] at r7
              rw [HQ3.out] at r8
              cases b7 with
              | false =>
                go_wp2_with fail
                go_ret
                exact ⟨ret_bool (by rw [← HT.out]; simp), HB9.out⟩
              | true =>
                go_wp2_with fail
                all_goals
                  go_ret
                  refine ⟨ret_bool ?_, HB9.out⟩
                  rw [← HT.out]
                  simp only [Bool.and_true, Bool.true_and]
                  first
                    | (symm; rw [decide_eq_false_iff_not]; omega)
                    | (symm; rw [decide_eq_true_iff]; omega)
                    | (rw [Bool.eq_iff_iff, decide_eq_true_iff, decide_eq_true_iff]; omega)
end Go.Proofs.Ytghlgkpfcpcopaa.Pv
namespace Go.Proofs.Ytghlgkpfcpcopaa.Pv
open Go.ChangeShapes Go.WideShapes Go.ChangeAt Go.RowKit Go.Joins Go.Proofs.Ytghlgkpfcpcopaa.PM Go.Proofs.Ytghlgkpfcpcopaa.Ask Go.Proofs.Ytghlgkpfcpcopaa.Ge
set_option linter.unusedVariables false

theorem big1' {k : Nat} (h : k < 256) : big 1 k = [k] := by
  unfold big
  simp [List.range_succ]
  omega
theorem pfx_at (A z i : Nat) (hz : z ≤ 4) (hi : i < z) : (big z (A / 2 ^ (32 - 8 * z)))[i]'(by rw [big_len]; exact hi) = A / 2 ^ (24 - 8 * i) % 256 := by
  simp only [big, List.getElem_map, List.getElem_range]
  rw [Nat.div_div_eq_div_mul, ← Nat.pow_add]
  congr 3
  omega
set_option maxRecDepth 100000 in
set_option maxHeartbeats 8000000 in
theorem docprefixes_any (va : Option Addr) (cap : Nat) (ps : List (Int × Int)) (n : Nat) (hn : ps.length = n) (hbig : n ≤ 100000) (w : World) (hl : Lst E2 w va ps) (hp : ∀ p ∈ ps, InA p) (hv : ∀ p ∈ ps, 0 ≤ p.2 ∧ p.2 ≤ 32) :
    Calls Try.prog 51 #[.slice va n cap] w fun e w' => ∃ v, e = .returned v ∧ OwnL E8 w.heap.size w' v (pfxsB ps) ∧ Below w.heap.size w w' := by
  have HL : Hid (Lst E2 w va ps) := hl
  have HP : Hid (∀ p ∈ ps, InA p) := hp
  have HV : Hid (∀ p ∈ ps, 0 ≤ p.2 ∧ p.2 ≤ 32) := hv
  have HN : Hid (ps.length = n) := hn
  clear hl hp hn hv
  go_enter Try.func51, Try.ntmps51
  go_wp2_with fail
  go_loopw [3, 9] (fun bv iv wr => ∃ i : Nat, i ≤ n ∧ iv = .int .i64 (i : Int) ∧ OwnL E8 w.heap.size wr bv (pfxsB (ps.take i)) ∧ Below w.heap.size w wr) (fun _ i _ => n - (intOf i).toNat)
  case atStart => exact ⟨0, by omega, rfl, OwnL.nil _ _ _, Below.refl _ _⟩
  case round =>
    obtain ⟨i, hi, rfl, ho, hb⟩ := hrel
    have HO : Hid (OwnL E8 w.heap.size wr u3 (pfxsB (ps.take i))) := ho
    have HB : Hid (Below w.heap.size w wr) := hb
    clear ho hb
    by_cases hlt : i < n
    · have hil : i < ps.length := by rw [HN.out]; exact hlt
      obtain ⟨b, o, rfl, hbl, c0, c1⟩ := lst2 (HL.out.bel HB.out) i hil
      have hin := HP.out _ (List.getElem_mem hil)
      have hvl := HV.out _ (List.getElem_mem hil)
      have HNX : Hid (pfxsB (ps.take (i + 1)) = pfxsB (ps.take i) ++ pfxB ps[i]) := pfxsB_snoc ps i hil
      have hlen : (pfxsB (ps.take i)).length ≤ 500000 := by
        have h1 := (pfxsB_len (ps := ps.take i) (fun p hp => by have := HV.out p (List.mem_of_mem_take hp); omega)).1
        rw [List.length_take] at h1
        omega
      obtain ⟨⟨pa, pn⟩, hpp⟩ : ∃ p, ps[i] = p := ⟨_, rfl⟩
      rw [hpp] at c0 c1 hin hvl HNX
      obtain ⟨p0, p1⟩ := hin
      obtain ⟨q0, q1⟩ := hvl
      dsimp only at p0 p1 q0 q1 c0 c1
      obtain ⟨A, rfl⟩ : ∃ A : Nat, pa = A := ⟨pa.toNat, by omega⟩
      obtain ⟨L, rfl⟩ : ∃ L : Nat, pn = L := ⟨pn.toNat, by omega⟩
      have hL : L ≤ 32 := by omega
      obtain ⟨z, hz⟩ : ∃ z, bsz L = z := ⟨_, rfl⟩
      have hz4 : z ≤ 4 := by rw [← hz]; exact bsz_le hL
      have HZ : Hid (∀ k : Nat, k < z ↔ 8 * k < L) := fun k => by rw [← hz]; unfold bsz; omega
      obtain ⟨Y, hY⟩ : ∃ q, big z (A / 2 ^ (32 - 8 * z)) = q := ⟨_, rfl⟩
      have HYL : Hid (Y.length = z) := by rw [← hY]; exact big_len _ _
      have HYA : Hid (∀ k (h : k < Y.length), k < z → Y[k] = A / 2 ^ (24 - 8 * k) % 256) := fun k h hk => by subst hY; exact pfx_at A z k hz4 hk
      have HQ : Hid (pfxB ((A : Int), (L : Int)) = [L] ++ Y) := by
        unfold pfxB
        show big 1 ((L : Int).toNat) ++ big (bsz (L : Int).toNat) ((A : Int).toNat / 2 ^ (32 - 8 * bsz (L : Int).toNat)) = _
        rw [Int.toNat_natCast, Int.toNat_natCast, hz, hY, big1' (by omega)]
      have hLu : IntKind.u8.wrap (L : Int) = (L : Int) := by rw [IntKind.wrap_u8]; omega
      have hii : (i : Int) < n := by omega
      have ii0 : (0 : Int) ≤ i := by omega
      obtain ⟨bs, hbs⟩ : ∃ b, pfxsB (ps.take i) = b := ⟨_, rfl⟩
      rw [hbs] at HO HNX hlen
      clear hz hY hpp hbs
      go_upto_region 5 with fail
      obtain ⟨wA, hwA⟩ : ∃ wA, wr.alloc (Obj.cells #[.int .u32 (A : Int), .int .i64 (L : Int)] 26) = wA := ⟨_, rfl⟩
      obtain ⟨sa, hsa⟩ : ∃ k, wr.heap.size = k := ⟨_, rfl⟩
      have hbA : Below wr.heap.size wr wA := by rw [← hwA]; exact (Below.refl _ wr).alloc (Nat.le_refl _) _
      have d0 : wA.cell? ⟨sa, 0, none⟩ = some (.int .u32 (A : Int)) := by rw [← hwA, ← hsa]; simp
      have d1 : wA.cell? ⟨sa, 1, none⟩ = some (.int .i64 (L : Int)) := by rw [← hwA, ← hsa]; simp
      have hsA : sa < wA.heap.size := by rw [← hwA, ← hsa]; simp
      have HOA : Hid (OwnL E8 w.heap.size wA u3 bs) := HO.out.bel hbA
      have HBA : Hid (Below w.heap.size w wA) := HB.out.trans (hbA.mono HB.out.size)
      have HNE : Hid (¬ u3.ownBlock = some sa) := fun e => by have := (HO.out.row.lt sa e).2; omega
      have HDC : Hid (∀ W : World, W.heap[sa]? = wA.heap[sa]? → W.cell? ⟨sa, 0, none⟩ = some (.int .u32 (A : Int)) ∧ W.cell? ⟨sa, 1, none⟩ = some (.int .i64 (L : Int))) := fun W h => ⟨(World.cell?_of_block (w := wA) h).trans d0, (World.cell?_of_block (w := wA) h).trans d1⟩
      rw [hwA, hsa]
      obtain ⟨wB, hwB⟩ : ∃ W, wA.alloc (Obj.cells #[.int .u8 (L : Int)] 5) = W := ⟨_, rfl⟩
      have HWE : Hid (wA.alloc (Obj.cells (E8.enc L).toArray E8.e) = wB) := hwB
      have hbB : Below wA.heap.size wA wB := by rw [← hwB]; exact (Below.refl _ wA).alloc (Nat.le_refl _) _
      have HOB : Hid (OwnL E8 w.heap.size wB u3 bs) := HOA.out.bel hbB
      have HBB : Hid (Below w.heap.size w wB) := HBA.out.trans (hbB.mono HBA.out.size)
      have HSB : Hid (wB.heap[sa]? = wA.heap[sa]?) := hbB.block sa hsA
      have hsB : sa < wB.heap.size := Nat.lt_of_lt_of_le hsA hbB.size
      have hby : bs.length ≤ 1099511627775 := by omega
      clear hwA hsa hbA HO c0 c1 hbB
      go_wp2_with (at_builtin; refine list_app1 E8 rfl _ _ 22 rfl rfl w.heap.size u3 bs L hby (w := wA) wB rfl HOB.out rfl HBB.out.size HWE.out.symm ?_)
      intro v1 w1 ho1 hg1 hat1
      have HO1 : Hid (OwnL E8 w.heap.size w1 v1 (bs ++ [L])) := ho1.out
      have HB1 : Hid (Below w.heap.size w w1) := HBB.out.grown hg1.out HBB.out.size (fun g e => (HOB.out.row.lt g e).1)
      have HS1 : Hid (w1.heap[sa]? = wA.heap[sa]?) := (hg1.out.block sa hsB (fun e => HNE.out e.symm)).trans HSB.out
      have HN1 : Hid (¬ v1.ownBlock = some sa) := fun e => by
        rcases hat1.out with e2 | e2
        · exact HNE.out (by rw [← e2]; exact e)
        · rw [e2] at e; cases e; omega
      have hs1 : sa < w1.heap.size := Nat.lt_of_lt_of_le hsB hg1.out.size
      clear ho1 hg1 hat1 d0 d1 hwB HWE HOB HBB HOA HBA HSB hsB
      go_wp2_with fail
      go_loopw [3, 6] (fun bv iv wr2 => ∃ k : Nat, k ≤ z ∧ iv = .int .i64 (k : Int) ∧ OwnL E8 w.heap.size wr2 bv (bs ++ [L] ++ Y.take k) ∧ Below w.heap.size w wr2 ∧ wr2.heap[sa]? = wA.heap[sa]? ∧ (¬ bv.ownBlock = some sa) ∧ sa < wr2.heap.size) (fun _ i _ => z - (intOf i).toNat)
      case atStart => exact ⟨0, by omega, rfl, by simpa using HO1.out, HB1.out, HS1.out, HN1.out, hs1⟩
      case round =>
        obtain ⟨k, hk, rfl, hox, hbx, hsx, hnx, hlx⟩ := hrel
        have HO2 : Hid (OwnL E8 w.heap.size wr u3 (bs ++ [L] ++ Y.take k)) := hox
        have HB2 : Hid (Below w.heap.size w wr) := hbx
        have HS2 : Hid (wr.heap[sa]? = wA.heap[sa]?) := hsx
        have HN2 : Hid (¬ u3.ownBlock = some sa) := hnx
        clear hox hbx hsx hnx
        obtain ⟨d0, d1⟩ := HDC.out wr HS2.out
        obtain ⟨e8, he8⟩ : ∃ e, 8 * k = e := ⟨_, rfl⟩
        have w8 : IntKind.i64.wrap (8 * (k : Int)) = (e8 : Int) := by rw [IntWalk.i64_in _ (by omega)]; omega
        by_cases hkz : k < z
        · have hk8 : (e8 : Int) < (L : Int) := by have := (HZ.out k).1 hkz; omega
          obtain ⟨f8, hf8⟩ : ∃ f, 24 - 8 * k = f := ⟨_, rfl⟩
          have hky : k < Y.length := by rw [HYL.out]; exact hkz
          obtain ⟨c, hc⟩ : ∃ c, A / 2 ^ f8 % 256 = c := ⟨_, rfl⟩
          have hcv : (A : Int) / 2 ^ f8 % 256 = (c : Int) := by rw [← hc]; simp
          have hmin : min f8 32 = f8 := by omega
          have w9 : IntKind.i64.wrap (24 - (e8 : Int)) = (f8 : Int) := by rw [IntWalk.i64_in _ (by omega)]; omega
          obtain ⟨X, hX⟩ : ∃ x, bs ++ [L] ++ Y.take k = x := ⟨_, rfl⟩
          have HNX2 : Hid (X ++ [c] = bs ++ [L] ++ Y.take (k + 1)) := by
            show _ = _
            rw [← hX, List.take_succ_eq_append_getElem hky, HYA.out k hky hkz, hf8, hc, List.append_assoc (bs ++ [L])]
          rw [hX] at HO2
          have hxl : X.length ≤ 1099511627775 := by
            rw [← hX, List.length_append, List.length_append, List.length_take]
            simp
            omega
          obtain ⟨W, hW⟩ : ∃ W, wr.alloc (Obj.cells #[.int .u8 (c : Int)] 5) = W := ⟨_, rfl⟩
          have HWE : Hid (wr.alloc (Obj.cells (E8.enc c).toArray E8.e) = W) := hW
          have hbl2 : Below wr.heap.size wr W := by rw [← hW]; exact (Below.refl _ wr).alloc (Nat.le_refl _) _
          have HWA : Hid (OwnL E8 w.heap.size W u3 X) := HO2.out.bel hbl2
          have HBW : Hid (Below w.heap.size w W) := HB2.out.trans (hbl2.mono HB2.out.size)
          have HSW : Hid (W.heap[sa]? = wA.heap[sa]?) := (hbl2.block sa hlx).trans HS2.out
          have hsW : sa < W.heap.size := Nat.lt_of_lt_of_le hlx hbl2.size
          clear hX hc hbl2 hf8 he8
          go_wp2_with (at_builtin; refine list_app1 E8 rfl _ _ 22 rfl rfl w.heap.size u3 X c hxl (w := wr) W rfl HWA.out rfl HBW.out.size HWE.out.symm ?_)
          intro v2 w2 ho2 hg2 hat2
          have HO3 : Hid (OwnL E8 w.heap.size w2 v2 (bs ++ [L] ++ Y.take (k + 1))) := by rw [← HNX2.out]; exact ho2.out
          have HB3 : Hid (Below w.heap.size w w2) := HBW.out.grown hg2.out HBW.out.size (fun g e => (HWA.out.row.lt g e).1)
          have HS3 : Hid (w2.heap[sa]? = wA.heap[sa]?) := (hg2.out.block sa hsW (fun e => HN2.out e.symm)).trans HSW.out
          have HN3 : Hid (¬ v2.ownBlock = some sa) := fun e => by
            rcases hat2.out with e2 | e2
            · exact HN2.out (by rw [← e2]; exact e)
            · rw [e2] at e; cases e; omega
          have hs3 : sa < w2.heap.size := Nat.lt_of_lt_of_le hsW hg2.out.size
          clear ho2 hg2 hat2
          go_wp2_with fail
          exact ⟨⟨k + 1, by omega, by simp, HO3.out, HB3.out, HS3.out, HN3.out, hs3⟩, by simp [intOf]; omega⟩
        · obtain rfl : k = z := by omega
          have hk8 : ¬ (e8 : Int) < (L : Int) := by have := (HZ.out k).2; omega
          clear he8
          have HO3 : Hid (OwnL E8 w.heap.size wr u3 (pfxsB (ps.take (i + 1)))) := by
            rw [HNX.out, HQ.out, ← List.append_assoc]
            have := HO2.out
            rw [List.take_of_length_le (by rw [HYL.out]; exact Nat.le_refl _)] at this
            exact this
          clear HO2
          go_wp2_with fail
          exact ⟨⟨i + 1, by omega, by simp, HO3.out, HB2.out⟩, by simp [intOf]; omega⟩
    · obtain rfl : i = n := by omega
      have HE : Hid (OwnL E8 w.heap.size wr u3 (pfxsB ps)) := by
        have h1 := HO.out
        rw [List.take_of_length_le (by have := HN.out; omega)] at h1
        exact h1
      obtain ⟨va5, vc5, rfl, -⟩ := HE.out.form
      obtain ⟨vl, hvl⟩ : ∃ q, (pfxsB ps).length = q := ⟨_, rfl⟩
      rw [hvl] at HE
      rw [hvl]
      clear HO hvl
      go_wp2_with fail
      go_ret
      exact ⟨_, rfl, HE.out, HB.out⟩
theorem bits_xor64 (a b : Nat) (ha : a < 65536) (hb : b < 65536) : bits .xor .i64 (a : Int) (b : Int) = ((a ^^^ b : Nat) : Int) := by
  have ha' : a % 2 ^ IntKind.i64.bits = a := Nat.mod_eq_of_lt (Nat.lt_of_lt_of_le ha (by decide))
  have hb' : b % 2 ^ IntKind.i64.bits = b := Nat.mod_eq_of_lt (Nat.lt_of_lt_of_le hb (by decide))
  have h := xor_lt16 ha hb
  simp only [bits, BitVec.ofInt_natCast, BitVec.toNat_xor, BitVec.toNat_ofNat, ha', hb']
  rw [IntWalk.i64_in _ (by omega)]
theorem sbit_ref (s : Nat) (hs : s < 65536) : sbit s = if s / 32768 = 1 then (s * 2 % 65536) ^^^ 4129 else s * 2 % 65536 := by
  have h2 : s / 32768 < 2 := by omega
  unfold sbit
  split
  · rename_i h; rw [h]
  · rename_i h
    have : s / 32768 = 0 := by omega
    rw [this]
    simp
set_option maxRecDepth 100000 in
set_option maxHeartbeats 8000000 in
theorem rsum_any (va : Option Addr) (cap : Nat) (bs : List Nat) (L : Nat) (hL : bs.length = L) (w : World) (hx : Lst E8 w va bs) (hu : ∀ d ∈ bs, d < 256) (r : Nat) (hr : ssum 65535 bs = r) :
    Calls Try.prog 26 #[.slice va L cap] w fun e w' => e = .returned (.int .i64 (r : Int)) ∧ w' = w := by
  have HX : Hid (Lst E8 w va bs) := hx
  have HU : Hid (∀ d ∈ bs, d < 256) := hu
  have HLX : Hid (bs.length = L) := hL
  have HR : Hid (ssum 65535 bs = r) := hr
  have hl9 := hx.small
  rw [hL] at hl9
  clear hx hL hr hu
  go_enter Try.func26, Try.ntmps26
  go_wp2_with fail
  go_loopw [3, 10] (fun sv iv wr => ∃ (k s : Nat), k ≤ L ∧ iv = .int .i64 k ∧ sv = .int .i64 (s : Int) ∧ s < 65536 ∧ ssum s (bs.drop k) = r ∧ wr = w) (fun _ i _ => L - (intOf i).toNat)
  case atStart => exact ⟨0, 65535, by omega, rfl, rfl, by decide, HR.out, rfl⟩
  case round =>
    obtain ⟨k, s, hk, rfl, rfl, s1, hg, hwr⟩ := hrel
    subst hwr
    have HG : Hid (ssum s (bs.drop k) = r) := hg
    clear hg
    by_cases hlt : k < L
    · have hkd : k < bs.length := by rw [HLX.out]; exact hlt
      obtain ⟨b, o, rfl, hbl, c0⟩ := lst8 HX.out k hkd
      have hu := HU.out _ (List.getElem_mem hkd)
      obtain ⟨d, hd⟩ : ∃ c, bs[k] = c := ⟨_, rfl⟩
      rw [hd] at c0 hu
      obtain ⟨x, hx⟩ : ∃ x, s ^^^ (d * 256) = x := ⟨_, rfl⟩
      have hx1 : x < 65536 := by rw [← hx]; exact xor_lt16 s1 (by omega)
      have HG2 : Hid (ssum (sbits 8 x) (bs.drop (k + 1)) = r) := by
        have h1 := HG.out
        rw [List.drop_eq_getElem_cons hkd, hd] at h1
        rw [← hx]
        exact h1
      have e1 : (d : Int) * 256 = ((d * 256 : Nat) : Int) := by omega
      have hxx : bits .xor .i64 (s : Int) ((d : Int) * 256) = (x : Int) := by rw [e1, bits_xor64 _ _ s1 (by omega), hx]
      have hkk : (k : Int) < L := by omega
      have kk0 : (0 : Int) ≤ k := by omega
      clear hd HG hx e1
      go_wp2_with fail
      go_loopw [3, 6] (fun sv iv wr2 => ∃ (i t : Nat), i ≤ 8 ∧ iv = .int .i64 i ∧ sv = .int .i64 (t : Int) ∧ t < 65536 ∧ sbits (8 - i) t = sbits 8 x ∧ wr2 = wr) (fun _ i _ => 8 - (intOf i).toNat)
      case atStart => exact ⟨0, x, by omega, rfl, by first | rfl | rw [hxx], hx1, rfl, rfl⟩
      case round =>
        obtain ⟨i, t, hi, rfl, rfl, t1, hcb, hwr2⟩ := hrel
        subst hwr2
        have HCB : Hid (sbits (8 - i) t = sbits 8 x) := hcb
        clear hcb
        by_cases hlt8 : i < 8
        · have hi8 : (i : Int) < 8 := by omega
          have HNX : Hid (sbits (8 - (i + 1)) (sbit t) = sbits 8 x) := by
            have h1 := HCB.out
            rw [show 8 - i = (8 - (i + 1)) + 1 by omega] at h1
            exact h1
          obtain ⟨q, hq⟩ : ∃ q, t / 32768 = q := ⟨_, rfl⟩
          obtain ⟨rm, hrm⟩ : ∃ q, t * 2 % 65536 = q := ⟨_, rfl⟩
          have hrm1 : rm < 65536 := by rw [← hrm]; exact Nat.mod_lt _ (by decide)
          have hq2 : q < 2 := by omega
          have ht2 : (t : Int).tdiv 32768 = (q : Int) := by rw [Int.tdiv_eq_ediv_of_nonneg (by omega)]; omega
          have ht3 : ((t : Int) * 2).tmod 65536 = (rm : Int) := by rw [Int.tmod_eq_emod_of_nonneg (by omega)]; omega
          have HSR : Hid (sbit t = if q = 1 then rm ^^^ 4129 else rm) := by show _ = _; rw [sbit_ref t t1, hq, hrm]
          clear hq hrm
          by_cases hh : q = 1
          · subst hh
            have HSB : Hid (((sbit t : Nat) : Int) = bits .xor .i64 (rm : Int) 4129) := by
              have e3 : (4129 : Int) = ((4129 : Nat) : Int) := rfl
              show _ = _
              rw [HSR.out, if_pos rfl, e3, bits_xor64 _ _ hrm1 (by decide)]
            go_wp2_with fail
            exact ⟨⟨i + 1, sbit t, by omega, by simp, by first | rw [HSB.out] | (rw [HSB.out]; simp), sbit_lt t1, HNX.out, by first | trivial | rfl⟩, by simp [intOf]; omega⟩
          · obtain rfl : q = 0 := by omega
            have HSB : Hid (((sbit t : Nat) : Int) = (rm : Int)) := by
              show _ = _
              rw [HSR.out, if_neg hh]
            go_wp2_with fail
            exact ⟨⟨i + 1, sbit t, by omega, by simp, by first | rw [HSB.out] | (rw [HSB.out]; simp), sbit_lt t1, HNX.out, by first | trivial | rfl⟩, by simp [intOf]; omega⟩
        · obtain rfl : i = 8 := by omega
          have HE : Hid (t = sbits 8 x) := HCB.out
          have HG3 : Hid (ssum t (bs.drop (k + 1)) = r) := by rw [HE.out]; exact HG2.out
          clear HCB HE HG2
          go_wp2_with fail
          exact ⟨⟨k + 1, t, by omega, by simp, rfl, t1, HG3.out, by first | trivial | rfl⟩, by simp [intOf]; omega⟩
    · obtain rfl : L = k := by omega
      have HE : Hid (s = r) := by
        have h1 := HG.out
        rw [List.drop_of_length_le (by rw [HLX.out]; omega)] at h1
        exact h1
      clear HG
      go_wp2_with fail
      go_ret
      exact ⟨ret_i64 (by rw [HE.out]), rfl⟩
end Go.Proofs.Ytghlgkpfcpcopaa.Pv
