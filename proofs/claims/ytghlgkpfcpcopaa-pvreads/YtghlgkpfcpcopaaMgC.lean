/- The document's attributes. The document's frame; what its Encode answers, in plain words. -/
import Derived.Test.YtghlgkpfcpcopaaMgB
import Derived.Deep.CutRange
import Derived.Test.YtghlgkpfcpcopaaPvP
import Derived.Test.YtghlgkpfcpcopaaMgA
namespace Go.Proofs.Ytghlgkpfcpcopaa.Pv
open Go.ChangeShapes Go.WideShapes Go.ChangeAt Go.RowKit Go.Joins Go.Proofs.Ytghlgkpfcpcopaa.PM Go.Proofs.Ytghlgkpfcpcopaa.Ask Go.Proofs.Ytghlgkpfcpcopaa.Ge
set_option linter.unusedVariables false

theorem attr_len (k : Nat) (xs : List Nat) : (attr k xs).length = 3 + xs.length := by
  unfold attr piece
  rw [List.length_append, List.length_append, big_len, big_len]
  omega
theorem words1 (size : Nat) (X : Nat) : wordsB size [(X : Int)] = big size X := by simp [wordsB]
theorem own_slice {N : Nat} {w : World} {v : Value} {xs : List Nat} (h : OwnL E8 N w v xs) : ∃ a n c, v = .slice a n c ∧ OwnL E8 N w (.slice a n c) xs ∧ xs.length = n := by
  obtain ⟨a, c, e, -⟩ := h.form
  exact ⟨a, _, c, e, by rw [← e]; exact h, rfl⟩
theorem eqN (X k : Nat) (B C : List Nat) (h : (if X = 0 then B else B ++ attr k (big 4 X)) = C) : B ++ attrIf k 4 ((X : Int) != 0) [(X : Int)] = C := by
  rw [← h]
  unfold attrIf
  by_cases hX : X = 0
  · subst hX; simp
  · have : ((X : Int) != 0) = true := by simp; omega
    rw [this, if_pos rfl, if_neg hX, words1]
theorem eqL (q k : Nat) (xs : List Int) (B C : List Nat) (h : (if q = 0 then B else B ++ attr k (wordsB 4 xs)) = C) : B ++ attrIf k 4 (decide (0 < q)) xs = C := by
  rw [← h]
  unfold attrIf
  by_cases hX : q = 0
  · subst hX; simp
  · rw [decide_eq_true (by omega), if_pos rfl, if_neg hX]
set_option maxRecDepth 100000 in
set_option maxHeartbeats 16000000 in
theorem docattrs_any (m : Ms) (s : Sl) (w : World) (hok : MOk w m s) (hr : RR m.rt) (hv : m.hv.length = 0 → attrs m = []) :
    Calls Try.prog 52 #[msV m s] w fun e w' => ∃ v, e = .returned v ∧ OwnL E8 w.heap.size w' v (attrs m) ∧ Below w.heap.size w w' := by
  have HOK : Hid (MOk w m s) := hok
  have HRR : Hid (RR m.rt) := hr
  obtain ⟨n1, hn1⟩ : ∃ n, m.lost.length = n := ⟨_, rfl⟩
  have HN1 : Hid (m.lost.length = n1) := hn1
  obtain ⟨n2, hn2⟩ : ∃ n, m.hv.length = n := ⟨_, rfl⟩
  have HN2 : Hid (m.hv.length = n2) := hn2
  obtain ⟨q1, hq1⟩ : ∃ n, m.rt.path.length = n := ⟨_, rfl⟩
  have HQ1 : Hid (m.rt.path.length = q1) := hq1
  obtain ⟨q2, hq2⟩ : ∃ n, m.rt.marks.length = n := ⟨_, rfl⟩
  have HQ2 : Hid (m.rt.marks.length = q2) := hq2
  obtain ⟨q3, hq3⟩ : ∃ n, m.rt.clus.length = n := ⟨_, rfl⟩
  have HQ3 : Hid (m.rt.clus.length = q3) := hq3
  have HV : Hid (msV m s = .agg #[.int .i64 m.kind, .int .i64 m.dom, .int .i64 m.id, .int .i64 m.hold, .int .i64 m.code, .slice s.l n1 s.lc, .slice s.h n2 s.hc, .int .u32 m.rt.pa, .int .i64 m.rt.pn, .slice s.p q1 s.pc, .int .i64 m.rt.org, .int .i64 m.rt.pref, .int .i64 m.rt.med, .int .u32 m.rt.next, .slice s.m q2 s.mc, .slice s.c q3 s.cc, .int .i64 m.rt.auth]) := by unfold msV; rw [hn1, hn2, hq1, hq2, hq3]; rfl
  rw [hn2] at hv
  have HV0 : Hid (n2 = 0 → attrs m = []) := hv
  obtain ⟨ORG, hORG, hORG1⟩ : ∃ X : Nat, m.rt.org = X ∧ X ≤ 2 := ⟨m.rt.org.toNat, by have := hr.org; omega, by have := hr.org; omega⟩
  obtain ⟨MED, hMED, hMED1⟩ : ∃ X : Nat, m.rt.med = X ∧ X < 9223372036854775808 := ⟨m.rt.med.toNat, by have := hr.med; omega, by have := hr.med; omega⟩
  obtain ⟨PREF, hPREF, hPREF1⟩ : ∃ X : Nat, m.rt.pref = X ∧ X < 9223372036854775808 := ⟨m.rt.pref.toNat, by have := hr.pref; omega, by have := hr.pref; omega⟩
  obtain ⟨AUTH, hAUTH, hAUTH1⟩ : ∃ X : Nat, m.rt.auth = X ∧ X < 9223372036854775808 := ⟨m.rt.auth.toNat, by have := hr.auth; omega, by have := hr.auth; omega⟩
  obtain ⟨NEXT, hNEXT, hNEXT1⟩ : ∃ X : Nat, m.rt.next = X ∧ X < 4294967296 := ⟨m.rt.next.toNat, by have := hok.r.n0; omega, by have := hok.r.n1; have := hok.r.n0; omega⟩
  obtain ⟨B1, hB1⟩ : ∃ B, attr 1 [ORG] = B := ⟨_, rfl⟩
  obtain ⟨B2, hB2⟩ : ∃ B, B1 ++ attr 2 (wordsB 4 m.rt.path) = B := ⟨_, rfl⟩
  obtain ⟨B3, hB3⟩ : ∃ B, B2 ++ attr 3 (big 4 NEXT) = B := ⟨_, rfl⟩
  obtain ⟨B4, hB4⟩ : ∃ B, (if MED = 0 then B3 else B3 ++ attr 4 (big 4 MED)) = B := ⟨_, rfl⟩
  obtain ⟨B5, hB5⟩ : ∃ B, (if PREF = 0 then B4 else B4 ++ attr 5 (big 4 PREF)) = B := ⟨_, rfl⟩
  obtain ⟨B6, hB6⟩ : ∃ B, (if q2 = 0 then B5 else B5 ++ attr 6 (wordsB 4 m.rt.marks)) = B := ⟨_, rfl⟩
  obtain ⟨B7, hB7⟩ : ∃ B, (if AUTH = 0 then B6 else B6 ++ attr 7 (big 4 AUTH)) = B := ⟨_, rfl⟩
  obtain ⟨B8, hB8⟩ : ∃ B, (if q3 = 0 then B7 else B7 ++ attr 8 (wordsB 4 m.rt.clus)) = B := ⟨_, rfl⟩
  have hq1l := hr.lp
  have hq2l := hr.lm
  have hq3l := hr.lcl
  rw [hq1] at hq1l
  rw [hq2] at hq2l
  rw [hq3] at hq3l
  have hl1 : B1.length = 4 := by rw [← hB1, attr_len]; rfl
  have hl2 : B2.length ≤ 300 := by rw [← hB2, List.length_append, attr_len, wordsB_len, hq1]; omega
  have hl3 : B3.length ≤ 400 := by rw [← hB3, List.length_append, attr_len, big_len]; omega
  have hl4 : B4.length ≤ 500 := by
    rw [← hB4]
    split
    · omega
    · rw [List.length_append, attr_len, big_len]; omega
  have hl5 : B5.length ≤ 600 := by
    rw [← hB5]
    split
    · omega
    · rw [List.length_append, attr_len, big_len]; omega
  have hl6 : B6.length ≤ 900 := by
    rw [← hB6]
    split
    · omega
    · rw [List.length_append, attr_len, wordsB_len, hq2]; omega
  have hl7 : B7.length ≤ 1000 := by
    rw [← hB7]
    split
    · omega
    · rw [List.length_append, attr_len, big_len]; omega
  have HALL : Hid (0 < n2 → attrs m = B8) := fun h0 => by
    unfold attrs
    rw [hn2, hq2, hq3, hORG, hMED, hPREF, hAUTH, hNEXT]
    have e1 : attrIf 1 1 (decide (0 < n2)) [(ORG : Int)] = B1 := by unfold attrIf; rw [decide_eq_true h0, if_pos rfl, words1, ← hB1, big1 (by omega)]
    have e2 : B1 ++ attrIf 2 4 (decide (0 < n2)) m.rt.path = B2 := by unfold attrIf; rw [decide_eq_true h0, if_pos rfl, hB2]
    have e3 : B2 ++ attrIf 3 4 (decide (0 < n2)) [(NEXT : Int)] = B3 := by unfold attrIf; rw [decide_eq_true h0, if_pos rfl, words1, hB3]
    rw [e1, e2, e3, eqN MED 4 B3 B4 hB4, eqN PREF 5 B4 B5 hB5, eqL q2 6 m.rt.marks B5 B6 hB6, eqN AUTH 7 B6 B7 hB7, eqL q3 8 m.rt.clus B7 B8 hB8]
  have HB1 : Hid (attr 1 [ORG] = B1) := hB1
  have HB2 : Hid (B1 ++ attr 2 (wordsB 4 m.rt.path) = B2) := hB2
  have HB3 : Hid (B2 ++ attr 3 (big 4 NEXT) = B3) := hB3
  have HB4 : Hid ((MED = 0 → B3 = B4) ∧ (¬ MED = 0 → B3 ++ attr 4 (big 4 MED) = B4)) := ⟨fun h => by rw [if_pos h] at hB4; exact hB4, fun h => by rw [if_neg h] at hB4; exact hB4⟩
  have HB5 : Hid ((PREF = 0 → B4 = B5) ∧ (¬ PREF = 0 → B4 ++ attr 5 (big 4 PREF) = B5)) := ⟨fun h => by rw [if_pos h] at hB5; exact hB5, fun h => by rw [if_neg h] at hB5; exact hB5⟩
  have HB6 : Hid ((q2 = 0 → B5 = B6) ∧ (¬ q2 = 0 → B5 ++ attr 6 (wordsB 4 m.rt.marks) = B6)) := ⟨fun h => by rw [if_pos h] at hB6; exact hB6, fun h => by rw [if_neg h] at hB6; exact hB6⟩
  have HB7 : Hid ((AUTH = 0 → B6 = B7) ∧ (¬ AUTH = 0 → B6 ++ attr 7 (big 4 AUTH) = B7)) := ⟨fun h => by rw [if_pos h] at hB7; exact hB7, fun h => by rw [if_neg h] at hB7; exact hB7⟩
  have HB8 : Hid ((q3 = 0 → B7 = B8) ∧ (¬ q3 = 0 → B7 ++ attr 8 (wordsB 4 m.rt.clus) = B8)) := ⟨fun h => by rw [if_pos h] at hB8; exact hB8, fun h => by rw [if_neg h] at hB8; exact hB8⟩
  have HCE : Hid (m.rt.org = ORG ∧ m.rt.med = MED ∧ m.rt.pref = PREF ∧ m.rt.auth = AUTH ∧ m.rt.next = NEXT) := ⟨hORG, hMED, hPREF, hAUTH, hNEXT⟩
  have hou : IntKind.u8.wrap (ORG : Int) = (ORG : Int) := by rw [IntKind.wrap_u8]; omega
  rw [HV.out]
  clear hn1 hn2 hq1 hq2 hq3 hv hB1 hB2 hB3 hB4 hB5 hB6 hB7 hB8 hORG hMED hPREF hAUTH hNEXT hok hr
  go_enter Try.func52, Try.ntmps52
  by_cases h2 : n2 = 0
  · subst h2
    have HE : Hid (∀ W, Below w.heap.size w W → ∃ v, Ending.returned (.slice none 0 0) = .returned v ∧ OwnL E8 w.heap.size W v (attrs m) ∧ Below w.heap.size w W) := fun W h => ⟨_, rfl, by rw [HV0.out rfl]; exact OwnL.nil _ _ _, h⟩
    go_wp2_with fail
    go_ret
    exact HE.out _ ((Below.refl _ w).alloc (Nat.le_refl _) _)
  · have h2b : ((n2 : Int) == 0) = false := by simp; omega
    have HALL2 : Hid (attrs m = B8) := HALL.out (by omega)
    go_upto_region 4 with fail
    obtain ⟨wA, hwA⟩ : ∃ w0, w.alloc (Obj.cells #[.int .i64 m.kind, .int .i64 m.dom, .int .i64 m.id, .int .i64 m.hold, .int .i64 m.code, .slice s.l n1 s.lc, .slice s.h n2 s.hc, .int .u32 m.rt.pa, .int .i64 m.rt.pn, .slice s.p q1 s.pc, .int .i64 m.rt.org, .int .i64 m.rt.pref, .int .i64 m.rt.med, .int .u32 m.rt.next, .slice s.m q2 s.mc, .slice s.c q3 s.cc, .int .i64 m.rt.auth] 31) = w0 := ⟨_, rfl⟩
    obtain ⟨hbx, hbA, hsA⟩ := mbox_new (m := m) (s := s) (w := w) (W := wA) (by rw [HN1.out, HN2.out, HQ1.out, HQ2.out, HQ3.out]; exact hwA)
    rw [hwA]
    obtain ⟨w1, hw1⟩ : ∃ w0, wA.alloc (Obj.cells #[.int .u32 m.rt.pa, .int .i64 m.rt.pn, .slice s.p q1 s.pc, .int .i64 m.rt.org, .int .i64 m.rt.pref, .int .i64 m.rt.med, .int .u32 m.rt.next, .slice s.m q2 s.mc, .slice s.c q3 s.cc, .int .i64 m.rt.auth] 29) = w0 := ⟨_, rfl⟩
    obtain ⟨hrx, hb1, hs1⟩ := rbox_new (r := m.rt) (s := s) (w := wA) (W := w1) (by rw [HQ1.out, HQ2.out, HQ3.out]; exact hw1)
    rw [hw1]
    obtain ⟨b, hb⟩ : ∃ b, w.heap.size = b := ⟨_, rfl⟩
    rw [hsA] at hrx
    rw [hb] at hrx ⊢
    have HBZ : Hid (w.heap.size = b) := hb
    have HBW : Hid (Below w.heap.size w w1) := hbA.trans (hb1.mono hbA.size)
    have HRX : Hid (RBox (b + 1) m.rt s w1) := hrx
    have hN1 : b + 2 ≤ w1.heap.size := by omega
    have HRC : Hid (∀ W, Below (b + 2) w1 W → W.cell? ⟨b + 1, 3, none⟩ = some (.int .i64 (ORG : Int)) ∧ W.cell? ⟨b + 1, 5, none⟩ = some (.int .i64 (MED : Int)) ∧ W.cell? ⟨b + 1, 4, none⟩ = some (.int .i64 (PREF : Int)) ∧ W.cell? ⟨b + 1, 9, none⟩ = some (.int .i64 (AUTH : Int)) ∧ W.cell? ⟨b + 1, 6, none⟩ = some (.int .u32 (NEXT : Int)) ∧ W.cell? ⟨b + 1, 2, none⟩ = some (.slice s.p q1 s.pc) ∧ W.cell? ⟨b + 1, 7, none⟩ = some (.slice s.m q2 s.mc) ∧ W.cell? ⟨b + 1, 8, none⟩ = some (.slice s.c q3 s.cc)) := fun W h => by
      have h5 := HRX.out.blk (h.block (b + 1) (by omega))
      obtain ⟨e1, e2, e3, e4, e5⟩ := HCE.out
      refine ⟨?_, ?_, ?_, ?_, ?_, ?_, ?_, ?_⟩
      · rw [← e1]; exact h5.c3
      · rw [← e2]; exact h5.c5
      · rw [← e3]; exact h5.c4
      · rw [← e4]; exact h5.c9
      · rw [← e5]; exact h5.c6
      · rw [← HQ1.out]; exact h5.c2
      · rw [← HQ2.out]; exact h5.c7
      · rw [← HQ3.out]; exact h5.c8
    have HWW : Hid (∀ W, Below (b + 2) w1 W → Below w.heap.size w W) := fun W h => HBW.out.trans (h.mono (by rw [HBZ.out]; omega))
    have HLP : Hid (∀ W, Below (b + 2) w1 W → Lst EI W s.p m.rt.path ∧ Lst EI W s.m m.rt.marks ∧ Lst EI W s.c m.rt.clus) := fun W h => ⟨HOK.out.r.p.bel (HWW.out W h), HOK.out.r.m.bel (HWW.out W h), HOK.out.r.c.bel (HWW.out W h)⟩
    have HXP : Hid (∀ x ∈ m.rt.path, 0 ≤ x ∧ x < 9223372036854775808) := fun x hx => by have := HRR.out.path x hx; omega
    have HXM : Hid (∀ x ∈ m.rt.marks, 0 ≤ x ∧ x < 9223372036854775808) := fun x hx => by have := HRR.out.marks x hx; omega
    have HXC : Hid (∀ x ∈ m.rt.clus, 0 ≤ x ∧ x < 9223372036854775808) := fun x hx => by have := HRR.out.clus x hx; omega
    have HWL : Hid ((wordsB 4 m.rt.path).length ≤ 256 ∧ (wordsB 4 m.rt.marks).length ≤ 128 ∧ (wordsB 4 m.rt.clus).length ≤ 128) := by
      refine ⟨?_, ?_, ?_⟩ <;> rw [wordsB_len]
      · rw [HQ1.out]; omega
      · rw [HQ2.out]; omega
      · rw [HQ3.out]; omega
    clear hwA hw1 hbx hbA hsA hb1 hs1 hrx hb h2
    obtain ⟨o0, o1, o2, o3, o4, o5, o6, o7⟩ := HRC.out w1 (Below.refl _ _)
    obtain ⟨y1, hy1⟩ : ∃ W, w1.alloc (Obj.cells #[.int .u8 (ORG : Int)] 5) = W := ⟨_, rfl⟩
    obtain ⟨k1, k2⟩ := own_made E8 (W := w1) (W' := y1) [ORG] 1 rfl (by decide) hy1
    have HP1 : Hid (Pc8 y1 (some ⟨w1.heap.size, 0, none⟩) 1 1 [ORG]) := OwnL.pc8 k1
    have HY1 : Hid (Below w1.heap.size w1 y1) := k2
    clear k1 k2
    go_wp2_with fail
    try rw [hy1]
    refine (rattr_any 1 (by decide) (some ⟨w1.heap.size, 0, none⟩) 1 1 [ORG] (by decide) y1 HP1.out).mono ?_
    rintro e z1 ⟨v1, rfl, ho1, hb1⟩
    have HE1 : Hid (Below (b + 2) w1 z1) := (HY1.out.mono hN1).trans (hb1.mono (Nat.le_trans hN1 HY1.out.size))
    have HO1 : Hid (OwnL E8 (b + 2) z1 v1 B1) := by rw [← HB1.out]; exact ho1.mono (Nat.le_trans hN1 HY1.out.size)
    clear hy1 ho1 hb1 HP1 HY1 o0 o1 o2 o3 o4 o5 o6 o7
    obtain ⟨o0, o1, o2, o3, o4, o5, o6, o7⟩ := HRC.out z1 HE1.out
    go_wp2_with fail
    refine (rwords_any s.p s.pc m.rt.path q1 HQ1.out (by omega) z1 (HLP.out z1 HE1.out).1 HXP.out).mono ?_
    rintro e p2 ⟨vp2, rfl, hop2, hbp2⟩
    obtain ⟨ap2, np2, cp2, rfl, hop22, hlp2⟩ := own_slice hop2
    have hnp2 : np2 ≤ 1000 := by rw [← hlp2]; first | (rw [big_len]; decide) | (have := HWL.out; omega)
    have HPP2 : Hid (Pc8 p2 ap2 np2 cp2 (wordsB 4 m.rt.path)) := OwnL.pc8 hop22
    have HEP2 : Hid (Below (b + 2) w1 p2) := (HE1.out).trans (hbp2.mono (Nat.le_trans hN1 (HE1.out).size))
    have HOP2 : Hid (OwnL E8 (b + 2) p2 v1 B1) := HO1.out.bel hbp2
    clear hop2 hop22 hbp2
    go_wp2_with fail
    refine (rattr_any 2 (by decide) ap2 np2 cp2 (wordsB 4 m.rt.path) (by omega) p2 HPP2.out).mono ?_
    rintro e r2 ⟨vr2, rfl, hor2, hbr2⟩
    obtain ⟨ar2, nr2, cr2, rfl, hor22, hlr2⟩ := own_slice hor2
    have hnr2 : nr2 ≤ 2000 := by rw [← hlr2, attr_len, hlp2]; omega
    have HPR2 : Hid (Pc8 r2 ar2 nr2 cr2 (attr 2 (wordsB 4 m.rt.path))) := OwnL.pc8 hor22
    have HER2 : Hid (Below (b + 2) w1 r2) := HEP2.out.trans (hbr2.mono (Nat.le_trans hN1 HEP2.out.size))
    have HOR2 : Hid (OwnL E8 (b + 2) r2 v1 B1) := HOP2.out.bel hbr2
    have hNR2 : b + 2 ≤ r2.heap.size := Nat.le_trans hN1 HER2.out.size
    have hby2 : B1.length + nr2 ≤ 1099511627775 := by omega
    clear hor2 hor22 hbr2 hlr2 hlp2 HPP2 HOP2
    go_wp2_with (at_builtin; refine list_appL E8 rfl _ _ 22 rfl rfl (b + 2) v1 B1 (attr 2 (wordsB 4 m.rt.path)) ar2 nr2 cr2 r2 hby2 rfl HOR2.out rfl HPR2.out.l HPR2.out.nil HPR2.out.len hNR2 ?_)
    intro v2 z2 ho2 hg2 hat2
    have HO2 : Hid (OwnL E8 (b + 2) z2 v2 B2) := by rw [← HB2.out]; exact ho2.out
    have HE2 : Hid (Below (b + 2) w1 z2) := HER2.out.grown hg2.out hNR2 (fun g e => (HOR2.out.row.lt g e).1)
    clear ho2 hg2 hat2 HOR2 HPR2 HER2 hby2 hNR2
    clear o0 o1 o2 o3 o4 o5 o6 o7
    obtain ⟨o0, o1, o2, o3, o4, o5, o6, o7⟩ := HRC.out z2 HE2.out
    go_wp2_with fail
    refine (rbytes_any NEXT 4 (by decide) (by omega) z2).mono ?_
    rintro e p3 ⟨vp3, rfl, hop3, hbp3⟩
    obtain ⟨ap3, np3, cp3, rfl, hop23, hlp3⟩ := own_slice hop3
    have hnp3 : np3 ≤ 1000 := by rw [← hlp3]; first | (rw [big_len]; decide) | (have := HWL.out; omega)
    have HPP3 : Hid (Pc8 p3 ap3 np3 cp3 (big 4 NEXT)) := OwnL.pc8 hop23
    have HEP3 : Hid (Below (b + 2) w1 p3) := (HE2.out).trans (hbp3.mono (Nat.le_trans hN1 (HE2.out).size))
    have HOP3 : Hid (OwnL E8 (b + 2) p3 v2 B2) := HO2.out.bel hbp3
    clear hop3 hop23 hbp3
    go_wp2_with fail
    refine (rattr_any 3 (by decide) ap3 np3 cp3 (big 4 NEXT) (by omega) p3 HPP3.out).mono ?_
    rintro e r3 ⟨vr3, rfl, hor3, hbr3⟩
    obtain ⟨ar3, nr3, cr3, rfl, hor23, hlr3⟩ := own_slice hor3
    have hnr3 : nr3 ≤ 2000 := by rw [← hlr3, attr_len, hlp3]; omega
    have HPR3 : Hid (Pc8 r3 ar3 nr3 cr3 (attr 3 (big 4 NEXT))) := OwnL.pc8 hor23
    have HER3 : Hid (Below (b + 2) w1 r3) := HEP3.out.trans (hbr3.mono (Nat.le_trans hN1 HEP3.out.size))
    have HOR3 : Hid (OwnL E8 (b + 2) r3 v2 B2) := HOP3.out.bel hbr3
    have hNR3 : b + 2 ≤ r3.heap.size := Nat.le_trans hN1 HER3.out.size
    have hby3 : B2.length + nr3 ≤ 1099511627775 := by omega
    clear hor3 hor23 hbr3 hlr3 hlp3 HPP3 HOP3
    go_wp2_with (at_builtin; refine list_appL E8 rfl _ _ 22 rfl rfl (b + 2) v2 B2 (attr 3 (big 4 NEXT)) ar3 nr3 cr3 r3 hby3 rfl HOR3.out rfl HPR3.out.l HPR3.out.nil HPR3.out.len hNR3 ?_)
    intro v3 z3 ho3 hg3 hat3
    have HO3 : Hid (OwnL E8 (b + 2) z3 v3 B3) := by rw [← HB3.out]; exact ho3.out
    have HE3 : Hid (Below (b + 2) w1 z3) := HER3.out.grown hg3.out hNR3 (fun g e => (HOR3.out.row.lt g e).1)
    clear ho3 hg3 hat3 HOR3 HPR3 HER3 hby3 hNR3
    clear o0 o1 o2 o3 o4 o5 o6 o7
    obtain ⟨o0, o1, o2, o3, o4, o5, o6, o7⟩ := HRC.out z3 HE3.out
    obtain ⟨a3, n3, c3, hv3, hs3, -⟩ := own_slice HO3.out
    subst hv3
    clear hs3 HO1 HO2 HE1 HE2
    go_upto_if 31 with fail
    go_cut [4] from 5 to 76 (fun bv wx => ∃ a n c, bv = .slice a n c ∧ OwnL E8 (b + 2) wx (.slice a n c) B4 ∧ Below (b + 2) w1 wx)
    case first =>
      by_cases hc : MED = 0
      · have HZ : Hid (OwnL E8 (b + 2) z3 (.slice a3 n3 c3) B4) := by rw [← HB4.out.1 hc]; exact HO3.out
        subst hc
        go_wp2_with fail
        go_meet
        exact ⟨_, _, _, rfl, HZ.out, HE3.out⟩
      · have hcb : ((MED : Int) != 0) = true := by simp; omega
        have HBY : Hid (B3 ++ attr 4 (big 4 MED) = B4) := HB4.out.2 hc
        clear hc
        go_wp2_with fail
        refine (rbytes_any MED 4 (by decide) (by omega) z3).mono ?_
        rintro e p4 ⟨vp4, rfl, hop4, hbp4⟩
        obtain ⟨ap4, np4, cp4, rfl, hop24, hlp4⟩ := own_slice hop4
        have hnp4 : np4 ≤ 1000 := by rw [← hlp4]; first | (rw [big_len]; decide) | (have := HWL.out; omega)
        have HPP4 : Hid (Pc8 p4 ap4 np4 cp4 (big 4 MED)) := OwnL.pc8 hop24
        have HEP4 : Hid (Below (b + 2) w1 p4) := (HE3.out).trans (hbp4.mono (Nat.le_trans hN1 (HE3.out).size))
        have HOP4 : Hid (OwnL E8 (b + 2) p4 (.slice a3 n3 c3) B3) := HO3.out.bel hbp4
        clear hop4 hop24 hbp4
        go_wp2_with fail
        refine (rattr_any 4 (by decide) ap4 np4 cp4 (big 4 MED) (by omega) p4 HPP4.out).mono ?_
        rintro e r4 ⟨vr4, rfl, hor4, hbr4⟩
        obtain ⟨ar4, nr4, cr4, rfl, hor24, hlr4⟩ := own_slice hor4
        have hnr4 : nr4 ≤ 2000 := by rw [← hlr4, attr_len, hlp4]; omega
        have HPR4 : Hid (Pc8 r4 ar4 nr4 cr4 (attr 4 (big 4 MED))) := OwnL.pc8 hor24
        have HER4 : Hid (Below (b + 2) w1 r4) := HEP4.out.trans (hbr4.mono (Nat.le_trans hN1 HEP4.out.size))
        have HOR4 : Hid (OwnL E8 (b + 2) r4 (.slice a3 n3 c3) B3) := HOP4.out.bel hbr4
        have hNR4 : b + 2 ≤ r4.heap.size := Nat.le_trans hN1 HER4.out.size
        have hby4 : B3.length + nr4 ≤ 1099511627775 := by omega
        clear hor4 hor24 hbr4 hlr4 hlp4 HPP4 HOP4
        go_wp2_with (at_builtin; refine list_appL E8 rfl _ _ 22 rfl rfl (b + 2) (.slice a3 n3 c3) B3 (attr 4 (big 4 MED)) ar4 nr4 cr4 r4 hby4 rfl HOR4.out rfl HPR4.out.l HPR4.out.nil HPR4.out.len hNR4 ?_)
        intro v4 z4 ho4 hg4 hat4
        have HO4 : Hid (OwnL E8 (b + 2) z4 v4 B4) := by rw [← HBY.out]; exact ho4.out
        have HE4 : Hid (Below (b + 2) w1 z4) := HER4.out.grown hg4.out hNR4 (fun g e => (HOR4.out.row.lt g e).1)
        clear ho4 hg4 hat4 HOR4 HPR4 HER4 hby4 hNR4
        obtain ⟨af, nf, cf, hvf, hsf, -⟩ := own_slice HO4.out
        subst hvf
        clear hsf
        go_wp2_with fail
        go_meet
        exact ⟨_, _, _, rfl, HO4.out, HE4.out⟩
    case rest =>
      obtain ⟨a4, n4, c4, rfl, ho4, he4⟩ := hcut
      have HO4 : Hid (OwnL E8 (b + 2) wc (.slice a4 n4 c4) B4) := ho4
      have HE4 : Hid (Below (b + 2) w1 wc) := he4
      obtain ⟨z4, hz4⟩ : ∃ z, wc = z := ⟨_, rfl⟩
      rw [hz4] at HO4 HE4 ⊢
      clear ho4 he4 hz4 o0 o1 o2 o3 o4 o5 o6 o7
      obtain ⟨o0, o1, o2, o3, o4, o5, o6, o7⟩ := HRC.out z4 HE4.out
      go_upto_if 40 with fail
      go_cut [4] from 5 to 76 (fun bv wx => ∃ a n c, bv = .slice a n c ∧ OwnL E8 (b + 2) wx (.slice a n c) B5 ∧ Below (b + 2) w1 wx)
      case first =>
        by_cases hc : PREF = 0
        · have HZ : Hid (OwnL E8 (b + 2) z4 (.slice a4 n4 c4) B5) := by rw [← HB5.out.1 hc]; exact HO4.out
          subst hc
          go_wp2_with fail
          go_meet
          exact ⟨_, _, _, rfl, HZ.out, HE4.out⟩
        · have hcb : ((PREF : Int) != 0) = true := by simp; omega
          have HBY : Hid (B4 ++ attr 5 (big 4 PREF) = B5) := HB5.out.2 hc
          clear hc
          go_wp2_with fail
          refine (rbytes_any PREF 4 (by decide) (by omega) z4).mono ?_
          rintro e p5 ⟨vp5, rfl, hop5, hbp5⟩
          obtain ⟨ap5, np5, cp5, rfl, hop25, hlp5⟩ := own_slice hop5
          have hnp5 : np5 ≤ 1000 := by rw [← hlp5]; first | (rw [big_len]; decide) | (have := HWL.out; omega)
          have HPP5 : Hid (Pc8 p5 ap5 np5 cp5 (big 4 PREF)) := OwnL.pc8 hop25
          have HEP5 : Hid (Below (b + 2) w1 p5) := (HE4.out).trans (hbp5.mono (Nat.le_trans hN1 (HE4.out).size))
          have HOP5 : Hid (OwnL E8 (b + 2) p5 (.slice a4 n4 c4) B4) := HO4.out.bel hbp5
          clear hop5 hop25 hbp5
          go_wp2_with fail
          refine (rattr_any 5 (by decide) ap5 np5 cp5 (big 4 PREF) (by omega) p5 HPP5.out).mono ?_
          rintro e r5 ⟨vr5, rfl, hor5, hbr5⟩
          obtain ⟨ar5, nr5, cr5, rfl, hor25, hlr5⟩ := own_slice hor5
          have hnr5 : nr5 ≤ 2000 := by rw [← hlr5, attr_len, hlp5]; omega
          have HPR5 : Hid (Pc8 r5 ar5 nr5 cr5 (attr 5 (big 4 PREF))) := OwnL.pc8 hor25
          have HER5 : Hid (Below (b + 2) w1 r5) := HEP5.out.trans (hbr5.mono (Nat.le_trans hN1 HEP5.out.size))
          have HOR5 : Hid (OwnL E8 (b + 2) r5 (.slice a4 n4 c4) B4) := HOP5.out.bel hbr5
          have hNR5 : b + 2 ≤ r5.heap.size := Nat.le_trans hN1 HER5.out.size
          have hby5 : B4.length + nr5 ≤ 1099511627775 := by omega
          clear hor5 hor25 hbr5 hlr5 hlp5 HPP5 HOP5
          go_wp2_with (at_builtin; refine list_appL E8 rfl _ _ 22 rfl rfl (b + 2) (.slice a4 n4 c4) B4 (attr 5 (big 4 PREF)) ar5 nr5 cr5 r5 hby5 rfl HOR5.out rfl HPR5.out.l HPR5.out.nil HPR5.out.len hNR5 ?_)
          intro v5 z5 ho5 hg5 hat5
          have HO5 : Hid (OwnL E8 (b + 2) z5 v5 B5) := by rw [← HBY.out]; exact ho5.out
          have HE5 : Hid (Below (b + 2) w1 z5) := HER5.out.grown hg5.out hNR5 (fun g e => (HOR5.out.row.lt g e).1)
          clear ho5 hg5 hat5 HOR5 HPR5 HER5 hby5 hNR5
          obtain ⟨af, nf, cf, hvf, hsf, -⟩ := own_slice HO5.out
          subst hvf
          clear hsf
          go_wp2_with fail
          go_meet
          exact ⟨_, _, _, rfl, HO5.out, HE5.out⟩
      case rest =>
        obtain ⟨a5, n5, c5, rfl, ho5, he5⟩ := hcut
        have HO5 : Hid (OwnL E8 (b + 2) wc (.slice a5 n5 c5) B5) := ho5
        have HE5 : Hid (Below (b + 2) w1 wc) := he5
        obtain ⟨z5, hz5⟩ : ∃ z, wc = z := ⟨_, rfl⟩
        rw [hz5] at HO5 HE5 ⊢
        clear ho5 he5 hz5 o0 o1 o2 o3 o4 o5 o6 o7
        obtain ⟨o0, o1, o2, o3, o4, o5, o6, o7⟩ := HRC.out z5 HE5.out
        go_upto_if 50 with fail
        go_cut [4] from 5 to 76 (fun bv wx => ∃ a n c, bv = .slice a n c ∧ OwnL E8 (b + 2) wx (.slice a n c) B6 ∧ Below (b + 2) w1 wx)
        case first =>
          by_cases hc : q2 = 0
          · have HZ : Hid (OwnL E8 (b + 2) z5 (.slice a5 n5 c5) B6) := by rw [← HB6.out.1 hc]; exact HO5.out
            subst hc
            go_wp2_with fail
            go_meet
            exact ⟨_, _, _, rfl, HZ.out, HE5.out⟩
          · have hcb : (0 : Int) < (q2 : Int) := by omega
            have HBY : Hid (B5 ++ attr 6 (wordsB 4 m.rt.marks) = B6) := HB6.out.2 hc
            clear hc
            go_wp2_with fail
            refine (rwords_any s.m s.mc m.rt.marks q2 HQ2.out (by omega) z5 (HLP.out z5 HE5.out).2.1 HXM.out).mono ?_
            rintro e p6 ⟨vp6, rfl, hop6, hbp6⟩
            obtain ⟨ap6, np6, cp6, rfl, hop26, hlp6⟩ := own_slice hop6
            have hnp6 : np6 ≤ 1000 := by rw [← hlp6]; first | (rw [big_len]; decide) | (have := HWL.out; omega)
            have HPP6 : Hid (Pc8 p6 ap6 np6 cp6 (wordsB 4 m.rt.marks)) := OwnL.pc8 hop26
            have HEP6 : Hid (Below (b + 2) w1 p6) := (HE5.out).trans (hbp6.mono (Nat.le_trans hN1 (HE5.out).size))
            have HOP6 : Hid (OwnL E8 (b + 2) p6 (.slice a5 n5 c5) B5) := HO5.out.bel hbp6
            clear hop6 hop26 hbp6
            go_wp2_with fail
            refine (rattr_any 6 (by decide) ap6 np6 cp6 (wordsB 4 m.rt.marks) (by omega) p6 HPP6.out).mono ?_
            rintro e r6 ⟨vr6, rfl, hor6, hbr6⟩
            obtain ⟨ar6, nr6, cr6, rfl, hor26, hlr6⟩ := own_slice hor6
            have hnr6 : nr6 ≤ 2000 := by rw [← hlr6, attr_len, hlp6]; omega
            have HPR6 : Hid (Pc8 r6 ar6 nr6 cr6 (attr 6 (wordsB 4 m.rt.marks))) := OwnL.pc8 hor26
            have HER6 : Hid (Below (b + 2) w1 r6) := HEP6.out.trans (hbr6.mono (Nat.le_trans hN1 HEP6.out.size))
            have HOR6 : Hid (OwnL E8 (b + 2) r6 (.slice a5 n5 c5) B5) := HOP6.out.bel hbr6
            have hNR6 : b + 2 ≤ r6.heap.size := Nat.le_trans hN1 HER6.out.size
            have hby6 : B5.length + nr6 ≤ 1099511627775 := by omega
            clear hor6 hor26 hbr6 hlr6 hlp6 HPP6 HOP6
            go_wp2_with (at_builtin; refine list_appL E8 rfl _ _ 22 rfl rfl (b + 2) (.slice a5 n5 c5) B5 (attr 6 (wordsB 4 m.rt.marks)) ar6 nr6 cr6 r6 hby6 rfl HOR6.out rfl HPR6.out.l HPR6.out.nil HPR6.out.len hNR6 ?_)
            intro v6 z6 ho6 hg6 hat6
            have HO6 : Hid (OwnL E8 (b + 2) z6 v6 B6) := by rw [← HBY.out]; exact ho6.out
            have HE6 : Hid (Below (b + 2) w1 z6) := HER6.out.grown hg6.out hNR6 (fun g e => (HOR6.out.row.lt g e).1)
            clear ho6 hg6 hat6 HOR6 HPR6 HER6 hby6 hNR6
            obtain ⟨af, nf, cf, hvf, hsf, -⟩ := own_slice HO6.out
            subst hvf
            clear hsf
            go_wp2_with fail
            go_meet
            exact ⟨_, _, _, rfl, HO6.out, HE6.out⟩
        case rest =>
          obtain ⟨a6, n6, c6, rfl, ho6, he6⟩ := hcut
          have HO6 : Hid (OwnL E8 (b + 2) wc (.slice a6 n6 c6) B6) := ho6
          have HE6 : Hid (Below (b + 2) w1 wc) := he6
          obtain ⟨z6, hz6⟩ : ∃ z, wc = z := ⟨_, rfl⟩
          rw [hz6] at HO6 HE6 ⊢
          clear ho6 he6 hz6 o0 o1 o2 o3 o4 o5 o6 o7
          obtain ⟨o0, o1, o2, o3, o4, o5, o6, o7⟩ := HRC.out z6 HE6.out
          go_upto_if 59 with fail
          go_cut [4] from 5 to 76 (fun bv wx => ∃ a n c, bv = .slice a n c ∧ OwnL E8 (b + 2) wx (.slice a n c) B7 ∧ Below (b + 2) w1 wx)
          case first =>
            by_cases hc : AUTH = 0
            · have HZ : Hid (OwnL E8 (b + 2) z6 (.slice a6 n6 c6) B7) := by rw [← HB7.out.1 hc]; exact HO6.out
              subst hc
              go_wp2_with fail
              go_meet
              exact ⟨_, _, _, rfl, HZ.out, HE6.out⟩
            · have hcb : ((AUTH : Int) != 0) = true := by simp; omega
              have HBY : Hid (B6 ++ attr 7 (big 4 AUTH) = B7) := HB7.out.2 hc
              clear hc
              go_wp2_with fail
              refine (rbytes_any AUTH 4 (by decide) (by omega) z6).mono ?_
              rintro e p7 ⟨vp7, rfl, hop7, hbp7⟩
              obtain ⟨ap7, np7, cp7, rfl, hop27, hlp7⟩ := own_slice hop7
              have hnp7 : np7 ≤ 1000 := by rw [← hlp7]; first | (rw [big_len]; decide) | (have := HWL.out; omega)
              have HPP7 : Hid (Pc8 p7 ap7 np7 cp7 (big 4 AUTH)) := OwnL.pc8 hop27
              have HEP7 : Hid (Below (b + 2) w1 p7) := (HE6.out).trans (hbp7.mono (Nat.le_trans hN1 (HE6.out).size))
              have HOP7 : Hid (OwnL E8 (b + 2) p7 (.slice a6 n6 c6) B6) := HO6.out.bel hbp7
              clear hop7 hop27 hbp7
              go_wp2_with fail
              refine (rattr_any 7 (by decide) ap7 np7 cp7 (big 4 AUTH) (by omega) p7 HPP7.out).mono ?_
              rintro e r7 ⟨vr7, rfl, hor7, hbr7⟩
              obtain ⟨ar7, nr7, cr7, rfl, hor27, hlr7⟩ := own_slice hor7
              have hnr7 : nr7 ≤ 2000 := by rw [← hlr7, attr_len, hlp7]; omega
              have HPR7 : Hid (Pc8 r7 ar7 nr7 cr7 (attr 7 (big 4 AUTH))) := OwnL.pc8 hor27
              have HER7 : Hid (Below (b + 2) w1 r7) := HEP7.out.trans (hbr7.mono (Nat.le_trans hN1 HEP7.out.size))
              have HOR7 : Hid (OwnL E8 (b + 2) r7 (.slice a6 n6 c6) B6) := HOP7.out.bel hbr7
              have hNR7 : b + 2 ≤ r7.heap.size := Nat.le_trans hN1 HER7.out.size
              have hby7 : B6.length + nr7 ≤ 1099511627775 := by omega
              clear hor7 hor27 hbr7 hlr7 hlp7 HPP7 HOP7
              go_wp2_with (at_builtin; refine list_appL E8 rfl _ _ 22 rfl rfl (b + 2) (.slice a6 n6 c6) B6 (attr 7 (big 4 AUTH)) ar7 nr7 cr7 r7 hby7 rfl HOR7.out rfl HPR7.out.l HPR7.out.nil HPR7.out.len hNR7 ?_)
              intro v7 z7 ho7 hg7 hat7
              have HO7 : Hid (OwnL E8 (b + 2) z7 v7 B7) := by rw [← HBY.out]; exact ho7.out
              have HE7 : Hid (Below (b + 2) w1 z7) := HER7.out.grown hg7.out hNR7 (fun g e => (HOR7.out.row.lt g e).1)
              clear ho7 hg7 hat7 HOR7 HPR7 HER7 hby7 hNR7
              obtain ⟨af, nf, cf, hvf, hsf, -⟩ := own_slice HO7.out
              subst hvf
              clear hsf
              go_wp2_with fail
              go_meet
              exact ⟨_, _, _, rfl, HO7.out, HE7.out⟩
          case rest =>
            obtain ⟨a7, n7, c7, rfl, ho7, he7⟩ := hcut
            have HO7 : Hid (OwnL E8 (b + 2) wc (.slice a7 n7 c7) B7) := ho7
            have HE7 : Hid (Below (b + 2) w1 wc) := he7
            obtain ⟨z7, hz7⟩ : ∃ z, wc = z := ⟨_, rfl⟩
            rw [hz7] at HO7 HE7 ⊢
            clear ho7 he7 hz7 o0 o1 o2 o3 o4 o5 o6 o7
            obtain ⟨o0, o1, o2, o3, o4, o5, o6, o7⟩ := HRC.out z7 HE7.out
            go_upto_if 69 with fail
            go_cut [4] from 5 to 76 (fun bv wx => ∃ a n c, bv = .slice a n c ∧ OwnL E8 (b + 2) wx (.slice a n c) B8 ∧ Below (b + 2) w1 wx)
            case first =>
              by_cases hc : q3 = 0
              · have HZ : Hid (OwnL E8 (b + 2) z7 (.slice a7 n7 c7) B8) := by rw [← HB8.out.1 hc]; exact HO7.out
                subst hc
                go_wp2_with fail
                go_meet
                exact ⟨_, _, _, rfl, HZ.out, HE7.out⟩
              · have hcb : (0 : Int) < (q3 : Int) := by omega
                have HBY : Hid (B7 ++ attr 8 (wordsB 4 m.rt.clus) = B8) := HB8.out.2 hc
                clear hc
                go_wp2_with fail
                refine (rwords_any s.c s.cc m.rt.clus q3 HQ3.out (by omega) z7 (HLP.out z7 HE7.out).2.2 HXC.out).mono ?_
                rintro e p8 ⟨vp8, rfl, hop8, hbp8⟩
                obtain ⟨ap8, np8, cp8, rfl, hop28, hlp8⟩ := own_slice hop8
                have hnp8 : np8 ≤ 1000 := by rw [← hlp8]; first | (rw [big_len]; decide) | (have := HWL.out; omega)
                have HPP8 : Hid (Pc8 p8 ap8 np8 cp8 (wordsB 4 m.rt.clus)) := OwnL.pc8 hop28
                have HEP8 : Hid (Below (b + 2) w1 p8) := (HE7.out).trans (hbp8.mono (Nat.le_trans hN1 (HE7.out).size))
                have HOP8 : Hid (OwnL E8 (b + 2) p8 (.slice a7 n7 c7) B7) := HO7.out.bel hbp8
                clear hop8 hop28 hbp8
                go_wp2_with fail
                refine (rattr_any 8 (by decide) ap8 np8 cp8 (wordsB 4 m.rt.clus) (by omega) p8 HPP8.out).mono ?_
                rintro e r8 ⟨vr8, rfl, hor8, hbr8⟩
                obtain ⟨ar8, nr8, cr8, rfl, hor28, hlr8⟩ := own_slice hor8
                have hnr8 : nr8 ≤ 2000 := by rw [← hlr8, attr_len, hlp8]; omega
                have HPR8 : Hid (Pc8 r8 ar8 nr8 cr8 (attr 8 (wordsB 4 m.rt.clus))) := OwnL.pc8 hor28
                have HER8 : Hid (Below (b + 2) w1 r8) := HEP8.out.trans (hbr8.mono (Nat.le_trans hN1 HEP8.out.size))
                have HOR8 : Hid (OwnL E8 (b + 2) r8 (.slice a7 n7 c7) B7) := HOP8.out.bel hbr8
                have hNR8 : b + 2 ≤ r8.heap.size := Nat.le_trans hN1 HER8.out.size
                have hby8 : B7.length + nr8 ≤ 1099511627775 := by omega
                clear hor8 hor28 hbr8 hlr8 hlp8 HPP8 HOP8
                go_wp2_with (at_builtin; refine list_appL E8 rfl _ _ 22 rfl rfl (b + 2) (.slice a7 n7 c7) B7 (attr 8 (wordsB 4 m.rt.clus)) ar8 nr8 cr8 r8 hby8 rfl HOR8.out rfl HPR8.out.l HPR8.out.nil HPR8.out.len hNR8 ?_)
                intro v8 z8 ho8 hg8 hat8
                have HO8 : Hid (OwnL E8 (b + 2) z8 v8 B8) := by rw [← HBY.out]; exact ho8.out
                have HE8 : Hid (Below (b + 2) w1 z8) := HER8.out.grown hg8.out hNR8 (fun g e => (HOR8.out.row.lt g e).1)
                clear ho8 hg8 hat8 HOR8 HPR8 HER8 hby8 hNR8
                obtain ⟨af, nf, cf, hvf, hsf, -⟩ := own_slice HO8.out
                subst hvf
                clear hsf
                go_wp2_with fail
                go_meet
                exact ⟨_, _, _, rfl, HO8.out, HE8.out⟩
            case rest =>
              obtain ⟨a8, n8, c8, rfl, ho8, he8⟩ := hcut
              have HO8 : Hid (OwnL E8 (b + 2) wc (.slice a8 n8 c8) B8) := ho8
              have HE8 : Hid (Below (b + 2) w1 wc) := he8
              obtain ⟨z8, hz8⟩ : ∃ z, wc = z := ⟨_, rfl⟩
              rw [hz8] at HO8 HE8 ⊢
              clear ho8 he8 hz8 o0 o1 o2 o3 o4 o5 o6 o7
              obtain ⟨o0, o1, o2, o3, o4, o5, o6, o7⟩ := HRC.out z8 HE8.out
              have HF : Hid (OwnL E8 w.heap.size z8 (.slice a8 n8 c8) (attrs m)) := by rw [HALL2.out, HBZ.out]; exact HO8.out.mono (by omega)
              have HG : Hid (Below w.heap.size w z8) := HWW.out z8 HE8.out
              go_wp2_with fail
              go_ret
              exact ⟨_, rfl, HF.out, HG.out⟩
end Go.Proofs.Ytghlgkpfcpcopaa.Pv
namespace Go.Proofs.Ytghlgkpfcpcopaa.Pv
open Go.ChangeShapes Go.WideShapes Go.ChangeAt Go.RowKit Go.Joins Go.Proofs.Ytghlgkpfcpcopaa.PM Go.Proofs.Ytghlgkpfcpcopaa.Ask Go.Proofs.Ytghlgkpfcpcopaa.Ge
set_option linter.unusedVariables false

theorem bare_all {r : Rt} (h : bare r = true) : r = ⟨0, 0, [], 0, 0, 0, 0, [], [], 0⟩ := by
  unfold bare at h
  simp only [decide_eq_true_eq, List.length_eq_zero_iff] at h
  obtain ⟨pa, pn, path, org, pref, med, next, marks, clus, auth⟩ := r
  obtain ⟨rfl, rfl, rfl, rfl, rfl, rfl, rfl, rfl, rfl, rfl⟩ := h
  rfl
/-- of the form: where nothing is had, the route tells nothing -/
theorem form_bare {m : Ms} (h : form m = true) (h0 : m.hv.length = 0) : bare m.rt = true := by
  unfold form at h
  split at h
  · rw [Bool.and_eq_true] at h; exact h.2
  · split at h
    · rw [Bool.and_eq_true, if_neg (by omega)] at h; exact h.2
    · split at h <;> (rw [Bool.and_eq_true] at h; exact h.2)
theorem form_none {m : Ms} (h : form m = true) (hk : ¬ m.kind = 2) : m.lost.length = 0 ∧ m.hv.length = 0 := by
  unfold form at h
  rw [if_neg hk] at h
  split at h
  · simp only [Bool.and_eq_true, decide_eq_true_eq] at h; omega
  · split at h <;> (simp only [Bool.and_eq_true, decide_eq_true_eq] at h; omega)
theorem form_code {m : Ms} (h : form m = true) (hk : ¬ m.kind = 4) : m.code = 0 := by
  unfold form at h
  split at h
  · simp only [Bool.and_eq_true, decide_eq_true_eq] at h; omega
  · split at h
    · simp only [Bool.and_eq_true, decide_eq_true_eq] at h; omega
    · simp only [Bool.and_eq_true, decide_eq_true_eq] at h; omega
theorem attrs_nil {m : Ms} (h : form m = true) (h0 : m.hv.length = 0) : attrs m = [] := by
  have hb := bare_all (form_bare h h0)
  unfold attrs attrIf
  rw [h0, hb]
  rfl
theorem range_eq {m : Ms} (hk : 1 ≤ m.kind ∧ m.kind ≤ 4) (h : form m = true) : rrange m = inR m := by
  by_cases k2 : m.kind = 2
  · have hc := form_code h (by omega)
    unfold rrange inR openR routeR isNo isNm
    rw [if_neg (by omega), if_pos k2, hc, decide_eq_false (by omega)]
    have e0 : wi 0 0 255 = true := rfl
    rw [e0]
    rw [Bool.eq_iff_iff]
    simp only [Bool.and_eq_true, Bool.not_false, Bool.true_or, decide_eq_true_eq, true_and]
    constructor
    · rintro ⟨⟨⟨⟨⟨h1, h2⟩, h3⟩, h4⟩, ⟨h5, h6⟩, h7⟩, h8, h9, h10⟩
      exact ⟨⟨⟨⟨⟨⟨⟨⟨⟨h1, h5⟩, h6⟩, h7⟩, h8⟩, h2⟩, h9⟩, h3⟩, h10⟩, h4⟩
    · rintro ⟨⟨⟨⟨⟨⟨⟨⟨⟨h1, h5⟩, h6⟩, h7⟩, h8⟩, h2⟩, h9⟩, h3⟩, h10⟩, h4⟩
      exact ⟨⟨⟨⟨⟨h1, h2⟩, h3⟩, h4⟩, ⟨h5, h6⟩, h7⟩, h8, h9, h10⟩
  · have hb := bare_all (form_bare h (form_none h k2).2)
    have e1 : (wi m.rt.org 0 2 && m.rt.path.all (fun x => wi x 1 4294967295) && m.rt.marks.all (fun x => wi x 0 4294967295) && m.rt.clus.all (fun x => wi x 0 4294967295) && (wi m.rt.med 0 4294967295 && wi m.rt.pref 0 4294967295 && wi m.rt.auth 0 4294967295) && decide (m.rt.path.length ≤ 64 ∧ m.rt.marks.length ≤ 32 ∧ m.rt.clus.length ≤ 32)) = true := by rw [hb]; rfl
    simp only [Bool.and_eq_true] at e1
    obtain ⟨⟨⟨⟨⟨e1, e2⟩, e3⟩, e4⟩, ⟨e5, e6⟩, e7⟩, e8⟩ := e1
    unfold rrange
    rw [e1, e2, e3, e4, e5, e6, e7, e8]
    simp only [Bool.and_true, Bool.and_self]
    by_cases k1 : m.kind = 1
    · have hc := form_code h (by omega)
      have e0 : wi 0 0 255 = true := rfl
      unfold openR inR isNm
      rw [hc, e0, decide_eq_true k1, if_pos k1]
      simp
    · unfold openR inR
      rw [decide_eq_false k1, if_neg k1, if_neg k2]
      by_cases k4 : m.kind = 4
      · rw [if_pos k4]; simp
      · rw [if_neg k4, form_code h k4]; rfl
theorem enc_len2 {m : Ms} (h : CK m) : encE m = if 1024 < 9 + (body m).length then 6 else 0 := by
  unfold encE
  rw [if_pos (ck_to h)]
  by_cases hb : 1024 < m.lost.length + m.hv.length
  · rw [if_pos hb]
    have k2 : m.kind = 2 := by
      by_cases k2 : m.kind = 2
      · exact k2
      · have := form_none h.f k2; omega
    have h1 := (pfxsB_len (ps := m.lost) (fun p hp => by have := allV_len h.vl p hp; omega)).2
    have h2 := (pfxsB_len (ps := m.hv) (fun p hp => by have := allV_len h.vh p hp; omega)).2
    rw [if_pos]
    unfold body updB piece
    rw [if_neg (by omega), if_pos k2]
    simp only [List.length_append, big_len]
    omega
  · rw [if_neg hb]
theorem enc_err {m : Ms} {t : Int} (h : chk m = t) (h0 : ¬ t = 0) : encE m = t ∧ encB m = [] := by
  have e : encE m = t := by unfold encE; rw [h, if_neg h0]
  exact ⟨e, by unfold encB; rw [e, if_neg h0]⟩
set_option maxRecDepth 100000 in
set_option maxHeartbeats 8000000 in
theorem rwhole_any (kind : Nat) (hk : kind < 256) (a : Option Addr) (n cap : Nat) (xs : List Nat) (hn : n ≤ 60000) (w : World) (hp : Pc8 w a n cap xs) (hu : ∀ d ∈ xs, d < 256) :
    Calls Try.prog 53 #[.int .i64 (kind : Int), .slice a n cap] w fun e w' => ∃ v, e = .returned v ∧ OwnL E8 w.heap.size w' v (frame kind xs) ∧ Below w.heap.size w w' := by
  have HP : Hid (Pc8 w a n cap xs) := hp
  have HU : Hid (∀ d ∈ xs, d < 256) := hu
  obtain ⟨sm, hsm⟩ : ∃ r, ssum 65535 (kind :: xs) = r := ⟨_, rfl⟩
  have HUK : Hid (∀ d ∈ [kind] ++ xs, d < 256) := fun d hd => by
    rcases List.mem_append.1 hd with e | e
    · simp at e; omega
    · exact hu d e
  have hsm1 : sm < 65536 := by rw [← hsm]; exact ssum_lt _ _ (by decide) HUK.out
  have HSM : Hid (ssum 65535 ([kind] ++ xs) = sm) := hsm
  obtain ⟨sz, hsz⟩ : ∃ z, 9 + n = z := ⟨_, rfl⟩
  have HSZ : Hid (9 + n = sz) := hsz
  have w9 : (n : Int) + 9 = (sz : Int) := by omega
  have hsz6 : sz ≤ 60009 := by omega
  have hku : IntKind.u8.wrap (kind : Int) = (kind : Int) := by rw [IntKind.wrap_u8]; omega
  clear hp hu hsm hsz
  go_enter Try.func53, Try.ntmps53
  obtain ⟨w0, hw0⟩ : ∃ w0, w.alloc (Obj.cells #[.int .u8 255, .int .u8 255, .int .u8 255, .int .u8 255] 5) = w0 := ⟨_, rfl⟩
  obtain ⟨m1, m2⟩ := own_made E8 (W := w) (W' := w0) [255, 255, 255, 255] 4 rfl (by decide) hw0
  obtain ⟨v0, hv0⟩ : ∃ v, Value.slice (some ⟨w.heap.size, 0, none⟩) 4 4 = v := ⟨_, rfl⟩
  have HO0 : Hid (OwnL E8 w.heap.size w0 v0 [255, 255, 255, 255]) := by rw [← hv0]; exact m1
  have HB0 : Hid (Below w.heap.size w w0) := m2
  clear m1 m2
  go_wp2_with fail
  refine (rbytes_any sz 2 (by decide) (by omega) w0).mono ?_
  rintro e w1 ⟨v1, rfl, ho1, hb1⟩
  obtain ⟨a1, c1, hv1, -⟩ := ho1.form
  rw [big_len] at hv1
  subst hv1
  have HP1 : Hid (Pc8 w1 a1 2 c1 (big 2 sz)) := OwnL.pc8 ho1
  have HB1 : Hid (Below w.heap.size w w1) := HB0.out.trans (hb1.mono HB0.out.size)
  have HO1 : Hid (OwnL E8 w.heap.size w1 v0 [255, 255, 255, 255]) := HO0.out.bel hb1
  clear ho1 hb1 HO0 HB0 hw0 hv0
  go_wp2_with (at_builtin; refine list_appL E8 rfl _ _ 22 rfl rfl w.heap.size v0 [255, 255, 255, 255] (big 2 sz) a1 2 c1 w1 (by simp) rfl HO1.out rfl HP1.out.l HP1.out.nil HP1.out.len HB1.out.size ?_)
  intro v2 w2 ho2 hg2 hat2
  obtain ⟨X2, hX2⟩ : ∃ X, [255, 255, 255, 255] ++ big 2 sz = X := ⟨_, rfl⟩
  have HX2 : Hid ([255, 255, 255, 255] ++ big 2 sz = X2) := hX2
  have HO2 : Hid (OwnL E8 w.heap.size w2 v2 X2) := by rw [← hX2]; exact ho2.out
  have HB2 : Hid (Below w.heap.size w w2) := HB1.out.grown hg2.out HB1.out.size (fun g e => (HO1.out.row.lt g e).1)
  have hl2 : X2.length = 6 := by rw [← hX2, List.length_append, big_len]; rfl
  clear ho2 hg2 hat2 HO1 HB1 HP1 hX2
  obtain ⟨wB, hwB⟩ : ∃ W, w2.alloc (Obj.cells #[.int .u8 (kind : Int)] 5) = W := ⟨_, rfl⟩
  have HWE : Hid (w2.alloc (Obj.cells (E8.enc kind).toArray E8.e) = wB) := hwB
  have hbB : Below w2.heap.size w2 wB := by rw [← hwB]; exact (Below.refl _ w2).alloc (Nat.le_refl _) _
  have HOB : Hid (OwnL E8 w.heap.size wB v2 X2) := HO2.out.bel hbB
  have HBB : Hid (Below w.heap.size w wB) := HB2.out.trans (hbB.mono HB2.out.size)
  have hby : X2.length ≤ 1099511627775 := by omega
  clear hbB
  go_wp2_with (at_builtin; refine list_app1 E8 rfl _ _ 22 rfl rfl w.heap.size v2 X2 kind hby (w := w2) wB rfl HOB.out rfl HBB.out.size HWE.out.symm ?_)
  intro v3 w3 ho3 hg3 hat3
  obtain ⟨X3, hX3⟩ : ∃ X, X2 ++ [kind] = X := ⟨_, rfl⟩
  have HX3 : Hid (X2 ++ [kind] = X3) := hX3
  have HO3 : Hid (OwnL E8 w.heap.size w3 v3 X3) := by rw [← hX3]; exact ho3.out
  have HB3 : Hid (Below w.heap.size w w3) := HBB.out.grown hg3.out HBB.out.size (fun g e => (HOB.out.row.lt g e).1)
  have hl3 : X3.length = 7 := by rw [← hX3, List.length_append, hl2]; rfl
  clear ho3 hg3 hat3 HO2 HB2 hX3 hwB HWE HOB HBB hby
  obtain ⟨w4, hw4⟩ : ∃ W, w3.alloc (Obj.cells #[.int .u8 (kind : Int)] 5) = W := ⟨_, rfl⟩
  obtain ⟨m1, m2⟩ := own_made E8 (W := w3) (W' := w4) [kind] 1 rfl (by decide) hw4
  obtain ⟨v4, hv4⟩ : ∃ v, Value.slice (some ⟨w3.heap.size, 0, none⟩) 1 1 = v := ⟨_, rfl⟩
  have HO4 : Hid (OwnL E8 w3.heap.size w4 v4 [kind]) := by rw [← hv4]; exact m1
  have HB4 : Hid (Below w3.heap.size w3 w4) := m2
  have HP4 : Hid (Pc8 w4 a n cap xs) := HP.out.bel (HB3.out.trans (m2.mono HB3.out.size))
  have hby4 : [kind].length + n ≤ 1099511627775 := by simp; omega
  clear m1 m2
  go_wp2_with (at_builtin; refine list_appL E8 rfl _ _ 22 rfl rfl w3.heap.size v4 [kind] xs a n cap w4 hby4 rfl HO4.out rfl HP4.out.l HP4.out.nil HP4.out.len HB4.out.size ?_)
  intro v5 w5 ho5 hg5 hat5
  obtain ⟨a5, n5, c5, hv5, hos5, hl5⟩ : ∃ a n c, v5 = .slice a n c ∧ OwnL E8 w3.heap.size w5 (.slice a n c) ([kind] ++ xs) ∧ ([kind] ++ xs).length = n := by
    obtain ⟨a, c, e, -⟩ := ho5.out.form
    exact ⟨a, _, c, e, by rw [← e]; exact ho5.out, rfl⟩
  subst hv5
  have HO5 : Hid (OwnL E8 w3.heap.size w5 (.slice a5 n5 c5) ([kind] ++ xs)) := hos5
  have HB5 : Hid (Below w3.heap.size w3 w5) := HB4.out.grown hg5.out HB4.out.size (fun g e => (HO4.out.row.lt g e).1)
  clear ho5 hg5 hat5 hos5 HO4 HB4 HP4 hw4 hv4 hby4 hl5
  go_wp2_with fail
  refine (rsum_any a5 c5 ([kind] ++ xs) n5 (OwnL.pc8 HO5.out).len w5 (OwnL.pc8 HO5.out).l HUK.out sm HSM.out).mono ?_
  rintro e w6 ⟨rfl, hw6⟩
  rw [hw6]
  clear hw6 w6
  have HO6 : Hid (OwnL E8 w.heap.size w5 v3 X3) := HO3.out.bel HB5.out
  have HB6 : Hid (Below w.heap.size w w5) := HB3.out.trans (HB5.out.mono HB3.out.size)
  clear HO5 HB5 HO3 HB3
  go_wp2_with fail
  refine (rbytes_any sm 2 (by decide) (by omega) w5).mono ?_
  rintro e w7 ⟨v7, rfl, ho7, hb7⟩
  obtain ⟨a7, c7, hv7, -⟩ := ho7.form
  rw [big_len] at hv7
  subst hv7
  have HP7 : Hid (Pc8 w7 a7 2 c7 (big 2 sm)) := OwnL.pc8 ho7
  have HB7 : Hid (Below w.heap.size w w7) := HB6.out.trans (hb7.mono HB6.out.size)
  have HO7 : Hid (OwnL E8 w.heap.size w7 v3 X3) := HO6.out.bel hb7
  have hby7 : X3.length + 2 ≤ 1099511627775 := by omega
  clear ho7 hb7 HO6 HB6
  go_wp2_with (at_builtin; refine list_appL E8 rfl _ _ 22 rfl rfl w.heap.size v3 X3 (big 2 sm) a7 2 c7 w7 hby7 rfl HO7.out rfl HP7.out.l HP7.out.nil HP7.out.len HB7.out.size ?_)
  intro v8 w8 ho8 hg8 hat8
  obtain ⟨X8, hX8⟩ : ∃ X, X3 ++ big 2 sm = X := ⟨_, rfl⟩
  have HX8 : Hid (X3 ++ big 2 sm = X8) := hX8
  have HO8 : Hid (OwnL E8 w.heap.size w8 v8 X8) := by rw [← hX8]; exact ho8.out
  have HB8 : Hid (Below w.heap.size w w8) := HB7.out.grown hg8.out HB7.out.size (fun g e => (HO7.out.row.lt g e).1)
  have hl8 : X8.length = 9 := by rw [← hX8, List.length_append, hl3, big_len]
  have HP8 : Hid (Pc8 w8 a n cap xs) := HP.out.bel HB8.out
  have hby8 : X8.length + n ≤ 1099511627775 := by omega
  clear ho8 hg8 hat8 HO7 HB7 HP7 hX8 hby7
  go_wp2_with (at_builtin; refine list_appL E8 rfl _ _ 22 rfl rfl w.heap.size v8 X8 xs a n cap w8 hby8 rfl HO8.out rfl HP8.out.l HP8.out.nil HP8.out.len HB8.out.size ?_)
  intro v9 w9' ho9 hg9 hat9
  have HO9 : Hid (OwnL E8 w.heap.size w9' v9 (frame kind xs)) := by
    unfold frame
    have e := HSM.out
    rw [List.singleton_append] at e
    rw [e, HP8.out.len, HSZ.out, big1 hk, HX2.out, HX3.out, HX8.out]
    exact ho9.out
  have HB9 : Hid (Below w.heap.size w w9') := HB8.out.grown hg9.out HB8.out.size (fun g e => (HO8.out.row.lt g e).1)
  clear ho9 hg9 hat9 HO8 HB8 HP8 hby8
  obtain ⟨va5, vc5, rfl, -⟩ := HO9.out.form
  obtain ⟨vl, hvl⟩ : ∃ q, (frame kind xs).length = q := ⟨_, rfl⟩
  rw [hvl] at HO9
  rw [hvl]
  clear hvl
  go_wp2_with fail
  go_ret
  exact ⟨_, rfl, HO9.out, HB9.out⟩
end Go.Proofs.Ytghlgkpfcpcopaa.Pv
