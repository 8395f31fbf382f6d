/- A message's body: bodyOf. -/
import Derived.Test.YtanboekdfdafmaaPvL
import Derived.Deep.RegionHeld3
namespace Go.Proofs.Ytanboekdfdafmaa.Pv
open Go.ChangeShapes Go.WideShapes Go.ChangeAt Go.RowKit Go.Joins Go.Proofs.Ytanboekdfdafmaa.PM Go.Proofs.Ytanboekdfdafmaa.Ask Go.Proofs.Ytanboekdfdafmaa.Ge
set_option linter.unusedVariables false

/-- what a message that can be written keeps to -/
structure CK (m : Ms) : Prop where
  k : 1 ≤ m.kind ∧ m.kind ≤ 4
  f : form m = true
  vl : allV m.lost = true
  vh : allV m.hv = true
  rl : rise m.lost = true
  rh : rise m.hv = true
  mt : meet m.lost m.hv = false
  r : inR m = true
  mr : riseI m.rt.marks = true
theorem ck_of {m : Ms} (h : chk m = 0) : CK m := by
  unfold chk at h
  split at h
  · cases h
  · rename_i h1
    split at h
    · cases h
    · rename_i h2
      split at h
      · cases h
      · rename_i h3
        split at h
        · cases h
        · rename_i h4
          split at h
          · cases h
          · rename_i h5
            split at h
            · cases h
            · rename_i h6
              simp only [Bool.not_eq_false, Bool.and_eq_true, Bool.not_eq_true'] at h1 h2 h3 h4 h5 h6
              exact ⟨isK_iff.1 h1, h2, h3.1, h3.2, h4.1.1, h4.1.2, h4.2, h5, h6⟩
theorem ck_to {m : Ms} (h : CK m) : chk m = 0 := by
  unfold chk
  rw [isK_iff.2 h.k, h.f, h.vl, h.vh, h.rl, h.rh, h.mt, h.r, h.mr]
  rfl
theorem allV_len {ps : List (Int × Int)} (h : allV ps = true) : ∀ p ∈ ps, 0 ≤ p.2 ∧ p.2 ≤ 32 := by
  intro p hp
  unfold allV at h
  rw [List.all_eq_true] at h
  have := (vld_iff p.1 p.2).1 (h p hp)
  exact ⟨this.1, this.2.1⟩
theorem attrs_len {m : Ms} (h : RR m.rt) : (attrs m).length ≤ 2000 := by
  unfold attrs
  simp only [List.length_append]
  have l1 := attrIf_len 1 1 (decide (0 < m.hv.length)) [m.rt.org]
  have l2 := attrIf_len 2 4 (decide (0 < m.hv.length)) m.rt.path
  have l3 := attrIf_len 3 4 (decide (0 < m.hv.length)) [m.rt.next]
  have l4 := attrIf_len 4 4 (m.rt.med != 0) [m.rt.med]
  have l5 := attrIf_len 5 4 (m.rt.pref != 0) [m.rt.pref]
  have l6 := attrIf_len 6 4 (decide (0 < m.rt.marks.length)) m.rt.marks
  have l7 := attrIf_len 7 4 (m.rt.auth != 0) [m.rt.auth]
  have l8 := attrIf_len 8 4 (decide (0 < m.rt.clus.length)) m.rt.clus
  simp only [List.length_cons, List.length_nil] at l1 l2 l3 l4 l5 l6 l7 l8
  have := h.lp
  have := h.lm
  have := h.lcl
  omega
theorem updV_any {N : Nat} {W : World} {v1 v2 v3 : Value} {x1 x2 x3 : List Nat} (o1 : OwnL E8 N W v1 x1) (o2 : OwnL E8 N W v2 x2) (o3 : OwnL E8 N W v3 x3) (h1 : x1.length ≤ 300000) (h2 : x2.length ≤ 300000) (h3 : x3.length ≤ 1000000) :
    Calls Try.prog 52 #[v1, v2, v3] W fun e w' => ∃ v', e = .returned v' ∧ OwnL E8 W.heap.size w' v' (updB x1 x2 x3) ∧ Below W.heap.size W w' := by
  obtain ⟨a1, c1, rfl, -⟩ := o1.form
  obtain ⟨a2, c2, rfl, -⟩ := o2.form
  obtain ⟨a3, c3, rfl, -⟩ := o3.form
  exact updateOf_any a1 _ c1 x1 a2 _ c2 x2 a3 _ c3 x3 h1 h2 h3 W (OwnL.pc8 o1) (OwnL.pc8 o2) (OwnL.pc8 o3)
set_option maxRecDepth 100000 in
set_option maxHeartbeats 16000000 in
theorem bodyOf_any (m : Ms) (s : Sl) (w : World) (hok : MOk w m s) (hc : chk m = 0) (hl : m.lost.length + m.hv.length ≤ 1024) :
    Calls Try.prog 35 #[msV m s] w fun e w' => ∃ v, e = .returned v ∧ OwnL E8 w.heap.size w' v (body m) ∧ Below w.heap.size w w' := by
  have HOK : Hid (MOk w m s) := hok
  have HC : Hid (chk m = 0) := hc
  obtain ⟨n1, hn1⟩ : ∃ n, m.lost.length = n := ⟨_, rfl⟩
  have HN1 : Hid (m.lost.length = n1) := hn1
  obtain ⟨n2, hn2⟩ : ∃ n, m.hv.length = n := ⟨_, rfl⟩
  have HN2 : Hid (m.hv.length = n2) := hn2
  obtain ⟨q1, hq1⟩ : ∃ n, m.rt.path.length = n := ⟨_, rfl⟩
  have HQ1 : Hid (m.rt.path.length = q1) := hq1
  obtain ⟨q2, hq2⟩ : ∃ n, m.rt.marks.length = n := ⟨_, rfl⟩
  have HQ2 : Hid (m.rt.marks.length = q2) := hq2
  obtain ⟨q3, hq3⟩ : ∃ n, m.rt.clus.length = n := ⟨_, rfl⟩
  have HQ3 : Hid (m.rt.clus.length = q3) := hq3
  have HV : Hid (msV m s = .agg #[.int .i64 m.kind, .int .i64 m.dom, .int .i64 m.id, .int .i64 m.hold, .int .i64 m.code, .slice s.l n1 s.lc, .slice s.h n2 s.hc, .int .u32 m.rt.pa, .int .i64 m.rt.pn, .slice s.p q1 s.pc, .int .i64 m.rt.org, .int .i64 m.rt.pref, .int .i64 m.rt.med, .int .u32 m.rt.next, .slice s.m q2 s.mc, .slice s.c q3 s.cc, .int .i64 m.rt.auth]) := by unfold msV; rw [hn1, hn2, hq1, hq2, hq3]; rfl
  rw [hn1, hn2] at hl
  rw [HV.out]
  clear hn1 hn2 hq1 hq2 hq3 hok hc
  go_enter Try.func35, Try.ntmps35
  go_upto_region 2 with fail
  obtain ⟨w0, hw0⟩ : ∃ w0, w.alloc (Obj.cells #[.int .i64 m.kind, .int .i64 m.dom, .int .i64 m.id, .int .i64 m.hold, .int .i64 m.code, .slice s.l n1 s.lc, .slice s.h n2 s.hc, .int .u32 m.rt.pa, .int .i64 m.rt.pn, .slice s.p q1 s.pc, .int .i64 m.rt.org, .int .i64 m.rt.pref, .int .i64 m.rt.med, .int .u32 m.rt.next, .slice s.m q2 s.mc, .slice s.c q3 s.cc, .int .i64 m.rt.auth] 54) = w0 := ⟨_, rfl⟩
  obtain ⟨hbx, hb0, hs0⟩ := mbox_new (m := m) (s := s) (w := w) (W := w0) (by rw [HN1.out, HN2.out, HQ1.out, HQ2.out, HQ3.out]; exact hw0)
  obtain ⟨b, hb⟩ : ∃ b, w.heap.size = b := ⟨_, rfl⟩
  rw [hw0]
  rw [hb] at hbx ⊢
  have HBZ : Hid (w.heap.size = b) := hb
  have HX0 : Hid (MBox b m s w0) := hbx
  have HB0 : Hid (Below w.heap.size w w0) := hb0
  have HO0 : Hid (MOk w0 m s) := HOK.out.bel hb0
  have hbs : b < w0.heap.size := by omega
  have HBX : Hid (∀ W, Below w0.heap.size w0 W → MBox b m s W) := fun W h => HX0.out.blk (h.block b hbs)
  have HBW : Hid (∀ W, Below w0.heap.size w0 W → Below w.heap.size w W) := fun W h => HB0.out.trans (h.mono HB0.out.size)
  have HMW : Hid (∀ W, Below w0.heap.size w0 W → MOk W m s) := fun W h => HO0.out.bel h
  have hbn : b ≤ w0.heap.size := by omega
  clear hw0 hbx hb0 HOK hb hs0
  obtain ⟨c0, c1, c2, c3, c4, c5, c6, c7, c8, c9, c10, c11, c12, c13, c14, c15, c16⟩ := HX0.out
  rw [HN1.out] at c5
  rw [HN2.out] at c6
  rw [HQ1.out] at c9
  rw [HQ2.out] at c14
  rw [HQ3.out] at c15
  by_cases k1 : m.kind = 1
  · rw [k1] at c0
    have HCK : Hid (CK m) := ck_of HC.out
    obtain ⟨D, hD⟩ : ∃ D : Nat, m.dom = D ∧ D < 4294967296 := by
      have h1 := HCK.out.r
      unfold inR isNm at h1
      rw [if_pos k1] at h1
      simp only [Bool.and_eq_true, wi_iff] at h1
      exact ⟨m.dom.toNat, by omega, by omega⟩
    obtain ⟨I, hI⟩ : ∃ D : Nat, m.id = D ∧ D < 4294967296 := by
      have h1 := HCK.out.r
      unfold inR isNm at h1
      rw [if_pos k1] at h1
      simp only [Bool.and_eq_true, wi_iff] at h1
      exact ⟨m.id.toNat, by omega, by omega⟩
    obtain ⟨H, hH⟩ : ∃ D : Nat, m.hold = D ∧ D < 65536 := by
      have h1 := HCK.out.r
      unfold inR isNm at h1
      rw [if_pos k1] at h1
      simp only [Bool.and_eq_true, Bool.or_eq_true, decide_eq_true_eq, wi_iff] at h1
      rcases h1.2 with h2 | h2
      · exact ⟨0, by omega, by omega⟩
      · exact ⟨m.hold.toNat, by omega, by omega⟩
    obtain ⟨hD, hD1⟩ := hD
    obtain ⟨hI, hI1⟩ := hI
    obtain ⟨hH, hH1⟩ := hH
    rw [hD] at c1
    rw [hI] at c2
    rw [hH] at c3
    have HBD : Hid (body m = big 1 1 ++ big 4 D ++ big 2 H ++ big 4 I) := by
      show _ = _
      unfold body
      rw [if_pos k1, hD, hI, hH]
      simp only [Int.toNat_natCast]
    have HBY : Hid (∀ W, Below w0.heap.size w0 W → W.cell? ⟨b, 1, none⟩ = some (.int .i64 (D : Int)) ∧ W.cell? ⟨b, 2, none⟩ = some (.int .i64 (I : Int)) ∧ W.cell? ⟨b, 3, none⟩ = some (.int .i64 (H : Int))) := fun W h => by
      have h1 := HBX.out W h
      refine ⟨?_, ?_, ?_⟩
      · rw [← hD]; exact h1.c1
      · rw [← hI]; exact h1.c2
      · rw [← hH]; exact h1.c3
    clear hD hI hH k1
    go_wp2_with fail
    refine (put_any w0.heap.size (.slice none 0 0) [] 1 1 (by decide) (by decide) (by simp) w0 (Nat.le_refl _) (OwnL.nil _ _ _)).mono ?_
    rintro e w1 ⟨v1, rfl, ho1, hb1⟩
    have HO1 : Hid (OwnL E8 w0.heap.size w1 v1 ([] ++ big 1 1)) := ho1
    have HB1 : Hid (Below w0.heap.size w0 w1) := hb1
    clear ho1 hb1 c0 c1 c2 c3 c4 c5 c6 c7 c8 c9 c10 c11 c12 c13 c14 c15 c16
    obtain ⟨y1, y2, y3⟩ := HBY.out w1 HB1.out
    go_wp2_with fail
    refine (put_any w0.heap.size v1 ([] ++ big 1 1) 4 D (by decide) (by omega) (by simp [big_len]) w1 HB1.out.size HO1.out).mono ?_
    rintro e w2 ⟨v2, rfl, ho2, hb2⟩
    have HO2 : Hid (OwnL E8 w0.heap.size w2 v2 ([] ++ big 1 1 ++ big 4 D)) := ho2
    have HB2 : Hid (Below w0.heap.size w0 w2) := HB1.out.trans hb2
    clear ho2 hb2 y1 y2 y3
    obtain ⟨y1, y2, y3⟩ := HBY.out w2 HB2.out
    go_wp2_with fail
    refine (put_any w0.heap.size v2 ([] ++ big 1 1 ++ big 4 D) 2 H (by decide) (by omega) (by simp [big_len]) w2 HB2.out.size HO2.out).mono ?_
    rintro e w3 ⟨v3, rfl, ho3, hb3⟩
    have HO3 : Hid (OwnL E8 w0.heap.size w3 v3 ([] ++ big 1 1 ++ big 4 D ++ big 2 H)) := ho3
    have HB3 : Hid (Below w0.heap.size w0 w3) := HB2.out.trans hb3
    clear ho3 hb3 y1 y2 y3
    obtain ⟨y1, y2, y3⟩ := HBY.out w3 HB3.out
    go_wp2_with fail
    refine (put_any w0.heap.size v3 ([] ++ big 1 1 ++ big 4 D ++ big 2 H) 4 I (by decide) (by omega) (by simp [big_len]) w3 HB3.out.size HO3.out).mono ?_
    rintro e w4 ⟨v4, rfl, ho4, hb4⟩
    have HO4 : Hid (OwnL E8 w.heap.size w4 v4 (body m)) := by
      rw [HBD.out, HBZ.out]
      rw [List.nil_append] at ho4
      exact ho4.mono hbn
    have HB4 : Hid (Below w.heap.size w w4) := HBW.out _ (HB3.out.trans hb4)
    clear ho4 hb4 y1 y2 y3 HO1 HO2 HO3
    obtain ⟨va5, vc5, rfl, -⟩ := HO4.out.form
    obtain ⟨vl, hvl⟩ : ∃ q, (body m).length = q := ⟨_, rfl⟩
    rw [hvl] at HO4
    rw [hvl]
    clear hvl
    go_wp2_with fail
    go_ret
    exact ⟨_, rfl, HO4.out, HB4.out⟩
  · by_cases k2 : m.kind = 2
    · rw [k2] at c0
      obtain ⟨hrr, hva, hvb⟩ : routeR m.rt = true ∧ (∀ p ∈ m.lost, 0 ≤ p.2 ∧ p.2 ≤ 32) ∧ (∀ p ∈ m.hv, 0 ≤ p.2 ∧ p.2 ≤ 32) := by
        have h1 := ck_of HC.out
        have h2 := h1.r
        unfold inR at h2
        rw [if_neg k1, if_pos k2] at h2
        exact ⟨h2, allV_len h1.vl, allV_len h1.vh⟩
      have HL1 : Hid ((pfxsB m.lost).length ≤ 300000) := by
        have := (pfxsB_len (ps := m.lost) (fun p hp => by have := hva p hp; omega)).1
        show _ ≤ _
        have := HN1.out
        omega
      have HL2 : Hid ((attrs m).length ≤ 300000) := by have := attrs_len (rr_of hrr); show _ ≤ _; omega
      have HL3 : Hid ((pfxsB m.hv).length ≤ 1000000) := by
        have := (pfxsB_len (ps := m.hv) (fun p hp => by have := hvb p hp; omega)).1
        show _ ≤ _
        have := HN2.out
        omega
      have HBD : Hid (body m = updB (pfxsB m.lost) (attrs m) (pfxsB m.hv)) := by
        show _ = _
        unfold body
        rw [if_neg k1, if_pos k2]
      have HRR : Hid (routeR m.rt = true) := hrr
      have HVA : Hid (∀ p ∈ m.lost, 0 ≤ p.2 ∧ p.2 ≤ 32) := hva
      have HVB : Hid (∀ p ∈ m.hv, 0 ≤ p.2 ∧ p.2 ≤ 32) := hvb
      clear hrr hva hvb
      have HPL : Hid (∀ W, Below w0.heap.size w0 W → Calls Try.prog 53 #[.slice s.l n1 s.lc] W fun e w' => ∃ v, e = .returned v ∧ OwnL E8 W.heap.size w' v (pfxsB m.lost) ∧ Below W.heap.size W w') := fun W h => prefixesOf_any s.l s.lc m.lost n1 HN1.out (by omega) W (HMW.out W h).l (HMW.out W h).il HVA.out
      have HPH : Hid (∀ W, Below w0.heap.size w0 W → Calls Try.prog 53 #[.slice s.h n2 s.hc] W fun e w' => ∃ v, e = .returned v ∧ OwnL E8 W.heap.size w' v (pfxsB m.hv) ∧ Below W.heap.size W w') := fun W h => prefixesOf_any s.h s.hc m.hv n2 HN2.out (by omega) W (HMW.out W h).h (HMW.out W h).ih HVB.out
      have HAT : Hid (∀ W, Below w0.heap.size w0 W → Calls Try.prog 54 #[.agg #[.int .i64 m.kind, .int .i64 m.dom, .int .i64 m.id, .int .i64 m.hold, .int .i64 m.code, .slice s.l n1 s.lc, .slice s.h n2 s.hc, .int .u32 m.rt.pa, .int .i64 m.rt.pn, .slice s.p q1 s.pc, .int .i64 m.rt.org, .int .i64 m.rt.pref, .int .i64 m.rt.med, .int .u32 m.rt.next, .slice s.m q2 s.mc, .slice s.c q3 s.cc, .int .i64 m.rt.auth]] W fun e w' => ∃ v, e = .returned v ∧ OwnL E8 W.heap.size w' v (attrs m) ∧ Below W.heap.size W w') := fun W h => by
        have := attributesOf_any m s W (HMW.out W h) HRR.out
        rw [HV.out] at this
        exact this
      have HDR : Hid (Below w0.heap.size w0 w0.drew) := (Below.refl _ _).drew
      rw [k2] at HAT
      go_upto_region 9 with fail
      go_region_held3 (fun W => W.cell? ⟨b, 0, none⟩ = some (.int .i64 2) ∧ W.cell? ⟨b, 1, none⟩ = some (.int .i64 m.dom) ∧ W.cell? ⟨b, 2, none⟩ = some (.int .i64 m.id) ∧ W.cell? ⟨b, 3, none⟩ = some (.int .i64 m.hold) ∧ W.cell? ⟨b, 4, none⟩ = some (.int .i64 m.code) ∧ W.cell? ⟨b, 5, none⟩ = some (.slice s.l n1 s.lc) ∧ W.cell? ⟨b, 6, none⟩ = some (.slice s.h n2 s.hc) ∧ W.cell? ⟨b, 7, none⟩ = some (.int .u32 m.rt.pa) ∧ W.cell? ⟨b, 8, none⟩ = some (.int .i64 m.rt.pn) ∧ W.cell? ⟨b, 9, none⟩ = some (.slice s.p q1 s.pc) ∧ W.cell? ⟨b, 10, none⟩ = some (.int .i64 m.rt.org) ∧ W.cell? ⟨b, 11, none⟩ = some (.int .i64 m.rt.pref) ∧ W.cell? ⟨b, 12, none⟩ = some (.int .i64 m.rt.med) ∧ W.cell? ⟨b, 13, none⟩ = some (.int .u32 m.rt.next) ∧ W.cell? ⟨b, 14, none⟩ = some (.slice s.m q2 s.mc) ∧ W.cell? ⟨b, 15, none⟩ = some (.slice s.c q3 s.cc) ∧ W.cell? ⟨b, 16, none⟩ = some (.int .i64 m.rt.auth)) (first | (simp [go_sem, c0, c1, c2, c3, c4, c5, c6, c7, c8, c9, c10, c11, c12, c13, c14, c15, c16]; done) | (refine ⟨?_, ?_, ?_, ?_, ?_, ?_, ?_, ?_, ?_, ?_, ?_, ?_, ?_, ?_, ?_, ?_, ?_⟩ <;> assumption) | go_keep)
        (first
          | (go_at_call_of 53 (Value.slice s.l n1 s.lc); refine (HPL.out _ HDR.out).mono ?_; rintro e w1 ⟨v1, rfl, ho1, hb1⟩; have HF1 : Hid (Below w0.heap.size w0 w1) := HDR.out.trans (hb1.mono HDR.out.size); have HO1 : Hid (OwnL E8 w0.heap.size w1 v1 (pfxsB m.lost)) := ho1; obtain ⟨d0, d1, d2, d3, d4, d5, d6, d7, d8, d9, d10, d11, d12, d13, d14, d15, d16⟩ := HBX.out w1 HF1.out; rw [k2] at d0; rw [HN1.out] at d5; rw [HN2.out] at d6; rw [HQ1.out] at d9; rw [HQ2.out] at d14; rw [HQ3.out] at d15; clear ho1 hb1)
          | (go_at_call 54; refine (HAT.out _ HF1.out).mono ?_; rintro e w2 ⟨v2, rfl, ho2, hb2⟩; have HF2 : Hid (Below w0.heap.size w0 w2) := HF1.out.trans (hb2.mono HF1.out.size); have HO2 : Hid (OwnL E8 w0.heap.size w2 v1 (pfxsB m.lost) ∧ OwnL E8 w0.heap.size w2 v2 (attrs m)) := ⟨HO1.out.bel hb2, ho2.mono HF1.out.size⟩; obtain ⟨e0, e1, e2, e3, e4, e5, e6, e7, e8, e9, e10, e11, e12, e13, e14, e15, e16⟩ := HBX.out w2 HF2.out; rw [k2] at e0; rw [HN1.out] at e5; rw [HN2.out] at e6; rw [HQ1.out] at e9; rw [HQ2.out] at e14; rw [HQ3.out] at e15; clear ho2 hb2)
          | (go_at_call_of 53 (Value.slice s.h n2 s.hc); refine (HPH.out _ HF2.out).mono ?_; rintro e w4 ⟨v4, rfl, ho4, hb4⟩; have HF4 : Hid (Below w0.heap.size w0 w4) := HF2.out.trans (hb4.mono HF2.out.size); have HO4 : Hid (OwnL E8 w0.heap.size w4 v1 (pfxsB m.lost) ∧ OwnL E8 w0.heap.size w4 v2 (attrs m) ∧ OwnL E8 w0.heap.size w4 v4 (pfxsB m.hv)) := ⟨HO2.out.1.bel hb4, HO2.out.2.bel hb4, ho4.mono HF2.out.size⟩; obtain ⟨f0, f1, f2, f3, f4, f5, f6, f7, f8, f9, f10, f11, f12, f13, f14, f15, f16⟩ := HBX.out w4 HF4.out; rw [k2] at f0; rw [HN1.out] at f5; rw [HN2.out] at f6; rw [HQ1.out] at f9; rw [HQ2.out] at f14; rw [HQ3.out] at f15; clear ho4 hb4)
          | (go_at_call 52; refine (updV_any HO4.out.1 HO4.out.2.1 HO4.out.2.2 HL1.out HL2.out HL3.out).mono ?_; rintro e w6 ⟨v6, rfl, ho6, hb6⟩; have HB6 : Hid (Below w.heap.size w w6) := HBW.out _ (HF4.out.trans (hb6.mono HF4.out.size)); have HO6 : Hid (OwnL E8 w.heap.size w6 v6 (body m)) := (by rw [HBD.out, HBZ.out]; exact ho6.mono (Nat.le_trans hbn HF4.out.size)); have HB7 : Hid (Below w0.heap.size w0 w6) := HF4.out.trans (hb6.mono HF4.out.size); obtain ⟨g0, g1, g2, g3, g4, g5, g6, g7, g8, g9, g10, g11, g12, g13, g14, g15, g16⟩ := HBX.out w6 HB7.out; rw [k2] at g0; rw [HN1.out] at g5; rw [HN2.out] at g6; rw [HQ1.out] at g9; rw [HQ2.out] at g14; rw [HQ3.out] at g15; clear ho6 hb6))
      obtain ⟨va5, vc5, hv5, -⟩ := HO6.out.form
      obtain ⟨vl, hvl⟩ : ∃ q, (body m).length = q := ⟨_, rfl⟩
      rw [hvl] at hv5
      subst hv5
      clear hvl
      go_wp2_with fail
      go_ret
      exact ⟨_, rfl, HO6.out, HB6.out⟩
    · by_cases k4 : m.kind = 4
      · rw [k4] at c0
        obtain ⟨D, hD, hD1⟩ : ∃ D : Nat, m.code = D ∧ D < 256 := by
          have h1 := (ck_of HC.out).r
          unfold inR at h1
          rw [if_neg k1, if_neg k2, if_pos k4, wi_iff] at h1
          exact ⟨m.code.toNat, by omega, by omega⟩
        rw [hD] at c4
        have HBD : Hid (body m = big 1 D) := by
          show _ = _
          unfold body
          rw [if_neg k1, if_neg k2, if_pos k4, hD, Int.toNat_natCast]
        clear hD k1 k2 k4
        go_wp2_with fail
        refine (put_any w0.heap.size (.slice none 0 0) [] 1 D (by decide) (by omega) (by simp) w0 (Nat.le_refl _) (OwnL.nil _ _ _)).mono ?_
        rintro e w1 ⟨v1, rfl, ho1, hb1⟩
        have HO4 : Hid (OwnL E8 w.heap.size w1 v1 (body m)) := by
          rw [HBD.out, HBZ.out]
          rw [List.nil_append] at ho1
          exact ho1.mono hbn
        have HB4 : Hid (Below w.heap.size w w1) := HBW.out _ hb1
        clear ho1 hb1 c0 c1 c2 c3 c4 c5 c6 c7 c8 c9 c10 c11 c12 c13 c14 c15 c16
        obtain ⟨va5, vc5, rfl, -⟩ := HO4.out.form
        obtain ⟨vl, hvl⟩ : ∃ q, (body m).length = q := ⟨_, rfl⟩
        rw [hvl] at HO4
        rw [hvl]
        clear hvl
        go_wp2_with fail
        go_ret
        exact ⟨_, rfl, HO4.out, HB4.out⟩
      · have HBD : Hid (body m = []) := by
          show _ = _
          unfold body
          rw [if_neg k1, if_neg k2, if_neg k4]
        have k1b : (m.kind == 1) = false := by simpa using k1
        have k2b : (m.kind == 2) = false := by simpa using k2
        have k4b : (m.kind == 4) = false := by simpa using k4
        have HE : Hid (OwnL E8 w.heap.size w0 (.slice none 0 0) (body m)) := by rw [HBD.out]; exact OwnL.nil _ _ _
        clear k1 k2 k4
        go_wp2_with fail
        go_ret
        exact ⟨_, rfl, HE.out, HB0.out⟩
end Go.Proofs.Ytanboekdfdafmaa.Pv
