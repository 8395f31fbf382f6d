/- What attributes tell: readAttributes. -/
import Derived.Test.YtanboekdfdafmaaPwE
namespace Go.Proofs.Ytanboekdfdafmaa.Pv
open Go.ChangeShapes Go.WideShapes Go.ChangeAt Go.RowKit Go.Joins Go.Proofs.Ytanboekdfdafmaa.PM Go.Proofs.Ytanboekdfdafmaa.Ask Go.Proofs.Ytanboekdfdafmaa.Ge
set_option linter.unusedVariables false

theorem Kr2.below {K bt bv : Nat} {w w' : World} (h : Kr2 w bt bv w') (h1 : K ≤ bt) (h2 : K ≤ bv) (hw : K ≤ w.heap.size) : Below K w w' := ⟨h.str.os, h.str.tape, h.str.output, h.str.size, fun b hb => h.block b (Nat.lt_of_lt_of_le hb hw) (by omega) (by omega)⟩
theorem Pce.take {M : Nat} {w : World} {a : Option Addr} {n c : Nat} {xs : List Nat} (h : Pce M w a n c xs) (k : Nat) (hk : k ≤ n) : Pce M w a k k (xs.take k) :=
  ⟨⟨h.p.l.take k, fun e => by have := h.p.nil e; omega, by rw [List.length_take, h.p.len]; omega⟩, Nat.le_refl _, h.low, fun d hd => h.u8 d (List.mem_of_mem_take hd)⟩
theorem RB.same {bt : Nat} {t : Rt} {s : Sl} {w : World} (h : RB bt t s w) : RB bt t s ((((((((((w.setCell ⟨bt, 0, none⟩ (.int .u32 t.pa)).setCell ⟨bt, 1, none⟩ (.int .i64 t.pn)).setCell ⟨bt, 2, none⟩ (.slice s.p t.path.length s.pc)).setCell ⟨bt, 3, none⟩ (.int .i64 t.org)).setCell ⟨bt, 4, none⟩ (.int .i64 t.pref)).setCell ⟨bt, 5, none⟩ (.int .i64 t.med)).setCell ⟨bt, 6, none⟩ (.int .u32 t.next)).setCell ⟨bt, 7, none⟩ (.slice s.m t.marks.length s.mc)).setCell ⟨bt, 8, none⟩ (.slice s.c t.clus.length s.cc)).setCell ⟨bt, 9, none⟩ (.int .i64 t.auth)) := by
  refine RB.set (t := t) (s := s) ?_ 9 _ (by simp [rtL])
  refine RB.set (t := t) (s := s) ?_ 8 _ (by simp [rtL])
  refine RB.set (t := t) (s := s) ?_ 7 _ (by simp [rtL])
  refine RB.set (t := t) (s := s) ?_ 6 _ (by simp [rtL])
  refine RB.set (t := t) (s := s) ?_ 5 _ (by simp [rtL])
  refine RB.set (t := t) (s := s) ?_ 4 _ (by simp [rtL])
  refine RB.set (t := t) (s := s) ?_ 3 _ (by simp [rtL])
  refine RB.set (t := t) (s := s) ?_ 2 _ (by simp [rtL])
  refine RB.set (t := t) (s := s) ?_ 1 _ (by simp [rtL])
  exact RB.set (t := t) (s := s) h 0 _ (by simp [rtL])
theorem attrsR_short {r : List Nat} {last : Nat} {t : Rt} {kn : Nat} (h0 : 0 < r.length) (hx : rpiece (r.drop 1) = none) : attrsR last t kn r = none := by rw [attrsR_cons _ _ _ h0, hx]
theorem attrsR_low {r v r2 : List Nat} {last kd : Nat} {t : Rt} {kn : Nat} (h0 : 0 < r.length) (hk : num (r.take 1) = kd) (hx : rpiece (r.drop 1) = some (v, r2)) (hl : kd ≤ last) : attrsR last t kn r = none := by subst hk; rw [attrsR_cons _ _ _ h0, hx]; dsimp only; rw [if_pos hl]
theorem attrsR_pass {r v r2 : List Nat} {last kd : Nat} {t : Rt} {kn : Nat} (h0 : 0 < r.length) (hk : num (r.take 1) = kd) (hx : rpiece (r.drop 1) = some (v, r2)) (hl : ¬ kd ≤ last) (hp : passed kd = true) : attrsR last t kn r = attrsR kd t kn r2 := by subst hk; rw [attrsR_cons _ _ _ h0, hx]; dsimp only; rw [if_neg hl, if_pos hp]
theorem attrsR_bad {r v r2 : List Nat} {last kd : Nat} {t : Rt} {kn : Nat} (h0 : 0 < r.length) (hk : num (r.take 1) = kd) (hx : rpiece (r.drop 1) = some (v, r2)) (hl : ¬ kd ≤ last) (hp : passed kd = false) (hs : setA t kd v = none) : attrsR last t kn r = none := by subst hk; rw [attrsR_cons _ _ _ h0, hx]; dsimp only; rw [if_neg hl, hp, if_neg (by decide), hs]
theorem attrsR_set {r v r2 : List Nat} {last kd : Nat} {t t2 : Rt} {kn : Nat} (h0 : 0 < r.length) (hk : num (r.take 1) = kd) (hx : rpiece (r.drop 1) = some (v, r2)) (hl : ¬ kd ≤ last) (hp : passed kd = false) (hs : setA t kd v = some t2) : attrsR last t kn r = attrsR kd t2 r2.length r2 := by subst hk; rw [attrsR_cons _ _ _ h0, hx]; dsimp only; rw [if_neg hl, hp, if_neg (by decide), hs]
def sZ : Sl := ⟨none, 0, none, 0, none, 0, none, 0, none, 0⟩
theorem ro_new (N : Nat) (w : World) : RO N w rtZ sZ := ⟨OwnL.nil _ _ _, OwnL.nil _ _ _, OwnL.nil _ _ _, dis3.2 ⟨(fun _ e => by cases e), (fun _ e => by cases e), (fun _ e => by cases e)⟩, by decide, by decide⟩
/-- what readAttributes leaves -/
def AtPost (M : Nat) (w : World) (ats : List Nat) (o : Option (Rt × Nat)) (e : Ending) (w' : World) : Prop :=
  match o with
  | none => e = pan ∧ Below w.heap.size w w'
  | some (t, kn) => ∃ s ka k kc, e = .returned (.tuple #[rtV t s, .slice ka k kc]) ∧ RO w.heap.size w' t s ∧ Pce M w' ka k kc (ats.take (ats.length - kn)) ∧ Below w.heap.size w w'
/-- within the loop -/
structure AtI (M : Nat) (w : World) (bt br N1 : Nat) (ats : List Nat) (r : List Nat) (t : Rt) (s : Sl) (last kn : Nat) (W : World) (ar : Option Addr) (cr : Nat) (ka : Option Addr) (k kc : Nat) : Prop where
  rd : Rdr M W br ar r.length cr r
  b : RB bt t s W
  o : RO N1 W t s
  bel : Below w.heap.size w W
  kp : Pce M W ka k kc (ats.take (ats.length - kn))
  so : attrsR 0 rtZ ats.length ats = attrsR last t kn r
  n1 : N1 ≤ W.heap.size
  l256 : last < 256
  le : r.length ≤ ats.length
set_option maxRecDepth 100000 in
set_option maxHeartbeats 8000000 in
theorem rattrs_any (M : Nat) (va : Option Addr) (L cap : Nat) (ats : List Nat) (hbig : L ≤ 1048576) (w : World) (hm : M ≤ w.heap.size) (h : Pce M w va L cap ats) :
    Calls Try.prog 83 #[.slice va L cap] w (AtPost M w ats (attrsR 0 rtZ ats.length ats)) := by
  have H : Hid (Pce M w va L cap ats) := h
  have HL : Hid (ats.length = L) := h.p.len
  have hcap := h.cap
  clear h
  go_enter Try.func83, Try.ntmps83
  go_upto_region 1 with fail
  obtain ⟨w0, hw0⟩ : ∃ w0, w.alloc (Obj.cells #[.int .u32 0, .int .i64 0, .slice none 0 0, .int .i64 0, .int .i64 0, .int .i64 0, .int .u32 0, .slice none 0 0, .slice none 0 0, .int .i64 0] 52) = w0 := ⟨_, rfl⟩
  obtain ⟨bt, hbt⟩ : ∃ k, w.heap.size = k := ⟨_, rfl⟩
  have hb0 : Below w.heap.size w w0 := by rw [← hw0]; exact (Below.refl _ w).alloc (Nat.le_refl _) _
  have HB0 : Hid (RB bt rtZ sZ w0) := by show _ = _; rw [← hw0, ← hbt]; exact World.alloc_heap_new w _
  have hs0 : w0.heap.size = bt + 1 := by rw [← hw0, ← hbt]; simp
  rw [hw0, hbt]
  have HBL0 : Hid (Below w.heap.size w w0) := hb0
  have HBT : Hid (w.heap.size = bt) := hbt
  clear hw0 hb0
  have HS0 : Hid (w0.heap.size = bt + 1) := hs0
  clear hs0 hbt
  go_wp2_with fail
  obtain ⟨w1, hw1⟩ : ∃ w1, w0.alloc (Obj.cells #[.slice va L cap] 127) = w1 := ⟨_, rfl⟩
  obtain ⟨br, hbr⟩ : ∃ k, w0.heap.size = k := ⟨_, rfl⟩
  obtain ⟨hr1, hb1, hs1⟩ := rdr_new (H.out.bel (HBL0.out.mono hm)) (Nat.le_trans hm HBL0.out.size) hw1
  rw [hw1, hbr]
  rw [hbr] at hr1 hs1
  have hbtr : bt < br := by have := HS0.out; omega
  have hwbt : w.heap.size ≤ bt := by rw [HBT.out]; omega
  obtain ⟨N1, hN1⟩ : ∃ k, w1.heap.size = k := ⟨_, rfl⟩
  have hbrN : br < N1 := by omega
  have hmb : M ≤ bt := by omega
  have HI : Hid (AtI M w bt br N1 ats ats rtZ sZ 0 L w1 va cap none 0 0) := by
    refine ⟨?_, ?_, ro_new _ _, HBL0.out.trans (hb1.mono HBL0.out.size), ?_, by rw [HL.out], by omega, by decide, Nat.le_refl _⟩
    · rw [HL.out]; exact hr1
    · exact HB0.out.blk (hb1.block bt (by omega))
    · rw [HL.out, Nat.sub_self]
      exact ⟨⟨⟨by simp, fun i hi => absurd hi (by simp)⟩, fun _ => ⟨rfl, rfl⟩, rfl⟩, Nat.le_refl _, (fun _ e => by cases e), (fun d hd => by simp at hd)⟩
  clear hw1 hbr hr1 hs1 hb1 hN1 HB0 HBL0 HS0
  go_loopw [3, 5] (fun kv lv wr => ∃ (r : List Nat) (t : Rt) (s : Sl) (last kn : Nat) (ar : Option Addr) (cr : Nat) (ka : Option Addr) (k kc : Nat), kv = .slice ka k kc ∧ lv = .int .i64 (last : Int) ∧ AtI M w bt br N1 ats r t s last kn wr ar cr ka k kc) (fun _ _ wr => rlen br wr)
  case atStart => exact ⟨ats, rtZ, sZ, 0, L, va, cap, none, 0, 0, rfl, rfl, HI.out⟩
  case round =>
    obtain ⟨r, t, s, last, kn, ar, cr, ka, k, kc, rfl, rfl, hi⟩ := hrel
    have HJ : Hid (AtI M w bt br N1 ats r t s last kn wr ar cr ka k kc) := hi
    obtain ⟨n, hn⟩ : ∃ n, r.length = n := ⟨_, rfl⟩
    have HN : Hid (r.length = n) := hn
    have hcell := hi.rd.cell
    rw [hn] at hcell
    have HRL : Hid (rlen br wr = n) := by have := hi.rd.rlen; rw [hn] at this; exact this
    have hl256 := hi.l256
    clear hi hn HI
    by_cases h0 : n = 0
    · subst h0
      have hrn : r = [] := List.length_eq_zero_iff.1 HN.out
      have g0 := HJ.out.b.fro 0
      have g1 := HJ.out.b.fro 1
      have g2 := HJ.out.b.fro 2
      have g3 := HJ.out.b.fro 3
      have g4 := HJ.out.b.fro 4
      have g5 := HJ.out.b.fro 5
      have g6 := HJ.out.b.fro 6
      have g7 := HJ.out.b.fro 7
      have g8 := HJ.out.b.fro 8
      have g9 := HJ.out.b.fro 9
      obtain ⟨c0, c1, c2, c3, c4, c5, c6, c7, c8, c9⟩ := HJ.out.b.rbox
      have HQ : Hid (AtPost M w ats (attrsR 0 rtZ ats.length ats) (.returned (.tuple #[rtV t s, .slice ka k kc])) ((((((((((wr.setCell ⟨bt, 0, none⟩ (.int .u32 t.pa)).setCell ⟨bt, 1, none⟩ (.int .i64 t.pn)).setCell ⟨bt, 2, none⟩ (.slice s.p t.path.length s.pc)).setCell ⟨bt, 3, none⟩ (.int .i64 t.org)).setCell ⟨bt, 4, none⟩ (.int .i64 t.pref)).setCell ⟨bt, 5, none⟩ (.int .i64 t.med)).setCell ⟨bt, 6, none⟩ (.int .u32 t.next)).setCell ⟨bt, 7, none⟩ (.slice s.m t.marks.length s.mc)).setCell ⟨bt, 8, none⟩ (.slice s.c t.clus.length s.cc)).setCell ⟨bt, 9, none⟩ (.int .i64 t.auth))) := by
        have hk : Kr wr bt ((((((((((wr.setCell ⟨bt, 0, none⟩ (.int .u32 t.pa)).setCell ⟨bt, 1, none⟩ (.int .i64 t.pn)).setCell ⟨bt, 2, none⟩ (.slice s.p t.path.length s.pc)).setCell ⟨bt, 3, none⟩ (.int .i64 t.org)).setCell ⟨bt, 4, none⟩ (.int .i64 t.pref)).setCell ⟨bt, 5, none⟩ (.int .i64 t.med)).setCell ⟨bt, 6, none⟩ (.int .u32 t.next)).setCell ⟨bt, 7, none⟩ (.slice s.m t.marks.length s.mc)).setCell ⟨bt, 8, none⟩ (.slice s.c t.clus.length s.cc)).setCell ⟨bt, 9, none⟩ (.int .i64 t.auth)) := (((((((((Kr.set _ _ _ _).trans (Kr.set _ _ _ _)).trans (Kr.set _ _ _ _)).trans (Kr.set _ _ _ _)).trans (Kr.set _ _ _ _)).trans (Kr.set _ _ _ _)).trans (Kr.set _ _ _ _)).trans (Kr.set _ _ _ _)).trans (Kr.set _ _ _ _)).trans (Kr.set _ _ _ _)
        show AtPost _ _ _ _ _ _
        rw [HJ.out.so, hrn, attrsR_nil]
        refine ⟨s, ka, k, kc, rfl, ?_, HJ.out.kp.bel (hk.below hmb HJ.out.rd.mlt), HJ.out.bel.trans (hk.below hwbt HJ.out.bel.size)⟩
        have h5 := HJ.out.o.blk (fun g hg hn5 hl => hk.block g hl (by omega))
        exact ⟨h5.p.mono (by omega), h5.m.mono (by omega), h5.c.mono (by omega), h5.d, h5.n0, h5.n1⟩
      unfold rtV at HQ
      obtain ⟨q1, hq1⟩ : ∃ n, t.path.length = n := ⟨_, rfl⟩
      obtain ⟨q2, hq2⟩ : ∃ n, t.marks.length = n := ⟨_, rfl⟩
      obtain ⟨q3, hq3⟩ : ∃ n, t.clus.length = n := ⟨_, rfl⟩
      rw [hq1] at c2 HQ
      rw [hq2] at c7 HQ
      rw [hq3] at c8 HQ
      clear hrn hq1 hq2 hq3
      go_wp2_with fail
      refine bodyPost_ret (v := .tuple #[.agg #[.int .u32 t.pa, .int .i64 t.pn, .slice s.p q1 s.pc, .int .i64 t.org, .int .i64 t.pref, .int .i64 t.med, .int .u32 t.next, .slice s.m q2 s.mc, .slice s.c q3 s.cc, .int .i64 t.auth], .slice ka k kc]) (by simp [results, Try.results83, go_sem, c0, c1, c2, c3, c4, c5, c6, c7, c8, c9]) rfl ?_
      exact HQ.out
    · have hr1 : (0 : Int) < (n : Int) := by omega
      have hpos : 0 < r.length := by rw [HN.out]; omega
      go_wp2_with fail
      refine (rnum_yes M br ar r.length cr r 1 hpos (by decide) wr HJ.out.rd).mono ?_
      rintro e w2 ⟨a2, c2, rfl, hr2, hk2⟩
      obtain ⟨kd, hkd⟩ : ∃ q, num (r.take 1) = q := ⟨_, rfl⟩
      have hkd8 : kd < 256 := by rw [← hkd]; exact num_lt1 HJ.out.rd.u8
      have HKD : Hid (num (r.take 1) = kd) := hkd
      rw [hkd]
      have HR2 : Hid (Rdr M w2 br a2 (r.length - 1) c2 (r.drop 1)) := hr2
      have HK2 : Hid (Kr wr br w2) := hk2
      clear hr2 hk2 hkd hcell
      go_wp2_with fail
      refine (rpiece_any M br a2 (r.length - 1) c2 (r.drop 1) w2 HR2.out).mono ?_
      intro e w3 hpost
      cases hx : rpiece (r.drop 1) with
      | none =>
        rw [hx] at hpost
        obtain ⟨rfl, hk3⟩ := hpost
        have HQ : Hid (AtPost M w ats (attrsR 0 rtZ ats.length ats) pan w3) := by
          show AtPost _ _ _ _ _ _
          rw [HJ.out.so, attrsR_short hpos hx]
          exact ⟨rfl, HJ.out.bel.trans ((HK2.out.trans hk3).below (by omega) HJ.out.bel.size)⟩
        unfold pan at HQ ⊢
        clear hk3 hx
        go_wp2_with fail
        exact ⟨rfl, HQ.out⟩
      | some q =>
        obtain ⟨v, r2⟩ := q
        rw [hx] at hpost
        obtain ⟨p3, a3, c3, rfl, hp3, hr3, hk3⟩ := hpost
        have HK3 : Hid (Kr wr br w3) := HK2.out.trans hk3
        have HP3 : Hid (Pce M w3 p3 v.length v.length v) := hp3
        have HR3 : Hid (Rdr M w3 br a3 r2.length c3 r2) := hr3
        have HB3 : Hid (Below w.heap.size w w3) := HJ.out.bel.trans (HK3.out.below (by omega) HJ.out.bel.size)
        have hl3 : r2.length < n ∧ v.length ≤ n := by
          obtain ⟨-, -, h5, -⟩ := rpiece_len hx
          rw [List.length_drop, HN.out] at h5
          omega
        have HX : Hid (rpiece (r.drop 1) = some (v, r2)) := hx
        have hn3 : N1 ≤ w3.heap.size := Nat.le_trans HJ.out.n1 HK3.out.str.size
        have hbl3 : bt < w3.heap.size := by omega
        have HRB3 : Hid (RB bt t s w3) := HJ.out.b.blk (HK3.out.block bt HJ.out.b.lt (by omega))
        have HRO3 : Hid (RO N1 w3 t s) := HJ.out.o.blk (fun g hg hn5 hl => HK3.out.block g hl (by omega))
        have HKP3 : Hid (Pce M w3 ka k kc (ats.take (ats.length - kn))) := HJ.out.kp.bel (HK3.out.below (by omega) HJ.out.rd.mlt)
        have hle3 : r2.length ≤ ats.length := by have := HJ.out.le; rw [HN.out] at this; omega
        clear hp3 hr3 hk3 HK2 HR2 hx
        obtain ⟨vl, hvl⟩ : ∃ l, v.length = l := ⟨_, rfl⟩
        rw [hvl] at HP3 hl3 ⊢
        by_cases hlast : kd ≤ last
        · have hli : (kd : Int) ≤ (last : Int) := by omega
          have HQ : Hid (AtPost M w ats (attrsR 0 rtZ ats.length ats) pan w3) := by
            show AtPost _ _ _ _ _ _
            rw [HJ.out.so, attrsR_low hpos HKD.out HX.out hlast]
            exact ⟨rfl, HB3.out⟩
          unfold pan at HQ
          go_wp2_with fail
          exact ⟨rfl, HQ.out⟩
        · have hli : ¬ (kd : Int) ≤ (last : Int) := by omega
          obtain ⟨ps, hps⟩ : ∃ b, passed kd = b := ⟨_, rfl⟩
          have HPS : Hid (wi (kd : Int) 128 191 = ps) := hps
          go_wp2_with fail
          refine (within_any (kd : Int) 128 191 ps HPS.out _).mono ?_
          rintro e w5 ⟨rfl, hw5⟩
          rw [hw5]
          clear hw5 w5
          cases ps with
          | true =>
            have HSO2 : Hid (attrsR 0 rtZ ats.length ats = attrsR kd t kn r2) := by show _ = _; rw [HJ.out.so, attrsR_pass hpos HKD.out HX.out hlast hps]
            have HJ3 : Hid (AtI M w bt br N1 ats r2 t s kd kn w3 a3 c3 ka k kc) := ⟨HR3.out, HRB3.out, HRO3.out, HB3.out, HKP3.out, HSO2.out, hn3, hkd8, hle3⟩
            have HRN : Hid (rlen br w3 = r2.length) := HR3.out.rlen
            clear hps
            go_wp2_with fail
            exact ⟨⟨r2, t, s, kd, kn, a3, c3, ka, k, kc, rfl, rfl, HJ3.out⟩, by rw [HRN.out, HRL.out]; omega⟩
          | false =>
            have HPF : Hid (passed kd = false) := hps
            clear hps
            go_wp2_with fail
            obtain ⟨w4, hw4⟩ : ∃ w4, w3.alloc (Obj.cells #[.slice p3 vl vl] 127) = w4 := ⟨_, rfl⟩
            obtain ⟨bv, hbv⟩ : ∃ k, w3.heap.size = k := ⟨_, rfl⟩
            obtain ⟨hr4, hb4, hs4⟩ := rdr_new HP3.out (by omega) hw4
            rw [hw4, hbv]
            rw [hbv] at hr4 hs4 hb4 hn3
            have HFR : Hid (∀ g, Rown s g → g ≠ bv) := fun g hg => by have := HRO3.out.rng g hg; omega
            have HR4 : Hid (Rdr M w4 br a3 r2.length c3 r2) := HR3.out.bel (hb4.mono (by omega)) (hb4.block br (by omega))
            have HB4 : Hid (Below w.heap.size w w4) := HB3.out.trans (hb4.mono (by omega))
            have HKP4 : Hid (Pce M w4 ka k kc (ats.take (ats.length - kn))) := HKP3.out.bel (hb4.mono (by omega))
            have HSA := seta_any M N1 bt t s bv p3 vl vl v (by have := HJ.out.le; rw [HN.out, HL.out] at this; omega) w4 (HRB3.out.blk (hb4.block bt (by omega))) (HRO3.out.blk (fun g _ _ hl => hb4.block g (by omega))) hr4 (by omega) (by omega) (by omega) HFR.out kd
            have hn4 : N1 ≤ w4.heap.size := by omega
            clear hw4 hbv hr4 hs4 hb4 HR3 HB3 HKP3 HRB3 HRO3
            refine HSA.mono ?_
            intro e w5 hpost
            clear HSA
            cases hs : setA t kd v with
            | none =>
              rw [hs] at hpost
              obtain ⟨rfl, hk5⟩ := hpost
              have HQ : Hid (AtPost M w ats (attrsR 0 rtZ ats.length ats) pan w5) := by
                show AtPost _ _ _ _ _ _
                rw [HJ.out.so, attrsR_bad hpos HKD.out HX.out hlast HPF.out hs]
                exact ⟨rfl, HB4.out.trans (hk5.below (by omega) (by omega) HB4.out.size)⟩
              unfold pan at HQ ⊢
              clear hk5 hs
              go_wp2_with fail
              exact ⟨rfl, HQ.out⟩
            | some t2 =>
              rw [hs] at hpost
              obtain ⟨s2, rfl, hb5, ho5, hk5⟩ := hpost
              have HB5 : Hid (Below w.heap.size w w5) := HB4.out.trans (hk5.below (by omega) (by omega) HB4.out.size)
              have hbM : Below M w4 w5 := hk5.below (by omega) (by omega) (by omega)
              have HR5 : Hid (Rdr M w5 br a3 r2.length c3 r2) := HR4.out.bel hbM (hk5.block br (by omega) (by omega) (by omega))
              obtain ⟨r2l, hr2l⟩ : ∃ l, r2.length = l := ⟨_, rfl⟩
              have hcell := HR5.out.cell
              rw [hr2l] at hcell hle3
              rw [HL.out] at hle3
              obtain ⟨sz, hsz⟩ : ∃ z, L - r2l = z := ⟨_, rfl⟩
              have HSZ : Hid (L - r2l = sz) := hsz
              have w9 : (L : Int) - (r2l : Int) = (sz : Int) := by omega
              have hsc : sz ≤ cap := by omega
              have hsci : (sz : Int) ≤ (cap : Int) := by omega
              have HP5 : Hid (Pce M w5 va sz sz (ats.take (ats.length - r2.length))) := by
                rw [hr2l, HL.out, hsz]
                exact (H.out.bel (HB5.out.mono hm)).take sz (by omega)
              have HJ5 : Hid (AtI M w bt br N1 ats r2 t2 s2 kd r2.length w5 a3 c3 va sz sz) := ⟨HR5.out, hb5, ho5, HB5.out, HP5.out, by rw [HJ.out.so, attrsR_set hpos HKD.out HX.out hlast HPF.out hs], Nat.le_trans hn4 hk5.str.size, hkd8, by rw [hr2l, HL.out]; exact hle3⟩
              have HRN : Hid (rlen br w5 = r2l) := by rw [← hr2l]; exact HR5.out.rlen
              have hlt5 : r2l < n := by rw [← hr2l]; exact hl3.1
              clear hb5 ho5 hk5 hs hr2l hsz hl3 hbM HR4 HB4 HKP4
              go_wp2_with fail
              exact ⟨⟨r2, t2, s2, kd, r2.length, a3, c3, va, sz, sz, rfl, rfl, HJ5.out⟩, by rw [HRN.out, HRL.out]; omega⟩
end Go.Proofs.Ytanboekdfdafmaa.Pv
