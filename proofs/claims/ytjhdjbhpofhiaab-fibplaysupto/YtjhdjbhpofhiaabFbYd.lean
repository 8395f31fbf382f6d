/- Drop, of a table whose memory holds a tree. -/
import Derived.Test.YtjhdjbhpofhiaabFbYc
import Derived.Test.YtjhdjbhpofhiaabFbYb
import Derived.Test.YtjhdjbhpofhiaabFbP
namespace Go.Proofs.Ytjhdjbhpofhiaab.Fb
open Go.Proofs.Ytjhdjbhpofhiaab.PM Go.Proofs.Ytjhdjbhpofhiaab
set_option linter.unusedVariables false

/-- what Drop answers -/
def dropErr (t : TrM.Tr) (ad len : Int) : Int := if vld ad len = false then 3 else if (TrM.del t ad len).2 = true then 0 else 9
theorem few_of : ∀ (N : Nat) (l : List Int), l.Nodup → (∀ j ∈ l, 1 ≤ j ∧ j ≤ N) → l.length ≤ N
  | 0, [], _, _ => by simp
  | 0, x :: l, _, h => by have := h x (by simp); omega
  | N + 1, l, hn, h => by
    by_cases hm : ((N : Int) + 1) ∈ l
    · have hl := List.length_erase_of_mem hm
      have := few_of N (l.erase ((N : Int) + 1)) (hn.erase _) (fun j hj => by
        have hj2 := (List.Nodup.mem_erase_iff hn).1 hj
        have := h j hj2.2
        have := hj2.1
        omega)
      omega
    · have := few_of N l hn (fun j hj => by
        have := h j hj
        have : j ≠ (N : Int) + 1 := fun e => hm (e ▸ hj)
        omega)
      omega
theorem Fit.few {ms : List Int} {made : Int} {fr : List Int} {t : TrM.Tr} (h : Fit ms made fr t) : (fr.length : Int) ≤ made := by
  have hnd := h.nd
  rw [List.nodup_append] at hnd
  have m0 := h.m0
  have := few_of made.toNat fr hnd.2.1 (fun j hj => by have := h.rng j (List.mem_append_right _ hj); omega)
  omega
theorem Rp.zero {ms : List Int} {k : Int} {t : TrM.Tr} (h : Rp ms k t) : TrM.isNil t = true → t = .nil ∧ k = 0 := by
  cases t with
  | nil => intro _; exact ⟨rfl, h⟩
  | node b m u hh l r => intro e; cases e
theorem Rp.some {ms : List Int} {k : Int} {t : TrM.Tr} (h : Rp ms k t) : TrM.isNil t = false → k ≠ 0 := by
  cases t with
  | nil => intro e; cases e
  | node b m u hh l r => intro _; have := h.1.1; omega

set_option maxHeartbeats 1000000 in
theorem drop_any (base bt : Nat) (ms : List Int) (made : Int) (fr : List Int) (o1 o2 : Option Nat) (t : TrM.Tr) (hfit : Fit ms made fr t) (m1 : made < 4294967296) (ad len : Int) (a0 : 0 ≤ ad) (a1 : ad < 4294967296) (w : World) (h : Tab base w bt ms made fr o1 o2) :
    Calls Try.prog 46 #[.pointer (some ⟨bt, 0, none⟩), .agg #[.int .u32 ad, .int .i64 len]] w fun e w' => DidT base bt o1 o2 w ms made t (TrM.del t ad len).1 (dropErr t ad len) e w' := by
  have m0 := hfit.m0
  have hlen := hfit.len
  have hms : ms.length ≤ 17179869184 := by omega
  have hfew := hfit.few
  have hfl : (fr.length + 1) * 4 ≤ 140737488355328 := by omega
  have hfl2 : (fr.length + 2) * 4 ≤ 140737488355328 := by omega
  have none' : ∀ err, dropErr t ad len = err → TrM.del t ad len = (t, false) → ∀ e w', Did base bt o1 o2 w [] err ms made fr e w' → DidT base bt o1 o2 w ms made t (TrM.del t ad len).1 (dropErr t ad len) e w' := fun err he hd e w' hD => by
    rw [he, hd]; exact ⟨[], made, fr, hD, Step.nil hfit⟩
  cases hv : vld ad len with
  | false =>
    have e1 : dropErr t ad len = 3 := by unfold dropErr; rw [if_pos hv]
    have e2 : TrM.del t ad len = (t, false) := by
      cases t with
      | nil => rfl
      | node b m u hh l r =>
        have : cov b m ad len = false := by unfold cov; rw [hv]; rfl
        unfold TrM.del; rw [if_neg (by rw [this]; decide)]
    exact (drop_bits base bt ms made fr o1 o2 ad len a0 a1 hv w h).mono (none' 3 e1 e2)
  | true =>
    have hnd := hfit.nd
    rw [List.nodup_append] at hnd
    obtain ⟨F, lk, la, s, C, rest, hC⟩ := seek_ctx ms ad len hv t 0 0 0 0 hfit.rp hfit.wf (root_all hfit.wf) (vld_lt hv a0 a1) hnd.1 (.inl rfl)
    obtain ⟨k0, k1, k2⟩ := hC.lk0 hfit
    have hla : 0 ≤ la ∧ la ≤ 4 * made + 3 := by
      rcases hC.par with e | ⟨b2, m2, u2, hh2, o2', C2, rest2, hH, -⟩
      · have := (hC.first e).1; omega
      · obtain ⟨q0, q1, -⟩ := hH.lk0 hfit; exact ⟨q0, q1⟩
    obtain ⟨lk, rfl⟩ := Int.eq_ofNat_of_zero_le k0
    obtain ⟨la, rfl⟩ := Int.eq_ofNat_of_zero_le hla.1
    have hlk : lk < 17179869184 := by omega
    have hab : la < 17179869184 := by omega
    have hrun := hC.run
    have none9 : (TrM.del s ad len).2 = false → ∀ e w', Did base bt o1 o2 w [] 9 ms made fr e w' → DidT base bt o1 o2 w ms made t (TrM.del t ad len).1 (dropErr t ad len) e w' := fun hd => by
      have hd2 := hC.del0 hd
      exact none' 9 (by unfold dropErr; rw [if_neg (by rw [hv]; decide), hd2]; rfl) hd2
    have fine : ∀ x, TrM.del t ad len = (x, true) → ∀ ws fr', Step ms made t x ws made fr' → ∀ e w', Did base bt o1 o2 w ws 0 (putsP ms ws) made fr' e w' → DidT base bt o1 o2 w ms made t (TrM.del t ad len).1 (dropErr t ad len) e w' := fun x hd ws fr' hst e w' hD => by
      have e1 : dropErr t ad len = 0 := by unfold dropErr; rw [if_neg (by rw [hv]; decide), hd]; rfl
      rw [e1, hd]
      exact ⟨ws, made, fr', hD, hst⟩
    have wfs : ∀ x, TrM.del t ad len = (x, true) → TrM.WF x ∧ Sl x := fun x hd => by
      have g1 := (TrM.del_ok t ad len hfit.wf).1
      have g2 := sl_del (a := ad) (n := len) hfit.sl
      rw [hd] at g1 g2
      exact ⟨g1, g2⟩
    obtain ⟨th, hth⟩ : ∃ x, wd ms (lk : Int) = x := ⟨_, rfl⟩
    cases s with
    | nil =>
      have hz : wd ms (lk : Int) = 0 := hC.rp
      exact (drop_none base bt ms made fr o1 o2 ad len a0 a1 hv F lk la hlk hab hrun hz w h).mono (none9 rfl)
    | node b m u hh l r =>
      have hrp := hC.rp
      rw [hth] at hrp
      obtain ⟨⟨g0, g1, g2, g3, g4, g5⟩, hl, hr⟩ := hrp
      have hz : th ≠ 0 := by omega
      have hhd := head_len m u g3 g4
      have hvb : vld b m = true := hC.wf.1
      by_cases he : b = ad ∧ m = len
      · obtain ⟨rfl, rfl⟩ := he
        by_cases hu : u = 0
        · have hh0 : hh = false := by cases hb : hh with | false => rfl | true => exact absurd hu (g5.1 hb)
          exact (drop_o3 base bt ms made fr o1 o2 b m a0 a1 hv F lk la hlk hab hrun th _ u _ _ hth hz rfl g2 rfl rfl (by rw [g1]; exact hhd.1) (by rw [g1]; exact hhd.2) hu w h).mono (none9 (by
            unfold TrM.del; rw [if_pos (TrM.cov_self hv), if_pos ⟨rfl, rfl⟩, if_neg (by rw [hh0]; decide)]))
        · have hh1 : hh = true := g5.2 hu
          subst hh1
          have hds : TrM.del (.node b m u true l r) b m = (TrM.slim (.node b m 0 false l r), true) := by
            unfold TrM.del; rw [if_pos (TrM.cov_self hv), if_pos ⟨rfl, rfl⟩, if_pos rfl]
          obtain ⟨-, hlks, hnds⟩ := hC.apart hfit
          rw [hth] at hnds
          simp only [nums, List.nodup_cons, List.mem_append, not_or] at hnds
          obtain ⟨⟨tl, tr⟩, nlr⟩ := hnds
          rw [List.nodup_append] at nlr
          have subl : (nums ms (wd ms (th * 4 + 2)) l).Sublist (nums ms (wd ms (lk : Int)) (.node b m u true l r)) := by
            rw [hth]; exact (List.sublist_append_left _ _).trans (List.sublist_cons_self _ _)
          have subr : (nums ms (wd ms (th * 4 + 3)) r).Sublist (nums ms (wd ms (lk : Int)) (.node b m u true l r)) := by
            rw [hth]; exact (List.sublist_append_right _ _).trans (List.sublist_cons_self _ _)
          have inth : th ∈ nums ms (wd ms (lk : Int)) (.node b m u true l r) := by rw [hth]; simp [nums]
          cases hnl : TrM.isNil l with
          | false =>
            cases hnr : TrM.isNil r with
            | false =>
              have hsl : TrM.slim (.node b m 0 false l r) = .node b m 0 false l r := by rw [TrM.slim_eq, if_pos (.inr ⟨hnl, hnr⟩)]
              rw [hsl] at hds
              have hd := hC.del1 _ hds rfl hfit.sl
              obtain ⟨q1, q2⟩ := wfs _ hd
              exact (drop_turn base bt ms made fr o1 o2 hms b m a0 a1 hv F lk la hlk hab hrun th _ u _ _ hth hz rfl g2 rfl rfl (by rw [g1]; exact hhd.1) (by rw [g1]; exact hhd.2) hu (hl.some hnl) (hr.some hnr) w h).mono (fine _ hd _ _ (step_turn hfit hC.toHole (by decide) (by decide) (by simp) hu hth q1 q2))
            | true =>
              obtain ⟨rfl, hr0⟩ := hr.zero hnr
              have hsl : TrM.slim (.node b m 0 false l .nil) = l := by rw [TrM.slim_eq, if_neg (by simp [TrM.isNil]), if_pos hnl]
              rw [hsl] at hds
              have hd := hC.del1 _ hds hnl hfit.sl
              obtain ⟨q1, q2⟩ := wfs _ hd
              exact (drop_l1 base bt ms made fr o1 o2 hms hfl b m a0 a1 hv F lk la hlk hab hrun th _ u _ _ hth hz rfl g2 rfl rfl (by rw [g1]; exact hhd.1) (by rw [g1]; exact hhd.2) hu (hl.some hnl) hr0 w h).mono (fine _ hd _ _ (step_relink hfit hC.toHole hl subl [th] (fun j hj => by simp at hj; subst hj; exact ⟨inth, tl⟩) (by simp) q1 q2 (by rw [hth]; simp [nums]) (by simp)))
          | true =>
            obtain ⟨rfl, hl0⟩ := hl.zero hnl
            cases hnr : TrM.isNil r with
            | false =>
              have hsl : TrM.slim (.node b m 0 false .nil r) = r := by rw [TrM.slim_eq, if_neg (by simp [TrM.isNil]), if_neg (by simp [TrM.isNil])]
              rw [hsl] at hds
              have hd := hC.del1 _ hds hnr hfit.sl
              obtain ⟨q1, q2⟩ := wfs _ hd
              exact (drop_l0 base bt ms made fr o1 o2 hms hfl b m a0 a1 hv F lk la hlk hab hrun th _ u _ hth hz rfl g2 hl0 rfl (by rw [g1]; exact hhd.1) (by rw [g1]; exact hhd.2) hu (hr.some hnr) w h).mono (fine _ hd _ _ (step_relink hfit hC.toHole hr subr [th] (fun j hj => by simp at hj; subst hj; exact ⟨inth, tr⟩) (by simp) q1 q2 (by rw [hth]; simp [nums]) (by simp)))
            | true =>
              obtain ⟨rfl, hr0⟩ := hr.zero hnr
              have hsl : TrM.slim (.node b m 0 false .nil .nil) = .nil := by rw [TrM.slim_eq, if_neg (by simp [TrM.isNil]), if_neg (by simp [TrM.isNil])]
              rw [hsl] at hds
              have cut : TrM.del t b m = (C .nil, true) → Step ms made t (C .nil) [(lk, 0)] made (fr ++ [th]) := fun hd => by
                obtain ⟨q1, q2⟩ := wfs _ hd
                exact step_relink hfit hC.toHole (bl := 0) (c := .nil) rfl (List.nil_sublist _) [th] (fun j hj => by simp at hj; subst hj; exact ⟨inth, by simp [nums]⟩) (by simp) q1 q2 (by rw [hth]; simp [nums]) (by simp)
              by_cases hk0 : lk = 0
              · obtain ⟨-, e2, e3⟩ := hC.first (by rw [hk0]; rfl)
                have hd : TrM.del t b m = (C .nil, true) := by rw [← e2, e3]; exact hds
                exact (drop_top base bt ms made fr o1 o2 hms hfl b m a0 a1 hv F lk la hlk hab hrun th _ u _ _ hth hz rfl g2 hl0 hr0 (by rw [g1]; exact hhd.1) (by rw [g1]; exact hhd.2) hu rfl rfl hk0 w h).mono (fine _ hd _ _ (cut hd))
              · rcases hC.par with e | ⟨b2, m2, u2, hh2, o, C2, rest2, hH, hp1, hp2, hp3, hp4, hp5⟩
                · exact absurd e (by omega)
                · obtain ⟨hd, hor⟩ := hp5 hds hfit.sl
                  obtain ⟨k2, hk2⟩ : ∃ x, wd ms (la : Int) = x := ⟨_, rfl⟩
                  have hHr := hH.rp
                  rw [hk2] at hHr hp4
                  obtain ⟨-, -, hnds2⟩ := hH.apart hfit
                  rw [hk2] at hnds2
                  have m2b : 0 ≤ m2 ∧ m2 ≤ 32 := by have := (TrM.cov_iff _ _ _ _).1 hp2; exact ⟨this.2.2.1.1, this.2.2.1.2.1⟩
                  rcases sdI_01 b m2 with hs | hs
                  · have epl : plug b b2 m2 u2 hh2 o (.node b m u true .nil .nil) = .node b2 m2 u2 hh2 (.node b m u true .nil .nil) o := by unfold plug; rw [if_pos hs]
                    rw [epl] at hHr hnds2
                    obtain ⟨⟨y0, y1, y2, y3, y4, y5⟩, yl, yr⟩ := hHr
                    have yhd := head_len m2 u2 y3 y4
                    have elk : wd ms (k2 * 4 + 2) = th := by rw [← hth, hp4, hs]; rfl
                    by_cases hu2 : u2 = 0
                    · have hb2 : ¬ hh2 = true := fun e => y5.1 e hu2
                      rw [if_neg hb2] at hd
                      obtain ⟨q1, q2⟩ := wfs _ hd
                      simp only [nums, elk, List.append_nil, List.cons_append, List.nil_append, List.nodup_cons, List.mem_cons, not_or] at hnds2
                      obtain ⟨⟨z1, z2⟩, z3, z4⟩ := hnds2
                      refine (drop_go0 base bt ms made fr o1 o2 hms hfl b m a0 a1 hv F lk la hlk hab hrun th _ u _ _ hth hz rfl g2 hl0 hr0 (by rw [g1]; exact hhd.1) (by rw [g1]; exact hhd.2) hu rfl rfl hk0 k2 _ b2 m2 u2 _ _ hk2 rfl y2 rfl rfl (by rw [y1]; exact yhd.1) (by rw [y1]; exact yhd.2) hfl2 m2b.2 hu2 hs w h).mono (fine _ hd _ _ ?_)
                      rw [List.append_assoc]
                      refine step_relink hfit hH yr ?_ [th, k2] ?_ ?_ q1 q2 (by rw [hk2, epl]; simp [nums, elk]) (by simp)
                      · rw [hk2, epl]; simp only [nums, elk, List.append_nil, List.cons_append, List.nil_append]
                        exact (List.sublist_cons_self _ _).trans (List.sublist_cons_self _ _)
                      · intro j hj
                        rw [hk2, epl]; simp only [nums, elk, List.append_nil, List.cons_append, List.nil_append]
                        simp at hj
                        rcases hj with rfl | rfl
                        · exact ⟨by simp, z3⟩
                        · exact ⟨by simp, z2⟩
                      · simp; exact fun e => z1 e.symm
                    · have hb2 : hh2 = true := y5.2 hu2
                      rw [if_pos hb2] at hd
                      exact (drop_keep base bt ms made fr o1 o2 hms hfl b m a0 a1 hv F lk la hlk hab hrun th _ u _ _ hth hz rfl g2 hl0 hr0 (by rw [g1]; exact hhd.1) (by rw [g1]; exact hhd.2) hu rfl rfl hk0 k2 _ b2 m2 u2 _ _ hk2 rfl y2 rfl rfl (by rw [y1]; exact yhd.1) (by rw [y1]; exact yhd.2) hu2 w h).mono (fine _ hd _ _ (cut hd))
                  · have epl : plug b b2 m2 u2 hh2 o (.node b m u true .nil .nil) = .node b2 m2 u2 hh2 o (.node b m u true .nil .nil) := by unfold plug; rw [if_neg (by rw [hs]; decide)]
                    rw [epl] at hHr hnds2
                    obtain ⟨⟨y0, y1, y2, y3, y4, y5⟩, yl, yr⟩ := hHr
                    have yhd := head_len m2 u2 y3 y4
                    have elk : wd ms (k2 * 4 + 3) = th := by rw [← hth, hp4, hs]; rfl
                    by_cases hu2 : u2 = 0
                    · have hb2 : ¬ hh2 = true := fun e => y5.1 e hu2
                      rw [if_neg hb2] at hd
                      obtain ⟨q1, q2⟩ := wfs _ hd
                      simp only [nums, elk, List.append_nil, List.nodup_cons, List.mem_append, List.mem_cons, List.not_mem_nil, or_false, not_or] at hnds2
                      obtain ⟨⟨z1, z2⟩, z3⟩ := hnds2
                      rw [List.nodup_append] at z3
                      refine (drop_go1 base bt ms made fr o1 o2 hms hfl b m a0 a1 hv F lk la hlk hab hrun th _ u _ _ hth hz rfl g2 hl0 hr0 (by rw [g1]; exact hhd.1) (by rw [g1]; exact hhd.2) hu rfl rfl hk0 k2 _ b2 m2 u2 _ _ hk2 rfl y2 rfl rfl (by rw [y1]; exact yhd.1) (by rw [y1]; exact yhd.2) hfl2 m2b.2 hu2 hs w h).mono (fine _ hd _ _ ?_)
                      rw [List.append_assoc]
                      refine step_relink hfit hH yl ?_ [th, k2] ?_ ?_ q1 q2 (by rw [hk2, epl]; simp [nums, elk]) (by simp)
                      · rw [hk2, epl]; simp only [nums, elk, List.append_nil]
                        exact (List.sublist_append_left _ _).trans (List.sublist_cons_self _ _)
                      · intro j hj
                        rw [hk2, epl]; simp only [nums, elk, List.append_nil]
                        simp at hj
                        rcases hj with rfl | rfl
                        · exact ⟨by simp, fun hm => z3.2.2 _ hm _ (by simp) rfl⟩
                        · exact ⟨by simp, z1⟩
                      · simp; exact fun e => z2 e.symm
                    · have hb2 : hh2 = true := y5.2 hu2
                      rw [if_pos hb2] at hd
                      exact (drop_keep base bt ms made fr o1 o2 hms hfl b m a0 a1 hv F lk la hlk hab hrun th _ u _ _ hth hz rfl g2 hl0 hr0 (by rw [g1]; exact hhd.1) (by rw [g1]; exact hhd.2) hu rfl rfl hk0 k2 _ b2 m2 u2 _ _ hk2 rfl y2 rfl rfl (by rw [y1]; exact yhd.1) (by rw [y1]; exact yhd.2) hu2 w h).mono (fine _ hd _ _ (cut hd))
      · have c1 : cov b m ad len = false := by
          rcases hC.stop with e | ⟨b', m', u', h', l', r', e, hs⟩
          · cases e
          · cases e
            rcases hs with hs | hs
            · cases hc : cov b m ad len with
              | false => rfl
              | true => exact absurd (TrM.cov_eq hc hs) he
            · exact hs
        have hd0 : (TrM.del (.node b m u hh l r) ad len).2 = false := by unfold TrM.del; rw [if_neg (by rw [c1]; decide)]
        by_cases hb : b = ad
        · have hm : m ≠ len := fun e => he ⟨hb, e⟩
          exact (drop_o2 base bt ms made fr o1 o2 ad len a0 a1 hv F lk la hlk hab hrun th _ b m u _ _ hth hz rfl g2 rfl rfl (by rw [g1]; exact hhd.1) (by rw [g1]; exact hhd.2) hm w h).mono (none9 hd0)
        · exact (drop_o1 base bt ms made fr o1 o2 ad len a0 a1 hv F lk la hlk hab hrun th _ b m u _ _ hth hz rfl g2 rfl rfl (by rw [g1]; exact hhd.1) (by rw [g1]; exact hhd.2) hb w h).mono (none9 hd0)
end Go.Proofs.Ytjhdjbhpofhiaab.Fb
