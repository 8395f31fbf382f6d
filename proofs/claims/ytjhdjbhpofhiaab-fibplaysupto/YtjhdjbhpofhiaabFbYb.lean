/- Set, of a table whose memory holds a tree. -/
import Derived.Test.YtjhdjbhpofhiaabFbYa
import Derived.Test.YtjhdjbhpofhiaabFbN
namespace Go.Proofs.Ytjhdjbhpofhiaab.Fb
open Go.Proofs.Ytjhdjbhpofhiaab.PM Go.Proofs.Ytjhdjbhpofhiaab
set_option linter.unusedVariables false

/-- what Set answers -/
def setErr (ad len way : Int) : Int := if vld ad len = false then 3 else if way < 1 ∨ 65535 < way then 2 else 0
/-- what Set makes of the tree -/
def setT (t : TrM.Tr) (ad len way : Int) : TrM.Tr := if setErr ad len way = 0 then TrM.ins t ad len way else t
theorem Step.nil {ms : List Int} {made : Int} {fr : List Int} {t : TrM.Tr} (h : Fit ms made fr t) : Step ms made t t [] made fr := ⟨h, fun j hj => absurd hj (by simp), by simp, by simp, ⟨by omega, by omega⟩, .inl rfl, fun _ => rfl⟩
theorem same_cov {a n m : Int} (h1 : vld a n = true) (h2 : vld a m = true) (h : n ≤ m) : cov a n a m = true := by
  rw [TrM.cov_iff]; exact ⟨(vld_iff a m).1 h2, h, (vld_iff a n).1 h1, by omega, by have := psz_pos n; omega⟩

/-- a change of a table whose memory holds a tree -/
def DidT (base bt : Nat) (o1 o2 : Option Nat) (w : World) (ms : List Int) (made : Int) (t t' : TrM.Tr) (err : Int) (e : Ending) (w' : World) : Prop :=
  ∃ ws made' fr', Did base bt o1 o2 w ws err (putsP ms ws) made' fr' e w' ∧ Step ms made t t' ws made' fr'

theorem set_any (base bt : Nat) (ms : List Int) (made : Int) (fr : List Int) (o1 o2 : Option Nat) (t : TrM.Tr) (hfit : Fit ms made fr t) (m1 : made + 2 < 4294967296) (ad len way : Int) (a0 : 0 ≤ ad) (a1 : ad < 4294967296) (w : World) (h : Tab base w bt ms made fr o1 o2) :
    Calls Try.prog 47 #[.pointer (some ⟨bt, 0, none⟩), .agg #[.int .u32 ad, .int .i64 len], .int .i64 way] w fun e w' => DidT base bt o1 o2 w ms made t (setT t ad len way) (setErr ad len way) e w' := by
  have m0 := hfit.m0
  have hlen := hfit.len
  have hms : ms.length ≤ 17179869184 := by omega
  cases hv : vld ad len with
  | false =>
    have e1 : setErr ad len way = 3 := by unfold setErr; rw [if_pos hv]
    have e2 : setT t ad len way = t := by unfold setT; rw [e1, if_neg (by decide)]
    rw [e1, e2]
    exact (set_bits base bt ms made fr o1 o2 ad len way a0 a1 hv w h).mono fun e w' hd => ⟨[], made, fr, hd, Step.nil hfit⟩
  | true =>
    by_cases hwb : way < 1 ∨ 65535 < way
    · have e1 : setErr ad len way = 2 := by unfold setErr; rw [if_neg (by rw [hv]; decide), if_pos hwb]
      have e2 : setT t ad len way = t := by unfold setT; rw [e1, if_neg (by decide)]
      rw [e1, e2]
      rcases hwb with hw | hw
      · exact (set_low base bt ms made fr o1 o2 ad len way a0 a1 hv hw w h).mono fun e w' hd => ⟨[], made, fr, hd, Step.nil hfit⟩
      · exact (set_high base bt ms made fr o1 o2 ad len way a0 a1 hv hw w h).mono fun e w' hd => ⟨[], made, fr, hd, Step.nil hfit⟩
    · have w1 : 1 ≤ way := by omega
      have w2 : way ≤ 65535 := by omega
      have e1 : setErr ad len way = 0 := by unfold setErr; rw [if_neg (by rw [hv]; decide), if_neg hwb]
      have e2 : setT t ad len way = TrM.ins t ad len way := by unfold setT; rw [e1, if_pos rfl]
      rw [e1, e2]
      have hnd := hfit.nd
      rw [List.nodup_append] at hnd
      obtain ⟨F, lk, la, s, C, rest, hC⟩ := seek_ctx ms ad len hv t 0 0 0 0 hfit.rp hfit.wf (root_all hfit.wf) (vld_lt hv a0 a1) hnd.1 (.inl rfl)
      obtain ⟨k0, k1, k2⟩ := hC.lk0 hfit
      obtain ⟨lk, rfl⟩ := Int.eq_ofNat_of_zero_le k0
      have hlk : lk < 17179869184 := by omega
      have hrun := hC.run
      obtain ⟨th, hth⟩ : ∃ x, wd ms (lk : Int) = x := ⟨_, rfl⟩
      cases s with
      | nil =>
        have hz : wd ms (lk : Int) = 0 := hC.rp
        exact (set_new base bt ms made fr o1 o2 m0 (by omega) hms ad len way a0 a1 hv w1 w2 F lk la hlk hrun hz _ rfl w h).mono fun e w' hd => ⟨_, _, _, hd, step_new hfit hC hv a0 a1 w1 w2 rfl 0 0 .nil .nil (.inl ⟨rfl, rfl, hz.symm, rfl⟩) rfl⟩
      | node b m u hh l r =>
        have hrp := hC.rp
        rw [hth] at hrp
        obtain ⟨⟨g0, g1, g2, g3, g4, g5⟩, hl, hr⟩ := hrp
        have hz : th ≠ 0 := by omega
        have hhd := head_len m u g3 g4
        have hvb : vld b m = true := hC.wf.1
        have hbb := hC.wf.2.1
        have hm32 := ((vld_iff b m).1 hvb).2.1
        by_cases he : b = ad ∧ m = len
        · obtain ⟨rfl, rfl⟩ := he
          have hi : TrM.ins (.node b m u hh l r) b m way = .node b m way true l r := by unfold TrM.ins; rw [if_pos ⟨rfl, rfl⟩]
          by_cases hw : u = way
          · subst hw
            have hh1 : hh = true := g5.2 (by omega)
            subst hh1
            have : TrM.ins t b m u = t := by rw [hC.ins, hi]; exact hC.is
            rw [this]
            exact (set_same base bt ms made fr o1 o2 m0 (by omega) hms b m u a0 a1 hv w1 w2 F lk la hlk hrun th _ _ _ hth hz rfl g2 rfl rfl (by rw [g1]; exact hhd.1) (by rw [g1]; exact hhd.2) w h).mono fun e w' hd => ⟨[], made, fr, hd, Step.nil hfit⟩
          · have hst : Step ms made t (TrM.ins t b m way) [((th * 4).toNat, m * 65536 + way)] made fr := by
              have e3 : TrM.ins t b m way = C (.node b m way true l r) := by rw [hC.ins, hi]
              rw [e3]
              exact step_turn hfit hC.toHole (by omega) w2 ⟨fun _ => by omega, fun _ => rfl⟩ hw hth (by rw [← e3]; exact TrM.wf_ins hfit.wf hv a0 a1) (by rw [← e3]; exact sl_ins hfit.sl)
            exact (set_turn base bt ms made fr o1 o2 m0 (by omega) hms b m way a0 a1 hv w1 w2 F lk la hlk hrun th _ u _ _ hth hz rfl g2 rfl rfl (by rw [g1]; exact hhd.1) (by rw [g1]; exact hhd.2) hw w h).mono fun e w' hd => ⟨_, _, _, hd, hst⟩
        · have c1 : cov b m ad len = false := by
            rcases hC.stop with e | ⟨b', m', u', h', l', r', e, hs⟩
            · cases e
            · cases e
              rcases hs with hs | hs
              · cases hc : cov b m ad len with
                | false => rfl
                | true => exact absurd (TrM.cov_eq hc hs) he
              · exact hs
          cases c2 : cov ad len b m with
          | true =>
            have hml : m ≠ len := fun e => he (by have := TrM.cov_eq c2 (by omega); exact ⟨this.1.symm, this.2.symm⟩)
            have hi : TrM.ins (.node b m u hh l r) ad len way = if TrM.sdI b len = 0 then .node ad len way true (.node b m u hh l r) .nil else .node ad len way true .nil (.node b m u hh l r) := by
              conv => lhs; unfold TrM.ins
              rw [if_neg he, if_neg (by rw [c1]; decide), if_pos c2]
            rcases sdI_01 b len with hs | hs
            · rw [if_pos (show TrM.sdI b len = 0 from hs)] at hi
              exact (set_over base bt ms made fr o1 o2 m0 (by omega) hms ad len way a0 a1 hv w1 w2 F lk la hlk hrun th _ b m u _ _ hth hz rfl g2 rfl rfl (by rw [g1]; exact hhd.1) (by rw [g1]; exact hhd.2) hml hm32 c2 0 hs th 0 (by rw [if_pos rfl]) (by rw [if_pos rfl]) _ rfl w h).mono fun e w' hd => ⟨_, _, _, hd, step_new hfit hC hv a0 a1 w1 w2 rfl th 0 _ _ (.inl ⟨rfl, rfl, hth.symm, rfl⟩) hi⟩
            · rw [if_neg (show ¬ TrM.sdI b len = 0 from by show ¬ sdI b len = 0; rw [hs]; decide)] at hi
              exact (set_over base bt ms made fr o1 o2 m0 (by omega) hms ad len way a0 a1 hv w1 w2 F lk la hlk hrun th _ b m u _ _ hth hz rfl g2 rfl rfl (by rw [g1]; exact hhd.1) (by rw [g1]; exact hhd.2) hml hm32 c2 1 hs 0 th (by rw [if_neg (by decide)]) (by rw [if_neg (by decide)]) _ rfl w h).mono fun e w' hd => ⟨_, _, _, hd, step_new hfit hC hv a0 a1 w1 w2 rfl 0 th _ _ (.inr ⟨rfl, rfl, rfl, hth.symm⟩) hi⟩
          | false =>
            have hba : b ≠ ad := by
              rintro rfl
              rcases Int.lt_or_le len m with h | h
              · rw [same_cov hv hvb (by omega)] at c2; cases c2
              · rw [same_cov hvb hv h] at c1; cases c1
            obtain ⟨⟨f0, f1, f2⟩, -, -, f3, f4, f5⟩ := TrM.shared_ok hv hvb a0 a1 hbb.1 hbb.2 c2 c1
            have f3' : sdI ad (TrM.shN ad b) ≠ sdI b (TrM.shN ad b) := f3
            obtain ⟨n, hn⟩ : ∃ n, spN made fr = n := ⟨_, rfl⟩
            obtain ⟨n2, hn2⟩ : ∃ n, spN (spM made fr) fr.dropLast = n := ⟨_, rfl⟩
            have h01 := sdI_01 ad (TrM.shN ad b)
            rcases sdI_01 b (TrM.shN ad b) with hs | hs
            · have hs2 : sdI ad (TrM.shN ad b) = 1 := by omega
              exact (set_fork base bt ms made fr o1 o2 m0 m1 hms ad len way a0 a1 hv w1 w2 F lk la hlk hrun th _ b m u _ _ hth hz rfl g2 rfl rfl (by rw [g1]; exact hhd.1) (by rw [g1]; exact hhd.2) hba hm32 c2 _ _ rfl rfl f4 f5 f0 (by omega) 0 1 hs hs2 n n2 hn hn2 th 0 th n (by rw [if_pos rfl]) (by rw [if_pos rfl]) (by rw [if_neg (by decide)]) (by rw [if_neg (by decide)]) w h).mono fun e w' hd => ⟨_, _, _, hd, step_fork hfit hC hv a0 a1 w1 w2 c1 c2 hn hn2 hth rfl rfl (.inl ⟨hs, rfl, rfl⟩)⟩
            · have hs2 : sdI ad (TrM.shN ad b) = 0 := by omega
              exact (set_fork base bt ms made fr o1 o2 m0 m1 hms ad len way a0 a1 hv w1 w2 F lk la hlk hrun th _ b m u _ _ hth hz rfl g2 rfl rfl (by rw [g1]; exact hhd.1) (by rw [g1]; exact hhd.2) hba hm32 c2 _ _ rfl rfl f4 f5 f0 (by omega) 1 0 hs hs2 n n2 hn hn2 0 th n th (by rw [if_neg (by decide)]) (by rw [if_neg (by decide)]) (by rw [if_pos rfl]) (by rw [if_pos rfl]) w h).mono fun e w' hd => ⟨_, _, _, hd, step_fork hfit hC hv a0 a1 w1 w2 c1 c2 hn hn2 hth rfl rfl (.inr ⟨hs, rfl, rfl⟩)⟩
end Go.Proofs.Ytjhdjbhpofhiaab.Fb
