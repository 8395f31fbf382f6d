/- The document's ChooseLeft. -/
import Derived.Test.YtkahjibdmhaglaaChCb
import Derived.Test.YtkahjibdmhaglaaChV
namespace Go.Proofs.Ytkahjibdmhaglaa.Ch
open Go.ChangeShapes Go.WideShapes Go.ChangeAt Go.RowKit Go.Joins Go.Deep Go.Proofs.Ytkahjibdmhaglaa.Ge
set_option linter.unusedVariables false
set_option linter.unusedSimpArgs false

/-- a list of bools of the call's own -/
structure B1 (w : World) (n g : Nat) (F : Nat → Bool) (W : World) : Prop where
  own : OwnL EB w.heap.size W (.slice (some ⟨g, 0, none⟩) n n) (bl n F)
  bel : Below w.heap.size w W
section
variable {w W W' : World} {n g g' i : Nat} {F F' : Nat → Bool}
theorem B1.lt (h : B1 w n g F W) : g < W.heap.size ∧ w.heap.size ≤ g := ⟨h.own.at0.2.2.1, h.own.at0.2.2.2⟩
theorem B1.get (h : B1 w n g F W) (hi : i < n) : W.cell? ⟨g, i, none⟩ = some (.bool (F i)) := by
  have h5 := (eb_set h.own hi false).1
  rw [bl_getD F hi] at h5
  exact h5
theorem B1.fro (h : B1 w n g F W) (hi : i < n) : W.frozen? ⟨g, i, none⟩ = false := (eb_set h.own hi false).2.1
theorem B1.congr (h : B1 w n g F W) (he : ∀ j, j < n → F j = F' j) : B1 w n g F' W := ⟨by rw [← bl_congr he]; exact h.own, h.bel⟩
theorem B1.set (h : B1 w n g F W) (hi : i < n) (v : Bool) (he : ∀ j, j < n → (if j = i then v else F j) = F' j) : B1 w n g F' (W.setCell ⟨g, i, none⟩ (.bool v)) := by
  have h5 := (eb_set h.own hi v).2.2.1
  rw [bl_set, bl_congr he] at h5
  exact ⟨h5, h.bel.trans ((Ko.set W g i (.bool v)).below h.lt.2)⟩
theorem B1.other (h : B1 w n g F W) (hg : g ≠ g') (hl : w.heap.size ≤ g') (v : Value) : B1 w n g F (W.setCell ⟨g', i, none⟩ v) := ⟨h.own.blk (fun b e => (Ko.set W g' i v).block b (by cases e; exact hg)), h.bel.trans ((Ko.set W g' i v).below hl)⟩
theorem B1.nx (h : B1 w n g F W) (hb : Below W.heap.size W W') : B1 w n g F W' := ⟨h.own.bel hb, h.bel.trans (hb.mono h.bel.size)⟩
theorem B1.made (hb : Below w.heap.size w W) (hn : n ≤ 1000) (hr : W'.ownsRow w.heap.size EB.e EB.k (.slice (some ⟨W.heap.size, 0, none⟩) n n) n (EB.cs (List.replicate n false))) (hg : W.grownBy W' none) : B1 w n W.heap.size (fun _ => false) W' ∧ Below W.heap.size W W' := by
  have h1 : Below W.heap.size W W' := ⟨hg.os, hg.tape, hg.output, hg.size, fun k hk => hg.block k hk (fun e => by cases e)⟩
  refine ⟨⟨?_, hb.trans (h1.mono hb.size)⟩, h1⟩
  rw [← bl_false]
  exact ⟨by rw [List.length_replicate]; exact hr⟩
end
def LfPost (w : World) (n : Nat) (F : Nat → Bool) (e : Ending) (w' : World) : Prop := ∃ g, e = .returned (.slice (some ⟨g, 0, none⟩) n n) ∧ B1 w n g F w'
structure SI (w : World) (n : Nat) (X : Nat → Of) (ps : List Nat) (K : Nat) (sv inv : Value) (W : World) : Prop where
  at_ : ∃ c z gi : Nat, c ≤ K ∧ z = c + 2 ∧ sv = .int .i64 (z : Int) ∧ inv = .slice (some ⟨gi, 0, none⟩) n n ∧ B1 w n gi (inF (lfS X ps c)) W
set_option maxRecDepth 100000 in
set_option maxHeartbeats 32000000 in
theorem rleft_any (t K : Nat) (ht : (t = 7 ∧ K = 6) ∨ (t = 11 ∧ K = 9)) (la : Option Addr) (n lc : Nat) (xs : List (Of × Oa)) (hxn : xs.length = n) (hn : n ≤ 1000) (oa : Option Addr) (oc : Nat) (g : Nat → Bool) (w : World) (hx : Ofs w.heap.size w la xs) (ho : Lst EB w oa (bl n g)) : Calls Try.prog 36 #[.slice la n lc, .slice oa n oc, .int .i64 (t : Int)] w (LfPost w n (lfF (atO xs) (psP (atO xs) n g) t)) := by
  have HX : Hid (Ofs w.heap.size w la xs) := hx
  have HN : Hid (xs.length = n) := hxn
  have HO : Hid (Lst EB w oa (bl n g)) := ho
  have HT : Hid ((t = 7 ∧ K = 6) ∨ (t = 11 ∧ K = 9)) := ht
  obtain ⟨RF, hRF⟩ : ∃ y, lfF (atO xs) (psP (atO xs) n g) t = y := ⟨_, rfl⟩
  have HRF : Hid (lfF (atO xs) (psP (atO xs) n g) t = RF) := hRF
  rw [hRF]
  obtain ⟨i0, hi, hz0, hz1, hz2⟩ := info_of EB.hi
  clear hx hxn ho ht hRF
  go_enter Try.func36, Try.ntmps36
  go_wp2_with (at_make; refine wpList_make_full _ rfl _ _ 53 rfl w.heap.size 4 i0 _ 1 Try.underlying53 hi hz0 hz1 _ _ _ _ n rfl rfl rfl rfl (by rw [hz2]; show 1 * n ≤ _; omega) (by unfold maxLen; omega) (Nat.le_refl _) ?_)
  intro w1 hrow hgr
  rw [eb_rep] at hrow
  have HB1 : Hid (B1 w n w.heap.size (fun _ => false) w1) := (B1.made (Below.refl _ _) hn hrow hgr).1
  obtain ⟨g1, hg1⟩ : ∃ y, w.heap.size = y := ⟨_, rfl⟩
  have HG1 : Hid (w.heap.size = g1) := hg1
  rw [hg1] at HB1 ⊢
  obtain ⟨ps, hps⟩ : ∃ y, psP (atO xs) n g = y := ⟨_, rfl⟩
  have HPI : Hid (InN ps n) := by rw [← hps]; exact ps_in _ _ _
  have HPM : Hid (∀ i, i < n → inF ps i = (!g i && decide (0 ≤ (atO xs i).cost))) := by rw [← hps]; exact fun i hi => ps_mem hi
  rw [hps] at HRF
  clear hrow hgr hg1 hps
  go_wp2_with fail
  go_loopw [20, 8] (fun iv _ wr => ∃ i : Nat, i ≤ n ∧ iv = .int .i64 (i : Int) ∧ B1 w n g1 (fun j => if j < i then inF ps j else false) wr) (fun i _ _ => n - (intOf i).toNat)
  case atStart => exact ⟨0, by omega, rfl, HB1.out.congr (fun j hj => by rw [if_neg (by omega)])⟩
  case round =>
    obtain ⟨i, hi', rfl, hb⟩ := hrel
    obtain ⟨wz, hwz⟩ : ∃ y, wr = y := ⟨_, rfl⟩
    rw [hwz] at hb ⊢
    have HB : Hid (B1 w n g1 (fun j => if j < i then inF ps j else false) wz) := hb
    clear hb hwz HB1
    by_cases hlt : i < n
    case pos =>
      have hii : (i : Int) < (n : Int) := by omega
      have ii0 : (0 : Int) ≤ (i : Int) := by omega
      have hil : i < xs.length := by rw [HN.out]; exact hlt
      obtain ⟨ob, oo, rfl, hbl', k1⟩ := eb_get (HO.out.bel HB.out.bel) (i := i) (by rw [bl_len]; exact hlt)
      rw [bl_at] at k1
      obtain ⟨lb, lo, rfl, h1⟩ := (HX.out.bel HB.out.bel).at i hil
      have c12 : wz.cell? ⟨lb, lo + i * 13 + 12, none⟩ = some (.int .i64 xs[i].1.cost) := h1 12 (by decide)
      have e1 := HB.out.get hlt
      have e2 := HB.out.fro hlt
      obtain ⟨old, hold⟩ : ∃ y, (if i < i then inF ps i else false) = y := ⟨_, rfl⟩
      rw [hold] at e1
      obtain ⟨gv, hgv⟩ : ∃ y, g i = y := ⟨_, rfl⟩
      obtain ⟨ct, hct⟩ : ∃ y, xs[i].1.cost = y := ⟨_, rfl⟩
      rw [hgv] at k1
      rw [hct] at c12
      have HST : Hid (∀ v, v = (!gv && decide (0 ≤ ct)) → B1 w n g1 (fun j => if j < i + 1 then inF ps j else false) (wz.setCell ⟨g1, i, none⟩ (.bool v))) := fun v hv => by
        refine HB.out.set hlt v (fun j hj => ?_)
        by_cases e : j = i
        · subst e
          rw [if_pos rfl, if_pos (by omega), HPM.out j hlt, atO_is hil, hgv, hct]
          exact hv
        · rw [if_neg e]
          by_cases h5 : j < i
          · rw [if_pos h5, if_pos (by omega)]
          · rw [if_neg h5, if_neg (by omega)]
      clear h1 hold hgv hct hbl'
      cases gv
      case true =>
        go_wp2_with fail
        refine ⟨⟨i + 1, by omega, by simp, HST.out _ rfl⟩, ?_⟩
        simp [intOf]
        omega
      case false =>
        by_cases hc0 : 0 ≤ ct
        case pos =>
          have HS2 : Hid (B1 w n g1 (fun j => if j < i + 1 then inF ps j else false) (wz.setCell ⟨g1, i, none⟩ (.bool true))) := HST.out _ (by rw [decide_eq_true hc0]; rfl)
          go_wp2_with fail
          refine ⟨⟨i + 1, by omega, by simp, HS2.out⟩, ?_⟩
          simp [intOf]
          omega
        case neg =>
          have HS2 : Hid (B1 w n g1 (fun j => if j < i + 1 then inF ps j else false) (wz.setCell ⟨g1, i, none⟩ (.bool false))) := HST.out _ (by rw [decide_eq_false hc0]; rfl)
          go_wp2_with fail
          refine ⟨⟨i + 1, by omega, by simp, HS2.out⟩, ?_⟩
          simp [intOf]
          omega
    have hii : ¬ (i : Int) < (n : Int) := by omega
    have HB2 : Hid (B1 w n g1 (inF (lfS (atO xs) ps 0)) wz) := HB.out.congr (fun j hj => by rw [if_pos (by omega)]; rfl)
    clear HB
    go_wp2_with fail
    go_loopw [9, 7, 10, 11, 12] (fun sv inv _ _ _ wr => SI w n (atO xs) ps K sv inv wr) (fun s _ _ _ _ _ => K + 2 - (intOf s).toNat)
    case atStart => exact ⟨0, 2, g1, by omega, rfl, rfl, rfl, HB2.out⟩
    case round =>
      clear HB2 HG1
      obtain ⟨c, z, gi, hc, hz, rfl, rfl, hb⟩ := hrel
      obtain ⟨wz, hwz⟩ : ∃ y, wr = y := ⟨_, rfl⟩
      rw [hwz] at hb ⊢
      obtain ⟨f, hf⟩ : ∃ y, inF (lfS (atO xs) ps c) = y := ⟨_, rfl⟩
      have HF : Hid (inF (lfS (atO xs) ps c) = f) := hf
      rw [hf] at hb
      have HB : Hid (B1 w n gi f wz) := hb
      have HZ : Hid (z = c + 2) := hz
      clear hb hwz hf
      by_cases hck : c < K
      case neg =>
        by_cases h7 : t = 7
        case pos =>
          have hs1 : ¬ (z : Int) ≤ (t : Int) := by have := HT.out; omega
          have hs2 : ¬ (10 : Int) < (t : Int) := by omega
          have HE : Hid (LfPost w n RF (.returned (.slice (some ⟨gi, 0, none⟩) n n)) wz) := by
            refine ⟨gi, rfl, ?_⟩
            have e6 : c = 6 := by have := HT.out; omega
            have e7 : RF = f := by
              rw [← HRF.out, ← HF.out, h7, e6]
              rfl
            rw [e7]
            exact HB.out
          clear hz h7 hck
          go_wp2_with fail
          go_ret
          exact HE.out
        case neg =>
          have hs1 : (z : Int) ≤ (t : Int) := by have := HT.out; omega
          have hs2 : ¬ (z : Int) ≤ 10 := by have := HT.out; omega
          have hs3 : (10 : Int) < (t : Int) := by have := HT.out; omega
          have HRE : Hid (fsF f = RF) := by
            show _ = _
            have e6 : c = 9 := by have := HT.out; omega
            have e7 : t = 11 := by have := HT.out; omega
            rw [← HRF.out, ← HF.out, e7, e6]
            rfl
          clear hz h7 hck
          go_wp2_with fail
          go_loopw [101, 14, 13] (fun iv _ fv wr => ∃ i : Nat, i ≤ n ∧ iv = .int .i64 (i : Int) ∧ fv = .bool (anK f i) ∧ B1 w n gi (fun j => if j < i then fsF f j else f j) wr) (fun i _ _ _ => n - (intOf i).toNat)
          case atStart => exact ⟨0, by omega, rfl, rfl, HB.out.congr (fun j hj => by rw [if_neg (by omega)])⟩
          case round =>
            clear HB
            obtain ⟨i, hi', rfl, rfl, hb⟩ := hrel
            obtain ⟨wy, hwy⟩ : ∃ y, wr = y := ⟨_, rfl⟩
            rw [hwy] at hb ⊢
            have HB : Hid (B1 w n gi (fun j => if j < i then fsF f j else f j) wy) := hb
            clear hb hwy
            obtain ⟨av, hav⟩ : ∃ y, anK f i = y := ⟨_, rfl⟩
            have HAV : Hid (anK f i = av) := hav
            rw [hav]
            clear hav
            by_cases hlt : i < n
            case neg =>
              have hii : ¬ (i : Int) < (n : Int) := by omega
              have HE : Hid (LfPost w n RF (.returned (.slice (some ⟨gi, 0, none⟩) n n)) wy) := ⟨gi, rfl, HB.out.congr (fun j hj => by rw [if_pos (by omega), ← HRE.out])⟩
              go_wp2_with fail
              go_ret
              exact HE.out
            have hii : (i : Int) < (n : Int) := by omega
            have ii0 : (0 : Int) ≤ (i : Int) := by omega
            obtain ⟨v, hv⟩ : ∃ y, f i = y := ⟨_, rfl⟩
            have HV : Hid (f i = v) := hv
            have e1 := HB.out.get hlt
            have e2 := HB.out.fro hlt
            rw [if_neg (Nat.lt_irrefl i), hv] at e1
            have HST : Hid (∀ u, u = (v && !av) → B1 w n gi (fun j => if j < i + 1 then fsF f j else f j) (wy.setCell ⟨gi, i, none⟩ (.bool u))) := fun u hu => by
              refine HB.out.set hlt u (fun j hj => ?_)
              by_cases e : j = i
              · subst e
                rw [if_pos rfl, if_pos (by omega), hu, ← HV.out, ← HAV.out]
                rfl
              · rw [if_neg e]
                by_cases h5 : j < i
                · rw [if_pos h5, if_pos (by omega)]
                · rw [if_neg h5, if_neg (by omega)]
            have HAN : Hid (anK f (i + 1) = (av || (v && !av))) := by
              show (anK f i || (f i && !anK f i)) = _
              rw [HAV.out, HV.out]
            clear hv
            cases v
            case false =>
              cases av
              case false =>
                go_wp2_with fail
                refine ⟨⟨i + 1, by omega, by simp, by rw [HAN.out]; rfl, HST.out _ rfl⟩, ?_⟩
                simp [intOf]
                omega
              case true =>
                go_wp2_with fail
                refine ⟨⟨i + 1, by omega, by simp, by rw [HAN.out]; rfl, HST.out _ rfl⟩, ?_⟩
                simp [intOf]
                omega
            case true =>
              cases av
              case false =>
                go_wp2_with fail
                refine ⟨⟨i + 1, by omega, by simp, by rw [HAN.out]; rfl, HST.out _ rfl⟩, ?_⟩
                simp [intOf]
                omega
              case true =>
                go_wp2_with fail
                refine ⟨⟨i + 1, by omega, by simp, by rw [HAN.out]; rfl, HST.out _ rfl⟩, ?_⟩
                simp [intOf]
                omega
      have hs1 : (z : Int) ≤ (t : Int) := by have := HT.out; omega
      have hs2 : (z : Int) ≤ 10 := by have := HT.out; omega
      have HC : Hid (2 ≤ z ∧ z ≤ 10) := ⟨by omega, by have := HT.out; omega⟩
      have HNX : Hid (∀ j, svK (atO xs) f z j n = inF (lfS (atO xs) ps (c + 1)) j) := fun j => by rw [← HF.out, hz]; exact svK_surv (lfS_in HPI.out c) (c + 2) j
      clear hz
      go_wp2_with (at_make; refine wpList_make_full _ rfl _ _ 53 rfl w.heap.size 4 i0 _ 1 Try.underlying53 hi hz0 hz1 _ _ _ _ n rfl rfl rfl rfl (by rw [hz2]; show 1 * n ≤ _; omega) (by unfold maxLen; omega) (HB.out.bel.size) ?_)
      intro w2 hrow hgr
      rw [eb_rep] at hrow
      have hmk := B1.made HB.out.bel hn hrow hgr
      obtain ⟨gn, hgn⟩ : ∃ y, wz.heap.size = y := ⟨_, rfl⟩
      have HNE : Hid (gi ≠ gn ∧ w.heap.size ≤ gn) := ⟨by have := HB.out.lt; omega, by rw [← hgn]; exact HB.out.bel.size⟩
      have HB2 : Hid (B1 w n gn (fun _ => false) w2 ∧ B1 w n gi f w2) := ⟨by rw [← hgn]; exact hmk.1, HB.out.nx hmk.2⟩
      rw [hgn]
      clear hrow hgr hmk hgn HB
      go_wp2_with fail
      go_loopw [54, 11, 12] (fun iv _ _ wr => ∃ i : Nat, i ≤ n ∧ iv = .int .i64 (i : Int) ∧ B1 w n gn (fun j => if j < i then svK (atO xs) f z j n else false) wr ∧ B1 w n gi f wr) (fun i _ _ _ => n - (intOf i).toNat)
      case atStart => exact ⟨0, by omega, rfl, HB2.out.1.congr (fun j hj => by rw [if_neg (by omega)]), HB2.out.2⟩
      case round =>
        clear HB2
        obtain ⟨i, hi', rfl, hbn, hbi⟩ := hrel
        obtain ⟨wy, hwy⟩ : ∃ y, wr = y := ⟨_, rfl⟩
        rw [hwy] at hbn hbi ⊢
        have HN2 : Hid (B1 w n gn (fun j => if j < i then svK (atO xs) f z j n else false) wy) := hbn
        have HI2 : Hid (B1 w n gi f wy) := hbi
        clear hbn hbi hwy
        by_cases hlt : i < n
        case neg =>
          have hii : ¬ (i : Int) < (n : Int) := by omega
          have HS2 : Hid (B1 w n gn (inF (lfS (atO xs) ps (c + 1))) wy) := HN2.out.congr (fun j hj => by rw [if_pos (by omega)]; exact HNX.out j)
          have HZ1 : Hid (z + 1 = c + 1 + 2) := by show _ = _; have := HZ.out; omega
          have hcK : c + 1 ≤ K := by omega
          clear HN2 HI2
          go_wp2_with fail
          refine ⟨⟨c + 1, z + 1, gn, hcK, HZ1.out, by simp, rfl, HS2.out⟩, ?_⟩
          have := HZ.out
          simp [intOf]
          omega
        have hii : (i : Int) < (n : Int) := by omega
        have ii0 : (0 : Int) ≤ (i : Int) := by omega
        obtain ⟨vi, hvi⟩ : ∃ y, f i = y := ⟨_, rfl⟩
        have HVI : Hid (f i = vi) := hvi
        have e0 := HI2.out.get hlt
        rw [hvi] at e0
        have e1 := HN2.out.get hlt
        have e2 := HN2.out.fro hlt
        obtain ⟨old, hold⟩ : ∃ y, (if i < i then svK (atO xs) f z i n else false) = y := ⟨_, rfl⟩
        rw [hold] at e1
        have HS3 : Hid (B1 w n gn (fun j => if j < i then svK (atO xs) f z j n else if j = i then svK (atO xs) f z i 0 else false) (wy.setCell ⟨gn, i, none⟩ (.bool vi)) ∧ B1 w n gi f (wy.setCell ⟨gn, i, none⟩ (.bool vi))) := by
          refine ⟨HN2.out.set hlt vi (fun j hj => ?_), HI2.out.other HNE.out.1 HNE.out.2 _⟩
          by_cases e : j = i
          · subst e
            rw [if_pos rfl, if_neg (by omega), if_pos rfl]
            exact HVI.out.symm
          · rw [if_neg e]
            by_cases h5 : j < i
            · rw [if_pos h5, if_pos h5]
            · rw [if_neg h5, if_neg h5, if_neg e]
        clear hvi hold HN2 HI2
        go_wp2_with fail
        go_loopw [66, 12] (fun kv _ wr => ∃ k : Nat, k ≤ n ∧ kv = .int .i64 (k : Int) ∧ B1 w n gn (fun j => if j < i then svK (atO xs) f z j n else if j = i then svK (atO xs) f z i k else false) wr ∧ B1 w n gi f wr) (fun k _ _ => n - (intOf k).toNat)
        case atStart => exact ⟨0, by omega, rfl, HS3.out.1, HS3.out.2⟩
        case round =>
          clear HS3 e0 e1 e2
          obtain ⟨k, hk', rfl, hbn, hbi⟩ := hrel
          obtain ⟨wx, hwx⟩ : ∃ y, wr = y := ⟨_, rfl⟩
          rw [hwx] at hbn hbi ⊢
          have HN3 : Hid (B1 w n gn (fun j => if j < i then svK (atO xs) f z j n else if j = i then svK (atO xs) f z i k else false) wx) := hbn
          have HI3 : Hid (B1 w n gi f wx) := hbi
          clear hbn hbi hwx
          by_cases hkt : k < n
          case neg =>
            have hkk : ¬ (k : Int) < (n : Int) := by omega
            have HS4 : Hid (B1 w n gn (fun j => if j < i + 1 then svK (atO xs) f z j n else false) wx) := HN3.out.congr (fun j hj => by
              by_cases h5 : j < i
              · rw [if_pos h5, if_pos (by omega)]
              · by_cases e : j = i
                · subst e
                  rw [if_neg h5, if_pos rfl, if_pos (by omega), show k = n by omega]
                · rw [if_neg h5, if_neg e, if_neg (by omega)])
            clear HN3
            go_wp2_with fail
            refine ⟨⟨i + 1, by omega, by simp, HS4.out, HI3.out⟩, ?_⟩
            simp [intOf]
            omega
          have hkk : (k : Int) < (n : Int) := by omega
          have kk0 : (0 : Int) ≤ (k : Int) := by omega
          obtain ⟨vk, hvk⟩ : ∃ y, f k = y := ⟨_, rfl⟩
          have HVK : Hid (f k = vk) := hvk
          have hil : i < xs.length := by rw [HN.out]; exact hlt
          have hkl : k < xs.length := by rw [HN.out]; exact hkt
          obtain ⟨lb, lo, rfl, -⟩ := HX.out.at i hil
          obtain ⟨x, hx⟩ : ∃ y, xs[i].1 = y := ⟨_, rfl⟩
          obtain ⟨sx, hsx⟩ : ∃ y, xs[i].2 = y := ⟨_, rfl⟩
          obtain ⟨y, hy⟩ : ∃ y, xs[k].1 = y := ⟨_, rfl⟩
          obtain ⟨sy, hsy⟩ : ∃ y, xs[k].2 = y := ⟨_, rfl⟩
          have HXY : Hid (atO xs i = x ∧ atO xs k = y) := ⟨(atO_is hil).trans hx, (atO_is hkl).trans hy⟩
          have HW : Hid (∀ W, Below wx.heap.size wx W → W.cell? ⟨gi, i, none⟩ = some (.bool vi) ∧ W.cell? ⟨gi, k, none⟩ = some (.bool vk) ∧ (∀ j, j < OfK.k → W.cell? ⟨lb, lo + i * 13 + j, none⟩ = (ofL x sx)[j]?) ∧ (∀ j, j < OfK.k → W.cell? ⟨lb, lo + k * 13 + j, none⟩ = (ofL y sy)[j]?)) := fun W hW => by
            have h3 := HI3.out.nx hW
            have c1 := h3.get hlt
            have c2 := h3.get hkt
            rw [HVI.out] at c1
            rw [HVK.out] at c2
            have h4 := HX.out.bel h3.bel
            obtain ⟨b', o', q1, q2⟩ := h4.at i hil
            cases q1
            obtain ⟨b', o', q1, q3⟩ := h4.at k hkl
            cases q1
            rw [hx, hsx] at q2
            rw [hy, hsy] at q3
            exact ⟨c1, c2, fun j hj => q2 j hj, fun j hj => q3 j hj⟩
          have HPX : Hid (∀ W, Below wx.heap.size wx W → Lst EI W sx.p x.path ∧ Lst EI W sy.p y.path) := fun W hW => by
            have h4 := ((HX.out.bel (HI3.out.nx hW).bel).rd W (Below.refl _ _)).2
            have q2 := h4 _ (List.getElem_mem hil)
            have q3 := h4 _ (List.getElem_mem hkl)
            rw [hx, hsx] at q2
            rw [hy, hsy] at q3
            exact ⟨q2, q3⟩
          have HNK : Hid (svK (atO xs) f z i (k + 1) = if vi && vk && bt z x y then false else svK (atO xs) f z i k) := by
            show (if f i && f k && bt z (atO xs i) (atO xs k) then false else svK (atO xs) f z i k) = _
            rw [HVI.out, HVK.out, HXY.out.1, HXY.out.2]
          have HKP : Hid (∀ W, Below wx.heap.size wx W → svK (atO xs) f z i (k + 1) = svK (atO xs) f z i k → B1 w n gn (fun j => if j < i then svK (atO xs) f z j n else if j = i then svK (atO xs) f z i (k + 1) else false) W ∧ B1 w n gi f W) := fun W hW e => ⟨(HN3.out.nx hW).congr (fun j hj => by rw [e]), HI3.out.nx hW⟩
          have HKS : Hid (∀ W, Below wx.heap.size wx W → svK (atO xs) f z i (k + 1) = false → B1 w n gn (fun j => if j < i then svK (atO xs) f z j n else if j = i then svK (atO xs) f z i (k + 1) else false) (W.setCell ⟨gn, i, none⟩ (.bool false)) ∧ B1 w n gi f (W.setCell ⟨gn, i, none⟩ (.bool false)) ∧ (∃ old, W.cell? ⟨gn, i, none⟩ = some (.bool old)) ∧ W.frozen? ⟨gn, i, none⟩ = false) := fun W hW e => by
            have h3 := HN3.out.nx hW
            refine ⟨h3.set hlt false (fun j hj => ?_), (HI3.out.nx hW).other HNE.out.1 HNE.out.2 _, ⟨_, h3.get hlt⟩, h3.fro hlt⟩
            rw [e]
            by_cases e2 : j = i
            · subst e2
              rw [if_pos rfl, if_neg (by omega), if_pos rfl]
            · rw [if_neg e2, if_neg e2]
              by_cases h5 : j < i
              · rw [if_pos h5, if_pos h5]
              · rw [if_neg h5, if_neg h5, if_neg e2]
          clear hvk hx hsx hy hsy HN3 HI3 hil hkl
          go_upto_region 18 with fail
          obtain ⟨wz, hwz⟩ : ∃ y, wx = y := ⟨_, rfl⟩
          rw [hwz] at HW HPX HKP HKS ⊢
          clear hwz
          refine wp_region_held_drew (S := fun W => Below wz.heap.size wz W) (by kernel_rfl) (drew_bel wz) (fun hHeld => ?_)
          obtain ⟨wd, hwd⟩ : ∃ y, wz.drew = y := ⟨_, rfl⟩
          have HWD : Hid (Below wz.heap.size wz wd) := by rw [← hwd]; exact drew_bel wz
          rw [hwd] at hHeld ⊢
          clear hwd
          cases vi
          case false =>
            have HE : Hid (svK (atO xs) f z i (k + 1) = svK (atO xs) f z i k) := by show _ = _; rw [HNK.out]; rfl
            refine wpAnyH_take (i := 0) (v := .slice (some ⟨gi, 0, none⟩) n n) rfl (by kernel_rfl) (by kernel_rfl) (by kernel_rfl) (fun _ _ _ h => h) (Or.inl ⟨by rfl, ?_⟩) (by assumption) ?_
            case refine_1 => intro W hSw; go_simp; try rfl
            try simp only [Act.put, List.getElem_toArray, List.getElem_cons_zero, List.getElem_cons_succ, List.setIfInBounds_toArray, List.set_cons_zero, List.set_cons_succ]
            refine wpAnyH_take (i := 1) (v := .int .i64 (i : Int)) rfl (by kernel_rfl) (by kernel_rfl) (by kernel_rfl) (fun _ _ _ h => h) (Or.inl ⟨by rfl, ?_⟩) (by assumption) ?_
            case refine_1 => intro W hSw; go_simp; try rfl
            try simp only [Act.put, List.getElem_toArray, List.getElem_cons_zero, List.getElem_cons_succ, List.setIfInBounds_toArray, List.set_cons_zero, List.set_cons_succ]
            refine wpAnyH_take (i := 2) (v := .pointer (some ⟨gi, i, none⟩)) rfl (by kernel_rfl) (by kernel_rfl) (by kernel_rfl) (fun _ _ _ h => h) (Or.inl ⟨by rfl, ?_⟩) (by assumption) ?_
            case refine_1 => intro W hSw; go_simp; try rfl
            try simp only [Act.put, List.getElem_toArray, List.getElem_cons_zero, List.getElem_cons_succ, List.setIfInBounds_toArray, List.set_cons_zero, List.set_cons_succ]
            refine wpAnyH_take (i := 3) (v := .bool false) rfl (by kernel_rfl) (by kernel_rfl) (by kernel_rfl) (fun _ _ _ h => h) (Or.inl ⟨by rfl, ?_⟩) (by assumption) ?_
            case refine_1 => intro W hSw; have m0 := HW.out W hSw; have m1 := m0.1; have m2 := m0.2.1; clear m0; go_simp; try rfl
            try simp only [Act.put, List.getElem_toArray, List.getElem_cons_zero, List.getElem_cons_succ, List.setIfInBounds_toArray, List.set_cons_zero, List.set_cons_succ]
            refine wpAnyH_take (i := 4) (v := .bool false) rfl (by kernel_rfl) (by kernel_rfl) (by kernel_rfl) (fun _ _ _ h => h) (Or.inl ⟨by rfl, ?_⟩) (by assumption) ?_
            case refine_1 => intro W hSw; go_simp; try rfl
            try simp only [Act.put, List.getElem_toArray, List.getElem_cons_zero, List.getElem_cons_succ, List.setIfInBounds_toArray, List.set_cons_zero, List.set_cons_succ]
            refine wpAnyH_take (i := 5) (v := undef) rfl (by kernel_rfl) (by kernel_rfl) (by kernel_rfl) (fun _ _ _ h => h) (Or.inr ⟨by rfl, rfl⟩) (by assumption) ?_
            try simp only [Act.put, List.getElem_toArray, List.getElem_cons_zero, List.getElem_cons_succ, List.setIfInBounds_toArray, List.set_cons_zero, List.set_cons_succ]
            refine wpAnyH_take (i := 6) (v := undef) rfl (by kernel_rfl) (by kernel_rfl) (by kernel_rfl) (fun _ _ _ h => h) (Or.inr ⟨by rfl, rfl⟩) (by assumption) ?_
            try simp only [Act.put, List.getElem_toArray, List.getElem_cons_zero, List.getElem_cons_succ, List.setIfInBounds_toArray, List.set_cons_zero, List.set_cons_succ]
            refine wpAnyH_take (i := 7) (v := undef) rfl (by kernel_rfl) (by kernel_rfl) (by kernel_rfl) (fun _ _ _ h => h) (Or.inr ⟨by rfl, rfl⟩) (by assumption) ?_
            try simp only [Act.put, List.getElem_toArray, List.getElem_cons_zero, List.getElem_cons_succ, List.setIfInBounds_toArray, List.set_cons_zero, List.set_cons_succ]
            refine wpAnyH_take (i := 8) (v := undef) rfl (by kernel_rfl) (by kernel_rfl) (by kernel_rfl) (fun _ _ _ h => h) (Or.inr ⟨by rfl, rfl⟩) (by assumption) ?_
            try simp only [Act.put, List.getElem_toArray, List.getElem_cons_zero, List.getElem_cons_succ, List.setIfInBounds_toArray, List.set_cons_zero, List.set_cons_succ]
            refine wpAnyH_take (i := 9) (v := .bool false) rfl (by kernel_rfl) (by kernel_rfl) (by kernel_rfl) (fun _ _ _ h => h) (Or.inl ⟨by rfl, ?_⟩) (by assumption) ?_
            case refine_1 => intro W hSw; go_simp; try rfl
            try simp only [Act.put, List.getElem_toArray, List.getElem_cons_zero, List.getElem_cons_succ, List.setIfInBounds_toArray, List.set_cons_zero, List.set_cons_succ]
            refine wpAnyH_take (i := 10) (v := .bool false) rfl (by kernel_rfl) (by kernel_rfl) (by kernel_rfl) (fun _ _ _ h => h) (Or.inl ⟨by rfl, ?_⟩) (by assumption) ?_
            case refine_1 => intro W hSw; go_simp; try rfl
            try simp only [Act.put, List.getElem_toArray, List.getElem_cons_zero, List.getElem_cons_succ, List.setIfInBounds_toArray, List.set_cons_zero, List.set_cons_succ]
            refine wpAnyH_take (i := 11) (v := undef) rfl (by kernel_rfl) (by kernel_rfl) (by kernel_rfl) (fun _ _ _ h => h) (Or.inr ⟨by rfl, rfl⟩) (by assumption) ?_
            try simp only [Act.put, List.getElem_toArray, List.getElem_cons_zero, List.getElem_cons_succ, List.setIfInBounds_toArray, List.set_cons_zero, List.set_cons_succ]
            refine wpAnyH_take (i := 12) (v := undef) rfl (by kernel_rfl) (by kernel_rfl) (by kernel_rfl) (fun _ _ _ h => h) (Or.inr ⟨by rfl, rfl⟩) (by assumption) ?_
            try simp only [Act.put, List.getElem_toArray, List.getElem_cons_zero, List.getElem_cons_succ, List.setIfInBounds_toArray, List.set_cons_zero, List.set_cons_succ]
            refine wpAnyH_take (i := 13) (v := undef) rfl (by kernel_rfl) (by kernel_rfl) (by kernel_rfl) (fun _ _ _ h => h) (Or.inr ⟨by rfl, rfl⟩) (by assumption) ?_
            try simp only [Act.put, List.getElem_toArray, List.getElem_cons_zero, List.getElem_cons_succ, List.setIfInBounds_toArray, List.set_cons_zero, List.set_cons_succ]
            refine wpAnyH_take (i := 14) (v := undef) rfl (by kernel_rfl) (by kernel_rfl) (by kernel_rfl) (fun _ _ _ h => h) (Or.inr ⟨by rfl, rfl⟩) (by assumption) ?_
            try simp only [Act.put, List.getElem_toArray, List.getElem_cons_zero, List.getElem_cons_succ, List.setIfInBounds_toArray, List.set_cons_zero, List.set_cons_succ]
            refine wpAnyH_take (i := 15) (v := undef) rfl (by kernel_rfl) (by kernel_rfl) (by kernel_rfl) (fun _ _ _ h => h) (Or.inr ⟨by rfl, rfl⟩) (by assumption) ?_
            try simp only [Act.put, List.getElem_toArray, List.getElem_cons_zero, List.getElem_cons_succ, List.setIfInBounds_toArray, List.set_cons_zero, List.set_cons_succ]
            refine wpAnyH_take (i := 16) (v := undef) rfl (by kernel_rfl) (by kernel_rfl) (by kernel_rfl) (fun _ _ _ h => h) (Or.inr ⟨by rfl, rfl⟩) (by assumption) ?_
            try simp only [Act.put, List.getElem_toArray, List.getElem_cons_zero, List.getElem_cons_succ, List.setIfInBounds_toArray, List.set_cons_zero, List.set_cons_succ]
            refine wpAnyH_take (i := 17) (v := undef) rfl (by kernel_rfl) (by kernel_rfl) (by kernel_rfl) (fun _ _ _ h => h) (Or.inr ⟨by rfl, rfl⟩) (by assumption) ?_
            try simp only [Act.put, List.getElem_toArray, List.getElem_cons_zero, List.getElem_cons_succ, List.setIfInBounds_toArray, List.set_cons_zero, List.set_cons_succ]
            refine wpAnyH_take (i := 18) (v := undef) rfl (by kernel_rfl) (by kernel_rfl) (by kernel_rfl) (fun _ _ _ h => h) (Or.inr ⟨by rfl, rfl⟩) (by assumption) ?_
            try simp only [Act.put, List.getElem_toArray, List.getElem_cons_zero, List.getElem_cons_succ, List.setIfInBounds_toArray, List.set_cons_zero, List.set_cons_succ]
            refine wpAnyH_take (i := 19) (v := undef) rfl (by kernel_rfl) (by kernel_rfl) (by kernel_rfl) (fun _ _ _ h => h) (Or.inr ⟨by rfl, rfl⟩) (by assumption) ?_
            try simp only [Act.put, List.getElem_toArray, List.getElem_cons_zero, List.getElem_cons_succ, List.setIfInBounds_toArray, List.set_cons_zero, List.set_cons_succ]
            refine wpAnyH_take (i := 20) (v := undef) rfl (by kernel_rfl) (by kernel_rfl) (by kernel_rfl) (fun _ _ _ h => h) (Or.inr ⟨by rfl, rfl⟩) (by assumption) ?_
            try simp only [Act.put, List.getElem_toArray, List.getElem_cons_zero, List.getElem_cons_succ, List.setIfInBounds_toArray, List.set_cons_zero, List.set_cons_succ]
            refine wpAnyH_take (i := 21) (v := .bool false) rfl (by kernel_rfl) (by kernel_rfl) (by kernel_rfl) (fun _ _ _ h => h) (Or.inl ⟨by rfl, ?_⟩) (by assumption) ?_
            case refine_1 => intro W hSw; go_simp; try rfl
            try simp only [Act.put, List.getElem_toArray, List.getElem_cons_zero, List.getElem_cons_succ, List.setIfInBounds_toArray, List.set_cons_zero, List.set_cons_succ]
            refine wpAnyH_done (by kernel_rfl) ?_ _
            clear hHeld
            go_wp2_with fail
            refine ⟨⟨k + 1, by omega, by simp, (HKP.out wd HWD.out HE.out).1, (HKP.out wd HWD.out HE.out).2⟩, ?_⟩
            simp [intOf]
            omega
          case true =>
            cases vk
            case false =>
              have HE : Hid (svK (atO xs) f z i (k + 1) = svK (atO xs) f z i k) := by show _ = _; rw [HNK.out]; rfl
              refine wpAnyH_take (i := 0) (v := .slice (some ⟨gi, 0, none⟩) n n) rfl (by kernel_rfl) (by kernel_rfl) (by kernel_rfl) (fun _ _ _ h => h) (Or.inl ⟨by rfl, ?_⟩) (by assumption) ?_
              case refine_1 => intro W hSw; go_simp; try rfl
              try simp only [Act.put, List.getElem_toArray, List.getElem_cons_zero, List.getElem_cons_succ, List.setIfInBounds_toArray, List.set_cons_zero, List.set_cons_succ]
              refine wpAnyH_take (i := 1) (v := .int .i64 (i : Int)) rfl (by kernel_rfl) (by kernel_rfl) (by kernel_rfl) (fun _ _ _ h => h) (Or.inl ⟨by rfl, ?_⟩) (by assumption) ?_
              case refine_1 => intro W hSw; go_simp; try rfl
              try simp only [Act.put, List.getElem_toArray, List.getElem_cons_zero, List.getElem_cons_succ, List.setIfInBounds_toArray, List.set_cons_zero, List.set_cons_succ]
              refine wpAnyH_take (i := 2) (v := .pointer (some ⟨gi, i, none⟩)) rfl (by kernel_rfl) (by kernel_rfl) (by kernel_rfl) (fun _ _ _ h => h) (Or.inl ⟨by rfl, ?_⟩) (by assumption) ?_
              case refine_1 => intro W hSw; go_simp; try rfl
              try simp only [Act.put, List.getElem_toArray, List.getElem_cons_zero, List.getElem_cons_succ, List.setIfInBounds_toArray, List.set_cons_zero, List.set_cons_succ]
              refine wpAnyH_take (i := 3) (v := .bool true) rfl (by kernel_rfl) (by kernel_rfl) (by kernel_rfl) (fun _ _ _ h => h) (Or.inl ⟨by rfl, ?_⟩) (by assumption) ?_
              case refine_1 => intro W hSw; have m0 := HW.out W hSw; have m1 := m0.1; have m2 := m0.2.1; clear m0; go_simp; try rfl
              try simp only [Act.put, List.getElem_toArray, List.getElem_cons_zero, List.getElem_cons_succ, List.setIfInBounds_toArray, List.set_cons_zero, List.set_cons_succ]
              refine wpAnyH_take (i := 4) (v := .bool true) rfl (by kernel_rfl) (by kernel_rfl) (by kernel_rfl) (fun _ _ _ h => h) (Or.inl ⟨by rfl, ?_⟩) (by assumption) ?_
              case refine_1 => intro W hSw; go_simp; try rfl
              try simp only [Act.put, List.getElem_toArray, List.getElem_cons_zero, List.getElem_cons_succ, List.setIfInBounds_toArray, List.set_cons_zero, List.set_cons_succ]
              refine wpAnyH_take (i := 5) (v := .slice (some ⟨gi, 0, none⟩) n n) rfl (by kernel_rfl) (by kernel_rfl) (by kernel_rfl) (fun _ _ _ h => h) (Or.inl ⟨by rfl, ?_⟩) (by assumption) ?_
              case refine_1 => intro W hSw; go_simp; try rfl
              try simp only [Act.put, List.getElem_toArray, List.getElem_cons_zero, List.getElem_cons_succ, List.setIfInBounds_toArray, List.set_cons_zero, List.set_cons_succ]
              refine wpAnyH_take (i := 6) (v := .int .i64 (k : Int)) rfl (by kernel_rfl) (by kernel_rfl) (by kernel_rfl) (fun _ _ _ h => h) (Or.inl ⟨by rfl, ?_⟩) (by assumption) ?_
              case refine_1 => intro W hSw; go_simp; try rfl
              try simp only [Act.put, List.getElem_toArray, List.getElem_cons_zero, List.getElem_cons_succ, List.setIfInBounds_toArray, List.set_cons_zero, List.set_cons_succ]
              refine wpAnyH_take (i := 7) (v := .pointer (some ⟨gi, k, none⟩)) rfl (by kernel_rfl) (by kernel_rfl) (by kernel_rfl) (fun _ _ _ h => h) (Or.inl ⟨by rfl, ?_⟩) (by assumption) ?_
              case refine_1 => intro W hSw; go_simp; try rfl
              try simp only [Act.put, List.getElem_toArray, List.getElem_cons_zero, List.getElem_cons_succ, List.setIfInBounds_toArray, List.set_cons_zero, List.set_cons_succ]
              refine wpAnyH_take (i := 8) (v := .bool false) rfl (by kernel_rfl) (by kernel_rfl) (by kernel_rfl) (fun _ _ _ h => h) (Or.inl ⟨by rfl, ?_⟩) (by assumption) ?_
              case refine_1 => intro W hSw; have m0 := HW.out W hSw; have m1 := m0.1; have m2 := m0.2.1; clear m0; go_simp; try rfl
              try simp only [Act.put, List.getElem_toArray, List.getElem_cons_zero, List.getElem_cons_succ, List.setIfInBounds_toArray, List.set_cons_zero, List.set_cons_succ]
              refine wpAnyH_take (i := 9) (v := .bool false) rfl (by kernel_rfl) (by kernel_rfl) (by kernel_rfl) (fun _ _ _ h => h) (Or.inl ⟨by rfl, ?_⟩) (by assumption) ?_
              case refine_1 => intro W hSw; go_simp; try rfl
              try simp only [Act.put, List.getElem_toArray, List.getElem_cons_zero, List.getElem_cons_succ, List.setIfInBounds_toArray, List.set_cons_zero, List.set_cons_succ]
              refine wpAnyH_take (i := 10) (v := .bool false) rfl (by kernel_rfl) (by kernel_rfl) (by kernel_rfl) (fun _ _ _ h => h) (Or.inl ⟨by rfl, ?_⟩) (by assumption) ?_
              case refine_1 => intro W hSw; go_simp; try rfl
              try simp only [Act.put, List.getElem_toArray, List.getElem_cons_zero, List.getElem_cons_succ, List.setIfInBounds_toArray, List.set_cons_zero, List.set_cons_succ]
              refine wpAnyH_take (i := 11) (v := undef) rfl (by kernel_rfl) (by kernel_rfl) (by kernel_rfl) (fun _ _ _ h => h) (Or.inr ⟨by rfl, rfl⟩) (by assumption) ?_
              try simp only [Act.put, List.getElem_toArray, List.getElem_cons_zero, List.getElem_cons_succ, List.setIfInBounds_toArray, List.set_cons_zero, List.set_cons_succ]
              refine wpAnyH_take (i := 12) (v := undef) rfl (by kernel_rfl) (by kernel_rfl) (by kernel_rfl) (fun _ _ _ h => h) (Or.inr ⟨by rfl, rfl⟩) (by assumption) ?_
              try simp only [Act.put, List.getElem_toArray, List.getElem_cons_zero, List.getElem_cons_succ, List.setIfInBounds_toArray, List.set_cons_zero, List.set_cons_succ]
              refine wpAnyH_take (i := 13) (v := undef) rfl (by kernel_rfl) (by kernel_rfl) (by kernel_rfl) (fun _ _ _ h => h) (Or.inr ⟨by rfl, rfl⟩) (by assumption) ?_
              try simp only [Act.put, List.getElem_toArray, List.getElem_cons_zero, List.getElem_cons_succ, List.setIfInBounds_toArray, List.set_cons_zero, List.set_cons_succ]
              refine wpAnyH_take (i := 14) (v := undef) rfl (by kernel_rfl) (by kernel_rfl) (by kernel_rfl) (fun _ _ _ h => h) (Or.inr ⟨by rfl, rfl⟩) (by assumption) ?_
              try simp only [Act.put, List.getElem_toArray, List.getElem_cons_zero, List.getElem_cons_succ, List.setIfInBounds_toArray, List.set_cons_zero, List.set_cons_succ]
              refine wpAnyH_take (i := 15) (v := undef) rfl (by kernel_rfl) (by kernel_rfl) (by kernel_rfl) (fun _ _ _ h => h) (Or.inr ⟨by rfl, rfl⟩) (by assumption) ?_
              try simp only [Act.put, List.getElem_toArray, List.getElem_cons_zero, List.getElem_cons_succ, List.setIfInBounds_toArray, List.set_cons_zero, List.set_cons_succ]
              refine wpAnyH_take (i := 16) (v := undef) rfl (by kernel_rfl) (by kernel_rfl) (by kernel_rfl) (fun _ _ _ h => h) (Or.inr ⟨by rfl, rfl⟩) (by assumption) ?_
              try simp only [Act.put, List.getElem_toArray, List.getElem_cons_zero, List.getElem_cons_succ, List.setIfInBounds_toArray, List.set_cons_zero, List.set_cons_succ]
              refine wpAnyH_take (i := 17) (v := undef) rfl (by kernel_rfl) (by kernel_rfl) (by kernel_rfl) (fun _ _ _ h => h) (Or.inr ⟨by rfl, rfl⟩) (by assumption) ?_
              try simp only [Act.put, List.getElem_toArray, List.getElem_cons_zero, List.getElem_cons_succ, List.setIfInBounds_toArray, List.set_cons_zero, List.set_cons_succ]
              refine wpAnyH_take (i := 18) (v := undef) rfl (by kernel_rfl) (by kernel_rfl) (by kernel_rfl) (fun _ _ _ h => h) (Or.inr ⟨by rfl, rfl⟩) (by assumption) ?_
              try simp only [Act.put, List.getElem_toArray, List.getElem_cons_zero, List.getElem_cons_succ, List.setIfInBounds_toArray, List.set_cons_zero, List.set_cons_succ]
              refine wpAnyH_take (i := 19) (v := undef) rfl (by kernel_rfl) (by kernel_rfl) (by kernel_rfl) (fun _ _ _ h => h) (Or.inr ⟨by rfl, rfl⟩) (by assumption) ?_
              try simp only [Act.put, List.getElem_toArray, List.getElem_cons_zero, List.getElem_cons_succ, List.setIfInBounds_toArray, List.set_cons_zero, List.set_cons_succ]
              refine wpAnyH_take (i := 20) (v := undef) rfl (by kernel_rfl) (by kernel_rfl) (by kernel_rfl) (fun _ _ _ h => h) (Or.inr ⟨by rfl, rfl⟩) (by assumption) ?_
              try simp only [Act.put, List.getElem_toArray, List.getElem_cons_zero, List.getElem_cons_succ, List.setIfInBounds_toArray, List.set_cons_zero, List.set_cons_succ]
              refine wpAnyH_take (i := 21) (v := .bool false) rfl (by kernel_rfl) (by kernel_rfl) (by kernel_rfl) (fun _ _ _ h => h) (Or.inl ⟨by rfl, ?_⟩) (by assumption) ?_
              case refine_1 => intro W hSw; go_simp; try rfl
              try simp only [Act.put, List.getElem_toArray, List.getElem_cons_zero, List.getElem_cons_succ, List.setIfInBounds_toArray, List.set_cons_zero, List.set_cons_succ]
              refine wpAnyH_done (by kernel_rfl) ?_ _
              clear hHeld
              go_wp2_with fail
              refine ⟨⟨k + 1, by omega, by simp, (HKP.out wd HWD.out HE.out).1, (HKP.out wd HWD.out HE.out).2⟩, ?_⟩
              simp [intOf]
              omega
            case true =>
              refine wpAnyH_take (i := 0) (v := .slice (some ⟨gi, 0, none⟩) n n) rfl (by kernel_rfl) (by kernel_rfl) (by kernel_rfl) (fun _ _ _ h => h) (Or.inl ⟨by rfl, ?_⟩) (by assumption) ?_
              case refine_1 => intro W hSw; go_simp; try rfl
              try simp only [Act.put, List.getElem_toArray, List.getElem_cons_zero, List.getElem_cons_succ, List.setIfInBounds_toArray, List.set_cons_zero, List.set_cons_succ]
              refine wpAnyH_take (i := 1) (v := .int .i64 (i : Int)) rfl (by kernel_rfl) (by kernel_rfl) (by kernel_rfl) (fun _ _ _ h => h) (Or.inl ⟨by rfl, ?_⟩) (by assumption) ?_
              case refine_1 => intro W hSw; go_simp; try rfl
              try simp only [Act.put, List.getElem_toArray, List.getElem_cons_zero, List.getElem_cons_succ, List.setIfInBounds_toArray, List.set_cons_zero, List.set_cons_succ]
              refine wpAnyH_take (i := 2) (v := .pointer (some ⟨gi, i, none⟩)) rfl (by kernel_rfl) (by kernel_rfl) (by kernel_rfl) (fun _ _ _ h => h) (Or.inl ⟨by rfl, ?_⟩) (by assumption) ?_
              case refine_1 => intro W hSw; go_simp; try rfl
              try simp only [Act.put, List.getElem_toArray, List.getElem_cons_zero, List.getElem_cons_succ, List.setIfInBounds_toArray, List.set_cons_zero, List.set_cons_succ]
              refine wpAnyH_take (i := 3) (v := .bool true) rfl (by kernel_rfl) (by kernel_rfl) (by kernel_rfl) (fun _ _ _ h => h) (Or.inl ⟨by rfl, ?_⟩) (by assumption) ?_
              case refine_1 => intro W hSw; have m0 := HW.out W hSw; have m1 := m0.1; have m2 := m0.2.1; clear m0; go_simp; try rfl
              try simp only [Act.put, List.getElem_toArray, List.getElem_cons_zero, List.getElem_cons_succ, List.setIfInBounds_toArray, List.set_cons_zero, List.set_cons_succ]
              refine wpAnyH_take (i := 4) (v := .bool true) rfl (by kernel_rfl) (by kernel_rfl) (by kernel_rfl) (fun _ _ _ h => h) (Or.inl ⟨by rfl, ?_⟩) (by assumption) ?_
              case refine_1 => intro W hSw; go_simp; try rfl
              try simp only [Act.put, List.getElem_toArray, List.getElem_cons_zero, List.getElem_cons_succ, List.setIfInBounds_toArray, List.set_cons_zero, List.set_cons_succ]
              refine wpAnyH_take (i := 5) (v := .slice (some ⟨gi, 0, none⟩) n n) rfl (by kernel_rfl) (by kernel_rfl) (by kernel_rfl) (fun _ _ _ h => h) (Or.inl ⟨by rfl, ?_⟩) (by assumption) ?_
              case refine_1 => intro W hSw; go_simp; try rfl
              try simp only [Act.put, List.getElem_toArray, List.getElem_cons_zero, List.getElem_cons_succ, List.setIfInBounds_toArray, List.set_cons_zero, List.set_cons_succ]
              refine wpAnyH_take (i := 6) (v := .int .i64 (k : Int)) rfl (by kernel_rfl) (by kernel_rfl) (by kernel_rfl) (fun _ _ _ h => h) (Or.inl ⟨by rfl, ?_⟩) (by assumption) ?_
              case refine_1 => intro W hSw; go_simp; try rfl
              try simp only [Act.put, List.getElem_toArray, List.getElem_cons_zero, List.getElem_cons_succ, List.setIfInBounds_toArray, List.set_cons_zero, List.set_cons_succ]
              refine wpAnyH_take (i := 7) (v := .pointer (some ⟨gi, k, none⟩)) rfl (by kernel_rfl) (by kernel_rfl) (by kernel_rfl) (fun _ _ _ h => h) (Or.inl ⟨by rfl, ?_⟩) (by assumption) ?_
              case refine_1 => intro W hSw; go_simp; try rfl
              try simp only [Act.put, List.getElem_toArray, List.getElem_cons_zero, List.getElem_cons_succ, List.setIfInBounds_toArray, List.set_cons_zero, List.set_cons_succ]
              refine wpAnyH_take (i := 8) (v := .bool true) rfl (by kernel_rfl) (by kernel_rfl) (by kernel_rfl) (fun _ _ _ h => h) (Or.inl ⟨by rfl, ?_⟩) (by assumption) ?_
              case refine_1 => intro W hSw; have m0 := HW.out W hSw; have m1 := m0.1; have m2 := m0.2.1; clear m0; go_simp; try rfl
              try simp only [Act.put, List.getElem_toArray, List.getElem_cons_zero, List.getElem_cons_succ, List.setIfInBounds_toArray, List.set_cons_zero, List.set_cons_succ]
              refine wpAnyH_take (i := 9) (v := .bool true) rfl (by kernel_rfl) (by kernel_rfl) (by kernel_rfl) (fun _ _ _ h => h) (Or.inl ⟨by rfl, ?_⟩) (by assumption) ?_
              case refine_1 => intro W hSw; go_simp; try rfl
              try simp only [Act.put, List.getElem_toArray, List.getElem_cons_zero, List.getElem_cons_succ, List.setIfInBounds_toArray, List.set_cons_zero, List.set_cons_succ]
              refine wpAnyH_take (i := 10) (v := .bool true) rfl (by kernel_rfl) (by kernel_rfl) (by kernel_rfl) (fun _ _ _ h => h) (Or.inl ⟨by rfl, ?_⟩) (by assumption) ?_
              case refine_1 => intro W hSw; go_simp; try rfl
              try simp only [Act.put, List.getElem_toArray, List.getElem_cons_zero, List.getElem_cons_succ, List.setIfInBounds_toArray, List.set_cons_zero, List.set_cons_succ]
              refine wpAnyH_take (i := 11) (v := .slice (some ⟨lb, lo, none⟩) n lc) rfl (by kernel_rfl) (by kernel_rfl) (by kernel_rfl) (fun _ _ _ h => h) (Or.inl ⟨by rfl, ?_⟩) (by assumption) ?_
              case refine_1 => intro W hSw; go_simp; try rfl
              try simp only [Act.put, List.getElem_toArray, List.getElem_cons_zero, List.getElem_cons_succ, List.setIfInBounds_toArray, List.set_cons_zero, List.set_cons_succ]
              refine wpAnyH_take (i := 12) (v := .int .i64 (i : Int)) rfl (by kernel_rfl) (by kernel_rfl) (by kernel_rfl) (fun _ _ _ h => h) (Or.inl ⟨by rfl, ?_⟩) (by assumption) ?_
              case refine_1 => intro W hSw; go_simp; try rfl
              try simp only [Act.put, List.getElem_toArray, List.getElem_cons_zero, List.getElem_cons_succ, List.setIfInBounds_toArray, List.set_cons_zero, List.set_cons_succ]
              refine wpAnyH_take (i := 13) (v := .pointer (some ⟨lb, lo + i * 13, none⟩)) rfl (by kernel_rfl) (by kernel_rfl) (by kernel_rfl) (fun _ _ _ h => h) (Or.inl ⟨by rfl, ?_⟩) (by assumption) ?_
              case refine_1 => intro W hSw; go_simp; try rfl
              try simp only [Act.put, List.getElem_toArray, List.getElem_cons_zero, List.getElem_cons_succ, List.setIfInBounds_toArray, List.set_cons_zero, List.set_cons_succ]
              refine wpAnyH_take (i := 14) (v := .agg (ofL x sx).toArray) rfl (by kernel_rfl) (by kernel_rfl) (by kernel_rfl) (fun _ _ _ h => h) (Or.inl ⟨by rfl, (fun W hSw => sat_run OfK (.tmp 82) rfl rfl (HW.out W hSw).2.2.1 rfl)⟩) (by assumption) ?_
              try simp only [Act.put, List.getElem_toArray, List.getElem_cons_zero, List.getElem_cons_succ, List.setIfInBounds_toArray, List.set_cons_zero, List.set_cons_succ]
              refine wpAnyH_take (i := 15) (v := .slice (some ⟨lb, lo, none⟩) n lc) rfl (by kernel_rfl) (by kernel_rfl) (by kernel_rfl) (fun _ _ _ h => h) (Or.inl ⟨by rfl, ?_⟩) (by assumption) ?_
              case refine_1 => intro W hSw; go_simp; try rfl
              try simp only [Act.put, List.getElem_toArray, List.getElem_cons_zero, List.getElem_cons_succ, List.setIfInBounds_toArray, List.set_cons_zero, List.set_cons_succ]
              refine wpAnyH_take (i := 16) (v := .int .i64 (k : Int)) rfl (by kernel_rfl) (by kernel_rfl) (by kernel_rfl) (fun _ _ _ h => h) (Or.inl ⟨by rfl, ?_⟩) (by assumption) ?_
              case refine_1 => intro W hSw; go_simp; try rfl
              try simp only [Act.put, List.getElem_toArray, List.getElem_cons_zero, List.getElem_cons_succ, List.setIfInBounds_toArray, List.set_cons_zero, List.set_cons_succ]
              refine wpAnyH_take (i := 17) (v := .pointer (some ⟨lb, lo + k * 13, none⟩)) rfl (by kernel_rfl) (by kernel_rfl) (by kernel_rfl) (fun _ _ _ h => h) (Or.inl ⟨by rfl, ?_⟩) (by assumption) ?_
              case refine_1 => intro W hSw; go_simp; try rfl
              try simp only [Act.put, List.getElem_toArray, List.getElem_cons_zero, List.getElem_cons_succ, List.setIfInBounds_toArray, List.set_cons_zero, List.set_cons_succ]
              refine wpAnyH_take (i := 18) (v := .agg (ofL y sy).toArray) rfl (by kernel_rfl) (by kernel_rfl) (by kernel_rfl) (fun _ _ _ h => h) (Or.inl ⟨by rfl, (fun W hSw => sat_run OfK (.tmp 86) rfl rfl (HW.out W hSw).2.2.2 rfl)⟩) (by assumption) ?_
              try simp only [Act.put, List.getElem_toArray, List.getElem_cons_zero, List.getElem_cons_succ, List.setIfInBounds_toArray, List.set_cons_zero, List.set_cons_succ]
              refine wpAnyH_take (i := 19) (v := .int .i64 (z : Int)) rfl (by kernel_rfl) (by kernel_rfl) (by kernel_rfl) (fun _ _ _ h => h) (Or.inl ⟨by rfl, ?_⟩) (by assumption) ?_
              case refine_1 => intro W hSw; go_simp; try rfl
              try simp only [Act.put, List.getElem_toArray, List.getElem_cons_zero, List.getElem_cons_succ, List.setIfInBounds_toArray, List.set_cons_zero, List.set_cons_succ]
              refine wpAnyH_ready (rs := [20]) (by kernel_rfl) (by simp) ?_
              refine AllReadyH.cons rfl (fun K hK => ?_) AllReadyH.nil
              go_simp
              refine (rbt_any z HC.out.1 HC.out.2 x sx y sy wd (HPX.out wd HWD.out).1 (HPX.out wd HWD.out).2).mono ?_
              rintro e w5 ⟨rfl, hb5⟩
              have HG5 : Hid (Below wz.heap.size wz w5) := HWD.out.trans (hb5.mono HWD.out.size)
              clear hb5
              refine hK.out _ _ HG5.out (fun hHeld => ?_)
              clear hK K
              try simp only [Act.put, List.getElem_toArray, List.getElem_cons_zero, List.getElem_cons_succ, List.setIfInBounds_toArray, List.set_cons_zero, List.set_cons_succ]
              obtain ⟨r, hr⟩ : ∃ y', bt z x y = y' := ⟨_, rfl⟩
              have HR : Hid (bt z x y = r) := hr
              rw [hr]
              clear hr
              refine wpAnyH_take (i := 21) (v := .bool r) rfl (by kernel_rfl) (by kernel_rfl) (by kernel_rfl) (fun _ _ _ h => h) (Or.inl ⟨by rfl, ?_⟩) (by assumption) ?_
              case refine_1 => intro W hSw; go_simp; try rfl
              try simp only [Act.put, List.getElem_toArray, List.getElem_cons_zero, List.getElem_cons_succ, List.setIfInBounds_toArray, List.set_cons_zero, List.set_cons_succ]
              refine wpAnyH_done (by kernel_rfl) ?_ _
              clear hHeld
              cases r
              case false =>
                have HE : Hid (svK (atO xs) f z i (k + 1) = svK (atO xs) f z i k) := by show _ = _; rw [HNK.out, HR.out]; rfl
                go_wp2_with fail
                refine ⟨⟨k + 1, by omega, by simp, (HKP.out w5 HG5.out HE.out).1, (HKP.out w5 HG5.out HE.out).2⟩, ?_⟩
                simp [intOf]
                omega
              case true =>
                have HE : Hid (svK (atO xs) f z i (k + 1) = false) := by show _ = _; rw [HNK.out, HR.out]; rfl
                obtain ⟨-, -, ⟨old, e1⟩, e2⟩ := HKS.out w5 HG5.out HE.out
                go_wp2_with fail
                refine ⟨⟨k + 1, by omega, by simp, (HKS.out w5 HG5.out HE.out).1, (HKS.out w5 HG5.out HE.out).2.1⟩, ?_⟩
                simp [intOf]
                omega
end Go.Proofs.Ytkahjibdmhaglaa.Ch
