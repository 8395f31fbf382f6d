/- The order of offers: lastAhead. -/
import Derived.Test.YtkahjibdmhaglaaChL
import Derived.Laws.OwnMore
import Derived.Deep.CutBlock
namespace Go.Proofs.Ytkahjibdmhaglaa.Ch
open Go.ChangeShapes Go.WideShapes Go.ChangeAt Go.RowKit Go.Joins Go.Deep Go.Proofs.Ytkahjibdmhaglaa.Ge
open Go.Sort hiding Below
set_option linter.unusedVariables false
set_option linter.unusedSimpArgs false

theorem en_rep (n : Nat) : (madeCells #[EN.z] n).toList = EN.cs (List.replicate n 0) := by
  rw [toList_madeCells_one]
  simp [El.cs, EN, List.flatMap_replicate]
/-- is the one ahead of the same neighbour, and what stands last there behind this one? -/
def laC (xs : List (Of × Oa)) (f : Nat → Nat) (a i : Nat) : Prop := earlyP xs a i = 0 ∧ nbrP xs a i = 0 ∧ 0 < lateP xs (f a) i
instance (xs : List (Of × Oa)) (f : Nat → Nat) (a i : Nat) : Decidable (laC xs f a i) := by unfold laC; infer_instance
def laP (xs : List (Of × Oa)) (ps : List Nat) : Nat → Nat → Nat
  | 0, _ => 0
  | k + 1, j => if j = ps.getD k 0 then (if 0 < k ∧ laC xs (laP xs ps k) (ps.getD (k - 1) 0) (ps.getD k 0) then laP xs ps k (ps.getD (k - 1) 0) else ps.getD k 0) else laP xs ps k j
theorem laP_lt {xs : List (Of × Oa)} {ps : List Nat} {n : Nat} (h : InN ps n) (hn : 0 < n) : ∀ k, k ≤ ps.length → ∀ j, laP xs ps k j < n
  | 0, _, j => hn
  | k + 1, hk, j => by
    have h1 : ps.getD k 0 < n := by rw [List.getD_eq_getElem?_getD, List.getElem?_eq_getElem (by omega)]; exact h _ (List.getElem_mem _)
    unfold laP
    split
    · split
      · exact laP_lt h hn k (by omega) _
      · exact h1
    · exact laP_lt h hn k (by omega) _
theorem range_set (n y v : Nat) (f : Nat → Nat) : ((List.range n).map f).set y v = (List.range n).map (fun j => if j = y then v else f j) := by
  apply List.ext_getElem?
  intro i
  rw [List.getElem?_set, List.getElem?_map, List.getElem?_map]
  by_cases h : y = i
  · subst h
    rw [if_pos rfl]
    simp
    by_cases hi : y < n
    · simp [hi]
    · simp [hi]
  · rw [if_neg h]
    by_cases hi : i < n
    · simp [hi, Ne.symm h]
    · simp [hi]
theorem laP_keep {xs : List (Of × Oa)} {ps : List Nat} {n k y : Nat} (hy : ps.getD k 0 = y) (hc : ¬ (0 < k ∧ laC xs (laP xs ps k) (ps.getD (k - 1) 0) y)) : ((List.range n).map (laP xs ps k)).set y y = (List.range n).map (laP xs ps (k + 1)) := by
  rw [range_set]
  congr 1
  funext j
  show _ = if j = ps.getD k 0 then _ else _
  rw [hy, if_neg hc]
theorem laP_turn {xs : List (Of × Oa)} {ps : List Nat} {n k y : Nat} (hy : ps.getD k 0 = y) (hc : 0 < k ∧ laC xs (laP xs ps k) (ps.getD (k - 1) 0) y) : (((List.range n).map (laP xs ps k)).set y y).set y (laP xs ps k (ps.getD (k - 1) 0)) = (List.range n).map (laP xs ps (k + 1)) := by
  rw [List.set_set, range_set]
  congr 1
  funext j
  show _ = if j = ps.getD k 0 then _ else _
  rw [hy, if_pos hc]
structure LaI (w : World) (n lb lo lc sb1 sb2 c5 : Nat) (xs : List (Of × Oa)) (ps : List Nat) (m bf g5 : Nat) (iv : Value) (W : World) : Prop where
  at_ : ∃ k : Nat, k ≤ m ∧ iv = .int .i64 (k : Int) ∧ OwnL EN (bf + 1) W (.slice (some ⟨g5, 0, none⟩) n n) ((List.range n).map (laP xs ps k))
  sb : SB FdK bf (fdL lb lo n lc sb1 sb2 c5) W
  bel : Below w.heap.size w W
def LaPost (w : World) (n m : Nat) (xs : List (Of × Oa)) (ps : List Nat) (e : Ending) (w' : World) : Prop := ∃ g5, e = .returned (.slice (some ⟨g5, 0, none⟩) n n) ∧ w.heap.size ≤ g5 ∧ g5 < w'.heap.size ∧ Below w.heap.size w w' ∧ ∀ i, i < n → w'.cell? ⟨g5, i, none⟩ = some (.int .i64 (laP xs ps m i : Int))
theorem en_set {N g n c : Nat} {w : World} {O : List Nat} (h : OwnL EN N w (.slice (some ⟨g, 0, none⟩) n c) O) {i : Nat} (hi : i < n) (y : Nat) : w.cell? ⟨g, i, none⟩ = some (.int .i64 ((O.getD i 0 : Nat) : Int)) ∧ w.frozen? ⟨g, i, none⟩ = false ∧ OwnL EN N (w.setCell ⟨g, i, none⟩ (.int .i64 (y : Int))) (.slice (some ⟨g, 0, none⟩) n c) (O.set i y) ∧ N ≤ g := by
  have hl := h.lst.2
  have hi' : i < O.length := by omega
  obtain ⟨q1, q2, q3, q4⟩ := h.at0
  refine ⟨?_, q2 i, ?_, q4⟩
  · rw [List.getD_eq_getElem?_getD, List.getElem?_eq_getElem hi']
    exact lst_if h i hi'
  · have h5 := h.setc hi' (j := 0) (by decide) (.int .i64 (y : Int)) y rfl
    have e1 : EN.k = 1 := rfl
    rw [e1, Nat.mul_one] at h5
    exact h5
theorem range_getD {n a : Nat} (f : Nat → Nat) (h : a < n) : ((List.range n).map f).getD a 0 = f a := by
  rw [List.getD_eq_getElem?_getD, List.getElem?_map, List.getElem?_range h]
  rfl
set_option maxRecDepth 100000 in
set_option maxHeartbeats 16000000 in
theorem last_any (N lb lo n lc sb1 sb2 c5 : Nat) (xs : List (Of × Oa)) (pa : Option Addr) (m pc : Nat) (ps : List Nat) (hm : ps.length = m) (hin : InN ps n) (hnd : ps.Nodup) (w : World) (h : FdR N lb lo n lc sb1 sb2 c5 xs w) (hp : Lst EN w pa ps) : Calls Try.prog 30 #[.agg (fdL lb lo n lc sb1 sb2 c5).toArray, .slice pa m pc] w (LaPost w n m xs ps) := by
  have HF : Hid (FdR N lb lo n lc sb1 sb2 c5 xs w) := h
  have HP : Hid (Lst EN w pa ps) := hp
  have HM : Hid (ps.length = m) := hm
  have HIN : Hid (InN ps n) := hin
  have HND : Hid (ps.Nodup) := hnd
  have hn8 := h.hn
  have hsm := hp.small
  rw [hm] at hsm
  obtain ⟨i0, hi, hz0, hz1, hz2⟩ := info_of EN.hi
  clear h hp hm hin hnd
  go_enter Try.func30, Try.ntmps30
  go_wp2_with (refine list_sboxe FdK rfl _ rfl (cs := fdL lb lo n lc sb1 sb2 c5) rfl ?_)
  intro bf W0 hx hg hbf
  have HX : Hid (SB FdK bf (fdL lb lo n lc sb1 sb2 c5) W0) := hx.out
  have HB0 : Hid (Below w.heap.size w W0 ∧ w.heap.size = bf ∧ bf < W0.heap.size) := ⟨hg.out.bel, hbf.out, SB.lt hx.out⟩
  have c0 : W0.cell? ⟨bf, 0, none⟩ = some (.slice (some ⟨lb, lo, none⟩) n lc) := hx.out.cell 0
  clear hx hg hbf
  obtain ⟨g5, hg5⟩ : ∃ y, W0.heap.size = y := ⟨_, rfl⟩
  have hb5 : bf + 1 ≤ g5 := by rw [← hg5]; exact HB0.out.2.2
  have HG5 : Hid (W0.heap.size = g5) := hg5
  go_wp2_with (at_make; refine wpList_make_full _ rfl _ _ 24 rfl (bf + 1) 3 i0 _ 1 Try.underlying24 hi hz0 hz1 _ _ _ _ n rfl rfl rfl rfl (by rw [hz2]; show 8 * n ≤ _; omega) (by unfold maxLen; omega) (by omega) ?_)
  intro w1 hrow hgr
  have HG : Hid (Below W0.heap.size W0 w1) := ⟨hgr.os, hgr.tape, hgr.output, hgr.size, fun k hk => hgr.block k hk (fun e => by cases e)⟩
  rw [en_rep] at hrow
  have HO1 : Hid (OwnL EN (bf + 1) w1 (.slice (some ⟨g5, 0, none⟩) n n) ((List.range n).map (laP xs ps 0))) := by
    have e1 : (List.range n).map (laP xs ps 0) = List.replicate n 0 := by
      apply List.ext_getElem?
      intro i
      by_cases hi : i < n
      · simp [hi, laP]
      · simp [hi]
    rw [e1]
    exact ⟨by rw [List.length_replicate]; exact hrow⟩
  have HI : Hid (LaI w n lb lo lc sb1 sb2 c5 xs ps m bf g5 (.int .i64 0) w1) := ⟨⟨0, Nat.zero_le _, rfl, HO1.out⟩, HX.out.blk (HG.out.block bf HB0.out.2.2), HB0.out.1.trans (HG.out.mono HB0.out.1.size)⟩
  have HBF : Hid (w.heap.size = bf) := HB0.out.2.1
  clear hrow hgr HO1 HX HB0 HG c0 hg5 HG5 hi hz0 hz1 hz2
  go_wp2_with fail
  go_loopw [15, 6, 7, 8] (fun iv _ _ _ wr => LaI w n lb lo lc sb1 sb2 c5 xs ps m bf g5 iv wr) (fun i _ _ _ _ => m - (intOf i).toNat)
  case atStart => exact HI.out
  case round =>
    clear HI
    obtain ⟨⟨k, hk, rfl, ho⟩, hsb, hbel⟩ := hrel
    obtain ⟨wz, hwz⟩ : ∃ y, wr = y := ⟨_, rfl⟩
    rw [hwz] at ho hsb hbel ⊢
    have HO : Hid (OwnL EN (bf + 1) wz (.slice (some ⟨g5, 0, none⟩) n n) ((List.range n).map (laP xs ps k))) := ho
    have HS : Hid (SB FdK bf (fdL lb lo n lc sb1 sb2 c5) wz) := hsb
    have HB : Hid (Below w.heap.size w wz) := hbel
    clear ho hsb hbel hwz
    by_cases hlt : k < m
    case neg =>
      have hii : ¬ (k : Int) < (m : Int) := by omega
      have hkm : k = m := by omega
      have HE : Hid (LaPost w n m xs ps (.returned (.slice (some ⟨g5, 0, none⟩) n n)) wz) := by
        subst hkm
        refine ⟨g5, rfl, by have := HBF.out; omega, (HO.out.at0).2.2.1, HB.out, fun i hi => ?_⟩
        have h5 := (en_set HO.out hi 0).1
        rw [range_getD _ hi] at h5
        exact h5
      clear hkm
      go_wp2_with fail
      go_ret
      exact HE.out
    have hkl : k < ps.length := by rw [HM.out]; exact hlt
    have hii : (k : Int) < (m : Int) := by omega
    have ii0 : (0 : Int) ≤ (k : Int) := by omega
    obtain ⟨gb, go, rfl, hbl, hc⟩ := HP.out.cells k hkl
    obtain ⟨y, hy⟩ : ∃ y, ps[k] = y := ⟨_, rfl⟩
    have HY : Hid (ps.getD k 0 = y) := by show _ = _; rw [List.getD_eq_getElem?_getD, List.getElem?_eq_getElem hkl, ← hy]; rfl
    have hyn : y < n := by rw [← hy]; exact HIN.out _ (List.getElem_mem hkl)
    have HPW : Hid (∀ W, Below w.heap.size w W → ∀ q (hq : q < m) z, ps.getD q 0 = z → W.cell? ⟨gb, go + q, none⟩ = some (.int .i64 (z : Int))) := fun W hW q hq z hz => by
      have hql : q < ps.length := by rw [HM.out]; exact hq
      obtain ⟨b', o', e', -, hc'⟩ := (HP.out.bel hW).cells q hql
      cases e'
      have h5 := hc' 0 (by decide)
      have e1 : EN.k = 1 := rfl
      rw [e1, Nat.mul_one] at h5
      rw [← hz, List.getD_eq_getElem?_getD, List.getElem?_eq_getElem hql]
      exact h5
    have k1 : wz.cell? ⟨gb, go + k, none⟩ = some (.int .i64 (y : Int)) := HPW.out wz HB.out k hlt y HY.out
    have hyi : (y : Int) < (n : Int) := by omega
    have y0 : (0 : Int) ≤ (y : Int) := by omega
    obtain ⟨e1, e2, e3, e4⟩ := en_set HO.out hyn y
    have HO2 : Hid (OwnL EN (bf + 1) (wz.setCell ⟨g5, y, none⟩ (.int .i64 (y : Int))) (.slice (some ⟨g5, 0, none⟩) n n) (((List.range n).map (laP xs ps k)).set y y)) := e3
    have HS2 : Hid (SB FdK bf (fdL lb lo n lc sb1 sb2 c5) (wz.setCell ⟨g5, y, none⟩ (.int .i64 (y : Int)))) := HS.out.blk ((Ko.set wz g5 y _).block bf (by omega))
    have HB2 : Hid (Below w.heap.size w (wz.setCell ⟨g5, y, none⟩ (.int .i64 (y : Int)))) := HB.out.trans ((Ko.set wz g5 y _).below (by have := HBF.out; omega))
    generalize (((List.range n).map (laP xs ps k)).getD y 0) = old at e1
    clear hy hc hbl e3 e4
    go_upto_region 6 with fail
    obtain ⟨wy, hwy⟩ : ∃ z, wz.setCell ⟨g5, y, none⟩ (.int .i64 (y : Int)) = z := ⟨_, rfl⟩
    rw [hwy] at HO2 HS2 HB2 ⊢
    clear hwy e1 e2 k1 HO HS HB
    by_cases hk0 : k = 0
    case pos =>
      subst hk0
      have HO3 : Hid (OwnL EN (bf + 1) wy (.slice (some ⟨g5, 0, none⟩) n n) ((List.range n).map (laP xs ps 1))) := by rw [← laP_keep HY.out (fun h => by omega)]; exact HO2.out
      go_wp2_with fail
      refine ⟨⟨⟨1, by omega, by simp, HO3.out⟩, HS2.out, HB2.out⟩, ?_⟩
      simp [intOf]
      omega
    case neg =>
      obtain ⟨q, hq⟩ : ∃ q, q = k - 1 := ⟨_, rfl⟩
      have hkb : ((k : Int) == 0) = false := by simpa using hk0
      have hkw : IntKind.i64.wrap ((k : Int) - 1) = (q : Int) := by rw [IntKind.wrap_i64]; omega
      have hqm : q < m := by omega
      have hqi : (q : Int) < (m : Int) := by omega
      have q0 : (0 : Int) ≤ (q : Int) := by omega
      obtain ⟨a, ha⟩ : ∃ a, ps.getD q 0 = a := ⟨_, rfl⟩
      have hql : q < ps.length := by rw [HM.out]; exact hqm
      have han : a < n := by rw [← ha, List.getD_eq_getElem?_getD, List.getElem?_eq_getElem hql]; exact HIN.out _ (List.getElem_mem hql)
      have HAY : Hid (a ≠ y) := fun e => by
        have h5 := HY.out
        rw [← e, ← ha, List.getD_eq_getElem?_getD, List.getD_eq_getElem?_getD, List.getElem?_eq_getElem hql, List.getElem?_eq_getElem hkl] at h5
        have h6 := (List.getElem_inj HND.out).1 (show ps[k] = ps[q] from h5)
        omega
      have k2 : wy.cell? ⟨gb, go + q, none⟩ = some (.int .i64 (a : Int)) := HPW.out wy HB2.out q hqm a ha
      have HA : Hid (ps.getD (k - 1) 0 = a) := by show _ = _; rw [← hq]; exact ha
      obtain ⟨u, hu⟩ : ∃ u, laP xs ps k a = u := ⟨_, rfl⟩
      have hun : u < n := by rw [← hu]; exact laP_lt HIN.out (by omega) k (by omega) a
      have HFW : Hid (∀ W, Gw wy W → FdR N lb lo n lc sb1 sb2 c5 xs W ∧ SB FdK bf (fdL lb lo n lc sb1 sb2 c5) W ∧ W.cell? ⟨g5, a, none⟩ = some (.int .i64 (u : Int))) := fun W hW => by
        refine ⟨(HF.out.bel (HB2.out.mono HF.out.hN)).gw hW, SB.gw HS2.out hW, ?_⟩
        have hca := (en_set HO2.out han 0).1
        have e5 : ((((List.range n).map (laP xs ps k)).set y y).getD a 0) = u := by
          rw [List.getD_eq_getElem?_getD, List.getElem?_set_ne (Ne.symm HAY.out), ← List.getD_eq_getElem?_getD, range_getD _ han, hu]
        rw [e5] at hca
        exact (World.cell?_of_block (w := wy) (hW.bel.block g5 (World.block_lt_of_cell? wy _ hca))).trans hca
      have HU : Hid (laP xs ps k a = u) := hu
      have hai : (a : Int) < (n : Int) := by omega
      have a0 : (0 : Int) ≤ (a : Int) := by omega
      have hk1 : 0 < k := by omega
      clear ha hu hq hk0
      go_upto_region 8 with fail
      clear k2
      go_cut [52] from 31 to 51 (fun v wx => ∃ qb : Bool, v = .bool qb ∧ Hid (qb = true ↔ laC xs (laP xs ps k) a y) ∧ Hid (Gw wy wx))
      case first =>
        obtain ⟨z1, hz1⟩ : ∃ z, earlyP xs a y = z := ⟨_, rfl⟩
        obtain ⟨z2, hz2⟩ : ∃ z, nbrP xs a y = z := ⟨_, rfl⟩
        obtain ⟨z3, hz3⟩ : ∃ z, lateP xs u y = z := ⟨_, rfl⟩
        have HZ : Hid (earlyP xs a y = z1 ∧ nbrP xs a y = z2 ∧ lateP xs u y = z3) := ⟨hz1, hz2, hz3⟩
        have HL : Hid (laC xs (laP xs ps k) a y ↔ (z1 = 0 ∧ z2 = 0 ∧ 0 < z3)) := by
          show _ ↔ _
          unfold laC
          rw [HU.out, hz1, hz2, hz3]
        clear hz1 hz2 hz3
        refine wp_region_held_drew (S := fun W => Gw wy W) (by kernel_rfl) (Gw.dn wy 1) (fun hHeld => ?_)
        obtain ⟨wd, hwd⟩ : ∃ y, wy.drew = y := ⟨_, rfl⟩
        have HWD : Hid (Gw wy wd) := by rw [← hwd]; exact Gw.dn wy 1
        rw [hwd] at hHeld ⊢
        clear hwd
        refine wpAnyH_take (i := 0) (v := .agg (fdL lb lo n lc sb1 sb2 c5).toArray) rfl (by kernel_rfl) (by kernel_rfl) (by kernel_rfl) (fun _ _ _ h => h) (Or.inl ⟨by rfl, (fun W hSw => sload_run FdK (.tmp 2) rfl rfl (HFW.out W hSw).2.1 rfl)⟩) (by assumption) ?_
        try simp only [Act.put, List.getElem_toArray, List.getElem_cons_zero, List.getElem_cons_succ, List.setIfInBounds_toArray, List.set_cons_zero, List.set_cons_succ]
        refine wpAnyH_take (i := 1) (v := .int .i64 (a : Int)) rfl (by kernel_rfl) (by kernel_rfl) (by kernel_rfl) (fun _ _ _ h => h) (Or.inl ⟨by rfl, ?_⟩) (by assumption) ?_
        case refine_1 => intro W hSw; go_simp; try rfl
        try simp only [Act.put, List.getElem_toArray, List.getElem_cons_zero, List.getElem_cons_succ, List.setIfInBounds_toArray, List.set_cons_zero, List.set_cons_succ]
        refine wpAnyH_take (i := 2) (v := .int .i64 (y : Int)) rfl (by kernel_rfl) (by kernel_rfl) (by kernel_rfl) (fun _ _ _ h => h) (Or.inl ⟨by rfl, ?_⟩) (by assumption) ?_
        case refine_1 => intro W hSw; go_simp; try rfl
        try simp only [Act.put, List.getElem_toArray, List.getElem_cons_zero, List.getElem_cons_succ, List.setIfInBounds_toArray, List.set_cons_zero, List.set_cons_succ]
        refine wpAnyH_ready (rs := [3]) (by kernel_rfl) (by simp) ?_
        refine AllReadyH.cons rfl (fun K hK => ?_) AllReadyH.nil
        go_simp
        refine (early_any N lb lo n lc sb1 sb2 c5 xs a y han hyn wd (HFW.out wd HWD.out).1 z1 HZ.out.1).mono ?_
        rintro e w1 ⟨rfl, hgw⟩
        have HG1 : Hid (Gw wy w1) := HWD.out.trans hgw
        clear hgw
        refine hK.out _ _ HG1.out (fun hHeld => ?_)
        clear hK K
        try simp only [Act.put, List.getElem_toArray, List.getElem_cons_zero, List.getElem_cons_succ, List.setIfInBounds_toArray, List.set_cons_zero, List.set_cons_succ]
        by_cases hz1 : z1 = 0
        case neg =>
          have hb1 : (z1 == 0) = false := by simpa using hz1
          refine wpAnyH_take (i := 4) (v := .bool false) rfl (by kernel_rfl) (by kernel_rfl) (by kernel_rfl) (fun _ _ _ h => h) (Or.inl ⟨by rfl, ?_⟩) (by assumption) ?_
          case refine_1 => intro W hSw; go_simp; try rfl
          try simp only [Act.put, List.getElem_toArray, List.getElem_cons_zero, List.getElem_cons_succ, List.setIfInBounds_toArray, List.set_cons_zero, List.set_cons_succ]
          refine wpAnyH_take (i := 5) (v := .bool false) rfl (by kernel_rfl) (by kernel_rfl) (by kernel_rfl) (fun _ _ _ h => h) (Or.inl ⟨by rfl, ?_⟩) (by assumption) ?_
          case refine_1 => intro W hSw; go_simp; try rfl
          try simp only [Act.put, List.getElem_toArray, List.getElem_cons_zero, List.getElem_cons_succ, List.setIfInBounds_toArray, List.set_cons_zero, List.set_cons_succ]
          refine wpAnyH_take (i := 6) (v := undef) rfl (by kernel_rfl) (by kernel_rfl) (by kernel_rfl) (fun _ _ _ h => h) (Or.inr ⟨by rfl, rfl⟩) (by assumption) ?_
          try simp only [Act.put, List.getElem_toArray, List.getElem_cons_zero, List.getElem_cons_succ, List.setIfInBounds_toArray, List.set_cons_zero, List.set_cons_succ]
          refine wpAnyH_take (i := 7) (v := undef) rfl (by kernel_rfl) (by kernel_rfl) (by kernel_rfl) (fun _ _ _ h => h) (Or.inr ⟨by rfl, rfl⟩) (by assumption) ?_
          try simp only [Act.put, List.getElem_toArray, List.getElem_cons_zero, List.getElem_cons_succ, List.setIfInBounds_toArray, List.set_cons_zero, List.set_cons_succ]
          refine wpAnyH_take (i := 8) (v := undef) rfl (by kernel_rfl) (by kernel_rfl) (by kernel_rfl) (fun _ _ _ h => h) (Or.inr ⟨by rfl, rfl⟩) (by assumption) ?_
          try simp only [Act.put, List.getElem_toArray, List.getElem_cons_zero, List.getElem_cons_succ, List.setIfInBounds_toArray, List.set_cons_zero, List.set_cons_succ]
          refine wpAnyH_take (i := 9) (v := undef) rfl (by kernel_rfl) (by kernel_rfl) (by kernel_rfl) (fun _ _ _ h => h) (Or.inr ⟨by rfl, rfl⟩) (by assumption) ?_
          try simp only [Act.put, List.getElem_toArray, List.getElem_cons_zero, List.getElem_cons_succ, List.setIfInBounds_toArray, List.set_cons_zero, List.set_cons_succ]
          refine wpAnyH_take (i := 10) (v := undef) rfl (by kernel_rfl) (by kernel_rfl) (by kernel_rfl) (fun _ _ _ h => h) (Or.inr ⟨by rfl, rfl⟩) (by assumption) ?_
          try simp only [Act.put, List.getElem_toArray, List.getElem_cons_zero, List.getElem_cons_succ, List.setIfInBounds_toArray, List.set_cons_zero, List.set_cons_succ]
          refine wpAnyH_take (i := 11) (v := .bool false) rfl (by kernel_rfl) (by kernel_rfl) (by kernel_rfl) (fun _ _ _ h => h) (Or.inl ⟨by rfl, ?_⟩) (by assumption) ?_
          case refine_1 => intro W hSw; go_simp; try rfl
          try simp only [Act.put, List.getElem_toArray, List.getElem_cons_zero, List.getElem_cons_succ, List.setIfInBounds_toArray, List.set_cons_zero, List.set_cons_succ]
          refine wpAnyH_take (i := 12) (v := .bool false) rfl (by kernel_rfl) (by kernel_rfl) (by kernel_rfl) (fun _ _ _ h => h) (Or.inl ⟨by rfl, ?_⟩) (by assumption) ?_
          case refine_1 => intro W hSw; go_simp; try rfl
          try simp only [Act.put, List.getElem_toArray, List.getElem_cons_zero, List.getElem_cons_succ, List.setIfInBounds_toArray, List.set_cons_zero, List.set_cons_succ]
          refine wpAnyH_take (i := 13) (v := undef) rfl (by kernel_rfl) (by kernel_rfl) (by kernel_rfl) (fun _ _ _ h => h) (Or.inr ⟨by rfl, rfl⟩) (by assumption) ?_
          try simp only [Act.put, List.getElem_toArray, List.getElem_cons_zero, List.getElem_cons_succ, List.setIfInBounds_toArray, List.set_cons_zero, List.set_cons_succ]
          refine wpAnyH_take (i := 14) (v := undef) rfl (by kernel_rfl) (by kernel_rfl) (by kernel_rfl) (fun _ _ _ h => h) (Or.inr ⟨by rfl, rfl⟩) (by assumption) ?_
          try simp only [Act.put, List.getElem_toArray, List.getElem_cons_zero, List.getElem_cons_succ, List.setIfInBounds_toArray, List.set_cons_zero, List.set_cons_succ]
          refine wpAnyH_take (i := 15) (v := undef) rfl (by kernel_rfl) (by kernel_rfl) (by kernel_rfl) (fun _ _ _ h => h) (Or.inr ⟨by rfl, rfl⟩) (by assumption) ?_
          try simp only [Act.put, List.getElem_toArray, List.getElem_cons_zero, List.getElem_cons_succ, List.setIfInBounds_toArray, List.set_cons_zero, List.set_cons_succ]
          refine wpAnyH_take (i := 16) (v := undef) rfl (by kernel_rfl) (by kernel_rfl) (by kernel_rfl) (fun _ _ _ h => h) (Or.inr ⟨by rfl, rfl⟩) (by assumption) ?_
          try simp only [Act.put, List.getElem_toArray, List.getElem_cons_zero, List.getElem_cons_succ, List.setIfInBounds_toArray, List.set_cons_zero, List.set_cons_succ]
          refine wpAnyH_take (i := 17) (v := undef) rfl (by kernel_rfl) (by kernel_rfl) (by kernel_rfl) (fun _ _ _ h => h) (Or.inr ⟨by rfl, rfl⟩) (by assumption) ?_
          try simp only [Act.put, List.getElem_toArray, List.getElem_cons_zero, List.getElem_cons_succ, List.setIfInBounds_toArray, List.set_cons_zero, List.set_cons_succ]
          refine wpAnyH_take (i := 18) (v := undef) rfl (by kernel_rfl) (by kernel_rfl) (by kernel_rfl) (fun _ _ _ h => h) (Or.inr ⟨by rfl, rfl⟩) (by assumption) ?_
          try simp only [Act.put, List.getElem_toArray, List.getElem_cons_zero, List.getElem_cons_succ, List.setIfInBounds_toArray, List.set_cons_zero, List.set_cons_succ]
          refine wpAnyH_take (i := 19) (v := undef) rfl (by kernel_rfl) (by kernel_rfl) (by kernel_rfl) (fun _ _ _ h => h) (Or.inr ⟨by rfl, rfl⟩) (by assumption) ?_
          try simp only [Act.put, List.getElem_toArray, List.getElem_cons_zero, List.getElem_cons_succ, List.setIfInBounds_toArray, List.set_cons_zero, List.set_cons_succ]
          refine wpAnyH_take (i := 20) (v := undef) rfl (by kernel_rfl) (by kernel_rfl) (by kernel_rfl) (fun _ _ _ h => h) (Or.inr ⟨by rfl, rfl⟩) (by assumption) ?_
          try simp only [Act.put, List.getElem_toArray, List.getElem_cons_zero, List.getElem_cons_succ, List.setIfInBounds_toArray, List.set_cons_zero, List.set_cons_succ]
          refine wpAnyH_take (i := 21) (v := .bool false) rfl (by kernel_rfl) (by kernel_rfl) (by kernel_rfl) (fun _ _ _ h => h) (Or.inl ⟨by rfl, ?_⟩) (by assumption) ?_
          case refine_1 => intro W hSw; go_simp; try rfl
          try simp only [Act.put, List.getElem_toArray, List.getElem_cons_zero, List.getElem_cons_succ, List.setIfInBounds_toArray, List.set_cons_zero, List.set_cons_succ]
          refine wpAnyH_done (by kernel_rfl) ?_ _
          clear hHeld
          go_wp2_with fail
          go_meet
          exact ⟨false, rfl, (⟨fun h => (by cases h), fun h => absurd (HL.out.1 h).1 hz1⟩ : _ ↔ _), HG1⟩
        case pos =>
          have hb1 : (z1 == 0) = true := by simpa using hz1
          refine wpAnyH_take (i := 4) (v := .bool true) rfl (by kernel_rfl) (by kernel_rfl) (by kernel_rfl) (fun _ _ _ h => h) (Or.inl ⟨by rfl, ?_⟩) (by assumption) ?_
          case refine_1 => intro W hSw; go_simp; try rfl
          try simp only [Act.put, List.getElem_toArray, List.getElem_cons_zero, List.getElem_cons_succ, List.setIfInBounds_toArray, List.set_cons_zero, List.set_cons_succ]
          refine wpAnyH_take (i := 5) (v := .bool true) rfl (by kernel_rfl) (by kernel_rfl) (by kernel_rfl) (fun _ _ _ h => h) (Or.inl ⟨by rfl, ?_⟩) (by assumption) ?_
          case refine_1 => intro W hSw; go_simp; try rfl
          try simp only [Act.put, List.getElem_toArray, List.getElem_cons_zero, List.getElem_cons_succ, List.setIfInBounds_toArray, List.set_cons_zero, List.set_cons_succ]
          refine wpAnyH_take (i := 6) (v := .agg (fdL lb lo n lc sb1 sb2 c5).toArray) rfl (by kernel_rfl) (by kernel_rfl) (by kernel_rfl) (fun _ _ _ h => h) (Or.inl ⟨by rfl, (fun W hSw => sload_run FdK (.tmp 2) rfl rfl (HFW.out W hSw).2.1 rfl)⟩) (by assumption) ?_
          try simp only [Act.put, List.getElem_toArray, List.getElem_cons_zero, List.getElem_cons_succ, List.setIfInBounds_toArray, List.set_cons_zero, List.set_cons_succ]
          refine wpAnyH_take (i := 7) (v := .int .i64 (a : Int)) rfl (by kernel_rfl) (by kernel_rfl) (by kernel_rfl) (fun _ _ _ h => h) (Or.inl ⟨by rfl, ?_⟩) (by assumption) ?_
          case refine_1 => intro W hSw; go_simp; try rfl
          try simp only [Act.put, List.getElem_toArray, List.getElem_cons_zero, List.getElem_cons_succ, List.setIfInBounds_toArray, List.set_cons_zero, List.set_cons_succ]
          refine wpAnyH_take (i := 8) (v := .int .i64 (y : Int)) rfl (by kernel_rfl) (by kernel_rfl) (by kernel_rfl) (fun _ _ _ h => h) (Or.inl ⟨by rfl, ?_⟩) (by assumption) ?_
          case refine_1 => intro W hSw; go_simp; try rfl
          try simp only [Act.put, List.getElem_toArray, List.getElem_cons_zero, List.getElem_cons_succ, List.setIfInBounds_toArray, List.set_cons_zero, List.set_cons_succ]
          refine wpAnyH_ready (rs := [9]) (by kernel_rfl) (by simp) ?_
          refine AllReadyH.cons rfl (fun K hK => ?_) AllReadyH.nil
          go_simp
          refine (nbr_any N lb lo n lc sb1 sb2 c5 xs a y han hyn w1 (HFW.out w1 HG1.out).1 z2 HZ.out.2.1).mono ?_
          rintro e w2 ⟨rfl, hgw⟩
          have HG2 : Hid (Gw wy w2) := HG1.out.trans hgw
          clear hgw
          refine hK.out _ _ HG2.out (fun hHeld => ?_)
          clear hK K
          try simp only [Act.put, List.getElem_toArray, List.getElem_cons_zero, List.getElem_cons_succ, List.setIfInBounds_toArray, List.set_cons_zero, List.set_cons_succ]
          by_cases hz2 : z2 = 0
          case neg =>
            have hb2 : (z2 == 0) = false := by simpa using hz2
            refine wpAnyH_take (i := 10) (v := .bool false) rfl (by kernel_rfl) (by kernel_rfl) (by kernel_rfl) (fun _ _ _ h => h) (Or.inl ⟨by rfl, ?_⟩) (by assumption) ?_
            case refine_1 => intro W hSw; go_simp; try rfl
            try simp only [Act.put, List.getElem_toArray, List.getElem_cons_zero, List.getElem_cons_succ, List.setIfInBounds_toArray, List.set_cons_zero, List.set_cons_succ]
            refine wpAnyH_take (i := 11) (v := .bool false) rfl (by kernel_rfl) (by kernel_rfl) (by kernel_rfl) (fun _ _ _ h => h) (Or.inl ⟨by rfl, ?_⟩) (by assumption) ?_
            case refine_1 => intro W hSw; go_simp; try rfl
            try simp only [Act.put, List.getElem_toArray, List.getElem_cons_zero, List.getElem_cons_succ, List.setIfInBounds_toArray, List.set_cons_zero, List.set_cons_succ]
            refine wpAnyH_take (i := 12) (v := .bool false) rfl (by kernel_rfl) (by kernel_rfl) (by kernel_rfl) (fun _ _ _ h => h) (Or.inl ⟨by rfl, ?_⟩) (by assumption) ?_
            case refine_1 => intro W hSw; go_simp; try rfl
            try simp only [Act.put, List.getElem_toArray, List.getElem_cons_zero, List.getElem_cons_succ, List.setIfInBounds_toArray, List.set_cons_zero, List.set_cons_succ]
            refine wpAnyH_take (i := 13) (v := undef) rfl (by kernel_rfl) (by kernel_rfl) (by kernel_rfl) (fun _ _ _ h => h) (Or.inr ⟨by rfl, rfl⟩) (by assumption) ?_
            try simp only [Act.put, List.getElem_toArray, List.getElem_cons_zero, List.getElem_cons_succ, List.setIfInBounds_toArray, List.set_cons_zero, List.set_cons_succ]
            refine wpAnyH_take (i := 14) (v := undef) rfl (by kernel_rfl) (by kernel_rfl) (by kernel_rfl) (fun _ _ _ h => h) (Or.inr ⟨by rfl, rfl⟩) (by assumption) ?_
            try simp only [Act.put, List.getElem_toArray, List.getElem_cons_zero, List.getElem_cons_succ, List.setIfInBounds_toArray, List.set_cons_zero, List.set_cons_succ]
            refine wpAnyH_take (i := 15) (v := undef) rfl (by kernel_rfl) (by kernel_rfl) (by kernel_rfl) (fun _ _ _ h => h) (Or.inr ⟨by rfl, rfl⟩) (by assumption) ?_
            try simp only [Act.put, List.getElem_toArray, List.getElem_cons_zero, List.getElem_cons_succ, List.setIfInBounds_toArray, List.set_cons_zero, List.set_cons_succ]
            refine wpAnyH_take (i := 16) (v := undef) rfl (by kernel_rfl) (by kernel_rfl) (by kernel_rfl) (fun _ _ _ h => h) (Or.inr ⟨by rfl, rfl⟩) (by assumption) ?_
            try simp only [Act.put, List.getElem_toArray, List.getElem_cons_zero, List.getElem_cons_succ, List.setIfInBounds_toArray, List.set_cons_zero, List.set_cons_succ]
            refine wpAnyH_take (i := 17) (v := undef) rfl (by kernel_rfl) (by kernel_rfl) (by kernel_rfl) (fun _ _ _ h => h) (Or.inr ⟨by rfl, rfl⟩) (by assumption) ?_
            try simp only [Act.put, List.getElem_toArray, List.getElem_cons_zero, List.getElem_cons_succ, List.setIfInBounds_toArray, List.set_cons_zero, List.set_cons_succ]
            refine wpAnyH_take (i := 18) (v := undef) rfl (by kernel_rfl) (by kernel_rfl) (by kernel_rfl) (fun _ _ _ h => h) (Or.inr ⟨by rfl, rfl⟩) (by assumption) ?_
            try simp only [Act.put, List.getElem_toArray, List.getElem_cons_zero, List.getElem_cons_succ, List.setIfInBounds_toArray, List.set_cons_zero, List.set_cons_succ]
            refine wpAnyH_take (i := 19) (v := undef) rfl (by kernel_rfl) (by kernel_rfl) (by kernel_rfl) (fun _ _ _ h => h) (Or.inr ⟨by rfl, rfl⟩) (by assumption) ?_
            try simp only [Act.put, List.getElem_toArray, List.getElem_cons_zero, List.getElem_cons_succ, List.setIfInBounds_toArray, List.set_cons_zero, List.set_cons_succ]
            refine wpAnyH_take (i := 20) (v := undef) rfl (by kernel_rfl) (by kernel_rfl) (by kernel_rfl) (fun _ _ _ h => h) (Or.inr ⟨by rfl, rfl⟩) (by assumption) ?_
            try simp only [Act.put, List.getElem_toArray, List.getElem_cons_zero, List.getElem_cons_succ, List.setIfInBounds_toArray, List.set_cons_zero, List.set_cons_succ]
            refine wpAnyH_take (i := 21) (v := .bool false) rfl (by kernel_rfl) (by kernel_rfl) (by kernel_rfl) (fun _ _ _ h => h) (Or.inl ⟨by rfl, ?_⟩) (by assumption) ?_
            case refine_1 => intro W hSw; go_simp; try rfl
            try simp only [Act.put, List.getElem_toArray, List.getElem_cons_zero, List.getElem_cons_succ, List.setIfInBounds_toArray, List.set_cons_zero, List.set_cons_succ]
            refine wpAnyH_done (by kernel_rfl) ?_ _
            clear hHeld
            go_wp2_with fail
            go_meet
            exact ⟨false, rfl, (⟨fun h => (by cases h), fun h => absurd (HL.out.1 h).2.1 hz2⟩ : _ ↔ _), HG2⟩
          case pos =>
            have hb2 : (z2 == 0) = true := by simpa using hz2
            refine wpAnyH_take (i := 10) (v := .bool true) rfl (by kernel_rfl) (by kernel_rfl) (by kernel_rfl) (fun _ _ _ h => h) (Or.inl ⟨by rfl, ?_⟩) (by assumption) ?_
            case refine_1 => intro W hSw; go_simp; try rfl
            try simp only [Act.put, List.getElem_toArray, List.getElem_cons_zero, List.getElem_cons_succ, List.setIfInBounds_toArray, List.set_cons_zero, List.set_cons_succ]
            refine wpAnyH_take (i := 11) (v := .bool true) rfl (by kernel_rfl) (by kernel_rfl) (by kernel_rfl) (fun _ _ _ h => h) (Or.inl ⟨by rfl, ?_⟩) (by assumption) ?_
            case refine_1 => intro W hSw; go_simp; try rfl
            try simp only [Act.put, List.getElem_toArray, List.getElem_cons_zero, List.getElem_cons_succ, List.setIfInBounds_toArray, List.set_cons_zero, List.set_cons_succ]
            refine wpAnyH_take (i := 12) (v := .bool true) rfl (by kernel_rfl) (by kernel_rfl) (by kernel_rfl) (fun _ _ _ h => h) (Or.inl ⟨by rfl, ?_⟩) (by assumption) ?_
            case refine_1 => intro W hSw; go_simp; try rfl
            try simp only [Act.put, List.getElem_toArray, List.getElem_cons_zero, List.getElem_cons_succ, List.setIfInBounds_toArray, List.set_cons_zero, List.set_cons_succ]
            refine wpAnyH_take (i := 13) (v := .agg (fdL lb lo n lc sb1 sb2 c5).toArray) rfl (by kernel_rfl) (by kernel_rfl) (by kernel_rfl) (fun _ _ _ h => h) (Or.inl ⟨by rfl, (fun W hSw => sload_run FdK (.tmp 2) rfl rfl (HFW.out W hSw).2.1 rfl)⟩) (by assumption) ?_
            try simp only [Act.put, List.getElem_toArray, List.getElem_cons_zero, List.getElem_cons_succ, List.setIfInBounds_toArray, List.set_cons_zero, List.set_cons_succ]
            refine wpAnyH_take (i := 14) (v := .slice (some ⟨g5, 0, none⟩) n n) rfl (by kernel_rfl) (by kernel_rfl) (by kernel_rfl) (fun _ _ _ h => h) (Or.inl ⟨by rfl, ?_⟩) (by assumption) ?_
            case refine_1 => intro W hSw; go_simp; try rfl
            try simp only [Act.put, List.getElem_toArray, List.getElem_cons_zero, List.getElem_cons_succ, List.setIfInBounds_toArray, List.set_cons_zero, List.set_cons_succ]
            refine wpAnyH_take (i := 15) (v := .int .i64 (a : Int)) rfl (by kernel_rfl) (by kernel_rfl) (by kernel_rfl) (fun _ _ _ h => h) (Or.inl ⟨by rfl, ?_⟩) (by assumption) ?_
            case refine_1 => intro W hSw; go_simp; try rfl
            try simp only [Act.put, List.getElem_toArray, List.getElem_cons_zero, List.getElem_cons_succ, List.setIfInBounds_toArray, List.set_cons_zero, List.set_cons_succ]
            refine wpAnyH_take (i := 16) (v := .pointer (some ⟨g5, a, none⟩)) rfl (by kernel_rfl) (by kernel_rfl) (by kernel_rfl) (fun _ _ _ h => h) (Or.inl ⟨by rfl, ?_⟩) (by assumption) ?_
            case refine_1 => intro W hSw; go_simp; try rfl
            try simp only [Act.put, List.getElem_toArray, List.getElem_cons_zero, List.getElem_cons_succ, List.setIfInBounds_toArray, List.set_cons_zero, List.set_cons_succ]
            refine wpAnyH_take (i := 17) (v := .int .i64 (u : Int)) rfl (by kernel_rfl) (by kernel_rfl) (by kernel_rfl) (fun _ _ _ h => h) (Or.inl ⟨by rfl, ?_⟩) (by assumption) ?_
            case refine_1 => intro W hSw; have k1 := (HFW.out W hSw).2.2; go_simp; try rfl
            try simp only [Act.put, List.getElem_toArray, List.getElem_cons_zero, List.getElem_cons_succ, List.setIfInBounds_toArray, List.set_cons_zero, List.set_cons_succ]
            refine wpAnyH_take (i := 18) (v := .int .i64 (y : Int)) rfl (by kernel_rfl) (by kernel_rfl) (by kernel_rfl) (fun _ _ _ h => h) (Or.inl ⟨by rfl, ?_⟩) (by assumption) ?_
            case refine_1 => intro W hSw; go_simp; try rfl
            try simp only [Act.put, List.getElem_toArray, List.getElem_cons_zero, List.getElem_cons_succ, List.setIfInBounds_toArray, List.set_cons_zero, List.set_cons_succ]
            refine wpAnyH_ready (rs := [19]) (by kernel_rfl) (by simp) ?_
            refine AllReadyH.cons rfl (fun K hK => ?_) AllReadyH.nil
            go_simp
            refine (late_any N lb lo n lc sb1 sb2 c5 xs u y hun hyn w2 (HFW.out w2 HG2.out).1 z3 HZ.out.2.2).mono ?_
            rintro e w3 ⟨rfl, hgw⟩
            have HG3 : Hid (Gw wy w3) := HG2.out.trans hgw
            clear hgw
            refine hK.out _ _ HG3.out (fun hHeld => ?_)
            clear hK K
            try simp only [Act.put, List.getElem_toArray, List.getElem_cons_zero, List.getElem_cons_succ, List.setIfInBounds_toArray, List.set_cons_zero, List.set_cons_succ]
            by_cases hz3 : 0 < z3
            case pos =>
              have hb3 : decide (0 < z3) = true := decide_eq_true hz3
              refine wpAnyH_take (i := 20) (v := .bool true) rfl (by kernel_rfl) (by kernel_rfl) (by kernel_rfl) (fun _ _ _ h => h) (Or.inl ⟨by rfl, ?_⟩) (by assumption) ?_
              case refine_1 => intro W hSw; go_simp; try rfl
              try simp only [Act.put, List.getElem_toArray, List.getElem_cons_zero, List.getElem_cons_succ, List.setIfInBounds_toArray, List.set_cons_zero, List.set_cons_succ]
              refine wpAnyH_take (i := 21) (v := .bool true) rfl (by kernel_rfl) (by kernel_rfl) (by kernel_rfl) (fun _ _ _ h => h) (Or.inl ⟨by rfl, ?_⟩) (by assumption) ?_
              case refine_1 => intro W hSw; go_simp; try rfl
              try simp only [Act.put, List.getElem_toArray, List.getElem_cons_zero, List.getElem_cons_succ, List.setIfInBounds_toArray, List.set_cons_zero, List.set_cons_succ]
              refine wpAnyH_done (by kernel_rfl) ?_ _
              clear hHeld
              go_wp2_with fail
              go_meet
              exact ⟨true, rfl, (⟨fun _ => HL.out.2 ⟨hz1, hz2, hz3⟩, fun _ => rfl⟩ : _ ↔ _), HG3⟩
            case neg =>
              have hb3 : decide (0 < z3) = false := decide_eq_false hz3
              refine wpAnyH_take (i := 20) (v := .bool false) rfl (by kernel_rfl) (by kernel_rfl) (by kernel_rfl) (fun _ _ _ h => h) (Or.inl ⟨by rfl, ?_⟩) (by assumption) ?_
              case refine_1 => intro W hSw; go_simp; try rfl
              try simp only [Act.put, List.getElem_toArray, List.getElem_cons_zero, List.getElem_cons_succ, List.setIfInBounds_toArray, List.set_cons_zero, List.set_cons_succ]
              refine wpAnyH_take (i := 21) (v := .bool false) rfl (by kernel_rfl) (by kernel_rfl) (by kernel_rfl) (fun _ _ _ h => h) (Or.inl ⟨by rfl, ?_⟩) (by assumption) ?_
              case refine_1 => intro W hSw; go_simp; try rfl
              try simp only [Act.put, List.getElem_toArray, List.getElem_cons_zero, List.getElem_cons_succ, List.setIfInBounds_toArray, List.set_cons_zero, List.set_cons_succ]
              refine wpAnyH_done (by kernel_rfl) ?_ _
              clear hHeld
              go_wp2_with fail
              go_meet
              exact ⟨false, rfl, (⟨fun h => (by cases h), fun h => (by have h9 := (HL.out.1 h).2.2; omega)⟩ : _ ↔ _), HG3⟩
      case rest =>
        obtain ⟨qb, rfl, HQB, HGW⟩ := hcut
        have HO4 : Hid (OwnL EN (bf + 1) wc (.slice (some ⟨g5, 0, none⟩) n n) (((List.range n).map (laP xs ps k)).set y y)) := HO2.out.blk (fun g e => HGW.out.bel.block g ((HO2.out.row.lt g e).2))
        have HS4 : Hid (SB FdK bf (fdL lb lo n lc sb1 sb2 c5) wc) := (HFW.out wc HGW.out).2.1
        have HB4 : Hid (Below w.heap.size w wc) := HB2.out.trans (HGW.out.bel.mono HB2.out.size)
        have c7 : wc.cell? ⟨g5, a, none⟩ = some (.int .i64 (u : Int)) := (HFW.out wc HGW.out).2.2
        cases qb
        case false =>
          have HO3 : Hid (OwnL EN (bf + 1) wc (.slice (some ⟨g5, 0, none⟩) n n) ((List.range n).map (laP xs ps (k + 1)))) := by
            rw [← laP_keep HY.out (fun h => by
              rw [HA.out] at h
              have := HQB.out.2 h.2
              cases this)]
            exact HO4.out
          go_wp2_with fail
          refine ⟨⟨⟨k + 1, by omega, by simp, HO3.out⟩, HS4.out, HB4.out⟩, ?_⟩
          simp [intOf]
          omega
        case true =>
          obtain ⟨e1, e2, e3, e4⟩ := en_set HO4.out hyn u
          have HO3 : Hid (OwnL EN (bf + 1) (wc.setCell ⟨g5, y, none⟩ (.int .i64 (u : Int))) (.slice (some ⟨g5, 0, none⟩) n n) ((List.range n).map (laP xs ps (k + 1)))) := by
            have h5 := HU.out
            rw [← HA.out] at h5
            have h6 := laP_turn (n := n) HY.out (⟨hk1, by rw [HA.out]; exact HQB.out.1 rfl⟩ : 0 < k ∧ laC xs (laP xs ps k) (ps.getD (k - 1) 0) y)
            rw [h5] at h6
            rw [← h6]
            exact e3
          have HS3 : Hid (SB FdK bf (fdL lb lo n lc sb1 sb2 c5) (wc.setCell ⟨g5, y, none⟩ (.int .i64 (u : Int)))) := HS4.out.blk ((Ko.set wc g5 y _).block bf (by omega))
          have HB3 : Hid (Below w.heap.size w (wc.setCell ⟨g5, y, none⟩ (.int .i64 (u : Int)))) := HB4.out.trans ((Ko.set wc g5 y _).below (by have := HBF.out; omega))
          generalize ((((List.range n).map (laP xs ps k)).set y y).getD y 0) = old2 at e1
          clear e3 e4
          go_wp2_with fail
          refine ⟨⟨⟨k + 1, by omega, by simp, HO3.out⟩, HS3.out, HB3.out⟩, ?_⟩
          simp [intOf]
          omega
end Go.Proofs.Ytkahjibdmhaglaa.Ch
