/- machine.takes and Match: what each answers. -/
import Derived.Test.YtagfdmkgnedlbagPoI
import Derived.Test.YtagfdmkgnedlbagPoH
import Derived.Laws.OwnMore
namespace Go.Proofs.Ytagfdmkgnedlbag.Po
open Go.ChangeShapes Go.WideShapes Go.ChangeAt Go.RowKit Go.Joins Go.Proofs.Ytagfdmkgnedlbag.Ge
set_option linter.unusedVariables false

/-- make, as one step of a region that draws -/
theorem step_makeI {ops : Array Oper} {o : Oper} {a : Act} {Q : Exit → Act → World → Prop} {K : Act → World → Prop} {X : Prop} (hgd : o.guard = none) (l c : Operand) (hop : o.op = Op.makeSlice 25 l c) (w : World)
    (base n : Nat) (hl : a.eval l = .int .i64 (n : Int)) (hc : a.eval c = .int .i64 (n : Int)) (hn : n ≤ 1099511627775) (hb : base ≤ w.heap.size)
    (hK : ∀ w', Hid (OwnL EI base w' (.slice (some ⟨w.heap.size, 0, none⟩) n n) (List.replicate n 0)) → Hid (w.grownBy w' none) → K (a.put o.dst (.slice (some ⟨w.heap.size, 0, none⟩) n n)) w') :
    if Region.wanted o (yielded ops a.tmps) = true then Oper.wp Try.prog o a w K Q else X := by
  have hw : Region.wanted o (yielded ops a.tmps) = true := by simp [Region.wanted, hgd]
  rw [if_pos hw]
  obtain ⟨i0, hi, hz0, hz1, hz2⟩ := info_of EI.hi
  obtain ⟨w', hrun, r1, r2⟩ := run_make_full (P := Try.prog) w base 25 3 i0 EI.z 1 EI.ht hi hz0 hz1 .i64 .i64 n (by rw [hz2]; show 8 * n ≤ _; omega) (by unfold maxLen; omega) hb
  unfold Oper.wp
  simp [execOp, hop, hl, hc, hrun, Result.andThen]
  refine hK w' ⟨?_⟩ r2
  have e1 : (madeCells EI.z.cells (n * 1)).toList = EI.cs (List.replicate n 0) := by
    rw [Nat.mul_one]
    have e2 : EI.z.cells = #[Value.int .i64 0] := rfl
    rw [e2, toList_madeCells_one]
    simp [El.cs, EI, List.flatMap_replicate]
  rw [e1] at r1
  show w'.ownsRow base EI.e 1 _ _ _
  rw [List.length_replicate]
  exact r1
/-- a front that was just made -/
theorem fm_new {N : Nat} {W : World} {bf g L : Nat} {sv : Value} {c : Nat} (hv : W.heap[bf]? = some (Obj.cells #[sv, .slice none 0 0, .slice none 0 0, .slice (some ⟨g, 0, none⟩) L c, .int .i64 1] 45)) (ho : OwnL EI N W (.slice (some ⟨g, 0, none⟩) L c) (List.replicate L 0)) (hne : g ≠ bf) (hlo : N ≤ bf) : Fm N W bf sv [] [] (List.replicate L 0) 1 none none (some g) :=
  ⟨⟨_, _, _, hv, OwnL.nil _ _ _, OwnL.nil _ _ _, ho, rfl, rfl, rfl⟩, fun e => by (cases e), fun e => by (cases e), fun e => hne (Option.some.inj e), fun g e => by (cases e), fun g e => by (cases e), fun g e => by (cases e), hlo⟩
/-- how far a path was read -/
structure TI (N : Nat) (bf : Nat) (sv : Value) (T : List St) (b : Nat) (xs : List Int) (oc : Option Nat) (w : World) (j : Nat) (A P : List Nat) (C : List Int) (oa op : Option Nat) (wr : World) : Prop where
  fm : Fm N wr bf sv A P C ((j : Int) + 1) oa op oc
  fi : Fi T.length ((j : Int) + 1) A C
  mem : ∀ t, t ∈ A ↔ Rch T b (xs.take j) t
  bel : Below N w wr
theorem TI.cells {N : Nat} {bf : Nat} {sv : Value} {T : List St} {b : Nat} {xs : List Int} {oc : Option Nat} {w : World} {j : Nat} {A P : List Nat} {C : List Int} {oa op : Option Nat} {wr : World} (h : TI N bf sv T b xs oc w j A P C oa op wr) (h2 : 0 < T.length) : ∃ g c x, wr.cell? ⟨bf, 3, none⟩ = some (.slice (some ⟨g, 0, none⟩) T.length c) ∧ wr.cell? ⟨bf, 4, none⟩ = some (.int .i64 ((j : Int) + 1)) ∧ wr.cell? ⟨g, 0, none⟩ = some (.int .i64 x) ∧ (x = (j : Int) + 1 ↔ Rch T b (xs.take j) 0) := by
  have h0 : 0 < C.length := by rw [h.fi.len]; exact h2
  obtain ⟨g, c, -, c3, cg, -⟩ := fm_mark h.fm h0 0
  refine ⟨g, c, C[0], by rw [← h.fi.len]; exact c3, ?_, cg, ?_⟩
  · obtain ⟨av, pv, cv, h1, -⟩ := h.fm.box
    exact (box_at h1).1
  · rw [← h.mem 0, ← h.fi.mem 0 h2, List.getElem?_eq_getElem h0]
    exact ⟨fun e => by rw [e], fun e => Option.some.inj e⟩
set_option maxRecDepth 100000 in
set_option maxHeartbeats 8000000 in
theorem takes_any (bm : Nat) (T : List St) (b : Nat) (aS : Option Addr) (cS : Nat) (va : Option Addr) (ca : Nat) (xs : List Int) (ln : Nat) (hln : xs.length = ln) (w : World) (hL : T.length ≤ 1099511627775) (hln2 : ln ≤ 1099511627775) (hb : b < T.length) (h2 : 2 ≤ T.length) (hM : Mm w bm T b aS cS) (hx : Lst EI w va xs) (r : Bool) (hr : r = true ↔ Rch T b xs 0) :
    Calls Try.prog 13 #[.pointer (some ⟨bm, 0, none⟩), .slice va ln ca] w fun e w' => e = .returned (.bool r) ∧ Below w.heap.size w w' := by
  have HM : Hid (Mm w bm T b aS cS) := hM
  have HX : Hid (Lst EI w va xs) := hx
  have HR : Hid (r = true ↔ Rch T b xs 0) := hr
  have HT : Hid (Ts w.heap.size w aS T) := hM.ts
  have m0 : w.cell? ⟨bm, 0, none⟩ = some (.slice aS T.length cS) := (box_at hM.box).1
  have hbm : bm < w.heap.size := (Array.getElem?_eq_some_iff.1 hM.box).1
  obtain ⟨L, hLe⟩ : ∃ L, T.length = L := ⟨_, rfl⟩
  rw [hLe] at m0 hL hb h2
  obtain ⟨s, hs⟩ : ∃ s, w.heap.size = s := ⟨_, rfl⟩
  have H1 : Hid (∀ W, Below w.heap.size w W → W.cell? ⟨bm, 1, none⟩ = some (.int .i64 (b : Int))) := fun W hW => (box_at ((hW.block bm hbm).trans HM.out.box)).1
  have H0 : Hid (∀ W, Below w.heap.size w W → W.cell? ⟨bm, 0, none⟩ = some (.slice aS L cS)) := fun W hW => (World.cell?_of_block (w := w) (hW.block bm hbm)).trans m0
  clear hM hx hr
  obtain ⟨wD, hwD⟩ : ∃ wD, w.drew = wD := ⟨_, rfl⟩
  have HD : Hid (Below w.heap.size w wD) := by rw [← hwD]; exact drewB w
  have hsD : wD.heap.size = s := by rw [← hwD]; exact hs
  go_enter Try.func13, Try.ntmps13
  go_wp2_with fail
  refine wp_region_held_drew (S := fun W => W.cell? ⟨bm, 0, none⟩ = some (.slice aS L cS)) (by kernel_rfl) (by rw [hwD]; exact H0.out wD HD.out) (fun hHeld => ?_)
  rw [hwD] at hHeld ⊢
  refine wpAnyH_take (i := 0) (v := ?_) rfl (by kernel_rfl) (by kernel_rfl) (by kernel_rfl) (fun _ _ _ h => h) (Or.inl ⟨by rfl, ?_⟩) (by assumption) ?_
  case refine_2 => intro W hSw; go_simp; try rfl
  try simp only [Act.put, List.getElem_toArray, List.getElem_cons_zero, List.setIfInBounds_toArray, List.set_cons_zero, List.set_cons_succ]
  refine wpAnyH_take (i := 1) (v := ?_) rfl (by kernel_rfl) (by kernel_rfl) (by kernel_rfl) (fun _ _ _ h => h) (Or.inl ⟨by rfl, ?_⟩) (by assumption) ?_
  case refine_2 => intro W hSw; go_simp; try rfl
  try simp only [Act.put, List.getElem_toArray, List.getElem_cons_zero, List.getElem_cons_succ, List.setIfInBounds_toArray, List.set_cons_zero, List.set_cons_succ]
  refine wpAnyH_take (i := 2) (v := ?_) rfl (by kernel_rfl) (by kernel_rfl) (by kernel_rfl) (fun _ _ _ h => h) (Or.inl ⟨by rfl, ?_⟩) (by assumption) ?_
  case refine_2 => intro W hSw; go_simp; try rfl
  try simp only [Act.put, List.getElem_toArray, List.getElem_cons_zero, List.getElem_cons_succ, List.setIfInBounds_toArray, List.set_cons_zero, List.set_cons_succ]
  refine wpAnyH_take (i := 3) (v := ?_) rfl (by kernel_rfl) (by kernel_rfl) (by kernel_rfl) (fun _ _ _ h => h) (Or.inl ⟨by rfl, ?_⟩) (by assumption) ?_
  case refine_2 => intro W hSw; go_simp; try rfl
  try simp only [Act.put, List.getElem_toArray, List.getElem_cons_zero, List.getElem_cons_succ, List.setIfInBounds_toArray, List.set_cons_zero, List.set_cons_succ]
  refine wpAnyH_take (i := 4) (v := ?_) rfl (by kernel_rfl) (by kernel_rfl) (by kernel_rfl) (fun _ _ _ h => h) (Or.inl ⟨by rfl, ?_⟩) (by assumption) ?_
  case refine_2 => intro W hSw; go_simp; try rfl
  try simp only [Act.put, List.getElem_toArray, List.getElem_cons_zero, List.getElem_cons_succ, List.setIfInBounds_toArray, List.set_cons_zero, List.set_cons_succ]
  refine wpAnyH_take (i := 5) (v := ?_) rfl (by kernel_rfl) (by kernel_rfl) (by kernel_rfl) (fun _ _ _ h => h) (Or.inl ⟨by rfl, ?_⟩) (by assumption) ?_
  case refine_2 => intro W hSw; go_simp; try rfl
  try simp only [Act.put, List.getElem_toArray, List.getElem_cons_zero, List.getElem_cons_succ, List.setIfInBounds_toArray, List.set_cons_zero, List.set_cons_succ]
  refine wpAnyH_take (i := 6) (v := ?_) rfl (by kernel_rfl) (by kernel_rfl) (by kernel_rfl) (fun _ _ _ h => h) (Or.inl ⟨by rfl, ?_⟩) (by assumption) ?_
  case refine_2 => intro W hSw; go_simp; try rfl
  try simp only [Act.put, List.getElem_toArray, List.getElem_cons_zero, List.getElem_cons_succ, List.setIfInBounds_toArray, List.set_cons_zero, List.set_cons_succ]
  refine wpAnyH_take (i := 7) (v := ?_) rfl (by kernel_rfl) (by kernel_rfl) (by kernel_rfl) (fun _ _ _ h => h) (Or.inl ⟨by rfl, ?_⟩) (by assumption) ?_
  case refine_2 => intro W hSw; go_simp; try rfl
  try simp only [Act.put, List.getElem_toArray, List.getElem_cons_zero, List.getElem_cons_succ, List.setIfInBounds_toArray, List.set_cons_zero, List.set_cons_succ]
  refine wpAnyH_take (i := 8) (v := ?_) rfl (by kernel_rfl) (by kernel_rfl) (by kernel_rfl) (fun _ _ _ h => h) (Or.inl ⟨by rfl, ?_⟩) (by assumption) ?_
  case refine_2 => intro W hSw; go_simp; try rfl
  try simp only [Act.put, List.getElem_toArray, List.getElem_cons_zero, List.getElem_cons_succ, List.setIfInBounds_toArray, List.set_cons_zero, List.set_cons_succ]
  refine wpAnyH_ready (rs := [9, 11]) (by kernel_rfl) (by simp) ?_
  refine AllReadyH.cons rfl (fun K hK => ?_) (AllReadyH.cons rfl (fun K hK => ?_) (AllReadyH.nil))
  · refine step_makeI rfl _ _ rfl wD s L rfl rfl hL (by omega) ?_
    intro w3 ho3 hg3
    have HB3 : Hid (Below wD.heap.size wD w3) := ⟨hg3.out.os, hg3.out.tape, hg3.out.output, hg3.out.size, fun k hk => hg3.out.block k hk (fun e => by cases e)⟩
    have HB3w : Hid (Below w.heap.size w w3) := HD.out.trans (HB3.out.mono HD.out.size)
    have hgl : s < w3.heap.size := by have := (ho3.out.row.lt wD.heap.size rfl).2; omega
    rw [hsD] at ho3
    have HO3 : Hid (OwnL EI s w3 (.slice (some ⟨s, 0, none⟩) L L) (List.replicate L 0)) := ho3.out
    clear ho3 hg3
    refine hK.out _ _ (H0.out w3 HB3w.out) (fun hHeld => ?_)
    clear hK K
    try simp only [Act.put, List.getElem_toArray, List.getElem_cons_zero, List.getElem_cons_succ, List.setIfInBounds_toArray, List.set_cons_zero, List.set_cons_succ]
    refine wpAnyH_take (i := 10) (v := ?_) rfl (by kernel_rfl) (by kernel_rfl) (by kernel_rfl) (fun _ _ _ h => h) (Or.inl ⟨by rfl, ?_⟩) (by assumption) ?_
    case refine_2 => intro W hSw; go_simp; try rfl
    try simp only [Act.put, List.getElem_toArray, List.getElem_cons_zero, List.getElem_cons_succ, List.setIfInBounds_toArray, List.set_cons_zero, List.set_cons_succ]
    refine wpAnyH_ready (rs := [11]) (by kernel_rfl) (by simp) ?_
    refine AllReadyH.cons rfl (fun K hK => ?_) (AllReadyH.nil)
    have HAL : Hid (∀ ob : Obj, Below w.heap.size w (w3.alloc ob)) := fun ob => HB3w.out.alloc HB3w.out.size ob
    go_simp
    refine hK.out _ _ (H0.out _ (HAL.out _)) (fun hHeld => ?_)
    clear hK K
    try simp only [Act.put, List.getElem_toArray, List.getElem_cons_zero, List.getElem_cons_succ, List.setIfInBounds_toArray, List.set_cons_zero, List.set_cons_succ]
    refine wpAnyH_ready (rs := [12]) (by kernel_rfl) (by simp) ?_
    refine AllReadyH.cons rfl (fun K hK => ?_) (AllReadyH.nil)
    go_simp
    refine hK.out _ _ (H0.out _ (HAL.out _)) (fun hHeld => ?_)
    clear hK K
    try simp only [Act.put, List.getElem_toArray, List.getElem_cons_zero, List.getElem_cons_succ, List.setIfInBounds_toArray, List.set_cons_zero, List.set_cons_succ]
    refine wpAnyH_done (by kernel_rfl) ?_ _
    obtain ⟨bf, hbf⟩ : ∃ z, w3.heap.size = z := ⟨_, rfl⟩
    obtain ⟨w5, hw5⟩ : ∃ w5, w3.alloc (Obj.cells #[.slice aS L cS, .slice none 0 0, .slice none 0 0, .slice (some ⟨s, 0, none⟩) L L, .int .i64 1] 45) = w5 := ⟨_, rfl⟩
    have HB5 : Hid (Below w.heap.size w w5) := by rw [← hw5]; exact HAL.out _
    obtain ⟨g, hg⟩ : ∃ g, s = g := ⟨_, rfl⟩
    have hfm : Fm s w5 bf (.slice aS L cS) [] [] (List.replicate L 0) 1 none none (some g) := by
      rw [← hg]
      refine fm_new (by rw [← hw5, ← hbf]; exact World.alloc_heap_new w3 _) (HO3.out.bel (by rw [← hw5]; exact (Below.refl _ w3).alloc (Nat.le_refl _) _)) (by omega) (by omega)
    rw [hw5, hbf]
    clear hw5 hHeld HO3 HAL
    have HFM : Hid (Fm s w5 bf (.slice aS L cS) [] [] (List.replicate L 0) 1 none none (some g)) := hfm
    have m1 : w5.cell? ⟨bm, 1, none⟩ = some (.int .i64 (b : Int)) := H1.out w5 HB5.out
    have HB5s : Hid (Below s w w5) := by rw [← hs]; exact HB5.out
    have HTs : Hid (Ts s w aS T) := by rw [← hs]; exact HT.out
    have HRE := reach_any s bf (.slice aS L cS) [] [] (List.replicate L 0) 1 none none (some g) L b hL hb w5 HFM.out (Fi.first L)
    clear hfm
    go_wp2_with fail
    refine HRE.mono ?_
    rintro e w6 ⟨⟨u, rfl⟩, A1, C1, oa1, hfm1, hfi1, hmem1, -, hkf1⟩
    have HB6 : Hid (Below s w w6) := HB5s.out.trans (HFM.out.under hkf1)
    have HSP := spread_any s bf aS cS T A1 [] C1 1 oa1 none (some g) (by rw [hLe]; exact hL) w6 (by rw [hLe]; exact hfm1) (by rw [hLe]; exact hfi1) (HTs.out.bel HB6.out)
    rw [hLe] at HSP
    have HME1 : Hid (∀ t, t ∈ A1 ↔ t = b) := fun t => by rw [hmem1 t]; simp
    clear hfm1 hfi1 hmem1 hkf1 HRE m1
    go_wp2_with fail
    refine HSP.mono ?_
    rintro e w7 ⟨⟨u2, rfl⟩, A2, C2, oa2, hfm2, hfi2, hspr2, hb2⟩
    have HI : Hid (TI s bf (.slice aS L cS) T b xs (some g) w 0 A2 [] C2 oa2 none w7) := by
      refine ⟨hfm2, hfi2, fun t => ?_, HB6.out.trans hb2⟩
      rw [hspr2 t, List.take_zero]
      constructor
      · rintro ⟨q, hq, hr⟩
        rw [(HME1.out q).1 hq] at hr
        exact hr
      · intro hr
        exact ⟨b, (HME1.out b).2 rfl, hr⟩
    clear hfm2 hfi2 hspr2 hb2 HSP
    go_wp2_with fail
    go_loopw [27] (fun iv wr => ∃ (j : Nat) (A P : List Nat) (C : List Int) (oa op : Option Nat), j ≤ ln ∧ iv = .int .i64 (j : Int) ∧ TI s bf (.slice aS L cS) T b xs (some g) w j A P C oa op wr) (fun i _ => ln - (intOf i).toNat)
    case atStart => exact ⟨0, A2, [], C2, oa2, none, Nat.zero_le _, rfl, HI.out⟩
    case round =>
      obtain ⟨j, A, P, C, oa, op, hj, rfl, hti⟩ := hrel
      have HTI : Hid (TI s bf (.slice aS L cS) T b xs (some g) w j A P C oa op wr) := hti
      clear hti
      by_cases hlt : j < ln
      · have hjx : j < xs.length := by omega
        obtain ⟨pb, po, rfl, hpl, hpc⟩ := HX.out.cells j hjx
        have x0 : wr.cell? ⟨pb, po + j, none⟩ = some (.int .i64 xs[j]) := by
          have h3 := hpc 0 (by decide)
          have e0 : po + j * EI.k + 0 = po + j := by show po + j * 1 + 0 = po + j; omega
          rw [e0] at h3
          exact (World.cell?_of_block (w := w) (HTI.out.bel.block pb (by omega))).trans h3
        have HXJ : Hid (xs.take (j + 1) = xs.take j ++ [xs[j]]) := List.take_succ_eq_append_getElem hjx
        obtain ⟨x, hxx⟩ : ∃ x, xs[j] = x := ⟨_, rfl⟩
        rw [hxx] at x0 HXJ
        have jj : (j : Int) < ln := by omega
        have j0 : (0 : Int) ≤ j := by omega
        have HAD := advance_any s bf aS cS T A P C ((j : Int) + 1) x oa op (some g) (by rw [hLe]; exact hL) (by omega) (by omega) wr (by rw [hLe]; exact HTI.out.fm) HTI.out.fi (HTs.out.bel HTI.out.bel)
        rw [hLe] at HAD
        clear hpc hxx
        go_wp2_with fail
        refine HAD.mono ?_
        rintro e w8 ⟨⟨u3, rfl⟩, A3, P3, C3, oa3, op3, B3, hfm3, hfi3, hB3, hspr3, hb3⟩
        have HN : Hid (TI s bf (.slice aS L cS) T b xs (some g) w (j + 1) A3 P3 C3 oa3 op3 w8) := by
          have e1 : ((j + 1 : Nat) : Int) + 1 = (j : Int) + 1 + 1 := by omega
          refine ⟨by rw [e1]; exact hfm3, by rw [e1]; exact hfi3, fun t => ?_, HTI.out.bel.trans hb3⟩
          rw [HXJ.out]
          exact spr_next HTI.out.mem hB3 hspr3 t
        clear hfm3 hfi3 hB3 hspr3 hb3 HAD
        go_wp2_with fail
        exact ⟨⟨j + 1, A3, P3, C3, oa3, op3, by omega, by simp, HN.out⟩, by simp [intOf]; omega⟩
      · obtain rfl : j = ln := by omega
        obtain ⟨g', cg, x, c3, c4, cx, hxr⟩ := HTI.out.cells (by rw [hLe]; omega)
        rw [hLe] at c3
        have HRX : Hid ((x = (j : Int) + 1) = (r = true)) := by
          show (_ : Prop) = _
          rw [hxr, ← hln, List.take_length]
          exact propext HR.out.symm
        have HBF : Hid (Below w.heap.size w wr) := by rw [hs]; exact HTI.out.bel
        have L0 : (0 : Int) < L := by omega
        have L0n : 0 < L := by omega
        clear hxr
        have HRR : Hid ((x == (j : Int) + 1) = r) := by
          show _ = _
          rw [Bool.eq_iff_iff, ← HRX.out]
          simp
        clear HRX
        go_wp2_with fail
        go_still_tail 7, (by kernel_rfl)
        obtain ⟨w9, hw9⟩ : ∃ w9, ({ wr with drawn := wr.drawn + 1 } : World) = w9 := ⟨_, rfl⟩
        have HB9 : Hid (Below w.heap.size w w9) := HBF.out.trans (by rw [← hw9]; exact ⟨rfl, rfl, rfl, Nat.le_refl _, fun _ _ => rfl⟩)
        rw [hw9]
        go_wp2_with fail
        go_ret
        exact ⟨congrArg (fun b => Ending.returned (Value.bool b)) HRR.out, HB9.out⟩
  · have HAL : Hid (∀ ob : Obj, Below w.heap.size w (wD.alloc ob)) := fun ob => HD.out.alloc HD.out.size ob
    go_simp
    refine hK.out _ _ (H0.out _ (HAL.out _)) (fun hHeld => ?_)
    clear hK K
    try simp only [Act.put, List.getElem_toArray, List.getElem_cons_zero, List.getElem_cons_succ, List.setIfInBounds_toArray, List.set_cons_zero, List.set_cons_succ]
    obtain ⟨w3, hw3⟩ : ∃ w3, wD.alloc (Obj.cells #[.slice none 0 0, .slice none 0 0, .slice none 0 0, .slice none 0 0, .int .i64 0] 45) = w3 := ⟨_, rfl⟩
    have HB3 : Hid (Below w.heap.size w w3) := by rw [← hw3]; exact HAL.out _
    have hs3 : w3.heap.size = s + 1 := by rw [← hw3, ← hsD]; simp
    have hx3 : w3.heap[s]? = some (Obj.cells #[.slice none 0 0, .slice none 0 0, .slice none 0 0, .slice none 0 0, .int .i64 0] 45) := by rw [← hw3, ← hsD]; exact World.alloc_heap_new wD _
    try rw [hw3]
    try rw [hsD]
    clear hw3 HAL
    refine wpAnyH_ready (rs := [9]) (by kernel_rfl) (by simp) ?_
    refine AllReadyH.cons rfl (fun K hK => ?_) (AllReadyH.nil)
    refine step_makeI rfl _ _ rfl w3 s L rfl rfl hL (by omega) ?_
    intro w4 ho4 hg4
    have HB4 : Hid (Below w3.heap.size w3 w4) := ⟨hg4.out.os, hg4.out.tape, hg4.out.output, hg4.out.size, fun k hk => hg4.out.block k hk (fun e => by cases e)⟩
    have HB4w : Hid (Below w.heap.size w w4) := HB3.out.trans (HB4.out.mono HB3.out.size)
    rw [hs3] at ho4
    have hx4 : w4.heap[s]? = some (Obj.cells #[.slice none 0 0, .slice none 0 0, .slice none 0 0, .slice none 0 0, .int .i64 0] 45) := (HB4.out.block s (by omega)).trans hx3
    have HX4 : Hid (w4.heap[s]? = some (Obj.cells #[.slice none 0 0, .slice none 0 0, .slice none 0 0, .slice none 0 0, .int .i64 0] 45)) := hx4
    have HO4 : Hid (OwnL EI s w4 (.slice (some ⟨s + 1, 0, none⟩) L L) (List.replicate L 0)) := ho4.out
    try rw [hs3]
    clear ho4 hg4
    refine hK.out _ _ (H0.out w4 HB4w.out) (fun hHeld => ?_)
    clear hK K
    try simp only [Act.put, List.getElem_toArray, List.getElem_cons_zero, List.getElem_cons_succ, List.setIfInBounds_toArray, List.set_cons_zero, List.set_cons_succ]
    refine wpAnyH_take (i := 10) (v := ?_) rfl (by kernel_rfl) (by kernel_rfl) (by kernel_rfl) (fun _ _ _ h => h) (Or.inl ⟨by rfl, ?_⟩) (by assumption) ?_
    case refine_2 => intro W hSw; go_simp; try rfl
    try simp only [Act.put, List.getElem_toArray, List.getElem_cons_zero, List.getElem_cons_succ, List.setIfInBounds_toArray, List.set_cons_zero, List.set_cons_succ]
    obtain ⟨w5, hw5⟩ : ∃ w5, ((((w4.setCell ⟨s, 0, none⟩ (.slice aS L cS)).setCell ⟨s, 1, none⟩ (.slice none 0 0)).setCell ⟨s, 2, none⟩ (.slice none 0 0)).setCell ⟨s, 3, none⟩ (.slice (some ⟨s + 1, 0, none⟩) L L)).setCell ⟨s, 4, none⟩ (.int .i64 1) = w5 := ⟨_, rfl⟩
    have hx5 : w5.heap[s]? = some (Obj.cells #[.slice aS L cS, .slice none 0 0, .slice none 0 0, .slice (some ⟨s + 1, 0, none⟩) L L, .int .i64 1] 45) := by
      rw [← hw5, box_set (box_set (box_set (box_set (box_set hx4 _) _) _) _)]
      rfl
    have hk5 : ∀ k, k ≠ s → w5.heap[k]? = w4.heap[k]? := fun k hk => by
      rw [← hw5]
      exact (Below.heap_setCell _ ⟨s, 4, none⟩ _ k hk).trans ((Below.heap_setCell _ ⟨s, 3, none⟩ _ k hk).trans ((Below.heap_setCell _ ⟨s, 2, none⟩ _ k hk).trans ((Below.heap_setCell _ ⟨s, 1, none⟩ _ k hk).trans (Below.heap_setCell _ ⟨s, 0, none⟩ _ k hk))))
    have HB5 : Hid (Below w.heap.size w w5) := by
      rw [← hw5]
      have hsw : w.heap.size ≤ s := by omega
      exact ((((HB4w.out.setCell (p := ⟨s, 0, none⟩) hsw _).setCell (p := ⟨s, 1, none⟩) hsw _).setCell (p := ⟨s, 2, none⟩) hsw _).setCell (p := ⟨s, 3, none⟩) hsw _).setCell (p := ⟨s, 4, none⟩) hsw _
    have a0 : w4.cell? ⟨s, 0, none⟩ = some (.slice none 0 0) := (box_at hx4).1
    have a1 : w4.cell? ⟨s, 1, none⟩ = some (.slice none 0 0) := (box_at hx4).1
    have a2 : w4.cell? ⟨s, 2, none⟩ = some (.slice none 0 0) := (box_at hx4).1
    have a3 : w4.cell? ⟨s, 3, none⟩ = some (.slice none 0 0) := (box_at hx4).1
    have a4 : w4.cell? ⟨s, 4, none⟩ = some (.int .i64 0) := (box_at hx4).1
    have f0 : w4.frozen? ⟨s, 0, none⟩ = false := (box_at hx4 (i := 0)).2
    have f1 : w4.frozen? ⟨s, 1, none⟩ = false := (box_at hx4 (i := 1)).2
    have f2 : w4.frozen? ⟨s, 2, none⟩ = false := (box_at hx4 (i := 2)).2
    have f3 : w4.frozen? ⟨s, 3, none⟩ = false := (box_at hx4 (i := 3)).2
    have f4 : w4.frozen? ⟨s, 4, none⟩ = false := (box_at hx4 (i := 4)).2
    refine wpAnyH_ready (rs := [12]) (by kernel_rfl) (by simp) ?_
    refine AllReadyH.cons rfl (fun K hK => ?_) (AllReadyH.nil)
    go_simp
    refine hK.out _ _ (H0.out _ HB5.out) (fun hHeld => ?_)
    clear hK K
    try simp only [Act.put, List.getElem_toArray, List.getElem_cons_zero, List.getElem_cons_succ, List.setIfInBounds_toArray, List.set_cons_zero, List.set_cons_succ]
    refine wpAnyH_done (by kernel_rfl) ?_ _
    obtain ⟨g, hg⟩ : ∃ g, s + 1 = g := ⟨_, rfl⟩
    obtain ⟨bf, hbf⟩ : ∃ z, s = z := ⟨_, rfl⟩
    have hfm : Fm s w5 bf (.slice aS L cS) [] [] (List.replicate L 0) 1 none none (some g) := by
      rw [← hg, ← hbf]
      exact fm_new hx5 (HO4.out.blk (fun k e => hk5 k (fun e2 => by have e3 : some (s + 1) = some k := e; have := Option.some.inj e3; omega))) (by omega) (Nat.le_refl _)
    clear a0 a1 a2 a3 a4 f0 f1 f2 f3 f4 hx3 hx4 hx5 hk5 hw5 hHeld HO4
    have HFM : Hid (Fm s w5 bf (.slice aS L cS) [] [] (List.replicate L 0) 1 none none (some g)) := hfm
    have m1 : w5.cell? ⟨bm, 1, none⟩ = some (.int .i64 (b : Int)) := H1.out w5 HB5.out
    have HB5s : Hid (Below s w w5) := by rw [← hs]; exact HB5.out
    have HTs : Hid (Ts s w aS T) := by rw [← hs]; exact HT.out
    have HRE := reach_any s bf (.slice aS L cS) [] [] (List.replicate L 0) 1 none none (some g) L b hL hb w5 HFM.out (Fi.first L)
    clear hfm
    go_wp2_with fail
    refine HRE.mono ?_
    rintro e w6 ⟨⟨u, rfl⟩, A1, C1, oa1, hfm1, hfi1, hmem1, -, hkf1⟩
    have HB6 : Hid (Below s w w6) := HB5s.out.trans (HFM.out.under hkf1)
    have HSP := spread_any s bf aS cS T A1 [] C1 1 oa1 none (some g) (by rw [hLe]; exact hL) w6 (by rw [hLe]; exact hfm1) (by rw [hLe]; exact hfi1) (HTs.out.bel HB6.out)
    rw [hLe] at HSP
    have HME1 : Hid (∀ t, t ∈ A1 ↔ t = b) := fun t => by rw [hmem1 t]; simp
    clear hfm1 hfi1 hmem1 hkf1 HRE m1
    go_wp2_with fail
    refine HSP.mono ?_
    rintro e w7 ⟨⟨u2, rfl⟩, A2, C2, oa2, hfm2, hfi2, hspr2, hb2⟩
    have HI : Hid (TI s bf (.slice aS L cS) T b xs (some g) w 0 A2 [] C2 oa2 none w7) := by
      refine ⟨hfm2, hfi2, fun t => ?_, HB6.out.trans hb2⟩
      rw [hspr2 t, List.take_zero]
      constructor
      · rintro ⟨q, hq, hr⟩
        rw [(HME1.out q).1 hq] at hr
        exact hr
      · intro hr
        exact ⟨b, (HME1.out b).2 rfl, hr⟩
    clear hfm2 hfi2 hspr2 hb2 HSP
    go_wp2_with fail
    go_loopw [27] (fun iv wr => ∃ (j : Nat) (A P : List Nat) (C : List Int) (oa op : Option Nat), j ≤ ln ∧ iv = .int .i64 (j : Int) ∧ TI s bf (.slice aS L cS) T b xs (some g) w j A P C oa op wr) (fun i _ => ln - (intOf i).toNat)
    case atStart => exact ⟨0, A2, [], C2, oa2, none, Nat.zero_le _, rfl, HI.out⟩
    case round =>
      obtain ⟨j, A, P, C, oa, op, hj, rfl, hti⟩ := hrel
      have HTI : Hid (TI s bf (.slice aS L cS) T b xs (some g) w j A P C oa op wr) := hti
      clear hti
      by_cases hlt : j < ln
      · have hjx : j < xs.length := by omega
        obtain ⟨pb, po, rfl, hpl, hpc⟩ := HX.out.cells j hjx
        have x0 : wr.cell? ⟨pb, po + j, none⟩ = some (.int .i64 xs[j]) := by
          have h3 := hpc 0 (by decide)
          have e0 : po + j * EI.k + 0 = po + j := by show po + j * 1 + 0 = po + j; omega
          rw [e0] at h3
          exact (World.cell?_of_block (w := w) (HTI.out.bel.block pb (by omega))).trans h3
        have HXJ : Hid (xs.take (j + 1) = xs.take j ++ [xs[j]]) := List.take_succ_eq_append_getElem hjx
        obtain ⟨x, hxx⟩ : ∃ x, xs[j] = x := ⟨_, rfl⟩
        rw [hxx] at x0 HXJ
        have jj : (j : Int) < ln := by omega
        have j0 : (0 : Int) ≤ j := by omega
        have HAD := advance_any s bf aS cS T A P C ((j : Int) + 1) x oa op (some g) (by rw [hLe]; exact hL) (by omega) (by omega) wr (by rw [hLe]; exact HTI.out.fm) HTI.out.fi (HTs.out.bel HTI.out.bel)
        rw [hLe] at HAD
        clear hpc hxx
        go_wp2_with fail
        refine HAD.mono ?_
        rintro e w8 ⟨⟨u3, rfl⟩, A3, P3, C3, oa3, op3, B3, hfm3, hfi3, hB3, hspr3, hb3⟩
        have HN : Hid (TI s bf (.slice aS L cS) T b xs (some g) w (j + 1) A3 P3 C3 oa3 op3 w8) := by
          have e1 : ((j + 1 : Nat) : Int) + 1 = (j : Int) + 1 + 1 := by omega
          refine ⟨by rw [e1]; exact hfm3, by rw [e1]; exact hfi3, fun t => ?_, HTI.out.bel.trans hb3⟩
          rw [HXJ.out]
          exact spr_next HTI.out.mem hB3 hspr3 t
        clear hfm3 hfi3 hB3 hspr3 hb3 HAD
        go_wp2_with fail
        exact ⟨⟨j + 1, A3, P3, C3, oa3, op3, by omega, by simp, HN.out⟩, by simp [intOf]; omega⟩
      · obtain rfl : j = ln := by omega
        obtain ⟨g', cg, x, c3, c4, cx, hxr⟩ := HTI.out.cells (by rw [hLe]; omega)
        rw [hLe] at c3
        have HRX : Hid ((x = (j : Int) + 1) = (r = true)) := by
          show (_ : Prop) = _
          rw [hxr, ← hln, List.take_length]
          exact propext HR.out.symm
        have HBF : Hid (Below w.heap.size w wr) := by rw [hs]; exact HTI.out.bel
        have L0 : (0 : Int) < L := by omega
        have L0n : 0 < L := by omega
        clear hxr
        have HRR : Hid ((x == (j : Int) + 1) = r) := by
          show _ = _
          rw [Bool.eq_iff_iff, ← HRX.out]
          simp
        clear HRX
        go_wp2_with fail
        go_still_tail 7, (by kernel_rfl)
        obtain ⟨w9, hw9⟩ : ∃ w9, ({ wr with drawn := wr.drawn + 1 } : World) = w9 := ⟨_, rfl⟩
        have HB9 : Hid (Below w.heap.size w w9) := HBF.out.trans (by rw [← hw9]; exact ⟨rfl, rfl, rfl, Nat.le_refl _, fun _ _ => rfl⟩)
        rw [hw9]
        go_wp2_with fail
        go_ret
        exact ⟨congrArg (fun b => Ending.returned (Value.bool b)) HRR.out, HB9.out⟩
end Go.Proofs.Ytagfdmkgnedlbag.Po
