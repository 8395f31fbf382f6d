/- A front in memory: reach. -/
import Derived.Test.YtagfdmkgnedlbagPoC
import Derived.StillTailTactics
namespace Go.Proofs.Ytagfdmkgnedlbag.Po
open Go.ChangeShapes Go.WideShapes Go.ChangeAt Go.RowKit Go.Joins Go.Proofs.Ytagfdmkgnedlbag.Ge
set_option linter.unusedVariables false

def ia (A : List Nat) : List Int := A.map (fun x : Nat => (x : Int))
theorem ia_app (A : List Nat) (i : Nat) : ia (A ++ [i]) = ia A ++ [(i : Int)] := by simp [ia]
theorem ia_len (A : List Nat) : (ia A).length = A.length := by simp [ia]
/-- a front at a block: its lists, and what they own -/
structure Fm (N : Nat) (w : World) (bf : Nat) (sv : Value) (A P : List Nat) (C : List Int) (n : Int) (oa op oc : Option Nat) : Prop where
  box : ∃ av pv cv, w.heap[bf]? = some (Obj.cells #[sv, av, pv, cv, .int .i64 n] 45) ∧ OwnL EI N w av (ia A) ∧ OwnL EI N w pv (ia P) ∧ OwnL EI N w cv C ∧ av.ownBlock = oa ∧ pv.ownBlock = op ∧ cv.ownBlock = oc
  na : ¬ oa = some bf
  np : ¬ op = some bf
  nc : ¬ oc = some bf
  ap : ∀ g, oa = some g → ¬ op = some g
  ac : ∀ g, oa = some g → ¬ oc = some g
  pc : ∀ g, op = some g → ¬ oc = some g
  lo : N ≤ bf
/-- nothing old has turned but the front, what it is at, and what it has marked -/
structure Kf (bf : Nat) (w : World) (oa oc : Option Nat) (w' : World) (oa' : Option Nat) : Prop where
  str : Below 0 w w'
  now : oa' = oa ∨ ∃ g, oa' = some g ∧ w.heap.size ≤ g
  block : ∀ b, b < w.heap.size → b ≠ bf → some b ≠ oa → some b ≠ oc → w'.heap[b]? = w.heap[b]?
theorem Kf.bel {bf : Nat} {w w' : World} {oa oc : Option Nat} (h : Below w.heap.size w w') : Kf bf w oa oc w' oa := ⟨h.mono (Nat.zero_le _), .inl rfl, fun b hb _ _ _ => h.block b hb⟩
theorem Kf.trans {bf : Nat} {w w1 w2 : World} {o o1 o2 oc : Option Nat} (h : Kf bf w o oc w1 o1) (k : Kf bf w1 o1 oc w2 o2) : Kf bf w o oc w2 o2 := by
  refine ⟨h.str.trans k.str, ?_, fun b hb hn ho hc => (k.block b (Nat.lt_of_lt_of_le hb h.str.size) hn ?_ hc).trans (h.block b hb hn ho hc)⟩
  · rcases k.now with e | ⟨g, e, hg⟩
    · rw [e]; exact h.now
    · exact .inr ⟨g, e, Nat.le_trans h.str.size hg⟩
  · rcases h.now with e | ⟨g, e, hg⟩
    · rw [e]; exact ho
    · rw [e]; intro e2; cases e2; omega
theorem Fm.lt {N : Nat} {w : World} {bf : Nat} {sv : Value} {A P : List Nat} {C : List Int} {n : Int} {oa op oc : Option Nat} (h : Fm N w bf sv A P C n oa op oc) : bf < w.heap.size := by
  obtain ⟨av, pv, cv, h1, -⟩ := h.box
  exact (Array.getElem?_eq_some_iff.1 h1).1
theorem Fm.olt {N : Nat} {w : World} {bf : Nat} {sv : Value} {A P : List Nat} {C : List Int} {n : Int} {oa op oc : Option Nat} (h : Fm N w bf sv A P C n oa op oc) : (∀ g, oa = some g → N ≤ g ∧ g < w.heap.size) ∧ (∀ g, op = some g → N ≤ g ∧ g < w.heap.size) ∧ (∀ g, oc = some g → N ≤ g ∧ g < w.heap.size) := by
  obtain ⟨av, pv, cv, h1, h2, h3, h4, h5, h6, h7⟩ := h.box
  exact ⟨fun g e => h2.row.lt g (by rw [h5]; exact e), fun g e => h3.row.lt g (by rw [h6]; exact e), fun g e => h4.row.lt g (by rw [h7]; exact e)⟩
theorem Fm.bel {N : Nat} {w w' : World} {bf : Nat} {sv : Value} {A P : List Nat} {C : List Int} {n : Int} {oa op oc : Option Nat} (h : Fm N w bf sv A P C n oa op oc) (hb : Below w.heap.size w w') : Fm N w' bf sv A P C n oa op oc := by
  have hl := h.lt
  obtain ⟨av, pv, cv, h1, h2, h3, h4, h5, h6, h7⟩ := h.box
  exact ⟨⟨av, pv, cv, (hb.block bf hl).trans h1, h2.bel hb, h3.bel hb, h4.bel hb, h5, h6, h7⟩, h.na, h.np, h.nc, h.ap, h.ac, h.pc, h.lo⟩
/-- nothing below N has turned -/
theorem Fm.under {N : Nat} {w w' : World} {bf : Nat} {sv : Value} {A P : List Nat} {C : List Int} {n : Int} {oa oa' op oc : Option Nat} (h : Fm N w bf sv A P C n oa op oc) (k : Kf bf w oa oc w' oa') : Below N w w' := by
  have hlt := h.lt
  have hlo := h.lo
  have hb := k.str
  obtain ⟨q1, q2, q3⟩ := h.olt
  exact ⟨hb.1, hb.2, hb.3, hb.4, fun b hb => k.block b (by omega) (by omega) (fun e => by have := (q1 b e.symm).1; omega) (fun e => by have := (q3 b e.symm).1; omega)⟩
/-- a mark is set -/
theorem fm_mark {N : Nat} {w : World} {bf : Nat} {sv : Value} {A P : List Nat} {C : List Int} {n : Int} {oa op oc : Option Nat} (h : Fm N w bf sv A P C n oa op oc) {i : Nat} (hi : i < C.length) (x : Int) : ∃ g c, oc = some g ∧ w.cell? ⟨bf, 3, none⟩ = some (.slice (some ⟨g, 0, none⟩) C.length c) ∧ w.cell? ⟨g, i, none⟩ = some (.int .i64 C[i]) ∧ w.frozen? ⟨g, i, none⟩ = false ∧ Fm N (w.setCell ⟨g, i, none⟩ (.int .i64 x)) bf sv A P (C.set i x) n oa op oc ∧ Kf bf w oa oc (w.setCell ⟨g, i, none⟩ (.int .i64 x)) oa := by
  obtain ⟨av, pv, cv, h1, h2, h3, h4, h5, h6, h7⟩ := h.box
  obtain ⟨a, c, rfl, -, hn, hb⟩ := h4.form
  cases a with
  | none => have := (hn rfl).1; omega
  | some ad =>
    rcases h4.row.2 with ⟨e1, e2⟩ | ⟨g, c', cur, e1, e2, e3, e4⟩
    · cases e1
    · cases e1
      obtain ⟨q1, q2, q3, q4⟩ := h4.at0
      have hgo : oc = some g := h7.symm
      have hne : bf ≠ g := fun e => h.nc (by rw [hgo, e])
      have hs := h4.setc (E := EI) hi (by decide : 0 < 1) (.int .i64 x) x rfl
      have hs' : OwnL EI N (w.setCell ⟨g, i, none⟩ (.int .i64 x)) (.slice (some ⟨g, 0, none⟩) C.length c) (C.set i x) := by
        have e0 : i * EI.k + 0 = i := by show i * 1 + 0 = i; omega
        rw [e0] at hs
        exact hs
      have hc0 : w.cell? ⟨g, i, none⟩ = some (.int .i64 C[i]) := by
        have := q1 i hi 0 (by decide)
        have e0 : i * EI.k + 0 = i := by show i * 1 + 0 = i; omega
        rw [e0] at this
        exact this
      refine ⟨g, c, hgo, (box_at h1).1, hc0, q2 _, ⟨⟨av, pv, _, (Below.heap_setCell w ⟨g, i, none⟩ _ bf hne).trans h1, h2.blk (fun b e => Below.heap_setCell w ⟨g, i, none⟩ _ b (fun e2 => ?_)), h3.blk (fun b e => Below.heap_setCell w ⟨g, i, none⟩ _ b (fun e2 => ?_)), ?_, h5, h6, h7⟩, h.na, h.np, h.nc, h.ap, h.ac, h.pc, h.lo⟩, ?_, .inl rfl, fun b hb hn ho hc => Below.heap_setCell w ⟨g, i, none⟩ _ b (fun e => hc (by rw [hgo]; exact congrArg some e))⟩
      · have e3 : b = g := e2
        subst e3
        exact h.ac b (by rw [← h5]; exact e) hgo
      · have e3 : b = g := e2
        subst e3
        exact h.pc b (by rw [← h6]; exact e) hgo
      · exact hs'
      · exact (Below.refl _ w).setCell (p := ⟨g, i, none⟩) (Nat.zero_le _) _
/-- one state more -/
theorem fm_next {N : Nat} {w W w' : World} {bf : Nat} {sv av pv cv v' : Value} {A P : List Nat} {C : List Int} {n : Int} {oa op oc : Option Nat} {i : Nat} (h : Fm N w bf sv A P C n oa op oc) (hv : w.heap[bf]? = some (Obj.cells #[sv, av, pv, cv, .int .i64 n] 45)) (hW : Below w.heap.size w W) (ho : OwnL EI N w' v' (ia A ++ [(i : Int)])) (hg : W.grownBy w' av.ownBlock) (hat : v'.ownBlock = av.ownBlock ∨ v'.ownBlock = some W.heap.size) :
    w'.heap[bf]? = some (Obj.cells #[sv, av, pv, cv, .int .i64 n] 45) ∧ Fm N (w'.setCell ⟨bf, 1, none⟩ v') bf sv (A ++ [i]) P C n v'.ownBlock op oc ∧ Kf bf w oa oc (w'.setCell ⟨bf, 1, none⟩ v') v'.ownBlock := by
  have hlt := h.lt
  obtain ⟨ol1, ol2, ol3⟩ := h.olt
  have hsz := hW.size
  obtain ⟨av0, pv0, cv0, e0, h2, h3, h4, h5, h6, h7⟩ := h.box
  rw [hv] at e0
  simp only [Option.some.injEq, Obj.cells.injEq, Array.mk.injEq, List.cons.injEq, and_true, true_and] at e0
  obtain ⟨rfl, rfl, rfl⟩ := e0
  have h1 : w'.heap[bf]? = some (Obj.cells #[sv, av, pv, cv, .int .i64 n] 45) := (hg.block bf (by omega) (fun e => h.na (by rw [← h5]; exact e.symm))).trans ((hW.block bf hlt).trans hv)
  have hne' : ¬ v'.ownBlock = some bf := fun e => by
    rcases hat with e2 | e2
    · exact h.na (by rw [← h5, ← e2]; exact e)
    · rw [e2] at e; cases e; omega
  have hoth : ∀ (o : Option Nat), (∀ g, oa = some g → ¬ o = some g) → (∀ g, o = some g → N ≤ g ∧ g < w.heap.size) → ∀ g, v'.ownBlock = some g → ¬ o = some g := fun o k1 k2 g e e2 => by
    rcases hat with e3 | e3
    · exact k1 g (by rw [← h5, ← e3]; exact e) e2
    · rw [e3] at e; cases e; have := (k2 _ e2).2; omega
  have hkeep : ∀ (o : Option Nat), (∀ g, oa = some g → ¬ o = some g) → ¬ o = some bf → (∀ g, o = some g → N ≤ g ∧ g < w.heap.size) → ∀ b, o = some b → (w'.setCell ⟨bf, 1, none⟩ v').heap[b]? = w.heap[b]? := fun o k1 k2 k3 b e => by
    have hb := (k3 b e).2
    refine (Below.heap_setCell w' ⟨bf, 1, none⟩ v' b (fun e2 => k2 (by have e3 : b = bf := e2; rw [← e3]; exact e))).trans ((hg.block b (by omega) (fun e2 => k1 b (by rw [← h5]; exact e2.symm) e)).trans (hW.block b hb))
  refine ⟨h1, ⟨⟨v', pv, cv, by rw [box_set h1]; rfl, ?_, h3.blk (fun b e => hkeep op h.ap h.np ol2 b (by rw [← h6]; exact e)), h4.blk (fun b e => hkeep oc h.ac h.nc ol3 b (by rw [← h7]; exact e)), rfl, h6, h7⟩, hne', h.np, h.nc, hoth op h.ap ol2, hoth oc h.ac ol3, h.pc, h.lo⟩, ?_, ?_, fun b hb hn hno hnc => (Below.heap_setCell w' ⟨bf, 1, none⟩ v' b hn).trans ((hg.block b (by omega) (fun e => hno (by rw [← h5]; exact e))).trans (hW.block b hb))⟩
  · rw [ia_app]
    exact ho.blk (fun g e => Below.heap_setCell w' ⟨bf, 1, none⟩ v' g (fun e2 => hne' (by have e3 : g = bf := e2; rw [← e3]; exact e)))
  · exact ((hW.mono (Nat.zero_le _)).grown hg (Nat.zero_le _) (fun _ _ => Nat.zero_le _)).setCell (p := ⟨bf, 1, none⟩) (Nat.zero_le _) v'
  · rcases hat with e | e
    · exact .inl (by rw [e, h5])
    · exact .inr ⟨_, e, hsz⟩
/-- what reaching a state leaves -/
def Rp (N : Nat) (bf : Nat) (sv : Value) (A P : List Nat) (n : Int) (oa op oc : Option Nat) (L i : Nat) (w : World) (e : Ending) (w' : World) : Prop :=
  (∃ u, e = .returned u) ∧ ∃ A' C' oa', Fm N w' bf sv A' P C' n oa' op oc ∧ Fi L n A' C' ∧ (∀ s, s ∈ A' ↔ s ∈ A ∨ s = i) ∧ (∃ M, A' = A ++ M) ∧ Kf bf w oa oc w' oa'
set_option maxRecDepth 100000 in
set_option maxHeartbeats 4000000 in
theorem reach_any (N bf : Nat) (sv : Value) (A P : List Nat) (C : List Int) (n : Int) (oa op oc : Option Nat) (L i : Nat) (hL : L ≤ 1099511627775) (hi : i < L) (w : World) (h : Fm N w bf sv A P C n oa op oc) (hF : Fi L n A C) :
    Calls Try.prog 16 #[.pointer (some ⟨bf, 0, none⟩), .int .i64 (i : Int)] w (Rp N bf sv A P n oa op oc L i w) := by
  have hCL := hF.len
  have hic : i < C.length := by omega
  obtain ⟨g, c, hog, b3, hc, hfz, hfm, hkf⟩ := fm_mark h hic n
  have b4 : w.cell? ⟨bf, 4, none⟩ = some (.int .i64 n) := by obtain ⟨av, pv, cv, h1, -⟩ := h.box; exact (box_at h1).1
  rw [hCL] at b3
  have HOG : Hid (oc = some g) := hog
  clear hog
  have ii : (i : Int) < L := by omega
  have i0 : (0 : Int) ≤ i := by omega
  have H : Hid (Fm N w bf sv A P C n oa op oc) := h
  have HF : Hid (Fi L n A C) := hF
  by_cases heq : C[i] = n
  · have HI : Hid (i ∈ A) := hF.old hi (by rw [List.getElem?_eq_getElem hic, heq])
    rw [heq] at hc
    clear h hF hfm hkf
    go_enter Try.func16, Try.ntmps16
    go_wp2_with fail
    go_still (by kernel_rfl)
    obtain ⟨w1, hw1⟩ : ∃ w1, ({ w with drawn := w.drawn + 1 } : World) = w1 := ⟨_, rfl⟩
    have HD : Hid (Below w.heap.size w w1) := by rw [← hw1]; exact ⟨rfl, rfl, rfl, Nat.le_refl _, fun _ _ => rfl⟩
    rw [hw1]
    go_wp2_with fail
    refine ⟨rfl, .tuple #[], ?_, ⟨_, rfl⟩, A, C, oa, H.out.bel HD.out, HF.out, fun s => ⟨Or.inl, fun h => ?_⟩, ⟨[], by simp⟩, Kf.bel HD.out⟩
    · simp [results, Try.results16, go_sem]
    · rcases h with h | h
      · exact h
      · rw [h]; exact HI.out
  · have hni : ¬ C[i]? = some n := by rw [List.getElem?_eq_getElem hic]; intro e; exact heq (Option.some.inj e)
    have HFN : Hid (Fi L n (A ++ [i]) (C.set i n)) := hF.new hi hni
    have hAl : A.length ≤ L := hF.few
    obtain ⟨ci, hci⟩ : ∃ x, C[i] = x := ⟨_, rfl⟩
    rw [hci] at heq hc
    clear h hF hfm hkf hni hci
    go_enter Try.func16, Try.ntmps16
    go_wp2_with fail
    go_still (by kernel_rfl)
    obtain ⟨w1, hw1⟩ : ∃ w1, ({ w with drawn := w.drawn + 1 } : World) = w1 := ⟨_, rfl⟩
    have HD : Hid (Below w.heap.size w w1) := by rw [← hw1]; exact ⟨rfl, rfl, rfl, Nat.le_refl _, fun _ _ => rfl⟩
    have e3 : w1.cell? ⟨bf, 3, none⟩ = some (.slice (some ⟨g, 0, none⟩) L c) := by rw [← hw1]; exact b3
    have e4 : w1.cell? ⟨bf, 4, none⟩ = some (.int .i64 n) := by rw [← hw1]; exact b4
    have ec : w1.cell? ⟨g, i, none⟩ = some (.int .i64 ci) := by rw [← hw1]; exact hc
    have ef : w1.frozen? ⟨g, i, none⟩ = false := by rw [← hw1]; exact hfz
    rw [hw1]
    clear hw1
    go_wp2_with fail
    go_still_tail 10, (by kernel_rfl)
    obtain ⟨w2, hw2⟩ : ∃ w2, ({ w1 with drawn := w1.drawn + 1 } : World) = w2 := ⟨_, rfl⟩
    have HD2 : Hid (Below w.heap.size w w2) := by
      have h1 : Below w1.heap.size w1 w2 := by rw [← hw2]; exact ⟨rfl, rfl, rfl, Nat.le_refl _, fun _ _ => rfl⟩
      exact HD.out.trans (h1.mono HD.out.size)
    have gc : w2.cell? ⟨g, i, none⟩ = some (.int .i64 ci) := by rw [← hw2]; exact ec
    have gf : w2.frozen? ⟨g, i, none⟩ = false := by rw [← hw2]; exact ef
    try rw [hw2]
    clear hw2
    obtain ⟨g', c', hog', b3', hc', hfz', hfm', hkf'⟩ := fm_mark (H.out.bel HD2.out) hic n
    obtain rfl : g = g' := by rw [HOG.out] at hog'; exact Option.some.inj hog'
    obtain ⟨w3, hw3⟩ : ∃ w3, w2.setCell ⟨g, i, none⟩ (.int .i64 n) = w3 := ⟨_, rfl⟩
    rw [hw3] at hfm' hkf'
    have H3 : Hid (Fm N w3 bf sv A P (C.set i n) n oa op oc) := hfm'
    have K3 : Hid (Kf bf w oa oc w3 oa) := (Kf.bel HD2.out).trans hkf'
    obtain ⟨av, pv, cv, hv, hoA, -, -, hov, -, -⟩ := hfm'.box
    obtain ⟨a, ac, rfl, -⟩ := hoA.form
    have hlt3 := hfm'.lt
    obtain ⟨al, hal⟩ : ∃ l, (ia A).length = l := ⟨_, rfl⟩
    rw [hal] at hv hoA hov
    have halL : al ≤ 1099511627775 := by rw [← hal, ia_len]; omega
    have HV : Hid (w3.heap[bf]? = some (Obj.cells #[sv, .slice a al ac, pv, cv, .int .i64 n] 45)) := hv
    obtain ⟨w4, hw4⟩ : ∃ w4, w3.alloc (Obj.cells #[.int .i64 (i : Int)] 3) = w4 := ⟨_, rfl⟩
    have HW4 : Hid (w4 = w3.alloc (Obj.cells (EI.enc (i : Int)).toArray EI.e)) := hw4.symm
    have hb4 : Below w3.heap.size w3 w4 := by rw [← hw4]; exact (Below.refl _ w3).alloc (Nat.le_refl _) _
    have HO4 : Hid (OwnL EI N w4 (.slice a al ac) (ia A)) := hoA.bel hb4
    have hN4 : N ≤ w4.heap.size := by have h1 := hfm'.lo; have h2 := hb4.size; omega
    have c0 : w3.cell? ⟨bf, 1, none⟩ = some (.slice a al ac) := (box_at (w := w3) hv).1
    have d0 : w4.cell? ⟨bf, 1, none⟩ = some (.slice a al ac) := (box_at ((hb4.block bf hlt3).trans hv)).1
    have HNX : Hid (∀ v' w', OwnL EI N w' v' (ia A ++ [(i : Int)]) → w4.grownBy w' (Value.slice a al ac).ownBlock → (v'.ownBlock = (Value.slice a al ac).ownBlock ∨ v'.ownBlock = some w4.heap.size) → w'.heap[bf]? = some (Obj.cells #[sv, .slice a al ac, pv, cv, .int .i64 n] 45) ∧ Fm N (w'.setCell ⟨bf, 1, none⟩ v') bf sv (A ++ [i]) P (C.set i n) n v'.ownBlock op oc ∧ Kf bf w3 oa oc (w'.setCell ⟨bf, 1, none⟩ v') v'.ownBlock) := fun v' w' ho hg hat => fm_next H3.out HV.out hb4 ho hg hat
    have hbigA : (ia A).length ≤ 1099511627775 := by rw [hal]; exact halL
    clear hog' hfm' hkf' hv hoA hov hb4 hal b3' hc' hfz'
    go_wp2_with (at_builtin; refine list_app1 EI rfl _ _ 25 rfl rfl N (.slice a al ac) (ia A) (i : Int) hbigA (w := w3) w4 rfl HO4.out rfl hN4 HW4.out ?_)
    intro v' w' ho' hg' hat'
    obtain ⟨f1, f2, f3⟩ := HNX.out v' w' ho'.out hg'.out hat'.out
    obtain ⟨va', vc', rfl, -⟩ := ho'.out.form
    obtain ⟨vl', hvl'⟩ : ∃ l, (ia A ++ [(i : Int)]).length = l := ⟨_, rfl⟩
    rw [hvl'] at f2 f3 ⊢
    have F2 : Hid _ := f2
    have F3 : Hid _ := K3.out.trans f3
    have e0 : w'.cell? ⟨bf, 1, none⟩ = some (.slice a al ac) := (box_at f1).1
    have z0 : w'.frozen? ⟨bf, 1, none⟩ = false := (box_at f1 (i := 1)).2
    clear f1 f2 f3 ho' hg' hat' hvl'
    go_wp2_with fail
    refine ⟨rfl, .tuple #[], ?_, ⟨_, rfl⟩, A ++ [i], C.set i n, _, F2.out, HFN.out, fun s => by simp, ⟨[i], rfl⟩, F3.out⟩
    simp [results, Try.results16, go_sem]
end Go.Proofs.Ytagfdmkgnedlbag.Po
