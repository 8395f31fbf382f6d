/- PolMatch, spfInts, patternSame: what each answers. -/
import Derived.Test.YtagfdmkgnedlbagPoOa
import Derived.Test.YtagfdmkgnedlbagPoE
import Derived.StillTailTactics
namespace Go.Proofs.Ytagfdmkgnedlbag.Po
open Go.ChangeShapes Go.WideShapes Go.ChangeAt Go.RowKit Go.Joins Go.Proofs.Ytagfdmkgnedlbag.Ge
set_option linter.unusedVariables false

theorem en_match (p : Pat) (xs : List Int) (n : Nat) (h : xs.length = n) : (ends (Lang p) xs ((List.replicate (n + 1) false).set 0 true))[n]? = some (mt p xs) := by
  rw [ends_get _ _ _ (by omega)]
  congr 1
  rw [Bool.eq_iff_iff, en_iff, mt_iff]
  constructor
  · rintro ⟨hj, i, hi, hf, hl⟩
    have hi0 : i = 0 := by
      by_cases e : i = 0
      · exact e
      · rw [List.getElem?_set_ne (by omega), List.getElem?_replicate] at hf
        split at hf <;> cases hf
    subst hi0
    have e1 : seg xs 0 n = xs := by unfold seg; rw [List.drop_zero, List.take_of_length_le (by omega)]
    rw [e1] at hl
    exact hl
  · intro hl
    refine ⟨by omega, 0, Nat.zero_le _, by rw [List.getElem?_set_self (by simp)], ?_⟩
    have e1 : seg xs 0 n = xs := by unfold seg; rw [List.drop_zero, List.take_of_length_le (by omega)]
    rw [e1]
    exact hl
set_option maxRecDepth 100000 in
set_option maxHeartbeats 4000000 in
theorem polmatch_any (p : Pat) (HEC : Ec p) (xs : List Int) (ln : Nat) (a va : Option Addr) (c ca : Nat) (w : World) (hln : xs.length = ln) (hl20 : ln ≤ 1048576) (hszp : sz p ≤ 1048576) (hp : PA w w.heap.size p a) (hx : Lst EI w va xs) :
    Calls Try.prog 7 #[pv p a c, .slice va ln ca] w fun e w' => e = .returned (.bool (mt p xs)) ∧ Below w.heap.size w w' := by
  have HEC : Hid (Ec p) := HEC
  have HX : Hid (Lst EI w va xs) := hx
  have HP : Hid (PA w w.heap.size p a) := hp
  have HLN : Hid (xs.length = ln) := hln
  have HMT := en_match p xs ln hln
  obtain ⟨r, hr⟩ : ∃ r, mt p xs = r := ⟨_, rfl⟩
  rw [hr] at HMT ⊢
  have HMM : Hid ((ends (Lang p) xs ((List.replicate (ln + 1) false).set 0 true))[ln]? = some r) := HMT
  clear hx hp hln hr HMT
  obtain ⟨l1, hl1⟩ : ∃ l, ln + 1 = l := ⟨_, rfl⟩
  have hla : ((ln : Int) + 1) = (l1 : Int) := by omega
  obtain ⟨k, n, sub⟩ := p
  obtain ⟨pl, hpl⟩ : ∃ l, sub.length = l := ⟨_, rfl⟩
  obtain ⟨s, hs⟩ : ∃ s, w.heap.size = s := ⟨_, rfl⟩
  obtain ⟨w0, hw0⟩ : ∃ w0, w.alloc (Obj.cells #[.int .i64 k, .int .i64 n, .slice a pl c] 24) = w0 := ⟨_, rfl⟩
  have HB0 : Hid (Below w.heap.size w w0) := by rw [← hw0]; exact (Below.refl _ w).alloc (Nat.le_refl _) _
  have HX0 : Hid (w0.heap[s]? = some (Obj.cells #[.int .i64 k, .int .i64 n, .slice a pl c] 24)) := by rw [← hw0, ← hs]; exact World.alloc_heap_new w _
  have hs0 : w0.heap.size = s + 1 := by rw [← hw0, ← hs]; simp
  unfold pv
  dsimp only [Pat.kind, Pat.num, Pat.sub]
  rw [hpl]
  obtain ⟨i0, hi, hz0, hz1, hz2⟩ := info_of EB.hi
  go_enter Try.func7, Try.ntmps7
  go_wp2_with (at_make; refine wpList_make_full _ rfl _ _ 36 rfl (s + 1) 4 i0 _ 1 Try.underlying36 hi hz0 hz1 _ _ _ _ l1 rfl rfl rfl rfl (by rw [hz2]; show 1 * l1 ≤ _; omega) (by unfold maxLen; omega) (by omega) ?_)
  intro w1 hrow hgr
  have HG : Hid (Below w0.heap.size w0 w1) := ⟨hgr.os, hgr.tape, hgr.output, hgr.size, fun k hk => hgr.block k hk (fun e => by cases e)⟩
  have HB1 : Hid (Below w.heap.size w w1) := HB0.out.trans (HG.out.mono HB0.out.size)
  rw [eb_rep] at hrow
  have HO1 : Hid (OwnL EB (s + 1) w1 (.slice (some ⟨s + 1, 0, none⟩) l1 l1) (List.replicate l1 false)) := ⟨by rw [List.length_replicate]; exact hrow⟩
  have HX1 : Hid (w1.heap[s]? = some (Obj.cells #[.int .i64 k, .int .i64 n, .slice a pl c] 24)) := (HG.out.block s (by omega)).trans HX0.out
  clear hrow hgr
  try rw [hs0]
  obtain ⟨e1, e2, e3, e4, e5⟩ := eb_set HO1.out (i := 0) (by omega) true
  obtain ⟨w2, hw2⟩ : ∃ w2, w1.setCell ⟨s + 1, 0, none⟩ (.bool true) = w2 := ⟨_, rfl⟩
  rw [hw2] at e3
  have HO2 : Hid (OwnL EB (s + 1) w2 (.slice (some ⟨s + 1, 0, none⟩) l1 l1) ((List.replicate l1 false).set 0 true)) := e3
  have HB2 : Hid (Below (s + 1) w1 w2) := by rw [← hw2]; exact (Below.refl _ w1).setCell (p := ⟨s + 1, 0, none⟩) (Nat.le_refl _) _
  have HBW2 : Hid (Below w.heap.size w w2) := HB1.out.trans (HB2.out.mono (by omega))
  obtain ⟨y0, y1, y2⟩ := cell_three ((HB2.out.block s (by omega)).trans HX1.out)
  have HC := HEC.out xs ln ((List.replicate l1 false).set 0 true) a va (some ⟨s + 1, 0, none⟩) c ca l1 w2 HLN.out (by rw [List.length_set, List.length_replicate, hl1]) hl20 hszp ((HP.out.bel HBW2.out).mono HBW2.out.size) (HX.out.bel HBW2.out) HO2.out.lst.1
  unfold pv at HC
  dsimp only [Pat.kind, Pat.num, Pat.sub] at HC
  rw [hpl, hl1] at HC
  have hl10 : 0 < l1 := by omega
  have hl10' : (0 : Int) < l1 := by omega
  clear e3
  go_wp2_with fail
  refine HC.mono ?_
  rintro e w3 ⟨ao, co, rfl, ho3, hb3⟩
  have HB3 : Hid (Below w.heap.size w w3) := HBW2.out.trans (hb3.mono HBW2.out.size)
  rw [hl1] at HMM
  have hlt : ln < (ends (Lang (.mk k n sub)) xs ((List.replicate l1 false).set 0 true)).length := by rw [ends_len, HLN.out]; omega
  obtain ⟨b, o, rfl, hb, hc⟩ := eb_get ho3.lst.1 hlt
  have e9 := HMM.out
  rw [List.getElem?_eq_getElem hlt] at e9
  rw [Option.some.inj e9] at hc
  have ii : (ln : Int) < l1 := by omega
  have i0' : (0 : Int) ≤ ln := by omega
  clear ho3 hb3 HC e9 hlt
  go_wp2_with fail
  go_ret
  exact ⟨rfl, HB3.out⟩
set_option maxRecDepth 100000 in
set_option maxHeartbeats 4000000 in
theorem ints_any (va vb : Option Addr) (ca cb : Nat) (xs : List Int) (ln : Nat) (hln : xs.length = ln) (w : World) (hx : Lst EI w va xs) (hy : Lst EI w vb xs) :
    Calls Try.prog 9 #[.slice va ln ca, .slice vb ln cb] w fun e w' => e = .returned (.bool true) ∧ Below w.heap.size w w' := by
  have HX : Hid (Lst EI w va xs) := hx
  have HY : Hid (Lst EI w vb xs) := hy
  have HLN : Hid (xs.length = ln) := hln
  have h63 := hx.small
  rw [hln] at h63
  clear hx hy hln
  go_enter Try.func9, Try.ntmps9
  go_wp2_with fail
  go_loopw [13] (fun iv wr => ∃ i : Nat, i ≤ ln ∧ iv = .int .i64 (i : Int) ∧ Below w.heap.size w wr) (fun i _ => ln - (intOf i).toNat)
  case atStart => exact ⟨0, Nat.zero_le _, rfl, Below.refl _ _⟩
  case round =>
    obtain ⟨i, hi, rfl, hb⟩ := hrel
    have HB : Hid (Below w.heap.size w wr) := hb
    clear hb
    by_cases hlt : i < ln
    · have hil : i < xs.length := by rw [HLN.out]; exact hlt
      obtain ⟨b1, o1, rfl, hb1, c1⟩ := ei_get (HX.out.bel HB.out) hil
      obtain ⟨b2, o2, rfl, hb2, c2⟩ := ei_get (HY.out.bel HB.out) hil
      obtain ⟨x, hx⟩ : ∃ x, xs[i] = x := ⟨_, rfl⟩
      rw [hx] at c1 c2
      have ii : (i : Int) < ln := by omega
      have i0 : (0 : Int) ≤ i := by omega
      clear hx
      go_wp2_with fail
      go_still (by kernel_rfl)
      obtain ⟨w1, hw1⟩ : ∃ w1, ({ wr with drawn := wr.drawn + 1 } : World) = w1 := ⟨_, rfl⟩
      have HB1 : Hid (Below w.heap.size w w1) := HB.out.trans (by rw [← hw1]; exact ⟨rfl, rfl, rfl, Nat.le_refl _, fun _ _ => rfl⟩)
      rw [hw1]
      go_wp2_with fail
      exact ⟨⟨i + 1, by omega, by simp, HB1.out⟩, by simp [intOf]; omega⟩
    · obtain rfl : i = ln := by omega
      go_wp2_with fail
      go_ret
      exact ⟨rfl, HB.out⟩
/-- the same pattern, twice -/
def Sc (p : Pat) : Prop := ∀ (a1 a2 : Option Addr) (c1 c2 : Nat) (w : World), PA w w.heap.size p a1 → PA w w.heap.size p a2 →
  Calls Try.prog 8 #[pv p a1 c1, pv p a2 c2] w fun e w' => e = .returned (.bool true) ∧ Below w.heap.size w w'
set_option maxRecDepth 100000 in
set_option maxHeartbeats 4000000 in
theorem psame_any : ∀ (z : Nat) (p : Pat), sz p ≤ z → sz p ≤ 1048576 → Sc p := by
  intro z
  induction z with
  | zero => intro p hz; have := sz_pos p; omega
  | succ z ih =>
    intro p hz hszp a1 a2 c1 c2 w hp1 hp2
    have HIH : Hid (∀ q : Pat, sz q ≤ z → sz q ≤ 1048576 → Sc q) := ih
    have HSZ : Hid (∀ q ∈ p.sub, sz q ≤ z ∧ sz q ≤ 1048576) := fun q hq => by have := sz_sub hq; omega
    have HP1 : Hid (PA w w.heap.size p a1) := hp1
    have HP2 : Hid (PA w w.heap.size p a2) := hp2
    obtain ⟨k, n, sub⟩ := p
    obtain ⟨pl, hpl⟩ : ∃ l, sub.length = l := ⟨_, rfl⟩
    have hpl63 : pl ≤ 9223372036854775807 := by
      have h1 := sz_mk k n sub
      have h3 : ∀ l : List Pat, l.length ≤ (l.map sz).sum := fun l => by
        induction l with
        | nil => simp
        | cons x l ih => simp only [List.map_cons, List.sum_cons, List.length_cons]; have := sz_pos x; omega
      have := h3 sub
      omega
    unfold pv
    dsimp only [Pat.kind, Pat.num, Pat.sub] at HSZ ⊢
    rw [hpl]
    obtain ⟨s, hs⟩ : ∃ s, w.heap.size = s := ⟨_, rfl⟩
    obtain ⟨w0, hw0⟩ : ∃ w0, (w.alloc (Obj.cells #[.int .i64 k, .int .i64 n, .slice a1 pl c1] 24)).alloc (Obj.cells #[.int .i64 k, .int .i64 n, .slice a2 pl c2] 24) = w0 := ⟨_, rfl⟩
    have hx0 : w0.heap[s]? = some (Obj.cells #[.int .i64 k, .int .i64 n, .slice a1 pl c1] 24) := by
      rw [← hw0, ← hs]
      exact (((Below.refl _ (w.alloc _)).alloc (Nat.le_refl _) _).block w.heap.size (by simp)).trans (World.alloc_heap_new w _)
    have hy0 : w0.heap[s + 1]? = some (Obj.cells #[.int .i64 k, .int .i64 n, .slice a2 pl c2] 24) := by
      have e1 : (w.alloc (Obj.cells #[.int .i64 k, .int .i64 n, .slice a1 pl c1] 24)).heap.size = s + 1 := by rw [← hs]; simp
      rw [← hw0, ← e1]
      exact World.alloc_heap_new _ _
    have hs0 : w0.heap.size = s + 1 + 1 := by rw [← hw0, ← hs]; simp
    have HB0 : Hid (Below w.heap.size w w0) := by rw [← hw0]; exact ((Below.refl _ w).alloc (Nat.le_refl _) _).alloc (by simp) _
    have HX0 : Hid (w0.heap[s]? = some (Obj.cells #[.int .i64 k, .int .i64 n, .slice a1 pl c1] 24)) := hx0
    have HY0 : Hid (w0.heap[s + 1]? = some (Obj.cells #[.int .i64 k, .int .i64 n, .slice a2 pl c2] 24)) := hy0
    obtain ⟨x0, x1, x2⟩ := cell_three hx0
    obtain ⟨y0, y1, y2⟩ := cell_three hy0
    clear hp1 hp2 ih hx0 hy0
    go_enter Try.func8, Try.ntmps8
    go_wp2_with fail
    clear x0 x1 x2 y0 y1 y2
    go_loopw [30] (fun iv wr => ∃ i : Nat, i ≤ pl ∧ iv = .int .i64 (i : Int) ∧ Below w0.heap.size w0 wr) (fun i _ => pl - (intOf i).toNat)
    case atStart => exact ⟨0, Nat.zero_le _, rfl, Below.refl _ _⟩
    case round =>
      obtain ⟨i, hi', rfl, hb⟩ := hrel
      have HBR : Hid (Below w0.heap.size w0 wr) := hb
      have HBW : Hid (Below w.heap.size w wr) := HB0.out.trans (hb.mono HB0.out.size)
      obtain ⟨x0, x1, x2⟩ := cell_three ((hb.block s (by omega)).trans HX0.out)
      obtain ⟨y0, y1, y2⟩ := cell_three ((hb.block (s + 1) (by omega)).trans HY0.out)
      clear hb
      by_cases hlt : i < pl
      · have hil : i < sub.length := by omega
        obtain ⟨pb, po, b1, d1, rfl, hpb, e0, e1, e2, hq1⟩ := (HP1.out.bel HBW.out).at (i := i) hil
        obtain ⟨qb, qo, b2, d2, rfl, hqb, f0, f1, f2, hq2⟩ := (HP2.out.bel HBW.out).at (i := i) hil
        obtain ⟨g1, g2⟩ := HSZ.out _ (List.getElem_mem hil)
        have HDR : Hid (∀ d : Nat, Below wr.heap.size wr (wr.drewN d)) := fun d => ⟨rfl, rfl, rfl, Nat.le_refl _, fun _ _ => rfl⟩
        have HC := HIH.out sub[i] g1 g2 b1 b2 d1 d2 (wr.drewN 1) ((hq1.mono HBW.out.size).bel (HDR.out 1)) ((hq2.mono HBW.out.size).bel (HDR.out 1))
        obtain ⟨q, hq⟩ : ∃ q, sub[i] = q := ⟨_, rfl⟩
        rw [hq] at HC e0 e1 e2 f0 f1 f2
        obtain ⟨qk, qn, qs⟩ := q
        unfold pv at HC
        dsimp only [Pat.kind, Pat.num, Pat.sub] at HC e0 e1 e2 f0 f1 f2
        obtain ⟨ql, hql⟩ : ∃ l, qs.length = l := ⟨_, rfl⟩
        rw [hql] at HC e2 f2
        have ii : (i : Int) < pl := by omega
        have i0' : (0 : Int) ≤ i := by omega
        clear hq1 hq2 hq
        go_wp2_with fail
        go_still_tail 10, (by kernel_rfl)
        go_wp2_with fail
        refine HC.mono ?_
        rintro e w3 ⟨rfl, hb3⟩
        have HB3 : Hid (Below w0.heap.size w0 w3) := (HBR.out.trans ((HDR.out 1).mono HBR.out.size)).trans (hb3.mono HBR.out.size)
        clear hb3 HC
        go_wp2_with fail
        exact ⟨⟨i + 1, by omega, by simp, HB3.out⟩, by simp [intOf]; omega⟩
      · obtain rfl : i = pl := by omega
        go_wp2_with fail
        go_ret
        exact ⟨rfl, by first | exact HBW.out | (rw [← hs]; exact HBW.out)⟩
end Go.Proofs.Ytagfdmkgnedlbag.Po
