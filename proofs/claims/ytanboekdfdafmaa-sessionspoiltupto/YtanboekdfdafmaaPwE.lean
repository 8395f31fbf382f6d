/- An attribute's value is put into a route: setAttribute. -/
import Derived.Test.YtanboekdfdafmaaPwD
import Derived.Test.YtanboekdfdafmaaPvG
namespace Go.Proofs.Ytanboekdfdafmaa.Pv
open Go.ChangeShapes Go.WideShapes Go.ChangeAt Go.RowKit Go.Joins Go.Proofs.Ytanboekdfdafmaa.PM Go.Proofs.Ytanboekdfdafmaa.Ask Go.Proofs.Ytanboekdfdafmaa.Ge
set_option linter.unusedVariables false

/-- the block of a list -/
def ob (a : Option Addr) : Option Nat := a.map (fun x => x.block)
theorem ob_own (a : Option Addr) (n c : Nat) : (Value.slice a n c).ownBlock = ob a := by cases a <;> rfl
/-- blocks that are apart -/
def Dis (l : List (Option Nat)) : Prop := l.Pairwise (fun a b => ∀ g, a = some g → ¬ b = some g)
/-- a box that holds a route -/
def RB (bt : Nat) (t : Rt) (s : Sl) (w : World) : Prop := w.heap[bt]? = some (Obj.cells (rtL t s).toArray 52)
theorem RB.blk {bt : Nat} {t : Rt} {s : Sl} {w w' : World} (h : RB bt t s w) (hb : w'.heap[bt]? = w.heap[bt]?) : RB bt t s w' := hb.trans h
theorem RB.lt {bt : Nat} {t : Rt} {s : Sl} {w : World} (h : RB bt t s w) : bt < w.heap.size := (Array.getElem?_eq_some_iff.1 h).1
theorem RB.fro {bt : Nat} {t : Rt} {s : Sl} {w : World} (h : RB bt t s w) (i : Nat) : w.frozen? ⟨bt, i, none⟩ = false := by unfold World.frozen?; rw [h]; simp
theorem RB.cell {bt : Nat} {t : Rt} {s : Sl} {w : World} (h : RB bt t s w) (i : Nat) : w.cell? ⟨bt, i, none⟩ = (rtL t s)[i]? := by unfold World.cell?; rw [h]; simp
theorem RB.rbox {bt : Nat} {t : Rt} {s : Sl} {w : World} (h : RB bt t s w) : RBox bt t s w := ⟨h.cell 0, h.cell 1, h.cell 2, h.cell 3, h.cell 4, h.cell 5, h.cell 6, h.cell 7, h.cell 8, h.cell 9⟩
theorem RB.set {bt : Nat} {t t2 : Rt} {s s2 : Sl} {w : World} (h : RB bt t s w) (i : Nat) (v : Value) (he : (rtL t s).toArray.setIfInBounds i v = (rtL t2 s2).toArray) : RB bt t2 s2 (w.setCell ⟨bt, i, none⟩ v) := by
  unfold RB
  rw [heap_setCell_same w bt i _ _ v h, he]
/-- a route's lists are the call's own, and apart -/
structure RO (N : Nat) (w : World) (t : Rt) (s : Sl) : Prop where
  p : OwnL EI N w (.slice s.p t.path.length s.pc) t.path
  m : OwnL EI N w (.slice s.m t.marks.length s.mc) t.marks
  c : OwnL EI N w (.slice s.c t.clus.length s.cc) t.clus
  d : Dis [ob s.p, ob s.m, ob s.c]
  n0 : 0 ≤ t.next
  n1 : t.next < 4294967296
/-- one of these blocks -/
def Rown (s : Sl) (g : Nat) : Prop := ob s.p = some g ∨ ob s.m = some g ∨ ob s.c = some g
theorem own_obk {α : Type} {E : El α} {N n c : Nat} {w w' : World} {a : Option Addr} {xs : List α} (h : OwnL E N w (.slice a n c) xs) (hb : ∀ g, ob a = some g → N ≤ g → g < w.heap.size → w'.heap[g]? = w.heap[g]?) : OwnL E N w' (.slice a n c) xs :=
  h.blk (fun g e => by
    have h1 := h.row.lt g e
    rw [ob_own] at e
    exact hb g e h1.1 h1.2)
theorem own_obr {α : Type} {E : El α} {N n c : Nat} {w : World} {a : Option Addr} {xs : List α} (h : OwnL E N w (.slice a n c) xs) (g : Nat) (e : ob a = some g) : N ≤ g ∧ g < w.heap.size := by
  refine h.row.lt g ?_
  rw [ob_own]
  exact e
theorem RO.blk {N : Nat} {w w' : World} {t : Rt} {s : Sl} (h : RO N w t s) (hb : ∀ g, Rown s g → N ≤ g → g < w.heap.size → w'.heap[g]? = w.heap[g]?) : RO N w' t s :=
  ⟨own_obk h.p (fun g e => hb g (.inl e)), own_obk h.m (fun g e => hb g (.inr (.inl e))), own_obk h.c (fun g e => hb g (.inr (.inr e))), h.d, h.n0, h.n1⟩
theorem RO.rng {N : Nat} {w : World} {t : Rt} {s : Sl} (h : RO N w t s) (g : Nat) (hg : Rown s g) : N ≤ g ∧ g < w.heap.size := by
  rcases hg with e | e | e
  · exact own_obr h.p g e
  · exact own_obr h.m g e
  · exact own_obr h.c g e
/-- nothing old but two blocks has turned -/
structure Kr2 (w : World) (bt bv : Nat) (w' : World) : Prop where
  str : Below 0 w w'
  block : ∀ b, b < w.heap.size → b ≠ bt → b ≠ bv → w'.heap[b]? = w.heap[b]?
theorem Kr.two {w w1 : World} {bv : Nat} (bt : Nat) (h : Kr w bv w1) : Kr2 w bt bv w1 := ⟨h.str, fun b hb _ hn => h.block b hb hn⟩
theorem Kr2.set {w w1 : World} {bt bv : Nat} (h : Kr2 w bt bv w1) (i : Nat) (v : Value) : Kr2 w bt bv (w1.setCell ⟨bt, i, none⟩ v) := ⟨h.str.setCell (p := ⟨bt, i, none⟩) (Nat.zero_le _) v, fun b hb hn hm => (Below.heap_setCell w1 ⟨bt, i, none⟩ _ b hn).trans (h.block b hb hn hm)⟩
theorem dis3 {a b c : Option Nat} : Dis [a, b, c] ↔ (∀ g, a = some g → ¬ b = some g) ∧ (∀ g, a = some g → ¬ c = some g) ∧ (∀ g, b = some g → ¬ c = some g) := by
  unfold Dis
  simp only [List.pairwise_cons, List.mem_cons, List.not_mem_nil, or_false, forall_eq_or_imp, forall_eq, List.Pairwise.nil, and_true]
  constructor
  · rintro ⟨⟨h1, h2⟩, h3, -⟩; exact ⟨h1, h2, h3⟩
  · rintro ⟨h1, h2, h3⟩; exact ⟨⟨h1, h2⟩, h3, fun _ h => by cases h⟩
/-- a new list in the place of the path -/
theorem RO.setp {N : Nat} {w w' : World} {t : Rt} {s : Sl} (h : RO N w t s) (h2 : RO N w' t s) (hN : N ≤ w.heap.size) {a : Option Addr} {c : Nat} {ns : List Int} (ho : OwnL EI w.heap.size w' (.slice a ns.length c) ns) : RO N w' { t with path := ns } { s with p := a, pc := c } := by
  obtain ⟨d1, d2, d3⟩ := dis3.1 h.d
  exact ⟨ho.mono hN, h2.m, h2.c, dis3.2 ⟨fun g e e2 => by have := own_obr ho g e; have := own_obr h.m g e2; omega, fun g e e2 => by have := own_obr ho g e; have := own_obr h.c g e2; omega, d3⟩, h.n0, h.n1⟩
theorem RO.setm {N : Nat} {w w' : World} {t : Rt} {s : Sl} (h : RO N w t s) (h2 : RO N w' t s) (hN : N ≤ w.heap.size) {a : Option Addr} {c : Nat} {ns : List Int} (ho : OwnL EI w.heap.size w' (.slice a ns.length c) ns) : RO N w' { t with marks := ns } { s with m := a, mc := c } := by
  obtain ⟨d1, d2, d3⟩ := dis3.1 h.d
  exact ⟨h2.p, ho.mono hN, h2.c, dis3.2 ⟨fun g e e2 => by have := own_obr ho g e2; have := own_obr h.p g e; omega, d2, fun g e e2 => by have := own_obr ho g e; have := own_obr h.c g e2; omega⟩, h.n0, h.n1⟩
theorem RO.setc {N : Nat} {w w' : World} {t : Rt} {s : Sl} (h : RO N w t s) (h2 : RO N w' t s) (hN : N ≤ w.heap.size) {a : Option Addr} {c : Nat} {ns : List Int} (ho : OwnL EI w.heap.size w' (.slice a ns.length c) ns) : RO N w' { t with clus := ns } { s with c := a, cc := c } := by
  obtain ⟨d1, d2, d3⟩ := dis3.1 h.d
  exact ⟨h2.p, h2.m, ho.mono hN, dis3.2 ⟨d1, fun g e e2 => by have := own_obr ho g e2; have := own_obr h.p g e; omega, fun g e e2 => by have := own_obr ho g e2; have := own_obr h.m g e; omega⟩, h.n0, h.n1⟩
def SetPost (N : Nat) (w : World) (bt bv : Nat) (o : Option Rt) (e : Ending) (w' : World) : Prop :=
  match o with
  | none => e = pan ∧ Kr2 w bt bv w'
  | some t2 => ∃ s2, e = .returned (.tuple #[]) ∧ RB bt t2 s2 w' ∧ RO N w' t2 s2 ∧ Kr2 w bt bv w'
set_option maxRecDepth 100000 in
set_option maxHeartbeats 4000000 in
theorem seta1 (M N bt : Nat) (t : Rt) (s : Sl) (bv : Nat) (a : Option Addr) (n c : Nat) (v : List Nat) (hbig : n ≤ 1048576) (w : World) (hb : RB bt t s w) (ho : RO N w t s) (hr : Rdr M w bv a n c v) (hne : ¬ bt = bv) (hbn : bt < N) (hN : N ≤ w.heap.size) (hfr : ∀ g, Rown s g → g ≠ bv) :
    Calls Try.prog 85 #[.pointer (some ⟨bt, 0, none⟩), .int .i64 1, .pointer (some ⟨bv, 0, none⟩)] w (SetPost N w bt bv (setA t 1 v)) := by
  have HB : Hid (RB bt t s w) := hb
  have HO : Hid (RO N w t s) := ho
  have HR : Hid (Rdr M w bv a n c v) := hr
  have HF : Hid (∀ g, Rown s g → g ≠ bv) := hfr
  have hbt := hb.lt
  have HL : Hid (v.length = n) := hr.len
  clear hb ho hr hfr
  go_enter Try.func85, Try.ntmps85
  by_cases hz : 1 ≤ n
  · go_wp2_with fail
    refine (rnum_yes M bv a n c v 1 hz (by decide) w HR.out).mono ?_
    rintro e w1 ⟨a1, c1, rfl, hr1, hk1⟩
    have hq4 : num (v.take 1) < 4294967296 := (num_ltk HR.out.u8 1 (by rw [HL.out]; exact hz) (by decide)).1
    obtain ⟨q, hq⟩ : ∃ q, num (v.take 1) = q := ⟨_, rfl⟩
    rw [hq] at hq4 ⊢
    have HB1 : Hid (RB bt t s w1) := HB.out.blk (hk1.block bt hbt hne)
    have HO1 : Hid (RO N w1 t s) := HO.out.blk (fun g hg _ hl => hk1.block g hl (HF.out g hg))
    have HQ : Hid (SetPost N w bt bv (setA t 1 v) (.returned (.tuple #[])) (w1.setCell ⟨bt, 3, none⟩ (.int .i64 (q : Int)))) := by
      show SetPost _ _ _ _ _ _ _
      have e1 : setA t 1 v = some { t with org := (q : Int) } := by unfold setA; simp [rd_yes (show 1 ≤ v.length by rw [HL.out]; exact hz), hq]
      rw [e1]
      refine ⟨s, rfl, HB1.out.set 3 _ (by simp [rtL]), ?_, (hk1.two bt).set _ _⟩
      have h5 : RO N (w1.setCell ⟨bt, 3, none⟩ (.int .i64 (q : Int))) t s := HO1.out.blk (fun g hg hn _ => Below.heap_setCell w1 ⟨bt, 3, none⟩ _ g (by show g ≠ bt; omega))
      exact ⟨h5.p, h5.m, h5.c, h5.d, h5.n0, h5.n1⟩
    have hqw : IntKind.u32.wrap (q : Int) = (q : Int) := by rw [IntKind.wrap_u32]; omega
    have hqm : (q : Int) % 4294967296 = (q : Int) := by omega
    have f0 := HB1.out.fro 3
    have c0 : w1.cell? ⟨bt, 3, none⟩ = some (.int .i64 t.org) := HB1.out.cell 3
    clear hr1 hk1 HB1 HO1 hq
    go_wp2_with fail
    refine ⟨rfl, .tuple #[], ?_, HQ.out⟩
    simp [results, Try.results85, go_sem]
  · have HQ : Hid (SetPost N w bt bv (setA t 1 v) pan w) := by
      show SetPost _ _ _ _ _ _ _
      have e1 : setA t 1 v = none := by unfold setA; simp [rd_no (show ¬ 1 ≤ v.length by rw [HL.out]; exact hz)]
      rw [e1]
      exact ⟨rfl, (Kr.refl w bv).two bt⟩
    unfold pan at HQ
    go_wp2_with fail
    refine (rnum_no M bv a n c v 1 (by omega) w HR.out).mono ?_
    rintro e w1 ⟨rfl, hw1⟩
    rw [hw1]
    clear hw1 w1
    unfold pan
    go_wp2_with fail
    exact ⟨rfl, HQ.out⟩
set_option maxRecDepth 100000 in
set_option maxHeartbeats 4000000 in
theorem seta3 (M N bt : Nat) (t : Rt) (s : Sl) (bv : Nat) (a : Option Addr) (n c : Nat) (v : List Nat) (hbig : n ≤ 1048576) (w : World) (hb : RB bt t s w) (ho : RO N w t s) (hr : Rdr M w bv a n c v) (hne : ¬ bt = bv) (hbn : bt < N) (hN : N ≤ w.heap.size) (hfr : ∀ g, Rown s g → g ≠ bv) :
    Calls Try.prog 85 #[.pointer (some ⟨bt, 0, none⟩), .int .i64 3, .pointer (some ⟨bv, 0, none⟩)] w (SetPost N w bt bv (setA t 3 v)) := by
  have HB : Hid (RB bt t s w) := hb
  have HO : Hid (RO N w t s) := ho
  have HR : Hid (Rdr M w bv a n c v) := hr
  have HF : Hid (∀ g, Rown s g → g ≠ bv) := hfr
  have hbt := hb.lt
  have HL : Hid (v.length = n) := hr.len
  clear hb ho hr hfr
  go_enter Try.func85, Try.ntmps85
  by_cases hz : 4 ≤ n
  · go_wp2_with fail
    refine (rnum_yes M bv a n c v 4 hz (by decide) w HR.out).mono ?_
    rintro e w1 ⟨a1, c1, rfl, hr1, hk1⟩
    have hq4 : num (v.take 4) < 4294967296 := (num_ltk HR.out.u8 4 (by rw [HL.out]; exact hz) (by decide)).1
    obtain ⟨q, hq⟩ : ∃ q, num (v.take 4) = q := ⟨_, rfl⟩
    rw [hq] at hq4 ⊢
    have HB1 : Hid (RB bt t s w1) := HB.out.blk (hk1.block bt hbt hne)
    have HO1 : Hid (RO N w1 t s) := HO.out.blk (fun g hg _ hl => hk1.block g hl (HF.out g hg))
    have HQ : Hid (SetPost N w bt bv (setA t 3 v) (.returned (.tuple #[])) (w1.setCell ⟨bt, 6, none⟩ (.int .u32 (q : Int)))) := by
      show SetPost _ _ _ _ _ _ _
      have e1 : setA t 3 v = some { t with next := (q : Int) } := by unfold setA; simp [rd_yes (show 4 ≤ v.length by rw [HL.out]; exact hz), hq]
      rw [e1]
      refine ⟨s, rfl, HB1.out.set 6 _ (by simp [rtL]), ?_, (hk1.two bt).set _ _⟩
      have h5 : RO N (w1.setCell ⟨bt, 6, none⟩ (.int .u32 (q : Int))) t s := HO1.out.blk (fun g hg hn _ => Below.heap_setCell w1 ⟨bt, 6, none⟩ _ g (by show g ≠ bt; omega))
      exact ⟨h5.p, h5.m, h5.c, h5.d, by show (0 : Int) ≤ (q : Int); omega, by show (q : Int) < 4294967296; omega⟩
    have hqw : IntKind.u32.wrap (q : Int) = (q : Int) := by rw [IntKind.wrap_u32]; omega
    have hqm : (q : Int) % 4294967296 = (q : Int) := by omega
    have f0 := HB1.out.fro 6
    have c0 : w1.cell? ⟨bt, 6, none⟩ = some (.int .u32 t.next) := HB1.out.cell 6
    clear hr1 hk1 HB1 HO1 hq
    go_wp2_with fail
    refine ⟨rfl, .tuple #[], ?_, HQ.out⟩
    simp [results, Try.results85, go_sem]
  · have HQ : Hid (SetPost N w bt bv (setA t 3 v) pan w) := by
      show SetPost _ _ _ _ _ _ _
      have e1 : setA t 3 v = none := by unfold setA; simp [rd_no (show ¬ 4 ≤ v.length by rw [HL.out]; exact hz)]
      rw [e1]
      exact ⟨rfl, (Kr.refl w bv).two bt⟩
    unfold pan at HQ
    go_wp2_with fail
    refine (rnum_no M bv a n c v 4 (by omega) w HR.out).mono ?_
    rintro e w1 ⟨rfl, hw1⟩
    rw [hw1]
    clear hw1 w1
    unfold pan
    go_wp2_with fail
    exact ⟨rfl, HQ.out⟩
set_option maxRecDepth 100000 in
set_option maxHeartbeats 4000000 in
theorem seta4 (M N bt : Nat) (t : Rt) (s : Sl) (bv : Nat) (a : Option Addr) (n c : Nat) (v : List Nat) (hbig : n ≤ 1048576) (w : World) (hb : RB bt t s w) (ho : RO N w t s) (hr : Rdr M w bv a n c v) (hne : ¬ bt = bv) (hbn : bt < N) (hN : N ≤ w.heap.size) (hfr : ∀ g, Rown s g → g ≠ bv) :
    Calls Try.prog 85 #[.pointer (some ⟨bt, 0, none⟩), .int .i64 4, .pointer (some ⟨bv, 0, none⟩)] w (SetPost N w bt bv (setA t 4 v)) := by
  have HB : Hid (RB bt t s w) := hb
  have HO : Hid (RO N w t s) := ho
  have HR : Hid (Rdr M w bv a n c v) := hr
  have HF : Hid (∀ g, Rown s g → g ≠ bv) := hfr
  have hbt := hb.lt
  have HL : Hid (v.length = n) := hr.len
  clear hb ho hr hfr
  go_enter Try.func85, Try.ntmps85
  by_cases hz : 4 ≤ n
  · go_wp2_with fail
    refine (rnum_yes M bv a n c v 4 hz (by decide) w HR.out).mono ?_
    rintro e w1 ⟨a1, c1, rfl, hr1, hk1⟩
    have hq4 : num (v.take 4) < 4294967296 := (num_ltk HR.out.u8 4 (by rw [HL.out]; exact hz) (by decide)).1
    obtain ⟨q, hq⟩ : ∃ q, num (v.take 4) = q := ⟨_, rfl⟩
    rw [hq] at hq4 ⊢
    have HB1 : Hid (RB bt t s w1) := HB.out.blk (hk1.block bt hbt hne)
    have HO1 : Hid (RO N w1 t s) := HO.out.blk (fun g hg _ hl => hk1.block g hl (HF.out g hg))
    have HQ : Hid (SetPost N w bt bv (setA t 4 v) (.returned (.tuple #[])) (w1.setCell ⟨bt, 5, none⟩ (.int .i64 (q : Int)))) := by
      show SetPost _ _ _ _ _ _ _
      have e1 : setA t 4 v = some { t with med := (q : Int) } := by unfold setA; simp [rd_yes (show 4 ≤ v.length by rw [HL.out]; exact hz), hq]
      rw [e1]
      refine ⟨s, rfl, HB1.out.set 5 _ (by simp [rtL]), ?_, (hk1.two bt).set _ _⟩
      have h5 : RO N (w1.setCell ⟨bt, 5, none⟩ (.int .i64 (q : Int))) t s := HO1.out.blk (fun g hg hn _ => Below.heap_setCell w1 ⟨bt, 5, none⟩ _ g (by show g ≠ bt; omega))
      exact ⟨h5.p, h5.m, h5.c, h5.d, h5.n0, h5.n1⟩
    have hqw : IntKind.u32.wrap (q : Int) = (q : Int) := by rw [IntKind.wrap_u32]; omega
    have hqm : (q : Int) % 4294967296 = (q : Int) := by omega
    have f0 := HB1.out.fro 5
    have c0 : w1.cell? ⟨bt, 5, none⟩ = some (.int .i64 t.med) := HB1.out.cell 5
    clear hr1 hk1 HB1 HO1 hq
    go_wp2_with fail
    refine ⟨rfl, .tuple #[], ?_, HQ.out⟩
    simp [results, Try.results85, go_sem]
  · have HQ : Hid (SetPost N w bt bv (setA t 4 v) pan w) := by
      show SetPost _ _ _ _ _ _ _
      have e1 : setA t 4 v = none := by unfold setA; simp [rd_no (show ¬ 4 ≤ v.length by rw [HL.out]; exact hz)]
      rw [e1]
      exact ⟨rfl, (Kr.refl w bv).two bt⟩
    unfold pan at HQ
    go_wp2_with fail
    refine (rnum_no M bv a n c v 4 (by omega) w HR.out).mono ?_
    rintro e w1 ⟨rfl, hw1⟩
    rw [hw1]
    clear hw1 w1
    unfold pan
    go_wp2_with fail
    exact ⟨rfl, HQ.out⟩
set_option maxRecDepth 100000 in
set_option maxHeartbeats 4000000 in
theorem seta5 (M N bt : Nat) (t : Rt) (s : Sl) (bv : Nat) (a : Option Addr) (n c : Nat) (v : List Nat) (hbig : n ≤ 1048576) (w : World) (hb : RB bt t s w) (ho : RO N w t s) (hr : Rdr M w bv a n c v) (hne : ¬ bt = bv) (hbn : bt < N) (hN : N ≤ w.heap.size) (hfr : ∀ g, Rown s g → g ≠ bv) :
    Calls Try.prog 85 #[.pointer (some ⟨bt, 0, none⟩), .int .i64 5, .pointer (some ⟨bv, 0, none⟩)] w (SetPost N w bt bv (setA t 5 v)) := by
  have HB : Hid (RB bt t s w) := hb
  have HO : Hid (RO N w t s) := ho
  have HR : Hid (Rdr M w bv a n c v) := hr
  have HF : Hid (∀ g, Rown s g → g ≠ bv) := hfr
  have hbt := hb.lt
  have HL : Hid (v.length = n) := hr.len
  clear hb ho hr hfr
  go_enter Try.func85, Try.ntmps85
  by_cases hz : 4 ≤ n
  · go_wp2_with fail
    refine (rnum_yes M bv a n c v 4 hz (by decide) w HR.out).mono ?_
    rintro e w1 ⟨a1, c1, rfl, hr1, hk1⟩
    have hq4 : num (v.take 4) < 4294967296 := (num_ltk HR.out.u8 4 (by rw [HL.out]; exact hz) (by decide)).1
    obtain ⟨q, hq⟩ : ∃ q, num (v.take 4) = q := ⟨_, rfl⟩
    rw [hq] at hq4 ⊢
    have HB1 : Hid (RB bt t s w1) := HB.out.blk (hk1.block bt hbt hne)
    have HO1 : Hid (RO N w1 t s) := HO.out.blk (fun g hg _ hl => hk1.block g hl (HF.out g hg))
    have HQ : Hid (SetPost N w bt bv (setA t 5 v) (.returned (.tuple #[])) (w1.setCell ⟨bt, 4, none⟩ (.int .i64 (q : Int)))) := by
      show SetPost _ _ _ _ _ _ _
      have e1 : setA t 5 v = some { t with pref := (q : Int) } := by unfold setA; simp [rd_yes (show 4 ≤ v.length by rw [HL.out]; exact hz), hq]
      rw [e1]
      refine ⟨s, rfl, HB1.out.set 4 _ (by simp [rtL]), ?_, (hk1.two bt).set _ _⟩
      have h5 : RO N (w1.setCell ⟨bt, 4, none⟩ (.int .i64 (q : Int))) t s := HO1.out.blk (fun g hg hn _ => Below.heap_setCell w1 ⟨bt, 4, none⟩ _ g (by show g ≠ bt; omega))
      exact ⟨h5.p, h5.m, h5.c, h5.d, h5.n0, h5.n1⟩
    have hqw : IntKind.u32.wrap (q : Int) = (q : Int) := by rw [IntKind.wrap_u32]; omega
    have hqm : (q : Int) % 4294967296 = (q : Int) := by omega
    have f0 := HB1.out.fro 4
    have c0 : w1.cell? ⟨bt, 4, none⟩ = some (.int .i64 t.pref) := HB1.out.cell 4
    clear hr1 hk1 HB1 HO1 hq
    go_wp2_with fail
    refine ⟨rfl, .tuple #[], ?_, HQ.out⟩
    simp [results, Try.results85, go_sem]
  · have HQ : Hid (SetPost N w bt bv (setA t 5 v) pan w) := by
      show SetPost _ _ _ _ _ _ _
      have e1 : setA t 5 v = none := by unfold setA; simp [rd_no (show ¬ 4 ≤ v.length by rw [HL.out]; exact hz)]
      rw [e1]
      exact ⟨rfl, (Kr.refl w bv).two bt⟩
    unfold pan at HQ
    go_wp2_with fail
    refine (rnum_no M bv a n c v 4 (by omega) w HR.out).mono ?_
    rintro e w1 ⟨rfl, hw1⟩
    rw [hw1]
    clear hw1 w1
    unfold pan
    go_wp2_with fail
    exact ⟨rfl, HQ.out⟩
set_option maxRecDepth 100000 in
set_option maxHeartbeats 4000000 in
theorem seta7 (M N bt : Nat) (t : Rt) (s : Sl) (bv : Nat) (a : Option Addr) (n c : Nat) (v : List Nat) (hbig : n ≤ 1048576) (w : World) (hb : RB bt t s w) (ho : RO N w t s) (hr : Rdr M w bv a n c v) (hne : ¬ bt = bv) (hbn : bt < N) (hN : N ≤ w.heap.size) (hfr : ∀ g, Rown s g → g ≠ bv) :
    Calls Try.prog 85 #[.pointer (some ⟨bt, 0, none⟩), .int .i64 7, .pointer (some ⟨bv, 0, none⟩)] w (SetPost N w bt bv (setA t 7 v)) := by
  have HB : Hid (RB bt t s w) := hb
  have HO : Hid (RO N w t s) := ho
  have HR : Hid (Rdr M w bv a n c v) := hr
  have HF : Hid (∀ g, Rown s g → g ≠ bv) := hfr
  have hbt := hb.lt
  have HL : Hid (v.length = n) := hr.len
  clear hb ho hr hfr
  go_enter Try.func85, Try.ntmps85
  by_cases hz : 4 ≤ n
  · go_wp2_with fail
    refine (rnum_yes M bv a n c v 4 hz (by decide) w HR.out).mono ?_
    rintro e w1 ⟨a1, c1, rfl, hr1, hk1⟩
    have hq4 : num (v.take 4) < 4294967296 := (num_ltk HR.out.u8 4 (by rw [HL.out]; exact hz) (by decide)).1
    obtain ⟨q, hq⟩ : ∃ q, num (v.take 4) = q := ⟨_, rfl⟩
    rw [hq] at hq4 ⊢
    have HB1 : Hid (RB bt t s w1) := HB.out.blk (hk1.block bt hbt hne)
    have HO1 : Hid (RO N w1 t s) := HO.out.blk (fun g hg _ hl => hk1.block g hl (HF.out g hg))
    have HQ : Hid (SetPost N w bt bv (setA t 7 v) (.returned (.tuple #[])) (w1.setCell ⟨bt, 9, none⟩ (.int .i64 (q : Int)))) := by
      show SetPost _ _ _ _ _ _ _
      have e1 : setA t 7 v = some { t with auth := (q : Int) } := by unfold setA; simp [rd_yes (show 4 ≤ v.length by rw [HL.out]; exact hz), hq]
      rw [e1]
      refine ⟨s, rfl, HB1.out.set 9 _ (by simp [rtL]), ?_, (hk1.two bt).set _ _⟩
      have h5 : RO N (w1.setCell ⟨bt, 9, none⟩ (.int .i64 (q : Int))) t s := HO1.out.blk (fun g hg hn _ => Below.heap_setCell w1 ⟨bt, 9, none⟩ _ g (by show g ≠ bt; omega))
      exact ⟨h5.p, h5.m, h5.c, h5.d, h5.n0, h5.n1⟩
    have hqw : IntKind.u32.wrap (q : Int) = (q : Int) := by rw [IntKind.wrap_u32]; omega
    have hqm : (q : Int) % 4294967296 = (q : Int) := by omega
    have f0 := HB1.out.fro 9
    have c0 : w1.cell? ⟨bt, 9, none⟩ = some (.int .i64 t.auth) := HB1.out.cell 9
    clear hr1 hk1 HB1 HO1 hq
    go_wp2_with fail
    refine ⟨rfl, .tuple #[], ?_, HQ.out⟩
    simp [results, Try.results85, go_sem]
  · have HQ : Hid (SetPost N w bt bv (setA t 7 v) pan w) := by
      show SetPost _ _ _ _ _ _ _
      have e1 : setA t 7 v = none := by unfold setA; simp [rd_no (show ¬ 4 ≤ v.length by rw [HL.out]; exact hz)]
      rw [e1]
      exact ⟨rfl, (Kr.refl w bv).two bt⟩
    unfold pan at HQ
    go_wp2_with fail
    refine (rnum_no M bv a n c v 4 (by omega) w HR.out).mono ?_
    rintro e w1 ⟨rfl, hw1⟩
    rw [hw1]
    clear hw1 w1
    unfold pan
    go_wp2_with fail
    exact ⟨rfl, HQ.out⟩
set_option maxRecDepth 100000 in
set_option maxHeartbeats 4000000 in
theorem seta2 (M N bt : Nat) (t : Rt) (s : Sl) (bv : Nat) (a : Option Addr) (n c : Nat) (v : List Nat) (hbig : n ≤ 1048576) (w : World) (hb : RB bt t s w) (ho : RO N w t s) (hr : Rdr M w bv a n c v) (hne : ¬ bt = bv) (hbn : bt < N) (hN : N ≤ w.heap.size) (hfr : ∀ g, Rown s g → g ≠ bv) :
    Calls Try.prog 85 #[.pointer (some ⟨bt, 0, none⟩), .int .i64 2, .pointer (some ⟨bv, 0, none⟩)] w (SetPost N w bt bv (setA t 2 v)) := by
  have HB : Hid (RB bt t s w) := hb
  have HO : Hid (RO N w t s) := ho
  have HR : Hid (Rdr M w bv a n c v) := hr
  have HF : Hid (∀ g, Rown s g → g ≠ bv) := hfr
  have hbt := hb.lt
  have HL : Hid (v.length = n) := hr.len
  clear hb ho hr hfr
  go_enter Try.func85, Try.ntmps85
  go_wp2_with fail
  refine (rnums_any M bv a n c v hbig w HR.out).mono ?_
  intro e w1 hpost
  cases hx : rwords v with
  | none =>
    rw [hx] at hpost
    obtain ⟨rfl, hk1⟩ := hpost
    have HQ : Hid (SetPost N w bt bv (setA t 2 v) pan w1) := by
      show SetPost _ _ _ _ _ _ _
      have e1 : setA t 2 v = none := by unfold setA; simp [hx]
      rw [e1]
      exact ⟨rfl, hk1.two bt⟩
    unfold pan at HQ ⊢
    clear hk1 hx
    go_wp2_with fail
    exact ⟨rfl, HQ.out⟩
  | some ns =>
    rw [hx] at hpost
    obtain ⟨vv, rfl, ho1, hk1⟩ := hpost
    obtain ⟨va, vc, hv1, -⟩ := ho1.form
    subst hv1
    have HB1 : Hid (RB bt t s w1) := HB.out.blk (hk1.block bt hbt hne)
    have HO1 : Hid (RO N w1 t s) := HO.out.blk (fun g hg _ hl => hk1.block g hl (HF.out g hg))
    have HQ : Hid (SetPost N w bt bv (setA t 2 v) (.returned (.tuple #[])) (w1.setCell ⟨bt, 2, none⟩ (.slice va ns.length vc))) := by
      show SetPost _ _ _ _ _ _ _
      have e1 : setA t 2 v = some { t with path := ns } := by unfold setA; simp [hx]
      rw [e1]
      refine ⟨{ s with p := va, pc := vc }, rfl, HB1.out.set 2 _ (by simp [rtL]), ?_, (hk1.two bt).set _ _⟩
      have h5 : RO N (w1.setCell ⟨bt, 2, none⟩ (.slice va ns.length vc)) t s := HO1.out.blk (fun g hg hn _ => Below.heap_setCell w1 ⟨bt, 2, none⟩ _ g (by show g ≠ bt; omega))
      exact HO.out.setp h5 hN (own_obk ho1 (fun g _ hg _ => Below.heap_setCell w1 ⟨bt, 2, none⟩ _ g (by show g ≠ bt; omega)))
    have f0 := HB1.out.fro 2
    have c0 : w1.cell? ⟨bt, 2, none⟩ = some (.slice s.p t.path.length s.pc) := HB1.out.cell 2
    obtain ⟨L, hL⟩ : ∃ L, ns.length = L := ⟨_, rfl⟩
    rw [hL] at HQ ⊢
    obtain ⟨L0, hL0⟩ : ∃ L, t.path.length = L := ⟨_, rfl⟩
    rw [hL0] at c0
    clear hk1 HB1 HO1 ho1 hx hL hL0
    go_wp2_with fail
    refine ⟨rfl, .tuple #[], ?_, HQ.out⟩
    simp [results, Try.results85, go_sem]
set_option maxRecDepth 100000 in
set_option maxHeartbeats 4000000 in
theorem seta6 (M N bt : Nat) (t : Rt) (s : Sl) (bv : Nat) (a : Option Addr) (n c : Nat) (v : List Nat) (hbig : n ≤ 1048576) (w : World) (hb : RB bt t s w) (ho : RO N w t s) (hr : Rdr M w bv a n c v) (hne : ¬ bt = bv) (hbn : bt < N) (hN : N ≤ w.heap.size) (hfr : ∀ g, Rown s g → g ≠ bv) :
    Calls Try.prog 85 #[.pointer (some ⟨bt, 0, none⟩), .int .i64 6, .pointer (some ⟨bv, 0, none⟩)] w (SetPost N w bt bv (setA t 6 v)) := by
  have HB : Hid (RB bt t s w) := hb
  have HO : Hid (RO N w t s) := ho
  have HR : Hid (Rdr M w bv a n c v) := hr
  have HF : Hid (∀ g, Rown s g → g ≠ bv) := hfr
  have hbt := hb.lt
  have HL : Hid (v.length = n) := hr.len
  clear hb ho hr hfr
  go_enter Try.func85, Try.ntmps85
  go_wp2_with fail
  refine (rnums_any M bv a n c v hbig w HR.out).mono ?_
  intro e w1 hpost
  cases hx : rwords v with
  | none =>
    rw [hx] at hpost
    obtain ⟨rfl, hk1⟩ := hpost
    have HQ : Hid (SetPost N w bt bv (setA t 6 v) pan w1) := by
      show SetPost _ _ _ _ _ _ _
      have e1 : setA t 6 v = none := by unfold setA; simp [hx]
      rw [e1]
      exact ⟨rfl, hk1.two bt⟩
    unfold pan at HQ ⊢
    clear hk1 hx
    go_wp2_with fail
    exact ⟨rfl, HQ.out⟩
  | some ns =>
    rw [hx] at hpost
    obtain ⟨vv, rfl, ho1, hk1⟩ := hpost
    obtain ⟨va, vc, hv1, -⟩ := ho1.form
    subst hv1
    have HB1 : Hid (RB bt t s w1) := HB.out.blk (hk1.block bt hbt hne)
    have HO1 : Hid (RO N w1 t s) := HO.out.blk (fun g hg _ hl => hk1.block g hl (HF.out g hg))
    have HQ : Hid (SetPost N w bt bv (setA t 6 v) (.returned (.tuple #[])) (w1.setCell ⟨bt, 7, none⟩ (.slice va ns.length vc))) := by
      show SetPost _ _ _ _ _ _ _
      have e1 : setA t 6 v = some { t with marks := ns } := by unfold setA; simp [hx]
      rw [e1]
      refine ⟨{ s with m := va, mc := vc }, rfl, HB1.out.set 7 _ (by simp [rtL]), ?_, (hk1.two bt).set _ _⟩
      have h5 : RO N (w1.setCell ⟨bt, 7, none⟩ (.slice va ns.length vc)) t s := HO1.out.blk (fun g hg hn _ => Below.heap_setCell w1 ⟨bt, 7, none⟩ _ g (by show g ≠ bt; omega))
      exact HO.out.setm h5 hN (own_obk ho1 (fun g _ hg _ => Below.heap_setCell w1 ⟨bt, 7, none⟩ _ g (by show g ≠ bt; omega)))
    have f0 := HB1.out.fro 7
    have c0 : w1.cell? ⟨bt, 7, none⟩ = some (.slice s.m t.marks.length s.mc) := HB1.out.cell 7
    obtain ⟨L, hL⟩ : ∃ L, ns.length = L := ⟨_, rfl⟩
    rw [hL] at HQ ⊢
    obtain ⟨L0, hL0⟩ : ∃ L, t.marks.length = L := ⟨_, rfl⟩
    rw [hL0] at c0
    clear hk1 HB1 HO1 ho1 hx hL hL0
    go_wp2_with fail
    refine ⟨rfl, .tuple #[], ?_, HQ.out⟩
    simp [results, Try.results85, go_sem]
set_option maxRecDepth 100000 in
set_option maxHeartbeats 4000000 in
theorem seta8 (M N bt : Nat) (t : Rt) (s : Sl) (bv : Nat) (a : Option Addr) (n c : Nat) (v : List Nat) (hbig : n ≤ 1048576) (w : World) (hb : RB bt t s w) (ho : RO N w t s) (hr : Rdr M w bv a n c v) (hne : ¬ bt = bv) (hbn : bt < N) (hN : N ≤ w.heap.size) (hfr : ∀ g, Rown s g → g ≠ bv) :
    Calls Try.prog 85 #[.pointer (some ⟨bt, 0, none⟩), .int .i64 8, .pointer (some ⟨bv, 0, none⟩)] w (SetPost N w bt bv (setA t 8 v)) := by
  have HB : Hid (RB bt t s w) := hb
  have HO : Hid (RO N w t s) := ho
  have HR : Hid (Rdr M w bv a n c v) := hr
  have HF : Hid (∀ g, Rown s g → g ≠ bv) := hfr
  have hbt := hb.lt
  have HL : Hid (v.length = n) := hr.len
  clear hb ho hr hfr
  go_enter Try.func85, Try.ntmps85
  go_wp2_with fail
  refine (rnums_any M bv a n c v hbig w HR.out).mono ?_
  intro e w1 hpost
  cases hx : rwords v with
  | none =>
    rw [hx] at hpost
    obtain ⟨rfl, hk1⟩ := hpost
    have HQ : Hid (SetPost N w bt bv (setA t 8 v) pan w1) := by
      show SetPost _ _ _ _ _ _ _
      have e1 : setA t 8 v = none := by unfold setA; simp [hx]
      rw [e1]
      exact ⟨rfl, hk1.two bt⟩
    unfold pan at HQ ⊢
    clear hk1 hx
    go_wp2_with fail
    exact ⟨rfl, HQ.out⟩
  | some ns =>
    rw [hx] at hpost
    obtain ⟨vv, rfl, ho1, hk1⟩ := hpost
    obtain ⟨va, vc, hv1, -⟩ := ho1.form
    subst hv1
    have HB1 : Hid (RB bt t s w1) := HB.out.blk (hk1.block bt hbt hne)
    have HO1 : Hid (RO N w1 t s) := HO.out.blk (fun g hg _ hl => hk1.block g hl (HF.out g hg))
    have HQ : Hid (SetPost N w bt bv (setA t 8 v) (.returned (.tuple #[])) (w1.setCell ⟨bt, 8, none⟩ (.slice va ns.length vc))) := by
      show SetPost _ _ _ _ _ _ _
      have e1 : setA t 8 v = some { t with clus := ns } := by unfold setA; simp [hx]
      rw [e1]
      refine ⟨{ s with c := va, cc := vc }, rfl, HB1.out.set 8 _ (by simp [rtL]), ?_, (hk1.two bt).set _ _⟩
      have h5 : RO N (w1.setCell ⟨bt, 8, none⟩ (.slice va ns.length vc)) t s := HO1.out.blk (fun g hg hn _ => Below.heap_setCell w1 ⟨bt, 8, none⟩ _ g (by show g ≠ bt; omega))
      exact HO.out.setc h5 hN (own_obk ho1 (fun g _ hg _ => Below.heap_setCell w1 ⟨bt, 8, none⟩ _ g (by show g ≠ bt; omega)))
    have f0 := HB1.out.fro 8
    have c0 : w1.cell? ⟨bt, 8, none⟩ = some (.slice s.c t.clus.length s.cc) := HB1.out.cell 8
    obtain ⟨L, hL⟩ : ∃ L, ns.length = L := ⟨_, rfl⟩
    rw [hL] at HQ ⊢
    obtain ⟨L0, hL0⟩ : ∃ L, t.clus.length = L := ⟨_, rfl⟩
    rw [hL0] at c0
    clear hk1 HB1 HO1 ho1 hx hL hL0
    go_wp2_with fail
    refine ⟨rfl, .tuple #[], ?_, HQ.out⟩
    simp [results, Try.results85, go_sem]
theorem setaX (N bt : Nat) (t : Rt) (bv : Nat) (v : List Nat) (w : World) (k : Nat) (hk : ¬ (1 ≤ k ∧ k ≤ 8)) :
    Calls Try.prog 85 #[.pointer (some ⟨bt, 0, none⟩), .int .i64 (k : Int), .pointer (some ⟨bv, 0, none⟩)] w (SetPost N w bt bv (setA t k v)) := by
  have HQ : Hid (SetPost N w bt bv (setA t k v) pan w) := by
    show SetPost _ _ _ _ _ _ _
    have e1 : setA t k v = none := by unfold setA; rw [if_neg (by omega), if_neg (by omega), if_neg (by omega), if_neg (by omega), if_neg (by omega), if_neg (by omega), if_neg (by omega), if_neg (by omega)]
    rw [e1]
    exact ⟨rfl, (Kr.refl w bv).two bt⟩
  unfold pan at HQ
  have k1 : ((k : Int) == 1) = false := by rw [beq_eq_false_iff_ne]; omega
  have k2 : ((k : Int) == 2) = false := by rw [beq_eq_false_iff_ne]; omega
  have k3 : ((k : Int) == 3) = false := by rw [beq_eq_false_iff_ne]; omega
  have k4 : ((k : Int) == 4) = false := by rw [beq_eq_false_iff_ne]; omega
  have k5 : ((k : Int) == 5) = false := by rw [beq_eq_false_iff_ne]; omega
  have k6 : ((k : Int) == 6) = false := by rw [beq_eq_false_iff_ne]; omega
  have k7 : ((k : Int) == 7) = false := by rw [beq_eq_false_iff_ne]; omega
  have k8 : ((k : Int) == 8) = false := by rw [beq_eq_false_iff_ne]; omega
  clear hk
  go_enter Try.func85, Try.ntmps85
  go_wp2_with fail
  exact ⟨rfl, HQ.out⟩
theorem seta_any (M N bt : Nat) (t : Rt) (s : Sl) (bv : Nat) (a : Option Addr) (n c : Nat) (v : List Nat) (hbig : n ≤ 1048576) (w : World) (hb : RB bt t s w) (ho : RO N w t s) (hr : Rdr M w bv a n c v) (hne : ¬ bt = bv) (hbn : bt < N) (hN : N ≤ w.heap.size) (hfr : ∀ g, Rown s g → g ≠ bv) (k : Nat) :
    Calls Try.prog 85 #[.pointer (some ⟨bt, 0, none⟩), .int .i64 (k : Int), .pointer (some ⟨bv, 0, none⟩)] w (SetPost N w bt bv (setA t k v)) := by
  by_cases hk : 1 ≤ k ∧ k ≤ 8
  · have h8 : k = 1 ∨ k = 2 ∨ k = 3 ∨ k = 4 ∨ k = 5 ∨ k = 6 ∨ k = 7 ∨ k = 8 := by omega
    rcases h8 with rfl | rfl | rfl | rfl | rfl | rfl | rfl | rfl
    · exact seta1 M N bt t s bv a n c v hbig w hb ho hr hne hbn hN hfr
    · exact seta2 M N bt t s bv a n c v hbig w hb ho hr hne hbn hN hfr
    · exact seta3 M N bt t s bv a n c v hbig w hb ho hr hne hbn hN hfr
    · exact seta4 M N bt t s bv a n c v hbig w hb ho hr hne hbn hN hfr
    · exact seta5 M N bt t s bv a n c v hbig w hb ho hr hne hbn hN hfr
    · exact seta6 M N bt t s bv a n c v hbig w hb ho hr hne hbn hN hfr
    · exact seta7 M N bt t s bv a n c v hbig w hb ho hr hne hbn hN hfr
    · exact seta8 M N bt t s bv a n c v hbig w hb ho hr hne hbn hN hfr
  · exact setaX N bt t bv v w k hk
end Go.Proofs.Ytanboekdfdafmaa.Pv
