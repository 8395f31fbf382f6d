/- lsaCopy: what it answers. -/
import Derived.Test.YtagfdmkgnedlbaeLsKa
import Derived.OwnWalk
import Derived.Laws.AppendOwnNone
import Derived.Maps.AppendAt
import Derived.Deep.RegionHeld3
import Derived.Deep.CutRange
import Derived.Lib.SmallJoins
namespace Go.Proofs.Ytagfdmkgnedlbae.Ls
open Go.ChangeShapes Go.WideShapes Go.ChangeAt Go.RowKit Go.Joins Go.Proofs.Ytagfdmkgnedlbae.PM Go.Proofs.Ytagfdmkgnedlbae.Ask
set_option linter.unusedVariables false

/-- make, as one step of a region that draws -/
theorem step_make {ops : Array Oper} {o : Oper} {a : Act} {Q : Exit → Act → World → Prop} {K : Act → World → Prop} {E : Prop} (hgd : o.guard = none) (l c : Operand) (t : TypeId) (hop : o.op = Op.makeSlice t l c) (w : World)
    (base : Nat) (e : TypeId) (i : TypeInfo) (z : Value) (size : Nat) (h1 : Try.prog.underlying t = some (.slice e)) (h2 : Try.prog.info? e = some i) (h3 : i.zero = some z) (h4 : i.size = size)
    (C : Int) (n : Nat) (hl : a.eval l = .int .i64 0) (hc : a.eval c = .int .i64 C) (hC : C = (n : Int)) (b2 : i.bytes * n ≤ 281474976710656) (b3 : n ≤ maxLen) (b4 : base ≤ w.heap.size)
    (hK : ∀ w', w'.ownsRow base e size (.slice (some ⟨w.heap.size, 0, none⟩) 0 n) 0 [] → w.grownBy w' none → K (a.put o.dst (.slice (some ⟨w.heap.size, 0, none⟩) 0 n)) w') :
    if Region.wanted o (yielded ops a.tmps) = true then Oper.wp Try.prog o a w K Q else E := by
  have hw : Region.wanted o (yielded ops a.tmps) = true := by simp [Region.wanted, hgd]
  rw [if_pos hw]
  obtain ⟨w', hrun, r1, r2⟩ := run_make_own (P := Try.prog) w base t e i z size h1 h2 h3 h4 .i64 .i64 n b2 b3 b4
  subst hC
  unfold Oper.wp
  simp [execOp, hop, hl, hc, hrun, Result.andThen]
  exact hK w' r1 r2
/-- what came in is appended to what was made, as one step of a region that draws -/
theorem step_app3 {ops : Array Oper} {o : Oper} {a : Act} {Q : Exit → Act → World → Prop} {K : Act → World → Prop} {E : Prop} (hgd : o.guard = none) (s x : Operand) (t e : TypeId)
    (ho : o.op = .call { callee := .builtin .append, args := #[s, x], argTypes := #[t, t] }) (k : IntKind) (i : TypeInfo) (z : Value) (ht : Try.prog.underlying t = some (.slice e)) (hi : Try.prog.info? e = some i) (hz : i.zero = some z) (hs3 : i.size = 3) (hby : i.bytes ≤ 24) (hzs : z.cells.size = 3)
    (N : Nat) (v : Value) (xs : List (Int × Int × Int)) (L : Nat) (hL : xs.length = L) (hbig : L ≤ 1048576) (w : World) (hs : a.eval s = v) (hown : w.ownsRow N e 3 v 0 [])
    (va : Option Addr) (cap : Nat) (hx : a.eval x = .slice va L cap) (hsrc : L3 k w va xs) (hnil : va = none → L = 0 ∧ cap = 0) (hN : N ≤ w.heap.size)
    (h : ∀ v' w', Hid (w'.ownsRow N e 3 v' L (tcs k xs)) → Hid (w.grownBy w' v.ownBlock) → K (a.put o.dst v') w') :
    if Region.wanted o (yielded ops a.tmps) = true then Oper.wp Try.prog o a w K Q else E := by
  have hw : Region.wanted o (yielded ops a.tmps) = true := by simp [Region.wanted, hgd]
  rw [if_pos hw]
  cases va with
  | none =>
    obtain ⟨rfl, rfl⟩ := hnil rfl
    have e0 : xs = [] := List.length_eq_zero_iff.1 hL
    subst e0
    have hrun := run_append_owned_none (P := Try.prog) (w := w) N t o.type e i 3 ht hi v 0 [] hown
    unfold Oper.wp
    simp [execOp, ho, resolve, invoke, builtin, hs, hx, hrun, Result.andThen]
    exact h v w hown ⟨rfl, rfl, rfl, Nat.le_refl _, fun _ _ _ => rfl⟩
  | some ad =>
    obtain ⟨v', w', hr, h2, h3, h4, h5⟩ := run_append_own_at (P := Try.prog) w N t o.type e i z 3 i.bytes ht hi hz hs3 rfl hzs (by decide) v 0 [] hown ad L cap (tcs k xs) (by rw [tcs_len, hL]) (hsrc.src rfl) (tcs_one k xs) (by unfold maxLen; omega) (by
      rw [Nat.zero_add]
      exact Nat.le_trans (Nat.mul_le_mul_left _ hby) (by omega)) hN
    unfold Oper.wp execOp
    simp only [ho, resolve, invoke, builtin, Sem.run_bind, Sem.run_pure, Result.andThen_ok, List.map_toArray, List.map_cons, List.map_nil, hs, hx, hr]
    exact h v' w' (by rw [Nat.zero_add, List.nil_append] at h2; exact h2) h3

theorem L3.block {k : IntKind} {w w' : World} {a : Option Addr} {xs : List (Int × Int × Int)} (h : L3 k w a xs) (hs : w.heap.size ≤ w'.heap.size) (hk : ∀ b o, a = some ⟨b, o, none⟩ → b < w.heap.size → w'.heap[b]? = w.heap[b]?) : L3 k w' a xs :=
  ⟨h.small, fun i hi => by
    obtain ⟨b, o, e, hlt, h0, h1, h2⟩ := h.cells i hi
    have hb := hk b o e hlt
    exact ⟨b, o, e, Nat.lt_of_lt_of_le hlt hs, (World.cell?_of_block (w := w) hb).trans h0, (World.cell?_of_block (w := w) hb).trans h1, (World.cell?_of_block (w := w) hb).trans h2⟩⟩
/-- what lsaCopy works on: the box of what came in, and that of what goes out -/
structure CB (w : World) (s : Nat) (kind area origin pa pn seq age : Int) (lv sv : Value) (cost tag : Int) (W : World) : Prop where
  bx : LBox s kind area origin pa pn seq age lv sv cost tag W
  fx : ∀ i, W.frozen? ⟨s, i, none⟩ = false
  rb : LBox (s + 1) 0 0 0 0 0 0 0 (.slice none 0 0) (.slice none 0 0) 0 0 W
  fr : ∀ i, W.frozen? ⟨s + 1, i, none⟩ = false
  bel : Below w.heap.size w W
  sz : s + 2 ≤ W.heap.size
section
variable {w W W' : World} {s : Nat} {kind area origin pa pn seq age : Int} {lv sv lv' : Value} {cost tag : Int}
theorem LBox.block {s : Nat} (h : LBox s kind area origin pa pn seq age lv sv cost tag W) (hb : W'.heap[s]? = W.heap[s]?) : LBox s kind area origin pa pn seq age lv sv cost tag W' :=
  ⟨(World.cell?_of_block (w := W) hb).trans h.c0, (World.cell?_of_block (w := W) hb).trans h.c1, (World.cell?_of_block (w := W) hb).trans h.c2, (World.cell?_of_block (w := W) hb).trans h.c3, (World.cell?_of_block (w := W) hb).trans h.c4, (World.cell?_of_block (w := W) hb).trans h.c5, (World.cell?_of_block (w := W) hb).trans h.c6, (World.cell?_of_block (w := W) hb).trans h.c7, (World.cell?_of_block (w := W) hb).trans h.c8, (World.cell?_of_block (w := W) hb).trans h.c9, (World.cell?_of_block (w := W) hb).trans h.c10⟩
theorem CB.keep (h : CB w s kind area origin pa pn seq age lv sv cost tag W) (hk : ∀ b, b < s + 2 → W'.heap[b]? = W.heap[b]?) (hb : Below w.heap.size w W') (hs : W.heap.size ≤ W'.heap.size) : CB w s kind area origin pa pn seq age lv sv cost tag W' :=
  ⟨h.bx.block (hk s (by omega)), fun i => (World.frozen?_of_block (w := W) (hk s (by omega))).trans (h.fx i), h.rb.block (hk (s + 1) (by omega)), fun i => (World.frozen?_of_block (w := W) (hk (s + 1) (by omega))).trans (h.fr i), hb, Nat.le_trans h.sz hs⟩
theorem CB.drew (h : CB w s kind area origin pa pn seq age lv sv cost tag W) : CB w s kind area origin pa pn seq age lv sv cost tag W.drew :=
  h.keep (fun _ _ => rfl) (h.bel.trans ((drew_bel W).mono h.bel.size)) (Nat.le_refl _)
theorem CB.grown {o : Option Nat} (h : CB w s kind area origin pa pn seq age lv sv cost tag W) (hw : w.heap.size ≤ s) (hg : W.grownBy W' o) (ho : ∀ g, o = some g → s + 2 ≤ g) : CB w s kind area origin pa pn seq age lv sv cost tag W' := by
  have hsz := h.sz
  refine h.keep (fun b hb => hg.block b (by omega) (fun e => by have := ho b e.symm; omega)) (h.bel.grown hg h.bel.size (fun g e => by have := ho g e; omega)) hg.size
theorem CB.links (h : CB w s kind area origin pa pn seq age lv sv cost tag W) (hw : w.heap.size ≤ s) (v : Value) : CB w s kind area origin pa pn seq age v sv cost tag (W.setCell ⟨s, 7, none⟩ v) := by
  obtain ⟨c0, c1, c2, c3, c4, c5, c6, c7, c8, c9, c10⟩ := h.bx
  refine ⟨⟨?_, ?_, ?_, ?_, ?_, ?_, ?_, ?_, ?_, ?_, ?_⟩, fun i => by rw [World.frozen?_setCell]; exact h.fx i, h.rb.block (Below.heap_setCell W ⟨s, 7, none⟩ v (s + 1) (by show s + 1 ≠ s; omega)), fun i => by rw [World.frozen?_setCell]; exact h.fr i, h.bel.setCell (p := ⟨s, 7, none⟩) hw v, by simpa using h.sz⟩
  all_goals first
    | exact World.cell?_setCell_same' _ _ _ (by rw [c7]; rfl)
    | (rw [World.cell?_setCell_other _ _ _ _ (by intro e; injection e with _ e2 _; cases e2)]; assumption)
theorem CB.stubs (h : CB w s kind area origin pa pn seq age lv sv cost tag W) (hw : w.heap.size ≤ s) (v : Value) : CB w s kind area origin pa pn seq age lv v cost tag (W.setCell ⟨s, 8, none⟩ v) := by
  obtain ⟨c0, c1, c2, c3, c4, c5, c6, c7, c8, c9, c10⟩ := h.bx
  refine ⟨⟨?_, ?_, ?_, ?_, ?_, ?_, ?_, ?_, ?_, ?_, ?_⟩, fun i => by rw [World.frozen?_setCell]; exact h.fx i, h.rb.block (Below.heap_setCell W ⟨s, 8, none⟩ v (s + 1) (by show s + 1 ≠ s; omega)), fun i => by rw [World.frozen?_setCell]; exact h.fr i, h.bel.setCell (p := ⟨s, 8, none⟩) hw v, by simpa using h.sz⟩
  all_goals first
    | exact World.cell?_setCell_same' _ _ _ (by rw [c8]; rfl)
    | (rw [World.cell?_setCell_other _ _ _ _ (by intro e; injection e with _ e2 _; cases e2)]; assumption)
end

set_option maxRecDepth 100000 in
set_option maxHeartbeats 4000000 in
theorem copy_any (x : Lsa) (la : Option Addr) (lc : Nat) (sa : Option Addr) (sc : Nat) (w : World) (hx : LsOk w x la sa) (hnl : la = none → x.links.length = 0 ∧ lc = 0) (hns : sa = none → x.stubs.length = 0 ∧ sc = 0) (hbig : x.links.length ≤ 1048576 ∧ x.stubs.length ≤ 1048576) :
    Calls Try.prog 8 #[lsaV x la lc sa sc] w fun e w' => ∃ la' lc' sa' sc', e = .returned (lsaV x la' lc' sa' sc') ∧ LsOk w' x la' sa' ∧ Below w.heap.size w w' ∧ (∀ b o, la' = some ⟨b, o, none⟩ → w.heap.size ≤ b) ∧ (∀ b o, sa' = some ⟨b, o, none⟩ → w.heap.size ≤ b) := by
  obtain ⟨kind, area, origin, pa, pn, seq, age, cost, tag, links, stubs⟩ := x
  dsimp only at hnl hns hbig
  have HX : Hid (L3 .i64 w la links) := hx.lk
  have HY : Hid (L3 .u32 w sa stubs) := hx.st
  have HP : Hid (In32 pa ∧ ∀ d ∈ stubs, In32 d.1) := ⟨hx.p32, hx.s32⟩
  obtain ⟨n1, hn1⟩ : ∃ n1, links.length = n1 := ⟨_, rfl⟩
  obtain ⟨n2, hn2⟩ : ∃ n2, stubs.length = n2 := ⟨_, rfl⟩
  have HN1 : Hid (links.length = n1) := hn1
  have HN2 : Hid (stubs.length = n2) := hn2
  rw [hn1] at hnl
  rw [hn2] at hns
  rw [hn1, hn2] at hbig
  obtain ⟨hb1, hb2⟩ := hbig
  have HNL : Hid (la = none → n1 = 0 ∧ lc = 0) := hnl
  have HNS : Hid (sa = none → n2 = 0 ∧ sc = 0) := hns
  unfold lsaV
  dsimp only
  rw [hn1, hn2]
  clear hnl hns hx hn1 hn2
  have hw1 : IntKind.i64.wrap ((n1 : Int) + 2) = ((n1 + 2 : Nat) : Int) := by rw [IntWalk.i64_in _ (by omega)]; omega
  have hw2 : IntKind.i64.wrap ((n2 : Int) + 2) = ((n2 + 2 : Nat) : Int) := by rw [IntWalk.i64_in _ (by omega)]; omega
  go_enter Try.func8, Try.ntmps8
  go_wp2_with fail
  obtain ⟨w0, hw0⟩ : ∃ w0, (w.alloc (Obj.cells #[.int .i64 kind, .int .i64 area, .int .i64 origin, .int .u32 pa, .int .i64 pn, .int .i64 seq, .int .i64 age, .slice la n1 lc, .slice sa n2 sc, .int .i64 cost, .int .i64 tag] 28)).alloc (Obj.cells #[.int .i64 0, .int .i64 0, .int .i64 0, .int .u32 0, .int .i64 0, .int .i64 0, .int .i64 0, .slice none 0 0, .slice none 0 0, .int .i64 0, .int .i64 0] 28) = w0 := ⟨_, rfl⟩
  obtain ⟨g1, g2, hs0, hb0⟩ := ha2 _ _ w0 hw0.symm
  have HC0 : Hid (CB w w.heap.size kind area origin pa pn seq age (.slice la n1 lc) (.slice sa n2 sc) cost tag w0) := ⟨by constructor <;> simp [World.cell?, g1], fun i => by simp [World.frozen?, g1], by constructor <;> simp [World.cell?, g2], fun i => by simp [World.frozen?, g2], hb0, by omega⟩
  rw [hw0]
  obtain ⟨s, hs⟩ : ∃ s, w.heap.size = s := ⟨_, rfl⟩
  have hws : w.heap.size ≤ s := by omega
  rw [hs] at HC0
  clear hw0 g1 g2 hs0 hb0
  rw [hs]
  clear hs
  have c7 := HC0.out.bx.c7
  have hgo1 : ∀ (v : Value), True := fun _ => trivial
  go_cut [1, 2] from 3 to 21 (fun p q wx => p = .pointer (some ⟨s, 0, none⟩) ∧ q = .pointer (some ⟨s + 1, 0, none⟩) ∧ ∃ la' lc', CB w s kind area origin pa pn seq age (.slice la' n1 lc') (.slice sa n2 sc) cost tag wx ∧ L3 .i64 wx la' links ∧ ∀ b o, la' = some ⟨b, o, none⟩ → s + 2 ≤ b)
  case first =>
    obtain ⟨i0, hi, hz0, hz1, hz2⟩ := info_parts infoLk
    refine wp_region_held_drew (S := fun _ => True) (by kernel_rfl) trivial (fun hHeld => ?_)
    refine wpAnyH_take (i := 0) (v := ?_) rfl (by kernel_rfl) (by kernel_rfl) (by kernel_rfl) (fun _ _ _ h => h) (Or.inl ⟨by rfl, ?_⟩) (by assumption) ?_
    case refine_2 => intro W hSw; go_simp; try rfl
    try simp only [Act.put, List.setIfInBounds_toArray]
    refine wpAnyH_take (i := 5) (v := ?_) rfl (by kernel_rfl) (by kernel_rfl) (by kernel_rfl) (fun _ _ _ h => h) (Or.inl ⟨by rfl, ?_⟩) (by assumption) ?_
    case refine_2 => intro W hSw; go_simp; try rfl
    try simp only [Act.put]
    refine wpAnyH_ready (rs := [1, 6]) (by kernel_rfl) (by simp) ?_
    refine AllReadyH.cons rfl (fun K hK => ?_) (AllReadyH.cons rfl (fun K hK => ?_) AllReadyH.nil)
    · go_simp
      refine hK.out _ _ trivial (fun hHeld => ?_)
      clear hK K
      try simp only [Act.put, List.setIfInBounds_toArray, List.set_cons_zero, List.set_cons_succ]
      refine wpAnyH_take (i := 2) (v := ?_) rfl (by kernel_rfl) (by kernel_rfl) (by kernel_rfl) (fun _ _ _ h => h) (Or.inl ⟨by rfl, ?_⟩) (by assumption) ?_
      case refine_2 => intro W hSw; go_simp; try rfl
      try simp only [Act.put, List.setIfInBounds_toArray]
      refine wpAnyH_take (i := 3) (v := ?_) rfl (by kernel_rfl) (by kernel_rfl) (by kernel_rfl) (fun _ _ _ h => h) (Or.inl ⟨by rfl, ?_⟩) (by assumption) ?_
      case refine_2 => intro W hSw; go_simp; try rfl
      try simp only [Act.put]
      refine wpAnyH_ready (rs := [4, 6]) (by kernel_rfl) (by simp) ?_
      refine AllReadyH.cons rfl (fun K hK => ?_) (AllReadyH.cons rfl (fun K hK => ?_) AllReadyH.nil)
      · refine step_make rfl _ _ 25 rfl w0.drew (s + 2) 54 i0 _ 3 Try.underlying25 hi hz0 hz1 _ (n1 + 2) rfl rfl rfl (by rw [hz2]; omega) (by unfold maxLen; omega) HC0.out.sz ?_
        intro wM hown hg
        have HM := HC0.out.drew.grown hws hg (fun g e => by cases e)
        have hnM : s + 2 ≤ wM.heap.size := HM.sz
        have cM := HM.bx.c7
        refine hK.out _ _ trivial (fun hHeld => ?_)
        clear hK K
        try simp only [Act.put]
        refine wpAnyH_ready (rs := [6]) (by kernel_rfl) (by simp) ?_
        refine AllReadyH.cons rfl (fun K hK => ?_) AllReadyH.nil
        go_simp
        refine hK.out _ _ trivial (fun hHeld => ?_)
        clear hK K
        try simp only [Act.put, List.setIfInBounds_toArray, List.set_cons_zero, List.set_cons_succ]
        refine wpAnyH_ready (rs := [7]) (by kernel_rfl) (by simp) ?_
        refine AllReadyH.cons rfl (fun K hK => ?_) AllReadyH.nil
        refine step_app3 rfl _ _ 25 54 rfl .i64 i0 _ Try.underlying25 hi hz0 hz1 (by rw [hz2]; omega) rfl (s + 2) (.slice (some ⟨w0.drew.heap.size, 0, none⟩) 0 (n1 + 2)) links n1 HN1.out hb1 wM rfl hown la lc rfl (HX.out.bel HM.bel) HNL.out hnM ?_
        intro v' w' ho' hg'
        have HA := HM.grown hws hg'.out (fun g e => by simp [Value.ownBlock] at e; subst e; exact HC0.out.sz)
        obtain ⟨va', vc', hv'⟩ : ∃ va' vc', v' = .slice va' n1 vc' := by
          rcases ownsRow_forms ho'.out with ⟨rfl, h0⟩ | ⟨g, cap, rfl⟩
          · exact ⟨none, 0, by rw [h0]⟩
          · exact ⟨_, _, rfl⟩
        subst hv'
        have H3 : Hid (L3 .i64 w' va' links) := L3.own ho'.out HN1.out
        have HGE : Hid (∀ b o, va' = some ⟨b, o, none⟩ → s + 2 ≤ b) := fun b o e => by
          rcases ho'.out.2 with ⟨h1, -⟩ | ⟨g, c, cur, h1, h2, -⟩
          · cases h1; cases e
          · cases h1; cases e; exact h2
        have cA := HA.bx.c7
        have fA := HA.fx 7
        refine hK.out _ _ trivial (fun hHeld => ?_)
        clear hK K
        try simp only [Act.put, List.setIfInBounds_toArray]
        refine wpAnyH_take (i := 8) (v := ?_) rfl (by kernel_rfl) (by kernel_rfl) (by kernel_rfl) (fun _ _ _ h => h) (Or.inl ⟨by rfl, ?_⟩) (by assumption) ?_
        case refine_2 => intro W hSw; go_simp; try rfl
        try simp only [Act.put]
        refine wpAnyH_ready (rs := [9]) (by kernel_rfl) (by simp) ?_
        refine AllReadyH.cons rfl (fun K hK => ?_) AllReadyH.nil
        go_simp
        refine hK.out _ _ trivial (fun hHeld => ?_)
        clear hK K
        try simp only [Act.put, List.setIfInBounds_toArray, List.set_cons_zero, List.set_cons_succ]
        refine wpAnyH_done (by kernel_rfl) ?_ _
        go_wp2_with fail
        go_meet
        exact ⟨rfl, rfl, va', vc', HA.links hws _, H3.out.block (by simp) (fun b o e _ => Below.heap_setCell w' ⟨s, 7, none⟩ _ b (by have := HGE.out b o e; show b ≠ s; omega)), HGE.out⟩
      · go_simp
        refine hK.out _ _ trivial (fun hHeld => ?_)
        clear hK K
        try simp only [Act.put, List.setIfInBounds_toArray, List.set_cons_zero, List.set_cons_succ]
        refine wpAnyH_ready (rs := [4]) (by kernel_rfl) (by simp) ?_
        refine AllReadyH.cons rfl (fun K hK => ?_) AllReadyH.nil
        refine step_make rfl _ _ 25 rfl w0.drew (s + 2) 54 i0 _ 3 Try.underlying25 hi hz0 hz1 _ (n1 + 2) rfl rfl rfl (by rw [hz2]; omega) (by unfold maxLen; omega) HC0.out.sz ?_
        intro wM hown hg
        have HM := HC0.out.drew.grown hws hg (fun g e => by cases e)
        have hnM : s + 2 ≤ wM.heap.size := HM.sz
        have cM := HM.bx.c7
        refine hK.out _ _ trivial (fun hHeld => ?_)
        clear hK K
        try simp only [Act.put, List.setIfInBounds_toArray]
        refine wpAnyH_ready (rs := [7]) (by kernel_rfl) (by simp) ?_
        refine AllReadyH.cons rfl (fun K hK => ?_) AllReadyH.nil
        refine step_app3 rfl _ _ 25 54 rfl .i64 i0 _ Try.underlying25 hi hz0 hz1 (by rw [hz2]; omega) rfl (s + 2) (.slice (some ⟨w0.drew.heap.size, 0, none⟩) 0 (n1 + 2)) links n1 HN1.out hb1 wM rfl hown la lc rfl (HX.out.bel HM.bel) HNL.out hnM ?_
        intro v' w' ho' hg'
        have HA := HM.grown hws hg'.out (fun g e => by simp [Value.ownBlock] at e; subst e; exact HC0.out.sz)
        obtain ⟨va', vc', hv'⟩ : ∃ va' vc', v' = .slice va' n1 vc' := by
          rcases ownsRow_forms ho'.out with ⟨rfl, h0⟩ | ⟨g, cap, rfl⟩
          · exact ⟨none, 0, by rw [h0]⟩
          · exact ⟨_, _, rfl⟩
        subst hv'
        have H3 : Hid (L3 .i64 w' va' links) := L3.own ho'.out HN1.out
        have HGE : Hid (∀ b o, va' = some ⟨b, o, none⟩ → s + 2 ≤ b) := fun b o e => by
          rcases ho'.out.2 with ⟨h1, -⟩ | ⟨g, c, cur, h1, h2, -⟩
          · cases h1; cases e
          · cases h1; cases e; exact h2
        have cA := HA.bx.c7
        have fA := HA.fx 7
        refine hK.out _ _ trivial (fun hHeld => ?_)
        clear hK K
        try simp only [Act.put]
        refine wpAnyH_take (i := 8) (v := ?_) rfl (by kernel_rfl) (by kernel_rfl) (by kernel_rfl) (fun _ _ _ h => h) (Or.inl ⟨by rfl, ?_⟩) (by assumption) ?_
        case refine_2 => intro W hSw; go_simp; try rfl
        try simp only [Act.put]
        refine wpAnyH_ready (rs := [9]) (by kernel_rfl) (by simp) ?_
        refine AllReadyH.cons rfl (fun K hK => ?_) AllReadyH.nil
        go_simp
        refine hK.out _ _ trivial (fun hHeld => ?_)
        clear hK K
        try simp only [Act.put, List.setIfInBounds_toArray, List.set_cons_zero, List.set_cons_succ]
        refine wpAnyH_done (by kernel_rfl) ?_ _
        go_wp2_with fail
        go_meet
        exact ⟨rfl, rfl, va', vc', HA.links hws _, H3.out.block (by simp) (fun b o e _ => Below.heap_setCell w' ⟨s, 7, none⟩ _ b (by have := HGE.out b o e; show b ≠ s; omega)), HGE.out⟩
    · go_simp
      refine hK.out _ _ trivial (fun hHeld => ?_)
      clear hK K
      try simp only [Act.put, List.setIfInBounds_toArray, List.set_cons_zero, List.set_cons_succ]
      refine wpAnyH_ready (rs := [1]) (by kernel_rfl) (by simp) ?_
      refine AllReadyH.cons rfl (fun K hK => ?_) AllReadyH.nil
      go_simp
      refine hK.out _ _ trivial (fun hHeld => ?_)
      clear hK K
      try simp only [Act.put, List.setIfInBounds_toArray, List.set_cons_zero, List.set_cons_succ]
      refine wpAnyH_take (i := 2) (v := ?_) rfl (by kernel_rfl) (by kernel_rfl) (by kernel_rfl) (fun _ _ _ h => h) (Or.inl ⟨by rfl, ?_⟩) (by assumption) ?_
      case refine_2 => intro W hSw; go_simp; try rfl
      try simp only [Act.put, List.setIfInBounds_toArray]
      refine wpAnyH_take (i := 3) (v := ?_) rfl (by kernel_rfl) (by kernel_rfl) (by kernel_rfl) (fun _ _ _ h => h) (Or.inl ⟨by rfl, ?_⟩) (by assumption) ?_
      case refine_2 => intro W hSw; go_simp; try rfl
      try simp only [Act.put]
      refine wpAnyH_ready (rs := [4]) (by kernel_rfl) (by simp) ?_
      refine AllReadyH.cons rfl (fun K hK => ?_) AllReadyH.nil
      refine step_make rfl _ _ 25 rfl w0.drew (s + 2) 54 i0 _ 3 Try.underlying25 hi hz0 hz1 _ (n1 + 2) rfl rfl rfl (by rw [hz2]; omega) (by unfold maxLen; omega) HC0.out.sz ?_
      intro wM hown hg
      have HM := HC0.out.drew.grown hws hg (fun g e => by cases e)
      have hnM : s + 2 ≤ wM.heap.size := HM.sz
      have cM := HM.bx.c7
      refine hK.out _ _ trivial (fun hHeld => ?_)
      clear hK K
      try simp only [Act.put]
      refine wpAnyH_ready (rs := [7]) (by kernel_rfl) (by simp) ?_
      refine AllReadyH.cons rfl (fun K hK => ?_) AllReadyH.nil
      refine step_app3 rfl _ _ 25 54 rfl .i64 i0 _ Try.underlying25 hi hz0 hz1 (by rw [hz2]; omega) rfl (s + 2) (.slice (some ⟨w0.drew.heap.size, 0, none⟩) 0 (n1 + 2)) links n1 HN1.out hb1 wM rfl hown la lc rfl (HX.out.bel HM.bel) HNL.out hnM ?_
      intro v' w' ho' hg'
      have HA := HM.grown hws hg'.out (fun g e => by simp [Value.ownBlock] at e; subst e; exact HC0.out.sz)
      obtain ⟨va', vc', hv'⟩ : ∃ va' vc', v' = .slice va' n1 vc' := by
        rcases ownsRow_forms ho'.out with ⟨rfl, h0⟩ | ⟨g, cap, rfl⟩
        · exact ⟨none, 0, by rw [h0]⟩
        · exact ⟨_, _, rfl⟩
      subst hv'
      have H3 : Hid (L3 .i64 w' va' links) := L3.own ho'.out HN1.out
      have HGE : Hid (∀ b o, va' = some ⟨b, o, none⟩ → s + 2 ≤ b) := fun b o e => by
        rcases ho'.out.2 with ⟨h1, -⟩ | ⟨g, c, cur, h1, h2, -⟩
        · cases h1; cases e
        · cases h1; cases e; exact h2
      have cA := HA.bx.c7
      have fA := HA.fx 7
      refine hK.out _ _ trivial (fun hHeld => ?_)
      clear hK K
      try simp only [Act.put]
      refine wpAnyH_take (i := 8) (v := ?_) rfl (by kernel_rfl) (by kernel_rfl) (by kernel_rfl) (fun _ _ _ h => h) (Or.inl ⟨by rfl, ?_⟩) (by assumption) ?_
      case refine_2 => intro W hSw; go_simp; try rfl
      try simp only [Act.put]
      refine wpAnyH_ready (rs := [9]) (by kernel_rfl) (by simp) ?_
      refine AllReadyH.cons rfl (fun K hK => ?_) AllReadyH.nil
      go_simp
      refine hK.out _ _ trivial (fun hHeld => ?_)
      clear hK K
      try simp only [Act.put, List.setIfInBounds_toArray, List.set_cons_zero, List.set_cons_succ]
      refine wpAnyH_done (by kernel_rfl) ?_ _
      go_wp2_with fail
      go_meet
      exact ⟨rfl, rfl, va', vc', HA.links hws _, H3.out.block (by simp) (fun b o e _ => Below.heap_setCell w' ⟨s, 7, none⟩ _ b (by have := HGE.out b o e; show b ≠ s; omega)), HGE.out⟩
  case rest =>
    obtain ⟨rfl, rfl, la', lc', hc1, hlk, hgl⟩ := hcut
    have HC1 : Hid (CB w s kind area origin pa pn seq age (.slice la' n1 lc') (.slice sa n2 sc) cost tag wc) := hc1
    have HLK : Hid (L3 .i64 wc la' links) := hlk
    have HGL : Hid (∀ b o, la' = some ⟨b, o, none⟩ → s + 2 ≤ b) := hgl
    have c8 := hc1.bx.c8
    clear hc1 hlk hgl c7 HC0 HX HNL
    go_wp2_with fail
    go_cut [1, 2] from 3 to 21 (fun p q wx => p = .pointer (some ⟨s, 0, none⟩) ∧ q = .pointer (some ⟨s + 1, 0, none⟩) ∧ ∃ sa' sc', CB w s kind area origin pa pn seq age (.slice la' n1 lc') (.slice sa' n2 sc') cost tag wx ∧ L3 .i64 wx la' links ∧ L3 .u32 wx sa' stubs ∧ ∀ b o, sa' = some ⟨b, o, none⟩ → s + 2 ≤ b)
    case first =>
      obtain ⟨i0, hi, hz0, hz1, hz2⟩ := info_parts infoSt
      refine wp_region_held_drew (S := fun _ => True) (by kernel_rfl) trivial (fun hHeld => ?_)
      refine wpAnyH_take (i := 0) (v := ?_) rfl (by kernel_rfl) (by kernel_rfl) (by kernel_rfl) (fun _ _ _ h => h) (Or.inl ⟨by rfl, ?_⟩) (by assumption) ?_
      case refine_2 => intro W hSw; go_simp; try rfl
      try simp only [Act.put, List.setIfInBounds_toArray]
      refine wpAnyH_take (i := 5) (v := ?_) rfl (by kernel_rfl) (by kernel_rfl) (by kernel_rfl) (fun _ _ _ h => h) (Or.inl ⟨by rfl, ?_⟩) (by assumption) ?_
      case refine_2 => intro W hSw; go_simp; try rfl
      try simp only [Act.put]
      refine wpAnyH_ready (rs := [1, 6]) (by kernel_rfl) (by simp) ?_
      refine AllReadyH.cons rfl (fun K hK => ?_) (AllReadyH.cons rfl (fun K hK => ?_) AllReadyH.nil)
      · go_simp
        refine hK.out _ _ trivial (fun hHeld => ?_)
        clear hK K
        try simp only [Act.put, List.setIfInBounds_toArray, List.set_cons_zero, List.set_cons_succ]
        refine wpAnyH_take (i := 2) (v := ?_) rfl (by kernel_rfl) (by kernel_rfl) (by kernel_rfl) (fun _ _ _ h => h) (Or.inl ⟨by rfl, ?_⟩) (by assumption) ?_
        case refine_2 => intro W hSw; go_simp; try rfl
        try simp only [Act.put, List.setIfInBounds_toArray]
        refine wpAnyH_take (i := 3) (v := ?_) rfl (by kernel_rfl) (by kernel_rfl) (by kernel_rfl) (fun _ _ _ h => h) (Or.inl ⟨by rfl, ?_⟩) (by assumption) ?_
        case refine_2 => intro W hSw; go_simp; try rfl
        try simp only [Act.put]
        refine wpAnyH_ready (rs := [4, 6]) (by kernel_rfl) (by simp) ?_
        refine AllReadyH.cons rfl (fun K hK => ?_) (AllReadyH.cons rfl (fun K hK => ?_) AllReadyH.nil)
        · refine step_make rfl _ _ 26 rfl wc.drew (s + 2) 56 i0 _ 3 Try.underlying26 hi hz0 hz1 _ (n2 + 2) rfl rfl rfl (by rw [hz2]; omega) (by unfold maxLen; omega) HC1.out.sz ?_
          intro wM hown hg
          have HM := HC1.out.drew.grown hws hg (fun g e => by cases e)
          have hnM : s + 2 ≤ wM.heap.size := HM.sz
          have cM := HM.bx.c8
          refine hK.out _ _ trivial (fun hHeld => ?_)
          clear hK K
          try simp only [Act.put]
          refine wpAnyH_ready (rs := [6]) (by kernel_rfl) (by simp) ?_
          refine AllReadyH.cons rfl (fun K hK => ?_) AllReadyH.nil
          go_simp
          refine hK.out _ _ trivial (fun hHeld => ?_)
          clear hK K
          try simp only [Act.put, List.setIfInBounds_toArray, List.set_cons_zero, List.set_cons_succ]
          refine wpAnyH_ready (rs := [7]) (by kernel_rfl) (by simp) ?_
          refine AllReadyH.cons rfl (fun K hK => ?_) AllReadyH.nil
          refine step_app3 rfl _ _ 26 56 rfl .u32 i0 _ Try.underlying26 hi hz0 hz1 (by rw [hz2]; omega) rfl (s + 2) (.slice (some ⟨wc.drew.heap.size, 0, none⟩) 0 (n2 + 2)) stubs n2 HN2.out hb2 wM rfl hown sa sc rfl (HY.out.bel HM.bel) HNS.out hnM ?_
          intro v' w' ho' hg'
          have HA := HM.grown hws hg'.out (fun g e => by simp [Value.ownBlock] at e; subst e; exact HC1.out.sz)
          obtain ⟨va', vc', hv'⟩ : ∃ va' vc', v' = .slice va' n2 vc' := by
            rcases ownsRow_forms ho'.out with ⟨rfl, h0⟩ | ⟨g, cap, rfl⟩
            · exact ⟨none, 0, by rw [h0]⟩
            · exact ⟨_, _, rfl⟩
          subst hv'
          have H3 : Hid (L3 .u32 w' va' stubs) := L3.own ho'.out HN2.out
          have HGE : Hid (∀ b o, va' = some ⟨b, o, none⟩ → s + 2 ≤ b) := fun b o e => by
            rcases ho'.out.2 with ⟨h1, -⟩ | ⟨g, c, cur, h1, h2, -⟩
            · cases h1; cases e
            · cases h1; cases e; exact h2
          have cA := HA.bx.c8
          have fA := HA.fx 8
          refine hK.out _ _ trivial (fun hHeld => ?_)
          clear hK K
          try simp only [Act.put, List.setIfInBounds_toArray]
          refine wpAnyH_take (i := 8) (v := ?_) rfl (by kernel_rfl) (by kernel_rfl) (by kernel_rfl) (fun _ _ _ h => h) (Or.inl ⟨by rfl, ?_⟩) (by assumption) ?_
          case refine_2 => intro W hSw; go_simp; try rfl
          try simp only [Act.put]
          refine wpAnyH_ready (rs := [9]) (by kernel_rfl) (by simp) ?_
          refine AllReadyH.cons rfl (fun K hK => ?_) AllReadyH.nil
          go_simp
          refine hK.out _ _ trivial (fun hHeld => ?_)
          clear hK K
          try simp only [Act.put, List.setIfInBounds_toArray, List.set_cons_zero, List.set_cons_succ]
          refine wpAnyH_done (by kernel_rfl) ?_ _
          go_wp2_with fail
          go_meet
          have hkeep : ∀ b, b < wc.heap.size → w'.heap[b]? = wc.heap[b]? := fun b hlt => (hg'.out.block b (Nat.lt_of_lt_of_le hlt hg.size) (fun e2 => by
            have e3 : some b = some wc.heap.size := e2
            injection e3 with e4
            omega)).trans (hg.block b hlt (fun e2 => by cases e2))
          exact ⟨rfl, rfl, va', vc', HA.stubs hws _, (HLK.out.block (Nat.le_trans hg.size hg'.out.size) (fun b o e hlt => hkeep b hlt)).block (by simp) (fun b o e _ => Below.heap_setCell w' ⟨s, 8, none⟩ _ b (by have := HGL.out b o e; show b ≠ s; omega)), H3.out.block (by simp) (fun b o e _ => Below.heap_setCell w' ⟨s, 8, none⟩ _ b (by have := HGE.out b o e; show b ≠ s; omega)), HGE.out⟩
        · go_simp
          refine hK.out _ _ trivial (fun hHeld => ?_)
          clear hK K
          try simp only [Act.put, List.setIfInBounds_toArray, List.set_cons_zero, List.set_cons_succ]
          refine wpAnyH_ready (rs := [4]) (by kernel_rfl) (by simp) ?_
          refine AllReadyH.cons rfl (fun K hK => ?_) AllReadyH.nil
          refine step_make rfl _ _ 26 rfl wc.drew (s + 2) 56 i0 _ 3 Try.underlying26 hi hz0 hz1 _ (n2 + 2) rfl rfl rfl (by rw [hz2]; omega) (by unfold maxLen; omega) HC1.out.sz ?_
          intro wM hown hg
          have HM := HC1.out.drew.grown hws hg (fun g e => by cases e)
          have hnM : s + 2 ≤ wM.heap.size := HM.sz
          have cM := HM.bx.c8
          refine hK.out _ _ trivial (fun hHeld => ?_)
          clear hK K
          try simp only [Act.put, List.setIfInBounds_toArray]
          refine wpAnyH_ready (rs := [7]) (by kernel_rfl) (by simp) ?_
          refine AllReadyH.cons rfl (fun K hK => ?_) AllReadyH.nil
          refine step_app3 rfl _ _ 26 56 rfl .u32 i0 _ Try.underlying26 hi hz0 hz1 (by rw [hz2]; omega) rfl (s + 2) (.slice (some ⟨wc.drew.heap.size, 0, none⟩) 0 (n2 + 2)) stubs n2 HN2.out hb2 wM rfl hown sa sc rfl (HY.out.bel HM.bel) HNS.out hnM ?_
          intro v' w' ho' hg'
          have HA := HM.grown hws hg'.out (fun g e => by simp [Value.ownBlock] at e; subst e; exact HC1.out.sz)
          obtain ⟨va', vc', hv'⟩ : ∃ va' vc', v' = .slice va' n2 vc' := by
            rcases ownsRow_forms ho'.out with ⟨rfl, h0⟩ | ⟨g, cap, rfl⟩
            · exact ⟨none, 0, by rw [h0]⟩
            · exact ⟨_, _, rfl⟩
          subst hv'
          have H3 : Hid (L3 .u32 w' va' stubs) := L3.own ho'.out HN2.out
          have HGE : Hid (∀ b o, va' = some ⟨b, o, none⟩ → s + 2 ≤ b) := fun b o e => by
            rcases ho'.out.2 with ⟨h1, -⟩ | ⟨g, c, cur, h1, h2, -⟩
            · cases h1; cases e
            · cases h1; cases e; exact h2
          have cA := HA.bx.c8
          have fA := HA.fx 8
          refine hK.out _ _ trivial (fun hHeld => ?_)
          clear hK K
          try simp only [Act.put]
          refine wpAnyH_take (i := 8) (v := ?_) rfl (by kernel_rfl) (by kernel_rfl) (by kernel_rfl) (fun _ _ _ h => h) (Or.inl ⟨by rfl, ?_⟩) (by assumption) ?_
          case refine_2 => intro W hSw; go_simp; try rfl
          try simp only [Act.put]
          refine wpAnyH_ready (rs := [9]) (by kernel_rfl) (by simp) ?_
          refine AllReadyH.cons rfl (fun K hK => ?_) AllReadyH.nil
          go_simp
          refine hK.out _ _ trivial (fun hHeld => ?_)
          clear hK K
          try simp only [Act.put, List.setIfInBounds_toArray, List.set_cons_zero, List.set_cons_succ]
          refine wpAnyH_done (by kernel_rfl) ?_ _
          go_wp2_with fail
          go_meet
          have hkeep : ∀ b, b < wc.heap.size → w'.heap[b]? = wc.heap[b]? := fun b hlt => (hg'.out.block b (Nat.lt_of_lt_of_le hlt hg.size) (fun e2 => by
            have e3 : some b = some wc.heap.size := e2
            injection e3 with e4
            omega)).trans (hg.block b hlt (fun e2 => by cases e2))
          exact ⟨rfl, rfl, va', vc', HA.stubs hws _, (HLK.out.block (Nat.le_trans hg.size hg'.out.size) (fun b o e hlt => hkeep b hlt)).block (by simp) (fun b o e _ => Below.heap_setCell w' ⟨s, 8, none⟩ _ b (by have := HGL.out b o e; show b ≠ s; omega)), H3.out.block (by simp) (fun b o e _ => Below.heap_setCell w' ⟨s, 8, none⟩ _ b (by have := HGE.out b o e; show b ≠ s; omega)), HGE.out⟩
      · go_simp
        refine hK.out _ _ trivial (fun hHeld => ?_)
        clear hK K
        try simp only [Act.put, List.setIfInBounds_toArray, List.set_cons_zero, List.set_cons_succ]
        refine wpAnyH_ready (rs := [1]) (by kernel_rfl) (by simp) ?_
        refine AllReadyH.cons rfl (fun K hK => ?_) AllReadyH.nil
        go_simp
        refine hK.out _ _ trivial (fun hHeld => ?_)
        clear hK K
        try simp only [Act.put, List.setIfInBounds_toArray, List.set_cons_zero, List.set_cons_succ]
        refine wpAnyH_take (i := 2) (v := ?_) rfl (by kernel_rfl) (by kernel_rfl) (by kernel_rfl) (fun _ _ _ h => h) (Or.inl ⟨by rfl, ?_⟩) (by assumption) ?_
        case refine_2 => intro W hSw; go_simp; try rfl
        try simp only [Act.put, List.setIfInBounds_toArray]
        refine wpAnyH_take (i := 3) (v := ?_) rfl (by kernel_rfl) (by kernel_rfl) (by kernel_rfl) (fun _ _ _ h => h) (Or.inl ⟨by rfl, ?_⟩) (by assumption) ?_
        case refine_2 => intro W hSw; go_simp; try rfl
        try simp only [Act.put]
        refine wpAnyH_ready (rs := [4]) (by kernel_rfl) (by simp) ?_
        refine AllReadyH.cons rfl (fun K hK => ?_) AllReadyH.nil
        refine step_make rfl _ _ 26 rfl wc.drew (s + 2) 56 i0 _ 3 Try.underlying26 hi hz0 hz1 _ (n2 + 2) rfl rfl rfl (by rw [hz2]; omega) (by unfold maxLen; omega) HC1.out.sz ?_
        intro wM hown hg
        have HM := HC1.out.drew.grown hws hg (fun g e => by cases e)
        have hnM : s + 2 ≤ wM.heap.size := HM.sz
        have cM := HM.bx.c8
        refine hK.out _ _ trivial (fun hHeld => ?_)
        clear hK K
        try simp only [Act.put]
        refine wpAnyH_ready (rs := [7]) (by kernel_rfl) (by simp) ?_
        refine AllReadyH.cons rfl (fun K hK => ?_) AllReadyH.nil
        refine step_app3 rfl _ _ 26 56 rfl .u32 i0 _ Try.underlying26 hi hz0 hz1 (by rw [hz2]; omega) rfl (s + 2) (.slice (some ⟨wc.drew.heap.size, 0, none⟩) 0 (n2 + 2)) stubs n2 HN2.out hb2 wM rfl hown sa sc rfl (HY.out.bel HM.bel) HNS.out hnM ?_
        intro v' w' ho' hg'
        have HA := HM.grown hws hg'.out (fun g e => by simp [Value.ownBlock] at e; subst e; exact HC1.out.sz)
        obtain ⟨va', vc', hv'⟩ : ∃ va' vc', v' = .slice va' n2 vc' := by
          rcases ownsRow_forms ho'.out with ⟨rfl, h0⟩ | ⟨g, cap, rfl⟩
          · exact ⟨none, 0, by rw [h0]⟩
          · exact ⟨_, _, rfl⟩
        subst hv'
        have H3 : Hid (L3 .u32 w' va' stubs) := L3.own ho'.out HN2.out
        have HGE : Hid (∀ b o, va' = some ⟨b, o, none⟩ → s + 2 ≤ b) := fun b o e => by
          rcases ho'.out.2 with ⟨h1, -⟩ | ⟨g, c, cur, h1, h2, -⟩
          · cases h1; cases e
          · cases h1; cases e; exact h2
        have cA := HA.bx.c8
        have fA := HA.fx 8
        refine hK.out _ _ trivial (fun hHeld => ?_)
        clear hK K
        try simp only [Act.put]
        refine wpAnyH_take (i := 8) (v := ?_) rfl (by kernel_rfl) (by kernel_rfl) (by kernel_rfl) (fun _ _ _ h => h) (Or.inl ⟨by rfl, ?_⟩) (by assumption) ?_
        case refine_2 => intro W hSw; go_simp; try rfl
        try simp only [Act.put]
        refine wpAnyH_ready (rs := [9]) (by kernel_rfl) (by simp) ?_
        refine AllReadyH.cons rfl (fun K hK => ?_) AllReadyH.nil
        go_simp
        refine hK.out _ _ trivial (fun hHeld => ?_)
        clear hK K
        try simp only [Act.put, List.setIfInBounds_toArray, List.set_cons_zero, List.set_cons_succ]
        refine wpAnyH_done (by kernel_rfl) ?_ _
        go_wp2_with fail
        go_meet
        have hkeep : ∀ b, b < wc.heap.size → w'.heap[b]? = wc.heap[b]? := fun b hlt => (hg'.out.block b (Nat.lt_of_lt_of_le hlt hg.size) (fun e2 => by
          have e3 : some b = some wc.heap.size := e2
          injection e3 with e4
          omega)).trans (hg.block b hlt (fun e2 => by cases e2))
        exact ⟨rfl, rfl, va', vc', HA.stubs hws _, (HLK.out.block (Nat.le_trans hg.size hg'.out.size) (fun b o e hlt => hkeep b hlt)).block (by simp) (fun b o e _ => Below.heap_setCell w' ⟨s, 8, none⟩ _ b (by have := HGL.out b o e; show b ≠ s; omega)), H3.out.block (by simp) (fun b o e _ => Below.heap_setCell w' ⟨s, 8, none⟩ _ b (by have := HGE.out b o e; show b ≠ s; omega)), HGE.out⟩
    case rest =>
      obtain ⟨rfl, rfl, sa', sc', hc2, hl2, hs2, hgs⟩ := hcut
      have HGS : Hid (∀ b o, sa' = some ⟨b, o, none⟩ → s + 2 ≤ b) := hgs
      have HL2 : Hid (L3 .i64 wc la' links) := hl2
      have HS2 : Hid (L3 .u32 wc sa' stubs) := hs2
      have HC2 : Hid (CB w s kind area origin pa pn seq age (.slice la' n1 lc') (.slice sa' n2 sc') cost tag wc) := hc2
      obtain ⟨⟨c0, c1, c2, c3, c4, c5, c6, c7, c8', c9, c10⟩, fx, ⟨r0, r1, r2, r3, r4, r5, r6, r7, r8, r9, r10⟩, fr, -, -⟩ := hc2
      clear hl2 hs2 HC1 HLK HY HNS c8 hgs
      go_wp2_with fail
      refine bodyPost_ret (v := .agg #[.int .i64 kind, .int .i64 area, .int .i64 origin, .int .u32 pa, .int .i64 pn, .int .i64 seq, .int .i64 age, .slice la' n1 lc', .slice sa' n2 sc', .int .i64 cost, .int .i64 tag]) (by simp [results, Try.results8, go_sem, r0, r1, r2, r3, r4, r5, r6, r7, r8, r9, r10]) rfl ⟨la', lc', sa', sc', rfl, ⟨?_, ?_, HP.out.1, HP.out.2⟩, ?_, fun b o e => by have := HGL.out b o e; omega, fun b o e => by have := HGS.out b o e; omega⟩
      · refine HL2.out.block (by simp) (fun b o e hlt => ?_)
        have hb := HGL.out b o e
        repeat rw [Below.heap_setCell _ _ _ _ (by show b ≠ s + 1; omega)]
      · refine HS2.out.block (by simp) (fun b o e hlt => ?_)
        have hb := HGS.out b o e
        repeat rw [Below.heap_setCell _ _ _ _ (by show b ≠ s + 1; omega)]
      · have hb := HC2.out.bel
        iterate 11 refine Below.setCell ?_ (by show _ ≤ s + 1; omega) _
        exact hb
end Go.Proofs.Ytagfdmkgnedlbae.Ls
