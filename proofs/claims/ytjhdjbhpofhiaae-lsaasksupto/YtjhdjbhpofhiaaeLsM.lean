/- LsaAsks: what it answers. -/
import Derived.Test.YtjhdjbhpofhiaaeLsJ
import Derived.Test.YtjhdjbhpofhiaaeLsK
import Derived.Test.YtjhdjbhpofhiaaeLsL
import Derived.Test.YtjhdjbhpofhiaaeLsH
import Derived.Test.YtjhdjbhpofhiaaeLsE
namespace Go.Proofs.Ytjhdjbhpofhiaae.Ls
open Go.ChangeShapes Go.WideShapes Go.ChangeAt Go.RowKit Go.Joins Go.Proofs.Ytjhdjbhpofhiaae.PM Go.Proofs.Ytjhdjbhpofhiaae.Ask
set_option linter.unusedVariables false

abbrev LBX (s : Nat) (x : Lsa) (lv sv : Value) (W : World) : Prop := LBox s x.kind x.area x.origin x.pa x.pn x.seq x.age lv sv x.cost x.tag W
/-- a box that was just made -/
structure ZF (w0 : World) (s : Nat) (W : World) : Prop where
  bx : LBox s 0 0 0 0 0 0 0 (.slice none 0 0) (.slice none 0 0) 0 0 W
  fz : ∀ i, W.frozen? ⟨s, i, none⟩ = false
  lt : s < W.heap.size
  ge : w0.heap.size ≤ s
theorem ZF.block {w0 W W' : World} {s : Nat} (h : ZF w0 s W) (hb : W'.heap[s]? = W.heap[s]?) (hs : W.heap.size ≤ W'.heap.size) : ZF w0 s W' :=
  ⟨h.bx.block hb, fun i => (World.frozen?_of_block (w := W) hb).trans (h.fz i), Nat.lt_of_lt_of_le h.lt hs, h.ge⟩
theorem ZF.bel {w0 W W' : World} {s : Nat} (h : ZF w0 s W) (hb : Below W.heap.size W W') : ZF w0 s W' := h.block (hb.block s h.lt) hb.size
theorem zf_new {w0 W V : World} {s : Nat} (hV : W.alloc (Obj.cells #[.int .i64 0, .int .i64 0, .int .i64 0, .int .u32 0, .int .i64 0, .int .i64 0, .int .i64 0, .slice none 0 0, .slice none 0 0, .int .i64 0, .int .i64 0] 28) = V) (hs : W.heap.size = s) (hg : w0.heap.size ≤ W.heap.size) : ZF w0 s V := by
  subst hV hs
  exact ⟨by constructor <;> simp, fun i => by simp, by simp, hg⟩
/-- a copy's lists lie apart from a box -/
def AP (l r : Option Addr) (x : Lsa) (s : Nat) : Prop := (∀ b o, l = some ⟨b, o, none⟩ → x.links ≠ [] → b ≠ s) ∧ (∀ b o, r = some ⟨b, o, none⟩ → x.stubs ≠ [] → b ≠ s)
theorem l3_lt {k : IntKind} {W : World} {a : Option Addr} {xs : List (Int × Int × Int)} (h : L3 k W a xs) {b o : Nat} (e : a = some ⟨b, o, none⟩) (hn : xs ≠ []) : b < W.heap.size := by
  obtain ⟨b', o', e', hlt, -⟩ := h.cells 0 (List.length_pos_iff.2 hn)
  rw [e] at e'; cases e'; exact hlt
theorem LsOk.ap {W : World} {x : Lsa} {l r : Option Addr} (h : LsOk W x l r) {s : Nat} (hs : W.heap.size ≤ s) : AP l r x s :=
  ⟨fun b o e hn => by have := l3_lt h.lk e hn; omega, fun b o e hn => by have := l3_lt h.st e hn; omega⟩
theorem ap_ge {l r : Option Addr} {x : Lsa} {n s : Nat} (h1 : ∀ b o, l = some ⟨b, o, none⟩ → n ≤ b) (h2 : ∀ b o, r = some ⟨b, o, none⟩ → n ≤ b) (hs : s < n) : AP l r x s :=
  ⟨fun b o e _ => by have := h1 b o e; omega, fun b o e _ => by have := h2 b o e; omega⟩
theorem l3_other {k : IntKind} {W W' : World} {a : Option Addr} {xs : List (Int × Int × Int)} (h : L3 k W a xs) (hs : W'.heap.size = W.heap.size) (hk : ∀ b o, a = some ⟨b, o, none⟩ → xs ≠ [] → W'.heap[b]? = W.heap[b]?) : L3 k W' a xs :=
  ⟨h.small, fun i hi => by
    obtain ⟨b, o, e, hlt, h0, h1, h2⟩ := h.cells i hi
    have hb := hk b o e (fun e2 => by subst e2; simp at hi)
    exact ⟨b, o, e, by omega, (World.cell?_of_block (w := W) hb).trans h0, (World.cell?_of_block (w := W) hb).trans h1, (World.cell?_of_block (w := W) hb).trans h2⟩⟩
theorem LsOk.other {W W' : World} {x : Lsa} {l r : Option Addr} {s : Nat} (h : LsOk W x l r) (ha : AP l r x s) (hk : ∀ b, b ≠ s → W'.heap[b]? = W.heap[b]?) (hs : W'.heap.size = W.heap.size) : LsOk W' x l r :=
  ⟨l3_other h.lk hs (fun b o e hn => hk b (ha.1 b o e hn)), l3_other h.st hs (fun b o e hn => hk b (ha.2 b o e hn)), h.p32, h.s32⟩
/-- an announcement is stored into a box -/
abbrev S11 (W : World) (s : Nat) (x : Lsa) (lv sv : Value) : World := ((((((((((W.setCell ⟨s, 0, none⟩ (.int .i64 x.kind)).setCell ⟨s, 1, none⟩ (.int .i64 x.area)).setCell ⟨s, 2, none⟩ (.int .i64 x.origin)).setCell ⟨s, 3, none⟩ (.int .u32 x.pa)).setCell ⟨s, 4, none⟩ (.int .i64 x.pn)).setCell ⟨s, 5, none⟩ (.int .i64 x.seq)).setCell ⟨s, 6, none⟩ (.int .i64 x.age)).setCell ⟨s, 7, none⟩ lv).setCell ⟨s, 8, none⟩ sv).setCell ⟨s, 9, none⟩ (.int .i64 x.cost)).setCell ⟨s, 10, none⟩ (.int .i64 x.tag)
set_option maxRecDepth 100000 in
theorem s11 {w0 W U : World} {s : Nat} {x : Lsa} {lv sv : Value} (h : ZF w0 s W) (hb : Below w0.heap.size w0 W) (hU : S11 W s x lv sv = U) : LBX s x lv sv U ∧ Below w0.heap.size w0 U ∧ U.heap.size = W.heap.size ∧ ∀ b, b ≠ s → U.heap[b]? = W.heap[b]? := by
  obtain ⟨⟨c0, c1, c2, c3, c4, c5, c6, c7, c8, c9, c10⟩, -, -, hge⟩ := h
  subst hU
  refine ⟨?_, ?_, by simp [S11], fun b hne => ?_⟩
  · constructor <;> simp [go_sem, c0, c1, c2, c3, c4, c5, c6, c7, c8, c9, c10]
  · iterate 11 refine Below.setCell ?_ hge _
    exact hb
  · unfold S11
    repeat rw [Below.heap_setCell _ _ _ _ (by show b ≠ s; exact hne)]
/-- which announcement a value is -/
def Two2 (X2 X Y2 Y a b : Value) : Prop := (a = X2 ∧ b = X) ∨ (a = Y2 ∧ b = Y)
set_option maxRecDepth 100000 in
set_option maxHeartbeats 16000000 in
theorem lasks_any (x y : Lsa) (la : Option Addr) (lc : Nat) (sa : Option Addr) (sc : Nat) (lb : Option Addr) (ld : Nat) (sb : Option Addr) (sd : Nat) (w : World) (hx : LsOk w x la sa) (hy : LsOk w y lb sb)
    (hnl : la = none → x.links.length = 0 ∧ lc = 0) (hns : sa = none → x.stubs.length = 0 ∧ sc = 0) (hnl2 : lb = none → y.links.length = 0 ∧ ld = 0) (hns2 : sb = none → y.stubs.length = 0 ∧ sd = 0) (hbig : x.links.length ≤ 1048576 ∧ x.stubs.length ≤ 1048576) (hbig2 : y.links.length ≤ 1048576 ∧ y.stubs.length ≤ 1048576) (h64 : ∀ d ∈ x.links, In64 d.2.1) :
    Calls Try.prog 3 #[lsaV x la lc sa sc, lsaV y lb ld sb sd] w fun e w' => e = .returned (.bool true) ∧ Below w.heap.size w w' := by
  have HCX : Hid (∀ W, Below w.heap.size w W → Calls Try.prog 8 #[lsaV x la lc sa sc] W fun e w' => ∃ la' lc' sa' sc', e = .returned (lsaV x la' lc' sa' sc') ∧ LsOk w' x la' sa' ∧ Below W.heap.size W w' ∧ (∀ b o, la' = some ⟨b, o, none⟩ → W.heap.size ≤ b) ∧ (∀ b o, sa' = some ⟨b, o, none⟩ → W.heap.size ≤ b)) := fun W hW => copy_any x la lc sa sc W (hx.bel hW) hnl hns hbig
  have HCY : Hid (∀ W, Below w.heap.size w W → Calls Try.prog 8 #[lsaV y lb ld sb sd] W fun e w' => ∃ la' lc' sa' sc', e = .returned (lsaV y la' lc' sa' sc') ∧ LsOk w' y la' sa' ∧ Below W.heap.size W w' ∧ (∀ b o, la' = some ⟨b, o, none⟩ → W.heap.size ≤ b) ∧ (∀ b o, sa' = some ⟨b, o, none⟩ → W.heap.size ≤ b)) := fun W hW => copy_any y lb ld sb sd W (hy.bel hW) hnl2 hns2 hbig2
  obtain ⟨RR, hRR⟩ : ∃ R, right x = R := ⟨_, rfl⟩
  obtain ⟨OO, hOO⟩ : ∃ R, order x y = R := ⟨_, rfl⟩
  obtain ⟨NN, hNN⟩ : ∃ R, newer x y = R := ⟨_, rfl⟩
  have HQ1 : Hid (∀ W l1 k1 r1 q1, LsOk W x l1 r1 → Calls Try.prog 9 #[lsaV x l1 k1 r1 q1] W fun e w' => e = .returned (.bool RR) ∧ Below W.heap.size W w') := fun W l1 k1 r1 q1 h => right_any x l1 k1 r1 q1 W h RR hRR
  have HQ2 : Hid (∀ W, Below w.heap.size w W → Calls Try.prog 10 #[lsaV x la lc sa sc] W fun e w' => e = .returned (.bool RR) ∧ Below W.heap.size W w') := fun W hW => rright_any x la lc sa sc W (hx.bel hW) h64 RR hRR
  have HQ3 : Hid (∀ W l1 k1 r1 q1 l2 k2 r2 q2, Calls Try.prog 11 #[lsaV x l1 k1 r1 q1, lsaV y l2 k2 r2 q2] W fun e w' => e = .returned (.int .i64 OO) ∧ Below W.heap.size W w') := fun W l1 k1 r1 q1 l2 k2 r2 q2 => lorder_any x y l1 k1 r1 q1 l2 k2 r2 q2 W hx.p32 hy.p32 OO hOO
  have HQ4 : Hid (∀ W, Calls Try.prog 12 #[lsaV x la lc sa sc, lsaV y lb ld sb sd] W fun e w' => e = .returned (.int .i64 OO) ∧ Below W.heap.size W w') := fun W => rlorder_any x y la lc sa sc lb ld sb sd W hx.p32 hy.p32 OO hOO
  have HQ5 : Hid (∀ W l1 k1 r1 q1 l2 k2 r2 q2, LsOk W x l1 r1 → LsOk W y l2 r2 → Calls Try.prog 13 #[lsaV x l1 k1 r1 q1, lsaV y l2 k2 r2 q2] W fun e w' => e = .returned (.int .i64 NN) ∧ Below W.heap.size W w') := fun W l1 k1 r1 q1 l2 k2 r2 q2 h1 h2 => newer_any x y l1 k1 r1 q1 l2 k2 r2 q2 W h1 h2 NN hNN
  have HQ6 : Hid (∀ W, Below w.heap.size w W → Calls Try.prog 14 #[lsaV x la lc sa sc, lsaV y lb ld sb sd] W fun e w' => e = .returned (.int .i64 NN) ∧ Below W.heap.size W w') := fun W hW => rnewer_any x y la lc sa sc lb ld sb sd W (hx.bel hW) (hy.bel hW) hbig NN hNN
  have HQ7 : Hid (∀ W l1 k1 r1 q1 l2 k2 r2 q2 a b, Two2 (lsaV x l1 k1 r1 q1) (lsaV x la lc sa sc) (lsaV y l2 k2 r2 q2) (lsaV y lb ld sb sd) a b → LsOk W x l1 r1 → LsOk W y l2 r2 → Below w.heap.size w W → Calls Try.prog 15 #[a, b] W fun e w' => e = .returned (.bool true) ∧ Below W.heap.size W w') := fun W l1 k1 r1 q1 l2 k2 r2 q2 a b hp h1 h2 hW => by
    rcases hp with ⟨rfl, rfl⟩ | ⟨rfl, rfl⟩
    · exact same_any x l1 k1 r1 q1 la lc sa sc W h1 (hx.bel hW)
    · exact same_any y l2 k2 r2 q2 lb ld sb sd W h2 (hy.bel hW)
  obtain ⟨n1, hn1⟩ : ∃ n1, x.links.length = n1 := ⟨_, rfl⟩
  obtain ⟨n2, hn2⟩ : ∃ n2, x.stubs.length = n2 := ⟨_, rfl⟩
  obtain ⟨m1, hm1⟩ : ∃ m1, y.links.length = m1 := ⟨_, rfl⟩
  obtain ⟨m2, hm2⟩ : ∃ m2, y.stubs.length = m2 := ⟨_, rfl⟩
  unfold lsaV at HCX HCY HQ1 HQ2 HQ3 HQ4 HQ5 HQ6 HQ7 ⊢
  rw [hn1, hn2] at HCX HQ1 HQ2
  rw [hm1, hm2] at HCY
  rw [hn1, hn2, hm1, hm2] at HQ3 HQ4 HQ5 HQ6 HQ7 ⊢
  clear hx hy hnl hns hnl2 hns2 hbig hbig2 h64 hn1 hn2 hm1 hm2 hRR hOO hNN
  go_enter Try.func3, Try.ntmps3
  go_wp2_with fail
  obtain ⟨w0, hw0⟩ : ∃ w0, (w.alloc (Obj.cells #[.int .i64 x.kind, .int .i64 x.area, .int .i64 x.origin, .int .u32 x.pa, .int .i64 x.pn, .int .i64 x.seq, .int .i64 x.age, .slice la n1 lc, .slice sa n2 sc, .int .i64 x.cost, .int .i64 x.tag] 28)).alloc (Obj.cells #[.int .i64 y.kind, .int .i64 y.area, .int .i64 y.origin, .int .u32 y.pa, .int .i64 y.pn, .int .i64 y.seq, .int .i64 y.age, .slice lb m1 ld, .slice sb m2 sd, .int .i64 y.cost, .int .i64 y.tag] 28) = w0 := ⟨_, rfl⟩
  obtain ⟨g1, g2, hs0, hb0⟩ := ha2 _ _ w0 hw0.symm
  have HBX : Hid (LBX w.heap.size x (.slice la n1 lc) (.slice sa n2 sc) w0) := by constructor <;> simp [World.cell?, g1]
  have HBY : Hid (LBX (w.heap.size + 1) y (.slice lb m1 ld) (.slice sb m2 sd) w0) := by constructor <;> simp [World.cell?, g2]
  rw [hw0]
  have HB0 : Hid (Below w.heap.size w w0) := hb0
  obtain ⟨s, hs⟩ : ∃ s, w.heap.size = s := ⟨_, rfl⟩
  rw [hs] at HBX HBY ⊢
  clear hw0 g1 g2 hs0 hs hb0
  go_cut [5, 6] from 8 to 45 (fun p q wx => ∃ s5 s6 l1 k1 r1 q1 l2 k2 r2 q2, p = .pointer (some ⟨s5, 0, none⟩) ∧ q = .pointer (some ⟨s6, 0, none⟩) ∧ LBX s5 x (.slice l1 n1 k1) (.slice r1 n2 q1) wx ∧ LBX s6 y (.slice l2 m1 k2) (.slice r2 m2 q2) wx ∧ LsOk wx x l1 r1 ∧ LsOk wx y l2 r2 ∧ Below w0.heap.size w0 wx)
  case first =>
    clear HQ1 HQ2 HQ3 HQ4 HQ5 HQ6 HQ7
    refine wp_region_held_drew (S := fun w' => Below w0.heap.size w0 w') (by kernel_rfl) (drew_bel w0) (fun hHeld => ?_)
    obtain ⟨wD, hwD⟩ : ∃ wD, w0.drew = wD := ⟨_, rfl⟩
    rw [hwD] at hHeld ⊢
    have HBwD : Hid (Below w0.heap.size w0 wD) := hHeld
    clear hwD
    refine wpAnyH_take (i := 0) (v := .agg #[.int .i64 x.kind, .int .i64 x.area, .int .i64 x.origin, .int .u32 x.pa, .int .i64 x.pn, .int .i64 x.seq, .int .i64 x.age, .slice la n1 lc, .slice sa n2 sc, .int .i64 x.cost, .int .i64 x.tag]) rfl (by kernel_rfl) (by kernel_rfl) (by kernel_rfl) (fun _ _ _ h => h) (Or.inl ⟨by rfl, fun W hW => box_run _ rfl rfl (HBX.out.bel hW)⟩) (by assumption) ?_
    try simp only [Act.put, List.setIfInBounds_toArray]
    refine wpAnyH_take (i := 2) (v := .agg #[.int .i64 y.kind, .int .i64 y.area, .int .i64 y.origin, .int .u32 y.pa, .int .i64 y.pn, .int .i64 y.seq, .int .i64 y.age, .slice lb m1 ld, .slice sb m2 sd, .int .i64 y.cost, .int .i64 y.tag]) rfl (by kernel_rfl) (by kernel_rfl) (by kernel_rfl) (fun _ _ _ h => h) (Or.inl ⟨by rfl, fun W hW => box_run _ rfl rfl (HBY.out.bel hW)⟩) (by assumption) ?_
    try simp only [Act.put]
    refine wpAnyH_ready (rs := [1, 4, 5]) (by kernel_rfl) (by simp) ?_
    refine AllReadyH.cons rfl (fun K hK => ?_) (AllReadyH.cons rfl (fun K hK => ?_) (AllReadyH.cons rfl (fun K hK => ?_) AllReadyH.nil))
    · go_simp
      refine (HCX.out wD (HB0.out.trans (HBwD.out.mono HB0.out.size))).mono ?_
      rintro e v1 ⟨l1, k1, r1, q1, rfl, hok, hb, hg1, hg2⟩
      have OK1 : Hid (LsOk v1 x l1 r1) := hok
      have HBv1 : Hid (Below w0.heap.size w0 v1) := HBwD.out.trans (hb.mono HBwD.out.size)
      clear hok hb hg1 hg2
      go_wp2_with fail
      refine hK.out _ _ HBv1.out (fun hHeld => ?_)
      clear hK K
      try simp only [Act.put, List.setIfInBounds_toArray, List.set_cons_zero, List.set_cons_succ]
      refine wpAnyH_ready (rs := [3, 4, 5]) (by kernel_rfl) (by simp) ?_
      refine AllReadyH.cons rfl (fun K hK => ?_) (AllReadyH.cons rfl (fun K hK => ?_) (AllReadyH.cons rfl (fun K hK => ?_) AllReadyH.nil))
      · go_simp
        refine (HCY.out v1 (HB0.out.trans (HBv1.out.mono HB0.out.size))).mono ?_
        rintro e v2 ⟨l2, k2, r2, q2, rfl, hok, hb, hg1, hg2⟩
        have OK2 : Hid (LsOk v2 y l2 r2) := hok
        have HBv2 : Hid (Below w0.heap.size w0 v2) := HBv1.out.trans (hb.mono HBv1.out.size)
        have OK1 : Hid (LsOk v2 x l1 r1) := OK1.out.bel hb
        clear hok hb hg1 hg2
        go_wp2_with fail
        refine hK.out _ _ HBv2.out (fun hHeld => ?_)
        clear hK K
        try simp only [Act.put, List.setIfInBounds_toArray, List.set_cons_zero, List.set_cons_succ]
        refine wpAnyH_ready (rs := [4, 5]) (by kernel_rfl) (by simp) ?_
        refine AllReadyH.cons rfl (fun K hK => ?_) (AllReadyH.cons rfl (fun K hK => ?_) AllReadyH.nil)
        · go_simp
          obtain ⟨v3, hv3⟩ : ∃ v3, v2.alloc (Obj.cells #[.int .i64 0, .int .i64 0, .int .i64 0, .int .u32 0, .int .i64 0, .int .i64 0, .int .i64 0, .slice none 0 0, .slice none 0 0, .int .i64 0, .int .i64 0] 28) = v3 := ⟨_, rfl⟩
          have hb : Below v2.heap.size v2 v3 := by rw [← hv3]; exact (Below.refl _ v2).alloc (Nat.le_refl _) _
          obtain ⟨s5, hs⟩ : ∃ s5, v2.heap.size = s5 := ⟨_, rfl⟩
          have Z5 : Hid (ZF w0 s5 v3) := zf_new hv3 hs HBv2.out.size
          have A15 : Hid (AP l1 r1 x s5) := OK1.out.ap (by omega)
          have A25 : Hid (AP l2 r2 y s5) := OK2.out.ap (by omega)
          have HBv3 : Hid (Below w0.heap.size w0 v3) := HBv2.out.trans (hb.mono HBv2.out.size)
          have OK1 : Hid (LsOk v3 x l1 r1) := OK1.out.bel hb
          have OK2 : Hid (LsOk v3 y l2 r2) := OK2.out.bel hb
          rw [hv3, hs]
          clear hv3 hs hb
          refine hK.out _ _ HBv3.out (fun hHeld => ?_)
          clear hK K
          try simp only [Act.put, List.setIfInBounds_toArray, List.set_cons_zero, List.set_cons_succ]
          refine wpAnyH_ready (rs := [5]) (by kernel_rfl) (by simp) ?_
          refine AllReadyH.cons rfl (fun K hK => ?_) AllReadyH.nil
          · go_simp
            obtain ⟨v4, hv4⟩ : ∃ v4, v3.alloc (Obj.cells #[.int .i64 0, .int .i64 0, .int .i64 0, .int .u32 0, .int .i64 0, .int .i64 0, .int .i64 0, .slice none 0 0, .slice none 0 0, .int .i64 0, .int .i64 0] 28) = v4 := ⟨_, rfl⟩
            have hb : Below v3.heap.size v3 v4 := by rw [← hv4]; exact (Below.refl _ v3).alloc (Nat.le_refl _) _
            obtain ⟨s6, hs⟩ : ∃ s6, v3.heap.size = s6 := ⟨_, rfl⟩
            have Z6 : Hid (ZF w0 s6 v4) := zf_new hv4 hs HBv3.out.size
            have NE : Hid (s5 ≠ s6) := by have := Z5.out.lt; show _ ≠ _; omega
            have A16 : Hid (AP l1 r1 x s6) := OK1.out.ap (by omega)
            have A26 : Hid (AP l2 r2 y s6) := OK2.out.ap (by omega)
            have HBv4 : Hid (Below w0.heap.size w0 v4) := HBv3.out.trans (hb.mono HBv3.out.size)
            have Z5 : Hid (ZF w0 s5 v4) := Z5.out.bel hb
            have OK1 : Hid (LsOk v4 x l1 r1) := OK1.out.bel hb
            have OK2 : Hid (LsOk v4 y l2 r2) := OK2.out.bel hb
            rw [hv4, hs]
            clear hv4 hs hb
            refine hK.out _ _ HBv4.out (fun hHeld => ?_)
            clear hK K
            try simp only [Act.put, List.setIfInBounds_toArray, List.set_cons_zero, List.set_cons_succ]
            refine wpAnyH_ready (rs := [6]) (by kernel_rfl) (by simp) ?_
            refine AllReadyH.cons rfl (fun K hK => ?_) AllReadyH.nil
            obtain ⟨⟨z0, z1, z2, z3, z4, z5, z6, z7, z8, z9, z10⟩, zf, -, -⟩ := Z5.out
            go_simp
            obtain ⟨u50, hu50⟩ : ∃ u50, S11 v4 s5 x (.slice l1 n1 k1) (.slice r1 n2 q1) = u50 := ⟨_, rfl⟩
            have f1 := s11 Z5.out HBv4.out hu50
            have Z6 : Hid (ZF w0 s6 u50) := Z6.out.block (f1.2.2.2 s6 (fun e => NE.out e.symm)) (by rw [f1.2.2.1]; exact Nat.le_refl _)
            have OK1 : Hid (LsOk u50 x l1 r1) := OK1.out.other A15.out f1.2.2.2 f1.2.2.1
            have OK2 : Hid (LsOk u50 y l2 r2) := OK2.out.other A25.out f1.2.2.2 f1.2.2.1
            have BX5 : Hid (LBX s5 x (.slice l1 n1 k1) (.slice r1 n2 q1) u50) := f1.1
            have HBu50 : Hid (Below w0.heap.size w0 u50) := f1.2.1
            refine hK.out _ (S11 v4 s5 x (.slice l1 n1 k1) (.slice r1 n2 q1)) (by rw [hu50]; exact HBu50.out) (fun hHeld => ?_)
            clear hK K
            rw [hu50] at hHeld ⊢
            clear hu50 f1 z0 z1 z2 z3 z4 z5 z6 z7 z8 z9 z10 zf
            try simp only [Act.put, List.setIfInBounds_toArray, List.set_cons_zero, List.set_cons_succ]
            refine wpAnyH_ready (rs := [7]) (by kernel_rfl) (by simp) ?_
            refine AllReadyH.cons rfl (fun K hK => ?_) AllReadyH.nil
            obtain ⟨⟨z0, z1, z2, z3, z4, z5, z6, z7, z8, z9, z10⟩, zf, -, -⟩ := Z6.out
            go_simp
            obtain ⟨u51, hu51⟩ : ∃ u51, S11 u50 s6 y (.slice l2 m1 k2) (.slice r2 m2 q2) = u51 := ⟨_, rfl⟩
            have f1 := s11 Z6.out HBu50.out hu51
            have OK1 : Hid (LsOk u51 x l1 r1) := OK1.out.other A16.out f1.2.2.2 f1.2.2.1
            have OK2 : Hid (LsOk u51 y l2 r2) := OK2.out.other A26.out f1.2.2.2 f1.2.2.1
            have BX5 : Hid (LBX s5 x (.slice l1 n1 k1) (.slice r1 n2 q1) u51) := BX5.out.block (f1.2.2.2 s5 NE.out)
            have BX6 : Hid (LBX s6 y (.slice l2 m1 k2) (.slice r2 m2 q2) u51) := f1.1
            have HBu51 : Hid (Below w0.heap.size w0 u51) := f1.2.1
            refine hK.out _ (S11 u50 s6 y (.slice l2 m1 k2) (.slice r2 m2 q2)) (by rw [hu51]; exact HBu51.out) (fun hHeld => ?_)
            clear hK K
            rw [hu51] at hHeld ⊢
            clear hu51 f1 z0 z1 z2 z3 z4 z5 z6 z7 z8 z9 z10 zf
            try simp only [Act.put, List.setIfInBounds_toArray, List.set_cons_zero, List.set_cons_succ]
            refine wpAnyH_done (by kernel_rfl) ?_ _
            go_wp2_with fail
            go_meet
            exact ⟨s5, s6, l1, k1, r1, q1, l2, k2, r2, q2, rfl, rfl, BX5.out, BX6.out, OK1.out, OK2.out, HBu51.out⟩
        · go_simp
          obtain ⟨v6, hv6⟩ : ∃ v6, v2.alloc (Obj.cells #[.int .i64 0, .int .i64 0, .int .i64 0, .int .u32 0, .int .i64 0, .int .i64 0, .int .i64 0, .slice none 0 0, .slice none 0 0, .int .i64 0, .int .i64 0] 28) = v6 := ⟨_, rfl⟩
          have hb : Below v2.heap.size v2 v6 := by rw [← hv6]; exact (Below.refl _ v2).alloc (Nat.le_refl _) _
          obtain ⟨s6, hs⟩ : ∃ s6, v2.heap.size = s6 := ⟨_, rfl⟩
          have Z6 : Hid (ZF w0 s6 v6) := zf_new hv6 hs HBv2.out.size
          have A16 : Hid (AP l1 r1 x s6) := OK1.out.ap (by omega)
          have A26 : Hid (AP l2 r2 y s6) := OK2.out.ap (by omega)
          have HBv6 : Hid (Below w0.heap.size w0 v6) := HBv2.out.trans (hb.mono HBv2.out.size)
          have OK1 : Hid (LsOk v6 x l1 r1) := OK1.out.bel hb
          have OK2 : Hid (LsOk v6 y l2 r2) := OK2.out.bel hb
          rw [hv6, hs]
          clear hv6 hs hb
          refine hK.out _ _ HBv6.out (fun hHeld => ?_)
          clear hK K
          try simp only [Act.put, List.setIfInBounds_toArray, List.set_cons_zero, List.set_cons_succ]
          refine wpAnyH_ready (rs := [4]) (by kernel_rfl) (by simp) ?_
          refine AllReadyH.cons rfl (fun K hK => ?_) AllReadyH.nil
          · go_simp
            obtain ⟨v7, hv7⟩ : ∃ v7, v6.alloc (Obj.cells #[.int .i64 0, .int .i64 0, .int .i64 0, .int .u32 0, .int .i64 0, .int .i64 0, .int .i64 0, .slice none 0 0, .slice none 0 0, .int .i64 0, .int .i64 0] 28) = v7 := ⟨_, rfl⟩
            have hb : Below v6.heap.size v6 v7 := by rw [← hv7]; exact (Below.refl _ v6).alloc (Nat.le_refl _) _
            obtain ⟨s5, hs⟩ : ∃ s5, v6.heap.size = s5 := ⟨_, rfl⟩
            have Z5 : Hid (ZF w0 s5 v7) := zf_new hv7 hs HBv6.out.size
            have NE : Hid (s5 ≠ s6) := by have := Z6.out.lt; show _ ≠ _; omega
            have A15 : Hid (AP l1 r1 x s5) := OK1.out.ap (by omega)
            have A25 : Hid (AP l2 r2 y s5) := OK2.out.ap (by omega)
            have HBv7 : Hid (Below w0.heap.size w0 v7) := HBv6.out.trans (hb.mono HBv6.out.size)
            have Z6 : Hid (ZF w0 s6 v7) := Z6.out.bel hb
            have OK1 : Hid (LsOk v7 x l1 r1) := OK1.out.bel hb
            have OK2 : Hid (LsOk v7 y l2 r2) := OK2.out.bel hb
            rw [hv7, hs]
            clear hv7 hs hb
            refine hK.out _ _ HBv7.out (fun hHeld => ?_)
            clear hK K
            try simp only [Act.put, List.setIfInBounds_toArray, List.set_cons_zero, List.set_cons_succ]
            refine wpAnyH_ready (rs := [6]) (by kernel_rfl) (by simp) ?_
            refine AllReadyH.cons rfl (fun K hK => ?_) AllReadyH.nil
            obtain ⟨⟨z0, z1, z2, z3, z4, z5, z6, z7, z8, z9, z10⟩, zf, -, -⟩ := Z5.out
            go_simp
            obtain ⟨u80, hu80⟩ : ∃ u80, S11 v7 s5 x (.slice l1 n1 k1) (.slice r1 n2 q1) = u80 := ⟨_, rfl⟩
            have f1 := s11 Z5.out HBv7.out hu80
            have Z6 : Hid (ZF w0 s6 u80) := Z6.out.block (f1.2.2.2 s6 (fun e => NE.out e.symm)) (by rw [f1.2.2.1]; exact Nat.le_refl _)
            have OK1 : Hid (LsOk u80 x l1 r1) := OK1.out.other A15.out f1.2.2.2 f1.2.2.1
            have OK2 : Hid (LsOk u80 y l2 r2) := OK2.out.other A25.out f1.2.2.2 f1.2.2.1
            have BX5 : Hid (LBX s5 x (.slice l1 n1 k1) (.slice r1 n2 q1) u80) := f1.1
            have HBu80 : Hid (Below w0.heap.size w0 u80) := f1.2.1
            refine hK.out _ (S11 v7 s5 x (.slice l1 n1 k1) (.slice r1 n2 q1)) (by rw [hu80]; exact HBu80.out) (fun hHeld => ?_)
            clear hK K
            rw [hu80] at hHeld ⊢
            clear hu80 f1 z0 z1 z2 z3 z4 z5 z6 z7 z8 z9 z10 zf
            try simp only [Act.put, List.setIfInBounds_toArray, List.set_cons_zero, List.set_cons_succ]
            refine wpAnyH_ready (rs := [7]) (by kernel_rfl) (by simp) ?_
            refine AllReadyH.cons rfl (fun K hK => ?_) AllReadyH.nil
            obtain ⟨⟨z0, z1, z2, z3, z4, z5, z6, z7, z8, z9, z10⟩, zf, -, -⟩ := Z6.out
            go_simp
            obtain ⟨u81, hu81⟩ : ∃ u81, S11 u80 s6 y (.slice l2 m1 k2) (.slice r2 m2 q2) = u81 := ⟨_, rfl⟩
            have f1 := s11 Z6.out HBu80.out hu81
            have OK1 : Hid (LsOk u81 x l1 r1) := OK1.out.other A16.out f1.2.2.2 f1.2.2.1
            have OK2 : Hid (LsOk u81 y l2 r2) := OK2.out.other A26.out f1.2.2.2 f1.2.2.1
            have BX5 : Hid (LBX s5 x (.slice l1 n1 k1) (.slice r1 n2 q1) u81) := BX5.out.block (f1.2.2.2 s5 NE.out)
            have BX6 : Hid (LBX s6 y (.slice l2 m1 k2) (.slice r2 m2 q2) u81) := f1.1
            have HBu81 : Hid (Below w0.heap.size w0 u81) := f1.2.1
            refine hK.out _ (S11 u80 s6 y (.slice l2 m1 k2) (.slice r2 m2 q2)) (by rw [hu81]; exact HBu81.out) (fun hHeld => ?_)
            clear hK K
            rw [hu81] at hHeld ⊢
            clear hu81 f1 z0 z1 z2 z3 z4 z5 z6 z7 z8 z9 z10 zf
            try simp only [Act.put, List.setIfInBounds_toArray, List.set_cons_zero, List.set_cons_succ]
            refine wpAnyH_done (by kernel_rfl) ?_ _
            go_wp2_with fail
            go_meet
            exact ⟨s5, s6, l1, k1, r1, q1, l2, k2, r2, q2, rfl, rfl, BX5.out, BX6.out, OK1.out, OK2.out, HBu81.out⟩
      · go_simp
        obtain ⟨v9, hv9⟩ : ∃ v9, v1.alloc (Obj.cells #[.int .i64 0, .int .i64 0, .int .i64 0, .int .u32 0, .int .i64 0, .int .i64 0, .int .i64 0, .slice none 0 0, .slice none 0 0, .int .i64 0, .int .i64 0] 28) = v9 := ⟨_, rfl⟩
        have hb : Below v1.heap.size v1 v9 := by rw [← hv9]; exact (Below.refl _ v1).alloc (Nat.le_refl _) _
        obtain ⟨s5, hs⟩ : ∃ s5, v1.heap.size = s5 := ⟨_, rfl⟩
        have Z5 : Hid (ZF w0 s5 v9) := zf_new hv9 hs HBv1.out.size
        have A15 : Hid (AP l1 r1 x s5) := OK1.out.ap (by omega)
        have HBv9 : Hid (Below w0.heap.size w0 v9) := HBv1.out.trans (hb.mono HBv1.out.size)
        have OK1 : Hid (LsOk v9 x l1 r1) := OK1.out.bel hb
        rw [hv9, hs]
        clear hv9 hs hb
        refine hK.out _ _ HBv9.out (fun hHeld => ?_)
        clear hK K
        try simp only [Act.put, List.setIfInBounds_toArray, List.set_cons_zero, List.set_cons_succ]
        refine wpAnyH_ready (rs := [3, 5]) (by kernel_rfl) (by simp) ?_
        refine AllReadyH.cons rfl (fun K hK => ?_) (AllReadyH.cons rfl (fun K hK => ?_) AllReadyH.nil)
        · go_simp
          refine (HCY.out v9 (HB0.out.trans (HBv9.out.mono HB0.out.size))).mono ?_
          rintro e v10 ⟨l2, k2, r2, q2, rfl, hok, hb, hg1, hg2⟩
          have OK2 : Hid (LsOk v10 y l2 r2) := hok
          have A25 : Hid (AP l2 r2 y s5) := ap_ge hg1 hg2 Z5.out.lt
          have HBv10 : Hid (Below w0.heap.size w0 v10) := HBv9.out.trans (hb.mono HBv9.out.size)
          have Z5 : Hid (ZF w0 s5 v10) := Z5.out.bel hb
          have OK1 : Hid (LsOk v10 x l1 r1) := OK1.out.bel hb
          clear hok hb hg1 hg2
          go_wp2_with fail
          refine hK.out _ _ HBv10.out (fun hHeld => ?_)
          clear hK K
          try simp only [Act.put, List.setIfInBounds_toArray, List.set_cons_zero, List.set_cons_succ]
          refine wpAnyH_ready (rs := [5]) (by kernel_rfl) (by simp) ?_
          refine AllReadyH.cons rfl (fun K hK => ?_) AllReadyH.nil
          · go_simp
            obtain ⟨v11, hv11⟩ : ∃ v11, v10.alloc (Obj.cells #[.int .i64 0, .int .i64 0, .int .i64 0, .int .u32 0, .int .i64 0, .int .i64 0, .int .i64 0, .slice none 0 0, .slice none 0 0, .int .i64 0, .int .i64 0] 28) = v11 := ⟨_, rfl⟩
            have hb : Below v10.heap.size v10 v11 := by rw [← hv11]; exact (Below.refl _ v10).alloc (Nat.le_refl _) _
            obtain ⟨s6, hs⟩ : ∃ s6, v10.heap.size = s6 := ⟨_, rfl⟩
            have Z6 : Hid (ZF w0 s6 v11) := zf_new hv11 hs HBv10.out.size
            have NE : Hid (s5 ≠ s6) := by have := Z5.out.lt; show _ ≠ _; omega
            have A16 : Hid (AP l1 r1 x s6) := OK1.out.ap (by omega)
            have A26 : Hid (AP l2 r2 y s6) := OK2.out.ap (by omega)
            have HBv11 : Hid (Below w0.heap.size w0 v11) := HBv10.out.trans (hb.mono HBv10.out.size)
            have Z5 : Hid (ZF w0 s5 v11) := Z5.out.bel hb
            have OK1 : Hid (LsOk v11 x l1 r1) := OK1.out.bel hb
            have OK2 : Hid (LsOk v11 y l2 r2) := OK2.out.bel hb
            rw [hv11, hs]
            clear hv11 hs hb
            refine hK.out _ _ HBv11.out (fun hHeld => ?_)
            clear hK K
            try simp only [Act.put, List.setIfInBounds_toArray, List.set_cons_zero, List.set_cons_succ]
            refine wpAnyH_ready (rs := [6]) (by kernel_rfl) (by simp) ?_
            refine AllReadyH.cons rfl (fun K hK => ?_) AllReadyH.nil
            obtain ⟨⟨z0, z1, z2, z3, z4, z5, z6, z7, z8, z9, z10⟩, zf, -, -⟩ := Z5.out
            go_simp
            obtain ⟨u120, hu120⟩ : ∃ u120, S11 v11 s5 x (.slice l1 n1 k1) (.slice r1 n2 q1) = u120 := ⟨_, rfl⟩
            have f1 := s11 Z5.out HBv11.out hu120
            have Z6 : Hid (ZF w0 s6 u120) := Z6.out.block (f1.2.2.2 s6 (fun e => NE.out e.symm)) (by rw [f1.2.2.1]; exact Nat.le_refl _)
            have OK1 : Hid (LsOk u120 x l1 r1) := OK1.out.other A15.out f1.2.2.2 f1.2.2.1
            have OK2 : Hid (LsOk u120 y l2 r2) := OK2.out.other A25.out f1.2.2.2 f1.2.2.1
            have BX5 : Hid (LBX s5 x (.slice l1 n1 k1) (.slice r1 n2 q1) u120) := f1.1
            have HBu120 : Hid (Below w0.heap.size w0 u120) := f1.2.1
            refine hK.out _ (S11 v11 s5 x (.slice l1 n1 k1) (.slice r1 n2 q1)) (by rw [hu120]; exact HBu120.out) (fun hHeld => ?_)
            clear hK K
            rw [hu120] at hHeld ⊢
            clear hu120 f1 z0 z1 z2 z3 z4 z5 z6 z7 z8 z9 z10 zf
            try simp only [Act.put, List.setIfInBounds_toArray, List.set_cons_zero, List.set_cons_succ]
            refine wpAnyH_ready (rs := [7]) (by kernel_rfl) (by simp) ?_
            refine AllReadyH.cons rfl (fun K hK => ?_) AllReadyH.nil
            obtain ⟨⟨z0, z1, z2, z3, z4, z5, z6, z7, z8, z9, z10⟩, zf, -, -⟩ := Z6.out
            go_simp
            obtain ⟨u121, hu121⟩ : ∃ u121, S11 u120 s6 y (.slice l2 m1 k2) (.slice r2 m2 q2) = u121 := ⟨_, rfl⟩
            have f1 := s11 Z6.out HBu120.out hu121
            have OK1 : Hid (LsOk u121 x l1 r1) := OK1.out.other A16.out f1.2.2.2 f1.2.2.1
            have OK2 : Hid (LsOk u121 y l2 r2) := OK2.out.other A26.out f1.2.2.2 f1.2.2.1
            have BX5 : Hid (LBX s5 x (.slice l1 n1 k1) (.slice r1 n2 q1) u121) := BX5.out.block (f1.2.2.2 s5 NE.out)
            have BX6 : Hid (LBX s6 y (.slice l2 m1 k2) (.slice r2 m2 q2) u121) := f1.1
            have HBu121 : Hid (Below w0.heap.size w0 u121) := f1.2.1
            refine hK.out _ (S11 u120 s6 y (.slice l2 m1 k2) (.slice r2 m2 q2)) (by rw [hu121]; exact HBu121.out) (fun hHeld => ?_)
            clear hK K
            rw [hu121] at hHeld ⊢
            clear hu121 f1 z0 z1 z2 z3 z4 z5 z6 z7 z8 z9 z10 zf
            try simp only [Act.put, List.setIfInBounds_toArray, List.set_cons_zero, List.set_cons_succ]
            refine wpAnyH_done (by kernel_rfl) ?_ _
            go_wp2_with fail
            go_meet
            exact ⟨s5, s6, l1, k1, r1, q1, l2, k2, r2, q2, rfl, rfl, BX5.out, BX6.out, OK1.out, OK2.out, HBu121.out⟩
        · go_simp
          obtain ⟨v13, hv13⟩ : ∃ v13, v9.alloc (Obj.cells #[.int .i64 0, .int .i64 0, .int .i64 0, .int .u32 0, .int .i64 0, .int .i64 0, .int .i64 0, .slice none 0 0, .slice none 0 0, .int .i64 0, .int .i64 0] 28) = v13 := ⟨_, rfl⟩
          have hb : Below v9.heap.size v9 v13 := by rw [← hv13]; exact (Below.refl _ v9).alloc (Nat.le_refl _) _
          obtain ⟨s6, hs⟩ : ∃ s6, v9.heap.size = s6 := ⟨_, rfl⟩
          have Z6 : Hid (ZF w0 s6 v13) := zf_new hv13 hs HBv9.out.size
          have NE : Hid (s5 ≠ s6) := by have := Z5.out.lt; show _ ≠ _; omega
          have A16 : Hid (AP l1 r1 x s6) := OK1.out.ap (by omega)
          have HBv13 : Hid (Below w0.heap.size w0 v13) := HBv9.out.trans (hb.mono HBv9.out.size)
          have Z5 : Hid (ZF w0 s5 v13) := Z5.out.bel hb
          have OK1 : Hid (LsOk v13 x l1 r1) := OK1.out.bel hb
          rw [hv13, hs]
          clear hv13 hs hb
          refine hK.out _ _ HBv13.out (fun hHeld => ?_)
          clear hK K
          try simp only [Act.put, List.setIfInBounds_toArray, List.set_cons_zero, List.set_cons_succ]
          refine wpAnyH_ready (rs := [3]) (by kernel_rfl) (by simp) ?_
          refine AllReadyH.cons rfl (fun K hK => ?_) AllReadyH.nil
          · go_simp
            refine (HCY.out v13 (HB0.out.trans (HBv13.out.mono HB0.out.size))).mono ?_
            rintro e v14 ⟨l2, k2, r2, q2, rfl, hok, hb, hg1, hg2⟩
            have OK2 : Hid (LsOk v14 y l2 r2) := hok
            have A25 : Hid (AP l2 r2 y s5) := ap_ge hg1 hg2 Z5.out.lt
            have A26 : Hid (AP l2 r2 y s6) := ap_ge hg1 hg2 Z6.out.lt
            have HBv14 : Hid (Below w0.heap.size w0 v14) := HBv13.out.trans (hb.mono HBv13.out.size)
            have Z5 : Hid (ZF w0 s5 v14) := Z5.out.bel hb
            have Z6 : Hid (ZF w0 s6 v14) := Z6.out.bel hb
            have OK1 : Hid (LsOk v14 x l1 r1) := OK1.out.bel hb
            clear hok hb hg1 hg2
            go_wp2_with fail
            refine hK.out _ _ HBv14.out (fun hHeld => ?_)
            clear hK K
            try simp only [Act.put, List.setIfInBounds_toArray, List.set_cons_zero, List.set_cons_succ]
            refine wpAnyH_ready (rs := [6]) (by kernel_rfl) (by simp) ?_
            refine AllReadyH.cons rfl (fun K hK => ?_) AllReadyH.nil
            obtain ⟨⟨z0, z1, z2, z3, z4, z5, z6, z7, z8, z9, z10⟩, zf, -, -⟩ := Z5.out
            go_simp
            obtain ⟨u150, hu150⟩ : ∃ u150, S11 v14 s5 x (.slice l1 n1 k1) (.slice r1 n2 q1) = u150 := ⟨_, rfl⟩
            have f1 := s11 Z5.out HBv14.out hu150
            have Z6 : Hid (ZF w0 s6 u150) := Z6.out.block (f1.2.2.2 s6 (fun e => NE.out e.symm)) (by rw [f1.2.2.1]; exact Nat.le_refl _)
            have OK1 : Hid (LsOk u150 x l1 r1) := OK1.out.other A15.out f1.2.2.2 f1.2.2.1
            have OK2 : Hid (LsOk u150 y l2 r2) := OK2.out.other A25.out f1.2.2.2 f1.2.2.1
            have BX5 : Hid (LBX s5 x (.slice l1 n1 k1) (.slice r1 n2 q1) u150) := f1.1
            have HBu150 : Hid (Below w0.heap.size w0 u150) := f1.2.1
            refine hK.out _ (S11 v14 s5 x (.slice l1 n1 k1) (.slice r1 n2 q1)) (by rw [hu150]; exact HBu150.out) (fun hHeld => ?_)
            clear hK K
            rw [hu150] at hHeld ⊢
            clear hu150 f1 z0 z1 z2 z3 z4 z5 z6 z7 z8 z9 z10 zf
            try simp only [Act.put, List.setIfInBounds_toArray, List.set_cons_zero, List.set_cons_succ]
            refine wpAnyH_ready (rs := [7]) (by kernel_rfl) (by simp) ?_
            refine AllReadyH.cons rfl (fun K hK => ?_) AllReadyH.nil
            obtain ⟨⟨z0, z1, z2, z3, z4, z5, z6, z7, z8, z9, z10⟩, zf, -, -⟩ := Z6.out
            go_simp
            obtain ⟨u151, hu151⟩ : ∃ u151, S11 u150 s6 y (.slice l2 m1 k2) (.slice r2 m2 q2) = u151 := ⟨_, rfl⟩
            have f1 := s11 Z6.out HBu150.out hu151
            have OK1 : Hid (LsOk u151 x l1 r1) := OK1.out.other A16.out f1.2.2.2 f1.2.2.1
            have OK2 : Hid (LsOk u151 y l2 r2) := OK2.out.other A26.out f1.2.2.2 f1.2.2.1
            have BX5 : Hid (LBX s5 x (.slice l1 n1 k1) (.slice r1 n2 q1) u151) := BX5.out.block (f1.2.2.2 s5 NE.out)
            have BX6 : Hid (LBX s6 y (.slice l2 m1 k2) (.slice r2 m2 q2) u151) := f1.1
            have HBu151 : Hid (Below w0.heap.size w0 u151) := f1.2.1
            refine hK.out _ (S11 u150 s6 y (.slice l2 m1 k2) (.slice r2 m2 q2)) (by rw [hu151]; exact HBu151.out) (fun hHeld => ?_)
            clear hK K
            rw [hu151] at hHeld ⊢
            clear hu151 f1 z0 z1 z2 z3 z4 z5 z6 z7 z8 z9 z10 zf
            try simp only [Act.put, List.setIfInBounds_toArray, List.set_cons_zero, List.set_cons_succ]
            refine wpAnyH_done (by kernel_rfl) ?_ _
            go_wp2_with fail
            go_meet
            exact ⟨s5, s6, l1, k1, r1, q1, l2, k2, r2, q2, rfl, rfl, BX5.out, BX6.out, OK1.out, OK2.out, HBu151.out⟩
      · go_simp
        obtain ⟨v16, hv16⟩ : ∃ v16, v1.alloc (Obj.cells #[.int .i64 0, .int .i64 0, .int .i64 0, .int .u32 0, .int .i64 0, .int .i64 0, .int .i64 0, .slice none 0 0, .slice none 0 0, .int .i64 0, .int .i64 0] 28) = v16 := ⟨_, rfl⟩
        have hb : Below v1.heap.size v1 v16 := by rw [← hv16]; exact (Below.refl _ v1).alloc (Nat.le_refl _) _
        obtain ⟨s6, hs⟩ : ∃ s6, v1.heap.size = s6 := ⟨_, rfl⟩
        have Z6 : Hid (ZF w0 s6 v16) := zf_new hv16 hs HBv1.out.size
        have A16 : Hid (AP l1 r1 x s6) := OK1.out.ap (by omega)
        have HBv16 : Hid (Below w0.heap.size w0 v16) := HBv1.out.trans (hb.mono HBv1.out.size)
        have OK1 : Hid (LsOk v16 x l1 r1) := OK1.out.bel hb
        rw [hv16, hs]
        clear hv16 hs hb
        refine hK.out _ _ HBv16.out (fun hHeld => ?_)
        clear hK K
        try simp only [Act.put, List.setIfInBounds_toArray, List.set_cons_zero, List.set_cons_succ]
        refine wpAnyH_ready (rs := [3, 4]) (by kernel_rfl) (by simp) ?_
        refine AllReadyH.cons rfl (fun K hK => ?_) (AllReadyH.cons rfl (fun K hK => ?_) AllReadyH.nil)
        · go_simp
          refine (HCY.out v16 (HB0.out.trans (HBv16.out.mono HB0.out.size))).mono ?_
          rintro e v17 ⟨l2, k2, r2, q2, rfl, hok, hb, hg1, hg2⟩
          have OK2 : Hid (LsOk v17 y l2 r2) := hok
          have A26 : Hid (AP l2 r2 y s6) := ap_ge hg1 hg2 Z6.out.lt
          have HBv17 : Hid (Below w0.heap.size w0 v17) := HBv16.out.trans (hb.mono HBv16.out.size)
          have Z6 : Hid (ZF w0 s6 v17) := Z6.out.bel hb
          have OK1 : Hid (LsOk v17 x l1 r1) := OK1.out.bel hb
          clear hok hb hg1 hg2
          go_wp2_with fail
          refine hK.out _ _ HBv17.out (fun hHeld => ?_)
          clear hK K
          try simp only [Act.put, List.setIfInBounds_toArray, List.set_cons_zero, List.set_cons_succ]
          refine wpAnyH_ready (rs := [4]) (by kernel_rfl) (by simp) ?_
          refine AllReadyH.cons rfl (fun K hK => ?_) AllReadyH.nil
          · go_simp
            obtain ⟨v18, hv18⟩ : ∃ v18, v17.alloc (Obj.cells #[.int .i64 0, .int .i64 0, .int .i64 0, .int .u32 0, .int .i64 0, .int .i64 0, .int .i64 0, .slice none 0 0, .slice none 0 0, .int .i64 0, .int .i64 0] 28) = v18 := ⟨_, rfl⟩
            have hb : Below v17.heap.size v17 v18 := by rw [← hv18]; exact (Below.refl _ v17).alloc (Nat.le_refl _) _
            obtain ⟨s5, hs⟩ : ∃ s5, v17.heap.size = s5 := ⟨_, rfl⟩
            have Z5 : Hid (ZF w0 s5 v18) := zf_new hv18 hs HBv17.out.size
            have NE : Hid (s5 ≠ s6) := by have := Z6.out.lt; show _ ≠ _; omega
            have A15 : Hid (AP l1 r1 x s5) := OK1.out.ap (by omega)
            have A25 : Hid (AP l2 r2 y s5) := OK2.out.ap (by omega)
            have HBv18 : Hid (Below w0.heap.size w0 v18) := HBv17.out.trans (hb.mono HBv17.out.size)
            have Z6 : Hid (ZF w0 s6 v18) := Z6.out.bel hb
            have OK1 : Hid (LsOk v18 x l1 r1) := OK1.out.bel hb
            have OK2 : Hid (LsOk v18 y l2 r2) := OK2.out.bel hb
            rw [hv18, hs]
            clear hv18 hs hb
            refine hK.out _ _ HBv18.out (fun hHeld => ?_)
            clear hK K
            try simp only [Act.put, List.setIfInBounds_toArray, List.set_cons_zero, List.set_cons_succ]
            refine wpAnyH_ready (rs := [6]) (by kernel_rfl) (by simp) ?_
            refine AllReadyH.cons rfl (fun K hK => ?_) AllReadyH.nil
            obtain ⟨⟨z0, z1, z2, z3, z4, z5, z6, z7, z8, z9, z10⟩, zf, -, -⟩ := Z5.out
            go_simp
            obtain ⟨u190, hu190⟩ : ∃ u190, S11 v18 s5 x (.slice l1 n1 k1) (.slice r1 n2 q1) = u190 := ⟨_, rfl⟩
            have f1 := s11 Z5.out HBv18.out hu190
            have Z6 : Hid (ZF w0 s6 u190) := Z6.out.block (f1.2.2.2 s6 (fun e => NE.out e.symm)) (by rw [f1.2.2.1]; exact Nat.le_refl _)
            have OK1 : Hid (LsOk u190 x l1 r1) := OK1.out.other A15.out f1.2.2.2 f1.2.2.1
            have OK2 : Hid (LsOk u190 y l2 r2) := OK2.out.other A25.out f1.2.2.2 f1.2.2.1
            have BX5 : Hid (LBX s5 x (.slice l1 n1 k1) (.slice r1 n2 q1) u190) := f1.1
            have HBu190 : Hid (Below w0.heap.size w0 u190) := f1.2.1
            refine hK.out _ (S11 v18 s5 x (.slice l1 n1 k1) (.slice r1 n2 q1)) (by rw [hu190]; exact HBu190.out) (fun hHeld => ?_)
            clear hK K
            rw [hu190] at hHeld ⊢
            clear hu190 f1 z0 z1 z2 z3 z4 z5 z6 z7 z8 z9 z10 zf
            try simp only [Act.put, List.setIfInBounds_toArray, List.set_cons_zero, List.set_cons_succ]
            refine wpAnyH_ready (rs := [7]) (by kernel_rfl) (by simp) ?_
            refine AllReadyH.cons rfl (fun K hK => ?_) AllReadyH.nil
            obtain ⟨⟨z0, z1, z2, z3, z4, z5, z6, z7, z8, z9, z10⟩, zf, -, -⟩ := Z6.out
            go_simp
            obtain ⟨u191, hu191⟩ : ∃ u191, S11 u190 s6 y (.slice l2 m1 k2) (.slice r2 m2 q2) = u191 := ⟨_, rfl⟩
            have f1 := s11 Z6.out HBu190.out hu191
            have OK1 : Hid (LsOk u191 x l1 r1) := OK1.out.other A16.out f1.2.2.2 f1.2.2.1
            have OK2 : Hid (LsOk u191 y l2 r2) := OK2.out.other A26.out f1.2.2.2 f1.2.2.1
            have BX5 : Hid (LBX s5 x (.slice l1 n1 k1) (.slice r1 n2 q1) u191) := BX5.out.block (f1.2.2.2 s5 NE.out)
            have BX6 : Hid (LBX s6 y (.slice l2 m1 k2) (.slice r2 m2 q2) u191) := f1.1
            have HBu191 : Hid (Below w0.heap.size w0 u191) := f1.2.1
            refine hK.out _ (S11 u190 s6 y (.slice l2 m1 k2) (.slice r2 m2 q2)) (by rw [hu191]; exact HBu191.out) (fun hHeld => ?_)
            clear hK K
            rw [hu191] at hHeld ⊢
            clear hu191 f1 z0 z1 z2 z3 z4 z5 z6 z7 z8 z9 z10 zf
            try simp only [Act.put, List.setIfInBounds_toArray, List.set_cons_zero, List.set_cons_succ]
            refine wpAnyH_done (by kernel_rfl) ?_ _
            go_wp2_with fail
            go_meet
            exact ⟨s5, s6, l1, k1, r1, q1, l2, k2, r2, q2, rfl, rfl, BX5.out, BX6.out, OK1.out, OK2.out, HBu191.out⟩
        · go_simp
          obtain ⟨v20, hv20⟩ : ∃ v20, v16.alloc (Obj.cells #[.int .i64 0, .int .i64 0, .int .i64 0, .int .u32 0, .int .i64 0, .int .i64 0, .int .i64 0, .slice none 0 0, .slice none 0 0, .int .i64 0, .int .i64 0] 28) = v20 := ⟨_, rfl⟩
          have hb : Below v16.heap.size v16 v20 := by rw [← hv20]; exact (Below.refl _ v16).alloc (Nat.le_refl _) _
          obtain ⟨s5, hs⟩ : ∃ s5, v16.heap.size = s5 := ⟨_, rfl⟩
          have Z5 : Hid (ZF w0 s5 v20) := zf_new hv20 hs HBv16.out.size
          have NE : Hid (s5 ≠ s6) := by have := Z6.out.lt; show _ ≠ _; omega
          have A15 : Hid (AP l1 r1 x s5) := OK1.out.ap (by omega)
          have HBv20 : Hid (Below w0.heap.size w0 v20) := HBv16.out.trans (hb.mono HBv16.out.size)
          have Z6 : Hid (ZF w0 s6 v20) := Z6.out.bel hb
          have OK1 : Hid (LsOk v20 x l1 r1) := OK1.out.bel hb
          rw [hv20, hs]
          clear hv20 hs hb
          refine hK.out _ _ HBv20.out (fun hHeld => ?_)
          clear hK K
          try simp only [Act.put, List.setIfInBounds_toArray, List.set_cons_zero, List.set_cons_succ]
          refine wpAnyH_ready (rs := [3]) (by kernel_rfl) (by simp) ?_
          refine AllReadyH.cons rfl (fun K hK => ?_) AllReadyH.nil
          · go_simp
            refine (HCY.out v20 (HB0.out.trans (HBv20.out.mono HB0.out.size))).mono ?_
            rintro e v21 ⟨l2, k2, r2, q2, rfl, hok, hb, hg1, hg2⟩
            have OK2 : Hid (LsOk v21 y l2 r2) := hok
            have A25 : Hid (AP l2 r2 y s5) := ap_ge hg1 hg2 Z5.out.lt
            have A26 : Hid (AP l2 r2 y s6) := ap_ge hg1 hg2 Z6.out.lt
            have HBv21 : Hid (Below w0.heap.size w0 v21) := HBv20.out.trans (hb.mono HBv20.out.size)
            have Z5 : Hid (ZF w0 s5 v21) := Z5.out.bel hb
            have Z6 : Hid (ZF w0 s6 v21) := Z6.out.bel hb
            have OK1 : Hid (LsOk v21 x l1 r1) := OK1.out.bel hb
            clear hok hb hg1 hg2
            go_wp2_with fail
            refine hK.out _ _ HBv21.out (fun hHeld => ?_)
            clear hK K
            try simp only [Act.put, List.setIfInBounds_toArray, List.set_cons_zero, List.set_cons_succ]
            refine wpAnyH_ready (rs := [6]) (by kernel_rfl) (by simp) ?_
            refine AllReadyH.cons rfl (fun K hK => ?_) AllReadyH.nil
            obtain ⟨⟨z0, z1, z2, z3, z4, z5, z6, z7, z8, z9, z10⟩, zf, -, -⟩ := Z5.out
            go_simp
            obtain ⟨u220, hu220⟩ : ∃ u220, S11 v21 s5 x (.slice l1 n1 k1) (.slice r1 n2 q1) = u220 := ⟨_, rfl⟩
            have f1 := s11 Z5.out HBv21.out hu220
            have Z6 : Hid (ZF w0 s6 u220) := Z6.out.block (f1.2.2.2 s6 (fun e => NE.out e.symm)) (by rw [f1.2.2.1]; exact Nat.le_refl _)
            have OK1 : Hid (LsOk u220 x l1 r1) := OK1.out.other A15.out f1.2.2.2 f1.2.2.1
            have OK2 : Hid (LsOk u220 y l2 r2) := OK2.out.other A25.out f1.2.2.2 f1.2.2.1
            have BX5 : Hid (LBX s5 x (.slice l1 n1 k1) (.slice r1 n2 q1) u220) := f1.1
            have HBu220 : Hid (Below w0.heap.size w0 u220) := f1.2.1
            refine hK.out _ (S11 v21 s5 x (.slice l1 n1 k1) (.slice r1 n2 q1)) (by rw [hu220]; exact HBu220.out) (fun hHeld => ?_)
            clear hK K
            rw [hu220] at hHeld ⊢
            clear hu220 f1 z0 z1 z2 z3 z4 z5 z6 z7 z8 z9 z10 zf
            try simp only [Act.put, List.setIfInBounds_toArray, List.set_cons_zero, List.set_cons_succ]
            refine wpAnyH_ready (rs := [7]) (by kernel_rfl) (by simp) ?_
            refine AllReadyH.cons rfl (fun K hK => ?_) AllReadyH.nil
            obtain ⟨⟨z0, z1, z2, z3, z4, z5, z6, z7, z8, z9, z10⟩, zf, -, -⟩ := Z6.out
            go_simp
            obtain ⟨u221, hu221⟩ : ∃ u221, S11 u220 s6 y (.slice l2 m1 k2) (.slice r2 m2 q2) = u221 := ⟨_, rfl⟩
            have f1 := s11 Z6.out HBu220.out hu221
            have OK1 : Hid (LsOk u221 x l1 r1) := OK1.out.other A16.out f1.2.2.2 f1.2.2.1
            have OK2 : Hid (LsOk u221 y l2 r2) := OK2.out.other A26.out f1.2.2.2 f1.2.2.1
            have BX5 : Hid (LBX s5 x (.slice l1 n1 k1) (.slice r1 n2 q1) u221) := BX5.out.block (f1.2.2.2 s5 NE.out)
            have BX6 : Hid (LBX s6 y (.slice l2 m1 k2) (.slice r2 m2 q2) u221) := f1.1
            have HBu221 : Hid (Below w0.heap.size w0 u221) := f1.2.1
            refine hK.out _ (S11 u220 s6 y (.slice l2 m1 k2) (.slice r2 m2 q2)) (by rw [hu221]; exact HBu221.out) (fun hHeld => ?_)
            clear hK K
            rw [hu221] at hHeld ⊢
            clear hu221 f1 z0 z1 z2 z3 z4 z5 z6 z7 z8 z9 z10 zf
            try simp only [Act.put, List.setIfInBounds_toArray, List.set_cons_zero, List.set_cons_succ]
            refine wpAnyH_done (by kernel_rfl) ?_ _
            go_wp2_with fail
            go_meet
            exact ⟨s5, s6, l1, k1, r1, q1, l2, k2, r2, q2, rfl, rfl, BX5.out, BX6.out, OK1.out, OK2.out, HBu221.out⟩
    · go_simp
      obtain ⟨v23, hv23⟩ : ∃ v23, wD.alloc (Obj.cells #[.int .i64 0, .int .i64 0, .int .i64 0, .int .u32 0, .int .i64 0, .int .i64 0, .int .i64 0, .slice none 0 0, .slice none 0 0, .int .i64 0, .int .i64 0] 28) = v23 := ⟨_, rfl⟩
      have hb : Below wD.heap.size wD v23 := by rw [← hv23]; exact (Below.refl _ wD).alloc (Nat.le_refl _) _
      obtain ⟨s5, hs⟩ : ∃ s5, wD.heap.size = s5 := ⟨_, rfl⟩
      have Z5 : Hid (ZF w0 s5 v23) := zf_new hv23 hs HBwD.out.size
      have HBv23 : Hid (Below w0.heap.size w0 v23) := HBwD.out.trans (hb.mono HBwD.out.size)
      rw [hv23, hs]
      clear hv23 hs hb
      refine hK.out _ _ HBv23.out (fun hHeld => ?_)
      clear hK K
      try simp only [Act.put, List.setIfInBounds_toArray, List.set_cons_zero, List.set_cons_succ]
      refine wpAnyH_ready (rs := [1, 5]) (by kernel_rfl) (by simp) ?_
      refine AllReadyH.cons rfl (fun K hK => ?_) (AllReadyH.cons rfl (fun K hK => ?_) AllReadyH.nil)
      · go_simp
        refine (HCX.out v23 (HB0.out.trans (HBv23.out.mono HB0.out.size))).mono ?_
        rintro e v24 ⟨l1, k1, r1, q1, rfl, hok, hb, hg1, hg2⟩
        have OK1 : Hid (LsOk v24 x l1 r1) := hok
        have A15 : Hid (AP l1 r1 x s5) := ap_ge hg1 hg2 Z5.out.lt
        have HBv24 : Hid (Below w0.heap.size w0 v24) := HBv23.out.trans (hb.mono HBv23.out.size)
        have Z5 : Hid (ZF w0 s5 v24) := Z5.out.bel hb
        clear hok hb hg1 hg2
        go_wp2_with fail
        refine hK.out _ _ HBv24.out (fun hHeld => ?_)
        clear hK K
        try simp only [Act.put, List.setIfInBounds_toArray, List.set_cons_zero, List.set_cons_succ]
        refine wpAnyH_ready (rs := [3, 5]) (by kernel_rfl) (by simp) ?_
        refine AllReadyH.cons rfl (fun K hK => ?_) (AllReadyH.cons rfl (fun K hK => ?_) AllReadyH.nil)
        · go_simp
          refine (HCY.out v24 (HB0.out.trans (HBv24.out.mono HB0.out.size))).mono ?_
          rintro e v25 ⟨l2, k2, r2, q2, rfl, hok, hb, hg1, hg2⟩
          have OK2 : Hid (LsOk v25 y l2 r2) := hok
          have A25 : Hid (AP l2 r2 y s5) := ap_ge hg1 hg2 Z5.out.lt
          have HBv25 : Hid (Below w0.heap.size w0 v25) := HBv24.out.trans (hb.mono HBv24.out.size)
          have Z5 : Hid (ZF w0 s5 v25) := Z5.out.bel hb
          have OK1 : Hid (LsOk v25 x l1 r1) := OK1.out.bel hb
          clear hok hb hg1 hg2
          go_wp2_with fail
          refine hK.out _ _ HBv25.out (fun hHeld => ?_)
          clear hK K
          try simp only [Act.put, List.setIfInBounds_toArray, List.set_cons_zero, List.set_cons_succ]
          refine wpAnyH_ready (rs := [5]) (by kernel_rfl) (by simp) ?_
          refine AllReadyH.cons rfl (fun K hK => ?_) AllReadyH.nil
          · go_simp
            obtain ⟨v26, hv26⟩ : ∃ v26, v25.alloc (Obj.cells #[.int .i64 0, .int .i64 0, .int .i64 0, .int .u32 0, .int .i64 0, .int .i64 0, .int .i64 0, .slice none 0 0, .slice none 0 0, .int .i64 0, .int .i64 0] 28) = v26 := ⟨_, rfl⟩
            have hb : Below v25.heap.size v25 v26 := by rw [← hv26]; exact (Below.refl _ v25).alloc (Nat.le_refl _) _
            obtain ⟨s6, hs⟩ : ∃ s6, v25.heap.size = s6 := ⟨_, rfl⟩
            have Z6 : Hid (ZF w0 s6 v26) := zf_new hv26 hs HBv25.out.size
            have NE : Hid (s5 ≠ s6) := by have := Z5.out.lt; show _ ≠ _; omega
            have A16 : Hid (AP l1 r1 x s6) := OK1.out.ap (by omega)
            have A26 : Hid (AP l2 r2 y s6) := OK2.out.ap (by omega)
            have HBv26 : Hid (Below w0.heap.size w0 v26) := HBv25.out.trans (hb.mono HBv25.out.size)
            have Z5 : Hid (ZF w0 s5 v26) := Z5.out.bel hb
            have OK1 : Hid (LsOk v26 x l1 r1) := OK1.out.bel hb
            have OK2 : Hid (LsOk v26 y l2 r2) := OK2.out.bel hb
            rw [hv26, hs]
            clear hv26 hs hb
            refine hK.out _ _ HBv26.out (fun hHeld => ?_)
            clear hK K
            try simp only [Act.put, List.setIfInBounds_toArray, List.set_cons_zero, List.set_cons_succ]
            refine wpAnyH_ready (rs := [6]) (by kernel_rfl) (by simp) ?_
            refine AllReadyH.cons rfl (fun K hK => ?_) AllReadyH.nil
            obtain ⟨⟨z0, z1, z2, z3, z4, z5, z6, z7, z8, z9, z10⟩, zf, -, -⟩ := Z5.out
            go_simp
            obtain ⟨u270, hu270⟩ : ∃ u270, S11 v26 s5 x (.slice l1 n1 k1) (.slice r1 n2 q1) = u270 := ⟨_, rfl⟩
            have f1 := s11 Z5.out HBv26.out hu270
            have Z6 : Hid (ZF w0 s6 u270) := Z6.out.block (f1.2.2.2 s6 (fun e => NE.out e.symm)) (by rw [f1.2.2.1]; exact Nat.le_refl _)
            have OK1 : Hid (LsOk u270 x l1 r1) := OK1.out.other A15.out f1.2.2.2 f1.2.2.1
            have OK2 : Hid (LsOk u270 y l2 r2) := OK2.out.other A25.out f1.2.2.2 f1.2.2.1
            have BX5 : Hid (LBX s5 x (.slice l1 n1 k1) (.slice r1 n2 q1) u270) := f1.1
            have HBu270 : Hid (Below w0.heap.size w0 u270) := f1.2.1
            refine hK.out _ (S11 v26 s5 x (.slice l1 n1 k1) (.slice r1 n2 q1)) (by rw [hu270]; exact HBu270.out) (fun hHeld => ?_)
            clear hK K
            rw [hu270] at hHeld ⊢
            clear hu270 f1 z0 z1 z2 z3 z4 z5 z6 z7 z8 z9 z10 zf
            try simp only [Act.put, List.setIfInBounds_toArray, List.set_cons_zero, List.set_cons_succ]
            refine wpAnyH_ready (rs := [7]) (by kernel_rfl) (by simp) ?_
            refine AllReadyH.cons rfl (fun K hK => ?_) AllReadyH.nil
            obtain ⟨⟨z0, z1, z2, z3, z4, z5, z6, z7, z8, z9, z10⟩, zf, -, -⟩ := Z6.out
            go_simp
            obtain ⟨u271, hu271⟩ : ∃ u271, S11 u270 s6 y (.slice l2 m1 k2) (.slice r2 m2 q2) = u271 := ⟨_, rfl⟩
            have f1 := s11 Z6.out HBu270.out hu271
            have OK1 : Hid (LsOk u271 x l1 r1) := OK1.out.other A16.out f1.2.2.2 f1.2.2.1
            have OK2 : Hid (LsOk u271 y l2 r2) := OK2.out.other A26.out f1.2.2.2 f1.2.2.1
            have BX5 : Hid (LBX s5 x (.slice l1 n1 k1) (.slice r1 n2 q1) u271) := BX5.out.block (f1.2.2.2 s5 NE.out)
            have BX6 : Hid (LBX s6 y (.slice l2 m1 k2) (.slice r2 m2 q2) u271) := f1.1
            have HBu271 : Hid (Below w0.heap.size w0 u271) := f1.2.1
            refine hK.out _ (S11 u270 s6 y (.slice l2 m1 k2) (.slice r2 m2 q2)) (by rw [hu271]; exact HBu271.out) (fun hHeld => ?_)
            clear hK K
            rw [hu271] at hHeld ⊢
            clear hu271 f1 z0 z1 z2 z3 z4 z5 z6 z7 z8 z9 z10 zf
            try simp only [Act.put, List.setIfInBounds_toArray, List.set_cons_zero, List.set_cons_succ]
            refine wpAnyH_done (by kernel_rfl) ?_ _
            go_wp2_with fail
            go_meet
            exact ⟨s5, s6, l1, k1, r1, q1, l2, k2, r2, q2, rfl, rfl, BX5.out, BX6.out, OK1.out, OK2.out, HBu271.out⟩
        · go_simp
          obtain ⟨v28, hv28⟩ : ∃ v28, v24.alloc (Obj.cells #[.int .i64 0, .int .i64 0, .int .i64 0, .int .u32 0, .int .i64 0, .int .i64 0, .int .i64 0, .slice none 0 0, .slice none 0 0, .int .i64 0, .int .i64 0] 28) = v28 := ⟨_, rfl⟩
          have hb : Below v24.heap.size v24 v28 := by rw [← hv28]; exact (Below.refl _ v24).alloc (Nat.le_refl _) _
          obtain ⟨s6, hs⟩ : ∃ s6, v24.heap.size = s6 := ⟨_, rfl⟩
          have Z6 : Hid (ZF w0 s6 v28) := zf_new hv28 hs HBv24.out.size
          have NE : Hid (s5 ≠ s6) := by have := Z5.out.lt; show _ ≠ _; omega
          have A16 : Hid (AP l1 r1 x s6) := OK1.out.ap (by omega)
          have HBv28 : Hid (Below w0.heap.size w0 v28) := HBv24.out.trans (hb.mono HBv24.out.size)
          have Z5 : Hid (ZF w0 s5 v28) := Z5.out.bel hb
          have OK1 : Hid (LsOk v28 x l1 r1) := OK1.out.bel hb
          rw [hv28, hs]
          clear hv28 hs hb
          refine hK.out _ _ HBv28.out (fun hHeld => ?_)
          clear hK K
          try simp only [Act.put, List.setIfInBounds_toArray, List.set_cons_zero, List.set_cons_succ]
          refine wpAnyH_ready (rs := [3]) (by kernel_rfl) (by simp) ?_
          refine AllReadyH.cons rfl (fun K hK => ?_) AllReadyH.nil
          · go_simp
            refine (HCY.out v28 (HB0.out.trans (HBv28.out.mono HB0.out.size))).mono ?_
            rintro e v29 ⟨l2, k2, r2, q2, rfl, hok, hb, hg1, hg2⟩
            have OK2 : Hid (LsOk v29 y l2 r2) := hok
            have A25 : Hid (AP l2 r2 y s5) := ap_ge hg1 hg2 Z5.out.lt
            have A26 : Hid (AP l2 r2 y s6) := ap_ge hg1 hg2 Z6.out.lt
            have HBv29 : Hid (Below w0.heap.size w0 v29) := HBv28.out.trans (hb.mono HBv28.out.size)
            have Z5 : Hid (ZF w0 s5 v29) := Z5.out.bel hb
            have Z6 : Hid (ZF w0 s6 v29) := Z6.out.bel hb
            have OK1 : Hid (LsOk v29 x l1 r1) := OK1.out.bel hb
            clear hok hb hg1 hg2
            go_wp2_with fail
            refine hK.out _ _ HBv29.out (fun hHeld => ?_)
            clear hK K
            try simp only [Act.put, List.setIfInBounds_toArray, List.set_cons_zero, List.set_cons_succ]
            refine wpAnyH_ready (rs := [6]) (by kernel_rfl) (by simp) ?_
            refine AllReadyH.cons rfl (fun K hK => ?_) AllReadyH.nil
            obtain ⟨⟨z0, z1, z2, z3, z4, z5, z6, z7, z8, z9, z10⟩, zf, -, -⟩ := Z5.out
            go_simp
            obtain ⟨u300, hu300⟩ : ∃ u300, S11 v29 s5 x (.slice l1 n1 k1) (.slice r1 n2 q1) = u300 := ⟨_, rfl⟩
            have f1 := s11 Z5.out HBv29.out hu300
            have Z6 : Hid (ZF w0 s6 u300) := Z6.out.block (f1.2.2.2 s6 (fun e => NE.out e.symm)) (by rw [f1.2.2.1]; exact Nat.le_refl _)
            have OK1 : Hid (LsOk u300 x l1 r1) := OK1.out.other A15.out f1.2.2.2 f1.2.2.1
            have OK2 : Hid (LsOk u300 y l2 r2) := OK2.out.other A25.out f1.2.2.2 f1.2.2.1
            have BX5 : Hid (LBX s5 x (.slice l1 n1 k1) (.slice r1 n2 q1) u300) := f1.1
            have HBu300 : Hid (Below w0.heap.size w0 u300) := f1.2.1
            refine hK.out _ (S11 v29 s5 x (.slice l1 n1 k1) (.slice r1 n2 q1)) (by rw [hu300]; exact HBu300.out) (fun hHeld => ?_)
            clear hK K
            rw [hu300] at hHeld ⊢
            clear hu300 f1 z0 z1 z2 z3 z4 z5 z6 z7 z8 z9 z10 zf
            try simp only [Act.put, List.setIfInBounds_toArray, List.set_cons_zero, List.set_cons_succ]
            refine wpAnyH_ready (rs := [7]) (by kernel_rfl) (by simp) ?_
            refine AllReadyH.cons rfl (fun K hK => ?_) AllReadyH.nil
            obtain ⟨⟨z0, z1, z2, z3, z4, z5, z6, z7, z8, z9, z10⟩, zf, -, -⟩ := Z6.out
            go_simp
            obtain ⟨u301, hu301⟩ : ∃ u301, S11 u300 s6 y (.slice l2 m1 k2) (.slice r2 m2 q2) = u301 := ⟨_, rfl⟩
            have f1 := s11 Z6.out HBu300.out hu301
            have OK1 : Hid (LsOk u301 x l1 r1) := OK1.out.other A16.out f1.2.2.2 f1.2.2.1
            have OK2 : Hid (LsOk u301 y l2 r2) := OK2.out.other A26.out f1.2.2.2 f1.2.2.1
            have BX5 : Hid (LBX s5 x (.slice l1 n1 k1) (.slice r1 n2 q1) u301) := BX5.out.block (f1.2.2.2 s5 NE.out)
            have BX6 : Hid (LBX s6 y (.slice l2 m1 k2) (.slice r2 m2 q2) u301) := f1.1
            have HBu301 : Hid (Below w0.heap.size w0 u301) := f1.2.1
            refine hK.out _ (S11 u300 s6 y (.slice l2 m1 k2) (.slice r2 m2 q2)) (by rw [hu301]; exact HBu301.out) (fun hHeld => ?_)
            clear hK K
            rw [hu301] at hHeld ⊢
            clear hu301 f1 z0 z1 z2 z3 z4 z5 z6 z7 z8 z9 z10 zf
            try simp only [Act.put, List.setIfInBounds_toArray, List.set_cons_zero, List.set_cons_succ]
            refine wpAnyH_done (by kernel_rfl) ?_ _
            go_wp2_with fail
            go_meet
            exact ⟨s5, s6, l1, k1, r1, q1, l2, k2, r2, q2, rfl, rfl, BX5.out, BX6.out, OK1.out, OK2.out, HBu301.out⟩
      · go_simp
        obtain ⟨v31, hv31⟩ : ∃ v31, v23.alloc (Obj.cells #[.int .i64 0, .int .i64 0, .int .i64 0, .int .u32 0, .int .i64 0, .int .i64 0, .int .i64 0, .slice none 0 0, .slice none 0 0, .int .i64 0, .int .i64 0] 28) = v31 := ⟨_, rfl⟩
        have hb : Below v23.heap.size v23 v31 := by rw [← hv31]; exact (Below.refl _ v23).alloc (Nat.le_refl _) _
        obtain ⟨s6, hs⟩ : ∃ s6, v23.heap.size = s6 := ⟨_, rfl⟩
        have Z6 : Hid (ZF w0 s6 v31) := zf_new hv31 hs HBv23.out.size
        have NE : Hid (s5 ≠ s6) := by have := Z5.out.lt; show _ ≠ _; omega
        have HBv31 : Hid (Below w0.heap.size w0 v31) := HBv23.out.trans (hb.mono HBv23.out.size)
        have Z5 : Hid (ZF w0 s5 v31) := Z5.out.bel hb
        rw [hv31, hs]
        clear hv31 hs hb
        refine hK.out _ _ HBv31.out (fun hHeld => ?_)
        clear hK K
        try simp only [Act.put, List.setIfInBounds_toArray, List.set_cons_zero, List.set_cons_succ]
        refine wpAnyH_ready (rs := [1]) (by kernel_rfl) (by simp) ?_
        refine AllReadyH.cons rfl (fun K hK => ?_) AllReadyH.nil
        · go_simp
          refine (HCX.out v31 (HB0.out.trans (HBv31.out.mono HB0.out.size))).mono ?_
          rintro e v32 ⟨l1, k1, r1, q1, rfl, hok, hb, hg1, hg2⟩
          have OK1 : Hid (LsOk v32 x l1 r1) := hok
          have A15 : Hid (AP l1 r1 x s5) := ap_ge hg1 hg2 Z5.out.lt
          have A16 : Hid (AP l1 r1 x s6) := ap_ge hg1 hg2 Z6.out.lt
          have HBv32 : Hid (Below w0.heap.size w0 v32) := HBv31.out.trans (hb.mono HBv31.out.size)
          have Z5 : Hid (ZF w0 s5 v32) := Z5.out.bel hb
          have Z6 : Hid (ZF w0 s6 v32) := Z6.out.bel hb
          clear hok hb hg1 hg2
          go_wp2_with fail
          refine hK.out _ _ HBv32.out (fun hHeld => ?_)
          clear hK K
          try simp only [Act.put, List.setIfInBounds_toArray, List.set_cons_zero, List.set_cons_succ]
          refine wpAnyH_ready (rs := [3]) (by kernel_rfl) (by simp) ?_
          refine AllReadyH.cons rfl (fun K hK => ?_) AllReadyH.nil
          · go_simp
            refine (HCY.out v32 (HB0.out.trans (HBv32.out.mono HB0.out.size))).mono ?_
            rintro e v33 ⟨l2, k2, r2, q2, rfl, hok, hb, hg1, hg2⟩
            have OK2 : Hid (LsOk v33 y l2 r2) := hok
            have A25 : Hid (AP l2 r2 y s5) := ap_ge hg1 hg2 Z5.out.lt
            have A26 : Hid (AP l2 r2 y s6) := ap_ge hg1 hg2 Z6.out.lt
            have HBv33 : Hid (Below w0.heap.size w0 v33) := HBv32.out.trans (hb.mono HBv32.out.size)
            have Z5 : Hid (ZF w0 s5 v33) := Z5.out.bel hb
            have Z6 : Hid (ZF w0 s6 v33) := Z6.out.bel hb
            have OK1 : Hid (LsOk v33 x l1 r1) := OK1.out.bel hb
            clear hok hb hg1 hg2
            go_wp2_with fail
            refine hK.out _ _ HBv33.out (fun hHeld => ?_)
            clear hK K
            try simp only [Act.put, List.setIfInBounds_toArray, List.set_cons_zero, List.set_cons_succ]
            refine wpAnyH_ready (rs := [6]) (by kernel_rfl) (by simp) ?_
            refine AllReadyH.cons rfl (fun K hK => ?_) AllReadyH.nil
            obtain ⟨⟨z0, z1, z2, z3, z4, z5, z6, z7, z8, z9, z10⟩, zf, -, -⟩ := Z5.out
            go_simp
            obtain ⟨u340, hu340⟩ : ∃ u340, S11 v33 s5 x (.slice l1 n1 k1) (.slice r1 n2 q1) = u340 := ⟨_, rfl⟩
            have f1 := s11 Z5.out HBv33.out hu340
            have Z6 : Hid (ZF w0 s6 u340) := Z6.out.block (f1.2.2.2 s6 (fun e => NE.out e.symm)) (by rw [f1.2.2.1]; exact Nat.le_refl _)
            have OK1 : Hid (LsOk u340 x l1 r1) := OK1.out.other A15.out f1.2.2.2 f1.2.2.1
            have OK2 : Hid (LsOk u340 y l2 r2) := OK2.out.other A25.out f1.2.2.2 f1.2.2.1
            have BX5 : Hid (LBX s5 x (.slice l1 n1 k1) (.slice r1 n2 q1) u340) := f1.1
            have HBu340 : Hid (Below w0.heap.size w0 u340) := f1.2.1
            refine hK.out _ (S11 v33 s5 x (.slice l1 n1 k1) (.slice r1 n2 q1)) (by rw [hu340]; exact HBu340.out) (fun hHeld => ?_)
            clear hK K
            rw [hu340] at hHeld ⊢
            clear hu340 f1 z0 z1 z2 z3 z4 z5 z6 z7 z8 z9 z10 zf
            try simp only [Act.put, List.setIfInBounds_toArray, List.set_cons_zero, List.set_cons_succ]
            refine wpAnyH_ready (rs := [7]) (by kernel_rfl) (by simp) ?_
            refine AllReadyH.cons rfl (fun K hK => ?_) AllReadyH.nil
            obtain ⟨⟨z0, z1, z2, z3, z4, z5, z6, z7, z8, z9, z10⟩, zf, -, -⟩ := Z6.out
            go_simp
            obtain ⟨u341, hu341⟩ : ∃ u341, S11 u340 s6 y (.slice l2 m1 k2) (.slice r2 m2 q2) = u341 := ⟨_, rfl⟩
            have f1 := s11 Z6.out HBu340.out hu341
            have OK1 : Hid (LsOk u341 x l1 r1) := OK1.out.other A16.out f1.2.2.2 f1.2.2.1
            have OK2 : Hid (LsOk u341 y l2 r2) := OK2.out.other A26.out f1.2.2.2 f1.2.2.1
            have BX5 : Hid (LBX s5 x (.slice l1 n1 k1) (.slice r1 n2 q1) u341) := BX5.out.block (f1.2.2.2 s5 NE.out)
            have BX6 : Hid (LBX s6 y (.slice l2 m1 k2) (.slice r2 m2 q2) u341) := f1.1
            have HBu341 : Hid (Below w0.heap.size w0 u341) := f1.2.1
            refine hK.out _ (S11 u340 s6 y (.slice l2 m1 k2) (.slice r2 m2 q2)) (by rw [hu341]; exact HBu341.out) (fun hHeld => ?_)
            clear hK K
            rw [hu341] at hHeld ⊢
            clear hu341 f1 z0 z1 z2 z3 z4 z5 z6 z7 z8 z9 z10 zf
            try simp only [Act.put, List.setIfInBounds_toArray, List.set_cons_zero, List.set_cons_succ]
            refine wpAnyH_done (by kernel_rfl) ?_ _
            go_wp2_with fail
            go_meet
            exact ⟨s5, s6, l1, k1, r1, q1, l2, k2, r2, q2, rfl, rfl, BX5.out, BX6.out, OK1.out, OK2.out, HBu341.out⟩
    · go_simp
      obtain ⟨v35, hv35⟩ : ∃ v35, wD.alloc (Obj.cells #[.int .i64 0, .int .i64 0, .int .i64 0, .int .u32 0, .int .i64 0, .int .i64 0, .int .i64 0, .slice none 0 0, .slice none 0 0, .int .i64 0, .int .i64 0] 28) = v35 := ⟨_, rfl⟩
      have hb : Below wD.heap.size wD v35 := by rw [← hv35]; exact (Below.refl _ wD).alloc (Nat.le_refl _) _
      obtain ⟨s6, hs⟩ : ∃ s6, wD.heap.size = s6 := ⟨_, rfl⟩
      have Z6 : Hid (ZF w0 s6 v35) := zf_new hv35 hs HBwD.out.size
      have HBv35 : Hid (Below w0.heap.size w0 v35) := HBwD.out.trans (hb.mono HBwD.out.size)
      rw [hv35, hs]
      clear hv35 hs hb
      refine hK.out _ _ HBv35.out (fun hHeld => ?_)
      clear hK K
      try simp only [Act.put, List.setIfInBounds_toArray, List.set_cons_zero, List.set_cons_succ]
      refine wpAnyH_ready (rs := [1, 4]) (by kernel_rfl) (by simp) ?_
      refine AllReadyH.cons rfl (fun K hK => ?_) (AllReadyH.cons rfl (fun K hK => ?_) AllReadyH.nil)
      · go_simp
        refine (HCX.out v35 (HB0.out.trans (HBv35.out.mono HB0.out.size))).mono ?_
        rintro e v36 ⟨l1, k1, r1, q1, rfl, hok, hb, hg1, hg2⟩
        have OK1 : Hid (LsOk v36 x l1 r1) := hok
        have A16 : Hid (AP l1 r1 x s6) := ap_ge hg1 hg2 Z6.out.lt
        have HBv36 : Hid (Below w0.heap.size w0 v36) := HBv35.out.trans (hb.mono HBv35.out.size)
        have Z6 : Hid (ZF w0 s6 v36) := Z6.out.bel hb
        clear hok hb hg1 hg2
        go_wp2_with fail
        refine hK.out _ _ HBv36.out (fun hHeld => ?_)
        clear hK K
        try simp only [Act.put, List.setIfInBounds_toArray, List.set_cons_zero, List.set_cons_succ]
        refine wpAnyH_ready (rs := [3, 4]) (by kernel_rfl) (by simp) ?_
        refine AllReadyH.cons rfl (fun K hK => ?_) (AllReadyH.cons rfl (fun K hK => ?_) AllReadyH.nil)
        · go_simp
          refine (HCY.out v36 (HB0.out.trans (HBv36.out.mono HB0.out.size))).mono ?_
          rintro e v37 ⟨l2, k2, r2, q2, rfl, hok, hb, hg1, hg2⟩
          have OK2 : Hid (LsOk v37 y l2 r2) := hok
          have A26 : Hid (AP l2 r2 y s6) := ap_ge hg1 hg2 Z6.out.lt
          have HBv37 : Hid (Below w0.heap.size w0 v37) := HBv36.out.trans (hb.mono HBv36.out.size)
          have Z6 : Hid (ZF w0 s6 v37) := Z6.out.bel hb
          have OK1 : Hid (LsOk v37 x l1 r1) := OK1.out.bel hb
          clear hok hb hg1 hg2
          go_wp2_with fail
          refine hK.out _ _ HBv37.out (fun hHeld => ?_)
          clear hK K
          try simp only [Act.put, List.setIfInBounds_toArray, List.set_cons_zero, List.set_cons_succ]
          refine wpAnyH_ready (rs := [4]) (by kernel_rfl) (by simp) ?_
          refine AllReadyH.cons rfl (fun K hK => ?_) AllReadyH.nil
          · go_simp
            obtain ⟨v38, hv38⟩ : ∃ v38, v37.alloc (Obj.cells #[.int .i64 0, .int .i64 0, .int .i64 0, .int .u32 0, .int .i64 0, .int .i64 0, .int .i64 0, .slice none 0 0, .slice none 0 0, .int .i64 0, .int .i64 0] 28) = v38 := ⟨_, rfl⟩
            have hb : Below v37.heap.size v37 v38 := by rw [← hv38]; exact (Below.refl _ v37).alloc (Nat.le_refl _) _
            obtain ⟨s5, hs⟩ : ∃ s5, v37.heap.size = s5 := ⟨_, rfl⟩
            have Z5 : Hid (ZF w0 s5 v38) := zf_new hv38 hs HBv37.out.size
            have NE : Hid (s5 ≠ s6) := by have := Z6.out.lt; show _ ≠ _; omega
            have A15 : Hid (AP l1 r1 x s5) := OK1.out.ap (by omega)
            have A25 : Hid (AP l2 r2 y s5) := OK2.out.ap (by omega)
            have HBv38 : Hid (Below w0.heap.size w0 v38) := HBv37.out.trans (hb.mono HBv37.out.size)
            have Z6 : Hid (ZF w0 s6 v38) := Z6.out.bel hb
            have OK1 : Hid (LsOk v38 x l1 r1) := OK1.out.bel hb
            have OK2 : Hid (LsOk v38 y l2 r2) := OK2.out.bel hb
            rw [hv38, hs]
            clear hv38 hs hb
            refine hK.out _ _ HBv38.out (fun hHeld => ?_)
            clear hK K
            try simp only [Act.put, List.setIfInBounds_toArray, List.set_cons_zero, List.set_cons_succ]
            refine wpAnyH_ready (rs := [6]) (by kernel_rfl) (by simp) ?_
            refine AllReadyH.cons rfl (fun K hK => ?_) AllReadyH.nil
            obtain ⟨⟨z0, z1, z2, z3, z4, z5, z6, z7, z8, z9, z10⟩, zf, -, -⟩ := Z5.out
            go_simp
            obtain ⟨u390, hu390⟩ : ∃ u390, S11 v38 s5 x (.slice l1 n1 k1) (.slice r1 n2 q1) = u390 := ⟨_, rfl⟩
            have f1 := s11 Z5.out HBv38.out hu390
            have Z6 : Hid (ZF w0 s6 u390) := Z6.out.block (f1.2.2.2 s6 (fun e => NE.out e.symm)) (by rw [f1.2.2.1]; exact Nat.le_refl _)
            have OK1 : Hid (LsOk u390 x l1 r1) := OK1.out.other A15.out f1.2.2.2 f1.2.2.1
            have OK2 : Hid (LsOk u390 y l2 r2) := OK2.out.other A25.out f1.2.2.2 f1.2.2.1
            have BX5 : Hid (LBX s5 x (.slice l1 n1 k1) (.slice r1 n2 q1) u390) := f1.1
            have HBu390 : Hid (Below w0.heap.size w0 u390) := f1.2.1
            refine hK.out _ (S11 v38 s5 x (.slice l1 n1 k1) (.slice r1 n2 q1)) (by rw [hu390]; exact HBu390.out) (fun hHeld => ?_)
            clear hK K
            rw [hu390] at hHeld ⊢
            clear hu390 f1 z0 z1 z2 z3 z4 z5 z6 z7 z8 z9 z10 zf
            try simp only [Act.put, List.setIfInBounds_toArray, List.set_cons_zero, List.set_cons_succ]
            refine wpAnyH_ready (rs := [7]) (by kernel_rfl) (by simp) ?_
            refine AllReadyH.cons rfl (fun K hK => ?_) AllReadyH.nil
            obtain ⟨⟨z0, z1, z2, z3, z4, z5, z6, z7, z8, z9, z10⟩, zf, -, -⟩ := Z6.out
            go_simp
            obtain ⟨u391, hu391⟩ : ∃ u391, S11 u390 s6 y (.slice l2 m1 k2) (.slice r2 m2 q2) = u391 := ⟨_, rfl⟩
            have f1 := s11 Z6.out HBu390.out hu391
            have OK1 : Hid (LsOk u391 x l1 r1) := OK1.out.other A16.out f1.2.2.2 f1.2.2.1
            have OK2 : Hid (LsOk u391 y l2 r2) := OK2.out.other A26.out f1.2.2.2 f1.2.2.1
            have BX5 : Hid (LBX s5 x (.slice l1 n1 k1) (.slice r1 n2 q1) u391) := BX5.out.block (f1.2.2.2 s5 NE.out)
            have BX6 : Hid (LBX s6 y (.slice l2 m1 k2) (.slice r2 m2 q2) u391) := f1.1
            have HBu391 : Hid (Below w0.heap.size w0 u391) := f1.2.1
            refine hK.out _ (S11 u390 s6 y (.slice l2 m1 k2) (.slice r2 m2 q2)) (by rw [hu391]; exact HBu391.out) (fun hHeld => ?_)
            clear hK K
            rw [hu391] at hHeld ⊢
            clear hu391 f1 z0 z1 z2 z3 z4 z5 z6 z7 z8 z9 z10 zf
            try simp only [Act.put, List.setIfInBounds_toArray, List.set_cons_zero, List.set_cons_succ]
            refine wpAnyH_done (by kernel_rfl) ?_ _
            go_wp2_with fail
            go_meet
            exact ⟨s5, s6, l1, k1, r1, q1, l2, k2, r2, q2, rfl, rfl, BX5.out, BX6.out, OK1.out, OK2.out, HBu391.out⟩
        · go_simp
          obtain ⟨v40, hv40⟩ : ∃ v40, v36.alloc (Obj.cells #[.int .i64 0, .int .i64 0, .int .i64 0, .int .u32 0, .int .i64 0, .int .i64 0, .int .i64 0, .slice none 0 0, .slice none 0 0, .int .i64 0, .int .i64 0] 28) = v40 := ⟨_, rfl⟩
          have hb : Below v36.heap.size v36 v40 := by rw [← hv40]; exact (Below.refl _ v36).alloc (Nat.le_refl _) _
          obtain ⟨s5, hs⟩ : ∃ s5, v36.heap.size = s5 := ⟨_, rfl⟩
          have Z5 : Hid (ZF w0 s5 v40) := zf_new hv40 hs HBv36.out.size
          have NE : Hid (s5 ≠ s6) := by have := Z6.out.lt; show _ ≠ _; omega
          have A15 : Hid (AP l1 r1 x s5) := OK1.out.ap (by omega)
          have HBv40 : Hid (Below w0.heap.size w0 v40) := HBv36.out.trans (hb.mono HBv36.out.size)
          have Z6 : Hid (ZF w0 s6 v40) := Z6.out.bel hb
          have OK1 : Hid (LsOk v40 x l1 r1) := OK1.out.bel hb
          rw [hv40, hs]
          clear hv40 hs hb
          refine hK.out _ _ HBv40.out (fun hHeld => ?_)
          clear hK K
          try simp only [Act.put, List.setIfInBounds_toArray, List.set_cons_zero, List.set_cons_succ]
          refine wpAnyH_ready (rs := [3]) (by kernel_rfl) (by simp) ?_
          refine AllReadyH.cons rfl (fun K hK => ?_) AllReadyH.nil
          · go_simp
            refine (HCY.out v40 (HB0.out.trans (HBv40.out.mono HB0.out.size))).mono ?_
            rintro e v41 ⟨l2, k2, r2, q2, rfl, hok, hb, hg1, hg2⟩
            have OK2 : Hid (LsOk v41 y l2 r2) := hok
            have A25 : Hid (AP l2 r2 y s5) := ap_ge hg1 hg2 Z5.out.lt
            have A26 : Hid (AP l2 r2 y s6) := ap_ge hg1 hg2 Z6.out.lt
            have HBv41 : Hid (Below w0.heap.size w0 v41) := HBv40.out.trans (hb.mono HBv40.out.size)
            have Z5 : Hid (ZF w0 s5 v41) := Z5.out.bel hb
            have Z6 : Hid (ZF w0 s6 v41) := Z6.out.bel hb
            have OK1 : Hid (LsOk v41 x l1 r1) := OK1.out.bel hb
            clear hok hb hg1 hg2
            go_wp2_with fail
            refine hK.out _ _ HBv41.out (fun hHeld => ?_)
            clear hK K
            try simp only [Act.put, List.setIfInBounds_toArray, List.set_cons_zero, List.set_cons_succ]
            refine wpAnyH_ready (rs := [6]) (by kernel_rfl) (by simp) ?_
            refine AllReadyH.cons rfl (fun K hK => ?_) AllReadyH.nil
            obtain ⟨⟨z0, z1, z2, z3, z4, z5, z6, z7, z8, z9, z10⟩, zf, -, -⟩ := Z5.out
            go_simp
            obtain ⟨u420, hu420⟩ : ∃ u420, S11 v41 s5 x (.slice l1 n1 k1) (.slice r1 n2 q1) = u420 := ⟨_, rfl⟩
            have f1 := s11 Z5.out HBv41.out hu420
            have Z6 : Hid (ZF w0 s6 u420) := Z6.out.block (f1.2.2.2 s6 (fun e => NE.out e.symm)) (by rw [f1.2.2.1]; exact Nat.le_refl _)
            have OK1 : Hid (LsOk u420 x l1 r1) := OK1.out.other A15.out f1.2.2.2 f1.2.2.1
            have OK2 : Hid (LsOk u420 y l2 r2) := OK2.out.other A25.out f1.2.2.2 f1.2.2.1
            have BX5 : Hid (LBX s5 x (.slice l1 n1 k1) (.slice r1 n2 q1) u420) := f1.1
            have HBu420 : Hid (Below w0.heap.size w0 u420) := f1.2.1
            refine hK.out _ (S11 v41 s5 x (.slice l1 n1 k1) (.slice r1 n2 q1)) (by rw [hu420]; exact HBu420.out) (fun hHeld => ?_)
            clear hK K
            rw [hu420] at hHeld ⊢
            clear hu420 f1 z0 z1 z2 z3 z4 z5 z6 z7 z8 z9 z10 zf
            try simp only [Act.put, List.setIfInBounds_toArray, List.set_cons_zero, List.set_cons_succ]
            refine wpAnyH_ready (rs := [7]) (by kernel_rfl) (by simp) ?_
            refine AllReadyH.cons rfl (fun K hK => ?_) AllReadyH.nil
            obtain ⟨⟨z0, z1, z2, z3, z4, z5, z6, z7, z8, z9, z10⟩, zf, -, -⟩ := Z6.out
            go_simp
            obtain ⟨u421, hu421⟩ : ∃ u421, S11 u420 s6 y (.slice l2 m1 k2) (.slice r2 m2 q2) = u421 := ⟨_, rfl⟩
            have f1 := s11 Z6.out HBu420.out hu421
            have OK1 : Hid (LsOk u421 x l1 r1) := OK1.out.other A16.out f1.2.2.2 f1.2.2.1
            have OK2 : Hid (LsOk u421 y l2 r2) := OK2.out.other A26.out f1.2.2.2 f1.2.2.1
            have BX5 : Hid (LBX s5 x (.slice l1 n1 k1) (.slice r1 n2 q1) u421) := BX5.out.block (f1.2.2.2 s5 NE.out)
            have BX6 : Hid (LBX s6 y (.slice l2 m1 k2) (.slice r2 m2 q2) u421) := f1.1
            have HBu421 : Hid (Below w0.heap.size w0 u421) := f1.2.1
            refine hK.out _ (S11 u420 s6 y (.slice l2 m1 k2) (.slice r2 m2 q2)) (by rw [hu421]; exact HBu421.out) (fun hHeld => ?_)
            clear hK K
            rw [hu421] at hHeld ⊢
            clear hu421 f1 z0 z1 z2 z3 z4 z5 z6 z7 z8 z9 z10 zf
            try simp only [Act.put, List.setIfInBounds_toArray, List.set_cons_zero, List.set_cons_succ]
            refine wpAnyH_done (by kernel_rfl) ?_ _
            go_wp2_with fail
            go_meet
            exact ⟨s5, s6, l1, k1, r1, q1, l2, k2, r2, q2, rfl, rfl, BX5.out, BX6.out, OK1.out, OK2.out, HBu421.out⟩
      · go_simp
        obtain ⟨v43, hv43⟩ : ∃ v43, v35.alloc (Obj.cells #[.int .i64 0, .int .i64 0, .int .i64 0, .int .u32 0, .int .i64 0, .int .i64 0, .int .i64 0, .slice none 0 0, .slice none 0 0, .int .i64 0, .int .i64 0] 28) = v43 := ⟨_, rfl⟩
        have hb : Below v35.heap.size v35 v43 := by rw [← hv43]; exact (Below.refl _ v35).alloc (Nat.le_refl _) _
        obtain ⟨s5, hs⟩ : ∃ s5, v35.heap.size = s5 := ⟨_, rfl⟩
        have Z5 : Hid (ZF w0 s5 v43) := zf_new hv43 hs HBv35.out.size
        have NE : Hid (s5 ≠ s6) := by have := Z6.out.lt; show _ ≠ _; omega
        have HBv43 : Hid (Below w0.heap.size w0 v43) := HBv35.out.trans (hb.mono HBv35.out.size)
        have Z6 : Hid (ZF w0 s6 v43) := Z6.out.bel hb
        rw [hv43, hs]
        clear hv43 hs hb
        refine hK.out _ _ HBv43.out (fun hHeld => ?_)
        clear hK K
        try simp only [Act.put, List.setIfInBounds_toArray, List.set_cons_zero, List.set_cons_succ]
        refine wpAnyH_ready (rs := [1]) (by kernel_rfl) (by simp) ?_
        refine AllReadyH.cons rfl (fun K hK => ?_) AllReadyH.nil
        · go_simp
          refine (HCX.out v43 (HB0.out.trans (HBv43.out.mono HB0.out.size))).mono ?_
          rintro e v44 ⟨l1, k1, r1, q1, rfl, hok, hb, hg1, hg2⟩
          have OK1 : Hid (LsOk v44 x l1 r1) := hok
          have A15 : Hid (AP l1 r1 x s5) := ap_ge hg1 hg2 Z5.out.lt
          have A16 : Hid (AP l1 r1 x s6) := ap_ge hg1 hg2 Z6.out.lt
          have HBv44 : Hid (Below w0.heap.size w0 v44) := HBv43.out.trans (hb.mono HBv43.out.size)
          have Z5 : Hid (ZF w0 s5 v44) := Z5.out.bel hb
          have Z6 : Hid (ZF w0 s6 v44) := Z6.out.bel hb
          clear hok hb hg1 hg2
          go_wp2_with fail
          refine hK.out _ _ HBv44.out (fun hHeld => ?_)
          clear hK K
          try simp only [Act.put, List.setIfInBounds_toArray, List.set_cons_zero, List.set_cons_succ]
          refine wpAnyH_ready (rs := [3]) (by kernel_rfl) (by simp) ?_
          refine AllReadyH.cons rfl (fun K hK => ?_) AllReadyH.nil
          · go_simp
            refine (HCY.out v44 (HB0.out.trans (HBv44.out.mono HB0.out.size))).mono ?_
            rintro e v45 ⟨l2, k2, r2, q2, rfl, hok, hb, hg1, hg2⟩
            have OK2 : Hid (LsOk v45 y l2 r2) := hok
            have A25 : Hid (AP l2 r2 y s5) := ap_ge hg1 hg2 Z5.out.lt
            have A26 : Hid (AP l2 r2 y s6) := ap_ge hg1 hg2 Z6.out.lt
            have HBv45 : Hid (Below w0.heap.size w0 v45) := HBv44.out.trans (hb.mono HBv44.out.size)
            have Z5 : Hid (ZF w0 s5 v45) := Z5.out.bel hb
            have Z6 : Hid (ZF w0 s6 v45) := Z6.out.bel hb
            have OK1 : Hid (LsOk v45 x l1 r1) := OK1.out.bel hb
            clear hok hb hg1 hg2
            go_wp2_with fail
            refine hK.out _ _ HBv45.out (fun hHeld => ?_)
            clear hK K
            try simp only [Act.put, List.setIfInBounds_toArray, List.set_cons_zero, List.set_cons_succ]
            refine wpAnyH_ready (rs := [6]) (by kernel_rfl) (by simp) ?_
            refine AllReadyH.cons rfl (fun K hK => ?_) AllReadyH.nil
            obtain ⟨⟨z0, z1, z2, z3, z4, z5, z6, z7, z8, z9, z10⟩, zf, -, -⟩ := Z5.out
            go_simp
            obtain ⟨u460, hu460⟩ : ∃ u460, S11 v45 s5 x (.slice l1 n1 k1) (.slice r1 n2 q1) = u460 := ⟨_, rfl⟩
            have f1 := s11 Z5.out HBv45.out hu460
            have Z6 : Hid (ZF w0 s6 u460) := Z6.out.block (f1.2.2.2 s6 (fun e => NE.out e.symm)) (by rw [f1.2.2.1]; exact Nat.le_refl _)
            have OK1 : Hid (LsOk u460 x l1 r1) := OK1.out.other A15.out f1.2.2.2 f1.2.2.1
            have OK2 : Hid (LsOk u460 y l2 r2) := OK2.out.other A25.out f1.2.2.2 f1.2.2.1
            have BX5 : Hid (LBX s5 x (.slice l1 n1 k1) (.slice r1 n2 q1) u460) := f1.1
            have HBu460 : Hid (Below w0.heap.size w0 u460) := f1.2.1
            refine hK.out _ (S11 v45 s5 x (.slice l1 n1 k1) (.slice r1 n2 q1)) (by rw [hu460]; exact HBu460.out) (fun hHeld => ?_)
            clear hK K
            rw [hu460] at hHeld ⊢
            clear hu460 f1 z0 z1 z2 z3 z4 z5 z6 z7 z8 z9 z10 zf
            try simp only [Act.put, List.setIfInBounds_toArray, List.set_cons_zero, List.set_cons_succ]
            refine wpAnyH_ready (rs := [7]) (by kernel_rfl) (by simp) ?_
            refine AllReadyH.cons rfl (fun K hK => ?_) AllReadyH.nil
            obtain ⟨⟨z0, z1, z2, z3, z4, z5, z6, z7, z8, z9, z10⟩, zf, -, -⟩ := Z6.out
            go_simp
            obtain ⟨u461, hu461⟩ : ∃ u461, S11 u460 s6 y (.slice l2 m1 k2) (.slice r2 m2 q2) = u461 := ⟨_, rfl⟩
            have f1 := s11 Z6.out HBu460.out hu461
            have OK1 : Hid (LsOk u461 x l1 r1) := OK1.out.other A16.out f1.2.2.2 f1.2.2.1
            have OK2 : Hid (LsOk u461 y l2 r2) := OK2.out.other A26.out f1.2.2.2 f1.2.2.1
            have BX5 : Hid (LBX s5 x (.slice l1 n1 k1) (.slice r1 n2 q1) u461) := BX5.out.block (f1.2.2.2 s5 NE.out)
            have BX6 : Hid (LBX s6 y (.slice l2 m1 k2) (.slice r2 m2 q2) u461) := f1.1
            have HBu461 : Hid (Below w0.heap.size w0 u461) := f1.2.1
            refine hK.out _ (S11 u460 s6 y (.slice l2 m1 k2) (.slice r2 m2 q2)) (by rw [hu461]; exact HBu461.out) (fun hHeld => ?_)
            clear hK K
            rw [hu461] at hHeld ⊢
            clear hu461 f1 z0 z1 z2 z3 z4 z5 z6 z7 z8 z9 z10 zf
            try simp only [Act.put, List.setIfInBounds_toArray, List.set_cons_zero, List.set_cons_succ]
            refine wpAnyH_done (by kernel_rfl) ?_ _
            go_wp2_with fail
            go_meet
            exact ⟨s5, s6, l1, k1, r1, q1, l2, k2, r2, q2, rfl, rfl, BX5.out, BX6.out, OK1.out, OK2.out, HBu461.out⟩
  case rest =>
    obtain ⟨s5, s6, l1, k1, r1, q1, l2, k2, r2, q2, rfl, rfl, hb5, hb6, hk1, hk2, hbc⟩ := hcut
    have HBC : Hid (Below w.heap.size w wc) := HB0.out.trans (hbc.mono HB0.out.size)
    have HK1 : Hid (LsOk wc x l1 r1) := hk1
    have HK2 : Hid (LsOk wc y l2 r2) := hk2
    have H5 : Hid (LBX s5 x (.slice l1 n1 k1) (.slice r1 n2 q1) wc) := hb5
    have H6 : Hid (LBX s6 y (.slice l2 m1 k2) (.slice r2 m2 q2) wc) := hb6
    have HX : Hid (LBX s x (.slice la n1 lc) (.slice sa n2 sc) wc) := HBX.out.bel hbc
    have HY : Hid (LBX (s + 1) y (.slice lb m1 ld) (.slice sb m2 sd) wc) := HBY.out.bel hbc
    have HC5 : Hid (∀ W, (∃ p : Regrown, W = Sort.grow (redrawn wc p.d) p.os) → LBX s5 x (.slice l1 n1 k1) (.slice r1 n2 q1) W) := fun W hW => H5.out.bel (regrown_low hW)
    have HC6 : Hid (∀ W, (∃ p : Regrown, W = Sort.grow (redrawn wc p.d) p.os) → LBX s6 y (.slice l2 m1 k2) (.slice r2 m2 q2) W) := fun W hW => H6.out.bel (regrown_low hW)
    have HCx : Hid (∀ W, (∃ p : Regrown, W = Sort.grow (redrawn wc p.d) p.os) → LBX s x (.slice la n1 lc) (.slice sa n2 sc) W) := fun W hW => HX.out.bel (regrown_low hW)
    have HCy : Hid (∀ W, (∃ p : Regrown, W = Sort.grow (redrawn wc p.d) p.os) → LBX (s + 1) y (.slice lb m1 ld) (.slice sb m2 sd) W) := fun W hW => HY.out.bel (regrown_low hW)
    have HW : Hid (∀ d os, Below w.heap.size w (Sort.grow (redrawn wc d) os)) := fun d os => HBC.out.trans ((below_regrown wc d os).mono HBC.out.size)
    have HL1 : Hid (∀ d os, LsOk (Sort.grow (redrawn wc d) os) x l1 r1) := fun d os => HK1.out.bel (below_regrown wc d os)
    have HL2 : Hid (∀ d os, LsOk (Sort.grow (redrawn wc d) os) y l2 r2) := fun d os => HK2.out.bel (below_regrown wc d os)
    clear hb5 hb6 hk1 hk2 hbc HCX HCY HBX HBY
    go_wp2_with fail
    refine wp_region_quiet_below (by kernel_rfl) (by kernel_rfl) ?_
    repeat (first
      | (go_big_quiet_want; refine quiet_box _ rfl rfl HC5.out ?_; simp only [Act.put, List.setIfInBounds_toArray, List.set_cons_zero, List.set_cons_succ]; go_big_quiet_on)
      | (go_big_quiet_want; refine quiet_box _ rfl rfl HC6.out ?_; simp only [Act.put, List.setIfInBounds_toArray, List.set_cons_zero, List.set_cons_succ]; go_big_quiet_on)
      | (go_big_quiet_want; refine quiet_box _ rfl rfl HCx.out ?_; simp only [Act.put, List.setIfInBounds_toArray, List.set_cons_zero, List.set_cons_succ]; go_big_quiet_on)
      | (go_big_quiet_want; refine quiet_box _ rfl rfl HCy.out ?_; simp only [Act.put, List.setIfInBounds_toArray, List.set_cons_zero, List.set_cons_succ]; go_big_quiet_on)
      | go_big_quiet_step (first
        | (go_at_call 9; exact Calls.regrown_of (HQ1.out _ l1 k1 r1 q1 (HL1.out _ _)))
        | (go_at_call 10; exact Calls.regrown_of (HQ2.out _ (HW.out _ _)))
        | (go_at_call 11; exact Calls.regrown_of (HQ3.out _ l1 k1 r1 q1 l2 k2 r2 q2))
        | (go_at_call 12; exact Calls.regrown_of (HQ4.out _))
        | (go_at_call 13; exact Calls.regrown_of (HQ5.out _ l1 k1 r1 q1 l2 k2 r2 q2 (HL1.out _ _) (HL2.out _ _)))
        | (go_at_call 14; exact Calls.regrown_of (HQ6.out _ (HW.out _ _)))))
    refine wpQuiet_nil ?_
    intro w8 hw8
    have hb8 := regrown_low hw8
    have HB8 : Hid (Below w.heap.size w w8) := HBC.out.trans (hb8.mono HBC.out.size)
    have HK1 : Hid (LsOk w8 x l1 r1) := HK1.out.bel hb8
    have HK2 : Hid (LsOk w8 y l2 r2) := HK2.out.bel hb8
    have H6 : Hid (LBX s6 y (.slice l2 m1 k2) (.slice r2 m2 q2) w8) := H6.out.bel hb8
    have HY : Hid (LBX (s + 1) y (.slice lb m1 ld) (.slice sb m2 sd) w8) := HY.out.bel hb8
    obtain ⟨c0, c1, c2, c3, c4, c5, c6, c7, c8, c9, c10⟩ := H5.out.bel hb8
    obtain ⟨d0, d1, d2, d3, d4, d5, d6, d7, d8, d9, d10⟩ := HX.out.bel hb8
    clear hb8 hw8 HC5 HC6 HCx HCy HW HL1 HL2 HQ1 HQ2 HQ3 HQ4 HQ5 HQ6 H5 HX HBC
    go_wp2_with fail
    refine (HQ7.out w8 l1 k1 r1 q1 l2 k2 r2 q2 _ _ (.inl ⟨rfl, rfl⟩) HK1.out HK2.out HB8.out).mono ?_
    rintro e w9 ⟨rfl, hb9⟩
    have HB9 : Hid (Below w.heap.size w w9) := HB8.out.trans (hb9.mono HB8.out.size)
    have HK1 : Hid (LsOk w9 x l1 r1) := HK1.out.bel hb9
    have HK2 : Hid (LsOk w9 y l2 r2) := HK2.out.bel hb9
    clear c0 c1 c2 c3 c4 c5 c6 c7 c8 c9 c10 d0 d1 d2 d3 d4 d5 d6 d7 d8 d9 d10
    obtain ⟨c0, c1, c2, c3, c4, c5, c6, c7, c8, c9, c10⟩ := H6.out.bel hb9
    obtain ⟨d0, d1, d2, d3, d4, d5, d6, d7, d8, d9, d10⟩ := HY.out.bel hb9
    clear hb9 H6 HY HB8
    go_wp2_with fail
    refine (HQ7.out w9 l1 k1 r1 q1 l2 k2 r2 q2 _ _ (.inr ⟨rfl, rfl⟩) HK1.out HK2.out HB9.out).mono ?_
    rintro e w10 ⟨rfl, hb10⟩
    have HBE : Hid (Below w.heap.size w w10) := HB9.out.trans (hb10.mono HB9.out.size)
    clear c0 c1 c2 c3 c4 c5 c6 c7 c8 c9 c10 d0 d1 d2 d3 d4 d5 d6 d7 d8 d9 d10 hb10
    go_wp2_with fail
    go_ret
    exact ⟨rfl, HBE.out⟩
end Go.Proofs.Ytjhdjbhpofhiaae.Ls
