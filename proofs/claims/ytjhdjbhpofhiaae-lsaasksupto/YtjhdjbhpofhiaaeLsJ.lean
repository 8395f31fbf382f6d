/- The document's Newer: what it answers. -/
import Derived.Test.YtjhdjbhpofhiaaeLsI
import Derived.Maps.AppendAt
import Derived.Deep.RegionHeld3
import Derived.StillTailTactics
import Derived.Lib.SmallJoins
import Derived.Deep.CutRange
namespace Go.Proofs.Ytjhdjbhpofhiaae.Ls
open Go.ChangeShapes Go.WideShapes Go.ChangeAt Go.RowKit Go.Joins Go.Proofs.Ytjhdjbhpofhiaae.PM Go.Proofs.Ytjhdjbhpofhiaae.Ask
set_option linter.unusedVariables false

def lkK (p : (Int × Int × Int) × (Int × Int × Int)) : List Int := [cmp3 p.1.1 p.2.1, cmp3 p.1.2.1 p.2.2.1, cmp3 p.1.2.2 p.2.2.2]
def stK (p : (Int × Int × Int) × (Int × Int × Int)) : List Int := [ord p.1.1 p.1.2.1 p.2.1 p.2.2.1, cmp3 p.1.2.2 p.2.2.2]
theorem newer_out (x y : Lsa) : newer x y = nz ([cmp3 x.seq y.seq, cmp3 (endI x.age) (endI y.age), cmp3 x.cost y.cost, cmp3 x.tag y.tag] ++ (((x.links.zip y.links).map lkK).flatten ++ [cmp3 x.links.length y.links.length]) ++ (((x.stubs.zip y.stubs).map stK).flatten ++ [cmp3 x.stubs.length y.stubs.length])) := by
  have h1 := lex_nz lkC (fun a b => lkK (a, b)) (fun a b => rfl) x.links y.links
  have h2 := lex_nz stC (fun a b => stK (a, b)) (fun a b => rfl) x.stubs y.stubs
  have e1 : ((x.links.zip y.links).map fun p => lkK (p.1, p.2)) = (x.links.zip y.links).map lkK := rfl
  have e2 : ((x.stubs.zip y.stubs).map fun p => stK (p.1, p.2)) = (x.stubs.zip y.stubs).map stK := rfl
  rw [e1] at h1
  rw [e2] at h2
  rw [nz_app, nz_app, ← h1, ← h2]
  have e3 : newer x y = nz ([cmp3 x.seq y.seq, cmp3 (endI x.age) (endI y.age), cmp3 x.cost y.cost, cmp3 x.tag y.tag] ++ [lex lkC x.links y.links] ++ [lex stC x.stubs y.stubs]) := rfl
  rw [e3, nz_app, nz_app]
  have e4 : ∀ z : Int, nz [z] = z := fun z => by
    rw [nz_cons]
    by_cases h : z = 0
    · rw [if_pos h, h]; rfl
    · rw [if_neg h]
  rw [e4, e4]
theorem lkK_len (l : List ((Int × Int × Int) × (Int × Int × Int))) : ((l.map lkK).flatten).length = 3 * l.length := by
  induction l with
  | nil => rfl
  | cons p l ih => rw [List.map_cons, List.flatten_cons, List.length_append, ih]; simp [lkK]; omega
theorem stK_len (l : List ((Int × Int × Int) × (Int × Int × Int))) : ((l.map stK).flatten).length = 2 * l.length := by
  induction l with
  | nil => rfl
  | cons p l ih => rw [List.map_cons, List.flatten_cons, List.length_append, ih]; simp [stK]; omega
/-- a box of three numbers -/
structure B3 (k : IntKind) (s : Nat) (a b c : Int) (W : World) : Prop where
  c0 : W.cell? ⟨s, 0, none⟩ = some (.int k a)
  c1 : W.cell? ⟨s, 1, none⟩ = some (.int .i64 b)
  c2 : W.cell? ⟨s, 2, none⟩ = some (.int .i64 c)
def ics (xs : List Int) : List Value := xs.map (fun x => Value.int .i64 x)
theorem infoI : (Try.prog.info? 3).map (fun i => (i.zero, i.size, i.bytes)) = some (some (.int .i64 0), 1, 8) := by kernel_rfl
/-- a list of numbers that the call has made -/
structure OwnI (N : Nat) (w : World) (v : Value) (xs : List Int) : Prop where
  row : w.ownsRow N 3 1 v xs.length (ics xs)
theorem ownI_kept {N : Nat} {w w' : World} {v : Value} {xs : List Int} (h : OwnI N w v xs) (hb : Below w.heap.size w w') : OwnI N w' v xs := by
  refine ⟨h.row.1, ?_⟩
  rcases h.row.2 with h1 | ⟨g', cap', cur, h1, h2, h3, h4⟩
  · exact .inl h1
  · exact .inr ⟨g', cap', cur, h1, h2, (hb.block g' (Array.getElem?_eq_some_iff.1 h3).1).trans h3, h4⟩
theorem nums_src (w : World) (ys : List Int) (T : TypeId) : ∀ j u, (ics ys)[j]? = some u → (w.alloc (.cells (ics ys).toArray T)).cell? ⟨w.heap.size, j, none⟩ = some u := fun j u h => by
  have g := World.alloc_heap_new w (Obj.cells (ics ys).toArray T)
  unfold World.cell?
  rw [g]
  simpa using h
/-- numbers that were just built are appended -/
theorem app_ints {ops : Array Oper} {rest : List Oper} {o : Oper} {a : Act} {Q : Exit → Act → World → Prop} (hgd : o.guard = none) (s x : Operand)
    (ho : o.op = .call { callee := .builtin .append, args := #[s, x], argTypes := #[62, 62] }) (N : Nat) (v : Value) (xs ys : List Int) (w : World) (hs : a.eval s = v) (hown : OwnI N w v xs)
    (H K : Nat) (hx : a.eval x = .slice (some ⟨H, 0, none⟩) K K) (hK : ys.length = K) (hsrc : ∀ j u, (ics ys)[j]? = some u → w.cell? ⟨H, j, none⟩ = some u) (hby : (xs.length + K) * 8 ≤ 140737488355328) (hN : N ≤ w.heap.size)
    (h : ∀ v' w', Hid (OwnI N w' v' (xs ++ ys)) → Hid (w.grownBy w' v.ownBlock) → wpList Try.prog ops Q rest (a.put o.dst v') w') :
    wpList Try.prog ops Q (o :: rest) a w := by
  subst hK
  obtain ⟨i0, hi, hz0, hz1, hz2⟩ := info_parts infoI
  refine wpList_append_own_at _ hgd s x 62 ho N 3 i0 _ 1 8 Try.underlying62 hi hz0 hz1 hz2 rfl (by decide) v _ _ hs hown.row ⟨H, 0, none⟩ ys.length ys.length (ics ys) hx (by simp [ics]) (by
      intro j u' hj
      rw [Addr.add_lit, Nat.zero_add]
      exact hsrc j u' hj) (by
      intro u' hu'
      simp only [ics, List.mem_map] at hu'
      obtain ⟨y, -, rfl⟩ := hu'
      rfl) (by unfold maxLen; omega) hby hN ?_
  intro v' w' hown' hg _ hat
  exact h v' w' ⟨by unfold ics; rw [List.map_append, List.length_append]; exact hown'⟩ hg
theorem step_app_ints {ops : Array Oper} {o : Oper} {a : Act} {Q : Exit → Act → World → Prop} {K : Act → World → Prop} {E : Prop} (hgd : o.guard = none) (s x : Operand)
    (ho : o.op = .call { callee := .builtin .append, args := #[s, x], argTypes := #[62, 62] }) (N : Nat) (v : Value) (xs ys : List Int) (w : World) (hs : a.eval s = v) (hown : OwnI N w v xs)
    (H L : Nat) (hx : a.eval x = .slice (some ⟨H, 0, none⟩) L L) (hK : ys.length = L) (hsrc : ∀ j u, (ics ys)[j]? = some u → w.cell? ⟨H, j, none⟩ = some u) (hby : (xs.length + L) * 8 ≤ 140737488355328) (hN : N ≤ w.heap.size)
    (h : ∀ v' w', Hid (OwnI N w' v' (xs ++ ys)) → Hid (w.grownBy w' v.ownBlock) → K (a.put o.dst v') w') :
    if Region.wanted o (yielded ops a.tmps) = true then Oper.wp Try.prog o a w K Q else E := by
  subst hK
  have hw : Region.wanted o (yielded ops a.tmps) = true := by simp [Region.wanted, hgd]
  rw [if_pos hw]
  obtain ⟨i0, hi, hz0, hz1, hz2⟩ := info_parts infoI
  obtain ⟨v', w', hr, h2, h3, h4, h5⟩ := run_append_own_at (P := Try.prog) w N 62 o.type 3 i0 _ 1 8 Try.underlying62 hi hz0 hz1 hz2 rfl (by decide) v xs.length (ics xs) hown.row ⟨H, 0, none⟩ ys.length ys.length (ics ys) (by simp [ics]) (by
      intro j u' hj
      rw [Addr.add_lit, Nat.zero_add]
      exact hsrc j u' hj) (by
      intro u' hu'
      simp only [ics, List.mem_map] at hu'
      obtain ⟨y, -, rfl⟩ := hu'
      rfl) (by unfold maxLen; omega) hby hN
  unfold Oper.wp execOp
  simp only [ho, resolve, invoke, builtin, Sem.run_bind, Sem.run_pure, Result.andThen_ok, List.map_toArray, List.map_cons, List.map_nil, hs, hx, hr]
  exact h v' w' ⟨by unfold ics; rw [List.map_append, List.length_append]; exact h2⟩ h3
theorem B3.grown {k : IntKind} {s : Nat} {a b c : Int} {W W' W0 : World} {N : Nat} {v : Value} {O : List Int} (h : B3 k s a b c W) (ho : OwnI N W0 v O) (hs : W0.heap.size ≤ s) (hg : W.grownBy W' v.ownBlock) : B3 k s a b c W' := by
  have hlt : s < W.heap.size := World.block_lt_of_cell? W _ h.c0
  have hb : W'.heap[s]? = W.heap[s]? := hg.block s hlt (fun e => by have := (ho.row.lt s e.symm).2; omega)
  exact ⟨(World.cell?_of_block (w := W) hb).trans h.c0, (World.cell?_of_block (w := W) hb).trans h.c1, (World.cell?_of_block (w := W) hb).trans h.c2⟩
theorem B3.bel {k : IntKind} {s : Nat} {a b c : Int} {W W' : World} (h : B3 k s a b c W) (hb : Below W.heap.size W W') : B3 k s a b c W' := ⟨cell_bel h.c0 hb, cell_bel h.c1 hb, cell_bel h.c2 hb⟩
theorem alloc_drew (w : World) (o : Obj) : Below w.heap.size w (w.alloc o).drew := ((Below.refl _ w).alloc (Nat.le_refl _) o).trans ((drew_bel _).mono (by simp))
theorem OwnI.form {N : Nat} {w : World} {v : Value} {xs : List Int} (h : OwnI N w v xs) : ∃ va cap, v = .slice va xs.length cap := by
  rcases ownsRow_forms h.row with ⟨rfl, h0⟩ | ⟨g, cap, rfl⟩
  · exact ⟨none, 0, by rw [h0]⟩
  · exact ⟨_, _, rfl⟩
theorem grown_below {N : Nat} {w w2 w3 : World} {v : Value} {xs : List Int} (hb : Below N w w2) (ho : OwnI N w2 v xs) (hN : N ≤ w2.heap.size) (hg : w2.grownBy w3 v.ownBlock) : Below N w w3 :=
  hb.grown hg hN (fun g e => (ho.row.lt g e).1)

set_option maxRecDepth 100000 in
set_option maxHeartbeats 8000000 in
theorem rnewer_any (x y : Lsa) (la : Option Addr) (lc : Nat) (sa : Option Addr) (sc : Nat) (lb : Option Addr) (ld : Nat) (sb : Option Addr) (sd : Nat) (w : World) (hx : LsOk w x la sa) (hy : LsOk w y lb sb) (hbig : x.links.length ≤ 1048576 ∧ x.stubs.length ≤ 1048576) (r : Int) (hr : newer x y = r) :
    Calls Try.prog 14 #[lsaV x la lc sa sc, lsaV y lb ld sb sd] w fun e w' => e = .returned (.int .i64 r) ∧ Below w.heap.size w w' := by
  rw [newer_out] at hr
  obtain ⟨kind, area, origin, pa, pn, seq, age, cost, tag, links, stubs⟩ := x
  obtain ⟨kind2, area2, origin2, pa2, pn2, seq2, age2, cost2, tag2, links2, stubs2⟩ := y
  dsimp only at hr hbig
  have HR : Hid (nz ([cmp3 seq seq2, cmp3 (endI age) (endI age2), cmp3 cost cost2, cmp3 tag tag2] ++ (((links.zip links2).map lkK).flatten ++ [cmp3 links.length links2.length]) ++ (((stubs.zip stubs2).map stK).flatten ++ [cmp3 stubs.length stubs2.length])) = r) := hr
  have HX : Hid (L3 .i64 w la links) := hx.lk
  have HXS : Hid (L3 .u32 w sa stubs) := hx.st
  have HY : Hid (L3 .i64 w lb links2) := hy.lk
  have HYS : Hid (L3 .u32 w sb stubs2) := hy.st
  have HX32 : Hid (∀ d ∈ stubs, In32 d.1) := hx.s32
  have HY32 : Hid (∀ d ∈ stubs2, In32 d.1) := hy.s32
  obtain ⟨n1, hn1⟩ : ∃ n1, links.length = n1 := ⟨_, rfl⟩
  obtain ⟨n2, hn2⟩ : ∃ n2, stubs.length = n2 := ⟨_, rfl⟩
  obtain ⟨m1, hm1⟩ : ∃ m1, links2.length = m1 := ⟨_, rfl⟩
  obtain ⟨m2, hm2⟩ : ∃ m2, stubs2.length = m2 := ⟨_, rfl⟩
  rw [hn1, hm1, hn2, hm2] at HR
  rw [hn1, hn2] at hbig
  have HN1 : Hid (links.length = n1) := hn1
  have HN2 : Hid (stubs.length = n2) := hn2
  have HM1 : Hid (links2.length = m1) := hm1
  have HM2 : Hid (stubs2.length = m2) := hm2
  have hl9 := hx.lk.small
  have hs9 := hx.st.small
  have hl8 := hy.lk.small
  have hs8 := hy.st.small
  dsimp only at hl9 hs9 hl8 hs8
  rw [hn1] at hl9
  rw [hn2] at hs9
  rw [hm1] at hl8
  rw [hm2] at hs8
  obtain ⟨hb1, hb2⟩ := hbig
  unfold lsaV
  dsimp only
  rw [hn1, hn2, hm1, hm2]
  clear hr hn1 hn2 hm1 hm2 hx hy
  go_enter Try.func14, Try.ntmps14
  go_wp2_with fail
  obtain ⟨w0, hw0⟩ : ∃ w0, (w.alloc (Obj.cells #[.int .i64 kind, .int .i64 area, .int .i64 origin, .int .u32 pa, .int .i64 pn, .int .i64 seq, .int .i64 age, .slice la n1 lc, .slice sa n2 sc, .int .i64 cost, .int .i64 tag] 28)).alloc (Obj.cells #[.int .i64 kind2, .int .i64 area2, .int .i64 origin2, .int .u32 pa2, .int .i64 pn2, .int .i64 seq2, .int .i64 age2, .slice lb m1 ld, .slice sb m2 sd, .int .i64 cost2, .int .i64 tag2] 28) = w0 := ⟨_, rfl⟩
  obtain ⟨g1, g2, hs0, hb0⟩ := ha2 _ _ w0 hw0.symm
  have HBX : Hid (LBox w.heap.size kind area origin pa pn seq age (.slice la n1 lc) (.slice sa n2 sc) cost tag w0) := by constructor <;> simp [World.cell?, g1]
  have HBY : Hid (LBox (w.heap.size + 1) kind2 area2 origin2 pa2 pn2 seq2 age2 (.slice lb m1 ld) (.slice sb m2 sd) cost2 tag2 w0) := by constructor <;> simp [World.cell?, g2]
  rw [hw0]
  clear hw0 g1 g2 hs0
  obtain ⟨s, hs⟩ : ∃ s, w.heap.size = s := ⟨_, rfl⟩
  rw [hs] at HBX HBY
  have HB0 : Hid (Below w.heap.size w w0) := hb0
  have hD : Below w0.drew.heap.size w0.drew w0.drew := Below.refl _ _
  have HCX : Hid (∀ W, Below w0.drew.heap.size w0.drew W → LBox s kind area origin pa pn seq age (.slice la n1 lc) (.slice sa n2 sc) cost tag W) := fun W hW => HBX.out.bel ((drew_bel w0).trans hW)
  have HCY : Hid (∀ W, Below w0.drew.heap.size w0.drew W → LBox (s + 1) kind2 area2 origin2 pa2 pn2 seq2 age2 (.slice lb m1 ld) (.slice sb m2 sd) cost2 tag2 W) := fun W hW => HBY.out.bel ((drew_bel w0).trans hW)
  obtain ⟨c0, c1, c2, c3, c4, c5, c6, c7, c8, c9, c10⟩ := HBX.out
  obtain ⟨d0, d1, d2, d3, d4, d5, d6, d7, d8, d9, d10⟩ := HBY.out
  rw [hs]
  clear hs hb0
  go_region_held3 (fun w' => w'.cell? ⟨s, 0, none⟩ = some (.int .i64 kind) ∧ w'.cell? ⟨s, 1, none⟩ = some (.int .i64 area) ∧ w'.cell? ⟨s, 2, none⟩ = some (.int .i64 origin) ∧ w'.cell? ⟨s, 3, none⟩ = some (.int .u32 pa) ∧ w'.cell? ⟨s, 4, none⟩ = some (.int .i64 pn) ∧ w'.cell? ⟨s, 5, none⟩ = some (.int .i64 seq) ∧ w'.cell? ⟨s, 6, none⟩ = some (.int .i64 age) ∧ w'.cell? ⟨s, 7, none⟩ = some (.slice la n1 lc) ∧ w'.cell? ⟨s, 8, none⟩ = some (.slice sa n2 sc) ∧ w'.cell? ⟨s, 9, none⟩ = some (.int .i64 cost) ∧ w'.cell? ⟨s, 10, none⟩ = some (.int .i64 tag) ∧
      w'.cell? ⟨s + 1, 0, none⟩ = some (.int .i64 kind2) ∧ w'.cell? ⟨s + 1, 1, none⟩ = some (.int .i64 area2) ∧ w'.cell? ⟨s + 1, 2, none⟩ = some (.int .i64 origin2) ∧ w'.cell? ⟨s + 1, 3, none⟩ = some (.int .u32 pa2) ∧ w'.cell? ⟨s + 1, 4, none⟩ = some (.int .i64 pn2) ∧ w'.cell? ⟨s + 1, 5, none⟩ = some (.int .i64 seq2) ∧ w'.cell? ⟨s + 1, 6, none⟩ = some (.int .i64 age2) ∧ w'.cell? ⟨s + 1, 7, none⟩ = some (.slice lb m1 ld) ∧ w'.cell? ⟨s + 1, 8, none⟩ = some (.slice sb m2 sd) ∧ w'.cell? ⟨s + 1, 9, none⟩ = some (.int .i64 cost2) ∧ w'.cell? ⟨s + 1, 10, none⟩ = some (.int .i64 tag2))
    (first | (simp [go_sem, c0, c1, c2, c3, c4, c5, c6, c7, c8, c9, c10, d0, d1, d2, d3, d4, d5, d6, d7, d8, d9, d10]; done) | (refine ⟨?_, ?_, ?_, ?_, ?_, ?_, ?_, ?_, ?_, ?_, ?_, ?_, ?_, ?_, ?_, ?_, ?_, ?_, ?_, ?_, ?_, ?_⟩ <;> assumption) | go_keep)
    (first
      | (go_at_call 36; refine (rcmp_any _ _ _).mono ?_; rintro e w5 ⟨rfl, hw5⟩; rw [hw5]; clear hw5 w5)
      | (go_at_call 42; refine (rdead_any kind area origin pa pn seq age la n1 lc sa n2 sc cost tag w0.drew).mono ?_; rintro e w4 ⟨rfl, hb4⟩; obtain ⟨k0, k1, k2, k3, k4, k5, k6, k7, k8, k9, k10⟩ := HCX.out w4 hb4; obtain ⟨l0, l1, l2, l3, l4, l5, l6, l7, l8, l9, l10⟩ := HCY.out w4 hb4)
      | (go_at_call 42; refine (rdead_any kind2 area2 origin2 pa2 pn2 seq2 age2 lb m1 ld sb m2 sd cost2 tag2 w4).mono ?_; rintro e w6 ⟨rfl, hb6⟩; have hb46 := hb4.trans (hb6.mono hb4.size); obtain ⟨p0, p1, p2, p3, p4, p5, p6, p7, p8, p9, p10⟩ := HCX.out w6 hb46; obtain ⟨q0, q1, q2, q3, q4, q5, q6, q7, q8, q9, q10⟩ := HCY.out w6 hb46))
  obtain ⟨C, hC⟩ : ∃ C, [cmp3 seq seq2, cmp3 (endI age) (endI age2), cmp3 cost cost2, cmp3 tag tag2] = C := ⟨_, rfl⟩
  obtain ⟨wB, hwB⟩ : ∃ wB, w6.alloc (Obj.cells #[.int .i64 (cmp3 seq seq2), .int .i64 (cmp3 (endI age) (endI age2)), .int .i64 (cmp3 cost cost2), .int .i64 (cmp3 tag tag2)] 3) = wB := ⟨_, rfl⟩
  have HBB : Hid (Below w0.heap.size w0 wB) := by
    have h1 : Below w0.heap.size w0 w6 := (drew_bel w0).trans hb46
    show Below _ _ _
    rw [← hwB]; exact h1.alloc h1.size _
  have HOB : Hid (OwnI w0.heap.size wB (.slice (some ⟨w6.heap.size, 0, none⟩) 4 4) C) := by
    have h1 : Below w0.heap.size w0 w6 := (drew_bel w0).trans hb46
    rw [← hC, ← hwB]
    exact ⟨⟨rfl, .inr ⟨_, 4, _, rfl, h1.size, World.alloc_heap_new _ _, Nat.le_refl _, by unfold maxLen; omega, rfl, rfl⟩⟩⟩
  rw [hC] at HR
  have HCL : Hid (C.length = 4) := by rw [← hC]; exact rfl
  rw [hwB]
  clear hwB hC HCX HCY hb4 hb6 hb46 hD c0 c1 c2 c3 c4 c5 c6 c7 c8 c9 c10 d0 d1 d2 d3 d4 d5 d6 d7 d8 d9 d10 k0 k1 k2 k3 k4 k5 k6 k7 k8 k9 k10 l0 l1 l2 l3 l4 l5 l6 l7 l8 l9 l10 p0 p1 p2 p3 p4 p5 p6 p7 p8 p9 p10 q0 q1 q2 q3 q4 q5 q6 q7 q8 q9 q10
  go_wp2_with fail
  go_loopw [5, 6] (fun v i wr => ∃ k : Nat, k ≤ n1 ∧ k ≤ m1 ∧ i = .int .i64 k ∧ Below w0.heap.size w0 wr ∧ OwnI w0.heap.size wr v (C ++ (((links.zip links2).take k).map lkK).flatten)) (fun _ i _ => n1 - (intOf i).toNat)
  case atStart => exact ⟨0, by omega, by omega, rfl, HBB.out, by simpa using HOB.out⟩
  case round =>
    obtain ⟨k, hk, hkm, rfl, hbr, hor⟩ := hrel
    have HBR : Hid (Below w0.heap.size w0 wr) := hbr
    have HBW : Hid (Below w.heap.size w wr) := HB0.out.trans (hbr.mono HB0.out.size)
    have HO : Hid (OwnI w0.heap.size wr u5 (C ++ (((links.zip links2).take k).map lkK).flatten)) := hor
    obtain ⟨-, -, -, -, -, -, -, c7, c8, -, -⟩ := HBX.out.bel hbr
    obtain ⟨-, -, -, -, -, -, -, d7, d8, -, -⟩ := HBY.out.bel hbr
    clear HBB HOB hor
    have kk0 : (0 : Int) ≤ k := by omega
    by_cases hin : k < n1 ∧ k < m1
    · obtain ⟨hlt, hlm⟩ := hin
      have hkk : (k : Int) < n1 := by omega
      have hkm' : (k : Int) < m1 := by omega
      have hkd : k < links.length := by rw [HN1.out]; exact hlt
      have hkd2 : k < links2.length := by rw [HM1.out]; exact hlm
      obtain ⟨b, o, rfl, hbl, e0, e1, e2⟩ := (HX.out.bel HBW.out).cells k hkd
      obtain ⟨b', o', rfl, hbl', f0, f1, f2⟩ := (HY.out.bel HBW.out).cells k hkd2
      obtain ⟨⟨xa, xb, xc⟩, hxk⟩ : ∃ y, links[k] = y := ⟨_, rfl⟩
      obtain ⟨⟨ya, yb, yc⟩, hyk⟩ : ∃ y, links2[k] = y := ⟨_, rfl⟩
      rw [hxk] at e0 e1 e2
      rw [hyk] at f0 f1 f2
      have HNX : Hid ((C ++ (((links.zip links2).take k).map lkK).flatten) ++ [cmp3 xa ya, cmp3 xb yb, cmp3 xc yc] = C ++ (((links.zip links2).take (k + 1)).map lkK).flatten) := by
        show _ = _
        rw [List.take_succ_eq_append_getElem (by simp; omega), List.map_append, List.flatten_append, List.append_assoc, List.getElem_zip, hxk, hyk]
        simp [lkK]
      clear hxk hyk
      go_wp2_with fail
      go_cut [7, 8] from 33 to 74 (fun p q wx => ∃ s7 s8, p = .pointer (some ⟨s7, 0, none⟩) ∧ q = .pointer (some ⟨s8, 0, none⟩) ∧ B3 .i64 s7 xa xb xc wx ∧ B3 .i64 s8 ya yb yc wx ∧ Below wr.heap.size wr wx ∧ wr.heap.size ≤ s7 ∧ wr.heap.size ≤ s8)
      case first =>
        go_region_held3 (fun w' => w'.cell? ⟨s, 7, none⟩ = some (.slice (some ⟨b, o, none⟩) n1 lc) ∧ w'.cell? ⟨s + 1, 7, none⟩ = some (.slice (some ⟨b', o', none⟩) m1 ld) ∧ w'.cell? ⟨b, o + k * 3, none⟩ = some (.int .i64 xa) ∧ w'.cell? ⟨b, o + k * 3 + 1, none⟩ = some (.int .i64 xb) ∧ w'.cell? ⟨b, o + k * 3 + 2, none⟩ = some (.int .i64 xc) ∧ w'.cell? ⟨b', o' + k * 3, none⟩ = some (.int .i64 ya) ∧ w'.cell? ⟨b', o' + k * 3 + 1, none⟩ = some (.int .i64 yb) ∧ w'.cell? ⟨b', o' + k * 3 + 2, none⟩ = some (.int .i64 yc))
          (first | (simp [go_sem, c7, d7, e0, e1, e2, f0, f1, f2]; done) | go_keep) (fail)
        all_goals
          go_wp2_with fail
          go_meet
          refine ⟨_, _, rfl, rfl, ⟨by simp, by simp, by simp⟩, ⟨by simp, by simp, by simp⟩, ?_, by simp, by simp⟩
          exact ((((Below.refl _ wr).alloc (Nat.le_refl _) _).alloc (by simp) _).trans ((drew_bel _).mono (by simp; omega)))
      case rest =>
        obtain ⟨s7, s8, rfl, rfl, h7, h8, hbc, hs7, hs8⟩ := hcut
        have H7 : Hid (B3 .i64 s7 xa xb xc wc) := h7
        have H8 : Hid (B3 .i64 s8 ya yb yc wc) := h8
        obtain ⟨a0, a1, a2⟩ := h7
        obtain ⟨z0, z1, z2⟩ := h8
        have HBC : Hid (Below w0.heap.size w0 wc) := HBR.out.trans (hbc.mono HBR.out.size)
        obtain ⟨O, hO⟩ : ∃ O, C ++ (((links.zip links2).take k).map lkK).flatten = O := ⟨_, rfl⟩
        have hol : O.length ≤ 4 + 3 * k := by
          rw [← hO, List.length_append, HCL.out, lkK_len, List.length_take]
          omega
        rw [hO] at HO HNX
        have HOC : Hid (OwnI w0.heap.size wc u5 O) := ownI_kept HO.out hbc
        have HWA : Hid (OwnI w0.heap.size (wc.alloc (Obj.cells #[.int .i64 (cmp3 xa ya), .int .i64 (cmp3 xb yb), .int .i64 (cmp3 xc yc)] 3)).drew u5 O) := ownI_kept HOC.out (alloc_drew wc _)
        have hNc : w0.heap.size ≤ (wc.alloc (Obj.cells #[.int .i64 (cmp3 xa ya), .int .i64 (cmp3 xb yb), .int .i64 (cmp3 xc yc)] 3)).drew.heap.size := Nat.le_trans HBC.out.size (alloc_drew wc (Obj.cells #[.int .i64 (cmp3 xa ya), .int .i64 (cmp3 xb yb), .int .i64 (cmp3 xc yc)] 3)).size
        clear hbr hO HBR c7 c8 d7 d8 e0 e1 e2 f0 f1 f2 hbc
        go_wp2_with fail
        go_region_held3 (fun w' => w'.cell? ⟨s7, 0, none⟩ = some (.int .i64 xa) ∧ w'.cell? ⟨s7, 1, none⟩ = some (.int .i64 xb) ∧ w'.cell? ⟨s7, 2, none⟩ = some (.int .i64 xc) ∧ w'.cell? ⟨s8, 0, none⟩ = some (.int .i64 ya) ∧ w'.cell? ⟨s8, 1, none⟩ = some (.int .i64 yb) ∧ w'.cell? ⟨s8, 2, none⟩ = some (.int .i64 yc))
          (first | (simp [go_sem, a0, a1, a2, z0, z1, z2]; done) | (refine ⟨?_, ?_, ?_, ?_, ?_, ?_⟩ <;> assumption) | go_keep)
          (first
            | (go_at_call 36; refine (rcmp_any _ _ _).mono ?_; rintro e w5 ⟨rfl, hw5⟩; rw [hw5]; clear hw5 w5)
            | (refine step_app_ints rfl _ _ rfl w0.heap.size u5 O [cmp3 xa ya, cmp3 xb yb, cmp3 xc yc] (wc.alloc (Obj.cells #[.int .i64 (cmp3 xa ya), .int .i64 (cmp3 xb yb), .int .i64 (cmp3 xc yc)] 3)).drew rfl HWA.out wc.heap.size 3 rfl rfl (nums_src wc [cmp3 xa ya, cmp3 xb yb, cmp3 xc yc] _) (by omega) hNc ?_; intro v' w' ho' hg'; obtain ⟨t0, t1, t2⟩ := (H7.out.bel (alloc_drew wc _)).grown HO.out hs7 hg'.out; obtain ⟨y0, y1, y2⟩ := (H8.out.bel (alloc_drew wc _)).grown HO.out hs8 hg'.out))
        have HB' : Hid (Below w0.heap.size w0 w') := grown_below (HBC.out.trans ((alloc_drew wc _).mono HBC.out.size)) HWA.out hNc hg'.out
        have HO' : Hid (OwnI w0.heap.size w' v' (C ++ (((links.zip links2).take (k + 1)).map lkK).flatten)) := by
          have h1 := ho'.out
          rw [HNX.out] at h1
          exact h1
        clear ho' hg' HWA HOC HO H7 H8 a0 a1 a2 z0 z1 z2 t0 t1 t2 y0 y1 y2 hNc hol hs7 hs8
        go_wp2_with fail
        exact ⟨⟨k + 1, by omega, by omega, by simp, HB'.out, HO'.out⟩, by simp [intOf]; omega⟩
    · rcases (show ¬ k < n1 ∨ (k < n1 ∧ ¬ k < m1) by omega) with hA | hA
      case' inl =>
        have hA' : ¬ (k : Int) < n1 := by omega
        go_wp2_with fail
        clear hA'
      case' inr =>
        have hA' : (k : Int) < n1 := by omega
        have hB' : ¬ (k : Int) < m1 := by omega
        go_wp2_with fail
        clear hA' hB'
      all_goals
        have HZP : Hid ((links.zip links2).take k = links.zip links2) := List.take_of_length_le (by rw [List.length_zip, HN1.out, HM1.out]; omega)
        rw [HZP.out] at HO
        obtain ⟨O, hO⟩ : ∃ O, C ++ ((links.zip links2).map lkK).flatten = O := ⟨_, rfl⟩
        have hol : O.length ≤ 4 + 3 * n1 := by
          rw [← hO, List.length_append, HCL.out, lkK_len, List.length_zip, HN1.out]
          omega
        rw [hO] at HO
        obtain ⟨E1, hE1⟩ : ∃ E, cmp3 (n1 : Int) (m1 : Int) = E := ⟨_, rfl⟩
        have HC1 : Hid (∀ W, Calls Try.prog 36 #[.int .i64 (n1 : Int), .int .i64 (m1 : Int)] W fun e w' => e = .returned (.int .i64 E1) ∧ w' = W) := fun W => by rw [← hE1]; exact rcmp_any n1 m1 W
        obtain ⟨O2, hO2⟩ : ∃ O2, O ++ [E1] = O2 := ⟨_, rfl⟩
        have hol2 : O2.length ≤ 5 + 3 * n1 := by rw [← hO2, List.length_append]; simp; omega
        have HR2 : Hid (nz (O2 ++ (((stubs.zip stubs2).map stK).flatten ++ [cmp3 (n2 : Int) (m2 : Int)])) = r) := by
          have h1 := HR.out
          rw [hE1, ← List.append_assoc C, hO, hO2] at h1
          exact h1
        clear HZP hE1 hO
        refine (HC1.out _).mono ?_
        rintro e w5 ⟨rfl, hw5⟩
        rw [hw5]
        clear hw5 w5 HC1
        have HWA : Hid (OwnI w0.heap.size (wr.alloc (Obj.cells #[.int .i64 E1] 3)) u5 O) := ownI_kept HO.out ((Below.refl _ wr).alloc (Nat.le_refl _) _)
        have hNc : w0.heap.size ≤ (wr.alloc (Obj.cells #[.int .i64 E1] 3)).heap.size := Nat.le_trans HBR.out.size ((Below.refl _ wr).alloc (Nat.le_refl _) (Obj.cells #[.int .i64 E1] 3)).size
        go_wp2_with (at_builtin; refine app_ints rfl _ _ rfl w0.heap.size u5 O [E1] (wr.alloc (Obj.cells #[.int .i64 E1] 3)) rfl HWA.out wr.heap.size 1 rfl rfl (nums_src wr [E1] _) (by omega) hNc ?_)
        intro v' w' ho' hg'
        have HB' : Hid (Below w0.heap.size w0 w') := grown_below (HBR.out.trans (((Below.refl _ wr).alloc (Nat.le_refl _) _).mono HBR.out.size)) HWA.out hNc hg'.out
        have HO' : Hid (OwnI w0.heap.size w' v' O2) := by first | exact ho'.out | (rw [← hO2]; exact ho'.out)
        clear ho' hg' HWA HO hNc hol hbr HBR HBW hO2 c7 c8 d7 d8 HR
        go_wp2_with fail
        go_loopw [5, 9] (fun v i wr => ∃ k : Nat, k ≤ n2 ∧ k ≤ m2 ∧ i = .int .i64 k ∧ Below w0.heap.size w0 wr ∧ OwnI w0.heap.size wr v (O2 ++ (((stubs.zip stubs2).take k).map stK).flatten)) (fun _ i _ => n2 - (intOf i).toNat)
        case atStart => exact ⟨0, by omega, by omega, rfl, HB'.out, by simpa using HO'.out⟩
        case round =>
          obtain ⟨k, hk, hkm, rfl, hbr, hor⟩ := hrel
          have HBR : Hid (Below w0.heap.size w0 wr) := hbr
          have HBW : Hid (Below w.heap.size w wr) := HB0.out.trans (hbr.mono HB0.out.size)
          have HO : Hid (OwnI w0.heap.size wr u5 (O2 ++ (((stubs.zip stubs2).take k).map stK).flatten)) := hor
          obtain ⟨-, -, -, -, -, -, -, -, c8, -, -⟩ := HBX.out.bel hbr
          obtain ⟨-, -, -, -, -, -, -, -, d8, -, -⟩ := HBY.out.bel hbr
          clear hor HB' HO'
          have kk0 : (0 : Int) ≤ k := by omega
          by_cases hin : k < n2 ∧ k < m2
          · obtain ⟨hlt, hlm⟩ := hin
            have hkk : (k : Int) < n2 := by omega
            have hkm' : (k : Int) < m2 := by omega
            have hkd : k < stubs.length := by rw [HN2.out]; exact hlt
            have hkd2 : k < stubs2.length := by rw [HM2.out]; exact hlm
            obtain ⟨b, o, rfl, hbl, e0, e1, e2⟩ := (HXS.out.bel HBW.out).cells k hkd
            obtain ⟨b', o', rfl, hbl', f0, f1, f2⟩ := (HYS.out.bel HBW.out).cells k hkd2
            have hin1 := HX32.out _ (List.getElem_mem hkd)
            have hin2 := HY32.out _ (List.getElem_mem hkd2)
            obtain ⟨⟨xa, xb, xc⟩, hxk⟩ : ∃ y, stubs[k] = y := ⟨_, rfl⟩
            obtain ⟨⟨ya, yb, yc⟩, hyk⟩ : ∃ y, stubs2[k] = y := ⟨_, rfl⟩
            rw [hxk] at e0 e1 e2 hin1
            rw [hyk] at f0 f1 f2 hin2
            have u0 : 0 ≤ xa := hin1.1
            have u1 : xa < 4294967296 := hin1.2
            have v0 : 0 ≤ ya := hin2.1
            have v1 : ya < 4294967296 := hin2.2
            have HNX : Hid ((O2 ++ (((stubs.zip stubs2).take k).map stK).flatten) ++ [ord xa xb ya yb, cmp3 xc yc] = O2 ++ (((stubs.zip stubs2).take (k + 1)).map stK).flatten) := by
              show _ = _
              rw [List.take_succ_eq_append_getElem (by simp; omega), List.map_append, List.flatten_append, List.append_assoc, List.getElem_zip, hxk, hyk]
              simp [stK]
            clear hxk hyk hin1 hin2
            go_wp2_with fail
            go_cut [10, 11] from 85 to 121 (fun p q wx => ∃ s7 s8, p = .pointer (some ⟨s7, 0, none⟩) ∧ q = .pointer (some ⟨s8, 0, none⟩) ∧ B3 .u32 s7 xa xb xc wx ∧ B3 .u32 s8 ya yb yc wx ∧ Below wr.heap.size wr wx ∧ wr.heap.size ≤ s7 ∧ wr.heap.size ≤ s8)
            case first =>
              go_region_held3 (fun w' => w'.cell? ⟨s, 8, none⟩ = some (.slice (some ⟨b, o, none⟩) n2 sc) ∧ w'.cell? ⟨s + 1, 8, none⟩ = some (.slice (some ⟨b', o', none⟩) m2 sd) ∧ w'.cell? ⟨b, o + k * 3, none⟩ = some (.int .u32 xa) ∧ w'.cell? ⟨b, o + k * 3 + 1, none⟩ = some (.int .i64 xb) ∧ w'.cell? ⟨b, o + k * 3 + 2, none⟩ = some (.int .i64 xc) ∧ w'.cell? ⟨b', o' + k * 3, none⟩ = some (.int .u32 ya) ∧ w'.cell? ⟨b', o' + k * 3 + 1, none⟩ = some (.int .i64 yb) ∧ w'.cell? ⟨b', o' + k * 3 + 2, none⟩ = some (.int .i64 yc))
                (first | (simp [go_sem, c8, d8, e0, e1, e2, f0, f1, f2]; done) | go_keep) (fail)
              all_goals
                go_wp2_with fail
                go_meet
                refine ⟨_, _, rfl, rfl, ⟨by simp, by simp, by simp⟩, ⟨by simp, by simp, by simp⟩, ?_, by simp, by simp⟩
                exact ((((Below.refl _ wr).alloc (Nat.le_refl _) _).alloc (by simp) _).trans ((drew_bel _).mono (by simp; omega)))
            case rest =>
              obtain ⟨s7, s8, rfl, rfl, h7, h8, hbc, hs7, hs8⟩ := hcut
              have H7 : Hid (B3 .u32 s7 xa xb xc wc) := h7
              have H8 : Hid (B3 .u32 s8 ya yb yc wc) := h8
              obtain ⟨a0, a1, a2⟩ := h7
              obtain ⟨z0, z1, z2⟩ := h8
              have HBC : Hid (Below w0.heap.size w0 wc) := HBR.out.trans (hbc.mono HBR.out.size)
              obtain ⟨D1, hD1⟩ : ∃ D, ord xa xb ya yb = D := ⟨_, rfl⟩
              obtain ⟨D2, hD2⟩ : ∃ D, cmp3 xc yc = D := ⟨_, rfl⟩
              have HC1 : Hid (∀ W, Calls Try.prog 31 #[.agg #[.int .u32 xa, .int .i64 xb], .agg #[.int .u32 ya, .int .i64 yb]] W fun e w' => e = .returned (.int .i64 D1) ∧ Below W.heap.size W w') := fun W => by rw [← hD1]; exact rorder_any xa xb ya yb u0 u1 v0 v1 W
              have HC2 : Hid (∀ W, Calls Try.prog 36 #[.int .i64 xc, .int .i64 yc] W fun e w' => e = .returned (.int .i64 D2) ∧ w' = W) := fun W => by rw [← hD2]; exact rcmp_any xc yc W
              rw [hD1, hD2] at HNX
              obtain ⟨O, hO⟩ : ∃ O, O2 ++ (((stubs.zip stubs2).take k).map stK).flatten = O := ⟨_, rfl⟩
              have hol : O.length ≤ 5 + 3 * n1 + 2 * k := by
                rw [← hO, List.length_append, stK_len, List.length_take]
                omega
              rw [hO] at HO HNX
              have HOC : Hid (OwnI w0.heap.size wc u5 O) := ownI_kept HO.out hbc
              clear hbr hD1 hD2 hO HBR c8 d8 e0 e1 e2 f0 f1 f2 hbc
              go_wp2_with fail
              go_region_held3 (fun w' => w'.cell? ⟨s7, 0, none⟩ = some (.int .u32 xa) ∧ w'.cell? ⟨s7, 1, none⟩ = some (.int .i64 xb) ∧ w'.cell? ⟨s7, 2, none⟩ = some (.int .i64 xc) ∧ w'.cell? ⟨s8, 0, none⟩ = some (.int .u32 ya) ∧ w'.cell? ⟨s8, 1, none⟩ = some (.int .i64 yb) ∧ w'.cell? ⟨s8, 2, none⟩ = some (.int .i64 yc))
                (first | (simp [go_sem, a0, a1, a2, z0, z1, z2]; done) | (refine ⟨?_, ?_, ?_, ?_, ?_, ?_⟩ <;> assumption) | go_keep)
                (first
                  | (go_at_call 31; refine (HC1.out _).mono ?_; rintro e w4 ⟨rfl, hb4⟩; have hbd := (drew_bel wc).trans hb4; obtain ⟨i0, i1, i2⟩ := H7.out.bel hbd; obtain ⟨j0, j1, j2⟩ := H8.out.bel hbd; have HO4 : Hid (OwnI w0.heap.size (w4.alloc (Obj.cells #[.int .i64 D1, .int .i64 D2] 3)) u5 O) := ownI_kept (ownI_kept HOC.out hbd) ((Below.refl _ w4).alloc (Nat.le_refl _) _); have hN4 : w0.heap.size ≤ (w4.alloc (Obj.cells #[.int .i64 D1, .int .i64 D2] 3)).heap.size := Nat.le_trans HBC.out.size (Nat.le_trans hbd.size ((Below.refl _ w4).alloc (Nat.le_refl _) (Obj.cells #[.int .i64 D1, .int .i64 D2] 3)).size))
                  | (go_at_call 36; refine (HC2.out _).mono ?_; rintro e w5 ⟨rfl, hw5⟩; rw [hw5]; clear hw5 w5)
                  | (refine step_app_ints rfl _ _ rfl w0.heap.size u5 O [D1, D2] (w4.alloc (Obj.cells #[.int .i64 D1, .int .i64 D2] 3)) rfl HO4.out w4.heap.size 2 rfl rfl (nums_src w4 [D1, D2] _) (by omega) hN4 ?_; intro v' w' ho' hg'; obtain ⟨t0, t1, t2⟩ := ((H7.out.bel hbd).bel ((Below.refl _ w4).alloc (Nat.le_refl _) _)).grown HO.out hs7 hg'.out; obtain ⟨y0, y1, y2⟩ := ((H8.out.bel hbd).bel ((Below.refl _ w4).alloc (Nat.le_refl _) _)).grown HO.out hs8 hg'.out))
              have HB' : Hid (Below w0.heap.size w0 w') := grown_below ((HBC.out.trans (hbd.mono HBC.out.size)).alloc (Nat.le_trans HBC.out.size hbd.size) _) HO4.out hN4 hg'.out
              have HO' : Hid (OwnI w0.heap.size w' v' (O2 ++ (((stubs.zip stubs2).take (k + 1)).map stK).flatten)) := by
                have h1 := ho'.out
                rw [HNX.out] at h1
                exact h1
              clear ho' hg' HO4 HOC HO H7 H8 a0 a1 a2 z0 z1 z2 t0 t1 t2 y0 y1 y2 i0 i1 i2 j0 j1 j2 hN4 hol hs7 hs8 hb4 hbd
              go_wp2_with fail
              exact ⟨⟨k + 1, by omega, by omega, by simp, HB'.out, HO'.out⟩, by simp [intOf]; omega⟩
          · rcases (show ¬ k < n2 ∨ (k < n2 ∧ ¬ k < m2) by omega) with hA | hA
            case' inl =>
              have hA' : ¬ (k : Int) < n2 := by omega
              go_wp2_with fail
              clear hA'
            case' inr =>
              have hA' : (k : Int) < n2 := by omega
              have hB' : ¬ (k : Int) < m2 := by omega
              go_wp2_with fail
              clear hA' hB'
            all_goals
              have HZP : Hid ((stubs.zip stubs2).take k = stubs.zip stubs2) := List.take_of_length_le (by rw [List.length_zip, HN2.out, HM2.out]; omega)
              rw [HZP.out] at HO
              obtain ⟨O, hO⟩ : ∃ O, O2 ++ ((stubs.zip stubs2).map stK).flatten = O := ⟨_, rfl⟩
              have hol : O.length ≤ 5 + 3 * n1 + 2 * n2 := by
                rw [← hO, List.length_append, stK_len, List.length_zip, HN2.out]
                omega
              rw [hO] at HO
              obtain ⟨E2, hE2⟩ : ∃ E, cmp3 (n2 : Int) (m2 : Int) = E := ⟨_, rfl⟩
              have HC1 : Hid (∀ W, Calls Try.prog 36 #[.int .i64 (n2 : Int), .int .i64 (m2 : Int)] W fun e w' => e = .returned (.int .i64 E2) ∧ w' = W) := fun W => by rw [← hE2]; exact rcmp_any n2 m2 W
              have HR3 : Hid (nz (O ++ [E2]) = r) := by
                have h1 := HR2.out
                rw [hE2, ← List.append_assoc, hO] at h1
                exact h1
              clear HZP hE2 hO
              refine (HC1.out _).mono ?_
              rintro e w5 ⟨rfl, hw5⟩
              rw [hw5]
              clear hw5 w5 HC1
              have HWA : Hid (OwnI w0.heap.size (wr.alloc (Obj.cells #[.int .i64 E2] 3)) u5 O) := ownI_kept HO.out ((Below.refl _ wr).alloc (Nat.le_refl _) _)
              have hNc : w0.heap.size ≤ (wr.alloc (Obj.cells #[.int .i64 E2] 3)).heap.size := Nat.le_trans HBR.out.size ((Below.refl _ wr).alloc (Nat.le_refl _) (Obj.cells #[.int .i64 E2] 3)).size
              go_wp2_with (at_builtin; refine app_ints rfl _ _ rfl w0.heap.size u5 O [E2] (wr.alloc (Obj.cells #[.int .i64 E2] 3)) rfl HWA.out wr.heap.size 1 rfl rfl (nums_src wr [E2] _) (by omega) hNc ?_)
              intro v' w' ho' hg'
              have HB' : Hid (Below w.heap.size w w') := HB0.out.trans ((grown_below (HBR.out.trans (((Below.refl _ wr).alloc (Nat.le_refl _) _).mono HBR.out.size)) HWA.out hNc hg'.out).mono HB0.out.size)
              obtain ⟨L3, hL3⟩ : ∃ L3, (O ++ [E2]).length = L3 := ⟨_, rfl⟩
              have h3 : L3 ≤ 9223372036854775807 := by rw [← hL3, List.length_append]; simp; omega
              obtain ⟨g, cap, hv⟩ := ownsRow_form ho'.out.row (by simp)
              have HNM : Hid (Nums g (O ++ [E2]) w') := by
                have hrow := ho'.out.row
                rw [hv] at hrow
                exact ⟨fun i hi => by
                  rw [hrow.cellAt i (by rw [Nat.mul_one]; exact hi)]
                  rw [ics, List.getElem?_map, List.getElem?_eq_getElem hi]; rfl⟩
              rw [hL3] at hv
              subst hv
              have HL3 : Hid ((O ++ [E2]).length = L3) := hL3
              clear ho' hg' HWA HO hNc hol hbr HBR HBW hL3 c8 d8
              go_wp2_with fail
              refine (rfirst_any g cap (O ++ [E2]) L3 HL3.out h3 w' HNM.out r HR3.out).mono ?_
              rintro e w5 ⟨rfl, hw5⟩
              rw [hw5]
              clear hw5 w5
              go_wp2_with fail
              go_ret
              exact ⟨rfl, HB'.out⟩
end Go.Proofs.Ytjhdjbhpofhiaae.Ls
