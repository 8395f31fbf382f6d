/- Order and Newer of announcements: what each answers. -/
import Derived.Test.YtagfdmkgnedlbaeLsC
namespace Go.Proofs.Ytagfdmkgnedlbae.Ls
open Go.ChangeShapes Go.WideShapes Go.ChangeAt Go.RowKit Go.Proofs.Ytagfdmkgnedlbae.PM Go.Proofs.Ytagfdmkgnedlbae.Ask
set_option linter.unusedVariables false

/-- an announcement as a value -/
def lsaV (x : Lsa) (la : Option Addr) (lc : Nat) (sa : Option Addr) (sc : Nat) : Value :=
  .agg #[.int .i64 x.kind, .int .i64 x.area, .int .i64 x.origin, .int .u32 x.pa, .int .i64 x.pn, .int .i64 x.seq, .int .i64 x.age, .slice la x.links.length lc, .slice sa x.stubs.length sc, .int .i64 x.cost, .int .i64 x.tag]
/-- an announcement's lists lie in memory -/
structure LsOk (w : World) (x : Lsa) (la sa : Option Addr) : Prop where
  lk : L3 .i64 w la x.links
  st : L3 .u32 w sa x.stubs
  p32 : In32 x.pa
  s32 : ∀ d ∈ x.stubs, In32 d.1
theorem LsOk.bel {w w' : World} {x : Lsa} {la sa : Option Addr} (h : LsOk w x la sa) (hb : Below w.heap.size w w') : LsOk w' x la sa := ⟨h.lk.bel hb, h.st.bel hb, h.p32, h.s32⟩
/-- its own box -/
structure LBox (s : Nat) (kind area origin pa pn seq age : Int) (lv sv : Value) (cost tag : Int) (W : World) : Prop where
  c0 : W.cell? ⟨s, 0, none⟩ = some (.int .i64 kind)
  c1 : W.cell? ⟨s, 1, none⟩ = some (.int .i64 area)
  c2 : W.cell? ⟨s, 2, none⟩ = some (.int .i64 origin)
  c3 : W.cell? ⟨s, 3, none⟩ = some (.int .u32 pa)
  c4 : W.cell? ⟨s, 4, none⟩ = some (.int .i64 pn)
  c5 : W.cell? ⟨s, 5, none⟩ = some (.int .i64 seq)
  c6 : W.cell? ⟨s, 6, none⟩ = some (.int .i64 age)
  c7 : W.cell? ⟨s, 7, none⟩ = some lv
  c8 : W.cell? ⟨s, 8, none⟩ = some sv
  c9 : W.cell? ⟨s, 9, none⟩ = some (.int .i64 cost)
  c10 : W.cell? ⟨s, 10, none⟩ = some (.int .i64 tag)
theorem LBox.bel {s : Nat} {kind area origin pa pn seq age : Int} {lv sv : Value} {cost tag : Int} {W W' : World} (h : LBox s kind area origin pa pn seq age lv sv cost tag W) (hb : Below W.heap.size W W') : LBox s kind area origin pa pn seq age lv sv cost tag W' :=
  ⟨cell_bel h.c0 hb, cell_bel h.c1 hb, cell_bel h.c2 hb, cell_bel h.c3 hb, cell_bel h.c4 hb, cell_bel h.c5 hb, cell_bel h.c6 hb, cell_bel h.c7 hb, cell_bel h.c8 hb, cell_bel h.c9 hb, cell_bel h.c10 hb⟩

set_option maxRecDepth 100000 in
set_option maxHeartbeats 4000000 in
theorem newer_any (x y : Lsa) (la : Option Addr) (lc : Nat) (sa : Option Addr) (sc : Nat) (lb : Option Addr) (ld : Nat) (sb : Option Addr) (sd : Nat) (w : World) (hx : LsOk w x la sa) (hy : LsOk w y lb sb) (r : Int) (hr : newer x y = r) :
    Calls Try.prog 13 #[lsaV x la lc sa sc, lsaV y lb ld sb sd] w fun e w' => e = .returned (.int .i64 r) ∧ Below w.heap.size w w' := by
  obtain ⟨kind, area, origin, pa, pn, seq, age, cost, tag, links, stubs⟩ := x
  obtain ⟨kind2, area2, origin2, pa2, pn2, seq2, age2, cost2, tag2, links2, stubs2⟩ := y
  obtain ⟨A4, hA4⟩ : ∃ A4, lex lkC links links2 = A4 := ⟨_, rfl⟩
  obtain ⟨A5, hA5⟩ : ∃ A5, lex stC stubs stubs2 = A5 := ⟨_, rfl⟩
  have HR : Hid (nz [cmp3 seq seq2, cmp3 (endI age) (endI age2), cmp3 cost cost2, cmp3 tag tag2, A4, A5] = r) := by show _ = _; rw [← hr, ← hA4, ← hA5]; rfl
  obtain ⟨n1, hn1⟩ : ∃ n1, links.length = n1 := ⟨_, rfl⟩
  obtain ⟨n2, hn2⟩ : ∃ n2, stubs.length = n2 := ⟨_, rfl⟩
  obtain ⟨m1, hm1⟩ : ∃ m1, links2.length = m1 := ⟨_, rfl⟩
  obtain ⟨m2, hm2⟩ : ∃ m2, stubs2.length = m2 := ⟨_, rfl⟩
  have HCL : Hid (∀ W, Below w.heap.size w W → Calls Try.prog 38 #[.slice la n1 lc, .slice lb m1 ld, .func (.func 39) #[] #[]] W fun e w' => e = .returned (.int .i64 A4) ∧ Below W.heap.size W w') := fun W hW => clinks_any la lb lc ld links links2 n1 m1 hn1 hm1 W (hx.lk.bel hW) (hy.lk.bel hW) A4 hA4
  have HCS : Hid (∀ W, Below w.heap.size w W → Calls Try.prog 40 #[.slice sa n2 sc, .slice sb m2 sd, .func (.func 41) #[] #[]] W fun e w' => e = .returned (.int .i64 A5) ∧ Below W.heap.size W w') := fun W hW => cstubs_any sa sb sc sd stubs stubs2 n2 m2 hn2 hm2 W (hx.st.bel hW) (hy.st.bel hW) hx.s32 hy.s32 A5 hA5
  unfold lsaV
  dsimp only
  rw [hn1, hn2, hm1, hm2]
  clear hr hA4 hA5 hn1 hn2 hm1 hm2 hx hy links stubs links2 stubs2
  go_enter Try.func13, Try.ntmps13
  go_wp2_with fail
  obtain ⟨w0, hw0⟩ : ∃ w0, (w.alloc (Obj.cells #[.int .i64 kind, .int .i64 area, .int .i64 origin, .int .u32 pa, .int .i64 pn, .int .i64 seq, .int .i64 age, .slice la n1 lc, .slice sa n2 sc, .int .i64 cost, .int .i64 tag] 28)).alloc (Obj.cells #[.int .i64 kind2, .int .i64 area2, .int .i64 origin2, .int .u32 pa2, .int .i64 pn2, .int .i64 seq2, .int .i64 age2, .slice lb m1 ld, .slice sb m2 sd, .int .i64 cost2, .int .i64 tag2] 28) = w0 := ⟨_, rfl⟩
  obtain ⟨g1, g2, hs0, hb0⟩ := ha2 _ _ w0 hw0.symm
  have HX : Hid (LBox w.heap.size kind area origin pa pn seq age (.slice la n1 lc) (.slice sa n2 sc) cost tag w0) := by constructor <;> simp [World.cell?, g1]
  have HY : Hid (LBox (w.heap.size + 1) kind2 area2 origin2 pa2 pn2 seq2 age2 (.slice lb m1 ld) (.slice sb m2 sd) cost2 tag2 w0) := by constructor <;> simp [World.cell?, g2]
  rw [hw0]
  clear hw0 g1 g2 hs0
  obtain ⟨s, hs⟩ : ∃ s, w.heap.size = s := ⟨_, rfl⟩
  rw [hs] at HX HY
  have HW : Hid (∀ W, Below w0.drew.heap.size w0.drew W → Below w.heap.size w W) := fun W hW => hb0.trans (((drew_bel w0).trans hW).mono hb0.size)
  have hD : Below w0.drew.heap.size w0.drew w0.drew := Below.refl _ _
  have HCX : Hid (∀ W, Below w0.drew.heap.size w0.drew W → LBox s kind area origin pa pn seq age (.slice la n1 lc) (.slice sa n2 sc) cost tag W) := fun W hW => HX.out.bel ((drew_bel w0).trans hW)
  have HCY : Hid (∀ W, Below w0.drew.heap.size w0.drew W → LBox (s + 1) kind2 area2 origin2 pa2 pn2 seq2 age2 (.slice lb m1 ld) (.slice sb m2 sd) cost2 tag2 W) := fun W hW => HY.out.bel ((drew_bel w0).trans hW)
  obtain ⟨-, -, -, -, -, c5, c6, c7, c8, c9, c10⟩ := HX.out
  obtain ⟨-, -, -, -, -, d5, d6, d7, d8, d9, d10⟩ := HY.out
  rw [hs]
  clear hs hb0
  go_region_held3 (fun w' => w'.cell? ⟨s, 5, none⟩ = some (.int .i64 seq) ∧ w'.cell? ⟨s, 6, none⟩ = some (.int .i64 age) ∧ w'.cell? ⟨s, 7, none⟩ = some (.slice la n1 lc) ∧ w'.cell? ⟨s, 8, none⟩ = some (.slice sa n2 sc) ∧ w'.cell? ⟨s, 9, none⟩ = some (.int .i64 cost) ∧ w'.cell? ⟨s, 10, none⟩ = some (.int .i64 tag) ∧
      w'.cell? ⟨s + 1, 5, none⟩ = some (.int .i64 seq2) ∧ w'.cell? ⟨s + 1, 6, none⟩ = some (.int .i64 age2) ∧ w'.cell? ⟨s + 1, 7, none⟩ = some (.slice lb m1 ld) ∧ w'.cell? ⟨s + 1, 8, none⟩ = some (.slice sb m2 sd) ∧ w'.cell? ⟨s + 1, 9, none⟩ = some (.int .i64 cost2) ∧ w'.cell? ⟨s + 1, 10, none⟩ = some (.int .i64 tag2))
    (first | (simp [go_sem, c5, c6, c7, c8, c9, c10, d5, d6, d7, d8, d9, d10]; done) | (refine ⟨?_, ?_, ?_, ?_, ?_, ?_, ?_, ?_, ?_, ?_, ?_, ?_⟩ <;> assumption) | go_keep)
    (first
      | (go_at_call 33; refine (cmp_any _ _ _).mono ?_; rintro e w5 ⟨rfl, hw5⟩; rw [hw5]; clear hw5 w5)
      | (go_at_call 37; refine (ends_any _ _ _).mono ?_; rintro e w5 ⟨rfl, hw5⟩; rw [hw5]; clear hw5 w5)
      | (go_at_call 38; refine (HCL.out _ (HW.out _ hD)).mono ?_; rintro e w4 ⟨rfl, hb4⟩; obtain ⟨-, -, -, -, -, k5, k6, k7, k8, k9, k10⟩ := HCX.out w4 hb4; obtain ⟨-, -, -, -, -, l5, l6, l7, l8, l9, l10⟩ := HCY.out w4 hb4)
      | (go_at_call 40; refine (HCS.out _ (HW.out _ hb4)).mono ?_; rintro e w6 ⟨rfl, hb6⟩; have hb46 := hb4.trans (hb6.mono hb4.size); obtain ⟨-, -, -, -, -, p5, p6, p7, p8, p9, p10⟩ := HCX.out w6 hb46; obtain ⟨-, -, -, -, -, q5, q6, q7, q8, q9, q10⟩ := HCY.out w6 hb46)
      | (go_at_call 32; refine (or_any _ _ [cmp3 seq seq2, cmp3 (endI age) (endI age2), cmp3 cost cost2, cmp3 tag tag2, A4, A5] 6 rfl (by decide) _ (nums6 w6 _ _ _ _ _ _ _) r HR.out).mono ?_; rintro e w5 ⟨rfl, hw5⟩; rw [hw5]; clear hw5 w5))
  go_wp2_with fail
  go_ret
  exact ⟨rfl, (HW.out w6 hb46).alloc ((HW.out w6 hb46).size) _⟩

set_option maxRecDepth 100000 in
set_option maxHeartbeats 4000000 in
theorem lorder_any (x y : Lsa) (la : Option Addr) (lc : Nat) (sa : Option Addr) (sc : Nat) (lb : Option Addr) (ld : Nat) (sb : Option Addr) (sd : Nat) (w : World) (hx : In32 x.pa) (hy : In32 y.pa) (r : Int) (hr : order x y = r) :
    Calls Try.prog 11 #[lsaV x la lc sa sc, lsaV y lb ld sb sd] w fun e w' => e = .returned (.int .i64 r) ∧ Below w.heap.size w w' := by
  obtain ⟨kind, area, origin, pa, pn, seq, age, cost, tag, links, stubs⟩ := x
  obtain ⟨kind2, area2, origin2, pa2, pn2, seq2, age2, cost2, tag2, links2, stubs2⟩ := y
  have HR : Hid (nz [cmp3 area area2, cmp3 kind kind2, cmp3 origin origin2, ord pa pn pa2 pn2] = r) := by show _ = _; rw [← hr]; rfl
  have a0 : 0 ≤ pa := hx.1
  have a1 : pa < 4294967296 := hx.2
  have b0 : 0 ≤ pa2 := hy.1
  have b1 : pa2 < 4294967296 := hy.2
  obtain ⟨n1, hn1⟩ : ∃ n1, links.length = n1 := ⟨_, rfl⟩
  obtain ⟨n2, hn2⟩ : ∃ n2, stubs.length = n2 := ⟨_, rfl⟩
  obtain ⟨m1, hm1⟩ : ∃ m1, links2.length = m1 := ⟨_, rfl⟩
  obtain ⟨m2, hm2⟩ : ∃ m2, stubs2.length = m2 := ⟨_, rfl⟩
  unfold lsaV
  dsimp only
  rw [hn1, hn2, hm1, hm2]
  clear hr hn1 hn2 hm1 hm2 hx hy links stubs links2 stubs2
  go_enter Try.func11, Try.ntmps11
  go_wp2_with fail
  obtain ⟨w0, hw0⟩ : ∃ w0, (w.alloc (Obj.cells #[.int .i64 kind, .int .i64 area, .int .i64 origin, .int .u32 pa, .int .i64 pn, .int .i64 seq, .int .i64 age, .slice la n1 lc, .slice sa n2 sc, .int .i64 cost, .int .i64 tag] 28)).alloc (Obj.cells #[.int .i64 kind2, .int .i64 area2, .int .i64 origin2, .int .u32 pa2, .int .i64 pn2, .int .i64 seq2, .int .i64 age2, .slice lb m1 ld, .slice sb m2 sd, .int .i64 cost2, .int .i64 tag2] 28) = w0 := ⟨_, rfl⟩
  obtain ⟨g1, g2, hs0, hb0⟩ := ha2 _ _ w0 hw0.symm
  have HX : Hid (LBox w.heap.size kind area origin pa pn seq age (.slice la n1 lc) (.slice sa n2 sc) cost tag w0) := by constructor <;> simp [World.cell?, g1]
  have HY : Hid (LBox (w.heap.size + 1) kind2 area2 origin2 pa2 pn2 seq2 age2 (.slice lb m1 ld) (.slice sb m2 sd) cost2 tag2 w0) := by constructor <;> simp [World.cell?, g2]
  rw [hw0]
  clear hw0 g1 g2 hs0
  obtain ⟨s, hs⟩ : ∃ s, w.heap.size = s := ⟨_, rfl⟩
  rw [hs] at HX HY
  have HW : Hid (∀ W, Below w0.drew.heap.size w0.drew W → Below w.heap.size w W) := fun W hW => hb0.trans (((drew_bel w0).trans hW).mono hb0.size)
  have HCX : Hid (∀ W, Below w0.drew.heap.size w0.drew W → LBox s kind area origin pa pn seq age (.slice la n1 lc) (.slice sa n2 sc) cost tag W) := fun W hW => HX.out.bel ((drew_bel w0).trans hW)
  have HCY : Hid (∀ W, Below w0.drew.heap.size w0.drew W → LBox (s + 1) kind2 area2 origin2 pa2 pn2 seq2 age2 (.slice lb m1 ld) (.slice sb m2 sd) cost2 tag2 W) := fun W hW => HY.out.bel ((drew_bel w0).trans hW)
  obtain ⟨c0, c1, c2, c3, c4, -, -, -, -, -, -⟩ := HX.out
  obtain ⟨d0, d1, d2, d3, d4, -, -, -, -, -, -⟩ := HY.out
  rw [hs]
  clear hs hb0
  go_region_held3 (fun w' => w'.cell? ⟨s, 0, none⟩ = some (.int .i64 kind) ∧ w'.cell? ⟨s, 1, none⟩ = some (.int .i64 area) ∧ w'.cell? ⟨s, 2, none⟩ = some (.int .i64 origin) ∧ w'.cell? ⟨s, 3, none⟩ = some (.int .u32 pa) ∧ w'.cell? ⟨s, 4, none⟩ = some (.int .i64 pn) ∧
      w'.cell? ⟨s + 1, 0, none⟩ = some (.int .i64 kind2) ∧ w'.cell? ⟨s + 1, 1, none⟩ = some (.int .i64 area2) ∧ w'.cell? ⟨s + 1, 2, none⟩ = some (.int .i64 origin2) ∧ w'.cell? ⟨s + 1, 3, none⟩ = some (.int .u32 pa2) ∧ w'.cell? ⟨s + 1, 4, none⟩ = some (.int .i64 pn2))
    (first | (simp [go_sem, c0, c1, c2, c3, c4, d0, d1, d2, d3, d4]; done) | (refine ⟨?_, ?_, ?_, ?_, ?_, ?_, ?_, ?_, ?_, ?_⟩ <;> assumption) | go_keep)
    (first
      | (go_at_call 33; refine (cmp_any _ _ _).mono ?_; rintro e w5 ⟨rfl, hw5⟩; rw [hw5]; clear hw5 w5)
      | (go_at_call 34; refine (order_any pa pn pa2 pn2 a0 a1 b0 b1 _).mono ?_; rintro e w4 ⟨rfl, hb4⟩; obtain ⟨k0, k1, k2, k3, k4, -, -, -, -, -, -⟩ := HCX.out w4 hb4; obtain ⟨l0, l1, l2, l3, l4, -, -, -, -, -, -⟩ := HCY.out w4 hb4)
      | (go_at_call 32; refine (or_any _ _ [cmp3 area area2, cmp3 kind kind2, cmp3 origin origin2, ord pa pn pa2 pn2] 4 rfl (by decide) _ (nums4 w4 _ _ _ _ _) r HR.out).mono ?_; rintro e w5 ⟨rfl, hw5⟩; rw [hw5]; clear hw5 w5))
  go_wp2_with fail
  go_ret
  exact ⟨rfl, (HW.out w4 hb4).alloc ((HW.out w4 hb4).size) _⟩
end Go.Proofs.Ytagfdmkgnedlbae.Ls
