/- writer.announcement: what it leaves. -/
import Derived.Test.YtagfdmkgnedlbaeLsV
import Derived.Test.YtagfdmkgnedlbaeLsG
namespace Go.Proofs.Ytagfdmkgnedlbae.Ls
open Go.ChangeShapes Go.WideShapes Go.ChangeAt Go.RowKit Go.Joins Go.Proofs.Ytagfdmkgnedlbae.PM Go.Proofs.Ytagfdmkgnedlbae.Ask
set_option linter.unusedVariables false

/-- a number within bounds, as a Nat -/
def Nt (n : Int) (k : Nat) : Prop := 0 ≤ n ∧ n < 2 ^ k
theorem Nt.cast {n : Int} {k : Nat} (h : Nt n k) : ((n.toNat : Nat) : Int) = n := Int.toNat_of_nonneg h.1
theorem Nt.lt {n : Int} {k : Nat} (h : Nt n k) (hk : k ≤ 62) : n.toNat < 9223372036854775808 := by
  have h1 := h.2
  have h2 : (2 : Int) ^ k ≤ 2 ^ 62 := by exact_mod_cast Nat.pow_le_pow_right (n := 2) (by decide) hk
  have h3 := h.1
  omega
theorem Nt.w64 {n : Int} {k : Nat} (h : Nt n k) (hk : k ≤ 62) : wrap64 n = n := by
  have h1 := h.2
  have h2 : (2 : Int) ^ k ≤ 2 ^ 62 := by exact_mod_cast Nat.pow_le_pow_right (n := 2) (by decide) hk
  have h3 := h.1
  unfold wrap64
  omega
def encLk (x : Int × Int × Int) : List Nat := big 4 x.1.toNat ++ big 2 x.2.1.toNat ++ big 2 x.2.2.toNat
def encSt (x : Int × Int × Int) : List Nat := big 4 x.1.toNat ++ big 1 x.2.1.toNat ++ big 2 x.2.2.toNat
def encHd (x : Lsa) : List Nat := big 1 x.kind.toNat ++ big 1 x.links.length ++ big 1 x.stubs.length ++ big 1 x.pn.toNat ++ big 2 x.area.toNat ++ big 2 x.age.toNat ++ big 4 x.origin.toNat ++ big 4 x.seq.toNat ++ big 4 x.pa.toNat ++ big 4 x.cost.toNat ++ big 4 x.tag.toNat
/-- the bytes of an announcement -/
def encL (x : Lsa) : List Nat := encHd x ++ x.links.flatMap encLk ++ x.stubs.flatMap encSt
theorem big_len (size n : Nat) : (big size n).length = size := by simp [big]
theorem encHd_len (x : Lsa) : (encHd x).length = 28 := by simp [encHd, big_len]
theorem flatLk_len (l : List (Int × Int × Int)) : (l.flatMap encLk).length = 8 * l.length := by
  induction l with
  | nil => rfl
  | cons a l ih => rw [List.flatMap_cons, List.length_append, ih]; simp [encLk, big_len]; omega
theorem flatSt_len (l : List (Int × Int × Int)) : (l.flatMap encSt).length = 7 * l.length := by
  induction l with
  | nil => rfl
  | cons a l ih => rw [List.flatMap_cons, List.length_append, ih]; simp [encSt, big_len]; omega
theorem encL_len (x : Lsa) : (encL x).length = 28 + 8 * x.links.length + 7 * x.stubs.length := by
  unfold encL; rw [List.length_append, List.length_append, encHd_len, flatLk_len, flatSt_len]
/-- each number of an announcement can be written -/
structure Fits (x : Lsa) : Prop where
  kind : Nt x.kind 8
  pn : Nt x.pn 8
  area : Nt x.area 16
  age : Nt x.age 16
  origin : Nt x.origin 32
  seq : Nt x.seq 32
  pa : Nt x.pa 32
  cost : Nt x.cost 32
  tag : Nt x.tag 32
  nl : x.links.length ≤ 64
  ns : x.stubs.length ≤ 64
  lk : ∀ l ∈ x.links, Nt l.1 32 ∧ Nt l.2.1 16 ∧ Nt l.2.2 16
  st : ∀ s ∈ x.stubs, Nt s.1 32 ∧ Nt s.2.1 8 ∧ Nt s.2.2 16
theorem Kw.alloc (bw : Nat) (w : World) (own : Option Nat) (o : Obj) : Kw bw w own (w.alloc o) own :=
  ⟨(Below.refl _ w).alloc (Nat.zero_le _) o, .inl rfl, fun b hb _ _ => Below.heap_alloc w o b hb⟩
theorem Kw.low {M bw : Nat} {w0 w w' : World} {own own' : Option Nat} (h : Kw bw w own w' own') (hb : Below M w0 w) (hM : M ≤ bw) (hw : M ≤ w.heap.size) (ho : ∀ g, own = some g → M ≤ g) : Below M w0 w' :=
  hb.trans ⟨h.str.os, h.str.tape, h.str.output, h.str.size, fun k hk => h.block k (by omega) (by omega) (fun e => by have := ho k e.symm; omega)⟩
theorem Wr.own_lt {N bw : Nat} {w : World} {bs : List Nat} {own : Option Nat} (h : Wr N w bw bs own) : ∀ g, own = some g → N ≤ g ∧ g < w.heap.size := by
  obtain ⟨v, _, hv, e⟩ := h.row
  intro g hg
  exact hv.row.lt g (e.trans hg)
theorem Wr.alloc {N bw : Nat} {w : World} {bs : List Nat} {own : Option Nat} (h : Wr N w bw bs own) (o : Obj) : Wr N (w.alloc o) bw bs own := by
  have hb : Below w.heap.size w (w.alloc o) := (Below.refl _ w).alloc (Nat.le_refl _) o
  have hlt := h.lt
  have hle := h.le
  obtain ⟨v, h1, h2, h3⟩ := h.row
  exact ⟨⟨v, cell_bel h1 hb, h2.bel hb, h3⟩, (Below.frozen (p := ⟨bw, 0, none⟩) hb (by show bw < _; omega)).trans h.fz, h.ne, Nat.lt_of_lt_of_le hlt hb.size, Nat.le_trans hle hb.size⟩
theorem LBox.kw {bw s : Nat} {kind area origin pa pn seq age : Int} {lv sv : Value} {cost tag : Int} {W W' : World} {own own' : Option Nat} (h : LBox s kind area origin pa pn seq age lv sv cost tag W) (hk : Kw bw W own W' own') (hs : s < W.heap.size) (hb : s ≠ bw) (ho : some s ≠ own) : LBox s kind area origin pa pn seq age lv sv cost tag W' := by
  have e := hk.block s hs hb ho
  exact ⟨(World.cell?_of_block e).trans h.c0, (World.cell?_of_block e).trans h.c1, (World.cell?_of_block e).trans h.c2, (World.cell?_of_block e).trans h.c3, (World.cell?_of_block e).trans h.c4, (World.cell?_of_block e).trans h.c5, (World.cell?_of_block e).trans h.c6, (World.cell?_of_block e).trans h.c7, (World.cell?_of_block e).trans h.c8, (World.cell?_of_block e).trans h.c9, (World.cell?_of_block e).trans h.c10⟩
/-- the writer, since a world -/
structure WI (N bw : Nat) (w : World) (own : Option Nat) (bs : List Nat) (W : World) : Prop where
  st : ∃ own', Wr N W bw bs own' ∧ Kw bw w own W own'
theorem WI.num {N bw : Nat} {w : World} {own : Option Nat} {bs : List Nat} {W : World} (h : WI N bw w own bs W) (size n : Nat) (hs8 : size ≤ 8) (hn : n < 9223372036854775808) (hbig : bs.length ≤ 1048576) :
    Calls Try.prog 49 #[.pointer (some ⟨bw, 0, none⟩), .int .i64 (size : Int), .int .i64 (n : Int)] W fun e w' => (∃ u, e = .returned u) ∧ WI N bw w own (bs ++ big size n) w' := by
  obtain ⟨own', h1, h2⟩ := h.st
  refine (wnum_any N bw bs own' size n hs8 hn hbig W h1).mono ?_
  rintro e w' ⟨hu, own2, h3, h4⟩
  exact ⟨hu, ⟨own2, h3, h2.trans h4⟩⟩
theorem WI.numI {N bw : Nat} {w : World} {own : Option Nat} {bs : List Nat} {W : World} (h : WI N bw w own bs W) (size : Nat) (n : Int) {k : Nat} (sz : Int) (hs : ((size : Nat) : Int) = sz) (hs8 : size ≤ 8) (hn : Nt n k) (hk : k ≤ 62) (hbig : bs.length ≤ 1048576) :
    Calls Try.prog 49 #[.pointer (some ⟨bw, 0, none⟩), .int .i64 sz, .int .i64 n] W fun e w' => (∃ u, e = .returned u) ∧ WI N bw w own (bs ++ big size n.toNat) w' := by
  have := h.num size n.toNat hs8 (hn.lt hk) hbig
  rw [hn.cast, hs] at this
  exact this
theorem WI.numN {N bw : Nat} {w : World} {own : Option Nat} {bs : List Nat} {W : World} (h : WI N bw w own bs W) (size n : Nat) (sz : Int) (hs : ((size : Nat) : Int) = sz) (hs8 : size ≤ 8) (hn : n < 9223372036854775808) (hbig : bs.length ≤ 1048576) :
    Calls Try.prog 49 #[.pointer (some ⟨bw, 0, none⟩), .int .i64 sz, .int .i64 (n : Int)] W fun e w' => (∃ u, e = .returned u) ∧ WI N bw w own (bs ++ big size n) w' := by
  have := h.num size n hs8 hn hbig
  rw [hs] at this
  exact this
theorem WI.alloc {N bw : Nat} {w : World} {own : Option Nat} {bs : List Nat} {W : World} (h : WI N bw w own bs W) (o : Obj) : WI N bw w own bs (W.alloc o) := by
  obtain ⟨own', h1, h2⟩ := h.st
  exact ⟨own', h1.alloc o, h2.trans (Kw.alloc bw W own' o)⟩
theorem WI.box {N bw s : Nat} {w : World} {own : Option Nat} {bs : List Nat} {W : World} {kind area origin pa pn seq age : Int} {lv sv : Value} {cost tag : Int} (h : WI N bw w own bs W) (hb : LBox s kind area origin pa pn seq age lv sv cost tag w) (hs : s < w.heap.size) (hn : s ≠ bw) (ho : some s ≠ own) : LBox s kind area origin pa pn seq age lv sv cost tag W := by
  obtain ⟨own', h1, h2⟩ := h.st
  exact hb.kw h2 hs hn ho
/-- three numbers in a box of their own, kept over a call -/
theorem WI.keep3 {N bw s : Nat} {w : World} {own : Option Nat} {bs : List Nat} {W : World} {o : Obj} (h : WI N bw w own bs W) (hs : w.heap[s]? = some o) (hn : s ≠ bw) (ho : some s ≠ own) : W.heap[s]? = some o := by
  obtain ⟨own', h1, h2⟩ := h.st
  exact (h2.block s (Array.getElem?_eq_some_iff.1 hs).1 hn ho).trans hs
theorem alloc_at (w : World) (o : Obj) : (w.alloc o).heap[w.heap.size]? = some o := by unfold World.alloc; simp
/-- a box is made, and the writer goes on from there -/
theorem WI.fresh {N bw : Nat} {w1 : World} {own : Option Nat} {bs : List Nat} {wr wA : World} {o : Obj} (h : WI N bw w1 own bs wr) (hA : wr.alloc o = wA) : ∃ own1, WI N bw wA own1 bs wA ∧ wA.heap[wr.heap.size]? = some o ∧ (¬ wr.heap.size = bw) ∧ (¬ some wr.heap.size = own1) ∧ ∀ bs2 W2, WI N bw wA own1 bs2 W2 → WI N bw w1 own bs2 W2 := by
  obtain ⟨own1, h1, h2⟩ := h.st
  have hlt := h1.lt
  have hle := h1.le
  refine ⟨own1, ⟨own1, by rw [← hA]; exact h1.alloc o, Kw.refl _ _ _⟩, by rw [← hA]; exact alloc_at wr o, by omega, fun e => by have := h1.own_lt _ e.symm; omega, ?_⟩
  rintro bs2 W2 ⟨o2, h3, h4⟩
  refine ⟨o2, h3, (h2.trans (Kw.alloc bw wr own1 o)).trans ?_⟩
  rw [hA]; exact h4
set_option maxRecDepth 100000 in
set_option maxHeartbeats 4000000 in
theorem wann_any (N bw : Nat) (bs : List Nat) (own : Option Nat) (x : Lsa) (la : Option Addr) (lc : Nat) (sa : Option Addr) (sc : Nat) (w0 w : World) (h : Wr N w bw bs own) (hb : Below w0.heap.size w0 w) (hw0 : w0.heap.size ≤ bw) (hN0 : w0.heap.size ≤ N) (hx : LsOk w0 x la sa) (hf : Fits x) (hbig : bs.length ≤ 100000) :
    Calls Try.prog 50 #[.pointer (some ⟨bw, 0, none⟩), lsaV x la lc sa sc] w fun e w' => (∃ u, e = .returned u) ∧ ∃ own', Wr N w' bw (bs ++ encL x) own' ∧ Kw bw w own w' own' := by
  obtain ⟨E, hE⟩ : ∃ E, encHd x = E := ⟨_, rfl⟩
  have hEl : E.length = 28 := by rw [← hE]; exact encHd_len x
  have HFIN : Hid (∀ w1 W, Kw bw w own w1 own → WI N bw w1 own (bs ++ E ++ x.links.flatMap encLk ++ x.stubs.flatMap encSt) W → ∃ own', Wr N W bw (bs ++ encL x) own' ∧ Kw bw w own W own') := by
    rintro w1 W hk ⟨own', h1, h2⟩
    refine ⟨own', ?_, hk.trans h2⟩
    unfold encL
    rw [hE, ← List.append_assoc, ← List.append_assoc]
    exact h1
  obtain ⟨kind, area, origin, pa, pn, seq, age, cost, tag, links, stubs⟩ := x
  obtain ⟨f0, f1, f2, f3, f4, f5, f6, f7, f8, hnl, hns, flk, fst⟩ := hf
  dsimp only at f0 f1 f2 f3 f4 f5 f6 f7 f8 hnl hns flk fst HFIN
  have HX : Hid (L3 .i64 w0 la links) := hx.lk
  have HXS : Hid (L3 .u32 w0 sa stubs) := hx.st
  have HLK : Hid (∀ l ∈ links, Nt l.1 32 ∧ Nt l.2.1 16 ∧ Nt l.2.2 16) := flk
  have HST : Hid (∀ l ∈ stubs, Nt l.1 32 ∧ Nt l.2.1 8 ∧ Nt l.2.2 16) := fst
  unfold encHd at hE
  unfold lsaV
  dsimp only at hE ⊢
  obtain ⟨n1, hn1⟩ : ∃ n1, links.length = n1 := ⟨_, rfl⟩
  obtain ⟨n2, hn2⟩ : ∃ n2, stubs.length = n2 := ⟨_, rfl⟩
  have HN1 : Hid (links.length = n1) := hn1
  have HN2 : Hid (stubs.length = n2) := hn2
  rw [hn1] at hnl
  rw [hn2] at hns
  rw [hn1, hn2] at hE ⊢
  have HE : Hid (big 1 kind.toNat ++ big 1 n1 ++ big 1 n2 ++ big 1 pn.toNat ++ big 2 area.toNat ++ big 2 age.toNat ++ big 4 origin.toNat ++ big 4 seq.toNat ++ big 4 pa.toNat ++ big 4 cost.toNat ++ big 4 tag.toNat = E) := hE
  have HB : Hid (Below w0.heap.size w0 w) := hb
  have HH : Hid (Wr N w bw bs own) := h
  have hlt := h.lt
  have hle := h.le
  have HOL : Hid (∀ g, own = some g → N ≤ g ∧ g < w.heap.size) := h.own_lt
  have HWP : Hid (wrap64 pa = pa) := Nt.w64 f6 (by decide)
  have F0 : Hid (Nt kind 8) := f0
  have F1 : Hid (Nt pn 8) := f1
  have F2 : Hid (Nt area 16) := f2
  have F3 : Hid (Nt age 16) := f3
  have F4 : Hid (Nt origin 32) := f4
  have F5 : Hid (Nt seq 32) := f5
  have F6 : Hid (Nt pa 32) := f6
  have F7 : Hid (Nt cost 32) := f7
  have F8 : Hid (Nt tag 32) := f8
  clear hx hn1 hn2 hE hb h f0 f1 f2 f3 f4 f5 f6 f7 f8 flk fst
  go_enter Try.func50, Try.ntmps50
  go_wp2_with fail
  obtain ⟨w1, hw1⟩ : ∃ w1, w.alloc (Obj.cells #[.int .i64 kind, .int .i64 area, .int .i64 origin, .int .u32 pa, .int .i64 pn, .int .i64 seq, .int .i64 age, .slice la n1 lc, .slice sa n2 sc, .int .i64 cost, .int .i64 tag] 28) = w1 := ⟨_, rfl⟩
  have hbx := lbox_new hw1
  have HBX : Hid (LBox w.heap.size kind area origin pa pn seq age (.slice la n1 lc) (.slice sa n2 sc) cost tag w1) := hbx.1
  have hsz : w1.heap.size = w.heap.size + 1 := by rw [← hw1]; simp
  have HKA : Hid (Kw bw w own w1 own) := by rw [← hw1]; exact Kw.alloc _ _ _ _
  have HB1 : Hid (Below w0.heap.size w0 w1) := HB.out.trans (hbx.2.mono HB.out.size)
  have HW0 : Hid (WI N bw w1 own bs w1) := ⟨own, by rw [← hw1]; exact HH.out.alloc _, Kw.refl _ _ _⟩
  obtain ⟨s, hs⟩ : ∃ s, w.heap.size = s := ⟨_, rfl⟩
  rw [hs] at HBX hsz hle HOL
  rw [hw1, hs]
  have HSN : Hid (¬ s = bw) := by show ¬ _; omega
  have HSO : Hid (¬ some s = own) := fun e => by have := HOL.out s e.symm; omega
  clear hw1 hbx
  obtain ⟨c0, c1, c2, c3, c4, c5, c6, c7, c8, c9, c10⟩ := HBX.out
  refine (HW0.out.numI 1 kind 1 rfl (by decide) F0.out (by decide) (by omega)).mono ?_
  rintro e y1 ⟨⟨u1, rfl⟩, hW1⟩
  have HW1 : Hid (WI N bw w1 own (bs ++ big 1 kind.toNat) y1) := hW1
  clear c0 c1 c2 c3 c4 c5 c6 c7 c8 c9 c10 HW0 hW1
  obtain ⟨c0, c1, c2, c3, c4, c5, c6, c7, c8, c9, c10⟩ := HW1.out.box HBX.out (by omega) HSN.out HSO.out
  go_wp2_with fail
  refine (HW1.out.numN 1 n1 1 rfl (by decide) (by omega) (by simp [big_len]; omega)).mono ?_
  rintro e y2 ⟨⟨u2, rfl⟩, hW2⟩
  have HW2 : Hid (WI N bw w1 own (bs ++ big 1 kind.toNat ++ big 1 n1) y2) := hW2
  clear c0 c1 c2 c3 c4 c5 c6 c7 c8 c9 c10 HW1 hW2
  obtain ⟨c0, c1, c2, c3, c4, c5, c6, c7, c8, c9, c10⟩ := HW2.out.box HBX.out (by omega) HSN.out HSO.out
  go_wp2_with fail
  refine (HW2.out.numN 1 n2 1 rfl (by decide) (by omega) (by simp [big_len]; omega)).mono ?_
  rintro e y3 ⟨⟨u3, rfl⟩, hW3⟩
  have HW3 : Hid (WI N bw w1 own (bs ++ big 1 kind.toNat ++ big 1 n1 ++ big 1 n2) y3) := hW3
  clear c0 c1 c2 c3 c4 c5 c6 c7 c8 c9 c10 HW2 hW3
  obtain ⟨c0, c1, c2, c3, c4, c5, c6, c7, c8, c9, c10⟩ := HW3.out.box HBX.out (by omega) HSN.out HSO.out
  go_wp2_with fail
  refine (HW3.out.numI 1 pn 1 rfl (by decide) F1.out (by decide) (by simp [big_len]; omega)).mono ?_
  rintro e y4 ⟨⟨u4, rfl⟩, hW4⟩
  have HW4 : Hid (WI N bw w1 own (bs ++ big 1 kind.toNat ++ big 1 n1 ++ big 1 n2 ++ big 1 pn.toNat) y4) := hW4
  clear c0 c1 c2 c3 c4 c5 c6 c7 c8 c9 c10 HW3 hW4
  obtain ⟨c0, c1, c2, c3, c4, c5, c6, c7, c8, c9, c10⟩ := HW4.out.box HBX.out (by omega) HSN.out HSO.out
  go_wp2_with fail
  refine (HW4.out.numI 2 area 2 rfl (by decide) F2.out (by decide) (by simp [big_len]; omega)).mono ?_
  rintro e y5 ⟨⟨u5, rfl⟩, hW5⟩
  have HW5 : Hid (WI N bw w1 own (bs ++ big 1 kind.toNat ++ big 1 n1 ++ big 1 n2 ++ big 1 pn.toNat ++ big 2 area.toNat) y5) := hW5
  clear c0 c1 c2 c3 c4 c5 c6 c7 c8 c9 c10 HW4 hW5
  obtain ⟨c0, c1, c2, c3, c4, c5, c6, c7, c8, c9, c10⟩ := HW5.out.box HBX.out (by omega) HSN.out HSO.out
  go_wp2_with fail
  refine (HW5.out.numI 2 age 2 rfl (by decide) F3.out (by decide) (by simp [big_len]; omega)).mono ?_
  rintro e y6 ⟨⟨u6, rfl⟩, hW6⟩
  have HW6 : Hid (WI N bw w1 own (bs ++ big 1 kind.toNat ++ big 1 n1 ++ big 1 n2 ++ big 1 pn.toNat ++ big 2 area.toNat ++ big 2 age.toNat) y6) := hW6
  clear c0 c1 c2 c3 c4 c5 c6 c7 c8 c9 c10 HW5 hW6
  obtain ⟨c0, c1, c2, c3, c4, c5, c6, c7, c8, c9, c10⟩ := HW6.out.box HBX.out (by omega) HSN.out HSO.out
  go_wp2_with fail
  refine (HW6.out.numI 4 origin 4 rfl (by decide) F4.out (by decide) (by simp [big_len]; omega)).mono ?_
  rintro e y7 ⟨⟨u7, rfl⟩, hW7⟩
  have HW7 : Hid (WI N bw w1 own (bs ++ big 1 kind.toNat ++ big 1 n1 ++ big 1 n2 ++ big 1 pn.toNat ++ big 2 area.toNat ++ big 2 age.toNat ++ big 4 origin.toNat) y7) := hW7
  clear c0 c1 c2 c3 c4 c5 c6 c7 c8 c9 c10 HW6 hW7
  obtain ⟨c0, c1, c2, c3, c4, c5, c6, c7, c8, c9, c10⟩ := HW7.out.box HBX.out (by omega) HSN.out HSO.out
  go_wp2_with fail
  refine (HW7.out.numI 4 seq 4 rfl (by decide) F5.out (by decide) (by simp [big_len]; omega)).mono ?_
  rintro e y8 ⟨⟨u8, rfl⟩, hW8⟩
  have HW8 : Hid (WI N bw w1 own (bs ++ big 1 kind.toNat ++ big 1 n1 ++ big 1 n2 ++ big 1 pn.toNat ++ big 2 area.toNat ++ big 2 age.toNat ++ big 4 origin.toNat ++ big 4 seq.toNat) y8) := hW8
  clear c0 c1 c2 c3 c4 c5 c6 c7 c8 c9 c10 HW7 hW8
  obtain ⟨c0, c1, c2, c3, c4, c5, c6, c7, c8, c9, c10⟩ := HW8.out.box HBX.out (by omega) HSN.out HSO.out
  go_wp2_with fail
  rw [HWP.out]
  refine (HW8.out.numI 4 pa 4 rfl (by decide) F6.out (by decide) (by simp [big_len]; omega)).mono ?_
  rintro e y9 ⟨⟨u9, rfl⟩, hW9⟩
  have HW9 : Hid (WI N bw w1 own (bs ++ big 1 kind.toNat ++ big 1 n1 ++ big 1 n2 ++ big 1 pn.toNat ++ big 2 area.toNat ++ big 2 age.toNat ++ big 4 origin.toNat ++ big 4 seq.toNat ++ big 4 pa.toNat) y9) := hW9
  clear c0 c1 c2 c3 c4 c5 c6 c7 c8 c9 c10 HW8 hW9
  obtain ⟨c0, c1, c2, c3, c4, c5, c6, c7, c8, c9, c10⟩ := HW9.out.box HBX.out (by omega) HSN.out HSO.out
  go_wp2_with fail
  refine (HW9.out.numI 4 cost 4 rfl (by decide) F7.out (by decide) (by simp [big_len]; omega)).mono ?_
  rintro e y10 ⟨⟨u10, rfl⟩, hW10⟩
  have HW10 : Hid (WI N bw w1 own (bs ++ big 1 kind.toNat ++ big 1 n1 ++ big 1 n2 ++ big 1 pn.toNat ++ big 2 area.toNat ++ big 2 age.toNat ++ big 4 origin.toNat ++ big 4 seq.toNat ++ big 4 pa.toNat ++ big 4 cost.toNat) y10) := hW10
  clear c0 c1 c2 c3 c4 c5 c6 c7 c8 c9 c10 HW9 hW10
  obtain ⟨c0, c1, c2, c3, c4, c5, c6, c7, c8, c9, c10⟩ := HW10.out.box HBX.out (by omega) HSN.out HSO.out
  go_wp2_with fail
  refine (HW10.out.numI 4 tag 4 rfl (by decide) F8.out (by decide) (by simp [big_len]; omega)).mono ?_
  rintro e y11 ⟨⟨u11, rfl⟩, hW11⟩
  have HW11 : Hid (WI N bw w1 own (bs ++ big 1 kind.toNat ++ big 1 n1 ++ big 1 n2 ++ big 1 pn.toNat ++ big 2 area.toNat ++ big 2 age.toNat ++ big 4 origin.toNat ++ big 4 seq.toNat ++ big 4 pa.toNat ++ big 4 cost.toNat ++ big 4 tag.toNat) y11) := hW11
  clear c0 c1 c2 c3 c4 c5 c6 c7 c8 c9 c10 HW10 hW11
  obtain ⟨c0, c1, c2, c3, c4, c5, c6, c7, c8, c9, c10⟩ := HW11.out.box HBX.out (by omega) HSN.out HSO.out
  go_wp2_with fail
  have HWA : Hid (WI N bw w1 own (bs ++ E) y11) := by
    have := HW11.out
    rw [← HE.out]
    simp only [List.append_assoc] at this ⊢
    exact this
  clear HW11 HE F0 F1 F2 F3 F4 F5 F6 F7 F8 c0 c1 c2 c3 c4 c5 c6 c7 c8 c9 c10
  go_loopw [60] (fun iv wr => ∃ k : Nat, k ≤ n1 ∧ iv = .int .i64 k ∧ WI N bw w1 own (bs ++ E ++ (links.take k).flatMap encLk) wr) (fun i _ => n1 - (intOf i).toNat)
  case atStart => exact ⟨0, by omega, rfl, by rw [List.take_zero, List.flatMap_nil, List.append_nil]; exact HWA.out⟩
  case round =>
    obtain ⟨k, hk, rfl, hwi⟩ := hrel
    have HWI : Hid (WI N bw w1 own (bs ++ E ++ (links.take k).flatMap encLk) wr) := hwi
    have hbl : (bs ++ E ++ (links.take k).flatMap encLk).length ≤ 110000 := by
      rw [List.length_append, List.length_append, flatLk_len, List.length_take]; omega
    have HBR : Hid (Below w0.heap.size w0 wr) := by
      obtain ⟨o1, h1, h2⟩ := hwi.st
      exact h2.low HB1.out hw0 (HB1.out.size) (fun g e => by have := HOL.out g e; omega)
    clear hwi HWA
    by_cases hlt : k < n1
    · have hkd : k < links.length := by rw [HN1.out]; exact hlt
      obtain ⟨b, o, rfl, -, e0, e1, e2⟩ := (HX.out.bel HBR.out).cells k hkd
      obtain ⟨g0, g1, g2⟩ := HLK.out _ (List.getElem_mem hkd)
      obtain ⟨⟨xa, xb, xc⟩, hxk⟩ : ∃ y, links[k] = y := ⟨_, rfl⟩
      rw [hxk] at e0 e1 e2 g0 g1 g2
      have HNX : Hid ((links.take (k + 1)).flatMap encLk = (links.take k).flatMap encLk ++ encLk (xa, xb, xc)) := by
        show _ = _
        rw [List.take_succ_eq_append_getElem hkd, hxk, List.flatMap_append]; simp
      have G0 : Hid (Nt xa 32) := g0
      have G1 : Hid (Nt xb 16) := g1
      have G2 : Hid (Nt xc 16) := g2
      obtain ⟨P, hP⟩ : ∃ P, bs ++ E ++ (links.take k).flatMap encLk = P := ⟨_, rfl⟩
      have HP : Hid (bs ++ E ++ (links.take k).flatMap encLk = P) := hP
      rw [hP] at HWI hbl
      have hkk : (k : Int) < n1 := by omega
      have kk0 : (0 : Int) ≤ k := by omega
      clear hxk g0 g1 g2 hP
      go_wp2_with fail
      clear e0 e1 e2
      obtain ⟨wA, hwA⟩ : ∃ wA, wr.alloc (Obj.cells #[.int .i64 xa, .int .i64 xb, .int .i64 xc] 54) = wA := ⟨_, rfl⟩
      obtain ⟨own1, hi1, hGA, hn1, hn2, hback⟩ := HWI.out.fresh hwA
      obtain ⟨t, ht⟩ : ∃ t, wr.heap.size = t := ⟨_, rfl⟩
      rw [ht] at hGA hn1 hn2
      rw [hwA, ht]
      have HI1 : Hid (WI N bw wA own1 P wA) := hi1
      have HGA : Hid (wA.heap[t]? = some (Obj.cells #[.int .i64 xa, .int .i64 xb, .int .i64 xc] 54)) := hGA
      have HM1 : Hid (¬ t = bw) := hn1
      have HM2 : Hid (¬ some t = own1) := hn2
      have HBK : Hid (∀ bs2 W2, WI N bw wA own1 bs2 W2 → WI N bw w1 own bs2 W2) := hback
      clear hi1 hGA hn1 hn2 hback hwA
      obtain ⟨c0, c1, c2⟩ := cells3 HGA.out
      refine (HI1.out.numI 4 xa 4 rfl (by decide) G0.out (by decide) (by omega)).mono ?_
      rintro e z1 ⟨⟨v1, rfl⟩, hi2⟩
      have HI2 : Hid (WI N bw wA own1 (P ++ big 4 xa.toNat) z1) := hi2
      clear c0 c1 c2 hi2
      obtain ⟨c0, c1, c2⟩ := cells3 (HI2.out.keep3 HGA.out HM1.out HM2.out)
      go_wp2_with fail
      refine (HI2.out.numI 2 xb 2 rfl (by decide) G1.out (by decide) (by simp [big_len]; omega)).mono ?_
      rintro e z2 ⟨⟨v2, rfl⟩, hi2⟩
      have HI3 : Hid (WI N bw wA own1 (P ++ big 4 xa.toNat ++ big 2 xb.toNat) z2) := hi2
      clear c0 c1 c2 hi2
      obtain ⟨c0, c1, c2⟩ := cells3 (HI3.out.keep3 HGA.out HM1.out HM2.out)
      go_wp2_with fail
      refine (HI3.out.numI 2 xc 2 rfl (by decide) G2.out (by decide) (by simp [big_len]; omega)).mono ?_
      rintro e z3 ⟨⟨v3, rfl⟩, hi2⟩
      have HI4 : Hid (WI N bw w1 own (bs ++ E ++ (links.take (k + 1)).flatMap encLk) z3) := by
        have := HBK.out _ _ hi2
        rw [HNX.out, ← List.append_assoc, HP.out]
        unfold encLk
        simp only [List.append_assoc] at this ⊢
        exact this
      clear c0 c1 c2 hi2 HI1 HI2 HI3
      go_wp2_with fail
      exact ⟨⟨k + 1, by omega, by simp, HI4.out⟩, by simp [intOf]; omega⟩
    · obtain rfl : n1 = k := by omega
      have HWC : Hid (WI N bw w1 own (bs ++ E ++ links.flatMap encLk) wr) := by
        have := HWI.out
        rw [List.take_of_length_le (by rw [HN1.out]; omega)] at this
        exact this
      obtain ⟨-, -, -, -, -, -, -, -, c8, -, -⟩ := HWC.out.box HBX.out (by omega) HSN.out HSO.out
      clear HWI HBR hbl
      have hbl : (bs ++ E ++ links.flatMap encLk).length ≤ 110000 := by
        rw [List.length_append, List.length_append, flatLk_len, HN1.out]; omega
      obtain ⟨E2, hE2⟩ : ∃ P, bs ++ E ++ links.flatMap encLk = P := ⟨_, rfl⟩
      rw [hE2] at HWC hbl HFIN
      clear hE2
      go_wp2_with fail
      clear c8
      go_loopw [80] (fun iv wr => ∃ k : Nat, k ≤ n2 ∧ iv = .int .i64 k ∧ WI N bw w1 own (E2 ++ (stubs.take k).flatMap encSt) wr) (fun i _ => n2 - (intOf i).toNat)
      case atStart => exact ⟨0, by omega, rfl, by rw [List.take_zero, List.flatMap_nil, List.append_nil]; exact HWC.out⟩
      case round =>
        obtain ⟨k, hk, rfl, hwi⟩ := hrel
        have HWI : Hid (WI N bw w1 own (E2 ++ (stubs.take k).flatMap encSt) wr) := hwi
        have hbl2 : (E2 ++ (stubs.take k).flatMap encSt).length ≤ 120000 := by
          rw [List.length_append, flatSt_len, List.length_take]; omega
        have HBR : Hid (Below w0.heap.size w0 wr) := by
          obtain ⟨o1, h1, h2⟩ := hwi.st
          exact h2.low HB1.out hw0 (HB1.out.size) (fun g e => by have := HOL.out g e; omega)
        clear hwi HWC
        by_cases hlt : k < n2
        · have hkd : k < stubs.length := by rw [HN2.out]; exact hlt
          obtain ⟨b, o, rfl, -, e0, e1, e2⟩ := (HXS.out.bel HBR.out).cells k hkd
          obtain ⟨g0, g1, g2⟩ := HST.out _ (List.getElem_mem hkd)
          obtain ⟨⟨xa, xb, xc⟩, hxk⟩ : ∃ y, stubs[k] = y := ⟨_, rfl⟩
          rw [hxk] at e0 e1 e2 g0 g1 g2
          have HNX : Hid ((stubs.take (k + 1)).flatMap encSt = (stubs.take k).flatMap encSt ++ encSt (xa, xb, xc)) := by
            show _ = _
            rw [List.take_succ_eq_append_getElem hkd, hxk, List.flatMap_append]; simp
          have G0 : Hid (Nt xa 32) := g0
          have G1 : Hid (Nt xb 8) := g1
          have G2 : Hid (Nt xc 16) := g2
          have HWX : Hid (wrap64 xa = xa) := Nt.w64 g0 (by decide)
          obtain ⟨P, hP⟩ : ∃ P, E2 ++ (stubs.take k).flatMap encSt = P := ⟨_, rfl⟩
          have HP : Hid (E2 ++ (stubs.take k).flatMap encSt = P) := hP
          rw [hP] at HWI hbl2
          have hkk : (k : Int) < n2 := by omega
          have kk0 : (0 : Int) ≤ k := by omega
          clear hxk g0 g1 g2 hP
          go_wp2_with fail
          clear e0 e1 e2
          obtain ⟨wA, hwA⟩ : ∃ wA, wr.alloc (Obj.cells #[.int .u32 xa, .int .i64 xb, .int .i64 xc] 56) = wA := ⟨_, rfl⟩
          obtain ⟨own1, hi1, hGA, hn1, hn2, hback⟩ := HWI.out.fresh hwA
          obtain ⟨t, ht⟩ : ∃ t, wr.heap.size = t := ⟨_, rfl⟩
          rw [ht] at hGA hn1 hn2
          rw [hwA, ht]
          have HI1 : Hid (WI N bw wA own1 P wA) := hi1
          have HGA : Hid (wA.heap[t]? = some (Obj.cells #[.int .u32 xa, .int .i64 xb, .int .i64 xc] 56)) := hGA
          have HM1 : Hid (¬ t = bw) := hn1
          have HM2 : Hid (¬ some t = own1) := hn2
          have HBK : Hid (∀ bs2 W2, WI N bw wA own1 bs2 W2 → WI N bw w1 own bs2 W2) := hback
          clear hi1 hGA hn1 hn2 hback hwA
          obtain ⟨c0, c1, c2⟩ := cells3 HGA.out
          rw [HWX.out]
          refine (HI1.out.numI 4 xa 4 rfl (by decide) G0.out (by decide) (by omega)).mono ?_
          rintro e z1 ⟨⟨v1, rfl⟩, hi2⟩
          have HI2 : Hid (WI N bw wA own1 (P ++ big 4 xa.toNat) z1) := hi2
          clear c0 c1 c2 hi2
          obtain ⟨c0, c1, c2⟩ := cells3 (HI2.out.keep3 HGA.out HM1.out HM2.out)
          go_wp2_with fail
          refine (HI2.out.numI 1 xb 1 rfl (by decide) G1.out (by decide) (by simp [big_len]; omega)).mono ?_
          rintro e z2 ⟨⟨v2, rfl⟩, hi2⟩
          have HI3 : Hid (WI N bw wA own1 (P ++ big 4 xa.toNat ++ big 1 xb.toNat) z2) := hi2
          clear c0 c1 c2 hi2
          obtain ⟨c0, c1, c2⟩ := cells3 (HI3.out.keep3 HGA.out HM1.out HM2.out)
          go_wp2_with fail
          refine (HI3.out.numI 2 xc 2 rfl (by decide) G2.out (by decide) (by simp [big_len]; omega)).mono ?_
          rintro e z3 ⟨⟨v3, rfl⟩, hi2⟩
          have HI4 : Hid (WI N bw w1 own (E2 ++ (stubs.take (k + 1)).flatMap encSt) z3) := by
            have := HBK.out _ _ hi2
            rw [HNX.out, ← List.append_assoc, HP.out]
            unfold encSt
            simp only [List.append_assoc] at this ⊢
            exact this
          clear c0 c1 c2 hi2 HI1 HI2 HI3
          go_wp2_with fail
          exact ⟨⟨k + 1, by omega, by simp, HI4.out⟩, by simp [intOf]; omega⟩
        · obtain rfl : n2 = k := by omega
          have HE : Hid (∃ own', Wr N wr bw (bs ++ encL ⟨kind, area, origin, pa, pn, seq, age, cost, tag, links, stubs⟩) own' ∧ Kw bw w own wr own') := by
            have := HWI.out
            rw [List.take_of_length_le (by rw [HN2.out]; omega)] at this
            exact HFIN.out w1 wr HKA.out this
          clear HWI HBR hbl2 HFIN
          go_wp2_with fail
          refine ⟨rfl, .tuple #[], ?_, ⟨_, rfl⟩, HE.out⟩
          simp [results, Try.results50, go_sem]
end Go.Proofs.Ytagfdmkgnedlbae.Ls
