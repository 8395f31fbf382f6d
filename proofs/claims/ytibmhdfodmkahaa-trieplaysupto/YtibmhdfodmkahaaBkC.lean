/- The book's Get, Drop and Match: what each answers. -/
import Derived.Test.YtibmhdfodmkahaaBkB
import Derived.Test.YtibmhdfodmkahaaFdA
namespace Go.Proofs.Ytibmhdfodmkahaa.Bk
open Go.ChangeShapes Go.WideShapes Go.ChangeAt Go.RowKit Go.Proofs.Ytibmhdfodmkahaa.PM Go.Proofs.Ytibmhdfodmkahaa.TrM Go.Proofs.Ytibmhdfodmkahaa.Ask
set_option linter.unusedVariables false

theorem two_blocks (w : World) (o1 o2 : Obj) (W : World) (hW : W = (w.alloc o1).alloc o2) : W.heap[w.heap.size]? = some o1 ∧ W.heap[w.heap.size + 1]? = some o2 ∧ W.heap.size = w.heap.size + 2 ∧ Below w.heap.size w W := by
  subst hW
  have e1 := World.alloc_heap_new w o1
  have e2 := World.alloc_heap_new (w.alloc o1) o2
  rw [World.size_alloc] at e2
  exact ⟨hkA _ e1, e2, by simp, ((Below.refl _ w).alloc (Nat.le_refl _) _).alloc (by simp) _⟩
/-- the boxes that Get lays -/
structure GetBox (s : Nat) (va : Option Addr) (L cap : Nat) (a n : Int) (W : World) : Prop where
  b0 : W.cell? ⟨s, 0, none⟩ = some (.slice va L cap)
  p0 : W.cell? ⟨s + 1, 0, none⟩ = some (.int .u32 a)
  p1 : W.cell? ⟨s + 1, 1, none⟩ = some (.int .i64 n)
theorem GetBox.bel {s : Nat} {va : Option Addr} {L cap : Nat} {a n : Int} {W W' : World} (h : GetBox s va L cap a n W) (hb : Below W.heap.size W W') : GetBox s va L cap a n W' :=
  ⟨cell_bel h.b0 hb, cell_bel h.p0 hb, cell_bel h.p1 hb⟩

set_option maxRecDepth 100000 in
set_option maxHeartbeats 1000000 in
theorem bget_any (va : Option Addr) (cap : Nat) (l : List (Int × Int × Int)) (a n : Int) (w : World) (hl : Arr3 w va l) (r : Option Int) (hr : bget a n l = r) :
    Calls Try.prog 16 #[.agg #[.slice va l.length cap], .agg #[.int .u32 a, .int .i64 n]] w fun e w' => e = .returned (.tuple #[.int .i64 (r.getD 0), .bool r.isSome]) ∧ Below w.heap.size w w' := by
  have HL : Hid (Arr3 w va l) := hl
  have HR : Hid (bget a n l = r) := hr
  have hsm := hl.small
  clear hl hr
  obtain ⟨L, hL⟩ : ∃ L, l.length = L := ⟨_, rfl⟩
  rw [hL] at hsm ⊢
  have HLEN : Hid (l.length = L) := hL
  clear hL
  go_enter Try.func16, Try.ntmps16
  go_wp2_with fail
  obtain ⟨w0, hw0⟩ : ∃ w0, (w.alloc (Obj.cells #[.slice va L cap] 28)).alloc (Obj.cells #[.int .u32 a, .int .i64 n] 33) = w0 := ⟨_, rfl⟩
  obtain ⟨g1, g2, hs0, hb0⟩ := two_blocks w _ _ w0 hw0.symm
  have HBX : Hid (GetBox w.heap.size va L cap a n w0) := by constructor <;> simp [World.cell?, g1, g2]
  rw [hw0]
  clear hw0 g1 g2
  obtain ⟨b0, p0, p1⟩ := HBX.out
  clear b0 p0 p1
  go_loopw [11] (fun iv wr => ∃ k : Nat, k ≤ L ∧ iv = .int .i64 k ∧ bget a n (l.drop k) = r ∧ Below w0.heap.size w0 wr) (fun i _ => L - (intOf i).toNat)
  case atStart => exact ⟨0, by omega, rfl, by rw [List.drop_zero]; exact HR.out, Below.refl _ _⟩
  case round =>
    obtain ⟨k, hk, rfl, hgk, hbr⟩ := hrel
    have HG : Hid (bget a n (l.drop k) = r) := hgk
    clear hgk
    have hbw : Below w.heap.size w wr := hb0.trans (hbr.mono hb0.size)
    by_cases hlt : k < L
    · have hkd : k < l.length := by rw [HLEN.out]; exact hlt
      obtain ⟨b, o, rfl, hbl, c0, c1, c2⟩ := (HL.out.bel hbw).cells k hkd
      obtain ⟨⟨ya, yn, yv⟩, hy⟩ : ∃ y, l[k] = y := ⟨_, rfl⟩
      rw [hy] at c0 c1 c2
      have HY : Hid (l.drop k = (ya, yn, yv) :: l.drop (k + 1)) := by show _ = _; rw [drop_at hkd, hy]
      clear hy
      have hkk : (k : Int) < L := by omega
      have kk0 : (0 : Int) ≤ k := by omega
      obtain ⟨b0, p0, p1⟩ := HBX.out.bel hbr
      have hl1 : w.heap.size + 1 < wr.heap.size := by have := hbr.size; omega
      have hba : Below w0.heap.size w0 (wr.alloc (Obj.cells #[.int .u32 ya, .int .i64 yn, .int .i64 yv] 53)) := hbr.trans ((Below.refl _ _).alloc hbr.size _)
      have HBW : Hid (Below w.heap.size w (wr.alloc (Obj.cells #[.int .u32 ya, .int .i64 yn, .int .i64 yv] 53))) := hb0.trans (hba.mono hb0.size)
      have HBA : Hid (Below w0.heap.size w0 _) := hba
      clear hba
      have hNE : ∀ (h : ¬ (ya = a ∧ yn = n)), (¬ ya = a) ∨ (ya = a ∧ ¬ yn = n) := fun h => by omega
      by_cases e : ya = a ∧ yn = n
      · have HE : Hid (r = some yv) := by show _ = _; rw [← HG.out, HY.out, bget_at (x := (ya, yn, yv)) e]
        obtain ⟨rfl, rfl⟩ := e
        go_wp2_with fail
        go_ret2
        refine ⟨?_, HBW.out⟩
        rw [HE.out]; rfl
      · have HE : Hid (bget a n (l.drop (k + 1)) = r) := by show _ = _; rw [← HG.out, HY.out, bget_ne (x := (ya, yn, yv)) e]
        rcases hNE e with e1 | ⟨rfl, e1⟩
        all_goals
          go_wp2_with fail
          go_roundw
          case rel => exact ⟨k + 1, by omega, by simp, HE.out, HBA.out⟩
          case measure => simp [intOf]; omega
    · obtain rfl : k = L := by omega
      have hdr : l.drop k = [] := List.drop_of_length_le (by rw [HLEN.out]; exact Nat.le_refl _)
      have HE : Hid (r = none) := by show _ = _; rw [← HG.out, hdr]; rfl
      clear hdr
      go_wp2_with fail
      go_ret2
      refine ⟨?_, hbw⟩
      rw [HE.out]; rfl

/-- the book's list as Drop builds it -/
structure DropAt (w wA : World) (l : List (Int × Int × Int)) (a n : Int) (k : Nat) (pre : List (Int × Int × Int)) (o : Value) (wr : World) : Prop where
  own : RowOf wr wA.heap.size 53 o pre
  eq : pre ++ bp a n 0 true (l.drop k) = bp a n 0 true l
  bel : Below w.heap.size w wr
  belA : Below wA.heap.size wA wr
  len : pre.length ≤ k
theorem DropAt.next {w wA wr w' : World} {l : List (Int × Int × Int)} {a n : Int} {k : Nat} {pre pre' : List (Int × Int × Int)} {o o' : Value} (h : DropAt w wA l a n k pre o wr) (hb : Below wA.heap.size wr w')
    (hown : RowOf w' wA.heap.size 53 o' pre') (he : pre' ++ bp a n 0 true (l.drop (k + 1)) = bp a n 0 true l) (hs : w.heap.size ≤ wA.heap.size) (hlen : pre'.length ≤ k + 1) : DropAt w wA l a n (k + 1) pre' o' w' :=
  ⟨hown, he, h.bel.trans (hb.mono hs), h.belA.trans hb, hlen⟩
theorem bp_sub {a n v : Int} {l : List (Int × Int × Int)} (h : ∀ d ∈ l, In32 d.1) : ∀ d ∈ bp a n v true l, In32 d.1 := by
  intro d hd
  rcases (bp_mem d).1 hd with ⟨h1, -⟩ | ⟨-, h2⟩
  · cases h1
  · exact h d h2

set_option maxRecDepth 100000 in
set_option maxHeartbeats 1000000 in
theorem bdrop_any (va : Option Addr) (cap : Nat) (l : List (Int × Int × Int)) (a n : Int) (w : World) (hl : Arr3 w va l) (hby : (l.length + 2) * 24 ≤ 140737488355328) :
    Calls Try.prog 17 #[.agg #[.slice va l.length cap], .agg #[.int .u32 a, .int .i64 n]] w fun e w' => ∃ va' cap', e = .returned (.agg #[.slice va' (bp a n 0 true l).length cap']) ∧ Arr3 w' va' (bp a n 0 true l) ∧ Below w.heap.size w w' ∧ ∀ b o, va' = some ⟨b, o, none⟩ → w.heap.size ≤ b := by
  have HL : Hid (Arr3 w va l) := hl
  have hsm := hl.small
  clear hl
  obtain ⟨L, hL⟩ : ∃ L, l.length = L := ⟨_, rfl⟩
  rw [hL] at hsm hby ⊢
  have HLEN : Hid (l.length = L) := hL
  clear hL
  go_enter Try.func17, Try.ntmps17
  go_wp2_with fail
  obtain ⟨wA, hwA⟩ : ∃ wA, ((w.alloc (Obj.cells #[.slice va L cap] 28)).alloc (Obj.cells #[.int .u32 a, .int .i64 n] 33)).alloc (Obj.cells #[.slice none 0 0] 28) = wA := ⟨_, rfl⟩
  obtain ⟨g1, g2, g3, hs0, hb0⟩ := three_blocks w _ _ _ wA hwA.symm
  have HBX : Hid (PutBox w.heap.size va L cap a n wA) := by constructor <;> simp [World.cell?, World.frozen?, g1, g2, g3]
  rw [hwA]
  clear hwA g1 g2 g3
  obtain ⟨b0, p0, p1, r0, z0⟩ := HBX.out
  clear b0 p0 p1 r0 z0
  have HB0 : Hid (Below w.heap.size w wA) := hb0
  have hwl := hb0.size
  have hsA : w.heap.size + 3 ≤ wA.heap.size := by omega
  clear hb0 hs0
  go_loopw [5, 11] (fun ov iv wr => ∃ (k : Nat) (pre : List (Int × Int × Int)), k ≤ L ∧ iv = .int .i64 k ∧ DropAt w wA l a n k pre ov wr) (fun _ i _ => L - (intOf i).toNat)
  case atStart => exact ⟨0, [], by omega, rfl, RowOf.nil _ _ _, by simp, HB0.out, Below.refl _ _, by simp⟩
  case round =>
    obtain ⟨k, pre, hk, rfl, hat⟩ := hrel
    have HAT : Hid (DropAt w wA l a n k pre _ wr) := hat
    clear hat
    have hszr : wA.heap.size ≤ wr.heap.size := HAT.out.belA.size
    by_cases hlt : k < L
    · have hkd : k < l.length := by rw [HLEN.out]; exact hlt
      obtain ⟨b, o, rfl, hbl, c0, c1, c2⟩ := (HL.out.bel HAT.out.bel).cells k hkd
      obtain ⟨⟨ya, yn, yv⟩, hy⟩ : ∃ y, l[k] = y := ⟨_, rfl⟩
      rw [hy] at c0 c1 c2
      have HY : Hid (l.drop k = (ya, yn, yv) :: l.drop (k + 1)) := by show _ = _; rw [drop_at hkd, hy]
      clear hy
      have hkk : (k : Int) < L := by omega
      have kk0 : (0 : Int) ≤ k := by omega
      obtain ⟨b0, p0, p1, r0, z0⟩ := HBX.out.bel HAT.out.belA
      have hl1 : w.heap.size + 1 < wr.heap.size := by omega
      have hpl : pre.length ≤ k := HAT.out.len
      have hNE : ∀ (h : ¬ (ya = a ∧ yn = n)), (¬ ya = a) ∨ (ya = a ∧ ¬ yn = n) := fun h => by omega
      by_cases e : ya = a ∧ yn = n
      · have HE : Hid (pre ++ bp a n 0 true (l.drop (k + 1)) = bp a n 0 true l) := by
          show _ = _; rw [← HAT.out.eq, HY.out, bp_t_eq (x := (ya, yn, yv)) e]
        obtain ⟨rfl, rfl⟩ := e
        go_wp2_with fail
        go_roundw
        case rel => exact ⟨k + 1, pre, by omega, by simp, HAT.out.next ((Below.refl _ _).alloc hszr _) (HAT.out.own.alloc _) HE.out hwl (by omega)⟩
        case measure => simp [intOf]; omega
      · have HE : Hid (pre ++ [(ya, yn, yv)] ++ bp a n 0 true (l.drop (k + 1)) = bp a n 0 true l) := by
          show _ = _; rw [← HAT.out.eq, HY.out, bp_t_ne (x := (ya, yn, yv)) e]; simp
        rcases hNE e with e1 | ⟨rfl, e1⟩
        all_goals
          go_wp2_with (at_builtin; refine app_one Try.underlying26 infoR rfl _ _ rfl wA.heap.size _ pre ya yn yv (wr.alloc (Obj.cells #[.int .u32 ya, .int .i64 yn, .int .i64 yv] 53)) rfl (HAT.out.own.alloc _) _ _ rfl (by simp) (by omega) (by simp; omega) ?_)
          intro g cap2 w5 hown5 hb5 hsp5
          have HB5 : Hid (Below wA.heap.size wr w5) := ((Below.refl _ _).alloc hszr _).trans hb5.out
          clear hb5 hsp5
          go_wp2_with fail
          go_roundw
          case rel => exact ⟨k + 1, pre ++ [(ya, yn, yv)], by omega, by simp, HAT.out.next HB5.out hown5 HE.out hwl (by simp; omega)⟩
          case measure => simp [intOf]; omega
    · obtain rfl : k = L := by omega
      have hdr : l.drop k = [] := List.drop_of_length_le (by rw [HLEN.out]; exact Nat.le_refl _)
      have HU : Hid (∀ d ∈ bp a n 0 true l, In32 d.1) := bp_sub HL.out.u32
      have HE : Hid (pre = bp a n 0 true l) := by have := HAT.out.eq; rw [hdr] at this; show _ = _; simpa [bp] using this
      have HROW : Hid (RowOf wr wA.heap.size 53 u5 (bp a n 0 true l)) := by have := HAT.out.own; rw [HE.out] at this; exact this
      obtain ⟨ra, rc, hu5, -, -⟩ := arr_of_own HROW.out HU.out
      subst hu5
      obtain ⟨b0, p0, p1, r0, z0⟩ := HBX.out.bel HAT.out.belA
      have hbr := HAT.out.bel
      clear HAT HE hdr
      go_wp2_with fail
      refine bodyPost_ret (v := .agg #[.slice ra (bp a n 0 true l).length rc]) (by simp [results, Try.results17, go_sem, r0]) rfl ?_
      exact put_end (wA := wA) (w.heap.size + 1 + 1) (by omega) (by omega) hbr HROW.out HU.out

theorem four_blocks (w : World) (o1 o2 o3 : Obj) (W : World) (hW : W = ((w.alloc o1).alloc o2).alloc o3) : W.heap[w.heap.size]? = some o1 ∧ W.heap[w.heap.size + 1]? = some o2 ∧ W.heap[w.heap.size + 1 + 1]? = some o3 ∧ W.heap.size = w.heap.size + 3 ∧ Below w.heap.size w W := three_blocks w o1 o2 o3 W hW
/-- Match's memory behind k rounds -/
structure MatAt (w : World) (s : Nat) (va : Option Addr) (L cap : Nat) (l : List (Int × Int × Int)) (x : Int) (k : Nat) (acc : Option (Int × Int × Int)) (W : World) : Prop where
  bel : Below w.heap.size w W
  lt : w.heap.size = s ∧ s + 1 + 1 < W.heap.size
  b0 : W.cell? ⟨s, 0, none⟩ = some (.slice va L cap)
  r0 : W.cell? ⟨s + 1, 0, none⟩ = some (.int .u32 0)
  r1 : W.cell? ⟨s + 1, 1, none⟩ = some (.int .i64 0)
  r2 : W.cell? ⟨s + 1, 2, none⟩ = some (.int .i64 0)
  rz0 : W.frozen? ⟨s + 1, 0, none⟩ = false
  rz1 : W.frozen? ⟨s + 1, 1, none⟩ = false
  rz2 : W.frozen? ⟨s + 1, 2, none⟩ = false
  m0 : W.cell? ⟨s + 1 + 1, 0, none⟩ = some (.int .u32 (mA acc))
  m1 : W.cell? ⟨s + 1 + 1, 1, none⟩ = some (.int .i64 (mN acc))
  m2 : W.cell? ⟨s + 1 + 1, 2, none⟩ = some (.int .i64 (mV acc))
  mz0 : W.frozen? ⟨s + 1 + 1, 0, none⟩ = false
  mz1 : W.frozen? ⟨s + 1 + 1, 1, none⟩ = false
  mz2 : W.frozen? ⟨s + 1 + 1, 2, none⟩ = false
  eq : bm x acc (l.drop k) = bm x none l
theorem MatAt.next {w : World} {s : Nat} {va : Option Addr} {L cap : Nat} {l : List (Int × Int × Int)} {x : Int} {k : Nat} {acc : Option (Int × Int × Int)} {W W' : World} (h : MatAt w s va L cap l x k acc W) (hb : Below W.heap.size W W') : MatAt w s va L cap l x k acc W' :=
  ⟨h.bel.trans (hb.mono h.bel.size), ⟨h.lt.1, Nat.lt_of_lt_of_le h.lt.2 hb.size⟩, cell_bel h.b0 hb, cell_bel h.r0 hb, cell_bel h.r1 hb, cell_bel h.r2 hb, (frozen_bel h.r0 hb).trans h.rz0, (frozen_bel h.r1 hb).trans h.rz1, (frozen_bel h.r2 hb).trans h.rz2, cell_bel h.m0 hb, cell_bel h.m1 hb, cell_bel h.m2 hb, (frozen_bel h.m0 hb).trans h.mz0, (frozen_bel h.m1 hb).trans h.mz1, (frozen_bel h.m2 hb).trans h.mz2, h.eq⟩
theorem MatAt.turn {w : World} {s : Nat} {va : Option Addr} {L cap : Nat} {l : List (Int × Int × Int)} {x : Int} {k : Nat} {acc : Option (Int × Int × Int)} {W : World} (h : MatAt w s va L cap l x k acc W) (acc' : Option (Int × Int × Int)) (he : bm x acc' (l.drop (k + 1)) = bm x none l) (ya yn yv : Int) (ha : mA acc' = ya) (hn : mN acc' = yn) (hv : mV acc' = yv) :
    MatAt w s va L cap l x (k + 1) acc' (((W.setCell ⟨s + 1 + 1, 0, none⟩ (.int .u32 ya)).setCell ⟨s + 1 + 1, 1, none⟩ (.int .i64 yn)).setCell ⟨s + 1 + 1, 2, none⟩ (.int .i64 yv)) := by
  obtain ⟨l1, l2⟩ := h.lt
  refine ⟨((h.bel.setCell (p := ⟨s + 1 + 1, 0, none⟩) (by show _ ≤ s + 1 + 1; omega) _).setCell (p := ⟨s + 1 + 1, 1, none⟩) (by show _ ≤ s + 1 + 1; omega) _).setCell (p := ⟨s + 1 + 1, 2, none⟩) (by show _ ≤ s + 1 + 1; omega) _, ⟨l1, by simpa using l2⟩, ?_, ?_, ?_, ?_, ?_, ?_, ?_, ?_, ?_, ?_, ?_, ?_, ?_, he⟩
  all_goals first
    | (simp [go_sem, h.b0, h.r0, h.r1, h.r2, h.m0, h.m1, h.m2, ha, hn, hv]; done)
    | (simp [go_sem, h.rz0, h.rz1, h.rz2, h.mz0, h.mz1, h.mz2]; done)

set_option maxRecDepth 100000 in
set_option maxHeartbeats 2000000 in
theorem bmatch_any (va : Option Addr) (cap : Nat) (l : List (Int × Int × Int)) (x : Int) (x0 : 0 ≤ x) (x1 : x < 4294967296) (w : World) (hl : Arr3 w va l) (r : Option (Int × Int × Int)) (hr : bm x none l = r) :
    Calls Try.prog 19 #[.agg #[.slice va l.length cap], .int .u32 x] w fun e w' => e = .returned (.tuple #[.agg #[.int .u32 (mA r), .int .i64 (mN r), .int .i64 (mV r)], .bool r.isSome]) ∧ Below w.heap.size w w' := by
  have HL : Hid (Arr3 w va l) := hl
  have HR : Hid (bm x none l = r) := hr
  have hsm := hl.small
  clear hl hr
  obtain ⟨L, hL⟩ : ∃ L, l.length = L := ⟨_, rfl⟩
  rw [hL] at hsm ⊢
  have HLEN : Hid (l.length = L) := hL
  clear hL
  go_enter Try.func19, Try.ntmps19
  go_wp2_with fail
  obtain ⟨w0, hw0⟩ : ∃ w0, ((w.alloc (Obj.cells #[.slice va L cap] 28)).alloc (Obj.cells #[.int .u32 0, .int .i64 0, .int .i64 0] 53)).alloc (Obj.cells #[.int .u32 0, .int .i64 0, .int .i64 0] 53) = w0 := ⟨_, rfl⟩
  obtain ⟨g1, g2, g3, hs0, hb0⟩ := four_blocks w _ _ _ w0 hw0.symm
  have HM0 : Hid (MatAt w w.heap.size va L cap l x 0 none w0) := by
    refine ⟨hb0, ⟨rfl, by omega⟩, ?_, ?_, ?_, ?_, ?_, ?_, ?_, ?_, ?_, ?_, ?_, ?_, ?_, by simp⟩ <;> simp [World.cell?, World.frozen?, g1, g2, g3, mA, mN, mV]
  rw [hw0]
  clear hw0 g1 g2 g3 hs0 hb0
  obtain ⟨s, hs⟩ : ∃ s, w.heap.size = s := ⟨_, rfl⟩
  have HS : Hid (w.heap.size = s) := hs
  rw [hs] at HM0 ⊢
  clear hs
  go_loopw [7, 14] (fun fv iv wr => ∃ (k : Nat) (acc : Option (Int × Int × Int)), k ≤ L ∧ iv = .int .i64 k ∧ fv = .bool acc.isSome ∧ MatAt w s va L cap l x k acc wr) (fun _ i _ => L - (intOf i).toNat)
  case atStart => exact ⟨0, none, by omega, rfl, rfl, HM0.out⟩
  case round =>
    obtain ⟨k, acc, hk, rfl, rfl, hma⟩ := hrel
    have HMA : Hid (MatAt w s va L cap l x k acc wr) := hma
    clear hma HM0
    by_cases hlt : k < L
    · have hkd : k < l.length := by rw [HLEN.out]; exact hlt
      obtain ⟨b, o, rfl, hbl, c0, c1, c2⟩ := (HL.out.bel HMA.out.bel).cells k hkd
      have hin := HL.out.u32 _ (List.getElem_mem hkd)
      obtain ⟨⟨ya, yn, yv⟩, hy⟩ : ∃ y, l[k] = y := ⟨_, rfl⟩
      rw [hy] at c0 c1 c2 hin
      have HY : Hid (l.drop k = (ya, yn, yv) :: l.drop (k + 1)) := by show _ = _; rw [drop_at hkd, hy]
      have y0 : 0 ≤ ya := hin.1
      have y1 : ya < 4294967296 := hin.2
      clear hy hin
      have hkk : (k : Int) < L := by omega
      have kk0 : (0 : Int) ≤ k := by omega
      obtain ⟨wB, hwB⟩ : ∃ wB, wr.alloc (Obj.cells #[.int .u32 ya, .int .i64 yn, .int .i64 yv] 53) = wB := ⟨_, rfl⟩
      have hbB : Below wr.heap.size wr wB := by rw [← hwB]; exact (Below.refl _ wr).alloc (Nat.le_refl _) _
      have HB3 : Hid (Box3 wB wr.heap.size ya yn yv) := by rw [← hwB]; exact Box3.new wr ya yn yv _
      have HWB : Hid (wr.alloc (Obj.cells #[.int .u32 ya, .int .i64 yn, .int .i64 yv] 53) = wB) := hwB
      have HMB : Hid (MatAt w s _ L cap l x k acc wB) := HMA.out.next hbB
      have hlr : s + 1 + 1 < wr.heap.size := HMA.out.lt.2
      clear hwB hbB HMA
      cases hh : has ya yn x with
      | false =>
        have HE : Hid (bm x acc (l.drop (k + 1)) = bm x none l) := by
          show _ = _; rw [← HMB.out.eq, HY.out, bm_cons]; unfold bm1; rw [if_neg (by simp [hh])]
        have HH : Hid (has ya yn x = false) := hh
        clear hh
        go_wp2_with fail
        rw [HWB.out]
        refine (rhas_no ya yn x HH.out y0 y1 x0 x1 wB).mono ?_
        rintro e w4 ⟨rfl, hb4⟩
        have HM4 : Hid (MatAt w s _ L cap l x k acc w4) := HMB.out.next hb4
        have HB4 : Hid (Box3 w4 wr.heap.size ya yn yv) := HB3.out.bel hb4
        clear hb4 c0 c1 c2
        go_wp2_with fail
        exact ⟨⟨k + 1, acc, by omega, by simp, rfl, { HM4.out with eq := HE.out }⟩, by simp [intOf]; omega⟩
      | true =>
        have HH : Hid (has ya yn x = true) := hh
        clear hh
        go_wp2_with fail
        rw [HWB.out]
        refine (rhas_yes ya yn x HH.out y0 y1 x0 x1 wB).mono ?_
        rintro e w4 ⟨rfl, hb4⟩
        have HM4 : Hid (MatAt w s _ L cap l x k acc w4) := HMB.out.next hb4
        have HB4 : Hid (Box3 w4 wr.heap.size ya yn yv) := HB3.out.bel hb4
        clear hb4 c0 c1 c2 HWB
        obtain ⟨rb, hrb⟩ : ∃ rb, wr.heap.size = rb := ⟨_, rfl⟩
        rw [hrb] at HB4 hlr ⊢
        clear hrb
        have d0 := HB4.out.1
        have d1 := HB4.out.2.1
        have d2 := HB4.out.2.2
        have m0 := HM4.out.m0
        have m1 := HM4.out.m1
        have m2 := HM4.out.m2
        have z0 := HM4.out.mz0
        have z1 := HM4.out.mz1
        have z2 := HM4.out.mz2
        cases acc with
        | none =>
          have HE : Hid (bm x (some (ya, yn, yv)) (l.drop (k + 1)) = bm x none l) := by
            show _ = _; rw [← HMB.out.eq, HY.out, bm_cons]; unfold bm1; rw [if_pos ⟨HH.out, .inl rfl⟩]
          go_wp2_with fail
          exact ⟨⟨k + 1, some (ya, yn, yv), by omega, by simp, rfl, HM4.out.turn _ HE.out ya yn yv rfl rfl rfl⟩, by simp [intOf]; omega⟩
        | some q =>
          obtain ⟨qa, qn, qv⟩ := q
          have hq : mN (some (qa, qn, qv)) = qn := rfl
          rw [hq] at m1
          by_cases hgt : qn < yn
          · have HE : Hid (bm x (some (ya, yn, yv)) (l.drop (k + 1)) = bm x none l) := by
              show _ = _; rw [← HMB.out.eq, HY.out, bm_cons]; unfold bm1; rw [if_pos ⟨HH.out, .inr hgt⟩]
            clear hq
            go_wp2_with fail
            exact ⟨⟨k + 1, some (ya, yn, yv), by omega, by simp, rfl, HM4.out.turn _ HE.out ya yn yv rfl rfl rfl⟩, by simp [intOf]; omega⟩
          · have HE : Hid (bm x (some (qa, qn, qv)) (l.drop (k + 1)) = bm x none l) := by
              show _ = _; rw [← HMB.out.eq, HY.out, bm_cons]; unfold bm1
              rw [if_neg]
              rintro ⟨-, h | h⟩
              · cases h
              · exact hgt h
            clear hq
            go_wp2_with fail
            exact ⟨⟨k + 1, some (qa, qn, qv), by omega, by simp, rfl, { HM4.out with eq := HE.out }⟩, by simp [intOf]; omega⟩
    · obtain rfl : k = L := by omega
      have hdr : l.drop k = [] := List.drop_of_length_le (by rw [HLEN.out]; exact Nat.le_refl _)
      have HE : Hid (acc = r) := by show _ = _; have := HMA.out.eq; rw [hdr, HR.out] at this; exact this
      clear hdr
      obtain ⟨bel, lt, b0, r0, r1, r2, rz0, rz1, rz2, m0, m1, m2, mz0, mz1, mz2, -⟩ := HMA.out
      have HBEL : Hid (Below w.heap.size w wr) := bel
      have HEND : Hid (∀ a b c, Below w.heap.size w (((wr.setCell ⟨s + 1, 0, none⟩ a).setCell ⟨s + 1, 1, none⟩ b).setCell ⟨s + 1, 2, none⟩ c)) := fun a b c => by
        have := HS.out
        exact ((bel.setCell (p := ⟨s + 1, 0, none⟩) (by show _ ≤ s + 1; omega) _).setCell (p := ⟨s + 1, 1, none⟩) (by show _ ≤ s + 1; omega) _).setCell (p := ⟨s + 1, 2, none⟩) (by show _ ≤ s + 1; omega) _
      rw [HE.out] at m0 m1 m2 ⊢
      clear bel lt HMA HE
      go_wp2_with fail
      refine bodyPost_ret (v := .tuple #[.agg #[.int .u32 (mA r), .int .i64 (mN r), .int .i64 (mV r)], .bool r.isSome]) (by simp [results, Try.results19, go_sem, r0, r1, r2]) rfl ?_
      exact ⟨rfl, HEND.out _ _ _⟩

end Go.Proofs.Ytibmhdfodmkahaa.Bk
