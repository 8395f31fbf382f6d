/- The book's Put: what it answers. -/
import Derived.Test.YtibmhdfodmkahaaBkA
namespace Go.Proofs.Ytibmhdfodmkahaa.Bk
open Go.ChangeShapes Go.WideShapes Go.ChangeAt Go.RowKit Go.Proofs.Ytibmhdfodmkahaa.PM Go.Proofs.Ytibmhdfodmkahaa.TrM Go.Proofs.Ytibmhdfodmkahaa.Ask
set_option linter.unusedVariables false

theorem bp_t_eq {a n v : Int} {x : Int × Int × Int} {xs : List (Int × Int × Int)} (e : x.1 = a ∧ x.2.1 = n) : bp a n v true (x :: xs) = bp a n v true xs := by
  conv => lhs; unfold bp
  rw [if_neg (by simp), if_pos e]; rfl
theorem bp_t_ne {a n v : Int} {x : Int × Int × Int} {xs : List (Int × Int × Int)} (e : ¬ (x.1 = a ∧ x.2.1 = n)) : bp a n v true (x :: xs) = x :: bp a n v true xs := by
  conv => lhs; unfold bp
  rw [if_neg (by simp), if_neg e]; rfl
theorem bp_f_eq {a n v : Int} {x : Int × Int × Int} {xs : List (Int × Int × Int)} (ho : ord a n x.1 x.2.1 ≤ 0) (e : x.1 = a ∧ x.2.1 = n) : bp a n v false (x :: xs) = (a, n, v) :: bp a n v true xs := by
  conv => lhs; unfold bp
  rw [if_pos ⟨rfl, ho⟩, if_pos e, decide_eq_true ho]; rfl
theorem bp_f_ne {a n v : Int} {x : Int × Int × Int} {xs : List (Int × Int × Int)} (ho : ord a n x.1 x.2.1 ≤ 0) (e : ¬ (x.1 = a ∧ x.2.1 = n)) : bp a n v false (x :: xs) = (a, n, v) :: x :: bp a n v true xs := by
  conv => lhs; unfold bp
  rw [if_pos ⟨rfl, ho⟩, if_neg e, decide_eq_true ho]; rfl
theorem bp_f_no {a n v : Int} {x : Int × Int × Int} {xs : List (Int × Int × Int)} (ho : ¬ ord a n x.1 x.2.1 ≤ 0) : bp a n v false (x :: xs) = x :: bp a n v false xs := by
  have e : ¬ (x.1 = a ∧ x.2.1 = n) := fun e => ho (ord_le.2 (.inr ⟨e.1.symm, by omega⟩))
  conv => lhs; unfold bp
  rw [if_neg (fun h => ho h.2), if_neg e, decide_eq_false ho]; rfl

/-- the book's list as it is built -/
structure PutAt (w wA : World) (l : List (Int × Int × Int)) (a n v : Int) (k : Nat) (pre : List (Int × Int × Int)) (dn : Bool) (o : Value) (wr : World) : Prop where
  own : RowOf wr wA.heap.size 53 o pre
  eq : pre ++ bp a n v dn (l.drop k) = bp a n v false l
  bel : Below w.heap.size w wr
  belA : Below wA.heap.size wA wr
  len : pre.length ≤ k + (if dn = true then 1 else 0)

theorem PutAt.next {w wA wr wB w' : World} {l : List (Int × Int × Int)} {a n v : Int} {k : Nat} {pre pre' : List (Int × Int × Int)} {dn dn' : Bool} {o o' : Value} (h : PutAt w wA l a n v k pre dn o wr) (hb : Below wA.heap.size wr w')
    (hown : RowOf w' wA.heap.size 53 o' pre') (he : pre' ++ bp a n v dn' (l.drop (k + 1)) = bp a n v false l) (hs : w.heap.size ≤ wA.heap.size) (hlen : pre'.length ≤ k + 1 + (if dn' = true then 1 else 0)) : PutAt w wA l a n v (k + 1) pre' dn' o' w' :=
  ⟨hown, he, h.bel.trans (hb.mono hs), h.belA.trans hb, hlen⟩
theorem PutAt.lenF {w wA wr : World} {l : List (Int × Int × Int)} {a n v : Int} {k : Nat} {pre : List (Int × Int × Int)} {dn : Bool} {o : Value} (h : PutAt w wA l a n v k pre dn o wr) (hd : dn = false) : pre.length ≤ k := by
  have := h.len; subst hd; simpa using this
/-- how many there are, at most -/
theorem bp_len (a n v : Int) (l : List (Int × Int × Int)) : ∀ dn, (bp a n v dn l).length ≤ l.length + 1 - (if dn = true then 1 else 0) := by
  induction l with
  | nil => intro dn; cases dn <;> simp [bp]
  | cons x xs ih =>
    intro dn
    cases dn with
    | true =>
      have := ih true
      by_cases e : x.1 = a ∧ x.2.1 = n
      · rw [bp_t_eq e]; simp at this ⊢; omega
      · rw [bp_t_ne e]; simp at this ⊢; omega
    | false =>
      have h1 := ih true
      have h2 := ih false
      by_cases ho : ord a n x.1 x.2.1 ≤ 0
      · by_cases e : x.1 = a ∧ x.2.1 = n
        · rw [bp_f_eq ho e]; simp at h1 ⊢; omega
        · rw [bp_f_ne ho e]; simp at h1 ⊢; omega
      · rw [bp_f_no ho]; simp at h2 ⊢; omega
theorem bp_u32 {a n v : Int} {l : List (Int × Int × Int)} (a0 : 0 ≤ a) (a1 : a < 4294967296) (h : ∀ d ∈ l, In32 d.1) : ∀ d ∈ bp a n v false l, In32 d.1 := by
  intro d hd
  rcases (bp_mem d).1 hd with ⟨-, rfl⟩ | ⟨-, h2⟩
  · exact ⟨a0, a1⟩
  · exact h d h2
/-- the boxes that Put lays -/
structure PutBox (s : Nat) (va : Option Addr) (L cap : Nat) (a n : Int) (W : World) : Prop where
  b0 : W.cell? ⟨s, 0, none⟩ = some (.slice va L cap)
  p0 : W.cell? ⟨s + 1, 0, none⟩ = some (.int .u32 a)
  p1 : W.cell? ⟨s + 1, 1, none⟩ = some (.int .i64 n)
  r0 : W.cell? ⟨s + 1 + 1, 0, none⟩ = some (.slice none 0 0)
  z0 : W.frozen? ⟨s + 1 + 1, 0, none⟩ = false
theorem frozen_bel {w w' : World} {a : Addr} {v : Value} (h : w.cell? a = some v) (hb : Below w.heap.size w w') : w'.frozen? a = w.frozen? a := frozen_kept h (grown_bel hb none) (fun r e => by cases e)
theorem PutBox.bel {s : Nat} {va : Option Addr} {L cap : Nat} {a n : Int} {W W' : World} (h : PutBox s va L cap a n W) (hb : Below W.heap.size W W') : PutBox s va L cap a n W' :=
  ⟨cell_bel h.b0 hb, cell_bel h.p0 hb, cell_bel h.p1 hb, cell_bel h.r0 hb, (frozen_bel h.r0 hb).trans h.z0⟩
theorem three_blocks (w : World) (o1 o2 o3 : Obj) (W : World) (hW : W = ((w.alloc o1).alloc o2).alloc o3) : W.heap[w.heap.size]? = some o1 ∧ W.heap[w.heap.size + 1]? = some o2 ∧ W.heap[w.heap.size + 1 + 1]? = some o3 ∧ W.heap.size = w.heap.size + 3 ∧ Below w.heap.size w W := by
  subst hW
  have e1 := World.alloc_heap_new w o1
  have e2 := World.alloc_heap_new (w.alloc o1) o2
  have e3 := World.alloc_heap_new ((w.alloc o1).alloc o2) o3
  rw [World.size_alloc] at e2 e3
  rw [World.size_alloc] at e3
  exact ⟨hkA _ (hkA _ e1), hkA _ e2, e3, by simp, (((Below.refl _ w).alloc (Nat.le_refl _) _).alloc (by simp) _).alloc (by simp; omega) _⟩

theorem RowOf.set {w : World} {base : Nat} {E : TypeId} {v : Value} {l : List (Int × Int × Int)} (h : RowOf w base E v l) {b o : Nat} (hb : b < base) (u : Value) : RowOf (w.setCell ⟨b, o, none⟩ u) base E v l := ownsRow_setCell_below h hb u
/-- how the book's Put ends -/
theorem put_end {w wA W : World} {l : List (Int × Int × Int)} {ra : Option Addr} {n rc : Nat} (s : Nat) (hs : w.heap.size ≤ s) (hsA : s < wA.heap.size) (hb : Below w.heap.size w W) (hrow : RowOf W wA.heap.size 53 (.slice ra n rc) l) (hu : ∀ d ∈ l, In32 d.1) :
    ∃ va' cap', Ending.returned (.agg #[.slice ra n rc]) = .returned (.agg #[.slice va' l.length cap']) ∧ Arr3 (W.setCell ⟨s, 0, none⟩ (.slice ra n rc)) va' l ∧ Below w.heap.size w (W.setCell ⟨s, 0, none⟩ (.slice ra n rc)) ∧ ∀ b o, va' = some ⟨b, o, none⟩ → w.heap.size ≤ b := by
  obtain ⟨a', c', e, harr, hge⟩ := arr_of_own (hrow.set (o := 0) hsA (.slice ra n rc)) hu
  refine ⟨a', c', by rw [e], harr, hb.setCell (p := ⟨s, 0, none⟩) hs _, fun b o h => ?_⟩
  have := hge b o h; omega

theorem Box3.spared {w w' : World} {b : Nat} {a n v : Int} {u : Value} (h : Box3 w b a n v) (hs : Spares u w w') (hne : some b ≠ u.ownBlock) : Box3 w' b a n v := ⟨hs _ _ h.1 hne, hs _ _ h.2.1 hne, hs _ _ h.2.2 hne⟩

set_option maxRecDepth 100000 in
set_option maxHeartbeats 4000000 in
theorem bput_any (va : Option Addr) (cap : Nat) (l : List (Int × Int × Int)) (a n v : Int) (w : World) (hl : Arr3 w va l) (a0 : 0 ≤ a) (a1 : a < 4294967296) (hby : (l.length + 2) * 24 ≤ 140737488355328) (hv : vld a n = true) :
    Calls Try.prog 9 #[.agg #[.slice va l.length cap], .agg #[.int .u32 a, .int .i64 n], .int .i64 v] w fun e w' => ∃ va' cap', e = .returned (.agg #[.slice va' (bp a n v false l).length cap']) ∧ Arr3 w' va' (bp a n v false l) ∧ Below w.heap.size w w' ∧ ∀ b o, va' = some ⟨b, o, none⟩ → w.heap.size ≤ b := by
  have HL : Hid (Arr3 w va l) := hl
  have HV : Hid (vld a n = true) := hv
  have hsm := hl.small
  clear hl hv
  obtain ⟨L, hL⟩ : ∃ L, l.length = L := ⟨_, rfl⟩
  rw [hL] at hsm hby ⊢
  have HLEN : Hid (l.length = L) := hL
  clear hL
  go_enter Try.func9, Try.ntmps9
  go_wp2_with fail
  obtain ⟨w0, hw0⟩ : ∃ w0, ((w.alloc (Obj.cells #[.slice va L cap] 28)).alloc (Obj.cells #[.int .u32 a, .int .i64 n] 33)).alloc (Obj.cells #[.slice none 0 0] 28) = w0 := ⟨_, rfl⟩
  obtain ⟨g1, g2, g3, hs0, hb0⟩ := three_blocks w _ _ _ w0 hw0.symm
  have HBX : Hid (PutBox w.heap.size va L cap a n w0) := by constructor <;> simp [World.cell?, World.frozen?, g1, g2, g3]
  rw [hw0]
  clear hw0 g1 g2 g3
  refine (rvalid_yes a n HV.out a0 a1 w0).mono ?_
  rintro e wA ⟨rfl, hbA⟩
  have HBA : Hid (PutBox w.heap.size va L cap a n wA) := HBX.out.bel hbA
  have hbwA : Below w.heap.size w wA := hb0.trans (hbA.mono hb0.size)
  have hsA : w.heap.size + 3 ≤ wA.heap.size := by have := hbA.size; omega
  clear HBX
  obtain ⟨b0, p0, p1, r0, z0⟩ := HBA.out
  go_wp2_with fail
  clear b0 p0 p1 r0 z0
  go_loopw [7, 8, 18] (fun ov dv iv wr => ∃ (k : Nat) (pre : List (Int × Int × Int)) (dn : Bool), k ≤ L ∧ iv = .int .i64 k ∧ dv = .bool dn ∧ PutAt w wA l a n v k pre dn ov wr) (fun _ _ i _ => L - (intOf i).toNat)
  case atStart => exact ⟨0, [], false, by omega, rfl, rfl, RowOf.nil _ _ _, by simp, hbwA, Below.refl _ _, by simp⟩
  case round =>
    obtain ⟨k, pre, dn, hk, rfl, rfl, hat⟩ := hrel
    have HAT : Hid (PutAt w wA l a n v k pre dn _ wr) := hat
    clear hat
    have hszr : wA.heap.size ≤ wr.heap.size := HAT.out.belA.size
    by_cases hlt : k < L
    · have hkd : k < l.length := by rw [HLEN.out]; exact hlt
      obtain ⟨b, o, rfl, hbl, c0, c1, c2⟩ := (HL.out.bel HAT.out.bel).cells k hkd
      obtain ⟨y, hy⟩ : ∃ y, l[k] = y := ⟨_, rfl⟩
      rw [hy] at c0 c1 c2
      have HY : Hid (l.drop k = y :: l.drop (k + 1)) := by show _ = _; rw [drop_at hkd, hy]
      have hyb : In32 y.1 := hy ▸ HL.out.u32 _ (List.getElem_mem hkd)
      clear hy
      obtain ⟨ya, yn, yv⟩ := y
      have y0 : 0 ≤ ya := hyb.1
      have y1 : ya < 4294967296 := hyb.2
      clear hyb
      have hkk : (k : Int) < L := by omega
      have kk0 : (0 : Int) ≤ k := by omega
      obtain ⟨hbC, hsC⟩ := three wr ya yn yv 53
      have HB3 : Hid (Box3 _ wr.heap.size ya yn yv) := Box3.new wr ya yn yv 53
      obtain ⟨b0, p0, p1, r0, z0⟩ := HBA.out.bel HAT.out.belA
      have hl1 : w.heap.size + 1 < wr.heap.size := by omega
      have hpl : pre.length ≤ k + 1 := by have := HAT.out.len; split at this <;> omega
      have hNE : ∀ (h : ¬ (ya = a ∧ yn = n)), (¬ ya = a) ∨ (ya = a ∧ ¬ yn = n) := fun h => by omega
      cases dn with
      | true =>
        by_cases e : ya = a ∧ yn = n
        · obtain ⟨rfl, rfl⟩ := e
          go_wp2_with fail
          go_roundw
          case rel => exact ⟨k + 1, pre, true, by omega, by simp, rfl, HAT.out.next (wB := wr) ((Below.refl _ _).alloc hszr _) (HAT.out.own.alloc _) (by rw [← HAT.out.eq, HY.out, bp_t_eq (x := (ya, yn, yv)) ⟨rfl, rfl⟩]) hbwA.size (by have := HAT.out.len; simp at this ⊢; omega)⟩
          case measure => simp [intOf]; omega
        · have HE : Hid (pre ++ [(ya, yn, yv)] ++ bp a n v true (l.drop (k + 1)) = bp a n v false l) := by
            show _ = _; rw [← HAT.out.eq, HY.out, bp_t_ne (x := (ya, yn, yv)) e]; simp
          rcases hNE e with e1 | ⟨rfl, e1⟩
          all_goals
            go_wp2_with (at_builtin; refine app_one Try.underlying26 infoR rfl _ _ rfl wA.heap.size _ pre ya yn yv (wr.alloc (Obj.cells #[.int .u32 ya, .int .i64 yn, .int .i64 yv] 53)) rfl (HAT.out.own.alloc _) _ _ rfl (by simp) (by omega) (by simp; omega) ?_)
            intro g cap2 w5 hown5 hb5 hsp5
            have HB5 : Hid (Below wA.heap.size wr w5) := ((Below.refl _ _).alloc hszr _).trans hb5.out
            clear hb5 hsp5
            go_wp2_with fail
            go_roundw
            case rel => exact ⟨k + 1, pre ++ [(ya, yn, yv)], true, by omega, by simp, rfl, HAT.out.next (wB := wr) HB5.out hown5 HE.out hbwA.size (by have := HAT.out.len; simp at this ⊢; omega)⟩
            case measure => simp [intOf]; omega
      | false =>
        go_wp2_with fail
        obtain ⟨wB, hwB⟩ : ∃ wB, wr.alloc (Obj.cells #[.int .u32 ya, .int .i64 yn, .int .i64 yv] 53) = wB := ⟨_, rfl⟩
        rw [hwB] at hbC hsC HB3 ⊢
        have HOWB : Hid (RowOf wB wA.heap.size 53 u7 pre) := by rw [← hwB]; exact HAT.out.own.alloc _
        clear hwB c0 c1 c2 b0 p0 p1 r0 z0
        refine (rorder_any a n ya yn a0 a1 y0 y1 wB).mono ?_
        rintro e w4 ⟨rfl, hb4⟩
        have hbr4 : Below wr.heap.size wr w4 := hbC.trans (hb4.mono hbC.size)
        have HB4 : Hid (Box3 w4 wr.heap.size ya yn yv) := HB3.out.bel hb4
        have HO4 : Hid (RowOf w4 wA.heap.size 53 u7 pre) := HOWB.out.bel hb4
        have HA4 : Hid (Below wA.heap.size wr w4) := hbr4.mono hszr
        have hs4 : wA.heap.size ≤ w4.heap.size := Nat.le_trans hszr hbr4.size
        obtain ⟨d0, d1, d2⟩ := HB4.out
        obtain ⟨b0, p0, p1, r0, z0⟩ := HBA.out.bel (HAT.out.belA.trans HA4.out)
        clear HOWB HB3
        by_cases ho : ord a n ya yn ≤ 0
        · by_cases e : ya = a ∧ yn = n
          · have HE : Hid (pre ++ [(a, n, v)] ++ bp a n v true (l.drop (k + 1)) = bp a n v false l) := by
              show _ = _; rw [← HAT.out.eq, HY.out, bp_f_eq (x := (ya, yn, yv)) ho e]; simp
            obtain ⟨rfl, rfl⟩ := e
            go_wp2_with (at_builtin; refine app_one Try.underlying26 infoR rfl _ _ rfl wA.heap.size (u7) pre ya yn v w4 rfl (HO4.out) _ _ rfl (by simp) (by omega) (by omega) ?_)
            intro g cap2 w5 hown5 hb5 hsp5
            have HB5 : Hid (Below wA.heap.size wr w5) := HA4.out.trans hb5.out
            have hs5 := hb5.out.size
            obtain ⟨d0', d1', d2'⟩ := HB4.out.spared hsp5.out HAT.out.own.new_ne
            obtain ⟨b0', p0', p1', r0', z0'⟩ := HBA.out.bel (HAT.out.belA.trans HB5.out)
            clear hb5 hsp5 d0 d1 d2 b0 p0 p1 r0 z0
            go_wp2_with fail
            go_roundw
            case rel => exact ⟨k + 1, pre ++ [(ya, yn, v)], true, by omega, by simp, rfl, HAT.out.next (wB := wr) HB5.out hown5 HE.out hbwA.size (by have := HAT.out.len; simp at this ⊢; omega)⟩
            case measure => simp [intOf]; omega
          · have HE : Hid (pre ++ [(a, n, v)] ++ [(ya, yn, yv)] ++ bp a n v true (l.drop (k + 1)) = bp a n v false l) := by
              show _ = _; rw [← HAT.out.eq, HY.out, bp_f_ne (x := (ya, yn, yv)) ho e]; simp
            have hpl2 : pre.length ≤ k := HAT.out.lenF rfl
            rcases hNE e with e1 | ⟨rfl, e1⟩
            · go_wp2_with (at_builtin; refine app_one Try.underlying26 infoR rfl _ _ rfl wA.heap.size (u7) pre a n v w4 rfl (HO4.out) _ _ rfl (by simp) (by omega) (by omega) ?_)
              intro g cap2 w5 hown5 hb5 hsp5
              have HB5 : Hid (Below wA.heap.size wr w5) := HA4.out.trans hb5.out
              have hs5 := hb5.out.size
              obtain ⟨d0', d1', d2'⟩ := HB4.out.spared hsp5.out HAT.out.own.new_ne
              obtain ⟨b0', p0', p1', r0', z0'⟩ := HBA.out.bel (HAT.out.belA.trans HB5.out)
              clear hb5 hsp5 d0 d1 d2 b0 p0 p1 r0 z0
              obtain ⟨pre5, hp5⟩ : ∃ q, pre ++ [(a, n, v)] = q := ⟨_, rfl⟩
              have hp5l : pre5.length = pre.length + 1 := by rw [← hp5]; simp
              have HP5 : Hid (pre ++ [(a, n, v)] = pre5) := hp5
              rw [hp5] at hown5
              clear hp5
              generalize Value.slice (some ⟨g, 0, none⟩) (pre.length + 1) cap2 = V5 at *
              go_wp2_with (at_builtin; refine app_one Try.underlying26 infoR rfl _ _ rfl wA.heap.size V5 pre5 ya yn yv w5 rfl hown5 _ _ rfl (by simp) (by omega) (by omega) ?_)
              intro g6 cap6 w6 hown6 hb6 hsp6
              have HB6 : Hid (Below wA.heap.size wr w6) := HB5.out.trans hb6.out
              clear hb6 hsp6
              go_wp2_with fail
              go_roundw
              case rel => exact ⟨k + 1, pre5 ++ [(ya, yn, yv)], true, by omega, by simp, rfl, HAT.out.next (wB := wr) HB6.out hown6 (by rw [← HP5.out]; exact HE.out) hbwA.size (by have := HAT.out.len; simp at this ⊢; omega)⟩
              case measure => simp [intOf]; omega
            · go_wp2_with (at_builtin; refine app_one Try.underlying26 infoR rfl _ _ rfl wA.heap.size (u7) pre ya n v w4 rfl (HO4.out) _ _ rfl (by simp) (by omega) (by omega) ?_)
              intro g cap2 w5 hown5 hb5 hsp5
              have HB5 : Hid (Below wA.heap.size wr w5) := HA4.out.trans hb5.out
              have hs5 := hb5.out.size
              obtain ⟨d0', d1', d2'⟩ := HB4.out.spared hsp5.out HAT.out.own.new_ne
              obtain ⟨b0', p0', p1', r0', z0'⟩ := HBA.out.bel (HAT.out.belA.trans HB5.out)
              clear hb5 hsp5 d0 d1 d2 b0 p0 p1 r0 z0
              obtain ⟨pre5, hp5⟩ : ∃ q, pre ++ [(ya, n, v)] = q := ⟨_, rfl⟩
              have hp5l : pre5.length = pre.length + 1 := by rw [← hp5]; simp
              have HP5 : Hid (pre ++ [(ya, n, v)] = pre5) := hp5
              rw [hp5] at hown5
              clear hp5
              generalize Value.slice (some ⟨g, 0, none⟩) (pre.length + 1) cap2 = V5 at *
              go_wp2_with (at_builtin; refine app_one Try.underlying26 infoR rfl _ _ rfl wA.heap.size V5 pre5 ya yn yv w5 rfl hown5 _ _ rfl (by simp) (by omega) (by omega) ?_)
              intro g6 cap6 w6 hown6 hb6 hsp6
              have HB6 : Hid (Below wA.heap.size wr w6) := HB5.out.trans hb6.out
              clear hb6 hsp6
              go_wp2_with fail
              go_roundw
              case rel => exact ⟨k + 1, pre5 ++ [(ya, yn, yv)], true, by omega, by simp, rfl, HAT.out.next (wB := wr) HB6.out hown6 (by rw [← HP5.out]; exact HE.out) hbwA.size (by have := HAT.out.len; simp at this ⊢; omega)⟩
              case measure => simp [intOf]; omega
        · have HE : Hid (pre ++ [(ya, yn, yv)] ++ bp a n v false (l.drop (k + 1)) = bp a n v false l) := by
            show _ = _; rw [← HAT.out.eq, HY.out, bp_f_no (x := (ya, yn, yv)) ho]; simp
          have e : ¬ (ya = a ∧ yn = n) := fun e => ho (ord_le.2 (.inr ⟨e.1.symm, by omega⟩))
          rcases hNE e with e1 | ⟨rfl, e1⟩
          all_goals
            go_wp2_with (at_builtin; refine app_one Try.underlying26 infoR rfl _ _ rfl wA.heap.size (u7) pre ya yn yv w4 rfl (HO4.out) _ _ rfl (by simp) (by omega) (by omega) ?_)
            intro g cap2 w5 hown5 hb5 hsp5
            have HB5 : Hid (Below wA.heap.size wr w5) := HA4.out.trans hb5.out
            have hs5 := hb5.out.size
            obtain ⟨d0', d1', d2'⟩ := HB4.out.spared hsp5.out HAT.out.own.new_ne
            obtain ⟨b0', p0', p1', r0', z0'⟩ := HBA.out.bel (HAT.out.belA.trans HB5.out)
            clear hb5 hsp5 d0 d1 d2 b0 p0 p1 r0 z0
            go_wp2_with fail
            go_roundw
            case rel => exact ⟨k + 1, pre ++ [(ya, yn, yv)], false, by omega, by simp, rfl, HAT.out.next (wB := wr) HB5.out hown5 HE.out hbwA.size (by have := HAT.out.len; simp at this ⊢; omega)⟩
            case measure => simp [intOf]; omega
    · obtain rfl : k = L := by omega
      have hdr : l.drop k = [] := List.drop_of_length_le (by rw [HLEN.out]; exact Nat.le_refl _)
      have HU : Hid (∀ d ∈ bp a n v false l, In32 d.1) := bp_u32 a0 a1 HL.out.u32
      cases dn with
      | true =>
        have HE : Hid (pre = bp a n v false l) := by have := HAT.out.eq; rw [hdr] at this; show _ = _; simpa [bp] using this
        have HROW : Hid (RowOf wr wA.heap.size 53 u7 (bp a n v false l)) := by have := HAT.out.own; rw [HE.out] at this; exact this
        obtain ⟨ra, rc, hu7, -, -⟩ := arr_of_own HROW.out HU.out
        subst hu7
        obtain ⟨b0, p0, p1, r0, z0⟩ := HBA.out.bel HAT.out.belA
        have hbr := HAT.out.bel
        clear HAT HE hdr
        go_wp2_with fail
        refine bodyPost_ret (v := .agg #[.slice ra (bp a n v false l).length rc]) (by simp [results, Try.results9, go_sem, r0]) rfl ?_
        exact put_end (wA := wA) (w.heap.size + 1 + 1) (by omega) (by omega) hbr HROW.out HU.out
      | false =>
        have HE : Hid (pre ++ [(a, n, v)] = bp a n v false l) := by have := HAT.out.eq; rw [hdr] at this; show _ = _; simpa [bp] using this
        have hpl : pre.length ≤ k := HAT.out.lenF rfl
        obtain ⟨b0, p0, p1, r0, z0⟩ := HBA.out.bel HAT.out.belA
        go_wp2_with (at_builtin; refine app_one Try.underlying26 infoR rfl _ _ rfl wA.heap.size u7 pre a n v wr rfl HAT.out.own _ _ rfl (by simp) (by omega) (by omega) ?_)
        intro g cap2 w5 hown5 hb5 hsp5
        have hbw5 : Below w.heap.size w w5 := HAT.out.bel.trans (hb5.out.mono hbwA.size)
        obtain ⟨b0', p0', p1', r0', z0'⟩ := HBA.out.bel (HAT.out.belA.trans hb5.out)
        rw [HE.out] at hown5
        have HROW : Hid (RowOf w5 wA.heap.size 53 (.slice (some ⟨g, 0, none⟩) (pre.length + 1) cap2) (bp a n v false l)) := hown5
        clear b0 p0 p1 r0 z0 hb5 hsp5 hown5 HE
        go_wp2_with fail
        refine bodyPost_ret (v := .agg #[.slice (some ⟨g, 0, none⟩) (pre.length + 1) cap2]) (by simp [results, Try.results9, go_sem, r0']) rfl ?_
        exact put_end (wA := wA) (w.heap.size + 1 + 1) (by omega) (by omega) hbw5 HROW.out HU.out

set_option maxRecDepth 100000 in
set_option maxHeartbeats 1000000 in
theorem bput_no (va : Option Addr) (cap L : Nat) (a n v : Int) (w : World) (a0 : 0 ≤ a) (a1 : a < 4294967296) (hv : vld a n = false) :
    Calls Try.prog 9 #[.agg #[.slice va L cap], .agg #[.int .u32 a, .int .i64 n], .int .i64 v] w fun e w' => e = .returned (.agg #[.slice va L cap]) ∧ Below w.heap.size w w' := by
  have HV : Hid (vld a n = false) := hv
  clear hv
  go_enter Try.func9, Try.ntmps9
  go_wp2_with fail
  obtain ⟨w0, hw0⟩ : ∃ w0, ((w.alloc (Obj.cells #[.slice va L cap] 28)).alloc (Obj.cells #[.int .u32 a, .int .i64 n] 33)).alloc (Obj.cells #[.slice none 0 0] 28) = w0 := ⟨_, rfl⟩
  obtain ⟨g1, g2, g3, hs0, hb0⟩ := three_blocks w _ _ _ w0 hw0.symm
  have HBX : Hid (PutBox w.heap.size va L cap a n w0) := by constructor <;> simp [World.cell?, World.frozen?, g1, g2, g3]
  rw [hw0]
  clear hw0 g1 g2 g3
  refine (rvalid_no a n HV.out a0 a1 w0).mono ?_
  rintro e wA ⟨rfl, hbA⟩
  have hbwA : Below w.heap.size w wA := hb0.trans (hbA.mono hb0.size)
  obtain ⟨b0, p0, p1, r0, z0⟩ := HBX.out.bel hbA
  clear HBX
  go_wp2_with fail
  refine bodyPost_ret (v := .agg #[.slice va L cap]) (by simp [results, Try.results9, go_sem, r0]) rfl ?_
  exact ⟨rfl, hbwA.setCell (p := ⟨w.heap.size + 1 + 1, 0, none⟩) (by simp; omega) _⟩

/-- the book's Put, at whatever prefix -/
theorem bput1_any (va : Option Addr) (cap : Nat) (l : List (Int × Int × Int)) (a n v : Int) (w : World) (hl : Arr3 w va l) (a0 : 0 ≤ a) (a1 : a < 4294967296) (hby : (l.length + 2) * 24 ≤ 140737488355328) :
    Calls Try.prog 9 #[.agg #[.slice va l.length cap], .agg #[.int .u32 a, .int .i64 n], .int .i64 v] w fun e w' => ∃ va' cap', e = .returned (.agg #[.slice va' (bput l (a, n, v)).length cap']) ∧ Arr3 w' va' (bput l (a, n, v)) ∧ Below w.heap.size w w' ∧ ((va' = va ∧ bput l (a, n, v) = l) ∨ ∀ b o, va' = some ⟨b, o, none⟩ → w.heap.size ≤ b) := by
  cases hv : vld a n with
  | false =>
    have e : bput l (a, n, v) = l := by unfold bput; rw [if_neg (by simp [hv])]
    rw [e]
    refine (bput_no va cap l.length a n v w a0 a1 hv).mono ?_
    rintro e w' ⟨rfl, hb⟩
    exact ⟨va, cap, rfl, hl.bel hb, hb, .inl ⟨rfl, rfl⟩⟩
  | true =>
    have e : bput l (a, n, v) = bp a n v false l := by unfold bput; rw [if_pos hv]
    rw [e]
    refine (bput_any va cap l a n v w hl a0 a1 hby hv).mono ?_
    rintro e w' ⟨va', cap', rfl, h1, h2, h3⟩
    exact ⟨va', cap', rfl, h1, h2, .inr h3⟩

end Go.Proofs.Ytibmhdfodmkahaa.Bk
