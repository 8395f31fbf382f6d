/- Many puts and drops; what is reckoned behind them. -/
import Derived.Test.YtibmhdfodmkahaaTrT
namespace Go.Proofs.Ytibmhdfodmkahaa.Tri
open Go.ChangeShapes Go.WideShapes Go.ChangeAt Go.RowKit Go.Shelf Go.Proofs.Ytibmhdfodmkahaa.PM Go.Proofs.Ytibmhdfodmkahaa.TrM Go.Proofs.Ytibmhdfodmkahaa.Ask
set_option linter.unusedVariables false

/-- a list of items lies at a slice -/
structure Arr3 (w : World) (a : Option Addr) (ps : List (Int × Int × Int)) : Prop where
  small : ps.length ≤ 9223372036854775807
  cells : ∀ i (h : i < ps.length), ∃ b o, a = some ⟨b, o, none⟩ ∧ b < w.heap.size ∧ w.cell? ⟨b, o + i * 3, none⟩ = some (.int .u32 ps[i].1) ∧ w.cell? ⟨b, o + i * 3 + 1, none⟩ = some (.int .i64 ps[i].2.1) ∧ w.cell? ⟨b, o + i * 3 + 2, none⟩ = some (.int .i64 ps[i].2.2)
  u32 : ∀ d ∈ ps, In32 d.1
theorem Arr3.bel {w w' : World} {a : Option Addr} {ps : List (Int × Int × Int)} (h : Arr3 w a ps) (hb : Below w.heap.size w w') : Arr3 w' a ps :=
  ⟨h.small, fun i hi => by
    obtain ⟨b, o, e, hlt, h0, h1, h2⟩ := h.cells i hi
    exact ⟨b, o, e, Nat.lt_of_lt_of_le hlt hb.size, cell_bel h0 hb, cell_bel h1 hb, cell_bel h2 hb⟩, h.u32⟩

theorem put1_any (ok : Nat → Prop) (bt : Nat) (t : Tr) (p : Option Addr) (c a n v : Int) (w : World) (hh : Holds ok w bt t p c) (hok : ¬ ok bt) (hnew : ∀ b, w.heap.size ≤ b → ok b) (hw : WF t) (a0 : 0 ≤ a) (a1 : a < 4294967296) :
    Calls Try.prog 8 #[.pointer (some ⟨bt, 0, none⟩), .agg #[.int .u32 a, .int .i64 n], .int .i64 v] w fun e w' => Turned ok bt (put1 t (a, n, v)) w e w' := by
  cases hv : vld a n with
  | false =>
    refine (put_no ok bt t p c a n v w hh a0 a1 hv).mono ?_
    rintro e w' ⟨rfl, hb⟩
    have : put1 t (a, n, v) = t := by unfold put1; rw [if_neg (by simp [hv])]
    rw [this]
    exact ⟨0, false, p, c, rfl, But.of hb, hh.bel hb⟩
  | true =>
    have : put1 t (a, n, v) = ins t a n v := by unfold put1; rw [if_pos hv]
    rw [this]
    exact put_yes ok bt t p c a n v w hh hok hnew hw a0 a1 hv

/-- has one been seen? -/
def sn (found : Bool) (b m : Int) (l : List (Int × Int × Int)) : Bool := found && l.any (fun y => decide (y.1 = b ∧ y.2.1 = m))
theorem sn_nil (found : Bool) (b m : Int) : sn found b m [] = false := by simp [sn]
theorem sn_skip {found : Bool} {b m : Int} {y : Int × Int × Int} {l : List (Int × Int × Int)} (h : found = true → ¬ (y.1 = b ∧ y.2.1 = m)) : sn found b m (y :: l) = sn found b m l := by
  cases found with
  | false => rfl
  | true => simp only [sn, List.any_cons, Bool.true_and]; rw [decide_eq_false (h rfl), Bool.false_or]
theorem sn_hit {b m : Int} {y : Int × Int × Int} {l : List (Int × Int × Int)} (h : y.1 = b ∧ y.2.1 = m) : sn true b m (y :: l) = true := by
  simp only [sn, List.any_cons, Bool.true_and]; rw [decide_eq_true h, Bool.true_or]
theorem sn_no {b m : Int} {l : List (Int × Int × Int)} (h : sn true b m l = false) : ∀ z ∈ l, ¬ (z.1 = b ∧ z.2.1 = m) := by
  intro z hz e
  simp only [sn, Bool.true_and, List.any_eq_false] at h
  exact h z hz (decide_eq_true e)
theorem sn_end {ps : List (Int × Int × Int)} {ds : List (Int × Int)} {x b m u : Int} {found : Bool} (h : Fine ps ds x b m u found) : sn found b m ps = found := by
  cases found with
  | false => rfl
  | true =>
    obtain ⟨y, hy, e⟩ := h.is rfl
    simp only [sn, Bool.true_and, List.any_eq_true]
    exact ⟨y, hy, decide_eq_true e⟩
theorem drop_at {ps : List (Int × Int × Int)} {k : Nat} (h : k < ps.length) : ps.drop k = ps[k] :: ps.drop (k + 1) := List.drop_eq_getElem_cons h
theorem part_at {ps : List (Int × Int × Int)} {k : Nat} (h : k < ps.length) : ps = ps.take k ++ ps[k] :: ps.drop (k + 1) := by rw [← drop_at h, List.take_append_drop]

theorem putAll_snoc {ps : List (Int × Int × Int)} {k : Nat} (h : k < ps.length) : putAll .nil (ps.take (k + 1)) = put1 (putAll .nil (ps.take k)) ps[k] := by
  unfold putAll; rw [List.take_succ_eq_append_getElem h, List.foldl_append]; rfl
theorem dropAll_snoc {t : Tr} {ds : List (Int × Int)} {k : Nat} (h : k < ds.length) : dropAll t (ds.take (k + 1)) = (del (dropAll t (ds.take k)) ds[k].1 ds[k].2).1 := by
  unfold dropAll; rw [List.take_succ_eq_append_getElem h, List.foldl_append]; rfl

theorem three (w : World) (a n v : Int) (T : Nat) : Below w.heap.size w (w.alloc (Obj.cells #[.int .u32 a, .int .i64 n, .int .i64 v] T)) ∧ (w.alloc (Obj.cells #[.int .u32 a, .int .i64 n, .int .i64 v] T)).heap.size = w.heap.size + 1 :=
  ⟨(Below.refl _ _).alloc (Nat.le_refl _) _, by simp⟩

theorem among_is (va : Option Addr) (cap : Nat) (ds : List (Int × Int)) (a n : Int) (w : World) (hd : Arr2 w va ds) (L : Nat) (hL : ds.length = L) (c : Bool) (hc : decide ((a, n) ∈ ds) = c) :
    Calls Try.prog 15 #[.slice va L cap, .agg #[.int .u32 a, .int .i64 n]] w fun e w' => e = .returned (.bool c) ∧ Below w.heap.size w w' := by
  rw [← hL, ← hc]; exact among_any va cap ds a n w hd

def Box3 (w : World) (b : Nat) (a n v : Int) : Prop := w.cell? ⟨b, 0, none⟩ = some (.int .u32 a) ∧ w.cell? ⟨b, 1, none⟩ = some (.int .i64 n) ∧ w.cell? ⟨b, 2, none⟩ = some (.int .i64 v)
theorem Box3.bel {w w1 : World} {b : Nat} {a n v : Int} (h : Box3 w b a n v) (hb : Below w.heap.size w w1) : Box3 w1 b a n v := ⟨cell_bel h.1 hb, cell_bel h.2.1 hb, cell_bel h.2.2 hb⟩
theorem Box3.new (w : World) (a n v : Int) (T : Nat) : Box3 (w.alloc (Obj.cells #[.int .u32 a, .int .i64 n, .int .i64 v] T)) w.heap.size a n v := ⟨by simp, by simp, by simp⟩
theorem Box.belW {w w1 : World} {b : Nat} {a n : Int} (h : Box w b a n) (hb : Below w.heap.size w w1) : Box w1 b a n := ⟨cell_bel h.1 hb, cell_bel h.2 hb⟩

/-- the loop over what is put: how it stands behind k rounds -/
structure Puts (w : World) (ps : List (Int × Int × Int)) (k : Nat) (wr : World) : Prop where
  bel : Below w.heap.size w wr
  holds : ∃ p c, Holds (fun b => w.heap.size < b) wr w.heap.size (putAll .nil (ps.take k)) p c
theorem Puts.next {w wr wA w' : World} {ps : List (Int × Int × Int)} {k : Nat} {e : Ending} (h : Puts w ps k wr) (hk : k < ps.length) (hb : Below wr.heap.size wr wA) (ht : Turned (fun b => w.heap.size < b) w.heap.size (put1 (putAll .nil (ps.take k)) ps[k]) wA e w') : Puts w ps (k + 1) w' := by
  obtain ⟨old, had, p, c, -, hbut, hh⟩ := ht
  refine ⟨hbut.bel (h.bel.trans (hb.mono h.bel.size)) (Nat.le_trans h.bel.size hb.size), p, c, ?_⟩
  rw [putAll_snoc hk]; exact hh
structure Drops (w : World) (t : Tr) (ds : List (Int × Int)) (k : Nat) (wr : World) : Prop where
  bel : Below w.heap.size w wr
  holds : ∃ p c, Holds (fun b => w.heap.size < b) wr w.heap.size (dropAll t (ds.take k)) p c
theorem Drops.next {w wr wA w' : World} {t : Tr} {ds : List (Int × Int)} {k : Nat} {e : Ending} (h : Drops w t ds k wr) (hk : k < ds.length) (hb : Below wr.heap.size wr wA) (ht : Turned (fun b => w.heap.size < b) w.heap.size (del (dropAll t (ds.take k)) ds[k].1 ds[k].2).1 wA e w') : Drops w t ds (k + 1) w' := by
  obtain ⟨old, had, p, c, -, hbut, hh⟩ := ht
  refine ⟨hbut.bel (h.bel.trans (hb.mono h.bel.size)) (Nat.le_trans h.bel.size hb.size), p, c, ?_⟩
  rw [dropAll_snoc hk]; exact hh

set_option maxRecDepth 100000 in
set_option maxHeartbeats 4000000 in
theorem longest_any (va vb : Option Addr) (ca cb : Nat) (ps : List (Int × Int × Int)) (ds : List (Int × Int)) (x : Int) (x0 : 0 ≤ x) (x1 : x < 4294967296) (w : World) (hp : Arr3 w va ps) (hd : Arr2 w vb ds) :
    Calls Try.prog 5 #[.slice va ps.length ca, .slice vb ds.length cb, .int .u32 x] w fun e w' => e = .returned (.bool true) ∧ Below w.heap.size w w' := by
  have HP : Hid (Arr3 w va ps) := hp
  have HD : Hid (Arr2 w vb ds) := hd
  have hpS := hp.small
  have hdS := hd.small
  clear hp hd
  obtain ⟨Lp, hLp⟩ : ∃ L, ps.length = L := ⟨_, rfl⟩
  obtain ⟨Ld, hLd⟩ : ∃ L, ds.length = L := ⟨_, rfl⟩
  rw [hLp] at hpS ⊢
  rw [hLd] at hdS ⊢
  have HLP : Hid (ps.length = Lp) := hLp
  have HLD : Hid (ds.length = Ld) := hLd
  clear hLp hLd
  go_enter Try.func5, Try.ntmps5
  go_wp2_with fail
  refine (new_any w).mono ?_
  rintro e w1 ⟨rfl, hb1, hs1, hnew1⟩
  have HN1 : Hid (Holds (fun b => w.heap.size < b) w1 w.heap.size .nil none 0) := hnew1 _
  clear hnew1
  go_wp2_with fail
  go_loopw [23] (fun i wr => ∃ k : Nat, k ≤ Lp ∧ i = .int .i64 k ∧ Puts w ps k wr) (fun i _ => Lp - (intOf i).toNat)
  case atStart => exact ⟨0, by omega, rfl, hb1, none, 0, HN1.out⟩
  case round =>
    obtain ⟨k, hk, rfl, hpu⟩ := hrel
    have HPU : Hid (Puts w ps k wr) := hpu
    clear hpu
    by_cases hlt : k < Lp
    · have hkd : k < ps.length := by rw [HLP.out]; exact hlt
      obtain ⟨b, o, rfl, hbl, c0, c1, c2⟩ := (HP.out.bel HPU.out.bel).cells k hkd
      have hkk : (k : Int) < Lp := by omega
      have kk0 : (0 : Int) ≤ k := by omega
      obtain ⟨hbA, hsA⟩ := three wr ps[k].1 ps[k].2.1 ps[k].2.2 43
      go_wp2_with fail
      obtain ⟨p, c, hh⟩ := HPU.out.holds
      have hlw := hh.lt
      refine (put1_any _ w.heap.size _ p c ps[k].1 ps[k].2.1 ps[k].2.2 _ (hh.bel hbA) (Nat.lt_irrefl _) (fun b hb => by rw [hsA] at hb; show w.heap.size < b; omega) (wf_putAll _ trivial (fun y hy => HP.out.u32 y (List.mem_of_mem_take hy))) (HP.out.u32 _ (List.getElem_mem hkd)).1 (HP.out.u32 _ (List.getElem_mem hkd)).2).mono ?_
      rintro e w2 ht
      have HPU2 : Hid (Puts w ps (k + 1) w2) := HPU.out.next hkd hbA ht
      obtain ⟨old, had, p2, cc2, rfl, -, -⟩ := ht
      go_wp2_with fail
      go_roundw
      case rel => exact ⟨k + 1, by omega, by simp, HPU2.out⟩
      case measure => simp [intOf]; omega
    · obtain rfl : k = Lp := by omega
      go_wp2_with fail
      have HDR : Hid (Drops w (putAll .nil ps) ds 0 wr) := by
        obtain ⟨p, c, hh⟩ := HPU.out.holds
        refine ⟨HPU.out.bel, p, c, ?_⟩
        rw [List.take_of_length_le (by rw [HLP.out]; exact Nat.le_refl _)] at hh
        exact hh
      clear HPU
      go_loopw [36] (fun i wr => ∃ k : Nat, k ≤ Ld ∧ i = .int .i64 k ∧ Drops w (putAll .nil ps) ds k wr) (fun i _ => Ld - (intOf i).toNat)
      case atStart => exact ⟨0, by omega, rfl, HDR.out⟩
      case round =>
        clear HDR
        obtain ⟨j, hj, rfl, hpu⟩ := hrel
        have HPU : Hid (Drops w (putAll .nil ps) ds j wr) := hpu
        clear hpu
        by_cases hlt2 : j < Ld
        · have hkd : j < ds.length := by rw [HLD.out]; exact hlt2
          obtain ⟨b, o, rfl, hbl, c0, c1⟩ := (HD.out.bel HPU.out.bel).cells j hkd
          have hkk : (j : Int) < Ld := by omega
          have kk0 : (0 : Int) ≤ j := by omega
          obtain ⟨hbA, hsA, -⟩ := boxed wr ds[j].1 ds[j].2 33
          go_wp2_with fail
          obtain ⟨p, c, hh⟩ := HPU.out.holds
          have hlw := hh.lt
          refine (drop_any _ w.heap.size _ p c ds[j].1 ds[j].2 _ (hh.bel hbA) (Nat.lt_irrefl _) (fun b hb => by rw [hsA] at hb; show w.heap.size < b; omega) (HD.out.u32 _ (List.getElem_mem hkd)).1 (HD.out.u32 _ (List.getElem_mem hkd)).2).mono ?_
          rintro e w2 ht
          have HPU2 : Hid (Drops w (putAll .nil ps) ds (j + 1) w2) := HPU.out.next hkd hbA ht
          obtain ⟨old, had, p2, cc2, rfl, -, -⟩ := ht
          go_wp2_with fail
          go_roundw
          case rel => exact ⟨j + 1, by omega, by simp, HPU2.out⟩
          case measure => simp [intOf]; omega
        · obtain rfl : j = Ld := by omega
          go_wp2_with fail
          obtain ⟨p, c, hh⟩ := HPU.out.holds
          rw [List.take_of_length_le (by rw [HLD.out]; exact Nat.le_refl _)] at hh
          have hbr := HPU.out.bel
          clear HPU
          obtain ⟨r, hr⟩ : ∃ r, mt (dropAll (putAll .nil ps) ds) x none = r := ⟨_, rfl⟩
          refine (match_any _ w.heap.size _ p c x x0 x1 _ hh (wf_dropAll _ (wf_putAll _ trivial HP.out.u32)) r hr).mono ?_
          have HF : Hid (Fine ps ds x (mA r) (mN r) (mV r) r.isSome) := fine ps ds x HP.out.u32 r hr
          clear hh hr
          rintro e w3 ⟨rfl, hb3⟩
          have hbw3 : Below w.heap.size w w3 := hbr.trans (hb3.mono hbr.size)
          generalize mA r = fA at *
          generalize mN r = fN at *
          generalize mV r = fV at *
          generalize r.isSome = found at *
          clear hb3
          obtain ⟨hbB, hsB, hbxB⟩ := boxed w3 fA fN 33
          have HBX : Hid (Box _ w3.heap.size fA fN) := hbxB
          clear hbxB
          go_wp2_with fail
          generalize w3.alloc (Obj.cells #[.int .u32 fA, .int .i64 fN] 33) = wB at *
          have hbwB : Below w.heap.size w wB := hbw3.trans (hbB.mono hbw3.size)
          go_loopw [15, 16] (fun sv i wr => ∃ (q : Nat) (z : Int), q ≤ k ∧ z = (q : Int) - 1 ∧ i = .int .i64 z ∧ sv = .bool (sn found fA fN (ps.drop q)) ∧ Below w.heap.size w wr ∧ Box wr w3.heap.size fA fN) (fun _ i _ => (intOf i + 1).toNat)
          case atStart => exact ⟨k, (k : Int) - 1, Nat.le_refl _, rfl, rfl, by rw [List.drop_of_length_le (by rw [HLP.out]; exact Nat.le_refl _), sn_nil], hbwB, HBX.out⟩
          case round =>
            obtain ⟨q, z, hq, hz, rfl, rfl, hbr2, hbx2⟩ := hrel
            clear HBX
            have HBX : Hid (Box wr w3.heap.size fA fN) := hbx2
            obtain ⟨t0, t1⟩ := hbx2
            cases q with
            | zero =>
              have hz0 : z < 0 := by omega
              clear hz
              have hsn : sn found fA fN (ps.drop 0) = found := sn_end HF.out
              rw [hsn]
              cases found
              all_goals
                go_wp2_with fail
                go_ret
                exact ⟨rfl, hbr2⟩
            | succ q =>
              obtain rfl : z = (q : Int) := by omega
              clear hz
              have hqd : q < ps.length := by rw [HLP.out]; omega
              obtain ⟨b, o, rfl, hbl, c0, c1, c2⟩ := (HP.out.bel hbr2).cells q hqd
              obtain ⟨y, hy⟩ : ∃ y, ps[q] = y := ⟨_, rfl⟩
              rw [hy] at c0 c1 c2
              have HY : Hid (ps[q] = y) := hy
              have hyb : In32 y.1 := hy ▸ HP.out.u32 _ (List.getElem_mem hqd)
              have HM : Hid (y ∈ ps) := hy ▸ List.getElem_mem hqd
              clear hy
              obtain ⟨ya, yn, yv⟩ := y
              have y0 : 0 ≤ ya := hyb.1
              have y1 : ya < 4294967296 := hyb.2
              clear hyb
              have hqq : (q : Int) < k := by omega
              have qq0 : (0 : Int) ≤ q := by omega
              obtain ⟨hbC, hsC⟩ := three wr ya yn yv 43
              have HB3 : Hid (Box3 _ wr.heap.size ya yn yv) := Box3.new wr ya yn yv 43
              have HDR : Hid (ps.drop q = (ya, yn, yv) :: ps.drop (q + 1)) := by show _ = _; rw [drop_at hqd, HY.out]
              cases hhas : has ya yn x with
              | false =>
                have HH : Hid (has ya yn x = false) := hhas
                clear hhas
                go_wp2_with fail
                refine (has_no ya yn x HH.out y0 y1 x0 x1 _).mono ?_
                rintro e w4 ⟨rfl, hb4⟩
                have hbr4 : Below wr.heap.size wr w4 := hbC.trans (hb4.mono hbC.size)
                go_wp2_with fail
                go_roundw
                case rel => exact ⟨q, (q : Int) - 1, by omega, rfl, by simp, by rw [HDR.out, sn_skip (fun hf he => by have h1 := (HF.out.holds hf).1; rw [← he.1, ← he.2, HH.out] at h1; cases h1)], hbr2.trans (hbr4.mono hbr2.size), HBX.out.belW hbr4⟩
                case measure => simp [intOf]
              | true =>
                have HH : Hid (has ya yn x = true) := hhas
                clear hhas
                go_wp2_with fail
                refine (has_yes ya yn x HH.out y0 y1 x0 x1 _).mono ?_
                rintro e w4 ⟨rfl, hb4⟩
                have hbr4 : Below wr.heap.size wr w4 := hbC.trans (hb4.mono hbC.size)
                have HB4 : Hid (Box3 w4 wr.heap.size ya yn yv) := HB3.out.bel hb4
                have HX4 : Hid (Box w4 w3.heap.size fA fN) := HBX.out.belW hbr4
                clear t0 t1 c0 c1 c2 HB3 HBX
                have d0 := HB4.out.1
                have d1 := HB4.out.2.1
                have d2 := HB4.out.2.2
                go_wp2_with fail
                by_cases hmem : (ya, yn) ∈ ds
                · have HC : Hid (decide ((ya, yn) ∈ ds) = true) := decide_eq_true hmem
                  have HMEM : Hid ((ya, yn) ∈ ds) := hmem
                  clear hmem
                  refine (among_is vb cb ds ya yn w4 (HD.out.bel (hbr2.trans (hbr4.mono hbr2.size))) j HLD.out true HC.out).mono ?_
                  rintro e w5 ⟨rfl, hb5⟩
                  have hbr5 : Below wr.heap.size wr w5 := hbr4.trans (hb5.mono hbr4.size)
                  go_wp2_with fail
                  go_roundw
                  case rel => exact ⟨q, (q : Int) - 1, by omega, rfl, by simp, by rw [HDR.out, sn_skip (fun hf he => (HF.out.holds hf).2 (by rw [← he.1, ← he.2]; exact HMEM.out))], hbr2.trans (hbr5.mono hbr2.size), HX4.out.belW hb5⟩
                  case measure => simp [intOf]
                · have HC : Hid (decide ((ya, yn) ∈ ds) = false) := decide_eq_false hmem
                  have HMEM : Hid ((ya, yn) ∉ ds) := hmem
                  clear hmem
                  refine (among_is vb cb ds ya yn w4 (HD.out.bel (hbr2.trans (hbr4.mono hbr2.size))) j HLD.out false HC.out).mono ?_
                  rintro e w5 ⟨rfl, hb5⟩
                  have hbr5 : Below wr.heap.size wr w5 := hbr4.trans (hb5.mono hbr4.size)
                  have HB5 : Hid (Box3 w5 wr.heap.size ya yn yv) := HB4.out.bel hb5
                  have HX5 : Hid (Box w5 w3.heap.size fA fN) := HX4.out.belW hb5
                  clear d0 d1 d2 HB4 HX4
                  obtain ⟨d0, d1, d2⟩ := HB5.out
                  obtain ⟨t0, t1⟩ := HX5.out
                  obtain rfl : found = true := by
                    cases found with
                    | true => rfl
                    | false => exact absurd (HF.out.none_ rfl _ HM.out HH.out) HMEM.out
                  have hle : yn ≤ fN := HF.out.len rfl _ HM.out HH.out HMEM.out
                  obtain ⟨sv, hsv⟩ : ∃ sv, sn true fA fN (ps.drop (q + 1)) = sv := ⟨_, rfl⟩
                  rw [hsv]
                  have HSV : Hid (sn true fA fN (ps.drop (q + 1)) = sv) := hsv
                  clear hsv
                  by_cases e1 : ya = fA
                  · subst e1
                    by_cases e2 : yn = fN
                    · subst e2
                      have HIT : Hid (sn true ya yn (ps.drop q) = true) := by show _ = _; rw [HDR.out]; exact sn_hit ⟨rfl, rfl⟩
                      cases sv with
                      | true =>
                        go_wp2_with fail
                        go_roundw
                        case rel => exact ⟨q, (q : Int) - 1, by omega, rfl, by simp, by rw [HIT.out], hbr2.trans (hbr5.mono hbr2.size), HX5.out⟩
                        case measure => simp [intOf]
                      | false =>
                        obtain rfl : yv = fV := HF.out.last rfl (ps.take q) (ya, yn, yv) (ps.drop (q + 1)) (by have := part_at hqd; rw [HY.out] at this; exact this) rfl rfl (sn_no HSV.out)
                        go_wp2_with fail
                        go_roundw
                        case rel => exact ⟨q, (q : Int) - 1, by omega, rfl, by simp, by rw [HIT.out], hbr2.trans (hbr5.mono hbr2.size), HX5.out⟩
                        case measure => simp [intOf]
                    · have HS : Hid (sn true ya fN (ps.drop q) = sv) := by show _ = _; rw [HDR.out, sn_skip (fun _ he => e2 he.2)]; exact HSV.out
                      go_wp2_with fail
                      go_roundw
                      case rel => exact ⟨q, (q : Int) - 1, by omega, rfl, by simp, by rw [HS.out], hbr2.trans (hbr5.mono hbr2.size), HX5.out⟩
                      case measure => simp [intOf]
                  · have HS : Hid (sn true fA fN (ps.drop q) = sv) := by show _ = _; rw [HDR.out, sn_skip (fun _ he => e1 he.1)]; exact HSV.out
                    go_wp2_with fail
                    go_roundw
                    case rel => exact ⟨q, (q : Int) - 1, by omega, rfl, by simp, by rw [HS.out], hbr2.trans (hbr5.mono hbr2.size), HX5.out⟩
                    case measure => simp [intOf]

end Go.Proofs.Ytibmhdfodmkahaa.Tri
