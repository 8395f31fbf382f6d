/- Right of announcements: bounds, links and stubs: what each answers. -/
import Derived.Test.YtagfdmkgnedlbaeLsD
import Derived.Lib.QuietBelow
import Derived.BigQuiet
namespace Go.Proofs.Ytagfdmkgnedlbae.Ls
open Go.ChangeShapes Go.WideShapes Go.ChangeAt Go.RowKit Go.Proofs.Ytagfdmkgnedlbae.PM Go.Proofs.Ytagfdmkgnedlbae.Ask
set_option linter.unusedVariables false

def inB (lo hi n : Int) : Bool := decide (lo ≤ n) && decide (n ≤ hi)
def linkOk (og : Int) (x : Int × Int × Int) : Bool := inB 1 4294967295 x.1 && (!(x.1 == og) && (inB 1 65535 x.2.1 && inB 0 65535 x.2.2))
def stubOk (x : Int × Int × Int) : Bool := vld x.1 x.2.1 && inB 0 65535 x.2.2
/-- links, one behind another, the last one's number ahead of them -/
def rl (og : Int) : Int → List (Int × Int × Int) → Bool
  | _, [] => true
  | last, x :: xs => linkOk og x && (decide (last < x.2.2) && rl og x.2.2 xs)
theorem rl_nil (og last : Int) : rl og last [] = true := rfl
theorem rl_cons (og last : Int) (x : Int × Int × Int) (xs : List (Int × Int × Int)) : rl og last (x :: xs) = (linkOk og x && (decide (last < x.2.2) && rl og x.2.2 xs)) := rfl
def stFits (p : Option (Int × Int × Int)) (x : Int × Int × Int) : Bool := match p with
  | none => true
  | some y => ord y.1 y.2.1 x.1 x.2.1 == -1
def rs : Option (Int × Int × Int) → List (Int × Int × Int) → Bool
  | _, [] => true
  | p, x :: xs => stubOk x && (stFits p x && rs (some x) xs)
theorem rs_nil (p : Option (Int × Int × Int)) : rs p [] = true := rfl
theorem rs_cons (p : Option (Int × Int × Int)) (x : Int × Int × Int) (xs : List (Int × Int × Int)) : rs p (x :: xs) = (stubOk x && (stFits p x && rs (some x) xs)) := rfl
def rightL (og : Int) (xs : List (Int × Int × Int)) : Bool := decide (xs.length ≤ 64) && rl og (-1) xs
def rightS (xs : List (Int × Int × Int)) : Bool := decide (xs.length ≤ 64) && rs none xs

theorem regrown_low {w w' : World} (h : ∃ p : Regrown, w' = Sort.grow (redrawn w p.d) p.os) : Below w.heap.size w w' := by
  obtain ⟨p, rfl⟩ := h; exact below_regrown w p.d p.os

theorem within_any (n lo hi : Int) (b : Bool) (hb : inB lo hi n = b) (w : World) : Calls Try.prog 24 #[.int .i64 n, .int .i64 lo, .int .i64 hi] w fun e w' => e = .returned (.bool b) ∧ w' = w := by
  by_cases h1 : lo ≤ n
  · by_cases h2 : n ≤ hi
    · obtain rfl : b = true := by rw [← hb]; simp [inB, h1, h2]
      clear hb
      go_enter Try.func24, Try.ntmps24
      go_wp2_with fail
      go_ret
      exact ⟨rfl, rfl⟩
    · obtain rfl : b = false := by rw [← hb]; simp [inB, h1, h2]
      clear hb
      go_enter Try.func24, Try.ntmps24
      go_wp2_with fail
      go_ret
      exact ⟨rfl, rfl⟩
  · obtain rfl : b = false := by rw [← hb]; simp [inB, h1]
    clear hb
    go_enter Try.func24, Try.ntmps24
    go_wp2_with fail
    go_ret
    exact ⟨rfl, rfl⟩
theorem router_any (n : Int) (b : Bool) (hb : inB 1 4294967295 n = b) (w : World) : Calls Try.prog 23 #[.int .i64 n] w fun e w' => e = .returned (.bool b) ∧ w' = w := by
  go_enter Try.func23, Try.ntmps23
  go_wp2_with fail
  refine (within_any n 1 4294967295 b hb w).mono ?_
  rintro e w5 ⟨rfl, hw5⟩
  rw [hw5]
  clear hw5 w5 hb
  go_wp2_with fail
  go_ret
  exact ⟨rfl, rfl⟩
theorem area_any (n : Int) (b : Bool) (hb : inB 0 65534 n = b) (w : World) : Calls Try.prog 25 #[.int .i64 n] w fun e w' => e = .returned (.bool b) ∧ w' = w := by
  go_enter Try.func25, Try.ntmps25
  go_wp2_with fail
  refine (within_any n 0 65534 b hb w).mono ?_
  rintro e w5 ⟨rfl, hw5⟩
  rw [hw5]
  clear hw5 w5 hb
  go_wp2_with fail
  go_ret
  exact ⟨rfl, rfl⟩

set_option maxRecDepth 100000 in
set_option maxHeartbeats 4000000 in
theorem rlinks_any (va : Option Addr) (cap : Nat) (xs : List (Int × Int × Int)) (L : Nat) (hL : xs.length = L) (og : Int) (w : World) (hx : L3 .i64 w va xs) (r : Bool) (hr : rightL og xs = r) :
    Calls Try.prog 58 #[.slice va L cap, .int .i64 og] w fun e w' => e = .returned (.bool r) ∧ Below w.heap.size w w' := by
  have HX : Hid (L3 .i64 w va xs) := hx
  have HLX : Hid (xs.length = L) := hL
  have hl9 := hx.small
  rw [hL] at hl9
  unfold rightL at hr
  rw [hL] at hr
  have HR : Hid ((decide (L ≤ 64) && rl og (-1) xs) = r) := hr
  clear hx hL hr
  go_enter Try.func58, Try.ntmps58
  by_cases h64 : 64 < L
  · obtain rfl : r = false := by rw [← HR.out, decide_eq_false (by omega)]; rfl
    have h64' : (64 : Int) < L := by omega
    go_wp2_with fail
    go_ret
    exact ⟨rfl, Below.refl _ _⟩
  · have HR2 : Hid (rl og (-1) xs = r) := by
      have := HR.out
      rw [decide_eq_true (by omega), Bool.true_and] at this
      exact this
    have h64' : ¬ (64 : Int) < L := by omega
    clear HR
    go_wp2_with fail
    go_loopw [12] (fun iv wr => ∃ k : Nat, k ≤ L ∧ iv = .int .i64 k ∧ rl og (if k = 0 then -1 else (xs.getD (k - 1) (0, 0, 0)).2.2) (xs.drop k) = r ∧ Below w.heap.size w wr) (fun i _ => L - (intOf i).toNat)
    case atStart => exact ⟨0, by omega, rfl, by rw [if_pos rfl, List.drop_zero]; exact HR2.out, Below.refl _ _⟩
    case round =>
      obtain ⟨k, hk, rfl, hgk, hbr⟩ := hrel
      have HBR : Hid (Below w.heap.size w wr) := hbr
      obtain ⟨last, hlast⟩ : ∃ last, (if k = 0 then -1 else (xs.getD (k - 1) (0, 0, 0)).2.2) = last := ⟨_, rfl⟩
      rw [hlast] at hgk
      have HG : Hid (rl og last (xs.drop k) = r) := hgk
      have HLAST : Hid ((if k = 0 then -1 else (xs.getD (k - 1) (0, 0, 0)).2.2) = last) := hlast
      clear hgk hlast HR2
      by_cases hlt : k < L
      · have hkd : k < xs.length := by rw [HLX.out]; exact hlt
        obtain ⟨b, o, rfl, hbl, c0, c1, c2⟩ := (HX.out.bel hbr).cells k hkd
        obtain ⟨⟨xa, xb, xc⟩, hy⟩ : ∃ y, xs[k] = y := ⟨_, rfl⟩
        rw [hy] at c0 c1 c2
        have HG2 : Hid ((linkOk og (xa, xb, xc) && (decide (last < xc) && rl og xc (xs.drop (k + 1)))) = r) := by
          have := HG.out
          rw [List.drop_eq_getElem_cons hkd, hy, rl_cons] at this
          exact this
        have HNX : Hid ((if k + 1 = 0 then -1 else (xs.getD (k + 1 - 1) (0, 0, 0)).2.2) = xc) := by
          show _ = _
          rw [if_neg (by omega), show k + 1 - 1 = k by omega, List.getD_eq_getElem?_getD, List.getElem?_eq_getElem hkd, hy]; rfl
        clear hy HG
        have hkk : (k : Int) < L := by omega
        have kk0 : (0 : Int) ≤ k := by omega
        obtain ⟨p1, hp1⟩ : ∃ p, inB 1 4294967295 xa = p := ⟨_, rfl⟩
        obtain ⟨p3, hp3⟩ : ∃ p, inB 1 65535 xb = p := ⟨_, rfl⟩
        obtain ⟨p4, hp4⟩ : ∃ p, inB 0 65535 xc = p := ⟨_, rfl⟩
        have HLK : Hid (linkOk og (xa, xb, xc) = (p1 && (!(xa == og) && (p3 && p4)))) := by unfold linkOk; show _ = _; rw [hp1, hp3, hp4]
        have HXC : Hid (p4 = true → 0 ≤ xc) := fun e => by
          rw [e] at hp4; unfold inB at hp4; simp at hp4; exact hp4.1
        have HP1 := router_any xa p1 hp1
        have HP3 := within_any xb 1 65535 p3 hp3
        have HP4 := within_any xc 0 65535 p4 hp4
        have HRR : Hid (linkOk og (xa, xb, xc) = false → r = false) := fun e => by rw [← HG2.out, e]; rfl
        go_wp2_with fail
        obtain ⟨wA, hwA⟩ : ∃ wA, wr.alloc (Obj.cells #[.int .i64 xa, .int .i64 xb, .int .i64 xc] 54) = wA := ⟨_, rfl⟩
        have hbA : Below wr.heap.size wr wA := by rw [← hwA]; exact (Below.refl _ wr).alloc (Nat.le_refl _) _
        have a0 : wA.cell? ⟨wr.heap.size, 0, none⟩ = some (.int .i64 xa) := by rw [← hwA]; simp
        have a1 : wA.cell? ⟨wr.heap.size, 1, none⟩ = some (.int .i64 xb) := by rw [← hwA]; simp
        have a2 : wA.cell? ⟨wr.heap.size, 2, none⟩ = some (.int .i64 xc) := by rw [← hwA]; simp
        have HBA : Hid (Below w.heap.size w wA) := HBR.out.trans (hbA.mono HBR.out.size)
        rw [hwA]
        obtain ⟨s, hs⟩ : ∃ s, wr.heap.size = s := ⟨_, rfl⟩
        rw [hs] at a0 a1 a2 ⊢
        clear hwA hbA c0 c1 c2 hs hbr hp1 hp3 hp4
        refine (HP1 _).mono ?_
        rintro e w5 ⟨rfl, hw5⟩
        rw [hw5]
        clear hw5 w5 HP1
        cases p1 with
        | false =>
          obtain rfl : r = false := HRR.out (by rw [HLK.out]; rfl)
          clear HP3 HP4 HRR HLK HG2
          go_wp2_with fail
          go_ret
          exact ⟨rfl, HBA.out⟩
        | true =>
          by_cases hog : xa = og
          · obtain rfl : r = false := HRR.out (by rw [HLK.out, hog]; simp)
            subst hog
            clear HP3 HP4 HRR HLK HG2
            go_wp2_with fail
            go_ret
            exact ⟨rfl, HBA.out⟩
          · go_wp2_with fail
            refine (HP3 _).mono ?_
            rintro e w5 ⟨rfl, hw5⟩
            rw [hw5]
            clear hw5 w5 HP3
            cases p3 with
            | false =>
              obtain rfl : r = false := HRR.out (by rw [HLK.out]; simp)
              clear HP4 HRR HLK HG2
              go_wp2_with fail
              go_ret
              exact ⟨rfl, HBA.out⟩
            | true =>
              go_wp2_with fail
              refine (HP4 _).mono ?_
              rintro e w5 ⟨rfl, hw5⟩
              rw [hw5]
              clear hw5 w5 HP4
              cases p4 with
              | false =>
                obtain rfl : r = false := HRR.out (by rw [HLK.out]; simp)
                clear HRR HLK HG2
                go_wp2_with fail
                go_ret
                exact ⟨rfl, HBA.out⟩
              | true =>
                have HG3 : Hid ((decide (last < xc) && rl og xc (xs.drop (k + 1))) = r) := by
                  have h1 := HG2.out
                  rw [HLK.out, show (xa == og) = false by simp [hog]] at h1
                  exact h1
                have hxc := HXC.out rfl
                clear HRR HLK HG2 HXC
                go_wp2_with fail
                have j2 := cell_regrown a2
                rcases (show k = 0 ∨ ∃ k', k = k' + 1 by cases k with | zero => exact .inl rfl | succ q => exact .inr ⟨q, rfl⟩) with rfl | ⟨k', rfl⟩
                · have HG4 : Hid (rl og xc (xs.drop (0 + 1)) = r) := by
                    have h1 := HLAST.out
                    rw [if_pos rfl] at h1
                    have h2 := HG3.out
                    rw [decide_eq_true (by omega), Bool.true_and] at h2
                    exact h2
                  clear HG3 HLAST
                  refine wp_region_quiet_below (by kernel_rfl) (by kernel_rfl) ?_
                  repeat (go_big_quiet_step (fail))
                  refine wpQuiet_nil ?_
                  intro w8 hw8
                  have HB8 : Hid (Below w.heap.size w w8) := HBA.out.trans ((regrown_low hw8).mono HBA.out.size)
                  clear hw8 j2
                  go_wp2_with fail
                  exact ⟨⟨0 + 1, by omega, by simp, by rw [HNX.out]; exact HG4.out, HB8.out⟩, by simp [intOf]; omega⟩
                · have hk' : k' < xs.length := by omega
                  obtain ⟨b', o', e', -, d0, d1, d2⟩ := (HX.out.bel HBA.out).cells k' hk'
                  cases e'
                  obtain ⟨⟨ya, yb, yc⟩, hy⟩ : ∃ y, xs[k'] = y := ⟨_, rfl⟩
                  rw [hy] at d2
                  obtain rfl : yc = last := by
                    have h1 := HLAST.out
                    rw [if_neg (by omega), show k' + 1 - 1 = k' by omega, List.getD_eq_getElem?_getD, List.getElem?_eq_getElem hk', hy] at h1
                    exact h1
                  have j1 := cell_regrown d2
                  have hk1 : (k' : Int) < L := by omega
                  have k10 : (0 : Int) ≤ k' := by omega
                  clear d0 d1 d2 hy HLAST
                  by_cases hlc : yc < xc
                  · have HG4 : Hid (rl og xc (xs.drop (k' + 1 + 1)) = r) := by
                      have h2 := HG3.out
                      rw [decide_eq_true hlc, Bool.true_and] at h2
                      exact h2
                    clear HG3
                    refine wp_region_quiet_below (by kernel_rfl) (by kernel_rfl) ?_
                    repeat (go_big_quiet_step (fail))
                    refine wpQuiet_nil ?_
                    intro w8 hw8
                    have HB8 : Hid (Below w.heap.size w w8) := HBA.out.trans ((regrown_low hw8).mono HBA.out.size)
                    clear hw8 j2 j1
                    go_wp2_with fail
                    exact ⟨⟨k' + 1 + 1, by omega, by simp, by rw [HNX.out]; exact HG4.out, HB8.out⟩, by simp [intOf]; omega⟩
                  · obtain rfl : r = false := by
                      rw [← HG3.out, decide_eq_false hlc]; rfl
                    clear HG3
                    refine wp_region_quiet_below (by kernel_rfl) (by kernel_rfl) ?_
                    repeat (go_big_quiet_step (fail))
                    refine wpQuiet_nil ?_
                    intro w8 hw8
                    have HB8 : Hid (Below w.heap.size w w8) := HBA.out.trans ((regrown_low hw8).mono HBA.out.size)
                    clear hw8 j2 j1
                    go_wp2_with fail
                    go_ret
                    exact ⟨rfl, HB8.out⟩
      · obtain rfl : L = k := by omega
        obtain rfl : r = true := by rw [← HG.out, List.drop_of_length_le (by rw [HLX.out]; omega), rl_nil]
        clear HG HLAST
        go_wp2_with fail
        go_ret
        exact ⟨rfl, HBR.out⟩

set_option maxRecDepth 100000 in
set_option maxHeartbeats 4000000 in
theorem rstubs_any (va : Option Addr) (cap : Nat) (xs : List (Int × Int × Int)) (L : Nat) (hL : xs.length = L) (w : World) (hx : L3 .u32 w va xs) (h32 : ∀ d ∈ xs, In32 d.1) (r : Bool) (hr : rightS xs = r) :
    Calls Try.prog 59 #[.slice va L cap] w fun e w' => e = .returned (.bool r) ∧ Below w.heap.size w w' := by
  have HX : Hid (L3 .u32 w va xs) := hx
  have HLX : Hid (xs.length = L) := hL
  have H32 : Hid (∀ d ∈ xs, In32 d.1) := h32
  have hl9 := hx.small
  rw [hL] at hl9
  unfold rightS at hr
  rw [hL] at hr
  have HR : Hid ((decide (L ≤ 64) && rs none xs) = r) := hr
  clear hx hL hr h32
  go_enter Try.func59, Try.ntmps59
  by_cases h64 : 64 < L
  · obtain rfl : r = false := by rw [← HR.out, decide_eq_false (by omega)]; rfl
    have h64' : (64 : Int) < L := by omega
    go_wp2_with fail
    go_ret
    exact ⟨rfl, Below.refl _ _⟩
  · have HR2 : Hid (rs none xs = r) := by
      have := HR.out
      rw [decide_eq_true (by omega), Bool.true_and] at this
      exact this
    have h64' : ¬ (64 : Int) < L := by omega
    clear HR
    go_wp2_with fail
    go_loopw [10] (fun iv wr => ∃ k : Nat, k ≤ L ∧ iv = .int .i64 k ∧ rs (if k = 0 then none else xs[k - 1]?) (xs.drop k) = r ∧ Below w.heap.size w wr) (fun i _ => L - (intOf i).toNat)
    case atStart => exact ⟨0, by omega, rfl, by rw [if_pos rfl, List.drop_zero]; exact HR2.out, Below.refl _ _⟩
    case round =>
      obtain ⟨k, hk, rfl, hgk, hbr⟩ := hrel
      have HBR : Hid (Below w.heap.size w wr) := hbr
      obtain ⟨last, hlast⟩ : ∃ last, (if k = 0 then none else xs[k - 1]?) = last := ⟨_, rfl⟩
      rw [hlast] at hgk
      have HG : Hid (rs last (xs.drop k) = r) := hgk
      have HLAST : Hid ((if k = 0 then none else xs[k - 1]?) = last) := hlast
      clear hgk hlast HR2
      by_cases hlt : k < L
      · have hkd : k < xs.length := by rw [HLX.out]; exact hlt
        obtain ⟨b, o, rfl, hbl, c0, c1, c2⟩ := (HX.out.bel hbr).cells k hkd
        have hin := H32.out _ (List.getElem_mem hkd)
        obtain ⟨⟨xa, xb, xc⟩, hy⟩ : ∃ y, xs[k] = y := ⟨_, rfl⟩
        rw [hy] at c0 c1 c2 hin
        have i0 : 0 ≤ xa := hin.1
        have i1 : xa < 4294967296 := hin.2
        have HG2 : Hid ((stubOk (xa, xb, xc) && (stFits last (xa, xb, xc) && rs (some (xa, xb, xc)) (xs.drop (k + 1)))) = r) := by
          have := HG.out
          rw [List.drop_eq_getElem_cons hkd, hy, rs_cons] at this
          exact this
        have HNX : Hid ((if k + 1 = 0 then none else xs[k + 1 - 1]?) = some (xa, xb, xc)) := by
          show _ = _
          rw [if_neg (by omega), show k + 1 - 1 = k by omega, List.getElem?_eq_getElem hkd, hy]
        clear hy HG hin
        have hkk : (k : Int) < L := by omega
        have kk0 : (0 : Int) ≤ k := by omega
        obtain ⟨p1, hp1⟩ : ∃ p, vld xa xb = p := ⟨_, rfl⟩
        obtain ⟨p4, hp4⟩ : ∃ p, inB 0 65535 xc = p := ⟨_, rfl⟩
        have HLK : Hid (stubOk (xa, xb, xc) = (p1 && p4)) := by unfold stubOk; show _ = _; rw [hp1, hp4]
        have HP1 : Hid (∀ W, Calls Try.prog 60 #[.agg #[.int .u32 xa, .int .i64 xb]] W fun e w' => e = .returned (.bool p1) ∧ Below W.heap.size W w') := fun W => by rw [← hp1]; exact valid_any xa xb i0 i1 W
        have HP4 := within_any xc 0 65535 p4 hp4
        have HRR : Hid (stubOk (xa, xb, xc) = false → r = false) := fun e => by rw [← HG2.out, e]; rfl
        go_wp2_with fail
        obtain ⟨wA, hwA⟩ : ∃ wA, wr.alloc (Obj.cells #[.int .u32 xa, .int .i64 xb, .int .i64 xc] 56) = wA := ⟨_, rfl⟩
        have hbA : Below wr.heap.size wr wA := by rw [← hwA]; exact (Below.refl _ wr).alloc (Nat.le_refl _) _
        have a0 : wA.cell? ⟨wr.heap.size, 0, none⟩ = some (.int .u32 xa) := by rw [← hwA]; simp
        have a1 : wA.cell? ⟨wr.heap.size, 1, none⟩ = some (.int .i64 xb) := by rw [← hwA]; simp
        have a2 : wA.cell? ⟨wr.heap.size, 2, none⟩ = some (.int .i64 xc) := by rw [← hwA]; simp
        have HBA : Hid (Below w.heap.size w wA) := HBR.out.trans (hbA.mono HBR.out.size)
        rw [hwA]
        obtain ⟨s, hs⟩ : ∃ s, wr.heap.size = s := ⟨_, rfl⟩
        rw [hs] at a0 a1 a2 ⊢
        clear hwA hbA c0 c1 c2 hs hbr hp1 hp4
        refine (HP1.out _).mono ?_
        rintro e w5 ⟨rfl, hb5⟩
        have HB5 : Hid (Below w.heap.size w w5) := HBA.out.trans (hb5.mono HBA.out.size)
        have a0 := cell_bel a0 hb5
        have a1 := cell_bel a1 hb5
        have a2 := cell_bel a2 hb5
        clear hb5 HP1
        cases p1 with
        | false =>
          obtain rfl : r = false := HRR.out (by rw [HLK.out]; rfl)
          clear HP4 HRR HLK HG2
          go_wp2_with fail
          go_ret
          exact ⟨rfl, HB5.out⟩
        | true =>
          go_wp2_with fail
          refine (HP4 _).mono ?_
          rintro e w6 ⟨rfl, hw6⟩
          rw [hw6]
          clear hw6 w6 HP4
          cases p4 with
          | false =>
            obtain rfl : r = false := HRR.out (by rw [HLK.out]; rfl)
            clear HRR HLK HG2
            go_wp2_with fail
            go_ret
            exact ⟨rfl, HB5.out⟩
          | true =>
            have HG3 : Hid ((stFits last (xa, xb, xc) && rs (some (xa, xb, xc)) (xs.drop (k + 1))) = r) := by
              have h1 := HG2.out
              rw [HLK.out] at h1
              exact h1
            clear HRR HLK HG2
            go_wp2_with fail
            have j0 := cell_regrown a0
            have j1 := cell_regrown a1
            rcases (show k = 0 ∨ ∃ k', k = k' + 1 by cases k with | zero => exact .inl rfl | succ q => exact .inr ⟨q, rfl⟩) with rfl | ⟨k', rfl⟩
            · have HG4 : Hid (rs (some (xa, xb, xc)) (xs.drop (0 + 1)) = r) := by
                have h1 := HLAST.out
                rw [if_pos rfl] at h1
                subst h1
                exact HG3.out
              clear HG3 HLAST
              refine wp_region_quiet_below (by kernel_rfl) (by kernel_rfl) ?_
              repeat (go_big_quiet_step (fail))
              refine wpQuiet_nil ?_
              intro w8 hw8
              have HB8 : Hid (Below w.heap.size w w8) := HB5.out.trans ((regrown_low hw8).mono HB5.out.size)
              clear hw8 j0 j1
              go_wp2_with fail
              exact ⟨⟨0 + 1, by omega, by simp, by rw [HNX.out]; exact HG4.out, HB8.out⟩, by simp [intOf]; omega⟩
            · have hk' : k' < xs.length := by omega
              obtain ⟨b', o', e', -, d0, d1, d2⟩ := (HX.out.bel HB5.out).cells k' hk'
              cases e'
              have hin2 := H32.out _ (List.getElem_mem hk')
              obtain ⟨⟨ya, yb, yc⟩, hy⟩ : ∃ y, xs[k'] = y := ⟨_, rfl⟩
              rw [hy] at d0 d1 hin2
              have m0 : 0 ≤ ya := hin2.1
              have m1 : ya < 4294967296 := hin2.2
              obtain ⟨C, hC⟩ : ∃ C, ord ya yb xa xb = C := ⟨_, rfl⟩
              have hCr : C = -1 ∨ C = 0 ∨ C = 1 := by rw [← hC]; exact ord_ord.rng (ya, yb) (xa, xb)
              have HG4 : Hid (((C == -1) && rs (some (xa, xb, xc)) (xs.drop (k' + 1 + 1))) = r) := by
                have h1 := HLAST.out
                rw [if_neg (by omega), show k' + 1 - 1 = k' by omega, List.getElem?_eq_getElem hk', hy] at h1
                subst h1
                have h2 := HG3.out
                rw [show stFits (some (ya, yb, yc)) (xa, xb, xc) = (ord ya yb xa xb == -1) from rfl, hC] at h2
                exact h2
              have HOR : Hid (∀ W, Calls Try.prog 34 #[.agg #[.int .u32 ya, .int .i64 yb], .agg #[.int .u32 xa, .int .i64 xb]] W fun e w' => e = .returned (.int .i64 C) ∧ Below W.heap.size W w') := fun W => by rw [← hC]; exact order_any ya yb xa xb m0 m1 i0 i1 W
              have j2 := cell_regrown d0
              have j3 := cell_regrown d1
              have hk1 : (k' : Int) < L := by omega
              have k10 : (0 : Int) ≤ k' := by omega
              clear d0 d1 d2 hy HLAST HG3 hC hin2
              by_cases hlc : C = -1
              · subst hlc
                have HG5 : Hid (rs (some (xa, xb, xc)) (xs.drop (k' + 1 + 1)) = r) := HG4.out
                clear HG4 hCr
                refine wp_region_quiet_below (by kernel_rfl) (by kernel_rfl) ?_
                repeat (go_big_quiet_step ((go_at_call 34; exact Calls.regrown_of (HOR.out _))))
                refine wpQuiet_nil ?_
                intro w8 hw8
                have HB8 : Hid (Below w.heap.size w w8) := HB5.out.trans ((regrown_low hw8).mono HB5.out.size)
                clear hw8 j2 j1 j0 j3 HOR
                go_wp2_with fail
                exact ⟨⟨k' + 1 + 1, by omega, by simp, by rw [HNX.out]; exact HG5.out, HB8.out⟩, by simp [intOf]; omega⟩
              · obtain rfl : r = false := by
                  rw [← HG4.out, show (C == -1) = false by simp [hlc]]; rfl
                have hc0 : 0 ≤ C := by omega
                clear HG4 hCr hlc
                refine wp_region_quiet_below (by kernel_rfl) (by kernel_rfl) ?_
                repeat (go_big_quiet_step ((go_at_call 34; exact Calls.regrown_of (HOR.out _))))
                refine wpQuiet_nil ?_
                intro w8 hw8
                have HB8 : Hid (Below w.heap.size w w8) := HB5.out.trans ((regrown_low hw8).mono HB5.out.size)
                clear hw8 j2 j1 j0 j3 HOR
                go_wp2_with fail
                go_ret
                exact ⟨rfl, HB8.out⟩
      · obtain rfl : L = k := by omega
        obtain rfl : r = true := by rw [← HG.out, List.drop_of_length_le (by rw [HLX.out]; omega), rs_nil]
        clear HG HLAST
        go_wp2_with fail
        go_ret
        exact ⟨rfl, HBR.out⟩
end Go.Proofs.Ytagfdmkgnedlbae.Ls
