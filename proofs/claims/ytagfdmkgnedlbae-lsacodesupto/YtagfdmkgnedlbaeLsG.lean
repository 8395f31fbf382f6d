/- Right of announcements: what it answers. -/
import Derived.Test.YtagfdmkgnedlbaeLsF
namespace Go.Proofs.Ytagfdmkgnedlbae.Ls
open Go.ChangeShapes Go.WideShapes Go.ChangeAt Go.RowKit Go.Proofs.Ytagfdmkgnedlbae.PM Go.Proofs.Ytagfdmkgnedlbae.Ask
set_option linter.unusedVariables false

def tellsI (x : Lsa) : Bool := decide (x.pa = 0 ∧ x.pn = 0) && ((x.cost == 0) && ((x.tag == 0) && (rightL x.origin x.links && rightS x.stubs)))
def tellsP (x : Lsa) : Bool := vld x.pa x.pn && (inB 0 16777215 x.cost && ((x.links.length == 0) && (x.stubs.length == 0)))
def right (x : Lsa) : Bool := (inB 1 4294967295 x.origin && (inB 1 1073741824 x.seq && inB 0 120 x.age)) && (if x.kind = 1 then inB 0 65534 x.area && tellsI x else if x.kind = 2 then (inB 0 65534 x.area && tellsP x) && (x.tag == 0) else if x.kind = 3 then ((x.area == 65535) && tellsP x) && inB 0 4294967295 x.tag else false)
/-- the box of what came in -/
theorem lbox_new {w W : World} {kind area origin pa pn seq age : Int} {lv sv : Value} {cost tag : Int} (hW : w.alloc (Obj.cells #[.int .i64 kind, .int .i64 area, .int .i64 origin, .int .u32 pa, .int .i64 pn, .int .i64 seq, .int .i64 age, lv, sv, .int .i64 cost, .int .i64 tag] 28) = W) : LBox w.heap.size kind area origin pa pn seq age lv sv cost tag W ∧ Below w.heap.size w W := by
  subst hW
  exact ⟨by constructor <;> simp, (Below.refl _ w).alloc (Nat.le_refl _) _⟩

set_option maxRecDepth 100000 in
set_option maxHeartbeats 2000000 in
theorem tellsP_any (x : Lsa) (la : Option Addr) (lc : Nat) (sa : Option Addr) (sc : Nat) (w : World) (hx : LsOk w x la sa) (r : Bool) (hr : tellsP x = r) :
    Calls Try.prog 27 #[lsaV x la lc sa sc] w fun e w' => e = .returned (.bool r) ∧ Below w.heap.size w w' := by
  obtain ⟨kind, area, origin, pa, pn, seq, age, cost, tag, links, stubs⟩ := x
  have i0 : 0 ≤ pa := hx.p32.1
  have i1 : pa < 4294967296 := hx.p32.2
  obtain ⟨n1, hn1⟩ : ∃ n1, links.length = n1 := ⟨_, rfl⟩
  obtain ⟨n2, hn2⟩ : ∃ n2, stubs.length = n2 := ⟨_, rfl⟩
  obtain ⟨p1, hp1⟩ : ∃ p, vld pa pn = p := ⟨_, rfl⟩
  obtain ⟨p2, hp2⟩ : ∃ p, inB 0 16777215 cost = p := ⟨_, rfl⟩
  have HR : Hid ((p1 && (p2 && ((n1 == 0) && (n2 == 0)))) = r) := by show _ = _; rw [← hr, ← hp1, ← hp2, ← hn1, ← hn2]; rfl
  unfold lsaV
  dsimp only
  rw [hn1, hn2]
  have HP1 : Hid (∀ W, Calls Try.prog 60 #[.agg #[.int .u32 pa, .int .i64 pn]] W fun e w' => e = .returned (.bool p1) ∧ Below W.heap.size W w') := fun W => by rw [← hp1]; exact valid_any pa pn i0 i1 W
  have HP2 := within_any cost 0 16777215 p2 hp2
  clear hr hx hn1 hn2 hp1 hp2 links stubs
  go_enter Try.func27, Try.ntmps27
  go_wp2_with fail
  obtain ⟨w0, hw0⟩ : ∃ w0, w.alloc (Obj.cells #[.int .i64 kind, .int .i64 area, .int .i64 origin, .int .u32 pa, .int .i64 pn, .int .i64 seq, .int .i64 age, .slice la n1 lc, .slice sa n2 sc, .int .i64 cost, .int .i64 tag] 28) = w0 := ⟨_, rfl⟩
  obtain ⟨hbx, hb0⟩ := lbox_new hw0
  rw [hw0]
  clear hw0
  obtain ⟨s, hs⟩ : ∃ s, w.heap.size = s := ⟨_, rfl⟩
  rw [hs] at hbx ⊢
  refine (HP1.out _).mono ?_
  rintro e w5 ⟨rfl, hb5⟩
  have HB5 : Hid (Below w.heap.size w w5) := hb0.trans (hb5.mono hb0.size)
  obtain ⟨-, -, -, -, -, -, -, c7, c8, c9, -⟩ := hbx.bel hb5
  clear hbx hb5 hb0 HP1
  rw [← hs]
  cases p1 with
  | false =>
    obtain rfl : r = false := HR.out.symm
    clear HP2
    go_wp2_with fail
    go_ret
    exact ⟨rfl, HB5.out⟩
  | true =>
    go_wp2_with fail
    refine (HP2 _).mono ?_
    rintro e w6 ⟨rfl, hw6⟩
    rw [hw6]
    clear hw6 w6 HP2
    cases p2 with
    | false =>
      obtain rfl : r = false := HR.out.symm
      go_wp2_with fail
      go_ret
      exact ⟨rfl, HB5.out⟩
    | true =>
      by_cases h1 : n1 = 0
      · subst h1
        by_cases h2 : n2 = 0
        · subst h2
          obtain rfl : r = true := HR.out.symm
          go_wp2_with fail
          go_ret
          exact ⟨rfl, HB5.out⟩
        · obtain rfl : r = false := by rw [← HR.out]; simp [h2]
          have h2b : ((n2 : Int) == 0) = false := by simp; omega
          go_wp2_with fail
          go_ret
          exact ⟨rfl, HB5.out⟩
      · obtain rfl : r = false := by rw [← HR.out]; simp [h1]
        go_wp2_with fail
        go_ret
        exact ⟨rfl, HB5.out⟩

set_option maxRecDepth 100000 in
set_option maxHeartbeats 2000000 in
theorem tellsI_any (x : Lsa) (la : Option Addr) (lc : Nat) (sa : Option Addr) (sc : Nat) (w : World) (hx : LsOk w x la sa) (r : Bool) (hr : tellsI x = r) :
    Calls Try.prog 26 #[lsaV x la lc sa sc] w fun e w' => e = .returned (.bool r) ∧ Below w.heap.size w w' := by
  obtain ⟨kind, area, origin, pa, pn, seq, age, cost, tag, links, stubs⟩ := x
  have HX : Hid (L3 .i64 w la links) := hx.lk
  have HY : Hid (L3 .u32 w sa stubs) := hx.st
  have H32 : Hid (∀ d ∈ stubs, In32 d.1) := hx.s32
  obtain ⟨n1, hn1⟩ : ∃ n1, links.length = n1 := ⟨_, rfl⟩
  obtain ⟨n2, hn2⟩ : ∃ n2, stubs.length = n2 := ⟨_, rfl⟩
  obtain ⟨p1, hp1⟩ : ∃ p, rightL origin links = p := ⟨_, rfl⟩
  obtain ⟨p2, hp2⟩ : ∃ p, rightS stubs = p := ⟨_, rfl⟩
  have HR : Hid ((decide (pa = 0 ∧ pn = 0) && ((cost == 0) && ((tag == 0) && (p1 && p2)))) = r) := by show _ = _; rw [← hr, ← hp1, ← hp2]; rfl
  unfold lsaV
  dsimp only
  rw [hn1, hn2]
  have HP1 : Hid (∀ W, Below w.heap.size w W → Calls Try.prog 58 #[.slice la n1 lc, .int .i64 origin] W fun e w' => e = .returned (.bool p1) ∧ Below W.heap.size W w') := fun W hW => rlinks_any la lc links n1 hn1 origin W (HX.out.bel hW) p1 hp1
  have HP2 : Hid (∀ W, Below w.heap.size w W → Calls Try.prog 59 #[.slice sa n2 sc] W fun e w' => e = .returned (.bool p2) ∧ Below W.heap.size W w') := fun W hW => rstubs_any sa sc stubs n2 hn2 W (HY.out.bel hW) H32.out p2 hp2
  clear hr hx hn1 hn2 hp1 hp2 HX HY H32 links stubs
  go_enter Try.func26, Try.ntmps26
  by_cases h0 : pa = 0
  · by_cases h1 : pn = 0
    · by_cases h2 : cost = 0
      · by_cases h3 : tag = 0
        · subst h0 h1 h2 h3
          have HR2 : Hid ((p1 && p2) = r) := HR.out
          clear HR
          go_wp2_with fail
          obtain ⟨w0, hw0⟩ : ∃ w0, w.alloc (Obj.cells #[.int .i64 kind, .int .i64 area, .int .i64 origin, .int .u32 0, .int .i64 0, .int .i64 seq, .int .i64 age, .slice la n1 lc, .slice sa n2 sc, .int .i64 0, .int .i64 0] 28) = w0 := ⟨_, rfl⟩
          obtain ⟨hbx, hb0⟩ := lbox_new hw0
          rw [hw0]
          clear hw0
          refine (HP1.out w0 hb0).mono ?_
          rintro e w5 ⟨rfl, hb5⟩
          have HB5 : Hid (Below w.heap.size w w5) := hb0.trans (hb5.mono hb0.size)
          obtain ⟨-, -, -, -, -, -, -, c7, c8, c9, -⟩ := hbx.bel hb5
          clear hbx hb5 hb0 HP1
          cases p1 with
          | false =>
            obtain rfl : r = false := HR2.out.symm
            clear HP2
            go_wp2_with fail
            go_ret
            exact ⟨rfl, HB5.out⟩
          | true =>
            obtain rfl : p2 = r := HR2.out
            go_wp2_with fail
            refine (HP2.out w5 HB5.out).mono ?_
            rintro e w6 ⟨rfl, hb6⟩
            have HB6 : Hid (Below w.heap.size w w6) := HB5.out.trans (hb6.mono HB5.out.size)
            clear hb6 HP2
            go_wp2_with fail
            go_ret
            exact ⟨rfl, HB6.out⟩
        · obtain rfl : r = false := by rw [← HR.out]; simp [h3]
          clear HP1 HP2 HR
          go_wp2_with fail
          go_ret
          exact ⟨rfl, (Below.refl _ w).alloc (Nat.le_refl _) _⟩
      · obtain rfl : r = false := by rw [← HR.out]; simp [h2]
        clear HP1 HP2 HR
        go_wp2_with fail
        go_ret
        exact ⟨rfl, (Below.refl _ w).alloc (Nat.le_refl _) _⟩
    · obtain rfl : r = false := by rw [← HR.out]; simp [h1]
      clear HP1 HP2 HR
      go_wp2_with fail
      go_ret
      exact ⟨rfl, (Below.refl _ w).alloc (Nat.le_refl _) _⟩
  · obtain rfl : r = false := by rw [← HR.out]; simp [h0]
    clear HP1 HP2 HR
    go_wp2_with fail
    go_ret
    exact ⟨rfl, (Below.refl _ w).alloc (Nat.le_refl _) _⟩

set_option maxRecDepth 100000 in
set_option maxHeartbeats 4000000 in
theorem right_any (x : Lsa) (la : Option Addr) (lc : Nat) (sa : Option Addr) (sc : Nat) (w : World) (hx : LsOk w x la sa) (r : Bool) (hr : right x = r) :
    Calls Try.prog 9 #[lsaV x la lc sa sc] w fun e w' => e = .returned (.bool r) ∧ Below w.heap.size w w' := by
  obtain ⟨p1, hp1⟩ : ∃ p, tellsI x = p := ⟨_, rfl⟩
  obtain ⟨p2, hp2⟩ : ∃ p, tellsP x = p := ⟨_, rfl⟩
  have HPI : Hid (∀ W, Below w.heap.size w W → Calls Try.prog 26 #[lsaV x la lc sa sc] W fun e w' => e = .returned (.bool p1) ∧ Below W.heap.size W w') := fun W hW => tellsI_any x la lc sa sc W (hx.bel hW) p1 hp1
  have HPP : Hid (∀ W, Below w.heap.size w W → Calls Try.prog 27 #[lsaV x la lc sa sc] W fun e w' => e = .returned (.bool p2) ∧ Below W.heap.size W w') := fun W hW => tellsP_any x la lc sa sc W (hx.bel hW) p2 hp2
  unfold right at hr
  rw [hp1, hp2] at hr
  obtain ⟨kind, area, origin, pa, pn, seq, age, cost, tag, links, stubs⟩ := x
  dsimp only at hr
  obtain ⟨b1, hb1⟩ : ∃ p, inB 1 4294967295 origin = p := ⟨_, rfl⟩
  obtain ⟨b2, hb2⟩ : ∃ p, inB 1 1073741824 seq = p := ⟨_, rfl⟩
  obtain ⟨b3, hb3⟩ : ∃ p, inB 0 120 age = p := ⟨_, rfl⟩
  obtain ⟨b4, hb4⟩ : ∃ p, inB 0 65534 area = p := ⟨_, rfl⟩
  obtain ⟨b5, hb5⟩ : ∃ p, inB 0 4294967295 tag = p := ⟨_, rfl⟩
  have H1 := router_any origin b1 hb1
  have H2 := within_any seq 1 1073741824 b2 hb2
  have H3 := within_any age 0 120 b3 hb3
  have H4 := area_any area b4 hb4
  have H5 := within_any tag 0 4294967295 b5 hb5
  rw [hb1, hb2, hb3, hb4, hb5] at hr
  have HR : Hid (((b1 && (b2 && b3)) && (if kind = 1 then b4 && p1 else if kind = 2 then (b4 && p2) && (tag == 0) else if kind = 3 then ((area == 65535) && p2) && b5 else false)) = r) := hr
  obtain ⟨n1, hn1⟩ : ∃ n1, links.length = n1 := ⟨_, rfl⟩
  obtain ⟨n2, hn2⟩ : ∃ n2, stubs.length = n2 := ⟨_, rfl⟩
  unfold lsaV at HPI HPP ⊢
  dsimp only at HPI HPP ⊢
  rw [hn1, hn2] at HPI HPP ⊢
  clear hr hx hn1 hn2 hp1 hp2 hb1 hb2 hb3 hb4 hb5 links stubs
  go_enter Try.func9, Try.ntmps9
  go_wp2_with fail
  obtain ⟨w0, hw0⟩ : ∃ w0, w.alloc (Obj.cells #[.int .i64 kind, .int .i64 area, .int .i64 origin, .int .u32 pa, .int .i64 pn, .int .i64 seq, .int .i64 age, .slice la n1 lc, .slice sa n2 sc, .int .i64 cost, .int .i64 tag] 28) = w0 := ⟨_, rfl⟩
  obtain ⟨hbx, hb0⟩ := lbox_new hw0
  rw [hw0]
  clear hw0
  have HB0 : Hid (Below w.heap.size w w0) := hb0
  have HBX : Hid (LBox w.heap.size kind area origin pa pn seq age (.slice la n1 lc) (.slice sa n2 sc) cost tag w0) := hbx
  obtain ⟨c0, c1, c2, c3, c4, c5, c6, c7, c8, c9, c10⟩ := hbx
  clear hb0
  refine (H1 _).mono ?_
  rintro e w6 ⟨rfl, hw6⟩
  rw [hw6]
  clear hw6 w6 H1
  cases b1 with
  | false =>
    obtain rfl : r = false := HR.out.symm
    clear H2 H3 H4 H5
    go_wp2_with fail
    go_ret
    exact ⟨rfl, HB0.out⟩
  | true =>
    go_wp2_with fail
    refine (H2 _).mono ?_
    rintro e w6 ⟨rfl, hw6⟩
    rw [hw6]
    clear hw6 w6 H2
    cases b2 with
    | false =>
      obtain rfl : r = false := HR.out.symm
      clear H3 H4 H5
      go_wp2_with fail
      go_ret
      exact ⟨rfl, HB0.out⟩
    | true =>
      go_wp2_with fail
      refine (H3 _).mono ?_
      rintro e w6 ⟨rfl, hw6⟩
      rw [hw6]
      clear hw6 w6 H3
      cases b3 with
      | false =>
        obtain rfl : r = false := HR.out.symm
        clear H4 H5
        go_wp2_with fail
        go_ret
        exact ⟨rfl, HB0.out⟩
      | true =>
        have HR2 : Hid ((if kind = 1 then b4 && p1 else if kind = 2 then (b4 && p2) && (tag == 0) else if kind = 3 then ((area == 65535) && p2) && b5 else false) = r) := HR.out
        clear HR
        by_cases k1 : kind = 1
        · subst k1
          have HR3 : Hid ((b4 && p1) = r) := HR2.out
          clear HR2 H5 HPP
          go_wp2_with fail
          refine (H4 _).mono ?_
          rintro e w6 ⟨rfl, hw6⟩
          rw [hw6]
          clear hw6 w6 H4
          cases b4 with
          | false =>
            obtain rfl : r = false := HR3.out.symm
            go_wp2_with fail
            go_ret
            exact ⟨rfl, HB0.out⟩
          | true =>
            obtain rfl : p1 = r := HR3.out
            go_wp2_with fail
            refine (HPI.out _ HB0.out).mono ?_
            rintro e w7 ⟨rfl, hb7⟩
            have HB7 : Hid (Below w.heap.size w w7) := HB0.out.trans (hb7.mono HB0.out.size)
            clear hb7 HPI
            go_wp2_with fail
            go_ret
            exact ⟨rfl, HB7.out⟩
        · by_cases k2 : kind = 2
          · subst k2
            have HR3 : Hid (((b4 && p2) && (tag == 0)) = r) := HR2.out
            clear HR2 H5 HPI
            go_wp2_with fail
            refine (H4 _).mono ?_
            rintro e w6 ⟨rfl, hw6⟩
            rw [hw6]
            clear hw6 w6 H4
            cases b4 with
            | false =>
              obtain rfl : r = false := HR3.out.symm
              go_wp2_with fail
              go_ret
              exact ⟨rfl, HB0.out⟩
            | true =>
              go_wp2_with fail
              refine (HPP.out _ HB0.out).mono ?_
              rintro e w7 ⟨rfl, hb7⟩
              have HB7 : Hid (Below w.heap.size w w7) := HB0.out.trans (hb7.mono HB0.out.size)
              have e10 := cell_bel c10 hb7
              clear hb7 HPP
              cases p2 with
              | false =>
                obtain rfl : r = false := HR3.out.symm
                go_wp2_with fail
                go_ret
                exact ⟨rfl, HB7.out⟩
              | true =>
                by_cases ht : tag = 0
                · subst ht
                  obtain rfl : r = true := HR3.out.symm
                  go_wp2_with fail
                  go_ret
                  exact ⟨rfl, HB7.out⟩
                · have ht2 : (tag == 0) = false := by simp [ht]
                  obtain rfl : r = false := by rw [← HR3.out, ht2]; rfl
                  go_wp2_with fail
                  go_ret
                  exact ⟨rfl, HB7.out⟩
          · by_cases k3 : kind = 3
            · subst k3
              have HR3 : Hid ((((area == 65535) && p2) && b5) = r) := HR2.out
              clear HR2 H4 HPI
              by_cases har : area = 65535
              · subst har
                have HR4 : Hid ((p2 && b5) = r) := HR3.out
                clear HR3
                go_wp2_with fail
                refine (HPP.out _ HB0.out).mono ?_
                rintro e w7 ⟨rfl, hb7⟩
                have HB7 : Hid (Below w.heap.size w w7) := HB0.out.trans (hb7.mono HB0.out.size)
                have e10 := cell_bel c10 hb7
                clear hb7 HPP
                cases p2 with
                | false =>
                  obtain rfl : r = false := HR4.out.symm
                  clear H5
                  go_wp2_with fail
                  go_ret
                  exact ⟨rfl, HB7.out⟩
                | true =>
                  obtain rfl : b5 = r := HR4.out
                  go_wp2_with fail
                  refine (H5 _).mono ?_
                  rintro e w8 ⟨rfl, hw8⟩
                  rw [hw8]
                  clear hw8 w8 H5
                  go_wp2_with fail
                  go_ret
                  exact ⟨rfl, HB7.out⟩
              · have ht2 : (area == 65535) = false := by simp [har]
                obtain rfl : r = false := by rw [← HR3.out, ht2]; rfl
                clear H5 HPP HR3
                go_wp2_with fail
                go_ret
                exact ⟨rfl, HB0.out⟩
            · obtain rfl : r = false := by rw [← HR2.out, if_neg k1, if_neg k2, if_neg k3]
              clear H4 H5 HPP HPI HR2
              go_wp2_with fail
              go_ret
              exact ⟨rfl, HB0.out⟩
end Go.Proofs.Ytagfdmkgnedlbae.Ls
