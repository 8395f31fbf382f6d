/- The document's LsaSame, of an announcement and its copy: what it answers. -/
import Derived.Test.YtagfdmkgnedlbaeLsI
namespace Go.Proofs.Ytagfdmkgnedlbae.Ls
open Go.ChangeShapes Go.WideShapes Go.ChangeAt Go.RowKit Go.Proofs.Ytagfdmkgnedlbae.PM Go.Proofs.Ytagfdmkgnedlbae.Ask
set_option linter.unusedVariables false

set_option maxRecDepth 100000 in
set_option maxHeartbeats 4000000 in
theorem same_any (x : Lsa) (la : Option Addr) (lc : Nat) (sa : Option Addr) (sc : Nat) (lb : Option Addr) (ld : Nat) (sb : Option Addr) (sd : Nat) (w : World) (hx : LsOk w x la sa) (hy : LsOk w x lb sb) :
    Calls Try.prog 15 #[lsaV x la lc sa sc, lsaV x lb ld sb sd] w fun e w' => e = .returned (.bool true) ∧ Below w.heap.size w w' := by
  have HOR : Hid (∀ W, Calls Try.prog 12 #[lsaV x la lc sa sc, lsaV x lb ld sb sd] W fun e w' => e = .returned (.int .i64 0) ∧ Below W.heap.size W w') := fun W => rlorder_any x x la lc sa sc lb ld sb sd W hx.p32 hx.p32 0 (ord_order.refl x)
  obtain ⟨kind, area, origin, pa, pn, seq, age, cost, tag, links, stubs⟩ := x
  have HX : Hid (L3 .i64 w la links) := hx.lk
  have HXS : Hid (L3 .u32 w sa stubs) := hx.st
  have HY : Hid (L3 .i64 w lb links) := hy.lk
  have HYS : Hid (L3 .u32 w sb stubs) := hy.st
  obtain ⟨n1, hn1⟩ : ∃ n1, links.length = n1 := ⟨_, rfl⟩
  obtain ⟨n2, hn2⟩ : ∃ n2, stubs.length = n2 := ⟨_, rfl⟩
  have HN1 : Hid (links.length = n1) := hn1
  have HN2 : Hid (stubs.length = n2) := hn2
  have hl9 := hx.lk.small
  have hs9 := hx.st.small
  dsimp only at hl9 hs9
  rw [hn1] at hl9
  rw [hn2] at hs9
  unfold lsaV at HOR ⊢
  dsimp only at HOR ⊢
  rw [hn1, hn2] at HOR ⊢
  clear hn1 hn2 hx hy
  go_enter Try.func15, Try.ntmps15
  go_wp2_with fail
  obtain ⟨w0, hw0⟩ : ∃ w0, (w.alloc (Obj.cells #[.int .i64 kind, .int .i64 area, .int .i64 origin, .int .u32 pa, .int .i64 pn, .int .i64 seq, .int .i64 age, .slice la n1 lc, .slice sa n2 sc, .int .i64 cost, .int .i64 tag] 28)).alloc (Obj.cells #[.int .i64 kind, .int .i64 area, .int .i64 origin, .int .u32 pa, .int .i64 pn, .int .i64 seq, .int .i64 age, .slice lb n1 ld, .slice sb n2 sd, .int .i64 cost, .int .i64 tag] 28) = w0 := ⟨_, rfl⟩
  obtain ⟨g1, g2, hs0, hb0⟩ := ha2 _ _ w0 hw0.symm
  have HBX : Hid (LBox w.heap.size kind area origin pa pn seq age (.slice la n1 lc) (.slice sa n2 sc) cost tag w0) := by constructor <;> simp [World.cell?, g1]
  have HBY : Hid (LBox (w.heap.size + 1) kind area origin pa pn seq age (.slice lb n1 ld) (.slice sb n2 sd) cost tag w0) := by constructor <;> simp [World.cell?, g2]
  rw [hw0]
  clear hw0 g1 g2 hs0
  obtain ⟨s, hs⟩ : ∃ s, w.heap.size = s := ⟨_, rfl⟩
  rw [hs] at HBX HBY
  have HB0 : Hid (Below w.heap.size w w0) := hb0
  rw [hs]
  clear hs hb0
  refine (HOR.out _).mono ?_
  rintro e w1 ⟨rfl, hb1⟩
  have HB1 : Hid (Below w0.heap.size w0 w1) := hb1
  obtain ⟨c0, c1, c2, c3, c4, c5, c6, c7, c8, c9, c10⟩ := HBX.out.bel hb1
  obtain ⟨d0, d1, d2, d3, d4, d5, d6, d7, d8, d9, d10⟩ := HBY.out.bel hb1
  clear hb1 HOR
  go_wp2_with fail
  clear c0 c1 c2 c3 c4 c5 c6 c7 c8 c9 c10 d0 d1 d2 d3 d4 d5 d6 d7 d8 d9 d10
  go_loopw [60] (fun iv wr => ∃ k : Nat, k ≤ n1 ∧ iv = .int .i64 k ∧ Below w0.heap.size w0 wr) (fun i _ => n1 - (intOf i).toNat)
  case atStart => exact ⟨0, by omega, rfl, HB1.out⟩
  case round =>
    obtain ⟨k, hk, rfl, hbr⟩ := hrel
    have HBR : Hid (Below w0.heap.size w0 wr) := hbr
    have HBW : Hid (Below w.heap.size w wr) := HB0.out.trans (hbr.mono HB0.out.size)
    by_cases hlt : k < n1
    · have hkd : k < links.length := by rw [HN1.out]; exact hlt
      obtain ⟨b, o, rfl, -, e0, e1, e2⟩ := (HX.out.bel HBW.out).cells k hkd
      obtain ⟨b', o', rfl, -, f0, f1, f2⟩ := (HY.out.bel HBW.out).cells k hkd
      obtain ⟨⟨xa, xb, xc⟩, hxk⟩ : ∃ y, links[k] = y := ⟨_, rfl⟩
      rw [hxk] at e0 e1 e2 f0 f1 f2
      have j0 := cell_regrown e0
      have j1 := cell_regrown e1
      have j2 := cell_regrown e2
      have j3 := cell_regrown f0
      have j4 := cell_regrown f1
      have j5 := cell_regrown f2
      have j6 := cell_regrown (HBX.out.bel hbr).c7
      have j7 := cell_regrown (HBY.out.bel hbr).c7
      have hkk : (k : Int) < n1 := by omega
      have kk0 : (0 : Int) ≤ k := by omega
      clear hxk e0 e1 e2 f0 f1 f2 hbr
      go_wp2_with fail
      refine wp_region_quiet_below (by kernel_rfl) (by kernel_rfl) ?_
      repeat (go_big_quiet_step (fail))
      refine wpQuiet_nil ?_
      intro w8 hw8
      have HB8 : Hid (Below w0.heap.size w0 w8) := HBR.out.trans ((regrown_low hw8).mono HBR.out.size)
      clear hw8 j0 j1 j2 j3 j4 j5 j6 j7
      go_wp2_with fail
      exact ⟨⟨k + 1, by omega, by simp, HB8.out⟩, by simp [intOf]; omega⟩
    · obtain rfl : n1 = k := by omega
      obtain ⟨-, -, -, -, -, -, -, -, c8, -, -⟩ := HBX.out.bel hbr
      clear HB1 hbr
      go_wp2_with fail
      clear c8
      go_loopw [78] (fun iv wr => ∃ k : Nat, k ≤ n2 ∧ iv = .int .i64 k ∧ Below w0.heap.size w0 wr) (fun i _ => n2 - (intOf i).toNat)
      case atStart => exact ⟨0, by omega, rfl, HBR.out⟩
      case round =>
        obtain ⟨k, hk, rfl, hbr⟩ := hrel
        have HBR2 : Hid (Below w0.heap.size w0 wr) := hbr
        have HBW2 : Hid (Below w.heap.size w wr) := HB0.out.trans (hbr.mono HB0.out.size)
        by_cases hlt : k < n2
        · have hkd : k < stubs.length := by rw [HN2.out]; exact hlt
          obtain ⟨b, o, rfl, -, e0, e1, e2⟩ := (HXS.out.bel HBW2.out).cells k hkd
          obtain ⟨b', o', rfl, -, f0, f1, f2⟩ := (HYS.out.bel HBW2.out).cells k hkd
          obtain ⟨⟨xa, xb, xc⟩, hxk⟩ : ∃ y, stubs[k] = y := ⟨_, rfl⟩
          rw [hxk] at e0 e1 e2 f0 f1 f2
          have j0 := cell_regrown e0
          have j1 := cell_regrown e1
          have j2 := cell_regrown e2
          have j3 := cell_regrown f0
          have j4 := cell_regrown f1
          have j5 := cell_regrown f2
          have j6 := cell_regrown (HBX.out.bel hbr).c8
          have j7 := cell_regrown (HBY.out.bel hbr).c8
          have hkk : (k : Int) < n2 := by omega
          have kk0 : (0 : Int) ≤ k := by omega
          clear hxk e0 e1 e2 f0 f1 f2 hbr
          go_wp2_with fail
          refine wp_region_quiet_below (by kernel_rfl) (by kernel_rfl) ?_
          repeat (go_big_quiet_step (fail))
          refine wpQuiet_nil ?_
          intro w8 hw8
          have HB8 : Hid (Below w0.heap.size w0 w8) := HBR2.out.trans ((regrown_low hw8).mono HBR2.out.size)
          clear hw8 j0 j1 j2 j3 j4 j5 j6 j7
          go_wp2_with fail
          exact ⟨⟨k + 1, by omega, by simp, HB8.out⟩, by simp [intOf]; omega⟩
        · obtain rfl : n2 = k := by omega
          clear hbr
          go_wp2_with fail
          go_ret
          exact ⟨rfl, HBW2.out⟩
end Go.Proofs.Ytagfdmkgnedlbae.Ls
