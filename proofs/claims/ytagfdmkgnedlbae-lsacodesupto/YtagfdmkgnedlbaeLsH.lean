/- The document's Right of announcements: what it answers. -/
import Derived.Test.YtagfdmkgnedlbaeLsG
namespace Go.Proofs.Ytagfdmkgnedlbae.Ls
open Go.ChangeShapes Go.WideShapes Go.ChangeAt Go.RowKit Go.Proofs.Ytagfdmkgnedlbae.PM Go.Proofs.Ytagfdmkgnedlbae.Ask
set_option linter.unusedVariables false

def In64 (n : Int) : Prop := -9223372036854775808 ≤ n ∧ n ≤ 9223372036854775807
theorem rrouter_any (n : Int) (b : Bool) (hb : inB 1 4294967295 n = b) (w : World) : Calls Try.prog 28 #[.int .i64 n] w fun e w' => e = .returned (.bool b) ∧ w' = w := by
  by_cases h1 : 0 < n
  · by_cases h2 : n ≤ 4294967295
    · obtain rfl : b = true := by rw [← hb]; unfold inB; rw [decide_eq_true (by omega), decide_eq_true h2]; rfl
      clear hb
      go_enter Try.func28, Try.ntmps28
      go_wp2_with fail
      go_ret
      exact ⟨rfl, rfl⟩
    · obtain rfl : b = false := by rw [← hb]; unfold inB; rw [decide_eq_false h2, Bool.and_false]
      clear hb
      go_enter Try.func28, Try.ntmps28
      go_wp2_with fail
      go_ret
      exact ⟨rfl, rfl⟩
  · obtain rfl : b = false := by rw [← hb]; unfold inB; rw [decide_eq_false (by omega)]; rfl
    clear hb
    go_enter Try.func28, Try.ntmps28
    go_wp2_with fail
    go_ret
    exact ⟨rfl, rfl⟩
theorem rin_any (n hi : Int) (b : Bool) (hb : inB 0 hi n = b) (w : World) : Calls Try.prog 29 #[.int .i64 n, .int .i64 hi] w fun e w' => e = .returned (.bool b) ∧ w' = w := by
  by_cases h1 : 0 ≤ n
  · by_cases h2 : n ≤ hi
    · obtain rfl : b = true := by rw [← hb]; simp [inB, h1, h2]
      clear hb
      go_enter Try.func29, Try.ntmps29
      go_wp2_with fail
      go_ret
      exact ⟨rfl, rfl⟩
    · obtain rfl : b = false := by rw [← hb]; simp [inB, h2]
      clear hb
      go_enter Try.func29, Try.ntmps29
      go_wp2_with fail
      go_ret
      exact ⟨rfl, rfl⟩
  · obtain rfl : b = false := by rw [← hb]; simp [inB, h1]
    clear hb
    go_enter Try.func29, Try.ntmps29
    go_wp2_with fail
    go_ret
    exact ⟨rfl, rfl⟩
theorem in_wrap {n : Int} (h : In64 n) : inB 0 65534 (IntKind.i64.wrap (n - 1)) = inB 1 65535 n := by
  obtain ⟨h1, h2⟩ := h
  by_cases e : n = -9223372036854775808
  · subst e; decide
  · have hw : IntKind.i64.wrap (n - 1) = n - 1 := by
      simp [IntKind.wrap, IntKind.bits, IntKind.signed]
      omega
    rw [hw]
    unfold inB
    rw [show decide (0 ≤ n - 1) = decide (1 ≤ n) from decide_eq_decide.2 (by omega), show decide (n - 1 ≤ 65534) = decide (n ≤ 65535) from decide_eq_decide.2 (by omega)]

set_option maxRecDepth 100000 in
set_option maxHeartbeats 8000000 in
theorem rright_any (x : Lsa) (la : Option Addr) (lc : Nat) (sa : Option Addr) (sc : Nat) (w : World) (hx : LsOk w x la sa) (h64 : ∀ d ∈ x.links, In64 d.2.1) (r : Bool) (hr : right x = r) :
    Calls Try.prog 10 #[lsaV x la lc sa sc] w fun e w' => e = .returned (.bool r) ∧ Below w.heap.size w w' := by
  unfold right tellsI tellsP rightL rightS at hr
  obtain ⟨kind, area, origin, pa, pn, seq, age, cost, tag, links, stubs⟩ := x
  have HX : Hid (L3 .i64 w la links) := hx.lk
  have HY : Hid (L3 .u32 w sa stubs) := hx.st
  have H32 : Hid (∀ d ∈ stubs, In32 d.1) := hx.s32
  have H64 : Hid (∀ d ∈ links, In64 d.2.1) := h64
  have i0 : 0 ≤ pa := hx.p32.1
  have i1 : pa < 4294967296 := hx.p32.2
  dsimp only at hr
  obtain ⟨n1, hn1⟩ : ∃ n1, links.length = n1 := ⟨_, rfl⟩
  obtain ⟨n2, hn2⟩ : ∃ n2, stubs.length = n2 := ⟨_, rfl⟩
  have hl9 := hx.lk.small
  have hs9 := hx.st.small
  dsimp only at hl9 hs9
  rw [hn1] at hl9
  rw [hn2] at hs9
  obtain ⟨b1, hb1⟩ : ∃ p, inB 1 4294967295 origin = p := ⟨_, rfl⟩
  obtain ⟨b2, hb2⟩ : ∃ p, inB 1 1073741824 seq = p := ⟨_, rfl⟩
  obtain ⟨b3, hb3⟩ : ∃ p, inB 0 120 age = p := ⟨_, rfl⟩
  obtain ⟨b4, hb4⟩ : ∃ p, inB 0 65534 area = p := ⟨_, rfl⟩
  obtain ⟨b5, hb5⟩ : ∃ p, inB 0 4294967295 tag = p := ⟨_, rfl⟩
  obtain ⟨b6, hb6⟩ : ∃ p, inB 0 16777215 cost = p := ⟨_, rfl⟩
  obtain ⟨b7, hb7⟩ : ∃ p, vld pa pn = p := ⟨_, rfl⟩
  obtain ⟨R1, hR1⟩ : ∃ p, rl origin (-1) links = p := ⟨_, rfl⟩
  obtain ⟨R2, hR2⟩ : ∃ p, rs none stubs = p := ⟨_, rfl⟩
  have H1 := rrouter_any origin b1 hb1
  have H3 := rin_any age 120 b3 hb3
  have H4 := rin_any area 65534 b4 hb4
  have H5 := rin_any tag 4294967295 b5 hb5
  have H6 := rin_any cost 16777215 b6 hb6
  have H7 : Hid (∀ W, Calls Try.prog 30 #[.agg #[.int .u32 pa, .int .i64 pn]] W fun e w' => e = .returned (.bool b7) ∧ Below W.heap.size W w') := fun W => by rw [← hb7]; exact rvalid_any pa pn i0 i1 W
  rw [hb1, hb2, hb3, hb4, hb5, hb6, hb7, hn1, hn2, hR1, hR2] at hr
  have HR : Hid (((b1 && (b2 && b3)) && (if kind = 1 then b4 && (decide (pa = 0 ∧ pn = 0) && ((cost == 0) && ((tag == 0) && ((decide (n1 ≤ 64) && R1) && (decide (n2 ≤ 64) && R2))))) else if kind = 2 then (b4 && (b7 && (b6 && ((n1 == 0) && (n2 == 0))))) && (tag == 0) else if kind = 3 then ((area == 65535) && (b7 && (b6 && ((n1 == 0) && (n2 == 0))))) && b5 else false)) = r) := hr
  have HR1 : Hid (rl origin (-1) links = R1) := hR1
  have HR2 : Hid (rs none stubs = R2) := hR2
  have HN1 : Hid (links.length = n1) := hn1
  have HN2 : Hid (stubs.length = n2) := hn2
  have HS2 : Hid ((seq < 1 ∨ 1073741824 < seq → b2 = false) ∧ (¬ seq < 1 → ¬ 1073741824 < seq → b2 = true)) := by
    refine ⟨fun h => ?_, fun h1 h2 => ?_⟩
    · rw [← hb2]; unfold inB
      rcases h with h | h
      · rw [decide_eq_false (by omega), Bool.false_and]
      · rw [decide_eq_false (p := seq ≤ 1073741824) (by omega), Bool.and_false]
    · rw [← hb2]; unfold inB
      rw [decide_eq_true (by omega), decide_eq_true (by omega)]; rfl
  unfold lsaV
  dsimp only
  rw [hn1, hn2]
  clear hr hx hn1 hn2 hb1 hb2 hb3 hb4 hb5 hb6 hb7 hR1 hR2 h64
  go_enter Try.func10, Try.ntmps10
  go_wp2_with fail
  obtain ⟨w0, hw0⟩ : ∃ w0, w.alloc (Obj.cells #[.int .i64 kind, .int .i64 area, .int .i64 origin, .int .u32 pa, .int .i64 pn, .int .i64 seq, .int .i64 age, .slice la n1 lc, .slice sa n2 sc, .int .i64 cost, .int .i64 tag] 28) = w0 := ⟨_, rfl⟩
  obtain ⟨hbx, hb0⟩ := lbox_new hw0
  rw [hw0]
  clear hw0
  have HB0 : Hid (Below w.heap.size w w0) := hb0
  have HBX : Hid (LBox w.heap.size kind area origin pa pn seq age (.slice la n1 lc) (.slice sa n2 sc) cost tag w0) := hbx
  obtain ⟨s, hs⟩ : ∃ s, w.heap.size = s := ⟨_, rfl⟩
  have HSS : Hid (w.heap.size = s) := hs
  rw [hs] at hbx HBX ⊢
  obtain ⟨c0, c1, c2, c3, c4, c5, c6, c7, c8, c9, c10⟩ := hbx
  clear hb0 hs
  refine (H1 _).mono ?_
  rintro e w6 ⟨rfl, hw6⟩
  rw [hw6]
  clear hw6 w6 H1
  cases b1 with
  | false =>
    obtain rfl : r = false := HR.out.symm
    clear H3 H4 H5 H6 H7
    go_wp2_with fail
    go_ret
    exact ⟨rfl, HB0.out⟩
  | true =>
    by_cases q1 : seq < 1
    · obtain rfl : r = false := by rw [← HR.out, HS2.out.1 (.inl q1)]; rfl
      clear H3 H4 H5 H6 H7 HR
      go_wp2_with fail
      go_ret
      exact ⟨rfl, HB0.out⟩
    · by_cases q2 : 1073741824 < seq
      · obtain rfl : r = false := by rw [← HR.out, HS2.out.1 (.inr q2)]; rfl
        clear H3 H4 H5 H6 H7 HR
        go_wp2_with fail
        go_ret
        exact ⟨rfl, HB0.out⟩
      · obtain rfl : b2 = true := HS2.out.2 (by omega) (by omega)
        clear HS2
        go_wp2_with fail
        refine (H3 _).mono ?_
        rintro e w6 ⟨rfl, hw6⟩
        rw [hw6]
        clear hw6 w6 H3
        cases b3 with
        | false =>
          obtain rfl : r = false := HR.out.symm
          clear H4 H5 H6 H7
          go_wp2_with fail
          go_ret
          exact ⟨rfl, HB0.out⟩
        | true =>
          by_cases k1 : kind = 1
          · subst k1
            have HR3 : Hid ((b4 && (decide (pa = 0 ∧ pn = 0) && ((cost == 0) && ((tag == 0) && ((decide (n1 ≤ 64) && R1) && (decide (n2 ≤ 64) && R2)))))) = r) := HR.out
            clear HR H5 H6 H7
            go_wp2_with fail
            refine (H4 _).mono ?_
            rintro e w6 ⟨rfl, hw6⟩
            rw [hw6]
            clear hw6 w6 H4
            cases b4 with
            | false =>
              obtain rfl : r = false := HR3.out.symm
              clear HR3
              go_wp2_with fail
              go_ret
              exact ⟨rfl, HB0.out⟩
            | true =>
              have HF : Hid (((pa = 0 ∧ pn = 0) ∧ cost = 0 ∧ tag = 0 ∧ n1 ≤ 64 ∧ n2 ≤ 64) ∨ r = false) := by
                by_cases h : (pa = 0 ∧ pn = 0) ∧ cost = 0 ∧ tag = 0 ∧ n1 ≤ 64 ∧ n2 ≤ 64
                · exact .inl h
                · right
                  rw [← HR3.out]
                  cases R1 <;> cases R2 <;> simp <;> omega
              by_cases h0 : pa = 0
              · by_cases h1 : pn = 0
                · by_cases h2 : cost = 0
                  · by_cases h3 : tag = 0
                    · by_cases h4 : 64 < n1
                      · obtain rfl : r = false := HF.out.resolve_left (by omega)
                        have h4' : (64 : Int) < n1 := by omega
                        clear HR3 HF
                        go_wp2_with fail
                        go_ret
                        exact ⟨rfl, HB0.out⟩
                      · by_cases h5 : 64 < n2
                        · obtain rfl : r = false := HF.out.resolve_left (by omega)
                          have h4' : ¬ (64 : Int) < n1 := by omega
                          have h5' : (64 : Int) < n2 := by omega
                          clear HR3 HF
                          go_wp2_with fail
                          go_ret
                          exact ⟨rfl, HB0.out⟩
                        · have HR4 : Hid ((R1 && R2) = r) := by
                            show _ = _
                            rw [← HR3.out, decide_eq_true (p := pa = 0 ∧ pn = 0) ⟨h0, h1⟩, decide_eq_true (p := n1 ≤ 64) (by omega), decide_eq_true (p := n2 ≤ 64) (by omega), h2, h3]; rfl
                          have h4' : ¬ (64 : Int) < n1 := by omega
                          have h5' : ¬ (64 : Int) < n2 := by omega
                          subst h0 h1 h2 h3
                          clear HR3 HF
                          go_wp2_with fail
                          go_loopw [3, 72] (fun lv iv wr => ∃ (k : Nat) (last : Int), k ≤ n1 ∧ iv = .int .i64 k ∧ lv = .int .i64 last ∧ rl origin last (links.drop k) = R1 ∧ Below w0.heap.size w0 wr) (fun _ i _ => n1 - (intOf i).toNat)
                          case atStart => exact ⟨0, -1, by omega, rfl, rfl, HR1.out, Below.refl _ _⟩
                          case round =>
                            obtain ⟨k, last, hk, rfl, rfl, hgk, hbr⟩ := hrel
                            have HBR : Hid (Below w0.heap.size w0 wr) := hbr
                            have HBW : Hid (Below w.heap.size w wr) := HB0.out.trans (hbr.mono HB0.out.size)
                            have HG : Hid (rl origin last (links.drop k) = R1) := hgk
                            clear hgk c0 c1 c2 c3 c4 c5 c6 c7 c8 c9 c10 HR1
                            by_cases hlt : k < n1
                            · have hkd : k < links.length := by rw [HN1.out]; exact hlt
                              obtain ⟨b, o, rfl, hbl, d0, d1, d2⟩ := (HX.out.bel HBW.out).cells k hkd
                              have h64 := H64.out _ (List.getElem_mem hkd)
                              obtain ⟨⟨xa, xb, xc⟩, hy⟩ : ∃ y, links[k] = y := ⟨_, rfl⟩
                              rw [hy] at d0 d1 d2 h64
                              have HG2 : Hid ((linkOk origin (xa, xb, xc) && (decide (last < xc) && rl origin xc (links.drop (k + 1)))) = R1) := by
                                have := HG.out
                                rw [List.drop_eq_getElem_cons hkd, hy, rl_cons] at this
                                exact this
                              clear hy HG
                              have hkk : (k : Int) < n1 := by omega
                              have kk0 : (0 : Int) ≤ k := by omega
                              obtain ⟨p1, hp1⟩ : ∃ p, inB 1 4294967295 xa = p := ⟨_, rfl⟩
                              obtain ⟨p3, hp3⟩ : ∃ p, inB 1 65535 xb = p := ⟨_, rfl⟩
                              obtain ⟨p4, hp4⟩ : ∃ p, inB 0 65535 xc = p := ⟨_, rfl⟩
                              obtain ⟨D, hD⟩ : ∃ D, IntKind.i64.wrap (xb - 1) = D := ⟨_, rfl⟩
                              have HLK : Hid (linkOk origin (xa, xb, xc) = (p1 && (!(xa == origin) && (p3 && p4)))) := by unfold linkOk; show _ = _; rw [hp1, hp3, hp4]
                              have HP1 := rrouter_any xa p1 hp1
                              have HP3 := rin_any D 65534 p3 (by rw [← hD, in_wrap h64]; exact hp3)
                              have HP4 := rin_any xc 65535 p4 hp4
                              have HRR : Hid (linkOk origin (xa, xb, xc) = false → R1 = false) := fun e => by rw [← HG2.out, e]; rfl
                              obtain ⟨-, -, c2, -, -, -, -, c7, c8, -, -⟩ := HBX.out.bel hbr
                              go_wp2_with fail
                              obtain ⟨wA, hwA⟩ : ∃ wA, wr.alloc (Obj.cells #[.int .i64 xa, .int .i64 xb, .int .i64 xc] 54) = wA := ⟨_, rfl⟩
                              have hbA : Below wr.heap.size wr wA := by rw [← hwA]; exact (Below.refl _ wr).alloc (Nat.le_refl _) _
                              have a0 : wA.cell? ⟨wr.heap.size, 0, none⟩ = some (.int .i64 xa) := by rw [← hwA]; simp
                              have a1 : wA.cell? ⟨wr.heap.size, 1, none⟩ = some (.int .i64 xb) := by rw [← hwA]; simp
                              have a2 : wA.cell? ⟨wr.heap.size, 2, none⟩ = some (.int .i64 xc) := by rw [← hwA]; simp
                              have HBA : Hid (Below w.heap.size w wA) := HBW.out.trans (hbA.mono HBW.out.size)
                              have HBA0 : Hid (Below w0.heap.size w0 wA) := HBR.out.trans (hbA.mono HBR.out.size)
                              have c2 := cell_bel c2 hbA
                              rw [hwA]
                              obtain ⟨s2, hs2⟩ : ∃ s2, wr.heap.size = s2 := ⟨_, rfl⟩
                              rw [hs2] at a0 a1 a2 ⊢
                              clear hwA hbA d0 d1 d2 c7 c8 hs2 hbr hp1 hp3 hp4 h64
                              refine (HP1 _).mono ?_
                              rintro e w6 ⟨rfl, hw6⟩
                              rw [hw6]
                              clear hw6 w6 HP1
                              cases p1 with
                              | false =>
                                clear HP3 HP4
                                obtain rfl : R1 = false := HRR.out (by rw [HLK.out]; simp)
                                obtain rfl : r = false := HR4.out.symm
                                clear HR4
                                go_wp2_with fail
                                go_ret
                                exact ⟨rfl, HBA.out⟩
                              | true =>
                                by_cases hog : xa = origin
                                · obtain rfl : R1 = false := HRR.out (by rw [HLK.out, hog]; simp)
                                  obtain rfl : r = false := HR4.out.symm
                                  subst hog
                                  clear HP3 HP4 HRR HLK HG2 HR4
                                  go_wp2_with fail
                                  go_ret
                                  exact ⟨rfl, HBA.out⟩
                                · go_wp2_with fail
                                  refine (HP3 _).mono ?_
                                  rintro e w6 ⟨rfl, hw6⟩
                                  rw [hw6]
                                  clear hw6 w6 HP3
                                  cases p3 with
                                  | false =>
                                    clear HP4
                                    obtain rfl : R1 = false := HRR.out (by rw [HLK.out]; simp)
                                    obtain rfl : r = false := HR4.out.symm
                                    clear HR4
                                    go_wp2_with fail
                                    go_ret
                                    exact ⟨rfl, HBA.out⟩
                                  | true =>
                                    go_wp2_with fail
                                    refine (HP4 _).mono ?_
                                    rintro e w6 ⟨rfl, hw6⟩
                                    rw [hw6]
                                    clear hw6 w6 HP4
                                    cases p4 with
                                    | false =>
                                      obtain rfl : R1 = false := HRR.out (by rw [HLK.out]; simp)
                                      obtain rfl : r = false := HR4.out.symm
                                      clear HR4
                                      go_wp2_with fail
                                      go_ret
                                      exact ⟨rfl, HBA.out⟩
                                    | true =>
                                      have HG3 : Hid ((decide (last < xc) && rl origin xc (links.drop (k + 1))) = R1) := by
                                        have h1 := HG2.out
                                        rw [HLK.out, show (xa == origin) = false by simp [hog]] at h1
                                        exact h1
                                      clear HRR HLK HG2
                                      by_cases hlc : last < xc
                                      · have HG4 : Hid (rl origin xc (links.drop (k + 1)) = R1) := by
                                          have h2 := HG3.out
                                          rw [decide_eq_true hlc, Bool.true_and] at h2
                                          exact h2
                                        clear HG3
                                        have hlc2 : ¬ xc ≤ last := by omega
                                        have hno : ¬ ((xa == origin) = true ∨ xc ≤ last) := by
                                          rintro (h | h)
                                          · exact hog (by simpa using h)
                                          · omega
                                        go_wp2_with fail
                                        all_goals first | exact absurd (by assumption) hno | exact ⟨⟨k + 1, xc, by omega, by simp, rfl, HG4.out, HBA0.out⟩, by simp [intOf]; omega⟩
                                      · obtain rfl : R1 = false := by rw [← HG3.out, decide_eq_false hlc]; rfl
                                        have hlc2 : xc ≤ last := by omega
                                        obtain rfl : r = false := HR4.out.symm
                                        clear HR4 HG3
                                        go_wp2_with fail
                                        go_ret
                                        exact ⟨rfl, HBA.out⟩
                            · obtain rfl : n1 = k := by omega
                              obtain rfl : R1 = true := by rw [← HG.out, List.drop_of_length_le (by rw [HN1.out]; omega), rl_nil]
                              obtain rfl : R2 = r := HR4.out
                              obtain ⟨-, -, -, -, -, -, -, c7, c8, -, -⟩ := HBX.out.bel hbr
                              clear HG HR4
                              go_wp2_with fail
                              go_loopw [112] (fun iv wr => ∃ k : Nat, k ≤ n2 ∧ iv = .int .i64 k ∧ rs (if k = 0 then none else stubs[k - 1]?) (stubs.drop k) = R2 ∧ Below w0.heap.size w0 wr) (fun i _ => n2 - (intOf i).toNat)
                              case atStart => exact ⟨0, by omega, rfl, by rw [if_pos rfl, List.drop_zero]; exact HR2.out, HBR.out⟩
                              case round =>
                                obtain ⟨k, hk, rfl, hgk, hbr2⟩ := hrel
                                have HBR2 : Hid (Below w0.heap.size w0 wr) := hbr2
                                have HBW2 : Hid (Below w.heap.size w wr) := HB0.out.trans (hbr2.mono HB0.out.size)
                                obtain ⟨last, hlast⟩ : ∃ last, (if k = 0 then none else stubs[k - 1]?) = last := ⟨_, rfl⟩
                                rw [hlast] at hgk
                                have HG : Hid (rs last (stubs.drop k) = R2) := hgk
                                have HLAST : Hid ((if k = 0 then none else stubs[k - 1]?) = last) := hlast
                                clear hgk hlast HR2 c7 c8
                                by_cases hlt2 : k < n2
                                · have hkd : k < stubs.length := by rw [HN2.out]; exact hlt2
                                  obtain ⟨b, o, rfl, hbl, d0, d1, d2⟩ := (HY.out.bel HBW2.out).cells k hkd
                                  have hin := H32.out _ (List.getElem_mem hkd)
                                  obtain ⟨⟨xa, xb, xc⟩, hy⟩ : ∃ y, stubs[k] = y := ⟨_, rfl⟩
                                  rw [hy] at d0 d1 d2 hin
                                  have j00 : 0 ≤ xa := hin.1
                                  have j01 : xa < 4294967296 := hin.2
                                  have HG2 : Hid ((stubOk (xa, xb, xc) && (stFits last (xa, xb, xc) && rs (some (xa, xb, xc)) (stubs.drop (k + 1)))) = R2) := by
                                    have := HG.out
                                    rw [List.drop_eq_getElem_cons hkd, hy, rs_cons] at this
                                    exact this
                                  have HNX : Hid ((if k + 1 = 0 then none else stubs[k + 1 - 1]?) = some (xa, xb, xc)) := by
                                    show _ = _
                                    rw [if_neg (by omega), show k + 1 - 1 = k by omega, List.getElem?_eq_getElem hkd, hy]
                                  clear hy HG hin
                                  have hkk : (k : Int) < n2 := by omega
                                  have kk0 : (0 : Int) ≤ k := by omega
                                  obtain ⟨p1, hp1⟩ : ∃ p, vld xa xb = p := ⟨_, rfl⟩
                                  obtain ⟨p4, hp4⟩ : ∃ p, inB 0 65535 xc = p := ⟨_, rfl⟩
                                  have HLK : Hid (stubOk (xa, xb, xc) = (p1 && p4)) := by unfold stubOk; show _ = _; rw [hp1, hp4]
                                  have HP1 : Hid (∀ W, Calls Try.prog 30 #[.agg #[.int .u32 xa, .int .i64 xb]] W fun e w' => e = .returned (.bool p1) ∧ Below W.heap.size W w') := fun W => by rw [← hp1]; exact rvalid_any xa xb j00 j01 W
                                  have HP4 : Hid (∀ W, Calls Try.prog 29 #[.int .i64 xc, .int .i64 65535] W fun e w' => e = .returned (.bool p4) ∧ Below W.heap.size W w') := fun W => (rin_any xc 65535 p4 hp4 W).mono fun e w' ⟨h1, h2⟩ => ⟨h1, by rw [h2]; exact Below.refl _ _⟩
                                  have HRR : Hid (stubOk (xa, xb, xc) = false → R2 = false) := fun e => by rw [← HG2.out, e]; rfl
                                  obtain ⟨-, -, -, -, -, -, -, -, c8, -, -⟩ := HBX.out.bel hbr2
                                  go_wp2_with fail
                                  obtain ⟨wA, hwA⟩ : ∃ wA, wr.alloc (Obj.cells #[.int .u32 xa, .int .i64 xb, .int .i64 xc] 56) = wA := ⟨_, rfl⟩
                                  have hbA : Below wr.heap.size wr wA := by rw [← hwA]; exact (Below.refl _ wr).alloc (Nat.le_refl _) _
                                  have a0 : wA.cell? ⟨wr.heap.size, 0, none⟩ = some (.int .u32 xa) := by rw [← hwA]; simp
                                  have a1 : wA.cell? ⟨wr.heap.size, 1, none⟩ = some (.int .i64 xb) := by rw [← hwA]; simp
                                  have a2 : wA.cell? ⟨wr.heap.size, 2, none⟩ = some (.int .i64 xc) := by rw [← hwA]; simp
                                  have HBA : Hid (Below w.heap.size w wA) := HBW2.out.trans (hbA.mono HBW2.out.size)
                                  have HBA0 : Hid (Below w0.heap.size w0 wA) := HBR2.out.trans (hbA.mono HBR2.out.size)
                                  have j0 := cell_regrown a0
                                  have j1 := cell_regrown a1
                                  have j2 := cell_regrown a2
                                  have j8 := cell_regrown (cell_bel c8 hbA)
                                  rw [hwA]
                                  obtain ⟨s2, hs2⟩ : ∃ s2, wr.heap.size = s2 := ⟨_, rfl⟩
                                  rw [hs2] at j0 j1 j2 ⊢
                                  clear hwA hbA d0 d1 d2 c8 hs2 hbr2 hp1 hp4 a0 a1 a2
                                  cases p1 with
                                  | false =>
                                    obtain rfl : R2 = false := HRR.out (by rw [HLK.out]; rfl)
                                    clear HRR HLK HG2 HP4
                                    refine wp_region_quiet_below (by kernel_rfl) (by kernel_rfl) ?_
                                    repeat (go_big_quiet_step ((go_at_call 30; exact Calls.regrown_of (HP1.out _))))
                                    refine wpQuiet_nil ?_
                                    intro w8 hw8
                                    have HB8 : Hid (Below w.heap.size w w8) := HBA.out.trans ((regrown_low hw8).mono HBA.out.size)
                                    clear hw8 j0 j1 j2 j8 HP1
                                    go_wp2_with fail
                                    go_ret
                                    exact ⟨rfl, HB8.out⟩
                                  | true =>
                                    cases p4 with
                                    | false =>
                                      obtain rfl : R2 = false := HRR.out (by rw [HLK.out]; rfl)
                                      clear HRR HLK HG2
                                      refine wp_region_quiet_below (by kernel_rfl) (by kernel_rfl) ?_
                                      repeat (go_big_quiet_step (first | (go_at_call 30; exact Calls.regrown_of (HP1.out _)) | (go_at_call 29; exact Calls.regrown_of (HP4.out _))))
                                      refine wpQuiet_nil ?_
                                      intro w8 hw8
                                      have HB8 : Hid (Below w.heap.size w w8) := HBA.out.trans ((regrown_low hw8).mono HBA.out.size)
                                      clear hw8 j0 j1 j2 j8 HP1 HP4
                                      go_wp2_with fail
                                      go_ret
                                      exact ⟨rfl, HB8.out⟩
                                    | true =>
                                      have HG3 : Hid ((stFits last (xa, xb, xc) && rs (some (xa, xb, xc)) (stubs.drop (k + 1))) = R2) := by
                                        have h1 := HG2.out
                                        rw [HLK.out] at h1
                                        exact h1
                                      clear HRR HLK HG2
                                      rcases (show k = 0 ∨ ∃ k', k = k' + 1 by cases k with | zero => exact .inl rfl | succ q => exact .inr ⟨q, rfl⟩) with rfl | ⟨k', rfl⟩
                                      · have HG4 : Hid (rs (some (xa, xb, xc)) (stubs.drop (0 + 1)) = R2) := by
                                          have h1 := HLAST.out
                                          rw [if_pos rfl] at h1
                                          subst h1
                                          exact HG3.out
                                        clear HG3 HLAST
                                        refine wp_region_quiet_below (by kernel_rfl) (by kernel_rfl) ?_
                                        repeat (go_big_quiet_step (first | (go_at_call 30; exact Calls.regrown_of (HP1.out _)) | (go_at_call 29; exact Calls.regrown_of (HP4.out _))))
                                        refine wpQuiet_nil ?_
                                        intro w8 hw8
                                        have HB8 : Hid (Below w0.heap.size w0 w8) := HBA0.out.trans ((regrown_low hw8).mono HBA0.out.size)
                                        clear hw8 j0 j1 j2 j8 HP1 HP4
                                        go_wp2_with fail
                                        exact ⟨⟨0 + 1, by omega, by simp, by rw [HNX.out]; exact HG4.out, HB8.out⟩, by simp [intOf]; omega⟩
                                      · have hk' : k' < stubs.length := by omega
                                        obtain ⟨b', o', e', -, d0, d1, d2⟩ := (HY.out.bel HBA.out).cells k' hk'
                                        cases e'
                                        have hin2 := H32.out _ (List.getElem_mem hk')
                                        obtain ⟨⟨ya, yb, yc⟩, hy⟩ : ∃ y, stubs[k'] = y := ⟨_, rfl⟩
                                        rw [hy] at d0 d1 hin2
                                        have m0 : 0 ≤ ya := hin2.1
                                        have m1 : ya < 4294967296 := hin2.2
                                        obtain ⟨C, hC⟩ : ∃ C, ord ya yb xa xb = C := ⟨_, rfl⟩
                                        have HG4 : Hid (((C == -1) && rs (some (xa, xb, xc)) (stubs.drop (k' + 1 + 1))) = R2) := by
                                          have h1 := HLAST.out
                                          rw [if_neg (by omega), show k' + 1 - 1 = k' by omega, List.getElem?_eq_getElem hk', hy] at h1
                                          subst h1
                                          have h2 := HG3.out
                                          rw [show stFits (some (ya, yb, yc)) (xa, xb, xc) = (ord ya yb xa xb == -1) from rfl, hC] at h2
                                          exact h2
                                        have HOR : Hid (∀ W, Calls Try.prog 31 #[.agg #[.int .u32 ya, .int .i64 yb], .agg #[.int .u32 xa, .int .i64 xb]] W fun e w' => e = .returned (.int .i64 C) ∧ Below W.heap.size W w') := fun W => by rw [← hC]; exact rorder_any ya yb xa xb m0 m1 j00 j01 W
                                        have j3 := cell_regrown d0
                                        have j4 := cell_regrown d1
                                        have hk1 : (k' : Int) < n2 := by omega
                                        have k10 : (0 : Int) ≤ k' := by omega
                                        clear d0 d1 d2 hy HLAST HG3 hC hin2
                                        by_cases hlc : C = -1
                                        · subst hlc
                                          have HG5 : Hid (rs (some (xa, xb, xc)) (stubs.drop (k' + 1 + 1)) = R2) := HG4.out
                                          clear HG4
                                          refine wp_region_quiet_below (by kernel_rfl) (by kernel_rfl) ?_
                                          repeat (go_big_quiet_step (first | (go_at_call 30; exact Calls.regrown_of (HP1.out _)) | (go_at_call 29; exact Calls.regrown_of (HP4.out _)) | (go_at_call 31; exact Calls.regrown_of (HOR.out _))))
                                          refine wpQuiet_nil ?_
                                          intro w8 hw8
                                          have HB8 : Hid (Below w0.heap.size w0 w8) := HBA0.out.trans ((regrown_low hw8).mono HBA0.out.size)
                                          clear hw8 j0 j1 j2 j3 j4 j8 HP1 HP4 HOR
                                          go_wp2_with fail
                                          exact ⟨⟨k' + 1 + 1, by omega, by simp, by rw [HNX.out]; exact HG5.out, HB8.out⟩, by simp [intOf]; omega⟩
                                        · have hcb : (C != -1) = true := by simp [hlc]
                                          obtain rfl : R2 = false := by
                                            rw [← HG4.out, show (C == -1) = false by simp [hlc]]; rfl
                                          clear HG4
                                          refine wp_region_quiet_below (by kernel_rfl) (by kernel_rfl) ?_
                                          repeat (go_big_quiet_step (first | (go_at_call 30; exact Calls.regrown_of (HP1.out _)) | (go_at_call 29; exact Calls.regrown_of (HP4.out _)) | (go_at_call 31; exact Calls.regrown_of (HOR.out _))))
                                          refine wpQuiet_nil ?_
                                          intro w8 hw8
                                          have HB8 : Hid (Below w.heap.size w w8) := HBA.out.trans ((regrown_low hw8).mono HBA.out.size)
                                          clear hw8 j0 j1 j2 j3 j4 j8 HP1 HP4 HOR
                                          go_wp2_with fail
                                          go_ret
                                          exact ⟨rfl, HB8.out⟩
                                · obtain rfl : n2 = k := by omega
                                  obtain rfl : R2 = true := by rw [← HG.out, List.drop_of_length_le (by rw [HN2.out]; omega), rs_nil]
                                  clear HG HLAST
                                  go_wp2_with fail
                                  go_ret
                                  exact ⟨rfl, HBW2.out⟩
                    · obtain rfl : r = false := HF.out.resolve_left (by omega)
                      clear HR3 HF
                      go_wp2_with fail
                      go_ret
                      exact ⟨rfl, HB0.out⟩
                  · obtain rfl : r = false := HF.out.resolve_left (by omega)
                    clear HR3 HF
                    go_wp2_with fail
                    go_ret
                    exact ⟨rfl, HB0.out⟩
                · obtain rfl : r = false := HF.out.resolve_left (by omega)
                  clear HR3 HF
                  go_wp2_with fail
                  go_ret
                  exact ⟨rfl, HB0.out⟩
              · obtain rfl : r = false := HF.out.resolve_left (by omega)
                clear HR3 HF
                go_wp2_with fail
                go_ret
                exact ⟨rfl, HB0.out⟩
          · have HR3 : Hid ((if kind = 2 then (b4 && (b7 && (b6 && ((n1 == 0) && (n2 == 0))))) && (tag == 0) else if kind = 3 then ((area == 65535) && (b7 && (b6 && ((n1 == 0) && (n2 == 0))))) && b5 else false) = r) := by
              have h1 := HR.out
              rw [if_neg k1] at h1
              exact h1
            clear HR
            by_cases z1 : n1 = 0
            · by_cases z2 : n2 = 0
              · subst z1 z2
                go_wp2_with fail
                refine (H7.out _).mono ?_
                rintro e w5 ⟨rfl, hb5⟩
                have HB5 : Hid (Below w.heap.size w w5) := HB0.out.trans (hb5.mono HB0.out.size)
                obtain ⟨g0, g1, g2, g3, g4, g5, g6, g7, g8, g9, g10⟩ := HBX.out.bel hb5
                clear hb5 H7 c0 c1 c2 c3 c4 c5 c6 c7 c8 c9 c10 HBX
                cases b7 with
                | false =>
                  obtain rfl : r = false := by rw [← HR3.out]; simp
                  clear H4 H5 H6 HR3
                  go_wp2_with fail
                  go_ret
                  exact ⟨rfl, HB5.out⟩
                | true =>
                  go_wp2_with fail
                  refine (H6 _).mono ?_
                  rintro e w6 ⟨rfl, hw6⟩
                  rw [hw6]
                  clear hw6 w6 H6
                  cases b6 with
                  | false =>
                    obtain rfl : r = false := by rw [← HR3.out]; simp
                    clear H4 H5 HR3
                    go_wp2_with fail
                    go_ret
                    exact ⟨rfl, HB5.out⟩
                  | true =>
                    by_cases k2 : kind = 2
                    · subst k2
                      have HR4 : Hid ((b4 && (tag == 0)) = r) := by show _ = _; rw [← HR3.out]; simp
                      clear HR3 H5
                      go_wp2_with fail
                      refine (H4 _).mono ?_
                      rintro e w6 ⟨rfl, hw6⟩
                      rw [hw6]
                      clear hw6 w6 H4
                      cases b4 with
                      | false =>
                        obtain rfl : r = false := HR4.out.symm
                        go_wp2_with fail
                        go_ret
                        exact ⟨rfl, HB5.out⟩
                      | true =>
                        by_cases ht : tag = 0
                        · subst ht
                          obtain rfl : r = true := HR4.out.symm
                          go_wp2_with fail
                          go_ret
                          exact ⟨rfl, HB5.out⟩
                        · have ht2 : (tag == 0) = false := by simp [ht]
                          obtain rfl : r = false := by rw [← HR4.out, ht2]; rfl
                          go_wp2_with fail
                          go_ret
                          exact ⟨rfl, HB5.out⟩
                    · by_cases k3 : kind = 3
                      · subst k3
                        have HR4 : Hid (((area == 65535) && b5) = r) := by show _ = _; rw [← HR3.out]; simp
                        clear HR3 H4
                        by_cases har : area = 65535
                        · subst har
                          obtain rfl : b5 = r := HR4.out
                          go_wp2_with fail
                          refine (H5 _).mono ?_
                          rintro e w6 ⟨rfl, hw6⟩
                          rw [hw6]
                          clear hw6 w6 H5
                          go_wp2_with fail
                          go_ret
                          exact ⟨rfl, HB5.out⟩
                        · have ht2 : (area == 65535) = false := by simp [har]
                          obtain rfl : r = false := by rw [← HR4.out, ht2]; rfl
                          clear H5 HR4
                          go_wp2_with fail
                          go_ret
                          exact ⟨rfl, HB5.out⟩
                      · obtain rfl : r = false := by rw [← HR3.out, if_neg k2, if_neg k3]
                        clear H4 H5 HR3
                        go_wp2_with fail
                        go_ret
                        exact ⟨rfl, HB5.out⟩
              · obtain rfl : r = false := by rw [← HR3.out]; simp [z2]
                subst z1
                have z2' : (0 : Int) < n2 := by omega
                clear H4 H5 H6 H7 HR3
                go_wp2_with fail
                go_ret
                exact ⟨rfl, HB0.out⟩
            · obtain rfl : r = false := by rw [← HR3.out]; simp [z1]
              have z1' : (0 : Int) < n1 := by omega
              clear H4 H5 H6 H7 HR3
              go_wp2_with fail
              go_ret
              exact ⟨rfl, HB0.out⟩
end Go.Proofs.Ytagfdmkgnedlbae.Ls
