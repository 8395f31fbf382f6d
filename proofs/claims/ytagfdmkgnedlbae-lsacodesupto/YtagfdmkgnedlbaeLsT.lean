/- inRange: what it answers. -/
import Derived.Test.YtagfdmkgnedlbaeLsG
import Derived.Test.YtagfdmkgnedlbaeLsQ
namespace Go.Proofs.Ytagfdmkgnedlbae.Ls
open Go.ChangeShapes Go.WideShapes Go.ChangeAt Go.RowKit Go.Proofs.Ytagfdmkgnedlbae.PM Go.Proofs.Ytagfdmkgnedlbae.Ask
set_option linter.unusedVariables false

def rangeP (kind frm area seen : Int) (xs : List Lsa) : Bool := inB 1 4294967295 frm && (inB 0 65534 area && (if kind = 1 then (xs.length == 0) && inB 0 4294967295 seen else (seen == 0) && (inB 1 16 xs.length && xs.all right)))
structure PBox (s : Nat) (kind frm area seen : Int) (lv : Value) (W : World) : Prop where
  c0 : W.cell? ⟨s, 0, none⟩ = some (.int .i64 kind)
  c1 : W.cell? ⟨s, 1, none⟩ = some (.int .i64 frm)
  c2 : W.cell? ⟨s, 2, none⟩ = some (.int .i64 area)
  c3 : W.cell? ⟨s, 3, none⟩ = some (.int .i64 seen)
  c4 : W.cell? ⟨s, 4, none⟩ = some lv
theorem kind_any (n : Int) (w : World) : Calls Try.prog 46 #[.int .i64 n] w fun e w' => e = .returned (.bool (decide (n = 1 ∨ n = 2 ∨ n = 3))) ∧ w' = w := by
  go_enter Try.func46, Try.ntmps46
  by_cases h1 : n = 1
  · subst h1
    go_wp2_with fail
    go_ret
    exact ⟨rfl, rfl⟩
  · by_cases h2 : n = 2
    · subst h2
      go_wp2_with fail
      go_ret
      exact ⟨rfl, rfl⟩
    · by_cases h3 : n = 3
      · subst h3
        go_wp2_with fail
        go_ret
        exact ⟨rfl, rfl⟩
      · go_wp2_with fail
        go_ret
        exact ⟨by simp [h1, h2, h3], rfl⟩
set_option maxRecDepth 100000 in
set_option maxHeartbeats 4000000 in
theorem range_any (kind frm area seen : Int) (va : Option Addr) (cap : Nat) (xs : List Lsa) (L : Nat) (hL : xs.length = L) (w : World) (hx : LAll w va xs) (r : Bool) (hr : rangeP kind frm area seen xs = r) :
    Calls Try.prog 47 #[pkV kind frm area seen va L cap] w fun e w' => e = .returned (.bool r) ∧ Below w.heap.size w w' := by
  have h9 := hx.small
  rw [hL] at h9
  have HX : Hid (LAll w va xs) := hx
  have HLX : Hid (xs.length = L) := hL
  unfold rangeP at hr
  rw [hL] at hr
  obtain ⟨b1, hb1⟩ : ∃ p, inB 1 4294967295 frm = p := ⟨_, rfl⟩
  obtain ⟨b2, hb2⟩ : ∃ p, inB 0 65534 area = p := ⟨_, rfl⟩
  obtain ⟨b3, hb3⟩ : ∃ p, inB 0 4294967295 seen = p := ⟨_, rfl⟩
  obtain ⟨b4, hb4⟩ : ∃ p, inB 1 16 (L : Int) = p := ⟨_, rfl⟩
  have H1 := router_any frm b1 hb1
  have H2 := area_any area b2 hb2
  have H3 := within_any seen 0 4294967295 b3 hb3
  have H4 := within_any (L : Int) 1 16 b4 hb4
  rw [hb1, hb2, hb3, hb4] at hr
  have HR : Hid ((b1 && (b2 && (if kind = 1 then (L == 0) && b3 else (seen == 0) && (b4 && xs.all right)))) = r) := hr
  clear hx hL hr hb1 hb2 hb3 hb4
  unfold pkV
  go_enter Try.func47, Try.ntmps47
  go_wp2_with fail
  obtain ⟨w0, hw0⟩ : ∃ w0, w.alloc (Obj.cells #[.int .i64 kind, .int .i64 frm, .int .i64 area, .int .i64 seen, .slice va L cap] 36) = w0 := ⟨_, rfl⟩
  have hbx : PBox w.heap.size kind frm area seen (.slice va L cap) w0 := by rw [← hw0]; constructor <;> simp [go_sem]
  have hb0 : Below w.heap.size w w0 := by rw [← hw0]; exact (Below.refl _ w).alloc (Nat.le_refl _) _
  rw [hw0]
  clear hw0
  have HB0 : Hid (Below w.heap.size w w0) := hb0
  have HBX : Hid (PBox w.heap.size kind frm area seen (.slice va L cap) w0) := hbx
  obtain ⟨c0, c1, c2, c3, c4⟩ := hbx
  clear hb0
  refine (H1 _).mono ?_
  rintro e w6 ⟨rfl, hw6⟩
  rw [hw6]
  clear hw6 w6 H1
  cases b1 with
  | false =>
    obtain rfl : r = false := HR.out.symm
    clear H2 H3 H4
    go_wp2_with fail
    go_ret
    exact ⟨rfl, HB0.out⟩
  | true =>
    go_wp2_with fail
    refine (H2 _).mono ?_
    rintro e w6 ⟨rfl, hw6⟩
    rw [hw6]
    clear hw6 w6 H2
    cases b2 with
    | false =>
      obtain rfl : r = false := HR.out.symm
      clear H3 H4
      go_wp2_with fail
      go_ret
      exact ⟨rfl, HB0.out⟩
    | true =>
      have HR2 : Hid ((if kind = 1 then (L == 0) && b3 else (seen == 0) && (b4 && xs.all right)) = r) := HR.out
      clear HR
      by_cases k1 : kind = 1
      · subst k1
        have HR3 : Hid (((L == 0) && b3) = r) := HR2.out
        clear HR2 H4
        by_cases l0 : L = 0
        · subst l0
          obtain rfl : b3 = r := HR3.out
          go_wp2_with fail
          refine (H3 _).mono ?_
          rintro e w6 ⟨rfl, hw6⟩
          rw [hw6]
          clear hw6 w6 H3
          go_wp2_with fail
          go_ret
          exact ⟨rfl, HB0.out⟩
        · obtain rfl : r = false := by have h1 : ((L == 0) && b3) = r := HR3.out; rw [show (L == 0) = false by simp [l0]] at h1; exact h1.symm
          clear H3
          go_wp2_with fail
          go_ret
          exact ⟨rfl, HB0.out⟩
      · have HR3 : Hid (((seen == 0) && (b4 && xs.all right)) = r) := by have := HR2.out; rw [if_neg k1] at this; exact this
        clear HR2 H3
        by_cases s0 : seen = 0
        · subst s0
          go_wp2_with fail
          refine (H4 _).mono ?_
          rintro e w6 ⟨rfl, hw6⟩
          rw [hw6]
          clear hw6 w6 H4
          cases b4 with
          | false =>
            obtain rfl : r = false := HR3.out.symm
            go_wp2_with fail
            go_ret
            exact ⟨rfl, HB0.out⟩
          | true =>
            have HR4 : Hid (xs.all right = r) := HR3.out
            clear HR3
            go_wp2_with fail
            go_loopw [40] (fun iv wr => ∃ (k : Nat), k ≤ L ∧ iv = .int .i64 k ∧ (xs.drop k).all right = r ∧ Below w.heap.size w wr) (fun i _ => L - (intOf i).toNat)
            case atStart => exact ⟨0, by omega, rfl, HR4.out, HB0.out⟩
            case round =>
              obtain ⟨k, hk, rfl, hg, hbel⟩ := hrel
              have HG : Hid ((xs.drop k).all right = r) := hg
              have HB : Hid (Below w.heap.size w wr) := hbel
              clear hg hbel HR4 c0 c1 c2 c3 c4 HBX
              by_cases hlt : k < L
              · have hkd : k < xs.length := by rw [HLX.out]; exact hlt
                obtain ⟨b, o, la, lc, sa, sc, rfl, hbl, hat, hok⟩ := (HX.out.bel HB.out).cells k hkd
                obtain ⟨x, hx⟩ : ∃ x, xs[k] = x := ⟨_, rfl⟩
                obtain ⟨q, hq⟩ : ∃ q, right x = q := ⟨_, rfl⟩
                have HG2 : Hid ((q && (xs.drop (k + 1)).all right) = r) := by
                  have h1 := HG.out
                  rw [List.drop_eq_getElem_cons hkd, hx, List.all_cons, hq] at h1
                  exact h1
                rw [hx] at hat hok
                have HRT : Hid (∀ W, Below wr.heap.size wr W → Calls Try.prog 9 #[lsaV x la lc sa sc] W fun e w' => e = .returned (.bool q) ∧ Below W.heap.size W w') := fun W hW => right_any x la lc sa sc W (hok.bel hW) q hq
                obtain ⟨c0, c1, c2, c3, c4, c5, c6, c7, c8, c9, c10⟩ := hat
                unfold lsaV at HRT
                obtain ⟨ll, hll⟩ : ∃ l, x.links.length = l := ⟨_, rfl⟩
                obtain ⟨sl, hsl⟩ : ∃ l, x.stubs.length = l := ⟨_, rfl⟩
                rw [hll, hsl] at HRT
                rw [hll] at c7
                rw [hsl] at c8
                have hkk : (k : Int) < L := by omega
                have kk0 : (0 : Int) ≤ k := by omega
                clear hx HG hok hll hsl hq
                go_wp2_with fail
                refine (HRT.out _ ((Below.refl _ wr).alloc (Nat.le_refl _) _)).mono ?_
                rintro e w7 ⟨rfl, hb7⟩
                have HB7 : Hid (Below w.heap.size w w7) := (HB.out.alloc HB.out.size _).trans (hb7.mono (by simp; exact Nat.le_succ_of_le HB.out.size))
                clear hb7
                cases q with
                | false =>
                  obtain rfl : r = false := HG2.out.symm
                  go_wp2_with fail
                  go_ret
                  exact ⟨rfl, HB7.out⟩
                | true =>
                  have HG3 : Hid ((xs.drop (k + 1)).all right = r) := HG2.out
                  clear HG2
                  go_wp2_with fail
                  exact ⟨⟨k + 1, by omega, by simp, HG3.out, HB7.out⟩, by simp [intOf]; omega⟩
              · obtain rfl : L = k := by omega
                have HE : Hid (true = r) := by
                  have h1 := HG.out
                  rw [List.drop_of_length_le (by rw [HLX.out]; omega)] at h1
                  exact h1
                obtain rfl : true = r := HE.out
                clear HG
                go_wp2_with fail
                go_ret
                exact ⟨rfl, HB.out⟩
        · obtain rfl : r = false := by have h1 : ((seen == 0) && (b4 && xs.all right)) = r := HR3.out; rw [show (seen == 0) = false by simp [s0]] at h1; exact h1.symm
          clear H4
          go_wp2_with fail
          go_ret
          exact ⟨rfl, HB0.out⟩
end Go.Proofs.Ytagfdmkgnedlbae.Ls
