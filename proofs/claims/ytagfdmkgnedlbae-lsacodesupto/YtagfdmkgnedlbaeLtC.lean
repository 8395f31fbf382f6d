/- The document's LsaRefuses: what it answers. -/
import Derived.Test.YtagfdmkgnedlbaeLsH
import Derived.Test.YtagfdmkgnedlbaeLsZ
namespace Go.Proofs.Ytagfdmkgnedlbae.Ls
open Go.ChangeShapes Go.WideShapes Go.ChangeAt Go.RowKit Go.Joins Go.Proofs.Ytagfdmkgnedlbae.PM Go.Proofs.Ytagfdmkgnedlbae.Ask
set_option linter.unusedVariables false

def refP (kind frm area seen : Int) (xs : List Lsa) : Int := if isK kind = false then 13 else if rangeP kind frm area seen xs = false then 2 else 0
set_option maxRecDepth 100000 in
set_option maxHeartbeats 8000000 in
theorem rrefuses_any (kind frm area seen : Int) (va : Option Addr) (cap : Nat) (xs : List Lsa) (L : Nat) (hL : xs.length = L) (w : World) (hx : LAll w va xs) (h64 : ∀ x ∈ xs, ∀ d ∈ x.links, In64 d.2.1) (r : Int) (hr : refP kind frm area seen xs = r) :
    Calls Try.prog 43 #[pkV kind frm area seen va L cap] w fun e w' => e = .returned (.int .i64 r) ∧ Below w.heap.size w w' := by
  have h9 := hx.small
  rw [hL] at h9
  have HX : Hid (LAll w va xs) := hx
  have H64 : Hid (∀ x ∈ xs, ∀ d ∈ x.links, In64 d.2.1) := h64
  have HLX : Hid (xs.length = L) := hL
  unfold refP rangeP at hr
  rw [hL] at hr
  obtain ⟨b1, hb1⟩ : ∃ p, inB 1 4294967295 frm = p := ⟨_, rfl⟩
  obtain ⟨b2, hb2⟩ : ∃ p, inB 0 65534 area = p := ⟨_, rfl⟩
  obtain ⟨b3, hb3⟩ : ∃ p, inB 0 4294967295 seen = p := ⟨_, rfl⟩
  have H1 := rrouter_any frm b1 hb1
  have H2 := rin_any area 65534 b2 hb2
  have H3 := rin_any seen 4294967295 b3 hb3
  rw [hb1, hb2, hb3] at hr
  have HR : Hid ((if isK kind = false then 13 else if (b1 && (b2 && (if kind = 1 then (L == 0) && b3 else (seen == 0) && (inB 1 16 (L : Int) && xs.all right)))) = false then 2 else 0) = r) := hr
  clear hx hL hr hb1 hb2 hb3 h64
  unfold pkV
  go_enter Try.func43, Try.ntmps43
  go_upto_region 1 with fail
  obtain ⟨w0, hw0⟩ : ∃ w0, w.alloc (Obj.cells #[.int .i64 kind, .int .i64 frm, .int .i64 area, .int .i64 seen, .slice va L cap] 36) = w0 := ⟨_, rfl⟩
  obtain ⟨hz, -, hbz, -⟩ := pbox_new hw0
  have HB0 : Hid (Below w.heap.size w w0) := hbz
  obtain ⟨c0, c1, c2, c3, c4⟩ := hz
  rw [hw0]
  clear hw0 hbz
  by_cases hk1 : kind < 1
  · obtain rfl : r = 13 := by
      have h1 : isK kind = false := by unfold isK; simp; omega
      have := HR.out
      rw [if_pos h1] at this
      exact this.symm
    go_wp2_with fail
    go_ret
    exact ⟨rfl, HB0.out⟩
  · by_cases hk3 : 3 < kind
    · obtain rfl : r = 13 := by
        have h1 : isK kind = false := by unfold isK; simp; omega
        have := HR.out
        rw [if_pos h1] at this
        exact this.symm
      go_wp2_with fail
      go_ret
      exact ⟨rfl, HB0.out⟩
    · have HR2 : Hid ((if (b1 && (b2 && (if kind = 1 then (L == 0) && b3 else (seen == 0) && (inB 1 16 (L : Int) && xs.all right)))) = false then 2 else 0) = r) := by
        have h1 : ¬ isK kind = false := by unfold isK; simp; omega
        have := HR.out
        rw [if_neg h1] at this
        exact this
      clear HR
      go_wp2_with fail
      refine (H1 _).mono ?_
      rintro e w6 ⟨rfl, hw6⟩
      rw [hw6]
      clear hw6 w6 H1
      cases b1 with
      | false =>
        obtain rfl : r = 2 := HR2.out.symm
        go_wp2_with fail
        go_ret
        exact ⟨rfl, HB0.out⟩
      | true =>
        go_wp2_with fail
        refine (H2 _).mono ?_
        rintro e w6 ⟨rfl, hw6⟩
        rw [hw6]
        clear hw6 w6 H2
        cases b2 with
        | false =>
          obtain rfl : r = 2 := HR2.out.symm
          go_wp2_with fail
          go_ret
          exact ⟨rfl, HB0.out⟩
        | true =>
          have HR3 : Hid ((if (if kind = 1 then (L == 0) && b3 else (seen == 0) && (inB 1 16 (L : Int) && xs.all right)) = false then 2 else 0) = r) := HR2.out
          clear HR2
          by_cases k1 : kind = 1
          · subst k1
            by_cases l0 : L = 0
            · have HR4 : Hid ((if b3 = false then 2 else 0) = r) := by
                have h1 := HR3.out
                rw [if_pos rfl, show (L == 0) = true by simp [l0], Bool.true_and] at h1
                exact h1
              subst l0
              go_wp2_with fail
              refine (H3 _).mono ?_
              rintro e w6 ⟨rfl, hw6⟩
              rw [hw6]
              clear hw6 w6 H3
              cases b3 with
              | false =>
                obtain rfl : r = 2 := HR4.out.symm
                go_wp2_with fail
                go_ret
                exact ⟨rfl, HB0.out⟩
              | true =>
                obtain rfl : r = 0 := HR4.out.symm
                go_wp2_with fail
                go_loopw [61] (fun iv wr => iv = .int .i64 0 ∧ wr = w0) (fun _ _ => 0)
                case atStart => exact ⟨rfl, rfl⟩
                case round =>
                  obtain ⟨rfl, rfl⟩ := hrel
                  go_wp2_with fail
                  go_ret
                  exact ⟨rfl, HB0.out⟩
            · obtain rfl : r = 2 := by
                have h1 := HR3.out
                rw [if_pos rfl, show (L == 0) = false by simp [l0]] at h1
                exact h1.symm
              have hl0 : (0 : Int) < L := by omega
              go_wp2_with fail
              go_ret
              exact ⟨rfl, HB0.out⟩
          · have HR4 : Hid ((if ((seen == 0) && (inB 1 16 (L : Int) && xs.all right)) = false then 2 else 0) = r) := by
              have h1 := HR3.out
              rw [if_neg k1] at h1
              exact h1
            clear HR3 H3
            have k1b : (kind == 1) = false := by simpa using k1
            have k1c : (kind != 1) = true := by simpa using k1
            by_cases s0 : seen = 0
            · subst s0
              by_cases l0 : L = 0
              · obtain rfl : r = 2 := by
                  have h1 := HR4.out
                  rw [show inB 1 16 (L : Int) = false by unfold inB; simp [l0]] at h1
                  exact h1.symm
                subst l0
                go_wp2_with fail
                go_ret
                exact ⟨rfl, HB0.out⟩
              · have hl0 : ¬ (L : Int) = 0 := by omega
                have hl0b : ((L : Int) == 0) = false := by simpa using hl0
                by_cases l16 : 16 < L
                · obtain rfl : r = 2 := by
                    have h1 := HR4.out
                    rw [show inB 1 16 (L : Int) = false by unfold inB; simp; omega] at h1
                    exact h1.symm
                  have hl16 : (16 : Int) < L := by omega
                  go_wp2_with fail
                  go_ret
                  exact ⟨rfl, HB0.out⟩
                · have hl16 : ¬ (16 : Int) < L := by omega
                  have HR5 : Hid ((if xs.all right = false then 2 else 0) = r) := by
                    have h1 := HR4.out
                    rw [show inB 1 16 (L : Int) = true by unfold inB; simp; omega] at h1
                    exact h1
                  clear HR4
                  go_wp2_with fail
                  go_loopw [61] (fun iv wr => ∃ (k : Nat), k ≤ L ∧ iv = .int .i64 k ∧ (if (xs.drop k).all right = false then 2 else 0) = r ∧ Below w.heap.size w wr) (fun i _ => L - (intOf i).toNat)
                  case atStart => exact ⟨0, by omega, rfl, HR5.out, HB0.out⟩
                  case round =>
                    obtain ⟨k, hk, rfl, hg, hbel⟩ := hrel
                    have HG : Hid ((if (xs.drop k).all right = false then 2 else 0) = r) := hg
                    have HB : Hid (Below w.heap.size w wr) := hbel
                    clear hg hbel HR5 c0 c1 c2 c3 c4
                    by_cases hlt : k < L
                    · have hkd : k < xs.length := by rw [HLX.out]; exact hlt
                      obtain ⟨b, o, la, lc, sa, sc, rfl, hbl, hat, hok⟩ := (HX.out.bel HB.out).cells k hkd
                      have h64 := H64.out _ (List.getElem_mem hkd)
                      obtain ⟨x, hx⟩ : ∃ x, xs[k] = x := ⟨_, rfl⟩
                      obtain ⟨q, hq⟩ : ∃ q, right x = q := ⟨_, rfl⟩
                      have HG2 : Hid ((if (q && (xs.drop (k + 1)).all right) = false then 2 else 0) = r) := by
                        have h1 := HG.out
                        rw [List.drop_eq_getElem_cons hkd, hx, List.all_cons, hq] at h1
                        exact h1
                      rw [hx] at hat hok h64
                      have HRT : Hid (∀ W, Below wr.heap.size wr W → Calls Try.prog 10 #[lsaV x la lc sa sc] W fun e w' => e = .returned (.bool q) ∧ Below W.heap.size W w') := fun W hW => rright_any x la lc sa sc W (hok.bel hW) h64 q hq
                      obtain ⟨c0, c1, c2, c3, c4, c5, c6, c7, c8, c9, c10⟩ := hat
                      unfold lsaV at HRT
                      obtain ⟨ll, hll⟩ : ∃ l, x.links.length = l := ⟨_, rfl⟩
                      obtain ⟨sl, hsl⟩ : ∃ l, x.stubs.length = l := ⟨_, rfl⟩
                      rw [hll, hsl] at HRT
                      rw [hll] at c7
                      rw [hsl] at c8
                      have hkk : (k : Int) < L := by omega
                      have kk0 : (0 : Int) ≤ k := by omega
                      clear hx HG hok hll hsl hq h64
                      go_wp2_with fail
                      refine (HRT.out _ ((Below.refl _ wr).alloc (Nat.le_refl _) _)).mono ?_
                      rintro e w7 ⟨rfl, hb7⟩
                      have HB7 : Hid (Below w.heap.size w w7) := (HB.out.alloc HB.out.size _).trans (hb7.mono (by simp; exact Nat.le_succ_of_le HB.out.size))
                      clear hb7
                      cases q with
                      | false =>
                        obtain rfl : r = 2 := HG2.out.symm
                        go_wp2_with fail
                        go_ret
                        exact ⟨rfl, HB7.out⟩
                      | true =>
                        have HG3 : Hid ((if (xs.drop (k + 1)).all right = false then 2 else 0) = r) := HG2.out
                        clear HG2
                        go_wp2_with fail
                        exact ⟨⟨k + 1, by omega, by simp, HG3.out, HB7.out⟩, by simp [intOf]; omega⟩
                    · obtain rfl : L = k := by omega
                      obtain rfl : 0 = r := by
                        have h1 := HG.out
                        rw [List.drop_of_length_le (by rw [HLX.out]; omega)] at h1
                        exact h1
                      clear HG
                      go_wp2_with fail
                      go_ret
                      exact ⟨rfl, HB.out⟩
            · obtain rfl : r = 2 := by
                have h1 := HR4.out
                rw [show (seen == 0) = false by simp [s0]] at h1
                exact h1.symm
              have s0b : (seen != 0) = true := by simpa using s0
              go_wp2_with fail
              go_ret
              exact ⟨rfl, HB0.out⟩
end Go.Proofs.Ytagfdmkgnedlbae.Ls
