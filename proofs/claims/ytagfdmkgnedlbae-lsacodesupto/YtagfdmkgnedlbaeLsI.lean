/- The document's comparisons of announcements: what each answers. -/
import Derived.Test.YtagfdmkgnedlbaeLsG
namespace Go.Proofs.Ytagfdmkgnedlbae.Ls
open Go.ChangeShapes Go.WideShapes Go.ChangeAt Go.RowKit Go.Proofs.Ytagfdmkgnedlbae.PM Go.Proofs.Ytagfdmkgnedlbae.Ask
set_option linter.unusedVariables false

theorem rcmp_any (x y : Int) (w : World) : Calls Try.prog 36 #[.int .i64 x, .int .i64 y] w fun e w' => e = .returned (.int .i64 (cmp3 x y)) ∧ w' = w := by
  by_cases h1 : x < y
  · have HE : Hid (cmp3 x y = -1) := by show _ = _; unfold cmp3; rw [if_pos h1]
    go_enter Try.func36, Try.ntmps36
    go_wp2_with fail
    go_ret
    exact ⟨ret_i64 HE.out.symm, rfl⟩
  · by_cases h2 : y < x
    · have HE : Hid (cmp3 x y = 1) := by show _ = _; unfold cmp3; rw [if_neg h1, if_pos h2]
      go_enter Try.func36, Try.ntmps36
      go_wp2_with fail
      go_ret
      exact ⟨ret_i64 HE.out.symm, rfl⟩
    · have HE : Hid (cmp3 x y = 0) := by show _ = _; unfold cmp3; rw [if_neg h1, if_neg h2]
      go_enter Try.func36, Try.ntmps36
      go_wp2_with fail
      go_ret
      exact ⟨ret_i64 HE.out.symm, rfl⟩
set_option maxHeartbeats 1000000 in
theorem rfirst_any (b cap : Nat) (l : List Int) (L : Nat) (hL : l.length = L) (h9 : L ≤ 9223372036854775807) (w : World) (h : Nums b l w) (r : Int) (hr : nz l = r) :
    Calls Try.prog 35 #[.slice (some ⟨b, 0, none⟩) L cap] w fun e w' => e = .returned (.int .i64 r) ∧ w' = w := by
  have H : Hid (Nums b l w) := h
  have HL : Hid (l.length = L) := hL
  have HR : Hid (nz l = r) := hr
  clear h hL hr
  go_enter Try.func35, Try.ntmps35
  go_wp2_with fail
  go_loopw [7] (fun iv wr => ∃ k : Nat, k ≤ L ∧ iv = .int .i64 k ∧ nz (l.drop k) = r ∧ wr = w) (fun i _ => L - (intOf i).toNat)
  case atStart => exact ⟨0, by omega, rfl, by rw [List.drop_zero]; exact HR.out, rfl⟩
  case round =>
    obtain ⟨k, hk, rfl, hgk, hwr⟩ := hrel
    subst hwr
    have HG : Hid (nz (l.drop k) = r) := hgk
    clear hgk
    by_cases hlt : k < L
    · have hkd : k < l.length := by rw [HL.out]; exact hlt
      have hc := H.out.cells k hkd
      obtain ⟨y, hy⟩ : ∃ y, l[k] = y := ⟨_, rfl⟩
      rw [hy] at hc
      have HY : Hid (l.drop k = y :: l.drop (k + 1)) := by show _ = _; rw [List.drop_eq_getElem_cons hkd, hy]
      clear hy
      have hkk : (k : Int) < L := by omega
      have kk0 : (0 : Int) ≤ k := by omega
      by_cases e : y = 0
      · subst e
        have HE : Hid (nz (l.drop (k + 1)) = r) := by show _ = _; rw [← HG.out, HY.out, nz_cons, if_pos rfl]
        go_wp2_with fail
        exact ⟨⟨k + 1, by omega, by simp, HE.out, by first | trivial | rfl⟩, by simp [intOf]; omega⟩
      · have HE : Hid (y = r) := by show _ = _; rw [← HG.out, HY.out, nz_cons, if_neg e]
        go_wp2_with fail
        go_ret
        exact ⟨ret_i64 HE.out, rfl⟩
    · obtain rfl : k = L := by omega
      have hdr : l.drop k = [] := List.drop_of_length_le (by rw [HL.out]; exact Nat.le_refl _)
      have HE : Hid (0 = r) := by show _ = _; rw [← HG.out, hdr]; rfl
      clear hdr
      go_wp2_with fail
      go_ret
      exact ⟨ret_i64 HE.out, rfl⟩

set_option maxRecDepth 100000 in
theorem rdead_any (kind area origin pa pn seq age : Int) (la : Option Addr) (n1 lc : Nat) (sa : Option Addr) (n2 sc : Nat) (cost tag : Int) (w : World) : Calls Try.prog 42 #[.agg #[.int .i64 kind, .int .i64 area, .int .i64 origin, .int .u32 pa, .int .i64 pn, .int .i64 seq, .int .i64 age, .slice la n1 lc, .slice sa n2 sc, .int .i64 cost, .int .i64 tag]] w fun e w' => e = .returned (.int .i64 (endI age)) ∧ Below w.heap.size w w' := by
  by_cases h1 : 120 ≤ age
  · have HE : Hid (endI age = 1) := by show _ = _; unfold endI; rw [if_pos h1]
    go_enter Try.func42, Try.ntmps42
    go_wp2_with fail
    go_ret
    exact ⟨ret_i64 HE.out.symm, (Below.refl _ w).alloc (Nat.le_refl _) _⟩
  · have HE : Hid (endI age = 0) := by show _ = _; unfold endI; rw [if_neg h1]
    go_enter Try.func42, Try.ntmps42
    go_wp2_with fail
    go_ret
    exact ⟨ret_i64 HE.out.symm, (Below.refl _ w).alloc (Nat.le_refl _) _⟩
set_option maxRecDepth 100000 in
set_option maxHeartbeats 4000000 in
theorem rlorder_any (x y : Lsa) (la : Option Addr) (lc : Nat) (sa : Option Addr) (sc : Nat) (lb : Option Addr) (ld : Nat) (sb : Option Addr) (sd : Nat) (w : World) (hx : In32 x.pa) (hy : In32 y.pa) (r : Int) (hr : order x y = r) :
    Calls Try.prog 12 #[lsaV x la lc sa sc, lsaV y lb ld sb sd] w fun e w' => e = .returned (.int .i64 r) ∧ Below w.heap.size w w' := by
  obtain ⟨kind, area, origin, pa, pn, seq, age, cost, tag, links, stubs⟩ := x
  obtain ⟨kind2, area2, origin2, pa2, pn2, seq2, age2, cost2, tag2, links2, stubs2⟩ := y
  have HR : Hid (nz [cmp3 area area2, cmp3 kind kind2, cmp3 origin origin2, ord pa pn pa2 pn2] = r) := by show _ = _; rw [← hr]; rfl
  have a0 : 0 ≤ pa := hx.1
  have a1 : pa < 4294967296 := hx.2
  have b0 : 0 ≤ pa2 := hy.1
  have b1 : pa2 < 4294967296 := hy.2
  obtain ⟨n1, hn1⟩ : ∃ n1, links.length = n1 := ⟨_, rfl⟩
  obtain ⟨n2, hn2⟩ : ∃ n2, stubs.length = n2 := ⟨_, rfl⟩
  obtain ⟨m1, hm1⟩ : ∃ m1, links2.length = m1 := ⟨_, rfl⟩
  obtain ⟨m2, hm2⟩ : ∃ m2, stubs2.length = m2 := ⟨_, rfl⟩
  unfold lsaV
  dsimp only
  rw [hn1, hn2, hm1, hm2]
  clear hr hn1 hn2 hm1 hm2 hx hy links stubs links2 stubs2
  go_enter Try.func12, Try.ntmps12
  go_wp2_with fail
  obtain ⟨w0, hw0⟩ : ∃ w0, (w.alloc (Obj.cells #[.int .i64 kind, .int .i64 area, .int .i64 origin, .int .u32 pa, .int .i64 pn, .int .i64 seq, .int .i64 age, .slice la n1 lc, .slice sa n2 sc, .int .i64 cost, .int .i64 tag] 28)).alloc (Obj.cells #[.int .i64 kind2, .int .i64 area2, .int .i64 origin2, .int .u32 pa2, .int .i64 pn2, .int .i64 seq2, .int .i64 age2, .slice lb m1 ld, .slice sb m2 sd, .int .i64 cost2, .int .i64 tag2] 28) = w0 := ⟨_, rfl⟩
  obtain ⟨g1, g2, hs0, hb0⟩ := ha2 _ _ w0 hw0.symm
  have HX : Hid (LBox w.heap.size kind area origin pa pn seq age (.slice la n1 lc) (.slice sa n2 sc) cost tag w0) := by constructor <;> simp [World.cell?, g1]
  have HY : Hid (LBox (w.heap.size + 1) kind2 area2 origin2 pa2 pn2 seq2 age2 (.slice lb m1 ld) (.slice sb m2 sd) cost2 tag2 w0) := by constructor <;> simp [World.cell?, g2]
  rw [hw0]
  clear hw0 g1 g2 hs0
  obtain ⟨s, hs⟩ : ∃ s, w.heap.size = s := ⟨_, rfl⟩
  rw [hs] at HX HY
  have HW : Hid (∀ W, Below w0.drew.heap.size w0.drew W → Below w.heap.size w W) := fun W hW => hb0.trans (((drew_bel w0).trans hW).mono hb0.size)
  have HCX : Hid (∀ W, Below w0.drew.heap.size w0.drew W → LBox s kind area origin pa pn seq age (.slice la n1 lc) (.slice sa n2 sc) cost tag W) := fun W hW => HX.out.bel ((drew_bel w0).trans hW)
  have HCY : Hid (∀ W, Below w0.drew.heap.size w0.drew W → LBox (s + 1) kind2 area2 origin2 pa2 pn2 seq2 age2 (.slice lb m1 ld) (.slice sb m2 sd) cost2 tag2 W) := fun W hW => HY.out.bel ((drew_bel w0).trans hW)
  obtain ⟨c0, c1, c2, c3, c4, -, -, -, -, -, -⟩ := HX.out
  obtain ⟨d0, d1, d2, d3, d4, -, -, -, -, -, -⟩ := HY.out
  rw [hs]
  clear hs hb0
  go_region_held3 (fun w' => w'.cell? ⟨s, 0, none⟩ = some (.int .i64 kind) ∧ w'.cell? ⟨s, 1, none⟩ = some (.int .i64 area) ∧ w'.cell? ⟨s, 2, none⟩ = some (.int .i64 origin) ∧ w'.cell? ⟨s, 3, none⟩ = some (.int .u32 pa) ∧ w'.cell? ⟨s, 4, none⟩ = some (.int .i64 pn) ∧
      w'.cell? ⟨s + 1, 0, none⟩ = some (.int .i64 kind2) ∧ w'.cell? ⟨s + 1, 1, none⟩ = some (.int .i64 area2) ∧ w'.cell? ⟨s + 1, 2, none⟩ = some (.int .i64 origin2) ∧ w'.cell? ⟨s + 1, 3, none⟩ = some (.int .u32 pa2) ∧ w'.cell? ⟨s + 1, 4, none⟩ = some (.int .i64 pn2))
    (first | (simp [go_sem, c0, c1, c2, c3, c4, d0, d1, d2, d3, d4]; done) | (refine ⟨?_, ?_, ?_, ?_, ?_, ?_, ?_, ?_, ?_, ?_⟩ <;> assumption) | go_keep)
    (first
      | (go_at_call 36; refine (rcmp_any _ _ _).mono ?_; rintro e w5 ⟨rfl, hw5⟩; rw [hw5]; clear hw5 w5)
      | (go_at_call 31; refine (rorder_any pa pn pa2 pn2 a0 a1 b0 b1 _).mono ?_; rintro e w4 ⟨rfl, hb4⟩; obtain ⟨k0, k1, k2, k3, k4, -, -, -, -, -, -⟩ := HCX.out w4 hb4; obtain ⟨l0, l1, l2, l3, l4, -, -, -, -, -, -⟩ := HCY.out w4 hb4)
      | (go_at_call 35; refine (rfirst_any _ _ [cmp3 area area2, cmp3 kind kind2, cmp3 origin origin2, ord pa pn pa2 pn2] 4 rfl (by decide) _ (nums4 w4 _ _ _ _ _) r HR.out).mono ?_; rintro e w5 ⟨rfl, hw5⟩; rw [hw5]; clear hw5 w5))
  go_wp2_with fail
  go_ret
  exact ⟨rfl, (HW.out w4 hb4).alloc ((HW.out w4 hb4).size) _⟩
end Go.Proofs.Ytagfdmkgnedlbae.Ls
