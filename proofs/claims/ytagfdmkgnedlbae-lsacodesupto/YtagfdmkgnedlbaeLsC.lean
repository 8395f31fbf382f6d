/- Comparing lists: compareStubs and CompareFunc of links and of stubs: what each answers. -/
import Derived.Test.YtagfdmkgnedlbaeLsB
namespace Go.Proofs.Ytagfdmkgnedlbae.Ls
open Go.ChangeShapes Go.WideShapes Go.ChangeAt Go.RowKit Go.Proofs.Ytagfdmkgnedlbae.PM Go.Proofs.Ytagfdmkgnedlbae.Ask
set_option linter.unusedVariables false

def In32 (x : Int) : Prop := 0 ≤ x ∧ x < 4294967296
set_option maxRecDepth 100000 in
set_option maxHeartbeats 2000000 in
theorem stubs_any (x y : Int × Int × Int) (hx : In32 x.1) (hy : In32 y.1) (w : World) : Calls Try.prog 41 #[.agg #[.int .u32 x.1, .int .i64 x.2.1, .int .i64 x.2.2], .agg #[.int .u32 y.1, .int .i64 y.2.1, .int .i64 y.2.2]] w fun e w' => e = .returned (.int .i64 (stC x y)) ∧ Below w.heap.size w w' := by
  obtain ⟨xa, xb, xc⟩ := x
  obtain ⟨ya, yb, yc⟩ := y
  have a0 : 0 ≤ xa := hx.1
  have a1 : xa < 4294967296 := hx.2
  have b0 : 0 ≤ ya := hy.1
  have b1 : ya < 4294967296 := hy.2
  clear hx hy
  obtain ⟨R, hR⟩ : ∃ R, stC (xa, xb, xc) (ya, yb, yc) = R := ⟨_, rfl⟩
  have HR : Hid (nz [ord xa xb ya yb, cmp3 xc yc] = R) := by show _ = _; rw [← hR]; rfl
  show Calls _ _ #[.agg #[.int .u32 xa, .int .i64 xb, .int .i64 xc], .agg #[.int .u32 ya, .int .i64 yb, .int .i64 yc]] _ _
  rw [hR]
  clear hR
  go_enter Try.func41, Try.ntmps41
  go_wp2_with fail
  obtain ⟨w0, hw0⟩ : ∃ w0, (w.alloc (Obj.cells #[.int .u32 xa, .int .i64 xb, .int .i64 xc] 56)).alloc (Obj.cells #[.int .u32 ya, .int .i64 yb, .int .i64 yc] 56) = w0 := ⟨_, rfl⟩
  obtain ⟨g1, g2, hs0, hb0⟩ := ha2 _ _ w0 hw0.symm
  have HBX : Hid (Box33 w.heap.size .u32 (xa, xb, xc) (ya, yb, yc) w0) := by constructor <;> simp [World.cell?, g1, g2]
  rw [hw0]
  clear hw0 g1 g2 hs0
  obtain ⟨s, hs⟩ : ∃ s, w.heap.size = s := ⟨_, rfl⟩
  rw [hs] at HBX
  obtain ⟨c0, c1, c2, d0, d1, d2⟩ := HBX.out
  dsimp only at c0 c1 c2 d0 d1 d2
  have HB0 : Hid (Below w.heap.size w w0) := hb0
  have HW : Hid (∀ W, Below w0.drew.heap.size w0.drew W → Below w.heap.size w W) := fun W hW => hb0.trans (((drew_bel w0).trans hW).mono hb0.size)
  have HC : Hid (∀ W, Below w0.drew.heap.size w0.drew W → Box33 s .u32 (xa, xb, xc) (ya, yb, yc) W) := fun W hW => HBX.out.bel ((drew_bel w0).trans hW)
  rw [hs]
  clear hs hb0
  go_region_held3 (fun w' => w'.cell? ⟨s, 0, none⟩ = some (.int .u32 xa) ∧ w'.cell? ⟨s, 1, none⟩ = some (.int .i64 xb) ∧ w'.cell? ⟨s, 2, none⟩ = some (.int .i64 xc) ∧ w'.cell? ⟨s + 1, 0, none⟩ = some (.int .u32 ya) ∧ w'.cell? ⟨s + 1, 1, none⟩ = some (.int .i64 yb) ∧ w'.cell? ⟨s + 1, 2, none⟩ = some (.int .i64 yc))
    (first | (simp [go_sem, c0, c1, c2, d0, d1, d2]; done) | (refine ⟨?_, ?_, ?_, ?_, ?_, ?_⟩ <;> assumption) | go_keep)
    (first
      | (go_at_call 34; refine (order_any xa xb ya yb a0 a1 b0 b1 _).mono ?_; rintro e w4 ⟨rfl, hb4⟩; obtain ⟨k0, k1, k2, l0, l1, l2⟩ := HC.out w4 hb4; dsimp only at k0 k1 k2 l0 l1 l2)
      | (go_at_call 33; refine (cmp_any _ _ _).mono ?_; rintro e w5 ⟨rfl, hw5⟩; rw [hw5]; clear hw5 w5)
      | (go_at_call 32; refine (or_any _ _ [ord xa xb ya yb, cmp3 xc yc] 2 rfl (by decide) _ (nums2 _ _ _ _) R HR.out).mono ?_; rintro e w5 ⟨rfl, hw5⟩; rw [hw5]; clear hw5 w5))
  go_wp2_with fail
  go_ret
  exact ⟨rfl, (HW.out w4 hb4).alloc ((HW.out w4 hb4).size) _⟩

/-- a list of threes lies at a slice -/
structure L3 (k : IntKind) (w : World) (a : Option Addr) (xs : List (Int × Int × Int)) : Prop where
  small : xs.length ≤ 9223372036854775807
  cells : ∀ i (h : i < xs.length), ∃ b o, a = some ⟨b, o, none⟩ ∧ b < w.heap.size ∧ w.cell? ⟨b, o + i * 3, none⟩ = some (.int k xs[i].1) ∧ w.cell? ⟨b, o + i * 3 + 1, none⟩ = some (.int .i64 xs[i].2.1) ∧ w.cell? ⟨b, o + i * 3 + 2, none⟩ = some (.int .i64 xs[i].2.2)
theorem L3.bel {k : IntKind} {w w' : World} {a : Option Addr} {xs : List (Int × Int × Int)} (h : L3 k w a xs) (hb : Below w.heap.size w w') : L3 k w' a xs :=
  ⟨h.small, fun i hi => by
    obtain ⟨b, o, e, hlt, h0, h1, h2⟩ := h.cells i hi
    exact ⟨b, o, e, Nat.lt_of_lt_of_le hlt hb.size, cell_bel h0 hb, cell_bel h1 hb, cell_bel h2 hb⟩⟩
theorem lex_end1 {α : Type} (c : α → α → Int) {x : α} {xs : List α} : lex c (x :: xs) [] = 1 := by rw [lex]

set_option maxRecDepth 100000 in
set_option maxHeartbeats 2000000 in
theorem clinks_any (va vb : Option Addr) (ca cb : Nat) (xs ys : List (Int × Int × Int)) (L M : Nat) (hL : xs.length = L) (hM : ys.length = M) (w : World) (hx : L3 .i64 w va xs) (hy : L3 .i64 w vb ys) (r : Int) (hr : lex lkC xs ys = r) :
    Calls Try.prog 38 #[.slice va L ca, .slice vb M cb, .func (.func 39) #[] #[]] w fun e w' => e = .returned (.int .i64 r) ∧ Below w.heap.size w w' := by
  have HX : Hid (L3 .i64 w va xs) := hx
  have HY : Hid (L3 .i64 w vb ys) := hy
  have HLX : Hid (xs.length = L) := hL
  have HLY : Hid (ys.length = M) := hM
  have HR : Hid (lex lkC xs ys = r) := hr
  have hl9 := hx.small
  have hm9 := hy.small
  rw [hL] at hl9
  rw [hM] at hm9
  clear hx hy hL hM hr
  go_enter Try.func38, Try.ntmps38
  go_wp2_with fail
  go_loopw [13] (fun iv wr => ∃ k : Nat, k ≤ L ∧ k ≤ M ∧ iv = .int .i64 k ∧ lex lkC (xs.drop k) (ys.drop k) = r ∧ Below w.heap.size w wr) (fun i _ => L - (intOf i).toNat)
  case atStart => exact ⟨0, by omega, by omega, rfl, by rw [List.drop_zero, List.drop_zero]; exact HR.out, Below.refl _ _⟩
  case round =>
    obtain ⟨k, hk, hkM, rfl, hgk, hbr⟩ := hrel
    have HG : Hid (lex lkC (xs.drop k) (ys.drop k) = r) := hgk
    have HBR : Hid (Below w.heap.size w wr) := hbr
    clear hgk
    by_cases hlt : k < L
    · have hkd : k < xs.length := by rw [HLX.out]; exact hlt
      obtain ⟨b, o, rfl, hbl, c0, c1, c2⟩ := (HX.out.bel hbr).cells k hkd
      obtain ⟨⟨xa, xb, xc⟩, hy⟩ : ∃ y, xs[k] = y := ⟨_, rfl⟩
      rw [hy] at c0 c1 c2
      have HDX : Hid (xs.drop k = (xa, xb, xc) :: xs.drop (k + 1)) := by show _ = _; rw [List.drop_eq_getElem_cons hkd, hy]
      clear hy
      have hkk : (k : Int) < L := by omega
      have kk0 : (0 : Int) ≤ k := by omega
      have hsz := hbr.size
      clear hbr
      by_cases hlm : k < M
      · have hkm : (k : Int) < M := by omega
        have hkd2 : k < ys.length := by rw [HLY.out]; exact hlm
        obtain ⟨b', o', rfl, hbl', e0, e1, e2⟩ := (HY.out.bel HBR.out).cells k hkd2
        obtain ⟨⟨ya, yb, yc⟩, hy⟩ : ∃ y, ys[k] = y := ⟨_, rfl⟩
        rw [hy] at e0 e1 e2
        have HDY : Hid (ys.drop k = (ya, yb, yc) :: ys.drop (k + 1)) := by show _ = _; rw [List.drop_eq_getElem_cons hkd2, hy]
        clear hy
        have hge : decide ((M : Int) ≤ k) = false := decide_eq_false (by omega)
        go_wp2_with fail
        have hb2 : Below wr.heap.size wr ((wr.alloc (Obj.cells #[.int .i64 xa, .int .i64 xb, .int .i64 xc] 54)).alloc (Obj.cells #[.int .i64 ya, .int .i64 yb, .int .i64 yc] 54)) := ((Below.refl _ wr).alloc (Nat.le_refl _) _).alloc (by simp) _
        refine (links_any (xa, xb, xc) (ya, yb, yc) _).mono ?_
        rintro e w5 ⟨rfl, hb5⟩
        have HB5 : Hid (Below w.heap.size w w5) := HBR.out.trans ((hb2.trans (hb5.mono hb2.size)).mono HBR.out.size)
        clear hb2 hb5 c0 c1 c2 e0 e1 e2
        obtain ⟨C, hC⟩ : ∃ C, lkC (xa, xb, xc) (ya, yb, yc) = C := ⟨_, rfl⟩
        rw [hC]
        by_cases hz : C = 0
        · have HE : Hid (lex lkC (xs.drop (k + 1)) (ys.drop (k + 1)) = r) := by show _ = _; rw [← HG.out, HDX.out, HDY.out, lex_cons, hC, if_pos hz]
          subst hz
          clear hC
          go_wp2_with fail
          exact ⟨⟨k + 1, by omega, by omega, by simp, HE.out, HB5.out⟩, by simp [intOf]; omega⟩
        · have HE : Hid (C = r) := by show _ = _; rw [← HG.out, HDX.out, HDY.out, lex_cons, hC, if_neg hz]
          clear hC
          go_wp2_with fail
          go_ret
          exact ⟨ret_i64 HE.out, HB5.out⟩
      · have HE : Hid (1 = r) := by
          have hd : ys.drop k = [] := List.drop_of_length_le (by rw [HLY.out]; omega)
          show _ = _; rw [← HG.out, HDX.out, hd, lex_end1]
        have hge : decide ((M : Int) ≤ k) = true := decide_eq_true (by omega)
        go_wp2_with fail
        go_ret
        exact ⟨ret_i64 HE.out, HBR.out.trans ((Below.refl _ _).alloc hsz _)⟩
    · obtain rfl : k = L := by omega
      have hdx : xs.drop k = [] := List.drop_of_length_le (by rw [HLX.out]; exact Nat.le_refl _)
      clear hbr
      by_cases hlm : k < M
      · have hkm : (k : Int) < M := by omega
        have HE : Hid (-1 = r) := by
          show _ = _; rw [← HG.out, hdx, List.drop_eq_getElem_cons (by rw [HLY.out]; exact hlm)]; rfl
        clear hdx
        go_wp2_with fail
        go_ret
        exact ⟨ret_i64 HE.out, HBR.out⟩
      · have hkm : ¬ (k : Int) < M := by omega
        have HE : Hid (0 = r) := by
          have hd : ys.drop k = [] := List.drop_of_length_le (by rw [HLY.out]; omega)
          show _ = _; rw [← HG.out, hdx, hd]; rfl
        clear hdx
        go_wp2_with fail
        go_ret
        exact ⟨ret_i64 HE.out, HBR.out⟩

set_option maxRecDepth 100000 in
set_option maxHeartbeats 2000000 in
theorem cstubs_any (va vb : Option Addr) (ca cb : Nat) (xs ys : List (Int × Int × Int)) (L M : Nat) (hL : xs.length = L) (hM : ys.length = M) (w : World) (hx : L3 .u32 w va xs) (hy : L3 .u32 w vb ys) (hx3 : ∀ d ∈ xs, In32 d.1) (hy3 : ∀ d ∈ ys, In32 d.1) (r : Int) (hr : lex stC xs ys = r) :
    Calls Try.prog 40 #[.slice va L ca, .slice vb M cb, .func (.func 41) #[] #[]] w fun e w' => e = .returned (.int .i64 r) ∧ Below w.heap.size w w' := by
  have HX : Hid (L3 .u32 w va xs) := hx
  have HY : Hid (L3 .u32 w vb ys) := hy
  have HLX : Hid (xs.length = L) := hL
  have HLY : Hid (ys.length = M) := hM
  have HR : Hid (lex stC xs ys = r) := hr
  have hl9 := hx.small
  have hm9 := hy.small
  rw [hL] at hl9
  rw [hM] at hm9
  have HX3 : Hid (∀ d ∈ xs, In32 d.1) := hx3
  have HY3 : Hid (∀ d ∈ ys, In32 d.1) := hy3
  clear hx hy hL hM hr hx3 hy3
  go_enter Try.func40, Try.ntmps40
  go_wp2_with fail
  go_loopw [13] (fun iv wr => ∃ k : Nat, k ≤ L ∧ k ≤ M ∧ iv = .int .i64 k ∧ lex stC (xs.drop k) (ys.drop k) = r ∧ Below w.heap.size w wr) (fun i _ => L - (intOf i).toNat)
  case atStart => exact ⟨0, by omega, by omega, rfl, by rw [List.drop_zero, List.drop_zero]; exact HR.out, Below.refl _ _⟩
  case round =>
    obtain ⟨k, hk, hkM, rfl, hgk, hbr⟩ := hrel
    have HG : Hid (lex stC (xs.drop k) (ys.drop k) = r) := hgk
    have HBR : Hid (Below w.heap.size w wr) := hbr
    clear hgk
    by_cases hlt : k < L
    · have hkd : k < xs.length := by rw [HLX.out]; exact hlt
      obtain ⟨b, o, rfl, hbl, c0, c1, c2⟩ := (HX.out.bel hbr).cells k hkd
      obtain ⟨⟨xa, xb, xc⟩, hy⟩ : ∃ y, xs[k] = y := ⟨_, rfl⟩
      have hi1 : In32 xs[k].1 := HX3.out _ (List.getElem_mem hkd)
      rw [hy] at c0 c1 c2 hi1
      have HI1 : Hid (In32 xa) := hi1
      clear hi1
      have HDX : Hid (xs.drop k = (xa, xb, xc) :: xs.drop (k + 1)) := by show _ = _; rw [List.drop_eq_getElem_cons hkd, hy]
      clear hy
      have hkk : (k : Int) < L := by omega
      have kk0 : (0 : Int) ≤ k := by omega
      have hsz := hbr.size
      clear hbr
      by_cases hlm : k < M
      · have hkm : (k : Int) < M := by omega
        have hkd2 : k < ys.length := by rw [HLY.out]; exact hlm
        obtain ⟨b', o', rfl, hbl', e0, e1, e2⟩ := (HY.out.bel HBR.out).cells k hkd2
        obtain ⟨⟨ya, yb, yc⟩, hy⟩ : ∃ y, ys[k] = y := ⟨_, rfl⟩
        have hi2 : In32 ys[k].1 := HY3.out _ (List.getElem_mem hkd2)
        rw [hy] at e0 e1 e2 hi2
        have HI2 : Hid (In32 ya) := hi2
        clear hi2
        have HDY : Hid (ys.drop k = (ya, yb, yc) :: ys.drop (k + 1)) := by show _ = _; rw [List.drop_eq_getElem_cons hkd2, hy]
        clear hy
        have hge : decide ((M : Int) ≤ k) = false := decide_eq_false (by omega)
        go_wp2_with fail
        have hb2 : Below wr.heap.size wr ((wr.alloc (Obj.cells #[.int .u32 xa, .int .i64 xb, .int .i64 xc] 56)).alloc (Obj.cells #[.int .u32 ya, .int .i64 yb, .int .i64 yc] 56)) := ((Below.refl _ wr).alloc (Nat.le_refl _) _).alloc (by simp) _
        refine (stubs_any (xa, xb, xc) (ya, yb, yc) HI1.out HI2.out _).mono ?_
        rintro e w5 ⟨rfl, hb5⟩
        have HB5 : Hid (Below w.heap.size w w5) := HBR.out.trans ((hb2.trans (hb5.mono hb2.size)).mono HBR.out.size)
        clear hb2 hb5 c0 c1 c2 e0 e1 e2
        obtain ⟨C, hC⟩ : ∃ C, stC (xa, xb, xc) (ya, yb, yc) = C := ⟨_, rfl⟩
        rw [hC]
        by_cases hz : C = 0
        · have HE : Hid (lex stC (xs.drop (k + 1)) (ys.drop (k + 1)) = r) := by show _ = _; rw [← HG.out, HDX.out, HDY.out, lex_cons, hC, if_pos hz]
          subst hz
          clear hC
          go_wp2_with fail
          exact ⟨⟨k + 1, by omega, by omega, by simp, HE.out, HB5.out⟩, by simp [intOf]; omega⟩
        · have HE : Hid (C = r) := by show _ = _; rw [← HG.out, HDX.out, HDY.out, lex_cons, hC, if_neg hz]
          clear hC
          go_wp2_with fail
          go_ret
          exact ⟨ret_i64 HE.out, HB5.out⟩
      · have HE : Hid (1 = r) := by
          have hd : ys.drop k = [] := List.drop_of_length_le (by rw [HLY.out]; omega)
          show _ = _; rw [← HG.out, HDX.out, hd, lex_end1]
        have hge : decide ((M : Int) ≤ k) = true := decide_eq_true (by omega)
        go_wp2_with fail
        go_ret
        exact ⟨ret_i64 HE.out, HBR.out.trans ((Below.refl _ _).alloc hsz _)⟩
    · obtain rfl : k = L := by omega
      have hdx : xs.drop k = [] := List.drop_of_length_le (by rw [HLX.out]; exact Nat.le_refl _)
      clear hbr
      by_cases hlm : k < M
      · have hkm : (k : Int) < M := by omega
        have HE : Hid (-1 = r) := by
          show _ = _; rw [← HG.out, hdx, List.drop_eq_getElem_cons (by rw [HLY.out]; exact hlm)]; rfl
        clear hdx
        go_wp2_with fail
        go_ret
        exact ⟨ret_i64 HE.out, HBR.out⟩
      · have hkm : ¬ (k : Int) < M := by omega
        have HE : Hid (0 = r) := by
          have hd : ys.drop k = [] := List.drop_of_length_le (by rw [HLY.out]; omega)
          show _ = _; rw [← HG.out, hdx, hd]; rfl
        clear hdx
        go_wp2_with fail
        go_ret
        exact ⟨ret_i64 HE.out, HBR.out⟩
end Go.Proofs.Ytagfdmkgnedlbae.Ls
