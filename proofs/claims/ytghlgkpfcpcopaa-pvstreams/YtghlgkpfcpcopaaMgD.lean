/- The document's guess of a message: kinds 1, 3 and 4. Appends in regions that draw; parts of slices of bytes. -/
import Derived.Test.YtghlgkpfcpcopaaMgC
import Derived.Test.YtghlgkpfcpcopaaPwO
import Derived.Test.YtghlgkpfcpcopaaMgA
import Derived.Laws.OwnMore
namespace Go.Proofs.Ytghlgkpfcpcopaa.Pv
open Go.ChangeShapes Go.WideShapes Go.ChangeAt Go.RowKit Go.Joins Go.Proofs.Ytghlgkpfcpcopaa.PM Go.Proofs.Ytghlgkpfcpcopaa.Ask Go.Proofs.Ytghlgkpfcpcopaa.Ge
set_option linter.unusedVariables false

/-- a message as a struct -/
def MsK : Sk := ⟨31, 17, _, Try.underlying31, rfl, by kernel_rfl⟩
/-- its boxes: what it answers, and what it reads into -/
structure GuS (w : World) (b4 b7 : Nat) (W : World) (m : Ms) (s : Sl) : Prop where
  m4 : MB b4 ms0 sZ W
  m7 : MB b7 m s W
  bel : Below w.heap.size w W
  h4 : w.heap.size ≤ b4
  h47 : b4 < b7
theorem GuS.bel2 {w W W' : World} {b4 b7 : Nat} {m : Ms} {s : Sl} (h : GuS w b4 b7 W m s) (hb : Below W.heap.size W W') : GuS w b4 b7 W' m s :=
  ⟨h.m4.blk (hb.block _ h.m4.lt), h.m7.blk (hb.block _ h.m7.lt), h.bel.trans (hb.mono h.bel.size), h.h4, h.h47⟩
theorem GuS.ko {w W W' : World} {b4 b7 : Nat} {m m2 : Ms} {s s2 : Sl} (h : GuS w b4 b7 W m s) (hk : Ko W b7 W') (h7 : MB b7 m2 s2 W') : GuS w b4 b7 W' m2 s2 :=
  ⟨h.m4.blk (hk.block _ (by have := h.h47; omega)), h7, h.bel.trans (hk.below (by have := h.h47; have := h.h4; omega)), h.h4, h.h47⟩
theorem GuS.set {w W : World} {b4 b7 : Nat} {m m2 : Ms} {s s2 : Sl} (h : GuS w b4 b7 W m s) (i : Nat) (v : Value) (he : (msL m s).set i v = msL m2 s2) : GuS w b4 b7 (W.setCell ⟨b7, i, none⟩ v) m2 s2 :=
  h.ko (Ko.set W b7 i v) (SB.set (T := MsK) h.m7 i v he)
def GuPost (w : World) (a : Option Addr) (o : Option (Ms × List Nat)) (e : Ending) (w' : World) : Prop :=
  match o with
  | none => (∃ m s bv, e = .returned (.tuple #[msV m s, bv, .bool false])) ∧ Below w.heap.size w w'
  | some (m, kp) => ∃ s va n cap, e = .returned (.tuple #[msV m s, .slice va n cap, .bool true]) ∧ MO w.heap.size w' m s ∧ Lst E8 w' va kp ∧ kp.length = n ∧ (∀ ad, va = some ad → (∃ ad0, a = some ad0 ∧ ad.block = ad0.block) ∨ w.heap.size ≤ ad.block) ∧ Below w.heap.size w w'
theorem gu_res {W : World} {b : Nat} {m : Ms} {s : Sl} {bv : Value} {r : Bool} (h : MB b m s W) {tm : Array Value} (t4 : (tm[4]?).getD undef = .pointer (some ⟨b, 0, none⟩)) (t5 : (tm[5]?).getD undef = bv) (t6 : (tm[6]?).getD undef = .bool r) : (results Try.f27 tm).run Try.prog W = .ok (.tuple #[msV m s, bv, .bool r]) W := by
  obtain ⟨c0, c1, c2, c3, c4, c5, c6, c7, c8, c9, c10, c11, c12, c13, c14, c15, c16⟩ := h.box
  unfold msV
  simp [results, Try.results27, go_sem, t4, t5, t6, c0, c1, c2, c3, c4, c5, c6, c7, c8, c9, c10, c11, c12, c13, c14, c15, c16]
theorem gu_none {w W W' : World} {b4 b7 : Nat} {m : Ms} {s : Sl} {a : Option Addr} {o : Option (Ms × List Nat)} (h : GuS w b4 b7 W m s) (hk : Ko W b4 W') (ho : o = none) : GuPost w a o (.returned (.tuple #[msV m s, .slice none 0 0, .bool false])) W' := by
  subst ho
  exact ⟨⟨m, s, _, rfl⟩, h.bel.trans (hk.below h.h4)⟩
/-- no lists -/
theorem gu_some {w W W' : World} {b4 b7 : Nat} {m : Ms} {o : Option (Ms × List Nat)} {va : Option Addr} {n c : Nat} {xs : List Nat} (h : GuS w b4 b7 W m sZ) (hk : Ko W b4 W') (ho : o = some (m, xs)) (hl : Lst E8 w va xs) (hn : xs.length = n) (h1 : m.lost = []) (h2 : m.hv = []) (h3 : m.rt = rtZ) : GuPost w va o (.returned (.tuple #[msV m sZ, .slice va n c, .bool true])) W' := by
  subst ho
  have hb := h.bel.trans (hk.below h.h4)
  exact ⟨sZ, va, n, c, rfl, mo_zero _ _ _ h1 h2 h3, hl.bel hb, hn, fun ad e => .inl ⟨ad, e, rfl⟩, hb⟩
theorem ms0_kind (k : Int) : msL { ms0 with kind := k } sZ = [.int .i64 k, .int .i64 0, .int .i64 0, .int .i64 0, .int .i64 0, .slice none 0 0, .slice none 0 0, .int .u32 0, .int .i64 0, .slice none 0 0, .int .i64 0, .int .i64 0, .int .i64 0, .int .u32 0, .slice none 0 0, .slice none 0 0, .int .i64 0] := rfl
theorem gu_start {w W1 W2 W3 : World} (k : Int)
    (h1 : w.alloc (Obj.cells #[.int .i64 0, .int .i64 0, .int .i64 0, .int .i64 0, .int .i64 0, .slice none 0 0, .slice none 0 0, .int .u32 0, .int .i64 0, .slice none 0 0, .int .i64 0, .int .i64 0, .int .i64 0, .int .u32 0, .slice none 0 0, .slice none 0 0, .int .i64 0] 31) = W1)
    (h2 : W1.alloc (Obj.cells #[.int .i64 0, .int .i64 0, .int .i64 0, .int .i64 0, .int .i64 0, .slice none 0 0, .slice none 0 0, .int .u32 0, .int .i64 0, .slice none 0 0, .int .i64 0, .int .i64 0, .int .i64 0, .int .u32 0, .slice none 0 0, .slice none 0 0, .int .i64 0] 31) = W2)
    (h3 : SB MsK (w.heap.size + 1) (msL { ms0 with kind := k } sZ) W3) (hk : Ko W2 (w.heap.size + 1) W3) : GuS w w.heap.size (w.heap.size + 1) W3 { ms0 with kind := k } sZ := by
  obtain ⟨m4, b1⟩ := mb_zero rfl h1
  have z1 : W1.heap.size = w.heap.size + 1 := by rw [← h1]; simp
  obtain ⟨m7, b2⟩ := mb_zero z1 h2
  exact ⟨(m4.blk (b2.block _ (by omega))).blk (hk.block _ (by omega)), h3, (b1.trans (b2.mono b1.size)).trans (hk.below (by omega)), Nat.le_refl _, by omega⟩
/-! the walks -/
set_option maxRecDepth 100000 in
set_option maxHeartbeats 16000000 in
theorem dguess3 (a : Option Addr) (n c : Nat) (xs : List Nat) (w : World) (hl : Lst E8 w a xs) (hn : xs.length = n) (hc : n ≤ c) (hu : ∀ d ∈ xs, d < 256) :
    Calls Try.prog 27 #[.int .i64 3, .slice a n c] w (GuPost w a (guess 3 xs)) := by
  have HL : Hid (Lst E8 w a xs) := hl
  have HLN : Hid (xs.length = n) := hn
  have HU : Hid (∀ d ∈ xs, d < 256) := hu
  clear hl hn hu
  obtain ⟨W1, hW1⟩ : ∃ W, w.alloc (Obj.cells #[.int .i64 0, .int .i64 0, .int .i64 0, .int .i64 0, .int .i64 0, .slice none 0 0, .slice none 0 0, .int .u32 0, .int .i64 0, .slice none 0 0, .int .i64 0, .int .i64 0, .int .i64 0, .int .u32 0, .slice none 0 0, .slice none 0 0, .int .i64 0] 31) = W := ⟨_, rfl⟩
  have hz1 : W1.heap.size = w.heap.size + 1 := by rw [← hW1]; simp
  obtain ⟨W2, hW2⟩ : ∃ W, W1.alloc (Obj.cells #[.int .i64 0, .int .i64 0, .int .i64 0, .int .i64 0, .int .i64 0, .slice none 0 0, .slice none 0 0, .int .u32 0, .int .i64 0, .slice none 0 0, .int .i64 0, .int .i64 0, .int .i64 0, .int .u32 0, .slice none 0 0, .slice none 0 0, .int .i64 0] 31) = W := ⟨_, rfl⟩
  have HM7 : Hid (MB (w.heap.size + 1) ms0 sZ W2) := (mb_zero hz1 hW2).1
  go_enter Try.func27, Try.ntmps27
  go_wp2_with (refine list_sstore MsK rfl _ _ rfl (b := w.heap.size + 1) (cs := msL ms0 sZ) (cs' := msL { ms0 with kind := 3 } sZ) rfl rfl HM7.out rfl rfl rfl ?_)
  intro W3 h3 hk3
  have HS : Hid (GuS w w.heap.size (w.heap.size + 1) W3 { ms0 with kind := 3 } sZ) := gu_start 3 hW1 hW2 h3.out hk3.out
  clear hW1 hW2 hz1 h3 hk3 HM7
  obtain ⟨b7, hb7⟩ : ∃ k, w.heap.size + 1 = k := ⟨_, rfl⟩
  rw [hb7] at HS ⊢
  obtain ⟨b4, hb4⟩ : ∃ k, w.heap.size = k := ⟨_, rfl⟩
  have HS0 : Hid (GuS w b4 b7 W3 { ms0 with kind := 3 } sZ) := by rw [← hb4]; exact HS.out
  rw [hb4]
  clear hb7 hb4 HS
  go_wp2_with (first | (refine list_sload MsK rfl _ rfl (b := b7) (cs := msL { ms0 with kind := 3 } sZ) rfl HS0.out.m7 rfl ?_) | (refine list_sstore MsK rfl _ _ rfl (b := b4) (cs := msL ms0 sZ) (cs' := msL { ms0 with kind := 3 } sZ) rfl rfl HS0.out.m4 rfl rfl rfl ?_))
  intro W5 hm5 hk5
  have HQ5 := gu_some (c := c) HS0.out hk5.out rfl HL.out HLN.out rfl rfl rfl
  clear hk5 HS0
  go_wp2_with fail
  exact bodyPost_ret (gu_res hm5.out rfl rfl rfl) rfl HQ5
set_option maxRecDepth 100000 in
set_option maxHeartbeats 16000000 in
theorem dguess4 (a : Option Addr) (n c : Nat) (xs : List Nat) (w : World) (hl : Lst E8 w a xs) (hn : xs.length = n) (hc : n ≤ c) (hu : ∀ d ∈ xs, d < 256) :
    Calls Try.prog 27 #[.int .i64 4, .slice a n c] w (GuPost w a (guess 4 xs)) := by
  have HL : Hid (Lst E8 w a xs) := hl
  have HLN : Hid (xs.length = n) := hn
  have HU : Hid (∀ d ∈ xs, d < 256) := hu
  clear hl hn hu
  obtain ⟨W1, hW1⟩ : ∃ W, w.alloc (Obj.cells #[.int .i64 0, .int .i64 0, .int .i64 0, .int .i64 0, .int .i64 0, .slice none 0 0, .slice none 0 0, .int .u32 0, .int .i64 0, .slice none 0 0, .int .i64 0, .int .i64 0, .int .i64 0, .int .u32 0, .slice none 0 0, .slice none 0 0, .int .i64 0] 31) = W := ⟨_, rfl⟩
  have hz1 : W1.heap.size = w.heap.size + 1 := by rw [← hW1]; simp
  obtain ⟨W2, hW2⟩ : ∃ W, W1.alloc (Obj.cells #[.int .i64 0, .int .i64 0, .int .i64 0, .int .i64 0, .int .i64 0, .slice none 0 0, .slice none 0 0, .int .u32 0, .int .i64 0, .slice none 0 0, .int .i64 0, .int .i64 0, .int .i64 0, .int .u32 0, .slice none 0 0, .slice none 0 0, .int .i64 0] 31) = W := ⟨_, rfl⟩
  have HM7 : Hid (MB (w.heap.size + 1) ms0 sZ W2) := (mb_zero hz1 hW2).1
  go_enter Try.func27, Try.ntmps27
  go_wp2_with (refine list_sstore MsK rfl _ _ rfl (b := w.heap.size + 1) (cs := msL ms0 sZ) (cs' := msL { ms0 with kind := 4 } sZ) rfl rfl HM7.out rfl rfl rfl ?_)
  intro W3 h3 hk3
  have HS : Hid (GuS w w.heap.size (w.heap.size + 1) W3 { ms0 with kind := 4 } sZ) := gu_start 4 hW1 hW2 h3.out hk3.out
  clear hW1 hW2 hz1 h3 hk3 HM7
  obtain ⟨b7, hb7⟩ : ∃ k, w.heap.size + 1 = k := ⟨_, rfl⟩
  rw [hb7] at HS ⊢
  obtain ⟨b4, hb4⟩ : ∃ k, w.heap.size = k := ⟨_, rfl⟩
  have HS0 : Hid (GuS w b4 b7 W3 { ms0 with kind := 4 } sZ) := by rw [← hb4]; exact HS.out
  rw [hb4]
  clear hb7 hb4 HS
  by_cases h1 : n < 1
  · have h1i : (n : Int) < 1 := by omega
    have HG : Hid (guess 4 xs = none) := by
      show _ = _
      unfold guess readB
      rw [if_neg (by decide), if_neg (by decide), if_neg (by decide), if_pos rfl, if_neg (by rw [HLN.out]; omega)]
    go_wp2_with (first | (refine list_sload MsK rfl _ rfl (b := b7) (cs := msL { ms0 with kind := 4 } sZ) rfl HS0.out.m7 rfl ?_) | (refine list_sstore MsK rfl _ _ rfl (b := b4) (cs := msL ms0 sZ) (cs' := msL { ms0 with kind := 4 } sZ) rfl rfl HS0.out.m4 rfl rfl rfl ?_))
    intro W5 hm5 hk5
    have HQ5 : ∀ a0, GuPost w a0 (guess 4 xs) _ W5 := fun a0 => gu_none HS0.out hk5.out HG.out
    clear hk5 HS0
    go_wp2_with fail
    exact bodyPost_ret (gu_res hm5.out rfl rfl rfl) rfl (HQ5 _)
  · have h1i : ¬ (n : Int) < 1 := by omega
    obtain ⟨b, o, rfl, hbl, -⟩ := lst8 HL.out 0 (by rw [HLN.out]; omega)
    have c0 : W3.cell? ⟨b, o, none⟩ = some (.int .u8 (xs[0]'(by rw [HLN.out]; omega) : Int)) := by
      obtain ⟨b', o', e, -, h6⟩ := lst8 (HL.out.bel HS0.out.bel) 0 (by rw [HLN.out]; omega)
      cases e
      simpa using h6
    obtain ⟨q, hq⟩ : ∃ q, xs[0]'(by rw [HLN.out]; omega) = q := ⟨_, rfl⟩
    have hq8 : q < 256 := by rw [← hq]; exact HU.out _ (List.getElem_mem _)
    rw [hq] at c0
    have HG : Hid (guess 4 xs = some ({ ms0 with kind := 4, code := (q : Int) }, xs)) := by
      show _ = _
      unfold guess readB
      rw [if_neg (by decide), if_neg (by decide), if_neg (by decide), if_pos rfl, if_pos (by rw [HLN.out]; omega)]
      have h5 := num_take xs 0 (by rw [HLN.out]; omega)
      rw [hq] at h5
      simp [num] at h5
      simp [h5, num]
    have hwt : IntKind.i64.wrap (q : Int) = (q : Int) := by rw [IntWalk.i64_in _ (by omega)]
    have f3 : W3.frozen? ⟨b7, 4, none⟩ = false := HS0.out.m7.fro 4
    have c3 : W3.cell? ⟨b7, 4, none⟩ = some _ := HS0.out.m7.cell 4
    have HS2 : Hid (GuS w b4 b7 (W3.setCell ⟨b7, 4, none⟩ (.int .i64 (q : Int))) { ms0 with kind := 4, code := (q : Int) } sZ) := HS0.out.set 4 _ rfl
    clear hq HS0
    go_wp2_with (first | (refine list_sload MsK rfl _ rfl (b := b7) (cs := msL { ms0 with kind := 4, code := (q : Int) } sZ) rfl HS2.out.m7 rfl ?_) | (refine list_sstore MsK rfl _ _ rfl (b := b4) (cs := msL ms0 sZ) (cs' := msL { ms0 with kind := 4, code := (q : Int) } sZ) rfl rfl HS2.out.m4 rfl rfl rfl ?_))
    intro W5 hm5 hk5
    have HQ5 := gu_some (c := c) HS2.out hk5.out HG.out HL.out HLN.out rfl rfl rfl
    clear hk5 HS2
    go_wp2_with fail
    exact bodyPost_ret (gu_res hm5.out rfl rfl rfl) rfl HQ5
set_option maxRecDepth 100000 in
set_option maxHeartbeats 16000000 in
theorem dguess1 (a : Option Addr) (n c : Nat) (xs : List Nat) (w : World) (hl : Lst E8 w a xs) (hn : xs.length = n) (hc : n ≤ c) (hu : ∀ d ∈ xs, d < 256) :
    Calls Try.prog 27 #[.int .i64 1, .slice a n c] w (GuPost w a (guess 1 xs)) := by
  have HL : Hid (Lst E8 w a xs) := hl
  have HLN : Hid (xs.length = n) := hn
  have HU : Hid (∀ d ∈ xs, d < 256) := hu
  clear hl hn hu
  obtain ⟨W1, hW1⟩ : ∃ W, w.alloc (Obj.cells #[.int .i64 0, .int .i64 0, .int .i64 0, .int .i64 0, .int .i64 0, .slice none 0 0, .slice none 0 0, .int .u32 0, .int .i64 0, .slice none 0 0, .int .i64 0, .int .i64 0, .int .i64 0, .int .u32 0, .slice none 0 0, .slice none 0 0, .int .i64 0] 31) = W := ⟨_, rfl⟩
  have hz1 : W1.heap.size = w.heap.size + 1 := by rw [← hW1]; simp
  obtain ⟨W2, hW2⟩ : ∃ W, W1.alloc (Obj.cells #[.int .i64 0, .int .i64 0, .int .i64 0, .int .i64 0, .int .i64 0, .slice none 0 0, .slice none 0 0, .int .u32 0, .int .i64 0, .slice none 0 0, .int .i64 0, .int .i64 0, .int .i64 0, .int .u32 0, .slice none 0 0, .slice none 0 0, .int .i64 0] 31) = W := ⟨_, rfl⟩
  have HM7 : Hid (MB (w.heap.size + 1) ms0 sZ W2) := (mb_zero hz1 hW2).1
  go_enter Try.func27, Try.ntmps27
  go_wp2_with (refine list_sstore MsK rfl _ _ rfl (b := w.heap.size + 1) (cs := msL ms0 sZ) (cs' := msL { ms0 with kind := 1 } sZ) rfl rfl HM7.out rfl rfl rfl ?_)
  intro W3 h3 hk3
  have HS : Hid (GuS w w.heap.size (w.heap.size + 1) W3 { ms0 with kind := 1 } sZ) := gu_start 1 hW1 hW2 h3.out hk3.out
  clear hW1 hW2 hz1 h3 hk3 HM7
  obtain ⟨b7, hb7⟩ : ∃ k, w.heap.size + 1 = k := ⟨_, rfl⟩
  rw [hb7] at HS ⊢
  obtain ⟨b4, hb4⟩ : ∃ k, w.heap.size = k := ⟨_, rfl⟩
  have HS0 : Hid (GuS w b4 b7 W3 { ms0 with kind := 1 } sZ) := by rw [← hb4]; exact HS.out
  rw [hb4]
  clear hb7 hb4 HS
  by_cases h11 : n < 11
  · have h1i : (n : Int) < 11 := by omega
    have HG : Hid (guess 1 xs = none) := by
      show _ = _
      unfold guess readB
      rw [if_neg (by decide), if_pos rfl, if_neg (by rw [HLN.out]; omega)]
    go_wp2_with (first | (refine list_sload MsK rfl _ rfl (b := b7) (cs := msL { ms0 with kind := 1 } sZ) rfl HS0.out.m7 rfl ?_) | (refine list_sstore MsK rfl _ _ rfl (b := b4) (cs := msL ms0 sZ) (cs' := msL { ms0 with kind := 1 } sZ) rfl rfl HS0.out.m4 rfl rfl rfl ?_))
    intro W5 hm5 hk5
    have HQ5 : ∀ a0, GuPost w a0 (guess 1 xs) _ W5 := fun a0 => gu_none HS0.out hk5.out HG.out
    clear hk5 HS0
    go_wp2_with fail
    exact bodyPost_ret (gu_res hm5.out rfl rfl rfl) rfl (HQ5 _)
  · have h1i : ¬ (n : Int) < 11 := by omega
    obtain ⟨b, o, rfl, hbl, -⟩ := lst8 HL.out 0 (by rw [HLN.out]; omega)
    have hcc : (11 : Int) ≤ (c : Int) := by omega
    have hc5 : (5 : Int) ≤ (c : Int) := by omega
    have hc7 : (7 : Int) ≤ (c : Int) := by omega
    have h1c : ¬ c = 1 := by omega
    have h5c : ¬ c = 5 := by omega
    have h7c : ¬ c = 7 := by omega
    have HDW : Hid (Lst E8 W3.drew (some ⟨b, o, none⟩) xs) := HL.out.bel (HS0.out.bel.trans ((drew_bel W3).mono HS0.out.bel.size))
    obtain ⟨y1, hy1⟩ : ∃ y, num ((xs.drop 1).take 4) = y := ⟨_, rfl⟩
    have HY1 : Hid (num ((xs.drop 1).take 4) = y1) := hy1
    have HD1 : Hid (Calls Try.prog 25 #[.slice (some ⟨b, o + 1, none⟩) 4 (c - 1)] W3.drew fun e w' => e = .returned (.int .i64 (y1 : Int)) ∧ w' = W3.drew) := by
      rw [← hy1]
      exact dnum_any _ 4 _ _ _ ((HDW.out.drop 1).take 4) (by rw [List.length_take, List.length_drop, HLN.out]; omega) (fun d hd => HU.out d (List.mem_of_mem_drop (List.mem_of_mem_take hd))) (by omega)
    clear hy1
    obtain ⟨y2, hy2⟩ : ∃ y, num ((xs.drop 5).take 2) = y := ⟨_, rfl⟩
    have HY2 : Hid (num ((xs.drop 5).take 2) = y2) := hy2
    have HD2 : Hid (Calls Try.prog 25 #[.slice (some ⟨b, o + 5, none⟩) 2 (c - 5)] W3.drew fun e w' => e = .returned (.int .i64 (y2 : Int)) ∧ w' = W3.drew) := by
      rw [← hy2]
      exact dnum_any _ 2 _ _ _ ((HDW.out.drop 5).take 2) (by rw [List.length_take, List.length_drop, HLN.out]; omega) (fun d hd => HU.out d (List.mem_of_mem_drop (List.mem_of_mem_take hd))) (by omega)
    clear hy2
    obtain ⟨y3, hy3⟩ : ∃ y, num ((xs.drop 7).take 4) = y := ⟨_, rfl⟩
    have HY3 : Hid (num ((xs.drop 7).take 4) = y3) := hy3
    have HD3 : Hid (Calls Try.prog 25 #[.slice (some ⟨b, o + 7, none⟩) 4 (c - 7)] W3.drew fun e w' => e = .returned (.int .i64 (y3 : Int)) ∧ w' = W3.drew) := by
      rw [← hy3]
      exact dnum_any _ 4 _ _ _ ((HDW.out.drop 7).take 4) (by rw [List.length_take, List.length_drop, HLN.out]; omega) (fun d hd => HU.out d (List.mem_of_mem_drop (List.mem_of_mem_take hd))) (by omega)
    clear hy3
    have HG : Hid (guess 1 xs = some ({ ms0 with kind := 1, dom := (y1 : Int), hold := (y2 : Int), id := (y3 : Int) }, xs)) := by
      show _ = _
      unfold guess readB
      rw [if_neg (by decide), if_pos rfl, if_pos (by rw [HLN.out]; omega), HY1.out, HY2.out, HY3.out]
    go_wp2_with fail
    refine wp_region_held_drew (S := fun _ => True) (by kernel_rfl) trivial (fun hHeld => ?_)
    refine wpAnyH_take (i := 0) (v := ?_) rfl (by kernel_rfl) (by kernel_rfl) (by kernel_rfl) (fun _ _ _ h => h) (Or.inl ⟨by rfl, ?_⟩) (by assumption) ?_
    case refine_2 => intro W hSw; go_simp; try rfl
    try simp only [Act.put, List.getElem_toArray, List.getElem_cons_zero, List.setIfInBounds_toArray, List.set_cons_zero, List.set_cons_succ]
    refine wpAnyH_take (i := 1) (v := .slice (some ⟨b, o + 1, none⟩) 4 (c - 1)) rfl (by kernel_rfl) (by kernel_rfl) (by kernel_rfl) (fun _ _ _ h => h) (Or.inl ⟨by rfl, ?_⟩) (by assumption) ?_
    case refine_1 => intro W hSw; go_simp; try (rw [if_pos (by omega)]); try rfl
    try simp only [Act.put, List.getElem_toArray, List.getElem_cons_zero, List.getElem_cons_succ, List.setIfInBounds_toArray, List.set_cons_zero, List.set_cons_succ]
    refine wpAnyH_take (i := 3) (v := ?_) rfl (by kernel_rfl) (by kernel_rfl) (by kernel_rfl) (fun _ _ _ h => h) (Or.inl ⟨by rfl, ?_⟩) (by assumption) ?_
    case refine_2 => intro W hSw; go_simp; try rfl
    try simp only [Act.put, List.getElem_toArray, List.getElem_cons_zero, List.getElem_cons_succ, List.setIfInBounds_toArray, List.set_cons_zero, List.set_cons_succ]
    refine wpAnyH_take (i := 4) (v := .slice (some ⟨b, o + 5, none⟩) 2 (c - 5)) rfl (by kernel_rfl) (by kernel_rfl) (by kernel_rfl) (fun _ _ _ h => h) (Or.inl ⟨by rfl, ?_⟩) (by assumption) ?_
    case refine_1 => intro W hSw; go_simp; try (rw [if_pos (by omega)]); try rfl
    try simp only [Act.put, List.getElem_toArray, List.getElem_cons_zero, List.getElem_cons_succ, List.setIfInBounds_toArray, List.set_cons_zero, List.set_cons_succ]
    refine wpAnyH_take (i := 6) (v := ?_) rfl (by kernel_rfl) (by kernel_rfl) (by kernel_rfl) (fun _ _ _ h => h) (Or.inl ⟨by rfl, ?_⟩) (by assumption) ?_
    case refine_2 => intro W hSw; go_simp; try rfl
    try simp only [Act.put, List.getElem_toArray, List.getElem_cons_zero, List.getElem_cons_succ, List.setIfInBounds_toArray, List.set_cons_zero, List.set_cons_succ]
    refine wpAnyH_take (i := 7) (v := .slice (some ⟨b, o + 7, none⟩) 4 (c - 7)) rfl (by kernel_rfl) (by kernel_rfl) (by kernel_rfl) (fun _ _ _ h => h) (Or.inl ⟨by rfl, ?_⟩) (by assumption) ?_
    case refine_1 => intro W hSw; go_simp; try (rw [if_pos (by omega)]); try rfl
    try simp only [Act.put, List.getElem_toArray, List.getElem_cons_zero, List.getElem_cons_succ, List.setIfInBounds_toArray, List.set_cons_zero, List.set_cons_succ]
    refine wpAnyH_ready (rs := [2]) (by kernel_rfl) (by simp) ?_
    refine AllReadyH.cons rfl (fun K hK => ?_) AllReadyH.nil
    go_simp
    refine HD1.out.mono ?_
    rintro e w' ⟨rfl, hw'⟩
    rw [hw']
    clear hw' w'
    refine hK.out _ _ trivial (fun hHeld => ?_)
    clear hK K
    try simp only [Act.put, List.getElem_toArray, List.getElem_cons_zero, List.getElem_cons_succ, List.setIfInBounds_toArray, List.set_cons_zero, List.set_cons_succ]
    refine wpAnyH_take (i := 9) (v := ?_) rfl (by kernel_rfl) (by kernel_rfl) (by kernel_rfl) (fun _ _ _ h => h) (Or.inl ⟨by rfl, ?_⟩) (by assumption) ?_
    case refine_2 => intro W hSw; go_simp; try rfl
    try simp only [Act.put, List.getElem_toArray, List.getElem_cons_zero, List.getElem_cons_succ, List.setIfInBounds_toArray, List.set_cons_zero, List.set_cons_succ]
    refine wpAnyH_ready (rs := [5]) (by kernel_rfl) (by simp) ?_
    refine AllReadyH.cons rfl (fun K hK => ?_) AllReadyH.nil
    go_simp
    refine HD2.out.mono ?_
    rintro e w' ⟨rfl, hw'⟩
    rw [hw']
    clear hw' w'
    refine hK.out _ _ trivial (fun hHeld => ?_)
    clear hK K
    try simp only [Act.put, List.getElem_toArray, List.getElem_cons_zero, List.getElem_cons_succ, List.setIfInBounds_toArray, List.set_cons_zero, List.set_cons_succ]
    refine wpAnyH_ready (rs := [8]) (by kernel_rfl) (by simp) ?_
    refine AllReadyH.cons rfl (fun K hK => ?_) AllReadyH.nil
    go_simp
    refine HD3.out.mono ?_
    rintro e w' ⟨rfl, hw'⟩
    rw [hw']
    clear hw' w'
    refine hK.out _ _ trivial (fun hHeld => ?_)
    clear hK K
    try simp only [Act.put, List.getElem_toArray, List.getElem_cons_zero, List.getElem_cons_succ, List.setIfInBounds_toArray, List.set_cons_zero, List.set_cons_succ]
    have HS1 : Hid (GuS w b4 b7 W3.drew { ms0 with kind := 1 } sZ) := HS0.out.bel2 (drew_bel W3)
    obtain ⟨X0, hX0⟩ : ∃ X, W3.drew = X := ⟨_, rfl⟩
    rw [hX0] at HS1 ⊢
    clear HS0 HD1 HD2 HD3 HDW hX0
    refine wpAnyH_ready (rs := [10]) (by kernel_rfl) (by simp) ?_
    refine AllReadyH.cons rfl (fun K hK => ?_) AllReadyH.nil
    have f3 : X0.frozen? ⟨b7, 1, none⟩ = false := HS1.out.m7.fro 1
    have c3 : X0.cell? ⟨b7, 1, none⟩ = some _ := HS1.out.m7.cell 1
    have HS2 : Hid (GuS w b4 b7 (X0.setCell ⟨b7, 1, none⟩ (.int .i64 (y1 : Int))) { ms0 with kind := 1, dom := (y1 : Int) } sZ) := HS1.out.set 1 _ rfl
    go_simp
    refine hK.out _ _ trivial (fun hHeld => ?_)
    clear hK K f3 c3 HS1
    obtain ⟨X1, hX1⟩ : ∃ X, X0.setCell ⟨b7, 1, none⟩ (.int .i64 (y1 : Int)) = X := ⟨_, rfl⟩
    rw [hX1] at HS2 ⊢
    clear hX1
    try simp only [Act.put, List.getElem_toArray, List.getElem_cons_zero, List.getElem_cons_succ]
    refine wpAnyH_take (i := 11) (v := ?_) rfl (by kernel_rfl) (by kernel_rfl) (by kernel_rfl) (fun _ _ _ h => h) (Or.inl ⟨by rfl, ?_⟩) (by assumption) ?_
    case refine_2 => intro W hSw; go_simp; try rfl
    try simp only [Act.put, List.getElem_toArray, List.getElem_cons_zero, List.getElem_cons_succ, List.setIfInBounds_toArray, List.set_cons_zero, List.set_cons_succ]
    refine wpAnyH_ready (rs := [12]) (by kernel_rfl) (by simp) ?_
    refine AllReadyH.cons rfl (fun K hK => ?_) AllReadyH.nil
    have f3 : X1.frozen? ⟨b7, 3, none⟩ = false := HS2.out.m7.fro 3
    have c3 : X1.cell? ⟨b7, 3, none⟩ = some _ := HS2.out.m7.cell 3
    have HS3 : Hid (GuS w b4 b7 (X1.setCell ⟨b7, 3, none⟩ (.int .i64 (y2 : Int))) { ms0 with kind := 1, dom := (y1 : Int), hold := (y2 : Int) } sZ) := HS2.out.set 3 _ rfl
    go_simp
    refine hK.out _ _ trivial (fun hHeld => ?_)
    clear hK K f3 c3 HS2
    obtain ⟨X2, hX2⟩ : ∃ X, X1.setCell ⟨b7, 3, none⟩ (.int .i64 (y2 : Int)) = X := ⟨_, rfl⟩
    rw [hX2] at HS3 ⊢
    clear hX2
    try simp only [Act.put, List.getElem_toArray, List.getElem_cons_zero, List.getElem_cons_succ]
    refine wpAnyH_take (i := 13) (v := ?_) rfl (by kernel_rfl) (by kernel_rfl) (by kernel_rfl) (fun _ _ _ h => h) (Or.inl ⟨by rfl, ?_⟩) (by assumption) ?_
    case refine_2 => intro W hSw; go_simp; try rfl
    try simp only [Act.put, List.getElem_toArray, List.getElem_cons_zero, List.getElem_cons_succ, List.setIfInBounds_toArray, List.set_cons_zero, List.set_cons_succ]
    refine wpAnyH_ready (rs := [14]) (by kernel_rfl) (by simp) ?_
    refine AllReadyH.cons rfl (fun K hK => ?_) AllReadyH.nil
    have f3 : X2.frozen? ⟨b7, 2, none⟩ = false := HS3.out.m7.fro 2
    have c3 : X2.cell? ⟨b7, 2, none⟩ = some _ := HS3.out.m7.cell 2
    have HS4 : Hid (GuS w b4 b7 (X2.setCell ⟨b7, 2, none⟩ (.int .i64 (y3 : Int))) { ms0 with kind := 1, dom := (y1 : Int), hold := (y2 : Int), id := (y3 : Int) } sZ) := HS3.out.set 2 _ rfl
    go_simp
    refine hK.out _ _ trivial (fun hHeld => ?_)
    clear hK K f3 c3 HS3
    obtain ⟨X3, hX3⟩ : ∃ X, X2.setCell ⟨b7, 2, none⟩ (.int .i64 (y3 : Int)) = X := ⟨_, rfl⟩
    rw [hX3] at HS4 ⊢
    clear hX3
    try simp only [Act.put, List.getElem_toArray, List.getElem_cons_zero, List.getElem_cons_succ]
    refine wpAnyH_done (by kernel_rfl) ?_ _
    clear hHeld
    go_wp2_with (first | (refine list_sload MsK rfl _ rfl (b := b7) (cs := msL { ms0 with kind := 1, dom := (y1 : Int), hold := (y2 : Int), id := (y3 : Int) } sZ) rfl HS4.out.m7 rfl ?_) | (refine list_sstore MsK rfl _ _ rfl (b := b4) (cs := msL ms0 sZ) (cs' := msL { ms0 with kind := 1, dom := (y1 : Int), hold := (y2 : Int), id := (y3 : Int) } sZ) rfl rfl HS4.out.m4 rfl rfl rfl ?_))
    intro W5 hm5 hk5
    have HQ5 := gu_some (c := c) HS4.out hk5.out HG.out HL.out HLN.out rfl rfl rfl
    clear hk5 HS4
    go_wp2_with fail
    exact bodyPost_ret (gu_res hm5.out rfl rfl rfl) rfl HQ5
end Go.Proofs.Ytghlgkpfcpcopaa.Pv
namespace Go.Proofs.Ytghlgkpfcpcopaa.Ge
open Go.ChangeShapes Go.WideShapes Go.ChangeAt Go.RowKit Go.Joins Go.Deep
set_option linter.unusedVariables false

/-- a list is appended, in a region that draws -/
theorem step_appL {α : Type} {o : Oper} {a : Act} {Q : Exit → Act → World → Prop} {K : Act → World → Prop} {c : Bool} {E0 : Prop} (E : El α) (s x : Operand) (t : TypeId) (htt : t = E.t)
    (ho : o.op = .call { callee := .builtin .append, args := #[s, x], argTypes := #[t, t] }) (N : Nat) (v : Value) (xs ys : List α) (va : Option Addr) (n cap : Nat) (W : World) (hbig : xs.length + n ≤ 1099511627775) (hs : a.eval s = v) (hown : OwnL E N W v xs)
    (hx : a.eval x = .slice va n cap) (hsrc : Lst E W va ys) (hnil : va = none → n = 0 ∧ cap = 0) (hn : ys.length = n) (hN : N ≤ W.heap.size) (hc : c = true)
    (h : ∀ v' w', Hid (OwnL E N w' v' (xs ++ ys)) → Hid (W.grownBy w' v.ownBlock) → Hid (v'.ownBlock = v.ownBlock ∨ v'.ownBlock = some W.heap.size) → K (a.put o.dst v') w') :
    if c = true then Oper.wp Try.prog o a W K Q else E0 := by
  subst htt
  rw [if_pos hc]
  obtain ⟨i0, hi, hz0, hz1, hz2⟩ := info_of E.hi
  cases va with
  | none =>
    obtain ⟨rfl, rfl⟩ := hnil rfl
    have e0 : ys = [] := List.length_eq_zero_iff.1 hn
    subst e0
    have hr := run_append_owned_none (P := Try.prog) W N E.t o.type E.e i0 E.k E.ht hi v xs.length (E.cs xs) hown.row
    unfold Oper.wp execOp
    simp only [ho, resolve, invoke, builtin, Sem.run_bind, Sem.run_pure, Result.andThen_ok, List.map_toArray, List.map_cons, List.map_nil, hs, hx, hr]
    exact h v W (by rw [List.append_nil]; exact hown) ⟨rfl, rfl, rfl, Nat.le_refl _, fun _ _ _ => rfl⟩ (Or.inl rfl)
  | some ad =>
    obtain ⟨v', w', hr, h2, h3, h4, h5⟩ := run_append_own_at (P := Try.prog) W N E.t o.type E.e i0 E.z E.k E.bytes E.ht hi hz0 hz1 hz2 E.hz E.hk v xs.length (E.cs xs) hown.row ad n cap (E.cs ys) (by rw [cs_len, hn]) (by
      intro j u hj
      have hlt : j < ys.length * E.k := by
        have := (List.getElem?_eq_some_iff.1 hj).1
        rw [cs_len] at this; exact this
      have hk := E.hk
      have hq : j / E.k < ys.length := (Nat.div_lt_iff_lt_mul hk).2 hlt
      have hr : j % E.k < E.k := Nat.mod_lt _ hk
      have hdm : j / E.k * E.k + j % E.k = j := by rw [Nat.mul_comm]; exact Nat.div_add_mod j E.k
      obtain ⟨b, o', e, -, hc⟩ := hsrc.cells (j / E.k) hq
      cases e
      rw [Addr.add_lit]
      have h2 := hc (j % E.k) hr
      rw [Nat.add_assoc, hdm] at h2
      rw [h2, ← cs_at E ys (j / E.k) hq (j % E.k) hr, hdm]
      exact hj) (cs_one E _) (by unfold maxLen; omega) (Nat.le_trans (Nat.mul_le_mul_left _ E.hb) (by omega)) hN
    unfold Oper.wp execOp
    simp only [ho, resolve, invoke, builtin, Sem.run_bind, Sem.run_pure, Result.andThen_ok, List.map_toArray, List.map_cons, List.map_nil, hs, hx, hr]
    exact h v' w' ⟨by rw [cs_app, List.length_append, hn]; exact h2⟩ h3 h5
/-- a part of a slice of bytes -/
theorem slice8_run {o : Oper} {ρ : Operand → Value} {W : World} (x lo hi : Operand) (ho : o.op = .slice 22 x (some lo) (some hi) none) {b f n c l h : Nat} (hx : ρ x = .slice (some ⟨b, f, none⟩) n c) (hl : ρ lo = .int .i64 (l : Int)) (hh : ρ hi = .int .i64 (h : Int)) (h1 : l ≤ h) (h2 : h ≤ c) :
    (execOp ρ o).run Try.prog W = .ok (.value (.slice (if c = l then some ⟨b, f, none⟩ else some ⟨b, f + l, none⟩) (h - l) (c - l))) W := by
  have g1 : (h : Int) ≤ (c : Int) := by omega
  have g2 : (l : Int) ≤ (h : Int) := by omega
  unfold execOp
  rw [ho]
  simp [go_sem, hx, hl, hh, g1, g2]
theorem slice8n_run {o : Oper} {ρ : Operand → Value} {W : World} (x lo : Operand) (ho : o.op = .slice 22 x (some lo) none none) {b f n c l : Nat} (hx : ρ x = .slice (some ⟨b, f, none⟩) n c) (hl : ρ lo = .int .i64 (l : Int)) (h1 : l ≤ n) (h2 : n ≤ c) :
    (execOp ρ o).run Try.prog W = .ok (.value (.slice (if c = l then some ⟨b, f, none⟩ else some ⟨b, f + l, none⟩) (n - l) (c - l))) W := by
  have g2 : (l : Int) ≤ (n : Int) := by omega
  unfold execOp
  rw [ho]
  simp [go_sem, hx, hl, g2]
theorem list_slice8 {ops : Array Oper} {rest : List Oper} {o : Oper} {ac : Act} {Q : Exit → Act → World → Prop} {W : World} (hgd : o.guard = none) (x lo hi : Operand) (ho : o.op = .slice 22 x (some lo) (some hi) none) {b f n c l h : Nat} (hx : ac.eval x = .slice (some ⟨b, f, none⟩) n c) (hl : ac.eval lo = .int .i64 (l : Int)) (hh : ac.eval hi = .int .i64 (h : Int)) (h1 : l ≤ h) (h2 : h ≤ c)
    (k : ∀ va : Option Addr, Hid (¬ c = l → va = some ⟨b, f + l, none⟩) → Hid (va ≠ none) → wpList Try.prog ops Q rest (ac.put o.dst (.slice va (h - l) (c - l))) W) : wpList Try.prog ops Q (o :: rest) ac W := by
  refine wpList_plain hgd fun K hK => ?_
  unfold Oper.wp
  rw [slice8_run x lo hi ho hx hl hh h1 h2]
  exact hK _ _ (k _ (fun e => if_neg e) (by show _ ≠ _; split <;> simp))
theorem list_slice8n {ops : Array Oper} {rest : List Oper} {o : Oper} {ac : Act} {Q : Exit → Act → World → Prop} {W : World} (hgd : o.guard = none) (x lo : Operand) (ho : o.op = .slice 22 x (some lo) none none) {b f n c l : Nat} (hx : ac.eval x = .slice (some ⟨b, f, none⟩) n c) (hl : ac.eval lo = .int .i64 (l : Int)) (h1 : l ≤ n) (h2 : n ≤ c)
    (k : ∀ va : Option Addr, Hid (¬ c = l → va = some ⟨b, f + l, none⟩) → Hid (va ≠ none) → wpList Try.prog ops Q rest (ac.put o.dst (.slice va (n - l) (c - l))) W) : wpList Try.prog ops Q (o :: rest) ac W := by
  refine wpList_plain hgd fun K hK => ?_
  unfold Oper.wp
  rw [slice8n_run x lo ho hx hl h1 h2]
  exact hK _ _ (k _ (fun e => if_neg e) (by show _ ≠ _; split <;> simp))
end Go.Proofs.Ytghlgkpfcpcopaa.Ge
