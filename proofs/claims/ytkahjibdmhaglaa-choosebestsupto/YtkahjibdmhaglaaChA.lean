/- Offers in memory; what the steps look at. -/
import Derived.Test.YtkahjibdmhaglaaGeB
import Derived.Test.YtkahjibdmhaglaaGeX
import Derived.Test.YtkahjibdmhaglaaGeM
import Derived.Lib.QuietBelow
import Derived.Deep.RegionHeld3
import Derived.StillTailTactics
namespace Go.Proofs.Ytkahjibdmhaglaa.Ch
open Go.ChangeShapes Go.WideShapes Go.ChangeAt Go.RowKit Go.Joins Go.Deep Go.Proofs.Ytkahjibdmhaglaa.Ge
set_option linter.unusedVariables false
set_option linter.unusedSimpArgs false

/-- an offer, and where its lists lie -/
structure Of where
  pa : Int
  pn : Int
  path : List Int
  org : Int
  pref : Int
  med : Int
  next : Int
  marks : List Int
  clus : List Int
  auth : Int
  peer : Int
  inner : Bool
  cost : Int
structure Oa where
  p : Option Addr
  pc : Nat
  m : Option Addr
  mc : Nat
  c : Option Addr
  cc : Nat
def ofL (x : Of) (s : Oa) : List Value := [.int .u32 x.pa, .int .i64 x.pn, .slice s.p x.path.length s.pc, .int .i64 x.org, .int .i64 x.pref, .int .i64 x.med, .int .u32 x.next, .slice s.m x.marks.length s.mc, .slice s.c x.clus.length s.cc, .int .i64 x.auth, .int .i64 x.peer, .bool x.inner, .int .i64 x.cost]
def OfK : Sk := ⟨35, 13, _, Try.underlying35, rfl, by kernel_rfl⟩
def EO : Gm.El (Of × Oa) := ⟨35, 22, 13, 152, .agg #[.int .u32 0, .int .i64 0, .slice none 0 0, .int .i64 0, .int .i64 0, .int .i64 0, .int .u32 0, .slice none 0 0, .slice none 0 0, .int .i64 0, .int .i64 0, .bool false, .int .i64 0], fun q => ofL q.1 q.2, by decide, by decide, fun _ => rfl, fun x u hu => by simp [ofL] at hu; rcases hu with rfl | rfl | rfl | rfl | rfl | rfl | rfl | rfl | rfl | rfl | rfl | rfl | rfl <;> rfl, Try.underlying22, by kernel_rfl, rfl⟩
def EI : El Int := ⟨3, 24, 1, 8, .int .i64 0, fun x => [.int .i64 x], by decide, by decide, fun _ => rfl, fun x u hu => by simp at hu; subst hu; rfl, Try.underlying24, by kernel_rfl, rfl⟩
/-- an offer's cells -/
def OfAt (w : World) (b k : Nat) (x : Of) (s : Oa) : Prop := ∀ j, j < 13 → w.cell? ⟨b, k + j, none⟩ = (ofL x s)[j]?
theorem OfAt.bel {w w' : World} {b k : Nat} {x : Of} {s : Oa} (h : OfAt w b k x s) (hb : Below w.heap.size w w') : OfAt w' b k x s := fun j hj => by
  have hl : b < w.heap.size := by
    have h1 := h j hj
    have h2 : j < (ofL x s).length := hj
    rw [List.getElem?_eq_getElem h2] at h1
    exact World.block_lt_of_cell? w _ h1
  exact (World.cell?_of_block (w := w) (hb.block b hl)).trans (h j hj)
/-- a list of offers that can be read, wherever all below N stays -/
structure Ofs (N : Nat) (w : World) (a : Option Addr) (xs : List (Of × Oa)) : Prop where
  rd : ∀ W, Below N w W → Gm.Lst EO W a xs ∧ ∀ q ∈ xs, Lst EI W q.2.p q.1.path
theorem Ofs.bel {N : Nat} {w w' : World} {a : Option Addr} {xs : List (Of × Oa)} (h : Ofs N w a xs) (hb : Below N w w') : Ofs N w' a xs := ⟨fun W hW => h.rd W (hb.trans hW)⟩
theorem Ofs.mono {N N' : Nat} {w : World} {a : Option Addr} {xs : List (Of × Oa)} (h : Ofs N w a xs) (hN : N ≤ N') : Ofs N' w a xs := ⟨fun W hW => h.rd W (hW.mono hN)⟩
theorem Ofs.at {N : Nat} {w : World} {a : Option Addr} {xs : List (Of × Oa)} (h : Ofs N w a xs) (i : Nat) (hi : i < xs.length) : ∃ b o, a = some ⟨b, o, none⟩ ∧ OfAt w b (o + i * 13) xs[i].1 xs[i].2 := by
  obtain ⟨b, o, e, hl, hc⟩ := (h.rd w (Below.refl _ _)).1.cells i hi
  exact ⟨b, o, e, fun j hj => hc j hj⟩
def cmp3 (x y : Int) : Int := if x < y then -1 else if y < x then 1 else 0
theorem nan_any (x : Int) (w : World) : Calls Try.prog 57 #[.int .i64 x] w fun e w' => e = .returned (.bool false) ∧ w' = w := by
  go_enter Try.func57, Try.ntmps57
  go_wp2_with fail
  go_ret
  exact ⟨rfl, rfl⟩
theorem cmp_any (x y : Int) (w : World) : Calls Try.prog 39 #[.int .i64 x, .int .i64 y] w fun e w' => e = .returned (.int .i64 (cmp3 x y)) ∧ w' = w := by
  obtain ⟨z, hz⟩ : ∃ z, cmp3 x y = z := ⟨_, rfl⟩
  rw [hz]
  have HZ : Hid (cmp3 x y = z) := hz
  clear hz
  go_enter Try.func39, Try.ntmps39
  go_wp2_with fail
  refine (nan_any x w).mono ?_
  rintro e w1 ⟨rfl, hw⟩
  rw [hw]
  clear hw w1
  go_wp2_with fail
  refine (nan_any y w).mono ?_
  rintro e w1 ⟨rfl, hw⟩
  rw [hw]
  clear hw w1
  by_cases h1 : x < y
  · have HE : Hid (z = -1) := by show _ = _; rw [← HZ.out]; unfold cmp3; rw [if_pos h1]
    go_wp2_with fail
    go_ret
    exact ⟨by rw [HE.out]; try rfl, rfl⟩
  · by_cases h2 : y < x
    · have HE : Hid (z = 1) := by show _ = _; rw [← HZ.out]; unfold cmp3; rw [if_neg h1, if_pos h2]
      go_wp2_with fail
      go_ret
      exact ⟨by rw [HE.out]; try rfl, rfl⟩
    · have HE : Hid (z = 0) := by show _ = _; rw [← HZ.out]; unfold cmp3; rw [if_neg h1, if_neg h2]
      go_wp2_with fail
      go_ret
      exact ⟨by rw [HE.out]; try rfl, rfl⟩
theorem inner_any (b k : Nat) (x : Of) (s : Oa) (w : World) (h : OfAt w b k x s) : Calls Try.prog 44 #[.pointer (some ⟨b, k, none⟩)] w fun e w' => e = .returned (.int .i64 (if x.inner = true then 1 else 0)) ∧ w' = w := by
  have c : w.cell? ⟨b, k + 11, none⟩ = some (.bool x.inner) := h 11 (by decide)
  obtain ⟨t, ht⟩ : ∃ y, x.inner = y := ⟨_, rfl⟩
  rw [ht] at c ⊢
  clear ht h
  go_enter Try.func44, Try.ntmps44
  cases t
  · go_wp2_with fail
    go_ret
    exact ⟨rfl, rfl⟩
  · go_wp2_with fail
    go_ret
    exact ⟨rfl, rfl⟩
def nbP (x : Of) : Int := x.path.headD 0
theorem nb_any (b k : Nat) (x : Of) (s : Oa) (w : World) (h : OfAt w b k x s) (hp : Lst EI w s.p x.path) : Calls Try.prog 52 #[.pointer (some ⟨b, k, none⟩)] w fun e w' => e = .returned (.int .i64 (nbP x)) ∧ w' = w := by
  have c : w.cell? ⟨b, k + 2, none⟩ = some (.slice s.p x.path.length s.pc) := h 2 (by decide)
  obtain ⟨z, hz⟩ : ∃ z, nbP x = z := ⟨_, rfl⟩
  rw [hz]
  unfold nbP at hz
  obtain ⟨pa, hpa⟩ : ∃ y, s.p = y := ⟨_, rfl⟩
  obtain ⟨pc, hpc⟩ : ∃ y, s.pc = y := ⟨_, rfl⟩
  rw [hpa, hpc] at c
  rw [hpa] at hp
  obtain ⟨pl, hpl⟩ : ∃ y, x.path = y := ⟨_, rfl⟩
  rw [hpl] at c hp hz
  clear h hpa hpc hpl
  have HZ : Hid (pl.headD 0 = z) := hz
  clear hz
  cases pl with
  | nil =>
    have HE : Hid (0 = z) := HZ.out
    go_enter Try.func52, Try.ntmps52
    go_wp2_with fail
    go_ret
    exact ⟨by rw [← HE.out]; try rfl, rfl⟩
  | cons y ys =>
    have HE : Hid (y = z) := HZ.out
    obtain ⟨gb, gf, rfl, hl, hc⟩ := hp.cells 0 (by simp)
    have k0 : w.cell? ⟨gb, gf, none⟩ = some (.int .i64 y) := hc 0 (by decide)
    have hsm := hp.small
    obtain ⟨m, hm⟩ : ∃ m, (y :: ys).length = m := ⟨_, rfl⟩
    rw [hm] at c hsm
    have hm0 : ¬ (m : Int) = 0 := by rw [← hm]; simp; omega
    have hmb : ((m : Int) == 0) = false := by simpa using hm0
    have hm1 : (0 : Int) < (m : Int) := by omega
    clear hm hc hp hl HZ
    go_enter Try.func52, Try.ntmps52
    go_wp2_with fail
    go_ret
    exact ⟨by rw [← HE.out]; try rfl, rfl⟩
/-- what a step looks at: the less the better -/
def key : Nat → Of → Int
  | 0, x => - x.pref
  | 1, x => x.path.length
  | 2, x => x.org
  | 3, x => if x.inner = true then 1 else 0
  | 4, x => x.cost
  | 5, x => x.clus.length
  | 6, x => x.auth
  | _, x => x.peer
def stp (k : Nat) (x y : Of) : Int := cmp3 (key k x) (key k y)
theorem stp0 (x y : Of) : stp 0 x y = cmp3 y.pref x.pref := by
  unfold stp cmp3 key
  simp only [Int.neg_lt_neg_iff]
theorem dn_bel (w : World) (q : Nat) : Below w.heap.size w (w.drewN q) := ⟨rfl, rfl, rfl, Nat.le_refl _, fun _ _ => rfl⟩
set_option maxRecDepth 100000 in
set_option maxHeartbeats 4000000 in
theorem st0_any (b k1 k2 : Nat) (x y : Of) (s t : Oa) (w : World) (h1 : OfAt w b k1 x s) (h2 : OfAt w b k2 y t) : Calls Try.prog 38 #[.pointer (some ⟨b, k1, none⟩), .pointer (some ⟨b, k2, none⟩)] w fun e w' => e = .returned (.int .i64 (stp 0 x y)) ∧ ∃ q, w' = w.drewN q := by
  have ck1 : w.cell? ⟨b, k1 + 4, none⟩ = some (.int .i64 x.pref) := h1 4 (by decide)
  have ck2 : w.cell? ⟨b, k2 + 4, none⟩ = some (.int .i64 y.pref) := h2 4 (by decide)
  obtain ⟨u, hu⟩ : ∃ q, x.pref = q := ⟨_, rfl⟩
  obtain ⟨v, hv⟩ : ∃ q, y.pref = q := ⟨_, rfl⟩
  have HC : Hid (stp 0 x y = cmp3 v u) := by rw [← hu, ← hv]; exact stp0 x y
  rw [hu] at ck1
  rw [hv] at ck2
  clear hu hv
  obtain ⟨z, hz⟩ : ∃ z, stp 0 x y = z := ⟨_, rfl⟩
  rw [hz] at HC ⊢
  clear hz h1 h2
  go_enter Try.func38, Try.ntmps38
  go_wp2_with fail
  go_quiet ((go_at_call 39; exact Calls.quiet_of_same (cmp_any _ _ _)))
  go_wp2_with fail
  go_ret
  exact ⟨by rw [HC.out]; try rfl, _, rfl⟩
set_option maxRecDepth 100000 in
set_option maxHeartbeats 4000000 in
theorem st1_any (b k1 k2 : Nat) (x y : Of) (s t : Oa) (w : World) (h1 : OfAt w b k1 x s) (h2 : OfAt w b k2 y t) : Calls Try.prog 40 #[.pointer (some ⟨b, k1, none⟩), .pointer (some ⟨b, k2, none⟩)] w fun e w' => e = .returned (.int .i64 (stp 1 x y)) ∧ ∃ q, w' = w.drewN q := by
  have ck1 : w.cell? ⟨b, k1 + 2, none⟩ = some (.slice s.p x.path.length s.pc) := h1 2 (by decide)
  have ck2 : w.cell? ⟨b, k2 + 2, none⟩ = some (.slice t.p y.path.length t.pc) := h2 2 (by decide)
  obtain ⟨sp, hsp⟩ : ∃ q, s.p = q := ⟨_, rfl⟩
  obtain ⟨tp, htp⟩ : ∃ q, t.p = q := ⟨_, rfl⟩
  obtain ⟨sc, hsc⟩ : ∃ q, s.pc = q := ⟨_, rfl⟩
  obtain ⟨tc, htc⟩ : ∃ q, t.pc = q := ⟨_, rfl⟩
  obtain ⟨u, hu⟩ : ∃ q, x.path.length = q := ⟨_, rfl⟩
  obtain ⟨v, hv⟩ : ∃ q, y.path.length = q := ⟨_, rfl⟩
  have HC : Hid (stp 1 x y = cmp3 (u : Int) (v : Int)) := by rw [← hu, ← hv]; rfl
  rw [hsp, hsc, hu] at ck1
  rw [htp, htc, hv] at ck2
  clear hsp htp hsc htc hu hv
  obtain ⟨z, hz⟩ : ∃ z, stp 1 x y = z := ⟨_, rfl⟩
  rw [hz] at HC ⊢
  clear hz h1 h2
  go_enter Try.func40, Try.ntmps40
  go_wp2_with fail
  go_quiet ((go_at_call 39; exact Calls.quiet_of_same (cmp_any _ _ _)))
  go_wp2_with fail
  go_ret
  exact ⟨by rw [HC.out]; try rfl, _, rfl⟩
set_option maxRecDepth 100000 in
set_option maxHeartbeats 4000000 in
theorem st2_any (b k1 k2 : Nat) (x y : Of) (s t : Oa) (w : World) (h1 : OfAt w b k1 x s) (h2 : OfAt w b k2 y t) : Calls Try.prog 41 #[.pointer (some ⟨b, k1, none⟩), .pointer (some ⟨b, k2, none⟩)] w fun e w' => e = .returned (.int .i64 (stp 2 x y)) ∧ ∃ q, w' = w.drewN q := by
  have ck1 : w.cell? ⟨b, k1 + 3, none⟩ = some (.int .i64 x.org) := h1 3 (by decide)
  have ck2 : w.cell? ⟨b, k2 + 3, none⟩ = some (.int .i64 y.org) := h2 3 (by decide)
  obtain ⟨u, hu⟩ : ∃ q, x.org = q := ⟨_, rfl⟩
  obtain ⟨v, hv⟩ : ∃ q, y.org = q := ⟨_, rfl⟩
  have HC : Hid (stp 2 x y = cmp3 u v) := by rw [← hu, ← hv]; rfl
  rw [hu] at ck1
  rw [hv] at ck2
  clear hu hv
  obtain ⟨z, hz⟩ : ∃ z, stp 2 x y = z := ⟨_, rfl⟩
  rw [hz] at HC ⊢
  clear hz h1 h2
  go_enter Try.func41, Try.ntmps41
  go_wp2_with fail
  go_quiet ((go_at_call 39; exact Calls.quiet_of_same (cmp_any _ _ _)))
  go_wp2_with fail
  go_ret
  exact ⟨by rw [HC.out]; try rfl, _, rfl⟩
set_option maxRecDepth 100000 in
set_option maxHeartbeats 4000000 in
theorem st3_any (b k1 k2 : Nat) (x y : Of) (s t : Oa) (w : World) (h1 : OfAt w b k1 x s) (h2 : OfAt w b k2 y t) : Calls Try.prog 43 #[.pointer (some ⟨b, k1, none⟩), .pointer (some ⟨b, k2, none⟩)] w fun e w' => e = .returned (.int .i64 (stp 3 x y)) ∧ ∃ q, w' = w.drewN q := by
  have HC : Hid (stp 3 x y = cmp3 (if x.inner = true then 1 else 0) (if y.inner = true then 1 else 0)) := rfl
  have H1 : Hid (OfAt w b k1 x s) := h1
  have H2 : Hid (OfAt w b k2 y t) := h2
  obtain ⟨z, hz⟩ : ∃ z, stp 3 x y = z := ⟨_, rfl⟩
  rw [hz] at HC ⊢
  obtain ⟨u, hu⟩ : ∃ u : Int, (if x.inner = true then 1 else 0) = u := ⟨_, rfl⟩
  obtain ⟨v, hv⟩ : ∃ u : Int, (if y.inner = true then 1 else 0) = u := ⟨_, rfl⟩
  have HI1 := inner_any b k1 x s w H1.out
  have HI2 := inner_any b k2 y t w H2.out
  rw [hu] at HC HI1
  rw [hv] at HC HI2
  clear hz hu hv h1 h2
  go_enter Try.func43, Try.ntmps43
  go_wp2_with fail
  refine HI1.mono ?_
  rintro e w1 ⟨rfl, hw⟩
  rw [hw]
  clear hw w1 HI1
  go_wp2_with fail
  refine HI2.mono ?_
  rintro e w1 ⟨rfl, hw⟩
  rw [hw]
  clear hw w1 HI2
  go_wp2_with fail
  refine (cmp_any u v w).mono ?_
  rintro e w1 ⟨rfl, hw⟩
  rw [hw]
  clear hw w1
  go_wp2_with fail
  go_ret
  exact ⟨by rw [HC.out]; try rfl, 0, rfl⟩
set_option maxRecDepth 100000 in
set_option maxHeartbeats 4000000 in
theorem st4_any (b k1 k2 : Nat) (x y : Of) (s t : Oa) (w : World) (h1 : OfAt w b k1 x s) (h2 : OfAt w b k2 y t) : Calls Try.prog 45 #[.pointer (some ⟨b, k1, none⟩), .pointer (some ⟨b, k2, none⟩)] w fun e w' => e = .returned (.int .i64 (stp 4 x y)) ∧ ∃ q, w' = w.drewN q := by
  have ck1 : w.cell? ⟨b, k1 + 12, none⟩ = some (.int .i64 x.cost) := h1 12 (by decide)
  have ck2 : w.cell? ⟨b, k2 + 12, none⟩ = some (.int .i64 y.cost) := h2 12 (by decide)
  obtain ⟨u, hu⟩ : ∃ q, x.cost = q := ⟨_, rfl⟩
  obtain ⟨v, hv⟩ : ∃ q, y.cost = q := ⟨_, rfl⟩
  have HC : Hid (stp 4 x y = cmp3 u v) := by rw [← hu, ← hv]; rfl
  rw [hu] at ck1
  rw [hv] at ck2
  clear hu hv
  obtain ⟨z, hz⟩ : ∃ z, stp 4 x y = z := ⟨_, rfl⟩
  rw [hz] at HC ⊢
  clear hz h1 h2
  go_enter Try.func45, Try.ntmps45
  go_wp2_with fail
  go_quiet ((go_at_call 39; exact Calls.quiet_of_same (cmp_any _ _ _)))
  go_wp2_with fail
  go_ret
  exact ⟨by rw [HC.out]; try rfl, _, rfl⟩
set_option maxRecDepth 100000 in
set_option maxHeartbeats 4000000 in
theorem st5_any (b k1 k2 : Nat) (x y : Of) (s t : Oa) (w : World) (h1 : OfAt w b k1 x s) (h2 : OfAt w b k2 y t) : Calls Try.prog 46 #[.pointer (some ⟨b, k1, none⟩), .pointer (some ⟨b, k2, none⟩)] w fun e w' => e = .returned (.int .i64 (stp 5 x y)) ∧ ∃ q, w' = w.drewN q := by
  have ck1 : w.cell? ⟨b, k1 + 8, none⟩ = some (.slice s.c x.clus.length s.cc) := h1 8 (by decide)
  have ck2 : w.cell? ⟨b, k2 + 8, none⟩ = some (.slice t.c y.clus.length t.cc) := h2 8 (by decide)
  obtain ⟨sp, hsp⟩ : ∃ q, s.c = q := ⟨_, rfl⟩
  obtain ⟨tp, htp⟩ : ∃ q, t.c = q := ⟨_, rfl⟩
  obtain ⟨sc, hsc⟩ : ∃ q, s.cc = q := ⟨_, rfl⟩
  obtain ⟨tc, htc⟩ : ∃ q, t.cc = q := ⟨_, rfl⟩
  obtain ⟨u, hu⟩ : ∃ q, x.clus.length = q := ⟨_, rfl⟩
  obtain ⟨v, hv⟩ : ∃ q, y.clus.length = q := ⟨_, rfl⟩
  have HC : Hid (stp 5 x y = cmp3 (u : Int) (v : Int)) := by rw [← hu, ← hv]; rfl
  rw [hsp, hsc, hu] at ck1
  rw [htp, htc, hv] at ck2
  clear hsp htp hsc htc hu hv
  obtain ⟨z, hz⟩ : ∃ z, stp 5 x y = z := ⟨_, rfl⟩
  rw [hz] at HC ⊢
  clear hz h1 h2
  go_enter Try.func46, Try.ntmps46
  go_wp2_with fail
  go_quiet ((go_at_call 39; exact Calls.quiet_of_same (cmp_any _ _ _)))
  go_wp2_with fail
  go_ret
  exact ⟨by rw [HC.out]; try rfl, _, rfl⟩
set_option maxRecDepth 100000 in
set_option maxHeartbeats 4000000 in
theorem st6_any (b k1 k2 : Nat) (x y : Of) (s t : Oa) (w : World) (h1 : OfAt w b k1 x s) (h2 : OfAt w b k2 y t) : Calls Try.prog 47 #[.pointer (some ⟨b, k1, none⟩), .pointer (some ⟨b, k2, none⟩)] w fun e w' => e = .returned (.int .i64 (stp 6 x y)) ∧ ∃ q, w' = w.drewN q := by
  have ck1 : w.cell? ⟨b, k1 + 9, none⟩ = some (.int .i64 x.auth) := h1 9 (by decide)
  have ck2 : w.cell? ⟨b, k2 + 9, none⟩ = some (.int .i64 y.auth) := h2 9 (by decide)
  obtain ⟨u, hu⟩ : ∃ q, x.auth = q := ⟨_, rfl⟩
  obtain ⟨v, hv⟩ : ∃ q, y.auth = q := ⟨_, rfl⟩
  have HC : Hid (stp 6 x y = cmp3 u v) := by rw [← hu, ← hv]; rfl
  rw [hu] at ck1
  rw [hv] at ck2
  clear hu hv
  obtain ⟨z, hz⟩ : ∃ z, stp 6 x y = z := ⟨_, rfl⟩
  rw [hz] at HC ⊢
  clear hz h1 h2
  go_enter Try.func47, Try.ntmps47
  go_wp2_with fail
  go_quiet ((go_at_call 39; exact Calls.quiet_of_same (cmp_any _ _ _)))
  go_wp2_with fail
  go_ret
  exact ⟨by rw [HC.out]; try rfl, _, rfl⟩
set_option maxRecDepth 100000 in
set_option maxHeartbeats 4000000 in
theorem st7_any (b k1 k2 : Nat) (x y : Of) (s t : Oa) (w : World) (h1 : OfAt w b k1 x s) (h2 : OfAt w b k2 y t) : Calls Try.prog 48 #[.pointer (some ⟨b, k1, none⟩), .pointer (some ⟨b, k2, none⟩)] w fun e w' => e = .returned (.int .i64 (stp 7 x y)) ∧ ∃ q, w' = w.drewN q := by
  have ck1 : w.cell? ⟨b, k1 + 10, none⟩ = some (.int .i64 x.peer) := h1 10 (by decide)
  have ck2 : w.cell? ⟨b, k2 + 10, none⟩ = some (.int .i64 y.peer) := h2 10 (by decide)
  obtain ⟨u, hu⟩ : ∃ q, x.peer = q := ⟨_, rfl⟩
  obtain ⟨v, hv⟩ : ∃ q, y.peer = q := ⟨_, rfl⟩
  have HC : Hid (stp 7 x y = cmp3 u v) := by rw [← hu, ← hv]; rfl
  rw [hu] at ck1
  rw [hv] at ck2
  clear hu hv
  obtain ⟨z, hz⟩ : ∃ z, stp 7 x y = z := ⟨_, rfl⟩
  rw [hz] at HC ⊢
  clear hz h1 h2
  go_enter Try.func48, Try.ntmps48
  go_wp2_with fail
  go_quiet ((go_at_call 39; exact Calls.quiet_of_same (cmp_any _ _ _)))
  go_wp2_with fail
  go_ret
  exact ⟨by rw [HC.out]; try rfl, _, rfl⟩
end Go.Proofs.Ytkahjibdmhaglaa.Ch
