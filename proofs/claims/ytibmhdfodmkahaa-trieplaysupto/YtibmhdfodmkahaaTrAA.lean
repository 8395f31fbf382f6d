/- Under: what the iterator gives. -/
import Derived.Test.YtibmhdfodmkahaaTrZ
namespace Go.Proofs.Ytibmhdfodmkahaa.Tri
open Go.ChangeShapes Go.WideShapes Go.ChangeAt Go.RowKit Go.Shelf Go.Proofs.Ytibmhdfodmkahaa.PM Go.Proofs.Ytibmhdfodmkahaa.TrM Go.Proofs.Ytibmhdfodmkahaa.Ask
set_option linter.unusedVariables false
attribute [local go_sem] Oper.semAt_some

/-- what Under gives for the prefix (a, n) -/
def und : Tr → Int → Int → List (Int × Int × Int)
  | .nil, _, _ => []
  | .node b m u h l r, a, n =>
    if b = a ∧ m = n then allT (.node b m u h l r)
    else if cov b m a n = true then (if sdI a m = 0 then und l a n else und r a n)
    else if cov a n b m = true then allT (.node b m u h l r) else []
/-- two prefixes that are not the same -/
def Other (b m x k : Int) : Prop := ¬ (b = x ∧ m = k)
theorem Other.out {b m x k : Int} (h : Other b m x k) : ¬ (b = x ∧ m = k) := h
theorem und_at {b m u : Int} {h : Bool} {l r : Tr} : und (.node b m u h l r) b m = allT (.node b m u h l r) := by unfold und; rw [if_pos ⟨rfl, rfl⟩]
theorem und_l {b m u a n : Int} {h : Bool} {l r : Tr} (e : ¬ (b = a ∧ m = n)) (hc : cov b m a n = true) (hs : sdI a m = 0) : und (.node b m u h l r) a n = und l a n := by
  conv => lhs; unfold und
  rw [if_neg e, if_pos hc, if_pos hs]
theorem und_r {b m u a n : Int} {h : Bool} {l r : Tr} (e : ¬ (b = a ∧ m = n)) (hc : cov b m a n = true) (hs : sdI a m = 1) : und (.node b m u h l r) a n = und r a n := by
  conv => lhs; unfold und
  rw [if_neg e, if_pos hc, if_neg (by omega)]
theorem und_in {b m u a n : Int} {h : Bool} {l r : Tr} (e : ¬ (b = a ∧ m = n)) (hc : cov b m a n = false) (hc2 : cov a n b m = true) : und (.node b m u h l r) a n = allT (.node b m u h l r) := by
  unfold und; rw [if_neg e, if_neg (by simp [hc]), if_pos hc2]
theorem und_no {b m u a n : Int} {h : Bool} {l r : Tr} (e : ¬ (b = a ∧ m = n)) (hc : cov b m a n = false) (hc2 : cov a n b m = false) : und (.node b m u h l r) a n = [] := by
  unfold und; rw [if_neg e, if_neg (by simp [hc]), if_neg (by simp [hc2])]
theorem cov_self {b m : Int} (h : vld b m = true) : cov b m b m = true := by
  have h1 := (vld_iff b m).1 h
  have := psz_pos m
  exact (cov_iff b m b m).2 ⟨h1, by omega, h1, by omega, by omega⟩
theorem und_all {t : Tr} (hw : WF t) : und t 0 0 = allT t := by
  cases t with
  | nil => rfl
  | node b m u h l r =>
    by_cases e : b = 0 ∧ m = 0
    · obtain ⟨rfl, rfl⟩ := e; exact und_at
    · have hv := (vld_iff b m).1 hw.1
      have hb := hw.2.1
      have h1 : cov b m 0 0 = false := by
        cases hc : cov b m 0 0 with
        | false => rfl
        | true => have := (cov_iff b m 0 0).1 hc; exact absurd ⟨by omega, by omega⟩ e
      have p0 : psz 0 = 4294967296 := by decide
      exact und_in e h1 ((cov_iff 0 0 b m).2 ⟨hv, by omega, ⟨by omega, by omega, by rw [p0]; rfl⟩, hb.1, by rw [p0]; omega⟩)

structure AtU (J : List (Int × Int × Int) → World → Prop) (n₀ bP : Nat) (a n : Int) (all : List (Int × Int × Int)) (p : Value) (wr : World) (s : Tr) (q : Option Addr) : Prop where
  ptr : p = .pointer q
  list : all = und s a n
  rep : Rep (fun b => b < n₀) wr s q
  wf : WF s
  j : J [] wr
  c0 : wr.cell? ⟨bP, 0, none⟩ = some (.int .u32 a)
  c1 : wr.cell? ⟨bP, 1, none⟩ = some (.int .i64 n)
  size : n₀ ≤ wr.heap.size
theorem AtU.bel {J : List (Int × Int × Int) → World → Prop} {n₀ bP : Nat} {x k : Int} {all : List (Int × Int × Int)} {p : Value} {wr w' : World} {s : Tr} {q : Option Addr}
    (h : AtU J n₀ bP x k all p wr s q) (hb : Below wr.heap.size wr w') (hJ : ∀ s A B, J s A → Below A.heap.size A B → J s B) : AtU J n₀ bP x k all p w' s q :=
  ⟨h.ptr, h.list, h.rep.under (hb.mono h.size), h.wf, hJ _ _ _ h.j hb, cell_bel h.c0 hb, cell_bel h.c1 hb, Nat.le_trans h.size hb.size⟩
/-- how the iterator ends -/
theorem under_end {J Jx : List (Int × Int × Int) → World → Prop} {n₀ : Nat} {W W' : World} {all : List (Int × Int × Int)} {v : Bool} (h : Walked J Jx n₀ W [] all v W') : (∃ ys, ys = all ∧ J ys W') ∨ (∃ pre, pre <+: all ∧ Jx pre W') := by
  rcases h with ⟨-, h1, -⟩ | ⟨-, r, h1, h2⟩
  · exact .inl ⟨all, rfl, h1⟩
  · exact .inr ⟨r, h1, h2⟩

set_option maxRecDepth 100000 in
set_option maxHeartbeats 4000000 in
theorem under1 (n l bT bP bt n₀ : Nat) (t : Tr) (p : Option Addr) (x k : Int) (x0 : 0 ≤ x) (x1 : x < 4294967296) (J Jx : List (Int × Int × Int) → World → Prop) (hJ : ∀ s A B, J s A → Below A.heap.size A B → J s B) (hG : Gives Try.prog (n - 1) l n₀ (und t x k).length J Jx)
    (W : World) (cT : W.cell? ⟨bT, 0, none⟩ = some (.pointer (some ⟨bt, 0, none⟩))) (cR : W.cell? ⟨bt, 0, none⟩ = some (.pointer p)) (h0 : AtU J n₀ bP x k (und t x k) (.pointer p) W t p) :
    CallsIn Fence.wide n Try.prog 49 #[.func (.yield l) #[] #[], .pointer (some ⟨bT, 0, none⟩), .pointer (some ⟨bP, 0, none⟩)] W fun e W' => (∃ v, e = .returned v) ∧
      ((∃ ys, ys = und t x k ∧ J ys W') ∨ (∃ pre, pre <+: und t x k ∧ Jx pre W')) := by
  have H0 : Hid (AtU J n₀ bP x k (und t x k) (.pointer p) W t p) := h0
  have HG : Hid (∀ m, Gives Try.prog m l n₀ (und t x k).length J Jx) := fun m => hG.wide
  clear h0 hG
  generalize und t x k = all at *
  refine callsIn_of_wp Try.func49 rfl trivial ?_ rfl
  simp only [Try.ntmps49, List.size_toArray, List.length_cons, List.length_nil, Nat.reduceAdd, Nat.reduceSub, Array.replicate_succ, Array.replicate_zero, List.push_toArray, List.append_toArray, List.nil_append, List.cons_append]
  gi_wp2
  gi_loopw [4] (fun p wr => ∃ s q, AtU J n₀ bP x k all p wr s q) tms
  case atStart =>
    exact ⟨_, _, H0.out⟩
  case round =>
    obtain ⟨s, q, hat⟩ := hrel
    have HAT : Hid (AtU J n₀ bP x k all _ _ s q) := hat
    obtain rfl := hat.ptr
    clear hat
    cases s with
    | nil =>
      obtain rfl : q = none := HAT.out.rep
      gi_wp2
      refine wpIn_wide.2 ?_
      go_quiet (fail)
      gi_wp2
      refine wpIn_wide.2 ?_
      go_quiet (fail)
      gi_wp2
      go_end0
      exact ⟨⟨_, rfl⟩, .inl ⟨all, rfl, by rw [HAT.out.list]; exact hJ _ _ _ (hJ _ _ _ HAT.out.j (bel_q wr _)) (bel_q _ _)⟩⟩
    | node b m u h l2 r2 =>
      obtain ⟨hbd, bn, pl, pr, rfl, hlt, hok, hc, -, -⟩ := HAT.out.rep
      obtain ⟨b0, b1, m0, m1⟩ := hbd
      have HWALK : Hid (∀ (W1 : World), Below wr.heap.size wr W1 → all = allT (.node b m u h l2 r2) → CallsIn Fence.wide (n - 1) Try.prog 50 #[.pointer (some ⟨bn, 0, none⟩), .func (.yield l) #[] #[]] W1 fun e W' => ∃ v, e = .returned (.bool v) ∧ ((∃ ys, ys = all ∧ J ys W') ∨ (∃ pre, pre <+: all ∧ Jx pre W'))) := by
        intro W1 hb1 he
        have hat1 := HAT.out.bel hb1 hJ
        refine (walk1 J Jx hJ l n₀ all.length _ (n - 1) _ [] W1 (HG.out _) hat1.rep hat1.size hat1.j (by rw [he]; simp)).mono ?_
        rintro e W' ⟨v, rfl, hv⟩
        rw [← he] at hv
        exact ⟨v, rfl, under_end hv⟩
      have k0 := cell_regrown (w := wr) (a := ⟨bn, 0, none⟩) hc.1
      have k1 := cell_regrown (w := wr) (a := ⟨bn, 1, none⟩) hc.2.1
      have j0 := cell_regrown (w := wr) (a := ⟨bP, 0, none⟩) HAT.out.c0
      have j1 := cell_regrown (w := wr) (a := ⟨bP, 1, none⟩) HAT.out.c1
      by_cases e : b = x ∧ m = k
      · obtain ⟨rfl, rfl⟩ := e
        have HV : Hid (cov b m b m = true) := cov_self HAT.out.wf.1
        clear hc
        gi_wp2
        refine wpIn_wide.2 ?_
        refine wp_region_quiet_below (by kernel_rfl) (by kernel_rfl) ?_
        repeat (go_big_quiet_step (fail))
        refine wpQuiet_nil ?_
        intro w1 hw'
        have hb1 := regrown_bel hw'
        have HAT1 : Hid (AtU J n₀ bP b m all _ w1 _ _) := HAT.out.bel hb1 hJ
        clear k0 k1 j0 j1 hw' hlt
        obtain ⟨-, bn2, pl2, pr2, e2, -, -, hc2, -, -⟩ := HAT1.out.rep
        cases e2
        have k0' := cell_regrown (w := w1) (a := ⟨bn, 0, none⟩) hc2.1
        have k1' := cell_regrown (w := w1) (a := ⟨bn, 1, none⟩) hc2.2.1
        have j0' := cell_regrown (w := w1) (a := ⟨bP, 0, none⟩) HAT1.out.c0
        have j1' := cell_regrown (w := w1) (a := ⟨bP, 1, none⟩) HAT1.out.c1
        clear hc2
        gi_wp2
        refine wpIn_wide.2 ?_
        refine wp_region_quiet_below (by kernel_rfl) (by kernel_rfl) ?_
        repeat (go_big_quiet_step ((go_at_call 41; exact Calls.regrown_of (covers_is b m b m true HV.out b0 b1 b0 b1 _))))
        refine wpQuiet_nil ?_
        intro w2 hw2'
        have hb2 := regrown_bel hw2'
        have hb02 : Below wr.heap.size wr w2 := hb1.trans (hb2.mono hb1.size)
        clear k0' k1' j0' j1' hw2'
        gi_wp2
        refine ⟨trivial, fun h => (by cases h), ?_⟩
        refine (HWALK.out w2 hb02 (by rw [HAT.out.list]; exact und_at)).mono ?_
        rintro e W3 ⟨v, rfl, hv⟩
        have HE : Hid ((∃ ys, ys = all ∧ J ys W3) ∨ (∃ pre, pre <+: all ∧ Jx pre W3)) := hv
        clear hv
        gi_wp2
        go_end0
        exact ⟨⟨_, rfl⟩, HE.out⟩
      · have hNE : (¬ b = x) ∨ (b = x ∧ ¬ m = k) := by omega
        have HE0 : Other b m x k := e
        clear e
        cases hcv : cov b m x k with
        | true =>
          have HV : Hid (cov b m x k = true) := hcv
          clear hcv hc
          rcases hNE with e1 | ⟨rfl, e1⟩
          all_goals
            gi_wp2
            refine wpIn_wide.2 ?_
            refine wp_region_quiet_below (by kernel_rfl) (by kernel_rfl) ?_
            repeat (go_big_quiet_step ((go_at_call 41; exact Calls.regrown_of (covers_is b m _ k true HV.out b0 b1 x0 x1 _))))
            refine wpQuiet_nil ?_
            intro w1 hw'
            have hb1 := regrown_bel hw'
            have HAT1 := HAT.out.bel hb1 hJ
            clear k0 k1 j0 j1 hw' hlt
            obtain ⟨-, bn3, pl3, pr3, e3, hlt3, -, hc3, hl3, hr3⟩ := HAT1.rep
            cases e3
            have d0 := HAT1.c0
            rcases sdI_01 _ m with hs | hs
            · have HS : Hid (sdI _ m = 0) := hs
              clear hs
              gi_wp2
              refine ⟨trivial, fun h => (by cases h), ?_⟩
              refine (callsIn_wide.2 (toward_l bn b m u h pl3 pr3 _ HS.out m0 m1 x0 x1 _ hc3)).mono ?_
              rintro e w4 ⟨rfl, q4, rfl⟩
              gi_wp2
              go_roundw
              case rel => exact ⟨l2, pl3, rfl, by rw [HAT1.list, und_l (Other.out HE0) HV.out HS.out], hl3.under ((bel_q w1 q4).mono HAT1.size), HAT1.wf.2.2.2.2.1, hJ _ _ _ HAT1.j (bel_q w1 q4), cell_bel HAT1.c0 (bel_q w1 q4), cell_bel HAT1.c1 (bel_q w1 q4), HAT1.size⟩
              case measure => exact tms_kid HAT1.wf HAT1.wf.2.2.1 HAT.out.rep (hl3.under ((bel_q w1 q4).mono HAT1.size))
            · have HS : Hid (sdI _ m = 1) := hs
              clear hs
              gi_wp2
              refine ⟨trivial, fun h => (by cases h), ?_⟩
              refine (callsIn_wide.2 (toward_r bn b m u h pl3 pr3 _ HS.out m0 m1 x0 x1 _ hc3)).mono ?_
              rintro e w4 ⟨rfl, q4, rfl⟩
              gi_wp2
              go_roundw
              case rel => exact ⟨r2, pr3, rfl, by rw [HAT1.list, und_r (Other.out HE0) HV.out HS.out], hr3.under ((bel_q w1 q4).mono HAT1.size), HAT1.wf.2.2.2.2.2, hJ _ _ _ HAT1.j (bel_q w1 q4), cell_bel HAT1.c0 (bel_q w1 q4), cell_bel HAT1.c1 (bel_q w1 q4), HAT1.size⟩
              case measure => exact tms_kid HAT1.wf HAT1.wf.2.2.2.1 HAT.out.rep (hr3.under ((bel_q w1 q4).mono HAT1.size))
        | false =>
          have HV : Hid (cov b m x k = false) := hcv
          clear hcv hc
          cases hcw : cov x k b m with
          | true =>
            have HW : Hid (cov x k b m = true) := hcw
            clear hcw
            rcases hNE with e1 | ⟨rfl, e1⟩
            all_goals
              gi_wp2
              refine wpIn_wide.2 ?_
              refine wp_region_quiet_below (by kernel_rfl) (by kernel_rfl) ?_
              repeat (go_big_quiet_step ((go_at_call 41; exact Calls.regrown_of (covers_is b m _ k false HV.out b0 b1 x0 x1 _))))
              refine wpQuiet_nil ?_
              intro w1 hw'
              have hb1 := regrown_bel hw'
              have HAT1 : Hid (AtU J n₀ bP _ k all _ w1 _ _) := HAT.out.bel hb1 hJ
              clear k0 k1 j0 j1 hw' hlt
              obtain ⟨-, bn2, pl2, pr2, e2, -, -, hc2, -, -⟩ := HAT1.out.rep
              cases e2
              have k0' := cell_regrown (w := w1) (a := ⟨bn, 0, none⟩) hc2.1
              have k1' := cell_regrown (w := w1) (a := ⟨bn, 1, none⟩) hc2.2.1
              have j0' := cell_regrown (w := w1) (a := ⟨bP, 0, none⟩) HAT1.out.c0
              have j1' := cell_regrown (w := w1) (a := ⟨bP, 1, none⟩) HAT1.out.c1
              clear hc2
              gi_wp2
              refine wpIn_wide.2 ?_
              refine wp_region_quiet_below (by kernel_rfl) (by kernel_rfl) ?_
              repeat (go_big_quiet_step ((go_at_call 41; exact Calls.regrown_of (covers_is _ k b m true HW.out x0 x1 b0 b1 _))))
              refine wpQuiet_nil ?_
              intro w2 hw2'
              have hb2 := regrown_bel hw2'
              have hb02 : Below wr.heap.size wr w2 := hb1.trans (hb2.mono hb1.size)
              clear k0' k1' j0' j1' hw2'
              gi_wp2
              refine ⟨trivial, fun h => (by cases h), ?_⟩
              refine (HWALK.out w2 hb02 (by rw [HAT.out.list]; exact und_in (Other.out HE0) HV.out HW.out)).mono ?_
              rintro e W3 ⟨v, rfl, hv⟩
              have HE : Hid ((∃ ys, ys = all ∧ J ys W3) ∨ (∃ pre, pre <+: all ∧ Jx pre W3)) := hv
              clear hv
              gi_wp2
              go_end0
              exact ⟨⟨_, rfl⟩, HE.out⟩
          | false =>
            have HW : Hid (cov x k b m = false) := hcw
            clear hcw
            rcases hNE with e1 | ⟨rfl, e1⟩
            all_goals
              gi_wp2
              refine wpIn_wide.2 ?_
              refine wp_region_quiet_below (by kernel_rfl) (by kernel_rfl) ?_
              repeat (go_big_quiet_step ((go_at_call 41; exact Calls.regrown_of (covers_is b m _ k false HV.out b0 b1 x0 x1 _))))
              refine wpQuiet_nil ?_
              intro w1 hw'
              have hb1 := regrown_bel hw'
              have HAT1 : Hid (AtU J n₀ bP _ k all _ w1 _ _) := HAT.out.bel hb1 hJ
              clear k0 k1 j0 j1 hw' hlt
              obtain ⟨-, bn2, pl2, pr2, e2, -, -, hc2, -, -⟩ := HAT1.out.rep
              cases e2
              have k0' := cell_regrown (w := w1) (a := ⟨bn, 0, none⟩) hc2.1
              have k1' := cell_regrown (w := w1) (a := ⟨bn, 1, none⟩) hc2.2.1
              have j0' := cell_regrown (w := w1) (a := ⟨bP, 0, none⟩) HAT1.out.c0
              have j1' := cell_regrown (w := w1) (a := ⟨bP, 1, none⟩) HAT1.out.c1
              clear hc2
              gi_wp2
              refine wpIn_wide.2 ?_
              refine wp_region_quiet_below (by kernel_rfl) (by kernel_rfl) ?_
              repeat (go_big_quiet_step ((go_at_call 41; exact Calls.regrown_of (covers_is _ k b m false HW.out x0 x1 b0 b1 _))))
              refine wpQuiet_nil ?_
              intro w2 hw2'
              have hb2 := regrown_bel hw2'
              have hb02 : Below wr.heap.size wr w2 := hb1.trans (hb2.mono hb1.size)
              clear k0' k1' j0' j1' hw2'
              gi_wp2
              go_end0
              exact ⟨⟨_, rfl⟩, .inl ⟨all, rfl, by rw [HAT.out.list, und_no (Other.out HE0) HV.out HW.out]; exact hJ _ _ _ HAT.out.j hb02⟩⟩
end Go.Proofs.Ytibmhdfodmkahaa.Tri
