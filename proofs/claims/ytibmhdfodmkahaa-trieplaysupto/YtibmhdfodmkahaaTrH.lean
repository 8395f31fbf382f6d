/- without, further down. -/
import Derived.Test.YtibmhdfodmkahaaTrG
namespace Go.Proofs.Ytibmhdfodmkahaa.Tri
open Go.ChangeShapes Go.WideShapes Go.ChangeAt Go.RowKit Go.Proofs.Ytibmhdfodmkahaa.PM Go.Proofs.Ytibmhdfodmkahaa.TrM Go.Proofs.Ytibmhdfodmkahaa.Ask
set_option linter.unusedVariables false

set_option maxHeartbeats 1000000 in
theorem without_down_r (b : Nat) (nb nm u : Int) (h : Bool) (pl pr : Option Addr) (a n : Int) (w : World) (hc : Cells w b nb nm u h pl pr)
    (hb : b < w.heap.size) (nb0 : 0 ≤ nb) (nb1 : nb < 4294967296) (a0 : 0 ≤ a) (a1 : a < 4294967296)
    (hcov : cov nb nm a n = true) (hne : (¬ nb = a) ∨ (nb = a ∧ ¬ nm = n)) (nm0 : 0 ≤ nm) (nm1 : nm ≤ 32) (hs : sdI a nm = 1) (ok : Nat → Prop) (tl l : Tr) (d : Bool) (old : Int) (hr : Rep ok w l pl) (hnew : ∀ b, w.heap.size ≤ b → ok b)
    (ih : ∀ w1, Below w.heap.size w w1 → Calls Try.prog 35 #[.pointer pr, .agg #[.int .u32 a, .int .i64 n]] w1 fun e w' => ∃ q, e = .returned (.tuple #[.pointer q, .int .i64 old, .bool d]) ∧ Below w1.heap.size w1 w' ∧ Rep ok w' tl q) :
    Calls Try.prog 35 #[.pointer (some ⟨b, 0, none⟩), .agg #[.int .u32 a, .int .i64 n]] w fun e w' => Went ok w b d old (slim (.node nb nm u h l tl)) e w' := by
  have HS : Hid (sdI a nm = 1) := hs
  have IH : Hid (∀ w1, _) := ih
  have HR : Hid (Rep ok w l pl) := hr
  clear hs ih hr
  rcases hne with hne | ⟨rfl, hne⟩
  · have HC : Hid (Cells w b nb nm u h pl pr) := hc
    have HV : Hid (cov nb nm a n = true) := hcov
    obtain ⟨hbA, hsA, hbx⟩ := boxed w a n 33
    have HBX : Hid (Box _ _ a n) := hbx
    clear hcov hc hbx
    go_enter Try.func35, Try.ntmps35
    go_wp2_with fail
    generalize w.alloc (Obj.cells #[.int .u32 a, .int .i64 n] 33) = wA at *
    obtain ⟨c0, c1, c2, c3, c4, c5⟩ := HC.out.bel hbA hb
    obtain ⟨x0, x1⟩ := HBX.out
    have k0 := cell_regrown c0
    have k1 := cell_regrown c1
    have k2 := cell_regrown x0
    have k3 := cell_regrown x1
    refine wp_region_quiet_below (by kernel_rfl) (by kernel_rfl) ?_
    repeat (go_big_quiet_step ((go_at_call 41; exact Calls.regrown_of (covers_is _ _ _ _ true HV.out (by assumption) (by assumption) (by assumption) (by assumption) _))))
    refine wpQuiet_nil ?_
    intro w1 hw'
    have hbA1 : Below wA.heap.size wA w1 := regrown_bel hw'
    have hb1 : Below w.heap.size w w1 := hbA.trans (hbA1.mono hbA.size)
    clear hw' k0 k1 k2 k3 c0 c1 c2 c3 c4 c5 x0 x1
    have HC1 : Hid (Cells w1 b nb nm u h pl pr) := HC.out.bel hb1 hb
    have HBX1 : Hid (Box w1 w.heap.size a n) := HBX.out.bel hbA1 (by omega)
    have hs1 : w.heap.size < w1.heap.size := by have := hbA1.size; omega
    clear HC HBX hbA hsA hbA1
    obtain ⟨c0, c1, c2, c3, c4, c5⟩ := HC1.out
    obtain ⟨x0, x1⟩ := HBX1.out
    go_wp2_with fail
    go_quiet (fail)
    go_wp2_with fail
    go_quiet (fail)
    go_wp2_with fail
    have T1 : Hid (∀ k, Calls Try.prog 42 #[.pointer (some ⟨b, 0, none⟩), .int .u32 a] ((w1.drewN k)) fun e w' => e = .returned (.pointer pr) ∧ ∃ q, w' = (w1.drewN k).drewN q) := fun k => toward_r b nb nm u h pl pr _ HS.out nm0 nm1 (by assumption) (by assumption) _ (HC1.out.bel (bel_q w1 k) (by omega))
    go_region_with (first | (go_at_call 42; refine (T1.out _).mono ?_; rintro e w2 ⟨rfl, q2, rfl⟩) | (go_at_call 35; refine (IH.out _ (bel_drew hb1 _)).mono ?_; rintro e w3 ⟨q, rfl, hb3, hrep⟩))
    all_goals
      replace hb3 : Below w1.heap.size w1 w3 := (bel_q w1 _).trans hb3
      clear IH T1 c0 c1 c2 c3 c4 c5 x0 x1
      have hbw3 : Below w.heap.size w w3 := hb1.trans (hb3.mono hb1.size)
      have hs3 := hb3.size
      have HC3 : Hid (Cells w3 b nb nm u h pl pr) := HC1.out.bel hb3 (by omega)
      obtain ⟨x0, x1⟩ := HBX1.out.bel hb3 (by omega)
      obtain ⟨c0, c1, c2, c3, c4, c5⟩ := HC3.out
      cases d with
      | false =>
        go_wp2_with fail
        go_ret3
        exact Went.no old hbw3
      | true =>
        go_wp2_with fail
        have hbs3 : b < w3.heap.size := by omega
        have hws3 : w.heap.size < w3.heap.size := by omega
        go_region_held3 (fun w' => w'.cell? ⟨b, 1, none⟩ = some (.int .i64 nm) ∧ w'.cell? ⟨w.heap.size, 0, none⟩ = some (.int .u32 a)) (first | (simp [go_sem, hbs3, hws3, c1, x0]; done) | go_keep)
          (first | (go_at_call 47; refine (side_is _ nm 1 HS.out nm0 nm1 (by assumption) (by assumption) _).mono ?_; rintro e w5 ⟨rfl, rfl⟩))
        clear x0 x1 c0 c1 c2 c3 c4 c5
        obtain ⟨hbN, hsN, hcN⟩ := noded w3 nb nm u h pl q 71
        generalize w3.alloc (Obj.cells #[.int .u32 nb, .int .i64 nm, .int .i64 u, .bool h, .pointer pl, .pointer q] 71) = w4 at *
        have hb34 : Below w3.heap.size w3 w4.drew := hbN.drew
        have hb4 : Below w.heap.size w w4.drew := hbw3.trans (hb34.mono hbw3.size)
        have hcN' : Cells w4.drew w3.heap.size nb nm u h pl q := hcN
        have hsN' : w4.drew.heap.size = w3.heap.size + 1 := hsN
        obtain ⟨qq, hq, hcall⟩ := slim_any ok w3.heap.size nb nm u h pl q l tl w4.drew hcN' (by omega) (hnew _ (by omega)) ⟨nb0, nb1, nm0, nm1⟩ (HR.out.below hb4 (fun _ h => h)) (hrep.below hb34 (fun _ h => h))
        have HQ : Hid (Rep ok w4.drew _ qq) := hq
        have HK : Hid (∀ k, _) := hcall
        clear hq hcall hcN hcN' hbN hb34 hrep
        generalize w4.drew = w6 at *
        go_wp2_with fail
        first
          | go_quiet ((go_at_call 46; exact Calls.quiet_of (HK.out _)))
          | (refine (HK.out 0).mono ?_; rintro e w7 ⟨rfl, j7, rfl⟩)
        go_wp2_with fail
        go_ret3
        exact Went.yes qq old (bel_drew hb4 _) (HQ.out.drew _)
  · have HC : Hid (Cells w b nb nm u h pl pr) := hc
    have HV : Hid (cov nb nm nb n = true) := hcov
    obtain ⟨hbA, hsA, hbx⟩ := boxed w nb n 33
    have HBX : Hid (Box _ _ nb n) := hbx
    clear hcov hc hbx
    go_enter Try.func35, Try.ntmps35
    go_wp2_with fail
    generalize w.alloc (Obj.cells #[.int .u32 nb, .int .i64 n] 33) = wA at *
    obtain ⟨c0, c1, c2, c3, c4, c5⟩ := HC.out.bel hbA hb
    obtain ⟨x0, x1⟩ := HBX.out
    have k0 := cell_regrown c0
    have k1 := cell_regrown c1
    have k2 := cell_regrown x0
    have k3 := cell_regrown x1
    refine wp_region_quiet_below (by kernel_rfl) (by kernel_rfl) ?_
    repeat (go_big_quiet_step ((go_at_call 41; exact Calls.regrown_of (covers_is _ _ _ _ true HV.out (by assumption) (by assumption) (by assumption) (by assumption) _))))
    refine wpQuiet_nil ?_
    intro w1 hw'
    have hbA1 : Below wA.heap.size wA w1 := regrown_bel hw'
    have hb1 : Below w.heap.size w w1 := hbA.trans (hbA1.mono hbA.size)
    clear hw' k0 k1 k2 k3 c0 c1 c2 c3 c4 c5 x0 x1
    have HC1 : Hid (Cells w1 b nb nm u h pl pr) := HC.out.bel hb1 hb
    have HBX1 : Hid (Box w1 w.heap.size nb n) := HBX.out.bel hbA1 (by omega)
    have hs1 : w.heap.size < w1.heap.size := by have := hbA1.size; omega
    clear HC HBX hbA hsA hbA1
    obtain ⟨c0, c1, c2, c3, c4, c5⟩ := HC1.out
    obtain ⟨x0, x1⟩ := HBX1.out
    go_wp2_with fail
    go_quiet (fail)
    go_wp2_with fail
    go_quiet (fail)
    go_wp2_with fail
    have T1 : Hid (∀ k, Calls Try.prog 42 #[.pointer (some ⟨b, 0, none⟩), .int .u32 nb] ((w1.drewN k)) fun e w' => e = .returned (.pointer pr) ∧ ∃ q, w' = (w1.drewN k).drewN q) := fun k => toward_r b nb nm u h pl pr _ HS.out nm0 nm1 (by assumption) (by assumption) _ (HC1.out.bel (bel_q w1 k) (by omega))
    go_region_with (first | (go_at_call 42; refine (T1.out _).mono ?_; rintro e w2 ⟨rfl, q2, rfl⟩) | (go_at_call 35; refine (IH.out _ (bel_drew hb1 _)).mono ?_; rintro e w3 ⟨q, rfl, hb3, hrep⟩))
    all_goals
      replace hb3 : Below w1.heap.size w1 w3 := (bel_q w1 _).trans hb3
      clear IH T1 c0 c1 c2 c3 c4 c5 x0 x1
      have hbw3 : Below w.heap.size w w3 := hb1.trans (hb3.mono hb1.size)
      have hs3 := hb3.size
      have HC3 : Hid (Cells w3 b nb nm u h pl pr) := HC1.out.bel hb3 (by omega)
      obtain ⟨x0, x1⟩ := HBX1.out.bel hb3 (by omega)
      obtain ⟨c0, c1, c2, c3, c4, c5⟩ := HC3.out
      cases d with
      | false =>
        go_wp2_with fail
        go_ret3
        exact Went.no old hbw3
      | true =>
        go_wp2_with fail
        have hbs3 : b < w3.heap.size := by omega
        have hws3 : w.heap.size < w3.heap.size := by omega
        go_region_held3 (fun w' => w'.cell? ⟨b, 1, none⟩ = some (.int .i64 nm) ∧ w'.cell? ⟨w.heap.size, 0, none⟩ = some (.int .u32 nb)) (first | (simp [go_sem, hbs3, hws3, c1, x0]; done) | go_keep)
          (first | (go_at_call 47; refine (side_is _ nm 1 HS.out nm0 nm1 (by assumption) (by assumption) _).mono ?_; rintro e w5 ⟨rfl, rfl⟩))
        clear x0 x1 c0 c1 c2 c3 c4 c5
        obtain ⟨hbN, hsN, hcN⟩ := noded w3 nb nm u h pl q 71
        generalize w3.alloc (Obj.cells #[.int .u32 nb, .int .i64 nm, .int .i64 u, .bool h, .pointer pl, .pointer q] 71) = w4 at *
        have hb34 : Below w3.heap.size w3 w4.drew := hbN.drew
        have hb4 : Below w.heap.size w w4.drew := hbw3.trans (hb34.mono hbw3.size)
        have hcN' : Cells w4.drew w3.heap.size nb nm u h pl q := hcN
        have hsN' : w4.drew.heap.size = w3.heap.size + 1 := hsN
        obtain ⟨qq, hq, hcall⟩ := slim_any ok w3.heap.size nb nm u h pl q l tl w4.drew hcN' (by omega) (hnew _ (by omega)) ⟨nb0, nb1, nm0, nm1⟩ (HR.out.below hb4 (fun _ h => h)) (hrep.below hb34 (fun _ h => h))
        have HQ : Hid (Rep ok w4.drew _ qq) := hq
        have HK : Hid (∀ k, _) := hcall
        clear hq hcall hcN hcN' hbN hb34 hrep
        generalize w4.drew = w6 at *
        go_wp2_with fail
        first
          | go_quiet ((go_at_call 46; exact Calls.quiet_of (HK.out _)))
          | (refine (HK.out 0).mono ?_; rintro e w7 ⟨rfl, j7, rfl⟩)
        go_wp2_with fail
        go_ret3
        exact Went.yes qq old (bel_drew hb4 _) (HQ.out.drew _)

end Go.Proofs.Ytibmhdfodmkahaa.Tri
