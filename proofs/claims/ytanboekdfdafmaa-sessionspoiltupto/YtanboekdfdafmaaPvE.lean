/- Lists that rise, and lists that meet. -/
import Derived.Test.YtanboekdfdafmaaPvD
namespace Go.Proofs.Ytanboekdfdafmaa.Pv
open Go.ChangeShapes Go.WideShapes Go.ChangeAt Go.RowKit Go.Joins Go.Proofs.Ytanboekdfdafmaa.PM Go.Proofs.Ytanboekdfdafmaa.Ask Go.Proofs.Ytanboekdfdafmaa.Ge
set_option linter.unusedVariables false

theorem nan_any (x : Int) (w : World) : Calls Try.prog 65 #[.int .i64 x] w fun e w' => e = .returned (.bool false) ∧ w' = w := by
  go_enter Try.func65, Try.ntmps65
  go_wp2_with fail
  go_ret
  exact ⟨by simp, rfl⟩
def cmp3 (x y : Int) : Int := if x < y then -1 else if y < x then 1 else 0
theorem compare_any (x y : Int) (w : World) : Calls Try.prog 50 #[.int .i64 x, .int .i64 y] w fun e w' => e = .returned (.int .i64 (cmp3 x y)) ∧ w' = w := by
  go_enter Try.func50, Try.ntmps50
  go_wp2_with fail
  refine (nan_any x _).mono ?_
  rintro e w2 ⟨rfl, hw2⟩
  rw [hw2]
  clear hw2 w2
  go_wp2_with fail
  refine (nan_any y _).mono ?_
  rintro e w2 ⟨rfl, hw2⟩
  rw [hw2]
  clear hw2 w2
  go_wp2_with fail
  all_goals
    go_ret
    exact ⟨ret_i64 (by unfold cmp3; repeat' split
                       all_goals omega), rfl⟩
set_option maxRecDepth 100000 in
set_option maxHeartbeats 4000000 in
theorem rise2_any (va : Option Addr) (cap : Nat) (ps : List (Int × Int)) (n : Nat) (hn : ps.length = n) (w : World) (hl : Lst E2 w va ps) (hp : ∀ p ∈ ps, InA p) (r : Bool) (hr : rise ps = r) :
    Calls Try.prog 45 #[.slice va n cap, .func (.func 46) #[] #[]] w fun e w' => e = .returned (.bool r) ∧ Below w.heap.size w w' := by
  have HL : Hid (Lst E2 w va ps) := hl
  have HP : Hid (∀ p ∈ ps, InA p) := hp
  have HN : Hid (ps.length = n) := hn
  have HR : Hid (rise ps = r) := hr
  have h63 := hl.small
  rw [hn] at h63
  clear hl hp hn hr
  go_enter Try.func45, Try.ntmps45
  go_wp2_with fail
  go_loopw [5] (fun iv wr => ∃ i : Nat, 1 ≤ i ∧ i ≤ n + 1 ∧ iv = .int .i64 (i : Int) ∧ (∀ j (hj : j + 1 < ps.length), j + 1 < i → lt2 ps[j] ps[j + 1] = true) ∧ Below w.heap.size w wr) (fun i _ => n + 1 - (intOf i).toNat)
  case atStart => exact ⟨1, by omega, by omega, rfl, fun j _ h => by omega, Below.refl _ _⟩
  case round =>
    obtain ⟨i, hi1, hi, rfl, hlow, hb⟩ := hrel
    have HLOW : Hid (∀ j (hj : j + 1 < ps.length), j + 1 < i → lt2 ps[j] ps[j + 1] = true) := hlow
    have HB : Hid (Below w.heap.size w wr) := hb
    clear hlow hb
    by_cases hlt : i < n
    · obtain ⟨k, hk⟩ : ∃ k, k + 1 = i := ⟨i - 1, by omega⟩
      have hil : i < ps.length := by rw [HN.out]; exact hlt
      have hkl : k < ps.length := by omega
      obtain ⟨b, o, rfl, hbl, c0, c1⟩ := lst2 (HL.out.bel HB.out) k hkl
      obtain ⟨b', o', e, -, d0, d1⟩ := lst2 (HL.out.bel HB.out) i hil
      cases e
      have hin := HP.out _ (List.getElem_mem hkl)
      have hin2 := HP.out _ (List.getElem_mem hil)
      obtain ⟨hb0, hhb⟩ : ∃ t, lt2 ps[k] ps[i] = t := ⟨_, rfl⟩
      have HH : Hid (lt2 ps[k] ps[i] = hb0) := hhb
      obtain ⟨⟨pa, pn⟩, hpp⟩ : ∃ p, ps[k] = p := ⟨_, rfl⟩
      obtain ⟨⟨qa, qn⟩, hqq⟩ : ∃ p, ps[i] = p := ⟨_, rfl⟩
      rw [hpp] at c0 c1 hin hhb
      rw [hqq] at d0 d1 hin2 hhb
      dsimp only at c0 c1 d0 d1
      obtain ⟨p0, p1⟩ := hin
      obtain ⟨q0, q1⟩ := hin2
      dsimp only at p0 p1 q0 q1
      rw [lt2_ord] at hhb
      obtain ⟨t, ht⟩ : ∃ t, ord pa pn qa qn = t := ⟨_, rfl⟩
      rw [ht] at hhb
      have HC : Hid (∀ W, Calls Try.prog 46 #[.agg #[.int .u32 pa, .int .i64 pn], .agg #[.int .u32 qa, .int .i64 qn]] W fun e w' => e = .returned (.int .i64 t) ∧ Below W.heap.size W w') := fun W => by rw [← ht]; exact order_any pa pn qa qn p0 p1 q0 q1 W
      have hii : (i : Int) < n := by omega
      have ii0 : (0 : Int) ≤ (i : Int) := by omega
      have hk1 : IntKind.i64.wrap ((i : Int) - 1) = (k : Int) := by rw [IntWalk.i64_in _ (by omega)]; omega
      have hkn : (k : Int) < n := by omega
      have kk0 : (0 : Int) ≤ (k : Int) := by omega
      have HBD : Hid (∀ q, Below w.heap.size w (wr.drewN q)) := fun q => below_drewN HB.out q
      have HK : Hid (k + 1 = i) := hk
      clear ht hpp hqq hk
      cases hb0 with
      | true =>
        have ht0 : t < 0 := by simpa using hhb
        have HNX : Hid (∀ j (hj : j + 1 < ps.length), j + 1 < i + 1 → lt2 ps[j] ps[j + 1] = true) := fun j hj h1 => by
          by_cases e : j = k
          · subst e
            have := HH.out
            have e2 := HK.out
            subst e2
            exact this
          · exact HLOW.out j hj (by have := HK.out; omega)
        clear hhb
        go_wp2_with fail
        go_still_tail 10, (by kernel_rfl)
        go_wp2_with fail
        refine (HC.out _).mono ?_
        rintro e w2 ⟨rfl, hb2⟩
        have HB2 : Hid (Below w.heap.size w w2) := (HBD.out 1).trans (hb2.mono (HBD.out 1).size)
        clear hb2
        go_wp2_with fail
        exact ⟨⟨i + 1, by omega, by omega, by simp, HNX.out, HB2.out⟩, by simp [intOf]; omega⟩
      | false =>
        have ht0 : 0 ≤ t := by simpa using hhb
        have HE : Hid (false = r) := by
          show false = r
          rw [← HR.out]
          have e2 := HK.out
          subst e2
          exact (chain_no k hil HH.out).symm
        clear hhb
        go_wp2_with fail
        go_still_tail 10, (by kernel_rfl)
        go_wp2_with fail
        refine (HC.out _).mono ?_
        rintro e w2 ⟨rfl, hb2⟩
        have HB2 : Hid (Below w.heap.size w w2) := (HBD.out 1).trans (hb2.mono (HBD.out 1).size)
        clear hb2
        go_wp2_with fail
        go_ret
        exact ⟨ret_bool HE.out, HB2.out⟩
    · have HE : Hid (true = r) := by
        show true = r
        rw [← HR.out]
        exact (chain_iff.2 (fun j hj => HLOW.out j hj (by have := HN.out; omega))).symm
      have hii : ¬ (i : Int) < n := by omega
      go_wp2_with fail
      go_ret
      exact ⟨ret_bool HE.out, HB.out⟩
set_option maxRecDepth 100000 in
set_option maxHeartbeats 4000000 in
theorem riseI_any (va : Option Addr) (cap : Nat) (ps : List Int) (n : Nat) (hn : ps.length = n) (w : World) (hl : Lst EI w va ps) (r : Bool) (hr : riseI ps = r) :
    Calls Try.prog 49 #[.slice va n cap, .func (.func 50) #[] #[]] w fun e w' => e = .returned (.bool r) ∧ Below w.heap.size w w' := by
  have HL : Hid (Lst EI w va ps) := hl
  have HN : Hid (ps.length = n) := hn
  have HR : Hid (riseI ps = r) := hr
  have h63 := hl.small
  rw [hn] at h63
  clear hl hn hr
  go_enter Try.func49, Try.ntmps49
  go_wp2_with fail
  go_loopw [5] (fun iv wr => ∃ i : Nat, 1 ≤ i ∧ i ≤ n + 1 ∧ iv = .int .i64 (i : Int) ∧ (∀ j (hj : j + 1 < ps.length), j + 1 < i → ps[j] < ps[j + 1]) ∧ Below w.heap.size w wr) (fun i _ => n + 1 - (intOf i).toNat)
  case atStart => exact ⟨1, by omega, by omega, rfl, fun j _ h => by omega, Below.refl _ _⟩
  case round =>
    obtain ⟨i, hi1, hi, rfl, hlow, hb⟩ := hrel
    have HLOW : Hid (∀ j (hj : j + 1 < ps.length), j + 1 < i → ps[j] < ps[j + 1]) := hlow
    have HB : Hid (Below w.heap.size w wr) := hb
    clear hlow hb
    by_cases hlt : i < n
    · obtain ⟨k, hk⟩ : ∃ k, k + 1 = i := ⟨i - 1, by omega⟩
      have hil : i < ps.length := by rw [HN.out]; exact hlt
      have hkl : k < ps.length := by omega
      obtain ⟨b, o, rfl, hbl, c0⟩ := lstI (HL.out.bel HB.out) k hkl
      obtain ⟨b', o', e, -, d0⟩ := lstI (HL.out.bel HB.out) i hil
      cases e
      obtain ⟨hb0, hhb⟩ : ∃ t, decide (ps[k] < ps[i]) = t := ⟨_, rfl⟩
      have HH : Hid (decide (ps[k] < ps[i]) = hb0) := hhb
      obtain ⟨pa, hpp⟩ : ∃ p, ps[k] = p := ⟨_, rfl⟩
      obtain ⟨qa, hqq⟩ : ∃ p, ps[i] = p := ⟨_, rfl⟩
      rw [hpp] at c0 hhb
      rw [hqq] at d0 hhb
      obtain ⟨t, ht⟩ : ∃ t, cmp3 pa qa = t := ⟨_, rfl⟩
      have hhb2 : decide (t < 0) = hb0 := by rw [← hhb, ← ht]; unfold cmp3; rw [Bool.eq_iff_iff, decide_eq_true_iff, decide_eq_true_iff]; split <;> (try split) <;> omega
      have HC : Hid (∀ W, Calls Try.prog 50 #[.int .i64 pa, .int .i64 qa] W fun e w' => e = .returned (.int .i64 t) ∧ w' = W) := fun W => by rw [← ht]; exact compare_any pa qa W
      clear hhb
      have hii : (i : Int) < n := by omega
      have ii0 : (0 : Int) ≤ (i : Int) := by omega
      have hk1 : IntKind.i64.wrap ((i : Int) - 1) = (k : Int) := by rw [IntWalk.i64_in _ (by omega)]; omega
      have hkn : (k : Int) < n := by omega
      have kk0 : (0 : Int) ≤ (k : Int) := by omega
      have HBD : Hid (∀ q, Below w.heap.size w (wr.drewN q)) := fun q => below_drewN HB.out q
      have HK : Hid (k + 1 = i) := hk
      clear ht hpp hqq hk
      cases hb0 with
      | true =>
        have ht0 : t < 0 := by simpa using hhb2
        have HNX : Hid (∀ j (hj : j + 1 < ps.length), j + 1 < i + 1 → ps[j] < ps[j + 1]) := fun j hj h1 => by
          by_cases e : j = k
          · subst e
            have := HH.out
            have e2 := HK.out
            subst e2
            simpa using this
          · exact HLOW.out j hj (by have := HK.out; omega)
        clear hhb2
        go_wp2_with fail
        go_still_tail 10, (by kernel_rfl)
        go_wp2_with fail
        refine (HC.out _).mono ?_
        rintro e w2 ⟨rfl, hw2⟩
        have HB2 : Hid (Below w.heap.size w w2) := by rw [hw2]; exact HBD.out 1
        clear hw2
        go_wp2_with fail
        exact ⟨⟨i + 1, by omega, by omega, by simp, HNX.out, HB2.out⟩, by simp [intOf]; omega⟩
      | false =>
        have ht0 : 0 ≤ t := by simpa using hhb2
        have HE : Hid (false = r) := by
          show false = r
          rw [← HR.out]
          have e2 := HK.out
          subst e2
          exact (chain_no (r := fun x y : Int => decide (x < y)) k hil HH.out).symm
        clear hhb2
        go_wp2_with fail
        go_still_tail 10, (by kernel_rfl)
        go_wp2_with fail
        refine (HC.out _).mono ?_
        rintro e w2 ⟨rfl, hw2⟩
        have HB2 : Hid (Below w.heap.size w w2) := by rw [hw2]; exact HBD.out 1
        clear hw2
        go_wp2_with fail
        go_ret
        exact ⟨ret_bool HE.out, HB2.out⟩
    · have HE : Hid (true = r) := by
        show true = r
        rw [← HR.out]
        exact (chain_iff.2 (fun j hj => by simpa using HLOW.out j hj (by have := HN.out; omega))).symm
      have hii : ¬ (i : Int) < n := by omega
      go_wp2_with fail
      go_ret
      exact ⟨ret_bool HE.out, HB.out⟩
end Go.Proofs.Ytanboekdfdafmaa.Pv
