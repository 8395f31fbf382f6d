/- Lists of prefixes and of numbers: all, rise, meet. -/
import Derived.Test.YtanboekdfdafmaaPvC
import Derived.StillTailTactics
namespace Go.Proofs.Ytanboekdfdafmaa.Pv
open Go.ChangeShapes Go.WideShapes Go.ChangeAt Go.RowKit Go.Joins Go.Proofs.Ytanboekdfdafmaa.PM Go.Proofs.Ytanboekdfdafmaa.Ask Go.Proofs.Ytanboekdfdafmaa.Ge
set_option linter.unusedVariables false

def InA (p : Int × Int) : Prop := 0 ≤ p.1 ∧ p.1 < 4294967296
set_option maxRecDepth 100000 in
set_option maxHeartbeats 4000000 in
theorem all2_any (va : Option Addr) (cap : Nat) (ps : List (Int × Int)) (n : Nat) (hn : ps.length = n) (w : World) (hl : Lst E2 w va ps) (hp : ∀ p ∈ ps, InA p) (r : Bool) (hr : allV ps = r) :
    Calls Try.prog 43 #[.slice va n cap, .func (.func 44) #[] #[]] w fun e w' => e = .returned (.bool r) ∧ Below w.heap.size w w' := by
  have HL : Hid (Lst E2 w va ps) := hl
  have HP : Hid (∀ p ∈ ps, InA p) := hp
  have HN : Hid (ps.length = n) := hn
  have HR : Hid (allV ps = r) := hr
  have h63 := hl.small
  rw [hn] at h63
  clear hl hp hn hr
  go_enter Try.func43, Try.ntmps43
  go_wp2_with fail
  go_loopw [9] (fun iv wr => ∃ i : Nat, i ≤ n ∧ iv = .int .i64 (i : Int) ∧ (∀ j (hj : j < ps.length), j < i → vld ps[j].1 ps[j].2 = true) ∧ Below w.heap.size w wr) (fun i _ => n - (intOf i).toNat)
  case atStart => exact ⟨0, by omega, rfl, fun j _ h => by omega, Below.refl _ _⟩
  case round =>
    obtain ⟨i, hi, rfl, hlow, hb⟩ := hrel
    have HLOW : Hid (∀ j (hj : j < ps.length), j < i → vld ps[j].1 ps[j].2 = true) := hlow
    have HB : Hid (Below w.heap.size w wr) := hb
    clear hlow hb
    by_cases hlt : i < n
    · have hil : i < ps.length := by rw [HN.out]; exact hlt
      obtain ⟨b, o, rfl, hbl, c0, c1⟩ := lst2 (HL.out.bel HB.out) i hil
      have hin := HP.out _ (List.getElem_mem hil)
      obtain ⟨hb0, hhb⟩ : ∃ t, vld ps[i].1 ps[i].2 = t := ⟨_, rfl⟩
      have HH : Hid (vld ps[i].1 ps[i].2 = hb0) := hhb
      obtain ⟨⟨pa, pn⟩, hpp⟩ : ∃ p, ps[i] = p := ⟨_, rfl⟩
      rw [hpp] at c0 c1 hin hhb
      dsimp only at c0 c1 hhb
      obtain ⟨p0, p1⟩ := hin
      dsimp only at p0 p1
      have hii : (i : Int) < n := by omega
      have ii0 : (0 : Int) ≤ i := by omega
      have HBA : Hid (∀ o, Below w.heap.size w (wr.alloc o)) := fun o => HB.out.alloc HB.out.size o
      cases hb0 with
      | true =>
        have HNX : Hid (∀ j (hj : j < ps.length), j < i + 1 → vld ps[j].1 ps[j].2 = true) := fun j hj h1 => by
          by_cases e : j = i
          · subst e; exact HH.out
          · exact HLOW.out j hj (by omega)
        go_wp2_with fail
        refine (valid_yes pa pn hhb p0 p1 _).mono ?_
        rintro e w2 ⟨rfl, hb2⟩
        have HB2 : Hid (Below w.heap.size w w2) := (HBA.out _).trans (hb2.mono (HBA.out _).size)
        clear hb2
        go_wp2_with fail
        exact ⟨⟨i + 1, by omega, by simp, HNX.out, HB2.out⟩, by simp [intOf]; omega⟩
      | false =>
        have HE : Hid (false = r) := by
          show false = r
          rw [← HR.out]
          exact (all_no (f := fun p => vld p.1 p.2) i hil HH.out).symm
        go_wp2_with fail
        refine (valid_no pa pn hhb p0 p1 _).mono ?_
        rintro e w2 ⟨rfl, hb2⟩
        have HB2 : Hid (Below w.heap.size w w2) := (HBA.out _).trans (hb2.mono (HBA.out _).size)
        clear hb2
        go_wp2_with fail
        go_ret
        exact ⟨ret_bool HE.out, HB2.out⟩
    · obtain rfl : i = n := by omega
      have HE : Hid (true = r) := by
        show true = r
        rw [← HR.out]
        exact (all_iff.2 (fun j hj => HLOW.out j hj (by rw [← HN.out]; exact hj))).symm
      go_wp2_with fail
      go_ret
      exact ⟨ret_bool HE.out, HB.out⟩
set_option maxRecDepth 100000 in
set_option maxHeartbeats 4000000 in
theorem allName_any (va : Option Addr) (cap : Nat) (ps : List Int) (n : Nat) (hn : ps.length = n) (w : World) (hl : Lst EI w va ps) (r : Bool) (hr : ps.all isNm = r) :
    Calls Try.prog 76 #[.slice va n cap, .func (.func 63) #[] #[]] w fun e w' => e = .returned (.bool r) ∧ Below w.heap.size w w' := by
  have HL : Hid (Lst EI w va ps) := hl
  have HN : Hid (ps.length = n) := hn
  have HR : Hid (ps.all isNm = r) := hr
  have HF : Hid (∀ x t (W : World), isNm x = t → Calls Try.prog 63 #[.int .i64 x] W fun e w' => e = .returned (.bool t) ∧ w' = W) := fun x t W e => name_any x t e W
  have h63 := hl.small
  rw [hn] at h63
  clear hl hn hr
  go_enter Try.func76, Try.ntmps76
  go_wp2_with fail
  go_loopw [9] (fun iv wr => ∃ i : Nat, i ≤ n ∧ iv = .int .i64 (i : Int) ∧ (∀ j (hj : j < ps.length), j < i → isNm ps[j] = true) ∧ wr = w) (fun i _ => n - (intOf i).toNat)
  case atStart => exact ⟨0, by omega, rfl, fun j _ h => by omega, rfl⟩
  case round =>
    obtain ⟨i, hi, rfl, hlow, hwr⟩ := hrel
    subst hwr
    have HLOW : Hid (∀ j (hj : j < ps.length), j < i → isNm ps[j] = true) := hlow
    clear hlow
    by_cases hlt : i < n
    · have hil : i < ps.length := by rw [HN.out]; exact hlt
      obtain ⟨b, o, rfl, hbl, c0⟩ := lstI HL.out i hil
      obtain ⟨hb0, hhb⟩ : ∃ t, isNm ps[i] = t := ⟨_, rfl⟩
      have HH : Hid (isNm ps[i] = hb0) := hhb
      obtain ⟨x, hpp⟩ : ∃ p, ps[i] = p := ⟨_, rfl⟩
      rw [hpp] at c0 hhb
      have HC : Hid (∀ W, Calls Try.prog 63 #[.int .i64 x] W fun e w' => e = .returned (.bool hb0) ∧ w' = W) := fun W => HF.out x hb0 W hhb
      have hii : (i : Int) < n := by omega
      have ii0 : (0 : Int) ≤ i := by omega
      clear hhb hpp
      cases hb0 with
      | true =>
        have HNX : Hid (∀ j (hj : j < ps.length), j < i + 1 → isNm ps[j] = true) := fun j hj h1 => by
          by_cases e : j = i
          · subst e; exact HH.out
          · exact HLOW.out j hj (by omega)
        go_wp2_with fail
        refine (HC.out _).mono ?_
        rintro e w2 ⟨rfl, hw2⟩
        rw [hw2]
        clear hw2 w2
        go_wp2_with fail
        exact ⟨⟨i + 1, by omega, by simp, HNX.out, by first | trivial | rfl⟩, by simp [intOf]; omega⟩
      | false =>
        have HE : Hid (false = r) := by
          show false = r
          rw [← HR.out]
          exact (all_no (f := isNm) i hil HH.out).symm
        go_wp2_with fail
        refine (HC.out _).mono ?_
        rintro e w2 ⟨rfl, hw2⟩
        rw [hw2]
        clear hw2 w2
        go_wp2_with fail
        go_ret
        exact ⟨ret_bool HE.out, Below.refl _ _⟩
    · obtain rfl : i = n := by omega
      have HE : Hid (true = r) := by
        show true = r
        rw [← HR.out]
        exact (all_iff.2 (fun j hj => HLOW.out j hj (by rw [← HN.out]; exact hj))).symm
      go_wp2_with fail
      go_ret
      exact ⟨ret_bool HE.out, Below.refl _ _⟩
set_option maxRecDepth 100000 in
set_option maxHeartbeats 4000000 in
theorem allNumber_any (va : Option Addr) (cap : Nat) (ps : List Int) (n : Nat) (hn : ps.length = n) (w : World) (hl : Lst EI w va ps) (r : Bool) (hr : ps.all isNo = r) :
    Calls Try.prog 76 #[.slice va n cap, .func (.func 75) #[] #[]] w fun e w' => e = .returned (.bool r) ∧ Below w.heap.size w w' := by
  have HL : Hid (Lst EI w va ps) := hl
  have HN : Hid (ps.length = n) := hn
  have HR : Hid (ps.all isNo = r) := hr
  have HF : Hid (∀ x t (W : World), isNo x = t → Calls Try.prog 75 #[.int .i64 x] W fun e w' => e = .returned (.bool t) ∧ w' = W) := fun x t W e => number_any x t e W
  have h63 := hl.small
  rw [hn] at h63
  clear hl hn hr
  go_enter Try.func76, Try.ntmps76
  go_wp2_with fail
  go_loopw [9] (fun iv wr => ∃ i : Nat, i ≤ n ∧ iv = .int .i64 (i : Int) ∧ (∀ j (hj : j < ps.length), j < i → isNo ps[j] = true) ∧ wr = w) (fun i _ => n - (intOf i).toNat)
  case atStart => exact ⟨0, by omega, rfl, fun j _ h => by omega, rfl⟩
  case round =>
    obtain ⟨i, hi, rfl, hlow, hwr⟩ := hrel
    subst hwr
    have HLOW : Hid (∀ j (hj : j < ps.length), j < i → isNo ps[j] = true) := hlow
    clear hlow
    by_cases hlt : i < n
    · have hil : i < ps.length := by rw [HN.out]; exact hlt
      obtain ⟨b, o, rfl, hbl, c0⟩ := lstI HL.out i hil
      obtain ⟨hb0, hhb⟩ : ∃ t, isNo ps[i] = t := ⟨_, rfl⟩
      have HH : Hid (isNo ps[i] = hb0) := hhb
      obtain ⟨x, hpp⟩ : ∃ p, ps[i] = p := ⟨_, rfl⟩
      rw [hpp] at c0 hhb
      have HC : Hid (∀ W, Calls Try.prog 75 #[.int .i64 x] W fun e w' => e = .returned (.bool hb0) ∧ w' = W) := fun W => HF.out x hb0 W hhb
      have hii : (i : Int) < n := by omega
      have ii0 : (0 : Int) ≤ i := by omega
      clear hhb hpp
      cases hb0 with
      | true =>
        have HNX : Hid (∀ j (hj : j < ps.length), j < i + 1 → isNo ps[j] = true) := fun j hj h1 => by
          by_cases e : j = i
          · subst e; exact HH.out
          · exact HLOW.out j hj (by omega)
        go_wp2_with fail
        refine (HC.out _).mono ?_
        rintro e w2 ⟨rfl, hw2⟩
        rw [hw2]
        clear hw2 w2
        go_wp2_with fail
        exact ⟨⟨i + 1, by omega, by simp, HNX.out, by first | trivial | rfl⟩, by simp [intOf]; omega⟩
      | false =>
        have HE : Hid (false = r) := by
          show false = r
          rw [← HR.out]
          exact (all_no (f := isNo) i hil HH.out).symm
        go_wp2_with fail
        refine (HC.out _).mono ?_
        rintro e w2 ⟨rfl, hw2⟩
        rw [hw2]
        clear hw2 w2
        go_wp2_with fail
        go_ret
        exact ⟨ret_bool HE.out, Below.refl _ _⟩
    · obtain rfl : i = n := by omega
      have HE : Hid (true = r) := by
        show true = r
        rw [← HR.out]
        exact (all_iff.2 (fun j hj => HLOW.out j hj (by rw [← HN.out]; exact hj))).symm
      go_wp2_with fail
      go_ret
      exact ⟨ret_bool HE.out, Below.refl _ _⟩
end Go.Proofs.Ytanboekdfdafmaa.Pv
