/- What holds for the bytes of every message: checkBegin, checkFrame; bytes.Equal. -/
import Derived.Test.YtanboekdfdafmaaPwC
import Derived.Test.YtanboekdfdafmaaPvC
import Derived.Deep.QuietTactic
import Derived.BigQuiet
import Derived.Lib.Bytes
namespace Go.Proofs.Ytanboekdfdafmaa.Pv
open Go.ChangeShapes Go.WideShapes Go.ChangeAt Go.RowKit Go.Joins Go.Proofs.Ytanboekdfdafmaa.PM Go.Proofs.Ytanboekdfdafmaa.Ask Go.Proofs.Ytanboekdfdafmaa.Ge
set_option linter.unusedVariables false

theorem conv_by {va : Option Addr} {bs : List Nat} {L cap : Nat} {w : World} (h : Lst E8 w va bs) (hL : bs.length = L) : (convert 32 9 (.slice va L cap)).run Try.prog w = .ok (.string (strOfNums (bs.map (fun x : Nat => (x : Int))))) w := by
  cases va with
  | none =>
    obtain rfl : bs = [] := by
      cases bs with
      | nil => rfl
      | cons a l => obtain ⟨b, o, e, _⟩ := h.cells 0 (by simp); cases e
    rw [run_convert_bytes_nil w 32 5 Try.underlying32 Try.underlying5 L cap 9 Try.underlying9]
    rfl
  | some ad =>
    obtain ⟨b, o, sp⟩ := ad
    by_cases hp : 0 < bs.length
    · obtain ⟨b1, o1, e, _⟩ := h.cells 0 hp
      cases e
      refine run_convert_bytes_arg w 32 5 Try.underlying32 Try.underlying5 b o L cap _ (by rw [List.length_map]; exact hL) (fun i hi => ?_) 9 Try.underlying9
      obtain ⟨b1, o1, e, _, hc⟩ := lst8 h i (by omega)
      cases e
      rw [hc]
      simp [show i < bs.length by omega]
    · obtain rfl : bs = [] := List.length_eq_zero_iff.1 (by omega)
      obtain rfl : L = 0 := hL.symm
      rw [run_convert_bytes_string w 32 9 5 _ 0 cap Try.underlying32 Try.underlying5 Try.underlying9, run_bytesToString w _ 0 cap [] (by have := run_loadCells_list (P := Try.prog) w ⟨b, o, sp⟩ [] (fun j v hj => by simp at hj); simpa using this)]
      rfl
theorem map_inj8 : ∀ {xs ys : List Nat}, (∀ d ∈ xs, d < 256) → (∀ d ∈ ys, d < 256) → xs.map (fun x => UInt8.ofNat x) = ys.map (fun x => UInt8.ofNat x) → xs = ys
  | [], [], _, _, _ => rfl
  | [], y :: ys, _, _, h => by cases h
  | x :: xs, [], _, _, h => by cases h
  | x :: xs, y :: ys, hx, hy, h => by
    rw [List.map_cons, List.map_cons] at h
    injection h with h1 h2
    have e1 := congrArg UInt8.toNat h1
    rw [UInt8.toNat_ofNat', UInt8.toNat_ofNat'] at e1
    have b1 := hx x (List.mem_cons_self ..)
    have b2 := hy y (List.mem_cons_self ..)
    have e2 : x = y := by
      have : (2 : Nat) ^ 8 = 256 := rfl
      rw [this] at e1
      omega
    rw [e2, map_inj8 (fun d hd => hx d (List.mem_cons_of_mem _ hd)) (fun d hd => hy d (List.mem_cons_of_mem _ hd)) h2]
theorem str_list (xs : List Nat) : (strOfNums (xs.map (fun x : Nat => (x : Int)))).toList = xs.map (fun x => UInt8.ofNat x) := by
  rw [Lib.strOfNums_toList]
  simp [Lib.bytesOf]
set_option maxRecDepth 100000 in
theorem beq_any (va : Option Addr) (cap : Nat) (vb : Option Addr) (cap2 : Nat) (xs ys : List Nat) (n m : Nat) (hn : xs.length = n) (hm : ys.length = m) (w : World) (hx : Lst E8 w va xs) (hy : Lst E8 w vb ys) (ux : ∀ d ∈ xs, d < 256) (uy : ∀ d ∈ ys, d < 256) (t : Bool) (ht : decide (xs = ys) = t) :
    Calls Try.prog 74 #[.slice va n cap, .slice vb m cap2] w fun e w' => e = .returned (.bool t) ∧ w' = w := by
  have h1 := conv_by (cap := cap) hx hn
  have h2 := conv_by (cap := cap2) hy hm
  have HT : Hid (((strOfNums (xs.map (fun x : Nat => (x : Int)))).toList == (strOfNums (ys.map (fun x : Nat => (x : Int)))).toList) = t) := by
    show _ = _
    rw [← ht, Bool.eq_iff_iff, decide_eq_true_iff, beq_iff_eq, str_list, str_list]
    exact ⟨map_inj8 ux uy, fun e => by rw [e]⟩
  obtain ⟨S, hS⟩ : ∃ S, strOfNums (xs.map (fun x : Nat => (x : Int))) = S := ⟨_, rfl⟩
  obtain ⟨R, hR⟩ : ∃ S, strOfNums (ys.map (fun x : Nat => (x : Int))) = S := ⟨_, rfl⟩
  rw [hS] at h1 HT
  rw [hR] at h2 HT
  clear hx hy hS hR hn hm ux uy ht
  go_enter Try.func74, Try.ntmps74
  go_wp2_with fail
  go_ret
  exact ⟨ret_bool HT.out, rfl⟩
theorem any_take {xs : List Nat} {k i : Nat} (hi : i < k) (hx : i < xs.length) (hb : xs[i] ≠ 255) : (xs.take k).any (fun c => c != 255) = true := by
  rw [List.any_eq_true]
  exact ⟨xs[i], List.mem_take_iff_getElem.2 ⟨i, by omega, rfl⟩, by simpa using hb⟩
theorem bg_bad {xs : List Nat} {i : Nat} (hi : i < 4) (hx : i < xs.length) (hb : xs[i] ≠ 255) : bgE xs = 4 := by
  unfold bgE
  rw [any_take hi hx hb, if_pos rfl]
theorem bg_ok {xs : List Nat} (h : ∀ i (hx : i < xs.length), i < 4 → xs[i] = 255) : bgE xs = if 6 ≤ xs.length ∧ ¬ (9 ≤ num ((xs.drop 4).take 2) ∧ num ((xs.drop 4).take 2) ≤ 1024) then 6 else 0 := by
  unfold bgE
  have e : (xs.take 4).any (fun c => c != 255) = false := by
    rw [List.any_eq_false]
    intro c hc
    obtain ⟨i, hi, rfl⟩ := List.mem_take_iff_getElem.1 hc
    rw [h i (by omega) (by omega)]
    decide
  rw [e, if_neg (by decide)]
set_option maxRecDepth 100000 in
set_option maxHeartbeats 4000000 in
theorem begin_gt (va : Option Addr) (cap : Nat) (xs : List Nat) (n : Nat) (hn : xs.length = n) (hcap : n ≤ cap) (h4 : 4 < n) (w : World) (hl : Lst E8 w va xs) (hu : ∀ d ∈ xs, d < 256) (r : Int) (hr : bgE xs = r) :
    Calls Try.prog 58 #[.slice va n cap] w fun e w' => e = .returned (.int .i64 r) ∧ w' = w := by
  have HL : Hid (Lst E8 w va xs) := hl
  have HU : Hid (∀ d ∈ xs, d < 256) := hu
  have HN : Hid (xs.length = n) := hn
  have hsm := hl.small
  rw [hn] at hsm
  have hmi : (4 : Int) ≤ (n : Int) := by omega
  have hmj : ¬ (n : Int) ≤ 4 := by omega
  have hmk : ¬ (n : Int) < 4 := by omega
  have hmx : max (4 : Int) 0 = 4 := by decide
  have hkci : (4 : Int) ≤ (cap : Int) := by omega
  have hkcn : 4 ≤ cap := by omega
  obtain ⟨z, hz⟩ : ∃ z, num ((xs.drop 4).take 2) = z := ⟨_, rfl⟩
  have HZ : Hid (num ((xs.drop 4).take 2) = z) := hz
  have HR : Hid (bgE xs = r) := hr
  clear hl hu hn hz hr
  go_enter Try.func58, Try.ntmps58
  go_wp2_with fail
  go_loopw [11] (fun iv wr => ∃ (i : Nat), i ≤ 4 ∧ iv = .int .i64 (i : Int) ∧ (∀ j (hj : j < xs.length), j < i → xs[j] = 255) ∧ wr = w) (fun i _ => 4 - (intOf i).toNat)
  case atStart => exact ⟨0, by omega, rfl, fun j _ h => absurd h (by omega), rfl⟩
  case round =>
    obtain ⟨i, hi, rfl, hff, hwr⟩ := hrel
    subst hwr
    have HF : Hid (∀ j (hj : j < xs.length), j < i → xs[j] = 255) := hff
    clear hff
    by_cases hlt : i < 4
    · have hil : i < xs.length := by rw [HN.out]; omega
      obtain ⟨b, o, rfl, hbl, c0⟩ := lst8 HL.out i hil
      obtain ⟨d, hd⟩ : ∃ d, xs[i] = d := ⟨_, rfl⟩
      have HD : Hid (xs[i] = d) := hd
      rw [hd] at c0
      have hii : (i : Int) < (4 : Int) := by omega
      have ii0 : (0 : Int) ≤ i := by omega
      clear hd
      by_cases h255 : d = 255
      · subst h255
        have HF2 : Hid (∀ j (hj : j < xs.length), j < i + 1 → xs[j] = 255) := fun j hj hji => by
          by_cases e : j = i
          · subst e; exact HD.out
          · exact HF.out j hj (by omega)
        go_wp2_with fail
        exact ⟨⟨i + 1, by omega, by simp, HF2.out, by first | trivial | rfl⟩, by simp [intOf]; omega⟩
      · have h255b : ((d : Int) != 255) = true := by simp; omega
        have HE : Hid (bgE xs = 4) := bg_bad (by omega) hil (by rw [HD.out]; exact h255)
        go_wp2_with fail
        go_ret
        exact ⟨ret_i64 (by rw [← HR.out, HE.out]), rfl⟩
    · obtain rfl : i = 4 := by omega
      have HE : Hid (bgE xs = if 6 ≤ n ∧ ¬ (9 ≤ z ∧ z ≤ 1024) then 6 else 0) := by
        show _ = _
        rw [bg_ok (fun j hj h4 => HF.out j hj (by rw [HN.out] at hj; omega)), HN.out, HZ.out]
      clear HF
      by_cases h6 : 6 ≤ n
      · obtain ⟨t, ht⟩ : ∃ t, wi (z : Int) 9 1024 = t := ⟨_, rfl⟩
        have HT : Hid (wi (z : Int) 9 1024 = t) := ht
        have htell : decide (6 ≤ n) = true := by simp [h6]
        have HTL := tells_any va cap n wr
        rw [htell] at HTL
        have HSZ := sizeOf_any va cap xs n HN.out h6 hcap wr HL.out HU.out
        rw [HZ.out] at HSZ
        clear ht htell
        go_wp2_with fail
        refine HTL.mono ?_
        rintro e w5 ⟨rfl, hw5⟩
        rw [hw5]
        clear hw5 w5 HTL
        go_wp2_with fail
        refine HSZ.mono ?_
        rintro e w5 ⟨rfl, hw5⟩
        rw [hw5]
        clear hw5 w5 HSZ
        go_wp2_with fail
        refine (within_any (z : Int) 9 1024 t HT.out _).mono ?_
        rintro e w5 ⟨rfl, hw5⟩
        rw [hw5]
        clear hw5 w5
        cases t with
        | true =>
          have HE2 : Hid (bgE xs = 0) := by
            show _ = _
            have h9 := wi_iff.1 HT.out
            rw [HE.out, if_neg (by omega)]
          clear HE
          go_wp2_with fail
          go_ret
          exact ⟨ret_i64 (by rw [← HR.out, HE2.out]), rfl⟩
        | false =>
          have HE2 : Hid (bgE xs = 6) := by
            show _ = _
            have h9 := wi_not.1 HT.out
            rw [HE.out, if_pos (by omega)]
          clear HE
          go_wp2_with fail
          go_ret
          exact ⟨ret_i64 (by rw [← HR.out, HE2.out]), rfl⟩
      · have htell : decide (6 ≤ n) = false := by simp [h6]
        have HTL := tells_any va cap n wr
        rw [htell] at HTL
        have HE2 : Hid (bgE xs = 0) := by
          show _ = _
          rw [HE.out, if_neg (by omega)]
        clear HE htell
        go_wp2_with fail
        refine HTL.mono ?_
        rintro e w5 ⟨rfl, hw5⟩
        rw [hw5]
        clear hw5 w5 HTL
        go_wp2_with fail
        go_ret
        exact ⟨ret_i64 (by rw [← HR.out, HE2.out]), rfl⟩
set_option maxRecDepth 100000 in
set_option maxHeartbeats 4000000 in
theorem begin_le (va : Option Addr) (cap : Nat) (xs : List Nat) (n : Nat) (hn : xs.length = n) (hcap : n ≤ cap) (h4 : n ≤ 4) (w : World) (hl : Lst E8 w va xs) (hu : ∀ d ∈ xs, d < 256) (r : Int) (hr : bgE xs = r) :
    Calls Try.prog 58 #[.slice va n cap] w fun e w' => e = .returned (.int .i64 r) ∧ w' = w := by
  have HL : Hid (Lst E8 w va xs) := hl
  have HU : Hid (∀ d ∈ xs, d < 256) := hu
  have HN : Hid (xs.length = n) := hn
  have hsm := hl.small
  rw [hn] at hsm
  have hmi : (n : Int) ≤ 4 := by omega
  have hmk : ¬ (4 : Int) < n := by omega
  have hkci : (n : Int) ≤ (cap : Int) := by omega
  have hkcn : n ≤ cap := by omega
  obtain ⟨z, hz⟩ : ∃ z, num ((xs.drop 4).take 2) = z := ⟨_, rfl⟩
  have HZ : Hid (num ((xs.drop 4).take 2) = z) := hz
  have HR : Hid (bgE xs = r) := hr
  clear hl hu hn hz hr
  go_enter Try.func58, Try.ntmps58
  go_wp2_with fail
  go_loopw [11] (fun iv wr => ∃ (i : Nat), i ≤ n ∧ iv = .int .i64 (i : Int) ∧ (∀ j (hj : j < xs.length), j < i → xs[j] = 255) ∧ wr = w) (fun i _ => n - (intOf i).toNat)
  case atStart => exact ⟨0, by omega, rfl, fun j _ h => absurd h (by omega), rfl⟩
  case round =>
    obtain ⟨i, hi, rfl, hff, hwr⟩ := hrel
    subst hwr
    have HF : Hid (∀ j (hj : j < xs.length), j < i → xs[j] = 255) := hff
    clear hff
    by_cases hlt : i < n
    · have hil : i < xs.length := by rw [HN.out]; omega
      obtain ⟨b, o, rfl, hbl, c0⟩ := lst8 HL.out i hil
      obtain ⟨d, hd⟩ : ∃ d, xs[i] = d := ⟨_, rfl⟩
      have HD : Hid (xs[i] = d) := hd
      rw [hd] at c0
      have hii : (i : Int) < (n : Int) := by omega
      have ii0 : (0 : Int) ≤ i := by omega
      clear hd
      by_cases h255 : d = 255
      · subst h255
        have HF2 : Hid (∀ j (hj : j < xs.length), j < i + 1 → xs[j] = 255) := fun j hj hji => by
          by_cases e : j = i
          · subst e; exact HD.out
          · exact HF.out j hj (by omega)
        go_wp2_with fail
        exact ⟨⟨i + 1, by omega, by simp, HF2.out, by first | trivial | rfl⟩, by simp [intOf]; omega⟩
      · have h255b : ((d : Int) != 255) = true := by simp; omega
        have HE : Hid (bgE xs = 4) := bg_bad (by omega) hil (by rw [HD.out]; exact h255)
        go_wp2_with fail
        go_ret
        exact ⟨ret_i64 (by rw [← HR.out, HE.out]), rfl⟩
    · obtain rfl : i = n := by omega
      have HE : Hid (bgE xs = if 6 ≤ i ∧ ¬ (9 ≤ z ∧ z ≤ 1024) then 6 else 0) := by
        show _ = _
        rw [bg_ok (fun j hj h4 => HF.out j hj (by rw [HN.out] at hj; omega)), HN.out, HZ.out]
      clear HF
      have htell : decide (6 ≤ i) = false := by simp; omega
      have HTL := tells_any va cap i wr
      rw [htell] at HTL
      have HE2 : Hid (bgE xs = 0) := by
        show _ = _
        rw [HE.out, if_neg (by omega)]
      clear HE htell
      go_wp2_with fail
      refine HTL.mono ?_
      rintro e w5 ⟨rfl, hw5⟩
      rw [hw5]
      clear hw5 w5 HTL
      go_wp2_with fail
      go_ret
      exact ⟨ret_i64 (by rw [← HR.out, HE2.out]), rfl⟩
theorem begin_any (va : Option Addr) (cap : Nat) (xs : List Nat) (n : Nat) (hn : xs.length = n) (hcap : n ≤ cap) (w : World) (hl : Lst E8 w va xs) (hu : ∀ d ∈ xs, d < 256) :
    Calls Try.prog 58 #[.slice va n cap] w fun e w' => e = .returned (.int .i64 (bgE xs)) ∧ w' = w := by
  by_cases h4 : n ≤ 4
  · exact begin_le va cap xs n hn hcap h4 w hl hu _ rfl
  · exact begin_gt va cap xs n hn hcap (by omega) w hl hu _ rfl
end Go.Proofs.Ytanboekdfdafmaa.Pv
