/- MinFunc, IndexFunc, DeleteFunc. -/
import Derived.Test.YtkahjibdmhaglaaChB
import Derived.Lib.SliceRun
import Derived.Laws.IdiomCopy
namespace Go.Proofs.Ytkahjibdmhaglaa.Ch
open Go.ChangeShapes Go.WideShapes Go.ChangeAt Go.RowKit Go.Joins Go.Deep Go.Proofs.Ytkahjibdmhaglaa.Ge
set_option linter.unusedVariables false
set_option linter.unusedSimpArgs false

/-- the first of the least -/
def minP (f : Nat → Nat → Int) : List Nat → Nat
  | [] => 0
  | x :: xs => xs.foldl (fun m j => if f j m < 0 then j else m) x
def MnI (w : World) (f : Nat → Nat → Int) (ps : List Nat) (n : Nat) (iv mv : Value) (W : World) : Prop := ∃ i q : Nat, 1 ≤ i ∧ i ≤ n ∧ iv = .int .i64 (i : Int) ∧ mv = .int .i64 ((minP f (ps.take i) : Nat) : Int) ∧ W = w.drewN q
theorem minP_next {f : Nat → Nat → Int} {ps : List Nat} {i : Nat} (h0 : 1 ≤ i) (h : i < ps.length) : minP f (ps.take (i + 1)) = if f ps[i] (minP f (ps.take i)) < 0 then ps[i] else minP f (ps.take i) := by
  cases ps with
  | nil => simp at h
  | cons x xs =>
    obtain ⟨m, rfl⟩ : ∃ m, i = m + 1 := ⟨i - 1, by omega⟩
    have hm : m < xs.length := by simpa using h
    show List.foldl (fun m j => if f j m < 0 then j else m) x (xs.take (m + 1)) = if f xs[m] (List.foldl (fun m j => if f j m < 0 then j else m) x (xs.take m)) < 0 then xs[m] else List.foldl (fun m j => if f j m < 0 then j else m) x (xs.take m)
    have e : xs.take (m + 1) = xs.take m ++ [xs[m]] := (List.take_append_getElem hm).symm
    rw [e, List.foldl_append]
    rfl
theorem minP_mem (f : Nat → Nat → Int) : ∀ ps : List Nat, ps ≠ [] → minP f ps ∈ ps
  | x :: xs, _ => by
    show List.foldl (fun m j => if f j m < 0 then j else m) x xs ∈ x :: xs
    suffices h : ∀ (ys : List Nat) (m : Nat), ys.foldl (fun m j => if f j m < 0 then j else m) m = m ∨ ys.foldl (fun m j => if f j m < 0 then j else m) m ∈ ys by
      rcases h xs x with e | e
      · rw [e]; exact List.mem_cons_self
      · exact List.mem_cons_of_mem _ e
    intro ys
    induction ys with
    | nil => exact fun m => .inl rfl
    | cons y ys ih =>
      intro m
      rw [List.foldl_cons]
      rcases ih (if f y m < 0 then y else m) with e | e
      · rw [e]
        split
        · exact .inr List.mem_cons_self
        · exact .inl rfl
      · exact .inr (List.mem_cons_of_mem _ e)
set_option maxRecDepth 100000 in
set_option maxHeartbeats 8000000 in
theorem min_any (c1 c2 : Value) (f : Nat → Nat → Int) (va : Option Addr) (n cap : Nat) (ps : List Nat) (hn : ps.length = n) (h0 : 0 < n) (w : World) (h : Lst EN w va ps) (hd : ∀ q, ∀ i ∈ ps, ∀ j ∈ ps, Calls Try.prog 80 #[.int .i64 (i : Int), .int .i64 (j : Int), c1, c2] (w.drewN q) fun e w' => e = .returned (.int .i64 (f i j)) ∧ ∃ m, w' = (w.drewN q).drewN m) : Calls Try.prog 79 #[.slice va n cap, .func (.func 80) #[] #[c1, c2]] w fun e w' => e = .returned (.int .i64 (minP f ps : Nat)) ∧ ∃ q, w' = w.drewN q := by
  have H : Hid (Lst EN w va ps) := h
  have HN : Hid (ps.length = n) := hn
  have HD : Hid (∀ q, ∀ i ∈ ps, ∀ j ∈ ps, Calls Try.prog 80 #[.int .i64 (i : Int), .int .i64 (j : Int), c1, c2] (w.drewN q) fun e w' => e = .returned (.int .i64 (f i j)) ∧ ∃ m, w' = (w.drewN q).drewN m) := hd
  have hsm := h.small
  rw [hn] at hsm
  obtain ⟨z, hz⟩ : ∃ z, minP f ps = z := ⟨_, rfl⟩
  have HZ : Hid (minP f ps = z) := hz
  rw [hz]
  obtain ⟨b, o, rfl, hbl, hc⟩ := h.cells 0 (by omega)
  obtain ⟨y0, hy0⟩ : ∃ y, ps[0]'(by omega) = y := ⟨_, rfl⟩
  rw [hy0] at hc
  have k0 : w.cell? ⟨b, o, none⟩ = some (.int .i64 (y0 : Int)) := hc 0 (by decide)
  have HM1 : Hid (minP f (ps.take 1) = y0) := by
    rw [← hy0]
    clear hy0 hc h hd H HN HD HZ hz
    cases ps with
    | nil => simp at hn; omega
    | cons x xs => rfl
  have h1i : ¬ (n : Int) < 1 := by omega
  have h1j : (0 : Int) < (n : Int) := by omega
  clear hy0 h hn hd hz hc hbl
  go_enter Try.func79, Try.ntmps79
  go_wp2_with fail
  go_loopw [6, 5] (fun iv mv wr => MnI w f ps n iv mv wr) (fun i _ _ => n - (intOf i).toNat)
  case atStart => exact ⟨1, 0, by omega, by omega, rfl, by rw [HM1.out], rfl⟩
  case round =>
    obtain ⟨i, q, hi1, hi, rfl, rfl, hw⟩ := hrel
    obtain ⟨wz, hwz⟩ : ∃ y, wr = y := ⟨_, rfl⟩
    rw [hwz] at hw ⊢
    have HW : Hid (wz = w.drewN q) := hw
    clear hw hwz k0
    obtain ⟨m, hm⟩ : ∃ y, minP f (ps.take i) = y := ⟨_, rfl⟩
    have HM : Hid (minP f (ps.take i) = m) := hm
    have HMM : Hid (m ∈ ps) := by
      rw [← hm]
      have h5 := minP_mem f (ps.take i) (fun e => by
        have h6 : (ps.take i).length = 0 := by rw [e]; rfl
        rw [List.length_take] at h6
        have h7 := HN.out
        omega)
      exact List.mem_of_mem_take h5
    rw [hm]
    clear hm
    by_cases hlt : i < n
    case neg =>
      have hii : ¬ (i : Int) < (n : Int) := by omega
      have HE : Hid (m = z) := by
        have h5 := HM.out
        rw [List.take_of_length_le (by have := HN.out; omega), HZ.out] at h5
        exact h5.symm
      go_wp2_with fail
      go_ret
      exact ⟨by rw [HE.out]; try rfl, q, HW.out⟩
    have hil : i < ps.length := by rw [HN.out]; exact hlt
    have hii : (i : Int) < (n : Int) := by omega
    have ii0 : (0 : Int) ≤ (i : Int) := by omega
    obtain ⟨b', o', e', hbl', hc'⟩ := H.out.cells i hil
    cases e'
    obtain ⟨y, hy⟩ : ∃ y, ps[i] = y := ⟨_, rfl⟩
    have HY : Hid (y ∈ ps) := hy ▸ List.getElem_mem hil
    rw [hy] at hc'
    have k1 : wz.cell? ⟨b, o + i, none⟩ = some (.int .i64 (y : Int)) := by
      rw [HW.out]
      have h5 := hc' 0 (by decide)
      have e1 : EN.k = 1 := rfl
      rw [e1, Nat.mul_one] at h5
      exact h5
    have HNX : Hid (minP f (ps.take (i + 1)) = if f y m < 0 then y else m) := by show _ = _; rw [minP_next hi1 hil, HM.out, hy]
    have HCA := HD.out q y HY.out m HMM.out
    rw [← HW.out] at HCA
    clear hy hc' hbl'
    go_wp2_with fail
    refine HCA.mono ?_
    rintro e W2 ⟨rfl, q2, hw2⟩
    have HW2 : Hid (W2 = w.drewN (q + q2)) := by show _ = _; rw [hw2, HW.out, World.drewN_drewN]
    obtain ⟨c, hcc⟩ : ∃ y', f y m = y' := ⟨_, rfl⟩
    rw [hcc] at HNX ⊢
    have k2 : W2.cell? ⟨b, o + i, none⟩ = some (.int .i64 (y : Int)) := by rw [hw2]; exact k1
    clear hw2 HCA hcc k1
    by_cases hc0 : c < 0
    case pos =>
      rw [if_pos hc0] at HNX
      go_wp2_with fail
      refine ⟨⟨i + 1, q + q2, by omega, by omega, by simp, by rw [HNX.out], HW2.out⟩, ?_⟩
      simp [intOf]
      omega
    case neg =>
      rw [if_neg hc0] at HNX
      go_wp2_with fail
      refine ⟨⟨i + 1, q + q2, by omega, by omega, by simp, by rw [HNX.out], HW2.out⟩, ?_⟩
      simp [intOf]
      omega
/-- where the first stands that is to be deleted -/
def ixP (del : Nat → Bool) (ps : List Nat) : Int := ((ps.findIdx? del).map (fun i => (i : Int))).getD (-1)
theorem ix_at {del : Nat → Bool} {ps : List Nat} {i : Nat} (hi : i < ps.length) (hd : del ps[i] = true) (hb : ∀ j (hj : j < i), del (ps[j]'(by omega)) = false) : ixP del ps = (i : Int) := by
  have h1 : ps.findIdx? del = some i := by
    rw [List.findIdx?_eq_some_iff_getElem]
    exact ⟨hi, hd, fun j hj => by rw [hb j hj]; decide⟩
  unfold ixP
  rw [h1]
  rfl
theorem ix_no {del : Nat → Bool} {ps : List Nat} (h : ∀ j (hj : j < ps.length), del ps[j] = false) : ixP del ps = -1 := by
  have h1 : ps.findIdx? del = none := by
    rw [List.findIdx?_eq_none_iff]
    intro m hm
    obtain ⟨j, hj, e⟩ := List.getElem_of_mem hm
    rw [← e]
    exact h j hj
  unfold ixP
  rw [h1]
  rfl
theorem ix_cases (del : Nat → Bool) (ps : List Nat) : (ixP del ps = -1 ∧ ∀ x ∈ ps, del x = false) ∨ ∃ (i : Nat) (hi : i < ps.length), ixP del ps = (i : Int) ∧ del ps[i] = true ∧ ∀ x ∈ ps.take i, del x = false := by
  cases hf : ps.findIdx? del with
  | none =>
    refine .inl ⟨by unfold ixP; rw [hf]; rfl, fun x hx => ?_⟩
    rw [List.findIdx?_eq_none_iff] at hf
    exact hf x hx
  | some i =>
    rw [List.findIdx?_eq_some_iff_getElem] at hf
    obtain ⟨hi, hp, hb⟩ := hf
    refine .inr ⟨i, hi, by unfold ixP; rw [show ps.findIdx? del = some i from by rw [List.findIdx?_eq_some_iff_getElem]; exact ⟨hi, hp, hb⟩]; rfl, hp, fun x hx => ?_⟩
    obtain ⟨j, hj, e⟩ := List.getElem_of_mem hx
    rw [List.length_take] at hj
    rw [List.getElem_take] at e
    rw [← e]
    simpa using hb j (by omega)
def IxI (w : World) (del : Nat → Bool) (ps : List Nat) (n : Nat) (iv : Value) (W : World) : Prop := ∃ i q : Nat, i ≤ n ∧ iv = .int .i64 (i : Int) ∧ W = w.drewN q ∧ ∀ j (hj : j < i) (hl : j < ps.length), del ps[j] = false
set_option maxRecDepth 100000 in
set_option maxHeartbeats 8000000 in
theorem idx81_any (c1 c2 c3 : Value) (del : Nat → Bool) (va : Option Addr) (n cap : Nat) (ps : List Nat) (hn : ps.length = n) (w : World) (h : Lst EN w va ps) (hd : ∀ q, ∀ i ∈ ps, Calls Try.prog 81 #[.int .i64 (i : Int), c1, c2, c3] (w.drewN q) fun e w' => e = .returned (.bool (del i)) ∧ ∃ m, w' = (w.drewN q).drewN m) : Calls Try.prog 82 #[.slice va n cap, .func (.func 81) #[] #[c1, c2, c3]] w fun e w' => e = .returned (.int .i64 (ixP del ps)) ∧ ∃ q, w' = w.drewN q := by
  have H : Hid (Lst EN w va ps) := h
  have HN : Hid (ps.length = n) := hn
  have HD : Hid (∀ q, ∀ i ∈ ps, Calls Try.prog 81 #[.int .i64 (i : Int), c1, c2, c3] (w.drewN q) fun e w' => e = .returned (.bool (del i)) ∧ ∃ m, w' = (w.drewN q).drewN m) := hd
  have hsm := h.small
  rw [hn] at hsm
  obtain ⟨z, hz⟩ : ∃ z, ixP del ps = z := ⟨_, rfl⟩
  have HZ : Hid (ixP del ps = z) := hz
  rw [hz]
  clear h hn hd hz
  go_enter Try.func82, Try.ntmps82
  go_wp2_with fail
  go_loopw [8, 5] (fun iv _ wr => IxI w del ps n iv wr) (fun i _ _ => n - (intOf i).toNat)
  case atStart => exact ⟨0, 0, by omega, rfl, rfl, fun j hj => by omega⟩
  case round =>
    obtain ⟨i, q, hi, rfl, hw, hno⟩ := hrel
    obtain ⟨wz, hwz⟩ : ∃ y, wr = y := ⟨_, rfl⟩
    rw [hwz] at hw ⊢
    have HW : Hid (wz = w.drewN q) := hw
    have HNO : Hid (∀ j (hj : j < i) (hl : j < ps.length), del ps[j] = false) := hno
    clear hw hwz hno
    by_cases hlt : i < n
    case neg =>
      have hii : ¬ (i : Int) < (n : Int) := by omega
      have HE : Hid (z = -1) := by show _ = _; rw [← HZ.out]; exact ix_no (fun j hj => HNO.out j (by have := HN.out; omega) hj)
      go_wp2_with fail
      go_ret
      exact ⟨by rw [HE.out]; try rfl, q, HW.out⟩
    have hil : i < ps.length := by rw [HN.out]; exact hlt
    have hii : (i : Int) < (n : Int) := by omega
    have ii0 : (0 : Int) ≤ (i : Int) := by omega
    obtain ⟨b, o, rfl, hbl', hc'⟩ := H.out.cells i hil
    obtain ⟨y, hy⟩ : ∃ y, ps[i] = y := ⟨_, rfl⟩
    have HYI : Hid (ps[i] = y) := hy
    rw [hy] at hc'
    have k1 : wz.cell? ⟨b, o + i, none⟩ = some (.int .i64 (y : Int)) := by
      rw [HW.out]
      have h5 := hc' 0 (by decide)
      have e1 : EN.k = 1 := rfl
      rw [e1, Nat.mul_one] at h5
      exact h5
    have HCA := HD.out q y (hy ▸ List.getElem_mem hil)
    rw [← HW.out] at HCA
    clear hy hc' hbl'
    go_wp2_with fail
    refine HCA.mono ?_
    rintro e W2 ⟨rfl, q2, hw2⟩
    have HW2 : Hid (W2 = w.drewN (q + q2)) := by show _ = _; rw [hw2, HW.out, World.drewN_drewN]
    obtain ⟨t, ht⟩ : ∃ y', del y = y' := ⟨_, rfl⟩
    have HT : Hid (del y = t) := ht
    rw [ht]
    clear hw2 HCA ht k1
    cases t
    case true =>
      have HE : Hid (z = (i : Int)) := by show _ = _; rw [← HZ.out]; exact ix_at hil (by rw [HYI.out]; exact HT.out) (fun j hj => HNO.out j hj (by omega))
      go_wp2_with fail
      go_ret
      exact ⟨by rw [HE.out]; try rfl, q + q2, HW2.out⟩
    case false =>
      have HN2 : Hid (∀ j (hj : j < i + 1) (hl : j < ps.length), del ps[j] = false) := fun j hj hl => by
        rcases Nat.lt_succ_iff_lt_or_eq.1 hj with h5 | h5
        · exact HNO.out j h5 hl
        · subst h5
          rw [HYI.out]
          exact HT.out
      go_wp2_with fail
      refine ⟨⟨i + 1, q + q2, by omega, by simp, HW2.out, HN2.out⟩, ?_⟩
      simp [intOf]
      omega
set_option maxRecDepth 100000 in
set_option maxHeartbeats 8000000 in
theorem idx71_any (c1 c2 : Value) (del : Nat → Bool) (va : Option Addr) (n cap : Nat) (ps : List Nat) (hn : ps.length = n) (w : World) (h : Lst EN w va ps) (hd : ∀ q, ∀ i ∈ ps, Calls Try.prog 71 #[.int .i64 (i : Int), c1, c2] (w.drewN q) fun e w' => e = .returned (.bool (del i)) ∧ ∃ m, w' = (w.drewN q).drewN m) : Calls Try.prog 82 #[.slice va n cap, .func (.func 71) #[] #[c1, c2]] w fun e w' => e = .returned (.int .i64 (ixP del ps)) ∧ ∃ q, w' = w.drewN q := by
  have H : Hid (Lst EN w va ps) := h
  have HN : Hid (ps.length = n) := hn
  have HD : Hid (∀ q, ∀ i ∈ ps, Calls Try.prog 71 #[.int .i64 (i : Int), c1, c2] (w.drewN q) fun e w' => e = .returned (.bool (del i)) ∧ ∃ m, w' = (w.drewN q).drewN m) := hd
  have hsm := h.small
  rw [hn] at hsm
  obtain ⟨z, hz⟩ : ∃ z, ixP del ps = z := ⟨_, rfl⟩
  have HZ : Hid (ixP del ps = z) := hz
  rw [hz]
  clear h hn hd hz
  go_enter Try.func82, Try.ntmps82
  go_wp2_with fail
  go_loopw [8, 5] (fun iv _ wr => IxI w del ps n iv wr) (fun i _ _ => n - (intOf i).toNat)
  case atStart => exact ⟨0, 0, by omega, rfl, rfl, fun j hj => by omega⟩
  case round =>
    obtain ⟨i, q, hi, rfl, hw, hno⟩ := hrel
    obtain ⟨wz, hwz⟩ : ∃ y, wr = y := ⟨_, rfl⟩
    rw [hwz] at hw ⊢
    have HW : Hid (wz = w.drewN q) := hw
    have HNO : Hid (∀ j (hj : j < i) (hl : j < ps.length), del ps[j] = false) := hno
    clear hw hwz hno
    by_cases hlt : i < n
    case neg =>
      have hii : ¬ (i : Int) < (n : Int) := by omega
      have HE : Hid (z = -1) := by show _ = _; rw [← HZ.out]; exact ix_no (fun j hj => HNO.out j (by have := HN.out; omega) hj)
      go_wp2_with fail
      go_ret
      exact ⟨by rw [HE.out]; try rfl, q, HW.out⟩
    have hil : i < ps.length := by rw [HN.out]; exact hlt
    have hii : (i : Int) < (n : Int) := by omega
    have ii0 : (0 : Int) ≤ (i : Int) := by omega
    obtain ⟨b, o, rfl, hbl', hc'⟩ := H.out.cells i hil
    obtain ⟨y, hy⟩ : ∃ y, ps[i] = y := ⟨_, rfl⟩
    have HYI : Hid (ps[i] = y) := hy
    rw [hy] at hc'
    have k1 : wz.cell? ⟨b, o + i, none⟩ = some (.int .i64 (y : Int)) := by
      rw [HW.out]
      have h5 := hc' 0 (by decide)
      have e1 : EN.k = 1 := rfl
      rw [e1, Nat.mul_one] at h5
      exact h5
    have HCA := HD.out q y (hy ▸ List.getElem_mem hil)
    rw [← HW.out] at HCA
    clear hy hc' hbl'
    go_wp2_with fail
    refine HCA.mono ?_
    rintro e W2 ⟨rfl, q2, hw2⟩
    have HW2 : Hid (W2 = w.drewN (q + q2)) := by show _ = _; rw [hw2, HW.out, World.drewN_drewN]
    obtain ⟨t, ht⟩ : ∃ y', del y = y' := ⟨_, rfl⟩
    have HT : Hid (del y = t) := ht
    rw [ht]
    clear hw2 HCA ht k1
    cases t
    case true =>
      have HE : Hid (z = (i : Int)) := by show _ = _; rw [← HZ.out]; exact ix_at hil (by rw [HYI.out]; exact HT.out) (fun j hj => HNO.out j hj (by omega))
      go_wp2_with fail
      go_ret
      exact ⟨by rw [HE.out]; try rfl, q + q2, HW2.out⟩
    case false =>
      have HN2 : Hid (∀ j (hj : j < i + 1) (hl : j < ps.length), del ps[j] = false) := fun j hj hl => by
        rcases Nat.lt_succ_iff_lt_or_eq.1 hj with h5 | h5
        · exact HNO.out j h5 hl
        · subst h5
          rw [HYI.out]
          exact HT.out
      go_wp2_with fail
      refine ⟨⟨i + 1, q + q2, by omega, by simp, HW2.out, HN2.out⟩, ?_⟩
      simp [intOf]
      omega
end Go.Proofs.Ytkahjibdmhaglaa.Ch
