/- What stands in a frame, read by its places: plain. -/
import Derived.Test.YtagfdmkgnedlbaeLtE
import Derived.Test.YtagfdmkgnedlbaeLsZa
namespace Go.Proofs.Ytagfdmkgnedlbae.Ls
open Go.Proofs.Ytagfdmkgnedlbae.PM
set_option linter.unusedVariables false

theorem sub_at (bs : List Nat) {m p n : Nat} (h : p + n ≤ m) : ((bs.take m).drop p).take n = (bs.drop p).take n := by
  rw [List.drop_take, List.take_take, Nat.min_eq_left (by omega)]
theorem links_at {bs : List Nat} {L m : Nat} (hL : bs.length = L) (hm : m ≤ L) : ∀ (k p : Nat), p + 8 * k ≤ m → decN decLk k ((bs.take m).drop p, false) = ((decN decLk k (bs.drop p, false)).1, ((bs.take m).drop (p + 8 * k), false)) ∧ (decN decLk k (bs.drop p, false)).2 = (bs.drop (p + 8 * k), false) ∧ (decN decLk k (bs.drop p, false)).1.length = k
  | 0, p, _ => ⟨rfl, rfl, rfl⟩
  | k + 1, p, h => by
    have hbl : (bs.take m).length = m := by rw [List.length_take]; omega
    obtain ⟨h1, h2, h3⟩ := links_at hL hm k (p + 8) (by omega)
    have e1 := decLk_at hL (show p + 8 ≤ L by omega)
    have e2 := decLk_at hbl (show p + 8 ≤ m by omega)
    rw [sub_at bs (by omega), sub_at bs (by omega), sub_at bs (by omega)] at e2
    refine ⟨?_, ?_, ?_⟩
    · simp only [decN, e1, e2, h1]
      rw [show p + 8 + 8 * k = p + 8 * (k + 1) by omega]
    · simp only [decN, e1, h2]
      rw [show p + 8 + 8 * k = p + 8 * (k + 1) by omega]
    · simp only [decN, e1, List.length_cons, h3]
theorem stubs_at {bs : List Nat} {L m : Nat} (hL : bs.length = L) (hm : m ≤ L) : ∀ (k p : Nat), p + 7 * k ≤ m → decN decSt k ((bs.take m).drop p, false) = ((decN decSt k (bs.drop p, false)).1, ((bs.take m).drop (p + 7 * k), false)) ∧ (decN decSt k (bs.drop p, false)).2 = (bs.drop (p + 7 * k), false) ∧ (decN decSt k (bs.drop p, false)).1.length = k
  | 0, p, _ => ⟨rfl, rfl, rfl⟩
  | k + 1, p, h => by
    have hbl : (bs.take m).length = m := by rw [List.length_take]; omega
    obtain ⟨h1, h2, h3⟩ := stubs_at hL hm k (p + 7) (by omega)
    have e1 := decSt_at hL (show p + 7 ≤ L by omega)
    have e2 := decSt_at hbl (show p + 7 ≤ m by omega)
    rw [sub_at bs (by omega), sub_at bs (by omega), sub_at bs (by omega)] at e2
    refine ⟨?_, ?_, ?_⟩
    · simp only [decN, e1, e2, h1]
      rw [show p + 7 + 7 * k = p + 7 * (k + 1) by omega]
    · simp only [decN, e1, h2]
      rw [show p + 7 + 7 * k = p + 7 * (k + 1) by omega]
    · simp only [decN, e1, List.length_cons, h3]
/-- an announcement within the body is the one that stands there -/
theorem decL_in {bs : List Nat} {L m a : Nat} (hL : bs.length = L) (hm : m ≤ L) (l s : Nat) (hl : num ((bs.drop (a + 1)).take 1) = l) (hs : num ((bs.drop (a + 2)).take 1) = s) (h : a + 28 + 8 * l + 7 * s ≤ m) : decL ((bs.take m).drop a, false) = ((decL (bs.drop a, false)).1, ((bs.take m).drop (a + 28 + 8 * l + 7 * s), false)) := by
  have hbl : (bs.take m).length = m := by rw [List.length_take]; omega
  rw [decL_at hL (by omega), decL_at hbl (by omega)]
  rw [sub_at bs (by omega), sub_at bs (by omega), sub_at bs (by omega), sub_at bs (by omega), sub_at bs (by omega), sub_at bs (by omega), sub_at bs (by omega), sub_at bs (by omega), sub_at bs (by omega), sub_at bs (by omega), sub_at bs (by omega), hl, hs]
  obtain ⟨h1, h2, -⟩ := links_at hL hm l (a + 28) (by omega)
  obtain ⟨h3, h4, -⟩ := stubs_at hL hm s (a + 28 + 8 * l) (by omega)
  rw [h1]
  dsimp only
  rw [h2, h3]
/-- one that does not lie within the body falls short -/
theorem decL_out {bs : List Nat} {L m a : Nat} (hL : bs.length = L) (hm : m ≤ L) (hu : ∀ d ∈ bs, d < 256) (ham : a ≤ m) (h : m < a + 28 ∨ m < a + 28 + 8 * num ((bs.drop (a + 1)).take 1) + 7 * num ((bs.drop (a + 2)).take 1)) : (decL ((bs.take m).drop a, false)).2.2 = true := by
  have hbl : (bs.take m).length = m := by rw [List.length_take]; omega
  cases e : (decL ((bs.take m).drop a, false)).2.2 with
  | true => rfl
  | false =>
    exfalso
    have hub : ∀ d ∈ (bs.take m).drop a, d < 256 := fun d hd => hu d (List.mem_of_mem_take (List.mem_of_mem_drop hd))
    have hb := decL_back (r := ((bs.take m).drop a, false)) hub e
    have hlen := congrArg List.length hb.eq
    rw [List.length_append, encL_len, List.length_drop, hbl] at hlen
    by_cases h28 : m < a + 28
    · omega
    · have h1 := decL_at hbl (show a + 28 ≤ m by omega)
      rw [sub_at bs (show a + 1 + 1 ≤ m by omega), sub_at bs (show a + 2 + 1 ≤ m by omega)] at h1
      have hne : (decL ((bs.take m).drop a, false)).2.2 = false := e
      rw [h1] at hlen hne
      dsimp only at hlen hne
      have hs1 := decN_short decSt_mono _ _ hne
      have hub2 : ∀ d ∈ ((bs.take m).drop (a + 28)), d < 256 := fun d hd => hu d (List.mem_of_mem_take (List.mem_of_mem_drop hd))
      obtain ⟨l1, b1⟩ := decN_back decLk_mono (fun r hu h => decLk_back hu h) _ ((bs.take m).drop (a + 28), false) hub2 hs1
      obtain ⟨l2, -⟩ := decN_back decSt_mono (fun r hu h => decSt_back hu h) _ _ b1.u8 hne
      rw [l1, l2] at hlen
      omega
/-- where one falls short, all do -/
theorem decN_out {α : Type} {f : Rst → α × Rst} (hm : ∀ r, (f r).2.2 = false → r.2 = false) {n : Nat} {r : Rst} (hn : 0 < n) (h : (f r).2.2 = true) : (decN f n r).2.2 = true := by
  cases n with
  | zero => cases hn
  | succ n =>
    cases e : (decN f (n + 1) r).2.2 with
    | true => rfl
    | false =>
      have h1 := decN_short hm n (f r).2 e
      rw [h] at h1
      cases h1
/-- what a frame holds ahead of its announcements, by its places -/
theorem decB_at {bs : List Nat} {L m : Nat} (hL : bs.length = L) (hm : m ≤ L) (h16 : 16 ≤ m) : decB (bs.take m, false) =
    let A := decN decL (num ((bs.drop 3).take 1)) ((bs.take m).drop 16, false)
    let p : Pk := ⟨(num ((bs.drop 2).take 1) : Nat), (num ((bs.drop 8).take 4) : Nat), (num ((bs.drop 6).take 2) : Nat), (num ((bs.drop 12).take 4) : Nat), A.1⟩
    if isK p.kind = false then (noPk, 13) else if A.2.2 = true ∨ 0 < A.2.1.length then (noPk, 4) else if rangeP p.kind p.frm p.area p.seen p.xs = false then (noPk, 2) else (p, 0) := by
  have hbl : (bs.take m).length = m := by rw [List.length_take]; omega
  have q1 : rdR 2 (bs.take m, false) = ((bs.take m).drop 2, false) := rdR_at (a := 0) hbl (by omega)
  have q2 : rdR 1 ((bs.take m).drop 2, false) = ((bs.take m).drop 3, false) := rdR_at hbl (by omega)
  have q3 : rdR 1 ((bs.take m).drop 3, false) = ((bs.take m).drop 4, false) := rdR_at hbl (by omega)
  have q4 : rdR 2 ((bs.take m).drop 4, false) = ((bs.take m).drop 6, false) := rdR_at hbl (by omega)
  have q5 : rdR 2 ((bs.take m).drop 6, false) = ((bs.take m).drop 8, false) := rdR_at hbl (by omega)
  have q6 : rdR 4 ((bs.take m).drop 8, false) = ((bs.take m).drop 12, false) := rdR_at hbl (by omega)
  have q7 : rdR 4 ((bs.take m).drop 12, false) = ((bs.take m).drop 16, false) := rdR_at hbl (by omega)
  have v1 : rdV 1 ((bs.take m).drop 2, false) = num ((bs.drop 2).take 1) := by rw [rdV_at hbl (by omega), sub_at bs (by omega)]
  have v2 : rdV 1 ((bs.take m).drop 3, false) = num ((bs.drop 3).take 1) := by rw [rdV_at hbl (by omega), sub_at bs (by omega)]
  have v3 : rdV 2 ((bs.take m).drop 6, false) = num ((bs.drop 6).take 2) := by rw [rdV_at hbl (by omega), sub_at bs (by omega)]
  have v4 : rdV 4 ((bs.take m).drop 8, false) = num ((bs.drop 8).take 4) := by rw [rdV_at hbl (by omega), sub_at bs (by omega)]
  have v5 : rdV 4 ((bs.take m).drop 12, false) = num ((bs.drop 12).take 4) := by rw [rdV_at hbl (by omega), sub_at bs (by omega)]
  unfold decB
  simp only [hdR, q1, q2, q3, q4, q5, q6, q7, v1, v2, v3, v4, v5]
end Go.Proofs.Ytagfdmkgnedlbae.Ls
