/- without: it takes out of the trie. -/
import Derived.Test.YtibmhdfodmkahaaTrH
namespace Go.Proofs.Ytibmhdfodmkahaa.Tri
open Go.ChangeShapes Go.WideShapes Go.ChangeAt Go.RowKit Go.Proofs.Ytibmhdfodmkahaa.PM Go.Proofs.Ytibmhdfodmkahaa.TrM Go.Proofs.Ytibmhdfodmkahaa.Ask
set_option linter.unusedVariables false

/-- what Drop answers as the old value -/
def dold : Tr → Int → Int → Int
  | .nil, _, _ => 0
  | .node b m u h l r, a, n => if cov b m a n = true then (if b = a ∧ m = n then (if h = true then u else 0) else if sdI a m = 0 then dold l a n else dold r a n) else 0
theorem without_had (t : Tr) : ∀ (p : Option Addr) (w : World) (ok : Nat → Prop) (a n : Int), 0 ≤ a → a < 4294967296 → Rep ok w t p → (∀ b, w.heap.size ≤ b → ok b) →
    Calls Try.prog 35 #[.pointer p, .agg #[.int .u32 a, .int .i64 n]] w fun e w' => ∃ q, e = .returned (.tuple #[.pointer q, .int .i64 (dold t a n), .bool (del t a n).2]) ∧ Below w.heap.size w w' ∧ Rep ok w' (del t a n).1 q := by
  induction t with
  | nil =>
    intro p w ok a n a0 a1 hr hnew
    obtain rfl : p = none := hr
    refine (without_nil a n w).mono ?_
    rintro e w' ⟨rfl, hb⟩
    exact ⟨none, rfl, hb, rfl⟩
  | node nb nm u h l r il ir =>
    intro p w ok a n a0 a1 hr hnew
    have hr0 := hr
    obtain ⟨⟨b0, b1, m0, m1⟩, b, pl, pr, rfl, hlt, hok, hc, hrl, hrr⟩ := hr
    by_cases hcv : cov nb nm a n = true
    · by_cases e0 : nb = a ∧ nm = n
      · cases h with
        | true =>
          refine (without_take b nb nm u true pl pr a n w hc hlt b0 b1 a0 a1 hcv e0 rfl m0 m1 ok l r hrl hrr hnew).mono ?_
          rintro e w' ⟨q, rfl, hb, hq⟩
          rw [del, if_pos hcv, if_pos e0, if_pos rfl, dold, if_pos hcv, if_pos e0, if_pos rfl]
          exact ⟨q, rfl, hb, hq⟩
        | false =>
          refine (without_bare b nb nm u false pl pr a n w hc hlt b0 b1 a0 a1 hcv e0 rfl).mono ?_
          rintro e w' ⟨rfl, hb⟩
          rw [del, if_pos hcv, if_pos e0, if_neg (by decide), dold, if_pos hcv, if_pos e0, if_neg (by decide)]
          exact ⟨_, rfl, hb, hr0.below hb (fun _ h => h)⟩
      · rcases sdI_01 a nm with hs | hs
        · refine (without_down_l b nb nm u h pl pr a n w hc hlt b0 b1 a0 a1 hcv (ne_cases e0) m0 m1 hs ok (del l a n).1 r (del l a n).2 (dold l a n) hrr hnew (fun w1 hb1 => il pl w1 ok a n a0 a1 (hrl.below hb1 (fun _ h => h)) (fun b hb => hnew b (Nat.le_trans hb1.size hb)))).mono ?_
          rintro e w' ⟨q, rfl, hb, hn, hy⟩
          rw [del, if_pos hcv, if_neg e0, if_pos hs, dold, if_pos hcv, if_neg e0, if_pos hs]
          cases hd : (del l a n).2 with
          | true => rw [if_pos rfl]; exact ⟨q, rfl, hb, hy hd⟩
          | false => rw [if_neg (by decide)]; obtain rfl := hn hd; exact ⟨_, rfl, hb, hr0.below hb (fun _ h => h)⟩
        · refine (without_down_r b nb nm u h pl pr a n w hc hlt b0 b1 a0 a1 hcv (ne_cases e0) m0 m1 hs ok (del r a n).1 l (del r a n).2 (dold r a n) hrl hnew (fun w1 hb1 => ir pr w1 ok a n a0 a1 (hrr.below hb1 (fun _ h => h)) (fun b hb => hnew b (Nat.le_trans hb1.size hb)))).mono ?_
          rintro e w' ⟨q, rfl, hb, hn, hy⟩
          rw [del, if_pos hcv, if_neg e0, if_neg (by rw [hs]; decide), dold, if_pos hcv, if_neg e0, if_neg (by rw [hs]; decide)]
          cases hd : (del r a n).2 with
          | true => rw [if_pos rfl]; exact ⟨q, rfl, hb, hy hd⟩
          | false => rw [if_neg (by decide)]; obtain rfl := hn hd; exact ⟨_, rfl, hb, hr0.below hb (fun _ h => h)⟩
    · have hcv' : cov nb nm a n = false := by simpa using hcv
      refine (without_no b nb nm u h pl pr a n w hc hlt b0 b1 a0 a1 hcv').mono ?_
      rintro e w' ⟨rfl, hb⟩
      rw [del, if_neg hcv, dold, if_neg hcv]
      exact ⟨_, rfl, hb, hr0.below hb (fun _ h => h)⟩
theorem without_any (t : Tr) : ∀ (p : Option Addr) (w : World) (ok : Nat → Prop) (a n : Int), 0 ≤ a → a < 4294967296 → Rep ok w t p → (∀ b, w.heap.size ≤ b → ok b) →
    Calls Try.prog 35 #[.pointer p, .agg #[.int .u32 a, .int .i64 n]] w fun e w' => ∃ q old, e = .returned (.tuple #[.pointer q, .int .i64 old, .bool (del t a n).2]) ∧ Below w.heap.size w w' ∧ Rep ok w' (del t a n).1 q := fun p w ok a n a0 a1 hr hn =>
  (without_had t p w ok a n a0 a1 hr hn).mono (fun e w' ⟨q, h⟩ => ⟨q, _, h⟩)
end Go.Proofs.Ytibmhdfodmkahaa.Tri
