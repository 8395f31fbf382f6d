/- The document's PfxSet: plain. -/
import Derived.Test.YtagfdmkgnedlbabDoorPcD
namespace Go.Proofs.YtagfdmkgnedlbabDoor.Pc
open Go.ChangeShapes Go.WideShapes Go.ChangeAt Go.RowKit Go.Joins Go.Proofs.YtagfdmkgnedlbabDoor.PM Go.Proofs.YtagfdmkgnedlbabDoor.Ask Go.Proofs.YtagfdmkgnedlbabDoor.Ge
set_option linter.unusedVariables false

theorem runs_in (inn : Int → Bool) (a b : Int) (l : List Int) (op : Bool) (fr : Int) (h : inn a = true) : runs inn (a :: b :: l) op fr = runs inn (b :: l) true (if op then fr else a) := by
  rw [runs, if_pos h]
theorem runs_out (inn : Int → Bool) (a b : Int) (l : List Int) (op : Bool) (fr : Int) (h : inn a = false) : runs inn (a :: b :: l) op fr = (if op then [(fr, a)] else []) ++ runs inn (b :: l) false fr := by
  rw [runs, if_neg (by rw [h]; decide)]
def innW (k : Int) (ps qs : List (Int × Int)) (x : Int) : Bool := anyH ps x && (if k = 1 then !anyH qs x else if k = 2 then anyH qs x else true)
theorem split_len (lo hi : Int) (h : lo ≤ hi) : ((split lo hi).length : Int) ≤ hi - lo := by
  have key : ∀ (f : Nat) (lo : Int), (hi - lo).toNat ≤ f → lo ≤ hi → ((split lo hi).length : Int) ≤ hi - lo := by
    intro f
    induction f with
    | zero => intro lo h1 h2; rw [split_nil (by omega)]; simp; omega
    | succ f ih =>
      intro lo h1 h2
      by_cases hlt : lo < hi
      · have hp := psz_pos (down lo hi 32 : Int)
        have hf := (down_spec 32 (Nat.le_refl _) (fit32 hlt)).1.2
        have := ih (lo + psz (down lo hi 32 : Int)) (by omega) hf
        rw [split_cons hlt, List.length_cons]
        omega
      · rw [split_nil hlt]; simp; omega
  exact key _ lo (Nat.le_refl _) h
theorem innW_const {E : List Int} {ps qs : List (Int × Int)} (h : EOk E (ps ++ qs)) (k : Int) : ∀ a b x, (∀ c ∈ E, c ≤ a ∨ b ≤ c) → a ≤ x → x < b → innW k ps qs x = innW k ps qs a := fun a b x hab h1 h2 => by
  unfold innW
  rw [anyH_const h (fun p hp => List.mem_append_left _ hp) hab h1 h2, anyH_const h (fun p hp => List.mem_append_right _ hp) hab h1 h2]
end Go.Proofs.YtagfdmkgnedlbabDoor.Pc
