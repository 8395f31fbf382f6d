/- LsaBack: what it answers. -/
import Derived.Test.YtmajbjbdllfblaaLsZa
import Derived.Test.YtmajbjbdllfblaaLsZb
namespace Go.Proofs.Ytmajbjbdllfblaa.Ls
open Go.ChangeShapes Go.WideShapes Go.ChangeAt Go.RowKit Go.Joins Go.Proofs.Ytmajbjbdllfblaa.PM Go.Proofs.Ytmajbjbdllfblaa.Ask
set_option linter.unusedVariables false

theorem enc_fits {p : Pk} {bs : List Nat} {w : World} {va : Option Addr} (h : encP p = (bs, 0)) (hx : LAll w va p.xs) : ∀ x ∈ p.xs, Fits x := by
  intro x hxm
  unfold encP at h
  split at h
  · cases h
  · split at h
    · cases h
    · rename_i hr
      have hR : rangeP p.kind p.frm p.area p.seen p.xs = true := by simpa using hr
      exact right_fits ((range_of hR).2.2.2.2 x hxm) (hx.in32 x hxm).1 (hx.in32 x hxm).2
theorem enc_hello (n : Int) (h0 : 0 ≤ n) (h1 : n ≤ 4294967295) : ∃ es, encP ⟨1, 1, 0, n, []⟩ = (es, 0) ∧ es.length = 20 := by
  have hr : rangeP 1 1 0 n [] = true := by
    unfold rangeP inB
    simp [h0, h1]
  refine ⟨encBody ⟨1, 1, 0, n, []⟩ ++ big 4 (crc 4294967295 (encBody ⟨1, 1, 0, n, []⟩)), ?_, ?_⟩
  · unfold encP
    rw [if_neg (by show ¬ isK 1 = false; decide), if_neg (by rw [hr]; decide), if_neg (by show ¬ 4096 < bytesOf 20 []; decide)]
  · rw [List.length_append, encBody_len, big_len]
    rfl
theorem enc_u8 {p : Pk} {bs : List Nat} {er : Int} (h : encP p = (bs, er)) : ∀ d ∈ bs, d < 256 := by
  unfold encP at h
  have hb : ∀ d ∈ encBody p, d < 256 := by
    intro d hd
    unfold encBody at hd
    simp only [List.mem_append, List.mem_flatMap] at hd
    rcases hd with (((((((h1 | h1) | h1) | h1) | h1) | h1) | h1) | ⟨x, -, h1⟩)
    all_goals first | exact big_u8 _ _ d h1 | exact encL_u8 x d h1
  split at h
  · cases h; intro d hd; cases hd
  · split at h
    · cases h; intro d hd; cases hd
    · split at h
      · cases h; intro d hd; cases hd
      · cases h
        intro d hd
        rcases List.mem_append.1 hd with h1 | h1
        · exact hb d h1
        · exact big_u8 _ _ d h1
end Go.Proofs.Ytmajbjbdllfblaa.Ls
