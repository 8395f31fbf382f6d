/- The trie: NewTrie, Drop. -/
import Derived.Test.YtibmhdfodmkahaaTrJ
namespace Go.Proofs.Ytibmhdfodmkahaa.Tri
open Go.ChangeShapes Go.WideShapes Go.ChangeAt Go.RowKit Go.Proofs.Ytibmhdfodmkahaa.PM Go.Proofs.Ytibmhdfodmkahaa.TrM Go.Proofs.Ytibmhdfodmkahaa.Ask
set_option linter.unusedVariables false

set_option maxHeartbeats 1000000 in
theorem drop_any (ok : Nat → Prop) (bt : Nat) (t : Tr) (p : Option Addr) (c a n : Int) (w : World) (hh : Holds ok w bt t p c) (hok : ¬ ok bt) (hnew : ∀ b, w.heap.size ≤ b → ok b) (a0 : 0 ≤ a) (a1 : a < 4294967296) :
    Calls Try.prog 12 #[.pointer (some ⟨bt, 0, none⟩), .agg #[.int .u32 a, .int .i64 n]] w fun e w' => Turned ok bt (del t a n).1 w e w' := by
  have HH : Hid (Holds ok w bt t p c) := hh
  have hlt := hh.lt
  obtain ⟨hbA, hsA, hbx⟩ := boxed w a n 33
  have HBX : Hid (Box _ _ a n) := hbx
  clear hh hbx
  go_enter Try.func12, Try.ntmps12
  go_wp2_with fail
  generalize w.alloc (Obj.cells #[.int .u32 a, .int .i64 n] 33) = wA at *
  have HHA : Hid (Holds ok wA bt t p c) := HH.out.bel hbA
  have HK : Hid (∀ k, Calls Try.prog 35 #[.pointer p, .agg #[.int .u32 a, .int .i64 n]] (wA.drewN k) fun e w' => ∃ q old had, e = .returned (.tuple #[.pointer q, .int .i64 old, .bool had]) ∧ Below wA.heap.size wA w' ∧ Rep ok w' (del t a n).1 q) := by
    intro k
    refine (without_any t p (wA.drewN k) ok a n a0 a1 (HHA.out.rep.drew k) (fun b hb => hnew b (Nat.le_trans (by omega) (show wA.heap.size ≤ b from hb)))).mono ?_
    rintro e w' ⟨q, old, rfl, hb, hq⟩
    exact ⟨q, old, _, rfl, (bel_q wA k).trans hb, hq⟩
  obtain ⟨r0, r1, f0, f1, hltA, -⟩ := HHA.out
  obtain ⟨x0, x1⟩ := HBX.out
  go_region_with (first | (go_at_call 35; refine (HK.out 1).mono ?_; rintro e w3 ⟨q, old, had, rfl, hb3, hrep⟩))
  all_goals
    have HH3 : Hid (Holds ok w3 bt t p c) := HHA.out.bel hb3
    have hb03 : Below w.heap.size w w3 := hbA.trans (hb3.mono hbA.size)
    clear HK r0 r1 f0 f1 x0 x1 HHA HBX
    obtain ⟨r0, r1, f0, f1, hlt3, -⟩ := HH3.out
    cases had with
    | false =>
      go_wp2_with fail
      go_ret2
      exact turned_one hok hb03 HH3.out hrep
    | true =>
      go_wp2_with fail
      go_ret2
      exact turned_two hok hb03 HH3.out hrep

/-- a new trie is empty -/
theorem new_any (w : World) : Calls Try.prog 7 #[] w fun e w' => e = .returned (.pointer (some ⟨w.heap.size, 0, none⟩)) ∧ Below w.heap.size w w' ∧ w'.heap.size = w.heap.size + 1 ∧ ∀ ok, Holds ok w' w.heap.size .nil none 0 := by
  have HN : Hid (∀ w : World, Calls Try.prog 29 #[] w fun e w' => e = .returned (.pointer (some ⟨w.heap.size, 0, none⟩)) ∧ w' = w.alloc (Obj.cells #[.pointer none, .int .i64 0] 67)) := by
    intro w
    go_enter Try.func29, Try.ntmps29
    go_wp2_with fail
    go_ret
    exact ⟨rfl, rfl⟩
  go_enter Try.func7, Try.ntmps7
  go_wp2_with fail
  refine (HN.out _).mono ?_
  rintro e w1 ⟨rfl, rfl⟩
  go_wp2_with fail
  go_ret
  exact ⟨rfl, (Below.refl _ _).alloc (Nat.le_refl _) _, by simp, fun ok => ⟨by simp, by simp, by simp, by simp, by simp, rfl⟩⟩

end Go.Proofs.Ytibmhdfodmkahaa.Tri
