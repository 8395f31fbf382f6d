/- Touched: what it answers. -/
import Derived.Test.YtgdaihliomihcacFbU
import Derived.Test.YtgdaihliomihcacShelf
import Derived.Sort.OwnSortedInts
namespace Go.Proofs.Ytgdaihliomihcac.Fb
open Go.ChangeShapes Go.WideShapes Go.ChangeAt Go.RowKit Go.Joins Go.Sort Go.Proofs.Ytgdaihliomihcac.PM Go.Proofs.Ytgdaihliomihcac.Ask
set_option linter.unusedVariables false

/-- what Touched tells -/
def touchP (ms : List Int) (a : Int) : List Int := Lib.compact ((placesP ms a).mergeSort fun x y => decide (x ≤ y))
theorem placesP_ne (ms : List Int) (a : Int) : placesP ms a ≠ [] := by
  unfold placesP dscT; split; · simp
  split; · simp
  split <;> (try split) <;> simp
theorem dscT_len (ms : List Int) (a : Int) : ∀ (f : Nat) (link sure : Int), (dscT ms a f link sure).length ≤ 3 * f
  | 0, _, _ => by simp [dscT]
  | f + 1, link, sure => by
    have ih := dscT_len ms a f
    unfold dscT
    split; · simp; omega
    split; · simp; omega
    split
    · split
      · simp; omega
      · simp; have := ih (wd ms link * 4 + (2 + sdI a (wd ms (wd ms link * 4) / 65536))) (wd ms (wd ms link * 4) / 65536 + 1); omega
    · simp; have := ih (wd ms link * 4 + (2 + sdI a (wd ms (wd ms link * 4) / 65536))) (wd ms (wd ms link * 4) / 65536 + 1); omega

theorem row_take {w : World} {base g n cap k : Nat} {e : TypeId} {l : List Value} (h : w.ownsRow base e 1 (.slice (some ⟨g, 0, none⟩) n cap) n l) (hk : k ≤ n) : w.ownsRow base e 1 (.slice (some ⟨g, 0, none⟩) k cap) k (l.take k) := by
  have hl := h.1
  rcases h.2 with ⟨h1, -⟩ | ⟨g', cap', cur, h1, h2, h3, h4, h5, h6, h7⟩
  · cases h1
  · cases h1
    refine ⟨by simp; omega, .inr ⟨g, cap, cur, rfl, h2, h3, by omega, h5, h6, ?_⟩⟩
    rw [← h7, List.take_take]; congr 1; omega

theorem row_base {w : World} {base base' n : Nat} {e : TypeId} {v : Value} {l : List Value} (h : w.ownsRow base e 1 v n l) (hb : base' ≤ base) : w.ownsRow base' e 1 v n l := by
  refine ⟨h.1, ?_⟩
  rcases h.2 with h1 | ⟨g', cap', cur, h1, h2, h3⟩
  · exact .inl h1
  · exact .inr ⟨g', cap', cur, h1, Nat.le_trans hb h2, h3⟩
theorem compact_len (zs : List Int) : (Lib.compact zs).length ≤ zs.length := by
  unfold Lib.compact Lib.compactUpTo
  rw [List.length_map]
  exact Nat.le_trans (List.length_filter_le _ _) (by simp)

set_option maxRecDepth 100000 in
set_option maxHeartbeats 2000000 in
theorem touched_any (va : Option Addr) (cap : Nat) (ms : List Int) (L : Nat) (hL : ms.length = L) (a : Int) (a0 : 0 ≤ a) (a1 : a < 4294967296) (w : World) (h : Wds w va ms) (T : List Int) (hT : touchP ms a = T) (hva : ∀ b o, va = some ⟨b, o, none⟩ → b < w.heap.size) :
    Calls Try.prog 16 #[.slice va L cap, .int .u32 a] w fun e w' => ∃ g c, e = .returned (.slice (some ⟨g, 0, none⟩) T.length c) ∧ w'.ownsRow w.heap.size 3 1 (.slice (some ⟨g, 0, none⟩) T.length c) T.length (ics T) ∧ Below w.heap.size w w' := by
  have H : Hid (Wds w va ms) := h
  have HL : Hid (ms.length = L) := hL
  have HT : Hid (touchP ms a = T) := hT
  have HVA : Hid (∀ b o, va = some ⟨b, o, none⟩ → b < w.heap.size) := hva
  clear h hL hT hva
  go_enter Try.func16, Try.ntmps16
  go_wp2_with fail
  obtain ⟨R, hR⟩ : ∃ R, findP ms a = R := ⟨_, rfl⟩
  obtain ⟨PS, hPS⟩ : ∃ PS, placesP ms a = PS := ⟨_, rfl⟩
  have HR : Hid (findP ms a = R) := hR
  have HPS : Hid (placesP ms a = PS) := hPS
  have hPS0 : 0 < PS.length := by rw [← hPS]; exact List.length_pos_iff.2 (placesP_ne ms a)
  have hPS1 : PS.length ≤ 102 := by rw [← hPS]; exact dscT_len ms a 34 0 0
  obtain ⟨S, hS⟩ : ∃ S, (PS.mergeSort fun x y => decide (x ≤ y)) = S := ⟨_, rfl⟩
  have hSl : S.length = PS.length := by rw [← hS]; simp
  have HTT : Hid (Lib.compact S = T) := by
    show Lib.compact S = T
    rw [← HT.out, ← hS, ← hPS]; rfl
  have HS : Hid ((PS.mergeSort fun x y => decide (x ≤ y)) = S) := hS
  have HSL : Hid (S.length = PS.length) := hSl
  clear hR hPS hS hSl
  obtain ⟨wA, hwA⟩ : ∃ wA, w.alloc (Obj.cells #[.slice none 0 0] 51) = wA := ⟨_, rfl⟩
  have hbA : Below w.heap.size w wA := by rw [← hwA]; exact (Below.refl _ w).alloc (Nat.le_refl _) _
  have hsA : wA.heap.size = w.heap.size + 1 := by rw [← hwA]; simp
  have HTB : Hid (Tb (w.heap.size + 1) wA w.heap.size [] none) := by
    have g := World.alloc_heap_new w (Obj.cells #[.slice none 0 0] 51)
    rw [hwA] at g
    exact ⟨⟨.slice none 0 0, by simp [World.cell?, g], World.ownsRow_nil _ _ _ _, rfl⟩, by simp [World.frozen?, g], by omega, by omega⟩
  rw [hwA]
  clear hwA
  refine (descend_touch (w.heap.size + 1) w.heap.size none va cap ms L HL.out a a0 a1 R HR.out PS HPS.out wA (H.out.bel hbA) HVA.out HTB.out).mono ?_
  rintro e w1 ⟨rfl, own1, ht1, hk1⟩
  have HK1 : Hid (Below w.heap.size w w1) := hbA.trans (hk1.below (by omega) (Nat.le_refl _) (fun g e => by cases e))
  obtain ⟨v, c1, hrow, -⟩ := ht1.row
  obtain ⟨g, c, rfl⟩ := ownsRow_form hrow (by omega)
  have hle1 := ht1.le
  have HROW : Hid (w1.ownsRow (w.heap.size + 1) 3 1 (.slice (some ⟨g, 0, none⟩) PS.length c) PS.length (ics PS)) := hrow
  have hgl := hrow.lt g rfl
  obtain ⟨cur, hbk, hnc, hcm, hcs, htk⟩ : ∃ cur, w1.heap[g]? = some (.cells cur 3 (0, 0)) ∧ PS.length ≤ c ∧ c ≤ maxLen ∧ cur.size = c * 1 ∧ cur.toList.take (PS.length * 1) = ics PS := by
    rcases hrow.2 with ⟨h1, -⟩ | ⟨g', c', cur, h1, h2, h3, h4, h5, h6, h7⟩
    · cases h1
    · cases h1; exact ⟨cur, h3, h4, h5, h6, h7⟩
  have HSORT : Hid (Calls _ _ _ _ _) := Try.slices_Sort_int g 0 c PS w1 (holds_of_blockI hbk (by rw [Nat.mul_one] at htk; exact htk)) hgl.2 (by omega)
  have HBK : Hid (w1.heap[g]? = some (.cells cur 3 (0, 0))) := hbk
  clear ht1 hk1 hrow hbk htk
  go_wp2_with fail
  refine HSORT.out.mono ?_
  rintro e w2 ⟨rfl, nn, os, hw2⟩
  rw [HS.out] at hw2
  have HG2 : Hid (w1.grownBy w2 (some g)) := by subst hw2; exact grownBy_sortedI _
  have HBK2 : Hid (w2.heap[g]? = some (.cells (putCells (Value.int .i64) 0 S.toArray cur) 3 (0, 0))) := by subst hw2; exact heap_sortedI _ HBK.out
  clear hw2
  have hltp : w.heap.size < w1.heap.size := by omega
  have c2 : w2.cell? ⟨w.heap.size, 0, none⟩ = some (.slice (some ⟨g, 0, none⟩) PS.length c) := (World.cell?_of_block (w := w1) (HG2.out.block w.heap.size hltp (by simp; omega))).trans c1
  have hcs2 : (putCells (Value.int .i64) 0 S.toArray cur).size = c * 1 := by simp [putCells, hcs]
  have hH2 : Holds (Value.int .i64) w2 g 0 S.toArray := holds_of_blockI HBK2.out (take_putCellsI cur S (by rw [HSL.out]; omega))
  have HCMP : Hid (Calls Try.prog 38 #[.slice (some ⟨g, 0, none⟩) PS.length c] w2 fun e w' => e = .returned (.slice (some ⟨g, 0, none⟩) (Lib.compact S).length c) ∧ ∃ q, w' = putRow (Value.int .i64) (Sort.ahead w2 q) g 0 (Lib.compact S ++ List.replicate (S.length - (Lib.compact S).length) 0).toArray) := by
    have := Try.slices_Compact_int g 0 c S w2 hH2 (by rw [HSL.out]; omega) (by rw [HSL.out]; omega)
    rw [HSL.out] at this ⊢
    exact this
  clear c1 hH2
  go_wp2_with fail
  refine HCMP.out.mono ?_
  rintro e w3 ⟨rfl, q, hw3⟩
  have hlen : (Lib.compact S ++ List.replicate (S.length - (Lib.compact S).length) 0).length = S.length := by have := compact_len S; simp; omega
  have hw3' : w3 = grow (putRow (Value.int .i64) (Sort.ahead w2 q) g 0 (Lib.compact S ++ List.replicate (S.length - (Lib.compact S).length) 0).toArray) #[] := by rw [hw3, grow_empty]
  have HG3 : Hid (w2.grownBy w3 (some g)) := by rw [hw3']; exact grownBy_sortedI _
  have HOWN3 : Hid (w3.ownsRow (w.heap.size + 1) 3 1 (.slice (some ⟨g, 0, none⟩) S.length c) S.length (ics (Lib.compact S ++ List.replicate (S.length - (Lib.compact S).length) 0))) := by rw [hw3']; exact ownsRow_sortedI hlen hgl.1 HBK2.out (by rw [HSL.out]; omega) hcm hcs2
  clear hw3 hw3' hlen
  go_wp2_with fail
  go_ret
  refine ⟨g, c, by rw [HTT.out]; rfl, ?_, ?_⟩
  · have := row_take (row_base HOWN3.out (Nat.le_succ _)) (compact_len S)
    rw [ics, List.map_append, List.take_left' (by simp), HTT.out] at this
    exact this
  · exact (HK1.out.grown HG2.out HK1.out.size (fun k e => by cases e; omega)).grown HG3.out (Nat.le_trans HK1.out.size HG2.out.size) (fun k e => by cases e; omega)
end Go.Proofs.Ytgdaihliomihcac.Fb
