/- The document's lsaBig: what it answers. -/
import Derived.Test.YtagfdmkgnedlbaeLsO
import Derived.OwnWalk
import Derived.Laws.Rows
namespace Go.Proofs.Ytagfdmkgnedlbae.Ls
open Go.ChangeShapes Go.WideShapes Go.ChangeAt Go.RowKit Go.Joins Go.Proofs.Ytagfdmkgnedlbae.PM Go.Proofs.Ytagfdmkgnedlbae.Ask
set_option linter.unusedVariables false

theorem OwnB.set {N g n cap i c : Nat} {w : World} {bs : List Nat} (h : OwnB N w (.slice (some ⟨g, 0, none⟩) n cap) bs) (hi : i < n) : OwnB N (w.setCell ⟨g, i, none⟩ (.int .u8 (c : Int))) (.slice (some ⟨g, 0, none⟩) n cap) (bs.set i c) := by
  rcases h.row.2 with ⟨h1, -⟩ | ⟨g', cap', cur, h1, h2, h3, h4, h5, h6, h7⟩
  · cases h1
  · cases h1
    refine ⟨by simp [bcs], .inr ⟨g, cap, cur.setIfInBounds i (.int .u8 (c : Int)), by rw [List.length_set], h2, ?_, by rw [List.length_set]; exact h4, h5, by simpa using h6, ?_⟩⟩
    · exact heap_setCell_same w g i cur _ _ h3
    · rw [List.length_set]
      have e : bcs (bs.set i c) = (bcs bs).set i (.int .u8 (c : Int)) := by unfold bcs; rw [List.map_set]
      rw [e, ← h7, Array.toList_setIfInBounds]
      exact List.take_set
theorem OwnB.cell {N g n cap i : Nat} {w : World} {bs : List Nat} (h : OwnB N w (.slice (some ⟨g, 0, none⟩) n cap) bs) (hi : i < bs.length) : w.cell? ⟨g, i, none⟩ = some (.int .u8 (bs[i] : Int)) ∧ w.frozen? ⟨g, i, none⟩ = false := by
  refine ⟨?_, ?_⟩
  · rcases h.row.2 with ⟨h1, -⟩ | ⟨g', cap', cur, h1, -⟩
    · cases h1
    · cases h1
      rw [h.row.cellAt i (by omega)]
      simp [bcs, hi]
  · rcases h.row.2 with ⟨h1, -⟩ | ⟨g', cap', cur, h1, h2, h3, h4⟩
    · cases h1
    · cases h1
      simp [World.frozen?, h3]
theorem big_cons (k n : Nat) : big (k + 1) n = (n / 256 ^ k % 256) :: big k n := by
  unfold big
  rw [List.range_succ_eq_map, List.map_cons, List.map_map]
  congr 1
  · rw [show 8 * (k + 1 - 1 - 0) = 8 * k by omega, Nat.pow_mul]
  · apply List.map_congr_left
    intro i hi
    have hi2 : i < k := List.mem_range.1 hi
    show n / 2 ^ (8 * (k + 1 - 1 - (i + 1))) % 256 = _
    rw [show k + 1 - 1 - (i + 1) = k - 1 - i by omega]
theorem made_one (a : Value) (n : Nat) : (madeCells #[a] n).toList = List.replicate n a := by
  unfold madeCells
  refine List.ext_getElem (by simp) (fun i h1 h2 => ?_)
  simp [Nat.mod_one]
theorem bcs_zeros (n : Nat) : bcs (List.replicate n 0) = List.replicate n (.int .u8 0) := by
  unfold bcs
  rw [List.map_replicate]
  rfl
set_option maxRecDepth 100000 in
set_option maxHeartbeats 4000000 in
theorem rbig_any (n v : Nat) (nI vI : Int) (hn : ((n : Nat) : Int) = nI) (hv : ((v : Nat) : Int) = vI) (h0 : 0 < n) (h8 : n ≤ 8) (hv63 : v < 9223372036854775808) (w : World) :
    Calls Try.prog 44 #[.int .i64 nI, .int .i64 vI] w fun e w' => e = .returned (.slice (some ⟨w.heap.size, 0, none⟩) n n) ∧ OwnB w.heap.size w' (.slice (some ⟨w.heap.size, 0, none⟩) n n) (big n v) ∧ Below w.heap.size w w' := by
  subst hn hv
  obtain ⟨i0, hi, hz0, hz1, hz2⟩ := info_parts info8
  go_enter Try.func44, Try.ntmps44
  have hw1 : IntKind.i64.wrap ((n : Int) - 1) = ((n - 1 : Nat) : Int) := by rw [IntWalk.i64_in _ (by omega)]; omega
  go_wp2_with (at_make; refine wpList_make_full _ rfl _ _ 37 rfl w.heap.size 5 i0 _ 1 Try.underlying37 hi hz0 hz1 _ _ _ _ n rfl rfl (by simp) (by simp) (by rw [hz2]; omega) (by unfold maxLen; omega) (Nat.le_refl _) ?_)
  intro w1 hown hg
  obtain ⟨g, hgg⟩ : ∃ g, w.heap.size = g := ⟨_, rfl⟩
  have HOW : Hid (OwnB g w1 (.slice (some ⟨g, 0, none⟩) n n) (List.replicate n 0 ++ big 0 v)) := by
    rw [hgg] at hown
    have e0 : List.replicate n 0 ++ big 0 v = List.replicate n 0 := List.append_nil _
    refine ⟨?_⟩
    rw [e0, bcs_zeros, List.length_replicate, ← made_one]
    simpa using hown
  have HBW : Hid (Below g w w1) := by rw [← hgg]; exact (Below.refl _ w).grown hg (Nat.le_refl _) (fun k e => by cases e)
  rw [hgg]
  clear hown hg
  go_wp2_with fail
  go_loopw [1, 6] (fun vv iv wr => ∃ k : Nat, k ≤ n ∧ iv = .int .i64 ((n : Int) - 1 - k) ∧ vv = .int .i64 ((v / 256 ^ k : Nat) : Int) ∧ OwnB g wr (.slice (some ⟨g, 0, none⟩) n n) (List.replicate (n - k) 0 ++ big k v) ∧ Below g w wr) (fun _ i _ => (intOf i + 1).toNat)
  case atStart => exact ⟨0, by omega, by simp; omega, by simp, HOW.out, HBW.out⟩
  case round =>
    obtain ⟨k, hk, rfl, rfl, hown, hbw⟩ := hrel
    have HW2 : Hid (OwnB g wr (.slice (some ⟨g, 0, none⟩) n n) (List.replicate (n - k) 0 ++ big k v)) := hown
    have HB2 : Hid (Below g w wr) := hbw
    clear hown hbw HOW HBW
    by_cases hlt : k < n
    · obtain ⟨i, hie⟩ : ∃ i : Nat, n - 1 - k = i := ⟨_, rfl⟩
      have hii : (n : Int) - 1 - k = (i : Int) := by omega
      have hin : i < n := by omega
      obtain ⟨V, hV⟩ : ∃ V, v / 256 ^ k = V := ⟨_, rfl⟩
      have hVl : V < 9223372036854775808 := by rw [← hV]; exact Nat.lt_of_le_of_lt (Nat.div_le_self _ _) hv63
      have HV2 : Hid (v / 256 ^ (k + 1) = V / 256) := by show _ = _; rw [Nat.pow_succ, ← Nat.div_div_eq_div_mul, hV]
      have HNX : Hid (OwnB g (wr.setCell ⟨g, i, none⟩ (.int .u8 ((V % 256 : Nat) : Int))) (.slice (some ⟨g, 0, none⟩) n n) (List.replicate (n - (k + 1)) 0 ++ big (k + 1) v)) := by
        have h1 := HW2.out.set (c := V % 256) hin
        have e : (List.replicate (n - k) 0 ++ big k v).set i (V % 256) = List.replicate (n - (k + 1)) 0 ++ big (k + 1) v := by
          rw [big_cons, hV, show n - k = i + 1 by omega, show n - (k + 1) = i by omega, List.replicate_succ', List.append_assoc, List.set_append_right _ _ (by simp)]
          simp
        rw [e] at h1
        exact h1
      have HNB : Hid (Below g w (wr.setCell ⟨g, i, none⟩ (.int .u8 ((V % 256 : Nat) : Int)))) := HB2.out.setCell (p := ⟨g, i, none⟩) (Nat.le_refl _) _
      have hc := HW2.out.cell (i := i) (by simp [big]; omega)
      obtain ⟨x, hx⟩ : ∃ x, wr.cell? ⟨g, i, none⟩ = some x := ⟨_, hc.1⟩
      have hfz := hc.2
      have hq : ((V : Int)).tdiv 256 = ((V / 256 : Nat) : Int) := by rw [Int.tdiv_eq_ediv_of_nonneg (by omega)]; omega
      have hm : ((V : Int)).tmod 256 = ((V % 256 : Nat) : Int) := by rw [Int.tmod_eq_emod_of_nonneg (by omega)]; omega
      have hw8 : IntKind.u8.wrap ((V % 256 : Nat) : Int) = ((V % 256 : Nat) : Int) := by rw [IntKind.wrap_u8]; omega
      have hwq : IntKind.i64.wrap ((V / 256 : Nat) : Int) = ((V / 256 : Nat) : Int) := by rw [IntWalk.i64_in _ (by omega)]
      have hwi : IntKind.i64.wrap ((i : Int) - 1) = (n : Int) - 1 - ((k + 1 : Nat) : Int) := by rw [IntWalk.i64_in _ (by omega)]; omega
      have hi0 : (0 : Int) ≤ i := by omega
      have hin' : (i : Int) < n := by omega
      rw [hii, hV]
      clear hc hV HW2 HB2
      go_wp2_with fail
      have e8 : (V : Int) % 256 = ((V % 256 : Nat) : Int) := by omega
      exact ⟨⟨k + 1, by omega, by simp, by rw [HV2.out]; simp, by rw [e8]; exact HNX.out, by rw [e8]; exact HNB.out⟩, by simp [intOf]; omega⟩
    · obtain rfl : n = k := by omega
      have HE : Hid (OwnB g wr (.slice (some ⟨g, 0, none⟩) n n) (big n v)) := by
        have := HW2.out
        rw [Nat.sub_self] at this
        exact this
      have hneg : ¬ (0 : Int) ≤ (n : Int) - 1 - n := by omega
      go_wp2_with fail
      go_ret
      exact ⟨rfl, HE.out, HB2.out⟩
end Go.Proofs.Ytagfdmkgnedlbae.Ls
