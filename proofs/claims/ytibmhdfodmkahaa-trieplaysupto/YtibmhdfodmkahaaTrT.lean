/- Lists of prefixes and of items in memory; trieAmong: what it answers. -/
import Derived.Test.YtibmhdfodmkahaaTrS
namespace Go.Proofs.Ytibmhdfodmkahaa.Tri
open Go.ChangeShapes Go.WideShapes Go.ChangeAt Go.RowKit Go.Shelf Go.Proofs.Ytibmhdfodmkahaa.PM Go.Proofs.Ytibmhdfodmkahaa.TrM Go.Proofs.Ytibmhdfodmkahaa.Ask
set_option linter.unusedVariables false

/-- a list of prefixes lies at a slice -/
structure Arr2 (w : World) (a : Option Addr) (ds : List (Int × Int)) : Prop where
  small : ds.length ≤ 9223372036854775807
  cells : ∀ i (h : i < ds.length), ∃ b o, a = some ⟨b, o, none⟩ ∧ b < w.heap.size ∧ w.cell? ⟨b, o + i * 2, none⟩ = some (.int .u32 ds[i].1) ∧ w.cell? ⟨b, o + i * 2 + 1, none⟩ = some (.int .i64 ds[i].2)
  u32 : ∀ d ∈ ds, In32 d.1
theorem Arr2.bel {w w' : World} {a : Option Addr} {ds : List (Int × Int)} (h : Arr2 w a ds) (hb : Below w.heap.size w w') : Arr2 w' a ds :=
  ⟨h.small, fun i hi => by
    obtain ⟨b, o, e, hlt, h0, h1⟩ := h.cells i hi
    exact ⟨b, o, e, Nat.lt_of_lt_of_le hlt hb.size, cell_bel h0 hb, cell_bel h1 hb⟩, h.u32⟩

theorem among_in {a n : Int} {ds : List (Int × Int)} {k : Nat} (h : k < ds.length) (e : ds[k].1 = a) (e2 : ds[k].2 = n) : decide ((a, n) ∈ ds) = true := by
  have : (a, n) = ds[k] := by rw [← e, ← e2]
  simp [this]
theorem among_next {a n : Int} {ds : List (Int × Int)} {k : Nat} (h : k < ds.length) (hn : (a, n) ∉ ds.take k) (ne : ¬ (ds[k].1 = a ∧ ds[k].2 = n)) : (a, n) ∉ ds.take (k + 1) := by
  rw [List.take_succ_eq_append_getElem h]
  intro hm
  rcases List.mem_append.1 hm with h1 | h1
  · exact hn h1
  · simp at h1; exact ne ⟨by rw [← h1], by rw [← h1]⟩

set_option maxHeartbeats 1000000 in
theorem among_any (va : Option Addr) (cap : Nat) (ds : List (Int × Int)) (a n : Int) (w : World) (hd : Arr2 w va ds) :
    Calls Try.prog 15 #[.slice va ds.length cap, .agg #[.int .u32 a, .int .i64 n]] w fun e w' => e = .returned (.bool (decide ((a, n) ∈ ds))) ∧ Below w.heap.size w w' := by
  have HD : Hid (Arr2 w va ds) := hd
  have hsm := hd.small
  obtain ⟨hbA, hsA, hbx⟩ := boxed w a n 33
  have HBX : Hid (Box _ _ a n) := hbx
  clear hd hbx
  obtain ⟨r, hr⟩ : ∃ r, decide ((a, n) ∈ ds) = r := ⟨_, rfl⟩
  rw [hr]
  have HR : Hid (decide ((a, n) ∈ ds) = r) := hr
  clear hr
  obtain ⟨L, hL⟩ : ∃ L, ds.length = L := ⟨_, rfl⟩
  rw [hL] at hsm ⊢
  have HL : Hid (ds.length = L) := hL
  clear hL
  go_enter Try.func15, Try.ntmps15
  go_wp2_with fail
  generalize w.alloc (Obj.cells #[.int .u32 a, .int .i64 n] 33) = wA at *
  go_loopw [9] (fun i wr => ∃ k : Nat, k ≤ L ∧ i = .int .i64 k ∧ (a, n) ∉ ds.take k ∧ Below w.heap.size w wr ∧ Box wr w.heap.size a n ∧ wA.heap.size ≤ wr.heap.size) (fun i _ => L - (intOf i).toNat)
  case atStart => exact ⟨0, by omega, rfl, by simp, hbA, HBX.out, Nat.le_refl _⟩
  case round =>
    obtain ⟨k, hk, rfl, hn, hb, hbox, hsz⟩ := hrel
    have HN : Hid ((a, n) ∉ ds.take k) := hn
    have HB : Hid (Box wr w.heap.size a n) := hbox
    obtain ⟨x0, x1⟩ := hbox
    clear hn
    by_cases hlt : k < L
    · have hkd : k < ds.length := by rw [HL.out]; exact hlt
      obtain ⟨b, o, rfl, hbl, c0, c1⟩ := (HD.out.bel hb).cells k hkd
      have HY : Hid (∃ ya yn, ds[k].1 = ya ∧ ds[k].2 = yn) := ⟨_, _, rfl, rfl⟩
      obtain ⟨ya, yn, e1, e2⟩ := HY.out
      rw [e1] at c0
      rw [e2] at c1
      have E1 : Hid (ds[k].1 = ya) := e1
      have E2 : Hid (ds[k].2 = yn) := e2
      clear e1 e2 HY
      have hkk : (k : Int) < L := by omega
      have hlw : w.heap.size < wr.heap.size := by omega
      have kk0 : (0 : Int) ≤ k := by omega
      have hbA2 : Below w.heap.size w (wr.alloc (Obj.cells #[.int .u32 ya, .int .i64 yn] 33)) := hb.alloc hb.size _
      have hBx2 : Box (wr.alloc (Obj.cells #[.int .u32 ya, .int .i64 yn] 33)) w.heap.size a n := HB.out.bel ((Below.refl _ _).alloc (Nat.le_refl _) _) hlw
      have HB2 : Hid (Box (wr.alloc (Obj.cells #[.int .u32 ya, .int .i64 yn] 33)) w.heap.size a n) := hBx2
      clear hBx2
      by_cases q1 : a = ya
      · subst q1
        by_cases q2 : n = yn
        · subst q2
          obtain rfl : r = true := by rw [← HR.out]; exact among_in hkd E1.out E2.out
          go_wp2_with fail
          go_ret
          exact ⟨rfl, hbA2⟩
        · have HN2 : Hid ((a, n) ∉ ds.take (k + 1)) := among_next hkd HN.out (fun h => q2 (h.2.symm.trans E2.out))
          go_wp2_with fail
          go_roundw
          case rel => exact ⟨k + 1, by omega, by simp, HN2.out, hbA2, HB2.out, by simp; omega⟩
          case measure => simp [intOf]; omega
      · have HN2 : Hid ((a, n) ∉ ds.take (k + 1)) := among_next hkd HN.out (fun h => q1 (h.1.symm.trans E1.out))
        go_wp2_with fail
        go_roundw
        case rel => exact ⟨k + 1, by omega, by simp, HN2.out, hbA2, HB2.out, by simp; omega⟩
        case measure => simp [intOf]; omega
    · obtain rfl : k = L := by omega
      obtain rfl : r = false := by
        rw [← HR.out]; have := HN.out; rw [List.take_of_length_le (by rw [HL.out]; exact Nat.le_refl _)] at this; simpa using this
      go_wp2_with fail
      go_ret
      exact ⟨rfl, hb⟩

end Go.Proofs.Ytibmhdfodmkahaa.Tri
