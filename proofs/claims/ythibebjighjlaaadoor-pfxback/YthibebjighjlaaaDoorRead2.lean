/- CutPrefix at a prefix of one byte, and joinQuad: what each answers. -/
import Derived.Test.YthibebjighjlaaaDoorRead1
import Derived.Laws.BitsAllLaws
namespace Go.Proofs.YthibebjighjlaaaDoor.Rd
open Go.ChangeShapes Go.WideShapes Go.ChangeAt Go.RowKit Go.Proofs.YthibebjighjlaaaDoor.TM
set_option linter.unusedVariables false

theorem head1 (s : ByteArray) : (s.extract 0 1).toList = s.data.toList.take 1 := by
  rw [Lib.toList_data, Lib.extract_data]; simp

set_option maxHeartbeats 1000000 in
theorem cut_yes (s : ByteArray) (c : UInt8) (r : List UInt8) (hl : s.data.toList = c :: r) (w : World) (hs : s.size ≤ maxLen) :
    Calls Tryd.prog 23 #[.string s, .string ⟨#[c]⟩] w fun e w' => e = .returned (.tuple #[.string (bs r), .bool true]) ∧ w' = w := by
  unfold maxLen at hs
  have hlen : s.size = r.length + 1 := by have : s.data.toList.length = s.size := rfl; rw [hl] at this; simp at this; omega
  have h : (1 : Int) ≤ s.size := by omega
  have hd : ((s.extract 0 1).toList == [c]) = true := by rw [head1, hl]; simp
  have HG : Hid (Value.tuple #[.string (bs r), .bool true] = Value.tuple #[.string (s.extract 1 s.size), .bool true]) := by
    show _ = _; rw [extract_bs, hl]; rfl
  clear hl hlen
  go_enter Tryd.func23, Tryd.ntmps23
  go_wp2
  go_ret2
  exact ⟨fin_eq HG.out, rfl⟩

set_option maxHeartbeats 1000000 in
theorem cut_no (s : ByteArray) (c : UInt8) (hl : s.data.toList[0]? ≠ some c) (w : World) (hs : s.size ≤ maxLen) :
    Calls Tryd.prog 23 #[.string s, .string ⟨#[c]⟩] w fun e w' => e = .returned (.tuple #[.string s, .bool false]) ∧ w' = w := by
  unfold maxLen at hs
  have hlen : s.data.toList.length = s.size := rfl
  by_cases h : (1 : Int) ≤ s.size
  · have hd : ((s.extract 0 1).toList == [c]) = false := by
      rw [head1]
      cases e : s.data.toList with
      | nil => rw [e] at hlen; simp at hlen; omega
      | cons d l => rw [e] at hl; simp at hl; simpa using hl
    clear hl hlen
    go_enter Tryd.func23, Tryd.ntmps23
    go_wp2
    go_ret2
    exact ⟨rfl, rfl⟩
  · have hd : decide ((1 : Int) ≤ s.size) = false := by simpa using h
    clear hl hlen
    go_enter Tryd.func23, Tryd.ntmps23
    go_wp2
    go_ret2
    exact ⟨rfl, rfl⟩

/-- the address of the first k of four numbers -/
def jt (q0 q1 q2 q3 : Int) : Nat → Int
  | 0 => 0
  | 1 => q0
  | 2 => q0 * 256 + q1
  | 3 => (q0 * 256 + q1) * 256 + q2
  | _ => ((q0 * 256 + q1) * 256 + q2) * 256 + q3
/-- what joinQuad answers -/
def jqV (q0 q1 q2 q3 : Int) : Value :=
  if q0 ≤ 255 ∧ q1 ≤ 255 ∧ q2 ≤ 255 ∧ q3 ≤ 255 then .tuple #[.int .u32 (jt q0 q1 q2 q3 4), .bool true] else .tuple #[.int .u32 0, .bool false]

theorem or_join (a n : Int) (ha : 0 ≤ a) (ha2 : a ≤ 16777215) (hn : 0 ≤ n) (hn2 : n ≤ 255) : bits .or .u32 (a * 256) n = a * 256 + n := by
  rw [u32_or _ _ (by omega) (by omega) hn (by omega), nat_join 8 _ _ (by omega) (by omega)]
  omega

theorem bel1d (w : World) (o : Obj) : Below w.heap.size w (w.alloc o) := (Below.refl _ _).alloc (Nat.le_refl _) _

set_option maxHeartbeats 4000000 in
theorem join_any (q0 q1 q2 q3 : Int) (b0 : 0 ≤ q0 ∧ q0 ≤ 999) (b1 : 0 ≤ q1 ∧ q1 ≤ 999) (b2 : 0 ≤ q2 ∧ q2 ≤ 999) (b3 : 0 ≤ q3 ∧ q3 ≤ 999) (w : World) :
    Calls Tryd.prog 22 #[.agg #[.int .i64 q0, .int .i64 q1, .int .i64 q2, .int .i64 q3]] w fun e w' => e = .returned (jqV q0 q1 q2 q3) ∧ Below w.heap.size w w' := by
  have i0 : ∀ w, (Instr.index 44 (.agg #[.int .i64 q0, .int .i64 q1, .int .i64 q2, .int .i64 q3]) (.int .i64 0)).run Tryd.prog w = .ok (.int .i64 q0) w := fun _ => by kernel_rfl
  have i1 : ∀ w, (Instr.index 44 (.agg #[.int .i64 q0, .int .i64 q1, .int .i64 q2, .int .i64 q3]) (.int .i64 1)).run Tryd.prog w = .ok (.int .i64 q1) w := fun _ => by kernel_rfl
  have i2 : ∀ w, (Instr.index 44 (.agg #[.int .i64 q0, .int .i64 q1, .int .i64 q2, .int .i64 q3]) (.int .i64 2)).run Tryd.prog w = .ok (.int .i64 q2) w := fun _ => by kernel_rfl
  have i3 : ∀ w, (Instr.index 44 (.agg #[.int .i64 q0, .int .i64 q1, .int .i64 q2, .int .i64 q3]) (.int .i64 3)).run Tryd.prog w = .ok (.int .i64 q3) w := fun _ => by kernel_rfl
  go_enter Tryd.func22, Tryd.ntmps22
  go_wp2_with fail
  go_loop [2, 7] (fun a i => ∃ k : Nat, k ≤ 4 ∧ i = .int .i64 k ∧ a = .int .u32 (jt q0 q1 q2 q3 k) ∧ (0 < k → q0 ≤ 255) ∧ (1 < k → q1 ≤ 255) ∧ (2 < k → q2 ≤ 255) ∧ (3 < k → q3 ≤ 255)) (fun _ i => 4 - (intOf i).toNat)
  case atStart => exact ⟨0, by omega, rfl, rfl, by omega, by omega, by omega, by omega⟩
  case round =>
    obtain ⟨k, hk, rfl, rfl, l0, l1, l2, l3⟩ := hrel
    have hn : k = 0 ∨ k = 1 ∨ k = 2 ∨ k = 3 ∨ k = 4 := by omega
    have L : Hid ((0 < k → q0 ≤ 255) ∧ (1 < k → q1 ≤ 255) ∧ (2 < k → q2 ≤ 255) ∧ (3 < k → q3 ≤ 255)) := ⟨l0, l1, l2, l3⟩
    clear l0 l1 l2 l3
    rcases hn with rfl | rfl | rfl | rfl | rfl
    · have hL := L.out
      have hj : 0 ≤ jt q0 q1 q2 q3 0 ∧ jt q0 q1 q2 q3 0 ≤ 16777215 := by simp only [jt]; omega
      have HJ : Hid (jt q0 q1 q2 q3 1 = jt q0 q1 q2 q3 0 * 256 + q0) := by show _ = _; simp [jt]
      clear hL
      by_cases hq : q0 ≤ 255
      · go_wp2_with fail
        have hL := L.out
        exact ⟨⟨1, by omega, rfl, congrArg (Value.int .u32) (by rw [or_join _ _ hj.1 hj.2 b0.1 hq, HJ.out]), by omega, by omega, by omega, by omega⟩, by simp [intOf]⟩
      · have HG : Hid (jqV q0 q1 q2 q3 = .tuple #[.int .u32 0, .bool false]) := by show _ = _; unfold jqV; rw [if_neg (by omega)]
        go_wp2_with fail
        go_ret2
        exact ⟨fin_eq HG.out, bel1d _ _⟩
    · have hL := L.out
      have hj : 0 ≤ jt q0 q1 q2 q3 1 ∧ jt q0 q1 q2 q3 1 ≤ 16777215 := by simp only [jt]; omega
      have HJ : Hid (jt q0 q1 q2 q3 2 = jt q0 q1 q2 q3 1 * 256 + q1) := by show _ = _; simp [jt]
      clear hL
      by_cases hq : q1 ≤ 255
      · go_wp2_with fail
        have hL := L.out
        exact ⟨⟨2, by omega, rfl, congrArg (Value.int .u32) (by rw [or_join _ _ hj.1 hj.2 b1.1 hq, HJ.out]), by omega, by omega, by omega, by omega⟩, by simp [intOf]⟩
      · have HG : Hid (jqV q0 q1 q2 q3 = .tuple #[.int .u32 0, .bool false]) := by show _ = _; unfold jqV; rw [if_neg (by omega)]
        go_wp2_with fail
        go_ret2
        exact ⟨fin_eq HG.out, bel1d _ _⟩
    · have hL := L.out
      have hj : 0 ≤ jt q0 q1 q2 q3 2 ∧ jt q0 q1 q2 q3 2 ≤ 16777215 := by simp only [jt]; omega
      have HJ : Hid (jt q0 q1 q2 q3 3 = jt q0 q1 q2 q3 2 * 256 + q2) := by show _ = _; simp [jt]
      clear hL
      by_cases hq : q2 ≤ 255
      · go_wp2_with fail
        have hL := L.out
        exact ⟨⟨3, by omega, rfl, congrArg (Value.int .u32) (by rw [or_join _ _ hj.1 hj.2 b2.1 hq, HJ.out]), by omega, by omega, by omega, by omega⟩, by simp [intOf]⟩
      · have HG : Hid (jqV q0 q1 q2 q3 = .tuple #[.int .u32 0, .bool false]) := by show _ = _; unfold jqV; rw [if_neg (by omega)]
        go_wp2_with fail
        go_ret2
        exact ⟨fin_eq HG.out, bel1d _ _⟩
    · have hL := L.out
      have hj : 0 ≤ jt q0 q1 q2 q3 3 ∧ jt q0 q1 q2 q3 3 ≤ 16777215 := by simp only [jt]; omega
      have HJ : Hid (jt q0 q1 q2 q3 4 = jt q0 q1 q2 q3 3 * 256 + q3) := by show _ = _; simp [jt]
      clear hL
      by_cases hq : q3 ≤ 255
      · go_wp2_with fail
        have hL := L.out
        exact ⟨⟨4, by omega, rfl, congrArg (Value.int .u32) (by rw [or_join _ _ hj.1 hj.2 b3.1 hq, HJ.out]), by omega, by omega, by omega, by omega⟩, by simp [intOf]⟩
      · have HG : Hid (jqV q0 q1 q2 q3 = .tuple #[.int .u32 0, .bool false]) := by show _ = _; unfold jqV; rw [if_neg (by omega)]
        go_wp2_with fail
        go_ret2
        exact ⟨fin_eq HG.out, bel1d _ _⟩
    · have hL := L.out
      have HG : Hid (jqV q0 q1 q2 q3 = .tuple #[.int .u32 (jt q0 q1 q2 q3 4), .bool true]) := by show _ = _; unfold jqV; rw [if_pos (by omega)]
      clear hL
      go_wp2_with fail
      go_ret2
      exact ⟨fin_eq HG.out, bel1d _ _⟩
end Go.Proofs.YthibebjighjlaaaDoor.Rd
