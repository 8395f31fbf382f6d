/- ParseAddr and Parse: what each answers, at every text. -/
import Derived.Test.YthibebjighjlaaaDoorRead6
import Derived.Test.YthibebjighjlaaaDoorAsk2
namespace Go.Proofs.YthibebjighjlaaaDoor.Rd
open Go.ChangeShapes Go.WideShapes Go.ChangeAt Go.RowKit Go.Proofs.YthibebjighjlaaaDoor.TM Go.Proofs.YthibebjighjlaaaDoor.PM
set_option linter.unusedVariables false

theorem rq1_bd {l : List UInt8} {a : Int} {r : List UInt8} (h : rq1 l = some (a, r)) : (0 ≤ a ∧ a ≤ 999) ∧ r.length ≤ l.length := ⟨(numQ_some h).1, (numQ_some h).2.1⟩
theorem rq2_bd {l : List UInt8} {a b : Int} {r : List UInt8} (h : rq2 l = some (a, b, r)) : (0 ≤ a ∧ a ≤ 999) ∧ (0 ≤ b ∧ b ≤ 999) ∧ r.length ≤ l.length := by
  simp only [rq2, Option.bind_eq_some_iff, Prod.exists] at h
  obtain ⟨a', r', h1, t, h2, v, u, h3, h4⟩ := h
  simp at h4
  obtain ⟨rfl, rfl, rfl⟩ := h4
  have i1 := rq1_bd h1; have i2 := dotQ_len h2; have i3 := numQ_some h3
  exact ⟨i1.1, i3.1, by have := i3.2.1; omega⟩
theorem rq3_bd {l : List UInt8} {a b c : Int} {r : List UInt8} (h : rq3 l = some (a, b, c, r)) : (0 ≤ a ∧ a ≤ 999) ∧ (0 ≤ b ∧ b ≤ 999) ∧ (0 ≤ c ∧ c ≤ 999) ∧ r.length ≤ l.length := by
  simp only [rq3, Option.bind_eq_some_iff, Prod.exists] at h
  obtain ⟨a', b', r', h1, t, h2, v, u, h3, h4⟩ := h
  simp at h4
  obtain ⟨rfl, rfl, rfl, rfl⟩ := h4
  have i1 := rq2_bd h1; have i2 := dotQ_len h2; have i3 := numQ_some h3
  exact ⟨i1.1, i1.2.1, i3.1, by have := i3.2.1; omega⟩
theorem rq4_bd {l : List UInt8} {a b c d : Int} {r : List UInt8} (h : rq4 l = some (a, b, c, d, r)) : (0 ≤ a ∧ a ≤ 999) ∧ (0 ≤ b ∧ b ≤ 999) ∧ (0 ≤ c ∧ c ≤ 999) ∧ (0 ≤ d ∧ d ≤ 999) ∧ r.length ≤ l.length := by
  simp only [rq4, Option.bind_eq_some_iff, Prod.exists] at h
  obtain ⟨a', b', c', r', h1, t, h2, v, u, h3, h4⟩ := h
  simp at h4
  obtain ⟨rfl, rfl, rfl, rfl, rfl⟩ := h4
  have i1 := rq3_bd h1; have i2 := dotQ_len h2; have i3 := numQ_some h3
  exact ⟨i1.1, i1.2.1, i1.2.2.1, i3.1, by have := i3.2.1; omega⟩

/-- what ParseAddr answers -/
def paC (L : List UInt8) : Int × Int := match rq4 L with
  | none => (0, 1)
  | some (a, b, c, d, r) => if r = [] then (if fineB a b c d = true then (jt a b c d 4, 0) else (0, 2)) else (0, 1)

theorem quad_no {l : List UInt8} (h : rq4 l = none) (hs : l.length ≤ maxLen) (w : World) :
    Calls Tryd.prog 21 #[.string (bs l)] w fun e w' => e = .returned (.tuple #[.agg #[.int .i64 0, .int .i64 0, .int .i64 0, .int .i64 0], .string ⟨#[]⟩, .bool false]) ∧ Below w.heap.size w w' := by
  have := readQuad_any l w hs
  rw [rqV_none h] at this
  exact this
theorem quad_yes {l : List UInt8} {a b c d : Int} {r : List UInt8} (h : rq4 l = some (a, b, c, d, r)) (hs : l.length ≤ maxLen) (w : World) :
    Calls Tryd.prog 21 #[.string (bs l)] w fun e w' => e = .returned (.tuple #[.agg #[.int .i64 a, .int .i64 b, .int .i64 c, .int .i64 d], .string (bs r), .bool true]) ∧ Below w.heap.size w w' := by
  have := readQuad_any l w hs
  rw [rqV_some h] at this
  exact this
theorem join_yes {a b c d : Int} (h : fineB a b c d = true) (b0 : 0 ≤ a ∧ a ≤ 999) (b1 : 0 ≤ b ∧ b ≤ 999) (b2 : 0 ≤ c ∧ c ≤ 999) (b3 : 0 ≤ d ∧ d ≤ 999) (w : World) :
    Calls Tryd.prog 22 #[.agg #[.int .i64 a, .int .i64 b, .int .i64 c, .int .i64 d]] w fun e w' => e = .returned (.tuple #[.int .u32 (jt a b c d 4), .bool true]) ∧ Below w.heap.size w w' := by
  have := join_any a b c d b0 b1 b2 b3 w
  unfold jqV at this
  rw [if_pos (by simpa [fineB] using h)] at this
  exact this
theorem join_no {a b c d : Int} (h : fineB a b c d = false) (b0 : 0 ≤ a ∧ a ≤ 999) (b1 : 0 ≤ b ∧ b ≤ 999) (b2 : 0 ≤ c ∧ c ≤ 999) (b3 : 0 ≤ d ∧ d ≤ 999) (w : World) :
    Calls Tryd.prog 22 #[.agg #[.int .i64 a, .int .i64 b, .int .i64 c, .int .i64 d]] w fun e w' => e = .returned (.tuple #[.int .u32 0, .bool false]) ∧ Below w.heap.size w w' := by
  have := join_any a b c d b0 b1 b2 b3 w
  unfold jqV at this
  rw [if_neg (by simp [fineB] at h; omega)] at this
  exact this
theorem bs_empty (r : List UInt8) : (bs r).toList.isEmpty = r.isEmpty := by rw [Lib.toList_data, bs_list]

set_option maxHeartbeats 4000000 in
theorem parseAddr_any (l : List UInt8) (w : World) (hs : l.length ≤ maxLen) :
    Calls Tryd.prog 10 #[.string (bs l)] w fun e w' => e = .returned (.tuple #[.int .u32 (paC l).1, .int .i64 (paC l).2]) ∧ Below w.heap.size w w' := by
  cases hq : rq4 l with
  | none =>
    have HQ : Hid (rq4 l = none) := hq
    have HG : Hid (Value.tuple #[.int .u32 (paC l).1, .int .i64 (paC l).2] = .tuple #[.int .u32 0, .int .i64 1]) := by show _ = _; simp [paC, hq]
    clear hq
    go_enter Tryd.func10, Tryd.ntmps10
    go_wp2_with (go_at_call 21; refine (quad_no HQ.out hs _).mono ?_; rintro e w1 ⟨rfl, hb1⟩)
    go_ret2
    exact ⟨fin_eq HG.out, hb1.alloc hb1.size _⟩
  | some x =>
    obtain ⟨a, b, c, d, r⟩ := x
    obtain ⟨b0, b1, b2, b3, hrl⟩ := rq4_bd hq
    have HQ : Hid (rq4 l = some (a, b, c, d, r)) := hq
    clear hq
    by_cases hr : r = []
    · have he : (bs r).toList.isEmpty = true := by rw [bs_empty, hr]; rfl
      by_cases hf : fineB a b c d = true
      · have HF : Hid (fineB a b c d = true) := hf
        have HG : Hid (Value.tuple #[.int .u32 (paC l).1, .int .i64 (paC l).2] = .tuple #[.int .u32 (jt a b c d 4), .int .i64 0]) := by show _ = _; simp [paC, HQ.out, hr, hf]
        clear hf hr
        go_enter Tryd.func10, Tryd.ntmps10
        go_wp2_with (first | (go_at_call 21; refine (quad_yes HQ.out hs _).mono ?_; rintro e w1 ⟨rfl, hb1⟩) | (go_at_call 22; refine (join_yes HF.out b0 b1 b2 b3 _).mono ?_; rintro e w2 ⟨rfl, hb2⟩))
        go_ret2
        exact ⟨fin_eq HG.out, (hb1.alloc hb1.size _).trans (hb2.mono (by have := hb1.size; simp; omega))⟩
      · have HF : Hid (fineB a b c d = false) := by show _ = _; simpa using hf
        have HG : Hid (Value.tuple #[.int .u32 (paC l).1, .int .i64 (paC l).2] = .tuple #[.int .u32 0, .int .i64 2]) := by show _ = _; simp [paC, HQ.out, hr, hf]
        clear hf hr
        go_enter Tryd.func10, Tryd.ntmps10
        go_wp2_with (first | (go_at_call 21; refine (quad_yes HQ.out hs _).mono ?_; rintro e w1 ⟨rfl, hb1⟩) | (go_at_call 22; refine (join_no HF.out b0 b1 b2 b3 _).mono ?_; rintro e w2 ⟨rfl, hb2⟩))
        go_ret2
        exact ⟨fin_eq HG.out, (hb1.alloc hb1.size _).trans (hb2.mono (by have := hb1.size; simp; omega))⟩
    · have he : (bs r).toList.isEmpty = false := by rw [bs_empty]; cases r <;> simp_all
      have HG : Hid (Value.tuple #[.int .u32 (paC l).1, .int .i64 (paC l).2] = .tuple #[.int .u32 0, .int .i64 1]) := by show _ = _; simp [paC, HQ.out, hr]
      clear hr
      go_enter Tryd.func10, Tryd.ntmps10
      go_wp2_with (first | (go_at_call 21; refine (quad_yes HQ.out hs _).mono ?_; rintro e w1 ⟨rfl, hb1⟩))
      go_ret2
      exact ⟨fin_eq HG.out, hb1.alloc hb1.size _⟩
end Go.Proofs.YthibebjighjlaaaDoor.Rd
