/- readQuad: what it answers, at every text. -/
import Derived.Test.YthibebjighjlaaaDoorRead2
namespace Go.Proofs.YthibebjighjlaaaDoor.Rd
open Go.ChangeShapes Go.WideShapes Go.ChangeAt Go.RowKit Go.Proofs.YthibebjighjlaaaDoor.TM
set_option linter.unusedVariables false

/-- a number of one to three digits at the beginning of a text, and the rest -/
def numQ (r : List UInt8) : Option (Int × List UInt8) :=
  if okN r (min (nd r) 3) = true then some (val (r.take (min (nd r) 3)), r.drop (min (nd r) 3)) else none
/-- a dot at the beginning of a text, and the rest -/
def dotQ (r : List UInt8) : Option (List UInt8) := match r with | c :: t => if c = 46 then some t else none | [] => none
def rq1 (l : List UInt8) : Option (Int × List UInt8) := numQ l
def rq2 (l : List UInt8) : Option (Int × Int × List UInt8) := (rq1 l).bind fun x => (dotQ x.2).bind fun t => (numQ t).bind fun y => some (x.1, y.1, y.2)
def rq3 (l : List UInt8) : Option (Int × Int × Int × List UInt8) := (rq2 l).bind fun x => (dotQ x.2.2).bind fun t => (numQ t).bind fun y => some (x.1, x.2.1, y.1, y.2)
def rq4 (l : List UInt8) : Option (Int × Int × Int × Int × List UInt8) := (rq3 l).bind fun x => (dotQ x.2.2.2).bind fun t => (numQ t).bind fun y => some (x.1, x.2.1, x.2.2.1, y.1, y.2)
/-- what readQuad answers -/
def rqV (l : List UInt8) : Value := match rq4 l with
  | some (a, b, c, d, r) => .tuple #[.agg #[.int .i64 a, .int .i64 b, .int .i64 c, .int .i64 d], .string (bs r), .bool true]
  | none => .tuple #[.agg #[.int .i64 0, .int .i64 0, .int .i64 0, .int .i64 0], .string ⟨#[]⟩, .bool false]

theorem numQ_some {r : List UInt8} {v : Int} {t : List UInt8} (h : numQ r = some (v, t)) : (0 ≤ v ∧ v ≤ 999) ∧ t.length ≤ r.length ∧ rdV r 3 = .tuple #[.int .i64 v, .string (bs t), .bool true] := by
  unfold numQ at h
  split at h
  · rename_i hk
    simp at h
    obtain ⟨rfl, rfl⟩ := h
    refine ⟨val_take3 _ _ (by omega) (by omega), by simp, ?_⟩
    unfold rdV; rw [if_pos hk]
  · cases h
theorem numQ_none {r : List UInt8} (h : numQ r = none) : rdV r 3 = .tuple #[.int .i64 0, .string ⟨#[]⟩, .bool false] := by
  unfold numQ at h
  split at h
  · cases h
  · rename_i hk; unfold rdV; rw [if_neg hk]
theorem read_yes {r : List UInt8} {v : Int} {t : List UInt8} (h : numQ r = some (v, t)) (hl : r.length ≤ maxLen) (w : World) :
    Calls Tryd.prog 24 #[.string (bs r), .int .i64 3] w fun e w' => e = .returned (.tuple #[.int .i64 v, .string (bs t), .bool true]) ∧ ∃ q, w' = w.drewN q := by
  have := readNumber_any (bs r) 3 (by omega) (by omega) w (by rw [bs_size]; exact hl)
  rw [bs_list, (numQ_some h).2.2] at this
  exact this
theorem read_no {r : List UInt8} (h : numQ r = none) (hl : r.length ≤ maxLen) (w : World) :
    Calls Tryd.prog 24 #[.string (bs r), .int .i64 3] w fun e w' => e = .returned (.tuple #[.int .i64 0, .string ⟨#[]⟩, .bool false]) ∧ ∃ q, w' = w.drewN q := by
  have := readNumber_any (bs r) 3 (by omega) (by omega) w (by rw [bs_size]; exact hl)
  rw [bs_list, numQ_none h] at this
  exact this
theorem dot_yes {r t : List UInt8} (h : dotQ r = some t) (hl : r.length ≤ maxLen) (w : World) :
    Calls Tryd.prog 23 #[.string (bs r), .string ⟨#[46]⟩] w fun e w' => e = .returned (.tuple #[.string (bs t), .bool true]) ∧ w' = w := by
  refine cut_yes (bs r) 46 t ?_ w (by rw [bs_size]; exact hl)
  rw [bs_list]
  unfold dotQ at h
  split at h
  · split at h
    · simp at h; rename_i h2; rw [h2, h]
    · cases h
  · cases h
theorem dot_no {r : List UInt8} (h : dotQ r = none) (hl : r.length ≤ maxLen) (w : World) :
    Calls Tryd.prog 23 #[.string (bs r), .string ⟨#[46]⟩] w fun e w' => e = .returned (.tuple #[.string (bs r), .bool false]) ∧ w' = w := by
  refine cut_no (bs r) 46 ?_ w (by rw [bs_size]; exact hl)
  rw [bs_list]
  unfold dotQ at h
  split at h
  · split at h
    · cases h
    · simpa using ‹_›
  · simp
theorem dotQ_len {r t : List UInt8} (h : dotQ r = some t) : t.length ≤ r.length := by
  unfold dotQ at h
  split at h
  · split at h
    · simp at h; subst h; simp
    · cases h
  · cases h

theorem set_q (w : World) (C : Array Value) (T : TypeId) (n i : Nat) (v : Value) : ((w.alloc (.cells C T)).drewN n).setCell ⟨w.heap.size, i, none⟩ v = (w.alloc (.cells (C.setIfInBounds i v) T)).drewN n := by
  have e : ((w.alloc (.cells C T)).drewN n).setCell ⟨w.heap.size, i, none⟩ v = ((w.alloc (.cells C T)).setCell ⟨w.heap.size, i, none⟩ v).drewN n := rfl
  rw [e, World.setCell_alloc_at _ _ _ _ _ rfl]
theorem bel_q (w : World) (o : Obj) (q : Nat) : Below w.heap.size w ((w.alloc o).drewN q) := below_drewN ((Below.refl _ _).alloc (Nat.le_refl _) _) q

theorem rqV_none {l : List UInt8} (h : rq4 l = none) : rqV l = .tuple #[.agg #[.int .i64 0, .int .i64 0, .int .i64 0, .int .i64 0], .string ⟨#[]⟩, .bool false] := by unfold rqV; rw [h]
theorem rqV_some {l : List UInt8} {a b c d : Int} {r : List UInt8} (h : rq4 l = some (a, b, c, d, r)) : rqV l = .tuple #[.agg #[.int .i64 a, .int .i64 b, .int .i64 c, .int .i64 d], .string (bs r), .bool true] := by unfold rqV; rw [h]

set_option maxHeartbeats 8000000 in
theorem readQuad_any (l : List UInt8) (w : World) (hs : l.length ≤ maxLen) :
    Calls Tryd.prog 21 #[.string (bs l)] w fun e w' => e = .returned (rqV l) ∧ Below w.heap.size w w' := by
  have hset := set_q w
  go_enter Tryd.func21, Tryd.ntmps21
  go_wp2_with fail
  go_loopw [3, 7] (fun t i wr => ∃ (k q : Nat) (r : List UInt8) (a b c d : Int), i = .int .i64 k ∧ t = .string (bs r) ∧ r.length ≤ l.length ∧ wr = (w.alloc (.cells #[.int .i64 a, .int .i64 b, .int .i64 c, .int .i64 d] 44)).drewN q ∧
    ((k = 0 ∧ r = l ∧ a = 0 ∧ b = 0 ∧ c = 0 ∧ d = 0) ∨ (k = 1 ∧ rq1 l = some (a, r) ∧ b = 0 ∧ c = 0 ∧ d = 0) ∨ (k = 2 ∧ rq2 l = some (a, b, r) ∧ c = 0 ∧ d = 0) ∨ (k = 3 ∧ rq3 l = some (a, b, c, r) ∧ d = 0) ∨ (k = 4 ∧ rq4 l = some (a, b, c, d, r)))) (fun _ i _ => 4 - (intOf i).toNat)
  case atStart => exact ⟨0, 0, l, 0, 0, 0, 0, rfl, rfl, Nat.le_refl _, rfl, .inl ⟨rfl, rfl, rfl, rfl, rfl, rfl⟩⟩
  case round =>
    obtain ⟨k, q, r, a, b, c, d, rfl, rfl, hrl, rfl, hk⟩ := hrel
    rcases hk with ⟨rfl, hq, rfl, rfl, rfl, rfl⟩ | ⟨rfl, hq, rfl, rfl, rfl⟩ | ⟨rfl, hq, rfl, rfl⟩ | ⟨rfl, hq, rfl⟩ | ⟨rfl, hq⟩
    · have HQ : Hid (r = l) := hq
      clear hq
      cases hn : numQ r with
      | some x =>
        obtain ⟨v, t⟩ := x
        have hv := numQ_some hn
        have HN : Hid (numQ r = some (v, t)) := hn
        have h2 := hv.2.1
        clear hv hn
        go_wp2_with (go_at_call 24; refine (read_yes HN.out (by omega) _).mono ?_; rintro e w1 ⟨rfl, q1, rfl⟩)
        exact ⟨⟨1, _, t, v, 0, 0, 0, rfl, rfl, by omega, rfl, .inr (.inl ⟨rfl, by rw [← HQ.out]; exact HN.out, rfl, rfl, rfl⟩)⟩, by simp [intOf]⟩
      | none =>
        have HN : Hid (numQ r = none) := hn
        clear hn
        have HG : Hid (rqV l = .tuple #[.agg #[.int .i64 0, .int .i64 0, .int .i64 0, .int .i64 0], .string ⟨#[]⟩, .bool false]) :=
          rqV_none (by simp [rq4, rq3, rq2, rq1, ← HQ.out, HN.out])
        go_wp2_with (go_at_call 24; refine (read_no HN.out (by omega) _).mono ?_; rintro e w1 ⟨rfl, q1, rfl⟩)
        exact bodyPost_ret (v := .tuple #[.agg #[.int .i64 0, .int .i64 0, .int .i64 0, .int .i64 0], .string ⟨#[]⟩, .bool false]) (by simp [results, Tryd.results21, go_sem]) rfl ⟨fin_eq HG.out, bel_q _ _ _⟩
    · have HQ : Hid (rq1 l = some (a, r)) := hq
      clear hq
      cases hd : dotQ r with
      | none =>
        have HD : Hid (dotQ r = none) := hd
        clear hd
        have HG : Hid (rqV l = .tuple #[.agg #[.int .i64 0, .int .i64 0, .int .i64 0, .int .i64 0], .string ⟨#[]⟩, .bool false]) :=
          rqV_none (by simp [rq4, rq3, rq2, HQ.out, HD.out])
        go_wp2_with (go_at_call 23; refine (dot_no HD.out (by omega) _).mono ?_; rintro e w1 ⟨rfl, rfl⟩)
        exact bodyPost_ret (v := .tuple #[.agg #[.int .i64 0, .int .i64 0, .int .i64 0, .int .i64 0], .string ⟨#[]⟩, .bool false]) (by simp [results, Tryd.results21, go_sem]) rfl ⟨fin_eq HG.out, bel_q _ _ _⟩
      | some u =>
        have h3 := dotQ_len hd
        have HD : Hid (dotQ r = some u) := hd
        clear hd
        cases hn : numQ u with
        | some x =>
          obtain ⟨v, t⟩ := x
          have hv := numQ_some hn
          have HN : Hid (numQ u = some (v, t)) := hn
          have h2 := hv.2.1
          clear hv hn
          go_wp2_with (first | (go_at_call 23; refine (dot_yes HD.out (by omega) _).mono ?_; rintro e w1 ⟨rfl, rfl⟩) | (go_at_call 24; refine (read_yes HN.out (by omega) _).mono ?_; rintro e w1 ⟨rfl, q1, rfl⟩))
          exact ⟨⟨2, _, t, a, v, 0, 0, rfl, rfl, by omega, rfl, .inr (.inr (.inl ⟨rfl, by simp [rq2, HQ.out, HD.out, HN.out], rfl, rfl⟩))⟩, by simp [intOf]⟩
        | none =>
          have HN : Hid (numQ u = none) := hn
          clear hn
          have HG : Hid (rqV l = .tuple #[.agg #[.int .i64 0, .int .i64 0, .int .i64 0, .int .i64 0], .string ⟨#[]⟩, .bool false]) :=
            rqV_none (by simp [rq4, rq3, rq2, HQ.out, HD.out, HN.out])
          go_wp2_with (first | (go_at_call 23; refine (dot_yes HD.out (by omega) _).mono ?_; rintro e w1 ⟨rfl, rfl⟩) | (go_at_call 24; refine (read_no HN.out (by omega) _).mono ?_; rintro e w1 ⟨rfl, q1, rfl⟩))
          exact bodyPost_ret (v := .tuple #[.agg #[.int .i64 0, .int .i64 0, .int .i64 0, .int .i64 0], .string ⟨#[]⟩, .bool false]) (by simp [results, Tryd.results21, go_sem]) rfl ⟨fin_eq HG.out, bel_q _ _ _⟩
    · have HQ : Hid (rq2 l = some (a, b, r)) := hq
      clear hq
      cases hd : dotQ r with
      | none =>
        have HD : Hid (dotQ r = none) := hd
        clear hd
        have HG : Hid (rqV l = .tuple #[.agg #[.int .i64 0, .int .i64 0, .int .i64 0, .int .i64 0], .string ⟨#[]⟩, .bool false]) :=
          rqV_none (by simp [rq4, rq3, HQ.out, HD.out])
        go_wp2_with (go_at_call 23; refine (dot_no HD.out (by omega) _).mono ?_; rintro e w1 ⟨rfl, rfl⟩)
        exact bodyPost_ret (v := .tuple #[.agg #[.int .i64 0, .int .i64 0, .int .i64 0, .int .i64 0], .string ⟨#[]⟩, .bool false]) (by simp [results, Tryd.results21, go_sem]) rfl ⟨fin_eq HG.out, bel_q _ _ _⟩
      | some u =>
        have h3 := dotQ_len hd
        have HD : Hid (dotQ r = some u) := hd
        clear hd
        cases hn : numQ u with
        | some x =>
          obtain ⟨v, t⟩ := x
          have hv := numQ_some hn
          have HN : Hid (numQ u = some (v, t)) := hn
          have h2 := hv.2.1
          clear hv hn
          go_wp2_with (first | (go_at_call 23; refine (dot_yes HD.out (by omega) _).mono ?_; rintro e w1 ⟨rfl, rfl⟩) | (go_at_call 24; refine (read_yes HN.out (by omega) _).mono ?_; rintro e w1 ⟨rfl, q1, rfl⟩))
          exact ⟨⟨3, _, t, a, b, v, 0, rfl, rfl, by omega, rfl, .inr (.inr (.inr (.inl ⟨rfl, by simp [rq3, HQ.out, HD.out, HN.out], rfl⟩)))⟩, by simp [intOf]⟩
        | none =>
          have HN : Hid (numQ u = none) := hn
          clear hn
          have HG : Hid (rqV l = .tuple #[.agg #[.int .i64 0, .int .i64 0, .int .i64 0, .int .i64 0], .string ⟨#[]⟩, .bool false]) :=
            rqV_none (by simp [rq4, rq3, HQ.out, HD.out, HN.out])
          go_wp2_with (first | (go_at_call 23; refine (dot_yes HD.out (by omega) _).mono ?_; rintro e w1 ⟨rfl, rfl⟩) | (go_at_call 24; refine (read_no HN.out (by omega) _).mono ?_; rintro e w1 ⟨rfl, q1, rfl⟩))
          exact bodyPost_ret (v := .tuple #[.agg #[.int .i64 0, .int .i64 0, .int .i64 0, .int .i64 0], .string ⟨#[]⟩, .bool false]) (by simp [results, Tryd.results21, go_sem]) rfl ⟨fin_eq HG.out, bel_q _ _ _⟩
    · have HQ : Hid (rq3 l = some (a, b, c, r)) := hq
      clear hq
      cases hd : dotQ r with
      | none =>
        have HD : Hid (dotQ r = none) := hd
        clear hd
        have HG : Hid (rqV l = .tuple #[.agg #[.int .i64 0, .int .i64 0, .int .i64 0, .int .i64 0], .string ⟨#[]⟩, .bool false]) :=
          rqV_none (by simp [rq4, HQ.out, HD.out])
        go_wp2_with (go_at_call 23; refine (dot_no HD.out (by omega) _).mono ?_; rintro e w1 ⟨rfl, rfl⟩)
        exact bodyPost_ret (v := .tuple #[.agg #[.int .i64 0, .int .i64 0, .int .i64 0, .int .i64 0], .string ⟨#[]⟩, .bool false]) (by simp [results, Tryd.results21, go_sem]) rfl ⟨fin_eq HG.out, bel_q _ _ _⟩
      | some u =>
        have h3 := dotQ_len hd
        have HD : Hid (dotQ r = some u) := hd
        clear hd
        cases hn : numQ u with
        | some x =>
          obtain ⟨v, t⟩ := x
          have hv := numQ_some hn
          have HN : Hid (numQ u = some (v, t)) := hn
          have h2 := hv.2.1
          clear hv hn
          go_wp2_with (first | (go_at_call 23; refine (dot_yes HD.out (by omega) _).mono ?_; rintro e w1 ⟨rfl, rfl⟩) | (go_at_call 24; refine (read_yes HN.out (by omega) _).mono ?_; rintro e w1 ⟨rfl, q1, rfl⟩))
          exact ⟨⟨4, _, t, a, b, c, v, rfl, rfl, by omega, rfl, .inr (.inr (.inr (.inr ⟨rfl, by simp [rq4, HQ.out, HD.out, HN.out]⟩)))⟩, by simp [intOf]⟩
        | none =>
          have HN : Hid (numQ u = none) := hn
          clear hn
          have HG : Hid (rqV l = .tuple #[.agg #[.int .i64 0, .int .i64 0, .int .i64 0, .int .i64 0], .string ⟨#[]⟩, .bool false]) :=
            rqV_none (by simp [rq4, HQ.out, HD.out, HN.out])
          go_wp2_with (first | (go_at_call 23; refine (dot_yes HD.out (by omega) _).mono ?_; rintro e w1 ⟨rfl, rfl⟩) | (go_at_call 24; refine (read_no HN.out (by omega) _).mono ?_; rintro e w1 ⟨rfl, q1, rfl⟩))
          exact bodyPost_ret (v := .tuple #[.agg #[.int .i64 0, .int .i64 0, .int .i64 0, .int .i64 0], .string ⟨#[]⟩, .bool false]) (by simp [results, Tryd.results21, go_sem]) rfl ⟨fin_eq HG.out, bel_q _ _ _⟩
    · have HG : Hid (rqV l = .tuple #[.agg #[.int .i64 a, .int .i64 b, .int .i64 c, .int .i64 d], .string (bs r), .bool true]) := rqV_some hq
      clear hq
      go_wp2_with fail
      exact bodyPost_ret (v := .tuple #[.agg #[.int .i64 a, .int .i64 b, .int .i64 c, .int .i64 d], .string (bs r), .bool true]) (by simp [results, Tryd.results21, go_sem]) rfl ⟨fin_eq HG.out, bel_q _ _ _⟩
end Go.Proofs.YthibebjighjlaaaDoor.Rd
