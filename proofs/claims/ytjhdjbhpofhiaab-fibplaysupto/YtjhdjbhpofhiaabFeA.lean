/- FibPlays: what a step answers, whether it may write, how many numbers are made; plain. -/
import Derived.Test.YtjhdjbhpofhiaabFdB
namespace Go.Proofs.Ytjhdjbhpofhiaab.Fb
open Go.ChangeShapes Go.WideShapes Go.ChangeAt Go.RowKit Go.Joins Go.Proofs.Ytjhdjbhpofhiaab.PM Go.Proofs.Ytjhdjbhpofhiaab.Ask
set_option linter.unusedVariables false

theorem sz_few : ∀ {t : TrM.Tr}, Sl t → TrM.isNil t = true ∨ sz t + 1 ≤ 2 * (TrM.allT t).length
  | .nil, _ => .inl rfl
  | .node b m u h l r, hs => by
    right
    obtain ⟨h1, h2, h3⟩ := hs
    have e : (TrM.allT (.node b m u h l r)).length = (if h = true then 1 else 0) + ((TrM.allT l).length + (TrM.allT r).length) := by
      show ((if h = true then [(b, m, u)] else []) ++ (TrM.allT l ++ TrM.allT r)).length = _
      rw [List.length_append, List.length_append]
      split <;> rfl
    have e2 : sz (.node b m u h l r) = sz l + sz r + 1 := rfl
    have z : ∀ x : TrM.Tr, TrM.isNil x = true → sz x = 0 := fun x hx => by cases x with | nil => rfl | node _ _ _ _ _ _ => cases hx
    rw [e, e2]
    rcases h1 with h1 | ⟨h4, h5⟩
    · rw [if_pos h1]
      rcases sz_few h2 with n1 | n1 <;> rcases sz_few h3 with n2 | n2
      · rw [z l n1, z r n2]; omega
      · rw [z l n1]; omega
      · rw [z r n2]; omega
      · omega
    · rcases sz_few h2 with n1 | n1
      · rw [h4] at n1; cases n1
      rcases sz_few h3 with n2 | n2
      · rw [h5] at n2; cases n2
      omega
/-- no more numbers are made than twice the most entries -/
theorem made_most {ms : List Int} {made : Int} {t t' : TrM.Tr} {ws : List (Nat × Int)} {made' : Int} {fr' : List Int} (h : Step ms made t t' ws made' fr') {M : Nat} (hm : made ≤ 2 * M) (hl : (TrM.allT t').length ≤ M) : made' ≤ 2 * M := by
  rcases h.room with e | e
  · omega
  · have hc := h.fit.cnt
    rw [nums_len, e, List.length_nil] at hc
    rcases sz_few h.fit.sl with n | n
    · have : sz t' = 0 := by cases t' with | nil => rfl | node _ _ _ _ _ _ => cases n
      omega
    · omega
theorem ins_same : ∀ {t : TrM.Tr} {a n v : Int}, TrM.look t a n = some v → TrM.ins t a n v = t
  | .nil, a, n, v, h => by cases h
  | .node b m u hh l r, a, n, v, h => by
    by_cases e : b = a ∧ m = n
    · rw [TrM.look_at e] at h
      unfold TrM.ins
      rw [if_pos e]
      by_cases hb : hh = true
      · rw [if_pos hb] at h; cases h
        obtain ⟨rfl, rfl⟩ := e
        rw [hb]
      · rw [if_neg hb] at h; cases h
    · by_cases hc : cov b m a n = true
      · by_cases hs : TrM.sdI a m = 0
        · rw [TrM.look_l e hc hs] at h
          unfold TrM.ins
          rw [if_neg e, if_pos hc, if_pos hs, ins_same h]
        · rw [TrM.look_r e hc hs] at h
          unfold TrM.ins
          rw [if_neg e, if_pos hc, if_neg hs, ins_same h]
      · rw [TrM.look_none e hc] at h; cases h
theorem del_had : ∀ {t : TrM.Tr} {a n : Int}, (TrM.del t a n).2 = true → TrM.look t a n ≠ none
  | .nil, a, n, h => by cases h
  | .node b m u hh l r, a, n, h => by
    unfold TrM.del at h
    by_cases hc : cov b m a n = true
    · rw [if_pos hc] at h
      by_cases e : b = a ∧ m = n
      · rw [if_pos e] at h
        by_cases hb : hh = true
        · rw [TrM.look_at e, if_pos hb]; simp
        · rw [if_neg hb] at h; cases h
      · rw [if_neg e] at h
        by_cases hs : TrM.sdI a m = 0
        · rw [if_pos hs] at h
          rw [TrM.look_l e hc hs]
          by_cases hd : (TrM.del l a n).2 = true
          · exact del_had hd
          · rw [if_neg hd] at h; cases h
        · rw [if_neg hs] at h
          rw [TrM.look_r e hc hs]
          by_cases hd : (TrM.del r a n).2 = true
          · exact del_had hd
          · rw [if_neg hd] at h; cases h
    · rw [if_neg hc] at h; cases h
theorem del_look {t : TrM.Tr} (hw : TrM.WF t) (a n : Int) : (TrM.del t a n).2 = (TrM.look t a n).isSome := by
  cases h : (TrM.del t a n).2 with
  | true =>
    have := del_had h
    cases h2 : TrM.look t a n with
    | none => exact absurd h2 this
    | some v => rfl
  | false => rw [(TrM.del_ok t a n hw).2.2.2.2 h]; rfl

/-- what a step answers -/
def stepErr (t : TrM.Tr) (ad len way : Int) (dr : Bool) : Int := if dr = true then dropErr t ad len else setErr ad len way
theorem want_err {t : TrM.Tr} (hw : TrM.WF t) (ad len way : Int) (dr : Bool) : Bk.wantE (TrM.allT t) ad len way dr = stepErr t ad len way dr := by
  unfold Bk.wantE stepErr dropErr setErr
  rw [TrM.bget_allT hw, del_look hw]
  cases hv : vld ad len with
  | false => cases dr <;> simp
  | true =>
    cases dr with
    | true => cases h : TrM.look t ad len <;> simp
    | false => simp
theorem want_quiet {t : TrM.Tr} (hw : TrM.WF t) {ad len way : Int} {dr : Bool} (h : Bk.wantM (TrM.allT t) ad len way dr = false) : stepT t ad len way dr = t := by
  unfold Bk.wantM at h
  rw [TrM.bget_allT hw] at h
  unfold stepT
  have hno : TrM.look t ad len = none → (TrM.del t ad len).1 = t := fun e => by
    have := del_look hw ad len
    rw [e] at this
    rw [del_no this]
  cases dr with
  | true =>
    rw [if_pos rfl]
    cases hv : vld ad len with
    | false => exact hno (look_vld hw hv)
    | true =>
      rw [hv, if_pos rfl, if_pos rfl] at h
      cases hl : TrM.look t ad len with
      | none => exact hno hl
      | some v => rw [hl] at h; cases h
  | false =>
    rw [if_neg (by decide)]
    unfold setT setErr
    cases hv : vld ad len with
    | false => rw [if_pos rfl, if_neg (by decide)]
    | true =>
      rw [hv, if_pos rfl, if_neg (by decide)] at h
      have e0 : (if true = false then (3 : Int) else if way < 1 ∨ 65535 < way then 2 else 0) = if way < 1 ∨ 65535 < way then 2 else 0 := if_neg (by decide)
      rw [e0]
      by_cases hb : way < 1 ∨ 65535 < way
      · rw [if_pos hb, if_neg (by decide)]
      · rw [if_neg hb] at h
        rw [if_neg hb, if_pos rfl]
        cases hl : TrM.look t ad len with
        | none => rw [hl] at h; simp at h
        | some v =>
          rw [hl] at h
          have : v = way := by simpa using h
          exact ins_same (by rw [hl, this])
theorem do_step2 (bt : Nat) (ms : List Int) (made : Int) (fr : List Int) (o1 o2 : Option Nat) (t : TrM.Tr) (hfit : Fit ms made fr t) (m1 : made + 2 < 4294967296) (ad len way : Int) (dr : Bool) (a0 : 0 ≤ ad) (a1 : ad < 4294967296) (t' : TrM.Tr) (ht' : stepT t ad len way dr = t') (er : Int) (her : stepErr t ad len way dr = er) (w : World) (h : Tab (bt + 1) w bt ms made fr o1 o2) :
    Calls Try.prog 20 #[.pointer (some ⟨bt, 0, none⟩), .agg #[.int .u32 ad, .int .i64 len, .int .i64 way, .bool dr]] w fun e w' => DidT (bt + 1) bt o1 o2 w ms made t t' er e w' := by
  cases dr with
  | true => exact do_drop bt ms made fr o1 o2 t hfit m1 ad len way a0 a1 t' ht' er her w h
  | false => exact do_set bt ms made fr o1 o2 t hfit m1 ad len way a0 a1 t' ht' er her w h
end Go.Proofs.Ytjhdjbhpofhiaab.Fb
