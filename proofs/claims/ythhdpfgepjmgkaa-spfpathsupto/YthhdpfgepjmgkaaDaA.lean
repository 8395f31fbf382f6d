/- The damper's maps: keyed by prefixes. -/
import Derived.Test.YthhdpfgepjmgkaaGeM
namespace Go.Proofs.Ythhdpfgepjmgkaa.Ge
open Go.ChangeShapes Go.WideShapes Go.ChangeAt Go.RowKit Go.Joins Go.Deep
set_option linter.unusedVariables false
set_option linter.unusedSimpArgs false

abbrev Pf := Int × Int
def pfV (p : Pf) : Value := .agg #[.int .u32 p.1, .int .i64 p.2]
set_option maxRecDepth 100000 in
theorem ck_int (e : Bool) (t : TypeId) (k : IntKind) (z : Int) (hu : Try.prog.underlying t = some (.int k)) (W : World) : (Instr.checkKey e 9999 t (.int k z)).run Try.prog W = .ok () W := by
  rw [show (9999 : Nat) = 9998 + 1 from rfl, Instr.checkKey]
  simp only [Sem.run_bind, run_underlying hu, Result.andThen_ok, Sem.run_pure]
theorem sb_pf (p : Pf) : Instr.sameBits 10000 (pfV p) (pfV p) = true := by
  simp [pfV, Instr.sameBits]
section
variable {κ β : Type} [DecidableEq κ]
theorem find_ask (kt : TypeId) (ek : κ → Value) (ev : β → Value) (heq : ∀ a b W, (Op.equal kt (ek a) (ek b)).run Try.prog W = .ok (decide (a = b)) W) (k : κ) : ∀ (es : Ents κ β) (i : Nat) (W : World), (Instr.findAsking kt (ek k) (es.map (fun x => (⟨ek x.1, ev x.2.1, x.2.2⟩ : MapEntry))) i).run Try.prog W = .ok ((mfind k es i).map (fun p => (p.1, ev p.2))) W
  | [], i, W => rfl
  | x :: es, i, W => by
    rw [List.map_cons]
    unfold Instr.findAsking mfind
    simp only [Sem.run_bind, heq, Result.andThen_ok]
    by_cases h : k = x.1
    · rw [if_pos h, decide_eq_true h]
      rfl
    · rw [if_neg h, decide_eq_false h]
      exact find_ask kt ek ev heq k es (i + 1) W
theorem find_struct (kt : TypeId) (d : TypeDesc) (hu : Try.prog.underlying kt = some d) (ek : κ → Value) (ev : β → Value) (hn : ∀ a b, Instr.sameNow d (ek a) (ek b) = none) (heq : ∀ a b W, (Op.equal kt (ek a) (ek b)).run Try.prog W = .ok (decide (a = b)) W) (k : κ) (es : Ents κ β) (W : World) : (Instr.findKey kt (ek k) (es.map (fun x => (⟨ek x.1, ev x.2.1, x.2.2⟩ : MapEntry)))).run Try.prog W = .ok ((mfind k es 0).map (fun p => (p.1, ev p.2))) W := by
  unfold Instr.findKey
  simp only [Sem.run_bind, run_underlying hu, Result.andThen_ok]
  cases es with
  | nil => rfl
  | cons x es =>
    have : Instr.findNow d (ek k) ((x :: es).map (fun x => (⟨ek x.1, ev x.2.1, x.2.2⟩ : MapEntry))) 0 = none := by
      rw [List.map_cons]
      unfold Instr.findNow
      simp only [hn]
    rw [this]
    exact find_ask kt ek ev heq k (x :: es) 0 W
end
/-- what is known of a prefix -/
structure Pn where
  v : Nat
  s : Nat
  h : Bool
def pnV (x : Pn) : Value := .agg #[.int .i64 (x.v : Int), .int .i64 (x.s : Int), .bool x.h]
end Go.Proofs.Ythhdpfgepjmgkaa.Ge
