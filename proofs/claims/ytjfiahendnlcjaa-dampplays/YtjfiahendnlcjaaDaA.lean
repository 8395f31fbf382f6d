/- The damper's maps: keyed by prefixes. -/
import Derived.Test.YtjfiahendnlcjaaGeM
namespace Go.Proofs.Ytjfiahendnlcjaa.Ge
open Go.ChangeShapes Go.WideShapes Go.ChangeAt Go.RowKit Go.Joins Go.Deep
set_option linter.unusedVariables false
set_option linter.unusedSimpArgs false

abbrev Pf := Int × Int
def pfV (p : Pf) : Value := .agg #[.int .u32 p.1, .int .i64 p.2]
set_option maxRecDepth 100000 in
theorem eq_pf (a b : Pf) (W : World) : (Op.equal 35 (pfV a) (pfV b)).run Try.prog W = .ok (decide (a = b)) W := by
  have u3 := Try.underlying3
  have a3 := Try.isAgg3
  have z3 := Try.sizeOf3
  have u4 := Try.underlying33
  have a4 := Try.isAgg33
  have z4 := Try.sizeOf33
  unfold Op.equal pfV
  rw [show Op.maxDepth = 9999 + 1 from rfl, Op.equalIn]
  simp only [Sem.run_bind, run_underlying Try.underlying35, Result.andThen_ok, List.forIn_toArray, List.forIn_cons, List.forIn_nil]
  go_simp
  by_cases h1 : a.1 = b.1
  · by_cases h2 : a.2 = b.2
    · rw [if_pos h1, if_pos h2, decide_eq_true (Prod.ext h1 h2)]
    · rw [if_pos h1, if_neg h2, decide_eq_false (fun e => h2 (by rw [e]))]
  · rw [if_neg h1, decide_eq_false (fun e => h1 (by rw [e]))]
set_option maxRecDepth 100000 in
theorem ck_int (e : Bool) (t : TypeId) (k : IntKind) (z : Int) (hu : Try.prog.underlying t = some (.int k)) (W : World) : (Instr.checkKey e 9999 t (.int k z)).run Try.prog W = .ok () W := by
  rw [show (9999 : Nat) = 9998 + 1 from rfl, Instr.checkKey]
  simp only [Sem.run_bind, run_underlying hu, Result.andThen_ok, Sem.run_pure]
set_option maxRecDepth 100000 in
theorem ck_pf (e : Bool) (p : Pf) (W : World) : (Instr.checkKey e 10000 35 (pfV p)).run Try.prog W = .ok () W := by
  have u3 := Try.underlying3
  have a3 := Try.isAgg3
  have z3 := Try.sizeOf3
  have u4 := Try.underlying33
  have a4 := Try.isAgg33
  have z4 := Try.sizeOf33
  have k3 := fun z W => ck_int e 3 .i64 z u3 W
  have k4 := fun z W => ck_int e 33 .u32 z u4 W
  unfold pfV
  rw [show (10000 : Nat) = 9999 + 1 from rfl, Instr.checkKey]
  simp only [Sem.run_bind, run_underlying Try.underlying35, Result.andThen_ok, List.forIn_toArray, List.forIn_cons, List.forIn_nil]
  go_simp
theorem sb_pf (p : Pf) : Instr.sameBits 10000 (pfV p) (pfV p) = true := by
  simp [pfV, Instr.sameBits]
section
variable {κ β : Type} [DecidableEq κ]
theorem find_ask (kt : TypeId) (ek : κ → Value) (ev : β → Value) (heq : ∀ a b W, (Op.equal kt (ek a) (ek b)).run Try.prog W = .ok (decide (a = b)) W) (k : κ) : ∀ (es : Ents κ β) (i : Nat) (W : World), (Instr.findAsking kt (ek k) (es.map (fun x => (⟨ek x.1, ev x.2.1, x.2.2⟩ : MapEntry))) i).run Try.prog W = .ok ((mfind k es i).map (fun p => (p.1, ev p.2))) W
  | [], i, W => rfl
  | x :: es, i, W => by
    rw [List.map_cons]
    unfold Instr.findAsking mfind
    simp only [Sem.run_bind, heq, Result.andThen_ok]
    by_cases h : k = x.1
    · rw [if_pos h, decide_eq_true h]
      rfl
    · rw [if_neg h, decide_eq_false h]
      exact find_ask kt ek ev heq k es (i + 1) W
theorem find_struct (kt : TypeId) (d : TypeDesc) (hu : Try.prog.underlying kt = some d) (ek : κ → Value) (ev : β → Value) (hn : ∀ a b, Instr.sameNow d (ek a) (ek b) = none) (heq : ∀ a b W, (Op.equal kt (ek a) (ek b)).run Try.prog W = .ok (decide (a = b)) W) (k : κ) (es : Ents κ β) (W : World) : (Instr.findKey kt (ek k) (es.map (fun x => (⟨ek x.1, ev x.2.1, x.2.2⟩ : MapEntry)))).run Try.prog W = .ok ((mfind k es 0).map (fun p => (p.1, ev p.2))) W := by
  unfold Instr.findKey
  simp only [Sem.run_bind, run_underlying hu, Result.andThen_ok]
  cases es with
  | nil => rfl
  | cons x es =>
    have : Instr.findNow d (ek k) ((x :: es).map (fun x => (⟨ek x.1, ev x.2.1, x.2.2⟩ : MapEntry))) 0 = none := by
      rw [List.map_cons]
      unfold Instr.findNow
      simp only [hn]
    rw [this]
    exact find_ask kt ek ev heq k (x :: es) 0 W
end
/-- what is known of a prefix -/
structure Pn where
  v : Nat
  s : Nat
  h : Bool
def pnV (x : Pn) : Value := .agg #[.int .i64 (x.v : Int), .int .i64 (x.s : Int), .bool x.h]
set_option maxRecDepth 100000 in
def MPn : Mk Pf Pn := ⟨53, 35, 60, pfV, pnV, pnV ⟨0, 0, false⟩, Try.underlying53, fun W => by rfl, ck_pf, sb_pf, find_struct 35 _ Try.underlying35 pfV pnV (fun _ _ => rfl) eq_pf⟩
set_option maxRecDepth 100000 in
def MUn : Mk Pf Unit := ⟨54, 35, 61, pfV, fun _ => .agg #[], .agg #[], Try.underlying54, fun W => by rfl, ck_pf, sb_pf, find_struct 35 _ Try.underlying35 pfV (fun _ => .agg #[]) (fun _ _ => rfl) eq_pf⟩
end Go.Proofs.Ytjfiahendnlcjaa.Ge
