/- Shortest paths: edges, turns, ways; the maps that hold them. -/
import Derived.Test.YthhdpfgepjmgkaaGeX
import Derived.Test.YthhdpfgepjmgkaaDaA
namespace Go.Proofs.Ythhdpfgepjmgkaa.Dj
open Go.ChangeShapes Go.WideShapes Go.ChangeAt Go.RowKit Go.Joins Go.Deep Go.Proofs.Ythhdpfgepjmgkaa.Ge
set_option linter.unusedVariables false
set_option linter.unusedSimpArgs false

/-- an edge -/
structure Ed where
  f : Int
  t : Int
  c : Int
  l : Int
def edL (e : Ed) : List Value := [.int .i64 e.f, .int .i64 e.t, .int .i64 e.c, .int .i64 e.l]
def EdK : Sk := ⟨26, 4, _, Try.underlying26, rfl, by kernel_rfl⟩
def EE : El Ed := ⟨26, 22, 4, 32, .agg #[.int .i64 0, .int .i64 0, .int .i64 0, .int .i64 0], edL, by decide, by decide, fun _ => rfl, fun x u hu => by simp [edL] at hu; rcases hu with rfl | rfl | rfl | rfl <;> rfl, Try.underlying22, by kernel_rfl, rfl⟩
def EI : El Int := ⟨3, 30, 1, 8, .int .i64 0, fun x => [.int .i64 x], by decide, by decide, fun _ => rfl, fun x u hu => by simp at hu; subst hu; rfl, Try.underlying30, by kernel_rfl, rfl⟩
/-- a turn -/
structure Tn where
  d : Int
  n : Int
def tnL (x : Tn) : List Value := [.int .i64 x.d, .int .i64 x.n]
def ET : El Tn := ⟨77, 92, 2, 16, .agg #[.int .i64 0, .int .i64 0], tnL, by decide, by decide, fun _ => rfl, fun x u hu => by simp [tnL] at hu; rcases hu with rfl | rfl <;> rfl, Try.underlying92, by kernel_rfl, rfl⟩
def TnK : Sk := ⟨77, 2, _, Try.underlying77, rfl, by kernel_rfl⟩
/-- how a router is reached -/
structure Rc where
  n : Int
  d : Int
  ls : List Int
  a : Option Addr
  c : Nat
def rcL (r : Rc) : List Value := [.int .i64 r.n, .int .i64 r.d, .slice r.a r.ls.length r.c]
def ER : El Rc := ⟨32, 23, 3, 40, .agg #[.int .i64 0, .int .i64 0, .slice none 0 0], rcL, by decide, by decide, fun _ => rfl, fun x u hu => by simp [rcL] at hu; rcases hu with rfl | rfl | rfl <;> rfl, Try.underlying23, by kernel_rfl, rfl⟩
def RcK : Sk := ⟨32, 3, _, Try.underlying32, rfl, by kernel_rfl⟩
def NwK : Sk := ⟨54, 4, _, Try.underlying54, rfl, by kernel_rfl⟩
def TrK : Sk := ⟨58, 6, _, Try.underlying58, rfl, by kernel_rfl⟩
def QuK : Sk := ⟨94, 2, _, Try.underlying94, rfl, by kernel_rfl⟩
def StK : Sk := ⟨73, 2, _, Try.underlying73, rfl, by kernel_rfl⟩
def PtK : Sk := ⟨67, 2, _, Try.underlying67, rfl, by kernel_rfl⟩
abbrev Pt := Int × Int
def ptV (p : Pt) : Value := .agg #[.int .i64 p.1, .int .i64 p.2]
set_option maxRecDepth 100000 in
theorem eq_pt (a b : Pt) (W : World) : (Op.equal 67 (ptV a) (ptV b)).run Try.prog W = .ok (decide (a = b)) W := by
  have u3 := Try.underlying3
  have a3 := Try.isAgg3
  have z3 := Try.sizeOf3
  unfold Op.equal ptV
  rw [show Op.maxDepth = 9999 + 1 from rfl, Op.equalIn]
  simp only [Sem.run_bind, run_underlying Try.underlying67, Result.andThen_ok, List.forIn_toArray, List.forIn_cons, List.forIn_nil]
  go_simp
  by_cases h1 : a.1 = b.1
  · by_cases h2 : a.2 = b.2
    · rw [if_pos h1, if_pos h2, decide_eq_true (Prod.ext h1 h2)]
    · rw [if_pos h1, if_neg h2, decide_eq_false (fun e => h2 (by rw [e]))]
  · rw [if_neg h1, decide_eq_false (fun e => h1 (by rw [e]))]
set_option maxRecDepth 100000 in
theorem eq_pr (a b : Pt) (W : World) : (Op.equal 89 (ptV a) (ptV b)).run Try.prog W = .ok (decide (a = b)) W := by
  have u3 := Try.underlying3
  have a3 := Try.isAgg3
  have z3 := Try.sizeOf3
  unfold Op.equal ptV
  rw [show Op.maxDepth = 9999 + 1 from rfl, Op.equalIn]
  simp only [Sem.run_bind, run_underlying Try.underlying89, Result.andThen_ok]
  simp only [Std.Legacy.Range.forIn_eq_forIn_range', Std.Legacy.Range.size, Nat.sub_zero, Nat.add_sub_cancel, Nat.div_one, List.range'_succ, List.range'_zero, List.forIn_cons, List.forIn_nil]
  go_simp
  by_cases h1 : a.1 = b.1
  · by_cases h2 : a.2 = b.2
    · rw [if_pos h1, if_pos h2, decide_eq_true (Prod.ext h1 h2)]
    · rw [if_pos h1, if_neg h2, decide_eq_false (fun e => h2 (by rw [e]))]
  · rw [if_neg h1, decide_eq_false (fun e => h1 (by rw [e]))]
set_option maxRecDepth 100000 in
theorem ck_pt (e : Bool) (p : Pt) (W : World) : (Instr.checkKey e 10000 67 (ptV p)).run Try.prog W = .ok () W := by
  have u3 := Try.underlying3
  have a3 := Try.isAgg3
  have z3 := Try.sizeOf3
  have k3 := fun z W => ck_int e 3 .i64 z u3 W
  unfold ptV
  rw [show (10000 : Nat) = 9999 + 1 from rfl, Instr.checkKey]
  simp only [Sem.run_bind, run_underlying Try.underlying67, Result.andThen_ok, List.forIn_toArray, List.forIn_cons, List.forIn_nil]
  go_simp
set_option maxRecDepth 100000 in
theorem ck_pr (e : Bool) (p : Pt) (W : World) : (Instr.checkKey e 10000 89 (ptV p)).run Try.prog W = .ok () W := by
  have u3 := Try.underlying3
  have a3 := Try.isAgg3
  have z3 := Try.sizeOf3
  have k3 := fun z W => ck_int e 3 .i64 z u3 W
  unfold ptV
  rw [show (10000 : Nat) = 9999 + 1 from rfl, Instr.checkKey]
  simp only [Sem.run_bind, run_underlying Try.underlying89, Result.andThen_ok]
  simp only [Std.Legacy.Range.forIn_eq_forIn_range', Std.Legacy.Range.size, Nat.sub_zero, Nat.add_sub_cancel, Nat.div_one, List.range'_succ, List.range'_zero, List.forIn_cons, List.forIn_nil]
  go_simp
theorem sb_pt (p : Pt) : Instr.sameBits 10000 (ptV p) (ptV p) = true := by
  simp [ptV, Instr.sameBits]
def edV (e : Ed) : Value := .agg (edL e).toArray
/-- a slice's header -/
structure Sl where
  a : Option Addr
  n : Nat
  c : Nat
def slV (s : Sl) : Value := .slice s.a s.n s.c
def rcV (r : Rc) : Value := .agg (rcL r).toArray
theorem ck_i (e : Bool) (z : Int) (W : World) : (Instr.checkKey e 10000 3 (.int .i64 z)).run Try.prog W = .ok () W := by
  rw [show (10000 : Nat) = 9999 + 1 from rfl, Instr.checkKey]
  simp only [Sem.run_bind, run_underlying Try.underlying3, Result.andThen_ok, Sem.run_pure]
theorem find_i {β : Type} (ev : β → Value) (k : Int) : ∀ (es : Ents Int β) (i : Nat), Instr.findNow (.int .i64) (.int .i64 k) (es.map (fun x => (⟨.int .i64 x.1, ev x.2.1, x.2.2⟩ : MapEntry))) i = some ((mfind k es i).map (fun p => (p.1, ev p.2)))
  | [], i => rfl
  | x :: es, i => by
    rw [List.map_cons]
    unfold Instr.findNow mfind
    simp only [Instr.sameNow, if_true]
    by_cases h : k = x.1
    · rw [if_pos h]
      have : (k == x.1) = true := by simpa using h
      rw [this]
      rfl
    · rw [if_neg h]
      have : (k == x.1) = false := beq_false_of_ne h
      rw [this]
      exact find_i ev k es (i + 1)
theorem findk_i {β : Type} (ev : β → Value) (k : Int) (es : Ents Int β) (W : World) : (Instr.findKey 3 (.int .i64 k) (es.map (fun x => (⟨.int .i64 x.1, ev x.2.1, x.2.2⟩ : MapEntry)))).run Try.prog W = .ok ((mfind k es 0).map (fun p => (p.1, ev p.2))) W := by
  unfold Instr.findKey
  simp only [Sem.run_bind, run_underlying Try.underlying3, Result.andThen_ok, find_i]
  rfl
set_option maxRecDepth 100000 in
def MII : Mk Int Int := ⟨90, 3, 3, fun k => .int .i64 k, fun v => .int .i64 v, .int .i64 0, Try.underlying90, fun W => by rfl, ck_i, fun k => by simp [Instr.sameBits], findk_i _⟩
set_option maxRecDepth 100000 in
def MIS : Mk Int Sl := ⟨52, 3, 22, fun k => .int .i64 k, slV, .slice none 0 0, Try.underlying52, fun W => by rfl, ck_i, fun k => by simp [Instr.sameBits], findk_i _⟩
set_option maxRecDepth 100000 in
def MIR : Mk Int Rc := ⟨56, 3, 32, fun k => .int .i64 k, rcV, .agg #[.int .i64 0, .int .i64 0, .slice none 0 0], Try.underlying56, fun W => by rfl, ck_i, fun k => by simp [Instr.sameBits], findk_i _⟩
set_option maxRecDepth 100000 in
def MPE : Mk Pt Ed := ⟨50, 67, 26, ptV, edV, .agg #[.int .i64 0, .int .i64 0, .int .i64 0, .int .i64 0], Try.underlying50, fun W => by rfl, ck_pt, sb_pt, find_struct 67 _ Try.underlying67 ptV edV (fun _ _ => rfl) eq_pt⟩
set_option maxRecDepth 100000 in
def MPI : Mk Pt Int := ⟨51, 89, 3, ptV, fun v => .int .i64 v, .int .i64 0, Try.underlying51, fun W => by rfl, ck_pr, sb_pt, find_struct 89 _ Try.underlying89 ptV (fun v => .int .i64 v) (fun _ _ => rfl) eq_pr⟩
end Go.Proofs.Ythhdpfgepjmgkaa.Dj
