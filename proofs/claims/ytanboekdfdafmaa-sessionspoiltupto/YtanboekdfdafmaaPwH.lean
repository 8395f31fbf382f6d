/- What follows behind a message's sum: readBody, and what it catches. -/
import Derived.Test.YtanboekdfdafmaaPwG
import Derived.Recover
import Derived.Deep.RegionHeld3
namespace Go.Proofs.Ytanboekdfdafmaa.Pv
open Go.ChangeShapes Go.WideShapes Go.ChangeAt Go.RowKit Go.Joins Go.Proofs.Ytanboekdfdafmaa.PM Go.Proofs.Ytanboekdfdafmaa.Ask Go.Proofs.Ytanboekdfdafmaa.Ge
set_option linter.unusedVariables false

theorem catch_idle (p q r : Addr) (w : World) :
    CallsD Try.prog 77 #[.pointer (some p), .pointer (some q), .pointer (some r)] .returning w fun e u' w' => e = .returned (.tuple #[]) ∧ u' = .returning ∧ w' = w := by
  have hn : ∀ w : World, (binOp BinOp.neq 20 .nilIface .nilIface).run Try.prog w = .ok (.bool false) w := fun _ => by kernel_rfl
  refine callsD_of_wpS Try.func77 rfl fun c₀ cs hu => ?_
  apply wpS_seq
  apply wpS_region
  simp [wpOpsS, go_sem, recoverD, hu, Try.ntmps77, Exit.thenS]
  apply wpS_seq
  apply wpS_region
  simp [wpOpsS, go_sem, Exit.thenS]
  refine wpS_cond (t := false) (by simp [Act.eval, Array.replicate]) ?_
  simp only [Bool.false_eq_true, if_false]
  refine wpS_of_wp (wp_skip ?_)
  cases c₀
  simp_all [bodyPostS, results, Try.results77]
set_option maxRecDepth 100000 in
set_option maxHeartbeats 8000000 in
theorem catch_pan (bm bb be : Nat) (w W : World) (m : Ms) (s : Sl) (bv ev : Value) (hM : MB bm m s w) (hB : w.heap[bb]? = some (Obj.cells #[bv] 32)) (hE : w.heap[be]? = some (Obj.cells #[ev] 59)) (h1 : ¬ bm = bb) (h2 : ¬ bm = be) (h3 : ¬ bb = be)
    (hW : ((((((((((((((((((((w).setCell ⟨bm, 0, none⟩ (.int .i64 0)).setCell ⟨bm, 1, none⟩ (.int .i64 0)).setCell ⟨bm, 2, none⟩ (.int .i64 0)).setCell ⟨bm, 3, none⟩ (.int .i64 0)).setCell ⟨bm, 4, none⟩ (.int .i64 0)).setCell ⟨bm, 5, none⟩ (.slice none 0 0)).setCell ⟨bm, 6, none⟩ (.slice none 0 0)).setCell ⟨bm, 7, none⟩ (.int .u32 0)).setCell ⟨bm, 8, none⟩ (.int .i64 0)).setCell ⟨bm, 9, none⟩ (.slice none 0 0)).setCell ⟨bm, 10, none⟩ (.int .i64 0)).setCell ⟨bm, 11, none⟩ (.int .i64 0)).setCell ⟨bm, 12, none⟩ (.int .i64 0)).setCell ⟨bm, 13, none⟩ (.int .u32 0)).setCell ⟨bm, 14, none⟩ (.slice none 0 0)).setCell ⟨bm, 15, none⟩ (.slice none 0 0)).setCell ⟨bm, 16, none⟩ (.int .i64 0)).setCell ⟨bb, 0, none⟩ (.slice none 0 0)).setCell ⟨be, 0, none⟩ (.int .i64 4)) = W) :
    CallsD Try.prog 77 #[.pointer (some ⟨bm, 0, none⟩), .pointer (some ⟨bb, 0, none⟩), .pointer (some ⟨be, 0, none⟩)] (.panicking [{ v := .iface 59 (.int .i64 4), recovered := false }]) w fun e u' w' => e = .returned (.tuple #[]) ∧ u' = .panicking [{ v := .iface 59 (.int .i64 4), recovered := true }] ∧ w' = W := by
  have hn : ∀ w : World, (binOp BinOp.neq 20 (.iface 59 (.int .i64 4)) .nilIface).run Try.prog w = .ok (.bool true) w := fun _ => by kernel_rfl
  have hn2 : ∀ w : World, (binOp BinOp.neq 20 (.iface 59 (.int .i64 4)) (.iface 59 (.int .i64 4))).run Try.prog w = .ok (.bool false) w := fun _ => by kernel_rfl
  have g0 := hM.fro 0
  have c0 : w.cell? ⟨bm, 0, none⟩ = some _ := hM.cell 0
  have g1 := hM.fro 1
  have c1 : w.cell? ⟨bm, 1, none⟩ = some _ := hM.cell 1
  have g2 := hM.fro 2
  have c2 : w.cell? ⟨bm, 2, none⟩ = some _ := hM.cell 2
  have g3 := hM.fro 3
  have c3 : w.cell? ⟨bm, 3, none⟩ = some _ := hM.cell 3
  have g4 := hM.fro 4
  have c4 : w.cell? ⟨bm, 4, none⟩ = some _ := hM.cell 4
  have g5 := hM.fro 5
  have c5 : w.cell? ⟨bm, 5, none⟩ = some _ := hM.cell 5
  have g6 := hM.fro 6
  have c6 : w.cell? ⟨bm, 6, none⟩ = some _ := hM.cell 6
  have g7 := hM.fro 7
  have c7 : w.cell? ⟨bm, 7, none⟩ = some _ := hM.cell 7
  have g8 := hM.fro 8
  have c8 : w.cell? ⟨bm, 8, none⟩ = some _ := hM.cell 8
  have g9 := hM.fro 9
  have c9 : w.cell? ⟨bm, 9, none⟩ = some _ := hM.cell 9
  have g10 := hM.fro 10
  have c10 : w.cell? ⟨bm, 10, none⟩ = some _ := hM.cell 10
  have g11 := hM.fro 11
  have c11 : w.cell? ⟨bm, 11, none⟩ = some _ := hM.cell 11
  have g12 := hM.fro 12
  have c12 : w.cell? ⟨bm, 12, none⟩ = some _ := hM.cell 12
  have g13 := hM.fro 13
  have c13 : w.cell? ⟨bm, 13, none⟩ = some _ := hM.cell 13
  have g14 := hM.fro 14
  have c14 : w.cell? ⟨bm, 14, none⟩ = some _ := hM.cell 14
  have g15 := hM.fro 15
  have c15 : w.cell? ⟨bm, 15, none⟩ = some _ := hM.cell 15
  have g16 := hM.fro 16
  have c16 : w.cell? ⟨bm, 16, none⟩ = some _ := hM.cell 16
  have gb : w.frozen? ⟨bb, 0, none⟩ = false := by unfold World.frozen?; rw [hB]; rfl
  have cb : w.cell? ⟨bb, 0, none⟩ = some bv := by unfold World.cell?; rw [hB]; rfl
  have ge : w.frozen? ⟨be, 0, none⟩ = false := by unfold World.frozen?; rw [hE]; rfl
  have ce : w.cell? ⟨be, 0, none⟩ = some ev := by unfold World.cell?; rw [hE]; rfl
  clear hM hB hE
  refine callsD_of_wpS Try.func77 rfl fun c₀ cs hu => ?_
  apply wpS_seq
  apply wpS_region
  simp [wpOpsS, go_sem, recoverD, hu, Try.ntmps77, Exit.thenS]
  apply wpS_seq
  apply wpS_region
  simp [wpOpsS, go_sem, Exit.thenS, hn]
  refine wpS_cond (t := true) (by simp [Act.eval, Array.replicate]) ?_
  simp only [if_true]
  apply wpS_seq
  apply wpS_seq
  apply wpS_region
  simp [wpOpsS, go_sem, Exit.thenS, hn2]
  refine wpS_cond (t := false) (by simp [Act.eval, Array.replicate]) ?_
  simp only [Bool.false_eq_true, if_false]
  refine wpS_of_wp (wp_skip ?_)
  simp only [Exit.thenS]
  apply wpS_region
  simp [wpOpsS, go_sem, bodyPostS, results, Try.results77, g0, c0, g1, c1, g2, c2, g3, c3, g4, c4, g5, c5, g6, c6, g7, c7, g8, c8, g9, c9, g10, c10, g11, c11, g12, c12, g13, c13, g14, c14, g15, c15, g16, c16, gb, cb, ge, ce, hW]
end Go.Proofs.Ytanboekdfdafmaa.Pv
