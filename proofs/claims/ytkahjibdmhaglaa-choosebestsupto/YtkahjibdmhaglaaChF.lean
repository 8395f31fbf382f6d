/- What can be reached; the step that looks at Med. -/
import Derived.Test.YtkahjibdmhaglaaChE
namespace Go.Proofs.Ytkahjibdmhaglaa.Ch
open Go.ChangeShapes Go.WideShapes Go.ChangeAt Go.RowKit Go.Joins Go.Deep Go.Proofs.Ytkahjibdmhaglaa.Ge
set_option linter.unusedVariables false
set_option linter.unusedSimpArgs false

theorem drew_bel (w : World) : Below w.heap.size w w.drew := ⟨rfl, rfl, rfl, Nat.le_refl _, fun _ _ => rfl⟩
/-- the places that can be reached -/
def rchP (X : Nat → Of) (n : Nat) : List Nat := (List.range n).filter (fun i => decide (0 ≤ (X i).cost))
theorem rch_next (X : Nat → Of) (i : Nat) : rchP X (i + 1) = rchP X i ++ (if 0 ≤ (X i).cost then [i] else []) := by
  unfold rchP
  rw [List.range_succ, List.filter_append]
  congr 1
  by_cases h : 0 ≤ (X i).cost <;> simp [List.filter, h]
theorem rch_len (X : Nat → Of) (i : Nat) : (rchP X i).length ≤ i := by
  have := List.length_filter_le (fun i => decide (0 ≤ (X i).cost)) (List.range i)
  rw [List.length_range] at this
  exact this
theorem rch_in (X : Nat → Of) (n : Nat) : InN (rchP X n) n := fun i hi => List.mem_range.1 (List.mem_filter.1 hi).1
def RcPost (w : World) (ys : List Nat) (e : Ending) (w' : World) : Prop := ∃ v', e = .returned v' ∧ OwnL EN w.heap.size w' v' ys ∧ Below w.heap.size w w'
theorem nbuild_run {o : Oper} (x : Operand) (ho : o.op = .buildSlice 24 1 #[(0, x)]) {ρ : Operand → Value} {m : Nat} {W : World} (hx : ρ x = .int .i64 (m : Int)) : (execOp ρ o).run Try.prog W = .ok (.value (.slice (some ⟨W.heap.size, 0, none⟩) 1 1)) (W.alloc (Obj.cells (EN.enc m).toArray 3)) := by
  unfold execOp
  rw [ho]
  simp [go_sem, hx, EN]
theorem list_nbuild {ops : Array Oper} {rest : List Oper} {o : Oper} {ac : Act} {Q : Exit → Act → World → Prop} {W : World} (hgd : o.guard = none) (x : Operand) (ho : o.op = .buildSlice 24 1 #[(0, x)]) (m : Nat) (hx : ac.eval x = .int .i64 (m : Int))
    (k : wpList Try.prog ops Q rest (ac.put o.dst (.slice (some ⟨W.heap.size, 0, none⟩) 1 1)) (W.alloc (Obj.cells (EN.enc m).toArray 3))) : wpList Try.prog ops Q (o :: rest) ac W := by
  refine wpList_plain hgd fun K hK => ?_
  unfold Oper.wp
  rw [nbuild_run x ho hx]
  exact hK _ _ k
set_option maxRecDepth 100000 in
set_option maxHeartbeats 8000000 in
theorem reached_any (la : Option Addr) (n lc : Nat) (xs : List (Of × Oa)) (hxn : xs.length = n) (hn : n ≤ 100000000) (w : World) (hx : Ofs w.heap.size w la xs) : Calls Try.prog 22 #[.slice la n lc] w (RcPost w (rchP (atO xs) n)) := by
  have HX : Hid (Ofs w.heap.size w la xs) := hx
  have HXN : Hid (xs.length = n) := hxn
  clear hx hxn
  go_enter Try.func22, Try.ntmps22
  go_wp2_with fail
  go_loopw [7, 3, 4] (fun iv lv _ wr => ∃ i : Nat, i ≤ n ∧ iv = .int .i64 (i : Int) ∧ OwnL EN w.heap.size wr lv (rchP (atO xs) i) ∧ Below w.heap.size w wr) (fun i _ _ _ => n - (intOf i).toNat)
  case atStart => exact ⟨0, by omega, rfl, OwnL.nil _ _ _, Below.refl _ _⟩
  case round =>
    obtain ⟨i, hi, rfl, ho, hb⟩ := hrel
    obtain ⟨qs, hqs⟩ : ∃ y, rchP (atO xs) i = y := ⟨_, rfl⟩
    have HQL : Hid (qs.length ≤ 100000000) := by rw [← hqs]; exact Nat.le_trans (rch_len _ _) (by omega)
    rw [hqs] at ho
    have HQS : Hid (rchP (atO xs) i = qs) := hqs
    obtain ⟨va, vc, rfl, -⟩ := ho.form
    have HO : Hid (OwnL EN w.heap.size wr (.slice va qs.length vc) qs) := ho
    have HB : Hid (Below w.heap.size w wr) := hb
    obtain ⟨ql, hql⟩ : ∃ y, qs.length = y := ⟨_, rfl⟩
    rw [hql] at HO
    rw [hql]
    obtain ⟨wz, hwz⟩ : ∃ y, wr = y := ⟨_, rfl⟩
    rw [hwz] at HO HB ⊢
    clear hqs ho hb hql hwz
    by_cases hlt : i < n
    case neg =>
      have hii : ¬ (i : Int) < (n : Int) := by omega
      have HE : Hid (RcPost w (rchP (atO xs) n) (.returned (.slice va ql vc)) wz) := by
        obtain rfl : i = n := by omega
        rw [HQS.out]
        exact ⟨_, rfl, HO.out, HB.out⟩
      go_wp2_with fail
      go_ret
      exact HE.out
    have hil : i < xs.length := by rw [HXN.out]; exact hlt
    have hii : (i : Int) < (n : Int) := by omega
    have ii0 : (0 : Int) ≤ (i : Int) := by omega
    obtain ⟨b, o, rfl, h1⟩ := (HX.out.bel HB.out).at i hil
    have c12 : wz.cell? ⟨b, o + i * 13 + 12, none⟩ = some (.int .i64 xs[i].1.cost) := h1 12 (by decide)
    obtain ⟨ct, hct⟩ : ∃ y, xs[i].1.cost = y := ⟨_, rfl⟩
    rw [hct] at c12
    have HNX : Hid (rchP (atO xs) (i + 1) = qs ++ (if 0 ≤ ct then [i] else [])) := by show _ = _; rw [rch_next, HQS.out, atO_is hil, hct]
    clear hct h1
    by_cases hc0 : 0 ≤ ct
    case neg =>
      rw [if_neg hc0, List.append_nil] at HNX
      go_wp2_with fail
      refine ⟨⟨i + 1, by omega, by simp, by rw [HNX.out]; exact HO.out, HB.out⟩, ?_⟩
      simp [intOf]
      omega
    case pos =>
      rw [if_pos hc0] at HNX
      have HA2 : Hid (Below wz.heap.size wz (wz.alloc (Obj.cells (EN.enc i).toArray 3))) := (Below.refl _ wz).alloc (Nat.le_refl _) _
      have HSZ : Hid (w.heap.size ≤ (wz.alloc (Obj.cells (EN.enc i).toArray 3)).heap.size) := Nat.le_trans HB.out.size HA2.out.size
      go_wp2_with (first | (refine list_nbuild rfl _ rfl i rfl ?_) | (refine list_app1 EN rfl _ _ 24 rfl rfl w.heap.size (.slice va ql vc) qs i (by have := HQL.out; omega) (w := wz) (wz.alloc (Obj.cells (EN.enc i).toArray 3)) rfl (HO.out.bel HA2.out) rfl HSZ.out rfl ?_))
      intro v7 w7 ho7 hg7 ha7
      have HB7 : Hid (Below w.heap.size w w7) := (HB.out.trans (HA2.out.mono HB.out.size)).grown hg7.out HSZ.out (fun k e => (HO.out.row.lt k e).1)
      have HO7 : Hid (OwnL EN w.heap.size w7 v7 (qs ++ [i])) := ho7.out
      clear ho7 hg7 ha7 HA2 HSZ HO HB c12
      go_wp2_with fail
      refine ⟨⟨i + 1, by omega, by simp, by rw [HNX.out]; exact HO7.out, HB7.out⟩, ?_⟩
      simp [intOf]
      omega
theorem ck_i (e : Bool) (z : Int) (W : World) : (Instr.checkKey e 10000 3 (.int .i64 z)).run Try.prog W = .ok () W := by
  rw [show (10000 : Nat) = 9999 + 1 from rfl, Instr.checkKey]
  simp only [Sem.run_bind, run_underlying Try.underlying3, Result.andThen_ok, Sem.run_pure]
theorem find_i {β : Type} (ev : β → Value) (k : Int) : ∀ (es : Ents Int β) (i : Nat), Instr.findNow (.int .i64) (.int .i64 k) (es.map (fun x => (⟨.int .i64 x.1, ev x.2.1, x.2.2⟩ : MapEntry))) i = some ((mfind k es i).map (fun p => (p.1, ev p.2)))
  | [], i => rfl
  | x :: es, i => by
    rw [List.map_cons]
    unfold Instr.findNow mfind
    simp only [Instr.sameNow, if_true]
    by_cases h : k = x.1
    · rw [if_pos h]
      have : (k == x.1) = true := by simpa using h
      rw [this]
      rfl
    · rw [if_neg h]
      have : (k == x.1) = false := beq_false_of_ne h
      rw [this]
      exact find_i ev k es (i + 1)
def MII : Mk Int Int := ⟨78, 3, 3, fun k => .int .i64 k, fun v => .int .i64 v, .int .i64 0, Try.underlying78, fun W => by rfl, ck_i, fun k => by simp [Instr.sameBits], fun k es W => by
  unfold Instr.findKey
  simp only [Sem.run_bind, run_underlying Try.underlying3, Result.andThen_ok, find_i]
  rfl⟩
end Go.Proofs.Ytkahjibdmhaglaa.Ch
