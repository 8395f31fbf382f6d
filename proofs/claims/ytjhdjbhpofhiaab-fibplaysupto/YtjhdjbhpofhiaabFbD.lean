/- The table's own memory: put: what it leaves. -/
import Derived.Test.YtjhdjbhpofhiaabFbC
import Derived.Test.YtjhdjbhpofhiaabFbZ
import Derived.OwnWalk
import Derived.Lib.SmallJoins
import Derived.RangeFuncBox
import Derived.Deep.QuietTactic
import Derived.BigQuiet
import Derived.StillTailTactics
namespace Go.Proofs.Ytjhdjbhpofhiaab.Fb
open Go.ChangeShapes Go.WideShapes Go.ChangeAt Go.RowKit Go.Joins Go.Proofs.Ytjhdjbhpofhiaab.PM Go.Proofs.Ytjhdjbhpofhiaab.Ask
set_option linter.unusedVariables false

theorem infoU : (Try.prog.info? 31).map (fun i => (i.zero, i.size, i.bytes)) = some (some (.int .u32 0), 1, 4) := by kernel_rfl

theorem wpList_zeros_own {ops : Array Oper} {rest : List Oper} {o : Oper} {a : Act} {Q : Exit → Act → World → Prop} {w : World} (hgd : o.guard = none) (s x : Operand) (t u e : TypeId) (ho : o.op = .call { callee := .builtin .append, args := #[s, x], argTypes := #[t, u] })
    (ht : Try.prog.underlying t = some (.slice e)) (hu : Try.prog.underlying u = some (.int .i64)) (hE : (Try.prog.info? e).map (fun i => (i.zero, i.size, i.bytes)) = some (some (.int .u32 0), 1, 4))
    (base : Nat) (v : Value) (n : Nat) (xs : List Value) (hs : a.eval s = v) (hown : w.ownsRow base e 1 v n xs) (m : Nat) (hx : a.eval x = .int .i64 (m : Int)) (hm : 0 < m) (hbytes : (n + m) * 4 ≤ 140737488355328) (hbase : base ≤ w.heap.size)
    (h : ∀ g cap w', w'.ownsRow base e 1 (.slice (some ⟨g, 0, none⟩) (n + m) cap) (n + m) (xs ++ zc m) → w.grownBy w' v.ownBlock → (v.ownBlock = some g ∨ g = w.heap.size) → wpList Try.prog ops Q rest (a.put o.dst (.slice (some ⟨g, 0, none⟩) (n + m) cap)) w') :
    wpList Try.prog ops Q (o :: rest) a w := by
  obtain ⟨i, hi, hz0, hz1, hz2⟩ := info_parts hE
  refine wpList_plain hgd fun K hK => ?_
  obtain ⟨g, cap, w', hr, h2, h3, h4⟩ := run_zeros_own (P := Try.prog) w base t u o.type e i ht hu hi hz0 hz1 hz2 v n xs hown m hm hbytes hbase
  unfold Oper.wp execOp
  simp only [ho, resolve, invoke, builtin, Sem.run_bind, Sem.run_pure, Result.andThen_ok, List.map_toArray, List.map_cons, List.map_nil, hs, hx, hr]
  exact hK _ _ (h g cap w' h2 h3 h4)

/-- the words of a memory as cells -/
def wcs (ms : List Int) : List Value := ms.map (fun x => Value.int .u32 x)
/-- a memory behind a write -/
def putP (ms : List Int) (i : Nat) (x : Int) : List Int := (ms ++ List.replicate (i + 1 - ms.length) 0).set i x
theorem putP_in {ms : List Int} {i : Nat} {x : Int} (h : i < ms.length) : putP ms i x = ms.set i x := by
  unfold putP; rw [show i + 1 - ms.length = 0 by omega]; simp
theorem wd_put (ms : List Int) (i : Nat) (x : Int) (j : Int) (hj : 0 ≤ j) : wd (putP ms i x) j = if j = i then x else wd ms j := by
  unfold wd putP
  simp only [List.getD_eq_getElem?_getD]
  rw [List.getElem?_set]
  by_cases e : j = i
  · have e' : i = j.toNat := by omega
    rw [if_pos e', if_pos e, if_pos (by simp; omega)]; rfl
  · have e' : ¬ i = j.toNat := by omega
    rw [if_neg e', if_neg e]
    by_cases h : j.toNat < ms.length
    · rw [List.getElem?_append_left h]
    · rw [List.getElem?_append_right (by omega), List.getElem?_eq_none (l := ms) (by omega)]
      by_cases h2 : j.toNat - ms.length < i + 1 - ms.length
      · rw [List.getElem?_replicate, if_pos h2]; rfl
      · rw [List.getElem?_replicate, if_neg h2]

/-- a table's memory lies in the cell that the table has for it -/
structure Mem (base : Nat) (w : World) (bt : Nat) (ms : List Int) (own : Option Nat) : Prop where
  row : ∃ v, w.cell? ⟨bt, 0, none⟩ = some v ∧ w.ownsRow base 31 1 v ms.length (wcs ms) ∧ v.ownBlock = own
  fz : w.frozen? ⟨bt, 0, none⟩ = false
  lt : bt < base
  le : base ≤ w.heap.size
  u32 : ∀ d ∈ ms, In32 d

theorem put_done {base bt g cap n k : Nat} {own : Option Nat} {w wB : World} {ms : List Int} {x : Int} (hn : ms.length = n) (x0 : 0 ≤ x) (x1 : x < 4294967296) (hlt : bt < base) (hle : base ≤ wB.heap.size) (hu : ∀ d ∈ ms, In32 d) (hg : base ≤ g) (hc : wB.cell? ⟨bt, 0, none⟩ = some (.slice (some ⟨g, 0, none⟩) n cap)) (hf : wB.frozen? ⟨bt, 0, none⟩ = false)
    (hrow : wB.ownsRow base 31 1 (.slice (some ⟨g, 0, none⟩) n cap) n (wcs ms)) (hkeep : ∀ b, b < w.heap.size → b ≠ bt → some b ≠ own → wB.heap[b]? = w.heap[b]?) (hsz : Below 0 w wB) (hoth : ∀ o, 0 < o → wB.cell? ⟨bt, o, none⟩ = w.cell? ⟨bt, o, none⟩ ∧ wB.frozen? ⟨bt, o, none⟩ = w.frozen? ⟨bt, o, none⟩) (hgo : own = some g ∨ w.heap.size ≤ g) :
    Mem base (wB.setCell ⟨g, k, none⟩ (.int .u32 x)).drew bt (ms.set k x) (some g) ∧ (∀ b, b < w.heap.size → b ≠ bt → some b ≠ own → (wB.setCell ⟨g, k, none⟩ (.int .u32 x)).drew.heap[b]? = w.heap[b]?) ∧ Below 0 w (wB.setCell ⟨g, k, none⟩ (.int .u32 x)).drew ∧ (∀ o, 0 < o → (wB.setCell ⟨g, k, none⟩ (.int .u32 x)).drew.cell? ⟨bt, o, none⟩ = w.cell? ⟨bt, o, none⟩ ∧ (wB.setCell ⟨g, k, none⟩ (.int .u32 x)).drew.frozen? ⟨bt, o, none⟩ = w.frozen? ⟨bt, o, none⟩) := by
  obtain ⟨h1, h2⟩ := hrow.stored k (.int .u32 x)
  have hsz' := hsz.size
  have hne : ∀ b, b < base → some b ≠ some g := fun b hb e => by cases e; omega
  have hbl : ∀ b, b < base → (wB.setCell ⟨g, k, none⟩ (.int .u32 x)).heap[b]? = wB.heap[b]? := fun b hb => h2.block b (by omega) (hne b hb)
  refine ⟨⟨⟨.slice (some ⟨g, 0, none⟩) n cap, (World.cell?_of_block (w := wB) (hbl bt hlt)).trans hc, ?_⟩, (World.frozen?_of_block (w := wB) (hbl bt hlt)).trans hf, hlt, Nat.le_trans hle h2.size, ?_⟩, fun b hb hn ho => (h2.block b (by omega) (fun e => by
    cases e
    rcases hgo with h | h
    · exact ho h.symm
    · omega)).trans (hkeep b hb hn ho), (hsz.grown h2 (Nat.zero_le _) (fun _ _ => Nat.zero_le _)).drew, fun o ho => ⟨(World.cell?_of_block (w := wB) (hbl bt hlt)).trans (hoth o ho).1, (World.frozen?_of_block (w := wB) (hbl bt hlt)).trans (hoth o ho).2⟩⟩
  · refine ⟨?_, rfl⟩
    have e : wcs (ms.set k x) = (wcs ms).set k (.int .u32 x) := by simp [wcs, List.map_set]
    rw [e, List.length_set, hn]; exact h1
  · intro d hd
    rcases List.mem_or_eq_of_mem_set hd with h | h
    · exact hu d h
    · subst h; exact ⟨x0, x1⟩

set_option maxRecDepth 100000 in
set_option maxHeartbeats 1000000 in
theorem put_any (base bt : Nat) (own : Option Nat) (ms : List Int) (k : Nat) (x : Int) (x0 : 0 ≤ x) (x1 : x < 4294967296) (hk : (k + 1) * 4 ≤ 140737488355328) (hms : ms.length * 4 ≤ 140737488355328) (w : World) (h : Mem base w bt ms own) :
    Calls Try.prog 77 #[.pointer (some ⟨bt, 0, none⟩), .agg #[.int .i64 (k : Int), .int .u32 x]] w fun e w' => (∃ v, e = .returned v) ∧ ∃ g, (own = some g ∨ w.heap.size ≤ g) ∧ Mem base w' bt (putP ms k x) (some g) ∧ (∀ b, b < w.heap.size → b ≠ bt → some b ≠ own → w'.heap[b]? = w.heap[b]?) ∧ Below 0 w w' ∧ (∀ o, 0 < o → w'.cell? ⟨bt, o, none⟩ = w.cell? ⟨bt, o, none⟩ ∧ w'.frozen? ⟨bt, o, none⟩ = w.frozen? ⟨bt, o, none⟩) := by
  have H : Hid (Mem base w bt ms own) := h
  obtain ⟨v, c0, hrow, hown⟩ := h.row
  have hlt := h.lt
  have hle := h.le
  have hfz := h.fz
  obtain ⟨L, hL⟩ : ∃ L, ms.length = L := ⟨_, rfl⟩
  rw [hL] at hrow hms
  have HL : Hid (ms.length = L) := hL
  have HROW : Hid (w.ownsRow base 31 1 v L (wcs ms)) := hrow
  clear h hL
  have kk0 : (0 : Int) ≤ k := by omega
  by_cases hin : k < L
  · obtain ⟨g, cap, rfl⟩ := ownsRow_form hrow (by omega)
    have HOWN : Hid (some g = own) := hown
    clear hown
    have hcell := hrow.cellAt k (by omega)
    have hfr := hrow.frozenAt k
    have hkk : (k : Int) < L := by omega
    have hm : ¬ (0 < (k : Int) + 1 - L) := by omega
    clear hrow
    go_enter Try.func77, Try.ntmps77
    go_wp2_with fail
    have hltw : bt < w.heap.size := by omega
    have hgw : g < w.heap.size := (HROW.out.lt g rfl).2
    have hcv : w.cell? ⟨g, k, none⟩ = some (.int .u32 (ms[k]'(by rw [HL.out]; exact hin))) := by rw [hcell]; simp [wcs]
    clear hcell
    go_quiet (fail)
    obtain ⟨wB, hwB⟩ : ∃ wB, (w.alloc (Obj.cells #[.int .i64 (k : Int), .int .u32 x] 64)).drewN nq = wB := ⟨_, rfl⟩
    have hb : Below w.heap.size w wB := by rw [← hwB]; exact ((Below.refl _ w).alloc (Nat.le_refl _) _).trans ⟨rfl, rfl, rfl, Nat.le_refl _, fun _ _ => rfl⟩
    have b0 : wB.cell? ⟨w.heap.size, 0, none⟩ = some (.int .i64 (k : Int)) := by rw [← hwB]; simp
    have b1 : wB.cell? ⟨w.heap.size, 1, none⟩ = some (.int .u32 x) := by rw [← hwB]; simp
    have c0B := cell_bel c0 hb
    have hcB := cell_bel hcv hb
    have hfB : wB.frozen? ⟨g, k, none⟩ = false := (frozen_kept hcv (grown_bel hb none) (fun r e => by cases e)).trans hfr
    have HROWB : Hid (wB.ownsRow base 31 1 (.slice (some ⟨g, 0, none⟩) L cap) L (wcs ms)) := HROW.out.kept (grown_bel hb none) (.inr (by simp [Value.ownBlock]))
    have HFZ : Hid (wB.frozen? ⟨bt, 0, none⟩ = false) := (frozen_kept c0 (grown_bel hb none) (fun r e => by cases e)).trans hfz
    rw [hwB]
    clear hwB c0 hcv hfr hfz HROW
    go_wp2_with fail
    go_still_tail 8, (by kernel_rfl)
    go_wp2_with fail
    go_end0
    refine ⟨⟨_, rfl⟩, g, .inl HOWN.out.symm, ?_⟩
    rw [putP_in (by rw [HL.out]; exact hin)]
    exact put_done HL.out x0 x1 hlt (Nat.le_trans hle hb.size) H.out.u32 (HROWB.out.lt g rfl).1 c0B HFZ.out HROWB.out (fun b hb2 hn _ => hb.block b hb2) (hb.mono (Nat.zero_le _)) (fun o _ => ⟨World.cell?_of_block (w := w) (hb.block bt hltw), World.frozen?_of_block (w := w) (hb.block bt hltw)⟩) (.inl HOWN.out.symm)
  · obtain ⟨m, hm⟩ : ∃ m, k + 1 - L = m := ⟨_, rfl⟩
    have hm0 : 0 < m := by omega
    have hmi : (k : Int) + 1 - L = m := by omega
    have hltw : bt < w.heap.size := by omega
    have HM : Hid ((k : Int) + 1 - L = m) := hmi
    have hshape : (v = .slice none 0 0 ∧ L = 0) ∨ ∃ g cap, v = .slice (some ⟨g, 0, none⟩) L cap := ownsRow_forms hrow
    have hkl : ¬ (k : Int) < L := by omega
    have hpos : 0 < (k : Int) + 1 - L := by omega
    obtain ⟨va, vc, rfl⟩ : ∃ va vc, v = .slice va L vc := by
      rcases hshape with ⟨rfl, rfl⟩ | ⟨g, cap, rfl⟩
      · exact ⟨none, 0, rfl⟩
      · exact ⟨_, _, rfl⟩
    have HOWN : Hid (Value.ownBlock (.slice va L vc) = own) := hown
    clear hrow hshape hown
    go_enter Try.func77, Try.ntmps77
    go_wp2_with fail
    go_quiet (fail)
    obtain ⟨wB, hwB⟩ : ∃ wB, (w.alloc (Obj.cells #[.int .i64 (k : Int), .int .u32 x] 64)).drewN nq = wB := ⟨_, rfl⟩
    have hb : Below w.heap.size w wB := by rw [← hwB]; exact ((Below.refl _ w).alloc (Nat.le_refl _) _).trans ⟨rfl, rfl, rfl, Nat.le_refl _, fun _ _ => rfl⟩
    have hszB : wB.heap.size = w.heap.size + 1 := by rw [← hwB]; simp
    have b0 : wB.cell? ⟨w.heap.size, 0, none⟩ = some (.int .i64 (k : Int)) := by rw [← hwB]; simp
    have b1 : wB.cell? ⟨w.heap.size, 1, none⟩ = some (.int .u32 x) := by rw [← hwB]; simp
    have c0B := cell_bel c0 hb
    have hfB : wB.frozen? ⟨bt, 0, none⟩ = false := (frozen_kept c0 (grown_bel hb none) (fun r e => by cases e)).trans hfz
    have HROWB : Hid (wB.ownsRow base 31 1 (.slice va L vc) L (wcs ms)) := HROW.out.kept (grown_bel hb none) (by cases h : Value.ownBlock (.slice va L vc) with | none => exact .inl rfl | some y => exact .inr (by simp))
    have hnew : some w.heap.size ≠ Value.ownBlock (.slice va L vc) := fun e => by have := (HROW.out.lt _ e.symm).2; omega
    have hnbt : some bt ≠ Value.ownBlock (.slice va L vc) := fun e => by have := (HROW.out.lt _ e.symm).1; omega
    rw [hwB]
    clear hwB c0 hfz HROW
    go_wp2_with (at_builtin; refine wpList_zeros_own rfl _ _ 99 3 31 rfl Try.underlying99 Try.underlying3 infoU base (.slice va L vc) L (wcs ms) rfl HROWB.out m rfl hm0 (by omega) (by omega) ?_)
    intro g cap2 w5 hown5 hg5 hgg
    have hgo : own = some g ∨ w.heap.size ≤ g := by
      rcases hgg with h | h
      · exact .inl (by rw [← HOWN.out]; exact h)
      · exact .inr (by omega)
    have HGO : Hid (own = some g ∨ w.heap.size ≤ g) := hgo
    clear hgg hgo
    have HOWN5 : Hid (w5.ownsRow base 31 1 (.slice (some ⟨g, 0, none⟩) (L + m) cap2) (L + m) (wcs ms ++ zc m)) := hown5
    have HG5 : Hid (wB.grownBy w5 (Value.ownBlock (.slice va L vc))) := hg5
    have hc5 : w5.cell? ⟨bt, 0, none⟩ = some (.slice va L vc) := (World.cell?_of_block (w := wB) (HG5.out.block bt (by omega) hnbt)).trans c0B
    have hf5 : w5.frozen? ⟨bt, 0, none⟩ = false := (World.frozen?_of_block (w := wB) (HG5.out.block bt (by omega) hnbt)).trans hfB
    have b05 : w5.cell? ⟨w.heap.size, 0, none⟩ = some (.int .i64 (k : Int)) := (World.cell?_of_block (w := wB) (HG5.out.block w.heap.size (by omega) hnew)).trans b0
    have b15 : w5.cell? ⟨w.heap.size, 1, none⟩ = some (.int .u32 x) := (World.cell?_of_block (w := wB) (HG5.out.block w.heap.size (by omega) hnew)).trans b1
    clear hown5 hg5 b0 b1 c0B hfB
    go_wp2_with fail
    obtain ⟨w6, hw6⟩ : ∃ w6, w5.setCell ⟨bt, 0, none⟩ (.slice (some ⟨g, 0, none⟩) (L + m) cap2) = w6 := ⟨_, rfl⟩
    have hgb : base ≤ g := (HOWN5.out.lt g rfl).1
    have hg6 : w5.grownBy w6 (some bt) := by rw [← hw6]; exact grownBy_setCell' w5 bt _
    have c6 : w6.cell? ⟨bt, 0, none⟩ = some (.slice (some ⟨g, 0, none⟩) (L + m) cap2) := by rw [← hw6]; exact World.cell?_setCell_same' _ _ _ (by rw [hc5]; rfl)
    have f6 : w6.frozen? ⟨bt, 0, none⟩ = false := by rw [← hw6, World.frozen?_setCell]; exact hf5
    have hl5 : w.heap.size < w5.heap.size := by have := HG5.out.size; omega
    have b06 : w6.cell? ⟨w.heap.size, 0, none⟩ = some (.int .i64 (k : Int)) := (World.cell?_of_block (w := w5) (hg6.block w.heap.size hl5 (fun e => by cases e; omega))).trans b05
    have b16 : w6.cell? ⟨w.heap.size, 1, none⟩ = some (.int .u32 x) := (World.cell?_of_block (w := w5) (hg6.block w.heap.size hl5 (fun e => by cases e; omega))).trans b15
    have HOWN6 : Hid (w6.ownsRow base 31 1 (.slice (some ⟨g, 0, none⟩) (L + m) cap2) (L + m) (wcs (ms ++ List.replicate m 0))) := by
      have e : wcs (ms ++ List.replicate m 0) = wcs ms ++ zc m := by simp [wcs, zc]
      show World.ownsRow _ _ _ _ _ _ _
      rw [e]; exact HOWN5.out.kept hg6 (.inr (by simp [Value.ownBlock]; omega))
    have hcell := HOWN6.out.cellAt k (by omega)
    have hfr := HOWN6.out.frozenAt k
    have hcv : ∃ y, w6.cell? ⟨g, k, none⟩ = some (.int .u32 y) := by
      rw [hcell]
      have : k < (ms ++ List.replicate m (0 : Int)).length := by simp [HL.out]; omega
      exact ⟨_, by rw [wcs, List.getElem?_map, List.getElem?_eq_getElem this]; rfl⟩
    obtain ⟨y, hcv⟩ := hcv
    have hkeep : ∀ b, b < w.heap.size → b ≠ bt → some b ≠ own → w6.heap[b]? = w.heap[b]? := fun b hb1 hb2 hb3 => ((hg6.block b (by omega) (fun e => by cases e; exact hb2 rfl)).trans (HG5.out.block b (by omega) (by rw [HOWN.out]; exact hb3))).trans (hb.block b (by omega))
    have hs6 : w.heap.size ≤ w6.heap.size := by have := hg6.size; omega
    have HKEEP : Hid (∀ b, b < w.heap.size → b ≠ bt → some b ≠ own → w6.heap[b]? = w.heap[b]?) := hkeep
    have hkk6 : (k : Int) < ((L + m : Nat) : Int) := by omega
    have hkk7 : (k : Int) < (L : Int) + m := by omega
    have HOTH : Hid (∀ o, 0 < o → w6.cell? ⟨bt, o, none⟩ = w.cell? ⟨bt, o, none⟩ ∧ w6.frozen? ⟨bt, o, none⟩ = w.frozen? ⟨bt, o, none⟩) := fun o ho => by
      have e5 : w5.heap[bt]? = w.heap[bt]? := (HG5.out.block bt (by omega) hnbt).trans (hb.block bt hltw)
      rw [← hw6, World.cell?_setCell_other (h := fun e => by cases e; omega), World.frozen?_setCell]
      exact ⟨World.cell?_of_block (w := w) e5, World.frozen?_of_block (w := w) e5⟩
    rw [hw6]
    clear hw6 hcell hc5 hf5 b05 b15 hkeep
    go_wp2_with fail
    go_still_tail 8, (by kernel_rfl)
    go_wp2_with fail
    go_end0
    refine ⟨⟨_, rfl⟩, g, HGO.out, ?_⟩
    have hp : putP ms k x = (ms ++ List.replicate m 0).set k x := by unfold putP; rw [HL.out, hm]
    rw [hp]
    refine put_done (by simp [HL.out]) x0 x1 hlt (Nat.le_trans hle hs6) ?_ hgb c6 f6 HOWN6.out HKEEP.out (((hb.mono (Nat.zero_le _)).grown HG5.out (Nat.zero_le _) (fun _ _ => Nat.zero_le _)).grown hg6 (Nat.zero_le _) (fun _ _ => Nat.zero_le _)) HOTH.out HGO.out
    intro d hd
    rcases List.mem_append.1 hd with h | h
    · exact H.out.u32 d h
    · rw [List.eq_of_mem_replicate h]; exact ⟨by decide, by decide⟩
end Go.Proofs.Ytjhdjbhpofhiaab.Fb
