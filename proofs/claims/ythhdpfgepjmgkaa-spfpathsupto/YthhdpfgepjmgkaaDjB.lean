/- Shortest paths: boxes as arms; within, valid, portOf, stands, now. -/
import Derived.Test.YthhdpfgepjmgkaaDjA
import Derived.Test.YthhdpfgepjmgkaaGeD
import Derived.Lib.QuietBelow
import Derived.Deep.RegionHeld3
import Derived.Deep.Cut
import Derived.Laws.Rows
import Derived.Laws.ResultCell
namespace Go.Proofs.Ythhdpfgepjmgkaa.Dj
open Go.ChangeShapes Go.WideShapes Go.ChangeAt Go.RowKit Go.Joins Go.Deep Go.Proofs.Ythhdpfgepjmgkaa.Ge
set_option linter.unusedVariables false
set_option linter.unusedSimpArgs false

theorem drew_bel (w : World) : Below w.heap.size w w.drew := ⟨rfl, rfl, rfl, Nat.le_refl _, fun _ _ => rfl⟩
section
variable {ops : Array Oper} {rest : List Oper} {o : Oper} {ac : Act} {Q : Exit → Act → World → Prop} {W : World}
/-- a new box, its block a letter -/
theorem list_boxl (T : Sk) (hgd : o.guard = none) (x : Operand) (ho : o.op = .box T.t x) {cs : List Value} (hx : ac.eval x = .agg cs.toArray)
    (k : ∀ b W', Hid (W.heap.size = b) → Hid (SB T b cs W') → Hid (Below W.heap.size W W') → wpList Try.prog ops Q rest (ac.put o.dst (.pointer (some ⟨b, 0, none⟩))) W') : wpList Try.prog ops Q (o :: rest) ac W := by
  refine wpList_plain hgd fun K hK => ?_
  unfold Oper.wp
  rw [sbox_run T x ho hx]
  exact hK _ _ (k _ _ rfl (World.alloc_heap_new W _) ((Below.refl _ W).alloc (Nat.le_refl _) _))
theorem znew_run {ρ : Operand → Value} (T : Sk) (z : List Value) (hz : ∀ W, (zeroValue T.t).run Try.prog W = .ok (.agg z.toArray) W) (ho : o.op = .alloc T.t) : (execOp ρ o).run Try.prog W = .ok (.value (.pointer (some ⟨W.heap.size, 0, none⟩))) (W.alloc (Obj.cells z.toArray T.t)) := by
  unfold execOp
  rw [ho]
  simp [go_sem, hz]
theorem list_newl (T : Sk) (z : List Value) (hz : ∀ W, (zeroValue T.t).run Try.prog W = .ok (.agg z.toArray) W) (hgd : o.guard = none) (ho : o.op = .alloc T.t)
    (k : ∀ b W', Hid (W.heap.size = b) → Hid (SB T b z W') → Hid (Below W.heap.size W W') → wpList Try.prog ops Q rest (ac.put o.dst (.pointer (some ⟨b, 0, none⟩))) W') : wpList Try.prog ops Q (o :: rest) ac W := by
  refine wpList_plain hgd fun K hK => ?_
  unfold Oper.wp
  rw [znew_run T z hz ho]
  exact hK _ _ (k _ _ rfl (World.alloc_heap_new W _) ((Below.refl _ W).alloc (Nat.le_refl _) _))
theorem mnew_run {κ β : Type} [DecidableEq κ] {ρ : Operand → Value} (M : Mk κ β) (ho : o.op = .makeMap M.t none) : (execOp ρ o).run Try.prog W = .ok (.value (.map (some W.heap.size))) (W.alloc (.map #[] 0)) := by
  unfold execOp
  rw [ho]
  simp [Instr.makeMap, go_sem]
theorem list_mnew {κ β : Type} [DecidableEq κ] (M : Mk κ β) (hgd : o.guard = none) (ho : o.op = .makeMap M.t none)
    (k : ∀ b W', Hid (W.heap.size = b) → Hid (MB M b [] 0 W') → Hid (Below W.heap.size W W') → wpList Try.prog ops Q rest (ac.put o.dst (.map (some b))) W') : wpList Try.prog ops Q (o :: rest) ac W := by
  refine wpList_plain hgd fun K hK => ?_
  unfold Oper.wp
  rw [mnew_run M ho]
  exact hK _ _ (k _ _ rfl (World.alloc_heap_new W _) ((Below.refl _ W).alloc (Nat.le_refl _) _))
end
theorem lv_run (T : Sk) {b : Nat} {cs : List Value} {w : World} (hs : SB T b cs w) (hl : cs.length = T.k) : (loadVar T.t ⟨b, 0, none⟩).run Try.prog w = .ok (.agg cs.toArray) w := by
  obtain ⟨t, k, d, hu, hd, hi⟩ := T
  have h2 : (Try.prog.info? t).map (·.size) = some cs.toArray.size := by rw [hi]; simp [hl]
  cases d <;> first | (exact run_loadVar_row w b t t cs.toArray _ _ hs hu rfl h2) | cases hd
theorem ret_cell (T : Sk) {fn : Func} {p b : Nat} {a : Act} {cs : List Value} {w : World} {R : Ending → World → Prop} (h : fn.results = #[.cell p T.t]) (hp : a.tmps.getD p undef = .pointer (some ⟨b, 0, none⟩)) (hs : SB T b cs w) (hl : cs.length = T.k) (hd : a.defers = []) (hR : R (.returned (.agg cs.toArray)) w) : bodyPost Try.prog fn R .ret a w :=
  bodyPost_ret (by
    have hp' : a.tmps[p]?.getD undef = .pointer (some ⟨b, 0, none⟩) := by simpa using hp
    simp [results, h, hp', asAddr, lv_run T hs hl]) hd hR
theorem ret_cell1 (T : Sk) {fn : Func} {p u b : Nat} {a : Act} {cs : List Value} {w : World} {R : Ending → World → Prop} (h : fn.results = #[.cell p T.t, .tmp u]) (hp : a.tmps.getD p undef = .pointer (some ⟨b, 0, none⟩)) (hs : SB T b cs w) (hl : cs.length = T.k) (hd : a.defers = []) (hR : R (.returned (.tuple #[.agg cs.toArray, a.tmps.getD u undef])) w) : bodyPost Try.prog fn R .ret a w :=
  bodyPost_ret (by
    rw [results_cell_tmp h, hp]
    have e1 : (asAddr (.pointer (some ⟨b, 0, none⟩))).run Try.prog w = .ok ⟨b, 0, none⟩ w := by simp [asAddr]
    rw [e1, Result.andThen_ok, lv_run T hs hl, Result.andThen_ok]) hd hR
set_option maxRecDepth 100000 in
theorem z_ed (W : World) : (zeroValue 26).run Try.prog W = .ok (.agg (edL ⟨0, 0, 0, 0⟩).toArray) W := by rfl
set_option maxRecDepth 100000 in
theorem z_rc (W : World) : (zeroValue 32).run Try.prog W = .ok (.agg (rcL ⟨0, 0, [], none, 0⟩).toArray) W := by rfl
set_option maxRecDepth 100000 in
theorem z_tn (W : World) : (zeroValue 77).run Try.prog W = .ok (.agg (tnL ⟨0, 0⟩).toArray) W := by rfl
set_option maxRecDepth 100000 in
theorem z_pt (W : World) : (zeroValue 67).run Try.prog W = .ok (.agg ([.int .i64 0, .int .i64 0] : List Value).toArray) W := by rfl

def inr (a n b : Int) : Bool := decide (a ≤ n) && decide (n ≤ b)
theorem within_any (a n b : Int) (w : World) : Calls Try.prog 49 #[.int .i64 a, .int .i64 n, .int .i64 b] w fun e w' => e = .returned (.bool (inr a n b)) ∧ w = w' := by
  go_enter Try.func49, Try.ntmps49
  by_cases h1 : a ≤ n
  · by_cases h2 : n ≤ b
    · go_wp2
      go_ret
      exact ⟨by simp [inr, h1, h2], rfl⟩
    · go_wp2
      go_ret
      exact ⟨by simp [inr, h1, h2], rfl⟩
  · go_wp2
    go_ret
    exact ⟨by simp [inr]; omega, rfl⟩
/-- D1 -/
def vd (e : Ed) : Bool := inr 0 e.f 4294967295 && (inr 0 e.t 4294967295 && (decide (e.f ≠ e.t) && (inr 1 e.c 65535 && inr 0 e.l 65535)))
def BlPost (w : World) (r : Bool) (e : Ending) (w' : World) : Prop := e = .returned (.bool r) ∧ Below w.heap.size w w'
set_option maxRecDepth 100000 in
set_option maxHeartbeats 8000000 in
theorem valid_any (e : Ed) (w : World) : Calls Try.prog 33 #[edV e] w (BlPost w (vd e)) := by
  unfold edV
  go_enter Try.func33, Try.ntmps33
  go_wp2_with (refine list_boxl EdK rfl _ rfl (cs := edL e) rfl ?_)
  intro b w1 hb hs hbl
  have HB : Hid (Below w.heap.size w w1) := hbl.out
  have c0 : w1.cell? ⟨b, 0, none⟩ = some (.int .i64 e.f) := hs.out.cell 0
  have c1 : w1.cell? ⟨b, 1, none⟩ = some (.int .i64 e.t) := hs.out.cell 1
  have c2 : w1.cell? ⟨b, 2, none⟩ = some (.int .i64 e.c) := hs.out.cell 2
  have c3 : w1.cell? ⟨b, 3, none⟩ = some (.int .i64 e.l) := hs.out.cell 3
  clear hb hs hbl
  go_wp2_with fail
  refine (within_any _ _ _ w1).mono ?_
  rintro e0 w2 ⟨rfl, rfl⟩
  cases h1 : inr 0 e.f 4294967295
  case false =>
    have HE : Hid (vd e = false) := by show _ = _; simp [vd, h1]
    clear h1
    go_wp2_with fail
    go_ret
    exact ⟨by rw [HE.out]; try rfl, HB.out⟩
  have H1 : Hid (inr 0 e.f 4294967295 = true) := h1
  clear h1
  go_wp2_with fail
  refine (within_any _ _ _ w1).mono ?_
  rintro e0 w2 ⟨rfl, rfl⟩
  cases h2 : inr 0 e.t 4294967295
  case false =>
    have HE : Hid (vd e = false) := by show _ = _; simp [vd, h2]
    clear h2
    go_wp2_with fail
    go_ret
    exact ⟨by rw [HE.out]; try rfl, HB.out⟩
  have H2 : Hid (inr 0 e.t 4294967295 = true) := h2
  clear h2
  by_cases h3 : e.f = e.t
  case pos =>
    have HE : Hid (vd e = false) := by show _ = _; simp [vd, h3]
    have hn : (e.f != e.t) = false := by simp [h3]
    clear h3
    go_wp2_with fail
    go_ret
    exact ⟨by rw [HE.out]; try rfl, HB.out⟩
  have H3 : Hid (¬ e.f = e.t) := h3
  have hn : (e.f != e.t) = true := by simp [h3]
  clear h3
  go_wp2_with fail
  refine (within_any _ _ _ w1).mono ?_
  rintro e0 w2 ⟨rfl, rfl⟩
  cases h4 : inr 1 e.c 65535
  case false =>
    have HE : Hid (vd e = false) := by show _ = _; simp [vd, h4]
    clear h4
    go_wp2_with fail
    go_ret
    exact ⟨by rw [HE.out]; try rfl, HB.out⟩
  have H4 : Hid (inr 1 e.c 65535 = true) := h4
  clear h4
  go_wp2_with fail
  refine (within_any _ _ _ w1).mono ?_
  rintro e0 w2 ⟨rfl, rfl⟩
  have HE : Hid (vd e = inr 0 e.l 65535) := by
    show _ = _
    unfold vd
    rw [H1.out, H2.out, H4.out, decide_eq_true H3.out]
    simp
  obtain ⟨r, hr⟩ : ∃ y, inr 0 e.l 65535 = y := ⟨_, rfl⟩
  rw [hr] at HE ⊢
  clear hr
  go_wp2_with fail
  go_ret
  exact ⟨by rw [HE.out]; try rfl, HB.out⟩
def VlPost (w : World) (v : Value) (e : Ending) (w' : World) : Prop := e = .returned v ∧ Below w.heap.size w w'
set_option maxRecDepth 100000 in
set_option maxHeartbeats 8000000 in
theorem port_any (e : Ed) (w : World) : Calls Try.prog 34 #[edV e] w (VlPost w (ptV (e.f, e.l))) := by
  unfold edV ptV
  go_enter Try.func34, Try.ntmps34
  go_upto_region 1 with first | (refine list_boxl EdK rfl _ rfl (cs := edL e) rfl ?_; intro b w1 hb hs hbl) | (refine list_newl PtK _ z_pt rfl rfl ?_; intro b2 w2 hb2 hs2 hbl2)
  have hs1 := hs.out.blk (hbl2.out.block b (SB.lt hs.out))
  have HB : Hid (Below w.heap.size w w2) := hbl.out.trans (hbl2.out.mono hbl.out.size)
  have HL : Hid (w.heap.size ≤ b2) := by rw [← hb2.out]; exact hbl.out.size
  have c0 : w2.cell? ⟨b, 0, none⟩ = some (.int .i64 e.f) := hs1.cell 0
  have c3 : w2.cell? ⟨b, 3, none⟩ = some (.int .i64 e.l) := hs1.cell 3
  have HS2 : Hid (SB PtK b2 ([.int .i64 0, .int .i64 0] : List Value) w2) := hs2.out
  clear hb hs hbl hb2 hs2 hbl2 hs1
  go_wp2_with (refine list_sstore PtK rfl _ _ rfl (b := b2) (cs := [.int .i64 0, .int .i64 0]) (cs' := [.int .i64 e.f, .int .i64 e.l]) rfl rfl HS2.out rfl rfl rfl ?_)
  intro w3 hs3 hk3
  have HB3 : Hid (Below w.heap.size w w3) := HB.out.trans (hk3.out.below HL.out)
  have HS3 : Hid (SB PtK b2 ([.int .i64 e.f, .int .i64 e.l] : List Value) w3) := hs3.out
  clear hs3 hk3 c0 c3 HS2
  go_wp2_with fail
  exact ret_cell PtK rfl rfl HS3.out rfl rfl ⟨rfl, HB3.out⟩
end Go.Proofs.Ythhdpfgepjmgkaa.Dj
