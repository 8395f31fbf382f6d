/- Decode: what it answers. -/
import Derived.Test.YtagfdmkgnedlbaeLsW
import Derived.Test.YtagfdmkgnedlbaeLsX
import Derived.Test.YtagfdmkgnedlbaeLsT
namespace Go.Proofs.Ytagfdmkgnedlbae.Ls
open Go.ChangeShapes Go.WideShapes Go.ChangeAt Go.RowKit Go.Joins Go.Proofs.Ytagfdmkgnedlbae.PM Go.Proofs.Ytagfdmkgnedlbae.Ask
set_option linter.unusedVariables false

/-- an announcement and where its lists lie -/
structure It where
  x : Lsa
  la : Option Addr
  lc : Nat
  sa : Option Addr
  sc : Nat
def It.lv (y : It) : Value := .slice y.la y.x.links.length y.lc
def It.sv (y : It) : Value := .slice y.sa y.x.stubs.length y.sc
def It.bl (y : It) : List Nat := y.lv.ownBlock.toList ++ y.sv.ownBlock.toList
def It.cells (y : It) : List Value := [.int .i64 y.x.kind, .int .i64 y.x.area, .int .i64 y.x.origin, .int .u32 y.x.pa, .int .i64 y.x.pn, .int .i64 y.x.seq, .int .i64 y.x.age, y.lv, y.sv, .int .i64 y.x.cost, .int .i64 y.x.tag]
def acs (ys : List It) : List Value := ys.flatMap It.cells
def blocks (ys : List It) : List Nat := ys.flatMap It.bl
structure ItOk (M : Nat) (W : World) (y : It) : Prop where
  lk : OwnT M 54 .i64 W y.lv y.x.links
  st : OwnT M 56 .u32 W y.sv y.x.stubs
  pa : In32 y.x.pa
  s32 : S32 y.x.stubs
theorem ItOk.blk {M : Nat} {W W' : World} {y : It} (h : ItOk M W y) (hb : ∀ b ∈ y.bl, W'.heap[b]? = W.heap[b]?) : ItOk M W' y :=
  ⟨h.lk.blk (fun g e => hb g (List.mem_append_left _ (by rw [e]; simp))), h.st.blk (fun g e => hb g (List.mem_append_right _ (by rw [e]; simp))), h.pa, h.s32⟩
theorem ItOk.lt {M : Nat} {W : World} {y : It} (h : ItOk M W y) : ∀ b ∈ y.bl, M ≤ b ∧ b < W.heap.size := by
  intro b hb
  rcases List.mem_append.1 hb with h1 | h1
  · exact h.lk.row.lt b (by simpa using h1)
  · exact h.st.row.lt b (by simpa using h1)
theorem ItOk.ok {M : Nat} {W : World} {y : It} (h : ItOk M W y) : LsOk W y.x y.la y.sa := ⟨L3.own h.lk.row rfl, L3.own h.st.row rfl, h.pa, h.s32⟩
/-- announcements that the call has made, all lists apart from each other -/
structure DO (M : Nat) (W : World) (v : Value) (ys : List It) : Prop where
  row : W.ownsRow M 28 11 v ys.length (acs ys)
  its : ∀ y ∈ ys, ItOk M W y
  nd : (blocks ys).Nodup
  ap : ∀ g, v.ownBlock = some g → ¬ g ∈ blocks ys
theorem acs_len (ys : List It) : (acs ys).length = ys.length * 11 := by
  induction ys with
  | nil => rfl
  | cons y ys ih => unfold acs at ih ⊢; rw [List.flatMap_cons, List.length_append, ih]; simp [It.cells]; omega
theorem acs_one (ys : List It) : ∀ u ∈ acs ys, u.oneCell' = true := by
  intro u hu
  simp only [acs, List.mem_flatMap] at hu
  obtain ⟨y, -, hy⟩ := hu
  simp [It.cells, It.lv, It.sv] at hy
  rcases hy with rfl | rfl | rfl | rfl | rfl | rfl | rfl | rfl | rfl | rfl | rfl <;> rfl
theorem DO.form {M : Nat} {W : World} {v : Value} {ys : List It} (h : DO M W v ys) : ∃ a c, v = .slice a ys.length c := by
  rcases h.row.2 with ⟨h1, h2⟩ | ⟨g, cap, cur, h1, _⟩
  · exact ⟨_, _, by rw [h1, h2]⟩
  · exact ⟨_, _, h1⟩
theorem DO.blt {M : Nat} {W : World} {v : Value} {ys : List It} (h : DO M W v ys) : ∀ b ∈ blocks ys, M ≤ b ∧ b < W.heap.size := by
  intro b hb
  simp only [blocks, List.mem_flatMap] at hb
  obtain ⟨y, hy, hb⟩ := hb
  exact (h.its y hy).lt b hb
theorem row_blk {M n size : Nat} {T : TypeId} {W W' : World} {v : Value} {xs : List Value} (h : W.ownsRow M T size v n xs) (hb : ∀ g, v.ownBlock = some g → W'.heap[g]? = W.heap[g]?) : W'.ownsRow M T size v n xs := by
  refine ⟨h.1, ?_⟩
  rcases h.2 with h1 | ⟨g', cap', cur, h1, h2, h3, h4⟩
  · exact .inl h1
  · exact .inr ⟨g', cap', cur, h1, h2, (hb g' (by rw [h1]; rfl)).trans h3, h4⟩
theorem DO.blk {M : Nat} {W W' : World} {v : Value} {ys : List It} (h : DO M W v ys) (hb : ∀ b, M ≤ b → b < W.heap.size → W'.heap[b]? = W.heap[b]?) : DO M W' v ys :=
  ⟨row_blk h.row (fun g e => hb g (h.row.lt g e).1 (h.row.lt g e).2), fun y hy => (h.its y hy).blk (fun b hb2 => hb b ((h.its y hy).lt b hb2).1 ((h.its y hy).lt b hb2).2), h.nd, h.ap⟩
theorem DO.bel {M : Nat} {W W' : World} {v : Value} {ys : List It} (h : DO M W v ys) (hb : Below W.heap.size W W') : DO M W' v ys := h.blk (fun b _ hl => hb.block b hl)
theorem DO.kr {M br : Nat} {W W' : World} {v : Value} {ys : List It} (h : DO M W v ys) (hb : Kr br W W') (hn : br < M) : DO M W' v ys := h.blk (fun b hm hl => hb.block b hl (by omega))
theorem DO.set {M s i : Nat} {W : World} {v u : Value} {ys : List It} (h : DO M W v ys) (hs : s < M) : DO M (W.setCell ⟨s, i, none⟩ u) v ys := h.blk (fun b hm _ => Below.heap_setCell W ⟨s, i, none⟩ u b (by show b ≠ s; omega))
theorem DO.nil (M : Nat) (W : World) : DO M W (.slice none 0 0) [] := ⟨World.ownsRow_nil _ _ _ _, (fun y hy => by cases hy), List.nodup_nil, fun g e => by cases e⟩
theorem ItOk.mono {M M' : Nat} {W : World} {y : It} (h : ItOk M W y) (hM : M' ≤ M) : ItOk M' W y := ⟨h.lk.mono hM, h.st.mono hM, h.pa, h.s32⟩
theorem row_mono {M M' n size : Nat} {T : TypeId} {W : World} {v : Value} {xs : List Value} (h : W.ownsRow M T size v n xs) (hM : M' ≤ M) : W.ownsRow M' T size v n xs := by
  refine ⟨h.1, ?_⟩
  rcases h.2 with h1 | ⟨g', cap', cur, h1, h2, h3⟩
  · exact .inl h1
  · exact .inr ⟨g', cap', cur, h1, Nat.le_trans hM h2, h3⟩
theorem DO.mono {M M' : Nat} {W : World} {v : Value} {ys : List It} (h : DO M W v ys) (hM : M' ≤ M) : DO M' W v ys := ⟨row_mono h.row hM, fun y hy => (h.its y hy).mono hM, h.nd, h.ap⟩
theorem acs_at (ys : List It) : ∀ (i : Nat) (h : i < ys.length) (j : Nat), j < 11 → (acs ys)[i * 11 + j]? = ys[i].cells[j]? := by
  induction ys with
  | nil => intro i h; cases h
  | cons y ys ih =>
    intro i h j hj
    have e0 : acs (y :: ys) = y.cells ++ acs ys := rfl
    have e1 : y.cells.length = 11 := rfl
    cases i with
    | zero => rw [e0, List.getElem?_append_left (by omega)]; simp
    | succ i =>
      rw [e0, List.getElem?_append_right (by omega), e1, show (i + 1) * 11 + j - 11 = i * 11 + j by omega, ih i (by simpa using h) j hj]
      simp
/-- a list of announcements that was made is a list of announcements -/
theorem DO.all {M n : Nat} {W : World} {va : Option Addr} {cap : Nat} {ys : List It} (h : DO M W (.slice va n cap) ys) (hn : ys.length = n) : LAll W va (ys.map It.x) := by
  have hr := h.row
  rw [hn] at hr
  refine ⟨?_, fun i hi => ?_⟩
  · rw [List.length_map]
    rcases hr.2 with ⟨_, h1⟩ | ⟨g, c, cur, _, _, _, h1, h2, _⟩
    · omega
    · unfold maxLen at h2; omega
  · rw [List.length_map] at hi
    have hp : 0 < n := by omega
    have hi2 : i < n := by omega
    rcases hr.2 with ⟨_, h1⟩ | ⟨g, c, cur, hv, hg, hb, hnc, hcm, hsz, htk⟩
    · omega
    · cases hv
      have hc : ∀ j, j < 11 → W.cell? ⟨g, 0 + i * 11 + j, none⟩ = ys[i].cells[j]? := fun j hj => by
        rw [hr.cellAt _ (by omega)]
        rw [Nat.zero_add]
        exact acs_at ys i hi j hj
      have ho := (h.its ys[i] (List.getElem_mem hi)).ok
      refine ⟨g, 0, ys[i].la, ys[i].lc, ys[i].sa, ys[i].sc, rfl, (Array.getElem?_eq_some_iff.1 hb).1, ?_, ?_⟩
      · rw [List.getElem_map]
        exact ⟨hc 0 (by decide), hc 1 (by decide), hc 2 (by decide), hc 3 (by decide), hc 4 (by decide), hc 5 (by decide), hc 6 (by decide), hc 7 (by decide), hc 8 (by decide), hc 9 (by decide), hc 10 (by decide)⟩
      · rw [List.getElem_map]
        exact ho
theorem infoA : (Try.prog.info? 28).map (fun i => (i.zero, i.size, i.bytes)) = some (some (.agg #[.int .i64 0, .int .i64 0, .int .i64 0, .int .u32 0, .int .i64 0, .int .i64 0, .int .i64 0, .slice none 0 0, .slice none 0 0, .int .i64 0, .int .i64 0]), 11, 120) := by kernel_rfl
theorem acells {W : World} {t : Nat} {y : It} {T : TypeId} (h : W.heap[t]? = some (Obj.cells y.cells.toArray T)) : ∀ j u, y.cells[j]? = some u → W.cell? ⟨t, j, none⟩ = some u := by
  intro j u hj
  simp [World.cell?, h, hj]
/-- one announcement that was just built is appended, as one step of a region that draws -/
theorem step_app1A {ops : Array Oper} {o : Oper} {a : Act} {Q : Exit → Act → World → Prop} {K : Act → World → Prop} {E : Prop} (hgd : o.guard = none) (s x : Operand)
    (ho : o.op = .call { callee := .builtin .append, args := #[s, x], argTypes := #[34, 34] })
    (N : Nat) (v : Value) (ys : List It) (y : It) (hbig : ys.length ≤ 1048576) {w : World} (W : World) (hs : a.eval s = v) (hown : DO N W v ys) (hy : ItOk N W y) (hnd : y.bl.Nodup) (hna : ∀ b ∈ y.bl, ¬ b ∈ blocks ys ∧ ¬ v.ownBlock = some b)
    (hx : a.eval x = .slice (some ⟨w.heap.size, 0, none⟩) 1 1) (hN : N ≤ W.heap.size) (hW : W = w.alloc (Obj.cells y.cells.toArray 28))
    (h : ∀ v' w', Hid (DO N w' v' (ys ++ [y])) → Hid (W.grownBy w' v.ownBlock) → K (a.put o.dst v') w') :
    if Region.wanted o (yielded ops a.tmps) = true then Oper.wp Try.prog o a W K Q else E := by
  have hw : Region.wanted o (yielded ops a.tmps) = true := by simp [Region.wanted, hgd]
  rw [if_pos hw]
  have hnew : W.heap[w.heap.size]? = some (Obj.cells y.cells.toArray 28) := by rw [hW]; exact World.alloc_heap_new w _
  obtain ⟨i0, hi, hz0, hz1, hz2⟩ := info_parts infoA
  obtain ⟨v', w', hr, h2, h3, h4, h5⟩ := run_append_own_at (P := Try.prog) W N 34 o.type 28 i0 _ 11 120 Try.underlying34 hi hz0 hz1 hz2 rfl (by decide) v ys.length (acs ys) hown.row ⟨w.heap.size, 0, none⟩ 1 1 (acs [y]) (acs_len _) (by
      intro j u hj
      have e : acs [y] = y.cells := by simp [acs]
      rw [e] at hj
      have := acells hnew j u hj
      rw [Addr.add_lit]
      simpa using this) (acs_one _) (by unfold maxLen; omega) (by omega) hN
  unfold Oper.wp execOp
  simp only [ho, resolve, invoke, builtin, Sem.run_bind, Sem.run_pure, Result.andThen_ok, List.map_toArray, List.map_cons, List.map_nil, hs, hx, hr]
  refine h v' w' ⟨by rw [show acs (ys ++ [y]) = acs ys ++ acs [y] from List.flatMap_append, List.length_append]; exact h2, ?_, ?_, ?_⟩ h3
  · intro z hz
    have key : ∀ b, b < W.heap.size → (∀ g, v.ownBlock = some g → ¬ g = b) → w'.heap[b]? = W.heap[b]? := fun b hb hg => h3.block b hb (fun e => hg b e.symm rfl)
    rcases List.mem_append.1 hz with h6 | h6
    · exact (hown.its z h6).blk (fun b hb => key b ((hown.its z h6).lt b hb).2 (fun g e e2 => hown.ap g e (by subst e2; exact List.mem_flatMap.2 ⟨z, h6, hb⟩)))
    · rw [List.mem_singleton] at h6
      subst h6
      exact hy.blk (fun b hb => key b (hy.lt b hb).2 (fun g e e2 => (hna b hb).2 (e2 ▸ e)))
  · have e : blocks (ys ++ [y]) = blocks ys ++ y.bl := by simp [blocks]
    rw [e, List.nodup_append]
    exact ⟨hown.nd, hnd, fun a ha b hb e2 => (hna b hb).1 (e2 ▸ ha)⟩
  · intro g hg hin
    have e : blocks (ys ++ [y]) = blocks ys ++ y.bl := by simp [blocks]
    rw [e] at hin
    rcases h5 with h6 | h6
    · rw [h6] at hg
      rcases List.mem_append.1 hin with h7 | h7
      · exact hown.ap g hg h7
      · exact (hna g h7).2 hg
    · rw [h6] at hg
      cases hg
      rcases List.mem_append.1 hin with h7 | h7
      · exact absurd (hown.blt _ h7).2 (by omega)
      · exact absurd (hy.lt _ h7).2 (by omega)
/-- a packet, plain -/
structure Pk where
  kind : Int
  frm : Int
  area : Int
  seen : Int
  xs : List Lsa
def noPk : Pk := ⟨0, 0, 0, 0, []⟩
def isK (n : Int) : Bool := decide (n = 1 ∨ n = 2 ∨ n = 3)
/-- what stands in a frame -/
def decB (r0 : Rst) : Pk × Int :=
  let r2 := hdR [2, 1] r0
  let kind : Int := (rdV 1 (rdR 2 r0) : Nat)
  let A := decN decL (rdV 1 r2) (hdR [1, 2, 2, 4, 4] r2)
  let p : Pk := ⟨kind, (rdV 4 (hdR [1, 2, 2] r2) : Nat), (rdV 2 (hdR [1, 2] r2) : Nat), (rdV 4 (hdR [1, 2, 2, 4] r2) : Nat), A.1⟩
  if isK kind = false then (noPk, 13) else if A.2.2 = true ∨ 0 < A.2.1.length then (noPk, 4) else if rangeP p.kind p.frm p.area p.seen p.xs = false then (noPk, 2) else (p, 0)
def decP (bs : List Nat) : Pk × Int := if frameE bs = 0 then decB (bs.take (bs.length - 4), false) else (noPk, frameE bs)
/-- the boxes of Decode: what it answers (zero), and what it reads into -/
structure PI (M br s0 sp : Nat) (w : World) (r : Rst) (kind frm area seen : Int) (lv : Value) (W : World) : Prop where
  ri : RI M br w r W
  bx : PBox sp kind frm area seen lv W
  fx : ∀ i, W.frozen? ⟨sp, i, none⟩ = false
  zx : PBox s0 0 0 0 0 (.slice none 0 0) W
  fz : ∀ i, W.frozen? ⟨s0, i, none⟩ = false
  hM : M = w.heap.size
  lo : M ≤ sp
  sz : sp < W.heap.size
  s0lt : s0 < M
  s0ne : ¬ s0 = br
section
variable {M br s0 sp : Nat} {w : World} {r r' : Rst} {kind frm area seen : Int} {lv : Value} {W W' : World}
theorem PBox.blk {s : Nat} (h : PBox s kind frm area seen lv W) (hb : W'.heap[s]? = W.heap[s]?) : PBox s kind frm area seen lv W' :=
  ⟨(World.cell?_of_block (w := W) hb).trans h.c0, (World.cell?_of_block (w := W) hb).trans h.c1, (World.cell?_of_block (w := W) hb).trans h.c2, (World.cell?_of_block (w := W) hb).trans h.c3, (World.cell?_of_block (w := W) hb).trans h.c4⟩
theorem PI.keep (h : PI M br s0 sp w r kind frm area seen lv W) (hr : RI M br w r' W') (h0 : W'.heap[s0]? = W.heap[s0]?) (h1 : W'.heap[sp]? = W.heap[sp]?) (hs : W.heap.size ≤ W'.heap.size) : PI M br s0 sp w r' kind frm area seen lv W' :=
  ⟨hr, h.bx.blk h1, fun i => (World.frozen?_of_block (w := W) h1).trans (h.fx i), h.zx.blk h0, fun i => (World.frozen?_of_block (w := W) h0).trans (h.fz i), h.hM, h.lo, Nat.lt_of_lt_of_le h.sz hs, h.s0lt, h.s0ne⟩
theorem PI.lts (h : PI M br s0 sp w r kind frm area seen lv W) : s0 < W.heap.size := by
  have := h.sz
  have := h.lo
  have := h.s0lt
  omega
theorem PI.bel (h : PI M br s0 sp w r kind frm area seen lv W) (hb : Below W.heap.size W W') : PI M br s0 sp w r kind frm area seen lv W' := h.keep (h.ri.low hb) (hb.block _ h.lts) (hb.block _ h.sz) hb.size
theorem PI.grown {o : Option Nat} (h : PI M br s0 sp w r kind frm area seen lv W) (hg : W.grownBy W' o) (ho : ∀ g, o = some g → sp + 1 ≤ g) : PI M br s0 sp w r kind frm area seen lv W' := by
  have h2 := h.sz
  have h3 := h.lo
  have h4 := h.s0lt
  have hM := h.hM
  have hb : Below (sp + 1) W W' := (Below.refl _ W).grown hg h2 ho
  exact h.keep (h.ri.high (by omega) (hb.mono (by omega))) (hb.block _ (by omega)) (hb.block _ (by omega)) hg.size
theorem PI.num (h : PI M br s0 sp w r kind frm area seen lv W) (size : Nat) (sz : Int) (hs : ((size : Nat) : Int) = sz) (h0 : 0 < size) (h7 : size ≤ 7) (v : Int) (hv : ((rdV size r : Nat) : Int) = v) (r' : Rst) (hr : rdR size r = r') :
    Calls Try.prog 56 #[.pointer (some ⟨br, 0, none⟩), .int .i64 sz] W fun e w' => e = .returned (.int .i64 v) ∧ PI M br s0 sp w r' kind frm area seen lv w' ∧ Kr br W w' := by
  refine (h.ri.numL size sz hs h0 h7 v hv r' hr).mono ?_
  rintro e w' ⟨rfl, h1, h2⟩
  have h3 := h.sz
  have h6 := h.lo
  have h4 := h1.rd.lt
  exact ⟨rfl, h.keep h1 (h2.block _ h.lts h.s0ne) (h2.block _ h.sz (by omega)) h2.str.size, h2⟩
theorem PI.ann (h : PI M br s0 sp w r kind frm area seen lv W) (x : Lsa) (r' : Rst) (hd : decL r = (x, r')) :
    Calls Try.prog 57 #[.pointer (some ⟨br, 0, none⟩)] W fun e w' => ∃ la lc sa sc, e = .returned (lsaV x la lc sa sc) ∧ PI M br s0 sp w r' kind frm area seen lv w' ∧ Kr br W w' ∧ ItOk (W.heap.size + 2) w' ⟨x, la, lc, sa, sc⟩ ∧ (It.mk x la lc sa sc).bl.Nodup := by
  refine (rann_any M br W r h.ri.rd x r' hd).mono ?_
  rintro e w' ⟨la, lc, sa, sc, rfl, h1, h2, h3, h4, h5, h6⟩
  have h7 := h.sz
  have h8 := h.lo
  have h9 := h1.rd.lt
  refine ⟨la, lc, sa, sc, rfl, h.keep ⟨h1.rd, h.ri.kr.trans h1.kr⟩ (h1.kr.block _ h.lts h.s0ne) (h1.kr.block _ h.sz (by omega)) h1.kr.str.size, h1.kr, ⟨h2, h3, h5, h6⟩, ?_⟩
  unfold It.bl
  rw [List.nodup_append]
  refine ⟨?_, ?_, ?_⟩
  · cases (It.mk x la lc sa sc).lv.ownBlock <;> simp
  · cases (It.mk x la lc sa sc).sv.ownBlock <;> simp
  · intro a ha b hb e
    subst e
    exact h4 a (Option.mem_toList.1 ha) (Option.mem_toList.1 hb)
theorem PI.set1 (h : PI M br s0 sp w r kind frm area seen lv W) (n : Int) : PI M br s0 sp w r kind n area seen lv (W.setCell ⟨sp, 1, none⟩ (.int .i64 n)) := by
  have hl := h.lo
  have h0 := h.s0lt
  have hM := h.hM
  obtain ⟨c0, c1, c2, c3, c4⟩ := h.bx
  refine ⟨h.ri.high (by omega) ((Below.refl _ W).setCell (p := ⟨sp, 1, none⟩) (by show _ ≤ sp; omega) _), ⟨?_, ?_, ?_, ?_, ?_⟩, fun i => by rw [World.frozen?_setCell]; exact h.fx i, h.zx.blk (Below.heap_setCell W ⟨sp, 1, none⟩ _ _ (by show _ ≠ sp; omega)), fun i => by rw [World.frozen?_setCell]; exact h.fz i, h.hM, h.lo, by simpa using h.sz, h.s0lt, h.s0ne⟩
  all_goals first
    | exact World.cell?_setCell_same' _ _ _ (by rw [c1]; rfl)
    | (rw [World.cell?_setCell_other _ _ _ _ (by intro e; injection e with _ e2 _; cases e2)]; assumption)
theorem PI.set2 (h : PI M br s0 sp w r kind frm area seen lv W) (n : Int) : PI M br s0 sp w r kind frm n seen lv (W.setCell ⟨sp, 2, none⟩ (.int .i64 n)) := by
  have hl := h.lo
  have h0 := h.s0lt
  have hM := h.hM
  obtain ⟨c0, c1, c2, c3, c4⟩ := h.bx
  refine ⟨h.ri.high (by omega) ((Below.refl _ W).setCell (p := ⟨sp, 2, none⟩) (by show _ ≤ sp; omega) _), ⟨?_, ?_, ?_, ?_, ?_⟩, fun i => by rw [World.frozen?_setCell]; exact h.fx i, h.zx.blk (Below.heap_setCell W ⟨sp, 2, none⟩ _ _ (by show _ ≠ sp; omega)), fun i => by rw [World.frozen?_setCell]; exact h.fz i, h.hM, h.lo, by simpa using h.sz, h.s0lt, h.s0ne⟩
  all_goals first
    | exact World.cell?_setCell_same' _ _ _ (by rw [c2]; rfl)
    | (rw [World.cell?_setCell_other _ _ _ _ (by intro e; injection e with _ e2 _; cases e2)]; assumption)
theorem PI.set3 (h : PI M br s0 sp w r kind frm area seen lv W) (n : Int) : PI M br s0 sp w r kind frm area n lv (W.setCell ⟨sp, 3, none⟩ (.int .i64 n)) := by
  have hl := h.lo
  have h0 := h.s0lt
  have hM := h.hM
  obtain ⟨c0, c1, c2, c3, c4⟩ := h.bx
  refine ⟨h.ri.high (by omega) ((Below.refl _ W).setCell (p := ⟨sp, 3, none⟩) (by show _ ≤ sp; omega) _), ⟨?_, ?_, ?_, ?_, ?_⟩, fun i => by rw [World.frozen?_setCell]; exact h.fx i, h.zx.blk (Below.heap_setCell W ⟨sp, 3, none⟩ _ _ (by show _ ≠ sp; omega)), fun i => by rw [World.frozen?_setCell]; exact h.fz i, h.hM, h.lo, by simpa using h.sz, h.s0lt, h.s0ne⟩
  all_goals first
    | exact World.cell?_setCell_same' _ _ _ (by rw [c3]; rfl)
    | (rw [World.cell?_setCell_other _ _ _ _ (by intro e; injection e with _ e2 _; cases e2)]; assumption)
theorem PI.set4 (h : PI M br s0 sp w r kind frm area seen lv W) (v : Value) : PI M br s0 sp w r kind frm area seen v (W.setCell ⟨sp, 4, none⟩ v) := by
  have hl := h.lo
  have h0 := h.s0lt
  have hM := h.hM
  obtain ⟨c0, c1, c2, c3, c4⟩ := h.bx
  refine ⟨h.ri.high (by omega) ((Below.refl _ W).setCell (p := ⟨sp, 4, none⟩) (by show _ ≤ sp; omega) _), ⟨?_, ?_, ?_, ?_, ?_⟩, fun i => by rw [World.frozen?_setCell]; exact h.fx i, h.zx.blk (Below.heap_setCell W ⟨sp, 4, none⟩ _ _ (by show _ ≠ sp; omega)), fun i => by rw [World.frozen?_setCell]; exact h.fz i, h.hM, h.lo, by simpa using h.sz, h.s0lt, h.s0ne⟩
  all_goals first
    | exact World.cell?_setCell_same' _ _ _ (by rw [c4]; rfl)
    | (rw [World.cell?_setCell_other _ _ _ _ (by intro e; injection e with _ e2 _; cases e2)]; assumption)
end
theorem frame_len {bs : List Nat} (h : frameE bs = 0) : 20 ≤ bs.length ∧ bs.length ≤ 4096 := by
  unfold frameE at h
  split at h
  · cases h
  · split at h
    · cases h
    · omega
theorem pbox_new {w W : World} {k f a n : Int} {lv : Value} (hW : w.alloc (Obj.cells #[.int .i64 k, .int .i64 f, .int .i64 a, .int .i64 n, lv] 36) = W) : PBox w.heap.size k f a n lv W ∧ (∀ i, W.frozen? ⟨w.heap.size, i, none⟩ = false) ∧ Below w.heap.size w W ∧ W.heap.size = w.heap.size + 1 := by
  subst hW
  exact ⟨by constructor <;> simp [go_sem], fun i => by simp, (Below.refl _ w).alloc (Nat.le_refl _) _, by simp⟩
/-- five cells are set anew -/
def S5 (W : World) (s : Nat) (a b c d e : Value) : World := ((((W.setCell ⟨s, 0, none⟩ a).setCell ⟨s, 1, none⟩ b).setCell ⟨s, 2, none⟩ c).setCell ⟨s, 3, none⟩ d).setCell ⟨s, 4, none⟩ e
theorem s5_blk (W : World) (s : Nat) (a b c d e : Value) : (∀ g, ¬ g = s → (S5 W s a b c d e).heap[g]? = W.heap[g]?) ∧ (S5 W s a b c d e).heap.size = W.heap.size ∧ ∀ M w, M ≤ s → Below M w W → Below M w (S5 W s a b c d e) := by
  unfold S5
  refine ⟨fun g hg => ?_, by simp, fun M w hM hb => ?_⟩
  · repeat rw [Below.heap_setCell _ _ _ _ (by show g ≠ s; exact hg)]
  · iterate 5 refine Below.setCell ?_ (by show M ≤ s; exact hM) _
    exact hb
/-- what Decode leaves -/
def DecPost (w : World) (p : Pk) (er : Int) (e : Ending) (w' : World) : Prop := ∃ va' cap' ys, e = .returned (.tuple #[pkV p.kind p.frm p.area p.seen va' p.xs.length cap', .int .i64 er]) ∧ ys.map It.x = p.xs ∧ DO w.heap.size w' (.slice va' p.xs.length cap') ys ∧ Below w.heap.size w w'
set_option maxRecDepth 100000 in
set_option maxHeartbeats 16000000 in
theorem decode_any (va : Option Addr) (cap : Nat) (bs : List Nat) (L : Nat) (hL : bs.length = L) (hcap : L ≤ cap) (w : World) (hx : By w va bs) (p : Pk) (er : Int) (hd : decP bs = (p, er)) :
    Calls Try.prog 22 #[.slice va L cap] w (DecPost w p er) := by
  have HX : Hid (By w va bs) := hx
  have HLX : Hid (bs.length = L) := hL
  have hl9 := hx.small
  rw [hL] at hl9
  obtain ⟨fe, hfe⟩ : ∃ f, frameE bs = f := ⟨_, rfl⟩
  have HFE : Hid (frameE bs = fe) := hfe
  have HERR : Hid (∀ W e5, Below w.heap.size w W → DecPost w noPk e5 (.returned (.tuple #[.agg #[.int .i64 0, .int .i64 0, .int .i64 0, .int .i64 0, .slice none 0 0], .int .i64 e5])) W) := fun W e5 hb => ⟨none, 0, [], rfl, rfl, DO.nil _ _, hb⟩
  unfold decP at hd
  rw [hfe] at hd
  clear hx hL hfe
  go_enter Try.func22, Try.ntmps22
  go_wp2_with fail
  obtain ⟨w0, hw0⟩ : ∃ w0, w.alloc (Obj.cells #[.int .i64 0, .int .i64 0, .int .i64 0, .int .i64 0, .slice none 0 0] 36) = w0 := ⟨_, rfl⟩
  obtain ⟨hz, hzf, hbz, hsz⟩ := pbox_new hw0
  obtain ⟨s0, hs0⟩ : ∃ s, w.heap.size = s := ⟨_, rfl⟩
  rw [hs0] at hz hzf hsz
  rw [hw0, hs0]
  clear hw0
  have HBZ : Hid (Below w.heap.size w w0) := hbz
  refine (frame_any va cap bs L HLX.out hcap w0 (HX.out.bel hbz) fe HFE.out).mono ?_
  rintro e w1 ⟨rfl, hb1⟩
  have hs1 : s0 < w1.heap.size := by have := hb1.size; omega
  have HZ1 : Hid (PBox s0 0 0 0 0 (.slice none 0 0) w1 ∧ ∀ i, w1.frozen? ⟨s0, i, none⟩ = false) := ⟨hz.blk (hb1.block s0 (by omega)), fun i => (Below.frozen (p := ⟨s0, i, none⟩) hb1 (by show s0 < _; omega)).trans (hzf i)⟩
  have HB1 : Hid (Below w.heap.size w w1) := hbz.trans (hb1.mono hbz.size)
  have HBY : Hid (By w1 va bs) := HX.out.bel HB1.out
  clear hz hzf hbz hb1 hsz
  by_cases hf : fe = 0
  case neg =>
    have hf2 : (fe != 0) = true := by simpa using hf
    rw [if_neg hf] at hd
    cases hd
    obtain ⟨⟨z0, z1, z2, z3, z4⟩, fz⟩ := HZ1.out
    go_wp2_with fail
    refine bodyPost_ret (v := .tuple #[.agg #[.int .i64 0, .int .i64 0, .int .i64 0, .int .i64 0, .slice none 0 0], .int .i64 er]) (by simp [results, Try.results22, go_sem, z0, z1, z2, z3, z4]) rfl ?_
    exact HERR.out (S5 w1 s0 (.int .i64 0) (.int .i64 0) (.int .i64 0) (.int .i64 0) (.slice none 0 0)) er ((s5_blk _ _ _ _ _ _ _).2.2 _ _ (by omega) HB1.out)
  case pos =>
    subst hf
    obtain ⟨hl20, hl40⟩ := frame_len HFE.out
    rw [HLX.out] at hl20 hl40
    rw [if_pos rfl, HLX.out] at hd
    have hlen := HLX.out
    obtain ⟨body, hbody⟩ : ∃ r, bs.take (L - 4) = r := ⟨_, rfl⟩
    have HBYT : Hid (By w1 va body) := by rw [← hbody]; exact HBY.out.take _
    have hbl : body.length = L - 4 := by rw [← hbody, List.length_take]; omega
    have HBL : Hid (body.length = L - 4) := hbl
    rw [hbody] at hd
    obtain ⟨b, o, hva, hblt, -⟩ := HX.out.cells 0 (by rw [HLX.out]; omega)
    subst hva
    clear hbl hbody hlen HBY
    have hW : ∃ v0 kind cnt v3 area frm seen : Int, ∃ r1 r2 r3 r4 r5 r6 r7 : Rst, ∃ A : List Lsa × Rst, ((rdV 2 (body, false) : Nat) : Int) = v0 ∧ rdR 2 (body, false) = r1 ∧ ((rdV 1 r1 : Nat) : Int) = kind ∧ rdR 1 r1 = r2 ∧ ((rdV 1 r2 : Nat) : Int) = cnt ∧ rdR 1 r2 = r3 ∧ ((rdV 2 r3 : Nat) : Int) = v3 ∧ rdR 2 r3 = r4 ∧ ((rdV 2 r4 : Nat) : Int) = area ∧ rdR 2 r4 = r5 ∧ ((rdV 4 r5 : Nat) : Int) = frm ∧ rdR 4 r5 = r6 ∧ ((rdV 4 r6 : Nat) : Int) = seen ∧ rdR 4 r6 = r7 ∧ decN decL cnt.toNat r7 = A ∧ (if isK kind = false then (noPk, 13) else if A.2.2 = true ∨ 0 < A.2.1.length then (noPk, 4) else if rangeP kind frm area seen A.1 = false then (noPk, 2) else (⟨kind, frm, area, seen, A.1⟩, 0)) = (p, er) := ⟨_, _, _, _, _, _, _, _, _, _, _, _, _, _, _, rfl, rfl, rfl, rfl, rfl, rfl, rfl, rfl, rfl, rfl, rfl, rfl, rfl, rfl, rfl, hd⟩
    obtain ⟨v0, kind, cnt, v3, area, frm, seen, r1, r2, r3, r4, r5, r6, r7, A, e0, q0, e1, q1, e2, q2, e3, q3, e4, q4, e5, q5, e6, q6, hA, hd2⟩ := hW
    have HA : Hid (decN decL cnt.toNat r7 = A) := hA
    have HD2 : Hid ((if isK kind = false then (noPk, 13) else if A.2.2 = true ∨ 0 < A.2.1.length then (noPk, 4) else if rangeP kind frm area seen A.1 = false then (noPk, 2) else (⟨kind, frm, area, seen, A.1⟩, 0)) = (p, er)) := hd2
    have hcnt : 0 ≤ cnt ∧ cnt < 256 := by
      have hu0 : ∀ d ∈ body, d < 256 := HBYT.out.u8
      have hu : ∀ {n : Nat} {r1 : Rst}, (∀ d ∈ r1.1, d < 256) → ∀ d ∈ (rdR n r1).1, d < 256 := fun {n} {r1} h1 d hd => by
        unfold rdR at hd
        split at hd
        · exact h1 d (List.mem_of_mem_drop hd)
        · cases hd
      have h1 : ∀ d ∈ r1.1, d < 256 := q0 ▸ hu (r1 := (body, false)) hu0
      have h2 : ∀ d ∈ r2.1, d < 256 := q1 ▸ hu h1
      have h3 := rdV_lt h2 1
      rw [← e2]
      omega
    have E0 : Hid (((rdV 2 (body, false) : Nat) : Int) = v0) := e0
    have Q0 : Hid (rdR 2 (body, false) = r1) := q0
    have E1 : Hid (((rdV 1 r1 : Nat) : Int) = kind) := e1
    have Q1 : Hid (rdR 1 r1 = r2) := q1
    have E2 : Hid (((rdV 1 r2 : Nat) : Int) = cnt) := e2
    have Q2 : Hid (rdR 1 r2 = r3) := q2
    have E3 : Hid (((rdV 2 r3 : Nat) : Int) = v3) := e3
    have Q3 : Hid (rdR 2 r3 = r4) := q3
    have E4 : Hid (((rdV 2 r4 : Nat) : Int) = area) := e4
    have Q4 : Hid (rdR 2 r4 = r5) := q4
    have E5 : Hid (((rdV 4 r5 : Nat) : Int) = frm) := e5
    have Q5 : Hid (rdR 4 r5 = r6) := q5
    have E6 : Hid (((rdV 4 r6 : Nat) : Int) = seen) := e6
    have Q6 : Hid (rdR 4 r6 = r7) := q6
    clear hA hd2 hd e0 q0 e1 q1 e2 q2 e3 q3 e4 q4 e5 q5 e6 q6
    have hc4 : L ≤ cap + 4 := by omega
    have hw4 : IntKind.i64.wrap ((L : Int) - 4) = ((L - 4 : Nat) : Int) := by rw [IntWalk.i64_in _ (by omega)]; omega
    have hl4 : 0 ≤ (L : Int) - 4 := by omega
    go_wp2_with fail
    obtain ⟨wB, hwB⟩ : ∃ wB, w1.alloc (Obj.cells #[.slice (some ⟨b, o, none⟩) (L - 4 : Nat) cap, .bool false] 81) = wB := ⟨_, rfl⟩
    obtain ⟨br, hbr⟩ : ∃ s, w1.heap.size = s := ⟨_, rfl⟩
    have hbB : Below w1.heap.size w1 wB := by rw [← hwB]; exact (Below.refl _ w1).alloc (Nat.le_refl _) _
    have hsB : wB.heap.size = br + 1 := by rw [← hwB, ← hbr]; simp
    obtain ⟨M, hM⟩ : ∃ M, wB.heap.size = M := ⟨_, rfl⟩
    have hrb : RB wB br (some ⟨b, o, none⟩) (L - 4) cap := by
      rw [← hwB, ← hbr]
      constructor <;> simp [go_sem]
    have HIB : Hid (RI M br wB (body, false) wB) := hrb.ri HBL.out (by omega) (HBYT.out.bel hbB) (fun b' o' e => by cases e; omega) (by omega) (by omega)
    have HZB : Hid (PBox s0 0 0 0 0 (.slice none 0 0) wB ∧ ∀ i, wB.frozen? ⟨s0, i, none⟩ = false) := ⟨HZ1.out.1.blk (hbB.block s0 (by omega)), fun i => (Below.frozen (p := ⟨s0, i, none⟩) hbB (by show s0 < _; omega)).trans (HZ1.out.2 i)⟩
    have HBB : Hid (Below w.heap.size w wB) := HB1.out.trans (hbB.mono HB1.out.size)
    rw [hwB, hbr]
    clear hwB hbB hrb HZ1 HBYT
    refine (HIB.out.numL 2 2 rfl (by decide) (by decide) v0 E0.out r1 Q0.out).mono ?_
    rintro e w2 ⟨rfl, hi1, hk1⟩
    have HI2 : Hid (RI M br wB r1 w2) := hi1
    have HZ2 : Hid (PBox s0 0 0 0 0 (.slice none 0 0) w2 ∧ ∀ i, w2.frozen? ⟨s0, i, none⟩ = false) := ⟨HZB.out.1.blk (hk1.block s0 (by omega) (by omega)), fun i => (World.frozen?_of_block (w := wB) (hk1.block s0 (by omega) (by omega))).trans (HZB.out.2 i)⟩
    clear hi1 hk1 HIB HZB
    go_wp2_with fail
    refine (HI2.out.numL 1 1 rfl (by decide) (by decide) kind E1.out r2 Q1.out).mono ?_
    rintro e w3 ⟨rfl, hi1, hk1⟩
    have hs2 := HI2.out.kr.str.size
    have HI3 : Hid (RI M br wB r2 w3) := hi1
    have HZ3 : Hid (PBox s0 0 0 0 0 (.slice none 0 0) w3 ∧ ∀ i, w3.frozen? ⟨s0, i, none⟩ = false) := ⟨HZ2.out.1.blk (hk1.block s0 (by omega) (by omega)), fun i => (World.frozen?_of_block (w := w2) (hk1.block s0 (by omega) (by omega))).trans (HZ2.out.2 i)⟩
    have hs3 : M ≤ w3.heap.size := by have := hi1.kr.str.size; omega
    clear hi1 hk1 HI2 HZ2
    go_wp2_with fail
    obtain ⟨w4, hw4x⟩ : ∃ w4, w3.alloc (Obj.cells #[.int .i64 kind, .int .i64 0, .int .i64 0, .int .i64 0, .slice none 0 0] 36) = w4 := ⟨_, rfl⟩
    obtain ⟨hz, hzf, hbz, hszz⟩ := pbox_new hw4x
    obtain ⟨sp, hsp⟩ : ∃ s, w3.heap.size = s := ⟨_, rfl⟩
    have P0 : Hid (PI M br s0 sp wB r2 kind 0 0 0 (.slice none 0 0) w4) := by
      rw [hsp] at hz hzf hszz
      exact ⟨HI3.out.low hbz, hz, hzf, HZ3.out.1.blk (hbz.block s0 (by omega)), fun i => (Below.frozen (p := ⟨s0, i, none⟩) hbz (by show s0 < _; omega)).trans (HZ3.out.2 i), hM.symm, by omega, by omega, by omega, by omega⟩
    rw [hw4x, hsp]
    clear hw4x hz hzf hbz hszz HI3 HZ3
    have HLOW : Hid (∀ r k f a n lv W, PI M br s0 sp wB r k f a n lv W → Below w.heap.size w W) := fun r k f a n lv W h => HBB.out.trans ⟨h.ri.kr.str.os, h.ri.kr.str.tape, h.ri.kr.str.output, h.ri.kr.str.size, fun j hj => h.ri.kr.block j (by omega) (by omega)⟩
    obtain ⟨c0, c1, c2, c3, c4⟩ := P0.out.bx
    refine (kind_any kind w4).mono ?_
    rintro e w5 ⟨rfl, hw5⟩
    rw [hw5]
    clear hw5 w5
    obtain ⟨kb, hkb⟩ : ∃ k, isK kind = k := ⟨_, rfl⟩
    have HKB : Hid (isK kind = kb) := hkb
    rw [show decide (kind = 1 ∨ kind = 2 ∨ kind = 3) = kb from hkb]
    rw [hkb] at HD2
    clear hkb
    cases kb with
    | false =>
      have hd3 := HD2.out
      rw [if_pos rfl] at hd3
      cases hd3
      have HBL4 : Hid (Below w.heap.size w w4) := HLOW.out _ _ _ _ _ _ _ P0.out
      obtain ⟨z0, z1, z2, z3, z4⟩ := P0.out.zx
      have fz := P0.out.fz
      go_wp2_with fail
      refine bodyPost_ret (v := .tuple #[.agg #[.int .i64 0, .int .i64 0, .int .i64 0, .int .i64 0, .slice none 0 0], .int .i64 13]) (by simp [results, Try.results22, go_sem, z0, z1, z2, z3, z4]) rfl ?_
      exact HERR.out (S5 w4 s0 (.int .i64 0) (.int .i64 0) (.int .i64 0) (.int .i64 0) (.slice none 0 0)) 13 ((s5_blk _ _ _ _ _ _ _).2.2 _ _ (by omega) HBL4.out)
    | true =>
      have HD3 : Hid ((if A.2.2 = true ∨ 0 < A.2.1.length then (noPk, 4) else if rangeP kind frm area seen A.1 = false then (noPk, 2) else (⟨kind, frm, area, seen, A.1⟩, 0)) = (p, er)) := by
        have := HD2.out
        rw [if_neg (by decide)] at this
        exact this
      clear HD2
      go_wp2_with fail
      clear c0 c1 c2 c3 c4
      refine (P0.out.num 1 1 rfl (by decide) (by decide) cnt E2.out r3 Q2.out).mono ?_
      rintro e y1 ⟨rfl, hb1, -⟩
      have P1 : Hid (PI M br s0 sp wB r3 kind 0 0 0 (.slice none 0 0) y1) := hb1
      clear hb1 P0
      go_wp2_with fail
      refine (P1.out.num 2 2 rfl (by decide) (by decide) v3 E3.out r4 Q3.out).mono ?_
      rintro e y2 ⟨rfl, hb1, -⟩
      have P2 : Hid (PI M br s0 sp wB r4 kind 0 0 0 (.slice none 0 0) y2) := hb1
      clear hb1 P1
      go_wp2_with fail
      refine (P2.out.num 2 2 rfl (by decide) (by decide) area E4.out r5 Q4.out).mono ?_
      rintro e y3 ⟨rfl, hb1, -⟩
      have P3 : Hid (PI M br s0 sp wB r5 kind 0 0 0 (.slice none 0 0) y3) := hb1
      clear hb1 P2
      go_wp2_with fail
      refine (P3.out.num 4 4 rfl (by decide) (by decide) frm E5.out r6 Q5.out).mono ?_
      rintro e y4 ⟨rfl, hb1, -⟩
      have P4 : Hid (PI M br s0 sp wB r6 kind 0 0 0 (.slice none 0 0) y4) := hb1
      clear hb1 P3
      go_wp2_with fail
      refine (P4.out.num 4 4 rfl (by decide) (by decide) seen E6.out r7 Q6.out).mono ?_
      rintro e y5 ⟨rfl, hb1, -⟩
      have P5 : Hid (PI M br s0 sp wB r7 kind 0 0 0 (.slice none 0 0) y5) := hb1
      clear hb1 P4
      obtain ⟨c0, c1, c2, c3, c4⟩ := P5.out.bx
      have fx := P5.out.fx
      have P6 : Hid (PI M br s0 sp wB r7 kind frm area seen (.slice none 0 0) (((y5.setCell ⟨sp, 2, none⟩ (.int .i64 area)).setCell ⟨sp, 1, none⟩ (.int .i64 frm)).setCell ⟨sp, 3, none⟩ (.int .i64 seen))) := ((P5.out.set2 area).set1 frm).set3 seen
      go_wp2_with fail
      clear c0 c1 c2 c3 c4 fx P5
      go_loopw [37] (fun iv wr => ∃ (k : Nat) (ys : List It) (rk : Rst) (uv : Value), (k : Int) ≤ cnt ∧ iv = .int .i64 k ∧ ys.length = k ∧ PI M br s0 sp wB rk kind frm area seen uv wr ∧ DO (sp + 1) wr uv ys ∧ (ys.map It.x ++ (decN decL (cnt.toNat - k) rk).1 = A.1 ∧ (decN decL (cnt.toNat - k) rk).2 = A.2)) (fun i _ => cnt.toNat - (intOf i).toNat)
      case atStart => exact ⟨0, [], r7, .slice none 0 0, by omega, rfl, rfl, P6.out, DO.nil _ _, by rw [Nat.sub_zero, HA.out]; exact ⟨rfl, rfl⟩⟩
      case round =>
        obtain ⟨k, ys, rk, uv, hk, rfl, hyl, hpi, hdo, hdec⟩ := hrel
        have HPI : Hid (PI M br s0 sp wB rk kind frm area seen uv wr) := hpi
        have HDO : Hid (DO (sp + 1) wr uv ys) := hdo
        have HYL : Hid (ys.length = k) := hyl
        have HDC : Hid (ys.map It.x ++ (decN decL (cnt.toNat - k) rk).1 = A.1 ∧ (decN decL (cnt.toNat - k) rk).2 = A.2) := hdec
        clear hyl hpi hdo hdec P6
        by_cases hlt : (k : Int) < cnt
        · have hbig : ys.length ≤ 1048576 := by rw [HYL.out]; omega
          obtain ⟨⟨x, rc⟩, hy⟩ : ∃ y, decL rk = y := ⟨_, rfl⟩
          have HNX : Hid (ys.map It.x ++ [x] ++ (decN decL (cnt.toNat - (k + 1)) rc).1 = A.1 ∧ (decN decL (cnt.toNat - (k + 1)) rc).2 = A.2) := by
            have := decN_snoc (r := rk) (by omega) HDC.out
            rw [hy] at this
            exact this
          have XD : Hid (decL rk = (x, rc)) := hy
          clear HDC hy
          go_wp2_with fail
          refine wp_region_held_drew (S := fun _ => True) (by kernel_rfl) trivial (fun hHeld => ?_)
          obtain ⟨wD, hwD⟩ : ∃ wD, wr.drew = wD := ⟨_, rfl⟩
          have PIwD : Hid (PI M br s0 sp wB rk kind frm area seen uv wD) := by rw [← hwD]; exact HPI.out.bel (drew_bel wr)
          have DOwD : Hid (DO (sp + 1) wD uv ys) := by rw [← hwD]; exact HDO.out.bel (drew_bel wr)
          rw [hwD]
          clear hwD
          refine wpAnyH_take (i := 0) (v := ?_) rfl (by kernel_rfl) (by kernel_rfl) (by kernel_rfl) (fun _ _ _ h => h) (Or.inl ⟨by rfl, ?_⟩) (by assumption) ?_
          case refine_2 => intro W hSw; go_simp; try rfl
          try simp only [Act.put, List.getElem_toArray, List.getElem_cons_zero, List.setIfInBounds_toArray, List.set_cons_zero, List.set_cons_succ]
          refine wpAnyH_ready (rs := [1, 2]) (by kernel_rfl) (by simp) ?_
          refine AllReadyH.cons rfl (fun K hK => ?_) (AllReadyH.cons rfl (fun K hK => ?_) AllReadyH.nil)
          · have d4 := PIwD.out.bx.c4
            go_simp
            refine hK.out _ _ trivial (fun hHeld => ?_)
            clear hK K
            try simp only [Act.put, List.getElem_toArray, List.getElem_cons_zero, List.getElem_cons_succ, List.setIfInBounds_toArray, List.set_cons_zero, List.set_cons_succ]
            clear d4
            refine wpAnyH_ready (rs := [2]) (by kernel_rfl) (by simp) ?_
            refine AllReadyH.cons rfl (fun K hK => ?_) AllReadyH.nil
            go_simp
            refine (PIwD.out.ann x rc XD.out).mono ?_
            rintro e v2 ⟨la, lc, sa, sc, rfl, hb1, hk1, hit, hnd⟩
            have PIv2 : Hid (PI M br s0 sp wB rc kind frm area seen uv v2) := hb1
            have hspl := PIwD.out.sz
            have hlo := PIwD.out.lo
            have DOv2 : Hid (DO (sp + 1) v2 uv ys) := DOwD.out.kr hk1 (by omega)
            have ITv2 : Hid (ItOk (sp + 1) v2 ⟨x, la, lc, sa, sc⟩) := hit.mono (by omega)
            have HND : Hid ((It.mk x la lc sa sc).bl.Nodup) := hnd
            have HNA : Hid (∀ b ∈ (It.mk x la lc sa sc).bl, ¬ b ∈ blocks ys ∧ ¬ uv.ownBlock = some b) := fun b hb => ⟨fun h2 => by have h3 := (DOwD.out.blt b h2).2; have h4 := (hit.lt b hb).1; omega, fun h2 => by have h3 := (DOwD.out.row.lt b h2).2; have h4 := (hit.lt b hb).1; omega⟩
            clear hb1 hk1 hit hnd hspl hlo
            unfold lsaV
            go_wp2_with fail
            refine hK.out _ _ trivial (fun hHeld => ?_)
            clear hK K
            try simp only [Act.put, List.getElem_toArray, List.getElem_cons_zero, List.getElem_cons_succ, List.setIfInBounds_toArray, List.set_cons_zero, List.set_cons_succ]
            refine wpAnyH_ready (rs := [3]) (by kernel_rfl) (by simp) ?_
            refine AllReadyH.cons rfl (fun K hK => ?_) AllReadyH.nil
            go_simp
            obtain ⟨v3, hV⟩ : ∃ v3, v2.alloc (Obj.cells (It.cells ⟨x, la, lc, sa, sc⟩).toArray 28) = v3 := ⟨_, rfl⟩
            have hbV : Below v2.heap.size v2 v3 := by rw [← hV]; exact (Below.refl _ v2).alloc (Nat.le_refl _) _
            have PIv3 : Hid (PI M br s0 sp wB rc kind frm area seen uv v3) := PIv2.out.bel hbV
            have DOv3 : Hid (DO (sp + 1) v3 uv ys) := DOv2.out.bel hbV
            have ITv3 : Hid (ItOk (sp + 1) v3 ⟨x, la, lc, sa, sc⟩) := ITv2.out.blk (fun b hb => hbV.block b (ITv2.out.lt b hb).2)
            have HV : Hid (v2.alloc (Obj.cells (It.cells ⟨x, la, lc, sa, sc⟩).toArray 28) = v3) := hV
            obtain ⟨u, hu⟩ : ∃ u, v2.heap.size = u := ⟨_, rfl⟩
            have HU : Hid (v2.heap.size = u) := hu
            rw [show v2.alloc (Obj.cells #[.int .i64 x.kind, .int .i64 x.area, .int .i64 x.origin, .int .u32 x.pa, .int .i64 x.pn, .int .i64 x.seq, .int .i64 x.age, .slice la x.links.length lc, .slice sa x.stubs.length sc, .int .i64 x.cost, .int .i64 x.tag] 28) = v3 from hV, hu]
            clear hV hbV hu
            refine hK.out _ _ trivial (fun hHeld => ?_)
            clear hK K
            try simp only [Act.put, List.getElem_toArray, List.getElem_cons_zero, List.getElem_cons_succ, List.setIfInBounds_toArray, List.set_cons_zero, List.set_cons_succ]
            refine wpAnyH_ready (rs := [4]) (by kernel_rfl) (by simp) ?_
            refine AllReadyH.cons rfl (fun K hK => ?_) AllReadyH.nil
            refine step_app1A rfl _ _ rfl (sp + 1) uv ys ⟨x, la, lc, sa, sc⟩ hbig (w := v2) v3 rfl DOv3.out ITv3.out HND.out HNA.out (by rw [HU.out]; rfl) (by have := PIv3.out.sz; omega) HV.out.symm ?_
            intro v' w' ho' hg'
            have PIz : Hid (PI M br s0 sp wB rc kind frm area seen uv w') := PIv3.out.grown hg'.out (fun g e => (DOv3.out.row.lt g e).1)
            obtain ⟨va', vc', hv'⟩ := ho'.out.form
            obtain ⟨q, hq⟩ : ∃ q, (ys ++ [It.mk x la lc sa sc]).length = q := ⟨_, rfl⟩
            rw [hq] at hv'
            subst hv'
            clear hq
            have d4 := PIz.out.bx.c4
            have dz := PIz.out.fx 4
            refine hK.out _ _ trivial (fun hHeld => ?_)
            clear hK K
            try simp only [Act.put, List.getElem_toArray, List.getElem_cons_zero, List.getElem_cons_succ, List.setIfInBounds_toArray, List.set_cons_zero, List.set_cons_succ]
            refine wpAnyH_take (i := 5) (v := ?_) rfl (by kernel_rfl) (by kernel_rfl) (by kernel_rfl) (fun _ _ _ h => h) (Or.inl ⟨by rfl, ?_⟩) (by assumption) ?_
            case refine_2 => intro W hSw; go_simp; try rfl
            try simp only [Act.put, List.getElem_toArray, List.getElem_cons_zero, List.getElem_cons_succ, List.setIfInBounds_toArray, List.set_cons_zero, List.set_cons_succ]
            refine wpAnyH_ready (rs := [6]) (by kernel_rfl) (by simp) ?_
            refine AllReadyH.cons rfl (fun K hK => ?_) AllReadyH.nil
            go_simp
            refine hK.out _ _ trivial (fun hHeld => ?_)
            clear hK K
            try simp only [Act.put, List.getElem_toArray, List.getElem_cons_zero, List.getElem_cons_succ, List.setIfInBounds_toArray, List.set_cons_zero, List.set_cons_succ]
            refine wpAnyH_done (by kernel_rfl) ?_ _
            have PIy := PIz.out.set4 (.slice va' q vc')
            have DOy := ho'.out.set (i := 4) (u := .slice va' q vc') (Nat.lt_succ_self sp)
            clear d4 dz
            go_wp2_with fail
            exact ⟨⟨k + 1, ys ++ [It.mk x la lc sa sc], rc, _, by omega, by simp, by rw [List.length_append, HYL.out]; rfl, PIy, DOy, by rw [List.map_append]; exact HNX.out⟩, by simp [intOf]; omega⟩
          · go_simp
            refine (PIwD.out.ann x rc XD.out).mono ?_
            rintro e v4 ⟨la, lc, sa, sc, rfl, hb1, hk1, hit, hnd⟩
            have PIv4 : Hid (PI M br s0 sp wB rc kind frm area seen uv v4) := hb1
            have hspl := PIwD.out.sz
            have hlo := PIwD.out.lo
            have DOv4 : Hid (DO (sp + 1) v4 uv ys) := DOwD.out.kr hk1 (by omega)
            have ITv4 : Hid (ItOk (sp + 1) v4 ⟨x, la, lc, sa, sc⟩) := hit.mono (by omega)
            have HND : Hid ((It.mk x la lc sa sc).bl.Nodup) := hnd
            have HNA : Hid (∀ b ∈ (It.mk x la lc sa sc).bl, ¬ b ∈ blocks ys ∧ ¬ uv.ownBlock = some b) := fun b hb => ⟨fun h2 => by have h3 := (DOwD.out.blt b h2).2; have h4 := (hit.lt b hb).1; omega, fun h2 => by have h3 := (DOwD.out.row.lt b h2).2; have h4 := (hit.lt b hb).1; omega⟩
            clear hb1 hk1 hit hnd hspl hlo
            unfold lsaV
            go_wp2_with fail
            refine hK.out _ _ trivial (fun hHeld => ?_)
            clear hK K
            try simp only [Act.put, List.getElem_toArray, List.getElem_cons_zero, List.getElem_cons_succ, List.setIfInBounds_toArray, List.set_cons_zero, List.set_cons_succ]
            refine wpAnyH_ready (rs := [1, 3]) (by kernel_rfl) (by simp) ?_
            refine AllReadyH.cons rfl (fun K hK => ?_) (AllReadyH.cons rfl (fun K hK => ?_) AllReadyH.nil)
            · have d4 := PIv4.out.bx.c4
              go_simp
              refine hK.out _ _ trivial (fun hHeld => ?_)
              clear hK K
              try simp only [Act.put, List.getElem_toArray, List.getElem_cons_zero, List.getElem_cons_succ, List.setIfInBounds_toArray, List.set_cons_zero, List.set_cons_succ]
              clear d4
              refine wpAnyH_ready (rs := [3]) (by kernel_rfl) (by simp) ?_
              refine AllReadyH.cons rfl (fun K hK => ?_) AllReadyH.nil
              go_simp
              obtain ⟨v6, hV⟩ : ∃ v6, v4.alloc (Obj.cells (It.cells ⟨x, la, lc, sa, sc⟩).toArray 28) = v6 := ⟨_, rfl⟩
              have hbV : Below v4.heap.size v4 v6 := by rw [← hV]; exact (Below.refl _ v4).alloc (Nat.le_refl _) _
              have PIv6 : Hid (PI M br s0 sp wB rc kind frm area seen uv v6) := PIv4.out.bel hbV
              have DOv6 : Hid (DO (sp + 1) v6 uv ys) := DOv4.out.bel hbV
              have ITv6 : Hid (ItOk (sp + 1) v6 ⟨x, la, lc, sa, sc⟩) := ITv4.out.blk (fun b hb => hbV.block b (ITv4.out.lt b hb).2)
              have HV : Hid (v4.alloc (Obj.cells (It.cells ⟨x, la, lc, sa, sc⟩).toArray 28) = v6) := hV
              obtain ⟨u, hu⟩ : ∃ u, v4.heap.size = u := ⟨_, rfl⟩
              have HU : Hid (v4.heap.size = u) := hu
              rw [show v4.alloc (Obj.cells #[.int .i64 x.kind, .int .i64 x.area, .int .i64 x.origin, .int .u32 x.pa, .int .i64 x.pn, .int .i64 x.seq, .int .i64 x.age, .slice la x.links.length lc, .slice sa x.stubs.length sc, .int .i64 x.cost, .int .i64 x.tag] 28) = v6 from hV, hu]
              clear hV hbV hu
              refine hK.out _ _ trivial (fun hHeld => ?_)
              clear hK K
              try simp only [Act.put, List.getElem_toArray, List.getElem_cons_zero, List.getElem_cons_succ, List.setIfInBounds_toArray, List.set_cons_zero, List.set_cons_succ]
              refine wpAnyH_ready (rs := [4]) (by kernel_rfl) (by simp) ?_
              refine AllReadyH.cons rfl (fun K hK => ?_) AllReadyH.nil
              refine step_app1A rfl _ _ rfl (sp + 1) uv ys ⟨x, la, lc, sa, sc⟩ hbig (w := v4) v6 rfl DOv6.out ITv6.out HND.out HNA.out (by rw [HU.out]; rfl) (by have := PIv6.out.sz; omega) HV.out.symm ?_
              intro v' w' ho' hg'
              have PIz : Hid (PI M br s0 sp wB rc kind frm area seen uv w') := PIv6.out.grown hg'.out (fun g e => (DOv6.out.row.lt g e).1)
              obtain ⟨va', vc', hv'⟩ := ho'.out.form
              obtain ⟨q, hq⟩ : ∃ q, (ys ++ [It.mk x la lc sa sc]).length = q := ⟨_, rfl⟩
              rw [hq] at hv'
              subst hv'
              clear hq
              have d4 := PIz.out.bx.c4
              have dz := PIz.out.fx 4
              refine hK.out _ _ trivial (fun hHeld => ?_)
              clear hK K
              try simp only [Act.put, List.getElem_toArray, List.getElem_cons_zero, List.getElem_cons_succ, List.setIfInBounds_toArray, List.set_cons_zero, List.set_cons_succ]
              refine wpAnyH_take (i := 5) (v := ?_) rfl (by kernel_rfl) (by kernel_rfl) (by kernel_rfl) (fun _ _ _ h => h) (Or.inl ⟨by rfl, ?_⟩) (by assumption) ?_
              case refine_2 => intro W hSw; go_simp; try rfl
              try simp only [Act.put, List.getElem_toArray, List.getElem_cons_zero, List.getElem_cons_succ, List.setIfInBounds_toArray, List.set_cons_zero, List.set_cons_succ]
              refine wpAnyH_ready (rs := [6]) (by kernel_rfl) (by simp) ?_
              refine AllReadyH.cons rfl (fun K hK => ?_) AllReadyH.nil
              go_simp
              refine hK.out _ _ trivial (fun hHeld => ?_)
              clear hK K
              try simp only [Act.put, List.getElem_toArray, List.getElem_cons_zero, List.getElem_cons_succ, List.setIfInBounds_toArray, List.set_cons_zero, List.set_cons_succ]
              refine wpAnyH_done (by kernel_rfl) ?_ _
              have PIy := PIz.out.set4 (.slice va' q vc')
              have DOy := ho'.out.set (i := 4) (u := .slice va' q vc') (Nat.lt_succ_self sp)
              clear d4 dz
              go_wp2_with fail
              exact ⟨⟨k + 1, ys ++ [It.mk x la lc sa sc], rc, _, by omega, by simp, by rw [List.length_append, HYL.out]; rfl, PIy, DOy, by rw [List.map_append]; exact HNX.out⟩, by simp [intOf]; omega⟩
            · go_simp
              obtain ⟨v7, hV⟩ : ∃ v7, v4.alloc (Obj.cells (It.cells ⟨x, la, lc, sa, sc⟩).toArray 28) = v7 := ⟨_, rfl⟩
              have hbV : Below v4.heap.size v4 v7 := by rw [← hV]; exact (Below.refl _ v4).alloc (Nat.le_refl _) _
              have PIv7 : Hid (PI M br s0 sp wB rc kind frm area seen uv v7) := PIv4.out.bel hbV
              have DOv7 : Hid (DO (sp + 1) v7 uv ys) := DOv4.out.bel hbV
              have ITv7 : Hid (ItOk (sp + 1) v7 ⟨x, la, lc, sa, sc⟩) := ITv4.out.blk (fun b hb => hbV.block b (ITv4.out.lt b hb).2)
              have HV : Hid (v4.alloc (Obj.cells (It.cells ⟨x, la, lc, sa, sc⟩).toArray 28) = v7) := hV
              obtain ⟨u, hu⟩ : ∃ u, v4.heap.size = u := ⟨_, rfl⟩
              have HU : Hid (v4.heap.size = u) := hu
              rw [show v4.alloc (Obj.cells #[.int .i64 x.kind, .int .i64 x.area, .int .i64 x.origin, .int .u32 x.pa, .int .i64 x.pn, .int .i64 x.seq, .int .i64 x.age, .slice la x.links.length lc, .slice sa x.stubs.length sc, .int .i64 x.cost, .int .i64 x.tag] 28) = v7 from hV, hu]
              clear hV hbV hu
              refine hK.out _ _ trivial (fun hHeld => ?_)
              clear hK K
              try simp only [Act.put, List.getElem_toArray, List.getElem_cons_zero, List.getElem_cons_succ, List.setIfInBounds_toArray, List.set_cons_zero, List.set_cons_succ]
              refine wpAnyH_ready (rs := [1]) (by kernel_rfl) (by simp) ?_
              refine AllReadyH.cons rfl (fun K hK => ?_) AllReadyH.nil
              have d4 := PIv7.out.bx.c4
              go_simp
              refine hK.out _ _ trivial (fun hHeld => ?_)
              clear hK K
              try simp only [Act.put, List.getElem_toArray, List.getElem_cons_zero, List.getElem_cons_succ, List.setIfInBounds_toArray, List.set_cons_zero, List.set_cons_succ]
              clear d4
              refine wpAnyH_ready (rs := [4]) (by kernel_rfl) (by simp) ?_
              refine AllReadyH.cons rfl (fun K hK => ?_) AllReadyH.nil
              refine step_app1A rfl _ _ rfl (sp + 1) uv ys ⟨x, la, lc, sa, sc⟩ hbig (w := v4) v7 rfl DOv7.out ITv7.out HND.out HNA.out (by rw [HU.out]; rfl) (by have := PIv7.out.sz; omega) HV.out.symm ?_
              intro v' w' ho' hg'
              have PIz : Hid (PI M br s0 sp wB rc kind frm area seen uv w') := PIv7.out.grown hg'.out (fun g e => (DOv7.out.row.lt g e).1)
              obtain ⟨va', vc', hv'⟩ := ho'.out.form
              obtain ⟨q, hq⟩ : ∃ q, (ys ++ [It.mk x la lc sa sc]).length = q := ⟨_, rfl⟩
              rw [hq] at hv'
              subst hv'
              clear hq
              have d4 := PIz.out.bx.c4
              have dz := PIz.out.fx 4
              refine hK.out _ _ trivial (fun hHeld => ?_)
              clear hK K
              try simp only [Act.put, List.getElem_toArray, List.getElem_cons_zero, List.getElem_cons_succ, List.setIfInBounds_toArray, List.set_cons_zero, List.set_cons_succ]
              refine wpAnyH_take (i := 5) (v := ?_) rfl (by kernel_rfl) (by kernel_rfl) (by kernel_rfl) (fun _ _ _ h => h) (Or.inl ⟨by rfl, ?_⟩) (by assumption) ?_
              case refine_2 => intro W hSw; go_simp; try rfl
              try simp only [Act.put, List.getElem_toArray, List.getElem_cons_zero, List.getElem_cons_succ, List.setIfInBounds_toArray, List.set_cons_zero, List.set_cons_succ]
              refine wpAnyH_ready (rs := [6]) (by kernel_rfl) (by simp) ?_
              refine AllReadyH.cons rfl (fun K hK => ?_) AllReadyH.nil
              go_simp
              refine hK.out _ _ trivial (fun hHeld => ?_)
              clear hK K
              try simp only [Act.put, List.getElem_toArray, List.getElem_cons_zero, List.getElem_cons_succ, List.setIfInBounds_toArray, List.set_cons_zero, List.set_cons_succ]
              refine wpAnyH_done (by kernel_rfl) ?_ _
              have PIy := PIz.out.set4 (.slice va' q vc')
              have DOy := ho'.out.set (i := 4) (u := .slice va' q vc') (Nat.lt_succ_self sp)
              clear d4 dz
              go_wp2_with fail
              exact ⟨⟨k + 1, ys ++ [It.mk x la lc sa sc], rc, _, by omega, by simp, by rw [List.length_append, HYL.out]; rfl, PIy, DOy, by rw [List.map_append]; exact HNX.out⟩, by simp [intOf]; omega⟩
        · obtain rfl : cnt = (k : Int) := by omega
          have hnk : ((k : Int)).toNat - k = 0 := by omega
          have HE : Hid (ys.map It.x = A.1 ∧ rk = A.2) := by
            have h1 := HDC.out
            rw [hnk] at h1
            exact ⟨by have h2 := h1.1; simp [decN] at h2; exact h2, h1.2⟩
          clear HDC hnk
          obtain ⟨hye, hrk⟩ := HE.out
          subst hrk
          have HYE : Hid (ys.map It.x = A.1) := hye
          obtain ⟨va', vc', huv⟩ := HDO.out.form
          subst huv
          have hyl : ys.length = A.1.length := by rw [← hye, List.length_map]
          obtain ⟨n, hn⟩ : ∃ n, A.1.length = n := ⟨_, rfl⟩
          rw [hn] at hyl
          rw [hyl] at HDO HPI
          have HYN : Hid (ys.length = n) := hyl
          have HN : Hid (A.1.length = n) := hn
          obtain ⟨vr, vrc, hr0, -, -, -⟩ := HPI.out.ri.rd.rest
          have hr1 := HPI.out.ri.rd.short
          obtain ⟨ln, hln⟩ : ∃ l, A.2.1.length = l := ⟨_, rfl⟩
          obtain ⟨sh, hsh⟩ : ∃ l, A.2.2 = l := ⟨_, rfl⟩
          rw [hln] at hr0
          rw [hsh] at hr1
          rw [hln, hsh] at HD3
          have HLE : Hid (Below w.heap.size w wr) := HLOW.out _ _ _ _ _ _ _ HPI.out
          obtain ⟨z0, z1, z2, z3, z4⟩ := HPI.out.zx
          have fz := HPI.out.fz
          clear hye hyl hn hln hsh HE HYL
          cases sh with
          | true =>
            have hd3 := HD3.out
            rw [if_pos (Or.inl rfl)] at hd3
            cases hd3
            go_wp2_with fail
            refine bodyPost_ret (v := .tuple #[.agg #[.int .i64 0, .int .i64 0, .int .i64 0, .int .i64 0, .slice none 0 0], .int .i64 4]) (by simp [results, Try.results22, go_sem, z0, z1, z2, z3, z4]) rfl ?_
            exact HERR.out (S5 wr s0 (.int .i64 0) (.int .i64 0) (.int .i64 0) (.int .i64 0) (.slice none 0 0)) 4 ((s5_blk _ _ _ _ _ _ _).2.2 _ _ (by omega) HLE.out)
          | false =>
            by_cases hlp : 0 < ln
            · have hd3 := HD3.out
              rw [if_pos (Or.inr hlp)] at hd3
              cases hd3
              have hlp' : (0 : Int) < ln := by omega
              go_wp2_with fail
              refine bodyPost_ret (v := .tuple #[.agg #[.int .i64 0, .int .i64 0, .int .i64 0, .int .i64 0, .slice none 0 0], .int .i64 4]) (by simp [results, Try.results22, go_sem, z0, z1, z2, z3, z4]) rfl ?_
              exact HERR.out (S5 wr s0 (.int .i64 0) (.int .i64 0) (.int .i64 0) (.int .i64 0) (.slice none 0 0)) 4 ((s5_blk _ _ _ _ _ _ _).2.2 _ _ (by omega) HLE.out)
            · have HD4 : Hid ((if rangeP kind frm area seen A.1 = false then (noPk, 2) else (⟨kind, frm, area, seen, A.1⟩, 0)) = (p, er)) := by
                have h1 := HD3.out
                rw [if_neg (by simp; omega)] at h1
                exact h1
              have hlp' : ¬ (0 : Int) < ln := by omega
              obtain ⟨c0, c1, c2, c3, c4⟩ := HPI.out.bx
              obtain ⟨rg, hrg⟩ : ∃ r, rangeP kind frm area seen A.1 = r := ⟨_, rfl⟩
              rw [hrg] at HD4
              have HAL : Hid (LAll wr va' A.1) := by
                have h1 := HDO.out.all HYN.out
                rw [HYE.out] at h1
                exact h1
              have HRA := range_any kind frm area seen va' vc' A.1 n HN.out wr HAL.out rg hrg
              unfold pkV at HRA
              clear hrg HD3
              go_wp2_with fail
              refine HRA.mono ?_
              rintro e w6 ⟨rfl, hb6⟩
              have HP6 : Hid (PI M br s0 sp wB A.2 kind frm area seen (.slice va' n vc') w6) := HPI.out.bel hb6
              have HD6 : Hid (DO (sp + 1) w6 (.slice va' n vc') ys) := HDO.out.bel hb6
              have HL6 : Hid (Below w.heap.size w w6) := HLOW.out _ _ _ _ _ _ _ HP6.out
              clear hb6 HRA HPI HDO HLE z0 z1 z2 z3 z4 fz c0 c1 c2 c3 c4 hr0 hr1
              obtain ⟨z0, z1, z2, z3, z4⟩ := HP6.out.zx
              have fz := HP6.out.fz
              cases rg with
              | false =>
                have hd3 := HD4.out
                rw [if_pos rfl] at hd3
                cases hd3
                go_wp2_with fail
                refine bodyPost_ret (v := .tuple #[.agg #[.int .i64 0, .int .i64 0, .int .i64 0, .int .i64 0, .slice none 0 0], .int .i64 2]) (by simp [results, Try.results22, go_sem, z0, z1, z2, z3, z4]) rfl ?_
                exact HERR.out (S5 w6 s0 (.int .i64 0) (.int .i64 0) (.int .i64 0) (.int .i64 0) (.slice none 0 0)) 2 ((s5_blk _ _ _ _ _ _ _).2.2 _ _ (by omega) HL6.out)
              | true =>
                have hd3 := HD4.out
                rw [if_neg (by decide)] at hd3
                cases hd3
                obtain ⟨c0, c1, c2, c3, c4⟩ := HP6.out.bx
                have hspp := HP6.out.lo
                have HFIN : Hid (∀ W, (∀ g, ¬ g = s0 → W.heap[g]? = w6.heap[g]?) → Below w.heap.size w W → DecPost w ⟨kind, frm, area, seen, A.1⟩ 0 (.returned (.tuple #[.agg #[.int .i64 kind, .int .i64 frm, .int .i64 area, .int .i64 seen, .slice va' n vc'], .int .i64 0])) W) := by
                  intro W hW hB
                  refine ⟨va', vc', ys, ?_, HYE.out, ?_, hB⟩
                  · show _ = Ending.returned (.tuple #[pkV kind frm area seen va' A.1.length vc', .int .i64 0])
                    rw [HN.out]; rfl
                  · show DO w.heap.size W (.slice va' A.1.length vc') ys
                    rw [HN.out]
                    exact (HD6.out.blk (fun b hb _ => hW b (by omega))).mono (by omega)
                go_wp2_with fail
                refine bodyPost_ret (v := .tuple #[.agg #[.int .i64 kind, .int .i64 frm, .int .i64 area, .int .i64 seen, .slice va' n vc'], .int .i64 0]) (by simp [results, Try.results22, go_sem, z0, z1, z2, z3, z4]) rfl ?_
                exact HFIN.out (S5 w6 s0 (.int .i64 kind) (.int .i64 frm) (.int .i64 area) (.int .i64 seen) (.slice va' n vc')) (s5_blk _ _ _ _ _ _ _).1 ((s5_blk _ _ _ _ _ _ _).2.2 _ _ (by omega) HL6.out)
end Go.Proofs.Ytagfdmkgnedlbae.Ls
