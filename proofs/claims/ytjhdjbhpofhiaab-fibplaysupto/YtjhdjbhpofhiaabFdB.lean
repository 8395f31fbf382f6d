/- The book and the tree beside a table: what a step makes of both, and what stays. -/
import Derived.Test.YtjhdjbhpofhiaabFcE
import Derived.Test.YtjhdjbhpofhiaabBkD
namespace Go.Proofs.Ytjhdjbhpofhiaab.Fb
open Go.ChangeShapes Go.WideShapes Go.ChangeAt Go.RowKit Go.Joins Go.Proofs.Ytjhdjbhpofhiaab.PM Go.Proofs.Ytjhdjbhpofhiaab.Ask
set_option linter.unusedVariables false

/-- what a step makes of the tree -/
def stepT (t : TrM.Tr) (ad len way : Int) (dr : Bool) : TrM.Tr := if dr = true then (TrM.del t ad len).1 else setT t ad len way
theorem do_step (bt : Nat) (ms : List Int) (made : Int) (fr : List Int) (o1 o2 : Option Nat) (t : TrM.Tr) (hfit : Fit ms made fr t) (m1 : made + 2 < 4294967296) (ad len way : Int) (dr : Bool) (a0 : 0 ≤ ad) (a1 : ad < 4294967296) (t' : TrM.Tr) (ht' : stepT t ad len way dr = t') (w : World) (h : Tab (bt + 1) w bt ms made fr o1 o2) :
    Calls Try.prog 20 #[.pointer (some ⟨bt, 0, none⟩), .agg #[.int .u32 ad, .int .i64 len, .int .i64 way, .bool dr]] w fun e w' => ∃ err, DidT (bt + 1) bt o1 o2 w ms made t t' err e w' := by
  cases dr with
  | true => exact (do_drop bt ms made fr o1 o2 t hfit m1 ad len way a0 a1 t' ht' _ rfl w h).mono fun e w' hd => ⟨_, hd⟩
  | false => exact (do_set bt ms made fr o1 o2 t hfit m1 ad len way a0 a1 t' ht' _ rfl w h).mono fun e w' hd => ⟨_, hd⟩

theorem bp_none {a n : Int} : ∀ {l : List (Int × Int × Int)}, TrM.bget a n l = none → TrM.bp a n 0 true l = l
  | [], _ => rfl
  | x :: xs, h => by
    by_cases e : x.1 = a ∧ x.2.1 = n
    · rw [TrM.bget_at e] at h; cases h
    · rw [TrM.bget_ne e] at h
      rw [Bk.bp_t_ne e, bp_none h]
theorem look_vld {t : TrM.Tr} (hw : TrM.WF t) {a n : Int} (hv : vld a n = false) : TrM.look t a n = none := by
  cases h : TrM.look t a n with
  | none => rfl
  | some v =>
    have := TrM.look_out (root_all hw) h
    rw [(TrM.cov_vld this).2.1] at hv; cases hv
/-- the book keeps step with the tree -/
theorem want_tree {t : TrM.Tr} (hw : TrM.WF t) (ad len way : Int) (dr : Bool) (a0 : 0 ≤ ad) (a1 : ad < 4294967296) : Bk.wantL (TrM.allT t) ad len way dr = TrM.allT (stepT t ad len way dr) := by
  cases dr with
  | true =>
    have e1 : stepT t ad len way true = (TrM.del t ad len).1 := rfl
    rw [e1, TrM.all_del hw]
    cases hv : vld ad len with
    | false =>
      rw [bp_none (by rw [TrM.bget_allT hw]; exact look_vld hw hv)]
      simp [Bk.wantL, hv]
    | true =>
      cases hb : TrM.bget ad len (TrM.allT t) with
      | none => simp [Bk.wantL, hv, hb, bp_none hb]
      | some v => simp [Bk.wantL, hv, hb]
  | false =>
    have e1 : stepT t ad len way false = setT t ad len way := rfl
    rw [e1]
    unfold setT setErr
    cases hv : vld ad len with
    | false => simp [Bk.wantL, hv]
    | true =>
      by_cases hw1 : way < 1 ∨ 65535 < way
      · simp [Bk.wantL, hv, hw1]
      · simp only [Bk.wantL, hv, hw1, if_true, if_false, Bool.true_eq_false, Bool.false_eq_true]
        rw [TrM.all_ins hw hv a0 a1]
theorem want_len (l : List (Int × Int × Int)) (ad len way : Int) (dr : Bool) : (Bk.wantL l ad len way dr).length ≤ l.length + 1 := by
  have h1 := Bk.bp_len ad len 0 l true
  have h2 := Bk.bp_len ad len way l false
  simp at h1 h2
  unfold Bk.wantL
  split
  · split
    · split <;> omega
    · split <;> omega
  · omega

/-- blocks outside a set stay, and stay outside -/
structure Keeps (X : Nat → Prop) (W : World) (X' : Nat → Prop) (W' : World) : Prop where
  size : W.heap.size ≤ W'.heap.size
  block : ∀ b, b < W.heap.size → ¬ X b → W'.heap[b]? = W.heap[b]? ∧ ¬ X' b
/-- a book at block bb whose list avoids block q -/
structure Bok (X : Nat → Prop) (bb q : Nat) (l : List (Int × Int × Int)) (W : World) : Prop where
  ap : bb < W.heap.size ∧ ¬ X bb
  book : ∃ va cap, W.cell? ⟨bb, 0, none⟩ = some (.slice va l.length cap) ∧ W.frozen? ⟨bb, 0, none⟩ = false ∧ Bk.Arr3 W va l ∧ ∀ b o, va = some ⟨b, o, none⟩ → l ≠ [] → ¬ X b ∧ b ≠ q
theorem arr3_lt {W : World} {va : Option Addr} {l : List (Int × Int × Int)} (h : Bk.Arr3 W va l) (hl : l ≠ []) {b o : Nat} (e : va = some ⟨b, o, none⟩) : b < W.heap.size := by
  obtain ⟨b', o', e', hlt, -⟩ := h.cells 0 (List.length_pos_iff.2 hl)
  rw [e] at e'; cases e'; exact hlt
theorem arr3_blocks {W W' : World} {va : Option Addr} {l : List (Int × Int × Int)} (h : Bk.Arr3 W va l) (hs : W.heap.size ≤ W'.heap.size) (hk : ∀ b o, va = some ⟨b, o, none⟩ → l ≠ [] → b < W.heap.size → W'.heap[b]? = W.heap[b]?) : Bk.Arr3 W' va l := by
  refine ⟨h.small, fun i hi => ?_, h.u32⟩
  obtain ⟨b, o, e, hlt, h0, h1, h2⟩ := h.cells i hi
  have hb := hk b o e (fun e2 => by subst e2; simp at hi) hlt
  exact ⟨b, o, e, Nat.lt_of_lt_of_le hlt hs, (World.cell?_of_block (w := W) hb).trans h0, (World.cell?_of_block (w := W) hb).trans h1, (World.cell?_of_block (w := W) hb).trans h2⟩
theorem Bok.keep {X X' : Nat → Prop} {bb q : Nat} {l : List (Int × Int × Int)} {W W' : World} (h : Bok X bb q l W) (k : Keeps X W X' W') : Bok X' bb q l W' := by
  obtain ⟨va, cap, hc, hf, ha, hx⟩ := h.book
  have hb := k.block bb h.ap.1 h.ap.2
  refine ⟨⟨Nat.lt_of_lt_of_le h.ap.1 k.size, hb.2⟩, va, cap, (World.cell?_of_block (w := W) hb.1).trans hc, (World.frozen?_of_block (w := W) hb.1).trans hf, arr3_blocks ha k.size (fun b o e hl hlt => (k.block b hlt (hx b o e hl).1).1), fun b o e hl => ⟨(k.block b (arr3_lt ha hl e) (hx b o e hl).1).2, (hx b o e hl).2⟩⟩
theorem Bok.find {X : Nat → Prop} {bb q : Nat} {l : List (Int × Int × Int)} {W : World} (h : Bok X bb q l W) : ∃ va cap, W.cell? ⟨bb, 0, none⟩ = some (.slice va l.length cap) ∧ Bk.Arr3 W va l := by
  obtain ⟨va, cap, hc, hf, ha, hx⟩ := h.book
  exact ⟨va, cap, hc, ha⟩

/-- what may turn between two steps -/
def XB (bt : Nat) (o1 o2 ou : Option Nat) (b : Nat) : Prop := b = bt ∨ some b = o1 ∨ some b = o2 ∨ some b = ou
/-- what may turn within a step -/
def XI (ou : Option Nat) (bm : Nat) (b : Nat) : Prop := some b = ou ∨ b = bm
/-- what may turn within a step or in the next -/
def XJ (bt : Nat) (o1 o2 ou : Option Nat) (bm : Nat) (b : Nat) : Prop := b = bt ∨ some b = o1 ∨ some b = o2 ∨ some b = ou ∨ b = bm
/-- what the addresses, the writes and the table lean on -/
structure Stat (ou : Option Nat) (bm bt bb bc : Nat) (o1 o2 : Option Nat) (ms' : List Int) (made' : Int) (fr' : List Int) (aa : Option Addr) (xs : List Int) (l l' : List (Int × Int × Int)) (wa : Option Addr) (ws : List (Nat × Int)) (W : World) : Prop where
  tab : Tab (bt + 1) W bt ms' made' fr' o1 o2
  tx : ¬ XI ou bm bt ∧ (∀ g, o1 = some g → ¬ XI ou bm g) ∧ (∀ g, o2 = some g → ¬ XI ou bm g)
  adr : ∀ i (h : i < xs.length), ∃ b o, aa = some ⟨b, o, none⟩ ∧ (b < W.heap.size ∧ ¬ XJ bt o1 o2 ou bm b ∧ b ≠ bb) ∧ W.cell? ⟨b, o + i, none⟩ = some (.int .u32 xs[i])
  u32 : ∀ d ∈ xs, In32 d
  bk : Bok (XJ bt o1 o2 ou bm) bb bb l W
  bkc : Bok (XJ bt o1 o2 ou bm) bc bb l' W
  wr : ∀ i (h : i < ws.length), ∃ b p, wa = some ⟨b, p, none⟩ ∧ (b < W.heap.size ∧ ¬ XI ou bm b) ∧ W.cell? ⟨b, p + i * 2, none⟩ = some (.int .i64 (ws[i].1 : Int)) ∧ W.cell? ⟨b, p + i * 2 + 1, none⟩ = some (.int .u32 ws[i].2)
  w32 : ∀ y ∈ ws, In32 y.2
section
variable {X X' : Nat → Prop} {bt bb bc bm N B : Nat} {o1 o2 o1' o2' ou ou' : Option Nat} {ms ms' fr fr' xs : List Int} {made made' : Int} {aa wa : Option Addr} {l l' : List (Int × Int × Int)} {ws : List (Nat × Int)} {w W W' : World} {u u' : Value}
theorem Keeps.xj (k : Keeps (XI ou bm) W (XI ou' bm) W') : Keeps (XJ bt o1 o2 ou bm) W (XJ bt o1 o2 ou' bm) W' := ⟨k.size, fun b hlt hx => by
  unfold XJ at hx ⊢
  obtain ⟨h1, h2⟩ := k.block b hlt (fun e => by
    unfold XI at e
    rcases e with e | e
    · exact hx (.inr (.inr (.inr (.inl e))))
    · exact hx (.inr (.inr (.inr (.inr e)))))
  refine ⟨h1, ?_⟩
  rintro (e | e | e | e | e)
  · exact hx (.inl e)
  · exact hx (.inr (.inl e))
  · exact hx (.inr (.inr (.inl e)))
  · exact h2 (.inl e)
  · exact h2 (.inr e)⟩
theorem Stat.keep (h : Stat ou bm bt bb bc o1 o2 ms' made' fr' aa xs l l' wa ws W) (k : Keeps (XI ou bm) W (XI ou' bm) W') (hs : Below 0 W W') : Stat ou' bm bt bb bc o1 o2 ms' made' fr' aa xs l l' wa ws W' := by
  obtain ⟨x0, x1, x2⟩ := h.tx
  have hbt : bt < W.heap.size := Nat.lt_of_lt_of_le h.tab.lt h.tab.le
  refine ⟨h.tab.else hs (fun b hb hc => (k.block b hb ?_).1), ⟨(k.block bt hbt x0).2, fun g e => (k.block g (h.tab.in1 g e).2 (x1 g e)).2, fun g e => (k.block g (h.tab.in2 g e).2 (x2 g e)).2⟩, fun i hi => ?_, h.u32, h.bk.keep k.xj, h.bkc.keep k.xj, fun i hi => ?_, h.w32⟩
  · rcases hc with rfl | e | e
    · exact x0
    · exact x1 b e.symm
    · exact x2 b e.symm
  · obtain ⟨b, o, e, ⟨hlt, hx, hne⟩, hc⟩ := h.adr i hi
    have hb := (k.xj (bt := bt) (o1 := o1) (o2 := o2)).block b hlt hx
    exact ⟨b, o, e, ⟨Nat.lt_of_lt_of_le hlt k.size, hb.2, hne⟩, (World.cell?_of_block (w := W) hb.1).trans hc⟩
  · obtain ⟨b, o, e, ⟨hlt, hx⟩, h0, h1⟩ := h.wr i hi
    have hb := k.block b hlt hx
    exact ⟨b, o, e, ⟨Nat.lt_of_lt_of_le hlt k.size, hb.2⟩, (World.cell?_of_block (w := W) hb.1).trans h0, (World.cell?_of_block (w := W) hb.1).trans h1⟩
theorem keeps_bel (hb : Below W.heap.size W W') : Keeps X W X W' := ⟨hb.size, fun b hlt hx => ⟨hb.block b hlt, hx⟩⟩
theorem keeps_kt (k : KT bt W o1 o2 W' o1' o2') : Keeps (XB bt o1 o2 ou) W (XB bt o1' o2' ou) W' := ⟨k.size, fun b hlt hx => by
  unfold XB at hx ⊢
  refine ⟨k.block b hlt (fun e => hx (.inl e)) (fun e => hx (.inr (.inl e))) (fun e => hx (.inr (.inr (.inl e)))), ?_⟩
  rintro (e | e | e | e)
  · exact hx (.inl e)
  · exact k.ne1 hlt (fun e => hx (.inr (.inl e))) e
  · exact k.ne2 hlt (fun e => hx (.inr (.inr (.inl e)))) e
  · exact hx (.inr (.inr (.inr e)))⟩
theorem keeps_ko (k : KO W ou W' ou') : Keeps (XI ou bm) W (XI ou' bm) W' := ⟨k.size, fun b hlt hx => by
  unfold XI at hx ⊢
  refine ⟨k.block b hlt (fun e => hx (.inl e)), ?_⟩
  rintro (e | e)
  · exact k.ne hlt (fun e => hx (.inl e)) e
  · exact hx (.inr e)⟩
theorem keeps_set (i : Nat) (v : Value) : Keeps (XI ou bm) W (XI ou bm) (W.setCell ⟨bm, i, none⟩ v) := ⟨by simp, fun b hlt hx => ⟨Below.heap_setCell W _ v b (fun e => hx (.inr e)), hx⟩⟩

/-- the marks -/
structure Mv (bm : Nat) (bs : List Bool) (W : World) : Prop where
  cells : ∀ i (h : i < bs.length), W.cell? ⟨bm, i, none⟩ = some (.bool bs[i]) ∧ W.frozen? ⟨bm, i, none⟩ = false
theorem Mv.block {bs : List Bool} (h : Mv bm bs W) (hb : W'.heap[bm]? = W.heap[bm]?) : Mv bm bs W' :=
  ⟨fun i hi => ⟨(World.cell?_of_block (w := W) hb).trans (h.cells i hi).1, (World.frozen?_of_block (w := W) hb).trans (h.cells i hi).2⟩⟩
theorem Mv.set {bs : List Bool} (h : Mv bm bs W) (q : Nat) (v : Bool) (hq : q < bs.length) : Mv bm (bs.set q v) (W.setCell ⟨bm, q, none⟩ (.bool v)) := by
  refine ⟨fun i hi => ⟨?_, by rw [World.frozen?_setCell]; exact (h.cells i (by simpa using hi)).2⟩⟩
  have hi' : i < bs.length := by simpa using hi
  by_cases e : q = i
  · subst e
    rw [World.cell?_setCell_same' _ _ _ (by rw [(h.cells q hq).1]; rfl)]
    simp
  · rw [List.getElem_set_ne e]
    rw [← (h.cells i hi').1]
    simp [go_sem]

/-- within a step, behind j writes -/
structure JQ (w : World) (bt bb bc bm N B : Nat) (aa : Option Addr) (xs : List Int) (o1 o2 : Option Nat) (ms' : List Int) (made' : Int) (fr' : List Int) (l l' : List (Int × Int × Int)) (wa : Option Addr) (ws : List (Nat × Int)) (ms : List Int) (j : Nat) (bs : List Bool) (u : Value) (W : World) : Prop where
  bel : Below w.heap.size w W
  st : Stat u.ownBlock bm bt bb bc o1 o2 ms' made' fr' aa xs l l' wa ws W
  own : OwnU N W u (putsP ms (ws.take j))
  len : (putsP ms (ws.take j)).length ≤ B
  mv : Mv bm bs W
  nb : u.ownBlock ≠ some bm
  lt : w.heap.size ≤ N ∧ N ≤ bm ∧ bm < W.heap.size
theorem JQ.next_bel {j : Nat} {bs : List Bool} (h : JQ w bt bb bc bm N B aa xs o1 o2 ms' made' fr' l l' wa ws ms j bs u W) (hb : Below W.heap.size W W') : JQ w bt bb bc bm N B aa xs o1 o2 ms' made' fr' l l' wa ws ms j bs u W' :=
  ⟨h.bel.trans (hb.mono h.bel.size), h.st.keep (keeps_bel hb) (hb.mono (Nat.zero_le _)), h.own.bel hb, h.len, h.mv.block (hb.block bm h.lt.2.2), h.nb, ⟨h.lt.1, h.lt.2.1, Nat.lt_of_lt_of_le h.lt.2.2 hb.size⟩⟩
theorem JQ.next_put {j : Nat} {bs : List Bool} (h : JQ w bt bb bc bm N B aa xs o1 o2 ms' made' fr' l l' wa ws ms j bs u W) (hk : j < ws.length) (hB : ws[j].1 + 1 ≤ B) (ho : OwnU N W' u' (putP (putsP ms (ws.take j)) ws[j].1 ws[j].2)) (kp : KO W u.ownBlock W' u'.ownBlock) : JQ w bt bb bc bm N B aa xs o1 o2 ms' made' fr' l l' wa ws ms (j + 1) bs u' W' := by
  have hlen : (putP (putsP ms (ws.take j)) ws[j].1 ws[j].2).length ≤ B := by rw [putP_len]; have := h.len; omega
  rw [← putsP_snoc hk] at ho hlen
  obtain ⟨l1, l2, l3⟩ := h.lt
  refine ⟨⟨kp.str.os.trans h.bel.os, kp.str.tape.trans h.bel.tape, kp.str.output.trans h.bel.output, Nat.le_trans h.bel.size kp.size, fun b hb => ?_⟩, h.st.keep (keeps_ko kp) kp.str, ho, hlen, h.mv.block (kp.block bm l3 (fun e => h.nb e.symm)), fun e => kp.ne l3 (fun e => h.nb e.symm) e.symm, ⟨l1, l2, Nat.lt_of_lt_of_le l3 kp.size⟩⟩
  exact (kp.block b (by omega) (fun e => by have := (h.own.row.lt b e.symm).1; omega)).trans (h.bel.block b hb)
theorem JQ.next_mv {j : Nat} {bs : List Bool} (h : JQ w bt bb bc bm N B aa xs o1 o2 ms' made' fr' l l' wa ws ms j bs u W) (q : Nat) (v : Bool) (hq : q < bs.length) : JQ w bt bb bc bm N B aa xs o1 o2 ms' made' fr' l l' wa ws ms j (bs.set q v) u (W.setCell ⟨bm, q, none⟩ (.bool v)) := by
  obtain ⟨l1, l2, l3⟩ := h.lt
  have hb0 : Below 0 W (W.setCell ⟨bm, q, none⟩ (.bool v)) := (Below.refl 0 W).setCell (p := ⟨bm, q, none⟩) (Nat.zero_le _) _
  refine ⟨h.bel.setCell (p := ⟨bm, q, none⟩) (by show _ ≤ bm; omega) _, h.st.keep (keeps_set q _) hb0, ⟨row_kept h.own.row (fun g e => Below.heap_setCell W _ _ g (fun e2 => ?_)), h.own.u32⟩, h.len, h.mv.set q v hq, h.nb, ⟨l1, l2, by simpa using l3⟩⟩
  exact h.nb (by rw [e]; exact congrArg some e2)

/-- between two steps -/
structure LQ0 (w : World) (bt bb N : Nat) (aa : Option Addr) (xs ms : List Int) (made : Int) (fr : List Int) (o1 o2 : Option Nat) (t : TrM.Tr) (k : Nat) (u : Value) (W : World) : Prop where
  bel : Below w.heap.size w W
  tab : Tab (bt + 1) W bt ms made fr o1 o2
  fit : Fit ms made fr t
  own : OwnU N W u ms
  nu : ∀ g, u.ownBlock = some g → g ≠ bt ∧ some g ≠ o1 ∧ some g ≠ o2
  adr : ∀ i (h : i < xs.length), ∃ b o, aa = some ⟨b, o, none⟩ ∧ (b < W.heap.size ∧ ¬ XB bt o1 o2 u.ownBlock b ∧ b ≠ bb) ∧ W.cell? ⟨b, o + i, none⟩ = some (.int .u32 xs[i])
  u32 : ∀ d ∈ xs, In32 d
  bk : Bok (XB bt o1 o2 u.ownBlock) bb bb (TrM.allT t) W
  made : made ≤ 2 * k
  few : (TrM.allT t).length ≤ k
  lt : w.heap.size ≤ bt ∧ bt < N ∧ N ≤ W.heap.size
def LQ (w : World) (bt bb N : Nat) (aa : Option Addr) (xs : List Int) (k : Nat) (u : Value) (W : World) : Prop := ∃ ms made fr o1 o2 t, LQ0 w bt bb N aa xs ms made fr o1 o2 t k u W
theorem LQ0.next_bel {t : TrM.Tr} {k : Nat} (h : LQ0 w bt bb N aa xs ms made fr o1 o2 t k u W) (hb : Below W.heap.size W W') : LQ0 w bt bb N aa xs ms made fr o1 o2 t k u W' :=
  ⟨h.bel.trans (hb.mono h.bel.size), h.tab.bel hb, h.fit, h.own.bel hb, h.nu, fun i hi => by
    obtain ⟨b, o, e, ⟨hlt, hx⟩, hc⟩ := h.adr i hi
    exact ⟨b, o, e, ⟨Nat.lt_of_lt_of_le hlt hb.size, hx⟩, cell_bel hc hb⟩, h.u32, h.bk.keep (keeps_bel hb), h.made, h.few, ⟨h.lt.1, h.lt.2.1, Nat.le_trans h.lt.2.2 hb.size⟩⟩

theorem JQ.start {wC wM w3 : World} {t : TrM.Tr} {k n vc : Nat} {bs : List Bool} (h : LQ0 w bt bb N aa xs ms made fr o1 o2 t k u wC) (hc : Bok (XB bt o1 o2 u.ownBlock) bc bb l' wC) (hb : Below wC.heap.size wC wM) (hbm : wC.heap.size = bm) (hM : bm < wM.heap.size) (hmv : Mv bm bs wM)
    (ht : Tab (bt + 1) w3 bt (putsP ms ws) made' fr' o1' o2') (hk : KT bt wM o1 o2 w3 o1' o2') (ho : Own wM.heap.size w3 bt o1' o2' (.slice wa n vc) ws) (hf : ws.length ≤ 9) (hB : ms.length ≤ B) :
    JQ w bt bb bc bm N B aa xs o1' o2' (putsP ms ws) made' fr' (TrM.allT t) l' wa ws ms 0 bs u w3 := by
  subst hbm
  obtain ⟨l1, l2, l3⟩ := h.lt
  have hou : ∀ g, u.ownBlock = some g → N ≤ g ∧ g < wC.heap.size := fun g e => h.own.row.lt g e
  have K : Keeps (XB bt o1 o2 u.ownBlock) wC (XJ bt o1' o2' u.ownBlock wC.heap.size) w3 := ⟨Nat.le_trans hb.size hk.size, fun b hlt hx => by
    obtain ⟨q1, q2⟩ := (keeps_kt (ou := u.ownBlock) hk).block b (Nat.lt_of_lt_of_le hlt hb.size) hx
    refine ⟨q1.trans (hb.block b hlt), ?_⟩
    unfold XJ
    rintro (e | e | e | e | e)
    · exact q2 (.inl e)
    · exact q2 (.inr (.inl e))
    · exact q2 (.inr (.inr (.inl e)))
    · exact q2 (.inr (.inr (.inr e)))
    · omega⟩
  have hs : w.heap.size ≤ wC.heap.size := h.bel.size
  have hbt : bt < wC.heap.size := by omega
  have htM := h.tab.bel hb
  have nx : ∀ g, (g < wC.heap.size ∨ wM.heap.size ≤ g) → u.ownBlock ≠ some g → ¬ XI u.ownBlock wC.heap.size g := fun g hg hn => by
    rintro (e | e)
    · exact hn e.symm
    · rcases hg with h | h <;> omega
  have hn1 : ∀ g, o1' = some g → ¬ XI u.ownBlock wC.heap.size g := fun g e => by
    rcases hk.n1 with e2 | ⟨g2, e2, hg2⟩
    · have e3 : o1 = some g := by rw [← e2, e]
      exact nx g (.inl (h.tab.in1 g e3).2) (fun e4 => (h.nu g e4).2.1 e3.symm)
    · rw [e2] at e; cases e
      exact nx g (.inr hg2) (fun e4 => by have := (hou g e4).2; omega)
  have hn2 : ∀ g, o2' = some g → ¬ XI u.ownBlock wC.heap.size g := fun g e => by
    rcases hk.n2 with e2 | ⟨g2, e2, hg2⟩
    · have e3 : o2 = some g := by rw [← e2, e]
      exact nx g (.inl (h.tab.in2 g e3).2) (fun e4 => (h.nu g e4).2.2 e3.symm)
    · rw [e2] at e; cases e
      exact nx g (.inr hg2) (fun e4 => by have := (hou g e4).2; omega)
  refine ⟨?_, ⟨ht, ⟨nx bt (.inl hbt) (fun e => (h.nu bt e).1 rfl), hn1, hn2⟩, fun i hi => ?_, h.u32, h.bk.keep K, hc.keep K, fun i hi => ?_, ho.u32⟩, ⟨row_kept h.own.row (fun g e => ?_), h.own.u32⟩, hB, hmv.block ?_, fun e => by have := (hou _ e).2; omega, ⟨by omega, l3, Nat.lt_of_lt_of_le hM hk.size⟩⟩
  · exact (h.bel.trans (hb.mono hs)).trans (hk.below (Nat.le_trans hs hb.size) l1 (fun g e => by have := (htM.in1 g e).1; omega) (fun g e => by have := (htM.in2 g e).1; omega))
  · obtain ⟨b, o, e, ⟨hlt, hx, hne⟩, hcell⟩ := h.adr i hi
    have q := K.block b hlt hx
    exact ⟨b, o, e, ⟨Nat.lt_of_lt_of_le hlt K.size, q.2, hne⟩, (World.cell?_of_block (w := wC) q.1).trans hcell⟩
  · obtain ⟨b, p, e, hlt, -, -, h1, h2⟩ := (ho.wrs (by omega)).cells i hi
    subst e
    have hg : wM.heap.size ≤ b := (ho.row.lt b (by simp [Value.ownBlock])).1
    exact ⟨b, p, rfl, ⟨hlt, nx b (.inr hg) (fun e2 => by have := (hou b e2).2; omega)⟩, h1, h2⟩
  · have := hou g e
    have hnu := h.nu g e
    exact (hk.block g (by have := hb.size; omega) hnu.1 hnu.2.1 hnu.2.2).trans (hb.block g this.2)
  · exact hk.block _ hM (by omega) (fun e => by have := (h.tab.in1 _ e.symm).2; omega) (fun e => by have := (h.tab.in2 _ e.symm).2; omega)

theorem JQ.done {t' : TrM.Tr} {k n : Nat} {bs : List Bool} (h : JQ w bt bb bc bm N B aa xs o1 o2 (putsP ms ws) made' fr' l (TrM.allT t') wa ws ms n bs u W) (hn : ws.length = n) (fit : Fit (putsP ms ws) made' fr' t') (hmade : made' ≤ 2 * (k + 1 : Nat)) (hfew : (TrM.allT t').length ≤ k + 1) (hlt : w.heap.size ≤ bt ∧ bt < N) (hwbb : w.heap.size ≤ bb)
    {va : Option Addr} {cap : Nat} (ha : Bk.Arr3 W va (TrM.allT t')) (hx : ∀ b o, va = some ⟨b, o, none⟩ → TrM.allT t' ≠ [] → ¬ XJ bt o1 o2 u.ownBlock bm b ∧ b ≠ bb) :
    LQ0 w bt bb N aa xs (putsP ms ws) made' fr' o1 o2 t' (k + 1) u (W.setCell ⟨bb, 0, none⟩ (.slice va (TrM.allT t').length cap)) := by
  obtain ⟨l1, l2, l3⟩ := h.lt
  obtain ⟨hbb, hbx⟩ := h.st.bk.ap
  obtain ⟨x0, x1, x2⟩ := h.st.tx
  have hown := h.own
  rw [List.take_of_length_le (by omega)] at hown
  have hbt : bt < W.heap.size := Nat.lt_of_lt_of_le h.st.tab.lt h.st.tab.le
  have nb : ∀ b, b ≠ bb → (W.setCell ⟨bb, 0, none⟩ (.slice va (TrM.allT t').length cap)).heap[b]? = W.heap[b]? := fun b hne => Below.heap_setCell W _ _ b hne
  have xb : ∀ b, ¬ XJ bt o1 o2 u.ownBlock bm b → ¬ XB bt o1 o2 u.ownBlock b := fun b hx => by
    unfold XJ at hx
    rintro (e | e | e | e)
    · exact hx (.inl e)
    · exact hx (.inr (.inl e))
    · exact hx (.inr (.inr (.inl e)))
    · exact hx (.inr (.inr (.inr (.inl e))))
  refine ⟨h.bel.setCell (p := ⟨bb, 0, none⟩) hwbb _, h.st.tab.else ((Below.refl 0 W).setCell (p := ⟨bb, 0, none⟩) (Nat.zero_le _) _) (fun b hb hc => nb b (fun e => ?_)), fit, ⟨row_kept hown.row (fun g e => nb g (fun e2 => ?_)), hown.u32⟩, fun g e => ⟨fun e2 => ?_, fun e2 => ?_, fun e2 => ?_⟩, fun i hi => ?_, h.st.u32, ⟨⟨by simpa using hbb, xb bb hbx⟩, va, cap, ?_, ?_, arr3_blocks ha (by simp) (fun b o e hl _ => nb b (hx b o e hl).2), fun b o e hl => ⟨xb b (hx b o e hl).1, (hx b o e hl).2⟩⟩, hmade, hfew, ⟨hlt.1, hlt.2, by simp; omega⟩⟩
  · subst e
    rcases hc with e | e | e
    · exact hbx (.inl e)
    · exact hbx (.inr (.inl e))
    · exact hbx (.inr (.inr (.inl e)))
  · subst e2; exact hbx (.inr (.inr (.inr (.inl e.symm))))
  · subst e2; exact x0 (.inl e.symm)
  · exact x1 g e2.symm (.inl e.symm)
  · exact x2 g e2.symm (.inl e.symm)
  · obtain ⟨b, o, e, ⟨hlt, hx', hne⟩, hc⟩ := h.st.adr i hi
    exact ⟨b, o, e, ⟨by simpa using hlt, xb b hx', hne⟩, (World.cell?_of_block (w := W) (nb b hne)).trans hc⟩
  · obtain ⟨va0, cap0, hc0, hf0, -, -⟩ := h.st.bk.book
    exact World.cell?_setCell_same' _ _ _ (by rw [hc0]; rfl)
  · obtain ⟨va0, cap0, hc0, hf0, -, -⟩ := h.st.bk.book
    rw [World.frozen?_setCell]; exact hf0
end
/-- from q on all marks are off -/
def Fl (q : Nat) (bs : List Bool) : Prop := ∀ i, q ≤ i → bs.getD i false = false
theorem Fl.set {q : Nat} {bs : List Bool} (h : Fl q bs) (v : Bool) : Fl (q + 1) (bs.set q v) := fun i hi => by
  have := h i (by omega)
  rw [List.getD_eq_getElem?_getD] at this ⊢
  rw [List.getElem?_set_ne (by omega)]; exact this
theorem Fl.set0 {q : Nat} {bs : List Bool} (h : Fl 0 bs) : Fl 0 (bs.set q false) := fun i hi => by
  have := h i (by omega)
  rw [List.getD_eq_getElem?_getD] at this ⊢
  by_cases e : q = i
  · subst e
    by_cases hq : q < bs.length
    · rw [List.getElem?_set_self (by simpa using hq)]; rfl
    · rw [List.getElem?_eq_none (by simp; omega)]; rfl
  · rw [List.getElem?_set_ne e]; exact this
theorem Fl.at_ {q : Nat} {bs : List Bool} (h : Fl q bs) (hq : q < bs.length) : bs[q] = false := by
  have := h q (Nat.le_refl _)
  rw [List.getD_eq_getElem?_getD, List.getElem?_eq_getElem hq] at this
  exact this
theorem Fl.made (n : Nat) : Fl 0 (List.replicate n false) := fun i hi => by
  rw [List.getD_eq_getElem?_getD]
  by_cases h : i < n
  · rw [List.getElem?_eq_getElem (by simpa using h)]; simp
  · rw [List.getElem?_eq_none (by simp; omega)]; rfl
theorem Fl.mono {q q' : Nat} {bs : List Bool} (h : Fl q bs) (hq : q ≤ q') : Fl q' bs := fun i hi => h i (by omega)
/-- what a list of marks is when it is made -/
theorem made_false (n : Nat) : (madeCells #[Value.bool false] n).toList = List.replicate n (Value.bool false) := by
  apply List.ext_getElem
  · simp [madeCells]
  · intro i h1 h2
    have e : i % 1 = 0 := by omega
    simp [madeCells, e]
theorem Mv.made {base bm n : Nat} {W : World} (h : W.ownsRow base 4 1 (.slice (some ⟨bm, 0, none⟩) n n) n (madeCells #[Value.bool false] (n * 1)).toList) : Mv bm (List.replicate n false) W := by
  rw [made_false] at h
  refine ⟨fun i hi => ⟨?_, h.frozenAt i⟩⟩
  have hi' : i < n := by simpa using hi
  have := h.cellAt i (by omega)
  rw [this, List.getElem?_eq_getElem (by simpa using hi')]
  simp
/-- where an address leads behind j writes -/
theorem leads {ms : List Int} {made : Int} {t t' : TrM.Tr} {ws : List (Nat × Int)} {made' : Int} {fr' fr : List Int} (hf : Fit ms made fr t) (h : Step ms made t t' ws made' fr') (j : Nat) (hj : j ≤ ws.length) (x : Int) (x0 : 0 ≤ x) (x1 : x < 4294967296) :
    (j < ws.length ∧ findP (putsP ms (ws.take j)) x = TrM.mV (TrM.bm x none (TrM.allT t))) ∨ (j = ws.length ∧ findP (putsP ms (ws.take j)) x = TrM.mV (TrM.bm x none (TrM.allT t'))) := by
  rcases Nat.lt_or_ge j ws.length with hlt | hge
  · left
    rw [TrM.bm_allT hf.wf]
    exact ⟨hlt, findP_rp (h.ahead j hlt) hf.wf x x0 x1⟩
  · right
    have e : j = ws.length := by omega
    rw [TrM.bm_allT h.fit.wf, List.take_of_length_le hge]
    exact ⟨e, findP_rp h.fit.rp h.fit.wf x x0 x1⟩
end Go.Proofs.Ytjhdjbhpofhiaab.Fb
