/- Two ends that talk: what one has sent is under way, what it told is kept. Two ends that talk: what is known of what a call answers; one end has turned. -/
import Derived.Test.YtanboekdfdafmaaMgK
namespace Go.Proofs.Ytanboekdfdafmaa.Pv
open Go.ChangeShapes Go.WideShapes Go.ChangeAt Go.RowKit Go.Joins Go.Deep Go.Proofs.Ytanboekdfdafmaa.PM Go.Proofs.Ytanboekdfdafmaa.Ask Go.Proofs.Ytanboekdfdafmaa.Ge
set_option linter.unusedVariables false
set_option linter.unusedSimpArgs false

/-- a struct that lies somewhere is loaded -/
theorem sat_run {o : Oper} {ρ : Operand → Value} {W : World} (T : Sk) (x : Operand) (ho : o.op = .load T.t x) {b k : Nat} {cs : List Value} (hx : ρ x = .pointer (some ⟨b, k, none⟩)) (h : ∀ j, j < T.k → W.cell? ⟨b, k + j, none⟩ = cs[j]?) (hl : cs.length = T.k) : (execOp ρ o).run Try.prog W = .ok (.value (.agg cs.toArray)) W := by
  unfold execOp
  have hr : W.rangeAt b k cs := fun j v hv => by
    have hj : j < T.k := by rw [← hl]; exact (List.getElem?_eq_some_iff.1 hv).1
    rw [h j hj]; exact hv
  simp only [ho, hx, Instr.loadAt, Instr.sureAddr, Sem.run_bind, Sem.run_pure, Result.andThen_ok, run_loadVar_mid W b k T.t cs T.d hr T.hu T.hd (by rw [T.hi, hl])]
theorem list_sat {ops : Array Oper} {rest : List Oper} {o : Oper} {ac : Act} {Q : Exit → Act → World → Prop} {W : World} (T : Sk) (hgd : o.guard = none) (x : Operand) (ho : o.op = .load T.t x) {b k : Nat} {cs : List Value} (hx : ac.eval x = .pointer (some ⟨b, k, none⟩)) (h : ∀ j, j < T.k → W.cell? ⟨b, k + j, none⟩ = cs[j]?) (hl : cs.length = T.k)
    (kk : wpList Try.prog ops Q rest (ac.put o.dst (.agg cs.toArray)) W) : wpList Try.prog ops Q (o :: rest) ac W := by
  refine wpList_plain hgd fun K hK => ?_
  unfold Oper.wp
  rw [sat_run T x ho hx h hl]
  exact hK _ _ kk
theorem enew_run {o : Oper} {ρ : Operand → Value} {W : World} (ho : o.op = .alloc 70) : (execOp ρ o).run Try.prog W = .ok (.value (.pointer (some ⟨W.heap.size, 0, none⟩))) (W.alloc (Obj.cells (evL ⟨0, 0, 0, 0, ms0⟩ sZ).toArray 70)) := by
  unfold execOp
  rw [ho]
  simp [go_sem, evL, msL, ms0, rtZ, sZ]
theorem list_enew {ops : Array Oper} {rest : List Oper} {o : Oper} {ac : Act} {Q : Exit → Act → World → Prop} {W : World} (hgd : o.guard = none) (ho : o.op = .alloc 70)
    (k : ∀ b W', Hid (W.heap.size = b) → Hid (SB EvK b (evL ⟨0, 0, 0, 0, ms0⟩ sZ) W') → Hid (Below W.heap.size W W') → wpList Try.prog ops Q rest (ac.put o.dst (.pointer (some ⟨b, 0, none⟩))) W') : wpList Try.prog ops Q (o :: rest) ac W := by
  refine wpList_plain hgd fun K hK => ?_
  unfold Oper.wp
  rw [enew_run ho]
  exact hK _ _ (k _ _ rfl (World.alloc_heap_new W _) ((Below.refl _ W).alloc (Nat.le_refl _) _))
theorem lst21 {w : World} {a : Option Addr} {l : List (Ev × Sl)} (h : Gm.Lst E21 w a l) (i : Nat) (hi : i < l.length) : ∃ b o, a = some ⟨b, o, none⟩ ∧ b < w.heap.size ∧ ∀ j, j < 21 → w.cell? ⟨b, o + i * 21 + j, none⟩ = (evL l[i].1 l[i].2)[j]? := h.cells i hi
/-- so many events are written down -/
structure OL (N : Nat) (w8 : World) (bt who : Nat) (c8 : Cp) (va : Option Addr) (l : List (Ev × Sl)) (t' : Tl) (wr : World) (j : Nat) (t : Tl) (c : Cp) : Prop where
  ti : TI N wr bt t c
  lst : Gm.Lst E21 wr va l
  each : ∀ i (h : i < l.length), j ≤ i → MO N wr l[i].1.m l[i].2
  blk : ∀ g, g < w8.heap.size → ¬ c8.A bt g → (∀ p ∈ l.take j, ¬ Mown p.2 g) → wr.heap[g]? = w8.heap[g]?
  now : ∀ g, c.A bt g → c8.A bt g ∨ w8.heap.size ≤ g ∨ ∃ p ∈ l.take j, Mown p.2 g
  str : Below 0 w8 wr
  pl : ((l.drop j).map (fun p => p.1)).foldl (evP who) t = t'
  jl : j ≤ l.length
  u : 0 ≤ t.u who ∧ t.u who ≤ 1000000000 + j
  o : (t.o who).length ≤ 1000000000 + j
  sb : c.b = c8.b ∧ c.h = c8.h
/-- what is known of the events -/
structure El2 (w8 : World) (bt : Nat) (c8 : Cp) (va : Option Addr) (l : List (Ev × Sl)) : Prop where
  pw : l.Pairwise (fun p q => ∀ g, Mown p.2 g → ¬ Mown q.2 g)
  fr : ∀ p ∈ l, ∀ g, Mown p.2 g → ¬ c8.A bt g ∧ g < w8.heap.size
  ls : ∀ g, ob va = some g → ¬ c8.A bt g ∧ g < w8.heap.size ∧ ∀ p ∈ l, ¬ Mown p.2 g
theorem OL.free {N : Nat} {w8 wr : World} {bt who : Nat} {c8 c : Cp} {va : Option Addr} {l : List (Ev × Sl)} {t t' : Tl} {j : Nat} (h : OL N w8 bt who c8 va l t' wr j t c) (g : Nat) (h1 : ¬ c8.A bt g) (h2 : g < w8.heap.size) (h3 : ∀ p ∈ l.take j, ¬ Mown p.2 g) : ¬ c.A bt g := fun hf => by
  rcases h.now g hf with e | e | ⟨p, hp, hm⟩
  · exact h1 e
  · omega
  · exact h3 p hp hm
theorem El2.take {w8 : World} {bt : Nat} {c8 : Cp} {va : Option Addr} {l : List (Ev × Sl)} {i j : Nat} (h : El2 w8 bt c8 va l) (hi : i < l.length) (hij : j ≤ i) (g : Nat) (hg : Mown l[i].2 g) : ∀ p ∈ l.take j, ¬ Mown p.2 g := fun p hp hm => by
  obtain ⟨k, hk, rfl⟩ := List.mem_iff_getElem.1 hp
  rw [List.length_take] at hk
  rw [List.getElem_take] at hm
  exact (List.pairwise_iff_getElem.1 h.pw k i (by omega) hi (by omega)) g hm hg
theorem evP_most {who : Nat} {t : Tl} {e : Ev} {j : Nat} (hu : 0 ≤ t.u who ∧ t.u who ≤ 1000000000 + j) (ho : (t.o who).length ≤ 1000000000 + j) : (0 ≤ (evP who t e).u who ∧ (evP who t e).u who ≤ 1000000000 + (j + 1 : Nat)) ∧ ((evP who t e).o who).length ≤ 1000000000 + (j + 1) := by
  unfold evP
  split
  · show (0 ≤ upd t.u who _ who ∧ upd t.u who _ who ≤ _) ∧ _
    rw [upd_at]
    exact ⟨by omega, by show (t.o who).length ≤ _; omega⟩
  · split
    · refine ⟨by show 0 ≤ t.u who ∧ t.u who ≤ _; omega, ?_⟩
      show (upd t.o who _ who).length ≤ _
      rw [upd_at, List.length_append]
      show _ + 1 ≤ _
      omega
    · exact ⟨by omega, by omega⟩
theorem OL.step {N : Nat} {w8 wr w' : World} {bt who : Nat} {c8 c c' : Cp} {va : Option Addr} {l : List (Ev × Sl)} {t t' : Tl} {j : Nat} (h : OL N w8 bt who c8 va l t' wr j t c) (el : El2 w8 bt c8 va l) (hj : j < l.length) (ht : TI N w' bt (evP who t l[j].1) c') (hs : Below 0 wr w') (hb : ∀ g, g < wr.heap.size → ¬ c.A bt g → w'.heap[g]? = wr.heap[g]?) (hn : ∀ g, c'.A bt g → c.A bt g ∨ wr.heap.size ≤ g ∨ Mown l[j].2 g) (hsb : c'.b = c.b ∧ c'.h = c.h) : OL N w8 bt who c8 va l t' w' (j + 1) (evP who t l[j].1) c' := by
  have z2 := h.str.size
  have ht2 : ∀ p, p ∈ l.take (j + 1) ↔ p ∈ l.take j ∨ p = l[j] := fun p => by rw [List.take_add_one, List.getElem?_eq_getElem hj, List.mem_append]; simp only [Option.toList_some, List.mem_singleton]
  have hm := evP_most (e := l[j].1) h.u h.o
  refine ⟨ht, h.lst.keep hs.size (fun g o2 e hl => hb g hl ?_), fun i hi hij => (h.each i hi (by omega)).blk (fun g hm2 _ hl => hb g hl ?_), fun g h1 h2 h3 => ?_, fun g hg => ?_, h.str.trans hs, ?_, by omega, hm.1, hm.2, ⟨hsb.1.trans h.sb.1, hsb.2.trans h.sb.2⟩⟩
  · obtain ⟨k1, k2, k3⟩ := el.ls g (by rw [e]; rfl)
    exact h.free g k1 k2 (fun p hp => k3 p (List.mem_of_mem_take hp))
  · obtain ⟨k1, k2⟩ := el.fr _ (List.getElem_mem hi) g hm2
    exact h.free g k1 k2 (el.take hi (by omega) g hm2)
  · have h5 : ∀ p ∈ l.take j, ¬ Mown p.2 g := fun p hp => h3 p ((ht2 p).2 (.inl hp))
    exact (hb g (by omega) (h.free g h2 h1 h5)).trans (h.blk g h1 h2 h5)
  · rcases hn g hg with e | e | e
    · rcases h.now g e with e2 | e2 | ⟨p, hp, hm2⟩
      · exact .inl e2
      · exact .inr (.inl e2)
      · exact .inr (.inr ⟨p, (ht2 p).2 (.inl hp), hm2⟩)
    · exact .inr (.inl (by omega))
    · exact .inr (.inr ⟨_, (ht2 _).2 (.inr rfl), e⟩)
  · have h5 := h.pl
    rw [List.drop_eq_getElem_cons hj, List.map_cons, List.foldl_cons] at h5
    exact h5
def OtPost (N : Nat) (w : World) (bt : Nat) (c : Cp) (l : List (Ev × Sl)) (t' : Tl) (en : Ending) (w' : World) : Prop :=
  en = .returned (.bool true) ∧ ∃ c', TI N w' bt t' c' ∧ (c'.b = c.b ∧ c'.h = c.h) ∧ Below 0 w w' ∧ (∀ g, g < w.heap.size → ¬ c.A bt g → (∀ p ∈ l, ¬ Mown p.2 g) → w'.heap[g]? = w.heap[g]?) ∧ (∀ g, c'.A bt g → c.A bt g ∨ w.heap.size ≤ g ∨ ∃ p ∈ l, Mown p.2 g)
/-! the walks -/
set_option maxRecDepth 100000 in
set_option maxHeartbeats 16000000 in
theorem out0_any (N bt : Nat) (t : Tl) (c : Cp) (ou : Ou) (vb ve : Value) (l : List (Ev × Sl)) (w : World) (h : TI N w bt t c) (hN : N ≤ w.heap.size) (ho : OutV N w ou vb ve l) (hap : ∀ g, fpV vb ve l g → ¬ c.A bt g) (hu : ∀ d ∈ ou.b, d < 256) (hk : ∀ e ∈ ou.ev, e.kind = 1 ∨ e.kind = 2 ∨ e.kind = 3) (hlb : (t.y 1).length + ou.b.length ≤ 1000000000) (hle : ou.ev.length ≤ 100000000) (hlo : (t.o 0).length ≤ 1000000000) (hlu : 0 ≤ t.u 0 ∧ t.u 0 ≤ 1000000000) (t' : Tl) (hP : outP t 0 ou = t') :
    Calls Try.prog 9 #[.pointer (some ⟨bt, 0, none⟩), .int .i64 0, .agg #[vb, ve]] w (OtPost N w bt c l t') := by
  have HT : Hid (TI N w bt t c) := h
  have HO : Hid (OutV N w ou vb ve l) := ho
  have HAP : Hid (∀ g, fpV vb ve l g → ¬ c.A bt g) := hap
  have HU : Hid (∀ d ∈ ou.b, d < 256) := hu
  have HK : Hid (∀ e ∈ ou.ev, e.kind = 1 ∨ e.kind = 2 ∨ e.kind = 3) := hk
  have HP : Hid (outP t 0 ou = t') := hP
  have HLL : Hid ((t.y 1).length + ou.b.length ≤ 1000000000 ∧ ou.ev.length ≤ 100000000 ∧ (t.o 0).length ≤ 1000000000 ∧ (0 ≤ t.u 0 ∧ t.u 0 ≤ 1000000000)) := ⟨hlb, hle, hlo, hlu⟩
  have HNN : Hid (N ≤ w.heap.size) := hN
  obtain ⟨x1, y1, e1, cz1, nz1, -⟩ := ho.bys.form
  obtain ⟨x2, y2, e2, cz2, nz2, -⟩ := ho.ev.own.form
  obtain ⟨z1, hz1⟩ : ∃ y, ou.b.length = y := ⟨_, rfl⟩
  obtain ⟨z2, hz2⟩ : ∃ y, l.length = y := ⟨_, rfl⟩
  have HZ1 : Hid (ou.b.length = z1) := hz1
  have HZ2 : Hid (l.length = z2) := hz2
  rw [hz1] at e1 cz1 nz1
  rw [hz2] at e2 cz2 nz2
  have HNZ : Hid (x1 = none → z1 = 0 ∧ y1 = 0) := nz1
  have hz2b : z2 ≤ 100000000 := by rw [← hz2, ← List.length_map (f := fun p => p.1), ho.eq]; exact hle
  subst e1 e2
  clear h hN ho hap hu hk hlb hle hlo hlu hP hz1 hz2 nz1 nz2
  go_enter Try.func9, Try.ntmps9
  go_wp2_with (refine list_sbox OutK rfl _ rfl (cs := [.slice x1 z1 y1, .slice x2 z2 y2]) rfl ?_)
  intro w5 hb5 hbl5 hz5
  obtain ⟨be, hbe⟩ : ∃ y, w.heap.size = y := ⟨_, rfl⟩
  have HX5 : Hid (SB OutK be [.slice x1 z1 y1, .slice x2 z2 y2] w5.drew) := by rw [← hbe]; exact hb5.out
  have HB5 : Hid (Below w.heap.size w w5.drew) := hbl5.out.trans ((drew_bel w5).mono hbl5.out.size)
  have HBE : Hid (w.heap.size = be) := hbe
  have HTB : Hid (bt < w.heap.size) := HT.out.box.lt
  rw [hbe]
  clear hb5 hbl5 hz5 hbe
  go_wp2_with fail
  refine wp_region_held_drew (S := fun W => SB OutK be [.slice x1 z1 y1, .slice x2 z2 y2] W) (by kernel_rfl) HX5.out (fun hHeld => ?_)
  obtain ⟨X0, hX0⟩ : ∃ x, w5.drew = x := ⟨_, rfl⟩
  rw [hX0] at HX5 HB5 hHeld ⊢
  clear hX0
  refine wpAnyH_take (i := 0) (v := ?_) rfl (by kernel_rfl) (by kernel_rfl) (by kernel_rfl) (fun _ _ _ h => h) (Or.inl ⟨by rfl, ?_⟩) (by assumption) ?_
  case refine_2 => intro W hSw; go_simp; try rfl
  try simp only [Act.put, List.getElem_toArray, List.getElem_cons_zero, List.getElem_cons_succ, List.setIfInBounds_toArray, List.set_cons_zero, List.set_cons_succ]
  refine wpAnyH_take (i := 1) (v := ?_) rfl (by kernel_rfl) (by kernel_rfl) (by kernel_rfl) (fun _ _ _ h => h) (Or.inl ⟨by rfl, ?_⟩) (by assumption) ?_
  case refine_2 => intro W hSw; go_simp; try rfl
  try simp only [Act.put, List.getElem_toArray, List.getElem_cons_zero, List.getElem_cons_succ, List.setIfInBounds_toArray, List.set_cons_zero, List.set_cons_succ]
  refine wpAnyH_take (i := 2) (v := .int .i64 1) rfl (by kernel_rfl) (by kernel_rfl) (by kernel_rfl) (fun _ _ _ h => h) (Or.inl ⟨by rfl, ?_⟩) (by assumption) ?_
  case refine_1 => intro W hSw; go_simp; try rfl
  try simp only [Act.put, List.getElem_toArray, List.getElem_cons_zero, List.getElem_cons_succ, List.setIfInBounds_toArray, List.set_cons_zero, List.set_cons_succ]
  refine wpAnyH_take (i := 3) (v := ?_) rfl (by kernel_rfl) (by kernel_rfl) (by kernel_rfl) (fun _ _ _ h => h) (Or.inl ⟨by rfl, ?_⟩) (by assumption) ?_
  case refine_2 => intro W hSw; go_simp; try rfl
  try simp only [Act.put, List.getElem_toArray, List.getElem_cons_zero, List.getElem_cons_succ, List.setIfInBounds_toArray, List.set_cons_zero, List.set_cons_succ]
  refine wpAnyH_take (i := 4) (v := ?_) rfl (by kernel_rfl) (by kernel_rfl) (by kernel_rfl) (fun _ _ _ h => h) (Or.inl ⟨by rfl, ?_⟩) (by assumption) ?_
  case refine_2 => intro W hSw; go_simp; try rfl
  try simp only [Act.put, List.getElem_toArray, List.getElem_cons_zero, List.getElem_cons_succ, List.setIfInBounds_toArray, List.set_cons_zero, List.set_cons_succ]
  refine wpAnyH_take (i := 5) (v := .int .i64 1) rfl (by kernel_rfl) (by kernel_rfl) (by kernel_rfl) (fun _ _ _ h => h) (Or.inl ⟨by rfl, ?_⟩) (by assumption) ?_
  case refine_1 => intro W hSw; go_simp; try rfl
  try simp only [Act.put, List.getElem_toArray, List.getElem_cons_zero, List.getElem_cons_succ, List.setIfInBounds_toArray, List.set_cons_zero, List.set_cons_succ]
  refine wpAnyH_take (i := 6) (v := ?_) rfl (by kernel_rfl) (by kernel_rfl) (by kernel_rfl) (fun _ _ _ h => h) (Or.inl ⟨by rfl, ?_⟩) (by assumption) ?_
  case refine_2 => intro W hSw; go_simp; try rfl
  try simp only [Act.put, List.getElem_toArray, List.getElem_cons_zero, List.getElem_cons_succ, List.setIfInBounds_toArray, List.set_cons_zero, List.set_cons_succ]
  refine wpAnyH_take (i := 7) (v := ?_) rfl (by kernel_rfl) (by kernel_rfl) (by kernel_rfl) (fun _ _ _ h => h) (Or.inl ⟨by rfl, ?_⟩) (by assumption) ?_
  case refine_2 => intro W hSw; go_simp; try rfl
  try simp only [Act.put, List.getElem_toArray, List.getElem_cons_zero, List.getElem_cons_succ, List.setIfInBounds_toArray, List.set_cons_zero, List.set_cons_succ]
  refine wpAnyH_take (i := 8) (v := .pointer (some ⟨bt, 3, none⟩)) rfl (by kernel_rfl) (by kernel_rfl) (by kernel_rfl) (fun _ _ _ h => h) (Or.inl ⟨by rfl, ?_⟩) (by assumption) ?_
  case refine_1 => intro W hSw; go_simp; try rfl
  try simp only [Act.put, List.getElem_toArray, List.getElem_cons_zero, List.getElem_cons_succ, List.setIfInBounds_toArray, List.set_cons_zero, List.set_cons_succ]
  refine wpAnyH_take (i := 10) (v := ?_) rfl (by kernel_rfl) (by kernel_rfl) (by kernel_rfl) (fun _ _ _ h => h) (Or.inl ⟨by rfl, ?_⟩) (by assumption) ?_
  case refine_2 => intro W hSw; go_simp; try rfl
  try simp only [Act.put, List.getElem_toArray, List.getElem_cons_zero, List.getElem_cons_succ, List.setIfInBounds_toArray, List.set_cons_zero, List.set_cons_succ]
  refine wpAnyH_take (i := 11) (v := .slice x1 z1 y1) rfl (by kernel_rfl) (by kernel_rfl) (by kernel_rfl) (fun _ _ _ h => h) (Or.inl ⟨by rfl, ?_⟩) (by assumption) ?_
  case refine_1 => intro W hSw; have cc : W.cell? ⟨be, 0, none⟩ = some (.slice x1 z1 y1) := hSw.cell 0; go_simp; try rfl
  try simp only [Act.put, List.getElem_toArray, List.getElem_cons_zero, List.getElem_cons_succ, List.setIfInBounds_toArray, List.set_cons_zero, List.set_cons_succ]
  refine wpAnyH_take (i := 13) (v := ?_) rfl (by kernel_rfl) (by kernel_rfl) (by kernel_rfl) (fun _ _ _ h => h) (Or.inl ⟨by rfl, ?_⟩) (by assumption) ?_
  case refine_2 => intro W hSw; go_simp; try rfl
  try simp only [Act.put, List.getElem_toArray, List.getElem_cons_zero, List.getElem_cons_succ, List.setIfInBounds_toArray, List.set_cons_zero, List.set_cons_succ]
  refine wpAnyH_take (i := 14) (v := ?_) rfl (by kernel_rfl) (by kernel_rfl) (by kernel_rfl) (fun _ _ _ h => h) (Or.inl ⟨by rfl, ?_⟩) (by assumption) ?_
  case refine_2 => intro W hSw; go_simp; try rfl
  try simp only [Act.put, List.getElem_toArray, List.getElem_cons_zero, List.getElem_cons_succ, List.setIfInBounds_toArray, List.set_cons_zero, List.set_cons_succ]
  refine wpAnyH_ready (rs := [9]) (by kernel_rfl) (by simp) ?_
  refine AllReadyH.cons rfl (fun K hK => ?_) AllReadyH.nil
  have HBT : Hid (SB TaK bt (taL t c) X0) := HT.out.box.blk (HB5.out.block bt HTB.out)
  obtain ⟨va9, vc9, hv9, -⟩ := (HT.out.y 1 (by omega)).1.form
  obtain ⟨n9, hn9⟩ : ∃ y, (t.y 1).length = y := ⟨_, rfl⟩
  have HN9 : Hid ((t.y 1).length = n9) := hn9
  rw [hn9] at hv9
  have HV9 : Hid (c.w 1 = .slice va9 n9 vc9) := hv9
  have c9 : X0.cell? ⟨bt, 3, none⟩ = some (.slice va9 n9 vc9) := by rw [← hv9]; exact HBT.out.cell 3
  clear hn9 hv9
  go_simp
  refine hK.out _ _ hHeld (fun hHeld => ?_)
  clear hK K c9
  try simp only [Act.put, List.getElem_toArray, List.getElem_cons_zero, List.getElem_cons_succ, List.setIfInBounds_toArray, List.set_cons_zero, List.set_cons_succ]
  refine wpAnyH_ready (rs := [12]) (by kernel_rfl) (by simp) ?_
  refine AllReadyH.cons rfl (fun K hK => ?_) AllReadyH.nil
  have HO9 : Hid (OwnL E8 N X0 (.slice va9 n9 vc9) (t.y 1)) := by rw [← HV9.out]; exact (HT.out.y 1 (by omega)).1.bel HB5.out
  have HL9 : Hid ((t.y 1).length + z1 ≤ 1099511627775) := by show _ ≤ _; have := HLL.out.1; have := HZ1.out; omega
  have HS9 : Hid (Lst E8 X0 x1 ou.b) := (HO.out.bys.bel HB5.out).lst.1
  have HN0 : Hid (N ≤ X0.heap.size) := Nat.le_trans HNN.out HB5.out.size
  refine step_appL E8 _ _ 32 rfl rfl N (.slice va9 n9 vc9) (t.y 1) ou.b x1 z1 y1 X0 HL9.out rfl HO9.out rfl HS9.out HNZ.out HZ1.out HN0.out rfl (fun v7 X2 ho7 hg7 ha7 => ?_)
  have HNB : Hid (∀ g, (Value.slice va9 n9 vc9).ownBlock = some g → g < w.heap.size ∧ g ≠ bt) := fun g e => by
    rw [← HV9.out] at e
    exact ⟨((HT.out.y 1 (by omega)).1.row.lt g e).2, fun e2 => HT.out.d 4 0 (by omega) (by omega) (by omega) g e e2⟩
  refine hK.out _ _ (SB.blk hHeld (hg7.out.block _ hHeld.lt (fun e2 => by have := (HNB.out _ e2.symm).1; have := HBE.out; omega))) (fun hHeld => ?_)
  have HBX : Hid (SB TaK bt (taL t c) X2) := HBT.out.blk (hg7.out.block _ HBT.out.lt (fun e2 => (HNB.out _ e2.symm).2 rfl))
  clear hK K
  try simp only [Act.put, List.getElem_toArray, List.getElem_cons_zero, List.getElem_cons_succ, List.setIfInBounds_toArray, List.set_cons_zero, List.set_cons_succ]
  refine wpAnyH_take (i := 15) (v := .pointer (some ⟨bt, 3, none⟩)) rfl (by kernel_rfl) (by kernel_rfl) (by kernel_rfl) (fun _ _ _ h => h) (Or.inl ⟨by rfl, ?_⟩) (by assumption) ?_
  case refine_1 => intro W hSw; go_simp; try rfl
  try simp only [Act.put, List.getElem_toArray, List.getElem_cons_zero, List.getElem_cons_succ, List.setIfInBounds_toArray, List.set_cons_zero, List.set_cons_succ]
  refine wpAnyH_ready (rs := [16]) (by kernel_rfl) (by simp) ?_
  refine AllReadyH.cons rfl (fun K hK => ?_) AllReadyH.nil
  obtain ⟨va7, vc7, hv7, -⟩ := ho7.out.form
  obtain ⟨n7, hn7⟩ : ∃ y, (t.y 1 ++ ou.b).length = y := ⟨_, rfl⟩
  rw [hn7] at hv7
  subst hv7
  have f1 : X2.frozen? ⟨bt, 3, none⟩ = false := HBX.out.fro 3
  have c1 : X2.cell? ⟨bt, 3, none⟩ = some (c.w 1) := HBX.out.cell 3
  have HB8 : Hid (SB TaK bt (taL (wayP t 1 (t.y 1 ++ ou.b)) { c with w := upd c.w 1 (.slice va7 n7 vc7) }) (X2.setCell ⟨bt, 3, none⟩ (.slice va7 n7 vc7))) := HBX.out.set 3 _ rfl
  have HK8 : Hid (Ko X2 bt (X2.setCell ⟨bt, 3, none⟩ (.slice va7 n7 vc7))) := Ko.set _ _ _ _
  have HW8 : Hid (TI N (X2.setCell ⟨bt, 3, none⟩ (.slice va7 n7 vc7)) bt (wayP t 1 (t.y 1 ++ ou.b)) { c with w := upd c.w 1 (.slice va7 n7 vc7) } ∧ Kl X0 (X2.setCell ⟨bt, 3, none⟩ (.slice va7 n7 vc7)) bt c { c with w := upd c.w 1 (.slice va7 n7 vc7) }) := TI.way (HT.out.bel HB5.out) (by omega) (Below.refl _ _) ho7.out (all_u8 (HT.out.y 1 (by omega)).2 HU.out) (by rw [HV9.out]; exact hg7.out) (by rw [HV9.out]; exact ha7.out.imp id (fun e2 => ⟨_, Nat.le_refl _, e2⟩)) HK8.out HB8.out
  go_simp
  refine hK.out _ _ (SB.blk hHeld (HK8.out.block be (by have := HTB.out; have := HBE.out; omega))) (fun hHeld => ?_)
  clear hK K f1 c1
  obtain ⟨w8, hw8⟩ : ∃ y, X2.setCell ⟨bt, 3, none⟩ (.slice va7 n7 vc7) = y := ⟨_, rfl⟩
  rw [hw8] at HB8 HK8 HW8 hHeld ⊢
  clear hw8
  try simp only [Act.put, List.getElem_toArray, List.getElem_cons_zero, List.getElem_cons_succ, List.setIfInBounds_toArray, List.set_cons_zero, List.set_cons_succ]
  refine wpAnyH_done (by kernel_rfl) ?_ _
  have HX8 : Hid (SB OutK be [.slice x1 z1 y1, .slice x2 z2 y2] w8) := hHeld
  clear hHeld
  obtain ⟨c8, hc8⟩ : ∃ y, ({ c with w := upd c.w 1 (.slice va7 n7 vc7) } : Cp) = y := ⟨_, rfl⟩
  obtain ⟨t8, ht8⟩ : ∃ y, wayP t 1 (t.y 1 ++ ou.b) = y := ⟨_, rfl⟩
  have HSB : Hid (c8.b = c.b ∧ c8.h = c.h) := by rw [← hc8]; exact ⟨rfl, rfl⟩
  have HT8U : Hid (t8.u 0 = t.u 0 ∧ t8.o 0 = t.o 0) := by rw [← ht8]; exact ⟨rfl, rfl⟩
  have HP8 : Hid (ou.ev.foldl (evP 0) t8 = t') := by rw [← ht8]; exact HP.out
  rw [hc8, ht8] at HW8
  have HT8 : Hid (TI N w8 bt t8 c8) := HW8.out.1
  have HKX : Hid (Kl X0 w8 bt c c8) := HW8.out.2
  have HKL : Hid (Kl w w8 bt c c8) := ⟨(HB5.out.mono (Nat.zero_le _)).trans HKX.out.str, fun g hg hn => (HKX.out.blk g (Nat.lt_of_lt_of_le hg HB5.out.size) hn).trans (HB5.out.block g hg), fun g hg => (HKX.out.now g hg).imp id (fun e => Nat.le_trans HB5.out.size e)⟩
  have HFV : Hid (∀ g, fpV (.slice x1 z1 y1) (.slice x2 z2 y2) l g → g < w.heap.size ∧ ¬ c8.A bt g) := fun g hg => by
    have h1 : g < w.heap.size := by
      rcases hg with e | e | ⟨p, hp, hm⟩
      · exact (HO.out.bys.row.lt g e).2
      · exact (HO.out.ev.own.row.lt g e).2
      · exact ((HO.out.ev.each p hp).rng g hm).2
    refine ⟨h1, fun e => ?_⟩
    rcases HKL.out.now g e with e2 | e2
    · exact HAP.out g hg e2
    · omega
  have HEL : Hid (El2 w8 bt c8 x2 l) := by
    have hs := HKL.out.str.size
    refine ⟨HO.out.ev.pw, fun p hp g hm => ⟨(HFV.out g (.inr (.inr ⟨p, hp, hm⟩))).2, by have := (HFV.out g (.inr (.inr ⟨p, hp, hm⟩))).1; omega⟩, fun g e => ?_⟩
    have e2 : (Value.slice x2 z2 y2).ownBlock = some g := by rw [ob_own]; exact e
    have h5 := HFV.out g (.inr (.inl e2))
    exact ⟨h5.2, by have := h5.1; omega, fun p hp hm => HO.out.ev.ap p hp g hm e2⟩
  have HOL0 : Hid (OL N w8 bt 0 c8 x2 l t' w8 0 t8 c8) := by
    have hev := HO.out.ev.blk (W' := w8) (fun g e hl => HKL.out.blk g hl (HAP.out g (.inr e)))
    refine ⟨HT8.out, hev.own.lst.1, fun i hi _ => hev.each _ (List.getElem_mem hi), fun _ _ _ _ => rfl, fun g hg => .inl hg, Below.refl _ _, by rw [List.drop_zero, HO.out.eq]; exact HP8.out, Nat.zero_le _, ?_, ?_, rfl, rfl⟩
    · rw [HT8U.out.1]; have := HLL.out.2.2.2; omega
    · rw [HT8U.out.2]; have := HLL.out.2.2.1; omega
  have HEB : Hid (¬ c8.A bt be ∧ be < w8.heap.size ∧ ∀ p ∈ l, ¬ Mown p.2 be) := ⟨fun e => by
    rcases HKX.out.now be e with e2 | e2
    · have := HT.out.lt be e2; have := HBE.out; omega
    · have := HX5.out.lt; omega, HX8.out.lt, fun p hp hm => by have := (HFV.out be (.inr (.inr ⟨p, hp, hm⟩))).1; have := HBE.out; omega⟩
  clear HW8 HB8 HK8 HX5 HKX ho7 hg7 ha7 hn7 hc8 ht8 HO9 HL9 HS9 HN0 HNB HBX HBT HV9 HN9
  have d1 : w8.cell? ⟨be, 1, none⟩ = some (.slice x2 z2 y2) := HX8.out.cell 1
  go_wp2_with fail
  go_loopw [28] (fun kv wr => ∃ (j : Nat) (tj : Tl) (cj : Cp), j ≤ z2 ∧ kv = .int .i64 (j : Int) ∧ OL N w8 bt 0 c8 x2 l t' wr j tj cj) (fun k _ => z2 - (intOf k).toNat)
  case atStart => exact ⟨0, t8, c8, by omega, rfl, HOL0.out⟩
  case round =>
    obtain ⟨j, tj, cj, hj, rfl, hol⟩ := hrel
    have HOL : Hid (OL N w8 bt 0 c8 x2 l t' wr j tj cj) := hol
    clear hol HOL0 d1
    by_cases hjl : j < z2
    · have hjli : (j : Int) < (z2 : Int) := by omega
      have hj0 : (0 : Int) ≤ (j : Int) := by omega
      have hj3 : j < l.length := by rw [HZ2.out]; exact hjl
      obtain ⟨b1, o8, hb1, -, hc1⟩ := lst21 HOL.out.lst j hj3
      obtain ⟨ej, lj, hej⟩ : ∃ m s, l[j] = (m, s) := ⟨_, _, rfl⟩
      have hmo := HOL.out.each j hj3 (Nat.le_refl _)
      have hfr := fun g hm => HOL.out.free g (HEL.out.fr _ (List.getElem_mem hj3) g hm).1 (HEL.out.fr _ (List.getElem_mem hj3) g hm).2 (HEL.out.take hj3 (Nat.le_refl j) g hm)
      have hkd := HK.out l[j].1 (by rw [← HO.out.eq]; exact List.mem_map.2 ⟨_, List.getElem_mem hj3, rfl⟩)
      have hst := @OL.step N w8 wr
      rw [hej] at hc1 hmo hfr hkd
      have HC1 : Hid (∀ y, y < EvK.k → wr.cell? ⟨b1, o8 + j * 21 + y, none⟩ = (evL ej lj)[y]?) := hc1
      have HMO : Hid (MO N wr ej.m lj) := hmo
      have HFR : Hid (∀ g, Mown lj g → ¬ cj.A bt g) := hfr
      have HEJ : Hid (l[j] = (ej, lj)) := hej
      have HKD : Hid (ej.kind = 1 ∨ ej.kind = 2 ∨ ej.kind = 3) := hkd
      subst hb1
      clear hc1 hmo hfr hej hkd hst
      go_wp2_with (first | (refine list_sat EvK rfl _ rfl (b := b1) (k := o8 + j * 21) (cs := evL ej lj) rfl HC1.out rfl ?_) | (refine list_enew rfl rfl ?_))
      intro bm wa hbm hxm hba
      go_wp2_with (refine list_sstore EvK rfl _ _ rfl (b := bm) (cs := evL ⟨0, 0, 0, 0, ms0⟩ sZ) (cs' := evL ej lj) rfl rfl hxm.out rfl rfl rfl ?_)
      intro wm hxm2 hkm
      have HXM : Hid (SB EvK bm (evL ej lj) wm) := hxm2.out
      have HBM : Hid (Below wr.heap.size wr wm) := hba.out.trans (hkm.out.below (by have := hbm.out; omega))
      have HBME : Hid (wr.heap.size = bm) := hbm.out
      have HTM : Hid (TI N wm bt tj cj) := HOL.out.ti.bel HBM.out
      have HMOM : Hid (MO N wm ej.m lj) := HMO.out.blk (fun g _ _ hl => HBM.out.block g hl)
      have HNM : Hid (N ≤ wm.heap.size) := Nat.le_trans HNN.out (Nat.le_trans HKL.out.str.size (Nat.le_trans HOL.out.str.size HBM.out.size))
      have d0 : wm.cell? ⟨bm, 0, none⟩ = some (.int .i64 ej.kind) := HXM.out.cell 0
      clear hbm hxm hba hxm2 hkm
      rcases HKD.out with hk1 | hk1 | hk1
      · as_aux_lemma =>
        rw [hk1] at d0
        have HEV : Hid (evP 0 tj ej = { tj with u := upd tj.u 0 (tj.u 0 + 1) }) := by show _ = _; unfold evP; rw [if_pos hk1]
        clear hk1
        go_wp2_with fail
        have HBU : Hid (SB TaK bt (taL tj cj) wm.drew) := HTM.out.box
        obtain ⟨uv, huv⟩ : ∃ y, tj.u 0 = y := ⟨_, rfl⟩
        have HUV : Hid (tj.u 0 = uv) := huv
        have hub : 0 ≤ uv ∧ uv ≤ 1000000000 + j := by rw [← huv]; exact HOL.out.u
        clear huv
        have hwr : IntKind.i64.wrap (uv + 1) = uv + 1 := IntWalk.i64_in _ (by omega)
        refine wp_region_held_drew (S := fun _ => True) (by kernel_rfl) trivial (fun hHeld => ?_)
        obtain ⟨X0, hX0⟩ : ∃ x, wm.drew = x := ⟨_, rfl⟩
        have HTX : Hid (TI N X0 bt tj cj) := by rw [← hX0]; exact HTM.out.bel (drew_bel wm)
        have HX0 : Hid (wm.drew = X0) := hX0
        rw [hX0] at HBU ⊢
        clear hX0
        refine wpAnyH_take (i := 0) (v := ?_) rfl (by kernel_rfl) (by kernel_rfl) (by kernel_rfl) (fun _ _ _ h => h) (Or.inl ⟨by rfl, ?_⟩) (by assumption) ?_
        case refine_2 => intro W hSw; go_simp; try rfl
        try simp only [Act.put, List.getElem_toArray, List.getElem_cons_zero, List.getElem_cons_succ, List.setIfInBounds_toArray, List.set_cons_zero, List.set_cons_succ]
        refine wpAnyH_take (i := 1) (v := ?_) rfl (by kernel_rfl) (by kernel_rfl) (by kernel_rfl) (fun _ _ _ h => h) (Or.inl ⟨by rfl, ?_⟩) (by assumption) ?_
        case refine_2 => intro W hSw; go_simp; try rfl
        try simp only [Act.put, List.getElem_toArray, List.getElem_cons_zero, List.getElem_cons_succ, List.setIfInBounds_toArray, List.set_cons_zero, List.set_cons_succ]
        refine wpAnyH_take (i := 2) (v := ?_) rfl (by kernel_rfl) (by kernel_rfl) (by kernel_rfl) (fun _ _ _ h => h) (Or.inl ⟨by rfl, ?_⟩) (by assumption) ?_
        case refine_2 => intro W hSw; go_simp; try rfl
        try simp only [Act.put, List.getElem_toArray, List.getElem_cons_zero, List.getElem_cons_succ, List.setIfInBounds_toArray, List.set_cons_zero, List.set_cons_succ]
        refine wpAnyH_take (i := 3) (v := ?_) rfl (by kernel_rfl) (by kernel_rfl) (by kernel_rfl) (fun _ _ _ h => h) (Or.inl ⟨by rfl, ?_⟩) (by assumption) ?_
        case refine_2 => intro W hSw; go_simp; try rfl
        try simp only [Act.put, List.getElem_toArray, List.getElem_cons_zero, List.getElem_cons_succ, List.setIfInBounds_toArray, List.set_cons_zero, List.set_cons_succ]
        refine wpAnyH_take (i := 4) (v := .pointer (some ⟨bt, 8, none⟩)) rfl (by kernel_rfl) (by kernel_rfl) (by kernel_rfl) (fun _ _ _ h => h) (Or.inl ⟨by rfl, ?_⟩) (by assumption) ?_
        case refine_1 => intro W hSw; go_simp; try rfl
        try simp only [Act.put, List.getElem_toArray, List.getElem_cons_zero, List.getElem_cons_succ, List.setIfInBounds_toArray, List.set_cons_zero, List.set_cons_succ]
        refine wpAnyH_take (i := 7) (v := ?_) rfl (by kernel_rfl) (by kernel_rfl) (by kernel_rfl) (fun _ _ _ h => h) (Or.inl ⟨by rfl, ?_⟩) (by assumption) ?_
        case refine_2 => intro W hSw; go_simp; try rfl
        try simp only [Act.put, List.getElem_toArray, List.getElem_cons_zero, List.getElem_cons_succ, List.setIfInBounds_toArray, List.set_cons_zero, List.set_cons_succ]
        refine wpAnyH_take (i := 8) (v := ?_) rfl (by kernel_rfl) (by kernel_rfl) (by kernel_rfl) (fun _ _ _ h => h) (Or.inl ⟨by rfl, ?_⟩) (by assumption) ?_
        case refine_2 => intro W hSw; go_simp; try rfl
        try simp only [Act.put, List.getElem_toArray, List.getElem_cons_zero, List.getElem_cons_succ, List.setIfInBounds_toArray, List.set_cons_zero, List.set_cons_succ]
        refine wpAnyH_ready (rs := [5]) (by kernel_rfl) (by simp) ?_
        refine AllReadyH.cons rfl (fun K hK => ?_) AllReadyH.nil
        have cu : X0.cell? ⟨bt, 8, none⟩ = some (.int .i64 uv) := by rw [← HUV.out]; exact HBU.out.cell 8
        go_simp
        refine hK.out _ _ trivial (fun hHeld => ?_)
        clear hK K
        try simp only [Act.put, List.getElem_toArray, List.getElem_cons_zero, List.getElem_cons_succ, List.setIfInBounds_toArray, List.set_cons_zero, List.set_cons_succ]
        refine wpAnyH_take (i := 6) (v := .int .i64 (uv + 1)) rfl (by kernel_rfl) (by kernel_rfl) (by kernel_rfl) (fun _ _ _ h => h) (Or.inl ⟨by rfl, ?_⟩) (by assumption) ?_
        case refine_1 => intro W hSw; go_simp; try simp only [hwr]
        try simp only [Act.put, List.getElem_toArray, List.getElem_cons_zero, List.getElem_cons_succ, List.setIfInBounds_toArray, List.set_cons_zero, List.set_cons_succ]
        refine wpAnyH_take (i := 9) (v := .pointer (some ⟨bt, 8, none⟩)) rfl (by kernel_rfl) (by kernel_rfl) (by kernel_rfl) (fun _ _ _ h => h) (Or.inl ⟨by rfl, ?_⟩) (by assumption) ?_
        case refine_1 => intro W hSw; go_simp; try rfl
        try simp only [Act.put, List.getElem_toArray, List.getElem_cons_zero, List.getElem_cons_succ, List.setIfInBounds_toArray, List.set_cons_zero, List.set_cons_succ]
        refine wpAnyH_ready (rs := [10]) (by kernel_rfl) (by simp) ?_
        refine AllReadyH.cons rfl (fun K hK => ?_) AllReadyH.nil
        have fu : X0.frozen? ⟨bt, 8, none⟩ = false := HBU.out.fro 8
        have HB9 : Hid (SB TaK bt (taL { tj with u := upd tj.u 0 (tj.u 0 + 1) } cj) (X0.setCell ⟨bt, 8, none⟩ (.int .i64 (uv + 1)))) := HBU.out.set 8 _ (by rw [← HUV.out]; rfl)
        have HTU : Hid (TI N (X0.setCell ⟨bt, 8, none⟩ (.int .i64 (uv + 1))) bt { tj with u := upd tj.u 0 (tj.u 0 + 1) } cj ∧ Kl wm.drew (X0.setCell ⟨bt, 8, none⟩ (.int .i64 (uv + 1))) bt cj cj) := by rw [HX0.out]; exact TI.turn HTX.out (Ko.set _ _ _ _) HB9.out ⟨rfl, rfl, rfl, rfl⟩
        go_simp
        refine hK.out _ _ trivial (fun hHeld => ?_)
        clear hK K cu fu
        obtain ⟨X1, hX1⟩ : ∃ x, X0.setCell ⟨bt, 8, none⟩ (.int .i64 (uv + 1)) = x := ⟨_, rfl⟩
        rw [hX1] at HTU ⊢
        clear hX1 HB9 HBU HTX HX0 hwr
        try simp only [Act.put, List.getElem_toArray, List.getElem_cons_zero, List.getElem_cons_succ, List.setIfInBounds_toArray, List.set_cons_zero, List.set_cons_succ]
        refine wpAnyH_done (by kernel_rfl) ?_ _
        clear hHeld
        have HST : Hid (OL N w8 bt 0 c8 (some ⟨b1, o8, none⟩) l t' X1 (j + 1) (evP 0 tj l[j].1) cj) := OL.step HOL.out HEL.out hj3 (by rw [HEJ.out, HEV.out]; exact HTU.out.1) ((HBM.out.mono (Nat.zero_le _)).trans (((drew_bel wm).mono (Nat.zero_le _)).trans HTU.out.2.str)) (fun g hg hn => (HTU.out.2.blk g (Nat.lt_of_lt_of_le hg HBM.out.size) hn).trans (HBM.out.block g hg)) (fun g hg => .inl hg) ⟨rfl, rfl⟩
        clear HTU
        go_wp2_with fail
        exact ⟨⟨j + 1, _, _, by omega, by simp, HST.out⟩, by simp [intOf]; omega⟩
      · as_aux_lemma =>
        rw [hk1] at d0
        have HEV : Hid (evP 0 tj ej = tj) := by show _ = _; unfold evP; rw [if_neg (by rw [hk1]; decide), if_neg (by rw [hk1]; decide)]
        clear hk1
        have HST : Hid (OL N w8 bt 0 c8 (some ⟨b1, o8, none⟩) l t' wm (j + 1) (evP 0 tj l[j].1) cj) := OL.step HOL.out HEL.out hj3 (by rw [HEJ.out, HEV.out]; exact HTM.out) (HBM.out.mono (Nat.zero_le _)) (fun g hg hn => HBM.out.block g hg) (fun g hg => .inl hg) ⟨rfl, rfl⟩
        go_wp2_with fail
        exact ⟨⟨j + 1, _, _, by omega, by simp, HST.out⟩, by simp [intOf]; omega⟩
      · as_aux_lemma =>
        rw [hk1] at d0
        have HEV : Hid (evP 0 tj ej = { tj with o := upd tj.o 0 (tj.o 0 ++ [ej.m]) }) := by show _ = _; unfold evP; rw [if_neg (by rw [hk1]; decide), if_pos hk1]
        clear hk1
        go_wp2_with fail
        have HXD : Hid (SB EvK bm (evL ej lj) wm.drew) := HXM.out
        refine wp_region_held_drew (S := fun W => SB EvK bm (evL ej lj) W) (by kernel_rfl) HXD.out (fun hHeld => ?_)
        obtain ⟨X0, hX0⟩ : ∃ x, wm.drew = x := ⟨_, rfl⟩
        have HTX : Hid (TI N X0 bt tj cj) := by rw [← hX0]; exact HTM.out.bel (drew_bel wm)
        have HMX : Hid (MO N X0 ej.m lj) := by rw [← hX0]; exact HMOM.out.blk (fun g _ _ hl => (drew_bel wm).block g hl)
        have HN0 : Hid (N ≤ X0.heap.size) := by rw [← hX0]; exact HNM.out
        have HX0 : Hid (wm.drew = X0) := hX0
        have HBTM : Hid (bm ≠ bt ∧ ¬ cj.A bt bm) := by
          have h5 : ¬ cj.A bt bm := fun e => by have := HOL.out.ti.lt bm e; have := HBME.out; omega
          exact ⟨fun e => h5 ⟨0, by omega, e⟩, h5⟩
        rw [hX0] at hHeld ⊢
        clear hX0 HXD
        refine wpAnyH_take (i := 0) (v := ?_) rfl (by kernel_rfl) (by kernel_rfl) (by kernel_rfl) (fun _ _ _ h => h) (Or.inl ⟨by rfl, ?_⟩) (by assumption) ?_
        case refine_2 => intro W hSw; go_simp; try rfl
        try simp only [Act.put, List.getElem_toArray, List.getElem_cons_zero, List.getElem_cons_succ, List.setIfInBounds_toArray, List.set_cons_zero, List.set_cons_succ]
        refine wpAnyH_take (i := 1) (v := ?_) rfl (by kernel_rfl) (by kernel_rfl) (by kernel_rfl) (fun _ _ _ h => h) (Or.inl ⟨by rfl, ?_⟩) (by assumption) ?_
        case refine_2 => intro W hSw; go_simp; try rfl
        try simp only [Act.put, List.getElem_toArray, List.getElem_cons_zero, List.getElem_cons_succ, List.setIfInBounds_toArray, List.set_cons_zero, List.set_cons_succ]
        refine wpAnyH_take (i := 2) (v := ?_) rfl (by kernel_rfl) (by kernel_rfl) (by kernel_rfl) (fun _ _ _ h => h) (Or.inl ⟨by rfl, ?_⟩) (by assumption) ?_
        case refine_2 => intro W hSw; go_simp; try rfl
        try simp only [Act.put, List.getElem_toArray, List.getElem_cons_zero, List.getElem_cons_succ, List.setIfInBounds_toArray, List.set_cons_zero, List.set_cons_succ]
        refine wpAnyH_take (i := 3) (v := ?_) rfl (by kernel_rfl) (by kernel_rfl) (by kernel_rfl) (fun _ _ _ h => h) (Or.inl ⟨by rfl, ?_⟩) (by assumption) ?_
        case refine_2 => intro W hSw; go_simp; try rfl
        try simp only [Act.put, List.getElem_toArray, List.getElem_cons_zero, List.getElem_cons_succ, List.setIfInBounds_toArray, List.set_cons_zero, List.set_cons_succ]
        refine wpAnyH_take (i := 4) (v := ?_) rfl (by kernel_rfl) (by kernel_rfl) (by kernel_rfl) (fun _ _ _ h => h) (Or.inl ⟨by rfl, ?_⟩) (by assumption) ?_
        case refine_2 => intro W hSw; go_simp; try rfl
        try simp only [Act.put, List.getElem_toArray, List.getElem_cons_zero, List.getElem_cons_succ, List.setIfInBounds_toArray, List.set_cons_zero, List.set_cons_succ]
        refine wpAnyH_take (i := 5) (v := ?_) rfl (by kernel_rfl) (by kernel_rfl) (by kernel_rfl) (fun _ _ _ h => h) (Or.inl ⟨by rfl, ?_⟩) (by assumption) ?_
        case refine_2 => intro W hSw; go_simp; try rfl
        try simp only [Act.put, List.getElem_toArray, List.getElem_cons_zero, List.getElem_cons_succ, List.setIfInBounds_toArray, List.set_cons_zero, List.set_cons_succ]
        refine wpAnyH_take (i := 6) (v := .pointer (some ⟨bt, 6, none⟩)) rfl (by kernel_rfl) (by kernel_rfl) (by kernel_rfl) (fun _ _ _ h => h) (Or.inl ⟨by rfl, ?_⟩) (by assumption) ?_
        case refine_1 => intro W hSw; go_simp; try rfl
        try simp only [Act.put, List.getElem_toArray, List.getElem_cons_zero, List.getElem_cons_succ, List.setIfInBounds_toArray, List.set_cons_zero, List.set_cons_succ]
        refine wpAnyH_take (i := 8) (v := .pointer (some ⟨bm, 4, none⟩)) rfl (by kernel_rfl) (by kernel_rfl) (by kernel_rfl) (fun _ _ _ h => h) (Or.inl ⟨by rfl, ?_⟩) (by assumption) ?_
        case refine_1 => intro W hSw; go_simp; try rfl
        try simp only [Act.put, List.getElem_toArray, List.getElem_cons_zero, List.getElem_cons_succ, List.setIfInBounds_toArray, List.set_cons_zero, List.set_cons_succ]
        refine wpAnyH_take (i := 9) (v := .agg (msL ej.m lj).toArray) rfl (by kernel_rfl) (by kernel_rfl) (by kernel_rfl) (fun _ _ _ h => h) (Or.inl ⟨by rfl, fun W hSw => sat_run PmK (.tmp 56) rfl (b := bm) (k := 4) rfl (fun j hj => by rw [hSw.cell, Nat.add_comm 4 j]; rfl) rfl⟩) (by assumption) ?_
        try simp only [Act.put, List.getElem_toArray, List.getElem_cons_zero, List.getElem_cons_succ, List.setIfInBounds_toArray, List.set_cons_zero, List.set_cons_succ]
        refine wpAnyH_take (i := 12) (v := ?_) rfl (by kernel_rfl) (by kernel_rfl) (by kernel_rfl) (fun _ _ _ h => h) (Or.inl ⟨by rfl, ?_⟩) (by assumption) ?_
        case refine_2 => intro W hSw; go_simp; try rfl
        try simp only [Act.put, List.getElem_toArray, List.getElem_cons_zero, List.getElem_cons_succ, List.setIfInBounds_toArray, List.set_cons_zero, List.set_cons_succ]
        refine wpAnyH_take (i := 13) (v := ?_) rfl (by kernel_rfl) (by kernel_rfl) (by kernel_rfl) (fun _ _ _ h => h) (Or.inl ⟨by rfl, ?_⟩) (by assumption) ?_
        case refine_2 => intro W hSw; go_simp; try rfl
        try simp only [Act.put, List.getElem_toArray, List.getElem_cons_zero, List.getElem_cons_succ, List.setIfInBounds_toArray, List.set_cons_zero, List.set_cons_succ]
        obtain ⟨va9, vc9, hv9, -⟩ := (HTX.out.o 0 (by omega)).1.own.form
        obtain ⟨n9, hn9⟩ : ∃ y, (cj.l 0).length = y := ⟨_, rfl⟩
        have HN9 : Hid ((cj.l 0).length = n9) := hn9
        rw [hn9] at hv9
        have HV9 : Hid (cj.v 0 = .slice va9 n9 vc9) := hv9
        have c1 : X0.cell? ⟨bt, 6, none⟩ = some (.slice va9 n9 vc9) := by rw [← hv9]; exact HTX.out.box.cell 6
        clear hn9 hv9
        have HB6 : Hid (Below X0.heap.size X0 (X0.alloc (Obj.cells (msL ej.m lj).toArray 54))) := (Below.refl _ X0).alloc (Nat.le_refl _) _
        have HN6 : Hid ((X0.alloc (Obj.cells (msL ej.m lj).toArray 54)).heap[X0.heap.size]? = some (Obj.cells (msL ej.m lj).toArray 54)) := World.alloc_heap_new X0 _
        have c2 : (X0.alloc (Obj.cells (msL ej.m lj).toArray 54)).cell? ⟨bt, 6, none⟩ = some (.slice va9 n9 vc9) := (World.cell?_of_block (w := X0) (HB6.out.block bt HTX.out.box.lt)).trans c1
        refine wpAnyH_ready (rs := [7, 10]) (by kernel_rfl) (by simp) ?_
        refine AllReadyH.cons rfl (fun K hK => ?_) (AllReadyH.cons rfl (fun K hK => ?_) AllReadyH.nil)
        case' refine_1 =>
          go_simp
          refine hK.out _ _ hHeld (fun hHeld => ?_)
          clear hK K c1 c2
          try simp only [Act.put, List.getElem_toArray, List.getElem_cons_zero, List.getElem_cons_succ, List.setIfInBounds_toArray, List.set_cons_zero, List.set_cons_succ]
          refine wpAnyH_ready (rs := [10]) (by kernel_rfl) (by simp) ?_
          refine AllReadyH.cons rfl (fun K hK => ?_) AllReadyH.nil
          refine step_run rfl (mbuild_run (.tmp 57) rfl (m := ej.m) (s := lj) rfl) ?_
          refine hK.out _ _ (SB.blk hHeld (HB6.out.block _ hHeld.lt)) (fun hHeld => ?_)
          obtain ⟨X1, hX1⟩ : ∃ x, X0.alloc (Obj.cells (msL ej.m lj).toArray 54) = x := ⟨_, rfl⟩
          rw [hX1] at HB6 HN6 hHeld ⊢
          clear hX1 hK K
          try simp only [Act.put, List.getElem_toArray, List.getElem_cons_zero, List.getElem_cons_succ, List.setIfInBounds_toArray, List.set_cons_zero, List.set_cons_succ]
        case' refine_2 =>
          refine step_run rfl (mbuild_run (.tmp 57) rfl (m := ej.m) (s := lj) rfl) ?_
          refine hK.out _ _ (SB.blk hHeld (HB6.out.block _ hHeld.lt)) (fun hHeld => ?_)
          obtain ⟨X1, hX1⟩ : ∃ x, X0.alloc (Obj.cells (msL ej.m lj).toArray 54) = x := ⟨_, rfl⟩
          rw [hX1] at HB6 HN6 hHeld c2 ⊢
          clear hX1 hK K c1
          try simp only [Act.put, List.getElem_toArray, List.getElem_cons_zero, List.getElem_cons_succ, List.setIfInBounds_toArray, List.set_cons_zero, List.set_cons_succ]
          refine wpAnyH_ready (rs := [7]) (by kernel_rfl) (by simp) ?_
          refine AllReadyH.cons rfl (fun K hK => ?_) AllReadyH.nil
          go_simp
          refine hK.out _ _ hHeld (fun hHeld => ?_)
          clear hK K c2
          try simp only [Act.put, List.getElem_toArray, List.getElem_cons_zero, List.getElem_cons_succ, List.setIfInBounds_toArray, List.set_cons_zero, List.set_cons_succ]
        all_goals
          refine wpAnyH_ready (rs := [11]) (by kernel_rfl) (by simp) ?_
          refine AllReadyH.cons rfl (fun K hK => ?_) AllReadyH.nil
          have HO6 : Hid (Gm.OwnL E17 N X1 (.slice va9 n9 vc9) (cj.l 0)) := by rw [← HV9.out]; exact (HTX.out.o 0 (by omega)).1.own.bel HB6.out
          have HM6 : Hid (N ≤ X1.heap.size) := Nat.le_trans HN0.out HB6.out.size
          have HLN : Hid ((cj.l 0).length ≤ 137438953471) := by
            show _ ≤ _
            have h5 := HOL.out.o
            have h6 := (HTX.out.o 0 (by omega)).2
            rw [← h6, List.length_map] at h5
            omega
          have HVB : Hid (∀ g, (Value.slice va9 n9 vc9).ownBlock = some g → cj.A bt g ∧ g ≠ bt) := fun g e => by
            rw [← HV9.out] at e
            have h5 : cj.F bt 7 g := .inl e
            exact ⟨⟨7, by omega, h5⟩, fun e2 => HTX.out.d 7 0 (by omega) (by omega) (by omega) g h5 e2⟩
          refine gstep_app1 E17 _ _ 39 rfl rfl N (.slice va9 n9 vc9) (cj.l 0) (ej.m, lj) HLN.out X1 rfl HO6.out X0.heap.size rfl HM6.out HN6.out rfl (fun v7 X2 ho7 hg7 ha7 => ?_)
          refine hK.out _ _ (SB.blk hHeld (hg7.out.block _ hHeld.lt (fun e2 => HBTM.out.2 (HVB.out _ e2.symm).1))) (fun hHeld => ?_)
          clear hK K
          try simp only [Act.put, List.getElem_toArray, List.getElem_cons_zero, List.getElem_cons_succ, List.setIfInBounds_toArray, List.set_cons_zero, List.set_cons_succ]
          refine wpAnyH_take (i := 14) (v := .pointer (some ⟨bt, 6, none⟩)) rfl (by kernel_rfl) (by kernel_rfl) (by kernel_rfl) (fun _ _ _ h => h) (Or.inl ⟨by rfl, ?_⟩) (by assumption) ?_
          case refine_1 => intro W hSw; go_simp; try rfl
          try simp only [Act.put, List.getElem_toArray, List.getElem_cons_zero, List.getElem_cons_succ, List.setIfInBounds_toArray, List.set_cons_zero, List.set_cons_succ]
          refine wpAnyH_ready (rs := [15]) (by kernel_rfl) (by simp) ?_
          refine AllReadyH.cons rfl (fun K hK => ?_) AllReadyH.nil
          have HBX : Hid (SB TaK bt (taL tj cj) X2) := (HTX.out.box.blk (HB6.out.block bt HTX.out.box.lt)).blk (hg7.out.block _ (Nat.lt_of_lt_of_le HTX.out.box.lt HB6.out.size) (fun e2 => (HVB.out _ e2.symm).2 rfl))
          have f1 : X2.frozen? ⟨bt, 6, none⟩ = false := HBX.out.fro 6
          have c1 : X2.cell? ⟨bt, 6, none⟩ = some (cj.v 0) := HBX.out.cell 6
          obtain ⟨va7, vc7, hv7, -⟩ := ho7.out.form
          obtain ⟨n7, hn7⟩ : ∃ y, (cj.l 0 ++ [(ej.m, lj)]).length = y := ⟨_, rfl⟩
          rw [hn7] at hv7
          subst hv7
          have HB8 : Hid (SB TaK bt (taL { tj with o := upd tj.o 0 (tj.o 0 ++ [ej.m]) } { cj with v := upd cj.v 0 (.slice va7 n7 vc7), l := upd cj.l 0 (cj.l 0 ++ [(ej.m, lj)]) }) (X2.setCell ⟨bt, 6, none⟩ (.slice va7 n7 vc7))) := HBX.out.set 6 _ rfl
          have HK8 : Hid (Ko X2 bt (X2.setCell ⟨bt, 6, none⟩ (.slice va7 n7 vc7))) := Ko.set _ _ _ _
          have HTU := TI.told HTX.out (by omega) HMX.out HFR.out HB6.out ho7.out (by rw [HV9.out]; exact hg7.out) (by rw [HV9.out]; exact ha7.out.imp id (fun e2 => ⟨_, HB6.out.size, e2⟩)) HK8.out HB8.out
          go_simp
          refine hK.out _ _ (SB.blk hHeld (HK8.out.block bm HBTM.out.1)) (fun hHeld => ?_)
          clear hK K f1 c1
          obtain ⟨X3, hX3⟩ : ∃ y, X2.setCell ⟨bt, 6, none⟩ (.slice va7 n7 vc7) = y := ⟨_, rfl⟩
          obtain ⟨c9, hc9⟩ : ∃ y, ({ cj with v := upd cj.v 0 (.slice va7 n7 vc7), l := upd cj.l 0 (cj.l 0 ++ [(ej.m, lj)]) } : Cp) = y := ⟨_, rfl⟩
          have HC9 : Hid (c9.b = cj.b ∧ c9.h = cj.h) := by rw [← hc9]; exact ⟨rfl, rfl⟩
          rw [hX3, hc9, ← HX0.out] at HTU
          have HTV : Hid (TI N X3 bt { tj with o := upd tj.o 0 (tj.o 0 ++ [ej.m]) } c9 ∧ Below 0 wm.drew X3 ∧ (∀ g, g < wm.drew.heap.size → ¬ cj.A bt g → X3.heap[g]? = wm.drew.heap[g]?) ∧ (∀ g, c9.A bt g → cj.A bt g ∨ wm.drew.heap.size ≤ g ∨ Mown lj g)) := HTU
          rw [hX3] at hHeld ⊢
          clear hX3 hc9 HTU HB8 HK8 HBX hn7 ho7 hg7 ha7
          try simp only [Act.put, List.getElem_toArray, List.getElem_cons_zero, List.getElem_cons_succ, List.setIfInBounds_toArray, List.set_cons_zero, List.set_cons_succ]
          refine wpAnyH_done (by kernel_rfl) ?_ _
          clear hHeld
          have HST : Hid (OL N w8 bt 0 c8 (some ⟨b1, o8, none⟩) l t' X3 (j + 1) (evP 0 tj l[j].1) c9) := OL.step HOL.out HEL.out hj3 (by rw [HEJ.out, HEV.out]; exact HTV.out.1) ((HBM.out.mono (Nat.zero_le _)).trans (((drew_bel wm).mono (Nat.zero_le _)).trans HTV.out.2.1)) (fun g hg hn => (HTV.out.2.2.1 g (Nat.lt_of_lt_of_le hg HBM.out.size) hn).trans (HBM.out.block g hg)) (fun g hg => by
            rcases HTV.out.2.2.2 g hg with e | e | e
            · exact .inl e
            · exact .inr (.inl (Nat.le_trans HBM.out.size e))
            · rw [HEJ.out]; exact .inr (.inr e)) HC9.out
          clear HTV
          go_wp2_with fail
          exact ⟨⟨j + 1, _, _, by omega, by simp, HST.out⟩, by simp [intOf]; omega⟩
    · as_aux_lemma =>
      obtain rfl : z2 = j := by omega
      have hjli : ¬ (z2 : Int) < (z2 : Int) := by omega
      have HR : Hid (∃ c', TI N wr bt t' c' ∧ (c'.b = c.b ∧ c'.h = c.h) ∧ Below 0 w wr ∧ (∀ g, g < w.heap.size → ¬ c.A bt g → (∀ p ∈ l, ¬ Mown p.2 g) → wr.heap[g]? = w.heap[g]?) ∧ (∀ g, c'.A bt g → c.A bt g ∨ w.heap.size ≤ g ∨ ∃ p ∈ l, Mown p.2 g)) := by
        have hz := HKL.out.str.size
        have hpl := HOL.out.pl
        rw [List.drop_eq_nil_of_le (by rw [HZ2.out]; exact Nat.le_refl _)] at hpl
        have hpl2 : tj = t' := hpl
        refine ⟨cj, by rw [← hpl2]; exact HOL.out.ti, ⟨HOL.out.sb.1.trans HSB.out.1, HOL.out.sb.2.trans HSB.out.2⟩, HKL.out.str.trans HOL.out.str, fun g hg h1 h2 => (HOL.out.blk g (by omega) (fun e => ?_) (fun p hp => h2 p (List.mem_of_mem_take hp))).trans (HKL.out.blk g hg h1), fun g hg => ?_⟩
        · rcases HKL.out.now g e with e2 | e2
          · exact h1 e2
          · omega
        · rcases HOL.out.now g hg with e | e | ⟨p, hp, hm⟩
          · rcases HKL.out.now g e with e2 | e2
            · exact .inl e2
            · exact .inr (.inl e2)
          · exact .inr (.inl (by omega))
          · exact .inr (.inr ⟨p, List.mem_of_mem_take hp, hm⟩)
      go_wp2_with fail
      go_ret
      exact ⟨rfl, HR.out⟩
set_option maxRecDepth 100000 in
set_option maxHeartbeats 16000000 in
theorem out1_any (N bt : Nat) (t : Tl) (c : Cp) (ou : Ou) (vb ve : Value) (l : List (Ev × Sl)) (w : World) (h : TI N w bt t c) (hN : N ≤ w.heap.size) (ho : OutV N w ou vb ve l) (hap : ∀ g, fpV vb ve l g → ¬ c.A bt g) (hu : ∀ d ∈ ou.b, d < 256) (hk : ∀ e ∈ ou.ev, e.kind = 1 ∨ e.kind = 2 ∨ e.kind = 3) (hlb : (t.y 0).length + ou.b.length ≤ 1000000000) (hle : ou.ev.length ≤ 100000000) (hlo : (t.o 1).length ≤ 1000000000) (hlu : 0 ≤ t.u 1 ∧ t.u 1 ≤ 1000000000) (t' : Tl) (hP : outP t 1 ou = t') :
    Calls Try.prog 9 #[.pointer (some ⟨bt, 0, none⟩), .int .i64 1, .agg #[vb, ve]] w (OtPost N w bt c l t') := by
  have HT : Hid (TI N w bt t c) := h
  have HO : Hid (OutV N w ou vb ve l) := ho
  have HAP : Hid (∀ g, fpV vb ve l g → ¬ c.A bt g) := hap
  have HU : Hid (∀ d ∈ ou.b, d < 256) := hu
  have HK : Hid (∀ e ∈ ou.ev, e.kind = 1 ∨ e.kind = 2 ∨ e.kind = 3) := hk
  have HP : Hid (outP t 1 ou = t') := hP
  have HLL : Hid ((t.y 0).length + ou.b.length ≤ 1000000000 ∧ ou.ev.length ≤ 100000000 ∧ (t.o 1).length ≤ 1000000000 ∧ (0 ≤ t.u 1 ∧ t.u 1 ≤ 1000000000)) := ⟨hlb, hle, hlo, hlu⟩
  have HNN : Hid (N ≤ w.heap.size) := hN
  obtain ⟨x1, y1, e1, cz1, nz1, -⟩ := ho.bys.form
  obtain ⟨x2, y2, e2, cz2, nz2, -⟩ := ho.ev.own.form
  obtain ⟨z1, hz1⟩ : ∃ y, ou.b.length = y := ⟨_, rfl⟩
  obtain ⟨z2, hz2⟩ : ∃ y, l.length = y := ⟨_, rfl⟩
  have HZ1 : Hid (ou.b.length = z1) := hz1
  have HZ2 : Hid (l.length = z2) := hz2
  rw [hz1] at e1 cz1 nz1
  rw [hz2] at e2 cz2 nz2
  have HNZ : Hid (x1 = none → z1 = 0 ∧ y1 = 0) := nz1
  have hz2b : z2 ≤ 100000000 := by rw [← hz2, ← List.length_map (f := fun p => p.1), ho.eq]; exact hle
  subst e1 e2
  clear h hN ho hap hu hk hlb hle hlo hlu hP hz1 hz2 nz1 nz2
  go_enter Try.func9, Try.ntmps9
  go_wp2_with (refine list_sbox OutK rfl _ rfl (cs := [.slice x1 z1 y1, .slice x2 z2 y2]) rfl ?_)
  intro w5 hb5 hbl5 hz5
  obtain ⟨be, hbe⟩ : ∃ y, w.heap.size = y := ⟨_, rfl⟩
  have HX5 : Hid (SB OutK be [.slice x1 z1 y1, .slice x2 z2 y2] w5.drew) := by rw [← hbe]; exact hb5.out
  have HB5 : Hid (Below w.heap.size w w5.drew) := hbl5.out.trans ((drew_bel w5).mono hbl5.out.size)
  have HBE : Hid (w.heap.size = be) := hbe
  have HTB : Hid (bt < w.heap.size) := HT.out.box.lt
  rw [hbe]
  clear hb5 hbl5 hz5 hbe
  go_wp2_with fail
  refine wp_region_held_drew (S := fun W => SB OutK be [.slice x1 z1 y1, .slice x2 z2 y2] W) (by kernel_rfl) HX5.out (fun hHeld => ?_)
  obtain ⟨X0, hX0⟩ : ∃ x, w5.drew = x := ⟨_, rfl⟩
  rw [hX0] at HX5 HB5 hHeld ⊢
  clear hX0
  refine wpAnyH_take (i := 0) (v := ?_) rfl (by kernel_rfl) (by kernel_rfl) (by kernel_rfl) (fun _ _ _ h => h) (Or.inl ⟨by rfl, ?_⟩) (by assumption) ?_
  case refine_2 => intro W hSw; go_simp; try rfl
  try simp only [Act.put, List.getElem_toArray, List.getElem_cons_zero, List.getElem_cons_succ, List.setIfInBounds_toArray, List.set_cons_zero, List.set_cons_succ]
  refine wpAnyH_take (i := 1) (v := ?_) rfl (by kernel_rfl) (by kernel_rfl) (by kernel_rfl) (fun _ _ _ h => h) (Or.inl ⟨by rfl, ?_⟩) (by assumption) ?_
  case refine_2 => intro W hSw; go_simp; try rfl
  try simp only [Act.put, List.getElem_toArray, List.getElem_cons_zero, List.getElem_cons_succ, List.setIfInBounds_toArray, List.set_cons_zero, List.set_cons_succ]
  refine wpAnyH_take (i := 2) (v := .int .i64 0) rfl (by kernel_rfl) (by kernel_rfl) (by kernel_rfl) (fun _ _ _ h => h) (Or.inl ⟨by rfl, ?_⟩) (by assumption) ?_
  case refine_1 => intro W hSw; go_simp; try rfl
  try simp only [Act.put, List.getElem_toArray, List.getElem_cons_zero, List.getElem_cons_succ, List.setIfInBounds_toArray, List.set_cons_zero, List.set_cons_succ]
  refine wpAnyH_take (i := 3) (v := ?_) rfl (by kernel_rfl) (by kernel_rfl) (by kernel_rfl) (fun _ _ _ h => h) (Or.inl ⟨by rfl, ?_⟩) (by assumption) ?_
  case refine_2 => intro W hSw; go_simp; try rfl
  try simp only [Act.put, List.getElem_toArray, List.getElem_cons_zero, List.getElem_cons_succ, List.setIfInBounds_toArray, List.set_cons_zero, List.set_cons_succ]
  refine wpAnyH_take (i := 4) (v := ?_) rfl (by kernel_rfl) (by kernel_rfl) (by kernel_rfl) (fun _ _ _ h => h) (Or.inl ⟨by rfl, ?_⟩) (by assumption) ?_
  case refine_2 => intro W hSw; go_simp; try rfl
  try simp only [Act.put, List.getElem_toArray, List.getElem_cons_zero, List.getElem_cons_succ, List.setIfInBounds_toArray, List.set_cons_zero, List.set_cons_succ]
  refine wpAnyH_take (i := 5) (v := .int .i64 0) rfl (by kernel_rfl) (by kernel_rfl) (by kernel_rfl) (fun _ _ _ h => h) (Or.inl ⟨by rfl, ?_⟩) (by assumption) ?_
  case refine_1 => intro W hSw; go_simp; try rfl
  try simp only [Act.put, List.getElem_toArray, List.getElem_cons_zero, List.getElem_cons_succ, List.setIfInBounds_toArray, List.set_cons_zero, List.set_cons_succ]
  refine wpAnyH_take (i := 6) (v := ?_) rfl (by kernel_rfl) (by kernel_rfl) (by kernel_rfl) (fun _ _ _ h => h) (Or.inl ⟨by rfl, ?_⟩) (by assumption) ?_
  case refine_2 => intro W hSw; go_simp; try rfl
  try simp only [Act.put, List.getElem_toArray, List.getElem_cons_zero, List.getElem_cons_succ, List.setIfInBounds_toArray, List.set_cons_zero, List.set_cons_succ]
  refine wpAnyH_take (i := 7) (v := ?_) rfl (by kernel_rfl) (by kernel_rfl) (by kernel_rfl) (fun _ _ _ h => h) (Or.inl ⟨by rfl, ?_⟩) (by assumption) ?_
  case refine_2 => intro W hSw; go_simp; try rfl
  try simp only [Act.put, List.getElem_toArray, List.getElem_cons_zero, List.getElem_cons_succ, List.setIfInBounds_toArray, List.set_cons_zero, List.set_cons_succ]
  refine wpAnyH_take (i := 8) (v := .pointer (some ⟨bt, 2, none⟩)) rfl (by kernel_rfl) (by kernel_rfl) (by kernel_rfl) (fun _ _ _ h => h) (Or.inl ⟨by rfl, ?_⟩) (by assumption) ?_
  case refine_1 => intro W hSw; go_simp; try rfl
  try simp only [Act.put, List.getElem_toArray, List.getElem_cons_zero, List.getElem_cons_succ, List.setIfInBounds_toArray, List.set_cons_zero, List.set_cons_succ]
  refine wpAnyH_take (i := 10) (v := ?_) rfl (by kernel_rfl) (by kernel_rfl) (by kernel_rfl) (fun _ _ _ h => h) (Or.inl ⟨by rfl, ?_⟩) (by assumption) ?_
  case refine_2 => intro W hSw; go_simp; try rfl
  try simp only [Act.put, List.getElem_toArray, List.getElem_cons_zero, List.getElem_cons_succ, List.setIfInBounds_toArray, List.set_cons_zero, List.set_cons_succ]
  refine wpAnyH_take (i := 11) (v := .slice x1 z1 y1) rfl (by kernel_rfl) (by kernel_rfl) (by kernel_rfl) (fun _ _ _ h => h) (Or.inl ⟨by rfl, ?_⟩) (by assumption) ?_
  case refine_1 => intro W hSw; have cc : W.cell? ⟨be, 0, none⟩ = some (.slice x1 z1 y1) := hSw.cell 0; go_simp; try rfl
  try simp only [Act.put, List.getElem_toArray, List.getElem_cons_zero, List.getElem_cons_succ, List.setIfInBounds_toArray, List.set_cons_zero, List.set_cons_succ]
  refine wpAnyH_take (i := 13) (v := ?_) rfl (by kernel_rfl) (by kernel_rfl) (by kernel_rfl) (fun _ _ _ h => h) (Or.inl ⟨by rfl, ?_⟩) (by assumption) ?_
  case refine_2 => intro W hSw; go_simp; try rfl
  try simp only [Act.put, List.getElem_toArray, List.getElem_cons_zero, List.getElem_cons_succ, List.setIfInBounds_toArray, List.set_cons_zero, List.set_cons_succ]
  refine wpAnyH_take (i := 14) (v := ?_) rfl (by kernel_rfl) (by kernel_rfl) (by kernel_rfl) (fun _ _ _ h => h) (Or.inl ⟨by rfl, ?_⟩) (by assumption) ?_
  case refine_2 => intro W hSw; go_simp; try rfl
  try simp only [Act.put, List.getElem_toArray, List.getElem_cons_zero, List.getElem_cons_succ, List.setIfInBounds_toArray, List.set_cons_zero, List.set_cons_succ]
  refine wpAnyH_ready (rs := [9]) (by kernel_rfl) (by simp) ?_
  refine AllReadyH.cons rfl (fun K hK => ?_) AllReadyH.nil
  have HBT : Hid (SB TaK bt (taL t c) X0) := HT.out.box.blk (HB5.out.block bt HTB.out)
  obtain ⟨va9, vc9, hv9, -⟩ := (HT.out.y 0 (by omega)).1.form
  obtain ⟨n9, hn9⟩ : ∃ y, (t.y 0).length = y := ⟨_, rfl⟩
  have HN9 : Hid ((t.y 0).length = n9) := hn9
  rw [hn9] at hv9
  have HV9 : Hid (c.w 0 = .slice va9 n9 vc9) := hv9
  have c9 : X0.cell? ⟨bt, 2, none⟩ = some (.slice va9 n9 vc9) := by rw [← hv9]; exact HBT.out.cell 2
  clear hn9 hv9
  go_simp
  refine hK.out _ _ hHeld (fun hHeld => ?_)
  clear hK K c9
  try simp only [Act.put, List.getElem_toArray, List.getElem_cons_zero, List.getElem_cons_succ, List.setIfInBounds_toArray, List.set_cons_zero, List.set_cons_succ]
  refine wpAnyH_ready (rs := [12]) (by kernel_rfl) (by simp) ?_
  refine AllReadyH.cons rfl (fun K hK => ?_) AllReadyH.nil
  have HO9 : Hid (OwnL E8 N X0 (.slice va9 n9 vc9) (t.y 0)) := by rw [← HV9.out]; exact (HT.out.y 0 (by omega)).1.bel HB5.out
  have HL9 : Hid ((t.y 0).length + z1 ≤ 1099511627775) := by show _ ≤ _; have := HLL.out.1; have := HZ1.out; omega
  have HS9 : Hid (Lst E8 X0 x1 ou.b) := (HO.out.bys.bel HB5.out).lst.1
  have HN0 : Hid (N ≤ X0.heap.size) := Nat.le_trans HNN.out HB5.out.size
  refine step_appL E8 _ _ 32 rfl rfl N (.slice va9 n9 vc9) (t.y 0) ou.b x1 z1 y1 X0 HL9.out rfl HO9.out rfl HS9.out HNZ.out HZ1.out HN0.out rfl (fun v7 X2 ho7 hg7 ha7 => ?_)
  have HNB : Hid (∀ g, (Value.slice va9 n9 vc9).ownBlock = some g → g < w.heap.size ∧ g ≠ bt) := fun g e => by
    rw [← HV9.out] at e
    exact ⟨((HT.out.y 0 (by omega)).1.row.lt g e).2, fun e2 => HT.out.d 3 0 (by omega) (by omega) (by omega) g e e2⟩
  refine hK.out _ _ (SB.blk hHeld (hg7.out.block _ hHeld.lt (fun e2 => by have := (HNB.out _ e2.symm).1; have := HBE.out; omega))) (fun hHeld => ?_)
  have HBX : Hid (SB TaK bt (taL t c) X2) := HBT.out.blk (hg7.out.block _ HBT.out.lt (fun e2 => (HNB.out _ e2.symm).2 rfl))
  clear hK K
  try simp only [Act.put, List.getElem_toArray, List.getElem_cons_zero, List.getElem_cons_succ, List.setIfInBounds_toArray, List.set_cons_zero, List.set_cons_succ]
  refine wpAnyH_take (i := 15) (v := .pointer (some ⟨bt, 2, none⟩)) rfl (by kernel_rfl) (by kernel_rfl) (by kernel_rfl) (fun _ _ _ h => h) (Or.inl ⟨by rfl, ?_⟩) (by assumption) ?_
  case refine_1 => intro W hSw; go_simp; try rfl
  try simp only [Act.put, List.getElem_toArray, List.getElem_cons_zero, List.getElem_cons_succ, List.setIfInBounds_toArray, List.set_cons_zero, List.set_cons_succ]
  refine wpAnyH_ready (rs := [16]) (by kernel_rfl) (by simp) ?_
  refine AllReadyH.cons rfl (fun K hK => ?_) AllReadyH.nil
  obtain ⟨va7, vc7, hv7, -⟩ := ho7.out.form
  obtain ⟨n7, hn7⟩ : ∃ y, (t.y 0 ++ ou.b).length = y := ⟨_, rfl⟩
  rw [hn7] at hv7
  subst hv7
  have f1 : X2.frozen? ⟨bt, 2, none⟩ = false := HBX.out.fro 2
  have c1 : X2.cell? ⟨bt, 2, none⟩ = some (c.w 0) := HBX.out.cell 2
  have HB8 : Hid (SB TaK bt (taL (wayP t 0 (t.y 0 ++ ou.b)) { c with w := upd c.w 0 (.slice va7 n7 vc7) }) (X2.setCell ⟨bt, 2, none⟩ (.slice va7 n7 vc7))) := HBX.out.set 2 _ rfl
  have HK8 : Hid (Ko X2 bt (X2.setCell ⟨bt, 2, none⟩ (.slice va7 n7 vc7))) := Ko.set _ _ _ _
  have HW8 : Hid (TI N (X2.setCell ⟨bt, 2, none⟩ (.slice va7 n7 vc7)) bt (wayP t 0 (t.y 0 ++ ou.b)) { c with w := upd c.w 0 (.slice va7 n7 vc7) } ∧ Kl X0 (X2.setCell ⟨bt, 2, none⟩ (.slice va7 n7 vc7)) bt c { c with w := upd c.w 0 (.slice va7 n7 vc7) }) := TI.way (HT.out.bel HB5.out) (by omega) (Below.refl _ _) ho7.out (all_u8 (HT.out.y 0 (by omega)).2 HU.out) (by rw [HV9.out]; exact hg7.out) (by rw [HV9.out]; exact ha7.out.imp id (fun e2 => ⟨_, Nat.le_refl _, e2⟩)) HK8.out HB8.out
  go_simp
  refine hK.out _ _ (SB.blk hHeld (HK8.out.block be (by have := HTB.out; have := HBE.out; omega))) (fun hHeld => ?_)
  clear hK K f1 c1
  obtain ⟨w8, hw8⟩ : ∃ y, X2.setCell ⟨bt, 2, none⟩ (.slice va7 n7 vc7) = y := ⟨_, rfl⟩
  rw [hw8] at HB8 HK8 HW8 hHeld ⊢
  clear hw8
  try simp only [Act.put, List.getElem_toArray, List.getElem_cons_zero, List.getElem_cons_succ, List.setIfInBounds_toArray, List.set_cons_zero, List.set_cons_succ]
  refine wpAnyH_done (by kernel_rfl) ?_ _
  have HX8 : Hid (SB OutK be [.slice x1 z1 y1, .slice x2 z2 y2] w8) := hHeld
  clear hHeld
  obtain ⟨c8, hc8⟩ : ∃ y, ({ c with w := upd c.w 0 (.slice va7 n7 vc7) } : Cp) = y := ⟨_, rfl⟩
  obtain ⟨t8, ht8⟩ : ∃ y, wayP t 0 (t.y 0 ++ ou.b) = y := ⟨_, rfl⟩
  have HSB : Hid (c8.b = c.b ∧ c8.h = c.h) := by rw [← hc8]; exact ⟨rfl, rfl⟩
  have HT8U : Hid (t8.u 1 = t.u 1 ∧ t8.o 1 = t.o 1) := by rw [← ht8]; exact ⟨rfl, rfl⟩
  have HP8 : Hid (ou.ev.foldl (evP 1) t8 = t') := by rw [← ht8]; exact HP.out
  rw [hc8, ht8] at HW8
  have HT8 : Hid (TI N w8 bt t8 c8) := HW8.out.1
  have HKX : Hid (Kl X0 w8 bt c c8) := HW8.out.2
  have HKL : Hid (Kl w w8 bt c c8) := ⟨(HB5.out.mono (Nat.zero_le _)).trans HKX.out.str, fun g hg hn => (HKX.out.blk g (Nat.lt_of_lt_of_le hg HB5.out.size) hn).trans (HB5.out.block g hg), fun g hg => (HKX.out.now g hg).imp id (fun e => Nat.le_trans HB5.out.size e)⟩
  have HFV : Hid (∀ g, fpV (.slice x1 z1 y1) (.slice x2 z2 y2) l g → g < w.heap.size ∧ ¬ c8.A bt g) := fun g hg => by
    have h1 : g < w.heap.size := by
      rcases hg with e | e | ⟨p, hp, hm⟩
      · exact (HO.out.bys.row.lt g e).2
      · exact (HO.out.ev.own.row.lt g e).2
      · exact ((HO.out.ev.each p hp).rng g hm).2
    refine ⟨h1, fun e => ?_⟩
    rcases HKL.out.now g e with e2 | e2
    · exact HAP.out g hg e2
    · omega
  have HEL : Hid (El2 w8 bt c8 x2 l) := by
    have hs := HKL.out.str.size
    refine ⟨HO.out.ev.pw, fun p hp g hm => ⟨(HFV.out g (.inr (.inr ⟨p, hp, hm⟩))).2, by have := (HFV.out g (.inr (.inr ⟨p, hp, hm⟩))).1; omega⟩, fun g e => ?_⟩
    have e2 : (Value.slice x2 z2 y2).ownBlock = some g := by rw [ob_own]; exact e
    have h5 := HFV.out g (.inr (.inl e2))
    exact ⟨h5.2, by have := h5.1; omega, fun p hp hm => HO.out.ev.ap p hp g hm e2⟩
  have HOL0 : Hid (OL N w8 bt 1 c8 x2 l t' w8 0 t8 c8) := by
    have hev := HO.out.ev.blk (W' := w8) (fun g e hl => HKL.out.blk g hl (HAP.out g (.inr e)))
    refine ⟨HT8.out, hev.own.lst.1, fun i hi _ => hev.each _ (List.getElem_mem hi), fun _ _ _ _ => rfl, fun g hg => .inl hg, Below.refl _ _, by rw [List.drop_zero, HO.out.eq]; exact HP8.out, Nat.zero_le _, ?_, ?_, rfl, rfl⟩
    · rw [HT8U.out.1]; have := HLL.out.2.2.2; omega
    · rw [HT8U.out.2]; have := HLL.out.2.2.1; omega
  have HEB : Hid (¬ c8.A bt be ∧ be < w8.heap.size ∧ ∀ p ∈ l, ¬ Mown p.2 be) := ⟨fun e => by
    rcases HKX.out.now be e with e2 | e2
    · have := HT.out.lt be e2; have := HBE.out; omega
    · have := HX5.out.lt; omega, HX8.out.lt, fun p hp hm => by have := (HFV.out be (.inr (.inr ⟨p, hp, hm⟩))).1; have := HBE.out; omega⟩
  clear HW8 HB8 HK8 HX5 HKX ho7 hg7 ha7 hn7 hc8 ht8 HO9 HL9 HS9 HN0 HNB HBX HBT HV9 HN9
  have d1 : w8.cell? ⟨be, 1, none⟩ = some (.slice x2 z2 y2) := HX8.out.cell 1
  go_wp2_with fail
  go_loopw [28] (fun kv wr => ∃ (j : Nat) (tj : Tl) (cj : Cp), j ≤ z2 ∧ kv = .int .i64 (j : Int) ∧ OL N w8 bt 1 c8 x2 l t' wr j tj cj) (fun k _ => z2 - (intOf k).toNat)
  case atStart => exact ⟨0, t8, c8, by omega, rfl, HOL0.out⟩
  case round =>
    obtain ⟨j, tj, cj, hj, rfl, hol⟩ := hrel
    have HOL : Hid (OL N w8 bt 1 c8 x2 l t' wr j tj cj) := hol
    clear hol HOL0 d1
    by_cases hjl : j < z2
    · have hjli : (j : Int) < (z2 : Int) := by omega
      have hj0 : (0 : Int) ≤ (j : Int) := by omega
      have hj3 : j < l.length := by rw [HZ2.out]; exact hjl
      obtain ⟨b1, o8, hb1, -, hc1⟩ := lst21 HOL.out.lst j hj3
      obtain ⟨ej, lj, hej⟩ : ∃ m s, l[j] = (m, s) := ⟨_, _, rfl⟩
      have hmo := HOL.out.each j hj3 (Nat.le_refl _)
      have hfr := fun g hm => HOL.out.free g (HEL.out.fr _ (List.getElem_mem hj3) g hm).1 (HEL.out.fr _ (List.getElem_mem hj3) g hm).2 (HEL.out.take hj3 (Nat.le_refl j) g hm)
      have hkd := HK.out l[j].1 (by rw [← HO.out.eq]; exact List.mem_map.2 ⟨_, List.getElem_mem hj3, rfl⟩)
      have hst := @OL.step N w8 wr
      rw [hej] at hc1 hmo hfr hkd
      have HC1 : Hid (∀ y, y < EvK.k → wr.cell? ⟨b1, o8 + j * 21 + y, none⟩ = (evL ej lj)[y]?) := hc1
      have HMO : Hid (MO N wr ej.m lj) := hmo
      have HFR : Hid (∀ g, Mown lj g → ¬ cj.A bt g) := hfr
      have HEJ : Hid (l[j] = (ej, lj)) := hej
      have HKD : Hid (ej.kind = 1 ∨ ej.kind = 2 ∨ ej.kind = 3) := hkd
      subst hb1
      clear hc1 hmo hfr hej hkd hst
      go_wp2_with (first | (refine list_sat EvK rfl _ rfl (b := b1) (k := o8 + j * 21) (cs := evL ej lj) rfl HC1.out rfl ?_) | (refine list_enew rfl rfl ?_))
      intro bm wa hbm hxm hba
      go_wp2_with (refine list_sstore EvK rfl _ _ rfl (b := bm) (cs := evL ⟨0, 0, 0, 0, ms0⟩ sZ) (cs' := evL ej lj) rfl rfl hxm.out rfl rfl rfl ?_)
      intro wm hxm2 hkm
      have HXM : Hid (SB EvK bm (evL ej lj) wm) := hxm2.out
      have HBM : Hid (Below wr.heap.size wr wm) := hba.out.trans (hkm.out.below (by have := hbm.out; omega))
      have HBME : Hid (wr.heap.size = bm) := hbm.out
      have HTM : Hid (TI N wm bt tj cj) := HOL.out.ti.bel HBM.out
      have HMOM : Hid (MO N wm ej.m lj) := HMO.out.blk (fun g _ _ hl => HBM.out.block g hl)
      have HNM : Hid (N ≤ wm.heap.size) := Nat.le_trans HNN.out (Nat.le_trans HKL.out.str.size (Nat.le_trans HOL.out.str.size HBM.out.size))
      have d0 : wm.cell? ⟨bm, 0, none⟩ = some (.int .i64 ej.kind) := HXM.out.cell 0
      clear hbm hxm hba hxm2 hkm
      rcases HKD.out with hk1 | hk1 | hk1
      · as_aux_lemma =>
        rw [hk1] at d0
        have HEV : Hid (evP 1 tj ej = { tj with u := upd tj.u 1 (tj.u 1 + 1) }) := by show _ = _; unfold evP; rw [if_pos hk1]
        clear hk1
        go_wp2_with fail
        have HBU : Hid (SB TaK bt (taL tj cj) wm.drew) := HTM.out.box
        obtain ⟨uv, huv⟩ : ∃ y, tj.u 1 = y := ⟨_, rfl⟩
        have HUV : Hid (tj.u 1 = uv) := huv
        have hub : 0 ≤ uv ∧ uv ≤ 1000000000 + j := by rw [← huv]; exact HOL.out.u
        clear huv
        have hwr : IntKind.i64.wrap (uv + 1) = uv + 1 := IntWalk.i64_in _ (by omega)
        refine wp_region_held_drew (S := fun _ => True) (by kernel_rfl) trivial (fun hHeld => ?_)
        obtain ⟨X0, hX0⟩ : ∃ x, wm.drew = x := ⟨_, rfl⟩
        have HTX : Hid (TI N X0 bt tj cj) := by rw [← hX0]; exact HTM.out.bel (drew_bel wm)
        have HX0 : Hid (wm.drew = X0) := hX0
        rw [hX0] at HBU ⊢
        clear hX0
        refine wpAnyH_take (i := 0) (v := ?_) rfl (by kernel_rfl) (by kernel_rfl) (by kernel_rfl) (fun _ _ _ h => h) (Or.inl ⟨by rfl, ?_⟩) (by assumption) ?_
        case refine_2 => intro W hSw; go_simp; try rfl
        try simp only [Act.put, List.getElem_toArray, List.getElem_cons_zero, List.getElem_cons_succ, List.setIfInBounds_toArray, List.set_cons_zero, List.set_cons_succ]
        refine wpAnyH_take (i := 1) (v := ?_) rfl (by kernel_rfl) (by kernel_rfl) (by kernel_rfl) (fun _ _ _ h => h) (Or.inl ⟨by rfl, ?_⟩) (by assumption) ?_
        case refine_2 => intro W hSw; go_simp; try rfl
        try simp only [Act.put, List.getElem_toArray, List.getElem_cons_zero, List.getElem_cons_succ, List.setIfInBounds_toArray, List.set_cons_zero, List.set_cons_succ]
        refine wpAnyH_take (i := 2) (v := ?_) rfl (by kernel_rfl) (by kernel_rfl) (by kernel_rfl) (fun _ _ _ h => h) (Or.inl ⟨by rfl, ?_⟩) (by assumption) ?_
        case refine_2 => intro W hSw; go_simp; try rfl
        try simp only [Act.put, List.getElem_toArray, List.getElem_cons_zero, List.getElem_cons_succ, List.setIfInBounds_toArray, List.set_cons_zero, List.set_cons_succ]
        refine wpAnyH_take (i := 3) (v := ?_) rfl (by kernel_rfl) (by kernel_rfl) (by kernel_rfl) (fun _ _ _ h => h) (Or.inl ⟨by rfl, ?_⟩) (by assumption) ?_
        case refine_2 => intro W hSw; go_simp; try rfl
        try simp only [Act.put, List.getElem_toArray, List.getElem_cons_zero, List.getElem_cons_succ, List.setIfInBounds_toArray, List.set_cons_zero, List.set_cons_succ]
        refine wpAnyH_take (i := 4) (v := .pointer (some ⟨bt, 9, none⟩)) rfl (by kernel_rfl) (by kernel_rfl) (by kernel_rfl) (fun _ _ _ h => h) (Or.inl ⟨by rfl, ?_⟩) (by assumption) ?_
        case refine_1 => intro W hSw; go_simp; try rfl
        try simp only [Act.put, List.getElem_toArray, List.getElem_cons_zero, List.getElem_cons_succ, List.setIfInBounds_toArray, List.set_cons_zero, List.set_cons_succ]
        refine wpAnyH_take (i := 7) (v := ?_) rfl (by kernel_rfl) (by kernel_rfl) (by kernel_rfl) (fun _ _ _ h => h) (Or.inl ⟨by rfl, ?_⟩) (by assumption) ?_
        case refine_2 => intro W hSw; go_simp; try rfl
        try simp only [Act.put, List.getElem_toArray, List.getElem_cons_zero, List.getElem_cons_succ, List.setIfInBounds_toArray, List.set_cons_zero, List.set_cons_succ]
        refine wpAnyH_take (i := 8) (v := ?_) rfl (by kernel_rfl) (by kernel_rfl) (by kernel_rfl) (fun _ _ _ h => h) (Or.inl ⟨by rfl, ?_⟩) (by assumption) ?_
        case refine_2 => intro W hSw; go_simp; try rfl
        try simp only [Act.put, List.getElem_toArray, List.getElem_cons_zero, List.getElem_cons_succ, List.setIfInBounds_toArray, List.set_cons_zero, List.set_cons_succ]
        refine wpAnyH_ready (rs := [5]) (by kernel_rfl) (by simp) ?_
        refine AllReadyH.cons rfl (fun K hK => ?_) AllReadyH.nil
        have cu : X0.cell? ⟨bt, 9, none⟩ = some (.int .i64 uv) := by rw [← HUV.out]; exact HBU.out.cell 9
        go_simp
        refine hK.out _ _ trivial (fun hHeld => ?_)
        clear hK K
        try simp only [Act.put, List.getElem_toArray, List.getElem_cons_zero, List.getElem_cons_succ, List.setIfInBounds_toArray, List.set_cons_zero, List.set_cons_succ]
        refine wpAnyH_take (i := 6) (v := .int .i64 (uv + 1)) rfl (by kernel_rfl) (by kernel_rfl) (by kernel_rfl) (fun _ _ _ h => h) (Or.inl ⟨by rfl, ?_⟩) (by assumption) ?_
        case refine_1 => intro W hSw; go_simp; try simp only [hwr]
        try simp only [Act.put, List.getElem_toArray, List.getElem_cons_zero, List.getElem_cons_succ, List.setIfInBounds_toArray, List.set_cons_zero, List.set_cons_succ]
        refine wpAnyH_take (i := 9) (v := .pointer (some ⟨bt, 9, none⟩)) rfl (by kernel_rfl) (by kernel_rfl) (by kernel_rfl) (fun _ _ _ h => h) (Or.inl ⟨by rfl, ?_⟩) (by assumption) ?_
        case refine_1 => intro W hSw; go_simp; try rfl
        try simp only [Act.put, List.getElem_toArray, List.getElem_cons_zero, List.getElem_cons_succ, List.setIfInBounds_toArray, List.set_cons_zero, List.set_cons_succ]
        refine wpAnyH_ready (rs := [10]) (by kernel_rfl) (by simp) ?_
        refine AllReadyH.cons rfl (fun K hK => ?_) AllReadyH.nil
        have fu : X0.frozen? ⟨bt, 9, none⟩ = false := HBU.out.fro 9
        have HB9 : Hid (SB TaK bt (taL { tj with u := upd tj.u 1 (tj.u 1 + 1) } cj) (X0.setCell ⟨bt, 9, none⟩ (.int .i64 (uv + 1)))) := HBU.out.set 9 _ (by rw [← HUV.out]; rfl)
        have HTU : Hid (TI N (X0.setCell ⟨bt, 9, none⟩ (.int .i64 (uv + 1))) bt { tj with u := upd tj.u 1 (tj.u 1 + 1) } cj ∧ Kl wm.drew (X0.setCell ⟨bt, 9, none⟩ (.int .i64 (uv + 1))) bt cj cj) := by rw [HX0.out]; exact TI.turn HTX.out (Ko.set _ _ _ _) HB9.out ⟨rfl, rfl, rfl, rfl⟩
        go_simp
        refine hK.out _ _ trivial (fun hHeld => ?_)
        clear hK K cu fu
        obtain ⟨X1, hX1⟩ : ∃ x, X0.setCell ⟨bt, 9, none⟩ (.int .i64 (uv + 1)) = x := ⟨_, rfl⟩
        rw [hX1] at HTU ⊢
        clear hX1 HB9 HBU HTX HX0 hwr
        try simp only [Act.put, List.getElem_toArray, List.getElem_cons_zero, List.getElem_cons_succ, List.setIfInBounds_toArray, List.set_cons_zero, List.set_cons_succ]
        refine wpAnyH_done (by kernel_rfl) ?_ _
        clear hHeld
        have HST : Hid (OL N w8 bt 1 c8 (some ⟨b1, o8, none⟩) l t' X1 (j + 1) (evP 1 tj l[j].1) cj) := OL.step HOL.out HEL.out hj3 (by rw [HEJ.out, HEV.out]; exact HTU.out.1) ((HBM.out.mono (Nat.zero_le _)).trans (((drew_bel wm).mono (Nat.zero_le _)).trans HTU.out.2.str)) (fun g hg hn => (HTU.out.2.blk g (Nat.lt_of_lt_of_le hg HBM.out.size) hn).trans (HBM.out.block g hg)) (fun g hg => .inl hg) ⟨rfl, rfl⟩
        clear HTU
        go_wp2_with fail
        exact ⟨⟨j + 1, _, _, by omega, by simp, HST.out⟩, by simp [intOf]; omega⟩
      · as_aux_lemma =>
        rw [hk1] at d0
        have HEV : Hid (evP 1 tj ej = tj) := by show _ = _; unfold evP; rw [if_neg (by rw [hk1]; decide), if_neg (by rw [hk1]; decide)]
        clear hk1
        have HST : Hid (OL N w8 bt 1 c8 (some ⟨b1, o8, none⟩) l t' wm (j + 1) (evP 1 tj l[j].1) cj) := OL.step HOL.out HEL.out hj3 (by rw [HEJ.out, HEV.out]; exact HTM.out) (HBM.out.mono (Nat.zero_le _)) (fun g hg hn => HBM.out.block g hg) (fun g hg => .inl hg) ⟨rfl, rfl⟩
        go_wp2_with fail
        exact ⟨⟨j + 1, _, _, by omega, by simp, HST.out⟩, by simp [intOf]; omega⟩
      · as_aux_lemma =>
        rw [hk1] at d0
        have HEV : Hid (evP 1 tj ej = { tj with o := upd tj.o 1 (tj.o 1 ++ [ej.m]) }) := by show _ = _; unfold evP; rw [if_neg (by rw [hk1]; decide), if_pos hk1]
        clear hk1
        go_wp2_with fail
        have HXD : Hid (SB EvK bm (evL ej lj) wm.drew) := HXM.out
        refine wp_region_held_drew (S := fun W => SB EvK bm (evL ej lj) W) (by kernel_rfl) HXD.out (fun hHeld => ?_)
        obtain ⟨X0, hX0⟩ : ∃ x, wm.drew = x := ⟨_, rfl⟩
        have HTX : Hid (TI N X0 bt tj cj) := by rw [← hX0]; exact HTM.out.bel (drew_bel wm)
        have HMX : Hid (MO N X0 ej.m lj) := by rw [← hX0]; exact HMOM.out.blk (fun g _ _ hl => (drew_bel wm).block g hl)
        have HN0 : Hid (N ≤ X0.heap.size) := by rw [← hX0]; exact HNM.out
        have HX0 : Hid (wm.drew = X0) := hX0
        have HBTM : Hid (bm ≠ bt ∧ ¬ cj.A bt bm) := by
          have h5 : ¬ cj.A bt bm := fun e => by have := HOL.out.ti.lt bm e; have := HBME.out; omega
          exact ⟨fun e => h5 ⟨0, by omega, e⟩, h5⟩
        rw [hX0] at hHeld ⊢
        clear hX0 HXD
        refine wpAnyH_take (i := 0) (v := ?_) rfl (by kernel_rfl) (by kernel_rfl) (by kernel_rfl) (fun _ _ _ h => h) (Or.inl ⟨by rfl, ?_⟩) (by assumption) ?_
        case refine_2 => intro W hSw; go_simp; try rfl
        try simp only [Act.put, List.getElem_toArray, List.getElem_cons_zero, List.getElem_cons_succ, List.setIfInBounds_toArray, List.set_cons_zero, List.set_cons_succ]
        refine wpAnyH_take (i := 1) (v := ?_) rfl (by kernel_rfl) (by kernel_rfl) (by kernel_rfl) (fun _ _ _ h => h) (Or.inl ⟨by rfl, ?_⟩) (by assumption) ?_
        case refine_2 => intro W hSw; go_simp; try rfl
        try simp only [Act.put, List.getElem_toArray, List.getElem_cons_zero, List.getElem_cons_succ, List.setIfInBounds_toArray, List.set_cons_zero, List.set_cons_succ]
        refine wpAnyH_take (i := 2) (v := ?_) rfl (by kernel_rfl) (by kernel_rfl) (by kernel_rfl) (fun _ _ _ h => h) (Or.inl ⟨by rfl, ?_⟩) (by assumption) ?_
        case refine_2 => intro W hSw; go_simp; try rfl
        try simp only [Act.put, List.getElem_toArray, List.getElem_cons_zero, List.getElem_cons_succ, List.setIfInBounds_toArray, List.set_cons_zero, List.set_cons_succ]
        refine wpAnyH_take (i := 3) (v := ?_) rfl (by kernel_rfl) (by kernel_rfl) (by kernel_rfl) (fun _ _ _ h => h) (Or.inl ⟨by rfl, ?_⟩) (by assumption) ?_
        case refine_2 => intro W hSw; go_simp; try rfl
        try simp only [Act.put, List.getElem_toArray, List.getElem_cons_zero, List.getElem_cons_succ, List.setIfInBounds_toArray, List.set_cons_zero, List.set_cons_succ]
        refine wpAnyH_take (i := 4) (v := ?_) rfl (by kernel_rfl) (by kernel_rfl) (by kernel_rfl) (fun _ _ _ h => h) (Or.inl ⟨by rfl, ?_⟩) (by assumption) ?_
        case refine_2 => intro W hSw; go_simp; try rfl
        try simp only [Act.put, List.getElem_toArray, List.getElem_cons_zero, List.getElem_cons_succ, List.setIfInBounds_toArray, List.set_cons_zero, List.set_cons_succ]
        refine wpAnyH_take (i := 5) (v := ?_) rfl (by kernel_rfl) (by kernel_rfl) (by kernel_rfl) (fun _ _ _ h => h) (Or.inl ⟨by rfl, ?_⟩) (by assumption) ?_
        case refine_2 => intro W hSw; go_simp; try rfl
        try simp only [Act.put, List.getElem_toArray, List.getElem_cons_zero, List.getElem_cons_succ, List.setIfInBounds_toArray, List.set_cons_zero, List.set_cons_succ]
        refine wpAnyH_take (i := 6) (v := .pointer (some ⟨bt, 7, none⟩)) rfl (by kernel_rfl) (by kernel_rfl) (by kernel_rfl) (fun _ _ _ h => h) (Or.inl ⟨by rfl, ?_⟩) (by assumption) ?_
        case refine_1 => intro W hSw; go_simp; try rfl
        try simp only [Act.put, List.getElem_toArray, List.getElem_cons_zero, List.getElem_cons_succ, List.setIfInBounds_toArray, List.set_cons_zero, List.set_cons_succ]
        refine wpAnyH_take (i := 8) (v := .pointer (some ⟨bm, 4, none⟩)) rfl (by kernel_rfl) (by kernel_rfl) (by kernel_rfl) (fun _ _ _ h => h) (Or.inl ⟨by rfl, ?_⟩) (by assumption) ?_
        case refine_1 => intro W hSw; go_simp; try rfl
        try simp only [Act.put, List.getElem_toArray, List.getElem_cons_zero, List.getElem_cons_succ, List.setIfInBounds_toArray, List.set_cons_zero, List.set_cons_succ]
        refine wpAnyH_take (i := 9) (v := .agg (msL ej.m lj).toArray) rfl (by kernel_rfl) (by kernel_rfl) (by kernel_rfl) (fun _ _ _ h => h) (Or.inl ⟨by rfl, fun W hSw => sat_run PmK (.tmp 56) rfl (b := bm) (k := 4) rfl (fun j hj => by rw [hSw.cell, Nat.add_comm 4 j]; rfl) rfl⟩) (by assumption) ?_
        try simp only [Act.put, List.getElem_toArray, List.getElem_cons_zero, List.getElem_cons_succ, List.setIfInBounds_toArray, List.set_cons_zero, List.set_cons_succ]
        refine wpAnyH_take (i := 12) (v := ?_) rfl (by kernel_rfl) (by kernel_rfl) (by kernel_rfl) (fun _ _ _ h => h) (Or.inl ⟨by rfl, ?_⟩) (by assumption) ?_
        case refine_2 => intro W hSw; go_simp; try rfl
        try simp only [Act.put, List.getElem_toArray, List.getElem_cons_zero, List.getElem_cons_succ, List.setIfInBounds_toArray, List.set_cons_zero, List.set_cons_succ]
        refine wpAnyH_take (i := 13) (v := ?_) rfl (by kernel_rfl) (by kernel_rfl) (by kernel_rfl) (fun _ _ _ h => h) (Or.inl ⟨by rfl, ?_⟩) (by assumption) ?_
        case refine_2 => intro W hSw; go_simp; try rfl
        try simp only [Act.put, List.getElem_toArray, List.getElem_cons_zero, List.getElem_cons_succ, List.setIfInBounds_toArray, List.set_cons_zero, List.set_cons_succ]
        obtain ⟨va9, vc9, hv9, -⟩ := (HTX.out.o 1 (by omega)).1.own.form
        obtain ⟨n9, hn9⟩ : ∃ y, (cj.l 1).length = y := ⟨_, rfl⟩
        have HN9 : Hid ((cj.l 1).length = n9) := hn9
        rw [hn9] at hv9
        have HV9 : Hid (cj.v 1 = .slice va9 n9 vc9) := hv9
        have c1 : X0.cell? ⟨bt, 7, none⟩ = some (.slice va9 n9 vc9) := by rw [← hv9]; exact HTX.out.box.cell 7
        clear hn9 hv9
        have HB6 : Hid (Below X0.heap.size X0 (X0.alloc (Obj.cells (msL ej.m lj).toArray 54))) := (Below.refl _ X0).alloc (Nat.le_refl _) _
        have HN6 : Hid ((X0.alloc (Obj.cells (msL ej.m lj).toArray 54)).heap[X0.heap.size]? = some (Obj.cells (msL ej.m lj).toArray 54)) := World.alloc_heap_new X0 _
        have c2 : (X0.alloc (Obj.cells (msL ej.m lj).toArray 54)).cell? ⟨bt, 7, none⟩ = some (.slice va9 n9 vc9) := (World.cell?_of_block (w := X0) (HB6.out.block bt HTX.out.box.lt)).trans c1
        refine wpAnyH_ready (rs := [7, 10]) (by kernel_rfl) (by simp) ?_
        refine AllReadyH.cons rfl (fun K hK => ?_) (AllReadyH.cons rfl (fun K hK => ?_) AllReadyH.nil)
        case' refine_1 =>
          go_simp
          refine hK.out _ _ hHeld (fun hHeld => ?_)
          clear hK K c1 c2
          try simp only [Act.put, List.getElem_toArray, List.getElem_cons_zero, List.getElem_cons_succ, List.setIfInBounds_toArray, List.set_cons_zero, List.set_cons_succ]
          refine wpAnyH_ready (rs := [10]) (by kernel_rfl) (by simp) ?_
          refine AllReadyH.cons rfl (fun K hK => ?_) AllReadyH.nil
          refine step_run rfl (mbuild_run (.tmp 57) rfl (m := ej.m) (s := lj) rfl) ?_
          refine hK.out _ _ (SB.blk hHeld (HB6.out.block _ hHeld.lt)) (fun hHeld => ?_)
          obtain ⟨X1, hX1⟩ : ∃ x, X0.alloc (Obj.cells (msL ej.m lj).toArray 54) = x := ⟨_, rfl⟩
          rw [hX1] at HB6 HN6 hHeld ⊢
          clear hX1 hK K
          try simp only [Act.put, List.getElem_toArray, List.getElem_cons_zero, List.getElem_cons_succ, List.setIfInBounds_toArray, List.set_cons_zero, List.set_cons_succ]
        case' refine_2 =>
          refine step_run rfl (mbuild_run (.tmp 57) rfl (m := ej.m) (s := lj) rfl) ?_
          refine hK.out _ _ (SB.blk hHeld (HB6.out.block _ hHeld.lt)) (fun hHeld => ?_)
          obtain ⟨X1, hX1⟩ : ∃ x, X0.alloc (Obj.cells (msL ej.m lj).toArray 54) = x := ⟨_, rfl⟩
          rw [hX1] at HB6 HN6 hHeld c2 ⊢
          clear hX1 hK K c1
          try simp only [Act.put, List.getElem_toArray, List.getElem_cons_zero, List.getElem_cons_succ, List.setIfInBounds_toArray, List.set_cons_zero, List.set_cons_succ]
          refine wpAnyH_ready (rs := [7]) (by kernel_rfl) (by simp) ?_
          refine AllReadyH.cons rfl (fun K hK => ?_) AllReadyH.nil
          go_simp
          refine hK.out _ _ hHeld (fun hHeld => ?_)
          clear hK K c2
          try simp only [Act.put, List.getElem_toArray, List.getElem_cons_zero, List.getElem_cons_succ, List.setIfInBounds_toArray, List.set_cons_zero, List.set_cons_succ]
        all_goals
          refine wpAnyH_ready (rs := [11]) (by kernel_rfl) (by simp) ?_
          refine AllReadyH.cons rfl (fun K hK => ?_) AllReadyH.nil
          have HO6 : Hid (Gm.OwnL E17 N X1 (.slice va9 n9 vc9) (cj.l 1)) := by rw [← HV9.out]; exact (HTX.out.o 1 (by omega)).1.own.bel HB6.out
          have HM6 : Hid (N ≤ X1.heap.size) := Nat.le_trans HN0.out HB6.out.size
          have HLN : Hid ((cj.l 1).length ≤ 137438953471) := by
            show _ ≤ _
            have h5 := HOL.out.o
            have h6 := (HTX.out.o 1 (by omega)).2
            rw [← h6, List.length_map] at h5
            omega
          have HVB : Hid (∀ g, (Value.slice va9 n9 vc9).ownBlock = some g → cj.A bt g ∧ g ≠ bt) := fun g e => by
            rw [← HV9.out] at e
            have h5 : cj.F bt 8 g := .inl e
            exact ⟨⟨8, by omega, h5⟩, fun e2 => HTX.out.d 8 0 (by omega) (by omega) (by omega) g h5 e2⟩
          refine gstep_app1 E17 _ _ 39 rfl rfl N (.slice va9 n9 vc9) (cj.l 1) (ej.m, lj) HLN.out X1 rfl HO6.out X0.heap.size rfl HM6.out HN6.out rfl (fun v7 X2 ho7 hg7 ha7 => ?_)
          refine hK.out _ _ (SB.blk hHeld (hg7.out.block _ hHeld.lt (fun e2 => HBTM.out.2 (HVB.out _ e2.symm).1))) (fun hHeld => ?_)
          clear hK K
          try simp only [Act.put, List.getElem_toArray, List.getElem_cons_zero, List.getElem_cons_succ, List.setIfInBounds_toArray, List.set_cons_zero, List.set_cons_succ]
          refine wpAnyH_take (i := 14) (v := .pointer (some ⟨bt, 7, none⟩)) rfl (by kernel_rfl) (by kernel_rfl) (by kernel_rfl) (fun _ _ _ h => h) (Or.inl ⟨by rfl, ?_⟩) (by assumption) ?_
          case refine_1 => intro W hSw; go_simp; try rfl
          try simp only [Act.put, List.getElem_toArray, List.getElem_cons_zero, List.getElem_cons_succ, List.setIfInBounds_toArray, List.set_cons_zero, List.set_cons_succ]
          refine wpAnyH_ready (rs := [15]) (by kernel_rfl) (by simp) ?_
          refine AllReadyH.cons rfl (fun K hK => ?_) AllReadyH.nil
          have HBX : Hid (SB TaK bt (taL tj cj) X2) := (HTX.out.box.blk (HB6.out.block bt HTX.out.box.lt)).blk (hg7.out.block _ (Nat.lt_of_lt_of_le HTX.out.box.lt HB6.out.size) (fun e2 => (HVB.out _ e2.symm).2 rfl))
          have f1 : X2.frozen? ⟨bt, 7, none⟩ = false := HBX.out.fro 7
          have c1 : X2.cell? ⟨bt, 7, none⟩ = some (cj.v 1) := HBX.out.cell 7
          obtain ⟨va7, vc7, hv7, -⟩ := ho7.out.form
          obtain ⟨n7, hn7⟩ : ∃ y, (cj.l 1 ++ [(ej.m, lj)]).length = y := ⟨_, rfl⟩
          rw [hn7] at hv7
          subst hv7
          have HB8 : Hid (SB TaK bt (taL { tj with o := upd tj.o 1 (tj.o 1 ++ [ej.m]) } { cj with v := upd cj.v 1 (.slice va7 n7 vc7), l := upd cj.l 1 (cj.l 1 ++ [(ej.m, lj)]) }) (X2.setCell ⟨bt, 7, none⟩ (.slice va7 n7 vc7))) := HBX.out.set 7 _ rfl
          have HK8 : Hid (Ko X2 bt (X2.setCell ⟨bt, 7, none⟩ (.slice va7 n7 vc7))) := Ko.set _ _ _ _
          have HTU := TI.told HTX.out (by omega) HMX.out HFR.out HB6.out ho7.out (by rw [HV9.out]; exact hg7.out) (by rw [HV9.out]; exact ha7.out.imp id (fun e2 => ⟨_, HB6.out.size, e2⟩)) HK8.out HB8.out
          go_simp
          refine hK.out _ _ (SB.blk hHeld (HK8.out.block bm HBTM.out.1)) (fun hHeld => ?_)
          clear hK K f1 c1
          obtain ⟨X3, hX3⟩ : ∃ y, X2.setCell ⟨bt, 7, none⟩ (.slice va7 n7 vc7) = y := ⟨_, rfl⟩
          obtain ⟨c9, hc9⟩ : ∃ y, ({ cj with v := upd cj.v 1 (.slice va7 n7 vc7), l := upd cj.l 1 (cj.l 1 ++ [(ej.m, lj)]) } : Cp) = y := ⟨_, rfl⟩
          have HC9 : Hid (c9.b = cj.b ∧ c9.h = cj.h) := by rw [← hc9]; exact ⟨rfl, rfl⟩
          rw [hX3, hc9, ← HX0.out] at HTU
          have HTV : Hid (TI N X3 bt { tj with o := upd tj.o 1 (tj.o 1 ++ [ej.m]) } c9 ∧ Below 0 wm.drew X3 ∧ (∀ g, g < wm.drew.heap.size → ¬ cj.A bt g → X3.heap[g]? = wm.drew.heap[g]?) ∧ (∀ g, c9.A bt g → cj.A bt g ∨ wm.drew.heap.size ≤ g ∨ Mown lj g)) := HTU
          rw [hX3] at hHeld ⊢
          clear hX3 hc9 HTU HB8 HK8 HBX hn7 ho7 hg7 ha7
          try simp only [Act.put, List.getElem_toArray, List.getElem_cons_zero, List.getElem_cons_succ, List.setIfInBounds_toArray, List.set_cons_zero, List.set_cons_succ]
          refine wpAnyH_done (by kernel_rfl) ?_ _
          clear hHeld
          have HST : Hid (OL N w8 bt 1 c8 (some ⟨b1, o8, none⟩) l t' X3 (j + 1) (evP 1 tj l[j].1) c9) := OL.step HOL.out HEL.out hj3 (by rw [HEJ.out, HEV.out]; exact HTV.out.1) ((HBM.out.mono (Nat.zero_le _)).trans (((drew_bel wm).mono (Nat.zero_le _)).trans HTV.out.2.1)) (fun g hg hn => (HTV.out.2.2.1 g (Nat.lt_of_lt_of_le hg HBM.out.size) hn).trans (HBM.out.block g hg)) (fun g hg => by
            rcases HTV.out.2.2.2 g hg with e | e | e
            · exact .inl e
            · exact .inr (.inl (Nat.le_trans HBM.out.size e))
            · rw [HEJ.out]; exact .inr (.inr e)) HC9.out
          clear HTV
          go_wp2_with fail
          exact ⟨⟨j + 1, _, _, by omega, by simp, HST.out⟩, by simp [intOf]; omega⟩
    · as_aux_lemma =>
      obtain rfl : z2 = j := by omega
      have hjli : ¬ (z2 : Int) < (z2 : Int) := by omega
      have HR : Hid (∃ c', TI N wr bt t' c' ∧ (c'.b = c.b ∧ c'.h = c.h) ∧ Below 0 w wr ∧ (∀ g, g < w.heap.size → ¬ c.A bt g → (∀ p ∈ l, ¬ Mown p.2 g) → wr.heap[g]? = w.heap[g]?) ∧ (∀ g, c'.A bt g → c.A bt g ∨ w.heap.size ≤ g ∨ ∃ p ∈ l, Mown p.2 g)) := by
        have hz := HKL.out.str.size
        have hpl := HOL.out.pl
        rw [List.drop_eq_nil_of_le (by rw [HZ2.out]; exact Nat.le_refl _)] at hpl
        have hpl2 : tj = t' := hpl
        refine ⟨cj, by rw [← hpl2]; exact HOL.out.ti, ⟨HOL.out.sb.1.trans HSB.out.1, HOL.out.sb.2.trans HSB.out.2⟩, HKL.out.str.trans HOL.out.str, fun g hg h1 h2 => (HOL.out.blk g (by omega) (fun e => ?_) (fun p hp => h2 p (List.mem_of_mem_take hp))).trans (HKL.out.blk g hg h1), fun g hg => ?_⟩
        · rcases HKL.out.now g e with e2 | e2
          · exact h1 e2
          · omega
        · rcases HOL.out.now g hg with e | e | ⟨p, hp, hm⟩
          · rcases HKL.out.now g e with e2 | e2
            · exact .inl e2
            · exact .inr (.inl e2)
          · exact .inr (.inl (by omega))
          · exact .inr (.inr ⟨p, List.mem_of_mem_take hp, hm⟩)
      go_wp2_with fail
      go_ret
      exact ⟨rfl, HR.out⟩
end Go.Proofs.Ytanboekdfdafmaa.Pv
namespace Go.Proofs.Ytanboekdfdafmaa.Pv
open Go.ChangeShapes Go.WideShapes Go.ChangeAt Go.RowKit Go.Joins Go.Deep Go.Proofs.Ytanboekdfdafmaa.PM Go.Proofs.Ytanboekdfdafmaa.Ask Go.Proofs.Ytanboekdfdafmaa.Ge
set_option linter.unusedVariables false
set_option linter.unusedSimpArgs false

/-- bytes are bytes, and what happens is of a kind -/
structure Oo (o : Ou) : Prop where
  u8 : ∀ d ∈ o.b, d < 256
  kd : ∀ e ∈ o.ev, e.kind = 1 ∨ e.kind = 2 ∨ e.kind = 3
theorem Oo.nil : Oo ⟨[], []⟩ := ⟨(fun d h => by cases h), (fun e h => by cases h)⟩
theorem Oo.send {o : Ou} (h : Oo o) (s : Se) (m : Ms) : Oo (sendP s o m).2 := by
  unfold sendP
  split
  · exact ⟨all_u8 h.u8 (encB_u8 m), h.kd⟩
  · exact h
theorem Oo.tell {o : Ou} (h : Oo o) {e : Ev} (he : e.kind = 1 ∨ e.kind = 2 ∨ e.kind = 3) : Oo (tellP o e) := ⟨h.u8, fun x hx => by
  rcases List.mem_append.1 hx with hx | hx
  · exact h.kd x hx
  · rw [List.mem_singleton] at hx; subst hx; exact he⟩
theorem Oo.end {o : Ou} (h : Oo o) (s : Se) (c : Int) : Oo (endP s o c).2 := by
  have h1 : Oo (end1 s o c).2 := by
    unfold end1
    split
    · exact h
    · exact h.send s _
  unfold endP end2
  dsimp only
  split
  · exact h1.tell (.inr (.inl rfl))
  · exact h1
theorem Oo.due {o : Ou} (h : Oo o) (s : Se) : Oo (dueP s o).2 := by
  unfold dueP
  split
  · exact h
  · split
    · exact h.end s 4
    · split
      · exact h.send s alv
      · exact h
theorem Oo.hear {o : Ou} (h : Oo o) (s : Se) (m : Ms) : Oo (hearP s o m).2 := by
  unfold hearP
  split
  · exact h.end s 7
  · split
    · unfold openP
      split
      · exact h.end s 2
      · split
        · exact h.end s 3
        · exact h.send _ alv
    · split
      · exact h.tell (.inl rfl)
      · split
        · exact h.tell (.inr (.inr rfl))
        · split
          · exact h
          · exact h.end s 5
theorem Oo.hears : ∀ (l : List Ms) (s : Se) (o : Ou), Oo o → Oo (hearsP s o l).2 ∧ (hearsP s o l).2.b.length ≤ o.b.length + 1024 * l.length ∧ (hearsP s o l).2.ev.length ≤ o.ev.length + l.length
  | [], s, o, h => ⟨h, Nat.le_refl _, Nat.le_refl _⟩
  | m :: l, s, o, h => by
    rw [hears_cons]
    split
    · exact ⟨h, Nat.le_add_right _ _, Nat.le_add_right _ _⟩
    · obtain ⟨h1, h2, h3⟩ := Oo.hears l (hearP s o m).1 (hearP s o m).2 (h.hear s m)
      have hl := hearP_len s o m
      refine ⟨h1, Nat.le_trans h2 ?_, Nat.le_trans h3 ?_⟩
      · rw [List.length_cons, Nat.mul_add, Nat.mul_one, Nat.add_comm (1024 * l.length), ← Nat.add_assoc]
        exact Nat.add_le_add_right hl.1 _
      · rw [List.length_cons]
        have := hl.2
        omega
theorem Oo.recv (s : Se) (b : List Nat) (now : Int) (hb : b.length ≤ 500000) (hx : (moveP s now).1.x.length ≤ 1024) : Oo (recvP s b now).2 ∧ (recvP s b now).2.b.length ≤ 600000000 ∧ (recvP s b now).2.ev.length ≤ 1000000 := by
  have hm := moveP_len s now
  have h0 : Oo (moveP s now).2 := Oo.nil.due (clk s now)
  unfold recvP recvQ
  split
  · exact ⟨h0, by show (moveP s now).2.b.length ≤ _; omega, by show (moveP s now).2.ev.length ≤ _; omega⟩
  · have hT := (TK_enc (moveP s now).1.x (moveP s now).1.f b).2
    obtain ⟨h1, h2, h3⟩ := Oo.hears (TK (moveP s now).1.x (moveP s now).1.f b).1 (tookP (moveP s now).1 b) (moveP s now).2 h0
    have h4 : 1024 * (TK (moveP s now).1.x (moveP s now).1.f b).1.length ≤ 1024 * 501024 := Nat.mul_le_mul_left 1024 (by omega)
    have h5 : 1024 * 501024 = 513048576 := by decide
    rw [h5] at h4
    generalize 1024 * (TK (moveP s now).1.x (moveP s now).1.f b).1.length = z at h2 h4
    unfold faultP
    split
    · have hE := endP_len (hearsP (tookP (moveP s now).1 b) (moveP s now).2 (TK (moveP s now).1.x (moveP s now).1.f b).1).1 (hearsP (tookP (moveP s now).1 b) (moveP s now).2 (TK (moveP s now).1.x (moveP s now).1.f b).1).2 1
      exact ⟨h1.end _ 1, by omega, by omega⟩
    · exact ⟨h1, by omega, by omega⟩
theorem Oo.start (s : Se) (now : Int) : Oo (startP s now).2 ∧ (startP s now).2.b.length ≤ 2048 ∧ (startP s now).2.ev.length ≤ 1 := by
  have hm := moveP_len s now
  have h0 : Oo (moveP s now).2 := Oo.nil.due (clk s now)
  unfold startP startQ
  split
  · have h1 := sendP_len (begP (moveP s now).1) (moveP s now).2 (opn (moveP s now).1)
    exact ⟨h0.send _ _, by omega, by omega⟩
  · exact ⟨h0, by show (moveP s now).2.b.length ≤ _; omega, by show (moveP s now).2.ev.length ≤ _; omega⟩
theorem F_s {c : Cp} {bt j : Nat} {x : Sp} (hj : j < 2) (i : Nat) (hi : i ≠ 1 + j) (g : Nat) (h : ({ c with st := upd c.st j x } : Cp).F bt i g) : c.F bt i g := by
  match i, h, hi with
  | 0, h, _ => exact h
  | 1, h, hi => have e : upd c.st j x 0 = c.st 0 := upd_ne _ _ (by omega); exact (show fpS (c.b 0) (c.st 0) g by rw [← e]; exact h)
  | 2, h, hi => have e : upd c.st j x 1 = c.st 1 := upd_ne _ _ (by omega); exact (show fpS (c.b 1) (c.st 1) g by rw [← e]; exact h)
  | 3, h, _ => exact h
  | 4, h, _ => exact h
  | 5, h, _ => exact h
  | 6, h, _ => exact h
  | 7, h, _ => exact h
  | 8, h, _ => exact h
  | n + 9, h, _ => exact h
theorem F_s_at {c : Cp} {bt j : Nat} {x : Sp} (hj : j < 2) (g : Nat) : ({ c with st := upd c.st j x } : Cp).F bt (1 + j) g ↔ fpS (c.b j) x g := by
  match j, hj with
  | 0, _ => exact Iff.rfl
  | 1, _ => exact Iff.rfl
theorem Fs_at {c : Cp} {bt j : Nat} (hj : j < 2) (g : Nat) : c.F bt (1 + j) g ↔ fpS (c.b j) (c.st j) g := by
  match j, hj with
  | 0, _ => exact Iff.rfl
  | 1, _ => exact Iff.rfl
def sesP (t : Tl) (i : Nat) (s : Se) : Tl := { t with s := upd t.s i s }
/-- one end has turned -/
theorem TI.ses {N : Nat} {w w' : World} {bt i : Nat} {t : Tl} {c : Cp} {s : Se} {st : Sp} (h : TI N w bt t c) (hi : i < 2) (hs : Ses w' (c.b i) s st) (hk : Kf w w' (fpS (c.b i) (c.st i)) (fpS (c.b i) st)) : TI N w' bt (sesP t i s) { c with st := upd c.st i st } ∧ Kl w w' bt c { c with st := upd c.st i st } := by
  have hp : ∀ k, k < 9 → k ≠ 1 + i → ∀ g, c.F bt k g → g < w.heap.size → w'.heap[g]? = w.heap[g]? := fun k hk9 h3 g hf hl => hk.blk g hl (fun e => h.d k (1 + i) hk9 (by omega) h3 g hf ((Fs_at hi g).2 e))
  have hnew : ∀ g, w.heap.size ≤ g → ∀ k, k < 9 → ¬ c.F bt k g := fun g hg2 k hk2 hf => by have := h.lt g ⟨k, hk2, hf⟩; omega
  refine ⟨⟨h.box.blk (hp 0 (by omega) (by omega) bt rfl h.box.lt), fun k hk2 => ?_, fun k hk2 => h.y_blk k hk2 (hp _ (by omega) (by omega)), fun k hk2 => h.g_blk k hk2 (hp _ (by omega) (by omega)), fun k hk2 => h.o_blk k hk2 (hp _ (by omega) (by omega)), d_upd (W := w) (k := 1 + i) h.d h.lt (F_s hi) (fun g hg2 => ?_)⟩, ⟨hk.str, fun g h1 h2 => hk.blk g h1 (fun e => h2 ⟨1 + i, by omega, (Fs_at hi g).2 e⟩), fun g hg2 => ?_⟩⟩
  · by_cases e : k = i
    · subst e
      show Ses w' (c.b k) (upd t.s k s k) (upd c.st k st k)
      rw [upd_at, upd_at]
      exact hs
    · show Ses w' (c.b k) (upd t.s i s k) (upd c.st i st k)
      rw [upd_ne _ _ e, upd_ne _ _ e]
      exact h.e_blk k hk2 (hp _ (by omega) (by omega))
  · rcases hk.now g ((F_s_at hi g).1 hg2) with e | e
    · exact .inl ((Fs_at hi g).2 e)
    · exact .inr (hnew g e)
  · obtain ⟨k, hk9, hf⟩ := hg2
    by_cases e : k = 1 + i
    · subst e
      rcases hk.now g ((F_s_at hi g).1 hf) with e | e
      · exact .inl ⟨1 + i, hk9, (Fs_at hi g).2 e⟩
      · exact .inr e
    · exact .inl ⟨k, hk9, F_s hi k e g hf⟩
end Go.Proofs.Ytanboekdfdafmaa.Pv
