/- A table in memory; spare, carryOut, grow: what they leave. -/
import Derived.Test.YtjhdjbhpofhiaabFbG
import Derived.Maps.AppendAt
namespace Go.Proofs.Ytjhdjbhpofhiaab.Fb
open Go.ChangeShapes Go.WideShapes Go.ChangeAt Go.RowKit Go.Joins Go.Proofs.Ytjhdjbhpofhiaab.PM Go.Proofs.Ytjhdjbhpofhiaab.Ask
set_option linter.unusedVariables false

theorem row_kept {w w' : World} {base size n : Nat} {e : TypeId} {v : Value} {l : List Value} (h : w.ownsRow base e size v n l) (hk : ∀ g, v.ownBlock = some g → w'.heap[g]? = w.heap[g]?) : w'.ownsRow base e size v n l := by
  refine ⟨h.1, ?_⟩
  rcases h.2 with h1 | ⟨g', cap', cur, h1, h2, h3, h4⟩
  · exact .inl h1
  · exact .inr ⟨g', cap', cur, h1, h2, (hk g' (by rw [h1]; rfl)).trans h3, h4⟩
theorem row_cut {w : World} {base g n cap k : Nat} {e : TypeId} {l : List Value} (h : w.ownsRow base e 1 (.slice (some ⟨g, 0, none⟩) n cap) n l) (hk : k ≤ n) : w.ownsRow base e 1 (.slice (some ⟨g, 0, none⟩) k cap) k (l.take k) := by
  have hl := h.1
  rcases h.2 with ⟨h1, -⟩ | ⟨g', cap', cur, h1, h2, h3, h4, h5, h6, h7⟩
  · cases h1
  · cases h1
    refine ⟨by simp; omega, .inr ⟨g, cap, cur, rfl, h2, h3, by omega, h5, h6, ?_⟩⟩
    rw [← h7, List.take_take]; congr 1; omega
theorem row_low {w : World} {base base' size n : Nat} {e : TypeId} {v : Value} {l : List Value} (h : w.ownsRow base e size v n l) (hb : base' ≤ base) : w.ownsRow base' e size v n l := by
  refine ⟨h.1, ?_⟩
  rcases h.2 with h1 | ⟨g', cap', cur, h1, h2, h3⟩
  · exact .inl h1
  · exact .inr ⟨g', cap', cur, h1, Nat.le_trans hb h2, h3⟩
theorem heap_set (w : World) (b o : Nat) (v : Value) (k : Nat) (h : k ≠ b) : (w.setCell ⟨b, o, none⟩ v).heap[k]? = w.heap[k]? := Below.heap_setCell w ⟨b, o, none⟩ v k h
theorem below_set (w : World) (b o : Nat) (v : Value) : Below 0 w (w.setCell ⟨b, o, none⟩ v) := (Below.refl 0 w).setCell (Nat.zero_le _) v

/-- a table lies at a block -/
structure Tab (base : Nat) (w : World) (bt : Nat) (ms : List Int) (made : Int) (fr : List Int) (o1 o2 : Option Nat) : Prop where
  mem : Mem base w bt ms o1
  c1 : w.cell? ⟨bt, 1, none⟩ = some (.int .u32 made)
  f1 : w.frozen? ⟨bt, 1, none⟩ = false
  row : ∃ v, w.cell? ⟨bt, 2, none⟩ = some v ∧ w.ownsRow base 31 1 v fr.length (wcs fr) ∧ v.ownBlock = o2
  f2 : w.frozen? ⟨bt, 2, none⟩ = false
  ne : ∀ g, o1 = some g → o2 ≠ some g
  u32 : ∀ d ∈ fr, In32 d
/-- nothing old has turned but the table's block and its two lists' own blocks -/
structure KT (bt : Nat) (w : World) (o1 o2 : Option Nat) (w' : World) (o1' o2' : Option Nat) : Prop where
  str : Below 0 w w'
  n1 : o1' = o1 ∨ ∃ g, o1' = some g ∧ w.heap.size ≤ g
  n2 : o2' = o2 ∨ ∃ g, o2' = some g ∧ w.heap.size ≤ g
  block : ∀ b, b < w.heap.size → b ≠ bt → some b ≠ o1 → some b ≠ o2 → w'.heap[b]? = w.heap[b]?
section
variable {bt base : Nat} {w w' w2 : World} {o1 o2 o1' o2' o12 o22 : Option Nat} {ms ms' fr : List Int} {made : Int}
theorem KT.size (h : KT bt w o1 o2 w' o1' o2') : w.heap.size ≤ w'.heap.size := h.str.size
theorem KT.refl (bt : Nat) (w : World) (o1 o2 : Option Nat) : KT bt w o1 o2 w o1 o2 := ⟨Below.refl _ _, .inl rfl, .inl rfl, fun _ _ _ _ _ => rfl⟩
theorem KT.bel (h : Below w.heap.size w w') : KT bt w o1 o2 w' o1 o2 := ⟨h.mono (Nat.zero_le _), .inl rfl, .inl rfl, fun b hb _ _ _ => h.block b hb⟩
theorem KT.kp (h : Kp bt w o1 w' o1') : KT bt w o1 o2 w' o1' o2 := ⟨h.str, h.now, .inl rfl, fun b hb h1 h2 _ => h.block b hb h1 h2⟩
theorem KT.ne1 (h : KT bt w o1 o2 w' o1' o2') {b : Nat} (hb : b < w.heap.size) (ho : some b ≠ o1) : some b ≠ o1' := by
  rcases h.n1 with e | ⟨g, e, hg⟩
  · rw [e]; exact ho
  · rw [e]; intro e2; cases e2; omega
theorem KT.ne2 (h : KT bt w o1 o2 w' o1' o2') {b : Nat} (hb : b < w.heap.size) (ho : some b ≠ o2) : some b ≠ o2' := by
  rcases h.n2 with e | ⟨g, e, hg⟩
  · rw [e]; exact ho
  · rw [e]; intro e2; cases e2; omega
theorem KT.trans (h : KT bt w o1 o2 w' o1' o2') (k : KT bt w' o1' o2' w2 o12 o22) : KT bt w o1 o2 w2 o12 o22 := by
  refine ⟨h.str.trans k.str, ?_, ?_, fun b hb hn ha hc => (k.block b (Nat.lt_of_lt_of_le hb h.size) hn (h.ne1 hb ha) (h.ne2 hb hc)).trans (h.block b hb hn ha hc)⟩
  · rcases k.n1 with e | ⟨g, e, hg⟩
    · rw [e]; exact h.n1
    · exact .inr ⟨g, e, Nat.le_trans h.size hg⟩
  · rcases k.n2 with e | ⟨g, e, hg⟩
    · rw [e]; exact h.n2
    · exact .inr ⟨g, e, Nat.le_trans h.size hg⟩
theorem KT.below (h : KT bt w o1 o2 w' o1' o2') {N : Nat} (hN : N ≤ w.heap.size) (hb : N ≤ bt) (h1 : ∀ g, o1 = some g → N ≤ g) (h2 : ∀ g, o2 = some g → N ≤ g) : Below N w w' :=
  ⟨h.str.os, h.str.tape, h.str.output, h.str.size, fun b h0 => h.block b (by omega) (by omega) (fun e => by have := h1 b e.symm; omega) (fun e => by have := h2 b e.symm; omega)⟩
theorem KT.cell (h : KT bt w o1 o2 w' o1' o2') {b o : Nat} (hb : b < w.heap.size) (hn : b ≠ bt) (ha : some b ≠ o1) (hc : some b ≠ o2) : w'.cell? ⟨b, o, none⟩ = w.cell? ⟨b, o, none⟩ := World.cell?_of_block (w := w) (h.block b hb hn ha hc)
theorem Tab.lt (h : Tab base w bt ms made fr o1 o2) : bt < base := h.mem.lt
theorem Tab.le (h : Tab base w bt ms made fr o1 o2) : base ≤ w.heap.size := h.mem.le
theorem Tab.in1 (h : Tab base w bt ms made fr o1 o2) : ∀ g, o1 = some g → base ≤ g ∧ g < w.heap.size := fun g e => by
  obtain ⟨v, -, hr, ho⟩ := h.mem.row; exact hr.lt g (by rw [ho, e])
theorem Tab.in2 (h : Tab base w bt ms made fr o1 o2) : ∀ g, o2 = some g → base ≤ g ∧ g < w.heap.size := fun g e => by
  obtain ⟨v, -, hr, ho⟩ := h.row; exact hr.lt g (by rw [ho, e])
theorem Tab.kp (h : Tab base w bt ms made fr o1 o2) (k : Kp bt w o1 w' o1') (hm : Mem base w' bt ms' o1') : Tab base w' bt ms' made fr o1' o2 := by
  obtain ⟨v, hc, hr, ho⟩ := h.row
  have hlt := h.lt
  refine ⟨hm, (k.oth 1 (by omega)).1.trans h.c1, (k.oth 1 (by omega)).2.trans h.f1, ⟨v, (k.oth 2 (by omega)).1.trans hc, row_kept hr (fun g e => ?_), ho⟩, (k.oth 2 (by omega)).2.trans h.f2, fun g e => ?_, h.u32⟩
  · have := hr.lt g e
    exact k.block g this.2 (by omega) (fun e2 => h.ne g e2.symm (by rw [← ho, e]))
  · rcases k.now with e2 | ⟨g2, e2, hg⟩
    · exact h.ne g (by rw [← e2, e])
    · intro e3
      have := (h.in2 g e3).2
      rw [e2] at e; cases e; omega
theorem Tab.bel (h : Tab base w bt ms made fr o1 o2) (hb : Below w.heap.size w w') : Tab base w' bt ms made fr o1 o2 := h.kp (Kp.bel hb (Nat.lt_of_lt_of_le h.lt h.le)) (h.mem.bel hb)
/-- another table's memory may turn: this one stays -/
theorem Tab.else (h : Tab base w bt ms made fr o1 o2) (hs : Below 0 w w') (hk : ∀ b, b < w.heap.size → (b = bt ∨ some b = o1 ∨ some b = o2) → w'.heap[b]? = w.heap[b]?) : Tab base w' bt ms made fr o1 o2 := by
  have hbt : w'.heap[bt]? = w.heap[bt]? := hk bt (Nat.lt_of_lt_of_le h.lt h.le) (.inl rfl)
  obtain ⟨v, hc, hr, ho⟩ := h.row
  obtain ⟨v1, hc1, hr1, ho1⟩ := h.mem.row
  exact ⟨⟨⟨v1, (World.cell?_of_block (w := w) hbt).trans hc1, row_kept hr1 (fun g e => hk g (hr1.lt g e).2 (.inr (.inl (by rw [← e, ho1])))), ho1⟩, (World.frozen?_of_block (w := w) hbt).trans h.mem.fz, h.lt, Nat.le_trans h.le hs.size, h.mem.u32⟩, (World.cell?_of_block (w := w) hbt).trans h.c1, (World.frozen?_of_block (w := w) hbt).trans h.f1,
    ⟨v, (World.cell?_of_block (w := w) hbt).trans hc, row_kept hr (fun g e => hk g (hr.lt g e).2 (.inr (.inr (by rw [← e, ho])))), ho⟩, (World.frozen?_of_block (w := w) hbt).trans h.f2, h.ne, h.u32⟩
end

/-- the number for a new node -/
def spN (made : Int) (fr : List Int) : Int := fr.getLastD (made + 1)
def spM (made : Int) (fr : List Int) : Int := if fr = [] then made + 1 else made

theorem spare_any (base bt : Nat) (ms : List Int) (made : Int) (fr : List Int) (o1 o2 : Option Nat) (m0 : 0 ≤ made) (m1 : made + 1 < 4294967296) (w : World) (h : Tab base w bt ms made fr o1 o2) :
    Calls Try.prog 78 #[.pointer (some ⟨bt, 0, none⟩)] w fun e w' => e = .returned (.int .u32 (spN made fr)) ∧ Tab base w' bt ms (spM made fr) fr.dropLast o1 o2 ∧ KT bt w o1 o2 w' o1 o2 := by
  obtain ⟨v, hc, hr, ho⟩ := h.row
  obtain ⟨v1, hc1, hr1, ho1⟩ := h.mem.row
  have hlt := h.lt
  rcases List.eq_nil_or_concat fr with rfl | ⟨fr', n, rfl⟩
  · obtain ⟨fa, fc, rfl⟩ : ∃ fa fc, v = .slice fa 0 fc := by
      rcases ownsRow_forms hr with ⟨rfl, -⟩ | ⟨g, cap, rfl⟩
      · exact ⟨none, 0, rfl⟩
      · exact ⟨_, _, rfl⟩
    refine (spare_new bt made m0 m1 fa fc w h.c1 h.f1 hc).mono ?_
    rintro e w' ⟨rfl, rfl⟩
    have k : ∀ b, b ≠ bt → (w.setCell ⟨bt, 1, none⟩ (.int .u32 (made + 1))).heap[b]? = w.heap[b]? := fun b hb => heap_set _ _ _ _ _ hb
    have o : ∀ i, i ≠ 1 → (w.setCell ⟨bt, 1, none⟩ (.int .u32 (made + 1))).cell? ⟨bt, i, none⟩ = w.cell? ⟨bt, i, none⟩ := fun i hi => World.cell?_setCell_other _ _ _ _ (fun e => by cases e; exact hi rfl)
    refine ⟨rfl, ⟨⟨⟨v1, (o 0 (by omega)).trans hc1, row_kept hr1 (fun g e => k g (by have := (hr1.lt g e).1; omega)), ho1⟩, by rw [World.frozen?_setCell]; exact h.mem.fz, h.lt, by rw [World.size_setCell]; exact h.le, h.mem.u32⟩, ?_, by rw [World.frozen?_setCell]; exact h.f1, ⟨_, (o 2 (by omega)).trans hc, row_kept hr (fun g e => k g (by have := (hr.lt g e).1; omega)), ho⟩, by rw [World.frozen?_setCell]; exact h.f2, h.ne, h.u32⟩, below_set _ _ _ _, .inl rfl, .inl rfl, fun b _ hb _ _ => k b hb⟩
    exact World.cell?_setCell_same' _ _ _ (by rw [h.c1]; rfl)
  · rw [List.concat_eq_append] at h hr ⊢
    rw [List.length_append] at hr
    simp only [List.length_cons, List.length_nil, Nat.zero_add] at hr
    obtain ⟨g, cap, rfl⟩ := ownsRow_form hr (by omega)
    have hb := hr.2
    obtain ⟨cur, hbk, hnc, hcm⟩ : ∃ cur, w.heap[g]? = some (.cells cur 31 (0, 0)) ∧ fr'.length + 1 ≤ cap ∧ cap ≤ maxLen := by
      rcases hr.2 with ⟨h1, -⟩ | ⟨g', c', cur, h1, h2, h3, h4, h5, h6, h7⟩
      · cases h1
      · cases h1; exact ⟨cur, h3, h4, h5⟩
    have hcg : w.cell? ⟨g, fr'.length, none⟩ = some (.int .u32 n) := by rw [hr.cellAt fr'.length (by omega)]; simp [wcs]
    refine (spare_old bt g fr'.length cap n hnc (by unfold maxLen at hcm; omega) w hc h.f2 hcg).mono ?_
    rintro e w' ⟨rfl, rfl⟩
    have k : ∀ b, b ≠ bt → (w.setCell ⟨bt, 2, none⟩ (.slice (some ⟨g, 0, none⟩) fr'.length cap)).heap[b]? = w.heap[b]? := fun b hb => heap_set _ _ _ _ _ hb
    have o : ∀ i, i ≠ 2 → (w.setCell ⟨bt, 2, none⟩ (.slice (some ⟨g, 0, none⟩) fr'.length cap)).cell? ⟨bt, i, none⟩ = w.cell? ⟨bt, i, none⟩ := fun i hi => World.cell?_setCell_other _ _ _ _ (fun e => by cases e; exact hi rfl)
    have hne : fr' ++ [n] ≠ [] := by simp
    have e1 : spN made (fr' ++ [n]) = n := by unfold spN; simp
    have e2 : spM made (fr' ++ [n]) = made := by unfold spM; rw [if_neg hne]
    rw [e1, e2, List.dropLast_concat]
    have hrt := row_cut hr (Nat.le_succ fr'.length)
    have e3 : (wcs (fr' ++ [n])).take fr'.length = wcs fr' := by unfold wcs; rw [List.map_append, List.take_left' (by simp)]
    rw [e3] at hrt
    refine ⟨rfl, ⟨⟨⟨v1, (o 0 (by omega)).trans hc1, row_kept hr1 (fun g e => k g (by have := (hr1.lt g e).1; omega)), ho1⟩, by rw [World.frozen?_setCell]; exact h.mem.fz, h.lt, by rw [World.size_setCell]; exact h.le, h.mem.u32⟩, (o 1 (by omega)).trans h.c1, by rw [World.frozen?_setCell]; exact h.f1, ⟨_, World.cell?_setCell_same' _ _ _ (by rw [hc]; rfl), row_kept hrt (fun g2 e => k g2 (by have := (hrt.lt g2 e).1; omega)), ho⟩, by rw [World.frozen?_setCell]; exact h.f2, h.ne, fun d hd => h.u32 d (List.mem_append_left _ hd)⟩, below_set _ _ _ _, .inl rfl, .inl rfl, fun b _ hb _ _ => k b hb⟩

/-- a list of writes that the call has made -/
structure Own (N : Nat) (w : World) (bt : Nat) (o1 o2 : Option Nat) (v : Value) (ws : List (Nat × Int)) : Prop where
  row : w.ownsRow N 64 2 v ws.length (wws ws)
  n1 : ∀ g, v.ownBlock = some g → some g ≠ o1 ∧ some g ≠ o2
  lt : bt < N
  u32 : ∀ y ∈ ws, In32 y.2
theorem Own.kt {N : Nat} {w w' : World} {bt : Nat} {o1 o2 o1' o2' : Option Nat} {v : Value} {ws : List (Nat × Int)} (h : Own N w bt o1 o2 v ws) (k : KT bt w o1 o2 w' o1' o2') : Own N w' bt o1' o2' v ws := by
  have hlt := h.lt
  refine ⟨row_kept h.row (fun g e => ?_), fun g e => ?_, h.lt, h.u32⟩
  · have := h.row.lt g e
    exact k.block g this.2 (by omega) (h.n1 g e).1 (h.n1 g e).2
  · have := h.row.lt g e
    exact ⟨k.ne1 this.2 (h.n1 g e).1, k.ne2 this.2 (h.n1 g e).2⟩
theorem Own.wrs {N : Nat} {w : World} {bt : Nat} {o1 o2 : Option Nat} {va : Option Addr} {L cap : Nat} {ws : List (Nat × Int)} (h : Own N w bt o1 o2 (.slice va L cap) ws) (hl : ws.length ≤ 9223372036854775807) : Wrs bt o1 w va ws := by
  refine ⟨hl, fun i hi => ?_, h.u32⟩
  have hlt := h.lt
  rcases h.row.2 with ⟨-, h0⟩ | ⟨g, c, cur, hv, hg, hb, -⟩
  · omega
  · cases hv
    have hlw := h.row.lt g rfl
    have k : ∀ j, j < ws.length * 2 → w.cell? ⟨g, j, none⟩ = (wws ws)[j]? := fun j hj => h.row.cellAt j hj
    have hx := wws_at ws i hi
    exact ⟨g, 0, rfl, hlw.2, by omega, (h.n1 g rfl).1, by rw [Nat.zero_add, k _ (by omega), hx.1], by rw [Nat.zero_add, k _ (by omega), hx.2]⟩
theorem Own.form {N : Nat} {w : World} {bt : Nat} {o1 o2 : Option Nat} {v : Value} {ws : List (Nat × Int)} (h : Own N w bt o1 o2 v ws) : ∃ va cap, v = .slice va ws.length cap := by
  rcases ownsRow_forms h.row with ⟨rfl, h0⟩ | ⟨g, cap, rfl⟩
  · exact ⟨none, 0, by rw [h0]⟩
  · exact ⟨_, _, rfl⟩

/-- carryOut, of a table -/
theorem carry_tab (base bt : Nat) (ms : List Int) (made : Int) (fr : List Int) (o1 o2 : Option Nat) (N : Nat) (v : Value) (ws : List (Nat × Int)) (B : Nat) (hB : B * 4 ≤ 140737488355328) (hms : ms.length ≤ B) (hws : ∀ y ∈ ws, y.1 + 1 ≤ B) (hwl : ws.length ≤ 9223372036854775807) (w : World) (h : Tab base w bt ms made fr o1 o2) (hw : Own N w bt o1 o2 v ws) :
    Calls Try.prog 66 #[.pointer (some ⟨bt, 0, none⟩), v] w fun e w' => e = .returned v ∧ ∃ o1', Tab base w' bt (putsP ms ws) made fr o1' o2 ∧ KT bt w o1 o2 w' o1' o2 := by
  obtain ⟨va, cap, rfl⟩ := hw.form
  refine (carry_any base bt o1 ms va cap ws B hB hms hws ws.length rfl w h.mem (hw.wrs hwl)).mono ?_
  rintro e w' ⟨rfl, o1', hm, hk⟩
  exact ⟨rfl, o1', h.kp hk hm, KT.kp hk⟩

set_option maxRecDepth 100000 in
set_option maxHeartbeats 1000000 in
theorem grow_any (base bt : Nat) (ms : List Int) (made : Int) (fr : List Int) (o1 o2 : Option Nat) (m0 : 0 ≤ made) (m1 : made + 1 < 4294967296) (hms : ms.length ≤ 17179869184) (ad len way s0 s1 : Int) (a0 : 0 ≤ ad) (a1 : ad < 4294967296) (l0 : 0 ≤ len) (l1 : len ≤ 32) (w0 : 0 ≤ way) (w1 : way ≤ 65535) (s00 : 0 ≤ s0) (s01 : s0 < 4294967296) (s10 : 0 ≤ s1) (s11 : s1 < 4294967296) (n : Int) (hn : spN made fr = n) (w : World) (h : Tab base w bt ms made fr o1 o2) :
    Calls Try.prog 69 #[.pointer (some ⟨bt, 0, none⟩), .agg #[.int .u32 ad, .int .i64 len, .int .i64 way, .int .u32 s0, .int .u32 s1]] w fun e w' => ∃ g o1', e = .returned (.tuple #[.int .u32 n, .slice (some ⟨g, 0, none⟩) 4 4]) ∧ Tab base w' bt (putsP ms (nodeWs n ad len way s0 s1)) (spM made fr) fr.dropLast o1' o2 ∧ KT bt w o1 o2 w' o1' o2 ∧ Own w.heap.size w' bt o1' o2 (.slice (some ⟨g, 0, none⟩) 4 4) (nodeWs n ad len way s0 s1) := by
  have H : Hid (Tab base w bt ms made fr o1 o2) := h
  have HN : Hid (spN made fr = n) := hn
  have hnI : In32 n := by
    rw [← hn]; unfold spN
    rcases List.eq_nil_or_concat fr with rfl | ⟨fr', x, rfl⟩
    · exact ⟨by simp; omega, by simp; omega⟩
    · have := h.u32 x (by simp)
      simpa using this
  have n0 := hnI.1
  have n1 := hnI.2
  clear h hn hnI
  obtain ⟨made', hmade⟩ : ∃ m, spM made fr = m := ⟨_, rfl⟩
  obtain ⟨fr', hfr⟩ : ∃ f, fr.dropLast = f := ⟨_, rfl⟩
  rw [hmade, hfr]
  have HMADE : Hid (spM made fr = made') := hmade
  have HFR : Hid (fr.dropLast = fr') := hfr
  clear hmade hfr
  go_enter Try.func69, Try.ntmps69
  go_wp2_with fail
  obtain ⟨wA, hwA⟩ : ∃ wA, w.alloc (Obj.cells #[.int .u32 ad, .int .i64 len, .int .i64 way, .int .u32 s0, .int .u32 s1] 120) = wA := ⟨_, rfl⟩
  have hbA : Below w.heap.size w wA := by rw [← hwA]; exact (Below.refl _ w).alloc (Nat.le_refl _) _
  have hsA : wA.heap.size = w.heap.size + 1 := by rw [← hwA]; simp
  have g0 := World.alloc_heap_new w (Obj.cells #[.int .u32 ad, .int .i64 len, .int .i64 way, .int .u32 s0, .int .u32 s1] 120)
  rw [hwA] at g0 ⊢
  have HNB : Hid (NBox w.heap.size ad len way s0 s1 wA) := by constructor <;> simp [World.cell?, g0]
  clear hwA g0
  have HTA : Hid (Tab base wA bt ms made fr o1 o2) := H.out.bel hbA
  have HSP : Hid (Calls _ _ _ _ _) := spare_any base bt ms made fr o1 o2 m0 m1 wA HTA.out
  rw [HN.out, HMADE.out, HFR.out] at HSP
  refine HSP.out.mono ?_
  rintro e w1' ⟨rfl, ht1, hk1⟩
  have hltw : bt < w.heap.size := Nat.lt_of_lt_of_le H.out.lt H.out.le
  have hne1 : some w.heap.size ≠ o1 := fun e => by have := (H.out.in1 _ e.symm).2; omega
  have hne2 : some w.heap.size ≠ o2 := fun e => by have := (H.out.in2 _ e.symm).2; omega
  have hN1 : NBox w.heap.size ad len way s0 s1 w1' := by
    have k : ∀ o, w1'.cell? ⟨w.heap.size, o, none⟩ = wA.cell? ⟨w.heap.size, o, none⟩ := fun o => hk1.cell (by omega) (by omega) hne1 hne2
    have := HNB.out
    exact ⟨(k _).trans this.c0, (k _).trans this.c1, (k _).trans this.c2, (k _).trans this.c3, (k _).trans this.c4⟩
  obtain ⟨c0, c1, c2, c3, c4⟩ := hN1
  have HT1 : Hid (Tab base w1' bt ms made' fr' o1 o2) := ht1
  have HK1 : Hid (KT bt wA o1 o2 w1' o1 o2) := hk1
  have hsz1 : w.heap.size + 1 ≤ w1'.heap.size := by have := hk1.size; omega
  clear ht1 hk1
  go_wp2_with fail
  refine (writes_any n ad len way s0 s1 n0 n1 a0 a1 l0 l1 w0 w1 s00 s01 s10 s11 _).mono ?_
  rintro e w2 ⟨g, rfl, hg, hb2, hrow2, -⟩
  have HT2 : Hid (Tab base w2 bt ms made' fr' o1 o2) := HT1.out.bel hb2
  have HO2 : Hid (Own w1'.heap.size w2 bt o1 o2 (.slice (some ⟨g, 0, none⟩) 4 4) (nodeWs n ad len way s0 s1)) := by
    refine ⟨hrow2, fun g' e => ?_, by omega, ?_⟩
    · have e' : g = g' := by simpa [Value.ownBlock] using e
      subst e'
      exact ⟨fun e => by have := (HT1.out.in1 _ e.symm).2; omega, fun e => by have := (HT1.out.in2 _ e.symm).2; omega⟩
    · intro y hy
      simp [nodeWs] at hy
      rcases hy with rfl | rfl | rfl | rfl
      · exact ⟨by show (0 : Int) ≤ len * 65536 + way; omega, by show len * 65536 + way < (4294967296 : Int); omega⟩
      · exact ⟨a0, a1⟩
      · exact ⟨s00, s01⟩
      · exact ⟨s10, s11⟩
  have HK2 : Hid (KT bt wA o1 o2 w2 o1 o2) := HK1.out.trans (KT.bel hb2)
  have HCA : Hid (Calls _ _ _ _ _) := carry_tab base bt ms made' fr' o1 o2 w1'.heap.size (.slice (some ⟨g, 0, none⟩) 4 4) (nodeWs n ad len way s0 s1) 17179869184 (by omega) hms (by
      intro y hy
      simp [nodeWs] at hy
      rcases hy with rfl | rfl | rfl | rfl <;> simp <;> omega) (by simp [nodeWs]) w2 HT2.out HO2.out
  clear hrow2
  go_wp2_with fail
  refine HCA.out.mono ?_
  rintro e w3 ⟨rfl, o1', ht3, hk3⟩
  have HT3 : Hid (Tab base w3 bt (putsP ms (nodeWs n ad len way s0 s1)) made' fr' o1' o2) := ht3
  have HK3 : Hid (KT bt w o1 o2 w3 o1' o2) := (KT.bel hbA).trans (HK2.out.trans hk3)
  have HO3 : Hid (Own w1'.heap.size w3 bt o1' o2 (.slice (some ⟨g, 0, none⟩) 4 4) (nodeWs n ad len way s0 s1)) := HO2.out.kt hk3
  clear ht3 hk3
  go_wp2_with fail
  go_ret2
  exact ⟨g, o1', rfl, HT3.out, HK3.out, ⟨row_low HO3.out.row (by omega), HO3.out.n1, hltw, HO3.out.u32⟩⟩
end Go.Proofs.Ytjhdjbhpofhiaab.Fb
