/- lead, turn, hang: what they leave. -/
import Derived.Test.YtjhdjbhpofhiaabFbI
import Derived.Test.YtjhdjbhpofhiaabFbB
import Derived.Deep.RegionHeld3
namespace Go.Proofs.Ytjhdjbhpofhiaab.Fb
open Go.ChangeShapes Go.WideShapes Go.ChangeAt Go.RowKit Go.Joins Go.Proofs.Ytjhdjbhpofhiaab.PM Go.Proofs.Ytjhdjbhpofhiaab.Ask
set_option linter.unusedVariables false

theorem infoW : (Try.prog.info? 64).map (fun i => (i.zero, i.size, i.bytes)) = some (some (.agg #[.int .i64 0, .int .u32 0]), 2, 16) := by kernel_rfl
theorem putsP_app (ms : List Int) (ws vs : List (Nat × Int)) : putsP ms (ws ++ vs) = putsP (putsP ms ws) vs := by unfold putsP; rw [List.foldl_append]

/-- writes are appended to writes that the call has made -/
theorem app_ws {ops : Array Oper} {rest : List Oper} {o : Oper} {a : Act} {Q : Exit → Act → World → Prop} (hgd : o.guard = none) (s x : Operand)
    (ho : o.op = .call { callee := .builtin .append, args := #[s, x], argTypes := #[60, 60] }) (N N2 bt : Nat) (o1 o2 : Option Nat) (v u : Value) (ws vs : List (Nat × Int)) (w : World) (hs : a.eval s = v) (hown : Own N w bt o1 o2 v ws)
    (hx : a.eval x = u) (hu : Own N2 w bt o1 o2 u vs) (hv0 : 0 < vs.length) (hby : (ws.length + vs.length) * 16 ≤ 140737488355328) (hN : N ≤ w.heap.size) (h12 : (∀ g, o1 = some g → g < w.heap.size) ∧ (∀ g, o2 = some g → g < w.heap.size)) (hbt : bt < w.heap.size)
    (h : ∀ v' w', Hid (Own N w' bt o1 o2 v' (ws ++ vs)) → Hid (w.grownBy w' v.ownBlock) → wpList Try.prog ops Q rest (a.put o.dst v') w') :
    wpList Try.prog ops Q (o :: rest) a w := by
  obtain ⟨i0, hi, hz0, hz1, hz2⟩ := info_parts infoW
  obtain ⟨ub, uc, rfl⟩ := ownsRow_form hu.row hv0
  refine wpList_append_own_at _ hgd s x 60 ho N 64 i0 _ 2 16 Try.underlying60 hi hz0 hz1 hz2 rfl (by decide) v _ _ hs hown.row ⟨ub, 0, none⟩ vs.length uc (wws vs) hx (wws_len vs) (hu.row.cells (g := ub) rfl) (by
      intro u' hu'
      simp only [wws, List.mem_flatMap] at hu'
      obtain ⟨y, -, hy⟩ := hu'
      simp at hy
      rcases hy with rfl | rfl <;> rfl) (by unfold maxLen; omega) hby hN ?_
  intro v' w' hown' hg _ hat
  refine h v' w' ⟨by rw [wws_app, List.length_append]; exact hown', fun g e => ?_, hown.lt, fun y hy => ?_⟩ hg
  · rcases hat with h | h
    · exact hown.n1 g (by rw [← h, e])
    · rw [h] at e; cases e
      exact ⟨fun e => by have := h12.1 _ e.symm; omega, fun e => by have := h12.2 _ e.symm; omega⟩
  · rcases List.mem_append.1 hy with h | h
    · exact hown.u32 y h
    · exact hu.u32 y h

theorem KT.app {bt g : Nat} {w w4 w5 : World} {o1 o2 o1' o2' : Option Nat} (hk : KT bt w o1 o2 w4 o1' o2') (hg : w4.grownBy w5 (some g)) (hgw : w.heap.size ≤ g) : KT bt w o1 o2 w5 o1' o2' :=
  ⟨hk.str.grown hg (Nat.zero_le _) (fun _ _ => Nat.zero_le _), hk.n1, hk.n2, fun b hb hn h1 h2 => (hg.block b (Nat.lt_of_lt_of_le hb hk.size) (fun e => by cases e; omega)).trans (hk.block b hb hn h1 h2)⟩
theorem Tab.app {base bt g : Nat} {w w5 : World} {ms fr : List Int} {made : Int} {o1 o2 : Option Nat} (h : Tab base w bt ms made fr o1 o2) (hg : w.grownBy w5 (some g)) (h1 : some g ≠ o1) (h2 : some g ≠ o2) (hb : bt ≠ g) : Tab base w5 bt ms made fr o1 o2 :=
  h.else ((Below.refl 0 w).grown hg (Nat.zero_le _) (fun _ _ => Nat.zero_le _)) (fun b hbw hc => hg.block b hbw (fun e => by
    cases e
    rcases hc with h | h | h
    · exact hb h.symm
    · exact h1 h
    · exact h2 h))

/-- one write, new -/
theorem own_one (w : World) (bt : Nat) (o1 o2 : Option Nat) (k : Nat) (x : Int) (x0 : 0 ≤ x) (x1 : x < 4294967296) (hbt : bt < w.heap.size) (h1 : ∀ g, o1 = some g → g < w.heap.size) (h2 : ∀ g, o2 = some g → g < w.heap.size) :
    Own w.heap.size (w.alloc (Obj.cells #[.int .i64 (k : Int), .int .u32 x] 64)) bt o1 o2 (.slice (some ⟨w.heap.size, 0, none⟩) 1 1) [(k, x)] :=
  ⟨⟨rfl, .inr ⟨_, 1, _, rfl, Nat.le_refl _, World.alloc_heap_new _ _, Nat.le_refl _, by unfold maxLen; omega, rfl, rfl⟩⟩, fun g e => by
    have e' : w.heap.size = g := by simpa [Value.ownBlock] using e
    subst e'
    exact ⟨fun e => by have := h1 _ e.symm; omega, fun e => by have := h2 _ e.symm; omega⟩, hbt, fun y hy => by simp at hy; subst hy; exact ⟨x0, x1⟩⟩

set_option maxRecDepth 100000 in
set_option maxHeartbeats 1000000 in
theorem lead_any (base bt : Nat) (ms : List Int) (made : Int) (fr : List Int) (o1 o2 : Option Nat) (m0 : 0 ≤ made) (m1 : made + 1 < 4294967296) (hms : ms.length ≤ 17179869184) (lk : Nat) (hlk : lk < 17179869184) (ad len way s0 s1 : Int) (a0 : 0 ≤ ad) (a1 : ad < 4294967296) (l0 : 0 ≤ len) (l1 : len ≤ 32) (w0 : 0 ≤ way) (w1 : way ≤ 65535) (s00 : 0 ≤ s0) (s01 : s0 < 4294967296) (s10 : 0 ≤ s1) (s11 : s1 < 4294967296) (n : Int) (hn : spN made fr = n) (w : World) (h : Tab base w bt ms made fr o1 o2) :
    Calls Try.prog 67 #[.pointer (some ⟨bt, 0, none⟩), .int .i64 (lk : Int), .agg #[.int .u32 ad, .int .i64 len, .int .i64 way, .int .u32 s0, .int .u32 s1]] w fun e w' => ∃ v o1', e = .returned v ∧ Tab base w' bt (putsP ms (nodeWs n ad len way s0 s1 ++ [(lk, n)])) (spM made fr) fr.dropLast o1' o2 ∧ KT bt w o1 o2 w' o1' o2 ∧ Own w.heap.size w' bt o1' o2 v (nodeWs n ad len way s0 s1 ++ [(lk, n)]) := by
  have H : Hid (Tab base w bt ms made fr o1 o2) := h
  have HN : Hid (spN made fr = n) := hn
  clear h hn
  have hnI : In32 n := by
    rw [← HN.out]; unfold spN
    rcases List.eq_nil_or_concat fr with rfl | ⟨fr', x, rfl⟩
    · exact ⟨by simp; omega, by simp; omega⟩
    · have := H.out.u32 x (by simp)
      simpa using this
  have n0 := hnI.1
  have n1 := hnI.2
  obtain ⟨made', hmade⟩ : ∃ m, spM made fr = m := ⟨_, rfl⟩
  obtain ⟨fr', hfr⟩ : ∃ f, fr.dropLast = f := ⟨_, rfl⟩
  obtain ⟨nw, hnw⟩ : ∃ x, nodeWs n ad len way s0 s1 = x := ⟨_, rfl⟩
  have hnwl : nw.length = 4 := by rw [← hnw]; rfl
  have hnwB : ∀ y ∈ nw, y.1 + 1 ≤ 17179869184 := by
    rw [← hnw]
    intro y hy
    simp [nodeWs] at hy
    rcases hy with rfl | rfl | rfl | rfl <;> simp <;> omega
  have HGR : Hid (∀ W, Tab base W bt ms made fr o1 o2 → Calls _ _ _ W _) := fun W hW => grow_any base bt ms made fr o1 o2 m0 m1 hms ad len way s0 s1 a0 a1 l0 l1 w0 w1 s00 s01 s10 s11 n HN.out W hW
  rw [hmade, hfr, hnw] at HGR
  rw [hmade, hfr, hnw]
  have HNWL : Hid (nw.length = 4) := hnwl
  clear hmade hfr hnw hnwl hnI
  go_enter Try.func67, Try.ntmps67
  go_wp2_with fail
  obtain ⟨wA, hwA⟩ : ∃ wA, w.alloc (Obj.cells #[.int .u32 ad, .int .i64 len, .int .i64 way, .int .u32 s0, .int .u32 s1] 120) = wA := ⟨_, rfl⟩
  have hbA : Below w.heap.size w wA := by rw [← hwA]; exact (Below.refl _ w).alloc (Nat.le_refl _) _
  have hsA : wA.heap.size = w.heap.size + 1 := by rw [← hwA]; simp
  rw [hwA]
  clear hwA
  have hgA : w.heap.size ≤ wA.heap.size := by omega
  have HGA : Hid (w.heap.size ≤ wA.heap.size) := hgA
  have hgA1 : w.heap.size + 1 ≤ wA.heap.size := by omega
  clear hsA
  refine (HGR.out wA (H.out.bel hbA)).mono ?_
  rintro e w2 ⟨g, o2', rfl, ht2, hk2, ho2⟩
  have HT2 : Hid (Tab base w2 bt (putsP ms nw) made' fr' o2' o2) := ht2
  have HK2 : Hid (KT bt w o1 o2 w2 o2' o2) := (KT.bel hbA).trans hk2
  have HO2 : Hid (Own wA.heap.size w2 bt o2' o2 (.slice (some ⟨g, 0, none⟩) 4 4) nw) := ho2
  have hltw : bt < w.heap.size := Nat.lt_of_lt_of_le H.out.lt H.out.le
  have hA2 : wA.heap.size ≤ w2.heap.size := hk2.size
  have hsz2 : w.heap.size + 1 ≤ w2.heap.size := by omega
  clear ht2 hk2 ho2
  have HO3 : Hid (Own w2.heap.size (w2.alloc (Obj.cells #[.int .i64 (lk : Int), .int .u32 n] 64)) bt o2' o2 (.slice (some ⟨w2.heap.size, 0, none⟩) 1 1) [(lk, n)]) := own_one w2 bt o2' o2 lk n n0 n1 (by omega) (fun g e => (HT2.out.in1 g e).2) (fun g e => (HT2.out.in2 g e).2)
  have hb3 : Below w2.heap.size w2 (w2.alloc (Obj.cells #[.int .i64 (lk : Int), .int .u32 n] 64)) := (Below.refl _ _).alloc (Nat.le_refl _) _
  have HCA : Hid (Calls _ _ _ _ _) := carry_tab base bt (putsP ms nw) made' fr' o2' o2 w2.heap.size (.slice (some ⟨w2.heap.size, 0, none⟩) 1 1) [(lk, n)] 17179869184 (by omega) (putsP_len hms hnwB) (by intro y hy; simp at hy; subst hy; show lk + 1 ≤ _; omega) (by simp) _ (HT2.out.bel hb3) HO3.out
  go_wp2_with fail
  refine HCA.out.mono ?_
  rintro e w4 ⟨rfl, o4, ht4, hk4⟩
  have HT4 : Hid (Tab base w4 bt (putsP ms (nw ++ [(lk, n)])) made' fr' o4 o2) := by show Tab _ _ _ _ _ _ _ _; rw [putsP_app]; exact ht4
  have HK4 : Hid (KT bt w o1 o2 w4 o4 o2) := HK2.out.trans ((KT.bel hb3).trans hk4)
  have HO4 : Hid (Own wA.heap.size w4 bt o4 o2 (.slice (some ⟨g, 0, none⟩) 4 4) nw) := (HO2.out.kt (KT.bel hb3)).kt hk4
  have HO5 : Hid (Own w2.heap.size w4 bt o4 o2 (.slice (some ⟨w2.heap.size, 0, none⟩) 1 1) [(lk, n)]) := HO3.out.kt hk4
  have hA4 : wA.heap.size ≤ w4.heap.size := by have := hk4.size; have := hb3.size; omega
  have hsz4 : w.heap.size + 1 ≤ w4.heap.size := by have := hk4.size; have := hb3.size; omega
  clear ht4 hk4
  go_wp2_with (at_builtin; refine app_ws rfl _ _ rfl wA.heap.size w2.heap.size bt o4 o2 (.slice (some ⟨g, 0, none⟩) 4 4) (.slice (some ⟨w2.heap.size, 0, none⟩) 1 1) nw [(lk, n)] w4 rfl HO4.out rfl HO5.out (by simp) (by rw [HNWL.out]; simp) hA4 ⟨fun g e => (HT4.out.in1 g e).2, fun g e => (HT4.out.in2 g e).2⟩ (by omega) ?_)
  intro v' w5 ho5 hg5
  have hgge : w.heap.size ≤ g := Nat.le_trans HGA.out (HO4.out.row.lt g rfl).1
  have HT5 : Hid (Tab base w5 bt (putsP ms (nw ++ [(lk, n)])) made' fr' o4 o2) := HT4.out.app (g := g) hg5.out (HO4.out.n1 g rfl).1 (HO4.out.n1 g rfl).2 (by omega)
  have HK5 : Hid (KT bt w o1 o2 w5 o4 o2) := HK4.out.app (g := g) hg5.out (by omega)
  go_wp2_with fail
  go_ret
  exact ⟨v', o4, rfl, HT5.out, HK5.out, ⟨row_low ho5.out.row HGA.out, ho5.out.n1, hltw, ho5.out.u32⟩⟩

set_option maxRecDepth 100000 in
set_option maxHeartbeats 1000000 in
theorem turn_any (base bt : Nat) (ms : List Int) (made : Int) (fr : List Int) (o1 o2 : Option Nat) (hms : ms.length ≤ 17179869184) (n ad len way0 way s0 s1 : Int) (n0 : 0 ≤ n) (n1 : n < 4294967296) (l0 : 0 ≤ len) (l1 : len ≤ 32) (w0 : 0 ≤ way) (w1 : way ≤ 65535) (w : World) (h : Tab base w bt ms made fr o1 o2) :
    Calls Try.prog 64 #[.pointer (some ⟨bt, 0, none⟩), .int .u32 n, .agg #[.int .u32 ad, .int .i64 len, .int .i64 way0, .int .u32 s0, .int .u32 s1], .int .i64 way] w fun e w' => ∃ v o1', e = .returned v ∧ Tab base w' bt (putsP ms [((n * 4).toNat, len * 65536 + way)]) made fr o1' o2 ∧ KT bt w o1 o2 w' o1' o2 ∧ Own w.heap.size w' bt o1' o2 v [((n * 4).toNat, len * 65536 + way)] := by
  have H : Hid (Tab base w bt ms made fr o1 o2) := h
  clear h
  have hltw : bt < w.heap.size := Nat.lt_of_lt_of_le H.out.lt H.out.le
  go_enter Try.func64, Try.ntmps64
  go_wp2_with fail
  obtain ⟨wB, hwB⟩ : ∃ wB, w.alloc (Obj.cells #[.int .u32 ad, .int .i64 len, .int .i64 way, .int .u32 s0, .int .u32 s1] 120) = wB := ⟨_, rfl⟩
  have hb : Below w.heap.size w wB := by rw [← hwB]; exact (Below.refl _ w).alloc (Nat.le_refl _) _
  have hN : NBox w.heap.size ad len way s0 s1 wB := by rw [← hwB]; constructor <;> simp
  have hsB : w.heap.size < wB.heap.size := by rw [← hwB]; simp
  have hne1 : some w.heap.size ≠ o1 := fun e => by have := (H.out.in1 _ e.symm).2; omega
  have hne2 : some w.heap.size ≠ o2 := fun e => by have := (H.out.in2 _ e.symm).2; omega
  have HNE : Hid (some w.heap.size ≠ o1 ∧ some w.heap.size ≠ o2) := ⟨hne1, hne2⟩
  clear hne1 hne2
  rw [hwB]
  clear hwB
  have HN : Hid (NBox w.heap.size ad len way s0 s1 wB) := hN
  obtain ⟨c0, c1, c2, c3, c4⟩ := hN
  have HH : Hid (∀ W, Calls Try.prog 76 #[.agg #[.int .u32 ad, .int .i64 len, .int .i64 way, .int .u32 s0, .int .u32 s1]] W fun e w' => e = .returned (.int .u32 (len * 65536 + way)) ∧ Below W.heap.size W w') := fun W => head_any ad len way s0 s1 l0 (by omega) w0 w1 W
  have e4 : (((n * 4).toNat : Nat) : Int) = n * 4 := by omega
  have HCA : Hid (∀ W, Tab base W bt ms made fr o1 o2 → Calls Try.prog 66 #[.pointer (some ⟨bt, 0, none⟩), .slice (some ⟨W.heap.size, 0, none⟩) 1 1] (W.alloc (Obj.cells #[.int .i64 (n * 4), .int .u32 (len * 65536 + way)] 64)) fun e w' => e = .returned (.slice (some ⟨W.heap.size, 0, none⟩) 1 1) ∧ ∃ o1', Tab base w' bt (putsP ms [((n * 4).toNat, len * 65536 + way)]) made fr o1' o2 ∧ KT bt W o1 o2 w' o1' o2 ∧ Own W.heap.size w' bt o1' o2 (.slice (some ⟨W.heap.size, 0, none⟩) 1 1) [((n * 4).toNat, len * 65536 + way)]) := by
    intro W hW
    have hO := own_one W bt o1 o2 (n * 4).toNat (len * 65536 + way) (by omega) (by omega) (Nat.lt_of_lt_of_le hW.lt hW.le) (fun g e => (hW.in1 g e).2) (fun g e => (hW.in2 g e).2)
    rw [e4] at hO
    have hb3 : Below W.heap.size W (W.alloc (Obj.cells #[.int .i64 (n * 4), .int .u32 (len * 65536 + way)] 64)) := (Below.refl _ _).alloc (Nat.le_refl _) _
    refine (carry_tab base bt ms made fr o1 o2 W.heap.size (.slice (some ⟨W.heap.size, 0, none⟩) 1 1) [((n * 4).toNat, len * 65536 + way)] 17179869184 (by omega) hms (by intro y hy; simp at hy; subst hy; show (n * 4).toNat + 1 ≤ _; omega) (by simp) _ (hW.bel hb3) hO).mono ?_
    rintro e w' ⟨rfl, o1', ht, hk⟩
    exact ⟨rfl, o1', ht, (KT.bel hb3).trans hk, hO.kt hk⟩
  clear e4
  go_region_held3 (fun w' => w'.cell? ⟨w.heap.size, 0, none⟩ = some (.int .u32 ad) ∧ w'.cell? ⟨w.heap.size, 1, none⟩ = some (.int .i64 len) ∧ w'.cell? ⟨w.heap.size, 2, none⟩ = some (.int .i64 way) ∧ w'.cell? ⟨w.heap.size, 3, none⟩ = some (.int .u32 s0) ∧ w'.cell? ⟨w.heap.size, 4, none⟩ = some (.int .u32 s1)) (first | (simp [go_sem, c0, c1, c2, c3, c4]; done) | (refine ⟨?_, ?_, ?_, ?_, ?_⟩ <;> assumption) | go_keep)
    (first
      | (go_at_call 76; refine (HH.out _).mono ?_; rintro e w4 ⟨rfl, hb4⟩; have hb4' : Below wB.heap.size wB w4 := (show Below wB.heap.size wB wB.drew from ⟨rfl, rfl, rfl, Nat.le_refl _, fun _ _ => rfl⟩).trans hb4; have hbw : Below w.heap.size w w4 := hb.trans (hb4'.mono hb.size); obtain ⟨d0, d1, d2, d3, d4⟩ := HN.out.bel hb4')
      | (go_at_call 72; refine (place_any n 0 n0 n1 (by decide) (by decide) _).mono ?_; rintro e w5 ⟨rfl, rfl⟩)
      | (go_at_call 66; refine (HCA.out w4 (H.out.bel hbw)).mono ?_; rintro e w6 ⟨rfl, o1', ht6, hk6, ho6⟩; have k6 : ∀ o, w6.cell? ⟨w.heap.size, o, none⟩ = w4.cell? ⟨w.heap.size, o, none⟩ := fun o => hk6.cell (Nat.lt_of_lt_of_le hsB hb4'.size) (by omega) HNE.out.1 HNE.out.2; have x0 := (k6 0).trans d0; have x1 := (k6 1).trans d1; have x2 := (k6 2).trans d2; have x3 := (k6 3).trans d3; have x4 := (k6 4).trans d4; clear k6))
  go_wp2_with fail
  go_ret
  exact ⟨_, o1', rfl, ht6, (KT.bel hbw).trans hk6, ⟨row_low ho6.row hbw.size, ho6.n1, hltw, ho6.u32⟩⟩

set_option maxRecDepth 100000 in
set_option maxHeartbeats 1000000 in
theorem hang_any (bd : Nat) (ad len way s0 s1 n pa pl sd : Int) (l0 : 0 ≤ len) (l1 : len ≤ 32) (p0 : 0 ≤ pa) (p1 : pa < 4294967296) (hsd : sdI pa len = sd) (w : World) (hN : NBox bd ad len way s0 s1 w) (hf : w.frozen? ⟨bd, 3, none⟩ = false) (hf4 : w.frozen? ⟨bd, 4, none⟩ = false) :
    Calls Try.prog 68 #[.pointer (some ⟨bd, 0, none⟩), .int .u32 n, .agg #[.int .u32 pa, .int .i64 pl]] w fun e w' => (∃ v, e = .returned v) ∧ NBox bd ad len way (if sd = 0 then n else s0) (if sd = 0 then s1 else n) w' ∧ (∀ b, b < w.heap.size → b ≠ bd → w'.heap[b]? = w.heap[b]?) ∧ Below 0 w w' ∧ (∀ o, w'.frozen? ⟨bd, o, none⟩ = w.frozen? ⟨bd, o, none⟩) := by
  have HSD : Hid (sdI pa len = sd) := hsd
  have h01 := sdI_01 pa len
  rw [hsd] at h01
  clear hsd
  have hbl : bd < w.heap.size := by obtain ⟨ob, hob, -⟩ := cells_of_cell hN.c0; exact (Array.getElem?_eq_some_iff.1 hob).1
  obtain ⟨c0, c1, c2, c3, c4⟩ := hN
  have HN : Hid (NBox bd ad len way s0 s1 w) := ⟨c0, c1, c2, c3, c4⟩
  go_enter Try.func68, Try.ntmps68
  go_wp2_with fail
  obtain ⟨wB, hwB⟩ : ∃ wB, w.alloc (Obj.cells #[.int .u32 pa, .int .i64 pl] 33) = wB := ⟨_, rfl⟩
  have hb : Below w.heap.size w wB := by rw [← hwB]; exact (Below.refl _ w).alloc (Nat.le_refl _) _
  have b0 : wB.cell? ⟨w.heap.size, 0, none⟩ = some (.int .u32 pa) := by rw [← hwB]; simp
  have b1 : wB.cell? ⟨w.heap.size, 1, none⟩ = some (.int .i64 pl) := by rw [← hwB]; simp
  have zf : ∀ o, wB.frozen? ⟨bd, o, none⟩ = w.frozen? ⟨bd, o, none⟩ := fun o => World.frozen?_of_block (w := w) (hb.block bd hbl)
  have z3 := (zf 3).trans hf
  have z4 := (zf 4).trans hf4
  rw [hwB]
  clear hwB c0 c1 c2 c3 c4 hf hf4
  obtain ⟨c0, c1, c2, c3, c4⟩ := HN.out.bel hb
  have HZ : Hid (∀ o, wB.frozen? ⟨bd, o, none⟩ = w.frozen? ⟨bd, o, none⟩) := zf
  clear zf
  rcases h01 with rfl | rfl
  · go_still_tail 13, (by kernel_rfl)
    still_call (after_is pa len 0 HSD.out l0 l1 p0 p1 _)
    repeat still_step
    refine wpStill_nil ?_
    go_wp2_with fail
    go_end0
    refine ⟨⟨_, rfl⟩, ?_, fun b hbw hn => (heap_set wB bd 3 (.int .u32 n) b hn).trans (hb.block b hbw), (hb.mono (Nat.zero_le _)).trans ((below_set wB bd 3 (.int .u32 n)).drew), fun o => ?_⟩
    · have k : ∀ o, o ≠ 3 → (wB.setCell ⟨bd, 3, none⟩ (.int .u32 n)).drew.cell? ⟨bd, o, none⟩ = wB.cell? ⟨bd, o, none⟩ := fun o ho => World.cell?_setCell_other _ _ _ _ (fun e => by cases e; exact ho rfl)
      exact ⟨(k 0 (by omega)).trans c0, (k 1 (by omega)).trans c1, (k 2 (by omega)).trans c2, World.cell?_setCell_same' _ _ _ (by rw [c3]; rfl), (k 4 (by omega)).trans c4⟩
    · exact (World.frozen?_setCell _ _ _ _).trans (HZ.out o)
  · go_still_tail 13, (by kernel_rfl)
    still_call (after_is pa len 1 HSD.out l0 l1 p0 p1 _)
    repeat still_step
    refine wpStill_nil ?_
    go_wp2_with fail
    go_end0
    refine ⟨⟨_, rfl⟩, ?_, fun b hbw hn => (heap_set wB bd 4 (.int .u32 n) b hn).trans (hb.block b hbw), (hb.mono (Nat.zero_le _)).trans ((below_set wB bd 4 (.int .u32 n)).drew), fun o => ?_⟩
    · have k : ∀ o, o ≠ 4 → (wB.setCell ⟨bd, 4, none⟩ (.int .u32 n)).drew.cell? ⟨bd, o, none⟩ = wB.cell? ⟨bd, o, none⟩ := fun o ho => World.cell?_setCell_other _ _ _ _ (fun e => by cases e; exact ho rfl)
      exact ⟨(k 0 (by omega)).trans c0, (k 1 (by omega)).trans c1, (k 2 (by omega)).trans c2, (k 3 (by omega)).trans c3, World.cell?_setCell_same' _ _ _ (by rw [c4]; rfl)⟩
    · exact (World.frozen?_setCell _ _ _ _).trans (HZ.out o)
end Go.Proofs.Ytjhdjbhpofhiaab.Fb
