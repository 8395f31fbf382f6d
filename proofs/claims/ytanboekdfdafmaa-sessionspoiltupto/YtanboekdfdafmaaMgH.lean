/- Sessions: what the time asks for. Sessions: what a message asks for. -/
import Derived.Test.YtanboekdfdafmaaMgG
namespace Go.Proofs.Ytanboekdfdafmaa.Pv
open Go.ChangeShapes Go.WideShapes Go.ChangeAt Go.RowKit Go.Joins Go.Deep Go.Proofs.Ytanboekdfdafmaa.PM Go.Proofs.Ytanboekdfdafmaa.Ask Go.Proofs.Ytanboekdfdafmaa.Ge
set_option linter.unusedVariables false
set_option linter.unusedSimpArgs false

/-- what a call answers, by value -/
structure OutV (M : Nat) (W : World) (o : Ou) (vb ve : Value) (l : List (Ev × Sl)) : Prop where
  bys : OwnL E8 M W vb o.b
  ev : EvL M W ve l
  eq : l.map (fun p => p.1) = o.ev
  a1 : ∀ g, vb.ownBlock = some g → ¬ ve.ownBlock = some g ∧ ∀ p ∈ l, ¬ Mown p.2 g
def fpV (vb ve : Value) (l : List (Ev × Sl)) (g : Nat) : Prop := vb.ownBlock = some g ∨ ve.ownBlock = some g ∨ ∃ p ∈ l, Mown p.2 g
def MvPost (w : World) (b : Nat) (st : Sp) (q : Se × Ou) (e : Ending) (w' : World) : Prop :=
  ∃ vb ve l st', e = .returned (.agg #[vb, ve]) ∧ Ses w' b q.1 st' ∧ OutV w.heap.size w' q.2 vb ve l ∧ (∀ g, fpS b st' g → ¬ fpV vb ve l g) ∧ Kf w w' (fpS b st) (fpS b st')
/-- nothing sent, nothing told -/
theorem SO.begin {w w2 : World} {b rb bo : Nat} {s : Se} {st : Sp} (h : Ses w b s st) (hb : Below w.heap.size w w2) (hx : SB OutK bo [.slice none 0 0, .slice none 0 0] w2) (hlo : w.heap.size ≤ bo) : SO w.heap.size w2 b s bo ⟨[], []⟩ (fun g => fpS b st g ∨ g = bo) ∧ Kf w w2 (fpS b st) (fun g => fpS b st g ∨ g = bo) := by
  refine ⟨⟨st, _, _, [], h.blk (fun g hg hl => hb.block g hl), ⟨hx, OwnL.nil _ _ _, EvL.nil _ _, rfl, hlo, (fun g e => by cases e), (fun g e => by cases e), (fun p hp => by cases hp)⟩, fun g hg ho => ?_, fun g => ?_⟩, ⟨hb.mono (Nat.zero_le _), fun g hg _ => hb.block g hg, fun g hg => ?_⟩⟩
  · rcases ho with e | e | e | ⟨p, hp, -⟩
    · have := h.lt g hg; omega
    · cases e
    · cases e
    · cases hp
  · constructor
    · rintro (e | e)
      · exact .inl e
      · exact .inr (.inl e)
    · rintro (e | e | e | e | ⟨p, hp, -⟩)
      · exact .inl e
      · exact .inr e
      · cases e
      · cases e
      · cases hp
  · rcases hg with e | e
    · exact .inl e
    · exact .inr (by omega)
/-- the call's end -/
theorem mv_end {w w5 w6 : World} {b rb bo : Nat} {s : Se} {o : Ou} {st st' : Sp} {vb ve : Value} {l : List (Ev × Sl)} {F : Nat → Prop} (h1 : Ses w5 b s st') (h2 : Out w.heap.size w5 bo o vb ve l) (h3 : ∀ g, fpS b st' g → ¬ fpO bo vb ve l g) (h4 : ∀ g, F g ↔ fpS b st' g ∨ fpO bo vb ve l g) (hk : Kf w w5 (fpS b st) F) (hr : ¬ F rb) (hrb : w.heap.size ≤ rb) (hk6 : Ko w5 rb w6) : MvPost w b st (s, o) (.returned (.agg #[vb, ve])) w6 := by
  have hne : ∀ g, F g → g ≠ rb := fun g hg e => hr (e ▸ hg)
  refine ⟨vb, ve, l, st', rfl, h1.blk (fun g hg _ => hk6.block g (hne g ((h4 g).2 (.inl hg)))), ⟨h2.bys.blk (fun g e => hk6.block g (hne g ((h4 g).2 (.inr (.inr (.inl e)))))), h2.ev.blk (fun g e _ => hk6.block g (hne g ((h4 g).2 (.inr (.inr (.inr e)))))), h2.eq, fun g e => (h2.a1 g e).2⟩, fun g hg ho => h3 g hg (.inr ho), ⟨hk.str.trans hk6.str, fun g hg hf => (hk6.block g (by omega)).trans (hk.blk g hg hf), fun g hg => hk.now g ((h4 g).2 (.inl hg))⟩⟩
/-- the clock goes on -/
theorem SO.clock {M : Nat} {w w2 : World} {b bo : Nat} {s : Se} {o : Ou} {F : Nat → Prop} {now : Int} (h : SO M w b s bo o F) (hn : now < 9223372036854775808) (hk : Ko w b w2) (hb : ∀ p, SB SsK b (ssL s p) w → SB SsK b (ssL (clk s now) p) w2) : SO M w2 b (clk s now) bo o F ∧ Kf w w2 F F := by
  obtain ⟨st, vb, ve, l, h1, h2, h3, h4⟩ := h
  have hbl : ∀ g, g ≠ b → w2.heap[g]? = w.heap[g]? := hk.block
  refine ⟨⟨st, vb, ve, l, ⟨hb _ h1.box, fun p e => ?_, h1.idl, ?_, h1.wt, h1.ok⟩, h2.blk (fun g hg _ => hbl g (fun e => h3 b (.inl rfl) (e ▸ hg))), h3, h4⟩, ⟨hk.str, fun g _ hf => hbl g (fun e => hf ((h4 g).2 (.inl (.inl e)))), fun g hg => .inl hg⟩⟩
  · obtain ⟨k1, k2, k3⟩ := h1.str p e
    exact ⟨k1.blk (hbl _ k2) (fun g e2 _ _ => hbl g (fun e3 => k3 (e3 ▸ e2))), k2, k3⟩
  · obtain ⟨r1, r2, r3, r4, r5⟩ := h1.rg
    show 0 ≤ s.heard ∧ s.heard ≤ max s.clock now ∧ 0 ≤ s.sent ∧ s.sent ≤ max s.clock now ∧ max s.clock now < _
    omega
theorem onew_run {o : Oper} {ρ : Operand → Value} {W : World} (ho : o.op = .alloc 35) : (execOp ρ o).run Try.prog W = .ok (.value (.pointer (some ⟨W.heap.size, 0, none⟩))) (W.alloc (Obj.cells #[.slice none 0 0, .slice none 0 0] 35)) := by
  unfold execOp
  rw [ho]
  simp [go_sem]
/-- a new answer -/
theorem list_onew {ops : Array Oper} {rest : List Oper} {o : Oper} {ac : Act} {Q : Exit → Act → World → Prop} {W : World} (hgd : o.guard = none) (ho : o.op = .alloc 35)
    (k : ∀ b W', Hid (W.heap.size = b) → Hid (SB OutK b [.slice none 0 0, .slice none 0 0] W') → Hid (Below W.heap.size W W') → wpList Try.prog ops Q rest (ac.put o.dst (.pointer (some ⟨b, 0, none⟩))) W') : wpList Try.prog ops Q (o :: rest) ac W := by
  refine wpList_plain hgd fun K hK => ?_
  unfold Oper.wp
  rw [onew_run ho]
  exact hK _ _ (k _ _ rfl (World.alloc_heap_new W _) ((Below.refl _ W).alloc (Nat.le_refl _) _))
theorem max_run {o : Oper} {ρ : Operand → Value} {W : World} (x y : Operand) (ho : o.op = .call { callee := .builtin .max, args := #[x, y], argTypes := #[3, 3] }) {a b : Int} (hx : ρ x = .int .i64 a) (hy : ρ y = .int .i64 b) : (execOp ρ o).run Try.prog W = .ok (.value (.int .i64 (max a b))) W := by
  unfold execOp
  rw [ho]
  by_cases h : a < b
  · have : max a b = b := by omega
    rw [this]
    simp [go_sem, hx, hy, h]
  · have : max a b = a := by omega
    rw [this]
    simp [go_sem, hx, hy, h]
theorem min_run {o : Oper} {ρ : Operand → Value} {W : World} (x y : Operand) (ho : o.op = .call { callee := .builtin .min, args := #[x, y], argTypes := #[3, 3] }) {a b : Int} (hx : ρ x = .int .i64 a) (hy : ρ y = .int .i64 b) : (execOp ρ o).run Try.prog W = .ok (.value (.int .i64 (min a b))) W := by
  unfold execOp
  rw [ho]
  by_cases h : b < a
  · have : min a b = b := by omega
    rw [this]
    simp [go_sem, hx, hy, h]
  · have : min a b = a := by omega
    rw [this]
    simp [go_sem, hx, hy, h]
theorem list_max {ops : Array Oper} {rest : List Oper} {o : Oper} {ac : Act} {Q : Exit → Act → World → Prop} {W : World} (hgd : o.guard = none) (x y : Operand) (ho : o.op = .call { callee := .builtin .max, args := #[x, y], argTypes := #[3, 3] }) {a b c : Int} (hx : ac.eval x = .int .i64 a) (hy : ac.eval y = .int .i64 b) (hc : max a b = c)
    (k : wpList Try.prog ops Q rest (ac.put o.dst (.int .i64 c)) W) : wpList Try.prog ops Q (o :: rest) ac W := by
  subst hc
  refine wpList_plain hgd fun K hK => ?_
  unfold Oper.wp
  rw [max_run x y ho hx hy]
  exact hK _ _ k
theorem list_min {ops : Array Oper} {rest : List Oper} {o : Oper} {ac : Act} {Q : Exit → Act → World → Prop} {W : World} (hgd : o.guard = none) (x y : Operand) (ho : o.op = .call { callee := .builtin .min, args := #[x, y], argTypes := #[3, 3] }) {a b c : Int} (hx : ac.eval x = .int .i64 a) (hy : ac.eval y = .int .i64 b) (hc : min a b = c)
    (k : wpList Try.prog ops Q rest (ac.put o.dst (.int .i64 c)) W) : wpList Try.prog ops Q (o :: rest) ac W := by
  subst hc
  refine wpList_plain hgd fun K hK => ?_
  unfold Oper.wp
  rw [min_run x y ho hx hy]
  exact hK _ _ k
/-! the walks -/
theorem mv_res {W : World} {b : Nat} {u v : Value} (h : SB OutK b [u, v] W) {tm : Array Value} (t4 : (tm[4]?).getD undef = .pointer (some ⟨b, 0, none⟩)) : (results Try.f19 tm).run Try.prog W = .ok (.agg #[u, v]) W := by
  have c0 : W.cell? ⟨b, 0, none⟩ = some u := h.cell 0
  have c1 : W.cell? ⟨b, 1, none⟩ = some v := h.cell 1
  simp [results, Try.results19, go_sem, t4, c0, c1]
theorem SO.wt {M : Nat} {w : World} {b bo : Nat} {s : Se} {o : Ou} {F : Nat → Prop} (h : SO M w b s bo o F) : (-9223372036854775808 ≤ s.wait ∧ s.wait < 9223372036854775808) ∧ (-9223372036854775808 ≤ s.hold ∧ s.hold < 9223372036854775808) := by
  obtain ⟨st, vb, ve, l, h1, h2, h3, h4⟩ := h
  exact h1.wt
theorem tdiv3 {z : Int} (h : -9223372036854775808 ≤ z ∧ z < 9223372036854775808) : IntKind.i64.wrap (z.tdiv 3) = z.tdiv 3 := by
  refine IntWalk.i64_in _ ?_
  by_cases h0 : 0 ≤ z
  · rw [Int.tdiv_eq_ediv_of_nonneg h0]
    omega
  · have e : z.tdiv 3 = -((-z) / 3) := by rw [← Int.tdiv_eq_ediv_of_nonneg (by omega : 0 ≤ -z), Int.neg_tdiv, Int.neg_neg]
    rw [e]
    omega
theorem SO.rg {M : Nat} {w : World} {b bo : Nat} {s : Se} {o : Ou} {F : Nat → Prop} (h : SO M w b s bo o F) : 0 ≤ s.heard ∧ s.heard ≤ s.clock ∧ 0 ≤ s.sent ∧ s.sent ≤ s.clock ∧ s.clock < 9223372036854775808 := by
  obtain ⟨st, vb, ve, l, h1, h2, h3, h4⟩ := h
  exact h1.rg
set_option maxRecDepth 100000 in
set_option maxHeartbeats 8000000 in
theorem move_any (b : Nat) (s : Se) (st : Sp) (now : Int) (w : World) (h : Ses w b s st) (hn : -9223372036854775808 ≤ now ∧ now < 9223372036854775808) (s' : Se) (o' : Ou) (hP : moveP s now = (s', o')) :
    Calls Try.prog 19 #[.pointer (some ⟨b, 0, none⟩), .int .i64 now] w (MvPost w b st (s', o')) := by
  have HS : Hid (Ses w b s st) := h
  have HP : Hid (moveP s now = (s', o')) := hP
  clear h hP
  go_enter Try.func19, Try.ntmps19
  go_wp2_with (refine list_onew rfl rfl ?_)
  intro rb w1 hrb hx1 hb1
  go_wp2_with (refine list_onew rfl rfl ?_)
  intro bo w2 hbo hx2 hb2
  have HX1 : Hid (SB OutK rb [.slice none 0 0, .slice none 0 0] w2) := hx1.out.blk (hb2.out.block _ hx1.out.lt)
  have HB2 : Hid (Below w.heap.size w w2) := hb1.out.trans (hb2.out.mono hb1.out.size)
  have hlo : w.heap.size ≤ bo := by have := hbo.out; have := hb1.out.size; omega
  obtain ⟨hso, hkf⟩ := SO.begin (rb := rb) HS.out HB2.out hx2.out hlo
  have HNR : Hid (¬ (fpS b st rb ∨ rb = bo)) := fun e => by
    have h1 := hrb.out
    have h2 := hbo.out
    have h3 := hx1.out.lt
    rcases e with e | e
    · have := HS.out.lt _ e; omega
    · omega
  have HRB : Hid (w.heap.size ≤ rb) := by show _ ≤ _; have := hrb.out; omega
  obtain ⟨F0, hF0⟩ : ∃ F0, (fun g => fpS b st g ∨ g = bo) = F0 := ⟨_, rfl⟩
  have HNF : Hid (¬ F0 rb) := by rw [← hF0]; exact HNR.out
  rw [hF0] at hso hkf
  obtain ⟨o0, ho0⟩ : ∃ y, (⟨[], []⟩ : Ou) = y := ⟨_, rfl⟩
  have HO0 : Hid (o0.b.length = 0 ∧ o0.ev.length = 0) := by rw [← ho0]; exact ⟨rfl, rfl⟩
  rw [ho0] at hso
  have HSO2 : Hid (SO w.heap.size w2 b s bo o0 F0) := hso
  have HKF2 : Hid (Kf w w2 (fpS b st) F0) := hkf
  have HXR : Hid (rb < w2.heap.size) := HX1.out.lt
  clear hso hkf hF0 HNR hrb hbo hx1 hb1 hx2 hb2 hlo
  obtain ⟨p2, hp2⟩ := HSO2.out.cells
  have c4 : w2.cell? ⟨b, 4, none⟩ = some (.int .i64 s.clock) := hp2.cell 4
  have f4 : w2.frozen? ⟨b, 4, none⟩ = false := hp2.fro 4
  obtain ⟨mx, hmx⟩ : ∃ y, max s.clock now = y := ⟨_, rfl⟩
  have HMX : Hid (max s.clock now = mx) := hmx
  obtain ⟨s1, hs1⟩ : ∃ y, clk s now = y := ⟨_, rfl⟩
  obtain ⟨hso3, hkf3⟩ := SO.clock (now := now) HSO2.out hn.2 (Ko.set w2 b 4 (.int .i64 mx)) (fun p h => h.set 4 _ (by rw [← hmx]; rfl))
  rw [hs1] at hso3
  have HSO3 : Hid (SO w.heap.size (w2.setCell ⟨b, 4, none⟩ (.int .i64 mx)) b s1 bo o0 F0) := hso3
  have HKF3 : Hid (Kf w (w2.setCell ⟨b, 4, none⟩ (.int .i64 mx)) (fpS b st) F0) := HKF2.out.trans hkf3
  have HX3 : Hid (SB OutK rb [.slice none 0 0, .slice none 0 0] (w2.setCell ⟨b, 4, none⟩ (.int .i64 mx))) := HX1.out.blk (hkf3.blk rb HX1.out.lt HNF.out)
  have HP1 : Hid (dueP s1 o0 = (s', o')) := by rw [← hs1, ← ho0]; exact HP.out
  clear hp2 hso3 hkf3 hmx HP HSO2 HKF2 HX1 hs1 ho0
  go_wp2_with (refine list_max rfl _ _ rfl rfl rfl HMX.out ?_)
  obtain ⟨w3, hw3⟩ : ∃ y, w2.setCell ⟨b, 4, none⟩ (.int .i64 mx) = y := ⟨_, rfl⟩
  rw [hw3] at HSO3 HKF3 HX3 ⊢
  clear hw3 c4 f4
  obtain ⟨p3, hp3⟩ := HSO3.out.cells
  have c4 : w3.cell? ⟨b, 4, none⟩ = some (.int .i64 s1.clock) := hp3.cell 4
  have c5 : w3.cell? ⟨b, 5, none⟩ = some (.int .i64 s1.state) := hp3.cell 5
  have c7 : w3.cell? ⟨b, 7, none⟩ = some (.int .i64 s1.heard) := hp3.cell 7
  have c8 : w3.cell? ⟨b, 8, none⟩ = some (.int .i64 s1.sent) := hp3.cell 8
  have c9 : w3.cell? ⟨b, 9, none⟩ = some (.int .i64 s1.wait) := hp3.cell 9
  obtain ⟨r1, r2, r3, r4, r5⟩ := HSO3.out.rg
  have HM3 : Hid (w.heap.size ≤ w3.heap.size) := HKF3.out.str.size
  have HWT : Hid (-9223372036854775808 ≤ s1.wait ∧ s1.wait < 9223372036854775808) := HSO3.out.wt.1
  clear hp3
  by_cases h0 : s1.state = 0
  · refine (idle_any b s1.state true w3 c5 (by simpa using h0)).mono ?_
    rintro e w' ⟨rfl, hw'⟩
    rw [hw']
    clear hw' w'
    have HQ : Hid ((s1, o0) = (s', o')) := by show _ = _; rw [← HP1.out]; unfold dueP; rw [if_pos (Or.inl h0)]
    obtain ⟨rfl, rfl⟩ : s1 = s' ∧ o0 = o' := by cases HQ.out; exact ⟨rfl, rfl⟩
    obtain ⟨wZ, hwZ⟩ : ∃ y, w3 = y := ⟨_, rfl⟩
    obtain ⟨FZ, hFZ⟩ : ∃ y, F0 = y := ⟨_, rfl⟩
    have HSOZ : Hid (SO w.heap.size wZ b s1 bo o0 FZ) := by rw [← hwZ, ← hFZ]; exact HSO3.out
    have HKFZ : Hid (Kf w wZ (fpS b st) FZ) := by rw [← hwZ, ← hFZ]; exact HKF3.out
    have HXZ : Hid (SB OutK rb [.slice none 0 0, .slice none 0 0] wZ) := by rw [← hwZ]; exact HX3.out
    have HNFZ : Hid (¬ FZ rb) := by rw [← hFZ]; exact HNF.out
    rw [hwZ] at c4 c5 c7 c8 c9 ⊢
    clear hwZ hFZ HSO3 HKF3 HX3 HQ HP1
    obtain ⟨st5, vb5, ve5, l5, g1, g2, g3, g4⟩ := HSOZ.out
    have G1 : Hid (Ses wZ b s1 st5) := g1
    have G2 : Hid (Out w.heap.size wZ bo o0 vb5 ve5 l5) := g2
    have G3 : Hid (∀ g, fpS b st5 g → ¬ fpO bo vb5 ve5 l5 g) := g3
    have G4 : Hid (∀ g, FZ g ↔ fpS b st5 g ∨ fpO bo vb5 ve5 l5 g) := g4
    obtain ⟨x1, y1, e1, -⟩ := g2.bys.form
    obtain ⟨x2, y2, e2, -⟩ := g2.ev.own.form
    obtain ⟨z1, hz1⟩ : ∃ y, o0.b.length = y := ⟨_, rfl⟩
    obtain ⟨z2, hz2⟩ : ∃ y, l5.length = y := ⟨_, rfl⟩
    rw [hz1] at e1
    rw [hz2] at e2
    subst e1 e2
    clear g1 g2 g3 g4 hz1 hz2
    go_wp2_with (first | (refine list_sload OutK rfl _ rfl (b := bo) (cs := [.slice x1 z1 y1, .slice x2 z2 y2]) rfl G2.out.box rfl ?_) | (refine list_sstore OutK rfl _ _ rfl (b := rb) (cs := [.slice none 0 0, .slice none 0 0]) (cs' := [.slice x1 z1 y1, .slice x2 z2 y2]) rfl rfl HXZ.out rfl rfl rfl ?_))
    intro w6 hb6 hk6
    have HR : Hid (MvPost w b st (s1, o0) (.returned (.agg #[.slice x1 z1 y1, .slice x2 z2 y2])) w6) := mv_end G1.out G2.out G3.out G4.out HKFZ.out HNFZ.out HRB.out hk6.out
    clear hk6 G1 G2 G3 G4 HSOZ HKFZ HXZ
    go_wp2_with fail
    exact bodyPost_ret (mv_res hb6.out rfl) rfl HR.out
  · refine (idle_any b s1.state false w3 c5 (by simpa using h0)).mono ?_
    rintro e w' ⟨rfl, hw'⟩
    rw [hw']
    clear hw' w'
    by_cases hw0 : s1.wait = 0
    · have hw0b : (s1.wait == 0) = true := by simpa using hw0
      have HQ : Hid ((s1, o0) = (s', o')) := by show _ = _; rw [← HP1.out]; unfold dueP; rw [if_pos (Or.inr hw0)]
      clear hw0
      obtain ⟨rfl, rfl⟩ : s1 = s' ∧ o0 = o' := by cases HQ.out; exact ⟨rfl, rfl⟩
      obtain ⟨wZ, hwZ⟩ : ∃ y, w3 = y := ⟨_, rfl⟩
      obtain ⟨FZ, hFZ⟩ : ∃ y, F0 = y := ⟨_, rfl⟩
      have HSOZ : Hid (SO w.heap.size wZ b s1 bo o0 FZ) := by rw [← hwZ, ← hFZ]; exact HSO3.out
      have HKFZ : Hid (Kf w wZ (fpS b st) FZ) := by rw [← hwZ, ← hFZ]; exact HKF3.out
      have HXZ : Hid (SB OutK rb [.slice none 0 0, .slice none 0 0] wZ) := by rw [← hwZ]; exact HX3.out
      have HNFZ : Hid (¬ FZ rb) := by rw [← hFZ]; exact HNF.out
      rw [hwZ] at c4 c5 c7 c8 c9 ⊢
      clear hwZ hFZ HSO3 HKF3 HX3 HQ HP1
      obtain ⟨st5, vb5, ve5, l5, g1, g2, g3, g4⟩ := HSOZ.out
      have G1 : Hid (Ses wZ b s1 st5) := g1
      have G2 : Hid (Out w.heap.size wZ bo o0 vb5 ve5 l5) := g2
      have G3 : Hid (∀ g, fpS b st5 g → ¬ fpO bo vb5 ve5 l5 g) := g3
      have G4 : Hid (∀ g, FZ g ↔ fpS b st5 g ∨ fpO bo vb5 ve5 l5 g) := g4
      obtain ⟨x1, y1, e1, -⟩ := g2.bys.form
      obtain ⟨x2, y2, e2, -⟩ := g2.ev.own.form
      obtain ⟨z1, hz1⟩ : ∃ y, o0.b.length = y := ⟨_, rfl⟩
      obtain ⟨z2, hz2⟩ : ∃ y, l5.length = y := ⟨_, rfl⟩
      rw [hz1] at e1
      rw [hz2] at e2
      subst e1 e2
      clear g1 g2 g3 g4 hz1 hz2
      go_wp2_with (first | (refine list_sload OutK rfl _ rfl (b := bo) (cs := [.slice x1 z1 y1, .slice x2 z2 y2]) rfl G2.out.box rfl ?_) | (refine list_sstore OutK rfl _ _ rfl (b := rb) (cs := [.slice none 0 0, .slice none 0 0]) (cs' := [.slice x1 z1 y1, .slice x2 z2 y2]) rfl rfl HXZ.out rfl rfl rfl ?_))
      intro w6 hb6 hk6
      have HR : Hid (MvPost w b st (s1, o0) (.returned (.agg #[.slice x1 z1 y1, .slice x2 z2 y2])) w6) := mv_end G1.out G2.out G3.out G4.out HKFZ.out HNFZ.out HRB.out hk6.out
      clear hk6 G1 G2 G3 G4 HSOZ HKFZ HXZ
      go_wp2_with fail
      exact bodyPost_ret (mv_res hb6.out rfl) rfl HR.out
    · have hw0b : (s1.wait == 0) = false := by simpa using hw0
      by_cases hd : s1.wait ≤ s1.clock - s1.heard
      · go_wp2_with fail
        go_region
        obtain ⟨w4, hw4⟩ : ∃ y, w3.drew = y := ⟨_, rfl⟩
        have HSO4 : Hid (SO w.heap.size w4 b s1 bo o0 F0) := by rw [← hw4]; exact HSO3.out.bel (drew_bel w3)
        have HKF4 : Hid (Kf w w4 (fpS b st) F0) := by rw [← hw4]; exact HKF3.out.trans (Kf.bel _ (drew_bel w3))
        have HX4 : Hid (SB OutK rb [.slice none 0 0, .slice none 0 0] w4) := by rw [← hw4]; exact HX3.out
        have HM4 : Hid (w.heap.size ≤ w4.heap.size) := HKF4.out.str.size
        clear c4 c5 c7 c8 c9 HSO3 HKF3 HX3 HM3
        obtain ⟨p4, hp4⟩ := HSO4.out.cells
        have c4 : w4.cell? ⟨b, 4, none⟩ = some (.int .i64 s1.clock) := hp4.cell 4
        have c5 : w4.cell? ⟨b, 5, none⟩ = some (.int .i64 s1.state) := hp4.cell 5
        have c7 : w4.cell? ⟨b, 7, none⟩ = some (.int .i64 s1.heard) := hp4.cell 7
        have c8 : w4.cell? ⟨b, 8, none⟩ = some (.int .i64 s1.sent) := hp4.cell 8
        have c9 : w4.cell? ⟨b, 9, none⟩ = some (.int .i64 s1.wait) := hp4.cell 9
        clear hp4
        have HEN := end_any w.heap.size b bo s1 o0 F0 4 w4 HSO4.out HM4.out (by have := HO0.out; omega) (by have := HO0.out; omega) s' o' (by rw [← HP1.out]; unfold dueP; rw [if_neg (by omega), if_pos hd])
        rw [hw4]
        clear hw4
        go_wp2_with fail
        refine HEN.mono ?_
        rintro e wZ ⟨⟨u, rfl⟩, FZ, hs4, hk4⟩
        have HSOZ : Hid (SO w.heap.size wZ b s' bo o' FZ) := hs4
        have HKFZ : Hid (Kf w wZ (fpS b st) FZ) := HKF4.out.trans hk4
        have HXZ : Hid (SB OutK rb [.slice none 0 0, .slice none 0 0] wZ) := HX4.out.blk (hk4.blk rb HX4.out.lt HNF.out)
        have HNFZ : Hid (¬ FZ rb) := fun h => by
          rcases hk4.now rb h with h | h
          · exact HNF.out h
          · have := HX4.out.lt; omega
        clear HEN hs4 hk4 c4 c5 c7 c8 c9 HSO4 HKF4 HX4
        obtain ⟨st5, vb5, ve5, l5, g1, g2, g3, g4⟩ := HSOZ.out
        have G1 : Hid (Ses wZ b s' st5) := g1
        have G2 : Hid (Out w.heap.size wZ bo o' vb5 ve5 l5) := g2
        have G3 : Hid (∀ g, fpS b st5 g → ¬ fpO bo vb5 ve5 l5 g) := g3
        have G4 : Hid (∀ g, FZ g ↔ fpS b st5 g ∨ fpO bo vb5 ve5 l5 g) := g4
        obtain ⟨x1, y1, e1, -⟩ := g2.bys.form
        obtain ⟨x2, y2, e2, -⟩ := g2.ev.own.form
        obtain ⟨z1, hz1⟩ : ∃ y, o'.b.length = y := ⟨_, rfl⟩
        obtain ⟨z2, hz2⟩ : ∃ y, l5.length = y := ⟨_, rfl⟩
        rw [hz1] at e1
        rw [hz2] at e2
        subst e1 e2
        clear g1 g2 g3 g4 hz1 hz2
        go_wp2_with (first | (refine list_sload OutK rfl _ rfl (b := bo) (cs := [.slice x1 z1 y1, .slice x2 z2 y2]) rfl G2.out.box rfl ?_) | (refine list_sstore OutK rfl _ _ rfl (b := rb) (cs := [.slice none 0 0, .slice none 0 0]) (cs' := [.slice x1 z1 y1, .slice x2 z2 y2]) rfl rfl HXZ.out rfl rfl rfl ?_))
        intro w6 hb6 hk6
        have HR : Hid (MvPost w b st (s', o') (.returned (.agg #[.slice x1 z1 y1, .slice x2 z2 y2])) w6) := mv_end G1.out G2.out G3.out G4.out HKFZ.out HNFZ.out HRB.out hk6.out
        clear hk6 G1 G2 G3 G4 HSOZ HKFZ HXZ
        go_wp2_with fail
        exact bodyPost_ret (mv_res hb6.out rfl) rfl HR.out
      · go_wp2_with fail
        go_region
        obtain ⟨w4, hw4⟩ : ∃ y, w3.drew = y := ⟨_, rfl⟩
        have HSO4 : Hid (SO w.heap.size w4 b s1 bo o0 F0) := by rw [← hw4]; exact HSO3.out.bel (drew_bel w3)
        have HKF4 : Hid (Kf w w4 (fpS b st) F0) := by rw [← hw4]; exact HKF3.out.trans (Kf.bel _ (drew_bel w3))
        have HX4 : Hid (SB OutK rb [.slice none 0 0, .slice none 0 0] w4) := by rw [← hw4]; exact HX3.out
        have HM4 : Hid (w.heap.size ≤ w4.heap.size) := HKF4.out.str.size
        clear c4 c5 c7 c8 c9 HSO3 HKF3 HX3 HM3
        obtain ⟨p4, hp4⟩ := HSO4.out.cells
        have c4 : w4.cell? ⟨b, 4, none⟩ = some (.int .i64 s1.clock) := hp4.cell 4
        have c5 : w4.cell? ⟨b, 5, none⟩ = some (.int .i64 s1.state) := hp4.cell 5
        have c7 : w4.cell? ⟨b, 7, none⟩ = some (.int .i64 s1.heard) := hp4.cell 7
        have c8 : w4.cell? ⟨b, 8, none⟩ = some (.int .i64 s1.sent) := hp4.cell 8
        have c9 : w4.cell? ⟨b, 9, none⟩ = some (.int .i64 s1.wait) := hp4.cell 9
        clear hp4
        rw [hw4]
        clear hw4
        by_cases h1 : s1.state = 1
        · go_wp2_with fail
          go_region
          obtain ⟨w5, hw5⟩ : ∃ y, w4.drew = y := ⟨_, rfl⟩
          have HSO5 : Hid (SO w.heap.size w5 b s1 bo o0 F0) := by rw [← hw5]; exact HSO4.out.bel (drew_bel w4)
          have HKF5 : Hid (Kf w w5 (fpS b st) F0) := by rw [← hw5]; exact HKF4.out.trans (Kf.bel _ (drew_bel w4))
          have HX5 : Hid (SB OutK rb [.slice none 0 0, .slice none 0 0] w5) := by rw [← hw5]; exact HX4.out
          have HM5 : Hid (w.heap.size ≤ w5.heap.size) := HKF5.out.str.size
          clear c4 c5 c7 c8 c9 HSO4 HKF4 HX4 HM4
          obtain ⟨p5, hp5⟩ := HSO5.out.cells
          have c4 : w5.cell? ⟨b, 4, none⟩ = some (.int .i64 s1.clock) := hp5.cell 4
          have c5 : w5.cell? ⟨b, 5, none⟩ = some (.int .i64 s1.state) := hp5.cell 5
          have c7 : w5.cell? ⟨b, 7, none⟩ = some (.int .i64 s1.heard) := hp5.cell 7
          have c8 : w5.cell? ⟨b, 8, none⟩ = some (.int .i64 s1.sent) := hp5.cell 8
          have c9 : w5.cell? ⟨b, 9, none⟩ = some (.int .i64 s1.wait) := hp5.cell 9
          clear hp5
          rw [hw5]
          clear hw5
          have HQ : Hid ((s1, o0) = (s', o')) := by show _ = _; rw [← HP1.out]; unfold dueP; rw [if_neg (by omega), if_neg (by omega), if_neg (fun c => c.1 h1)]
          obtain ⟨rfl, rfl⟩ : s1 = s' ∧ o0 = o' := by cases HQ.out; exact ⟨rfl, rfl⟩
          obtain ⟨wZ, hwZ⟩ : ∃ y, w5 = y := ⟨_, rfl⟩
          obtain ⟨FZ, hFZ⟩ : ∃ y, F0 = y := ⟨_, rfl⟩
          have HSOZ : Hid (SO w.heap.size wZ b s1 bo o0 FZ) := by rw [← hwZ, ← hFZ]; exact HSO5.out
          have HKFZ : Hid (Kf w wZ (fpS b st) FZ) := by rw [← hwZ, ← hFZ]; exact HKF5.out
          have HXZ : Hid (SB OutK rb [.slice none 0 0, .slice none 0 0] wZ) := by rw [← hwZ]; exact HX5.out
          have HNFZ : Hid (¬ FZ rb) := by rw [← hFZ]; exact HNF.out
          rw [hwZ] at c4 c5 c7 c8 c9 ⊢
          clear hwZ hFZ HSO5 HKF5 HX5 HQ HP1
          obtain ⟨st5, vb5, ve5, l5, g1, g2, g3, g4⟩ := HSOZ.out
          have G1 : Hid (Ses wZ b s1 st5) := g1
          have G2 : Hid (Out w.heap.size wZ bo o0 vb5 ve5 l5) := g2
          have G3 : Hid (∀ g, fpS b st5 g → ¬ fpO bo vb5 ve5 l5 g) := g3
          have G4 : Hid (∀ g, FZ g ↔ fpS b st5 g ∨ fpO bo vb5 ve5 l5 g) := g4
          obtain ⟨x1, y1, e1, -⟩ := g2.bys.form
          obtain ⟨x2, y2, e2, -⟩ := g2.ev.own.form
          obtain ⟨z1, hz1⟩ : ∃ y, o0.b.length = y := ⟨_, rfl⟩
          obtain ⟨z2, hz2⟩ : ∃ y, l5.length = y := ⟨_, rfl⟩
          rw [hz1] at e1
          rw [hz2] at e2
          subst e1 e2
          clear g1 g2 g3 g4 hz1 hz2
          go_wp2_with (first | (refine list_sload OutK rfl _ rfl (b := bo) (cs := [.slice x1 z1 y1, .slice x2 z2 y2]) rfl G2.out.box rfl ?_) | (refine list_sstore OutK rfl _ _ rfl (b := rb) (cs := [.slice none 0 0, .slice none 0 0]) (cs' := [.slice x1 z1 y1, .slice x2 z2 y2]) rfl rfl HXZ.out rfl rfl rfl ?_))
          intro w6 hb6 hk6
          have HR : Hid (MvPost w b st (s1, o0) (.returned (.agg #[.slice x1 z1 y1, .slice x2 z2 y2])) w6) := mv_end G1.out G2.out G3.out G4.out HKFZ.out HNFZ.out HRB.out hk6.out
          clear hk6 G1 G2 G3 G4 HSOZ HKFZ HXZ
          go_wp2_with fail
          exact bodyPost_ret (mv_res hb6.out rfl) rfl HR.out
        · by_cases h2 : s1.wait.tdiv 3 ≤ s1.clock - s1.sent
          · go_wp2_with fail
            have h1b : (s1.state != 1) = true := by simpa using h1
            have hwr : IntKind.i64.wrap (s1.clock - s1.sent) = s1.clock - s1.sent := IntWalk.i64_in _ (by omega)
            have hwd : IntKind.i64.wrap (s1.wait.tdiv 3) = s1.wait.tdiv 3 := tdiv3 HWT.out
            obtain ⟨p4, hp4⟩ := HSO4.out.cells
            have HBX : Hid (SB SsK b (ssL s1 p4) w4.drew) := hp4
            clear hp4
            refine wp_region_held_drew (S := fun W => SB SsK b (ssL s1 p4) W) (by kernel_rfl) HBX.out (fun hHeld => ?_)
            refine wpAnyH_take (i := 0) (v := ?_) rfl (by kernel_rfl) (by kernel_rfl) (by kernel_rfl) (fun _ _ _ h => h) (Or.inl ⟨by rfl, ?_⟩) (by assumption) ?_
            case refine_2 => intro W hSw; go_simp; try rfl
            try simp only [Act.put, List.getElem_toArray, List.getElem_cons_zero, List.getElem_cons_succ, List.setIfInBounds_toArray, List.set_cons_zero, List.set_cons_succ]
            refine wpAnyH_take (i := 1) (v := ?_) rfl (by kernel_rfl) (by kernel_rfl) (by kernel_rfl) (fun _ _ _ h => h) (Or.inl ⟨by rfl, ?_⟩) (by assumption) ?_
            case refine_2 => intro W hSw; go_simp; try rfl
            try simp only [Act.put, List.getElem_toArray, List.getElem_cons_zero, List.getElem_cons_succ, List.setIfInBounds_toArray, List.set_cons_zero, List.set_cons_succ]
            refine wpAnyH_take (i := 2) (v := ?_) rfl (by kernel_rfl) (by kernel_rfl) (by kernel_rfl) (fun _ _ _ h => h) (Or.inl ⟨by rfl, ?_⟩) (by assumption) ?_
            case refine_2 => intro W hSw; go_simp; try rfl
            try simp only [Act.put, List.getElem_toArray, List.getElem_cons_zero, List.getElem_cons_succ, List.setIfInBounds_toArray, List.set_cons_zero, List.set_cons_succ]
            refine wpAnyH_take (i := 3) (v := .int .i64 s1.state) rfl (by kernel_rfl) (by kernel_rfl) (by kernel_rfl) (fun _ _ _ h => h) (Or.inl ⟨by rfl, ?_⟩) (by assumption) ?_
            case refine_1 => intro W hSw; have cc : W.cell? ⟨b, 5, none⟩ = some (.int .i64 s1.state) := hSw.cell 5; go_simp; try rfl
            try simp only [Act.put, List.getElem_toArray, List.getElem_cons_zero, List.getElem_cons_succ, List.setIfInBounds_toArray, List.set_cons_zero, List.set_cons_succ]
            refine wpAnyH_take (i := 4) (v := .bool true) rfl (by kernel_rfl) (by kernel_rfl) (by kernel_rfl) (fun _ _ _ h => h) (Or.inl ⟨by rfl, ?_⟩) (by assumption) ?_
            case refine_1 => intro W hSw; go_simp; try rfl
            try simp only [Act.put, List.getElem_toArray, List.getElem_cons_zero, List.getElem_cons_succ, List.setIfInBounds_toArray, List.set_cons_zero, List.set_cons_succ]
            refine wpAnyH_take (i := 5) (v := ?_) rfl (by kernel_rfl) (by kernel_rfl) (by kernel_rfl) (fun _ _ _ h => h) (Or.inl ⟨by rfl, ?_⟩) (by assumption) ?_
            case refine_2 => intro W hSw; go_simp; try rfl
            try simp only [Act.put, List.getElem_toArray, List.getElem_cons_zero, List.getElem_cons_succ, List.setIfInBounds_toArray, List.set_cons_zero, List.set_cons_succ]
            refine wpAnyH_take (i := 6) (v := ?_) rfl (by kernel_rfl) (by kernel_rfl) (by kernel_rfl) (fun _ _ _ h => h) (Or.inl ⟨by rfl, ?_⟩) (by assumption) ?_
            case refine_2 => intro W hSw; go_simp; try rfl
            try simp only [Act.put, List.getElem_toArray, List.getElem_cons_zero, List.getElem_cons_succ, List.setIfInBounds_toArray, List.set_cons_zero, List.set_cons_succ]
            refine wpAnyH_take (i := 7) (v := ?_) rfl (by kernel_rfl) (by kernel_rfl) (by kernel_rfl) (fun _ _ _ h => h) (Or.inl ⟨by rfl, ?_⟩) (by assumption) ?_
            case refine_2 => intro W hSw; go_simp; try rfl
            try simp only [Act.put, List.getElem_toArray, List.getElem_cons_zero, List.getElem_cons_succ, List.setIfInBounds_toArray, List.set_cons_zero, List.set_cons_succ]
            refine wpAnyH_take (i := 8) (v := ?_) rfl (by kernel_rfl) (by kernel_rfl) (by kernel_rfl) (fun _ _ _ h => h) (Or.inl ⟨by rfl, ?_⟩) (by assumption) ?_
            case refine_2 => intro W hSw; go_simp; try rfl
            try simp only [Act.put, List.getElem_toArray, List.getElem_cons_zero, List.getElem_cons_succ, List.setIfInBounds_toArray, List.set_cons_zero, List.set_cons_succ]
            refine wpAnyH_take (i := 9) (v := .int .i64 s1.clock) rfl (by kernel_rfl) (by kernel_rfl) (by kernel_rfl) (fun _ _ _ h => h) (Or.inl ⟨by rfl, ?_⟩) (by assumption) ?_
            case refine_1 => intro W hSw; have cc : W.cell? ⟨b, 4, none⟩ = some (.int .i64 s1.clock) := hSw.cell 4; go_simp; try rfl
            try simp only [Act.put, List.getElem_toArray, List.getElem_cons_zero, List.getElem_cons_succ, List.setIfInBounds_toArray, List.set_cons_zero, List.set_cons_succ]
            refine wpAnyH_take (i := 10) (v := ?_) rfl (by kernel_rfl) (by kernel_rfl) (by kernel_rfl) (fun _ _ _ h => h) (Or.inl ⟨by rfl, ?_⟩) (by assumption) ?_
            case refine_2 => intro W hSw; go_simp; try rfl
            try simp only [Act.put, List.getElem_toArray, List.getElem_cons_zero, List.getElem_cons_succ, List.setIfInBounds_toArray, List.set_cons_zero, List.set_cons_succ]
            refine wpAnyH_take (i := 11) (v := ?_) rfl (by kernel_rfl) (by kernel_rfl) (by kernel_rfl) (fun _ _ _ h => h) (Or.inl ⟨by rfl, ?_⟩) (by assumption) ?_
            case refine_2 => intro W hSw; go_simp; try rfl
            try simp only [Act.put, List.getElem_toArray, List.getElem_cons_zero, List.getElem_cons_succ, List.setIfInBounds_toArray, List.set_cons_zero, List.set_cons_succ]
            refine wpAnyH_take (i := 12) (v := ?_) rfl (by kernel_rfl) (by kernel_rfl) (by kernel_rfl) (fun _ _ _ h => h) (Or.inl ⟨by rfl, ?_⟩) (by assumption) ?_
            case refine_2 => intro W hSw; go_simp; try rfl
            try simp only [Act.put, List.getElem_toArray, List.getElem_cons_zero, List.getElem_cons_succ, List.setIfInBounds_toArray, List.set_cons_zero, List.set_cons_succ]
            refine wpAnyH_take (i := 13) (v := ?_) rfl (by kernel_rfl) (by kernel_rfl) (by kernel_rfl) (fun _ _ _ h => h) (Or.inl ⟨by rfl, ?_⟩) (by assumption) ?_
            case refine_2 => intro W hSw; go_simp; try rfl
            try simp only [Act.put, List.getElem_toArray, List.getElem_cons_zero, List.getElem_cons_succ, List.setIfInBounds_toArray, List.set_cons_zero, List.set_cons_succ]
            refine wpAnyH_take (i := 14) (v := .int .i64 s1.sent) rfl (by kernel_rfl) (by kernel_rfl) (by kernel_rfl) (fun _ _ _ h => h) (Or.inl ⟨by rfl, ?_⟩) (by assumption) ?_
            case refine_1 => intro W hSw; have cc : W.cell? ⟨b, 8, none⟩ = some (.int .i64 s1.sent) := hSw.cell 8; go_simp; try rfl
            try simp only [Act.put, List.getElem_toArray, List.getElem_cons_zero, List.getElem_cons_succ, List.setIfInBounds_toArray, List.set_cons_zero, List.set_cons_succ]
            refine wpAnyH_take (i := 15) (v := .int .i64 (s1.clock - s1.sent)) rfl (by kernel_rfl) (by kernel_rfl) (by kernel_rfl) (fun _ _ _ h => h) (Or.inl ⟨by rfl, ?_⟩) (by assumption) ?_
            case refine_1 => intro W hSw; go_simp; try simp only [hwr, hwd]
            try simp only [Act.put, List.getElem_toArray, List.getElem_cons_zero, List.getElem_cons_succ, List.setIfInBounds_toArray, List.set_cons_zero, List.set_cons_succ]
            refine wpAnyH_take (i := 16) (v := ?_) rfl (by kernel_rfl) (by kernel_rfl) (by kernel_rfl) (fun _ _ _ h => h) (Or.inl ⟨by rfl, ?_⟩) (by assumption) ?_
            case refine_2 => intro W hSw; go_simp; try rfl
            try simp only [Act.put, List.getElem_toArray, List.getElem_cons_zero, List.getElem_cons_succ, List.setIfInBounds_toArray, List.set_cons_zero, List.set_cons_succ]
            refine wpAnyH_take (i := 17) (v := ?_) rfl (by kernel_rfl) (by kernel_rfl) (by kernel_rfl) (fun _ _ _ h => h) (Or.inl ⟨by rfl, ?_⟩) (by assumption) ?_
            case refine_2 => intro W hSw; go_simp; try rfl
            try simp only [Act.put, List.getElem_toArray, List.getElem_cons_zero, List.getElem_cons_succ, List.setIfInBounds_toArray, List.set_cons_zero, List.set_cons_succ]
            refine wpAnyH_take (i := 18) (v := ?_) rfl (by kernel_rfl) (by kernel_rfl) (by kernel_rfl) (fun _ _ _ h => h) (Or.inl ⟨by rfl, ?_⟩) (by assumption) ?_
            case refine_2 => intro W hSw; go_simp; try rfl
            try simp only [Act.put, List.getElem_toArray, List.getElem_cons_zero, List.getElem_cons_succ, List.setIfInBounds_toArray, List.set_cons_zero, List.set_cons_succ]
            refine wpAnyH_take (i := 19) (v := ?_) rfl (by kernel_rfl) (by kernel_rfl) (by kernel_rfl) (fun _ _ _ h => h) (Or.inl ⟨by rfl, ?_⟩) (by assumption) ?_
            case refine_2 => intro W hSw; go_simp; try rfl
            try simp only [Act.put, List.getElem_toArray, List.getElem_cons_zero, List.getElem_cons_succ, List.setIfInBounds_toArray, List.set_cons_zero, List.set_cons_succ]
            refine wpAnyH_take (i := 20) (v := .int .i64 s1.wait) rfl (by kernel_rfl) (by kernel_rfl) (by kernel_rfl) (fun _ _ _ h => h) (Or.inl ⟨by rfl, ?_⟩) (by assumption) ?_
            case refine_1 => intro W hSw; have cc : W.cell? ⟨b, 9, none⟩ = some (.int .i64 s1.wait) := hSw.cell 9; go_simp; try rfl
            try simp only [Act.put, List.getElem_toArray, List.getElem_cons_zero, List.getElem_cons_succ, List.setIfInBounds_toArray, List.set_cons_zero, List.set_cons_succ]
            refine wpAnyH_take (i := 21) (v := .int .i64 (s1.wait.tdiv 3)) rfl (by kernel_rfl) (by kernel_rfl) (by kernel_rfl) (fun _ _ _ h => h) (Or.inl ⟨by rfl, ?_⟩) (by assumption) ?_
            case refine_1 => intro W hSw; go_simp; try simp only [hwr, hwd]
            try simp only [Act.put, List.getElem_toArray, List.getElem_cons_zero, List.getElem_cons_succ, List.setIfInBounds_toArray, List.set_cons_zero, List.set_cons_succ]
            refine wpAnyH_take (i := 22) (v := .bool true) rfl (by kernel_rfl) (by kernel_rfl) (by kernel_rfl) (fun _ _ _ h => h) (Or.inl ⟨by rfl, ?_⟩) (by assumption) ?_
            case refine_1 => intro W hSw; go_simp; try rfl
            try simp only [Act.put, List.getElem_toArray, List.getElem_cons_zero, List.getElem_cons_succ, List.setIfInBounds_toArray, List.set_cons_zero, List.set_cons_succ]
            refine wpAnyH_take (i := 23) (v := ?_) rfl (by kernel_rfl) (by kernel_rfl) (by kernel_rfl) (fun _ _ _ h => h) (Or.inl ⟨by rfl, ?_⟩) (by assumption) ?_
            case refine_2 => intro W hSw; go_simp; try rfl
            try simp only [Act.put, List.getElem_toArray, List.getElem_cons_zero, List.getElem_cons_succ, List.setIfInBounds_toArray, List.set_cons_zero, List.set_cons_succ]
            refine wpAnyH_take (i := 24) (v := ?_) rfl (by kernel_rfl) (by kernel_rfl) (by kernel_rfl) (fun _ _ _ h => h) (Or.inl ⟨by rfl, ?_⟩) (by assumption) ?_
            case refine_2 => intro W hSw; go_simp; try rfl
            try simp only [Act.put, List.getElem_toArray, List.getElem_cons_zero, List.getElem_cons_succ, List.setIfInBounds_toArray, List.set_cons_zero, List.set_cons_succ]
            refine wpAnyH_done (by kernel_rfl) ?_ _
            clear hHeld HBX hwr hwd
            obtain ⟨w5, hw5⟩ : ∃ y, w4.drew = y := ⟨_, rfl⟩
            have HSO5 : Hid (SO w.heap.size w5 b s1 bo o0 F0) := by rw [← hw5]; exact HSO4.out.bel (drew_bel w4)
            have HKF5 : Hid (Kf w w5 (fpS b st) F0) := by rw [← hw5]; exact HKF4.out.trans (Kf.bel _ (drew_bel w4))
            have HX5 : Hid (SB OutK rb [.slice none 0 0, .slice none 0 0] w5) := by rw [← hw5]; exact HX4.out
            have HM5 : Hid (w.heap.size ≤ w5.heap.size) := HKF5.out.str.size
            clear c4 c5 c7 c8 c9 HSO4 HKF4 HX4 HM4
            obtain ⟨p5, hp5⟩ := HSO5.out.cells
            have c4 : w5.cell? ⟨b, 4, none⟩ = some (.int .i64 s1.clock) := hp5.cell 4
            have c5 : w5.cell? ⟨b, 5, none⟩ = some (.int .i64 s1.state) := hp5.cell 5
            have c7 : w5.cell? ⟨b, 7, none⟩ = some (.int .i64 s1.heard) := hp5.cell 7
            have c8 : w5.cell? ⟨b, 8, none⟩ = some (.int .i64 s1.sent) := hp5.cell 8
            have c9 : w5.cell? ⟨b, 9, none⟩ = some (.int .i64 s1.wait) := hp5.cell 9
            clear hp5
            rw [hw5]
            clear hw5
            have HEN := send_any w.heap.size b bo s1 o0 F0 alv sZ w5 HSO5.out HM5.out (mok_zero w5 _ rfl rfl rfl) ⟨Nat.zero_le _, Nat.zero_le _⟩ (by have := HO0.out; omega) _ rfl s' o' (by rw [← HP1.out]; unfold dueP; rw [if_neg (by omega), if_neg (by omega), if_pos ⟨h1, h2⟩])
            go_wp2_with fail
            refine HEN.mono ?_
            rintro e wZ ⟨rfl, FZ, hs4, hk4⟩
            have HSOZ : Hid (SO w.heap.size wZ b s' bo o' FZ) := hs4
            have HKFZ : Hid (Kf w wZ (fpS b st) FZ) := HKF5.out.trans hk4
            have HXZ : Hid (SB OutK rb [.slice none 0 0, .slice none 0 0] wZ) := HX5.out.blk (hk4.blk rb HX5.out.lt HNF.out)
            have HNFZ : Hid (¬ FZ rb) := fun h => by
              rcases hk4.now rb h with h | h
              · exact HNF.out h
              · have := HX5.out.lt; omega
            clear HEN hs4 hk4 c4 c5 c7 c8 c9 HSO5 HKF5 HX5
            obtain ⟨st5, vb5, ve5, l5, g1, g2, g3, g4⟩ := HSOZ.out
            have G1 : Hid (Ses wZ b s' st5) := g1
            have G2 : Hid (Out w.heap.size wZ bo o' vb5 ve5 l5) := g2
            have G3 : Hid (∀ g, fpS b st5 g → ¬ fpO bo vb5 ve5 l5 g) := g3
            have G4 : Hid (∀ g, FZ g ↔ fpS b st5 g ∨ fpO bo vb5 ve5 l5 g) := g4
            obtain ⟨x1, y1, e1, -⟩ := g2.bys.form
            obtain ⟨x2, y2, e2, -⟩ := g2.ev.own.form
            obtain ⟨z1, hz1⟩ : ∃ y, o'.b.length = y := ⟨_, rfl⟩
            obtain ⟨z2, hz2⟩ : ∃ y, l5.length = y := ⟨_, rfl⟩
            rw [hz1] at e1
            rw [hz2] at e2
            subst e1 e2
            clear g1 g2 g3 g4 hz1 hz2
            go_wp2_with (first | (refine list_sload OutK rfl _ rfl (b := bo) (cs := [.slice x1 z1 y1, .slice x2 z2 y2]) rfl G2.out.box rfl ?_) | (refine list_sstore OutK rfl _ _ rfl (b := rb) (cs := [.slice none 0 0, .slice none 0 0]) (cs' := [.slice x1 z1 y1, .slice x2 z2 y2]) rfl rfl HXZ.out rfl rfl rfl ?_))
            intro w6 hb6 hk6
            have HR : Hid (MvPost w b st (s', o') (.returned (.agg #[.slice x1 z1 y1, .slice x2 z2 y2])) w6) := mv_end G1.out G2.out G3.out G4.out HKFZ.out HNFZ.out HRB.out hk6.out
            clear hk6 G1 G2 G3 G4 HSOZ HKFZ HXZ
            go_wp2_with fail
            exact bodyPost_ret (mv_res hb6.out rfl) rfl HR.out
          · go_wp2_with fail
            have h1b : (s1.state != 1) = true := by simpa using h1
            have hwr : IntKind.i64.wrap (s1.clock - s1.sent) = s1.clock - s1.sent := IntWalk.i64_in _ (by omega)
            have hwd : IntKind.i64.wrap (s1.wait.tdiv 3) = s1.wait.tdiv 3 := tdiv3 HWT.out
            obtain ⟨p4, hp4⟩ := HSO4.out.cells
            have HBX : Hid (SB SsK b (ssL s1 p4) w4.drew) := hp4
            clear hp4
            refine wp_region_held_drew (S := fun W => SB SsK b (ssL s1 p4) W) (by kernel_rfl) HBX.out (fun hHeld => ?_)
            refine wpAnyH_take (i := 0) (v := ?_) rfl (by kernel_rfl) (by kernel_rfl) (by kernel_rfl) (fun _ _ _ h => h) (Or.inl ⟨by rfl, ?_⟩) (by assumption) ?_
            case refine_2 => intro W hSw; go_simp; try rfl
            try simp only [Act.put, List.getElem_toArray, List.getElem_cons_zero, List.getElem_cons_succ, List.setIfInBounds_toArray, List.set_cons_zero, List.set_cons_succ]
            refine wpAnyH_take (i := 1) (v := ?_) rfl (by kernel_rfl) (by kernel_rfl) (by kernel_rfl) (fun _ _ _ h => h) (Or.inl ⟨by rfl, ?_⟩) (by assumption) ?_
            case refine_2 => intro W hSw; go_simp; try rfl
            try simp only [Act.put, List.getElem_toArray, List.getElem_cons_zero, List.getElem_cons_succ, List.setIfInBounds_toArray, List.set_cons_zero, List.set_cons_succ]
            refine wpAnyH_take (i := 2) (v := ?_) rfl (by kernel_rfl) (by kernel_rfl) (by kernel_rfl) (fun _ _ _ h => h) (Or.inl ⟨by rfl, ?_⟩) (by assumption) ?_
            case refine_2 => intro W hSw; go_simp; try rfl
            try simp only [Act.put, List.getElem_toArray, List.getElem_cons_zero, List.getElem_cons_succ, List.setIfInBounds_toArray, List.set_cons_zero, List.set_cons_succ]
            refine wpAnyH_take (i := 3) (v := .int .i64 s1.state) rfl (by kernel_rfl) (by kernel_rfl) (by kernel_rfl) (fun _ _ _ h => h) (Or.inl ⟨by rfl, ?_⟩) (by assumption) ?_
            case refine_1 => intro W hSw; have cc : W.cell? ⟨b, 5, none⟩ = some (.int .i64 s1.state) := hSw.cell 5; go_simp; try rfl
            try simp only [Act.put, List.getElem_toArray, List.getElem_cons_zero, List.getElem_cons_succ, List.setIfInBounds_toArray, List.set_cons_zero, List.set_cons_succ]
            refine wpAnyH_take (i := 4) (v := .bool true) rfl (by kernel_rfl) (by kernel_rfl) (by kernel_rfl) (fun _ _ _ h => h) (Or.inl ⟨by rfl, ?_⟩) (by assumption) ?_
            case refine_1 => intro W hSw; go_simp; try rfl
            try simp only [Act.put, List.getElem_toArray, List.getElem_cons_zero, List.getElem_cons_succ, List.setIfInBounds_toArray, List.set_cons_zero, List.set_cons_succ]
            refine wpAnyH_take (i := 5) (v := ?_) rfl (by kernel_rfl) (by kernel_rfl) (by kernel_rfl) (fun _ _ _ h => h) (Or.inl ⟨by rfl, ?_⟩) (by assumption) ?_
            case refine_2 => intro W hSw; go_simp; try rfl
            try simp only [Act.put, List.getElem_toArray, List.getElem_cons_zero, List.getElem_cons_succ, List.setIfInBounds_toArray, List.set_cons_zero, List.set_cons_succ]
            refine wpAnyH_take (i := 6) (v := ?_) rfl (by kernel_rfl) (by kernel_rfl) (by kernel_rfl) (fun _ _ _ h => h) (Or.inl ⟨by rfl, ?_⟩) (by assumption) ?_
            case refine_2 => intro W hSw; go_simp; try rfl
            try simp only [Act.put, List.getElem_toArray, List.getElem_cons_zero, List.getElem_cons_succ, List.setIfInBounds_toArray, List.set_cons_zero, List.set_cons_succ]
            refine wpAnyH_take (i := 7) (v := ?_) rfl (by kernel_rfl) (by kernel_rfl) (by kernel_rfl) (fun _ _ _ h => h) (Or.inl ⟨by rfl, ?_⟩) (by assumption) ?_
            case refine_2 => intro W hSw; go_simp; try rfl
            try simp only [Act.put, List.getElem_toArray, List.getElem_cons_zero, List.getElem_cons_succ, List.setIfInBounds_toArray, List.set_cons_zero, List.set_cons_succ]
            refine wpAnyH_take (i := 8) (v := ?_) rfl (by kernel_rfl) (by kernel_rfl) (by kernel_rfl) (fun _ _ _ h => h) (Or.inl ⟨by rfl, ?_⟩) (by assumption) ?_
            case refine_2 => intro W hSw; go_simp; try rfl
            try simp only [Act.put, List.getElem_toArray, List.getElem_cons_zero, List.getElem_cons_succ, List.setIfInBounds_toArray, List.set_cons_zero, List.set_cons_succ]
            refine wpAnyH_take (i := 9) (v := .int .i64 s1.clock) rfl (by kernel_rfl) (by kernel_rfl) (by kernel_rfl) (fun _ _ _ h => h) (Or.inl ⟨by rfl, ?_⟩) (by assumption) ?_
            case refine_1 => intro W hSw; have cc : W.cell? ⟨b, 4, none⟩ = some (.int .i64 s1.clock) := hSw.cell 4; go_simp; try rfl
            try simp only [Act.put, List.getElem_toArray, List.getElem_cons_zero, List.getElem_cons_succ, List.setIfInBounds_toArray, List.set_cons_zero, List.set_cons_succ]
            refine wpAnyH_take (i := 10) (v := ?_) rfl (by kernel_rfl) (by kernel_rfl) (by kernel_rfl) (fun _ _ _ h => h) (Or.inl ⟨by rfl, ?_⟩) (by assumption) ?_
            case refine_2 => intro W hSw; go_simp; try rfl
            try simp only [Act.put, List.getElem_toArray, List.getElem_cons_zero, List.getElem_cons_succ, List.setIfInBounds_toArray, List.set_cons_zero, List.set_cons_succ]
            refine wpAnyH_take (i := 11) (v := ?_) rfl (by kernel_rfl) (by kernel_rfl) (by kernel_rfl) (fun _ _ _ h => h) (Or.inl ⟨by rfl, ?_⟩) (by assumption) ?_
            case refine_2 => intro W hSw; go_simp; try rfl
            try simp only [Act.put, List.getElem_toArray, List.getElem_cons_zero, List.getElem_cons_succ, List.setIfInBounds_toArray, List.set_cons_zero, List.set_cons_succ]
            refine wpAnyH_take (i := 12) (v := ?_) rfl (by kernel_rfl) (by kernel_rfl) (by kernel_rfl) (fun _ _ _ h => h) (Or.inl ⟨by rfl, ?_⟩) (by assumption) ?_
            case refine_2 => intro W hSw; go_simp; try rfl
            try simp only [Act.put, List.getElem_toArray, List.getElem_cons_zero, List.getElem_cons_succ, List.setIfInBounds_toArray, List.set_cons_zero, List.set_cons_succ]
            refine wpAnyH_take (i := 13) (v := ?_) rfl (by kernel_rfl) (by kernel_rfl) (by kernel_rfl) (fun _ _ _ h => h) (Or.inl ⟨by rfl, ?_⟩) (by assumption) ?_
            case refine_2 => intro W hSw; go_simp; try rfl
            try simp only [Act.put, List.getElem_toArray, List.getElem_cons_zero, List.getElem_cons_succ, List.setIfInBounds_toArray, List.set_cons_zero, List.set_cons_succ]
            refine wpAnyH_take (i := 14) (v := .int .i64 s1.sent) rfl (by kernel_rfl) (by kernel_rfl) (by kernel_rfl) (fun _ _ _ h => h) (Or.inl ⟨by rfl, ?_⟩) (by assumption) ?_
            case refine_1 => intro W hSw; have cc : W.cell? ⟨b, 8, none⟩ = some (.int .i64 s1.sent) := hSw.cell 8; go_simp; try rfl
            try simp only [Act.put, List.getElem_toArray, List.getElem_cons_zero, List.getElem_cons_succ, List.setIfInBounds_toArray, List.set_cons_zero, List.set_cons_succ]
            refine wpAnyH_take (i := 15) (v := .int .i64 (s1.clock - s1.sent)) rfl (by kernel_rfl) (by kernel_rfl) (by kernel_rfl) (fun _ _ _ h => h) (Or.inl ⟨by rfl, ?_⟩) (by assumption) ?_
            case refine_1 => intro W hSw; go_simp; try simp only [hwr, hwd]
            try simp only [Act.put, List.getElem_toArray, List.getElem_cons_zero, List.getElem_cons_succ, List.setIfInBounds_toArray, List.set_cons_zero, List.set_cons_succ]
            refine wpAnyH_take (i := 16) (v := ?_) rfl (by kernel_rfl) (by kernel_rfl) (by kernel_rfl) (fun _ _ _ h => h) (Or.inl ⟨by rfl, ?_⟩) (by assumption) ?_
            case refine_2 => intro W hSw; go_simp; try rfl
            try simp only [Act.put, List.getElem_toArray, List.getElem_cons_zero, List.getElem_cons_succ, List.setIfInBounds_toArray, List.set_cons_zero, List.set_cons_succ]
            refine wpAnyH_take (i := 17) (v := ?_) rfl (by kernel_rfl) (by kernel_rfl) (by kernel_rfl) (fun _ _ _ h => h) (Or.inl ⟨by rfl, ?_⟩) (by assumption) ?_
            case refine_2 => intro W hSw; go_simp; try rfl
            try simp only [Act.put, List.getElem_toArray, List.getElem_cons_zero, List.getElem_cons_succ, List.setIfInBounds_toArray, List.set_cons_zero, List.set_cons_succ]
            refine wpAnyH_take (i := 18) (v := ?_) rfl (by kernel_rfl) (by kernel_rfl) (by kernel_rfl) (fun _ _ _ h => h) (Or.inl ⟨by rfl, ?_⟩) (by assumption) ?_
            case refine_2 => intro W hSw; go_simp; try rfl
            try simp only [Act.put, List.getElem_toArray, List.getElem_cons_zero, List.getElem_cons_succ, List.setIfInBounds_toArray, List.set_cons_zero, List.set_cons_succ]
            refine wpAnyH_take (i := 19) (v := ?_) rfl (by kernel_rfl) (by kernel_rfl) (by kernel_rfl) (fun _ _ _ h => h) (Or.inl ⟨by rfl, ?_⟩) (by assumption) ?_
            case refine_2 => intro W hSw; go_simp; try rfl
            try simp only [Act.put, List.getElem_toArray, List.getElem_cons_zero, List.getElem_cons_succ, List.setIfInBounds_toArray, List.set_cons_zero, List.set_cons_succ]
            refine wpAnyH_take (i := 20) (v := .int .i64 s1.wait) rfl (by kernel_rfl) (by kernel_rfl) (by kernel_rfl) (fun _ _ _ h => h) (Or.inl ⟨by rfl, ?_⟩) (by assumption) ?_
            case refine_1 => intro W hSw; have cc : W.cell? ⟨b, 9, none⟩ = some (.int .i64 s1.wait) := hSw.cell 9; go_simp; try rfl
            try simp only [Act.put, List.getElem_toArray, List.getElem_cons_zero, List.getElem_cons_succ, List.setIfInBounds_toArray, List.set_cons_zero, List.set_cons_succ]
            refine wpAnyH_take (i := 21) (v := .int .i64 (s1.wait.tdiv 3)) rfl (by kernel_rfl) (by kernel_rfl) (by kernel_rfl) (fun _ _ _ h => h) (Or.inl ⟨by rfl, ?_⟩) (by assumption) ?_
            case refine_1 => intro W hSw; go_simp; try simp only [hwr, hwd]
            try simp only [Act.put, List.getElem_toArray, List.getElem_cons_zero, List.getElem_cons_succ, List.setIfInBounds_toArray, List.set_cons_zero, List.set_cons_succ]
            refine wpAnyH_take (i := 22) (v := .bool false) rfl (by kernel_rfl) (by kernel_rfl) (by kernel_rfl) (fun _ _ _ h => h) (Or.inl ⟨by rfl, ?_⟩) (by assumption) ?_
            case refine_1 => intro W hSw; go_simp; try rfl
            try simp only [Act.put, List.getElem_toArray, List.getElem_cons_zero, List.getElem_cons_succ, List.setIfInBounds_toArray, List.set_cons_zero, List.set_cons_succ]
            refine wpAnyH_take (i := 23) (v := ?_) rfl (by kernel_rfl) (by kernel_rfl) (by kernel_rfl) (fun _ _ _ h => h) (Or.inl ⟨by rfl, ?_⟩) (by assumption) ?_
            case refine_2 => intro W hSw; go_simp; try rfl
            try simp only [Act.put, List.getElem_toArray, List.getElem_cons_zero, List.getElem_cons_succ, List.setIfInBounds_toArray, List.set_cons_zero, List.set_cons_succ]
            refine wpAnyH_take (i := 24) (v := ?_) rfl (by kernel_rfl) (by kernel_rfl) (by kernel_rfl) (fun _ _ _ h => h) (Or.inl ⟨by rfl, ?_⟩) (by assumption) ?_
            case refine_2 => intro W hSw; go_simp; try rfl
            try simp only [Act.put, List.getElem_toArray, List.getElem_cons_zero, List.getElem_cons_succ, List.setIfInBounds_toArray, List.set_cons_zero, List.set_cons_succ]
            refine wpAnyH_done (by kernel_rfl) ?_ _
            clear hHeld HBX hwr hwd
            obtain ⟨w5, hw5⟩ : ∃ y, w4.drew = y := ⟨_, rfl⟩
            have HSO5 : Hid (SO w.heap.size w5 b s1 bo o0 F0) := by rw [← hw5]; exact HSO4.out.bel (drew_bel w4)
            have HKF5 : Hid (Kf w w5 (fpS b st) F0) := by rw [← hw5]; exact HKF4.out.trans (Kf.bel _ (drew_bel w4))
            have HX5 : Hid (SB OutK rb [.slice none 0 0, .slice none 0 0] w5) := by rw [← hw5]; exact HX4.out
            have HM5 : Hid (w.heap.size ≤ w5.heap.size) := HKF5.out.str.size
            clear c4 c5 c7 c8 c9 HSO4 HKF4 HX4 HM4
            obtain ⟨p5, hp5⟩ := HSO5.out.cells
            have c4 : w5.cell? ⟨b, 4, none⟩ = some (.int .i64 s1.clock) := hp5.cell 4
            have c5 : w5.cell? ⟨b, 5, none⟩ = some (.int .i64 s1.state) := hp5.cell 5
            have c7 : w5.cell? ⟨b, 7, none⟩ = some (.int .i64 s1.heard) := hp5.cell 7
            have c8 : w5.cell? ⟨b, 8, none⟩ = some (.int .i64 s1.sent) := hp5.cell 8
            have c9 : w5.cell? ⟨b, 9, none⟩ = some (.int .i64 s1.wait) := hp5.cell 9
            clear hp5
            rw [hw5]
            clear hw5
            have HQ : Hid ((s1, o0) = (s', o')) := by show _ = _; rw [← HP1.out]; unfold dueP; rw [if_neg (by omega), if_neg (by omega), if_neg (fun c => absurd c.2 (Int.not_le.2 h2))]
            obtain ⟨rfl, rfl⟩ : s1 = s' ∧ o0 = o' := by cases HQ.out; exact ⟨rfl, rfl⟩
            obtain ⟨wZ, hwZ⟩ : ∃ y, w5 = y := ⟨_, rfl⟩
            obtain ⟨FZ, hFZ⟩ : ∃ y, F0 = y := ⟨_, rfl⟩
            have HSOZ : Hid (SO w.heap.size wZ b s1 bo o0 FZ) := by rw [← hwZ, ← hFZ]; exact HSO5.out
            have HKFZ : Hid (Kf w wZ (fpS b st) FZ) := by rw [← hwZ, ← hFZ]; exact HKF5.out
            have HXZ : Hid (SB OutK rb [.slice none 0 0, .slice none 0 0] wZ) := by rw [← hwZ]; exact HX5.out
            have HNFZ : Hid (¬ FZ rb) := by rw [← hFZ]; exact HNF.out
            rw [hwZ] at c4 c5 c7 c8 c9 ⊢
            clear hwZ hFZ HSO5 HKF5 HX5 HQ HP1
            obtain ⟨st5, vb5, ve5, l5, g1, g2, g3, g4⟩ := HSOZ.out
            have G1 : Hid (Ses wZ b s1 st5) := g1
            have G2 : Hid (Out w.heap.size wZ bo o0 vb5 ve5 l5) := g2
            have G3 : Hid (∀ g, fpS b st5 g → ¬ fpO bo vb5 ve5 l5 g) := g3
            have G4 : Hid (∀ g, FZ g ↔ fpS b st5 g ∨ fpO bo vb5 ve5 l5 g) := g4
            obtain ⟨x1, y1, e1, -⟩ := g2.bys.form
            obtain ⟨x2, y2, e2, -⟩ := g2.ev.own.form
            obtain ⟨z1, hz1⟩ : ∃ y, o0.b.length = y := ⟨_, rfl⟩
            obtain ⟨z2, hz2⟩ : ∃ y, l5.length = y := ⟨_, rfl⟩
            rw [hz1] at e1
            rw [hz2] at e2
            subst e1 e2
            clear g1 g2 g3 g4 hz1 hz2
            go_wp2_with (first | (refine list_sload OutK rfl _ rfl (b := bo) (cs := [.slice x1 z1 y1, .slice x2 z2 y2]) rfl G2.out.box rfl ?_) | (refine list_sstore OutK rfl _ _ rfl (b := rb) (cs := [.slice none 0 0, .slice none 0 0]) (cs' := [.slice x1 z1 y1, .slice x2 z2 y2]) rfl rfl HXZ.out rfl rfl rfl ?_))
            intro w6 hb6 hk6
            have HR : Hid (MvPost w b st (s1, o0) (.returned (.agg #[.slice x1 z1 y1, .slice x2 z2 y2])) w6) := mv_end G1.out G2.out G3.out G4.out HKFZ.out HNFZ.out HRB.out hk6.out
            clear hk6 G1 G2 G3 G4 HSOZ HKFZ HXZ
            go_wp2_with fail
            exact bodyPost_ret (mv_res hb6.out rfl) rfl HR.out
end Go.Proofs.Ytanboekdfdafmaa.Pv
namespace Go.Proofs.Ytanboekdfdafmaa.Pv
open Go.ChangeShapes Go.WideShapes Go.ChangeAt Go.RowKit Go.Joins Go.Deep Go.Proofs.Ytanboekdfdafmaa.PM Go.Proofs.Ytanboekdfdafmaa.Ask Go.Proofs.Ytanboekdfdafmaa.Ge
set_option linter.unusedVariables false
set_option linter.unusedSimpArgs false

theorem sb_same {b : Nat} {xs ys : List Value} {w : World} (h : SB SsK b xs w) (k : SB SsK b ys w) : xs = ys := by
  have e := h.symm.trans k
  injection e with e
  injection e with e
  exact List.toArray_inj e
theorem ssL_p {s s2 : Se} {p q : Option Nat} (h : ssL s p = ssL s q) : ssL s2 p = ssL s2 q := by
  have h6 : (ssL s p)[6]? = (ssL s q)[6]? := by rw [h]
  have e : Value.pointer (p.map fun b => ⟨b, 0, none⟩) = Value.pointer (q.map fun b => ⟨b, 0, none⟩) := Option.some.inj h6
  unfold ssL
  rw [e]
/-- numbers of a session are set -/
theorem SO.turn {M : Nat} {w w2 : World} {b bo : Nat} {s s2 : Se} {o : Ou} {F : Nat → Prop} (h : SO M w b s bo o F) (hk : Ko w b w2) (hb : ∃ p, SB SsK b (ssL s p) w ∧ SB SsK b (ssL s2 p) w2) (hs : s2.state = 0 ↔ s.state = 0) (hx : s2.x = s.x ∧ s2.f = s.f) (hr : 0 ≤ s2.heard ∧ s2.heard ≤ s2.clock ∧ 0 ≤ s2.sent ∧ s2.sent ≤ s2.clock ∧ s2.clock < 9223372036854775808) (hw : (-9223372036854775808 ≤ s2.wait ∧ s2.wait < 9223372036854775808) ∧ (-9223372036854775808 ≤ s2.hold ∧ s2.hold < 9223372036854775808)) : SO M w2 b s2 bo o F ∧ Kf w w2 F F := by
  obtain ⟨st, vb, ve, l, h1, h2, h3, h4⟩ := h
  have hbl : ∀ g, g ≠ b → w2.heap[g]? = w.heap[g]? := hk.block
  obtain ⟨p0, hb1, hb2⟩ := hb
  rw [ssL_p (s2 := s2) (sb_same hb1 h1.box)] at hb2
  refine ⟨⟨st, vb, ve, l, ⟨hb2, fun p e => ?_, h1.idl.trans hs.symm, hr, hw, by rw [hx.1, hx.2]; exact h1.ok⟩, h2.blk (fun g hg _ => hbl g (fun e => h3 b (.inl rfl) (e ▸ hg))), h3, h4⟩, ⟨hk.str, fun g _ hf => hbl g (fun e => hf ((h4 g).2 (.inl (.inl e)))), fun g hg => .inl hg⟩⟩
  obtain ⟨k1, k2, k3⟩ := h1.str p e
  rw [hx.1, hx.2]
  exact ⟨k1.blk (hbl _ k2) (fun g e2 _ _ => hbl g (fun e3 => k3 (e3 ▸ e2))), k2, k3⟩
theorem SO.out {M : Nat} {w : World} {b bo : Nat} {s : Se} {o : Ou} {F : Nat → Prop} (h : SO M w b s bo o F) : F b := by
  obtain ⟨st, vb, ve, l, h1, h2, h3, h4⟩ := h
  exact (h4 b).2 (.inl (.inl rfl))
/-! the walks -/
set_option maxRecDepth 100000 in
set_option maxHeartbeats 8000000 in
theorem open_any (M b bo : Nat) (s : Se) (o : Ou) (F : Nat → Prop) (m : Ms) (sl : Sl) (w : World) (h : SO M w b s bo o F) (hM : M ≤ w.heap.size) (hs0 : ¬ s.state = 0) (hm : -9223372036854775808 ≤ m.hold ∧ m.hold < 9223372036854775808) (hlb : o.b.length ≤ 1000000000) (hle : o.ev.length ≤ 100000000) (s' : Se) (o' : Ou) (hP : openP s o m = (s', o')) :
    Calls Try.prog 39 #[.pointer (some ⟨b, 0, none⟩), .pointer (some ⟨bo, 0, none⟩), msV m sl] w fun en w' => (∃ u, en = .returned u) ∧ ∃ F', SO M w' b s' bo o' F' ∧ Kf w w' F F' := by
  have HSO : Hid (SO M w b s bo o F) := h
  have HMM : Hid (M ≤ w.heap.size) := hM
  have HP : Hid (openP s o m = (s', o')) := hP
  have HS0 : Hid (¬ s.state = 0) := hs0
  clear h hM hP hs0
  go_enter Try.func39, Try.ntmps39
  go_wp2_with (refine list_sbox PmK rfl _ rfl (cs := msL m sl) rfl ?_)
  intro w5 hb5 hbl5 hz5
  obtain ⟨be, hbe⟩ : ∃ y, w.heap.size = y := ⟨_, rfl⟩
  have HX5 : Hid (SB PmK be (msL m sl) w5) := by rw [← hbe]; exact hb5.out
  have HSO5 : Hid (SO M w5 b s bo o F) := HSO.out.bel hbl5.out
  have HKF5 : Hid (Kf w w5 F F) := Kf.bel F hbl5.out
  have HBE : Hid (¬ F be) := fun e => by have := HSO.out.lt _ e; omega
  have HBN : Hid (be ≠ b) := fun e => HBE.out (e ▸ HSO.out.out)
  rw [hbe]
  clear hb5 hbl5 hz5 hbe HSO
  obtain ⟨p5, hp5⟩ := HSO5.out.cells
  have m1 : w5.cell? ⟨be, 1, none⟩ = some (.int .i64 m.dom) := HX5.out.cell 1
  have c3 : w5.cell? ⟨b, 3, none⟩ = some (.int .i64 s.peer) := hp5.cell 3
  clear hp5
  go_wp2_with fail
  by_cases h1 : m.dom = s.peer
  · have h1b : (m.dom != s.peer) = false := by simpa using h1
    have H1 : Hid (m.dom = s.peer) := h1
    clear h1
    go_region
    obtain ⟨w6, hw6⟩ : ∃ y, w5.drew = y := ⟨_, rfl⟩
    have HSO6 : Hid (SO M w6 b s bo o F) := by rw [← hw6]; exact HSO5.out.bel (drew_bel w5)
    have HKF6 : Hid (Kf w w6 F F) := by rw [← hw6]; exact HKF5.out.trans (Kf.bel _ (drew_bel w5))
    have HX6 : Hid (SB PmK be (msL m sl) w6) := by rw [← hw6]; exact HX5.out
    have HM6 : Hid (M ≤ w6.heap.size) := Nat.le_trans HMM.out HKF6.out.str.size
    rw [hw6]
    clear HSO5 HKF5 HX5 hw6 m1 c3
    obtain ⟨p6, hp6⟩ := HSO6.out.cells
    have m2 : w6.cell? ⟨be, 2, none⟩ = some (.int .i64 m.id) := HX6.out.cell 2
    have c1 : w6.cell? ⟨b, 1, none⟩ = some (.int .i64 s.id) := hp6.cell 1
    clear hp6
    go_wp2_with fail
    by_cases h2 : m.id = s.id
    · have h2b : (m.id == s.id) = true := by simpa using h2
      have H2 : Hid (m.id = s.id) := h2
      clear h2
      go_region
      obtain ⟨w7, hw7⟩ : ∃ y, w6.drew = y := ⟨_, rfl⟩
      have HSO7 : Hid (SO M w7 b s bo o F) := by rw [← hw7]; exact HSO6.out.bel (drew_bel w6)
      have HKF7 : Hid (Kf w w7 F F) := by rw [← hw7]; exact HKF6.out.trans (Kf.bel _ (drew_bel w6))
      have HX7 : Hid (SB PmK be (msL m sl) w7) := by rw [← hw7]; exact HX6.out
      have HM7 : Hid (M ≤ w7.heap.size) := Nat.le_trans HMM.out HKF7.out.str.size
      rw [hw7]
      clear HSO6 HKF6 HX6 hw7 m2 c1
      have HEN := end_any M b bo s o F 3 w7 HSO7.out HM7.out hlb hle s' o' (by rw [← HP.out]; unfold openP; rw [if_neg (fun c => c H1.out), if_pos H2.out])
      go_wp2_with fail
      refine HEN.mono ?_
      rintro en w8 ⟨⟨u, rfl⟩, F8, hs8, hk8⟩
      have HR : Hid (∃ F', SO M w8 b s' bo o' F' ∧ Kf w w8 F F') := ⟨F8, hs8, HKF7.out.trans hk8⟩
      clear HEN hs8 hk8
      go_wp2_with fail
      refine bodyPost_ret (results_none rfl _ _ _) rfl ?_
      exact ⟨⟨_, rfl⟩, HR.out⟩
    · have h2b : (m.id == s.id) = false := by simpa using h2
      have H2 : Hid (¬ m.id = s.id) := h2
      clear h2
      go_region
      obtain ⟨w7, hw7⟩ : ∃ y, w6.drew = y := ⟨_, rfl⟩
      have HSO7 : Hid (SO M w7 b s bo o F) := by rw [← hw7]; exact HSO6.out.bel (drew_bel w6)
      have HKF7 : Hid (Kf w w7 F F) := by rw [← hw7]; exact HKF6.out.trans (Kf.bel _ (drew_bel w6))
      have HX7 : Hid (SB PmK be (msL m sl) w7) := by rw [← hw7]; exact HX6.out
      have HM7 : Hid (M ≤ w7.heap.size) := Nat.le_trans HMM.out HKF7.out.str.size
      rw [hw7]
      clear HSO6 HKF6 HX6 hw7 m2 c1
      go_wp2_with fail
      obtain ⟨p7, hp7⟩ := HSO7.out.cells
      have HB7 : Hid (SB SsK b (ssL s p7) w7) := hp7
      clear hp7
      refine wp_region_held_drew (S := fun W => SB PmK be (msL m sl) W) (by kernel_rfl) HX7.out (fun hHeld => ?_)
      obtain ⟨X0, hX0⟩ : ∃ x, w7.drew = x := ⟨_, rfl⟩
      have HK0 : Hid (Ko w7 b X0) := by rw [← hX0]; exact ⟨(drew_bel w7).mono (Nat.zero_le _), rfl, fun _ _ => rfl⟩
      have HB0 : Hid (SB SsK b (ssL s p7) X0) := by rw [← hX0]; exact HB7.out
      rw [hX0] at hHeld ⊢
      clear hX0
      refine wpAnyH_take (i := 0) (v := ?_) rfl (by kernel_rfl) (by kernel_rfl) (by kernel_rfl) (fun _ _ _ h => h) (Or.inl ⟨by rfl, ?_⟩) (by assumption) ?_
      case refine_2 => intro W hSw; go_simp; try rfl
      try simp only [Act.put, List.getElem_toArray, List.getElem_cons_zero, List.getElem_cons_succ, List.setIfInBounds_toArray, List.set_cons_zero, List.set_cons_succ]
      refine wpAnyH_take (i := 1) (v := ?_) rfl (by kernel_rfl) (by kernel_rfl) (by kernel_rfl) (fun _ _ _ h => h) (Or.inl ⟨by rfl, ?_⟩) (by assumption) ?_
      case refine_2 => intro W hSw; go_simp; try rfl
      try simp only [Act.put, List.getElem_toArray, List.getElem_cons_zero, List.getElem_cons_succ, List.setIfInBounds_toArray, List.set_cons_zero, List.set_cons_succ]
      refine wpAnyH_take (i := 2) (v := ?_) rfl (by kernel_rfl) (by kernel_rfl) (by kernel_rfl) (fun _ _ _ h => h) (Or.inl ⟨by rfl, ?_⟩) (by assumption) ?_
      case refine_2 => intro W hSw; go_simp; try rfl
      try simp only [Act.put, List.getElem_toArray, List.getElem_cons_zero, List.getElem_cons_succ, List.setIfInBounds_toArray, List.set_cons_zero, List.set_cons_succ]
      refine wpAnyH_take (i := 3) (v := .int .i64 m.id) rfl (by kernel_rfl) (by kernel_rfl) (by kernel_rfl) (fun _ _ _ h => h) (Or.inl ⟨by rfl, ?_⟩) (by assumption) ?_
      case refine_1 => intro W hSw; have cc : W.cell? ⟨be, 2, none⟩ = some (.int .i64 m.id) := hSw.cell 2; go_simp; try rfl
      try simp only [Act.put, List.getElem_toArray, List.getElem_cons_zero, List.getElem_cons_succ, List.setIfInBounds_toArray, List.set_cons_zero, List.set_cons_succ]
      refine wpAnyH_take (i := 4) (v := ?_) rfl (by kernel_rfl) (by kernel_rfl) (by kernel_rfl) (fun _ _ _ h => h) (Or.inl ⟨by rfl, ?_⟩) (by assumption) ?_
      case refine_2 => intro W hSw; go_simp; try rfl
      try simp only [Act.put, List.getElem_toArray, List.getElem_cons_zero, List.getElem_cons_succ, List.setIfInBounds_toArray, List.set_cons_zero, List.set_cons_succ]
      refine wpAnyH_take (i := 5) (v := ?_) rfl (by kernel_rfl) (by kernel_rfl) (by kernel_rfl) (fun _ _ _ h => h) (Or.inl ⟨by rfl, ?_⟩) (by assumption) ?_
      case refine_2 => intro W hSw; go_simp; try rfl
      try simp only [Act.put, List.getElem_toArray, List.getElem_cons_zero, List.getElem_cons_succ, List.setIfInBounds_toArray, List.set_cons_zero, List.set_cons_succ]
      refine wpAnyH_ready (rs := [6]) (by kernel_rfl) (by simp) ?_
      refine AllReadyH.cons rfl (fun K hK => ?_) AllReadyH.nil
      have f5 : X0.frozen? ⟨b, 5, none⟩ = false := HB0.out.fro 5
      have c5 : X0.cell? ⟨b, 5, none⟩ = some (.int .i64 s.state) := HB0.out.cell 5
      have HB1 : Hid (SB SsK b ((ssL s p7).set 5 (.int .i64 2)) (X0.setCell ⟨b, 5, none⟩ (.int .i64 2))) := HB0.out.set 5 _ rfl
      have HK1 : Hid (Ko w7 b (X0.setCell ⟨b, 5, none⟩ (.int .i64 2))) := HK0.out.trans (Ko.set _ _ _ _)
      go_simp
      refine hK.out _ _ (SB.blk hHeld ((Ko.set X0 b 5 (.int .i64 2)).block be HBN.out)) (fun hHeld => ?_)
      clear hK K f5 c5 HB0 HK0
      obtain ⟨X1, hX1⟩ : ∃ X, X0.setCell ⟨b, 5, none⟩ (.int .i64 2) = X := ⟨_, rfl⟩
      rw [hX1] at HB1 HK1 hHeld ⊢
      clear hX1
      try simp only [Act.put, List.getElem_toArray, List.getElem_cons_zero, List.getElem_cons_succ, List.setIfInBounds_toArray, List.set_cons_zero, List.set_cons_succ]
      refine wpAnyH_take (i := 7) (v := ?_) rfl (by kernel_rfl) (by kernel_rfl) (by kernel_rfl) (fun _ _ _ h => h) (Or.inl ⟨by rfl, ?_⟩) (by assumption) ?_
      case refine_2 => intro W hSw; go_simp; try rfl
      try simp only [Act.put, List.getElem_toArray, List.getElem_cons_zero, List.getElem_cons_succ, List.setIfInBounds_toArray, List.set_cons_zero, List.set_cons_succ]
      refine wpAnyH_take (i := 8) (v := ?_) rfl (by kernel_rfl) (by kernel_rfl) (by kernel_rfl) (fun _ _ _ h => h) (Or.inl ⟨by rfl, ?_⟩) (by assumption) ?_
      case refine_2 => intro W hSw; go_simp; try rfl
      try simp only [Act.put, List.getElem_toArray, List.getElem_cons_zero, List.getElem_cons_succ, List.setIfInBounds_toArray, List.set_cons_zero, List.set_cons_succ]
      refine wpAnyH_take (i := 9) (v := ?_) rfl (by kernel_rfl) (by kernel_rfl) (by kernel_rfl) (fun _ _ _ h => h) (Or.inl ⟨by rfl, ?_⟩) (by assumption) ?_
      case refine_2 => intro W hSw; go_simp; try rfl
      try simp only [Act.put, List.getElem_toArray, List.getElem_cons_zero, List.getElem_cons_succ, List.setIfInBounds_toArray, List.set_cons_zero, List.set_cons_succ]
      refine wpAnyH_ready (rs := [10]) (by kernel_rfl) (by simp) ?_
      refine AllReadyH.cons rfl (fun K hK => ?_) AllReadyH.nil
      have f5 : X1.frozen? ⟨b, 10, none⟩ = false := HB1.out.fro 10
      have c5 : X1.cell? ⟨b, 10, none⟩ = some (.int .i64 s.other) := HB1.out.cell 10
      have HB2 : Hid (SB SsK b (((ssL s p7).set 5 (.int .i64 2)).set 10 (.int .i64 m.id)) (X1.setCell ⟨b, 10, none⟩ (.int .i64 m.id))) := HB1.out.set 10 _ rfl
      have HK2 : Hid (Ko w7 b (X1.setCell ⟨b, 10, none⟩ (.int .i64 m.id))) := HK1.out.trans (Ko.set _ _ _ _)
      go_simp
      refine hK.out _ _ (SB.blk hHeld ((Ko.set X1 b 10 (.int .i64 m.id)).block be HBN.out)) (fun hHeld => ?_)
      clear hK K f5 c5 HB1 HK1
      obtain ⟨w8, hw8⟩ : ∃ X, X1.setCell ⟨b, 10, none⟩ (.int .i64 m.id) = X := ⟨_, rfl⟩
      rw [hw8] at HB2 HK2 hHeld ⊢
      clear hw8
      have HX8 : Hid (SB PmK be (msL m sl) w8) := hHeld
      try simp only [Act.put, List.getElem_toArray, List.getElem_cons_zero, List.getElem_cons_succ, List.setIfInBounds_toArray, List.set_cons_zero, List.set_cons_succ]
      refine wpAnyH_done (by kernel_rfl) ?_ _
      clear hHeld
      go_wp2_with fail
      obtain ⟨mn, hmn⟩ : ∃ y, min s.hold m.hold = y := ⟨_, rfl⟩
      have HMN : Hid (min s.hold m.hold = mn) := hmn
      clear hmn
      refine wp_region_held_drew (S := fun W => SB PmK be (msL m sl) W ∧ W.cell? ⟨b, 2, none⟩ = some (.int .i64 s.hold)) (by kernel_rfl) ⟨HX8.out, HB2.out.cell 2⟩ (fun hHeld => ?_)
      obtain ⟨X3, hX3⟩ : ∃ x, w8.drew = x := ⟨_, rfl⟩
      have HK3 : Hid (Ko w7 b X3) := by rw [← hX3]; exact HK2.out.trans ⟨(drew_bel w8).mono (Nat.zero_le _), rfl, fun _ _ => rfl⟩
      have HB3 : Hid (SB SsK b (((ssL s p7).set 5 (.int .i64 2)).set 10 (.int .i64 m.id)) X3) := by rw [← hX3]; exact HB2.out
      rw [hX3] at hHeld ⊢
      clear hX3 HB2 HK2
      refine wpAnyH_take (i := 0) (v := ?_) rfl (by kernel_rfl) (by kernel_rfl) (by kernel_rfl) (fun _ _ _ h => h) (Or.inl ⟨by rfl, ?_⟩) (by assumption) ?_
      case refine_2 => intro W hSw; go_simp; try rfl
      try simp only [Act.put, List.getElem_toArray, List.getElem_cons_zero, List.getElem_cons_succ, List.setIfInBounds_toArray, List.set_cons_zero, List.set_cons_succ]
      refine wpAnyH_take (i := 1) (v := ?_) rfl (by kernel_rfl) (by kernel_rfl) (by kernel_rfl) (fun _ _ _ h => h) (Or.inl ⟨by rfl, ?_⟩) (by assumption) ?_
      case refine_2 => intro W hSw; go_simp; try rfl
      try simp only [Act.put, List.getElem_toArray, List.getElem_cons_zero, List.getElem_cons_succ, List.setIfInBounds_toArray, List.set_cons_zero, List.set_cons_succ]
      refine wpAnyH_take (i := 2) (v := ?_) rfl (by kernel_rfl) (by kernel_rfl) (by kernel_rfl) (fun _ _ _ h => h) (Or.inl ⟨by rfl, ?_⟩) (by assumption) ?_
      case refine_2 => intro W hSw; go_simp; try rfl
      try simp only [Act.put, List.getElem_toArray, List.getElem_cons_zero, List.getElem_cons_succ, List.setIfInBounds_toArray, List.set_cons_zero, List.set_cons_succ]
      refine wpAnyH_take (i := 3) (v := ?_) rfl (by kernel_rfl) (by kernel_rfl) (by kernel_rfl) (fun _ _ _ h => h) (Or.inl ⟨by rfl, ?_⟩) (by assumption) ?_
      case refine_2 => intro W hSw; go_simp; try rfl
      try simp only [Act.put, List.getElem_toArray, List.getElem_cons_zero, List.getElem_cons_succ, List.setIfInBounds_toArray, List.set_cons_zero, List.set_cons_succ]
      refine wpAnyH_take (i := 4) (v := ?_) rfl (by kernel_rfl) (by kernel_rfl) (by kernel_rfl) (fun _ _ _ h => h) (Or.inl ⟨by rfl, ?_⟩) (by assumption) ?_
      case refine_2 => intro W hSw; go_simp; try rfl
      try simp only [Act.put, List.getElem_toArray, List.getElem_cons_zero, List.getElem_cons_succ, List.setIfInBounds_toArray, List.set_cons_zero, List.set_cons_succ]
      refine wpAnyH_take (i := 5) (v := .int .i64 s.hold) rfl (by kernel_rfl) (by kernel_rfl) (by kernel_rfl) (fun _ _ _ h => h) (Or.inl ⟨by rfl, ?_⟩) (by assumption) ?_
      case refine_1 => intro W hSw; have cc := hSw.2; go_simp; try rfl
      try simp only [Act.put, List.getElem_toArray, List.getElem_cons_zero, List.getElem_cons_succ, List.setIfInBounds_toArray, List.set_cons_zero, List.set_cons_succ]
      refine wpAnyH_take (i := 6) (v := ?_) rfl (by kernel_rfl) (by kernel_rfl) (by kernel_rfl) (fun _ _ _ h => h) (Or.inl ⟨by rfl, ?_⟩) (by assumption) ?_
      case refine_2 => intro W hSw; go_simp; try rfl
      try simp only [Act.put, List.getElem_toArray, List.getElem_cons_zero, List.getElem_cons_succ, List.setIfInBounds_toArray, List.set_cons_zero, List.set_cons_succ]
      refine wpAnyH_take (i := 7) (v := .int .i64 m.hold) rfl (by kernel_rfl) (by kernel_rfl) (by kernel_rfl) (fun _ _ _ h => h) (Or.inl ⟨by rfl, ?_⟩) (by assumption) ?_
      case refine_1 => intro W hSw; have cc : W.cell? ⟨be, 3, none⟩ = some (.int .i64 m.hold) := hSw.1.cell 3; go_simp; try rfl
      try simp only [Act.put, List.getElem_toArray, List.getElem_cons_zero, List.getElem_cons_succ, List.setIfInBounds_toArray, List.set_cons_zero, List.set_cons_succ]
      refine wpAnyH_take (i := 8) (v := .int .i64 mn) rfl (by kernel_rfl) (by kernel_rfl) (by kernel_rfl) (fun _ _ _ h => h) (Or.inl ⟨by rfl, fun W hSw => by rw [min_run (.tmp 44) (.tmp 46) rfl (a := s.hold) (b := m.hold) rfl rfl, HMN.out]⟩) (by assumption) ?_
      try simp only [Act.put, List.getElem_toArray, List.getElem_cons_zero, List.getElem_cons_succ, List.setIfInBounds_toArray, List.set_cons_zero, List.set_cons_succ]
      refine wpAnyH_take (i := 9) (v := ?_) rfl (by kernel_rfl) (by kernel_rfl) (by kernel_rfl) (fun _ _ _ h => h) (Or.inl ⟨by rfl, ?_⟩) (by assumption) ?_
      case refine_2 => intro W hSw; go_simp; try rfl
      try simp only [Act.put, List.getElem_toArray, List.getElem_cons_zero, List.getElem_cons_succ, List.setIfInBounds_toArray, List.set_cons_zero, List.set_cons_succ]
      refine wpAnyH_take (i := 10) (v := ?_) rfl (by kernel_rfl) (by kernel_rfl) (by kernel_rfl) (fun _ _ _ h => h) (Or.inl ⟨by rfl, ?_⟩) (by assumption) ?_
      case refine_2 => intro W hSw; go_simp; try rfl
      try simp only [Act.put, List.getElem_toArray, List.getElem_cons_zero, List.getElem_cons_succ, List.setIfInBounds_toArray, List.set_cons_zero, List.set_cons_succ]
      refine wpAnyH_take (i := 11) (v := ?_) rfl (by kernel_rfl) (by kernel_rfl) (by kernel_rfl) (fun _ _ _ h => h) (Or.inl ⟨by rfl, ?_⟩) (by assumption) ?_
      case refine_2 => intro W hSw; go_simp; try rfl
      try simp only [Act.put, List.getElem_toArray, List.getElem_cons_zero, List.getElem_cons_succ, List.setIfInBounds_toArray, List.set_cons_zero, List.set_cons_succ]
      refine wpAnyH_ready (rs := [12]) (by kernel_rfl) (by simp) ?_
      refine AllReadyH.cons rfl (fun K hK => ?_) AllReadyH.nil
      have f5 : X3.frozen? ⟨b, 9, none⟩ = false := HB3.out.fro 9
      have c5 : X3.cell? ⟨b, 9, none⟩ = some (.int .i64 s.wait) := HB3.out.cell 9
      have HB9 : Hid (SB SsK b ((((ssL s p7).set 5 (.int .i64 2)).set 10 (.int .i64 m.id)).set 9 (.int .i64 mn)) (X3.setCell ⟨b, 9, none⟩ (.int .i64 mn))) := HB3.out.set 9 _ rfl
      have HK9 : Hid (Ko w7 b (X3.setCell ⟨b, 9, none⟩ (.int .i64 mn))) := HK3.out.trans (Ko.set _ _ _ _)
      go_simp
      refine hK.out _ _ ⟨SB.blk hHeld.1 ((Ko.set X3 b 9 (.int .i64 mn)).block be HBN.out), (HB9.out.cell 2)⟩ (fun hHeld => ?_)
      clear hK K f5 c5 HB3 HK3
      obtain ⟨w9, hw9⟩ : ∃ X, X3.setCell ⟨b, 9, none⟩ (.int .i64 mn) = X := ⟨_, rfl⟩
      rw [hw9] at HB9 HK9 hHeld ⊢
      clear hw9
      try simp only [Act.put, List.getElem_toArray, List.getElem_cons_zero, List.getElem_cons_succ, List.setIfInBounds_toArray, List.set_cons_zero, List.set_cons_succ]
      refine wpAnyH_done (by kernel_rfl) ?_ _
      clear hHeld
      have HCF : Hid (SO M w9 b (confP s m) bo o F ∧ Kf w7 w9 F F) := by
        refine SO.turn HSO7.out HK9.out ⟨p7, HB7.out, ?_⟩ ⟨(fun e => absurd e (by show ¬ (2 : Int) = 0; decide)), (fun e => absurd e HS0.out)⟩ ⟨rfl, rfl⟩ HSO7.out.rg ⟨?_, HSO7.out.wt.2⟩
        · have h5 := HB9.out
          rw [← HMN.out] at h5
          exact h5
        · have h5 := HSO7.out.wt.2
          show _ ≤ min s.hold m.hold ∧ min s.hold m.hold < _
          omega
      have HM9 : Hid (M ≤ w9.heap.size) := Nat.le_trans HM7.out HK9.out.str.size
      have HEN := send_any M b bo (confP s m) o F alv sZ w9 HCF.out.1 HM9.out (mok_zero w9 _ rfl rfl rfl) ⟨Nat.zero_le _, Nat.zero_le _⟩ hlb _ rfl s' o' (by rw [← HP.out]; unfold openP; rw [if_neg (fun c => c H1.out), if_neg H2.out])
      go_wp2_with fail
      refine HEN.mono ?_
      rintro en wZ ⟨rfl, F8, hs8, hk8⟩
      have HR : Hid (∃ F', SO M wZ b s' bo o' F' ∧ Kf w wZ F F') := ⟨F8, hs8, (HKF7.out.trans HCF.out.2).trans hk8⟩
      clear HEN hs8 hk8
      go_wp2_with fail
      go_end0
      exact ⟨⟨_, rfl⟩, HR.out⟩
  · have h1b : (m.dom != s.peer) = true := by simpa using h1
    have H1 : Hid (¬ m.dom = s.peer) := h1
    clear h1
    go_region
    obtain ⟨w6, hw6⟩ : ∃ y, w5.drew = y := ⟨_, rfl⟩
    have HSO6 : Hid (SO M w6 b s bo o F) := by rw [← hw6]; exact HSO5.out.bel (drew_bel w5)
    have HKF6 : Hid (Kf w w6 F F) := by rw [← hw6]; exact HKF5.out.trans (Kf.bel _ (drew_bel w5))
    have HX6 : Hid (SB PmK be (msL m sl) w6) := by rw [← hw6]; exact HX5.out
    have HM6 : Hid (M ≤ w6.heap.size) := Nat.le_trans HMM.out HKF6.out.str.size
    rw [hw6]
    clear HSO5 HKF5 HX5 hw6 m1 c3
    have HEN := end_any M b bo s o F 2 w6 HSO6.out HM6.out hlb hle s' o' (by rw [← HP.out]; unfold openP; rw [if_pos H1.out])
    go_wp2_with fail
    refine HEN.mono ?_
    rintro en w8 ⟨⟨u, rfl⟩, F8, hs8, hk8⟩
    have HR : Hid (∃ F', SO M w8 b s' bo o' F' ∧ Kf w w8 F F') := ⟨F8, hs8, HKF6.out.trans hk8⟩
    clear HEN hs8 hk8
    go_wp2_with fail
    refine bodyPost_ret (results_none rfl _ _ _) rfl ?_
    exact ⟨⟨_, rfl⟩, HR.out⟩
end Go.Proofs.Ytanboekdfdafmaa.Pv
