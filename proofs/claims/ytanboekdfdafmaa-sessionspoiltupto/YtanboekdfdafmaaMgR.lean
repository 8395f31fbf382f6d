/- Two ends that talk: what is told is what was given (plain). Two ends that talk: an end is given something to tell; what was given is kept. Two ends that talk: one byte is changed (plain). -/
import Derived.Test.YtanboekdfdafmaaMgP
import Derived.Test.YtanboekdfdafmaaMgI
namespace Go.Proofs.Ytanboekdfdafmaa.Pv
open Go.ChangeShapes Go.WideShapes Go.ChangeAt Go.RowKit Go.Joins Go.Deep Go.Proofs.Ytanboekdfdafmaa.PM Go.Proofs.Ytanboekdfdafmaa.Ask Go.Proofs.Ytanboekdfdafmaa.Ge
set_option linter.unusedVariables false
set_option linter.unusedSimpArgs false

/-- an end that is up, and what waits in it -/
def upX (d i h p w o : Int) (x : List Nat) : Se := ⟨d, i, h, p, 0, 3, 0, 0, w, o, x, 0⟩
theorem upX_quiet {d i h p w o : Int} {x : List Nat} (hw : w = 0 ∨ 3 ≤ w) : moveP (upX d i h p w o x) 0 = (upX d i h p w o x, ⟨[], []⟩) := move_quiet (Int.le_refl _) (by
  rcases hw with e | e
  · exact .inr (.inl e)
  · exact .inr (.inr ⟨by show (0 : Int) - 0 < w; omega, .inr (by show (0 : Int) - 0 < w.tdiv 3; have := tdiv_one e; omega)⟩))
def tev (m : Ms) : Ev := ⟨3, 0, 0, 0, m⟩
/-- all are told -/
theorem hears_told : ∀ (ms : List Ms) (s : Se) (o : Ou), s.state = 3 → (∀ m ∈ ms, m.kind = 2) → hearsP s o ms = (s, ⟨o.b, o.ev ++ ms.map tev⟩)
  | [], s, o, _, _ => by simp [hearsP]
  | m :: l, s, o, h, hk => by
    have k := hk m (by simp)
    have e : hearP s o m = (s, tellP o (tev m)) := by
      unfold hearP
      rw [if_neg (by rw [k]; decide), if_neg (fun c => absurd c.2 (by rw [k]; decide)), if_neg (fun c => absurd c.2 (by rw [k]; decide)), if_pos ⟨h, k⟩]
      rfl
    rw [hears_cons, if_neg (by rw [h]; decide), e]
    show hearsP s (tellP o (tev m)) l = _
    rw [hears_told l s _ h (fun x hx => hk x (by simp [hx]))]
    simp [tellP]
theorem tolds_map : ∀ ms : List Ms, tolds (ms.map tev) = ms
  | [] => rfl
  | m :: l => by
    show (if (3 : Int) = 3 then [m] else []) ++ tolds (l.map tev) = _
    rw [if_pos rfl, tolds_map l]
    rfl
theorem ups_map : ∀ ms : List Ms, ups (ms.map tev) = 0
  | [] => rfl
  | m :: l => by
    show (if (3 : Int) = 1 then 1 else 0) + ups (l.map tev) = 0
    rw [if_neg (by decide), ups_map l]
    rfl
theorem recv_up {d i h p w o : Int} {x b x' : List Nat} {ms : List Ms} (hw : w = 0 ∨ 3 ≤ w) (hx : SOk x) (ht : parse (x ++ b) = (ms, x', 0)) (hk : ∀ m ∈ ms, m.kind = 2) : recvP (upX d i h p w o x) b 0 = (upX d i h p w o x', ⟨[], ms.map tev⟩) := by
  by_cases hb : b = []
  · subst hb
    rw [List.append_nil, parse_wait hx] at ht
    obtain ⟨rfl, h2⟩ := Prod.mk.inj ht
    obtain ⟨rfl, -⟩ := Prod.mk.inj h2
    exact recv_none (upX_quiet hw)
  · unfold recvP
    rw [upX_quiet hw]
    unfold recvQ
    have hT : TK x 0 b = (ms, x', 0) := by unfold TK; rw [if_pos rfl, ht]
    rw [if_neg (by rintro (c | c); exact absurd c (by show ¬ (3 : Int) = 0; decide); exact hb c)]
    have e1 : TK (upX d i h p w o x).x (upX d i h p w o x).f b = (ms, x', 0) := hT
    have e2 : tookP (upX d i h p w o x) b = upX d i h p w o x' := by unfold tookP; rw [e1]; rfl
    rw [e1, e2]
    dsimp only
    rw [hears_told ms _ _ rfl hk]
    unfold faultP
    rw [if_neg (fun c => c.1 rfl)]
    rfl
/-- what was given, what is under way, what waits, what was told -/
structure Dir (g : List Ms) (y x : List Nat) (o : List Ms) : Prop where
  e : ∃ e, SentB g = e ++ y ∧ parse e = (o, x, 0)
  g : ∀ m ∈ g, encE m = 0 ∧ InM m ∧ m.kind = 2
theorem Dir.nil : Dir [] [] [] [] := ⟨⟨[], rfl, parse_wait sok_nil⟩, fun m h => by cases h⟩
theorem Dir.sok {g : List Ms} {y x : List Nat} {o : List Ms} (h : Dir g y x o) : SOk x := by
  obtain ⟨e, -, hp⟩ := h.e
  have k := (parse_state e).1
  rw [hp] at k
  exact k rfl
theorem Dir.more {g : List Ms} {y x : List Nat} {o : List Ms} {m : Ms} (h : Dir g y x o) (hm : encE m = 0 ∧ InM m ∧ m.kind = 2) : Dir (g ++ [m]) (y ++ encB m) x o := by
  obtain ⟨e, h1, h2⟩ := h.e
  refine ⟨⟨e, by rw [sent_snoc, h1, List.append_assoc], h2⟩, fun k hk => ?_⟩
  rcases List.mem_append.1 hk with c | c
  · exact h.g k c
  · rw [List.mem_singleton] at c; subst c; exact hm
theorem Dir.whole {g : List Ms} {y x : List Nat} {o : List Ms} (h : Dir g y x o) : parse (SentB g) = (g, [], 0) := by
  have h5 := parse_many g [] (fun m hm => ⟨(h.g m hm).1, (h.g m hm).2.1⟩)
  rw [List.append_nil, parse_wait sok_nil, List.append_nil] at h5
  exact h5
theorem Dir.come {g : List Ms} {y x : List Nat} {o : List Ms} (h : Dir g y x o) (k : Nat) : ∃ ms x', parse (x ++ y.take k) = (ms, x', 0) ∧ (∀ m ∈ ms, m.kind = 2) ∧ Dir g (y.drop k) x' (o ++ ms) := by
  obtain ⟨e, h1, h2⟩ := h.e
  have hs : SentB g = (e ++ y.take k) ++ y.drop k := by rw [List.append_assoc, List.take_append_drop]; exact h1
  have hw := h.whole
  rw [hs, parse_app _ (e ++ y.take k) (y.drop k) (Nat.lt_succ_self _)] at hw
  have ha := parse_app _ e (y.take k) (Nat.lt_succ_self _)
  rw [h2, if_pos rfl] at ha
  dsimp only at ha
  obtain ⟨ms, x', f, hp⟩ : ∃ a b c, parse (x ++ y.take k) = (a, b, c) := ⟨_, _, _, rfl⟩
  rw [hp] at ha
  dsimp only at ha
  rw [ha] at hw
  dsimp only at hw
  have hf : f = 0 := by
    by_cases c : f = 0
    · exact c
    · rw [if_neg c] at hw
      exact (Prod.mk.inj (Prod.mk.inj hw).2).2
  subst hf
  rw [if_pos rfl] at hw
  refine ⟨ms, x', hp, fun m hm => (h.g m ?_).2.2, ⟨⟨e ++ y.take k, hs, ha⟩, h.g⟩⟩
  rw [← (Prod.mk.inj hw).1]
  exact List.mem_append_left _ (List.mem_append_right _ hm)
theorem Dir.done {g : List Ms} {x : List Nat} {o : List Ms} (h : Dir g [] x o) : o = g ∧ x = [] := by
  obtain ⟨e, h1, h2⟩ := h.e
  have hw := h.whole
  rw [h1, List.append_nil, h2] at hw
  exact ⟨(Prod.mk.inj hw).1, (Prod.mk.inj (Prod.mk.inj hw).2).1⟩
theorem Dir.len {g : List Ms} {y x : List Nat} {o : List Ms} (h : Dir g y x o) : y.length ≤ 1024 * g.length ∧ o.length ≤ g.length := by
  obtain ⟨e, h1, h2⟩ := h.e
  constructor
  · have := sent_len g (fun m hm => ⟨(h.g m hm).1, (h.g m hm).2.1⟩)
    rw [h1, List.length_append] at this
    omega
  · have hw := h.whole
    rw [h1, parse_app _ e y (Nat.lt_succ_self _), h2, if_pos rfl] at hw
    have := congrArg List.length (Prod.mk.inj hw).1
    rw [List.length_append] at this
    dsimp only at this
    omega
/-- both ends up, at the beginning of time -/
def vX (d0 i0 h0 d1 i1 h1 : Int) (x0 x1 y0 y1 : List Nat) (o0 o1 g0 g1 : List Ms) : Vs := ⟨upX d0 i0 h0 d1 (min h0 h1) i1 x0, upX d1 i1 h1 d0 (min h1 h0) i0 x1, y0, y1, 1, 1, o0, o1, g0, g1, 0⟩
theorem v4_X (d0 i0 h0 d1 i1 h1 : Int) : v4 d0 i0 h0 d1 i1 h1 0 0 0 0 0 = vX d0 i0 h0 d1 i1 h1 [] [] [] [] [] [] [] [] := rfl
def com0 (v : Vs) (k : Nat) : Vs := out0 { v with s0 := (recvP v.s0 (v.y0.take k) v.k).1, y0 := v.y0.drop k } (recvP v.s0 (v.y0.take k) v.k).2
def com1 (v : Vs) (k : Nat) : Vs := out1 { v with s1 := (recvP v.s1 (v.y1.take k) v.k).1, y1 := v.y1.drop k } (recvP v.s1 (v.y1.take k) v.k).2
theorem vw_com0 (t : Tl) (k : Nat) : vw (comesP t 0 k) = com0 (vw t) k := by
  unfold comesP
  dsimp only
  rw [vw_out0]
  rfl
theorem vw_com1 (t : Tl) (k : Nat) : vw (comesP t 1 k) = com1 (vw t) k := by
  unfold comesP
  dsimp only
  rw [vw_out1]
  rfl
theorem all_com0 (v : Vs) : all0 v = com0 v v.y0.length := by unfold com0; rw [List.take_length, List.drop_length]; rfl
theorem all_com1 (v : Vs) : all1 v = com1 v v.y1.length := by unfold com1; rw [List.take_length, List.drop_length]; rfl
theorem com0_X {d0 i0 h0 d1 i1 h1 : Int} (hw : min h0 h1 = 0 ∨ 3 ≤ min h0 h1) {x0 x1 y0 y1 : List Nat} {o0 o1 g0 g1 : List Ms} (D : Dir g1 y0 x0 o0) (k : Nat) : ∃ x o, com0 (vX d0 i0 h0 d1 i1 h1 x0 x1 y0 y1 o0 o1 g0 g1) k = vX d0 i0 h0 d1 i1 h1 x x1 (y0.drop k) y1 o o1 g0 g1 ∧ Dir g1 (y0.drop k) x o := by
  obtain ⟨ms, x', h1, h2, h3⟩ := D.come k
  refine ⟨x', o0 ++ ms, ?_, h3⟩
  unfold com0 vX
  dsimp only
  rw [recv_up hw D.sok h1 h2]
  unfold out0
  dsimp only
  rw [tolds_map, ups_map, List.append_nil]
  rfl
theorem com1_X {d0 i0 h0 d1 i1 h1 : Int} (hw : min h1 h0 = 0 ∨ 3 ≤ min h1 h0) {x0 x1 y0 y1 : List Nat} {o0 o1 g0 g1 : List Ms} (D : Dir g0 y1 x1 o1) (k : Nat) : ∃ x o, com1 (vX d0 i0 h0 d1 i1 h1 x0 x1 y0 y1 o0 o1 g0 g1) k = vX d0 i0 h0 d1 i1 h1 x0 x y0 (y1.drop k) o0 o g0 g1 ∧ Dir g0 (y1.drop k) x o := by
  obtain ⟨ms, x', h1, h2, h3⟩ := D.come k
  refine ⟨x', o1 ++ ms, ?_, h3⟩
  unfold com1 vX
  dsimp only
  rw [recv_up hw D.sok h1 h2]
  unfold out1
  dsimp only
  rw [tolds_map, ups_map, List.append_nil]
  rfl
theorem vX_bv {d0 i0 h0 d1 i1 h1 : Int} {x0 x1 y0 y1 : List Nat} {o0 o1 g0 g1 : List Ms} (D0 : Dir g1 y0 x0 o0) (D1 : Dir g0 y1 x1 o1) (hl : g0.length ≤ 60 ∧ g1.length ≤ 60) : Bv (vX d0 i0 h0 d1 i1 h1 x0 x1 y0 y1 o0 o1 g0 g1) := by
  have l0 := D0.len
  have l1 := D1.len
  exact ⟨by show _ ≤ (0 : Int) ∧ (0 : Int) < _; decide, by show y0.length ≤ _; omega, by show y1.length ≤ _; omega, by show o0.length ≤ _; omega, by show o1.length ≤ _; omega, by show (0 : Int) ≤ 1 ∧ (1 : Int) ≤ _; decide, by show (0 : Int) ≤ 1 ∧ (1 : Int) ≤ _; decide⟩
theorem Hs.w {d0 i0 h0 d1 i1 h1 : Int} (h : Hs d0 i0 h0 d1 i1 h1) : (min h0 h1 = 0 ∨ 3 ≤ min h0 h1) ∧ (min h1 h0 = 0 ∨ 3 ≤ min h1 h0) := by have := h.ph0; have := h.ph1; omega
theorem all0_X {d0 i0 h0 d1 i1 h1 : Int} (h : Hs d0 i0 h0 d1 i1 h1) {x0 x1 y0 y1 : List Nat} {o0 o1 g0 g1 : List Ms} (D0 : Dir g1 y0 x0 o0) : all0 (vX d0 i0 h0 d1 i1 h1 x0 x1 y0 y1 o0 o1 g0 g1) = vX d0 i0 h0 d1 i1 h1 [] x1 [] y1 g1 o1 g0 g1 ∧ Dir g1 [] [] g1 := by
  obtain ⟨x, o, e1, e2⟩ := com0_X (i0 := i0) (d0 := d0) (d1 := d1) (i1 := i1) h.w.1 (x1 := x1) (y1 := y1) (o1 := o1) (g0 := g0) D0 y0.length
  rw [List.drop_length] at e1 e2
  obtain ⟨rfl, rfl⟩ := e2.done
  exact ⟨(all_com0 _).trans e1, e2⟩
theorem all1_X {d0 i0 h0 d1 i1 h1 : Int} (h : Hs d0 i0 h0 d1 i1 h1) {x0 x1 y0 y1 : List Nat} {o0 o1 g0 g1 : List Ms} (D1 : Dir g0 y1 x1 o1) : all1 (vX d0 i0 h0 d1 i1 h1 x0 x1 y0 y1 o0 o1 g0 g1) = vX d0 i0 h0 d1 i1 h1 x0 [] y0 [] o0 g0 g0 g1 ∧ Dir g0 [] [] g0 := by
  obtain ⟨x, o, e1, e2⟩ := com1_X (i0 := i0) (d0 := d0) (d1 := d1) (i1 := i1) h.w.2 (x0 := x0) (y0 := y0) (o0 := o0) (g1 := g1) D1 y1.length
  rw [List.drop_length] at e1 e2
  obtain ⟨rfl, rfl⟩ := e2.done
  exact ⟨(all_com1 _).trans e1, e2⟩
/-- all comes -/
theorem talks {d0 i0 h0 d1 i1 h1 : Int} (h : Hs d0 i0 h0 d1 i1 h1) {x0 x1 y0 y1 : List Nat} {o0 o1 g0 g1 : List Ms} (D0 : Dir g1 y0 x0 o0) (D1 : Dir g0 y1 x1 o1) (hl : g0.length ≤ 60 ∧ g1.length ≤ 60) {t : Tl} (hv : vw t = vX d0 i0 h0 d1 i1 h1 x0 x1 y0 y1 o0 o1 g0 g1) : (∀ i, i < 20 → Bd (bothN i t) ∧ Bd (allP (bothN i t) 0)) ∧ Bd (bothN 20 t) ∧ vw (bothN 20 t) = vX d0 i0 h0 d1 i1 h1 [] [] [] [] g1 g0 g0 g1 := by
  obtain ⟨a1, E0⟩ := all0_X h (x1 := x1) (y1 := y1) (o1 := o1) (g0 := g0) D0
  obtain ⟨a2, E1⟩ := all1_X h (x0 := []) (y0 := []) (o0 := g1) (g1 := g1) D1
  have b1 : both (vX d0 i0 h0 d1 i1 h1 x0 x1 y0 y1 o0 o1 g0 g1) = vX d0 i0 h0 d1 i1 h1 [] [] [] [] g1 g0 g0 g1 := by unfold both; rw [a1, a2]
  obtain ⟨a3, -⟩ := all0_X h (x1 := []) (y1 := []) (o1 := g0) (g0 := g0) E0
  obtain ⟨a4, -⟩ := all1_X h (x0 := []) (y0 := []) (o0 := g1) (g1 := g1) E1
  have b2 : both (vX d0 i0 h0 d1 i1 h1 [] [] [] [] g1 g0 g0 g1) = vX d0 i0 h0 d1 i1 h1 [] [] [] [] g1 g0 g0 g1 := by unfold both; rw [a3, a4]
  exact settle_view hv (vX_bv D0 D1 hl) (by rw [a1]; exact vX_bv E0 D1 hl) (by rw [b1]; exact vX_bv E0 E1 hl) (by rw [b1, a3]; exact vX_bv E0 E1 hl) (by rw [b1, b2]) a3 b2 (vX_bv E0 E1 hl)
/-- an end that is up is given something to tell -/
theorem tm_up {d i h p w o : Int} {x : List Nat} (hw : w = 0 ∨ 3 ≤ w) (m : Ms) : tmP (upX d i h p w o x) m 0 = ((upX d i h p w o x, ⟨if m.kind = 2 ∧ encE m = 0 then encB m else [], []⟩), if m.kind = 2 then encE m else 13) := by
  unfold tmP
  rw [upX_quiet hw]
  unfold tellQ
  rw [if_pos (show (upX d i h p w o x).state = 3 from rfl)]
  by_cases hk : m.kind = 2
  · rw [if_pos hk, if_pos hk]
    unfold sendP
    by_cases he : encE m = 0
    · rw [if_pos he, if_pos ⟨hk, he⟩]
      rfl
    · rw [if_neg he, if_neg (fun c => he c.2)]
  · rw [if_neg hk, if_neg hk, if_neg (fun c => hk c.1)]
end Go.Proofs.Ytanboekdfdafmaa.Pv
namespace Go.Proofs.Ytanboekdfdafmaa.Pv
open Go.ChangeShapes Go.WideShapes Go.ChangeAt Go.RowKit Go.Joins Go.Deep Go.Proofs.Ytanboekdfdafmaa.PM Go.Proofs.Ytanboekdfdafmaa.Ask Go.Proofs.Ytanboekdfdafmaa.Ge
set_option linter.unusedVariables false
set_option linter.unusedSimpArgs false

theorem oalloc_step {o : Oper} {a : Act} {W : World} {K : Act → World → Prop} {Q : Exit → Act → World → Prop} {c : Bool} {E : Prop} (ho : o.op = .alloc 35) (hc : c = true)
    (k : ∀ W' b, Hid (SB OutK b [.slice none 0 0, .slice none 0 0] W') → Hid (Below W.heap.size W W') → Hid (b = W.heap.size) → K (a.put o.dst (.pointer (some ⟨b, 0, none⟩))) W') : if c = true then Oper.wp Try.prog o a W K Q else E :=
  step_run hc (onew_run ho) (k _ _ (World.alloc_heap_new W _) ((Below.refl _ W).alloc (Nat.le_refl _) _) rfl)
theorem MOk.keep {w w' : World} {m : Ms} {s : Sl} (h : MOk w m s) (hs : w.heap.size ≤ w'.heap.size) (hk : ∀ g, g < w.heap.size → w'.heap[g]? = w.heap[g]?) : MOk w' m s :=
  ⟨h.l.keep hs (fun b _ _ hl => hk b hl), h.h.keep hs (fun b _ _ hl => hk b hl), h.lc, h.hc, h.il, h.ih, ⟨h.r.p.keep hs (fun b _ _ hl => hk b hl), h.r.m.keep hs (fun b _ _ hl => hk b hl), h.r.c.keep hs (fun b _ _ hl => hk b hl), h.r.pc, h.r.mc, h.r.cc, h.r.n0, h.r.n1⟩⟩
theorem OutV.blk {M : Nat} {W W' : World} {o : Ou} {vb ve : Value} {l : List (Ev × Sl)} (h : OutV M W o vb ve l) (hb : ∀ g, fpV vb ve l g → g < W.heap.size → W'.heap[g]? = W.heap[g]?) : OutV M W' o vb ve l :=
  ⟨h.bys.blk (fun g e => hb g (.inl e) (h.bys.row.lt g e).2), h.ev.blk (fun g e hl => hb g (.inr e) hl), h.eq, h.a1⟩
theorem OutV.lt {M : Nat} {W : World} {o : Ou} {vb ve : Value} {l : List (Ev × Sl)} (h : OutV M W o vb ve l) (g : Nat) (hg : fpV vb ve l g) : g < W.heap.size := by
  rcases hg with e | e | ⟨p, hp, hm⟩
  · exact (h.bys.row.lt g e).2
  · exact (h.ev.own.row.lt g e).2
  · exact ((h.ev.each p hp).rng g hm).2
/-- a talk, and what an end has answered beside it (nothing has happened) -/
structure Mid (N : Nat) (w : World) (bt : Nat) (t : Tl) (c : Cp) (o : Ou) (vb ve : Value) : Prop where
  ti : TI N w bt t c
  ov : OutV N w o vb ve []
  ap : ∀ g, fpV vb ve [] g → ¬ c.A bt g
theorem Mid.step {N : Nat} {w w' : World} {bt : Nat} {t t' : Tl} {c c' : Cp} {o : Ou} {vb ve : Value} (h : Mid N w bt t c o vb ve) (ht : TI N w' bt t' c') (hk : Kl w w' bt c c') : Mid N w' bt t' c' o vb ve :=
  ⟨ht, h.ov.blk (fun g hg hl => hk.blk g hl (h.ap g hg)), fun g hg ha => by
    rcases hk.now g ha with e | e
    · exact h.ap g hg e
    · have := h.ov.lt g hg; omega⟩
theorem Mid.bel {N : Nat} {w w' : World} {bt : Nat} {t : Tl} {c : Cp} {o : Ou} {vb ve : Value} (h : Mid N w bt t c o vb ve) (hb : Below w.heap.size w w') : Mid N w' bt t c o vb ve := h.step (h.ti.bel hb) (Kl.bel hb)
/-- a box beside it has turned -/
theorem TI.ko {N : Nat} {w w' : World} {bt b : Nat} {t : Tl} {c : Cp} (h : TI N w bt t c) (hk : Ko w b w') (hb : ¬ c.A bt b) : TI N w' bt t c := by
  have hp : ∀ k, k < 9 → ∀ g, c.F bt k g → g < w.heap.size → w'.heap[g]? = w.heap[g]? := fun k hk9 g hf _ => hk.block g (fun e => hb ⟨k, hk9, e ▸ hf⟩)
  exact ⟨h.box.blk (hk.block bt (fun e => hb ⟨0, by omega, e.symm⟩)), fun i hi => h.e_blk i hi (hp _ (by omega)), fun i hi => h.y_blk i hi (hp _ (by omega)), fun i hi => h.g_blk i hi (hp _ (by omega)), fun i hi => h.o_blk i hi (hp _ (by omega)), h.d⟩
theorem Kl.ko {w w1 w2 : World} {bt b : Nat} {c c1 : Cp} (h : Kl w w1 bt c c1) (hk : Ko w1 b w2) (hb : w.heap.size ≤ b) : Kl w w2 bt c c1 :=
  ⟨h.str.trans hk.str, fun g hg hn => (hk.block g (by omega)).trans (h.blk g hg hn), h.now⟩
theorem Mid.ko {N : Nat} {w w' : World} {bt b : Nat} {t : Tl} {c : Cp} {o : Ou} {vb ve : Value} (h : Mid N w bt t c o vb ve) (hk : Ko w b w') (hb : ¬ c.A bt b) (hf : ¬ fpV vb ve [] b) : Mid N w' bt t c o vb ve :=
  ⟨h.ti.ko hk hb, h.ov.blk (fun g hg _ => hk.block g (fun e => hf (e ▸ hg))), h.ap⟩
/-- what it has answered is under way -/
theorem mid0_out {N : Nat} {w : World} {bt : Nat} {t : Tl} {c : Cp} {o : Ou} {vb ve : Value} (h : Mid N w bt t c o vb ve) (hN : N ≤ w.heap.size) (hu : ∀ d ∈ o.b, d < 256) (hlb : (t.y 1).length + o.b.length ≤ 1000000000) (hlo : (t.o 0).length ≤ 1000000000) (hlu : 0 ≤ t.u 0 ∧ t.u 0 ≤ 1000000000) :
    Calls Try.prog 9 #[.pointer (some ⟨bt, 0, none⟩), .int .i64 0, .agg #[vb, ve]] w fun e w2 => e = .returned (.bool true) ∧ ∃ c2, TI N w2 bt (outP t 0 o) c2 ∧ Kl w w2 bt c c2 ∧ (c2.b = c.b ∧ c2.h = c.h) := by
  have he : o.ev = [] := by rw [← h.ov.eq]; rfl
  refine (out0_any N bt t c o vb ve [] w h.ti hN h.ov h.ap hu (by rw [he]; intro e he; cases he) hlb (by rw [he]; exact Nat.zero_le _) hlo hlu (outP t 0 o) rfl).mono ?_
  intro e w2 ho
  exact out_step (Kl.refl _ _ _) ⟨rfl, rfl⟩ (fun p hp => by cases hp) ho
theorem mid1_out {N : Nat} {w : World} {bt : Nat} {t : Tl} {c : Cp} {o : Ou} {vb ve : Value} (h : Mid N w bt t c o vb ve) (hN : N ≤ w.heap.size) (hu : ∀ d ∈ o.b, d < 256) (hlb : (t.y 0).length + o.b.length ≤ 1000000000) (hlo : (t.o 1).length ≤ 1000000000) (hlu : 0 ≤ t.u 1 ∧ t.u 1 ≤ 1000000000) :
    Calls Try.prog 9 #[.pointer (some ⟨bt, 0, none⟩), .int .i64 1, .agg #[vb, ve]] w fun e w2 => e = .returned (.bool true) ∧ ∃ c2, TI N w2 bt (outP t 1 o) c2 ∧ Kl w w2 bt c c2 ∧ (c2.b = c.b ∧ c2.h = c.h) := by
  have he : o.ev = [] := by rw [← h.ov.eq]; rfl
  refine (out1_any N bt t c o vb ve [] w h.ti hN h.ov h.ap hu (by rw [he]; intro e he; cases he) hlb (by rw [he]; exact Nat.zero_le _) hlo hlu (outP t 1 o) rfl).mono ?_
  intro e w2 ho
  exact out_step (Kl.refl _ _ _) ⟨rfl, rfl⟩ (fun p hp => by cases hp) ho
/-- an end is given something to tell, and nothing happens -/
theorem tell_mid {N : Nat} {w w0 : World} {bt i : Nat} {t : Tl} {c : Cp} {m : Ms} {sl : Sl} (h : TI N w bt t c) (hi : i < 2) (hN : N ≤ w.heap.size) (hck : -9223372036854775808 ≤ t.clk ∧ t.clk < 9223372036854775808) (hsm : m.lost.length ≤ 100000 ∧ m.hv.length ≤ 100000) (hok : MOk w0 m sl) (hs : w0.heap.size ≤ w.heap.size) (hb : ∀ g, g < w0.heap.size → w.heap[g]? = w0.heap[g]?) (hA : ∀ g, c.A bt g → w0.heap.size ≤ g) {s : Se} {b : List Nat} {er : Int} (hP : tmP (t.s i) m t.clk = ((s, ⟨b, []⟩), er)) :
    Calls Try.prog 15 #[.pointer (some ⟨c.b i, 0, none⟩), msV m sl, .int .i64 t.clk] w fun e w' => ∃ vb ve c1, e = .returned (.tuple #[.agg #[vb, ve], .int .i64 er]) ∧ Mid N w' bt (sesP t i s) c1 ⟨b, []⟩ vb ve ∧ Kl w w' bt c c1 ∧ (c1.b = c.b ∧ c1.h = c.h) ∧ (∀ g, fpV vb ve [] g → w.heap.size ≤ g) := by
  refine (tm_any (c.b i) (t.s i) (c.st i) m sl t.clk w (h.e i hi) hck hsm (fun W hW hk => hok.keep (Nat.le_trans hs hW) (fun g hg => (hk g (by omega) (fun hf => ?_)).trans (hb g hg))) _ hP).mono ?_
  · have := hA g ⟨1 + i, by omega, (Fs_at hi g).2 hf⟩
    omega
  · rintro e w' ⟨v, rfl, hm⟩
    obtain ⟨vb0, ve0, l0, st0, he0, -, ho0, -, -⟩ := id hm
    obtain ⟨vb, ve, l, c1, he, ht1, hk1, hb1, hov, hav, hml⟩ := mv_step h hi hN hm
    cases he
    cases he0
    have hl : l = [] := by
      have h2 := hov.eq
      cases l with
      | nil => rfl
      | cons a b => cases h2
    subst hl
    refine ⟨_, _, c1, rfl, ⟨ht1, hov, hav⟩, hk1, hb1, fun g hg => ?_⟩
    rcases hg with e | e | ⟨p, hp, -⟩
    · exact (ho0.bys.row.lt g e).1
    · exact (ho0.ev.own.row.lt g e).1
    · cases hp
theorem F_g {c : Cp} {bt j : Nat} {x : Value} {y : List (Ms × Sl)} (hj : j < 2) (i : Nat) (hi : i ≠ 5 + j) (g : Nat) (h : ({ c with g := upd c.g j x, h := upd c.h j y } : Cp).F bt i g) : c.F bt i g := by
  match i, h, hi with
  | 0, h, _ => exact h
  | 1, h, _ => exact h
  | 2, h, _ => exact h
  | 3, h, _ => exact h
  | 4, h, _ => exact h
  | 5, h, hi => have e : upd c.g j x 0 = c.g 0 := upd_ne _ _ (by omega); exact (show (c.g 0).ownBlock = some g by rw [← e]; exact h)
  | 6, h, hi => have e : upd c.g j x 1 = c.g 1 := upd_ne _ _ (by omega); exact (show (c.g 1).ownBlock = some g by rw [← e]; exact h)
  | 7, h, _ => exact h
  | 8, h, _ => exact h
  | n + 9, h, _ => exact h
theorem F_g_at {c : Cp} {bt j : Nat} {x : Value} {y : List (Ms × Sl)} (hj : j < 2) (g : Nat) : ({ c with g := upd c.g j x, h := upd c.h j y } : Cp).F bt (5 + j) g ↔ x.ownBlock = some g := by
  match j, hj with
  | 0, _ => exact Iff.rfl
  | 1, _ => exact Iff.rfl
theorem Fg_at {c : Cp} {bt j : Nat} (hj : j < 2) (g : Nat) : c.F bt (5 + j) g ↔ (c.g j).ownBlock = some g := by
  match j, hj with
  | 0, _ => exact Iff.rfl
  | 1, _ => exact Iff.rfl
def givT (t : Tl) (j : Nat) (m : Ms) : Tl := { t with g := upd t.g j (t.g j ++ [m]) }
def givC (c : Cp) (j : Nat) (v : Value) (m : Ms) (sl : Sl) : Cp := { c with g := upd c.g j v, h := upd c.h j (c.h j ++ [(m, sl)]) }
/-- what was given to one end is kept -/
theorem TI.giv {N : Nat} {w w6 w7 w8 : World} {bt j : Nat} {t : Tl} {c : Cp} {v : Value} {m : Ms} {sl : Sl} (h : TI N w bt t c) (hj : j < 2) (hb : Below w.heap.size w w6) (ho : Gm.OwnL E17 N w7 v (c.h j ++ [(m, sl)])) (hg : w6.grownBy w7 (c.g j).ownBlock) (hv : v.ownBlock = (c.g j).ownBlock ∨ ∃ k, w.heap.size ≤ k ∧ v.ownBlock = some k) (hk : Ko w7 bt w8) (hx : SB TaK bt (taL (givT t j m) (givC c j v m sl)) w8) :
    TI N w8 bt (givT t j m) (givC c j v m sl) ∧ Kl w w8 bt c (givC c j v m sl) := by
  have hvn : ∀ g, v.ownBlock = some g → (c.g j).ownBlock = some g ∨ w.heap.size ≤ g := fun g e => by
    rcases hv with hv | ⟨k, hk2, hv⟩
    · exact .inl (hv ▸ e)
    · rw [hv] at e; cases e; exact .inr hk2
  have hbl : ∀ g, g < w.heap.size → g ≠ bt → ¬ (c.g j).ownBlock = some g → w8.heap[g]? = w.heap[g]? := fun g h1 h2 h3 => ((hk.block g h2).trans (hg.block g (Nat.lt_of_lt_of_le h1 hb.size) (fun e => h3 e.symm))).trans (hb.block g h1)
  have hp : ∀ k, k < 9 → k ≠ 0 → k ≠ 5 + j → ∀ g, c.F bt k g → g < w.heap.size → w8.heap[g]? = w.heap[g]? := fun k hk9 h0 h3 g hf hl => hbl g hl (fun e => h.d k 0 hk9 (by omega) h0 g hf e) (fun e => h.d k (5 + j) hk9 (by omega) h3 g hf ((Fg_at hj g).2 e))
  have hnew : ∀ g, w.heap.size ≤ g → ∀ i, i < 9 → ¬ c.F bt i g := fun g hg2 i hi hf => by have := h.lt g ⟨i, hi, hf⟩; omega
  have hvbt : ∀ g, v.ownBlock = some g → g ≠ bt := fun g e e2 => by
    rcases hvn g e with e3 | e3
    · exact h.d (5 + j) 0 (by omega) (by omega) (by omega) g ((Fg_at hj g).2 e3) e2
    · have := h.box.lt; omega
  refine ⟨⟨hx, fun i hi => h.e_blk i hi (hp _ (by omega) (by omega) (by omega)), fun i hi => h.y_blk i hi (hp _ (by omega) (by omega) (by omega)), fun i hi => ?_, fun i hi => h.o_blk i hi (hp _ (by omega) (by omega) (by omega)), d_upd (W := w) (k := 5 + j) h.d h.lt (F_g hj) (fun g hg2 => ?_)⟩, ⟨?_, fun g h1 h2 => hbl g h1 (fun e => h2 ⟨0, by omega, e⟩) (fun e => h2 ⟨5 + j, by omega, (Fg_at hj g).2 e⟩), fun g hg2 => ?_⟩⟩
  · by_cases e : i = j
    · subst e
      show Gm.OwnL E17 N w8 (upd c.g i v i) (upd c.h i (c.h i ++ [(m, sl)]) i) ∧ (upd c.h i (c.h i ++ [(m, sl)]) i).map (fun p => p.1) = upd t.g i (t.g i ++ [m]) i
      rw [upd_at, upd_at, upd_at]
      exact ⟨ho.blk (fun g e => hk.block g (hvbt g e)), by rw [List.map_append, (h.g i hi).2]; rfl⟩
    · have k := h.g_blk i hi (hp _ (by omega) (by omega) (by omega))
      show Gm.OwnL E17 N w8 (upd c.g j v i) (upd c.h j (c.h j ++ [(m, sl)]) i) ∧ (upd c.h j (c.h j ++ [(m, sl)]) i).map (fun p => p.1) = upd t.g j (t.g j ++ [m]) i
      rw [upd_ne _ _ e, upd_ne _ _ e, upd_ne _ _ e]
      exact k
  · rcases hvn g ((F_g_at hj g).1 hg2) with e | e
    · exact .inl ((Fg_at hj g).2 e)
    · exact .inr (hnew g e)
  · exact ((hb.mono (Nat.zero_le _)).trans ⟨hg.os, hg.tape, hg.output, hg.size, fun g hg2 => absurd hg2 (by omega)⟩).trans hk.str
  · obtain ⟨k, hk9, hf⟩ := hg2
    by_cases e : k = 5 + j
    · subst e
      rcases hvn g ((F_g_at hj g).1 hf) with e | e
      · exact .inl ⟨5 + j, hk9, (Fg_at hj g).2 e⟩
      · exact .inr e
    · exact .inl ⟨k, hk9, F_g hj k e g hf⟩
/-- an end is given something to tell: what is seen -/
theorem tellv0 {d0 i0 h0 d1 i1 h1 : Int} (h : Hs d0 i0 h0 d1 i1 h1) {x0 x1 y0 y1 : List Nat} {o0 o1 g0 g1 : List Ms} {t : Tl} (hv : vw t = vX d0 i0 h0 d1 i1 h1 x0 x1 y0 y1 o0 o1 g0 g1) (m : Ms) : ∃ b er, tmP (t.s 0) m t.clk = ((t.s 0, ⟨b, []⟩), er) ∧ (∀ d ∈ b, d < 256) ∧ b.length ≤ 1024 ∧ (er = 0 → m.kind = 2 ∧ encE m = 0 ∧ vw (outP (sesP t 0 (t.s 0)) 0 ⟨b, []⟩) = vX d0 i0 h0 d1 i1 h1 x0 x1 y0 (y1 ++ encB m) o0 o1 g0 g1) ∧ (er ≠ 0 → vw (outP (sesP t 0 (t.s 0)) 0 ⟨b, []⟩) = vX d0 i0 h0 d1 i1 h1 x0 x1 y0 y1 o0 o1 g0 g1) := by
  have hp := vw_parts hv
  have hs : t.s 0 = upX d0 i0 h0 d1 (min h0 h1) i1 x0 := hp.1.1
  have hc : t.clk = 0 := hp.2.2.2.2.2
  have hq := tm_up (x := x0) (d := d0) (i := i0) (h := h0) (p := d1) (o := i1) h.w.1 m
  have hu : ∀ d ∈ (if m.kind = 2 ∧ encE m = 0 then encB m else []), d < 256 := fun d hd => by
    split at hd
    · exact sent_u8 [m] d (by rw [sent1]; exact hd)
    · cases hd
  have hl : (if m.kind = 2 ∧ encE m = 0 then encB m else []).length ≤ 1024 := by
    split
    · exact enc_most
    · exact Nat.zero_le _
  have hse : ∀ b, vw (outP (sesP t 0 (t.s 0)) 0 ⟨b, []⟩) = out0 (vX d0 i0 h0 d1 i1 h1 x0 x1 y0 y1 o0 o1 g0 g1) ⟨b, []⟩ := fun b => by
    rw [vw_out0]
    have e : vw (sesP t 0 (t.s 0)) = vw t := rfl
    rw [e, hv]
  have ho : ∀ b, out0 (vX d0 i0 h0 d1 i1 h1 x0 x1 y0 y1 o0 o1 g0 g1) ⟨b, []⟩ = vX d0 i0 h0 d1 i1 h1 x0 x1 y0 (y1 ++ b) o0 o1 g0 g1 := fun b => by
    unfold out0 vX
    dsimp only
    rw [show tolds [] = [] from rfl, show ups [] = 0 from rfl, List.append_nil]
    rfl
  refine ⟨_, _, by rw [hs, hc]; exact hq, hu, hl, fun he => ?_, fun he => ?_⟩
  · by_cases hk : m.kind = 2
    · rw [if_pos hk] at he
      refine ⟨hk, he, ?_⟩
      rw [hse, if_pos ⟨hk, he⟩, ho]
    · rw [if_neg hk] at he
      exact absurd he (by decide)
  · have hn : ¬ (m.kind = 2 ∧ encE m = 0) := fun c => he (by rw [if_pos c.1]; exact c.2)
    rw [hse, if_neg hn, ho, List.append_nil]
/-- an end is given something to tell: what is seen -/
theorem tellv1 {d0 i0 h0 d1 i1 h1 : Int} (h : Hs d0 i0 h0 d1 i1 h1) {x0 x1 y0 y1 : List Nat} {o0 o1 g0 g1 : List Ms} {t : Tl} (hv : vw t = vX d0 i0 h0 d1 i1 h1 x0 x1 y0 y1 o0 o1 g0 g1) (m : Ms) : ∃ b er, tmP (t.s 1) m t.clk = ((t.s 1, ⟨b, []⟩), er) ∧ (∀ d ∈ b, d < 256) ∧ b.length ≤ 1024 ∧ (er = 0 → m.kind = 2 ∧ encE m = 0 ∧ vw (outP (sesP t 1 (t.s 1)) 1 ⟨b, []⟩) = vX d0 i0 h0 d1 i1 h1 x0 x1 (y0 ++ encB m) y1 o0 o1 g0 g1) ∧ (er ≠ 0 → vw (outP (sesP t 1 (t.s 1)) 1 ⟨b, []⟩) = vX d0 i0 h0 d1 i1 h1 x0 x1 y0 y1 o0 o1 g0 g1) := by
  have hp := vw_parts hv
  have hs : t.s 1 = upX d1 i1 h1 d0 (min h1 h0) i0 x1 := hp.1.2
  have hc : t.clk = 0 := hp.2.2.2.2.2
  have hq := tm_up (x := x1) (d := d1) (i := i1) (h := h1) (p := d0) (o := i0) h.w.2 m
  have hu : ∀ d ∈ (if m.kind = 2 ∧ encE m = 0 then encB m else []), d < 256 := fun d hd => by
    split at hd
    · exact sent_u8 [m] d (by rw [sent1]; exact hd)
    · cases hd
  have hl : (if m.kind = 2 ∧ encE m = 0 then encB m else []).length ≤ 1024 := by
    split
    · exact enc_most
    · exact Nat.zero_le _
  have hse : ∀ b, vw (outP (sesP t 1 (t.s 1)) 1 ⟨b, []⟩) = out1 (vX d0 i0 h0 d1 i1 h1 x0 x1 y0 y1 o0 o1 g0 g1) ⟨b, []⟩ := fun b => by
    rw [vw_out1]
    have e : vw (sesP t 1 (t.s 1)) = vw t := rfl
    rw [e, hv]
  have ho : ∀ b, out1 (vX d0 i0 h0 d1 i1 h1 x0 x1 y0 y1 o0 o1 g0 g1) ⟨b, []⟩ = vX d0 i0 h0 d1 i1 h1 x0 x1 (y0 ++ b) y1 o0 o1 g0 g1 := fun b => by
    unfold out1 vX
    dsimp only
    rw [show tolds [] = [] from rfl, show ups [] = 0 from rfl, List.append_nil]
    rfl
  refine ⟨_, _, by rw [hs, hc]; exact hq, hu, hl, fun he => ?_, fun he => ?_⟩
  · by_cases hk : m.kind = 2
    · rw [if_pos hk] at he
      refine ⟨hk, he, ?_⟩
      rw [hse, if_pos ⟨hk, he⟩, ho]
    · rw [if_neg hk] at he
      exact absurd he (by decide)
  · have hn : ¬ (m.kind = 2 ∧ encE m = 0) := fun c => he (by rw [if_pos c.1]; exact c.2)
    rw [hse, if_neg hn, ho, List.append_nil]
end Go.Proofs.Ytanboekdfdafmaa.Pv
namespace Go.Proofs.Ytanboekdfdafmaa.Pv
open Go.ChangeShapes Go.WideShapes Go.ChangeAt Go.RowKit Go.Joins Go.Deep Go.Proofs.Ytanboekdfdafmaa.PM Go.Proofs.Ytanboekdfdafmaa.Ask Go.Proofs.Ytanboekdfdafmaa.Ge
set_option linter.unusedVariables false
set_option linter.unusedSimpArgs false

/-- a message as it was written -/
theorem enc_frame {m : Ms} (he : encE m = 0) (hi : InM m) : 9 ≤ (encB m).length ∧ (encB m).length ≤ 1024 ∧ frE (encB m) = 0 ∧ szOf (encB m) = (encB m).length ∧ (∀ d ∈ encB m, d < 256) := by
  have hd := dec_back he hi
  have hu : ∀ d ∈ encB m, d < 256 := fun d h => sent_u8 [m] d (by rw [sent1]; exact h)
  rcases dec_cases (encB m) with ⟨e', he', hne⟩ | ⟨m', kd, body, he', h9, hf, -⟩
  · rw [he'] at hd; cases hd; exact absurd rfl hne
  · obtain ⟨-, k, -, -, -, -, hz, -⟩ := frE_ok (by omega) hf
    exact ⟨h9, enc_most, hf, hz, hu⟩
/-- one of its bytes is changed, but of its length: nothing comes out, and it is a fault -/
theorem spoil_one {m : Ms} (he : encE m = 0) (hi : InM m) {p y : Nat} (hp : p < (encB m).length) (h4 : p ≠ 4) (h5 : p ≠ 5) (hy : y < 256) (hne : y ≠ (encB m)[p]) (r : List Nat) : ∃ f, f ≠ 0 ∧ parse ((encB m).set p y ++ r) = ([], [], f) := by
  obtain ⟨l9, lm, hf, hz, hu⟩ := enc_frame he hi
  have ho := one_byte hu l9 hf hp hy hne
  have hl : ((encB m).set p y).length = (encB m).length := List.length_set ..
  by_cases hb : bgE ((encB m).set p y) = 0
  · have hd : (dec ((encB m).set p y)).2 ≠ 0 := by unfold dec; rw [if_pos ho]; exact ho
    have hs : szOf ((encB m).set p y) = ((encB m).set p y).length := by
      rw [hl, ← hz]
      unfold szOf
      have e : (((encB m).set p y).drop 4).take 2 = ((encB m).drop 4).take 2 := by
        apply List.ext_getElem?
        intro i
        by_cases i2 : i < 2
        · rw [List.getElem?_take, List.getElem?_take, if_pos i2, if_pos i2, List.getElem?_drop, List.getElem?_drop, List.getElem?_set_ne (by omega)]
        · rw [List.getElem?_take, List.getElem?_take, if_neg i2, if_neg i2]
      rw [e]
    exact ⟨_, hd, parse_err (by omega) hb hs hd⟩
  · have e := bg_app6 (x := (encB m).set p y) r (by omega)
    exact ⟨_, by rw [e]; exact hb, parse_bad (by rw [e]; exact hb)⟩
theorem sent_app (a b : List Ms) : SentB (a ++ b) = SentB a ++ SentB b := by simp [SentB]
/-- where the first messages end -/
def en (g : List Ms) (i : Nat) : Nat := (SentB (g.take i)).length
theorem en_zero (g : List Ms) : en g 0 = 0 := rfl
theorem en_succ {g : List Ms} {i : Nat} (h : i < g.length) : en g (i + 1) = en g i + (encB g[i]).length := by
  unfold en
  rw [List.take_succ_eq_append_getElem h, sent_snoc, List.length_append]
theorem en_all (g : List Ms) : en g g.length = (SentB g).length := by unfold en; rw [List.take_length]
theorem sent_at {g : List Ms} {i : Nat} (h : i < g.length) : SentB g = SentB (g.take i) ++ (encB g[i] ++ SentB (g.drop (i + 1))) := by
  have e : g = g.take i ++ (g[i] :: g.drop (i + 1)) := by rw [List.getElem_cons_drop, List.take_append_drop]
  conv => lhs; rw [e]
  rw [sent_app]
  rfl
theorem sent_byte {g : List Ms} {i p : Nat} (h : i < g.length) (hp : p < (encB g[i]).length) : (SentB g)[en g i + p]? = some (encB g[i])[p] := by
  rw [sent_at h, List.getElem?_append_right (by unfold en; omega)]
  have e : en g i + p - (SentB (g.take i)).length = p := by unfold en; omega
  rw [e, List.getElem?_append_left hp, List.getElem?_eq_getElem hp]
/-- the length that stands in a message -/
theorem sent_size {g : List Ms} (hg : ∀ m ∈ g, encE m = 0 ∧ InM m ∧ m.kind = 2) {i : Nat} (h : i < g.length) : ∃ a b, (SentB g)[en g i + 4]? = some a ∧ (SentB g)[en g i + 5]? = some b ∧ a < 256 ∧ b < 256 ∧ a * 256 + b = (encB g[i]).length ∧ 9 ≤ (encB g[i]).length ∧ (encB g[i]).length ≤ 1024 ∧ en g (i + 1) ≤ (SentB g).length := by
  have hm := hg g[i] (List.getElem_mem h)
  obtain ⟨l9, lm, hf, hz, hu⟩ := enc_frame hm.1 hm.2.1
  refine ⟨_, _, sent_byte h (by omega), sent_byte h (by omega), hu _ (List.getElem_mem _), hu _ (List.getElem_mem _), ?_, l9, lm, ?_⟩
  · have e : ((encB g[i]).drop 4).take 2 = [(encB g[i])[4]'(by omega), (encB g[i])[5]'(by omega)] := by
      apply List.ext_getElem?
      intro k
      match k with
      | 0 => simp
      | 1 => simp
      | n + 2 => simp; omega
    have h2 : num (((encB g[i]).drop 4).take 2) = (encB g[i]).length := hz
    rw [e] at h2
    unfold num at h2
    simp at h2
    omega
  · rw [en_succ h]
    have := congrArg List.length (sent_at h)
    simp only [List.length_append] at this
    unfold en
    omega
/-- the whole: so many come out, the next one is a fault -/
theorem spoil_all {g : List Ms} (hg : ∀ m ∈ g, encE m = 0 ∧ InM m ∧ m.kind = 2) {i k y : Nat} (h : i < g.length) (h1 : en g i ≤ k) (h2 : k < en g (i + 1)) (h4 : k ≠ en g i + 4) (h5 : k ≠ en g i + 5) (hy : y < 256) (hne : (SentB g)[k]? ≠ some y) : ∃ f, f ≠ 0 ∧ parse ((SentB g).set k y) = (g.take i, [], f) := by
  have hm := hg g[i] (List.getElem_mem h)
  rw [en_succ h] at h2
  obtain ⟨p, rfl⟩ : ∃ p, k = en g i + p := ⟨k - en g i, by omega⟩
  have hp : p < (encB g[i]).length := by omega
  rw [sent_byte h hp] at hne
  obtain ⟨f, hf, hpar⟩ := spoil_one hm.1 hm.2.1 hp (by omega) (by omega) hy (fun e => hne (by rw [e])) (SentB (g.drop (i + 1)))
  refine ⟨f, hf, ?_⟩
  have e : (SentB g).set (en g i + p) y = SentB (g.take i) ++ ((encB g[i]).set p y ++ SentB (g.drop (i + 1))) := by
    rw [sent_at h, List.set_append_right _ _ (by unfold en; omega)]
    have e : en g i + p - (SentB (g.take i)).length = p := by unfold en; omega
    rw [e, List.set_append_left _ _ hp]
  rw [e, parse_many _ _ (fun m hm2 => ⟨(hg m (List.mem_of_mem_take hm2)).1, (hg m (List.mem_of_mem_take hm2)).2.1⟩), hpar]
  simp
/-- it comes to an end that is up -/
theorem recv_spoilt {d i h p w o : Int} {b : List Nat} {ms : List Ms} {f : Int} (hw : w = 0 ∨ 3 ≤ w) (hb : b ≠ []) (ht : parse b = (ms, [], f)) (hf : f ≠ 0) (hk : ∀ m ∈ ms, m.kind = 2) : ∃ s ob, recvP (upX d i h p w o []) b 0 = (s, ⟨ob, ms.map tev ++ [⟨2, 0, 0, 1, ms0⟩]⟩) ∧ s.clock = 0 := by
  have hT : TK ([] : List Nat) 0 b = (ms, [], f) := by unfold TK; rw [if_pos rfl, List.nil_append, ht]
  have e1 : TK (upX d i h p w o []).x (upX d i h p w o []).f b = (ms, [], f) := hT
  have e2 : tookP (upX d i h p w o []) b = { upX d i h p w o [] with f := f } := by unfold tookP; rw [e1]; rfl
  have e3 : recvP (upX d i h p w o []) b 0 = endP { upX d i h p w o [] with f := f } ⟨[], ms.map tev⟩ 1 := by
    unfold recvP
    rw [upX_quiet hw]
    unfold recvQ
    rw [if_neg (by rintro (c | c); exact absurd c (by show ¬ (3 : Int) = 0; decide); exact hb c), e1, e2]
    dsimp only
    rw [hears_told ms _ _ rfl hk]
    unfold faultP
    rw [if_pos ⟨hf, by show ¬ (3 : Int) = 0; decide⟩]
    rfl
  rw [e3]
  unfold endP end1
  rw [if_neg (by decide)]
  have hn : encE (ntc 1) = 0 := by decide
  unfold sendP
  rw [if_pos hn]
  unfold end2
  rw [if_pos (by rfl)]
  exact ⟨_, _, rfl, rfl⟩
/-- what is seen then -/
theorem com1_spoilt {d0 i0 h0 d1 i1 h1 : Int} (hs : Hs d0 i0 h0 d1 i1 h1) {g : List Ms} (hg : ∀ m ∈ g, encE m = 0 ∧ InM m ∧ m.kind = 2) {b : List Nat} {i : Nat} {f : Int} (hb : b ≠ []) (ht : parse b = (g.take i, [], f)) (hf : f ≠ 0) {k : Nat} (hk : b.length ≤ k) : (com1 (vX d0 i0 h0 d1 i1 h1 [] [] [] b [] [] g []) k).o1 = g.take i ∧ (com1 (vX d0 i0 h0 d1 i1 h1 [] [] [] b [] [] g []) k).g0 = g := by
  obtain ⟨s, ob, e, -⟩ := recv_spoilt (d := d1) (i := i1) (h := h1) (p := d0) (o := i0) hs.w.2 hb ht hf (fun m hm => (hg m (List.mem_of_mem_take hm)).2.2)
  have e2 : recvP (vX d0 i0 h0 d1 i1 h1 [] [] [] b [] [] g []).s1 (((vX d0 i0 h0 d1 i1 h1 [] [] [] b [] [] g []).y1).take k) (vX d0 i0 h0 d1 i1 h1 [] [] [] b [] [] g []).k = (s, ⟨ob, (g.take i).map tev ++ [⟨2, 0, 0, 1, ms0⟩]⟩) := by
    show recvP (upX d1 i1 h1 d0 (min h1 h0) i0 []) (b.take k) 0 = _
    rw [List.take_of_length_le hk]
    exact e
  unfold com1
  rw [e2]
  refine ⟨?_, rfl⟩
  show ([] : List Ms) ++ tolds ((g.take i).map tev ++ [⟨2, 0, 0, 1, ms0⟩]) = g.take i
  have ht2 : ∀ l : List Ms, tolds (l.map tev ++ [(⟨2, 0, 0, 1, ms0⟩ : Ev)]) = l := fun l => by
    induction l with
    | nil => rfl
    | cons m l ih =>
      show (if (3 : Int) = 3 then [m] else []) ++ tolds (l.map tev ++ [(⟨2, 0, 0, 1, ms0⟩ : Ev)]) = _
      rw [if_pos rfl, ih]
      rfl
  rw [ht2]
  rfl
end Go.Proofs.Ytanboekdfdafmaa.Pv
