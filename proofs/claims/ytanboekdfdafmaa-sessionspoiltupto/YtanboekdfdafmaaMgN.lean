/- Two ends that talk: how they come up (plain). Two ends that talk: they come up (plain). Two ends that talk: they stay up, and end when nothing comes (plain). -/
import Derived.Test.YtanboekdfdafmaaMgM
namespace Go.Proofs.Ytanboekdfdafmaa.Pv
open Go.ChangeShapes Go.WideShapes Go.ChangeAt Go.RowKit Go.Joins Go.Deep Go.Proofs.Ytanboekdfdafmaa.PM Go.Proofs.Ytanboekdfdafmaa.Ask Go.Proofs.Ytanboekdfdafmaa.Ge
set_option linter.unusedVariables false
set_option linter.unusedSimpArgs false

/-- a talk as it is seen: of each end what it is -/
structure Vs where
  s0 : Se
  s1 : Se
  y0 : List Nat
  y1 : List Nat
  u0 : Int
  u1 : Int
  o0 : List Ms
  o1 : List Ms
  g0 : List Ms
  g1 : List Ms
  k : Int
def vw (t : Tl) : Vs := ⟨t.s 0, t.s 1, t.y 0, t.y 1, t.u 0, t.u 1, t.o 0, t.o 1, t.g 0, t.g 1, t.clk⟩
def ups : List Ev → Int
  | [] => 0
  | e :: l => (if e.kind = 1 then 1 else 0) + ups l
def tolds : List Ev → List Ms
  | [] => []
  | e :: l => (if e.kind = 3 then [e.m] else []) ++ tolds l
def out0 (v : Vs) (o : Ou) : Vs := { v with y1 := v.y1 ++ o.b, u0 := v.u0 + ups o.ev, o0 := v.o0 ++ tolds o.ev }
def out1 (v : Vs) (o : Ou) : Vs := { v with y0 := v.y0 ++ o.b, u1 := v.u1 + ups o.ev, o1 := v.o1 ++ tolds o.ev }
theorem evs_view (who : Nat) : ∀ (l : List Ev) (t : Tl), (l.foldl (evP who) t).u who = t.u who + ups l ∧ (l.foldl (evP who) t).o who = t.o who ++ tolds l ∧ (∀ i, i ≠ who → (l.foldl (evP who) t).u i = t.u i ∧ (l.foldl (evP who) t).o i = t.o i)
  | [], t => ⟨by simp [ups], by simp [tolds], fun _ _ => ⟨rfl, rfl⟩⟩
  | e :: l, t => by
    obtain ⟨h1, h2, h3⟩ := evs_view who l (evP who t e)
    rw [List.foldl_cons]
    have k1 : (evP who t e).u who = t.u who + (if e.kind = 1 then 1 else 0) := by
      unfold evP
      split
      · exact upd_at _ _ _
      · split
        · simp
        · simp
    have k2 : (evP who t e).o who = t.o who ++ (if e.kind = 3 then [e.m] else []) := by
      unfold evP
      split
      · rename_i h; rw [if_neg (by rw [h]; decide)]; simp
      · split
        · exact upd_at _ _ _
        · simp
    have k3 : ∀ i, i ≠ who → (evP who t e).u i = t.u i ∧ (evP who t e).o i = t.o i := fun i hi => by
      unfold evP
      split
      · exact ⟨upd_ne _ _ hi, rfl⟩
      · split
        · exact ⟨rfl, upd_ne _ _ hi⟩
        · exact ⟨rfl, rfl⟩
    refine ⟨?_, ?_, fun i hi => ⟨(h3 i hi).1.trans (k3 i hi).1, (h3 i hi).2.trans (k3 i hi).2⟩⟩
    · rw [h1, k1, Int.add_assoc]; rfl
    · rw [h2, k2, List.append_assoc]; rfl
theorem vw_out0 (t : Tl) (o : Ou) : vw (outP t 0 o) = out0 (vw t) o := by
  obtain ⟨h1, h2, h3⟩ := evs_view 0 o.ev (wayP t 1 (t.y 1 ++ o.b))
  obtain ⟨k1, k2, k3, k4⟩ := evs_same 0 o.ev (wayP t 1 (t.y 1 ++ o.b))
  have e1 := h3 1 (by decide)
  unfold vw out0
  show Vs.mk ((outP t 0 o).s 0) _ _ _ _ _ _ _ _ _ _ = _
  unfold outP
  show Vs.mk ((o.ev.foldl (evP 0) (wayP t 1 (t.y 1 ++ o.b))).s 0) _ _ _ _ _ _ _ _ _ _ = _
  rw [k2, k3, k4, k1, h1, h2, e1.1, e1.2]
  rfl
theorem vw_out1 (t : Tl) (o : Ou) : vw (outP t 1 o) = out1 (vw t) o := by
  obtain ⟨h1, h2, h3⟩ := evs_view 1 o.ev (wayP t 0 (t.y 0 ++ o.b))
  obtain ⟨k1, k2, k3, k4⟩ := evs_same 1 o.ev (wayP t 0 (t.y 0 ++ o.b))
  have e1 := h3 0 (by decide)
  unfold vw out1
  unfold outP
  show Vs.mk ((o.ev.foldl (evP 1) (wayP t 0 (t.y 0 ++ o.b))).s 0) _ _ _ _ _ _ _ _ _ _ = _
  rw [k2, k3, k4, k1, h1, h2, e1.1, e1.2]
  rfl
def all0 (v : Vs) : Vs := out0 { v with s0 := (recvP v.s0 v.y0 v.k).1, y0 := [] } (recvP v.s0 v.y0 v.k).2
def all1 (v : Vs) : Vs := out1 { v with s1 := (recvP v.s1 v.y1 v.k).1, y1 := [] } (recvP v.s1 v.y1 v.k).2
theorem vw_all0 (t : Tl) : vw (allP t 0) = all0 (vw t) := by
  unfold allP comesP
  dsimp only
  rw [vw_out0, List.take_length, List.drop_length]
  rfl
theorem vw_all1 (t : Tl) : vw (allP t 1) = all1 (vw t) := by
  unfold allP comesP
  dsimp only
  rw [vw_out1, List.take_length, List.drop_length]
  rfl
def both (v : Vs) : Vs := all1 (all0 v)
theorem vw_both (t : Tl) : vw (bothP t) = both (vw t) := by rw [both_all, vw_all1, vw_all0]; rfl
/-- messages that are whole come -/
theorem recv_msgs {s s1 : Se} {o1 : Ou} {now : Int} {ms : List Ms} (hm : moveP s now = (s1, o1)) (h0 : ¬ s1.state = 0) (hx : s1.x = [] ∧ s1.f = 0) (hms : ∀ m ∈ ms, encE m = 0 ∧ InM m) (hne : ¬ SentB ms = []) : recvP s (SentB ms) now = hearsP { s1 with heard := s1.clock } o1 ms := by
  have hp : TK s1.x s1.f (SentB ms) = (ms, [], 0) := by
    rw [hx.1, hx.2]
    unfold TK
    rw [if_pos rfl, List.nil_append]
    have h5 := parse_many ms [] hms
    rw [List.append_nil, parse_wait sok_nil, List.append_nil] at h5
    exact h5
  unfold recvP
  rw [hm]
  unfold recvQ
  rw [if_neg (by rintro (e | e); exact h0 e; exact hne e), hp]
  have e1 : tookP s1 (SentB ms) = { s1 with heard := s1.clock } := by
    unfold tookP
    rw [hp]
    obtain ⟨a, b, c, d, e, f, g, h, i, j, x, f⟩ := s1
    obtain ⟨h1, h2⟩ := hx
    dsimp only at h1 h2 ⊢
    rw [h1, h2]
  rw [e1]
  unfold faultP
  rw [if_neg (fun c => c.1 rfl)]
theorem recv_none {s s1 : Se} {o1 : Ou} {now : Int} (hm : moveP s now = (s1, o1)) : recvP s [] now = (s1, o1) := by
  unfold recvP
  rw [hm]
  unfold recvQ
  rw [if_pos (Or.inr rfl)]
end Go.Proofs.Ytanboekdfdafmaa.Pv
namespace Go.Proofs.Ytanboekdfdafmaa.Pv
open Go.ChangeShapes Go.WideShapes Go.ChangeAt Go.RowKit Go.Joins Go.Deep Go.Proofs.Ytanboekdfdafmaa.PM Go.Proofs.Ytanboekdfdafmaa.Ask Go.Proofs.Ytanboekdfdafmaa.Ge
set_option linter.unusedVariables false
set_option linter.unusedSimpArgs false

theorem enc_opn {s : Se} (hd : 1 ≤ s.dom ∧ s.dom ≤ 4294967295) (hi : 1 ≤ s.id ∧ s.id ≤ 4294967295) (hh : s.hold = 0 ∨ (3 ≤ s.hold ∧ s.hold ≤ 65535)) : encE (opn s) = 0 := by
  have hc : chk (opn s) = 0 := by
    rcases hh with e | e
    · simp [chk, opn, isK, wi, form, bare, rtZ, allV, rise, meet, inR, isNm, riseI, chain, hd, hi, e]
    · simp [chk, opn, isK, wi, form, bare, rtZ, allV, rise, meet, inR, isNm, riseI, chain, hd, hi, e]
  unfold encE
  rw [if_pos hc]
  simp [opn, body, big_len]
theorem enc_alv : encE alv = 0 := by decide
theorem enc_ntc4 : encE (ntc 4) = 0 := by decide
theorem inm_z {k d i h c : Int} : InM ⟨k, d, i, h, c, [], [], rtZ⟩ := ⟨(fun p hp => by cases hp), (fun p hp => by cases hp), ⟨Int.le_refl _, by show (0 : Int) < _; decide⟩⟩
theorem move_quiet {s : Se} {now : Int} (hc : now ≤ s.clock) (h : s.state = 0 ∨ s.wait = 0 ∨ (s.clock - s.heard < s.wait ∧ (s.state = 1 ∨ s.clock - s.sent < s.wait.tdiv 3))) : moveP s now = (s, ⟨[], []⟩) := by
  have e : clk s now = s := by
    unfold clk
    have : max s.clock now = s.clock := by omega
    rw [this]
  unfold moveP
  rw [e]
  unfold dueP
  by_cases h0 : s.state = 0 ∨ s.wait = 0
  · rw [if_pos h0]
  · rw [if_neg h0]
    have h1 : s.clock - s.heard < s.wait ∧ (s.state = 1 ∨ s.clock - s.sent < s.wait.tdiv 3) := by
      rcases h with e | e | e
      · exact absurd (Or.inl e) h0
      · exact absurd (Or.inr e) h0
      · exact e
    rw [if_neg (Int.not_le.2 h1.1), if_neg (fun c => h1.2.elim (fun e => c.1 e) (fun e => absurd c.2 (Int.not_le.2 e)))]
/-- what two ends are made of -/
structure Hs (d0 i0 h0 d1 i1 h1 : Int) : Prop where
  pd0 : 1 ≤ d0 ∧ d0 ≤ 4294967295
  pd1 : 1 ≤ d1 ∧ d1 ≤ 4294967295
  pi0 : 1 ≤ i0 ∧ i0 ≤ 4294967295
  pi1 : 1 ≤ i1 ∧ i1 ≤ 4294967295
  ph0 : h0 = 0 ∨ (3 ≤ h0 ∧ h0 ≤ 65535)
  ph1 : h1 = 0 ∨ (3 ≤ h1 ∧ h1 ≤ 65535)
  ne : i0 ≠ i1
theorem Hs.swap {d0 i0 h0 d1 i1 h1 : Int} (h : Hs d0 i0 h0 d1 i1 h1) : Hs d1 i1 h1 d0 i0 h0 := ⟨h.pd1, h.pd0, h.pi1, h.pi0, h.ph1, h.ph0, h.ne.symm⟩
def opS (d i h p : Int) : Se := ⟨d, i, h, p, 0, 1, 0, 0, 240, 0, [], 0⟩
def cfS (d i h p w o : Int) : Se := ⟨d, i, h, p, 0, 2, 0, 0, w, o, [], 0⟩
def upS (d i h p k he se w o : Int) : Se := ⟨d, i, h, p, k, 3, he, se, w, o, [], 0⟩
theorem start_new {d i h p : Int} (hd : 1 ≤ d ∧ d ≤ 4294967295) (hi : 1 ≤ i ∧ i ≤ 4294967295) (hh : h = 0 ∨ (3 ≤ h ∧ h ≤ 65535)) : startP (newS d i h p) 0 = (opS d i h p, ⟨encB (opn (newS d i h p)), []⟩) := by
  have hm : moveP (newS d i h p) 0 = (newS d i h p, ⟨[], []⟩) := move_quiet (Int.le_refl _) (.inl rfl)
  have he : encE (opn (newS d i h p)) = 0 := enc_opn hd hi hh
  unfold startP
  rw [hm]
  unfold startQ
  refine (if_pos (show (newS d i h p).state = 0 from rfl)).trans ?_
  unfold sendP
  exact (if_pos he).trans rfl
theorem sent1 (m : Ms) : SentB [m] = encB m := by simp [SentB]
theorem sent2 (m k : Ms) : SentB [m, k] = encB m ++ encB k := by simp [SentB]
theorem enc_ne {m : Ms} (h : encE m = 0) : ¬ encB m = [] := fun e => by
  have h1 : (encB m).length = 9 + (body m).length := by unfold encB; rw [if_pos h, frame_len]
  rw [e] at h1
  simp at h1
  omega
/-- an end that opens hears the other's opening -/
theorem hear_open {d i h p d' i' h' p' : Int} (hp : p = d') (hi : i' ≠ i) (o : Ou) : hearP (opS d i h p) o (opn (newS d' i' h' p')) = (cfS d i h p (min h h') i', ⟨o.b ++ encB alv, o.ev⟩) := by
  subst hp
  unfold hearP
  rw [if_neg (by show ¬ (1 : Int) = 4; decide), if_pos ⟨rfl, rfl⟩]
  unfold openP
  rw [if_neg (fun c => c rfl), if_neg (show ¬ (opn (newS p i' h' p')).id = (opS d i h p).id from hi)]
  unfold sendP
  rw [if_pos enc_alv]
  rfl
theorem hear_alive {d i h p w o : Int} (ou : Ou) : hearP (cfS d i h p w o) ou alv = (upS d i h p 0 0 0 w o, ⟨ou.b, ou.ev ++ [⟨1, o, w, 0, ms0⟩]⟩) := by
  unfold hearP
  rw [if_neg (by show ¬ (3 : Int) = 4; decide), if_neg (fun c => absurd c.1 (by show ¬ (2 : Int) = 1; decide)), if_pos ⟨rfl, rfl⟩]
  rfl
theorem open_quiet (d i h p : Int) : moveP (opS d i h p) 0 = (opS d i h p, ⟨[], []⟩) := move_quiet (Int.le_refl _) (.inr (.inr ⟨by show (0 : Int) - 0 < 240; decide, .inl rfl⟩))
theorem tdiv_one {w : Int} (h : 3 ≤ w) : 0 < w.tdiv 3 := by
  rw [Int.tdiv_eq_ediv_of_nonneg (by omega)]
  omega
theorem conf_quiet {d i h p w o : Int} (hw : w = 0 ∨ 3 ≤ w) : moveP (cfS d i h p w o) 0 = (cfS d i h p w o, ⟨[], []⟩) := move_quiet (Int.le_refl _) (by
  rcases hw with e | e
  · exact .inr (.inl e)
  · exact .inr (.inr ⟨by show (0 : Int) - 0 < w; omega, .inr (by show (0 : Int) - 0 < w.tdiv 3; have := tdiv_one e; omega)⟩))
/-- both ends opening -/
def v1 (d0 i0 h0 d1 i1 h1 : Int) : Vs := ⟨opS d0 i0 h0 d1, opS d1 i1 h1 d0, encB (opn (newS d1 i1 h1 d0)), encB (opn (newS d0 i0 h0 d1)), 0, 0, [], [], [], [], 0⟩
/-- both ends up -/
def v4 (d0 i0 h0 d1 i1 h1 k a0 e0 a1 e1 : Int) : Vs := ⟨upS d0 i0 h0 d1 k a0 e0 (min h0 h1) i1, upS d1 i1 h1 d0 k a1 e1 (min h1 h0) i0, [], [], 1, 1, [], [], [], [], k⟩
def v2 (d0 i0 h0 d1 i1 h1 : Int) : Vs := ⟨cfS d0 i0 h0 d1 (min h0 h1) i1, opS d1 i1 h1 d0, [], encB (opn (newS d0 i0 h0 d1)) ++ encB alv, 0, 0, [], [], [], [], 0⟩
def v3 (d0 i0 h0 d1 i1 h1 : Int) : Vs := ⟨cfS d0 i0 h0 d1 (min h0 h1) i1, upS d1 i1 h1 d0 0 0 0 (min h1 h0) i0, encB alv, [], 0, 1, [], [], [], [], 0⟩
theorem opens {d0 i0 h0 d1 i1 h1 : Int} (h : Hs d0 i0 h0 d1 i1 h1) : all0 (v1 d0 i0 h0 d1 i1 h1) = v2 d0 i0 h0 d1 i1 h1 ∧ both (v1 d0 i0 h0 d1 i1 h1) = v3 d0 i0 h0 d1 i1 h1 ∧ all0 (v3 d0 i0 h0 d1 i1 h1) = v4 d0 i0 h0 d1 i1 h1 0 0 0 0 0 ∧ both (v3 d0 i0 h0 d1 i1 h1) = v4 d0 i0 h0 d1 i1 h1 0 0 0 0 0 := by
  have hw : min h0 h1 = 0 ∨ 3 ≤ min h0 h1 := by have := h.ph0; have := h.ph1; omega
  have hw2 : min h1 h0 = 0 ∨ 3 ≤ min h1 h0 := by have := h.ph0; have := h.ph1; omega
  have E0 : encE (opn (newS d0 i0 h0 d1)) = 0 := enc_opn h.pd0 h.pi0 h.ph0
  have E1 : encE (opn (newS d1 i1 h1 d0)) = 0 := enc_opn h.pd1 h.pi1 h.ph1
  have r1 : recvP (opS d0 i0 h0 d1) (encB (opn (newS d1 i1 h1 d0))) 0 = (cfS d0 i0 h0 d1 (min h0 h1) i1, ⟨encB alv, []⟩) := by
    rw [← sent1, recv_msgs (open_quiet _ _ _ _) (by show ¬ (1 : Int) = 0; decide) ⟨rfl, rfl⟩ (by intro m hm; rw [List.mem_singleton] at hm; subst hm; exact ⟨E1, inm_z⟩) (by rw [sent1]; exact enc_ne E1), hears_cons, if_neg (by show ¬ (1 : Int) = 0; decide)]
    show hearsP (hearP (opS d0 i0 h0 d1) ⟨[], []⟩ (opn (newS d1 i1 h1 d0))).1 (hearP (opS d0 i0 h0 d1) ⟨[], []⟩ (opn (newS d1 i1 h1 d0))).2 [] = _
    rw [hear_open rfl h.ne.symm]
    rfl
  have r2 : recvP (opS d1 i1 h1 d0) (encB (opn (newS d0 i0 h0 d1)) ++ encB alv) 0 = (upS d1 i1 h1 d0 0 0 0 (min h1 h0) i0, ⟨encB alv, [⟨1, i0, min h1 h0, 0, ms0⟩]⟩) := by
    rw [← sent2, recv_msgs (open_quiet _ _ _ _) (by show ¬ (1 : Int) = 0; decide) ⟨rfl, rfl⟩ (by
      intro m hm
      rw [List.mem_cons, List.mem_singleton] at hm
      rcases hm with rfl | rfl
      · exact ⟨E0, inm_z⟩
      · exact ⟨enc_alv, inm_z⟩) (by rw [sent2]; intro e; exact enc_ne E0 (List.append_eq_nil_iff.1 e).1), hears_cons, if_neg (by show ¬ (1 : Int) = 0; decide)]
    show hearsP (hearP (opS d1 i1 h1 d0) ⟨[], []⟩ (opn (newS d0 i0 h0 d1))).1 (hearP (opS d1 i1 h1 d0) ⟨[], []⟩ (opn (newS d0 i0 h0 d1))).2 [alv] = _
    rw [hear_open rfl h.ne, hears_cons, if_neg (by show ¬ (2 : Int) = 0; decide), hear_alive]
    rfl
  have r3 : recvP (cfS d0 i0 h0 d1 (min h0 h1) i1) (encB alv) 0 = (upS d0 i0 h0 d1 0 0 0 (min h0 h1) i1, ⟨[], [⟨1, i1, min h0 h1, 0, ms0⟩]⟩) := by
    rw [← sent1, recv_msgs (conf_quiet hw) (by show ¬ (2 : Int) = 0; decide) ⟨rfl, rfl⟩ (by intro m hm; rw [List.mem_singleton] at hm; subst hm; exact ⟨enc_alv, inm_z⟩) (by rw [sent1]; exact enc_ne enc_alv), hears_cons, if_neg (by show ¬ (2 : Int) = 0; decide)]
    show hearsP (hearP (cfS d0 i0 h0 d1 (min h0 h1) i1) ⟨[], []⟩ alv).1 (hearP (cfS d0 i0 h0 d1 (min h0 h1) i1) ⟨[], []⟩ alv).2 [] = _
    rw [hear_alive]
    rfl
  have r4 : recvP (upS d1 i1 h1 d0 0 0 0 (min h1 h0) i0) [] 0 = (upS d1 i1 h1 d0 0 0 0 (min h1 h0) i0, ⟨[], []⟩) := recv_none (move_quiet (Int.le_refl _) (by
    rcases hw2 with e | e
    · exact .inr (.inl e)
    · exact .inr (.inr ⟨by show (0 : Int) - 0 < min h1 h0; omega, .inr (by show (0 : Int) - 0 < (min h1 h0).tdiv 3; have := tdiv_one e; omega)⟩)))
  have b1 : all0 (v1 d0 i0 h0 d1 i1 h1) = ⟨cfS d0 i0 h0 d1 (min h0 h1) i1, opS d1 i1 h1 d0, [], encB (opn (newS d0 i0 h0 d1)) ++ encB alv, 0, 0, [], [], [], [], 0⟩ := by
    unfold all0 v1
    dsimp only
    rw [r1]
    rfl
  have b2 : both (v1 d0 i0 h0 d1 i1 h1) = ⟨cfS d0 i0 h0 d1 (min h0 h1) i1, upS d1 i1 h1 d0 0 0 0 (min h1 h0) i0, encB alv, [], 0, 1, [], [], [], [], 0⟩ := by
    unfold both
    rw [b1]
    unfold all1
    dsimp only
    rw [r2]
    rfl
  have b3 : all0 (v3 d0 i0 h0 d1 i1 h1) = v4 d0 i0 h0 d1 i1 h1 0 0 0 0 0 := by
    unfold all0 v3
    dsimp only
    rw [r3]
    rfl
  refine ⟨b1, b2, b3, ?_⟩
  unfold both
  rw [b3]
  unfold all1 v4
  dsimp only
  rw [r4]
  rfl
end Go.Proofs.Ytanboekdfdafmaa.Pv
namespace Go.Proofs.Ytanboekdfdafmaa.Pv
open Go.ChangeShapes Go.WideShapes Go.ChangeAt Go.RowKit Go.Joins Go.Deep Go.Proofs.Ytanboekdfdafmaa.PM Go.Proofs.Ytanboekdfdafmaa.Ask Go.Proofs.Ytanboekdfdafmaa.Ge
set_option linter.unusedVariables false
set_option linter.unusedSimpArgs false

/-- nothing is too great, as it is seen -/
structure Bv (v : Vs) : Prop where
  k : -9223372036854775808 ≤ v.k ∧ v.k < 9223372036854775808
  y0 : v.y0.length ≤ 500000
  y1 : v.y1.length ≤ 500000
  o0 : v.o0.length ≤ 1000000000
  o1 : v.o1.length ≤ 1000000000
  u0 : 0 ≤ v.u0 ∧ v.u0 ≤ 1000000000
  u1 : 0 ≤ v.u1 ∧ v.u1 ≤ 1000000000
theorem Bv.bd {t : Tl} (h : Bv (vw t)) : Bd t := by
  have two : ∀ i, i < 2 → i = 0 ∨ i = 1 := fun i hi => by omega
  refine ⟨h.k, fun i hi => ?_, fun i hi => ?_, fun i hi => ?_⟩
  · rcases two i hi with rfl | rfl
    · exact h.y0
    · exact h.y1
  · rcases two i hi with rfl | rfl
    · exact h.o0
    · exact h.o1
  · rcases two i hi with rfl | rfl
    · exact h.u0
    · exact h.u1
/-- what comes to rest in two rounds stays -/
theorem settle_view {t : Tl} {v v' : Vs} (hv : vw t = v) (b0 : Bv v) (b1 : Bv (all0 v)) (b2 : Bv (both v)) (b3 : Bv (all0 (both v))) (hb : both (both v) = v') (ha : all0 v' = v') (hs : both v' = v') (b4 : Bv v') : (∀ i, i < 20 → Bd (bothN i t) ∧ Bd (allP (bothN i t) 0)) ∧ Bd (bothN 20 t) ∧ vw (bothN 20 t) = v' := by
  have h2 : ∀ i, vw (bothN (i + 2) t) = v' := fun i => by
    induction i with
    | zero => show vw (bothP (bothP t)) = v'; rw [vw_both, vw_both, hv]; exact hb
    | succ i ih => show vw (bothP (bothN (i + 2) t)) = v'; rw [vw_both, ih]; exact hs
  have h1 : vw (bothN 1 t) = both v := by show vw (bothP t) = _; rw [vw_both, hv]
  refine ⟨fun i _ => ?_, Bv.bd (by rw [h2 18]; exact b4), h2 18⟩
  match i with
  | 0 => exact ⟨Bv.bd (by show Bv (vw t); rw [hv]; exact b0), Bv.bd (by show Bv (vw (allP t 0)); rw [vw_all0, hv]; exact b1)⟩
  | 1 => exact ⟨Bv.bd (by rw [h1]; exact b2), Bv.bd (by rw [vw_all0, h1]; exact b3)⟩
  | n + 2 => exact ⟨Bv.bd (by rw [h2 n]; exact b4), Bv.bd (by rw [vw_all0, h2 n, ha]; exact b4)⟩
theorem v4_bv {d0 i0 h0 d1 i1 h1 k a0 e0 a1 e1 : Int} (hk : 0 ≤ k ∧ k ≤ 1000000000) : Bv (v4 d0 i0 h0 d1 i1 h1 k a0 e0 a1 e1) := ⟨by show _ ≤ k ∧ k < _; omega, Nat.zero_le _, Nat.zero_le _, Nat.zero_le _, Nat.zero_le _, by show (0 : Int) ≤ 1 ∧ (1 : Int) ≤ _; decide, by show (0 : Int) ≤ 1 ∧ (1 : Int) ≤ _; decide⟩
/-- an end that has nothing to do at its clock -/
def Qt (w k a e : Int) : Prop := w = 0 ∨ (k - a < w ∧ k - e < w.tdiv 3)
theorem up_quiet {d i h p k a e w o : Int} (hq : Qt w k a e) : moveP (upS d i h p k a e w o) k = (upS d i h p k a e w o, ⟨[], []⟩) := move_quiet (Int.le_refl _) (by
  rcases hq with h | h
  · exact .inr (.inl h)
  · exact .inr (.inr ⟨h.1, .inr h.2⟩))
theorem v4_rest {d0 i0 h0 d1 i1 h1 k a0 e0 a1 e1 : Int} (q0 : Qt (min h0 h1) k a0 e0) (q1 : Qt (min h1 h0) k a1 e1) : all0 (v4 d0 i0 h0 d1 i1 h1 k a0 e0 a1 e1) = v4 d0 i0 h0 d1 i1 h1 k a0 e0 a1 e1 ∧ both (v4 d0 i0 h0 d1 i1 h1 k a0 e0 a1 e1) = v4 d0 i0 h0 d1 i1 h1 k a0 e0 a1 e1 := by
  have r0 : recvP (upS d0 i0 h0 d1 k a0 e0 (min h0 h1) i1) [] k = (upS d0 i0 h0 d1 k a0 e0 (min h0 h1) i1, ⟨[], []⟩) := recv_none (up_quiet q0)
  have r1 : recvP (upS d1 i1 h1 d0 k a1 e1 (min h1 h0) i0) [] k = (upS d1 i1 h1 d0 k a1 e1 (min h1 h0) i0, ⟨[], []⟩) := recv_none (up_quiet q1)
  have b0 : all0 (v4 d0 i0 h0 d1 i1 h1 k a0 e0 a1 e1) = v4 d0 i0 h0 d1 i1 h1 k a0 e0 a1 e1 := by
    unfold all0 v4
    dsimp only
    rw [r0]
    rfl
  refine ⟨b0, ?_⟩
  unfold both
  rw [b0]
  unfold all1 v4
  dsimp only
  rw [r1]
  rfl
/-- the handshake in the talk -/
theorem opens_bd {d0 i0 h0 d1 i1 h1 : Int} (h : Hs d0 i0 h0 d1 i1 h1) {t : Tl} (hv : vw t = v1 d0 i0 h0 d1 i1 h1) : (∀ i, i < 20 → Bd (bothN i t) ∧ Bd (allP (bothN i t) 0)) ∧ Bd (bothN 20 t) ∧ vw (bothN 20 t) = v4 d0 i0 h0 d1 i1 h1 0 0 0 0 0 := by
  obtain ⟨o1, o2, o3, o4⟩ := opens h
  have hw : Qt (min h0 h1) 0 0 0 := by
    by_cases e : min h0 h1 = 0
    · exact .inl e
    · have e2 : 3 ≤ min h0 h1 := by have := h.ph0; have := h.ph1; omega
      exact .inr ⟨by omega, by have := tdiv_one e2; omega⟩
  have hw2 : Qt (min h1 h0) 0 0 0 := by rw [Int.min_comm]; exact hw
  obtain ⟨r0, r1⟩ := v4_rest (d0 := d0) (i0 := i0) (d1 := d1) (i1 := i1) hw hw2
  have kz : -9223372036854775808 ≤ (0 : Int) ∧ (0 : Int) < 9223372036854775808 := by decide
  have u0 : (0 : Int) ≤ 0 ∧ (0 : Int) ≤ 1000000000 := by decide
  have u1 : (0 : Int) ≤ 1 ∧ (1 : Int) ≤ 1000000000 := by decide
  have L : ∀ m, (encB m).length ≤ 500000 := fun m => Nat.le_trans enc_most (by decide)
  refine settle_view hv ⟨kz, L _, L _, Nat.zero_le _, Nat.zero_le _, u0, u0⟩ ?_ ?_ ?_ (by rw [o2, o4]) r0 r1 (v4_bv (by decide))
  · rw [o1]
    refine ⟨kz, Nat.zero_le _, ?_, Nat.zero_le _, Nat.zero_le _, u0, u0⟩
    show (encB _ ++ encB _).length ≤ _
    rw [List.length_append]
    have := @enc_most (opn (newS d0 i0 h0 d1))
    have := @enc_most alv
    omega
  · rw [o2]
    exact ⟨kz, L alv, Nat.zero_le _, Nat.zero_le _, Nat.zero_le _, u0, u1⟩
  · rw [o2, o3]
    exact v4_bv (by decide)
/-- is an alive due? -/
def Du (w k e : Int) : Prop := w ≠ 0 ∧ w.tdiv 3 ≤ k - e
instance (w k e : Int) : Decidable (Du w k e) := by unfold Du; exact inferInstance
theorem up_tick {d i h p k a e w o k' : Int} (hk : k ≤ k') (ha : w = 0 ∨ k' - a < w) : moveP (upS d i h p k a e w o) k' = (upS d i h p k' a (if Du w k' e then k' else e) w o, ⟨if Du w k' e then encB alv else [], []⟩) := by
  have hc : clk (upS d i h p k a e w o) k' = upS d i h p k' a e w o := by
    have : max k k' = k' := by omega
    show (⟨d, i, h, p, max k k', 3, a, e, w, o, [], 0⟩ : Se) = _
    rw [this]
    rfl
  unfold moveP
  rw [hc]
  unfold dueP
  show (if (3 : Int) = 0 ∨ w = 0 then _ else if w ≤ k' - a then _ else if (3 : Int) ≠ 1 ∧ w.tdiv 3 ≤ k' - e then _ else _) = _
  by_cases hw : w = 0
  · rw [if_pos (Or.inr hw), if_neg (fun c => c.1 hw), if_neg (fun c => c.1 hw)]
  · have ha2 : k' - a < w := ha.resolve_left hw
    rw [if_neg (by rintro (e1 | e1); exact absurd e1 (by decide); exact hw e1), if_neg (Int.not_le.2 ha2)]
    by_cases hd : w.tdiv 3 ≤ k' - e
    · rw [if_pos ⟨by decide, hd⟩, if_pos ⟨hw, hd⟩, if_pos ⟨hw, hd⟩]
      unfold sendP
      rw [if_pos enc_alv]
      rfl
    · rw [if_neg (fun c => hd c.2), if_neg (fun c => hd c.2), if_neg (fun c => hd c.2)]
theorem up_recv {d i h p k a e w o : Int} (hq : Qt w k a e) (D : Prop) [Decidable D] : recvP (upS d i h p k a e w o) (if D then encB alv else []) k = (upS d i h p k (if D then k else a) e w o, ⟨[], []⟩) := by
  by_cases hD : D
  · rw [if_pos hD, if_pos hD, ← sent1, recv_msgs (up_quiet hq) (by show ¬ (3 : Int) = 0; decide) ⟨rfl, rfl⟩ (by intro m hm; rw [List.mem_singleton] at hm; subst hm; exact ⟨enc_alv, inm_z⟩) (by rw [sent1]; exact enc_ne enc_alv), hears_cons, if_neg (by show ¬ (3 : Int) = 0; decide)]
    unfold hearP
    rw [if_neg (by show ¬ (3 : Int) = 4; decide), if_neg (fun c => absurd c.1 (by show ¬ (3 : Int) = 1; decide)), if_neg (fun c => absurd c.1 (by show ¬ (3 : Int) = 2; decide)), if_neg (fun c => absurd c.2 (by show ¬ (3 : Int) = 2; decide)), if_pos ⟨rfl, rfl⟩]
    rfl
  · rw [if_neg hD, if_neg hD]
    exact recv_none (up_quiet hq)
def tk0 (v : Vs) : Vs := out0 { v with s0 := (moveP v.s0 v.k).1 } (moveP v.s0 v.k).2
def tk1 (v : Vs) : Vs := out1 { v with s1 := (moveP v.s1 v.k).1 } (moveP v.s1 v.k).2
/-- how long both have waited -/
structure Iv (w k a0 e0 a1 e1 : Int) : Prop where
  z : 0 ≤ e0 ∧ 0 ≤ e1 ∧ e0 ≤ k ∧ e1 ≤ k ∧ a0 ≤ k ∧ a1 ≤ k ∧ e1 ≤ a0 ∧ e0 ≤ a1
  q : w = 0 ∨ (3 ≤ w ∧ k - e0 < w.tdiv 3 ∧ k - e1 < w.tdiv 3)
/-- a tick of both, and all comes -/
theorem lives {d0 i0 h0 d1 i1 h1 k a0 e0 a1 e1 k' : Int} (hv : Iv (min h0 h1) k a0 e0 a1 e1) (hk : k ≤ k') (hn : min h0 h1 = 0 ∨ k' - k ≤ (min h0 h1).tdiv 3) (hk9 : 0 ≤ k' ∧ k' ≤ 1000000000) {t : Tl} (ht : vw t = tk1 (tk0 { v4 d0 i0 h0 d1 i1 h1 k a0 e0 a1 e1 with k := k' })) :
    ∃ b0 f0 b1 f1, Iv (min h0 h1) k' b0 f0 b1 f1 ∧ (∀ i, i < 20 → Bd (bothN i t) ∧ Bd (allP (bothN i t) 0)) ∧ Bd (bothN 20 t) ∧ vw (bothN 20 t) = v4 d0 i0 h0 d1 i1 h1 k' b0 f0 b1 f1 := by
  have hm : min h1 h0 = min h0 h1 := Int.min_comm _ _
  obtain ⟨w, hw⟩ : ∃ y, min h0 h1 = y := ⟨_, rfl⟩
  rw [hw] at hv hn hm
  obtain ⟨z1, z2, z3, z4, z5, z6, z7, z8⟩ := hv.z
  obtain ⟨g, hg⟩ : ∃ y, w.tdiv 3 = y := ⟨_, rfl⟩
  have hg3 : w = 0 ∨ (3 ≤ w ∧ 1 ≤ g ∧ 3 * g ≤ w) := by
    rcases hv.q with e | e
    · exact .inl e
    · refine .inr ⟨e.1, ?_⟩
      rw [← hg, Int.tdiv_eq_ediv_of_nonneg (by omega)]
      omega
  have hq := hv.q
  rw [hg] at hn hq
  have t0 : w = 0 ∨ k' - a0 < w := by omega
  have t1 : w = 0 ∨ k' - a1 < w := by omega
  have Q0 : ∀ b, a0 ≤ b → Qt w k' b (if Du w k' e0 then k' else e0) := fun b hb => by
    rcases hg3 with e | e
    · exact .inl e
    · refine .inr ⟨by omega, ?_⟩
      rw [hg]
      split
      · omega
      · rename_i hd
        have : ¬ w.tdiv 3 ≤ k' - e0 := fun c => hd ⟨by omega, c⟩
        omega
  have Q1 : ∀ b, a1 ≤ b → Qt w k' b (if Du w k' e1 then k' else e1) := fun b hb => by
    rcases hg3 with e | e
    · exact .inl e
    · refine .inr ⟨by omega, ?_⟩
      rw [hg]
      split
      · omega
      · rename_i hd
        have : ¬ w.tdiv 3 ≤ k' - e1 := fun c => hd ⟨by omega, c⟩
        omega
  have la0 : a0 ≤ (if Du w k' e1 then k' else a0) := by split <;> omega
  have la1 : a1 ≤ (if Du w k' e0 then k' else a1) := by split <;> omega
  have hV : tk1 (tk0 { v4 d0 i0 h0 d1 i1 h1 k a0 e0 a1 e1 with k := k' }) = ⟨upS d0 i0 h0 d1 k' a0 (if Du w k' e0 then k' else e0) w i1, upS d1 i1 h1 d0 k' a1 (if Du w k' e1 then k' else e1) w i0, if Du w k' e1 then encB alv else [], if Du w k' e0 then encB alv else [], 1, 1, [], [], [], [], k'⟩ := by
    unfold tk0 v4
    dsimp only
    rw [hw, hm, up_tick hk t0]
    unfold tk1 out0
    dsimp only
    rw [up_tick hk t1]
    rfl
  have hA : all0 ⟨upS d0 i0 h0 d1 k' a0 (if Du w k' e0 then k' else e0) w i1, upS d1 i1 h1 d0 k' a1 (if Du w k' e1 then k' else e1) w i0, if Du w k' e1 then encB alv else [], if Du w k' e0 then encB alv else [], 1, 1, [], [], [], [], k'⟩ = ⟨upS d0 i0 h0 d1 k' (if Du w k' e1 then k' else a0) (if Du w k' e0 then k' else e0) w i1, upS d1 i1 h1 d0 k' a1 (if Du w k' e1 then k' else e1) w i0, [], if Du w k' e0 then encB alv else [], 1, 1, [], [], [], [], k'⟩ := by
    unfold all0
    dsimp only
    rw [up_recv (Q0 a0 (Int.le_refl _))]
    unfold out0
    dsimp only
    rw [List.append_nil]
    rfl
  have hB : both ⟨upS d0 i0 h0 d1 k' a0 (if Du w k' e0 then k' else e0) w i1, upS d1 i1 h1 d0 k' a1 (if Du w k' e1 then k' else e1) w i0, if Du w k' e1 then encB alv else [], if Du w k' e0 then encB alv else [], 1, 1, [], [], [], [], k'⟩ = v4 d0 i0 h0 d1 i1 h1 k' (if Du w k' e1 then k' else a0) (if Du w k' e0 then k' else e0) (if Du w k' e0 then k' else a1) (if Du w k' e1 then k' else e1) := by
    unfold both
    rw [hA]
    unfold all1
    dsimp only
    rw [up_recv (Q1 a1 (Int.le_refl _))]
    unfold out1 v4
    dsimp only
    rw [hw, hm]
    rfl
  have hR := v4_rest (d0 := d0) (i0 := i0) (h0 := h0) (d1 := d1) (i1 := i1) (h1 := h1) (k := k') (a0 := if Du w k' e1 then k' else a0) (e0 := if Du w k' e0 then k' else e0) (a1 := if Du w k' e0 then k' else a1) (e1 := if Du w k' e1 then k' else e1) (by rw [hw]; exact Q0 _ la0) (by rw [hm]; exact Q1 _ la1)
  have L : ∀ (D : Prop) [Decidable D], (if D then encB alv else []).length ≤ 500000 := fun D _ => by
    split
    · have := @enc_most alv; omega
    · exact Nat.zero_le _
  have kz : -9223372036854775808 ≤ k' ∧ k' < 9223372036854775808 := by omega
  have u1 : (0 : Int) ≤ 1 ∧ (1 : Int) ≤ 1000000000 := by decide
  have hB4 := v4_bv (d0 := d0) (i0 := i0) (h0 := h0) (d1 := d1) (i1 := i1) (h1 := h1) (k := k') (a0 := if Du w k' e1 then k' else a0) (e0 := if Du w k' e0 then k' else e0) (a1 := if Du w k' e0 then k' else a1) (e1 := if Du w k' e1 then k' else e1) hk9
  rw [hw]
  refine ⟨if Du w k' e1 then k' else a0, if Du w k' e0 then k' else e0, if Du w k' e0 then k' else a1, if Du w k' e1 then k' else e1, ⟨?_, ?_⟩, settle_view (ht.trans hV) ⟨kz, L _, L _, Nat.zero_le _, Nat.zero_le _, u1, u1⟩ (by rw [hA]; exact ⟨kz, Nat.zero_le _, L _, Nat.zero_le _, Nat.zero_le _, u1, u1⟩) (by rw [hB]; exact hB4) (by rw [hB, hR.1]; exact hB4) (by rw [hB]; exact hR.2) hR.1 hR.2 hB4⟩
  · by_cases D0 : Du w k' e0 <;> by_cases D1 : Du w k' e1 <;> simp only [D0, D1, if_true, if_false] <;> omega
  · rcases hg3 with e | e
    · exact .inl e
    · refine .inr ⟨e.1, ?_, ?_⟩
      · rcases Q0 a0 (Int.le_refl _) with c | c
        · omega
        · exact c.2
      · rcases Q1 a1 (Int.le_refl _) with c | c
        · omega
        · exact c.2
end Go.Proofs.Ytanboekdfdafmaa.Pv
