/- Sessions: what is sent, what is told. -/
import Derived.Test.YtanboekdfdafmaaMgF
import Derived.StillTailTactics
namespace Go.Proofs.Ytanboekdfdafmaa.Pv
open Go.ChangeShapes Go.WideShapes Go.ChangeAt Go.RowKit Go.Joins Go.Deep Go.Proofs.Ytanboekdfdafmaa.PM Go.Proofs.Ytanboekdfdafmaa.Ask Go.Proofs.Ytanboekdfdafmaa.Ge
set_option linter.unusedVariables false
set_option linter.unusedSimpArgs false

set_option maxRecDepth 100000 in
theorem idle_any (b : Nat) (z : Int) (r : Bool) (w : World) (h : w.cell? ⟨b, 5, none⟩ = some (.int .i64 z)) (hr : decide (z = 0) = r) :
    Calls Try.prog 20 #[.pointer (some ⟨b, 0, none⟩)] w fun e w' => e = .returned (.bool r) ∧ w' = w := by
  subst hr
  go_enter Try.func20, Try.ntmps20
  go_wp2_with fail
  go_ret
  exact ⟨congrArg (fun b => Ending.returned (Value.bool b)) (Bool.eq_iff_iff.2 (by simp : ((z == 0) = true ↔ decide (z = 0) = true))), rfl⟩
/-- an event more in the list -/
theorem Out.told {M : Nat} {w5 w6 w7 w8 : World} {bo : Nat} {o : Ou} {vb ve v : Value} {l : List (Ev × Sl)} {e : Ev} {s : Sl} (h : Out M w5 bo o vb ve l) (hmo : MO M w5 e.m s) (hap : ∀ g, Mown s g → ¬ fpO bo vb ve l g) (h6 : Below w5.heap.size w5 w6) (ho : Gm.OwnL E21 M w7 v (l ++ [(e, s)])) (hg : w6.grownBy w7 ve.ownBlock) (hv : v.ownBlock = ve.ownBlock ∨ ∃ k, w5.heap.size ≤ k ∧ v.ownBlock = some k)
    (hk : Ko w7 bo w8) (hb : SB OutK bo [vb, v] w8) : Out M w8 bo (tellP o e) vb v (l ++ [(e, s)]) ∧ Kf w5 w8 (fpO bo vb ve l) (fun g => fpO bo vb v (l ++ [(e, s)]) g ∧ ¬ Mown s g) ∧ (∀ g, fpO bo vb v (l ++ [(e, s)]) g → fpO bo vb ve l g ∨ w5.heap.size ≤ g ∨ Mown s g) := by
  have hbl : ∀ g, g < w5.heap.size → g ≠ bo → ¬ ve.ownBlock = some g → w8.heap[g]? = w5.heap[g]? := fun g h1 h0 h2 => ((hk.block g h0).trans (hg.block g (Nat.lt_of_lt_of_le h1 h6.size) (fun e => h2 e.symm))).trans (h6.block g h1)
  have hne : ∀ p ∈ l ++ [(e, s)], ∀ g, Mown p.2 g → g < w5.heap.size ∧ g ≠ bo ∧ ¬ ve.ownBlock = some g ∧ ¬ vb.ownBlock = some g := fun p hp g hm => by
    rw [List.mem_append, List.mem_singleton] at hp
    rcases hp with hp | rfl
    · exact ⟨((h.ev.each p hp).rng g hm).2, fun e2 => h.a3 p hp (e2 ▸ hm), h.ev.ap p hp g hm, fun e2 => (h.a1 g e2).2.2 p hp hm⟩
    · have := hap g hm
      exact ⟨(hmo.rng g hm).2, fun e2 => this (.inl e2), fun e2 => this (.inr (.inr (.inl e2))), fun e2 => this (.inr (.inl e2))⟩
  have hvn : ∀ g, v.ownBlock = some g → ve.ownBlock = some g ∨ w5.heap.size ≤ g := fun g e2 => by
    rcases hv with hv | ⟨k, hk2, hv⟩
    · exact .inl (hv ▸ e2)
    · rw [hv] at e2; cases e2; exact .inr hk2
  have hvb : v.ownBlock ≠ some bo := fun e2 => by
    rcases hvn bo e2 with e3 | e3
    · exact h.a2 bo e3 rfl
    · have := h.box.lt; omega
  have hfp : ∀ g, fpO bo vb v (l ++ [(e, s)]) g → fpO bo vb ve l g ∨ w5.heap.size ≤ g ∨ Mown s g := fun g hg2 => by
    rcases hg2 with e2 | e2 | e2 | ⟨p, hp, hm⟩
    · exact .inl (.inl e2)
    · exact .inl (.inr (.inl e2))
    · rcases hvn g e2 with e3 | e3
      · exact .inl (.inr (.inr (.inl e3)))
      · exact .inr (.inl e3)
    · rw [List.mem_append, List.mem_singleton] at hp
      rcases hp with hp | rfl
      · exact .inl (.inr (.inr (.inr ⟨p, hp, hm⟩)))
      · exact .inr (.inr hm)
  refine ⟨⟨hb, h.bys.blk (fun g e2 => hbl g (h.bys.row.lt g e2).2 (h.a1 g e2).1 (h.a1 g e2).2.1), ⟨ho.blk (fun g e2 => hk.block g (fun e3 => hvb (e3 ▸ e2))), fun p hp => ?_, fun p hp g hm e2 => ?_, ?_⟩, by rw [List.map_append, h.eq]; rfl, h.lo, fun g e2 => ?_, fun g e2 e3 => hvb (e3 ▸ e2), fun p hp hm => (hne p hp bo hm).2.1 rfl⟩, ⟨?_, fun g h1 h2 => hbl g h1 (fun e2 => h2 (.inl e2)) (fun e2 => h2 (.inr (.inr (.inl e2)))), fun g hg2 => ?_⟩, hfp⟩
  · have hmo2 : MO M w5 p.1.m p.2 := by
      rw [List.mem_append, List.mem_singleton] at hp
      rcases hp with hp | rfl
      · exact h.ev.each p hp
      · exact hmo
    exact hmo2.blk (fun g hm _ hl => hbl g hl (hne p hp g hm).2.1 (hne p hp g hm).2.2.1)
  · rcases hvn g e2 with e3 | e3
    · exact (hne p hp g hm).2.2.1 e3
    · have := (hne p hp g hm).1; omega
  · refine List.pairwise_append.2 ⟨h.ev.pw, List.pairwise_singleton _ _, fun p hp q hq g h1 h2 => ?_⟩
    rw [List.mem_singleton] at hq
    subst hq
    exact hap g h2 (.inr (.inr (.inr ⟨p, hp, h1⟩)))
  · refine ⟨(h.a1 g e2).1, fun e3 => ?_, fun p hp hm => (hne p hp g hm).2.2.2 e2⟩
    rcases hvn g e3 with e4 | e4
    · exact (h.a1 g e2).2.1 e4
    · have := (h.bys.row.lt g e2).2; omega
  · exact ((h6.mono (Nat.zero_le _)).trans ⟨hg.os, hg.tape, hg.output, hg.size, fun g hg2 => absurd hg2 (by omega)⟩).trans hk.str
  · rcases hfp g hg2.1 with e2 | e2 | e2
    · exact .inl e2
    · exact .inr e2
    · exact absurd e2 hg2.2
theorem SO.told {M : Nat} {w X0 X3 : World} {b bo : Nat} {s : Se} {o : Ou} {F : Nat → Prop} {e : Ev} {sl : Sl} {st : Sp} {vb ve v : Value} {l : List (Ev × Sl)} (H1 : Ses w b s st) (H3 : ∀ g, fpS b st g → ¬ fpO bo vb ve l g) (H4 : ∀ g, F g ↔ fpS b st g ∨ fpO bo vb ve l g) (HBL : Below w.heap.size w X0) (HAP : ∀ g, Mown sl g → ¬ F g) (hT1 : Out M X3 bo (tellP o e) vb v (l ++ [(e, sl)])) (hT2 : Kf X0 X3 (fpO bo vb ve l) (fun g => fpO bo vb v (l ++ [(e, sl)]) g ∧ ¬ Mown sl g)) (hT3 : ∀ g, fpO bo vb v (l ++ [(e, sl)]) g → fpO bo vb ve l g ∨ X0.heap.size ≤ g ∨ Mown sl g) : ∃ F', SO M X3 b s bo (tellP o e) F' ∧ Kf w X3 F (fun g => F' g ∧ ¬ Mown sl g) ∧ (∀ g, F' g → F g ∨ w.heap.size ≤ g ∨ Mown sl g) := by
  have hs := HBL.size
  have h3 : ∀ g, (fpS b st g ∨ fpO bo vb v (l ++ [(e, sl)]) g) → F g ∨ w.heap.size ≤ g ∨ Mown sl g := fun g hg => by
    rcases hg with hg | hg
    · exact .inl ((H4 g).2 (.inl hg))
    · rcases hT3 g hg with e2 | e2 | e2
      · exact .inl ((H4 g).2 (.inr e2))
      · exact .inr (.inl (by omega))
      · exact .inr (.inr e2)
  refine ⟨fun g => fpS b st g ∨ fpO bo vb v (l ++ [(e, sl)]) g, ⟨st, vb, v, _, H1.blk (fun g hg hl => (hT2.blk g (by omega) (H3 g hg)).trans (HBL.block g hl)), hT1, fun g hg ho => ?_, fun g => Iff.rfl⟩, ⟨(HBL.mono (Nat.zero_le _)).trans hT2.str, fun g hg hf => (hT2.blk g (by omega) (fun h => hf ((H4 g).2 (.inr h)))).trans (HBL.block g hg), fun g hg => ?_⟩, h3⟩
  · rcases hT3 g ho with e2 | e2 | e2
    · exact H3 g hg e2
    · have := H1.lt g hg; omega
    · exact HAP g e2 ((H4 g).2 (.inl hg))
  · rcases h3 g hg.1 with e2 | e2 | e2
    · exact .inl e2
    · exact .inr e2
    · exact absurd e2 hg.2
/-- something is sent -/
theorem SO.sent {M : Nat} {w w6 w7 w8 w9 : World} {b bo : Nat} {s : Se} {o : Ou} {F : Nat → Prop} {bs : List Nat} {st : Sp} {vb ve v : Value} {l : List (Ev × Sl)} (H1 : Ses w b s st) (H2 : Out M w bo o vb ve l) (H3 : ∀ g, fpS b st g → ¬ fpO bo vb ve l g) (H4 : ∀ g, F g ↔ fpS b st g ∨ fpO bo vb ve l g) (hb : Below w.heap.size w w6) (ho : OwnL E8 M w7 v (o.b ++ bs)) (hg : w6.grownBy w7 vb.ownBlock) (hv : v.ownBlock = vb.ownBlock ∨ ∃ k, w.heap.size ≤ k ∧ v.ownBlock = some k)
    (hk8 : Ko w7 bo w8) (hb8 : SB OutK bo [v, ve] w8) (hk9 : Ko w8 b w9) (hb9 : SB SsK b (ssL { s with sent := s.clock } (st.map (·.1))) w9) : ∃ F', SO M w9 b { s with sent := s.clock } bo { o with b := o.b ++ bs } F' ∧ Kf w w9 F F' := by
  have hbl : ∀ g, g < w.heap.size → g ≠ b → g ≠ bo → ¬ vb.ownBlock = some g → w9.heap[g]? = w.heap[g]? := fun g h1 h2 h3 h4 => (((hk9.block g h2).trans (hk8.block g h3)).trans (hg.block g (Nat.lt_of_lt_of_le h1 hb.size) (fun e => h4 e.symm))).trans (hb.block g h1)
  have hvn : ∀ g, v.ownBlock = some g → vb.ownBlock = some g ∨ w.heap.size ≤ g := fun g e => by
    rcases hv with hv | ⟨k, hk, hv⟩
    · exact .inl (hv ▸ e)
    · rw [hv] at e; cases e; exact .inr hk
  have hS : ∀ g, fpS b st g → g ≠ bo ∧ ¬ vb.ownBlock = some g := fun g hg2 => ⟨fun e => H3 g hg2 (.inl e), fun e => H3 g hg2 (.inr (.inl e))⟩
  have hbb : bo ≠ b := fun e => (hS b (.inl rfl)).1 e.symm
  have hO : ∀ g, fpO bo vb ve l g → g ≠ b := fun g hg2 e => H3 g (.inl e) hg2
  have lo1 := H1.box.lt
  have lo2 := H2.box.lt
  have hvb : ∀ g, v.ownBlock = some g → g ≠ bo ∧ g ≠ b := fun g e => by
    rcases hvn g e with e2 | e2
    · exact ⟨(H2.a1 g e2).1, hO g (.inr (.inl e2))⟩
    · exact ⟨by omega, by omega⟩
  have hfp : ∀ g, fpO bo v ve l g → fpO bo vb ve l g ∨ w.heap.size ≤ g := fun g hg2 => by
    rcases hg2 with e | e | e | e
    · exact .inl (.inl e)
    · rcases hvn g e with e2 | e2
      · exact .inl (.inr (.inl e2))
      · exact .inr e2
    · exact .inl (.inr (.inr (.inl e)))
    · exact .inl (.inr (.inr (.inr e)))
  refine ⟨fun g => fpS b st g ∨ fpO bo v ve l g, ⟨st, v, ve, l, ⟨hb9, fun p e => ?_, H1.idl, ?_, H1.wt, H1.ok⟩, ⟨hb8.blk (hk9.block bo hbb), ho.blk (fun g e => (hk9.block g (hvb g e).2).trans (hk8.block g (hvb g e).1)), H2.ev.blk (fun g e hl => ?_), H2.eq, H2.lo, fun g e => ?_, H2.a2, H2.a3⟩, fun g hg2 ho2 => ?_, fun g => Iff.rfl⟩, ⟨?_, fun g h1 h2 => ?_, fun g hg2 => ?_⟩⟩
  · obtain ⟨h1, h2, h3⟩ := H1.str p e
    have k1 := hS p.1 (.inr ⟨p, e, .inl rfl⟩)
    refine ⟨h1.blk (hbl _ h1.hl h2 k1.1 k1.2) (fun g e2 _ hl => ?_), h2, h3⟩
    have k2 := hS g (.inr ⟨p, e, .inr e2⟩)
    exact hbl g hl (fun e3 => h3 (e3 ▸ e2)) k2.1 k2.2
  · obtain ⟨r1, r2, r3, r4, r5⟩ := H1.rg
    refine ⟨r1, r2, ?_, ?_, r5⟩
    · show 0 ≤ s.clock; omega
    · show s.clock ≤ s.clock; omega
  · have hf : fpO bo vb ve l g := .inr (.inr e)
    refine hbl g hl (hO g hf) ?_ ?_
    · rcases e with e | ⟨p, hp, hm⟩
      · exact H2.a2 g e
      · exact fun e2 => H2.a3 p hp (e2 ▸ hm)
    · intro e2
      rcases e with e | ⟨p, hp, hm⟩
      · exact (H2.a1 g e2).2.1 e
      · exact (H2.a1 g e2).2.2 p hp hm
  · refine ⟨(hvb g e).1, fun e2 => ?_, fun p hp hm => ?_⟩
    · rcases hvn g e with e3 | e3
      · exact (H2.a1 g e3).2.1 e2
      · have := (H2.ev.own.row.lt g e2).2; omega
    · rcases hvn g e with e3 | e3
      · exact (H2.a1 g e3).2.2 p hp hm
      · have := ((H2.ev.each p hp).rng g hm).2; omega
  · rcases hfp g ho2 with e | e
    · exact H3 g hg2 e
    · have := H1.lt g hg2; omega
  · exact (((hb.mono (Nat.zero_le _)).trans ⟨hg.os, hg.tape, hg.output, hg.size, fun g hg2 => absurd hg2 (by omega)⟩).trans hk8.str).trans hk9.str
  · refine hbl g h1 (fun e => h2 ((H4 g).2 (.inl (.inl e)))) (fun e => h2 ((H4 g).2 (.inr (.inl e)))) (fun e => h2 ((H4 g).2 (.inr (.inr (.inl e)))))
  · rcases hg2 with hg2 | hg2
    · exact .inl ((H4 g).2 (.inl hg2))
    · rcases hfp g hg2 with e | e
      · exact .inl ((H4 g).2 (.inr e))
      · exact .inr e
theorem enc_most {m : Ms} : (encB m).length ≤ 1024 := by
  unfold encB
  split
  · rename_i h
    unfold encE at h
    split at h
    · split at h
      · cases h
      · split at h
        · cases h
        · rw [frame_len]; omega
    · contradiction
  · simp
theorem own_none (g : Nat) : ¬ Mown sZ g := fun h => by
  rcases h with h | h | h
  · cases h
  · cases h
  · rcases h with h | h | h <;> cases h
/-- the end -/
theorem SO.idle {M : Nat} {w w2 : World} {b bo : Nat} {s : Se} {o : Ou} {F : Nat → Prop} (h : SO M w b s bo o F) (hk : Ko w b w2) (hb : SB SsK b (ssL (idleP s) none) w2) : ∃ F', SO M w2 b (idleP s) bo o F' ∧ Kf w w2 F F' := by
  obtain ⟨st, vb, ve, l, h1, h2, h3, h4⟩ := h
  have hle : ∀ g, fpS b none g → fpS b st g := fun g hg => by
    rcases hg with e | ⟨p, e, -⟩
    · exact .inl e
    · cases e
  refine ⟨fun g => fpS b none g ∨ fpO bo vb ve l g, ⟨none, vb, ve, l, ⟨hb, (fun p e => by cases e), ⟨fun _ => rfl, fun _ => rfl⟩, ?_, ⟨⟨by show _ ≤ (0 : Int); decide, by show (0 : Int) < _; decide⟩, h1.wt.2⟩, fun _ => sok_nil, Nat.zero_le _⟩, h2.blk (fun g hg _ => hk.block g (fun e => h3 b (.inl rfl) (e ▸ hg))), fun g hg => h3 g (hle g hg), fun g => Iff.rfl⟩, ⟨hk.str, fun g _ hf => hk.block g (fun e => hf ((h4 g).2 (.inl (.inl e)))), fun g hg => .inl ((h4 g).2 (hg.imp (hle g) id))⟩⟩
  obtain ⟨r1, r2, r3, r4, r5⟩ := h1.rg
  exact ⟨Int.le_refl _, by show 0 ≤ s.clock; omega, Int.le_refl _, by show 0 ≤ s.clock; omega, r5⟩
theorem SO.cells {M : Nat} {w : World} {b bo : Nat} {s : Se} {o : Ou} {F : Nat → Prop} (h : SO M w b s bo o F) : ∃ p, SB SsK b (ssL s p) w := by
  obtain ⟨st, vb, ve, l, h1, h2, h3, h4⟩ := h
  exact ⟨_, h1.box⟩
theorem end1_ev (s : Se) (o : Ou) (c : Int) : (end1 s o c).2.ev = o.ev ∧ (end1 s o c).1.state = s.state ∧ (end1 s o c).2.b.length ≤ o.b.length + 1024 := by
  unfold end1 sendP
  split
  · exact ⟨rfl, rfl, Nat.le_add_right _ _⟩
  · split
    · refine ⟨rfl, rfl, ?_⟩
      rw [List.length_append]
      have := @enc_most (ntc c)
      omega
    · exact ⟨rfl, rfl, Nat.le_add_right _ _⟩
theorem mok_zero (w : World) (m : Ms) (hl : m.lost = []) (hh : m.hv = []) (hr : m.rt = rtZ) : MOk w m sZ := (mo_zero 0 w m hl hh hr).ok
/-! the walks -/
set_option maxRecDepth 100000 in
set_option maxHeartbeats 8000000 in
theorem tell_any (M b bo : Nat) (s : Se) (o : Ou) (F : Nat → Prop) (e : Ev) (sl : Sl) (w : World) (h : SO M w b s bo o F) (hM : M ≤ w.heap.size) (hmo : MO M w e.m sl) (hap : ∀ g, Mown sl g → ¬ F g) (hlen : o.ev.length ≤ 100000000) :
    Calls Try.prog 33 #[.pointer (some ⟨bo, 0, none⟩), .agg (evL e sl).toArray] w fun en w' => (∃ u, en = .returned u) ∧ ∃ F', SO M w' b s bo (tellP o e) F' ∧ Kf w w' F (fun g => F' g ∧ ¬ Mown sl g) ∧ (∀ g, F' g → F g ∨ w.heap.size ≤ g ∨ Mown sl g) := by
  obtain ⟨st, vb, ve, l, h1, h2, h3, h4⟩ := h
  have H1 : Hid (Ses w b s st) := h1
  have H2 : Hid (Out M w bo o vb ve l) := h2
  have H3 : Hid (∀ g, fpS b st g → ¬ fpO bo vb ve l g) := h3
  have H4 : Hid (∀ g, F g ↔ fpS b st g ∨ fpO bo vb ve l g) := h4
  have HMO : Hid (MO M w e.m sl) := hmo
  have HAP : Hid (∀ g, Mown sl g → ¬ F g) := hap
  have HLN : Hid (l.length ≤ 137438953471) := by
    show _ ≤ _
    have : l.length = o.ev.length := by rw [← h2.eq, List.length_map]
    omega
  have HMM : Hid (M ≤ w.heap.size) := hM
  clear h1 h2 h3 h4 hmo hap hlen hM
  go_enter Try.func33, Try.ntmps33
  go_wp2_with (refine list_sbox EvK rfl _ rfl (cs := evL e sl) rfl ?_)
  intro w5 hb5 hbl5 hz5
  obtain ⟨be, hbe⟩ : ∃ y, w.heap.size = y := ⟨_, rfl⟩
  have HB5 : Hid (SB EvK be (evL e sl) w5.drew) := by rw [← hbe]; exact hb5.out
  have HBL : Hid (Below w.heap.size w w5.drew) := hbl5.out.trans ((drew_bel w5).mono hbl5.out.size)
  have HO5 : Hid (Out M w5.drew bo o vb ve l) := H2.out.blk (fun g _ hl => HBL.out.block g hl)
  have HBE : Hid (bo < be) := by rw [← hbe]; exact H2.out.box.lt
  have HBQ : Hid (w.heap.size = be) := hbe
  rw [hbe]
  go_wp2_with fail
  refine wp_region_held_drew (S := fun W => SB EvK be (evL e sl) W) (by kernel_rfl) HB5.out (fun hHeld => ?_)
  obtain ⟨X0, hX0⟩ : ∃ x, w5.drew = x := ⟨_, rfl⟩
  rw [hX0] at HB5 HBL HO5 hHeld ⊢
  clear hX0 hb5 hbl5 hz5
  refine wpAnyH_take (i := 0) (v := ?_) rfl (by kernel_rfl) (by kernel_rfl) (by kernel_rfl) (fun _ _ _ h => h) (Or.inl ⟨by rfl, ?_⟩) (by assumption) ?_
  case refine_2 => intro W hSw; go_simp; try rfl
  try simp only [Act.put, List.getElem_toArray, List.getElem_cons_zero, List.getElem_cons_succ, List.setIfInBounds_toArray, List.set_cons_zero, List.set_cons_succ]
  refine wpAnyH_take (i := 1) (v := ?_) rfl (by kernel_rfl) (by kernel_rfl) (by kernel_rfl) (fun _ _ _ h => h) (Or.inl ⟨by rfl, ?_⟩) (by assumption) ?_
  case refine_2 => intro W hSw; go_simp; try rfl
  try simp only [Act.put, List.getElem_toArray, List.getElem_cons_zero, List.getElem_cons_succ, List.setIfInBounds_toArray, List.set_cons_zero, List.set_cons_succ]
  refine wpAnyH_take (i := 2) (v := ?_) rfl (by kernel_rfl) (by kernel_rfl) (by kernel_rfl) (fun _ _ _ h => h) (Or.inl ⟨by rfl, ?_⟩) (by assumption) ?_
  case refine_2 => intro W hSw; go_simp; try rfl
  try simp only [Act.put, List.getElem_toArray, List.getElem_cons_zero, List.getElem_cons_succ, List.setIfInBounds_toArray, List.set_cons_zero, List.set_cons_succ]
  refine wpAnyH_take (i := 3) (v := ?_) rfl (by kernel_rfl) (by kernel_rfl) (by kernel_rfl) (fun _ _ _ h => h) (Or.inl ⟨by rfl, ?_⟩) (by assumption) ?_
  case refine_2 => intro W hSw; go_simp; try rfl
  try simp only [Act.put, List.getElem_toArray, List.getElem_cons_zero, List.getElem_cons_succ, List.setIfInBounds_toArray, List.set_cons_zero, List.set_cons_succ]
  refine wpAnyH_take (i := 5) (v := .agg (evL e sl).toArray) rfl (by kernel_rfl) (by kernel_rfl) (by kernel_rfl) (fun _ _ _ h => h) (Or.inl ⟨by rfl, fun W hSw => Go.Proofs.Ytanboekdfdafmaa.Ge.sload_run EvK (.tmp 3) rfl rfl hSw rfl⟩) (by assumption) ?_
  try simp only [Act.put, List.getElem_toArray, List.getElem_cons_zero, List.getElem_cons_succ, List.setIfInBounds_toArray, List.set_cons_zero, List.set_cons_succ]
  obtain ⟨vea, vec, hve, -⟩ := HO5.out.ev.own.form
  obtain ⟨ln, hln⟩ : ∃ y, l.length = y := ⟨_, rfl⟩
  rw [hln] at hve
  subst hve
  have c1 : X0.cell? ⟨bo, 1, none⟩ = some (.slice vea ln vec) := HO5.out.box.cell 1
  have HB6 : Hid (Below X0.heap.size X0 (X0.alloc (Obj.cells (evL e sl).toArray 70))) := (Below.refl _ X0).alloc (Nat.le_refl _) _
  have HN6 : Hid ((X0.alloc (Obj.cells (evL e sl).toArray 70)).heap[X0.heap.size]? = some (Obj.cells (evL e sl).toArray 70)) := World.alloc_heap_new X0 _
  have c2 : (X0.alloc (Obj.cells (evL e sl).toArray 70)).cell? ⟨bo, 1, none⟩ = some (.slice vea ln vec) := (World.cell?_of_block (w := X0) (HB6.out.block bo HO5.out.box.lt)).trans c1
  refine wpAnyH_ready (rs := [4, 6]) (by kernel_rfl) (by simp) ?_
  refine AllReadyH.cons rfl (fun K hK => ?_) (AllReadyH.cons rfl (fun K hK => ?_) AllReadyH.nil)
  case' refine_1 =>
    go_simp
    refine hK.out _ _ hHeld (fun hHeld => ?_)
    clear hK K c1 c2
    try simp only [Act.put, List.getElem_toArray, List.getElem_cons_zero, List.getElem_cons_succ, List.setIfInBounds_toArray, List.set_cons_zero, List.set_cons_succ]
    refine wpAnyH_ready (rs := [6]) (by kernel_rfl) (by simp) ?_
    refine AllReadyH.cons rfl (fun K hK => ?_) AllReadyH.nil
    refine step_run rfl (ebuild_run (.tmp 9) rfl rfl) ?_
    refine hK.out _ _ (SB.blk hHeld (HB6.out.block _ hHeld.lt)) (fun hHeld => ?_)
    obtain ⟨X1, hX1⟩ : ∃ x, X0.alloc (Obj.cells (evL e sl).toArray 70) = x := ⟨_, rfl⟩
    rw [hX1] at HB6 HN6 hHeld ⊢
    clear hX1 hK K
    try simp only [Act.put, List.getElem_toArray, List.getElem_cons_zero, List.getElem_cons_succ, List.setIfInBounds_toArray, List.set_cons_zero, List.set_cons_succ]
  case' refine_2 =>
    refine step_run rfl (ebuild_run (.tmp 9) rfl rfl) ?_
    refine hK.out _ _ (SB.blk hHeld (HB6.out.block _ hHeld.lt)) (fun hHeld => ?_)
    obtain ⟨X1, hX1⟩ : ∃ x, X0.alloc (Obj.cells (evL e sl).toArray 70) = x := ⟨_, rfl⟩
    rw [hX1] at HB6 HN6 hHeld c2 ⊢
    clear hX1 hK K c1
    try simp only [Act.put, List.getElem_toArray, List.getElem_cons_zero, List.getElem_cons_succ, List.setIfInBounds_toArray, List.set_cons_zero, List.set_cons_succ]
    refine wpAnyH_ready (rs := [4]) (by kernel_rfl) (by simp) ?_
    refine AllReadyH.cons rfl (fun K hK => ?_) AllReadyH.nil
    go_simp
    refine hK.out _ _ hHeld (fun hHeld => ?_)
    clear hK K c2
    try simp only [Act.put, List.getElem_toArray, List.getElem_cons_zero, List.getElem_cons_succ, List.setIfInBounds_toArray, List.set_cons_zero, List.set_cons_succ]
  all_goals
    refine wpAnyH_ready (rs := [7]) (by kernel_rfl) (by simp) ?_
    refine AllReadyH.cons rfl (fun K hK => ?_) AllReadyH.nil
    have HO6 : Hid (Out M X1 bo o vb (.slice vea ln vec) l) := HO5.out.blk (fun g _ hl => HB6.out.block g hl)
    have HM6 : Hid (M ≤ X1.heap.size) := Nat.le_trans HMM.out (Nat.le_trans HBL.out.size HB6.out.size)
    refine gstep_app1 E21 _ _ 33 rfl rfl M (.slice vea ln vec) l (e, sl) HLN.out X1 rfl HO6.out.ev.own X0.heap.size rfl HM6.out HN6.out rfl (fun v7 X2 ho7 hg7 ha7 => ?_)
    refine hK.out _ _ (SB.blk hHeld (hg7.out.block _ hHeld.lt (fun e2 => by have := (H2.out.ev.own.row.lt _ e2.symm).2; have := HBQ.out; omega))) (fun hHeld => ?_)
    clear hK K
    try simp only [Act.put, List.getElem_toArray, List.getElem_cons_zero, List.getElem_cons_succ, List.setIfInBounds_toArray, List.set_cons_zero, List.set_cons_succ]
    refine wpAnyH_take (i := 8) (v := ?_) rfl (by kernel_rfl) (by kernel_rfl) (by kernel_rfl) (fun _ _ _ h => h) (Or.inl ⟨by rfl, ?_⟩) (by assumption) ?_
    case refine_2 => intro W hSw; go_simp; try rfl
    try simp only [Act.put, List.getElem_toArray, List.getElem_cons_zero, List.getElem_cons_succ, List.setIfInBounds_toArray, List.set_cons_zero, List.set_cons_succ]
    refine wpAnyH_take (i := 9) (v := ?_) rfl (by kernel_rfl) (by kernel_rfl) (by kernel_rfl) (fun _ _ _ h => h) (Or.inl ⟨by rfl, ?_⟩) (by assumption) ?_
    case refine_2 => intro W hSw; go_simp; try rfl
    try simp only [Act.put, List.getElem_toArray, List.getElem_cons_zero, List.getElem_cons_succ, List.setIfInBounds_toArray, List.set_cons_zero, List.set_cons_succ]
    refine wpAnyH_ready (rs := [10]) (by kernel_rfl) (by simp) ?_
    refine AllReadyH.cons rfl (fun K hK => ?_) AllReadyH.nil
    have HBX : Hid (SB OutK bo [vb, .slice vea ln vec] X2) := HO6.out.box.blk (hg7.out.block _ HO6.out.box.lt (fun e2 => HO6.out.a2 _ e2.symm rfl))
    have f1 : X2.frozen? ⟨bo, 1, none⟩ = false := HBX.out.fro 1
    have c1 : X2.cell? ⟨bo, 1, none⟩ = some (.slice vea ln vec) := HBX.out.cell 1
    obtain ⟨va7, vc7, hv7, -⟩ := ho7.out.form
    obtain ⟨n7, hn7⟩ : ∃ y, (l ++ [(e, sl)]).length = y := ⟨_, rfl⟩
    rw [hn7] at hv7
    subst hv7
    have HB8 : Hid (SB OutK bo [vb, .slice va7 n7 vc7] (X2.setCell ⟨bo, 1, none⟩ (.slice va7 n7 vc7))) := HBX.out.set 1 _ rfl
    have HK8 : Hid (Ko X2 bo (X2.setCell ⟨bo, 1, none⟩ (.slice va7 n7 vc7))) := Ko.set _ _ _ _
    go_simp
    refine hK.out _ _ (SB.blk hHeld (HK8.out.block be (by have := HBE.out; omega))) (fun hHeld => ?_)
    clear hK K f1 c1
    try simp only [Act.put, List.getElem_toArray, List.getElem_cons_zero, List.getElem_cons_succ, List.setIfInBounds_toArray, List.set_cons_zero, List.set_cons_succ]
    refine wpAnyH_done (by kernel_rfl) ?_ _
    obtain ⟨hT1, hT2, hT3⟩ := Out.told (HO5.out) (HMO.out.blk (fun g _ _ hl => HBL.out.block g hl)) (fun g hm hf => HAP.out g hm ((H4.out g).2 (.inr hf))) HB6.out ho7.out hg7.out (ha7.out.imp id (fun e2 => ⟨_, HB6.out.size, e2⟩)) HK8.out HB8.out
    have HR : Hid (∃ F', SO M (X2.setCell ⟨bo, 1, none⟩ (.slice va7 n7 vc7)) b s bo (tellP o e) F' ∧ Kf w (X2.setCell ⟨bo, 1, none⟩ (.slice va7 n7 vc7)) F (fun g => F' g ∧ ¬ Mown sl g) ∧ (∀ g, F' g → F g ∨ w.heap.size ≤ g ∨ Mown sl g)) := SO.told H1.out H3.out H4.out HBL.out HAP.out hT1 hT2 hT3
    clear hT1 hT2 hT3
    go_wp2_with fail
    go_end0
    exact ⟨⟨_, rfl⟩, HR.out⟩
set_option maxRecDepth 100000 in
set_option maxHeartbeats 8000000 in
theorem send_any (M b bo : Nat) (s : Se) (o : Ou) (F : Nat → Prop) (m : Ms) (sl : Sl) (w : World) (h : SO M w b s bo o F) (hM : M ≤ w.heap.size) (hok : MOk w m sl) (hsm : m.lost.length ≤ 100000 ∧ m.hv.length ≤ 100000) (hlen : o.b.length ≤ 1000000000) (er : Int) (her : encE m = er) (s' : Se) (o' : Ou) (hP : sendP s o m = (s', o')) :
    Calls Try.prog 22 #[.pointer (some ⟨b, 0, none⟩), .pointer (some ⟨bo, 0, none⟩), msV m sl] w fun en w' => en = .returned (.int .i64 er) ∧ ∃ F', SO M w' b s' bo o' F' ∧ Kf w w' F F' := by
  have HSO : Hid (SO M w b s bo o F) := h
  obtain ⟨st, vb, ve, l, h1, h2, h3, h4⟩ := h
  have H1 : Hid (Ses w b s st) := h1
  have H2 : Hid (Out M w bo o vb ve l) := h2
  have H3 : Hid (∀ g, fpS b st g → ¬ fpO bo vb ve l g) := h3
  have H4 : Hid (∀ g, F g ↔ fpS b st g ∨ fpO bo vb ve l g) := h4
  have HMM : Hid (M ≤ w.heap.size) := hM
  have HOK : Hid (MOk w m sl) := hok
  have HER : Hid (encE m = er) := her
  have HP : Hid (sendP s o m = (s', o')) := hP
  clear h1 h2 h3 h4 hM hok her hP
  go_enter Try.func22, Try.ntmps22
  go_wp2_with (refine list_sbox PmK rfl _ rfl (cs := msL m sl) rfl ?_)
  intro w5 hb5 hbl5 hz5
  obtain ⟨be, hbe⟩ : ∃ y, w.heap.size = y := ⟨_, rfl⟩
  have HB5 : Hid (SB PmK be (msL m sl) w5) := by rw [← hbe]; exact hb5.out
  have HBL : Hid (Below w.heap.size w w5) := hbl5.out
  rw [hbe]
  obtain ⟨bs, hbs⟩ : ∃ y, encB m = y := ⟨_, rfl⟩
  have HBS : Hid (encB m = bs) := hbs
  have HE := encode_any m sl w5 (HOK.out.bel HBL.out) hsm bs er hbs HER.out
  clear hb5 hbl5 hz5 hbe hbs
  go_wp2_with (refine list_sload PmK rfl _ rfl (b := be) (cs := msL m sl) rfl HB5.out rfl ?_)
  refine HE.mono ?_
  rintro en w6 ⟨v6, rfl, ho6, hb6⟩
  have HB6 : Hid (Below w.heap.size w w6) := HBL.out.trans (hb6.mono HBL.out.size)
  obtain ⟨va6, vc6, hv6, hc6, hn6, -⟩ := ho6.form
  obtain ⟨n6, hn6l⟩ : ∃ y, bs.length = y := ⟨_, rfl⟩
  rw [hn6l] at hv6 hc6 hn6
  have hn6b : n6 ≤ 1024 := by rw [← hn6l, ← HBS.out]; exact enc_most
  subst hv6
  have HL6 : Hid (Lst E8 w6 va6 bs) := ho6.lst.1
  have HN6 : Hid (bs.length = n6) := hn6l
  have HNI6 : Hid (va6 = none → n6 = 0 ∧ vc6 = 0) := hn6
  clear HE ho6 hb6 hn6l hn6
  by_cases he : er = 0
  · subst he
    have HP2 : Hid ((s', o') = ({ s with sent := s.clock }, { o with b := o.b ++ bs })) := by
      show _ = _
      rw [← HP.out]
      unfold sendP
      rw [if_pos HER.out, HBS.out]
    obtain ⟨rfl, rfl⟩ : s' = { s with sent := s.clock } ∧ o' = { o with b := o.b ++ bs } := by cases HP2.out; exact ⟨rfl, rfl⟩
    have HO6 : Hid (OwnL E8 M w6 vb o.b) := H2.out.bys.bel HB6.out
    have HL7 : Hid (o.b.length + n6 ≤ 1099511627775) := by show _ ≤ _; omega
    have HM6 : Hid (M ≤ w6.heap.size) := Nat.le_trans HMM.out HB6.out.size
    have HX6 : Hid (SB OutK bo [vb, ve] w6) := H2.out.box.blk (HB6.out.block _ H2.out.box.lt)
    have HY6 : Hid (SB SsK b (ssL s (st.map (·.1))) w6) := H1.out.box.blk (HB6.out.block _ H1.out.box.lt)
    have HBB : Hid (bo ≠ b) := fun e => H3.out b (.inl rfl) (.inl e.symm)
    have HVB : Hid (¬ vb.ownBlock = some bo ∧ ¬ vb.ownBlock = some b) := ⟨fun e => (H2.out.a1 _ e).1 rfl, fun e => H3.out b (.inl rfl) (.inr (.inl e))⟩
    have c1 : w6.cell? ⟨bo, 0, none⟩ = some vb := HX6.out.cell 0
    clear hsm HP HP2 hlen
    obtain ⟨vba, vbc, hvb, -⟩ := HO6.out.form
    obtain ⟨nb, hnb⟩ : ∃ y, o.b.length = y := ⟨_, rfl⟩
    rw [hnb] at hvb
    have HNB : Hid (o.b.length = nb) := hnb
    subst hvb
    clear hnb
    go_wp2_with (at_builtin; refine list_appL E8 rfl _ _ 32 rfl rfl M (.slice vba nb vbc) o.b bs va6 n6 vc6 w6 HL7.out rfl HO6.out rfl HL6.out HNI6.out HN6.out HM6.out ?_)
    intro v7 w7 ho7 hg7 ha7
    obtain ⟨va7, vc7, hv7, -⟩ := ho7.out.form
    obtain ⟨n7, hn7⟩ : ∃ y, (o.b ++ bs).length = y := ⟨_, rfl⟩
    rw [hn7] at hv7
    subst hv7
    have HX7 : Hid (SB OutK bo [.slice vba nb vbc, ve] w7) := HX6.out.blk (hg7.out.block _ HX6.out.lt (fun e => HVB.out.1 e.symm))
    have HY7 : Hid (SB SsK b (ssL s (st.map (·.1))) w7) := HY6.out.blk (hg7.out.block _ HY6.out.lt (fun e => HVB.out.2 e.symm))
    have c7 : w7.cell? ⟨bo, 0, none⟩ = some (.slice vba nb vbc) := HX7.out.cell 0
    have f7 : w7.frozen? ⟨bo, 0, none⟩ = false := HX7.out.fro 0
    have HX8 : Hid (SB OutK bo [.slice va7 n7 vc7, ve] (w7.setCell ⟨bo, 0, none⟩ (.slice va7 n7 vc7))) := HX7.out.set 0 _ rfl
    have HK8 : Hid (Ko w7 bo (w7.setCell ⟨bo, 0, none⟩ (.slice va7 n7 vc7))) := Ko.set _ _ _ _
    have HY8 : Hid (SB SsK b (ssL s (st.map (·.1))) (w7.setCell ⟨bo, 0, none⟩ (.slice va7 n7 vc7))) := HY7.out.blk (HK8.out.block b (fun e => HBB.out e.symm))
    have c8 : (w7.setCell ⟨bo, 0, none⟩ (.slice va7 n7 vc7)).cell? ⟨b, 4, none⟩ = some (.int .i64 s.clock) := HY8.out.cell 4
    have c9 : (w7.setCell ⟨bo, 0, none⟩ (.slice va7 n7 vc7)).cell? ⟨b, 8, none⟩ = some (.int .i64 s.sent) := HY8.out.cell 8
    have f9 : (w7.setCell ⟨bo, 0, none⟩ (.slice va7 n7 vc7)).frozen? ⟨b, 8, none⟩ = false := HY8.out.fro 8
    have HR := SO.sent H1.out H2.out H3.out H4.out HB6.out ho7.out hg7.out (ha7.out.imp id (fun e => ⟨_, HB6.out.size, e⟩)) HK8.out HX8.out (Ko.set _ b 8 (.int .i64 s.clock)) (HY8.out.set 8 (.int .i64 s.clock) rfl)
    have HRR : Hid (∃ F', SO M ((w7.setCell ⟨bo, 0, none⟩ (.slice va7 n7 vc7)).setCell ⟨b, 8, none⟩ (.int .i64 s.clock)) b { s with sent := s.clock } bo { o with b := o.b ++ bs } F' ∧ Kf w ((w7.setCell ⟨bo, 0, none⟩ (.slice va7 n7 vc7)).setCell ⟨b, 8, none⟩ (.int .i64 s.clock)) F F') := HR
    clear HR hn7 ho7 hg7 ha7 c1
    go_wp2_with fail
    go_ret
    exact ⟨rfl, HRR.out⟩
  · have heb : (er != 0) = true := by simpa using he
    have HP2 : Hid ((s', o') = (s, o)) := by
      show _ = _
      rw [← HP.out]
      unfold sendP
      rw [if_neg (by rw [HER.out]; exact he)]
    obtain ⟨rfl, rfl⟩ : s' = s ∧ o' = o := by cases HP2.out; exact ⟨rfl, rfl⟩
    go_wp2_with fail
    go_ret
    exact ⟨rfl, F, HSO.out.bel HB6.out, Kf.bel F HB6.out⟩
set_option maxRecDepth 100000 in
set_option maxHeartbeats 8000000 in
theorem end_any (M b bo : Nat) (s : Se) (o : Ou) (F : Nat → Prop) (c : Int) (w : World) (h : SO M w b s bo o F) (hM : M ≤ w.heap.size) (hlb : o.b.length ≤ 1000000000) (hle : o.ev.length ≤ 100000000) (s' : Se) (o' : Ou) (hP : endP s o c = (s', o')) :
    Calls Try.prog 27 #[.pointer (some ⟨b, 0, none⟩), .pointer (some ⟨bo, 0, none⟩), .int .i64 c] w fun en w' => (∃ u, en = .returned u) ∧ ∃ F', SO M w' b s' bo o' F' ∧ Kf w w' F F' := by
  have HSO : Hid (SO M w b s bo o F) := h
  have HMM : Hid (M ≤ w.heap.size) := hM
  obtain ⟨s1, o1, h1⟩ : ∃ s1 o1, end1 s o c = (s1, o1) := ⟨_, _, rfl⟩
  have hpr : s' = idleP s1 ∧ o' = end2 s1 o1 c := by
    unfold endP at hP
    rw [h1] at hP
    cases hP
    exact ⟨rfl, rfl⟩
  obtain ⟨rfl, ho'⟩ := hpr
  have HOO : Hid (o' = end2 s1 o1 c) := ho'
  clear ho'
  have hev := end1_ev s o c
  rw [h1] at hev
  have HE1 : Hid (end1 s o c = (s1, o1)) := h1
  have HLE : Hid (o1.ev.length ≤ 100000000) := by show _ ≤ _; have := hev.1; rw [this]; exact hle
  clear h hM h1 hP hev
  go_enter Try.func27, Try.ntmps27
  by_cases hc : c = 7
  case' pos =>
    have hcb : (c != 7) = false := by simpa using hc
    have hso : s1 = s ∧ o1 = o := by
      have h5 := HE1.out
      unfold end1 at h5
      rw [if_pos hc] at h5
      cases h5
      exact ⟨rfl, rfl⟩
    have HS1 : Hid (SO M w b s1 bo o1 F) := by rw [hso.1, hso.2]; exact HSO.out
    have HK1 : Hid (Kf w w F F) := Kf.refl w F
    obtain ⟨F1, hF1⟩ : ∃ F1, F1 = F := ⟨_, rfl⟩
    rw [← hF1] at HS1
    have HKK : Hid (Kf w w F F1) := by rw [hF1]; exact HK1.out
    obtain ⟨w1, hw1⟩ : ∃ w1, w = w1 := ⟨_, rfl⟩
    have HWE : Hid (w = w1) := hw1
    have HKF : Hid (Kf w w1 F F1) := by rw [← hw1]; exact HKK.out
    have HM1 : Hid (M ≤ w1.heap.size) := by rw [← hw1]; exact HMM.out
    rw [hw1] at HS1 ⊢
    obtain ⟨p1, hp1⟩ := HS1.out.cells
    have c5 : w1.cell? ⟨b, 5, none⟩ = some (.int .i64 s1.state) := hp1.cell 5
    clear hso HK1 hF1 HKK hw1 hp1 HSO hc
  case' neg =>
    have hcb : (c != 7) = true := by simpa using hc
    have HSE := send_any M b bo s o F (ntc c) sZ w HSO.out HMM.out (mok_zero w _ rfl rfl rfl) ⟨Nat.zero_le _, Nat.zero_le _⟩ hlb _ rfl s1 o1 (by have h5 := HE1.out; unfold end1 at h5; rw [if_neg hc] at h5; exact h5)
    go_wp2_with fail
    refine HSE.mono ?_
    rintro en w1 ⟨rfl, F1, hs1, hk1⟩
    have HS1 : Hid (SO M w1 b s1 bo o1 F1) := hs1
    have HKF : Hid (Kf w w1 F F1) := hk1
    have HM1 : Hid (M ≤ w1.heap.size) := Nat.le_trans HMM.out hk1.str.size
    obtain ⟨p1, hp1⟩ := HS1.out.cells
    have c5 : w1.cell? ⟨b, 5, none⟩ = some (.int .i64 s1.state) := hp1.cell 5
    clear HSE hs1 hk1 hp1 HSO
  all_goals
    by_cases h3 : s1.state = 3
    case' pos =>
      rw [h3] at c5
      have HT := tell_any M b bo s1 o1 F1 ⟨2, 0, 0, c, ms0⟩ sZ w1 HS1.out HM1.out (mo_zero M w1 ms0 rfl rfl rfl) (fun g h => absurd h (own_none g)) HLE.out
      have ho3 : tellP o1 ⟨2, 0, 0, c, ms0⟩ = o' := by rw [HOO.out]; unfold end2; rw [if_pos h3]
      rw [ho3] at HT
      clear ho3
      go_wp2_with fail
      refine HT.mono ?_
      rintro en w2 ⟨⟨u, rfl⟩, F2, hs2, hk2, -⟩
      have HS2 : Hid (SO M w2 b s1 bo o' F2) := hs2
      have HKF2 : Hid (Kf w w2 F F2) := HKF.out.trans ⟨hk2.str, hk2.blk, fun g hg => hk2.now g ⟨hg, own_none g⟩⟩
      clear HT hs2 hk2 c5
    case' neg =>
      have h3b : (s1.state == 3) = false := by simpa using h3
      have ho3 : o1 = o' := by rw [HOO.out]; unfold end2; rw [if_neg h3]
      obtain ⟨w2, hw2⟩ : ∃ y, w1 = y := ⟨_, rfl⟩
      have HWE2 : Hid (w1 = w2) := hw2
      obtain ⟨F2, hF2⟩ : ∃ y, F1 = y := ⟨_, rfl⟩
      rw [hw2] at HS1 HKF c5 ⊢
      rw [hF2] at HS1 HKF
      have HS2 : Hid (SO M w2 b s1 bo o' F2) := by rw [← ho3]; exact HS1.out
      have HKF2 : Hid (Kf w w2 F F2) := HKF.out
      clear hw2 hF2 ho3 HS1 HKF
    all_goals
      obtain ⟨p2, hp2⟩ := HS2.out.cells
      have HB2 : Hid (SB SsK b (ssL s1 p2) w2) := hp2
      have d5 : w2.cell? ⟨b, 5, none⟩ = some (.int .i64 s1.state) := hp2.cell 5
      have f5 : w2.frozen? ⟨b, 5, none⟩ = false := hp2.fro 5
      have HB3 : Hid (SB SsK b ((ssL s1 p2).set 5 (.int .i64 0)) (w2.setCell ⟨b, 5, none⟩ (.int .i64 0))) := hp2.set 5 _ rfl
      have HK3 : Hid (Ko w2 b (w2.setCell ⟨b, 5, none⟩ (.int .i64 0))) := Ko.set _ _ _ _
      clear hp2
      go_wp2_with (refine list_sput SsK TkK rfl _ _ rfl (b := b) (off := 6) (cs := (ssL s1 p2).set 5 (.int .i64 0)) (vs := [.pointer none, .int .i64 0, .int .i64 0, .int .i64 0, .int .i64 0]) rfl rfl HB3.out rfl (Nat.le_refl 11) rfl ?_)
      intro w4 hb4 hk4
      have HR : Hid (∃ F', SO M w4 b (idleP s1) bo o' F' ∧ Kf w w4 F F') := by
        obtain ⟨F4, h5, h6⟩ := SO.idle HS2.out (HK3.out.trans hk4.out) hb4.out
        exact ⟨F4, h5, HKF2.out.trans h6⟩
      clear hb4 hk4 HK3 HB3
      go_wp2_with fail
      go_end0
      have HR2 := HR.out
      first | exact ⟨⟨_, rfl⟩, HR2⟩ | (rw [HWE.out] at HR2; exact ⟨⟨_, rfl⟩, HR2⟩) | (rw [HWE.out, HWE2.out] at HR2; exact ⟨⟨_, rfl⟩, HR2⟩)
end Go.Proofs.Ytanboekdfdafmaa.Pv
