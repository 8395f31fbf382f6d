/- Sessions: Receive. Two ends that talk: plain, and in memory. -/
import Derived.Test.YtanboekdfdafmaaMgJ
import Derived.Test.YtanboekdfdafmaaMgI
namespace Go.Proofs.Ytanboekdfdafmaa.Pv
open Go.ChangeShapes Go.WideShapes Go.ChangeAt Go.RowKit Go.Joins Go.Deep Go.Proofs.Ytanboekdfdafmaa.PM Go.Proofs.Ytanboekdfdafmaa.Ask Go.Proofs.Ytanboekdfdafmaa.Ge
set_option linter.unusedVariables false
set_option linter.unusedSimpArgs false

/-- bytes are taken -/
theorem SO.took {M : Nat} {w5 w6 : World} {b bo bs c c' : Nat} {a a' : Option Addr} {s : Se} {o : Ou} {F : Nat → Prop} {vb ve v : Value} {le : List (Ev × Sl)} {l : List (Ms × Sl)} {T : List Ms × List Nat × Int} (h1 : Ses w5 b s (some (bs, a, c))) (h2 : Out M w5 bo o vb ve le) (h3 : ∀ g, fpS b (some (bs, a, c)) g → ¬ fpO bo vb ve le g) (h4 : ∀ g, F g ↔ fpS b (some (bs, a, c)) g ∨ fpO bo vb ve le g) (hT : (T.2.2 = 0 → SOk T.2.1) ∧ T.2.1.length ≤ 1024) (hms : MsL w5.heap.size w6 v l) (hst : Stm (bs + 1) w6 bs a' c' T.2.1 T.2.2) (hkt : Kt w5 bs a w6 a') (hap : ∀ p ∈ l, ∀ g, Mown p.2 g → ¬ ob a' = some g) (hap2 : ∀ g, v.ownBlock = some g → ¬ ob a' = some g) :
    ∃ F6, SO M w6 b { s with x := T.2.1, f := T.2.2 } bo o F6 ∧ Kf w5 w6 F F6 ∧ (∀ p ∈ l, ∀ g, Mown p.2 g → ¬ F6 g) ∧ (∀ g, v.ownBlock = some g → ¬ F6 g) := by
  obtain ⟨k1, k2, k3⟩ := h1.str _ rfl
  dsimp only at k1 k2 k3
  have lb := h1.box.lt
  have ls := k1.hl
  have hS : ∀ g, fpS b (some (bs, a', c')) g → g = b ∨ g = bs ∨ ob a' = some g := fun g hg => by
    rcases hg with e | ⟨p, e, e2 | e2⟩
    · exact .inl e
    · cases e; exact .inr (.inl e2)
    · cases e; exact .inr (.inr e2)
  have iS : ∀ g, (g = b ∨ g = bs ∨ ob a = some g) → fpS b (some (bs, a, c)) g := fun g hg => by
    rcases hg with e | e | e
    · exact .inl e
    · exact .inr ⟨_, rfl, .inl e⟩
    · exact .inr ⟨_, rfl, .inr e⟩
  have hout : ∀ g, w5.heap.size ≤ g → ¬ ob a' = some g → ¬ (fpS b (some (bs, a', c')) g ∨ fpO bo vb ve le g) := fun g hg hn h => by
    rcases h with h | h
    · rcases hS g h with e | e | e
      · omega
      · omega
      · exact hn e
    · have := (h2.lt g h).1; omega
  refine ⟨fun g => fpS b (some (bs, a', c')) g ∨ fpO bo vb ve le g, ⟨some (bs, a', c'), vb, ve, le, ⟨h1.box.blk (hkt.block b lb (fun e => k2 e.symm) k3), fun p e => ?_, ⟨(fun e => by cases e), fun e => absurd (h1.idl.2 e) (fun e2 => by cases e2)⟩, h1.rg, h1.wt, hT⟩, h2.blk (fun g hg hl => hkt.block g hl (fun e => h3 g (iS g (.inr (.inl e))) hg) (fun e => h3 g (iS g (.inr (.inr e))) hg)), fun g hg ho => ?_, fun g => Iff.rfl⟩, ⟨hkt.str, fun g hg hf => hkt.block g hg (fun e => hf ((h4 g).2 (.inl (iS g (.inr (.inl e)))))) (fun e => hf ((h4 g).2 (.inl (iS g (.inr (.inr e)))))), fun g hg => ?_⟩, fun p hp g hm => hout g ((hms.each p hp).rng g hm).1 (hap p hp g hm), fun g e => hout g (hms.own.row.lt g e).1 (hap2 g e)⟩
  · cases e
    refine ⟨hst, k2, fun e => ?_⟩
    rcases hkt.now b e with e2 | e2
    · exact k3 e2
    · omega
  · rcases hS g hg with e | e | e
    · exact h3 g (iS g (.inl e)) ho
    · exact h3 g (iS g (.inr (.inl e))) ho
    · rcases hkt.now g e with e2 | e2
      · exact h3 g (iS g (.inr (.inr e2))) ho
      · have := (h2.lt g ho).1; omega
  · rcases hg with hg | hg
    · rcases hS g hg with e | e | e
      · exact .inl ((h4 g).2 (.inl (iS g (.inl e))))
      · exact .inl ((h4 g).2 (.inl (iS g (.inr (.inl e)))))
      · rcases hkt.now g e with e2 | e2
        · exact .inl ((h4 g).2 (.inl (iS g (.inr (.inr e2)))))
        · exact .inr e2
    · exact .inl ((h4 g).2 (.inr hg))
theorem hearP_len (s : Se) (o : Ou) (m : Ms) : (hearP s o m).2.b.length ≤ o.b.length + 1024 ∧ (hearP s o m).2.ev.length ≤ o.ev.length + 1 := by
  have hE := endP_len s o
  unfold hearP
  split
  · exact hE 7
  · split
    · unfold openP
      split
      · exact hE 2
      · split
        · exact hE 3
        · have := sendP_len (confP s m) o alv
          exact ⟨this.1, by omega⟩
    · split
      · exact ⟨Nat.le_add_right _ _, by show (o.ev ++ _).length ≤ _; rw [List.length_append]; exact Nat.le_refl _⟩
      · split
        · exact ⟨Nat.le_add_right _ _, by show (o.ev ++ _).length ≤ _; rw [List.length_append]; exact Nat.le_refl _⟩
        · split
          · exact ⟨Nat.le_add_right _ _, Nat.le_add_right _ _⟩
          · exact hE 5
/-- so many messages are heard -/
structure RL (M : Nat) (w6 : World) (b bo rb : Nat) (F6 : Nat → Prop) (va : Option Addr) (l : List (Ms × Sl)) (q : Se × Ou) (o1 : Ou) (wr : World) (j : Nat) (s : Se) (o : Ou) (F : Nat → Prop) : Prop where
  so : SO M wr b s bo o F
  lst : Gm.Lst E17 wr va l
  each : ∀ i (h : i < l.length), j ≤ i → MO M wr l[i].1 l[i].2
  blk : ∀ g, g < w6.heap.size → ¬ F6 g → (∀ p ∈ l.take j, ¬ Mown p.2 g) → wr.heap[g]? = w6.heap[g]?
  now : ∀ g, F g → F6 g ∨ w6.heap.size ≤ g ∨ ∃ p ∈ l.take j, Mown p.2 g
  str : Below 0 w6 wr
  lb : o.b.length ≤ o1.b.length + 1024 * j
  le : o.ev.length ≤ o1.ev.length + j
  pl : hearsP s o ((l.drop j).map (fun p => p.1)) = q
  jl : j ≤ l.length
theorem RL.begin {M : Nat} {w5 w6 : World} {b bo rb : Nat} {F6 : Nat → Prop} {va : Option Addr} {nl vc : Nat} {l : List (Ms × Sl)} {s : Se} {o1 : Ou} {q : Se × Ou} (h : SO M w6 b s bo o1 F6) (hms : MsL w5.heap.size w6 (.slice va nl vc) l) (hM : M ≤ w5.heap.size) (hq : hearsP s o1 (l.map (fun p => p.1)) = q) : RL M w6 b bo rb F6 va l q o1 w6 0 s o1 F6 :=
  ⟨h, hms.own.lst.1, fun i hi _ => (hms.each _ (List.getElem_mem hi)).mono hM, fun _ _ _ _ => rfl, fun g hg => .inl hg, Below.refl _ _, by omega, by omega, by rw [List.drop_zero]; exact hq, Nat.zero_le _⟩
/-- what is known of the messages -/
structure Ml (w6 : World) (F6 : Nat → Prop) (va : Option Addr) (l : List (Ms × Sl)) (m0 : Nat) : Prop where
  pw : l.Pairwise (fun p q => ∀ g, Mown p.2 g → ¬ Mown q.2 g)
  fr : ∀ p ∈ l, ∀ g, Mown p.2 g → ¬ F6 g ∧ g < w6.heap.size ∧ m0 ≤ g
  ls : ∀ g, ob va = some g → ¬ F6 g ∧ g < w6.heap.size ∧ ∀ p ∈ l, ¬ Mown p.2 g
theorem RL.free {M : Nat} {w6 wr : World} {b bo rb : Nat} {F6 F : Nat → Prop} {va : Option Addr} {l : List (Ms × Sl)} {s : Se} {o o1 : Ou} {q : Se × Ou} {j m0 : Nat} (h : RL M w6 b bo rb F6 va l q o1 wr j s o F) (g : Nat) (h1 : ¬ F6 g) (h2 : g < w6.heap.size) (h3 : ∀ p ∈ l.take j, ¬ Mown p.2 g) : ¬ F g := fun hf => by
  rcases h.now g hf with e | e | ⟨p, hp, hm⟩
  · exact h1 e
  · omega
  · exact h3 p hp hm
theorem Ml.take {w6 : World} {F6 : Nat → Prop} {va : Option Addr} {l : List (Ms × Sl)} {m0 i j : Nat} (h : Ml w6 F6 va l m0) (hi : i < l.length) (hij : j ≤ i) (g : Nat) (hg : Mown l[i].2 g) : ∀ p ∈ l.take j, ¬ Mown p.2 g := fun p hp hm => by
  obtain ⟨k, hk, rfl⟩ := List.mem_iff_getElem.1 hp
  rw [List.length_take] at hk
  rw [List.getElem_take] at hm
  exact (List.pairwise_iff_getElem.1 h.pw k i (by omega) hi (by omega)) g hm hg
theorem le_step {a b c j : Nat} (h : a ≤ b + 1024) (k : b ≤ c + 1024 * j) : a ≤ c + 1024 * (j + 1) := by
  rw [Nat.mul_add, Nat.mul_one, ← Nat.add_assoc]
  exact Nat.le_trans h (Nat.add_le_add_right k _)
theorem hears_cons (s : Se) (o : Ou) (m : Ms) (l : List Ms) : hearsP s o (m :: l) = if s.state = 0 then (s, o) else hearsP (hearP s o m).1 (hearP s o m).2 l := rfl
theorem hears_idle (s : Se) (o : Ou) (l : List Ms) (h : s.state = 0) : hearsP s o l = (s, o) := by
  cases l with
  | nil => rfl
  | cons m l => rw [hears_cons, if_pos h]
theorem RL.step {M : Nat} {w6 wr wm w' : World} {b bo rb : Nat} {F6 F F' : Nat → Prop} {va : Option Addr} {l : List (Ms × Sl)} {s s' : Se} {o o1 o' : Ou} {q : Se × Ou} {j m0 : Nat} (h : RL M w6 b bo rb F6 va l q o1 wr j s o F) (ml : Ml w6 F6 va l m0) (hj : j < l.length) (hs : ¬ s.state = 0) (hb : Below wr.heap.size wr wm) (hP : hearP s o l[j].1 = (s', o')) (hso : SO M w' b s' bo o' F') (hk : Kf wm w' F (fun g => F' g ∧ ¬ Mown l[j].2 g)) (hf : ∀ g, F' g → F g ∨ wm.heap.size ≤ g ∨ Mown l[j].2 g) : RL M w6 b bo rb F6 va l q o1 w' (j + 1) s' o' F' := by
  have z1 := hb.size
  have z2 := h.str.size
  have hbl : ∀ g, g < wr.heap.size → ¬ F g → w'.heap[g]? = wr.heap[g]? := fun g hg hn => (hk.blk g (by omega) hn).trans (hb.block g hg)
  have ht : ∀ p, p ∈ l.take (j + 1) ↔ p ∈ l.take j ∨ p = l[j] := fun p => by rw [List.take_add_one, List.getElem?_eq_getElem hj, List.mem_append]; simp only [Option.toList_some, List.mem_singleton]
  have hlen := hearP_len s o l[j].1
  rw [hP] at hlen
  have hl1 : o'.b.length ≤ o.b.length + 1024 := hlen.1
  have hl2 : o'.ev.length ≤ o.ev.length + 1 := hlen.2
  clear hlen
  have hlb := h.lb
  have hle := h.le
  refine ⟨hso, h.lst.keep (Nat.le_trans z1 hk.str.size) (fun g o2 e hl => hbl g hl ?_), fun i hi hij => (h.each i hi (by omega)).blk (fun g hm _ hl => hbl g hl ?_), fun g h1 h2 h3 => ?_, fun g hg => ?_, (h.str.trans (hb.mono (Nat.zero_le _))).trans hk.str, ?_, ?_, ?_, by omega⟩
  · obtain ⟨k1, k2, k3⟩ := ml.ls g (by rw [e]; rfl)
    exact h.free (m0 := m0) g k1 k2 (fun p hp => k3 p (List.mem_of_mem_take hp))
  · obtain ⟨k1, k2, -⟩ := ml.fr _ (List.getElem_mem hi) g hm
    exact h.free (m0 := m0) g k1 k2 (ml.take hi (by omega) g hm)
  · have h5 : ∀ p ∈ l.take j, ¬ Mown p.2 g := fun p hp => h3 p ((ht p).2 (.inl hp))
    exact (hbl g (by omega) (h.free (m0 := m0) g h2 h1 h5)).trans (h.blk g h1 h2 h5)
  · rcases hf g hg with e | e | e
    · rcases h.now g e with e2 | e2 | ⟨p, hp, hm⟩
      · exact .inl e2
      · exact .inr (.inl e2)
      · exact .inr (.inr ⟨p, (ht p).2 (.inl hp), hm⟩)
    · exact .inr (.inl (by omega))
    · exact .inr (.inr ⟨_, (ht _).2 (.inr rfl), e⟩)
  · exact le_step hl1 hlb
  · omega
  · have h5 := h.pl
    rw [List.drop_eq_getElem_cons hj] at h5
    rw [List.map_cons, hears_cons, if_neg hs, hP] at h5
    exact h5
theorem RL.kf {M : Nat} {w w6 wr : World} {b bo rb : Nat} {G F6 F : Nat → Prop} {va : Option Addr} {l : List (Ms × Sl)} {s : Se} {o o1 : Ou} {q : Se × Ou} {j m0 : Nat} (h : RL M w6 b bo rb F6 va l q o1 wr j s o F) (ml : Ml w6 F6 va l m0) (hm0 : w.heap.size ≤ m0) (hk : Kf w w6 G F6) : Kf w wr G F := by
  have z := hk.str.size
  refine ⟨hk.str.trans h.str, fun g hg hn => (h.blk g (by omega) (fun e => ?_) (fun p hp hm => ?_)).trans (hk.blk g hg hn), fun g hg => ?_⟩
  · rcases hk.now g e with e2 | e2
    · exact hn e2
    · omega
  · have := (ml.fr p (List.mem_of_mem_take hp) g hm).2.2; omega
  · rcases h.now g hg with e | e | ⟨p, hp, hm⟩
    · exact hk.now g e
    · exact .inr (by omega)
    · exact .inr (by have := (ml.fr p (List.mem_of_mem_take hp) g hm).2.2; omega)
theorem RL.not {M : Nat} {w6 wr : World} {b bo rb : Nat} {F6 F : Nat → Prop} {va : Option Addr} {l : List (Ms × Sl)} {s : Se} {o o1 : Ou} {q : Se × Ou} {j m0 : Nat} (h : RL M w6 b bo rb F6 va l q o1 wr j s o F) (ml : Ml w6 F6 va l m0) (hr : rb < m0) (hx : rb < w6.heap.size) (hn : ¬ F6 rb) : ¬ F rb ∧ wr.heap[rb]? = w6.heap[rb]? := by
  have h5 : ∀ p ∈ l.take j, ¬ Mown p.2 rb := fun p hp hm => by have := (ml.fr p (List.mem_of_mem_take hp) rb hm).2.2; omega
  exact ⟨h.free (m0 := m0) rb hn hx h5, h.blk rb hx hn h5⟩
theorem mnew_run {o : Oper} {ρ : Operand → Value} {W : World} (ho : o.op = .alloc 54) : (execOp ρ o).run Try.prog W = .ok (.value (.pointer (some ⟨W.heap.size, 0, none⟩))) (W.alloc (Obj.cells (msL ms0 sZ).toArray 54)) := by
  unfold execOp
  rw [ho]
  simp [go_sem, msL, ms0, rtZ, sZ]
theorem list_mnew {ops : Array Oper} {rest : List Oper} {o : Oper} {ac : Act} {Q : Exit → Act → World → Prop} {W : World} (hgd : o.guard = none) (ho : o.op = .alloc 54)
    (k : ∀ b W', Hid (W.heap.size = b) → Hid (SB PmK b (msL ms0 sZ) W') → Hid (Below W.heap.size W W') → wpList Try.prog ops Q rest (ac.put o.dst (.pointer (some ⟨b, 0, none⟩))) W') : wpList Try.prog ops Q (o :: rest) ac W := by
  refine wpList_plain hgd fun K hK => ?_
  unfold Oper.wp
  rw [mnew_run ho]
  exact hK _ _ (k _ _ rfl (World.alloc_heap_new W _) ((Below.refl _ W).alloc (Nat.le_refl _) _))
/-! the walks -/
theorem rc_res {W : World} {b : Nat} {u v : Value} (h : SB OutK b [u, v] W) {tm : Array Value} (t4 : (tm[6]?).getD undef = .pointer (some ⟨b, 0, none⟩)) : (results Try.f23 tm).run Try.prog W = .ok (.agg #[u, v]) W := by
  have c0 : W.cell? ⟨b, 0, none⟩ = some u := h.cell 0
  have c1 : W.cell? ⟨b, 1, none⟩ = some v := h.cell 1
  simp [results, Try.results23, go_sem, t4, c0, c1]
set_option maxRecDepth 100000 in
set_option maxHeartbeats 16000000 in
theorem recv_any (b : Nat) (s : Se) (st : Sp) (va : Option Addr) (n cap : Nat) (r : List Nat) (now : Int) (w : World) (h : Ses w b s st) (hn : -9223372036854775808 ≤ now ∧ now < 9223372036854775808) (hl : Lst E8 w va r) (hrn : r.length = n) (hcap : n ≤ cap) (hu : ∀ d ∈ r, d < 256) (hne : ∀ ad, va = some ad → ¬ fpS b st ad.block ∧ ad.block < w.heap.size) (hnb : n ≤ 500000) (s' : Se) (o' : Ou) (hP : recvP s r now = (s', o')) :
    Calls Try.prog 23 #[.pointer (some ⟨b, 0, none⟩), .slice va n cap, .int .i64 now] w (MvPost w b st (s', o')) := by
  have HS : Hid (Ses w b s st) := h
  have HP : Hid (recvP s r now = (s', o')) := hP
  have HL : Hid (Lst E8 w va r) := hl
  have HN : Hid (r.length = n) := hrn
  have HU : Hid (∀ d ∈ r, d < 256) := hu
  have HNE : Hid (∀ ad, va = some ad → ¬ fpS b st ad.block ∧ ad.block < w.heap.size) := hne
  clear h hP hl hrn hu hne
  go_enter Try.func23, Try.ntmps23
  go_wp2_with (refine list_onew rfl rfl ?_)
  intro rb w1 hrb hx1 hb1
  have HLT : Hid (∀ g, fpS b st g → g < w.heap.size) := HS.out.lt
  have HS1 : Hid (Ses w1 b s st) := HS.out.blk (fun g _ hl => hb1.out.block g hl)
  obtain ⟨s1, o1, hm1⟩ : ∃ s1 o1, moveP s now = (s1, o1) := ⟨_, _, rfl⟩
  have HMV := move_any b s st now w1 HS1.out hn s1 o1 hm1
  have hlen := moveP_len s now
  rw [hm1] at hlen
  have HLN : Hid (o1.b.length ≤ 1024 ∧ o1.ev.length ≤ 1) := hlen
  have HM1 : Hid (moveP s now = (s1, o1)) := hm1
  have HRBE : Hid (w.heap.size = rb) := hrb.out
  have HRB : Hid (w.heap.size ≤ rb) := by show _ ≤ _; have := hrb.out; omega
  have HB1 : Hid (Below w.heap.size w w1) := hb1.out
  have HX1 : Hid (SB OutK rb [.slice none 0 0, .slice none 0 0] w1) := hx1.out
  clear hm1 hlen hrb hx1 hb1 HS1
  have HP1 : Hid (recvQ s1 o1 r = (s', o')) := by have h5 := HP.out; unfold recvP at h5; rw [HM1.out] at h5; exact h5
  have HRW : Hid (rb < w1.heap.size) := HX1.out.lt
  have HRE : Hid (w.heap.size = rb) := HRBE.out
  go_wp2_with fail
  refine HMV.mono ?_
  rintro e w2 ⟨vb, ve, l, st1, rfl, hs2, ho2, ha2, hk2⟩
  have HS2 : Hid (Ses w2 b s1 st1) := hs2
  have HO2 : Hid (OutV w1.heap.size w2 o1 vb ve l) := ho2
  have HA2 : Hid (∀ g, fpS b st1 g → ¬ fpV vb ve l g) := ha2
  have HK2 : Hid (Kf w1 w2 (fpS b st) (fpS b st1)) := hk2
  obtain ⟨x1, y1, e1, -⟩ := ho2.bys.form
  obtain ⟨x2, y2, e2, -⟩ := ho2.ev.own.form
  obtain ⟨z1, hz1⟩ : ∃ y, o1.b.length = y := ⟨_, rfl⟩
  obtain ⟨z2, hz2⟩ : ∃ y, l.length = y := ⟨_, rfl⟩
  rw [hz1] at e1
  rw [hz2] at e2
  subst e1 e2
  clear HMV hs2 ho2 ha2 hk2 hz1 hz2
  go_wp2_with (refine list_onew rfl rfl ?_)
  intro bo w3 hbo hx3 hb3
  go_wp2_with (refine list_sstore OutK rfl _ _ rfl (b := bo) (cs := [.slice none 0 0, .slice none 0 0]) (cs' := [.slice x1 z1 y1, .slice x2 z2 y2]) rfl rfl hx3.out rfl rfl rfl ?_)
  intro w4 hx4 hk4
  obtain ⟨q1, q2, q3, q4⟩ := SO.boxed HLT.out HRBE.out HB1.out HX1.out HS2.out HO2.out HA2.out HK2.out hb3.out hbo.out hk4.out hx4.out
  obtain ⟨F4, hF4⟩ : ∃ F4, (fun g => fpS b st1 g ∨ fpO bo (.slice x1 z1 y1) (.slice x2 z2 y2) l g) = F4 := ⟨_, rfl⟩
  have HNF4 : Hid (¬ F4 rb) := by rw [← hF4]; exact q3
  rw [hF4] at q1 q2
  have HSO4 : Hid (SO w.heap.size w4 b s1 bo o1 F4) := q1
  have HKF4 : Hid (Kf w w4 (fpS b st) F4) := q2
  have HX4 : Hid (SB OutK rb [.slice none 0 0, .slice none 0 0] w4) := q4
  have HM4 : Hid (w.heap.size ≤ w4.heap.size) := q2.str.size
  clear q1 q2 q3 q4 hF4 hbo hx3 hb3 hx4 hk4 HS2 HO2 HA2 HK2 HX1 HB1 HRBE HLT
  obtain ⟨p4, hp4⟩ := HSO4.out.cells
  have HB4 : Hid (SB SsK b (ssL s1 p4) w4) := hp4
  have c5 : w4.cell? ⟨b, 5, none⟩ = some (.int .i64 s1.state) := hp4.cell 5
  clear hp4
  go_wp2_with fail
  by_cases h0 : s1.state = 0
  · refine (idle_any b s1.state true w4 c5 (by simpa using h0)).mono ?_
    rintro e w' ⟨rfl, hw'⟩
    rw [hw']
    clear hw' w'
    have HQ : Hid (s1 = s' ∧ o1 = o') := by
      have h5 := HP1.out
      unfold recvQ at h5
      rw [if_pos (Or.inl h0)] at h5
      cases h5
      exact ⟨rfl, rfl⟩
    clear h0
    obtain ⟨rfl, rfl⟩ := HQ.out
    obtain ⟨wZ, hwZ⟩ : ∃ y, w4 = y := ⟨_, rfl⟩
    obtain ⟨FZ, hFZ⟩ : ∃ y, F4 = y := ⟨_, rfl⟩
    have HSOZ : Hid (SO w.heap.size wZ b s1 bo o1 FZ) := by rw [← hwZ, ← hFZ]; exact HSO4.out
    have HKFZ : Hid (Kf w wZ (fpS b st) FZ) := by rw [← hwZ, ← hFZ]; exact HKF4.out
    have HXZ : Hid (SB OutK rb [.slice none 0 0, .slice none 0 0] wZ) := by rw [← hwZ]; exact HX4.out
    have HNFZ : Hid (¬ FZ rb) := by rw [← hFZ]; exact HNF4.out
    rw [hwZ]
    clear hwZ hFZ HSO4 HKF4 HX4 HQ HP1 HP c5
    obtain ⟨st5, vb5, ve5, l5, g1, g2, g3, g4⟩ := HSOZ.out
    have G1 : Hid (Ses wZ b s1 st5) := g1
    have G2 : Hid (Out w.heap.size wZ bo o1 vb5 ve5 l5) := g2
    have G3 : Hid (∀ g, fpS b st5 g → ¬ fpO bo vb5 ve5 l5 g) := g3
    have G4 : Hid (∀ g, FZ g ↔ fpS b st5 g ∨ fpO bo vb5 ve5 l5 g) := g4
    obtain ⟨x1, y1, e1, -⟩ := g2.bys.form
    obtain ⟨x2, y2, e2, -⟩ := g2.ev.own.form
    obtain ⟨z1, hz1⟩ : ∃ y, (o1).b.length = y := ⟨_, rfl⟩
    obtain ⟨z2, hz2⟩ : ∃ y, l5.length = y := ⟨_, rfl⟩
    rw [hz1] at e1
    rw [hz2] at e2
    subst e1 e2
    clear g1 g2 g3 g4 hz1 hz2
    go_wp2_with (first | (refine list_sload OutK rfl _ rfl (b := bo) (cs := [.slice x1 z1 y1, .slice x2 z2 y2]) rfl G2.out.box rfl ?_) | (refine list_sstore OutK rfl _ _ rfl (b := rb) (cs := [.slice none 0 0, .slice none 0 0]) (cs' := [.slice x1 z1 y1, .slice x2 z2 y2]) rfl rfl HXZ.out rfl rfl rfl ?_))
    intro w16 hb16 hk16
    have HR : Hid (MvPost w b st (s1, o1) (.returned (.agg #[.slice x1 z1 y1, .slice x2 z2 y2])) w16) := mv_end G1.out G2.out G3.out G4.out HKFZ.out HNFZ.out HRB.out hk16.out
    clear hk16 G1 G2 G3 G4 HSOZ HKFZ HXZ
    go_wp2_with fail
    exact bodyPost_ret (rc_res hb16.out rfl) rfl HR.out
  · refine (idle_any b s1.state false w4 c5 (by simpa using h0)).mono ?_
    rintro e w' ⟨rfl, hw'⟩
    rw [hw']
    clear hw' w'
    by_cases hz : n = 0
    · have HQ : Hid (s1 = s' ∧ o1 = o') := by
        have h5 := HP1.out
        unfold recvQ at h5
        rw [if_pos (Or.inr (List.length_eq_zero_iff.1 (by rw [HN.out]; exact hz)))] at h5
        cases h5
        exact ⟨rfl, rfl⟩
      subst hz
      clear h0
      obtain ⟨rfl, rfl⟩ := HQ.out
      obtain ⟨wZ, hwZ⟩ : ∃ y, w4 = y := ⟨_, rfl⟩
      obtain ⟨FZ, hFZ⟩ : ∃ y, F4 = y := ⟨_, rfl⟩
      have HSOZ : Hid (SO w.heap.size wZ b s1 bo o1 FZ) := by rw [← hwZ, ← hFZ]; exact HSO4.out
      have HKFZ : Hid (Kf w wZ (fpS b st) FZ) := by rw [← hwZ, ← hFZ]; exact HKF4.out
      have HXZ : Hid (SB OutK rb [.slice none 0 0, .slice none 0 0] wZ) := by rw [← hwZ]; exact HX4.out
      have HNFZ : Hid (¬ FZ rb) := by rw [← hFZ]; exact HNF4.out
      rw [hwZ]
      clear hwZ hFZ HSO4 HKF4 HX4 HQ HP1 HP c5
      obtain ⟨st5, vb5, ve5, l5, g1, g2, g3, g4⟩ := HSOZ.out
      have G1 : Hid (Ses wZ b s1 st5) := g1
      have G2 : Hid (Out w.heap.size wZ bo o1 vb5 ve5 l5) := g2
      have G3 : Hid (∀ g, fpS b st5 g → ¬ fpO bo vb5 ve5 l5 g) := g3
      have G4 : Hid (∀ g, FZ g ↔ fpS b st5 g ∨ fpO bo vb5 ve5 l5 g) := g4
      obtain ⟨x1, y1, e1, -⟩ := g2.bys.form
      obtain ⟨x2, y2, e2, -⟩ := g2.ev.own.form
      obtain ⟨z1, hz1⟩ : ∃ y, (o1).b.length = y := ⟨_, rfl⟩
      obtain ⟨z2, hz2⟩ : ∃ y, l5.length = y := ⟨_, rfl⟩
      rw [hz1] at e1
      rw [hz2] at e2
      subst e1 e2
      clear g1 g2 g3 g4 hz1 hz2
      go_wp2_with (first | (refine list_sload OutK rfl _ rfl (b := bo) (cs := [.slice x1 z1 y1, .slice x2 z2 y2]) rfl G2.out.box rfl ?_) | (refine list_sstore OutK rfl _ _ rfl (b := rb) (cs := [.slice none 0 0, .slice none 0 0]) (cs' := [.slice x1 z1 y1, .slice x2 z2 y2]) rfl rfl HXZ.out rfl rfl rfl ?_))
      intro w16 hb16 hk16
      have HR : Hid (MvPost w b st (s1, o1) (.returned (.agg #[.slice x1 z1 y1, .slice x2 z2 y2])) w16) := mv_end G1.out G2.out G3.out G4.out HKFZ.out HNFZ.out HRB.out hk16.out
      clear hk16 G1 G2 G3 G4 HSOZ HKFZ HXZ
      go_wp2_with fail
      exact bodyPost_ret (rc_res hb16.out rfl) rfl HR.out
    · have hzi : ¬ (n : Int) = 0 := by omega
      have hzb : ((n : Int) == 0) = false := by simpa using hzi
      have H0 : Hid (¬ s1.state = 0) := h0
      have HZ : Hid (¬ n = 0) := hz
      clear h0 hz
      have c4 : w4.cell? ⟨b, 4, none⟩ = some (.int .i64 s1.clock) := HB4.out.cell 4
      have c7 : w4.cell? ⟨b, 7, none⟩ = some (.int .i64 s1.heard) := HB4.out.cell 7
      have f7 : w4.frozen? ⟨b, 7, none⟩ = false := HB4.out.fro 7
      obtain ⟨s2, hs2⟩ : ∃ y, ({ s1 with heard := s1.clock } : Se) = y := ⟨_, rfl⟩
      have HB5 : Hid (SB SsK b (ssL s2 p4) (w4.setCell ⟨b, 7, none⟩ (.int .i64 s1.clock))) := by rw [← hs2]; exact HB4.out.set 7 _ rfl
      have HS2E : Hid (s2.x = s1.x ∧ s2.f = s1.f ∧ (∀ T : List Ms × List Nat × Int, ({ s2 with x := T.2.1, f := T.2.2 } : Se) = { s1 with heard := s1.clock, x := T.2.1, f := T.2.2 }) ∧ ¬ s2.state = 0) := by rw [← hs2]; exact ⟨rfl, rfl, fun _ => rfl, H0.out⟩
      have HT5 : Hid (SO w.heap.size (w4.setCell ⟨b, 7, none⟩ (.int .i64 s1.clock)) b s2 bo o1 F4 ∧ Kf w4 (w4.setCell ⟨b, 7, none⟩ (.int .i64 s1.clock)) F4 F4) := by
        refine SO.turn HSO4.out (Ko.set _ _ _ _) ⟨p4, HB4.out, HB5.out⟩ (by rw [← hs2]) (by rw [← hs2]; exact ⟨rfl, rfl⟩) ?_ (by rw [← hs2]; exact HSO4.out.wt)
        rw [← hs2]
        obtain ⟨r1, r2, r3, r4, r5⟩ := HSO4.out.rg
        show 0 ≤ s1.clock ∧ s1.clock ≤ s1.clock ∧ 0 ≤ s1.sent ∧ s1.sent ≤ s1.clock ∧ s1.clock < _
        omega
      clear hs2
      obtain ⟨w5, hw5⟩ : ∃ y, w4.setCell ⟨b, 7, none⟩ (.int .i64 s1.clock) = y := ⟨_, rfl⟩
      have HW5 : Hid (w4.setCell ⟨b, 7, none⟩ (.int .i64 s1.clock) = w5) := hw5
      rw [hw5] at HB5 HT5
      clear hw5
      have HKF5 : Hid (Kf w w5 (fpS b st) F4) := HKF4.out.trans HT5.out.2
      have HX5 : Hid (SB OutK rb [.slice none 0 0, .slice none 0 0] w5) := HX4.out.blk (HT5.out.2.blk rb HX4.out.lt HNF4.out)
      obtain ⟨st5, vb5, ve5, l5, g1, g2, g3, g4⟩ := HT5.out.1
      obtain ⟨⟨bs, a5, c5'⟩, rfl⟩ : ∃ p, st5 = some p := by
        cases st5 with
        | none => exact absurd (g1.idl.1 rfl) HS2E.out.2.2.2
        | some p => exact ⟨p, rfl⟩
      have G1 : Hid (Ses w5 b s2 (some (bs, a5, c5'))) := g1
      have G2 : Hid (Out w.heap.size w5 bo o1 vb5 ve5 l5) := g2
      have G3 : Hid (∀ g, fpS b (some (bs, a5, c5')) g → ¬ fpO bo vb5 ve5 l5 g) := g3
      have G4 : Hid (∀ g, F4 g ↔ fpS b (some (bs, a5, c5')) g ∨ fpO bo vb5 ve5 l5 g) := g4
      have c6 : w5.cell? ⟨b, 6, none⟩ = some (.pointer (some ⟨bs, 0, none⟩)) := g1.box.cell 6
      have HFD : Hid (Fed w5 bs a5 va n cap r) := by
        have hF : ∀ ad, va = some ad → ¬ F4 ad.block := fun ad e hf => by
          obtain ⟨k1, k2⟩ := HNE.out ad e
          rcases HKF5.out.now _ hf with e2 | e2
          · exact k1 e2
          · omega
        refine ⟨HL.out.keep HKF5.out.str.size (fun g o2 e hl => HKF5.out.blk g hl (HNE.out _ e).1), HN.out, hcap, HU.out, fun ad e => ⟨fun e2 => hF ad e ((g4 _).2 (.inl (.inr ⟨_, rfl, .inl e2⟩))), fun e2 => hF ad e ((g4 _).2 (.inl (.inr ⟨_, rfl, .inr e2⟩))), Nat.lt_of_lt_of_le (HNE.out ad e).2 HKF5.out.str.size⟩⟩
      obtain ⟨T1, T2, T3, hT⟩ : ∃ a b c, TK s2.x s2.f r = (a, b, c) := ⟨_, _, _, rfl⟩
      have HTK : Hid (TK s2.x s2.f r = (T1, T2, T3)) := hT
      have HTAKE := take_any (bs + 1) bs a5 c5' s2.x s2.f va n cap r w5 (g1.str _ rfl).1 g1.ok.1 (g1.str _ rfl).1.hl HFD.out (by have := g1.ok.2; omega)
      rw [hT] at HTAKE
      have HXL : Hid (s2.x.length ≤ 1024) := g1.ok.2
      have HOKS : Hid ((s2.f = 0 → SOk s2.x) ∧ s2.x.length ≤ 1024) := g1.ok
      clear hT g1 g2 g3 g4
      have c6w : w4.cell? ⟨b, 6, none⟩ = some (.pointer (some ⟨bs, 0, none⟩)) := (HB4.out.cell 6).trans ((HB5.out.cell 6).symm.trans c6)
      go_wp2_with fail
      rw [HW5.out]
      clear HW5 c4 c7 f7 c5 c6w
      refine HTAKE.mono ?_
      rintro e w6 ⟨v6, l6, a6, c6', rfl, hms6, hl6, hst6, hkt6, hap6, hap6v⟩
      dsimp only at hl6 hst6 ⊢
      have hTE := TK_enc s2.x s2.f r
      have hTO := TK_ok r HOKS.out
      rw [HTK.out] at hTE hTO
      dsimp only at hTE hTO
      obtain ⟨F6, hso6, hkf6, hm6, hv6⟩ := SO.took (T := (T1, T2, T3)) G1.out G2.out G3.out G4.out hTO hms6 hst6 hkt6 hap6 hap6v
      obtain ⟨s3, hs3⟩ : ∃ y, ({ s2 with x := T2, f := T3 } : Se) = y := ⟨_, rfl⟩
      dsimp only at hso6
      rw [hs3] at hso6
      have HKF6 : Hid (Kf w w6 (fpS b st) F6) := HKF5.out.trans hkf6
      have HP3 : Hid (faultP (hearsP s3 o1 T1) T3 = (s', o')) := by
        have h5 := HP1.out
        unfold recvQ at h5
        rw [if_neg (fun c => c.elim H0.out (fun e => HZ.out (by rw [← HN.out, e]; rfl))), ← HS2E.out.1, ← HS2E.out.2.1, HTK.out] at h5
        rw [← h5, ← hs3, HS2E.out.2.2.1 (T1, T2, T3)]
        unfold tookP
        rw [← HS2E.out.1, ← HS2E.out.2.1, HTK.out]
        exact rfl
      obtain ⟨va6, vc6, hv6f, -⟩ := hms6.own.form
      obtain ⟨nl, hnl⟩ : ∃ y, l6.length = y := ⟨_, rfl⟩
      have HNL : Hid (l6.length = nl) := hnl
      rw [hnl] at hv6f
      subst hv6f
      have hnlb : nl ≤ 501024 := by
        have h5 := hTE.2
        have h6 := HXL.out
        rw [← hl6, List.length_map, hnl, HN.out] at h5
        omega
      have HML : Hid (Ml w6 F6 va6 l6 w5.heap.size) := by
        refine ⟨hms6.pw, fun p hp g hm => ⟨hm6 p hp g hm, ((hms6.each p hp).rng g hm).2, ((hms6.each p hp).rng g hm).1⟩, fun g e => ?_⟩
        rw [← ob_own] at e
        exact ⟨hv6 g e, (hms6.own.row.lt g e).2, fun p hp hm => hms6.ap p hp g hm e⟩
      obtain ⟨q, hq⟩ : ∃ y, hearsP s3 o1 T1 = y := ⟨_, rfl⟩
      have HRL0 : Hid (RL w.heap.size w6 b bo rb F6 va6 l6 q o1 w6 0 s3 o1 F6) := RL.begin hso6 hms6 HKF5.out.str.size (by rw [hl6]; exact hq)
      have HX6 : Hid (SB OutK rb [.slice none 0 0, .slice none 0 0] w6) := HX5.out.blk (hkf6.blk rb HX5.out.lt HNF4.out)
      have HNF6 : Hid (¬ F6 rb) := fun e => by
        rcases hkf6.now rb e with e2 | e2
        · exact HNF4.out e2
        · have := HX5.out.lt; omega
      have HRM : Hid (rb < w5.heap.size) := HX5.out.lt
      have HHO : Hid (∀ p ∈ l6, encE p.1 = 0) := fun p hp => hTE.1 p.1 (by rw [← hl6]; exact List.mem_map.2 ⟨p, hp, rfl⟩)
      have HPQ : Hid (faultP q T3 = (s', o')) := by rw [← hq]; exact HP3.out
      have HWM : Hid (w.heap.size ≤ w5.heap.size) := HKF5.out.str.size
      clear HTAKE hms6 hl6 hst6 hkt6 hap6 hap6v hTE hTO hso6 hkf6 hm6 hv6 hs3 hnl hq HP3 HP1 HP G1 G2 G3 G4 HT5 HB5 HB4 HSO4 HKF4 HX4 HX5 HKF5 HFD c6 hzb hzi
      go_wp2_with fail
      go_loopw [43] (fun kv wr => ∃ (j : Nat) (sj : Se) (oj : Ou) (Fj : Nat → Prop), j ≤ nl ∧ kv = .int .i64 (j : Int) ∧ RL w.heap.size w6 b bo rb F6 va6 l6 q o1 wr j sj oj Fj) (fun k _ => nl - (intOf k).toNat)
      case atStart => exact ⟨0, s3, o1, F6, by omega, rfl, HRL0.out⟩
      case round =>
        obtain ⟨j, sj, oj, Fj, hj, rfl, hrl⟩ := hrel
        have HRL : Hid (RL w.heap.size w6 b bo rb F6 va6 l6 q o1 wr j sj oj Fj) := hrl
        have HNX := hrl.not HML.out HRM.out HX6.out.lt HNF6.out
        have HXR : Hid (SB OutK rb [.slice none 0 0, .slice none 0 0] wr) := HX6.out.blk HNX.2
        have HNR : Hid (¬ Fj rb) := HNX.1
        have HKR : Hid (Kf w wr (fpS b st) Fj) := hrl.kf HML.out HWM.out HKF6.out
        clear HNX hrl HRL0
        have HQJ : Hid (hearsP sj oj ((l6.drop j).map (fun p => p.1)) = q) := HRL.out.pl
        have HLJ : Hid (oj.b.length ≤ 1000000000 ∧ oj.ev.length ≤ 100000000) := by
          have h1 := HRL.out.lb
          have h2 := HRL.out.le
          have h3 := HLN.out
          have h4 : 1024 * j ≤ 1024 * 501024 := Nat.mul_le_mul_left 1024 (Nat.le_trans hj hnlb)
          have h5 : 1024 * 501024 = 513048576 := by decide
          rw [h5] at h4
          generalize 1024 * j = z at h1 h4
          exact ⟨by omega, by omega⟩
        by_cases hjl : j < nl
        · as_aux_lemma =>
          have hjli : (j : Int) < (nl : Int) := by omega
          have hj0 : (0 : Int) ≤ (j : Int) := by omega
          have hj3 : j < l6.length := by rw [HNL.out]; exact hjl
          obtain ⟨b1, o8, hb1, -, hc1⟩ := lst17 HRL.out.lst j hj3
          obtain ⟨mj, lj, hmj⟩ : ∃ m s, l6[j] = (m, s) := ⟨_, _, rfl⟩
          have hmo := HRL.out.each j hj3 (Nat.le_refl _)
          have hen := HHO.out _ (List.getElem_mem hj3)
          have hfr := fun g hm => HRL.out.free (m0 := w5.heap.size) g (HML.out.fr _ (List.getElem_mem hj3) g hm).1 (HML.out.fr _ (List.getElem_mem hj3) g hm).2.1 (HML.out.take hj3 (Nat.le_refl j) g hm)
          rw [hmj] at hc1 hmo hen hfr
          have HC1 : Hid (∀ y, y < 17 → wr.cell? ⟨b1, o8 + j * 17 + y, none⟩ = (msL mj lj)[y]?) := hc1
          have HMO : Hid (MO w.heap.size wr mj lj) := hmo
          have HEN1 : Hid (encE mj = 0) := hen
          have HFR : Hid (∀ g, Mown lj g → ¬ Fj g) := hfr
          have HMJ : Hid (l6[j] = (mj, lj)) := hmj
          subst hb1
          clear hc1 hmo hen hfr hmj
          go_wp2_with (first | (refine list_mat rfl _ rfl (b := b1) (k := o8 + j * 17) rfl HC1.out ?_) | (refine list_mnew rfl rfl ?_))
          intro bm wa hbm hxm hba
          go_wp2_with (refine list_sstore PmK rfl _ _ rfl (b := bm) (cs := msL ms0 sZ) (cs' := msL mj lj) rfl rfl hxm.out rfl rfl rfl ?_)
          intro wm hxm2 hkm
          have HXM : Hid (SB PmK bm (msL mj lj) wm) := hxm2.out
          have HBM : Hid (Below wr.heap.size wr wm) := hba.out.trans (hkm.out.below (by have := hbm.out; omega))
          have HSOM : Hid (SO w.heap.size wm b sj bo oj Fj) := HRL.out.so.bel HBM.out
          have HKM : Hid (Kf w wm (fpS b st) Fj) := HKR.out.trans (Kf.bel _ HBM.out)
          have HXRM : Hid (SB OutK rb [.slice none 0 0, .slice none 0 0] wm) := HXR.out.blk (HBM.out.block rb HXR.out.lt)
          obtain ⟨pm, hpm⟩ := HSOM.out.cells
          have c5 : wm.cell? ⟨b, 5, none⟩ = some (.int .i64 sj.state) := hpm.cell 5
          have HMOM : Hid (MO w.heap.size wm mj lj) := HMO.out.blk (fun g _ _ hl => HBM.out.block g hl)
          have HMM : Hid (w.heap.size ≤ wm.heap.size) := HKM.out.str.size
          clear hbm hxm hba hxm2 hkm hpm
          go_wp2_with fail
          by_cases h0 : sj.state = 0
          · refine (idle_any b sj.state true wm c5 (by simpa using h0)).mono ?_
            rintro e w' ⟨rfl, hw'⟩
            rw [hw']
            clear hw' w'
            have HQ : Hid (sj = s' ∧ oj = o') := by
              have h5 := HQJ.out
              rw [hears_idle _ _ _ h0] at h5
              have h6 := HPQ.out
              rw [← h5] at h6
              unfold faultP at h6
              rw [if_neg (fun c => c.2 h0)] at h6
              cases h6
              exact ⟨rfl, rfl⟩
            clear h0
            obtain ⟨wZ, hwZ⟩ : ∃ y, wm = y := ⟨_, rfl⟩
            obtain ⟨FZ, hFZ⟩ : ∃ y, Fj = y := ⟨_, rfl⟩
            have HSOZ : Hid (SO w.heap.size wZ b s' bo o' FZ) := by rw [← hwZ, ← hFZ, ← HQ.out.1, ← HQ.out.2]; exact HSOM.out
            have HKFZ : Hid (Kf w wZ (fpS b st) FZ) := by rw [← hwZ, ← hFZ]; exact HKM.out
            have HXZ : Hid (SB OutK rb [.slice none 0 0, .slice none 0 0] wZ) := by rw [← hwZ]; exact HXRM.out
            have HNFZ : Hid (¬ FZ rb) := by rw [← hFZ]; exact HNR.out
            rw [hwZ]
            clear hwZ hFZ HSOM HKM HXRM c5
            obtain ⟨st5, vb5, ve5, l5, g1, g2, g3, g4⟩ := HSOZ.out
            have G1 : Hid (Ses wZ b s' st5) := g1
            have G2 : Hid (Out w.heap.size wZ bo o' vb5 ve5 l5) := g2
            have G3 : Hid (∀ g, fpS b st5 g → ¬ fpO bo vb5 ve5 l5 g) := g3
            have G4 : Hid (∀ g, FZ g ↔ fpS b st5 g ∨ fpO bo vb5 ve5 l5 g) := g4
            obtain ⟨x1, y1, e1, -⟩ := g2.bys.form
            obtain ⟨x2, y2, e2, -⟩ := g2.ev.own.form
            obtain ⟨z1, hz1⟩ : ∃ y, (o').b.length = y := ⟨_, rfl⟩
            obtain ⟨z2, hz2⟩ : ∃ y, l5.length = y := ⟨_, rfl⟩
            rw [hz1] at e1
            rw [hz2] at e2
            subst e1 e2
            clear g1 g2 g3 g4 hz1 hz2
            go_wp2_with (first | (refine list_sload OutK rfl _ rfl (b := bo) (cs := [.slice x1 z1 y1, .slice x2 z2 y2]) rfl G2.out.box rfl ?_) | (refine list_sstore OutK rfl _ _ rfl (b := rb) (cs := [.slice none 0 0, .slice none 0 0]) (cs' := [.slice x1 z1 y1, .slice x2 z2 y2]) rfl rfl HXZ.out rfl rfl rfl ?_))
            intro w16 hb16 hk16
            have HR : Hid (MvPost w b st (s', o') (.returned (.agg #[.slice x1 z1 y1, .slice x2 z2 y2])) w16) := mv_end G1.out G2.out G3.out G4.out HKFZ.out HNFZ.out HRB.out hk16.out
            clear hk16 G1 G2 G3 G4 HSOZ HKFZ HXZ
            go_wp2_with fail
            exact bodyPost_ret (rc_res hb16.out rfl) rfl HR.out
          · refine (idle_any b sj.state false wm c5 (by simpa using h0)).mono ?_
            rintro e w' ⟨rfl, hw'⟩
            rw [hw']
            clear hw' w'
            obtain ⟨s9, o9, h9⟩ : ∃ x y, hearP sj oj mj = (x, y) := ⟨_, _, rfl⟩
            have hho := enc_hold HEN1.out
            have HHR := hear_any w.heap.size b bo sj oj Fj mj lj wm HSOM.out HMM.out h0 ⟨by omega, by omega⟩ HMOM.out HFR.out HLJ.out.1 HLJ.out.2 s9 o9 h9
            have HP9 : Hid (hearP sj oj mj = (s9, o9)) := h9
            have H0J : Hid (¬ sj.state = 0) := h0
            clear h9 h0 hho c5
            go_wp2_with (refine list_sload PmK rfl _ rfl (b := bm) (cs := msL mj lj) rfl HXM.out rfl ?_)
            refine HHR.mono ?_
            rintro e w9 ⟨⟨u, rfl⟩, F9, hs9, hk9, hf9⟩
            have HR9 : Hid (RL w.heap.size w6 b bo rb F6 (some ⟨b1, o8, none⟩) l6 q o1 w9 (j + 1) s9 o9 F9) := by
              refine RL.step HRL.out HML.out hj3 H0J.out HBM.out (by rw [HMJ.out]; exact HP9.out) hs9 (by rw [HMJ.out]; exact hk9) (by rw [HMJ.out]; exact hf9)
            clear HHR hs9 hk9 hf9
            go_wp2_with fail
            exact ⟨⟨j + 1, s9, o9, F9, by omega, by simp, HR9.out⟩, by simp [intOf]; omega⟩
        · as_aux_lemma =>
          obtain rfl : nl = j := by omega
          have hjli : ¬ (nl : Int) < (nl : Int) := by omega
          have HQE : Hid (q = (sj, oj)) := by
            have h5 := HQJ.out
            rw [List.drop_eq_nil_of_le (by rw [HNL.out]; exact Nat.le_refl _)] at h5
            exact h5.symm
          have HSOR : Hid (SO w.heap.size wr b sj bo oj Fj) := HRL.out.so
          obtain ⟨pr, hpr⟩ := HSOR.out.cells
          have c5 : wr.cell? ⟨b, 5, none⟩ = some (.int .i64 sj.state) := hpr.cell 5
          have HMR : Hid (w.heap.size ≤ wr.heap.size) := HKR.out.str.size
          clear hpr
          by_cases hT3 : T3 = 0
          · have HQ : Hid (sj = s' ∧ oj = o') := by
              have h6 := HPQ.out
              rw [HQE.out] at h6
              unfold faultP at h6
              rw [if_neg (fun c => c.1 hT3)] at h6
              cases h6
              exact ⟨rfl, rfl⟩
            subst hT3
            obtain ⟨wZ, hwZ⟩ : ∃ y, wr = y := ⟨_, rfl⟩
            obtain ⟨FZ, hFZ⟩ : ∃ y, Fj = y := ⟨_, rfl⟩
            have HSOZ : Hid (SO w.heap.size wZ b s' bo o' FZ) := by rw [← hwZ, ← hFZ, ← HQ.out.1, ← HQ.out.2]; exact HSOR.out
            have HKFZ : Hid (Kf w wZ (fpS b st) FZ) := by rw [← hwZ, ← hFZ]; exact HKR.out
            have HXZ : Hid (SB OutK rb [.slice none 0 0, .slice none 0 0] wZ) := by rw [← hwZ]; exact HXR.out
            have HNFZ : Hid (¬ FZ rb) := by rw [← hFZ]; exact HNR.out
            rw [hwZ]
            clear hwZ hFZ HSOR c5
            obtain ⟨st5, vb5, ve5, l5, g1, g2, g3, g4⟩ := HSOZ.out
            have G1 : Hid (Ses wZ b s' st5) := g1
            have G2 : Hid (Out w.heap.size wZ bo o' vb5 ve5 l5) := g2
            have G3 : Hid (∀ g, fpS b st5 g → ¬ fpO bo vb5 ve5 l5 g) := g3
            have G4 : Hid (∀ g, FZ g ↔ fpS b st5 g ∨ fpO bo vb5 ve5 l5 g) := g4
            obtain ⟨x1, y1, e1, -⟩ := g2.bys.form
            obtain ⟨x2, y2, e2, -⟩ := g2.ev.own.form
            obtain ⟨z1, hz1⟩ : ∃ y, (o').b.length = y := ⟨_, rfl⟩
            obtain ⟨z2, hz2⟩ : ∃ y, l5.length = y := ⟨_, rfl⟩
            rw [hz1] at e1
            rw [hz2] at e2
            subst e1 e2
            clear g1 g2 g3 g4 hz1 hz2
            go_wp2_with (first | (refine list_sload OutK rfl _ rfl (b := bo) (cs := [.slice x1 z1 y1, .slice x2 z2 y2]) rfl G2.out.box rfl ?_) | (refine list_sstore OutK rfl _ _ rfl (b := rb) (cs := [.slice none 0 0, .slice none 0 0]) (cs' := [.slice x1 z1 y1, .slice x2 z2 y2]) rfl rfl HXZ.out rfl rfl rfl ?_))
            intro w16 hb16 hk16
            have HR : Hid (MvPost w b st (s', o') (.returned (.agg #[.slice x1 z1 y1, .slice x2 z2 y2])) w16) := mv_end G1.out G2.out G3.out G4.out HKFZ.out HNFZ.out HRB.out hk16.out
            clear hk16 G1 G2 G3 G4 HSOZ HKFZ HXZ
            go_wp2_with fail
            exact bodyPost_ret (rc_res hb16.out rfl) rfl HR.out
          · have hT3b : (T3 != 0) = true := by simpa using hT3
            have HT3 : Hid (¬ T3 = 0) := hT3
            clear hT3
            go_wp2_with fail
            by_cases h0 : sj.state = 0
            · refine (idle_any b sj.state true wr c5 (by simpa using h0)).mono ?_
              rintro e w' ⟨rfl, hw'⟩
              rw [hw']
              clear hw' w'
              have HQ : Hid (sj = s' ∧ oj = o') := by
                have h6 := HPQ.out
                rw [HQE.out] at h6
                unfold faultP at h6
                rw [if_neg (fun c => c.2 h0)] at h6
                cases h6
                exact ⟨rfl, rfl⟩
              clear h0
              obtain ⟨wZ, hwZ⟩ : ∃ y, wr = y := ⟨_, rfl⟩
              obtain ⟨FZ, hFZ⟩ : ∃ y, Fj = y := ⟨_, rfl⟩
              have HSOZ : Hid (SO w.heap.size wZ b s' bo o' FZ) := by rw [← hwZ, ← hFZ, ← HQ.out.1, ← HQ.out.2]; exact HSOR.out
              have HKFZ : Hid (Kf w wZ (fpS b st) FZ) := by rw [← hwZ, ← hFZ]; exact HKR.out
              have HXZ : Hid (SB OutK rb [.slice none 0 0, .slice none 0 0] wZ) := by rw [← hwZ]; exact HXR.out
              have HNFZ : Hid (¬ FZ rb) := by rw [← hFZ]; exact HNR.out
              rw [hwZ]
              clear hwZ hFZ HSOR c5
              obtain ⟨st5, vb5, ve5, l5, g1, g2, g3, g4⟩ := HSOZ.out
              have G1 : Hid (Ses wZ b s' st5) := g1
              have G2 : Hid (Out w.heap.size wZ bo o' vb5 ve5 l5) := g2
              have G3 : Hid (∀ g, fpS b st5 g → ¬ fpO bo vb5 ve5 l5 g) := g3
              have G4 : Hid (∀ g, FZ g ↔ fpS b st5 g ∨ fpO bo vb5 ve5 l5 g) := g4
              obtain ⟨x1, y1, e1, -⟩ := g2.bys.form
              obtain ⟨x2, y2, e2, -⟩ := g2.ev.own.form
              obtain ⟨z1, hz1⟩ : ∃ y, (o').b.length = y := ⟨_, rfl⟩
              obtain ⟨z2, hz2⟩ : ∃ y, l5.length = y := ⟨_, rfl⟩
              rw [hz1] at e1
              rw [hz2] at e2
              subst e1 e2
              clear g1 g2 g3 g4 hz1 hz2
              go_wp2_with (first | (refine list_sload OutK rfl _ rfl (b := bo) (cs := [.slice x1 z1 y1, .slice x2 z2 y2]) rfl G2.out.box rfl ?_) | (refine list_sstore OutK rfl _ _ rfl (b := rb) (cs := [.slice none 0 0, .slice none 0 0]) (cs' := [.slice x1 z1 y1, .slice x2 z2 y2]) rfl rfl HXZ.out rfl rfl rfl ?_))
              intro w16 hb16 hk16
              have HR : Hid (MvPost w b st (s', o') (.returned (.agg #[.slice x1 z1 y1, .slice x2 z2 y2])) w16) := mv_end G1.out G2.out G3.out G4.out HKFZ.out HNFZ.out HRB.out hk16.out
              clear hk16 G1 G2 G3 G4 HSOZ HKFZ HXZ
              go_wp2_with fail
              exact bodyPost_ret (rc_res hb16.out rfl) rfl HR.out
            · refine (idle_any b sj.state false wr c5 (by simpa using h0)).mono ?_
              rintro e w' ⟨rfl, hw'⟩
              rw [hw']
              clear hw' w'
              have HEN := end_any w.heap.size b bo sj oj Fj 1 wr HSOR.out HMR.out HLJ.out.1 HLJ.out.2 s' o' (by rw [← HPQ.out, HQE.out]; unfold faultP; rw [if_pos ⟨HT3.out, h0⟩])
              clear h0
              go_wp2_with fail
              refine HEN.mono ?_
              rintro e wZ ⟨⟨u, rfl⟩, FZ, hs8, hk8⟩
              have HSOZ : Hid (SO w.heap.size wZ b s' bo o' FZ) := hs8
              have HKFZ : Hid (Kf w wZ (fpS b st) FZ) := HKR.out.trans hk8
              have HXZ : Hid (SB OutK rb [.slice none 0 0, .slice none 0 0] wZ) := HXR.out.blk (hk8.blk rb HXR.out.lt HNR.out)
              have HNFZ : Hid (¬ FZ rb) := fun h => by
                rcases hk8.now rb h with h | h
                · exact HNR.out h
                · have := HXR.out.lt; omega
              clear HEN hs8 hk8 c5
              obtain ⟨st5, vb5, ve5, l5, g1, g2, g3, g4⟩ := HSOZ.out
              have G1 : Hid (Ses wZ b s' st5) := g1
              have G2 : Hid (Out w.heap.size wZ bo o' vb5 ve5 l5) := g2
              have G3 : Hid (∀ g, fpS b st5 g → ¬ fpO bo vb5 ve5 l5 g) := g3
              have G4 : Hid (∀ g, FZ g ↔ fpS b st5 g ∨ fpO bo vb5 ve5 l5 g) := g4
              obtain ⟨x1, y1, e1, -⟩ := g2.bys.form
              obtain ⟨x2, y2, e2, -⟩ := g2.ev.own.form
              obtain ⟨z1, hz1⟩ : ∃ y, (o').b.length = y := ⟨_, rfl⟩
              obtain ⟨z2, hz2⟩ : ∃ y, l5.length = y := ⟨_, rfl⟩
              rw [hz1] at e1
              rw [hz2] at e2
              subst e1 e2
              clear g1 g2 g3 g4 hz1 hz2
              go_wp2_with (first | (refine list_sload OutK rfl _ rfl (b := bo) (cs := [.slice x1 z1 y1, .slice x2 z2 y2]) rfl G2.out.box rfl ?_) | (refine list_sstore OutK rfl _ _ rfl (b := rb) (cs := [.slice none 0 0, .slice none 0 0]) (cs' := [.slice x1 z1 y1, .slice x2 z2 y2]) rfl rfl HXZ.out rfl rfl rfl ?_))
              intro w16 hb16 hk16
              have HR : Hid (MvPost w b st (s', o') (.returned (.agg #[.slice x1 z1 y1, .slice x2 z2 y2])) w16) := mv_end G1.out G2.out G3.out G4.out HKFZ.out HNFZ.out HRB.out hk16.out
              clear hk16 G1 G2 G3 G4 HSOZ HKFZ HXZ
              go_wp2_with fail
              exact bodyPost_ret (rc_res hb16.out rfl) rfl HR.out
end Go.Proofs.Ytanboekdfdafmaa.Pv
namespace Go.Proofs.Ytanboekdfdafmaa.Pv
open Go.ChangeShapes Go.WideShapes Go.ChangeAt Go.RowKit Go.Joins Go.Deep Go.Proofs.Ytanboekdfdafmaa.PM Go.Proofs.Ytanboekdfdafmaa.Ask Go.Proofs.Ytanboekdfdafmaa.Ge
set_option linter.unusedVariables false
set_option linter.unusedSimpArgs false

def upd {α : Type} (f : Nat → α) (i : Nat) (x : α) : Nat → α := fun k => if k = i then x else f k
theorem upd_at {α : Type} (f : Nat → α) (i : Nat) (x : α) : upd f i x i = x := if_pos rfl
theorem upd_ne {α : Type} (f : Nat → α) {i k : Nat} (x : α) (h : k ≠ i) : upd f i x k = f k := if_neg h
/-- two ends: how they stand, what is under way to each, what each was given, what each told, how often each came up -/
structure Tl where
  s : Nat → Se
  y : Nat → List Nat
  g : Nat → List Ms
  o : Nat → List Ms
  u : Nat → Int
  clk : Int
/-- what happened is written down -/
def evP (who : Nat) (t : Tl) (e : Ev) : Tl := if e.kind = 1 then { t with u := upd t.u who (t.u who + 1) } else if e.kind = 3 then { t with o := upd t.o who (t.o who ++ [e.m]) } else t
def wayP (t : Tl) (j : Nat) (x : List Nat) : Tl := { t with y := upd t.y j x }
def outP (t : Tl) (who : Nat) (o : Ou) : Tl := o.ev.foldl (evP who) (wayP t (1 - who) (t.y (1 - who) ++ o.b))
def comesP (t : Tl) (who k : Nat) : Tl :=
  let q := recvP (t.s who) ((t.y who).take k) t.clk
  outP { wayP t who ((t.y who).drop k) with s := upd t.s who q.1 } who q.2
def bothP (t : Tl) : Tl := let t1 := comesP t 0 (t.y 0).length; comesP t1 1 (t1.y 1).length
def settleP : Nat → Tl → Tl
  | 0, t => t
  | n + 1, t => settleP n (bothP t)
/-! in memory -/
/-- where all that lies -/
structure Cp where
  b : Nat → Nat
  st : Nat → Sp
  w : Nat → Value
  g : Nat → Value
  h : Nat → List (Ms × Sl)
  v : Nat → Value
  l : Nat → List (Ms × Sl)
def TaK : Sk := ⟨42, 11, _, Try.underlying42, rfl, by kernel_rfl⟩
def taL (t : Tl) (c : Cp) : List Value := [.pointer (some ⟨c.b 0, 0, none⟩), .pointer (some ⟨c.b 1, 0, none⟩), c.w 0, c.w 1, c.g 0, c.g 1, c.v 0, c.v 1, .int .i64 (t.u 0), .int .i64 (t.u 1), .int .i64 t.clk]
/-- its blocks, in nine parts -/
def Cp.F (c : Cp) (bt : Nat) : Nat → Nat → Prop
  | 0, g => g = bt
  | 1, g => fpS (c.b 0) (c.st 0) g
  | 2, g => fpS (c.b 1) (c.st 1) g
  | 3, g => (c.w 0).ownBlock = some g
  | 4, g => (c.w 1).ownBlock = some g
  | 5, g => (c.g 0).ownBlock = some g
  | 6, g => (c.g 1).ownBlock = some g
  | 7, g => (c.v 0).ownBlock = some g ∨ ∃ p ∈ c.l 0, Mown p.2 g
  | 8, g => (c.v 1).ownBlock = some g ∨ ∃ p ∈ c.l 1, Mown p.2 g
  | _, _ => False
def Cp.A (c : Cp) (bt g : Nat) : Prop := ∃ k, k < 9 ∧ c.F bt k g
structure TI (N : Nat) (W : World) (bt : Nat) (t : Tl) (c : Cp) : Prop where
  box : SB TaK bt (taL t c) W
  e : ∀ i, i < 2 → Ses W (c.b i) (t.s i) (c.st i)
  y : ∀ i, i < 2 → OwnL E8 N W (c.w i) (t.y i) ∧ (∀ d ∈ t.y i, d < 256)
  g : ∀ i, i < 2 → Gm.OwnL E17 N W (c.g i) (c.h i) ∧ (c.h i).map (fun p => p.1) = t.g i
  o : ∀ i, i < 2 → MsL N W (c.v i) (c.l i) ∧ (c.l i).map (fun p => p.1) = t.o i
  d : ∀ i j, i < 9 → j < 9 → i ≠ j → ∀ g, c.F bt i g → ¬ c.F bt j g
theorem TI.lt {N : Nat} {W : World} {bt : Nat} {t : Tl} {c : Cp} (h : TI N W bt t c) (g : Nat) (hg : c.A bt g) : g < W.heap.size := by
  obtain ⟨k, hk, hf⟩ := hg
  match k, hk, hf with
  | 0, _, hf => have e : g = bt := hf; rw [e]; exact h.box.lt
  | 1, _, hf => exact (h.e 0 (by omega)).lt g hf
  | 2, _, hf => exact (h.e 1 (by omega)).lt g hf
  | 3, _, hf => exact ((h.y 0 (by omega)).1.row.lt g hf).2
  | 4, _, hf => exact ((h.y 1 (by omega)).1.row.lt g hf).2
  | 5, _, hf => exact ((h.g 0 (by omega)).1.row.lt g hf).2
  | 6, _, hf => exact ((h.g 1 (by omega)).1.row.lt g hf).2
  | 7, _, hf =>
    rcases hf with e | ⟨p, hp, hm⟩
    · exact ((h.o 0 (by omega)).1.own.row.lt g e).2
    · exact (((h.o 0 (by omega)).1.each p hp).rng g hm).2
  | 8, _, hf =>
    rcases hf with e | ⟨p, hp, hm⟩
    · exact ((h.o 1 (by omega)).1.own.row.lt g e).2
    · exact (((h.o 1 (by omega)).1.each p hp).rng g hm).2
theorem MsL.blk2 {N : Nat} {W W' : World} {v : Value} {l : List (Ms × Sl)} (h : MsL N W v l) (hb : ∀ g, (v.ownBlock = some g ∨ ∃ p ∈ l, Mown p.2 g) → g < W.heap.size → W'.heap[g]? = W.heap[g]?) : MsL N W' v l :=
  ⟨h.own.blk (fun g e => hb g (.inl e) (h.own.row.lt g e).2), fun p hp => (h.each p hp).blk (fun g hm _ h2 => hb g (.inr ⟨p, hp, hm⟩) h2), h.ap, h.pw⟩
/-- parts that stay -/
theorem TI.e_blk {N : Nat} {W W' : World} {bt : Nat} {t : Tl} {c : Cp} (h : TI N W bt t c) (i : Nat) (hi : i < 2) (hb : ∀ g, c.F bt (1 + i) g → g < W.heap.size → W'.heap[g]? = W.heap[g]?) : Ses W' (c.b i) (t.s i) (c.st i) := by
  match i, hi, hb with
  | 0, hi, hb => exact (h.e 0 hi).blk hb
  | 1, hi, hb => exact (h.e 1 hi).blk hb
theorem TI.y_blk {N : Nat} {W W' : World} {bt : Nat} {t : Tl} {c : Cp} (h : TI N W bt t c) (i : Nat) (hi : i < 2) (hb : ∀ g, c.F bt (3 + i) g → g < W.heap.size → W'.heap[g]? = W.heap[g]?) : OwnL E8 N W' (c.w i) (t.y i) ∧ (∀ d ∈ t.y i, d < 256) := by
  have k := h.y i hi
  match i, hi, hb, k with
  | 0, hi, hb, k => exact ⟨k.1.blk (fun g e => hb g e (k.1.row.lt g e).2), k.2⟩
  | 1, hi, hb, k => exact ⟨k.1.blk (fun g e => hb g e (k.1.row.lt g e).2), k.2⟩
theorem TI.g_blk {N : Nat} {W W' : World} {bt : Nat} {t : Tl} {c : Cp} (h : TI N W bt t c) (i : Nat) (hi : i < 2) (hb : ∀ g, c.F bt (5 + i) g → g < W.heap.size → W'.heap[g]? = W.heap[g]?) : Gm.OwnL E17 N W' (c.g i) (c.h i) ∧ (c.h i).map (fun p => p.1) = t.g i := by
  have k := h.g i hi
  match i, hi, hb, k with
  | 0, hi, hb, k => exact ⟨k.1.blk (fun g e => hb g e (k.1.row.lt g e).2), k.2⟩
  | 1, hi, hb, k => exact ⟨k.1.blk (fun g e => hb g e (k.1.row.lt g e).2), k.2⟩
theorem TI.o_blk {N : Nat} {W W' : World} {bt : Nat} {t : Tl} {c : Cp} (h : TI N W bt t c) (i : Nat) (hi : i < 2) (hb : ∀ g, c.F bt (7 + i) g → g < W.heap.size → W'.heap[g]? = W.heap[g]?) : MsL N W' (c.v i) (c.l i) ∧ (c.l i).map (fun p => p.1) = t.o i := by
  have k := h.o i hi
  match i, hi, hb, k with
  | 0, hi, hb, k => exact ⟨k.1.blk2 hb, k.2⟩
  | 1, hi, hb, k => exact ⟨k.1.blk2 hb, k.2⟩
theorem TI.bel {N : Nat} {W W' : World} {bt : Nat} {t : Tl} {c : Cp} (h : TI N W bt t c) (hb : Below W.heap.size W W') : TI N W' bt t c :=
  ⟨h.box.blk (hb.block bt h.box.lt), fun i hi => h.e_blk i hi (fun g _ hl => hb.block g hl), fun i hi => h.y_blk i hi (fun g _ hl => hb.block g hl), fun i hi => h.g_blk i hi (fun g _ hl => hb.block g hl), fun i hi => h.o_blk i hi (fun g _ hl => hb.block g hl), h.d⟩
/-- one part has turned: the parts are still apart -/
theorem d_upd {W : World} {bt : Nat} {c c' : Cp} {k : Nat} (hd : ∀ i j, i < 9 → j < 9 → i ≠ j → ∀ g, c.F bt i g → ¬ c.F bt j g) (hlt : ∀ g, c.A bt g → g < W.heap.size) (hs : ∀ i, i ≠ k → ∀ g, c'.F bt i g → c.F bt i g) (hk : ∀ g, c'.F bt k g → c.F bt k g ∨ (∀ i, i < 9 → ¬ c.F bt i g)) : ∀ i j, i < 9 → j < 9 → i ≠ j → ∀ g, c'.F bt i g → ¬ c'.F bt j g := by
  have main : ∀ j, j < 9 → j ≠ k → k < 9 → ∀ g, c'.F bt k g → ¬ c'.F bt j g := fun j hj hjk hk9 g h1 h2 => by
    have h3 := hs j hjk g h2
    rcases hk g h1 with e | e
    · exact hd k j hk9 hj (Ne.symm hjk) g e h3
    · exact e j hj h3
  intro i j hi hj hij g h1 h2
  by_cases ei : i = k
  · subst ei
    exact main j hj (Ne.symm hij) hi g h1 h2
  · by_cases ej : j = k
    · subst ej
      exact main i hi ei hj g h2 h1
    · exact hd i j hi hj hij g (hs i ei g h1) (hs j ej g h2)
theorem F_w {c : Cp} {bt j : Nat} {x : Value} (hj : j < 2) (i : Nat) (hi : i ≠ 3 + j) (g : Nat) (h : ({ c with w := upd c.w j x } : Cp).F bt i g) : c.F bt i g := by
  match i, h, hi with
  | 0, h, _ => exact h
  | 1, h, _ => exact h
  | 2, h, _ => exact h
  | 3, h, hi => have e : upd c.w j x 0 = c.w 0 := upd_ne _ _ (by omega); exact (show (c.w 0).ownBlock = some g by rw [← e]; exact h)
  | 4, h, hi => have e : upd c.w j x 1 = c.w 1 := upd_ne _ _ (by omega); exact (show (c.w 1).ownBlock = some g by rw [← e]; exact h)
  | 5, h, _ => exact h
  | 6, h, _ => exact h
  | 7, h, _ => exact h
  | 8, h, _ => exact h
  | n + 9, h, _ => exact h
theorem F_w_at {c : Cp} {bt j : Nat} {x : Value} (hj : j < 2) (g : Nat) : ({ c with w := upd c.w j x } : Cp).F bt (3 + j) g ↔ x.ownBlock = some g := by
  match j, hj with
  | 0, _ => exact Iff.rfl
  | 1, _ => exact Iff.rfl
theorem F_at {c : Cp} {bt j : Nat} (hj : j < 2) (g : Nat) : c.F bt (3 + j) g ↔ (c.w j).ownBlock = some g := by
  match j, hj with
  | 0, _ => exact Iff.rfl
  | 1, _ => exact Iff.rfl
/-- what a step of a talk keeps -/
structure Kl (W W' : World) (bt : Nat) (c c' : Cp) : Prop where
  str : Below 0 W W'
  blk : ∀ g, g < W.heap.size → ¬ c.A bt g → W'.heap[g]? = W.heap[g]?
  now : ∀ g, c'.A bt g → c.A bt g ∨ W.heap.size ≤ g
/-- what is under way to one end is another one now -/
theorem TI.way {N : Nat} {w w6 w7 w8 : World} {bt j : Nat} {t : Tl} {c : Cp} {v : Value} {x : List Nat} (h : TI N w bt t c) (hj : j < 2) (hb : Below w.heap.size w w6) (ho : OwnL E8 N w7 v x) (hu : ∀ d ∈ x, d < 256) (hg : w6.grownBy w7 (c.w j).ownBlock) (hv : v.ownBlock = (c.w j).ownBlock ∨ ∃ k, w.heap.size ≤ k ∧ v.ownBlock = some k) (hk : Ko w7 bt w8) (hx : SB TaK bt (taL (wayP t j x) { c with w := upd c.w j v }) w8) :
    TI N w8 bt (wayP t j x) { c with w := upd c.w j v } ∧ Kl w w8 bt c { c with w := upd c.w j v } := by
  have hvn : ∀ g, v.ownBlock = some g → (c.w j).ownBlock = some g ∨ w.heap.size ≤ g := fun g e => by
    rcases hv with hv | ⟨k, hk2, hv⟩
    · exact .inl (hv ▸ e)
    · rw [hv] at e; cases e; exact .inr hk2
  have hbl : ∀ g, g < w.heap.size → g ≠ bt → ¬ (c.w j).ownBlock = some g → w8.heap[g]? = w.heap[g]? := fun g h1 h2 h3 => ((hk.block g h2).trans (hg.block g (Nat.lt_of_lt_of_le h1 hb.size) (fun e => h3 e.symm))).trans (hb.block g h1)
  have hp : ∀ k, k < 9 → k ≠ 0 → k ≠ 3 + j → ∀ g, c.F bt k g → g < w.heap.size → w8.heap[g]? = w.heap[g]? := fun k hk9 h0 h3 g hf hl => hbl g hl (fun e => h.d k 0 hk9 (by omega) h0 g hf e) (fun e => h.d k (3 + j) hk9 (by omega) h3 g hf ((F_at hj g).2 e))
  have hnew : ∀ g, w.heap.size ≤ g → ∀ i, i < 9 → ¬ c.F bt i g := fun g hg2 i hi hf => by have := h.lt g ⟨i, hi, hf⟩; omega
  have hvbt : ∀ g, v.ownBlock = some g → g ≠ bt := fun g e e2 => by
    rcases hvn g e with e3 | e3
    · exact h.d (3 + j) 0 (by omega) (by omega) (by omega) g ((F_at hj g).2 e3) e2
    · have := h.box.lt; omega
  refine ⟨⟨hx, fun i hi => h.e_blk i hi (hp _ (by omega) (by omega) (by omega)), fun i hi => ?_, fun i hi => h.g_blk i hi (hp _ (by omega) (by omega) (by omega)), fun i hi => h.o_blk i hi (hp _ (by omega) (by omega) (by omega)), d_upd (W := w) (k := 3 + j) h.d h.lt (F_w hj) (fun g hg2 => ?_)⟩, ⟨?_, fun g h1 h2 => hbl g h1 (fun e => h2 ⟨0, by omega, e⟩) (fun e => h2 ⟨3 + j, by omega, (F_at hj g).2 e⟩), fun g hg2 => ?_⟩⟩
  · by_cases e : i = j
    · subst e
      show OwnL E8 N w8 (upd c.w i v i) (upd t.y i x i) ∧ ∀ d ∈ upd t.y i x i, d < 256
      rw [upd_at, upd_at]
      exact ⟨ho.blk (fun g e => hk.block g (hvbt g e)), hu⟩
    · have k := h.y_blk i hi (hp _ (by omega) (by omega) (by omega))
      show OwnL E8 N w8 (upd c.w j v i) (upd t.y j x i) ∧ ∀ d ∈ upd t.y j x i, d < 256
      rw [upd_ne _ _ e, upd_ne _ _ e]
      exact k
  · rcases hvn g ((F_w_at hj g).1 hg2) with e | e
    · exact .inl ((F_at hj g).2 e)
    · exact .inr (hnew g e)
  · exact ((hb.mono (Nat.zero_le _)).trans ⟨hg.os, hg.tape, hg.output, hg.size, fun g hg2 => absurd hg2 (by omega)⟩).trans hk.str
  · obtain ⟨k, hk9, hf⟩ := hg2
    by_cases e : k = 3 + j
    · subst e
      rcases hvn g ((F_w_at hj g).1 hf) with e | e
      · exact .inl ⟨3 + j, hk9, (F_at hj g).2 e⟩
      · exact .inr e
    · exact .inl ⟨k, hk9, F_w hj k e g hf⟩
/-- numbers of the talk have turned -/
theorem TI.turn {N : Nat} {w w2 : World} {bt : Nat} {t t2 : Tl} {c : Cp} (h : TI N w bt t c) (hk : Ko w bt w2) (hx : SB TaK bt (taL t2 c) w2) (hs : t2.s = t.s ∧ t2.y = t.y ∧ t2.g = t.g ∧ t2.o = t.o) : TI N w2 bt t2 c ∧ Kl w w2 bt c c := by
  have hp : ∀ k, k < 9 → k ≠ 0 → ∀ g, c.F bt k g → g < w.heap.size → w2.heap[g]? = w.heap[g]? := fun k hk9 h0 g hf _ => hk.block g (fun e => h.d k 0 hk9 (by omega) h0 g hf e)
  refine ⟨⟨hx, fun i hi => ?_, fun i hi => ?_, fun i hi => ?_, fun i hi => ?_, h.d⟩, ⟨hk.str, fun g _ h2 => hk.block g (fun e => h2 ⟨0, by omega, e⟩), fun g hg => .inl hg⟩⟩
  · rw [hs.1]; exact h.e_blk i hi (hp _ (by omega) (by omega))
  · rw [hs.2.1]; exact h.y_blk i hi (hp _ (by omega) (by omega))
  · rw [hs.2.2.1]; exact h.g_blk i hi (hp _ (by omega) (by omega))
  · rw [hs.2.2.2]; exact h.o_blk i hi (hp _ (by omega) (by omega))
theorem F_v {c : Cp} {bt j : Nat} {x : Value} {y : List (Ms × Sl)} (hj : j < 2) (i : Nat) (hi : i ≠ 7 + j) (g : Nat) (h : ({ c with v := upd c.v j x, l := upd c.l j y } : Cp).F bt i g) : c.F bt i g := by
  match i, h, hi with
  | 0, h, _ => exact h
  | 1, h, _ => exact h
  | 2, h, _ => exact h
  | 3, h, _ => exact h
  | 4, h, _ => exact h
  | 5, h, _ => exact h
  | 6, h, _ => exact h
  | 7, h, hi =>
    have e : upd c.v j x 0 = c.v 0 := upd_ne _ _ (by omega)
    have e2 : upd c.l j y 0 = c.l 0 := upd_ne _ _ (by omega)
    exact (show (c.v 0).ownBlock = some g ∨ ∃ p ∈ c.l 0, Mown p.2 g by rw [← e, ← e2]; exact h)
  | 8, h, hi =>
    have e : upd c.v j x 1 = c.v 1 := upd_ne _ _ (by omega)
    have e2 : upd c.l j y 1 = c.l 1 := upd_ne _ _ (by omega)
    exact (show (c.v 1).ownBlock = some g ∨ ∃ p ∈ c.l 1, Mown p.2 g by rw [← e, ← e2]; exact h)
  | n + 9, h, _ => exact h
theorem F_v_at {c : Cp} {bt j : Nat} {x : Value} {y : List (Ms × Sl)} (hj : j < 2) (g : Nat) : ({ c with v := upd c.v j x, l := upd c.l j y } : Cp).F bt (7 + j) g ↔ (x.ownBlock = some g ∨ ∃ p ∈ y, Mown p.2 g) := by
  match j, hj with
  | 0, _ => exact Iff.rfl
  | 1, _ => exact Iff.rfl
theorem Fv_at {c : Cp} {bt j : Nat} (hj : j < 2) (g : Nat) : c.F bt (7 + j) g ↔ ((c.v j).ownBlock = some g ∨ ∃ p ∈ c.l j, Mown p.2 g) := by
  match j, hj with
  | 0, _ => exact Iff.rfl
  | 1, _ => exact Iff.rfl
/-- one end has told a message -/
theorem TI.told {N : Nat} {w w6 w7 w8 : World} {bt j : Nat} {t : Tl} {c : Cp} {v : Value} {m : Ms} {sl : Sl} (h : TI N w bt t c) (hj : j < 2) (hmo : MO N w m sl) (hap : ∀ g, Mown sl g → ¬ c.A bt g) (hb : Below w.heap.size w w6) (ho : Gm.OwnL E17 N w7 v (c.l j ++ [(m, sl)])) (hg : w6.grownBy w7 (c.v j).ownBlock) (hv : v.ownBlock = (c.v j).ownBlock ∨ ∃ k, w.heap.size ≤ k ∧ v.ownBlock = some k) (hk : Ko w7 bt w8) (hx : SB TaK bt (taL { t with o := upd t.o j (t.o j ++ [m]) } { c with v := upd c.v j v, l := upd c.l j (c.l j ++ [(m, sl)]) }) w8) :
    TI N w8 bt { t with o := upd t.o j (t.o j ++ [m]) } { c with v := upd c.v j v, l := upd c.l j (c.l j ++ [(m, sl)]) } ∧ Below 0 w w8 ∧ (∀ g, g < w.heap.size → ¬ c.A bt g → w8.heap[g]? = w.heap[g]?) ∧ (∀ g, ({ c with v := upd c.v j v, l := upd c.l j (c.l j ++ [(m, sl)]) } : Cp).A bt g → c.A bt g ∨ w.heap.size ≤ g ∨ Mown sl g) := by
  have hA : ∀ k, k < 9 → ∀ g, c.F bt k g → c.A bt g := fun k hk g hf => ⟨k, hk, hf⟩
  have hO := h.o j hj
  have hvn : ∀ g, v.ownBlock = some g → (c.v j).ownBlock = some g ∨ w.heap.size ≤ g := fun g e => by
    rcases hv with hv | ⟨k, hk2, hv⟩
    · exact .inl (hv ▸ e)
    · rw [hv] at e; cases e; exact .inr hk2
  have hbl : ∀ g, g < w.heap.size → g ≠ bt → ¬ (c.v j).ownBlock = some g → w8.heap[g]? = w.heap[g]? := fun g h1 h2 h3 => ((hk.block g h2).trans (hg.block g (Nat.lt_of_lt_of_le h1 hb.size) (fun e => h3 e.symm))).trans (hb.block g h1)
  have hp : ∀ k, k < 9 → k ≠ 0 → k ≠ 7 + j → ∀ g, c.F bt k g → g < w.heap.size → w8.heap[g]? = w.heap[g]? := fun k hk9 h0 h3 g hf hl => hbl g hl (fun e => h.d k 0 hk9 (by omega) h0 g hf e) (fun e => h.d k (7 + j) hk9 (by omega) h3 g hf ((Fv_at hj g).2 (.inl e)))
  have hnew : ∀ g, w.heap.size ≤ g → ∀ i, i < 9 → ¬ c.F bt i g := fun g hg2 i hi hf => by have := h.lt g ⟨i, hi, hf⟩; omega
  have hvbt : ∀ g, v.ownBlock = some g → g ≠ bt := fun g e e2 => by
    rcases hvn g e with e3 | e3
    · exact h.d (7 + j) 0 (by omega) (by omega) (by omega) g ((Fv_at hj g).2 (.inl e3)) e2
    · have := h.box.lt; omega
  have hmm : ∀ p ∈ c.l j ++ [(m, sl)], ∀ g, Mown p.2 g → g < w.heap.size ∧ g ≠ bt ∧ ¬ (c.v j).ownBlock = some g := fun p hp2 g hm => by
    rw [List.mem_append, List.mem_singleton] at hp2
    rcases hp2 with hp2 | rfl
    · exact ⟨((hO.1.each p hp2).rng g hm).2, fun e => h.d (7 + j) 0 (by omega) (by omega) (by omega) g ((Fv_at hj g).2 (.inr ⟨p, hp2, hm⟩)) e, hO.1.ap p hp2 g hm⟩
    · exact ⟨(hmo.rng g hm).2, fun e => hap g hm (hA 0 (by omega) g e), fun e => hap g hm (hA (7 + j) (by omega) g ((Fv_at hj g).2 (.inl e)))⟩
  have hF : ∀ g, ({ c with v := upd c.v j v, l := upd c.l j (c.l j ++ [(m, sl)]) } : Cp).F bt (7 + j) g → c.F bt (7 + j) g ∨ w.heap.size ≤ g ∨ Mown sl g := fun g hf => by
    rcases (F_v_at hj g).1 hf with e | ⟨p, hp2, hm⟩
    · rcases hvn g e with e2 | e2
      · exact .inl ((Fv_at hj g).2 (.inl e2))
      · exact .inr (.inl e2)
    · rw [List.mem_append, List.mem_singleton] at hp2
      rcases hp2 with hp2 | rfl
      · exact .inl ((Fv_at hj g).2 (.inr ⟨p, hp2, hm⟩))
      · exact .inr (.inr hm)
  refine ⟨⟨hx, fun i hi => h.e_blk i hi (hp _ (by omega) (by omega) (by omega)), fun i hi => h.y_blk i hi (hp _ (by omega) (by omega) (by omega)), fun i hi => h.g_blk i hi (hp _ (by omega) (by omega) (by omega)), fun i hi => ?_, d_upd (W := w) (k := 7 + j) h.d h.lt (F_v hj) (fun g hg2 => ?_)⟩, ?_, fun g h1 h2 => hbl g h1 (fun e => h2 ⟨0, by omega, e⟩) (fun e => h2 ⟨7 + j, by omega, (Fv_at hj g).2 (.inl e)⟩), fun g hg2 => ?_⟩
  · by_cases e : i = j
    · subst e
      show MsL N w8 (upd c.v i v i) (upd c.l i _ i) ∧ (upd c.l i _ i).map (fun p => p.1) = upd t.o i _ i
      rw [upd_at, upd_at, upd_at, List.map_append, hO.2]
      refine ⟨⟨ho.blk (fun g e => hk.block g (hvbt g e)), fun p hp2 => ?_, fun p hp2 g hm e => ?_, ?_⟩, rfl⟩
      · have hmo2 : MO N w p.1 p.2 := by
          have hp3 := hp2
          rw [List.mem_append, List.mem_singleton] at hp3
          rcases hp3 with hp3 | rfl
          · exact hO.1.each p hp3
          · exact hmo
        exact hmo2.blk (fun g hm _ hl => hbl g hl (hmm p hp2 g hm).2.1 (hmm p hp2 g hm).2.2)
      · rcases hvn g e with e2 | e2
        · exact (hmm p hp2 g hm).2.2 e2
        · have := (hmm p hp2 g hm).1; omega
      · refine List.pairwise_append.2 ⟨hO.1.pw, List.pairwise_singleton _ _, fun p hp2 q hq g h1 h2 => ?_⟩
        rw [List.mem_singleton] at hq
        subst hq
        exact hap g h2 (hA (7 + i) (by omega) g ((Fv_at hj g).2 (.inr ⟨p, hp2, h1⟩)))
    · have k := h.o_blk i hi (hp _ (by omega) (by omega) (by omega))
      show MsL N w8 (upd c.v j v i) (upd c.l j _ i) ∧ (upd c.l j _ i).map (fun p => p.1) = upd t.o j _ i
      rw [upd_ne _ _ e, upd_ne _ _ e, upd_ne _ _ e]
      exact k
  · rcases hF g hg2 with e | e | e
    · exact .inl e
    · exact .inr (hnew g e)
    · exact .inr (fun i hi hf => hap g e (hA i hi g hf))
  · exact ((hb.mono (Nat.zero_le _)).trans ⟨hg.os, hg.tape, hg.output, hg.size, fun g hg2 => absurd hg2 (by omega)⟩).trans hk.str
  · obtain ⟨k, hk9, hf⟩ := hg2
    by_cases e : k = 7 + j
    · subst e
      rcases hF g hf with e | e | e
      · exact .inl ⟨7 + j, hk9, e⟩
      · exact .inr (.inl e)
      · exact .inr (.inr e)
    · exact .inl ⟨k, hk9, F_v hj k e g hf⟩
end Go.Proofs.Ytanboekdfdafmaa.Pv
