/- Pieces of a stream, in plain words, and what a round leaves. -/
import Derived.Test.YtjnjjkhdmdjaeaaPxG
import Derived.Test.YtjnjjkhdmdjaeaaPxB
namespace Go.Proofs.Ytjnjjkhdmdjaeaa.Pv
open Go.ChangeShapes Go.WideShapes Go.ChangeAt Go.RowKit Go.Joins Go.Proofs.Ytjnjjkhdmdjaeaa.PM Go.Proofs.Ytjnjjkhdmdjaeaa.Ask Go.Proofs.Ytjnjjkhdmdjaeaa.Ge
set_option linter.unusedVariables false

def SentB (ms : List Ms) : List Nat := (ms.map encB).flatten
theorem enc_len {m : Ms} (he : encE m = 0) (hi : InM m) : (encB m).length ≤ 1024 := by
  have hd := dec_back he hi
  rcases dec_cases (encB m) with ⟨e', he', hne⟩ | ⟨m', kd, body, he', h9, hf, -⟩
  · rw [he'] at hd; cases hd; exact absurd rfl hne
  · have := (frE_ok (by omega) hf).1
    omega
theorem parse_many : ∀ (ms : List Ms) (r : List Nat), (∀ m ∈ ms, encE m = 0 ∧ InM m) → parse (SentB ms ++ r) = (ms ++ (parse r).1, (parse r).2)
  | [], r, _ => by simp [SentB]
  | m :: ms, r, h => by
    have e : SentB (m :: ms) ++ r = encB m ++ (SentB ms ++ r) := by simp [SentB]
    rw [e, parse_sent (h m (by simp)).1 (h m (by simp)).2, parse_many ms r (fun m' h' => h m' (by simp [h']))]
    rfl
theorem sent_len : ∀ (ms : List Ms), (∀ m ∈ ms, encE m = 0 ∧ InM m) → (SentB ms).length ≤ 1024 * ms.length
  | [], _ => by simp [SentB]
  | m :: ms, h => by
    have h1 := enc_len (h m (by simp)).1 (h m (by simp)).2
    have h2 := sent_len ms (fun m' h' => h m' (by simp [h']))
    have e : SentB (m :: ms) = encB m ++ SentB ms := by simp [SentB]
    rw [e, List.length_append, List.length_cons]
    omega
theorem sent_u8 : ∀ (ms : List Ms), ∀ d ∈ SentB ms, d < 256
  | [], d, h => by simp [SentB] at h
  | m :: ms, d, h => by
    have e : SentB (m :: ms) = encB m ++ SentB ms := by simp [SentB]
    rw [e, List.mem_append] at h
    rcases h with h | h
    · exact encB_u8 m d h
    · exact sent_u8 ms d h
theorem sent_snoc (ms : List Ms) (m : Ms) : SentB (ms ++ [m]) = SentB ms ++ encB m := by simp [SentB]
theorem rest_len (z : List Nat) : (parse z).2.1.length ≤ 1024 := by
  obtain ⟨h1, h2⟩ := parse_state z
  by_cases h : (parse z).2.2 = 0
  · have h3 := h1 h
    by_cases h6 : 6 ≤ (parse z).2.1.length
    · have := h3.2 h6
      have := bg_six h3.1 h6
      omega
    · omega
  · rw [h2 h]; simp
theorem parse_piece {B : List Nat} {k n : Nat} {ms : List Ms} {x : List Nat} {f : Int} (h : (ms, x, f) = parse (B.take k)) : (ms ++ (TK x f ((B.drop k).take n)).1, (TK x f ((B.drop k).take n)).2) = parse (B.take (k + n)) := by
  have e : B.take (k + n) = B.take k ++ (B.drop k).take n := by rw [List.take_add]
  rw [e, parse_app ((B.take k).length + 1) _ _ (by omega), ← h]
  dsimp only
  unfold TK
  by_cases hf : f = 0
  · rw [if_pos hf, if_pos hf]
  · rw [if_neg hf, if_neg hf]
    simp
/-- while what is sent is written -/
structure L1 (w : World) (l : List (Ms × Sl)) (i : Nat) (wr : World) (bv sv : Value) (bs : List Nat) (sn : List (Ms × Sl)) : Prop where
  bel : Below w.heap.size w wr
  b : OwnL E8 w.heap.size wr bv bs
  s : Gm.OwnL E17 w.heap.size wr sv sn
  e : bs = SentB (sn.map (fun p => p.1))
  m : ∀ p ∈ sn, p ∈ l ∧ encE p.1 = 0 ∧ InM p.1
  n : sn.length ≤ i
  ap : ∀ g, bv.ownBlock = some g → ¬ sv.ownBlock = some g
theorem L1.all {w : World} {l : List (Ms × Sl)} {i : Nat} {wr : World} {bv sv : Value} {bs : List Nat} {sn : List (Ms × Sl)} (h : L1 w l i wr bv sv bs sn) : ∀ m ∈ sn.map (fun p => p.1), encE m = 0 ∧ InM m := fun m hm => by
  obtain ⟨p, hp, rfl⟩ := List.mem_map.1 hm
  exact (h.m p hp).2
theorem L1.len {w : World} {l : List (Ms × Sl)} {i : Nat} {wr : World} {bv sv : Value} {bs : List Nat} {sn : List (Ms × Sl)} (h : L1 w l i wr bv sv bs sn) : bs.length ≤ 1024 * i := by
  have h1 := sent_len _ h.all
  rw [← h.e, List.length_map] at h1
  have := h.n
  omega
theorem L1.start (w : World) (l : List (Ms × Sl)) : L1 w l 0 w (.slice none 0 0) (.slice none 0 0) [] [] := ⟨Below.refl _ _, OwnL.nil _ _ _, Gm.OwnL.nil _ _ _, rfl, (fun _ h => by cases h), Nat.le_refl _, (fun _ h => by cases h)⟩
theorem L1.skip {w : World} {l : List (Ms × Sl)} {i : Nat} {wr w' : World} {bv sv : Value} {bs : List Nat} {sn : List (Ms × Sl)} (h : L1 w l i wr bv sv bs sn) (hb : Below wr.heap.size wr w') : L1 w l (i + 1) w' bv sv bs sn :=
  ⟨h.bel.trans (hb.mono h.bel.size), h.b.bel hb, h.s.bel hb, h.e, h.m, by have := h.n; omega, h.ap⟩
theorem L1.mid {w : World} {l : List (Ms × Sl)} {i : Nat} {wr w6 w7 : World} {bv sv v7 : Value} {bs : List Nat} {sn : List (Ms × Sl)} (h : L1 w l i wr bv sv bs sn) (hb : Below wr.heap.size wr w6) (hg : w6.grownBy w7 bv.ownBlock) : Gm.OwnL E17 w.heap.size w7 sv sn ∧ (∀ g, g < w6.heap.size → wr.heap.size ≤ g → w7.heap[g]? = w6.heap[g]?) ∧ Below w.heap.size w w7 :=
  ⟨(h.s.bel hb).grown hg (fun g e1 e2 => h.ap g e2 e1), fun g h1 h2 => hg.block g h1 (fun e => by have := (h.b.row.lt g e.symm).2; omega), (h.bel.trans (hb.mono h.bel.size)).grown hg (Nat.le_trans h.bel.size hb.size) (fun g e => (h.b.row.lt g e).1)⟩
theorem L1.more {w : World} {l : List (Ms × Sl)} {i : Nat} {wr w6 w7 w8 w9 : World} {bv sv v7 v9 : Value} {bs eb : List Nat} {sn : List (Ms × Sl)} {p : Ms × Sl} (h : L1 w l i wr bv sv bs sn) (hb : Below wr.heap.size wr w6) (hg : w6.grownBy w7 bv.ownBlock) (h7 : OwnL E8 w.heap.size w7 v7 (bs ++ eb)) (ha7 : v7.ownBlock = bv.ownBlock ∨ v7.ownBlock = some w6.heap.size)
    (h8 : Below w7.heap.size w7 w8) (h9 : Gm.OwnL E17 w.heap.size w9 v9 (sn ++ [p])) (hg9 : w8.grownBy w9 sv.ownBlock) (ha9 : v9.ownBlock = sv.ownBlock ∨ v9.ownBlock = some w8.heap.size) (hp : p ∈ l) (he : encE p.1 = 0) (hi : InM p.1) (hebs : encB p.1 = eb) : L1 w l (i + 1) w9 v7 v9 (bs ++ eb) (sn ++ [p]) := by
  obtain ⟨m1, m2, m3⟩ := h.mid (v7 := v7) hb hg
  have hsl : ∀ g, sv.ownBlock = some g → g < wr.heap.size := fun g e => (h.s.row.lt g e).2
  have hbl : ∀ g, bv.ownBlock = some g → g < wr.heap.size := fun g e => (h.b.row.lt g e).2
  have hs6 := hb.size
  have ha : ∀ g, v7.ownBlock = some g → ¬ sv.ownBlock = some g := fun g e1 e2 => by
    rcases ha7 with e | e
    · exact h.ap g (e ▸ e1) e2
    · rw [e] at e1
      cases e1
      have := hsl _ e2
      omega
  refine ⟨(m3.trans (h8.mono m3.size)).grown hg9 (Nat.le_trans m3.size h8.size) (fun g e => (h.s.row.lt g e).1), (h7.bel h8).grown hg9 (fun g e1 e2 => ha g e1 e2), h9, ?_, fun q hq => ?_, ?_, fun g e1 e2 => ?_⟩
  · rw [List.map_append, List.map_cons, List.map_nil, sent_snoc, ← h.e, hebs]
  · rcases List.mem_append.1 hq with hq | hq
    · exact h.m q hq
    · rw [List.mem_singleton] at hq
      subst hq
      exact ⟨hp, he, hi⟩
  · rw [List.length_append]; have := h.n; simp; omega
  · rcases ha9 with e | e
    · exact ha g e1 (e ▸ e2)
    · rw [e] at e2
      cases e2
      have := (h7.row.lt _ e1).2
      have := h8.size
      omega
/-- while the pieces are taken -/
structure L2 (w1 : World) (M : Nat) (B : List Nat) (k : Nat) (wr : World) (v : Value) (l : List (Ms × Sl)) (a : Option Addr) (c : Nat) (x : List Nat) (f : Int) : Prop where
  bel : Below w1.heap.size w1 wr
  big : M ≤ wr.heap.size
  st : Stm M wr w1.heap.size a c x f
  ms : MsL M wr v l
  so : (l.map (fun p => p.1), x, f) = parse (B.take k)
  ap : ∀ p ∈ l, ∀ g, Mown p.2 g → ¬ ob a = some g
  ap2 : ∀ g, v.ownBlock = some g → ¬ ob a = some g
theorem L2.ok {w1 : World} {M : Nat} {B : List Nat} {k : Nat} {wr : World} {v : Value} {l : List (Ms × Sl)} {a : Option Addr} {c : Nat} {x : List Nat} {f : Int} (h : L2 w1 M B k wr v l a c x f) : (f = 0 → SOk x) ∧ x.length ≤ 1024 := by
  have h1 := parse_state (B.take k)
  have h2 := rest_len (B.take k)
  rw [← h.so] at h1 h2
  exact ⟨h1.1, h2⟩
theorem L2.old {w1 : World} {M : Nat} {B : List Nat} {k : Nat} {wr w3 : World} {v : Value} {l : List (Ms × Sl)} {a a3 : Option Addr} {c : Nat} {x : List Nat} {f : Int} (h : L2 w1 M B k wr v l a c x f) (hM : w1.heap.size < M) (hk : Kt wr w1.heap.size a w3 a3) : MsL M w3 v l ∧ M ≤ w3.heap.size := by
  refine ⟨⟨h.ms.own.blk (fun g e => hk.block g (h.ms.own.row.lt g e).2 ?_ (h.ap2 g e)), fun p hp => (h.ms.each p hp).blk (fun g hg h1 h2 => hk.block g h2 ?_ (h.ap p hp g hg)), h.ms.ap⟩, Nat.le_trans h.big hk.str.size⟩
  · have := (h.ms.own.row.lt g e).1; omega
  · omega
theorem L2.more {w1 : World} {M : Nat} {B : List Nat} {k n : Nat} {wr w3 w4 : World} {v v3 v4 : Value} {l l3 : List (Ms × Sl)} {a a3 : Option Addr} {c c3 : Nat} {x x3 : List Nat} {f f3 : Int} (h : L2 w1 M B k wr v l a c x f) (hM : w1.heap.size < M) (hk : Kt wr w1.heap.size a w3 a3) (h3 : MsL wr.heap.size w3 v3 l3) (hst : Stm M w3 w1.heap.size a3 c3 x3 f3) (ht : (l3.map (fun p => p.1), x3, f3) = TK x f ((B.drop k).take n))
    (hap : ∀ p ∈ l3, ∀ g, Mown p.2 g → ¬ ob a3 = some g) (h4 : Gm.OwnL E17 M w4 v4 (l ++ l3)) (hg : w3.grownBy w4 v.ownBlock) (ha : v4.ownBlock = v.ownBlock ∨ v4.ownBlock = some w3.heap.size) : L2 w1 M B (k + n) w4 v4 (l ++ l3) a3 c3 x3 f3 := by
  obtain ⟨h5, h6⟩ := h.old hM hk
  have hs := hk.str.size
  have hv : ∀ g, v.ownBlock = some g → M ≤ g ∧ g < wr.heap.size := fun g e => h.ms.own.row.lt g e
  have ha3 : ∀ g, ob a3 = some g → g < w3.heap.size ∧ M ≤ g := fun g e => ⟨(own_obr hst.own g e).2, (own_obr hst.own g e).1⟩
  have hna : ∀ g, ob a3 = some g → ∀ g', (v.ownBlock = some g' ∨ ∃ p ∈ l, Mown p.2 g') → g ≠ g' := fun g e g' hg' e2 => by
    subst e2
    rcases hk.now g e with e3 | e3
    · rcases hg' with e4 | ⟨p, hp, e4⟩
      · exact h.ap2 g e4 e3
      · exact h.ap p hp g e4 e3
    · rcases hg' with e4 | ⟨p, hp, e4⟩
      · have := (hv g e4).2; omega
      · have := ((h.ms.each p hp).rng g e4).2; omega
  refine ⟨⟨?_, ?_, ?_, ?_, ?_⟩, Nat.le_trans h6 hg.size, hst.blk (hg.block _ hst.hl (fun e => by have := (hv _ e.symm).1; omega)) (fun g e _ hl => hg.block g hl (fun e2 => hna g e g (.inl e2.symm) rfl)), ⟨h4, fun p hp => ?_, fun p hp g hm e => ?_⟩, ?_, fun p hp g hm e => ?_, fun g e1 e2 => ?_⟩
  · rw [hg.os, hk.str.os, h.bel.os]
  · rw [hg.tape, hk.str.tape, h.bel.tape]
  · rw [hg.output, hk.str.output, h.bel.output]
  · exact Nat.le_trans h.bel.size (Nat.le_trans hs hg.size)
  · intro g hl
    have hlr : g < wr.heap.size := Nat.lt_of_lt_of_le hl h.bel.size
    rw [hg.block g (by omega) (fun e => by have := (hv g e.symm).1; omega), hk.block g hlr (by omega) (fun e => by have := (own_obr h.st.own g e).1; omega), h.bel.block g hl]
  · rcases List.mem_append.1 hp with hp | hp
    · exact (h5.each p hp).blk (fun g hm _ hl => hg.block g hl (fun e => h5.ap p hp g hm e.symm))
    · exact ((h3.each p hp).blk (fun g hm h1 hl => hg.block g hl (fun e => by have := (hv g e.symm).2; omega))).mono h.big
  · rcases List.mem_append.1 hp with hp | hp
    · rcases ha with e2 | e2
      · exact h5.ap p hp g hm (e2 ▸ e)
      · rw [e2] at e
        cases e
        have := ((h5.each p hp).rng _ hm).2
        omega
    · have h8 := (h3.each p hp).rng g hm
      rcases ha with e2 | e2
      · have := (hv g (e2 ▸ e)).2; omega
      · rw [e2] at e
        cases e
        omega
  · rw [← parse_piece (n := n) h.so, ← ht, List.map_append]
  · rcases List.mem_append.1 hp with hp | hp
    · exact hna g e g (.inr ⟨p, hp, hm⟩) rfl
    · exact hap p hp g hm e
  · rcases ha with e3 | e3
    · exact hna g e2 g (.inl (e3 ▸ e1)) rfl
    · rw [e3] at e1
      cases e1
      have := (ha3 _ e2).1
      omega
end Go.Proofs.Ytjnjjkhdmdjaeaa.Pv
