/- Pieces of a stream, in plain words, and what a round leaves. The document's PvStream. -/
import Derived.Test.YtghlgkpfcpcopaaMgM
import Derived.Test.YtghlgkpfcpcopaaMgK
import Derived.Test.YtghlgkpfcpcopaaMgI
namespace Go.Proofs.Ytghlgkpfcpcopaa.Pv
open Go.ChangeShapes Go.WideShapes Go.ChangeAt Go.RowKit Go.Joins Go.Proofs.Ytghlgkpfcpcopaa.PM Go.Proofs.Ytghlgkpfcpcopaa.Ask Go.Proofs.Ytghlgkpfcpcopaa.Ge
set_option linter.unusedVariables false

def SentB (ms : List Ms) : List Nat := (ms.map encB).flatten
theorem enc_len {m : Ms} (he : encE m = 0) (hi : InM m) : (encB m).length ≤ 1024 := by
  have hd := dec_back he hi
  rcases dec_cases (encB m) with ⟨e', he', hne⟩ | ⟨m', kd, body, he', h9, hf, -⟩
  · rw [he'] at hd; cases hd; exact absurd rfl hne
  · have := (frE_ok (by omega) hf).1
    omega
theorem parse_many : ∀ (ms : List Ms) (r : List Nat), (∀ m ∈ ms, encE m = 0 ∧ InM m) → parse (SentB ms ++ r) = (ms ++ (parse r).1, (parse r).2)
  | [], r, _ => by simp [SentB]
  | m :: ms, r, h => by
    have e : SentB (m :: ms) ++ r = encB m ++ (SentB ms ++ r) := by simp [SentB]
    rw [e, parse_sent (h m (by simp)).1 (h m (by simp)).2, parse_many ms r (fun m' h' => h m' (by simp [h']))]
    rfl
theorem sent_len : ∀ (ms : List Ms), (∀ m ∈ ms, encE m = 0 ∧ InM m) → (SentB ms).length ≤ 1024 * ms.length
  | [], _ => by simp [SentB]
  | m :: ms, h => by
    have h1 := enc_len (h m (by simp)).1 (h m (by simp)).2
    have h2 := sent_len ms (fun m' h' => h m' (by simp [h']))
    have e : SentB (m :: ms) = encB m ++ SentB ms := by simp [SentB]
    rw [e, List.length_append, List.length_cons]
    omega
theorem sent_u8 : ∀ (ms : List Ms), ∀ d ∈ SentB ms, d < 256
  | [], d, h => by simp [SentB] at h
  | m :: ms, d, h => by
    have e : SentB (m :: ms) = encB m ++ SentB ms := by simp [SentB]
    rw [e, List.mem_append] at h
    rcases h with h | h
    · exact encB_u8 m d h
    · exact sent_u8 ms d h
theorem sent_snoc (ms : List Ms) (m : Ms) : SentB (ms ++ [m]) = SentB ms ++ encB m := by simp [SentB]
theorem rest_len (z : List Nat) : (parse z).2.1.length ≤ 1024 := by
  obtain ⟨h1, h2⟩ := parse_state z
  by_cases h : (parse z).2.2 = 0
  · have h3 := h1 h
    by_cases h6 : 6 ≤ (parse z).2.1.length
    · have := h3.2 h6
      have := bg_six h3.1 h6
      omega
    · omega
  · rw [h2 h]; simp
theorem parse_piece {B : List Nat} {k n : Nat} {ms : List Ms} {x : List Nat} {f : Int} (h : (ms, x, f) = parse (B.take k)) : (ms ++ (TK x f ((B.drop k).take n)).1, (TK x f ((B.drop k).take n)).2) = parse (B.take (k + n)) := by
  have e : B.take (k + n) = B.take k ++ (B.drop k).take n := by rw [List.take_add]
  rw [e, parse_app ((B.take k).length + 1) _ _ (by omega), ← h]
  dsimp only
  unfold TK
  by_cases hf : f = 0
  · rw [if_pos hf, if_pos hf]
  · rw [if_neg hf, if_neg hf]
    simp
/-- while what is sent is written -/
structure L1 (w : World) (l : List (Ms × Sl)) (i : Nat) (wr : World) (bv sv : Value) (bs : List Nat) (sn : List (Ms × Sl)) : Prop where
  bel : Below w.heap.size w wr
  b : OwnL E8 w.heap.size wr bv bs
  s : Gm.OwnL E17 w.heap.size wr sv sn
  e : bs = SentB (sn.map (fun p => p.1))
  m : ∀ p ∈ sn, p ∈ l ∧ encE p.1 = 0 ∧ InM p.1
  n : sn.length ≤ i
  ap : ∀ g, bv.ownBlock = some g → ¬ sv.ownBlock = some g
theorem L1.all {w : World} {l : List (Ms × Sl)} {i : Nat} {wr : World} {bv sv : Value} {bs : List Nat} {sn : List (Ms × Sl)} (h : L1 w l i wr bv sv bs sn) : ∀ m ∈ sn.map (fun p => p.1), encE m = 0 ∧ InM m := fun m hm => by
  obtain ⟨p, hp, rfl⟩ := List.mem_map.1 hm
  exact (h.m p hp).2
theorem L1.len {w : World} {l : List (Ms × Sl)} {i : Nat} {wr : World} {bv sv : Value} {bs : List Nat} {sn : List (Ms × Sl)} (h : L1 w l i wr bv sv bs sn) : bs.length ≤ 1024 * i := by
  have h1 := sent_len _ h.all
  rw [← h.e, List.length_map] at h1
  have := h.n
  omega
theorem L1.start (w : World) (l : List (Ms × Sl)) : L1 w l 0 w (.slice none 0 0) (.slice none 0 0) [] [] := ⟨Below.refl _ _, OwnL.nil _ _ _, Gm.OwnL.nil _ _ _, rfl, (fun _ h => by cases h), Nat.le_refl _, (fun _ h => by cases h)⟩
theorem L1.skip {w : World} {l : List (Ms × Sl)} {i : Nat} {wr w' : World} {bv sv : Value} {bs : List Nat} {sn : List (Ms × Sl)} (h : L1 w l i wr bv sv bs sn) (hb : Below wr.heap.size wr w') : L1 w l (i + 1) w' bv sv bs sn :=
  ⟨h.bel.trans (hb.mono h.bel.size), h.b.bel hb, h.s.bel hb, h.e, h.m, by have := h.n; omega, h.ap⟩
theorem L1.mid {w : World} {l : List (Ms × Sl)} {i : Nat} {wr w6 w7 : World} {bv sv v7 : Value} {bs : List Nat} {sn : List (Ms × Sl)} (h : L1 w l i wr bv sv bs sn) (hb : Below wr.heap.size wr w6) (hg : w6.grownBy w7 bv.ownBlock) : Gm.OwnL E17 w.heap.size w7 sv sn ∧ (∀ g, g < w6.heap.size → wr.heap.size ≤ g → w7.heap[g]? = w6.heap[g]?) ∧ Below w.heap.size w w7 :=
  ⟨(h.s.bel hb).grown hg (fun g e1 e2 => h.ap g e2 e1), fun g h1 h2 => hg.block g h1 (fun e => by have := (h.b.row.lt g e.symm).2; omega), (h.bel.trans (hb.mono h.bel.size)).grown hg (Nat.le_trans h.bel.size hb.size) (fun g e => (h.b.row.lt g e).1)⟩
theorem L1.more {w : World} {l : List (Ms × Sl)} {i : Nat} {wr w6 w7 w8 w9 : World} {bv sv v7 v9 : Value} {bs eb : List Nat} {sn : List (Ms × Sl)} {p : Ms × Sl} (h : L1 w l i wr bv sv bs sn) (hb : Below wr.heap.size wr w6) (hg : w6.grownBy w7 bv.ownBlock) (h7 : OwnL E8 w.heap.size w7 v7 (bs ++ eb)) (ha7 : v7.ownBlock = bv.ownBlock ∨ v7.ownBlock = some w6.heap.size)
    (h8 : Below w7.heap.size w7 w8) (h9 : Gm.OwnL E17 w.heap.size w9 v9 (sn ++ [p])) (hg9 : w8.grownBy w9 sv.ownBlock) (ha9 : v9.ownBlock = sv.ownBlock ∨ v9.ownBlock = some w8.heap.size) (hp : p ∈ l) (he : encE p.1 = 0) (hi : InM p.1) (hebs : encB p.1 = eb) : L1 w l (i + 1) w9 v7 v9 (bs ++ eb) (sn ++ [p]) := by
  obtain ⟨m1, m2, m3⟩ := h.mid (v7 := v7) hb hg
  have hsl : ∀ g, sv.ownBlock = some g → g < wr.heap.size := fun g e => (h.s.row.lt g e).2
  have hbl : ∀ g, bv.ownBlock = some g → g < wr.heap.size := fun g e => (h.b.row.lt g e).2
  have hs6 := hb.size
  have ha : ∀ g, v7.ownBlock = some g → ¬ sv.ownBlock = some g := fun g e1 e2 => by
    rcases ha7 with e | e
    · exact h.ap g (e ▸ e1) e2
    · rw [e] at e1
      cases e1
      have := hsl _ e2
      omega
  refine ⟨(m3.trans (h8.mono m3.size)).grown hg9 (Nat.le_trans m3.size h8.size) (fun g e => (h.s.row.lt g e).1), (h7.bel h8).grown hg9 (fun g e1 e2 => ha g e1 e2), h9, ?_, fun q hq => ?_, ?_, fun g e1 e2 => ?_⟩
  · rw [List.map_append, List.map_cons, List.map_nil, sent_snoc, ← h.e, hebs]
  · rcases List.mem_append.1 hq with hq | hq
    · exact h.m q hq
    · rw [List.mem_singleton] at hq
      subst hq
      exact ⟨hp, he, hi⟩
  · rw [List.length_append]; have := h.n; simp; omega
  · rcases ha9 with e | e
    · exact ha g e1 (e ▸ e2)
    · rw [e] at e2
      cases e2
      have := (h7.row.lt _ e1).2
      have := h8.size
      omega
/-- while the pieces are taken -/
structure L2 (w1 : World) (M : Nat) (B : List Nat) (k : Nat) (wr : World) (v : Value) (l : List (Ms × Sl)) (a : Option Addr) (c : Nat) (x : List Nat) (f : Int) : Prop where
  bel : Below w1.heap.size w1 wr
  big : M ≤ wr.heap.size
  st : Stm M wr w1.heap.size a c x f
  ms : MsL M wr v l
  so : (l.map (fun p => p.1), x, f) = parse (B.take k)
  ap : ∀ p ∈ l, ∀ g, Mown p.2 g → ¬ ob a = some g
  ap2 : ∀ g, v.ownBlock = some g → ¬ ob a = some g
theorem L2.ok {w1 : World} {M : Nat} {B : List Nat} {k : Nat} {wr : World} {v : Value} {l : List (Ms × Sl)} {a : Option Addr} {c : Nat} {x : List Nat} {f : Int} (h : L2 w1 M B k wr v l a c x f) : (f = 0 → SOk x) ∧ x.length ≤ 1024 := by
  have h1 := parse_state (B.take k)
  have h2 := rest_len (B.take k)
  rw [← h.so] at h1 h2
  exact ⟨h1.1, h2⟩
theorem L2.old {w1 : World} {M : Nat} {B : List Nat} {k : Nat} {wr w3 : World} {v : Value} {l : List (Ms × Sl)} {a a3 : Option Addr} {c : Nat} {x : List Nat} {f : Int} (h : L2 w1 M B k wr v l a c x f) (hM : w1.heap.size < M) (hk : Kt wr w1.heap.size a w3 a3) : MsL M w3 v l ∧ M ≤ w3.heap.size := by
  refine ⟨⟨h.ms.own.blk (fun g e => hk.block g (h.ms.own.row.lt g e).2 ?_ (h.ap2 g e)), fun p hp => (h.ms.each p hp).blk (fun g hg h1 h2 => hk.block g h2 ?_ (h.ap p hp g hg)), h.ms.ap, h.ms.pw⟩, Nat.le_trans h.big hk.str.size⟩
  · have := (h.ms.own.row.lt g e).1; omega
  · omega
theorem L2.more {w1 : World} {M : Nat} {B : List Nat} {k n : Nat} {wr w3 w4 : World} {v v3 v4 : Value} {l l3 : List (Ms × Sl)} {a a3 : Option Addr} {c c3 : Nat} {x x3 : List Nat} {f f3 : Int} (h : L2 w1 M B k wr v l a c x f) (hM : w1.heap.size < M) (hk : Kt wr w1.heap.size a w3 a3) (h3 : MsL wr.heap.size w3 v3 l3) (hst : Stm M w3 w1.heap.size a3 c3 x3 f3) (ht : (l3.map (fun p => p.1), x3, f3) = TK x f ((B.drop k).take n))
    (hap : ∀ p ∈ l3, ∀ g, Mown p.2 g → ¬ ob a3 = some g) (h4 : Gm.OwnL E17 M w4 v4 (l ++ l3)) (hg : w3.grownBy w4 v.ownBlock) (ha : v4.ownBlock = v.ownBlock ∨ v4.ownBlock = some w3.heap.size) : L2 w1 M B (k + n) w4 v4 (l ++ l3) a3 c3 x3 f3 := by
  obtain ⟨h5, h6⟩ := h.old hM hk
  have hs := hk.str.size
  have hv : ∀ g, v.ownBlock = some g → M ≤ g ∧ g < wr.heap.size := fun g e => h.ms.own.row.lt g e
  have ha3 : ∀ g, ob a3 = some g → g < w3.heap.size ∧ M ≤ g := fun g e => ⟨(own_obr hst.own g e).2, (own_obr hst.own g e).1⟩
  have hna : ∀ g, ob a3 = some g → ∀ g', (v.ownBlock = some g' ∨ ∃ p ∈ l, Mown p.2 g') → g ≠ g' := fun g e g' hg' e2 => by
    subst e2
    rcases hk.now g e with e3 | e3
    · rcases hg' with e4 | ⟨p, hp, e4⟩
      · exact h.ap2 g e4 e3
      · exact h.ap p hp g e4 e3
    · rcases hg' with e4 | ⟨p, hp, e4⟩
      · have := (hv g e4).2; omega
      · have := ((h.ms.each p hp).rng g e4).2; omega
  refine ⟨⟨?_, ?_, ?_, ?_, ?_⟩, Nat.le_trans h6 hg.size, hst.blk (hg.block _ hst.hl (fun e => by have := (hv _ e.symm).1; omega)) (fun g e _ hl => hg.block g hl (fun e2 => hna g e g (.inl e2.symm) rfl)), ⟨h4, fun p hp => ?_, fun p hp g hm e => ?_, List.pairwise_append.2 ⟨h5.pw, h3.pw, fun p hp q hq g h7 h8 => by have := ((h.ms.each p hp).rng g h7).2; have := ((h3.each q hq).rng g h8).1; omega⟩⟩, ?_, fun p hp g hm e => ?_, fun g e1 e2 => ?_⟩
  · rw [hg.os, hk.str.os, h.bel.os]
  · rw [hg.tape, hk.str.tape, h.bel.tape]
  · rw [hg.output, hk.str.output, h.bel.output]
  · exact Nat.le_trans h.bel.size (Nat.le_trans hs hg.size)
  · intro g hl
    have hlr : g < wr.heap.size := Nat.lt_of_lt_of_le hl h.bel.size
    rw [hg.block g (by omega) (fun e => by have := (hv g e.symm).1; omega), hk.block g hlr (by omega) (fun e => by have := (own_obr h.st.own g e).1; omega), h.bel.block g hl]
  · rcases List.mem_append.1 hp with hp | hp
    · exact (h5.each p hp).blk (fun g hm _ hl => hg.block g hl (fun e => h5.ap p hp g hm e.symm))
    · exact ((h3.each p hp).blk (fun g hm h1 hl => hg.block g hl (fun e => by have := (hv g e.symm).2; omega))).mono h.big
  · rcases List.mem_append.1 hp with hp | hp
    · rcases ha with e2 | e2
      · exact h5.ap p hp g hm (e2 ▸ e)
      · rw [e2] at e
        cases e
        have := ((h5.each p hp).rng _ hm).2
        omega
    · have h8 := (h3.each p hp).rng g hm
      rcases ha with e2 | e2
      · have := (hv g (e2 ▸ e)).2; omega
      · rw [e2] at e
        cases e
        omega
  · rw [← parse_piece (n := n) h.so, ← ht, List.map_append]
  · rcases List.mem_append.1 hp with hp | hp
    · exact hna g e g (.inr ⟨p, hp, hm⟩) rfl
    · exact hap p hp g hm e
  · rcases ha with e3 | e3
    · exact hna g e2 g (.inl (e3 ▸ e1)) rfl
    · rw [e3] at e1
      cases e1
      have := (ha3 _ e2).1
      omega
end Go.Proofs.Ytghlgkpfcpcopaa.Pv
namespace Go.Proofs.Ytghlgkpfcpcopaa.Pv
open Go.ChangeShapes Go.WideShapes Go.ChangeAt Go.RowKit Go.Joins Go.Proofs.Ytghlgkpfcpcopaa.PM Go.Proofs.Ytghlgkpfcpcopaa.Ask Go.Proofs.Ytghlgkpfcpcopaa.Ge
set_option linter.unusedVariables false

/-- one more message in a list -/
theorem MsL.more {M n3 : Nat} {w5 w6 w7 : World} {m : Ms} {s : Sl} {u v : Value} {l : List (Ms × Sl)} (hms : MsL M w5 u l) (hmo : MO n3 w5 m s) (hM : M ≤ n3) (hl3 : ∀ p ∈ l, ∀ g, Mown p.2 g → g < n3) (hu : ∀ g, u.ownBlock = some g → g < n3)
    (h6 : Below w5.heap.size w5 w6) (ho : Gm.OwnL E17 M w7 v (l ++ [(m, s)])) (hg : w6.grownBy w7 u.ownBlock) (hv : v.ownBlock = u.ownBlock ∨ ∃ k, w5.heap.size ≤ k ∧ v.ownBlock = some k) : MsL M w7 v (l ++ [(m, s)]) := by
  have hbl : ∀ g, g < w5.heap.size → ¬ u.ownBlock = some g → w7.heap[g]? = w5.heap[g]? := fun g h1 h2 => (hg.block g (Nat.lt_of_lt_of_le h1 h6.size) (fun e => h2 e.symm)).trans (h6.block g h1)
  refine ⟨ho, fun p hp => ?_, fun p hp g hg2 e => ?_, List.pairwise_append.2 ⟨hms.pw, List.pairwise_singleton _ _, fun p hp q hq g h1 h2 => by rw [List.mem_singleton] at hq; subst hq; have := hl3 p hp g h1; have := (hmo.rng g h2).1; omega⟩⟩
  · rw [List.mem_append, List.mem_singleton] at hp
    rcases hp with hp | rfl
    · exact (hms.each p hp).blk (fun g hg2 _ hl => hbl g hl (hms.ap p hp g hg2))
    · exact (hmo.blk (fun g hg2 h1 hl => hbl g hl (fun e => by have := hu g e; omega))).mono hM
  · rw [List.mem_append, List.mem_singleton] at hp
    rcases hp with hp | rfl
    · rcases hv with hv | ⟨k, hk, hv⟩
      · exact hms.ap p hp g hg2 (hv ▸ e)
      · rw [hv] at e
        cases e
        have := ((hms.each p hp).rng _ hg2).2
        omega
    · have h8 := hmo.rng g hg2
      rcases hv with hv | ⟨k, hk, hv⟩
      · have := hu g (hv ▸ e); omega
      · rw [hv] at e
        cases e
        omega
/-- so many bytes are read -/
structure StI (w : World) (xs : List Nat) (wr : World) (k : Nat) (v : Value) (l : List (Ms × Sl)) : Prop where
  bel : Below w.heap.size w wr
  ms : MsL w.heap.size wr v l
  so : parse xs = (l.map (fun p => p.1) ++ (parse (xs.drop k)).1, (parse (xs.drop k)).2)
  kl : k ≤ xs.length
  n : l.length ≤ k
def DtPost (w : World) (xs : List Nat) (e : Ending) (w' : World) : Prop :=
  ∃ (v : Value) (l : List (Ms × Sl)) (k : Nat), e = .returned (.tuple #[v, .int .i64 (k : Int), .int .i64 (parse xs).2.2]) ∧ MsL w.heap.size w' v l ∧ l.map (fun p => p.1) = (parse xs).1 ∧ ((parse xs).2.2 = 0 → k + (parse xs).2.1.length = xs.length) ∧ (k ≤ xs.length ∧ l.length ≤ xs.length) ∧ Below w.heap.size w w'
theorem st_end {w wr : World} {xs : List Nat} {k : Nat} {v : Value} {l : List (Ms × Sl)} {f : Int} {y : List Nat} (h : StI w xs wr k v l) (hp : parse (xs.drop k) = ([], y, f)) (hy : f = 0 → y = xs.drop k) : DtPost w xs (.returned (.tuple #[v, .int .i64 (k : Int), .int .i64 f])) wr := by
  have hs := h.so
  rw [hp] at hs
  refine ⟨v, l, k, by rw [hs], h.ms, by rw [hs]; simp, ?_, ⟨h.kl, Nat.le_trans h.n h.kl⟩, h.bel⟩
  rw [hs]
  intro h0
  show k + y.length = _
  rw [hy h0, List.length_drop]
  have := h.kl
  omega
theorem parse_short {r : List Nat} (hm : ∀ i (h : i < r.length), i < 4 → r[i] = 255) (h6 : r.length < 6) : parse r = ([], r, 0) := parse_wait ⟨by rw [bg_ok hm, if_neg (by omega)], fun h => by omega⟩
theorem parse_long {r : List Nat} {N : Nat} (hm : ∀ i (h : i < r.length), i < 4 → r[i] = 255) (h6 : 6 ≤ r.length) (hN : num ((r.drop 4).take 2) = N) (h : ¬ (9 ≤ N ∧ N ≤ 1024)) : parse r = ([], [], 6) := by
  have e : bgE r = 6 := by rw [bg_ok hm, hN, if_pos ⟨h6, h⟩]
  rw [parse_bad (by rw [e]; decide), e]
theorem parse_less {r : List Nat} {N : Nat} (hm : ∀ i (h : i < r.length), i < 4 → r[i] = 255) (h6 : 6 ≤ r.length) (hN : num ((r.drop 4).take 2) = N) (h : 9 ≤ N ∧ N ≤ 1024) (hl : r.length < N) : parse r = ([], r, 0) := parse_wait ⟨by rw [bg_ok hm, hN, if_neg (fun c => c.2 h)], fun _ => by show _ < num ((r.drop 4).take 2); rw [hN]; exact hl⟩
theorem parse_msg {r : List Nat} {N : Nat} {m : Ms} {er : Int} (hm : ∀ i (h : i < r.length), i < 4 → r[i] = 255) (h6 : 6 ≤ r.length) (hN : num ((r.drop 4).take 2) = N) (h : 9 ≤ N ∧ N ≤ 1024) (hl : N ≤ r.length) (hd : dec (r.take N) = (m, er)) : parse r = if er = 0 then (m :: (parse (r.drop N)).1, (parse (r.drop N)).2) else ([], [], er) := by
  have hb : bgE r = 0 := by rw [bg_ok hm, hN, if_neg (fun c => c.2 h)]
  have e0 : r = r.take N ++ r.drop N := (List.take_append_drop N r).symm
  have hlen : (r.take N).length = N := by rw [List.length_take]; omega
  have h6' : 6 ≤ (r.take N).length := by omega
  have hb' : bgE (r.take N) = 0 := by rw [← bg_app6 (r.drop N) h6', ← e0]; exact hb
  have hs' : szOf (r.take N) = (r.take N).length := by rw [← szOf_app h6' (r.drop N), ← e0, hlen]; exact hN
  by_cases he : er = 0
  · rw [if_pos he, e0, parse_one h6' hb' hs' (by rw [hd]; exact he), hd, ← e0]
  · rw [if_neg he, e0, parse_err h6' hb' hs' (by rw [hd]; exact he), hd]
/-! the walk -/
set_option maxRecDepth 100000 in
set_option maxHeartbeats 16000000 in
theorem dstream_any (a : Option Addr) (n c : Nat) (xs : List Nat) (w : World) (hl : Lst E8 w a xs) (hn : xs.length = n) (hc : n ≤ c) (hu : ∀ d ∈ xs, d < 256) (ha : ∃ b o, a = some ⟨b, o, none⟩) (hbig : n ≤ 20000) :
    Calls Try.prog 16 #[.slice a n c] w (DtPost w xs) := by
  obtain ⟨b, o, rfl⟩ := ha
  have HL : Hid (Lst E8 w (some ⟨b, o, none⟩) xs) := hl
  have HLN : Hid (xs.length = n) := hn
  have HU : Hid (∀ d ∈ xs, d < 256) := hu
  have HI0 : Hid (StI w xs w 0 (.slice none 0 0) []) := ⟨Below.refl _ _, MsL.nil _ _, by simp, by omega, by simp⟩
  have HE8 : Hid (∀ x : Nat, o + x * E8.k = o + x) := fun x => by show o + x * 1 = _; omega
  clear hl hn hu
  go_enter Try.func16, Try.ntmps16
  go_wp2_with fail
  go_loopw [5, 6] (fun ov kv wr => ∃ (k : Nat) (l : List (Ms × Sl)), kv = .int .i64 (k : Int) ∧ StI w xs wr k ov l) (fun _ kv _ => n - (intOf kv).toNat)
  case atStart => exact ⟨0, [], rfl, HI0.out⟩
  case round =>
    obtain ⟨k, l, rfl, hi⟩ := hrel
    have HI : Hid (StI w xs wr k u5 l) := hi
    obtain ⟨oa, oc, hv5, -⟩ := hi.ms.own.form
    obtain ⟨ol, hol⟩ : ∃ y, l.length = y := ⟨_, rfl⟩
    have HOL : Hid (l.length = ol) := hol
    rw [hol] at hv5
    subst hv5
    have hkn : k ≤ n := by rw [← HLN.out]; exact hi.kl
    have hlk : ol ≤ k := by rw [← hol]; exact hi.n
    clear hi hol HI0
    obtain ⟨wq, hwq⟩ : ∃ x, wr = x := ⟨_, rfl⟩
    rw [hwq] at HI ⊢
    clear hwq
    go_wp2_with (refine list_slice8n rfl _ _ rfl (b := b) (f := o) (n := n) (c := c) (l := k) rfl rfl hkn hc ?_)
    intro va hva hvn
    obtain ⟨r, hr⟩ : ∃ y, xs.drop k = y := ⟨_, rfl⟩
    have HR : Hid (xs.drop k = r) := hr
    obtain ⟨L, hL⟩ : ∃ y, n - k = y := ⟨_, rfl⟩
    have HLE : Hid (n - k = L) := hL
    have HRL : Hid (r.length = L) := by show _ = _; rw [← hr, List.length_drop, HLN.out]; exact hL
    have HUR : Hid (∀ d ∈ r, d < 256) := by rw [← hr]; exact drop_u8 HU.out k
    have HLR : Hid (Lst E8 wq va r) := by
      show Lst _ _ _ _
      by_cases hck : c = k
      · have : r = [] := List.length_eq_zero_iff.1 (by rw [HRL.out]; omega)
        rw [this]
        exact ⟨by simp, fun i hi => absurd hi (by simp)⟩
      · rw [hva.out hck, ← hr]
        have h5 := (HL.out.bel HI.out.bel).drop k
        rw [HE8.out] at h5
        exact h5
    obtain ⟨cr, hcr⟩ : ∃ y, c - k = y := ⟨_, rfl⟩
    have hLc : L ≤ cr := by omega
    rw [hL, hcr]
    clear hr hL hcr hva
    go_wp2_with fail
    go_loopw [8] (fun iv wr => ∃ i : Nat, i ≤ 4 ∧ i ≤ L ∧ iv = .int .i64 (i : Int) ∧ (∀ j (h : j < r.length), j < i → r[j] = 255) ∧ wr = wq) (fun i _ => 4 - (intOf i).toNat)
    case atStart => exact ⟨0, by omega, by omega, rfl, (fun j _ h => absurd h (by omega)), rfl⟩
    case round =>
      obtain ⟨i, hi4, hiL, rfl, hm, hwr⟩ := hrel
      rw [hwr]
      clear hwr
      have HM : Hid (∀ j (h : j < r.length), j < i → r[j] = 255) := hm
      clear hm
      by_cases hlt : i < 4 ∧ i < L
      · have hlti : (i : Int) < 4 := by omega
        have hltL : (i : Int) < (L : Int) := by omega
        have hin : i < r.length := by rw [HRL.out]; omega
        obtain ⟨vb, vo, rfl, -, c0⟩ := lst8 HLR.out i hin
        obtain ⟨d, hd⟩ : ∃ d, r[i] = d := ⟨_, rfl⟩
        have HD : Hid (r[i] = d) := hd
        rw [hd] at c0
        clear hd
        by_cases h255 : d = 255
        · subst h255
          go_wp2_with fail
          refine ⟨⟨i + 1, by omega, by omega, by simp, (fun j hj hji => ?_), trivial⟩, by simp [intOf]; omega⟩
          by_cases e : j = i
          · subst e; exact HD.out
          · exact HM.out j hj (by omega)
        · have h255b : ((d : Int) != 255) = true := by simp; omega
          have h255i : ¬ (d : Int) = 255 := by omega
          have HQ := st_end (f := 4) HI.out (by rw [HR.out, parse_bad (by rw [bg_bad (i := i) (by omega) hin (by rw [HD.out]; exact h255)]; decide), bg_bad (i := i) (by omega) hin (by rw [HD.out]; exact h255)]) (fun e => by cases e)
          go_wp2_with fail
          refine bodyPost_ret (v := .tuple #[.slice oa ol oc, .int .i64 (k : Int), .int .i64 4]) (by simp [results, Try.results16, go_sem]) rfl ?_
          exact HQ
      · have HM4 : Hid (∀ j (h : j < r.length), j < 4 → r[j] = 255) := fun j hj hj4 => HM.out j hj (by rw [HRL.out] at hj; omega)
        by_cases h44 : i < 4
        · as_aux_lemma =>
          have h44i : (i : Int) < 4 := by omega
          have hiLi : ¬ (i : Int) < (L : Int) := by omega
          have h6 : L < 6 := by omega
          have h6i : (L : Int) < 6 := by omega
          have HQ := st_end (f := 0) HI.out (by rw [HR.out]; exact parse_short HM4.out (by rw [HRL.out]; exact h6)) (fun _ => HR.out.symm)
          go_wp2_with fail
          refine bodyPost_ret (v := .tuple #[.slice oa ol oc, .int .i64 (k : Int), .int .i64 0]) (by simp [results, Try.results16, go_sem]) rfl ?_
          exact HQ
        · have h44i : ¬ (i : Int) < 4 := by omega
          by_cases h6 : L < 6
          · as_aux_lemma =>
            have h6i : (L : Int) < 6 := by omega
            have HQ := st_end (f := 0) HI.out (by rw [HR.out]; exact parse_short HM4.out (by rw [HRL.out]; exact h6)) (fun _ => HR.out.symm)
            go_wp2_with fail
            refine bodyPost_ret (v := .tuple #[.slice oa ol oc, .int .i64 (k : Int), .int .i64 0]) (by simp [results, Try.results16, go_sem]) rfl ?_
            exact HQ
          · as_aux_lemma =>
            have h6i : ¬ (L : Int) < 6 := by omega
            obtain ⟨vb, vo, rfl, -, -⟩ := lst8 HLR.out 0 (by rw [HRL.out]; omega)
            have hc4 : ¬ cr = 4 := by omega
            have hc6 : (6 : Int) ≤ (cr : Int) := by omega
            obtain ⟨N, hN⟩ : ∃ y, num ((r.drop 4).take 2) = y := ⟨_, rfl⟩
            have HNN : Hid (num ((r.drop 4).take 2) = N) := hN
            have hN16 : N < 65536 := by rw [← hN]; exact num_lt (drop_u8 HUR.out 4) 2 (by rw [List.length_drop, HRL.out]; omega)
            have HD4 : Hid (Calls Try.prog 25 #[.slice (some ⟨vb, vo + 4, none⟩) 2 (cr - 4)] wq fun e w' => e = .returned (.int .i64 (N : Int)) ∧ w' = wq) := by
              rw [← hN]
              exact dnum_any _ 2 _ _ _ ((HLR.out.drop 4).take 2) (by rw [List.length_take, List.length_drop, HRL.out]; omega) (fun d hd => HUR.out d (List.mem_of_mem_drop (List.mem_of_mem_take hd))) (by omega)
            clear hN
            by_cases hN1 : N < 9
            · have hN1i : (N : Int) < 9 := by omega
              have HQ := st_end (f := 6) HI.out (by rw [HR.out]; exact parse_long HM4.out (by rw [HRL.out]; omega) HNN.out (by omega)) (fun e => by cases e)
              go_wp2_with (first | (go_at_call 25; refine HD4.out.mono ?_; rintro e w' ⟨rfl, hw'⟩; rw [hw']; clear hw' w'))
              refine bodyPost_ret (v := .tuple #[.slice oa ol oc, .int .i64 (k : Int), .int .i64 6]) (by simp [results, Try.results16, go_sem]) rfl ?_
              exact HQ
            · have hN1i : ¬ (N : Int) < 9 := by omega
              by_cases hN2 : 1024 < N
              · have hN2i : (1024 : Int) < (N : Int) := by omega
                have HQ := st_end (f := 6) HI.out (by rw [HR.out]; exact parse_long HM4.out (by rw [HRL.out]; omega) HNN.out (by omega)) (fun e => by cases e)
                go_wp2_with (first | (go_at_call 25; refine HD4.out.mono ?_; rintro e w' ⟨rfl, hw'⟩; rw [hw']; clear hw' w'))
                refine bodyPost_ret (v := .tuple #[.slice oa ol oc, .int .i64 (k : Int), .int .i64 6]) (by simp [results, Try.results16, go_sem]) rfl ?_
                exact HQ
              · have hN2i : ¬ (1024 : Int) < (N : Int) := by omega
                by_cases hLN : L < N
                · have hLNi : (L : Int) < (N : Int) := by omega
                  have HQ := st_end (f := 0) HI.out (by rw [HR.out]; exact parse_less HM4.out (by rw [HRL.out]; omega) HNN.out (by omega) (by rw [HRL.out]; exact hLN)) (fun _ => HR.out.symm)
                  go_wp2_with (first | (go_at_call 25; refine HD4.out.mono ?_; rintro e w' ⟨rfl, hw'⟩; rw [hw']; clear hw' w'))
                  refine bodyPost_ret (v := .tuple #[.slice oa ol oc, .int .i64 (k : Int), .int .i64 0]) (by simp [results, Try.results16, go_sem]) rfl ?_
                  exact HQ
                · have hLNi : ¬ (L : Int) < (N : Int) := by omega
                  have hNc : (N : Int) ≤ (cr : Int) := by omega
                  have hN0 : (0 : Int) ≤ (N : Int) := by omega
                  obtain ⟨m, er, hd⟩ : ∃ m er, dec (r.take N) = (m, er) := ⟨_, _, rfl⟩
                  have HPM : Hid (parse (xs.drop k) = if er = 0 then (m :: (parse (r.drop N)).1, (parse (r.drop N)).2) else ([], [], er)) := by show _ = _; rw [HR.out]; exact parse_msg HM4.out (by rw [HRL.out]; omega) HNN.out (by omega) (by rw [HRL.out]; omega) hd
                  have HDC := ddecode_any (some ⟨vb, vo, none⟩) N cr (r.take N) wq (HLR.out.take N) (by rw [List.length_take, HRL.out]; omega) (by omega) (take_u8 HUR.out N)
                  rw [ddec_eq (take_u8 HUR.out N), hd] at HDC
                  have HDD : Hid (Calls Try.prog 8 #[.slice (some ⟨vb, vo, none⟩) N cr] wq (DecPost wq (m, er))) := HDC
                  clear hd HDC
                  go_wp2_with (first | (go_at_call 25; refine HD4.out.mono ?_; rintro e w' ⟨rfl, hw'⟩; rw [hw']; clear hw' w'))
                  refine HDD.out.mono ?_
                  rintro e w4 ⟨s4, rfl, hmo4, hb4⟩
                  dsimp only at hmo4 ⊢
                  have HMO4 : Hid (MO wq.heap.size w4 m s4) := hmo4
                  have HB4 : Hid (Below wq.heap.size wq w4) := hb4
                  clear hmo4 hb4 HDD HD4
                  go_wp2_with (refine list_sstore MsK rfl _ _ rfl (b := w4.heap.size) (cs := msL ms0 sZ) (cs' := msL m s4) rfl rfl (mb_zero rfl rfl).1 rfl rfl rfl ?_)
                  intro w5 h5 hk5
                  obtain ⟨hz5, hb5⟩ := mb_zero (w := w4) rfl rfl
                  have HB5 : Hid (Below w4.heap.size w4 w5) := hb5.trans (hk5.out.below (Nat.le_refl _))
                  obtain ⟨p4, hp4⟩ : ∃ k, w4.heap.size = k := ⟨_, rfl⟩
                  have H5 : Hid (SB MsK p4 (msL m s4) w5) := by rw [← hp4]; exact h5.out
                  rw [hp4]
                  have HBQ : Hid (Below wq.heap.size wq w5) := HB4.out.trans (HB5.out.mono HB4.out.size)
                  have HBW : Hid (Below w.heap.size w w5) := HI.out.bel.trans (HBQ.out.mono HI.out.bel.size)
                  have HMO5 : Hid (MO wq.heap.size w5 m s4) := HMO4.out.blk (fun g _ _ hl => HB5.out.block g hl)
                  have HMS5 : Hid (MsL w.heap.size w5 (.slice oa ol oc) l) := HI.out.ms.blk (fun g _ hl => HBQ.out.block g hl)
                  clear hz5 hb5 hk5 h5 hp4
                  by_cases he : er = 0
                  · subst he
                    have HPM0 : Hid (parse (xs.drop k) = (m :: (parse (r.drop N)).1, (parse (r.drop N)).2)) := by show _ = _; rw [HPM.out, if_pos rfl]
                    clear HPM
                    obtain ⟨ho6, hb6⟩ : Gm.OwnL E17 w.heap.size (w5.alloc (Obj.cells (msL m s4).toArray 31)) (.slice oa ol oc) l ∧ Below w5.heap.size w5 (w5.alloc (Obj.cells (msL m s4).toArray 31)) := by
                      have hb : Below w5.heap.size w5 (w5.alloc (Obj.cells (msL m s4).toArray 31)) := (Below.refl _ w5).alloc (Nat.le_refl _) _
                      exact ⟨HMS5.out.own.bel hb, hb⟩
                    have HO6 : Hid (Gm.OwnL E17 w.heap.size (w5.alloc (Obj.cells (msL m s4).toArray 31)) (.slice oa ol oc) l) := ho6
                    have HB6 : Hid (Below w5.heap.size w5 (w5.alloc (Obj.cells (msL m s4).toArray 31))) := hb6
                    have HLL : Hid (l.length ≤ 137438953471) := by show _ ≤ _; rw [HOL.out]; omega
                    have HN6 : Hid (w.heap.size ≤ (w5.alloc (Obj.cells (msL m s4).toArray 31)).heap.size) := Nat.le_trans HBW.out.size hb6.size
                    clear ho6 hb6
                    go_wp2_with (first | (refine list_sload MsK rfl _ rfl (b := p4) (cs := msL m s4) rfl H5.out rfl ?_) | (refine list_mbuild rfl _ rfl (m := m) (s := s4) rfl ?_) | (at_builtin; refine Gm.list_app1 E17 rfl _ _ 44 rfl rfl w.heap.size (.slice oa ol oc) l (m, s4) HLL.out (w := w5) _ rfl HO6.out rfl HN6.out rfl ?_))
                    intro v7 w7 ho7 hg7 ha7
                    have HMS7 : Hid (MsL w.heap.size w7 v7 (l ++ [(m, s4)])) := MsL.more HMS5.out HMO5.out HI.out.bel.size (fun p hp g hg => ((HI.out.ms.each p hp).rng g hg).2) (fun g e => (HI.out.ms.own.row.lt g e).2) HB6.out ho7.out hg7.out (ha7.out.imp id (fun e => ⟨_, Nat.le_succ _, by simpa using e⟩))
                    have HB7 : Hid (Below w.heap.size w w7) := (HBW.out.trans (HB6.out.mono HBW.out.size)).grown hg7.out HN6.out (fun g e => (HO6.out.row.lt g e).1)
                    have HI7 : Hid (StI w xs w7 (k + N) v7 (l ++ [(m, s4)])) := by
                      refine ⟨HB7.out, HMS7.out, ?_, by rw [HLN.out]; have := HLE.out; omega, by rw [List.length_append, HOL.out]; simp; omega⟩
                      rw [HI.out.so, HPM0.out, ← List.drop_drop, HR.out]
                      simp
                    clear ho7 hg7 ha7 HMS7 HB7 HO6 HB6 HN6 HMS5 HMO5 HI
                    go_wp2_with fail
                    refine ⟨⟨k + N, l ++ [(m, s4)], by simp, HI7.out⟩, ?_⟩
                    have hle := HLE.out
                    simp [intOf]
                    omega
                  · have heb : (er != 0) = true := by simpa using he
                    have HI5 : Hid (StI w xs w5 k (.slice oa ol oc) l) := ⟨HBW.out, HMS5.out, HI.out.so, HI.out.kl, HI.out.n⟩
                    have HQ := st_end (f := er) (y := []) HI5.out (by rw [HPM.out, if_neg he]) (fun e => absurd e he)
                    go_wp2_with fail
                    refine bodyPost_ret (v := .tuple #[.slice oa ol oc, .int .i64 (k : Int), .int .i64 er]) (by simp [results, Try.results16, go_sem]) rfl ?_
                    exact HQ
theorem slice0_run {o : Oper} {ρ : Operand → Value} {W : World} (x lo : Operand) (ho : o.op = .slice 22 x (some lo) none none) {a : Option Addr} {c : Nat} (hx : ρ x = .slice a 0 c) (hl : ρ lo = .int .i64 0) (hn : a = none → c = 0) : ∃ va, (execOp ρ o).run Try.prog W = .ok (.value (.slice va 0 c)) W := by
  cases a with
  | none =>
    obtain rfl := hn rfl
    refine ⟨none, ?_⟩
    unfold execOp
    rw [ho]
    simp [go_sem, hx, hl]
  | some ad =>
    by_cases hc : c = 0
    · subst hc
      refine ⟨some ad, ?_⟩
      unfold execOp
      rw [ho]
      simp [go_sem, hx, hl]
    · refine ⟨some (ad.add 0), ?_⟩
      unfold execOp
      rw [ho]
      simp [go_sem, hx, hl, hc]
theorem list_slice0 {ops : Array Oper} {rest : List Oper} {o : Oper} {ac : Act} {Q : Exit → Act → World → Prop} {W : World} (hgd : o.guard = none) (x lo : Operand) (ho : o.op = .slice 22 x (some lo) none none) {a : Option Addr} {c : Nat} (hx : ac.eval x = .slice a 0 c) (hl : ac.eval lo = .int .i64 0) (hn : a = none → c = 0)
    (k : ∀ va : Option Addr, wpList Try.prog ops Q rest (ac.put o.dst (.slice va 0 c)) W) : wpList Try.prog ops Q (o :: rest) ac W := by
  refine wpList_plain hgd fun K hK => ?_
  unfold Oper.wp
  obtain ⟨va, e⟩ := slice0_run (W := W) x lo ho hx hl hn
  rw [e]
  exact hK _ _ (k va)
set_option maxRecDepth 100000 in
set_option maxHeartbeats 4000000 in
theorem dstream_zero (a : Option Addr) (c : Nat) (hn : a = none → c = 0) (w : World) : Calls Try.prog 16 #[.slice a 0 c] w (DtPost w []) := by
  have HNN : Hid (a = none → c = 0) := hn
  clear hn
  have HP : parse [] = ([], [], 0) := parse_short (fun i h => absurd h (by simp)) (by simp)
  have HQ : Hid (DtPost w [] (.returned (.tuple #[.slice none 0 0, .int .i64 0, .int .i64 0])) w) := ⟨_, [], 0, by rw [HP]; rfl, MsL.nil _ _, by rw [HP]; rfl, fun _ => by rw [HP]; rfl, ⟨Nat.le_refl _, Nat.le_refl _⟩, Below.refl _ _⟩
  clear HP
  go_enter Try.func16, Try.ntmps16
  go_wp2_with fail
  go_loopw [5, 6] (fun ov kv wr => ov = .slice none 0 0 ∧ kv = .int .i64 0 ∧ wr = w) (fun _ _ _ => 0)
  case atStart => exact ⟨rfl, rfl, rfl⟩
  case round =>
    obtain ⟨rfl, rfl, hw⟩ := hrel
    rw [hw]
    clear hw
    go_wp2_with (refine list_slice0 rfl _ _ rfl (a := a) (c := c) rfl rfl HNN.out ?_)
    intro vl
    go_wp2_with fail
    go_loopw [8] (fun iv wr => iv = .int .i64 0 ∧ wr = w) (fun _ _ => 0)
    case atStart => exact ⟨rfl, rfl⟩
    case round =>
      obtain ⟨rfl, hw⟩ := hrel
      rw [hw]
      clear hw
      go_wp2_with fail
      refine bodyPost_ret (v := .tuple #[.slice none 0 0, .int .i64 0, .int .i64 0]) (by simp [results, Try.results16, go_sem]) rfl ?_
      exact HQ.out
end Go.Proofs.Ytghlgkpfcpcopaa.Pv
