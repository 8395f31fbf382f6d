/- FibTouches: a table, a list of addresses and a list of words beside each other. -/
import Derived.Test.YtjhdjbhpofhiaabFcD
namespace Go.Proofs.Ytjhdjbhpofhiaab.Fb
open Go.ChangeShapes Go.WideShapes Go.ChangeAt Go.RowKit Go.Joins Go.Proofs.Ytjhdjbhpofhiaab.PM Go.Proofs.Ytjhdjbhpofhiaab.Ask
set_option linter.unusedVariables false

theorem do_any (bt : Nat) (ms : List Int) (made : Int) (fr : List Int) (o1 o2 : Option Nat) (t : TrM.Tr) (hfit : Fit ms made fr t) (m1 : made + 2 < 4294967296) (ad len way : Int) (dr : Bool) (a0 : 0 ≤ ad) (a1 : ad < 4294967296) (w : World) (h : Tab (bt + 1) w bt ms made fr o1 o2) :
    Calls Try.prog 20 #[.pointer (some ⟨bt, 0, none⟩), .agg #[.int .u32 ad, .int .i64 len, .int .i64 way, .bool dr]] w fun e w' => ∃ t' err, DidT (bt + 1) bt o1 o2 w ms made t t' err e w' := by
  cases dr with
  | true => exact (do_drop bt ms made fr o1 o2 t hfit m1 ad len way a0 a1 _ rfl _ rfl w h).mono fun e w' hd => ⟨_, _, hd⟩
  | false => exact (do_set bt ms made fr o1 o2 t hfit m1 ad len way a0 a1 _ rfl _ rfl w h).mono fun e w' hd => ⟨_, _, hd⟩

structure EA (bt N : Nat) (o1 o2 : Option Nat) (u : Value) (mm : List Int) (aa : Option Addr) (xs : List Int) (W : World) : Prop where
  own : OwnU N W u mm
  adr : ∀ i (h : i < xs.length), ∃ b o, aa = some ⟨b, o, none⟩ ∧ (bt < b ∧ b < N) ∧ (some b ≠ o1 ∧ some b ≠ o2) ∧ W.cell? ⟨b, o + i, none⟩ = some (.int .u32 xs[i])
  u32 : ∀ d ∈ xs, In32 d
  lt : bt < N ∧ N ≤ W.heap.size
  n2 : ∀ g, u.ownBlock = some g → some g ≠ o1 ∧ some g ≠ o2
section
variable {bt N : Nat} {o1 o2 o1' o2' : Option Nat} {u u' : Value} {mm mm' ms fr xs : List Int} {aa : Option Addr} {made : Int} {w w' : World}
theorem EA.ge (h : EA bt N o1 o2 u mm aa xs w) : ∀ g, u.ownBlock = some g → N ≤ g ∧ g < w.heap.size := fun g e => h.own.row.lt g e
theorem EA.kt (h : EA bt N o1 o2 u mm aa xs w) (k : KT bt w o1 o2 w' o1' o2') : EA bt N o1' o2' u mm aa xs w' := by
  obtain ⟨l1, l3⟩ := h.lt
  refine ⟨⟨row_kept h.own.row (fun g e => ?_), h.own.u32⟩, fun i hi => ?_, h.u32, ⟨l1, Nat.le_trans l3 k.size⟩, fun g e => ?_⟩
  · have := h.ge g e
    exact k.block g this.2 (by omega) (h.n2 g e).1 (h.n2 g e).2
  · obtain ⟨b, o, e, ⟨hb1, hb2⟩, hn, hc⟩ := h.adr i hi
    exact ⟨b, o, e, ⟨hb1, hb2⟩, ⟨k.ne1 (by omega) hn.1, k.ne2 (by omega) hn.2⟩, (k.cell (by omega) (by omega) hn.1 hn.2).trans hc⟩
  · have := h.ge g e
    exact ⟨k.ne1 this.2 (h.n2 g e).1, k.ne2 this.2 (h.n2 g e).2⟩
theorem EA.bel (h : EA bt N o1 o2 u mm aa xs w) (hb : Below w.heap.size w w') : EA bt N o1 o2 u mm aa xs w' := h.kt (KT.bel hb)
theorem EA.ko (h : EA bt N o1 o2 u mm aa xs w) (ht : Tab (bt + 1) w bt ms made fr o1 o2) (ho : OwnU N w' u' mm') (k : KO w u.ownBlock w' u'.ownBlock) : EA bt N o1 o2 u' mm' aa xs w' ∧ Tab (bt + 1) w' bt ms made fr o1 o2 := by
  obtain ⟨l1, l3⟩ := h.lt
  refine ⟨⟨ho, fun i hi => ?_, h.u32, ⟨l1, Nat.le_trans l3 k.size⟩, fun g e => ?_⟩, ht.else k.str (fun b hb hc => k.block b hb (fun e => ?_))⟩
  · obtain ⟨b, o, e, ⟨hb1, hb2⟩, hn, hc⟩ := h.adr i hi
    exact ⟨b, o, e, ⟨hb1, hb2⟩, hn, (World.cell?_of_block (w := w) (k.block b (by omega) (fun e => by have := (h.ge b e.symm).1; omega))).trans hc⟩
  · rcases k.now with e2 | ⟨g2, e2, hg⟩
    · exact h.n2 g (by rw [← e2, e])
    · rw [e2] at e; cases e
      exact ⟨fun e => by have := (ht.in1 _ e.symm).2; omega, fun e => by have := (ht.in2 _ e.symm).2; omega⟩
  · have := h.ge b e.symm
    have g := h.n2 b e.symm
    rcases hc with e | e | e
    · omega
    · exact g.1 e
    · exact g.2 e
end

/-- within a step -/
structure IM (w : World) (bt N B : Nat) (aa : Option Addr) (xs : List Int) (o1 o2 : Option Nat) (ms' : List Int) (made' : Int) (fr' : List Int) (wa : Option Addr) (ws : List (Nat × Int)) (ms : List Int) (k : Nat) (u : Value) (W : World) : Prop where
  bel : Below w.heap.size w W
  tab : Tab (bt + 1) W bt ms' made' fr' o1 o2
  ea : EA bt N o1 o2 u (putsP ms (ws.take k)) aa xs W
  wr7 : Wr7 N u.ownBlock wa ws W
  base : w.heap.size ≤ bt
  len : (putsP ms (ws.take k)).length ≤ B
section
variable {w : World} {bt N B : Nat} {aa : Option Addr} {xs : List Int} {o1 o2 : Option Nat} {ms' : List Int} {made' : Int} {fr' : List Int} {wa : Option Addr} {ws : List (Nat × Int)} {ms : List Int} {k : Nat} {u u' : Value} {W W' : World}
theorem IM.next_bel (h : IM w bt N B aa xs o1 o2 ms' made' fr' wa ws ms k u W) (hb : Below W.heap.size W W') : IM w bt N B aa xs o1 o2 ms' made' fr' wa ws ms k u W' :=
  ⟨h.bel.trans (hb.mono h.bel.size), h.tab.bel hb, h.ea.bel hb, h.wr7.keep hb.size (fun b _ hlt hn => ⟨hb.block b hlt, hn⟩), h.base, h.len⟩
theorem IM.next_put (h : IM w bt N B aa xs o1 o2 ms' made' fr' wa ws ms k u W) (hk : k < ws.length) (hB : ws[k].1 + 1 ≤ B) (ho : OwnU N W' u' (putP (putsP ms (ws.take k)) ws[k].1 ws[k].2)) (kp : KO W u.ownBlock W' u'.ownBlock) : IM w bt N B aa xs o1 o2 ms' made' fr' wa ws ms (k + 1) u' W' := by
  have hlen : (putP (putsP ms (ws.take k)) ws[k].1 ws[k].2).length ≤ B := by rw [putP_len]; have := h.len; omega
  rw [← putsP_snoc hk] at ho hlen
  obtain ⟨he, ht⟩ := h.ea.ko h.tab ho kp
  have hl := h.ea.lt
  have h0 := h.base
  refine ⟨⟨kp.str.os.trans h.bel.os, kp.str.tape.trans h.bel.tape, kp.str.output.trans h.bel.output, Nat.le_trans h.bel.size kp.size, fun b hb => ?_⟩, ht, he, h.wr7.keep kp.size (fun b _ hlt hn => ⟨kp.block b hlt hn, kp.ne hlt hn⟩), h.base, hlen⟩
  exact (kp.block b (by omega) (fun e => by have := (h.ea.ge b e.symm).1; omega)).trans (h.bel.block b hb)
end
theorem IM.start {w wA w1 : World} {bt N B : Nat} {aa : Option Addr} {xs : List Int} {o1 o2 o1' o2' : Option Nat} {ms fr fr' : List Int} {made made' : Int} {u : Value} {va : Option Addr} {n vc : Nat} {ws : List (Nat × Int)}
    (hb0 : Below w.heap.size w wA) (h : Tab (bt + 1) wA bt ms made fr o1 o2) (he : EA bt N o1 o2 u ms aa xs wA) (h0 : w.heap.size ≤ bt) (hB : ms.length ≤ B)
    (ht : Tab (bt + 1) w1 bt (putsP ms ws) made' fr' o1' o2') (hk : KT bt wA o1 o2 w1 o1' o2') (ho : Own wA.heap.size w1 bt o1' o2' (.slice va n vc) ws) (hf : ws.length ≤ 9) :
    IM w bt N B aa xs o1' o2' (putsP ms ws) made' fr' va ws ms 0 u w1 := by
  have hl := he.lt
  refine ⟨?_, ht, he.kt hk, ⟨by omega, fun i hi => ?_, ho.u32⟩, h0, hB⟩
  · exact hb0.trans (hk.below hb0.size h0 (fun g e => by have := (h.in1 g e).1; omega) (fun g e => by have := (h.in2 g e).1; omega))
  · obtain ⟨b, p, e, hlt, -, -, h1, h2⟩ := (ho.wrs (by omega)).cells i hi
    subst e
    have hg : wA.heap.size ≤ b := (ho.row.lt b (by simp [Value.ownBlock])).1
    exact ⟨b, p, rfl, ⟨by omega, hlt⟩, fun e2 => by have := (he.ge b e2.symm).2; omega, h1, h2⟩
/-- between two steps -/
def LM (w : World) (bt N : Nat) (aa : Option Addr) (xs : List Int) (k : Nat) (u : Value) (W : World) : Prop :=
  ∃ ms made fr o1 o2 t, Below w.heap.size w W ∧ Tab (bt + 1) W bt ms made fr o1 o2 ∧ Fit ms made fr t ∧ EA bt N o1 o2 u ms aa xs W ∧ made ≤ 2 * k ∧ w.heap.size ≤ bt
/-- at the end: the list of words, the addresses -/
structure LE (w : World) (N : Nat) (aa : Option Addr) (xs ms : List Int) (u : Value) (W : World) : Prop where
  bel : Below w.heap.size w W
  own : OwnU N W u ms
  adr : ∀ i (h : i < xs.length), ∃ b o, aa = some ⟨b, o, none⟩ ∧ b < W.heap.size ∧ W.cell? ⟨b, o + i, none⟩ = some (.int .u32 xs[i])
theorem LE.next {w : World} {N : Nat} {aa : Option Addr} {xs ms : List Int} {u : Value} {W W' : World} (h : LE w N aa xs ms u W) (hb : Below W.heap.size W W') : LE w N aa xs ms u W' :=
  ⟨h.bel.trans (hb.mono h.bel.size), h.own.bel hb, fun i hi => by
    obtain ⟨b, o, e, hlt, hc⟩ := h.adr i hi
    exact ⟨b, o, e, Nat.lt_of_lt_of_le hlt hb.size, cell_bel hc hb⟩⟩
end Go.Proofs.Ytjhdjbhpofhiaab.Fb
