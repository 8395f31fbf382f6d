/- DampAsks: two dampers of which the same is known, in memory: what is asked of both. -/
import Derived.Test.YtjfiahendnlcjaaDaI
import Derived.Test.YtjfiahendnlcjaaDaJ
import Derived.Test.YtjfiahendnlcjaaDaK
namespace Go.Proofs.Ytjfiahendnlcjaa.Da
open Go.ChangeShapes Go.WideShapes Go.ChangeAt Go.RowKit Go.Joins Go.Deep Go.Proofs.Ytjfiahendnlcjaa.Ge Go.Proofs.Ytjfiahendnlcjaa.PM Go.Proofs.Ytjfiahendnlcjaa.Ask
set_option linter.unusedVariables false
set_option linter.unusedSimpArgs false

structure LA (w : World) (dx dy : Dw) (N : Nat) (c : Dc) (W : World) : Prop where
  st : ∃ es1 ce1 us1 cu1 es2 ce2 us2 cu2, Dp W dx c es1 ce1 us1 cu1 ∧ Dp W dy c es2 ce2 us2 cu2 ∧ Alk es1 es2 ∧ Alk us1 us2 ∧ (es1.length ≤ N ∧ us1.length ≤ N ∧ es2.length ≤ N ∧ us2.length ≤ N)
  ap : ∀ g, fpD dx g → ¬ fpD dy g
  lx : ∀ g, fpD dx g → w.heap.size ≤ g
  ly : ∀ g, fpD dy g → w.heap.size ≤ g
  bel : Below w.heap.size w W
  lt : ∀ g, fpD dx g ∨ fpD dy g → g < W.heap.size
theorem LA.step {w : World} {dx dy : Dw} {N : Nat} {c : Dc} {W W' : World} (h : LA w dx dy N c W) (hb : Below W.heap.size W W') : LA w dx dy N c W' := by
  obtain ⟨es1, ce1, us1, cu1, es2, ce2, us2, cu2, h1, h2, h3⟩ := h.st
  exact ⟨⟨es1, ce1, us1, cu1, es2, ce2, us2, cu2, h1.bel hb, h2.bel hb, h3⟩, h.ap, h.lx, h.ly, h.bel.trans (hb.mono h.bel.size), fun g hg => Nat.lt_of_lt_of_le (h.lt g hg) hb.size⟩
theorem LA.ko {w : World} {dx dy : Dw} {N : Nat} {c : Dc} {W W' : World} {b : Nat} (h : LA w dx dy N c W) (hk : Ko W b W') (h1 : ¬ fpD dx b) (h2 : ¬ fpD dy b) (h3 : w.heap.size ≤ b) : LA w dx dy N c W' := by
  obtain ⟨es1, ce1, us1, cu1, es2, ce2, us2, cu2, g1, g2, g3⟩ := h.st
  exact ⟨⟨es1, ce1, us1, cu1, es2, ce2, us2, cu2, g1.blk (fun g hg _ => hk.block g (fun e => h1 (e ▸ hg))), g2.blk (fun g hg _ => hk.block g (fun e => h2 (e ▸ hg))), g3⟩, h.ap, h.lx, h.ly, h.bel.trans (hk.below h3), fun g hg => by rw [hk.size]; exact h.lt g hg⟩
theorem LA.next {w : World} {dx dy : Dw} {N : Nat} {c : Dc} {W : World} (h : LA w dx dy N c W) : LA w dx dy (N + 1) c W := by
  obtain ⟨es1, ce1, us1, cu1, es2, ce2, us2, cu2, g1, g2, g3, g4, g5⟩ := h.st
  exact ⟨⟨es1, ce1, us1, cu1, es2, ce2, us2, cu2, g1, g2, g3, g4, by omega⟩, h.ap, h.lx, h.ly, h.bel, h.lt⟩
/-- Penalty and Held of both -/
theorem LA.ask {w : World} {dx dy : Dw} {N : Nat} {c : Dc} {W : World} (h : LA w dx dy N c W) (p : Pf) (now : Int) (hn : now < 9223372036854775808) : ∃ (z : Nat) (hb : Bool), ∀ W', Below W.heap.size W W' →
    (Calls Try.prog 10 #[.pointer (some ⟨dx.b, 0, none⟩), pfV p, .int .i64 now] W' fun e w' => e = .returned (.int .i64 (z : Nat)) ∧ Below W'.heap.size W' w') ∧
    (Calls Try.prog 10 #[.pointer (some ⟨dy.b, 0, none⟩), pfV p, .int .i64 now] W' fun e w' => e = .returned (.int .i64 (z : Nat)) ∧ Below W'.heap.size W' w') ∧
    (Calls Try.prog 12 #[.pointer (some ⟨dx.b, 0, none⟩), pfV p, .int .i64 now] W' fun e w' => e = .returned (.bool hb) ∧ Below W'.heap.size W' w') ∧
    (Calls Try.prog 12 #[.pointer (some ⟨dy.b, 0, none⟩), pfV p, .int .i64 now] W' fun e w' => e = .returned (.bool hb) ∧ Below W'.heap.size W' w') := by
  obtain ⟨es1, ce1, us1, cu1, es2, ce2, us2, cu2, g1, g2, g3, g4, g5⟩ := h.st
  obtain ⟨t, ht⟩ : ∃ t : Nat, max now (c.clock : Int) = (t : Int) := ⟨(max now (c.clock : Int)).toNat, by omega⟩
  refine ⟨penP c (mget es1) p t, heldP c (mget es1) p t, fun W' hb => ⟨penalty_any dx c es1 ce1 us1 cu1 p now t W' (g1.bel hb) hn ht, ?_, heldq_any dx c es1 ce1 us1 cu1 p now t W' (g1.bel hb) hn ht, ?_⟩⟩
  · rw [g3.fn]; exact penalty_any dy c es2 ce2 us2 cu2 p now t W' (g2.bel hb) hn ht
  · rw [g3.fn]; exact heldq_any dy c es2 ce2 us2 cu2 p now t W' (g2.bel hb) hn ht
theorem Kd.dp {W W' : World} {d d' : Dw} {c : Dc} {es : Ents Pf Pn} {ce : Nat} {us : Ents Pf Unit} {cu : Nat} (k : Kd W W' d) (h : Dp W d' c es ce us cu) (ha : ∀ g, fpD d g → ¬ fpD d' g) : Dp W' d' c es ce us cu := h.blk (fun g hg hl => k.blk g hl (fun e => ha g e hg))
def ckOf (c : Dc) (r now : Int) : Dc := if r = 0 then clkD c now.toNat else c
/-- Flap of both -/
def FlX (w : World) (dx dy : Dw) (N : Nat) (c : Dc) (p : Pf) (what now : Int) (W : World) (e : Ending) (w1 : World) : Prop := ∃ r : Int, e = .returned (.int .i64 r) ∧ Kd W w1 dx ∧ (r = 0 → (c.clock : Int) ≤ now ∧ now ≤ 1099511627776) ∧ ∀ W', Below w1.heap.size w1 W' → Calls Try.prog 8 #[.pointer (some ⟨dy.b, 0, none⟩), pfV p, .int .i64 what, .int .i64 now] W' fun e2 w2 => e2 = .returned (.int .i64 r) ∧ Kd W' w2 dy ∧ LA w dx dy (N + 1) (ckOf c r now) w2
theorem LA.flap {w : World} {dx dy : Dw} {N : Nat} {c : Dc} {W : World} (h : LA w dx dy N c W) (hN : N ≤ 100000) (p : Pf) (hp : 0 ≤ p.1 ∧ p.1 < 4294967296) (what now : Int) : Calls Try.prog 8 #[.pointer (some ⟨dx.b, 0, none⟩), pfV p, .int .i64 what, .int .i64 now] W (FlX w dx dy N c p what now W) := by
  obtain ⟨es1, ce1, us1, cu1, es2, ce2, us2, cu2, g1, g2, g3, g4, g5⟩ := h.st
  refine (flap_any dx c es1 ce1 us1 cu1 p what now W g1 hp (by omega)).mono ?_
  rintro e w1 ⟨he, hk, hno, hok⟩
  refine ⟨chkP c es1 p what now, he, hk, chk_ok, fun W' hb => ?_⟩
  have hd2 : Dp W' dy c es2 ce2 us2 cu2 := (hk.dp g2 h.ap).bel hb
  refine (flap_any dy c es2 ce2 us2 cu2 p what now W' hd2 hp (by omega)).mono ?_
  rintro e2 w2 ⟨he2, hk2, hno2, hok2⟩
  have hce := g3.chk g1.eok g2.eok c p what now
  have hbw : Below w.heap.size w w2 := hk2.below ((hk.below h.bel h.lx).trans (hb.mono (hk.below h.bel h.lx).size)) h.ly
  have hsz : W.heap.size ≤ w2.heap.size := Nat.le_trans hk.str.size (Nat.le_trans hb.size hk2.str.size)
  refine ⟨by rw [hce]; exact he2, hk2, ?_, h.ap, h.lx, h.ly, hbw, fun g hg => Nat.lt_of_lt_of_le (h.lt g hg) hsz⟩
  by_cases h0 : chkP c es1 p what now = 0
  · have hx := hk2.dp ((hok h0).bel hb) (fun g a b => h.ap g b a)
    have hy := hok2 (by rw [← hce]; exact h0)
    rw [← g3.fn] at hy
    refine ⟨_, _, _, _, _, _, _, _, by unfold ckOf; rw [if_pos h0]; exact hx, by unfold ckOf; rw [if_pos h0]; exact hy, g3.flap g1.eok g2.eok _ _ _ _ _, g4.unt _ _ _ _, ?_⟩
    have a1 := flE_len c es1 ce1 p now.toNat (valP c (mget es1) p what now.toNat) (hldP c (mget es1) p what now.toNat)
    have a2 := flE_len c es2 ce2 p now.toNat (valP c (mget es1) p what now.toNat) (hldP c (mget es1) p what now.toNat)
    have a3 := flU_len us1 cu1 p (hldP c (mget es1) p what now.toNat)
    have a4 := flU_len us2 cu2 p (hldP c (mget es1) p what now.toNat)
    omega
  · have hx := hk2.dp ((hno h0).bel hb) (fun g a b => h.ap g b a)
    have hy := hno2 (by rw [← hce]; exact h0)
    exact ⟨_, _, _, _, _, _, _, _, by unfold ckOf; rw [if_neg h0]; exact hx, by unfold ckOf; rw [if_neg h0]; exact hy, g3, g4, by omega⟩
/-- Freed of both -/
def FrX (w : World) (dx dy : Dw) (N : Nat) (c : Dc) (now : Int) (t : Nat) (W : World) (e : Ending) (w1 : World) : Prop := ∃ va n cap, e = .returned (.slice va n cap) ∧ Kd W w1 dx ∧ ∀ W', Below w1.heap.size w1 W' → Calls Try.prog 14 #[.pointer (some ⟨dy.b, 0, none⟩), .int .i64 now] W' fun e2 w2 => ∃ vb capb, e2 = .returned (.slice vb n capb) ∧ Kd W' w2 dy ∧ (∀ W2, Below w2.heap.size w2 W2 → Calls Try.prog 16 #[.slice va n cap, .slice vb n capb] W2 fun e3 w3 => e3 = .returned (.bool true) ∧ Below W2.heap.size W2 w3) ∧ LA w dx dy (N + 1) (clkD c t) w2
theorem LA.freed {w : World} {dx dy : Dw} {N : Nat} {c : Dc} {W : World} (h : LA w dx dy N c W) (hN : N ≤ 100000) (now : Int) (t : Nat) (ht : max (c.clock : Int) (min now 1099511627776) = (t : Int)) : Calls Try.prog 14 #[.pointer (some ⟨dx.b, 0, none⟩), .int .i64 now] W (FrX w dx dy N c now t W) := by
  obtain ⟨es1, ce1, us1, cu1, es2, ce2, us2, cu2, g1, g2, g3, g4, g5⟩ := h.st
  refine (freed_any dx c es1 ce1 us1 cu1 now t W g1 ht (by omega)).mono ?_
  rintro e w1 ⟨⟨va, n, cap, ys, he, hyl, hn6, hls, hsr, hpm, hva⟩, hk, hdp⟩
  refine ⟨va, n, cap, he, hk, fun W' hb => ?_⟩
  have hd2 : Dp W' dy c es2 ce2 us2 cu2 := (hk.dp g2 h.ap).bel hb
  refine (freed_any dy c es2 ce2 us2 cu2 now t W' hd2 ht (by omega)).mono ?_
  rintro e2 w2 ⟨⟨vb, m, capb, zs, he2, hzl, hm6, hls2, hsr2, hpm2, hvb⟩, hk2, hdp2⟩
  have hyz : ys = zs := g3.freed g1.eok g2.eok g4 g1.uok g2.uok c t hsr hsr2 hpm hpm2
  subst hyz
  have hmn : m = n := by omega
  subst hmn
  have hl2 : Lst E2 w2 va ys := (hls.bel hb).keep hk2.str.size (fun b o e hl => hk2.blk b hl (fun hf => by
    obtain ⟨-, -, hwb, -, -⟩ := hva b o none e
    have := h.lt b (.inr hf)
    omega))
  have hbw : Below w.heap.size w w2 := hk2.below ((hk.below h.bel h.lx).trans (hb.mono (hk.below h.bel h.lx).size)) h.ly
  have hsz : W.heap.size ≤ w2.heap.size := Nat.le_trans hk.str.size (Nat.le_trans hb.size hk2.str.size)
  refine ⟨vb, capb, he2, hk2, fun W2 hb2 => pfxs_same va cap vb capb ys m hyl W2 (hl2.bel hb2) (hls2.bel hb2), ⟨_, _, _, _, _, _, _, _, hk2.dp (hdp.bel hb) (fun g a b => h.ap g b a), hdp2, g3.live g1.eok g2.eok c t, g3.left g1.eok g2.eok g4 g1.uok g2.uok c t, ?_⟩, h.ap, h.lx, h.ly, hbw, fun g hg => Nat.lt_of_lt_of_le (h.lt g hg) hsz⟩
  have a1 : (liveP c es1 t).length ≤ es1.length := List.length_filter_le _ _
  have a2 : (liveP c es2 t).length ≤ es2.length := List.length_filter_le _ _
  have a3 : (us1.filter (fun x => !freeX (clkD c t) (mget (liveP c es1 t)) t x)).length ≤ us1.length := List.length_filter_le _ _
  have a4 : (us2.filter (fun x => !freeX (clkD c t) (mget (liveP c es2 t)) t x)).length ≤ us2.length := List.length_filter_le _ _
  omega
end Go.Proofs.Ytjfiahendnlcjaa.Da
