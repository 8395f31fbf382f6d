/- DampPlays: the program's damper and the document's beside each other, in memory. -/
import Derived.Test.YtjfiahendnlcjaaDqF
import Derived.Test.YtjfiahendnlcjaaDaL
import Derived.Laws.IdiomCopy
namespace Go.Proofs.Ytjfiahendnlcjaa.Da
open Go.ChangeShapes Go.WideShapes Go.ChangeAt Go.RowKit Go.Joins Go.Deep Go.Proofs.Ytjfiahendnlcjaa.Ge Go.Proofs.Ytjfiahendnlcjaa.PM Go.Proofs.Ytjfiahendnlcjaa.Ask
set_option linter.unusedVariables false
set_option linter.unusedSimpArgs false

structure LQ (w : World) (dx : Dw) (bd i : Nat) (c : Dc) (va : Option Addr) (n cap : Nat) (W : World) : Prop where
  st : ∃ es ce us cu L, Dp W dx c es ce us cu ∧ Rd c es us L ∧ Lst EK W va L ∧ L.length = n ∧ es.length ≤ i ∧ us.length ≤ i ∧ n ≤ i
  vne : ∀ b o s, va = some ⟨b, o, s⟩ → w.heap.size ≤ b ∧ ¬ fpD dx b ∧ b ≠ bd
  bel : Below w.heap.size w W
  fps : ∀ g, fpD dx g → w.heap.size ≤ g
  bdn : w.heap.size ≤ bd ∧ ¬ fpD dx bd
section
variable {w : World} {dx : Dw} {bd i : Nat} {c : Dc} {va : Option Addr} {n cap : Nat} {W W' : World}
theorem LQ.lt (h : LQ w dx bd i c va n cap W) (g : Nat) (hg : fpD dx g) : g < W.heap.size := by
  obtain ⟨es, ce, us, cu, L, h1, -⟩ := h.st
  exact h1.lt g hg
theorem LQ.cok (h : LQ w dx bd i c va n cap W) : DcOk c := by
  obtain ⟨es, ce, us, cu, L, h1, -⟩ := h.st
  exact h1.cok
theorem LQ.step (h : LQ w dx bd i c va n cap W) (hb : Below W.heap.size W W') : LQ w dx bd i c va n cap W' := by
  obtain ⟨es, ce, us, cu, L, h1, h2, h3, h4⟩ := h.st
  exact ⟨⟨es, ce, us, cu, L, h1.bel hb, h2, h3.bel hb, h4⟩, h.vne, h.bel.trans (hb.mono h.bel.size), h.fps, h.bdn⟩
theorem LQ.kb (h : LQ w dx bd i c va n cap W) (hk : Ko W bd W') : LQ w dx bd i c va n cap W' := by
  obtain ⟨es, ce, us, cu, L, h1, h2, h3, h4⟩ := h.st
  exact ⟨⟨es, ce, us, cu, L, h1.blk (fun g hg _ => hk.block g (fun e => h.bdn.2 (e ▸ hg))), h2, h3.keep (Nat.le_of_eq hk.size.symm) (fun b o e _ => hk.block b (h.vne b o none e).2.2), h4⟩, h.vne, h.bel.trans (hk.below h.bdn.1), h.fps, h.bdn⟩
/-- a block that is none of theirs has turned -/
theorem LQ.ko {g : Nat} (h : LQ w dx bd i c va n cap W) (hk : Ko W g W') (h1 : ¬ fpD dx g) (h2 : w.heap.size ≤ g) (h3 : ∀ b o s, va = some ⟨b, o, s⟩ → b ≠ g) : LQ w dx bd i c va n cap W' := by
  obtain ⟨es, ce, us, cu, L, g1, g2, g3, g4⟩ := h.st
  exact ⟨⟨es, ce, us, cu, L, g1.blk (fun q hg _ => hk.block q (fun e => h1 (e ▸ hg))), g2, g3.keep (Nat.le_of_eq hk.size.symm) (fun b o e _ => hk.block b (h3 b o none e)), g4⟩, h.vne, h.bel.trans (hk.below h2), h.fps, h.bdn⟩
theorem LQ.next (h : LQ w dx bd i c va n cap W) : LQ w dx bd (i + 1) c va n cap W := by
  obtain ⟨es, ce, us, cu, L, h1, h2, h3, h4, h5, h6, h7⟩ := h.st
  exact ⟨⟨es, ce, us, cu, L, h1, h2, h3, h4, by omega, by omega, by omega⟩, h.vne, h.bel, h.fps, h.bdn⟩
theorem LQ.ask (h : LQ w dx bd i c va n cap W) (p : Pf) (now : Int) (hn : now < 9223372036854775808) (t : Nat) (ht : max now (c.clock : Int) = (t : Int)) : ∃ (z : Nat) (hb : Bool), ∀ W', Below W.heap.size W W' →
    (Calls Try.prog 10 #[.pointer (some ⟨dx.b, 0, none⟩), pfV p, .int .i64 now] W' fun e w' => e = .returned (.int .i64 (z : Nat)) ∧ Below W'.heap.size W' w') ∧
    (Calls Try.prog 11 #[.agg (ddL c va n cap).toArray, pfV p, .int .i64 (t : Int)] W' fun e w' => e = .returned (.int .i64 (z : Nat)) ∧ Below W'.heap.size W' w') ∧
    (Calls Try.prog 12 #[.pointer (some ⟨dx.b, 0, none⟩), pfV p, .int .i64 now] W' fun e w' => e = .returned (.bool hb) ∧ Below W'.heap.size W' w') ∧
    (Calls Try.prog 13 #[.agg (ddL c va n cap).toArray, pfV p, .int .i64 (t : Int)] W' fun e w' => e = .returned (.bool hb) ∧ Below W'.heap.size W' w') := by
  obtain ⟨es, ce, us, cu, L, g1, g2, g3, g4, g5⟩ := h.st
  have hc := g1.cok.clock
  refine ⟨penP c (mget es) p t, heldP c (mget es) p t, fun W' hb => ⟨penalty_any dx c es ce us cu p now t W' (g1.bel hb) hn ht, ?_, heldq_any dx c es ce us cu p now t W' (g1.bel hb) hn ht, ?_⟩⟩
  · rw [g2.pen p t (by omega)]; exact dpen_any c g1.cok va n cap L g4 g2.bd p t (by omega) W' (g3.bel hb)
  · rw [g2.hld p t (by omega)]; exact dheld_any c g1.cok va n cap L g4 g2.bd p t (by omega) W' (g3.bel hb)
def FqX (w : World) (dx : Dw) (bd i : Nat) (c : Dc) (va : Option Addr) (n cap : Nat) (p : Pf) (what now : Int) (W : World) (e : Ending) (w1 : World) : Prop := ∃ r : Int, e = .returned (.int .i64 r) ∧ Kd W w1 dx ∧ ∀ W', Below w1.heap.size w1 W' → Calls Try.prog 9 #[.agg (ddL c va n cap).toArray, pfV p, .int .i64 what, .int .i64 now] W' fun e2 w2 => ∃ c' va' n' cap', e2 = .returned (.tuple #[.agg (ddL c' va' n' cap').toArray, .int .i64 r]) ∧ Below W'.heap.size W' w2 ∧ LQ w dx bd (i + 1) c' va' n' cap' w2
theorem Rd.keepL {W : World} {d : Dw} {va : Option Addr} {L : List DM} (h : Lst EK W va L) (k : Kd W W' d) (hv : ∀ b o s, va = some ⟨b, o, s⟩ → ¬ fpD d b) : Lst EK W' va L := h.keep k.str.size (fun b o e hl => k.blk b hl (hv b o none e))
theorem dput_len (L : List DM) (m : DM) : (dput L m).length ≤ L.length + 1 := by
  unfold dput
  rw [List.length_append]
  have := List.length_filter_le (fun x => decide (x.p ≠ m.p)) L
  simp only [List.length_singleton]
  omega
theorem LQ.flap (h : LQ w dx bd i c va n cap W) (hbl : bd < W.heap.size) (hN : i ≤ 100000) (p : Pf) (hp : 0 ≤ p.1 ∧ p.1 < 4294967296) (what now : Int) : Calls Try.prog 8 #[.pointer (some ⟨dx.b, 0, none⟩), pfV p, .int .i64 what, .int .i64 now] W (FqX w dx bd i c va n cap p what now W) := by
  obtain ⟨es, ce, us, cu, L, g1, g2, g3, g4, g5, g6, g7⟩ := h.st
  refine (flap_any dx c es ce us cu p what now W g1 hp (by omega)).mono ?_
  rintro e w1 ⟨he, hk, hno, hok⟩
  refine ⟨chkP c es p what now, he, hk, fun W' hb => ?_⟩
  have hce := g2.chk g1.eok p what now
  have hl2 : Lst EK W' va L := (Rd.keepL g3 hk (fun b o s e => (h.vne b o s e).2.1)).bel hb
  obtain ⟨⟨c', L'⟩, hq⟩ : ∃ q, (if chkP c es p what now = 0 then (clkD c now.toNat, dput L (fmk c L p what now.toNat)) else (c, L)) = q := ⟨_, rfl⟩
  refine (dflap_any c g1.cok va n cap L g4 g2.bd g2.nd p hp what now (by omega) W' hl2 (chkP c es p what now) hce.symm c' L' hq).mono ?_
  rintro e2 w2 ⟨va', n', cap', he2, hl', hn', hva, hb2⟩
  have hbw : Below w.heap.size w W' := (hk.below h.bel h.fps).trans (hb.mono (hk.below h.bel h.fps).size)
  have hfl : ∀ g, fpD dx g → g < W'.heap.size := fun g hg => Nat.lt_of_lt_of_le (g1.lt g hg) (Nat.le_trans hk.str.size hb.size)
  have hbl' : bd < W'.heap.size := Nat.lt_of_lt_of_le hbl (Nat.le_trans hk.str.size hb.size)
  refine ⟨c', va', n', cap', he2, hb2, ?_, fun b o s e => ?_, hbw.trans (hb2.mono hbw.size), h.fps, h.bdn⟩
  · by_cases h0 : chkP c es p what now = 0
    · rw [if_pos h0] at hq
      obtain ⟨rfl, rfl⟩ := Prod.mk.inj hq
      have hck := chk_ok h0
      have hr := g2.flap g1.cok g1.eok (cu := cu) p what (t := now.toNat) (by omega)
      have a1 := flE_len c es ce p now.toNat (valP c (mget es) p what now.toNat) (hldP c (mget es) p what now.toNat)
      have a3 := flU_len us cu p (hldP c (mget es) p what now.toNat)
      have a4 := dput_len L (fmk c L p what now.toNat)
      exact ⟨_, _, _, _, _, ((hok h0).bel hb).bel hb2, hr, hl', hn', by omega, by omega, by omega⟩
    · rw [if_neg h0] at hq
      obtain ⟨rfl, rfl⟩ := Prod.mk.inj hq
      exact ⟨_, _, _, _, _, ((hno h0).bel hb).bel hb2, g2, hl', hn', by omega, by omega, by omega⟩
  · rcases hva b o s e with e2 | e2
    · exact h.vne b o s (e2 ▸ e)
    · exact ⟨Nat.le_trans hbw.size e2, fun hf => by have := hfl b hf; omega, by omega⟩
def FsX (w : World) (dx : Dw) (bd i : Nat) (c : Dc) (va : Option Addr) (n cap : Nat) (now : Int) (t : Nat) (W : World) (e : Ending) (w1 : World) : Prop := ∃ vl nl cl, e = .returned (.slice vl nl cl) ∧ Kd W w1 dx ∧ nl ≤ 1000000 ∧ (∀ k, k < nl → ∃ g, vl = some ⟨g, 0, none⟩ ∧ W.heap.size ≤ g ∧ g < w1.heap.size ∧ ∀ j, j < nl * 2 → (w1.cell? ⟨g, j, none⟩).isSome = true ∧ w1.frozen? ⟨g, j, none⟩ = false) ∧ ∀ W', Below w1.heap.size w1 W' → Calls Try.prog 15 #[.agg (ddL c va n cap).toArray, .int .i64 now] W' fun e2 w2 => ∃ va' n' cap' oa oc, e2 = .returned (.tuple #[.agg (ddL (clkD c t) va' n' cap').toArray, .slice oa nl oc]) ∧ Below W'.heap.size W' w2 ∧ (∀ b o s, va' = some ⟨b, o, s⟩ → W'.heap.size ≤ b) ∧ (∀ W2, Below w2.heap.size w2 W2 → Calls Try.prog 16 #[.slice vl nl cl, .slice oa nl oc] W2 fun e3 w3 => e3 = .returned (.bool true) ∧ Below W2.heap.size W2 w3) ∧ LQ w dx bd (i + 1) (clkD c t) va' n' cap' w2
theorem LQ.freed (h : LQ w dx bd i c va n cap W) (hbl : bd < W.heap.size) (hN : i ≤ 100000) (now : Int) (t : Nat) (ht : max (c.clock : Int) (min now 1099511627776) = (t : Int)) : Calls Try.prog 14 #[.pointer (some ⟨dx.b, 0, none⟩), .int .i64 now] W (FsX w dx bd i c va n cap now t W) := by
  obtain ⟨es, ce, us, cu, L, g1, g2, g3, g4, g5, g6, g7⟩ := h.st
  refine (freed_any dx c es ce us cu now t W g1 ht (by omega)).mono ?_
  rintro e w1 ⟨⟨vl, nl, cl, ys, he, hyl, hn6, hls, hsr, hpm, hva⟩, hk, hdp⟩
  refine ⟨vl, nl, cl, he, hk, hn6, fun k hkn => ?_, fun W' hb => ?_⟩
  · obtain ⟨g, o, e, hgl, hgc⟩ := hls.cells k (by omega)
    obtain ⟨rfl, -, hwg, -, hfz, -⟩ := hva g o none e
    refine ⟨g, e, hwg, hgl, fun j hj => ⟨?_, hfz j hj⟩⟩
    have hj2 : j / 2 < ys.length := by omega
    obtain ⟨g', o', e', -, hc'⟩ := hls.cells (j / 2) hj2
    rw [e] at e'
    cases e'
    have h5 := hc' (j % 2) (Nat.mod_lt _ (by decide))
    have e5 : 0 + j / 2 * E2.k + j % 2 = j := by have : E2.k = 2 := rfl; rw [this]; omega
    rw [e5] at h5
    rw [h5]
    have h6 : j % 2 < (E2.enc ys[j / 2]).length := by rw [E2.hlen]; exact Nat.mod_lt _ (by decide)
    rw [List.getElem?_eq_getElem h6]
    rfl
  have htc : c.clock ≤ t := by omega
  have hl2 : Lst EK W' va L := (Rd.keepL g3 hk (fun b o s e => (h.vne b o s e).2.1)).bel hb
  refine (dfreed_any c g1.cok va n cap L g4 g2.bd now t ht (by omega) W' hl2).mono ?_
  rintro e2 w2 ⟨va', n', cap', oa, on, oc, zs, he2, hl', hn', hva', hlo, hol, hsz, hpz, hb2⟩
  obtain ⟨hr, hp⟩ := g2.freed g1.cok g1.eok g1.uok htc
  have hyz : ys = zs := sorted_uniq ys zs hsr hsz (hpm.trans (hp.trans hpz.symm))
  subst hyz
  obtain rfl : on = nl := by omega
  have hbw : Below w.heap.size w W' := (hk.below h.bel h.fps).trans (hb.mono (hk.below h.bel h.fps).size)
  have hfl : ∀ g, fpD dx g → g < W'.heap.size := fun g hg => Nat.lt_of_lt_of_le (g1.lt g hg) (Nat.le_trans hk.str.size hb.size)
  have hbl' : bd < W'.heap.size := Nat.lt_of_lt_of_le hbl (Nat.le_trans hk.str.size hb.size)
  refine ⟨va', n', cap', oa, oc, he2, hb2, hva', fun W2 hb3 => pfxs_same vl cl oa oc ys on hyl W2 (((hls.bel hb).bel hb2).bel hb3) (hlo.bel hb3), ⟨_, _, _, _, _, (hdp.bel hb).bel hb2, hr, hl', hn', ?_, ?_, ?_⟩, fun b o s e => ?_, hbw.trans (hb2.mono hbw.size), h.fps, h.bdn⟩
  · exact Nat.le_trans (List.length_filter_le _ _) (by omega)
  · exact Nat.le_trans (List.length_filter_le _ _) (by omega)
  · rw [← hn']
    unfold frL
    rw [List.length_map]
    omega
  · have e2 := hva' b o s e
    exact ⟨Nat.le_trans hbw.size e2, fun hf => by have := hfl b hf; omega, by omega⟩
end
/-- cells of a block that can be written -/
def Th (W : World) (g m : Nat) : Prop := ∀ j, j < m → (W.cell? ⟨g, j, none⟩).isSome = true ∧ W.frozen? ⟨g, j, none⟩ = false
theorem Th.blk {W W' : World} {g m : Nat} (h : Th W g m) (hb : W'.heap[g]? = W.heap[g]?) : Th W' g m := fun j hj => by
  unfold World.cell? World.frozen?
  have := h j hj
  unfold World.cell? World.frozen? at this
  rw [hb]
  exact this
theorem Th.set {W : World} {g m : Nat} (h : Th W g m) (off : Nat) (vs : List Value) (ho : off + vs.length ≤ m) : Th (W.setCells g off vs) g m := fun j hj => by
  refine ⟨?_, by rw [World.frozen?_setCells]; exact (h j hj).2⟩
  by_cases hin : off ≤ j ∧ j < off + vs.length
  · have h2 := World.cell?_setCells_in g vs off W (fun k hk => (h (off + k) (by omega)).1) (j - off) (by omega)
    have e : off + (j - off) = j := by omega
    rw [e] at h2
    rw [h2]
    rfl
  · rw [World.cell?_setCells_out g vs off W ⟨g, j, none⟩ (fun _ _ => by show j < off ∨ _ ≤ j; omega)]
    exact (h j hj).1
theorem ko_cells (g : Nat) : ∀ (vs : List Value) (off : Nat) (W : World), Ko W g (W.setCells g off vs)
  | [], _, W => Ko.refl W g
  | v :: r, off, W => (Ko.set W g off v).trans (ko_cells g r (off + 1) _)
theorem list_iput {ops : Array Oper} {rest : List Oper} {o : Oper} {ac : Act} {Q : Exit → Act → World → Prop} {W : World} (U : Sk) (hgd : o.guard = none) (x y : Operand) (ho : o.op = .store U.t x y) {g off m : Nat} {vs : List Value} (hx : ac.eval x = .pointer (some ⟨g, off, none⟩)) (hy : ac.eval y = .agg vs.toArray) (h : Th W g m) (hin : off + vs.length ≤ m) (hl : vs.length = U.k) (h1 : vs.all (·.oneCell') = true)
    (k : ∀ W', Hid (Th W' g m) → Hid (Ko W g W') → wpList Try.prog ops Q rest (ac.put o.dst undef) W') : wpList Try.prog ops Q (o :: rest) ac W := by
  have ht : W.there g off vs.toArray.size := fun j hj => by
    have hj2 : j < vs.length := hj
    exact h (off + j) (by omega)
  have hr : (execOp ac.eval o).run Try.prog W = .ok .skip (W.setCells g off vs) := by
    unfold execOp
    simp only [ho, hx, hy, Instr.storeAt, Instr.sureAddr, Sem.run_bind, Sem.run_pure, Result.andThen_ok, run_storeVar_mid (P := Try.prog) W g off U.t vs.toArray ht (by rw [U.hi]; simp [hl]) (by simpa using h1)]
  refine wpList_plain hgd fun K hK => ?_
  unfold Oper.wp
  rw [hr]
  exact hK _ _ (k _ (h.set off vs hin) (ko_cells g vs off W))
end Go.Proofs.Ytjfiahendnlcjaa.Da
