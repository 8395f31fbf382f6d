/- SessionSpoilt: the law. -/
import Derived.Test.YtanboekdfdafmaaMgR
namespace Go.Proofs.Ytanboekdfdafmaa.Pv
open Go.ChangeShapes Go.WideShapes Go.ChangeAt Go.RowKit Go.Joins Go.Deep Go.Proofs.Ytanboekdfdafmaa.PM Go.Proofs.Ytanboekdfdafmaa.Ask Go.Proofs.Ytanboekdfdafmaa.Ge
set_option linter.unusedVariables false
set_option linter.unusedSimpArgs false

namespace Sp
theorem pmnew_run {o : Oper} {ρ : Operand → Value} {W : World} (ho : o.op = .alloc 54) : (execOp ρ o).run Try.prog W = .ok (.value (.pointer (some ⟨W.heap.size, 0, none⟩))) (W.alloc (Obj.cells (msL ms0 sZ).toArray 54)) := by
  unfold execOp
  rw [ho]
  simp [go_sem, msL, ms0, rtZ, sZ]
theorem list_pmnew {ops : Array Oper} {rest : List Oper} {o : Oper} {ac : Act} {Q : Exit → Act → World → Prop} {W : World} (hgd : o.guard = none) (ho : o.op = .alloc 54)
    (k : ∀ b W', Hid (W.heap.size = b) → Hid (SB PmK b (msL ms0 sZ) W') → Hid (Below W.heap.size W W') → wpList Try.prog ops Q rest (ac.put o.dst (.pointer (some ⟨b, 0, none⟩))) W') : wpList Try.prog ops Q (o :: rest) ac W := by
  refine wpList_plain hgd fun K hK => ?_
  unfold Oper.wp
  rw [pmnew_run ho]
  exact hK _ _ (k _ _ rfl (World.alloc_heap_new W _) ((Below.refl _ W).alloc (Nat.le_refl _) _))
/-- the head of a list of messages -/
theorem slkm_run {o : Oper} {ρ : Operand → Value} {W : World} (x hi : Operand) (ho : o.op = .slice 39 x none (some hi) none) {ao : Option Addr} {n c k : Nat} (hx : ρ x = .slice ao n c) (hh : ρ hi = .int .i64 (k : Int)) (h1 : k ≤ n) (h2 : n ≤ c) (hnil : ao = none → n = 0 ∧ c = 0) (hsp : ∀ ad, ao = some ad → ∃ b f, ad = ⟨b, f, none⟩) :
    (execOp ρ o).run Try.prog W = .ok (.value (.slice ao k c)) W := by
  cases ao with
  | none =>
    obtain ⟨rfl, rfl⟩ := hnil rfl
    obtain rfl : k = 0 := by omega
    unfold execOp
    rw [ho]
    simp [go_sem, hx, hh]
  | some ad =>
    obtain ⟨b, f, rfl⟩ := hsp ad rfl
    have g2 : (k : Int) ≤ (c : Int) := by omega
    unfold execOp
    rw [ho]
    by_cases hc : c = 0
    · subst hc
      obtain rfl : k = 0 := by omega
      simp [go_sem, hx, hh]
    · simp [go_sem, hx, hh, g2, hc]
theorem own_spm {N : Nat} {w : World} {a : Option Addr} {n c : Nat} {xs : List (Ms × Sl)} (h : Gm.OwnL E17 N w (.slice a n c) xs) : ∀ ad, a = some ad → ∃ b f, ad = ⟨b, f, none⟩ := fun ad e => by
  obtain ⟨bb, ff, sp⟩ := ad
  rcases h.row.2 with ⟨h1, -⟩ | ⟨g, cp, cur, h1, -⟩
  · injection h1 with h1 _ _; rw [e] at h1; cases h1
  · injection h1 with h1 _ _; rw [e] at h1; cases h1; exact ⟨_, _, rfl⟩
theorem own_byte {N : Nat} {w : World} {g n cap i a : Nat} {xs : List Nat} (h : OwnL E8 N w (.slice (some ⟨g, 0, none⟩) n cap) xs) (ha : xs[i]? = some a) : w.cell? ⟨g, i, none⟩ = some (.int .u8 (a : Int)) := by
  obtain ⟨hi, e⟩ := List.getElem?_eq_some_iff.1 ha
  have := h.at0.1 i hi 0 (by decide)
  rw [e] at this
  simpa [E8] using this
/-- one byte of what is under way is changed -/
theorem TI.spoil {N : Nat} {w : World} {bt g n cap k y : Nat} {t : Tl} {c : Cp} (h : TI N w bt t c) (hw : c.w 1 = .slice (some ⟨g, 0, none⟩) n cap) (hk : k < (t.y 1).length) (hy : y < 256) : TI N (w.setCell ⟨g, k, none⟩ (.int .u8 (y : Int))) bt (wayP t 1 ((t.y 1).set k y)) c ∧ Kl w (w.setCell ⟨g, k, none⟩ (.int .u8 (y : Int))) bt c c := by
  have e : ({ c with w := upd c.w 1 (.slice (some ⟨g, 0, none⟩) n cap) } : Cp) = c := by
    have e2 : upd c.w 1 (.slice (some ⟨g, 0, none⟩) n cap) = c.w := by
      funext i
      by_cases hi : i = 1
      · subst hi; rw [upd_at, hw]
      · rw [upd_ne _ _ hi]
    rw [e2]
  have ho := (h.y 1 (by omega)).1
  rw [hw] at ho
  have h8 : OwnL E8 N (w.setCell ⟨g, k, none⟩ (.int .u8 (y : Int))) (.slice (some ⟨g, 0, none⟩) n cap) ((t.y 1).set k y) := by
    have := ho.setc (i := k) (j := 0) hk (by decide) (.int .u8 (y : Int)) y (by simp [E8])
    simpa [E8] using this
  have hko : Ko w g (w.setCell ⟨g, k, none⟩ (.int .u8 (y : Int))) := Ko.set _ _ _ _
  have hob : (c.w 1).ownBlock = some g := by rw [hw]; rfl
  have hbt : bt ≠ g := fun e2 => h.d 4 0 (by omega) (by omega) (by omega) g hob e2.symm
  have hg : w.grownBy (w.setCell ⟨g, k, none⟩ (.int .u8 (y : Int))) (c.w 1).ownBlock := ⟨hko.str.os, hko.str.tape, hko.str.output, hko.str.size, fun b hb hne => hko.block b (fun e2 => hne (by rw [hob, e2]))⟩
  have hx : SB TaK bt (taL (wayP t 1 ((t.y 1).set k y)) { c with w := upd c.w 1 (.slice (some ⟨g, 0, none⟩) n cap) }) (w.setCell ⟨g, k, none⟩ (.int .u8 (y : Int))) := by
    rw [e]
    exact h.box.blk (hko.block bt hbt)
  have r := TI.way h (j := 1) (by omega) (Below.refl _ w) h8 (set_u8 (h.y 1 (by omega)).2 k hy) hg (.inl (by rw [hw])) (Ko.refl _ bt) hx
  rw [e] at r
  exact r
theorem giv_gv {w : World} {c : Cp} {q : Nat} {v : Value} {m : Ms} {sl : Sl} (h : ∀ i, i < 2 → ∀ p ∈ c.h i, MOk w p.1 p.2) (hm : MOk w m sl) : ∀ i, i < 2 → ∀ p ∈ (givC c q v m sl).h i, MOk w p.1 p.2 := fun i hi p hp => by
  by_cases e : i = q
  · subst e
    have hp2 : p ∈ upd c.h i (c.h i ++ [(m, sl)]) i := hp
    rw [upd_at] at hp2
    rcases List.mem_append.1 hp2 with h2 | h2
    · exact h i hi p h2
    · rw [List.mem_singleton] at h2; subst h2; exact hm
  · have hp2 : p ∈ upd c.h q (c.h q ++ [(m, sl)]) i := hp
    rw [upd_ne _ _ e] at hp2
    exact h i hi p hp2
theorem TC.keep {bt : Nat} {c : Cp} {k : Int} {w w' : World} (h : TC bt c k w) (hb : w'.heap[bt]? = w.heap[bt]?) : TC bt c k w' := by
  unfold TC World.cell? at *
  rw [hb]
  exact h
/-- within the loop -/
structure LS (w : World) (N : Nat) (w9 : World) (bt : Nat) (c9 : Cp) (d0 i0 h0 d1 i1 h1 : Int) (j : Nat) (wr : World) (t : Tl) (c : Cp) : Prop where
  ti : TI N wr bt t c
  kl : Kl w9 wr bt c9 c
  v : ∃ g, vw t = vX d0 i0 h0 d1 i1 h1 [] [] [] (SentB g) [] [] g [] ∧ (∀ m ∈ g, encE m = 0 ∧ InM m ∧ m.kind = 2) ∧ g.length ≤ j
  gv : ∀ i, i < 2 → ∀ p ∈ c.h i, MOk w p.1 p.2
theorem LS.bd {w : World} {N : Nat} {w9 : World} {bt : Nat} {c9 : Cp} {d0 i0 h0 d1 i1 h1 : Int} {j : Nat} {wr : World} {t : Tl} {c : Cp} (h : LS w N w9 bt c9 d0 i0 h0 d1 i1 h1 j wr t c) (hj : j ≤ 60) : Bd t ∧ t.clk = 0 := by
  obtain ⟨g, hv, hg, hl⟩ := h.v
  have D1 : Dir g (SentB g) [] [] := ⟨⟨[], rfl, parse_wait sok_nil⟩, hg⟩
  exact ⟨Bv.bd (by rw [hv]; exact vX_bv Dir.nil D1 ⟨by omega, by simp⟩), (vw_parts hv).2.2.2.2.2⟩
theorem LS.bel {w : World} {N : Nat} {w9 : World} {bt : Nat} {c9 : Cp} {d0 i0 h0 d1 i1 h1 : Int} {j : Nat} {wr wr' : World} {t : Tl} {c : Cp} (h : LS w N w9 bt c9 d0 i0 h0 d1 i1 h1 j wr t c) (hb : Below wr.heap.size wr wr') : LS w N w9 bt c9 d0 i0 h0 d1 i1 h1 j wr' t c := ⟨h.ti.bel hb, h.kl.trans (Kl.bel hb), h.v, h.gv⟩
theorem LS.next {w : World} {N : Nat} {w9 : World} {bt : Nat} {c9 : Cp} {d0 i0 h0 d1 i1 h1 : Int} {j : Nat} {wr : World} {t : Tl} {c : Cp} (h : LS w N w9 bt c9 d0 i0 h0 d1 i1 h1 j wr t c) : LS w N w9 bt c9 d0 i0 h0 d1 i1 h1 (j + 1) wr t c := by
  obtain ⟨g, hv, hg, hl⟩ := h.v
  exact ⟨h.ti, h.kl, ⟨g, hv, hg, by omega⟩, h.gv⟩
theorem LS.lo {w : World} {N : Nat} {w9 : World} {bt : Nat} {c9 : Cp} {d0 i0 h0 d1 i1 h1 : Int} {j : Nat} {wr : World} {t : Tl} {c : Cp} (h : LS w N w9 bt c9 d0 i0 h0 d1 i1 h1 j wr t c) (hN : N ≤ w9.heap.size) (hw : w.heap.size ≤ N) (hl : ∀ g, c9.A bt g → N ≤ g) : ∀ g, c.A bt g → w.heap.size ≤ g := fun g hg => by
  rcases h.kl.now g hg with e | e
  · have := hl g e; omega
  · omega
theorem LS.tell0 {w : World} {N : Nat} {w9 : World} {bt : Nat} {c9 : Cp} {d0 i0 h0 d1 i1 h1 : Int} (hs : Hs d0 i0 h0 d1 i1 h1) {j : Nat} {wr : World} {t : Tl} {c : Cp} (h : LS w N w9 bt c9 d0 i0 h0 d1 i1 h1 j wr t c) {m : Ms} (hin : InM m) : ∃ b er, tmP (t.s 0) m t.clk = ((t.s 0, ⟨b, []⟩), er) ∧ (∀ d ∈ b, d < 256) ∧ b.length ≤ 1024 ∧ (er ≠ 0 → ∀ wr' c', TI N wr' bt (outP (sesP t 0 (t.s 0)) 0 ⟨b, []⟩) c' → Kl w9 wr' bt c9 c' → c'.h = c.h → LS w N w9 bt c9 d0 i0 h0 d1 i1 h1 (j + 1) wr' (outP (sesP t 0 (t.s 0)) 0 ⟨b, []⟩) c') ∧ (er = 0 → ((sesP t 0 (t.s 0)).g 0).length ≤ j ∧ ∀ wr' c', TI N wr' bt (outP (givT (sesP t 0 (t.s 0)) 0 m) 0 ⟨b, []⟩) c' → Kl w9 wr' bt c9 c' → (∀ i, i < 2 → ∀ p ∈ c'.h i, MOk w p.1 p.2) → LS w N w9 bt c9 d0 i0 h0 d1 i1 h1 (j + 1) wr' (outP (givT (sesP t 0 (t.s 0)) 0 m) 0 ⟨b, []⟩) c') := by
  obtain ⟨g, hv, hg, hl⟩ := h.v
  obtain ⟨b, er, hP, hu, hbl, hy, hn⟩ := tellv0 hs hv m
  refine ⟨b, er, hP, hu, hbl, fun he wr' c' ht hk hb => ⟨ht, hk, ⟨g, hn he, hg, by omega⟩, by rw [hb]; exact h.gv⟩, fun he => ?_⟩
  obtain ⟨hk2, he2, hv2⟩ := hy he
  have hgg : t.g 0 = g := (vw_parts hv).2.2.2.2.1.1
  refine ⟨by show (t.g 0).length ≤ j; rw [hgg]; exact hl, fun wr' c' ht hk hgv => ⟨ht, hk, ⟨g ++ [m], ?_, fun x hx => ?_, by rw [List.length_append]; simp; omega⟩, hgv⟩⟩
  · rw [vw_out0] at hv2 ⊢
    have e : vw (givT (sesP t 0 (t.s 0)) 0 m) = { vw (sesP t 0 (t.s 0)) with g0 := t.g 0 ++ [m] } := rfl
    have e2 : ∀ (v : Vs) (o : Ou) (x : List Ms), out0 { v with g0 := x } o = { out0 v o with g0 := x } := fun _ _ _ => rfl
    rw [e, e2, hv2, hgg, sent_snoc]
    rfl
  · rcases List.mem_append.1 hx with c1 | c1
    · exact hg x c1
    · rw [List.mem_singleton] at c1; subst c1; exact ⟨he2, hin, hk2⟩
/-- which messages stand ahead of the place -/
def Ip (g : List Ms) (k i : Nat) : Prop := i = 0 ∨ (en g (i - 1) ≤ k ∧ k ≠ en g (i - 1) + 4 ∧ k ≠ en g (i - 1) + 5)
set_option maxRecDepth 100000 in
set_option maxHeartbeats 64000000 in
theorem sspoilt_any (D0 D1 I0 I1 H0 H1 at_ by_ : Int) (vl : Option Addr) (nl cl : Nat) (L : List (Ms × Sl)) (w : World) (hd0 : -9223372036854775808 ≤ D0 ∧ D0 < 9223372036854775808) (hd1 : -9223372036854775808 ≤ D1 ∧ D1 < 9223372036854775808) (hi0 : -9223372036854775808 ≤ I0 ∧ I0 < 9223372036854775808) (hi1 : -9223372036854775808 ≤ I1 ∧ I1 < 9223372036854775808) (hh0 : -9223372036854775808 ≤ H0 ∧ H0 < 9223372036854775808) (hh1 : -9223372036854775808 ≤ H1 ∧ H1 < 9223372036854775808) (hat : -9223372036854775808 ≤ at_ ∧ at_ < 9223372036854775808) (hby : -9223372036854775808 ≤ by_ ∧ by_ < 9223372036854775808) (hln : L.length = nl) (hls : Gm.Lst E17 w vl L) (hlo : ∀ q ∈ L, MOk w q.1 q.2 ∧ (q.1.lost.length ≤ 1048576 ∧ q.1.hv.length ≤ 1048576 ∧ q.1.rt.path.length ≤ 1048576 ∧ q.1.rt.marks.length ≤ 1048576 ∧ q.1.rt.clus.length ≤ 1048576)) (hnl : nl ≤ 9223372036854775807) :
    Calls Try.prog 5 #[.agg #[.int .i64 D0, .int .i64 D1], .agg #[.int .i64 I0, .int .i64 I1], .agg #[.int .i64 H0, .int .i64 H1], .slice vl nl cl, .int .i64 at_, .int .i64 by_] w fun e w' => e = .returned (.bool true) ∧ Below w.heap.size w w' := by
  obtain ⟨d0, i0, h0, d1, i1, h1, hcg, hhs, hr0, hr1, hl0, hl1⟩ := cfg_ok D0 D1 I0 I1 H0 H1
  have HCG : Hid (∀ W, Calls Try.prog 6 #[.agg #[.int .i64 D0, .int .i64 D1], .agg #[.int .i64 I0, .int .i64 I1], .agg #[.int .i64 H0, .int .i64 H1]] W fun e w' => e = .returned (.agg [.int .i64 d0, .int .i64 i0, .int .i64 h0, .int .i64 d1, .int .i64 d1, .int .i64 i1, .int .i64 h1, .int .i64 d0].toArray) ∧ Below W.heap.size W w') := fun W => cfgs_any D0 D1 I0 I1 H0 H1 W hd0 hd1 hi0 hi1 hh0 hh1 _ hcg
  have HHS : Hid (Hs d0 i0 h0 d1 i1 h1) := hhs
  have HR0 : Hid (Rc d0 i0 h0 d1) := hr0
  have HR1 : Hid (Rc d1 i1 h1 d0) := hr1
  have HLS : Hid (Gm.Lst E17 w vl L) := hls
  have HLN : Hid (L.length = nl) := hln
  have HLK : Hid (∀ q ∈ L, MOk w q.1 q.2 ∧ (q.1.lost.length ≤ 1048576 ∧ q.1.hv.length ≤ 1048576 ∧ q.1.rt.path.length ≤ 1048576 ∧ q.1.rt.marks.length ≤ 1048576 ∧ q.1.rt.clus.length ≤ 1048576)) := hlo
  have HAT : Hid (-9223372036854775808 ≤ at_ ∧ at_ < 9223372036854775808) := hat
  have HBY : Hid (-9223372036854775808 ≤ by_ ∧ by_ < 9223372036854775808) := hby
  clear hd0 hd1 hi0 hi1 hh0 hh1 hcg hhs hr0 hr1 hls hln hlo hl0 hl1 hat hby
  go_enter Try.func5, Try.ntmps5
  go_wp2_with (refine list_sbox ArK rfl _ rfl (cs := [.int .i64 D0, .int .i64 D1]) rfl ?_)
  intro w3 hx3 hb3 hz3
  clear hz3
  obtain ⟨b3, hb3e⟩ : ∃ y, w.heap.size = y := ⟨_, rfl⟩
  rw [hb3e]
  go_wp2_with (refine list_sbox ArK rfl _ rfl (cs := [.int .i64 I0, .int .i64 I1]) rfl ?_)
  intro w4 hx4 hb4 hz4
  clear hz4
  obtain ⟨b4, hb4e⟩ : ∃ y, w3.heap.size = y := ⟨_, rfl⟩
  rw [hb4e]
  go_wp2_with (refine list_sbox ArK rfl _ rfl (cs := [.int .i64 H0, .int .i64 H1]) rfl ?_)
  intro w5 hx5 hb5 hz5
  clear hz5
  obtain ⟨b5, hb5e⟩ : ∃ y, w4.heap.size = y := ⟨_, rfl⟩
  rw [hb5e]
  have HBE5 : Hid (Below w.heap.size w w5) := by
    have q1 := hb3.out
    have q2 := q1.trans (hb4.out.mono q1.size)
    exact q2.trans (hb5.out.mono q2.size)
  have HX3 : Hid (SB ArK b3 [.int .i64 D0, .int .i64 D1] w5) := by
    have h := hx3.out
    rw [hb3e] at h
    have h2 := h.blk (hb4.out.block _ h.lt)
    exact h2.blk (hb5.out.block _ h2.lt)
  have HX4 : Hid (SB ArK b4 [.int .i64 I0, .int .i64 I1] w5) := by
    have h := hx4.out
    rw [hb4e] at h
    exact h.blk (hb5.out.block _ h.lt)
  have HX5 : Hid (SB ArK b5 [.int .i64 H0, .int .i64 H1] w5) := by
    have h := hx5.out
    rw [hb5e] at h
    exact h
  clear hx3 hb3 hb3e hx4 hb4 hb4e hx5 hb5 hb5e
  by_cases hbig : 30 < nl
  · have hbi : (30 : Int) < (nl : Int) := by omega
    go_wp2_with fail
    go_ret
    exact ⟨rfl, HBE5.out⟩
  · have hbi : ¬ (30 : Int) < (nl : Int) := by omega
    go_wp2_with (first | (refine list_sload ArK rfl _ rfl (b := b3) (cs := [.int .i64 D0, .int .i64 D1]) rfl HX3.out rfl ?_) | (refine list_sload ArK rfl _ rfl (b := b4) (cs := [.int .i64 I0, .int .i64 I1]) rfl HX4.out rfl ?_) | (refine list_sload ArK rfl _ rfl (b := b5) (cs := [.int .i64 H0, .int .i64 H1]) rfl HX5.out rfl ?_))
    refine (HCG.out w5).mono ?_
    rintro e w6 ⟨rfl, hb6⟩
    have HBE6 : Hid (Below w.heap.size w w6) := HBE5.out.trans (hb6.mono HBE5.out.size)
    clear hb6 HX3 HX4 HX5
    go_wp2_with (refine list_cnew rfl rfl ?_)
    intro bc w7 hbc hx7 hb7
    go_wp2_with (refine list_sstore CgK rfl _ _ rfl (b := bc) (cs := c8z) (cs' := [.int .i64 d0, .int .i64 i0, .int .i64 h0, .int .i64 d1, .int .i64 d1, .int .i64 i1, .int .i64 h1, .int .i64 d0]) rfl rfl hx7.out rfl rfl rfl ?_)
    intro w8 hx8 hk8
    have HX8 : Hid (SB CgK bc [.int .i64 d0, .int .i64 i0, .int .i64 h0, .int .i64 d1, .int .i64 d1, .int .i64 i1, .int .i64 h1, .int .i64 d0] w8) := hx8.out
    have HBC : Hid (w.heap.size ≤ bc) := by show _ ≤ _; have := hbc.out; have := HBE6.out.size; omega
    have HBE8 : Hid (Below w.heap.size w w8) := (HBE6.out.trans (hb7.out.mono HBE6.out.size)).trans (hk8.out.below HBC.out)
    clear hbc hx7 hb7 hx8 hk8
    have HTN := tnew_any d0 i0 h0 d1 d1 i1 h1 d0 w8 HR0.out HR1.out
    go_wp2_with (refine list_sload CgK rfl _ rfl (b := bc) (cs := [.int .i64 d0, .int .i64 i0, .int .i64 h0, .int .i64 d1, .int .i64 d1, .int .i64 i1, .int .i64 h1, .int .i64 d0]) rfl HX8.out rfl ?_)
    refine HTN.mono ?_
    rintro e w9 ⟨bt, b0, b1, rfl, hti, hb9, hlo⟩
    have HTI : Hid (TI w8.heap.size w9 bt (newT (newS d0 i0 h0 d1) (newS d1 i1 h1 d0)) (newC b0 b1)) := hti
    have HBE9 : Hid (Below w.heap.size w w9) := HBE8.out.trans (hb9.mono HBE8.out.size)
    have HX9 : Hid (SB CgK bc [.int .i64 d0, .int .i64 i0, .int .i64 h0, .int .i64 d1, .int .i64 d1, .int .i64 i1, .int .i64 h1, .int .i64 d0] w9) := HX8.out.blk (hb9.block bc HX8.out.lt)
    have HLO : Hid (∀ g, (newC b0 b1).A bt g → w8.heap.size ≤ g) := hlo
    have hb9z := hb9.size
    have HBCL : Hid (bc < w8.heap.size) := HX8.out.lt
    clear HTN hti hb9 hlo
    have HNS : Hid (w8.heap.size ≤ w9.heap.size) := hb9z
    obtain ⟨t0, ht0⟩ : ∃ y, newT (newS d0 i0 h0 d1) (newS d1 i1 h1 d0) = y := ⟨_, rfl⟩
    have HT0 : Hid (newT (newS d0 i0 h0 d1) (newS d1 i1 h1 d0) = t0) := ht0
    rw [ht0] at HTI
    obtain ⟨c9, hc9⟩ : ∃ y, newC b0 b1 = y := ⟨_, rfl⟩
    have HH9 : Hid (∀ i, c9.h i = []) := by rw [← hc9]; exact fun _ => rfl
    rw [hc9] at HTI HLO
    have HN : Hid (w8.heap.size ≤ w9.heap.size ∧ w.heap.size ≤ w8.heap.size) := ⟨HNS.out, HBE8.out.size⟩
    clear ht0 hc9 HX9 HX8 HBE6 HBE5 HCG HR0 HR1 HBCL HBC HBE8 HNS
    have lz : nl ≤ 30 := by omega
    have hv1 : vw (startT t0 0 0) = ⟨opS d0 i0 h0 d1, newS d1 i1 h1 d0, [], encB (opn (newS d0 i0 h0 d1)), 0, 0, [], [], [], [], 0⟩ := by rw [← HT0.out]; exact vw_start0 HHS.out
    have HV1 : Hid (_ = _) := hv1
    have HST := start0_out w8.heap.size bt t0 c9 w9 HTI.out HN.out.1 (by rw [← HT0.out]; exact Nat.zero_le _) (by rw [← HT0.out]; exact Nat.zero_le _) (by rw [← HT0.out]; show (0 : Int) ≤ 0 ∧ (0 : Int) ≤ _; decide)
    have c0 : w9.cell? ⟨bt, 0, none⟩ = some (.pointer (some ⟨c9.b 0, 0, none⟩)) := HTI.out.box.cell 0
    clear hv1
    go_wp2_with fail
    refine HST.mono ?_
    rintro e w10 ⟨vb, ve, rfl, hmid⟩
    have HOUT := hmid.2.2
    clear HST hmid c0
    go_wp2_with fail
    refine HOUT.mono ?_
    rintro e w11 ⟨rfl, c2, ht2, hk2, hb2⟩
    obtain ⟨t1, ht1⟩ : ∃ y, startT t0 0 0 = y := ⟨_, rfl⟩
    have HT1 : Hid (startT t0 0 0 = t1) := ht1
    rw [ht1] at ht2 HV1
    have HT2 : Hid (TI w8.heap.size w11 bt t1 c2) := ht2
    have HK2 : Hid (Kl w9 w11 bt c9 c2) := hk2
    have HB2 : Hid (c2.b = c9.b ∧ c2.h = c9.h) := hb2
    have HN11 : Hid (w8.heap.size ≤ w11.heap.size) := Nat.le_trans HN.out.1 hk2.str.size
    clear HOUT ht1 ht2 hk2 hb2
    have HST := start1_out w8.heap.size bt t1 c2 w11 HT2.out HN11.out (by rw [(vw_parts HV1.out).2.1.1]; exact Nat.zero_le _) (by rw [(vw_parts HV1.out).2.2.2.1.2]; exact Nat.zero_le _) (by rw [(vw_parts HV1.out).2.2.1.2]; show (0 : Int) ≤ 0 ∧ (0 : Int) ≤ _; decide)
    have c0 : w11.cell? ⟨bt, 1, none⟩ = some (.pointer (some ⟨c2.b 1, 0, none⟩)) := HT2.out.box.cell 1
    go_wp2_with fail
    refine HST.mono ?_
    rintro e w12 ⟨vb, ve, rfl, hmid⟩
    have HOUT := hmid.2.2
    clear HST hmid c0
    go_wp2_with fail
    refine HOUT.mono ?_
    rintro e w13 ⟨rfl, c4, ht4, hk4, hb4⟩
    obtain ⟨t2, ht2⟩ : ∃ y, startT t1 1 0 = y := ⟨_, rfl⟩
    have hv2 : vw t2 = v1 d0 i0 h0 d1 i1 h1 := by rw [← ht2, ← HT1.out, ← HT0.out]; exact vw_start HHS.out
    rw [ht2] at ht4
    have HT4 : Hid (TI w8.heap.size w13 bt t2 c4) := ht4
    have HK4 : Hid (Kl w9 w13 bt c9 c4) := HK2.out.trans hk4
    have HB4 : Hid (c4.h = c9.h) := hb4.2.trans HB2.out.2
    clear HOUT ht2 ht4 hk4 hb4 HT2 HK2 HB2 HN11 HV1 HT1
    obtain ⟨bd1, bd2, hv20⟩ := opens_bd HHS.out hv2
    have HSE := settle_any w8.heap.size bt t2 c4 w13 HT4.out (Nat.le_trans HN.out.1 HK4.out.str.size) bd1 bd2 true (rest_true (vw_y hv20).1 (vw_y hv20).2)
    have HV20 : Hid (vw (bothN 20 t2) = vX d0 i0 h0 d1 i1 h1 [] [] [] [] [] [] [] []) := hv20
    clear hv2 bd1 bd2 hv20
    go_wp2_with fail
    refine HSE.mono ?_
    rintro e w14 ⟨rfl, c5, hsi⟩
    obtain ⟨t3, ht3⟩ : ∃ y, bothN 20 t2 = y := ⟨_, rfl⟩
    rw [ht3] at hsi HV20
    clear ht3
    have HLS0 : Hid (LS w w8.heap.size w9 bt c9 d0 i0 h0 d1 i1 h1 0 w14 t3 c5) := ⟨hsi.ti, HK4.out.trans hsi.k, ⟨[], HV20.out, (fun m hm => by cases hm), Nat.le_refl _⟩, fun i _ p hp => by rw [hsi.h, HB4.out, HH9.out i] at hp; cases hp⟩
    clear hsi HSE HT4 HK4 HB4 HV20 HTI HT0 HH9
    go_wp2_with fail
    go_loopw [60] (fun kv wr => ∃ (j : Nat) (t : Tl) (c : Cp), j ≤ nl ∧ kv = .int .i64 (j : Int) ∧ LS w w8.heap.size w9 bt c9 d0 i0 h0 d1 i1 h1 j wr t c) (fun k _ => nl - (intOf k).toNat)
    case atStart => exact ⟨0, t3, c5, Nat.zero_le _, rfl, HLS0.out⟩
    case round =>
      obtain ⟨j, tq, cq, hj, rfl, hlt⟩ := hrel
      have HL : Hid (LS w w8.heap.size w9 bt c9 d0 i0 h0 d1 i1 h1 j wr tq cq) := hlt
      clear hlt HLS0
      obtain ⟨wq, hwq⟩ : ∃ y, wr = y := ⟨_, rfl⟩
      rw [hwq] at HL ⊢
      clear hwq
      have HBW : Hid (Below w.heap.size w wq) := HBE9.out.trans ((HL.out.kl.below HN.out.1 HLO.out).mono HN.out.2)
      by_cases hjl : j < nl
      case pos =>
        have hjli : (j : Int) < (nl : Int) := by omega
        have hj0 : (0 : Int) ≤ (j : Int) := by omega
        have HJL : Hid (j < L.length) := by rw [HLN.out]; exact hjl
        obtain ⟨lb, lo, rfl, -, hcl⟩ := lst17 (HLS.out.bel HBW.out) j HJL.out
        obtain ⟨x, hx⟩ : ∃ y, L[j]'HJL.out = y := ⟨_, rfl⟩
        have hxm : x ∈ L := hx ▸ List.getElem_mem HJL.out
        rw [hx] at hcl
        obtain ⟨m, xs⟩ := x
        have hxo := HLK.out _ hxm
        dsimp only at hxo hcl
        have HXO : Hid (MOk w m xs ∧ (m.lost.length ≤ 1048576 ∧ m.hv.length ≤ 1048576 ∧ m.rt.path.length ≤ 1048576 ∧ m.rt.marks.length ≤ 1048576 ∧ m.rt.clus.length ≤ 1048576)) := hxo
        have HCL : Hid (∀ i, i < PmK.k → wq.cell? ⟨lb, lo + j * 17 + i, none⟩ = (msL m xs)[i]?) := hcl
        clear hcl hx hxm HJL hxo
        go_wp2_with (first | (refine list_sat PmK rfl _ rfl (b := lb) (k := lo + j * 17) (cs := msL m xs) rfl HCL.out rfl ?_) | (refine list_pmnew rfl rfl ?_))
        intro bx w2 hbx hx2 hb2
        go_wp2_with (refine list_sstore PmK rfl _ _ rfl (b := bx) (cs := msL ms0 sZ) (cs' := msL m xs) rfl rfl hx2.out rfl rfl rfl ?_)
        intro w3 hx3 hk3
        have HXB : Hid (SB PmK bx (msL m xs) w3) := hx3.out
        have HB3 : Hid (Below wq.heap.size wq w3) := hb2.out.trans (hk3.out.below (by have := hbx.out; omega))
        have HL3 : Hid (LS w w8.heap.size w9 bt c9 d0 i0 h0 d1 i1 h1 j w3 tq cq) := HL.out.bel HB3.out
        have HBX : Hid (∀ g, cq.A bt g → g < bx) := fun g hg => by have := HL.out.ti.lt g hg; have := hbx.out; omega
        have HBW3 : Hid (Below w.heap.size w w3) := HBW.out.trans (HB3.out.mono HBW.out.size)
        have HBXN : Hid (w9.heap.size ≤ bx) := by show _ ≤ _; have := hbx.out; have := HL.out.kl.str.size; omega
        clear hx2 hb2 hx3 hk3 hbx HCL HL HBW HB3
        obtain ⟨sm, hsm⟩ : ∃ t, decide (m.lost.length + m.hv.length + m.rt.path.length + m.rt.marks.length + m.rt.clus.length ≤ 20000) = t := ⟨_, rfl⟩
        have HSM : Hid (decide (m.lost.length + m.hv.length + m.rt.path.length + m.rt.marks.length + m.rt.clus.length ≤ 20000) = sm) := hsm
        clear hsm
        go_wp2_with (refine list_sload PmK rfl _ rfl (b := bx) (cs := msL m xs) rfl HXB.out rfl ?_)
        refine (small_any m xs HXO.out.2 sm HSM.out w3).mono ?_
        rintro e w4 ⟨rfl, hb4⟩
        have HXB4 : Hid (SB PmK bx (msL m xs) w4) := HXB.out.blk (hb4.block bx HXB.out.lt)
        have HL4 : Hid (LS w w8.heap.size w9 bt c9 d0 i0 h0 d1 i1 h1 j w4 tq cq) := HL3.out.bel hb4
        have HBW4 : Hid (Below w.heap.size w w4) := HBW3.out.trans (hb4.mono HBW3.out.size)
        clear hb4 HXB HL3 HBW3
        cases sm with
        | false =>
          go_wp2_with fail
          exact ⟨⟨j + 1, tq, cq, by omega, by simp, HL4.out.next⟩, by simp [intOf]; omega⟩
        | true =>
          have hsum := of_decide_eq_true HSM.out
          obtain ⟨b, er, hP, hu8, hbl, hno, hyes⟩ := HL4.out.tell0 HHS.out (m := m) ⟨HXO.out.1.il, HXO.out.1.ih, ⟨HXO.out.1.r.n0, HXO.out.1.r.n1⟩⟩
          have HPT : Hid (tmP (tq.s 0) m tq.clk = ((tq.s 0, ⟨b, []⟩), er)) := hP
          have HEV : Hid ((∀ d ∈ b, d < 256) ∧ b.length ≤ 1024) := ⟨hu8, hbl⟩
          have HNO : Hid (er ≠ 0 → _) := hno
          have HYES : Hid (er = 0 → _) := hyes
          have HCK : Hid (tq.clk = 0) := (HL4.out.bd (by omega)).2
          clear hP hu8 hbl hno hyes
          go_wp2_with fail
          refine wp_region_held_drew (S := fun W => TC bt cq 0 W ∧ SB PmK bx (msL m xs) W) (by kernel_rfl) ⟨by have h := (HL4.out.ti.bel (drew_bel w4)).tc; rw [HCK.out] at h; exact h, HXB4.out.blk ((drew_bel w4).block bx HXB4.out.lt)⟩ (fun hHeld => ?_)
          have HTX : Hid (TI w8.heap.size w4.drew bt tq cq) := HL4.out.ti.bel (drew_bel w4)
          have HKX : Hid (Kl w9 w4.drew bt c9 cq) := HL4.out.kl.trans (Kl.bel (drew_bel w4))
          have HBWX : Hid (Below w.heap.size w w4.drew) := HBW4.out.trans ((drew_bel w4).mono HBW4.out.size)
          obtain ⟨X0, hX0⟩ : ∃ x, w4.drew = x := ⟨_, rfl⟩
          rw [hX0] at HTX HKX HBWX hHeld ⊢
          clear hX0
          have HBXX : Hid (bx < X0.heap.size) := hHeld.2.lt
          have HN0 : Hid (w8.heap.size ≤ X0.heap.size) := Nat.le_trans HN.out.1 HKX.out.str.size
          have HTELL : Hid (∀ W, Below X0.heap.size X0 W → Calls Try.prog 15 #[.pointer (some ⟨cq.b 0, 0, none⟩), msV m xs, .int .i64 0] W fun e w' => ∃ vb ve c1, e = .returned (.tuple #[.agg #[vb, ve], .int .i64 er]) ∧ Mid w8.heap.size w' bt (sesP tq 0 (tq.s 0)) c1 ⟨b, []⟩ vb ve ∧ Kl W w' bt cq c1 ∧ (c1.b = cq.b ∧ c1.h = cq.h) ∧ (∀ g, fpV vb ve [] g → W.heap.size ≤ g)) := fun W hW => by
            have h := tell_mid (N := w8.heap.size) (w0 := w) (HTX.out.bel hW) (i := 0) (by omega) (Nat.le_trans HN0.out hW.size) (by rw [HCK.out]; decide) (m := m) (sl := xs) ⟨by omega, by omega⟩ HXO.out.1 (Nat.le_trans HBWX.out.size hW.size) (fun g hg => (hW.block g (Nat.lt_of_lt_of_le hg HBWX.out.size)).trans (HBWX.out.block g hg)) (HL4.out.lo HN.out.1 HN.out.2 HLO.out) HPT.out
            rw [HCK.out] at h
            exact h
          refine wpAnyH_take (i := 0) (v := .pointer (some ⟨bt, 0, none⟩)) rfl (by kernel_rfl) (by kernel_rfl) (by kernel_rfl) (fun _ _ _ h => h) (Or.inl ⟨by rfl, ?_⟩) (by assumption) ?_
          case refine_1 => intro W hSw; go_simp; try rfl
          try simp only [Act.put, List.getElem_toArray, List.getElem_cons_zero, List.getElem_cons_succ, List.setIfInBounds_toArray, List.set_cons_zero, List.set_cons_succ]
          refine wpAnyH_take (i := 1) (v := .pointer (some ⟨bt, 0, none⟩)) rfl (by kernel_rfl) (by kernel_rfl) (by kernel_rfl) (fun _ _ _ h => h) (Or.inl ⟨by rfl, ?_⟩) (by assumption) ?_
          case refine_1 => intro W hSw; go_simp; try rfl
          try simp only [Act.put, List.getElem_toArray, List.getElem_cons_zero, List.getElem_cons_succ, List.setIfInBounds_toArray, List.set_cons_zero, List.set_cons_succ]
          refine wpAnyH_take (i := 2) (v := .pointer (some ⟨bt, 0, none⟩)) rfl (by kernel_rfl) (by kernel_rfl) (by kernel_rfl) (fun _ _ _ h => h) (Or.inl ⟨by rfl, ?_⟩) (by assumption) ?_
          case refine_1 => intro W hSw; go_simp; try rfl
          try simp only [Act.put, List.getElem_toArray, List.getElem_cons_zero, List.getElem_cons_succ, List.setIfInBounds_toArray, List.set_cons_zero, List.set_cons_succ]
          refine wpAnyH_take (i := 3) (v := .pointer (some ⟨bt, 0, none⟩)) rfl (by kernel_rfl) (by kernel_rfl) (by kernel_rfl) (fun _ _ _ h => h) (Or.inl ⟨by rfl, ?_⟩) (by assumption) ?_
          case refine_1 => intro W hSw; go_simp; try rfl
          try simp only [Act.put, List.getElem_toArray, List.getElem_cons_zero, List.getElem_cons_succ, List.setIfInBounds_toArray, List.set_cons_zero, List.set_cons_succ]
          refine wpAnyH_take (i := 4) (v := .pointer (some ⟨cq.b 0, 0, none⟩)) rfl (by kernel_rfl) (by kernel_rfl) (by kernel_rfl) (fun _ _ _ h => h) (Or.inl ⟨by rfl, ?_⟩) (by assumption) ?_
          case refine_1 => intro W hSw; have cc : W.cell? ⟨bt, 0, none⟩ = some (.pointer (some ⟨cq.b 0, 0, none⟩)) := hSw.1.1; go_simp; try rfl
          try simp only [Act.put, List.getElem_toArray, List.getElem_cons_zero, List.getElem_cons_succ, List.setIfInBounds_toArray, List.set_cons_zero, List.set_cons_succ]
          refine wpAnyH_take (i := 5) (v := .agg (msL m xs).toArray) rfl (by kernel_rfl) (by kernel_rfl) (by kernel_rfl) (fun _ _ _ h => h) (Or.inl ⟨by rfl, fun W hSw => Go.Proofs.Ytanboekdfdafmaa.Ge.sload_run PmK (.tmp 16) rfl (b := bx) rfl hSw.2 rfl⟩) (by assumption) ?_
          try simp only [Act.put, List.getElem_toArray, List.getElem_cons_zero, List.getElem_cons_succ, List.setIfInBounds_toArray, List.set_cons_zero, List.set_cons_succ]
          refine wpAnyH_ready (rs := [6, 10]) (by kernel_rfl) (by simp) ?_
          refine AllReadyH.cons rfl (fun K hK => ?_) (AllReadyH.cons rfl (fun K hK => ?_) AllReadyH.nil)
          case' refine_1 =>
            go_simp
            refine (HTELL.out X0 (Below.refl _ _)).mono ?_
            rintro e X1 ⟨vb, ve, c1, rfl, hmd, hkl, hbh, hfp⟩
            have HXB5 : Hid (SB PmK bx (msL m xs) X1) := SB.blk hHeld.2 (hkl.blk bx hHeld.2.lt (fun e => by have := HBX.out bx e; omega))
            refine hK.out _ _ ⟨by have h : TC bt cq tq.clk X1 := hmd.ti.tc.b hbh.1; rw [HCK.out] at h; exact h, HXB5.out⟩ (fun hHeld => ?_)
            clear hK K HXB5
            try simp only [Act.put, List.getElem_toArray, List.getElem_cons_zero, List.getElem_cons_succ, List.setIfInBounds_toArray, List.set_cons_zero, List.set_cons_succ]
            refine wpAnyH_take (i := 7) (v := ?_) rfl (by kernel_rfl) (by kernel_rfl) (by kernel_rfl) (fun _ _ _ h => h) (Or.inl ⟨by rfl, ?_⟩) (by assumption) ?_
            case refine_2 => intro W hSw; go_simp; try rfl
            try simp only [Act.put, List.getElem_toArray, List.getElem_cons_zero, List.getElem_cons_succ, List.setIfInBounds_toArray, List.set_cons_zero, List.set_cons_succ]
            refine wpAnyH_take (i := 8) (v := .agg #[vb, ve]) rfl (by kernel_rfl) (by kernel_rfl) (by kernel_rfl) (fun _ _ _ h => h) (Or.inl ⟨by rfl, ?_⟩) (by assumption) ?_
            case refine_1 => intro W hSw; go_simp; try rfl
            try simp only [Act.put, List.getElem_toArray, List.getElem_cons_zero, List.getElem_cons_succ, List.setIfInBounds_toArray, List.set_cons_zero, List.set_cons_succ]
            refine wpAnyH_take (i := 9) (v := .int .i64 er) rfl (by kernel_rfl) (by kernel_rfl) (by kernel_rfl) (fun _ _ _ h => h) (Or.inl ⟨by rfl, ?_⟩) (by assumption) ?_
            case refine_1 => intro W hSw; go_simp; try rfl
            try simp only [Act.put, List.getElem_toArray, List.getElem_cons_zero, List.getElem_cons_succ, List.setIfInBounds_toArray, List.set_cons_zero, List.set_cons_succ]
            have HBTL : Hid (bt < X1.heap.size) := hmd.ti.box.lt
            refine wpAnyH_ready (rs := [10]) (by kernel_rfl) (by simp) ?_
            refine AllReadyH.cons rfl (fun K hK => ?_) AllReadyH.nil
            refine oalloc_step rfl rfl (fun X2 bo hbo hbl hbe => ?_)
            refine hK.out _ _ ⟨TC.keep hHeld.1 (hbl.out.block bt HBTL.out), SB.blk hHeld.2 (hbl.out.block bx hHeld.2.lt)⟩ (fun hHeld => ?_)
            clear hK K
            try simp only [Act.put, List.getElem_toArray, List.getElem_cons_zero, List.getElem_cons_succ, List.setIfInBounds_toArray, List.set_cons_zero, List.set_cons_succ]
            have HM : Hid (Mid w8.heap.size X2 bt (sesP tq 0 (tq.s 0)) c1 ⟨b, []⟩ vb ve) := hmd.bel hbl.out
            have HKY : Hid (Kl X0 X2 bt cq c1) := hkl.trans (Kl.bel hbl.out)
            have HBO : Hid (SB OutK bo [.slice none 0 0, .slice none 0 0] X2) := hbo.out
            have HBOF : Hid (X0.heap.size ≤ bo ∧ ¬ c1.A bt bo ∧ ¬ fpV vb ve [] bo) := by
              have e := hbe.out
              refine ⟨by have := hkl.str.size; omega, fun h => ?_, fun h => ?_⟩
              · have := hmd.ti.lt bo h; omega
              · have := hmd.ov.lt bo h; omega
            clear hmd hkl hfp hbo hbl hbe HBTL
          case' refine_2 =>
            have HBTL : Hid (bt < X0.heap.size) := HTX.out.box.lt
            refine oalloc_step rfl rfl (fun X1 bo hbo hbl hbe => ?_)
            refine hK.out _ _ ⟨TC.keep hHeld.1 (hbl.out.block bt HBTL.out), SB.blk hHeld.2 (hbl.out.block bx hHeld.2.lt)⟩ (fun hHeld => ?_)
            clear hK K
            try simp only [Act.put, List.getElem_toArray, List.getElem_cons_zero, List.getElem_cons_succ, List.setIfInBounds_toArray, List.set_cons_zero, List.set_cons_succ]
            refine wpAnyH_ready (rs := [6]) (by kernel_rfl) (by simp) ?_
            refine AllReadyH.cons rfl (fun K hK => ?_) AllReadyH.nil
            go_simp
            refine (HTELL.out X1 hbl.out).mono ?_
            rintro e X2 ⟨vb, ve, c1, rfl, hmd, hkl, hbh, hfp⟩
            have HXB5 : Hid (SB PmK bx (msL m xs) X2) := SB.blk hHeld.2 (hkl.blk bx hHeld.2.lt (fun e => by have := HBX.out bx e; omega))
            refine hK.out _ _ ⟨by have h : TC bt cq tq.clk X2 := hmd.ti.tc.b hbh.1; rw [HCK.out] at h; exact h, HXB5.out⟩ (fun hHeld => ?_)
            clear hK K HXB5
            try simp only [Act.put, List.getElem_toArray, List.getElem_cons_zero, List.getElem_cons_succ, List.setIfInBounds_toArray, List.set_cons_zero, List.set_cons_succ]
            refine wpAnyH_take (i := 7) (v := ?_) rfl (by kernel_rfl) (by kernel_rfl) (by kernel_rfl) (fun _ _ _ h => h) (Or.inl ⟨by rfl, ?_⟩) (by assumption) ?_
            case refine_2 => intro W hSw; go_simp; try rfl
            try simp only [Act.put, List.getElem_toArray, List.getElem_cons_zero, List.getElem_cons_succ, List.setIfInBounds_toArray, List.set_cons_zero, List.set_cons_succ]
            refine wpAnyH_take (i := 8) (v := .agg #[vb, ve]) rfl (by kernel_rfl) (by kernel_rfl) (by kernel_rfl) (fun _ _ _ h => h) (Or.inl ⟨by rfl, ?_⟩) (by assumption) ?_
            case refine_1 => intro W hSw; go_simp; try rfl
            try simp only [Act.put, List.getElem_toArray, List.getElem_cons_zero, List.getElem_cons_succ, List.setIfInBounds_toArray, List.set_cons_zero, List.set_cons_succ]
            refine wpAnyH_take (i := 9) (v := .int .i64 er) rfl (by kernel_rfl) (by kernel_rfl) (by kernel_rfl) (fun _ _ _ h => h) (Or.inl ⟨by rfl, ?_⟩) (by assumption) ?_
            case refine_1 => intro W hSw; go_simp; try rfl
            try simp only [Act.put, List.getElem_toArray, List.getElem_cons_zero, List.getElem_cons_succ, List.setIfInBounds_toArray, List.set_cons_zero, List.set_cons_succ]
            have HM : Hid (Mid w8.heap.size X2 bt (sesP tq 0 (tq.s 0)) c1 ⟨b, []⟩ vb ve) := hmd
            have HKY : Hid (Kl X0 X2 bt cq c1) := (Kl.bel hbl.out).trans hkl
            have HBOX : Hid (bo < X1.heap.size ∧ bo = X0.heap.size) := ⟨hbo.out.lt, hbe.out⟩
            have HBO : Hid (SB OutK bo [.slice none 0 0, .slice none 0 0] X2) := hbo.out.blk (hkl.blk bo HBOX.out.1 (fun h => by have := HTX.out.lt bo h; have := HBOX.out; omega))
            have HBOF : Hid (X0.heap.size ≤ bo ∧ ¬ c1.A bt bo ∧ ¬ fpV vb ve [] bo) := by
              have e := HBOX.out
              refine ⟨by omega, fun h => ?_, fun h => ?_⟩
              · rcases hkl.now bo h with h2 | h2
                · have := HTX.out.lt bo h2; omega
                · omega
              · have := hfp bo h; omega
            clear hmd hkl hfp hbo hbl hbe HBTL HBOX
          all_goals
            have HONE : Hid ([vb, ve].all (·.oneCell') = true) := by
              obtain ⟨z1, z2, e1, -⟩ := HM.out.ov.bys.form
              obtain ⟨z3, z4, e2, -⟩ := HM.out.ov.ev.own.form
              rw [e1, e2]
              rfl
            have HBXO : Hid (bx ≠ bo) := fun e => by have := HBOF.out.1; have := HBXX.out; omega
            have HBTO : Hid (bt ≠ bo) := fun e => HBOF.out.2.1 ⟨0, by omega, e.symm⟩
            refine wpAnyH_ready (rs := [11]) (by kernel_rfl) (by simp) ?_
            refine AllReadyH.cons rfl (fun K hK => ?_) AllReadyH.nil
            refine sstore_step OutK (.tmp 17) (.tmp 75) rfl (b := bo) (cs := [.slice none 0 0, .slice none 0 0]) (cs' := [vb, ve]) rfl rfl HBO.out rfl rfl HONE.out rfl (fun X3 hx3 hk3 => ?_)
            refine hK.out _ _ ⟨TC.keep hHeld.1 (hk3.out.block bt HBTO.out), SB.blk hHeld.2 (hk3.out.block bx HBXO.out)⟩ (fun hHeld => ?_)
            clear hK K
            try simp only [Act.put, List.getElem_toArray, List.getElem_cons_zero, List.getElem_cons_succ, List.setIfInBounds_toArray, List.set_cons_zero, List.set_cons_succ]
            refine wpAnyH_take (i := 12) (v := .int .i64 er) rfl (by kernel_rfl) (by kernel_rfl) (by kernel_rfl) (fun _ _ _ h => h) (Or.inl ⟨by rfl, ?_⟩) (by assumption) ?_
            case refine_1 => intro W hSw; go_simp; try rfl
            try simp only [Act.put, List.getElem_toArray, List.getElem_cons_zero, List.getElem_cons_succ, List.setIfInBounds_toArray, List.set_cons_zero, List.set_cons_succ]
            refine wpAnyH_done (by kernel_rfl) ?_ _
            have HM3 : Hid (Mid w8.heap.size X3 bt (sesP tq 0 (tq.s 0)) c1 ⟨b, []⟩ vb ve) := HM.out.ko hk3.out HBOF.out.2.1 HBOF.out.2.2
            have HK3 : Hid (Kl w9 X3 bt c9 c1) := (HKX.out.trans HKY.out).ko hk3.out (Nat.le_trans HKX.out.str.size HBOF.out.1)
            have HXB3 : Hid (SB PmK bx (msL m xs) X3) := hHeld.2
            have HBO3 : Hid (SB OutK bo [vb, ve] X3) := hx3.out
            have HB1 : Hid (c1.h = cq.h) := hbh.2
            have HC1 : Hid (¬ c1.A bt bx) := fun h => by
              rcases HKY.out.now bx h with h2 | h2
              · have := HBX.out bx h2; omega
              · have := HBXX.out; omega
            have HBO1 : Hid (w9.heap.size ≤ bo ∧ ¬ c1.A bt bo) := ⟨Nat.le_trans HKX.out.str.size HBOF.out.1, HBOF.out.2.1⟩
            have HN3 : Hid (w8.heap.size ≤ X3.heap.size) := Nat.le_trans HN.out.1 HK3.out.str.size
            clear hHeld hbh hx3 hk3 HM HKY HBO HBOF HTELL HTX HKX HBWX HBXX HN0 HONE HBXO HBTO
            obtain ⟨w5, hw5⟩ : ∃ y, X3 = y := ⟨_, rfl⟩
            rw [hw5] at HM3 HK3 HXB3 HBO3 HN3 ⊢
            clear hw5
            have hbd := (HL4.out.bd (by omega)).1
            have HLB : Hid ((tq.y 1).length + b.length ≤ 1000000000 ∧ (tq.o 0).length ≤ 1000000000 ∧ (0 ≤ tq.u 0 ∧ tq.u 0 ≤ 1000000000)) := ⟨by have := hbd.y 1 (by omega); have := HEV.out.2; omega, hbd.o 0 (by omega), hbd.u 0 (by omega)⟩
            clear hbd
            by_cases her : er = 0
            case neg =>
              have herb : (er == 0) = false := by simpa using her
              have HOUT := mid0_out HM3.out HN3.out HEV.out.1 (by show (tq.y 1).length + b.length ≤ _; exact HLB.out.1) (by show (tq.o 0).length ≤ _; exact HLB.out.2.1) (by show 0 ≤ tq.u 0 ∧ tq.u 0 ≤ _; exact HLB.out.2.2)
              go_wp2_with (refine list_sload OutK rfl _ rfl (b := bo) (cs := [vb, ve]) rfl HBO3.out rfl ?_)
              refine HOUT.mono ?_
              rintro e w6 ⟨rfl, c2, ht6, hk6, hb6⟩
              have HL5 := HNO.out her w6 c2 ht6 (HK3.out.trans hk6) (hb6.2.trans HB1.out)
              clear ht6 hk6 hb6 HOUT
              go_wp2_with fail
              exact ⟨⟨j + 1, _, c2, by omega, by simp, HL5⟩, by simp [intOf]; omega⟩
            case pos =>
              have herb : (er == 0) = true := by simpa using her
              obtain ⟨T, hT⟩ : ∃ y, sesP tq 0 (tq.s 0) = y := ⟨_, rfl⟩
              have HY2 : Hid ((T.g 0).length ≤ j ∧ ∀ wr' c', TI w8.heap.size wr' bt (outP (givT T 0 m) 0 ⟨b, []⟩) c' → Kl w9 wr' bt c9 c' → (∀ i, i < 2 → ∀ p ∈ c'.h i, MOk w p.1 p.2) → LS w w8.heap.size w9 bt c9 d0 i0 h0 d1 i1 h1 (j + 1) wr' (outP (givT T 0 m) 0 ⟨b, []⟩) c') := by rw [← hT]; exact HYES.out her
              have HTP : Hid ((T.y 1).length = (tq.y 1).length ∧ (T.o 0).length = (tq.o 0).length ∧ T.u 0 = tq.u 0) := by rw [← hT]; exact ⟨rfl, rfl, rfl⟩
              rw [hT] at HM3
              have HGL : Hid ((T.g 0).length ≤ j) := HY2.out.1
              have HT6 : Hid (TI w8.heap.size w5 bt T c1) := HM3.out.ti
              have HK6 : Hid (Kl w9 w5 bt c9 c1) := HK3.out
              have HXB6 : Hid (SB PmK bx (msL m xs) w5) := HXB3.out
              have HC2 : Hid (¬ c1.A bt bx) := HC1.out
              clear hT HNO HYES
              go_wp2_with fail
              refine wp_region_held_drew (S := fun W => SB PmK bx (msL m xs) W) (by kernel_rfl) (SB.blk HXB6.out ((drew_bel w5).block bx HXB6.out.lt)) (fun hHeld => ?_)
              have HTX : Hid (TI w8.heap.size w5.drew bt T c1) := HT6.out.bel (drew_bel w5)
              have HKX : Hid (Kl w9 w5.drew bt c9 c1) := HK6.out.trans (Kl.bel (drew_bel w5))
              have HKQ : Hid (Kl w5 w5.drew bt c1 c1) := Kl.bel (drew_bel w5)
              obtain ⟨X0, hX0⟩ : ∃ x, w5.drew = x := ⟨_, rfl⟩
              rw [hX0] at HTX HKX HKQ hHeld ⊢
              clear hX0
              have HN0 : Hid (w8.heap.size ≤ X0.heap.size) := Nat.le_trans HN.out.1 HKX.out.str.size
              refine wpAnyH_take (i := 0) (v := .pointer (some ⟨bt, 0, none⟩)) rfl (by kernel_rfl) (by kernel_rfl) (by kernel_rfl) (fun _ _ _ h => h) (Or.inl ⟨by rfl, ?_⟩) (by assumption) ?_
              case refine_1 => intro W hSw; go_simp; try rfl
              try simp only [Act.put, List.getElem_toArray, List.getElem_cons_zero, List.getElem_cons_succ, List.setIfInBounds_toArray, List.set_cons_zero, List.set_cons_succ]
              refine wpAnyH_take (i := 1) (v := .pointer (some ⟨bt, 0, none⟩)) rfl (by kernel_rfl) (by kernel_rfl) (by kernel_rfl) (fun _ _ _ h => h) (Or.inl ⟨by rfl, ?_⟩) (by assumption) ?_
              case refine_1 => intro W hSw; go_simp; try rfl
              try simp only [Act.put, List.getElem_toArray, List.getElem_cons_zero, List.getElem_cons_succ, List.setIfInBounds_toArray, List.set_cons_zero, List.set_cons_succ]
              refine wpAnyH_take (i := 2) (v := .pointer (some ⟨bt, 0, none⟩)) rfl (by kernel_rfl) (by kernel_rfl) (by kernel_rfl) (fun _ _ _ h => h) (Or.inl ⟨by rfl, ?_⟩) (by assumption) ?_
              case refine_1 => intro W hSw; go_simp; try rfl
              try simp only [Act.put, List.getElem_toArray, List.getElem_cons_zero, List.getElem_cons_succ, List.setIfInBounds_toArray, List.set_cons_zero, List.set_cons_succ]
              refine wpAnyH_take (i := 3) (v := .pointer (some ⟨bt, 4, none⟩)) rfl (by kernel_rfl) (by kernel_rfl) (by kernel_rfl) (fun _ _ _ h => h) (Or.inl ⟨by rfl, ?_⟩) (by assumption) ?_
              case refine_1 => intro W hSw; go_simp; try rfl
              try simp only [Act.put, List.getElem_toArray, List.getElem_cons_zero, List.getElem_cons_succ, List.setIfInBounds_toArray, List.set_cons_zero, List.set_cons_succ]
              refine wpAnyH_take (i := 4) (v := .pointer (some ⟨bt, 4, none⟩)) rfl (by kernel_rfl) (by kernel_rfl) (by kernel_rfl) (fun _ _ _ h => h) (Or.inl ⟨by rfl, ?_⟩) (by assumption) ?_
              case refine_1 => intro W hSw; go_simp; try rfl
              try simp only [Act.put, List.getElem_toArray, List.getElem_cons_zero, List.getElem_cons_succ, List.setIfInBounds_toArray, List.set_cons_zero, List.set_cons_succ]
              refine wpAnyH_take (i := 6) (v := .agg (msL m xs).toArray) rfl (by kernel_rfl) (by kernel_rfl) (by kernel_rfl) (fun _ _ _ h => h) (Or.inl ⟨by rfl, fun W hSw => Go.Proofs.Ytanboekdfdafmaa.Ge.sload_run PmK (.tmp 16) rfl (b := bx) rfl hSw rfl⟩) (by assumption) ?_
              try simp only [Act.put, List.getElem_toArray, List.getElem_cons_zero, List.getElem_cons_succ, List.setIfInBounds_toArray, List.set_cons_zero, List.set_cons_succ]
              refine wpAnyH_take (i := 9) (v := .pointer (some ⟨bt, 0, none⟩)) rfl (by kernel_rfl) (by kernel_rfl) (by kernel_rfl) (fun _ _ _ h => h) (Or.inl ⟨by rfl, ?_⟩) (by assumption) ?_
              case refine_1 => intro W hSw; go_simp; try rfl
              try simp only [Act.put, List.getElem_toArray, List.getElem_cons_zero, List.getElem_cons_succ, List.setIfInBounds_toArray, List.set_cons_zero, List.set_cons_succ]
              refine wpAnyH_take (i := 10) (v := .pointer (some ⟨bt, 4, none⟩)) rfl (by kernel_rfl) (by kernel_rfl) (by kernel_rfl) (fun _ _ _ h => h) (Or.inl ⟨by rfl, ?_⟩) (by assumption) ?_
              case refine_1 => intro W hSw; go_simp; try rfl
              try simp only [Act.put, List.getElem_toArray, List.getElem_cons_zero, List.getElem_cons_succ, List.setIfInBounds_toArray, List.set_cons_zero, List.set_cons_succ]
              obtain ⟨va9, vc9, hv9, -⟩ := (HTX.out.g 0 (by omega)).1.form
              obtain ⟨n9, hn9⟩ : ∃ y, (c1.h 0).length = y := ⟨_, rfl⟩
              have HN9 : Hid ((c1.h 0).length = n9) := hn9
              rw [hn9] at hv9
              have HV9 : Hid (c1.g 0 = .slice va9 n9 vc9) := hv9
              have c1v : X0.cell? ⟨bt, 4, none⟩ = some (.slice va9 n9 vc9) := by rw [← hv9]; exact HTX.out.box.cell 4
              clear hn9 hv9
              have HB6 : Hid (Below X0.heap.size X0 (X0.alloc (Obj.cells (msL m xs).toArray 54))) := (Below.refl _ X0).alloc (Nat.le_refl _) _
              have HN6 : Hid ((X0.alloc (Obj.cells (msL m xs).toArray 54)).heap[X0.heap.size]? = some (Obj.cells (msL m xs).toArray 54)) := World.alloc_heap_new X0 _
              have c2v : (X0.alloc (Obj.cells (msL m xs).toArray 54)).cell? ⟨bt, 4, none⟩ = some (.slice va9 n9 vc9) := (World.cell?_of_block (w := X0) (HB6.out.block bt HTX.out.box.lt)).trans c1v
              refine wpAnyH_ready (rs := [5, 7]) (by kernel_rfl) (by simp) ?_
              refine AllReadyH.cons rfl (fun K hK => ?_) (AllReadyH.cons rfl (fun K hK => ?_) AllReadyH.nil)
              case' refine_1 =>
                go_simp
                refine hK.out _ _ hHeld (fun hHeld => ?_)
                clear hK K c1v c2v
                try simp only [Act.put, List.getElem_toArray, List.getElem_cons_zero, List.getElem_cons_succ, List.setIfInBounds_toArray, List.set_cons_zero, List.set_cons_succ]
                refine wpAnyH_ready (rs := [7]) (by kernel_rfl) (by simp) ?_
                refine AllReadyH.cons rfl (fun K hK => ?_) AllReadyH.nil
                refine step_run rfl (mbuild_run (.tmp 85) rfl (m := m) (s := xs) rfl) ?_
                refine hK.out _ _ (SB.blk hHeld (HB6.out.block _ hHeld.lt)) (fun hHeld => ?_)
                obtain ⟨X1, hX1⟩ : ∃ y, X0.alloc (Obj.cells (msL m xs).toArray 54) = y := ⟨_, rfl⟩
                
                rw [hX1] at HB6 HN6 hHeld ⊢
                clear hX1 hK K
                try simp only [Act.put, List.getElem_toArray, List.getElem_cons_zero, List.getElem_cons_succ, List.setIfInBounds_toArray, List.set_cons_zero, List.set_cons_succ]
              case' refine_2 =>
                refine step_run rfl (mbuild_run (.tmp 85) rfl (m := m) (s := xs) rfl) ?_
                refine hK.out _ _ (SB.blk hHeld (HB6.out.block _ hHeld.lt)) (fun hHeld => ?_)
                obtain ⟨X1, hX1⟩ : ∃ y, X0.alloc (Obj.cells (msL m xs).toArray 54) = y := ⟨_, rfl⟩
                
                rw [hX1] at HB6 HN6 hHeld c2v ⊢
                clear hX1 hK K c1v
                try simp only [Act.put, List.getElem_toArray, List.getElem_cons_zero, List.getElem_cons_succ, List.setIfInBounds_toArray, List.set_cons_zero, List.set_cons_succ]
                refine wpAnyH_ready (rs := [5]) (by kernel_rfl) (by simp) ?_
                refine AllReadyH.cons rfl (fun K hK => ?_) AllReadyH.nil
                go_simp
                refine hK.out _ _ hHeld (fun hHeld => ?_)
                clear hK K c2v
                try simp only [Act.put, List.getElem_toArray, List.getElem_cons_zero, List.getElem_cons_succ, List.setIfInBounds_toArray, List.set_cons_zero, List.set_cons_succ]
              all_goals
                refine wpAnyH_ready (rs := [8]) (by kernel_rfl) (by simp) ?_
                refine AllReadyH.cons rfl (fun K hK => ?_) AllReadyH.nil
                have HO6 : Hid (Gm.OwnL E17 w8.heap.size X1 (.slice va9 n9 vc9) (c1.h 0)) := by rw [← HV9.out]; exact (HTX.out.g 0 (by omega)).1.bel HB6.out
                have HM6 : Hid (w8.heap.size ≤ X1.heap.size) := Nat.le_trans HN0.out HB6.out.size
                have HLN2 : Hid ((c1.h 0).length ≤ 137438953471) := by
                  show _ ≤ _
                  have h5 := HGL.out
                  have h6 := (HTX.out.g 0 (by omega)).2
                  rw [← h6, List.length_map] at h5
                  omega
                have HVB : Hid (∀ g, (Value.slice va9 n9 vc9).ownBlock = some g → c1.A bt g ∧ g ≠ bt) := fun g e => by
                  rw [← HV9.out] at e
                  have h5 : c1.F bt 5 g := e
                  exact ⟨⟨5, by omega, h5⟩, fun e2 => HTX.out.d 5 0 (by omega) (by omega) (by omega) g h5 e2⟩
                refine gstep_app1 E17 _ _ 39 rfl rfl w8.heap.size (.slice va9 n9 vc9) (c1.h 0) (m, xs) HLN2.out X1 rfl HO6.out X0.heap.size rfl HM6.out HN6.out rfl (fun v7 X2 ho7 hg7 ha7 => ?_)
                refine hK.out _ _ (SB.blk hHeld (hg7.out.block _ hHeld.lt (fun e2 => HC2.out (HVB.out _ e2.symm).1))) (fun hHeld => ?_)
                clear hK K
                try simp only [Act.put, List.getElem_toArray, List.getElem_cons_zero, List.getElem_cons_succ, List.setIfInBounds_toArray, List.set_cons_zero, List.set_cons_succ]
                refine wpAnyH_take (i := 11) (v := .pointer (some ⟨bt, 4, none⟩)) rfl (by kernel_rfl) (by kernel_rfl) (by kernel_rfl) (fun _ _ _ h => h) (Or.inl ⟨by rfl, ?_⟩) (by assumption) ?_
                case refine_1 => intro W hSw; go_simp; try rfl
                try simp only [Act.put, List.getElem_toArray, List.getElem_cons_zero, List.getElem_cons_succ, List.setIfInBounds_toArray, List.set_cons_zero, List.set_cons_succ]
                refine wpAnyH_ready (rs := [12]) (by kernel_rfl) (by simp) ?_
                refine AllReadyH.cons rfl (fun K hK => ?_) AllReadyH.nil
                have HBXT : Hid (SB TaK bt (taL (T) c1) X2) := (HTX.out.box.blk (HB6.out.block bt HTX.out.box.lt)).blk (hg7.out.block _ (Nat.lt_of_lt_of_le HTX.out.box.lt HB6.out.size) (fun e2 => (HVB.out _ e2.symm).2 rfl))
                have f1 : X2.frozen? ⟨bt, 4, none⟩ = false := HBXT.out.fro 4
                have c1w : X2.cell? ⟨bt, 4, none⟩ = some (c1.g 0) := HBXT.out.cell 4
                obtain ⟨va7, vc7, hv7, -⟩ := ho7.out.form
                obtain ⟨n7, hn7⟩ : ∃ y, (c1.h 0 ++ [(m, xs)]).length = y := ⟨_, rfl⟩
                rw [hn7] at hv7
                subst hv7
                have HB8 : Hid (SB TaK bt (taL (givT (T) 0 m) (givC c1 0 (.slice va7 n7 vc7) m xs)) (X2.setCell ⟨bt, 4, none⟩ (.slice va7 n7 vc7))) := HBXT.out.set 4 _ rfl
                have HK8 : Hid (Ko X2 bt (X2.setCell ⟨bt, 4, none⟩ (.slice va7 n7 vc7))) := Ko.set _ _ _ _
                have HTU := TI.giv HTX.out (by omega) HB6.out ho7.out (by rw [HV9.out]; exact hg7.out) (by rw [HV9.out]; exact ha7.out.imp id (fun e2 => ⟨_, HB6.out.size, e2⟩)) HK8.out HB8.out
                go_simp
                refine hK.out _ _ (SB.blk hHeld (HK8.out.block bx (fun e => HC2.out ⟨0, by omega, e⟩))) (fun hHeld => ?_)
                clear hK K f1 c1w
                obtain ⟨X3, hX3⟩ : ∃ y, X2.setCell ⟨bt, 4, none⟩ (.slice va7 n7 vc7) = y := ⟨_, rfl⟩
                rw [hX3] at HTU hHeld ⊢
                have HTV : Hid (TI w8.heap.size X3 bt (givT (T) 0 m) (givC c1 0 (.slice va7 n7 vc7) m xs)) := HTU.1
                have HKV : Hid (Kl w9 X3 bt c9 (givC c1 0 (.slice va7 n7 vc7) m xs)) := HKX.out.trans HTU.2
                have HKW : Hid (Kl w5 X3 bt c1 (givC c1 0 (.slice va7 n7 vc7) m xs)) := HKQ.out.trans HTU.2
                clear hX3 HTU HB8 HK8 HBXT hn7 ho7 hg7 ha7 HKX HTX HO6 HM6 HLN2 HVB HB6 HN6 HV9 HN9 HKQ
                try simp only [Act.put, List.getElem_toArray, List.getElem_cons_zero, List.getElem_cons_succ, List.setIfInBounds_toArray, List.set_cons_zero, List.set_cons_succ]
                refine wpAnyH_done (by kernel_rfl) ?_ _
                clear hHeld
                obtain ⟨cg', hcg⟩ : ∃ y, givC c1 0 (.slice va7 n7 vc7) m xs = y := ⟨_, rfl⟩
                have HG6 : Hid (∀ i, i < 2 → ∀ p ∈ cg'.h i, MOk w p.1 p.2) := by rw [← hcg]; exact giv_gv (by rw [HB1.out]; exact HL4.out.gv) HXO.out.1
                rw [hcg] at HTV HKV HKW
                clear hcg
                have HM4 : Hid (Mid w8.heap.size X3 bt (givT T 0 m) cg' ⟨b, []⟩ vb ve) := HM3.out.step HTV.out HKW.out
                have HBO4 : Hid (SB OutK bo [vb, ve] X3) := HBO3.out.blk (HKW.out.blk bo HBO3.out.lt HBO1.out.2)
                have HOUT := mid0_out HM4.out (Nat.le_trans HN.out.1 HKV.out.str.size) HEV.out.1 (by show (T.y 1).length + b.length ≤ _; rw [HTP.out.1]; exact HLB.out.1) (by show (T.o 0).length ≤ _; rw [HTP.out.2.1]; exact HLB.out.2.1) (by show 0 ≤ T.u 0 ∧ T.u 0 ≤ _; rw [HTP.out.2.2]; exact HLB.out.2.2)
                go_wp2_with (refine list_sload OutK rfl _ rfl (b := bo) (cs := [vb, ve]) rfl HBO4.out rfl ?_)
                refine HOUT.mono ?_
                rintro e w6 ⟨rfl, c2, ht6, hk6, hb6⟩
                have HL5 := HY2.out.2 w6 c2 ht6 (HKV.out.trans hk6) (by rw [hb6.2]; exact HG6.out)
                clear ht6 hk6 hb6 HOUT
                go_wp2_with fail
                exact ⟨⟨j + 1, _, c2, by omega, by simp, HL5⟩, by simp [intOf]; omega⟩
      case neg =>
        have hjli : ¬ (j : Int) < (nl : Int) := by omega
        obtain ⟨g, hv, hg, hgl⟩ := HL.out.v
        have HV : Hid (vw tq = vX d0 i0 h0 d1 i1 h1 [] [] [] (SentB g) [] [] g []) := hv
        have HG : Hid (∀ m ∈ g, encE m = 0 ∧ InM m ∧ m.kind = 2) := hg
        have HY : Hid (tq.y 1 = SentB g) := (vw_parts hv).2.1.2
        obtain ⟨n, hn⟩ : ∃ y, (SentB g).length = y := ⟨_, rfl⟩
        have HNN : Hid ((SentB g).length = n) := hn
        have hn30 : n ≤ 30720 := by have := sent_len g (fun m hm => ⟨(hg m hm).1, (hg m hm).2.1⟩); omega
        obtain ⟨wa, wc, hwv, hcap, hnil, -⟩ := (HL.out.ti.y 1 (by omega)).1.form
        rw [HY.out, hn] at hwv hcap hnil
        have HWV : Hid (cq.w 1 = .slice wa n wc) := hwv
        have dw : wq.cell? ⟨bt, 3, none⟩ = some (.slice wa n wc) := by rw [← hwv]; exact HL.out.ti.box.cell 3
        have hn0 : (0 : Int) ≤ (n : Int) := by omega
        clear hv hg hwv hn
        by_cases hz : n = 0
        case pos =>
          have hnb : ((n : Int) == 0) = true := by simp [hz]
          go_wp2_with fail
          go_ret
          exact ⟨rfl, HBW.out⟩
        case neg =>
          have hnb : ((n : Int) == 0) = false := by simpa using hz
          obtain ⟨gb, rfl⟩ : ∃ y, wa = some ⟨y, 0, none⟩ := by
            have h5 := (HL.out.ti.y 1 (by omega)).1
            rw [HWV.out] at h5
            rcases h5.row.2 with ⟨h1, -⟩ | ⟨y, c, cur, h1, -⟩
            · injection h1 with h1 h2 _; omega
            · injection h1 with h1 _ _; exact ⟨y, h1⟩
          obtain ⟨k, hk⟩ : ∃ y, md at_ n = y := ⟨_, rfl⟩
          have HMK : Hid (∀ W, Calls Try.prog 8 #[.int .i64 at_, .int .i64 (n : Int)] W fun e w' => e = .returned (.int .i64 (k : Int)) ∧ w' = W) := fun W => mod_any at_ HAT.out n (by omega) (by omega) k hk W
          have hkn : k < n := by rw [← hk]; exact md_lt (by omega)
          clear hk hnil
          go_wp2_with fail
          refine (HMK.out wq).mono ?_
          rintro e w' ⟨rfl, hw'⟩
          rw [hw']
          clear hw' w' HMK hnb
          go_wp2_with fail
          clear dw
          have HT0 : Hid (TI w8.heap.size wq bt tq cq) := HL.out.ti
          have HK0 : Hid (Kl w9 wq bt c9 cq) := HL.out.kl
          have HGV : Hid (∀ i, i < 2 → ∀ p ∈ cq.h i, MOk w p.1 p.2) := HL.out.gv
          clear HL
          go_loopw [20] (fun kv wr => ∃ i : Nat, i ≤ g.length ∧ kv = .int .i64 (en g i : Int) ∧ TI w8.heap.size wr bt tq cq ∧ Kl w9 wr bt c9 cq ∧ Ip g k i) (fun k _ => n - (intOf k).toNat)
          case atStart => exact ⟨0, Nat.zero_le _, rfl, HT0.out, HK0.out, .inl rfl⟩
          case round =>
            obtain ⟨i, hi, rfl, hti, hkl, hip⟩ := hrel
            have HT : Hid (TI w8.heap.size wr bt tq cq) := hti
            have HK : Hid (Kl w9 wr bt c9 cq) := hkl
            have HIP : Hid (Ip g k i) := hip
            clear hti hkl hip HT0 HK0 HBW
            obtain ⟨wz, hwz⟩ : ∃ y, wr = y := ⟨_, rfl⟩
            rw [hwz] at HT HK ⊢
            clear hwz
            obtain ⟨fr, hfr⟩ : ∃ y, en g i = y := ⟨_, rfl⟩
            have HFR : Hid (en g i = fr) := hfr
            rw [hfr]
            have dw : wz.cell? ⟨bt, 3, none⟩ = some (.slice (some ⟨gb, 0, none⟩) n wc) := by rw [← HWV.out]; exact HT.out.box.cell 3
            have HBZ : Hid (Below w.heap.size w wz) := HBE9.out.trans ((HK.out.below HN.out.1 HLO.out).mono HN.out.2)
            have hfn : fr ≤ n := by
              rw [← hfr, ← HNN.out]
              unfold en
              have := congrArg List.length (show SentB g = SentB (g.take i) ++ SentB (g.drop i) by rw [← sent_app, List.take_append_drop])
              rw [List.length_append] at this
              omega
            obtain ⟨f4, hf4⟩ : ∃ y, fr + 4 = y := ⟨_, rfl⟩
            obtain ⟨f5, hf5⟩ : ∃ y, fr + 5 = y := ⟨_, rfl⟩
            obtain ⟨f6, hf6⟩ : ∃ y, fr + 6 = y := ⟨_, rfl⟩
            have hw4 : IntKind.i64.wrap ((fr : Int) + 4) = (f4 : Int) := by rw [IntWalk.i64_in _ (by omega)]; omega
            have hw5 : IntKind.i64.wrap ((fr : Int) + 5) = (f5 : Int) := by rw [IntWalk.i64_in _ (by omega)]; omega
            have hw6 : IntKind.i64.wrap ((fr : Int) + 6) = (f6 : Int) := by rw [IntWalk.i64_in _ (by omega)]; omega
            clear hfr
            by_cases hkf : k < fr
            case neg =>
              have hig : i < g.length := by
                rcases Nat.lt_or_ge i g.length with c | c
                · exact c
                · exfalso
                  obtain rfl : i = g.length := by omega
                  have : fr = n := by rw [← HFR.out, en_all, HNN.out]
                  omega
              obtain ⟨a, b, ha, hb, ha8, hb8, hab, l9, lm, hle⟩ := sent_size HG.out hig
              have hes := en_succ hig
              rw [HFR.out] at hes ha hb
              rw [hes, HNN.out] at hle
              obtain ⟨ml, hml⟩ : ∃ y, (encB g[i]).length = y := ⟨_, rfl⟩
              rw [hml] at hab l9 lm hle hes
              have HES : Hid (en g (i + 1) = fr + ml) := hes
              clear hml hes
              have h6i : (f6 : Int) ≤ (n : Int) := by omega
              have hkfi : (fr : Int) ≤ (k : Int) := by omega
              by_cases e4 : k = f4
              case pos =>
                have b4 : ((k : Int) == (f4 : Int)) = true := by simp [e4]
                go_wp2_with fail
                go_ret
                exact ⟨rfl, HBZ.out⟩
              case neg =>
                have b4 : ((k : Int) == (f4 : Int)) = false := by simp; omega
                by_cases e5 : k = f5
                case pos =>
                  have b5 : ((k : Int) == (f5 : Int)) = true := by simp [e5]
                  go_wp2_with fail
                  go_ret
                  exact ⟨rfl, HBZ.out⟩
                case neg =>
                  have b5 : ((k : Int) == (f5 : Int)) = false := by simp; omega
                  have HAT0 := (show OwnL E8 w8.heap.size wz (.slice (some ⟨gb, 0, none⟩) n wc) (SentB g) by rw [← HWV.out, ← HY.out]; exact (HT.out.y 1 (by omega)).1)
                  have c4 : wz.cell? ⟨gb, f4, none⟩ = some (.int .u8 (a : Int)) := own_byte HAT0 (by rw [← hf4]; exact ha)
                  have c5 : wz.cell? ⟨gb, f5, none⟩ = some (.int .u8 (b : Int)) := own_byte HAT0 (by rw [← hf5]; exact hb)
                  clear HAT0
                  go_wp2_with fail
                  go_region
                  go_wp2_with fail
                  refine ⟨⟨i + 1, by omega, ?_, HT.out.bel (drew_bel wz), HK.out.trans (Kl.bel (drew_bel wz)), .inr ?_⟩, by simp [intOf]; omega⟩
                  · rw [HES.out]
                    have e : (fr : Int) + ((a : Int) * 256 + (b : Int)) = ((fr + ml : Nat) : Int) := by push_cast; omega
                    rw [e]
                  · show en g i ≤ k ∧ k ≠ en g i + 4 ∧ k ≠ en g i + 5
                    rw [HFR.out]
                    omega
            case pos =>
              have hkfi : ¬ (fr : Int) ≤ (k : Int) := by omega
              by_cases h6 : f6 ≤ n
              case' pos =>
                have h6i : (f6 : Int) ≤ (n : Int) := by omega
                go_wp2_with fail
              case' neg =>
                have h6i : ¬ (f6 : Int) ≤ (n : Int) := by omega
                go_wp2_with fail
              all_goals
                obtain ⟨q, hq, hs1, hs2, hs3, hs4⟩ : ∃ q, q < g.length ∧ en g q ≤ k ∧ k < en g (q + 1) ∧ k ≠ en g q + 4 ∧ k ≠ en g q + 5 := by
                  rcases HIP.out with e | e
                  · subst e
                    have : fr = 0 := HFR.out.symm
                    omega
                  · have hi0 : i ≠ 0 := fun e2 => by subst e2; have : fr = 0 := HFR.out.symm; omega
                    refine ⟨i - 1, by omega, e.1, ?_, e.2.1, e.2.2⟩
                    rw [show i - 1 + 1 = i by omega, HFR.out]
                    exact hkf
                obtain ⟨jb, hj⟩ : ∃ j, md by_ 255 = j := ⟨_, rfl⟩
                have hj5 : jb < 255 := by rw [← hj]; exact md_lt (by omega)
                have HJ : Hid (md by_ 255 = jb) := hj
                have HAT0 := (show OwnL E8 w8.heap.size wz (.slice (some ⟨gb, 0, none⟩) n wc) (SentB g) by rw [← HWV.out, ← HY.out]; exact (HT.out.y 1 (by omega)).1)
                obtain ⟨x, hx⟩ : ∃ x, (SentB g)[k]? = some x := ⟨_, List.getElem?_eq_getElem (by rw [HNN.out]; exact hkn)⟩
                have c0 : wz.cell? ⟨gb, k, none⟩ = some (.int .u8 (x : Int)) := own_byte HAT0 hx
                have f0 := HAT0.at0.2.1 k
                have hx8 : x < 256 := sent_u8 g x (List.mem_of_getElem? hx)
                obtain ⟨y, hy⟩ : ∃ y, x ^^^ (1 + jb) = y := ⟨_, rfl⟩
                obtain ⟨hxo, hy8⟩ := bits_xor8 x (1 + jb) hx8 (by omega)
                rw [hy] at hxo hy8
                have hne : (SentB g)[k]? ≠ some y := by
                  rw [hx, ← hy]
                  intro e
                  have e := (Option.some.inj e).symm
                  have e2 : (1 + jb) ^^^ x = 0 ^^^ x := by rw [Nat.xor_comm (1 + jb) x, e, Nat.zero_xor]
                  have := xor_inj e2
                  omega
                obtain ⟨f, hf, hpar⟩ := spoil_all HG.out hq hs1 hs2 hs3 hs4 hy8 hne
                have HPAR : Hid (f ≠ 0 ∧ parse ((SentB g).set k y) = (g.take q, [], f)) := ⟨hf, hpar⟩
                have wj : IntKind.i64.wrap (1 + (jb : Int)) = ((1 + jb : Nat) : Int) := by rw [IntWalk.i64_in _ (by omega)]; omega
                have wu : IntKind.u8.wrap ((1 + jb : Nat) : Int) = ((1 + jb : Nat) : Int) := by rw [IntKind.wrap_u8]; omega
                have hki : (k : Int) < (n : Int) := by omega
                have hk0 : (0 : Int) ≤ (k : Int) := by omega
                clear hj HAT0 hx hy hne hf hpar hs1 hs2 hs3 hs4
                go_still_tail 14, (by kernel_rfl)
                still_call (mod_any by_ HBY.out 255 (by decide) (by decide) jb HJ.out _)
                repeat still_step
                refine wpStill_nil ?_
                go_wp2_with fail
                have hxo2 : bits .xor .u8 (x : Int) (1 + (jb : Int)) = (y : Int) := by
                  rw [← hxo]
                  congr 1
                rw [hxo2]
                have HTS := TI.spoil HT.out HWV.out (k := k) (y := y) (by rw [HY.out, HNN.out]; exact hkn) hy8
                rw [HY.out] at HTS
                have HT2 : Hid (TI w8.heap.size (wz.setCell ⟨gb, k, none⟩ (.int .u8 (y : Int))).drew.drew bt (wayP tq 1 ((SentB g).set k y)) cq) := (HTS.1.bel (drew_bel _)).bel (drew_bel _)
                have HK2 : Hid (Kl w9 (wz.setCell ⟨gb, k, none⟩ (.int .u8 (y : Int))).drew.drew bt c9 cq) := ((HK.out.trans HTS.2).trans (Kl.bel (drew_bel _))).trans (Kl.bel (drew_bel _))
                clear HTS
                obtain ⟨w20, hw20⟩ : ∃ z, (wz.setCell ⟨gb, k, none⟩ (.int .u8 (y : Int))).drew = z := ⟨_, rfl⟩
                rw [hw20] at HT2 HK2 ⊢
                clear hw20 hxo hxo2 c0 f0 wj wu dw hw4 hw5 hw6
                have HV2 : Hid (vw (wayP tq 1 ((SentB g).set k y)) = vX d0 i0 h0 d1 i1 h1 [] [] [] ((SentB g).set k y) [] [] g []) := by
                  have e : vw (wayP tq 1 ((SentB g).set k y)) = { vw tq with y1 := (SentB g).set k y } := rfl
                  show _ = _
                  rw [e, HV.out]
                  rfl
                obtain ⟨B, hB⟩ : ∃ z, (SentB g).set k y = z := ⟨_, rfl⟩
                have HBL : Hid (B.length = n) := by show _ = _; rw [← hB, List.length_set]; exact HNN.out
                rw [hB] at HT2 HV2 HPAR
                clear hB
                obtain ⟨t20, ht20⟩ : ∃ z, wayP tq 1 B = z := ⟨_, rfl⟩
                have HY2 : Hid (t20.y 1 = B) := by rw [← ht20]; rfl
                rw [ht20] at HT2 HV2
                clear ht20
                refine wp_region_held_drew (S := fun _ => True) (by kernel_rfl) trivial (fun hHeld => ?_)
                obtain ⟨X0, hX0⟩ : ∃ z, w20.drew = z := ⟨_, rfl⟩
                rw [hX0] at HT2 HK2 ⊢
                clear hX0
                have hp2 := vw_parts HV2.out
                have HCM := comes1_any w8.heap.size bt t20 cq n X0 HT2.out (Nat.le_trans HN.out.1 HK2.out.str.size) (by rw [hp2.2.2.2.2.2]; show _ ≤ (0 : Int) ∧ (0 : Int) < _; decide) (by rw [HY2.out, HBL.out]; omega) (by rw [hp2.2.1.1]; exact Nat.zero_le _) (by rw [hp2.2.2.2.1.2]; exact Nat.zero_le _) (by rw [hp2.2.2.1.2]; show (0 : Int) ≤ 1 ∧ (1 : Int) ≤ _; decide) (comesP t20 1 (min n (t20.y 1).length)) rfl
                have HO2 : Hid ((comesP t20 1 (min n (t20.y 1).length)).o 1 = g.take q ∧ (comesP t20 1 (min n (t20.y 1).length)).g 0 = g) := by
                  have h5 := com1_spoilt HHS.out HG.out (b := B) (i := q) (fun e => by have h6 := HBL.out; rw [e] at h6; simp at h6; omega) HPAR.out.2 HPAR.out.1 (k := min n (t20.y 1).length) (by rw [HY2.out, HBL.out]; omega)
                  have h6 := vw_com1 t20 (min n (t20.y 1).length)
                  rw [HV2.out] at h6
                  have h7 := vw_parts h6
                  exact ⟨h7.2.2.2.1.2.trans h5.1, h7.2.2.2.2.1.1.trans h5.2⟩
                have dw3 : X0.cell? ⟨bt, 3, none⟩ = some (.slice (some ⟨gb, 0, none⟩) n wc) := by rw [← HWV.out]; exact HT2.out.box.cell 3
                clear hp2
                refine wpAnyH_take (i := 0) (v := .pointer (some ⟨bt, 0, none⟩)) rfl (by kernel_rfl) (by kernel_rfl) (by kernel_rfl) (fun _ _ _ h => h) (Or.inl ⟨by rfl, ?_⟩) (by assumption) ?_
                case refine_1 => intro W hSw; go_simp; try rfl
                try simp only [Act.put, List.getElem_toArray, List.getElem_cons_zero, List.getElem_cons_succ, List.setIfInBounds_toArray, List.set_cons_zero, List.set_cons_succ]
                refine wpAnyH_take (i := 1) (v := .pointer (some ⟨bt, 0, none⟩)) rfl (by kernel_rfl) (by kernel_rfl) (by kernel_rfl) (fun _ _ _ h => h) (Or.inl ⟨by rfl, ?_⟩) (by assumption) ?_
                case refine_1 => intro W hSw; go_simp; try rfl
                try simp only [Act.put, List.getElem_toArray, List.getElem_cons_zero, List.getElem_cons_succ, List.setIfInBounds_toArray, List.set_cons_zero, List.set_cons_succ]
                refine wpAnyH_take (i := 2) (v := .pointer (some ⟨bt, 0, none⟩)) rfl (by kernel_rfl) (by kernel_rfl) (by kernel_rfl) (fun _ _ _ h => h) (Or.inl ⟨by rfl, ?_⟩) (by assumption) ?_
                case refine_1 => intro W hSw; go_simp; try rfl
                try simp only [Act.put, List.getElem_toArray, List.getElem_cons_zero, List.getElem_cons_succ, List.setIfInBounds_toArray, List.set_cons_zero, List.set_cons_succ]
                refine wpAnyH_take (i := 3) (v := .pointer (some ⟨bt, 2, none⟩)) rfl (by kernel_rfl) (by kernel_rfl) (by kernel_rfl) (fun _ _ _ h => h) (Or.inl ⟨by rfl, ?_⟩) (by assumption) ?_
                case refine_1 => intro W hSw; go_simp; try rfl
                try simp only [Act.put, List.getElem_toArray, List.getElem_cons_zero, List.getElem_cons_succ, List.setIfInBounds_toArray, List.set_cons_zero, List.set_cons_succ]
                refine wpAnyH_take (i := 4) (v := .pointer (some ⟨bt, 3, none⟩)) rfl (by kernel_rfl) (by kernel_rfl) (by kernel_rfl) (fun _ _ _ h => h) (Or.inl ⟨by rfl, ?_⟩) (by assumption) ?_
                case refine_1 => intro W hSw; go_simp; try rfl
                try simp only [Act.put, List.getElem_toArray, List.getElem_cons_zero, List.getElem_cons_succ, List.setIfInBounds_toArray, List.set_cons_zero, List.set_cons_succ]
                refine wpAnyH_ready (rs := [5]) (by kernel_rfl) (by simp) ?_
                refine AllReadyH.cons rfl (fun K hK => ?_) AllReadyH.nil
                go_simp
                refine hK.out _ _ trivial (fun hHeld => ?_)
                clear hK K dw3
                try simp only [Act.put, List.getElem_toArray, List.getElem_cons_zero, List.getElem_cons_succ, List.setIfInBounds_toArray, List.set_cons_zero, List.set_cons_succ]
                refine wpAnyH_take (i := 6) (v := .int .i64 (n : Int)) rfl (by kernel_rfl) (by kernel_rfl) (by kernel_rfl) (fun _ _ _ h => h) (Or.inl ⟨by rfl, ?_⟩) (by assumption) ?_
                case refine_1 => intro W hSw; go_simp; try rfl
                try simp only [Act.put, List.getElem_toArray, List.getElem_cons_zero, List.getElem_cons_succ, List.setIfInBounds_toArray, List.set_cons_zero, List.set_cons_succ]
                refine wpAnyH_ready (rs := [7]) (by kernel_rfl) (by simp) ?_
                refine AllReadyH.cons rfl (fun K hK => ?_) AllReadyH.nil
                go_simp
                refine HCM.mono ?_
                rintro e X1 ⟨rfl, c2, ht2, hb2, hk2⟩
                refine hK.out _ _ trivial (fun hHeld => ?_)
                clear hK K HCM
                try simp only [Act.put, List.getElem_toArray, List.getElem_cons_zero, List.getElem_cons_succ, List.setIfInBounds_toArray, List.set_cons_zero, List.set_cons_succ]
                obtain ⟨t21, ht21⟩ : ∃ z, comesP t20 1 (min n (t20.y 1).length) = z := ⟨_, rfl⟩
                rw [ht21] at ht2 HO2
                clear ht21
                have HT3 : Hid (TI w8.heap.size X1 bt t21 c2) := ht2
                have HK3 : Hid (Kl w9 X1 bt c9 c2) := HK2.out.trans hk2
                have HG3 : Hid (∀ i, i < 2 → ∀ p ∈ c2.h i, MOk w p.1 p.2) := by rw [hb2.2]; exact HGV.out
                clear ht2 hk2 hb2 HT2 HK2
                have M1 : (c2.l 1).map (fun p => p.1) = g.take q := (HT3.out.o 1 (by omega)).2.trans HO2.out.1
                have G0 : (c2.h 0).map (fun p => p.1) = g := (HT3.out.g 0 (by omega)).2.trans HO2.out.2
                have N1 : (c2.l 1).length = q := by rw [← List.length_map (f := fun p => p.1), M1, List.length_take]; omega
                obtain ⟨gn, hgn⟩ : ∃ z, g.length = z := ⟨_, rfl⟩
                have P0 : (c2.h 0).length = gn := by rw [← List.length_map (f := fun p => p.1), G0]; exact hgn
                obtain ⟨a1, k1, e1, -⟩ := (HT3.out.o 1 (by omega)).1.own.form
                obtain ⟨b0', m0, g0', hcg, hng, -⟩ := (HT3.out.g 0 (by omega)).1.form
                rw [N1] at e1
                rw [P0] at g0' hcg hng
                rw [hgn] at hq
                have HEE : Hid (c2.v 1 = .slice a1 q k1 ∧ c2.g 0 = .slice b0' gn m0) := ⟨e1, g0'⟩
                have d7 : X1.cell? ⟨bt, 7, none⟩ = some (.slice a1 q k1) := by rw [← e1]; exact HT3.out.box.cell 7
                have d4 : X1.cell? ⟨bt, 4, none⟩ = some (.slice b0' gn m0) := by rw [← g0']; exact HT3.out.box.cell 4
                have HMM : Hid ((c2.l 1).map (fun p => p.1) = g.take q ∧ (c2.h 0).map (fun p => p.1) = g ∧ (c2.l 1).length = q ∧ (c2.h 0).length = gn) := ⟨M1, G0, N1, P0⟩
                have HCC : Hid (gn ≤ m0 ∧ (b0' = none → gn = 0 ∧ m0 = 0)) := ⟨hcg, hng⟩
                have hlt : ¬ (gn : Int) < (q : Int) := by omega
                have hlt2 : (q : Int) < (gn : Int) := by omega
                clear M1 G0 N1 P0 e1 g0' hcg hng hgn
                refine wpAnyH_take (i := 8) (v := .bool false) rfl (by kernel_rfl) (by kernel_rfl) (by kernel_rfl) (fun _ _ _ h => h) (Or.inl ⟨by rfl, ?_⟩) (by assumption) ?_
                case refine_1 => intro W hSw; go_simp; try rfl
                try simp only [Act.put, List.getElem_toArray, List.getElem_cons_zero, List.getElem_cons_succ, List.setIfInBounds_toArray, List.set_cons_zero, List.set_cons_succ]
                refine wpAnyH_take (i := 9) (v := .bool false) rfl (by kernel_rfl) (by kernel_rfl) (by kernel_rfl) (fun _ _ _ h => h) (Or.inl ⟨by rfl, ?_⟩) (by assumption) ?_
                case refine_1 => intro W hSw; go_simp; try rfl
                try simp only [Act.put, List.getElem_toArray, List.getElem_cons_zero, List.getElem_cons_succ, List.setIfInBounds_toArray, List.set_cons_zero, List.set_cons_succ]
                refine wpAnyH_take (i := 10) (v := .pointer (some ⟨bt, 0, none⟩)) rfl (by kernel_rfl) (by kernel_rfl) (by kernel_rfl) (fun _ _ _ h => h) (Or.inl ⟨by rfl, ?_⟩) (by assumption) ?_
                case refine_1 => intro W hSw; go_simp; try rfl
                try simp only [Act.put, List.getElem_toArray, List.getElem_cons_zero, List.getElem_cons_succ, List.setIfInBounds_toArray, List.set_cons_zero, List.set_cons_succ]
                refine wpAnyH_take (i := 11) (v := .pointer (some ⟨bt, 0, none⟩)) rfl (by kernel_rfl) (by kernel_rfl) (by kernel_rfl) (fun _ _ _ h => h) (Or.inl ⟨by rfl, ?_⟩) (by assumption) ?_
                case refine_1 => intro W hSw; go_simp; try rfl
                try simp only [Act.put, List.getElem_toArray, List.getElem_cons_zero, List.getElem_cons_succ, List.setIfInBounds_toArray, List.set_cons_zero, List.set_cons_succ]
                refine wpAnyH_take (i := 12) (v := .pointer (some ⟨bt, 6, none⟩)) rfl (by kernel_rfl) (by kernel_rfl) (by kernel_rfl) (fun _ _ _ h => h) (Or.inl ⟨by rfl, ?_⟩) (by assumption) ?_
                case refine_1 => intro W hSw; go_simp; try rfl
                try simp only [Act.put, List.getElem_toArray, List.getElem_cons_zero, List.getElem_cons_succ, List.setIfInBounds_toArray, List.set_cons_zero, List.set_cons_succ]
                refine wpAnyH_take (i := 13) (v := .pointer (some ⟨bt, 7, none⟩)) rfl (by kernel_rfl) (by kernel_rfl) (by kernel_rfl) (fun _ _ _ h => h) (Or.inl ⟨by rfl, ?_⟩) (by assumption) ?_
                case refine_1 => intro W hSw; go_simp; try rfl
                try simp only [Act.put, List.getElem_toArray, List.getElem_cons_zero, List.getElem_cons_succ, List.setIfInBounds_toArray, List.set_cons_zero, List.set_cons_succ]
                refine wpAnyH_take (i := 16) (v := .pointer (some ⟨bt, 0, none⟩)) rfl (by kernel_rfl) (by kernel_rfl) (by kernel_rfl) (fun _ _ _ h => h) (Or.inl ⟨by rfl, ?_⟩) (by assumption) ?_
                case refine_1 => intro W hSw; go_simp; try rfl
                try simp only [Act.put, List.getElem_toArray, List.getElem_cons_zero, List.getElem_cons_succ, List.setIfInBounds_toArray, List.set_cons_zero, List.set_cons_succ]
                refine wpAnyH_take (i := 17) (v := .pointer (some ⟨bt, 0, none⟩)) rfl (by kernel_rfl) (by kernel_rfl) (by kernel_rfl) (fun _ _ _ h => h) (Or.inl ⟨by rfl, ?_⟩) (by assumption) ?_
                case refine_1 => intro W hSw; go_simp; try rfl
                try simp only [Act.put, List.getElem_toArray, List.getElem_cons_zero, List.getElem_cons_succ, List.setIfInBounds_toArray, List.set_cons_zero, List.set_cons_succ]
                refine wpAnyH_take (i := 18) (v := .pointer (some ⟨bt, 4, none⟩)) rfl (by kernel_rfl) (by kernel_rfl) (by kernel_rfl) (fun _ _ _ h => h) (Or.inl ⟨by rfl, ?_⟩) (by assumption) ?_
                case refine_1 => intro W hSw; go_simp; try rfl
                try simp only [Act.put, List.getElem_toArray, List.getElem_cons_zero, List.getElem_cons_succ, List.setIfInBounds_toArray, List.set_cons_zero, List.set_cons_succ]
                refine wpAnyH_take (i := 19) (v := .pointer (some ⟨bt, 4, none⟩)) rfl (by kernel_rfl) (by kernel_rfl) (by kernel_rfl) (fun _ _ _ h => h) (Or.inl ⟨by rfl, ?_⟩) (by assumption) ?_
                case refine_1 => intro W hSw; go_simp; try rfl
                try simp only [Act.put, List.getElem_toArray, List.getElem_cons_zero, List.getElem_cons_succ, List.setIfInBounds_toArray, List.set_cons_zero, List.set_cons_succ]
                refine wpAnyH_ready (rs := [14, 20]) (by kernel_rfl) (by simp) ?_
                refine AllReadyH.cons rfl (fun K hK => ?_) (AllReadyH.cons rfl (fun K hK => ?_) AllReadyH.nil)
                case' refine_1 =>
                  go_simp
                  refine hK.out _ _ trivial (fun hHeld => ?_)
                  clear hK K
                  try simp only [Act.put, List.getElem_toArray, List.getElem_cons_zero, List.getElem_cons_succ, List.setIfInBounds_toArray, List.set_cons_zero, List.set_cons_succ]
                  refine wpAnyH_take (i := 15) (v := .int .i64 (q : Int)) rfl (by kernel_rfl) (by kernel_rfl) (by kernel_rfl) (fun _ _ _ h => h) (Or.inl ⟨by rfl, ?_⟩) (by assumption) ?_
                  case refine_1 => intro W hSw; go_simp; try rfl
                  try simp only [Act.put, List.getElem_toArray, List.getElem_cons_zero, List.getElem_cons_succ, List.setIfInBounds_toArray, List.set_cons_zero, List.set_cons_succ]
                  refine wpAnyH_ready (rs := [20]) (by kernel_rfl) (by simp) ?_
                  refine AllReadyH.cons rfl (fun K hK => ?_) AllReadyH.nil
                  go_simp
                  refine hK.out _ _ trivial (fun hHeld => ?_)
                  clear hK K
                  try simp only [Act.put, List.getElem_toArray, List.getElem_cons_zero, List.getElem_cons_succ, List.setIfInBounds_toArray, List.set_cons_zero, List.set_cons_succ]
                  refine wpAnyH_take (i := 21) (v := .int .i64 (gn : Int)) rfl (by kernel_rfl) (by kernel_rfl) (by kernel_rfl) (fun _ _ _ h => h) (Or.inl ⟨by rfl, ?_⟩) (by assumption) ?_
                  case refine_1 => intro W hSw; go_simp; try rfl
                  try simp only [Act.put, List.getElem_toArray, List.getElem_cons_zero, List.getElem_cons_succ, List.setIfInBounds_toArray, List.set_cons_zero, List.set_cons_succ]
                case' refine_2 =>
                  go_simp
                  refine hK.out _ _ trivial (fun hHeld => ?_)
                  clear hK K
                  try simp only [Act.put, List.getElem_toArray, List.getElem_cons_zero, List.getElem_cons_succ, List.setIfInBounds_toArray, List.set_cons_zero, List.set_cons_succ]
                  refine wpAnyH_take (i := 21) (v := .int .i64 (gn : Int)) rfl (by kernel_rfl) (by kernel_rfl) (by kernel_rfl) (fun _ _ _ h => h) (Or.inl ⟨by rfl, ?_⟩) (by assumption) ?_
                  case refine_1 => intro W hSw; go_simp; try rfl
                  try simp only [Act.put, List.getElem_toArray, List.getElem_cons_zero, List.getElem_cons_succ, List.setIfInBounds_toArray, List.set_cons_zero, List.set_cons_succ]
                  refine wpAnyH_ready (rs := [14]) (by kernel_rfl) (by simp) ?_
                  refine AllReadyH.cons rfl (fun K hK => ?_) AllReadyH.nil
                  go_simp
                  refine hK.out _ _ trivial (fun hHeld => ?_)
                  clear hK K
                  try simp only [Act.put, List.getElem_toArray, List.getElem_cons_zero, List.getElem_cons_succ, List.setIfInBounds_toArray, List.set_cons_zero, List.set_cons_succ]
                  refine wpAnyH_take (i := 15) (v := .int .i64 (q : Int)) rfl (by kernel_rfl) (by kernel_rfl) (by kernel_rfl) (fun _ _ _ h => h) (Or.inl ⟨by rfl, ?_⟩) (by assumption) ?_
                  case refine_1 => intro W hSw; go_simp; try rfl
                  try simp only [Act.put, List.getElem_toArray, List.getElem_cons_zero, List.getElem_cons_succ, List.setIfInBounds_toArray, List.set_cons_zero, List.set_cons_succ]
                all_goals
                  refine wpAnyH_take (i := 22) (v := .bool false) rfl (by kernel_rfl) (by kernel_rfl) (by kernel_rfl) (fun _ _ _ h => h) (Or.inl ⟨by rfl, ?_⟩) (by assumption) ?_
                  case refine_1 => intro W hSw; go_simp; try rfl
                  try simp only [Act.put, List.getElem_toArray, List.getElem_cons_zero, List.getElem_cons_succ, List.setIfInBounds_toArray, List.set_cons_zero, List.set_cons_succ]
                  refine wpAnyH_take (i := 23) (v := .bool false) rfl (by kernel_rfl) (by kernel_rfl) (by kernel_rfl) (fun _ _ _ h => h) (Or.inl ⟨by rfl, ?_⟩) (by assumption) ?_
                  case refine_1 => intro W hSw; go_simp; try rfl
                  try simp only [Act.put, List.getElem_toArray, List.getElem_cons_zero, List.getElem_cons_succ, List.setIfInBounds_toArray, List.set_cons_zero, List.set_cons_succ]
                  refine wpAnyH_done (by kernel_rfl) ?_ _
                  clear hHeld d7 d4
                  go_wp2_with fail
                  have HT4 : Hid (TI w8.heap.size X1.drew bt t21 c2) := HT3.out.bel (drew_bel X1)
                  have HK4 : Hid (Kl w9 X1.drew bt c9 c2) := HK3.out.trans (Kl.bel (drew_bel X1))
                  obtain ⟨X2, hX2⟩ : ∃ z, X1.drew = z := ⟨_, rfl⟩
                  rw [hX2] at HT4 HK4
                  have HBWX : Hid (Below w.heap.size w X2) := HBE9.out.trans ((HK4.out.below HN.out.1 HLO.out).mono HN.out.2)
                  have HA : Hid (∀ W, Below X2.heap.size X2 W → Calls Try.prog 16 #[.slice a1 q k1, .slice b0' q m0] W fun e w' => e = .returned (.bool true) ∧ Below W.heap.size W w') := fun W hW => by
                    have q1 := (HT4.out.o 1 (by omega)).1
                    have q2 := (HT4.out.g 0 (by omega)).1
                    rw [HEE.out.1] at q1
                    rw [HEE.out.2] at q2
                    exact all_any (c2.l 1) ((c2.h 0).take q) a1 b0' q k1 m0 W (q1.own.lst.1.bel hW) ((q2.lst.1.take q).bel hW) HMM.out.2.2.1 (by rw [List.length_take, HMM.out.2.2.2]; omega) (fun p hp => (q1.each p hp).ok.bel hW) (fun p hp => (HG3.out 0 (by omega) p (List.mem_of_mem_take hp)).bel (HBWX.out.trans (hW.mono HBWX.out.size))) (by rw [HMM.out.1, List.map_take, HMM.out.2.1])
                  have HSP : Hid (∀ ad, b0' = some ad → ∃ b f, ad = ⟨b, f, none⟩) := by
                    have q2 := (HT4.out.g 0 (by omega)).1
                    rw [HEE.out.2] at q2
                    exact own_spm q2
                  have d7 : X2.cell? ⟨bt, 7, none⟩ = some (.slice a1 q k1) := by rw [← HEE.out.1]; exact HT4.out.box.cell 7
                  have d4 : X2.cell? ⟨bt, 4, none⟩ = some (.slice b0' gn m0) := by rw [← HEE.out.2]; exact HT4.out.box.cell 4
                  have HBT : Hid (bt < X2.heap.size) := HT4.out.box.lt
                  refine wp_region_held_drew (S := fun W => Below X2.heap.size X2 W ∧ W.cell? ⟨bt, 7, none⟩ = some (.slice a1 q k1) ∧ W.cell? ⟨bt, 4, none⟩ = some (.slice b0' gn m0)) (by kernel_rfl) (by rw [hX2]; exact ⟨Below.refl _ _, d7, d4⟩) (fun hHeld => ?_)
                  rw [hX2] at hHeld ⊢
                  clear hX2 d7 d4 HT3 HK3
                  refine wpAnyH_take (i := 0) (v := .pointer (some ⟨bt, 0, none⟩)) rfl (by kernel_rfl) (by kernel_rfl) (by kernel_rfl) (fun _ _ _ h => h) (Or.inl ⟨by rfl, ?_⟩) (by assumption) ?_
                  case refine_1 => intro W hSw; go_simp; try rfl
                  try simp only [Act.put, List.getElem_toArray, List.getElem_cons_zero, List.getElem_cons_succ, List.setIfInBounds_toArray, List.set_cons_zero, List.set_cons_succ]
                  refine wpAnyH_take (i := 1) (v := .pointer (some ⟨bt, 0, none⟩)) rfl (by kernel_rfl) (by kernel_rfl) (by kernel_rfl) (fun _ _ _ h => h) (Or.inl ⟨by rfl, ?_⟩) (by assumption) ?_
                  case refine_1 => intro W hSw; go_simp; try rfl
                  try simp only [Act.put, List.getElem_toArray, List.getElem_cons_zero, List.getElem_cons_succ, List.setIfInBounds_toArray, List.set_cons_zero, List.set_cons_succ]
                  refine wpAnyH_take (i := 2) (v := .pointer (some ⟨bt, 6, none⟩)) rfl (by kernel_rfl) (by kernel_rfl) (by kernel_rfl) (fun _ _ _ h => h) (Or.inl ⟨by rfl, ?_⟩) (by assumption) ?_
                  case refine_1 => intro W hSw; go_simp; try rfl
                  try simp only [Act.put, List.getElem_toArray, List.getElem_cons_zero, List.getElem_cons_succ, List.setIfInBounds_toArray, List.set_cons_zero, List.set_cons_succ]
                  refine wpAnyH_take (i := 3) (v := .pointer (some ⟨bt, 7, none⟩)) rfl (by kernel_rfl) (by kernel_rfl) (by kernel_rfl) (fun _ _ _ h => h) (Or.inl ⟨by rfl, ?_⟩) (by assumption) ?_
                  case refine_1 => intro W hSw; go_simp; try rfl
                  try simp only [Act.put, List.getElem_toArray, List.getElem_cons_zero, List.getElem_cons_succ, List.setIfInBounds_toArray, List.set_cons_zero, List.set_cons_succ]
                  refine wpAnyH_take (i := 4) (v := .slice a1 q k1) rfl (by kernel_rfl) (by kernel_rfl) (by kernel_rfl) (fun _ _ _ h => h) (Or.inl ⟨by rfl, ?_⟩) (by assumption) ?_
                  case refine_1 => intro W hSw; have cc : W.cell? ⟨bt, 7, none⟩ = some (.slice a1 q k1) := hSw.2.1; go_simp; try rfl
                  try simp only [Act.put, List.getElem_toArray, List.getElem_cons_zero, List.getElem_cons_succ, List.setIfInBounds_toArray, List.set_cons_zero, List.set_cons_succ]
                  refine wpAnyH_take (i := 5) (v := .pointer (some ⟨bt, 0, none⟩)) rfl (by kernel_rfl) (by kernel_rfl) (by kernel_rfl) (fun _ _ _ h => h) (Or.inl ⟨by rfl, ?_⟩) (by assumption) ?_
                  case refine_1 => intro W hSw; go_simp; try rfl
                  try simp only [Act.put, List.getElem_toArray, List.getElem_cons_zero, List.getElem_cons_succ, List.setIfInBounds_toArray, List.set_cons_zero, List.set_cons_succ]
                  refine wpAnyH_take (i := 6) (v := .pointer (some ⟨bt, 0, none⟩)) rfl (by kernel_rfl) (by kernel_rfl) (by kernel_rfl) (fun _ _ _ h => h) (Or.inl ⟨by rfl, ?_⟩) (by assumption) ?_
                  case refine_1 => intro W hSw; go_simp; try rfl
                  try simp only [Act.put, List.getElem_toArray, List.getElem_cons_zero, List.getElem_cons_succ, List.setIfInBounds_toArray, List.set_cons_zero, List.set_cons_succ]
                  refine wpAnyH_take (i := 7) (v := .pointer (some ⟨bt, 4, none⟩)) rfl (by kernel_rfl) (by kernel_rfl) (by kernel_rfl) (fun _ _ _ h => h) (Or.inl ⟨by rfl, ?_⟩) (by assumption) ?_
                  case refine_1 => intro W hSw; go_simp; try rfl
                  try simp only [Act.put, List.getElem_toArray, List.getElem_cons_zero, List.getElem_cons_succ, List.setIfInBounds_toArray, List.set_cons_zero, List.set_cons_succ]
                  refine wpAnyH_take (i := 8) (v := .pointer (some ⟨bt, 4, none⟩)) rfl (by kernel_rfl) (by kernel_rfl) (by kernel_rfl) (fun _ _ _ h => h) (Or.inl ⟨by rfl, ?_⟩) (by assumption) ?_
                  case refine_1 => intro W hSw; go_simp; try rfl
                  try simp only [Act.put, List.getElem_toArray, List.getElem_cons_zero, List.getElem_cons_succ, List.setIfInBounds_toArray, List.set_cons_zero, List.set_cons_succ]
                  refine wpAnyH_take (i := 9) (v := .slice b0' gn m0) rfl (by kernel_rfl) (by kernel_rfl) (by kernel_rfl) (fun _ _ _ h => h) (Or.inl ⟨by rfl, ?_⟩) (by assumption) ?_
                  case refine_1 => intro W hSw; have cc : W.cell? ⟨bt, 4, none⟩ = some (.slice b0' gn m0) := hSw.2.2; go_simp; try rfl
                  try simp only [Act.put, List.getElem_toArray, List.getElem_cons_zero, List.getElem_cons_succ, List.setIfInBounds_toArray, List.set_cons_zero, List.set_cons_succ]
                  refine wpAnyH_take (i := 10) (v := .pointer (some ⟨bt, 0, none⟩)) rfl (by kernel_rfl) (by kernel_rfl) (by kernel_rfl) (fun _ _ _ h => h) (Or.inl ⟨by rfl, ?_⟩) (by assumption) ?_
                  case refine_1 => intro W hSw; go_simp; try rfl
                  try simp only [Act.put, List.getElem_toArray, List.getElem_cons_zero, List.getElem_cons_succ, List.setIfInBounds_toArray, List.set_cons_zero, List.set_cons_succ]
                  refine wpAnyH_take (i := 11) (v := .pointer (some ⟨bt, 0, none⟩)) rfl (by kernel_rfl) (by kernel_rfl) (by kernel_rfl) (fun _ _ _ h => h) (Or.inl ⟨by rfl, ?_⟩) (by assumption) ?_
                  case refine_1 => intro W hSw; go_simp; try rfl
                  try simp only [Act.put, List.getElem_toArray, List.getElem_cons_zero, List.getElem_cons_succ, List.setIfInBounds_toArray, List.set_cons_zero, List.set_cons_succ]
                  refine wpAnyH_take (i := 12) (v := .pointer (some ⟨bt, 6, none⟩)) rfl (by kernel_rfl) (by kernel_rfl) (by kernel_rfl) (fun _ _ _ h => h) (Or.inl ⟨by rfl, ?_⟩) (by assumption) ?_
                  case refine_1 => intro W hSw; go_simp; try rfl
                  try simp only [Act.put, List.getElem_toArray, List.getElem_cons_zero, List.getElem_cons_succ, List.setIfInBounds_toArray, List.set_cons_zero, List.set_cons_succ]
                  refine wpAnyH_take (i := 13) (v := .pointer (some ⟨bt, 7, none⟩)) rfl (by kernel_rfl) (by kernel_rfl) (by kernel_rfl) (fun _ _ _ h => h) (Or.inl ⟨by rfl, ?_⟩) (by assumption) ?_
                  case refine_1 => intro W hSw; go_simp; try rfl
                  try simp only [Act.put, List.getElem_toArray, List.getElem_cons_zero, List.getElem_cons_succ, List.setIfInBounds_toArray, List.set_cons_zero, List.set_cons_succ]
                  refine wpAnyH_take (i := 14) (v := .slice a1 q k1) rfl (by kernel_rfl) (by kernel_rfl) (by kernel_rfl) (fun _ _ _ h => h) (Or.inl ⟨by rfl, ?_⟩) (by assumption) ?_
                  case refine_1 => intro W hSw; have cc : W.cell? ⟨bt, 7, none⟩ = some (.slice a1 q k1) := hSw.2.1; go_simp; try rfl
                  try simp only [Act.put, List.getElem_toArray, List.getElem_cons_zero, List.getElem_cons_succ, List.setIfInBounds_toArray, List.set_cons_zero, List.set_cons_succ]
                  refine wpAnyH_take (i := 15) (v := .int .i64 (q : Int)) rfl (by kernel_rfl) (by kernel_rfl) (by kernel_rfl) (fun _ _ _ h => h) (Or.inl ⟨by rfl, ?_⟩) (by assumption) ?_
                  case refine_1 => intro W hSw; go_simp; try rfl
                  try simp only [Act.put, List.getElem_toArray, List.getElem_cons_zero, List.getElem_cons_succ, List.setIfInBounds_toArray, List.set_cons_zero, List.set_cons_succ]
                  refine wpAnyH_take (i := 16) (v := .slice b0' q m0) rfl (by kernel_rfl) (by kernel_rfl) (by kernel_rfl) (fun _ _ _ h => h) (Or.inl ⟨by rfl, fun W hSw => slkm_run (.tmp 209) (.tmp 215) rfl (n := gn) rfl rfl (by omega) HCC.out.1 HCC.out.2 HSP.out⟩) (by assumption) ?_
                  try simp only [Act.put, List.getElem_toArray, List.getElem_cons_zero, List.getElem_cons_succ, List.setIfInBounds_toArray, List.set_cons_zero, List.set_cons_succ]
                  refine wpAnyH_ready (rs := [17]) (by kernel_rfl) (by simp) ?_
                  refine AllReadyH.cons rfl (fun K hK => ?_) AllReadyH.nil
                  go_simp
                  refine (HA.out X2 hHeld.1).mono ?_
                  rintro e X3 ⟨rfl, hb⟩
                  have HBB : Hid (Below X2.heap.size X2 X3) := hHeld.1.trans (hb.mono hHeld.1.size)
                  have hcell : X3.heap[bt]? = X2.heap[bt]? := hb.block bt (Nat.lt_of_lt_of_le HBT.out hHeld.1.size)
                  refine hK.out _ _ ⟨HBB.out, (World.cell?_of_block hcell).trans hHeld.2.1, (World.cell?_of_block hcell).trans hHeld.2.2⟩ (fun hHeld => ?_)
                  clear hK K hb hcell HBB
                  try simp only [Act.put, List.getElem_toArray, List.getElem_cons_zero, List.getElem_cons_succ, List.setIfInBounds_toArray, List.set_cons_zero, List.set_cons_succ]
                  refine wpAnyH_take (i := 18) (v := .bool true) rfl (by kernel_rfl) (by kernel_rfl) (by kernel_rfl) (fun _ _ _ h => h) (Or.inl ⟨by rfl, ?_⟩) (by assumption) ?_
                  case refine_1 => intro W hSw; go_simp; try rfl
                  try simp only [Act.put, List.getElem_toArray, List.getElem_cons_zero, List.getElem_cons_succ, List.setIfInBounds_toArray, List.set_cons_zero, List.set_cons_succ]
                  refine wpAnyH_take (i := 19) (v := .pointer (some ⟨bt, 0, none⟩)) rfl (by kernel_rfl) (by kernel_rfl) (by kernel_rfl) (fun _ _ _ h => h) (Or.inl ⟨by rfl, ?_⟩) (by assumption) ?_
                  case refine_1 => intro W hSw; go_simp; try rfl
                  try simp only [Act.put, List.getElem_toArray, List.getElem_cons_zero, List.getElem_cons_succ, List.setIfInBounds_toArray, List.set_cons_zero, List.set_cons_succ]
                  refine wpAnyH_take (i := 20) (v := .pointer (some ⟨bt, 0, none⟩)) rfl (by kernel_rfl) (by kernel_rfl) (by kernel_rfl) (fun _ _ _ h => h) (Or.inl ⟨by rfl, ?_⟩) (by assumption) ?_
                  case refine_1 => intro W hSw; go_simp; try rfl
                  try simp only [Act.put, List.getElem_toArray, List.getElem_cons_zero, List.getElem_cons_succ, List.setIfInBounds_toArray, List.set_cons_zero, List.set_cons_succ]
                  refine wpAnyH_take (i := 21) (v := .pointer (some ⟨bt, 6, none⟩)) rfl (by kernel_rfl) (by kernel_rfl) (by kernel_rfl) (fun _ _ _ h => h) (Or.inl ⟨by rfl, ?_⟩) (by assumption) ?_
                  case refine_1 => intro W hSw; go_simp; try rfl
                  try simp only [Act.put, List.getElem_toArray, List.getElem_cons_zero, List.getElem_cons_succ, List.setIfInBounds_toArray, List.set_cons_zero, List.set_cons_succ]
                  refine wpAnyH_take (i := 22) (v := .pointer (some ⟨bt, 7, none⟩)) rfl (by kernel_rfl) (by kernel_rfl) (by kernel_rfl) (fun _ _ _ h => h) (Or.inl ⟨by rfl, ?_⟩) (by assumption) ?_
                  case refine_1 => intro W hSw; go_simp; try rfl
                  try simp only [Act.put, List.getElem_toArray, List.getElem_cons_zero, List.getElem_cons_succ, List.setIfInBounds_toArray, List.set_cons_zero, List.set_cons_succ]
                  refine wpAnyH_take (i := 23) (v := .slice a1 q k1) rfl (by kernel_rfl) (by kernel_rfl) (by kernel_rfl) (fun _ _ _ h => h) (Or.inl ⟨by rfl, ?_⟩) (by assumption) ?_
                  case refine_1 => intro W hSw; have cc : W.cell? ⟨bt, 7, none⟩ = some (.slice a1 q k1) := hSw.2.1; go_simp; try rfl
                  try simp only [Act.put, List.getElem_toArray, List.getElem_cons_zero, List.getElem_cons_succ, List.setIfInBounds_toArray, List.set_cons_zero, List.set_cons_succ]
                  refine wpAnyH_take (i := 24) (v := .int .i64 (q : Int)) rfl (by kernel_rfl) (by kernel_rfl) (by kernel_rfl) (fun _ _ _ h => h) (Or.inl ⟨by rfl, ?_⟩) (by assumption) ?_
                  case refine_1 => intro W hSw; go_simp; try rfl
                  try simp only [Act.put, List.getElem_toArray, List.getElem_cons_zero, List.getElem_cons_succ, List.setIfInBounds_toArray, List.set_cons_zero, List.set_cons_succ]
                  refine wpAnyH_take (i := 25) (v := .pointer (some ⟨bt, 0, none⟩)) rfl (by kernel_rfl) (by kernel_rfl) (by kernel_rfl) (fun _ _ _ h => h) (Or.inl ⟨by rfl, ?_⟩) (by assumption) ?_
                  case refine_1 => intro W hSw; go_simp; try rfl
                  try simp only [Act.put, List.getElem_toArray, List.getElem_cons_zero, List.getElem_cons_succ, List.setIfInBounds_toArray, List.set_cons_zero, List.set_cons_succ]
                  refine wpAnyH_take (i := 26) (v := .pointer (some ⟨bt, 0, none⟩)) rfl (by kernel_rfl) (by kernel_rfl) (by kernel_rfl) (fun _ _ _ h => h) (Or.inl ⟨by rfl, ?_⟩) (by assumption) ?_
                  case refine_1 => intro W hSw; go_simp; try rfl
                  try simp only [Act.put, List.getElem_toArray, List.getElem_cons_zero, List.getElem_cons_succ, List.setIfInBounds_toArray, List.set_cons_zero, List.set_cons_succ]
                  refine wpAnyH_take (i := 27) (v := .pointer (some ⟨bt, 4, none⟩)) rfl (by kernel_rfl) (by kernel_rfl) (by kernel_rfl) (fun _ _ _ h => h) (Or.inl ⟨by rfl, ?_⟩) (by assumption) ?_
                  case refine_1 => intro W hSw; go_simp; try rfl
                  try simp only [Act.put, List.getElem_toArray, List.getElem_cons_zero, List.getElem_cons_succ, List.setIfInBounds_toArray, List.set_cons_zero, List.set_cons_succ]
                  refine wpAnyH_take (i := 28) (v := .pointer (some ⟨bt, 4, none⟩)) rfl (by kernel_rfl) (by kernel_rfl) (by kernel_rfl) (fun _ _ _ h => h) (Or.inl ⟨by rfl, ?_⟩) (by assumption) ?_
                  case refine_1 => intro W hSw; go_simp; try rfl
                  try simp only [Act.put, List.getElem_toArray, List.getElem_cons_zero, List.getElem_cons_succ, List.setIfInBounds_toArray, List.set_cons_zero, List.set_cons_succ]
                  refine wpAnyH_take (i := 29) (v := .slice b0' gn m0) rfl (by kernel_rfl) (by kernel_rfl) (by kernel_rfl) (fun _ _ _ h => h) (Or.inl ⟨by rfl, ?_⟩) (by assumption) ?_
                  case refine_1 => intro W hSw; have cc : W.cell? ⟨bt, 4, none⟩ = some (.slice b0' gn m0) := hSw.2.2; go_simp; try rfl
                  try simp only [Act.put, List.getElem_toArray, List.getElem_cons_zero, List.getElem_cons_succ, List.setIfInBounds_toArray, List.set_cons_zero, List.set_cons_succ]
                  refine wpAnyH_take (i := 30) (v := .int .i64 (gn : Int)) rfl (by kernel_rfl) (by kernel_rfl) (by kernel_rfl) (fun _ _ _ h => h) (Or.inl ⟨by rfl, ?_⟩) (by assumption) ?_
                  case refine_1 => intro W hSw; go_simp; try rfl
                  try simp only [Act.put, List.getElem_toArray, List.getElem_cons_zero, List.getElem_cons_succ, List.setIfInBounds_toArray, List.set_cons_zero, List.set_cons_succ]
                  refine wpAnyH_take (i := 31) (v := .bool true) rfl (by kernel_rfl) (by kernel_rfl) (by kernel_rfl) (fun _ _ _ h => h) (Or.inl ⟨by rfl, ?_⟩) (by assumption) ?_
                  case refine_1 => intro W hSw; go_simp; try rfl
                  try simp only [Act.put, List.getElem_toArray, List.getElem_cons_zero, List.getElem_cons_succ, List.setIfInBounds_toArray, List.set_cons_zero, List.set_cons_succ]
                  refine wpAnyH_take (i := 32) (v := .bool true) rfl (by kernel_rfl) (by kernel_rfl) (by kernel_rfl) (fun _ _ _ h => h) (Or.inl ⟨by rfl, ?_⟩) (by assumption) ?_
                  case refine_1 => intro W hSw; go_simp; try rfl
                  try simp only [Act.put, List.getElem_toArray, List.getElem_cons_zero, List.getElem_cons_succ, List.setIfInBounds_toArray, List.set_cons_zero, List.set_cons_succ]
                  refine wpAnyH_take (i := 33) (v := .bool true) rfl (by kernel_rfl) (by kernel_rfl) (by kernel_rfl) (fun _ _ _ h => h) (Or.inl ⟨by rfl, ?_⟩) (by assumption) ?_
                  case refine_1 => intro W hSw; go_simp; try rfl
                  try simp only [Act.put, List.getElem_toArray, List.getElem_cons_zero, List.getElem_cons_succ, List.setIfInBounds_toArray, List.set_cons_zero, List.set_cons_succ]
                  refine wpAnyH_done (by kernel_rfl) ?_ _
                  have HBB : Hid (Below w.heap.size w X3) := HBWX.out.trans (hHeld.1.mono HBWX.out.size)
                  clear hHeld
                  go_wp2_with fail
                  go_ret
                  exact ⟨rfl, HBB.out⟩
end Sp
end Go.Proofs.Ytanboekdfdafmaa.Pv
