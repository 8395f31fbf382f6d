/- The queue: newQueue, add, next. -/
import Derived.Test.YthhdpfgepjmgkaaDjK
namespace Go.Proofs.Ythhdpfgepjmgkaa.Dj
open Go.ChangeShapes Go.WideShapes Go.ChangeAt Go.RowKit Go.Joins Go.Deep Go.Proofs.Ythhdpfgepjmgkaa.Ge
set_option linter.unusedVariables false
set_option linter.unusedSimpArgs false

/-- a queue in memory: which routers are due, and when; at most K turns -/
structure Qs (N qb db : Nat) (v : Value) (K : Nat) (f : Int → Option Int) (W : World) : Prop where
  ex : ∃ xs es ce, Qt N qb (.map (some db)) v xs W ∧ MB MII db es ce W ∧ Mok es ce ∧ Hp xs xs.length ∧ xs.length ≤ K ∧ (∀ n, mget es n = f n) ∧ ∀ n d, f n = some d → (⟨d, n⟩ : Tn) ∈ xs
  ne : qb ≠ db
  nd : ∀ g, v.ownBlock = some g → g ≠ db
def fpQ (qb db : Nat) (v : Value) (b : Nat) : Prop := b = qb ∨ b = db ∨ v.ownBlock = some b
theorem Qs.blk {N qb db K : Nat} {v : Value} {f : Int → Option Int} {W W' : World} (h : Qs N qb db v K f W) (hb : ∀ b, fpQ qb db v b → b < W.heap.size → W'.heap[b]? = W.heap[b]?) : Qs N qb db v K f W' := by
  obtain ⟨⟨xs, es, ce, h1, h2, h3⟩, h4, h5⟩ := h
  exact ⟨⟨xs, es, ce, h1.blk (fun b e hl => hb b (e.elim .inl (fun e => .inr (.inr e))) hl), h2.blk (hb db (.inr (.inl rfl)) h2.lt), h3⟩, h4, h5⟩
theorem Qs.bel {N qb db K : Nat} {v : Value} {f : Int → Option Int} {W W' : World} (h : Qs N qb db v K f W) (hb : Below W.heap.size W W') : Qs N qb db v K f W' := h.blk (fun b _ hl => hb.block b hl)
theorem Qs.lt {N qb db K : Nat} {v : Value} {f : Int → Option Int} {W : World} (h : Qs N qb db v K f W) (b : Nat) (hb : fpQ qb db v b) : b < W.heap.size := by
  obtain ⟨⟨xs, es, ce, h1, h2, -⟩, -, -⟩ := h
  rcases hb with rfl | rfl | e
  · exact h1.box.lt
  · exact h2.lt
  · exact (h1.own.row.lt b e).2
theorem Qs.mono {N qb db K K' : Nat} {v : Value} {f : Int → Option Int} {W : World} (h : Qs N qb db v K f W) (hk : K ≤ K') : Qs N qb db v K' f W := by
  obtain ⟨⟨xs, es, ce, h1, h2, h3, h4, h5, h6⟩, h7, h8⟩ := h
  exact ⟨⟨xs, es, ce, h1, h2, h3, h4, Nat.le_trans h5 hk, h6⟩, h7, h8⟩
/-- one more is due -/
def addP (f : Int → Option Int) (n d : Int) : Int → Option Int := fun m => if m = n then (match f n with
  | some d0 => if d0 ≤ d then some d0 else some d
  | none => some d) else f m
theorem addP_same {f : Int → Option Int} {n d d0 : Int} (h : f n = some d0) (hd : d0 ≤ d) : addP f n d = f := funext fun m => by
  unfold addP
  split
  · rename_i e
    rw [e, h]
    simp [hd]
  · rfl
theorem addP_new {f : Int → Option Int} {n d : Int} (h : ∀ d0, f n = some d0 → ¬ d0 ≤ d) : addP f n d = fun m => if m = n then some d else f m := funext fun m => by
  unfold addP
  split
  · cases hf : f n with
    | none => rfl
    | some d0 => simp [h d0 hf]
  · rfl
def AdPost (w : World) (N qb db : Nat) (v : Value) (K : Nat) (f : Int → Option Int) (e : Ending) (w' : World) : Prop := e = .returned (.tuple #[]) ∧ ∃ v', Qs N qb db v' K f w' ∧ Kf (fpQ qb db v) w w' ∧ ∀ g, v'.ownBlock = some g → v.ownBlock = some g ∨ w.heap.size ≤ g
theorem got_ii (es : Ents Int Int) (n : Int) : MII.got es n = .int .i64 ((mget es n).getD 0) := by
  unfold Mk.got
  cases mget es n <;> rfl
set_option maxRecDepth 100000 in
set_option maxHeartbeats 16000000 in
theorem add_any (N qb db : Nat) (v : Value) (K : Nat) (f : Int → Option Int) (n d : Int) (w : World) (hN : N ≤ w.heap.size) (hK : K < 1000000000) (h : Qs N qb db v K f w) : Calls Try.prog 37 #[.pointer (some ⟨qb, 0, none⟩), .int .i64 n, .int .i64 d] w (AdPost w N qb db v (K + 1) (addP f n d)) := by
  have HQ : Hid (Qs N qb db v K f w) := h
  obtain ⟨⟨xs, es, ce, hq, hm, hok, hhp, hlen, hget, hhas⟩, hne, hnd⟩ := h
  have HQT : Hid (Qt N qb (.map (some db)) v xs w) := hq
  have HM : Hid (MB MII db es ce w) := hm
  have HOK : Hid (Mok es ce) := hok
  have HHP : Hid (Hp xs xs.length) := hhp
  have HLE : Hid (xs.length ≤ K ∧ K < 1000000000 ∧ N ≤ w.heap.size) := ⟨hlen, hK, hN⟩
  have HGET : Hid (∀ n, mget es n = f n) := hget
  have HHAS : Hid (∀ n d, f n = some d → (⟨d, n⟩ : Tn) ∈ xs) := hhas
  have HNE : Hid (qb ≠ db ∧ ∀ g, v.ownBlock = some g → g ≠ db) := ⟨hne, hnd⟩
  have c1 : w.cell? ⟨qb, 1, none⟩ = some (.map (some db)) := hq.box.cell 1
  clear hq hm hok hhp hlen hget hhas hne hnd hN hK
  go_enter Try.func37, Try.ntmps37
  go_upto_region 1 with (refine list_look2 MII rfl _ _ rfl (k := n) rfl rfl HM.out ?_; rw [got_ii, HGET.out])
  have HNO : Hid ((∀ d0, f n = some d0 → ¬ d0 ≤ d) → ∀ w2, MB MII db (mput es ce n d) (mclk es ce n) w2 → Ko w db w2 → Calls Try.prog 50 #[.iface 97 (.pointer (some ⟨qb, 0, none⟩)), .iface 77 (.agg (tnL ⟨d, n⟩).toArray)] w2 fun e w' => AdPost w N qb db v (K + 1) (addP f n d) e w') := fun hno w2 hm2 hk2 => by
    have hq2 : Qt N qb (.map (some db)) v xs w2 := HQT.out.blk (fun b hb hl => hk2.block b (fun e => by
      subst e
      rcases hb with h | h
      · exact HNE.out.1 h.symm
      · exact HNE.out.2 b h rfl))
    refine (hpush_any N qb (.map (some db)) v xs ⟨d, n⟩ w2 (Nat.le_trans HLE.out.2.2 (Nat.le_of_eq hk2.size.symm)) (by have := HLE.out; omega) hq2 HHP.out).mono ?_
    rintro e w3 ⟨rfl, v3, ys, hq3, hpm, hhp3, hk3, hv3⟩
    have hdb : ¬ fpT qb v db := fun c => by
      rcases c with h | h
      · exact HNE.out.1 h.symm
      · exact HNE.out.2 db h rfl
    have hm3 : MB MII db (mput es ce n d) (mclk es ce n) w3 := hm2.blk (hk3.blk db hm2.lt hdb)
    refine ⟨rfl, v3, ⟨⟨ys, _, _, hq3, hm3, mput_ok HOK.out n d, hhp3, ?_, fun m => ?_, fun m dm hm => ?_⟩, HNE.out.1, fun g e c => ?_⟩, (Kf.of_ko hk2 (F := fpQ qb db v) (fun _ => .inr (.inl rfl))).trans hk3 (fun b _ e => e.elim .inl (fun e => .inr (.inr e))), fun g e => ?_⟩
    · rw [hpm.length_eq, List.length_append]
      have := HLE.out
      simp
      omega
    · rw [mput_get, addP_new hno, HGET.out]
    · rw [addP_new hno] at hm
      refine hpm.mem_iff.2 (List.mem_append.2 ?_)
      dsimp only at hm
      by_cases e : m = n
      · rw [if_pos e] at hm
        cases hm
        rw [e]
        exact .inr (List.mem_singleton.2 rfl)
      · rw [if_neg e] at hm
        exact .inl (HHAS.out m dm hm)
    · subst c
      rcases hv3 g e with h | h
      · exact HNE.out.2 g h rfl
      · have h1 := HM.out.lt
        have h2 := hk2.size
        omega
    · rcases hv3 g e with h | h
      · exact .inl h
      · exact .inr (by have := hk2.size; omega)
  cases hf : f n
  case some d0 =>
    by_cases hd : d0 ≤ d
    case pos =>
      have HE : Hid (AdPost w N qb db v (K + 1) (addP f n d) (.returned (.tuple #[])) w) := by
        rw [addP_same hf hd]
        exact ⟨rfl, v, HQ.out.mono (Nat.le_succ K), Kf.refl _ _, fun g e => .inl e⟩
      clear hf HNO
      go_wp2_with fail
      go_end0
      exact HE.out
    have HNX := HNO.out (fun d1 h1 => by rw [hf] at h1; cases h1; exact hd)
    clear hf HNO
    go_wp2_with (refine list_put MII rfl _ _ _ rfl (k := n) (u := d) rfl rfl rfl HM.out ?_)
    intro w2 hm2 hk2
    have HCA : Hid (Calls Try.prog 50 #[.iface 97 (.pointer (some ⟨qb, 0, none⟩)), .iface 77 (.agg (tnL ⟨d, n⟩).toArray)] w2 fun e w' => AdPost w N qb db v (K + 1) (addP f n d) e w') := HNX w2 hm2.out hk2.out
    clear HNX hm2 hk2 c1
    go_wp2_with fail
    refine HCA.out.mono ?_
    rintro e w3 ⟨rfl, hex⟩
    have HE : Hid (AdPost w N qb db v (K + 1) (addP f n d) (.returned (.tuple #[])) w3) := ⟨rfl, hex⟩
    clear hex HCA
    go_wp2_with fail
    go_end0
    exact HE.out
  have HNX := HNO.out (fun d1 h1 => by rw [hf] at h1; cases h1)
  clear hf HNO
  go_wp2_with (refine list_put MII rfl _ _ _ rfl (k := n) (u := d) rfl rfl rfl HM.out ?_)
  intro w2 hm2 hk2
  have HCA : Hid (Calls Try.prog 50 #[.iface 97 (.pointer (some ⟨qb, 0, none⟩)), .iface 77 (.agg (tnL ⟨d, n⟩).toArray)] w2 fun e w' => AdPost w N qb db v (K + 1) (addP f n d) e w') := HNX w2 hm2.out hk2.out
  clear HNX hm2 hk2 c1
  go_wp2_with fail
  refine HCA.out.mono ?_
  rintro e w3 ⟨rfl, hex⟩
  have HE : Hid (AdPost w N qb db v (K + 1) (addP f n d) (.returned (.tuple #[])) w3) := ⟨rfl, hex⟩
  clear hex HCA
  go_wp2_with fail
  go_end0
  exact HE.out
end Go.Proofs.Ythhdpfgepjmgkaa.Dj
