/- The document's LsaEncode: what it answers. -/
import Derived.Test.YtagfdmkgnedlbaeLtA
import Derived.Test.YtagfdmkgnedlbaeLtB
import Derived.Test.YtagfdmkgnedlbaeLtC
namespace Go.Proofs.Ytagfdmkgnedlbae.Ls
open Go.ChangeShapes Go.WideShapes Go.ChangeAt Go.RowKit Go.Joins Go.Proofs.Ytagfdmkgnedlbae.PM Go.Proofs.Ytagfdmkgnedlbae.Ask
set_option linter.unusedVariables false

/-- bytes that grow, beside boxes that stay -/
structure EB (w : World) (Bx : List Nat) (Hp : Nat → Option Obj) (W : World) (bv : Value) (bs : List Nat) : Prop where
  own : OwnB w.heap.size W bv bs
  bel : Below w.heap.size w W
  ap : ∀ g, bv.ownBlock = some g → ¬ g ∈ Bx
  lt : ∀ b ∈ Bx, b < W.heap.size
  keep : ∀ b ∈ Bx, W.heap[b]? = Hp b
section
variable {w : World} {Bx : List Nat} {Hp : Nat → Option Obj} {W W' : World} {bv : Value} {bs : List Nat}
theorem EB.next (h : EB w Bx Hp W bv bs) (hb : Below W.heap.size W W') : EB w Bx Hp W' bv bs :=
  ⟨h.own.bel hb, h.bel.trans (hb.mono h.bel.size), h.ap, fun b hm => Nat.lt_of_lt_of_le (h.lt b hm) hb.size, fun b hm => (hb.block b (h.lt b hm)).trans (h.keep b hm)⟩
theorem EB.grow {v' : Value} {cs : List Nat} (h : EB w Bx Hp W bv bs) (ho : OwnB w.heap.size W' v' (bs ++ cs)) (hg : W.grownBy W' bv.ownBlock) (hat : v'.ownBlock = bv.ownBlock ∨ v'.ownBlock = some W.heap.size) : EB w Bx Hp W' v' (bs ++ cs) := by
  refine ⟨ho, h.bel.grown hg h.bel.size (fun g e => (h.own.row.lt g e).1), fun g e hm => ?_, fun b hm => Nat.lt_of_lt_of_le (h.lt b hm) hg.size, fun b hm => (hg.block b (h.lt b hm) (fun e => h.ap b e.symm hm)).trans (h.keep b hm)⟩
  rcases hat with e2 | e2
  · exact h.ap g (by rw [← e2]; exact e) hm
  · rw [e2] at e
    cases e
    exact absurd (h.lt _ hm) (by omega)
/-- a box more -/
theorem EB.push (h : EB w Bx Hp W bv bs) (o : Obj) : ∃ Hp', EB w (W.heap.size :: Bx) Hp' (W.alloc o) bv bs ∧ Hp' W.heap.size = some o ∧ ∀ b ∈ Bx, Hp' b = Hp b := by
  have hb : Below W.heap.size W (W.alloc o) := (Below.refl _ W).alloc (Nat.le_refl _) o
  refine ⟨fun b => (W.alloc o).heap[b]?, ⟨h.own.bel hb, h.bel.trans (hb.mono h.bel.size), fun g e hm => ?_, fun b hm => ?_, fun _ _ => rfl⟩, World.alloc_heap_new W o, fun b hm => (hb.block b (h.lt b hm)).trans (h.keep b hm)⟩
  · rcases List.mem_cons.1 hm with e2 | e2
    · subst e2
      exact absurd (h.own.row.lt _ e).2 (by omega)
    · exact h.ap g e e2
  · rcases List.mem_cons.1 hm with e2 | e2
    · subst e2; simp
    · exact Nat.lt_of_lt_of_le (h.lt b e2) hb.size
theorem EB.pop {b : Nat} (h : EB w (b :: Bx) Hp W bv bs) : EB w Bx Hp W bv bs := ⟨h.own, h.bel, fun g e hm => h.ap g e (List.mem_cons_of_mem _ hm), fun b hm => h.lt b (List.mem_cons_of_mem _ hm), fun b hm => h.keep b (List.mem_cons_of_mem _ hm)⟩
theorem EB.swap {Hp' : Nat → Option Obj} (h : EB w Bx Hp W bv bs) (he : ∀ b ∈ Bx, Hp' b = Hp b) : EB w Bx Hp' W bv bs := ⟨h.own, h.bel, h.ap, h.lt, fun b hm => (h.keep b hm).trans (he b hm).symm⟩
end
theorem bcs_one (bs : List Nat) : ∀ u ∈ bcs bs, u.oneCell' = true := by
  intro u hu
  simp only [bcs, List.mem_map] at hu
  obtain ⟨x, -, rfl⟩ := hu
  rfl
theorem src_bytes {W : World} {g : Nat} {cs : List Nat} (h : ∀ j (h : j < cs.length), W.cell? ⟨g, j, none⟩ = some (.int .u8 (cs[j] : Int))) : ∀ j u, (bcs cs)[j]? = some u → W.cell? ((⟨g, 0, none⟩ : Addr).add j) = some u := by
  intro j u hj
  have hlt : j < cs.length := by
    have := (List.getElem?_eq_some_iff.1 hj).1
    simpa [bcs] using this
  rw [Addr.add_lit, Nat.zero_add, h j hlt]
  simp [bcs, hlt] at hj
  rw [← hj]
/-- bytes at a slice are appended, as one step of a region that draws -/
theorem step_appB {ops : Array Oper} {o : Oper} {a : Act} {Q : Exit → Act → World → Prop} {K : Act → World → Prop} {E : Prop} (hgd : o.guard = none) (s x : Operand)
    (ho : o.op = .call { callee := .builtin .append, args := #[s, x], argTypes := #[37, 37] }) (N : Nat) (v : Value) (bs cs : List Nat) (g n cap : Nat) (W : World) (hs : a.eval s = v) (hown : OwnB N W v bs)
    (hx : a.eval x = .slice (some ⟨g, 0, none⟩) n cap) (hsrc : ∀ j (h : j < cs.length), W.cell? ⟨g, j, none⟩ = some (.int .u8 (cs[j] : Int))) (hn : cs.length = n) (hby : bs.length + n ≤ 1048576) (hN : N ≤ W.heap.size)
    (h : ∀ v' w', Hid (OwnB N w' v' (bs ++ cs)) → Hid (W.grownBy w' v.ownBlock) → Hid (v'.ownBlock = v.ownBlock ∨ v'.ownBlock = some W.heap.size) → K (a.put o.dst v') w') :
    if Region.wanted o (yielded ops a.tmps) = true then Oper.wp Try.prog o a W K Q else E := by
  have hw : Region.wanted o (yielded ops a.tmps) = true := by simp [Region.wanted, hgd]
  rw [if_pos hw]
  obtain ⟨i0, hi, hz0, hz1, hz2⟩ := info_parts info8
  obtain ⟨v', w', hr, h2, h3, h4, h5⟩ := run_append_own_at (P := Try.prog) W N 37 o.type 5 i0 _ 1 1 Try.underlying37 hi hz0 hz1 hz2 rfl (by decide) v bs.length (bcs bs) hown.row ⟨g, 0, none⟩ n cap (bcs cs) (by simp [bcs, hn]) (src_bytes hsrc) (bcs_one cs) (by unfold maxLen; omega) (by omega) hN
  unfold Oper.wp execOp
  simp only [ho, resolve, invoke, builtin, Sem.run_bind, Sem.run_pure, Result.andThen_ok, List.map_toArray, List.map_cons, List.map_nil, hs, hx, hr]
  exact h v' w' ⟨by unfold bcs at h2 ⊢; rw [List.map_append, List.length_append, hn]; exact h2⟩ h3 h5
/-- bytes at a slice are appended -/
theorem list_appB {ops : Array Oper} {rest : List Oper} {o : Oper} {a : Act} {Q : Exit → Act → World → Prop} (hgd : o.guard = none) (s x : Operand)
    (ho : o.op = .call { callee := .builtin .append, args := #[s, x], argTypes := #[37, 37] }) (N : Nat) (v : Value) (bs cs : List Nat) (g n cap : Nat) (W : World) (hs : a.eval s = v) (hown : OwnB N W v bs)
    (hx : a.eval x = .slice (some ⟨g, 0, none⟩) n cap) (hsrc : ∀ j (h : j < cs.length), W.cell? ⟨g, j, none⟩ = some (.int .u8 (cs[j] : Int))) (hn : cs.length = n) (hby : bs.length + n ≤ 1048576) (hN : N ≤ W.heap.size)
    (h : ∀ v' w', Hid (OwnB N w' v' (bs ++ cs)) → Hid (W.grownBy w' v.ownBlock) → Hid (v'.ownBlock = v.ownBlock ∨ v'.ownBlock = some W.heap.size) → wpList Try.prog ops Q rest (a.put o.dst v') w') :
    wpList Try.prog ops Q (o :: rest) a W := by
  obtain ⟨i0, hi, hz0, hz1, hz2⟩ := info_parts info8
  refine wpList_append_own_at _ hgd s x 37 ho N 5 i0 _ 1 1 Try.underlying37 hi hz0 hz1 hz2 rfl (by decide) v bs.length (bcs bs) hs hown.row ⟨g, 0, none⟩ n cap (bcs cs) hx (by simp [bcs, hn]) (src_bytes hsrc) (bcs_one cs) (by unfold maxLen; omega) (by omega) hN ?_
  intro v' w' h2 h3 _ h5
  exact h v' w' ⟨by unfold bcs at h2 ⊢; rw [List.map_append, List.length_append, hn]; exact h2⟩ h3 h5
theorem four_cells {W : World} {g a b c d : Nat} {T : TypeId} (h : W.heap[g]? = some (Obj.cells #[.int .u8 (a : Int), .int .u8 (b : Int), .int .u8 (c : Int), .int .u8 (d : Int)] T)) : ∀ j (h : j < [a, b, c, d].length), W.cell? ⟨g, j, none⟩ = some (.int .u8 ([a, b, c, d][j] : Int)) := by
  intro j hj
  match j, hj with
  | 0, _ => simp [World.cell?, h]
  | 1, _ => simp [World.cell?, h]
  | 2, _ => simp [World.cell?, h]
  | 3, _ => simp [World.cell?, h]
theorem lbox_of {W : World} {s : Nat} {kind area origin pa pn seq age : Int} {lv sv : Value} {cost tag : Int} (h : W.heap[s]? = some (Obj.cells #[.int .i64 kind, .int .i64 area, .int .i64 origin, .int .u32 pa, .int .i64 pn, .int .i64 seq, .int .i64 age, lv, sv, .int .i64 cost, .int .i64 tag] 28)) : LBox s kind area origin pa pn seq age lv sv cost tag W := by
  constructor <;> simp [World.cell?, h]
theorem pbox_of {W : World} {s : Nat} {k f a n : Int} {lv : Value} (h : W.heap[s]? = some (Obj.cells #[.int .i64 k, .int .i64 f, .int .i64 a, .int .i64 n, lv] 36)) : PBox s k f a n lv W := by
  constructor <;> simp [World.cell?, h]
theorem big_one (n : Nat) : big 1 n = [n % 256] := by simp [big]
theorem Nt.wi {n : Int} {k : Nat} (h : Nt n k) (hk : k ≤ 62) : IntKind.i64.wrap n = n := by
  have h1 := h.2
  have h2 : (2 : Int) ^ k ≤ 2 ^ 62 := by exact_mod_cast Nat.pow_le_pow_right (n := 2) (by decide) hk
  have h3 := h.1
  rw [IntWalk.i64_in _ (by omega)]
/-- four bytes are made, and more is put behind them; the bytes that were there stay -/
theorem EB.four {w W wr : World} {H1 : Nat → Option Obj} {vB : Value} {FL : List Nat} {s a b c d : Nat} (h : EB w [s] H1 W vB FL) (hW : Below wr.heap.size wr W) (hr : EB w [s] H1 wr vB FL) : EB w (s :: vB.ownBlock.toList) (fun b => wr.heap[b]?) (W.alloc (Obj.cells #[.int .u8 (a : Int), .int .u8 (b : Int), .int .u8 (c : Int), .int .u8 (d : Int)] 5)) (.slice (some ⟨W.heap.size, 0, none⟩) 4 4) [a, b, c, d] := by
  have hb : Below W.heap.size W (W.alloc (Obj.cells #[.int .u8 (a : Int), .int .u8 (b : Int), .int .u8 (c : Int), .int .u8 (d : Int)] 5)) := (Below.refl _ W).alloc (Nat.le_refl _) _
  have hlt : ∀ x ∈ s :: vB.ownBlock.toList, x < wr.heap.size := fun x hx => by
    rcases List.mem_cons.1 hx with e | e
    · subst e; exact hr.lt x (by simp)
    · exact (hr.own.row.lt x (Option.mem_toList.1 e)).2
  have hws := hW.size
  refine ⟨⟨rfl, .inr ⟨W.heap.size, 4, _, rfl, h.bel.size, World.alloc_heap_new W _, by simp, by unfold maxLen; decide, rfl, rfl⟩⟩, h.bel.trans (hb.mono h.bel.size), fun g e hm => ?_, fun x hx => Nat.lt_of_lt_of_le (hlt x hx) (Nat.le_trans hws hb.size), fun x hx => (hb.block x (Nat.lt_of_lt_of_le (hlt x hx) hws)).trans (hW.block x (hlt x hx))⟩
  cases e
  have : W.heap.size < wr.heap.size := hlt _ hm
  omega
/-- the bytes that stay can be read -/
theorem EB.body {w W wr : World} {H1 : Nat → Option Obj} {vB ov : Value} {FL os : List Nat} {s : Nat} (h : EB w (s :: vB.ownBlock.toList) (fun b => wr.heap[b]?) W ov os) (hr : EB w [s] H1 wr vB FL) : OwnB w.heap.size W vB FL :=
  hr.own.block (fun g e => h.keep g (List.mem_cons_of_mem _ (by rw [e]; simp)))
theorem own_len {N : Nat} {W : World} {a : Option Addr} {l c : Nat} {bs : List Nat} (h : OwnB N W (.slice a l c) bs) : l = bs.length := by
  rcases h.row.2 with ⟨h1, h2⟩ | ⟨g, cap, cur, h1, -⟩
  · cases h1; exact h2.symm
  · cases h1; rfl
theorem encBody_u8 (p : Pk) : ∀ d ∈ encBody p, d < 256 := by
  intro d hd
  unfold encBody at hd
  simp only [List.mem_append, List.mem_flatMap] at hd
  rcases hd with (((((((h1 | h1) | h1) | h1) | h1) | h1) | h1) | ⟨x, -, h1⟩)
  all_goals first | exact big_u8 _ _ d h1 | exact encL_u8 x d h1
theorem u8_wrap {n : Int} (h : 0 ≤ n) : IntKind.u8.wrap n = ((n.toNat % 256 : Nat) : Int) := by rw [IntKind.wrap_u8]; omega
theorem flat_le {xs : List Lsa} (h : ∀ x ∈ xs, Fits x) : (xs.flatMap encL).length ≤ xs.length * 1000 := by
  induction xs with
  | nil => simp
  | cons x xs ih =>
    have h1 := ih (fun y hy => h y (by simp [hy]))
    have h2 := h x (by simp)
    have h3 := h2.nl
    have h4 := h2.ns
    rw [List.flatMap_cons, List.length_append, encL_len, List.length_cons]
    omega
set_option maxRecDepth 100000 in
set_option maxHeartbeats 32000000 in
theorem rencode_any (kind frm area seen : Int) (va : Option Addr) (cap : Nat) (xs : List Lsa) (L : Nat) (hL : xs.length = L) (w : World) (hx : LAll w va xs) (h64 : ∀ x ∈ xs, ∀ d ∈ x.links, In64 d.2.1) (bs : List Nat) (er : Int) (hd : encP ⟨kind, frm, area, seen, xs⟩ = (bs, er)) :
    Calls Try.prog 17 #[pkV kind frm area seen va L cap] w (EncPost w bs er) := by
  have HX : Hid (LAll w va xs) := hx
  have HLX : Hid (xs.length = L) := hL
  have HERR : Hid (∀ W e5, Below w.heap.size w W → EncPost w [] e5 (.returned (.tuple #[.slice none 0 0, .int .i64 e5])) W) := fun W e5 hb => ⟨_, rfl, ⟨World.ownsRow_nil _ _ _ _⟩, hb⟩
  obtain ⟨rf, hrf⟩ : ∃ r, refP kind frm area seen xs = r := ⟨_, rfl⟩
  have HRF : Hid (refP kind frm area seen xs = rf) := hrf
  have HREF : Hid (∀ W, Below w.heap.size w W → Calls Try.prog 43 #[pkV kind frm area seen va L cap] W fun e w' => e = .returned (.int .i64 rf) ∧ Below W.heap.size W w') := fun W hW => rrefuses_any kind frm area seen va cap xs L HLX.out W (HX.out.bel hW) h64 rf HRF.out
  have HD : Hid (encP ⟨kind, frm, area, seen, xs⟩ = (bs, er)) := hd
  clear hx hL hrf hd
  unfold pkV at HREF ⊢
  go_enter Try.func17, Try.ntmps17
  go_wp2_with fail
  obtain ⟨w0, hw0⟩ : ∃ w0, w.alloc (Obj.cells #[.int .i64 kind, .int .i64 frm, .int .i64 area, .int .i64 seen, .slice va L cap] 36) = w0 := ⟨_, rfl⟩
  obtain ⟨s, hs⟩ : ∃ s, w.heap.size = s := ⟨_, rfl⟩
  have hg0 : w0.heap[s]? = some (Obj.cells #[.int .i64 kind, .int .i64 frm, .int .i64 area, .int .i64 seen, .slice va L cap] 36) := by rw [← hw0, ← hs]; exact World.alloc_heap_new w _
  have hbz : Below w.heap.size w w0 := by rw [← hw0]; exact (Below.refl _ w).alloc (Nat.le_refl _) _
  have HB0 : Hid (Below w.heap.size w w0) := hbz
  have HG0 : Hid (w0.heap[s]? = some (Obj.cells #[.int .i64 kind, .int .i64 frm, .int .i64 area, .int .i64 seen, .slice va L cap] 36)) := hg0
  rw [hw0, hs]
  clear hw0 hbz hg0 hs
  refine (HREF.out w0 HB0.out).mono ?_
  rintro e w1 ⟨rfl, hb1⟩
  have hsl : s < w0.heap.size := (Array.getElem?_eq_some_iff.1 HG0.out).1
  have HG1 : Hid (w1.heap[s]? = some (Obj.cells #[.int .i64 kind, .int .i64 frm, .int .i64 area, .int .i64 seen, .slice va L cap] 36)) := (hb1.block s hsl).trans HG0.out
  have HB1 : Hid (Below w.heap.size w w1) := HB0.out.trans (hb1.mono HB0.out.size)
  clear hb1 HB0 HG0 HREF hsl
  by_cases hrf0 : rf = 0
  case neg =>
    have hrfb : (rf != 0) = true := by simpa using hrf0
    have hbe : bs = [] ∧ er = rf := by
      have h1 := HD.out
      have h2 := HRF.out
      unfold encP at h1
      unfold refP at h2
      dsimp only at h1
      split at h1
      · rename_i hk
        rw [if_pos hk] at h2
        cases h1
        exact ⟨rfl, h2⟩
      · rename_i hk
        rw [if_neg hk] at h2
        split at h1
        · rename_i hr
          rw [if_pos hr] at h2
          cases h1
          exact ⟨rfl, h2⟩
        · rename_i hr
          rw [if_neg hr] at h2
          exact absurd h2.symm hrf0
    obtain ⟨rfl, rfl⟩ := hbe
    go_wp2_with fail
    refine bodyPost_ret (v := .tuple #[.slice none 0 0, .int .i64 er]) (by simp [results, Try.results17, go_sem]) rfl ?_
    exact HERR.out _ _ HB1.out
  case pos =>
    subst hrf0
    have hkr : isK kind = true ∧ rangeP kind frm area seen xs = true := by
      have h2 := HRF.out
      unfold refP at h2
      split at h2
      · cases h2
      · rename_i hk
        split at h2
        · cases h2
        · rename_i hr
          exact ⟨by simpa using hk, by simpa using hr⟩
    have HFT : Hid (∀ x ∈ xs, Fits x) := fun x hx => right_fits ((range_of hkr.2).2.2.2.2 x hx) (HX.out.in32 x hx).1 (HX.out.in32 x hx).2
    have HKR : Hid (isK kind = true ∧ rangeP kind frm area seen xs = true) := hkr
    have hL16 : L ≤ 16 := by rw [← HLX.out]; exact (range_of hkr.2).2.2.2.1
    have HE0 : Hid (EB w [s] (fun b => w1.heap[b]?) w1 (.slice none 0 0) []) := ⟨⟨World.ownsRow_nil _ _ _ _⟩, HB1.out, (fun g e => by cases e), (fun b hm => by rw [List.mem_singleton.1 hm]; exact (Array.getElem?_eq_some_iff.1 HG1.out).1), fun _ _ => rfl⟩
    obtain ⟨c0, c1, c2, c3, c4⟩ := pbox_of HG1.out
    clear hkr
    go_wp2_with fail
    clear c0 c1 c2 c3 c4
    go_loopw [5, 21] (fun bv iv wr => ∃ (k : Nat), k ≤ L ∧ iv = .int .i64 k ∧ EB w [s] (fun b => w1.heap[b]?) wr bv ((xs.take k).flatMap encL)) (fun _ i _ => L - (intOf i).toNat)
    case atStart => exact ⟨0, by omega, rfl, HE0.out⟩
    case round =>
      obtain ⟨k, hk, rfl, heb⟩ := hrel
      have HEB : Hid (EB w [s] (fun b => w1.heap[b]?) wr u5 ((xs.take k).flatMap encL)) := heb
      have hflen : ((xs.take k).flatMap encL).length ≤ 16000 := by
        refine Nat.le_trans (flat_le (fun x hx => HFT.out x (List.mem_of_mem_take hx))) ?_
        rw [List.length_take]
        omega
      clear heb HE0
      by_cases hlt : k < L
      · have hkd : k < xs.length := by rw [HLX.out]; exact hlt
        obtain ⟨b, o, la, lc, sa, sc, rfl, hbl, hat0, hok⟩ := HX.out.cells k hkd
        have hat := hat0.bel HEB.out.bel
        have hft := HFT.out _ (List.getElem_mem hkd)
        obtain ⟨x, hx⟩ : ∃ x, xs[k] = x := ⟨_, rfl⟩
        have HNX : Hid ((xs.take (k + 1)).flatMap encL = (xs.take k).flatMap encL ++ encL x) := by
          show _ = _
          rw [List.take_succ_eq_append_getElem hkd, hx, List.flatMap_append]
          simp
        rw [hx] at hat hok hft
        obtain ⟨P, hP⟩ : ∃ P, (xs.take k).flatMap encL = P := ⟨_, rfl⟩
        rw [hP] at HEB HNX hflen
        clear hx hat0 hP
        obtain ⟨kd, ar, og, pa, pn, sq, ag, cs, tg, links, stubs⟩ := x
        obtain ⟨f0, f1, f2, f3, f4, f5, f6, f7, f8, hnl, hns, flk, fst⟩ := hft
        dsimp only at f0 f1 f2 f3 f4 f5 f6 f7 f8 hnl hns flk fst
        have HLK : Hid (∀ l ∈ links, Nt l.1 32 ∧ Nt l.2.1 16 ∧ Nt l.2.2 16) := flk
        have HST : Hid (∀ l ∈ stubs, Nt l.1 32 ∧ Nt l.2.1 8 ∧ Nt l.2.2 16) := fst
        have HOX : Hid (L3 .i64 w la links) := hok.lk
        have HOS : Hid (L3 .u32 w sa stubs) := hok.st
        obtain ⟨n1, hn1⟩ : ∃ n1, links.length = n1 := ⟨_, rfl⟩
        obtain ⟨n2, hn2⟩ : ∃ n2, stubs.length = n2 := ⟨_, rfl⟩
        have HN1 : Hid (links.length = n1) := hn1
        have HN2 : Hid (stubs.length = n2) := hn2
        obtain ⟨d0, d1, d2, d3, d4, d5, d6, d7, d8, d9, d10⟩ := hat
        dsimp only at d0 d1 d2 d3 d4 d5 d6 d7 d8 d9 d10
        rw [hn1] at hnl d7
        rw [hn2] at hns d8
        have F0 : Hid (Nt kd 8) := f0
        have F1 : Hid (Nt pn 8) := f1
        have F2 : Hid (Nt ar 16) := f2
        have F3 : Hid (Nt ag 16) := f3
        have F4 : Hid (Nt og 32) := f4
        have F5 : Hid (Nt sq 32) := f5
        have F6 : Hid (Nt pa 32) := f6
        have F7 : Hid (Nt cs 32) := f7
        have HWP : Hid (((pa.toNat : Nat) : Int) = IntKind.i64.wrap pa) := by rw [Nt.wi f6 (by decide)]; exact f6.cast
        have F8 : Hid (Nt tg 32) := f8
        have hu0 : IntKind.u8.wrap kd = ((kd.toNat % 256 : Nat) : Int) := u8_wrap f0.1
        have hu1 : IntKind.u8.wrap (n1 : Int) = ((n1 % 256 : Nat) : Int) := by rw [IntKind.wrap_u8]; omega
        have hu2 : IntKind.u8.wrap (n2 : Int) = ((n2 % 256 : Nat) : Int) := by rw [IntKind.wrap_u8]; omega
        have hu3 : IntKind.u8.wrap pn = ((pn.toNat % 256 : Nat) : Int) := u8_wrap f1.1
        have hkk : (k : Int) < L := by omega
        have kk0 : (0 : Int) ≤ k := by omega
        clear hok hn1 hn2 f0 f1 f2 f3 f4 f5 f6 f7 f8 flk fst
        go_upto_region 8 with fail
        clear d0 d1 d2 d3 d4 d5 d6 d7 d8 d9 d10
        obtain ⟨w2, hw2⟩ : ∃ w2, wr.alloc (Obj.cells #[.int .i64 kd, .int .i64 ar, .int .i64 og, .int .u32 pa, .int .i64 pn, .int .i64 sq, .int .i64 ag, .slice la n1 lc, .slice sa n2 sc, .int .i64 cs, .int .i64 tg] 28) = w2 := ⟨_, rfl⟩
        obtain ⟨Hp, he2, hHp, hHo⟩ := HEB.out.push (Obj.cells #[.int .i64 kd, .int .i64 ar, .int .i64 og, .int .u32 pa, .int .i64 pn, .int .i64 sq, .int .i64 ag, .slice la n1 lc, .slice sa n2 sc, .int .i64 cs, .int .i64 tg] 28)
        obtain ⟨s7, hs7⟩ : ∃ s, wr.heap.size = s := ⟨_, rfl⟩
        rw [hw2, hs7] at he2
        rw [hs7] at hHp
        have HE2 : Hid (EB w (s7 :: [s]) Hp w2 u5 P) := he2
        have HHO : Hid (∀ b ∈ [s], Hp b = w1.heap[b]?) := hHo
        have HBOX : Hid (∀ W bv bs, EB w (s7 :: [s]) Hp W bv bs → LBox s7 kd ar og pa pn sq ag (.slice la n1 lc) (.slice sa n2 sc) cs tg W) := fun W bv bs h => lbox_of ((h.keep s7 (by simp)).trans hHp)
        obtain ⟨c0, c1, c2, c3, c4, c5, c6, c7, c8, c9, c10⟩ := HBOX.out _ _ _ he2
        rw [hw2, hs7]
        clear hw2 he2 hHp hHo HEB hs7
        have HE2b : Hid (EB w (s7 :: [s]) Hp (w2.alloc (Obj.cells #[.int .u8 ((kd.toNat % 256 : Nat) : Int), .int .u8 ((n1 % 256 : Nat) : Int), .int .u8 ((n2 % 256 : Nat) : Int), .int .u8 ((pn.toNat % 256 : Nat) : Int)] 5)) u5 P) := HE2.out.next ((Below.refl _ w2).alloc (Nat.le_refl _) _)
        have HSRC := four_cells (World.alloc_heap_new w2 (Obj.cells #[.int .u8 ((kd.toNat % 256 : Nat) : Int), .int .u8 ((n1 % 256 : Nat) : Int), .int .u8 ((n2 % 256 : Nat) : Int), .int .u8 ((pn.toNat % 256 : Nat) : Int)] 5))
        have hpl : P.length + 4 ≤ 1048576 := by omega
        obtain ⟨a1, ha1⟩ : ∃ a, kd.toNat % 256 = a := ⟨_, rfl⟩
        obtain ⟨a2, ha2⟩ : ∃ a, n1 % 256 = a := ⟨_, rfl⟩
        obtain ⟨a3, ha3⟩ : ∃ a, n2 % 256 = a := ⟨_, rfl⟩
        obtain ⟨a4, ha4⟩ : ∃ a, pn.toNat % 256 = a := ⟨_, rfl⟩
        have HA4 : Hid ([a1, a2, a3, a4] = big 1 kd.toNat ++ big 1 n1 ++ big 1 n2 ++ big 1 pn.toNat) := by
          show _ = _
          rw [← ha1, ← ha2, ← ha3, ← ha4, big_one, big_one, big_one, big_one]; rfl
        rw [ha1] at hu0
        rw [ha2] at hu1
        rw [ha3] at hu2
        rw [ha4] at hu3
        rw [ha1, ha2, ha3, ha4] at HE2b HSRC
        clear ha1 ha2 ha3 ha4
        go_wp2_with (at_builtin; refine list_appB rfl _ _ rfl w.heap.size u5 P [a1, a2, a3, a4] w2.heap.size 4 4 (w2.alloc (Obj.cells #[.int .u8 (a1 : Int), .int .u8 (a2 : Int), .int .u8 (a3 : Int), .int .u8 (a4 : Int)] 5)) rfl HE2b.out.own rfl HSRC rfl hpl HE2b.out.bel.size ?_)
        intro v3 w3 ho3 hg3 hat3
        have HE3 : Hid (EB w (s7 :: [s]) Hp w3 v3 (P ++ (big 1 kd.toNat ++ big 1 n1 ++ big 1 n2 ++ big 1 pn.toNat))) := by
          rw [← HA4.out]
          exact HE2b.out.grow ho3.out hg3.out (by have := hat3.out; simpa using this)
        clear ho3 hg3 hat3 HE2 HE2b HSRC HA4 c0 c1 c2 c3 c4 c5 c6 c7 c8 c9 c10
        go_wp2_with fail
        obtain ⟨PA, hPA⟩ : ∃ p, P ++ (big 1 kd.toNat ++ big 1 n1 ++ big 1 n2 ++ big 1 pn.toNat) = p := ⟨_, rfl⟩
        have HPA : Hid (P ++ (big 1 kd.toNat ++ big 1 n1 ++ big 1 n2 ++ big 1 pn.toNat) = PA) := hPA
        have hlA : PA.length ≤ 20000 := by rw [← hPA]; first | omega | (simp [big_len]; omega) | (simp [big_len]; done)
        rw [hPA] at HE3
        clear hPA
        refine wp_region_held_drew (S := fun W => LBox s7 kd ar og pa pn sq ag (.slice la n1 lc) (.slice sa n2 sc) cs tg W) (by kernel_rfl) (HBOX.out _ _ _ (HE3.out.next (drew_bel _))) (fun hHeld => ?_)
        obtain ⟨wD, hwD⟩ : ∃ wD, w3.drew = wD := ⟨_, rfl⟩
        rw [hwD] at hHeld ⊢
        have HEaA0 : Hid (EB w (s7 :: [s]) Hp wD v3 PA) := by rw [← hwD]; exact HE3.out.next (drew_bel _)
        clear hwD
        refine wpAnyH_take (i := 0) (v := ?_) rfl (by kernel_rfl) (by kernel_rfl) (by kernel_rfl) (fun _ _ _ h => h) (Or.inl ⟨by rfl, ?_⟩) (by assumption) ?_
        case refine_2 => intro W hSw; obtain ⟨c0, c1, c2, c3, c4, c5, c6, c7, c8, c9, c10⟩ := hSw; go_simp; try rfl
        try simp only [Act.put, List.getElem_toArray, List.getElem_cons_zero, List.setIfInBounds_toArray, List.set_cons_zero, List.set_cons_succ]
        refine wpAnyH_take (i := 1) (v := ?_) rfl (by kernel_rfl) (by kernel_rfl) (by kernel_rfl) (fun _ _ _ h => h) (Or.inl ⟨by rfl, ?_⟩) (by assumption) ?_
        case refine_2 => intro W hSw; obtain ⟨c0, c1, c2, c3, c4, c5, c6, c7, c8, c9, c10⟩ := hSw; go_simp; try rfl
        try simp only [Act.put, List.getElem_toArray, List.getElem_cons_zero, List.getElem_cons_succ, List.setIfInBounds_toArray, List.set_cons_zero, List.set_cons_succ]
        refine wpAnyH_take (i := 2) (v := ?_) rfl (by kernel_rfl) (by kernel_rfl) (by kernel_rfl) (fun _ _ _ h => h) (Or.inl ⟨by rfl, ?_⟩) (by assumption) ?_
        case refine_2 => intro W hSw; obtain ⟨c0, c1, c2, c3, c4, c5, c6, c7, c8, c9, c10⟩ := hSw; go_simp; try rfl
        try simp only [Act.put, List.getElem_toArray, List.getElem_cons_zero, List.getElem_cons_succ, List.setIfInBounds_toArray, List.set_cons_zero, List.set_cons_succ]
        refine wpAnyH_take (i := 5) (v := ?_) rfl (by kernel_rfl) (by kernel_rfl) (by kernel_rfl) (fun _ _ _ h => h) (Or.inl ⟨by rfl, ?_⟩) (by assumption) ?_
        case refine_2 => intro W hSw; obtain ⟨c0, c1, c2, c3, c4, c5, c6, c7, c8, c9, c10⟩ := hSw; go_simp; try rfl
        try simp only [Act.put, List.getElem_toArray, List.getElem_cons_zero, List.getElem_cons_succ, List.setIfInBounds_toArray, List.set_cons_zero, List.set_cons_succ]
        refine wpAnyH_take (i := 6) (v := ?_) rfl (by kernel_rfl) (by kernel_rfl) (by kernel_rfl) (fun _ _ _ h => h) (Or.inl ⟨by rfl, ?_⟩) (by assumption) ?_
        case refine_2 => intro W hSw; obtain ⟨c0, c1, c2, c3, c4, c5, c6, c7, c8, c9, c10⟩ := hSw; go_simp; try rfl
        try simp only [Act.put, List.getElem_toArray, List.getElem_cons_zero, List.getElem_cons_succ, List.setIfInBounds_toArray, List.set_cons_zero, List.set_cons_succ]
        refine wpAnyH_ready (rs := [3]) (by kernel_rfl) (by simp) ?_
        refine AllReadyH.cons rfl (fun K hK => ?_) AllReadyH.nil
        go_simp
        refine (rbig_any 2 ar.toNat 2 ar rfl F2.out.cast (by decide) (by decide) (F2.out.lt (by decide)) wD).mono ?_
        rintro e pA0 ⟨rfl, ho1, hb1⟩
        have HEbA0 : Hid (EB w (s7 :: [s]) Hp pA0 v3 (PA)) := HEaA0.out.next hb1
        have HSbA0 : Hid (∀ j (h : j < (big 2 ar.toNat).length), pA0.cell? ⟨wD.heap.size, j, none⟩ = some (.int .u8 ((big 2 ar.toNat)[j] : Int))) := fun j h => (ho1.cell h).1
        clear ho1 hb1 hHeld
        obtain ⟨gA0, hgA0⟩ : ∃ g, wD.heap.size = g := ⟨_, rfl⟩
        rw [hgA0] at HSbA0 ⊢
        clear hgA0
        go_wp2_with fail
        refine hK.out _ _ (HBOX.out _ _ _ HEbA0.out) (fun hHeld => ?_)
        clear hK K
        try simp only [Act.put, List.getElem_toArray, List.getElem_cons_zero, List.getElem_cons_succ, List.setIfInBounds_toArray, List.set_cons_zero, List.set_cons_succ]
        refine wpAnyH_ready (rs := [4]) (by kernel_rfl) (by simp) ?_
        refine AllReadyH.cons rfl (fun K hK => ?_) AllReadyH.nil
        refine step_appB rfl _ _ rfl w.heap.size v3 (PA) (big 2 ar.toNat) gA0 2 2 pA0 rfl HEbA0.out.own rfl HSbA0.out (big_len _ _) (by simp []; omega) HEbA0.out.bel.size ?_
        intro zA0 qA0 ho1 hg1 hat1
        have HEaA1 : Hid (EB w (s7 :: [s]) Hp qA0 zA0 (PA ++ big 2 ar.toNat)) := HEbA0.out.grow ho1.out hg1.out hat1.out
        clear ho1 hg1 hat1 hHeld
        refine hK.out _ _ (HBOX.out _ _ _ HEaA1.out) (fun hHeld => ?_)
        clear hK K
        try simp only [Act.put, List.getElem_toArray, List.getElem_cons_zero, List.getElem_cons_succ, List.setIfInBounds_toArray, List.set_cons_zero, List.set_cons_succ]
        refine wpAnyH_ready (rs := [7]) (by kernel_rfl) (by simp) ?_
        refine AllReadyH.cons rfl (fun K hK => ?_) AllReadyH.nil
        go_simp
        refine (rbig_any 2 ag.toNat 2 ag rfl F3.out.cast (by decide) (by decide) (F3.out.lt (by decide)) qA0).mono ?_
        rintro e pA1 ⟨rfl, ho1, hb1⟩
        have HEbA1 : Hid (EB w (s7 :: [s]) Hp pA1 zA0 (PA ++ big 2 ar.toNat)) := HEaA1.out.next hb1
        have HSbA1 : Hid (∀ j (h : j < (big 2 ag.toNat).length), pA1.cell? ⟨qA0.heap.size, j, none⟩ = some (.int .u8 ((big 2 ag.toNat)[j] : Int))) := fun j h => (ho1.cell h).1
        clear ho1 hb1 hHeld
        obtain ⟨gA1, hgA1⟩ : ∃ g, qA0.heap.size = g := ⟨_, rfl⟩
        rw [hgA1] at HSbA1 ⊢
        clear hgA1
        go_wp2_with fail
        refine hK.out _ _ (HBOX.out _ _ _ HEbA1.out) (fun hHeld => ?_)
        clear hK K
        try simp only [Act.put, List.getElem_toArray, List.getElem_cons_zero, List.getElem_cons_succ, List.setIfInBounds_toArray, List.set_cons_zero, List.set_cons_succ]
        refine wpAnyH_ready (rs := [8]) (by kernel_rfl) (by simp) ?_
        refine AllReadyH.cons rfl (fun K hK => ?_) AllReadyH.nil
        refine step_appB rfl _ _ rfl w.heap.size zA0 (PA ++ big 2 ar.toNat) (big 2 ag.toNat) gA1 2 2 pA1 rfl HEbA1.out.own rfl HSbA1.out (big_len _ _) (by simp [big_len]; omega) HEbA1.out.bel.size ?_
        intro zA1 qA1 ho1 hg1 hat1
        have HEaA2 : Hid (EB w (s7 :: [s]) Hp qA1 zA1 (PA ++ big 2 ar.toNat ++ big 2 ag.toNat)) := HEbA1.out.grow ho1.out hg1.out hat1.out
        clear ho1 hg1 hat1 hHeld
        refine hK.out _ _ (HBOX.out _ _ _ HEaA2.out) (fun hHeld => ?_)
        clear hK K
        try simp only [Act.put, List.getElem_toArray, List.getElem_cons_zero, List.getElem_cons_succ, List.setIfInBounds_toArray, List.set_cons_zero, List.set_cons_succ]
        refine wpAnyH_take (i := 9) (v := ?_) rfl (by kernel_rfl) (by kernel_rfl) (by kernel_rfl) (fun _ _ _ h => h) (Or.inl ⟨by rfl, ?_⟩) (by assumption) ?_
        case refine_2 => intro W hSw; obtain ⟨c0, c1, c2, c3, c4, c5, c6, c7, c8, c9, c10⟩ := hSw; go_simp; try rfl
        try simp only [Act.put, List.getElem_toArray, List.getElem_cons_zero, List.getElem_cons_succ, List.setIfInBounds_toArray, List.set_cons_zero, List.set_cons_succ]
        refine wpAnyH_done (by kernel_rfl) ?_ _
        clear hHeld
        go_wp2_with fail
        obtain ⟨PB, hPB⟩ : ∃ p, PA ++ big 2 ar.toNat ++ big 2 ag.toNat = p := ⟨_, rfl⟩
        have HPB : Hid (PA ++ big 2 ar.toNat ++ big 2 ag.toNat = PB) := hPB
        have hlB : PB.length ≤ 20100 := by rw [← hPB]; first | omega | (simp [big_len]; omega) | (simp [big_len]; done)
        rw [hPB] at HEaA2
        clear hPB
        refine wp_region_held_drew (S := fun W => LBox s7 kd ar og pa pn sq ag (.slice la n1 lc) (.slice sa n2 sc) cs tg W) (by kernel_rfl) (HBOX.out _ _ _ (HEaA2.out.next (drew_bel _))) (fun hHeld => ?_)
        obtain ⟨wD, hwD⟩ : ∃ wD, qA1.drew = wD := ⟨_, rfl⟩
        rw [hwD] at hHeld ⊢
        have HEaB0 : Hid (EB w (s7 :: [s]) Hp wD zA1 PB) := by rw [← hwD]; exact HEaA2.out.next (drew_bel _)
        clear hwD
        refine wpAnyH_take (i := 0) (v := ?_) rfl (by kernel_rfl) (by kernel_rfl) (by kernel_rfl) (fun _ _ _ h => h) (Or.inl ⟨by rfl, ?_⟩) (by assumption) ?_
        case refine_2 => intro W hSw; obtain ⟨c0, c1, c2, c3, c4, c5, c6, c7, c8, c9, c10⟩ := hSw; go_simp; try rfl
        try simp only [Act.put, List.getElem_toArray, List.getElem_cons_zero, List.setIfInBounds_toArray, List.set_cons_zero, List.set_cons_succ]
        refine wpAnyH_take (i := 1) (v := ?_) rfl (by kernel_rfl) (by kernel_rfl) (by kernel_rfl) (fun _ _ _ h => h) (Or.inl ⟨by rfl, ?_⟩) (by assumption) ?_
        case refine_2 => intro W hSw; obtain ⟨c0, c1, c2, c3, c4, c5, c6, c7, c8, c9, c10⟩ := hSw; go_simp; try rfl
        try simp only [Act.put, List.getElem_toArray, List.getElem_cons_zero, List.getElem_cons_succ, List.setIfInBounds_toArray, List.set_cons_zero, List.set_cons_succ]
        refine wpAnyH_take (i := 2) (v := ?_) rfl (by kernel_rfl) (by kernel_rfl) (by kernel_rfl) (fun _ _ _ h => h) (Or.inl ⟨by rfl, ?_⟩) (by assumption) ?_
        case refine_2 => intro W hSw; obtain ⟨c0, c1, c2, c3, c4, c5, c6, c7, c8, c9, c10⟩ := hSw; go_simp; try rfl
        try simp only [Act.put, List.getElem_toArray, List.getElem_cons_zero, List.getElem_cons_succ, List.setIfInBounds_toArray, List.set_cons_zero, List.set_cons_succ]
        refine wpAnyH_take (i := 5) (v := ?_) rfl (by kernel_rfl) (by kernel_rfl) (by kernel_rfl) (fun _ _ _ h => h) (Or.inl ⟨by rfl, ?_⟩) (by assumption) ?_
        case refine_2 => intro W hSw; obtain ⟨c0, c1, c2, c3, c4, c5, c6, c7, c8, c9, c10⟩ := hSw; go_simp; try rfl
        try simp only [Act.put, List.getElem_toArray, List.getElem_cons_zero, List.getElem_cons_succ, List.setIfInBounds_toArray, List.set_cons_zero, List.set_cons_succ]
        refine wpAnyH_take (i := 6) (v := ?_) rfl (by kernel_rfl) (by kernel_rfl) (by kernel_rfl) (fun _ _ _ h => h) (Or.inl ⟨by rfl, ?_⟩) (by assumption) ?_
        case refine_2 => intro W hSw; obtain ⟨c0, c1, c2, c3, c4, c5, c6, c7, c8, c9, c10⟩ := hSw; go_simp; try rfl
        try simp only [Act.put, List.getElem_toArray, List.getElem_cons_zero, List.getElem_cons_succ, List.setIfInBounds_toArray, List.set_cons_zero, List.set_cons_succ]
        refine wpAnyH_ready (rs := [3]) (by kernel_rfl) (by simp) ?_
        refine AllReadyH.cons rfl (fun K hK => ?_) AllReadyH.nil
        go_simp
        refine (rbig_any 4 og.toNat 4 og rfl F4.out.cast (by decide) (by decide) (F4.out.lt (by decide)) wD).mono ?_
        rintro e pB0 ⟨rfl, ho1, hb1⟩
        have HEbB0 : Hid (EB w (s7 :: [s]) Hp pB0 zA1 (PB)) := HEaB0.out.next hb1
        have HSbB0 : Hid (∀ j (h : j < (big 4 og.toNat).length), pB0.cell? ⟨wD.heap.size, j, none⟩ = some (.int .u8 ((big 4 og.toNat)[j] : Int))) := fun j h => (ho1.cell h).1
        clear ho1 hb1 hHeld
        obtain ⟨gB0, hgB0⟩ : ∃ g, wD.heap.size = g := ⟨_, rfl⟩
        rw [hgB0] at HSbB0 ⊢
        clear hgB0
        go_wp2_with fail
        refine hK.out _ _ (HBOX.out _ _ _ HEbB0.out) (fun hHeld => ?_)
        clear hK K
        try simp only [Act.put, List.getElem_toArray, List.getElem_cons_zero, List.getElem_cons_succ, List.setIfInBounds_toArray, List.set_cons_zero, List.set_cons_succ]
        refine wpAnyH_ready (rs := [4]) (by kernel_rfl) (by simp) ?_
        refine AllReadyH.cons rfl (fun K hK => ?_) AllReadyH.nil
        refine step_appB rfl _ _ rfl w.heap.size zA1 (PB) (big 4 og.toNat) gB0 4 4 pB0 rfl HEbB0.out.own rfl HSbB0.out (big_len _ _) (by simp []; omega) HEbB0.out.bel.size ?_
        intro zB0 qB0 ho1 hg1 hat1
        have HEaB1 : Hid (EB w (s7 :: [s]) Hp qB0 zB0 (PB ++ big 4 og.toNat)) := HEbB0.out.grow ho1.out hg1.out hat1.out
        clear ho1 hg1 hat1 hHeld
        refine hK.out _ _ (HBOX.out _ _ _ HEaB1.out) (fun hHeld => ?_)
        clear hK K
        try simp only [Act.put, List.getElem_toArray, List.getElem_cons_zero, List.getElem_cons_succ, List.setIfInBounds_toArray, List.set_cons_zero, List.set_cons_succ]
        refine wpAnyH_ready (rs := [7]) (by kernel_rfl) (by simp) ?_
        refine AllReadyH.cons rfl (fun K hK => ?_) AllReadyH.nil
        go_simp
        refine (rbig_any 4 sq.toNat 4 sq rfl F5.out.cast (by decide) (by decide) (F5.out.lt (by decide)) qB0).mono ?_
        rintro e pB1 ⟨rfl, ho1, hb1⟩
        have HEbB1 : Hid (EB w (s7 :: [s]) Hp pB1 zB0 (PB ++ big 4 og.toNat)) := HEaB1.out.next hb1
        have HSbB1 : Hid (∀ j (h : j < (big 4 sq.toNat).length), pB1.cell? ⟨qB0.heap.size, j, none⟩ = some (.int .u8 ((big 4 sq.toNat)[j] : Int))) := fun j h => (ho1.cell h).1
        clear ho1 hb1 hHeld
        obtain ⟨gB1, hgB1⟩ : ∃ g, qB0.heap.size = g := ⟨_, rfl⟩
        rw [hgB1] at HSbB1 ⊢
        clear hgB1
        go_wp2_with fail
        refine hK.out _ _ (HBOX.out _ _ _ HEbB1.out) (fun hHeld => ?_)
        clear hK K
        try simp only [Act.put, List.getElem_toArray, List.getElem_cons_zero, List.getElem_cons_succ, List.setIfInBounds_toArray, List.set_cons_zero, List.set_cons_succ]
        refine wpAnyH_ready (rs := [8]) (by kernel_rfl) (by simp) ?_
        refine AllReadyH.cons rfl (fun K hK => ?_) AllReadyH.nil
        refine step_appB rfl _ _ rfl w.heap.size zB0 (PB ++ big 4 og.toNat) (big 4 sq.toNat) gB1 4 4 pB1 rfl HEbB1.out.own rfl HSbB1.out (big_len _ _) (by simp [big_len]; omega) HEbB1.out.bel.size ?_
        intro zB1 qB1 ho1 hg1 hat1
        have HEaB2 : Hid (EB w (s7 :: [s]) Hp qB1 zB1 (PB ++ big 4 og.toNat ++ big 4 sq.toNat)) := HEbB1.out.grow ho1.out hg1.out hat1.out
        clear ho1 hg1 hat1 hHeld
        refine hK.out _ _ (HBOX.out _ _ _ HEaB2.out) (fun hHeld => ?_)
        clear hK K
        try simp only [Act.put, List.getElem_toArray, List.getElem_cons_zero, List.getElem_cons_succ, List.setIfInBounds_toArray, List.set_cons_zero, List.set_cons_succ]
        refine wpAnyH_take (i := 9) (v := ?_) rfl (by kernel_rfl) (by kernel_rfl) (by kernel_rfl) (fun _ _ _ h => h) (Or.inl ⟨by rfl, ?_⟩) (by assumption) ?_
        case refine_2 => intro W hSw; obtain ⟨c0, c1, c2, c3, c4, c5, c6, c7, c8, c9, c10⟩ := hSw; go_simp; try rfl
        try simp only [Act.put, List.getElem_toArray, List.getElem_cons_zero, List.getElem_cons_succ, List.setIfInBounds_toArray, List.set_cons_zero, List.set_cons_succ]
        refine wpAnyH_done (by kernel_rfl) ?_ _
        clear hHeld
        go_wp2_with fail
        obtain ⟨PC, hPC⟩ : ∃ p, PB ++ big 4 og.toNat ++ big 4 sq.toNat = p := ⟨_, rfl⟩
        have HPC : Hid (PB ++ big 4 og.toNat ++ big 4 sq.toNat = PC) := hPC
        have hlC : PC.length ≤ 20200 := by rw [← hPC]; first | omega | (simp [big_len]; omega) | (simp [big_len]; done)
        rw [hPC] at HEaB2
        clear hPC
        refine wp_region_held_drew (S := fun W => LBox s7 kd ar og pa pn sq ag (.slice la n1 lc) (.slice sa n2 sc) cs tg W) (by kernel_rfl) (HBOX.out _ _ _ (HEaB2.out.next (drew_bel _))) (fun hHeld => ?_)
        obtain ⟨wD, hwD⟩ : ∃ wD, qB1.drew = wD := ⟨_, rfl⟩
        rw [hwD] at hHeld ⊢
        have HEaC0 : Hid (EB w (s7 :: [s]) Hp wD zB1 PC) := by rw [← hwD]; exact HEaB2.out.next (drew_bel _)
        clear hwD
        refine wpAnyH_take (i := 0) (v := ?_) rfl (by kernel_rfl) (by kernel_rfl) (by kernel_rfl) (fun _ _ _ h => h) (Or.inl ⟨by rfl, ?_⟩) (by assumption) ?_
        case refine_2 => intro W hSw; obtain ⟨c0, c1, c2, c3, c4, c5, c6, c7, c8, c9, c10⟩ := hSw; go_simp; try rfl
        try simp only [Act.put, List.getElem_toArray, List.getElem_cons_zero, List.setIfInBounds_toArray, List.set_cons_zero, List.set_cons_succ]
        refine wpAnyH_take (i := 1) (v := ?_) rfl (by kernel_rfl) (by kernel_rfl) (by kernel_rfl) (fun _ _ _ h => h) (Or.inl ⟨by rfl, ?_⟩) (by assumption) ?_
        case refine_2 => intro W hSw; obtain ⟨c0, c1, c2, c3, c4, c5, c6, c7, c8, c9, c10⟩ := hSw; go_simp; try rfl
        try simp only [Act.put, List.getElem_toArray, List.getElem_cons_zero, List.getElem_cons_succ, List.setIfInBounds_toArray, List.set_cons_zero, List.set_cons_succ]
        refine wpAnyH_take (i := 2) (v := ?_) rfl (by kernel_rfl) (by kernel_rfl) (by kernel_rfl) (fun _ _ _ h => h) (Or.inl ⟨by rfl, ?_⟩) (by assumption) ?_
        case refine_2 => intro W hSw; obtain ⟨c0, c1, c2, c3, c4, c5, c6, c7, c8, c9, c10⟩ := hSw; go_simp; try rfl
        try simp only [Act.put, List.getElem_toArray, List.getElem_cons_zero, List.getElem_cons_succ, List.setIfInBounds_toArray, List.set_cons_zero, List.set_cons_succ]
        refine wpAnyH_take (i := 3) (v := ?_) rfl (by kernel_rfl) (by kernel_rfl) (by kernel_rfl) (fun _ _ _ h => h) (Or.inl ⟨by rfl, ?_⟩) (by assumption) ?_
        case refine_2 => intro W hSw; obtain ⟨c0, c1, c2, c3, c4, c5, c6, c7, c8, c9, c10⟩ := hSw; go_simp; try rfl
        try simp only [Act.put, List.getElem_toArray, List.getElem_cons_zero, List.getElem_cons_succ, List.setIfInBounds_toArray, List.set_cons_zero, List.set_cons_succ]
        refine wpAnyH_take (i := 4) (v := ?_) rfl (by kernel_rfl) (by kernel_rfl) (by kernel_rfl) (fun _ _ _ h => h) (Or.inl ⟨by rfl, ?_⟩) (by assumption) ?_
        case refine_2 => intro W hSw; obtain ⟨c0, c1, c2, c3, c4, c5, c6, c7, c8, c9, c10⟩ := hSw; go_simp; try rfl
        try simp only [Act.put, List.getElem_toArray, List.getElem_cons_zero, List.getElem_cons_succ, List.setIfInBounds_toArray, List.set_cons_zero, List.set_cons_succ]
        refine wpAnyH_take (i := 7) (v := ?_) rfl (by kernel_rfl) (by kernel_rfl) (by kernel_rfl) (fun _ _ _ h => h) (Or.inl ⟨by rfl, ?_⟩) (by assumption) ?_
        case refine_2 => intro W hSw; obtain ⟨c0, c1, c2, c3, c4, c5, c6, c7, c8, c9, c10⟩ := hSw; go_simp; try rfl
        try simp only [Act.put, List.getElem_toArray, List.getElem_cons_zero, List.getElem_cons_succ, List.setIfInBounds_toArray, List.set_cons_zero, List.set_cons_succ]
        refine wpAnyH_take (i := 8) (v := ?_) rfl (by kernel_rfl) (by kernel_rfl) (by kernel_rfl) (fun _ _ _ h => h) (Or.inl ⟨by rfl, ?_⟩) (by assumption) ?_
        case refine_2 => intro W hSw; obtain ⟨c0, c1, c2, c3, c4, c5, c6, c7, c8, c9, c10⟩ := hSw; go_simp; try rfl
        try simp only [Act.put, List.getElem_toArray, List.getElem_cons_zero, List.getElem_cons_succ, List.setIfInBounds_toArray, List.set_cons_zero, List.set_cons_succ]
        refine wpAnyH_take (i := 11) (v := ?_) rfl (by kernel_rfl) (by kernel_rfl) (by kernel_rfl) (fun _ _ _ h => h) (Or.inl ⟨by rfl, ?_⟩) (by assumption) ?_
        case refine_2 => intro W hSw; obtain ⟨c0, c1, c2, c3, c4, c5, c6, c7, c8, c9, c10⟩ := hSw; go_simp; try rfl
        try simp only [Act.put, List.getElem_toArray, List.getElem_cons_zero, List.getElem_cons_succ, List.setIfInBounds_toArray, List.set_cons_zero, List.set_cons_succ]
        refine wpAnyH_take (i := 12) (v := ?_) rfl (by kernel_rfl) (by kernel_rfl) (by kernel_rfl) (fun _ _ _ h => h) (Or.inl ⟨by rfl, ?_⟩) (by assumption) ?_
        case refine_2 => intro W hSw; obtain ⟨c0, c1, c2, c3, c4, c5, c6, c7, c8, c9, c10⟩ := hSw; go_simp; try rfl
        try simp only [Act.put, List.getElem_toArray, List.getElem_cons_zero, List.getElem_cons_succ, List.setIfInBounds_toArray, List.set_cons_zero, List.set_cons_succ]
        refine wpAnyH_ready (rs := [5]) (by kernel_rfl) (by simp) ?_
        refine AllReadyH.cons rfl (fun K hK => ?_) AllReadyH.nil
        go_simp
        refine (rbig_any 4 pa.toNat 4 (IntKind.i64.wrap pa) rfl HWP.out (by decide) (by decide) (F6.out.lt (by decide)) wD).mono ?_
        rintro e pC0 ⟨rfl, ho1, hb1⟩
        have HEbC0 : Hid (EB w (s7 :: [s]) Hp pC0 zB1 (PC)) := HEaC0.out.next hb1
        have HSbC0 : Hid (∀ j (h : j < (big 4 pa.toNat).length), pC0.cell? ⟨wD.heap.size, j, none⟩ = some (.int .u8 ((big 4 pa.toNat)[j] : Int))) := fun j h => (ho1.cell h).1
        clear ho1 hb1 hHeld
        obtain ⟨gC0, hgC0⟩ : ∃ g, wD.heap.size = g := ⟨_, rfl⟩
        rw [hgC0] at HSbC0 ⊢
        clear hgC0
        go_wp2_with fail
        refine hK.out _ _ (HBOX.out _ _ _ HEbC0.out) (fun hHeld => ?_)
        clear hK K
        try simp only [Act.put, List.getElem_toArray, List.getElem_cons_zero, List.getElem_cons_succ, List.setIfInBounds_toArray, List.set_cons_zero, List.set_cons_succ]
        refine wpAnyH_ready (rs := [6]) (by kernel_rfl) (by simp) ?_
        refine AllReadyH.cons rfl (fun K hK => ?_) AllReadyH.nil
        refine step_appB rfl _ _ rfl w.heap.size zB1 (PC) (big 4 pa.toNat) gC0 4 4 pC0 rfl HEbC0.out.own rfl HSbC0.out (big_len _ _) (by simp []; omega) HEbC0.out.bel.size ?_
        intro zC0 qC0 ho1 hg1 hat1
        have HEaC1 : Hid (EB w (s7 :: [s]) Hp qC0 zC0 (PC ++ big 4 pa.toNat)) := HEbC0.out.grow ho1.out hg1.out hat1.out
        clear ho1 hg1 hat1 hHeld
        refine hK.out _ _ (HBOX.out _ _ _ HEaC1.out) (fun hHeld => ?_)
        clear hK K
        try simp only [Act.put, List.getElem_toArray, List.getElem_cons_zero, List.getElem_cons_succ, List.setIfInBounds_toArray, List.set_cons_zero, List.set_cons_succ]
        refine wpAnyH_ready (rs := [9]) (by kernel_rfl) (by simp) ?_
        refine AllReadyH.cons rfl (fun K hK => ?_) AllReadyH.nil
        go_simp
        refine (rbig_any 4 cs.toNat 4 cs rfl F7.out.cast (by decide) (by decide) (F7.out.lt (by decide)) qC0).mono ?_
        rintro e pC1 ⟨rfl, ho1, hb1⟩
        have HEbC1 : Hid (EB w (s7 :: [s]) Hp pC1 zC0 (PC ++ big 4 pa.toNat)) := HEaC1.out.next hb1
        have HSbC1 : Hid (∀ j (h : j < (big 4 cs.toNat).length), pC1.cell? ⟨qC0.heap.size, j, none⟩ = some (.int .u8 ((big 4 cs.toNat)[j] : Int))) := fun j h => (ho1.cell h).1
        clear ho1 hb1 hHeld
        obtain ⟨gC1, hgC1⟩ : ∃ g, qC0.heap.size = g := ⟨_, rfl⟩
        rw [hgC1] at HSbC1 ⊢
        clear hgC1
        go_wp2_with fail
        refine hK.out _ _ (HBOX.out _ _ _ HEbC1.out) (fun hHeld => ?_)
        clear hK K
        try simp only [Act.put, List.getElem_toArray, List.getElem_cons_zero, List.getElem_cons_succ, List.setIfInBounds_toArray, List.set_cons_zero, List.set_cons_succ]
        refine wpAnyH_ready (rs := [10]) (by kernel_rfl) (by simp) ?_
        refine AllReadyH.cons rfl (fun K hK => ?_) AllReadyH.nil
        refine step_appB rfl _ _ rfl w.heap.size zC0 (PC ++ big 4 pa.toNat) (big 4 cs.toNat) gC1 4 4 pC1 rfl HEbC1.out.own rfl HSbC1.out (big_len _ _) (by simp [big_len]; omega) HEbC1.out.bel.size ?_
        intro zC1 qC1 ho1 hg1 hat1
        have HEaC2 : Hid (EB w (s7 :: [s]) Hp qC1 zC1 (PC ++ big 4 pa.toNat ++ big 4 cs.toNat)) := HEbC1.out.grow ho1.out hg1.out hat1.out
        clear ho1 hg1 hat1 hHeld
        refine hK.out _ _ (HBOX.out _ _ _ HEaC2.out) (fun hHeld => ?_)
        clear hK K
        try simp only [Act.put, List.getElem_toArray, List.getElem_cons_zero, List.getElem_cons_succ, List.setIfInBounds_toArray, List.set_cons_zero, List.set_cons_succ]
        refine wpAnyH_ready (rs := [13]) (by kernel_rfl) (by simp) ?_
        refine AllReadyH.cons rfl (fun K hK => ?_) AllReadyH.nil
        go_simp
        refine (rbig_any 4 tg.toNat 4 tg rfl F8.out.cast (by decide) (by decide) (F8.out.lt (by decide)) qC1).mono ?_
        rintro e pC2 ⟨rfl, ho1, hb1⟩
        have HEbC2 : Hid (EB w (s7 :: [s]) Hp pC2 zC1 (PC ++ big 4 pa.toNat ++ big 4 cs.toNat)) := HEaC2.out.next hb1
        have HSbC2 : Hid (∀ j (h : j < (big 4 tg.toNat).length), pC2.cell? ⟨qC1.heap.size, j, none⟩ = some (.int .u8 ((big 4 tg.toNat)[j] : Int))) := fun j h => (ho1.cell h).1
        clear ho1 hb1 hHeld
        obtain ⟨gC2, hgC2⟩ : ∃ g, qC1.heap.size = g := ⟨_, rfl⟩
        rw [hgC2] at HSbC2 ⊢
        clear hgC2
        go_wp2_with fail
        refine hK.out _ _ (HBOX.out _ _ _ HEbC2.out) (fun hHeld => ?_)
        clear hK K
        try simp only [Act.put, List.getElem_toArray, List.getElem_cons_zero, List.getElem_cons_succ, List.setIfInBounds_toArray, List.set_cons_zero, List.set_cons_succ]
        refine wpAnyH_ready (rs := [14]) (by kernel_rfl) (by simp) ?_
        refine AllReadyH.cons rfl (fun K hK => ?_) AllReadyH.nil
        refine step_appB rfl _ _ rfl w.heap.size zC1 (PC ++ big 4 pa.toNat ++ big 4 cs.toNat) (big 4 tg.toNat) gC2 4 4 pC2 rfl HEbC2.out.own rfl HSbC2.out (big_len _ _) (by simp [big_len]; omega) HEbC2.out.bel.size ?_
        intro zC2 qC2 ho1 hg1 hat1
        have HEaC3 : Hid (EB w (s7 :: [s]) Hp qC2 zC2 (PC ++ big 4 pa.toNat ++ big 4 cs.toNat ++ big 4 tg.toNat)) := HEbC2.out.grow ho1.out hg1.out hat1.out
        clear ho1 hg1 hat1 hHeld
        refine hK.out _ _ (HBOX.out _ _ _ HEaC3.out) (fun hHeld => ?_)
        clear hK K
        try simp only [Act.put, List.getElem_toArray, List.getElem_cons_zero, List.getElem_cons_succ, List.setIfInBounds_toArray, List.set_cons_zero, List.set_cons_succ]
        refine wpAnyH_take (i := 15) (v := ?_) rfl (by kernel_rfl) (by kernel_rfl) (by kernel_rfl) (fun _ _ _ h => h) (Or.inl ⟨by rfl, ?_⟩) (by assumption) ?_
        case refine_2 => intro W hSw; obtain ⟨c0, c1, c2, c3, c4, c5, c6, c7, c8, c9, c10⟩ := hSw; go_simp; try rfl
        try simp only [Act.put, List.getElem_toArray, List.getElem_cons_zero, List.getElem_cons_succ, List.setIfInBounds_toArray, List.set_cons_zero, List.set_cons_succ]
        refine wpAnyH_done (by kernel_rfl) ?_ _
        clear hHeld
        obtain ⟨Q, hQ⟩ : ∃ q, P ++ encHd ⟨kd, ar, og, pa, pn, sq, ag, cs, tg, links, stubs⟩ = q := ⟨_, rfl⟩
        have HQ : Hid (P ++ encHd ⟨kd, ar, og, pa, pn, sq, ag, cs, tg, links, stubs⟩ = Q) := hQ
        have hlQ : Q.length ≤ 17000 := by rw [← hQ, List.length_append, encHd_len]; omega
        have HEQ : Hid (EB w (s7 :: [s]) Hp qC2 zC2 Q) := by
          have h1 := HEaC3.out
          rw [← HPC.out, ← HPB.out, ← HPA.out] at h1
          rw [← hQ]
          unfold encHd
          dsimp only
          rw [HN1.out, HN2.out]
          simp only [List.append_assoc] at h1 ⊢
          exact h1
        clear HEaC3 HPA HPB HPC hlA hlB hlC hQ
        obtain ⟨c0, c1, c2, c3, c4, c5, c6, c7, c8, c9, c10⟩ := HBOX.out _ _ _ HEQ.out
        go_wp2_with fail
        clear c0 c1 c2 c3 c4 c5 c6 c7 c8 c9 c10
        go_loopw [5, 79] (fun bv iv wr => ∃ j : Nat, j ≤ n1 ∧ iv = .int .i64 j ∧ EB w (s7 :: [s]) Hp wr bv (Q ++ (links.take j).flatMap encLk)) (fun _ i _ => n1 - (intOf i).toNat)
        case atStart => exact ⟨0, by omega, rfl, by rw [List.take_zero, List.flatMap_nil, List.append_nil]; exact HEQ.out⟩
        case round =>
          obtain ⟨j, hj, rfl, heb⟩ := hrel
          obtain ⟨bv, hbv⟩ : ∃ b, b = u5 := ⟨_, rfl⟩
          subst hbv
          have HEB : Hid (EB w (s7 :: [s]) Hp wr bv (Q ++ (links.take j).flatMap encLk)) := heb
          have hfl : (Q ++ (links.take j).flatMap encLk).length ≤ 19000 := by
            rw [List.length_append, flatLk_len, List.length_take]; omega
          clear heb HEQ
          by_cases hlt2 : j < n1
          · have hjd : j < links.length := by rw [HN1.out]; exact hlt2
            obtain ⟨b9, o9, rfl, -, e0, e1, e2⟩ := (HOX.out.bel HEB.out.bel).cells j hjd
            obtain ⟨g0, g1, g2⟩ := HLK.out _ (List.getElem_mem hjd)
            obtain ⟨⟨xa, xb, xc⟩, hxk⟩ : ∃ y, links[j] = y := ⟨_, rfl⟩
            rw [hxk] at e0 e1 e2 g0 g1 g2
            have HNJ : Hid ((links.take (j + 1)).flatMap encLk = (links.take j).flatMap encLk ++ encLk (xa, xb, xc)) := by
              show _ = _
              rw [List.take_succ_eq_append_getElem hjd, hxk, List.flatMap_append]; simp
            have G0 : Hid (Nt xa 32) := g0
            have G1 : Hid (Nt xb 16) := g1
            have G2 : Hid (Nt xc 16) := g2
            have HWX : Hid (((xa.toNat : Nat) : Int) = IntKind.i64.wrap xa) := by rw [Nt.wi g0 (by decide)]; exact g0.cast
            have hjj : (j : Int) < n1 := by omega
            have jj0 : (0 : Int) ≤ j := by omega
            clear hxk g0 g1 g2
            go_upto_region 15 with fail
            clear e0 e1 e2
            obtain ⟨w9, hw9⟩ : ∃ w9, wr.alloc (Obj.cells #[.int .i64 xa, .int .i64 xb, .int .i64 xc] 54) = w9 := ⟨_, rfl⟩
            obtain ⟨Hp9, he9, hHp9, hHo9⟩ := HEB.out.push (Obj.cells #[.int .i64 xa, .int .i64 xb, .int .i64 xc] 54)
            obtain ⟨s9, hs9⟩ : ∃ s, wr.heap.size = s := ⟨_, rfl⟩
            rw [hw9, hs9] at he9
            rw [hs9] at hHp9
            have HE9 : Hid (EB w (s9 :: (s7 :: [s])) Hp9 w9 bv (Q ++ (links.take j).flatMap encLk)) := he9
            have HHO9 : Hid (∀ b ∈ (s7 :: [s]), Hp9 b = Hp b) := hHo9
            have HB9 : Hid (∀ W bv bs, EB w (s9 :: (s7 :: [s])) Hp9 W bv bs → W.cell? ⟨s9, 0, none⟩ = some (.int .i64 xa) ∧ W.cell? ⟨s9, 1, none⟩ = some (.int .i64 xb) ∧ W.cell? ⟨s9, 2, none⟩ = some (.int .i64 xc)) := fun W bv bs h => cells3 ((h.keep s9 (by simp)).trans hHp9)
            rw [hw9, hs9]
            clear hw9 he9 hHp9 hHo9 HEB hs9
            obtain ⟨PL, hPL⟩ : ∃ p, Q ++ (links.take j).flatMap encLk = p := ⟨_, rfl⟩
            have HPL : Hid (Q ++ (links.take j).flatMap encLk = PL) := hPL
            have hlL : PL.length ≤ 20000 := by rw [← hPL]; first | omega | (simp [big_len]; omega) | (simp [big_len]; done)
            rw [hPL] at HE9
            clear hPL
            refine wp_region_held_drew (S := fun W => W.cell? ⟨s9, 0, none⟩ = some (.int .i64 xa) ∧ W.cell? ⟨s9, 1, none⟩ = some (.int .i64 xb) ∧ W.cell? ⟨s9, 2, none⟩ = some (.int .i64 xc)) (by kernel_rfl) (HB9.out _ _ _ (HE9.out.next (drew_bel _))) (fun hHeld => ?_)
            obtain ⟨wD, hwD⟩ : ∃ wD, w9.drew = wD := ⟨_, rfl⟩
            rw [hwD] at hHeld ⊢
            have HEaL0 : Hid (EB w (s9 :: (s7 :: [s])) Hp9 wD bv PL) := by rw [← hwD]; exact HE9.out.next (drew_bel _)
            clear hwD
            refine wpAnyH_take (i := 0) (v := ?_) rfl (by kernel_rfl) (by kernel_rfl) (by kernel_rfl) (fun _ _ _ h => h) (Or.inl ⟨by rfl, ?_⟩) (by assumption) ?_
            case refine_2 => intro W hSw; obtain ⟨c0, c1, c2⟩ := hSw; go_simp; try rfl
            try simp only [Act.put, List.getElem_toArray, List.getElem_cons_zero, List.setIfInBounds_toArray, List.set_cons_zero, List.set_cons_succ]
            refine wpAnyH_take (i := 1) (v := ?_) rfl (by kernel_rfl) (by kernel_rfl) (by kernel_rfl) (fun _ _ _ h => h) (Or.inl ⟨by rfl, ?_⟩) (by assumption) ?_
            case refine_2 => intro W hSw; obtain ⟨c0, c1, c2⟩ := hSw; go_simp; try rfl
            try simp only [Act.put, List.getElem_toArray, List.getElem_cons_zero, List.getElem_cons_succ, List.setIfInBounds_toArray, List.set_cons_zero, List.set_cons_succ]
            refine wpAnyH_take (i := 2) (v := ?_) rfl (by kernel_rfl) (by kernel_rfl) (by kernel_rfl) (fun _ _ _ h => h) (Or.inl ⟨by rfl, ?_⟩) (by assumption) ?_
            case refine_2 => intro W hSw; obtain ⟨c0, c1, c2⟩ := hSw; go_simp; try rfl
            try simp only [Act.put, List.getElem_toArray, List.getElem_cons_zero, List.getElem_cons_succ, List.setIfInBounds_toArray, List.set_cons_zero, List.set_cons_succ]
            refine wpAnyH_take (i := 5) (v := ?_) rfl (by kernel_rfl) (by kernel_rfl) (by kernel_rfl) (fun _ _ _ h => h) (Or.inl ⟨by rfl, ?_⟩) (by assumption) ?_
            case refine_2 => intro W hSw; obtain ⟨c0, c1, c2⟩ := hSw; go_simp; try rfl
            try simp only [Act.put, List.getElem_toArray, List.getElem_cons_zero, List.getElem_cons_succ, List.setIfInBounds_toArray, List.set_cons_zero, List.set_cons_succ]
            refine wpAnyH_take (i := 6) (v := ?_) rfl (by kernel_rfl) (by kernel_rfl) (by kernel_rfl) (fun _ _ _ h => h) (Or.inl ⟨by rfl, ?_⟩) (by assumption) ?_
            case refine_2 => intro W hSw; obtain ⟨c0, c1, c2⟩ := hSw; go_simp; try rfl
            try simp only [Act.put, List.getElem_toArray, List.getElem_cons_zero, List.getElem_cons_succ, List.setIfInBounds_toArray, List.set_cons_zero, List.set_cons_succ]
            refine wpAnyH_take (i := 9) (v := ?_) rfl (by kernel_rfl) (by kernel_rfl) (by kernel_rfl) (fun _ _ _ h => h) (Or.inl ⟨by rfl, ?_⟩) (by assumption) ?_
            case refine_2 => intro W hSw; obtain ⟨c0, c1, c2⟩ := hSw; go_simp; try rfl
            try simp only [Act.put, List.getElem_toArray, List.getElem_cons_zero, List.getElem_cons_succ, List.setIfInBounds_toArray, List.set_cons_zero, List.set_cons_succ]
            refine wpAnyH_take (i := 10) (v := ?_) rfl (by kernel_rfl) (by kernel_rfl) (by kernel_rfl) (fun _ _ _ h => h) (Or.inl ⟨by rfl, ?_⟩) (by assumption) ?_
            case refine_2 => intro W hSw; obtain ⟨c0, c1, c2⟩ := hSw; go_simp; try rfl
            try simp only [Act.put, List.getElem_toArray, List.getElem_cons_zero, List.getElem_cons_succ, List.setIfInBounds_toArray, List.set_cons_zero, List.set_cons_succ]
            refine wpAnyH_ready (rs := [3]) (by kernel_rfl) (by simp) ?_
            refine AllReadyH.cons rfl (fun K hK => ?_) AllReadyH.nil
            go_simp
            refine (rbig_any 4 xa.toNat 4 xa rfl G0.out.cast (by decide) (by decide) (G0.out.lt (by decide)) wD).mono ?_
            rintro e pL0 ⟨rfl, ho1, hb1⟩
            have HEbL0 : Hid (EB w (s9 :: (s7 :: [s])) Hp9 pL0 bv (PL)) := HEaL0.out.next hb1
            have HSbL0 : Hid (∀ j (h : j < (big 4 xa.toNat).length), pL0.cell? ⟨wD.heap.size, j, none⟩ = some (.int .u8 ((big 4 xa.toNat)[j] : Int))) := fun j h => (ho1.cell h).1
            clear ho1 hb1 hHeld
            obtain ⟨gL0, hgL0⟩ : ∃ g, wD.heap.size = g := ⟨_, rfl⟩
            rw [hgL0] at HSbL0 ⊢
            clear hgL0
            go_wp2_with fail
            refine hK.out _ _ (HB9.out _ _ _ HEbL0.out) (fun hHeld => ?_)
            clear hK K
            try simp only [Act.put, List.getElem_toArray, List.getElem_cons_zero, List.getElem_cons_succ, List.setIfInBounds_toArray, List.set_cons_zero, List.set_cons_succ]
            refine wpAnyH_ready (rs := [4]) (by kernel_rfl) (by simp) ?_
            refine AllReadyH.cons rfl (fun K hK => ?_) AllReadyH.nil
            refine step_appB rfl _ _ rfl w.heap.size bv (PL) (big 4 xa.toNat) gL0 4 4 pL0 rfl HEbL0.out.own rfl HSbL0.out (big_len _ _) (by simp []; omega) HEbL0.out.bel.size ?_
            intro zL0 qL0 ho1 hg1 hat1
            have HEaL1 : Hid (EB w (s9 :: (s7 :: [s])) Hp9 qL0 zL0 (PL ++ big 4 xa.toNat)) := HEbL0.out.grow ho1.out hg1.out hat1.out
            clear ho1 hg1 hat1 hHeld
            refine hK.out _ _ (HB9.out _ _ _ HEaL1.out) (fun hHeld => ?_)
            clear hK K
            try simp only [Act.put, List.getElem_toArray, List.getElem_cons_zero, List.getElem_cons_succ, List.setIfInBounds_toArray, List.set_cons_zero, List.set_cons_succ]
            refine wpAnyH_ready (rs := [7]) (by kernel_rfl) (by simp) ?_
            refine AllReadyH.cons rfl (fun K hK => ?_) AllReadyH.nil
            go_simp
            refine (rbig_any 2 xb.toNat 2 xb rfl G1.out.cast (by decide) (by decide) (G1.out.lt (by decide)) qL0).mono ?_
            rintro e pL1 ⟨rfl, ho1, hb1⟩
            have HEbL1 : Hid (EB w (s9 :: (s7 :: [s])) Hp9 pL1 zL0 (PL ++ big 4 xa.toNat)) := HEaL1.out.next hb1
            have HSbL1 : Hid (∀ j (h : j < (big 2 xb.toNat).length), pL1.cell? ⟨qL0.heap.size, j, none⟩ = some (.int .u8 ((big 2 xb.toNat)[j] : Int))) := fun j h => (ho1.cell h).1
            clear ho1 hb1 hHeld
            obtain ⟨gL1, hgL1⟩ : ∃ g, qL0.heap.size = g := ⟨_, rfl⟩
            rw [hgL1] at HSbL1 ⊢
            clear hgL1
            go_wp2_with fail
            refine hK.out _ _ (HB9.out _ _ _ HEbL1.out) (fun hHeld => ?_)
            clear hK K
            try simp only [Act.put, List.getElem_toArray, List.getElem_cons_zero, List.getElem_cons_succ, List.setIfInBounds_toArray, List.set_cons_zero, List.set_cons_succ]
            refine wpAnyH_ready (rs := [8]) (by kernel_rfl) (by simp) ?_
            refine AllReadyH.cons rfl (fun K hK => ?_) AllReadyH.nil
            refine step_appB rfl _ _ rfl w.heap.size zL0 (PL ++ big 4 xa.toNat) (big 2 xb.toNat) gL1 2 2 pL1 rfl HEbL1.out.own rfl HSbL1.out (big_len _ _) (by simp [big_len]; omega) HEbL1.out.bel.size ?_
            intro zL1 qL1 ho1 hg1 hat1
            have HEaL2 : Hid (EB w (s9 :: (s7 :: [s])) Hp9 qL1 zL1 (PL ++ big 4 xa.toNat ++ big 2 xb.toNat)) := HEbL1.out.grow ho1.out hg1.out hat1.out
            clear ho1 hg1 hat1 hHeld
            refine hK.out _ _ (HB9.out _ _ _ HEaL2.out) (fun hHeld => ?_)
            clear hK K
            try simp only [Act.put, List.getElem_toArray, List.getElem_cons_zero, List.getElem_cons_succ, List.setIfInBounds_toArray, List.set_cons_zero, List.set_cons_succ]
            refine wpAnyH_ready (rs := [11]) (by kernel_rfl) (by simp) ?_
            refine AllReadyH.cons rfl (fun K hK => ?_) AllReadyH.nil
            go_simp
            refine (rbig_any 2 xc.toNat 2 xc rfl G2.out.cast (by decide) (by decide) (G2.out.lt (by decide)) qL1).mono ?_
            rintro e pL2 ⟨rfl, ho1, hb1⟩
            have HEbL2 : Hid (EB w (s9 :: (s7 :: [s])) Hp9 pL2 zL1 (PL ++ big 4 xa.toNat ++ big 2 xb.toNat)) := HEaL2.out.next hb1
            have HSbL2 : Hid (∀ j (h : j < (big 2 xc.toNat).length), pL2.cell? ⟨qL1.heap.size, j, none⟩ = some (.int .u8 ((big 2 xc.toNat)[j] : Int))) := fun j h => (ho1.cell h).1
            clear ho1 hb1 hHeld
            obtain ⟨gL2, hgL2⟩ : ∃ g, qL1.heap.size = g := ⟨_, rfl⟩
            rw [hgL2] at HSbL2 ⊢
            clear hgL2
            go_wp2_with fail
            refine hK.out _ _ (HB9.out _ _ _ HEbL2.out) (fun hHeld => ?_)
            clear hK K
            try simp only [Act.put, List.getElem_toArray, List.getElem_cons_zero, List.getElem_cons_succ, List.setIfInBounds_toArray, List.set_cons_zero, List.set_cons_succ]
            refine wpAnyH_ready (rs := [12]) (by kernel_rfl) (by simp) ?_
            refine AllReadyH.cons rfl (fun K hK => ?_) AllReadyH.nil
            refine step_appB rfl _ _ rfl w.heap.size zL1 (PL ++ big 4 xa.toNat ++ big 2 xb.toNat) (big 2 xc.toNat) gL2 2 2 pL2 rfl HEbL2.out.own rfl HSbL2.out (big_len _ _) (by simp [big_len]; omega) HEbL2.out.bel.size ?_
            intro zL2 qL2 ho1 hg1 hat1
            have HEaL3 : Hid (EB w (s9 :: (s7 :: [s])) Hp9 qL2 zL2 (PL ++ big 4 xa.toNat ++ big 2 xb.toNat ++ big 2 xc.toNat)) := HEbL2.out.grow ho1.out hg1.out hat1.out
            clear ho1 hg1 hat1 hHeld
            refine hK.out _ _ (HB9.out _ _ _ HEaL3.out) (fun hHeld => ?_)
            clear hK K
            try simp only [Act.put, List.getElem_toArray, List.getElem_cons_zero, List.getElem_cons_succ, List.setIfInBounds_toArray, List.set_cons_zero, List.set_cons_succ]
            refine wpAnyH_take (i := 13) (v := ?_) rfl (by kernel_rfl) (by kernel_rfl) (by kernel_rfl) (fun _ _ _ h => h) (Or.inl ⟨by rfl, ?_⟩) (by assumption) ?_
            case refine_2 => intro W hSw; obtain ⟨c0, c1, c2⟩ := hSw; go_simp; try rfl
            try simp only [Act.put, List.getElem_toArray, List.getElem_cons_zero, List.getElem_cons_succ, List.setIfInBounds_toArray, List.set_cons_zero, List.set_cons_succ]
            refine wpAnyH_done (by kernel_rfl) ?_ _
            clear hHeld
            have HNN : Hid (EB w (s7 :: [s]) Hp qL2 zL2 (Q ++ (links.take (j + 1)).flatMap encLk)) := by
              have h1 := (HEaL3.out.pop).swap (fun b hb => (HHO9.out b hb).symm)
              rw [← HPL.out] at h1
              rw [HNJ.out]
              unfold encLk
              dsimp only
              simp only [List.append_assoc] at h1 ⊢
              exact h1
            go_wp2_with fail
            exact ⟨⟨j + 1, by omega, by simp, HNN.out⟩, by simp [intOf]; omega⟩
          · obtain rfl : n1 = j := by omega
            obtain ⟨Q2, hQ2⟩ : ∃ q, Q ++ links.flatMap encLk = q := ⟨_, rfl⟩
            have HQ2 : Hid (Q ++ links.flatMap encLk = Q2) := hQ2
            have HEQ2 : Hid (EB w (s7 :: [s]) Hp wr bv Q2) := by
              have h1 := HEB.out
              rw [List.take_of_length_le (by rw [HN1.out]; omega), hQ2] at h1
              exact h1
            have hlQ2 : Q2.length ≤ 18000 := by rw [← hQ2, List.length_append, flatLk_len, HN1.out]; omega
            obtain ⟨c0, c1, c2, c3, c4, c5, c6, c7, c8, c9, c10⟩ := HBOX.out _ _ _ HEQ2.out
            clear HEB hfl hQ2
            go_wp2_with fail
            clear c0 c1 c2 c3 c4 c5 c6 c7 c8 c9 c10
            go_loopw [5, 100] (fun bv iv wr => ∃ j : Nat, j ≤ n2 ∧ iv = .int .i64 j ∧ EB w (s7 :: [s]) Hp wr bv (Q2 ++ (stubs.take j).flatMap encSt)) (fun _ i _ => n2 - (intOf i).toNat)
            case atStart => exact ⟨0, by omega, rfl, by rw [List.take_zero, List.flatMap_nil, List.append_nil]; exact HEQ2.out⟩
            case round =>
              obtain ⟨j, hj, rfl, heb⟩ := hrel
              obtain ⟨bv, hbv⟩ : ∃ b, b = u5 := ⟨_, rfl⟩
              subst hbv
              have HEB : Hid (EB w (s7 :: [s]) Hp wr bv (Q2 ++ (stubs.take j).flatMap encSt)) := heb
              have hfl : (Q2 ++ (stubs.take j).flatMap encSt).length ≤ 19000 := by
                rw [List.length_append, flatSt_len, List.length_take]; omega
              clear heb HEQ2
              by_cases hlt2 : j < n2
              · have hjd : j < stubs.length := by rw [HN2.out]; exact hlt2
                obtain ⟨b9, o9, rfl, -, e0, e1, e2⟩ := (HOS.out.bel HEB.out.bel).cells j hjd
                obtain ⟨g0, g1, g2⟩ := HST.out _ (List.getElem_mem hjd)
                obtain ⟨⟨xa, xb, xc⟩, hxk⟩ : ∃ y, stubs[j] = y := ⟨_, rfl⟩
                rw [hxk] at e0 e1 e2 g0 g1 g2
                have HNJ : Hid ((stubs.take (j + 1)).flatMap encSt = (stubs.take j).flatMap encSt ++ encSt (xa, xb, xc)) := by
                  show _ = _
                  rw [List.take_succ_eq_append_getElem hjd, hxk, List.flatMap_append]; simp
                have G0 : Hid (Nt xa 32) := g0
                have G1 : Hid (Nt xb 8) := g1
                have G2 : Hid (Nt xc 16) := g2
                have HWX : Hid (((xa.toNat : Nat) : Int) = IntKind.i64.wrap xa) := by rw [Nt.wi g0 (by decide)]; exact g0.cast
                have hjj : (j : Int) < n2 := by omega
                have jj0 : (0 : Int) ≤ j := by omega
                clear hxk g0 g1 g2
                go_upto_region 20 with fail
                clear e0 e1 e2
                obtain ⟨w9, hw9⟩ : ∃ w9, wr.alloc (Obj.cells #[.int .u32 xa, .int .i64 xb, .int .i64 xc] 56) = w9 := ⟨_, rfl⟩
                obtain ⟨Hp9, he9, hHp9, hHo9⟩ := HEB.out.push (Obj.cells #[.int .u32 xa, .int .i64 xb, .int .i64 xc] 56)
                obtain ⟨s9, hs9⟩ : ∃ s, wr.heap.size = s := ⟨_, rfl⟩
                rw [hw9, hs9] at he9
                rw [hs9] at hHp9
                have HE9 : Hid (EB w (s9 :: (s7 :: [s])) Hp9 w9 bv (Q2 ++ (stubs.take j).flatMap encSt)) := he9
                have HHO9 : Hid (∀ b ∈ (s7 :: [s]), Hp9 b = Hp b) := hHo9
                have HB9 : Hid (∀ W bv bs, EB w (s9 :: (s7 :: [s])) Hp9 W bv bs → W.cell? ⟨s9, 0, none⟩ = some (.int .u32 xa) ∧ W.cell? ⟨s9, 1, none⟩ = some (.int .i64 xb) ∧ W.cell? ⟨s9, 2, none⟩ = some (.int .i64 xc)) := fun W bv bs h => cells3 ((h.keep s9 (by simp)).trans hHp9)
                rw [hw9, hs9]
                clear hw9 he9 hHp9 hHo9 HEB hs9
                obtain ⟨PS, hPS⟩ : ∃ p, Q2 ++ (stubs.take j).flatMap encSt = p := ⟨_, rfl⟩
                have HPS : Hid (Q2 ++ (stubs.take j).flatMap encSt = PS) := hPS
                have hlS : PS.length ≤ 20000 := by rw [← hPS]; first | omega | (simp [big_len]; omega) | (simp [big_len]; done)
                rw [hPS] at HE9
                clear hPS
                refine wp_region_held_drew (S := fun W => W.cell? ⟨s9, 0, none⟩ = some (.int .u32 xa) ∧ W.cell? ⟨s9, 1, none⟩ = some (.int .i64 xb) ∧ W.cell? ⟨s9, 2, none⟩ = some (.int .i64 xc)) (by kernel_rfl) (HB9.out _ _ _ (HE9.out.next (drew_bel _))) (fun hHeld => ?_)
                obtain ⟨wD, hwD⟩ : ∃ wD, w9.drew = wD := ⟨_, rfl⟩
                rw [hwD] at hHeld ⊢
                have HEaS0 : Hid (EB w (s9 :: (s7 :: [s])) Hp9 wD bv PS) := by rw [← hwD]; exact HE9.out.next (drew_bel _)
                clear hwD
                refine wpAnyH_take (i := 0) (v := ?_) rfl (by kernel_rfl) (by kernel_rfl) (by kernel_rfl) (fun _ _ _ h => h) (Or.inl ⟨by rfl, ?_⟩) (by assumption) ?_
                case refine_2 => intro W hSw; obtain ⟨c0, c1, c2⟩ := hSw; go_simp; try rfl
                try simp only [Act.put, List.getElem_toArray, List.getElem_cons_zero, List.setIfInBounds_toArray, List.set_cons_zero, List.set_cons_succ]
                refine wpAnyH_take (i := 1) (v := ?_) rfl (by kernel_rfl) (by kernel_rfl) (by kernel_rfl) (fun _ _ _ h => h) (Or.inl ⟨by rfl, ?_⟩) (by assumption) ?_
                case refine_2 => intro W hSw; obtain ⟨c0, c1, c2⟩ := hSw; go_simp; try rfl
                try simp only [Act.put, List.getElem_toArray, List.getElem_cons_zero, List.getElem_cons_succ, List.setIfInBounds_toArray, List.set_cons_zero, List.set_cons_succ]
                refine wpAnyH_take (i := 2) (v := ?_) rfl (by kernel_rfl) (by kernel_rfl) (by kernel_rfl) (fun _ _ _ h => h) (Or.inl ⟨by rfl, ?_⟩) (by assumption) ?_
                case refine_2 => intro W hSw; obtain ⟨c0, c1, c2⟩ := hSw; go_simp; try rfl
                try simp only [Act.put, List.getElem_toArray, List.getElem_cons_zero, List.getElem_cons_succ, List.setIfInBounds_toArray, List.set_cons_zero, List.set_cons_succ]
                refine wpAnyH_take (i := 3) (v := ?_) rfl (by kernel_rfl) (by kernel_rfl) (by kernel_rfl) (fun _ _ _ h => h) (Or.inl ⟨by rfl, ?_⟩) (by assumption) ?_
                case refine_2 => intro W hSw; obtain ⟨c0, c1, c2⟩ := hSw; go_simp; try rfl
                try simp only [Act.put, List.getElem_toArray, List.getElem_cons_zero, List.getElem_cons_succ, List.setIfInBounds_toArray, List.set_cons_zero, List.set_cons_succ]
                refine wpAnyH_take (i := 4) (v := ?_) rfl (by kernel_rfl) (by kernel_rfl) (by kernel_rfl) (fun _ _ _ h => h) (Or.inl ⟨by rfl, ?_⟩) (by assumption) ?_
                case refine_2 => intro W hSw; obtain ⟨c0, c1, c2⟩ := hSw; go_simp; try rfl
                try simp only [Act.put, List.getElem_toArray, List.getElem_cons_zero, List.getElem_cons_succ, List.setIfInBounds_toArray, List.set_cons_zero, List.set_cons_succ]
                refine wpAnyH_take (i := 7) (v := ?_) rfl (by kernel_rfl) (by kernel_rfl) (by kernel_rfl) (fun _ _ _ h => h) (Or.inl ⟨by rfl, ?_⟩) (by assumption) ?_
                case refine_2 => intro W hSw; obtain ⟨c0, c1, c2⟩ := hSw; go_simp; try rfl
                try simp only [Act.put, List.getElem_toArray, List.getElem_cons_zero, List.getElem_cons_succ, List.setIfInBounds_toArray, List.set_cons_zero, List.set_cons_succ]
                refine wpAnyH_take (i := 8) (v := ?_) rfl (by kernel_rfl) (by kernel_rfl) (by kernel_rfl) (fun _ _ _ h => h) (Or.inl ⟨by rfl, ?_⟩) (by assumption) ?_
                case refine_2 => intro W hSw; obtain ⟨c0, c1, c2⟩ := hSw; go_simp; try rfl
                try simp only [Act.put, List.getElem_toArray, List.getElem_cons_zero, List.getElem_cons_succ, List.setIfInBounds_toArray, List.set_cons_zero, List.set_cons_succ]
                refine wpAnyH_take (i := 9) (v := ?_) rfl (by kernel_rfl) (by kernel_rfl) (by kernel_rfl) (fun _ _ _ h => h) (Or.inl ⟨by rfl, ?_⟩) (by assumption) ?_
                case refine_2 => intro W hSw; obtain ⟨c0, c1, c2⟩ := hSw; go_simp; try rfl
                try simp only [Act.put, List.getElem_toArray, List.getElem_cons_zero, List.getElem_cons_succ, List.setIfInBounds_toArray, List.set_cons_zero, List.set_cons_succ]
                refine wpAnyH_take (i := 12) (v := ?_) rfl (by kernel_rfl) (by kernel_rfl) (by kernel_rfl) (fun _ _ _ h => h) (Or.inl ⟨by rfl, ?_⟩) (by assumption) ?_
                case refine_2 => intro W hSw; obtain ⟨c0, c1, c2⟩ := hSw; go_simp; try rfl
                try simp only [Act.put, List.getElem_toArray, List.getElem_cons_zero, List.getElem_cons_succ, List.setIfInBounds_toArray, List.set_cons_zero, List.set_cons_succ]
                refine wpAnyH_take (i := 13) (v := ?_) rfl (by kernel_rfl) (by kernel_rfl) (by kernel_rfl) (fun _ _ _ h => h) (Or.inl ⟨by rfl, ?_⟩) (by assumption) ?_
                case refine_2 => intro W hSw; obtain ⟨c0, c1, c2⟩ := hSw; go_simp; try rfl
                try simp only [Act.put, List.getElem_toArray, List.getElem_cons_zero, List.getElem_cons_succ, List.setIfInBounds_toArray, List.set_cons_zero, List.set_cons_succ]
                refine wpAnyH_ready (rs := [5]) (by kernel_rfl) (by simp) ?_
                refine AllReadyH.cons rfl (fun K hK => ?_) AllReadyH.nil
                go_simp
                refine (rbig_any 4 xa.toNat 4 (IntKind.i64.wrap xa) rfl HWX.out (by decide) (by decide) (G0.out.lt (by decide)) wD).mono ?_
                rintro e pS0 ⟨rfl, ho1, hb1⟩
                have HEbS0 : Hid (EB w (s9 :: (s7 :: [s])) Hp9 pS0 bv (PS)) := HEaS0.out.next hb1
                have HSbS0 : Hid (∀ j (h : j < (big 4 xa.toNat).length), pS0.cell? ⟨wD.heap.size, j, none⟩ = some (.int .u8 ((big 4 xa.toNat)[j] : Int))) := fun j h => (ho1.cell h).1
                clear ho1 hb1 hHeld
                obtain ⟨gS0, hgS0⟩ : ∃ g, wD.heap.size = g := ⟨_, rfl⟩
                rw [hgS0] at HSbS0 ⊢
                clear hgS0
                go_wp2_with fail
                refine hK.out _ _ (HB9.out _ _ _ HEbS0.out) (fun hHeld => ?_)
                clear hK K
                try simp only [Act.put, List.getElem_toArray, List.getElem_cons_zero, List.getElem_cons_succ, List.setIfInBounds_toArray, List.set_cons_zero, List.set_cons_succ]
                refine wpAnyH_ready (rs := [6]) (by kernel_rfl) (by simp) ?_
                refine AllReadyH.cons rfl (fun K hK => ?_) AllReadyH.nil
                refine step_appB rfl _ _ rfl w.heap.size bv (PS) (big 4 xa.toNat) gS0 4 4 pS0 rfl HEbS0.out.own rfl HSbS0.out (big_len _ _) (by simp []; omega) HEbS0.out.bel.size ?_
                intro zS0 qS0 ho1 hg1 hat1
                have HEaS1 : Hid (EB w (s9 :: (s7 :: [s])) Hp9 qS0 zS0 (PS ++ big 4 xa.toNat)) := HEbS0.out.grow ho1.out hg1.out hat1.out
                clear ho1 hg1 hat1 hHeld
                refine hK.out _ _ (HB9.out _ _ _ HEaS1.out) (fun hHeld => ?_)
                clear hK K
                try simp only [Act.put, List.getElem_toArray, List.getElem_cons_zero, List.getElem_cons_succ, List.setIfInBounds_toArray, List.set_cons_zero, List.set_cons_succ]
                refine wpAnyH_ready (rs := [10]) (by kernel_rfl) (by simp) ?_
                refine AllReadyH.cons rfl (fun K hK => ?_) AllReadyH.nil
                go_simp
                refine (rbig_any 1 xb.toNat 1 xb rfl G1.out.cast (by decide) (by decide) (G1.out.lt (by decide)) qS0).mono ?_
                rintro e pS1 ⟨rfl, ho1, hb1⟩
                have HEbS1 : Hid (EB w (s9 :: (s7 :: [s])) Hp9 pS1 zS0 (PS ++ big 4 xa.toNat)) := HEaS1.out.next hb1
                have HSbS1 : Hid (∀ j (h : j < (big 1 xb.toNat).length), pS1.cell? ⟨qS0.heap.size, j, none⟩ = some (.int .u8 ((big 1 xb.toNat)[j] : Int))) := fun j h => (ho1.cell h).1
                clear ho1 hb1 hHeld
                obtain ⟨gS1, hgS1⟩ : ∃ g, qS0.heap.size = g := ⟨_, rfl⟩
                rw [hgS1] at HSbS1 ⊢
                clear hgS1
                go_wp2_with fail
                refine hK.out _ _ (HB9.out _ _ _ HEbS1.out) (fun hHeld => ?_)
                clear hK K
                try simp only [Act.put, List.getElem_toArray, List.getElem_cons_zero, List.getElem_cons_succ, List.setIfInBounds_toArray, List.set_cons_zero, List.set_cons_succ]
                refine wpAnyH_ready (rs := [11]) (by kernel_rfl) (by simp) ?_
                refine AllReadyH.cons rfl (fun K hK => ?_) AllReadyH.nil
                refine step_appB rfl _ _ rfl w.heap.size zS0 (PS ++ big 4 xa.toNat) (big 1 xb.toNat) gS1 1 1 pS1 rfl HEbS1.out.own rfl HSbS1.out (big_len _ _) (by simp [big_len]; omega) HEbS1.out.bel.size ?_
                intro zS1 qS1 ho1 hg1 hat1
                have HEaS2 : Hid (EB w (s9 :: (s7 :: [s])) Hp9 qS1 zS1 (PS ++ big 4 xa.toNat ++ big 1 xb.toNat)) := HEbS1.out.grow ho1.out hg1.out hat1.out
                clear ho1 hg1 hat1 hHeld
                refine hK.out _ _ (HB9.out _ _ _ HEaS2.out) (fun hHeld => ?_)
                clear hK K
                try simp only [Act.put, List.getElem_toArray, List.getElem_cons_zero, List.getElem_cons_succ, List.setIfInBounds_toArray, List.set_cons_zero, List.set_cons_succ]
                refine wpAnyH_ready (rs := [14]) (by kernel_rfl) (by simp) ?_
                refine AllReadyH.cons rfl (fun K hK => ?_) AllReadyH.nil
                go_simp
                refine (rbig_any 2 xc.toNat 2 xc rfl G2.out.cast (by decide) (by decide) (G2.out.lt (by decide)) qS1).mono ?_
                rintro e pS2 ⟨rfl, ho1, hb1⟩
                have HEbS2 : Hid (EB w (s9 :: (s7 :: [s])) Hp9 pS2 zS1 (PS ++ big 4 xa.toNat ++ big 1 xb.toNat)) := HEaS2.out.next hb1
                have HSbS2 : Hid (∀ j (h : j < (big 2 xc.toNat).length), pS2.cell? ⟨qS1.heap.size, j, none⟩ = some (.int .u8 ((big 2 xc.toNat)[j] : Int))) := fun j h => (ho1.cell h).1
                clear ho1 hb1 hHeld
                obtain ⟨gS2, hgS2⟩ : ∃ g, qS1.heap.size = g := ⟨_, rfl⟩
                rw [hgS2] at HSbS2 ⊢
                clear hgS2
                go_wp2_with fail
                refine hK.out _ _ (HB9.out _ _ _ HEbS2.out) (fun hHeld => ?_)
                clear hK K
                try simp only [Act.put, List.getElem_toArray, List.getElem_cons_zero, List.getElem_cons_succ, List.setIfInBounds_toArray, List.set_cons_zero, List.set_cons_succ]
                refine wpAnyH_ready (rs := [15]) (by kernel_rfl) (by simp) ?_
                refine AllReadyH.cons rfl (fun K hK => ?_) AllReadyH.nil
                refine step_appB rfl _ _ rfl w.heap.size zS1 (PS ++ big 4 xa.toNat ++ big 1 xb.toNat) (big 2 xc.toNat) gS2 2 2 pS2 rfl HEbS2.out.own rfl HSbS2.out (big_len _ _) (by simp [big_len]; omega) HEbS2.out.bel.size ?_
                intro zS2 qS2 ho1 hg1 hat1
                have HEaS3 : Hid (EB w (s9 :: (s7 :: [s])) Hp9 qS2 zS2 (PS ++ big 4 xa.toNat ++ big 1 xb.toNat ++ big 2 xc.toNat)) := HEbS2.out.grow ho1.out hg1.out hat1.out
                clear ho1 hg1 hat1 hHeld
                refine hK.out _ _ (HB9.out _ _ _ HEaS3.out) (fun hHeld => ?_)
                clear hK K
                try simp only [Act.put, List.getElem_toArray, List.getElem_cons_zero, List.getElem_cons_succ, List.setIfInBounds_toArray, List.set_cons_zero, List.set_cons_succ]
                refine wpAnyH_take (i := 16) (v := ?_) rfl (by kernel_rfl) (by kernel_rfl) (by kernel_rfl) (fun _ _ _ h => h) (Or.inl ⟨by rfl, ?_⟩) (by assumption) ?_
                case refine_2 => intro W hSw; obtain ⟨c0, c1, c2⟩ := hSw; go_simp; try rfl
                try simp only [Act.put, List.getElem_toArray, List.getElem_cons_zero, List.getElem_cons_succ, List.setIfInBounds_toArray, List.set_cons_zero, List.set_cons_succ]
                refine wpAnyH_done (by kernel_rfl) ?_ _
                clear hHeld
                have HNN : Hid (EB w (s7 :: [s]) Hp qS2 zS2 (Q2 ++ (stubs.take (j + 1)).flatMap encSt)) := by
                  have h1 := (HEaS3.out.pop).swap (fun b hb => (HHO9.out b hb).symm)
                  rw [← HPS.out] at h1
                  rw [HNJ.out]
                  unfold encSt
                  dsimp only
                  simp only [List.append_assoc] at h1 ⊢
                  exact h1
                go_wp2_with fail
                exact ⟨⟨j + 1, by omega, by simp, HNN.out⟩, by simp [intOf]; omega⟩
              · obtain rfl : n2 = j := by omega
                have HFN : Hid (EB w [s] (fun b => w1.heap[b]?) wr bv ((xs.take (k + 1)).flatMap encL)) := by
                  have h1 := HEB.out
                  rw [List.take_of_length_le (by rw [HN2.out]; omega), ← HQ2.out, ← HQ.out] at h1
                  have h2 := h1.pop.swap (fun b hb => (HHO.out b hb).symm)
                  rw [HNX.out]
                  unfold encL
                  dsimp only
                  simp only [List.append_assoc] at h2 ⊢
                  exact h2
                clear HEB hfl
                go_wp2_with fail
                exact ⟨⟨k + 1, by omega, by simp, HFN.out⟩, by simp [intOf]; omega⟩
      · obtain rfl : L = k := by omega
        have heb := HEB.out
        rw [List.take_of_length_le (by rw [HLX.out]; omega)] at heb hflen
        obtain ⟨FL, hFL⟩ : ∃ p, xs.flatMap encL = p := ⟨_, rfl⟩
        have HFL : Hid (xs.flatMap encL = FL) := hFL
        rw [hFL] at heb hflen
        obtain ⟨va5, l5, c5, hv5⟩ := ownB_slice heb.own
        subst hv5
        have hl5 : l5 = FL.length := own_len heb.own
        have HL5 : Hid (FL.length = l5) := hl5.symm
        have HEF : Hid (EB w [s] (fun b => w1.heap[b]?) wr (.slice va5 l5 c5) FL) := heb
        have hsz : bytesOf 20 xs = 20 + FL.length := by rw [bytesOf_flat, hFL]
        have HSZE : Hid (bytesOf 20 xs = FL.length + 20) := by show _ = _; omega
        have HD2 : Hid ((if 4096 < 20 + l5 then ([], 6) else (encBody ⟨kind, frm, area, seen, xs⟩ ++ big 4 (crc 4294967295 (encBody ⟨kind, frm, area, seen, xs⟩)), 0)) = (bs, er)) := by
          have h1 := HD.out
          unfold encP at h1
          dsimp only at h1
          rw [if_neg (by rw [HKR.out.1]; decide), if_neg (by rw [HKR.out.2]; decide), hsz, ← hl5] at h1
          exact h1
        have HPW : Hid (∀ W bv bs, EB w [s] (fun b => w1.heap[b]?) W bv bs → PBox s kind frm area seen (.slice va L cap) W) := fun W bv bs h => pbox_of ((h.keep s (by simp)).trans HG1.out)
        have HPB : Hid (∀ W bv bs, EB w (s :: (Value.slice va5 l5 c5).ownBlock.toList) (fun b => wr.heap[b]?) W bv bs → PBox s kind frm area seen (.slice va L cap) W) := fun W bv bs h => pbox_of ((h.keep s (by simp)).trans ((HEF.out.keep s (by simp)).trans HG1.out))
        have hl16 : l5 ≤ 16000 := by omega
        clear heb hFL HEB hsz hl5 hflen
        by_cases h40 : 4096 < 20 + l5
        · have hd3 := HD2.out
          rw [if_pos h40] at hd3
          cases hd3
          have h40' : (4096 : Int) < (l5 : Int) + 20 := by omega
          have HBE : Hid (Below w.heap.size w wr) := HEF.out.bel
          go_wp2_with fail
          refine bodyPost_ret (v := .tuple #[.slice none 0 0, .int .i64 6]) (by simp [results, Try.results17, go_sem]) rfl ?_
          exact HERR.out _ _ HBE.out
        · have h40' : ¬ (4096 : Int) < (l5 : Int) + 20 := by omega
          obtain ⟨hr1, hr2, hr3, -, -⟩ := range_of HKR.out.2
          have hk3 : kind = 1 ∨ kind = 2 ∨ kind = 3 := by have := HKR.out.1; unfold isK at this; simpa using this
          have K1 : Hid (Nt frm 32) := nt32 (by omega) (by omega)
          have K2 : Hid (Nt area 16) := nt16 (by omega) (by omega)
          have K3 : Hid (Nt seen 32) := nt32 (by omega) (by omega)
          obtain ⟨a1, ha1⟩ : ∃ a, kind.toNat % 256 = a := ⟨_, rfl⟩
          obtain ⟨a2, ha2⟩ : ∃ a, L % 256 = a := ⟨_, rfl⟩
          have hu0 : IntKind.u8.wrap kind = (a1 : Int) := by rw [← ha1]; exact u8_wrap (by omega)
          have hu1 : IntKind.u8.wrap (L : Int) = (a2 : Int) := by rw [IntKind.wrap_u8]; omega
          have HSZ : Hid (((FL.length + 20 : Nat) : Int) = (l5 : Int) + 20) := by show _ = _; rw [HL5.out]; omega
          have HA : Hid ([87, 70, a1, a2] = big 2 22342 ++ big 1 kind.toNat ++ big 1 L) := by show _ = _; rw [← ha1, ← ha2, big_one, big_one]; rfl
          clear ha1 ha2 hk3
          go_upto_region 25 with fail
          have hwl : IntKind.i64.wrap ((l5 : Int) + 20) = (l5 : Int) + 20 := by rw [IntWalk.i64_in _ (by omega)]
          go_cut [12] from 13 to 160 (fun ov wx => ∃ oa ol oc, ov = .slice oa ol oc ∧ EB w (s :: (Value.slice va5 l5 c5).ownBlock.toList) (fun b => wr.heap[b]?) wx (.slice oa ol oc) ([87, 70, a1, a2] ++ big 2 (FL.length + 20)))
          case first =>
            refine wp_region_held_drew (S := fun W => PBox s kind frm area seen (.slice va L cap) W) (by kernel_rfl) (HPW.out _ _ _ (HEF.out.next (drew_bel _))) (fun hHeld => ?_)
            obtain ⟨wD, hwD⟩ : ∃ wD, wr.drew = wD := ⟨_, rfl⟩
            rw [hwD] at hHeld ⊢
            have HED : Hid (EB w [s] (fun b => w1.heap[b]?) wD (.slice va5 l5 c5) FL) := by rw [← hwD]; exact HEF.out.next (drew_bel _)
            have HWwD : Hid (Below wr.heap.size wr wD) := by rw [← hwD]; exact drew_bel wr
            clear hwD
            refine wpAnyH_take (i := 0) (v := ?_) rfl (by kernel_rfl) (by kernel_rfl) (by kernel_rfl) (fun _ _ _ h => h) (Or.inl ⟨by rfl, ?_⟩) (by assumption) ?_
            case refine_2 => intro W hSw; obtain ⟨c0, c1, c2, c3, c4⟩ := hSw; go_simp; try rfl
            try simp only [Act.put, List.getElem_toArray, List.getElem_cons_zero, List.setIfInBounds_toArray, List.set_cons_zero, List.set_cons_succ]
            refine wpAnyH_take (i := 1) (v := ?_) rfl (by kernel_rfl) (by kernel_rfl) (by kernel_rfl) (fun _ _ _ h => h) (Or.inl ⟨by rfl, ?_⟩) (by assumption) ?_
            case refine_2 => intro W hSw; obtain ⟨c0, c1, c2, c3, c4⟩ := hSw; go_simp; try rfl
            try simp only [Act.put, List.getElem_toArray, List.getElem_cons_zero, List.getElem_cons_succ, List.setIfInBounds_toArray, List.set_cons_zero, List.set_cons_succ]
            refine wpAnyH_take (i := 2) (v := ?_) rfl (by kernel_rfl) (by kernel_rfl) (by kernel_rfl) (fun _ _ _ h => h) (Or.inl ⟨by rfl, ?_⟩) (by assumption) ?_
            case refine_2 => intro W hSw; obtain ⟨c0, c1, c2, c3, c4⟩ := hSw; go_simp; try rfl
            try simp only [Act.put, List.getElem_toArray, List.getElem_cons_zero, List.getElem_cons_succ, List.setIfInBounds_toArray, List.set_cons_zero, List.set_cons_succ]
            refine wpAnyH_take (i := 3) (v := ?_) rfl (by kernel_rfl) (by kernel_rfl) (by kernel_rfl) (fun _ _ _ h => h) (Or.inl ⟨by rfl, ?_⟩) (by assumption) ?_
            case refine_2 => intro W hSw; obtain ⟨c0, c1, c2, c3, c4⟩ := hSw; go_simp; try rfl
            try simp only [Act.put, List.getElem_toArray, List.getElem_cons_zero, List.getElem_cons_succ, List.setIfInBounds_toArray, List.set_cons_zero, List.set_cons_succ]
            refine wpAnyH_take (i := 4) (v := ?_) rfl (by kernel_rfl) (by kernel_rfl) (by kernel_rfl) (fun _ _ _ h => h) (Or.inl ⟨by rfl, ?_⟩) (by assumption) ?_
            case refine_2 => intro W hSw; obtain ⟨c0, c1, c2, c3, c4⟩ := hSw; go_simp; try rfl
            try simp only [Act.put, List.getElem_toArray, List.getElem_cons_zero, List.getElem_cons_succ, List.setIfInBounds_toArray, List.set_cons_zero, List.set_cons_succ]
            refine wpAnyH_take (i := 5) (v := ?_) rfl (by kernel_rfl) (by kernel_rfl) (by kernel_rfl) (fun _ _ _ h => h) (Or.inl ⟨by rfl, ?_⟩) (by assumption) ?_
            case refine_2 => intro W hSw; obtain ⟨c0, c1, c2, c3, c4⟩ := hSw; go_simp; try rfl
            try simp only [Act.put, List.getElem_toArray, List.getElem_cons_zero, List.getElem_cons_succ, List.setIfInBounds_toArray, List.set_cons_zero, List.set_cons_succ]
            refine wpAnyH_take (i := 6) (v := ?_) rfl (by kernel_rfl) (by kernel_rfl) (by kernel_rfl) (fun _ _ _ h => h) (Or.inl ⟨by rfl, ?_⟩) (by assumption) ?_
            case refine_2 => intro W hSw; obtain ⟨c0, c1, c2, c3, c4⟩ := hSw; go_simp; try rfl
            try simp only [Act.put, List.getElem_toArray, List.getElem_cons_zero, List.getElem_cons_succ, List.setIfInBounds_toArray, List.set_cons_zero, List.set_cons_succ]
            refine wpAnyH_take (i := 8) (v := ?_) rfl (by kernel_rfl) (by kernel_rfl) (by kernel_rfl) (fun _ _ _ h => h) (Or.inl ⟨by rfl, ?_⟩) (by assumption) ?_
            case refine_2 => intro W hSw; obtain ⟨c0, c1, c2, c3, c4⟩ := hSw; go_simp; try rfl
            try simp only [Act.put, List.getElem_toArray, List.getElem_cons_zero, List.getElem_cons_succ, List.setIfInBounds_toArray, List.set_cons_zero, List.set_cons_succ]
            refine wpAnyH_take (i := 9) (v := ?_) rfl (by kernel_rfl) (by kernel_rfl) (by kernel_rfl) (fun _ _ _ h => h) (Or.inl ⟨by rfl, ?_⟩) (by assumption) ?_
            case refine_2 => intro W hSw; obtain ⟨c0, c1, c2, c3, c4⟩ := hSw; go_simp; try rfl
            try simp only [Act.put, List.getElem_toArray, List.getElem_cons_zero, List.getElem_cons_succ, List.setIfInBounds_toArray, List.set_cons_zero, List.set_cons_succ]
            refine wpAnyH_take (i := 10) (v := ?_) rfl (by kernel_rfl) (by kernel_rfl) (by kernel_rfl) (fun _ _ _ h => h) (Or.inl ⟨by rfl, ?_⟩) (by assumption) ?_
            case refine_2 => intro W hSw; obtain ⟨c0, c1, c2, c3, c4⟩ := hSw; go_simp; try rfl
            try simp only [Act.put, List.getElem_toArray, List.getElem_cons_zero, List.getElem_cons_succ, List.setIfInBounds_toArray, List.set_cons_zero, List.set_cons_succ]
            refine wpAnyH_ready (rs := [7, 11]) (by kernel_rfl) (by simp) ?_
            refine AllReadyH.cons rfl (fun K hK => ?_) (AllReadyH.cons rfl (fun K hK => ?_) AllReadyH.nil)
            · go_simp
              obtain ⟨x1, hx1⟩ : ∃ x, wD.alloc (Obj.cells #[.int .u8 ((87 : Nat) : Int), .int .u8 ((70 : Nat) : Int), .int .u8 (a1 : Int), .int .u8 (a2 : Int)] 5) = x := ⟨_, rfl⟩
              have HOx1 : Hid (EB w (s :: (Value.slice va5 l5 c5).ownBlock.toList) (fun b => wr.heap[b]?) x1 (.slice (some ⟨wD.heap.size, 0, none⟩) 4 4) [87, 70, a1, a2]) := by rw [← hx1]; exact HED.out.four HWwD.out HEF.out
              have HWx1 : Hid (Below wr.heap.size wr x1) := by rw [← hx1]; exact HWwD.out.alloc HWwD.out.size _
              obtain ⟨g7, hg7⟩ : ∃ g, wD.heap.size = g := ⟨_, rfl⟩
              rw [hg7] at HOx1
              rw [show wD.alloc (Obj.cells #[.int .u8 87, .int .u8 70, .int .u8 (a1 : Int), .int .u8 (a2 : Int)] 5) = x1 from hx1, hg7]
              clear hx1 hg7 hHeld
              refine hK.out _ _ (HPB.out _ _ _ HOx1.out) (fun hHeld => ?_)
              clear hK K
              try simp only [Act.put, List.getElem_toArray, List.getElem_cons_zero, List.getElem_cons_succ, List.setIfInBounds_toArray, List.set_cons_zero, List.set_cons_succ]
              refine wpAnyH_ready (rs := [11]) (by kernel_rfl) (by simp) ?_
              refine AllReadyH.cons rfl (fun K hK => ?_) AllReadyH.nil
              go_simp
              refine (rbig_any 2 (FL.length + 20) 2 ((l5 : Int) + 20) rfl HSZ.out (by decide) (by decide) (by rw [HL5.out]; omega) x1).mono ?_
              rintro e x2 ⟨rfl, ho1, hb1⟩
              have HWx2 : Hid (Below wr.heap.size wr x2) := HWx1.out.trans (hb1.mono HWx1.out.size)
              have HOx2 : Hid (EB w (s :: (Value.slice va5 l5 c5).ownBlock.toList) (fun b => wr.heap[b]?) x2 (.slice (some ⟨g7, 0, none⟩) 4 4) [87, 70, a1, a2]) := HOx1.out.next hb1
              have HSR : Hid (∀ j (h : j < (big 2 (FL.length + 20)).length), x2.cell? ⟨x1.heap.size, j, none⟩ = some (.int .u8 ((big 2 (FL.length + 20))[j] : Int))) := fun j h => (ho1.cell h).1
              obtain ⟨g8, hg8⟩ : ∃ g, x1.heap.size = g := ⟨_, rfl⟩
              rw [hg8] at HSR ⊢
              clear ho1 hb1 hg8 hHeld
              go_wp2_with fail
              refine hK.out _ _ (HPB.out _ _ _ HOx2.out) (fun hHeld => ?_)
              clear hK K
              try simp only [Act.put, List.getElem_toArray, List.getElem_cons_zero, List.getElem_cons_succ, List.setIfInBounds_toArray, List.set_cons_zero, List.set_cons_succ]
              refine wpAnyH_ready (rs := [12]) (by kernel_rfl) (by simp) ?_
              refine AllReadyH.cons rfl (fun K hK => ?_) AllReadyH.nil
              refine step_appB rfl _ _ rfl w.heap.size (.slice (some ⟨g7, 0, none⟩) 4 4) [87, 70, a1, a2] (big 2 (FL.length + 20)) g8 2 2 x2 rfl HOx2.out.own rfl HSR.out (big_len _ _) (by simp) HOx2.out.bel.size ?_
              intro ov x9 ho1 hg1 hat1
              have HOx9 : Hid (EB w (s :: (Value.slice va5 l5 c5).ownBlock.toList) (fun b => wr.heap[b]?) x9 ov ([87, 70, a1, a2] ++ big 2 (FL.length + 20))) := HOx2.out.grow ho1.out hg1.out hat1.out
              clear ho1 hg1 hat1 hHeld
              refine hK.out _ _ (HPB.out _ _ _ HOx9.out) (fun hHeld => ?_)
              clear hK K
              try simp only [Act.put, List.getElem_toArray, List.getElem_cons_zero, List.getElem_cons_succ, List.setIfInBounds_toArray, List.set_cons_zero, List.set_cons_succ]
              refine wpAnyH_take (i := 13) (v := ?_) rfl (by kernel_rfl) (by kernel_rfl) (by kernel_rfl) (fun _ _ _ h => h) (Or.inl ⟨by rfl, ?_⟩) (by assumption) ?_
              case refine_2 => intro W hSw; obtain ⟨c0, c1, c2, c3, c4⟩ := hSw; go_simp; try rfl
              try simp only [Act.put, List.getElem_toArray, List.getElem_cons_zero, List.getElem_cons_succ, List.setIfInBounds_toArray, List.set_cons_zero, List.set_cons_succ]
              refine wpAnyH_done (by kernel_rfl) ?_ _
              clear hHeld
              go_wp2_with fail
              go_meet
              obtain ⟨oa, ol, oc, hov⟩ := ownB_slice HOx9.out.own
              subst hov
              exact ⟨oa, ol, oc, rfl, HOx9.out⟩
            · go_simp
              refine (rbig_any 2 (FL.length + 20) 2 ((l5 : Int) + 20) rfl HSZ.out (by decide) (by decide) (by rw [HL5.out]; omega) wD).mono ?_
              rintro e x1 ⟨rfl, ho1, hb1⟩
              have HWx1 : Hid (Below wr.heap.size wr x1) := HWwD.out.trans (hb1.mono HWwD.out.size)
              have HEx1 : Hid (EB w [s] (fun b => w1.heap[b]?) x1 (.slice va5 l5 c5) FL) := HED.out.next hb1
              have HSR0 : Hid (∀ j (h : j < (big 2 (FL.length + 20)).length), x1.cell? ⟨wD.heap.size, j, none⟩ = some (.int .u8 ((big 2 (FL.length + 20))[j] : Int))) := fun j h => (ho1.cell h).1
              obtain ⟨g8, hg8⟩ : ∃ g, wD.heap.size = g := ⟨_, rfl⟩
              rw [hg8] at HSR0 ⊢
              clear ho1 hb1 hg8 hHeld
              go_wp2_with fail
              refine hK.out _ _ (HPW.out _ _ _ HEx1.out) (fun hHeld => ?_)
              clear hK K
              try simp only [Act.put, List.getElem_toArray, List.getElem_cons_zero, List.getElem_cons_succ, List.setIfInBounds_toArray, List.set_cons_zero, List.set_cons_succ]
              refine wpAnyH_ready (rs := [7]) (by kernel_rfl) (by simp) ?_
              refine AllReadyH.cons rfl (fun K hK => ?_) AllReadyH.nil
              go_simp
              obtain ⟨x2, hx2⟩ : ∃ x, x1.alloc (Obj.cells #[.int .u8 ((87 : Nat) : Int), .int .u8 ((70 : Nat) : Int), .int .u8 (a1 : Int), .int .u8 (a2 : Int)] 5) = x := ⟨_, rfl⟩
              have HOx2 : Hid (EB w (s :: (Value.slice va5 l5 c5).ownBlock.toList) (fun b => wr.heap[b]?) x2 (.slice (some ⟨x1.heap.size, 0, none⟩) 4 4) [87, 70, a1, a2]) := by rw [← hx2]; exact HEx1.out.four HWx1.out HEF.out
              have HSR : Hid (∀ j (h : j < (big 2 (FL.length + 20)).length), x2.cell? ⟨g8, j, none⟩ = some (.int .u8 ((big 2 (FL.length + 20))[j] : Int))) := fun j h => by rw [← hx2]; exact cell_bel (HSR0.out j h) ((Below.refl _ x1).alloc (Nat.le_refl _) _)
              obtain ⟨g7, hg7⟩ : ∃ g, x1.heap.size = g := ⟨_, rfl⟩
              rw [hg7] at HOx2
              rw [show x1.alloc (Obj.cells #[.int .u8 87, .int .u8 70, .int .u8 (a1 : Int), .int .u8 (a2 : Int)] 5) = x2 from hx2, hg7]
              clear hx2 hg7 hHeld
              refine hK.out _ _ (HPB.out _ _ _ HOx2.out) (fun hHeld => ?_)
              clear hK K
              try simp only [Act.put, List.getElem_toArray, List.getElem_cons_zero, List.getElem_cons_succ, List.setIfInBounds_toArray, List.set_cons_zero, List.set_cons_succ]
              refine wpAnyH_ready (rs := [12]) (by kernel_rfl) (by simp) ?_
              refine AllReadyH.cons rfl (fun K hK => ?_) AllReadyH.nil
              refine step_appB rfl _ _ rfl w.heap.size (.slice (some ⟨g7, 0, none⟩) 4 4) [87, 70, a1, a2] (big 2 (FL.length + 20)) g8 2 2 x2 rfl HOx2.out.own rfl HSR.out (big_len _ _) (by simp) HOx2.out.bel.size ?_
              intro ov x9 ho1 hg1 hat1
              have HOx9 : Hid (EB w (s :: (Value.slice va5 l5 c5).ownBlock.toList) (fun b => wr.heap[b]?) x9 ov ([87, 70, a1, a2] ++ big 2 (FL.length + 20))) := HOx2.out.grow ho1.out hg1.out hat1.out
              clear ho1 hg1 hat1 hHeld
              refine hK.out _ _ (HPB.out _ _ _ HOx9.out) (fun hHeld => ?_)
              clear hK K
              try simp only [Act.put, List.getElem_toArray, List.getElem_cons_zero, List.getElem_cons_succ, List.setIfInBounds_toArray, List.set_cons_zero, List.set_cons_succ]
              refine wpAnyH_take (i := 13) (v := ?_) rfl (by kernel_rfl) (by kernel_rfl) (by kernel_rfl) (fun _ _ _ h => h) (Or.inl ⟨by rfl, ?_⟩) (by assumption) ?_
              case refine_2 => intro W hSw; obtain ⟨c0, c1, c2, c3, c4⟩ := hSw; go_simp; try rfl
              try simp only [Act.put, List.getElem_toArray, List.getElem_cons_zero, List.getElem_cons_succ, List.setIfInBounds_toArray, List.set_cons_zero, List.set_cons_succ]
              refine wpAnyH_done (by kernel_rfl) ?_ _
              clear hHeld
              go_wp2_with fail
              go_meet
              obtain ⟨oa, ol, oc, hov⟩ := ownB_slice HOx9.out.own
              subst hov
              exact ⟨oa, ol, oc, rfl, HOx9.out⟩
          case rest =>
            obtain ⟨oa, ol, oc, rfl, hcu⟩ := hcut
            have HOC : Hid (EB w (s :: (Value.slice va5 l5 c5).ownBlock.toList) (fun b => wr.heap[b]?) wc (.slice oa ol oc) ([87, 70, a1, a2] ++ big 2 (FL.length + 20))) := hcu
            clear hcu
            go_wp2_with fail
            obtain ⟨PZ, hPZ⟩ : ∃ p, [87, 70, a1, a2] ++ big 2 (FL.length + 20) = p := ⟨_, rfl⟩
            have HPZ : Hid ([87, 70, a1, a2] ++ big 2 (FL.length + 20) = PZ) := hPZ
            have hlZ : PZ.length ≤ 20000 := by rw [← hPZ]; first | omega | (simp [big_len]; omega) | (simp [big_len]; done)
            rw [hPZ] at HOC
            clear hPZ
            refine wp_region_held_drew (S := fun W => PBox s kind frm area seen (.slice va L cap) W) (by kernel_rfl) (HPB.out _ _ _ (HOC.out.next (drew_bel _))) (fun hHeld => ?_)
            obtain ⟨wD, hwD⟩ : ∃ wD, wc.drew = wD := ⟨_, rfl⟩
            rw [hwD] at hHeld ⊢
            have HEaZ0 : Hid (EB w (s :: (Value.slice va5 l5 c5).ownBlock.toList) (fun b => wr.heap[b]?) wD (.slice oa ol oc) PZ) := by rw [← hwD]; exact HOC.out.next (drew_bel _)
            clear hwD
            refine wpAnyH_take (i := 0) (v := ?_) rfl (by kernel_rfl) (by kernel_rfl) (by kernel_rfl) (fun _ _ _ h => h) (Or.inl ⟨by rfl, ?_⟩) (by assumption) ?_
            case refine_2 => intro W hSw; obtain ⟨c0, c1, c2, c3, c4⟩ := hSw; go_simp; try rfl
            try simp only [Act.put, List.getElem_toArray, List.getElem_cons_zero, List.setIfInBounds_toArray, List.set_cons_zero, List.set_cons_succ]
            refine wpAnyH_take (i := 1) (v := ?_) rfl (by kernel_rfl) (by kernel_rfl) (by kernel_rfl) (fun _ _ _ h => h) (Or.inl ⟨by rfl, ?_⟩) (by assumption) ?_
            case refine_2 => intro W hSw; obtain ⟨c0, c1, c2, c3, c4⟩ := hSw; go_simp; try rfl
            try simp only [Act.put, List.getElem_toArray, List.getElem_cons_zero, List.getElem_cons_succ, List.setIfInBounds_toArray, List.set_cons_zero, List.set_cons_succ]
            refine wpAnyH_take (i := 2) (v := ?_) rfl (by kernel_rfl) (by kernel_rfl) (by kernel_rfl) (fun _ _ _ h => h) (Or.inl ⟨by rfl, ?_⟩) (by assumption) ?_
            case refine_2 => intro W hSw; obtain ⟨c0, c1, c2, c3, c4⟩ := hSw; go_simp; try rfl
            try simp only [Act.put, List.getElem_toArray, List.getElem_cons_zero, List.getElem_cons_succ, List.setIfInBounds_toArray, List.set_cons_zero, List.set_cons_succ]
            refine wpAnyH_take (i := 5) (v := ?_) rfl (by kernel_rfl) (by kernel_rfl) (by kernel_rfl) (fun _ _ _ h => h) (Or.inl ⟨by rfl, ?_⟩) (by assumption) ?_
            case refine_2 => intro W hSw; obtain ⟨c0, c1, c2, c3, c4⟩ := hSw; go_simp; try rfl
            try simp only [Act.put, List.getElem_toArray, List.getElem_cons_zero, List.getElem_cons_succ, List.setIfInBounds_toArray, List.set_cons_zero, List.set_cons_succ]
            refine wpAnyH_take (i := 6) (v := ?_) rfl (by kernel_rfl) (by kernel_rfl) (by kernel_rfl) (fun _ _ _ h => h) (Or.inl ⟨by rfl, ?_⟩) (by assumption) ?_
            case refine_2 => intro W hSw; obtain ⟨c0, c1, c2, c3, c4⟩ := hSw; go_simp; try rfl
            try simp only [Act.put, List.getElem_toArray, List.getElem_cons_zero, List.getElem_cons_succ, List.setIfInBounds_toArray, List.set_cons_zero, List.set_cons_succ]
            refine wpAnyH_take (i := 9) (v := ?_) rfl (by kernel_rfl) (by kernel_rfl) (by kernel_rfl) (fun _ _ _ h => h) (Or.inl ⟨by rfl, ?_⟩) (by assumption) ?_
            case refine_2 => intro W hSw; obtain ⟨c0, c1, c2, c3, c4⟩ := hSw; go_simp; try rfl
            try simp only [Act.put, List.getElem_toArray, List.getElem_cons_zero, List.getElem_cons_succ, List.setIfInBounds_toArray, List.set_cons_zero, List.set_cons_succ]
            refine wpAnyH_take (i := 10) (v := ?_) rfl (by kernel_rfl) (by kernel_rfl) (by kernel_rfl) (fun _ _ _ h => h) (Or.inl ⟨by rfl, ?_⟩) (by assumption) ?_
            case refine_2 => intro W hSw; obtain ⟨c0, c1, c2, c3, c4⟩ := hSw; go_simp; try rfl
            try simp only [Act.put, List.getElem_toArray, List.getElem_cons_zero, List.getElem_cons_succ, List.setIfInBounds_toArray, List.set_cons_zero, List.set_cons_succ]
            refine wpAnyH_ready (rs := [3]) (by kernel_rfl) (by simp) ?_
            refine AllReadyH.cons rfl (fun K hK => ?_) AllReadyH.nil
            go_simp
            refine (rbig_any 2 area.toNat 2 area rfl K2.out.cast (by decide) (by decide) (K2.out.lt (by decide)) wD).mono ?_
            rintro e pZ0 ⟨rfl, ho1, hb1⟩
            have HEbZ0 : Hid (EB w (s :: (Value.slice va5 l5 c5).ownBlock.toList) (fun b => wr.heap[b]?) pZ0 (.slice oa ol oc) (PZ)) := HEaZ0.out.next hb1
            have HSbZ0 : Hid (∀ j (h : j < (big 2 area.toNat).length), pZ0.cell? ⟨wD.heap.size, j, none⟩ = some (.int .u8 ((big 2 area.toNat)[j] : Int))) := fun j h => (ho1.cell h).1
            clear ho1 hb1 hHeld
            obtain ⟨gZ0, hgZ0⟩ : ∃ g, wD.heap.size = g := ⟨_, rfl⟩
            rw [hgZ0] at HSbZ0 ⊢
            clear hgZ0
            go_wp2_with fail
            refine hK.out _ _ (HPB.out _ _ _ HEbZ0.out) (fun hHeld => ?_)
            clear hK K
            try simp only [Act.put, List.getElem_toArray, List.getElem_cons_zero, List.getElem_cons_succ, List.setIfInBounds_toArray, List.set_cons_zero, List.set_cons_succ]
            refine wpAnyH_ready (rs := [4]) (by kernel_rfl) (by simp) ?_
            refine AllReadyH.cons rfl (fun K hK => ?_) AllReadyH.nil
            refine step_appB rfl _ _ rfl w.heap.size (.slice oa ol oc) (PZ) (big 2 area.toNat) gZ0 2 2 pZ0 rfl HEbZ0.out.own rfl HSbZ0.out (big_len _ _) (by simp []; omega) HEbZ0.out.bel.size ?_
            intro zZ0 qZ0 ho1 hg1 hat1
            have HEaZ1 : Hid (EB w (s :: (Value.slice va5 l5 c5).ownBlock.toList) (fun b => wr.heap[b]?) qZ0 zZ0 (PZ ++ big 2 area.toNat)) := HEbZ0.out.grow ho1.out hg1.out hat1.out
            clear ho1 hg1 hat1 hHeld
            refine hK.out _ _ (HPB.out _ _ _ HEaZ1.out) (fun hHeld => ?_)
            clear hK K
            try simp only [Act.put, List.getElem_toArray, List.getElem_cons_zero, List.getElem_cons_succ, List.setIfInBounds_toArray, List.set_cons_zero, List.set_cons_succ]
            refine wpAnyH_ready (rs := [7]) (by kernel_rfl) (by simp) ?_
            refine AllReadyH.cons rfl (fun K hK => ?_) AllReadyH.nil
            go_simp
            refine (rbig_any 4 frm.toNat 4 frm rfl K1.out.cast (by decide) (by decide) (K1.out.lt (by decide)) qZ0).mono ?_
            rintro e pZ1 ⟨rfl, ho1, hb1⟩
            have HEbZ1 : Hid (EB w (s :: (Value.slice va5 l5 c5).ownBlock.toList) (fun b => wr.heap[b]?) pZ1 zZ0 (PZ ++ big 2 area.toNat)) := HEaZ1.out.next hb1
            have HSbZ1 : Hid (∀ j (h : j < (big 4 frm.toNat).length), pZ1.cell? ⟨qZ0.heap.size, j, none⟩ = some (.int .u8 ((big 4 frm.toNat)[j] : Int))) := fun j h => (ho1.cell h).1
            clear ho1 hb1 hHeld
            obtain ⟨gZ1, hgZ1⟩ : ∃ g, qZ0.heap.size = g := ⟨_, rfl⟩
            rw [hgZ1] at HSbZ1 ⊢
            clear hgZ1
            go_wp2_with fail
            refine hK.out _ _ (HPB.out _ _ _ HEbZ1.out) (fun hHeld => ?_)
            clear hK K
            try simp only [Act.put, List.getElem_toArray, List.getElem_cons_zero, List.getElem_cons_succ, List.setIfInBounds_toArray, List.set_cons_zero, List.set_cons_succ]
            refine wpAnyH_ready (rs := [8]) (by kernel_rfl) (by simp) ?_
            refine AllReadyH.cons rfl (fun K hK => ?_) AllReadyH.nil
            refine step_appB rfl _ _ rfl w.heap.size zZ0 (PZ ++ big 2 area.toNat) (big 4 frm.toNat) gZ1 4 4 pZ1 rfl HEbZ1.out.own rfl HSbZ1.out (big_len _ _) (by simp [big_len]; omega) HEbZ1.out.bel.size ?_
            intro zZ1 qZ1 ho1 hg1 hat1
            have HEaZ2 : Hid (EB w (s :: (Value.slice va5 l5 c5).ownBlock.toList) (fun b => wr.heap[b]?) qZ1 zZ1 (PZ ++ big 2 area.toNat ++ big 4 frm.toNat)) := HEbZ1.out.grow ho1.out hg1.out hat1.out
            clear ho1 hg1 hat1 hHeld
            refine hK.out _ _ (HPB.out _ _ _ HEaZ2.out) (fun hHeld => ?_)
            clear hK K
            try simp only [Act.put, List.getElem_toArray, List.getElem_cons_zero, List.getElem_cons_succ, List.setIfInBounds_toArray, List.set_cons_zero, List.set_cons_succ]
            refine wpAnyH_ready (rs := [11]) (by kernel_rfl) (by simp) ?_
            refine AllReadyH.cons rfl (fun K hK => ?_) AllReadyH.nil
            go_simp
            refine (rbig_any 4 seen.toNat 4 seen rfl K3.out.cast (by decide) (by decide) (K3.out.lt (by decide)) qZ1).mono ?_
            rintro e pZ2 ⟨rfl, ho1, hb1⟩
            have HEbZ2 : Hid (EB w (s :: (Value.slice va5 l5 c5).ownBlock.toList) (fun b => wr.heap[b]?) pZ2 zZ1 (PZ ++ big 2 area.toNat ++ big 4 frm.toNat)) := HEaZ2.out.next hb1
            have HSbZ2 : Hid (∀ j (h : j < (big 4 seen.toNat).length), pZ2.cell? ⟨qZ1.heap.size, j, none⟩ = some (.int .u8 ((big 4 seen.toNat)[j] : Int))) := fun j h => (ho1.cell h).1
            clear ho1 hb1 hHeld
            obtain ⟨gZ2, hgZ2⟩ : ∃ g, qZ1.heap.size = g := ⟨_, rfl⟩
            rw [hgZ2] at HSbZ2 ⊢
            clear hgZ2
            go_wp2_with fail
            refine hK.out _ _ (HPB.out _ _ _ HEbZ2.out) (fun hHeld => ?_)
            clear hK K
            try simp only [Act.put, List.getElem_toArray, List.getElem_cons_zero, List.getElem_cons_succ, List.setIfInBounds_toArray, List.set_cons_zero, List.set_cons_succ]
            refine wpAnyH_ready (rs := [12]) (by kernel_rfl) (by simp) ?_
            refine AllReadyH.cons rfl (fun K hK => ?_) AllReadyH.nil
            refine step_appB rfl _ _ rfl w.heap.size zZ1 (PZ ++ big 2 area.toNat ++ big 4 frm.toNat) (big 4 seen.toNat) gZ2 4 4 pZ2 rfl HEbZ2.out.own rfl HSbZ2.out (big_len _ _) (by simp [big_len]; omega) HEbZ2.out.bel.size ?_
            intro zZ2 qZ2 ho1 hg1 hat1
            have HEaZ3 : Hid (EB w (s :: (Value.slice va5 l5 c5).ownBlock.toList) (fun b => wr.heap[b]?) qZ2 zZ2 (PZ ++ big 2 area.toNat ++ big 4 frm.toNat ++ big 4 seen.toNat)) := HEbZ2.out.grow ho1.out hg1.out hat1.out
            clear ho1 hg1 hat1 hHeld
            refine hK.out _ _ (HPB.out _ _ _ HEaZ3.out) (fun hHeld => ?_)
            clear hK K
            try simp only [Act.put, List.getElem_toArray, List.getElem_cons_zero, List.getElem_cons_succ, List.setIfInBounds_toArray, List.set_cons_zero, List.set_cons_succ]
            refine wpAnyH_take (i := 13) (v := ?_) rfl (by kernel_rfl) (by kernel_rfl) (by kernel_rfl) (fun _ _ _ h => h) (Or.inl ⟨by rfl, ?_⟩) (by assumption) ?_
            case refine_2 => intro W hSw; obtain ⟨c0, c1, c2, c3, c4⟩ := hSw; go_simp; try rfl
            try simp only [Act.put, List.getElem_toArray, List.getElem_cons_zero, List.getElem_cons_succ, List.setIfInBounds_toArray, List.set_cons_zero, List.set_cons_succ]
            refine wpAnyH_done (by kernel_rfl) ?_ _
            clear hHeld
            obtain ⟨OB, hOB⟩ : ∃ p, PZ ++ big 2 area.toNat ++ big 4 frm.toNat ++ big 4 seen.toNat = p := ⟨_, rfl⟩
            have HOB : Hid (OB ++ FL = encBody ⟨kind, frm, area, seen, xs⟩) := by
              show OB ++ FL = encBody ⟨kind, frm, area, seen, xs⟩
              rw [← hOB, ← HPZ.out]
              unfold encBody
              dsimp only
              rw [HLX.out, HSZE.out, HFL.out, HA.out]
            have hlOB : OB.length ≤ 21000 := by rw [← hOB]; simp [big_len]; omega
            have HO2 : Hid (EB w (s :: (Value.slice va5 l5 c5).ownBlock.toList) (fun b => wr.heap[b]?) qZ2 zZ2 OB) := by rw [← hOB]; exact HEaZ3.out
            have HBD : Hid (OwnB w.heap.size qZ2 (.slice va5 l5 c5) FL) := HEaZ3.out.body HEF.out
            obtain ⟨pa6, pl6, pc6, hv6⟩ := ownB_slice HO2.out.own
            subst hv6
            have hd3 := HD2.out
            rw [if_neg h40, ← HOB.out] at hd3
            obtain ⟨cc, hcc⟩ : ∃ c, crc 4294967295 (OB ++ FL) = c := ⟨_, rfl⟩
            have HCC : Hid (crc 4294967295 (OB ++ FL) = cc) := hcc
            have hccl : cc < 4294967296 := by rw [← hcc]; exact crc_lt _ _ (by decide)
            rw [hcc] at hd3
            cases hd3
            have HU8 : Hid (∀ d ∈ OB ++ FL, d < 256) := by rw [HOB.out]; exact encBody_u8 _
            have HLL : Hid ((OB ++ FL).length ≤ 40000) := by rw [List.length_append, HL5.out]; show _ ≤ _; omega
            have HFIN : Hid (∀ W v, EB w (s :: (Value.slice va5 l5 c5).ownBlock.toList) (fun b => wr.heap[b]?) W v ((OB ++ FL) ++ big 4 cc) → EncPost w ((OB ++ FL) ++ big 4 cc) 0 (.returned (.tuple #[v, .int .i64 0])) W) := fun W v h => ⟨v, rfl, h.own, h.bel⟩
            have HLA : Hid (∀ W a l c, EB w (s :: (Value.slice va5 l5 c5).ownBlock.toList) (fun b => wr.heap[b]?) W (.slice a l c) (OB ++ FL) → Calls Try.prog 45 #[.slice a l c] W fun e w' => e = .returned (.int .u32 (cc : Int)) ∧ w' = W) := fun W a l c h => by
              have hby := h.own.by HU8.out
              exact rcheck_any a c (OB ++ FL) l hby.2.1 (by have := HLL.out; omega) W hby.1 (cc : Int) (by rw [HCC.out])
            have hwc : IntKind.i64.wrap (cc : Int) = (cc : Int) := by rw [IntWalk.i64_in _ (by omega)]
            obtain ⟨i0, hi0, hz0, hz1, hz2⟩ := info_parts info8
            clear hOB hcc HEaZ3 hwl
            have hform := HBD.out.row.2
            have HB2 : Hid (∃ W2 qa ql qc, (∀ (Qq : Exit → Act → World → Prop) (ops : Array Oper) (rest : List Oper) (o : Oper) (a : Act) (sx xx : Operand), o.guard = none → o.op = .call { callee := .builtin .append, args := #[sx, xx], argTypes := #[37, 37] } → a.eval sx = .slice pa6 pl6 pc6 → a.eval xx = .slice va5 l5 c5 → (∀ v' w', Hid (EB w (s :: (Value.slice va5 l5 c5).ownBlock.toList) (fun b => wr.heap[b]?) w' v' (OB ++ FL)) → wpList Try.prog ops Qq rest (a.put o.dst v') w') → wpList Try.prog ops Qq (o :: rest) a qZ2) ∧ W2 = qZ2 ∧ qa = pa6 ∧ ql = pl6 ∧ qc = pc6) := by
              refine ⟨_, _, _, _, ?_, rfl, rfl, rfl, rfl⟩
              intro Qq ops rest o a sx xx hgd hop hs hx hK
              rcases hform with ⟨hb1, hb2⟩ | ⟨g5, cap5, cur5, hb1, -, -, hb4, -⟩
              · cases hb1
                have hF0 : FL = [] := List.length_eq_zero_iff.1 hb2
                refine wpList_append_own_none hgd sx xx 37 hop w.heap.size 5 i0 1 Try.underlying37 hi0 _ _ _ hs HO2.out.own.row hx ?_
                refine hK _ _ ?_
                rw [hF0, List.append_nil]
                exact HO2.out
              · cases hb1
                refine list_appB hgd sx xx hop w.heap.size _ OB FL g5 FL.length c5 _ hs HO2.out.own hx (fun j h => (HBD.out.cell h).1) rfl (by rw [HL5.out]; omega) HO2.out.bel.size ?_
                intro v' w' h1 h2 h3
                exact hK v' w' (HO2.out.grow h1.out h2.out h3.out)
            obtain ⟨-, -, -, -, hstep, -, -, -, -⟩ := HB2.out
            have HSTEP : Hid (∀ (Qq : Exit → Act → World → Prop) (ops : Array Oper) (rest : List Oper) (o : Oper) (a : Act) (sx xx : Operand), o.guard = none → o.op = .call { callee := .builtin .append, args := #[sx, xx], argTypes := #[37, 37] } → a.eval sx = .slice pa6 pl6 pc6 → a.eval xx = .slice va5 l5 c5 → (∀ v' w', Hid (EB w (s :: (Value.slice va5 l5 c5).ownBlock.toList) (fun b => wr.heap[b]?) w' v' (OB ++ FL)) → wpList Try.prog ops Qq rest (a.put o.dst v') w') → wpList Try.prog ops Qq (o :: rest) a qZ2) := hstep
            clear hform HB2 hstep
            go_wp2_with (at_builtin; refine HSTEP.out _ _ _ _ _ _ _ rfl rfl rfl rfl ?_)
            intro v7 w7 h7
            obtain ⟨ra, rl, rc, hv7⟩ := ownB_slice h7.out.own
            subst hv7
            go_wp2_with fail
            refine (HLA.out w7 ra rl rc h7.out).mono ?_
            rintro e w8 ⟨rfl, hw8⟩
            rw [hw8]
            clear hw8 w8
            go_wp2_with fail
            refine (rbig_any 4 cc 4 (cc : Int) rfl rfl (by decide) (by decide) (by omega) w7).mono ?_
            rintro e w8 ⟨rfl, ho1, hb1⟩
            have h8 : Hid (EB w (s :: (Value.slice va5 l5 c5).ownBlock.toList) (fun b => wr.heap[b]?) w8 (.slice ra rl rc) (OB ++ FL)) := h7.out.next hb1
            have HSR : Hid (∀ j (h : j < (big 4 cc).length), w8.cell? ⟨w7.heap.size, j, none⟩ = some (.int .u8 ((big 4 cc)[j] : Int))) := fun j h => (ho1.cell h).1
            obtain ⟨g8, hg8⟩ : ∃ g, w7.heap.size = g := ⟨_, rfl⟩
            rw [hg8] at HSR ⊢
            have hll2 : (OB ++ FL).length + 4 ≤ 1048576 := by have := HLL.out; omega
            clear ho1 hb1 hg8 h7
            go_wp2_with (at_builtin; refine list_appB rfl _ _ rfl w.heap.size (.slice ra rl rc) (OB ++ FL) (big 4 cc) g8 4 4 w8 rfl h8.out.own rfl HSR.out (big_len _ _) hll2 h8.out.bel.size ?_)
            intro v9 w9 h1 h2 h3
            have HFF : Hid (EncPost w ((OB ++ FL) ++ big 4 cc) 0 (.returned (.tuple #[v9, .int .i64 0])) w9) := HFIN.out _ _ (h8.out.grow (by have h5 := h1.out; rw [← List.append_assoc] at h5; exact h5) h2.out h3.out)
            clear h1 h2 h3
            go_wp2_with fail
            refine bodyPost_ret (v := .tuple #[v9, .int .i64 0]) (by simp [results, Try.results17, go_sem]) rfl HFF.out

end Go.Proofs.Ytagfdmkgnedlbae.Ls
