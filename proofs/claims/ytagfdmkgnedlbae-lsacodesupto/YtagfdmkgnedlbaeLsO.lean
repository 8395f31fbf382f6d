/- writer.number: what it leaves. -/
import Derived.Test.YtagfdmkgnedlbaeLsN
import Derived.Maps.AppendAt
import Derived.Deep.RegionHeld3
import Derived.Deep.CutRange
import Derived.Lib.SmallJoins
import Derived.OwnWalk
import Derived.Laws.AppendOwnNone
import Derived.Laws.Rows
namespace Go.Proofs.Ytagfdmkgnedlbae.Ls
open Go.ChangeShapes Go.WideShapes Go.ChangeAt Go.RowKit Go.Joins Go.Proofs.Ytagfdmkgnedlbae.PM Go.Proofs.Ytagfdmkgnedlbae.Ask
set_option linter.unusedVariables false

def bcs (bs : List Nat) : List Value := bs.map (fun x : Nat => Value.int .u8 ((x : Nat) : Int))
/-- the bytes of a number, the highest first -/
def big (size n : Nat) : List Nat := (List.range size).map (fun i => n / 2 ^ (8 * (size - 1 - i)) % 256)
theorem info8 : (Try.prog.info? 5).map (fun i => (i.zero, i.size, i.bytes)) = some (some (.int .u8 0), 1, 1) := by kernel_rfl
/-- bytes that the call has made -/
structure OwnB (N : Nat) (w : World) (v : Value) (bs : List Nat) : Prop where
  row : w.ownsRow N 5 1 v bs.length (bcs bs)
theorem OwnB.bel {N : Nat} {w w' : World} {v : Value} {bs : List Nat} (h : OwnB N w v bs) (hb : Below w.heap.size w w') : OwnB N w' v bs := by
  refine ⟨h.row.1, ?_⟩
  rcases h.row.2 with h1 | ⟨g', cap', cur, h1, h2, h3, h4⟩
  · exact .inl h1
  · exact .inr ⟨g', cap', cur, h1, h2, (hb.block g' (Array.getElem?_eq_some_iff.1 h3).1).trans h3, h4⟩
theorem OwnB.block {N : Nat} {w w' : World} {v : Value} {bs : List Nat} (h : OwnB N w v bs) (hb : ∀ g, v.ownBlock = some g → w'.heap[g]? = w.heap[g]?) : OwnB N w' v bs := by
  refine ⟨h.row.1, ?_⟩
  rcases h.row.2 with h1 | ⟨g', cap', cur, h1, h2, h3, h4⟩
  · exact .inl h1
  · exact .inr ⟨g', cap', cur, h1, h2, (hb g' (by rw [h1]; rfl)).trans h3, h4⟩
theorem ownB_slice {N : Nat} {w : World} {v : Value} {bs : List Nat} (h : OwnB N w v bs) : ∃ a l c, v = .slice a l c := by
  rcases h.row.2 with ⟨h1, _⟩ | ⟨g, cap, cur, h1, _⟩
  · exact ⟨_, _, _, h1⟩
  · exact ⟨_, _, _, h1⟩
/-- a byte that was just built is appended, as one step of a region that draws -/
theorem step_app1 {ops : Array Oper} {o : Oper} {a : Act} {Q : Exit → Act → World → Prop} {K : Act → World → Prop} {E : Prop} (hgd : o.guard = none) (s x : Operand)
    (ho : o.op = .call { callee := .builtin .append, args := #[s, x], argTypes := #[37, 37] }) (N : Nat) (v : Value) (bs : List Nat) (c : Nat) (hc : c < 256) {w : World} (W : World) (hs : a.eval s = v) (hown : OwnB N W v bs)
    (hx : a.eval x = .slice (some ⟨w.heap.size, 0, none⟩) 1 1) (hby : (bs.length + 1) * 1 ≤ 140737488355328) (hN : N ≤ W.heap.size) (hW : W = w.alloc (Obj.cells #[.int .u8 (c : Int)] 5))
    (h : ∀ v' w', Hid (OwnB N w' v' (bs ++ [c])) → Hid (W.grownBy w' v.ownBlock) → (v'.ownBlock = v.ownBlock ∨ v'.ownBlock = some W.heap.size) → K (a.put o.dst v') w') :
    if Region.wanted o (yielded ops a.tmps) = true then Oper.wp Try.prog o a W K Q else E := by
  have hw : Region.wanted o (yielded ops a.tmps) = true := by simp [Region.wanted, hgd]
  rw [if_pos hw]
  obtain ⟨i0, hi, hz0, hz1, hz2⟩ := info_parts info8
  obtain ⟨v', w', hr, h2, h3, h4, h5⟩ := run_append_own_at (P := Try.prog) W N 37 o.type 5 i0 _ 1 1 Try.underlying37 hi hz0 hz1 hz2 rfl (by decide) v bs.length (bcs bs) hown.row ⟨w.heap.size, 0, none⟩ 1 1 [.int .u8 (c : Int)] rfl (by rw [hW]; exact cell_one_new _ _ _) (by intro u' hu'; simp at hu'; subst hu'; rfl) (by unfold maxLen; omega) hby hN
  unfold Oper.wp execOp
  simp only [ho, resolve, invoke, builtin, Sem.run_bind, Sem.run_pure, Result.andThen_ok, List.map_toArray, List.map_cons, List.map_nil, hs, hx, hr]
  exact h v' w' ⟨by unfold bcs; rw [List.map_append, List.length_append]; exact h2⟩ h3 h5
/-- a writer lies at a block -/
structure Wr (N : Nat) (w : World) (bw : Nat) (bs : List Nat) (own : Option Nat) : Prop where
  row : ∃ v, w.cell? ⟨bw, 0, none⟩ = some v ∧ OwnB N w v bs ∧ v.ownBlock = own
  fz : w.frozen? ⟨bw, 0, none⟩ = false
  ne : ¬ own = some bw
  lt : bw < w.heap.size
  le : N ≤ w.heap.size
/-- nothing old has turned but the writer and its own bytes -/
structure Kw (bw : Nat) (w : World) (own : Option Nat) (w' : World) (own' : Option Nat) : Prop where
  str : Below 0 w w'
  now : own' = own ∨ ∃ g, own' = some g ∧ w.heap.size ≤ g
  block : ∀ b, b < w.heap.size → b ≠ bw → some b ≠ own → w'.heap[b]? = w.heap[b]?
theorem Kw.refl (bw : Nat) (w : World) (own : Option Nat) : Kw bw w own w own := ⟨Below.refl _ _, .inl rfl, fun _ _ _ _ => rfl⟩
theorem Kw.ne {bw : Nat} {w w' : World} {own own' : Option Nat} (h : Kw bw w own w' own') {b : Nat} (hb : b < w.heap.size) (ho : some b ≠ own) : some b ≠ own' := by
  rcases h.now with e | ⟨g, e, hg⟩
  · rw [e]; exact ho
  · rw [e]; intro e2; cases e2; omega
theorem Kw.trans {bw : Nat} {w w1 w2 : World} {o o1 o2 : Option Nat} (h : Kw bw w o w1 o1) (k : Kw bw w1 o1 w2 o2) : Kw bw w o w2 o2 := by
  refine ⟨h.str.trans k.str, ?_, fun b hb hn ho => (k.block b (Nat.lt_of_lt_of_le hb h.str.size) hn (h.ne hb ho)).trans (h.block b hb hn ho)⟩
  rcases k.now with e | ⟨g, e, hg⟩
  · rw [e]; exact h.now
  · exact .inr ⟨g, e, Nat.le_trans h.str.size hg⟩
/-- one byte more -/
theorem wr_next {N bw : Nat} {wr w' : World} {own : Option Nat} {bs : List Nat} {v v' : Value} {c : Nat} {W : World} (h : Wr N wr bw bs own) (hv : wr.cell? ⟨bw, 0, none⟩ = some v) (hW : Below wr.heap.size wr W) (ho : OwnB N w' v' (bs ++ [c])) (hg : W.grownBy w' v.ownBlock) (hat : v'.ownBlock = v.ownBlock ∨ v'.ownBlock = some W.heap.size) :
    Wr N (w'.setCell ⟨bw, 0, none⟩ v') bw (bs ++ [c]) v'.ownBlock ∧ Kw bw wr own (w'.setCell ⟨bw, 0, none⟩ v') v'.ownBlock := by
  obtain ⟨v0, hv0, hb0, ho0⟩ := h.row
  rw [hv] at hv0; cases hv0
  have hlt := h.lt
  have hle := h.le
  have hsz := hW.size
  have hgs := hg.size
  have hne : ∀ g, v'.ownBlock = some g → ¬ g = bw := fun g e e2 => by
    subst e2
    rcases hat with e3 | e3
    · exact h.ne (by rw [← ho0, ← e3]; exact e)
    · rw [e3] at e
      cases e
      omega
  have hkeep : ∀ b, b < wr.heap.size → some b ≠ own → w'.heap[b]? = wr.heap[b]? := fun b hb hne => (hg.block b (by omega) (fun e => hne (by rw [← ho0]; exact e))).trans (hW.block b hb)
  have hbw : w'.heap[bw]? = wr.heap[bw]? := hkeep bw hlt (fun e => h.ne e.symm)
  have hcell : w'.cell? ⟨bw, 0, none⟩ = some v := (World.cell?_of_block (w := wr) hbw).trans hv
  refine ⟨⟨⟨v', World.cell?_setCell_same' _ _ _ (by rw [hcell]; rfl), ho.block (fun g e => Below.heap_setCell w' ⟨bw, 0, none⟩ v' g (hne g e)), rfl⟩, ?_, fun e => hne bw e rfl, by simp; omega, by simp; omega⟩, ?_, ?_, fun b hb hn hne => (Below.heap_setCell w' ⟨bw, 0, none⟩ v' b hn).trans (hkeep b hb hne)⟩
  · rw [World.frozen?_setCell]
    exact (World.frozen?_of_block (w := wr) hbw).trans h.fz
  · exact (((hW.mono (Nat.zero_le _)).grown hg (Nat.zero_le _) (fun _ _ => Nat.zero_le _))).setCell (p := ⟨bw, 0, none⟩) (Nat.zero_le _) v'
  · rcases hat with e | e
    · exact .inl (by rw [e, ho0])
    · exact .inr ⟨_, e, hsz⟩
/-- a byte that was just built is appended -/
theorem list_app8 {ops : Array Oper} {rest : List Oper} {o : Oper} {ac : Act} {Q : Exit → Act → World → Prop} (hgd : o.guard = none) (s x : Operand)
    (ho : o.op = .call { callee := .builtin .append, args := #[s, x], argTypes := #[37, 37] }) (N : Nat) (v : Value) (bs : List Nat) (c : Nat) {w : World} (W : World) (hs : ac.eval s = v) (hown : OwnB N W v bs)
    (hx : ac.eval x = .slice (some ⟨w.heap.size, 0, none⟩) 1 1) (hby : (bs.length + 1) * 1 ≤ 140737488355328) (hN : N ≤ W.heap.size) (hW : W = w.alloc (Obj.cells #[.int .u8 (c : Int)] 5))
    (h : ∀ v' w', Hid (OwnB N w' v' (bs ++ [c])) → Hid (W.grownBy w' v.ownBlock) → Hid (v'.ownBlock = v.ownBlock ∨ v'.ownBlock = some W.heap.size) → wpList Try.prog ops Q rest (ac.put o.dst v') w') :
    wpList Try.prog ops Q (o :: rest) ac W := by
  obtain ⟨i0, hi, hz0, hz1, hz2⟩ := info_parts info8
  refine wpList_append_own_at _ hgd s x 37 ho N 5 i0 _ 1 1 Try.underlying37 hi hz0 hz1 hz2 rfl (by decide) v bs.length (bcs bs) hs hown.row ⟨w.heap.size, 0, none⟩ 1 1 [.int .u8 (c : Int)] hx rfl (by rw [hW]; exact cell_one_new _ _ _) (by intro u' hu'; simp at hu'; subst hu'; rfl) (by unfold maxLen; omega) hby hN ?_
  intro v' w' h2 h3 _ h5
  exact h v' w' ⟨by unfold bcs; rw [List.map_append, List.length_append]; exact h2⟩ h3 h5
/-- nothing old has turned but the bytes' own block -/
structure Kp (w : World) (own : Option Nat) (w' : World) (own' : Option Nat) : Prop where
  str : Below 0 w w'
  now : own' = own ∨ ∃ g, own' = some g ∧ w.heap.size ≤ g
  block : ∀ b, b < w.heap.size → some b ≠ own → w'.heap[b]? = w.heap[b]?
theorem Kp.refl (w : World) (own : Option Nat) : Kp w own w own := ⟨Below.refl _ _, .inl rfl, fun _ _ _ => rfl⟩
theorem Kp.trans {w w1 w2 : World} {o o1 o2 : Option Nat} (h : Kp w o w1 o1) (k : Kp w1 o1 w2 o2) : Kp w o w2 o2 := by
  refine ⟨h.str.trans k.str, ?_, fun b hb ho => (k.block b (Nat.lt_of_lt_of_le hb h.str.size) ?_).trans (h.block b hb ho)⟩
  · rcases k.now with e | ⟨g, e, hg⟩
    · rw [e]; exact h.now
    · exact .inr ⟨g, e, Nat.le_trans h.str.size hg⟩
  · rcases h.now with e | ⟨g, e, hg⟩
    · rw [e]; exact ho
    · rw [e]; intro e2; cases e2; omega
set_option maxRecDepth 100000 in
set_option maxHeartbeats 4000000 in
theorem put_any (N : Nat) (v0 : Value) (bs : List Nat) (size n : Nat) (hs8 : size ≤ 8) (hn : n < 9223372036854775808) (hbig : bs.length ≤ 1048576) (w : World) (hN : N ≤ w.heap.size) (h : OwnB N w v0 bs) :
    Calls Try.prog 63 #[v0, .int .i64 (size : Int), .int .i64 (n : Int)] w fun e w' => ∃ v', e = .returned v' ∧ OwnB N w' v' (bs ++ big size n) ∧ Kp w v0.ownBlock w' v'.ownBlock := by
  have H : Hid (OwnB N w v0 bs) := h
  clear h
  go_enter Try.func63, Try.ntmps63
  go_wp2_with fail
  go_loopw [0, 9] (fun bv iv wr => ∃ (k : Nat), k ≤ size ∧ iv = .int .i64 k ∧ OwnB N wr bv (bs ++ (big size n).take k) ∧ Kp w v0.ownBlock wr bv.ownBlock) (fun _ i _ => size - (intOf i).toNat)
  case atStart => exact ⟨0, by omega, rfl, by simpa using H.out, Kp.refl _ _⟩
  case round =>
    obtain ⟨k, hk, rfl, hob, hkp⟩ := hrel
    have HO : Hid (OwnB N wr u0 (bs ++ (big size n).take k)) := hob
    have HK : Hid (Kp w v0.ownBlock wr u0.ownBlock) := hkp
    clear hob hkp
    by_cases hlt : k < size
    · have hkk : (k : Int) < size := by omega
      have kk0 : (0 : Int) ≤ k := by omega
      obtain ⟨bs1, hbs⟩ : ∃ b, bs ++ (big size n).take k = b := ⟨_, rfl⟩
      have hl1 : bs1.length ≤ 1048584 := by rw [← hbs, List.length_append, List.length_take]; omega
      obtain ⟨c, hc⟩ : ∃ c, n / 2 ^ (8 * (size - 1 - k)) % 256 = c := ⟨_, rfl⟩
      have HNX : Hid (bs1 ++ [c] = bs ++ (big size n).take (k + 1)) := by
        show _ = _
        rw [← hbs, List.take_succ_eq_append_getElem (by simp [big]; exact hlt), List.append_assoc]
        simp [big, hc]
      rw [hbs] at HO
      have w1 : IntKind.i64.wrap ((size : Int) - 1) = ((size - 1 : Nat) : Int) := by rw [IntWalk.i64_in _ (by omega)]; omega
      have w2 : IntKind.i64.wrap (((size - 1 : Nat) : Int) - (k : Int)) = ((size - 1 - k : Nat) : Int) := by rw [IntWalk.i64_in _ (by omega)]; omega
      have w3 : IntKind.i64.wrap (8 * ((size - 1 - k : Nat) : Int)) = ((8 * (size - 1 - k) : Nat) : Int) := by rw [IntWalk.i64_in _ (by omega)]; omega
      have hcv : (n : Int) / 2 ^ (8 * (size - 1 - k)) % 256 = (c : Int) := by
        rw [← hc]
        simp
      obtain ⟨W, hW⟩ : ∃ W, wr.alloc (Obj.cells #[.int .u8 (c : Int)] 5) = W := ⟨_, rfl⟩
      have HB : Hid (Below wr.heap.size wr W) := by rw [← hW]; exact (Below.refl _ wr).alloc (Nat.le_refl _) _
      have HWA : Hid (OwnB N W u0 bs1) := HO.out.bel HB.out
      have hNW : N ≤ W.heap.size := Nat.le_trans hN (Nat.le_trans HK.out.str.size HB.out.size)
      have hby : (bs1.length + 1) * 1 ≤ 140737488355328 := by omega
      clear hbs hc
      go_wp2_with (at_builtin; refine list_app8 rfl _ _ rfl N u0 bs1 c (w := wr) W rfl HWA.out rfl hby hNW hW.symm ?_)
      intro v' w' ho' hg' hat'
      have HO' : Hid (OwnB N w' v' (bs ++ (big size n).take (k + 1))) := by have := ho'.out; rw [HNX.out] at this; exact this
      have HK' : Hid (Kp w v0.ownBlock w' v'.ownBlock) := HK.out.trans ⟨(HB.out.mono (Nat.zero_le _)).grown hg'.out (Nat.zero_le _) (fun _ _ => Nat.zero_le _), by
        rcases hat'.out with e | e
        · exact .inl e
        · exact .inr ⟨_, e, HB.out.size⟩, fun b hb hne => (hg'.out.block b (Nat.lt_of_lt_of_le hb HB.out.size) hne).trans (HB.out.block b hb)⟩
      clear ho' hg' hat'
      go_wp2_with fail
      exact ⟨⟨k + 1, by omega, by simp, HO'.out, HK'.out⟩, by simp [intOf]; omega⟩
    · obtain rfl : size = k := by omega
      have HE : Hid (OwnB N wr u0 (bs ++ big size n)) := by
        have h1 := HO.out
        rw [List.take_of_length_le (by simp [big])] at h1
        exact h1
      obtain ⟨va, vl, vc, rfl⟩ := ownB_slice HE.out
      clear HO
      go_wp2_with fail
      go_ret
      exact ⟨_, rfl, HE.out, HK.out⟩
set_option maxRecDepth 100000 in
set_option maxHeartbeats 4000000 in
theorem wnum_any (N bw : Nat) (bs : List Nat) (own : Option Nat) (size n : Nat) (hs8 : size ≤ 8) (hn : n < 9223372036854775808) (hbig : bs.length ≤ 1048576) (w : World) (h : Wr N w bw bs own) :
    Calls Try.prog 49 #[.pointer (some ⟨bw, 0, none⟩), .int .i64 (size : Int), .int .i64 (n : Int)] w fun e w' => (∃ u, e = .returned u) ∧ ∃ own', Wr N w' bw (bs ++ big size n) own' ∧ Kw bw w own w' own' := by
  have H : Hid (Wr N w bw bs own) := h
  obtain ⟨v, hv, hown, hov⟩ := h.row
  have HP : Hid (∀ W, Below w.heap.size w W → Calls Try.prog 63 #[v, .int .i64 (size : Int), .int .i64 (n : Int)] W fun e w' => ∃ v', e = .returned v' ∧ OwnB N w' v' (bs ++ big size n) ∧ Kp W v.ownBlock w' v'.ownBlock) := fun W hW => put_any N v bs size n hs8 hn hbig W (Nat.le_trans H.out.le hW.size) (hown.bel hW)
  have hfz := h.fz
  have HOV : Hid (v.ownBlock = own) := hov
  have HFIN : Hid (∀ W w' v', Below w.heap.size w W → OwnB N w' v' (bs ++ big size n) → Kp W v.ownBlock w' v'.ownBlock → w'.cell? ⟨bw, 0, none⟩ = some v ∧ w'.frozen? ⟨bw, 0, none⟩ = false ∧ Wr N (w'.setCell ⟨bw, 0, none⟩ v') bw (bs ++ big size n) v'.ownBlock ∧ Kw bw w own (w'.setCell ⟨bw, 0, none⟩ v') v'.ownBlock) := fun W w' v' hW ho hk => by
    have hlt := H.out.lt
    have hle := H.out.le
    have hsz := hW.size
    have hgs := hk.str.size
    have hne : ∀ g, v'.ownBlock = some g → ¬ g = bw := fun g e e2 => by
      subst e2
      rcases hk.now with e3 | ⟨g', e3, hg⟩
      · exact H.out.ne (by rw [← HOV.out, ← e3]; exact e)
      · rw [e3] at e
        cases e
        omega
    have hkeep : ∀ b, b < w.heap.size → some b ≠ own → w'.heap[b]? = w.heap[b]? := fun b hb hne => (hk.block b (by omega) (fun e => hne (by rw [← HOV.out]; exact e))).trans (hW.block b hb)
    have hbw : w'.heap[bw]? = w.heap[bw]? := hkeep bw hlt (fun e => H.out.ne e.symm)
    have hcell : w'.cell? ⟨bw, 0, none⟩ = some v := (World.cell?_of_block (w := w) hbw).trans hv
    have hfr : w'.frozen? ⟨bw, 0, none⟩ = false := (World.frozen?_of_block (w := w) hbw).trans hfz
    refine ⟨hcell, hfr, ⟨⟨v', World.cell?_setCell_same' _ _ _ (by rw [hcell]; rfl), ho.block (fun g e => Below.heap_setCell w' ⟨bw, 0, none⟩ v' g (hne g e)), rfl⟩, ?_, fun e => hne bw e rfl, by simp; omega, by simp; omega⟩, ?_, ?_, fun b hb hn hne => (Below.heap_setCell w' ⟨bw, 0, none⟩ v' b hn).trans (hkeep b hb hne)⟩
    · rw [World.frozen?_setCell]
      exact hfr
    · exact ((hW.mono (Nat.zero_le _)).trans hk.str).setCell (p := ⟨bw, 0, none⟩) (Nat.zero_le _) v'
    · rcases hk.now with e | ⟨g, e, hg⟩
      · exact .inl (by rw [e, HOV.out])
      · exact .inr ⟨g, e, by omega⟩
  clear h hown hov
  go_enter Try.func49, Try.ntmps49
  go_wp2_with fail
  refine (HP.out w (Below.refl _ _)).mono ?_
  rintro e w' ⟨v', rfl, ho, hk⟩
  obtain ⟨va, vl, vc, rfl⟩ := ownB_slice ho
  obtain ⟨c1, z1, f1, f2⟩ := HFIN.out w w' _ (Below.refl _ _) ho hk
  have HE : Hid (∃ own', Wr N (w'.setCell ⟨bw, 0, none⟩ (.slice va vl vc)) bw (bs ++ big size n) own' ∧ Kw bw w own (w'.setCell ⟨bw, 0, none⟩ (.slice va vl vc)) own') := ⟨_, f1, f2⟩
  clear ho hk f1 f2
  go_wp2_with fail
  refine ⟨rfl, .tuple #[], ?_, ⟨_, rfl⟩, HE.out⟩
  simp [results, Try.results49, go_sem]
end Go.Proofs.Ytagfdmkgnedlbae.Ls
