/- reader.number: what it takes and what it leaves. -/
import Derived.Test.YtagfdmkgnedlbaeLsO
namespace Go.Proofs.Ytagfdmkgnedlbae.Ls
open Go.ChangeShapes Go.WideShapes Go.ChangeAt Go.RowKit Go.Joins Go.Proofs.Ytagfdmkgnedlbae.PM Go.Proofs.Ytagfdmkgnedlbae.Ask
set_option linter.unusedVariables false

/-- the number that bytes are, the highest first -/
def num (bs : List Nat) : Nat := bs.foldl (fun n c => n * 256 + c) 0
theorem num_snoc (bs : List Nat) (c : Nat) : num (bs ++ [c]) = num bs * 256 + c := by unfold num; rw [List.foldl_append]; rfl
theorem num_take (bs : List Nat) (k : Nat) (h : k < bs.length) : num (bs.take (k + 1)) = num (bs.take k) * 256 + bs[k] := by
  rw [List.take_succ_eq_append_getElem h, num_snoc]
theorem num_lt {bs : List Nat} (h : ∀ d ∈ bs, d < 256) : ∀ k, k ≤ bs.length → num (bs.take k) < 256 ^ k
  | 0, _ => by simp [num]
  | k + 1, hk => by
    rw [num_take bs k (by omega), Nat.pow_succ]
    have h1 := num_lt h k (by omega)
    have h2 := h _ (List.getElem_mem (show k < bs.length by omega))
    omega
theorem bits_or8 (a c : Nat) (ha : a < 36028797018963968) (hc : c < 256) : bits .or .i64 ((a : Int) * 256) (c : Int) = ((a * 256 + c : Nat) : Int) := by
  have ha' : (a * 256) % 2 ^ IntKind.i64.bits = a * 256 := Nat.mod_eq_of_lt (by show a * 256 < 18446744073709551616; omega)
  have hc' : c % 2 ^ IntKind.i64.bits = c := Nat.mod_eq_of_lt (by show c < 18446744073709551616; omega)
  have e : (a : Int) * 256 = ((a * 256 : Nat) : Int) := by omega
  have h : a * 256 ||| c = a * 256 + c := by
    have := Nat.two_pow_add_eq_or_of_lt (i := 8) hc a
    rw [show a * 256 = 2 ^ 8 * a by omega]
    exact this.symm
  rw [e]
  simp only [bits, BitVec.ofInt_natCast, BitVec.toNat_or, BitVec.toNat_ofNat, ha', hc', h]
  rw [IntWalk.i64_in _ (by omega)]
/-- nothing old has turned but the reader -/
structure Kr (br : Nat) (w w' : World) : Prop where
  str : Below 0 w w'
  block : ∀ b, b < w.heap.size → ¬ b = br → w'.heap[b]? = w.heap[b]?
theorem Kr.refl (br : Nat) (w : World) : Kr br w w := ⟨Below.refl _ _, fun _ _ _ => rfl⟩
theorem Kr.trans {br : Nat} {w w1 w2 : World} (h : Kr br w w1) (k : Kr br w1 w2) : Kr br w w2 := ⟨h.str.trans k.str, fun b hb hn => (k.block b (Nat.lt_of_lt_of_le hb h.str.size) hn).trans (h.block b hb hn)⟩
theorem Kr.set (br o : Nat) (w : World) (v : Value) : Kr br w (w.setCell ⟨br, o, none⟩ v) := ⟨(Below.refl _ w).setCell (p := ⟨br, o, none⟩) (Nat.zero_le _) v, fun b _ hb => Below.heap_setCell w ⟨br, o, none⟩ _ b hb⟩
/-- a reader lies at a block; it and its bytes lie below M -/
structure Rd (M : Nat) (w : World) (br : Nat) (bs : List Nat) (short : Bool) : Prop where
  rest : ∃ va cap, w.cell? ⟨br, 0, none⟩ = some (.slice va bs.length cap) ∧ bs.length ≤ cap ∧ By w va bs ∧ ∀ b o, va = some ⟨b, o, none⟩ → ¬ b = br ∧ b < M
  short : w.cell? ⟨br, 1, none⟩ = some (.bool short)
  fz0 : w.frozen? ⟨br, 0, none⟩ = false
  fz1 : w.frozen? ⟨br, 1, none⟩ = false
  lt : br < M
  le : M ≤ w.heap.size
theorem Rd.low {M : Nat} {w w' : World} {br : Nat} {bs : List Nat} {short : Bool} (h : Rd M w br bs short) (hb : Below M w w') : Rd M w' br bs short := by
  obtain ⟨va, cap, h1, h2, h3, h4⟩ := h.rest
  have hbr : w'.heap[br]? = w.heap[br]? := hb.block br h.lt
  refine ⟨⟨va, cap, (World.cell?_of_block (w := w) hbr).trans h1, h2, ⟨h3.small, fun i hi => ?_, h3.u8⟩, h4⟩, (World.cell?_of_block (w := w) hbr).trans h.short, (World.frozen?_of_block (w := w) hbr).trans h.fz0, (World.frozen?_of_block (w := w) hbr).trans h.fz1, h.lt, Nat.le_trans h.le hb.size⟩
  obtain ⟨b, o, e, hl, hc⟩ := h3.cells i hi
  exact ⟨b, o, e, Nat.lt_of_lt_of_le hl hb.size, (World.cell?_of_block (w := w) (hb.block b (h4 b o e).2)).trans hc⟩
theorem rd_next {M : Nat} {w : World} {br : Nat} {bs : List Nat} {short : Bool} {L size cap : Nat} {va : Option Addr} (h : Rd M w br bs short) (hL : bs.length = L) (hv : w.cell? ⟨br, 0, none⟩ = some (.slice va L cap)) (hs : size ≤ L) (hp : 0 < size) (hc : L ≤ cap) (va' : Option Addr) (cap' : Nat) (hw : (va' = va ∧ cap' = 0 ∧ cap = size) ∨ (va' = va.map (fun x => x.add size) ∧ cap' = cap - size)) :
    Rd M (w.setCell ⟨br, 0, none⟩ (.slice va' (L - size : Nat) cap')) br (bs.drop size) short ∧ Kr br w (w.setCell ⟨br, 0, none⟩ (.slice va' (L - size : Nat) cap')) := by
  obtain ⟨va0, cap0, hv0, hc0, hby, hne⟩ := h.rest
  rw [hv] at hv0
  rw [hL] at hv0 hc0
  cases hv0
  have hk : ∀ b, ¬ b = br → (w.setCell ⟨br, 0, none⟩ (.slice va' (L - size : Nat) cap')).heap[b]? = w.heap[b]? := fun b hb => Below.heap_setCell w ⟨br, 0, none⟩ _ b hb
  have hlen : (bs.drop size).length = L - size := by rw [List.length_drop, hL]
  refine ⟨⟨⟨va', cap', ?_, ?_, ⟨?_, ?_, ?_⟩, ?_⟩, ?_, ?_, ?_, h.lt, ?_⟩, Kr.set _ _ _ _⟩
  · rw [hlen]
    exact World.cell?_setCell_same' _ _ _ (by rw [hv]; rfl)
  · rw [hlen]
    rcases hw with ⟨_, e, e2⟩ | ⟨_, e⟩ <;> omega
  · have := hby.small
    omega
  · intro i hi
    rw [hlen] at hi
    rcases hw with ⟨_, e, e2⟩ | ⟨e1, e⟩
    · omega
    · obtain ⟨b, o, e2, hb, hcell⟩ := hby.cells (size + i) (by omega)
      refine ⟨b, o + size, by rw [e1, e2]; simp [Addr.add, Nat.ne_of_gt hp], by simpa using hb, ?_⟩
      rw [List.getElem_drop]
      exact (World.cell?_of_block (w := w) (hk b (hne b o e2).1)).trans (by rw [Nat.add_assoc]; exact hcell)
  · exact fun d hd => hby.u8 d (List.mem_of_mem_drop hd)
  · intro b o e
    rcases hw with ⟨e1, _⟩ | ⟨e1, _⟩
    · exact hne b o (e1 ▸ e)
    · obtain ⟨b1, o1, e2, _, _⟩ := hby.cells 0 (by omega)
      rw [e1, e2] at e
      simp [Addr.add, Nat.ne_of_gt hp] at e
      rw [← e.1]
      exact hne b1 o1 e2
  · rw [World.cell?_setCell_other (h := by simp)]
    exact h.short
  · rw [World.frozen?_setCell]
    exact h.fz0
  · rw [World.frozen?_setCell]
    exact h.fz1
  · simpa using h.le
set_option maxRecDepth 100000 in
set_option maxHeartbeats 4000000 in
theorem number_any (va : Option Addr) (cap : Nat) (bs : List Nat) (size : Nat) (hl : bs.length = size) (hs8 : size ≤ 7) (w : World) (h : By w va bs) :
    Calls Try.prog 66 #[.slice va size cap] w fun e w' => e = .returned (.int .i64 (num bs : Nat)) ∧ w' = w := by
  have HX : Hid (By w va bs) := h
  have HLX : Hid (bs.length = size) := hl
  clear h hl
  go_enter Try.func66, Try.ntmps66
  go_wp2_with fail
  go_loopw [3, 8] (fun nv iv wr => ∃ (k : Nat), k ≤ size ∧ iv = .int .i64 k ∧ nv = .int .i64 (num (bs.take k) : Nat) ∧ wr = w) (fun _ i _ => size - (intOf i).toNat)
  case atStart => exact ⟨0, by omega, rfl, rfl, rfl⟩
  case round =>
    obtain ⟨k, hk, rfl, rfl, hwr⟩ := hrel
    subst hwr
    by_cases hlt : k < size
    · have hkd : k < bs.length := by rw [HLX.out]; omega
      obtain ⟨b, o, rfl, hbl, c0⟩ := HX.out.cells k hkd
      have hu := HX.out.u8 _ (List.getElem_mem hkd)
      have hT : num (bs.take (k + 1)) = num (bs.take k) * 256 + bs[k] := num_take bs k hkd
      have hlt2 : num (bs.take k) < 281474976710656 := Nat.lt_of_lt_of_le (num_lt HX.out.u8 k (by omega)) (Nat.pow_le_pow_right (n := 256) (j := 6) (by decide) (by omega))
      obtain ⟨c, hc⟩ : ∃ c, bs[k] = c := ⟨_, rfl⟩
      obtain ⟨t, ht⟩ : ∃ t, num (bs.take k) = t := ⟨_, rfl⟩
      rw [hc] at c0 hu hT
      rw [ht] at hT hlt2 ⊢
      have HT : Hid (num (bs.take (k + 1)) = t * 256 + c) := hT
      have hkk : (k : Int) < size := by omega
      have kk0 : (0 : Int) ≤ k := by omega
      have w8 : IntKind.i64.wrap ((t : Int) * 256) = (t : Int) * 256 := by rw [IntWalk.i64_in _ (by omega)]
      have HOR : Hid (bits .or .i64 ((t : Int) * 256) (c : Int) = ((t * 256 + c : Nat) : Int)) := bits_or8 t c (by omega) hu
      clear hc ht hT
      go_wp2_with fail
      exact ⟨⟨k + 1, by omega, by simp, by rw [HT.out, ← HOR.out], by first | trivial | rfl⟩, by simp [intOf]; omega⟩
    · obtain rfl : size = k := by omega
      have HN : Hid (num (bs.take size) = num bs) := by show _ = _; rw [← HLX.out, List.take_length]
      rw [HN.out]
      go_wp2_with fail
      go_ret
      exact ⟨rfl, rfl⟩
set_option maxRecDepth 100000 in
set_option maxHeartbeats 4000000 in
theorem rnum_any (M br : Nat) (bs : List Nat) (short : Bool) (size : Nat) (hs : 0 < size) (hs8 : size ≤ 7) (L : Nat) (hL : bs.length = L) (hle : size ≤ L) (w : World) (h : Rd M w br bs short) :
    Calls Try.prog 56 #[.pointer (some ⟨br, 0, none⟩), .int .i64 (size : Int)] w fun e w' => e = .returned (.int .i64 (num (bs.take size) : Nat)) ∧ Rd M w' br (bs.drop size) short ∧ Kr br w w' := by
  obtain ⟨va, cap, hv, hcap, hby, hne⟩ := h.rest
  have H : Hid (Rd M w br bs short) := h
  have HLX : Hid (bs.length = L) := hL
  rw [hL] at hv hcap
  have hfz := h.fz0
  obtain ⟨t, ht⟩ : ∃ t, num (bs.take size) = t := ⟨_, rfl⟩
  have HN : Hid (∀ c, Calls Try.prog 66 #[.slice va size c] w fun e w' => e = .returned (.int .i64 (t : Nat)) ∧ w' = w) := fun c => by
    have h1 : By w va (bs.take size) := ⟨by rw [List.length_take]; have := hby.small; omega, fun i hi => by
      rw [List.length_take] at hi
      obtain ⟨b, o, e, hl, hc⟩ := hby.cells i (by omega)
      exact ⟨b, o, e, hl, by rw [List.getElem_take]; exact hc⟩, fun d hd => hby.u8 d (List.mem_of_mem_take hd)⟩
    have := number_any va c (bs.take size) size (by rw [List.length_take, hL]; omega) hs8 w h1
    rw [ht] at this
    exact this
  rw [ht]
  clear h hby hne hL ht
  have hle1 : ¬ ((L : Int) < (size : Int)) := by omega
  have hle2 : (size : Int) ≤ (L : Int) := by omega
  have hle3 : (size : Int) ≤ (cap : Int) := by omega
  have hle4 : size ≤ cap := by omega
  have HC : Hid (L ≤ cap) := hcap
  go_enter Try.func56, Try.ntmps56
  go_wp2_with fail
  refine (HN.out _).mono ?_
  rintro e w' ⟨rfl, rfl⟩
  go_wp2_with fail
  · have f := rd_next H.out HLX.out hv hle hs HC.out va 0 (.inl ⟨rfl, rfl, by first | rfl | omega⟩)
    go_ret
    exact ⟨rfl, f⟩
  · have f := rd_next H.out HLX.out hv hle hs HC.out _ (cap - size) (.inr ⟨rfl, rfl⟩)
    go_ret
    exact ⟨rfl, f⟩
theorem rd_short {M : Nat} {w : World} {br : Nat} {bs : List Nat} {short : Bool} (h : Rd M w br bs short) :
    Rd M ((w.setCell ⟨br, 0, none⟩ (.slice none 0 0)).setCell ⟨br, 1, none⟩ (.bool true)) br [] true ∧ Kr br w ((w.setCell ⟨br, 0, none⟩ (.slice none 0 0)).setCell ⟨br, 1, none⟩ (.bool true)) := by
  obtain ⟨va0, cap0, hv0, hc0, hby, hne⟩ := h.rest
  refine ⟨⟨⟨none, 0, ?_, Nat.le_refl _, ⟨by simp, fun i hi => by simp at hi, fun d hd => by simp at hd⟩, fun b o e => by cases e⟩, ?_, ?_, ?_, h.lt, ?_⟩, (Kr.set _ _ _ _).trans (Kr.set _ _ _ _)⟩
  · rw [World.cell?_setCell_other (h := by simp)]
    exact World.cell?_setCell_same' _ _ _ (by rw [hv0]; rfl)
  · exact World.cell?_setCell_same' _ _ _ (by rw [World.cell?_setCell_other (h := by simp), h.short]; rfl)
  · rw [World.frozen?_setCell, World.frozen?_setCell]
    exact h.fz0
  · rw [World.frozen?_setCell, World.frozen?_setCell]
    exact h.fz1
  · simpa using h.le
set_option maxRecDepth 100000 in
set_option maxHeartbeats 4000000 in
theorem rnum_short (M br : Nat) (bs : List Nat) (short : Bool) (size : Nat) (L : Nat) (hL : bs.length = L) (hle : L < size) (w : World) (h : Rd M w br bs short) :
    Calls Try.prog 56 #[.pointer (some ⟨br, 0, none⟩), .int .i64 (size : Int)] w fun e w' => e = .returned (.int .i64 0) ∧ Rd M w' br [] true ∧ Kr br w w' := by
  obtain ⟨va, cap, hv, hcap, hby, hne⟩ := h.rest
  have H : Hid (Rd M w br bs short) := h
  rw [hL] at hv
  have hfz := h.fz0
  have hfz1 := h.fz1
  have hv1 := h.short
  clear h hby hne hcap
  have hle1 : (L : Int) < (size : Int) := by omega
  go_enter Try.func56, Try.ntmps56
  go_wp2_with fail
  have f := rd_short H.out
  go_ret
  exact ⟨rfl, f⟩
/-- what a reader has left, and whether it fell short -/
abbrev Rst := List Nat × Bool
def rdV (n : Nat) (r : Rst) : Nat := if n ≤ r.1.length then num (r.1.take n) else 0
def rdR (n : Nat) (r : Rst) : Rst := if n ≤ r.1.length then (r.1.drop n, r.2) else ([], true)
/-- a reader, since a world -/
structure RI (M br : Nat) (w : World) (r : Rst) (W : World) : Prop where
  rd : Rd M W br r.1 r.2
  kr : Kr br w W
theorem RI.num {M br : Nat} {w : World} {r : Rst} {W : World} (h : RI M br w r W) (size : Nat) (sz : Int) (hs : ((size : Nat) : Int) = sz) (h0 : 0 < size) (h7 : size ≤ 7) :
    Calls Try.prog 56 #[.pointer (some ⟨br, 0, none⟩), .int .i64 sz] W fun e w' => e = .returned (.int .i64 (rdV size r : Nat)) ∧ RI M br w (rdR size r) w' := by
  subst hs
  by_cases hle : size ≤ r.1.length
  · refine (rnum_any M br r.1 r.2 size h0 h7 _ rfl hle W h.rd).mono ?_
    rintro e w' ⟨rfl, h1, h2⟩
    unfold rdV rdR
    rw [if_pos hle, if_pos hle]
    exact ⟨rfl, h1, h.kr.trans h2⟩
  · refine (rnum_short M br r.1 r.2 size _ rfl (by omega) W h.rd).mono ?_
    rintro e w' ⟨rfl, h1, h2⟩
    unfold rdV rdR
    rw [if_neg hle, if_neg hle]
    exact ⟨rfl, h1, h.kr.trans h2⟩
theorem RI.low {M br : Nat} {w : World} {r : Rst} {W W' : World} (h : RI M br w r W) (hb : Below W.heap.size W W') : RI M br w r W' :=
  ⟨h.rd.low (hb.mono h.rd.le), ⟨h.kr.str.trans (hb.mono (Nat.zero_le _)), fun b hl hn => (hb.block b (Nat.lt_of_lt_of_le hl h.kr.str.size)).trans (h.kr.block b hl hn)⟩⟩
theorem RI.alloc {M br : Nat} {w : World} {r : Rst} {W : World} (h : RI M br w r W) (o : Obj) : RI M br w r (W.alloc o) := h.low ((Below.refl _ W).alloc (Nat.le_refl _) o)
theorem RI.drew {M br : Nat} {w : World} {r : Rst} {W : World} (h : RI M br w r W) : RI M br w r W.drew := h.low (drew_bel W)
/-- a world that may be turned above its base -/
theorem RI.high {M br : Nat} {w : World} {r : Rst} {W W' : World} (h : RI M br w r W) (hM : M ≤ w.heap.size) (hb : Below w.heap.size W W') : RI M br w r W' :=
  ⟨h.rd.low (hb.mono hM), ⟨h.kr.str.trans (hb.mono (Nat.zero_le _)), fun b hl hn => (hb.block b hl).trans (h.kr.block b hl hn)⟩⟩
theorem RI.keep {M br : Nat} {w : World} {r : Rst} {W : World} (h : RI M br w r W) {t : Nat} {o : Obj} (ho : w.heap[t]? = some o) (hn : ¬ t = br) : W.heap[t]? = some o := (h.kr.block t (Array.getElem?_eq_some_iff.1 ho).1 hn).trans ho
end Go.Proofs.Ytagfdmkgnedlbae.Ls
