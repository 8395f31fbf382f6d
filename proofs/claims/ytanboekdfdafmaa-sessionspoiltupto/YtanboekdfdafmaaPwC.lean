/- Taking pieces off the front of bytes: reader.cut, number, piece. -/
import Derived.Test.YtanboekdfdafmaaPwB
import Derived.Test.YtanboekdfdafmaaPvJ
import Derived.WalkLawsBesides
namespace Go.Proofs.Ytanboekdfdafmaa.Pv
open Go.ChangeShapes Go.WideShapes Go.ChangeAt Go.RowKit Go.Joins Go.Proofs.Ytanboekdfdafmaa.PM Go.Proofs.Ytanboekdfdafmaa.Ask Go.Proofs.Ytanboekdfdafmaa.Ge
set_option linter.unusedVariables false

/-- the panic of the reader -/
def pan : Ending := .panicked [{ v := .iface 59 (.int .i64 4), recovered := false }]
/-- a reader: what is left of the bytes, which lie below M -/
structure Rdr (M : Nat) (w : World) (br : Nat) (a : Option Addr) (n c : Nat) (xs : List Nat) : Prop where
  cell : w.cell? ⟨br, 0, none⟩ = some (.slice a n c)
  fro : w.frozen? ⟨br, 0, none⟩ = false
  l : Lst E8 w a xs
  len : xs.length = n
  cap : n ≤ c
  nil : a = none → n = 0 ∧ c = 0
  low : ∀ ad, a = some ad → ad.block < M
  ge : M ≤ br
  lt : br < w.heap.size
  u8 : ∀ d ∈ xs, d < 256
/-- nothing old but the reader has turned -/
structure Kr (w : World) (br : Nat) (w' : World) : Prop where
  str : Below 0 w w'
  block : ∀ b, b < w.heap.size → b ≠ br → w'.heap[b]? = w.heap[b]?
theorem Kr.refl (w : World) (br : Nat) : Kr w br w := ⟨Below.refl _ _, fun _ _ _ => rfl⟩
theorem Kr.trans {w w1 w2 : World} {br : Nat} (h : Kr w br w1) (k : Kr w1 br w2) : Kr w br w2 := ⟨h.str.trans k.str, fun b hb hn => (k.block b (Nat.lt_of_lt_of_le hb h.str.size) hn).trans (h.block b hb hn)⟩
theorem Kr.set (br o : Nat) (w : World) (v : Value) : Kr w br (w.setCell ⟨br, o, none⟩ v) := ⟨(Below.refl _ w).setCell (p := ⟨br, o, none⟩) (Nat.zero_le _) v, fun b _ hb => Below.heap_setCell w ⟨br, o, none⟩ _ b hb⟩
theorem Kr.bel {w w1 w2 : World} {br : Nat} (h : Kr w br w1) (hb : Below w1.heap.size w1 w2) : Kr w br w2 := h.trans ⟨hb.mono (Nat.zero_le _), fun b hl _ => hb.block b hl⟩
theorem Kr.below {M br : Nat} {w w' : World} (h : Kr w br w') (hm : M ≤ br) (hw : M ≤ w.heap.size) : Below M w w' := ⟨h.str.os, h.str.tape, h.str.output, h.str.size, fun b hb => h.block b (Nat.lt_of_lt_of_le hb hw) (by omega)⟩
/-- a piece of bytes that lies below M -/
structure Pce (M : Nat) (w : World) (a : Option Addr) (n c : Nat) (xs : List Nat) : Prop where
  p : Pc8 w a n c xs
  cap : n ≤ c
  low : ∀ ad, a = some ad → ad.block < M
  u8 : ∀ d ∈ xs, d < 256
theorem Pce.bel {M : Nat} {w w' : World} {a : Option Addr} {n c : Nat} {xs : List Nat} (h : Pce M w a n c xs) (hb : Below M w w') : Pce M w' a n c xs :=
  ⟨h.p.keep hb.size (fun b o e _ _ => hb.block b (h.low _ e)), h.cap, h.low, h.u8⟩
theorem Rdr.bel {M br n c : Nat} {w w' : World} {a : Option Addr} {xs : List Nat} (h : Rdr M w br a n c xs) (hb : Below M w w') (hbr : w'.heap[br]? = w.heap[br]?) : Rdr M w' br a n c xs :=
  ⟨(World.cell?_of_block (w := w) hbr).trans h.cell, (World.frozen?_of_block (w := w) hbr).trans h.fro, h.l.keep hb.size (fun b o e _ => hb.block b (h.low _ e)), h.len, h.cap, h.nil, h.low, h.ge, Nat.lt_of_lt_of_le h.lt hb.size, h.u8⟩
theorem Rdr.bel2 {M br n c : Nat} {w w' : World} {a : Option Addr} {xs : List Nat} (h : Rdr M w br a n c xs) (hb : Below w.heap.size w w') : Rdr M w' br a n c xs :=
  h.bel (hb.mono (Nat.le_of_lt (Nat.lt_of_le_of_lt h.ge h.lt))) (hb.block br h.lt)
theorem Rdr.mlt {M br n c : Nat} {w : World} {a : Option Addr} {xs : List Nat} (h : Rdr M w br a n c xs) : M ≤ w.heap.size := Nat.le_of_lt (Nat.lt_of_le_of_lt h.ge h.lt)
/-- a new reader of a piece -/
theorem rdr_new {M n c : Nat} {w W : World} {a : Option Addr} {xs : List Nat} (h : Pce M w a n c xs) (hm : M ≤ w.heap.size) (hW : w.alloc (Obj.cells #[.slice a n c] 127) = W) : Rdr M W w.heap.size a n c xs ∧ Below w.heap.size w W ∧ W.heap.size = w.heap.size + 1 := by
  have hb : Below w.heap.size w W := by rw [← hW]; exact (Below.refl _ w).alloc (Nat.le_refl _) _
  refine ⟨⟨?_, ?_, (h.bel (hb.mono hm)).p.l, h.p.len, h.cap, h.p.nil, h.low, hm, ?_, h.u8⟩, hb, ?_⟩
  · rw [← hW]; simp
  · rw [← hW]; unfold World.frozen?; rw [World.alloc_heap_new]; rfl
  · rw [← hW]; simp
  · rw [← hW]; simp
theorem rdr_next {M : Nat} {w : World} {br n c k : Nat} {a : Option Addr} {xs : List Nat} (h : Rdr M w br a n c xs) (hk : k ≤ n) (a' : Option Addr) (c' : Nat) (hw : (a' = a ∧ c' = 0 ∧ c = k) ∨ (a' = a.map (fun x => x.add k) ∧ c' = c - k)) :
    Rdr M (w.setCell ⟨br, 0, none⟩ (.slice a' (n - k : Nat) c')) br a' (n - k) c' (xs.drop k) ∧ Kr w br (w.setCell ⟨br, 0, none⟩ (.slice a' (n - k : Nat) c')) ∧ Pce M (w.setCell ⟨br, 0, none⟩ (.slice a' (n - k : Nat) c')) a k k (xs.take k) := by
  have hkr := Kr.set br 0 w (.slice a' (n - k : Nat) c')
  have hbl : Below M w (w.setCell ⟨br, 0, none⟩ (.slice a' (n - k : Nat) c')) := hkr.below h.ge h.mlt
  have hlen : (xs.drop k).length = n - k := by rw [List.length_drop, h.len]
  have hadd : ∀ x : Addr, (x.add k).block = x.block := fun x => by unfold Addr.add; split <;> rfl
  refine ⟨⟨World.cell?_setCell_same' _ _ _ (by rw [h.cell]; rfl), by rw [World.frozen?_setCell]; exact h.fro, ?_, hlen, ?_, ?_, ?_, h.ge, by simpa using h.lt, fun d hd => h.u8 d (List.mem_of_mem_drop hd)⟩, hkr, ⟨⟨?_, fun e => ?_, ?_⟩, Nat.le_refl _, h.low, fun d hd => h.u8 d (List.mem_of_mem_take hd)⟩⟩
  · refine ⟨by rw [hlen]; have := h.l.small; rw [h.len] at this; omega, fun i hi => ?_⟩
    rw [hlen] at hi
    have hcp := h.cap
    rcases hw with ⟨_, e, e2⟩ | ⟨e1, e⟩
    · omega
    · obtain ⟨b, o, e2, hb, hcell⟩ := h.l.cells (k + i) (by rw [h.len]; omega)
      refine ⟨b, o + k, by rw [e1, e2]; simp [Addr.add], by simpa using hb, fun j hj => ?_⟩
      have hj0 : j = 0 := by have : j < 1 := hj; omega
      subst hj0
      rw [List.getElem_drop]
      refine (World.cell?_of_block (w := w) (hbl.block b (h.low _ e2))).trans ?_
      have h5 := hcell 0 (by decide)
      have hk1 : E8.k = 1 := rfl
      rw [hk1] at h5 ⊢
      rw [← h5]
      congr 2
      omega
  · have hcp := h.cap
    rcases hw with ⟨_, e, e2⟩ | ⟨_, e⟩ <;> omega
  · intro e
    rcases hw with ⟨e1, e3, e2⟩ | ⟨e1, e3⟩
    · rw [e1] at e
      have := h.nil e
      omega
    · rw [e1] at e
      cases a with
      | none => have := h.nil rfl; omega
      | some ad => cases e
  · intro ad e
    rcases hw with ⟨e1, e3, e2⟩ | ⟨e1, e3⟩
    · exact h.low ad (e1 ▸ e)
    · rw [e1] at e
      cases a with
      | none => cases e
      | some ad0 =>
        cases e
        rw [hadd]
        exact h.low _ rfl
  · exact (h.l.keep (by simp) (fun b o e _ => hbl.block b (h.low _ e))).take k
  · have := h.nil e
    omega
  · rw [List.length_take, h.len]; omega
/-- what a reading that goes well leaves -/
def CutPost (M : Nat) (w : World) (br k n : Nat) (xs : List Nat) (e : Ending) (w' : World) : Prop := ∃ p a' c', e = .returned (.slice p k k) ∧ Pce M w' p k k (xs.take k) ∧ Rdr M w' br a' (n - k) c' (xs.drop k) ∧ Kr w br w'
set_option maxRecDepth 100000 in
set_option maxHeartbeats 4000000 in
theorem cut_yes (M br : Nat) (a : Option Addr) (n c : Nat) (xs : List Nat) (k : Nat) (hk : k ≤ n) (w : World) (h : Rdr M w br a n c xs) :
    Calls Try.prog 80 #[.pointer (some ⟨br, 0, none⟩), .int .i64 (k : Int)] w (CutPost M w br k n xs) := by
  have H : Hid (Rdr M w br a n c xs) := h
  have hv := h.cell
  have hfz := h.fro
  have hc := h.cap
  clear h
  have hle1 : ¬ ((n : Int) < (k : Int)) := by omega
  have hle2 : (k : Int) ≤ (n : Int) := by omega
  have hle3 : (k : Int) ≤ (c : Int) := by omega
  have hle4 : k ≤ c := by omega
  have HC : Hid (n ≤ c) := hc
  have HQ : Hid (∀ a' c', ((a' = a ∧ c' = 0 ∧ c = k) ∨ (a' = a.map (fun x => x.add k) ∧ c' = c - k)) → CutPost M w br k n xs (.returned (.slice a k k)) (w.setCell ⟨br, 0, none⟩ (.slice a' (n - k : Nat) c'))) := fun a' c' hw => by
    obtain ⟨h1, h2, h3⟩ := rdr_next H.out hk a' c' hw
    exact ⟨a, a', c', rfl, h3, h1, h2⟩
  go_enter Try.func80, Try.ntmps80
  go_wp2_with fail
  · go_ret
    exact HQ.out _ _ (.inl ⟨rfl, rfl, by first | rfl | omega⟩)
  · go_ret
    exact HQ.out _ _ (.inr ⟨rfl, rfl⟩)
theorem cut_no (M br : Nat) (a : Option Addr) (n c : Nat) (xs : List Nat) (k : Nat) (hk : n < k) (w : World) (h : Rdr M w br a n c xs) :
    Calls Try.prog 80 #[.pointer (some ⟨br, 0, none⟩), .int .i64 (k : Int)] w fun e w' => e = pan ∧ w' = w := by
  have hv := h.cell
  clear h
  have hle1 : (n : Int) < (k : Int) := by omega
  go_enter Try.func80, Try.ntmps80
  go_wp2_with fail
  exact ⟨rfl, rfl, rfl⟩
def NumPost (M : Nat) (w : World) (br k n : Nat) (xs : List Nat) (e : Ending) (w' : World) : Prop := ∃ a' c', e = .returned (.int .i64 (num (xs.take k) : Nat)) ∧ Rdr M w' br a' (n - k) c' (xs.drop k) ∧ Kr w br w'
set_option maxHeartbeats 4000000 in
theorem rnum_yes (M br : Nat) (a : Option Addr) (n c : Nat) (xs : List Nat) (k : Nat) (hk : k ≤ n) (h7 : k ≤ 7) (w : World) (h : Rdr M w br a n c xs) :
    Calls Try.prog 78 #[.pointer (some ⟨br, 0, none⟩), .int .i64 (k : Int)] w (NumPost M w br k n xs) := by
  have H : Hid (Rdr M w br a n c xs) := h
  clear h
  go_enter Try.func78, Try.ntmps78
  go_wp2_with fail
  refine (cut_yes M br a n c xs k hk w H.out).mono ?_
  rintro e w1 ⟨p, a', c', rfl, hp, hr, hkr⟩
  have HQ : Hid (NumPost M w br k n xs (.returned (.int .i64 (num (xs.take k) : Nat))) w1) := ⟨a', c', rfl, hr, hkr⟩
  have HN := wnumber_any p k (xs.take k) k hp.p.len h7 w1 hp.p.l hp.u8
  clear hp hr hkr
  obtain ⟨t, ht⟩ : ∃ t, num (xs.take k) = t := ⟨_, rfl⟩
  rw [ht] at HN HQ
  clear ht
  go_wp2_with fail
  refine HN.mono ?_
  rintro e w5 ⟨rfl, hw5⟩
  rw [hw5]
  clear hw5 w5 HN
  go_wp2_with fail
  go_ret
  exact HQ.out
theorem rnum_no (M br : Nat) (a : Option Addr) (n c : Nat) (xs : List Nat) (k : Nat) (hk : n < k) (w : World) (h : Rdr M w br a n c xs) :
    Calls Try.prog 78 #[.pointer (some ⟨br, 0, none⟩), .int .i64 (k : Int)] w fun e w' => e = pan ∧ w' = w := by
  have H : Hid (Rdr M w br a n c xs) := h
  clear h
  go_enter Try.func78, Try.ntmps78
  go_wp2_with fail
  refine (cut_no M br a n c xs k hk w H.out).mono ?_
  rintro e w1 ⟨rfl, hw1⟩
  rw [hw1]
  clear hw1 w1
  unfold pan
  go_wp2_with fail
  exact ⟨rfl, rfl, rfl⟩
/-- what reading a piece leaves -/
def PiePost (M : Nat) (w : World) (br : Nat) (o : Option (List Nat × List Nat)) (e : Ending) (w' : World) : Prop :=
  match o with
  | none => e = pan ∧ Kr w br w'
  | some (v, r) => ∃ p a' c', e = .returned (.slice p v.length v.length) ∧ Pce M w' p v.length v.length v ∧ Rdr M w' br a' r.length c' r ∧ Kr w br w'
set_option maxHeartbeats 4000000 in
theorem rpiece_any (M br : Nat) (a : Option Addr) (n c : Nat) (xs : List Nat) (w : World) (h : Rdr M w br a n c xs) :
    Calls Try.prog 81 #[.pointer (some ⟨br, 0, none⟩)] w (PiePost M w br (rpiece xs)) := by
  have H : Hid (Rdr M w br a n c xs) := h
  clear h
  go_enter Try.func81, Try.ntmps81
  go_wp2_with fail
  by_cases h2 : 2 ≤ n
  · refine (rnum_yes M br a n c xs 2 h2 (by decide) w H.out).mono ?_
    rintro e w1 ⟨a1, c1, rfl, hr1, hk1⟩
    obtain ⟨t, ht⟩ : ∃ t, num (xs.take 2) = t := ⟨_, rfl⟩
    rw [ht]
    have HR1 : Hid (Rdr M w1 br a1 (n - 2) c1 (xs.drop 2)) := hr1
    have HK1 : Hid (Kr w br w1) := hk1
    have HE : Hid (rpiece xs = rd t (xs.drop 2)) := by show _ = _; unfold rpiece; rw [rd_yes (by rw [H.out.len]; exact h2)]; dsimp only; rw [ht]
    have hl2 : (xs.drop 2).length = n - 2 := hr1.len
    clear ht hr1 hk1
    go_wp2_with fail
    by_cases h3 : t ≤ n - 2
    · refine (cut_yes M br a1 (n - 2) c1 (xs.drop 2) t h3 w1 HR1.out).mono ?_
      rintro e w2 ⟨p, a2, c2, rfl, hp, hr, hkr⟩
      have HQ : Hid (PiePost M w br (rpiece xs) (.returned (.slice p t t)) w2) := by
        show PiePost _ _ _ _ _ _
        rw [HE.out, rd_yes (by rw [hl2]; exact h3)]
        have e1 : ((xs.drop 2).take t).length = t := by rw [List.length_take, hl2]; omega
        have e2 : ((xs.drop 2).drop t).length = n - 2 - t := by rw [List.length_drop, hl2]
        refine ⟨p, a2, c2, ?_, ?_, ?_, HK1.out.trans hkr⟩
        · rw [e1]
        · rw [e1]; exact hp
        · rw [e2]; exact hr
      clear hp hr hkr
      go_wp2_with fail
      go_ret
      exact HQ.out
    · refine (cut_no M br a1 (n - 2) c1 (xs.drop 2) t (by omega) w1 HR1.out).mono ?_
      rintro e w2 ⟨rfl, hw2⟩
      rw [hw2]
      clear hw2 w2
      have HQ : Hid (PiePost M w br (rpiece xs) pan w1) := by
        show PiePost _ _ _ _ _ _
        rw [HE.out, rd_no (by rw [hl2]; exact h3)]
        exact ⟨rfl, HK1.out⟩
      unfold pan at HQ ⊢
      go_wp2_with fail
      exact ⟨rfl, HQ.out⟩
  · refine (rnum_no M br a n c xs 2 (by omega) w H.out).mono ?_
    rintro e w1 ⟨rfl, hw1⟩
    rw [hw1]
    clear hw1 w1
    have HQ : Hid (PiePost M w br (rpiece xs) pan w) := by
      show PiePost _ _ _ _ _ _
      unfold rpiece
      rw [rd_no (by rw [H.out.len]; exact h2)]
      exact ⟨rfl, Kr.refl _ _⟩
    unfold pan at HQ ⊢
    go_wp2_with fail
    exact ⟨rfl, HQ.out⟩
end Go.Proofs.Ytanboekdfdafmaa.Pv
