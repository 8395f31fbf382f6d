/- carryOut: what it leaves. -/
import Derived.Test.YtjhdjbhpofhiaabFbD
namespace Go.Proofs.Ytjhdjbhpofhiaab.Fb
open Go.ChangeShapes Go.WideShapes Go.ChangeAt Go.RowKit Go.Joins Go.Proofs.Ytjhdjbhpofhiaab.PM Go.Proofs.Ytjhdjbhpofhiaab.Ask
set_option linter.unusedVariables false

/-- nothing old has turned but the table's cell and its memory's own block -/
structure Kp (bt : Nat) (w : World) (own : Option Nat) (w' : World) (own' : Option Nat) : Prop where
  str : Below 0 w w'
  now : own' = own ∨ ∃ g, own' = some g ∧ w.heap.size ≤ g
  block : ∀ b, b < w.heap.size → b ≠ bt → some b ≠ own → w'.heap[b]? = w.heap[b]?
  oth : ∀ o, 0 < o → w'.cell? ⟨bt, o, none⟩ = w.cell? ⟨bt, o, none⟩ ∧ w'.frozen? ⟨bt, o, none⟩ = w.frozen? ⟨bt, o, none⟩
theorem Kp.size {bt : Nat} {w w' : World} {own own' : Option Nat} (h : Kp bt w own w' own') : w.heap.size ≤ w'.heap.size := h.str.size
theorem Kp.refl (bt : Nat) (w : World) (own : Option Nat) : Kp bt w own w own := ⟨Below.refl _ _, .inl rfl, fun _ _ _ _ => rfl, fun _ _ => ⟨rfl, rfl⟩⟩
theorem Kp.bel {bt : Nat} {w w' : World} {own : Option Nat} (h : Below w.heap.size w w') (hbt : bt < w.heap.size) : Kp bt w own w' own := ⟨h.mono (Nat.zero_le _), .inl rfl, fun b hb _ _ => h.block b hb, fun _ _ => ⟨World.cell?_of_block (w := w) (h.block bt hbt), World.frozen?_of_block (w := w) (h.block bt hbt)⟩⟩
theorem Kp.ne {bt : Nat} {w w' : World} {own own' : Option Nat} (h : Kp bt w own w' own') {b : Nat} (hb : b < w.heap.size) (ho : some b ≠ own) : some b ≠ own' := by
  rcases h.now with e | ⟨g, e, hg⟩
  · rw [e]; exact ho
  · rw [e]; intro e2; cases e2; omega
theorem Kp.trans {bt : Nat} {w w1 w2 : World} {o o1 o2 : Option Nat} (h : Kp bt w o w1 o1) (k : Kp bt w1 o1 w2 o2) : Kp bt w o w2 o2 := by
  refine ⟨h.str.trans k.str, ?_, fun b hb hn ho => (k.block b (Nat.lt_of_lt_of_le hb h.size) hn (h.ne hb ho)).trans (h.block b hb hn ho), fun o h0 => ⟨(k.oth o h0).1.trans (h.oth o h0).1, (k.oth o h0).2.trans (h.oth o h0).2⟩⟩
  rcases k.now with e | ⟨g, e, hg⟩
  · rw [e]; exact h.now
  · exact .inr ⟨g, e, Nat.le_trans h.size hg⟩
theorem Kp.cell {bt : Nat} {w w' : World} {own own' : Option Nat} (h : Kp bt w own w' own') {b o : Nat} (hb : b < w.heap.size) (hn : b ≠ bt) (ho : some b ≠ own) : w'.cell? ⟨b, o, none⟩ = w.cell? ⟨b, o, none⟩ := World.cell?_of_block (w := w) (h.block b hb hn ho)

theorem Kp.below {bt : Nat} {w w' : World} {own own' : Option Nat} (h : Kp bt w own w' own') {N : Nat} (hN : N ≤ w.heap.size) (hb : N ≤ bt) (ho : ∀ g, own = some g → N ≤ g) : Below N w w' :=
  ⟨h.str.os, h.str.tape, h.str.output, h.str.size, fun b h1 => h.block b (by omega) (by omega) (fun e => by have := ho b e.symm; omega)⟩

/-- a list of writes -/
structure Wrs (bt : Nat) (own : Option Nat) (w : World) (a : Option Addr) (ws : List (Nat × Int)) : Prop where
  small : ws.length ≤ 9223372036854775807
  cells : ∀ i (h : i < ws.length), ∃ b o, a = some ⟨b, o, none⟩ ∧ b < w.heap.size ∧ b ≠ bt ∧ some b ≠ own ∧ w.cell? ⟨b, o + i * 2, none⟩ = some (.int .i64 (ws[i].1 : Int)) ∧ w.cell? ⟨b, o + i * 2 + 1, none⟩ = some (.int .u32 ws[i].2)
  u32 : ∀ y ∈ ws, In32 y.2
theorem Wrs.kp {bt : Nat} {own own' : Option Nat} {w w' : World} {a : Option Addr} {ws : List (Nat × Int)} (h : Wrs bt own w a ws) (k : Kp bt w own w' own') : Wrs bt own' w' a ws :=
  ⟨h.small, fun i hi => by
    obtain ⟨b, o, e, hlt, hn, ho, h0, h1⟩ := h.cells i hi
    exact ⟨b, o, e, Nat.lt_of_lt_of_le hlt k.size, hn, k.ne hlt ho, (k.cell hlt hn ho).trans h0, (k.cell hlt hn ho).trans h1⟩, h.u32⟩

theorem Mem.bel {base bt : Nat} {w w' : World} {ms : List Int} {own : Option Nat} (h : Mem base w bt ms own) (hb : Below w.heap.size w w') : Mem base w' bt ms own := by
  obtain ⟨v, hc, hr, ho⟩ := h.row
  exact ⟨⟨v, cell_bel hc hb, hr.kept (grown_bel hb none) (by cases h : v.ownBlock with | none => exact .inl rfl | some y => exact .inr (by simp)), ho⟩, (frozen_kept hc (grown_bel hb none) (fun r e => by cases e)).trans h.fz, h.lt, Nat.le_trans h.le hb.size, h.u32⟩

def putsP (ms : List Int) (ws : List (Nat × Int)) : List Int := ws.foldl (fun m y => putP m y.1 y.2) ms
theorem putsP_snoc {ms : List Int} {ws : List (Nat × Int)} {k : Nat} (h : k < ws.length) : putsP ms (ws.take (k + 1)) = putP (putsP ms (ws.take k)) ws[k].1 ws[k].2 := by
  unfold putsP; rw [List.take_succ_eq_append_getElem h, List.foldl_append]; rfl
theorem putP_len (ms : List Int) (i : Nat) (x : Int) : (putP ms i x).length = max ms.length (i + 1) := by
  unfold putP; simp; omega
theorem putsP_len {ms : List Int} {B : Nat} (hm : ms.length ≤ B) : ∀ {ws : List (Nat × Int)}, (∀ y ∈ ws, y.1 + 1 ≤ B) → (putsP ms ws).length ≤ B := by
  intro ws
  induction ws generalizing ms with
  | nil => intro _; exact hm
  | cons y ws ih => intro h; exact ih (by rw [putP_len]; have := h y (by simp); omega) (fun z hz => h z (by simp [hz]))

set_option maxRecDepth 100000 in
set_option maxHeartbeats 1000000 in
theorem carry_any (base bt : Nat) (own : Option Nat) (ms : List Int) (a : Option Addr) (cap : Nat) (ws : List (Nat × Int)) (B : Nat) (hB : B * 4 ≤ 140737488355328) (hms : ms.length ≤ B) (hws : ∀ y ∈ ws, y.1 + 1 ≤ B) (L : Nat) (hL : ws.length = L) (w : World) (h : Mem base w bt ms own) (hw : Wrs bt own w a ws) :
    Calls Try.prog 66 #[.pointer (some ⟨bt, 0, none⟩), .slice a L cap] w fun e w' => e = .returned (.slice a L cap) ∧ ∃ own', Mem base w' bt (putsP ms ws) own' ∧ Kp bt w own w' own' := by
  have H : Hid (Mem base w bt ms own) := h
  have HW : Hid (Wrs bt own w a ws) := hw
  have HWS : Hid (∀ y ∈ ws, y.1 + 1 ≤ B) := hws
  have hsm := hw.small
  rw [hL] at hsm
  have HL : Hid (ws.length = L) := hL
  clear h hw hL hws
  go_enter Try.func66, Try.ntmps66
  go_wp2_with fail
  go_loopw [9] (fun i wr => ∃ (k : Nat) (own' : Option Nat), k ≤ L ∧ i = .int .i64 k ∧ Mem base wr bt (putsP ms (ws.take k)) own' ∧ Kp bt w own wr own') (fun i _ => L - (intOf i).toNat)
  case atStart => exact ⟨0, own, by omega, rfl, H.out, Kp.refl _ _ _⟩
  case round =>
    obtain ⟨k, own', hk, rfl, hm, hkp⟩ := hrel
    have HM : Hid (Mem base wr bt (putsP ms (ws.take k)) own') := hm
    have HK : Hid (Kp bt w own wr own') := hkp
    clear hm hkp
    by_cases hlt : k < L
    · have hkd : k < ws.length := by rw [HL.out]; exact hlt
      obtain ⟨b, o, rfl, hbl, -, -, c0, c1⟩ := (HW.out.kp HK.out).cells k hkd
      have hkk : (k : Int) < L := by omega
      have kk0 : (0 : Int) ≤ k := by omega
      go_wp2_with fail
      obtain ⟨wB, hwB⟩ : ∃ wB, wr.alloc (Obj.cells #[.int .i64 (ws[k].1 : Int), .int .u32 ws[k].2] 64) = wB := ⟨_, rfl⟩
      have hb : Below wr.heap.size wr wB := by rw [← hwB]; exact (Below.refl _ wr).alloc (Nat.le_refl _) _
      have b0 : wB.cell? ⟨wr.heap.size, 0, none⟩ = some (.int .i64 (ws[k].1 : Int)) := by rw [← hwB]; simp
      have b1 : wB.cell? ⟨wr.heap.size, 1, none⟩ = some (.int .u32 ws[k].2) := by rw [← hwB]; simp
      have hyI := HW.out.u32 _ (List.getElem_mem hkd)
      have hyB := HWS.out _ (List.getElem_mem hkd)
      have hlen : (putsP ms (ws.take k)).length ≤ B := putsP_len hms (fun y hy => HWS.out y (List.mem_of_mem_take hy))
      have hbd : Below wr.heap.size wr wB.drew := hb.trans ⟨rfl, rfl, rfl, Nat.le_refl _, fun _ _ => rfl⟩
      have HPUT : Hid (Calls _ _ _ _ _) := put_any base bt own' (putsP ms (ws.take k)) ws[k].1 ws[k].2 hyI.1 hyI.2 (by omega) (by omega) wB.drew (HM.out.bel hbd)
      rw [hwB]
      clear hwB c0 c1
      go_still_tail 4, (by kernel_rfl)
      go_wp2_with (go_at_call 77; refine HPUT.out.mono ?_; rintro e w5 ⟨⟨vv, rfl⟩, g, hgo, hm5, hkeep5, hsz5, hoth5⟩)
      have HK5 : Hid (Kp bt w own w5 (some g)) := HK.out.trans ((Kp.bel hbd (Nat.lt_of_lt_of_le HM.out.lt HM.out.le)).trans ⟨hsz5, hgo.elim (fun h => .inl h.symm) (fun h => .inr ⟨g, rfl, h⟩), hkeep5, hoth5⟩)
      have HM5 : Hid (Mem base w5 bt (putsP ms (ws.take (k + 1))) (some g)) := by rw [putsP_snoc hkd]; exact hm5
      go_roundw
      case rel => exact ⟨k + 1, some g, by omega, by simp, HM5.out, HK5.out⟩
      case measure => simp [intOf]; omega
    · obtain rfl : k = L := by omega
      go_wp2_with fail
      go_ret
      refine ⟨rfl, own', ?_, HK.out⟩
      have := HM.out
      rwa [List.take_of_length_le (by rw [HL.out]; exact Nat.le_refl _)] at this
end Go.Proofs.Ytjhdjbhpofhiaab.Fb
