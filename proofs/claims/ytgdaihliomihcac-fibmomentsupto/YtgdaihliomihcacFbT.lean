/- Touched's function literal: what it leaves. -/
import Derived.Test.YtgdaihliomihcacFbE
import Derived.Maps.AppendAt
namespace Go.Proofs.Ytgdaihliomihcac.Fb
open Go.ChangeShapes Go.WideShapes Go.ChangeAt Go.RowKit Go.Joins Go.Proofs.Ytgdaihliomihcac.PM Go.Proofs.Ytgdaihliomihcac.Ask
set_option linter.unusedVariables false

theorem infoN : (Try.prog.info? 3).map (fun i => (i.zero, i.size, i.bytes)) = some (some (.int .i64 0), 1, 8) := by kernel_rfl
/-- numbers as cells -/
def ics (xs : List Int) : List Value := xs.map (fun x => Value.int .i64 x)
theorem ics_snoc (xs : List Int) (x : Int) : ics (xs ++ [x]) = ics xs ++ [.int .i64 x] := by simp [ics]
theorem ics_len (xs : List Int) : (ics xs).length = xs.length := by simp [ics]
/-- a list of places that the call has made lies in its box -/
structure Tb (base : Nat) (w : World) (bp : Nat) (xs : List Int) (own : Option Nat) : Prop where
  row : ∃ v, w.cell? ⟨bp, 0, none⟩ = some v ∧ w.ownsRow base 3 1 v xs.length (ics xs) ∧ v.ownBlock = own
  fz : w.frozen? ⟨bp, 0, none⟩ = false
  lt : bp < base
  le : base ≤ w.heap.size
theorem Tb.bel {base bp : Nat} {w w' : World} {xs : List Int} {own : Option Nat} (h : Tb base w bp xs own) (hb : Below w.heap.size w w') : Tb base w' bp xs own := by
  obtain ⟨v, hc, hr, ho⟩ := h.row
  exact ⟨⟨v, cell_bel hc hb, hr.kept (grown_bel hb none) (by cases h : v.ownBlock with | none => exact .inl rfl | some y => exact .inr (by simp)), ho⟩, (frozen_kept hc (grown_bel hb none) (fun r e => by cases e)).trans h.fz, h.lt, Nat.le_trans h.le hb.size⟩

/-- one number is appended to a list that the call has made -/
theorem app_int {ops : Array Oper} {rest : List Oper} {o : Oper} {a : Act} {Q : Exit → Act → World → Prop} (hgd : o.guard = none) (s x : Operand)
    (ho : o.op = .call { callee := .builtin .append, args := #[s, x], argTypes := #[51, 51] }) (base : Nat) (v : Value) (xs : List Int) (y : Int) (w : World) (hs : a.eval s = v) (hown : w.ownsRow base 3 1 v xs.length (ics xs))
    (tb : TypeId) (H : Nat) (hx : a.eval x = .slice (some ⟨H, 0, none⟩) 1 1) (hH : w.heap.size = H) (hby : (xs.length + 1) * 8 ≤ 140737488355328) (hbase : base ≤ w.heap.size)
    (h : ∀ g cap w', w'.ownsRow base 3 1 (.slice (some ⟨g, 0, none⟩) (xs.length + 1) cap) (xs.length + 1) (ics (xs ++ [y])) → Hid (w.grownBy w' v.ownBlock) → Hid (v.ownBlock = some g ∨ w.heap.size ≤ g) →
      wpList Try.prog ops Q rest (a.put o.dst (.slice (some ⟨g, 0, none⟩) (xs.length + 1) cap)) w') :
    wpList Try.prog ops Q (o :: rest) a (w.alloc (.cells #[.int .i64 y] tb)) := by
  subst hH
  obtain ⟨i0, hi, hz0, hz1, hz2⟩ := info_parts infoN
  refine wpList_append_own_at _ hgd s x 51 ho base 3 i0 _ 1 8 Try.underlying51 hi hz0 hz1 hz2 rfl (by decide) v _ _ hs (World.ownsRow.alloc hown _) ⟨w.heap.size, 0, none⟩ 1 1 [.int .i64 y] hx rfl (by
      intro j u' hj
      match j, hj with
      | 0, hj => simp at hj; subst hj; simp [Addr.add]) (by intro u' hu'; simp at hu'; rcases hu' with rfl; rfl) (by unfold maxLen; omega) hby (by simp; omega) ?_
  intro v' w' hown' hg _ hat
  rcases hown'.2 with ⟨-, hn⟩ | ⟨g, cap, cur, rfl, hbg, hgb, -⟩
  · simp at hn
  · refine h g cap w' (by rw [ics_snoc]; exact hown') ?_ ?_
    · refine ⟨hg.os, hg.tape, hg.output, by have := hg.size; simp at this; omega, fun k hk hne => ?_⟩
      rw [hg.block k (by simp; omega) hne]
      exact Below.heap_alloc _ _ _ hk
    · rcases hat with h | h
      · exact .inl h.symm
      · refine .inr ?_
        simp [Value.ownBlock] at h
        omega

set_option maxRecDepth 100000 in
set_option maxHeartbeats 1000000 in
theorem touch_any (base bp : Nat) (own : Option Nat) (xs : List Int) (i : Int) (hx : (xs.length + 1) * 8 ≤ 140737488355328) (w : World) (h : Tb base w bp xs own) :
    Calls Try.prog 36 #[.int .i64 i, .pointer (some ⟨bp, 0, none⟩)] w fun e w' => (∃ v, e = .returned v) ∧ ∃ own', Tb base w' bp (xs ++ [i]) own' ∧ Kp bp w own w' own' := by
  have H : Hid (Tb base w bp xs own) := h
  obtain ⟨v, c0, hrow, hown⟩ := h.row
  have hlt := h.lt
  have hle := h.le
  have hfz := h.fz
  have HROW : Hid (w.ownsRow base 3 1 v xs.length (ics xs)) := hrow
  have HOWN : Hid (v.ownBlock = own) := hown
  clear h hrow hown
  obtain ⟨va, vc, rfl⟩ : ∃ va vc, v = .slice va xs.length vc := by
    rcases ownsRow_forms HROW.out with ⟨rfl, h0⟩ | ⟨g, cap, rfl⟩
    · exact ⟨none, 0, by rw [h0]⟩
    · exact ⟨_, _, rfl⟩
  go_enter Try.func36, Try.ntmps36
  go_wp2_with (at_builtin; refine app_int rfl _ _ rfl base (.slice va xs.length vc) xs i w rfl HROW.out 3 w.heap.size rfl rfl hx hle ?_)
  intro g cap w5 hown5 hg5 hgg
  have HOWN5 : Hid (w5.ownsRow base 3 1 (.slice (some ⟨g, 0, none⟩) (xs.length + 1) cap) (xs.length + 1) (ics (xs ++ [i]))) := hown5
  have hnb : some bp ≠ Value.ownBlock (.slice va xs.length vc) := fun e => by have := (HROW.out.lt _ e.symm).1; omega
  have hltw : bp < w.heap.size := by omega
  have hc5 : w5.cell? ⟨bp, 0, none⟩ = some (.slice va xs.length vc) := (World.cell?_of_block (w := w) (hg5.out.block bp hltw hnb)).trans c0
  have hf5 : w5.frozen? ⟨bp, 0, none⟩ = false := (World.frozen?_of_block (w := w) (hg5.out.block bp hltw hnb)).trans hfz
  clear hown5 c0 hfz
  go_wp2_with fail
  go_end0
  have hg6 := grownBy_setCell' w5 bp (.slice (some ⟨g, 0, none⟩) (xs.length + 1) cap)
  have hgb := (HOWN5.out.lt g rfl).1
  refine ⟨⟨_, rfl⟩, some g, ⟨⟨.slice (some ⟨g, 0, none⟩) (xs.length + 1) cap, World.cell?_setCell_same' _ _ _ (by rw [hc5]; rfl), ?_, rfl⟩, by rw [World.frozen?_setCell]; exact hf5, hlt, ?_⟩, ?_, ?_, ?_, ?_⟩
  · have := HOWN5.out.kept hg6 (.inr (by simp [Value.ownBlock]; omega))
    rw [List.length_append]; exact this
  · exact Nat.le_trans hle (Nat.le_trans hg5.out.size hg6.size)
  · exact (((Below.refl 0 w).grown hg5.out (Nat.zero_le _) (fun _ _ => Nat.zero_le _)).grown hg6 (Nat.zero_le _) (fun _ _ => Nat.zero_le _))
  · rcases hgg.out with h | h
    · exact .inl (by rw [← HOWN.out, h])
    · exact .inr ⟨g, rfl, h⟩
  · intro b hb hn ho
    rw [hg6.block b (Nat.lt_of_lt_of_le hb hg5.out.size) (fun e => by cases e; exact hn rfl)]
    exact hg5.out.block b hb (by rw [HOWN.out]; exact ho)
  · intro o ho
    have e5 := hg5.out.block bp hltw hnb
    rw [World.cell?_setCell_other (h := fun e => by cases e; omega), World.frozen?_setCell]
    exact ⟨World.cell?_of_block (w := w) e5, World.frozen?_of_block (w := w) e5⟩
end Go.Proofs.Ytgdaihliomihcac.Fb
