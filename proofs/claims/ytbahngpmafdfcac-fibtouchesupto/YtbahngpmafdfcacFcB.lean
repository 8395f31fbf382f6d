/- fibHangs at whatever memory. -/
import Derived.Test.YtbahngpmafdfcacFcA
import Derived.Test.YtbahngpmafdfcacFbL
import Derived.OwnWalk
import Derived.Deep.QuietTactic
import Derived.BigQuiet
namespace Go.Proofs.Ytbahngpmafdfcac.Fb
open Go.ChangeShapes Go.WideShapes Go.ChangeAt Go.RowKit Go.Joins Go.Proofs.Ytbahngpmafdfcac.PM Go.Proofs.Ytbahngpmafdfcac.Ask
set_option linter.unusedVariables false

/-- the places told lie there -/
structure HT (w : World) (gt ct : Nat) (T : List Int) (W : World) : Prop where
  bel : Below w.heap.size w W
  tch : W.ownsRow w.heap.size 3 1 (.slice (some ⟨gt, 0, none⟩) T.length ct) T.length (ics T)
theorem HT.next {w : World} {gt ct : Nat} {T : List Int} {W W' : World} (h : HT w gt ct T W) (hb : Below W.heap.size W W') : HT w gt ct T W' :=
  ⟨h.bel.trans (hb.mono h.bel.size), row_kept h.tch (fun g e => hb.block g (h.tch.lt g e).2)⟩
theorem HT.drewN {w : World} {gt ct : Nat} {T : List Int} {W : World} (h : HT w gt ct T W) (q : Nat) : HT w gt ct T (W.drewN q) := h.next ⟨rfl, rfl, rfl, Nat.le_refl _, fun _ _ => rfl⟩
theorem HT.at {w : World} {gt ct : Nat} {T : List Int} {W : World} (h : HT w gt ct T W) (k : Nat) (hk : k < T.length) : W.cell? ⟨gt, k, none⟩ = some (.int .i64 T[k]) := by
  rw [h.tch.cellAt k (by omega)]; simp [ics, hk]
/-- and the other memory -/
structure HS (w : World) (gt ct : Nat) (T : List Int) (go M : Nat) (os : List Int) (W : World) : Prop where
  ht : HT w gt ct T W
  own : OwnU w.heap.size W (.slice (some ⟨go, 0, none⟩) M M) os
  len : os.length = M
  ne : gt ≠ go
section
variable {w : World} {gt ct : Nat} {T : List Int} {go M : Nat} {os : List Int} {W W' : World}
theorem HS.next (h : HS w gt ct T go M os W) (hb : Below W.heap.size W W') : HS w gt ct T go M os W' := ⟨h.ht.next hb, h.own.bel hb, h.len, h.ne⟩
theorem HS.cell (h : HS w gt ct T go M os W) (k : Nat) (hk : k < M) : (∃ y, W.cell? ⟨go, k, none⟩ = some (.int .u32 y)) ∧ W.frozen? ⟨go, k, none⟩ = false := by
  have hrow := h.own.row
  rw [h.len] at hrow
  refine ⟨⟨os[k]'(by rw [h.len]; exact hk), ?_⟩, hrow.frozenAt k⟩
  obtain ⟨b, o, e, -, hc⟩ := h.own.wds.cells k (by rw [h.len]; exact hk)
  cases e; simpa using hc
theorem HS.set (h : HS w gt ct T go M os W) (k : Nat) (hk : k < M) (x : Int) (hx : In32 x) : HS w gt ct T go M (os.set k x) (W.setCell ⟨go, k, none⟩ (.int .u32 x)) := by
  have hgo := h.own.row.lt go rfl
  have hb : ∀ b, b ≠ go → (W.setCell ⟨go, k, none⟩ (.int .u32 x)).heap[b]? = W.heap[b]? := fun b hb => Below.heap_setCell W ⟨go, k, none⟩ _ b hb
  have hrow := h.own.row
  have hl := h.len
  rw [hl] at hrow
  refine ⟨⟨⟨h.ht.bel.os, h.ht.bel.tape, h.ht.bel.output, by simpa using h.ht.bel.size, fun b hlt => (hb b (by omega)).trans (h.ht.bel.block b hlt)⟩, row_kept h.ht.tch (fun g e => hb g (fun e2 => by
    have e' : gt = g := by simpa [Value.ownBlock] using e
    exact h.ne (by rw [e', e2])))⟩, ⟨?_, fun d hd => ?_⟩, by simp [h.len], h.ne⟩
  · have := (hrow.stored k (.int .u32 x)).1
    simpa [wcs, List.map_set, hl] using this
  · rcases List.mem_or_eq_of_mem_set hd with h1 | rfl
    · exact h.own.u32 d h1
    · exact hx
end
/-- how the third loop stands -/
structure HK (ms T os : List Int) (M k s : Nat) : Prop where
  le : s ≤ M
  len : os.length = M
  below : ∀ x ∈ T.take k, x < M → x < s
  same : ∀ x ∈ T.take k, x < M → wd os x = wd ms x
theorem wd_set (os : List Int) (j : Nat) (hj : j < os.length) (v x : Int) (x0 : 0 ≤ x) : wd (os.set j v) x = if x = j then v else wd os x := by
  unfold wd
  by_cases e : x = j
  · subst e
    rw [if_pos rfl, List.getD_eq_getElem?_getD]; simp [hj]
  · rw [if_neg e, List.getD_eq_getElem?_getD, List.getD_eq_getElem?_getD, List.getElem?_set_ne (by omega)]
theorem HK.put {ms T os : List Int} {M k s j : Nat} {v : Int} (h : HK ms T os M k s) (hp : T.Pairwise (· < ·)) (hn : ∀ x ∈ T, 0 ≤ x) (hk : k < T.length) (hx : T[k] = (j : Int)) (hj : j < M) (hv : v = wd ms j) : HK ms T (os.set j v) M (k + 1) (j + 1) := by
  have hin : ∀ x ∈ T.take (k + 1), x ∈ T.take k ∨ x = j := fun x hx2 => by
    rw [List.take_succ_eq_append_getElem hk] at hx2
    rcases List.mem_append.1 hx2 with h | h
    · exact .inl h
    · simp at h; exact .inr (by rw [h, hx])
  have hlt : ∀ x ∈ T.take k, x < j := fun x hx2 => by
    obtain ⟨i, hi, e⟩ := List.getElem_of_mem hx2
    have hi' : i < k := by simp at hi; omega
    rw [List.getElem_take] at e
    have := List.pairwise_iff_getElem.1 hp i k (by omega) hk hi'
    omega
  refine ⟨by omega, by simp [h.len], fun x hx2 hM => ?_, fun x hx2 hM => ?_⟩
  · rcases hin x hx2 with h1 | h1
    · have := hlt x h1; omega
    · omega
  · have x0 : 0 ≤ x := by
      rcases hin x hx2 with h1 | h1
      · exact hn x (List.mem_of_mem_take h1)
      · omega
    rw [wd_set os j (by rw [h.len]; exact hj) v x x0]
    by_cases e : x = j
    · rw [if_pos e, hv, e]
    · rw [if_neg e]
      rcases hin x hx2 with h1 | h1
      · exact h.same x h1 hM
      · exact absurd h1 e
theorem HK.skip {ms T os : List Int} {M k s : Nat} (h : HK ms T os M k s) (hk : k < T.length) (hx : ¬ T[k] < M) : HK ms T os M (k + 1) s := by
  have hin : ∀ x ∈ T.take (k + 1), x < M → x ∈ T.take k := fun x hx2 hM => by
    rw [List.take_succ_eq_append_getElem hk] at hx2
    rcases List.mem_append.1 hx2 with h | h
    · exact h
    · simp at h; rw [h] at hM; exact absurd hM hx
  exact ⟨h.le, h.len, fun x h1 h2 => h.below x (hin x h1 h2) h2, fun x h1 h2 => h.same x (hin x h1 h2) h2⟩
theorem wd_out (os : List Int) (x : Int) (h : (os.length : Int) ≤ x) : wd os x = 0 := by
  unfold wd; rw [List.getD_eq_getElem?_getD, List.getElem?_eq_none (by omega)]; rfl
theorem wd_take (os : List Int) (s : Nat) (x : Int) (x0 : 0 ≤ x) : wd (os.take s) x = if x < s then wd os x else 0 := by
  unfold wd
  by_cases e : x < s
  · rw [if_pos e, List.getD_eq_getElem?_getD, List.getD_eq_getElem?_getD, List.getElem?_take, if_pos (by omega)]
  · rw [if_neg e, List.getD_eq_getElem?_getD, List.getElem?_take, if_neg (by omega)]; rfl
theorem HK.done {ms os : List Int} {M s : Nat} {a : Int} {T : List Int} (hu : ∀ d ∈ ms, In32 d) (hT : touchP ms a = T) (hM : ms.length ≤ M) (h : HK ms T os M T.length s) : findP os a = findP ms a ∧ findP (os.take s) a = findP ms a := by
  have hmem := (touch_rise ms a).2
  rw [hT] at hmem
  have hnn : ∀ x ∈ placesP ms a, 0 ≤ x := dscT_nn ms hu a 34 0 0 (by decide)
  have h1 := h.below
  have h2 := h.same
  rw [List.take_length] at h1 h2
  have e1 : ∀ x ∈ placesP ms a, wd os x = wd ms x := fun x hx => by
    by_cases e : x < M
    · exact h2 x ((hmem x).2 hx) e
    · rw [wd_out os x (by rw [h.len]; omega), wd_out ms x (by omega)]
  refine ⟨find_hang e1, find_hang fun x hx => ?_⟩
  rw [wd_take os s x (hnn x hx)]
  by_cases e : x < M
  · rw [if_pos (h1 x ((hmem x).2 hx) e), e1 x hx]
  · rw [wd_out ms x (by omega)]
    by_cases e2 : x < s
    · rw [if_pos e2]; exact wd_out os x (by rw [h.len]; omega)
    · rw [if_neg e2]
end Go.Proofs.Ytbahngpmafdfcac.Fb
