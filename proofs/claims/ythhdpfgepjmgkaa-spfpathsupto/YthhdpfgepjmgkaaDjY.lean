/- same; what is known grows by one; how many are known. -/
import Derived.Test.YthhdpfgepjmgkaaDjX
namespace Go.Proofs.Ythhdpfgepjmgkaa.Dj
open Go.ChangeShapes Go.WideShapes Go.ChangeAt Go.RowKit Go.Joins Go.Deep Go.Proofs.Ythhdpfgepjmgkaa.Ge
set_option linter.unusedVariables false
set_option linter.unusedSimpArgs false

set_option maxRecDepth 100000 in
set_option maxHeartbeats 8000000 in
theorem same_any (a b : Rc) (w : World) (hd : a.d ≠ b.d) : Calls Try.prog 41 #[.agg (rcL a).toArray, .agg (rcL b).toArray] w (BlPost w false) := by
  go_enter Try.func41, Try.ntmps41
  go_wp2_with (refine list_boxl RcK rfl _ rfl (cs := rcL a) rfl ?_)
  intro b2 w2 hb2 hs2 hbl2
  have HS2 : Hid (SB RcK b2 (rcL a) w2) := hs2.out
  have HB2 : Hid (Below w.heap.size w w2) := hbl2.out
  clear hb2 hs2 hbl2
  go_wp2_with (refine list_boxl RcK rfl _ rfl (cs := rcL b) rfl ?_)
  intro b3 w3 hb3 hs3 hbl3
  have HB3 : Hid (Below w.heap.size w w3) := HB2.out.trans (hbl3.out.mono HB2.out.size)
  have c21 : w3.cell? ⟨b2, 1, none⟩ = some (.int .i64 a.d) := (HS2.out.blk (hbl3.out.block b2 HS2.out.lt)).cell 1
  have c31 : w3.cell? ⟨b3, 1, none⟩ = some (.int .i64 b.d) := hs3.out.cell 1
  have hne : (a.d == b.d) = false := beq_false_of_ne hd
  have HE : Hid (BlPost w false (.returned (.bool false)) w3) := ⟨rfl, HB3.out⟩
  clear hb3 hs3 hbl3 HS2 HB2 HB3 hd
  go_wp2_with fail
  go_ret
  exact HE.out

theorem mfind_of_mget {κ β : Type} [DecidableEq κ] {es : Ents κ β} {k : κ} (h : mget es k = none) : mfind k es 0 = none := by
  unfold mget at h
  cases hm : mfind k es 0 with
  | none => rfl
  | some p => rw [hm] at h; cases h
/-- one more is known -/
theorem Kn.put {kb : Nat} {f : Kw} {k : Nat} {F G : Nat → Prop} {W W' : World} {r : Rc} {ks : Ents Int Rc} {kc : Nat} (hok : Mok ks kc) (hl : ks.length = k) (h4 : ∀ n, mget ks n = none → f n = none) (h5 : ∀ n r, mget ks n = some r → r.n = n ∧ f n = some (r.d, r.ls) ∧ RcOk F W r) (hw : MB MIR kb (mput ks kc r.n r) (mclk ks kc r.n) W') (hk : Ko W kb W') (hF : ¬ F kb) (hG : ¬ G kb) (hr : RcOk G W r) (hn : f r.n = none) : Kn kb (putK f r.n r.d r.ls) (k + 1) (fun g => F g ∨ G g) W' := by
  have hs : W.heap.size ≤ W'.heap.size := Nat.le_of_eq hk.size.symm
  have hno : mget ks r.n = none := by
    cases hg : mget ks r.n with
    | none => rfl
    | some y => have := (h5 _ _ hg).2.1; rw [hn] at this; cases this
  refine ⟨mput ks kc r.n r, mclk ks kc r.n, hw, mput_ok hok _ _, ?_, fun n h => ?_, fun n y h => ?_⟩
  · unfold mput
    rw [mfind_of_mget hno]
    simp [hl]
  · rw [mput_get] at h
    unfold putK
    by_cases c : n = r.n
    · rw [if_pos c] at h; cases h
    · rw [if_neg c] at h ⊢; exact h4 n h
  · rw [mput_get] at h
    unfold putK
    by_cases c : n = r.n
    · rw [if_pos c] at h ⊢
      cases h
      exact ⟨c.symm, rfl, (hr.blk hs (fun g hg hl => hk.block g (fun e => hG (by rw [← e]; exact hg)))).mono (fun g hg => .inr hg)⟩
    · rw [if_neg c] at h ⊢
      obtain ⟨a1, a2, a3⟩ := h5 n y h
      refine ⟨a1, a2, (a3.blk hs (fun g hg hl => hk.block g (fun e => hF (by rw [← e]; exact hg)))).mono (fun g hg => .inl hg)⟩
/-- each that is known is the root or an edge leads to it -/
theorem Kn.many {kb : Nat} {f : Kw} {k : Nat} {F : Nat → Prop} {W : World} (h : Kn kb f k F W) {vs : List Ed} {r : Int} (hf : ∀ n, f n ≠ none → n = r ∨ ∃ e ∈ vs, e.t = n) : k ≤ 1 + vs.length := by
  obtain ⟨ks, kc, h1, h2, h3, h4, h5⟩ := h.ex
  have h6 := nodup_le (ks.map (fun x => x.1)) (r :: vs.map (fun e => e.t)) h2.nk (fun n hn => by
    obtain ⟨x, hx, rfl⟩ := List.mem_map.1 hn
    have h7 : mget ks x.1 ≠ none := fun c => by
      rw [mget_of_mem h2 hx] at c; cases c
    have h8 : f x.1 ≠ none := fun c => by
      cases hg : mget ks x.1 with
      | none => exact h7 hg
      | some y => have := (h5 _ _ hg).2.1; rw [c] at this; cases this
    rcases hf x.1 h8 with c | ⟨e, he, c⟩
    · rw [c]; exact List.mem_cons_self
    · exact List.mem_cons_of_mem _ (List.mem_map.2 ⟨e, he, c⟩))
  simp at h6
  omega
end Go.Proofs.Ythhdpfgepjmgkaa.Dj
