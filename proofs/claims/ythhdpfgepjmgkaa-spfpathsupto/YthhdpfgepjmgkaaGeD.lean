/- Appends in regions that draw; parts of slices of bytes. -/
import Derived.Test.YthhdpfgepjmgkaaGeC
import Derived.Laws.OwnMore
namespace Go.Proofs.Ythhdpfgepjmgkaa.Ge
open Go.ChangeShapes Go.WideShapes Go.ChangeAt Go.RowKit Go.Joins Go.Deep
set_option linter.unusedVariables false

/-- a list is appended, in a region that draws -/
theorem step_appL {α : Type} {o : Oper} {a : Act} {Q : Exit → Act → World → Prop} {K : Act → World → Prop} {c : Bool} {E0 : Prop} (E : El α) (s x : Operand) (t : TypeId) (htt : t = E.t)
    (ho : o.op = .call { callee := .builtin .append, args := #[s, x], argTypes := #[t, t] }) (N : Nat) (v : Value) (xs ys : List α) (va : Option Addr) (n cap : Nat) (W : World) (hbig : xs.length + n ≤ 1099511627775) (hs : a.eval s = v) (hown : OwnL E N W v xs)
    (hx : a.eval x = .slice va n cap) (hsrc : Lst E W va ys) (hnil : va = none → n = 0 ∧ cap = 0) (hn : ys.length = n) (hN : N ≤ W.heap.size) (hc : c = true)
    (h : ∀ v' w', Hid (OwnL E N w' v' (xs ++ ys)) → Hid (W.grownBy w' v.ownBlock) → Hid (v'.ownBlock = v.ownBlock ∨ v'.ownBlock = some W.heap.size) → K (a.put o.dst v') w') :
    if c = true then Oper.wp Try.prog o a W K Q else E0 := by
  subst htt
  rw [if_pos hc]
  obtain ⟨i0, hi, hz0, hz1, hz2⟩ := info_of E.hi
  cases va with
  | none =>
    obtain ⟨rfl, rfl⟩ := hnil rfl
    have e0 : ys = [] := List.length_eq_zero_iff.1 hn
    subst e0
    have hr := run_append_owned_none (P := Try.prog) W N E.t o.type E.e i0 E.k E.ht hi v xs.length (E.cs xs) hown.row
    unfold Oper.wp execOp
    simp only [ho, resolve, invoke, builtin, Sem.run_bind, Sem.run_pure, Result.andThen_ok, List.map_toArray, List.map_cons, List.map_nil, hs, hx, hr]
    exact h v W (by rw [List.append_nil]; exact hown) ⟨rfl, rfl, rfl, Nat.le_refl _, fun _ _ _ => rfl⟩ (Or.inl rfl)
  | some ad =>
    obtain ⟨v', w', hr, h2, h3, h4, h5⟩ := run_append_own_at (P := Try.prog) W N E.t o.type E.e i0 E.z E.k E.bytes E.ht hi hz0 hz1 hz2 E.hz E.hk v xs.length (E.cs xs) hown.row ad n cap (E.cs ys) (by rw [cs_len, hn]) (by
      intro j u hj
      have hlt : j < ys.length * E.k := by
        have := (List.getElem?_eq_some_iff.1 hj).1
        rw [cs_len] at this; exact this
      have hk := E.hk
      have hq : j / E.k < ys.length := (Nat.div_lt_iff_lt_mul hk).2 hlt
      have hr : j % E.k < E.k := Nat.mod_lt _ hk
      have hdm : j / E.k * E.k + j % E.k = j := by rw [Nat.mul_comm]; exact Nat.div_add_mod j E.k
      obtain ⟨b, o', e, -, hc⟩ := hsrc.cells (j / E.k) hq
      cases e
      rw [Addr.add_lit]
      have h2 := hc (j % E.k) hr
      rw [Nat.add_assoc, hdm] at h2
      rw [h2, ← cs_at E ys (j / E.k) hq (j % E.k) hr, hdm]
      exact hj) (cs_one E _) (by unfold maxLen; omega) (Nat.le_trans (Nat.mul_le_mul_left _ E.hb) (by omega)) hN
    unfold Oper.wp execOp
    simp only [ho, resolve, invoke, builtin, Sem.run_bind, Sem.run_pure, Result.andThen_ok, List.map_toArray, List.map_cons, List.map_nil, hs, hx, hr]
    exact h v' w' ⟨by rw [cs_app, List.length_append, hn]; exact h2⟩ h3 h5
end Go.Proofs.Ythhdpfgepjmgkaa.Ge
