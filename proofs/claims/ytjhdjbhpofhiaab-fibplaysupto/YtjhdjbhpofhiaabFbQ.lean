/- What came in is appended to a list that the call has made. -/
import Derived.Test.YtjhdjbhpofhiaabFbK
import Derived.Test.YtjhdjbhpofhiaabFbL
import Derived.Deep.QuietTactic
import Derived.BigQuiet
namespace Go.Proofs.Ytjhdjbhpofhiaab.Fb
open Go.ChangeShapes Go.WideShapes Go.ChangeAt Go.RowKit Go.Joins Go.Proofs.Ytjhdjbhpofhiaab.PM Go.Proofs.Ytjhdjbhpofhiaab.Ask
set_option linter.unusedVariables false

/-- what came in is appended to a list that the call has made -/
theorem app_src {ops : Array Oper} {rest : List Oper} {o : Oper} {a : Act} {Q : Exit → Act → World → Prop} (hgd : o.guard = none) (s x : Operand)
    (ho : o.op = .call { callee := .builtin .append, args := #[s, x], argTypes := #[51, 51] }) (base : Nat) (v : Value) (xs : List Int) (w : World) (hs : a.eval s = v) (hown : OwnU base w v xs)
    (va : Option Addr) (L cap : Nat) (ms : List Int) (hL : ms.length = L) (hx : a.eval x = .slice va L cap) (hwd : Wds w va ms) (hnil : va = none → L = 0 ∧ cap = 0) (hby : (xs.length + L) * 4 ≤ 140737488355328) (hbase : base ≤ w.heap.size)
    (h : ∀ v' w', Hid (OwnU base w' v' (xs ++ ms)) → Hid (KO w v.ownBlock w' v'.ownBlock) → wpList Try.prog ops Q rest (a.put o.dst v') w') :
    wpList Try.prog ops Q (o :: rest) a w := by
  obtain ⟨i0, hi, hz0, hz1, hz2⟩ := info_parts infoU
  cases va with
  | none =>
    obtain ⟨rfl, rfl⟩ := hnil rfl
    have e : ms = [] := List.length_eq_zero_iff.1 hL
    subst e
    refine wpList_append_own_none hgd s x 51 ho base 31 i0 1 Try.underlying51 hi v _ _ hs hown.row hx ?_
    exact h v w (show OwnU base w v (xs ++ []) by simpa using hown) (KO.refl _ _)
  | some ad =>
    refine wpList_append_own_at _ hgd s x 51 ho base 31 i0 _ 1 4 Try.underlying51 hi hz0 hz1 hz2 rfl (by decide) v _ _ hs hown.row ad L cap (wcs ms) hx (by simp [wcs, hL]) (by
      intro j u' hj
      have hj' : j < ms.length := by
        have := (List.getElem?_eq_some_iff.1 hj).1
        simpa [wcs] using this
      obtain ⟨b, o, e, hb, hc⟩ := hwd.cells j hj'
      cases e
      rw [Addr.add_lit, hc]
      rw [wcs, List.getElem?_map, List.getElem?_eq_getElem hj'] at hj
      simpa using hj) (by
      intro u' hu'
      simp only [wcs, List.mem_map] at hu'
      obtain ⟨y, -, rfl⟩ := hu'
      rfl) (by unfold maxLen; omega) hby hbase ?_
    intro v' w' hown' hg _ hat
    refine h v' w' ⟨by unfold wcs; rw [List.map_append, List.length_append, hL]; exact hown', fun d hd => ?_⟩ ⟨?_, ?_, fun k hk hne => hg.block k hk hne⟩
    · rcases List.mem_append.1 hd with h | h
      · exact hown.u32 d h
      · exact hwd.u32 d h
    · exact (Below.refl 0 w).grown hg (Nat.zero_le _) (fun _ _ => Nat.zero_le _)
    · rcases hat with h | h
      · exact .inl h
      · exact .inr ⟨_, h, Nat.le_refl _⟩
end Go.Proofs.Ytjhdjbhpofhiaab.Fb
