/- Parts of lists of any kind of item. An append leaves what shares its memory. -/
import Derived.Test.YthhdpfgepjmgkaaGeD
namespace Go.Proofs.Ythhdpfgepjmgkaa.Ge
open Go.ChangeShapes Go.WideShapes Go.ChangeAt Go.RowKit Go.Joins Go.Deep
set_option linter.unusedVariables false

section
variable {α : Type} (E : El α) {ops : Array Oper} {rest : List Oper} {o : Oper} {ac : Act} {Q : Exit → Act → World → Prop} {W : World}
theorem size_of (W : World) : (sizeOf E.e).run Try.prog W = .ok E.k W := by
  obtain ⟨i0, hi, hz0, hz1, hz2⟩ := info_of E.hi
  simp [sizeOf, typeInfo, go_sem, hi, hz1]
theorem sliceh_run {ρ : Operand → Value} (x hi : Operand) (t : TypeId) (htt : t = E.t) (ho : o.op = .slice t x none (some hi) none) {a : Option Addr} {n c h : Nat} (hx : ρ x = .slice a n c) (hh : ρ hi = .int .i64 (h : Int)) (ha : a = none ∨ ∃ b f, a = some ⟨b, f, none⟩) (h2 : h ≤ c) :
    (execOp ρ o).run Try.prog W = .ok (.value (.slice a h c)) W := by
  subst htt
  have g1 : (h : Int) ≤ (c : Int) := by omega
  have u := E.ht
  have s1 := fun W => size_of E W
  unfold execOp
  rw [ho]
  rcases ha with rfl | ⟨b, f, rfl⟩ <;> simp [go_sem, hx, hh, g1, u, s1]
theorem slicel_run {ρ : Operand → Value} (x lo : Operand) (t : TypeId) (htt : t = E.t) (ho : o.op = .slice t x (some lo) none none) {a : Option Addr} {n c l : Nat} (hx : ρ x = .slice a n c) (hl : ρ lo = .int .i64 (l : Int)) (h1 : l ≤ n) :
    (execOp ρ o).run Try.prog W = .ok (.value (.slice (if c = l then a else a.map (·.add (l * E.k))) (n - l) (c - l))) W := by
  subst htt
  have g1 : (l : Int) ≤ (n : Int) := by omega
  have u := E.ht
  have s1 := fun W => size_of E W
  unfold execOp
  rw [ho]
  simp [go_sem, hx, hl, g1, u, s1]
/-- the first ones -/
theorem list_sliceh (hgd : o.guard = none) (x hi : Operand) (t : TypeId) (htt : t = E.t) (ho : o.op = .slice t x none (some hi) none) {a : Option Addr} {n c h : Nat} (hx : ac.eval x = .slice a n c) (hh : ac.eval hi = .int .i64 (h : Int)) (ha : a = none ∨ ∃ b f, a = some ⟨b, f, none⟩) (h2 : h ≤ c)
    (k : wpList Try.prog ops Q rest (ac.put o.dst (.slice a h c)) W) : wpList Try.prog ops Q (o :: rest) ac W := by
  refine wpList_plain hgd fun K hK => ?_
  unfold Oper.wp
  rw [sliceh_run E x hi t htt ho hx hh ha h2]
  exact hK _ _ k
theorem Lst.part {E : El α} {a : Option Addr} {xs : List α} {n c l : Nat} (h : Lst E W a xs) (hn : xs.length = n) (hnc : n ≤ c) (hnil : a = none → n = 0 ∧ c = 0) (ha : a = none ∨ ∃ b f, a = some ⟨b, f, none⟩) (h1 : l ≤ n) : Lst E W (if c = l then a else a.map (·.add (l * E.k))) (xs.drop l) ∧ ((if c = l then a else a.map (·.add (l * E.k))) = none → n - l = 0 ∧ c - l = 0) := by
  by_cases hc : c = l
  · rw [if_pos hc, List.drop_eq_nil_of_le (by omega)]
    exact ⟨⟨by simp, fun i hi => absurd hi (by simp)⟩, fun _ => ⟨by omega, by omega⟩⟩
  · rw [if_neg hc]
    rcases ha with rfl | ⟨b, f, rfl⟩
    · have := hnil rfl
      omega
    · exact ⟨by rw [Option.map_some, Addr.add_lit]; exact h.drop l, fun e => by cases e⟩
/-- the others -/
theorem list_slicel (hgd : o.guard = none) (x lo : Operand) (t : TypeId) (htt : t = E.t) (ho : o.op = .slice t x (some lo) none none) {a : Option Addr} {n c l : Nat} (hx : ac.eval x = .slice a n c) (hl : ac.eval lo = .int .i64 (l : Int)) (xs : List α) (hlst : Lst E W a xs) (hn : xs.length = n) (hnc : n ≤ c) (hnil : a = none → n = 0 ∧ c = 0) (ha : a = none ∨ ∃ b f, a = some ⟨b, f, none⟩) (h1 : l ≤ n)
    (k : ∀ va : Option Addr, Hid (Lst E W va (xs.drop l)) → Hid (va = none → n - l = 0 ∧ c - l = 0) → wpList Try.prog ops Q rest (ac.put o.dst (.slice va (n - l) (c - l))) W) : wpList Try.prog ops Q (o :: rest) ac W := by
  refine wpList_plain hgd fun K hK => ?_
  unfold Oper.wp
  rw [slicel_run E x lo t htt ho hx hl h1]
  have hp := hlst.part hn hnc hnil ha h1
  exact hK _ _ (k _ hp.1 hp.2)
theorem OwnL.addr {E : El α} {N n c : Nat} {a : Option Addr} {xs : List α} (h : OwnL E N W (.slice a n c) xs) : (a = none ∨ ∃ b f, a = some ⟨b, f, none⟩) ∧ xs.length = n ∧ n ≤ c ∧ (a = none → n = 0 ∧ c = 0) := by
  rcases h.row.2 with ⟨h1, h2⟩ | ⟨g, c', cur, h1, h2, h3, h4, h5⟩
  · cases h1
    exact ⟨.inl rfl, h2, Nat.le_refl _, fun _ => ⟨rfl, rfl⟩⟩
  · cases h1
    exact ⟨.inr ⟨g, 0, rfl⟩, rfl, h4, fun e => by cases e⟩
end
end Go.Proofs.Ythhdpfgepjmgkaa.Ge
namespace Go.Proofs.Ythhdpfgepjmgkaa.Ge
open Go.ChangeShapes Go.WideShapes Go.ChangeAt Go.RowKit Go.Joins Go.Deep
set_option linter.unusedVariables false

section
variable {α : Type}
/-- one item is appended: in the old row, or in a new one; a shorter list in that row stays -/
theorem run_appK (E : El α) (W : World) (N : Nat) (ty : TypeId) (v : Value) (xs : List α) (y : α) (hbig : xs.length ≤ 1048576000) (hown : OwnL E N W v xs) (u : Nat) (hcell : ∀ j c, (E.cs [y])[j]? = some c → W.cell? ((⟨u, 0, none⟩ : Addr).add j) = some c) (hN : N ≤ W.heap.size) :
    ∃ v' w', (Builtin.append_ #[E.t, E.t] ty #[v, .slice (some ⟨u, 0, none⟩) 1 1]).run Try.prog W = .ok v' w' ∧ OwnL E N w' v' (xs ++ [y]) ∧ W.grownBy w' v.ownBlock ∧ (v'.ownBlock = v.ownBlock ∨ v'.ownBlock = some W.heap.size) ∧
      ∀ v0 xs0 zs, xs = xs0 ++ zs → OwnL E N W v0 xs0 → v0.ownBlock = v.ownBlock → OwnL E N w' v0 xs0 := by
  obtain ⟨i0, hi, hz0, hz1, hz2⟩ := info_of E.hi
  have hb48 : (xs.length + 1) * E.bytes ≤ 140737488355328 := Nat.le_trans (Nat.mul_le_mul_left _ E.hb) (by omega)
  obtain ⟨v', w', hr, h2, h3, h4, h5⟩ := run_append_own_at (P := Try.prog) W N E.t ty E.e i0 E.z E.k E.bytes E.ht hi hz0 hz1 hz2 E.hz E.hk v xs.length (E.cs xs) hown.row ⟨u, 0, none⟩ 1 1 (E.cs [y]) (cs_len E _) hcell (cs_one E _) (by unfold maxLen; omega) hb48 hN
  have hnew : OwnL E N w' v' (xs ++ [y]) := ⟨by rw [cs_app, List.length_append]; exact h2⟩
  refine ⟨v', w', hr, hnew, h3, h5, ?_⟩
  intro v0 xs0 zs hx h0 hv0
  rcases h0.row.2 with ⟨h6, h7⟩ | ⟨g, c0, cur0, h6, hg0, hb0, hn0, hm0, hs0, ht0⟩
  · have e0 : xs0 = [] := List.length_eq_zero_iff.1 h7
    subst e0 h6
    exact OwnL.nil _ _ _
  · subst h6
    rcases hown.row.2 with ⟨h6, -⟩ | ⟨g1, c1, cur1, h6, hg1, hb1, hn1, hm1, hs1, ht1⟩
    · rw [h6] at hv0; cases hv0
    · subst h6
      cases hv0
      rw [hb0] at hb1
      injection hb1 with hb1
      injection hb1 with hb1
      subst hb1
      have hc : c1 = c0 := Nat.eq_of_mul_eq_mul_right E.hk (hs1.symm.trans hs0)
      subst hc
      by_cases hroom : xs.length + 1 ≤ c1
      · have hfit : xs.length * E.k + (E.cs [y]).length ≤ cur0.size := by
          rw [cs_len, hs1, ← Nat.add_mul]
          exact Nat.mul_le_mul_right _ hroom
        have hr2 := run_append_room (P := Try.prog) W E.t ty E.e i0 E.ht hi g xs.length c1 cur0 hb0 ⟨u, 0, none⟩ 1 1 (E.cs [y]) (by rw [hz1]; exact cs_len E _) hcell (cs_one E _) hroom (by rw [hz1]; exact hfit)
        rw [hr] at hr2
        injection hr2 with hv hw
        rcases hnew.row.2 with ⟨h6, -⟩ | ⟨g2, c2, cur2, h6, hg2, hb2, hn2, hm2, hs2, ht2⟩
        · rw [hv] at h6; cases h6
        · rw [hv] at h6
          injection h6 with e1 e2 e3
          injection e1 with e1
          injection e1 with e1
          subst e1 e3
          refine ⟨h0.row.1, .inr ⟨g, c1, cur2, rfl, hg0, hb2, hn0, hm0, hs2, ?_⟩⟩
          have hle : xs0.length * E.k ≤ (xs ++ [y]).length * E.k := Nat.mul_le_mul_right _ (by rw [List.length_append, hx, List.length_append]; omega)
          have e1 : (cur2.toList.take ((xs ++ [y]).length * E.k)).take (xs0.length * E.k) = cur2.toList.take (xs0.length * E.k) := by
            rw [List.take_take, Nat.min_eq_left hle]
          rw [← e1, ht2, hx, List.append_assoc, cs_app, ← cs_len E xs0]
          exact List.take_left
      · have holds := hown.row.cells (g := g) rfl
        have hr2 := run_append_grow (P := Try.prog) W E.t ty E.e i0 E.z E.ht hi hz0 ⟨g, 0, none⟩ xs.length c1 (E.cs xs) (by rw [hz1]; exact cs_len E _) holds ⟨u, 0, none⟩ 1 1 (E.cs [y]) (by rw [hz1]; exact cs_len E _) hcell (by omega) (by omega) (by rw [hz2]; exact growslice_fits (by omega) hb48)
        rw [hr] at hr2
        injection hr2 with hv hw
        exact h0.blk (fun g' e' => by
          cases e'
          rw [hw]
          exact heap_alloc_old W.drew _ (Array.getElem?_eq_some_iff.1 hb0).1)
/-- the same, at an operation -/
theorem list_appK {ops : Array Oper} {rest : List Oper} {o : Oper} {a : Act} {Q : Exit → Act → World → Prop} (E : El α) (hgd : o.guard = none) (s x : Operand) (t : TypeId) (htt : t = E.t)
    (ho : o.op = .call { callee := .builtin .append, args := #[s, x], argTypes := #[t, t] }) (N : Nat) (v : Value) (xs : List α) (y : α) (u : Nat) (W : World) (hbig : xs.length ≤ 1048576000) (hs : a.eval s = v) (hown : OwnL E N W v xs)
    (hx : a.eval x = .slice (some ⟨u, 0, none⟩) 1 1) (hsrc : Lst E W (some ⟨u, 0, none⟩) [y]) (hN : N ≤ W.heap.size)
    (h : ∀ v' w', Hid (OwnL E N w' v' (xs ++ [y])) → Hid (W.grownBy w' v.ownBlock) → Hid (v'.ownBlock = v.ownBlock ∨ v'.ownBlock = some W.heap.size) → Hid (∀ v0 xs0 zs, xs = xs0 ++ zs → OwnL E N W v0 xs0 → v0.ownBlock = v.ownBlock → OwnL E N w' v0 xs0) → wpList Try.prog ops Q rest (a.put o.dst v') w') :
    wpList Try.prog ops Q (o :: rest) a W := by
  subst htt
  obtain ⟨v', w', hr, h2, h3, h4, h5⟩ := run_appK E W N o.type v xs y hbig hown u (fun j c hj => by
    obtain ⟨b, f, e, -, hc⟩ := hsrc.cells 0 (by simp)
    cases e
    have hl : j < E.k := by have := (List.getElem?_eq_some_iff.1 hj).1; rw [cs_len] at this; simpa using this
    have h1 := hc j hl
    rw [Addr.add_lit]
    simp only [Nat.zero_mul, Nat.zero_add] at h1 ⊢
    rw [h1]
    have e1 : E.cs [y] = E.enc y := by simp [El.cs]
    rw [e1] at hj
    simpa using hj) hN
  refine wpList_plain hgd fun K hK => ?_
  unfold Oper.wp execOp
  simp only [ho, resolve, invoke, builtin, Sem.run_bind, Sem.run_pure, Result.andThen_ok, List.map_toArray, List.map_cons, List.map_nil, hs, hx, hr]
  exact hK _ _ (h v' w' h2 h3 h4 h5)
end
end Go.Proofs.Ythhdpfgepjmgkaa.Ge
