/- m[k] op= v: the entry is found or made, then stored. -/
import Derived.Test.YthhdpfgepjmgkaaDjM
namespace Go.Proofs.Ythhdpfgepjmgkaa.Dj
open Go.ChangeShapes Go.WideShapes Go.ChangeAt Go.RowKit Go.Joins Go.Deep Go.Proofs.Ythhdpfgepjmgkaa.Ge
set_option linter.unusedVariables false
set_option linter.unusedSimpArgs false

section
variable {κ β : Type} [DecidableEq κ]
/-- the stamp of a key -/
def mst (k : κ) (es : Ents κ β) (c : Nat) : Nat := match mfind k es 0 with
  | some (i, _) => ((es[i]?).map (·.2.2)).getD 0
  | none => c
theorem mput_found {k : κ} {es : Ents κ β} {i : Nat} {v : β} (h : mfind k es 0 = some (i, v)) (c : Nat) : mput es c k v = es := by
  unfold mput
  rw [h]
  dsimp only
  obtain ⟨hi, h1, h2⟩ := mfind_some h
  apply List.ext_getElem
  · simp
  · intro j hj1 hj2
    rw [List.getElem_modify]
    split
    · rename_i e
      subst e
      exact Prod.ext h1.symm (Prod.ext h2.symm rfl)
    · rfl
theorem ment_run {o : Oper} {ρ : Operand → Value} {W : World} (M : Mk κ β) (z : β) (hz : M.ev z = M.z) (x y : Operand) (ho : o.op = .mapEntry M.t x y) {b c : Nat} {es : Ents κ β} {k : κ} (hx : ρ x = .map (some b)) (hy : ρ y = M.ek k) (h : MB M b es c W) : (execOp ρ o).run Try.prog W = .ok (.value (.tuple #[M.got es k, .int .i64 (mst k es c : Nat)])) (ChangeMaps.setBlock W b (.map ((mput es c k ((mget es k).getD z)).map M.ent).toArray (mclk es c k))) := by
  unfold execOp
  simp only [ho, hx, hy, Instr.mapEntry, Sem.run_bind, Sem.run_pure, Result.andThen_ok, run_underlying M.hu, run_getMap h, M.hc, List.toList_toArray, run_find]
  unfold Mk.got mst mclk mget
  cases hm : mfind k es 0 with
  | none =>
    simp only [Option.map_none, Sem.run_bind, M.hz, run_setMap h, Result.andThen_ok, Sem.run_pure]
    unfold mput
    rw [hm]
    simp [Mk.ent, hz, goInt]
  | some p =>
    obtain ⟨i, u0⟩ := p
    obtain ⟨hi, h1, h2⟩ := mfind_some hm
    have hk : (((es.map M.ent).toArray[i]?).map (·.key)).getD (M.ek k) = M.ek k := by simp [hi, Mk.ent, h1]
    have hs : (Instr.keyThatStays (M.ek k) (M.ek k)).run Try.prog W = .ok (M.ek k) W := by
      unfold Instr.keyThatStays
      rw [if_pos (M.hb k)]
      rfl
    simp only [Option.map_some, Sem.run_bind, hk, hs, Result.andThen_ok, run_setMap h, Sem.run_pure, Option.getD_some]
    rw [mput_found hm]
    have e1 : (es.map M.ent).toArray.modify i (fun e => { e with key := M.ek k }) = (es.map M.ent).toArray := by
      apply Array.toList_inj.1
      apply List.ext_getElem
      · simp
      · intro j hj1 hj2
        simp only [Array.toList_modify, List.toList_toArray, List.getElem_modify, List.getElem_map, Mk.ent]
        split
        · rename_i e
          subst e
          rw [h1]
        · rfl
    rw [e1]
    simp [hi, Mk.ent, goInt]
theorem mfind_put {k : κ} {es : Ents κ β} {c : Nat} (v : β) : ∃ i, mfind k (mput es c k v) 0 = some (i, v) := by
  have h := mput_get es c k v k
  rw [if_pos rfl] at h
  unfold mget at h
  cases hm : mfind k (mput es c k v) 0 with
  | none => rw [hm] at h; cases h
  | some p =>
    obtain ⟨i, u⟩ := p
    rw [hm] at h
    cases h
    exact ⟨i, rfl⟩
theorem mst_put (k : κ) (es : Ents κ β) (c c' : Nat) (v : β) : mst k (mput es c k v) c' = mst k es c := by
  obtain ⟨i, hi⟩ := mfind_put (k := k) (es := es) (c := c) v
  unfold mst
  rw [hi]
  dsimp only
  cases hm : mfind k es 0 with
  | none =>
    have hk := mfind_none hm
    have e1 : mput es c k v = es ++ [(k, v, c)] := by unfold mput; rw [hm]
    rw [e1] at hi ⊢
    obtain ⟨h0, h1, h2⟩ := mfind_some hi
    rw [List.length_append] at h0
    simp only [List.length_cons, List.length_nil] at h0
    by_cases e : i < es.length
    · exfalso
      rw [List.getElem_append_left e] at h1
      exact hk _ (List.getElem_mem e) h1
    · have : i = es.length := by omega
      subst this
      simp
  | some p =>
    obtain ⟨j, u⟩ := p
    obtain ⟨hj, g1, g2⟩ := mfind_some hm
    have e1 : mput es c k v = es.modify j (fun x => (k, v, x.2.2)) := by unfold mput; rw [hm]
    rw [e1] at hi ⊢
    -- the place is the same
    have e2 : ∀ (es : Ents κ β) (j s : Nat) (u : β), mfind k es s = some (s + j, u) → mfind k (es.modify j (fun x => (k, v, x.2.2))) s = some (s + j, v) := by
      intro es
      induction es with
      | nil => intro j s u h; cases h
      | cons x es ih =>
        intro j s u h
        unfold mfind at h
        by_cases e : k = x.1
        · rw [if_pos e] at h
          have e0 : s = s + j := (Prod.mk.inj (Option.some.inj h)).1
          have e0 : j = 0 := by omega
          subst e0
          rw [List.modify_zero_cons]
          unfold mfind
          rw [if_pos rfl]
          rfl
        · rw [if_neg e] at h
          cases j with
          | zero =>
            exfalso
            rw [mfind_shift] at h
            cases hq : mfind k es 0 with
            | none => rw [hq] at h; cases h
            | some p => rw [hq] at h; have h9 : p.1 + (s + 1) = s + 0 := (Prod.mk.inj (Option.some.inj h)).1; omega
          | succ j =>
            rw [List.modify_succ_cons]
            unfold mfind
            rw [if_neg e, show s + (j + 1) = s + 1 + j by omega]
            exact ih j (s + 1) u (by rw [h]; congr 2; omega)
    have h3 := e2 es j 0 u (by rw [Nat.zero_add]; exact hm)
    rw [hi, Nat.zero_add] at h3
    have h4 : i = j := (Prod.mk.inj (Option.some.inj h3)).1
    subst h4
    simp [hj]
theorem estore_run {o : Oper} {ρ : Operand → Value} {W : World} (M : Mk κ β) (x y v : Operand) (ho : o.op = .entryStore M.t x y v) {b c : Nat} {es : Ents κ β} {k : κ} {u u0 : β} {i : Nat} {s : Int} (hf : mfind k es 0 = some (i, u0)) (hs : s = (mst k es c : Nat)) (hok : Mok es c) (hx : ρ x = .map (some b)) (hy : ρ y = .int .i64 s) (hv : ρ v = M.ev u) (h : MB M b es c W) : (execOp ρ o).run Try.prog W = .ok .skip (ChangeMaps.setBlock W b (.map ((mput es c k u).map M.ent).toArray c)) := by
  obtain ⟨hi, h1, h2⟩ := mfind_some hf
  have e0 : mst k es c = es[i].2.2 := by unfold mst; rw [hf]; simp [hi]
  have e1 : (es.map M.ent).toArray.findIdx? (fun e => (e.born : Int) == (es[i].2.2 : Int)) = some i := by
    rw [Array.findIdx?_eq_some_iff_findIdx_eq]
    refine ⟨by simpa using hi, ?_⟩
    rw [Array.findIdx_eq (by simpa using hi)]
    refine ⟨by simp [Mk.ent], fun j hj => ?_⟩
    have hjl : j < es.length := by omega
    simp only [List.getElem_toArray, List.getElem_map, Mk.ent]
    refine beq_false_of_ne (fun e => ?_)
    have e3 : es[j].2.2 = es[i].2.2 := by exact_mod_cast e
    have hnb := hok.nb
    rw [List.nodup_iff_pairwise_ne, List.pairwise_iff_getElem] at hnb
    exact hnb j i (by simpa using hjl) (by simpa using hi) hj (by simpa using e3)
  have hg : (getObj b).run Try.prog W = .ok (.map (es.map M.ent).toArray c) W := run_getMap h
  unfold execOp
  simp only [ho, hx, hy, hv, hs, e0, Instr.entryStore, Sem.run_bind, Sem.run_pure, Result.andThen_ok, hg, asInt, asIntOf, e1, run_setMap h]
  congr 3
  · unfold mput
    rw [hf]
    dsimp only
    apply Array.toList_inj.1
    apply List.ext_getElem
    · simp
    · intro j hj1 hj2
      simp [Array.getElem_modify, List.getElem_modify, Mk.ent]
      split
      · rename_i e
        subst e
        rw [h1]
      · rfl
end
end Go.Proofs.Ythhdpfgepjmgkaa.Dj
