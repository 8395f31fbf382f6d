/- slices.SortFunc of prefixes by Order: what it leaves. -/
import Derived.Test.YtjfiahendnlcjaaDaP
import Derived.Test.YtjfiahendnlcjaaShelf
import Derived.Shelf.SlSortCmp.NoneTotal
import Derived.Sort.OwnSortedInts
namespace Go.Proofs.Ytjfiahendnlcjaa.Da
open Go.ChangeShapes Go.WideShapes Go.ChangeAt Go.RowKit Go.Joins Go.Shelf Go.Lib Go.Sort Go.Proofs.Ytjfiahendnlcjaa.PM Go.Proofs.Ytjfiahendnlcjaa.Ask Go.Proofs.Ytjfiahendnlcjaa.Ge
set_option linter.unusedVariables false
def ordP (x y : Int × Int) : Int := ord x.1 x.2 y.1 y.2
theorem ordP_lt (x y : Int × Int) : ltOf ordP x y = decide (x.1 < y.1 ∨ (x.1 = y.1 ∧ x.2 < y.2)) := by
  unfold ltOf ordP ord
  by_cases h1 : x.1 = y.1 ∧ x.2 = y.2
  · rw [if_pos h1]
    have h2 : ¬ (x.1 < y.1 ∨ (x.1 = y.1 ∧ x.2 < y.2)) := by omega
    simp [h2]
  · rw [if_neg h1]
    by_cases h2 : x.1 < y.1 ∨ (x.1 = y.1 ∧ x.2 < y.2)
    · rw [if_pos h2]; simp [h2]
    · rw [if_neg h2]; simp [h2]
theorem ordP_swo : SWO (ltOf ordP) where
  irrefl x := by rw [ordP_lt]; simp
  trans x y z h1 h2 := by rw [ordP_lt] at *; simp at *; omega
  ntrans x y z h1 h2 := by rw [ordP_lt] at *; simp at *; omega
set_option maxHeartbeats 1000000 in
theorem order_lays (x y : Int × Int) (w : World) :
    Calls Try.prog 29 #[.agg #[.int .u32 x.1, .int .i64 x.2], .agg #[.int .u32 y.1, .int .i64 y.2]] w fun e w' => e = .returned (.int .i64 (ordP x y)) ∧ ∃ q os', w' = grow (w.drewN q) os' := by
  obtain ⟨a, n⟩ := x
  obtain ⟨b, m⟩ := y
  dsimp only
  go_enter Try.func29, Try.ntmps29
  go_wp2_with fail
  all_goals
    go_ret
    exact ⟨ret_i64 (by unfold ordP ord; repeat' split
                       all_goals omega), 0, _, by rw [alloc_eq_grow, alloc_eq_grow, grow_grow]; rfl⟩
theorem sort_grown {k : Nat} {w : World} {g n : Nat} {os : Array Obj} (enc : Int × Int → List Value) (d : Array (Int × Int)) : w.grownBy (sortWorldK enc k w g 0 n d os) (some g) := by
  unfold sortWorldK putRowK
  refine ⟨rfl, rfl, rfl, by simp, fun i hi hne => ?_⟩
  rw [heap_grow_old _ _ (by simpa using hi)]
  have : g ≠ i := fun e => hne (by rw [e])
  simp [putRow, mapBlock, Sort.ahead, Array.getElem?_modify, this]
theorem sort_any (N g n c : Nat) (xs : List (Int × Int)) (w : World) (ho : OwnL E2 N w (.slice (some ⟨g, 0, none⟩) n c) xs) (hn40 : n ≤ 1099511627775) :
    Calls Try.prog 28 #[.slice (some ⟨g, 0, none⟩) n c, .func (.func 29) #[] #[]] w fun e w' => e = .returned (.tuple #[]) ∧ ∃ ys, ys.Perm xs ∧ ys.Pairwise (fun p q => p.1 < q.1 ∨ (p.1 = q.1 ∧ p.2 ≤ q.2)) ∧ Lst E2 w' (some ⟨g, 0, none⟩) ys ∧ w.grownBy w' (some g) ∧ ∀ k, k < n * 2 → w'.frozen? ⟨g, k, none⟩ = false := by
  obtain ⟨hc, hf, hg, -⟩ := ho.at0
  have hlen := ho.lst.2
  have hsm : xs.length < 4611686018427387904 := by omega
  have hH : HoldsK E2.enc 2 w g 0 xs.toArray := by
    intro j hj
    have hj2 : j < xs.length * 2 := by simpa using hj
    refine ⟨?_, by rw [Nat.zero_add]; exact hf j⟩
    rw [get_flatK _ _ _ _ (by simpa using hj2), Nat.zero_add]
    have hq : j / 2 < xs.length := by omega
    have h1 := hc (j / 2) hq (j % 2) (by show j % 2 < 2; omega)
    have e1 : j / 2 * E2.k + j % 2 = j := by show j / 2 * 2 + j % 2 = j; omega
    rw [e1] at h1
    rw [h1]
    have e2 : xs.toArray[j / 2]! = xs[j / 2] := by simp [hq]
    rw [e2]
    have hl : j % 2 < (E2.enc xs[j / 2]).length := by show j % 2 < 2; omega
    rw [List.getElem?_eq_getElem hl, List.getElem!_eq_getElem?_getD, List.getElem?_eq_getElem hl]
    rfl
  have eg : ∀ args w, (callFunc 29 args).run Try.prog w = .ok (.enter 29 args) w := enters_of Try.func29 (by kernel_rfl) rfl
  have hcon := AnyQ.slices_SortFunc Try.sortPf 2 Try.isAgg35 Try.sizeOf35 E2.enc (fun _ => rfl) E2.hone ordP ordP_swo 29 #[] g 0 c xs.toArray w eg (fun _ _ _ _ x y => order_lays x y _) hH hg (by simpa using hsm)
  have hsz : xs.toArray.size = n := by simpa using hlen
  rw [hsz] at hcon
  refine Calls.mono hcon ?_
  rintro e w' ⟨rfl, d', m, os, hp, hs, rfl⟩
  obtain ⟨p1, -, p3⟩ := hp
  rw [hsz] at p1
  refine ⟨rfl, d'.toList, ?_, ?_, ?_, sort_grown _ _, ?_⟩
  · have e1 : d'.extract 0 n = d' := by rw [← p1]; simp
    have e2 : xs.toArray.extract 0 n = xs.toArray := by rw [← hsz]; simp
    rw [e1, e2] at p3
    simpa using p3
  · rw [List.pairwise_iff_getElem]
    intro i j hi hj hij
    have hi' : i < d'.size := by simpa using hi
    have hj' : j < d'.size := by simpa using hj
    have h1 := hs i j (Nat.zero_le _) hij (by omega)
    rw [ordP_lt] at h1
    have e1 : d'[j]! = d'[j] := by simp [hj']
    have e2 : d'[i]! = d'[i] := by simp [hi']
    rw [e1, e2] at h1
    simp at h1
    simp
    omega
  · have h9 := holdsK_sortWorldK_c E2.enc 2 w g 0 xs.toArray d' m os hH hg (by omega)
    refine ⟨by simp; omega, fun i hi => ⟨g, 0, rfl, ?_, fun j hj => ?_⟩⟩
    · exact Nat.lt_of_lt_of_le hg (sort_grown (w := w) (g := g) (n := m) (os := os) E2.enc d').size
    · have hi' : i < d'.size := by simpa using hi
      have hj2 : j < 2 := hj
      have h2 := (h9 (i * 2 + j) (by rw [size_flatK]; omega)).1
      rw [get_flatK _ _ _ _ (by omega), show (i * 2 + j) / 2 = i by omega, show (i * 2 + j) % 2 = j by omega] at h2
      have e1 : d'[i]! = d'[i] := by simp [hi']
      rw [e1] at h2
      show _ = (E2.enc d'.toList[i])[j]?
      have e3 : 0 + i * E2.k + j = 0 + (i * 2 + j) := by show 0 + i * 2 + j = _; omega
      rw [e3, h2]
      have hl : j < (E2.enc d'[i]).length := hj2
      simp only [Array.getElem_toList]
      rw [List.getElem?_eq_getElem hl, List.getElem!_eq_getElem?_getD, List.getElem?_eq_getElem hl]
      rfl
  · intro k hk
    have h9 := holdsK_sortWorldK_c E2.enc 2 w g 0 xs.toArray d' m os hH hg (by omega)
    have h2 := (h9 k (by rw [size_flatK]; omega)).2
    rw [Nat.zero_add] at h2
    exact h2
/-- in order, each once: only one such list -/
theorem sorted_uniq : ∀ (xs ys : List (Int × Int)), xs.Pairwise (fun p q => p.1 < q.1 ∨ (p.1 = q.1 ∧ p.2 ≤ q.2)) → ys.Pairwise (fun p q => p.1 < q.1 ∨ (p.1 = q.1 ∧ p.2 ≤ q.2)) → xs.Perm ys → xs = ys := by
  intro xs ys h1 h2 hp
  refine hp.eq_of_pairwise ?_ h1 h2
  intro a b _ _ h3 h4
  exact Prod.ext (by omega) (by omega)
end Go.Proofs.Ytjfiahendnlcjaa.Da
