/- Lists of bools in memory. -/
import Derived.Test.YtagfdmkgnedlbagPoN
import Derived.Test.YtagfdmkgnedlbagPoE
import Derived.Laws.OwnMore
import Derived.Laws.CopyOwn
namespace Go.Proofs.Ytagfdmkgnedlbag.Po
open Go.ChangeShapes Go.WideShapes Go.ChangeAt Go.RowKit Go.Joins Go.Proofs.Ytagfdmkgnedlbag.Ge
set_option linter.unusedVariables false

def EB : El Bool := ⟨4, 36, 1, 1, .bool false, fun b => [.bool b], by decide, by decide, fun _ => rfl, fun x u hu => by simp at hu; subst hu; rfl, Try.underlying36, by kernel_rfl, rfl⟩
theorem eb_rep (n : Nat) : (madeCells #[EB.z] n).toList = EB.cs (List.replicate n false) := by
  rw [toList_madeCells_one]
  simp [El.cs, EB, List.flatMap_replicate]
theorem eb_set {N g n c : Nat} {w : World} {O : List Bool} (h : OwnL EB N w (.slice (some ⟨g, 0, none⟩) n c) O) {i : Nat} (hi : i < n) (b : Bool) : w.cell? ⟨g, i, none⟩ = some (.bool (O.getD i false)) ∧ w.frozen? ⟨g, i, none⟩ = false ∧ OwnL EB N (w.setCell ⟨g, i, none⟩ (.bool b)) (.slice (some ⟨g, 0, none⟩) n c) (O.set i b) ∧ N ≤ g ∧ g < w.heap.size := by
  have hl := h.lst.2
  have hi' : i < O.length := by omega
  obtain ⟨q1, q2, q3, q4⟩ := h.at0
  have e0 : i * EB.k + 0 = i := by show i * 1 + 0 = i; omega
  have c0 := q1 i hi' 0 (by decide)
  have s0 := h.setc (E := EB) hi' (by decide : 0 < 1) (.bool b) b rfl
  rw [e0] at c0 s0
  refine ⟨?_, q2 i, s0, q4, q3⟩
  rw [c0, List.getD_eq_getElem?_getD, List.getElem?_eq_getElem hi']
  rfl
theorem eb_get {w : World} {a : Option Addr} {O : List Bool} (h : Lst EB w a O) {i : Nat} (hi : i < O.length) : ∃ b o, a = some ⟨b, o, none⟩ ∧ b < w.heap.size ∧ w.cell? ⟨b, o + i, none⟩ = some (.bool O[i]) := by
  obtain ⟨b, o, e, hl, hc⟩ := h.cells i hi
  have c0 := hc 0 (by decide)
  have e0 : o + i * EB.k + 0 = o + i := by show o + i * 1 + 0 = o + i; omega
  rw [e0] at c0
  exact ⟨b, o, e, hl, c0⟩
theorem ei_get {w : World} {a : Option Addr} {O : List Int} (h : Lst EI w a O) {i : Nat} (hi : i < O.length) : ∃ b o, a = some ⟨b, o, none⟩ ∧ b < w.heap.size ∧ w.cell? ⟨b, o + i, none⟩ = some (.int .i64 O[i]) := by
  obtain ⟨b, o, e, hl, hc⟩ := h.cells i hi
  have c0 := hc 0 (by decide)
  have e0 : o + i * EI.k + 0 = o + i := by show o + i * 1 + 0 = o + i; omega
  rw [e0] at c0
  exact ⟨b, o, e, hl, c0⟩
/-- a list that was made is copied over -/
theorem eb_copy {N g n : Nat} {w : World} {O : List Bool} (h : OwnL EB N w (.slice (some ⟨g, 0, none⟩) n n) O) : ∃ cur : List Value, w.heap[g]? = some (.cells cur.toArray 4 (0, 0)) ∧ cur.length = n ∧ ∀ (w' : World) (F : List Bool), F.length = n → w'.heap[g]? = some (.cells (splice cur 0 (EB.cs F)).toArray 4 (0, 0)) → OwnL EB N w' (.slice (some ⟨g, 0, none⟩) n n) F := by
  have hl := h.lst.2
  rcases h.row.2 with ⟨h1, h2⟩ | ⟨g', c', cur, h1, h2, h3, h4, h5, h6, h7⟩
  · cases h1
  · cases h1
    have hcl : cur.toList.length = O.length := by
      have e1 : cur.size = O.length * EB.k := h6
      have e2 : O.length * EB.k = O.length := by show O.length * 1 = O.length; omega
      simp; omega
    refine ⟨cur.toList, by have h8 : w.heap[g]? = some (Obj.cells cur 4) := h3; simpa using h8, hcl, fun w' F hF hw => ?_⟩
    have e1 : splice cur.toList 0 (EB.cs F) = EB.cs F := by
      unfold splice
      rw [List.take_zero, List.nil_append, List.drop_eq_nil_of_le, List.append_nil]
      rw [cs_len, hcl, hF]
      show _ ≤ 0 + _ * 1
      omega
    rw [e1] at hw
    refine ⟨cs_len _ _, .inr ⟨g, O.length, (EB.cs F).toArray, by rw [hF], h2, hw, by omega, h5, ?_, ?_⟩⟩
    · simp [cs_len, hF]
    · have e2 : F.length * EB.k = (EB.cs F).length := (cs_len EB F).symm
      rw [e2]
      simp
/-- up to i as f says, behind it no -/
def upto (f : Nat → Bool) (n i : Nat) : List Bool := (List.range n).map fun j => decide (j ≤ i) && f j
theorem upto_len (f : Nat → Bool) (n i : Nat) : (upto f n i).length = n := by simp [upto]
theorem upto_set (f : Nat → Bool) (n i : Nat) : (upto f n i).set (i + 1) (f (i + 1)) = upto f n (i + 1) := by
  apply List.ext_getElem?
  intro j
  unfold upto
  by_cases e : i + 1 = j
  · subst e
    rcases Nat.lt_or_ge (i + 1) n with h | h
    · rw [List.getElem?_set_self (by simpa using h), List.getElem?_map, List.getElem?_range h]
      simp
    · rw [List.getElem?_eq_none (by simpa using h), List.getElem?_eq_none (by simpa using h)]
  · rw [List.getElem?_set_ne e, List.getElem?_map, List.getElem?_map]
    cases hj : (List.range n)[j]? with
    | none => rfl
    | some m =>
      have hm : m = j := by
        rcases Nat.lt_or_ge j n with h | h
        · rw [List.getElem?_range h] at hj; exact (Option.some.inj hj).symm
        · rw [List.getElem?_eq_none (by simpa using h)] at hj; cases hj
      subst hm
      simp only [Option.map_some, Option.some.injEq]
      congr 1
      rw [decide_eq_decide]
      omega
theorem upto_zero (f : Nat → Bool) (n : Nat) (h : f 0 = false) : upto f n 0 = List.replicate n false := by
  unfold upto
  apply List.ext_getElem (by simp)
  intro j h1 h2
  simp only [List.getElem_map, List.getElem_range, List.getElem_replicate]
  by_cases e : j = 0
  · subst e; simp [h]
  · have : ¬ j ≤ 0 := by omega
    simp [this]
theorem upto_all (L : Lg) (xs : List Int) (F : List Bool) (n : Nat) (h : xs.length = n) : upto (en L xs F) (n + 1) n = ends L xs F := by
  unfold upto ends
  rw [h]
  apply List.map_congr_left
  intro j hj
  have : j ≤ n := by have := List.mem_range.1 hj; omega
  simp [this]
/-- f, and up to j g too -/
def mixl (f g : Nat → Bool) (n j : Nat) : List Bool := (List.range n).map fun m => f m || (decide (m < j) && g m)
theorem mix_get (f g : Nat → Bool) {n j m : Nat} (h : m < n) : (mixl f g n j)[m]? = some (f m || (decide (m < j) && g m)) := by
  unfold mixl
  rw [List.getElem?_map, List.getElem?_range h]
  rfl
theorem mix_len (f g : Nat → Bool) (n j : Nat) : (mixl f g n j).length = n := by simp [mixl]
theorem mix_set (f g : Nat → Bool) {n j : Nat} (hj : j < n) : (mixl f g n j).set j (f j || g j) = mixl f g n (j + 1) := by
  apply List.ext_getElem?
  intro m
  rcases Nat.lt_or_ge m n with h | h
  · by_cases e : j = m
    · subst e
      rw [List.getElem?_set_self (by rw [mix_len]; exact h), mix_get f g h]
      simp
    · rw [List.getElem?_set_ne e, mix_get f g h, mix_get f g h]
      congr 3
      rw [decide_eq_decide]
      omega
  · rw [List.getElem?_eq_none (by rw [List.length_set, mix_len]; exact h), List.getElem?_eq_none (by rw [mix_len]; exact h)]
theorem mix_zero (f g : Nat → Bool) (n : Nat) : mixl f g n 0 = (List.range n).map f := by
  unfold mixl
  apply List.map_congr_left
  intro m _
  simp
theorem mix_all (f g h : Nat → Bool) (n : Nat) (e : ∀ m, m < n → h m = (f m || g m)) : mixl f g n n = (List.range n).map h := by
  unfold mixl
  apply List.map_congr_left
  intro m hm
  have hm' := List.mem_range.1 hm
  rw [e m hm']
  simp [hm']
theorem eb_blk {N M g n c : Nat} {w : World} {ao : Option Addr} {l co : Nat} {O : List Bool} (h : OwnL EB N w (.slice ao l co) O) (hg : g < N) (i : Nat) (v : Value) : OwnL EB N (w.setCell ⟨g, i, none⟩ v) (.slice ao l co) O :=
  h.blk (fun b e => Below.heap_setCell w ⟨g, i, none⟩ v b (fun e2 => by have e3 : b = g := e2; have := (h.row.lt b e).1; omega))
/-- what polEnds is to answer -/
def Ec (p : Pat) : Prop := ∀ (xs : List Int) (ln : Nat) (F : List Bool) (a va vf : Option Addr) (c ca cf : Nat) (w : World), xs.length = ln → F.length = ln + 1 → ln ≤ 1048576 → sz p ≤ 1048576 → PA w w.heap.size p a → Lst EI w va xs → Lst EB w vf F →
  Calls Try.prog 14 #[pv p a c, .slice va ln ca, .slice vf (ln + 1) cf] w fun e w' => ∃ ao co, e = .returned (.slice ao (ln + 1) co) ∧ OwnL EB w.heap.size w' (.slice ao (ln + 1) co) (ends (Lang p) xs F) ∧ Below w.heap.size w w'
end Go.Proofs.Ytagfdmkgnedlbag.Po
