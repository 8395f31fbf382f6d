/- Patterns and paths that come in, opened. -/
import Derived.Test.YtagfdmkgnedlbagPoD
import Derived.Test.YtagfdmkgnedlbagRows
import Derived.Lib.SmallJoins
import Derived.Deep.Slices
import Derived.Deep.Strs
import Derived.Carry
namespace Go.Proofs.Ytagfdmkgnedlbag.Po
open Go.ChangeShapes Go.WideShapes Go.ChangeAt Go.RowKit Go.Joins Go.Deep Go.Proofs.Ytagfdmkgnedlbag.Ge
set_option linter.unusedVariables false

instance : Inhabited Pat := ⟨.mk 0 0 []⟩
section
variable {H : Type}
theorem weighs (d : DataW H) : 1 ≤ Rows.uptoBulk d := by
  cases d with
  | lit l => cases l <;> simp [Rows.uptoBulk]
  | _ => simp [Rows.uptoBulk]
theorem many (l : List (DataW H)) : l.length ≤ Rows.uptoBulkAll l := by
  induction l with
  | nil => simp
  | cons x r ih => have := weighs x; simp only [Rows.uptoBulkAll, List.length_cons]; omega
theorem bulk_mem {l : List (DataW H)} {z : DataW H} (h : z ∈ l) : Rows.uptoBulk z ≤ Rows.uptoBulkAll l := by
  induction l with
  | nil => cases h
  | cons x r ih =>
    simp only [Rows.uptoBulkAll]
    rcases List.mem_cons.1 h with rfl | h
    · omega
    · have := ih h; omega
theorem bulk_sum (f : Nat → Nat) (D : Nat → DataW H) : ∀ (l : List Nat), (∀ i ∈ l, f i ≤ Rows.uptoBulk (D i)) → (l.map f).sum ≤ Rows.uptoBulkAll (l.map D)
  | [], _ => by simp [Rows.uptoBulkAll]
  | i :: l, h => by
    have h1 := h i List.mem_cons_self
    have h2 := bulk_sum f D l (fun j hj => h j (List.mem_cons_of_mem _ hj))
    simp only [List.map_cons, List.sum_cons, Rows.uptoBulkAll]
    omega
end
section
variable {H : Type} {enc : TypeId × Value → H}
theorem cellsPt : Try.prog.cellsOf 24 = 3 := by kernel_rfl
theorem cells64 : Try.prog.cellsOf 3 = 1 := by kernel_rfl
theorem cellsSP : Try.prog.cellsOf 22 = 1 := by kernel_rfl
set_option maxRecDepth 100000 in
theorem open_pat {W : World} : ∀ (m n : Nat) (cs : List Value) (x : DataW H × List MemPlace), Rows.uptoBulk x.1 ≤ m → DataW.trod enc Try.prog W 0 (fun _ => true) true n 24 cs = some x → ∃ p a c, cs = [.int .i64 p.kind, .int .i64 p.num, .slice a p.sub.length c] ∧ PA W W.heap.size p a ∧ sz p ≤ Rows.uptoBulk x.1 := by
  intro m
  induction m with
  | zero => intro n cs x hb; have := weighs x.1; omega
  | succ m ih =>
    intro n cs x hb h
    obtain ⟨y0, y1, y2, n1, hx, hlen, t0, t1, t2⟩ := trod_struct3 Try.underlying24 h
    rw [cellsPt] at hlen
    match cs, hlen with
    | [c0, c1, c2], _ =>
      simp [cells64, cellsSP] at t0 t1 t2
      obtain ⟨N0, h0, -, -⟩ := DataW.trod_int Try.underlying3 t0
      obtain ⟨N1, h1, -, -⟩ := DataW.trod_int Try.underlying3 t1
      simp at h0 h1
      subst h0 h1
      have hxb : Rows.uptoBulk x.1 = Rows.uptoBulk y0.1 + (Rows.uptoBulk y1.1 + (Rows.uptoBulk y2.1 + 0)) + 1 := by
        rw [hx]
        simp only [Rows.uptoBulk, Rows.uptoBulkAll]
      rcases open_slice Try.underlying22 t2 with ⟨hc, -⟩ | ⟨ad, len, cap, m', k, D, Pl, hc, -, hl, hm, hmm, hx2, hall⟩
      · simp at hc
        subst hc
        exact ⟨.mk N0 N1 [], none, 0, rfl, .mk 0 0 (fun _ => none) (fun _ => 0) (fun i h => absurd h (by simp)) (fun i h => absurd h (by simp)), by rw [sz_mk]; simp; omega⟩
      · simp at hc
        subst hc
        simp only [if_true] at hmm
        subst hmm
        have hy2 : Rows.uptoBulk y2.1 = Rows.uptoBulkAll ((List.range len).map D) + Rows.uptoBulkAll ((List.range (m' - len)).map fun j => D (len + j)) + 1 := by
          rw [hx2]
          simp only [Rows.uptoBulk]
        rw [cellsPt] at hall
        have each : ∀ i, i < len → ∃ q : Pat × Option Addr × Nat, W.cell? (ad.add (i * 3)) = some (.int .i64 q.1.kind) ∧ W.cell? (ad.add (i * 3 + 1)) = some (.int .i64 q.1.num) ∧ W.cell? (ad.add (i * 3 + 2)) = some (.slice q.2.1 q.1.sub.length q.2.2) ∧ PA W W.heap.size q.1 q.2.1 ∧ sz q.1 ≤ Rows.uptoBulk (D i) := fun i hi => by
          obtain ⟨cs', g, t⟩ := hall i (by omega)
          have hDi : Rows.uptoBulk (D i) ≤ Rows.uptoBulkAll ((List.range len).map D) := bulk_mem (List.mem_map.2 ⟨i, List.mem_range.2 hi, rfl⟩)
          obtain ⟨p, a, c, rfl, hp, hsz⟩ := ih k cs' (D i, Pl i) (by show Rows.uptoBulk (D i) ≤ m; omega) t
          obtain ⟨-, -, hcell⟩ := World.cells?_some g
          have e0 := hcell 0 (by simp)
          have e1 := hcell 1 (by simp)
          have e2 := hcell 2 (by simp)
          rw [Addr.add_add] at e0 e1 e2
          exact ⟨(p, a, c), by simpa using e0, by simpa using e1, by simpa using e2, hp, hsz⟩
        obtain ⟨q, hq⟩ := choose_lt each
        have hszs : sz (.mk N0 N1 ((List.range len).map fun i => (q i).1)) ≤ 1 + Rows.uptoBulkAll ((List.range len).map D) := by
          rw [sz_mk, List.map_map]
          have := bulk_sum (fun i => sz (q i).1) D (List.range len) (fun i hi => (hq i (List.mem_range.1 hi)).2.2.2.2)
          have e1 : (sz ∘ fun i => (q i).1) = fun i => sz (q i).1 := rfl
          rw [e1]
          omega
        refine ⟨.mk N0 N1 ((List.range len).map fun i => (q i).1), some ad, m', by simp [Pat.kind, Pat.num, Pat.sub], ?_, by omega⟩
        by_cases hl0 : len = 0
        · subst hl0
          exact .mk 0 0 (fun _ => none) (fun _ => 0) (fun i h => absurd h (by simp)) (fun i h => absurd h (by simp))
        · have hs : ad.spot = none := by simpa [Addr.add] using World.cell?_spot (hq 0 (by omega)).1
          obtain ⟨b, o, sp⟩ := ad
          obtain rfl : sp = none := hs
          refine .mk b o (fun i => (q i).2.1) (fun i => (q i).2.2) (fun i h => ?_) (fun i h => ?_)
          · have hi : i < len := by simpa using h
            obtain ⟨g0, g1, g2, -, -⟩ := hq i hi
            rw [Addr.add_lit] at g0 g1 g2
            simp only [List.getElem_map, List.getElem_range]
            exact ⟨trivial, World.block_lt_of_cell? W _ g0, g0, g1, g2⟩
          · have hi : i < len := by simpa using h
            simp only [List.getElem_map, List.getElem_range]
            exact (hq i hi).2.2.2.1
set_option maxRecDepth 100000 in
theorem open_ints {W : World} {a : Option Addr} {len cap : Nat} {d : DataW H} {p : List MemPlace} (h : DataW.Trod enc Try.prog W 0 (fun _ => true) true 25 (.slice a len cap) d p) : ∃ xs : List Int, xs.length = len ∧ Lst EI W a xs ∧ len ≤ Rows.uptoBulk d ∧ len ≤ cap ∧ (a = none → len = 0 ∧ cap = 0) := by
  obtain ⟨n, h⟩ := h
  rcases open_slice Try.underlying25 h with ⟨hc, -⟩ | ⟨ad, len', cap', m, k, D, Pl, hc, -, hl, hm, hmm, hx, hall⟩
  · simp [Value.cells] at hc
    obtain ⟨rfl, rfl, rfl⟩ := hc
    exact ⟨[], rfl, ⟨by simp, fun i hi => absurd hi (by simp)⟩, by simp, by simp, fun _ => ⟨rfl, rfl⟩⟩
  · simp [Value.cells] at hc
    obtain ⟨rfl, rfl, rfl⟩ := hc
    simp only [if_true] at hmm
    subst hmm
    have hblk : len ≤ Rows.uptoBulk d := by
      have hd : d = _ := congrArg Prod.fst hx
      rw [hd]
      simp only [Rows.uptoBulk]
      have h1 := many ((List.range len).map D)
      simp only [List.length_map, List.length_range] at h1
      omega
    rw [cells64] at hall
    have each : ∀ i, i < m → ∃ q : Int, W.cell? (ad.add (i * 1)) = some (.int .i64 q) := fun i hi => by
      obtain ⟨cs', g, t⟩ := hall i hi
      obtain ⟨-, hlen, hcell⟩ := World.cells?_some g
      have e0 := hcell 0 (by omega)
      rw [Addr.add_add] at e0
      obtain ⟨N0, h0, -, -⟩ := DataW.trod_int Try.underlying3 t
      subst h0
      exact ⟨N0, by simpa using e0⟩
    obtain ⟨q, hq⟩ := choose_lt each
    refine ⟨(List.range len).map q, by simp, ⟨?_, ?_⟩, hblk, hl, fun e => by cases e⟩
    · simp; unfold maxLen at hm; omega
    · intro i hi
      have hi' : i < len := by simpa using hi
      have g0 := hq i (by omega)
      have hs : ad.spot = none := by simpa [Addr.add] using World.cell?_spot (hq 0 (by omega))
      obtain ⟨b, o, sp⟩ := ad
      obtain rfl : sp = none := hs
      rw [Addr.add_lit] at g0
      rw [show ((List.range len).map q)[i] = q i by simp]
      refine ⟨b, o, rfl, World.block_lt_of_cell? W _ g0, fun j hj => ?_⟩
      have hj1 : j < 1 := hj
      match j, hj1 with
      | 0, _ => exact g0
end
end Go.Proofs.Ytagfdmkgnedlbag.Po
