/- FibPlays answers true where what came in is of bulk at most 1048576: each step's error is the book's, its writes are 120 at most, none where nothing changes, and lie within the bound; behind each step each address that is asked leads where the book's longest match does. -/
import Derived.Test.YtjhdjbhpofhiaabFeC
import Derived.Test.YtjhdjbhpofhiaabChecked
import Derived.Test.YtjhdjbhpofhiaabRows
import Derived.Lib.SmallJoins
import Derived.Deep.Slices
import Derived.Deep.Strs
import Derived.Carry
import Derived.JoinedCond
namespace Go.Proofs.Ytjhdjbhpofhiaab
open Go.ChangeShapes Go.WideShapes Go.ChangeAt Go.RowKit Go.Joins Go.Deep Go.Proofs.Ytjhdjbhpofhiaab.Fb
namespace FPlayP
set_option linter.unusedVariables false

theorem own : ownKnob Try.prog.godebug = none := by kernel_rfl
theorem laidOut : laidOutB Try.prog = true := by kernel_rfl
theorem cellsS : Try.prog.cellsOf 56 = 4 := by kernel_rfl
theorem cellsP : Try.prog.cellsOf 33 = 2 := by kernel_rfl
theorem cells32 : Try.prog.cellsOf 31 = 1 := by kernel_rfl
theorem cells64 : Try.prog.cellsOf 3 = 1 := by kernel_rfl
theorem cellsB : Try.prog.cellsOf 4 = 1 := by kernel_rfl

section
variable {H : Type} {enc : TypeId × Value → H}
theorem lt_of {W : World} {b o : Nat} {v : Value} (h : W.cell? ⟨b, o, none⟩ = some v) : b < W.heap.size := World.block_lt_of_cell? W _ h
theorem weighs (d : DataW H) : 1 ≤ Rows.uptoBulk d := by
  cases d with
  | lit l => cases l <;> simp [Rows.uptoBulk]
  | _ => simp [Rows.uptoBulk]
theorem many (l : List (DataW H)) : l.length ≤ Rows.uptoBulkAll l := by
  induction l with
  | nil => simp
  | cons x r ih => have := weighs x; simp only [Rows.uptoBulkAll, List.length_cons]; omega

set_option maxRecDepth 100000 in
theorem open4 {W : World} {a : Option Addr} {len cap : Nat} {d : DataW H} {p : List MemPlace} (h : DataW.Trod enc Try.prog W 0 (fun _ => true) true 50 (.slice a len cap) d p) : ∃ ss : List (Int × Int × Int × Bool), len = ss.length ∧ Arr4 W a ss ∧ ss.length ≤ Rows.uptoBulk d := by
  obtain ⟨n, h⟩ := h
  rcases open_slice Try.underlying50 h with ⟨hc, -⟩ | ⟨ad, len', cap', m, k, D, Pl, hc, -, hl, hm, hmm, hx, hall⟩
  · simp [Value.cells] at hc
    obtain ⟨rfl, rfl, rfl⟩ := hc
    exact ⟨[], rfl, ⟨by simp, fun i hi => absurd hi (by simp), fun d hd => by cases hd⟩, by simp⟩
  · simp [Value.cells] at hc
    obtain ⟨rfl, rfl, rfl⟩ := hc
    simp only [if_true] at hmm
    subst hmm
    simp only [Prod.mk.injEq] at hx
    have hblk : len ≤ Rows.uptoBulk d := by
      rw [hx.1]
      simp only [Rows.uptoBulk]
      have h1 := many ((List.range len).map D)
      simp only [List.length_map, List.length_range] at h1
      omega
    rw [cellsS] at hall
    have each : ∀ i, i < m → ∃ q : Int × Int × Int × Bool, In32 q.1 ∧ W.cell? (ad.add (i * 4)) = some (.int .u32 q.1) ∧ W.cell? (ad.add (i * 4 + 1)) = some (.int .i64 q.2.1) ∧ W.cell? (ad.add (i * 4 + 2)) = some (.int .i64 q.2.2.1) ∧ W.cell? (ad.add (i * 4 + 3)) = some (.bool q.2.2.2) := fun i hi => by
      obtain ⟨cs', g, t⟩ := hall i hi
      obtain ⟨y0, y1, y2, n1, -, hlen, t0, t1, t2⟩ := trod_struct3 Try.underlying56 t
      rw [cellsS] at hlen
      obtain ⟨-, -, hcell⟩ := World.cells?_some g
      have e0 := hcell 0 (by omega)
      have e1 := hcell 1 (by omega)
      have e2 := hcell 2 (by omega)
      have e3 := hcell 3 (by omega)
      rw [add_add] at e0 e1 e2 e3
      match cs', hlen with
      | [c0, c1, c2, c3], _ =>
        obtain ⟨z0, z1, n2, -, -, u0, u1⟩ := trod_struct2 Try.underlying33 t0
        simp [cellsP, cells32, cells64, cellsB] at u0 u1 t1 t2
        obtain ⟨N0, h0, -, hw⟩ := DataW.trod_int Try.underlying31 u0
        obtain ⟨N1, h1, -, -⟩ := DataW.trod_int Try.underlying3 u1
        obtain ⟨N2, h2, -, -⟩ := DataW.trod_int Try.underlying3 t1
        obtain ⟨N3, h3, -⟩ := DataW.trod_bool Try.underlying4 t2
        simp at h0 h1 h2 h3
        subst h0 h1 h2 h3
        have hb := bounds_u32 hw
        exact ⟨(N0, N1, N2, N3), ⟨hb.1, by have := hb.2; show N0 < _; omega⟩, by simpa using e0, by simpa using e1, by simpa using e2, by simpa using e3⟩
    obtain ⟨q, hq⟩ := choose_lt each
    refine ⟨(List.range len).map q, by simp, ⟨?_, ?_, ?_⟩, by simpa using hblk⟩
    · simp; unfold maxLen at hm; omega
    · intro i hi
      have hi' : i < len := by simpa using hi
      obtain ⟨-, g0, g1, g2, g3⟩ := hq i (by omega)
      have hs : ad.spot = none := by simpa [Addr.add] using World.cell?_spot (hq 0 (by omega)).2.1
      obtain ⟨b, o, sp⟩ := ad
      obtain rfl : sp = none := hs
      have g0' : W.cell? ⟨b, o + i * 4, none⟩ = some (.int .u32 (q i).1) := by simpa [Addr.add_lit] using g0
      have g1' : W.cell? ⟨b, o + i * 4 + 1, none⟩ = some (.int .i64 (q i).2.1) := by simpa [Addr.add_lit, Nat.add_assoc] using g1
      have g2' : W.cell? ⟨b, o + i * 4 + 2, none⟩ = some (.int .i64 (q i).2.2.1) := by simpa [Addr.add_lit, Nat.add_assoc] using g2
      have g3' : W.cell? ⟨b, o + i * 4 + 3, none⟩ = some (.bool (q i).2.2.2) := by simpa [Addr.add_lit, Nat.add_assoc] using g3
      refine ⟨b, o, rfl, lt_of g0', ?_, ?_, ?_, ?_⟩
      · rw [g0']; simp
      · rw [g1']; simp
      · rw [g2']; simp
      · rw [g3']; simp
    · intro d hd
      obtain ⟨i, hi, rfl⟩ := List.mem_map.1 hd
      exact (hq i (by have := List.mem_range.1 hi; omega)).1

set_option maxRecDepth 100000 in
theorem openW {W : World} {a : Option Addr} {len cap : Nat} {d : DataW H} {p : List MemPlace} (h : DataW.Trod enc Try.prog W 0 (fun _ => true) true 51 (.slice a len cap) d p) : ∃ ms : List Int, len = ms.length ∧ Wds W a ms ∧ ms.length ≤ Rows.uptoBulk d ∧ (a = none → len = 0 ∧ cap = 0) := by
  obtain ⟨n, h⟩ := h
  rcases open_slice Try.underlying51 h with ⟨hc, -⟩ | ⟨ad, len', cap', m, k, D, Pl, hc, -, hl, hm, hmm, hx, hall⟩
  · simp [Value.cells] at hc
    obtain ⟨rfl, rfl, rfl⟩ := hc
    exact ⟨[], rfl, ⟨by simp, fun i hi => absurd hi (by simp), fun d hd => by cases hd⟩, by simp, fun _ => ⟨rfl, rfl⟩⟩
  · simp [Value.cells] at hc
    obtain ⟨rfl, rfl, rfl⟩ := hc
    simp only [if_true] at hmm
    subst hmm
    simp only [Prod.mk.injEq] at hx
    have hblk : len ≤ Rows.uptoBulk d := by
      rw [hx.1]
      simp only [Rows.uptoBulk]
      have h1 := many ((List.range len).map D)
      simp only [List.length_map, List.length_range] at h1
      omega
    rw [cells32] at hall
    have each : ∀ i, i < m → ∃ q : Int, In32 q ∧ W.cell? (ad.add i) = some (.int .u32 q) := fun i hi => by
      obtain ⟨cs', g, t⟩ := hall i hi
      obtain ⟨N0, h0, -, hw⟩ := DataW.trod_int Try.underlying31 t
      obtain ⟨-, -, hcell⟩ := World.cells?_some g
      subst h0
      have e0 := hcell 0 (by simp)
      rw [add_add] at e0
      have hb := bounds_u32 hw
      exact ⟨N0, ⟨hb.1, by have := hb.2; show N0 < _; omega⟩, by simpa using e0⟩
    obtain ⟨q, hq⟩ := choose_lt each
    refine ⟨(List.range len).map q, by simp, ⟨?_, ?_, ?_⟩, by simpa using hblk, fun e => by cases e⟩
    · simp; unfold maxLen at hm; omega
    · intro i hi
      have hi' : i < len := by simpa using hi
      obtain ⟨-, g0⟩ := hq i (by omega)
      have hs : ad.spot = none := by simpa [Addr.add] using World.cell?_spot (hq 0 (by omega)).2
      obtain ⟨b, o, sp⟩ := ad
      obtain rfl : sp = none := hs
      have g0' : W.cell? ⟨b, o + i, none⟩ = some (.int .u32 (q i)) := by simpa [Addr.add_lit] using g0
      exact ⟨b, o, rfl, lt_of g0', by rw [g0']; simp⟩
    · intro d hd
      obtain ⟨i, hi, rfl⟩ := List.mem_map.1 hd
      exact (hq i (by have := List.mem_range.1 hi; omega)).1
end

set_option maxHeartbeats 800000 in
set_option maxRecDepth 100000 in
theorem lifted (os : Os) (started : os.Started) (H : Type) (enc : TypeId × Value → H) (F : Stop.Interp) :
    ReturnsInHanded {} Try.checked os 6 .any ((Rows.OpenSpec.upto Rows.fibPlaysSpec).pre6 enc Try.prog Try.f6 Rows.fibPlaysUptoRow.domain false) (((Rows.OpenSpec.upto Rows.fibPlaysSpec).at F).post enc Try.prog Try.f6 false true false false) := by
  refine returnsInHanded_of_cond (C := Try.checked) (s := Rows.OpenSpec.upto Rows.fibPlaysSpec) (k := Rows.uptoSmall) rfl own started (by kernel_rfl) Try.func6
    (OpenSpec.witness (enc := enc) (C := Try.checked) (s := Rows.OpenSpec.upto Rows.fibPlaysSpec) (k := Rows.uptoSmall) rfl false ⟨#[], #[.slice none 0 0, .slice none 0 0], []⟩ 8 (by kernel_rfl) (by kernel_rfl) (by kernel_rfl)
      (x := ([.nil, .nil], [], [])) (by kernel_rfl) rfl (by kernel_rfl)) ?_
  intro W base args ds gs before hval0 hW _ hk _
  have hval : ∀ (j : Nat) t v, Try.f6.params[j]? = some t → args[j]? = some v → Value.okWide Try.prog W .any base t v := hval0
  have hW' := hW
  obtain ⟨p, q, hA0, hV, rfl, _, _⟩ := hW
  have hA : DataW.TrodAll enc Try.prog W 0 (fun _ => true) true Try.f6.params.toList args.toList ds p := hA0
  rw [Try.params6] at hA hval
  obtain ⟨v0, vs0, d0, ds0, p0, q0, hargs, rfl, rfl, h0, r0⟩ := trodAll_cons hA
  obtain ⟨v1, vs1, d1, ds1, p1, q1, rfl, rfl, rfl, h1, r1⟩ := trodAll_cons r0
  obtain ⟨rfl, rfl, rfl⟩ := trodAll_nil r1
  obtain rfl : args = #[v0, v1] := by cases args; simp_all
  obtain ⟨rfl, rfl⟩ := trodVars_none hV
  obtain ⟨a0, len0, cap0, rfl⟩ := okWide_slice Try.underlying50 (hval 0 50 v0 rfl rfl)
  obtain ⟨a1, len1, cap1, rfl⟩ := okWide_slice Try.underlying51 (hval 1 51 v1 rfl rfl)
  clear hA0 hval0
  simp only [List.append_nil] at hW' hk
  have hlt : ∀ x ∈ p0 ++ p1, x.block < W.heap.size := fun x hx => by simpa using hW'.lt x (by simpa using hx)
  obtain ⟨ss, rfl, harr, hblk⟩ := open4 h0
  obtain ⟨mo, rfl, hwd, hblk1, hnil⟩ := openW h1
  have hsm : ss.length ≤ 1048576 ∧ mo.length ≤ 1048576 := by
    have h : Rows.uptoBulkAll [d0, d1] ≤ 1048576 := of_decide_eq_true hk
    simp only [Rows.uptoBulkAll] at h
    omega
  refine (plays_any a0 a1 cap0 cap1 ss ss.length rfl hsm.1 mo mo.length rfl hsm.2 W harr hwd hnil).mono fun e W' ⟨he, bel⟩ => ?_
  subst he
  have harg0 := Below.trod laidOut (by kernel_rfl) (of_decide_eq_true (by kernel_rfl)) h0 bel (fun x hx => hlt x (List.mem_append.2 (.inl hx)))
  have harg1 := Below.trod laidOut (by kernel_rfl) (of_decide_eq_true (by kernel_rfl)) h1 bel (fun x hx => hlt x (List.mem_append.2 (.inr hx)))
  exact ⟨_, rfl, _, _, _, [], _, [], hW', trodAll_mk1 (shut_bool Try.underlying4 _), trodAll_cons_mk harg0 (trodAll_cons_mk harg1 trodAll_mk0), rfl, bel.frame _, fun h => by cases h⟩
end FPlayP

theorem fplays_holds : Rows.FibPlaysUptoSaid :=
  OpenClaim.holds_of_cond 6 Try.f6 rfl rfl rfl rfl rfl rfl rfl ⟨rfl, rfl, rfl, rfl, rfl⟩ rfl rfl rfl rfl rfl (by kernel_rfl) Try.func6 (by kernel_rfl)
    (of_decide_eq_true (by kernel_rfl)) (by unfold Func.isWrapper; first | (rw [if_pos (by decide +kernel)]; kernel_rfl) | (rw [if_neg (by decide +kernel)]; exact ⟨rfl, rfl⟩))
    (fun os started H enc _ F => FPlayP.lifted os started H enc F)
#print axioms fplays_holds
end Go.Proofs.Ytjhdjbhpofhiaab
