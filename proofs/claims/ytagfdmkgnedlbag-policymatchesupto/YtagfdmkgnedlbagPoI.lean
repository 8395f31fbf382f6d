/- machineOf: what it makes. -/
import Derived.Test.YtagfdmkgnedlbagPoE
import Derived.Test.YtagfdmkgnedlbagPoG
namespace Go.Proofs.Ytagfdmkgnedlbag.Po
open Go.ChangeShapes Go.WideShapes Go.ChangeAt Go.RowKit Go.Joins Go.Proofs.Ytagfdmkgnedlbag.Ge
set_option linter.unusedVariables false

def S0 : List St := [⟨0, 0, 0, 0⟩, ⟨1, 0, 0, 0⟩]
theorem S0_ok : OkS S0 S0.length := fun q hq => by
  simp [S0] at hq
  rcases hq with rfl | rfl <;> exact ⟨⟨by decide, by decide⟩, by decide, by decide⟩
/-- a machine that is made -/
structure Mm (w : World) (bm : Nat) (T : List St) (b : Nat) (aS : Option Addr) (cS : Nat) : Prop where
  box : w.heap[bm]? = some (Obj.cells #[.slice aS T.length cS, .int .i64 ((b : Nat) : Int)] 42)
  ts : Ts w.heap.size w aS T
set_option maxRecDepth 100000 in
set_option maxHeartbeats 4000000 in
theorem machineOf_any (p : Pat) (a : Option Addr) (c : Nat) (w : World) (hbig : 2 * sz p ≤ 1099511627000) (hp : PA w w.heap.size p a) :
    Calls Try.prog 12 #[pv p a c] w fun e w' => ∃ bm T b aS cS, e = .returned (.pointer (some ⟨bm, 0, none⟩)) ∧ Mm w' bm T b aS cS ∧ Built (Lang p) (2 * sz p - 1) S0 T b 0 ∧ Below w.heap.size w w' := by
  have HP : Hid (PA w w.heap.size p a) := hp
  obtain ⟨k, n, sub⟩ := p
  obtain ⟨ln, hln⟩ : ∃ l, sub.length = l := ⟨_, rfl⟩
  unfold pv
  dsimp only [Pat.kind, Pat.num, Pat.sub]
  rw [hln]
  clear hp
  obtain ⟨s, hs⟩ : ∃ s, w.heap.size = s := ⟨_, rfl⟩
  obtain ⟨w0, hw0⟩ : ∃ w0, w.alloc (Obj.cells #[.int .i64 k, .int .i64 n, .slice a ln c] 24) = w0 := ⟨_, rfl⟩
  have hb0 : Below w.heap.size w w0 := by rw [← hw0]; exact (Below.refl _ w).alloc (Nat.le_refl _) _
  have hs0 : w0.heap.size = s + 1 := by rw [← hw0, ← hs]; simp
  have hx0 : w0.heap[s]? = some (Obj.cells #[.int .i64 k, .int .i64 n, .slice a ln c] 24) := by rw [← hw0, ← hs]; exact World.alloc_heap_new w _
  obtain ⟨w1, hw1⟩ : ∃ w1, w0.alloc (Obj.cells #[.int .i64 0, .int .i64 0, .int .i64 0, .int .i64 0, .int .i64 1, .int .i64 0, .int .i64 0, .int .i64 0] 39) = w1 := ⟨_, rfl⟩
  obtain ⟨hO1, hb1⟩ := own_made ET S0 2 rfl (by decide) hw1
  have hs1 : w1.heap.size = s + 1 + 1 := by rw [← hw1, ← hs0]; simp
  obtain ⟨w2, hw2⟩ : ∃ w2, w1.alloc (Obj.cells #[.slice (some ⟨s + 1, 0, none⟩) 2 2, .int .i64 0] 42) = w2 := ⟨_, rfl⟩
  have hb2 : Below w1.heap.size w1 w2 := by rw [← hw2]; exact (Below.refl _ w1).alloc (Nat.le_refl _) _
  have hs2 : w2.heap.size = s + 1 + 1 + 1 := by rw [← hw2, ← hs1]; simp
  have hm2 : w2.heap[s + 1 + 1]? = some (Obj.cells #[.slice (some ⟨s + 1, 0, none⟩) 2 2, .int .i64 0] 42) := by rw [← hw2, ← hs1]; exact World.alloc_heap_new w1 _
  have hx2 : w2.heap[s]? = some (Obj.cells #[.int .i64 k, .int .i64 n, .slice a ln c] 24) := (hb2.block s (by omega)).trans ((hb1.block s (by omega)).trans hx0)
  rw [hs0] at hO1
  have HM2 : Hid (Mc s w2 (s + 1 + 1) S0 (some (s + 1))) := ⟨⟨_, hm2, (hO1.mono (by omega)).bel hb2, rfl⟩, fun e => by (have := Option.some.inj e; omega), by omega⟩
  have HB2 : Hid (Below w.heap.size w w2) := hb0.trans ((hb1.mono hb0.size).trans (hb2.mono (by omega)))
  have hszp : sz (.mk k n sub) ≤ sz (.mk k n sub) := Nat.le_refl _
  have HC := build_any s (s + 1 + 1) _ (.mk k n sub) hszp S0 0 (some (s + 1)) a c w2 HM2.out S0_ok (by decide) (by decide) (by show 2 + _ ≤ _; omega) (by rw [← hs]; exact HP.out.bel HB2.out)
  unfold pv at HC
  dsimp only [Pat.kind, Pat.num, Pat.sub] at HC
  rw [hln] at HC
  obtain ⟨x0, x1, x2⟩ := cell_three hx2
  clear hb0 hb1 hb2 hO1 hm2 hx0 hx2
  go_enter Try.func12, Try.ntmps12
  go_wp2_with fail
  refine HC.mono ?_
  rintro r w3 ⟨T, b, own, rfl, hB, hM, hK⟩
  obtain ⟨v, hv, hO, hov⟩ := hM.box
  obtain ⟨aS, cS, rfl, -, -, hbo⟩ := hO.form
  have c1 : w3.cell? ⟨s + 1 + 1, 1, none⟩ = some (.int .i64 0) := (box_at hv).1
  have z1 : w3.frozen? ⟨s + 1 + 1, 1, none⟩ = false := (box_at hv (i := 1)).2
  have HRES : Hid (Mm (w3.setCell ⟨s + 1 + 1, 1, none⟩ (.int .i64 (b : Int))) (s + 1 + 1) T b aS cS ∧ Below w.heap.size w (w3.setCell ⟨s + 1 + 1, 1, none⟩ (.int .i64 (b : Int)))) := by
    have hl3 := hM.lt
    have hne := hM.ne
    refine ⟨⟨by rw [box_set hv]; rfl, ?_, ?_, hB.ok⟩, ?_⟩
    · have ho2 : OwnL ET s (w3.setCell ⟨s + 1 + 1, 1, none⟩ (.int .i64 (b : Int))) (.slice aS T.length cS) T := hO.blk (fun g e => Below.heap_setCell w3 ⟨s + 1 + 1, 1, none⟩ _ g (fun e2 => hne (by rw [← hov, e]; exact congrArg some e2)))
      exact ho2.lst.1
    · intro b' o' e
      have := (hbo b' o' e).2.2
      simpa using this
    · have h1 : Below s w2 w3 := HM2.out.under hK
      rw [hs]
      have h2 : Below s w w2 := by rw [← hs]; exact HB2.out
      exact (h2.trans h1).setCell (p := ⟨s + 1 + 1, 1, none⟩) (by show s ≤ s + 1 + 1; omega) _
  have HBB : Hid (Built (Lang (.mk k n sub)) (2 * sz (.mk k n sub) - 1) S0 T b 0) := hB
  clear hB hM hK hv hO hov hbo HC
  go_wp2_with fail
  go_ret
  exact ⟨_, T, b, aS, cS, rfl, HRES.out.1, HBB.out, HRES.out.2⟩
end Go.Proofs.Ytagfdmkgnedlbag.Po
