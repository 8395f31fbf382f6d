/- writes: the words of a node. -/
import Derived.Test.YtjhdjbhpofhiaabFbE
import Derived.Deep.RegionHeld3
namespace Go.Proofs.Ytjhdjbhpofhiaab.Fb
open Go.ChangeShapes Go.WideShapes Go.ChangeAt Go.RowKit Go.Joins Go.Proofs.Ytjhdjbhpofhiaab.PM Go.Proofs.Ytjhdjbhpofhiaab.Ask
set_option linter.unusedVariables false

/-- the writes that make a node -/
def nodeWs (n ad len way s0 s1 : Int) : List (Nat × Int) := [((n * 4).toNat, len * 65536 + way), ((n * 4 + 1).toNat, ad), ((n * 4 + 2).toNat, s0), ((n * 4 + 3).toNat, s1)]

/-- writes as cells -/
def wws (ws : List (Nat × Int)) : List Value := ws.flatMap (fun y => [.int .i64 (y.1 : Int), .int .u32 y.2])
theorem wws_len (ws : List (Nat × Int)) : (wws ws).length = ws.length * 2 := by
  induction ws with
  | nil => rfl
  | cons y ws ih => show ([_, _] ++ wws ws).length = _; rw [List.length_append, ih]; simp; omega
theorem wws_app (ws vs : List (Nat × Int)) : wws (ws ++ vs) = wws ws ++ wws vs := by simp [wws]
theorem wws_at : ∀ (ws : List (Nat × Int)) (i : Nat) (h : i < ws.length), (wws ws)[i * 2]? = some (.int .i64 (ws[i].1 : Int)) ∧ (wws ws)[i * 2 + 1]? = some (.int .u32 ws[i].2)
  | [], i, h => absurd h (by simp)
  | y :: ws, 0, h => ⟨rfl, rfl⟩
  | y :: ws, i + 1, h => by
    have := wws_at ws i (by simpa using h)
    have e : wws (y :: ws) = .int .i64 (y.1 : Int) :: .int .u32 y.2 :: wws ws := rfl
    rw [e, show (i + 1) * 2 = i * 2 + 2 by omega]
    simpa using this
theorem wws_node (n ad len way s0 s1 : Int) (n0 : 0 ≤ n) : wws (nodeWs n ad len way s0 s1) = [.int .i64 (n * 4), .int .u32 (len * 65536 + way), .int .i64 (n * 4 + 1), .int .u32 ad, .int .i64 (n * 4 + 2), .int .u32 s0, .int .i64 (n * 4 + 3), .int .u32 s1] := by
  have e0 : (((n * 4).toNat : Nat) : Int) = n * 4 := by omega
  have e1 : (((n * 4 + 1).toNat : Nat) : Int) = n * 4 + 1 := by omega
  have e2 : (((n * 4 + 2).toNat : Nat) : Int) = n * 4 + 2 := by omega
  have e3 : (((n * 4 + 3).toNat : Nat) : Int) = n * 4 + 3 := by omega
  simp only [wws, nodeWs, List.flatMap_cons, List.flatMap_nil, e0, e1, e2, e3]; rfl

/-- the node's box -/
structure NBox (b : Nat) (ad len way s0 s1 : Int) (W : World) : Prop where
  c0 : W.cell? ⟨b, 0, none⟩ = some (.int .u32 ad)
  c1 : W.cell? ⟨b, 1, none⟩ = some (.int .i64 len)
  c2 : W.cell? ⟨b, 2, none⟩ = some (.int .i64 way)
  c3 : W.cell? ⟨b, 3, none⟩ = some (.int .u32 s0)
  c4 : W.cell? ⟨b, 4, none⟩ = some (.int .u32 s1)
theorem NBox.bel {b : Nat} {ad len way s0 s1 : Int} {W W' : World} (h : NBox b ad len way s0 s1 W) (hb : Below W.heap.size W W') : NBox b ad len way s0 s1 W' := ⟨cell_bel h.c0 hb, cell_bel h.c1 hb, cell_bel h.c2 hb, cell_bel h.c3 hb, cell_bel h.c4 hb⟩

set_option maxRecDepth 100000 in
set_option maxHeartbeats 2000000 in
theorem writes_any (n ad len way s0 s1 : Int) (n0 : 0 ≤ n) (n1 : n < 4294967296) (a0 : 0 ≤ ad) (a1 : ad < 4294967296) (l0 : 0 ≤ len) (l1 : len ≤ 32) (w0 : 0 ≤ way) (w1 : way ≤ 65535) (s00 : 0 ≤ s0) (s01 : s0 < 4294967296) (s10 : 0 ≤ s1) (s11 : s1 < 4294967296) (w : World) :
    Calls Try.prog 79 #[.agg #[.int .u32 ad, .int .i64 len, .int .i64 way, .int .u32 s0, .int .u32 s1], .int .u32 n] w fun e w' => ∃ g, e = .returned (.slice (some ⟨g, 0, none⟩) 4 4) ∧ w.heap.size ≤ g ∧ Below w.heap.size w w' ∧ w'.ownsRow w.heap.size 64 2 (.slice (some ⟨g, 0, none⟩) 4 4) 4 (wws (nodeWs n ad len way s0 s1)) ∧ ∀ bt own, bt < w.heap.size → (∀ b, w.heap.size ≤ b → some b ≠ own) → Wrs bt own w' (some ⟨g, 0, none⟩) (nodeWs n ad len way s0 s1) := by
  go_enter Try.func79, Try.ntmps79
  go_wp2_with fail
  obtain ⟨wB, hwB⟩ : ∃ wB, w.alloc (Obj.cells #[.int .u32 ad, .int .i64 len, .int .i64 way, .int .u32 s0, .int .u32 s1] 120) = wB := ⟨_, rfl⟩
  have hb : Below w.heap.size w wB := by rw [← hwB]; exact (Below.refl _ w).alloc (Nat.le_refl _) _
  have g0 := World.alloc_heap_new w (Obj.cells #[.int .u32 ad, .int .i64 len, .int .i64 way, .int .u32 s0, .int .u32 s1] 120)
  rw [hwB] at g0 ⊢
  have hN : NBox w.heap.size ad len way s0 s1 wB := by constructor <;> simp [World.cell?, g0]
  have HN : Hid (NBox w.heap.size ad len way s0 s1 wB) := hN
  obtain ⟨c0, c1, c2, c3, c4⟩ := hN
  clear hwB g0
  have HH : Hid (∀ W, Calls Try.prog 76 #[.agg #[.int .u32 ad, .int .i64 len, .int .i64 way, .int .u32 s0, .int .u32 s1]] W fun e w' => e = .returned (.int .u32 (len * 65536 + way)) ∧ Below W.heap.size W w') := fun W => head_any ad len way s0 s1 l0 (by omega) w0 w1 W
  go_region_held3 (fun w' => w'.cell? ⟨w.heap.size, 0, none⟩ = some (.int .u32 ad) ∧ w'.cell? ⟨w.heap.size, 1, none⟩ = some (.int .i64 len) ∧ w'.cell? ⟨w.heap.size, 2, none⟩ = some (.int .i64 way) ∧ w'.cell? ⟨w.heap.size, 3, none⟩ = some (.int .u32 s0) ∧ w'.cell? ⟨w.heap.size, 4, none⟩ = some (.int .u32 s1)) (first | (simp [go_sem, c0, c1, c2, c3, c4]; done) | (refine ⟨?_, ?_, ?_, ?_, ?_⟩ <;> assumption) | go_keep)
    (first
      | (go_at_call 76; refine (HH.out _).mono ?_; rintro e w4 ⟨rfl, hb4⟩; have hb4' : Below wB.heap.size wB w4 := (show Below wB.heap.size wB wB.drew from ⟨rfl, rfl, rfl, Nat.le_refl _, fun _ _ => rfl⟩).trans hb4; obtain ⟨d0, d1, d2, d3, d4⟩ := HN.out.bel hb4')
      | (go_at_call_of 72 (Value.int .i64 0); refine (place_any n 0 n0 n1 (by decide) (by decide) _).mono ?_; rintro e w5 ⟨rfl, rfl⟩)
      | (go_at_call_of 72 (Value.int .i64 1); refine (place_any n 1 n0 n1 (by decide) (by decide) _).mono ?_; rintro e w5 ⟨rfl, rfl⟩)
      | (go_at_call_of 72 (Value.int .i64 2); refine (place_any n 2 n0 n1 (by decide) (by decide) _).mono ?_; rintro e w5 ⟨rfl, rfl⟩)
      | (go_at_call_of 72 (Value.int .i64 3); refine (place_any n 3 n0 n1 (by decide) (by decide) _).mono ?_; rintro e w5 ⟨rfl, rfl⟩))
  go_wp2_with fail
  have hbw : Below w.heap.size w w5 := hb.trans (hb4'.mono hb.size)
  have hsz := hbw.size
  go_ret
  refine ⟨_, rfl, hbw.size, hbw.alloc hbw.size _, ⟨by rw [wws_len]; rfl, .inr ⟨_, 4, _, rfl, hbw.size, World.alloc_heap_new _ _, Nat.le_refl _, by unfold maxLen; omega, rfl, by rw [wws_node _ _ _ _ _ _ n0]; rfl⟩⟩, fun bt own hbt ho => ⟨by simp [nodeWs], fun i hi => ⟨_, 0, rfl, by simp, by omega, ho _ hbw.size, ?_, ?_⟩, ?_⟩⟩
  · have : i = 0 ∨ i = 1 ∨ i = 2 ∨ i = 3 := by simp [nodeWs] at hi; omega
    rcases this with rfl | rfl | rfl | rfl <;> simp [nodeWs] <;> omega
  · have : i = 0 ∨ i = 1 ∨ i = 2 ∨ i = 3 := by simp [nodeWs] at hi; omega
    rcases this with rfl | rfl | rfl | rfl <;> simp [nodeWs]
  · intro y hy
    simp [nodeWs] at hy
    rcases hy with rfl | rfl | rfl | rfl
    · exact ⟨by show (0 : Int) ≤ len * 65536 + way; omega, by show len * 65536 + way < (4294967296 : Int); omega⟩
    · exact ⟨a0, a1⟩
    · exact ⟨s00, s01⟩
    · exact ⟨s10, s11⟩
end Go.Proofs.Ytjhdjbhpofhiaab.Fb
