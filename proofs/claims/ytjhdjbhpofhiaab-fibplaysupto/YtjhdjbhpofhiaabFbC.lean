/- A node of the forwarding memory: node, head: what each answers. -/
import Derived.Test.YtjhdjbhpofhiaabFbA
namespace Go.Proofs.Ytjhdjbhpofhiaab.Fb
open Go.ChangeShapes Go.WideShapes Go.ChangeAt Go.RowKit Go.Proofs.Ytjhdjbhpofhiaab.PM Go.Proofs.Ytjhdjbhpofhiaab.Ask
set_option linter.unusedVariables false

/-- a node's value: its prefix, its way, the two below -/
def nodeV (ad len way s0 s1 : Int) : Value := .agg #[.int .u32 ad, .int .i64 len, .int .i64 way, .int .u32 s0, .int .u32 s1]

set_option maxHeartbeats 1000000 in
theorem node_any (a : Option Addr) (cap : Nat) (ms : List Int) (L : Nat) (hL : ms.length = L) (n : Int) (n0 : 0 ≤ n) (n1 : n < 4294967296) (hd ad s0 s1 : Int) (h0 : wd ms (n * 4) = hd) (h1 : wd ms (n * 4 + 1) = ad) (h2 : wd ms (n * 4 + 2) = s0) (h3 : wd ms (n * 4 + 3) = s1) (w : World) (h : Wds w a ms) :
    Calls Try.prog 63 #[.slice a L cap, .int .u32 n] w fun e w' => e = .returned (nodeV ad (hd / 65536) (hd % 65536) s0 s1) ∧ Below w.heap.size w w' := by
  have H : Hid (Wds w a ms) := h
  have HL : Hid (ms.length = L) := hL
  have H0 : Hid (wd ms (n * 4) = hd) := h0
  have H1 : Hid (wd ms (n * 4 + 1) = ad) := h1
  have H2 : Hid (wd ms (n * 4 + 2) = s0) := h2
  have H3 : Hid (wd ms (n * 4 + 3) = s1) := h3
  have hdI : In32 hd := h0 ▸ wd_in h.u32 _
  have hd0 := hdI.1
  have hd1 := hdI.2
  clear h hL h0 h1 h2 h3 hdI
  unfold nodeV
  go_enter Try.func63, Try.ntmps63
  go_wp2_with fail
  obtain ⟨wA, hwA⟩ : ∃ wA, w.alloc (Obj.cells #[.int .u32 0, .int .i64 0, .int .i64 0, .int .u32 0, .int .u32 0] 120) = wA := ⟨_, rfl⟩
  have hbA : Below w.heap.size w wA := by rw [← hwA]; exact (Below.refl _ w).alloc (Nat.le_refl _) _
  have g := World.alloc_heap_new w (Obj.cells #[.int .u32 0, .int .i64 0, .int .i64 0, .int .u32 0, .int .u32 0] 120)
  rw [hwA] at g ⊢
  have HW : Hid (Wds wA a ms) := H.out.bel hbA
  have c0 : wA.cell? ⟨w.heap.size, 0, none⟩ = some (.int .u32 0) := by simp [World.cell?, g]
  have c1 : wA.cell? ⟨w.heap.size, 1, none⟩ = some (.int .i64 0) := by simp [World.cell?, g]
  have c2 : wA.cell? ⟨w.heap.size, 2, none⟩ = some (.int .i64 0) := by simp [World.cell?, g]
  have c3 : wA.cell? ⟨w.heap.size, 3, none⟩ = some (.int .u32 0) := by simp [World.cell?, g]
  have c4 : wA.cell? ⟨w.heap.size, 4, none⟩ = some (.int .u32 0) := by simp [World.cell?, g]
  have z0 : wA.frozen? ⟨w.heap.size, 0, none⟩ = false := by simp [World.frozen?, g]
  have z1 : wA.frozen? ⟨w.heap.size, 1, none⟩ = false := by simp [World.frozen?, g]
  have z2 : wA.frozen? ⟨w.heap.size, 2, none⟩ = false := by simp [World.frozen?, g]
  have z3 : wA.frozen? ⟨w.heap.size, 3, none⟩ = false := by simp [World.frozen?, g]
  have z4 : wA.frozen? ⟨w.heap.size, 4, none⟩ = false := by simp [World.frozen?, g]
  clear hwA g
  refine (place_any n 0 n0 n1 (by decide) (by decide) wA).mono ?_
  rintro e w1 ⟨rfl, rfl⟩
  go_wp2_with fail
  refine (word_any a cap ms L HL.out (n * 4) (by omega) hd H0.out _ HW.out).mono ?_
  rintro e w1 ⟨rfl, rfl⟩
  go_wp2_with fail
  refine (parts_any hd hd0 hd1 _).mono ?_
  rintro e w1 ⟨rfl, rfl⟩
  go_wp2_with fail
  refine (place_any n 1 n0 n1 (by decide) (by decide) _).mono ?_
  rintro e w1 ⟨rfl, rfl⟩
  go_wp2_with fail
  refine (word_any a cap ms L HL.out (n * 4 + 1) (by omega) ad H1.out _ HW.out).mono ?_
  rintro e w1 ⟨rfl, rfl⟩
  go_wp2_with fail
  refine (place_any n 2 n0 n1 (by decide) (by decide) _).mono ?_
  rintro e w1 ⟨rfl, rfl⟩
  go_wp2_with fail
  refine (word_any a cap ms L HL.out (n * 4 + 2) (by omega) s0 H2.out _ HW.out).mono ?_
  rintro e w1 ⟨rfl, rfl⟩
  go_wp2_with fail
  refine (place_any n 3 n0 n1 (by decide) (by decide) _).mono ?_
  rintro e w1 ⟨rfl, rfl⟩
  go_wp2_with fail
  refine (word_any a cap ms L HL.out (n * 4 + 3) (by omega) s1 H3.out _ HW.out).mono ?_
  rintro e w1 ⟨rfl, rfl⟩
  go_wp2_with fail
  refine bodyPost_ret (v := .agg #[.int .u32 ad, .int .i64 (hd / 65536), .int .i64 (hd % 65536), .int .u32 s0, .int .u32 s1]) (by simp [results, Try.results63, go_sem, c0, c1, c2, c3, c4]) rfl ⟨rfl, ?_⟩
  exact ((((hbA.setCell (p := ⟨w.heap.size, 0, none⟩) (Nat.le_refl _) _).setCell (p := ⟨w.heap.size, 1, none⟩) (Nat.le_refl _) _).setCell (p := ⟨w.heap.size, 2, none⟩) (Nat.le_refl _) _).setCell (p := ⟨w.heap.size, 3, none⟩) (Nat.le_refl _) _).setCell (p := ⟨w.heap.size, 4, none⟩) (Nat.le_refl _) _

theorem or16 (len way : Int) (l0 : 0 ≤ len) (l1 : len ≤ 65535) (w0 : 0 ≤ way) (w1 : way ≤ 65535) : bits .or .u32 (len * 65536) way = len * 65536 + way := by
  rw [u32_or (len * 65536) way (by omega) (by omega) w0 (by omega)]
  have h : (len * 65536).toNat ||| way.toNat = (len * 65536).toNat + way.toNat := by
    have e : (len * 65536).toNat = 2 ^ 16 * len.toNat := by omega
    rw [e]
    exact (Nat.two_pow_add_eq_or_of_lt (i := 16) (b := way.toNat) (by omega) len.toNat).symm
  rw [h]; omega
set_option maxHeartbeats 1000000 in
theorem head_any (ad len way s0 s1 : Int) (l0 : 0 ≤ len) (l1 : len ≤ 65535) (w0 : 0 ≤ way) (w1 : way ≤ 65535) (w : World) :
    Calls Try.prog 76 #[nodeV ad len way s0 s1] w fun e w' => e = .returned (.int .u32 (len * 65536 + way)) ∧ Below w.heap.size w w' := by
  have ho := or16 len way l0 l1 w0 w1
  unfold nodeV
  go_enter Try.func76, Try.ntmps76
  go_wp2_with fail
  go_ret
  exact ⟨rfl, (Below.refl _ _).alloc (Nat.le_refl _) _⟩
end Go.Proofs.Ytjhdjbhpofhiaab.Fb
