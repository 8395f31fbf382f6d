/- The forwarding memory's words: word, place, parts and read: what each answers. -/
import Derived.Test.YtjhdjbhpofhiaabRows
import Derived.Test.YtjhdjbhpofhiaabPMath
import Derived.Test.YtjhdjbhpofhiaabAsk3
import Derived.WalkKit
import Derived.ProofKit
import Derived.Below
import Derived.RangeFuncOwn
namespace Go.Proofs.Ytjhdjbhpofhiaab.Fb
open Go.ChangeShapes Go.WideShapes Go.ChangeAt Go.RowKit Go.Proofs.Ytjhdjbhpofhiaab.PM Go.Proofs.Ytjhdjbhpofhiaab.Ask
set_option linter.unusedVariables false

def In32 (x : Int) : Prop := 0 ≤ x ∧ x < 4294967296
/-- words lie at a slice -/
structure Wds (w : World) (a : Option Addr) (ms : List Int) : Prop where
  small : ms.length ≤ 9223372036854775807
  cells : ∀ i (h : i < ms.length), ∃ b o, a = some ⟨b, o, none⟩ ∧ b < w.heap.size ∧ w.cell? ⟨b, o + i, none⟩ = some (.int .u32 ms[i])
  u32 : ∀ d ∈ ms, In32 d
theorem grown_bel {w w' : World} (h : Below w.heap.size w w') (row : Option Nat) : w.grownBy w' row := ⟨h.os, h.tape, h.output, h.size, fun k hk _ => h.block k hk⟩
theorem cell_bel {w w' : World} {a : Addr} {v : Value} (h : w.cell? a = some v) (hb : Below w.heap.size w w') : w'.cell? a = some v := cell_kept h (grown_bel hb none) (fun r e => by cases e)
theorem Wds.bel {w w' : World} {a : Option Addr} {ms : List Int} (h : Wds w a ms) (hb : Below w.heap.size w w') : Wds w' a ms :=
  ⟨h.small, fun i hi => by
    obtain ⟨b, o, e, hlt, h0⟩ := h.cells i hi
    exact ⟨b, o, e, Nat.lt_of_lt_of_le hlt hb.size, cell_bel h0 hb⟩, h.u32⟩
/-- the word at a place; 0 beyond the end -/
def wd (ms : List Int) (i : Int) : Int := ms.getD i.toNat 0
theorem wd_in {ms : List Int} (h : ∀ d ∈ ms, In32 d) (i : Int) : In32 (wd ms i) := by
  unfold wd
  by_cases hi : i.toNat < ms.length
  · rw [List.getD_eq_getElem?_getD, List.getElem?_eq_getElem hi]; exact h _ (List.getElem_mem hi)
  · rw [List.getD_eq_getElem?_getD, List.getElem?_eq_none (by omega)]; exact ⟨by decide, by decide⟩

set_option maxHeartbeats 400000 in
theorem word_in (a : Option Addr) (cap : Nat) (ms : List Int) (k : Nat) (hk : k < ms.length) (L : Nat) (hL : ms.length = L) (v : Int) (hv : ms[k] = v) (w : World) (h : Wds w a ms) :
    Calls Try.prog 62 #[.slice a L cap, .int .i64 (k : Int)] w fun e w' => e = .returned (.int .u32 v) ∧ w' = w := by
  obtain ⟨b, o, rfl, hb, hc⟩ := h.cells k hk
  rw [hv] at hc
  have hs := h.small
  rw [hL] at hk hs
  clear h hL hv
  have hkk : (k : Int) < L := by omega
  have kk0 : (0 : Int) ≤ k := by omega
  go_enter Try.func62, Try.ntmps62
  go_wp2_with fail
  go_ret
  exact ⟨rfl, rfl⟩
set_option maxHeartbeats 400000 in
theorem word_out (a : Option Addr) (cap L : Nat) (i : Int) (hi : ¬ i < L) (w : World) :
    Calls Try.prog 62 #[.slice a L cap, .int .i64 i] w fun e w' => e = .returned (.int .u32 0) ∧ w' = w := by
  go_enter Try.func62, Try.ntmps62
  go_wp2_with fail
  go_ret
  exact ⟨rfl, rfl⟩
theorem word_any (a : Option Addr) (cap : Nat) (ms : List Int) (L : Nat) (hL : ms.length = L) (i : Int) (h0 : 0 ≤ i) (v : Int) (hv : wd ms i = v) (w : World) (h : Wds w a ms) :
    Calls Try.prog 62 #[.slice a L cap, .int .i64 i] w fun e w' => e = .returned (.int .u32 v) ∧ w' = w := by
  by_cases hi : i < L
  · have hk : i.toNat < ms.length := by omega
    have e : ((i.toNat : Nat) : Int) = i := by omega
    have := word_in a cap ms i.toNat hk L hL v (by rw [← hv]; unfold wd; rw [List.getD_eq_getElem?_getD, List.getElem?_eq_getElem hk]; rfl) w h
    rwa [e] at this
  · have e : v = 0 := by rw [← hv]; unfold wd; rw [List.getD_eq_getElem?_getD, List.getElem?_eq_none (by omega)]; rfl
    rw [e]; exact word_out a cap L i hi w

set_option maxHeartbeats 400000 in
theorem place_any (n k : Int) (h0 : 0 ≤ n) (h1 : n < 4294967296) (k0 : 0 ≤ k) (k1 : k ≤ 3) (w : World) :
    Calls Try.prog 72 #[.int .u32 n, .int .i64 k] w fun e w' => e = .returned (.int .i64 (n * 4 + k)) ∧ w' = w := by
  go_enter Try.func72, Try.ntmps72
  go_wp2_with fail
  go_ret
  exact ⟨rfl, rfl⟩

theorem low16 (h : Int) (h0 : 0 ≤ h) (h1 : h < 4294967296) : bits .and .u32 h 65535 = h % 65536 := by
  have e : (65535 : Int) = ((65535 : Nat) : Int) := rfl
  rw [u32_and h 65535 h0 h1 (by decide) (by decide)]
  have : h.toNat &&& 65535 = h.toNat % 65536 := by
    have := Nat.and_two_pow_sub_one_eq_mod h.toNat 16
    simpa using this
  rw [show (65535 : Int).toNat = 65535 from rfl, this]
  omega
set_option maxHeartbeats 400000 in
theorem parts_any (h : Int) (h0 : 0 ≤ h) (h1 : h < 4294967296) (w : World) :
    Calls Try.prog 71 #[.int .u32 h] w fun e w' => e = .returned (.tuple #[.int .i64 (h / 65536), .int .i64 (h % 65536)]) ∧ w' = w := by
  have hl := low16 h h0 h1
  go_enter Try.func71, Try.ntmps71
  go_wp2_with fail
  go_ret2
  exact ⟨rfl, rfl⟩
end Go.Proofs.Ytjhdjbhpofhiaab.Fb
