/- The document's pfxDecimal: what it answers, at every number of at most three digits. -/
import Derived.Test.YthibebjighjlaaaDoorPr1
import Derived.Deep.RegionWith
import Derived.Deep.DrawnRows
namespace Go.Proofs.YthibebjighjlaaaDoor.Pr
open Go.ChangeShapes Go.WideShapes Go.ChangeAt Go.RowKit Go.Shelf
set_option linter.unusedVariables false
attribute [local go_sem ↓] Go.wp_at_zero Go.wp_at_succ

/-- a digit's letter -/
def ch (n : Nat) : UInt8 := UInt8.ofNat (48 + n)
/-- the digits of a number, as a string -/
def sd (n : Nat) : ByteArray := ⟨(Lib.decDigits n).toArray⟩
theorem sd_size (n : Nat) : (sd n).size = (Lib.decDigits n).length := by simp [sd, ByteArray.size]
theorem dec_len3 (u : Nat) (hu : u ≤ 999) : 1 ≤ (Lib.decDigits u).length ∧ (Lib.decDigits u).length ≤ 3 := by
  have h1 : ∀ i, i < 10 → (Lib.decDigits i).length = 1 := fun i h => by rw [Lib.decDigits_one h]; rfl
  by_cases h : u < 10
  · rw [h1 u h]; omega
  · by_cases h2 : u < 100
    · rw [Lib.decDigits_two h h2]; simp
    · rw [Lib.decDigits, dif_neg h, Lib.decDigits_two (by omega) (by omega)]; simp
theorem sd_one (n : Nat) (h : n < 10) : (⟨#[ch n]⟩ : ByteArray) = sd n := by rw [sd, Lib.decDigits_one h]; rfl
theorem sd_more (n : Nat) (h : ¬ n < 10) : sd (n / 10) ++ (⟨#[ch (n % 10)]⟩ : ByteArray) = sd n := by
  unfold sd ch
  conv => rhs; rw [Lib.decDigits, dif_neg h]
  apply ByteArray.ext
  simp
theorem conv1 (n : Nat) (h : n < 10) (w : World) (b : Nat) (hc : w.cell? ⟨b, 0, none⟩ = some (.int .u8 (48 + (n : Int)))) :
    (convert 39 9 (.slice (some ⟨b, 0, none⟩) 1 1)).run Tryd.prog w = .ok (.string ⟨#[ch n]⟩) w := by
  unfold ch
  have := run_convert_bytes_back (P := Tryd.prog) w 39 9 5 ⟨b, 0, none⟩ 1 [UInt8.ofNat (48 + n)] Tryd.underlying39 Tryd.underlying5 Tryd.underlying9 (fun j hj => by
    have : j = 0 := by simp at hj; omega
    subst this
    simp only [List.getElem_cons_zero, Addr.add]
    have e : ((UInt8.ofNat (48 + n)).toNat : Int) = 48 + (n : Int) := by simp; omega
    rw [e]; exact hc)
  exact this

theorem conv_i (n : Nat) (h : n < 10) (x : Int) (hx : x = 48 + (n : Int)) (w : World) (b : Nat) (hc : w.cell? ⟨b, 0, none⟩ = some (.int .u8 x)) :
    (convert 39 9 (.slice (some ⟨b, 0, none⟩) 1 1)).run Tryd.prog w = .ok (.string ⟨#[ch n]⟩) w := by
  subst hx; exact conv1 n h w b hc
theorem wrap_i64 (x : Int) (h0 : 0 ≤ x) (h1 : x ≤ 1000) : IntKind.i64.wrap x = x := by
  simp only [IntKind.wrap, IntKind.bits, IntKind.signed]; simp; omega
theorem wrap_u8 (x : Int) (h0 : 0 ≤ x) (h1 : x < 256) : IntKind.u8.wrap x = x := by
  simp only [IntKind.wrap, IntKind.bits, IntKind.signed]; simp; omega

theorem fin_s {a b : ByteArray} (h : a = b) : Ending.returned (.string a) = .returned (.string b) := by rw [h]

set_option maxHeartbeats 4000000 in
theorem dec1 (n : Nat) (h : n < 10) (w : World) :
    Calls Tryd.prog 18 #[.int .i64 n] w fun e w' => e = .returned (.string (sd n)) ∧ Below w.heap.size w w' := by
  have hcv := conv1 n h
  have h' : (n : Int) < 10 := by omega
  go_enter Tryd.func18, Tryd.ntmps18
  go_wp2_with fail
  go_ret
  exact ⟨fin_s (sd_one n h), (Below.refl _ _).alloc (Nat.le_refl _) _⟩

set_option maxHeartbeats 400000 in
theorem dec_step (n : Nat) (h : ¬ n < 10) (hn : n ≤ 999) (ih : ∀ w : World, Calls Tryd.prog 18 #[.int .i64 ((n : Int) / 10)] w fun e w' => e = .returned (.string (sd (n / 10))) ∧ Below w.heap.size w w') (w : World) :
    Calls Tryd.prog 18 #[.int .i64 n] w fun e w' => e = .returned (.string (sd n)) ∧ Below w.heap.size w w' := by
  have IH : Hid (∀ w : World, _) := ih
  clear ih
  have hcv := conv_i (n % 10) (by omega) (48 + (n : Int) % 10) (by omega)
  have hw1 : IntKind.i64.wrap ((n : Int) / 10) = (n : Int) / 10 := wrap_i64 _ (by omega) (by omega)
  have hw2 : (n : Int).tmod 10 = (n : Int) % 10 := by rw [Int.tmod_eq_emod_of_nonneg (by omega)]
  have hw3 : IntKind.i64.wrap (48 + (n : Int) % 10) = 48 + (n : Int) % 10 := wrap_i64 _ (by omega) (by omega)
  have hw4 : IntKind.u8.wrap (48 + (n : Int) % 10) = 48 + (n : Int) % 10 := wrap_u8 _ (by omega) (by omega)
  have hsz : (sd (n / 10)).size ≤ 3 := by rw [sd_size]; have := dec_len3 (n / 10) (by omega); omega
  have h' : ¬ (n : Int) < 10 := by omega
  go_enter Tryd.func18, Tryd.ntmps18
  go_wp2_with fail
  go_region_with ((go_at_call 18; refine (IH.out _).mono ?_; rintro e w1 ⟨rfl, hb1⟩; first | (have hc : w1.cell? ⟨w.heap.size, 0, none⟩ = some (.int .u8 (48 + (n : Int) % 10)) := by (rw [hb1.cell (p := ⟨w.heap.size, 0, none⟩) (by simp)]; simp)) | skip))
  all_goals
    have hs1 := hb1.size
    simp at hs1
    go_wp2_with fail
    go_ret
    exact ⟨fin_s (sd_more n h), by repeat (first | exact Below.refl _ _ | refine Below.drew ?_ | refine Below.trans ?_ (Below.mono hb1 (by first | (simp; omega) | simp | omega)) | refine Below.alloc ?_ (by first | (simp; omega) | simp | omega) _)⟩

theorem dec_any (n : Nat) (hn : n ≤ 999) (w : World) :
    Calls Tryd.prog 18 #[.int .i64 n] w fun e w' => e = .returned (.string (sd n)) ∧ Below w.heap.size w w' := by
  by_cases h : n < 10
  · exact dec1 n h w
  · refine dec_step n h hn (fun w => ?_) w
    have := dec_any (n / 10) (by omega) w
    rwa [show ((n / 10 : Nat) : Int) = (n : Int) / 10 from by omega] at this
termination_by n
theorem dec_int (n : Nat) (hn : n ≤ 999) (x : Int) (hx : (n : Int) = x) (w : World) :
    Calls Tryd.prog 18 #[.int .i64 x] w fun e w' => e = .returned (.string (sd n)) ∧ Below w.heap.size w w' := by
  rw [← hx]; exact dec_any n hn w

def s46 : ByteArray := ⟨#[46]⟩
theorem adr_eq (a : Nat) : (⟨(adr a).toArray⟩ : ByteArray) = sd (a / 16777216) ++ ⟨#[46]⟩ ++ sd (a / 65536 % 256) ++ ⟨#[46]⟩ ++ sd (a / 256 % 256) ++ ⟨#[46]⟩ ++ sd (a % 256) := by
  apply ByteArray.ext; simp [adr, sd]

set_option maxHeartbeats 1000000 in
theorem rprintAddr_any (a : Nat) (ha : a < 4294967296) (w : World) :
    Calls Tryd.prog 7 #[.int .u32 a] w fun e w' => e = .returned (.string ⟨(adr a).toArray⟩) ∧ Below w.heap.size w w' := by
  have z0 : (sd (a / 16777216)).size ≤ 3 := by rw [sd_size]; have := dec_len3 (a / 16777216) (by omega); omega
  have z1 : (sd (a / 65536 % 256)).size ≤ 3 := by rw [sd_size]; have := dec_len3 (a / 65536 % 256) (by omega); omega
  have z2 : (sd (a / 256 % 256)).size ≤ 3 := by rw [sd_size]; have := dec_len3 (a / 256 % 256) (by omega); omega
  have z3 : (sd (a % 256)).size ≤ 3 := by rw [sd_size]; have := dec_len3 (a % 256) (by omega); omega
  go_enter Tryd.func7, Tryd.ntmps7
  go_wp2_with fail
  refine (dec_int (a / 16777216) (by omega) _ (by omega) _).mono ?_
  rintro e w1 ⟨rfl, hb1⟩
  go_wp2_with fail
  refine (dec_int (a / 65536 % 256) (by omega) _ (by omega) _).mono ?_
  rintro e w2 ⟨rfl, hb2⟩
  go_wp2_with fail
  refine (dec_int (a / 256 % 256) (by omega) _ (by omega) _).mono ?_
  rintro e w3 ⟨rfl, hb3⟩
  go_wp2_with fail
  refine (dec_int (a % 256) (by omega) _ (by omega) _).mono ?_
  rintro e w4 ⟨rfl, hb4⟩
  go_wp2_with fail
  go_ret
  have s1 := hb1.size; have s2 := hb2.size; have s3 := hb3.size
  exact ⟨fin_s (adr_eq a).symm, ((hb1.trans (hb2.mono s1)).trans (hb3.mono (by omega))).trans (hb4.mono (by omega))⟩
end Go.Proofs.YthibebjighjlaaaDoor.Pr
