/- PrintAddr: what it answers, at every address. -/
import Derived.Test.YthibebjighjlaaaDoorRows
import Derived.Test.YthibebjighjlaaaDoorShelf
import Derived.Lib.AppendIntMem
import Derived.Lib.ItoaLen
import Derived.Lib.Slices
import Derived.Lib.Hide
import Derived.Laws.IdiomStrings
import Derived.Laws.BitsAllLaws
import Derived.OwnWalk
import Derived.WalkKit
import Derived.ProofKit
import Derived.OpenShut
import Derived.WalkLawsBesides
import Derived.BigCall
namespace Go.Proofs.YthibebjighjlaaaDoor.Pr
open Go.ChangeShapes Go.WideShapes Go.ChangeAt Go.RowKit Go.Shelf
set_option linter.unusedVariables false

theorem infoByte : (Tryd.prog.info? 5).map (fun i => (i.zero, i.size, i.bytes)) = some (some (.int .u8 0), 1, 1) := by kernel_rfl

abbrev Pow (B : Nat) (w : World) : Prop := Lib.TabBelow Tryd.prog B w "internal/strconv.uint64pow10" .u64 Lib.pow10Tab

set_option maxHeartbeats 1000000 in
theorem app_any (B n u : Nat) (hu : u ≤ 255) (sv : Value) (xs : List Value) (w : World) (hown : w.ownsRow B 5 1 sv n xs) (hBw : B ≤ w.heap.size) (hlim : n + 20 ≤ 140737488355328) (hT : Pow B w) :
    Calls Tryd.prog 17 #[sv, .int .u64 u, .int .i64 10] w fun e w' => ∃ v', e = .returned v' ∧ w'.ownsRow B 5 1 v' (n + (Lib.decDigits u).length) (xs ++ Lib.byteCells (Lib.decDigits u)) ∧ Below B w w' := by
  by_cases h : u < 100
  · go_enter Tryd.func17, Tryd.ntmps17
    go_wp2_with fail
    refine (Tryd.internal_strconv_AppendUint_10_small B n u h sv xs w hown hBw hlim).mono ?_
    rintro e w1 ⟨v1, rfl, hown1, hb1, -⟩
    go_wp2_with fail
    go_ret
    exact ⟨_, rfl, hown1, hb1⟩
  · go_enter Tryd.func17, Tryd.ntmps17
    go_wp2_with fail
    refine (Tryd.internal_strconv_AppendUint_10_big B n u (by omega) (by omega) sv xs w hown hBw hlim hT.here).mono ?_
    rintro e w1 ⟨v1, rfl, hown1, hb1, -⟩
    go_wp2_with fail
    go_ret
    exact ⟨_, rfl, hown1, hb1⟩

theorem app_int (B n u : Nat) (x : Int) (hx : (u : Int) = x) (hu : u ≤ 255) (sv : Value) (xs : List Value) (w : World) (hown : w.ownsRow B 5 1 sv n xs) (hBw : B ≤ w.heap.size) (hlim : n + 20 ≤ 140737488355328) (hT : Pow B w) :
    Calls Tryd.prog 17 #[sv, .int .u64 x, .int .i64 10] w fun e w' => ∃ v', e = .returned v' ∧ w'.ownsRow B 5 1 v' (n + (Lib.decDigits u).length) (xs ++ Lib.byteCells (Lib.decDigits u)) ∧ Below B w w' := by
  rw [← hx]; exact app_any B n u hu sv xs w hown hBw hlim hT

theorem dec_len (u : Nat) (hu : u ≤ 255) : 1 ≤ (Lib.decDigits u).length ∧ (Lib.decDigits u).length ≤ 3 := by
  have h1 : ∀ i, i < 10 → (Lib.decDigits i).length = 1 := fun i h => by rw [Lib.decDigits_one h]; rfl
  by_cases h : u < 10
  · rw [h1 u h]; omega
  · by_cases h2 : u < 100
    · rw [Lib.decDigits_two h h2]; simp
    · rw [Lib.decDigits, dif_neg h, Lib.decDigits_two (by omega) (by omega)]; simp

/-- the text of an address -/
def adr (a : Nat) : List UInt8 := Lib.decDigits (a / 16777216) ++ [46] ++ Lib.decDigits (a / 65536 % 256) ++ [46] ++ Lib.decDigits (a / 256 % 256) ++ [46] ++ Lib.decDigits (a % 256)
/-- its first k numbers, with their dots -/
def pre (a : Nat) : Nat → List UInt8
  | 0 => []
  | 1 => Lib.decDigits (a / 16777216) ++ [46]
  | 2 => Lib.decDigits (a / 16777216) ++ [46] ++ Lib.decDigits (a / 65536 % 256) ++ [46]
  | 3 => Lib.decDigits (a / 16777216) ++ [46] ++ Lib.decDigits (a / 65536 % 256) ++ [46] ++ Lib.decDigits (a / 256 % 256) ++ [46]
  | _ => adr a

theorem wrap64u (x : Int) (h0 : 0 ≤ x) (h1 : x < 4294967296) : IntKind.u64.wrap x = x := by
  simp only [IntKind.wrap, IntKind.bits, IntKind.signed]; simp; omega
theorem pre_le (a : Nat) (ha : a < 4294967296) (k : Nat) (hk : k ≤ 4) : (pre a k).length ≤ 20 := by
  have d0 := dec_len (a / 16777216) (by omega)
  have d1 := dec_len (a / 65536 % 256) (by omega)
  have d2 := dec_len (a / 256 % 256) (by omega)
  have d3 := dec_len (a % 256) (by omega)
  have hn : k = 0 ∨ k = 1 ∨ k = 2 ∨ k = 3 ∨ k = 4 := by omega
  rcases hn with rfl | rfl | rfl | rfl | rfl <;> simp [pre, adr] <;> omega
theorem and255 (x : Int) (h0 : 0 ≤ x) (h1 : x < 4294967296) : bits .and .u32 x 255 = x % 256 := by
  rw [u32_and x 255 h0 h1 (by omega) (by omega)]
  have : (255 : Int).toNat = 2 ^ 8 - 1 := by decide
  rw [this, Nat.and_two_pow_sub_one_eq_mod]; omega

set_option maxHeartbeats 4000000 in
set_option maxRecDepth 100000 in
theorem printAddr_any (a : Nat) (ha : a < 4294967296) (w : World) (htab : Lib.TabIs Tryd.prog w "internal/strconv.uint64pow10" .u64 Lib.pow10Tab) :
    Calls Tryd.prog 6 #[.int .u32 a] w fun e w' => e = .returned (.string ⟨(adr a).toArray⟩) ∧ Below w.heap.size w w' := by
  obtain ⟨i0, hi, hz0, hz1, hz2⟩ := info_parts infoByte
  have hT : Hid (Pow w.heap.size w) := Lib.tabBelow_of_tabIs htab
  clear htab
  go_enter Tryd.func6, Tryd.ntmps6
  go_wp2_with fail
  go_loopw [3, 4] (fun t i wr => ∃ (k : Nat), k ≤ 4 ∧ i = .int .i64 (24 - 8 * (k : Int)) ∧ Below w.heap.size w wr ∧ wr.ownsRow w.heap.size 5 1 t (pre a k).length (Lib.byteCells (pre a k)) ∧ (pre a k).length ≤ 20) (fun _ i _ => (intOf i + 8).toNat)
  case atStart => exact ⟨0, by omega, rfl, Below.refl _ _, World.ownsRow_nil _ _ _ _, by simp [pre]⟩
  case round =>
    obtain ⟨k, hk, rfl, hb, hown, hle⟩ := hrel
    have hn : k = 0 ∨ k = 1 ∨ k = 2 ∨ k = 3 ∨ k = 4 := by omega
    rcases hn with rfl | rfl | rfl | rfl | rfl
    · have hu : a / 16777216 ≤ 255 := by omega
      have hd := dec_len (a / 16777216) hu
      have hw : IntKind.u64.wrap (bits BinOp.and IntKind.u32 (a / 16777216 : Int) 255) = (a / 16777216 : Int) := by
        rw [and255 _ (by omega) (by omega), wrap64u _ (by omega) (by omega)]; omega
      have hl : (pre a 1).length = (pre a 0).length + (Lib.decDigits (a / 16777216)).length + 1 := by simp [pre]
      have hbnd : (pre a 1).length ≤ 20 := by exact pre_le a ha 1 (by omega)
      have HP : Hid (Lib.byteCells (pre a 1) = Lib.byteCells (pre a 0) ++ (Lib.byteCells (Lib.decDigits (a / 16777216)) ++ [Value.int .u8 46])) := by show _ = _; simp [pre, Lib.byteCells]
      have HL : Hid (_ = _) := hl
      clear hl
      go_wp2_with fail
      refine (app_int w.heap.size _ (a / 16777216) _ (by omega) hu u3 _ wr hown hb.size (by omega) (hT.out.on hb)).mono ?_
      rintro e w1 ⟨v1, rfl, hown1, hb1⟩
      have hs1 := hb1.size
      have hs0 := hb.size
      go_wp2_with (at_builtin; refine wpList_append_own _ rfl _ _ 39 rfl w.heap.size 5 i0 (.int .u8 0) 1 1 Tryd.underlying39 hi hz0 hz1 hz2 rfl (by decide) _ _ _ rfl (hown1.alloc _) ⟨w1.heap.size, 0, none⟩ 1 1 [Value.int .u8 46] rfl rfl (by intro j u' hj; match j, hj with | 0, hj => simp at hj; subst hj; simp [Addr.add]) (by intro u' hu'; simp at hu'; subst hu'; rfl) (by unfold maxLen; omega) (by omega) (by simp; omega) ?_)
      intro v2 w2 hown2 hgrow _
      have hb2 : Below w.heap.size w w2 := ((hb.trans hb1).alloc (by omega) _).grown hgrow (by simp; omega) (fun k hk => (hown1.lt k hk).1)
      rw [← HP.out] at hown2
      go_wp2_with fail
      exact ⟨⟨1, by omega, by go_num, hb2, by rw [HL.out]; exact hown2, hbnd⟩, by simp [intOf]⟩
    · have hu : a / 65536 % 256 ≤ 255 := by omega
      have hd := dec_len (a / 65536 % 256) hu
      have hw : IntKind.u64.wrap (bits BinOp.and IntKind.u32 (a / 65536 : Int) 255) = (a / 65536 % 256 : Int) := by
        rw [and255 _ (by omega) (by omega), wrap64u _ (by omega) (by omega)]
      have hl : (pre a 2).length = (pre a 1).length + (Lib.decDigits (a / 65536 % 256)).length + 1 := by simp [pre]; omega
      have hbnd : (pre a 2).length ≤ 20 := by exact pre_le a ha 2 (by omega)
      have HP : Hid (Lib.byteCells (pre a 2) = Lib.byteCells (pre a 1) ++ (Lib.byteCells (Lib.decDigits (a / 65536 % 256)) ++ [Value.int .u8 46])) := by show _ = _; simp [pre, Lib.byteCells]
      have HL : Hid (_ = _) := hl
      clear hl
      go_wp2_with fail
      refine (app_int w.heap.size _ (a / 65536 % 256) _ (by omega) hu u3 _ wr hown hb.size (by omega) (hT.out.on hb)).mono ?_
      rintro e w1 ⟨v1, rfl, hown1, hb1⟩
      have hs1 := hb1.size
      have hs0 := hb.size
      go_wp2_with (at_builtin; refine wpList_append_own _ rfl _ _ 39 rfl w.heap.size 5 i0 (.int .u8 0) 1 1 Tryd.underlying39 hi hz0 hz1 hz2 rfl (by decide) _ _ _ rfl (hown1.alloc _) ⟨w1.heap.size, 0, none⟩ 1 1 [Value.int .u8 46] rfl rfl (by intro j u' hj; match j, hj with | 0, hj => simp at hj; subst hj; simp [Addr.add]) (by intro u' hu'; simp at hu'; subst hu'; rfl) (by unfold maxLen; omega) (by omega) (by simp; omega) ?_)
      intro v2 w2 hown2 hgrow _
      have hb2 : Below w.heap.size w w2 := ((hb.trans hb1).alloc (by omega) _).grown hgrow (by simp; omega) (fun k hk => (hown1.lt k hk).1)
      rw [← HP.out] at hown2
      go_wp2_with fail
      exact ⟨⟨2, by omega, by go_num, hb2, by rw [HL.out]; exact hown2, hbnd⟩, by simp [intOf]⟩
    · have hu : a / 256 % 256 ≤ 255 := by omega
      have hd := dec_len (a / 256 % 256) hu
      have hw : IntKind.u64.wrap (bits BinOp.and IntKind.u32 (a / 256 : Int) 255) = (a / 256 % 256 : Int) := by
        rw [and255 _ (by omega) (by omega), wrap64u _ (by omega) (by omega)]
      have hl : (pre a 3).length = (pre a 2).length + (Lib.decDigits (a / 256 % 256)).length + 1 := by simp [pre]; omega
      have hbnd : (pre a 3).length ≤ 20 := by exact pre_le a ha 3 (by omega)
      have HP : Hid (Lib.byteCells (pre a 3) = Lib.byteCells (pre a 2) ++ (Lib.byteCells (Lib.decDigits (a / 256 % 256)) ++ [Value.int .u8 46])) := by show _ = _; simp [pre, Lib.byteCells]
      have HL : Hid (_ = _) := hl
      clear hl
      go_wp2_with fail
      refine (app_int w.heap.size _ (a / 256 % 256) _ (by omega) hu u3 _ wr hown hb.size (by omega) (hT.out.on hb)).mono ?_
      rintro e w1 ⟨v1, rfl, hown1, hb1⟩
      have hs1 := hb1.size
      have hs0 := hb.size
      go_wp2_with (at_builtin; refine wpList_append_own _ rfl _ _ 39 rfl w.heap.size 5 i0 (.int .u8 0) 1 1 Tryd.underlying39 hi hz0 hz1 hz2 rfl (by decide) _ _ _ rfl (hown1.alloc _) ⟨w1.heap.size, 0, none⟩ 1 1 [Value.int .u8 46] rfl rfl (by intro j u' hj; match j, hj with | 0, hj => simp at hj; subst hj; simp [Addr.add]) (by intro u' hu'; simp at hu'; subst hu'; rfl) (by unfold maxLen; omega) (by omega) (by simp; omega) ?_)
      intro v2 w2 hown2 hgrow _
      have hb2 : Below w.heap.size w w2 := ((hb.trans hb1).alloc (by omega) _).grown hgrow (by simp; omega) (fun k hk => (hown1.lt k hk).1)
      rw [← HP.out] at hown2
      go_wp2_with fail
      exact ⟨⟨3, by omega, by go_num, hb2, by rw [HL.out]; exact hown2, hbnd⟩, by simp [intOf]⟩
    · have hu : a % 256 ≤ 255 := by omega
      have hd := dec_len (a % 256) hu
      have hw : IntKind.u64.wrap (bits BinOp.and IntKind.u32 (a : Int) 255) = (a % 256 : Int) := by
        rw [and255 _ (by omega) (by omega), wrap64u _ (by omega) (by omega)]
      have hl : (pre a 4).length = (pre a 3).length + (Lib.decDigits (a % 256)).length := by simp [pre, adr]; omega
      have hbnd : (pre a 4).length ≤ 20 := by exact pre_le a ha 4 (by omega)
      have HP : Hid (Lib.byteCells (pre a 4) = Lib.byteCells (pre a 3) ++ Lib.byteCells (Lib.decDigits (a % 256))) := by show _ = _; simp [pre, adr, Lib.byteCells]
      have HL : Hid (_ = _) := hl
      clear hl
      go_wp2_with fail
      refine (app_int w.heap.size _ (a % 256) _ (by omega) hu u3 _ wr hown hb.size (by omega) (hT.out.on hb)).mono ?_
      rintro e w1 ⟨v1, rfl, hown1, hb1⟩
      have hs1 := hb1.size
      have hs0 := hb.size
      rw [← HP.out, ← HL.out] at hown1
      go_wp2_with fail
      exact ⟨⟨4, by omega, by go_num, hb.trans hb1, hown1, hbnd⟩, by simp [intOf]⟩
    · have e4 : pre a 4 = adr a := rfl
      rw [e4] at hown hle
      have hpos : 0 < (adr a).length := by have := dec_len (a % 256) (by omega); simp only [adr, List.length_append]; omega
      obtain ⟨l, hl⟩ : ∃ l, l = adr a := ⟨_, rfl⟩
      rw [← hl] at hown hpos
      have HL : Hid (_ = _) := hl
      clear hl e4 hle
      rcases hown.2 with ⟨-, h0⟩ | ⟨g, cap, cur, rfl, -, -, -, -, -, -⟩
      · omega
      · have hcv := run_convert_bytes_back (P := Tryd.prog) wr 39 9 5 ⟨g, 0, none⟩ cap l Tryd.underlying39 Tryd.underlying5 Tryd.underlying9 (fun j hj => hown.cells (g := g) rfl j _ (by simp [Lib.byteCells, hj]))
        go_wp2_with fail
        go_ret
        have hl := HL.out
        subst hl
        exact ⟨rfl, hb⟩
end Go.Proofs.YthibebjighjlaaaDoor.Pr
