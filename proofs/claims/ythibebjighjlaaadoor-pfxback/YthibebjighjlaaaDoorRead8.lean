/- Parse: what it answers, at every text. -/
import Derived.Test.YthibebjighjlaaaDoorRead7
namespace Go.Proofs.YthibebjighjlaaaDoor.Rd
open Go.ChangeShapes Go.WideShapes Go.ChangeAt Go.RowKit Go.Proofs.YthibebjighjlaaaDoor.TM Go.Proofs.YthibebjighjlaaaDoor.PM Go.Proofs.YthibebjighjlaaaDoor.Ask
set_option linter.unusedVariables false

/-- a number of one or two digits at the beginning of a text, and the rest -/
def num2 (r : List UInt8) : Option (Int × List UInt8) :=
  if okN r (min (nd r) 2) = true then some (val (r.take (min (nd r) 2)), r.drop (min (nd r) 2)) else none
/-- a stroke at the beginning of a text, and the rest -/
def slQ (r : List UInt8) : Option (List UInt8) := match r with | c :: t => if c = 47 then some t else none | [] => none
/-- what Parse answers: address, length, error -/
def prC (L : List UInt8) : Int × Int × Int := match rq4 L with
  | none => (0, 0, 1)
  | some (a, b, c, d, r) => match slQ r with
    | none => (0, 0, 1)
    | some t => match num2 t with
      | none => (0, 0, 1)
      | some (n, u) => if u = [] then (if fineB a b c d = true ∧ n ≤ 32 then (if vld (jt a b c d 4) n = true then (jt a b c d 4, n, 0) else (0, 0, 3)) else (0, 0, 2)) else (0, 0, 1)
def prV (x : Int × Int × Int) : Value := .tuple #[.agg #[.int .u32 x.1, .int .i64 x.2.1], .int .i64 x.2.2]

theorem num2_some {r : List UInt8} {v : Int} {t : List UInt8} (h : num2 r = some (v, t)) : (0 ≤ v ∧ v ≤ 99) ∧ t.length ≤ r.length ∧ rdV r 2 = .tuple #[.int .i64 v, .string (bs t), .bool true] := by
  unfold num2 at h
  split at h
  · rename_i hk
    simp at h
    obtain ⟨rfl, rfl⟩ := h
    refine ⟨val_take2 _ _ (by omega) (by omega), by simp, ?_⟩
    unfold rdV; rw [if_pos hk]
  · cases h
theorem num2_none {r : List UInt8} (h : num2 r = none) : rdV r 2 = .tuple #[.int .i64 0, .string ⟨#[]⟩, .bool false] := by
  unfold num2 at h
  split at h
  · cases h
  · rename_i hk; unfold rdV; rw [if_neg hk]
theorem read2_yes {r : List UInt8} {v : Int} {t : List UInt8} (h : num2 r = some (v, t)) (hl : r.length ≤ maxLen) (w : World) :
    Calls Tryd.prog 24 #[.string (bs r), .int .i64 2] w fun e w' => e = .returned (.tuple #[.int .i64 v, .string (bs t), .bool true]) ∧ ∃ q, w' = w.drewN q := by
  have := readNumber_any (bs r) 2 (by omega) (by omega) w (by rw [bs_size]; exact hl)
  rw [bs_list, (num2_some h).2.2] at this
  exact this
theorem read2_no {r : List UInt8} (h : num2 r = none) (hl : r.length ≤ maxLen) (w : World) :
    Calls Tryd.prog 24 #[.string (bs r), .int .i64 2] w fun e w' => e = .returned (.tuple #[.int .i64 0, .string ⟨#[]⟩, .bool false]) ∧ ∃ q, w' = w.drewN q := by
  have := readNumber_any (bs r) 2 (by omega) (by omega) w (by rw [bs_size]; exact hl)
  rw [bs_list, num2_none h] at this
  exact this
theorem sl_yes {r t : List UInt8} (h : slQ r = some t) (hl : r.length ≤ maxLen) (w : World) :
    Calls Tryd.prog 23 #[.string (bs r), .string ⟨#[47]⟩] w fun e w' => e = .returned (.tuple #[.string (bs t), .bool true]) ∧ w' = w := by
  refine cut_yes (bs r) 47 t ?_ w (by rw [bs_size]; exact hl)
  rw [bs_list]
  unfold slQ at h
  split at h
  · split at h
    · simp at h; rename_i h2; rw [h2, h]
    · cases h
  · cases h
theorem sl_no {r : List UInt8} (h : slQ r = none) (hl : r.length ≤ maxLen) (w : World) :
    Calls Tryd.prog 23 #[.string (bs r), .string ⟨#[47]⟩] w fun e w' => e = .returned (.tuple #[.string (bs r), .bool false]) ∧ w' = w := by
  refine cut_no (bs r) 47 ?_ w (by rw [bs_size]; exact hl)
  rw [bs_list]
  unfold slQ at h
  split at h
  · split at h
    · cases h
    · simpa using ‹_›
  · simp
theorem slQ_len {r t : List UInt8} (h : slQ r = some t) : t.length ≤ r.length := by
  unfold slQ at h
  split at h
  · split at h
    · simp at h; subst h; simp
    · cases h
  · cases h

/-- the result's box at block B: its cells are there and may be written -/
def Slot (B : Nat) (w : World) : Prop :=
  (∃ v, w.cell? ⟨B, 0, none⟩ = some v) ∧ (∃ v, w.cell? ⟨B, 1, none⟩ = some v) ∧ w.frozen? ⟨B, 0, none⟩ = false ∧ w.frozen? ⟨B, 1, none⟩ = false ∧ B < w.heap.size

theorem Slot.bel {B : Nat} {w1 w2 : World} (h : Slot B w1) (hb : Below w1.heap.size w1 w2) : Slot B w2 := by
  obtain ⟨⟨v0, h0⟩, ⟨v1, h1⟩, f0, f1, hB⟩ := h
  have hs := hb.size
  exact ⟨⟨v0, by rw [hb.cell (p := ⟨B, 0, none⟩) hB]; exact h0⟩, ⟨v1, by rw [hb.cell (p := ⟨B, 1, none⟩) hB]; exact h1⟩, by rw [hb.frozen (p := ⟨B, 0, none⟩) hB]; exact f0, by rw [hb.frozen (p := ⟨B, 1, none⟩) hB]; exact f1, by omega⟩
theorem Slot.alloc {B : Nat} {w1 : World} (h : Slot B w1) (o : Obj) : Slot B (w1.alloc o) := h.bel ((Below.refl _ _).alloc (Nat.le_refl _) _)
theorem Slot.drewN {B : Nat} {w1 : World} (h : Slot B w1) (q : Nat) : Slot B (w1.drewN q) := h.bel (below_drewN (Below.refl _ _) q)
theorem Slot.first (w : World) (v0 v1 : Value) (T : TypeId) : Slot w.heap.size (w.alloc (.cells #[v0, v1] T)) :=
  ⟨⟨v0, by simp⟩, ⟨v1, by simp⟩, by simp [go_sem], by simp [go_sem], by simp⟩

set_option maxHeartbeats 4000000 in
theorem parse_q (l : List UInt8) (w : World) (hs : l.length ≤ maxLen) (hq : rq4 l = none) :
    Calls Tryd.prog 11 #[.string (bs l)] w fun e w' => e = .returned (prV (prC l)) ∧ Below w.heap.size w w' := by
  have HQ : Hid (rq4 l = none) := hq
  have HG : Hid (prV (prC l) = .tuple #[.agg #[.int .u32 0, .int .i64 0], .int .i64 1]) := by show _ = _; simp [prC, hq, prV]
  clear hq
  go_enter Tryd.func11, Tryd.ntmps11
  go_wp2_with fail
  refine (quad_no HQ.out hs _).mono ?_
  rintro e w1 ⟨rfl, hb1⟩
  obtain ⟨⟨v0, z0⟩, ⟨v1, z1⟩, g0, g1, hz⟩ := (Slot.first w _ _ _).bel hb1
  go_wp2_with fail
  exact bodyPost_ret (v := .tuple #[.agg #[.int .u32 0, .int .i64 0], .int .i64 1]) (by simp [results, Tryd.results11, go_sem, z0, z1, hz]) rfl ⟨fin_eq HG.out, by repeat (first | exact Below.refl _ _ | refine Below.setCell ?_ (by simp) _ | refine below_drewN ?_ _ | refine Below.trans ?_ (Below.mono hb3 (by first | (simp; omega) | simp | omega)) | refine Below.trans ?_ (Below.mono hb2 (by first | (simp; omega) | simp | omega)) | refine Below.trans ?_ (Below.mono hb1 (by first | (simp; omega) | simp | omega)) | refine Below.alloc ?_ (by first | (simp; omega) | simp | omega) _)⟩

set_option maxHeartbeats 4000000 in
theorem parse_sl (l : List UInt8) (w : World) (hs : l.length ≤ maxLen) (a b c d : Int) (r : List UInt8) (hq : rq4 l = some (a, b, c, d, r)) (hsl : slQ r = none) :
    Calls Tryd.prog 11 #[.string (bs l)] w fun e w' => e = .returned (prV (prC l)) ∧ Below w.heap.size w w' := by
  obtain ⟨b0, b1, b2, b3, hrl⟩ := rq4_bd hq
  have HQ : Hid (rq4 l = some (a, b, c, d, r)) := hq
  have HS : Hid (slQ r = none) := hsl
  have HG : Hid (prV (prC l) = .tuple #[.agg #[.int .u32 0, .int .i64 0], .int .i64 1]) := by show _ = _; simp [prC, hq, hsl, prV]
  clear hq hsl
  go_enter Tryd.func11, Tryd.ntmps11
  go_wp2_with fail
  refine (quad_yes HQ.out hs _).mono ?_
  rintro e w1 ⟨rfl, hb1⟩
  obtain ⟨⟨v0, z0⟩, ⟨v1, z1⟩, g0, g1, hz⟩ := (Slot.first w _ _ _).bel hb1
  go_wp2_with fail
  refine (sl_no HS.out (by omega) _).mono ?_
  rintro e w2 ⟨rfl, rfl⟩
  go_wp2_with fail
  exact bodyPost_ret (v := .tuple #[.agg #[.int .u32 0, .int .i64 0], .int .i64 1]) (by simp [results, Tryd.results11, go_sem, z0, z1, hz]) rfl ⟨fin_eq HG.out, by repeat (first | exact Below.refl _ _ | refine Below.setCell ?_ (by simp) _ | refine below_drewN ?_ _ | refine Below.trans ?_ (Below.mono hb3 (by first | (simp; omega) | simp | omega)) | refine Below.trans ?_ (Below.mono hb2 (by first | (simp; omega) | simp | omega)) | refine Below.trans ?_ (Below.mono hb1 (by first | (simp; omega) | simp | omega)) | refine Below.alloc ?_ (by first | (simp; omega) | simp | omega) _)⟩

set_option maxHeartbeats 4000000 in
theorem parse_n (l : List UInt8) (w : World) (hs : l.length ≤ maxLen) (a b c d : Int) (r : List UInt8) (hq : rq4 l = some (a, b, c, d, r)) (t : List UInt8) (hsl : slQ r = some t) (hn : num2 t = none) :
    Calls Tryd.prog 11 #[.string (bs l)] w fun e w' => e = .returned (prV (prC l)) ∧ Below w.heap.size w w' := by
  obtain ⟨b0, b1, b2, b3, hrl⟩ := rq4_bd hq
  have HQ : Hid (rq4 l = some (a, b, c, d, r)) := hq
  have h3 := slQ_len hsl
  have HS : Hid (slQ r = some t) := hsl
  have HN : Hid (num2 t = none) := hn
  have HG : Hid (prV (prC l) = .tuple #[.agg #[.int .u32 0, .int .i64 0], .int .i64 1]) := by show _ = _; simp [prC, hq, hsl, hn, prV]
  clear hq hsl hn
  go_enter Tryd.func11, Tryd.ntmps11
  go_wp2_with fail
  refine (quad_yes HQ.out hs _).mono ?_
  rintro e w1 ⟨rfl, hb1⟩
  obtain ⟨⟨v0, z0⟩, ⟨v1, z1⟩, g0, g1, hz⟩ := (Slot.first w _ _ _).bel hb1
  go_wp2_with fail
  refine (sl_yes HS.out (by omega) _).mono ?_
  rintro e w2 ⟨rfl, rfl⟩
  go_wp2_with fail
  refine (read2_no HN.out (by omega) _).mono ?_
  rintro e w2 ⟨rfl, q1, rfl⟩
  go_wp2_with fail
  exact bodyPost_ret (v := .tuple #[.agg #[.int .u32 0, .int .i64 0], .int .i64 1]) (by simp [results, Tryd.results11, go_sem, z0, z1, hz]) rfl ⟨fin_eq HG.out, by repeat (first | exact Below.refl _ _ | refine Below.setCell ?_ (by simp) _ | refine below_drewN ?_ _ | refine Below.trans ?_ (Below.mono hb3 (by first | (simp; omega) | simp | omega)) | refine Below.trans ?_ (Below.mono hb2 (by first | (simp; omega) | simp | omega)) | refine Below.trans ?_ (Below.mono hb1 (by first | (simp; omega) | simp | omega)) | refine Below.alloc ?_ (by first | (simp; omega) | simp | omega) _)⟩

set_option maxHeartbeats 4000000 in
theorem parse_u (l : List UInt8) (w : World) (hs : l.length ≤ maxLen) (a b c d : Int) (r : List UInt8) (hq : rq4 l = some (a, b, c, d, r)) (t : List UInt8) (hsl : slQ r = some t) (n : Int) (u : List UInt8) (hn : num2 t = some (n, u)) (hu : ¬ u = []) :
    Calls Tryd.prog 11 #[.string (bs l)] w fun e w' => e = .returned (prV (prC l)) ∧ Below w.heap.size w w' := by
  obtain ⟨b0, b1, b2, b3, hrl⟩ := rq4_bd hq
  have HQ : Hid (rq4 l = some (a, b, c, d, r)) := hq
  have h3 := slQ_len hsl
  have HS : Hid (slQ r = some t) := hsl
  have h4 := (num2_some hn).1
  have HN : Hid (num2 t = some (n, u)) := hn
  have he : (bs u).toList.isEmpty = false := by rw [bs_empty]; cases u <;> simp_all
  have HG : Hid (prV (prC l) = .tuple #[.agg #[.int .u32 0, .int .i64 0], .int .i64 1]) := by show _ = _; simp [prC, hq, hsl, hn, hu, prV]
  clear hq hsl hn hu
  go_enter Tryd.func11, Tryd.ntmps11
  go_wp2_with fail
  refine (quad_yes HQ.out hs _).mono ?_
  rintro e w1 ⟨rfl, hb1⟩
  obtain ⟨⟨v0, z0⟩, ⟨v1, z1⟩, g0, g1, hz⟩ := (Slot.first w _ _ _).bel hb1
  go_wp2_with fail
  refine (sl_yes HS.out (by omega) _).mono ?_
  rintro e w2 ⟨rfl, rfl⟩
  go_wp2_with fail
  refine (read2_yes HN.out (by omega) _).mono ?_
  rintro e w2 ⟨rfl, q1, rfl⟩
  go_wp2_with fail
  exact bodyPost_ret (v := .tuple #[.agg #[.int .u32 0, .int .i64 0], .int .i64 1]) (by simp [results, Tryd.results11, go_sem, z0, z1, hz]) rfl ⟨fin_eq HG.out, by repeat (first | exact Below.refl _ _ | refine Below.setCell ?_ (by simp) _ | refine below_drewN ?_ _ | refine Below.trans ?_ (Below.mono hb3 (by first | (simp; omega) | simp | omega)) | refine Below.trans ?_ (Below.mono hb2 (by first | (simp; omega) | simp | omega)) | refine Below.trans ?_ (Below.mono hb1 (by first | (simp; omega) | simp | omega)) | refine Below.alloc ?_ (by first | (simp; omega) | simp | omega) _)⟩

set_option maxHeartbeats 4000000 in
theorem parse_f (l : List UInt8) (w : World) (hs : l.length ≤ maxLen) (a b c d : Int) (r : List UInt8) (hq : rq4 l = some (a, b, c, d, r)) (t : List UInt8) (hsl : slQ r = some t) (n : Int) (u : List UInt8) (hn : num2 t = some (n, u)) (hu : u = []) (hf : fineB a b c d = false) :
    Calls Tryd.prog 11 #[.string (bs l)] w fun e w' => e = .returned (prV (prC l)) ∧ Below w.heap.size w w' := by
  obtain ⟨b0, b1, b2, b3, hrl⟩ := rq4_bd hq
  have HQ : Hid (rq4 l = some (a, b, c, d, r)) := hq
  have h3 := slQ_len hsl
  have HS : Hid (slQ r = some t) := hsl
  have h4 := (num2_some hn).1
  have HN : Hid (num2 t = some (n, u)) := hn
  have he : (bs u).toList.isEmpty = true := by rw [bs_empty, hu]; rfl
  have HF : Hid (fineB a b c d = false) := hf
  have HG : Hid (prV (prC l) = .tuple #[.agg #[.int .u32 0, .int .i64 0], .int .i64 2]) := by show _ = _; simp [prC, hq, hsl, hn, hu, hf, prV]
  clear hq hsl hn hu hf
  go_enter Tryd.func11, Tryd.ntmps11
  go_wp2_with fail
  refine (quad_yes HQ.out hs _).mono ?_
  rintro e w1 ⟨rfl, hb1⟩
  obtain ⟨⟨v0, z0⟩, ⟨v1, z1⟩, g0, g1, hz⟩ := (Slot.first w _ _ _).bel hb1
  go_wp2_with fail
  refine (sl_yes HS.out (by omega) _).mono ?_
  rintro e w2 ⟨rfl, rfl⟩
  go_wp2_with fail
  refine (read2_yes HN.out (by omega) _).mono ?_
  rintro e w2 ⟨rfl, q1, rfl⟩
  go_wp2_with fail
  refine (join_no HF.out b0 b1 b2 b3 _).mono ?_
  rintro e w2 ⟨rfl, hb2⟩
  have hz1 : w1.heap.size < w2.heap.size := by have := hb2.size; simp at this; omega
  obtain ⟨⟨v0', y0⟩, ⟨v1', y1⟩, g0', g1', hz'⟩ := Slot.bel (Slot.drewN (Slot.alloc (w1 := w1) ⟨⟨v0, z0⟩, ⟨v1, z1⟩, g0, g1, hz⟩ _) q1) hb2
  clear z0 z1 g0 g1
  have z0 := y0
  have z1 := y1
  have g0 := g0'
  have g1 := g1'
  clear y0 y1 g0' g1'
  go_wp2_with fail
  exact bodyPost_ret (v := .tuple #[.agg #[.int .u32 0, .int .i64 0], .int .i64 2]) (by simp [results, Tryd.results11, go_sem, z0, z1]) rfl ⟨fin_eq HG.out, by repeat (first | exact Below.refl _ _ | refine Below.setCell ?_ (by simp) _ | refine below_drewN ?_ _ | refine Below.trans ?_ (Below.mono hb3 (by first | (simp; omega) | simp | omega)) | refine Below.trans ?_ (Below.mono hb2 (by first | (simp; omega) | simp | omega)) | refine Below.trans ?_ (Below.mono hb1 (by first | (simp; omega) | simp | omega)) | refine Below.alloc ?_ (by first | (simp; omega) | simp | omega) _)⟩

set_option maxHeartbeats 4000000 in
theorem parse_g (l : List UInt8) (w : World) (hs : l.length ≤ maxLen) (a b c d : Int) (r : List UInt8) (hq : rq4 l = some (a, b, c, d, r)) (t : List UInt8) (hsl : slQ r = some t) (n : Int) (u : List UInt8) (hn : num2 t = some (n, u)) (hu : u = []) (hf : fineB a b c d = true) (h32 : 32 < n) :
    Calls Tryd.prog 11 #[.string (bs l)] w fun e w' => e = .returned (prV (prC l)) ∧ Below w.heap.size w w' := by
  obtain ⟨b0, b1, b2, b3, hrl⟩ := rq4_bd hq
  have HQ : Hid (rq4 l = some (a, b, c, d, r)) := hq
  have h3 := slQ_len hsl
  have HS : Hid (slQ r = some t) := hsl
  have h4 := (num2_some hn).1
  have HN : Hid (num2 t = some (n, u)) := hn
  have he : (bs u).toList.isEmpty = true := by rw [bs_empty, hu]; rfl
  have HF : Hid (fineB a b c d = true) := hf
  have HG : Hid (prV (prC l) = .tuple #[.agg #[.int .u32 0, .int .i64 0], .int .i64 2]) := by show _ = _; simp [prC, hq, hsl, hn, hu, hf, prV]; rw [if_neg (by omega)]; exact ⟨⟨rfl, rfl⟩, rfl⟩
  clear hq hsl hn hu hf
  go_enter Tryd.func11, Tryd.ntmps11
  go_wp2_with fail
  refine (quad_yes HQ.out hs _).mono ?_
  rintro e w1 ⟨rfl, hb1⟩
  obtain ⟨⟨v0, z0⟩, ⟨v1, z1⟩, g0, g1, hz⟩ := (Slot.first w _ _ _).bel hb1
  go_wp2_with fail
  refine (sl_yes HS.out (by omega) _).mono ?_
  rintro e w2 ⟨rfl, rfl⟩
  go_wp2_with fail
  refine (read2_yes HN.out (by omega) _).mono ?_
  rintro e w2 ⟨rfl, q1, rfl⟩
  go_wp2_with fail
  refine (join_yes HF.out b0 b1 b2 b3 _).mono ?_
  rintro e w2 ⟨rfl, hb2⟩
  have hz1 : w1.heap.size < w2.heap.size := by have := hb2.size; simp at this; omega
  obtain ⟨⟨v0', y0⟩, ⟨v1', y1⟩, g0', g1', hz'⟩ := Slot.bel (Slot.drewN (Slot.alloc (w1 := w1) ⟨⟨v0, z0⟩, ⟨v1, z1⟩, g0, g1, hz⟩ _) q1) hb2
  clear z0 z1 g0 g1
  have z0 := y0
  have z1 := y1
  have g0 := g0'
  have g1 := g1'
  clear y0 y1 g0' g1'
  go_wp2_with fail
  exact bodyPost_ret (v := .tuple #[.agg #[.int .u32 0, .int .i64 0], .int .i64 2]) (by simp [results, Tryd.results11, go_sem, z0, z1]) rfl ⟨fin_eq HG.out, by repeat (first | exact Below.refl _ _ | refine Below.setCell ?_ (by simp) _ | refine below_drewN ?_ _ | refine Below.trans ?_ (Below.mono hb3 (by first | (simp; omega) | simp | omega)) | refine Below.trans ?_ (Below.mono hb2 (by first | (simp; omega) | simp | omega)) | refine Below.trans ?_ (Below.mono hb1 (by first | (simp; omega) | simp | omega)) | refine Below.alloc ?_ (by first | (simp; omega) | simp | omega) _)⟩

set_option maxHeartbeats 4000000 in
theorem parse_v (l : List UInt8) (w : World) (hs : l.length ≤ maxLen) (a b c d : Int) (r : List UInt8) (hq : rq4 l = some (a, b, c, d, r)) (t : List UInt8) (hsl : slQ r = some t) (n : Int) (u : List UInt8) (hn : num2 t = some (n, u)) (hu : u = []) (hf : fineB a b c d = true) (h32 : n ≤ 32) (hv : vld (jt a b c d 4) n = false) :
    Calls Tryd.prog 11 #[.string (bs l)] w fun e w' => e = .returned (prV (prC l)) ∧ Below w.heap.size w w' := by
  obtain ⟨b0, b1, b2, b3, hrl⟩ := rq4_bd hq
  have HQ : Hid (rq4 l = some (a, b, c, d, r)) := hq
  have h3 := slQ_len hsl
  have HS : Hid (slQ r = some t) := hsl
  have h4 := (num2_some hn).1
  have HN : Hid (num2 t = some (n, u)) := hn
  have he : (bs u).toList.isEmpty = true := by rw [bs_empty, hu]; rfl
  have hj : 0 ≤ jt a b c d 4 ∧ jt a b c d 4 < 4294967296 := by simp only [fineB, decide_eq_true_eq] at hf; simp only [jt]; omega
  have HF : Hid (fineB a b c d = true) := hf
  have HV : Hid (vld (jt a b c d 4) n = false) := hv
  have HG : Hid (prV (prC l) = .tuple #[.agg #[.int .u32 0, .int .i64 0], .int .i64 3]) := by show _ = _; simp [prC, hq, hsl, hn, hu, hf, h32, hv, prV]
  clear hq hsl hn hu hf hv
  go_enter Tryd.func11, Tryd.ntmps11
  go_wp2_with fail
  refine (quad_yes HQ.out hs _).mono ?_
  rintro e w1 ⟨rfl, hb1⟩
  obtain ⟨⟨v0, z0⟩, ⟨v1, z1⟩, g0, g1, hz⟩ := (Slot.first w _ _ _).bel hb1
  go_wp2_with fail
  refine (sl_yes HS.out (by omega) _).mono ?_
  rintro e w2 ⟨rfl, rfl⟩
  go_wp2_with fail
  refine (read2_yes HN.out (by omega) _).mono ?_
  rintro e w2 ⟨rfl, q1, rfl⟩
  go_wp2_with fail
  refine (join_yes HF.out b0 b1 b2 b3 _).mono ?_
  rintro e w2 ⟨rfl, hb2⟩
  have hz1 : w1.heap.size < w2.heap.size := by have := hb2.size; simp at this; omega
  obtain ⟨⟨v0', y0⟩, ⟨v1', y1⟩, g0', g1', hz'⟩ := Slot.bel (Slot.drewN (Slot.alloc (w1 := w1) ⟨⟨v0, z0⟩, ⟨v1, z1⟩, g0, g1, hz⟩ _) q1) hb2
  clear z0 z1 g0 g1
  have z0 := y0
  have z1 := y1
  have g0 := g0'
  have g1 := g1'
  clear y0 y1 g0' g1'
  go_wp2_with fail
  refine (valid_no (jt a b c d 4) n HV.out hj.1 hj.2 _).mono ?_
  rintro e w3 ⟨rfl, hb3⟩
  have p0 := hb3.cell (p := ⟨w2.heap.size, 0, none⟩) (by simp)
  have p1 := hb3.cell (p := ⟨w2.heap.size, 1, none⟩) (by simp)
  simp at p0 p1
  have hz2 : w2.heap.size < w3.heap.size := by have := hb3.size; simp at this; omega
  obtain ⟨⟨v0'', y0⟩, ⟨v1'', y1⟩, g0', g1', hz''⟩ := Slot.bel (Slot.alloc (w1 := w2) ⟨⟨_, z0⟩, ⟨_, z1⟩, g0, g1, hz'⟩ _) hb3
  clear z0 z1 g0 g1
  have z0 := y0
  have z1 := y1
  have g0 := g0'
  have g1 := g1'
  clear y0 y1 g0' g1'
  go_wp2_with fail
  exact bodyPost_ret (v := .tuple #[.agg #[.int .u32 0, .int .i64 0], .int .i64 3]) (by simp [results, Tryd.results11, go_sem, z0, z1]) rfl ⟨fin_eq HG.out, by repeat (first | exact Below.refl _ _ | refine Below.setCell ?_ (by simp) _ | refine below_drewN ?_ _ | refine Below.trans ?_ (Below.mono hb3 (by first | (simp; omega) | simp | omega)) | refine Below.trans ?_ (Below.mono hb2 (by first | (simp; omega) | simp | omega)) | refine Below.trans ?_ (Below.mono hb1 (by first | (simp; omega) | simp | omega)) | refine Below.alloc ?_ (by first | (simp; omega) | simp | omega) _)⟩

set_option maxHeartbeats 4000000 in
theorem parse_y (l : List UInt8) (w : World) (hs : l.length ≤ maxLen) (a b c d : Int) (r : List UInt8) (hq : rq4 l = some (a, b, c, d, r)) (t : List UInt8) (hsl : slQ r = some t) (n : Int) (u : List UInt8) (hn : num2 t = some (n, u)) (hu : u = []) (hf : fineB a b c d = true) (h32 : n ≤ 32) (hv : vld (jt a b c d 4) n = true) :
    Calls Tryd.prog 11 #[.string (bs l)] w fun e w' => e = .returned (prV (prC l)) ∧ Below w.heap.size w w' := by
  obtain ⟨b0, b1, b2, b3, hrl⟩ := rq4_bd hq
  have HQ : Hid (rq4 l = some (a, b, c, d, r)) := hq
  have h3 := slQ_len hsl
  have HS : Hid (slQ r = some t) := hsl
  have h4 := (num2_some hn).1
  have HN : Hid (num2 t = some (n, u)) := hn
  have he : (bs u).toList.isEmpty = true := by rw [bs_empty, hu]; rfl
  have hj : 0 ≤ jt a b c d 4 ∧ jt a b c d 4 < 4294967296 := by simp only [fineB, decide_eq_true_eq] at hf; simp only [jt]; omega
  have HF : Hid (fineB a b c d = true) := hf
  have HV : Hid (vld (jt a b c d 4) n = true) := hv
  have HG : Hid (prV (prC l) = .tuple #[.agg #[.int .u32 (jt a b c d 4), .int .i64 n], .int .i64 0]) := by show _ = _; simp [prC, hq, hsl, hn, hu, hf, h32, hv, prV]
  clear hq hsl hn hu hf hv
  go_enter Tryd.func11, Tryd.ntmps11
  go_wp2_with fail
  refine (quad_yes HQ.out hs _).mono ?_
  rintro e w1 ⟨rfl, hb1⟩
  obtain ⟨⟨v0, z0⟩, ⟨v1, z1⟩, g0, g1, hz⟩ := (Slot.first w _ _ _).bel hb1
  go_wp2_with fail
  refine (sl_yes HS.out (by omega) _).mono ?_
  rintro e w2 ⟨rfl, rfl⟩
  go_wp2_with fail
  refine (read2_yes HN.out (by omega) _).mono ?_
  rintro e w2 ⟨rfl, q1, rfl⟩
  go_wp2_with fail
  refine (join_yes HF.out b0 b1 b2 b3 _).mono ?_
  rintro e w2 ⟨rfl, hb2⟩
  have hz1 : w1.heap.size < w2.heap.size := by have := hb2.size; simp at this; omega
  obtain ⟨⟨v0', y0⟩, ⟨v1', y1⟩, g0', g1', hz'⟩ := Slot.bel (Slot.drewN (Slot.alloc (w1 := w1) ⟨⟨v0, z0⟩, ⟨v1, z1⟩, g0, g1, hz⟩ _) q1) hb2
  clear z0 z1 g0 g1
  have z0 := y0
  have z1 := y1
  have g0 := g0'
  have g1 := g1'
  clear y0 y1 g0' g1'
  go_wp2_with fail
  refine (valid_yes (jt a b c d 4) n HV.out hj.1 hj.2 _).mono ?_
  rintro e w3 ⟨rfl, hb3⟩
  have p0 := hb3.cell (p := ⟨w2.heap.size, 0, none⟩) (by simp)
  have p1 := hb3.cell (p := ⟨w2.heap.size, 1, none⟩) (by simp)
  simp at p0 p1
  have hz2 : w2.heap.size < w3.heap.size := by have := hb3.size; simp at this; omega
  obtain ⟨⟨v0'', y0⟩, ⟨v1'', y1⟩, g0', g1', hz''⟩ := Slot.bel (Slot.alloc (w1 := w2) ⟨⟨_, z0⟩, ⟨_, z1⟩, g0, g1, hz'⟩ _) hb3
  clear z0 z1 g0 g1
  have z0 := y0
  have z1 := y1
  have g0 := g0'
  have g1 := g1'
  clear y0 y1 g0' g1'
  go_wp2_with fail
  exact bodyPost_ret (v := .tuple #[.agg #[.int .u32 (jt a b c d 4), .int .i64 n], .int .i64 0]) (by simp [results, Tryd.results11, go_sem, z0, z1]) rfl ⟨fin_eq HG.out, by repeat (first | exact Below.refl _ _ | refine Below.setCell ?_ (by simp) _ | refine below_drewN ?_ _ | refine Below.trans ?_ (Below.mono hb3 (by first | (simp; omega) | simp | omega)) | refine Below.trans ?_ (Below.mono hb2 (by first | (simp; omega) | simp | omega)) | refine Below.trans ?_ (Below.mono hb1 (by first | (simp; omega) | simp | omega)) | refine Below.alloc ?_ (by first | (simp; omega) | simp | omega) _)⟩

theorem parse_any (l : List UInt8) (w : World) (hs : l.length ≤ maxLen) :
    Calls Tryd.prog 11 #[.string (bs l)] w fun e w' => e = .returned (prV (prC l)) ∧ Below w.heap.size w w' := by
  cases hq : rq4 l with
  | none => exact parse_q l w hs hq
  | some x =>
    obtain ⟨a, b, c, d, r⟩ := x
    cases hsl : slQ r with
    | none => exact parse_sl l w hs a b c d r hq hsl
    | some t =>
      cases hn : num2 t with
      | none => exact parse_n l w hs a b c d r hq t hsl hn
      | some y =>
        obtain ⟨n, u⟩ := y
        by_cases hu : u = []
        · by_cases hf : fineB a b c d = true
          · by_cases h32 : n ≤ 32
            · by_cases hv : vld (jt a b c d 4) n = true
              · exact parse_y l w hs a b c d r hq t hsl n u hn hu hf h32 hv
              · exact parse_v l w hs a b c d r hq t hsl n u hn hu hf h32 (by simpa using hv)
            · exact parse_g l w hs a b c d r hq t hsl n u hn hu hf (by omega)
          · exact parse_f l w hs a b c d r hq t hsl n u hn hu (by simpa using hf)
        · exact parse_u l w hs a b c d r hq t hsl n u hn hu

end Go.Proofs.YthibebjighjlaaaDoor.Rd
