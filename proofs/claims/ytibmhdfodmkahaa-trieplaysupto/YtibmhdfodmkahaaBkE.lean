/- The book's Under and Over: what each answers. -/
import Derived.Test.YtibmhdfodmkahaaBkC
import Derived.Test.YtibmhdfodmkahaaAsk4
import Derived.StillTailTactics
import Derived.Deep.RegionHeld3
import Derived.Deep.CutRange
namespace Go.Proofs.Ytibmhdfodmkahaa.Bk
open Go.ChangeShapes Go.WideShapes Go.ChangeAt Go.RowKit Go.Proofs.Ytibmhdfodmkahaa.PM Go.Proofs.Ytibmhdfodmkahaa.TrM Go.Proofs.Ytibmhdfodmkahaa.Ask
set_option linter.unusedVariables false

/-- what the book has under a prefix -/
def bund (a n : Int) (l : List (Int × Int × Int)) : List (Int × Int × Int) := l.filter fun y => cov a n y.1 y.2.1
theorem bund_cons (a n ya yn yv : Int) (l : List (Int × Int × Int)) : bund a n ((ya, yn, yv) :: l) = if cov a n ya yn then (ya, yn, yv) :: bund a n l else bund a n l := by
  unfold bund
  rw [List.filter_cons]
/-- the book's list as Under builds it -/
structure UndAt (w wA : World) (l : List (Int × Int × Int)) (a n : Int) (k : Nat) (pre : List (Int × Int × Int)) (o : Value) (wr : World) : Prop where
  own : RowOf wr wA.heap.size 53 o pre
  eq : pre ++ bund a n (l.drop k) = bund a n l
  bel : Below w.heap.size w wr
  belA : Below wA.heap.size wA wr
  len : pre.length ≤ k
theorem UndAt.next {w wA wr w' : World} {l : List (Int × Int × Int)} {a n : Int} {k : Nat} {pre pre' : List (Int × Int × Int)} {o o' : Value} (h : UndAt w wA l a n k pre o wr) (hb : Below wA.heap.size wr w')
    (hown : RowOf w' wA.heap.size 53 o' pre') (he : pre' ++ bund a n (l.drop (k + 1)) = bund a n l) (hs : w.heap.size ≤ wA.heap.size) (hlen : pre'.length ≤ k + 1) : UndAt w wA l a n (k + 1) pre' o' w' :=
  ⟨hown, he, h.bel.trans (hb.mono hs), h.belA.trans hb, hlen⟩
set_option maxRecDepth 100000 in
set_option maxHeartbeats 1000000 in
theorem bunder_any (va : Option Addr) (cap : Nat) (l : List (Int × Int × Int)) (a n : Int) (ha : 0 ≤ a) (ha2 : a < 4294967296) (w : World) (hl : Arr3 w va l) (hby : (l.length + 2) * 24 ≤ 140737488355328) :
    Calls Try.prog 21 #[.agg #[.slice va l.length cap], .agg #[.int .u32 a, .int .i64 n]] w fun e w' => ∃ va' cap', e = .returned (.slice va' (bund a n l).length cap') ∧ Arr3 w' va' (bund a n l) ∧ Below w.heap.size w w' ∧ ∀ b o, va' = some ⟨b, o, none⟩ → w.heap.size ≤ b := by
  have HL : Hid (Arr3 w va l) := hl
  have hsm := hl.small
  clear hl
  obtain ⟨L, hL⟩ : ∃ L, l.length = L := ⟨_, rfl⟩
  rw [hL] at hsm hby ⊢
  have HLEN : Hid (l.length = L) := hL
  clear hL
  go_enter Try.func21, Try.ntmps21
  go_wp2_with fail
  obtain ⟨wA, hwA⟩ : ∃ wA, (w.alloc (Obj.cells #[.slice va L cap] 28)).alloc (Obj.cells #[.int .u32 a, .int .i64 n] 33) = wA := ⟨_, rfl⟩
  obtain ⟨g1, g2, hs0, hb0⟩ := two_blocks w _ _ wA hwA.symm
  have HBX : Hid (GetBox w.heap.size va L cap a n wA) := by constructor <;> simp [World.cell?, g1, g2]
  rw [hwA]
  clear hwA g1 g2
  have HB0 : Hid (Below w.heap.size w wA) := hb0
  have hwl := hb0.size
  have hsA : w.heap.size + 2 ≤ wA.heap.size := by omega
  clear hb0 hs0
  go_loopw [5, 11] (fun ov iv wr => ∃ (k : Nat) (pre : List (Int × Int × Int)), k ≤ L ∧ iv = .int .i64 k ∧ UndAt w wA l a n k pre ov wr) (fun _ i _ => L - (intOf i).toNat)
  case atStart => exact ⟨0, [], by omega, rfl, RowOf.nil _ _ _, by simp, HB0.out, Below.refl _ _, by simp⟩
  case round =>
    obtain ⟨k, pre, hk, rfl, hat⟩ := hrel
    have HAT : Hid (UndAt w wA l a n k pre _ wr) := hat
    clear hat
    have hszr : wA.heap.size ≤ wr.heap.size := HAT.out.belA.size
    by_cases hlt : k < L
    · have hkd : k < l.length := by rw [HLEN.out]; exact hlt
      obtain ⟨b, o, rfl, hbl, c0, c1, c2⟩ := (HL.out.bel HAT.out.bel).cells k hkd
      have hu := HL.out.u32 _ (List.getElem_mem hkd)
      obtain ⟨⟨ya, yn, yv⟩, hy⟩ : ∃ y, l[k] = y := ⟨_, rfl⟩
      rw [hy] at c0 c1 c2 hu
      have HY : Hid (l.drop k = (ya, yn, yv) :: l.drop (k + 1)) := by show _ = _; rw [drop_at hkd, hy]
      clear hy
      have hkk : (k : Int) < L := by omega
      have kk0 : (0 : Int) ≤ k := by omega
      have hpl : pre.length ≤ k := HAT.out.len
      obtain ⟨r, hr⟩ : ∃ r, cov a n ya yn = r := ⟨_, rfl⟩
      have HR : Hid (cov a n ya yn = r) := hr
      have HC : Hid (∀ W, Calls Try.prog 40 #[.agg #[.int .u32 a, .int .i64 n], .agg #[.int .u32 ya, .int .i64 yn]] W fun e w' => e = .returned (.bool r) ∧ Below W.heap.size W w') := fun W => by
        rw [← HR.out]
        exact rcovers_any a n ya yn ha ha2 hu.1 hu.2 W
      clear hr hu
      go_upto_region 5 with fail
      obtain ⟨wx, hwx⟩ : ∃ W, wr.alloc (Obj.cells #[.int .u32 ya, .int .i64 yn, .int .i64 yv] 53) = W := ⟨_, rfl⟩
      have HBx : Hid (Below wr.heap.size wr wx) := by rw [← hwx]; exact (Below.refl _ _).alloc (Nat.le_refl _) _
      have HQ : Hid (∀ W, Below wx.heap.size wx W → W.cell? ⟨wr.heap.size, 0, none⟩ = some (.int .u32 ya) ∧ W.cell? ⟨wr.heap.size, 1, none⟩ = some (.int .i64 yn) ∧ W.cell? ⟨wr.heap.size, 2, none⟩ = some (.int .i64 yv)) := fun W hW => by
        have e1 : W.heap[wr.heap.size]? = some (Obj.cells #[.int .u32 ya, .int .i64 yn, .int .i64 yv] 53) := (hW.block _ (by rw [← hwx]; simp)).trans (by rw [← hwx]; exact World.alloc_heap_new wr _)
        refine ⟨?_, ?_, ?_⟩ <;> simp [World.cell?, e1]
      obtain ⟨b0, p0, p1⟩ := HBX.out.bel (HAT.out.belA.trans (HBx.out.mono hszr))
      obtain ⟨q0, q1, q2⟩ := HQ.out wx (Below.refl _ _)
      rw [hwx]
      clear hwx c0 c1 c2
      go_wp2_with fail
      refine (HC.out _).mono ?_
      rintro e w5 ⟨rfl, hb5⟩
      have HX5 : Hid (Below wA.heap.size wr w5) := (HBx.out.mono hszr).trans (hb5.mono (Nat.le_trans hszr HBx.out.size))
      obtain ⟨t0, t1, t2⟩ := HQ.out w5 hb5
      have HO5 : Hid (RowOf w5 wA.heap.size 53 _ pre) := HAT.out.own.bel (HBx.out.trans (hb5.mono HBx.out.size))
      clear hb5 q0 q1 q2 b0 p0 p1
      have hs5 : wA.heap.size ≤ w5.heap.size := Nat.le_trans hszr HX5.out.size
      cases r
      · have HE : Hid (pre ++ bund a n (l.drop (k + 1)) = bund a n l) := by
          show _ = _; rw [← HAT.out.eq, HY.out, bund_cons, HR.out]; rfl
        go_wp2_with fail
        go_roundw
        case rel => exact ⟨k + 1, pre, by omega, by simp, HAT.out.next HX5.out HO5.out HE.out hwl (by omega)⟩
        case measure => simp [intOf]; omega
      · have HE : Hid (pre ++ [(ya, yn, yv)] ++ bund a n (l.drop (k + 1)) = bund a n l) := by
          show _ = _; rw [← HAT.out.eq, HY.out, bund_cons, HR.out]; simp
        go_wp2_with (at_builtin; refine app_one Try.underlying26 infoR rfl _ _ rfl wA.heap.size u5 pre ya yn yv w5 rfl HO5.out _ _ rfl rfl (by omega) hs5 ?_)
        intro g cap2 w6 hown6 hb6 hsp6
        have HB6 : Hid (Below wA.heap.size wr w6) := HX5.out.trans hb6.out
        clear hb6 hsp6
        go_wp2_with fail
        go_roundw
        case rel => exact ⟨k + 1, pre ++ [(ya, yn, yv)], by omega, by simp, HAT.out.next HB6.out hown6 HE.out hwl (by simp; omega)⟩
        case measure => simp [intOf]; omega
    · obtain rfl : k = L := by omega
      have hdr : l.drop k = [] := List.drop_of_length_le (by rw [HLEN.out]; exact Nat.le_refl _)
      have HU : Hid (∀ d ∈ bund a n l, In32 d.1) := fun d hd => HL.out.u32 d (List.mem_filter.1 hd).1
      have HE : Hid (pre = bund a n l) := by have := HAT.out.eq; rw [hdr] at this; show _ = _; simpa [bund] using this
      have HROW : Hid (RowOf wr wA.heap.size 53 u5 (bund a n l)) := by have := HAT.out.own; rw [HE.out] at this; exact this
      obtain ⟨ra, rc, hu5, hra, hrb⟩ := arr_of_own HROW.out HU.out
      subst hu5
      have HRA : Hid (Arr3 wr ra (bund a n l) ∧ ∀ b o, ra = some ⟨b, o, none⟩ → w.heap.size ≤ b) := ⟨hra, fun b o e => Nat.le_trans hwl (hrb b o e)⟩
      have HBR : Hid (Below w.heap.size w wr) := HAT.out.bel
      clear HAT HE hdr hra hrb
      go_wp2_with fail
      go_ret
      exact ⟨_, _, rfl, HRA.out.1, HBR.out, HRA.out.2⟩
end Go.Proofs.Ytibmhdfodmkahaa.Bk
