/- The book's Over: what it answers. -/
import Derived.Test.YtibmhdfodmkahaaBkE
namespace Go.Proofs.Ytibmhdfodmkahaa.Bk
open Go.ChangeShapes Go.WideShapes Go.ChangeAt Go.RowKit Go.Proofs.Ytibmhdfodmkahaa.PM Go.Proofs.Ytibmhdfodmkahaa.TrM Go.Proofs.Ytibmhdfodmkahaa.Ask
set_option linter.unusedVariables false

/-- what the book has over a prefix, of one length -/
def bov1 (a n : Int) (j : Nat) (l : List (Int × Int × Int)) : List (Int × Int × Int) := l.filter fun y => decide (y.2.1 = (j : Int)) && cov y.1 y.2.1 a n
/-- what the book has over a prefix, of the lengths below j -/
def bov (a n : Int) (j : Nat) (l : List (Int × Int × Int)) : List (Int × Int × Int) := (List.range j).flatMap fun i => bov1 a n i l
theorem bov_succ (a n : Int) (j : Nat) (l : List (Int × Int × Int)) : bov a n (j + 1) l = bov a n j l ++ bov1 a n j l := by
  unfold bov
  rw [List.range_succ, List.flatMap_append]
  simp
theorem bov1_cons (a n : Int) (j : Nat) (ya yn yv : Int) (l : List (Int × Int × Int)) : bov1 a n j ((ya, yn, yv) :: l) = if decide (yn = (j : Int)) && cov ya yn a n then (ya, yn, yv) :: bov1 a n j l else bov1 a n j l := by
  unfold bov1
  rw [List.filter_cons]
theorem bov_mem {a n : Int} {j : Nat} {l : List (Int × Int × Int)} {d : Int × Int × Int} (h : d ∈ bov a n j l) : d ∈ l := by
  unfold bov at h
  obtain ⟨i, -, h2⟩ := List.mem_flatMap.1 h
  exact (List.mem_filter.1 h2).1
theorem bov1_len (a n : Int) (j : Nat) (l : List (Int × Int × Int)) : (bov1 a n j l).length ≤ l.length := List.length_filter_le _ _
theorem bov_len (a n : Int) (l : List (Int × Int × Int)) : ∀ j, (bov a n j l).length ≤ j * l.length
  | 0 => by simp [bov]
  | j + 1 => by
    rw [bov_succ, List.length_append, Nat.succ_mul]
    have h1 := bov_len a n l j
    have h2 := bov1_len a n j l
    omega
/-- a list that the call is building -/
structure OvAt (w wA : World) (pre : List (Int × Int × Int)) (o : Value) (wr : World) : Prop where
  own : RowOf wr wA.heap.size 53 o pre
  bel : Below w.heap.size w wr
  belA : Below wA.heap.size wA wr
theorem OvAt.next {w wA wr w' : World} {pre pre' : List (Int × Int × Int)} {o o' : Value} (h : OvAt w wA pre o wr) (hb : Below wA.heap.size wr w')
    (hown : RowOf w' wA.heap.size 53 o' pre') (hs : w.heap.size ≤ wA.heap.size) : OvAt w wA pre' o' w' :=
  ⟨hown, h.bel.trans (hb.mono hs), h.belA.trans hb⟩
set_option maxRecDepth 100000 in
set_option maxHeartbeats 4000000 in
theorem bover_any (va : Option Addr) (cap : Nat) (l : List (Int × Int × Int)) (a n : Int) (ha : 0 ≤ a) (ha2 : a < 4294967296) (w : World) (hl : Arr3 w va l) (hby : (l.length + 2) * 792 ≤ 140737488355328) :
    Calls Try.prog 23 #[.agg #[.slice va l.length cap], .agg #[.int .u32 a, .int .i64 n]] w fun e w' => ∃ va' cap', e = .returned (.slice va' (bov a n 33 l).length cap') ∧ Arr3 w' va' (bov a n 33 l) ∧ Below w.heap.size w w' ∧ ∀ b o, va' = some ⟨b, o, none⟩ → w.heap.size ≤ b := by
  have HL : Hid (Arr3 w va l) := hl
  have hsm := hl.small
  clear hl
  obtain ⟨L, hL⟩ : ∃ L, l.length = L := ⟨_, rfl⟩
  rw [hL] at hsm hby ⊢
  have HLEN : Hid (l.length = L) := hL
  clear hL
  go_enter Try.func23, Try.ntmps23
  go_wp2_with fail
  obtain ⟨wA, hwA⟩ : ∃ wA, (w.alloc (Obj.cells #[.slice va L cap] 28)).alloc (Obj.cells #[.int .u32 a, .int .i64 n] 33) = wA := ⟨_, rfl⟩
  obtain ⟨g1, g2, hs0, hb0⟩ := two_blocks w _ _ wA hwA.symm
  have HBX : Hid (GetBox w.heap.size va L cap a n wA) := by constructor <;> simp [World.cell?, g1, g2]
  rw [hwA]
  clear hwA g1 g2
  have HB0 : Hid (Below w.heap.size w wA) := hb0
  have hwl := hb0.size
  have hsA : w.heap.size + 2 ≤ wA.heap.size := by omega
  clear hb0 hs0
  go_loopw [5, 6] (fun ov iv wr => ∃ (j : Nat), j ≤ 33 ∧ iv = .int .i64 j ∧ OvAt w wA (bov a n j l) ov wr) (fun _ i _ => 33 - (intOf i).toNat)
  case atStart => exact ⟨0, by omega, rfl, RowOf.nil _ _ _, HB0.out, Below.refl _ _⟩
  case round =>
    obtain ⟨j, hj, rfl, hat⟩ := hrel
    have HAT : Hid (OvAt w wA (bov a n j l) u5 wr) := hat
    clear hat
    by_cases hj2 : j < 33
    · have hj3 : (j : Int) ≤ 32 := by omega
      obtain ⟨b0, p0, p1⟩ := HBX.out.bel HAT.out.belA
      clear p0 p1
      go_wp2_with fail
      clear b0
      go_loopw [5, 16] (fun ov iv wr => ∃ (k : Nat) (pre : List (Int × Int × Int)), k ≤ L ∧ iv = .int .i64 k ∧ OvAt w wA pre ov wr ∧ pre ++ bov1 a n j (l.drop k) = bov a n (j + 1) l ∧ pre.length ≤ j * L + k) (fun _ i _ => L - (intOf i).toNat)
      case atStart => exact ⟨0, _, by omega, rfl, HAT.out, by rw [List.drop_zero, bov_succ], by rw [← HLEN.out]; exact bov_len a n l j⟩
      case round =>
        obtain ⟨k, pre, hk, rfl, hat, heq, hpl⟩ := hrel
        have HAT2 : Hid (OvAt w wA pre _ wr) := hat
        have HEQ : Hid (pre ++ bov1 a n j (l.drop k) = bov a n (j + 1) l) := heq
        clear hat heq
        have hszr : wA.heap.size ≤ wr.heap.size := HAT2.out.belA.size
        have hjL : j * L ≤ 32 * L := Nat.mul_le_mul_right _ (by omega)
        by_cases hlt : k < L
        · have hkd : k < l.length := by rw [HLEN.out]; exact hlt
          obtain ⟨b, o, rfl, hbl, c0, c1, c2⟩ := (HL.out.bel HAT2.out.bel).cells k hkd
          have hu := HL.out.u32 _ (List.getElem_mem hkd)
          obtain ⟨⟨ya, yn, yv⟩, hy⟩ : ∃ y, l[k] = y := ⟨_, rfl⟩
          rw [hy] at c0 c1 c2 hu
          have HY : Hid (l.drop k = (ya, yn, yv) :: l.drop (k + 1)) := by show _ = _; rw [drop_at hkd, hy]
          clear hy
          have hkk : (k : Int) < L := by omega
          have kk0 : (0 : Int) ≤ k := by omega
          obtain ⟨r, hr⟩ : ∃ r, cov ya yn a n = r := ⟨_, rfl⟩
          have HR : Hid (cov ya yn a n = r) := hr
          have HC : Hid (∀ W, Calls Try.prog 40 #[.agg #[.int .u32 ya, .int .i64 yn], .agg #[.int .u32 a, .int .i64 n]] W fun e w' => e = .returned (.bool r) ∧ Below W.heap.size W w') := fun W => by
            rw [← HR.out]
            exact rcovers_any ya yn a n hu.1 hu.2 ha ha2 W
          clear hr hu
          go_upto_region 8 with fail
          obtain ⟨wx, hwx⟩ : ∃ W, wr.alloc (Obj.cells #[.int .u32 ya, .int .i64 yn, .int .i64 yv] 53) = W := ⟨_, rfl⟩
          have HBx : Hid (Below wr.heap.size wr wx) := by rw [← hwx]; exact (Below.refl _ _).alloc (Nat.le_refl _) _
          have HQ : Hid (∀ W, Below wx.heap.size wx W → W.cell? ⟨wr.heap.size, 0, none⟩ = some (.int .u32 ya) ∧ W.cell? ⟨wr.heap.size, 1, none⟩ = some (.int .i64 yn) ∧ W.cell? ⟨wr.heap.size, 2, none⟩ = some (.int .i64 yv)) := fun W hW => by
            have e1 : W.heap[wr.heap.size]? = some (Obj.cells #[.int .u32 ya, .int .i64 yn, .int .i64 yv] 53) := (hW.block _ (by rw [← hwx]; simp)).trans (by rw [← hwx]; exact World.alloc_heap_new wr _)
            refine ⟨?_, ?_, ?_⟩ <;> simp [World.cell?, e1]
          obtain ⟨b0, p0, p1⟩ := HBX.out.bel (HAT2.out.belA.trans (HBx.out.mono hszr))
          obtain ⟨q0, q1, q2⟩ := HQ.out wx (Below.refl _ _)
          rw [hwx]
          clear hwx c0 c1 c2
          by_cases ej : yn = (j : Int)
          · subst ej
            go_wp2_with fail
            refine (HC.out _).mono ?_
            rintro e w5 ⟨rfl, hb5⟩
            have HX5 : Hid (Below wA.heap.size wr w5) := (HBx.out.mono hszr).trans (hb5.mono (Nat.le_trans hszr HBx.out.size))
            obtain ⟨t0, t1, t2⟩ := HQ.out w5 hb5
            have HO5 : Hid (RowOf w5 wA.heap.size 53 u5 pre) := HAT2.out.own.bel (HBx.out.trans (hb5.mono HBx.out.size))
            clear hb5 q0 q1 q2 b0 p0 p1
            have hs5 : wA.heap.size ≤ w5.heap.size := Nat.le_trans hszr HX5.out.size
            cases r
            · have HE : Hid (pre ++ bov1 a n j (l.drop (k + 1)) = bov a n (j + 1) l) := by
                show _ = _; rw [← HEQ.out, HY.out, bov1_cons, HR.out]; simp
              go_wp2_with fail
              exact ⟨⟨k + 1, pre, by omega, by simp, HAT2.out.next HX5.out HO5.out hwl, HE.out, by omega⟩, by simp [intOf]; omega⟩
            · have HE : Hid (pre ++ [(ya, (j : Int), yv)] ++ bov1 a n j (l.drop (k + 1)) = bov a n (j + 1) l) := by
                show _ = _; rw [← HEQ.out, HY.out, bov1_cons, HR.out]; simp
              go_wp2_with (at_builtin; refine app_one Try.underlying26 infoR rfl _ _ rfl wA.heap.size u5 pre ya (j : Int) yv w5 rfl HO5.out _ _ rfl rfl (by omega) hs5 ?_)
              intro g cap2 w6 hown6 hb6 hsp6
              have HB6 : Hid (Below wA.heap.size wr w6) := HX5.out.trans hb6.out
              clear hb6 hsp6
              go_wp2_with fail
              exact ⟨⟨k + 1, pre ++ [(ya, (j : Int), yv)], by omega, by simp, HAT2.out.next HB6.out hown6 hwl, HE.out, by simp; omega⟩, by simp [intOf]; omega⟩
          · have HE : Hid (pre ++ bov1 a n j (l.drop (k + 1)) = bov a n (j + 1) l) := by
              show _ = _; rw [← HEQ.out, HY.out, bov1_cons, decide_eq_false ej]; rfl
            go_wp2_with fail
            exact ⟨⟨k + 1, pre, by omega, by simp, HAT2.out.next (HBx.out.mono hszr) (HAT2.out.own.bel HBx.out) hwl, HE.out, by omega⟩, by simp [intOf]; omega⟩
        · obtain rfl : k = L := by omega
          have hdr : l.drop k = [] := List.drop_of_length_le (by rw [HLEN.out]; exact Nat.le_refl _)
          have HE : Hid (pre = bov a n (j + 1) l) := by have := HEQ.out; rw [hdr] at this; show _ = _; simpa [bov1] using this
          have HA3 : Hid (OvAt w wA (bov a n (j + 1) l) u5 wr) := by have := HAT2.out; rw [HE.out] at this; exact this
          clear hdr HE HAT2 HEQ
          go_wp2_with fail
          exact ⟨⟨j + 1, by omega, by simp, HA3.out⟩, by simp [intOf]; omega⟩
    · obtain rfl : j = 33 := by omega
      have HU : Hid (∀ d ∈ bov a n 33 l, In32 d.1) := fun d hd => HL.out.u32 d (bov_mem hd)
      obtain ⟨ra, rc, hu5, hra, hrb⟩ := arr_of_own HAT.out.own HU.out
      subst hu5
      have HRA : Hid (Arr3 wr ra (bov a n 33 l) ∧ ∀ b o, ra = some ⟨b, o, none⟩ → w.heap.size ≤ b) := ⟨hra, fun b o e => Nat.le_trans hwl (hrb b o e)⟩
      have HBR : Hid (Below w.heap.size w wr) := HAT.out.bel
      clear HAT hra hrb
      go_wp2_with fail
      go_ret
      exact ⟨_, _, rfl, HRA.out.1, HBR.out, HRA.out.2⟩
end Go.Proofs.Ytibmhdfodmkahaa.Bk
