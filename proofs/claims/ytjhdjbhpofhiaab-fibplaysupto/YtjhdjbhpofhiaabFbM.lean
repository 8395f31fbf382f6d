/- Set, where a node stands at the link: what it answers and leaves. -/
import Derived.Test.YtjhdjbhpofhiaabFbK
namespace Go.Proofs.Ytjhdjbhpofhiaab.Fb
open Go.ChangeShapes Go.WideShapes Go.ChangeAt Go.RowKit Go.Joins Go.Proofs.Ytjhdjbhpofhiaab.PM Go.Proofs.Ytjhdjbhpofhiaab.Ask
set_option linter.unusedVariables false

set_option maxRecDepth 100000 in
set_option maxHeartbeats 2000000 in
theorem set_same (base bt : Nat) (ms : List Int) (made : Int) (fr : List Int) (o1 o2 : Option Nat) (m0 : 0 ≤ made) (m1 : made + 1 < 4294967296) (hms : ms.length ≤ 17179869184) (ad len way : Int) (a0 : 0 ≤ ad) (a1 : ad < 4294967296) (hv : vld ad len = true) (hw1 : 1 ≤ way) (hw2 : way ≤ 65535) (F lk : Nat) (ab : Int) (hlk : lk < 17179869184) (hR : skP ms ad len F 0 0 = some ((lk : Int), ab)) (th hd u0 u1 : Int) (hth : wd ms lk = th) (hz : th ≠ 0) (hhd : wd ms (th * 4) = hd) (hnd : wd ms (th * 4 + 1) = ad) (hu0 : wd ms (th * 4 + 2) = u0) (hu1 : wd ms (th * 4 + 3) = u1) (hal : hd / 65536 = len) (hiw : hd % 65536 = way) (w : World) (h : Tab base w bt ms made fr o1 o2) :
    Calls Try.prog 47 #[.pointer (some ⟨bt, 0, none⟩), .agg #[.int .u32 ad, .int .i64 len], .int .i64 way] w fun e w' => Did base bt o1 o2 w [] 0 ms made fr e w' := by
  have H : Hid (Tab base w bt ms made fr o1 o2) := h
  have HR : Hid (skP ms ad len F 0 0 = some ((lk : Int), ab)) := hR
  have HTH : Hid (wd ms lk = th) := hth
  have hthI : In32 th := hth ▸ wd_in h.mem.u32 _
  have th0 := hthI.1
  have th1 := hthI.2
  have hdI : In32 hd := hhd ▸ wd_in h.mem.u32 _
  have hd0 := hdI.1
  have hd1 := hdI.2
  have ndI : In32 ad := hnd ▸ wd_in h.mem.u32 _
  have nd0 := ndI.1
  have nd1 := ndI.2
  have u0I : In32 u0 := hu0 ▸ wd_in h.mem.u32 _
  have u1I : In32 u1 := hu1 ▸ wd_in h.mem.u32 _
  have HNODE : Hid (∀ (va : Option Addr) (cap L : Nat) (hL : ms.length = L) (W : World), Wds W va ms → Calls Try.prog 63 #[.slice va L cap, .int .u32 th] W fun e w' => e = .returned (.agg #[.int .u32 ad, .int .i64 len, .int .i64 way, .int .u32 u0, .int .u32 u1]) ∧ Below W.heap.size W w') := by
    intro va cap L hL W hW
    have := node_any va cap ms L hL th th0 th1 hd ad u0 u1 hhd hnd hu0 hu1 W hW
    unfold nodeV at this; rw [hal, hiw] at this; exact this
  have al0 : 0 ≤ len := by omega
  have iw0 : 0 ≤ way := by omega
  have iw1 : way ≤ 65535 := by omega
  have hzn : ¬ th = 0 := hz
  have hthb : (th == 0) = false := by simp [hz]
  have HZ0 : Hid (th ≠ 0) := hz
  clear h hR hth hthI hdI ndI hhd hnd hu0 hu1 hal hiw hz
  have HV : Hid (vld ad len = true) := hv
  clear hv
  have hltw : bt < w.heap.size := Nat.lt_of_lt_of_le H.out.lt H.out.le
  go_enter Try.func47, Try.ntmps47
  go_wp2_with fail
  obtain ⟨wA, hwA⟩ : ∃ wA, w.alloc (Obj.cells #[.int .u32 ad, .int .i64 len] 33) = wA := ⟨_, rfl⟩
  have hbA : Below w.heap.size w wA := by rw [← hwA]; exact (Below.refl _ w).alloc (Nat.le_refl _) _
  have hsA : w.heap.size < wA.heap.size := by rw [← hwA]; simp
  have pA0 : wA.cell? ⟨w.heap.size, 0, none⟩ = some (.int .u32 ad) := by rw [← hwA]; simp
  have pA1 : wA.cell? ⟨w.heap.size, 1, none⟩ = some (.int .i64 len) := by rw [← hwA]; simp
  rw [hwA]
  clear hwA
  refine (valid_yes ad len HV.out a0 a1 _).mono ?_
  rintro e wV ⟨rfl, hbV⟩
  have p0 := cell_bel pA0 hbV
  have p1 := cell_bel pA1 hbV
  have hbw : Below w.heap.size w wV := hbA.trans (hbV.mono hbA.size)
  have hsV : w.heap.size < wV.heap.size := Nat.lt_of_lt_of_le hsA hbV.size
  clear pA0 pA1
  obtain ⟨va, cap, hc, hwd⟩ := H.out.wds
  obtain ⟨L, hL⟩ : ∃ L, ms.length = L := ⟨_, rfl⟩
  rw [hL] at hc
  have HL : Hid (ms.length = L) := hL
  clear hL
  have cV := cell_bel hc hbw
  have HWD : Hid (Wds w va ms) := hwd
  have hvl := (vld_iff ad len).1 HV.out
  have l0 := hvl.1
  have l1 := hvl.2.1
  clear hc hwd hvl
  have hfd : ∀ W, Sem.run Try.prog (Instr.field 116 (.agg #[.int .i64 (lk : Int), .int .i64 ab]) 0) W = .ok (.int .i64 (lk : Int)) W := fun _ => by kernel_rfl
  go_wp2_with fail
  refine (seek_any bt va cap ms L HL.out ad len a0 a1 l0 l1 F (lk : Int) ab HR.out wV (HWD.out.bel hbw) cV).mono ?_
  rintro e wS ⟨rfl, hbS⟩
  have q0 := cell_bel p0 hbS
  have q1 := cell_bel p1 hbS
  have cS := cell_bel cV hbS
  have hbs : Below w.heap.size w wS := hbw.trans (hbS.mono hbw.size)
  have hsS : w.heap.size < wS.heap.size := Nat.lt_of_lt_of_le hsV hbS.size
  clear p0 p1 cV
  have HWS : Hid (Wds wS va ms) := HWD.out.bel hbs
  have HWORD : Hid (∀ W, Below wS.heap.size wS W → Calls Try.prog 62 #[.slice va L cap, .int .i64 (lk : Int)] W fun e w' => e = .returned (.int .u32 th) ∧ w' = W) := fun W hW => word_any va cap ms L HL.out (lk : Int) (by omega) th HTH.out W (HWS.out.bel hW)
  have hB1 : Below wS.heap.size wS wS.drew := ⟨rfl, rfl, rfl, Nat.le_refl _, fun _ _ => rfl⟩
  have hB2 : Below wS.heap.size wS (wS.alloc (Obj.cells #[.int .u32 0, .int .i64 0, .int .i64 0, .int .u32 0, .int .u32 0] 120)).drew := ((Below.refl _ wS).alloc (Nat.le_refl _) _).drew
  go_wp2_with fail
  apply wp_meet
  case h1 =>
   go_region_held3 (fun w' => w'.cell? ⟨bt, 0, none⟩ = some (.slice va L cap) ∧ w'.cell? ⟨w.heap.size, 0, none⟩ = some (.int .u32 ad) ∧ w'.cell? ⟨w.heap.size, 1, none⟩ = some (.int .i64 len)) (first | (simp [go_sem, cS, q0, q1]; done) | (refine ⟨?_, ?_, ?_⟩ <;> assumption) | go_keep)
    (first
      | (go_at_call 62; refine (HWORD.out _ (by first | exact hB1 | exact hB2)).mono ?_; rintro e w5 ⟨rfl, rfl⟩))
   all_goals exact ⟨rfl, rfl, rfl⟩
  obtain ⟨wN, hwN⟩ : ∃ wN, (wS.alloc (Obj.cells #[.int .u32 ad, .int .i64 len, .int .i64 way, .int .u32 0, .int .u32 0] 120)).drew = wN := ⟨_, rfl⟩
  have hbN : Below wS.heap.size wS wN := by rw [← hwN]; exact ((Below.refl _ wS).alloc (Nat.le_refl _) _).drew
  have hsN : wS.heap.size < wN.heap.size := by rw [← hwN]; show wS.heap.size < (wS.alloc _).heap.size; simp
  have hN : NBox wS.heap.size ad len way 0 0 wN := by rw [← hwN]; constructor <;> simp
  have HZN : Hid (∀ o, wN.frozen? ⟨wS.heap.size, o, none⟩ = false) := fun o => by rw [← hwN]; simp
  have HNB : Hid (NBox wS.heap.size ad len way 0 0 wN) := hN
  have r0 := cell_bel q0 hbN
  have r1 := cell_bel q1 hbN
  have cN := cell_bel cS hbN
  have hbn : Below w.heap.size w wN := hbs.trans (hbN.mono hbs.size)
  have hlN : w.heap.size < wS.heap.size := hsS
  rw [hwN]
  clear hwN q0 q1 cS hB1 hB2
  obtain ⟨c0, c1, c2, c3, c4⟩ := hN
  have HWN : Hid (Wds wN va ms) := HWD.out.bel hbn
  go_wp2_with fail
  refine (HNODE.out va cap L HL.out wN HWN.out).mono ?_
  rintro e wM ⟨rfl, hbM⟩
  have hN2 := HNB.out.bel hbM
  clear c0 c1 c2 c3 c4
  have t0 := cell_bel r0 hbM
  have t1 := cell_bel r1 hbM
  have hbm : Below w.heap.size w wM := hbn.trans (hbM.mono hbn.size)
  have hsM : wS.heap.size < wM.heap.size := Nat.lt_of_lt_of_le hsN hbM.size
  have HZM : Hid (∀ o, wM.frozen? ⟨wS.heap.size, o, none⟩ = false) := fun o => (World.frozen?_of_block (w := wN) (hbM.block _ hsN)).trans (HZN.out o)
  obtain ⟨wI, hwI⟩ : ∃ wI, wM.alloc (Obj.cells #[.int .u32 ad, .int .i64 len, .int .i64 way, .int .u32 u0, .int .u32 u1] 120) = wI := ⟨_, rfl⟩
  have hbI : Below wM.heap.size wM wI := by rw [← hwI]; exact (Below.refl _ wM).alloc (Nat.le_refl _) _
  have hsI : wM.heap.size < wI.heap.size := by rw [← hwI]; simp
  have hI : NBox wM.heap.size ad len way u0 u1 wI := by rw [← hwI]; constructor <;> simp
  have HLFI : Hid (NBox wS.heap.size ad len way 0 0 wI) := hN2.bel hbI
  have HISI : Hid (NBox wM.heap.size ad len way u0 u1 wI) := hI
  have HZI : Hid (∀ o, wI.frozen? ⟨wS.heap.size, o, none⟩ = false) := fun o => (World.frozen?_of_block (w := wM) (hbI.block _ hsM)).trans (HZM.out o)
  have y0 := cell_bel t0 hbI
  have y1 := cell_bel t1 hbI
  have hbi : Below w.heap.size w wI := hbm.trans (hbI.mono hbm.size)
  have HTI : Hid (Tab base wI bt ms made fr o1 o2) := H.out.bel hbi
  clear r0 r1 t0 t1 hN2 cN
  obtain ⟨i0, i1, i2, i3, i4⟩ := hI
  go_wp2_with fail
  go_ret2
  exact Did.none H.out hbi

set_option maxRecDepth 100000 in
set_option maxHeartbeats 2000000 in
theorem set_turn (base bt : Nat) (ms : List Int) (made : Int) (fr : List Int) (o1 o2 : Option Nat) (m0 : 0 ≤ made) (m1 : made + 1 < 4294967296) (hms : ms.length ≤ 17179869184) (ad len way : Int) (a0 : 0 ≤ ad) (a1 : ad < 4294967296) (hv : vld ad len = true) (hw1 : 1 ≤ way) (hw2 : way ≤ 65535) (F lk : Nat) (ab : Int) (hlk : lk < 17179869184) (hR : skP ms ad len F 0 0 = some ((lk : Int), ab)) (th hd iw u0 u1 : Int) (hth : wd ms lk = th) (hz : th ≠ 0) (hhd : wd ms (th * 4) = hd) (hnd : wd ms (th * 4 + 1) = ad) (hu0 : wd ms (th * 4 + 2) = u0) (hu1 : wd ms (th * 4 + 3) = u1) (hal : hd / 65536 = len) (hiw : hd % 65536 = iw) (hne : iw ≠ way) (w : World) (h : Tab base w bt ms made fr o1 o2) :
    Calls Try.prog 47 #[.pointer (some ⟨bt, 0, none⟩), .agg #[.int .u32 ad, .int .i64 len], .int .i64 way] w fun e w' => Did base bt o1 o2 w [((th * 4).toNat, len * 65536 + way)] 0 (putsP ms [((th * 4).toNat, len * 65536 + way)]) made fr e w' := by
  have hneb : (iw == way) = false := by simp [hne]
  have H : Hid (Tab base w bt ms made fr o1 o2) := h
  have HR : Hid (skP ms ad len F 0 0 = some ((lk : Int), ab)) := hR
  have HTH : Hid (wd ms lk = th) := hth
  have hthI : In32 th := hth ▸ wd_in h.mem.u32 _
  have th0 := hthI.1
  have th1 := hthI.2
  have hdI : In32 hd := hhd ▸ wd_in h.mem.u32 _
  have hd0 := hdI.1
  have hd1 := hdI.2
  have ndI : In32 ad := hnd ▸ wd_in h.mem.u32 _
  have nd0 := ndI.1
  have nd1 := ndI.2
  have u0I : In32 u0 := hu0 ▸ wd_in h.mem.u32 _
  have u1I : In32 u1 := hu1 ▸ wd_in h.mem.u32 _
  have HNODE : Hid (∀ (va : Option Addr) (cap L : Nat) (hL : ms.length = L) (W : World), Wds W va ms → Calls Try.prog 63 #[.slice va L cap, .int .u32 th] W fun e w' => e = .returned (.agg #[.int .u32 ad, .int .i64 len, .int .i64 iw, .int .u32 u0, .int .u32 u1]) ∧ Below W.heap.size W w') := by
    intro va cap L hL W hW
    have := node_any va cap ms L hL th th0 th1 hd ad u0 u1 hhd hnd hu0 hu1 W hW
    unfold nodeV at this; rw [hal, hiw] at this; exact this
  have al0 : 0 ≤ len := by omega
  have iw0 : 0 ≤ iw := by omega
  have iw1 : iw ≤ 65535 := by omega
  have hzn : ¬ th = 0 := hz
  have hthb : (th == 0) = false := by simp [hz]
  have HZ0 : Hid (th ≠ 0) := hz
  clear h hR hth hthI hdI ndI hhd hnd hu0 hu1 hal hiw hz
  have HV : Hid (vld ad len = true) := hv
  clear hv
  have hltw : bt < w.heap.size := Nat.lt_of_lt_of_le H.out.lt H.out.le
  go_enter Try.func47, Try.ntmps47
  go_wp2_with fail
  obtain ⟨wA, hwA⟩ : ∃ wA, w.alloc (Obj.cells #[.int .u32 ad, .int .i64 len] 33) = wA := ⟨_, rfl⟩
  have hbA : Below w.heap.size w wA := by rw [← hwA]; exact (Below.refl _ w).alloc (Nat.le_refl _) _
  have hsA : w.heap.size < wA.heap.size := by rw [← hwA]; simp
  have pA0 : wA.cell? ⟨w.heap.size, 0, none⟩ = some (.int .u32 ad) := by rw [← hwA]; simp
  have pA1 : wA.cell? ⟨w.heap.size, 1, none⟩ = some (.int .i64 len) := by rw [← hwA]; simp
  rw [hwA]
  clear hwA
  refine (valid_yes ad len HV.out a0 a1 _).mono ?_
  rintro e wV ⟨rfl, hbV⟩
  have p0 := cell_bel pA0 hbV
  have p1 := cell_bel pA1 hbV
  have hbw : Below w.heap.size w wV := hbA.trans (hbV.mono hbA.size)
  have hsV : w.heap.size < wV.heap.size := Nat.lt_of_lt_of_le hsA hbV.size
  clear pA0 pA1
  obtain ⟨va, cap, hc, hwd⟩ := H.out.wds
  obtain ⟨L, hL⟩ : ∃ L, ms.length = L := ⟨_, rfl⟩
  rw [hL] at hc
  have HL : Hid (ms.length = L) := hL
  clear hL
  have cV := cell_bel hc hbw
  have HWD : Hid (Wds w va ms) := hwd
  have hvl := (vld_iff ad len).1 HV.out
  have l0 := hvl.1
  have l1 := hvl.2.1
  clear hc hwd hvl
  have hfd : ∀ W, Sem.run Try.prog (Instr.field 116 (.agg #[.int .i64 (lk : Int), .int .i64 ab]) 0) W = .ok (.int .i64 (lk : Int)) W := fun _ => by kernel_rfl
  go_wp2_with fail
  refine (seek_any bt va cap ms L HL.out ad len a0 a1 l0 l1 F (lk : Int) ab HR.out wV (HWD.out.bel hbw) cV).mono ?_
  rintro e wS ⟨rfl, hbS⟩
  have q0 := cell_bel p0 hbS
  have q1 := cell_bel p1 hbS
  have cS := cell_bel cV hbS
  have hbs : Below w.heap.size w wS := hbw.trans (hbS.mono hbw.size)
  have hsS : w.heap.size < wS.heap.size := Nat.lt_of_lt_of_le hsV hbS.size
  clear p0 p1 cV
  have HWS : Hid (Wds wS va ms) := HWD.out.bel hbs
  have HWORD : Hid (∀ W, Below wS.heap.size wS W → Calls Try.prog 62 #[.slice va L cap, .int .i64 (lk : Int)] W fun e w' => e = .returned (.int .u32 th) ∧ w' = W) := fun W hW => word_any va cap ms L HL.out (lk : Int) (by omega) th HTH.out W (HWS.out.bel hW)
  have hB1 : Below wS.heap.size wS wS.drew := ⟨rfl, rfl, rfl, Nat.le_refl _, fun _ _ => rfl⟩
  have hB2 : Below wS.heap.size wS (wS.alloc (Obj.cells #[.int .u32 0, .int .i64 0, .int .i64 0, .int .u32 0, .int .u32 0] 120)).drew := ((Below.refl _ wS).alloc (Nat.le_refl _) _).drew
  go_wp2_with fail
  apply wp_meet
  case h1 =>
   go_region_held3 (fun w' => w'.cell? ⟨bt, 0, none⟩ = some (.slice va L cap) ∧ w'.cell? ⟨w.heap.size, 0, none⟩ = some (.int .u32 ad) ∧ w'.cell? ⟨w.heap.size, 1, none⟩ = some (.int .i64 len)) (first | (simp [go_sem, cS, q0, q1]; done) | (refine ⟨?_, ?_, ?_⟩ <;> assumption) | go_keep)
    (first
      | (go_at_call 62; refine (HWORD.out _ (by first | exact hB1 | exact hB2)).mono ?_; rintro e w5 ⟨rfl, rfl⟩))
   all_goals exact ⟨rfl, rfl, rfl⟩
  obtain ⟨wN, hwN⟩ : ∃ wN, (wS.alloc (Obj.cells #[.int .u32 ad, .int .i64 len, .int .i64 way, .int .u32 0, .int .u32 0] 120)).drew = wN := ⟨_, rfl⟩
  have hbN : Below wS.heap.size wS wN := by rw [← hwN]; exact ((Below.refl _ wS).alloc (Nat.le_refl _) _).drew
  have hsN : wS.heap.size < wN.heap.size := by rw [← hwN]; show wS.heap.size < (wS.alloc _).heap.size; simp
  have hN : NBox wS.heap.size ad len way 0 0 wN := by rw [← hwN]; constructor <;> simp
  have HZN : Hid (∀ o, wN.frozen? ⟨wS.heap.size, o, none⟩ = false) := fun o => by rw [← hwN]; simp
  have HNB : Hid (NBox wS.heap.size ad len way 0 0 wN) := hN
  have r0 := cell_bel q0 hbN
  have r1 := cell_bel q1 hbN
  have cN := cell_bel cS hbN
  have hbn : Below w.heap.size w wN := hbs.trans (hbN.mono hbs.size)
  have hlN : w.heap.size < wS.heap.size := hsS
  rw [hwN]
  clear hwN q0 q1 cS hB1 hB2
  obtain ⟨c0, c1, c2, c3, c4⟩ := hN
  have HWN : Hid (Wds wN va ms) := HWD.out.bel hbn
  go_wp2_with fail
  refine (HNODE.out va cap L HL.out wN HWN.out).mono ?_
  rintro e wM ⟨rfl, hbM⟩
  have hN2 := HNB.out.bel hbM
  clear c0 c1 c2 c3 c4
  have t0 := cell_bel r0 hbM
  have t1 := cell_bel r1 hbM
  have hbm : Below w.heap.size w wM := hbn.trans (hbM.mono hbn.size)
  have hsM : wS.heap.size < wM.heap.size := Nat.lt_of_lt_of_le hsN hbM.size
  have HZM : Hid (∀ o, wM.frozen? ⟨wS.heap.size, o, none⟩ = false) := fun o => (World.frozen?_of_block (w := wN) (hbM.block _ hsN)).trans (HZN.out o)
  obtain ⟨wI, hwI⟩ : ∃ wI, wM.alloc (Obj.cells #[.int .u32 ad, .int .i64 len, .int .i64 iw, .int .u32 u0, .int .u32 u1] 120) = wI := ⟨_, rfl⟩
  have hbI : Below wM.heap.size wM wI := by rw [← hwI]; exact (Below.refl _ wM).alloc (Nat.le_refl _) _
  have hsI : wM.heap.size < wI.heap.size := by rw [← hwI]; simp
  have hI : NBox wM.heap.size ad len iw u0 u1 wI := by rw [← hwI]; constructor <;> simp
  have HLFI : Hid (NBox wS.heap.size ad len way 0 0 wI) := hN2.bel hbI
  have HISI : Hid (NBox wM.heap.size ad len iw u0 u1 wI) := hI
  have HZI : Hid (∀ o, wI.frozen? ⟨wS.heap.size, o, none⟩ = false) := fun o => (World.frozen?_of_block (w := wM) (hbI.block _ hsM)).trans (HZM.out o)
  have y0 := cell_bel t0 hbI
  have y1 := cell_bel t1 hbI
  have hbi : Below w.heap.size w wI := hbm.trans (hbI.mono hbm.size)
  have HTI : Hid (Tab base wI bt ms made fr o1 o2) := H.out.bel hbi
  clear r0 r1 t0 t1 hN2 cN
  obtain ⟨i0, i1, i2, i3, i4⟩ := hI
  go_wp2_with fail
  have HTU : Hid (Calls _ _ _ _ _) := turn_any base bt ms made fr o1 o2 hms th ad len iw way u0 u1 th0 th1 l0 l1 (by omega) hw2 wI HTI.out
  refine HTU.out.mono ?_
  rintro e w5 ⟨v, o5, rfl, ht5, hk5, ho5⟩
  have HDID : Hid (Did base bt o1 o2 w [((th * 4).toNat, len * 65536 + way)] 0 (putsP ms [((th * 4).toNat, len * 65536 + way)]) made fr (.returned (.tuple #[v, .int .i64 0])) w5) := ⟨v, o5, o2, rfl, ht5, (KT.bel hbi).trans hk5, ⟨row_low ho5.row hbi.size, ho5.n1, hltw, ho5.u32⟩⟩
  clear ht5 hk5 ho5
  go_wp2_with fail
  go_ret2
  exact HDID.out

set_option maxRecDepth 100000 in
set_option maxHeartbeats 2000000 in
theorem set_over (base bt : Nat) (ms : List Int) (made : Int) (fr : List Int) (o1 o2 : Option Nat) (m0 : 0 ≤ made) (m1 : made + 1 < 4294967296) (hms : ms.length ≤ 17179869184) (ad len way : Int) (a0 : 0 ≤ ad) (a1 : ad < 4294967296) (hv : vld ad len = true) (hw1 : 1 ≤ way) (hw2 : way ≤ 65535) (F lk : Nat) (ab : Int) (hlk : lk < 17179869184) (hR : skP ms ad len F 0 0 = some ((lk : Int), ab)) (th hd nd al iw u0 u1 : Int) (hth : wd ms lk = th) (hz : th ≠ 0) (hhd : wd ms (th * 4) = hd) (hnd : wd ms (th * 4 + 1) = nd) (hu0 : wd ms (th * 4 + 2) = u0) (hu1 : wd ms (th * 4 + 3) = u1) (hal : hd / 65536 = al) (hiw : hd % 65536 = iw) (hne : al ≠ len) (hal1 : al ≤ 32) (hcv : cov ad len nd al = true) (sd : Int) (hsd : sdI nd len = sd) (s0 s1 : Int) (hs0 : (if sd = 0 then th else 0) = s0) (hs1 : (if sd = 0 then 0 else th) = s1) (n : Int) (hn : spN made fr = n) (w : World) (h : Tab base w bt ms made fr o1 o2) :
    Calls Try.prog 47 #[.pointer (some ⟨bt, 0, none⟩), .agg #[.int .u32 ad, .int .i64 len], .int .i64 way] w fun e w' => Did base bt o1 o2 w (nodeWs n ad len way s0 s1 ++ [(lk, n)]) 0 (putsP ms (nodeWs n ad len way s0 s1 ++ [(lk, n)])) (spM made fr) fr.dropLast e w' := by
  have hneb : (al == len) = false := by simp [hne]
  have HCV : Hid (cov ad len nd al = true) := hcv
  have HSD : Hid (sdI nd len = sd) := hsd
  have HN : Hid (spN made fr = n) := hn
  have s00 : 0 ≤ s0 := by rw [← hs0]; have := wd_in h.mem.u32 (lk : Int); rw [hth] at this; have := this.1; split <;> omega
  have s01 : s0 < 4294967296 := by rw [← hs0]; have := wd_in h.mem.u32 (lk : Int); rw [hth] at this; have := this.2; split <;> omega
  have s10 : 0 ≤ s1 := by rw [← hs1]; have := wd_in h.mem.u32 (lk : Int); rw [hth] at this; have := this.1; split <;> omega
  have s11 : s1 < 4294967296 := by rw [← hs1]; have := wd_in h.mem.u32 (lk : Int); rw [hth] at this; have := this.2; split <;> omega
  have HS0 : Hid ((if sd = 0 then th else 0) = s0) := hs0
  have HS1 : Hid ((if sd = 0 then 0 else th) = s1) := hs1
  clear hcv hsd hn hs0 hs1
  have H : Hid (Tab base w bt ms made fr o1 o2) := h
  have HR : Hid (skP ms ad len F 0 0 = some ((lk : Int), ab)) := hR
  have HTH : Hid (wd ms lk = th) := hth
  have hthI : In32 th := hth ▸ wd_in h.mem.u32 _
  have th0 := hthI.1
  have th1 := hthI.2
  have hdI : In32 hd := hhd ▸ wd_in h.mem.u32 _
  have hd0 := hdI.1
  have hd1 := hdI.2
  have ndI : In32 nd := hnd ▸ wd_in h.mem.u32 _
  have nd0 := ndI.1
  have nd1 := ndI.2
  have u0I : In32 u0 := hu0 ▸ wd_in h.mem.u32 _
  have u1I : In32 u1 := hu1 ▸ wd_in h.mem.u32 _
  have HNODE : Hid (∀ (va : Option Addr) (cap L : Nat) (hL : ms.length = L) (W : World), Wds W va ms → Calls Try.prog 63 #[.slice va L cap, .int .u32 th] W fun e w' => e = .returned (.agg #[.int .u32 nd, .int .i64 al, .int .i64 iw, .int .u32 u0, .int .u32 u1]) ∧ Below W.heap.size W w') := by
    intro va cap L hL W hW
    have := node_any va cap ms L hL th th0 th1 hd nd u0 u1 hhd hnd hu0 hu1 W hW
    unfold nodeV at this; rw [hal, hiw] at this; exact this
  have al0 : 0 ≤ al := by omega
  have iw0 : 0 ≤ iw := by omega
  have iw1 : iw ≤ 65535 := by omega
  have hzn : ¬ th = 0 := hz
  have hthb : (th == 0) = false := by simp [hz]
  have HZ0 : Hid (th ≠ 0) := hz
  clear h hR hth hthI hdI ndI hhd hnd hu0 hu1 hal hiw hz
  have HV : Hid (vld ad len = true) := hv
  clear hv
  have hltw : bt < w.heap.size := Nat.lt_of_lt_of_le H.out.lt H.out.le
  go_enter Try.func47, Try.ntmps47
  go_wp2_with fail
  obtain ⟨wA, hwA⟩ : ∃ wA, w.alloc (Obj.cells #[.int .u32 ad, .int .i64 len] 33) = wA := ⟨_, rfl⟩
  have hbA : Below w.heap.size w wA := by rw [← hwA]; exact (Below.refl _ w).alloc (Nat.le_refl _) _
  have hsA : w.heap.size < wA.heap.size := by rw [← hwA]; simp
  have pA0 : wA.cell? ⟨w.heap.size, 0, none⟩ = some (.int .u32 ad) := by rw [← hwA]; simp
  have pA1 : wA.cell? ⟨w.heap.size, 1, none⟩ = some (.int .i64 len) := by rw [← hwA]; simp
  rw [hwA]
  clear hwA
  refine (valid_yes ad len HV.out a0 a1 _).mono ?_
  rintro e wV ⟨rfl, hbV⟩
  have p0 := cell_bel pA0 hbV
  have p1 := cell_bel pA1 hbV
  have hbw : Below w.heap.size w wV := hbA.trans (hbV.mono hbA.size)
  have hsV : w.heap.size < wV.heap.size := Nat.lt_of_lt_of_le hsA hbV.size
  clear pA0 pA1
  obtain ⟨va, cap, hc, hwd⟩ := H.out.wds
  obtain ⟨L, hL⟩ : ∃ L, ms.length = L := ⟨_, rfl⟩
  rw [hL] at hc
  have HL : Hid (ms.length = L) := hL
  clear hL
  have cV := cell_bel hc hbw
  have HWD : Hid (Wds w va ms) := hwd
  have hvl := (vld_iff ad len).1 HV.out
  have l0 := hvl.1
  have l1 := hvl.2.1
  clear hc hwd hvl
  have hfd : ∀ W, Sem.run Try.prog (Instr.field 116 (.agg #[.int .i64 (lk : Int), .int .i64 ab]) 0) W = .ok (.int .i64 (lk : Int)) W := fun _ => by kernel_rfl
  go_wp2_with fail
  refine (seek_any bt va cap ms L HL.out ad len a0 a1 l0 l1 F (lk : Int) ab HR.out wV (HWD.out.bel hbw) cV).mono ?_
  rintro e wS ⟨rfl, hbS⟩
  have q0 := cell_bel p0 hbS
  have q1 := cell_bel p1 hbS
  have cS := cell_bel cV hbS
  have hbs : Below w.heap.size w wS := hbw.trans (hbS.mono hbw.size)
  have hsS : w.heap.size < wS.heap.size := Nat.lt_of_lt_of_le hsV hbS.size
  clear p0 p1 cV
  have HWS : Hid (Wds wS va ms) := HWD.out.bel hbs
  have HWORD : Hid (∀ W, Below wS.heap.size wS W → Calls Try.prog 62 #[.slice va L cap, .int .i64 (lk : Int)] W fun e w' => e = .returned (.int .u32 th) ∧ w' = W) := fun W hW => word_any va cap ms L HL.out (lk : Int) (by omega) th HTH.out W (HWS.out.bel hW)
  have hB1 : Below wS.heap.size wS wS.drew := ⟨rfl, rfl, rfl, Nat.le_refl _, fun _ _ => rfl⟩
  have hB2 : Below wS.heap.size wS (wS.alloc (Obj.cells #[.int .u32 0, .int .i64 0, .int .i64 0, .int .u32 0, .int .u32 0] 120)).drew := ((Below.refl _ wS).alloc (Nat.le_refl _) _).drew
  go_wp2_with fail
  apply wp_meet
  case h1 =>
   go_region_held3 (fun w' => w'.cell? ⟨bt, 0, none⟩ = some (.slice va L cap) ∧ w'.cell? ⟨w.heap.size, 0, none⟩ = some (.int .u32 ad) ∧ w'.cell? ⟨w.heap.size, 1, none⟩ = some (.int .i64 len)) (first | (simp [go_sem, cS, q0, q1]; done) | (refine ⟨?_, ?_, ?_⟩ <;> assumption) | go_keep)
    (first
      | (go_at_call 62; refine (HWORD.out _ (by first | exact hB1 | exact hB2)).mono ?_; rintro e w5 ⟨rfl, rfl⟩))
   all_goals exact ⟨rfl, rfl, rfl⟩
  obtain ⟨wN, hwN⟩ : ∃ wN, (wS.alloc (Obj.cells #[.int .u32 ad, .int .i64 len, .int .i64 way, .int .u32 0, .int .u32 0] 120)).drew = wN := ⟨_, rfl⟩
  have hbN : Below wS.heap.size wS wN := by rw [← hwN]; exact ((Below.refl _ wS).alloc (Nat.le_refl _) _).drew
  have hsN : wS.heap.size < wN.heap.size := by rw [← hwN]; show wS.heap.size < (wS.alloc _).heap.size; simp
  have hN : NBox wS.heap.size ad len way 0 0 wN := by rw [← hwN]; constructor <;> simp
  have HZN : Hid (∀ o, wN.frozen? ⟨wS.heap.size, o, none⟩ = false) := fun o => by rw [← hwN]; simp
  have HNB : Hid (NBox wS.heap.size ad len way 0 0 wN) := hN
  have r0 := cell_bel q0 hbN
  have r1 := cell_bel q1 hbN
  have cN := cell_bel cS hbN
  have hbn : Below w.heap.size w wN := hbs.trans (hbN.mono hbs.size)
  have hlN : w.heap.size < wS.heap.size := hsS
  rw [hwN]
  clear hwN q0 q1 cS hB1 hB2
  obtain ⟨c0, c1, c2, c3, c4⟩ := hN
  have HWN : Hid (Wds wN va ms) := HWD.out.bel hbn
  go_wp2_with fail
  refine (HNODE.out va cap L HL.out wN HWN.out).mono ?_
  rintro e wM ⟨rfl, hbM⟩
  have hN2 := HNB.out.bel hbM
  clear c0 c1 c2 c3 c4
  have t0 := cell_bel r0 hbM
  have t1 := cell_bel r1 hbM
  have hbm : Below w.heap.size w wM := hbn.trans (hbM.mono hbn.size)
  have hsM : wS.heap.size < wM.heap.size := Nat.lt_of_lt_of_le hsN hbM.size
  have HZM : Hid (∀ o, wM.frozen? ⟨wS.heap.size, o, none⟩ = false) := fun o => (World.frozen?_of_block (w := wN) (hbM.block _ hsN)).trans (HZN.out o)
  obtain ⟨wI, hwI⟩ : ∃ wI, wM.alloc (Obj.cells #[.int .u32 nd, .int .i64 al, .int .i64 iw, .int .u32 u0, .int .u32 u1] 120) = wI := ⟨_, rfl⟩
  have hbI : Below wM.heap.size wM wI := by rw [← hwI]; exact (Below.refl _ wM).alloc (Nat.le_refl _) _
  have hsI : wM.heap.size < wI.heap.size := by rw [← hwI]; simp
  have hI : NBox wM.heap.size nd al iw u0 u1 wI := by rw [← hwI]; constructor <;> simp
  have HLFI : Hid (NBox wS.heap.size ad len way 0 0 wI) := hN2.bel hbI
  have HISI : Hid (NBox wM.heap.size nd al iw u0 u1 wI) := hI
  have HZI : Hid (∀ o, wI.frozen? ⟨wS.heap.size, o, none⟩ = false) := fun o => (World.frozen?_of_block (w := wM) (hbI.block _ hsM)).trans (HZM.out o)
  have y0 := cell_bel t0 hbI
  have y1 := cell_bel t1 hbI
  have hbi : Below w.heap.size w wI := hbm.trans (hbI.mono hbm.size)
  have HTI : Hid (Tab base wI bt ms made fr o1 o2) := H.out.bel hbi
  clear r0 r1 t0 t1 hN2 cN
  obtain ⟨i0, i1, i2, i3, i4⟩ := hI
  go_wp2_with fail
  have HCO : Hid (∀ W, Calls _ _ _ W _) := fun W => HCV.out ▸ covers_any ad len nd al a0 a1 nd0 nd1 W
  refine (HCO.out wI).mono ?_
  rintro e wC ⟨rfl, hbC⟩
  have hLC := HLFI.out.bel hbC
  have hIC := HISI.out.bel hbC
  have hsC : wS.heap.size < wC.heap.size := Nat.lt_of_lt_of_le hsM (Nat.le_trans hbI.size hbC.size)
  have hsIC : wM.heap.size < wC.heap.size := Nat.lt_of_lt_of_le hsI hbC.size
  have HZC : Hid (∀ o, wC.frozen? ⟨wS.heap.size, o, none⟩ = false) := fun o => (World.frozen?_of_block (w := wI) (hbC.block _ (Nat.lt_of_lt_of_le hsM hbI.size))).trans (HZI.out o)
  have hbc : Below w.heap.size w wC := hbi.trans (hbC.mono hbi.size)
  have z0 := cell_bel y0 hbC
  have z1 := cell_bel y1 hbC
  have HLC : Hid (NBox wS.heap.size ad len way 0 0 wC) := hLC
  clear i0 i1 i2 i3 i4 y0 y1
  obtain ⟨i0, i1, i2, i3, i4⟩ := hIC
  have HHA : Hid (Calls _ _ _ _ _) := hang_any wS.heap.size ad len way 0 0 th nd al sd l0 l1 nd0 nd1 HSD.out wC HLC.out (HZC.out 3) (HZC.out 4)
  rw [HS0.out, HS1.out] at HHA
  clear hLC
  go_wp2_with fail
  refine HHA.out.mono ?_
  rintro e wH ⟨⟨vv, rfl⟩, hNH, hkH, hbH, -⟩
  have hbh : Below w.heap.size w wH := ⟨hbH.os.trans hbc.os, hbH.tape.trans hbc.tape, hbH.output.trans hbc.output, Nat.le_trans hbc.size hbH.size, fun k hk => (hkH k (Nat.lt_of_lt_of_le hk hbc.size) (by omega)).trans (hbc.block k hk)⟩
  have HTH2 : Hid (Tab base wH bt ms made fr o1 o2) := H.out.bel hbh
  obtain ⟨ws, hws⟩ : ∃ x, nodeWs n ad len way s0 s1 ++ [(lk, n)] = x := ⟨_, rfl⟩
  have HLD : Hid (Calls _ _ _ _ _) := lead_any base bt ms made fr o1 o2 m0 m1 hms lk hlk ad len way s0 s1 a0 a1 l0 l1 (by omega) hw2 s00 s01 s10 s11 n HN.out wH HTH2.out
  rw [hws] at HLD
  obtain ⟨c0, c1, c2, c3, c4⟩ := hNH
  clear hkH hbH
  go_wp2_with fail
  refine HLD.out.mono ?_
  rintro e w5 ⟨v, o5, rfl, ht5, hk5, ho5⟩
  have HDID : Hid (Did base bt o1 o2 w ws 0 (putsP ms ws) (spM made fr) fr.dropLast (.returned (.tuple #[v, .int .i64 0])) w5) := ⟨v, o5, o2, rfl, ht5, (KT.bel hbh).trans hk5, ⟨row_low ho5.row hbh.size, ho5.n1, hltw, ho5.u32⟩⟩
  clear ht5 hk5 ho5
  go_wp2_with fail
  go_ret2
  rw [hws]
  exact HDID.out

end Go.Proofs.Ytjhdjbhpofhiaab.Fb
