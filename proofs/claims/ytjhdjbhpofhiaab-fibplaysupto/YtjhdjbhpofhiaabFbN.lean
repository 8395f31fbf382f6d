/- Set, where two part: what it answers and leaves. -/
import Derived.Test.YtjhdjbhpofhiaabFbM
import Derived.Test.YtjhdjbhpofhiaabTrB
namespace Go.Proofs.Ytjhdjbhpofhiaab.Fb
open Go.ChangeShapes Go.WideShapes Go.ChangeAt Go.RowKit Go.Joins Go.Proofs.Ytjhdjbhpofhiaab.PM Go.Proofs.Ytjhdjbhpofhiaab.Ask
set_option linter.unusedVariables false

theorem NBox.kt {b bt : Nat} {ad len way s0 s1 : Int} {W W' : World} {o1 o2 o1' o2' : Option Nat} (h : NBox b ad len way s0 s1 W) (hk : KT bt W o1 o2 W' o1' o2') (hb : b ≠ bt) (h1 : some b ≠ o1) (h2 : some b ≠ o2) : NBox b ad len way s0 s1 W' := by
  have hlt : b < W.heap.size := World.block_lt_of_cell? W _ h.c0
  have k : ∀ o, W'.cell? ⟨b, o, none⟩ = W.cell? ⟨b, o, none⟩ := fun o => hk.cell hlt hb h1 h2
  exact ⟨(k _).trans h.c0, (k _).trans h.c1, (k _).trans h.c2, (k _).trans h.c3, (k _).trans h.c4⟩

set_option maxRecDepth 100000 in
set_option maxHeartbeats 2000000 in
theorem set_fork (base bt : Nat) (ms : List Int) (made : Int) (fr : List Int) (o1 o2 : Option Nat) (m0 : 0 ≤ made) (m1 : made + 2 < 4294967296) (hms : ms.length ≤ 17179869184) (ad len way : Int) (a0 : 0 ≤ ad) (a1 : ad < 4294967296) (hv : vld ad len = true) (hw1 : 1 ≤ way) (hw2 : way ≤ 65535) (F lk : Nat) (ab : Int) (hlk : lk < 17179869184) (hR : skP ms ad len F 0 0 = some ((lk : Int), ab)) (th hd nd al iw u0 u1 : Int) (hth : wd ms lk = th) (hz : th ≠ 0) (hhd : wd ms (th * 4) = hd) (hnd : wd ms (th * 4 + 1) = nd) (hu0 : wd ms (th * 4 + 2) = u0) (hu1 : wd ms (th * 4 + 3) = u1) (hal : hd / 65536 = al) (hiw : hd % 65536 = iw) (hne : nd ≠ ad) (hal1 : al ≤ 32) (hcv : cov ad len nd al = false) (fa fl : Int) (hfa : TrM.shA ad nd = fa) (hfl : TrM.shN ad nd = fl) (fa0 : 0 ≤ fa) (fa1 : fa < 4294967296) (fl0 : 0 ≤ fl) (fl1 : fl ≤ 32) (sd1 sd2 : Int) (hsd1 : sdI nd fl = sd1) (hsd2 : sdI ad fl = sd2) (n n2 : Int) (hn : spN made fr = n) (hn2 : spN (spM made fr) fr.dropLast = n2) (f0 f1 s0 s1 : Int) (hf0 : (if sd1 = 0 then th else 0) = f0) (hf1 : (if sd1 = 0 then 0 else th) = f1) (hs0 : (if sd2 = 0 then n else f0) = s0) (hs1 : (if sd2 = 0 then f1 else n) = s1) (w : World) (h : Tab base w bt ms made fr o1 o2) :
    Calls Try.prog 47 #[.pointer (some ⟨bt, 0, none⟩), .agg #[.int .u32 ad, .int .i64 len], .int .i64 way] w fun e w' => Did base bt o1 o2 w (nodeWs n ad len way 0 0 ++ (nodeWs n2 fa fl 0 s0 s1 ++ [(lk, n2)])) 0 (putsP ms (nodeWs n ad len way 0 0 ++ (nodeWs n2 fa fl 0 s0 s1 ++ [(lk, n2)]))) (spM (spM made fr) fr.dropLast) fr.dropLast.dropLast e w' := by
  have hneb : (nd == ad) = false := by simp [hne]
  have HCV : Hid (cov ad len nd al = false) := hcv
  have HFA : Hid (TrM.shA ad nd = fa) := hfa
  have HFL : Hid (TrM.shN ad nd = fl) := hfl
  have HSD1 : Hid (sdI nd fl = sd1) := hsd1
  have HSD2 : Hid (sdI ad fl = sd2) := hsd2
  have HN : Hid (spN made fr = n) := hn
  have HN2 : Hid (spN (spM made fr) fr.dropLast = n2) := hn2
  have HF0 : Hid ((if sd1 = 0 then th else 0) = f0) := hf0
  have HF1 : Hid ((if sd1 = 0 then 0 else th) = f1) := hf1
  have HS0 : Hid ((if sd2 = 0 then n else f0) = s0) := hs0
  have HS1 : Hid ((if sd2 = 0 then f1 else n) = s1) := hs1
  have hnI : In32 n := by
    rw [← hn]; unfold spN
    rcases List.eq_nil_or_concat fr with rfl | ⟨fr', x, rfl⟩
    · exact ⟨by simp; omega, by simp; omega⟩
    · have := h.u32 x (by simp)
      simpa using this
  have n0 := hnI.1
  have n1 := hnI.2
  have htI : In32 th := hth ▸ wd_in h.mem.u32 _
  have f00 : 0 ≤ f0 ∧ f0 < 4294967296 := by rw [← hf0]; have := htI.1; have := htI.2; split <;> omega
  have f10 : 0 ≤ f1 ∧ f1 < 4294967296 := by rw [← hf1]; have := htI.1; have := htI.2; split <;> omega
  have s00 : 0 ≤ s0 ∧ s0 < 4294967296 := by rw [← hs0]; split <;> omega
  have s10 : 0 ≤ s1 ∧ s1 < 4294967296 := by rw [← hs1]; split <;> omega
  clear hcv hfa hfl hsd1 hsd2 hn hn2 hf0 hf1 hs0 hs1 hnI htI
  have H : Hid (Tab base w bt ms made fr o1 o2) := h
  have HR : Hid (skP ms ad len F 0 0 = some ((lk : Int), ab)) := hR
  have HTH : Hid (wd ms lk = th) := hth
  have hthI : In32 th := hth ▸ wd_in h.mem.u32 _
  have th0 := hthI.1
  have th1 := hthI.2
  have hdI : In32 hd := hhd ▸ wd_in h.mem.u32 _
  have hd0 := hdI.1
  have hd1 := hdI.2
  have ndI : In32 nd := hnd ▸ wd_in h.mem.u32 _
  have nd0 := ndI.1
  have nd1 := ndI.2
  have u0I : In32 u0 := hu0 ▸ wd_in h.mem.u32 _
  have u1I : In32 u1 := hu1 ▸ wd_in h.mem.u32 _
  have HNODE : Hid (∀ (va : Option Addr) (cap L : Nat) (hL : ms.length = L) (W : World), Wds W va ms → Calls Try.prog 63 #[.slice va L cap, .int .u32 th] W fun e w' => e = .returned (.agg #[.int .u32 nd, .int .i64 al, .int .i64 iw, .int .u32 u0, .int .u32 u1]) ∧ Below W.heap.size W w') := by
    intro va cap L hL W hW
    have := node_any va cap ms L hL th th0 th1 hd nd u0 u1 hhd hnd hu0 hu1 W hW
    unfold nodeV at this; rw [hal, hiw] at this; exact this
  have al0 : 0 ≤ al := by omega
  have iw0 : 0 ≤ iw := by omega
  have iw1 : iw ≤ 65535 := by omega
  have hzn : ¬ th = 0 := hz
  have hthb : (th == 0) = false := by simp [hz]
  have HZ0 : Hid (th ≠ 0) := hz
  clear h hR hth hthI hdI ndI hhd hnd hu0 hu1 hal hiw hz
  have HV : Hid (vld ad len = true) := hv
  clear hv
  have hltw : bt < w.heap.size := Nat.lt_of_lt_of_le H.out.lt H.out.le
  go_enter Try.func47, Try.ntmps47
  go_wp2_with fail
  obtain ⟨wA, hwA⟩ : ∃ wA, w.alloc (Obj.cells #[.int .u32 ad, .int .i64 len] 33) = wA := ⟨_, rfl⟩
  have hbA : Below w.heap.size w wA := by rw [← hwA]; exact (Below.refl _ w).alloc (Nat.le_refl _) _
  have hsA : w.heap.size < wA.heap.size := by rw [← hwA]; simp
  have pA0 : wA.cell? ⟨w.heap.size, 0, none⟩ = some (.int .u32 ad) := by rw [← hwA]; simp
  have pA1 : wA.cell? ⟨w.heap.size, 1, none⟩ = some (.int .i64 len) := by rw [← hwA]; simp
  rw [hwA]
  clear hwA
  refine (valid_yes ad len HV.out a0 a1 _).mono ?_
  rintro e wV ⟨rfl, hbV⟩
  have p0 := cell_bel pA0 hbV
  have p1 := cell_bel pA1 hbV
  have hbw : Below w.heap.size w wV := hbA.trans (hbV.mono hbA.size)
  have hsV : w.heap.size < wV.heap.size := Nat.lt_of_lt_of_le hsA hbV.size
  clear pA0 pA1
  obtain ⟨va, cap, hc, hwd⟩ := H.out.wds
  obtain ⟨L, hL⟩ : ∃ L, ms.length = L := ⟨_, rfl⟩
  rw [hL] at hc
  have HL : Hid (ms.length = L) := hL
  clear hL
  have cV := cell_bel hc hbw
  have HWD : Hid (Wds w va ms) := hwd
  have hvl := (vld_iff ad len).1 HV.out
  have l0 := hvl.1
  have l1 := hvl.2.1
  clear hc hwd hvl
  have hfd : ∀ W, Sem.run Try.prog (Instr.field 116 (.agg #[.int .i64 (lk : Int), .int .i64 ab]) 0) W = .ok (.int .i64 (lk : Int)) W := fun _ => by kernel_rfl
  go_wp2_with fail
  refine (seek_any bt va cap ms L HL.out ad len a0 a1 l0 l1 F (lk : Int) ab HR.out wV (HWD.out.bel hbw) cV).mono ?_
  rintro e wS ⟨rfl, hbS⟩
  have q0 := cell_bel p0 hbS
  have q1 := cell_bel p1 hbS
  have cS := cell_bel cV hbS
  have hbs : Below w.heap.size w wS := hbw.trans (hbS.mono hbw.size)
  have hsS : w.heap.size < wS.heap.size := Nat.lt_of_lt_of_le hsV hbS.size
  clear p0 p1 cV
  have HWS : Hid (Wds wS va ms) := HWD.out.bel hbs
  have HWORD : Hid (∀ W, Below wS.heap.size wS W → Calls Try.prog 62 #[.slice va L cap, .int .i64 (lk : Int)] W fun e w' => e = .returned (.int .u32 th) ∧ w' = W) := fun W hW => word_any va cap ms L HL.out (lk : Int) (by omega) th HTH.out W (HWS.out.bel hW)
  have hB1 : Below wS.heap.size wS wS.drew := ⟨rfl, rfl, rfl, Nat.le_refl _, fun _ _ => rfl⟩
  have hB2 : Below wS.heap.size wS (wS.alloc (Obj.cells #[.int .u32 0, .int .i64 0, .int .i64 0, .int .u32 0, .int .u32 0] 120)).drew := ((Below.refl _ wS).alloc (Nat.le_refl _) _).drew
  go_wp2_with fail
  apply wp_meet
  case h1 =>
   go_region_held3 (fun w' => w'.cell? ⟨bt, 0, none⟩ = some (.slice va L cap) ∧ w'.cell? ⟨w.heap.size, 0, none⟩ = some (.int .u32 ad) ∧ w'.cell? ⟨w.heap.size, 1, none⟩ = some (.int .i64 len)) (first | (simp [go_sem, cS, q0, q1]; done) | (refine ⟨?_, ?_, ?_⟩ <;> assumption) | go_keep)
    (first
      | (go_at_call 62; refine (HWORD.out _ (by first | exact hB1 | exact hB2)).mono ?_; rintro e w5 ⟨rfl, rfl⟩))
   all_goals exact ⟨rfl, rfl, rfl⟩
  obtain ⟨wN, hwN⟩ : ∃ wN, (wS.alloc (Obj.cells #[.int .u32 ad, .int .i64 len, .int .i64 way, .int .u32 0, .int .u32 0] 120)).drew = wN := ⟨_, rfl⟩
  have hbN : Below wS.heap.size wS wN := by rw [← hwN]; exact ((Below.refl _ wS).alloc (Nat.le_refl _) _).drew
  have hsN : wS.heap.size < wN.heap.size := by rw [← hwN]; show wS.heap.size < (wS.alloc _).heap.size; simp
  have hN : NBox wS.heap.size ad len way 0 0 wN := by rw [← hwN]; constructor <;> simp
  have HZN : Hid (∀ o, wN.frozen? ⟨wS.heap.size, o, none⟩ = false) := fun o => by rw [← hwN]; simp
  have HNB : Hid (NBox wS.heap.size ad len way 0 0 wN) := hN
  have r0 := cell_bel q0 hbN
  have r1 := cell_bel q1 hbN
  have cN := cell_bel cS hbN
  have hbn : Below w.heap.size w wN := hbs.trans (hbN.mono hbs.size)
  have hlN : w.heap.size < wS.heap.size := hsS
  rw [hwN]
  clear hwN q0 q1 cS hB1 hB2
  obtain ⟨c0, c1, c2, c3, c4⟩ := hN
  have HWN : Hid (Wds wN va ms) := HWD.out.bel hbn
  go_wp2_with fail
  refine (HNODE.out va cap L HL.out wN HWN.out).mono ?_
  rintro e wM ⟨rfl, hbM⟩
  have hN2 := HNB.out.bel hbM
  clear c0 c1 c2 c3 c4
  have t0 := cell_bel r0 hbM
  have t1 := cell_bel r1 hbM
  have hbm : Below w.heap.size w wM := hbn.trans (hbM.mono hbn.size)
  have hsM : wS.heap.size < wM.heap.size := Nat.lt_of_lt_of_le hsN hbM.size
  have HZM : Hid (∀ o, wM.frozen? ⟨wS.heap.size, o, none⟩ = false) := fun o => (World.frozen?_of_block (w := wN) (hbM.block _ hsN)).trans (HZN.out o)
  obtain ⟨wI, hwI⟩ : ∃ wI, wM.alloc (Obj.cells #[.int .u32 nd, .int .i64 al, .int .i64 iw, .int .u32 u0, .int .u32 u1] 120) = wI := ⟨_, rfl⟩
  have hbI : Below wM.heap.size wM wI := by rw [← hwI]; exact (Below.refl _ wM).alloc (Nat.le_refl _) _
  have hsI : wM.heap.size < wI.heap.size := by rw [← hwI]; simp
  have hI : NBox wM.heap.size nd al iw u0 u1 wI := by rw [← hwI]; constructor <;> simp
  have HLFI : Hid (NBox wS.heap.size ad len way 0 0 wI) := hN2.bel hbI
  have HISI : Hid (NBox wM.heap.size nd al iw u0 u1 wI) := hI
  have HZI : Hid (∀ o, wI.frozen? ⟨wS.heap.size, o, none⟩ = false) := fun o => (World.frozen?_of_block (w := wM) (hbI.block _ hsM)).trans (HZM.out o)
  have y0 := cell_bel t0 hbI
  have y1 := cell_bel t1 hbI
  have hbi : Below w.heap.size w wI := hbm.trans (hbI.mono hbm.size)
  have HTI : Hid (Tab base wI bt ms made fr o1 o2) := H.out.bel hbi
  clear r0 r1 t0 t1 hN2 cN
  obtain ⟨i0, i1, i2, i3, i4⟩ := hI
  go_wp2_with fail
  have HCO : Hid (∀ W, Calls _ _ _ W _) := fun W => HCV.out ▸ covers_any ad len nd al a0 a1 nd0 nd1 W
  refine (HCO.out wI).mono ?_
  rintro e wC ⟨rfl, hbC⟩
  have hLC := HLFI.out.bel hbC
  have HIC : Hid (NBox wM.heap.size nd al iw u0 u1 wC) := HISI.out.bel hbC
  have hsC : wS.heap.size < wC.heap.size := Nat.lt_of_lt_of_le hsM (Nat.le_trans hbI.size hbC.size)
  have hbc : Below w.heap.size w wC := hbi.trans (hbC.mono hbi.size)
  have HPC : Hid (wC.cell? ⟨w.heap.size, 0, none⟩ = some (.int .u32 ad) ∧ wC.cell? ⟨w.heap.size, 1, none⟩ = some (.int .i64 len)) := ⟨cell_bel y0 hbC, cell_bel y1 hbC⟩
  have HTC : Hid (Tab base wC bt ms made fr o1 o2) := H.out.bel hbc
  clear i0 i1 i2 i3 i4 y0 y1
  obtain ⟨c0, c1, c2, c3, c4⟩ := hLC
  obtain ⟨nw, hnw⟩ : ∃ x, nodeWs n ad len way 0 0 = x := ⟨_, rfl⟩
  have HGR : Hid (Calls _ _ _ _ _) := grow_any base bt ms made fr o1 o2 m0 (by omega) hms ad len way 0 0 a0 a1 l0 l1 (by omega) hw2 (by decide) (by decide) (by decide) (by decide) n HN.out wC HTC.out
  rw [hnw] at HGR
  have hnwl : nw.length = 4 := by rw [← hnw]; rfl
  have hnwB : ∀ y ∈ nw, y.1 + 1 ≤ 17179869184 := by
    rw [← hnw]
    intro y hy
    simp [nodeWs] at hy
    rcases hy with rfl | rfl | rfl | rfl <;> simp <;> omega
  have HNW : Hid (nodeWs n ad len way 0 0 = nw) := hnw
  have HNWL : Hid (nw.length = 4) := hnwl
  have HNWB : Hid (∀ y ∈ nw, y.1 + 1 ≤ 17179869184) := hnwB
  clear hnw hnwl hnwB
  go_wp2_with fail
  refine HGR.out.mono ?_
  rintro e wG ⟨g, oG, rfl, htG, hkG, hoG⟩
  have hne1 : ∀ b, w.heap.size ≤ b → some b ≠ o1 := fun b hb e => by have := (H.out.in1 _ e.symm).2; omega
  have hne2 : ∀ b, w.heap.size ≤ b → some b ≠ o2 := fun b hb e => by have := (H.out.in2 _ e.symm).2; omega
  have HIG : Hid (NBox wM.heap.size nd al iw u0 u1 wG) := HIC.out.kt hkG (by omega) (hne1 _ (by omega)) (hne2 _ (by omega))
  have p0 : wG.cell? ⟨w.heap.size, 0, none⟩ = some (.int .u32 ad) := (hkG.cell (by omega) (by omega) (hne1 _ (Nat.le_refl _)) (hne2 _ (Nat.le_refl _))).trans HPC.out.1
  have p1 : wG.cell? ⟨w.heap.size, 1, none⟩ = some (.int .i64 len) := (hkG.cell (by omega) (by omega) (hne1 _ (Nat.le_refl _)) (hne2 _ (Nat.le_refl _))).trans HPC.out.2
  have HTG : Hid (Tab base wG bt (putsP ms nw) (spM made fr) fr.dropLast oG o2) := htG
  have HKG : Hid (KT bt w o1 o2 wG oG o2) := (KT.bel hbc).trans hkG
  have HOG : Hid (Own wC.heap.size wG bt oG o2 (.slice (some ⟨g, 0, none⟩) 4 4) nw) := hoG
  have hCG : wC.heap.size ≤ wG.heap.size := hkG.size
  have HNE1 : Hid (∀ b, w.heap.size ≤ b → some b ≠ o1) := hne1
  have HNE2 : Hid (∀ b, w.heap.size ≤ b → some b ≠ o2) := hne2
  clear htG hkG hoG c0 c1 c2 c3 c4 hne1 hne2
  obtain ⟨i0, i1, i2, i3, i4⟩ := HIG.out
  have HSH : Hid (∀ W, Calls Try.prog 56 #[.agg #[.int .u32 ad, .int .i64 len], .agg #[.int .u32 nd, .int .i64 al]] W fun e w' => e = .returned (.agg #[.int .u32 fa, .int .i64 fl]) ∧ Below W.heap.size W w') := fun W => by
    have := Tri.shared_any ad len nd al a0 a1 nd0 nd1 W
    rw [HFA.out, HFL.out] at this; exact this
  go_wp2_with fail
  refine (HSH.out wG).mono ?_
  rintro e wX ⟨rfl, hbX⟩
  have hGX : wG.heap.size ≤ wX.heap.size := hbX.size
  have HIX : Hid (NBox wM.heap.size nd al iw u0 u1 wX) := HIG.out.bel hbX
  have HPX : Hid (wX.cell? ⟨w.heap.size, 0, none⟩ = some (.int .u32 ad) ∧ wX.cell? ⟨w.heap.size, 1, none⟩ = some (.int .i64 len)) := ⟨cell_bel p0 hbX, cell_bel p1 hbX⟩
  clear i0 i1 i2 i3 i4 p0 p1
  obtain ⟨i0, i1, i2, i3, i4⟩ := HIX.out.bel (show Below wX.heap.size wX (wX.alloc (Obj.cells #[.int .u32 fa, .int .i64 fl, .int .i64 0, .int .u32 0, .int .u32 0] 120)) from (Below.refl _ wX).alloc (Nat.le_refl _) _)
  go_wp2_with fail
  obtain ⟨wF, hwF⟩ : ∃ wF, wX.alloc (Obj.cells #[.int .u32 fa, .int .i64 fl, .int .i64 0, .int .u32 0, .int .u32 0] 120) = wF := ⟨_, rfl⟩
  have hbF : Below wX.heap.size wX wF := by rw [← hwF]; exact (Below.refl _ wX).alloc (Nat.le_refl _) _
  have hsF : wX.heap.size < wF.heap.size := by rw [← hwF]; simp
  have HNF : Hid (NBox wX.heap.size fa fl 0 0 0 wF) := by
    have : NBox wX.heap.size fa fl 0 0 0 wF := by rw [← hwF]; constructor <;> simp
    exact this
  have HZF : Hid (∀ o, wF.frozen? ⟨wX.heap.size, o, none⟩ = false) := fun o => by rw [← hwF]; simp
  have hbGF : Below wG.heap.size wG wF := hbX.trans (hbF.mono hGX)
  have HIF : Hid (NBox wM.heap.size nd al iw u0 u1 wF) := HIX.out.bel hbF
  have HPF : Hid (wF.cell? ⟨w.heap.size, 0, none⟩ = some (.int .u32 ad) ∧ wF.cell? ⟨w.heap.size, 1, none⟩ = some (.int .i64 len)) := ⟨cell_bel HPX.out.1 hbF, cell_bel HPX.out.2 hbF⟩
  have HH1 : Hid (Calls _ _ _ _ _) := hang_any wX.heap.size fa fl 0 0 0 th nd al sd1 fl0 fl1 nd0 nd1 HSD1.out wF HNF.out (HZF.out 3) (HZF.out 4)
  rw [HF0.out, HF1.out] at HH1
  rw [hwF]
  clear hwF i0 i1 i2 i3 i4
  refine HH1.out.mono ?_
  rintro e wH ⟨⟨vv, rfl⟩, hNH, hkH, hbH, hzH⟩
  have HNH : Hid (NBox wX.heap.size fa fl 0 f0 f1 wH) := hNH
  have hbGH : Below wG.heap.size wG wH := ⟨hbH.os.trans hbGF.os, hbH.tape.trans hbGF.tape, hbH.output.trans hbGF.output, Nat.le_trans hbGF.size hbH.size, fun k hk => (hkH k (Nat.lt_of_lt_of_le hk hbGF.size) (by omega)).trans (hbGF.block k hk)⟩
  have HZH : Hid (∀ o, wH.frozen? ⟨wX.heap.size, o, none⟩ = false) := fun o => (hzH o).trans (HZF.out o)
  have hwX : w.heap.size ≠ wX.heap.size := by omega
  have hwF2 : w.heap.size < wF.heap.size := by omega
  have p0 : wH.cell? ⟨w.heap.size, 0, none⟩ = some (.int .u32 ad) := (World.cell?_of_block (w := wF) (hkH w.heap.size hwF2 hwX)).trans HPF.out.1
  have p1 : wH.cell? ⟨w.heap.size, 1, none⟩ = some (.int .i64 len) := (World.cell?_of_block (w := wF) (hkH w.heap.size hwF2 hwX)).trans HPF.out.2
  have HH2 : Hid (Calls _ _ _ _ _) := hang_any wX.heap.size fa fl 0 f0 f1 n ad len sd2 fl0 fl1 a0 a1 HSD2.out wH HNH.out (HZH.out 3) (HZH.out 4)
  rw [HS0.out, HS1.out] at HH2
  have hlHX : wX.heap.size < wH.heap.size := Nat.lt_of_lt_of_le hsF hbH.size
  clear hNH hkH hbH hzH
  go_wp2_with fail
  refine HH2.out.mono ?_
  rintro e wJ ⟨⟨vv, rfl⟩, hNJ, hkJ, hbJ, -⟩
  have hbGJ : Below wG.heap.size wG wJ := ⟨hbJ.os.trans hbGH.os, hbJ.tape.trans hbGH.tape, hbJ.output.trans hbGH.output, Nat.le_trans hbGH.size hbJ.size, fun k hk => (hkJ k (Nat.lt_of_lt_of_le hk hbGH.size) (by omega)).trans (hbGH.block k hk)⟩
  have HTJ : Hid (Tab base wJ bt (putsP ms nw) (spM made fr) fr.dropLast oG o2) := HTG.out.bel hbGJ
  have hsp : 0 ≤ spM made fr ∧ spM made fr + 1 < 4294967296 := by unfold spM; split <;> omega
  obtain ⟨ws, hws⟩ : ∃ x, nodeWs n2 fa fl 0 s0 s1 ++ [(lk, n2)] = x := ⟨_, rfl⟩
  have HLD : Hid (Calls _ _ _ _ _) := lead_any base bt (putsP ms nw) (spM made fr) fr.dropLast oG o2 hsp.1 hsp.2 (putsP_len hms HNWB.out) lk hlk fa fl 0 s0 s1 fa0 fa1 fl0 fl1 (by decide) (by decide) s00.1 s00.2 s10.1 s10.2 n2 HN2.out wJ HTJ.out
  rw [hws] at HLD
  have hwsl : ws.length = 5 := by rw [← hws]; rfl
  have HWS : Hid (nodeWs n2 fa fl 0 s0 s1 ++ [(lk, n2)] = ws) := hws
  have HWSL : Hid (ws.length = 5) := hwsl
  obtain ⟨c0, c1, c2, c3, c4⟩ := hNJ
  clear hkJ hbJ hws hwsl p0 p1
  go_wp2_with fail
  refine HLD.out.mono ?_
  rintro e w5 ⟨v, o5, rfl, ht5, hk5, ho5⟩
  have HT5 : Hid (Tab base w5 bt (putsP ms (nw ++ ws)) (spM (spM made fr) fr.dropLast) fr.dropLast.dropLast o5 o2) := by show Tab _ _ _ _ _ _ _ _; rw [putsP_app]; exact ht5
  have HK5 : Hid (KT bt w o1 o2 w5 o5 o2) := HKG.out.trans ((KT.bel hbGJ).trans hk5)
  have HO5 : Hid (Own wC.heap.size w5 bt o5 o2 (.slice (some ⟨g, 0, none⟩) 4 4) nw) := (HOG.out.kt (KT.bel hbGJ)).kt hk5
  have HV5 : Hid (Own wJ.heap.size w5 bt o5 o2 v ws) := ho5
  have hJ5 : wJ.heap.size ≤ w5.heap.size := hk5.size
  have hGJ : wG.heap.size ≤ wJ.heap.size := hbGJ.size
  have hC5 : wC.heap.size ≤ w5.heap.size := by omega
  have hb5 : bt < w5.heap.size := by have := hbc.size; omega
  clear ht5 hk5 ho5 c0 c1 c2 c3 c4
  go_wp2_with (at_builtin; refine app_ws rfl _ _ rfl wC.heap.size wJ.heap.size bt o5 o2 (.slice (some ⟨g, 0, none⟩) 4 4) v nw ws w5 rfl HO5.out rfl HV5.out (by rw [HWSL.out]; decide) (by rw [HWSL.out, HNWL.out]; decide) hC5 ⟨fun g e => (HT5.out.in1 g e).2, fun g e => (HT5.out.in2 g e).2⟩ hb5 ?_)
  intro v' w6 ho6 hg6
  have hgge : wC.heap.size ≤ g := (HO5.out.row.lt g rfl).1
  have HDID : Hid (Did base bt o1 o2 w (nw ++ ws) 0 (putsP ms (nw ++ ws)) (spM (spM made fr) fr.dropLast) fr.dropLast.dropLast (.returned (.tuple #[v', .int .i64 0])) w6) := ⟨v', o5, o2, rfl, HT5.out.app (g := g) hg6.out (HO5.out.n1 g rfl).1 (HO5.out.n1 g rfl).2 (by have := hbc.size; omega), HK5.out.app (g := g) hg6.out (Nat.le_trans hbc.size hgge), ⟨row_low ho6.out.row hbc.size, ho6.out.n1, hltw, ho6.out.u32⟩⟩
  clear ho6 hg6
  go_wp2_with fail
  go_ret2
  rw [HNW.out, HWS.out]
  exact HDID.out

end Go.Proofs.Ytjhdjbhpofhiaab.Fb
