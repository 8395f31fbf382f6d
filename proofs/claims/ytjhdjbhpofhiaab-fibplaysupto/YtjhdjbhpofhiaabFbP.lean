/- prune: what it answers and leaves. -/
import Derived.Test.YtjhdjbhpofhiaabFbO
namespace Go.Proofs.Ytjhdjbhpofhiaab.Fb
open Go.ChangeShapes Go.WideShapes Go.ChangeAt Go.RowKit Go.Joins Go.Proofs.Ytjhdjbhpofhiaab.PM Go.Proofs.Ytjhdjbhpofhiaab.Ask
set_option linter.unusedVariables false

/-- a change that answers its writes alone -/
def Did1 (base bt : Nat) (o1 o2 : Option Nat) (w : World) (ws : List (Nat × Int)) (ms : List Int) (made : Int) (fr : List Int) (e : Ending) (w' : World) : Prop :=
  ∃ v o1' o2', e = .returned v ∧ Tab base w' bt ms made fr o1' o2' ∧ KT bt w o1 o2 w' o1' o2' ∧ Own w.heap.size w' bt o1' o2' v ws

set_option maxRecDepth 100000 in
set_option maxHeartbeats 2000000 in
theorem prune_keep (base bt : Nat) (ms : List Int) (made : Int) (fr : List Int) (o1 o2 : Option Nat) (hms : ms.length ≤ 17179869184) (lk ab : Nat) (hlk : lk < 17179869184) (hab : ab < 17179869184) (ad len : Int) (a0 : 0 ≤ ad) (a1 : ad < 4294967296) (th hd nd al iw u0 u1 : Int) (hth : wd ms ab = th) (hhd : wd ms (th * 4) = hd) (hnd : wd ms (th * 4 + 1) = nd) (hu0 : wd ms (th * 4 + 2) = u0) (hu1 : wd ms (th * 4 + 3) = u1) (hal : hd / 65536 = al) (hiw : hd % 65536 = iw) (hw : iw ≠ 0) (w : World) (h : Tab base w bt ms made fr o1 o2) :
    Calls Try.prog 65 #[.pointer (some ⟨bt, 0, none⟩), .agg #[.int .i64 (lk : Int), .int .i64 (ab : Int)], .agg #[.int .u32 ad, .int .i64 len]] w fun e w' => Did1 base bt o1 o2 w [(lk, 0)] (putsP ms [(lk, 0)]) made fr e w' := by
  have H : Hid (Tab base w bt ms made fr o1 o2) := h
  have HTH : Hid (wd ms ab = th) := hth
  have hthI : In32 th := hth ▸ wd_in h.mem.u32 _
  have th0 := hthI.1
  have th1 := hthI.2
  have hdI : In32 hd := hhd ▸ wd_in h.mem.u32 _
  have hd0 := hdI.1
  have hd1 := hdI.2
  have ndI : In32 nd := hnd ▸ wd_in h.mem.u32 _
  have u0I : In32 u0 := hu0 ▸ wd_in h.mem.u32 _
  have u1I : In32 u1 := hu1 ▸ wd_in h.mem.u32 _
  have HNODE : Hid (∀ (va : Option Addr) (cap L : Nat) (hL : ms.length = L) (W : World), Wds W va ms → Calls Try.prog 63 #[.slice va L cap, .int .u32 th] W fun e w' => e = .returned (.agg #[.int .u32 nd, .int .i64 al, .int .i64 iw, .int .u32 u0, .int .u32 u1]) ∧ Below W.heap.size W w') := by
    intro va cap L hL W hW
    have := node_any va cap ms L hL th th0 th1 hd nd u0 u1 hhd hnd hu0 hu1 W hW
    unfold nodeV at this; rw [hal, hiw] at this; exact this
  have al0 : 0 ≤ al := by omega
  have iw0 : 0 ≤ iw := by omega
  have iw1 : iw ≤ 65535 := by omega
  have hltw : bt < w.heap.size := Nat.lt_of_lt_of_le H.out.lt H.out.le
  obtain ⟨va, cap, hc, hwd⟩ := H.out.wds
  obtain ⟨L, hL⟩ : ∃ L, ms.length = L := ⟨_, rfl⟩
  rw [hL] at hc
  have HL : Hid (ms.length = L) := hL
  have HWD : Hid (Wds w va ms) := hwd
  clear h hth hthI hdI ndI hhd hnd hu0 hu1 hal hiw hL hwd
  go_enter Try.func65, Try.ntmps65
  go_wp2_with fail
  obtain ⟨wT, hwT⟩ : ∃ wT, (w.alloc (Obj.cells #[.int .i64 (lk : Int), .int .i64 (ab : Int)] 116)).alloc (Obj.cells #[.int .u32 ad, .int .i64 len] 33) = wT := ⟨_, rfl⟩
  have hbT : Below w.heap.size w wT := by rw [← hwT]; exact ((Below.refl _ w).alloc (Nat.le_refl _) _).alloc (by simp) _
  have hsT : w.heap.size + 1 < wT.heap.size := by rw [← hwT]; simp
  have k0 : wT.cell? ⟨w.heap.size, 0, none⟩ = some (.int .i64 (lk : Int)) := by rw [← hwT]; simp
  have k1 : wT.cell? ⟨w.heap.size, 1, none⟩ = some (.int .i64 (ab : Int)) := by rw [← hwT]; simp
  have r0 : wT.cell? ⟨w.heap.size + 1, 0, none⟩ = some (.int .u32 ad) := by rw [← hwT]; simp
  have r1 : wT.cell? ⟨w.heap.size + 1, 1, none⟩ = some (.int .i64 len) := by rw [← hwT]; simp
  have cT := cell_bel hc hbT
  have hbd : Below wT.heap.size wT wT.drew := ⟨rfl, rfl, rfl, Nat.le_refl _, fun _ _ => rfl⟩
  have hbtd : Below w.heap.size w wT.drew := hbT.trans (hbd.mono hbT.size)
  have HWORD : Hid (Calls _ _ _ _ _) := word_any va cap ms L HL.out (ab : Int) (by omega) th HTH.out wT.drew (HWD.out.bel hbtd)
  rw [hwT]
  clear hwT hc
  go_still_tail 6, (by kernel_rfl)
  go_wp2_with (go_at_call 62; refine HWORD.out.mono ?_; rintro e w5 ⟨rfl, rfl⟩)
  refine (HNODE.out va cap L HL.out wT.drew (HWD.out.bel hbtd)).mono ?_
  rintro e wM ⟨rfl, hbM⟩
  have hbM' : Below wT.heap.size wT wM := hbd.trans hbM
  have t0 := cell_bel r0 hbM'
  have t1 := cell_bel r1 hbM'
  have j0 := cell_bel k0 hbM'
  have j1 := cell_bel k1 hbM'
  have hbm : Below w.heap.size w wM := hbT.trans (hbM'.mono hbT.size)
  have hsM : w.heap.size + 1 < wM.heap.size := Nat.lt_of_lt_of_le hsT hbM'.size
  obtain ⟨wI, hwI⟩ : ∃ wI, wM.alloc (Obj.cells #[.int .u32 nd, .int .i64 al, .int .i64 iw, .int .u32 u0, .int .u32 u1] 120) = wI := ⟨_, rfl⟩
  have hbI : Below wM.heap.size wM wI := by rw [← hwI]; exact (Below.refl _ wM).alloc (Nat.le_refl _) _
  have hsI : wM.heap.size < wI.heap.size := by rw [← hwI]; simp
  have hI : NBox wM.heap.size nd al iw u0 u1 wI := by rw [← hwI]; constructor <;> simp
  have HISI : Hid (NBox wM.heap.size nd al iw u0 u1 wI) := hI
  have y0 := cell_bel t0 hbI
  have y1 := cell_bel t1 hbI
  have x0 := cell_bel j0 hbI
  have x1 := cell_bel j1 hbI
  have hbi : Below w.heap.size w wI := hbm.trans (hbI.mono hbm.size)
  have HTI : Hid (Tab base wI bt ms made fr o1 o2) := H.out.bel hbi
  clear r0 r1 t0 t1 k0 k1 j0 j1 cT hbM
  obtain ⟨i0, i1, i2, i3, i4⟩ := hI
  have hwb : (iw == 0) = false := by simp [hw]
  have hwc : (iw != 0) = true := by simp [hw]
  have HCA : Hid (∀ (k : Nat) (x : Int), 0 ≤ x → x < 4294967296 → k < 17179869184 → Calls Try.prog 66 #[.pointer (some ⟨bt, 0, none⟩), .slice (some ⟨wI.heap.size, 0, none⟩) 1 1] (wI.alloc (Obj.cells #[.int .i64 (k : Int), .int .u32 x] 64)) fun e w' => e = .returned (.slice (some ⟨wI.heap.size, 0, none⟩) 1 1) ∧ Did1 base bt o1 o2 w [(k, x)] (putsP ms [(k, x)]) made fr (.returned (.slice (some ⟨wI.heap.size, 0, none⟩) 1 1)) w') := by
    intro k x x0 x1 hk
    have hO := own_one wI bt o1 o2 k x x0 x1 (by have := hltw; have := hbi.size; omega) (fun g e => (HTI.out.in1 g e).2) (fun g e => (HTI.out.in2 g e).2)
    have hb3 : Below wI.heap.size wI (wI.alloc (Obj.cells #[.int .i64 (k : Int), .int .u32 x] 64)) := (Below.refl _ _).alloc (Nat.le_refl _) _
    refine (carry_tab base bt ms made fr o1 o2 wI.heap.size (.slice (some ⟨wI.heap.size, 0, none⟩) 1 1) [(k, x)] 17179869184 (by omega) hms (by intro y hy; simp at hy; subst hy; show k + 1 ≤ _; omega) (by simp) _ (HTI.out.bel hb3) hO).mono ?_
    rintro e w' ⟨rfl, o1', ht, hk2⟩
    exact ⟨rfl, _, o1', o2, rfl, ht, (KT.bel hbi).trans (((KT.bel hb3).trans hk2)), ⟨row_low (hO.kt hk2).row (hbi.size), (hO.kt hk2).n1, hltw, (hO.kt hk2).u32⟩⟩
  go_wp2_with fail
  refine (HCA.out lk 0 (by decide) (by decide) hlk).mono ?_
  rintro e w7 ⟨rfl, hdid⟩
  have HDID : Hid (Did1 _ _ _ _ _ _ _ _ _ _ _) := hdid
  clear hdid
  go_wp2_with fail
  go_ret
  exact HDID.out

set_option maxRecDepth 100000 in
set_option maxHeartbeats 2000000 in
theorem prune_go0 (base bt : Nat) (ms : List Int) (made : Int) (fr : List Int) (o1 o2 : Option Nat) (hms : ms.length ≤ 17179869184) (hfl : (fr.length + 1) * 4 ≤ 140737488355328) (lk ab : Nat) (hlk : lk < 17179869184) (hab : ab < 17179869184) (ad len : Int) (a0 : 0 ≤ ad) (a1 : ad < 4294967296) (th hd nd al iw u0 u1 : Int) (hth : wd ms ab = th) (hhd : wd ms (th * 4) = hd) (hnd : wd ms (th * 4 + 1) = nd) (hu0 : wd ms (th * 4 + 2) = u0) (hu1 : wd ms (th * 4 + 3) = u1) (hal : hd / 65536 = al) (hiw : hd % 65536 = iw) (hal2 : al ≤ 32) (hw : iw = 0) (hsd : sdI ad al = 0) (w : World) (h : Tab base w bt ms made fr o1 o2) :
    Calls Try.prog 65 #[.pointer (some ⟨bt, 0, none⟩), .agg #[.int .i64 (lk : Int), .int .i64 (ab : Int)], .agg #[.int .u32 ad, .int .i64 len]] w fun e w' => Did1 base bt o1 o2 w [(ab, u1)] (putsP ms [(ab, u1)]) made (fr ++ [th]) e w' := by
  have H : Hid (Tab base w bt ms made fr o1 o2) := h
  have HTH : Hid (wd ms ab = th) := hth
  have hthI : In32 th := hth ▸ wd_in h.mem.u32 _
  have th0 := hthI.1
  have th1 := hthI.2
  have hdI : In32 hd := hhd ▸ wd_in h.mem.u32 _
  have hd0 := hdI.1
  have hd1 := hdI.2
  have ndI : In32 nd := hnd ▸ wd_in h.mem.u32 _
  have u0I : In32 u0 := hu0 ▸ wd_in h.mem.u32 _
  have u1I : In32 u1 := hu1 ▸ wd_in h.mem.u32 _
  have HNODE : Hid (∀ (va : Option Addr) (cap L : Nat) (hL : ms.length = L) (W : World), Wds W va ms → Calls Try.prog 63 #[.slice va L cap, .int .u32 th] W fun e w' => e = .returned (.agg #[.int .u32 nd, .int .i64 al, .int .i64 iw, .int .u32 u0, .int .u32 u1]) ∧ Below W.heap.size W w') := by
    intro va cap L hL W hW
    have := node_any va cap ms L hL th th0 th1 hd nd u0 u1 hhd hnd hu0 hu1 W hW
    unfold nodeV at this; rw [hal, hiw] at this; exact this
  have al0 : 0 ≤ al := by omega
  have iw0 : 0 ≤ iw := by omega
  have iw1 : iw ≤ 65535 := by omega
  have hltw : bt < w.heap.size := Nat.lt_of_lt_of_le H.out.lt H.out.le
  obtain ⟨va, cap, hc, hwd⟩ := H.out.wds
  obtain ⟨L, hL⟩ : ∃ L, ms.length = L := ⟨_, rfl⟩
  rw [hL] at hc
  have HL : Hid (ms.length = L) := hL
  have HWD : Hid (Wds w va ms) := hwd
  clear h hth hthI hdI ndI hhd hnd hu0 hu1 hal hiw hL hwd
  go_enter Try.func65, Try.ntmps65
  go_wp2_with fail
  obtain ⟨wT, hwT⟩ : ∃ wT, (w.alloc (Obj.cells #[.int .i64 (lk : Int), .int .i64 (ab : Int)] 116)).alloc (Obj.cells #[.int .u32 ad, .int .i64 len] 33) = wT := ⟨_, rfl⟩
  have hbT : Below w.heap.size w wT := by rw [← hwT]; exact ((Below.refl _ w).alloc (Nat.le_refl _) _).alloc (by simp) _
  have hsT : w.heap.size + 1 < wT.heap.size := by rw [← hwT]; simp
  have k0 : wT.cell? ⟨w.heap.size, 0, none⟩ = some (.int .i64 (lk : Int)) := by rw [← hwT]; simp
  have k1 : wT.cell? ⟨w.heap.size, 1, none⟩ = some (.int .i64 (ab : Int)) := by rw [← hwT]; simp
  have r0 : wT.cell? ⟨w.heap.size + 1, 0, none⟩ = some (.int .u32 ad) := by rw [← hwT]; simp
  have r1 : wT.cell? ⟨w.heap.size + 1, 1, none⟩ = some (.int .i64 len) := by rw [← hwT]; simp
  have cT := cell_bel hc hbT
  have hbd : Below wT.heap.size wT wT.drew := ⟨rfl, rfl, rfl, Nat.le_refl _, fun _ _ => rfl⟩
  have hbtd : Below w.heap.size w wT.drew := hbT.trans (hbd.mono hbT.size)
  have HWORD : Hid (Calls _ _ _ _ _) := word_any va cap ms L HL.out (ab : Int) (by omega) th HTH.out wT.drew (HWD.out.bel hbtd)
  rw [hwT]
  clear hwT hc
  go_still_tail 6, (by kernel_rfl)
  go_wp2_with (go_at_call 62; refine HWORD.out.mono ?_; rintro e w5 ⟨rfl, rfl⟩)
  refine (HNODE.out va cap L HL.out wT.drew (HWD.out.bel hbtd)).mono ?_
  rintro e wM ⟨rfl, hbM⟩
  have hbM' : Below wT.heap.size wT wM := hbd.trans hbM
  have t0 := cell_bel r0 hbM'
  have t1 := cell_bel r1 hbM'
  have j0 := cell_bel k0 hbM'
  have j1 := cell_bel k1 hbM'
  have hbm : Below w.heap.size w wM := hbT.trans (hbM'.mono hbT.size)
  have hsM : w.heap.size + 1 < wM.heap.size := Nat.lt_of_lt_of_le hsT hbM'.size
  obtain ⟨wI, hwI⟩ : ∃ wI, wM.alloc (Obj.cells #[.int .u32 nd, .int .i64 al, .int .i64 iw, .int .u32 u0, .int .u32 u1] 120) = wI := ⟨_, rfl⟩
  have hbI : Below wM.heap.size wM wI := by rw [← hwI]; exact (Below.refl _ wM).alloc (Nat.le_refl _) _
  have hsI : wM.heap.size < wI.heap.size := by rw [← hwI]; simp
  have hI : NBox wM.heap.size nd al iw u0 u1 wI := by rw [← hwI]; constructor <;> simp
  have HISI : Hid (NBox wM.heap.size nd al iw u0 u1 wI) := hI
  have y0 := cell_bel t0 hbI
  have y1 := cell_bel t1 hbI
  have x0 := cell_bel j0 hbI
  have x1 := cell_bel j1 hbI
  have hbi : Below w.heap.size w wI := hbm.trans (hbI.mono hbm.size)
  have HTI : Hid (Tab base wI bt ms made fr o1 o2) := H.out.bel hbi
  clear r0 r1 t0 t1 k0 k1 j0 j1 cT hbM
  obtain ⟨i0, i1, i2, i3, i4⟩ := hI
  have hwb : (iw == 0) = true := by simp [hw]
  have hwc : (iw != 0) = false := by simp [hw]
  have HW : Hid (iw = 0) := hw
  have HSD : Hid (sdI ad al = 0) := hsd
  clear hw hsd
  obtain ⟨fv, hfc, hfr, hfo⟩ := HTI.out.row
  obtain ⟨fa, fc, rfl⟩ : ∃ fa fc, fv = .slice fa fr.length fc := by
    rcases ownsRow_forms hfr with ⟨rfl, h0⟩ | ⟨g, cap, rfl⟩
    · exact ⟨none, 0, by rw [h0]⟩
    · exact ⟨_, _, rfl⟩
  have HFO : Hid (OwnU base wI (.slice fa fr.length fc) fr) := ⟨hfr, HTI.out.u32⟩
  have HFB : Hid (Value.ownBlock (.slice fa fr.length fc) = o2) := hfo
  have hff := HTI.out.f2
  have hlI : base ≤ wI.heap.size := HTI.out.le
  clear hfr hfo
  go_wp2_with (at_builtin; refine app_u rfl _ _ rfl base (.slice fa fr.length fc) fr th ⟨th0, th1⟩ wI rfl HFO.out 31 wI.heap.size rfl rfl hfl hlI ?_)
  intro v' wP ho' hk'
  rw [HFB.out] at hk'
  obtain ⟨fa', fc', e'⟩ := ho'.out.form
  obtain ⟨M, hM⟩ : ∃ M, (fr ++ [th]).length = M := ⟨_, rfl⟩
  rw [hM] at e'
  subst e'
  clear hM
  have hPU := HTI.out.push ho'.out hk'.out
  have hbt2 : some bt ≠ o2 := fun e => by have := (HTI.out.in2 bt e.symm).1; have := HTI.out.lt; omega
  have hltI : bt < wI.heap.size := Nat.lt_of_lt_of_le hltw hbi.size
  have hPb := hk'.out.block bt hltI hbt2
  have pc : wP.cell? ⟨bt, 2, none⟩ = some (.slice fa fr.length fc) := (World.cell?_of_block (w := wI) hPb).trans hfc
  have pf : wP.frozen? ⟨bt, 2, none⟩ = false := (World.frozen?_of_block (w := wI) hPb).trans hff
  have hne1 : ∀ b, w.heap.size ≤ b → some b ≠ o1 := fun b hb e => by have := (H.out.in1 _ e.symm).2; omega
  have hne2 : ∀ b, w.heap.size ≤ b → some b ≠ o2 := fun b hb e => by have := (H.out.in2 _ e.symm).2; omega
  obtain ⟨wQ, hwQ⟩ : ∃ wQ, wP.setCell ⟨bt, 2, none⟩ (.slice fa' M fc') = wQ := ⟨_, rfl⟩
  rw [hwQ] at hPU
  obtain ⟨o2', ho2'⟩ : ∃ x, Value.ownBlock (.slice fa' M fc') = x := ⟨_, rfl⟩
  rw [ho2'] at hPU
  have HTQ : Hid (Tab base wQ bt ms made (fr ++ [th]) o1 o2') := hPU.1
  have HKQ : Hid (KT bt wI o1 o2 wQ o1 o2') := hPU.2
  have hsIQ : wI.heap.size ≤ wQ.heap.size := HKQ.out.size
  have HIQ : Hid (NBox wM.heap.size nd al iw u0 u1 wQ) := HISI.out.kq HKQ.out (by omega) (hne1 _ (by omega)) (hne2 _ (by omega))
  have z0 : wQ.cell? ⟨w.heap.size, 0, none⟩ = some (.int .i64 (lk : Int)) := (HKQ.out.cell (by omega) (by omega) (hne1 _ (by omega)) (hne2 _ (by omega))).trans x0
  have z1 : wQ.cell? ⟨w.heap.size, 1, none⟩ = some (.int .i64 (ab : Int)) := (HKQ.out.cell (by omega) (by omega) (hne1 _ (by omega)) (hne2 _ (by omega))).trans x1
  have g0 : wQ.cell? ⟨w.heap.size + 1, 0, none⟩ = some (.int .u32 ad) := (HKQ.out.cell (by omega) (by omega) (hne1 _ (by omega)) (hne2 _ (by omega))).trans y0
  have g1 : wQ.cell? ⟨w.heap.size + 1, 1, none⟩ = some (.int .i64 len) := (HKQ.out.cell (by omega) (by omega) (hne1 _ (by omega)) (hne2 _ (by omega))).trans y1
  clear ho' hk' hPU hfc hff hPb i0 i1 i2 i3 i4 x0 x1 y0 y1 hbt2 hne1 hne2 ho2'
  obtain ⟨i0, i1, i2, i3, i4⟩ := HIQ.out
  have HCA : Hid (∀ (k : Nat) (x : Int), 0 ≤ x → x < 4294967296 → k < 17179869184 → Calls Try.prog 66 #[.pointer (some ⟨bt, 0, none⟩), .slice (some ⟨wQ.heap.size, 0, none⟩) 1 1] (wQ.alloc (Obj.cells #[.int .i64 (k : Int), .int .u32 x] 64)) fun e w' => e = .returned (.slice (some ⟨wQ.heap.size, 0, none⟩) 1 1) ∧ Did1 base bt o1 o2 w [(k, x)] (putsP ms [(k, x)]) made (fr ++ [th]) (.returned (.slice (some ⟨wQ.heap.size, 0, none⟩) 1 1)) w') := by
    intro k x x0 x1 hk
    have hO := own_one wQ bt o1 o2' k x x0 x1 (by have := hltw; have := hbi.size; have := hsIQ; omega) (fun g e => (HTQ.out.in1 g e).2) (fun g e => (HTQ.out.in2 g e).2)
    have hb3 : Below wQ.heap.size wQ (wQ.alloc (Obj.cells #[.int .i64 (k : Int), .int .u32 x] 64)) := (Below.refl _ _).alloc (Nat.le_refl _) _
    refine (carry_tab base bt ms made (fr ++ [th]) o1 o2' wQ.heap.size (.slice (some ⟨wQ.heap.size, 0, none⟩) 1 1) [(k, x)] 17179869184 (by omega) hms (by intro y hy; simp at hy; subst hy; show k + 1 ≤ _; omega) (by simp) _ (HTQ.out.bel hb3) hO).mono ?_
    rintro e w' ⟨rfl, o1', ht, hk2⟩
    exact ⟨rfl, _, o1', o2', rfl, ht, (KT.bel hbi).trans (HKQ.out.trans ((KT.bel hb3).trans hk2)), ⟨row_low (hO.kt hk2).row (Nat.le_trans hbi.size hsIQ), (hO.kt hk2).n1, hltw, (hO.kt hk2).u32⟩⟩
  go_wp2_with fail
  refine (after_is ad al 0 HSD.out al0 hal2 a0 a1 _).mono ?_
  rintro e w6 ⟨rfl, rfl⟩
  go_wp2_with fail
  refine (HCA.out ab u1 u1I.1 u1I.2 hab).mono ?_
  rintro e w7 ⟨rfl, hdid⟩
  have HDID : Hid (Did1 _ _ _ _ _ _ _ _ _ _ _) := hdid
  clear hdid
  go_wp2_with fail
  go_ret
  exact HDID.out

set_option maxRecDepth 100000 in
set_option maxHeartbeats 2000000 in
theorem prune_go1 (base bt : Nat) (ms : List Int) (made : Int) (fr : List Int) (o1 o2 : Option Nat) (hms : ms.length ≤ 17179869184) (hfl : (fr.length + 1) * 4 ≤ 140737488355328) (lk ab : Nat) (hlk : lk < 17179869184) (hab : ab < 17179869184) (ad len : Int) (a0 : 0 ≤ ad) (a1 : ad < 4294967296) (th hd nd al iw u0 u1 : Int) (hth : wd ms ab = th) (hhd : wd ms (th * 4) = hd) (hnd : wd ms (th * 4 + 1) = nd) (hu0 : wd ms (th * 4 + 2) = u0) (hu1 : wd ms (th * 4 + 3) = u1) (hal : hd / 65536 = al) (hiw : hd % 65536 = iw) (hal2 : al ≤ 32) (hw : iw = 0) (hsd : sdI ad al = 1) (w : World) (h : Tab base w bt ms made fr o1 o2) :
    Calls Try.prog 65 #[.pointer (some ⟨bt, 0, none⟩), .agg #[.int .i64 (lk : Int), .int .i64 (ab : Int)], .agg #[.int .u32 ad, .int .i64 len]] w fun e w' => Did1 base bt o1 o2 w [(ab, u0)] (putsP ms [(ab, u0)]) made (fr ++ [th]) e w' := by
  have H : Hid (Tab base w bt ms made fr o1 o2) := h
  have HTH : Hid (wd ms ab = th) := hth
  have hthI : In32 th := hth ▸ wd_in h.mem.u32 _
  have th0 := hthI.1
  have th1 := hthI.2
  have hdI : In32 hd := hhd ▸ wd_in h.mem.u32 _
  have hd0 := hdI.1
  have hd1 := hdI.2
  have ndI : In32 nd := hnd ▸ wd_in h.mem.u32 _
  have u0I : In32 u0 := hu0 ▸ wd_in h.mem.u32 _
  have u1I : In32 u1 := hu1 ▸ wd_in h.mem.u32 _
  have HNODE : Hid (∀ (va : Option Addr) (cap L : Nat) (hL : ms.length = L) (W : World), Wds W va ms → Calls Try.prog 63 #[.slice va L cap, .int .u32 th] W fun e w' => e = .returned (.agg #[.int .u32 nd, .int .i64 al, .int .i64 iw, .int .u32 u0, .int .u32 u1]) ∧ Below W.heap.size W w') := by
    intro va cap L hL W hW
    have := node_any va cap ms L hL th th0 th1 hd nd u0 u1 hhd hnd hu0 hu1 W hW
    unfold nodeV at this; rw [hal, hiw] at this; exact this
  have al0 : 0 ≤ al := by omega
  have iw0 : 0 ≤ iw := by omega
  have iw1 : iw ≤ 65535 := by omega
  have hltw : bt < w.heap.size := Nat.lt_of_lt_of_le H.out.lt H.out.le
  obtain ⟨va, cap, hc, hwd⟩ := H.out.wds
  obtain ⟨L, hL⟩ : ∃ L, ms.length = L := ⟨_, rfl⟩
  rw [hL] at hc
  have HL : Hid (ms.length = L) := hL
  have HWD : Hid (Wds w va ms) := hwd
  clear h hth hthI hdI ndI hhd hnd hu0 hu1 hal hiw hL hwd
  go_enter Try.func65, Try.ntmps65
  go_wp2_with fail
  obtain ⟨wT, hwT⟩ : ∃ wT, (w.alloc (Obj.cells #[.int .i64 (lk : Int), .int .i64 (ab : Int)] 116)).alloc (Obj.cells #[.int .u32 ad, .int .i64 len] 33) = wT := ⟨_, rfl⟩
  have hbT : Below w.heap.size w wT := by rw [← hwT]; exact ((Below.refl _ w).alloc (Nat.le_refl _) _).alloc (by simp) _
  have hsT : w.heap.size + 1 < wT.heap.size := by rw [← hwT]; simp
  have k0 : wT.cell? ⟨w.heap.size, 0, none⟩ = some (.int .i64 (lk : Int)) := by rw [← hwT]; simp
  have k1 : wT.cell? ⟨w.heap.size, 1, none⟩ = some (.int .i64 (ab : Int)) := by rw [← hwT]; simp
  have r0 : wT.cell? ⟨w.heap.size + 1, 0, none⟩ = some (.int .u32 ad) := by rw [← hwT]; simp
  have r1 : wT.cell? ⟨w.heap.size + 1, 1, none⟩ = some (.int .i64 len) := by rw [← hwT]; simp
  have cT := cell_bel hc hbT
  have hbd : Below wT.heap.size wT wT.drew := ⟨rfl, rfl, rfl, Nat.le_refl _, fun _ _ => rfl⟩
  have hbtd : Below w.heap.size w wT.drew := hbT.trans (hbd.mono hbT.size)
  have HWORD : Hid (Calls _ _ _ _ _) := word_any va cap ms L HL.out (ab : Int) (by omega) th HTH.out wT.drew (HWD.out.bel hbtd)
  rw [hwT]
  clear hwT hc
  go_still_tail 6, (by kernel_rfl)
  go_wp2_with (go_at_call 62; refine HWORD.out.mono ?_; rintro e w5 ⟨rfl, rfl⟩)
  refine (HNODE.out va cap L HL.out wT.drew (HWD.out.bel hbtd)).mono ?_
  rintro e wM ⟨rfl, hbM⟩
  have hbM' : Below wT.heap.size wT wM := hbd.trans hbM
  have t0 := cell_bel r0 hbM'
  have t1 := cell_bel r1 hbM'
  have j0 := cell_bel k0 hbM'
  have j1 := cell_bel k1 hbM'
  have hbm : Below w.heap.size w wM := hbT.trans (hbM'.mono hbT.size)
  have hsM : w.heap.size + 1 < wM.heap.size := Nat.lt_of_lt_of_le hsT hbM'.size
  obtain ⟨wI, hwI⟩ : ∃ wI, wM.alloc (Obj.cells #[.int .u32 nd, .int .i64 al, .int .i64 iw, .int .u32 u0, .int .u32 u1] 120) = wI := ⟨_, rfl⟩
  have hbI : Below wM.heap.size wM wI := by rw [← hwI]; exact (Below.refl _ wM).alloc (Nat.le_refl _) _
  have hsI : wM.heap.size < wI.heap.size := by rw [← hwI]; simp
  have hI : NBox wM.heap.size nd al iw u0 u1 wI := by rw [← hwI]; constructor <;> simp
  have HISI : Hid (NBox wM.heap.size nd al iw u0 u1 wI) := hI
  have y0 := cell_bel t0 hbI
  have y1 := cell_bel t1 hbI
  have x0 := cell_bel j0 hbI
  have x1 := cell_bel j1 hbI
  have hbi : Below w.heap.size w wI := hbm.trans (hbI.mono hbm.size)
  have HTI : Hid (Tab base wI bt ms made fr o1 o2) := H.out.bel hbi
  clear r0 r1 t0 t1 k0 k1 j0 j1 cT hbM
  obtain ⟨i0, i1, i2, i3, i4⟩ := hI
  have hwb : (iw == 0) = true := by simp [hw]
  have hwc : (iw != 0) = false := by simp [hw]
  have HW : Hid (iw = 0) := hw
  have HSD : Hid (sdI ad al = 1) := hsd
  clear hw hsd
  obtain ⟨fv, hfc, hfr, hfo⟩ := HTI.out.row
  obtain ⟨fa, fc, rfl⟩ : ∃ fa fc, fv = .slice fa fr.length fc := by
    rcases ownsRow_forms hfr with ⟨rfl, h0⟩ | ⟨g, cap, rfl⟩
    · exact ⟨none, 0, by rw [h0]⟩
    · exact ⟨_, _, rfl⟩
  have HFO : Hid (OwnU base wI (.slice fa fr.length fc) fr) := ⟨hfr, HTI.out.u32⟩
  have HFB : Hid (Value.ownBlock (.slice fa fr.length fc) = o2) := hfo
  have hff := HTI.out.f2
  have hlI : base ≤ wI.heap.size := HTI.out.le
  clear hfr hfo
  go_wp2_with (at_builtin; refine app_u rfl _ _ rfl base (.slice fa fr.length fc) fr th ⟨th0, th1⟩ wI rfl HFO.out 31 wI.heap.size rfl rfl hfl hlI ?_)
  intro v' wP ho' hk'
  rw [HFB.out] at hk'
  obtain ⟨fa', fc', e'⟩ := ho'.out.form
  obtain ⟨M, hM⟩ : ∃ M, (fr ++ [th]).length = M := ⟨_, rfl⟩
  rw [hM] at e'
  subst e'
  clear hM
  have hPU := HTI.out.push ho'.out hk'.out
  have hbt2 : some bt ≠ o2 := fun e => by have := (HTI.out.in2 bt e.symm).1; have := HTI.out.lt; omega
  have hltI : bt < wI.heap.size := Nat.lt_of_lt_of_le hltw hbi.size
  have hPb := hk'.out.block bt hltI hbt2
  have pc : wP.cell? ⟨bt, 2, none⟩ = some (.slice fa fr.length fc) := (World.cell?_of_block (w := wI) hPb).trans hfc
  have pf : wP.frozen? ⟨bt, 2, none⟩ = false := (World.frozen?_of_block (w := wI) hPb).trans hff
  have hne1 : ∀ b, w.heap.size ≤ b → some b ≠ o1 := fun b hb e => by have := (H.out.in1 _ e.symm).2; omega
  have hne2 : ∀ b, w.heap.size ≤ b → some b ≠ o2 := fun b hb e => by have := (H.out.in2 _ e.symm).2; omega
  obtain ⟨wQ, hwQ⟩ : ∃ wQ, wP.setCell ⟨bt, 2, none⟩ (.slice fa' M fc') = wQ := ⟨_, rfl⟩
  rw [hwQ] at hPU
  obtain ⟨o2', ho2'⟩ : ∃ x, Value.ownBlock (.slice fa' M fc') = x := ⟨_, rfl⟩
  rw [ho2'] at hPU
  have HTQ : Hid (Tab base wQ bt ms made (fr ++ [th]) o1 o2') := hPU.1
  have HKQ : Hid (KT bt wI o1 o2 wQ o1 o2') := hPU.2
  have hsIQ : wI.heap.size ≤ wQ.heap.size := HKQ.out.size
  have HIQ : Hid (NBox wM.heap.size nd al iw u0 u1 wQ) := HISI.out.kq HKQ.out (by omega) (hne1 _ (by omega)) (hne2 _ (by omega))
  have z0 : wQ.cell? ⟨w.heap.size, 0, none⟩ = some (.int .i64 (lk : Int)) := (HKQ.out.cell (by omega) (by omega) (hne1 _ (by omega)) (hne2 _ (by omega))).trans x0
  have z1 : wQ.cell? ⟨w.heap.size, 1, none⟩ = some (.int .i64 (ab : Int)) := (HKQ.out.cell (by omega) (by omega) (hne1 _ (by omega)) (hne2 _ (by omega))).trans x1
  have g0 : wQ.cell? ⟨w.heap.size + 1, 0, none⟩ = some (.int .u32 ad) := (HKQ.out.cell (by omega) (by omega) (hne1 _ (by omega)) (hne2 _ (by omega))).trans y0
  have g1 : wQ.cell? ⟨w.heap.size + 1, 1, none⟩ = some (.int .i64 len) := (HKQ.out.cell (by omega) (by omega) (hne1 _ (by omega)) (hne2 _ (by omega))).trans y1
  clear ho' hk' hPU hfc hff hPb i0 i1 i2 i3 i4 x0 x1 y0 y1 hbt2 hne1 hne2 ho2'
  obtain ⟨i0, i1, i2, i3, i4⟩ := HIQ.out
  have HCA : Hid (∀ (k : Nat) (x : Int), 0 ≤ x → x < 4294967296 → k < 17179869184 → Calls Try.prog 66 #[.pointer (some ⟨bt, 0, none⟩), .slice (some ⟨wQ.heap.size, 0, none⟩) 1 1] (wQ.alloc (Obj.cells #[.int .i64 (k : Int), .int .u32 x] 64)) fun e w' => e = .returned (.slice (some ⟨wQ.heap.size, 0, none⟩) 1 1) ∧ Did1 base bt o1 o2 w [(k, x)] (putsP ms [(k, x)]) made (fr ++ [th]) (.returned (.slice (some ⟨wQ.heap.size, 0, none⟩) 1 1)) w') := by
    intro k x x0 x1 hk
    have hO := own_one wQ bt o1 o2' k x x0 x1 (by have := hltw; have := hbi.size; have := hsIQ; omega) (fun g e => (HTQ.out.in1 g e).2) (fun g e => (HTQ.out.in2 g e).2)
    have hb3 : Below wQ.heap.size wQ (wQ.alloc (Obj.cells #[.int .i64 (k : Int), .int .u32 x] 64)) := (Below.refl _ _).alloc (Nat.le_refl _) _
    refine (carry_tab base bt ms made (fr ++ [th]) o1 o2' wQ.heap.size (.slice (some ⟨wQ.heap.size, 0, none⟩) 1 1) [(k, x)] 17179869184 (by omega) hms (by intro y hy; simp at hy; subst hy; show k + 1 ≤ _; omega) (by simp) _ (HTQ.out.bel hb3) hO).mono ?_
    rintro e w' ⟨rfl, o1', ht, hk2⟩
    exact ⟨rfl, _, o1', o2', rfl, ht, (KT.bel hbi).trans (HKQ.out.trans ((KT.bel hb3).trans hk2)), ⟨row_low (hO.kt hk2).row (Nat.le_trans hbi.size hsIQ), (hO.kt hk2).n1, hltw, (hO.kt hk2).u32⟩⟩
  go_wp2_with fail
  refine (after_is ad al 1 HSD.out al0 hal2 a0 a1 _).mono ?_
  rintro e w6 ⟨rfl, rfl⟩
  go_wp2_with fail
  refine (HCA.out ab u0 u0I.1 u0I.2 hab).mono ?_
  rintro e w7 ⟨rfl, hdid⟩
  have HDID : Hid (Did1 _ _ _ _ _ _ _ _ _ _ _) := hdid
  clear hdid
  go_wp2_with fail
  go_ret
  exact HDID.out

set_option maxRecDepth 100000 in
set_option maxHeartbeats 2000000 in
theorem drop_keep (base bt : Nat) (ms : List Int) (made : Int) (fr : List Int) (o1 o2 : Option Nat) (hms : ms.length ≤ 17179869184) (hfl : (fr.length + 1) * 4 ≤ 140737488355328) (ad len : Int) (a0 : 0 ≤ ad) (a1 : ad < 4294967296) (hv : vld ad len = true) (F lk ab : Nat) (hlk : lk < 17179869184) (hab : ab < 17179869184) (hR : skP ms ad len F 0 0 = some ((lk : Int), (ab : Int))) (th hd iw u0 u1 : Int) (hth : wd ms lk = th) (hz : th ≠ 0) (hhd : wd ms (th * 4) = hd) (hnd : wd ms (th * 4 + 1) = ad) (hu0 : wd ms (th * 4 + 2) = u0) (hu1 : wd ms (th * 4 + 3) = u1) (hal : hd / 65536 = len) (hiw : hd % 65536 = iw) (hw : iw ≠ 0) (hv0 : u0 = 0) (hu : u1 = 0) (hl : lk ≠ 0) (th2 hd2 nd2 al2 iw2 v0 v1 : Int) (hth2 : wd ms ab = th2) (hhd2 : wd ms (th2 * 4) = hd2) (hnd2 : wd ms (th2 * 4 + 1) = nd2) (hv0' : wd ms (th2 * 4 + 2) = v0) (hv1' : wd ms (th2 * 4 + 3) = v1) (hal2 : hd2 / 65536 = al2) (hiw2 : hd2 % 65536 = iw2) (hw2 : iw2 ≠ 0) (w : World) (h : Tab base w bt ms made fr o1 o2) :
    Calls Try.prog 46 #[.pointer (some ⟨bt, 0, none⟩), .agg #[.int .u32 ad, .int .i64 len]] w fun e w' => Did base bt o1 o2 w [(lk, 0)] 0 (putsP ms [(lk, 0)]) made (fr ++ [th]) e w' := by
  have HPR : Hid (∀ (W : World) (q1 q2 : Option Nat), Tab base W bt ms made (fr ++ [th]) q1 q2 → Calls _ _ _ W _) := fun W q1 q2 hW => prune_keep base bt ms made (fr ++ [th]) q1 q2 hms lk ab hlk hab ad len a0 a1 th2 hd2 nd2 al2 iw2 v0 v1 hth2 hhd2 hnd2 hv0' hv1' hal2 hiw2 hw2 W hW
  clear hth2 hhd2 hnd2 hv0' hv1' hal2 hiw2
  clear hw2
  have hwb : (iw == 0) = false := by simp [hw]
  have z0a : (u0 == 0) = true := by simp [hv0]
  have z0b : (u0 != 0) = false := by simp [hv0]
  have HU0 : Hid (u0 = 0) := hv0
  clear hv0
  have z1a : (u1 == 0) = true := by simp [hu]
  have z1b : (u1 != 0) = false := by simp [hu]
  have HU1 : Hid (u1 = 0) := hu
  clear hu
  have hl1 : ((lk : Int) == 0) = false := by simp; omega
  have hl2 : ((lk : Int) != 0) = true := by simp; omega
  have H : Hid (Tab base w bt ms made fr o1 o2) := h
  have HR : Hid (skP ms ad len F 0 0 = some ((lk : Int), (ab : Int))) := hR
  have HTH : Hid (wd ms lk = th) := hth
  have hthI : In32 th := hth ▸ wd_in h.mem.u32 _
  have th0 := hthI.1
  have th1 := hthI.2
  have hdI : In32 hd := hhd ▸ wd_in h.mem.u32 _
  have hd0 := hdI.1
  have hd1 := hdI.2
  have ndI : In32 ad := hnd ▸ wd_in h.mem.u32 _
  have nd0 := ndI.1
  have nd1 := ndI.2
  have u0I : In32 u0 := hu0 ▸ wd_in h.mem.u32 _
  have u1I : In32 u1 := hu1 ▸ wd_in h.mem.u32 _
  have HNODE : Hid (∀ (va : Option Addr) (cap L : Nat) (hL : ms.length = L) (W : World), Wds W va ms → Calls Try.prog 63 #[.slice va L cap, .int .u32 th] W fun e w' => e = .returned (.agg #[.int .u32 ad, .int .i64 len, .int .i64 iw, .int .u32 u0, .int .u32 u1]) ∧ Below W.heap.size W w') := by
    intro va cap L hL W hW
    have := node_any va cap ms L hL th th0 th1 hd ad u0 u1 hhd hnd hu0 hu1 W hW
    unfold nodeV at this; rw [hal, hiw] at this; exact this
  have al0 : 0 ≤ len := by omega
  have iw0 : 0 ≤ iw := by omega
  have iw1 : iw ≤ 65535 := by omega
  have hzn : ¬ th = 0 := hz
  have hthb : (th == 0) = false := by simp [hz]
  have HZ0 : Hid (th ≠ 0) := hz
  clear h hR hth hthI hdI ndI hhd hnd hu0 hu1 hal hiw hz
  have HV : Hid (vld ad len = true) := hv
  clear hv
  have hltw : bt < w.heap.size := Nat.lt_of_lt_of_le H.out.lt H.out.le
  go_enter Try.func46, Try.ntmps46
  go_wp2_with fail
  obtain ⟨wA, hwA⟩ : ∃ wA, w.alloc (Obj.cells #[.int .u32 ad, .int .i64 len] 33) = wA := ⟨_, rfl⟩
  have hbA : Below w.heap.size w wA := by rw [← hwA]; exact (Below.refl _ w).alloc (Nat.le_refl _) _
  have hsA : w.heap.size < wA.heap.size := by rw [← hwA]; simp
  have pA0 : wA.cell? ⟨w.heap.size, 0, none⟩ = some (.int .u32 ad) := by rw [← hwA]; simp
  have pA1 : wA.cell? ⟨w.heap.size, 1, none⟩ = some (.int .i64 len) := by rw [← hwA]; simp
  rw [hwA]
  clear hwA
  refine (valid_yes ad len HV.out a0 a1 _).mono ?_
  rintro e wV ⟨rfl, hbV⟩
  have p0 := cell_bel pA0 hbV
  have p1 := cell_bel pA1 hbV
  have hbw : Below w.heap.size w wV := hbA.trans (hbV.mono hbA.size)
  have hsV : w.heap.size < wV.heap.size := Nat.lt_of_lt_of_le hsA hbV.size
  clear pA0 pA1
  obtain ⟨va, cap, hc, hwd⟩ := H.out.wds
  obtain ⟨L, hL⟩ : ∃ L, ms.length = L := ⟨_, rfl⟩
  rw [hL] at hc
  have HL : Hid (ms.length = L) := hL
  clear hL
  have cV := cell_bel hc hbw
  have HWD : Hid (Wds w va ms) := hwd
  have hvl := (vld_iff ad len).1 HV.out
  have l0 := hvl.1
  have l1 := hvl.2.1
  clear hc hwd hvl
  have hfd : ∀ W, Sem.run Try.prog (Instr.field 116 (.agg #[.int .i64 (lk : Int), .int .i64 (ab : Int)]) 0) W = .ok (.int .i64 (lk : Int)) W := fun _ => by kernel_rfl
  go_wp2_with fail
  refine (seek_any bt va cap ms L HL.out ad len a0 a1 l0 l1 F (lk : Int) (ab : Int) HR.out wV (HWD.out.bel hbw) cV).mono ?_
  rintro e wS ⟨rfl, hbS⟩
  have q0 := cell_bel p0 hbS
  have q1 := cell_bel p1 hbS
  have cS := cell_bel cV hbS
  have hbs : Below w.heap.size w wS := hbw.trans (hbS.mono hbw.size)
  have hsS : w.heap.size < wS.heap.size := Nat.lt_of_lt_of_le hsV hbS.size
  clear p0 p1 cV
  have HWS : Hid (Wds wS va ms) := HWD.out.bel hbs
  go_wp2_with fail
  obtain ⟨wT, hwT⟩ : ∃ wT, wS.alloc (Obj.cells #[.int .i64 (lk : Int), .int .i64 (ab : Int)] 116) = wT := ⟨_, rfl⟩
  have hbT : Below wS.heap.size wS wT := by rw [← hwT]; exact (Below.refl _ wS).alloc (Nat.le_refl _) _
  have hsT : wS.heap.size < wT.heap.size := by rw [← hwT]; simp
  have k0 : wT.cell? ⟨wS.heap.size, 0, none⟩ = some (.int .i64 (lk : Int)) := by rw [← hwT]; simp
  have k1 : wT.cell? ⟨wS.heap.size, 1, none⟩ = some (.int .i64 (ab : Int)) := by rw [← hwT]; simp
  have r0 := cell_bel q0 hbT
  have r1 := cell_bel q1 hbT
  have cT := cell_bel cS hbT
  have hbt : Below w.heap.size w wT := hbs.trans (hbT.mono hbs.size)
  have hbd : Below wT.heap.size wT wT.drew := ⟨rfl, rfl, rfl, Nat.le_refl _, fun _ _ => rfl⟩
  have hbtd : Below w.heap.size w wT.drew := hbt.trans (hbd.mono hbt.size)
  have HWORD : Hid (Calls _ _ _ _ _) := word_any va cap ms L HL.out (lk : Int) (by omega) th HTH.out wT.drew (HWD.out.bel hbtd)
  rw [hwT]
  clear hwT q0 q1 cS
  go_still_tail 6, (by kernel_rfl)
  go_wp2_with (go_at_call 62; refine HWORD.out.mono ?_; rintro e w5 ⟨rfl, rfl⟩)
  refine (HNODE.out va cap L HL.out wT.drew (HWD.out.bel hbtd)).mono ?_
  rintro e wM ⟨rfl, hbM⟩
  have hbM' : Below wT.heap.size wT wM := hbd.trans hbM
  have t0 := cell_bel r0 hbM'
  have t1 := cell_bel r1 hbM'
  have j0 := cell_bel k0 hbM'
  have j1 := cell_bel k1 hbM'
  have hbm : Below w.heap.size w wM := hbt.trans (hbM'.mono hbt.size)
  have hsM : wS.heap.size < wM.heap.size := Nat.lt_of_lt_of_le hsT hbM'.size
  obtain ⟨wI, hwI⟩ : ∃ wI, wM.alloc (Obj.cells #[.int .u32 ad, .int .i64 len, .int .i64 iw, .int .u32 u0, .int .u32 u1] 120) = wI := ⟨_, rfl⟩
  have hbI : Below wM.heap.size wM wI := by rw [← hwI]; exact (Below.refl _ wM).alloc (Nat.le_refl _) _
  have hsI : wM.heap.size < wI.heap.size := by rw [← hwI]; simp
  have hI : NBox wM.heap.size ad len iw u0 u1 wI := by rw [← hwI]; constructor <;> simp
  have HISI : Hid (NBox wM.heap.size ad len iw u0 u1 wI) := hI
  have y0 := cell_bel t0 hbI
  have y1 := cell_bel t1 hbI
  have x0 := cell_bel j0 hbI
  have x1 := cell_bel j1 hbI
  have hbi : Below w.heap.size w wI := hbm.trans (hbI.mono hbm.size)
  have HTI : Hid (Tab base wI bt ms made fr o1 o2) := H.out.bel hbi
  clear r0 r1 t0 t1 k0 k1 j0 j1 cT hbM
  obtain ⟨i0, i1, i2, i3, i4⟩ := hI
  obtain ⟨fv, hfc, hfr, hfo⟩ := HTI.out.row
  obtain ⟨fa, fc, rfl⟩ : ∃ fa fc, fv = .slice fa fr.length fc := by
    rcases ownsRow_forms hfr with ⟨rfl, h0⟩ | ⟨g, cap, rfl⟩
    · exact ⟨none, 0, by rw [h0]⟩
    · exact ⟨_, _, rfl⟩
  have HFO : Hid (OwnU base wI (.slice fa fr.length fc) fr) := ⟨hfr, HTI.out.u32⟩
  have HFB : Hid (Value.ownBlock (.slice fa fr.length fc) = o2) := hfo
  have hff := HTI.out.f2
  have hlI : base ≤ wI.heap.size := HTI.out.le
  clear hfr hfo
  go_wp2_with (at_builtin; refine app_u rfl _ _ rfl base (.slice fa fr.length fc) fr th ⟨th0, th1⟩ wI rfl HFO.out 31 wI.heap.size rfl rfl hfl hlI ?_)
  intro v' wP ho' hk'
  rw [HFB.out] at hk'
  obtain ⟨fa', fc', e'⟩ := ho'.out.form
  obtain ⟨M, hM⟩ : ∃ M, (fr ++ [th]).length = M := ⟨_, rfl⟩
  rw [hM] at e'
  subst e'
  clear hM
  have hPU := HTI.out.push ho'.out hk'.out
  have hbt2 : some bt ≠ o2 := fun e => by have := (HTI.out.in2 bt e.symm).1; have := HTI.out.lt; omega
  have hltI : bt < wI.heap.size := Nat.lt_of_lt_of_le hltw hbi.size
  have hPb := hk'.out.block bt hltI hbt2
  have pc : wP.cell? ⟨bt, 2, none⟩ = some (.slice fa fr.length fc) := (World.cell?_of_block (w := wI) hPb).trans hfc
  have pf : wP.frozen? ⟨bt, 2, none⟩ = false := (World.frozen?_of_block (w := wI) hPb).trans hff
  have hne1 : ∀ b, w.heap.size ≤ b → some b ≠ o1 := fun b hb e => by have := (H.out.in1 _ e.symm).2; omega
  have hne2 : ∀ b, w.heap.size ≤ b → some b ≠ o2 := fun b hb e => by have := (H.out.in2 _ e.symm).2; omega
  obtain ⟨wQ, hwQ⟩ : ∃ wQ, wP.setCell ⟨bt, 2, none⟩ (.slice fa' M fc') = wQ := ⟨_, rfl⟩
  rw [hwQ] at hPU
  obtain ⟨o2', ho2'⟩ : ∃ x, Value.ownBlock (.slice fa' M fc') = x := ⟨_, rfl⟩
  rw [ho2'] at hPU
  have HTQ : Hid (Tab base wQ bt ms made (fr ++ [th]) o1 o2') := hPU.1
  have HKQ : Hid (KT bt wI o1 o2 wQ o1 o2') := hPU.2
  have hsIQ : wI.heap.size ≤ wQ.heap.size := HKQ.out.size
  have hkw : w.heap.size ≤ wS.heap.size := hbs.size
  have HIQ : Hid (NBox wM.heap.size ad len iw u0 u1 wQ) := HISI.out.kq HKQ.out (by omega) (hne1 _ (by omega)) (hne2 _ (by omega))
  have z0 : wQ.cell? ⟨wS.heap.size, 0, none⟩ = some (.int .i64 (lk : Int)) := (HKQ.out.cell (by omega) (by omega) (hne1 _ (by omega)) (hne2 _ (by omega))).trans x0
  have z1 : wQ.cell? ⟨wS.heap.size, 1, none⟩ = some (.int .i64 (ab : Int)) := (HKQ.out.cell (by omega) (by omega) (hne1 _ (by omega)) (hne2 _ (by omega))).trans x1
  have g0 : wQ.cell? ⟨w.heap.size, 0, none⟩ = some (.int .u32 ad) := (HKQ.out.cell (by omega) (by omega) (hne1 _ (by omega)) (hne2 _ (by omega))).trans y0
  have g1 : wQ.cell? ⟨w.heap.size, 1, none⟩ = some (.int .i64 len) := (HKQ.out.cell (by omega) (by omega) (hne1 _ (by omega)) (hne2 _ (by omega))).trans y1
  clear ho' hk' hPU hfc hff hPb i0 i1 i2 i3 i4 x0 x1 y0 y1 hbt2 hne1 hne2 ho2'
  obtain ⟨i0, i1, i2, i3, i4⟩ := HIQ.out
  have hor : bits .or .u32 u0 u1 = 0 := by rw [HU1.out, HU0.out]; decide
  have HPR := HPR.out wQ o1 o2' HTQ.out
  have HPR : Hid (Calls _ _ _ _ _) := HPR
  go_wp2_with fail
  refine HPR.out.mono ?_
  rintro e w7 ⟨v, o1', o3', rfl, ht7, hk7, ho7⟩
  have HDID : Hid (Did base bt o1 o2 w [(lk, 0)] 0 (putsP ms [(lk, 0)]) made (fr ++ [th]) (.returned (.tuple #[v, .int .i64 0])) w7) := ⟨v, o1', o3', rfl, ht7, (KT.bel hbi).trans (HKQ.out.trans hk7), ⟨row_low ho7.row (Nat.le_trans hbi.size hsIQ), ho7.n1, hltw, ho7.u32⟩⟩
  clear ht7 hk7 ho7
  go_wp2_with fail
  go_ret2
  exact HDID.out

set_option maxRecDepth 100000 in
set_option maxHeartbeats 2000000 in
theorem drop_go0 (base bt : Nat) (ms : List Int) (made : Int) (fr : List Int) (o1 o2 : Option Nat) (hms : ms.length ≤ 17179869184) (hfl : (fr.length + 1) * 4 ≤ 140737488355328) (ad len : Int) (a0 : 0 ≤ ad) (a1 : ad < 4294967296) (hv : vld ad len = true) (F lk ab : Nat) (hlk : lk < 17179869184) (hab : ab < 17179869184) (hR : skP ms ad len F 0 0 = some ((lk : Int), (ab : Int))) (th hd iw u0 u1 : Int) (hth : wd ms lk = th) (hz : th ≠ 0) (hhd : wd ms (th * 4) = hd) (hnd : wd ms (th * 4 + 1) = ad) (hu0 : wd ms (th * 4 + 2) = u0) (hu1 : wd ms (th * 4 + 3) = u1) (hal : hd / 65536 = len) (hiw : hd % 65536 = iw) (hw : iw ≠ 0) (hv0 : u0 = 0) (hu : u1 = 0) (hl : lk ≠ 0) (th2 hd2 nd2 al2 iw2 v0 v1 : Int) (hth2 : wd ms ab = th2) (hhd2 : wd ms (th2 * 4) = hd2) (hnd2 : wd ms (th2 * 4 + 1) = nd2) (hv0' : wd ms (th2 * 4 + 2) = v0) (hv1' : wd ms (th2 * 4 + 3) = v1) (hal2 : hd2 / 65536 = al2) (hiw2 : hd2 % 65536 = iw2) (hfl2 : (fr.length + 2) * 4 ≤ 140737488355328) (hal3 : al2 ≤ 32) (hw2 : iw2 = 0) (hsd2 : sdI ad al2 = 0) (w : World) (h : Tab base w bt ms made fr o1 o2) :
    Calls Try.prog 46 #[.pointer (some ⟨bt, 0, none⟩), .agg #[.int .u32 ad, .int .i64 len]] w fun e w' => Did base bt o1 o2 w [(ab, v1)] 0 (putsP ms [(ab, v1)]) made ((fr ++ [th]) ++ [th2]) e w' := by
  have HPR : Hid (∀ (W : World) (q1 q2 : Option Nat), Tab base W bt ms made (fr ++ [th]) q1 q2 → Calls _ _ _ W _) := fun W q1 q2 hW => prune_go0 base bt ms made (fr ++ [th]) q1 q2 hms (by simp; omega) lk ab hlk hab ad len a0 a1 th2 hd2 nd2 al2 iw2 v0 v1 hth2 hhd2 hnd2 hv0' hv1' hal2 hiw2 hal3 hw2 hsd2 W hW
  clear hth2 hhd2 hnd2 hv0' hv1' hal2 hiw2
  clear hw2 hsd2
  have hwb : (iw == 0) = false := by simp [hw]
  have z0a : (u0 == 0) = true := by simp [hv0]
  have z0b : (u0 != 0) = false := by simp [hv0]
  have HU0 : Hid (u0 = 0) := hv0
  clear hv0
  have z1a : (u1 == 0) = true := by simp [hu]
  have z1b : (u1 != 0) = false := by simp [hu]
  have HU1 : Hid (u1 = 0) := hu
  clear hu
  have hl1 : ((lk : Int) == 0) = false := by simp; omega
  have hl2 : ((lk : Int) != 0) = true := by simp; omega
  have H : Hid (Tab base w bt ms made fr o1 o2) := h
  have HR : Hid (skP ms ad len F 0 0 = some ((lk : Int), (ab : Int))) := hR
  have HTH : Hid (wd ms lk = th) := hth
  have hthI : In32 th := hth ▸ wd_in h.mem.u32 _
  have th0 := hthI.1
  have th1 := hthI.2
  have hdI : In32 hd := hhd ▸ wd_in h.mem.u32 _
  have hd0 := hdI.1
  have hd1 := hdI.2
  have ndI : In32 ad := hnd ▸ wd_in h.mem.u32 _
  have nd0 := ndI.1
  have nd1 := ndI.2
  have u0I : In32 u0 := hu0 ▸ wd_in h.mem.u32 _
  have u1I : In32 u1 := hu1 ▸ wd_in h.mem.u32 _
  have HNODE : Hid (∀ (va : Option Addr) (cap L : Nat) (hL : ms.length = L) (W : World), Wds W va ms → Calls Try.prog 63 #[.slice va L cap, .int .u32 th] W fun e w' => e = .returned (.agg #[.int .u32 ad, .int .i64 len, .int .i64 iw, .int .u32 u0, .int .u32 u1]) ∧ Below W.heap.size W w') := by
    intro va cap L hL W hW
    have := node_any va cap ms L hL th th0 th1 hd ad u0 u1 hhd hnd hu0 hu1 W hW
    unfold nodeV at this; rw [hal, hiw] at this; exact this
  have al0 : 0 ≤ len := by omega
  have iw0 : 0 ≤ iw := by omega
  have iw1 : iw ≤ 65535 := by omega
  have hzn : ¬ th = 0 := hz
  have hthb : (th == 0) = false := by simp [hz]
  have HZ0 : Hid (th ≠ 0) := hz
  clear h hR hth hthI hdI ndI hhd hnd hu0 hu1 hal hiw hz
  have HV : Hid (vld ad len = true) := hv
  clear hv
  have hltw : bt < w.heap.size := Nat.lt_of_lt_of_le H.out.lt H.out.le
  go_enter Try.func46, Try.ntmps46
  go_wp2_with fail
  obtain ⟨wA, hwA⟩ : ∃ wA, w.alloc (Obj.cells #[.int .u32 ad, .int .i64 len] 33) = wA := ⟨_, rfl⟩
  have hbA : Below w.heap.size w wA := by rw [← hwA]; exact (Below.refl _ w).alloc (Nat.le_refl _) _
  have hsA : w.heap.size < wA.heap.size := by rw [← hwA]; simp
  have pA0 : wA.cell? ⟨w.heap.size, 0, none⟩ = some (.int .u32 ad) := by rw [← hwA]; simp
  have pA1 : wA.cell? ⟨w.heap.size, 1, none⟩ = some (.int .i64 len) := by rw [← hwA]; simp
  rw [hwA]
  clear hwA
  refine (valid_yes ad len HV.out a0 a1 _).mono ?_
  rintro e wV ⟨rfl, hbV⟩
  have p0 := cell_bel pA0 hbV
  have p1 := cell_bel pA1 hbV
  have hbw : Below w.heap.size w wV := hbA.trans (hbV.mono hbA.size)
  have hsV : w.heap.size < wV.heap.size := Nat.lt_of_lt_of_le hsA hbV.size
  clear pA0 pA1
  obtain ⟨va, cap, hc, hwd⟩ := H.out.wds
  obtain ⟨L, hL⟩ : ∃ L, ms.length = L := ⟨_, rfl⟩
  rw [hL] at hc
  have HL : Hid (ms.length = L) := hL
  clear hL
  have cV := cell_bel hc hbw
  have HWD : Hid (Wds w va ms) := hwd
  have hvl := (vld_iff ad len).1 HV.out
  have l0 := hvl.1
  have l1 := hvl.2.1
  clear hc hwd hvl
  have hfd : ∀ W, Sem.run Try.prog (Instr.field 116 (.agg #[.int .i64 (lk : Int), .int .i64 (ab : Int)]) 0) W = .ok (.int .i64 (lk : Int)) W := fun _ => by kernel_rfl
  go_wp2_with fail
  refine (seek_any bt va cap ms L HL.out ad len a0 a1 l0 l1 F (lk : Int) (ab : Int) HR.out wV (HWD.out.bel hbw) cV).mono ?_
  rintro e wS ⟨rfl, hbS⟩
  have q0 := cell_bel p0 hbS
  have q1 := cell_bel p1 hbS
  have cS := cell_bel cV hbS
  have hbs : Below w.heap.size w wS := hbw.trans (hbS.mono hbw.size)
  have hsS : w.heap.size < wS.heap.size := Nat.lt_of_lt_of_le hsV hbS.size
  clear p0 p1 cV
  have HWS : Hid (Wds wS va ms) := HWD.out.bel hbs
  go_wp2_with fail
  obtain ⟨wT, hwT⟩ : ∃ wT, wS.alloc (Obj.cells #[.int .i64 (lk : Int), .int .i64 (ab : Int)] 116) = wT := ⟨_, rfl⟩
  have hbT : Below wS.heap.size wS wT := by rw [← hwT]; exact (Below.refl _ wS).alloc (Nat.le_refl _) _
  have hsT : wS.heap.size < wT.heap.size := by rw [← hwT]; simp
  have k0 : wT.cell? ⟨wS.heap.size, 0, none⟩ = some (.int .i64 (lk : Int)) := by rw [← hwT]; simp
  have k1 : wT.cell? ⟨wS.heap.size, 1, none⟩ = some (.int .i64 (ab : Int)) := by rw [← hwT]; simp
  have r0 := cell_bel q0 hbT
  have r1 := cell_bel q1 hbT
  have cT := cell_bel cS hbT
  have hbt : Below w.heap.size w wT := hbs.trans (hbT.mono hbs.size)
  have hbd : Below wT.heap.size wT wT.drew := ⟨rfl, rfl, rfl, Nat.le_refl _, fun _ _ => rfl⟩
  have hbtd : Below w.heap.size w wT.drew := hbt.trans (hbd.mono hbt.size)
  have HWORD : Hid (Calls _ _ _ _ _) := word_any va cap ms L HL.out (lk : Int) (by omega) th HTH.out wT.drew (HWD.out.bel hbtd)
  rw [hwT]
  clear hwT q0 q1 cS
  go_still_tail 6, (by kernel_rfl)
  go_wp2_with (go_at_call 62; refine HWORD.out.mono ?_; rintro e w5 ⟨rfl, rfl⟩)
  refine (HNODE.out va cap L HL.out wT.drew (HWD.out.bel hbtd)).mono ?_
  rintro e wM ⟨rfl, hbM⟩
  have hbM' : Below wT.heap.size wT wM := hbd.trans hbM
  have t0 := cell_bel r0 hbM'
  have t1 := cell_bel r1 hbM'
  have j0 := cell_bel k0 hbM'
  have j1 := cell_bel k1 hbM'
  have hbm : Below w.heap.size w wM := hbt.trans (hbM'.mono hbt.size)
  have hsM : wS.heap.size < wM.heap.size := Nat.lt_of_lt_of_le hsT hbM'.size
  obtain ⟨wI, hwI⟩ : ∃ wI, wM.alloc (Obj.cells #[.int .u32 ad, .int .i64 len, .int .i64 iw, .int .u32 u0, .int .u32 u1] 120) = wI := ⟨_, rfl⟩
  have hbI : Below wM.heap.size wM wI := by rw [← hwI]; exact (Below.refl _ wM).alloc (Nat.le_refl _) _
  have hsI : wM.heap.size < wI.heap.size := by rw [← hwI]; simp
  have hI : NBox wM.heap.size ad len iw u0 u1 wI := by rw [← hwI]; constructor <;> simp
  have HISI : Hid (NBox wM.heap.size ad len iw u0 u1 wI) := hI
  have y0 := cell_bel t0 hbI
  have y1 := cell_bel t1 hbI
  have x0 := cell_bel j0 hbI
  have x1 := cell_bel j1 hbI
  have hbi : Below w.heap.size w wI := hbm.trans (hbI.mono hbm.size)
  have HTI : Hid (Tab base wI bt ms made fr o1 o2) := H.out.bel hbi
  clear r0 r1 t0 t1 k0 k1 j0 j1 cT hbM
  obtain ⟨i0, i1, i2, i3, i4⟩ := hI
  obtain ⟨fv, hfc, hfr, hfo⟩ := HTI.out.row
  obtain ⟨fa, fc, rfl⟩ : ∃ fa fc, fv = .slice fa fr.length fc := by
    rcases ownsRow_forms hfr with ⟨rfl, h0⟩ | ⟨g, cap, rfl⟩
    · exact ⟨none, 0, by rw [h0]⟩
    · exact ⟨_, _, rfl⟩
  have HFO : Hid (OwnU base wI (.slice fa fr.length fc) fr) := ⟨hfr, HTI.out.u32⟩
  have HFB : Hid (Value.ownBlock (.slice fa fr.length fc) = o2) := hfo
  have hff := HTI.out.f2
  have hlI : base ≤ wI.heap.size := HTI.out.le
  clear hfr hfo
  go_wp2_with (at_builtin; refine app_u rfl _ _ rfl base (.slice fa fr.length fc) fr th ⟨th0, th1⟩ wI rfl HFO.out 31 wI.heap.size rfl rfl hfl hlI ?_)
  intro v' wP ho' hk'
  rw [HFB.out] at hk'
  obtain ⟨fa', fc', e'⟩ := ho'.out.form
  obtain ⟨M, hM⟩ : ∃ M, (fr ++ [th]).length = M := ⟨_, rfl⟩
  rw [hM] at e'
  subst e'
  clear hM
  have hPU := HTI.out.push ho'.out hk'.out
  have hbt2 : some bt ≠ o2 := fun e => by have := (HTI.out.in2 bt e.symm).1; have := HTI.out.lt; omega
  have hltI : bt < wI.heap.size := Nat.lt_of_lt_of_le hltw hbi.size
  have hPb := hk'.out.block bt hltI hbt2
  have pc : wP.cell? ⟨bt, 2, none⟩ = some (.slice fa fr.length fc) := (World.cell?_of_block (w := wI) hPb).trans hfc
  have pf : wP.frozen? ⟨bt, 2, none⟩ = false := (World.frozen?_of_block (w := wI) hPb).trans hff
  have hne1 : ∀ b, w.heap.size ≤ b → some b ≠ o1 := fun b hb e => by have := (H.out.in1 _ e.symm).2; omega
  have hne2 : ∀ b, w.heap.size ≤ b → some b ≠ o2 := fun b hb e => by have := (H.out.in2 _ e.symm).2; omega
  obtain ⟨wQ, hwQ⟩ : ∃ wQ, wP.setCell ⟨bt, 2, none⟩ (.slice fa' M fc') = wQ := ⟨_, rfl⟩
  rw [hwQ] at hPU
  obtain ⟨o2', ho2'⟩ : ∃ x, Value.ownBlock (.slice fa' M fc') = x := ⟨_, rfl⟩
  rw [ho2'] at hPU
  have HTQ : Hid (Tab base wQ bt ms made (fr ++ [th]) o1 o2') := hPU.1
  have HKQ : Hid (KT bt wI o1 o2 wQ o1 o2') := hPU.2
  have hsIQ : wI.heap.size ≤ wQ.heap.size := HKQ.out.size
  have hkw : w.heap.size ≤ wS.heap.size := hbs.size
  have HIQ : Hid (NBox wM.heap.size ad len iw u0 u1 wQ) := HISI.out.kq HKQ.out (by omega) (hne1 _ (by omega)) (hne2 _ (by omega))
  have z0 : wQ.cell? ⟨wS.heap.size, 0, none⟩ = some (.int .i64 (lk : Int)) := (HKQ.out.cell (by omega) (by omega) (hne1 _ (by omega)) (hne2 _ (by omega))).trans x0
  have z1 : wQ.cell? ⟨wS.heap.size, 1, none⟩ = some (.int .i64 (ab : Int)) := (HKQ.out.cell (by omega) (by omega) (hne1 _ (by omega)) (hne2 _ (by omega))).trans x1
  have g0 : wQ.cell? ⟨w.heap.size, 0, none⟩ = some (.int .u32 ad) := (HKQ.out.cell (by omega) (by omega) (hne1 _ (by omega)) (hne2 _ (by omega))).trans y0
  have g1 : wQ.cell? ⟨w.heap.size, 1, none⟩ = some (.int .i64 len) := (HKQ.out.cell (by omega) (by omega) (hne1 _ (by omega)) (hne2 _ (by omega))).trans y1
  clear ho' hk' hPU hfc hff hPb i0 i1 i2 i3 i4 x0 x1 y0 y1 hbt2 hne1 hne2 ho2'
  obtain ⟨i0, i1, i2, i3, i4⟩ := HIQ.out
  have hor : bits .or .u32 u0 u1 = 0 := by rw [HU1.out, HU0.out]; decide
  have HPR := HPR.out wQ o1 o2' HTQ.out
  have HPR : Hid (Calls _ _ _ _ _) := HPR
  go_wp2_with fail
  refine HPR.out.mono ?_
  rintro e w7 ⟨v, o1', o3', rfl, ht7, hk7, ho7⟩
  have HDID : Hid (Did base bt o1 o2 w [(ab, v1)] 0 (putsP ms [(ab, v1)]) made ((fr ++ [th]) ++ [th2]) (.returned (.tuple #[v, .int .i64 0])) w7) := ⟨v, o1', o3', rfl, ht7, (KT.bel hbi).trans (HKQ.out.trans hk7), ⟨row_low ho7.row (Nat.le_trans hbi.size hsIQ), ho7.n1, hltw, ho7.u32⟩⟩
  clear ht7 hk7 ho7
  go_wp2_with fail
  go_ret2
  exact HDID.out

set_option maxRecDepth 100000 in
set_option maxHeartbeats 2000000 in
theorem drop_go1 (base bt : Nat) (ms : List Int) (made : Int) (fr : List Int) (o1 o2 : Option Nat) (hms : ms.length ≤ 17179869184) (hfl : (fr.length + 1) * 4 ≤ 140737488355328) (ad len : Int) (a0 : 0 ≤ ad) (a1 : ad < 4294967296) (hv : vld ad len = true) (F lk ab : Nat) (hlk : lk < 17179869184) (hab : ab < 17179869184) (hR : skP ms ad len F 0 0 = some ((lk : Int), (ab : Int))) (th hd iw u0 u1 : Int) (hth : wd ms lk = th) (hz : th ≠ 0) (hhd : wd ms (th * 4) = hd) (hnd : wd ms (th * 4 + 1) = ad) (hu0 : wd ms (th * 4 + 2) = u0) (hu1 : wd ms (th * 4 + 3) = u1) (hal : hd / 65536 = len) (hiw : hd % 65536 = iw) (hw : iw ≠ 0) (hv0 : u0 = 0) (hu : u1 = 0) (hl : lk ≠ 0) (th2 hd2 nd2 al2 iw2 v0 v1 : Int) (hth2 : wd ms ab = th2) (hhd2 : wd ms (th2 * 4) = hd2) (hnd2 : wd ms (th2 * 4 + 1) = nd2) (hv0' : wd ms (th2 * 4 + 2) = v0) (hv1' : wd ms (th2 * 4 + 3) = v1) (hal2 : hd2 / 65536 = al2) (hiw2 : hd2 % 65536 = iw2) (hfl2 : (fr.length + 2) * 4 ≤ 140737488355328) (hal3 : al2 ≤ 32) (hw2 : iw2 = 0) (hsd2 : sdI ad al2 = 1) (w : World) (h : Tab base w bt ms made fr o1 o2) :
    Calls Try.prog 46 #[.pointer (some ⟨bt, 0, none⟩), .agg #[.int .u32 ad, .int .i64 len]] w fun e w' => Did base bt o1 o2 w [(ab, v0)] 0 (putsP ms [(ab, v0)]) made ((fr ++ [th]) ++ [th2]) e w' := by
  have HPR : Hid (∀ (W : World) (q1 q2 : Option Nat), Tab base W bt ms made (fr ++ [th]) q1 q2 → Calls _ _ _ W _) := fun W q1 q2 hW => prune_go1 base bt ms made (fr ++ [th]) q1 q2 hms (by simp; omega) lk ab hlk hab ad len a0 a1 th2 hd2 nd2 al2 iw2 v0 v1 hth2 hhd2 hnd2 hv0' hv1' hal2 hiw2 hal3 hw2 hsd2 W hW
  clear hth2 hhd2 hnd2 hv0' hv1' hal2 hiw2
  clear hw2 hsd2
  have hwb : (iw == 0) = false := by simp [hw]
  have z0a : (u0 == 0) = true := by simp [hv0]
  have z0b : (u0 != 0) = false := by simp [hv0]
  have HU0 : Hid (u0 = 0) := hv0
  clear hv0
  have z1a : (u1 == 0) = true := by simp [hu]
  have z1b : (u1 != 0) = false := by simp [hu]
  have HU1 : Hid (u1 = 0) := hu
  clear hu
  have hl1 : ((lk : Int) == 0) = false := by simp; omega
  have hl2 : ((lk : Int) != 0) = true := by simp; omega
  have H : Hid (Tab base w bt ms made fr o1 o2) := h
  have HR : Hid (skP ms ad len F 0 0 = some ((lk : Int), (ab : Int))) := hR
  have HTH : Hid (wd ms lk = th) := hth
  have hthI : In32 th := hth ▸ wd_in h.mem.u32 _
  have th0 := hthI.1
  have th1 := hthI.2
  have hdI : In32 hd := hhd ▸ wd_in h.mem.u32 _
  have hd0 := hdI.1
  have hd1 := hdI.2
  have ndI : In32 ad := hnd ▸ wd_in h.mem.u32 _
  have nd0 := ndI.1
  have nd1 := ndI.2
  have u0I : In32 u0 := hu0 ▸ wd_in h.mem.u32 _
  have u1I : In32 u1 := hu1 ▸ wd_in h.mem.u32 _
  have HNODE : Hid (∀ (va : Option Addr) (cap L : Nat) (hL : ms.length = L) (W : World), Wds W va ms → Calls Try.prog 63 #[.slice va L cap, .int .u32 th] W fun e w' => e = .returned (.agg #[.int .u32 ad, .int .i64 len, .int .i64 iw, .int .u32 u0, .int .u32 u1]) ∧ Below W.heap.size W w') := by
    intro va cap L hL W hW
    have := node_any va cap ms L hL th th0 th1 hd ad u0 u1 hhd hnd hu0 hu1 W hW
    unfold nodeV at this; rw [hal, hiw] at this; exact this
  have al0 : 0 ≤ len := by omega
  have iw0 : 0 ≤ iw := by omega
  have iw1 : iw ≤ 65535 := by omega
  have hzn : ¬ th = 0 := hz
  have hthb : (th == 0) = false := by simp [hz]
  have HZ0 : Hid (th ≠ 0) := hz
  clear h hR hth hthI hdI ndI hhd hnd hu0 hu1 hal hiw hz
  have HV : Hid (vld ad len = true) := hv
  clear hv
  have hltw : bt < w.heap.size := Nat.lt_of_lt_of_le H.out.lt H.out.le
  go_enter Try.func46, Try.ntmps46
  go_wp2_with fail
  obtain ⟨wA, hwA⟩ : ∃ wA, w.alloc (Obj.cells #[.int .u32 ad, .int .i64 len] 33) = wA := ⟨_, rfl⟩
  have hbA : Below w.heap.size w wA := by rw [← hwA]; exact (Below.refl _ w).alloc (Nat.le_refl _) _
  have hsA : w.heap.size < wA.heap.size := by rw [← hwA]; simp
  have pA0 : wA.cell? ⟨w.heap.size, 0, none⟩ = some (.int .u32 ad) := by rw [← hwA]; simp
  have pA1 : wA.cell? ⟨w.heap.size, 1, none⟩ = some (.int .i64 len) := by rw [← hwA]; simp
  rw [hwA]
  clear hwA
  refine (valid_yes ad len HV.out a0 a1 _).mono ?_
  rintro e wV ⟨rfl, hbV⟩
  have p0 := cell_bel pA0 hbV
  have p1 := cell_bel pA1 hbV
  have hbw : Below w.heap.size w wV := hbA.trans (hbV.mono hbA.size)
  have hsV : w.heap.size < wV.heap.size := Nat.lt_of_lt_of_le hsA hbV.size
  clear pA0 pA1
  obtain ⟨va, cap, hc, hwd⟩ := H.out.wds
  obtain ⟨L, hL⟩ : ∃ L, ms.length = L := ⟨_, rfl⟩
  rw [hL] at hc
  have HL : Hid (ms.length = L) := hL
  clear hL
  have cV := cell_bel hc hbw
  have HWD : Hid (Wds w va ms) := hwd
  have hvl := (vld_iff ad len).1 HV.out
  have l0 := hvl.1
  have l1 := hvl.2.1
  clear hc hwd hvl
  have hfd : ∀ W, Sem.run Try.prog (Instr.field 116 (.agg #[.int .i64 (lk : Int), .int .i64 (ab : Int)]) 0) W = .ok (.int .i64 (lk : Int)) W := fun _ => by kernel_rfl
  go_wp2_with fail
  refine (seek_any bt va cap ms L HL.out ad len a0 a1 l0 l1 F (lk : Int) (ab : Int) HR.out wV (HWD.out.bel hbw) cV).mono ?_
  rintro e wS ⟨rfl, hbS⟩
  have q0 := cell_bel p0 hbS
  have q1 := cell_bel p1 hbS
  have cS := cell_bel cV hbS
  have hbs : Below w.heap.size w wS := hbw.trans (hbS.mono hbw.size)
  have hsS : w.heap.size < wS.heap.size := Nat.lt_of_lt_of_le hsV hbS.size
  clear p0 p1 cV
  have HWS : Hid (Wds wS va ms) := HWD.out.bel hbs
  go_wp2_with fail
  obtain ⟨wT, hwT⟩ : ∃ wT, wS.alloc (Obj.cells #[.int .i64 (lk : Int), .int .i64 (ab : Int)] 116) = wT := ⟨_, rfl⟩
  have hbT : Below wS.heap.size wS wT := by rw [← hwT]; exact (Below.refl _ wS).alloc (Nat.le_refl _) _
  have hsT : wS.heap.size < wT.heap.size := by rw [← hwT]; simp
  have k0 : wT.cell? ⟨wS.heap.size, 0, none⟩ = some (.int .i64 (lk : Int)) := by rw [← hwT]; simp
  have k1 : wT.cell? ⟨wS.heap.size, 1, none⟩ = some (.int .i64 (ab : Int)) := by rw [← hwT]; simp
  have r0 := cell_bel q0 hbT
  have r1 := cell_bel q1 hbT
  have cT := cell_bel cS hbT
  have hbt : Below w.heap.size w wT := hbs.trans (hbT.mono hbs.size)
  have hbd : Below wT.heap.size wT wT.drew := ⟨rfl, rfl, rfl, Nat.le_refl _, fun _ _ => rfl⟩
  have hbtd : Below w.heap.size w wT.drew := hbt.trans (hbd.mono hbt.size)
  have HWORD : Hid (Calls _ _ _ _ _) := word_any va cap ms L HL.out (lk : Int) (by omega) th HTH.out wT.drew (HWD.out.bel hbtd)
  rw [hwT]
  clear hwT q0 q1 cS
  go_still_tail 6, (by kernel_rfl)
  go_wp2_with (go_at_call 62; refine HWORD.out.mono ?_; rintro e w5 ⟨rfl, rfl⟩)
  refine (HNODE.out va cap L HL.out wT.drew (HWD.out.bel hbtd)).mono ?_
  rintro e wM ⟨rfl, hbM⟩
  have hbM' : Below wT.heap.size wT wM := hbd.trans hbM
  have t0 := cell_bel r0 hbM'
  have t1 := cell_bel r1 hbM'
  have j0 := cell_bel k0 hbM'
  have j1 := cell_bel k1 hbM'
  have hbm : Below w.heap.size w wM := hbt.trans (hbM'.mono hbt.size)
  have hsM : wS.heap.size < wM.heap.size := Nat.lt_of_lt_of_le hsT hbM'.size
  obtain ⟨wI, hwI⟩ : ∃ wI, wM.alloc (Obj.cells #[.int .u32 ad, .int .i64 len, .int .i64 iw, .int .u32 u0, .int .u32 u1] 120) = wI := ⟨_, rfl⟩
  have hbI : Below wM.heap.size wM wI := by rw [← hwI]; exact (Below.refl _ wM).alloc (Nat.le_refl _) _
  have hsI : wM.heap.size < wI.heap.size := by rw [← hwI]; simp
  have hI : NBox wM.heap.size ad len iw u0 u1 wI := by rw [← hwI]; constructor <;> simp
  have HISI : Hid (NBox wM.heap.size ad len iw u0 u1 wI) := hI
  have y0 := cell_bel t0 hbI
  have y1 := cell_bel t1 hbI
  have x0 := cell_bel j0 hbI
  have x1 := cell_bel j1 hbI
  have hbi : Below w.heap.size w wI := hbm.trans (hbI.mono hbm.size)
  have HTI : Hid (Tab base wI bt ms made fr o1 o2) := H.out.bel hbi
  clear r0 r1 t0 t1 k0 k1 j0 j1 cT hbM
  obtain ⟨i0, i1, i2, i3, i4⟩ := hI
  obtain ⟨fv, hfc, hfr, hfo⟩ := HTI.out.row
  obtain ⟨fa, fc, rfl⟩ : ∃ fa fc, fv = .slice fa fr.length fc := by
    rcases ownsRow_forms hfr with ⟨rfl, h0⟩ | ⟨g, cap, rfl⟩
    · exact ⟨none, 0, by rw [h0]⟩
    · exact ⟨_, _, rfl⟩
  have HFO : Hid (OwnU base wI (.slice fa fr.length fc) fr) := ⟨hfr, HTI.out.u32⟩
  have HFB : Hid (Value.ownBlock (.slice fa fr.length fc) = o2) := hfo
  have hff := HTI.out.f2
  have hlI : base ≤ wI.heap.size := HTI.out.le
  clear hfr hfo
  go_wp2_with (at_builtin; refine app_u rfl _ _ rfl base (.slice fa fr.length fc) fr th ⟨th0, th1⟩ wI rfl HFO.out 31 wI.heap.size rfl rfl hfl hlI ?_)
  intro v' wP ho' hk'
  rw [HFB.out] at hk'
  obtain ⟨fa', fc', e'⟩ := ho'.out.form
  obtain ⟨M, hM⟩ : ∃ M, (fr ++ [th]).length = M := ⟨_, rfl⟩
  rw [hM] at e'
  subst e'
  clear hM
  have hPU := HTI.out.push ho'.out hk'.out
  have hbt2 : some bt ≠ o2 := fun e => by have := (HTI.out.in2 bt e.symm).1; have := HTI.out.lt; omega
  have hltI : bt < wI.heap.size := Nat.lt_of_lt_of_le hltw hbi.size
  have hPb := hk'.out.block bt hltI hbt2
  have pc : wP.cell? ⟨bt, 2, none⟩ = some (.slice fa fr.length fc) := (World.cell?_of_block (w := wI) hPb).trans hfc
  have pf : wP.frozen? ⟨bt, 2, none⟩ = false := (World.frozen?_of_block (w := wI) hPb).trans hff
  have hne1 : ∀ b, w.heap.size ≤ b → some b ≠ o1 := fun b hb e => by have := (H.out.in1 _ e.symm).2; omega
  have hne2 : ∀ b, w.heap.size ≤ b → some b ≠ o2 := fun b hb e => by have := (H.out.in2 _ e.symm).2; omega
  obtain ⟨wQ, hwQ⟩ : ∃ wQ, wP.setCell ⟨bt, 2, none⟩ (.slice fa' M fc') = wQ := ⟨_, rfl⟩
  rw [hwQ] at hPU
  obtain ⟨o2', ho2'⟩ : ∃ x, Value.ownBlock (.slice fa' M fc') = x := ⟨_, rfl⟩
  rw [ho2'] at hPU
  have HTQ : Hid (Tab base wQ bt ms made (fr ++ [th]) o1 o2') := hPU.1
  have HKQ : Hid (KT bt wI o1 o2 wQ o1 o2') := hPU.2
  have hsIQ : wI.heap.size ≤ wQ.heap.size := HKQ.out.size
  have hkw : w.heap.size ≤ wS.heap.size := hbs.size
  have HIQ : Hid (NBox wM.heap.size ad len iw u0 u1 wQ) := HISI.out.kq HKQ.out (by omega) (hne1 _ (by omega)) (hne2 _ (by omega))
  have z0 : wQ.cell? ⟨wS.heap.size, 0, none⟩ = some (.int .i64 (lk : Int)) := (HKQ.out.cell (by omega) (by omega) (hne1 _ (by omega)) (hne2 _ (by omega))).trans x0
  have z1 : wQ.cell? ⟨wS.heap.size, 1, none⟩ = some (.int .i64 (ab : Int)) := (HKQ.out.cell (by omega) (by omega) (hne1 _ (by omega)) (hne2 _ (by omega))).trans x1
  have g0 : wQ.cell? ⟨w.heap.size, 0, none⟩ = some (.int .u32 ad) := (HKQ.out.cell (by omega) (by omega) (hne1 _ (by omega)) (hne2 _ (by omega))).trans y0
  have g1 : wQ.cell? ⟨w.heap.size, 1, none⟩ = some (.int .i64 len) := (HKQ.out.cell (by omega) (by omega) (hne1 _ (by omega)) (hne2 _ (by omega))).trans y1
  clear ho' hk' hPU hfc hff hPb i0 i1 i2 i3 i4 x0 x1 y0 y1 hbt2 hne1 hne2 ho2'
  obtain ⟨i0, i1, i2, i3, i4⟩ := HIQ.out
  have hor : bits .or .u32 u0 u1 = 0 := by rw [HU1.out, HU0.out]; decide
  have HPR := HPR.out wQ o1 o2' HTQ.out
  have HPR : Hid (Calls _ _ _ _ _) := HPR
  go_wp2_with fail
  refine HPR.out.mono ?_
  rintro e w7 ⟨v, o1', o3', rfl, ht7, hk7, ho7⟩
  have HDID : Hid (Did base bt o1 o2 w [(ab, v0)] 0 (putsP ms [(ab, v0)]) made ((fr ++ [th]) ++ [th2]) (.returned (.tuple #[v, .int .i64 0])) w7) := ⟨v, o1', o3', rfl, ht7, (KT.bel hbi).trans (HKQ.out.trans hk7), ⟨row_low ho7.row (Nat.le_trans hbi.size hsIQ), ho7.n1, hltw, ho7.u32⟩⟩
  clear ht7 hk7 ho7
  go_wp2_with fail
  go_ret2
  exact HDID.out

end Go.Proofs.Ytjhdjbhpofhiaab.Fb
