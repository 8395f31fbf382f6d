/- Set, where it fails, where nothing stands at the link, where the prefix has a node: what it answers and leaves. -/
import Derived.Test.YtjhdjbhpofhiaabFbJ
import Derived.Test.YtjhdjbhpofhiaabFbH
namespace Go.Proofs.Ytjhdjbhpofhiaab.Fb
open Go.ChangeShapes Go.WideShapes Go.ChangeAt Go.RowKit Go.Joins Go.Proofs.Ytjhdjbhpofhiaab.PM Go.Proofs.Ytjhdjbhpofhiaab.Ask
set_option linter.unusedVariables false

/-- a change of a table: the writes that it answers, and what they leave -/
def Did (base bt : Nat) (o1 o2 : Option Nat) (w : World) (ws : List (Nat × Int)) (err : Int) (ms : List Int) (made : Int) (fr : List Int) (e : Ending) (w' : World) : Prop :=
  ∃ v o1' o2', e = .returned (.tuple #[v, .int .i64 err]) ∧ Tab base w' bt ms made fr o1' o2' ∧ KT bt w o1 o2 w' o1' o2' ∧ Own w.heap.size w' bt o1' o2' v ws
theorem Did.none {base bt : Nat} {o1 o2 : Option Nat} {w w' : World} {err : Int} {ms fr : List Int} {made : Int} (h : Tab base w bt ms made fr o1 o2) (hb : Below w.heap.size w w') : Did base bt o1 o2 w [] err ms made fr (.returned (.tuple #[.slice none 0 0, .int .i64 err])) w' := by
  refine ⟨_, o1, o2, rfl, h.bel hb, KT.bel hb, ⟨World.ownsRow_nil _ _ _ _, fun g e => ?_, Nat.lt_of_lt_of_le h.lt h.le, fun y hy => ?_⟩⟩
  · simp [Value.ownBlock] at e
  · simp at hy
theorem Tab.wds {base bt : Nat} {w : World} {ms fr : List Int} {made : Int} {o1 o2 : Option Nat} (h : Tab base w bt ms made fr o1 o2) : ∃ va cap, w.cell? ⟨bt, 0, none⟩ = some (.slice va ms.length cap) ∧ Wds w va ms := by
  obtain ⟨v, hc, hr, ho⟩ := h.mem.row
  rcases hr.2 with ⟨rfl, h0⟩ | ⟨g, cap, cur, rfl, hbg, hg, hnc, hcm, hsz, hcur⟩
  · exact ⟨none, 0, by rw [h0]; exact hc, ⟨by omega, fun i hi => absurd hi (by omega), h.mem.u32⟩⟩
  · refine ⟨some ⟨g, 0, none⟩, cap, hc, ⟨by unfold maxLen at hcm; omega, fun i hi => ⟨g, 0, rfl, (Array.getElem?_eq_some_iff.1 hg).1, ?_⟩, h.mem.u32⟩⟩
    rw [Nat.zero_add, hr.cellAt i (by omega)]
    simp [wcs, hi]

/-- a statement whose ways all end in one frame and one world -/
theorem wp_meet {P : Program} {c : Code} {Q : Exit → Act → World → Prop} {a : Act} {w : World} (A : Act) (W : World) (h1 : c.wp P (fun e a' w' => e = .normal ∧ a' = A ∧ w' = W) a w) (h2 : Q .normal A W) : c.wp P Q a w :=
  Code.wp_mono (fun e a' w' h => by obtain ⟨rfl, rfl, rfl⟩ := h; exact h2) h1

set_option maxRecDepth 100000 in
set_option maxHeartbeats 2000000 in
theorem set_bits (base bt : Nat) (ms : List Int) (made : Int) (fr : List Int) (o1 o2 : Option Nat) (ad len way : Int) (a0 : 0 ≤ ad) (a1 : ad < 4294967296) (hv : vld ad len = false) (w : World) (h : Tab base w bt ms made fr o1 o2) :
    Calls Try.prog 47 #[.pointer (some ⟨bt, 0, none⟩), .agg #[.int .u32 ad, .int .i64 len], .int .i64 way] w fun e w' => Did base bt o1 o2 w [] 3 ms made fr e w' := by
  have H : Hid (Tab base w bt ms made fr o1 o2) := h
  have HV : Hid (vld ad len = false) := hv
  clear h hv
  have hltw : bt < w.heap.size := Nat.lt_of_lt_of_le H.out.lt H.out.le
  go_enter Try.func47, Try.ntmps47
  go_wp2_with fail
  obtain ⟨wA, hwA⟩ : ∃ wA, w.alloc (Obj.cells #[.int .u32 ad, .int .i64 len] 33) = wA := ⟨_, rfl⟩
  have hbA : Below w.heap.size w wA := by rw [← hwA]; exact (Below.refl _ w).alloc (Nat.le_refl _) _
  have hsA : w.heap.size < wA.heap.size := by rw [← hwA]; simp
  have pA0 : wA.cell? ⟨w.heap.size, 0, none⟩ = some (.int .u32 ad) := by rw [← hwA]; simp
  have pA1 : wA.cell? ⟨w.heap.size, 1, none⟩ = some (.int .i64 len) := by rw [← hwA]; simp
  rw [hwA]
  clear hwA
  refine (valid_no ad len HV.out a0 a1 _).mono ?_
  rintro e wV ⟨rfl, hbV⟩
  have p0 := cell_bel pA0 hbV
  have p1 := cell_bel pA1 hbV
  have hbw : Below w.heap.size w wV := hbA.trans (hbV.mono hbA.size)
  have hsV : w.heap.size < wV.heap.size := Nat.lt_of_lt_of_le hsA hbV.size
  clear pA0 pA1
  go_wp2_with fail
  go_ret2
  exact Did.none H.out hbw

set_option maxRecDepth 100000 in
set_option maxHeartbeats 2000000 in
theorem set_low (base bt : Nat) (ms : List Int) (made : Int) (fr : List Int) (o1 o2 : Option Nat) (ad len way : Int) (a0 : 0 ≤ ad) (a1 : ad < 4294967296) (hv : vld ad len = true) (hw : way < 1) (w : World) (h : Tab base w bt ms made fr o1 o2) :
    Calls Try.prog 47 #[.pointer (some ⟨bt, 0, none⟩), .agg #[.int .u32 ad, .int .i64 len], .int .i64 way] w fun e w' => Did base bt o1 o2 w [] 2 ms made fr e w' := by
  have H : Hid (Tab base w bt ms made fr o1 o2) := h
  have HV : Hid (vld ad len = true) := hv
  clear h hv
  have hltw : bt < w.heap.size := Nat.lt_of_lt_of_le H.out.lt H.out.le
  go_enter Try.func47, Try.ntmps47
  go_wp2_with fail
  obtain ⟨wA, hwA⟩ : ∃ wA, w.alloc (Obj.cells #[.int .u32 ad, .int .i64 len] 33) = wA := ⟨_, rfl⟩
  have hbA : Below w.heap.size w wA := by rw [← hwA]; exact (Below.refl _ w).alloc (Nat.le_refl _) _
  have hsA : w.heap.size < wA.heap.size := by rw [← hwA]; simp
  have pA0 : wA.cell? ⟨w.heap.size, 0, none⟩ = some (.int .u32 ad) := by rw [← hwA]; simp
  have pA1 : wA.cell? ⟨w.heap.size, 1, none⟩ = some (.int .i64 len) := by rw [← hwA]; simp
  rw [hwA]
  clear hwA
  refine (valid_yes ad len HV.out a0 a1 _).mono ?_
  rintro e wV ⟨rfl, hbV⟩
  have p0 := cell_bel pA0 hbV
  have p1 := cell_bel pA1 hbV
  have hbw : Below w.heap.size w wV := hbA.trans (hbV.mono hbA.size)
  have hsV : w.heap.size < wV.heap.size := Nat.lt_of_lt_of_le hsA hbV.size
  clear pA0 pA1
  go_wp2_with fail
  go_ret2
  exact Did.none H.out hbw

set_option maxRecDepth 100000 in
set_option maxHeartbeats 2000000 in
theorem set_high (base bt : Nat) (ms : List Int) (made : Int) (fr : List Int) (o1 o2 : Option Nat) (ad len way : Int) (a0 : 0 ≤ ad) (a1 : ad < 4294967296) (hv : vld ad len = true) (hw : 65535 < way) (w : World) (h : Tab base w bt ms made fr o1 o2) :
    Calls Try.prog 47 #[.pointer (some ⟨bt, 0, none⟩), .agg #[.int .u32 ad, .int .i64 len], .int .i64 way] w fun e w' => Did base bt o1 o2 w [] 2 ms made fr e w' := by
  have H : Hid (Tab base w bt ms made fr o1 o2) := h
  have HV : Hid (vld ad len = true) := hv
  clear h hv
  have hltw : bt < w.heap.size := Nat.lt_of_lt_of_le H.out.lt H.out.le
  go_enter Try.func47, Try.ntmps47
  go_wp2_with fail
  obtain ⟨wA, hwA⟩ : ∃ wA, w.alloc (Obj.cells #[.int .u32 ad, .int .i64 len] 33) = wA := ⟨_, rfl⟩
  have hbA : Below w.heap.size w wA := by rw [← hwA]; exact (Below.refl _ w).alloc (Nat.le_refl _) _
  have hsA : w.heap.size < wA.heap.size := by rw [← hwA]; simp
  have pA0 : wA.cell? ⟨w.heap.size, 0, none⟩ = some (.int .u32 ad) := by rw [← hwA]; simp
  have pA1 : wA.cell? ⟨w.heap.size, 1, none⟩ = some (.int .i64 len) := by rw [← hwA]; simp
  rw [hwA]
  clear hwA
  refine (valid_yes ad len HV.out a0 a1 _).mono ?_
  rintro e wV ⟨rfl, hbV⟩
  have p0 := cell_bel pA0 hbV
  have p1 := cell_bel pA1 hbV
  have hbw : Below w.heap.size w wV := hbA.trans (hbV.mono hbA.size)
  have hsV : w.heap.size < wV.heap.size := Nat.lt_of_lt_of_le hsA hbV.size
  clear pA0 pA1
  go_wp2_with fail
  go_ret2
  exact Did.none H.out hbw

set_option maxRecDepth 100000 in
set_option maxHeartbeats 2000000 in
theorem set_new (base bt : Nat) (ms : List Int) (made : Int) (fr : List Int) (o1 o2 : Option Nat) (m0 : 0 ≤ made) (m1 : made + 1 < 4294967296) (hms : ms.length ≤ 17179869184) (ad len way : Int) (a0 : 0 ≤ ad) (a1 : ad < 4294967296) (hv : vld ad len = true) (hw1 : 1 ≤ way) (hw2 : way ≤ 65535) (F lk : Nat) (ab : Int) (hlk : lk < 17179869184) (hR : skP ms ad len F 0 0 = some ((lk : Int), ab)) (hz : wd ms lk = 0) (n : Int) (hn : spN made fr = n) (w : World) (h : Tab base w bt ms made fr o1 o2) :
    Calls Try.prog 47 #[.pointer (some ⟨bt, 0, none⟩), .agg #[.int .u32 ad, .int .i64 len], .int .i64 way] w fun e w' => Did base bt o1 o2 w (nodeWs n ad len way 0 0 ++ [(lk, n)]) 0 (putsP ms (nodeWs n ad len way 0 0 ++ [(lk, n)])) (spM made fr) fr.dropLast e w' := by
  have HR : Hid (skP ms ad len F 0 0 = some ((lk : Int), ab)) := hR
  have HZ : Hid (wd ms lk = 0) := hz
  have HN : Hid (spN made fr = n) := hn
  clear hR hz hn
  have H : Hid (Tab base w bt ms made fr o1 o2) := h
  have HV : Hid (vld ad len = true) := hv
  clear h hv
  have hltw : bt < w.heap.size := Nat.lt_of_lt_of_le H.out.lt H.out.le
  go_enter Try.func47, Try.ntmps47
  go_wp2_with fail
  obtain ⟨wA, hwA⟩ : ∃ wA, w.alloc (Obj.cells #[.int .u32 ad, .int .i64 len] 33) = wA := ⟨_, rfl⟩
  have hbA : Below w.heap.size w wA := by rw [← hwA]; exact (Below.refl _ w).alloc (Nat.le_refl _) _
  have hsA : w.heap.size < wA.heap.size := by rw [← hwA]; simp
  have pA0 : wA.cell? ⟨w.heap.size, 0, none⟩ = some (.int .u32 ad) := by rw [← hwA]; simp
  have pA1 : wA.cell? ⟨w.heap.size, 1, none⟩ = some (.int .i64 len) := by rw [← hwA]; simp
  rw [hwA]
  clear hwA
  refine (valid_yes ad len HV.out a0 a1 _).mono ?_
  rintro e wV ⟨rfl, hbV⟩
  have p0 := cell_bel pA0 hbV
  have p1 := cell_bel pA1 hbV
  have hbw : Below w.heap.size w wV := hbA.trans (hbV.mono hbA.size)
  have hsV : w.heap.size < wV.heap.size := Nat.lt_of_lt_of_le hsA hbV.size
  clear pA0 pA1
  obtain ⟨va, cap, hc, hwd⟩ := H.out.wds
  obtain ⟨L, hL⟩ : ∃ L, ms.length = L := ⟨_, rfl⟩
  rw [hL] at hc
  have HL : Hid (ms.length = L) := hL
  clear hL
  have cV := cell_bel hc hbw
  have HWD : Hid (Wds w va ms) := hwd
  have hvl := (vld_iff ad len).1 HV.out
  have l0 := hvl.1
  have l1 := hvl.2.1
  clear hc hwd hvl
  have hfd : ∀ W, Sem.run Try.prog (Instr.field 116 (.agg #[.int .i64 (lk : Int), .int .i64 ab]) 0) W = .ok (.int .i64 (lk : Int)) W := fun _ => by kernel_rfl
  go_wp2_with fail
  refine (seek_any bt va cap ms L HL.out ad len a0 a1 l0 l1 F (lk : Int) ab HR.out wV (HWD.out.bel hbw) cV).mono ?_
  rintro e wS ⟨rfl, hbS⟩
  have q0 := cell_bel p0 hbS
  have q1 := cell_bel p1 hbS
  have cS := cell_bel cV hbS
  have hbs : Below w.heap.size w wS := hbw.trans (hbS.mono hbw.size)
  have hsS : w.heap.size < wS.heap.size := Nat.lt_of_lt_of_le hsV hbS.size
  clear p0 p1 cV
  have HWS : Hid (Wds wS va ms) := HWD.out.bel hbs
  have HWORD : Hid (∀ W, Below wS.heap.size wS W → Calls Try.prog 62 #[.slice va L cap, .int .i64 (lk : Int)] W fun e w' => e = .returned (.int .u32 0) ∧ w' = W) := fun W hW => word_any va cap ms L HL.out (lk : Int) (by omega) 0 HZ.out W (HWS.out.bel hW)
  have hB1 : Below wS.heap.size wS wS.drew := ⟨rfl, rfl, rfl, Nat.le_refl _, fun _ _ => rfl⟩
  have hB2 : Below wS.heap.size wS (wS.alloc (Obj.cells #[.int .u32 0, .int .i64 0, .int .i64 0, .int .u32 0, .int .u32 0] 120)).drew := ((Below.refl _ wS).alloc (Nat.le_refl _) _).drew
  go_wp2_with fail
  apply wp_meet
  case h1 =>
   go_region_held3 (fun w' => w'.cell? ⟨bt, 0, none⟩ = some (.slice va L cap) ∧ w'.cell? ⟨w.heap.size, 0, none⟩ = some (.int .u32 ad) ∧ w'.cell? ⟨w.heap.size, 1, none⟩ = some (.int .i64 len)) (first | (simp [go_sem, cS, q0, q1]; done) | (refine ⟨?_, ?_, ?_⟩ <;> assumption) | go_keep)
    (first
      | (go_at_call 62; refine (HWORD.out _ (by first | exact hB1 | exact hB2)).mono ?_; rintro e w5 ⟨rfl, rfl⟩))
   all_goals exact ⟨rfl, rfl, rfl⟩
  obtain ⟨wN, hwN⟩ : ∃ wN, (wS.alloc (Obj.cells #[.int .u32 ad, .int .i64 len, .int .i64 way, .int .u32 0, .int .u32 0] 120)).drew = wN := ⟨_, rfl⟩
  have hbN : Below wS.heap.size wS wN := by rw [← hwN]; exact ((Below.refl _ wS).alloc (Nat.le_refl _) _).drew
  have hsN : wS.heap.size < wN.heap.size := by rw [← hwN]; show wS.heap.size < (wS.alloc _).heap.size; simp
  have hN : NBox wS.heap.size ad len way 0 0 wN := by rw [← hwN]; constructor <;> simp
  have HZN : Hid (∀ o, wN.frozen? ⟨wS.heap.size, o, none⟩ = false) := fun o => by rw [← hwN]; simp
  have HNB : Hid (NBox wS.heap.size ad len way 0 0 wN) := hN
  have r0 := cell_bel q0 hbN
  have r1 := cell_bel q1 hbN
  have cN := cell_bel cS hbN
  have hbn : Below w.heap.size w wN := hbs.trans (hbN.mono hbs.size)
  have hlN : w.heap.size < wS.heap.size := hsS
  rw [hwN]
  clear hwN q0 q1 cS hB1 hB2
  obtain ⟨c0, c1, c2, c3, c4⟩ := hN
  obtain ⟨ws, hws⟩ : ∃ x, nodeWs n ad len way 0 0 ++ [(lk, n)] = x := ⟨_, rfl⟩
  have HLD : Hid (Calls _ _ _ _ _) := lead_any base bt ms made fr o1 o2 m0 m1 hms lk hlk ad len way 0 0 a0 a1 l0 l1 (by omega) hw2 (by decide) (by decide) (by decide) (by decide) n HN.out wN (H.out.bel hbn)
  rw [hws] at HLD
  go_wp2_with fail
  refine HLD.out.mono ?_
  rintro e w5 ⟨v, o5, rfl, ht5, hk5, ho5⟩
  have HDID : Hid (Did base bt o1 o2 w ws 0 (putsP ms ws) (spM made fr) fr.dropLast (.returned (.tuple #[v, .int .i64 0])) w5) := ⟨v, o5, o2, rfl, ht5, (KT.bel hbn).trans hk5, ⟨row_low ho5.row hbn.size, ho5.n1, hltw, ho5.u32⟩⟩
  clear ht5 hk5 ho5
  go_wp2_with fail
  go_ret2
  rw [hws]
  exact HDID.out

end Go.Proofs.Ytjhdjbhpofhiaab.Fb
