/- TriePlays answers true where what came in is of bulk at most 1048576: whatever the list of steps, the tries and their books say the same at every step. -/
import Derived.Test.YtibmhdfodmkahaaMgD
import Derived.Test.YtibmhdfodmkahaaMgC
import Derived.Test.YtibmhdfodmkahaaMgB
import Derived.Test.YtibmhdfodmkahaaMgE
import Derived.Test.YtibmhdfodmkahaaChecked
import Derived.Test.YtibmhdfodmkahaaRows
import Derived.Lib.SmallJoins
import Derived.Deep.Slices
import Derived.Deep.Strs
import Derived.Carry
import Derived.JoinedCond
namespace Go.Proofs.Ytibmhdfodmkahaa.Tu
open Go.ChangeShapes Go.WideShapes Go.ChangeAt Go.RowKit Go.Joins Go.Proofs.Ytibmhdfodmkahaa.PM Go.Proofs.Ytibmhdfodmkahaa.TrM Go.Proofs.Ytibmhdfodmkahaa.Ask Go.Proofs.Ytibmhdfodmkahaa.Tri
set_option linter.unusedVariables false
set_option linter.unusedSimpArgs false

set_option maxRecDepth 1000000 in
set_option maxHeartbeats 16000000 in
/-- behind the last step -/
theorem case_X {w wr : World} {ss : List Sp} {L cap : Nat} {va : Option Addr} {vt vb : Value} {U : Nat → Value} (h : LI w ss L vt vb wr) :
    Code.wp Try.prog body (Exit.then (fun a' w'' => WI w ss va L cap a' w'' ∧ Wmu L a' w'' < L - L) (QX w ss va L cap)) ⟨fr U va L cap vt vb (.int .i64 (L : Int)), []⟩ wr := by
  have H : Hid (LI w ss L vt vb wr) := h
  clear h
  conv => arg 2; whnf
  unfold fr
  go_wp2_with fail
  show WX w ss va L cap _ _
  obtain ⟨U', hU⟩ := fr_mk (va := va) (L := L) (cap := cap) (vt := vt) (vb := vb)
  exact ⟨_, vt, vb, _, H.out, hU⟩
theorem own_form {α : Type} {E : Ge.El α} {N : Nat} {w : World} {v : Value} {xs : List α} (h : Ge.OwnL E N w v xs) (h0 : 0 < xs.length) : ∃ g c, v = .slice (some ⟨g, 0, none⟩) xs.length c := by
  rcases h.row.2 with ⟨h1, h2⟩ | ⟨g, c, cur, h1, h2, h3⟩
  · omega
  · exact ⟨g, c, h1⟩
theorem round {w wr : World} {ss : List Sp} {L cap : Nat} {va : Option Addr} {a : Act} (hL : ss.length = L) (hbig : L ≤ 1048576) (H : Ge.Lst ES w va ss) (HU : ∀ s ∈ ss, SpOk s) (h : WI w ss va L cap a wr) :
    Code.wp Try.prog body (Exit.then (fun a' w'' => WI w ss va L cap a' w'' ∧ Wmu L a' w'' < Wmu L a wr) (QX w ss va L cap)) a wr := by
  obtain ⟨U, vt, vb, k, hk, hli, rfl⟩ := h
  rw [Wmu_fr]
  by_cases hkl : k < L
  · obtain ⟨ts, bts, bks, hst⟩ := hli
    have hp := hst.pos
    have e1 : bts.length = ts.length := hst.l1
    have e2 : bks.length = ts.length := hst.l2
    obtain ⟨g1, ct, rfl⟩ := own_form hst.ot (by omega)
    obtain ⟨g2, cb, rfl⟩ := own_form hst.ob (by omega)
    rw [e1, e2] at hst ⊢
    have hkd : k < ss.length := by omega
    have hcase : (ss[k].kind < 0 ∨ 10 < ss[k].kind) ∨ ss[k].kind = 0 ∨ ss[k].kind = 1 ∨ ss[k].kind = 2 ∨ ss[k].kind = 3 ∨ ss[k].kind = 4 ∨ ss[k].kind = 5 ∨ ss[k].kind = 6 ∨ ss[k].kind = 7 ∨ ss[k].kind = 8 ∨ ss[k].kind = 9 ∨ ss[k].kind = 10 := by omega
    rcases hcase with h | h | h | h | h | h | h | h | h | h | h | h
    · exact case_N hL hbig hkl hkd H _ rfl (HU _ (List.getElem_mem hkd)) hst rfl h
    · exact case_0 hL hbig hkl hkd H _ rfl (HU _ (List.getElem_mem hkd)) hst rfl h
    · exact case_1 hL hbig hkl hkd H _ rfl (HU _ (List.getElem_mem hkd)) hst rfl h
    · exact case_2 hL hbig hkl hkd H _ rfl (HU _ (List.getElem_mem hkd)) hst rfl h
    · exact case_3 hL hbig hkl hkd H _ rfl (HU _ (List.getElem_mem hkd)) hst rfl h
    · exact case_4 hL hbig hkl hkd H _ rfl (HU _ (List.getElem_mem hkd)) hst rfl h
    · exact case_5 hL hbig hkl hkd H _ rfl (HU _ (List.getElem_mem hkd)) hst rfl h
    · exact case_6 hL hbig hkl hkd H _ rfl (HU _ (List.getElem_mem hkd)) hst rfl h
    · exact case_7 hL hbig hkl hkd H _ rfl (HU _ (List.getElem_mem hkd)) hst rfl h
    · exact case_8 hL hbig hkl hkd H _ rfl (HU _ (List.getElem_mem hkd)) hst rfl h
    · exact case_9 hL hbig hkl hkd H _ rfl (HU _ (List.getElem_mem hkd)) hst rfl h
    · exact case_10 hL hbig hkl hkd H _ rfl (HU _ (List.getElem_mem hkd)) hst rfl h
  · obtain rfl : k = L := by omega
    exact case_X hli
theorem loop_any {w wr : World} {ss : List Sp} {L cap : Nat} {va : Option Addr} {vt vb : Value} {a : Act} (hL : ss.length = L) (hbig : L ≤ 1048576) (H : Ge.Lst ES w va ss) (HU : ∀ s ∈ ss, SpOk s) (h : LI w ss 0 vt vb wr) (ha : ∃ U, a = ⟨fr U va L cap vt vb (.int .i64 ((0 : Nat) : Int)), []⟩) :
    Code.wp Try.prog (Code.loop body) (QX w ss va L cap) a wr := by
  obtain ⟨U, rfl⟩ := ha
  exact wp_loop (WI w ss va L cap) (Wmu L) ⟨U, vt, vb, 0, Nat.zero_le _, h, rfl⟩ (fun a w' hi => round hL hbig H HU hi)

set_option maxRecDepth 1000000 in
set_option maxHeartbeats 16000000 in
theorem play_any (va : Option Addr) (cap : Nat) (ss : List Sp) (L : Nat) (hL : ss.length = L) (hbig : L ≤ 1048576) (w : World) (h : Ge.Lst ES w va ss) (hu : ∀ s ∈ ss, SpOk s) :
    Calls Try.prog 6 #[.slice va L cap] w fun e w' => e = .returned (.bool true) ∧ Below w.heap.size w w' := by
  have H : Hid (Ge.Lst ES w va ss) := h
  have HU : Hid (∀ s ∈ ss, SpOk s) := hu
  have HL : Hid (ss.length = L) := hL
  clear h hu hL
  go_enter Try.func6, Try.ntmps6
  go_wp2_with fail
  refine (new_any w).mono ?_
  rintro e w1 ⟨rfl, hb1, hs1, hh1⟩
  have HLI : Hid (LI w ss 0 (.slice (some ⟨w1.heap.size, 0, none⟩) 1 1) (.slice (some ⟨w1.heap.size + 1, 0, none⟩) 1 1) _) := LI.start ss hb1 hs1 hh1
  clear hb1 hs1 hh1
  go_wp2_with fail
  refine Code.wp_mono ?_ (loop_any HL.out hbig H.out HU.out HLI.out fr_mk)
  intro e a W hq
  match e, hq with
  | .exit 0, hq =>
    obtain ⟨U, vt, vb, iv, hli, rfl⟩ := hq
    obtain ⟨ts, bts, bks, hst⟩ := hli
    have hp := hst.pos
    have e1 : bts.length = ts.length := hst.l1
    have e2 : bks.length = ts.length := hst.l2
    have h12 := hst.few
    obtain ⟨g1, ct, rfl⟩ := own_form hst.ot (by omega)
    obtain ⟨g2, cb, rfl⟩ := own_form hst.ob (by omega)
    rw [e1, e2] at hst ⊢
    obtain ⟨n, hn⟩ : ∃ n, ts.length = n := ⟨_, rfl⟩
    rw [hn] at hst e1 e2 h12 ⊢
    have HN : Hid (ts.length = n) := hn
    have E1 : Hid (bts.length = n) := e1
    have E2 : Hid (bks.length = n) := e2
    have HST : Hid (St w.heap.size w (keys (ss.take L)) ts ts bts bks (.slice (some ⟨g1, 0, none⟩) n ct) (.slice (some ⟨g2, 0, none⟩) n cb) W) := hst
    have HK1 : Hid ((keys (ss.take L)).length ≤ 1099511627776) := keys_le (Nat.le_refl _) hbig
    clear hst hp e1 e2 hn HLI H HU
    rename_i hKK
    refine hKK _ _ ?_
    clear hKK
    unfold fr
    go_wp2_with fail
    go_loopw [326] (fun iv wx => ∃ k : Nat, k ≤ n ∧ iv = .int .i64 (k : Int) ∧ St w.heap.size w (keys (ss.take L)) ts ts bts bks (.slice (some ⟨g1, 0, none⟩) n ct) (.slice (some ⟨g2, 0, none⟩) n cb) wx) (fun iv _ => n - (intOf iv).toNat)
    case atStart => exact ⟨0, by omega, rfl, HST.out⟩
    case round =>
      obtain ⟨k, hk, rfl, hst⟩ := hrel
      have HS2 : Hid (St w.heap.size w (keys (ss.take L)) ts ts bts bks (.slice (some ⟨g1, 0, none⟩) n ct) (.slice (some ⟨g2, 0, none⟩) n cb) wr) := hst
      clear hst HST
      by_cases hkl : k < n
      · have hqb : k < bts.length := by rw [E1.out]; exact hkl
        have hqk : k < bks.length := by rw [E2.out]; exact hkl
        have hqt : k < ts.length := by rw [HN.out]; exact hkl
        obtain ⟨bt, hbt⟩ : ∃ bt, bts[k] = bt := ⟨_, rfl⟩
        obtain ⟨bk, hbk⟩ : ∃ bk, bks[k] = bk := ⟨_, rfl⟩
        obtain ⟨T, hT⟩ : ∃ T, ts[k] = T := ⟨_, rfl⟩
        have d0 : wr.cell? ⟨g1, k, none⟩ = some (.pointer (some ⟨bt, 0, none⟩)) := by
          have := HS2.out.ot.at0.1 k hqb 0 (by decide)
          rw [hbt] at this; simpa [EP] using this
        have d1 : wr.cell? ⟨g2, k, none⟩ = some (.slice bk.1 bk.2.1 bk.2.2) := by
          have := HS2.out.ob.at0.1 k hqk 0 (by decide)
          rw [hbk] at this; simpa [EB] using this
        have HG : Hid (Gd (keys (ss.take L)) T) := by rw [← hT]; exact HS2.out.gt _ (List.getElem_mem hqt)
        have hBO := HS2.out.bo k hqk hqt
        have hHH := HS2.out.ho k hqb hqt
        rw [hT, hbk] at hBO
        rw [hT, hbt] at hHH
        obtain ⟨pt, hht⟩ := hHH
        obtain ⟨bka, bkl, bkc⟩ := bk
        dsimp only at d1
        have hbl : bkl = (allT T).length := hBO.len
        subst hbl
        have hlen : (allT T).length ≤ 1099511627776 := Nat.le_trans HG.out.len HK1.out
        have HALL : Hid (∀ W, Below wr.heap.size wr W → Calls Try.prog 11 #[.pointer (some ⟨bt, 0, none⟩)] W fun e w' => ∃ a cap, e = .returned (.slice a (allT T).length cap) ∧ Arr3 w' a (allT T) ∧ Below W.heap.size W w') := fun W hW => trieAll_any _ bt T pt _ W (hht.bel hW) HG.out.wf (by omega)
        have HARR : Hid (Arr3 wr bka (allT T)) := hBO.arr
        have hkk : (k : Int) < n := by omega
        have kk0 : (0 : Int) ≤ k := by omega
        clear hBO hht hbt hbk hT HG
        go_wp2_with fail
        go_region_with (first | (go_at_call 11; refine (HALL.out _ (bel_q wr 1)).mono ?_; rintro e wE ⟨xa, xc, rfl, hxa, hbE0⟩; have hbE : Below wr.heap.size wr wE := (bel_q wr 1).trans hbE0; have d1x := cell_bel d1 hbE; have HAA : Hid (Arr3 wE xa (allT T)) := hxa; have HBB : Hid (Arr3 wE bka (allT T)) := HARR.out.bel hbE; clear hxa hbE0) | (go_at_call 10; refine (same_yes _ _ _ _ (allT T) (-1) (by decide) _ HAA.out HBB.out).mono ?_; rintro e wF ⟨rfl, hbF⟩))
        all_goals
          have hbDF : Below wr.heap.size wr wF := hbE.trans (hbF.mono hbE.size)
          have HSX : Hid (St w.heap.size w (keys (ss.take L)) ts ts bts bks (.slice (some ⟨g1, 0, none⟩) n ct) (.slice (some ⟨g2, 0, none⟩) n cb) wF) := HS2.out.below hbDF
          clear HALL HARR HAA HBB hbE hbF d1x HS2
          go_wp2_with fail
          go_roundw
          case rel => exact ⟨k + 1, by omega, by simp, HSX.out⟩
          case measure => simp [intOf]; omega
      · obtain rfl : k = n := by omega
        go_wp2_with fail
        simp [bodyPost, results, go_sem]
        exact HS2.out.bel
  | .exit (_ + 1), hq => exact hq.elim
end Go.Proofs.Ytibmhdfodmkahaa.Tu
namespace Go.Proofs.Ytibmhdfodmkahaa
open Go.ChangeShapes Go.WideShapes Go.ChangeAt Go.RowKit Go.Joins Go.Deep Go.Proofs.Ytibmhdfodmkahaa.PM Go.Proofs.Ytibmhdfodmkahaa.TrM Go.Proofs.Ytibmhdfodmkahaa.Ask Go.Proofs.Ytibmhdfodmkahaa.Tri Go.Proofs.Ytibmhdfodmkahaa.Tu
namespace TPlayP
set_option linter.unusedVariables false

set_option maxRecDepth 100000 in
theorem tplays_any (va : Option Addr) (cap : Nat) (ss : List Sp) (L : Nat) (hL : ss.length = L) (hbig : L ≤ 1048576) (w : World) (h : Ge.Lst ES w va ss) (hu : ∀ s ∈ ss, SpOk s) :
    Calls Try.prog 3 #[.slice va L cap] w fun e w' => e = .returned (.bool true) ∧ Below w.heap.size w w' := by
  go_enter Try.func3, Try.ntmps3
  go_wp2_with fail
  refine (play_any va cap ss L hL hbig w h hu).mono ?_
  rintro e w1 ⟨rfl, hb⟩
  go_wp2_with fail
  simp [bodyPost, results, go_sem]
  exact hb

theorem own : ownKnob Try.prog.godebug = none := by kernel_rfl
theorem laidOut : laidOutB Try.prog = true := by kernel_rfl
theorem cellsP : Try.prog.cellsOf 33 = 2 := by kernel_rfl
theorem cellsS : Try.prog.cellsOf 35 = 7 := by kernel_rfl
theorem cells32 : Try.prog.cellsOf 31 = 1 := by kernel_rfl
theorem cells64 : Try.prog.cellsOf 3 = 1 := by kernel_rfl

section
variable {H : Type} {enc : TypeId × Value → H}
theorem lt_of {W : World} {b o : Nat} {v : Value} (h : W.cell? ⟨b, o, none⟩ = some v) : b < W.heap.size := World.block_lt_of_cell? W _ h
theorem weighs (d : DataW H) : 1 ≤ Rows.uptoBulk d := by
  cases d with
  | lit l => cases l <;> simp [Rows.uptoBulk]
  | _ => simp [Rows.uptoBulk]
theorem many (l : List (DataW H)) : l.length ≤ Rows.uptoBulkAll l := by
  induction l with
  | nil => simp
  | cons x r ih => have := weighs x; simp only [Rows.uptoBulkAll, List.length_cons]; omega

set_option maxRecDepth 100000 in
set_option maxHeartbeats 2000000 in
theorem open7 {W : World} {a : Option Addr} {len cap : Nat} {d : DataW H} {p : List MemPlace} (h : DataW.Trod enc Try.prog W 0 (fun _ => true) true 22 (.slice a len cap) d p) : ∃ ss : List Sp, len = ss.length ∧ Ge.Lst ES W a ss ∧ (∀ s ∈ ss, SpOk s) ∧ ss.length ≤ Rows.uptoBulk d := by
  obtain ⟨n, h⟩ := h
  rcases open_slice Try.underlying22 h with ⟨hc, -⟩ | ⟨ad, len', cap', m, k, D, Pl, hc, -, hl, hm, hmm, hx, hall⟩
  · simp [Value.cells] at hc
    obtain ⟨rfl, rfl, rfl⟩ := hc
    exact ⟨[], rfl, ⟨by simp, fun i hi => absurd hi (by simp)⟩, fun d hd => (by cases hd), by simp⟩
  · simp [Value.cells] at hc
    obtain ⟨rfl, rfl, rfl⟩ := hc
    simp only [if_true] at hmm
    subst hmm
    simp only [Prod.mk.injEq] at hx
    have hblk : len ≤ Rows.uptoBulk d := by
      rw [hx.1]
      simp only [Rows.uptoBulk]
      have h1 := many ((List.range len).map D)
      simp only [List.length_map, List.length_range] at h1
      omega
    rw [cellsS] at hall
    have each : ∀ i, i < m → ∃ q : Sp, SpOk q ∧ ∀ j v, (spL q)[j]? = some v → W.cell? (ad.add (i * 7 + j)) = some v := fun i hi => by
      obtain ⟨cs', g, t⟩ := hall i hi
      obtain ⟨xs, n1, -, -, hlen, hxl, hf⟩ := DataW.trod_struct Try.underlying35 t
      rw [cellsS] at hlen
      obtain ⟨-, -, hcell⟩ := World.cells?_some g
      have f0 := hf 0 _ rfl
      have f1 := hf 1 _ rfl
      have f2 := hf 2 _ rfl
      have f3 := hf 3 _ rfl
      have f4 := hf 4 _ rfl
      have f5 := hf 5 _ rfl
      match cs', hlen, xs, hxl with
      | [c0, c1, c2, c3, c4, c5, c6], _, [x0, x1, x2, x3, x4, x5], _ =>
        simp [cellsP, cells64, cells32] at f0 f1 f2 f3 f4 f5
        obtain ⟨z0, z1, n2, -, -, u0, u1⟩ := trod_struct2 Try.underlying33 f2
        simp [cells32, cells64] at u0 u1
        obtain ⟨K0, k0, -, -⟩ := DataW.trod_int Try.underlying3 f0
        obtain ⟨K1, k1, -, kw⟩ := DataW.trod_int Try.underlying3 f1
        obtain ⟨N0, h0, -, hw⟩ := DataW.trod_int Try.underlying31 u0
        obtain ⟨N1, h1, -, -⟩ := DataW.trod_int Try.underlying3 u1
        obtain ⟨N2, h2, -, -⟩ := DataW.trod_int Try.underlying3 f3
        obtain ⟨N3, h3, -, -⟩ := DataW.trod_int Try.underlying3 f4
        obtain ⟨N4, h4, -, hw4⟩ := DataW.trod_int Try.underlying31 f5
        simp at k0 k1 h0 h1 h2 h3 h4
        subst k0 k1 h0 h1 h2 h3 h4
        have hb := bounds_u32 hw
        have hb4 := bounds_u32 hw4
        have hbk := bounds_i64 kw
        refine ⟨⟨K0, K1, N0, N1, N2, N3, N4⟩, ⟨⟨hb.1, by have := hb.2; show N0 < _; omega⟩, ⟨hb4.1, by have := hb4.2; show N4 < _; omega⟩, ⟨by show _ ≤ K1; omega, by show K1 < _; omega⟩⟩, fun j v hj => ?_⟩
        have hjl : j < 7 := (List.getElem?_eq_some_iff.1 hj).1
        have e0 := hcell j hjl
        rw [add_add] at e0
        rw [e0]
        exact hj
    haveI : Inhabited Sp := ⟨⟨0, 0, 0, 0, 0, 0, 0⟩⟩
    obtain ⟨q, hq⟩ := choose_lt each
    refine ⟨(List.range len).map q, by simp, ⟨?_, ?_⟩, ?_, by simpa using hblk⟩
    · simp; unfold maxLen at hm; omega
    · intro i hi
      have hi' : i < len := by simpa using hi
      have hs : ad.spot = none := by simpa [Addr.add] using World.cell?_spot ((hq 0 (by omega)).2 0 _ rfl)
      obtain ⟨b, o, sp⟩ := ad
      obtain rfl : sp = none := hs
      have hc2 := (hq i (by omega)).2
      have cc : ∀ j v, (spL (q i))[j]? = some v → W.cell? ⟨b, o + i * 7 + j, none⟩ = some v := fun j v hj => by
        have := hc2 j v hj
        rw [Addr.add_lit] at this
        rw [Nat.add_assoc]
        exact this
      refine ⟨b, o, rfl, lt_of (cc 0 _ rfl), fun j hj => ?_⟩
      have hj7 : j < (spL (q i)).length := hj
      have e5 : ((List.range len).map q)[i] = q i := by simp
      rw [e5]
      show W.cell? ⟨b, o + i * 7 + j, none⟩ = (spL (q i))[j]?
      rw [List.getElem?_eq_getElem hj7]
      exact cc j _ (List.getElem?_eq_getElem hj7)
    · intro d hd
      obtain ⟨i, hi, rfl⟩ := List.mem_map.1 hd
      exact (hq i (by have := List.mem_range.1 hi; omega)).1
end

set_option maxHeartbeats 800000 in
set_option maxRecDepth 100000 in
theorem lifted (os : Os) (started : os.Started) (H : Type) (enc : TypeId × Value → H) (F : Stop.Interp) :
    ReturnsInHanded {} Try.checked os 3 .any ((Rows.OpenSpec.upto Rows.triePlaysSpec).pre6 enc Try.prog Try.f3 Rows.triePlaysUptoRow.domain false) (((Rows.OpenSpec.upto Rows.triePlaysSpec).at F).post enc Try.prog Try.f3 false true false false) := by
  refine returnsInHanded_of_cond (C := Try.checked) (s := Rows.OpenSpec.upto Rows.triePlaysSpec) (k := Rows.uptoSmall) rfl own started (by kernel_rfl) Try.func3
    (OpenSpec.witness (enc := enc) (C := Try.checked) (s := Rows.OpenSpec.upto Rows.triePlaysSpec) (k := Rows.uptoSmall) rfl false ⟨#[], #[.slice none 0 0], []⟩ 8 (by kernel_rfl) (by kernel_rfl) (by kernel_rfl)
      (x := ([.nil], [], [])) (by kernel_rfl) rfl (by kernel_rfl)) ?_
  intro W base args ds gs before hval0 hW _ hk _
  have hval : ∀ (j : Nat) t v, Try.f3.params[j]? = some t → args[j]? = some v → Value.okWide Try.prog W .any base t v := hval0
  have hW' := hW
  obtain ⟨p, q, hA0, hV, rfl, _, _⟩ := hW
  have hA : DataW.TrodAll enc Try.prog W 0 (fun _ => true) true Try.f3.params.toList args.toList ds p := hA0
  rw [Try.params3] at hA hval
  obtain ⟨v0, vs0, d0, ds0, p0, q0, hargs, rfl, rfl, h0, r0⟩ := trodAll_cons hA
  obtain ⟨rfl, rfl, rfl⟩ := trodAll_nil r0
  obtain rfl : args = #[v0] := by cases args; simp_all
  obtain ⟨rfl, rfl⟩ := trodVars_none hV
  obtain ⟨a0, len0, cap0, rfl⟩ := okWide_slice Try.underlying22 (hval 0 22 v0 rfl rfl)
  clear hA0 hval0
  simp only [List.append_nil] at hW' hk
  have hlt : ∀ x ∈ p0, x.block < W.heap.size := fun x hx => by simpa using hW'.lt x (by simpa using hx)
  obtain ⟨ss, rfl, hlst, hu, hblk⟩ := open7 h0
  have hsm : ss.length ≤ 1048576 := by
    have h : Rows.uptoBulkAll [d0] ≤ 1048576 := of_decide_eq_true hk
    simp only [Rows.uptoBulkAll] at h
    omega
  refine (tplays_any a0 cap0 ss ss.length rfl hsm W hlst hu).mono fun e W' ⟨he, bel⟩ => ?_
  subst he
  have harg0 := Below.trod laidOut (by kernel_rfl) (of_decide_eq_true (by kernel_rfl)) h0 bel (fun x hx => hlt x hx)
  exact ⟨_, rfl, _, _, _, [], _, [], hW', trodAll_mk1 (shut_bool Try.underlying4 _), trodAll_cons_mk harg0 trodAll_mk0, rfl, bel.frame _, fun h => by cases h⟩
end TPlayP

theorem tplays_holds : Rows.TriePlaysUptoSaid :=
  OpenClaim.holds_of_cond 3 Try.f3 rfl rfl rfl rfl rfl rfl rfl ⟨rfl, rfl, rfl, rfl, rfl⟩ rfl rfl rfl rfl rfl (by kernel_rfl) Try.func3 (by kernel_rfl)
    (of_decide_eq_true (by kernel_rfl)) (by unfold Func.isWrapper; first | (rw [if_pos (by decide +kernel)]; kernel_rfl) | (rw [if_neg (by decide +kernel)]; exact ⟨rfl, rfl⟩))
    (fun os started H enc _ F => TPlayP.lifted os started H enc F)
#print axioms tplays_holds
end Go.Proofs.Ytibmhdfodmkahaa
