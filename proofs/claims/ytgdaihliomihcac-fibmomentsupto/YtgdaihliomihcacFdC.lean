/- FibMoments: what it answers. -/
import Derived.Test.YtgdaihliomihcacFdB
import Derived.Lib.QuietBelow
import Derived.BigQuiet
namespace Go.Proofs.Ytgdaihliomihcac.Fb
open Go.ChangeShapes Go.WideShapes Go.ChangeAt Go.RowKit Go.Joins Go.Proofs.Ytgdaihliomihcac.PM Go.Proofs.Ytgdaihliomihcac.Ask
set_option linter.unusedVariables false

theorem regrown_low {w w' : World} (h : ∃ p : Regrown, w' = Sort.grow (redrawn w p.d) p.os) : Below w.heap.size w w' := by
  obtain ⟨p, rfl⟩ := h; exact below_regrown w p.d p.os
def Two (v1 : Option Addr) (L1 p1 : Nat) (x1 : Int) (v2 : Option Addr) (L2 p2 : Nat) (x2 : Int) (v : Option Addr) (L p : Nat) (x : Int) : Prop := (v = v1 ∧ L = L1 ∧ p = p1 ∧ x = x1) ∨ (v = v2 ∧ L = L2 ∧ p = p2 ∧ x = x2)
theorem infoB : (Try.prog.info? 4).map (fun i => (i.zero, i.size, i.bytes)) = some (some (.bool false), 1, 1) := by kernel_rfl

set_option maxRecDepth 100000 in
set_option maxHeartbeats 8000000 in
theorem moments_any (va vm : Option Addr) (cap cm : Nat) (ss : List (Int × Int × Int × Bool)) (L : Nat) (hL : ss.length = L) (hbig : L ≤ 1048576) (mo : List Int) (N0 : Nat) (hN0 : mo.length = N0) (hbig2 : N0 ≤ 1048576) (w : World) (h : Arr4 w va ss) (hm : Wds w vm mo) (hnil : vm = none → N0 = 0 ∧ cm = 0) :
    Calls Try.prog 3 #[.slice va L cap, .slice vm N0 cm] w fun e w' => e = .returned (.bool true) ∧ Below w.heap.size w w' := by
  have H : Hid (Arr4 w va ss) := h
  have HL : Hid (ss.length = L) := hL
  have HAD : Hid (∀ W, Below w.heap.size w W → Calls Try.prog 9 #[.slice va L cap, .slice vm N0 cm] W fun e w' => ∃ v, e = .returned v ∧ AD W N0 L v w') := fun W hW => addrs_any va vm cap cm ss L hL mo N0 hN0 (by omega) W (h.bel hW) (hm.bel hW) hnil
  clear h hL hm hN0 hnil
  go_enter Try.func3, Try.ntmps3
  go_wp2_with fail
  refine (new_tab w).mono ?_
  rintro e w1 ⟨rfl, ht1, hb1, hs1⟩
  have HT1 : Hid (Tab (w.heap.size + 1) w1 w.heap.size [] 0 [] none none) := ht1
  have HB1 : Hid (Below w.heap.size w w1) := hb1
  have HS1 : Hid (w1.heap.size = w.heap.size + 1) := hs1
  clear ht1 hb1 hs1
  go_wp2_with fail
  obtain ⟨wX, hwX⟩ : ∃ wX, w1.alloc (Obj.cells #[.slice none 0 0] 28) = wX := ⟨_, rfl⟩
  have HXB : Hid (Below w1.heap.size w1 wX ∧ wX.heap.size = w1.heap.size + 1 ∧ wX.cell? ⟨w1.heap.size, 0, none⟩ = some (.slice none 0 0) ∧ wX.frozen? ⟨w1.heap.size, 0, none⟩ = false) := by
    rw [← hwX]; exact ⟨(Below.refl _ w1).alloc (Nat.le_refl _) _, by simp, by simp, by simp⟩
  rw [hwX]
  clear hwX
  refine (HAD.out wX (HB1.out.trans (HXB.out.1.mono HB1.out.size))).mono ?_
  rintro e w2 ⟨v2, rfl, had2⟩
  obtain ⟨xs, hox, hxl⟩ := had2.own
  obtain ⟨aa, ac, rfl⟩ := hox.form
  obtain ⟨X, hX⟩ : ∃ X, xs.length = X := ⟨_, rfl⟩
  have HX : Hid (xs.length = X) := hX
  rw [hX] at hxl ⊢
  have hX9 : X ≤ 9223372036854775807 := by omega
  have HLQ : Hid (LQ w w.heap.size w1.heap.size w2.heap.size aa xs 0 (.slice none 0 0) w2) := by
    have e1 := HS1.out
    obtain ⟨bX, sX, cX, fX⟩ := HXB.out
    have hbb := had2.bel
    have hb2 : Below w1.heap.size w1 w2 := bX.trans (hbb.mono bX.size)
    refine ⟨[], 0, [], none, none, .nil, HB1.out.trans (hb2.mono HB1.out.size), HT1.out.bel hb2, Fit.new, ⟨World.ownsRow_nil _ _ _ _, by simp⟩, fun g e => by simp [Value.ownBlock] at e, fun i hi => ?_, hox.u32, ⟨⟨by have := hbb.size; omega, ?_⟩, none, 0, cell_bel cX hbb, ?_, ⟨by simp [TrM.allT], fun i hi => absurd hi (by simp [TrM.allT]), fun d hd => by simp [TrM.allT] at hd⟩, fun b o e => by cases e⟩, by decide, by simp [TrM.allT], ⟨Nat.le_refl _, by have := hbb.size; omega, Nat.le_refl _⟩⟩
    · rw [hX] at hox
      obtain ⟨b, o, e, hlt, hc⟩ := hox.wds.cells i hi
      subst e
      have := (hox.row.lt b (by simp [Value.ownBlock])).1
      refine ⟨b, o, rfl, ⟨hlt, ?_, by omega⟩, hc⟩
      rintro (e | e | e | e)
      · omega
      · cases e
      · cases e
      · simp [Value.ownBlock] at e
    · rintro (e | e | e | e)
      · omega
      · cases e
      · cases e
      · simp [Value.ownBlock] at e
    · exact (World.frozen?_of_block (w := wX) (hbb.block _ (by show w1.heap.size < _; omega))).trans fX
  have hbb0 : w.heap.size ≤ w1.heap.size := by have := HS1.out; omega
  have HBB : Hid (w.heap.size ≤ w1.heap.size) := hbb0
  obtain ⟨bt, hbt⟩ : ∃ bt, w.heap.size = bt := ⟨_, rfl⟩
  obtain ⟨bb, hbb⟩ : ∃ bb, w1.heap.size = bb := ⟨_, rfl⟩
  obtain ⟨N, hN⟩ : ∃ N, w2.heap.size = N := ⟨_, rfl⟩
  rw [hN, hbb] at HLQ
  rw [hbb] at HBB ⊢
  have HBT : Hid (w.heap.size = bt) := hbt
  rw [hbt] at HLQ ⊢
  clear had2 hox hX HAD HT1 HB1 HS1 hN hbt HXB hbb hbb0
  go_wp2_with fail
  go_loopw [7, 35] (fun u i wr => ∃ k : Nat, k ≤ L ∧ i = .int .i64 k ∧ LQ w bt bb N aa xs k u wr) (fun _ i _ => L - (intOf i).toNat)
  case atStart => exact ⟨0, by omega, rfl, HLQ.out⟩
  case round =>
    obtain ⟨k, hk, rfl, hlq⟩ := hrel
    have HLK : Hid (LQ w bt bb N aa xs k u7 wr) := hlq
    clear hlq HLQ
    by_cases hlt : k < L
    · have hkd : k < ss.length := by rw [HL.out]; exact hlt
      obtain ⟨ms, made, fr, o1, o2, t, hlq0⟩ := HLK.out
      obtain ⟨b, o, rfl, hbl, c0, c1, c2, c3⟩ := (H.out.bel hlq0.bel).cells k hkd
      have hin := H.out.u32 _ (List.getElem_mem hkd)
      obtain ⟨⟨ad, len, way, dr⟩, hy⟩ : ∃ y, ss[k] = y := ⟨_, rfl⟩
      rw [hy] at c0 c1 c2 c3 hin
      have x0 : 0 ≤ ad := hin.1
      have x1 : ad < 4294967296 := hin.2
      have hkk : (k : Int) < L := by omega
      have kk0 : (0 : Int) ≤ k := by omega
      have hmade := hlq0.made
      have hmk : made + 2 < 4294967296 := by omega
      have hml : ms.length ≤ 8 * L + 8 := by have := hlq0.fit.len; omega
      have HMADE : Hid (made ≤ 2 * k) := hlq0.made
      have HQ : Hid (LQ0 w bt bb N aa xs ms made fr o1 o2 t k u7 wr) := hlq0
      obtain ⟨t', ht'⟩ : ∃ t', stepT t ad len way dr = t' := ⟨_, rfl⟩
      have HT' : Hid (stepT t ad len way dr = t') := ht'
      have HWL : Hid (Bk.wantL (TrM.allT t) ad len way dr = TrM.allT t') := by rw [want_tree hlq0.fit.wf ad len way dr x0 x1, ht']; exact rfl
      have HFEW : Hid ((TrM.allT t').length ≤ k + 1) := by
        have h1 := want_len (TrM.allT t) ad len way dr
        rw [HWL.out] at h1
        have := hlq0.few
        show _ ≤ _; omega
      clear hlq0 hin hy HLK ht' hmade
      obtain ⟨wA, hwA⟩ : ∃ wA, wr.alloc (Obj.cells #[.int .u32 ad, .int .i64 len, .int .i64 way, .bool dr] 34) = wA := ⟨_, rfl⟩
      have HWA : Hid (wr.alloc (Obj.cells #[.int .u32 ad, .int .i64 len, .int .i64 way, .bool dr] 34) = wA) := hwA
      have hbA : Below wr.heap.size wr wA := by rw [← hwA]; exact (Below.refl _ wr).alloc (Nat.le_refl _) _
      have HBX : Hid (Box4 0 none wr.heap.size ad len way dr wA) := by rw [← hwA]; exact four wr ad len way dr _ _ _ (Nat.zero_le _) (fun g e => by cases e)
      have HQA : Hid (LQ0 w bt bb N aa xs ms made fr o1 o2 t k u7 wA) := HQ.out.next_bel hbA
      obtain ⟨bva, bcap, hbc, hbf, hba, hbx⟩ := HQ.out.bk.book
      have HBA : Hid (Bk.Arr3 wA bva (TrM.allT t)) := hba.bel hbA
      have HBXX : Hid (∀ b o, bva = some ⟨b, o, none⟩ → TrM.allT t ≠ [] → ¬ XB bt o1 o2 u7.ownBlock b ∧ b ≠ bb) := hbx
      have hbbl : bb < wr.heap.size := HQ.out.bk.ap.1
      obtain ⟨Lt, hLt⟩ : ∃ Lt, (TrM.allT t).length = Lt := ⟨_, rfl⟩
      have HLT : Hid ((TrM.allT t).length = Lt) := hLt
      have hLtk : Lt ≤ k := by have := HQ.out.few; omega
      rw [hLt] at hbc
      clear hwA hbA hba hbx hbf hLt HQ
      go_wp2_with fail
      rw [HWA.out]
      clear HWA c0 c1 c2 c3 hbc
      obtain ⟨er, her⟩ : ∃ er, Bk.wantE (TrM.allT t) ad len way dr = er := ⟨_, rfl⟩
      obtain ⟨may, hmay⟩ : ∃ may, Bk.wantM (TrM.allT t) ad len way dr = may := ⟨_, rfl⟩
      refine (Bk.want_any bva bcap (TrM.allT t) Lt HLT.out ad len way dr x0 x1 wA HBA.out (by omega) (TrM.allT t') HWL.out er her may hmay).mono ?_
      rintro e wB ⟨cva, ccap, rfl, hca, hcb, hcor⟩
      clear her hmay
      obtain ⟨Lc, hLc⟩ : ∃ Lc, (TrM.allT t').length = Lc := ⟨_, rfl⟩
      have HLC : Hid ((TrM.allT t').length = Lc) := hLc
      rw [hLc]
      obtain ⟨bx, hbx⟩ : ∃ bx, wr.heap.size = bx := ⟨_, rfl⟩
      rw [hbx] at HBX ⊢
      have HQB : Hid (LQ0 w bt bb N aa xs ms made fr o1 o2 t k u7 wB) := HQA.out.next_bel hcb
      have HBXB : Hid (Box4 0 none bx ad len way dr wB) := HBX.out.keep hcb.size (hcb.block bx HBX.out.lt.2) (by simp)
      have HCA : Hid (Bk.Arr3 wB cva (TrM.allT t')) := hca
      have HCX : Hid (∀ b o, cva = some ⟨b, o, none⟩ → TrM.allT t' ≠ [] → ¬ XB bt o1 o2 u7.ownBlock b ∧ b ≠ bb) := fun b o e hl => by
        rcases hcor with ⟨e2, e3⟩ | hge
        · exact HBXX.out b o (by rw [← e2, e]) (by rw [← e3]; exact hl)
        · have hg := hge b o e
          have hq := HQA.out
          refine ⟨?_, by have := hq.bk.ap.1; omega⟩
          rintro (e | e | e | e)
          · have := hq.lt; omega
          · have := (hq.tab.in1 b e.symm).2; omega
          · have := (hq.tab.in2 b e.symm).2; omega
          · have := (hq.own.row.lt b e.symm).2; omega
      have hbxl : bx < wB.heap.size := HBXB.out.lt.2
      clear hca hcb hcor hLc hbx HBX HQA HBA HBXX hbbl hLtk HLT
      obtain ⟨q0, q1, q2, q3, -, -⟩ := HBXB.out
      obtain ⟨wC, hwC⟩ : ∃ wC, wB.alloc (Obj.cells #[.slice cva Lc ccap] 28) = wC := ⟨_, rfl⟩
      have HWC : Hid (wB.alloc (Obj.cells #[.slice cva Lc ccap] 28) = wC) := hwC
      have hbC : Below wB.heap.size wB wC := by rw [← hwC]; exact (Below.refl _ wB).alloc (Nat.le_refl _) _
      have HQC : Hid (LQ0 w bt bb N aa xs ms made fr o1 o2 t k u7 wC) := HQB.out.next_bel hbC
      have HBKC : Hid (Bok (XB bt o1 o2 u7.ownBlock) wB.heap.size bb (TrM.allT t') wC) := by
        have hq := HQB.out
        refine ⟨⟨by rw [← hwC]; simp, ?_⟩, cva, ccap, ?_, ?_, HCA.out.bel hbC, HCX.out⟩
        · rintro (e | e | e | e)
          · have := hq.lt; omega
          · have := (hq.tab.in1 _ e.symm).2; omega
          · have := (hq.tab.in2 _ e.symm).2; omega
          · have := (hq.own.row.lt _ e.symm).2; omega
        · rw [HLC.out, ← hwC]; simp
        · rw [← hwC]; simp
      have HBXC : Hid (Box4 0 none bx ad len way dr wC) := HBXB.out.keep hbC.size (hbC.block bx hbxl) (by simp)
      have hsC : N ≤ wC.heap.size := HQC.out.lt.2.2
      have hmkb : X * 1 ≤ 281474976710656 := by omega
      clear hwC hbC HCA HCX
      obtain ⟨i0, hi, hz0, hz1, hz2⟩ := info_parts infoB
      go_wp2_with (at_make; rw [HWC.out]; refine wpList_make_full _ rfl _ _ 38 rfl N 4 i0 _ 1 Try.underlying38 hi hz0 hz1 _ _ _ _ X rfl rfl (by simp) (by simp) (by rw [hz2]; omega) (by unfold maxLen; omega) hsC ?_)
      intro wM hownM hgM
      have hbM : Below wC.heap.size wC wM := (Below.refl _ wC).grown hgM (Nat.le_refl _) (fun _ e => by cases e)
      have HMV : Hid (Mv wC.heap.size (List.replicate X false) wM) := Mv.made (by simpa using hownM)
      have hltM : wC.heap.size < wM.heap.size := (hownM.lt wC.heap.size rfl).2
      have HBM : Hid (Below wC.heap.size wC wM) := hbM
      have HBXM : Hid (Box4 0 none bx ad len way dr wM) := HBXC.out.keep hbM.size (hbM.block bx HBXC.out.lt.2) (by simp)
      have HTM : Hid (Tab (bt + 1) wM bt ms made fr o1 o2) := HQC.out.tab.bel hbM
      obtain ⟨bm, hbm⟩ : ∃ bm, wC.heap.size = bm := ⟨_, rfl⟩
      have HBMS : Hid (wC.heap.size = bm) := hbm
      rw [hbm] at HMV hltM ⊢
      obtain ⟨bc, hbc⟩ : ∃ bc, wB.heap.size = bc := ⟨_, rfl⟩
      rw [hbc] at HBKC ⊢
      clear hownM hgM hbM hbm hbc HBXC HBXB HWC q0 q1 q2 q3 hi hz0 hz1 hz2 hsC hmkb
      obtain ⟨q0, q1, q2, q3, -, -⟩ := HBXM.out
      go_wp2_with fail
      refine (do_step bt ms made fr o1 o2 t HQC.out.fit hmk ad len way dr x0 x1 t' HT'.out wM HTM.out).mono ?_
      rintro e w3 ⟨err, ws, made', fr', ⟨v, o1', o2', rfl, ht3, hk3, ho3⟩, hst⟩
      obtain ⟨wa, wc, rfl⟩ := ho3.form
      have HJ0 : Hid (JQ w bt bb bc bm N (8 * L + 8) aa xs o1' o2' (putsP ms ws) made' fr' (TrM.allT t) (TrM.allT t') wa ws ms 0 (List.replicate X false) u7 w3) := JQ.start HQC.out HBKC.out HBM.out HBMS.out hltM HMV.out ht3 hk3 ho3 hst.few hml
      have HST : Hid (Step ms made t t' ws made' fr') := hst
      have HFIT : Hid (Fit ms made fr t) := HQC.out.fit
      have HLT : Hid (w.heap.size ≤ bt ∧ bt < N) := ⟨HQC.out.lt.1, HQC.out.lt.2.1⟩
      have hn9 := hst.few
      obtain ⟨n, hn⟩ : ∃ n, ws.length = n := ⟨_, rfl⟩
      rw [hn] at hn9 ⊢
      have HN : Hid (ws.length = n) := hn
      clear ht3 hk3 ho3 hst hn HBXM HTM HBM HMV HBKC HQC HBMS q0 q1 q2 q3 hltM HQB
      go_wp2_with fail
      go_loopw [7, 57] (fun u i wq => ∃ (j : Nat) (bs : List Bool), j ≤ n ∧ i = .int .i64 j ∧ bs.length = X ∧ (j < n → Fl 0 bs) ∧ JQ w bt bb bc bm N (8 * L + 8) aa xs o1' o2' (putsP ms ws) made' fr' (TrM.allT t) (TrM.allT t') wa ws ms j bs u wq) (fun _ i _ => n - (intOf i).toNat)
      case atStart => exact ⟨0, List.replicate X false, by omega, rfl, by simp, fun _ => Fl.made X, HJ0.out⟩
      case round =>
        obtain ⟨j, bs, hj, rfl, hbsl, hfl, hjq⟩ := hrel
        have HJJ : Hid (JQ w bt bb bc bm N (8 * L + 8) aa xs o1' o2' (putsP ms ws) made' fr' (TrM.allT t) (TrM.allT t') wa ws ms j bs u7 wr) := hjq
        have HFL : Hid (j < n → Fl 0 bs) := hfl
        have HBSL : Hid (bs.length = X) := hbsl
        clear HJ0 hbsl hfl
        by_cases hjl : j < n
        · have hjd : j < ws.length := by rw [HN.out]; exact hjl
          obtain ⟨bw, pw, rfl, -, d0, d1⟩ := hjq.st.wr j hjd
          have hmem := List.getElem_mem hjd
          have hxI := hjq.st.w32 _ hmem
          have hmo := HST.out.most _ hmem
          have hgr := HST.out.grows
          have hmd := HMADE.out
          obtain ⟨⟨k1, y1⟩, hy⟩ : ∃ y, ws[j] = y := ⟨_, rfl⟩
          rw [hy] at d0 d1 hxI hmo
          have HY : Hid (ws[j] = (k1, y1)) := hy
          have y0 : 0 ≤ y1 := hxI.1
          have y2 : y1 < 4294967296 := hxI.2
          have hmo2 : (k1 : Int) ≤ 8 * L + 3 := by
            have : (k1 : Int) ≤ 4 * made' + 3 := hmo
            omega
          have hjj : (j : Int) < n := by omega
          have jj0 : (0 : Int) ≤ j := by omega
          have HF0 : Hid (Fl 0 bs) := HFL.out hjl
          clear hjq hmem hxI hmo hgr hmd hy HFL
          go_wp2_with fail
          obtain ⟨wB2, hwB2⟩ : ∃ wB2, wr.alloc (Obj.cells #[.int .i64 (k1 : Int), .int .u32 y1] 43) = wB2 := ⟨_, rfl⟩
          have hbB2 : Below wr.heap.size wr wB2 := by rw [← hwB2]; exact (Below.refl _ wr).alloc (Nat.le_refl _) _
          have HJB : Hid (JQ w bt bb bc bm N (8 * L + 8) aa xs o1' o2' (putsP ms ws) made' fr' (TrM.allT t) (TrM.allT t') (some ⟨bw, pw, none⟩) ws ms j bs u7 wB2) := HJJ.out.next_bel hbB2
          rw [hwB2]
          have hNl : N ≤ wB2.heap.size := by have := HJB.out.lt; omega
          clear hwB2 d0 d1 HJJ hbB2
          refine (fibPut_any N u7 (putsP ms (ws.take j)) k1 y1 y0 y2 L (by omega) (by omega) (by omega) (by omega) wB2 HJB.out.own hNl).mono ?_
          rintro e w7 ⟨u', rfl, ho7, hk7⟩
          have HJN : Hid (JQ w bt bb bc bm N (8 * L + 8) aa xs o1' o2' (putsP ms ws) made' fr' (TrM.allT t) (TrM.allT t') (some ⟨bw, pw, none⟩) ws ms (j + 1) bs u' w7) := HJB.out.next_put hjd (by rw [HY.out]; show k1 + 1 ≤ _; omega) (by rw [HY.out]; exact ho7) hk7
          obtain ⟨ua, uc, rfl⟩ := HJN.out.own.form
          obtain ⟨mm, hmm⟩ : ∃ mm, putsP ms (ws.take (j + 1)) = mm := ⟨_, rfl⟩
          have HMM : Hid (putsP ms (ws.take (j + 1)) = mm) := hmm
          obtain ⟨Lm, hLm⟩ : ∃ Lm, mm.length = Lm := ⟨_, rfl⟩
          have HLm : Hid (mm.length = Lm) := hLm
          have hLm8 : Lm ≤ 8 * L + 8 := by have := HJN.out.len; rw [hmm, hLm] at this; exact this
          rw [hmm, hLm] at HJN ⊢
          clear ho7 hk7 HJB hmm hLm hNl
          go_wp2_with fail
          go_loopw [73] (fun i wq => ∃ (q : Nat) (bs : List Bool), q ≤ X ∧ i = .int .i64 q ∧ bs.length = X ∧ Fl q bs ∧ (j + 1 < n → Fl 0 bs) ∧ JQ w bt bb bc bm N (8 * L + 8) aa xs o1' o2' (putsP ms ws) made' fr' (TrM.allT t) (TrM.allT t') (some ⟨bw, pw, none⟩) ws ms (j + 1) bs (.slice ua Lm uc) wq) (fun i _ => X - (intOf i).toNat)
          case atStart => exact ⟨0, bs, by omega, rfl, HBSL.out, HF0.out, fun _ => HF0.out, HJN.out⟩
          case round =>
            obtain ⟨q, bs2, hq, rfl, hbs2, hfq, hf0, hiq⟩ := hrel
            have HIQ : Hid (JQ w bt bb bc bm N (8 * L + 8) aa xs o1' o2' (putsP ms ws) made' fr' (TrM.allT t) (TrM.allT t') (some ⟨bw, pw, none⟩) ws ms (j + 1) bs2 (.slice ua Lm uc) wr) := hiq
            have HFQ : Hid (Fl q bs2) := hfq
            have HFZ : Hid (j + 1 < n → Fl 0 bs2) := hf0
            have HB2 : Hid (bs2.length = X) := hbs2
            clear HJN hfq hf0 hbs2 HF0 HBSL
            by_cases hql : q < X
            · have hqd : q < xs.length := by rw [HX.out]; exact hql
              obtain ⟨ba, oa, rfl, -, e0⟩ := hiq.st.adr q hqd
              have hai := hiq.st.u32 _ (List.getElem_mem hqd)
              obtain ⟨ax, hax⟩ : ∃ ax, xs[q] = ax := ⟨_, rfl⟩
              rw [hax] at e0 hai
              have hqq : (q : Int) < X := by omega
              have qq0 : (0 : Int) ≤ q := by omega
              have hoq := hiq.own
              rw [HMM.out] at hoq
              obtain ⟨O, hO⟩ : ∃ O, TrM.mV (TrM.bm ax none (TrM.allT t)) = O := ⟨_, rfl⟩
              obtain ⟨Nw, hNw⟩ : ∃ Nw, TrM.mV (TrM.bm ax none (TrM.allT t')) = Nw := ⟨_, rfl⟩
              obtain ⟨G, hG⟩ : ∃ G, findP mm ax = G := ⟨_, rfl⟩
              have HGG : Hid ((j + 1 < n ∧ G = O) ∨ (¬ j + 1 < n ∧ G = Nw)) := by
                have := leads HFIT.out HST.out (j + 1) (by rw [HN.out]; omega) ax hai.1 hai.2
                rw [HMM.out, hG, hO, hNw, HN.out] at this
                rcases this with ⟨h1, h2⟩ | ⟨h1, h2⟩
                · exact .inl ⟨h1, h2⟩
                · exact .inr ⟨by omega, h2⟩
              have HFD : Hid (∀ W, Below wr.heap.size wr W → Calls Try.prog 13 #[.slice ua Lm uc, .int .u32 ax] W fun e w' => e = .returned (.int .i64 G) ∧ Below W.heap.size W w') := fun W hW => by
                rw [← hG]; exact find_any ua uc mm Lm HLm.out ax hai.1 hai.2 W ((hoq.bel hW).wds)
              obtain ⟨v1, p1, hc1, ha1⟩ := hiq.st.bk.find
              obtain ⟨v2, p2, hc2, ha2⟩ := hiq.st.bkc.find
              obtain ⟨L1, hL1⟩ : ∃ L1, (TrM.allT t).length = L1 := ⟨_, rfl⟩
              obtain ⟨L2, hL2⟩ : ∃ L2, (TrM.allT t').length = L2 := ⟨_, rfl⟩
              rw [hL1] at hc1
              rw [hL2] at hc2
              have HF1 : Hid (∀ W v L p x, Two v1 L1 p1 O v2 L2 p2 Nw v L p x → Below wr.heap.size wr W → Calls Try.prog 14 #[.agg #[.slice v L p], .int .u32 ax] W fun e w' => e = .returned (.int .i64 x) ∧ Below W.heap.size W w') := fun W v L p x hx hW => by
                rcases hx with ⟨rfl, rfl, rfl, rfl⟩ | ⟨rfl, rfl, rfl, rfl⟩
                · exact Bk.bfind_any _ _ (TrM.allT t) ax hai.1 hai.2 W (ha1.bel hW) _ hL1 _ hO
                · exact Bk.bfind_any _ _ (TrM.allT t') ax hai.1 hai.2 W (ha2.bel hW) _ hL2 _ hNw
              have j1 := cell_regrown (w := wr) (a := ⟨bb, 0, none⟩) hc1
              have j2 := cell_regrown (w := wr) (a := ⟨bc, 0, none⟩) hc2
              clear hiq hai hax hoq hO hNw hG ha1 ha2 hL1 hL2 hc1 hc2
              go_wp2_with fail
              refine wp_region_quiet_below (by kernel_rfl) (by kernel_rfl) ?_
              repeat (go_big_quiet_step (first | (go_at_call 13; exact Calls.regrown_of (HFD.out _ (below_regrown _ _ _))) | (go_at_call 14; exact Calls.regrown_of (HF1.out _ _ _ _ _ (by first | exact .inl ⟨rfl, rfl, rfl, rfl⟩ | exact .inr ⟨rfl, rfl, rfl, rfl⟩) (below_regrown _ _ _)))))
              refine wpQuiet_nil ?_
              intro w8 hw8
              have hb8 := regrown_low hw8
              have HI8 : Hid (JQ w bt bb bc bm N (8 * L + 8) (some ⟨ba, oa, none⟩) xs o1' o2' (putsP ms ws) made' fr' (TrM.allT t) (TrM.allT t') (some ⟨bw, pw, none⟩) ws ms (j + 1) bs2 (.slice ua Lm uc) w8) := HIQ.out.next_bel hb8
              have hqb : q < bs2.length := by rw [HB2.out]; exact hql
              obtain ⟨m0, mz⟩ := HI8.out.mv.cells q hqb
              rw [HFQ.out.at_ hqb] at m0
              clear hb8 hw8 HIQ e0 j1 j2 HFD HF1
              have HEND : Hid (∀ v : Bool, (v = false ∨ ¬ j + 1 < n) → ∃ (q' : Nat) (bs : List Bool), q' ≤ X ∧ ((q : Int) + 1 = q') ∧ bs.length = X ∧ Fl q' bs ∧ (j + 1 < n → Fl 0 bs) ∧ JQ w bt bb bc bm N (8 * L + 8) (some ⟨ba, oa, none⟩) xs o1' o2' (putsP ms ws) made' fr' (TrM.allT t) (TrM.allT t') (some ⟨bw, pw, none⟩) ws ms (j + 1) bs (.slice ua Lm uc) (w8.setCell ⟨bm, q, none⟩ (.bool v))) := fun v hv =>
                ⟨q + 1, bs2.set q v, by omega, by simp, by rw [List.length_set]; exact HB2.out, HFQ.out.set v, fun hlt => by
                  rcases hv with rfl | hv
                  · exact (HFZ.out hlt).set0
                  · exact absurd hlt hv, HI8.out.next_mv q v hqb⟩
              rcases HGG.out with ⟨hjn, rfl⟩ | ⟨hjn, rfl⟩
              · by_cases hON : G = Nw
                · subst hON
                  go_wp2_with fail
                  obtain ⟨q', bs3, r1, r2, r3, r4, r5, r6⟩ := HEND.out false (.inl rfl)
                  exact ⟨⟨q', bs3, r1, by simpa using r2, r3, r4, r5, r6⟩, by simp [intOf]; omega⟩
                · go_wp2_with fail
                  obtain ⟨q', bs3, r1, r2, r3, r4, r5, r6⟩ := HEND.out false (.inl rfl)
                  exact ⟨⟨q', bs3, r1, by simpa using r2, r3, r4, r5, r6⟩, by simp [intOf]; omega⟩
              · by_cases hON : G = O
                · subst hON
                  go_wp2_with fail
                  obtain ⟨q', bs3, r1, r2, r3, r4, r5, r6⟩ := HEND.out false (.inl rfl)
                  exact ⟨⟨q', bs3, r1, by simpa using r2, r3, r4, r5, r6⟩, by simp [intOf]; omega⟩
                · go_wp2_with fail
                  obtain ⟨q', bs3, r1, r2, r3, r4, r5, r6⟩ := HEND.out (O != G) (.inr hjn)
                  exact ⟨⟨q', bs3, r1, by simpa using r2, r3, r4, r5, r6⟩, by simp [intOf]; omega⟩
            · obtain rfl : X = q := by omega
              clear hiq
              go_wp2_with fail
              exact ⟨⟨j + 1, bs2, by omega, by simp, HB2.out, HFZ.out, HIQ.out⟩, by simp [intOf]; omega⟩
        · obtain rfl : n = j := by omega
          obtain ⟨ua, uc, hu⟩ := hjq.own.form
          obtain ⟨mm, hmm⟩ : ∃ mm, putsP ms (ws.take n) = mm := ⟨_, rfl⟩
          have HMM : Hid (putsP ms (ws.take n) = mm) := hmm
          obtain ⟨Lm, hLm⟩ : ∃ Lm, mm.length = Lm := ⟨_, rfl⟩
          have HLm : Hid (mm.length = Lm) := hLm
          have hLm8 : Lm ≤ 8 * L + 8 := by have := hjq.len; rw [hmm, hLm] at this; exact this
          rw [hmm, hLm] at hu
          subst hu
          clear hjq hmm hLm HFL HBSL
          go_wp2_with fail
          go_loopw [127] (fun i wq => ∃ (q : Nat), q ≤ X ∧ i = .int .i64 q ∧ JQ w bt bb bc bm N (8 * L + 8) aa xs o1' o2' (putsP ms ws) made' fr' (TrM.allT t) (TrM.allT t') wa ws ms n bs (.slice ua Lm uc) wq) (fun i _ => X - (intOf i).toNat)
          case atStart => exact ⟨0, by omega, rfl, HJJ.out⟩
          case round =>
            obtain ⟨q, hq, rfl, hiq⟩ := hrel
            have HIQ : Hid (JQ w bt bb bc bm N (8 * L + 8) aa xs o1' o2' (putsP ms ws) made' fr' (TrM.allT t) (TrM.allT t') wa ws ms n bs (.slice ua Lm uc) wr) := hiq
            clear HJJ
            by_cases hql : q < X
            · have hqd : q < xs.length := by rw [HX.out]; exact hql
              obtain ⟨ba, oa, rfl, -, e0⟩ := hiq.st.adr q hqd
              have hai := hiq.st.u32 _ (List.getElem_mem hqd)
              obtain ⟨ax, hax⟩ : ∃ ax, xs[q] = ax := ⟨_, rfl⟩
              rw [hax] at e0 hai
              have hqq : (q : Int) < X := by omega
              have qq0 : (0 : Int) ≤ q := by omega
              have hoq := hiq.own
              rw [HMM.out] at hoq
              obtain ⟨G, hG⟩ : ∃ G, findP mm ax = G := ⟨_, rfl⟩
              have hNw : TrM.mV (TrM.bm ax none (TrM.allT t')) = G := by
                have := leads HFIT.out HST.out n (by rw [HN.out]; omega) ax hai.1 hai.2
                rw [HMM.out, hG, HN.out] at this
                rcases this with ⟨h1, h2⟩ | ⟨h1, h2⟩
                · omega
                · exact h2.symm
              have HFD : Hid (∀ W, Below wr.heap.size wr W → Calls Try.prog 13 #[.slice ua Lm uc, .int .u32 ax] W fun e w' => e = .returned (.int .i64 G) ∧ Below W.heap.size W w') := fun W hW => by
                rw [← hG]; exact find_any ua uc mm Lm HLm.out ax hai.1 hai.2 W ((hoq.bel hW).wds)
              obtain ⟨v2, p2, hc2, ha2⟩ := hiq.st.bkc.find
              obtain ⟨L2, hL2⟩ : ∃ L2, (TrM.allT t').length = L2 := ⟨_, rfl⟩
              rw [hL2] at hc2
              have HF2 : Hid (∀ W, Below wr.heap.size wr W → Calls Try.prog 14 #[.agg #[.slice v2 L2 p2], .int .u32 ax] W fun e w' => e = .returned (.int .i64 G) ∧ Below W.heap.size W w') := fun W hW => Bk.bfind_any v2 p2 (TrM.allT t') ax hai.1 hai.2 W (ha2.bel hW) L2 hL2 G hNw
              have j2 := cell_regrown (w := wr) (a := ⟨bc, 0, none⟩) hc2
              clear hiq hai hax hoq hNw hG ha2 hL2 hc2
              go_wp2_with fail
              refine wp_region_quiet_below (by kernel_rfl) (by kernel_rfl) ?_
              repeat (go_big_quiet_step (first | (go_at_call 13; exact Calls.regrown_of (HFD.out _ (below_regrown _ _ _))) | (go_at_call 14; exact Calls.regrown_of (HF2.out _ (below_regrown _ _ _)))))
              refine wpQuiet_nil ?_
              intro w8 hw8
              have hb8 := regrown_low hw8
              have HI8 : Hid (JQ w bt bb bc bm N (8 * L + 8) (some ⟨ba, oa, none⟩) xs o1' o2' (putsP ms ws) made' fr' (TrM.allT t) (TrM.allT t') wa ws ms n bs (.slice ua Lm uc) w8) := HIQ.out.next_bel hb8
              clear hb8 hw8 HIQ e0 j2 HFD HF2
              go_wp2_with fail
              exact ⟨⟨q + 1, by omega, by simp, HI8.out⟩, by simp [intOf]; omega⟩
            · obtain rfl : X = q := by omega
              obtain ⟨v2, p2, hc2, hf2, ha2, hx2⟩ := hiq.st.bkc.book
              obtain ⟨v1, p1, hc1, hf1, -, -⟩ := hiq.st.bk.book
              have HLN : Hid (LQ w bt bb N aa xs (k + 1) (.slice ua Lm uc) (wr.setCell ⟨bb, 0, none⟩ (.slice v2 (TrM.allT t').length p2))) := by
                have h1 := HST.out.grows
                have h2 := HMADE.out
                exact ⟨_, _, _, _, _, _, hiq.done HN.out HST.out.fit (by omega) HFEW.out HLT.out HBB.out ha2 hx2⟩
              obtain ⟨L2, hL2⟩ : ∃ L2, (TrM.allT t').length = L2 := ⟨_, rfl⟩
              rw [hL2] at hc2 HLN
              obtain ⟨L1, hL1⟩ : ∃ L1, (TrM.allT t).length = L1 := ⟨_, rfl⟩
              rw [hL1] at hc1
              clear hiq ha2 hx2 HIQ hL1 hL2
              go_wp2_with fail
              exact ⟨⟨k + 1, by omega, by simp, HLN.out⟩, by simp [intOf]; omega⟩
    · obtain rfl : L = k := by omega
      obtain ⟨ms, made, fr, o1, o2, t, hlq0⟩ := HLK.out
      have HBEL : Hid (Below w.heap.size w wr) := hlq0.bel
      clear hlq0 HLK
      go_wp2_with fail
      go_ret
      exact ⟨rfl, HBEL.out⟩
end Go.Proofs.Ytgdaihliomihcac.Fb
