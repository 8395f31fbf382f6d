/- FibPlays: what it answers. -/
import Derived.Test.YtjhdjbhpofhiaabFeB
import Derived.Lib.QuietBelow
import Derived.BigQuiet
namespace Go.Proofs.Ytjhdjbhpofhiaab.Fb
open Go.ChangeShapes Go.WideShapes Go.ChangeAt Go.RowKit Go.Joins Go.Proofs.Ytjhdjbhpofhiaab.PM Go.Proofs.Ytjhdjbhpofhiaab.Ask
set_option linter.unusedVariables false

theorem regrown_low2 {w w' : World} (h : ∃ p : Regrown, w' = Sort.grow (redrawn w p.d) p.os) : Below w.heap.size w w' := by
  obtain ⟨p, rfl⟩ := h; exact below_regrown w p.d p.os

set_option maxRecDepth 100000 in
set_option maxHeartbeats 8000000 in
theorem plays_any (va vm : Option Addr) (cap cm : Nat) (ss : List (Int × Int × Int × Bool)) (L : Nat) (hL : ss.length = L) (hbig : L ≤ 1048576) (mo : List Int) (N0 : Nat) (hN0 : mo.length = N0) (hbig2 : N0 ≤ 1048576) (w : World) (h : Arr4 w va ss) (hm : Wds w vm mo) (hnil : vm = none → N0 = 0 ∧ cm = 0) :
    Calls Try.prog 6 #[.slice va L cap, .slice vm N0 cm] w fun e w' => e = .returned (.bool true) ∧ Below w.heap.size w w' := by
  have H : Hid (Arr4 w va ss) := h
  have HL : Hid (ss.length = L) := hL
  have HAD : Hid (∀ W, Below w.heap.size w W → Calls Try.prog 18 #[.slice va L cap, .slice vm N0 cm] W fun e w' => ∃ v, e = .returned v ∧ AD W N0 L v w') := fun W hW => addrs_any va vm cap cm ss L hL mo N0 hN0 (by omega) W (h.bel hW) (hm.bel hW) hnil
  clear h hL hm hN0 hnil
  go_enter Try.func6, Try.ntmps6
  go_wp2_with fail
  refine (new_tab w).mono ?_
  rintro e w1 ⟨rfl, ht1, hb1, hs1⟩
  have HT1 : Hid (Tab (w.heap.size + 1) w1 w.heap.size [] 0 [] none none) := ht1
  have HB1 : Hid (Below w.heap.size w w1) := hb1
  have HS1 : Hid (w1.heap.size = w.heap.size + 1) := hs1
  clear ht1 hb1 hs1
  go_wp2_with fail
  obtain ⟨wX, hwX⟩ : ∃ wX, w1.alloc (Obj.cells #[.slice none 0 0] 28) = wX := ⟨_, rfl⟩
  have HXB : Hid (Below w1.heap.size w1 wX ∧ wX.heap.size = w1.heap.size + 1 ∧ wX.cell? ⟨w1.heap.size, 0, none⟩ = some (.slice none 0 0) ∧ wX.frozen? ⟨w1.heap.size, 0, none⟩ = false) := by
    rw [← hwX]; exact ⟨(Below.refl _ w1).alloc (Nat.le_refl _) _, by simp, by simp, by simp⟩
  rw [hwX]
  clear hwX
  refine (HAD.out wX (HB1.out.trans (HXB.out.1.mono HB1.out.size))).mono ?_
  rintro e w2 ⟨v2, rfl, had2⟩
  obtain ⟨xs, hox, hxl⟩ := had2.own
  obtain ⟨aa, ac, rfl⟩ := hox.form
  obtain ⟨X, hX⟩ : ∃ X, xs.length = X := ⟨_, rfl⟩
  have HX : Hid (xs.length = X) := hX
  rw [hX] at hxl ⊢
  have hX9 : X ≤ 9223372036854775807 := by omega
  have HLQ : Hid (LP w w.heap.size w1.heap.size w2.heap.size aa xs 0 0 (.slice none 0 0) w2) := by
    have e1 := HS1.out
    obtain ⟨bX, sX, cX, fX⟩ := HXB.out
    have hbb := had2.bel
    have hb2 : Below w1.heap.size w1 w2 := bX.trans (hbb.mono bX.size)
    have nx : ∀ b, w.heap.size < b → ¬ XP w.heap.size none none (Value.slice none 0 0).ownBlock none b := fun b hb => by
      rintro (e | e | e | e | e)
      · omega
      · cases e
      · cases e
      · simp [Value.ownBlock] at e
      · cases e
    refine ⟨[], 0, [], none, none, .nil, ⟨HB1.out.trans (hb2.mono HB1.out.size), HT1.out.bel hb2, ⟨World.ownsRow_nil _ _ _ _, by simp⟩, fun g e => by simp [Value.ownBlock] at e, (fun g e => by cases e), fun i hi => ?_, hox.u32, ⟨⟨by have := hbb.size; omega, nx _ (by omega)⟩, none, 0, cell_bel cX hbb, ?_, ⟨by simp [TrM.allT], fun i hi => absurd hi (by simp [TrM.allT]), fun d hd => by simp [TrM.allT] at hd⟩, fun b o e => by cases e⟩, ⟨Nat.le_refl _, by have := hbb.size; omega, Nat.le_refl _, by omega⟩⟩, Fit.new, by decide, by simp [TrM.allT], Nat.le_refl _⟩
    · rw [hX] at hox
      obtain ⟨b, o, e, hlt, hc⟩ := hox.wds.cells i hi
      subst e
      have := (hox.row.lt b (by simp [Value.ownBlock])).1
      exact ⟨b, o, rfl, ⟨hlt, nx b (by omega), by omega⟩, hc⟩
    · exact (World.frozen?_of_block (w := wX) (hbb.block _ (by show w1.heap.size < _; omega))).trans fX
  have hbb0 : w.heap.size ≤ w1.heap.size := by have := HS1.out; omega
  have HBB : Hid (w.heap.size ≤ w1.heap.size) := hbb0
  obtain ⟨bt, hbt⟩ : ∃ bt, w.heap.size = bt := ⟨_, rfl⟩
  obtain ⟨bb, hbb⟩ : ∃ bb, w1.heap.size = bb := ⟨_, rfl⟩
  obtain ⟨N, hN⟩ : ∃ N, w2.heap.size = N := ⟨_, rfl⟩
  rw [hN, hbb] at HLQ
  rw [hbb] at HBB ⊢
  have HBT : Hid (w.heap.size = bt) := hbt
  rw [hbt] at HLQ ⊢
  clear had2 hox hX HAD HT1 HB1 HS1 hN hbt HXB hbb hbb0
  go_wp2_with fail
  go_loopw [7, 8, 31] (fun u m i wr => ∃ k M : Nat, k ≤ L ∧ i = .int .i64 k ∧ m = .int .i64 M ∧ LP w bt bb N aa xs k M u wr) (fun _ _ i _ => L - (intOf i).toNat)
  case atStart => exact ⟨0, 0, by omega, rfl, rfl, HLQ.out⟩
  case round =>
    obtain ⟨k, M, hk, rfl, rfl, hlq⟩ := hrel
    have HLK : Hid (LP w bt bb N aa xs k M u7 wr) := hlq
    clear hlq HLQ
    by_cases hlt : k < L
    · have hkd : k < ss.length := by rw [HL.out]; exact hlt
      obtain ⟨ms, made, fr, o1, o2, t, hpq, hfit, hmade, hfew, hMk⟩ := HLK.out
      obtain ⟨b, o, rfl, hbl, c0, c1, c2, c3⟩ := (H.out.bel hpq.bel).cells k hkd
      have hin := H.out.u32 _ (List.getElem_mem hkd)
      obtain ⟨⟨ad, len, way, dr⟩, hy⟩ : ∃ y, ss[k] = y := ⟨_, rfl⟩
      rw [hy] at c0 c1 c2 c3 hin
      have x0 : 0 ≤ ad := hin.1
      have x1 : ad < 4294967296 := hin.2
      have hkk : (k : Int) < L := by omega
      have kk0 : (0 : Int) ≤ k := by omega
      have hmk : made + 2 < 4294967296 := by omega
      have HMADE : Hid (made ≤ 2 * M) := hmade
      have HMK : Hid (M ≤ k) := hMk
      have HQ : Hid (PQ w bt bb N none aa xs o1 o2 ms made fr (TrM.allT t) u7 ms wr) := hpq
      have HFIT : Hid (Fit ms made fr t) := hfit
      obtain ⟨t', ht'⟩ : ∃ t', stepT t ad len way dr = t' := ⟨_, rfl⟩
      have HT' : Hid (stepT t ad len way dr = t') := ht'
      have HWL : Hid (Bk.wantL (TrM.allT t) ad len way dr = TrM.allT t') := by rw [want_tree hfit.wf ad len way dr x0 x1, ht']; exact rfl
      have HFEW : Hid ((TrM.allT t').length ≤ k + 1) := by
        have h1 := want_len (TrM.allT t) ad len way dr
        rw [HWL.out] at h1
        show _ ≤ _; omega
      have hLtk : (TrM.allT t).length ≤ k := by omega
      clear hpq hin hy HLK ht' hmade hfew hMk hfit
      obtain ⟨wA, hwA⟩ : ∃ wA, wr.alloc (Obj.cells #[.int .u32 ad, .int .i64 len, .int .i64 way, .bool dr] 56) = wA := ⟨_, rfl⟩
      have HWA : Hid (wr.alloc (Obj.cells #[.int .u32 ad, .int .i64 len, .int .i64 way, .bool dr] 56) = wA) := hwA
      have hbA : Below wr.heap.size wr wA := by rw [← hwA]; exact (Below.refl _ wr).alloc (Nat.le_refl _) _
      have HBX : Hid (Box4 0 none wr.heap.size ad len way dr wA) := by rw [← hwA]; exact four wr ad len way dr _ _ _ (Nat.zero_le _) (fun g e => by cases e)
      have HQA : Hid (PQ w bt bb N none aa xs o1 o2 ms made fr (TrM.allT t) u7 ms wA) := HQ.out.next_bel hbA
      obtain ⟨bva, bcap, hbc, hbf, hba, hbx⟩ := HQ.out.bk.book
      have HBA : Hid (Bk.Arr3 wA bva (TrM.allT t)) := hba.bel hbA
      have HBXX : Hid (∀ b o, bva = some ⟨b, o, none⟩ → TrM.allT t ≠ [] → ¬ XP bt o1 o2 u7.ownBlock none b ∧ b ≠ bb) := hbx
      have hbbl : bb < wr.heap.size := HQ.out.bk.ap.1
      have HBBL : Hid (bb < wr.heap.size) := hbbl
      obtain ⟨Lt, hLt⟩ : ∃ Lt, (TrM.allT t).length = Lt := ⟨_, rfl⟩
      have HLT : Hid ((TrM.allT t).length = Lt) := hLt
      rw [hLt] at hbc hLtk
      clear hwA hbA hba hbx hbf hLt HQ
      go_wp2_with fail
      rw [HWA.out]
      clear HWA c0 c1 c2 c3 hbc
      obtain ⟨er, her⟩ : ∃ er, Bk.wantE (TrM.allT t) ad len way dr = er := ⟨_, rfl⟩
      obtain ⟨may, hmay⟩ : ∃ may, Bk.wantM (TrM.allT t) ad len way dr = may := ⟨_, rfl⟩
      have HER : Hid (stepErr t ad len way dr = er) := by rw [← want_err HFIT.out.wf]; exact her
      have HQU : Hid (may = false → t' = t) := fun e => by rw [← HT'.out]; exact want_quiet HFIT.out.wf (by rw [hmay, e])
      refine (Bk.want_any bva bcap (TrM.allT t) Lt HLT.out ad len way dr x0 x1 wA HBA.out (by omega) (TrM.allT t') HWL.out er her may hmay).mono ?_
      rintro e wB ⟨cva, ccap, rfl, hca, hcb, hcor⟩
      clear her hmay
      obtain ⟨Lc, hLc⟩ : ∃ Lc, (TrM.allT t').length = Lc := ⟨_, rfl⟩
      have HLC : Hid ((TrM.allT t').length = Lc) := hLc
      rw [hLc]
      obtain ⟨bx, hbx⟩ : ∃ bx, wr.heap.size = bx := ⟨_, rfl⟩
      rw [hbx] at HBX HBBL ⊢
      have HQB : Hid (PQ w bt bb N none aa xs o1 o2 ms made fr (TrM.allT t) u7 ms wB) := HQA.out.next_bel hcb
      have HBXB : Hid (Box4 0 none bx ad len way dr wB) := HBX.out.keep hcb.size (hcb.block bx HBX.out.lt.2) (by simp)
      have HCA : Hid (Bk.Arr3 wB cva (TrM.allT t')) := hca
      have HCX : Hid (∀ b o, cva = some ⟨b, o, none⟩ → TrM.allT t' ≠ [] → ¬ XP bt o1 o2 u7.ownBlock none b ∧ b ≠ bb) := fun b o e hl => by
        rcases hcor with ⟨e2, e3⟩ | hge
        · exact HBXX.out b o (by rw [← e2, e]) (by rw [← e3]; exact hl)
        · have hg := hge b o e
          have hq := HQA.out
          refine ⟨?_, by have := hq.bk.ap.1; omega⟩
          rintro (e | e | e | e | e)
          · have := hq.lt; omega
          · have := (hq.tab.in1 b e.symm).2; omega
          · have := (hq.tab.in2 b e.symm).2; omega
          · have := (hq.own.row.lt b e.symm).2; omega
          · cases e
      have hbxl : bx < wB.heap.size := HBXB.out.lt.2
      clear hca hcb hcor hLc hbx HBX HQA HBA HBXX hbbl hLtk HLT
      obtain ⟨q0, q1, q2, q3, -, -⟩ := HBXB.out
      have hbbB : bb < wB.heap.size := HQB.out.bk.ap.1
      have hneb : bb ≠ bx := by have := HBBL.out; omega
      obtain ⟨bva2, bcap2, hb0, hbf0, -, -⟩ := HQB.out.bk.book
      obtain ⟨Lt2, hLt2⟩ : ∃ Lt2, (TrM.allT t).length = Lt2 := ⟨_, rfl⟩
      rw [hLt2] at hb0
      clear hLt2
      go_wp2_with fail
      clear q0 q1 q2 q3 hb0 hbf0 hneb
      obtain ⟨M', hM'⟩ : ∃ M', max M Lc = M' := ⟨_, rfl⟩
      have eM : max (M : Int) (Lc : Int) = (M' : Int) := by omega
      have hMM : M ≤ M' := by omega
      have hLM : Lc ≤ M' := by omega
      have HMK2 : Hid (M' ≤ k + 1) := by
        have h1 := HFEW.out
        rw [HLC.out] at h1
        have h2 := HMK.out
        show _ ≤ _; omega
      rw [eM]
      have HQS : Hid (PQ w bt bb N none aa xs o1 o2 ms made fr (TrM.allT t') u7 ms (wB.setCell ⟨bb, 0, none⟩ (.slice cva Lc ccap))) := HQB.out.book HLC.out HCA.out HCX.out
      obtain ⟨wD, hwD⟩ : ∃ wD, (wB.setCell ⟨bb, 0, none⟩ (.slice cva Lc ccap)).alloc (Obj.cells #[.slice cva Lc ccap] 28) = wD := ⟨_, rfl⟩
      have hbD : Below (wB.setCell ⟨bb, 0, none⟩ (.slice cva Lc ccap)).heap.size (wB.setCell ⟨bb, 0, none⟩ (.slice cva Lc ccap)) wD := by rw [← hwD]; exact (Below.refl _ _).alloc (Nat.le_refl _) _
      have HQD : Hid (PQ w bt bb N none aa xs o1 o2 ms made fr (TrM.allT t') u7 ms wD) := HQS.out.next_bel hbD
      rw [hwD]
      clear hwD hbD HQS HQB HCA HCX eM hM' HBXB hbxl hbbB HBBL
      refine (do_step2 bt ms made fr o1 o2 t HFIT.out hmk ad len way dr x0 x1 t' HT'.out er HER.out wD HQD.out.tab).mono ?_
      rintro e w3 ⟨ws, made', fr', ⟨v, o1', o2', rfl, ht3, hk3, ho3⟩, hst⟩
      obtain ⟨wa, wc, rfl⟩ := ho3.form
      have hP0 := HQD.out.step ht3 hk3 ho3
      have hN9 := hst.few
      have hQT : may = false → ws.length = 0 := fun e => by rw [hst.quiet (HQU.out e)]; rfl
      obtain ⟨n, hn⟩ : ∃ n, ws.length = n := ⟨_, rfl⟩
      rw [hn] at hP0 ho3 hN9 hQT ⊢
      obtain ⟨bw, hbw⟩ : ∃ bw, (Value.slice wa n wc).ownBlock = bw := ⟨_, rfl⟩
      have HBW : Hid (∀ g, wa = some ⟨g, 0, none⟩ → bw = some g) := fun g e => by rw [← hbw, e]; rfl
      have HNV : Hid ((Value.slice wa n wc).ownBlock = bw) := hbw
      rw [hbw] at hP0
      obtain ⟨M0, hM0⟩ : ∃ M0, wD.heap.size = M0 := ⟨_, rfl⟩
      rw [hM0] at ho3
      have HST : Hid (Step ms made t t' ws made' fr') := hst
      have HM2 : Hid (made' ≤ 2 * M') := made_most hst (by have := HMADE.out; omega) (by rw [HLC.out]; exact hLM)
      have hML : M' ≤ L := by have := HMK2.out; omega
      have HN : Hid (ws.length = n) := hn
      have HB8 : Hid (ms.length ≤ 8 * L + 8) := by
        have h1 := HFIT.out.len
        have h2 := HMADE.out
        have h3 := HMK.out
        show _ ≤ _; omega
      have HJ0 : Hid (PQ w bt bb N bw aa xs o1' o2' (putsP ms ws) made' fr' (TrM.allT t') u7 (putsP ms (ws.take 0)) w3 ∧ Own M0 w3 bt o1' o2' (.slice wa n wc) ws ∧ (putsP ms (ws.take 0)).length ≤ 8 * L + 8) := ⟨hP0, ho3, HB8.out⟩
      have h120 : ¬ ((120 : Int) < (n : Int)) := by omega
      have HQT : Hid (may = false → n = 0) := hQT
      clear ht3 hk3 ho3 hst hn hP0 hbw hM0 HQD hQT HQU HER HWL
      cases may
      case' false =>
        have hz : ¬ ((0 : Int) < (n : Int)) := by have := HQT.out rfl; omega
        go_wp2_with fail
        clear hz
      case' true => go_wp2_with fail
      all_goals
        clear h120
        go_loopw [7, 73] (fun u i wq => ∃ (j : Nat), j ≤ n ∧ i = .int .i64 j ∧ PQ w bt bb N bw aa xs o1' o2' (putsP ms ws) made' fr' (TrM.allT t') u (putsP ms (ws.take j)) wq ∧ Own M0 wq bt o1' o2' (.slice wa n wc) ws ∧ (putsP ms (ws.take j)).length ≤ 8 * L + 8) (fun _ i _ => n - (intOf i).toNat)
        case atStart => exact ⟨0, by omega, rfl, HJ0.out⟩
        case round =>
          obtain ⟨j, hj, rfl, hjp, hjo, hjl⟩ := hrel
          have HJP : Hid (PQ w bt bb N bw aa xs o1' o2' (putsP ms ws) made' fr' (TrM.allT t') u7 (putsP ms (ws.take j)) wr) := hjp
          have HJO : Hid (Own M0 wr bt o1' o2' (.slice wa n wc) ws) := hjo
          have HJL : Hid ((putsP ms (ws.take j)).length ≤ 8 * L + 8) := hjl
          clear HJ0 hjp hjl
          by_cases hlj : j < n
          · first
            | (exfalso; have hq := HQT.out (by first | rfl | trivial); omega)
            | (have hjd : j < ws.length := by rw [HN.out]; exact hlj
               obtain ⟨bq, pq, rfl, -, -, -, d0, d1⟩ := (hjo.wrs (by rw [HN.out]; omega)).cells j hjd
               have hmem := List.getElem_mem hjd
               have hxI := hjo.u32 _ hmem
               have hmo := HST.out.most _ hmem
               have hmd := HM2.out
               obtain ⟨⟨k1, y1⟩, hy⟩ : ∃ y, ws[j] = y := ⟨_, rfl⟩
               rw [hy] at d0 d1 hxI hmo
               have HY : Hid (ws[j] = (k1, y1)) := hy
               have y0 : 0 ≤ y1 := hxI.1
               have y2 : y1 < 4294967296 := hxI.2
               have hmo2 : (k1 : Int) ≤ 8 * M' + 3 := by
                 have : (k1 : Int) ≤ 4 * made' + 3 := hmo
                 omega
               have hjj : (j : Int) < n := by omega
               have jj0 : (0 : Int) ≤ j := by omega
               clear hmem hxI hmo hmd hy hjo
               go_wp2_with fail
               obtain ⟨wB2, hwB2⟩ : ∃ wB2, wr.alloc (Obj.cells #[.int .i64 (k1 : Int), .int .u32 y1] 64) = wB2 := ⟨_, rfl⟩
               have hbB2 : Below wr.heap.size wr wB2 := by rw [← hwB2]; exact (Below.refl _ wr).alloc (Nat.le_refl _) _
               have HJB : Hid (PQ w bt bb N bw aa xs o1' o2' (putsP ms ws) made' fr' (TrM.allT t') u7 (putsP ms (ws.take j)) wB2) := HJP.out.next_bel hbB2
               have HJO2 : Hid (Own M0 wB2 bt o1' o2' (.slice (some ⟨bq, pq, none⟩) n wc) ws) := HJO.out.bel hbB2
               rw [hwB2]
               have hNl : N ≤ wB2.heap.size := by have := HJB.out.lt; omega
               clear hwB2 d0 d1 HJP HJO hbB2
               refine (fibPut_any N u7 (putsP ms (ws.take j)) k1 y1 y0 y2 M' (by omega) (by omega) (by omega) (by omega) wB2 HJB.out.own hNl).mono ?_
               rintro e w7 ⟨u', rfl, ho7, hk7⟩
               have HLEN : Hid ((putsP ms (ws.take (j + 1))).length ≤ 8 * L + 8) := by
                 have h1 : (putP (putsP ms (ws.take j)) ws[j].1 ws[j].2).length ≤ 8 * L + 8 := by
                   rw [putP_len, HY.out]
                   have := HJL.out
                   show max _ (k1 + 1) ≤ _; omega
                 rw [← putsP_snoc hjd] at h1
                 exact h1
               have HJN : Hid (PQ w bt bb N bw aa xs o1' o2' (putsP ms ws) made' fr' (TrM.allT t') u' (putsP ms (ws.take (j + 1))) w7) := by
                 rw [putsP_snoc hjd, HY.out]
                 exact HJB.out.put ho7 hk7
               have HJON : Hid (Own M0 w7 bt o1' o2' (.slice (some ⟨bq, pq, none⟩) n wc) ws) := HJO2.out.ko hk7 (fun g e => ((HJB.out.nw g (by rw [← e]; exact HNV.out.symm)).1.2.2.2))
               clear ho7 hk7 HJB HJO2 hNl HJL
               go_wp2_with fail
               exact ⟨⟨j + 1, by omega, by simp, HJN.out, HJON.out, HLEN.out⟩, by simp [intOf]; omega⟩)
          · obtain rfl : n = j := by omega
            have HEND : Hid (PQ w bt bb N bw aa xs o1' o2' (putsP ms ws) made' fr' (TrM.allT t') u7 (putsP ms ws) wr) := by
              have h1 := HJP.out
              rw [List.take_of_length_le (by rw [HN.out]; omega)] at h1
              exact h1
            have HSP : Hid (Sp wa n wr) := Sp.of HJO.out HN.out
            have HLE : Hid ((putsP ms ws).length ≤ 8 * L + 8) := by
              have h1 := HJL.out
              rw [List.take_of_length_le (by rw [HN.out]; omega)] at h1
              exact h1
            clear HJP HJO HJL hjo
            obtain ⟨ua, uc, hu⟩ := HEND.out.own.form
            obtain ⟨Lm, hLm⟩ : ∃ Lm, (putsP ms ws).length = Lm := ⟨_, rfl⟩
            have HLm : Hid ((putsP ms ws).length = Lm) := hLm
            rw [hLm] at hu
            subst hu
            clear HQT hLm
            go_wp2_with fail
            go_loopw [89] (fun i wq => ∃ (q : Nat), q ≤ n ∧ i = .int .i64 q ∧ PQ w bt bb N bw aa xs o1' o2' (putsP ms ws) made' fr' (TrM.allT t') (.slice ua Lm uc) (putsP ms ws) wq ∧ Sp wa n wq) (fun i _ => n - (intOf i).toNat)
            case atStart => exact ⟨0, by omega, rfl, HEND.out, HSP.out⟩
            case round =>
              obtain ⟨q, hq, rfl, hip, his⟩ := hrel
              have HIP : Hid (PQ w bt bb N bw aa xs o1' o2' (putsP ms ws) made' fr' (TrM.allT t') (.slice ua Lm uc) (putsP ms ws) wr) := hip
              have HIS : Hid (Sp wa n wr) := his
              clear HEND HSP hip
              by_cases hql : q < n
              · first
                | (exfalso; omega)
                | (obtain ⟨g, rfl, ⟨z0, z1, d0, d1⟩, f0, f1⟩ := his.cells q hql
                   have hbg : bw = some g := HBW.out g rfl
                   have hqq : (q : Int) < n := by omega
                   have qq0 : (0 : Int) ≤ q := by omega
                   clear his
                   have HNX : Hid (PQ w bt bb N bw aa xs o1' o2' (putsP ms ws) made' fr' (TrM.allT t') (.slice ua Lm uc) (putsP ms ws) ((wr.setCell ⟨g, q * 2, none⟩ (.int .i64 1)).setCell ⟨g, q * 2 + 1, none⟩ (.int .u32 99))) := by
                     have h1 := HIP.out
                     rw [hbg] at h1 ⊢
                     exact (h1.spoil _ _).spoil _ _
                   have HNS : Hid (Sp (some ⟨g, 0, none⟩) n ((wr.setCell ⟨g, q * 2, none⟩ (.int .i64 1)).setCell ⟨g, q * 2 + 1, none⟩ (.int .u32 99))) := HIS.out.next q hql rfl 1 99
                   clear hbg HIP HIS
                   go_wp2_with fail
                   exact ⟨⟨q + 1, by omega, by simp, HNX.out, HNS.out⟩, by simp [intOf]; omega⟩)
              · obtain rfl : n = q := by omega
                have HEN : Hid (PQ w bt bb N none aa xs o1' o2' (putsP ms ws) made' fr' (TrM.allT t') (.slice ua Lm uc) (putsP ms ws) wr) := HIP.out.forget
                clear HIP HIS his
                go_wp2_with fail
                go_loopw [99] (fun i wq => ∃ (q : Nat), q ≤ X ∧ i = .int .i64 q ∧ PQ w bt bb N none aa xs o1' o2' (putsP ms ws) made' fr' (TrM.allT t') (.slice ua Lm uc) (putsP ms ws) wq) (fun i _ => X - (intOf i).toNat)
                case atStart => exact ⟨0, by omega, rfl, HEN.out⟩
                case round =>
                  obtain ⟨q, hq, rfl, hiq⟩ := hrel
                  have HIQ : Hid (PQ w bt bb N none aa xs o1' o2' (putsP ms ws) made' fr' (TrM.allT t') (.slice ua Lm uc) (putsP ms ws) wr) := hiq
                  clear HEN
                  by_cases hql : q < X
                  · have hqd : q < xs.length := by rw [HX.out]; exact hql
                    obtain ⟨ba, oa, rfl, -, e0⟩ := hiq.adr q hqd
                    have hai := hiq.u32 _ (List.getElem_mem hqd)
                    obtain ⟨ax, hax⟩ : ∃ ax, xs[q] = ax := ⟨_, rfl⟩
                    rw [hax] at e0 hai
                    have hqq : (q : Int) < X := by omega
                    have qq0 : (0 : Int) ≤ q := by omega
                    have hoq := hiq.own
                    obtain ⟨G, hG⟩ : ∃ G, findP (putsP ms ws) ax = G := ⟨_, rfl⟩
                    have hNw : TrM.mV (TrM.bm ax none (TrM.allT t')) = G := by
                      rw [TrM.bm_allT HST.out.fit.wf, ← hG]
                      exact (findP_rp HST.out.fit.rp HST.out.fit.wf ax hai.1 hai.2).symm
                    have HFD : Hid (∀ W, Below wr.heap.size wr W → Calls Try.prog 22 #[.slice ua Lm uc, .int .u32 ax] W fun e w' => e = .returned (.int .i64 G) ∧ Below W.heap.size W w') := fun W hW => by
                      rw [← hG]; exact find_any ua uc (putsP ms ws) Lm HLm.out ax hai.1 hai.2 W ((hoq.bel hW).wds)
                    obtain ⟨v2, p2, hc2, ha2⟩ := hiq.bk.find
                    obtain ⟨L2, hL2⟩ : ∃ L2, (TrM.allT t').length = L2 := ⟨_, rfl⟩
                    rw [hL2] at hc2
                    have HF2 : Hid (∀ W, Below wr.heap.size wr W → Calls Try.prog 23 #[.agg #[.slice v2 L2 p2], .int .u32 ax] W fun e w' => e = .returned (.int .i64 G) ∧ Below W.heap.size W w') := fun W hW => Bk.bfind_any v2 p2 (TrM.allT t') ax hai.1 hai.2 W (ha2.bel hW) L2 hL2 G hNw
                    have j2 := cell_regrown (w := wr) (a := ⟨bb, 0, none⟩) hc2
                    clear hiq hai hax hoq hNw hG ha2 hL2 hc2
                    go_wp2_with fail
                    refine wp_region_quiet_below (by kernel_rfl) (by kernel_rfl) ?_
                    repeat (go_big_quiet_step (first | (go_at_call 22; exact Calls.regrown_of (HFD.out _ (below_regrown _ _ _))) | (go_at_call 23; exact Calls.regrown_of (HF2.out _ (below_regrown _ _ _)))))
                    refine wpQuiet_nil ?_
                    intro w8 hw8
                    have hb8 := regrown_low2 hw8
                    have HI8 : Hid (PQ w bt bb N none (some ⟨ba, oa, none⟩) xs o1' o2' (putsP ms ws) made' fr' (TrM.allT t') (.slice ua Lm uc) (putsP ms ws) w8) := HIQ.out.next_bel hb8
                    clear hb8 hw8 HIQ e0 j2 HFD HF2
                    go_wp2_with fail
                    exact ⟨⟨q + 1, by omega, by simp, HI8.out⟩, by simp [intOf]; omega⟩
                  · obtain rfl : X = q := by omega
                    have HLN : Hid (LP w bt bb N aa xs (k + 1) M' (.slice ua Lm uc) wr) := ⟨_, _, _, _, _, _, hiq, HST.out.fit, HM2.out, by rw [HLC.out]; exact hLM, HMK2.out⟩
                    clear hiq HIQ
                    go_wp2_with fail
                    exact ⟨⟨k + 1, M', by omega, by simp, rfl, HLN.out⟩, by simp [intOf]; omega⟩
    · obtain rfl : L = k := by omega
      obtain ⟨ms, made, fr, o1, o2, t, hpq, -⟩ := HLK.out
      have HBEL : Hid (Below w.heap.size w wr) := hpq.bel
      clear hpq HLK
      go_wp2_with fail
      go_ret
      exact ⟨rfl, HBEL.out⟩
end Go.Proofs.Ytjhdjbhpofhiaab.Fb
