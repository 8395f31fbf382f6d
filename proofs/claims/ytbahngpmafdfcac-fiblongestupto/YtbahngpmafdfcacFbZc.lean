/- FibLongest: what it answers. -/
import Derived.Test.YtbahngpmafdfcacFbZb
namespace Go.Proofs.Ytbahngpmafdfcac.Fb
open Go.ChangeShapes Go.WideShapes Go.ChangeAt Go.RowKit Go.Joins Go.Proofs.Ytbahngpmafdfcac.PM Go.Proofs.Ytbahngpmafdfcac.Ask
set_option linter.unusedVariables false

set_option maxRecDepth 100000 in
set_option maxHeartbeats 4000000 in
theorem longest_any (va : Option Addr) (cap : Nat) (ss : List (Int × Int × Int × Bool)) (L : Nat) (hL : ss.length = L) (hbig : L ≤ 1048576) (a : Int) (a0 : 0 ≤ a) (a1 : a < 4294967296) (w : World) (h : Arr4 w va ss) :
    Calls Try.prog 6 #[.slice va L cap, .int .u32 a] w fun e w' => e = .returned (.bool true) ∧ Below w.heap.size w w' := by
  have H : Hid (Arr4 w va ss) := h
  have HL : Hid (ss.length = L) := hL
  clear h hL
  go_enter Try.func6, Try.ntmps6
  go_wp2_with fail
  refine (new_tab w).mono ?_
  rintro e w1 ⟨rfl, ht1, hb1, hs1⟩
  have HT1 : Hid (Tab (w.heap.size + 1) w1 w.heap.size [] 0 [] none none) := ht1
  have HB1 : Hid (Below w.heap.size w w1) := hb1
  have HS1 : Hid (w1.heap.size = w.heap.size + 1) := hs1
  clear ht1 hb1 hs1
  go_wp2_with fail
  refine (Tri.new_any w1).mono ?_
  rintro e w2 ⟨rfl, hb2, hs2, hnew2⟩
  have HLI : Hid (LI w w.heap.size w1.heap.size 0 (.slice none 0 0) w2) := by
    have := HS1.out
    refine ⟨[], 0, [], none, none, .nil, HB1.out.trans (hb2.mono HB1.out.size), HT1.out.bel hb2, Fit.new, ⟨⟨World.ownsRow_nil _ _ _ _, by simp⟩, ⟨none, 0, hnew2 _⟩, ⟨by omega, by omega, by omega⟩, ⟨by simp, by simp⟩, fun g e => by simp [Value.ownBlock] at e⟩, by decide, Nat.le_refl _⟩
  obtain ⟨bt, hbt⟩ : ∃ bt, w.heap.size = bt := ⟨_, rfl⟩
  obtain ⟨b2, hb2'⟩ : ∃ b2, w1.heap.size = b2 := ⟨_, rfl⟩
  have HBT : Hid (w.heap.size = bt) := hbt
  rw [hbt, hb2'] at HLI
  rw [hbt, hb2']
  clear hb2 hs2 hnew2 HT1 HB1 HS1 hbt hb2'
  go_wp2_with fail
  go_loopw [7, 30] (fun u i wr => ∃ k : Nat, k ≤ L ∧ i = .int .i64 k ∧ LI w bt b2 k u wr) (fun _ i _ => L - (intOf i).toNat)
  case atStart => exact ⟨0, by omega, rfl, HLI.out⟩
  case round =>
    obtain ⟨k, hk, rfl, hli⟩ := hrel
    have HLK : Hid (LI w bt b2 k u7 wr) := hli
    clear hli
    by_cases hlt : k < L
    · have hkd : k < ss.length := by rw [HL.out]; exact hlt
      obtain ⟨ms, made, fr, o1, o2, t, hbel, htab, hfit, henv, hmade, hbase⟩ := HLK.out
      obtain ⟨b, o, rfl, hbl, c0, c1, c2, c3⟩ := (H.out.bel hbel).cells k hkd
      have hin := H.out.u32 _ (List.getElem_mem hkd)
      obtain ⟨⟨ad, len, way, dr⟩, hy⟩ : ∃ y, ss[k] = y := ⟨_, rfl⟩
      rw [hy] at c0 c1 c2 c3 hin
      have x0 : 0 ≤ ad := hin.1
      have x1 : ad < 4294967296 := hin.2
      have hkk : (k : Int) < L := by omega
      have kk0 : (0 : Int) ≤ k := by omega
      have HBEL : Hid (Below w.heap.size w wr) := hbel
      have HTAB : Hid (Tab (bt + 1) wr bt ms made fr o1 o2) := htab
      have HFIT : Hid (Fit ms made fr t) := hfit
      have HENV : Hid (Env bt b2 (b2 + 1) o1 o2 t u7 ms wr) := henv
      have HMADE : Hid (made ≤ 2 * k) := hmade
      clear hbel htab hfit henv hmade hin hy
      have hmk : made + 2 < 4294967296 := by have := HMADE.out; omega
      go_wp2_with fail
      obtain ⟨wA, hwA⟩ : ∃ wA, wr.alloc (Obj.cells #[.int .u32 ad, .int .i64 len, .int .i64 way, .bool dr] 34) = wA := ⟨_, rfl⟩
      have hbA : Below wr.heap.size wr wA := by rw [← hwA]; exact (Below.refl _ wr).alloc (Nat.le_refl _) _
      have HBX : Hid (Box4 (b2 + 1) u7.ownBlock wr.heap.size ad len way dr wA) := by rw [← hwA]; exact four wr ad len way dr _ _ _ HENV.out.lt.2.2 (fun g e => (HENV.out.ge g e).2)
      have HTA : Hid (Tab (bt + 1) wA bt ms made fr o1 o2) := HTAB.out.bel hbA
      have HEA : Hid (Env bt b2 (b2 + 1) o1 o2 t u7 ms wA) := HENV.out.bel hbA
      have HBA : Hid (Below w.heap.size w wA) := HBEL.out.trans (hbA.mono HBEL.out.size)
      have HSA : Hid (∀ g, o1 = some g ∨ o2 = some g → g ≠ wr.heap.size) := fun g e => by
        rcases e with e | e
        · have := (HTAB.out.in1 g e).2; omega
        · have := (HTAB.out.in2 g e).2; omega
      have HBTN : Hid (wr.heap.size ≠ bt) := by have := HENV.out.lt; show wr.heap.size ≠ bt; omega
      rw [hwA]
      obtain ⟨bx, hbx⟩ : ∃ bx, wr.heap.size = bx := ⟨_, rfl⟩
      rw [hbx] at HBX HSA HBTN ⊢
      clear hwA c0 c1 c2 c3 hbA hbx HTAB HENV HBEL
      cases dr with
      | true =>
        obtain ⟨t', ht'⟩ : ∃ t', (TrM.del t ad len).1 = t' := ⟨_, rfl⟩
        obtain ⟨err, hd, herr, hhd, hcmp⟩ : ∃ err hd, dropErr t ad len = err ∧ (TrM.del t ad len).2 = hd ∧ ((err = 0 ∧ hd = true) ∨ (err = 3 ∧ hd = false) ∨ (err = 9 ∧ hd = false)) := by
          refine ⟨_, _, rfl, rfl, ?_⟩
          unfold dropErr
          cases hv : vld ad len with
          | false => rw [del_bad hv]; exact .inr (.inl ⟨rfl, rfl⟩)
          | true =>
            cases hx : (TrM.del t ad len).2 with
            | true => exact .inl ⟨by simp, rfl⟩
            | false => exact .inr (.inr ⟨by simp, rfl⟩)
        have HT' : Hid ((TrM.del t ad len).1 = t') := ht'
        have HHD : Hid ((TrM.del t ad len).2 = hd) := hhd
        have hdo := do_drop bt ms made fr o1 o2 t HFIT.out hmk ad len way x0 x1 t' ht' err herr wA HTA.out
        clear ht' hhd herr
        refine hdo.mono ?_
        clear hdo
        rintro e w3 ⟨ws, made', fr', ⟨v, o1', o2', rfl, ht3, hk3, ho3⟩, hst⟩
        obtain ⟨wa, wc, rfl⟩ := ho3.form
        have HIL : Hid (IL w bt b2 o1' o2' t (putsP ms ws) made' fr' wa ws ms 0 u7 w3) := IL.start HBA.out HTA.out HEA.out hbase ht3 hk3 ho3 hst.few
        have HB3 : Hid (Box4 (b2 + 1) u7.ownBlock bx ad len way true w3) := HBX.out.keep hk3.size (hk3.block bx HBX.out.lt.2 HBTN.out (fun e => HSA.out bx (.inl e.symm) rfl) (fun e => HSA.out bx (.inr e.symm) rfl)) HBX.out.ne
        have HST : Hid (Step ms made t t' ws made' fr') := hst
        have hn9 := hst.few
        obtain ⟨n, hn⟩ : ∃ n, ws.length = n := ⟨_, rfl⟩
        rw [hn] at hn9 ⊢
        have HN : Hid (ws.length = n) := hn
        clear ht3 hk3 ho3 hst hn HBX HSA HBTN HBA HTA HEA
        have hd3 := HIL.out.env.ok HIL.out.tab
        obtain ⟨p3, cc3, hh3⟩ := HIL.out.env.tri
        have HDH : Hid (Calls _ _ _ _ _) := Tri.drop_had _ b2 t p3 cc3 ad len w3 hh3 hd3.1 hd3.2 x0 x1 hd HHD.out
        obtain ⟨q0, q1, q2, q3, -, -⟩ := HB3.out
        clear hd3 hh3
        rcases hcmp with ⟨rfl, rfl⟩ | ⟨rfl, rfl⟩ | ⟨rfl, rfl⟩
        all_goals
          go_wp2_with fail
          refine HDH.out.mono ?_
          rintro e w4 ⟨old, p4, cc4, rfl, hbut, hh4⟩
          rw [HT'.out] at hh4
          have HI4 : Hid (IL w bt b2 o1' o2' t' (putsP ms ws) made' fr' wa ws ms 0 u7 w4) := HIL.out.next_but hbut hh4
          clear hbut hh4 HDH q0 q1 q2 q3 HB3 HIL HT' HHD HFIT
          go_wp2_with fail
          go_loopw [7, 75] (fun u i wq => ∃ j : Nat, j ≤ n ∧ i = .int .i64 j ∧ IL w bt b2 o1' o2' t' (putsP ms ws) made' fr' wa ws ms j u wq) (fun _ i _ => n - (intOf i).toNat)
          case atStart => exact ⟨0, by omega, rfl, HI4.out⟩
          case round =>
            obtain ⟨j, hj, rfl, hil⟩ := hrel
            have HIJ : Hid (IL w bt b2 o1' o2' t' (putsP ms ws) made' fr' wa ws ms j u7 wr) := hil
            by_cases hjl : j < n
            · have hjd : j < ws.length := by rw [HN.out]; exact hjl
              obtain ⟨bw, pw, rfl, -, -, d0, d1⟩ := hil.wr7.cells j hjd
              have hmem := List.getElem_mem hjd
              have hxI := hil.wr7.u32 _ hmem
              have hmo := HST.out.most _ hmem
              have hgr := HST.out.grows
              have hmd := HMADE.out
              obtain ⟨⟨k1, y1⟩, hy⟩ : ∃ y, ws[j] = y := ⟨_, rfl⟩
              rw [hy] at d0 d1 hxI hmo
              have HY : Hid (ws[j] = (k1, y1)) := hy
              have y0 : 0 ≤ y1 := hxI.1
              have y2 : y1 < 4294967296 := hxI.2
              have hmo2 : (k1 : Int) ≤ 8 * L + 3 := by
                have : (k1 : Int) ≤ 4 * made' + 3 := hmo
                omega
              have hjj : (j : Int) < n := by omega
              have jj0 : (0 : Int) ≤ j := by omega
              clear hil hmem hxI hmo hgr hmd hy
              go_wp2_with fail
              obtain ⟨wB, hwB⟩ : ∃ wB, wr.alloc (Obj.cells #[.int .i64 (k1 : Int), .int .u32 y1] 43) = wB := ⟨_, rfl⟩
              have hbB : Below wr.heap.size wr wB := by rw [← hwB]; exact (Below.refl _ wr).alloc (Nat.le_refl _) _
              have HIB : Hid (IL w bt b2 o1' o2' t' (putsP ms ws) made' fr' (some ⟨bw, pw, none⟩) ws ms j u7 wB) := HIJ.out.next_bel hbB
              rw [hwB]
              clear hwB d0 d1
              refine (fibPut_any (b2 + 1) u7 (putsP ms (ws.take j)) k1 y1 y0 y2 L (by omega) (by omega) (by omega) (by omega) wB HIB.out.env.own HIB.out.env.lt.2.2).mono ?_
              rintro e w7 ⟨u', rfl, ho7, hk7⟩
              have HIN : Hid (IL w bt b2 o1' o2' t' (putsP ms ws) made' fr' (some ⟨bw, pw, none⟩) ws ms (j + 1) u' w7) := HIB.out.next_put hjd (by rw [HY.out]; exact ho7) hk7
              clear ho7 hk7
              go_wp2_with fail
              exact ⟨⟨j + 1, by omega, by simp, HIN.out⟩, by simp [intOf]; omega⟩
            · obtain rfl : j = n := by omega
              have henv := hil.env
              rw [List.take_of_length_le (by rw [HN.out]; exact Nat.le_refl _)] at henv
              obtain ⟨ua, uc, rfl⟩ := henv.own.form
              obtain ⟨p, c, hh⟩ := henv.tri
              have hfit' := HST.out.fit
              obtain ⟨R, hR⟩ : ∃ R, TrM.mt t' a none = R := ⟨_, rfl⟩
              have hfd := findP_rp hfit'.rp hfit'.wf a a0 a1
              have hm := Tri.match_any _ b2 t' p c a a0 a1 wr hh hfit'.wf R hR
              rw [hR] at hfd
              obtain ⟨V, hV⟩ : ∃ V, TrM.mV R = V := ⟨_, rfl⟩
              obtain ⟨V1, hV1⟩ : ∃ V, TrM.mA R = V := ⟨_, rfl⟩
              obtain ⟨V2, hV2⟩ : ∃ V, TrM.mN R = V := ⟨_, rfl⟩
              obtain ⟨V3, hV3⟩ : ∃ V, R.isSome = V := ⟨_, rfl⟩
              rw [hV] at hfd
              rw [hV, hV1, hV2, hV3] at hm
              obtain ⟨Lm, hLm⟩ : ∃ Lm, (putsP ms ws).length = Lm := ⟨_, rfl⟩
              rw [hLm] at henv ⊢
              have HFD : Hid (findP (putsP ms ws) a = V) := hfd
              have HLM : Hid ((putsP ms ws).length = Lm) := hLm
              have HTB : Hid (Tab (bt + 1) wr bt (putsP ms ws) made' fr' o1' o2') := hil.tab
              have HBL : Hid (Below w.heap.size w wr) := hil.bel
              have HEN : Hid (Env bt b2 (b2 + 1) o1' o2' t' (.slice ua Lm uc) (putsP ms ws) wr) := henv
              have HM : Hid (Calls _ _ _ _ _) := hm
              clear hil henv hh hfit' hR hfd hm hV hV1 hV2 hV3 hLm HIJ
              go_wp2_with fail
              refine HM.out.mono ?_
              rintro e w8 ⟨rfl, hb8⟩
              have HTB8 : Hid (Tab (bt + 1) w8 bt (putsP ms ws) made' fr' o1' o2') := HTB.out.bel hb8
              have HBL8 : Hid (Below w.heap.size w w8) := HBL.out.trans (hb8.mono HBL.out.size)
              have HEN8 : Hid (Env bt b2 (b2 + 1) o1' o2' t' (.slice ua Lm uc) (putsP ms ws) w8) := HEN.out.bel hb8
              clear hb8 HTB HBL HEN HM
              go_wp2_with fail
              obtain ⟨wC, hwC⟩ : ∃ wC, w8.alloc (Obj.cells #[.int .u32 V1, .int .i64 V2] 32) = wC := ⟨_, rfl⟩
              have hbC : Below w8.heap.size w8 wC := by rw [← hwC]; exact (Below.refl _ w8).alloc (Nat.le_refl _) _
              have HEC : Hid (Env bt b2 (b2 + 1) o1' o2' t' (.slice ua Lm uc) (putsP ms ws) wC) := HEN8.out.bel hbC
              have HTC : Hid (Tab (bt + 1) wC bt (putsP ms ws) made' fr' o1' o2') := HTB8.out.bel hbC
              have HBC : Hid (Below w.heap.size w wC) := HBL8.out.trans (hbC.mono HBL8.out.size)
              rw [hwC]
              clear hwC hbC HTB8 HBL8 HEN8
              have HF : Hid (Calls _ _ _ _ _) := find_any ua uc (putsP ms ws) Lm HLM.out a a0 a1 wC HEC.out.own.wds
              rw [HFD.out] at HF
              refine HF.out.mono ?_
              rintro e w9 ⟨rfl, hb9⟩
              have HLN : Hid (LI w bt b2 (k + 1) (.slice ua Lm uc) w9) := by
                have h1 := HST.out.grows
                have h2 := HMADE.out
                exact ⟨putsP ms ws, made', fr', o1', o2', t', HBC.out.trans (hb9.mono HBC.out.size), HTC.out.bel hb9, HST.out.fit, HEC.out.bel hb9, by omega, hbase⟩
              clear hb9 HEC HTC HBC HF
              go_wp2_with fail
              exact ⟨⟨k + 1, by omega, by simp, HLN.out⟩, by simp [intOf]; omega⟩
      | false =>
        obtain ⟨err, t', herr, ht', hcmp⟩ : ∃ err t', setErr ad len way = err ∧ setT t ad len way = t' ∧ ((err = 0 ∧ TrM.put1 t (ad, len, way) = t' ∧ vld ad len = true ∧ 1 ≤ way ∧ way ≤ 65535) ∨ (err = 3 ∧ TrM.put1 t (ad, len, way) = t' ∧ vld ad len = false ∧ 1 ≤ way ∧ way ≤ 65535) ∨ (t = t' ∧ way < 1) ∨ (t = t' ∧ 1 ≤ way ∧ 65535 < way)) := by
          refine ⟨_, _, rfl, rfl, ?_⟩
          unfold setT setErr TrM.put1
          cases hv : vld ad len with
          | false =>
            by_cases h1 : way < 1
            · exact .inr (.inr (.inl ⟨by simp, h1⟩))
            · by_cases h2 : 65535 < way
              · exact .inr (.inr (.inr ⟨by simp, by omega, h2⟩))
              · exact .inr (.inl ⟨by simp, by simp, rfl, by omega, by omega⟩)
          | true =>
            by_cases h1 : way < 1
            · exact .inr (.inr (.inl ⟨by simp [h1], h1⟩))
            · by_cases h2 : 65535 < way
              · exact .inr (.inr (.inr ⟨by simp [h2], by omega, h2⟩))
              · exact .inl ⟨by simp [h1, h2], by simp [h1, h2], rfl, by omega, by omega⟩
        have hdo := do_set bt ms made fr o1 o2 t HFIT.out hmk ad len way x0 x1 t' ht' err herr wA HTA.out
        clear ht' herr
        refine hdo.mono ?_
        clear hdo
        rintro e w3 ⟨ws, made', fr', ⟨v, o1', o2', rfl, ht3, hk3, ho3⟩, hst⟩
        obtain ⟨wa, wc, rfl⟩ := ho3.form
        have HIL : Hid (IL w bt b2 o1' o2' t (putsP ms ws) made' fr' wa ws ms 0 u7 w3) := IL.start HBA.out HTA.out HEA.out hbase ht3 hk3 ho3 hst.few
        have HB3 : Hid (Box4 (b2 + 1) u7.ownBlock bx ad len way false w3) := HBX.out.keep hk3.size (hk3.block bx HBX.out.lt.2 HBTN.out (fun e => HSA.out bx (.inl e.symm) rfl) (fun e => HSA.out bx (.inr e.symm) rfl)) HBX.out.ne
        have HST : Hid (Step ms made t t' ws made' fr') := hst
        have hn9 := hst.few
        obtain ⟨n, hn⟩ : ∃ n, ws.length = n := ⟨_, rfl⟩
        rw [hn] at hn9 ⊢
        have HN : Hid (ws.length = n) := hn
        clear ht3 hk3 ho3 hst hn HBX HSA HBTN HBA HTA HEA
        have hd3 := HIL.out.env.ok HIL.out.tab
        obtain ⟨p3, cc3, hh3⟩ := HIL.out.env.tri
        have HPUT : Hid (Calls _ _ _ _ _) := Tri.put1_any _ b2 t p3 cc3 ad len way w3 hh3 hd3.1 hd3.2 HFIT.out.wf x0 x1
        obtain ⟨q0, q1, q2, q3, -, -⟩ := HB3.out
        clear hd3 hh3
        rcases hcmp with ⟨rfl, hpt, hv, hw1, hw2⟩ | ⟨rfl, hpt, hv, hw1, hw2⟩ | ⟨rfl, hw1⟩ | ⟨rfl, hw1, hw2⟩
        · rw [hpt] at HPUT
          have HV : Hid (∀ W, Calls Try.prog 21 #[.agg #[.int .u32 ad, .int .i64 len]] W _) := fun W => valid_yes ad len hv x0 x1 W
          clear hpt hv
          go_wp2_with fail
          refine HPUT.out.mono ?_
          rintro e w4 ⟨old, had, p4, cc4, rfl, hbut, hh4⟩
          have HI4 : Hid (IL w bt b2 o1' o2' t' (putsP ms ws) made' fr' wa ws ms 0 u7 w4) := HIL.out.next_but hbut hh4
          have HB4 : Hid (Box4 (b2 + 1) u7.ownBlock bx ad len way false w4) := HB3.out.keep hbut.size (hbut.block bx HB3.out.lt.2 (by have := HB3.out.lt.1; omega)) HB3.out.ne
          clear hbut hh4 HPUT q0 q1 q2 q3 HB3 HIL HFIT
          obtain ⟨q0, q1, q2, q3, -, -⟩ := HB4.out
          go_wp2_with fail
          refine (HV.out w4).mono ?_
          rintro e w5 ⟨rfl, hb5⟩
          have HI5 : Hid (IL w bt b2 o1' o2' t' (putsP ms ws) made' fr' wa ws ms 0 u7 w5) := HI4.out.next_bel hb5
          clear hb5 HI4 HV q0 q1 q2 q3 HB4
          have HI4 := HI5
          clear HI5
          go_wp2_with fail
          go_loopw [7, 75] (fun u i wq => ∃ j : Nat, j ≤ n ∧ i = .int .i64 j ∧ IL w bt b2 o1' o2' t' (putsP ms ws) made' fr' wa ws ms j u wq) (fun _ i _ => n - (intOf i).toNat)
          case atStart => exact ⟨0, by omega, rfl, HI4.out⟩
          case round =>
            obtain ⟨j, hj, rfl, hil⟩ := hrel
            have HIJ : Hid (IL w bt b2 o1' o2' t' (putsP ms ws) made' fr' wa ws ms j u7 wr) := hil
            by_cases hjl : j < n
            · have hjd : j < ws.length := by rw [HN.out]; exact hjl
              obtain ⟨bw, pw, rfl, -, -, d0, d1⟩ := hil.wr7.cells j hjd
              have hmem := List.getElem_mem hjd
              have hxI := hil.wr7.u32 _ hmem
              have hmo := HST.out.most _ hmem
              have hgr := HST.out.grows
              have hmd := HMADE.out
              obtain ⟨⟨k1, y1⟩, hy⟩ : ∃ y, ws[j] = y := ⟨_, rfl⟩
              rw [hy] at d0 d1 hxI hmo
              have HY : Hid (ws[j] = (k1, y1)) := hy
              have y0 : 0 ≤ y1 := hxI.1
              have y2 : y1 < 4294967296 := hxI.2
              have hmo2 : (k1 : Int) ≤ 8 * L + 3 := by
                have : (k1 : Int) ≤ 4 * made' + 3 := hmo
                omega
              have hjj : (j : Int) < n := by omega
              have jj0 : (0 : Int) ≤ j := by omega
              clear hil hmem hxI hmo hgr hmd hy
              go_wp2_with fail
              obtain ⟨wB, hwB⟩ : ∃ wB, wr.alloc (Obj.cells #[.int .i64 (k1 : Int), .int .u32 y1] 43) = wB := ⟨_, rfl⟩
              have hbB : Below wr.heap.size wr wB := by rw [← hwB]; exact (Below.refl _ wr).alloc (Nat.le_refl _) _
              have HIB : Hid (IL w bt b2 o1' o2' t' (putsP ms ws) made' fr' (some ⟨bw, pw, none⟩) ws ms j u7 wB) := HIJ.out.next_bel hbB
              rw [hwB]
              clear hwB d0 d1
              refine (fibPut_any (b2 + 1) u7 (putsP ms (ws.take j)) k1 y1 y0 y2 L (by omega) (by omega) (by omega) (by omega) wB HIB.out.env.own HIB.out.env.lt.2.2).mono ?_
              rintro e w7 ⟨u', rfl, ho7, hk7⟩
              have HIN : Hid (IL w bt b2 o1' o2' t' (putsP ms ws) made' fr' (some ⟨bw, pw, none⟩) ws ms (j + 1) u' w7) := HIB.out.next_put hjd (by rw [HY.out]; exact ho7) hk7
              clear ho7 hk7
              go_wp2_with fail
              exact ⟨⟨j + 1, by omega, by simp, HIN.out⟩, by simp [intOf]; omega⟩
            · obtain rfl : j = n := by omega
              have henv := hil.env
              rw [List.take_of_length_le (by rw [HN.out]; exact Nat.le_refl _)] at henv
              obtain ⟨ua, uc, rfl⟩ := henv.own.form
              obtain ⟨p, c, hh⟩ := henv.tri
              have hfit' := HST.out.fit
              obtain ⟨R, hR⟩ : ∃ R, TrM.mt t' a none = R := ⟨_, rfl⟩
              have hfd := findP_rp hfit'.rp hfit'.wf a a0 a1
              have hm := Tri.match_any _ b2 t' p c a a0 a1 wr hh hfit'.wf R hR
              rw [hR] at hfd
              obtain ⟨V, hV⟩ : ∃ V, TrM.mV R = V := ⟨_, rfl⟩
              obtain ⟨V1, hV1⟩ : ∃ V, TrM.mA R = V := ⟨_, rfl⟩
              obtain ⟨V2, hV2⟩ : ∃ V, TrM.mN R = V := ⟨_, rfl⟩
              obtain ⟨V3, hV3⟩ : ∃ V, R.isSome = V := ⟨_, rfl⟩
              rw [hV] at hfd
              rw [hV, hV1, hV2, hV3] at hm
              obtain ⟨Lm, hLm⟩ : ∃ Lm, (putsP ms ws).length = Lm := ⟨_, rfl⟩
              rw [hLm] at henv ⊢
              have HFD : Hid (findP (putsP ms ws) a = V) := hfd
              have HLM : Hid ((putsP ms ws).length = Lm) := hLm
              have HTB : Hid (Tab (bt + 1) wr bt (putsP ms ws) made' fr' o1' o2') := hil.tab
              have HBL : Hid (Below w.heap.size w wr) := hil.bel
              have HEN : Hid (Env bt b2 (b2 + 1) o1' o2' t' (.slice ua Lm uc) (putsP ms ws) wr) := henv
              have HM : Hid (Calls _ _ _ _ _) := hm
              clear hil henv hh hfit' hR hfd hm hV hV1 hV2 hV3 hLm HIJ
              go_wp2_with fail
              refine HM.out.mono ?_
              rintro e w8 ⟨rfl, hb8⟩
              have HTB8 : Hid (Tab (bt + 1) w8 bt (putsP ms ws) made' fr' o1' o2') := HTB.out.bel hb8
              have HBL8 : Hid (Below w.heap.size w w8) := HBL.out.trans (hb8.mono HBL.out.size)
              have HEN8 : Hid (Env bt b2 (b2 + 1) o1' o2' t' (.slice ua Lm uc) (putsP ms ws) w8) := HEN.out.bel hb8
              clear hb8 HTB HBL HEN HM
              go_wp2_with fail
              obtain ⟨wC, hwC⟩ : ∃ wC, w8.alloc (Obj.cells #[.int .u32 V1, .int .i64 V2] 32) = wC := ⟨_, rfl⟩
              have hbC : Below w8.heap.size w8 wC := by rw [← hwC]; exact (Below.refl _ w8).alloc (Nat.le_refl _) _
              have HEC : Hid (Env bt b2 (b2 + 1) o1' o2' t' (.slice ua Lm uc) (putsP ms ws) wC) := HEN8.out.bel hbC
              have HTC : Hid (Tab (bt + 1) wC bt (putsP ms ws) made' fr' o1' o2') := HTB8.out.bel hbC
              have HBC : Hid (Below w.heap.size w wC) := HBL8.out.trans (hbC.mono HBL8.out.size)
              rw [hwC]
              clear hwC hbC HTB8 HBL8 HEN8
              have HF : Hid (Calls _ _ _ _ _) := find_any ua uc (putsP ms ws) Lm HLM.out a a0 a1 wC HEC.out.own.wds
              rw [HFD.out] at HF
              refine HF.out.mono ?_
              rintro e w9 ⟨rfl, hb9⟩
              have HLN : Hid (LI w bt b2 (k + 1) (.slice ua Lm uc) w9) := by
                have h1 := HST.out.grows
                have h2 := HMADE.out
                exact ⟨putsP ms ws, made', fr', o1', o2', t', HBC.out.trans (hb9.mono HBC.out.size), HTC.out.bel hb9, HST.out.fit, HEC.out.bel hb9, by omega, hbase⟩
              clear hb9 HEC HTC HBC HF
              go_wp2_with fail
              exact ⟨⟨k + 1, by omega, by simp, HLN.out⟩, by simp [intOf]; omega⟩
        · rw [hpt] at HPUT
          have HV : Hid (∀ W, Calls Try.prog 21 #[.agg #[.int .u32 ad, .int .i64 len]] W _) := fun W => valid_no ad len hv x0 x1 W
          clear hpt hv
          go_wp2_with fail
          refine HPUT.out.mono ?_
          rintro e w4 ⟨old, had, p4, cc4, rfl, hbut, hh4⟩
          have HI4 : Hid (IL w bt b2 o1' o2' t' (putsP ms ws) made' fr' wa ws ms 0 u7 w4) := HIL.out.next_but hbut hh4
          have HB4 : Hid (Box4 (b2 + 1) u7.ownBlock bx ad len way false w4) := HB3.out.keep hbut.size (hbut.block bx HB3.out.lt.2 (by have := HB3.out.lt.1; omega)) HB3.out.ne
          clear hbut hh4 HPUT q0 q1 q2 q3 HB3 HIL HFIT
          obtain ⟨q0, q1, q2, q3, -, -⟩ := HB4.out
          go_wp2_with fail
          refine (HV.out w4).mono ?_
          rintro e w5 ⟨rfl, hb5⟩
          have HI5 : Hid (IL w bt b2 o1' o2' t' (putsP ms ws) made' fr' wa ws ms 0 u7 w5) := HI4.out.next_bel hb5
          clear hb5 HI4 HV q0 q1 q2 q3 HB4
          have HI4 := HI5
          clear HI5
          go_wp2_with fail
          go_loopw [7, 75] (fun u i wq => ∃ j : Nat, j ≤ n ∧ i = .int .i64 j ∧ IL w bt b2 o1' o2' t' (putsP ms ws) made' fr' wa ws ms j u wq) (fun _ i _ => n - (intOf i).toNat)
          case atStart => exact ⟨0, by omega, rfl, HI4.out⟩
          case round =>
            obtain ⟨j, hj, rfl, hil⟩ := hrel
            have HIJ : Hid (IL w bt b2 o1' o2' t' (putsP ms ws) made' fr' wa ws ms j u7 wr) := hil
            by_cases hjl : j < n
            · have hjd : j < ws.length := by rw [HN.out]; exact hjl
              obtain ⟨bw, pw, rfl, -, -, d0, d1⟩ := hil.wr7.cells j hjd
              have hmem := List.getElem_mem hjd
              have hxI := hil.wr7.u32 _ hmem
              have hmo := HST.out.most _ hmem
              have hgr := HST.out.grows
              have hmd := HMADE.out
              obtain ⟨⟨k1, y1⟩, hy⟩ : ∃ y, ws[j] = y := ⟨_, rfl⟩
              rw [hy] at d0 d1 hxI hmo
              have HY : Hid (ws[j] = (k1, y1)) := hy
              have y0 : 0 ≤ y1 := hxI.1
              have y2 : y1 < 4294967296 := hxI.2
              have hmo2 : (k1 : Int) ≤ 8 * L + 3 := by
                have : (k1 : Int) ≤ 4 * made' + 3 := hmo
                omega
              have hjj : (j : Int) < n := by omega
              have jj0 : (0 : Int) ≤ j := by omega
              clear hil hmem hxI hmo hgr hmd hy
              go_wp2_with fail
              obtain ⟨wB, hwB⟩ : ∃ wB, wr.alloc (Obj.cells #[.int .i64 (k1 : Int), .int .u32 y1] 43) = wB := ⟨_, rfl⟩
              have hbB : Below wr.heap.size wr wB := by rw [← hwB]; exact (Below.refl _ wr).alloc (Nat.le_refl _) _
              have HIB : Hid (IL w bt b2 o1' o2' t' (putsP ms ws) made' fr' (some ⟨bw, pw, none⟩) ws ms j u7 wB) := HIJ.out.next_bel hbB
              rw [hwB]
              clear hwB d0 d1
              refine (fibPut_any (b2 + 1) u7 (putsP ms (ws.take j)) k1 y1 y0 y2 L (by omega) (by omega) (by omega) (by omega) wB HIB.out.env.own HIB.out.env.lt.2.2).mono ?_
              rintro e w7 ⟨u', rfl, ho7, hk7⟩
              have HIN : Hid (IL w bt b2 o1' o2' t' (putsP ms ws) made' fr' (some ⟨bw, pw, none⟩) ws ms (j + 1) u' w7) := HIB.out.next_put hjd (by rw [HY.out]; exact ho7) hk7
              clear ho7 hk7
              go_wp2_with fail
              exact ⟨⟨j + 1, by omega, by simp, HIN.out⟩, by simp [intOf]; omega⟩
            · obtain rfl : j = n := by omega
              have henv := hil.env
              rw [List.take_of_length_le (by rw [HN.out]; exact Nat.le_refl _)] at henv
              obtain ⟨ua, uc, rfl⟩ := henv.own.form
              obtain ⟨p, c, hh⟩ := henv.tri
              have hfit' := HST.out.fit
              obtain ⟨R, hR⟩ : ∃ R, TrM.mt t' a none = R := ⟨_, rfl⟩
              have hfd := findP_rp hfit'.rp hfit'.wf a a0 a1
              have hm := Tri.match_any _ b2 t' p c a a0 a1 wr hh hfit'.wf R hR
              rw [hR] at hfd
              obtain ⟨V, hV⟩ : ∃ V, TrM.mV R = V := ⟨_, rfl⟩
              obtain ⟨V1, hV1⟩ : ∃ V, TrM.mA R = V := ⟨_, rfl⟩
              obtain ⟨V2, hV2⟩ : ∃ V, TrM.mN R = V := ⟨_, rfl⟩
              obtain ⟨V3, hV3⟩ : ∃ V, R.isSome = V := ⟨_, rfl⟩
              rw [hV] at hfd
              rw [hV, hV1, hV2, hV3] at hm
              obtain ⟨Lm, hLm⟩ : ∃ Lm, (putsP ms ws).length = Lm := ⟨_, rfl⟩
              rw [hLm] at henv ⊢
              have HFD : Hid (findP (putsP ms ws) a = V) := hfd
              have HLM : Hid ((putsP ms ws).length = Lm) := hLm
              have HTB : Hid (Tab (bt + 1) wr bt (putsP ms ws) made' fr' o1' o2') := hil.tab
              have HBL : Hid (Below w.heap.size w wr) := hil.bel
              have HEN : Hid (Env bt b2 (b2 + 1) o1' o2' t' (.slice ua Lm uc) (putsP ms ws) wr) := henv
              have HM : Hid (Calls _ _ _ _ _) := hm
              clear hil henv hh hfit' hR hfd hm hV hV1 hV2 hV3 hLm HIJ
              go_wp2_with fail
              refine HM.out.mono ?_
              rintro e w8 ⟨rfl, hb8⟩
              have HTB8 : Hid (Tab (bt + 1) w8 bt (putsP ms ws) made' fr' o1' o2') := HTB.out.bel hb8
              have HBL8 : Hid (Below w.heap.size w w8) := HBL.out.trans (hb8.mono HBL.out.size)
              have HEN8 : Hid (Env bt b2 (b2 + 1) o1' o2' t' (.slice ua Lm uc) (putsP ms ws) w8) := HEN.out.bel hb8
              clear hb8 HTB HBL HEN HM
              go_wp2_with fail
              obtain ⟨wC, hwC⟩ : ∃ wC, w8.alloc (Obj.cells #[.int .u32 V1, .int .i64 V2] 32) = wC := ⟨_, rfl⟩
              have hbC : Below w8.heap.size w8 wC := by rw [← hwC]; exact (Below.refl _ w8).alloc (Nat.le_refl _) _
              have HEC : Hid (Env bt b2 (b2 + 1) o1' o2' t' (.slice ua Lm uc) (putsP ms ws) wC) := HEN8.out.bel hbC
              have HTC : Hid (Tab (bt + 1) wC bt (putsP ms ws) made' fr' o1' o2') := HTB8.out.bel hbC
              have HBC : Hid (Below w.heap.size w wC) := HBL8.out.trans (hbC.mono HBL8.out.size)
              rw [hwC]
              clear hwC hbC HTB8 HBL8 HEN8
              have HF : Hid (Calls _ _ _ _ _) := find_any ua uc (putsP ms ws) Lm HLM.out a a0 a1 wC HEC.out.own.wds
              rw [HFD.out] at HF
              refine HF.out.mono ?_
              rintro e w9 ⟨rfl, hb9⟩
              have HLN : Hid (LI w bt b2 (k + 1) (.slice ua Lm uc) w9) := by
                have h1 := HST.out.grows
                have h2 := HMADE.out
                exact ⟨putsP ms ws, made', fr', o1', o2', t', HBC.out.trans (hb9.mono HBC.out.size), HTC.out.bel hb9, HST.out.fit, HEC.out.bel hb9, by omega, hbase⟩
              clear hb9 HEC HTC HBC HF
              go_wp2_with fail
              exact ⟨⟨k + 1, by omega, by simp, HLN.out⟩, by simp [intOf]; omega⟩
        · have HI4 : Hid (IL w bt b2 o1' o2' t (putsP ms ws) made' fr' wa ws ms 0 u7 w3) := HIL.out
          have hno : decide (1 ≤ way) = false := by simp; omega
          clear HPUT HIL HFIT
          go_wp2_with fail
          go_loopw [7, 75] (fun u i wq => ∃ j : Nat, j ≤ n ∧ i = .int .i64 j ∧ IL w bt b2 o1' o2' t (putsP ms ws) made' fr' wa ws ms j u wq) (fun _ i _ => n - (intOf i).toNat)
          case atStart => exact ⟨0, by omega, rfl, HI4.out⟩
          case round =>
            obtain ⟨j, hj, rfl, hil⟩ := hrel
            have HIJ : Hid (IL w bt b2 o1' o2' t (putsP ms ws) made' fr' wa ws ms j u7 wr) := hil
            by_cases hjl : j < n
            · have hjd : j < ws.length := by rw [HN.out]; exact hjl
              obtain ⟨bw, pw, rfl, -, -, d0, d1⟩ := hil.wr7.cells j hjd
              have hmem := List.getElem_mem hjd
              have hxI := hil.wr7.u32 _ hmem
              have hmo := HST.out.most _ hmem
              have hgr := HST.out.grows
              have hmd := HMADE.out
              obtain ⟨⟨k1, y1⟩, hy⟩ : ∃ y, ws[j] = y := ⟨_, rfl⟩
              rw [hy] at d0 d1 hxI hmo
              have HY : Hid (ws[j] = (k1, y1)) := hy
              have y0 : 0 ≤ y1 := hxI.1
              have y2 : y1 < 4294967296 := hxI.2
              have hmo2 : (k1 : Int) ≤ 8 * L + 3 := by
                have : (k1 : Int) ≤ 4 * made' + 3 := hmo
                omega
              have hjj : (j : Int) < n := by omega
              have jj0 : (0 : Int) ≤ j := by omega
              clear hil hmem hxI hmo hgr hmd hy
              go_wp2_with fail
              obtain ⟨wB, hwB⟩ : ∃ wB, wr.alloc (Obj.cells #[.int .i64 (k1 : Int), .int .u32 y1] 43) = wB := ⟨_, rfl⟩
              have hbB : Below wr.heap.size wr wB := by rw [← hwB]; exact (Below.refl _ wr).alloc (Nat.le_refl _) _
              have HIB : Hid (IL w bt b2 o1' o2' t (putsP ms ws) made' fr' (some ⟨bw, pw, none⟩) ws ms j u7 wB) := HIJ.out.next_bel hbB
              rw [hwB]
              clear hwB d0 d1
              refine (fibPut_any (b2 + 1) u7 (putsP ms (ws.take j)) k1 y1 y0 y2 L (by omega) (by omega) (by omega) (by omega) wB HIB.out.env.own HIB.out.env.lt.2.2).mono ?_
              rintro e w7 ⟨u', rfl, ho7, hk7⟩
              have HIN : Hid (IL w bt b2 o1' o2' t (putsP ms ws) made' fr' (some ⟨bw, pw, none⟩) ws ms (j + 1) u' w7) := HIB.out.next_put hjd (by rw [HY.out]; exact ho7) hk7
              clear ho7 hk7
              go_wp2_with fail
              exact ⟨⟨j + 1, by omega, by simp, HIN.out⟩, by simp [intOf]; omega⟩
            · obtain rfl : j = n := by omega
              have henv := hil.env
              rw [List.take_of_length_le (by rw [HN.out]; exact Nat.le_refl _)] at henv
              obtain ⟨ua, uc, rfl⟩ := henv.own.form
              obtain ⟨p, c, hh⟩ := henv.tri
              have hfit := HST.out.fit
              obtain ⟨R, hR⟩ : ∃ R, TrM.mt t a none = R := ⟨_, rfl⟩
              have hfd := findP_rp hfit.rp hfit.wf a a0 a1
              have hm := Tri.match_any _ b2 t p c a a0 a1 wr hh hfit.wf R hR
              rw [hR] at hfd
              obtain ⟨V, hV⟩ : ∃ V, TrM.mV R = V := ⟨_, rfl⟩
              obtain ⟨V1, hV1⟩ : ∃ V, TrM.mA R = V := ⟨_, rfl⟩
              obtain ⟨V2, hV2⟩ : ∃ V, TrM.mN R = V := ⟨_, rfl⟩
              obtain ⟨V3, hV3⟩ : ∃ V, R.isSome = V := ⟨_, rfl⟩
              rw [hV] at hfd
              rw [hV, hV1, hV2, hV3] at hm
              obtain ⟨Lm, hLm⟩ : ∃ Lm, (putsP ms ws).length = Lm := ⟨_, rfl⟩
              rw [hLm] at henv ⊢
              have HFD : Hid (findP (putsP ms ws) a = V) := hfd
              have HLM : Hid ((putsP ms ws).length = Lm) := hLm
              have HTB : Hid (Tab (bt + 1) wr bt (putsP ms ws) made' fr' o1' o2') := hil.tab
              have HBL : Hid (Below w.heap.size w wr) := hil.bel
              have HEN : Hid (Env bt b2 (b2 + 1) o1' o2' t (.slice ua Lm uc) (putsP ms ws) wr) := henv
              have HM : Hid (Calls _ _ _ _ _) := hm
              clear hil henv hh hfit hR hfd hm hV hV1 hV2 hV3 hLm HIJ
              go_wp2_with fail
              refine HM.out.mono ?_
              rintro e w8 ⟨rfl, hb8⟩
              have HTB8 : Hid (Tab (bt + 1) w8 bt (putsP ms ws) made' fr' o1' o2') := HTB.out.bel hb8
              have HBL8 : Hid (Below w.heap.size w w8) := HBL.out.trans (hb8.mono HBL.out.size)
              have HEN8 : Hid (Env bt b2 (b2 + 1) o1' o2' t (.slice ua Lm uc) (putsP ms ws) w8) := HEN.out.bel hb8
              clear hb8 HTB HBL HEN HM
              go_wp2_with fail
              obtain ⟨wC, hwC⟩ : ∃ wC, w8.alloc (Obj.cells #[.int .u32 V1, .int .i64 V2] 32) = wC := ⟨_, rfl⟩
              have hbC : Below w8.heap.size w8 wC := by rw [← hwC]; exact (Below.refl _ w8).alloc (Nat.le_refl _) _
              have HEC : Hid (Env bt b2 (b2 + 1) o1' o2' t (.slice ua Lm uc) (putsP ms ws) wC) := HEN8.out.bel hbC
              have HTC : Hid (Tab (bt + 1) wC bt (putsP ms ws) made' fr' o1' o2') := HTB8.out.bel hbC
              have HBC : Hid (Below w.heap.size w wC) := HBL8.out.trans (hbC.mono HBL8.out.size)
              rw [hwC]
              clear hwC hbC HTB8 HBL8 HEN8
              have HF : Hid (Calls _ _ _ _ _) := find_any ua uc (putsP ms ws) Lm HLM.out a a0 a1 wC HEC.out.own.wds
              rw [HFD.out] at HF
              refine HF.out.mono ?_
              rintro e w9 ⟨rfl, hb9⟩
              have HLN : Hid (LI w bt b2 (k + 1) (.slice ua Lm uc) w9) := by
                have h1 := HST.out.grows
                have h2 := HMADE.out
                exact ⟨putsP ms ws, made', fr', o1', o2', t, HBC.out.trans (hb9.mono HBC.out.size), HTC.out.bel hb9, HST.out.fit, HEC.out.bel hb9, by omega, hbase⟩
              clear hb9 HEC HTC HBC HF
              go_wp2_with fail
              exact ⟨⟨k + 1, by omega, by simp, HLN.out⟩, by simp [intOf]; omega⟩
        · have HI4 : Hid (IL w bt b2 o1' o2' t (putsP ms ws) made' fr' wa ws ms 0 u7 w3) := HIL.out
          have hno : decide (way ≤ 65535) = false := by simp; omega
          clear HPUT HIL HFIT
          go_wp2_with fail
          go_loopw [7, 75] (fun u i wq => ∃ j : Nat, j ≤ n ∧ i = .int .i64 j ∧ IL w bt b2 o1' o2' t (putsP ms ws) made' fr' wa ws ms j u wq) (fun _ i _ => n - (intOf i).toNat)
          case atStart => exact ⟨0, by omega, rfl, HI4.out⟩
          case round =>
            obtain ⟨j, hj, rfl, hil⟩ := hrel
            have HIJ : Hid (IL w bt b2 o1' o2' t (putsP ms ws) made' fr' wa ws ms j u7 wr) := hil
            by_cases hjl : j < n
            · have hjd : j < ws.length := by rw [HN.out]; exact hjl
              obtain ⟨bw, pw, rfl, -, -, d0, d1⟩ := hil.wr7.cells j hjd
              have hmem := List.getElem_mem hjd
              have hxI := hil.wr7.u32 _ hmem
              have hmo := HST.out.most _ hmem
              have hgr := HST.out.grows
              have hmd := HMADE.out
              obtain ⟨⟨k1, y1⟩, hy⟩ : ∃ y, ws[j] = y := ⟨_, rfl⟩
              rw [hy] at d0 d1 hxI hmo
              have HY : Hid (ws[j] = (k1, y1)) := hy
              have y0 : 0 ≤ y1 := hxI.1
              have y2 : y1 < 4294967296 := hxI.2
              have hmo2 : (k1 : Int) ≤ 8 * L + 3 := by
                have : (k1 : Int) ≤ 4 * made' + 3 := hmo
                omega
              have hjj : (j : Int) < n := by omega
              have jj0 : (0 : Int) ≤ j := by omega
              clear hil hmem hxI hmo hgr hmd hy
              go_wp2_with fail
              obtain ⟨wB, hwB⟩ : ∃ wB, wr.alloc (Obj.cells #[.int .i64 (k1 : Int), .int .u32 y1] 43) = wB := ⟨_, rfl⟩
              have hbB : Below wr.heap.size wr wB := by rw [← hwB]; exact (Below.refl _ wr).alloc (Nat.le_refl _) _
              have HIB : Hid (IL w bt b2 o1' o2' t (putsP ms ws) made' fr' (some ⟨bw, pw, none⟩) ws ms j u7 wB) := HIJ.out.next_bel hbB
              rw [hwB]
              clear hwB d0 d1
              refine (fibPut_any (b2 + 1) u7 (putsP ms (ws.take j)) k1 y1 y0 y2 L (by omega) (by omega) (by omega) (by omega) wB HIB.out.env.own HIB.out.env.lt.2.2).mono ?_
              rintro e w7 ⟨u', rfl, ho7, hk7⟩
              have HIN : Hid (IL w bt b2 o1' o2' t (putsP ms ws) made' fr' (some ⟨bw, pw, none⟩) ws ms (j + 1) u' w7) := HIB.out.next_put hjd (by rw [HY.out]; exact ho7) hk7
              clear ho7 hk7
              go_wp2_with fail
              exact ⟨⟨j + 1, by omega, by simp, HIN.out⟩, by simp [intOf]; omega⟩
            · obtain rfl : j = n := by omega
              have henv := hil.env
              rw [List.take_of_length_le (by rw [HN.out]; exact Nat.le_refl _)] at henv
              obtain ⟨ua, uc, rfl⟩ := henv.own.form
              obtain ⟨p, c, hh⟩ := henv.tri
              have hfit := HST.out.fit
              obtain ⟨R, hR⟩ : ∃ R, TrM.mt t a none = R := ⟨_, rfl⟩
              have hfd := findP_rp hfit.rp hfit.wf a a0 a1
              have hm := Tri.match_any _ b2 t p c a a0 a1 wr hh hfit.wf R hR
              rw [hR] at hfd
              obtain ⟨V, hV⟩ : ∃ V, TrM.mV R = V := ⟨_, rfl⟩
              obtain ⟨V1, hV1⟩ : ∃ V, TrM.mA R = V := ⟨_, rfl⟩
              obtain ⟨V2, hV2⟩ : ∃ V, TrM.mN R = V := ⟨_, rfl⟩
              obtain ⟨V3, hV3⟩ : ∃ V, R.isSome = V := ⟨_, rfl⟩
              rw [hV] at hfd
              rw [hV, hV1, hV2, hV3] at hm
              obtain ⟨Lm, hLm⟩ : ∃ Lm, (putsP ms ws).length = Lm := ⟨_, rfl⟩
              rw [hLm] at henv ⊢
              have HFD : Hid (findP (putsP ms ws) a = V) := hfd
              have HLM : Hid ((putsP ms ws).length = Lm) := hLm
              have HTB : Hid (Tab (bt + 1) wr bt (putsP ms ws) made' fr' o1' o2') := hil.tab
              have HBL : Hid (Below w.heap.size w wr) := hil.bel
              have HEN : Hid (Env bt b2 (b2 + 1) o1' o2' t (.slice ua Lm uc) (putsP ms ws) wr) := henv
              have HM : Hid (Calls _ _ _ _ _) := hm
              clear hil henv hh hfit hR hfd hm hV hV1 hV2 hV3 hLm HIJ
              go_wp2_with fail
              refine HM.out.mono ?_
              rintro e w8 ⟨rfl, hb8⟩
              have HTB8 : Hid (Tab (bt + 1) w8 bt (putsP ms ws) made' fr' o1' o2') := HTB.out.bel hb8
              have HBL8 : Hid (Below w.heap.size w w8) := HBL.out.trans (hb8.mono HBL.out.size)
              have HEN8 : Hid (Env bt b2 (b2 + 1) o1' o2' t (.slice ua Lm uc) (putsP ms ws) w8) := HEN.out.bel hb8
              clear hb8 HTB HBL HEN HM
              go_wp2_with fail
              obtain ⟨wC, hwC⟩ : ∃ wC, w8.alloc (Obj.cells #[.int .u32 V1, .int .i64 V2] 32) = wC := ⟨_, rfl⟩
              have hbC : Below w8.heap.size w8 wC := by rw [← hwC]; exact (Below.refl _ w8).alloc (Nat.le_refl _) _
              have HEC : Hid (Env bt b2 (b2 + 1) o1' o2' t (.slice ua Lm uc) (putsP ms ws) wC) := HEN8.out.bel hbC
              have HTC : Hid (Tab (bt + 1) wC bt (putsP ms ws) made' fr' o1' o2') := HTB8.out.bel hbC
              have HBC : Hid (Below w.heap.size w wC) := HBL8.out.trans (hbC.mono HBL8.out.size)
              rw [hwC]
              clear hwC hbC HTB8 HBL8 HEN8
              have HF : Hid (Calls _ _ _ _ _) := find_any ua uc (putsP ms ws) Lm HLM.out a a0 a1 wC HEC.out.own.wds
              rw [HFD.out] at HF
              refine HF.out.mono ?_
              rintro e w9 ⟨rfl, hb9⟩
              have HLN : Hid (LI w bt b2 (k + 1) (.slice ua Lm uc) w9) := by
                have h1 := HST.out.grows
                have h2 := HMADE.out
                exact ⟨putsP ms ws, made', fr', o1', o2', t, HBC.out.trans (hb9.mono HBC.out.size), HTC.out.bel hb9, HST.out.fit, HEC.out.bel hb9, by omega, hbase⟩
              clear hb9 HEC HTC HBC HF
              go_wp2_with fail
              exact ⟨⟨k + 1, by omega, by simp, HLN.out⟩, by simp [intOf]; omega⟩
    · obtain rfl : k = L := by omega
      obtain ⟨ms, made, fr, o1, o2, t, hbel, htab, hfit, henv, hmade, hbase⟩ := HLK.out
      have HBEL : Hid (Below w.heap.size w wr) := hbel
      clear hbel htab hfit henv hmade
      go_wp2_with fail
      go_ret
      exact ⟨rfl, HBEL.out⟩
end Go.Proofs.Ytbahngpmafdfcac.Fb
