/- FibTouches: what it answers. -/
import Derived.Test.YtbahngpmafdfcacFcE
namespace Go.Proofs.Ytbahngpmafdfcac.Fb
open Go.ChangeShapes Go.WideShapes Go.ChangeAt Go.RowKit Go.Joins Go.Proofs.Ytbahngpmafdfcac.PM Go.Proofs.Ytbahngpmafdfcac.Ask
set_option linter.unusedVariables false

set_option maxRecDepth 100000 in
set_option maxHeartbeats 4000000 in
theorem touches_any (va vm : Option Addr) (cap cm : Nat) (ss : List (Int × Int × Int × Bool)) (L : Nat) (hL : ss.length = L) (hbig : L ≤ 1048576) (mo : List Int) (N0 : Nat) (hN0 : mo.length = N0) (hbig2 : N0 ≤ 1048576) (junk : Int) (w : World) (h : Arr4 w va ss) (hm : Wds w vm mo) (hnil : vm = none → N0 = 0 ∧ cm = 0) :
    Calls Try.prog 4 #[.slice va L cap, .slice vm N0 cm, .int .u32 junk] w fun e w' => e = .returned (.bool true) ∧ Below w.heap.size w w' := by
  have H : Hid (Arr4 w va ss) := h
  have HL : Hid (ss.length = L) := hL
  have HAD : Hid (∀ W, Below w.heap.size w W → Calls Try.prog 9 #[.slice va L cap, .slice vm N0 cm] W fun e w' => ∃ v, e = .returned v ∧ AD W N0 L v w') := fun W hW => addrs_any va vm cap cm ss L hL mo N0 hN0 (by omega) W (h.bel hW) (hm.bel hW) hnil
  clear h hL hm hN0 hnil
  go_enter Try.func4, Try.ntmps4
  go_wp2_with fail
  refine (new_tab w).mono ?_
  rintro e w1 ⟨rfl, ht1, hb1, hs1⟩
  have HT1 : Hid (Tab (w.heap.size + 1) w1 w.heap.size [] 0 [] none none) := ht1
  have HB1 : Hid (Below w.heap.size w w1) := hb1
  have HS1 : Hid (w1.heap.size = w.heap.size + 1) := hs1
  clear ht1 hb1 hs1
  go_wp2_with fail
  refine (HAD.out w1 HB1.out).mono ?_
  rintro e w2 ⟨v2, rfl, had2⟩
  obtain ⟨xs, hox, hxl⟩ := had2.own
  obtain ⟨aa, ac, rfl⟩ := hox.form
  obtain ⟨X, hX⟩ : ∃ X, xs.length = X := ⟨_, rfl⟩
  have HX : Hid (xs.length = X) := hX
  rw [hX] at hxl ⊢
  have hX9 : X ≤ 9223372036854775807 := by omega
  have HLM : Hid (LM w w.heap.size w2.heap.size aa xs 0 (.slice none 0 0) w2) := by
    have e1 := HS1.out
    have hbb := had2.bel
    refine ⟨[], 0, [], none, none, .nil, HB1.out.trans (hbb.mono HB1.out.size), HT1.out.bel hbb, Fit.new, ⟨⟨World.ownsRow_nil _ _ _ _, by simp⟩, fun i hi => ?_, hox.u32, ⟨by have := hbb.size; omega, Nat.le_refl _⟩, fun g e => by simp [Value.ownBlock] at e⟩, by decide, Nat.le_refl _⟩
    rw [hX] at hox
    obtain ⟨b, o, e, hlt, hc⟩ := hox.wds.cells i hi
    subst e
    have := (hox.row.lt b (by simp [Value.ownBlock])).1
    exact ⟨b, o, rfl, ⟨by omega, hlt⟩, ⟨by simp, by simp⟩, hc⟩
  obtain ⟨bt, hbt⟩ : ∃ bt, w.heap.size = bt := ⟨_, rfl⟩
  obtain ⟨N, hN⟩ : ∃ N, w2.heap.size = N := ⟨_, rfl⟩
  rw [hN] at HLM
  have HBT : Hid (w.heap.size = bt) := hbt
  rw [hbt] at HLM ⊢
  clear had2 hox hX HAD HT1 HB1 HS1 hN hbt
  go_wp2_with fail
  go_loopw [8, 29] (fun u i wr => ∃ k : Nat, k ≤ L ∧ i = .int .i64 k ∧ LM w bt N aa xs k u wr) (fun _ i _ => L - (intOf i).toNat)
  case atStart => exact ⟨0, by omega, rfl, HLM.out⟩
  case round =>
    obtain ⟨k, hk, rfl, hli⟩ := hrel
    have HLK : Hid (LM w bt N aa xs k u8 wr) := hli
    clear hli HLM
    by_cases hlt : k < L
    · have hkd : k < ss.length := by rw [HL.out]; exact hlt
      obtain ⟨ms, made, fr, o1, o2, t, hbel, htab, hfit, henv, hmade, hbase⟩ := HLK.out
      obtain ⟨b, o, rfl, hbl, c0, c1, c2, c3⟩ := (H.out.bel hbel).cells k hkd
      have hin := H.out.u32 _ (List.getElem_mem hkd)
      obtain ⟨⟨ad, len, way, dr⟩, hy⟩ : ∃ y, ss[k] = y := ⟨_, rfl⟩
      rw [hy] at c0 c1 c2 c3 hin
      have x0 : 0 ≤ ad := hin.1
      have x1 : ad < 4294967296 := hin.2
      have hkk : (k : Int) < L := by omega
      have kk0 : (0 : Int) ≤ k := by omega
      have hmk : made + 2 < 4294967296 := by omega
      have hml : ms.length ≤ 8 * L + 8 := by have := hfit.len; omega
      have HBEL : Hid (Below w.heap.size w wr) := hbel
      have HTAB : Hid (Tab (bt + 1) wr bt ms made fr o1 o2) := htab
      have HFIT : Hid (Fit ms made fr t) := hfit
      have HENV : Hid (EA bt N o1 o2 u8 ms aa xs wr) := henv
      have HMADE : Hid (made ≤ 2 * k) := hmade
      clear hbel htab hfit henv hmade hin hy HLK
      go_wp2_with fail
      obtain ⟨wA, hwA⟩ : ∃ wA, wr.alloc (Obj.cells #[.int .u32 ad, .int .i64 len, .int .i64 way, .bool dr] 34) = wA := ⟨_, rfl⟩
      have hbA : Below wr.heap.size wr wA := by rw [← hwA]; exact (Below.refl _ wr).alloc (Nat.le_refl _) _
      have HTA : Hid (Tab (bt + 1) wA bt ms made fr o1 o2) := HTAB.out.bel hbA
      have HEA : Hid (EA bt N o1 o2 u8 ms aa xs wA) := HENV.out.bel hbA
      have HBA : Hid (Below w.heap.size w wA) := HBEL.out.trans (hbA.mono HBEL.out.size)
      rw [hwA]
      clear hwA c0 c1 c2 c3 hbA HTAB HENV HBEL
      refine (do_any bt ms made fr o1 o2 t HFIT.out hmk ad len way dr x0 x1 wA HTA.out).mono ?_
      rintro e w3 ⟨t', err, ws, made', fr', ⟨v, o1', o2', rfl, ht3, hk3, ho3⟩, hst⟩
      obtain ⟨wa, wc, rfl⟩ := ho3.form
      have HI4 : Hid (IM w bt N (8 * L + 8) aa xs o1' o2' (putsP ms ws) made' fr' wa ws ms 0 u8 w3) := IM.start HBA.out HTA.out HEA.out hbase hml ht3 hk3 ho3 hst.few
      have HST : Hid (Step ms made t t' ws made' fr') := hst
      have hn9 := hst.few
      obtain ⟨n, hn⟩ : ∃ n, ws.length = n := ⟨_, rfl⟩
      rw [hn] at hn9 ⊢
      have HN : Hid (ws.length = n) := hn
      clear ht3 hk3 ho3 hst hn HBA HTA HEA HFIT
      go_wp2_with fail
      go_loopw [8, 41] (fun u i wq => ∃ j : Nat, j ≤ n ∧ i = .int .i64 j ∧ IM w bt N (8 * L + 8) aa xs o1' o2' (putsP ms ws) made' fr' wa ws ms j u wq) (fun _ i _ => n - (intOf i).toNat)
      case atStart => exact ⟨0, by omega, rfl, HI4.out⟩
      case round =>
        obtain ⟨j, hj, rfl, hil⟩ := hrel
        have HIJ : Hid (IM w bt N (8 * L + 8) aa xs o1' o2' (putsP ms ws) made' fr' wa ws ms j u8 wr) := hil
        clear HI4
        by_cases hjl : j < n
        · have hjd : j < ws.length := by rw [HN.out]; exact hjl
          obtain ⟨bw, pw, rfl, -, -, d0, d1⟩ := hil.wr7.cells j hjd
          have hmem := List.getElem_mem hjd
          have hxI := hil.wr7.u32 _ hmem
          have hmo := HST.out.most _ hmem
          have hgr := HST.out.grows
          have hmd := HMADE.out
          obtain ⟨⟨k1, y1⟩, hy⟩ : ∃ y, ws[j] = y := ⟨_, rfl⟩
          rw [hy] at d0 d1 hxI hmo
          have HY : Hid (ws[j] = (k1, y1)) := hy
          have y0 : 0 ≤ y1 := hxI.1
          have y2 : y1 < 4294967296 := hxI.2
          have hmo2 : (k1 : Int) ≤ 8 * L + 3 := by
            have : (k1 : Int) ≤ 4 * made' + 3 := hmo
            omega
          have hjj : (j : Int) < n := by omega
          have jj0 : (0 : Int) ≤ j := by omega
          clear hil hmem hxI hmo hgr hmd hy
          go_wp2_with fail
          obtain ⟨wB, hwB⟩ : ∃ wB, wr.alloc (Obj.cells #[.int .i64 (k1 : Int), .int .u32 y1] 43) = wB := ⟨_, rfl⟩
          have hbB : Below wr.heap.size wr wB := by rw [← hwB]; exact (Below.refl _ wr).alloc (Nat.le_refl _) _
          have HIB : Hid (IM w bt N (8 * L + 8) aa xs o1' o2' (putsP ms ws) made' fr' (some ⟨bw, pw, none⟩) ws ms j u8 wB) := HIJ.out.next_bel hbB
          rw [hwB]
          clear hwB d0 d1 HIJ
          refine (fibPut_any N u8 (putsP ms (ws.take j)) k1 y1 y0 y2 L (by omega) (by omega) (by omega) (by omega) wB HIB.out.ea.own HIB.out.ea.lt.2).mono ?_
          rintro e w7 ⟨u', rfl, ho7, hk7⟩
          have HIN : Hid (IM w bt N (8 * L + 8) aa xs o1' o2' (putsP ms ws) made' fr' (some ⟨bw, pw, none⟩) ws ms (j + 1) u' w7) := HIB.out.next_put hjd (by rw [HY.out]; show k1 + 1 ≤ _; omega) (by rw [HY.out]; exact ho7) hk7
          obtain ⟨ua, uc, rfl⟩ := HIN.out.ea.own.form
          obtain ⟨mm, hmm⟩ : ∃ mm, putsP ms (ws.take (j + 1)) = mm := ⟨_, rfl⟩
          have HMM : Hid (putsP ms (ws.take (j + 1)) = mm) := hmm
          obtain ⟨Lm, hLm⟩ : ∃ Lm, mm.length = Lm := ⟨_, rfl⟩
          have HLm : Hid (mm.length = Lm) := hLm
          have hLm8 : Lm ≤ 8 * L + 8 := by have := HIN.out.len; rw [hmm, hLm] at this; exact this
          rw [hmm, hLm] at HIN ⊢
          clear ho7 hk7 HIB hmm hLm
          go_wp2_with fail
          go_loopw [57] (fun i wq => ∃ q : Nat, q ≤ X ∧ i = .int .i64 q ∧ IM w bt N (8 * L + 8) aa xs o1' o2' (putsP ms ws) made' fr' (some ⟨bw, pw, none⟩) ws ms (j + 1) (.slice ua Lm uc) wq) (fun i _ => X - (intOf i).toNat)
          case atStart => exact ⟨0, by omega, rfl, HIN.out⟩
          case round =>
            obtain ⟨q, hq, rfl, hiq⟩ := hrel
            have HIQ : Hid (IM w bt N (8 * L + 8) aa xs o1' o2' (putsP ms ws) made' fr' (some ⟨bw, pw, none⟩) ws ms (j + 1) (.slice ua Lm uc) wr) := hiq
            clear HIN
            by_cases hql : q < X
            · have hqd : q < xs.length := by rw [HX.out]; exact hql
              obtain ⟨ba, oa, rfl, -, -, e0⟩ := hiq.ea.adr q hqd
              have hai := hiq.ea.u32 _ (List.getElem_mem hqd)
              obtain ⟨ax, hax⟩ : ∃ ax, xs[q] = ax := ⟨_, rfl⟩
              rw [hax] at e0 hai
              have hqq : (q : Int) < X := by omega
              have qq0 : (0 : Int) ≤ q := by omega
              have hoq := hiq.ea.own
              rw [HMM.out] at hoq
              have HHA : Hid (Calls _ _ _ _ _) := hangs_any ua uc mm Lm HLm.out (by omega) ax junk hai.1 hai.2 wr hoq.wds (fun b o e => (hoq.row.lt b (by rw [e]; rfl)).2)
              clear hiq hai hax hoq
              go_wp2_with fail
              refine HHA.out.mono ?_
              rintro e w8 ⟨rfl, hb8⟩
              have HI8 : Hid (IM w bt N (8 * L + 8) (some ⟨ba, oa, none⟩) xs o1' o2' (putsP ms ws) made' fr' (some ⟨bw, pw, none⟩) ws ms (j + 1) (.slice ua Lm uc) w8) := HIQ.out.next_bel hb8
              clear hb8 HHA HIQ e0
              go_wp2_with fail
              exact ⟨⟨q + 1, by omega, by simp, HI8.out⟩, by simp [intOf]; omega⟩
            · obtain rfl : X = q := by omega
              clear hiq
              go_wp2_with fail
              exact ⟨⟨j + 1, by omega, by simp, HIQ.out⟩, by simp [intOf]; omega⟩
        · obtain rfl : n = j := by omega
          have hea := hil.ea
          rw [List.take_of_length_le (by rw [HN.out]; exact Nat.le_refl _)] at hea
          have HLN : Hid (LM w bt N aa xs (k + 1) u8 wr) := by
            have h1 := HST.out.grows
            have h2 := HMADE.out
            exact ⟨putsP ms ws, made', fr', o1', o2', t', hil.bel, hil.tab, HST.out.fit, hea, by omega, hbase⟩
          clear hil hea HIJ
          go_wp2_with fail
          exact ⟨⟨k + 1, by omega, by simp, HLN.out⟩, by simp [intOf]; omega⟩
    · obtain rfl : L = k := by omega
      obtain ⟨ms, made, fr, o1, o2, t, hbel, htab, hfit, henv, hmade, hbase⟩ := HLK.out
      obtain ⟨ua, uc, rfl⟩ := henv.own.form
      obtain ⟨Lm, hLm⟩ : ∃ Lm, ms.length = Lm := ⟨_, rfl⟩
      have HLm : Hid (ms.length = Lm) := hLm
      have hLm8 : Lm ≤ 8 * L + 8 := by have := hfit.len; rw [hLm] at this; omega
      have HLE : Hid (LE w N aa xs ms (.slice ua ms.length uc) wr) := ⟨hbel, henv.own, fun i hi => by
        obtain ⟨b, o, e, ⟨-, hb⟩, -, hc⟩ := henv.adr i hi
        exact ⟨b, o, e, Nat.lt_of_lt_of_le hb henv.lt.2, hc⟩⟩
      have HXU : Hid (∀ d ∈ xs, In32 d) := henv.u32
      rw [hLm] at HLE ⊢
      clear hbel htab hfit henv hmade hLm HLK
      go_wp2_with fail
      go_loopw [71] (fun i wq => ∃ q : Nat, q ≤ X ∧ i = .int .i64 q ∧ LE w N aa xs ms (.slice ua Lm uc) wq) (fun i _ => X - (intOf i).toNat)
      case atStart => exact ⟨0, by omega, rfl, HLE.out⟩
      case round =>
        obtain ⟨q, hq, rfl, hle⟩ := hrel
        have HLQ : Hid (LE w N aa xs ms (.slice ua Lm uc) wr) := hle
        clear HLE
        by_cases hql : q < X
        · have hqd : q < xs.length := by rw [HX.out]; exact hql
          obtain ⟨ba, oa, rfl, -, e0⟩ := hle.adr q hqd
          have hai := HXU.out _ (List.getElem_mem hqd)
          obtain ⟨ax, hax⟩ : ∃ ax, xs[q] = ax := ⟨_, rfl⟩
          rw [hax] at e0 hai
          have hqq : (q : Int) < X := by omega
          have qq0 : (0 : Int) ≤ q := by omega
          have hoq := hle.own
          have HHA : Hid (Calls _ _ _ _ _) := hangs_any ua uc ms Lm HLm.out (by omega) ax junk hai.1 hai.2 wr hoq.wds (fun b o e => (hoq.row.lt b (by rw [e]; rfl)).2)
          clear hle hai hax hoq
          go_wp2_with fail
          refine HHA.out.mono ?_
          rintro e w8 ⟨rfl, hb8⟩
          have HI8 : Hid (LE w N (some ⟨ba, oa, none⟩) xs ms (.slice ua Lm uc) w8) := HLQ.out.next hb8
          clear hb8 HHA HLQ e0
          go_wp2_with fail
          exact ⟨⟨q + 1, by omega, by simp, HI8.out⟩, by simp [intOf]; omega⟩
        · obtain rfl : X = q := by omega
          clear hle
          go_wp2_with fail
          go_ret
          exact ⟨rfl, HLQ.out.bel⟩
end Go.Proofs.Ytbahngpmafdfcac.Fb
