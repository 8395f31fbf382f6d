/- PvPieces: in two kinds of pieces the same comes out. -/
import Derived.Test.YtjnjjkhdmdjaeaaPxH
import Derived.Test.YtjnjjkhdmdjaeaaPxI
namespace Go.Proofs.Ytjnjjkhdmdjaeaa.Pv
open Go.ChangeShapes Go.WideShapes Go.ChangeAt Go.RowKit Go.Joins Go.Proofs.Ytjnjjkhdmdjaeaa.PM Go.Proofs.Ytjnjjkhdmdjaeaa.Ask Go.Proofs.Ytjnjjkhdmdjaeaa.Ge
set_option linter.unusedVariables false

/-- lists that are not too long -/
def Sm (m : Ms) : Prop := m.lost.length ≤ 1048576 ∧ m.hv.length ≤ 1048576 ∧ m.rt.path.length ≤ 1048576 ∧ m.rt.marks.length ≤ 1048576 ∧ m.rt.clus.length ≤ 1048576
theorem ps_count : ∀ (n : Nat) (x : List Nat), (PS n x).1.length ≤ x.length
  | 0, x => by unfold PS; simp
  | n + 1, x => by
    unfold PS
    split
    · simp
    · rename_i hb
      split
      · rename_i h6
        split
        · have h1 := ps_count n (x.drop (szOf x))
          have h2 := bg_six (by simpa using hb) h6.1
          rw [List.length_drop] at h1
          rw [List.length_cons]
          omega
        · simp
      · simp
theorem parse_count (x : List Nat) : (parse x).1.length ≤ x.length := ps_count _ x
set_option maxRecDepth 100000 in
set_option maxHeartbeats 16000000 in
theorem pieces_any (l : List (Ms × Sl)) (vl vt vc : Option Addr) (nl cl nt ct nc cc : Nat) (tl : List Nat) (cs : List Int) (w : World) (hl : Gm.Lst E17 w vl l) (hln : l.length = nl) (hlm : ∀ p ∈ l, MOk w p.1 p.2) (hls : ∀ p ∈ l, Sm p.1)
    (ht : Lst E8 w vt tl) (htn : tl.length = nt) (htc : nt ≤ ct) (htu : ∀ d ∈ tl, d < 256) (htz : vt = none → nt = 0 ∧ ct = 0) (hc : Lst EI w vc cs) (hcn : cs.length = nc) (hcr : ∀ c ∈ cs, -9223372036854775808 ≤ c ∧ c < 9223372036854775808) :
    Calls Try.prog 7 #[.slice vl nl cl, .slice vt nt ct, .slice vc nc cc] w fun e w' => e = .returned (.bool true) ∧ Below w.heap.size w w' := by
  have HL : Hid (Gm.Lst E17 w vl l) := hl
  have HLN : Hid (l.length = nl) := hln
  have HLM : Hid (∀ p ∈ l, MOk w p.1 p.2) := hlm
  have HLS : Hid (∀ p ∈ l, Sm p.1) := hls
  have HT : Hid (Lst E8 w vt tl) := ht
  have HTN : Hid (tl.length = nt) := htn
  have HTU : Hid (∀ d ∈ tl, d < 256) := htu
  have HTZ : Hid (vt = none → nt = 0 ∧ ct = 0) := htz
  have HC : Hid (Lst EI w vc cs) := hc
  have HCN : Hid (cs.length = nc) := hcn
  have HCR : Hid (∀ c ∈ cs, -9223372036854775808 ≤ c ∧ c < 9223372036854775808) := hcr
  have hnlm : nl ≤ 9223372036854775807 := by have := hl.small; omega
  have hncm : nc ≤ 9223372036854775807 := by have := hc.small; omega
  clear hl hln hlm hls ht htn htu htz hc hcn hcr
  go_enter Try.func7, Try.ntmps7
  by_cases h50 : nl ≤ 50
  case neg =>
    have h50i : (50 : Int) < (nl : Int) := by omega
    go_wp2_with fail
    go_ret
    exact ⟨rfl, Below.refl _ _⟩
  have h50i : ¬ (50 : Int) < (nl : Int) := by omega
  by_cases h20 : nt ≤ 20000
  case neg =>
    have h20i : (20000 : Int) < (nt : Int) := by omega
    go_wp2_with fail
    go_ret
    exact ⟨rfl, Below.refl _ _⟩
  have h20i : ¬ (20000 : Int) < (nt : Int) := by omega
  go_wp2_with fail
  go_loopw [34, 7, 8] (fun iv bv sv wr => ∃ (i : Nat) (bs : List Nat) (sn : List (Ms × Sl)), i ≤ nl ∧ iv = .int .i64 (i : Int) ∧ L1 w l i wr bv sv bs sn) (fun i _ _ _ => nl - (intOf i).toNat)
  case atStart => exact ⟨0, [], [], by omega, rfl, L1.start w l⟩
  case round =>
    obtain ⟨i, bs, sn, hi, rfl, hL⟩ := hrel
    have HI : Hid (L1 w l i wr u7 u8 bs sn) := hL
    clear hL
    by_cases hlt : i < nl
    · have hil : i < l.length := by rw [HLN.out]; exact hlt
      obtain ⟨p, hp⟩ : ∃ p, l[i] = p := ⟨_, rfl⟩
      have hpl : p ∈ l := hp ▸ List.getElem_mem hil
      obtain ⟨b1, o1, rfl, hb1, hc1⟩ := lst17 (HL.out.bel HI.out.bel) i hil
      rw [hp] at hc1
      obtain ⟨m, s⟩ := p
      dsimp only at hc1
      have HC1 : Hid (∀ j, j < 17 → wr.cell? ⟨b1, o1 + i * 17 + j, none⟩ = (msL m s)[j]?) := hc1
      have HPL : Hid ((m, s) ∈ l) := hpl
      have HOK : Hid (MOk wr m s) := (HLM.out _ hpl).bel HI.out.bel
      have HSM : Hid (Sm m) := HLS.out _ hpl
      have HIN : Hid (InM m) := ⟨HOK.out.il, HOK.out.ih, ⟨HOK.out.r.n0, HOK.out.r.n1⟩⟩
      have hii : (i : Int) < (nl : Int) := by omega
      have ii0 : (0 : Int) ≤ i := by omega
      clear hp hpl hc1 hb1
      go_wp2_with (first | (refine list_mat rfl _ rfl (b := b1) (k := o1 + i * 17) rfl HC1.out ?_) | (refine list_mstore rfl _ _ rfl (b := wr.heap.size) (m := m) (s := s) rfl rfl (mb_zero rfl rfl).1 ?_))
      intro w2 hm2 hk2
      obtain ⟨hz2, hb2⟩ := mb_zero (w := wr) rfl rfl
      have HB2 : Hid (Below wr.heap.size wr w2) := hb2.trans (hk2.out.below (Nat.le_refl _) hb2.size)
      obtain ⟨bq, hbq⟩ : ∃ q, wr.heap.size = q := ⟨_, rfl⟩
      have HBQ : Hid (wr.heap.size = bq) := hbq
      rw [hbq] at hm2 ⊢
      have HM2 : Hid (MB bq m s w2) := hm2
      have HOK2 : Hid (MOk w2 m s) := HOK.out.bel HB2.out
      clear hm2 hk2 hz2 hb2 hbq HOK HC1
      obtain ⟨t, ht⟩ : ∃ t, decide (m.lost.length + m.hv.length + m.rt.path.length + m.rt.marks.length + m.rt.clus.length ≤ 20000) = t := ⟨_, rfl⟩
      have HT' : Hid (decide (m.lost.length + m.hv.length + m.rt.path.length + m.rt.marks.length + m.rt.clus.length ≤ 20000) = t) := ht
      clear ht
      go_wp2_with (refine list_mload rfl _ rfl (b := bq) rfl HM2.out ?_)
      refine (small_any m s HSM.out t HT'.out w2).mono ?_
      rintro e w3 ⟨rfl, hb3⟩
      have HB3 : Hid (Below wr.heap.size wr w3) := HB2.out.trans (hb3.mono HB2.out.size)
      have HM3 : Hid (MB bq m s w3) := HM2.out.blk (hb3.block bq HM2.out.lt)
      have HOK3 : Hid (MOk w3 m s) := HOK2.out.bel hb3
      clear hb3 HB2 HM2 HOK2
      cases t with
      | false =>
        have HL3 : Hid (L1 w l (i + 1) w3 u7 u8 bs sn) := HI.out.skip HB3.out
        go_wp2_with fail
        exact ⟨⟨i + 1, bs, sn, by omega, by simp, HL3.out⟩, by simp [intOf]; omega⟩
      | true =>
        have hsum := of_decide_eq_true HT'.out
        obtain ⟨er, her⟩ : ∃ er, encE m = er := ⟨_, rfl⟩
        have HER : Hid (encE m = er) := her
        obtain ⟨eb, heb⟩ : ∃ bs, encB m = bs := ⟨_, rfl⟩
        have HEB : Hid (encB m = eb) := heb
        have HENC := encode_any m s w3 HOK3.out ⟨by omega, by omega⟩ eb er heb her
        clear her heb hsum
        go_wp2_with (refine list_mload rfl _ rfl (b := bq) rfl HM3.out ?_)
        refine HENC.mono ?_
        rintro e w4 ⟨v4, rfl, ho4, hb4⟩
        have HB4 : Hid (Below wr.heap.size wr w4) := HB3.out.trans (hb4.mono HB3.out.size)
        have HM4 : Hid (MB bq m s w4) := HM3.out.blk (hb4.block bq HM3.out.lt)
        have HP4 : ∃ va L vc, v4 = .slice va L vc ∧ Pc8 w4 va L vc eb := by
          obtain ⟨va, vc, hv4, -, -⟩ := ho4.form
          exact ⟨va, eb.length, vc, hv4, OwnL.pc8 (hv4 ▸ ho4)⟩
        obtain ⟨va, L, vc4, rfl, hp4⟩ := HP4
        have HP : Hid (Pc8 w4 va L vc4 eb) := hp4
        clear hb4 ho4 hp4 HENC HB3 HM3 HOK3
        by_cases he0 : er = 0
        case neg =>
          have heb0 : (er == 0) = false := by rw [beq_eq_false_iff_ne]; exact he0
          have HL4 : Hid (L1 w l (i + 1) w4 u7 u8 bs sn) := HI.out.skip HB4.out
          go_wp2_with fail
          exact ⟨⟨i + 1, bs, sn, by omega, by simp, HL4.out⟩, by simp [intOf]; omega⟩
        subst he0
        have hLL : L ≤ 1024 := by rw [← HP.out.len, ← HEB.out]; exact enc_len HER.out HIN.out
        have hbl := HI.out.len
        have hbig : bs.length + L ≤ 1099511627775 := by omega
        have HOB : Hid (OwnL E8 w.heap.size w4 u7 bs) := HI.out.b.bel HB4.out
        have hNw : w.heap.size ≤ w4.heap.size := Nat.le_trans HI.out.bel.size HB4.out.size
        go_wp2_with (at_builtin; refine list_appL E8 rfl _ _ 22 rfl rfl w.heap.size u7 bs eb va L vc4 _ hbig rfl HOB.out rfl HP.out.l HP.out.nil HP.out.len hNw ?_)
        intro v7 w7 ho7 hg7 ha7
        obtain ⟨q1, q2, q3⟩ := HI.out.mid (v7 := v7) HB4.out hg7.out
        have HS7 : Hid (Gm.OwnL E17 w.heap.size w7 u8 sn) := q1
        have HM7 : Hid (MB bq m s w7) := HM4.out.blk (q2 bq HM4.out.lt (by rw [HBQ.out]; exact Nat.le_refl _))
        have hN7 : w.heap.size ≤ w7.heap.size := q3.size
        have hb8 : Below w7.heap.size w7 (w7.alloc (Obj.cells (msL m s).toArray 31)) := (Below.refl _ w7).alloc (Nat.le_refl _) _
        have HB8 : Hid (Below w7.heap.size w7 (w7.alloc (Obj.cells (msL m s).toArray 31))) := hb8
        have HS8 : Hid (Gm.OwnL E17 w.heap.size (w7.alloc (Obj.cells (msL m s).toArray 31)) u8 sn) := HS7.out.bel hb8
        have hN8 : w.heap.size ≤ (w7.alloc (Obj.cells (msL m s).toArray 31)).heap.size := Nat.le_trans hN7 hb8.size
        have hsl : sn.length ≤ 137438953471 := by have := HI.out.n; omega
        clear q1 q2 q3 HP HM4 HOB hb8 HS7
        go_wp2_with (first | (refine list_mload rfl _ rfl (b := bq) rfl HM7.out ?_) | (refine list_mbuild rfl _ rfl (m := m) (s := s) rfl ?_) | (at_builtin; refine Gm.list_app1 E17 rfl _ _ 46 rfl rfl w.heap.size u8 sn (m, s) hsl (w := w7) _ rfl HS8.out rfl hN8 rfl ?_))
        have hs8 : (w7.alloc (Obj.cells (msL m s).toArray 31)).heap.size = w7.heap.size + 1 := Array.size_push _
        intro v9 w9 ho9 hg9 ha9
        have HL9 : Hid (L1 w l (i + 1) w9 v7 v9 (bs ++ eb) (sn ++ [(m, s)])) := HI.out.more HB4.out hg7.out ho7.out ha7.out HB8.out ho9.out hg9.out (by rw [hs8]; exact ha9.out) HPL.out HER.out HIN.out HEB.out
        clear ho9 hg9 ha9 ho7 hg7 ha7 HB8 HS8 HM7
        go_wp2_with fail
        exact ⟨⟨i + 1, _, _, by omega, by simp, HL9.out⟩, by simp [intOf]; omega⟩
    · obtain rfl : i = nl := by omega
      obtain ⟨ba, bc, hv7, hbc, hbz, -⟩ := HI.out.b.form
      obtain ⟨bl, hbl⟩ : ∃ q, bs.length = q := ⟨_, rfl⟩
      rw [hbl] at hv7
      subst hv7
      obtain ⟨sa, sc, hv8, hsc, hsz, -⟩ := HI.out.s.form
      obtain ⟨sl, hsl⟩ : ∃ q, sn.length = q := ⟨_, rfl⟩
      rw [hsl] at hv8 hsc
      subst hv8
      have HSL : Hid (sn.length = sl) := hsl
      have HBL : Hid (bs.length = bl) := hbl
      have hsl50 : sl ≤ 50 := by have := HI.out.n; omega
      have hbl5 : bl ≤ 51200 := by have := HI.out.len; omega
      have hbig : bs.length + nt ≤ 1099511627775 := by omega
      have HTW : Hid (Lst E8 wr vt tl) := HT.out.bel HI.out.bel
      have hN1 : w.heap.size ≤ wr.heap.size := HI.out.bel.size
      clear hbc hbz hsz hsl hbl
      go_wp2_with (at_builtin; refine list_appL E8 rfl _ _ 22 rfl rfl w.heap.size (.slice ba bl bc) bs tl vt nt ct _ hbig rfl HI.out.b rfl HTW.out HTZ.out HTN.out hN1 ?_)
      intro vB wB hoB hgB haB
      obtain ⟨q1, -, q3⟩ := HI.out.mid (v7 := vB) (Below.refl _ _) hgB.out
      have HSB : Hid (Gm.OwnL E17 w.heap.size wB (.slice sa sl sc) sn) := q1
      have HBB : Hid (Below w.heap.size w wB) := q3
      obtain ⟨B, hB⟩ : ∃ B, bs ++ tl = B := ⟨_, rfl⟩
      have HB : Hid (bs ++ tl = B) := hB
      have HOB : Hid (OwnL E8 w.heap.size wB vB B) := by rw [← hB]; exact hoB.out
      have hBl : B.length = bl + nt := by rw [← hB, List.length_append, HBL.out, HTN.out]
      obtain ⟨n, hn⟩ : ∃ n, B.length = n := ⟨_, rfl⟩
      have HN : Hid (B.length = n) := hn
      obtain ⟨ga, gc, hvB, hgc, hgz, hgb⟩ := HOB.out.form
      rw [hn] at hvB hgc hgz
      subst hvB
      have hn7 : n = bl + nt := by omega
      have HN7 : Hid (n = bl + nt) := hn7
      have hn71 : n ≤ 71200 := by omega
      have HU : Hid (∀ d ∈ B, d < 256) := by
        rw [← HB.out, HI.out.e]
        exact all_u8 (sent_u8 _) HTU.out
      have HPB : Hid (parse B = (sn.map (fun p => p.1) ++ (parse tl).1, (parse tl).2)) := by
        show _ = _
        rw [← HB.out, HI.out.e]
        exact parse_many _ _ HI.out.all
      have HSNM : Hid (∀ p ∈ sn, MOk w p.1 p.2) := fun p hp => HLM.out p (HI.out.m p hp).1
      have HGB : Hid (∀ ad, ga = some ad → ad.block < wB.heap.size ∧ w.heap.size ≤ ad.block) := fun ad e => by
        have h5 := HOB.out.row.2
        rcases h5 with ⟨h6, h7⟩ | ⟨g, c, cur, h6, h7, h8, -⟩
        · cases h6; cases e
        · cases h6; cases e; exact ⟨(Array.getElem?_eq_some_iff.1 h8).1, h7⟩
      clear q1 q3 hoB hgB haB hB hBl hn hgb HI HTW hn7
      go_wp2_with fail
      refine (new_any wB).mono ?_
      rintro e wS ⟨rfl, hstS, hbS⟩
      have hlS : wB.heap.size < wS.heap.size := (hstS (wB.heap.size + 1) (by omega)).hl
      have HSTS : Hid (Stm wS.heap.size wS wB.heap.size none 0 [] 0) := hstS _ hlS
      have HFS : Hid (Fed wS wB.heap.size none ga n gc B) := ⟨HOB.out.lst.1.bel hbS, HN.out, hgc, HU.out, fun ad e => by
        have := (HGB.out ad e).1
        exact ⟨by omega, (fun e2 => by cases e2), by omega⟩⟩
      have HBS : Hid (Below wB.heap.size wB wS) := hbS
      clear hstS hbS
      obtain ⟨bS, hbS⟩ : ∃ q, wB.heap.size = q := ⟨_, rfl⟩
      have HBSQ : Hid (wB.heap.size = bS) := hbS
      rw [hbS] at HSTS HFS ⊢
      clear hbS
      go_wp2_with fail
      have hfit : ([] : List Nat).length + n ≤ 1048576 := by rw [List.length_nil]; omega
      obtain ⟨⟨PL, xB, fB⟩, hPB⟩ : ∃ t, parse B = t := ⟨_, rfl⟩
      have HPQ : Hid (parse B = (PL, xB, fB)) := hPB
      have hTK : TK [] 0 B = (PL, xB, fB) := by unfold TK; rw [if_pos rfl, List.nil_append]; exact hPB
      have HTAKE := take_any wS.heap.size bS none 0 [] 0 ga n gc B wS HSTS.out (fun _ => sok_nil) (Nat.le_refl _) HFS.out hfit
      rw [hTK] at HTAKE
      refine HTAKE.mono ?_
      clear HTAKE
      rintro e w1 ⟨v1, l1, a1, c1, rfl, hms1, hmp1, hst1, hkt1, -, -⟩
      dsimp only at hmp1 hst1
      have hold : ∀ g, g < wB.heap.size → w1.heap[g]? = wB.heap[g]? := fun g hg => (hkt1.block g (Nat.lt_trans hg hlS) (by rw [← HBSQ.out]; omega) (fun e => by cases e)).trans (HBS.out.block g hg)
      have hsz1 : wB.heap.size ≤ w1.heap.size := Nat.le_trans HBS.out.size hkt1.str.size
      have HBB1 : Hid (Below wB.heap.size wB w1) := ⟨hkt1.str.os.trans HBS.out.os, hkt1.str.tape.trans HBS.out.tape, hkt1.str.output.trans HBS.out.output, hsz1, hold⟩
      have HOB1 : Hid (OwnL E8 w.heap.size w1 (.slice ga n gc) B) := HOB.out.bel HBB1.out
      have HSB1 : Hid (Gm.OwnL E17 w.heap.size w1 (.slice sa sl sc) sn) := HSB.out.bel HBB1.out
      have HBW1 : Hid (Below w.heap.size w w1) := HBB.out.trans (HBB1.out.mono HBB.out.size)
      have HMS1 : Hid (MsL wS.heap.size w1 v1 l1) := hms1
      have HMP1 : Hid (l1.map (fun p => p.1) = PL) := hmp1
      have HST1 : Hid (Stm wS.heap.size w1 bS a1 c1 xB fB) := hst1
      clear hold hms1 hmp1 hst1 hkt1 hTK hPB HSTS HFS HBS HOB HSB HBB HBB1
      go_wp2_with fail
      refine (new_any w1).mono ?_
      rintro e wT ⟨rfl, hstT, hbT⟩
      have hlT : w1.heap.size < wT.heap.size := (hstT (w1.heap.size + 1) (by omega)).hl
      have HL0 : Hid (L2 w1 wT.heap.size B 0 wT (.slice none 0 0) [] none 0 [] 0) := ⟨hbT, Nat.le_refl _, hstT _ hlT, MsL.nil _ _, by rw [List.take_zero, parse_wait sok_nil]; rfl, (fun _ h => by cases h), (fun _ h => by cases h)⟩
      clear hstT hbT
      obtain ⟨M, hM⟩ : ∃ q, wT.heap.size = q := ⟨_, rfl⟩
      rw [hM] at HL0 hlT
      obtain ⟨bT, hbT⟩ : ∃ q, w1.heap.size = q := ⟨_, rfl⟩
      have HBT : Hid (w1.heap.size = bT) := hbT
      rw [hbT]
      clear hM hbT
      go_wp2_with fail
      go_loopw [20, 21, 18, 19] (fun av iv tv fv wr => ∃ (k i : Nat) (l2 : List (Ms × Sl)) (a : Option Addr) (c : Nat) (x : List Nat) (f : Int), k ≤ n ∧ i ≤ k ∧ av = .int .i64 (k : Int) ∧ iv = .int .i64 (i : Int) ∧ fv = .int .i64 f ∧ L2 w1 M B k wr tv l2 a c x f) (fun av _ _ _ _ => n - (intOf av).toNat)
      case atStart => exact ⟨0, 0, [], none, 0, [], 0, by omega, by omega, rfl, rfl, rfl, HL0.out⟩
      case round =>
        obtain ⟨k, i2, l2, a, c, x, f, hkn, hik, rfl, rfl, rfl, hL⟩ := hrel
        have H2 : Hid (L2 w1 M B k wr u18 l2 a c x f) := hL
        clear hL HL0
        by_cases hlt2 : k < n
        · obtain ⟨g, rfl⟩ : ∃ g, ga = some ⟨g, 0, none⟩ := by
            rcases HOB1.out.row.2 with ⟨h1, h2⟩ | ⟨g, c, cur, h1, h2, h3, h4, h5⟩
            · rw [HN.out] at h2; omega
            · cases h1; exact ⟨g, rfl⟩
          have hgl := (HGB.out _ rfl).1
          have hgl1 : g < w1.heap.size := by have : g < wB.heap.size := hgl; omega
          obtain ⟨d, hd⟩ : ∃ d, n - k = d := ⟨_, rfl⟩
          have hd1 : 1 ≤ d := by omega
          have hdi : (1 : Int) ≤ (d : Int) := by omega
          have hdj : ¬ (d : Int) < 1 := by omega
          have hkni : (k : Int) < (n : Int) := by omega
          have hwd : IntKind.i64.wrap ((n : Int) - (k : Int)) = (d : Int) := by rw [IntWalk.i64_in _ (by omega)]; omega
          have HD : Hid (n - k = d) := hd
          have HBT0 : Hid (Lst E8 wr (some ⟨g, 0, none⟩) B) := (HOB1.out.lst.1).bel H2.out.bel
          have HAR : Hid (∀ g, ob a = some g → M ≤ g ∧ g < wr.heap.size) := fun g e => own_obr H2.out.st.own g e
          have hMb := H2.out.big
          have HFED : Hid (∀ r, 1 ≤ r → k + r ≤ n → Fed wr bT a (some ⟨g, k, none⟩) r (gc - k) ((B.drop k).take r)) := fun r h1 h2 => by
            have hlen : ((B.drop k).take r).length = r := by rw [List.length_take, List.length_drop, HN.out]; omega
            have h5 := (HBT0.out.drop k).take r
            have hk1 : E8.k = 1 := rfl
            rw [hk1, Nat.mul_one, Nat.zero_add] at h5
            refine ⟨h5, hlen, by omega, fun d hd => HU.out d (List.mem_of_mem_drop (List.mem_of_mem_take hd)), fun ad e => ?_⟩
            cases e
            refine ⟨by have h9 := HBT.out; show g ≠ bT; omega, fun e2 => ?_, by show g < _; omega⟩
            have h8 : M ≤ g := (HAR.out _ e2).1
            have h7 : g < M := by omega
            omega
          have HTKR : Hid (∀ r, 1 ≤ r → k + r ≤ n → Calls Try.prog 17 #[.pointer (some ⟨bT, 0, none⟩), .slice (some ⟨g, k, none⟩) r (gc - k)] wr (TkPost M wr bT a (TK x f ((B.drop k).take r)))) := fun r h1 h2 => take_any M bT a c x f _ r _ _ wr (by rw [← HBT.out]; exact H2.out.st) H2.out.ok.1 hMb (HFED.out r h1 h2) (by have := H2.out.ok.2; omega)
          have HKR : Hid (∀ r, k + r ≤ n → IntKind.i64.wrap ((k : Int) + (r : Int)) = ((k + r : Nat) : Int)) := fun r h => by rw [IntWalk.i64_in _ (by omega)]; omega
          have HTOT : Hid (∀ r, l2.length + (TK x f ((B.drop k).take r)).1.length ≤ n) := fun r => by
            have h5 := congrArg (fun t => t.1.length) (parse_piece (n := r) H2.out.so)
            dsimp only at h5
            rw [List.length_append, List.length_map] at h5
            rw [h5]
            refine Nat.le_trans (parse_count _) ?_
            rw [List.length_take, HN.out]
            omega
          clear hd HFED HBT0 hgl
          by_cases hnc : nc = 0
          case' pos =>
            subst hnc
            have hwk : IntKind.i64.wrap ((k : Int) + 1) = ((k + 1 : Nat) : Int) := HKR.out 1 (by omega)
            have hkc : ((k + 1 : Nat) : Int) ≤ (gc : Int) := by omega
            have hkk : (k : Int) ≤ ((k + 1 : Nat) : Int) := by omega
            have HTK := HTKR.out 1 (by omega) (by omega)
            have HTT := HTOT.out 1
            go_wp2_with fail
          case' neg =>
            have hnci : (0 : Int) < (nc : Int) := by omega
            have hncz : ¬ (nc : Int) = 0 := by omega
            have hrem : (i2 : Int).tmod (nc : Int) = ((i2 % nc : Nat) : Int) := by rw [Int.tmod_eq_emod_of_nonneg (by omega)]; simp
            obtain ⟨j2, hj2⟩ : ∃ j, i2 % nc = j := ⟨_, rfl⟩
            have hjl : j2 < nc := by rw [← hj2]; exact Nat.mod_lt _ (by omega)
            rw [hj2] at hrem
            obtain ⟨cb, co, rfl, hcb, hcc⟩ := lstI (HC.out.bel (HBW1.out.trans (H2.out.bel.mono HBW1.out.size))) j2 (by rw [HCN.out]; exact hjl)
            obtain ⟨cv, hcv⟩ : ∃ q, cs[j2]'(by rw [HCN.out]; exact hjl) = q := ⟨_, rfl⟩
            rw [hcv] at hcc
            have hcvr := HCR.out cv (hcv ▸ List.getElem_mem _)
            obtain ⟨j, hj⟩ : ∃ j, md cv 60 = j := ⟨_, rfl⟩
            have hj60 : j < 60 := by rw [← hj]; exact md_lt (by omega)
            obtain ⟨q, hq⟩ : ∃ q, 1 + j = q := ⟨_, rfl⟩
            have hq1 : 1 ≤ q := by omega
            have hwj : IntKind.i64.wrap (1 + (j : Int)) = (q : Int) := by rw [IntWalk.i64_in _ (by omega)]; omega
            have hjli : (j2 : Int) < (nc : Int) := by omega
            have HMOD := mod_any cv hcvr 60 (by omega) (by omega) j hj wr
            clear hj2 hcv hcvr hj hq
            go_wp2_with fail
            refine HMOD.mono ?_
            rintro e w' ⟨rfl, hw'⟩
            obtain rfl : wr = w' := hw'.symm
            clear HMOD
            by_cases hqd : q ≤ d
            case' pos =>
              have hmi : (q : Int) ≤ (d : Int) := by omega
              have hmj : ¬ (d : Int) < (q : Int) := by omega
              have hqn : k + q ≤ n := by have := HD.out; omega
              have hwk := HKR.out q hqn
              have hkc : ((k + q : Nat) : Int) ≤ (gc : Int) := by omega
              have hkk : (k : Int) ≤ ((k + q : Nat) : Int) := by omega
              have HTK := HTKR.out q hq1 hqn
              have HTT := HTOT.out q
              go_wp2_with fail
            case' neg =>
              have hmi : ¬ (q : Int) ≤ (d : Int) := by omega
              have hmj : (d : Int) < (q : Int) := by omega
              have hqn : k + d ≤ n := by have := HD.out; omega
              have hwk := HKR.out d hqn
              have hkc : ((k + d : Nat) : Int) ≤ (gc : Int) := by omega
              have hkk : (k : Int) ≤ ((k + d : Nat) : Int) := by omega
              have HTK := HTKR.out d hd1 hqn
              have HTT := HTOT.out d
              go_wp2_with fail
          all_goals
            generalize hT3 : TK x f _ = t3 at HTK HTT
            obtain ⟨P3, x3, f3⟩ := t3
            refine HTK.mono ?_
            clear HTK
            rintro e w3 ⟨v3, l3, a3, c3, rfl, hms3, hmp3, hst3, hkt3, hap3, -⟩
            dsimp only at hmp3 hst3 HTT ⊢
            subst hmp3
            rw [List.length_map] at HTT
            rw [← HBT.out] at hst3 hkt3
            obtain ⟨q5, q6⟩ := H2.out.old hlT hkt3
            have HT5 : Hid (MsL M w3 u18 l2) := q5
            have HMS3 : Hid (MsL wr.heap.size w3 v3 l3) := hms3
            have HST3 : Hid (Stm M w3 w1.heap.size a3 c3 x3 f3) := hst3
            have HKT3 : Hid (Kt wr w1.heap.size a w3 a3) := hkt3
            have HAP3 : Hid (∀ p ∈ l3, ∀ g, Mown p.2 g → ¬ ob a3 = some g) := hap3
            have HT3 := (show Hid _ from hT3)
            obtain ⟨a5, c5, hv3, -, hz3, -⟩ := hms3.own.form
            obtain ⟨L3, hL3⟩ : ∃ q, l3.length = q := ⟨_, rfl⟩
            rw [hL3] at hv3 hz3
            subst hv3
            have HL3 : Hid (l3.length = L3) := hL3
            have HZ3 : Hid (a5 = none → L3 = 0 ∧ c5 = 0) := hz3
            have hbig3 : l2.length + L3 ≤ 137438953471 := by omega
            have HSRC : Hid (Gm.Lst E17 w3 a5 l3) := HMS3.out.own.lst.1
            clear hms3 hst3 hkt3 hap3 hT3 hL3 hz3 q5 HTT
            go_wp2_with (at_builtin; refine Gm.list_appL E17 rfl _ _ 46 rfl rfl M u18 l2 l3 a5 L3 c5 _ hbig3 rfl HT5.out.own rfl HSRC.out HZ3.out HL3.out q6 ?_)
            intro v4 w4 ho4 hg4 ha4
            have HL4 := (show Hid _ from H2.out.more hlT HKT3.out HMS3.out HST3.out HT3.out.symm HAP3.out ho4.out hg4.out ha4.out)
            clear ho4 hg4 ha4 HSRC HT5 HMS3 HST3 HKT3 HAP3 HT3
            go_wp2_with fail
            refine ⟨⟨_, i2 + 1, _, _, _, _, _, ?_, ?_, ?_, by simp, rfl, HL4.out⟩, ?_⟩
            · omega
            · omega
            · rfl
            · simp [intOf]; omega
        · obtain rfl : k = n := by omega
          have hBt : B.take k = B := List.take_of_length_le (by rw [HN.out]; exact Nat.le_refl _)
          have hso := H2.out.so
          rw [hBt, HPQ.out] at hso
          simp only [Prod.mk.injEq] at hso
          obtain ⟨e1, e2, e3⟩ := hso
          subst e2 e3
          have hpb := HPB.out
          rw [HPQ.out] at hpb
          simp only [Prod.mk.injEq] at hpb
          obtain ⟨e4, e5⟩ := hpb
          have HE12 : Hid (l1.map (fun p => p.1) = l2.map (fun p => p.1)) := by show _ = _; rw [HMP1.out, e1]
          obtain ⟨L, hL⟩ : ∃ q, l1.length = q := ⟨_, rfl⟩
          have hL2 : l2.length = L := by
            have h5 := congrArg List.length HE12.out
            rw [List.length_map, List.length_map] at h5
            omega
          have hLs : L = sl + (parse tl).1.length := by
            have h5 := congrArg List.length HMP1.out
            rw [e4, List.length_append, List.length_map, List.length_map, HSL.out] at h5
            omega
          have HTAK : Hid ((l1.take sl).map (fun p => p.1) = sn.map (fun p => p.1)) := by
            show _ = _
            rw [List.map_take, HMP1.out, e4]
            exact List.take_left' (by rw [List.length_map, HSL.out])
          obtain ⟨oa, oc, hv1, hoc, -, -⟩ := HMS1.out.own.form
          rw [hL] at hv1 hoc
          subst hv1
          obtain ⟨ta, tc, hvt, htc2, -, -⟩ := H2.out.ms.own.form
          rw [hL2] at hvt
          subst hvt
          have hLsl : sl ≤ L := by omega
          have hLi : ¬ (L : Int) < (sl : Int) := by omega
          have hslo : sl ≤ oc := by omega
          have hsloi : (sl : Int) ≤ (oc : Int) := by omega
          have HWR : Hid (Below w.heap.size w wr) := HBW1.out.trans (H2.out.bel.mono HBW1.out.size)
          have HALL := all_any l1 l2 oa ta L oc tc wr (HMS1.out.own.lst.1.bel H2.out.bel) H2.out.ms.own.lst.1 hL hL2 (fun p hp => (HMS1.out.each p hp).ok.bel H2.out.bel) (fun p hp => (H2.out.ms.each p hp).ok) HE12.out
          have HF1 : Hid (∀ W, Below wr.heap.size wr W → Stm wS.heap.size W bS a1 c1 x f) := fun W hW => (HST1.out.bel H2.out.bel).bel hW
          have HF2 : Hid (∀ W, Below wr.heap.size wr W → Stm M W bT a c x f) := fun W hW => by rw [← HBT.out]; exact H2.out.st.bel hW
          have HALL2 : Hid (∀ W, Below wr.heap.size wr W → Calls Try.prog 19 #[.slice oa sl oc, .slice sa sl sc] W fun e w' => e = .returned (.bool true) ∧ Below W.heap.size W w') := fun W hW => by
            have hW1 := H2.out.bel.trans (hW.mono H2.out.bel.size)
            exact all_any (l1.take sl) sn oa sa sl oc sc W ((HMS1.out.own.lst.1.take sl).bel hW1) (HSB1.out.lst.1.bel hW1) (by rw [List.length_take]; omega) HSL.out (fun p hp => (HMS1.out.each p (List.mem_of_mem_take hp)).ok.bel hW1) (fun p hp => (HSNM.out p hp).bel (HBW1.out.trans (hW1.mono HBW1.out.size))) HTAK.out
          have hend : bl < k ∨ (f = 0 ∧ L = sl) := by
            by_cases h9 : nt = 0
            · refine .inr ?_
              have : tl = [] := List.length_eq_zero_iff.1 (by rw [HTN.out]; exact h9)
              rw [this, parse_wait sok_nil] at e5 hLs
              simp only [Prod.mk.injEq] at e5
              exact ⟨e5.2, by simpa using hLs⟩
            · have := HN7.out
              exact .inl (by omega)
          clear hBt e1 e4 e5 hL hL2 hLs htc2 HE12 HTAK
          go_wp2_with fail
          refine HALL.mono ?_
          clear HALL
          rintro e w5 ⟨rfl, hb5⟩
          have HB5 : Hid (Below wr.heap.size wr w5) := hb5
          clear hb5
          obtain ⟨xl, hxl⟩ : ∃ q, x.length = q := ⟨_, rfl⟩
          go_wp2_with fail
          refine (waiting_any wS.heap.size bS a1 c1 x f w5 (HF1.out w5 HB5.out)).mono ?_
          rintro e w6 ⟨rfl, hb6⟩
          have HB6 : Hid (Below wr.heap.size wr w6) := HB5.out.trans (hb6.mono HB5.out.size)
          clear hb6 HB5
          go_wp2_with fail
          refine (waiting_any M bT a c x f w6 (HF2.out w6 HB6.out)).mono ?_
          rintro e w7 ⟨rfl, hb7⟩
          have HB7 : Hid (Below wr.heap.size wr w7) := HB6.out.trans (hb7.mono HB6.out.size)
          clear hb7 HB6
          rw [hxl]
          go_wp2_with fail
          refine (HALL2.out w7 HB7.out).mono ?_
          rintro e w8 ⟨rfl, hb8⟩
          have HB8 : Hid (Below wr.heap.size wr w8) := HB7.out.trans (hb8.mono HB7.out.size)
          have HW8 : Hid (Below w.heap.size w w8) := HWR.out.trans (HB8.out.mono HWR.out.size)
          clear hb8 HB7
          rcases hend with h9 | ⟨h9, h10⟩
          · have h9i : (bl : Int) < (k : Int) := by omega
            go_wp2_with fail
            go_ret
            exact ⟨rfl, HW8.out⟩
          · subst h9 h10
            by_cases h11 : bl < k
            · have h9i : (bl : Int) < (k : Int) := by omega
              go_wp2_with fail
              go_ret
              exact ⟨rfl, HW8.out⟩
            · have h9i : ¬ (bl : Int) < (k : Int) := by omega
              go_wp2_with fail
              go_ret
              exact ⟨rfl, HW8.out⟩
end Go.Proofs.Ytjnjjkhdmdjaeaa.Pv
