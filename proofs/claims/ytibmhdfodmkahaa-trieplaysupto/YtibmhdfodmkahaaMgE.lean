/- A round of triePlay: kind 8. A round of triePlay: kind 10. -/
import Derived.Test.YtibmhdfodmkahaaMgA
namespace Go.Proofs.Ytibmhdfodmkahaa.Tu
open Go.ChangeShapes Go.WideShapes Go.ChangeAt Go.RowKit Go.Joins Go.Proofs.Ytibmhdfodmkahaa.PM Go.Proofs.Ytibmhdfodmkahaa.TrM Go.Proofs.Ytibmhdfodmkahaa.Ask Go.Proofs.Ytibmhdfodmkahaa.Tri
set_option linter.unusedVariables false
set_option linter.unusedSimpArgs false

set_option maxRecDepth 1000000 in
set_option maxHeartbeats 16000000 in
theorem case_8 {w wr : World} {ss : List Sp} {L k cap : Nat} {va : Option Addr} {ts : List Tr} {bts : List Nat} {bks : List Bs} {gt gb n cT cb : Nat} {U : Nat → Value} (hL : ss.length = L) (hbig : L ≤ 1048576) (hk : k < L) (hkd : k < ss.length) (H : Ge.Lst ES w va ss) (s : Sp) (hs : ss[k] = s) (hok : SpOk s)
    (hst : St w.heap.size w (keys (ss.take k)) ts ts bts bks (.slice (some ⟨gt, 0, none⟩) n cT) (.slice (some ⟨gb, 0, none⟩) n cb) wr) (hn : ts.length = n) (hkind : s.kind = 8) :
    Code.wp Try.prog body (Exit.then (fun a' w'' => WI w ss va L cap a' w'' ∧ Wmu L a' w'' < L - k) (QX w ss va L cap)) ⟨fr U va L cap (.slice (some ⟨gt, 0, none⟩) n cT) (.slice (some ⟨gb, 0, none⟩) n cb) (.int .i64 (k : Int)), []⟩ wr := by
  have HL : Hid (ss.length = L) := hL
  have HN : Hid (ts.length = n) := hn
  have HST : Hid (St w.heap.size w (keys (ss.take k)) ts ts bts bks (.slice (some ⟨gt, 0, none⟩) n cT) (.slice (some ⟨gb, 0, none⟩) n cb) wr) := hst
  obtain ⟨b, o, e, hbl, hc⟩ := (H.bel (hst.bel.mono (by have := hst.nsz; omega))).cells k hkd
  subst e
  have c0 := hc 0 (by decide)
  have c1 := hc 1 (by decide)
  have c2 := hc 2 (by decide)
  have c3 := hc 3 (by decide)
  have c4 := hc 4 (by decide)
  have c5 := hc 5 (by decide)
  have c6 := hc 6 (by decide)
  have HS : Hid (ss[k] = s) := hs
  rw [hs] at c0 c1 c2 c3 c4 c5 c6
  simp only [ES, spL, List.getElem?_cons_zero, List.getElem?_cons_succ, Nat.add_zero] at c0 c1 c2 c3 c4 c5 c6
  have hkk : (k : Int) < L := by omega
  have kk0 : (0 : Int) ≤ k := by omega
  clear hc hs hst hn hL
  obtain ⟨kd, tr, sa, sn, sv, sf, sd⟩ := s
  obtain ⟨hoa, hod, hot⟩ := hok
  dsimp only at hkind hoa hod hot c0 c1 c2 c3 c4 c5 c6
  have HKD : Hid (kd = 8) := hkind
  clear hkind
  obtain ⟨tx, htx⟩ : ∃ tx : Int, tx = if tr < 0 then 0 else tr := ⟨_, rfl⟩
  have htx0 : 0 ≤ tx ∧ tx < 9223372036854775808 := by rw [htx]; split <;> omega
  have HTX : Hid (tx = if tr < 0 then 0 else tr) := htx
  clear htx
  conv => arg 2; whnf
  unfold fr
  go_upto_region 9 with fail
  obtain ⟨wA, hwA⟩ : ∃ wA, wr.alloc (Obj.cells #[.int .i64 kd, .int .i64 tr, .int .u32 sa, .int .i64 sn, .int .i64 sv, .int .i64 sf, .int .u32 sd] 35) = wA := ⟨_, rfl⟩
  have HWA : Hid (Below wr.heap.size wr wA ∧ wA.heap.size = wr.heap.size + 1 ∧ Bx7 wr.heap.size ⟨kd, tr, sa, sn, sv, sf, sd⟩ wA ∧ wA.cell? ⟨wr.heap.size, 1, none⟩ = some (.int .i64 tr) ∧ wA.frozen? ⟨wr.heap.size, 1, none⟩ = false) := by
    rw [← hwA]
    exact ⟨(Below.refl _ wr).alloc (Nat.le_refl _) _, by simp, ⟨by simp, by simp, by simp, by simp, by simp, by simp, by simp⟩, by simp, by simp⟩
  rw [hwA]
  clear hwA c0 c1 c2 c3 c4 c5 c6 hbl
  obtain ⟨bs, hbs⟩ : ∃ bs, wr.heap.size = bs := ⟨_, rfl⟩
  have HBS : Hid (wr.heap.size = bs) := hbs
  rw [hbs] at HWA ⊢
  clear hbs
  obtain ⟨hb, hsz, hbx, ct, cf⟩ := HWA.out
  go_upto_if 55 with fail
  go_cut [] from 56 to 56 (fun wx => Bx7 bs ⟨kd, tr, sa, sn, sv, sf, sd⟩ wx ∧ wx.cell? ⟨bs, 1, none⟩ = some (.int .i64 tx) ∧ Below bs wr wx ∧ wx.heap.size = bs + 1)
  case first =>
    by_cases htr : tr < 0
    · have e : tx = 0 := by rw [HTX.out, if_pos htr]
      go_wp2_with fail
      go_meet
      exact ⟨⟨by simp [go_sem, hbx.k], by simp [go_sem, hbx.a], by simp [go_sem, hbx.n], by simp [go_sem, hbx.v], by simp [go_sem, hbx.f], by simp [go_sem, hbx.d], by simpa using hbx.lt⟩, by rw [e]; simp [go_sem, ct], hb.setCell (p := ⟨bs, 1, none⟩) (Nat.le_refl _) _, by simpa using hsz⟩
    · have e : tx = tr := by rw [HTX.out, if_neg htr]
      go_wp2_with fail
      go_meet
      exact ⟨hbx, by rw [e]; exact ct, hb, hsz⟩
  case rest =>
    obtain ⟨hbx', ct', hb', hsz'⟩ := hcut
    have HSTc : Hid (St w.heap.size w (keys (ss.take (k + 1))) ts ts bts bks (.slice (some ⟨gt, 0, none⟩) n cT) (.slice (some ⟨gb, 0, none⟩) n cb) wc) := (HST.out.below (by rw [HBS.out]; exact hb')).keys hkd
    have HBX : Hid (Bx7 bs ⟨kd, tr, sa, sn, sv, sf, sd⟩ wc) := hbx'
    have HSZ : Hid (wc.heap.size = bs + 1) := hsz'
    have HGB : Hid (gt < bs ∧ gb < bs) := by rw [← HBS.out]; exact ⟨(HST.out.ot.row.lt gt rfl).2, (HST.out.ob.row.lt gb rfl).2⟩
    have HLT : Hid (∀ b ∈ bts, b < bs) := fun b hb => by rw [← HBS.out]; exact HST.out.lt hb
    clear hbx' hb' HST HWA hb hsz hbx ct cf HTX
    have hn0 : 0 < n := by rw [← HN.out]; exact HSTc.out.pos
    have hn12 : n ≤ 12 := by rw [← HN.out]; exact HSTc.out.few
    obtain ⟨q, hq⟩ : ∃ q : Nat, tx.tmod (n : Int) = (q : Int) := ⟨(tx.tmod (n : Int)).toNat, by rw [Int.toNat_of_nonneg (Int.tmod_nonneg _ htx0.1)]⟩
    have hqn : q < n := by
      have := Int.tmod_lt_of_pos tx (b := (n : Int)) (by omega)
      omega
    have hqi : (q : Int) < n := by omega
    have hq0 : (0 : Int) ≤ q := by omega
    have hni : (0 : Int) < n := by omega
    have hqb : q < bts.length := by rw [HSTc.out.l1, HN.out]; exact hqn
    have hqk : q < bks.length := by rw [HSTc.out.l2, HN.out]; exact hqn
    have hqt : q < ts.length := by rw [HN.out]; exact hqn
    obtain ⟨bt, hbt⟩ : ∃ bt, bts[q] = bt := ⟨_, rfl⟩
    obtain ⟨bk, hbk⟩ : ∃ bk, bks[q] = bk := ⟨_, rfl⟩
    have HBT : Hid (bts[q] = bt) := hbt
    have HBK : Hid (bks[q] = bk) := hbk
    have hbtb : bt < bs := by rw [← hbt]; exact HLT.out _ (List.getElem_mem hqb)
    have d0 : wc.cell? ⟨gt, q, none⟩ = some (.pointer (some ⟨bt, 0, none⟩)) := by
      have := HSTc.out.ot.at0.1 q hqb 0 (by decide)
      rw [hbt] at this; simpa [EP] using this
    have d1 : wc.cell? ⟨gb, q, none⟩ = some (.slice bk.1 bk.2.1 bk.2.2) := by
      have := HSTc.out.ob.at0.1 q hqk 0 (by decide)
      rw [hbk] at this; simpa [EB] using this
    have d0a : ∀ ob, (wc.alloc ob).cell? ⟨gt, q, none⟩ = some (.pointer (some ⟨bt, 0, none⟩)) := fun ob => cell_bel d0 ((Below.refl _ wc).alloc (Nat.le_refl _) _)
    have d1a : ∀ ob, (wc.alloc ob).cell? ⟨gb, q, none⟩ = some (.slice bk.1 bk.2.1 bk.2.2) := fun ob => cell_bel d1 ((Below.refl _ wc).alloc (Nat.le_refl _) _)
    clear hbt hbk
    go_wp2_with fail
    go_region
    go_upto_region 14 with fail
    obtain ⟨bka, bkl, bkc⟩ := bk
    dsimp only
    obtain ⟨wD, hwD⟩ : ∃ wD, (wc.alloc (Obj.cells #[.slice bka bkl bkc] 28)).drew = wD := ⟨_, rfl⟩
    have hbD : Below wc.heap.size wc wD := by rw [← hwD]; exact ((Below.refl _ wc).alloc (Nat.le_refl _) _).drew
    have HBC : Hid (wD.cell? ⟨bs + 1, 0, none⟩ = some (.slice bka bkl bkc) ∧ bs + 1 < wD.heap.size) := by
      rw [← hwD, ← HSZ.out]
      exact ⟨by simp [go_sem], by simp⟩
    have HSD : Hid (St w.heap.size w (keys (ss.take (k + 1))) ts ts bts bks (.slice (some ⟨gt, 0, none⟩) n cT) (.slice (some ⟨gb, 0, none⟩) n cb) wD) := HSTc.out.below hbD
    have HBD : Hid (Bx7 bs ⟨kd, tr, sa, sn, sv, sf, sd⟩ wD) := HBX.out.below hbD
    have HC1 : Hid (wD.cell? ⟨bs, 1, none⟩ = some (.int .i64 tx)) := cell_bel ct' hbD
    first | rw [hwD] | rw [HSZ.out, hwD]
    clear hwD hbD HBX HSTc HSZ d0 d1 d0a d1a ct'
    obtain ⟨T, hT⟩ : ∃ T, ts[q] = T := ⟨_, rfl⟩
    have HT : Hid (ts[q] = T) := hT
    have HH : Hid (HoldsN (okL bts (.slice (some ⟨gt, 0, none⟩) n cT) (.slice (some ⟨gb, 0, none⟩) n cb)) wD bt T) := by have := HSD.out.ho q hqb hqt; rw [hT, HBT.out] at this; exact this
    have HBO : Hid (Bo (okL bts (.slice (some ⟨gt, 0, none⟩) n cT) (.slice (some ⟨gb, 0, none⟩) n cb)) wD (bka, bkl, bkc) (allT T)) := by have := HSD.out.bo q hqk hqt; rw [hT, HBK.out] at this; exact this
    have HG : Hid (Gd (keys (ss.take (k + 1))) T) := by rw [← hT]; exact HSD.out.gt _ (List.getElem_mem hqt)
    have HK1 : Hid ((keys (ss.take (k + 1))).length ≤ 1099511627776) := keys_le hk hbig
    have hkl : bkl = (allT T).length := HBO.out.len
    have hlen : (allT T).length ≤ 1099511627776 := Nat.le_trans HG.out.len HK1.out
    have e0 := HBD.out.k
    have e2 := HBD.out.a
    have e3 := HBD.out.n
    have e4 := HBD.out.v
    have e5 := HBD.out.f
    have e6 := HBD.out.d
    have e7 := HBC.out.1
    have hki : (k : Int) + 1 = ((k + 1 : Nat) : Int) := by omega
    have HKI : Hid ((k : Int) + 1 = ((k + 1 : Nat) : Int)) := hki
    dsimp only at e0 e2 e3 e4 e5 e6
    clear hT hki
    obtain rfl := HKD.out
    obtain ⟨pt, hht⟩ := HH.out
    have HLEN : Hid (∀ W, Below wD.heap.size wD W → Calls Try.prog 25 #[.pointer (some ⟨bt, 0, none⟩)] W fun e w' => e = .returned (.int .i64 ((allT T).length : Int)) ∧ Below W.heap.size W w') := fun W hW => len_any _ bt T pt _ W (hht.bel hW)
    subst hkl
    generalize (allT T).length = lt at *
    go_wp2_with fail
    go_region_with (first | (go_at_call 25; refine (HLEN.out _ (bel_q wD 1)).mono ?_; rintro e wE ⟨rfl, hbE0⟩; have hbE : Below wD.heap.size wD wE := (bel_q wD 1).trans hbE0; have e7x := cell_bel e7 hbE))
    all_goals
      have HSX : Hid (St w.heap.size w (keys (ss.take (k + 1))) ts ts bts bks (.slice (some ⟨gt, 0, none⟩) n cT) (.slice (some ⟨gb, 0, none⟩) n cb) wE) := HSD.out.below hbE
      go_wp2_with fail
      rw [HKI.out]
      exact wi_end fr_mk (Nat.lt_succ_self k) hk ⟨ts, bts, bks, HSX.out⟩
end Go.Proofs.Ytibmhdfodmkahaa.Tu
namespace Go.Proofs.Ytibmhdfodmkahaa.Tu
open Go.ChangeShapes Go.WideShapes Go.ChangeAt Go.RowKit Go.Joins Go.Proofs.Ytibmhdfodmkahaa.PM Go.Proofs.Ytibmhdfodmkahaa.TrM Go.Proofs.Ytibmhdfodmkahaa.Ask Go.Proofs.Ytibmhdfodmkahaa.Tri
set_option linter.unusedVariables false
set_option linter.unusedSimpArgs false

set_option maxRecDepth 1000000 in
set_option maxHeartbeats 16000000 in
theorem case_10 {w wr : World} {ss : List Sp} {L k cap : Nat} {va : Option Addr} {ts : List Tr} {bts : List Nat} {bks : List Bs} {gt gb n cT cb : Nat} {U : Nat → Value} (hL : ss.length = L) (hbig : L ≤ 1048576) (hk : k < L) (hkd : k < ss.length) (H : Ge.Lst ES w va ss) (s : Sp) (hs : ss[k] = s) (hok : SpOk s)
    (hst : St w.heap.size w (keys (ss.take k)) ts ts bts bks (.slice (some ⟨gt, 0, none⟩) n cT) (.slice (some ⟨gb, 0, none⟩) n cb) wr) (hn : ts.length = n) (hkind : s.kind = 10) :
    Code.wp Try.prog body (Exit.then (fun a' w'' => WI w ss va L cap a' w'' ∧ Wmu L a' w'' < L - k) (QX w ss va L cap)) ⟨fr U va L cap (.slice (some ⟨gt, 0, none⟩) n cT) (.slice (some ⟨gb, 0, none⟩) n cb) (.int .i64 (k : Int)), []⟩ wr := by
  have HL : Hid (ss.length = L) := hL
  have HN : Hid (ts.length = n) := hn
  have HST : Hid (St w.heap.size w (keys (ss.take k)) ts ts bts bks (.slice (some ⟨gt, 0, none⟩) n cT) (.slice (some ⟨gb, 0, none⟩) n cb) wr) := hst
  obtain ⟨b, o, e, hbl, hc⟩ := (H.bel (hst.bel.mono (by have := hst.nsz; omega))).cells k hkd
  subst e
  have c0 := hc 0 (by decide)
  have c1 := hc 1 (by decide)
  have c2 := hc 2 (by decide)
  have c3 := hc 3 (by decide)
  have c4 := hc 4 (by decide)
  have c5 := hc 5 (by decide)
  have c6 := hc 6 (by decide)
  have HS : Hid (ss[k] = s) := hs
  rw [hs] at c0 c1 c2 c3 c4 c5 c6
  simp only [ES, spL, List.getElem?_cons_zero, List.getElem?_cons_succ, Nat.add_zero] at c0 c1 c2 c3 c4 c5 c6
  have hkk : (k : Int) < L := by omega
  have kk0 : (0 : Int) ≤ k := by omega
  clear hc hs hst hn hL
  obtain ⟨kd, tr, sa, sn, sv, sf, sd⟩ := s
  obtain ⟨hoa, hod, hot⟩ := hok
  dsimp only at hkind hoa hod hot c0 c1 c2 c3 c4 c5 c6
  have HKD : Hid (kd = 10) := hkind
  clear hkind
  obtain ⟨tx, htx⟩ : ∃ tx : Int, tx = if tr < 0 then 0 else tr := ⟨_, rfl⟩
  have htx0 : 0 ≤ tx ∧ tx < 9223372036854775808 := by rw [htx]; split <;> omega
  have HTX : Hid (tx = if tr < 0 then 0 else tr) := htx
  clear htx
  conv => arg 2; whnf
  unfold fr
  go_upto_region 9 with fail
  obtain ⟨wA, hwA⟩ : ∃ wA, wr.alloc (Obj.cells #[.int .i64 kd, .int .i64 tr, .int .u32 sa, .int .i64 sn, .int .i64 sv, .int .i64 sf, .int .u32 sd] 35) = wA := ⟨_, rfl⟩
  have HWA : Hid (Below wr.heap.size wr wA ∧ wA.heap.size = wr.heap.size + 1 ∧ Bx7 wr.heap.size ⟨kd, tr, sa, sn, sv, sf, sd⟩ wA ∧ wA.cell? ⟨wr.heap.size, 1, none⟩ = some (.int .i64 tr) ∧ wA.frozen? ⟨wr.heap.size, 1, none⟩ = false) := by
    rw [← hwA]
    exact ⟨(Below.refl _ wr).alloc (Nat.le_refl _) _, by simp, ⟨by simp, by simp, by simp, by simp, by simp, by simp, by simp⟩, by simp, by simp⟩
  rw [hwA]
  clear hwA c0 c1 c2 c3 c4 c5 c6 hbl
  obtain ⟨bs, hbs⟩ : ∃ bs, wr.heap.size = bs := ⟨_, rfl⟩
  have HBS : Hid (wr.heap.size = bs) := hbs
  rw [hbs] at HWA ⊢
  clear hbs
  obtain ⟨hb, hsz, hbx, ct, cf⟩ := HWA.out
  go_upto_if 55 with fail
  go_cut [] from 56 to 56 (fun wx => Bx7 bs ⟨kd, tr, sa, sn, sv, sf, sd⟩ wx ∧ wx.cell? ⟨bs, 1, none⟩ = some (.int .i64 tx) ∧ Below bs wr wx ∧ wx.heap.size = bs + 1)
  case first =>
    by_cases htr : tr < 0
    · have e : tx = 0 := by rw [HTX.out, if_pos htr]
      go_wp2_with fail
      go_meet
      exact ⟨⟨by simp [go_sem, hbx.k], by simp [go_sem, hbx.a], by simp [go_sem, hbx.n], by simp [go_sem, hbx.v], by simp [go_sem, hbx.f], by simp [go_sem, hbx.d], by simpa using hbx.lt⟩, by rw [e]; simp [go_sem, ct], hb.setCell (p := ⟨bs, 1, none⟩) (Nat.le_refl _) _, by simpa using hsz⟩
    · have e : tx = tr := by rw [HTX.out, if_neg htr]
      go_wp2_with fail
      go_meet
      exact ⟨hbx, by rw [e]; exact ct, hb, hsz⟩
  case rest =>
    obtain ⟨hbx', ct', hb', hsz'⟩ := hcut
    have HSTc : Hid (St w.heap.size w (keys (ss.take (k + 1))) ts ts bts bks (.slice (some ⟨gt, 0, none⟩) n cT) (.slice (some ⟨gb, 0, none⟩) n cb) wc) := (HST.out.below (by rw [HBS.out]; exact hb')).keys hkd
    have HBX : Hid (Bx7 bs ⟨kd, tr, sa, sn, sv, sf, sd⟩ wc) := hbx'
    have HSZ : Hid (wc.heap.size = bs + 1) := hsz'
    have HGB : Hid (gt < bs ∧ gb < bs) := by rw [← HBS.out]; exact ⟨(HST.out.ot.row.lt gt rfl).2, (HST.out.ob.row.lt gb rfl).2⟩
    have HLT : Hid (∀ b ∈ bts, b < bs) := fun b hb => by rw [← HBS.out]; exact HST.out.lt hb
    clear hbx' hb' HST HWA hb hsz hbx ct cf HTX
    have hn0 : 0 < n := by rw [← HN.out]; exact HSTc.out.pos
    have hn12 : n ≤ 12 := by rw [← HN.out]; exact HSTc.out.few
    obtain ⟨q, hq⟩ : ∃ q : Nat, tx.tmod (n : Int) = (q : Int) := ⟨(tx.tmod (n : Int)).toNat, by rw [Int.toNat_of_nonneg (Int.tmod_nonneg _ htx0.1)]⟩
    have hqn : q < n := by
      have := Int.tmod_lt_of_pos tx (b := (n : Int)) (by omega)
      omega
    have hqi : (q : Int) < n := by omega
    have hq0 : (0 : Int) ≤ q := by omega
    have hni : (0 : Int) < n := by omega
    have hqb : q < bts.length := by rw [HSTc.out.l1, HN.out]; exact hqn
    have hqk : q < bks.length := by rw [HSTc.out.l2, HN.out]; exact hqn
    have hqt : q < ts.length := by rw [HN.out]; exact hqn
    obtain ⟨bt, hbt⟩ : ∃ bt, bts[q] = bt := ⟨_, rfl⟩
    obtain ⟨bk, hbk⟩ : ∃ bk, bks[q] = bk := ⟨_, rfl⟩
    have HBT : Hid (bts[q] = bt) := hbt
    have HBK : Hid (bks[q] = bk) := hbk
    have hbtb : bt < bs := by rw [← hbt]; exact HLT.out _ (List.getElem_mem hqb)
    have d0 : wc.cell? ⟨gt, q, none⟩ = some (.pointer (some ⟨bt, 0, none⟩)) := by
      have := HSTc.out.ot.at0.1 q hqb 0 (by decide)
      rw [hbt] at this; simpa [EP] using this
    have d1 : wc.cell? ⟨gb, q, none⟩ = some (.slice bk.1 bk.2.1 bk.2.2) := by
      have := HSTc.out.ob.at0.1 q hqk 0 (by decide)
      rw [hbk] at this; simpa [EB] using this
    have d0a : ∀ ob, (wc.alloc ob).cell? ⟨gt, q, none⟩ = some (.pointer (some ⟨bt, 0, none⟩)) := fun ob => cell_bel d0 ((Below.refl _ wc).alloc (Nat.le_refl _) _)
    have d1a : ∀ ob, (wc.alloc ob).cell? ⟨gb, q, none⟩ = some (.slice bk.1 bk.2.1 bk.2.2) := fun ob => cell_bel d1 ((Below.refl _ wc).alloc (Nat.le_refl _) _)
    clear hbt hbk
    go_wp2_with fail
    go_region
    go_upto_region 14 with fail
    obtain ⟨bka, bkl, bkc⟩ := bk
    dsimp only
    obtain ⟨wD, hwD⟩ : ∃ wD, (wc.alloc (Obj.cells #[.slice bka bkl bkc] 28)).drew = wD := ⟨_, rfl⟩
    have hbD : Below wc.heap.size wc wD := by rw [← hwD]; exact ((Below.refl _ wc).alloc (Nat.le_refl _) _).drew
    have HBC : Hid (wD.cell? ⟨bs + 1, 0, none⟩ = some (.slice bka bkl bkc) ∧ bs + 1 < wD.heap.size) := by
      rw [← hwD, ← HSZ.out]
      exact ⟨by simp [go_sem], by simp⟩
    have HSD : Hid (St w.heap.size w (keys (ss.take (k + 1))) ts ts bts bks (.slice (some ⟨gt, 0, none⟩) n cT) (.slice (some ⟨gb, 0, none⟩) n cb) wD) := HSTc.out.below hbD
    have HBD : Hid (Bx7 bs ⟨kd, tr, sa, sn, sv, sf, sd⟩ wD) := HBX.out.below hbD
    have HC1 : Hid (wD.cell? ⟨bs, 1, none⟩ = some (.int .i64 tx)) := cell_bel ct' hbD
    first | rw [hwD] | rw [HSZ.out, hwD]
    clear hwD hbD HBX HSTc HSZ d0 d1 d0a d1a ct'
    obtain ⟨T, hT⟩ : ∃ T, ts[q] = T := ⟨_, rfl⟩
    have HT : Hid (ts[q] = T) := hT
    have HH : Hid (HoldsN (okL bts (.slice (some ⟨gt, 0, none⟩) n cT) (.slice (some ⟨gb, 0, none⟩) n cb)) wD bt T) := by have := HSD.out.ho q hqb hqt; rw [hT, HBT.out] at this; exact this
    have HBO : Hid (Bo (okL bts (.slice (some ⟨gt, 0, none⟩) n cT) (.slice (some ⟨gb, 0, none⟩) n cb)) wD (bka, bkl, bkc) (allT T)) := by have := HSD.out.bo q hqk hqt; rw [hT, HBK.out] at this; exact this
    have HG : Hid (Gd (keys (ss.take (k + 1))) T) := by rw [← hT]; exact HSD.out.gt _ (List.getElem_mem hqt)
    have HK1 : Hid ((keys (ss.take (k + 1))).length ≤ 1099511627776) := keys_le hk hbig
    have hkl : bkl = (allT T).length := HBO.out.len
    have hlen : (allT T).length ≤ 1099511627776 := Nat.le_trans HG.out.len HK1.out
    have e0 := HBD.out.k
    have e2 := HBD.out.a
    have e3 := HBD.out.n
    have e4 := HBD.out.v
    have e5 := HBD.out.f
    have e6 := HBD.out.d
    have e7 := HBC.out.1
    have hki : (k : Int) + 1 = ((k + 1 : Nat) : Int) := by omega
    have HKI : Hid ((k : Int) + 1 = ((k + 1 : Nat) : Int)) := hki
    dsimp only at e0 e2 e3 e4 e5 e6
    clear hT hki
    obtain rfl := HKD.out
    subst hkl
    have harr := HBO.out.arr
    obtain ⟨T2, hT2⟩ : ∃ T2, (del (put1 T (sa, sn, sv)) sd 32).1 = T2 := ⟨_, rfl⟩
    have HT2 : Hid ((del (put1 T (sa, sn, sv)) sd 32).1 = T2) := hT2
    have hkin : (sa, sn) ∈ keys (ss.take (k + 1)) := by rw [keys_snoc hkd, HS.out]; simp
    have hg1 : Gd (keys (ss.take (k + 1))) (put1 T (sa, sn, sv)) := HG.out.put1 hoa hkin
    have hg2 : Gd (keys (ss.take (k + 1))) T2 := by rw [← hT2]; exact hg1.del
    obtain ⟨L1, hL1⟩ : ∃ L1, bput (allT T) (sa, sn, sv) = L1 := ⟨_, rfl⟩
    have hL1a : allT (put1 T (sa, sn, sv)) = L1 := by rw [← hL1]; exact all_put1 HG.out.wf hoa
    obtain ⟨L2, hL2⟩ : ∃ L2, bp sd 32 0 true L1 = L2 := ⟨_, rfl⟩
    have HL2 : Hid (allT T2 = L2) := by show _ = _; rw [← hT2, ← hL2, ← hL1a]; exact all_del hg1.wf sd 32
    have hlen1 : L1.length ≤ 1099511627776 := by rw [← hL1a]; exact Nat.le_trans hg1.len HK1.out
    go_upto_region 65 with fail
    obtain ⟨wG, hwG⟩ : ∃ wG, wD.alloc (Obj.cells #[.int .u32 sd, .int .i64 32] 33) = wG := ⟨_, rfl⟩
    have hbG : Below wD.heap.size wD wG := by rw [← hwG]; exact (Below.refl _ wD).alloc (Nat.le_refl _) _
    have g0 : wG.cell? ⟨wD.heap.size, 0, none⟩ = some (.int .u32 sd) := by rw [← hwG]; simp
    have g1 : wG.cell? ⟨wD.heap.size, 1, none⟩ = some (.int .i64 32) := by rw [← hwG]; simp
    have gl : wD.heap.size < wG.heap.size := by rw [← hwG]; simp
    rw [hwG]
    clear hwG
    have f2 := cell_bel e2 hbG
    have f3 := cell_bel e3 hbG
    have f4 := cell_bel e4 hbG
    have f7 := cell_bel e7 hbG
    have HPUT : Hid (∀ W, Below wG.heap.size wG W → Calls Try.prog 9 #[.agg #[.slice bka (allT T).length bkc], .agg #[.int .u32 sa, .int .i64 sn], .int .i64 sv] W fun e w' => ∃ va' cap', e = .returned (.agg #[.slice va' L1.length cap']) ∧ Bk.Arr3 w' va' L1 ∧ Below W.heap.size W w') := fun W hW => (Bk.bput1_any bka bkc (allT T) sa sn sv W (to_bk (harr.bel (hbG.trans (hW.mono hbG.size)))) hoa.1 hoa.2 (by omega)).mono (fun e w' ⟨a1, c1, h1, h2, h3, h4⟩ => by rw [hL1] at h1 h2; exact ⟨a1, c1, h1, h2, h3⟩)
    have HDRP : Hid (∀ ca cc W, Bk.Arr3 W ca L1 → Calls Try.prog 17 #[.agg #[.slice ca L1.length cc], .agg #[.int .u32 sd, .int .i64 32]] W fun e w' => ∃ va' cap', e = .returned (.agg #[.slice va' L2.length cap']) ∧ Bk.Arr3 w' va' L2 ∧ Below W.heap.size W w' ∧ ∀ b o, va' = some ⟨b, o, none⟩ → W.heap.size ≤ b) := fun ca cc W hc => by have := Bk.bdrop_any ca cc L1 sd 32 W hc (by omega); rw [hL2] at this; exact this
    have HSG : Hid (St w.heap.size w (keys (ss.take (k + 1))) ts ts bts bks (.slice (some ⟨gt, 0, none⟩) n cT) (.slice (some ⟨gb, 0, none⟩) n cb) wG) := HSD.out.below hbG
    have HBG : Hid (Bx7 bs ⟨10, tr, sa, sn, sv, sf, sd⟩ wG) := HBD.out.below hbG
    have HOK : Hid (∀ b, wG.heap.size ≤ b → okL bts (.slice (some ⟨gt, 0, none⟩) n cT) (.slice (some ⟨gb, 0, none⟩) n cb) b) := HSG.out.new
    have HG2 : Hid (Gd (keys (ss.take (k + 1))) T2 ∧ (sa, sn) ∈ keys (ss.take (k + 1))) := ⟨hg2, hkin⟩
    clear harr hT2 hL1 hL1a hL2 hg1 hg2 hkin hbG e0 e2 e3 e4 e5 e6 e7 HBD HSD HBO HH
    refine wp_region_held_drew (S := fun W => Below wG.heap.size wG W) (by kernel_rfl) (bel_q wG 1) (fun hHeld => ?_)
    obtain ⟨X0, hX0⟩ : ∃ x, wG.drew = x := ⟨_, rfl⟩
    have HX : Hid (Below wG.heap.size wG X0) := by rw [← hX0]; exact bel_q wG 1
    rw [hX0] at hHeld ⊢
    clear hX0
    refine wpAnyH_take (i := 0) (v := .agg #[.slice bka (allT T).length bkc]) rfl (by kernel_rfl) (by kernel_rfl) (by kernel_rfl) (fun _ _ _ h => h) (Or.inl ⟨by rfl, ?_⟩) (by assumption) ?_
    case refine_1 => intro W hSw; have a2 := cell_bel f2 hSw; have a3 := cell_bel f3 hSw; have a4 := cell_bel f4 hSw; have a7 := cell_bel f7 hSw; have b0 := cell_bel g0 hSw; have b1 := cell_bel g1 hSw; go_simp; try rfl
    try simp only [Act.put, List.getElem_toArray, List.getElem_cons_zero, List.getElem_cons_succ, List.setIfInBounds_toArray, List.set_cons_zero, List.set_cons_succ]
    refine wpAnyH_take (i := 1) (v := ?_) rfl (by kernel_rfl) (by kernel_rfl) (by kernel_rfl) (fun _ _ _ h => h) (Or.inl ⟨by rfl, ?_⟩) (by assumption) ?_
    case refine_2 => intro W hSw; go_simp; try rfl
    try simp only [Act.put, List.getElem_toArray, List.getElem_cons_zero, List.getElem_cons_succ, List.setIfInBounds_toArray, List.set_cons_zero, List.set_cons_succ]
    refine wpAnyH_take (i := 2) (v := .agg #[.int .u32 sa, .int .i64 sn]) rfl (by kernel_rfl) (by kernel_rfl) (by kernel_rfl) (fun _ _ _ h => h) (Or.inl ⟨by rfl, ?_⟩) (by assumption) ?_
    case refine_1 => intro W hSw; have a2 := cell_bel f2 hSw; have a3 := cell_bel f3 hSw; have a4 := cell_bel f4 hSw; have a7 := cell_bel f7 hSw; have b0 := cell_bel g0 hSw; have b1 := cell_bel g1 hSw; go_simp; try rfl
    try simp only [Act.put, List.getElem_toArray, List.getElem_cons_zero, List.getElem_cons_succ, List.setIfInBounds_toArray, List.set_cons_zero, List.set_cons_succ]
    refine wpAnyH_take (i := 3) (v := ?_) rfl (by kernel_rfl) (by kernel_rfl) (by kernel_rfl) (fun _ _ _ h => h) (Or.inl ⟨by rfl, ?_⟩) (by assumption) ?_
    case refine_2 => intro W hSw; go_simp; try rfl
    try simp only [Act.put, List.getElem_toArray, List.getElem_cons_zero, List.getElem_cons_succ, List.setIfInBounds_toArray, List.set_cons_zero, List.set_cons_succ]
    refine wpAnyH_take (i := 4) (v := .int .i64 sv) rfl (by kernel_rfl) (by kernel_rfl) (by kernel_rfl) (fun _ _ _ h => h) (Or.inl ⟨by rfl, ?_⟩) (by assumption) ?_
    case refine_1 => intro W hSw; have a2 := cell_bel f2 hSw; have a3 := cell_bel f3 hSw; have a4 := cell_bel f4 hSw; have a7 := cell_bel f7 hSw; have b0 := cell_bel g0 hSw; have b1 := cell_bel g1 hSw; go_simp; try rfl
    try simp only [Act.put, List.getElem_toArray, List.getElem_cons_zero, List.getElem_cons_succ, List.setIfInBounds_toArray, List.set_cons_zero, List.set_cons_succ]
    refine wpAnyH_take (i := 6) (v := .agg #[.int .u32 sd, .int .i64 32]) rfl (by kernel_rfl) (by kernel_rfl) (by kernel_rfl) (fun _ _ _ h => h) (Or.inl ⟨by rfl, ?_⟩) (by assumption) ?_
    case refine_1 => intro W hSw; have a2 := cell_bel f2 hSw; have a3 := cell_bel f3 hSw; have a4 := cell_bel f4 hSw; have a7 := cell_bel f7 hSw; have b0 := cell_bel g0 hSw; have b1 := cell_bel g1 hSw; go_simp; try rfl
    try simp only [Act.put, List.getElem_toArray, List.getElem_cons_zero, List.getElem_cons_succ, List.setIfInBounds_toArray, List.set_cons_zero, List.set_cons_succ]
    generalize (allT T).length = lt at *
    refine wpAnyH_ready (rs := [5, 8]) (by kernel_rfl) (by simp) ?_
    refine AllReadyH.cons rfl (fun K hK => ?_) (AllReadyH.cons rfl (fun K hK => ?_) AllReadyH.nil)
    case' refine_2 =>
      refine balloc_step rfl rfl (fun m XA hm hsb hbA => ?_)
      have HMM : Hid (wG.heap.size ≤ m) := by show _ ≤ _; have := HX.out.size; have := hm.out; omega
      have HSB : Hid (Ge.SB TbK m [.slice none 0 0] XA) := hsb.out
      have HXN : Hid (Below wG.heap.size wG XA) := HX.out.trans (hbA.out.mono HX.out.size)
      try (have HCN : Hid (Bk.Arr3 XA ca L1) := HCA.out.bel hbA.out)
      try (have HDN : Hid (Bk.Arr3 XA da L2) := HDA.out.bel hbA.out)
      refine hK.out _ _ HXN.out (fun hHeld => ?_)
      clear hK K hm hsb hbA HX
      try clear HCA
      try (have HCA : Hid (Bk.Arr3 XA ca L1) := HCN.out)
      try clear HCN
      try clear HDA
      try (have HDA : Hid (Bk.Arr3 XA da L2) := HDN.out)
      try clear HDN
      have HX : Hid (Below wG.heap.size wG XA) := HXN.out
      clear HXN
      try simp only [Act.put, List.getElem_toArray, List.getElem_cons_zero, List.getElem_cons_succ, List.setIfInBounds_toArray, List.set_cons_zero, List.set_cons_succ]
      refine wpAnyH_ready (rs := [5]) (by kernel_rfl) (by simp) ?_
      refine AllReadyH.cons rfl (fun K hK => ?_) AllReadyH.nil
      go_simp
      refine (HPUT.out _ HX.out).mono ?_
      rintro e X1 ⟨ca, cc, rfl, hca, hb1⟩
      have HXN : Hid (Below wG.heap.size wG X1) := HX.out.trans (hb1.mono HX.out.size)
      have HCA : Hid (Bk.Arr3 X1 ca L1) := hca
      try (have HSBN : Hid (Ge.SB TbK m [.slice none 0 0] X1) := HSB.out.blk (hb1.block m HSB.out.lt))
      refine hK.out _ _ HXN.out (fun hHeld => ?_)
      clear hK K hca hb1 HX
      try clear HSB
      try (have HSB : Hid (Ge.SB TbK m [.slice none 0 0] X1) := HSBN.out)
      try clear HSBN
      have HX : Hid (Below wG.heap.size wG X1) := HXN.out
      clear HXN
      try simp only [Act.put, List.getElem_toArray, List.getElem_cons_zero, List.getElem_cons_succ, List.setIfInBounds_toArray, List.set_cons_zero, List.set_cons_succ]
      refine wpAnyH_ready (rs := [7]) (by kernel_rfl) (by simp) ?_
      refine AllReadyH.cons rfl (fun K hK => ?_) AllReadyH.nil
      go_simp
      refine (HDRP.out _ _ _ HCA.out).mono ?_
      rintro e X2 ⟨da, dc, rfl, hda, hb2, hdo⟩
      have HXN : Hid (Below wG.heap.size wG X2) := HX.out.trans (hb2.mono HX.out.size)
      have HDA : Hid (Bk.Arr3 X2 da L2) := hda
      have HDO : Hid (∀ b o, da = some ⟨b, o, none⟩ → wG.heap.size ≤ b) := fun b o e => Nat.le_trans HX.out.size (hdo b o e)
      try (have HSBN : Hid (Ge.SB TbK m [.slice none 0 0] X2) := HSB.out.blk (hb2.block m HSB.out.lt))
      refine hK.out _ _ HXN.out (fun hHeld => ?_)
      clear hK K hda hb2 hdo HX HCA
      try clear HSB
      try (have HSB : Hid (Ge.SB TbK m [.slice none 0 0] X2) := HSBN.out)
      try clear HSBN
      have HX : Hid (Below wG.heap.size wG X2) := HXN.out
      clear HXN
      try simp only [Act.put, List.getElem_toArray, List.getElem_cons_zero, List.getElem_cons_succ, List.setIfInBounds_toArray, List.set_cons_zero, List.set_cons_succ]
    case' refine_1 =>
      go_simp
      refine (HPUT.out _ HX.out).mono ?_
      rintro e X1 ⟨ca, cc, rfl, hca, hb1⟩
      have HXN : Hid (Below wG.heap.size wG X1) := HX.out.trans (hb1.mono HX.out.size)
      have HCA : Hid (Bk.Arr3 X1 ca L1) := hca
      try (have HSBN : Hid (Ge.SB TbK m [.slice none 0 0] X1) := HSB.out.blk (hb1.block m HSB.out.lt))
      refine hK.out _ _ HXN.out (fun hHeld => ?_)
      clear hK K hca hb1 HX
      try clear HSB
      try (have HSB : Hid (Ge.SB TbK m [.slice none 0 0] X1) := HSBN.out)
      try clear HSBN
      have HX : Hid (Below wG.heap.size wG X1) := HXN.out
      clear HXN
      try simp only [Act.put, List.getElem_toArray, List.getElem_cons_zero, List.getElem_cons_succ, List.setIfInBounds_toArray, List.set_cons_zero, List.set_cons_succ]
      refine wpAnyH_ready (rs := [7, 8]) (by kernel_rfl) (by simp) ?_
      refine AllReadyH.cons rfl (fun K hK => ?_) (AllReadyH.cons rfl (fun K hK => ?_) AllReadyH.nil)
    case' refine_1.refine_1 =>
      go_simp
      refine (HDRP.out _ _ _ HCA.out).mono ?_
      rintro e X2 ⟨da, dc, rfl, hda, hb2, hdo⟩
      have HXN : Hid (Below wG.heap.size wG X2) := HX.out.trans (hb2.mono HX.out.size)
      have HDA : Hid (Bk.Arr3 X2 da L2) := hda
      have HDO : Hid (∀ b o, da = some ⟨b, o, none⟩ → wG.heap.size ≤ b) := fun b o e => Nat.le_trans HX.out.size (hdo b o e)
      try (have HSBN : Hid (Ge.SB TbK m [.slice none 0 0] X2) := HSB.out.blk (hb2.block m HSB.out.lt))
      refine hK.out _ _ HXN.out (fun hHeld => ?_)
      clear hK K hda hb2 hdo HX HCA
      try clear HSB
      try (have HSB : Hid (Ge.SB TbK m [.slice none 0 0] X2) := HSBN.out)
      try clear HSBN
      have HX : Hid (Below wG.heap.size wG X2) := HXN.out
      clear HXN
      try simp only [Act.put, List.getElem_toArray, List.getElem_cons_zero, List.getElem_cons_succ, List.setIfInBounds_toArray, List.set_cons_zero, List.set_cons_succ]
      refine wpAnyH_ready (rs := [8]) (by kernel_rfl) (by simp) ?_
      refine AllReadyH.cons rfl (fun K hK => ?_) AllReadyH.nil
      refine balloc_step rfl rfl (fun m XA hm hsb hbA => ?_)
      have HMM : Hid (wG.heap.size ≤ m) := by show _ ≤ _; have := HX.out.size; have := hm.out; omega
      have HSB : Hid (Ge.SB TbK m [.slice none 0 0] XA) := hsb.out
      have HXN : Hid (Below wG.heap.size wG XA) := HX.out.trans (hbA.out.mono HX.out.size)
      try (have HCN : Hid (Bk.Arr3 XA ca L1) := HCA.out.bel hbA.out)
      try (have HDN : Hid (Bk.Arr3 XA da L2) := HDA.out.bel hbA.out)
      refine hK.out _ _ HXN.out (fun hHeld => ?_)
      clear hK K hm hsb hbA HX
      try clear HCA
      try (have HCA : Hid (Bk.Arr3 XA ca L1) := HCN.out)
      try clear HCN
      try clear HDA
      try (have HDA : Hid (Bk.Arr3 XA da L2) := HDN.out)
      try clear HDN
      have HX : Hid (Below wG.heap.size wG XA) := HXN.out
      clear HXN
      try simp only [Act.put, List.getElem_toArray, List.getElem_cons_zero, List.getElem_cons_succ, List.setIfInBounds_toArray, List.set_cons_zero, List.set_cons_succ]
    case' refine_1.refine_2 =>
      refine balloc_step rfl rfl (fun m XA hm hsb hbA => ?_)
      have HMM : Hid (wG.heap.size ≤ m) := by show _ ≤ _; have := HX.out.size; have := hm.out; omega
      have HSB : Hid (Ge.SB TbK m [.slice none 0 0] XA) := hsb.out
      have HXN : Hid (Below wG.heap.size wG XA) := HX.out.trans (hbA.out.mono HX.out.size)
      try (have HCN : Hid (Bk.Arr3 XA ca L1) := HCA.out.bel hbA.out)
      try (have HDN : Hid (Bk.Arr3 XA da L2) := HDA.out.bel hbA.out)
      refine hK.out _ _ HXN.out (fun hHeld => ?_)
      clear hK K hm hsb hbA HX
      try clear HCA
      try (have HCA : Hid (Bk.Arr3 XA ca L1) := HCN.out)
      try clear HCN
      try clear HDA
      try (have HDA : Hid (Bk.Arr3 XA da L2) := HDN.out)
      try clear HDN
      have HX : Hid (Below wG.heap.size wG XA) := HXN.out
      clear HXN
      try simp only [Act.put, List.getElem_toArray, List.getElem_cons_zero, List.getElem_cons_succ, List.setIfInBounds_toArray, List.set_cons_zero, List.set_cons_succ]
      refine wpAnyH_ready (rs := [7]) (by kernel_rfl) (by simp) ?_
      refine AllReadyH.cons rfl (fun K hK => ?_) AllReadyH.nil
      go_simp
      refine (HDRP.out _ _ _ HCA.out).mono ?_
      rintro e X2 ⟨da, dc, rfl, hda, hb2, hdo⟩
      have HXN : Hid (Below wG.heap.size wG X2) := HX.out.trans (hb2.mono HX.out.size)
      have HDA : Hid (Bk.Arr3 X2 da L2) := hda
      have HDO : Hid (∀ b o, da = some ⟨b, o, none⟩ → wG.heap.size ≤ b) := fun b o e => Nat.le_trans HX.out.size (hdo b o e)
      try (have HSBN : Hid (Ge.SB TbK m [.slice none 0 0] X2) := HSB.out.blk (hb2.block m HSB.out.lt))
      refine hK.out _ _ HXN.out (fun hHeld => ?_)
      clear hK K hda hb2 hdo HX HCA
      try clear HSB
      try (have HSB : Hid (Ge.SB TbK m [.slice none 0 0] X2) := HSBN.out)
      try clear HSBN
      have HX : Hid (Below wG.heap.size wG X2) := HXN.out
      clear HXN
      try simp only [Act.put, List.getElem_toArray, List.getElem_cons_zero, List.getElem_cons_succ, List.setIfInBounds_toArray, List.set_cons_zero, List.set_cons_succ]
    all_goals
      refine wpAnyH_ready (rs := [9]) (by kernel_rfl) (by simp) ?_
      refine AllReadyH.cons rfl (fun K hK => ?_) AllReadyH.nil
      refine Ge.sstore_step TbK (.tmp 33) (.tmp 295) rfl (b := m) (cs := [.slice none 0 0]) (cs' := [.slice da L2.length dc]) rfl rfl HSB.out rfl rfl rfl rfl (fun XF hsf hko => ?_)
      have HXF : Hid (Below wG.heap.size wG XF) := HX.out.trans (hko.out.below HMM.out)
      have HSF : Hid (Ge.SB TbK m [.slice da L2.length dc] XF) := hsf.out
      have HDF : Hid (Arr3 XF da L2) := of_bk (arr_sb HDA.out HSB.out hko.out)
      refine hK.out _ _ HXF.out (fun hHeld => ?_)
      clear hK K hsf hko HX HSB HDA
      try simp only [Act.put, List.getElem_toArray, List.getElem_cons_zero, List.getElem_cons_succ, List.setIfInBounds_toArray, List.set_cons_zero, List.set_cons_succ]
      refine wpAnyH_done (by kernel_rfl) ?_ _
      clear hHeld HPUT HDRP hlen1
      have HSX : Hid (St w.heap.size w (keys (ss.take (k + 1))) ts ts bts bks (.slice (some ⟨gt, 0, none⟩) n cT) (.slice (some ⟨gb, 0, none⟩) n cb) XF) := HSG.out.below HXF.out
      have f2 := cell_bel f2 HXF.out
      have f3 := cell_bel f3 HXF.out
      have f4 := cell_bel f4 HXF.out
      have g0 := cell_bel g0 HXF.out
      have g1 := cell_bel g1 HXF.out
      have hxs := HXF.out.size
      have hmw : wG.heap.size ≤ m := HMM.out
      have hblt : bs < wG.heap.size := HBG.out.lt
      have hmx : m < XF.heap.size := HSF.out.lt
      have f8 : XF.cell? ⟨m, 0, none⟩ = some (.slice da L2.length dc) := HSF.out.cell 0
      go_wp2_with fail
      have hnk : ¬ okL bts (.slice (some ⟨gt, 0, none⟩) n cT) (.slice (some ⟨gb, 0, none⟩) n cb) bt := by have := HSX.out.nok hqb; rw [HBT.out] at this; exact this
      have hhX := HSX.out.ho q hqb hqt
      rw [HBT.out, HT.out] at hhX
      refine (later_any _ bt T (keys (ss.take (k + 1))) sa sn sv sd 32 XF hhX hnk HSX.out.new HG.out HK1.out hoa.1 hoa.2 HG2.out.2 hod.1 hod.2 T2 HT2.out).mono ?_
      rintro e wH ⟨xa, xc, ya, yc, he, hxa, hya, hbx, hhH⟩
      rw [HL2.out] at he hxa hya
      subst he
      have hST := HSX.out.turn hqb (T := T2) HG2.out.1 (by rw [HBT.out]; exact hbx) (by rw [HBT.out]; exact hhH)
      have HSH : Hid (St w.heap.size w (keys (ss.take (k + 1))) (ts.set q T2) ts bts bks (.slice (some ⟨gt, 0, none⟩) n cT) (.slice (some ⟨gb, 0, none⟩) n cb) wH) := hST
      have f8 := (World.cell?_of_block (a := ⟨m, 0, none⟩) (hbx.block m hmx (by omega))).trans f8
      have HDH : Hid (Arr3 wH da L2) := arr_keep HDF.out hbx.size (fun _ b o e hl => hbx.block b hl (by have := HDO.out b o e; omega))
      have HXA : Hid (Arr3 wH xa L2) := hxa
      have HYA : Hid (Arr3 wH ya L2) := hya
      clear hhX hnk hhH hST hxa hya hbx HDF HSF HSX HXF HSG
      go_wp2_with fail
      refine (same_yes xa da xc dc L2 (-1) (by decide) wH HXA.out HDH.out).mono ?_
      rintro e wI ⟨rfl, hbI⟩
      have f8 := cell_bel f8 hbI
      have HYI : Hid (Arr3 wI ya L2) := HYA.out.bel hbI
      have HDI : Hid (Arr3 wI da L2) := HDH.out.bel hbI
      have HSI : Hid (St w.heap.size w (keys (ss.take (k + 1))) (ts.set q T2) ts bts bks (.slice (some ⟨gt, 0, none⟩) n cT) (.slice (some ⟨gb, 0, none⟩) n cb) wI) := HSH.out.below hbI
      clear hbI HXA HYA HDH HSH
      go_wp2_with fail
      refine (same_yes ya da yc dc L2 (-1) (by decide) wI HYI.out HDI.out).mono ?_
      rintro e wJ ⟨rfl, hbJ⟩
      have f8 := cell_bel f8 hbJ
      have hdj : Arr3 wJ da L2 := HDI.out.bel hbJ
      have HSJ : Hid (St w.heap.size w (keys (ss.take (k + 1))) (ts.set q T2) ts bts bks (.slice (some ⟨gt, 0, none⟩) n cT) (.slice (some ⟨gb, 0, none⟩) n cb) wJ) := HSI.out.below hbJ
      have hBo : Bo (okL bts (.slice (some ⟨gt, 0, none⟩) n cT) (.slice (some ⟨gb, 0, none⟩) n cb)) wJ (da, L2.length, dc) (allT T2) := ⟨by rw [HL2.out], by rw [HL2.out]; exact hdj, fun _ b o e => HOK.out b (HDO.out b o e)⟩
      have HSK : Hid (St w.heap.size w (keys (ss.take (k + 1))) (ts.set q T2) (ts.set q T2) bts (bks.set q (da, L2.length, dc)) (.slice (some ⟨gt, 0, none⟩) n cT) (.slice (some ⟨gb, 0, none⟩) n cb) (wJ.setCell ⟨gb, q, none⟩ (.slice da L2.length dc))) := HSJ.out.book hqk HG2.out.1 hBo
      have h0 : wJ.cell? ⟨gb, q, none⟩ = some (.slice bka lt bkc) := by
        have := HSJ.out.ob.at0.1 q hqk 0 (by decide)
        rw [HBK.out] at this; simpa [EB] using this
      have h1 := HSJ.out.ob.at0.2.1 q
      clear hBo hdj hbJ HSJ HSI HDI HYI
      go_wp2_with fail
      rw [HKI.out]
      exact wi_end fr_mk (Nat.lt_succ_self k) hk ⟨_, bts, _, HSK.out⟩
end Go.Proofs.Ytibmhdfodmkahaa.Tu
