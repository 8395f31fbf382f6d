/- A round of triePlay: kind N. A round of triePlay: kind 0. A round of triePlay: kind 1. A round of triePlay: kind 2. A round of triePlay: kind 3. A round of triePlay: kind 4. -/
import Derived.Test.YtibmhdfodmkahaaMgA
namespace Go.Proofs.Ytibmhdfodmkahaa.Tu
open Go.ChangeShapes Go.WideShapes Go.ChangeAt Go.RowKit Go.Joins Go.Proofs.Ytibmhdfodmkahaa.PM Go.Proofs.Ytibmhdfodmkahaa.TrM Go.Proofs.Ytibmhdfodmkahaa.Ask Go.Proofs.Ytibmhdfodmkahaa.Tri
set_option linter.unusedVariables false
set_option linter.unusedSimpArgs false

set_option maxRecDepth 1000000 in
set_option maxHeartbeats 16000000 in
theorem case_N {w wr : World} {ss : List Sp} {L k cap : Nat} {va : Option Addr} {ts : List Tr} {bts : List Nat} {bks : List Bs} {gt gb n cT cb : Nat} {U : Nat → Value} (hL : ss.length = L) (hbig : L ≤ 1048576) (hk : k < L) (hkd : k < ss.length) (H : Ge.Lst ES w va ss) (s : Sp) (hs : ss[k] = s) (hok : SpOk s)
    (hst : St w.heap.size w (keys (ss.take k)) ts ts bts bks (.slice (some ⟨gt, 0, none⟩) n cT) (.slice (some ⟨gb, 0, none⟩) n cb) wr) (hn : ts.length = n) (hkind : s.kind < 0 ∨ 10 < s.kind) :
    Code.wp Try.prog body (Exit.then (fun a' w'' => WI w ss va L cap a' w'' ∧ Wmu L a' w'' < L - k) (QX w ss va L cap)) ⟨fr U va L cap (.slice (some ⟨gt, 0, none⟩) n cT) (.slice (some ⟨gb, 0, none⟩) n cb) (.int .i64 (k : Int)), []⟩ wr := by
  have HL : Hid (ss.length = L) := hL
  have HN : Hid (ts.length = n) := hn
  have HST : Hid (St w.heap.size w (keys (ss.take k)) ts ts bts bks (.slice (some ⟨gt, 0, none⟩) n cT) (.slice (some ⟨gb, 0, none⟩) n cb) wr) := hst
  obtain ⟨b, o, e, hbl, hc⟩ := (H.bel (hst.bel.mono (by have := hst.nsz; omega))).cells k hkd
  subst e
  have c0 := hc 0 (by decide)
  have c1 := hc 1 (by decide)
  have c2 := hc 2 (by decide)
  have c3 := hc 3 (by decide)
  have c4 := hc 4 (by decide)
  have c5 := hc 5 (by decide)
  have c6 := hc 6 (by decide)
  have HS : Hid (ss[k] = s) := hs
  rw [hs] at c0 c1 c2 c3 c4 c5 c6
  simp only [ES, spL, List.getElem?_cons_zero, List.getElem?_cons_succ, Nat.add_zero] at c0 c1 c2 c3 c4 c5 c6
  have hkk : (k : Int) < L := by omega
  have kk0 : (0 : Int) ≤ k := by omega
  clear hc hs hst hn hL
  obtain ⟨kd, tr, sa, sn, sv, sf, sd⟩ := s
  obtain ⟨hoa, hod, hot⟩ := hok
  dsimp only at hkind hoa hod hot c0 c1 c2 c3 c4 c5 c6
  have HKD : Hid (kd < 0 ∨ 10 < kd) := hkind
  clear hkind
  obtain ⟨tx, htx⟩ : ∃ tx : Int, tx = if tr < 0 then 0 else tr := ⟨_, rfl⟩
  have htx0 : 0 ≤ tx ∧ tx < 9223372036854775808 := by rw [htx]; split <;> omega
  have HTX : Hid (tx = if tr < 0 then 0 else tr) := htx
  clear htx
  conv => arg 2; whnf
  unfold fr
  go_upto_region 9 with fail
  obtain ⟨wA, hwA⟩ : ∃ wA, wr.alloc (Obj.cells #[.int .i64 kd, .int .i64 tr, .int .u32 sa, .int .i64 sn, .int .i64 sv, .int .i64 sf, .int .u32 sd] 35) = wA := ⟨_, rfl⟩
  have HWA : Hid (Below wr.heap.size wr wA ∧ wA.heap.size = wr.heap.size + 1 ∧ Bx7 wr.heap.size ⟨kd, tr, sa, sn, sv, sf, sd⟩ wA ∧ wA.cell? ⟨wr.heap.size, 1, none⟩ = some (.int .i64 tr) ∧ wA.frozen? ⟨wr.heap.size, 1, none⟩ = false) := by
    rw [← hwA]
    exact ⟨(Below.refl _ wr).alloc (Nat.le_refl _) _, by simp, ⟨by simp, by simp, by simp, by simp, by simp, by simp, by simp⟩, by simp, by simp⟩
  rw [hwA]
  clear hwA c0 c1 c2 c3 c4 c5 c6 hbl
  obtain ⟨bs, hbs⟩ : ∃ bs, wr.heap.size = bs := ⟨_, rfl⟩
  have HBS : Hid (wr.heap.size = bs) := hbs
  rw [hbs] at HWA ⊢
  clear hbs
  obtain ⟨hb, hsz, hbx, ct, cf⟩ := HWA.out
  go_upto_if 55 with fail
  go_cut [] from 56 to 56 (fun wx => Bx7 bs ⟨kd, tr, sa, sn, sv, sf, sd⟩ wx ∧ wx.cell? ⟨bs, 1, none⟩ = some (.int .i64 tx) ∧ Below bs wr wx ∧ wx.heap.size = bs + 1)
  case first =>
    by_cases htr : tr < 0
    · have e : tx = 0 := by rw [HTX.out, if_pos htr]
      go_wp2_with fail
      go_meet
      exact ⟨⟨by simp [go_sem, hbx.k], by simp [go_sem, hbx.a], by simp [go_sem, hbx.n], by simp [go_sem, hbx.v], by simp [go_sem, hbx.f], by simp [go_sem, hbx.d], by simpa using hbx.lt⟩, by rw [e]; simp [go_sem, ct], hb.setCell (p := ⟨bs, 1, none⟩) (Nat.le_refl _) _, by simpa using hsz⟩
    · have e : tx = tr := by rw [HTX.out, if_neg htr]
      go_wp2_with fail
      go_meet
      exact ⟨hbx, by rw [e]; exact ct, hb, hsz⟩
  case rest =>
    obtain ⟨hbx', ct', hb', hsz'⟩ := hcut
    have HSTc : Hid (St w.heap.size w (keys (ss.take (k + 1))) ts ts bts bks (.slice (some ⟨gt, 0, none⟩) n cT) (.slice (some ⟨gb, 0, none⟩) n cb) wc) := (HST.out.below (by rw [HBS.out]; exact hb')).keys hkd
    have HBX : Hid (Bx7 bs ⟨kd, tr, sa, sn, sv, sf, sd⟩ wc) := hbx'
    have HSZ : Hid (wc.heap.size = bs + 1) := hsz'
    have HGB : Hid (gt < bs ∧ gb < bs) := by rw [← HBS.out]; exact ⟨(HST.out.ot.row.lt gt rfl).2, (HST.out.ob.row.lt gb rfl).2⟩
    have HLT : Hid (∀ b ∈ bts, b < bs) := fun b hb => by rw [← HBS.out]; exact HST.out.lt hb
    clear hbx' hb' HST HWA hb hsz hbx ct cf HTX
    have hn0 : 0 < n := by rw [← HN.out]; exact HSTc.out.pos
    have hn12 : n ≤ 12 := by rw [← HN.out]; exact HSTc.out.few
    obtain ⟨q, hq⟩ : ∃ q : Nat, tx.tmod (n : Int) = (q : Int) := ⟨(tx.tmod (n : Int)).toNat, by rw [Int.toNat_of_nonneg (Int.tmod_nonneg _ htx0.1)]⟩
    have hqn : q < n := by
      have := Int.tmod_lt_of_pos tx (b := (n : Int)) (by omega)
      omega
    have hqi : (q : Int) < n := by omega
    have hq0 : (0 : Int) ≤ q := by omega
    have hni : (0 : Int) < n := by omega
    have hqb : q < bts.length := by rw [HSTc.out.l1, HN.out]; exact hqn
    have hqk : q < bks.length := by rw [HSTc.out.l2, HN.out]; exact hqn
    have hqt : q < ts.length := by rw [HN.out]; exact hqn
    obtain ⟨bt, hbt⟩ : ∃ bt, bts[q] = bt := ⟨_, rfl⟩
    obtain ⟨bk, hbk⟩ : ∃ bk, bks[q] = bk := ⟨_, rfl⟩
    have HBT : Hid (bts[q] = bt) := hbt
    have HBK : Hid (bks[q] = bk) := hbk
    have hbtb : bt < bs := by rw [← hbt]; exact HLT.out _ (List.getElem_mem hqb)
    have d0 : wc.cell? ⟨gt, q, none⟩ = some (.pointer (some ⟨bt, 0, none⟩)) := by
      have := HSTc.out.ot.at0.1 q hqb 0 (by decide)
      rw [hbt] at this; simpa [EP] using this
    have d1 : wc.cell? ⟨gb, q, none⟩ = some (.slice bk.1 bk.2.1 bk.2.2) := by
      have := HSTc.out.ob.at0.1 q hqk 0 (by decide)
      rw [hbk] at this; simpa [EB] using this
    have d0a : ∀ ob, (wc.alloc ob).cell? ⟨gt, q, none⟩ = some (.pointer (some ⟨bt, 0, none⟩)) := fun ob => cell_bel d0 ((Below.refl _ wc).alloc (Nat.le_refl _) _)
    have d1a : ∀ ob, (wc.alloc ob).cell? ⟨gb, q, none⟩ = some (.slice bk.1 bk.2.1 bk.2.2) := fun ob => cell_bel d1 ((Below.refl _ wc).alloc (Nat.le_refl _) _)
    clear hbt hbk
    go_wp2_with fail
    go_region
    go_upto_region 14 with fail
    obtain ⟨bka, bkl, bkc⟩ := bk
    dsimp only
    obtain ⟨wD, hwD⟩ : ∃ wD, (wc.alloc (Obj.cells #[.slice bka bkl bkc] 28)).drew = wD := ⟨_, rfl⟩
    have hbD : Below wc.heap.size wc wD := by rw [← hwD]; exact ((Below.refl _ wc).alloc (Nat.le_refl _) _).drew
    have HBC : Hid (wD.cell? ⟨bs + 1, 0, none⟩ = some (.slice bka bkl bkc) ∧ bs + 1 < wD.heap.size) := by
      rw [← hwD, ← HSZ.out]
      exact ⟨by simp [go_sem], by simp⟩
    have HSD : Hid (St w.heap.size w (keys (ss.take (k + 1))) ts ts bts bks (.slice (some ⟨gt, 0, none⟩) n cT) (.slice (some ⟨gb, 0, none⟩) n cb) wD) := HSTc.out.below hbD
    have HBD : Hid (Bx7 bs ⟨kd, tr, sa, sn, sv, sf, sd⟩ wD) := HBX.out.below hbD
    have HC1 : Hid (wD.cell? ⟨bs, 1, none⟩ = some (.int .i64 tx)) := cell_bel ct' hbD
    first | rw [hwD] | rw [HSZ.out, hwD]
    clear hwD hbD HBX HSTc HSZ d0 d1 d0a d1a ct'
    obtain ⟨T, hT⟩ : ∃ T, ts[q] = T := ⟨_, rfl⟩
    have HT : Hid (ts[q] = T) := hT
    have HH : Hid (HoldsN (okL bts (.slice (some ⟨gt, 0, none⟩) n cT) (.slice (some ⟨gb, 0, none⟩) n cb)) wD bt T) := by have := HSD.out.ho q hqb hqt; rw [hT, HBT.out] at this; exact this
    have HBO : Hid (Bo (okL bts (.slice (some ⟨gt, 0, none⟩) n cT) (.slice (some ⟨gb, 0, none⟩) n cb)) wD (bka, bkl, bkc) (allT T)) := by have := HSD.out.bo q hqk hqt; rw [hT, HBK.out] at this; exact this
    have HG : Hid (Gd (keys (ss.take (k + 1))) T) := by rw [← hT]; exact HSD.out.gt _ (List.getElem_mem hqt)
    have HK1 : Hid ((keys (ss.take (k + 1))).length ≤ 1099511627776) := keys_le hk hbig
    have hkl : bkl = (allT T).length := HBO.out.len
    have hlen : (allT T).length ≤ 1099511627776 := Nat.le_trans HG.out.len HK1.out
    have e0 := HBD.out.k
    have e2 := HBD.out.a
    have e3 := HBD.out.n
    have e4 := HBD.out.v
    have e5 := HBD.out.f
    have e6 := HBD.out.d
    have e7 := HBC.out.1
    have hki : (k : Int) + 1 = ((k + 1 : Nat) : Int) := by omega
    have HKI : Hid ((k : Int) + 1 = ((k + 1 : Nat) : Int)) := hki
    dsimp only at e0 e2 e3 e4 e5 e6
    clear hT hki
    have hkn := HKD.out
    have n0 : ¬ kd = 0 := by omega
    have n1 : ¬ kd = 1 := by omega
    have n2 : ¬ kd = 2 := by omega
    have n3 : ¬ kd = 3 := by omega
    have n4 : ¬ kd = 4 := by omega
    have n5 : ¬ kd = 5 := by omega
    have n6 : ¬ kd = 6 := by omega
    have n7 : ¬ kd = 7 := by omega
    have n8 : ¬ kd = 8 := by omega
    have n9 : ¬ kd = 9 := by omega
    have n10 : ¬ kd = 10 := by omega
    clear HKD hkn
    go_wp2_with fail
    rw [HKI.out]
    exact wi_end fr_mk (Nat.lt_succ_self k) hk ⟨ts, bts, bks, HSD.out⟩
end Go.Proofs.Ytibmhdfodmkahaa.Tu
namespace Go.Proofs.Ytibmhdfodmkahaa.Tu
open Go.ChangeShapes Go.WideShapes Go.ChangeAt Go.RowKit Go.Joins Go.Proofs.Ytibmhdfodmkahaa.PM Go.Proofs.Ytibmhdfodmkahaa.TrM Go.Proofs.Ytibmhdfodmkahaa.Ask Go.Proofs.Ytibmhdfodmkahaa.Tri
set_option linter.unusedVariables false
set_option linter.unusedSimpArgs false

set_option maxRecDepth 1000000 in
set_option maxHeartbeats 16000000 in
theorem case_0 {w wr : World} {ss : List Sp} {L k cap : Nat} {va : Option Addr} {ts : List Tr} {bts : List Nat} {bks : List Bs} {gt gb n cT cb : Nat} {U : Nat → Value} (hL : ss.length = L) (hbig : L ≤ 1048576) (hk : k < L) (hkd : k < ss.length) (H : Ge.Lst ES w va ss) (s : Sp) (hs : ss[k] = s) (hok : SpOk s)
    (hst : St w.heap.size w (keys (ss.take k)) ts ts bts bks (.slice (some ⟨gt, 0, none⟩) n cT) (.slice (some ⟨gb, 0, none⟩) n cb) wr) (hn : ts.length = n) (hkind : s.kind = 0) :
    Code.wp Try.prog body (Exit.then (fun a' w'' => WI w ss va L cap a' w'' ∧ Wmu L a' w'' < L - k) (QX w ss va L cap)) ⟨fr U va L cap (.slice (some ⟨gt, 0, none⟩) n cT) (.slice (some ⟨gb, 0, none⟩) n cb) (.int .i64 (k : Int)), []⟩ wr := by
  have HL : Hid (ss.length = L) := hL
  have HN : Hid (ts.length = n) := hn
  have HST : Hid (St w.heap.size w (keys (ss.take k)) ts ts bts bks (.slice (some ⟨gt, 0, none⟩) n cT) (.slice (some ⟨gb, 0, none⟩) n cb) wr) := hst
  obtain ⟨b, o, e, hbl, hc⟩ := (H.bel (hst.bel.mono (by have := hst.nsz; omega))).cells k hkd
  subst e
  have c0 := hc 0 (by decide)
  have c1 := hc 1 (by decide)
  have c2 := hc 2 (by decide)
  have c3 := hc 3 (by decide)
  have c4 := hc 4 (by decide)
  have c5 := hc 5 (by decide)
  have c6 := hc 6 (by decide)
  have HS : Hid (ss[k] = s) := hs
  rw [hs] at c0 c1 c2 c3 c4 c5 c6
  simp only [ES, spL, List.getElem?_cons_zero, List.getElem?_cons_succ, Nat.add_zero] at c0 c1 c2 c3 c4 c5 c6
  have hkk : (k : Int) < L := by omega
  have kk0 : (0 : Int) ≤ k := by omega
  clear hc hs hst hn hL
  obtain ⟨kd, tr, sa, sn, sv, sf, sd⟩ := s
  obtain ⟨hoa, hod, hot⟩ := hok
  dsimp only at hkind hoa hod hot c0 c1 c2 c3 c4 c5 c6
  have HKD : Hid (kd = 0) := hkind
  clear hkind
  obtain ⟨tx, htx⟩ : ∃ tx : Int, tx = if tr < 0 then 0 else tr := ⟨_, rfl⟩
  have htx0 : 0 ≤ tx ∧ tx < 9223372036854775808 := by rw [htx]; split <;> omega
  have HTX : Hid (tx = if tr < 0 then 0 else tr) := htx
  clear htx
  conv => arg 2; whnf
  unfold fr
  go_upto_region 9 with fail
  obtain ⟨wA, hwA⟩ : ∃ wA, wr.alloc (Obj.cells #[.int .i64 kd, .int .i64 tr, .int .u32 sa, .int .i64 sn, .int .i64 sv, .int .i64 sf, .int .u32 sd] 35) = wA := ⟨_, rfl⟩
  have HWA : Hid (Below wr.heap.size wr wA ∧ wA.heap.size = wr.heap.size + 1 ∧ Bx7 wr.heap.size ⟨kd, tr, sa, sn, sv, sf, sd⟩ wA ∧ wA.cell? ⟨wr.heap.size, 1, none⟩ = some (.int .i64 tr) ∧ wA.frozen? ⟨wr.heap.size, 1, none⟩ = false) := by
    rw [← hwA]
    exact ⟨(Below.refl _ wr).alloc (Nat.le_refl _) _, by simp, ⟨by simp, by simp, by simp, by simp, by simp, by simp, by simp⟩, by simp, by simp⟩
  rw [hwA]
  clear hwA c0 c1 c2 c3 c4 c5 c6 hbl
  obtain ⟨bs, hbs⟩ : ∃ bs, wr.heap.size = bs := ⟨_, rfl⟩
  have HBS : Hid (wr.heap.size = bs) := hbs
  rw [hbs] at HWA ⊢
  clear hbs
  obtain ⟨hb, hsz, hbx, ct, cf⟩ := HWA.out
  go_upto_if 55 with fail
  go_cut [] from 56 to 56 (fun wx => Bx7 bs ⟨kd, tr, sa, sn, sv, sf, sd⟩ wx ∧ wx.cell? ⟨bs, 1, none⟩ = some (.int .i64 tx) ∧ Below bs wr wx ∧ wx.heap.size = bs + 1)
  case first =>
    by_cases htr : tr < 0
    · have e : tx = 0 := by rw [HTX.out, if_pos htr]
      go_wp2_with fail
      go_meet
      exact ⟨⟨by simp [go_sem, hbx.k], by simp [go_sem, hbx.a], by simp [go_sem, hbx.n], by simp [go_sem, hbx.v], by simp [go_sem, hbx.f], by simp [go_sem, hbx.d], by simpa using hbx.lt⟩, by rw [e]; simp [go_sem, ct], hb.setCell (p := ⟨bs, 1, none⟩) (Nat.le_refl _) _, by simpa using hsz⟩
    · have e : tx = tr := by rw [HTX.out, if_neg htr]
      go_wp2_with fail
      go_meet
      exact ⟨hbx, by rw [e]; exact ct, hb, hsz⟩
  case rest =>
    obtain ⟨hbx', ct', hb', hsz'⟩ := hcut
    have HSTc : Hid (St w.heap.size w (keys (ss.take (k + 1))) ts ts bts bks (.slice (some ⟨gt, 0, none⟩) n cT) (.slice (some ⟨gb, 0, none⟩) n cb) wc) := (HST.out.below (by rw [HBS.out]; exact hb')).keys hkd
    have HBX : Hid (Bx7 bs ⟨kd, tr, sa, sn, sv, sf, sd⟩ wc) := hbx'
    have HSZ : Hid (wc.heap.size = bs + 1) := hsz'
    have HGB : Hid (gt < bs ∧ gb < bs) := by rw [← HBS.out]; exact ⟨(HST.out.ot.row.lt gt rfl).2, (HST.out.ob.row.lt gb rfl).2⟩
    have HLT : Hid (∀ b ∈ bts, b < bs) := fun b hb => by rw [← HBS.out]; exact HST.out.lt hb
    clear hbx' hb' HST HWA hb hsz hbx ct cf HTX
    have hn0 : 0 < n := by rw [← HN.out]; exact HSTc.out.pos
    have hn12 : n ≤ 12 := by rw [← HN.out]; exact HSTc.out.few
    obtain ⟨q, hq⟩ : ∃ q : Nat, tx.tmod (n : Int) = (q : Int) := ⟨(tx.tmod (n : Int)).toNat, by rw [Int.toNat_of_nonneg (Int.tmod_nonneg _ htx0.1)]⟩
    have hqn : q < n := by
      have := Int.tmod_lt_of_pos tx (b := (n : Int)) (by omega)
      omega
    have hqi : (q : Int) < n := by omega
    have hq0 : (0 : Int) ≤ q := by omega
    have hni : (0 : Int) < n := by omega
    have hqb : q < bts.length := by rw [HSTc.out.l1, HN.out]; exact hqn
    have hqk : q < bks.length := by rw [HSTc.out.l2, HN.out]; exact hqn
    have hqt : q < ts.length := by rw [HN.out]; exact hqn
    obtain ⟨bt, hbt⟩ : ∃ bt, bts[q] = bt := ⟨_, rfl⟩
    obtain ⟨bk, hbk⟩ : ∃ bk, bks[q] = bk := ⟨_, rfl⟩
    have HBT : Hid (bts[q] = bt) := hbt
    have HBK : Hid (bks[q] = bk) := hbk
    have hbtb : bt < bs := by rw [← hbt]; exact HLT.out _ (List.getElem_mem hqb)
    have d0 : wc.cell? ⟨gt, q, none⟩ = some (.pointer (some ⟨bt, 0, none⟩)) := by
      have := HSTc.out.ot.at0.1 q hqb 0 (by decide)
      rw [hbt] at this; simpa [EP] using this
    have d1 : wc.cell? ⟨gb, q, none⟩ = some (.slice bk.1 bk.2.1 bk.2.2) := by
      have := HSTc.out.ob.at0.1 q hqk 0 (by decide)
      rw [hbk] at this; simpa [EB] using this
    have d0a : ∀ ob, (wc.alloc ob).cell? ⟨gt, q, none⟩ = some (.pointer (some ⟨bt, 0, none⟩)) := fun ob => cell_bel d0 ((Below.refl _ wc).alloc (Nat.le_refl _) _)
    have d1a : ∀ ob, (wc.alloc ob).cell? ⟨gb, q, none⟩ = some (.slice bk.1 bk.2.1 bk.2.2) := fun ob => cell_bel d1 ((Below.refl _ wc).alloc (Nat.le_refl _) _)
    clear hbt hbk
    go_wp2_with fail
    go_region
    go_upto_region 14 with fail
    obtain ⟨bka, bkl, bkc⟩ := bk
    dsimp only
    obtain ⟨wD, hwD⟩ : ∃ wD, (wc.alloc (Obj.cells #[.slice bka bkl bkc] 28)).drew = wD := ⟨_, rfl⟩
    have hbD : Below wc.heap.size wc wD := by rw [← hwD]; exact ((Below.refl _ wc).alloc (Nat.le_refl _) _).drew
    have HBC : Hid (wD.cell? ⟨bs + 1, 0, none⟩ = some (.slice bka bkl bkc) ∧ bs + 1 < wD.heap.size) := by
      rw [← hwD, ← HSZ.out]
      exact ⟨by simp [go_sem], by simp⟩
    have HSD : Hid (St w.heap.size w (keys (ss.take (k + 1))) ts ts bts bks (.slice (some ⟨gt, 0, none⟩) n cT) (.slice (some ⟨gb, 0, none⟩) n cb) wD) := HSTc.out.below hbD
    have HBD : Hid (Bx7 bs ⟨kd, tr, sa, sn, sv, sf, sd⟩ wD) := HBX.out.below hbD
    have HC1 : Hid (wD.cell? ⟨bs, 1, none⟩ = some (.int .i64 tx)) := cell_bel ct' hbD
    first | rw [hwD] | rw [HSZ.out, hwD]
    clear hwD hbD HBX HSTc HSZ d0 d1 d0a d1a ct'
    obtain ⟨T, hT⟩ : ∃ T, ts[q] = T := ⟨_, rfl⟩
    have HT : Hid (ts[q] = T) := hT
    have HH : Hid (HoldsN (okL bts (.slice (some ⟨gt, 0, none⟩) n cT) (.slice (some ⟨gb, 0, none⟩) n cb)) wD bt T) := by have := HSD.out.ho q hqb hqt; rw [hT, HBT.out] at this; exact this
    have HBO : Hid (Bo (okL bts (.slice (some ⟨gt, 0, none⟩) n cT) (.slice (some ⟨gb, 0, none⟩) n cb)) wD (bka, bkl, bkc) (allT T)) := by have := HSD.out.bo q hqk hqt; rw [hT, HBK.out] at this; exact this
    have HG : Hid (Gd (keys (ss.take (k + 1))) T) := by rw [← hT]; exact HSD.out.gt _ (List.getElem_mem hqt)
    have HK1 : Hid ((keys (ss.take (k + 1))).length ≤ 1099511627776) := keys_le hk hbig
    have hkl : bkl = (allT T).length := HBO.out.len
    have hlen : (allT T).length ≤ 1099511627776 := Nat.le_trans HG.out.len HK1.out
    have e0 := HBD.out.k
    have e2 := HBD.out.a
    have e3 := HBD.out.n
    have e4 := HBD.out.v
    have e5 := HBD.out.f
    have e6 := HBD.out.d
    have e7 := HBC.out.1
    have hki : (k : Int) + 1 = ((k + 1 : Nat) : Int) := by omega
    have HKI : Hid ((k : Int) + 1 = ((k + 1 : Nat) : Int)) := hki
    dsimp only at e0 e2 e3 e4 e5 e6
    clear hT hki
    obtain rfl := HKD.out
    subst hkl
    obtain ⟨r, hr⟩ : ∃ r, TrM.look T sa sn = r := ⟨_, rfl⟩
    have HR : Hid (TrM.look T sa sn = r ∧ bget sa sn (allT T) = r) := ⟨hr, (bget_allT HG.out.wf sa sn).trans hr⟩
    clear hr
    have harr := HBO.out.arr
    obtain ⟨T2, hT2⟩ : ∃ T2, (put1 T (sa, sn, sv)) = T2 := ⟨_, rfl⟩
    have HT2 : Hid ((put1 T (sa, sn, sv)) = T2) := hT2
    have hg2 : Gd (keys (ss.take (k + 1))) T2 := by
      rw [← hT2]
      exact HG.out.put1 hoa (by rw [keys_snoc hkd, HS.out]; simp)
    have hal : allT T2 = bput (allT T) (sa, sn, sv) := by rw [← hT2]; exact all_put1 HG.out.wf hoa
    clear hT2
    go_wp2_with fail
    refine (Bk.bget_any bka bkc (allT T) sa sn wD (to_bk harr) r HR.out.2).mono ?_
    rintro e wE ⟨rfl, hbE⟩
    have f0 := cell_bel e0 hbE
    have f2 := cell_bel e2 hbE
    have f3 := cell_bel e3 hbE
    have f4 := cell_bel e4 hbE
    have f7 := cell_bel e7 hbE
    have HSE : Hid (St w.heap.size w (keys (ss.take (k + 1))) ts ts bts bks (.slice (some ⟨gt, 0, none⟩) n cT) (.slice (some ⟨gb, 0, none⟩) n cb) wE) := HSD.out.below hbE
    have HBE : Hid (Bx7 bs ⟨0, tr, sa, sn, sv, sf, sd⟩ wE) := HBD.out.below hbE
    have HCE : Hid (wE.cell? ⟨bs + 1, 0, none⟩ = some (.slice bka (allT T).length bkc) ∧ bs + 1 < wE.heap.size) := ⟨f7, Nat.lt_of_lt_of_le HBC.out.2 hbE.size⟩
    clear hbE harr
    go_wp2_with fail
    have hnk : ¬ okL bts (.slice (some ⟨gt, 0, none⟩) n cT) (.slice (some ⟨gb, 0, none⟩) n cb) bt := by have := HSE.out.nok hqb; rw [HBT.out] at this; exact this
    have hhE := HSE.out.ho q hqb hqt
    rw [HBT.out, HT.out] at hhE
    refine (put_n _ bt T sa sn sv wE hhE hnk HSE.out.new HG.out.wf HG.out.bz hoa.1 hoa.2 hlen).mono ?_
    rw [HR.out.1, HT2.out]
    rintro e wF ⟨rfl, hbut, hhF⟩
    have hbtlt : bt < wE.heap.size := hhE.lt
    have hbtne : bs ≠ bt ∧ bs + 1 ≠ bt := by omega
    have f0 := (hbut.cell (b := bs) 0 HBE.out.lt hbtne.1).trans f0
    have f2 := (hbut.cell (b := bs) 2 HBE.out.lt hbtne.1).trans f2
    have f3 := (hbut.cell (b := bs) 3 HBE.out.lt hbtne.1).trans f3
    have f4 := (hbut.cell (b := bs) 4 HBE.out.lt hbtne.1).trans f4
    have f7 := (hbut.cell (b := bs + 1) 0 HCE.out.2 hbtne.2).trans f7
    have hSF := HSE.out.turn hqb (T := T2) hg2 (by rw [HBT.out]; exact belX_of_but (Nat.le_refl _) hbut) (by rw [HBT.out]; exact hhF)
    have HSF : Hid (St w.heap.size w (keys (ss.take (k + 1))) (ts.set q T2) ts bts bks (.slice (some ⟨gt, 0, none⟩) n cT) (.slice (some ⟨gb, 0, none⟩) n cb) wF) := hSF
    have hbo := hSF.bo q hqk hqt
    rw [HT.out, HBK.out] at hbo
    have harr : Arr3 wF bka (allT T) := hbo.arr
    have hbk1 := hbo.ok
    clear hbo hSF hbut hhF hhE hnk
    generalize r.getD 0 = rv at *
    generalize r.isSome = rb at *
    go_wp2_with fail
    refine (Bk.bput1_any bka bkc (allT T) sa sn sv wF (to_bk harr) hoa.1 hoa.2 (by omega)).mono ?_
    rintro e wG ⟨xa, xc, he, hxa, hbG, hxo⟩
    rw [← hal] at he hxa
    rw [← hal] at hxo
    have HSG : Hid (St w.heap.size w (keys (ss.take (k + 1))) (ts.set q T2) ts bts bks (.slice (some ⟨gt, 0, none⟩) n cT) (.slice (some ⟨gb, 0, none⟩) n cb) wG) := HSF.out.below hbG
    have hBo : Bo (okL bts (.slice (some ⟨gt, 0, none⟩) n cT) (.slice (some ⟨gb, 0, none⟩) n cb)) wG (xa, (allT T2).length, xc) (allT T2) := ⟨rfl, of_bk hxa, fun hp b o e => by
      rcases hxo with ⟨h1, h2⟩ | h1
      · subst h1; rw [h2] at hp; exact hbk1 hp b o e
      · exact HSF.out.new b (h1 b o e)⟩
    have HSH : Hid (St w.heap.size w (keys (ss.take (k + 1))) (ts.set q T2) (ts.set q T2) bts (bks.set q (xa, (allT T2).length, xc)) (.slice (some ⟨gt, 0, none⟩) n cT) (.slice (some ⟨gb, 0, none⟩) n cb) (wG.setCell ⟨gb, q, none⟩ (.slice xa (allT T2).length xc))) := HSG.out.book hqk hg2 hBo
    subst he
    have h0 : wG.cell? ⟨gb, q, none⟩ = some (.slice bka (allT T).length bkc) := by
      have := HSG.out.ob.at0.1 q hqk 0 (by decide)
      rw [HBK.out] at this; simpa [EB] using this
    have h1 := HSG.out.ob.at0.2.1 q
    clear HSG HSF hBo hxa hxo hbG f0 f2 f3 f4 f7 harr hal HT2 HSE HSD
    generalize (allT T2).length = lt2 at *
    go_wp2_with fail
    rw [HKI.out]
    exact wi_end fr_mk (Nat.lt_succ_self k) hk ⟨_, bts, _, HSH.out⟩
end Go.Proofs.Ytibmhdfodmkahaa.Tu
namespace Go.Proofs.Ytibmhdfodmkahaa.Tu
open Go.ChangeShapes Go.WideShapes Go.ChangeAt Go.RowKit Go.Joins Go.Proofs.Ytibmhdfodmkahaa.PM Go.Proofs.Ytibmhdfodmkahaa.TrM Go.Proofs.Ytibmhdfodmkahaa.Ask Go.Proofs.Ytibmhdfodmkahaa.Tri
set_option linter.unusedVariables false
set_option linter.unusedSimpArgs false

set_option maxRecDepth 1000000 in
set_option maxHeartbeats 16000000 in
theorem case_1 {w wr : World} {ss : List Sp} {L k cap : Nat} {va : Option Addr} {ts : List Tr} {bts : List Nat} {bks : List Bs} {gt gb n cT cb : Nat} {U : Nat → Value} (hL : ss.length = L) (hbig : L ≤ 1048576) (hk : k < L) (hkd : k < ss.length) (H : Ge.Lst ES w va ss) (s : Sp) (hs : ss[k] = s) (hok : SpOk s)
    (hst : St w.heap.size w (keys (ss.take k)) ts ts bts bks (.slice (some ⟨gt, 0, none⟩) n cT) (.slice (some ⟨gb, 0, none⟩) n cb) wr) (hn : ts.length = n) (hkind : s.kind = 1) :
    Code.wp Try.prog body (Exit.then (fun a' w'' => WI w ss va L cap a' w'' ∧ Wmu L a' w'' < L - k) (QX w ss va L cap)) ⟨fr U va L cap (.slice (some ⟨gt, 0, none⟩) n cT) (.slice (some ⟨gb, 0, none⟩) n cb) (.int .i64 (k : Int)), []⟩ wr := by
  have HL : Hid (ss.length = L) := hL
  have HN : Hid (ts.length = n) := hn
  have HST : Hid (St w.heap.size w (keys (ss.take k)) ts ts bts bks (.slice (some ⟨gt, 0, none⟩) n cT) (.slice (some ⟨gb, 0, none⟩) n cb) wr) := hst
  obtain ⟨b, o, e, hbl, hc⟩ := (H.bel (hst.bel.mono (by have := hst.nsz; omega))).cells k hkd
  subst e
  have c0 := hc 0 (by decide)
  have c1 := hc 1 (by decide)
  have c2 := hc 2 (by decide)
  have c3 := hc 3 (by decide)
  have c4 := hc 4 (by decide)
  have c5 := hc 5 (by decide)
  have c6 := hc 6 (by decide)
  have HS : Hid (ss[k] = s) := hs
  rw [hs] at c0 c1 c2 c3 c4 c5 c6
  simp only [ES, spL, List.getElem?_cons_zero, List.getElem?_cons_succ, Nat.add_zero] at c0 c1 c2 c3 c4 c5 c6
  have hkk : (k : Int) < L := by omega
  have kk0 : (0 : Int) ≤ k := by omega
  clear hc hs hst hn hL
  obtain ⟨kd, tr, sa, sn, sv, sf, sd⟩ := s
  obtain ⟨hoa, hod, hot⟩ := hok
  dsimp only at hkind hoa hod hot c0 c1 c2 c3 c4 c5 c6
  have HKD : Hid (kd = 1) := hkind
  clear hkind
  obtain ⟨tx, htx⟩ : ∃ tx : Int, tx = if tr < 0 then 0 else tr := ⟨_, rfl⟩
  have htx0 : 0 ≤ tx ∧ tx < 9223372036854775808 := by rw [htx]; split <;> omega
  have HTX : Hid (tx = if tr < 0 then 0 else tr) := htx
  clear htx
  conv => arg 2; whnf
  unfold fr
  go_upto_region 9 with fail
  obtain ⟨wA, hwA⟩ : ∃ wA, wr.alloc (Obj.cells #[.int .i64 kd, .int .i64 tr, .int .u32 sa, .int .i64 sn, .int .i64 sv, .int .i64 sf, .int .u32 sd] 35) = wA := ⟨_, rfl⟩
  have HWA : Hid (Below wr.heap.size wr wA ∧ wA.heap.size = wr.heap.size + 1 ∧ Bx7 wr.heap.size ⟨kd, tr, sa, sn, sv, sf, sd⟩ wA ∧ wA.cell? ⟨wr.heap.size, 1, none⟩ = some (.int .i64 tr) ∧ wA.frozen? ⟨wr.heap.size, 1, none⟩ = false) := by
    rw [← hwA]
    exact ⟨(Below.refl _ wr).alloc (Nat.le_refl _) _, by simp, ⟨by simp, by simp, by simp, by simp, by simp, by simp, by simp⟩, by simp, by simp⟩
  rw [hwA]
  clear hwA c0 c1 c2 c3 c4 c5 c6 hbl
  obtain ⟨bs, hbs⟩ : ∃ bs, wr.heap.size = bs := ⟨_, rfl⟩
  have HBS : Hid (wr.heap.size = bs) := hbs
  rw [hbs] at HWA ⊢
  clear hbs
  obtain ⟨hb, hsz, hbx, ct, cf⟩ := HWA.out
  go_upto_if 55 with fail
  go_cut [] from 56 to 56 (fun wx => Bx7 bs ⟨kd, tr, sa, sn, sv, sf, sd⟩ wx ∧ wx.cell? ⟨bs, 1, none⟩ = some (.int .i64 tx) ∧ Below bs wr wx ∧ wx.heap.size = bs + 1)
  case first =>
    by_cases htr : tr < 0
    · have e : tx = 0 := by rw [HTX.out, if_pos htr]
      go_wp2_with fail
      go_meet
      exact ⟨⟨by simp [go_sem, hbx.k], by simp [go_sem, hbx.a], by simp [go_sem, hbx.n], by simp [go_sem, hbx.v], by simp [go_sem, hbx.f], by simp [go_sem, hbx.d], by simpa using hbx.lt⟩, by rw [e]; simp [go_sem, ct], hb.setCell (p := ⟨bs, 1, none⟩) (Nat.le_refl _) _, by simpa using hsz⟩
    · have e : tx = tr := by rw [HTX.out, if_neg htr]
      go_wp2_with fail
      go_meet
      exact ⟨hbx, by rw [e]; exact ct, hb, hsz⟩
  case rest =>
    obtain ⟨hbx', ct', hb', hsz'⟩ := hcut
    have HSTc : Hid (St w.heap.size w (keys (ss.take (k + 1))) ts ts bts bks (.slice (some ⟨gt, 0, none⟩) n cT) (.slice (some ⟨gb, 0, none⟩) n cb) wc) := (HST.out.below (by rw [HBS.out]; exact hb')).keys hkd
    have HBX : Hid (Bx7 bs ⟨kd, tr, sa, sn, sv, sf, sd⟩ wc) := hbx'
    have HSZ : Hid (wc.heap.size = bs + 1) := hsz'
    have HGB : Hid (gt < bs ∧ gb < bs) := by rw [← HBS.out]; exact ⟨(HST.out.ot.row.lt gt rfl).2, (HST.out.ob.row.lt gb rfl).2⟩
    have HLT : Hid (∀ b ∈ bts, b < bs) := fun b hb => by rw [← HBS.out]; exact HST.out.lt hb
    clear hbx' hb' HST HWA hb hsz hbx ct cf HTX
    have hn0 : 0 < n := by rw [← HN.out]; exact HSTc.out.pos
    have hn12 : n ≤ 12 := by rw [← HN.out]; exact HSTc.out.few
    obtain ⟨q, hq⟩ : ∃ q : Nat, tx.tmod (n : Int) = (q : Int) := ⟨(tx.tmod (n : Int)).toNat, by rw [Int.toNat_of_nonneg (Int.tmod_nonneg _ htx0.1)]⟩
    have hqn : q < n := by
      have := Int.tmod_lt_of_pos tx (b := (n : Int)) (by omega)
      omega
    have hqi : (q : Int) < n := by omega
    have hq0 : (0 : Int) ≤ q := by omega
    have hni : (0 : Int) < n := by omega
    have hqb : q < bts.length := by rw [HSTc.out.l1, HN.out]; exact hqn
    have hqk : q < bks.length := by rw [HSTc.out.l2, HN.out]; exact hqn
    have hqt : q < ts.length := by rw [HN.out]; exact hqn
    obtain ⟨bt, hbt⟩ : ∃ bt, bts[q] = bt := ⟨_, rfl⟩
    obtain ⟨bk, hbk⟩ : ∃ bk, bks[q] = bk := ⟨_, rfl⟩
    have HBT : Hid (bts[q] = bt) := hbt
    have HBK : Hid (bks[q] = bk) := hbk
    have hbtb : bt < bs := by rw [← hbt]; exact HLT.out _ (List.getElem_mem hqb)
    have d0 : wc.cell? ⟨gt, q, none⟩ = some (.pointer (some ⟨bt, 0, none⟩)) := by
      have := HSTc.out.ot.at0.1 q hqb 0 (by decide)
      rw [hbt] at this; simpa [EP] using this
    have d1 : wc.cell? ⟨gb, q, none⟩ = some (.slice bk.1 bk.2.1 bk.2.2) := by
      have := HSTc.out.ob.at0.1 q hqk 0 (by decide)
      rw [hbk] at this; simpa [EB] using this
    have d0a : ∀ ob, (wc.alloc ob).cell? ⟨gt, q, none⟩ = some (.pointer (some ⟨bt, 0, none⟩)) := fun ob => cell_bel d0 ((Below.refl _ wc).alloc (Nat.le_refl _) _)
    have d1a : ∀ ob, (wc.alloc ob).cell? ⟨gb, q, none⟩ = some (.slice bk.1 bk.2.1 bk.2.2) := fun ob => cell_bel d1 ((Below.refl _ wc).alloc (Nat.le_refl _) _)
    clear hbt hbk
    go_wp2_with fail
    go_region
    go_upto_region 14 with fail
    obtain ⟨bka, bkl, bkc⟩ := bk
    dsimp only
    obtain ⟨wD, hwD⟩ : ∃ wD, (wc.alloc (Obj.cells #[.slice bka bkl bkc] 28)).drew = wD := ⟨_, rfl⟩
    have hbD : Below wc.heap.size wc wD := by rw [← hwD]; exact ((Below.refl _ wc).alloc (Nat.le_refl _) _).drew
    have HBC : Hid (wD.cell? ⟨bs + 1, 0, none⟩ = some (.slice bka bkl bkc) ∧ bs + 1 < wD.heap.size) := by
      rw [← hwD, ← HSZ.out]
      exact ⟨by simp [go_sem], by simp⟩
    have HSD : Hid (St w.heap.size w (keys (ss.take (k + 1))) ts ts bts bks (.slice (some ⟨gt, 0, none⟩) n cT) (.slice (some ⟨gb, 0, none⟩) n cb) wD) := HSTc.out.below hbD
    have HBD : Hid (Bx7 bs ⟨kd, tr, sa, sn, sv, sf, sd⟩ wD) := HBX.out.below hbD
    have HC1 : Hid (wD.cell? ⟨bs, 1, none⟩ = some (.int .i64 tx)) := cell_bel ct' hbD
    first | rw [hwD] | rw [HSZ.out, hwD]
    clear hwD hbD HBX HSTc HSZ d0 d1 d0a d1a ct'
    obtain ⟨T, hT⟩ : ∃ T, ts[q] = T := ⟨_, rfl⟩
    have HT : Hid (ts[q] = T) := hT
    have HH : Hid (HoldsN (okL bts (.slice (some ⟨gt, 0, none⟩) n cT) (.slice (some ⟨gb, 0, none⟩) n cb)) wD bt T) := by have := HSD.out.ho q hqb hqt; rw [hT, HBT.out] at this; exact this
    have HBO : Hid (Bo (okL bts (.slice (some ⟨gt, 0, none⟩) n cT) (.slice (some ⟨gb, 0, none⟩) n cb)) wD (bka, bkl, bkc) (allT T)) := by have := HSD.out.bo q hqk hqt; rw [hT, HBK.out] at this; exact this
    have HG : Hid (Gd (keys (ss.take (k + 1))) T) := by rw [← hT]; exact HSD.out.gt _ (List.getElem_mem hqt)
    have HK1 : Hid ((keys (ss.take (k + 1))).length ≤ 1099511627776) := keys_le hk hbig
    have hkl : bkl = (allT T).length := HBO.out.len
    have hlen : (allT T).length ≤ 1099511627776 := Nat.le_trans HG.out.len HK1.out
    have e0 := HBD.out.k
    have e2 := HBD.out.a
    have e3 := HBD.out.n
    have e4 := HBD.out.v
    have e5 := HBD.out.f
    have e6 := HBD.out.d
    have e7 := HBC.out.1
    have hki : (k : Int) + 1 = ((k + 1 : Nat) : Int) := by omega
    have HKI : Hid ((k : Int) + 1 = ((k + 1 : Nat) : Int)) := hki
    dsimp only at e0 e2 e3 e4 e5 e6
    clear hT hki
    obtain rfl := HKD.out
    subst hkl
    obtain ⟨r, hr⟩ : ∃ r, TrM.look T sa sn = r := ⟨_, rfl⟩
    have HR : Hid (TrM.look T sa sn = r ∧ bget sa sn (allT T) = r) := ⟨hr, (bget_allT HG.out.wf sa sn).trans hr⟩
    clear hr
    have harr := HBO.out.arr
    obtain ⟨T2, hT2⟩ : ∃ T2, (del T sa sn).1 = T2 := ⟨_, rfl⟩
    have HT2 : Hid ((del T sa sn).1 = T2) := hT2
    have hg2 : Gd (keys (ss.take (k + 1))) T2 := by
      rw [← hT2]
      exact HG.out.del
    have hal : allT T2 = bp sa sn 0 true (allT T) := by rw [← hT2]; exact all_del HG.out.wf sa sn
    clear hT2
    go_wp2_with fail
    refine (Bk.bget_any bka bkc (allT T) sa sn wD (to_bk harr) r HR.out.2).mono ?_
    rintro e wE ⟨rfl, hbE⟩
    have f0 := cell_bel e0 hbE
    have f2 := cell_bel e2 hbE
    have f3 := cell_bel e3 hbE
    have f4 := cell_bel e4 hbE
    have f7 := cell_bel e7 hbE
    have HSE : Hid (St w.heap.size w (keys (ss.take (k + 1))) ts ts bts bks (.slice (some ⟨gt, 0, none⟩) n cT) (.slice (some ⟨gb, 0, none⟩) n cb) wE) := HSD.out.below hbE
    have HBE : Hid (Bx7 bs ⟨1, tr, sa, sn, sv, sf, sd⟩ wE) := HBD.out.below hbE
    have HCE : Hid (wE.cell? ⟨bs + 1, 0, none⟩ = some (.slice bka (allT T).length bkc) ∧ bs + 1 < wE.heap.size) := ⟨f7, Nat.lt_of_lt_of_le HBC.out.2 hbE.size⟩
    clear hbE harr
    go_wp2_with fail
    have hnk : ¬ okL bts (.slice (some ⟨gt, 0, none⟩) n cT) (.slice (some ⟨gb, 0, none⟩) n cb) bt := by have := HSE.out.nok hqb; rw [HBT.out] at this; exact this
    have hhE := HSE.out.ho q hqb hqt
    rw [HBT.out, HT.out] at hhE
    refine (drop_n _ bt T sa sn wE hhE hnk HSE.out.new HG.out.wf hoa.1 hoa.2 hlen).mono ?_
    rw [HR.out.1, HT2.out]
    rintro e wF ⟨rfl, hbut, hhF⟩
    have hbtlt : bt < wE.heap.size := hhE.lt
    have hbtne : bs ≠ bt ∧ bs + 1 ≠ bt := by omega
    have f0 := (hbut.cell (b := bs) 0 HBE.out.lt hbtne.1).trans f0
    have f2 := (hbut.cell (b := bs) 2 HBE.out.lt hbtne.1).trans f2
    have f3 := (hbut.cell (b := bs) 3 HBE.out.lt hbtne.1).trans f3
    have f4 := (hbut.cell (b := bs) 4 HBE.out.lt hbtne.1).trans f4
    have f7 := (hbut.cell (b := bs + 1) 0 HCE.out.2 hbtne.2).trans f7
    have hSF := HSE.out.turn hqb (T := T2) hg2 (by rw [HBT.out]; exact belX_of_but (Nat.le_refl _) hbut) (by rw [HBT.out]; exact hhF)
    have HSF : Hid (St w.heap.size w (keys (ss.take (k + 1))) (ts.set q T2) ts bts bks (.slice (some ⟨gt, 0, none⟩) n cT) (.slice (some ⟨gb, 0, none⟩) n cb) wF) := hSF
    have hbo := hSF.bo q hqk hqt
    rw [HT.out, HBK.out] at hbo
    have harr : Arr3 wF bka (allT T) := hbo.arr
    have hbk1 := hbo.ok
    clear hbo hSF hbut hhF hhE hnk
    generalize r.getD 0 = rv at *
    generalize r.isSome = rb at *
    go_wp2_with fail
    refine (Bk.bdrop_any bka bkc (allT T) sa sn wF (to_bk harr) (by omega)).mono ?_
    rintro e wG ⟨xa, xc, he, hxa, hbG, hxo⟩
    rw [← hal] at he hxa
    skip
    have HSG : Hid (St w.heap.size w (keys (ss.take (k + 1))) (ts.set q T2) ts bts bks (.slice (some ⟨gt, 0, none⟩) n cT) (.slice (some ⟨gb, 0, none⟩) n cb) wG) := HSF.out.below hbG
    have hBo : Bo (okL bts (.slice (some ⟨gt, 0, none⟩) n cT) (.slice (some ⟨gb, 0, none⟩) n cb)) wG (xa, (allT T2).length, xc) (allT T2) := ⟨rfl, of_bk hxa, fun hp b o e => HSF.out.new b (hxo b o e)⟩
    have HSH : Hid (St w.heap.size w (keys (ss.take (k + 1))) (ts.set q T2) (ts.set q T2) bts (bks.set q (xa, (allT T2).length, xc)) (.slice (some ⟨gt, 0, none⟩) n cT) (.slice (some ⟨gb, 0, none⟩) n cb) (wG.setCell ⟨gb, q, none⟩ (.slice xa (allT T2).length xc))) := HSG.out.book hqk hg2 hBo
    subst he
    have h0 : wG.cell? ⟨gb, q, none⟩ = some (.slice bka (allT T).length bkc) := by
      have := HSG.out.ob.at0.1 q hqk 0 (by decide)
      rw [HBK.out] at this; simpa [EB] using this
    have h1 := HSG.out.ob.at0.2.1 q
    clear HSG HSF hBo hxa hxo hbG f0 f2 f3 f4 f7 harr hal HT2 HSE HSD
    generalize (allT T2).length = lt2 at *
    go_wp2_with fail
    rw [HKI.out]
    exact wi_end fr_mk (Nat.lt_succ_self k) hk ⟨_, bts, _, HSH.out⟩
end Go.Proofs.Ytibmhdfodmkahaa.Tu
namespace Go.Proofs.Ytibmhdfodmkahaa.Tu
open Go.ChangeShapes Go.WideShapes Go.ChangeAt Go.RowKit Go.Joins Go.Proofs.Ytibmhdfodmkahaa.PM Go.Proofs.Ytibmhdfodmkahaa.TrM Go.Proofs.Ytibmhdfodmkahaa.Ask Go.Proofs.Ytibmhdfodmkahaa.Tri
set_option linter.unusedVariables false
set_option linter.unusedSimpArgs false

set_option maxRecDepth 1000000 in
set_option maxHeartbeats 16000000 in
theorem case_2 {w wr : World} {ss : List Sp} {L k cap : Nat} {va : Option Addr} {ts : List Tr} {bts : List Nat} {bks : List Bs} {gt gb n cT cb : Nat} {U : Nat → Value} (hL : ss.length = L) (hbig : L ≤ 1048576) (hk : k < L) (hkd : k < ss.length) (H : Ge.Lst ES w va ss) (s : Sp) (hs : ss[k] = s) (hok : SpOk s)
    (hst : St w.heap.size w (keys (ss.take k)) ts ts bts bks (.slice (some ⟨gt, 0, none⟩) n cT) (.slice (some ⟨gb, 0, none⟩) n cb) wr) (hn : ts.length = n) (hkind : s.kind = 2) :
    Code.wp Try.prog body (Exit.then (fun a' w'' => WI w ss va L cap a' w'' ∧ Wmu L a' w'' < L - k) (QX w ss va L cap)) ⟨fr U va L cap (.slice (some ⟨gt, 0, none⟩) n cT) (.slice (some ⟨gb, 0, none⟩) n cb) (.int .i64 (k : Int)), []⟩ wr := by
  have HL : Hid (ss.length = L) := hL
  have HN : Hid (ts.length = n) := hn
  have HST : Hid (St w.heap.size w (keys (ss.take k)) ts ts bts bks (.slice (some ⟨gt, 0, none⟩) n cT) (.slice (some ⟨gb, 0, none⟩) n cb) wr) := hst
  obtain ⟨b, o, e, hbl, hc⟩ := (H.bel (hst.bel.mono (by have := hst.nsz; omega))).cells k hkd
  subst e
  have c0 := hc 0 (by decide)
  have c1 := hc 1 (by decide)
  have c2 := hc 2 (by decide)
  have c3 := hc 3 (by decide)
  have c4 := hc 4 (by decide)
  have c5 := hc 5 (by decide)
  have c6 := hc 6 (by decide)
  have HS : Hid (ss[k] = s) := hs
  rw [hs] at c0 c1 c2 c3 c4 c5 c6
  simp only [ES, spL, List.getElem?_cons_zero, List.getElem?_cons_succ, Nat.add_zero] at c0 c1 c2 c3 c4 c5 c6
  have hkk : (k : Int) < L := by omega
  have kk0 : (0 : Int) ≤ k := by omega
  clear hc hs hst hn hL
  obtain ⟨kd, tr, sa, sn, sv, sf, sd⟩ := s
  obtain ⟨hoa, hod, hot⟩ := hok
  dsimp only at hkind hoa hod hot c0 c1 c2 c3 c4 c5 c6
  have HKD : Hid (kd = 2) := hkind
  clear hkind
  obtain ⟨tx, htx⟩ : ∃ tx : Int, tx = if tr < 0 then 0 else tr := ⟨_, rfl⟩
  have htx0 : 0 ≤ tx ∧ tx < 9223372036854775808 := by rw [htx]; split <;> omega
  have HTX : Hid (tx = if tr < 0 then 0 else tr) := htx
  clear htx
  conv => arg 2; whnf
  unfold fr
  go_upto_region 9 with fail
  obtain ⟨wA, hwA⟩ : ∃ wA, wr.alloc (Obj.cells #[.int .i64 kd, .int .i64 tr, .int .u32 sa, .int .i64 sn, .int .i64 sv, .int .i64 sf, .int .u32 sd] 35) = wA := ⟨_, rfl⟩
  have HWA : Hid (Below wr.heap.size wr wA ∧ wA.heap.size = wr.heap.size + 1 ∧ Bx7 wr.heap.size ⟨kd, tr, sa, sn, sv, sf, sd⟩ wA ∧ wA.cell? ⟨wr.heap.size, 1, none⟩ = some (.int .i64 tr) ∧ wA.frozen? ⟨wr.heap.size, 1, none⟩ = false) := by
    rw [← hwA]
    exact ⟨(Below.refl _ wr).alloc (Nat.le_refl _) _, by simp, ⟨by simp, by simp, by simp, by simp, by simp, by simp, by simp⟩, by simp, by simp⟩
  rw [hwA]
  clear hwA c0 c1 c2 c3 c4 c5 c6 hbl
  obtain ⟨bs, hbs⟩ : ∃ bs, wr.heap.size = bs := ⟨_, rfl⟩
  have HBS : Hid (wr.heap.size = bs) := hbs
  rw [hbs] at HWA ⊢
  clear hbs
  obtain ⟨hb, hsz, hbx, ct, cf⟩ := HWA.out
  go_upto_if 55 with fail
  go_cut [] from 56 to 56 (fun wx => Bx7 bs ⟨kd, tr, sa, sn, sv, sf, sd⟩ wx ∧ wx.cell? ⟨bs, 1, none⟩ = some (.int .i64 tx) ∧ Below bs wr wx ∧ wx.heap.size = bs + 1)
  case first =>
    by_cases htr : tr < 0
    · have e : tx = 0 := by rw [HTX.out, if_pos htr]
      go_wp2_with fail
      go_meet
      exact ⟨⟨by simp [go_sem, hbx.k], by simp [go_sem, hbx.a], by simp [go_sem, hbx.n], by simp [go_sem, hbx.v], by simp [go_sem, hbx.f], by simp [go_sem, hbx.d], by simpa using hbx.lt⟩, by rw [e]; simp [go_sem, ct], hb.setCell (p := ⟨bs, 1, none⟩) (Nat.le_refl _) _, by simpa using hsz⟩
    · have e : tx = tr := by rw [HTX.out, if_neg htr]
      go_wp2_with fail
      go_meet
      exact ⟨hbx, by rw [e]; exact ct, hb, hsz⟩
  case rest =>
    obtain ⟨hbx', ct', hb', hsz'⟩ := hcut
    have HSTc : Hid (St w.heap.size w (keys (ss.take (k + 1))) ts ts bts bks (.slice (some ⟨gt, 0, none⟩) n cT) (.slice (some ⟨gb, 0, none⟩) n cb) wc) := (HST.out.below (by rw [HBS.out]; exact hb')).keys hkd
    have HBX : Hid (Bx7 bs ⟨kd, tr, sa, sn, sv, sf, sd⟩ wc) := hbx'
    have HSZ : Hid (wc.heap.size = bs + 1) := hsz'
    have HGB : Hid (gt < bs ∧ gb < bs) := by rw [← HBS.out]; exact ⟨(HST.out.ot.row.lt gt rfl).2, (HST.out.ob.row.lt gb rfl).2⟩
    have HLT : Hid (∀ b ∈ bts, b < bs) := fun b hb => by rw [← HBS.out]; exact HST.out.lt hb
    clear hbx' hb' HST HWA hb hsz hbx ct cf HTX
    have hn0 : 0 < n := by rw [← HN.out]; exact HSTc.out.pos
    have hn12 : n ≤ 12 := by rw [← HN.out]; exact HSTc.out.few
    obtain ⟨q, hq⟩ : ∃ q : Nat, tx.tmod (n : Int) = (q : Int) := ⟨(tx.tmod (n : Int)).toNat, by rw [Int.toNat_of_nonneg (Int.tmod_nonneg _ htx0.1)]⟩
    have hqn : q < n := by
      have := Int.tmod_lt_of_pos tx (b := (n : Int)) (by omega)
      omega
    have hqi : (q : Int) < n := by omega
    have hq0 : (0 : Int) ≤ q := by omega
    have hni : (0 : Int) < n := by omega
    have hqb : q < bts.length := by rw [HSTc.out.l1, HN.out]; exact hqn
    have hqk : q < bks.length := by rw [HSTc.out.l2, HN.out]; exact hqn
    have hqt : q < ts.length := by rw [HN.out]; exact hqn
    obtain ⟨bt, hbt⟩ : ∃ bt, bts[q] = bt := ⟨_, rfl⟩
    obtain ⟨bk, hbk⟩ : ∃ bk, bks[q] = bk := ⟨_, rfl⟩
    have HBT : Hid (bts[q] = bt) := hbt
    have HBK : Hid (bks[q] = bk) := hbk
    have hbtb : bt < bs := by rw [← hbt]; exact HLT.out _ (List.getElem_mem hqb)
    have d0 : wc.cell? ⟨gt, q, none⟩ = some (.pointer (some ⟨bt, 0, none⟩)) := by
      have := HSTc.out.ot.at0.1 q hqb 0 (by decide)
      rw [hbt] at this; simpa [EP] using this
    have d1 : wc.cell? ⟨gb, q, none⟩ = some (.slice bk.1 bk.2.1 bk.2.2) := by
      have := HSTc.out.ob.at0.1 q hqk 0 (by decide)
      rw [hbk] at this; simpa [EB] using this
    have d0a : ∀ ob, (wc.alloc ob).cell? ⟨gt, q, none⟩ = some (.pointer (some ⟨bt, 0, none⟩)) := fun ob => cell_bel d0 ((Below.refl _ wc).alloc (Nat.le_refl _) _)
    have d1a : ∀ ob, (wc.alloc ob).cell? ⟨gb, q, none⟩ = some (.slice bk.1 bk.2.1 bk.2.2) := fun ob => cell_bel d1 ((Below.refl _ wc).alloc (Nat.le_refl _) _)
    clear hbt hbk
    go_wp2_with fail
    go_region
    go_upto_region 14 with fail
    obtain ⟨bka, bkl, bkc⟩ := bk
    dsimp only
    obtain ⟨wD, hwD⟩ : ∃ wD, (wc.alloc (Obj.cells #[.slice bka bkl bkc] 28)).drew = wD := ⟨_, rfl⟩
    have hbD : Below wc.heap.size wc wD := by rw [← hwD]; exact ((Below.refl _ wc).alloc (Nat.le_refl _) _).drew
    have HBC : Hid (wD.cell? ⟨bs + 1, 0, none⟩ = some (.slice bka bkl bkc) ∧ bs + 1 < wD.heap.size) := by
      rw [← hwD, ← HSZ.out]
      exact ⟨by simp [go_sem], by simp⟩
    have HSD : Hid (St w.heap.size w (keys (ss.take (k + 1))) ts ts bts bks (.slice (some ⟨gt, 0, none⟩) n cT) (.slice (some ⟨gb, 0, none⟩) n cb) wD) := HSTc.out.below hbD
    have HBD : Hid (Bx7 bs ⟨kd, tr, sa, sn, sv, sf, sd⟩ wD) := HBX.out.below hbD
    have HC1 : Hid (wD.cell? ⟨bs, 1, none⟩ = some (.int .i64 tx)) := cell_bel ct' hbD
    first | rw [hwD] | rw [HSZ.out, hwD]
    clear hwD hbD HBX HSTc HSZ d0 d1 d0a d1a ct'
    obtain ⟨T, hT⟩ : ∃ T, ts[q] = T := ⟨_, rfl⟩
    have HT : Hid (ts[q] = T) := hT
    have HH : Hid (HoldsN (okL bts (.slice (some ⟨gt, 0, none⟩) n cT) (.slice (some ⟨gb, 0, none⟩) n cb)) wD bt T) := by have := HSD.out.ho q hqb hqt; rw [hT, HBT.out] at this; exact this
    have HBO : Hid (Bo (okL bts (.slice (some ⟨gt, 0, none⟩) n cT) (.slice (some ⟨gb, 0, none⟩) n cb)) wD (bka, bkl, bkc) (allT T)) := by have := HSD.out.bo q hqk hqt; rw [hT, HBK.out] at this; exact this
    have HG : Hid (Gd (keys (ss.take (k + 1))) T) := by rw [← hT]; exact HSD.out.gt _ (List.getElem_mem hqt)
    have HK1 : Hid ((keys (ss.take (k + 1))).length ≤ 1099511627776) := keys_le hk hbig
    have hkl : bkl = (allT T).length := HBO.out.len
    have hlen : (allT T).length ≤ 1099511627776 := Nat.le_trans HG.out.len HK1.out
    have e0 := HBD.out.k
    have e2 := HBD.out.a
    have e3 := HBD.out.n
    have e4 := HBD.out.v
    have e5 := HBD.out.f
    have e6 := HBD.out.d
    have e7 := HBC.out.1
    have hki : (k : Int) + 1 = ((k + 1 : Nat) : Int) := by omega
    have HKI : Hid ((k : Int) + 1 = ((k + 1 : Nat) : Int)) := hki
    dsimp only at e0 e2 e3 e4 e5 e6
    clear hT hki
    obtain rfl := HKD.out
    subst hkl
    obtain ⟨pt, hht⟩ := HH.out
    have hbg := bget_allT HG.out.wf sa sn
    obtain ⟨r, hr⟩ : ∃ r, TrM.look T sa sn = r := ⟨_, rfl⟩
    have HR : Hid (TrM.look T sa sn = r ∧ bget sa sn (allT T) = r) := ⟨hr, hbg.trans hr⟩
    clear hr hbg
    go_wp2_with fail
    refine (get_any _ bt T pt _ sa sn hoa.1 hoa.2 wD hht HG.out.wf r HR.out.1).mono ?_
    rintro e wE ⟨rfl, hbE⟩
    have f2 := cell_bel e2 hbE
    have f3 := cell_bel e3 hbE
    have f7 := cell_bel e7 hbE
    have harr := (HBO.out.arr.bel hbE)
    have HARR : Hid (Bk.Arr3 wE bka (allT T)) := to_bk harr
    clear harr hht
    go_wp2_with fail
    refine (Bk.bget_any bka bkc (allT T) sa sn wE HARR.out r HR.out.2).mono ?_
    rintro e wF ⟨rfl, hbF⟩
    have hbDF : Below wD.heap.size wD wF := hbE.trans (hbF.mono hbE.size)
    generalize r.getD 0 = rv at *
    generalize r.isSome = rb at *
    clear f2 f3 f7 HARR hbE hbF
    have HSX : Hid (St w.heap.size w (keys (ss.take (k + 1))) ts ts bts bks (.slice (some ⟨gt, 0, none⟩) n cT) (.slice (some ⟨gb, 0, none⟩) n cb) wF) := HSD.out.below hbDF
    clear HSD HBD HBC HH HBO
    go_wp2_with fail
    rw [HKI.out]
    exact wi_end fr_mk (Nat.lt_succ_self k) hk ⟨ts, bts, bks, HSX.out⟩
end Go.Proofs.Ytibmhdfodmkahaa.Tu
namespace Go.Proofs.Ytibmhdfodmkahaa.Tu
open Go.ChangeShapes Go.WideShapes Go.ChangeAt Go.RowKit Go.Joins Go.Proofs.Ytibmhdfodmkahaa.PM Go.Proofs.Ytibmhdfodmkahaa.TrM Go.Proofs.Ytibmhdfodmkahaa.Ask Go.Proofs.Ytibmhdfodmkahaa.Tri
set_option linter.unusedVariables false
set_option linter.unusedSimpArgs false

set_option maxRecDepth 1000000 in
set_option maxHeartbeats 16000000 in
theorem case_3 {w wr : World} {ss : List Sp} {L k cap : Nat} {va : Option Addr} {ts : List Tr} {bts : List Nat} {bks : List Bs} {gt gb n cT cb : Nat} {U : Nat → Value} (hL : ss.length = L) (hbig : L ≤ 1048576) (hk : k < L) (hkd : k < ss.length) (H : Ge.Lst ES w va ss) (s : Sp) (hs : ss[k] = s) (hok : SpOk s)
    (hst : St w.heap.size w (keys (ss.take k)) ts ts bts bks (.slice (some ⟨gt, 0, none⟩) n cT) (.slice (some ⟨gb, 0, none⟩) n cb) wr) (hn : ts.length = n) (hkind : s.kind = 3) :
    Code.wp Try.prog body (Exit.then (fun a' w'' => WI w ss va L cap a' w'' ∧ Wmu L a' w'' < L - k) (QX w ss va L cap)) ⟨fr U va L cap (.slice (some ⟨gt, 0, none⟩) n cT) (.slice (some ⟨gb, 0, none⟩) n cb) (.int .i64 (k : Int)), []⟩ wr := by
  have HL : Hid (ss.length = L) := hL
  have HN : Hid (ts.length = n) := hn
  have HST : Hid (St w.heap.size w (keys (ss.take k)) ts ts bts bks (.slice (some ⟨gt, 0, none⟩) n cT) (.slice (some ⟨gb, 0, none⟩) n cb) wr) := hst
  obtain ⟨b, o, e, hbl, hc⟩ := (H.bel (hst.bel.mono (by have := hst.nsz; omega))).cells k hkd
  subst e
  have c0 := hc 0 (by decide)
  have c1 := hc 1 (by decide)
  have c2 := hc 2 (by decide)
  have c3 := hc 3 (by decide)
  have c4 := hc 4 (by decide)
  have c5 := hc 5 (by decide)
  have c6 := hc 6 (by decide)
  have HS : Hid (ss[k] = s) := hs
  rw [hs] at c0 c1 c2 c3 c4 c5 c6
  simp only [ES, spL, List.getElem?_cons_zero, List.getElem?_cons_succ, Nat.add_zero] at c0 c1 c2 c3 c4 c5 c6
  have hkk : (k : Int) < L := by omega
  have kk0 : (0 : Int) ≤ k := by omega
  clear hc hs hst hn hL
  obtain ⟨kd, tr, sa, sn, sv, sf, sd⟩ := s
  obtain ⟨hoa, hod, hot⟩ := hok
  dsimp only at hkind hoa hod hot c0 c1 c2 c3 c4 c5 c6
  have HKD : Hid (kd = 3) := hkind
  clear hkind
  obtain ⟨tx, htx⟩ : ∃ tx : Int, tx = if tr < 0 then 0 else tr := ⟨_, rfl⟩
  have htx0 : 0 ≤ tx ∧ tx < 9223372036854775808 := by rw [htx]; split <;> omega
  have HTX : Hid (tx = if tr < 0 then 0 else tr) := htx
  clear htx
  conv => arg 2; whnf
  unfold fr
  go_upto_region 9 with fail
  obtain ⟨wA, hwA⟩ : ∃ wA, wr.alloc (Obj.cells #[.int .i64 kd, .int .i64 tr, .int .u32 sa, .int .i64 sn, .int .i64 sv, .int .i64 sf, .int .u32 sd] 35) = wA := ⟨_, rfl⟩
  have HWA : Hid (Below wr.heap.size wr wA ∧ wA.heap.size = wr.heap.size + 1 ∧ Bx7 wr.heap.size ⟨kd, tr, sa, sn, sv, sf, sd⟩ wA ∧ wA.cell? ⟨wr.heap.size, 1, none⟩ = some (.int .i64 tr) ∧ wA.frozen? ⟨wr.heap.size, 1, none⟩ = false) := by
    rw [← hwA]
    exact ⟨(Below.refl _ wr).alloc (Nat.le_refl _) _, by simp, ⟨by simp, by simp, by simp, by simp, by simp, by simp, by simp⟩, by simp, by simp⟩
  rw [hwA]
  clear hwA c0 c1 c2 c3 c4 c5 c6 hbl
  obtain ⟨bs, hbs⟩ : ∃ bs, wr.heap.size = bs := ⟨_, rfl⟩
  have HBS : Hid (wr.heap.size = bs) := hbs
  rw [hbs] at HWA ⊢
  clear hbs
  obtain ⟨hb, hsz, hbx, ct, cf⟩ := HWA.out
  go_upto_if 55 with fail
  go_cut [] from 56 to 56 (fun wx => Bx7 bs ⟨kd, tr, sa, sn, sv, sf, sd⟩ wx ∧ wx.cell? ⟨bs, 1, none⟩ = some (.int .i64 tx) ∧ Below bs wr wx ∧ wx.heap.size = bs + 1)
  case first =>
    by_cases htr : tr < 0
    · have e : tx = 0 := by rw [HTX.out, if_pos htr]
      go_wp2_with fail
      go_meet
      exact ⟨⟨by simp [go_sem, hbx.k], by simp [go_sem, hbx.a], by simp [go_sem, hbx.n], by simp [go_sem, hbx.v], by simp [go_sem, hbx.f], by simp [go_sem, hbx.d], by simpa using hbx.lt⟩, by rw [e]; simp [go_sem, ct], hb.setCell (p := ⟨bs, 1, none⟩) (Nat.le_refl _) _, by simpa using hsz⟩
    · have e : tx = tr := by rw [HTX.out, if_neg htr]
      go_wp2_with fail
      go_meet
      exact ⟨hbx, by rw [e]; exact ct, hb, hsz⟩
  case rest =>
    obtain ⟨hbx', ct', hb', hsz'⟩ := hcut
    have HSTc : Hid (St w.heap.size w (keys (ss.take (k + 1))) ts ts bts bks (.slice (some ⟨gt, 0, none⟩) n cT) (.slice (some ⟨gb, 0, none⟩) n cb) wc) := (HST.out.below (by rw [HBS.out]; exact hb')).keys hkd
    have HBX : Hid (Bx7 bs ⟨kd, tr, sa, sn, sv, sf, sd⟩ wc) := hbx'
    have HSZ : Hid (wc.heap.size = bs + 1) := hsz'
    have HGB : Hid (gt < bs ∧ gb < bs) := by rw [← HBS.out]; exact ⟨(HST.out.ot.row.lt gt rfl).2, (HST.out.ob.row.lt gb rfl).2⟩
    have HLT : Hid (∀ b ∈ bts, b < bs) := fun b hb => by rw [← HBS.out]; exact HST.out.lt hb
    clear hbx' hb' HST HWA hb hsz hbx ct cf HTX
    have hn0 : 0 < n := by rw [← HN.out]; exact HSTc.out.pos
    have hn12 : n ≤ 12 := by rw [← HN.out]; exact HSTc.out.few
    obtain ⟨q, hq⟩ : ∃ q : Nat, tx.tmod (n : Int) = (q : Int) := ⟨(tx.tmod (n : Int)).toNat, by rw [Int.toNat_of_nonneg (Int.tmod_nonneg _ htx0.1)]⟩
    have hqn : q < n := by
      have := Int.tmod_lt_of_pos tx (b := (n : Int)) (by omega)
      omega
    have hqi : (q : Int) < n := by omega
    have hq0 : (0 : Int) ≤ q := by omega
    have hni : (0 : Int) < n := by omega
    have hqb : q < bts.length := by rw [HSTc.out.l1, HN.out]; exact hqn
    have hqk : q < bks.length := by rw [HSTc.out.l2, HN.out]; exact hqn
    have hqt : q < ts.length := by rw [HN.out]; exact hqn
    obtain ⟨bt, hbt⟩ : ∃ bt, bts[q] = bt := ⟨_, rfl⟩
    obtain ⟨bk, hbk⟩ : ∃ bk, bks[q] = bk := ⟨_, rfl⟩
    have HBT : Hid (bts[q] = bt) := hbt
    have HBK : Hid (bks[q] = bk) := hbk
    have hbtb : bt < bs := by rw [← hbt]; exact HLT.out _ (List.getElem_mem hqb)
    have d0 : wc.cell? ⟨gt, q, none⟩ = some (.pointer (some ⟨bt, 0, none⟩)) := by
      have := HSTc.out.ot.at0.1 q hqb 0 (by decide)
      rw [hbt] at this; simpa [EP] using this
    have d1 : wc.cell? ⟨gb, q, none⟩ = some (.slice bk.1 bk.2.1 bk.2.2) := by
      have := HSTc.out.ob.at0.1 q hqk 0 (by decide)
      rw [hbk] at this; simpa [EB] using this
    have d0a : ∀ ob, (wc.alloc ob).cell? ⟨gt, q, none⟩ = some (.pointer (some ⟨bt, 0, none⟩)) := fun ob => cell_bel d0 ((Below.refl _ wc).alloc (Nat.le_refl _) _)
    have d1a : ∀ ob, (wc.alloc ob).cell? ⟨gb, q, none⟩ = some (.slice bk.1 bk.2.1 bk.2.2) := fun ob => cell_bel d1 ((Below.refl _ wc).alloc (Nat.le_refl _) _)
    clear hbt hbk
    go_wp2_with fail
    go_region
    go_upto_region 14 with fail
    obtain ⟨bka, bkl, bkc⟩ := bk
    dsimp only
    obtain ⟨wD, hwD⟩ : ∃ wD, (wc.alloc (Obj.cells #[.slice bka bkl bkc] 28)).drew = wD := ⟨_, rfl⟩
    have hbD : Below wc.heap.size wc wD := by rw [← hwD]; exact ((Below.refl _ wc).alloc (Nat.le_refl _) _).drew
    have HBC : Hid (wD.cell? ⟨bs + 1, 0, none⟩ = some (.slice bka bkl bkc) ∧ bs + 1 < wD.heap.size) := by
      rw [← hwD, ← HSZ.out]
      exact ⟨by simp [go_sem], by simp⟩
    have HSD : Hid (St w.heap.size w (keys (ss.take (k + 1))) ts ts bts bks (.slice (some ⟨gt, 0, none⟩) n cT) (.slice (some ⟨gb, 0, none⟩) n cb) wD) := HSTc.out.below hbD
    have HBD : Hid (Bx7 bs ⟨kd, tr, sa, sn, sv, sf, sd⟩ wD) := HBX.out.below hbD
    have HC1 : Hid (wD.cell? ⟨bs, 1, none⟩ = some (.int .i64 tx)) := cell_bel ct' hbD
    first | rw [hwD] | rw [HSZ.out, hwD]
    clear hwD hbD HBX HSTc HSZ d0 d1 d0a d1a ct'
    obtain ⟨T, hT⟩ : ∃ T, ts[q] = T := ⟨_, rfl⟩
    have HT : Hid (ts[q] = T) := hT
    have HH : Hid (HoldsN (okL bts (.slice (some ⟨gt, 0, none⟩) n cT) (.slice (some ⟨gb, 0, none⟩) n cb)) wD bt T) := by have := HSD.out.ho q hqb hqt; rw [hT, HBT.out] at this; exact this
    have HBO : Hid (Bo (okL bts (.slice (some ⟨gt, 0, none⟩) n cT) (.slice (some ⟨gb, 0, none⟩) n cb)) wD (bka, bkl, bkc) (allT T)) := by have := HSD.out.bo q hqk hqt; rw [hT, HBK.out] at this; exact this
    have HG : Hid (Gd (keys (ss.take (k + 1))) T) := by rw [← hT]; exact HSD.out.gt _ (List.getElem_mem hqt)
    have HK1 : Hid ((keys (ss.take (k + 1))).length ≤ 1099511627776) := keys_le hk hbig
    have hkl : bkl = (allT T).length := HBO.out.len
    have hlen : (allT T).length ≤ 1099511627776 := Nat.le_trans HG.out.len HK1.out
    have e0 := HBD.out.k
    have e2 := HBD.out.a
    have e3 := HBD.out.n
    have e4 := HBD.out.v
    have e5 := HBD.out.f
    have e6 := HBD.out.d
    have e7 := HBC.out.1
    have hki : (k : Int) + 1 = ((k + 1 : Nat) : Int) := by omega
    have HKI : Hid ((k : Int) + 1 = ((k + 1 : Nat) : Int)) := hki
    dsimp only at e0 e2 e3 e4 e5 e6
    clear hT hki
    obtain rfl := HKD.out
    subst hkl
    obtain ⟨pt, hht⟩ := HH.out
    have hbg := bm_allT HG.out.wf sd
    obtain ⟨r, hr⟩ : ∃ r, mt T sd none = r := ⟨_, rfl⟩
    have HR : Hid (mt T sd none = r ∧ bm sd none (allT T) = r) := ⟨hr, hbg.trans hr⟩
    clear hr hbg
    go_wp2_with fail
    refine (match_any _ bt T pt _ sd hod.1 hod.2 wD hht HG.out.wf r HR.out.1).mono ?_
    rintro e wE ⟨rfl, hbE⟩
    have f6 := cell_bel e6 hbE
    have f7 := cell_bel e7 hbE
    have harr := (HBO.out.arr.bel hbE)
    have HBM : Hid (∀ W, Below wE.heap.size wE W → Calls Try.prog 19 #[.agg #[.slice bka (allT T).length bkc], .int .u32 sd] W fun e w' => e = .returned (.tuple #[.agg #[.int .u32 (mA r), .int .i64 (mN r), .int .i64 (mV r)], .bool r.isSome]) ∧ Below W.heap.size W w') := fun W hW => Bk.bmatch_any bka bkc (allT T) sd hod.1 hod.2 W (to_bk (harr.bel hW)) r HR.out.2
    clear harr hht HR HH
    generalize mA r = ra at *
    generalize mN r = rn at *
    generalize mV r = rv at *
    generalize r.isSome = rb at *
    go_upto_region 32 with fail
    obtain ⟨wG, hwG⟩ : ∃ wG, wE.alloc (Obj.cells #[.int .u32 ra, .int .i64 rn] 33) = wG := ⟨_, rfl⟩
    have hbG : Below wE.heap.size wE wG := by rw [← hwG]; exact (Below.refl _ wE).alloc (Nat.le_refl _) _
    have g0 : wG.cell? ⟨wE.heap.size, 0, none⟩ = some (.int .u32 ra) := by rw [← hwG]; simp
    have g1 : wG.cell? ⟨wE.heap.size, 1, none⟩ = some (.int .i64 rn) := by rw [← hwG]; simp
    rw [hwG]
    clear hwG
    replace f6 := cell_bel f6 hbG
    replace f7 := cell_bel f7 hbG
    go_wp2_with fail
    refine (HBM.out wG hbG).mono ?_
    rintro e wF ⟨rfl, hbF⟩
    have g0a : ∀ ob, (wF.alloc ob).cell? ⟨wE.heap.size, 0, none⟩ = some (.int .u32 ra) := fun ob => cell_bel (cell_bel g0 hbF) ((Below.refl _ wF).alloc (Nat.le_refl _) _)
    have g1a : ∀ ob, (wF.alloc ob).cell? ⟨wE.heap.size, 1, none⟩ = some (.int .i64 rn) := fun ob => cell_bel (cell_bel g1 hbF) ((Below.refl _ wF).alloc (Nat.le_refl _) _)
    have hbDF : Below wD.heap.size wD wF := hbE.trans ((hbG.trans (hbF.mono hbG.size)).mono hbE.size)
    clear HBM f6 f7 g0 g1 hbG hbF
    have HSX : Hid (St w.heap.size w (keys (ss.take (k + 1))) ts ts bts bks (.slice (some ⟨gt, 0, none⟩) n cT) (.slice (some ⟨gb, 0, none⟩) n cb) wF) := HSD.out.below hbDF
    clear HSD HBD HBC HBO hbDF hbE
    go_wp2_with fail
    rw [HKI.out]
    exact wi_end fr_mk (Nat.lt_succ_self k) hk ⟨ts, bts, bks, HSX.out.below ((Below.refl _ wF).alloc (Nat.le_refl _) _)⟩
end Go.Proofs.Ytibmhdfodmkahaa.Tu
namespace Go.Proofs.Ytibmhdfodmkahaa.Tu
open Go.ChangeShapes Go.WideShapes Go.ChangeAt Go.RowKit Go.Joins Go.Proofs.Ytibmhdfodmkahaa.PM Go.Proofs.Ytibmhdfodmkahaa.TrM Go.Proofs.Ytibmhdfodmkahaa.Ask Go.Proofs.Ytibmhdfodmkahaa.Tri
set_option linter.unusedVariables false
set_option linter.unusedSimpArgs false

set_option maxRecDepth 1000000 in
set_option maxHeartbeats 16000000 in
theorem case_4 {w wr : World} {ss : List Sp} {L k cap : Nat} {va : Option Addr} {ts : List Tr} {bts : List Nat} {bks : List Bs} {gt gb n cT cb : Nat} {U : Nat → Value} (hL : ss.length = L) (hbig : L ≤ 1048576) (hk : k < L) (hkd : k < ss.length) (H : Ge.Lst ES w va ss) (s : Sp) (hs : ss[k] = s) (hok : SpOk s)
    (hst : St w.heap.size w (keys (ss.take k)) ts ts bts bks (.slice (some ⟨gt, 0, none⟩) n cT) (.slice (some ⟨gb, 0, none⟩) n cb) wr) (hn : ts.length = n) (hkind : s.kind = 4) :
    Code.wp Try.prog body (Exit.then (fun a' w'' => WI w ss va L cap a' w'' ∧ Wmu L a' w'' < L - k) (QX w ss va L cap)) ⟨fr U va L cap (.slice (some ⟨gt, 0, none⟩) n cT) (.slice (some ⟨gb, 0, none⟩) n cb) (.int .i64 (k : Int)), []⟩ wr := by
  have HL : Hid (ss.length = L) := hL
  have HN : Hid (ts.length = n) := hn
  have HST : Hid (St w.heap.size w (keys (ss.take k)) ts ts bts bks (.slice (some ⟨gt, 0, none⟩) n cT) (.slice (some ⟨gb, 0, none⟩) n cb) wr) := hst
  obtain ⟨b, o, e, hbl, hc⟩ := (H.bel (hst.bel.mono (by have := hst.nsz; omega))).cells k hkd
  subst e
  have c0 := hc 0 (by decide)
  have c1 := hc 1 (by decide)
  have c2 := hc 2 (by decide)
  have c3 := hc 3 (by decide)
  have c4 := hc 4 (by decide)
  have c5 := hc 5 (by decide)
  have c6 := hc 6 (by decide)
  have HS : Hid (ss[k] = s) := hs
  rw [hs] at c0 c1 c2 c3 c4 c5 c6
  simp only [ES, spL, List.getElem?_cons_zero, List.getElem?_cons_succ, Nat.add_zero] at c0 c1 c2 c3 c4 c5 c6
  have hkk : (k : Int) < L := by omega
  have kk0 : (0 : Int) ≤ k := by omega
  clear hc hs hst hn hL
  obtain ⟨kd, tr, sa, sn, sv, sf, sd⟩ := s
  obtain ⟨hoa, hod, hot⟩ := hok
  dsimp only at hkind hoa hod hot c0 c1 c2 c3 c4 c5 c6
  have HKD : Hid (kd = 4) := hkind
  clear hkind
  obtain ⟨tx, htx⟩ : ∃ tx : Int, tx = if tr < 0 then 0 else tr := ⟨_, rfl⟩
  have htx0 : 0 ≤ tx ∧ tx < 9223372036854775808 := by rw [htx]; split <;> omega
  have HTX : Hid (tx = if tr < 0 then 0 else tr) := htx
  clear htx
  conv => arg 2; whnf
  unfold fr
  go_upto_region 9 with fail
  obtain ⟨wA, hwA⟩ : ∃ wA, wr.alloc (Obj.cells #[.int .i64 kd, .int .i64 tr, .int .u32 sa, .int .i64 sn, .int .i64 sv, .int .i64 sf, .int .u32 sd] 35) = wA := ⟨_, rfl⟩
  have HWA : Hid (Below wr.heap.size wr wA ∧ wA.heap.size = wr.heap.size + 1 ∧ Bx7 wr.heap.size ⟨kd, tr, sa, sn, sv, sf, sd⟩ wA ∧ wA.cell? ⟨wr.heap.size, 1, none⟩ = some (.int .i64 tr) ∧ wA.frozen? ⟨wr.heap.size, 1, none⟩ = false) := by
    rw [← hwA]
    exact ⟨(Below.refl _ wr).alloc (Nat.le_refl _) _, by simp, ⟨by simp, by simp, by simp, by simp, by simp, by simp, by simp⟩, by simp, by simp⟩
  rw [hwA]
  clear hwA c0 c1 c2 c3 c4 c5 c6 hbl
  obtain ⟨bs, hbs⟩ : ∃ bs, wr.heap.size = bs := ⟨_, rfl⟩
  have HBS : Hid (wr.heap.size = bs) := hbs
  rw [hbs] at HWA ⊢
  clear hbs
  obtain ⟨hb, hsz, hbx, ct, cf⟩ := HWA.out
  go_upto_if 55 with fail
  go_cut [] from 56 to 56 (fun wx => Bx7 bs ⟨kd, tr, sa, sn, sv, sf, sd⟩ wx ∧ wx.cell? ⟨bs, 1, none⟩ = some (.int .i64 tx) ∧ Below bs wr wx ∧ wx.heap.size = bs + 1)
  case first =>
    by_cases htr : tr < 0
    · have e : tx = 0 := by rw [HTX.out, if_pos htr]
      go_wp2_with fail
      go_meet
      exact ⟨⟨by simp [go_sem, hbx.k], by simp [go_sem, hbx.a], by simp [go_sem, hbx.n], by simp [go_sem, hbx.v], by simp [go_sem, hbx.f], by simp [go_sem, hbx.d], by simpa using hbx.lt⟩, by rw [e]; simp [go_sem, ct], hb.setCell (p := ⟨bs, 1, none⟩) (Nat.le_refl _) _, by simpa using hsz⟩
    · have e : tx = tr := by rw [HTX.out, if_neg htr]
      go_wp2_with fail
      go_meet
      exact ⟨hbx, by rw [e]; exact ct, hb, hsz⟩
  case rest =>
    obtain ⟨hbx', ct', hb', hsz'⟩ := hcut
    have HSTc : Hid (St w.heap.size w (keys (ss.take (k + 1))) ts ts bts bks (.slice (some ⟨gt, 0, none⟩) n cT) (.slice (some ⟨gb, 0, none⟩) n cb) wc) := (HST.out.below (by rw [HBS.out]; exact hb')).keys hkd
    have HBX : Hid (Bx7 bs ⟨kd, tr, sa, sn, sv, sf, sd⟩ wc) := hbx'
    have HSZ : Hid (wc.heap.size = bs + 1) := hsz'
    have HGB : Hid (gt < bs ∧ gb < bs) := by rw [← HBS.out]; exact ⟨(HST.out.ot.row.lt gt rfl).2, (HST.out.ob.row.lt gb rfl).2⟩
    have HLT : Hid (∀ b ∈ bts, b < bs) := fun b hb => by rw [← HBS.out]; exact HST.out.lt hb
    clear hbx' hb' HST HWA hb hsz hbx ct cf HTX
    have hn0 : 0 < n := by rw [← HN.out]; exact HSTc.out.pos
    have hn12 : n ≤ 12 := by rw [← HN.out]; exact HSTc.out.few
    obtain ⟨q, hq⟩ : ∃ q : Nat, tx.tmod (n : Int) = (q : Int) := ⟨(tx.tmod (n : Int)).toNat, by rw [Int.toNat_of_nonneg (Int.tmod_nonneg _ htx0.1)]⟩
    have hqn : q < n := by
      have := Int.tmod_lt_of_pos tx (b := (n : Int)) (by omega)
      omega
    have hqi : (q : Int) < n := by omega
    have hq0 : (0 : Int) ≤ q := by omega
    have hni : (0 : Int) < n := by omega
    have hqb : q < bts.length := by rw [HSTc.out.l1, HN.out]; exact hqn
    have hqk : q < bks.length := by rw [HSTc.out.l2, HN.out]; exact hqn
    have hqt : q < ts.length := by rw [HN.out]; exact hqn
    obtain ⟨bt, hbt⟩ : ∃ bt, bts[q] = bt := ⟨_, rfl⟩
    obtain ⟨bk, hbk⟩ : ∃ bk, bks[q] = bk := ⟨_, rfl⟩
    have HBT : Hid (bts[q] = bt) := hbt
    have HBK : Hid (bks[q] = bk) := hbk
    have hbtb : bt < bs := by rw [← hbt]; exact HLT.out _ (List.getElem_mem hqb)
    have d0 : wc.cell? ⟨gt, q, none⟩ = some (.pointer (some ⟨bt, 0, none⟩)) := by
      have := HSTc.out.ot.at0.1 q hqb 0 (by decide)
      rw [hbt] at this; simpa [EP] using this
    have d1 : wc.cell? ⟨gb, q, none⟩ = some (.slice bk.1 bk.2.1 bk.2.2) := by
      have := HSTc.out.ob.at0.1 q hqk 0 (by decide)
      rw [hbk] at this; simpa [EB] using this
    have d0a : ∀ ob, (wc.alloc ob).cell? ⟨gt, q, none⟩ = some (.pointer (some ⟨bt, 0, none⟩)) := fun ob => cell_bel d0 ((Below.refl _ wc).alloc (Nat.le_refl _) _)
    have d1a : ∀ ob, (wc.alloc ob).cell? ⟨gb, q, none⟩ = some (.slice bk.1 bk.2.1 bk.2.2) := fun ob => cell_bel d1 ((Below.refl _ wc).alloc (Nat.le_refl _) _)
    clear hbt hbk
    go_wp2_with fail
    go_region
    go_upto_region 14 with fail
    obtain ⟨bka, bkl, bkc⟩ := bk
    dsimp only
    obtain ⟨wD, hwD⟩ : ∃ wD, (wc.alloc (Obj.cells #[.slice bka bkl bkc] 28)).drew = wD := ⟨_, rfl⟩
    have hbD : Below wc.heap.size wc wD := by rw [← hwD]; exact ((Below.refl _ wc).alloc (Nat.le_refl _) _).drew
    have HBC : Hid (wD.cell? ⟨bs + 1, 0, none⟩ = some (.slice bka bkl bkc) ∧ bs + 1 < wD.heap.size) := by
      rw [← hwD, ← HSZ.out]
      exact ⟨by simp [go_sem], by simp⟩
    have HSD : Hid (St w.heap.size w (keys (ss.take (k + 1))) ts ts bts bks (.slice (some ⟨gt, 0, none⟩) n cT) (.slice (some ⟨gb, 0, none⟩) n cb) wD) := HSTc.out.below hbD
    have HBD : Hid (Bx7 bs ⟨kd, tr, sa, sn, sv, sf, sd⟩ wD) := HBX.out.below hbD
    have HC1 : Hid (wD.cell? ⟨bs, 1, none⟩ = some (.int .i64 tx)) := cell_bel ct' hbD
    first | rw [hwD] | rw [HSZ.out, hwD]
    clear hwD hbD HBX HSTc HSZ d0 d1 d0a d1a ct'
    obtain ⟨T, hT⟩ : ∃ T, ts[q] = T := ⟨_, rfl⟩
    have HT : Hid (ts[q] = T) := hT
    have HH : Hid (HoldsN (okL bts (.slice (some ⟨gt, 0, none⟩) n cT) (.slice (some ⟨gb, 0, none⟩) n cb)) wD bt T) := by have := HSD.out.ho q hqb hqt; rw [hT, HBT.out] at this; exact this
    have HBO : Hid (Bo (okL bts (.slice (some ⟨gt, 0, none⟩) n cT) (.slice (some ⟨gb, 0, none⟩) n cb)) wD (bka, bkl, bkc) (allT T)) := by have := HSD.out.bo q hqk hqt; rw [hT, HBK.out] at this; exact this
    have HG : Hid (Gd (keys (ss.take (k + 1))) T) := by rw [← hT]; exact HSD.out.gt _ (List.getElem_mem hqt)
    have HK1 : Hid ((keys (ss.take (k + 1))).length ≤ 1099511627776) := keys_le hk hbig
    have hkl : bkl = (allT T).length := HBO.out.len
    have hlen : (allT T).length ≤ 1099511627776 := Nat.le_trans HG.out.len HK1.out
    have e0 := HBD.out.k
    have e2 := HBD.out.a
    have e3 := HBD.out.n
    have e4 := HBD.out.v
    have e5 := HBD.out.f
    have e6 := HBD.out.d
    have e7 := HBC.out.1
    have hki : (k : Int) + 1 = ((k + 1 : Nat) : Int) := by omega
    have HKI : Hid ((k : Int) + 1 = ((k + 1 : Nat) : Int)) := hki
    dsimp only at e0 e2 e3 e4 e5 e6
    clear hT hki
    obtain rfl := HKD.out
    subst hkl
    obtain ⟨pt, hht⟩ := HH.out
    have HALL : Hid (∀ W, Below wD.heap.size wD W → Calls Try.prog 11 #[.pointer (some ⟨bt, 0, none⟩)] W fun e w' => ∃ a cap, e = .returned (.slice a (allT T).length cap) ∧ Arr3 w' a (allT T) ∧ Below W.heap.size W w') := fun W hW => trieAll_any _ bt T pt _ W (hht.bel hW) HG.out.wf (by omega)
    have HARR : Hid (Arr3 wD bka (allT T)) := HBO.out.arr
    clear hht
    go_wp2_with fail
    go_region_with (first | (go_at_call 11; refine (HALL.out _ (bel_q wD 1)).mono ?_; rintro e wE ⟨xa, xc, rfl, hxa, hbE0⟩; have hbE : Below wD.heap.size wD wE := (bel_q wD 1).trans hbE0; have e7x := cell_bel e7 hbE; have HAA : Hid (Arr3 wE xa (allT T)) := hxa; have HBB : Hid (Arr3 wE bka (allT T)) := HARR.out.bel hbE; clear hxa hbE0) | (go_at_call 10; refine (same_yes _ _ _ _ (allT T) (-1) (by decide) _ HAA.out HBB.out).mono ?_; rintro e wF ⟨rfl, hbF⟩))
    all_goals
      have hbDF : Below wD.heap.size wD wF := hbE.trans (hbF.mono hbE.size)
      clear HALL HARR HAA HBB hbE hbF e7x
      have HSX : Hid (St w.heap.size w (keys (ss.take (k + 1))) ts ts bts bks (.slice (some ⟨gt, 0, none⟩) n cT) (.slice (some ⟨gb, 0, none⟩) n cb) wF) := HSD.out.below hbDF
      clear HSD HBD HBC HH HBO
      go_wp2_with fail
      rw [HKI.out]
      exact wi_end fr_mk (Nat.lt_succ_self k) hk ⟨ts, bts, bks, HSX.out⟩
end Go.Proofs.Ytibmhdfodmkahaa.Tu
