/- Without, Both, pfxAsk and pfxWant of 1 and 2: what each answers. -/
import Derived.Test.YtagfdmkgnedlbabDoorPcN
import Derived.Test.YtagfdmkgnedlbabDoorPcJ
import Derived.Test.YtagfdmkgnedlbabDoorPcE1
import Derived.Test.YtagfdmkgnedlbabDoorPcE2
namespace Go.Proofs.YtagfdmkgnedlbabDoor.Pc
open Go.ChangeShapes Go.WideShapes Go.ChangeAt Go.RowKit Go.Joins Go.Shelf Go.Proofs.YtagfdmkgnedlbabDoor.PM Go.Proofs.YtagfdmkgnedlbabDoor.Ask Go.Proofs.YtagfdmkgnedlbabDoor.Ge
set_option linter.unusedVariables false

theorem own_cap {α : Type} {E : El α} {N n c : Nat} {w : World} {a : Option Addr} {xs : List α} (h : OwnL E N w (.slice a n c) xs) : n ≤ c := by
  obtain ⟨a', c', hv, hle, -⟩ := h.form
  cases hv
  exact hle
set_option maxRecDepth 100000 in
set_option maxHeartbeats 4000000 in
theorem both_any (va : Option Addr) (ca : Nat) (ps : List (Int × Int)) (n : Nat) (hn : ps.length = n) (vb : Option Addr) (cb : Nat) (qs : List (Int × Int)) (m : Nat) (hm : qs.length = m) (hbig : n + m ≤ 274877906944) (w : World) (hT : Tab w) (hlp : Lst E2 w va ps) (hlq : Lst E2 w vb qs) (hpp : ∀ p ∈ ps, InA p) (hpq : ∀ p ∈ qs, InA p) :
    Calls Tryd.prog 9 #[.slice va n ca, .slice vb m cb] w fun e w' => ∃ a k c, e = .returned (.slice a k c) ∧ OwnL E2 w.heap.size w' (.slice a k c) (setK 2 ps qs) ∧ Below w.heap.size w w' := by
  obtain ⟨w1, hw1⟩ : ∃ w1, w.alloc (Obj.cells #[.slice va n ca] 22) = w1 := ⟨_, rfl⟩
  obtain ⟨hl1, hb1⟩ := ll_made [(va, n, ca)] [ps] 1 rfl (by decide) rfl hw1 (fun i h1 h2 => by
    match i, h1 with
    | 0, _ => exact ⟨hlp, hn⟩)
  have HC := spans_any (some ⟨w.heap.size, 0, none⟩) 1 [(va, n, ca)] [ps] 1 rfl (by simp; omega) (fun l hl p hp => by
    simp at hl
    subst hl
    exact hpp p hp) w1 hl1
  rw [show [ps].flatten = ps by simp] at HC
  have HB1 : Hid (Below w.heap.size w w1) := hb1
  have HT : Hid (Tab w) := hT
  have HLQ : Hid (Lst E2 w vb qs) := hlq
  have HPP : Hid (∀ p ∈ ps, InA p) := hpp
  have HPQ : Hid (∀ p ∈ qs, InA p) := hpq
  have HNQ : Hid (qs.length = m) := hm
  clear hl1 hb1 hlp hlq hT hpp hpq hm hn
  go_enter Tryd.func9, Tryd.ntmps9
  go_wp2_with fail
  refine HC.mono ?_
  rintro e w2 ⟨a2, n2, c2, S, rfl, hO2, hSm, hSp, hb2⟩
  have HO2 : Hid (OwnL ES w1.heap.size w2 (.slice a2 n2 c2) (spans S)) := hO2
  have HSM : Hid (∀ p, p ∈ S ↔ p ∈ ps ∧ vld p.1 p.2 = true) := hSm
  have HSP : Hid (S.Pairwise (fun p q => p.1 ≤ q.1)) := hSp
  have HB2 : Hid (Below w.heap.size w w2) := HB1.out.trans (hb2.mono HB1.out.size)
  clear hO2 hSm hSp hb2 HC hw1 HB1
  obtain ⟨w3, hw3⟩ : ∃ w3, w2.alloc (Obj.cells #[.slice vb m cb] 22) = w3 := ⟨_, rfl⟩
  obtain ⟨hl3, hb3⟩ := ll_made [(vb, m, cb)] [qs] 1 rfl (by decide) rfl hw3 (fun i h1 h2 => by
    match i, h1 with
    | 0, _ => exact ⟨HLQ.out.bel HB2.out, HNQ.out⟩)
  have HD := spans_any (some ⟨w2.heap.size, 0, none⟩) 1 [(vb, m, cb)] [qs] 1 rfl (by have := HNQ.out; simp; omega) (fun l hl p hp => by
    simp at hl
    subst hl
    exact HPQ.out p hp) w3 hl3
  rw [show [qs].flatten = qs by simp] at HD
  have HB3 : Hid (Below w.heap.size w w3) := HB2.out.trans (hb3.mono HB2.out.size)
  have HO3 : Hid (OwnL ES w1.heap.size w3 (.slice a2 n2 c2) (spans S)) := HO2.out.bel hb3
  clear hl3 hb3
  go_wp2_with fail
  refine HD.mono ?_
  rintro e w4 ⟨a4, n4, c4, T, rfl, hO4, hTm, hTp, hb4⟩
  have HB4 : Hid (Below w.heap.size w w4) := HB3.out.trans (hb4.mono HB3.out.size)
  have HOS : Hid (OwnL ES w1.heap.size w4 (.slice a2 n2 c2) (spans S)) := HO3.out.bel hb4
  have HOT : Hid (OwnL ES w3.heap.size w4 (.slice a4 n4 c4) (spans T)) := hO4
  have HTM : Hid (∀ p, p ∈ T ↔ p ∈ qs ∧ vld p.1 p.2 = true) := hTm
  have HTP : Hid (T.Pairwise (fun p q => p.1 ≤ q.1)) := hTp
  clear hO4 hTm hTp hb4 HD hw3 HO3 HO2
  have HIS : Hid _ := spans_in ps S HPP.out HSM.out HSP.out
  have HIT : Hid _ := spans_in qs T HPQ.out HTM.out HTP.out
  have hn2 : n2 ≤ 4294967297 := by
    have h1 := sp_len _ _ _ HIS.out.1 HIS.out.2.2 (by omega)
    have h2 := HOS.out.lst.2
    omega
  have hn4 : n4 ≤ 4294967297 := by
    have h1 := sp_len _ _ _ HIT.out.1 HIT.out.2.2 (by omega)
    have h2 := HOT.out.lst.2
    omega
  have HEQ : Hid _ := both_eq ps qs S T HPP.out HPQ.out HSM.out HSP.out HTM.out HTP.out
  have HV := ov_any a2 a4 c2 c4 (spans S) (spans T) n2 n4 HOS.out.lst.2 HOT.out.lst.2 (own_cap HOS.out) (own_cap HOT.out) (by omega) w4 HOS.out.lst.1 HOT.out.lst.1
  go_wp2_with fail
  refine HV.mono ?_
  rintro e w6 ⟨a6, n6, c6, rfl, hO6, hb6⟩
  have HB6 : Hid (Below w.heap.size w w6) := HB4.out.trans (hb6.mono HB4.out.size)
  have HW := prefixes_any a6 c6 (ov (spans S) (spans T)) n6 hO6.lst.2 w6 (HT.out.bel HB6.out) hO6.lst.1 HEQ.out.2.1 HEQ.out.2.2
  rw [HEQ.out.1] at HW
  clear hO6 hb6 HV
  go_wp2_with fail
  refine HW.mono ?_
  rintro e w7 ⟨a7, n7, c7, rfl, hO7, hb7⟩
  have HO7 : Hid (OwnL E2 w.heap.size w7 (.slice a7 n7 c7) (setK 2 ps qs)) := hO7.mono HB6.out.size
  have HB7 : Hid (Below w.heap.size w w7) := HB6.out.trans (hb7.mono HB6.out.size)
  clear hO7 hb7 HW
  go_wp2_with fail
  go_ret
  exact ⟨_, _, _, rfl, HO7.out, HB7.out⟩
set_option maxRecDepth 100000 in
set_option maxHeartbeats 4000000 in
theorem ask2_any (va : Option Addr) (ca : Nat) (ps : List (Int × Int)) (n : Nat) (hn : ps.length = n) (vb : Option Addr) (cb : Nat) (qs : List (Int × Int)) (m : Nat) (hm : qs.length = m) (hbig : n + m ≤ 274877906944) (w : World) (hT : Tab w) (hlp : Lst E2 w va ps) (hlq : Lst E2 w vb qs) (hpp : ∀ p ∈ ps, InA p) (hpq : ∀ p ∈ qs, InA p) :
    Calls Tryd.prog 15 #[.int .i64 2, .slice va n ca, .slice vb m cb] w fun e w' => ∃ a k c, e = .returned (.slice a k c) ∧ OwnL E2 w.heap.size w' (.slice a k c) (setK 2 ps qs) ∧ Below w.heap.size w w' := by
  have HC := both_any va ca ps n hn vb cb qs m hm hbig w hT hlp hlq hpp hpq
  clear hlp hlq hT hpp hpq hn hm
  go_enter Tryd.func15, Tryd.ntmps15
  go_wp2_with fail
  refine HC.mono ?_
  rintro e w2 ⟨a2, n2, c2, rfl, ho2, hb2⟩
  have HO2 : Hid (OwnL E2 w.heap.size w2 (.slice a2 n2 c2) (setK 2 ps qs)) := ho2
  have HB2 : Hid (Below w.heap.size w w2) := hb2
  clear ho2 hb2 HC
  go_wp2_with fail
  go_ret
  exact ⟨_, _, _, rfl, HO2.out, HB2.out⟩
set_option maxRecDepth 100000 in
set_option maxHeartbeats 4000000 in
theorem want2_any (va : Option Addr) (ca : Nat) (ps : List (Int × Int)) (n : Nat) (hn : ps.length = n) (vb : Option Addr) (cb : Nat) (qs : List (Int × Int)) (m : Nat) (hm : qs.length = m) (hbig : n + m ≤ 274877906944) (w : World) (hlp : Lst E2 w va ps) (hlq : Lst E2 w vb qs) (hpp : ∀ p ∈ ps, InA p) (hpq : ∀ p ∈ qs, InA p) (hna : va = none → n = 0 ∧ ca = 0) (hnb : vb = none → m = 0 ∧ cb = 0) :
    Calls Tryd.prog 13 #[.int .i64 2, .slice va n ca, .slice vb m cb] w fun e w' => ∃ a k c, e = .returned (.slice a k c) ∧ OwnL E2 w.heap.size w' (.slice a k c) (setK 2 ps qs) ∧ Below w.heap.size w w' := by
  have HC := set2_any va ca ps n hn vb cb qs m hm hbig w hlp hlq hpp hpq hna hnb
  clear hlp hlq hpp hpq hn hm hna hnb
  go_enter Tryd.func13, Tryd.ntmps13
  go_wp2_with fail
  refine HC.mono ?_
  rintro e w2 ⟨a2, n2, c2, rfl, ho2, hb2⟩
  have HO2 : Hid (OwnL E2 w.heap.size w2 (.slice a2 n2 c2) (setK 2 ps qs)) := ho2
  have HB2 : Hid (Below w.heap.size w w2) := hb2
  clear ho2 hb2 HC
  go_wp2_with fail
  go_ret
  exact ⟨_, _, _, rfl, HO2.out, HB2.out⟩
set_option maxRecDepth 100000 in
set_option maxHeartbeats 4000000 in
theorem without_any (va : Option Addr) (ca : Nat) (ps : List (Int × Int)) (n : Nat) (hn : ps.length = n) (vb : Option Addr) (cb : Nat) (qs : List (Int × Int)) (m : Nat) (hm : qs.length = m) (hbig : n + m ≤ 274877906944) (w : World) (hT : Tab w) (hlp : Lst E2 w va ps) (hlq : Lst E2 w vb qs) (hpp : ∀ p ∈ ps, InA p) (hpq : ∀ p ∈ qs, InA p) :
    Calls Tryd.prog 8 #[.slice va n ca, .slice vb m cb] w fun e w' => ∃ a k c, e = .returned (.slice a k c) ∧ OwnL E2 w.heap.size w' (.slice a k c) (setK 1 ps qs) ∧ Below w.heap.size w w' := by
  obtain ⟨w1, hw1⟩ : ∃ w1, w.alloc (Obj.cells #[.slice va n ca] 22) = w1 := ⟨_, rfl⟩
  obtain ⟨hl1, hb1⟩ := ll_made [(va, n, ca)] [ps] 1 rfl (by decide) rfl hw1 (fun i h1 h2 => by
    match i, h1 with
    | 0, _ => exact ⟨hlp, hn⟩)
  have HC := spans_any (some ⟨w.heap.size, 0, none⟩) 1 [(va, n, ca)] [ps] 1 rfl (by simp; omega) (fun l hl p hp => by
    simp at hl
    subst hl
    exact hpp p hp) w1 hl1
  rw [show [ps].flatten = ps by simp] at HC
  have HB1 : Hid (Below w.heap.size w w1) := hb1
  have HT : Hid (Tab w) := hT
  have HLQ : Hid (Lst E2 w vb qs) := hlq
  have HPP : Hid (∀ p ∈ ps, InA p) := hpp
  have HPQ : Hid (∀ p ∈ qs, InA p) := hpq
  have HNQ : Hid (qs.length = m) := hm
  clear hl1 hb1 hlp hlq hT hpp hpq hm hn
  go_enter Tryd.func8, Tryd.ntmps8
  go_wp2_with fail
  refine HC.mono ?_
  rintro e w2 ⟨a2, n2, c2, S, rfl, hO2, hSm, hSp, hb2⟩
  have HO2 : Hid (OwnL ES w1.heap.size w2 (.slice a2 n2 c2) (spans S)) := hO2
  have HSM : Hid (∀ p, p ∈ S ↔ p ∈ ps ∧ vld p.1 p.2 = true) := hSm
  have HSP : Hid (S.Pairwise (fun p q => p.1 ≤ q.1)) := hSp
  have HB2 : Hid (Below w.heap.size w w2) := HB1.out.trans (hb2.mono HB1.out.size)
  clear hO2 hSm hSp hb2 HC hw1 HB1
  obtain ⟨w3, hw3⟩ : ∃ w3, w2.alloc (Obj.cells #[.slice vb m cb] 22) = w3 := ⟨_, rfl⟩
  obtain ⟨hl3, hb3⟩ := ll_made [(vb, m, cb)] [qs] 1 rfl (by decide) rfl hw3 (fun i h1 h2 => by
    match i, h1 with
    | 0, _ => exact ⟨HLQ.out.bel HB2.out, HNQ.out⟩)
  have HD := spans_any (some ⟨w2.heap.size, 0, none⟩) 1 [(vb, m, cb)] [qs] 1 rfl (by have := HNQ.out; simp; omega) (fun l hl p hp => by
    simp at hl
    subst hl
    exact HPQ.out p hp) w3 hl3
  rw [show [qs].flatten = qs by simp] at HD
  have HB3 : Hid (Below w.heap.size w w3) := HB2.out.trans (hb3.mono HB2.out.size)
  have HO3 : Hid (OwnL ES w1.heap.size w3 (.slice a2 n2 c2) (spans S)) := HO2.out.bel hb3
  clear hl3 hb3
  go_wp2_with fail
  refine HD.mono ?_
  rintro e w4 ⟨a4, n4, c4, T, rfl, hO4, hTm, hTp, hb4⟩
  have HB4 : Hid (Below w.heap.size w w4) := HB3.out.trans (hb4.mono HB3.out.size)
  have HOS : Hid (OwnL ES w1.heap.size w4 (.slice a2 n2 c2) (spans S)) := HO3.out.bel hb4
  have HOT : Hid (OwnL ES w3.heap.size w4 (.slice a4 n4 c4) (spans T)) := hO4
  have HTM : Hid (∀ p, p ∈ T ↔ p ∈ qs ∧ vld p.1 p.2 = true) := hTm
  have HTP : Hid (T.Pairwise (fun p q => p.1 ≤ q.1)) := hTp
  clear hO4 hTm hTp hb4 HD hw3 HO3 HO2
  have HIS : Hid _ := spans_in ps S HPP.out HSM.out HSP.out
  have HIT : Hid _ := spans_in qs T HPQ.out HTM.out HTP.out
  have hn2 : n2 ≤ 4294967297 := by
    have h1 := sp_len _ _ _ HIS.out.1 HIS.out.2.2 (by omega)
    have h2 := HOS.out.lst.2
    omega
  have hn4 : n4 ≤ 4294967297 := by
    have h1 := sp_len _ _ _ HIT.out.1 HIT.out.2.2 (by omega)
    have h2 := HOT.out.lst.2
    omega
  have HEQ : Hid _ := without_eq ps qs S T HPP.out HPQ.out HSM.out HSP.out HTM.out HTP.out
  have HG := gaps_any a4 c4 (spans T) n4 HOT.out.lst.2 w4 HOT.out.lst.1 HIT.out.1 HIT.out.2.2
  have HGS : Hid _ := gaps_spec (spans T) 0 HIT.out.1 (by omega) HIT.out.2.2
  have HGL : Hid ((gapsF 0 (spans T)).length ≤ 4294967297) := by
    have h1 := sp_len _ _ 4294967296 HGS.out.1 (sp_top HGS.out.1 (fun x hx => ((HGS.out.2 x).1 hx).2.1)) (by omega)
    show _ ≤ _
    omega
  go_wp2_with fail
  refine HG.mono ?_
  rintro e w5 ⟨a5, n5, c5, rfl, hO5, hb5⟩
  have HB5 : Hid (Below w.heap.size w w5) := HB4.out.trans (hb5.mono HB4.out.size)
  have HO5 : Hid (OwnL ES w4.heap.size w5 (.slice a5 n5 c5) (gapsF 0 (spans T))) := hO5
  have HOS5 : Hid (OwnL ES w1.heap.size w5 (.slice a2 n2 c2) (spans S)) := HOS.out.bel hb5
  have hn5 : n5 ≤ 4294967297 := by have h1 := HGL.out; have h2 := hO5.lst.2; omega
  clear hO5 hb5 HG
  have HV := ov_any a2 a5 c2 c5 (spans S) (gapsF 0 (spans T)) n2 n5 HOS5.out.lst.2 HO5.out.lst.2 (own_cap HOS5.out) (own_cap HO5.out) (by omega) w5 HOS5.out.lst.1 HO5.out.lst.1
  go_wp2_with fail
  refine HV.mono ?_
  rintro e w6 ⟨a6, n6, c6, rfl, hO6, hb6⟩
  have HB6 : Hid (Below w.heap.size w w6) := HB5.out.trans (hb6.mono HB5.out.size)
  have HW := prefixes_any a6 c6 (ov (spans S) (gapsF 0 (spans T))) n6 hO6.lst.2 w6 (HT.out.bel HB6.out) hO6.lst.1 HEQ.out.2.1 HEQ.out.2.2
  rw [HEQ.out.1] at HW
  clear hO6 hb6 HV
  go_wp2_with fail
  refine HW.mono ?_
  rintro e w7 ⟨a7, n7, c7, rfl, hO7, hb7⟩
  have HO7 : Hid (OwnL E2 w.heap.size w7 (.slice a7 n7 c7) (setK 1 ps qs)) := hO7.mono HB6.out.size
  have HB7 : Hid (Below w.heap.size w w7) := HB6.out.trans (hb7.mono HB6.out.size)
  clear hO7 hb7 HW
  go_wp2_with fail
  go_ret
  exact ⟨_, _, _, rfl, HO7.out, HB7.out⟩
set_option maxRecDepth 100000 in
set_option maxHeartbeats 4000000 in
theorem ask1_any (va : Option Addr) (ca : Nat) (ps : List (Int × Int)) (n : Nat) (hn : ps.length = n) (vb : Option Addr) (cb : Nat) (qs : List (Int × Int)) (m : Nat) (hm : qs.length = m) (hbig : n + m ≤ 274877906944) (w : World) (hT : Tab w) (hlp : Lst E2 w va ps) (hlq : Lst E2 w vb qs) (hpp : ∀ p ∈ ps, InA p) (hpq : ∀ p ∈ qs, InA p) :
    Calls Tryd.prog 15 #[.int .i64 1, .slice va n ca, .slice vb m cb] w fun e w' => ∃ a k c, e = .returned (.slice a k c) ∧ OwnL E2 w.heap.size w' (.slice a k c) (setK 1 ps qs) ∧ Below w.heap.size w w' := by
  have HC := without_any va ca ps n hn vb cb qs m hm hbig w hT hlp hlq hpp hpq
  clear hlp hlq hT hpp hpq hn hm
  go_enter Tryd.func15, Tryd.ntmps15
  go_wp2_with fail
  refine HC.mono ?_
  rintro e w2 ⟨a2, n2, c2, rfl, ho2, hb2⟩
  have HO2 : Hid (OwnL E2 w.heap.size w2 (.slice a2 n2 c2) (setK 1 ps qs)) := ho2
  have HB2 : Hid (Below w.heap.size w w2) := hb2
  clear ho2 hb2 HC
  go_wp2_with fail
  go_ret
  exact ⟨_, _, _, rfl, HO2.out, HB2.out⟩
set_option maxRecDepth 100000 in
set_option maxHeartbeats 4000000 in
theorem want1_any (va : Option Addr) (ca : Nat) (ps : List (Int × Int)) (n : Nat) (hn : ps.length = n) (vb : Option Addr) (cb : Nat) (qs : List (Int × Int)) (m : Nat) (hm : qs.length = m) (hbig : n + m ≤ 274877906944) (w : World) (hlp : Lst E2 w va ps) (hlq : Lst E2 w vb qs) (hpp : ∀ p ∈ ps, InA p) (hpq : ∀ p ∈ qs, InA p) (hna : va = none → n = 0 ∧ ca = 0) (hnb : vb = none → m = 0 ∧ cb = 0) :
    Calls Tryd.prog 13 #[.int .i64 1, .slice va n ca, .slice vb m cb] w fun e w' => ∃ a k c, e = .returned (.slice a k c) ∧ OwnL E2 w.heap.size w' (.slice a k c) (setK 1 ps qs) ∧ Below w.heap.size w w' := by
  have HC := set1_any va ca ps n hn vb cb qs m hm hbig w hlp hlq hpp hpq hna hnb
  clear hlp hlq hpp hpq hn hm hna hnb
  go_enter Tryd.func13, Tryd.ntmps13
  go_wp2_with fail
  refine HC.mono ?_
  rintro e w2 ⟨a2, n2, c2, rfl, ho2, hb2⟩
  have HO2 : Hid (OwnL E2 w.heap.size w2 (.slice a2 n2 c2) (setK 1 ps qs)) := ho2
  have HB2 : Hid (Below w.heap.size w w2) := hb2
  clear ho2 hb2 HC
  go_wp2_with fail
  go_ret
  exact ⟨_, _, _, rfl, HO2.out, HB2.out⟩
end Go.Proofs.YtagfdmkgnedlbabDoor.Pc
