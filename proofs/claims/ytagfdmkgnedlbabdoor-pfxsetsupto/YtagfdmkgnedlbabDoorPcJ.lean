/- Cover, pfxAsk and pfxWant of 0: what each answers. -/
import Derived.Test.YtagfdmkgnedlbabDoorPcH
import Derived.Test.YtagfdmkgnedlbabDoorPcI
import Derived.Test.YtagfdmkgnedlbabDoorPcE0
namespace Go.Proofs.YtagfdmkgnedlbabDoor.Pc
open Go.ChangeShapes Go.WideShapes Go.ChangeAt Go.RowKit Go.Joins Go.Shelf Go.Proofs.YtagfdmkgnedlbabDoor.PM Go.Proofs.YtagfdmkgnedlbabDoor.Ask Go.Proofs.YtagfdmkgnedlbabDoor.Ge
set_option linter.unusedVariables false

/-- the fewest prefixes -/
def covP (ps : List (Int × Int)) : List (Int × Int) := setP (anyH ps) (ends ps)
theorem covP_len (ps : List (Int × Int)) (hp : ∀ p ∈ ps, InA p) : (covP ps).length ≤ 4294967296 := by
  have hE := ends_eok ps hp
  obtain ⟨h1, r, hr⟩ := eok_ends hE (anyH ps) (fun a b x hab hx hxb => anyH_const hE (fun p hp => hp) hab hx hxb)
  have key : ∀ (l : List (Int × Int)) (lo : Int), SpOk lo l → -1 ≤ lo → (∀ s ∈ l, s.2 ≤ 4294967296) → ((cut l).length : Int) ≤ 4294967296 - lo - 1 ∨ l = [] := by
    intro l
    induction l with
    | nil => intro lo _ _ _; exact Or.inr rfl
    | cons s l ih =>
      intro lo h hlo h32
      refine Or.inl ?_
      have e : cut (s :: l) = split s.1 s.2 ++ cut l := rfl
      have hs := split_len s.1 s.2 (Int.le_of_lt h.2.1)
      have h3 := h32 s (by simp)
      have h4 := h.1
      have h5 := h.2.1
      rw [e, List.length_append]
      rcases ih s.2 h.2.2 (by omega) (fun t ht => h32 t (List.mem_cons_of_mem _ ht)) with h6 | h6
      · omega
      · subst h6; simp [cut]; omega
  rw [hr] at h1
  obtain ⟨h2, h3⟩ := runs_spec (anyH ps) r 0 false 0 (-1) h1 (fun e => by cases e) (fun _ => by omega)
  unfold covP setP
  rw [hr]
  have h32 : ∀ s ∈ runs (anyH ps) (0 :: r) false 0, s.2 ≤ 4294967296 := fun s hs => by
    obtain ⟨i, hi, rfl⟩ := List.getElem_of_mem hs
    have h5 := (h2.rise i hi).2.1
    have h6 := (h3 ((runs (anyH ps) (0 :: r) false 0)[i].2 - 1)).1 ⟨_, hs, by omega, by omega⟩
    rcases h6 with h6 | h6
    · cases h6.1
    · omega
  rcases key _ _ h2 (by omega) h32 with h6 | h6
  · omega
  · rw [h6]; simp [cut]
theorem inn0 (ps : List (Int × Int)) : innW 0 ps [] = anyH ps := by
  funext x
  unfold innW
  simp
set_option maxRecDepth 100000 in
set_option maxHeartbeats 4000000 in
theorem cover_any (vl : Option Addr) (cl : Nat) (ls : List (Option Addr × Nat × Nat)) (pss : List (List (Int × Int))) (L : Nat) (hL : ls.length = L) (htot : pss.flatten.length ≤ 274877906944) (hin : ∀ ps ∈ pss, ∀ p ∈ ps, InA p) (w : World) (hT : Tab w) (h : LL w vl ls pss) :
    Calls Tryd.prog 6 #[.slice vl L cl] w fun e w' => ∃ a n c, e = .returned (.slice a n c) ∧ OwnL E2 w.heap.size w' (.slice a n c) (covP pss.flatten) ∧ Below w.heap.size w w' := by
  have hin2 : ∀ p ∈ pss.flatten, InA p := fun p hp => by
    obtain ⟨l, hl, h1⟩ := List.mem_flatten.1 hp
    exact hin l hl p h1
  go_enter Tryd.func6, Tryd.ntmps6
  go_wp2_with fail
  refine (spans_any vl cl ls pss L hL htot hin w h).mono ?_
  rintro e w1 ⟨a1, n1, c1, S, rfl, hO, hSm, hSp, hb1⟩
  obtain ⟨hls, hlen⟩ := hO.lst
  have hsp := spans_spec S (fun p hp => (hin2 p ((hSm p).1 hp).1).1) hSp
  have h32 : ∀ s ∈ spans S, s.2 ≤ 4294967296 := fun s hs => by
    obtain ⟨i, hi, rfl⟩ := List.getElem_of_mem hs
    have h5 := (hsp.1.rise i hi).2.1
    obtain ⟨p, hp, h6, h7⟩ := (hsp.2 ((spans S)[i].2 - 1)).1 ⟨_, hs, by omega, by omega⟩
    obtain ⟨h8, h9⟩ := (hSm p).1 hp
    have := vld_end p.1 p.2 h9 (hin2 p h8).2
    omega
  have HW := prefixes_any a1 c1 (spans S) n1 hlen w1 (hT.bel hb1) hls hsp.1 h32
  rw [cover_eq pss.flatten S hin2 hSm hSp] at HW
  have HB1 : Hid (Below w.heap.size w w1) := hb1
  clear hO hls hlen hsp h32 hSm hSp hb1
  go_wp2_with fail
  refine HW.mono ?_
  rintro e w2 ⟨a2, n2, c2, rfl, ho2, hb2⟩
  have HO2 : Hid (OwnL E2 w.heap.size w2 (.slice a2 n2 c2) (covP pss.flatten)) := ho2.mono HB1.out.size
  have HB2 : Hid (Below w.heap.size w w2) := HB1.out.trans (hb2.mono HB1.out.size)
  clear ho2 hb2 HW
  go_wp2_with fail
  go_ret
  exact ⟨_, _, _, rfl, HO2.out, HB2.out⟩
/-- lists that were just laid in a list -/
theorem ll_made (ls : List (Option Addr × Nat × Nat)) (pss : List (List (Int × Int))) (n : Nat) (hn : ls.length = n) (hs : n ≤ 1099511627775) (hlen : ls.length = pss.length) {w w' : World} (hw : w.alloc (Obj.cells (EL.cs ls).toArray EL.e) = w') (h : ∀ i (h : i < ls.length) (h' : i < pss.length), Lst E2 w ls[i].1 pss[i] ∧ pss[i].length = ls[i].2.1) : LL w' (some ⟨w.heap.size, 0, none⟩) ls pss ∧ Below w.heap.size w w' := by
  obtain ⟨h1, h2⟩ := own_made EL ls n hn hs hw
  exact ⟨⟨h1.lst.1, hlen, fun i a b => ⟨(h i a b).1.bel h2, (h i a b).2⟩⟩, h2⟩
set_option maxRecDepth 100000 in
set_option maxHeartbeats 4000000 in
theorem ask0_any (va : Option Addr) (ca : Nat) (ps : List (Int × Int)) (n : Nat) (hn : ps.length = n) (vb : Option Addr) (cb : Nat) (qs : List (Int × Int)) (m : Nat) (hm : qs.length = m) (hbig : n + m ≤ 274877906944) (w : World) (hT : Tab w) (hlp : Lst E2 w va ps) (hlq : Lst E2 w vb qs) (hpp : ∀ p ∈ ps, InA p) (hpq : ∀ p ∈ qs, InA p) :
    Calls Tryd.prog 15 #[.int .i64 0, .slice va n ca, .slice vb m cb] w fun e w' => ∃ a k c, e = .returned (.slice a k c) ∧ OwnL E2 w.heap.size w' (.slice a k c) (covP (ps ++ qs)) ∧ Below w.heap.size w w' := by
  obtain ⟨w1, hw1⟩ : ∃ w1, w.alloc (Obj.cells #[.slice va n ca, .slice vb m cb] 22) = w1 := ⟨_, rfl⟩
  obtain ⟨hl1, hb1⟩ := ll_made [(va, n, ca), (vb, m, cb)] [ps, qs] 2 rfl (by decide) rfl hw1 (fun i h1 h2 => by
    match i, h1 with
    | 0, _ => exact ⟨hlp, hn⟩
    | 1, _ => exact ⟨hlq, hm⟩)
  have HC := cover_any (some ⟨w.heap.size, 0, none⟩) 2 [(va, n, ca), (vb, m, cb)] [ps, qs] 2 rfl (by simp; omega) (fun l hl p hp => by
    simp at hl
    rcases hl with rfl | rfl
    · exact hpp p hp
    · exact hpq p hp) w1 (hT.bel hb1) hl1
  have e1 : [ps, qs].flatten = ps ++ qs := by simp
  rw [e1] at HC
  have HB1 : Hid (Below w.heap.size w w1) := hb1
  clear hl1 hb1 hlp hlq
  go_enter Tryd.func15, Tryd.ntmps15
  go_wp2_with fail
  refine HC.mono ?_
  rintro e w2 ⟨a2, n2, c2, rfl, ho2, hb2⟩
  have HO2 : Hid (OwnL E2 w.heap.size w2 (.slice a2 n2 c2) (covP (ps ++ qs))) := ho2.mono HB1.out.size
  have HB2 : Hid (Below w.heap.size w w2) := HB1.out.trans (hb2.mono HB1.out.size)
  clear ho2 hb2 HC
  go_wp2_with fail
  go_ret
  exact ⟨_, _, _, rfl, HO2.out, HB2.out⟩
set_option maxRecDepth 100000 in
set_option maxHeartbeats 4000000 in
theorem want0_any (va : Option Addr) (ca : Nat) (ps : List (Int × Int)) (n : Nat) (hn : ps.length = n) (vb : Option Addr) (cb : Nat) (qs : List (Int × Int)) (m : Nat) (hm : qs.length = m) (hbig : n + m ≤ 274877906944) (w : World) (hlp : Lst E2 w va ps) (hlq : Lst E2 w vb qs) (hpp : ∀ p ∈ ps, InA p) (hpq : ∀ p ∈ qs, InA p) (hna : va = none → n = 0 ∧ ca = 0) (hnb : vb = none → m = 0 ∧ cb = 0) :
    Calls Tryd.prog 13 #[.int .i64 0, .slice va n ca, .slice vb m cb] w fun e w' => ∃ a k c, e = .returned (.slice a k c) ∧ OwnL E2 w.heap.size w' (.slice a k c) (covP (ps ++ qs)) ∧ Below w.heap.size w w' := by
  have HLP : Hid (Lst E2 w va ps) := hlp
  have HLQ : Hid (Lst E2 w vb qs) := hlq
  have HNP : Hid (ps.length = n) := hn
  have HNQ : Hid (qs.length = m) := hm
  have HNA : Hid (va = none → n = 0 ∧ ca = 0) := hna
  have HNB : Hid (vb = none → m = 0 ∧ cb = 0) := hnb
  have HPA : Hid (∀ p ∈ ps ++ qs, InA p) := fun p hp => by
    rcases List.mem_append.1 hp with h1 | h1
    · exact hpp p h1
    · exact hpq p h1
  clear hlp hlq hn hm hna hnb hpp hpq
  go_enter Tryd.func13, Tryd.ntmps13
  obtain ⟨w1, hw1⟩ : ∃ w1, w.alloc (Obj.cells #[] 28) = w1 := ⟨_, rfl⟩
  have HM : Hid (OwnL E2 w.heap.size w1 (.slice (some ⟨w.heap.size, 0, none⟩) 0 0) [] ∧ Below w.heap.size w w1) := own_made0 E2 hw1
  have hm1 : w.heap.size ≤ w1.heap.size := HM.out.2.size
  have HL1 : Hid (Lst E2 w1 va ps) := HLP.out.bel HM.out.2
  have hg1 : ([] : List (Int × Int)).length + n ≤ 1099511627775 := by simp; omega
  go_wp2_with (at_builtin; refine list_appL E2 rfl _ _ 22 rfl rfl w.heap.size (.slice (some ⟨w.heap.size, 0, none⟩) 0 0) [] ps va n ca w1 hg1 rfl HM.out.1 rfl HL1.out HNA.out HNP.out hm1 ?_)
  intro v2 w2 ho2 hg2 hat2
  have HO2 : Hid (OwnL E2 w.heap.size w2 v2 ps) := ho2.out
  have HB2 : Hid (Below w.heap.size w w2) := HM.out.2.trans ((Below.refl _ w1).grown hg2.out hm1 (fun g e => by cases e; exact Nat.le_refl _))
  have hm2 : w.heap.size ≤ w2.heap.size := HB2.out.size
  have HL2 : Hid (Lst E2 w2 vb qs) := HLQ.out.bel HB2.out
  have hg2' : ps.length + m ≤ 1099511627775 := by rw [HNP.out]; omega
  clear ho2 hg2 hat2 hw1 hg1
  go_wp2_with (at_builtin; refine list_appL E2 rfl _ _ 22 rfl rfl w.heap.size v2 ps qs vb m cb w2 hg2' rfl HO2.out rfl HL2.out HNB.out HNQ.out hm2 ?_)
  intro v3 w3 ho3 hg3 hat3
  obtain ⟨a3, c3, hv3, -, hnil3, -⟩ := ho3.out.form
  obtain ⟨n3, hn3⟩ : ∃ q, (ps ++ qs).length = q := ⟨_, rfl⟩
  rw [hn3] at hv3 hnil3
  subst hv3
  have HB3 : Hid (Below w.heap.size w w3) := HB2.out.trans ((Below.refl _ w2).grown hg3.out hm2 (fun g e => (HO2.out.row.lt g e).1))
  have hn3b : n3 + 0 ≤ 274877906944 := by rw [← hn3, List.length_append, HNP.out, HNQ.out]; omega
  have HS := set0_any a3 c3 (ps ++ qs) n3 hn3 none 0 [] 0 rfl hn3b w3 ho3.out.lst.1 ⟨by simp, fun i hi => absurd hi (by simp)⟩ HPA.out (fun p hp => by cases hp) hnil3 (fun _ => ⟨rfl, rfl⟩)
  rw [inn0, List.append_nil] at HS
  clear ho3 hg3 hat3 hn3 hnil3
  go_wp2_with fail
  refine HS.mono ?_
  rintro e w4 ⟨a4, n4, c4, rfl, ho4, hb4⟩
  have HO4 : Hid (OwnL E2 w.heap.size w4 (.slice a4 n4 c4) (covP (ps ++ qs))) := ho4.mono HB3.out.size
  have HB4 : Hid (Below w.heap.size w w4) := HB3.out.trans (hb4.mono HB3.out.size)
  clear ho4 hb4 HS
  go_wp2_with fail
  go_ret
  exact ⟨_, _, _, rfl, HO4.out, HB4.out⟩
end Go.Proofs.YtagfdmkgnedlbabDoor.Pc
