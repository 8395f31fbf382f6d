/- SpfDists: the lengths, by rounds over all edges. the document's Paths: which links, plain; ways in memory whose links grow. -/
import Derived.Test.YthhdpfgepjmgkaaMgD
namespace Go.Proofs.Ythhdpfgepjmgkaa.Dj
open Go.ChangeShapes Go.WideShapes Go.ChangeAt Go.RowKit Go.Joins Go.Deep Go.Proofs.Ythhdpfgepjmgkaa.Ge
set_option linter.unusedVariables false
set_option linter.unusedSimpArgs false

def mb1 (v : Value) : Nat := match v with | .bool true => 1 | _ => 0
def dAt (w : World) (b i : Nat) : Int := match w.cell? ⟨b, i * 3 + 1, none⟩ with | some (.int _ z) => z | _ => 0
/-- what is left to do, al it stands in memory -/
def mz (n : Nat) (ov : Value) (w : World) : Nat := match ov with | .slice (some a) len _ => (n + 1 - len) * (65535 * (n + 3)) + (((List.range len).map (dAt w a.block)).sum).toNat | _ => 0
theorem own_some {rs : List Rc} {N m c : Nat} {a : Option Addr} {w : World} (h : OwnL ER N w (.slice a m c) rs) (hne : rs ≠ []) : ∃ g, a = some ⟨g, 0, none⟩ := by
  rcases h.row.2 with ⟨h1, h2⟩ | ⟨g, c', cur, h1, -⟩
  · exact absurd (List.length_eq_zero_iff.1 h2) hne
  · cases h1; exact ⟨g, rfl⟩
theorem mz_of {rs : List Rc} {n N m c g : Nat} {w : World} (h : OwnL ER N w (.slice (some ⟨g, 0, none⟩) m c) rs) (hm : rs.length = m) : mz n (.slice (some ⟨g, 0, none⟩) m c) w = lf n rs := by
  unfold mz lf
  have h1 : (List.range m).map (dAt w g) = rs.map (·.d) := by
    refine List.ext_getElem (by rw [List.length_map, List.length_map, List.length_range, hm]) (fun i h1 h2 => ?_)
    rw [List.getElem_map, List.getElem_map, List.getElem_range]
    rw [List.length_map] at h2
    have h3 := h.at0.1 i h2 1 (by decide)
    have h4 : w.cell? ⟨g, i * 3 + 1, none⟩ = some (.int .i64 rs[i].d) := h3
    unfold dAt
    rw [h4]
  rw [hm]
  show _ + (((List.range m).map (dAt w g)).sum).toNat = _
  rw [h1]
  rfl
theorem list_rbuildo {ops : Array Oper} {rest : List Oper} {o : Oper} {ac : Act} {Q : Exit → Act → World → Prop} {W : World} (hgd : o.guard = none) (x : Operand) (ho : o.op = .buildSlice 23 1 #[(0, x)]) {m : Rc} (hx : ac.eval x = .agg (rcL m).toArray)
    (k : ∀ b W', Hid (W.heap.size = b) → Hid (OwnL ER W.heap.size W' (.slice (some ⟨b, 0, none⟩) 1 1) [m]) → Hid (Below W.heap.size W W') → wpList Try.prog ops Q rest (ac.put o.dst (.slice (some ⟨b, 0, none⟩) 1 1)) W') : wpList Try.prog ops Q (o :: rest) ac W := by
  refine wpList_plain hgd fun K hK => ?_
  unfold Oper.wp
  rw [rbuild_run x ho hx]
  exact hK _ _ (k _ _ rfl (own_made ER (W := W) [m] 1 rfl (by decide) rfl).1 ((Below.refl _ W).alloc (Nat.le_refl _) _))
theorem rx_none {rs : List Rc} {e : Ed} (h : ∀ x ∈ rs, x.n ≠ e.f) : Rx rs e := fun q hq hn => absurd hn (h q hq)
theorem rx_le {al : List Ed} {root : Int} {rs : List Rc} (h : Bf al root rs) {e : Ed} {q y : Rc} (hq : q ∈ rs) (hn : q.n = e.f) (hy : y ∈ rs) (hyn : y.n = e.t) (hl : ¬ q.d + e.c < y.d) : Rx rs e := fun q2 hq2 hn2 => by
  have := pw_same h.so hq hq2 (by rw [hn, hn2])
  subst this
  exact ⟨y, hy, hyn, by omega⟩
/-- how far a round over the edges has come -/
structure BfI (al ss : List Ed) (root : Int) (nn : Nat) (L0 : Nat) (N : Nat) (j : Nat) (rs : List Rc) (mv : Bool) (ov : Value) (W : World) : Prop where
  ow : OwnL ER N W ov rs
  bf : Bf al root rs
  le : lf nn rs ≤ L0
  lt : mv = true → lf nn rs < L0
  rx : mv = false → ∀ q x, q < j → ss[q]? = some x → Rx rs x
theorem BfI.next {al ss : List Ed} {root : Int} {nn L0 N j : Nat} {rs : List Rc} {mv : Bool} {ov : Value} {W : World} (h : BfI al ss root nn L0 N j rs mv ov W) {e : Ed} (he : ss[j]? = some e) (hr : Rx rs e) : BfI al ss root nn L0 N (j + 1) rs mv ov W := ⟨h.ow, h.bf, h.le, h.lt, fun hm q x h1 h2 => by
  by_cases c : q = j
  · subst c
    rw [he] at h2
    cases h2
    exact hr
  · exact h.rx hm q x (by omega) h2⟩
def DsPost (w : World) (al : List Ed) (root : Int) (e : Ending) (w' : World) : Prop := ∃ (v : Value) (rs : List Rc), e = .returned v ∧ OwnL ER w.heap.size w' v rs ∧ Ds al root rs ∧ Below w.heap.size w w'
set_option maxRecDepth 100000 in
set_option maxHeartbeats 64000000 in
theorem dists_any (sa : Option Addr) (n sc : Nat) (al ss : List Ed) (root : Int) (nn : Nat) (w : World) (hn : ss.length = n) (hb : nn < 100000000) (hnb : n ≤ nn) (hal : al.length ≤ nn) (ok : Okv al) (hsw : Sw al ss) (h : Lst EE w sa ss) : Calls Try.prog 16 #[.slice sa n sc, .int .i64 root] w (DsPost w al root) := by
  have HX : Hid (Lst EE w sa ss ∧ ss.length = n ∧ nn < 100000000 ∧ n ≤ nn) := ⟨h, hn, hb, hnb⟩
  have HS : Hid (al.length ≤ nn ∧ Okv al ∧ Sw al ss) := ⟨hal, ok, hsw⟩
  have hn0 : (n : Int) < 100000000 := by omega
  have hn2 : (0 : Int) ≤ (n : Int) := by omega
  clear h hn hb hal ok hsw hnb
  go_enter Try.func16, Try.ntmps16
  go_wp2_with (refine list_rbuildo rfl _ rfl (m := ⟨root, 0, [], none, 0⟩) rfl ?_)
  intro b5 w1 hb1 ho1 hbl1
  have HO1 : Hid (OwnL ER w.heap.size w1 (.slice (some ⟨b5, 0, none⟩) 1 1) [⟨root, 0, [], none, 0⟩]) := ho1.out
  have HB1 : Hid (Below w.heap.size w w1) := hbl1.out
  clear hb1 ho1 hbl1
  go_wp2_with fail
  go_loopw [6, 5, 8, 9, 10, 11] (fun mv ov _ _ _ _ wr => ∃ (rs : List Rc) (mb : Bool), mv = .bool mb ∧ Below w.heap.size w wr ∧ OwnL ER w.heap.size wr ov rs ∧ Bf al root rs ∧ (mb = false → ∀ q x, q < n → ss[q]? = some x → Rx rs x)) (fun mv ov _ _ _ _ wr => 2 * mz nn ov wr + mb1 mv)
  case atStart => exact ⟨[⟨root, 0, [], none, 0⟩], true, rfl, HB1.out, HO1.out, Bf.start al root, fun c => (by cases c)⟩
  case round =>
    obtain ⟨rs, mb, rfl, hbl, how, hbf, hrx⟩ := hrel
    obtain ⟨wz, hwz⟩ : ∃ y, wr = y := ⟨_, rfl⟩
    rw [hwz] at hbl how ⊢
    obtain ⟨oa, oc, rfl⟩ := own_sl how
    obtain ⟨m, hm⟩ : ∃ y, rs.length = y := ⟨_, rfl⟩
    rw [hm] at how ⊢
    obtain ⟨g, rfl⟩ := own_some how (fun c => by obtain ⟨q, hq, -⟩ := hbf.rt; rw [c] at hq; cases hq)
    have HI : Hid (Below w.heap.size w wz ∧ OwnL ER w.heap.size wz (.slice (some ⟨g, 0, none⟩) m oc) rs ∧ Bf al root rs ∧ (mb = false → ∀ q x, q < n → ss[q]? = some x → Rx rs x) ∧ rs.length = m) := ⟨hbl, how, hbf, hrx, hm⟩
    have HMZ : Hid (mz nn (.slice (some ⟨g, 0, none⟩) m oc) wz = lf nn rs) := mz_of how hm
    clear hbl how hbf hrx hm hwz HO1
    cases mb
    case false =>
      have HE : Hid (DsPost w al root (.returned (.slice (some ⟨g, 0, none⟩) m oc)) wz) := ⟨_, rs, rfl, HI.out.2.1, HI.out.2.2.1.done (fun e he => by
        have h1 := (HS.out.2.2.mem e).2 he
        obtain ⟨q, hq⟩ := List.mem_iff_getElem?.1 h1
        exact HI.out.2.2.2.1 rfl q e (by have h2 := (List.getElem?_eq_some_iff.1 hq).1; have := HX.out.2.1; omega) hq), HI.out.1⟩
      go_wp2_with fail
      go_ret
      exact HE.out
    have HD0 : Hid (BfI al ss root nn (lf nn rs) w.heap.size 0 rs false (.slice (some ⟨g, 0, none⟩) m oc) wz) := ⟨HI.out.2.1, HI.out.2.2.1, Nat.le_refl _, fun c => (by cases c), fun _ q x h => absurd h (Nat.not_lt_zero q)⟩
    obtain ⟨L0, hL0⟩ : ∃ y, lf nn rs = y := ⟨_, rfl⟩
    rw [hL0] at HD0 HMZ
    clear hL0
    go_wp2_with fail
    go_loopw [18, 5, 6, 8, 9, 10, 11] (fun jv ov mv _ _ _ _ wr => ∃ (j : Nat) (rs : List Rc) (mb : Bool), j ≤ n ∧ jv = .int .i64 (j : Int) ∧ mv = .bool mb ∧ Below w.heap.size w wr ∧ BfI al ss root nn L0 w.heap.size j rs mb ov wr) (fun jv _ _ _ _ _ _ _ => n - (intOf jv).toNat)
    case atStart => exact ⟨0, rs, false, Nat.zero_le _, rfl, rfl, HI.out.1, HD0.out⟩
    case round =>
      obtain ⟨j, rs, mb, hjn, rfl, rfl, hbl, hdi⟩ := hrel
      obtain ⟨wy, hwy⟩ : ∃ y, wr = y := ⟨_, rfl⟩
      rw [hwy] at hbl hdi ⊢
      obtain ⟨oa, oc2, rfl⟩ := own_sl hdi.ow
      obtain ⟨m2, hm2⟩ : ∃ y, rs.length = y := ⟨_, rfl⟩
      rw [hm2] at hdi ⊢
      obtain ⟨g2, rfl⟩ := own_some hdi.ow (fun c => by obtain ⟨q, hq, -⟩ := hdi.bf.rt; rw [c] at hq; cases hq)
      have HJ : Hid (Below w.heap.size w wy ∧ BfI al ss root nn L0 w.heap.size j rs mb (.slice (some ⟨g2, 0, none⟩) m2 oc2) wy ∧ rs.length = m2 ∧ m2 ≤ nn + 1) := ⟨hbl, hdi, hm2, by have := hdi.bf.len; have := HS.out.1; omega⟩
      have hj0 : (j : Int) < 100000000 := by omega
      have hj2 : (0 : Int) ≤ (j : Int) := by omega
      have hm0 : (m2 : Int) < 1000000000 := by have := HJ.out.2.2.2; have := HX.out.2.2.1; omega
      clear hbl hdi hm2 hwy HD0
      by_cases hlt : j < n
      case neg =>
        have hjj : ¬ (j : Int) < (n : Int) := by omega
        have HM2 : Hid (mz nn (.slice (some ⟨g2, 0, none⟩) m2 oc2) wy = lf nn rs) := mz_of HJ.out.2.1.ow HJ.out.2.2.1
        have HG : Hid (∃ (rs2 : List Rc) (mb2 : Bool), Value.bool mb = .bool mb2 ∧ Below w.heap.size w wy ∧ OwnL ER w.heap.size wy (.slice (some ⟨g2, 0, none⟩) m2 oc2) rs2 ∧ Bf al root rs2 ∧ (mb2 = false → ∀ q x, q < n → ss[q]? = some x → Rx rs2 x)) := ⟨rs, mb, rfl, HJ.out.1, HJ.out.2.1.ow, HJ.out.2.1.bf, fun c q x h1 h2 => HJ.out.2.1.rx c q x (by omega) h2⟩
        have HLT : Hid (2 * mz nn (.slice (some ⟨g2, 0, none⟩) m2 oc2) wy + mb1 (Value.bool mb) < 2 * mz nn (.slice (some ⟨g, 0, none⟩) m oc) wz + mb1 (Value.bool true)) := by
          show _ < _
          rw [HM2.out, HMZ.out]
          have h1 := HJ.out.2.1.le
          have h2 := HJ.out.2.1.lt
          cases mb
          · show 2 * _ + 0 < 2 * _ + 1; omega
          · show 2 * _ + 1 < 2 * _ + 1; have := h2 rfl; omega
        go_wp2_with fail
        refine ⟨HG.out, ?_⟩
        first | exact HLT.out | (have h9 := HLT.out; simp at h9 ⊢; omega)
      have hjj : (j : Int) < (n : Int) := by omega
      obtain ⟨e, he⟩ : ∃ y, ss[j]? = some y := ⟨ss[j]'(by have := HX.out.2.1; omega), List.getElem?_eq_getElem _⟩
      have HEj : Hid (ss[j]? = some e) := he
      have HST : Hid (St al e ∧ 1 ≤ e.c ∧ e.c ≤ 65535) := by have h1 := (HS.out.2.2.mem e).1 (List.mem_of_getElem? he); exact ⟨h1, HS.out.2.1.c1 e h1.1⟩
      obtain ⟨lb, lo, rfl, -, -⟩ := HX.out.1.cells j (by have := HX.out.2.1; omega)
      have HCE : Hid (∀ q, q < 4 → wy.cell? ⟨lb, lo + j * 4 + q, none⟩ = (edL e)[q]?) := ed_cell HX.out.1 HJ.out.1 HEj.out
      clear he
      go_wp2_with (first | (refine list_sat EdK rfl _ rfl (b := lb) (k := lo + j * 4) (cs := edL e) rfl HCE.out rfl ?_) | (refine list_newl EdK _ z_ed rfl rfl ?_))
      intro b8 w5 hb5 hs5 hbl5
      have HB5 : Hid (wy.heap.size ≤ b8 ∧ Below wy.heap.size wy w5) := ⟨by rw [hb5.out]; exact Nat.le_refl _, hbl5.out⟩
      have HS5 : Hid (SB EdK b8 (edL ⟨0, 0, 0, 0⟩) w5) := hs5.out
      clear hb5 hs5 hbl5 HCE
      go_wp2_with (refine list_sstore EdK rfl _ _ rfl (b := b8) (cs := edL ⟨0, 0, 0, 0⟩) (cs' := edL e) rfl rfl HS5.out rfl rfl rfl ?_)
      intro w6 hs6 hk6
      have HS6 : Hid (SB EdK b8 (edL e) w6) := hs6.out
      have HB6 : Hid (Below wy.heap.size wy w6) := HB5.out.2.trans (hk6.out.below HB5.out.1)
      clear hs6 hk6 HS5 HB5
      go_upto_region 8 with fail
      obtain ⟨wd, hwd⟩ : ∃ y, w6.drew = y := ⟨_, rfl⟩
      have HWD : Hid (w6.drew = wd) := hwd
      have HBD : Hid (Below wy.heap.size wy wd ∧ SB EdK b8 (edL e) wd) := by rw [← hwd]; exact ⟨HB6.out.trans ((drew_bel w6).mono HB6.out.size), HS6.out.blk ((drew_bel w6).block b8 HS6.out.lt)⟩
      clear hwd HS6 HB6
      have HOD : Hid (OwnL ER w.heap.size wd (.slice (some ⟨g2, 0, none⟩) m2 oc2) rs) := HJ.out.2.1.ow.bel HBD.out.1
      have HFD : Hid (∀ z, Calls Try.prog 17 #[.slice (some ⟨g2, 0, none⟩) m2 oc2, .int .i64 z] wd (FiPost wd rs z)) := fun z => spffind_any (some ⟨g2, 0, none⟩) m2 oc2 rs z wd HJ.out.2.2.1 (by have := HJ.out.2.2.2; have := HX.out.2.2.1; omega) HOD.out.lst.1
      refine wp_region_held_drew (S := fun W => W = wd) (by kernel_rfl) HWD.out (fun hHeld => ?_)
      rw [HWD.out] at hHeld ⊢
      refine wpAnyH_take (i := 0) (v := .slice (some ⟨g2, 0, none⟩) m2 oc2) rfl (by kernel_rfl) (by kernel_rfl) (by kernel_rfl) (fun _ _ _ h => h) (Or.inl ⟨by rfl, ?_⟩) (by assumption) ?_
      case refine_1 => intro W hSw; go_simp; try rfl
      try simp only [Act.put, List.getElem_toArray, List.getElem_cons_zero, List.getElem_cons_succ, List.setIfInBounds_toArray, List.set_cons_zero, List.set_cons_succ]
      refine wpAnyH_take (i := 1) (v := .pointer (some ⟨b8, 0, none⟩)) rfl (by kernel_rfl) (by kernel_rfl) (by kernel_rfl) (fun _ _ _ h => h) (Or.inl ⟨by rfl, ?_⟩) (by assumption) ?_
      case refine_1 => intro W hSw; go_simp; try rfl
      try simp only [Act.put, List.getElem_toArray, List.getElem_cons_zero, List.getElem_cons_succ, List.setIfInBounds_toArray, List.set_cons_zero, List.set_cons_succ]
      refine wpAnyH_take (i := 2) (v := .int .i64 e.f) rfl (by kernel_rfl) (by kernel_rfl) (by kernel_rfl) (fun _ _ _ h => h) (Or.inl ⟨by rfl, ?_⟩) (by assumption) ?_
      case refine_1 => intro W hSw; rw [hSw]; have k1 : wd.cell? ⟨b8, 0, none⟩ = some (.int .i64 e.f) := HBD.out.2.cell 0; go_simp; try rfl
      try simp only [Act.put, List.getElem_toArray, List.getElem_cons_zero, List.getElem_cons_succ, List.setIfInBounds_toArray, List.set_cons_zero, List.set_cons_succ]
      refine wpAnyH_take (i := 4) (v := .slice (some ⟨g2, 0, none⟩) m2 oc2) rfl (by kernel_rfl) (by kernel_rfl) (by kernel_rfl) (fun _ _ _ h => h) (Or.inl ⟨by rfl, ?_⟩) (by assumption) ?_
      case refine_1 => intro W hSw; go_simp; try rfl
      try simp only [Act.put, List.getElem_toArray, List.getElem_cons_zero, List.getElem_cons_succ, List.setIfInBounds_toArray, List.set_cons_zero, List.set_cons_succ]
      refine wpAnyH_take (i := 5) (v := .pointer (some ⟨b8, 1, none⟩)) rfl (by kernel_rfl) (by kernel_rfl) (by kernel_rfl) (fun _ _ _ h => h) (Or.inl ⟨by rfl, ?_⟩) (by assumption) ?_
      case refine_1 => intro W hSw; go_simp; try rfl
      try simp only [Act.put, List.getElem_toArray, List.getElem_cons_zero, List.getElem_cons_succ, List.setIfInBounds_toArray, List.set_cons_zero, List.set_cons_succ]
      refine wpAnyH_take (i := 6) (v := .int .i64 e.t) rfl (by kernel_rfl) (by kernel_rfl) (by kernel_rfl) (fun _ _ _ h => h) (Or.inl ⟨by rfl, ?_⟩) (by assumption) ?_
      case refine_1 => intro W hSw; rw [hSw]; have k1 : wd.cell? ⟨b8, 1, none⟩ = some (.int .i64 e.t) := HBD.out.2.cell 1; go_simp; try rfl
      try simp only [Act.put, List.getElem_toArray, List.getElem_cons_zero, List.getElem_cons_succ, List.setIfInBounds_toArray, List.set_cons_zero, List.set_cons_succ]
      refine wpAnyH_ready (rs := [3]) (by kernel_rfl) (by simp) ?_
      refine AllReadyH.cons rfl (fun K hK => ?_) AllReadyH.nil
      go_simp
      refine (HFD.out e.f).mono ?_
      rintro e0 wf ⟨z1, rfl, rfl, hz⟩
      have HZ1 : Hid ((z1 = -1 ∧ ∀ x ∈ rs, x.n ≠ e.f) ∨ ∃ (j : Nat) (q : Rc), z1 = (j : Int) ∧ rs[j]? = some q ∧ q.n = e.f) := hz
      refine hK.out _ _ rfl (fun hHeld => ?_)
      clear hK K hz
      try simp only [Act.put, List.getElem_toArray, List.getElem_cons_zero, List.getElem_cons_succ, List.setIfInBounds_toArray, List.set_cons_zero, List.set_cons_succ]
      refine wpAnyH_ready (rs := [7]) (by kernel_rfl) (by simp) ?_
      refine AllReadyH.cons rfl (fun K hK => ?_) AllReadyH.nil
      go_simp
      refine (HFD.out e.t).mono ?_
      rintro e0 wf ⟨z2, rfl, rfl, hz⟩
      have HZ2 : Hid ((z2 = -1 ∧ ∀ x ∈ rs, x.n ≠ e.t) ∨ ∃ (j : Nat) (q : Rc), z2 = (j : Int) ∧ rs[j]? = some q ∧ q.n = e.t) := hz
      refine hK.out _ _ rfl (fun hHeld => ?_)
      clear hK K hz
      try simp only [Act.put, List.getElem_toArray, List.getElem_cons_zero, List.getElem_cons_succ, List.setIfInBounds_toArray, List.set_cons_zero, List.set_cons_succ]
      refine wpAnyH_take (i := 8) (v := .int .i64 z1) rfl (by kernel_rfl) (by kernel_rfl) (by kernel_rfl) (fun _ _ _ h => h) (Or.inl ⟨by rfl, ?_⟩) (by assumption) ?_
      case refine_1 => intro W hSw; go_simp; try rfl
      try simp only [Act.put, List.getElem_toArray, List.getElem_cons_zero, List.getElem_cons_succ, List.setIfInBounds_toArray, List.set_cons_zero, List.set_cons_succ]
      refine wpAnyH_take (i := 9) (v := .int .i64 z2) rfl (by kernel_rfl) (by kernel_rfl) (by kernel_rfl) (fun _ _ _ h => h) (Or.inl ⟨by rfl, ?_⟩) (by assumption) ?_
      case refine_1 => intro W hSw; go_simp; try rfl
      try simp only [Act.put, List.getElem_toArray, List.getElem_cons_zero, List.getElem_cons_succ, List.setIfInBounds_toArray, List.set_cons_zero, List.set_cons_succ]
      refine wpAnyH_done (by kernel_rfl) ?_ _
      clear hHeld
      have HBW : Hid (Below w.heap.size w wd) := HJ.out.1.trans (HBD.out.1.mono HJ.out.1.size)
      have HDI : Hid (BfI al ss root nn L0 w.heap.size j rs mb (.slice (some ⟨g2, 0, none⟩) m2 oc2) wd) := ⟨HOD.out, HJ.out.2.1.bf, HJ.out.2.1.le, HJ.out.2.1.lt, HJ.out.2.1.rx⟩
      have HNX : Hid (Rx rs e → (∃ (j2 : Nat) (rs2 : List Rc) (mb2 : Bool), j2 ≤ n ∧ Value.int .i64 (↑j + 1) = .int .i64 (j2 : Int) ∧ Value.bool mb = .bool mb2 ∧ Below w.heap.size w wd ∧ BfI al ss root nn L0 w.heap.size j2 rs2 mb2 (.slice (some ⟨g2, 0, none⟩) m2 oc2) wd)) := fun hr => ⟨j + 1, rs, mb, by omega, by simp, rfl, HBW.out, HDI.out.next HEj.out hr⟩
      rcases HZ1.out with ⟨rfl, hno⟩ | ⟨i, q, rfl, hqi, hqn⟩
      case inl =>
        have HR : Hid (Rx rs e) := rx_none hno
        clear hno
        go_wp2_with fail
        refine ⟨HNX.out HR.out, ?_⟩
        simp [intOf]
        omega
      have HQ : Hid (rs[i]? = some q ∧ q.n = e.f ∧ q ∈ rs) := ⟨hqi, hqn, List.mem_of_getElem? hqi⟩
      have hil : i < m2 := by have h1 := (List.getElem?_eq_some_iff.1 hqi).1; have := HJ.out.2.2.1; omega
      have hi0 : (i : Int) < (m2 : Int) := by omega
      have hi2 : (0 : Int) ≤ (i : Int) := by omega
      have hineg : ¬ (i : Int) < 0 := by omega
      have HQD : Hid (0 ≤ q.d ∧ q.d ≤ 65535 * (m2 : Int)) := ⟨HJ.out.2.1.bf.nn HS.out.2.1 HQ.out.2.2, by have h1 := HJ.out.2.1.bf.bd q HQ.out.2.2; rw [HJ.out.2.2.1] at h1; exact h1⟩
      clear hqi hqn
      obtain ⟨d, hd⟩ : ∃ y, q.d + e.c = y := ⟨_, rfl⟩
      have HD : Hid (q.d + e.c = d ∧ 0 ≤ d ∧ d < 281470681743360) := ⟨hd, by have h1 := HQD.out; have h2 := HST.out; omega, by have h1 := HQD.out; have h2 := HST.out; have := HJ.out.2.2.2; have := HX.out.2.2.1; omega⟩
      have hw3 : IntKind.i64.wrap (q.d + e.c) = d := by rw [← hd]; have h1 := HQD.out; have h2 := HST.out; have := HJ.out.2.2.2; have := HX.out.2.2.1; exact wr64 _ (by omega) (by omega)
      clear hd
      have HC1 : Hid (wd.cell? ⟨g2, i * 3 + 1, none⟩ = some (.int .i64 q.d)) := by
        have h1 := HOD.out.at0.1 i (by have := HJ.out.2.2.1; omega) 1 (by decide)
        have h2 := (List.getElem?_eq_some_iff.1 HQ.out.1).2
        rw [h2] at h1
        exact h1
      have HC2 : Hid (wd.cell? ⟨b8, 2, none⟩ = some (.int .i64 e.c)) := HBD.out.2.cell 2
      go_upto_region 10 with fail
      obtain ⟨we, hwe⟩ : ∃ y, wd.drew = y := ⟨_, rfl⟩
      have HWE : Hid (wd.drew = we) := hwe
      have HBE : Hid (Below wd.heap.size wd we) := by rw [← hwe]; exact drew_bel wd
      have HCE : Hid (we.cell? ⟨g2, i * 3 + 1, none⟩ = some (.int .i64 q.d) ∧ we.cell? ⟨b8, 2, none⟩ = some (.int .i64 e.c)) := by rw [← hwe]; exact ⟨HC1.out, HC2.out⟩
      clear hwe HC1 HC2
      refine wp_region_held_drew (S := fun W => W = we) (by kernel_rfl) HWE.out (fun hHeld => ?_)
      rw [HWE.out] at hHeld ⊢
      refine wpAnyH_take (i := 0) (v := .slice (some ⟨g2, 0, none⟩) m2 oc2) rfl (by kernel_rfl) (by kernel_rfl) (by kernel_rfl) (fun _ _ _ h => h) (Or.inl ⟨by rfl, ?_⟩) (by assumption) ?_
      case refine_1 => intro W hSw; go_simp; try rfl
      try simp only [Act.put, List.getElem_toArray, List.getElem_cons_zero, List.getElem_cons_succ, List.setIfInBounds_toArray, List.set_cons_zero, List.set_cons_succ]
      refine wpAnyH_take (i := 1) (v := .int .i64 (i : Int)) rfl (by kernel_rfl) (by kernel_rfl) (by kernel_rfl) (fun _ _ _ h => h) (Or.inl ⟨by rfl, ?_⟩) (by assumption) ?_
      case refine_1 => intro W hSw; go_simp; try rfl
      try simp only [Act.put, List.getElem_toArray, List.getElem_cons_zero, List.getElem_cons_succ, List.setIfInBounds_toArray, List.set_cons_zero, List.set_cons_succ]
      refine wpAnyH_take (i := 2) (v := .pointer (some ⟨g2, i * 3, none⟩)) rfl (by kernel_rfl) (by kernel_rfl) (by kernel_rfl) (fun _ _ _ h => h) (Or.inl ⟨by rfl, ?_⟩) (by assumption) ?_
      case refine_1 => intro W hSw; go_simp; try rfl
      try simp only [Act.put, List.getElem_toArray, List.getElem_cons_zero, List.getElem_cons_succ, List.setIfInBounds_toArray, List.set_cons_zero, List.set_cons_succ]
      refine wpAnyH_take (i := 3) (v := .pointer (some ⟨g2, i * 3 + 1, none⟩)) rfl (by kernel_rfl) (by kernel_rfl) (by kernel_rfl) (fun _ _ _ h => h) (Or.inl ⟨by rfl, ?_⟩) (by assumption) ?_
      case refine_1 => intro W hSw; go_simp; try rfl
      try simp only [Act.put, List.getElem_toArray, List.getElem_cons_zero, List.getElem_cons_succ, List.setIfInBounds_toArray, List.set_cons_zero, List.set_cons_succ]
      refine wpAnyH_take (i := 4) (v := .int .i64 q.d) rfl (by kernel_rfl) (by kernel_rfl) (by kernel_rfl) (fun _ _ _ h => h) (Or.inl ⟨by rfl, ?_⟩) (by assumption) ?_
      case refine_1 => intro W hSw; rw [hSw]; have k1 := HCE.out.1; go_simp; try rfl
      try simp only [Act.put, List.getElem_toArray, List.getElem_cons_zero, List.getElem_cons_succ, List.setIfInBounds_toArray, List.set_cons_zero, List.set_cons_succ]
      refine wpAnyH_take (i := 5) (v := .pointer (some ⟨b8, 2, none⟩)) rfl (by kernel_rfl) (by kernel_rfl) (by kernel_rfl) (fun _ _ _ h => h) (Or.inl ⟨by rfl, ?_⟩) (by assumption) ?_
      case refine_1 => intro W hSw; go_simp; try rfl
      try simp only [Act.put, List.getElem_toArray, List.getElem_cons_zero, List.getElem_cons_succ, List.setIfInBounds_toArray, List.set_cons_zero, List.set_cons_succ]
      refine wpAnyH_take (i := 6) (v := .int .i64 e.c) rfl (by kernel_rfl) (by kernel_rfl) (by kernel_rfl) (fun _ _ _ h => h) (Or.inl ⟨by rfl, ?_⟩) (by assumption) ?_
      case refine_1 => intro W hSw; rw [hSw]; have k1 := HCE.out.2; go_simp; try rfl
      try simp only [Act.put, List.getElem_toArray, List.getElem_cons_zero, List.getElem_cons_succ, List.setIfInBounds_toArray, List.set_cons_zero, List.set_cons_succ]
      refine wpAnyH_take (i := 7) (v := .int .i64 d) rfl (by kernel_rfl) (by kernel_rfl) (by kernel_rfl) (fun _ _ _ h => h) (Or.inl ⟨by rfl, ?_⟩) (by assumption) ?_
      case refine_1 => intro W hSw; go_simp; try rfl
      try simp only [Act.put, List.getElem_toArray, List.getElem_cons_zero, List.getElem_cons_succ, List.setIfInBounds_toArray, List.set_cons_zero, List.set_cons_succ]
      refine wpAnyH_take (i := 8) (v := .int .i64 d) rfl (by kernel_rfl) (by kernel_rfl) (by kernel_rfl) (fun _ _ _ h => h) (Or.inl ⟨by rfl, ?_⟩) (by assumption) ?_
      case refine_1 => intro W hSw; go_simp; try rfl
      try simp only [Act.put, List.getElem_toArray, List.getElem_cons_zero, List.getElem_cons_succ, List.setIfInBounds_toArray, List.set_cons_zero, List.set_cons_succ]
      refine wpAnyH_done (by kernel_rfl) ?_ _
      clear hHeld hw3 HCE
      have HOE : Hid (OwnL ER w.heap.size we (.slice (some ⟨g2, 0, none⟩) m2 oc2) rs) := HOD.out.bel HBE.out
      have HBX : Hid (Below w.heap.size w we) := HBW.out.trans (HBE.out.mono HBW.out.size)
      have HDJ : Hid (BfI al ss root nn L0 w.heap.size j rs mb (.slice (some ⟨g2, 0, none⟩) m2 oc2) we) := ⟨HOE.out, HJ.out.2.1.bf, HJ.out.2.1.le, HJ.out.2.1.lt, HJ.out.2.1.rx⟩
      have HSE : Hid (SB EdK b8 (edL e) we) := HBD.out.2.blk (HBE.out.block b8 HBD.out.2.lt)
      clear HBD HOD HFD HDI HNX HBW
      rcases HZ2.out with ⟨rfl, hno⟩ | ⟨k, y, rfl, hyk, hyn⟩
      case inl =>
        have HNO : Hid (∀ x ∈ rs, x.n ≠ e.t) := hno
        have c81 : we.cell? ⟨b8, 1, none⟩ = some (.int .i64 e.t) := HSE.out.cell 1
        clear hno
        go_wp2_with fail
        refine (spfadd_any w.heap.size (some ⟨g2, 0, none⟩) m2 oc2 rs ⟨e.t, d, [], none, 0⟩ we (by have := HJ.out.2.2.2; have := HX.out.2.2.1; omega) HOE.out).mono ?_
        rintro e0 w9 ⟨k, v, rfl, hk, h1, h2, how, hb9⟩
        have HG : Hid (∃ (j2 : Nat) (rs2 : List Rc) (mb2 : Bool), j2 ≤ n ∧ Value.int .i64 (↑j + 1) = .int .i64 (j2 : Int) ∧ Value.bool true = .bool mb2 ∧ Below w.heap.size w w9 ∧ BfI al ss root nn L0 w.heap.size j2 rs2 mb2 v w9) := by
          have hbf := HDJ.out.bf.add HS.out.2.1 HST.out.1 HQ.out.2.2 HQ.out.2.1 HNO.out h1 h2
          have hlf := HDJ.out.bf.add_lf HS.out.2.1 HS.out.1 HQD.out.1 hbf
          rw [HD.out.1] at hbf hlf
          exact ⟨j + 1, _, true, by omega, by simp, rfl, HBX.out.trans (hb9.mono HBX.out.size), how.mono HBX.out.size, hbf, by have := HDJ.out.le; omega, fun _ => by have := HDJ.out.le; omega, fun c => (by cases c)⟩
        obtain ⟨a9, c9, hv9⟩ := own_sl how
        obtain ⟨n9, hn9⟩ : ∃ y, (rs.take k ++ (⟨e.t, d, [], none, 0⟩ : Rc) :: rs.drop k).length = y := ⟨_, rfl⟩
        rw [hn9] at hv9
        subst hv9
        clear hk h1 h2 how hb9 c81 hn9
        go_wp2_with fail
        refine ⟨HG.out, ?_⟩
        simp [intOf]
        omega
      have HY : Hid (rs[k]? = some y ∧ y.n = e.t ∧ y ∈ rs) := ⟨hyk, hyn, List.mem_of_getElem? hyk⟩
      have hkl : k < m2 := by have h1 := (List.getElem?_eq_some_iff.1 hyk).1; have := HJ.out.2.2.1; omega
      have hk0 : (k : Int) < (m2 : Int) := by omega
      have hk2 : (0 : Int) ≤ (k : Int) := by omega
      have hkneg : ¬ (k : Int) < 0 := by omega
      have cy : we.cell? ⟨g2, k * 3 + 1, none⟩ = some (.int .i64 y.d) := by
        have h1 := HOE.out.at0.1 k (by have := HJ.out.2.2.1; omega) 1 (by decide)
        rw [(List.getElem?_eq_some_iff.1 hyk).2] at h1
        exact h1
      have fy : we.frozen? ⟨g2, k * 3 + 1, none⟩ = false := HOE.out.at0.2.1 _
      clear hyk hyn
      by_cases hdy : d < y.d
      case neg =>
        have HR : Hid (Rx rs e) := rx_le HDJ.out.bf HQ.out.2.2 HQ.out.2.1 HY.out.2.2 HY.out.2.1 (by rw [HD.out.1]; exact hdy)
        have HG : Hid (∃ (j2 : Nat) (rs2 : List Rc) (mb2 : Bool), j2 ≤ n ∧ Value.int .i64 (↑j + 1) = .int .i64 (j2 : Int) ∧ Value.bool mb = .bool mb2 ∧ Below w.heap.size w we ∧ BfI al ss root nn L0 w.heap.size j2 rs2 mb2 (.slice (some ⟨g2, 0, none⟩) m2 oc2) we) := ⟨j + 1, rs, mb, by omega, by simp, rfl, HBX.out, HDJ.out.next HEj.out HR.out⟩
        clear fy
        go_wp2_with fail
        refine ⟨HG.out, ?_⟩
        simp [intOf]
        omega
      have HG : Hid (∃ (j2 : Nat) (rs2 : List Rc) (mb2 : Bool), j2 ≤ n ∧ Value.int .i64 (↑j + 1) = .int .i64 (j2 : Int) ∧ Value.bool true = .bool mb2 ∧ Below w.heap.size w (we.setCell ⟨g2, k * 3 + 1, none⟩ (.int .i64 d)) ∧ BfI al ss root nn L0 w.heap.size j2 rs2 mb2 (.slice (some ⟨g2, 0, none⟩) m2 oc2) (we.setCell ⟨g2, k * 3 + 1, none⟩ (.int .i64 d))) := by
        have hbf := HDJ.out.bf.low HS.out.2.1 HST.out.1 HQ.out.2.2 HQ.out.2.1 HY.out.1 HY.out.2.1 (by rw [HD.out.1]; exact hdy)
        have hlf := HDJ.out.bf.low_lf HS.out.2.1 HY.out.1 (by rw [HD.out.1]; exact hdy) hbf (n := nn)
        rw [HD.out.1] at hbf hlf
        have hkr : k < rs.length := by have := HJ.out.2.2.1; omega
        have how := HOE.out.setc (i := k) (j := 1) hkr (by decide) (.int .i64 d) { y with d := d } (by rw [(List.getElem?_eq_some_iff.1 HY.out.1).2]; rfl)
        exact ⟨j + 1, _, true, by omega, by simp, rfl, HBX.out.setCell (p := ⟨g2, k * 3 + 1, none⟩) HOE.out.at0.2.2.2 _, how, hbf, by have := HDJ.out.le; omega, fun _ => by have := HDJ.out.le; omega, fun c => (by cases c)⟩
      go_wp2_with fail
      refine ⟨HG.out, ?_⟩
      simp [intOf]
      omega
end Go.Proofs.Ythhdpfgepjmgkaa.Dj
namespace Go.Proofs.Ythhdpfgepjmgkaa.Dj
open Go.ChangeShapes Go.WideShapes Go.ChangeAt Go.RowKit Go.Joins Go.Deep Go.Proofs.Ythhdpfgepjmgkaa.Ge
set_option linter.unusedVariables false
set_option linter.unusedSimpArgs false

/-- over this edge there is a path of that length -/
def Pc (al : List Ed) (e : Ed) (v d : Int) : Prop := ∃ p, isP al e.t p v ∧ e.c + plen p = d
theorem pc_iff {al : List Ed} {root : Int} {e : Ed} {v d yd : Int} (hs : St al e) (hf : e.f = root) (hq : Sh al root v d) (hy : Sh al e.t v yd) : e.c + yd = d ↔ Pc al e v d := by
  obtain ⟨⟨p, h1, h2⟩, h3⟩ := hy
  constructor
  · intro h
    exact ⟨p, h1, by omega⟩
  · rintro ⟨r, h4, h5⟩
    have h6 := h3 r h4
    have h7 := hq.2 (e :: p) ⟨hs, hf, h1⟩
    have h8 : plen (e :: p) = e.c + plen p := rfl
    omega
/-- the links of a way, up to place i -/
structure Lw (al ss : List Ed) (root : Int) (i : Nat) (n d : Int) (ls : List Int) : Prop where
  so : ls.Pairwise (· < ·)
  mem : ∀ x, x ∈ ls ↔ n ≠ root ∧ ∃ j e, j < i ∧ ss[j]? = some e ∧ e.f = root ∧ e.l = x ∧ Pc al e n d
theorem Lw.nil (al ss : List Ed) (root n d : Int) : Lw al ss root 0 n d [] := ⟨List.Pairwise.nil, fun x => ⟨fun h => absurd h List.not_mem_nil, fun ⟨_, j, e, h, _⟩ => absurd h (Nat.not_lt_zero j)⟩⟩
theorem Lw.skip {al ss : List Ed} {root n d : Int} {i : Nat} {ls : List Int} (h : Lw al ss root i n d ls) {e : Ed} (he : ss[i]? = some e) (hn : ¬ (e.f = root ∧ n ≠ root ∧ Pc al e n d)) : Lw al ss root (i + 1) n d ls := ⟨h.so, fun x => (h.mem x).trans ⟨fun ⟨a, j, y, h1, h2⟩ => ⟨a, j, y, by omega, h2⟩, fun ⟨a, j, y, h1, h2, h3, h4, h5⟩ => ⟨a, j, y, by
  rcases Nat.lt_or_ge j i with c | c
  · exact c
  · have : j = i := by omega
    subst this
    rw [he] at h2
    cases h2
    exact absurd ⟨h3, a, h5⟩ hn, h2, h3, h4, h5⟩⟩⟩
theorem Lw.add {al ss : List Ed} {root n d : Int} {i : Nat} {ls : List Int} (hso : ss.Pairwise eLt) (h : Lw al ss root i n d ls) {e : Ed} (he : ss[i]? = some e) (h1 : e.f = root) (h2 : n ≠ root) (h3 : Pc al e n d) : Lw al ss root (i + 1) n d (ls ++ [e.l]) := by
  refine ⟨List.pairwise_append.2 ⟨h.so, List.pairwise_singleton _ _, fun x hx y hy => ?_⟩, fun x => ?_⟩
  · rw [List.mem_singleton] at hy
    subst hy
    obtain ⟨-, j, z, k1, k2, k3, k4, -⟩ := (h.mem x).1 hx
    obtain ⟨hj, rfl⟩ := List.getElem?_eq_some_iff.1 k2
    obtain ⟨hi, rfl⟩ := List.getElem?_eq_some_iff.1 he
    have h5 := List.pairwise_iff_getElem.1 hso j i hj hi k1
    unfold eLt at h5
    omega
  · rw [List.mem_append, List.mem_singleton, h.mem]
    constructor
    · rintro (⟨a, j, z, k1, k2⟩ | c)
      · exact ⟨a, j, z, by omega, k2⟩
      · exact ⟨h2, i, e, by omega, he, h1, c.symm, h3⟩
    · rintro ⟨a, j, z, k1, k2, k3, k4, k5⟩
      rcases Nat.lt_or_ge j i with c | c
      · exact .inl ⟨a, j, z, c, k2, k3, k4, k5⟩
      · have : j = i := by omega
        subst this
        rw [he] at k2
        cases k2
        exact .inr k4.symm
theorem Lw.len {al ss : List Ed} {root n d : Int} {i : Nat} {ls : List Int} (h : Lw al ss root i n d ls) : ls.length ≤ ss.length := by
  have h1 : ls.length ≤ (ss.map (·.l)).length := nodup_le _ _ (by
    rw [List.nodup_iff_pairwise_ne]
    exact h.so.imp (fun h => by omega)) (fun x hx => by
    obtain ⟨-, j, e, -, h2, -, h3, -⟩ := (h.mem x).1 hx
    exact List.mem_map.2 ⟨e, List.mem_of_getElem? h2, h3⟩)
  rw [List.length_map] at h1
  exact h1
theorem Lw.told {al ss : List Ed} {root n d : Int} {i : Nat} {ls : List Int} (h : Lw al ss root i n d ls) (hi : ss.length ≤ i) (hsw : Sw al ss) (hsh : Sh al root n d) : Told al root n d ls := by
  refine ⟨hsh, h.so, fun e => ?_, fun hn x => (h.mem x).trans ?_⟩
  · cases hl : ls with
    | nil => rfl
    | cons x xs => exact absurd e ((h.mem x).1 (by rw [hl]; exact List.mem_cons_self)).1
  · constructor
    · rintro ⟨-, j, e, h1, h2, h3, h4, p, h5, h6⟩
      exact ⟨e, p, (hsw.mem e).1 (List.mem_of_getElem? h2), h3, h4, h5, h6⟩
    · rintro ⟨e, p, h1, h2, h3, h4, h5⟩
      obtain ⟨j, hj⟩ := List.mem_iff_getElem?.1 ((hsw.mem e).2 h1)
      exact ⟨hn, j, e, by have := (List.getElem?_eq_some_iff.1 hj).1; omega, hj, h2, h3, p, h4, h5⟩
/-- ways in memory whose links grow; F: blocks that are others' -/
structure Pw (N g m c : Nat) (rs : List Rc) (F : List Nat) (W : World) : Prop where
  ow : OwnL ER N W (.slice (some ⟨g, 0, none⟩) m c) rs
  ln : rs.length = m
  ck : ∀ (i : Nat) (q : Rc), rs[i]? = some q → OwnL EI N W (lv q) q.ls ∧ (lv q).ownBlock ≠ some g ∧ ∀ b ∈ F, (lv q).ownBlock ≠ some b
  pw : ∀ (i j : Nat) (p q : Rc), i ≠ j → rs[i]? = some p → rs[j]? = some q → ∀ x, (lv p).ownBlock = some x → (lv q).ownBlock ≠ some x
  fo : ∀ b ∈ F, b < W.heap.size ∧ b ≠ g
theorem Pw.bel {N g m c : Nat} {rs : List Rc} {F : List Nat} {W W' : World} (h : Pw N g m c rs F W) (hb : Below W.heap.size W W') : Pw N g m c rs F W' :=
  ⟨h.ow.bel hb, h.ln, fun i q hq => ⟨(h.ck i q hq).1.bel hb, (h.ck i q hq).2⟩, h.pw, fun b hbf => ⟨Nat.lt_of_lt_of_le (h.fo b hbf).1 hb.size, (h.fo b hbf).2⟩⟩
theorem Pw.foreign {N g m c : Nat} {rs : List Rc} {F : List Nat} {W W' : World} (h : Pw N g m c rs F W) (hb : Below W.heap.size W W') {b : Nat} (h1 : W.heap.size ≤ b) (h2 : b < W'.heap.size) : Pw N g m c rs (b :: F) W' := by
  have hg := h.ow.at0.2.2.1
  refine ⟨h.ow.bel hb, h.ln, fun i q hq => ⟨(h.ck i q hq).1.bel hb, (h.ck i q hq).2.1, fun x hx => ?_⟩, h.pw, fun x hx => ?_⟩
  · rcases List.mem_cons.1 hx with c | c
    · subst c; intro e; have := ((h.ck i q hq).1.row.lt _ e).2; omega
    · exact (h.ck i q hq).2.2 x c
  · rcases List.mem_cons.1 hx with c | c
    · subst c; exact ⟨h2, by omega⟩
    · exact ⟨Nat.lt_of_lt_of_le (h.fo x c).1 hb.size, (h.fo x c).2⟩
theorem Pw.less {N g m c : Nat} {rs : List Rc} {F F' : List Nat} {W : World} (h : Pw N g m c rs F W) (hf : ∀ b ∈ F', b ∈ F) : Pw N g m c rs F' W := ⟨h.ow, h.ln, fun i q hq => ⟨(h.ck i q hq).1, (h.ck i q hq).2.1, fun b hb => (h.ck i q hq).2.2 b (hf b hb)⟩, h.pw, fun b hb => h.fo b (hf b hb)⟩
/-- one more link -/
theorem Pw.upd {N g m c i : Nat} {rs : List Rc} {F : List Nat} {W W1 W2 : World} {q : Rc} {a' : Option Addr} {c' : Nat} {x : Int} (h : Pw N g m c rs F W) (hq : rs[i]? = some q) (hb : Below W.heap.size W W1) (ho : OwnL EI N W2 (.slice a' (q.ls ++ [x]).length c') (q.ls ++ [x])) (hg : W1.grownBy W2 (lv q).ownBlock) (hn : (Value.slice a' (q.ls ++ [x]).length c').ownBlock = (lv q).ownBlock ∨ (Value.slice a' (q.ls ++ [x]).length c').ownBlock = some W1.heap.size) :
    Pw N g m c (rs.set i ⟨q.n, q.d, q.ls ++ [x], a', c'⟩) F (W2.setCell ⟨g, i * 3 + 2, none⟩ (.slice a' (q.ls ++ [x]).length c')) ∧ (∀ b ∈ F, (W2.setCell ⟨g, i * 3 + 2, none⟩ (.slice a' (q.ls ++ [x]).length c')).heap[b]? = W.heap[b]?) ∧ Below N W (W2.setCell ⟨g, i * 3 + 2, none⟩ (.slice a' (q.ls ++ [x]).length c')) := by
  have hgl := h.ow.at0.2.2.1
  have hgn := h.ow.at0.2.2.2
  have hil := (List.getElem?_eq_some_iff.1 hq).1
  have hiq := (List.getElem?_eq_some_iff.1 hq).2
  have hqk := h.ck i q hq
  have hN1 : N ≤ W1.heap.size := Nat.le_trans (Nat.le_of_lt (Nat.lt_of_le_of_lt hgn hgl)) hb.size
  have hne : ∀ b, b < W.heap.size → (lv q).ownBlock ≠ some b → W2.heap[b]? = W.heap[b]? := fun b hl hd => (hg.block b (Nat.lt_of_lt_of_le hl hb.size) (Ne.symm hd)).trans (hb.block b hl)
  have hset : ∀ b, b ≠ g → (W2.setCell ⟨g, i * 3 + 2, none⟩ (.slice a' (q.ls ++ [x]).length c')).heap[b]? = W2.heap[b]? := fun b hd => Below.heap_setCell W2 ⟨g, i * 3 + 2, none⟩ _ b hd
  have hvb : ∀ b, b < W.heap.size → (lv q).ownBlock ≠ some b → (Value.slice a' (q.ls ++ [x]).length c').ownBlock ≠ some b := fun b hl hd e => by
    rcases hn with k | k
    · rw [k] at e; exact hd e
    · rw [k] at e
      cases e
      have := hb.size
      omega
  have how := (h.ow.blk (w' := W2) (fun b e => by cases e; exact hne g hgl hqk.2.1)).setc (i := i) (j := 2) hil (by decide) (.slice a' (q.ls ++ [x]).length c') ⟨q.n, q.d, q.ls ++ [x], a', c'⟩ (by rw [hiq]; rfl)
  have hget : ∀ (j : Nat) (p : Rc), (rs.set i ⟨q.n, q.d, q.ls ++ [x], a', c'⟩)[j]? = some p → (j = i ∧ p = ⟨q.n, q.d, q.ls ++ [x], a', c'⟩) ∨ (j ≠ i ∧ rs[j]? = some p) := fun j p hp => by
    by_cases cj : j = i
    · subst cj
      rw [List.getElem?_set_self hil] at hp
      exact .inl ⟨rfl, (Option.some.inj hp).symm⟩
    · rw [List.getElem?_set_ne (Ne.symm cj)] at hp
      exact .inr ⟨cj, hp⟩
  have hsz : W.heap.size ≤ W2.heap.size := Nat.le_trans hb.size hg.size
  refine ⟨⟨how, by rw [List.length_set]; exact h.ln, fun j p hp => ?_, fun j k p r hjk hp hr y e1 e2 => ?_, fun b hbf => ⟨?_, (h.fo b hbf).2⟩⟩, fun b hbf => ?_, ?_⟩
  · rcases hget j p hp with ⟨e, rfl⟩ | ⟨e, hp'⟩
    · refine ⟨ho.blk (fun y e => hset y ?_), ?_, fun b hbf => ?_⟩
      · intro e3
        rw [e3] at e
        exact hvb g hgl hqk.2.1 e
      · exact hvb g hgl hqk.2.1
      · exact hvb b (h.fo b hbf).1 (hqk.2.2 b hbf)
    · have hpk := h.ck j p hp'
      refine ⟨hpk.1.blk (fun y e4 => ?_), hpk.2⟩
      have hl := (hpk.1.row.lt y e4).2
      rw [hset y (fun e5 => hpk.2.1 (by rw [← e5]; exact e4))]
      exact hne y hl (fun e5 => h.pw j i p q e hp' hq y e4 e5)
  · rcases hget j p hp with ⟨ej, rfl⟩ | ⟨ej, hp'⟩ <;> rcases hget k r hr with ⟨ek, rfl⟩ | ⟨ek, hr'⟩
    · omega
    · have hl := ((h.ck k r hr').1.row.lt y e2).2
      exact hvb y hl (fun e5 => h.pw k i r q ek hr' hq y e2 e5) e1
    · have hl := ((h.ck j p hp').1.row.lt y e1).2
      exact hvb y hl (fun e5 => h.pw j i p q ej hp' hq y e1 e5) e2
    · exact h.pw j k p r hjk hp' hr' y e1 e2
  · have h1 := (h.fo b hbf).1
    have h2 : (W2.setCell ⟨g, i * 3 + 2, none⟩ (.slice a' (q.ls ++ [x]).length c')).heap.size = W2.heap.size := by simp
    omega
  · rw [hset b (h.fo b hbf).2]
    exact hne b (h.fo b hbf).1 (hqk.2.2 b hbf)
  · have hgr : Below N W1 W2 := (Below.refl N W1).grown hg hN1 (fun y e => (hqk.1.row.lt y e).1)
    have hwn : N ≤ W.heap.size := by omega
    exact ((hb.mono hwn).trans hgr).setCell (p := ⟨g, i * 3 + 2, none⟩) hgn _
end Go.Proofs.Ythhdpfgepjmgkaa.Dj
