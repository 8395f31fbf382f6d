/- SpfShortest: the law. -/
import Derived.Test.YthhdpfgepjmgkaaDkK
namespace Go.Proofs.Ythhdpfgepjmgkaa.Dj
open Go.ChangeShapes Go.WideShapes Go.ChangeAt Go.RowKit Go.Joins Go.Deep Go.Proofs.Ythhdpfgepjmgkaa.Ge
set_option linter.unusedVariables false
set_option linter.unusedSimpArgs false

/-- the list that Paths has handed out, to be read -/
structure Ls (es vs : List Ed) (root : Int) (f : Kw) (a : Option Addr) (m : Nat) (rs : List Rc) (W : World) : Prop where
  net : Net es vs root f
  lst : Lst ER W a rs
  len : rs.length = m
  kn : ∀ v d ls, f v = some (d, ls) ↔ ∃ q ∈ rs, q.n = v ∧ q.d = d ∧ q.ls = ls
  pw : rs.Pairwise (fun p q => p.n < q.n)
theorem Ls.bd {es vs : List Ed} {root : Int} {f : Kw} {a : Option Addr} {m : Nat} {rs : List Rc} {W : World} (h : Ls es vs root f a m rs W) : ∀ q ∈ rs, 0 ≤ q.d ∧ q.d ≤ far := fun q hq => h.net.bd q.n q.d q.ls ((h.kn _ _ _).2 ⟨q, hq, rfl, rfl, rfl⟩)
theorem Ls.root {es vs : List Ed} {root : Int} {f : Kw} {a : Option Addr} {m : Nat} {rs : List Rc} {W : World} (h : Ls es vs root f a m rs W) : (∃ q ∈ rs, q.n = root) ∧ ∀ q ∈ rs, q.n = root → q.d = 0 ∧ q.ls = [] := by
  constructor
  · cases hf : f root with
    | none => exact absurd hf (h.net.re root [] rfl)
    | some x => obtain ⟨q, hq, h1, -⟩ := (h.kn root x.1 x.2).1 hf; exact ⟨q, hq, h1⟩
  · intro q hq e
    have h1 := h.net.td q.n q.d q.ls ((h.kn _ _ _).2 ⟨q, hq, rfl, rfl, rfl⟩)
    rw [e] at h1
    exact ⟨h1.sh.uniq (Sh.self h.net.ok root), h1.rt rfl⟩
theorem Ls.walk {es vs : List Ed} {root : Int} {f : Kw} {a : Option Addr} {m : Nat} {rs : List Rc} {W : World} (h : Ls es vs root f a m rs W) {p : List Ed} {v : Int} (hp : isP vs root p v) : (∃ q ∈ rs, q.n = v) ∧ ∀ q ∈ rs, q.n = v → q.d ≤ plen p := by
  constructor
  · cases hf : f v with
    | none => exact absurd hf (h.net.re v p hp)
    | some x => obtain ⟨q, hq, h1, -⟩ := (h.kn v x.1 x.2).1 hf; exact ⟨q, hq, h1⟩
  · intro q hq e
    have h1 := h.net.td q.n q.d q.ls ((h.kn _ _ _).2 ⟨q, hq, rfl, rfl, rfl⟩)
    rw [e] at h1
    exact h1.sh.2 p hp
theorem Ls.met {es vs : List Ed} {root : Int} {f : Kw} {a : Option Addr} {m : Nat} {rs : List Rc} {W : World} (h : Ls es vs root f a m rs W) {r : Rc} (hr : r ∈ rs) (hn : r.n ≠ root) : ∃ i, Mt es rs r i := by
  obtain ⟨e, du, lu, h1, h2, h3, h4⟩ := h.net.met ((h.kn r.n r.d r.ls).2 ⟨r, hr, rfl, rfl, rfl⟩) hn
  obtain ⟨i, h5, h6⟩ := (sd_iff h.net).1 h1
  obtain ⟨q, hq, h7, h8, -⟩ := (h.kn e.f du lu).1 h3
  refine ⟨i, e, h5, h2, h6, ⟨q, hq, h7⟩, fun y hy e2 => ?_⟩
  have h9 := (h.kn y.n y.d y.ls).2 ⟨y, hy, rfl, rfl, rfl⟩
  rw [e2, h3] at h9
  cases h9
  exact h4
theorem plen_le {vs : List Ed} (ok : Okv vs) : ∀ (p : List Ed) (a b : Int), isP vs a p b → plen p ≤ 65535 * (p.length : Int)
  | [], _, _, _ => by simp [plen]
  | e :: p, a, b, h => by
    have h1 := plen_le ok p _ _ h.2.2
    have h2 := (ok.c1 e h.1.1).2
    show e.c + plen p ≤ _
    rw [List.length_cons]
    push_cast
    omega
set_option maxRecDepth 100000 in
set_option maxHeartbeats 64000000 in
theorem shortest_any (la : Option Addr) (n lc : Nat) (es : List Ed) (root : Int) (wa : Option Addr) (wn wc : Nat) (ws : List Int) (w : World) (hn : es.length = n) (hb : n < 99999999) (h : Lst EE w la es) (hwn : ws.length = wn) (hwb : wn < 1000000000) (hw : Lst EI w wa ws) : Calls Try.prog 4 #[.slice la n lc, .int .i64 root, .slice wa wn wc] w (BlPost w true) := by
  have HX : Hid (Lst EE w la es ∧ es.length = n ∧ n < 99999999) := ⟨h, hn, hb⟩
  have HW : Hid (Lst EI w wa ws ∧ ws.length = wn ∧ wn < 1000000000) := ⟨hw, hwn, hwb⟩
  have hn0 : (n : Int) < 99999999 := by omega
  have hn1 : (0 : Int) ≤ (n : Int) := by omega
  have hw0 : (wn : Int) < 1000000000 := by omega
  clear h hn hb hwn hwb hw
  go_enter Try.func4, Try.ntmps4
  go_wp2_with fail
  refine (paths_any la n lc es root w HX.out.2.1 HX.out.2.2 HX.out.1).mono ?_
  rintro e w1 ⟨vs, f, hnet, a, m, c, rs, rfl, hm, hl, -, hpw, hkn, -, -, hb1⟩
  have HL : Hid (Ls es vs root f a m rs w1) := ⟨hnet, hl, hm, hkn, hpw⟩
  have HB1 : Hid (Below w.heap.size w w1) := hb1
  have HM : Hid (m < 1000000000) := by
    have h1 : (rs.map (·.n)).length ≤ (root :: es.map (·.t)).length := nodup_le _ _ (by
      rw [List.nodup_iff_pairwise_ne, List.pairwise_map]
      exact hpw.imp (fun h => by omega)) (fun v hv => by
      obtain ⟨q, hq, rfl⟩ := List.mem_map.1 hv
      obtain ⟨⟨p, hp, -⟩, -⟩ := (hnet.td q.n q.d q.ls ((hkn _ _ _).2 ⟨q, hq, rfl, rfl, rfl⟩)).sh
      rcases isP_end p _ _ hp with c | ⟨e, he, c⟩
      · rw [c]; exact List.mem_cons_self
      · exact List.mem_cons_of_mem _ (List.mem_map.2 ⟨e, (lastE_some ((hnet.vm e).1 he)).1, c⟩))
    rw [List.length_map, List.length_cons, List.length_map, hm] at h1
    have h3 := HX.out
    show _ < _
    omega
  have hm0 : (m : Int) < 1000000000 := by have := HM.out; omega
  have hm1 : (0 : Int) ≤ (m : Int) := by omega
  clear hnet hl hm hkn hpw hb1
  go_wp2_with fail
  refine (at_any a m c rs root w1 HL.out.len HM.out HL.out.lst).mono ?_
  rintro e w2 ⟨q, ok, rfl, hb2, hq1, hq2⟩
  have hok : ok = true := by
    cases ok
    · obtain ⟨y, hy, e⟩ := HL.out.root.1
      exact absurd e ((hq2 rfl).2 y hy)
    · rfl
  subst hok
  have HQ : Hid (q.d = 0) := (HL.out.root.2 q (hq1 rfl).1 (hq1 rfl).2).1
  have HB2 : Hid (Below w1.heap.size w1 w2) := hb2
  clear hb2 hq1 hq2
  go_wp2_with (refine list_newl RcK _ z_rc rfl rfl ?_)
  intro b8 w3 hb3 hs3 hbl3
  have HB3 : Hid (w2.heap.size ≤ b8 ∧ Below w2.heap.size w2 w3) := ⟨by rw [hb3.out]; exact Nat.le_refl _, hbl3.out⟩
  have HS3 : Hid (SB RcK b8 (rcL zr) w3) := hs3.out
  clear hb3 hs3 hbl3
  go_wp2_with (refine list_sstore RcK rfl _ _ rfl (b := b8) (cs := rcL zr) (cs' := rcL q) rfl rfl HS3.out rfl rfl rfl ?_)
  intro w4 hs4 hk4
  have HB4 : Hid (Below w1.heap.size w1 w4) := HB2.out.trans ((HB3.out.2.trans (hk4.out.below HB3.out.1)).mono HB2.out.size)
  have c81 : w4.cell? ⟨b8, 1, none⟩ = some (.int .i64 0) := by have := hs4.out.cell 1; rw [← HQ.out]; exact this
  clear hs4 hk4 HS3 HB3 HB2
  go_wp2_with fail
  go_loopw [38, 13, 10, 11, 14, 15, 16] (fun iv _ av lv _ _ _ wr => ∃ (j : Nat) (p : List Ed) (x y : Int), j ≤ wn ∧ iv = .int .i64 (j : Int) ∧ av = .int .i64 x ∧ lv = .int .i64 y ∧ Below w1.heap.size w1 wr ∧ isP vs root p x ∧ plen p = y ∧ p.length ≤ j) (fun iv _ _ _ _ _ _ _ => wn - (intOf iv).toNat)
  case atStart => exact ⟨0, [], root, 0, Nat.zero_le _, rfl, rfl, rfl, HB4.out, rfl, rfl, Nat.le_refl _⟩
  case round =>
    obtain ⟨j, p, x, y, hjn, rfl, rfl, rfl, hbl, hp, hpl, hpj⟩ := hrel
    obtain ⟨wz, hwz⟩ : ∃ y, wr = y := ⟨_, rfl⟩
    rw [hwz] at hbl ⊢
    have HBz : Hid (Below w1.heap.size w1 wz) := hbl
    have HP : Hid (isP vs root p x ∧ plen p = y ∧ p.length ≤ j) := ⟨hp, hpl, hpj⟩
    have HYB : Hid (0 ≤ y ∧ y ≤ 65535 * (j : Int)) := by
      have h1 := plen_nn HL.out.net.ok p _ _ hp
      have h2 := plen_le HL.out.net.ok p _ _ hp
      exact ⟨by omega, by omega⟩
    have hj0 : (j : Int) < 1000000000 := by omega
    have hj2 : (0 : Int) ≤ (j : Int) := by omega
    clear hbl hp hpl hpj hwz c81
    by_cases hlt : j < wn
    case neg =>
      have hjj : ¬ (j : Int) < (wn : Int) := by omega
      go_wp2_with fail
      go_loopw [92, 18] (fun iv _ wr => ∃ (i : Nat), i ≤ m ∧ iv = .int .i64 (i : Int) ∧ Below w1.heap.size w1 wr) (fun iv _ _ => m - (intOf iv).toNat)
      case atStart => exact ⟨0, Nat.zero_le _, rfl, HBz.out⟩
      case round =>
        obtain ⟨i, him, rfl, hbl⟩ := hrel
        obtain ⟨wy, hwy⟩ : ∃ y, wr = y := ⟨_, rfl⟩
        rw [hwy] at hbl ⊢
        have HBy : Hid (Below w1.heap.size w1 wy) := hbl
        have hi0 : (i : Int) < 1000000000 := by omega
        have hi2 : (0 : Int) ≤ (i : Int) := by omega
        clear hbl hwy
        by_cases hlt : i < m
        case neg =>
          have hii : ¬ (i : Int) < (m : Int) := by omega
          have HE : Hid (BlPost w true (.returned (.bool true)) wy) := ⟨rfl, HB1.out.trans (HBy.out.mono HB1.out.size)⟩
          go_wp2_with fail
          go_ret
          exact HE.out
        have hii : (i : Int) < (m : Int) := by omega
        obtain ⟨lb, lo, rfl, -, hce⟩ := (HL.out.lst.bel HBy.out).cells i (by have := HL.out.len; omega)
        obtain ⟨r, hr⟩ : ∃ y, rs[i]'(by have := HL.out.len; omega) = y := ⟨_, rfl⟩
        rw [hr] at hce
        have HCE : Hid (∀ j, j < RcK.k → wy.cell? ⟨lb, lo + i * 3 + j, none⟩ = (rcL r)[j]?) := hce
        have HRV : Hid (r ∈ rs) := by rw [← hr]; exact List.getElem_mem _
        clear hce hr
        go_wp2_with (first | (refine list_sat RcK rfl _ rfl (b := lb) (k := lo + i * 3) (cs := rcL r) rfl HCE.out rfl ?_) | (refine list_newl RcK _ z_rc rfl rfl ?_))
        intro b18 w18 hb18 hs18 hbl18
        have HB18 : Hid (wy.heap.size ≤ b18 ∧ Below wy.heap.size wy w18) := ⟨by rw [hb18.out]; exact Nat.le_refl _, hbl18.out⟩
        have HS18 : Hid (SB RcK b18 (rcL zr) w18) := hs18.out
        clear hb18 hs18 hbl18 HCE
        go_wp2_with (refine list_sstore RcK rfl _ _ rfl (b := b18) (cs := rcL zr) (cs' := rcL r) rfl rfl HS18.out rfl rfl rfl ?_)
        intro w19 hs19 hk19
        have HB19 : Hid (Below w1.heap.size w1 w19) := HBy.out.trans ((HB18.out.2.trans (hk19.out.below HB18.out.1)).mono HBy.out.size)
        have HS19 : Hid (SB RcK b18 (rcL r) w19) := hs19.out
        clear hs19 hk19 HS18 HB18
        have c180 : w19.cell? ⟨b18, 0, none⟩ = some (.int .i64 r.n) := HS19.out.cell 0
        by_cases hrn : r.n = root
        case pos =>
          have hbn : (r.n != root) = false := by simp [hrn]
          clear hrn
          go_wp2_with fail
          refine ⟨⟨i + 1, by omega, by simp, HB19.out⟩, ?_⟩
          simp [intOf]
          omega
        have HMT : Hid (∃ i, Mt es rs r i) := HL.out.met HRV.out hrn
        have hbn : (r.n != root) = true := by simp [hrn]
        clear hrn
        go_wp2_with (refine list_gload RcK (by rfl) _ rfl (b := b18) (cs := rcL r) rfl HS19.out rfl ?_)
        refine (met_any la n lc es (some ⟨lb, lo, none⟩) m c rs r w19 HX.out.2.1 (by have := HX.out.2.2; omega) (HX.out.1.bel (HB1.out.trans (HB19.out.mono HB1.out.size))) HL.out.len HM.out (HL.out.lst.bel HB19.out) HL.out.bd).mono ?_
        rintro e0 w20 ⟨s, rfl, hs, hb20⟩
        have hst : s = true := hs HMT.out
        subst hst
        have HB20 : Hid (Below w1.heap.size w1 w20) := HB19.out.trans (hb20.mono HB19.out.size)
        clear hs hb20
        go_wp2_with fail
        refine ⟨⟨i + 1, by omega, by simp, HB20.out⟩, ?_⟩
        simp [intOf]
        omega
    have hjj : (j : Int) < (wn : Int) := by omega
    obtain ⟨lb, lo, rfl, -, hce⟩ := (HW.out.1.bel (HB1.out.trans (HBz.out.mono HB1.out.size))).cells j (by have := HW.out.2.1; omega)
    obtain ⟨v, hv⟩ : ∃ z, ws[j]'(by have := HW.out.2.1; omega) = z := ⟨_, rfl⟩
    rw [hv] at hce
    have c0 : wz.cell? ⟨lb, lo + j, none⟩ = some (.int .i64 v) := by have := hce 0 (by decide); simpa [EI] using this
    clear hce hv
    by_cases hn9 : n = 0
    case pos =>
      have hn8 : ((n : Int) == 0) = true := by simp [hn9]
      clear hn9
      go_wp2_with fail
      go_loopw [92, 18] (fun iv _ wr => ∃ (i : Nat), i ≤ m ∧ iv = .int .i64 (i : Int) ∧ Below w1.heap.size w1 wr) (fun iv _ _ => m - (intOf iv).toNat)
      case atStart => exact ⟨0, Nat.zero_le _, rfl, HBz.out⟩
      case round =>
        obtain ⟨i, him, rfl, hbl⟩ := hrel
        obtain ⟨wy, hwy⟩ : ∃ y, wr = y := ⟨_, rfl⟩
        rw [hwy] at hbl ⊢
        have HBy : Hid (Below w1.heap.size w1 wy) := hbl
        have hi0 : (i : Int) < 1000000000 := by omega
        have hi2 : (0 : Int) ≤ (i : Int) := by omega
        clear hbl hwy
        by_cases hlt : i < m
        case neg =>
          have hii : ¬ (i : Int) < (m : Int) := by omega
          have HE : Hid (BlPost w true (.returned (.bool true)) wy) := ⟨rfl, HB1.out.trans (HBy.out.mono HB1.out.size)⟩
          go_wp2_with fail
          go_ret
          exact HE.out
        have hii : (i : Int) < (m : Int) := by omega
        obtain ⟨lb, lo, rfl, -, hce⟩ := (HL.out.lst.bel HBy.out).cells i (by have := HL.out.len; omega)
        obtain ⟨r, hr⟩ : ∃ y, rs[i]'(by have := HL.out.len; omega) = y := ⟨_, rfl⟩
        rw [hr] at hce
        have HCE : Hid (∀ j, j < RcK.k → wy.cell? ⟨lb, lo + i * 3 + j, none⟩ = (rcL r)[j]?) := hce
        have HRV : Hid (r ∈ rs) := by rw [← hr]; exact List.getElem_mem _
        clear hce hr
        go_wp2_with (first | (refine list_sat RcK rfl _ rfl (b := lb) (k := lo + i * 3) (cs := rcL r) rfl HCE.out rfl ?_) | (refine list_newl RcK _ z_rc rfl rfl ?_))
        intro b18 w18 hb18 hs18 hbl18
        have HB18 : Hid (wy.heap.size ≤ b18 ∧ Below wy.heap.size wy w18) := ⟨by rw [hb18.out]; exact Nat.le_refl _, hbl18.out⟩
        have HS18 : Hid (SB RcK b18 (rcL zr) w18) := hs18.out
        clear hb18 hs18 hbl18 HCE
        go_wp2_with (refine list_sstore RcK rfl _ _ rfl (b := b18) (cs := rcL zr) (cs' := rcL r) rfl rfl HS18.out rfl rfl rfl ?_)
        intro w19 hs19 hk19
        have HB19 : Hid (Below w1.heap.size w1 w19) := HBy.out.trans ((HB18.out.2.trans (hk19.out.below HB18.out.1)).mono HBy.out.size)
        have HS19 : Hid (SB RcK b18 (rcL r) w19) := hs19.out
        clear hs19 hk19 HS18 HB18
        have c180 : w19.cell? ⟨b18, 0, none⟩ = some (.int .i64 r.n) := HS19.out.cell 0
        by_cases hrn : r.n = root
        case pos =>
          have hbn : (r.n != root) = false := by simp [hrn]
          clear hrn
          go_wp2_with fail
          refine ⟨⟨i + 1, by omega, by simp, HB19.out⟩, ?_⟩
          simp [intOf]
          omega
        have HMT : Hid (∃ i, Mt es rs r i) := HL.out.met HRV.out hrn
        have hbn : (r.n != root) = true := by simp [hrn]
        clear hrn
        go_wp2_with (refine list_gload RcK (by rfl) _ rfl (b := b18) (cs := rcL r) rfl HS19.out rfl ?_)
        refine (met_any la n lc es (some ⟨lb, lo, none⟩) m c rs r w19 HX.out.2.1 (by have := HX.out.2.2; omega) (HX.out.1.bel (HB1.out.trans (HB19.out.mono HB1.out.size))) HL.out.len HM.out (HL.out.lst.bel HB19.out) HL.out.bd).mono ?_
        rintro e0 w20 ⟨s, rfl, hs, hb20⟩
        have hst : s = true := hs HMT.out
        subst hst
        have HB20 : Hid (Below w1.heap.size w1 w20) := HB19.out.trans (hb20.mono HB19.out.size)
        clear hs hb20
        go_wp2_with fail
        refine ⟨⟨i + 1, by omega, by simp, HB20.out⟩, ?_⟩
        simp [intOf]
        omega
    have hn8 : ((n : Int) == 0) = false := by simp; omega
    obtain ⟨u, hu⟩ : ∃ z, IntKind.u64.wrap v = z := ⟨_, rfl⟩
    have hu0 : 0 ≤ u := by rw [← hu]; simp [IntKind.wrap, IntKind.bits, IntKind.signed]; omega
    obtain ⟨k, hk⟩ : ∃ k : Nat, u.tmod (n : Int) = (k : Int) := ⟨(u.tmod (n : Int)).toNat, by rw [Int.toNat_of_nonneg (Int.tmod_nonneg _ hu0)]⟩
    have HKN : Hid (k < n) := by have h1 := Int.tmod_lt_of_pos u (show (0 : Int) < (n : Int) by omega); show _ < _; omega
    have hk1 : (k : Int) < (n : Int) := by have := HKN.out; omega
    have hk2 : (0 : Int) ≤ (k : Int) := by omega
    clear hu0 hn9
    obtain ⟨e, he⟩ : ∃ z, es[k]? = some z := ⟨es[k]'(by have h1 := HX.out.2.1; have h2 := HKN.out; omega), List.getElem?_eq_getElem _⟩
    have HEk : Hid (es[k]? = some e) := he
    obtain ⟨eb, eo, rfl, -, -⟩ := HX.out.1.cells k (by have h1 := HX.out.2.1; have h2 := HKN.out; omega)
    have HCE : Hid (∀ q, q < 4 → wz.cell? ⟨eb, eo + k * 4 + q, none⟩ = (edL e)[q]?) := fun q hq => ed_cells HX.out.1 (HB1.out.trans (HBz.out.mono HB1.out.size)) HEk.out q hq
    clear he
    go_wp2_with (first | (refine list_sat EdK rfl _ rfl (b := eb) (k := eo + k * 4) (cs := edL e) rfl HCE.out rfl ?_) | (refine list_newl EdK _ z_ed rfl rfl ?_))
    intro b14 w14 hb14 hs14 hbl14
    have HB14 : Hid (wz.heap.size ≤ b14 ∧ Below wz.heap.size wz w14) := ⟨by rw [hb14.out]; exact Nat.le_refl _, hbl14.out⟩
    have HS14 : Hid (SB EdK b14 (edL ⟨0, 0, 0, 0⟩) w14) := hs14.out
    clear hb14 hs14 hbl14 HCE
    go_wp2_with (refine list_sstore EdK rfl _ _ rfl (b := b14) (cs := edL ⟨0, 0, 0, 0⟩) (cs' := edL e) rfl rfl HS14.out rfl rfl rfl ?_)
    intro w15 hs15 hk15
    have HB15 : Hid (Below w1.heap.size w1 w15) := HBz.out.trans ((HB14.out.2.trans (hk15.out.below HB14.out.1)).mono HBz.out.size)
    have HS15 : Hid (SB EdK b14 (edL e) w15) := hs15.out
    clear hs15 hk15 HS14 HB14
    have c140 : w15.cell? ⟨b14, 0, none⟩ = some (.int .i64 e.f) := HS15.out.cell 0
    by_cases hef : e.f = x
    case neg =>
      have hbe : (e.f != x) = true := by simp [hef]
      clear hef
      go_wp2_with fail
      refine ⟨⟨j + 1, p, x, y, by omega, by simp, rfl, rfl, HB15.out, HP.out.1, HP.out.2.1, Nat.le_succ_of_le HP.out.2.2⟩, ?_⟩
      simp [intOf]
      omega
    have HEF : Hid (e.f = x) := hef
    have hbe : (e.f != x) = false := by simp [hef]
    clear hef
    go_wp2_with fail
    refine (sd_any (some ⟨eb, eo, none⟩) n lc es k w15 HX.out.2.1 (by have := HX.out.2.2; omega) HKN.out (HX.out.1.bel (HB1.out.trans (HB15.out.mono HB1.out.size)))).mono ?_
    rintro e0 w16 ⟨s, rfl, hs, hb16⟩
    have HSD : Hid (s = true ↔ Sd es k) := hs
    have HB16 : Hid (Below w1.heap.size w1 w16) := HB15.out.trans (hb16.mono HB15.out.size)
    have HS16 : Hid (SB EdK b14 (edL e) w16) := HS15.out.blk (hb16.block b14 HS15.out.lt)
    clear hs hb16 hbe c140 HS15
    cases s
    case false =>
      go_wp2_with fail
      refine ⟨⟨j + 1, p, x, y, by omega, by simp, rfl, rfl, HB16.out, HP.out.1, HP.out.2.1, Nat.le_succ_of_le HP.out.2.2⟩, ?_⟩
      simp [intOf]
      omega
    have HST : Hid (St vs e) := (sd_iff HL.out.net).2 ⟨k, HEk.out, HSD.out.1 (by simp)⟩
    have HEC : Hid (1 ≤ e.c ∧ e.c ≤ 65535) := HL.out.net.ok.c1 e HST.out.1
    obtain ⟨y2, hy2⟩ : ∃ z, y + e.c = z := ⟨_, rfl⟩
    have HY2 : Hid (y + e.c = y2) := hy2
    have hw2 : wrap64 (y + e.c) = y2 := by rw [← hy2]; have h1 := HYB.out; have h2 := HEC.out; unfold wrap64; omega
    have hw3 : IntKind.i64.wrap (y + e.c) = y2 := by rw [← hy2]; have h1 := HYB.out; have h2 := HEC.out; exact wr64 _ (by omega) (by omega)
    have HP2 : Hid (isP vs root (p ++ [e]) e.t ∧ plen (p ++ [e]) = y2 ∧ (p ++ [e]).length ≤ j + 1) := ⟨isP_app p [e] root x e.t HP.out.1 ⟨HST.out, HEF.out, rfl⟩, by rw [plen_app, HP.out.2.1, ← HY2.out]; show y + (e.c + 0) = _; omega, by rw [List.length_append]; have := HP.out.2.2; simp; omega⟩
    clear hy2
    go_upto_region 12 with fail
    obtain ⟨wd, hwd⟩ : ∃ y, w16.drew = y := ⟨_, rfl⟩
    have HWD : Hid (w16.drew = wd) := hwd
    have HBD : Hid (Below w1.heap.size w1 wd) := by rw [← hwd]; exact HB16.out.trans ((drew_bel w16).mono HB16.out.size)
    have HSD2 : Hid (SB EdK b14 (edL e) wd) := by rw [← hwd]; exact HS16.out.blk ((drew_bel w16).block b14 HS16.out.lt)
    clear hwd
    refine wp_region_held_drew (S := fun W => SB EdK b14 (edL e) W) (by kernel_rfl) (by rw [HWD.out]; exact HSD2.out) (fun hHeld => ?_)
    rw [HWD.out] at hHeld ⊢
    refine wpAnyH_take (i := 0) (v := .pointer (some ⟨b14, 1, none⟩)) rfl (by kernel_rfl) (by kernel_rfl) (by kernel_rfl) (fun _ _ _ h => h) (Or.inl ⟨by rfl, ?_⟩) (by assumption) ?_
    case refine_1 => intro W hSw; go_simp; try rfl
    try simp only [Act.put, List.getElem_toArray, List.getElem_cons_zero, List.getElem_cons_succ, List.setIfInBounds_toArray, List.set_cons_zero, List.set_cons_succ]
    refine wpAnyH_take (i := 1) (v := .int .i64 e.t) rfl (by kernel_rfl) (by kernel_rfl) (by kernel_rfl) (fun _ _ _ h => h) (Or.inl ⟨by rfl, ?_⟩) (by assumption) ?_
    case refine_1 => intro W hSw; have k1 : W.cell? ⟨b14, 1, none⟩ = some (.int .i64 e.t) := hSw.cell 1; go_simp; try rfl
    try simp only [Act.put, List.getElem_toArray, List.getElem_cons_zero, List.getElem_cons_succ, List.setIfInBounds_toArray, List.set_cons_zero, List.set_cons_succ]
    refine wpAnyH_take (i := 2) (v := .int .i64 y) rfl (by kernel_rfl) (by kernel_rfl) (by kernel_rfl) (fun _ _ _ h => h) (Or.inl ⟨by rfl, ?_⟩) (by assumption) ?_
    case refine_1 => intro W hSw; go_simp; try rfl
    try simp only [Act.put, List.getElem_toArray, List.getElem_cons_zero, List.getElem_cons_succ, List.setIfInBounds_toArray, List.set_cons_zero, List.set_cons_succ]
    refine wpAnyH_take (i := 3) (v := .pointer (some ⟨b14, 2, none⟩)) rfl (by kernel_rfl) (by kernel_rfl) (by kernel_rfl) (fun _ _ _ h => h) (Or.inl ⟨by rfl, ?_⟩) (by assumption) ?_
    case refine_1 => intro W hSw; go_simp; try rfl
    try simp only [Act.put, List.getElem_toArray, List.getElem_cons_zero, List.getElem_cons_succ, List.setIfInBounds_toArray, List.set_cons_zero, List.set_cons_succ]
    refine wpAnyH_take (i := 4) (v := .int .i64 e.c) rfl (by kernel_rfl) (by kernel_rfl) (by kernel_rfl) (fun _ _ _ h => h) (Or.inl ⟨by rfl, ?_⟩) (by assumption) ?_
    case refine_1 => intro W hSw; have k1 : W.cell? ⟨b14, 2, none⟩ = some (.int .i64 e.c) := hSw.cell 2; go_simp; try rfl
    try simp only [Act.put, List.getElem_toArray, List.getElem_cons_zero, List.getElem_cons_succ, List.setIfInBounds_toArray, List.set_cons_zero, List.set_cons_succ]
    refine wpAnyH_take (i := 5) (v := .int .i64 y2) rfl (by kernel_rfl) (by kernel_rfl) (by kernel_rfl) (fun _ _ _ h => h) (Or.inl ⟨by rfl, ?_⟩) (by assumption) ?_
    case refine_1 => intro W hSw; go_simp; try rfl
    try simp only [Act.put, List.getElem_toArray, List.getElem_cons_zero, List.getElem_cons_succ, List.setIfInBounds_toArray, List.set_cons_zero, List.set_cons_succ]
    refine wpAnyH_take (i := 6) (v := .int .i64 e.t) rfl (by kernel_rfl) (by kernel_rfl) (by kernel_rfl) (fun _ _ _ h => h) (Or.inl ⟨by rfl, ?_⟩) (by assumption) ?_
    case refine_1 => intro W hSw; go_simp; try rfl
    try simp only [Act.put, List.getElem_toArray, List.getElem_cons_zero, List.getElem_cons_succ, List.setIfInBounds_toArray, List.set_cons_zero, List.set_cons_succ]
    refine wpAnyH_take (i := 7) (v := .int .i64 y2) rfl (by kernel_rfl) (by kernel_rfl) (by kernel_rfl) (fun _ _ _ h => h) (Or.inl ⟨by rfl, ?_⟩) (by assumption) ?_
    case refine_1 => intro W hSw; go_simp; try rfl
    try simp only [Act.put, List.getElem_toArray, List.getElem_cons_zero, List.getElem_cons_succ, List.setIfInBounds_toArray, List.set_cons_zero, List.set_cons_succ]
    refine wpAnyH_done (by kernel_rfl) ?_ _
    clear hHeld hw2 hw3
    go_wp2_with fail
    refine (at_any a m c rs e.t wd HL.out.len HM.out (HL.out.lst.bel HBD.out)).mono ?_
    rintro e0 w17 ⟨r, ok, rfl, hb17, hr1, hr2⟩
    have hok : ok = true := by
      cases ok
      · obtain ⟨z, hz, e3⟩ := (HL.out.walk HP2.out.1).1
        exact absurd e3 ((hr2 rfl).2 z hz)
      · rfl
    subst hok
    have HRD : Hid (r.d ≤ y2) := by have h1 := (HL.out.walk HP2.out.1).2 r (hr1 rfl).1 (hr1 rfl).2; rw [HP2.out.2.1] at h1; exact h1
    have HB17 : Hid (Below w1.heap.size w1 w17) := HBD.out.trans (hb17.mono HBD.out.size)
    clear hb17 hr1 hr2
    go_wp2_with (refine list_newl RcK _ z_rc rfl rfl ?_)
    intro b15 w18 hb18 hs18 hbl18
    have HB18 : Hid (w17.heap.size ≤ b15 ∧ Below w17.heap.size w17 w18) := ⟨by rw [hb18.out]; exact Nat.le_refl _, hbl18.out⟩
    have HS18 : Hid (SB RcK b15 (rcL zr) w18) := hs18.out
    clear hb18 hs18 hbl18
    go_wp2_with (refine list_sstore RcK rfl _ _ rfl (b := b15) (cs := rcL zr) (cs' := rcL r) rfl rfl HS18.out rfl rfl rfl ?_)
    intro w19 hs19 hk19
    have HB19 : Hid (Below w1.heap.size w1 w19) := HB17.out.trans ((HB18.out.2.trans (hk19.out.below HB18.out.1)).mono HB17.out.size)
    have c151 : w19.cell? ⟨b15, 1, none⟩ = some (.int .i64 r.d) := hs19.out.cell 1
    have hrd : ¬ y2 < r.d := by have := HRD.out; omega
    clear hs19 hk19 HS18 HB18
    go_wp2_with fail
    refine ⟨⟨j + 1, p ++ [e], e.t, y2, by omega, by simp, rfl, rfl, HB19.out, HP2.out.1, HP2.out.2.1, HP2.out.2.2⟩, ?_⟩
    simp [intOf]
    omega
end Go.Proofs.Ythhdpfgepjmgkaa.Dj
