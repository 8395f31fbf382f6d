/- PvStreams: what is kept between two pieces. -/
import Derived.Test.YtghlgkpfcpcopaaMgN
import Derived.Test.YtghlgkpfcpcopaaMgO
import Derived.Test.YtghlgkpfcpcopaaMgK
namespace Go.Proofs.Ytghlgkpfcpcopaa.Pv
open Go.ChangeShapes Go.WideShapes Go.ChangeAt Go.RowKit Go.Joins Go.Proofs.Ytghlgkpfcpcopaa.PM Go.Proofs.Ytghlgkpfcpcopaa.Ask Go.Proofs.Ytghlgkpfcpcopaa.Ge
set_option linter.unusedVariables false

/-- a part of a list of messages -/
theorem slice17_run {o : Oper} {ρ : Operand → Value} {W : World} (x lo : Operand) (ho : o.op = .slice 44 x (some lo) none none) {b f n c l : Nat} (hx : ρ x = .slice (some ⟨b, f, none⟩) n c) (hl : ρ lo = .int .i64 (l : Int)) (h1 : l ≤ n) (h2 : n ≤ c) :
    (execOp ρ o).run Try.prog W = .ok (.value (.slice (if c = l then some ⟨b, f, none⟩ else some ⟨b, f + l * 17, none⟩) (n - l) (c - l))) W := by
  have g2 : (l : Int) ≤ (n : Int) := by omega
  unfold execOp
  rw [ho]
  simp [go_sem, hx, hl, g2]
theorem slice17_none {o : Oper} {ρ : Operand → Value} {W : World} (x lo : Operand) (ho : o.op = .slice 44 x (some lo) none none) (hx : ρ x = .slice none 0 0) (hl : ρ lo = .int .i64 ((0 : Nat) : Int)) :
    (execOp ρ o).run Try.prog W = .ok (.value (.slice none 0 0)) W := by
  unfold execOp
  rw [ho]
  simp [go_sem, hx, hl]
theorem list_slice17 {ops : Array Oper} {rest : List Oper} {o : Oper} {ac : Act} {Q : Exit → Act → World → Prop} {W : World} (hgd : o.guard = none) (x lo : Operand) (ho : o.op = .slice 44 x (some lo) none none) {ao : Option Addr} {n c l : Nat} (hx : ac.eval x = .slice ao n c) (hl : ac.eval lo = .int .i64 (l : Int)) (h1 : l ≤ n) (h2 : n ≤ c) (hnil : ao = none → n = 0 ∧ c = 0) (hsp : ∀ ad, ao = some ad → ∃ b f, ad = ⟨b, f, none⟩)
    (k : ∀ va : Option Addr, Hid (∀ (W : World) (xs : List (Ms × Sl)), xs.length = n → Gm.Lst E17 W ao xs → Gm.Lst E17 W va (xs.drop l)) → wpList Try.prog ops Q rest (ac.put o.dst (.slice va (n - l) (c - l))) W) : wpList Try.prog ops Q (o :: rest) ac W := by
  refine wpList_plain hgd fun K hK => ?_
  unfold Oper.wp
  cases ao with
  | none =>
    obtain ⟨rfl, rfl⟩ := hnil rfl
    obtain rfl : l = 0 := by omega
    rw [slice17_none x lo ho hx hl]
    exact hK _ _ (k none (fun W xs hx h => by rw [List.drop_zero]; exact h))
  | some ad =>
    obtain ⟨b, f, rfl⟩ := hsp ad rfl
    rw [slice17_run x lo ho hx hl h1 h2]
    refine hK _ _ (k _ (fun W xs hx h => ?_))
    by_cases hc : c = l
    · have : xs.drop l = [] := List.length_eq_zero_iff.1 (by rw [List.length_drop, hx]; omega)
      rw [this]
      exact ⟨by simp, fun i hi => absurd hi (by simp)⟩
    · rw [if_neg hc]
      exact h.drop l
/-- between two pieces -/
structure SL (w : World) (bs M : Nat) (B : List Nat) (k : Nat) (wr : World) (a : Option Addr) (c : Nat) (x : List Nat) (f : Int) (ms : List Ms) : Prop where
  bel : Below w.heap.size w wr
  st : Stm M wr bs a c x f
  so : (ms, x, f) = parse (B.take k)
  hM : M ≤ wr.heap.size
  kl : k ≤ B.length
  hb : w.heap.size ≤ bs
theorem SL.ok {w : World} {bs M : Nat} {B : List Nat} {k : Nat} {wr : World} {a : Option Addr} {c : Nat} {x : List Nat} {f : Int} {ms : List Ms} (h : SL w bs M B k wr a c x f ms) : (f = 0 → SOk x) ∧ (f ≠ 0 → x = []) ∧ x.length ≤ 1024 := by
  have h1 := parse_state (B.take k)
  have h2 := rest_len (B.take k)
  rw [← h.so] at h1 h2
  exact ⟨h1.1, h1.2, h2⟩
/-- the piece is written over -/
structure Wip (w2 : World) (pb : Nat) (W : World) (va : Option Addr) (n cap N : Nat) : Prop where
  own : OwnN E8 N W va n cap
  pe : ∀ g, ob va = some g → g = pb
  kp : ∀ g, g ≠ pb → W.heap[g]? = w2.heap[g]?
  str : Below 0 w2 W
  sz : W.heap.size = w2.heap.size
theorem own_byte {N n c i : Nat} {W : World} {a : Option Addr} (h : OwnN E8 N W a n c) (hi : i < n) : ∃ g, a = some ⟨g, 0, none⟩ ∧ ob a = some g ∧ (∃ v, W.cell? ⟨g, i, none⟩ = some v) ∧ W.frozen? ⟨g, i, none⟩ = false ∧ OwnN E8 N (W.setCell ⟨g, i, none⟩ (.int .u8 7)) a n c := by
  obtain ⟨xs, hx, ho⟩ := h
  subst hx
  obtain ⟨b, o, rfl, -, -⟩ := lst8 ho.lst.1 i hi
  obtain ⟨a', c', e, -, -, h4⟩ := ho.form
  injection e with e1
  obtain ⟨rfl, -, -⟩ := h4 b o e1.symm
  obtain ⟨h1, h2, h3, -⟩ := ho.at0
  have c0 := h1 i hi 0 (by decide)
  refine ⟨b, rfl, rfl, ⟨.int .u8 (xs[i] : Int), by simpa [E8] using c0⟩, h2 _, ?_⟩
  have k1 := ho.setc (i := i) (j := 0) hi (by decide) (.int .u8 7) 7 rfl
  have e1 : i * E8.k + 0 = i := by show i * 1 + 0 = i; omega
  rw [e1] at k1
  exact ⟨xs.set i 7, by rw [List.length_set], k1⟩
theorem Wip.set {w2 W : World} {pb : Nat} {va : Option Addr} {n cap N g i : Nat} (h : Wip w2 pb W va n cap N) (e : ob va = some g) (ho : OwnN E8 N (W.setCell ⟨g, i, none⟩ (.int .u8 7)) va n cap) : Wip w2 pb (W.setCell ⟨g, i, none⟩ (.int .u8 7)) va n cap N := by
  have hk := Ko.set W g i (.int .u8 7)
  obtain rfl := h.pe g e
  exact ⟨ho, h.pe, fun g2 h2 => (hk.block g2 h2).trans (h.kp g2 h2), h.str.trans hk.str, hk.size.trans h.sz⟩
/-- some of the messages are spoilt -/
structure Spt (w5 : World) (M2 : Nat) (l : List (Ms × Sl)) (v : Value) (i : Nat) (W : World) : Prop where
  own : Gm.OwnL E17 M2 W v l
  each : ∀ j (h : j < l.length), i ≤ j → Mn M2 W l[j].1 l[j].2
  kp : ∀ g, g < w5.heap.size → (∀ p ∈ l, ¬ Mown p.2 g) → W.heap[g]? = w5.heap[g]?
  str : Below 0 w5 W
  lo : ∀ p ∈ l, ∀ g, Mown p.2 g → M2 ≤ g ∧ g < w5.heap.size
  ap : ∀ p ∈ l, ∀ g, Mown p.2 g → ¬ v.ownBlock = some g
  pw : l.Pairwise (fun p q => ∀ g, Mown p.2 g → ¬ Mown q.2 g)
theorem Spt.begin {W : World} {M2 : Nat} {l : List (Ms × Sl)} {v : Value} (h : MsL M2 W v l) : Spt W M2 l v 0 W :=
  ⟨h.own, fun j hj _ => (h.each _ (List.getElem_mem hj)).mn, fun _ _ _ => rfl, Below.refl _ _, fun p hp g hg => (h.each p hp).rng g hg, h.ap, h.pw⟩
theorem Spt.step {w5 W W' : World} {M2 i : Nat} {l : List (Ms × Sl)} {v : Value} (h : Spt w5 M2 l v i W) (hi : i < l.length) (hb : Below 0 W W') (hk : ∀ g, g < W.heap.size → ¬ Mown l[i].2 g → W'.heap[g]? = W.heap[g]?) : Spt w5 M2 l v (i + 1) W' := by
  have hm := List.getElem_mem hi
  refine ⟨h.own.blk (fun g e => hk g (h.own.row.lt g e).2 (fun hg => h.ap _ hm g hg e)), fun j hj hij => (h.each j hj (by omega)).blk hb.size (fun g hg hl => hk g hl (fun h2 => ?_)), fun g hg hp => (hk g (Nat.lt_of_lt_of_le hg h.str.size) (hp _ hm)).trans (h.kp g hg hp), h.str.trans hb, h.lo, h.ap, h.pw⟩
  exact (List.pairwise_iff_getElem.1 h.pw i j hi hj (by omega)) g h2 hg
/-- how many pieces are to come -/
def mz (n nc : Nat) (kv iv : Value) : Nat := if intOf kv = (n : Int) then 0 else nc + 1 - (intOf iv).toNat
theorem mz_end {n nc k kp i : Nat} {v : Value} (h : kp = n) (hk : k < n) (hi : i ≤ nc) : mz n nc (.int .i64 (kp : Int)) v < mz n nc (.int .i64 (k : Int)) (.int .i64 (i : Int)) := by
  unfold mz
  rw [if_pos (by simp [intOf]; omega), if_neg (by simp [intOf]; omega)]
  simp [intOf]
  omega
theorem mz_more {n nc k kp i : Nat} (hk : k < n) (hi : i < nc) : mz n nc (.int .i64 (kp : Int)) (.int .i64 ((i : Int) + 1)) < mz n nc (.int .i64 (k : Int)) (.int .i64 (i : Int)) := by
  unfold mz
  rw [if_neg (c := intOf (.int .i64 (k : Int)) = (n : Int)) (by simp [intOf]; omega)]
  split
  · simp [intOf]; omega
  · simp [intOf]; omega
/-! the walk -/
set_option maxRecDepth 100000 in
set_option maxHeartbeats 32000000 in
theorem streams_any (va : Option Addr) (n cap : Nat) (B : List Nat) (hn : B.length = n) (hcap : n ≤ cap) (w : World) (hl : Lst E8 w va B) (hu : ∀ d ∈ B, d < 256) (vc : Option Addr) (nc cc : Nat) (cs : List Int) (hcn : cs.length = nc) (hcl : Lst EI w vc cs) (hci : ∀ c ∈ cs, -9223372036854775808 ≤ c ∧ c < 9223372036854775808) (hnc : nc ≤ 9223372036854775807) (hnil : va = none → n = 0 ∧ cap = 0) :
    Calls Try.prog 5 #[.slice va n cap, .slice vc nc cc] w fun e w' => e = .returned (.bool true) ∧ Below w.heap.size w w' := by
  have HL : Hid (Lst E8 w va B) := hl
  have HN : Hid (B.length = n) := hn
  have HU : Hid (∀ d ∈ B, d < 256) := hu
  have HC : Hid (Lst EI w vc cs) := hcl
  have HCN : Hid (cs.length = nc) := hcn
  have HCI : Hid (∀ c ∈ cs, -9223372036854775808 ≤ c ∧ c < 9223372036854775808) := hci
  have hsm := hl.small
  rw [hn] at hsm
  clear hl hn hu hcl hcn hci
  go_enter Try.func5, Try.ntmps5
  by_cases hbig : 20000 < n
  · have hbi : (20000 : Int) < (n : Int) := by omega
    go_wp2_with fail
    go_ret
    exact ⟨rfl, Below.refl _ _⟩
  · have hbi : ¬ (20000 : Int) < (n : Int) := by omega
    go_wp2_with fail
    refine (new_any w).mono ?_
    rintro e w1 ⟨rfl, hst, hb1⟩
    obtain ⟨bs, hbs⟩ : ∃ y, w.heap.size = y := ⟨_, rfl⟩
    have HST1 : Hid (Stm (bs + 1) w1 bs none 0 [] 0) := by rw [← hbs]; exact hst _ (by omega)
    have HSL1 : Hid (SL w bs (bs + 1) B 0 w1 none 0 [] 0 []) := ⟨hb1, HST1.out, by rw [List.take_zero, parse_wait sok_nil], HST1.out.hl, by omega, by omega⟩
    have HBS : Hid (w.heap.size ≤ bs) := by show _ ≤ _; omega
    rw [hbs]
    clear hst hb1 hbs HST1
    go_wp2_with fail
    go_loopw [6, 7, 8] (fun wv kv iv wr => ∃ (k : Nat) (a : Option Addr) (c : Nat) (x : List Nat) (f : Int) (ms : List Ms), kv = .int .i64 (k : Int) ∧ wv = .int .i64 (ms.length : Int) ∧ SL w bs (bs + 1) B k wr a c x f ms ∧ ((∃ i : Nat, i ≤ nc ∧ iv = .int .i64 (i : Int)) ∨ k = n) ∧ ms.length ≤ k) (fun _ kv iv _ => mz n nc kv iv)
    case atStart => exact ⟨0, none, 0, [], 0, [], rfl, rfl, HSL1.out, .inl ⟨0, by omega, rfl⟩, by simp⟩
    case round =>
      obtain ⟨k, a, c, x, f, ms, rfl, rfl, hs, hin, hmk⟩ := hrel
      have HS : Hid (SL w bs (bs + 1) B k wr a c x f ms) := hs
      have hkn : k ≤ n := by rw [← HN.out]; exact hs.kl
      obtain ⟨wn, hwn⟩ : ∃ y, ms.length = y := ⟨_, rfl⟩
      have HWN : Hid (ms.length = wn) := hwn
      rw [hwn] at hmk ⊢
      clear hs hwn HSL1
      obtain ⟨wq, hwq⟩ : ∃ y, wr = y := ⟨_, rfl⟩
      rw [hwq] at HS ⊢
      clear hwq
      by_cases hlt : k < n
      · have hlti : (k : Int) < (n : Int) := by omega
        obtain ⟨i, hinc, rfl⟩ : ∃ i : Nat, i ≤ nc ∧ u8 = .int .i64 (i : Int) := hin.resolve_right (by omega)
        clear hin
        obtain ⟨vb, vo, rfl, -, -⟩ := lst8 HL.out 0 (by rw [HN.out]; omega)
        have HLQ : Hid (Lst E8 wq (some ⟨vb, vo, none⟩) B) := HL.out.bel HS.out.bel
        obtain ⟨rs, hrs⟩ : ∃ y, n - k = y := ⟨_, rfl⟩
        have hrsi : (n : Int) - (k : Int) = (rs : Int) := by omega
        have HE8 : Hid (∀ x : Nat, vo + x * E8.k = vo + x) := fun x => by show vo + x * 1 = _; omega
        by_cases hic : i < nc
        case' pos =>
          have hici : (i : Int) < (nc : Int) := by omega
          obtain ⟨cb, co, rfl, -, c0⟩ := lstI (HC.out.bel HS.out.bel) i (by rw [HCN.out]; exact hic)
          obtain ⟨cv, hcv⟩ : ∃ y, cs[i]'(by rw [HCN.out]; exact hic) = y := ⟨_, rfl⟩
          have hcvr : -9223372036854775808 ≤ cv ∧ cv < 9223372036854775808 := by rw [← hcv]; exact HCI.out _ (List.getElem_mem _)
          rw [hcv] at c0
          obtain ⟨j, hj⟩ : ∃ y, md cv 200 = y := ⟨_, rfl⟩
          have HMOD := mod_any cv hcvr 200 (by omega) (by omega) j hj wq
          have HMD : Hid (Calls Try.prog 14 #[.int .i64 cv, .int .i64 200] wq fun e w' => e = .returned (.int .i64 (j : Int)) ∧ w' = wq) := HMOD
          clear hcv hj HMOD
          by_cases hjr : j < rs
          case' pos =>
            have hjri : (j : Int) < (rs : Int) := by omega
            have HPE : Hid (k + j ≤ n ∧ (i = nc → k + j = n)) := ⟨by omega, fun e => by omega⟩
            obtain ⟨pn, rfl⟩ : ∃ y, y = j := ⟨_, rfl⟩
          case' neg =>
            have hjri : ¬ (j : Int) < (rs : Int) := by omega
            have HPE : Hid (k + rs ≤ n ∧ (i = nc → k + rs = n)) := ⟨by omega, fun e => by omega⟩
            obtain ⟨pn, rfl⟩ : ∃ y, y = rs := ⟨_, rfl⟩
          all_goals
            obtain ⟨kp, hkp⟩ : ∃ y, k + pn = y := ⟨_, rfl⟩
            have hkpi : (k : Int) + (pn : Int) = (kp : Int) := by omega
            have HKP : Hid (k + pn = kp) := hkp
            have g1 : k ≤ kp := by omega
            have g2 : kp ≤ cap := by have := HPE.out; omega
            clear hkp hrs
            go_wp2_with (first | (go_at_call 14; refine HMD.out.mono ?_; rintro e w' ⟨rfl, hw'⟩; rw [hw']; clear hw' w') | (refine list_slice8 rfl _ _ _ rfl (b := vb) (f := vo) (n := n) (c := cap) (l := k) (h := kp) rfl rfl rfl g1 g2 ?_))
        case' neg =>
          have hici : ¬ (i : Int) < (nc : Int) := by omega
          have hici2 : ¬ (nc : Int) < (i : Int) := by omega
          have HPE : Hid (k + rs ≤ n ∧ (i = nc → k + rs = n)) := ⟨by omega, fun e => by omega⟩
          obtain ⟨pn, rfl⟩ : ∃ y, y = rs := ⟨_, rfl⟩
          obtain ⟨kp, hkp⟩ : ∃ y, k + pn = y := ⟨_, rfl⟩
          have hkpi : (k : Int) + (pn : Int) = (kp : Int) := by omega
          have HKP : Hid (k + pn = kp) := hkp
          have g1 : k ≤ kp := by omega
          have g2 : kp ≤ cap := by have := HPE.out; omega
          clear hkp hrs
          go_wp2_with (refine list_slice8 rfl _ _ _ rfl (b := vb) (f := vo) (n := n) (c := cap) (l := k) (h := kp) rfl rfl rfl g1 g2 ?_)
        all_goals
          intro vp hvp hvpn
          obtain ⟨pc, hpc⟩ : ∃ y, (B.drop k).take pn = y := ⟨_, rfl⟩
          have HPC : Hid ((B.drop k).take pn = pc) := hpc
          have HPL : Hid (pc.length = kp - k) := by show _ = _; rw [← hpc, List.length_take, List.length_drop, HN.out]; have := HPE.out; have := HKP.out; omega
          have HPU : Hid (∀ d ∈ pc, d < 256) := by rw [← hpc]; exact take_u8 (drop_u8 HU.out k) pn
          obtain ⟨ho1, hb1⟩ := own_made0 E8 (W := wq) rfl
          have HO1 : Hid (OwnL E8 wq.heap.size (wq.alloc (Obj.cells #[] 5)) (.slice (some ⟨wq.heap.size, 0, none⟩) 0 0) []) := ho1
          have HB1 : Hid (Below wq.heap.size wq (wq.alloc (Obj.cells #[] 5))) := hb1
          have HN1 : Hid (wq.heap.size ≤ (wq.alloc (Obj.cells #[] 5)).heap.size) := hb1.size
          have HL1 : Hid (([] : List Nat).length + (kp - k) ≤ 1099511627775) := by show _ ≤ _; simp; have := HPE.out; have := HKP.out; omega
          have HT1 : Hid (Lst E8 (wq.alloc (Obj.cells #[] 5)) vp pc) := by
            show Lst _ _ _ _
            by_cases hck : cap = k
            · have : pc = [] := List.length_eq_zero_iff.1 (by rw [HPL.out]; omega)
              rw [this]
              exact ⟨by simp, fun i hi => absurd hi (by simp)⟩
            · rw [hvp.out hck, ← hpc]
              have h5 := ((HLQ.out.bel hb1).drop k).take pn
              rw [HE8.out] at h5
              exact h5
          have HNI1 : Hid (vp = none → kp - k = 0 ∧ cap - k = 0) := fun e => absurd e hvpn.out
          clear ho1 hb1 hpc
          go_wp2_with (at_builtin; refine list_appL E8 rfl _ _ 22 rfl rfl wq.heap.size (.slice (some ⟨wq.heap.size, 0, none⟩) 0 0) [] pc vp (kp - k) (cap - k) _ HL1.out rfl HO1.out rfl HT1.out HNI1.out HPL.out HN1.out ?_)
          intro v2 w2 ho2 hg2 ha2
          have HO2 : Hid (OwnL E8 wq.heap.size w2 v2 pc) := ho2.out
          have HB2 : Hid (Below wq.heap.size wq w2) := HB1.out.grown hg2.out HN1.out (fun g e => (HO1.out.row.lt g e).1)
          obtain ⟨pa, pq, hv2, hpq, -, hpb⟩ := HO2.out.form
          obtain ⟨pl, hpl⟩ : ∃ y, pc.length = y := ⟨_, rfl⟩
          have HPLN : Hid (pc.length = pl) := hpl
          rw [hpl] at hv2 hpq
          subst hv2
          have hpl2 : pl = kp - k := by rw [← hpl]; exact HPL.out
          have HPL2 : Hid (pl = kp - k) := hpl2
          have hplb : pl ≤ 20000 := by have := HPE.out; have := HKP.out; omega
          have HS2 : Hid (Stm (bs + 1) w2 bs a c x f) := HS.out.st.bel HB2.out
          have HRA : Hid (∀ g, ob a = some g → g < wq.heap.size) := fun g e => (own_obr HS.out.st.own g e).2
          have HRP : Hid (∀ ad, pa = some ad → wq.heap.size ≤ ad.block ∧ ad.block < w2.heap.size) := fun ad e => HO2.out.row.lt ad.block (by rw [e]; rfl)
          have HBW : Hid (bs < wq.heap.size) := HS.out.st.hl
          have HFD : Hid (Fed w2 bs a pa pl pq pc) := ⟨HO2.out.lst.1, hpl, hpq, HPU.out, fun ad e => ⟨by have := HRP.out ad e; have := HBW.out; omega, fun e2 => by have := HRA.out _ e2; have := HRP.out ad e; omega, (HRP.out ad e).2⟩⟩
          have HOKS : Hid ((f = 0 → SOk x) ∧ (f ≠ 0 → x = []) ∧ x.length ≤ 1024) := HS.out.ok
          obtain ⟨T1, T2, T3, hT⟩ : ∃ a b c, TK x f pc = (a, b, c) := ⟨_, _, _, rfl⟩
          have HPP : Hid ((ms ++ T1, T2, T3) = parse (B.take kp)) := by
            have h5 := parse_piece (n := pn) HS.out.so
            rw [HPC.out, hT, HKP.out] at h5
            exact h5
          have HTK := take_any (bs + 1) bs a c x f pa pl pq pc w2 HS2.out HOKS.out.1 (Nat.le_trans HS.out.hM HB2.out.size) HFD.out (by have := HOKS.out.2.2; omega)
          rw [hT] at HTK
          have HTKH : Hid (Calls Try.prog 15 #[.pointer (some ⟨bs, 0, none⟩), .slice pa pl pq] w2 (TkPost (bs + 1) w2 bs a (T1, T2, T3))) := HTK
          have HTS : Hid (TK x f pc = (T1, T2, T3)) := hT
          clear ho2 hg2 ha2 hpb hpl hpl2 HTK hT HO1 HB1 HN1 HL1 HT1 HNI1 hvp hvpn
          go_wp2_with fail
          refine HTKH.out.mono ?_
          rintro e w3 ⟨v3, l3, a3, c3, rfl, hms3, hl3, hst3, hkt3, hap3, hap3v⟩
          dsimp only at hl3 hst3 ⊢
          obtain ⟨pb, hpb1, hpb2, hpb3, hpb4, hpb5⟩ : ∃ pb, (∀ g, ob pa = some g → g = pb) ∧ pb ≠ bs ∧ (∀ g, ob a3 = some g → g ≠ pb) ∧ (pb < w2.heap.size ∨ w3.heap.size ≤ pb) ∧ w.heap.size ≤ pb := by
            have z1 := HS.out.bel.size
            have z2 := HB2.out.size
            have z3 := hkt3.str.size
            cases pa with
            | none =>
              refine ⟨w3.heap.size, (fun g e => by cases e), by have := hst3.hl; omega, fun g e => ?_, .inr (Nat.le_refl _), by omega⟩
              have := (own_obr hst3.own g e).2
              omega
            | some ad =>
              have h5 := HRP.out ad rfl
              have h6 := HBW.out
              refine ⟨ad.block, (fun g e => by cases e; rfl), by omega, fun g e => ?_, .inl h5.2, by omega⟩
              rcases hkt3.now g e with e2 | e2
              · have := HRA.out g e2; omega
              · omega
          have HW0 : Hid (Wip w3 pb w3 pa pl pq wq.heap.size) := by
            refine ⟨⟨pc, HPLN.out, own_obk HO2.out (fun g e h1 h2 => hkt3.block g h2 (by have := HBW.out; omega) (fun e2 => by have := HRA.out g e2; omega))⟩, hpb1, fun _ _ => rfl, Below.refl _ _, rfl⟩
          have HPB : Hid (pb ≠ bs ∧ (∀ g, ob a3 = some g → g ≠ pb) ∧ (pb < w2.heap.size ∨ w3.heap.size ≤ pb) ∧ w.heap.size ≤ pb) := ⟨hpb2, hpb3, hpb4, hpb5⟩
          have HMS3 : Hid (MsL w2.heap.size w3 v3 l3) := hms3
          have HL3 : Hid (l3.map (fun p => p.1) = T1) := hl3
          have HST3 : Hid (Stm (bs + 1) w3 bs a3 c3 T2 T3) := hst3
          have HB03 : Hid (Below w.heap.size w w3) := by
            refine ⟨hkt3.str.os.trans (HB2.out.os.trans HS.out.bel.os), hkt3.str.tape.trans (HB2.out.tape.trans HS.out.bel.tape), hkt3.str.output.trans (HB2.out.output.trans HS.out.bel.output), Nat.le_trans HS.out.bel.size (Nat.le_trans HB2.out.size hkt3.str.size), fun g hg => ?_⟩
            have z1 := HS.out.bel.size
            have z2 := HB2.out.size
            have hb := HS.out.hb
            exact ((hkt3.block g (by omega) (by omega) (fun e => by have := (own_obr HS.out.st.own g e).1; omega)).trans (HB2.out.block g (by omega))).trans (HS.out.bel.block g hg)
          have HA3 : Hid (∀ p ∈ l3, ∀ g, Mown p.2 g → ¬ ob a3 = some g) := hap3
          have HZ23 : Hid (w2.heap.size ≤ w3.heap.size) := hkt3.str.size
          obtain ⟨va3, vq3, hv3, hvq3, hvn3, -⟩ := hms3.own.form
          obtain ⟨nl3, hnl3⟩ : ∃ y, l3.length = y := ⟨_, rfl⟩
          have HNL3 : Hid (l3.length = nl3) := hnl3
          rw [hnl3] at hv3 hvq3
          have HA3V : Hid (∀ g, v3.ownBlock = some g → ¬ ob a3 = some g) := hap3v
          subst hv3
          clear hms3 hl3 hst3 hkt3 hap3 hap3v hpb1 hpb2 hpb3 hpb4 hpb5 hnl3 hvn3
          go_wp2_with fail
          go_loopw [73] (fun jv wr => ∃ j : Nat, j ≤ pl ∧ jv = .int .i64 (j : Int) ∧ Wip w3 pb wr pa pl pq wq.heap.size) (fun j _ => pl - (intOf j).toNat)
          case atStart => exact ⟨0, by omega, rfl, HW0.out⟩
          case round =>
            obtain ⟨j, hj, rfl, hw⟩ := hrel
            have HW : Hid (Wip w3 pb wr pa pl pq wq.heap.size) := hw
            clear hw
            by_cases hjl : j < pl
            · as_aux_lemma =>
              have hjli : (j : Int) < (pl : Int) := by omega
              obtain ⟨g, eg, eo, ⟨v0, c0⟩, f0, ho⟩ := own_byte HW.out.own hjl
              have HW2 : Hid (Wip w3 pb (wr.setCell ⟨g, j, none⟩ (.int .u8 7)) pa pl pq wq.heap.size) := HW.out.set eo ho
              subst eg
              clear ho eo
              go_wp2_with fail
              exact ⟨⟨j + 1, by omega, by simp, HW2.out⟩, by simp [intOf]; omega⟩
            · as_aux_lemma =>
              obtain rfl : pl = j := by omega
              have hjli : ¬ (pl : Int) < (pl : Int) := by omega
              obtain ⟨w4, hw4⟩ : ∃ y, wr = y := ⟨_, rfl⟩
              rw [hw4] at HW ⊢
              clear hw4
              have z34 := HW.out.sz
              have HST4 : Hid (Stm (bs + 1) w4 bs a3 c3 T2 T3) := HST3.out.blk (HW.out.kp _ (fun e => HPB.out.1 e.symm)) (fun g e _ _ => HW.out.kp g (HPB.out.2.1 g e))
              have HMS4 : Hid (MsL w2.heap.size w4 (.slice va3 nl3 vq3) l3) := HMS3.out.blk (fun g h1 h2 => HW.out.kp g (by have := HPB.out.2.2.1; omega))
              have HB04 : Hid (Below w.heap.size w w4) := ⟨HW.out.str.os.trans HB03.out.os, HW.out.str.tape.trans HB03.out.tape, HW.out.str.output.trans HB03.out.output, Nat.le_trans HB03.out.size HW.out.str.size, fun g hg => (HW.out.kp g (by have := HPB.out.2.2.2; omega)).trans (HB03.out.block g hg)⟩
              have HZ24 : Hid (w2.heap.size ≤ w4.heap.size) := by
                show _ ≤ _
                have := HMS3.out
                have h5 := HST3.out
                rw [z34]
                exact HZ23.out
              clear z34 HW HW0 HST3 HMS3 HB03
              have h0k : (0 : Int) ≤ (k : Int) := by omega
              have hkci : (k : Int) ≤ (cap : Int) := by omega
              have hkpc : (kp : Int) ≤ (cap : Int) := by omega
              have hkp0 : (0 : Int) ≤ (kp : Int) := by omega
              have HD5 := dstream_any (some ⟨vb, vo, none⟩) k cap (B.take k) w4 ((HL.out.bel HB04.out).take k) (by rw [List.length_take, HN.out]; omega) (by omega) (take_u8 HU.out k) ⟨vb, vo, rfl⟩ (by omega)
              go_wp2_with fail
              refine HD5.mono ?_
              rintro e w5 ⟨v5, l5, k5, rfl, hms5, hl5, hk5, hk5l, hb5⟩
              rw [← HS.out.so]
              dsimp only
              rw [← HS.out.so] at hl5
              dsimp only at hl5
              obtain ⟨a5, c5, hv5, -⟩ := hms5.own.form
              have hn5 : l5.length = wn := by rw [← HWN.out, ← hl5, List.length_map]
              rw [hn5] at hv5
              subst hv5
              have HB5 : Hid (Below w4.heap.size w4 w5) := hb5
              have HB05 : Hid (Below w.heap.size w w5) := HB04.out.trans (hb5.mono HB04.out.size)
              clear hms5 hl5 hk5 hk5l hb5 hn5 HD5
              have HD6 := dstream_any (some ⟨vb, vo, none⟩) kp cap (B.take kp) w5 ((HL.out.bel HB05.out).take kp) (by rw [List.length_take, HN.out]; have := HPE.out; have := HKP.out; omega) (by omega) (take_u8 HU.out kp) ⟨vb, vo, rfl⟩ (by have := HPE.out; have := HKP.out; omega)
              go_wp2_with fail
              refine HD6.mono ?_
              rintro e w6 ⟨v6, l6, k6, rfl, hms6, hl6, hk6, hk6l, hb6⟩
              rw [← HPP.out]
              rw [← HPP.out] at hl6 hk6
              dsimp only at hl6 hk6 ⊢
              have HMS6 : Hid (MsL w5.heap.size w6 v6 l6) := hms6
              have HL6 : Hid (l6.map (fun p => p.1) = ms ++ T1) := hl6
              have HB6 : Hid (Below w5.heap.size w5 w6) := hb6
              have hBk : (B.take kp).length = kp := by rw [List.length_take, HN.out]; have := HPE.out; have := HKP.out; omega
              rw [hBk] at hk6 hk6l
              have HK6 : Hid (T3 = 0 → k6 + T2.length = kp) := hk6
              have HK6L : Hid (k6 ≤ kp ∧ l6.length ≤ kp) := hk6l
              obtain ⟨hk6l, -⟩ := hk6l
              obtain ⟨a6, c6, hv6, hc6, hn6, hsp6⟩ := hms6.own.form
              obtain ⟨n6, hn6l⟩ : ∃ y, l6.length = y := ⟨_, rfl⟩
              have HN6 : Hid (l6.length = n6) := hn6l
              rw [hn6l] at hv6 hc6 hn6
              subst hv6
              have hT1l : T1.length = nl3 := by rw [← HNL3.out, ← HL3.out, List.length_map]
              have h6n : n6 = wn + nl3 := by rw [← hn6l, ← HWN.out, ← hT1l, ← List.length_append, ← hl6, List.length_map]
              have H6N : Hid (n6 = wn + nl3) := h6n
              have g6 : wn ≤ n6 := by omega
              have HNI6 : Hid (a6 = none → n6 = 0 ∧ c6 = 0) := hn6
              have HSP6 : Hid (∀ ad, a6 = some ad → ∃ b f, ad = ⟨b, f, none⟩) := fun ad e => by
                obtain ⟨bb, ff, sp⟩ := ad
                cases l6 with
                | nil => exact ⟨bb, ff, by
                    have h9 := hms6.own.row.2
                    rcases h9 with ⟨h1, -⟩ | ⟨g, cp, cur, h1, -⟩
                    · injection h1 with h1 _ _; rw [e] at h1; cases h1
                    · injection h1 with h1 _ _; rw [e] at h1; cases h1; rfl⟩
                | cons p q => exact ⟨bb, ff, by
                    have h9 := hms6.own.row.2
                    rcases h9 with ⟨h1, -⟩ | ⟨g, cp, cur, h1, -⟩
                    · injection h1 with h1 _ _; rw [e] at h1; cases h1
                    · injection h1 with h1 _ _; rw [e] at h1; cases h1; rfl⟩
              clear hms6 hl6 hk6 hb6 hBk hn6l h6n hn6 hsp6 hT1l HD6
              go_wp2_with (refine list_slice17 rfl _ _ rfl (ao := a6) (n := n6) (c := c6) (l := wn) rfl rfl g6 hc6 HNI6.out HSP6.out ?_)
              intro vw hvw
              have HLW : Hid (Gm.Lst E17 w6 vw (l6.drop wn)) := hvw.out w6 l6 HN6.out (HMS6.out.own.lst.1)
              have HDW : Hid ((l6.drop wn).map (fun p => p.1) = T1) := by show _ = _; rw [List.map_drop, HL6.out, ← HWN.out]; simp
              have hq6 : n6 - wn = nl3 := by have := H6N.out; omega
              rw [hq6]
              have HB46 : Hid (Below w4.heap.size w4 w6) := HB5.out.trans (HB6.out.mono HB5.out.size)
              have HST6 : Hid (Stm (bs + 1) w6 bs a3 c3 T2 T3) := HST4.out.bel HB46.out
              have HMS36 : Hid (MsL w2.heap.size w6 (.slice va3 nl3 vq3) l3) := HMS4.out.blk (fun g _ hl => HB46.out.block g hl)
              have HB06 : Hid (Below w.heap.size w w6) := HB04.out.trans (HB46.out.mono HB04.out.size)
              have HZ26 : Hid (w2.heap.size ≤ w6.heap.size) := Nat.le_trans HZ24.out HB46.out.size
              have HK1 : Hid (∀ p ∈ l3, MOk w6 p.1 p.2) := fun p hp => (HMS36.out.each p hp).ok
              have HK2 : Hid (∀ p ∈ l6.drop wn, MOk w6 p.1 p.2) := fun p hp => (HMS6.out.each p (List.mem_of_mem_drop hp)).ok
              have HDL : Hid ((l6.drop wn).length = nl3) := by show _ = _; rw [List.length_drop, HN6.out]; exact hq6
              have HSM6 : Hid (l3.map (fun p => p.1) = (l6.drop wn).map (fun p => p.1)) := by show _ = _; rw [HL3.out, HDW.out]
              obtain ⟨wt, hwt⟩ : ∃ y, T2.length = y := ⟨_, rfl⟩
              have HWT : Hid (T2.length = wt) := hwt
              have HPS : Hid (T3 ≠ 0 → T2 = []) := by
                have h5 := (parse_state (B.take kp)).2
                rw [← HPP.out] at h5
                exact h5
              have HFT : Hid (f ≠ 0 → nl3 = 0 ∧ T3 = f) := fun hf => by
                have h5 := HTS.out
                rw [TK_fault hf] at h5
                cases h5
                exact ⟨by rw [← HNL3.out]; have := HL3.out; exact List.length_eq_zero_iff.2 (List.map_eq_nil_iff.1 this), rfl⟩
              have HALL := all_any l3 (l6.drop wn) va3 vw nl3 vq3 (c6 - wn) w6 HMS36.out.own.lst.1 HLW.out HNL3.out HDL.out HK1.out HK2.out HSM6.out
              have hk6i : (0 : Int) ≤ (k6 : Int) := by omega
              clear hvw hq6 hwt HMS6 HLW
              have h3c : (f = 0 ∧ T3 = 0) ∨ (f = 0 ∧ ¬ T3 = 0) ∨ ¬ f = 0 := by
                by_cases hf : f = 0
                · by_cases hT : T3 = 0
                  · exact .inl ⟨hf, hT⟩
                  · exact .inr (.inl ⟨hf, hT⟩)
                · exact .inr (.inr hf)
              rcases h3c with ⟨hf, hT⟩ | ⟨hf, hT⟩ | hf
              case' inl =>
                have hwti : (kp : Int) - (k6 : Int) = (wt : Int) := by have := HK6.out hT; rw [HWT.out] at this; omega
                have HAC := HALL
                subst hf hT
                clear HALL
                go_wp2_with fail
              case' inr.inl =>
                have hTb : (T3 != 0) = true := by simpa using hT
                obtain rfl : wt = 0 := by rw [← HWT.out, HPS.out hT]; rfl
                have HAC := HALL
                subst hf
                clear HALL
                go_wp2_with fail
              case' inr.inr =>
                have hfb : (f != 0) = true := by simpa using hf
                obtain ⟨h0, hTf⟩ := HFT.out hf
                obtain rfl : wt = 0 := by rw [← HWT.out, HPS.out (by rw [hTf]; exact hf)]; rfl
                have hTb : (T3 != 0) = true := by rw [hTf]; exact hfb
                have e0 : l3 = [] := List.length_eq_zero_iff.1 (by rw [HNL3.out]; exact h0)
                have HAC : Calls Try.prog 17 #[.slice va3 nl3 vq3, .slice none 0 0] w6 fun e w' => e = .returned (.bool true) ∧ Below w6.heap.size w6 w' := by
                  have h := all_any l3 [] va3 none 0 vq3 0 w6 HMS36.out.own.lst.1 ⟨by simp, fun i hi => absurd hi (by simp)⟩ (by rw [e0]; rfl) rfl HK1.out (fun p hp => by cases hp) (by rw [e0])
                  rw [h0]
                  exact h
                clear HALL hTf h0 e0
                go_wp2_with fail
              all_goals
                refine HAC.mono ?_
                rintro e w7 ⟨rfl, hb7⟩
                have HWA := waiting_any (bs + 1) bs a3 c3 T2 _ w7 (HST6.out.bel hb7)
                rw [HWT.out] at HWA
                have HB67 : Hid (Below w6.heap.size w6 w7) := hb7
                clear HAC hb7
                go_wp2_with fail
                refine HWA.mono ?_
                rintro e w8 ⟨rfl, hb8⟩
                have HB68 : Hid (Below w6.heap.size w6 w8) := HB67.out.trans (hb8.mono HB67.out.size)
                have HST8 : Hid (Stm (bs + 1) w8 bs a3 c3 T2 _) := HST6.out.bel HB68.out
                have HMS8 : Hid (MsL w2.heap.size w8 (.slice va3 nl3 vq3) l3) := HMS36.out.blk (fun g _ hl => HB68.out.block g hl)
                have HB08 : Hid (Below w.heap.size w w8) := HB06.out.trans (HB68.out.mono HB06.out.size)
                have HZ28 : Hid (w2.heap.size ≤ w8.heap.size) := Nat.le_trans HZ26.out HB68.out.size
                obtain ⟨w9, hw9⟩ : ∃ y, wn + nl3 = y := ⟨_, rfl⟩
                have HW9 : Hid (wn + nl3 = w9) := hw9
                have hw2i : (wn : Int) + (nl3 : Int) = (w9 : Int) := by omega
                have HW9K : Hid (w9 ≤ kp) := by show _ ≤ _; rw [← hw9, ← H6N.out, ← HN6.out]; exact HK6L.out.2
                have hw9n : w9 ≤ 20000 := by have := HW9K.out; have := HPE.out; have := HKP.out; omega
                have hnl3n : nl3 ≤ 20000 := by omega
                clear HWA hb8 HB67 hw9
                go_wp2_with fail
                go_loopw [131] (fun jv wr => ∃ j : Nat, j ≤ nl3 ∧ jv = .int .i64 (j : Int) ∧ Spt w8 w2.heap.size l3 (.slice va3 nl3 vq3) j wr) (fun j _ => nl3 - (intOf j).toNat)
                case atStart => exact ⟨0, by omega, rfl, Spt.begin HMS8.out⟩
                case round =>
                  obtain ⟨j, hj, rfl, hw⟩ := hrel
                  have HW : Hid (Spt w8 w2.heap.size l3 (.slice va3 nl3 vq3) j wr) := hw
                  clear hw
                  by_cases hjl : j < nl3
                  · as_aux_lemma =>
                    have hjli : (j : Int) < (nl3 : Int) := by omega
                    have hj0 : (0 : Int) ≤ (j : Int) := by omega
                    have hj3 : j < l3.length := by rw [HNL3.out]; exact hjl
                    obtain ⟨b1, o1, hb1, -, hc1⟩ := lst17 HW.out.own.lst.1 j hj3
                    have hmn := HW.out.each j hj3 (Nat.le_refl _)
                    have hstp : ∀ w', Below 0 wr w' → (∀ g, g < wr.heap.size → ¬ Mown l3[j].2 g → w'.heap[g]? = wr.heap[g]?) → Spt w8 w2.heap.size l3 (.slice va3 nl3 vq3) (j + 1) w' := fun w' hb hk => HW.out.step hj3 hb hk
                    obtain ⟨mj, sj, hmj⟩ : ∃ m s, l3[j] = (m, s) := ⟨_, _, rfl⟩
                    rw [hmj] at hmn hc1 hstp
                    obtain ⟨M2, hM2⟩ : ∃ y, w2.heap.size = y := ⟨_, rfl⟩
                    rw [hM2] at hmn
                    have HMN : Hid (Mn M2 wr mj sj) := hmn
                    have HSTP : Hid (∀ w', Below 0 wr w' → (∀ g, g < wr.heap.size → ¬ Mown sj g → w'.heap[g]? = wr.heap[g]?) → Spt w8 w2.heap.size l3 (.slice va3 nl3 vq3) (j + 1) w') := hstp
                    have HC1 : Hid (∀ y, y < 17 → wr.cell? ⟨b1, o1 + j * 17 + y, none⟩ = (msL mj sj)[y]?) := hc1
                    subst hb1
                    clear hc1 hmn hstp hmj hj3 hM2 HW
                    go_wp2_with (refine list_mat rfl _ rfl (b := b1) (k := o1 + j * 17) rfl HC1.out ?_)
                    refine (spoil_own _ _ _ _ HMN.out).mono ?_
                    rintro e w' ⟨⟨u, rfl⟩, hb, hk⟩
                    have HS2 : Hid (Spt w8 w2.heap.size l3 (.slice (some ⟨b1, o1, none⟩) nl3 vq3) (j + 1) w') := HSTP.out w' hb hk
                    clear hb hk
                    go_wp2_with fail
                    exact ⟨⟨j + 1, by omega, by simp, HS2.out⟩, by simp [intOf]; omega⟩
                  · as_aux_lemma =>
                    obtain rfl : nl3 = j := by omega
                    have hjli : ¬ (nl3 : Int) < (nl3 : Int) := by omega
                    obtain ⟨tq, HF⟩ : ∃ tq, Hid (SL w bs (bs + 1) B kp wr a3 c3 T2 tq (ms ++ T1)) := by
                      have h1 := HS.out.hb
                      have h2 := HBW.out
                      have h3 := HB2.out.size
                      have h4 := HS.out.bel.size
                      have h5 := HB08.out.size
                      have h6 := HZ28.out
                      have hw := HW.out
                      have hlo : ∀ g, g < w2.heap.size → ∀ p ∈ l3, ¬ Mown p.2 g := fun g hg p hp hm => by have := (hw.lo p hp g hm).1; omega
                      refine ⟨_, ⟨hw.str.os.trans HB08.out.os, hw.str.tape.trans HB08.out.tape, hw.str.output.trans HB08.out.output, Nat.le_trans HB08.out.size hw.str.size, fun g hg => (hw.kp g (by omega) (hlo g (by omega))).trans (HB08.out.block g hg)⟩, HST8.out.blk (hw.kp bs (by omega) (hlo bs (by omega))) (fun g e _ hl => hw.kp g hl (fun p hp hm => HA3.out p hp g hm e)), HPP.out, by have := hw.str.size; have := HST8.out.hl; omega, by rw [HN.out]; have := HPE.out; have := HKP.out; omega, h1⟩
                    have HM9 : Hid ((ms ++ T1).length = w9) := by show _ = _; rw [List.length_append, HWN.out, ← HW9.out, ← HNL3.out, ← HL3.out, List.length_map]
                    go_wp2_with fail
                    refine ⟨⟨kp, a3, c3, T2, tq, ms ++ T1, rfl, by rw [HM9.out], HF.out, ?_, by rw [HM9.out]; exact HW9K.out⟩, ?_⟩
                    · by_cases e : i = nc
                      · exact .inr (by have := HPE.out; have := HKP.out; omega)
                      · first | (exfalso; omega; done) | exact .inl ⟨i + 1, by omega, by simp⟩
                    · by_cases e : i = nc
                      · exact mz_end (by have := HPE.out; have := HKP.out; omega) hlt hinc
                      · first | (exfalso; omega; done) | exact mz_more hlt (by omega)
      · obtain rfl : k = n := by omega
        have hlti : ¬ (k : Int) < (k : Int) := by omega
        have HD : Hid (Calls Try.prog 16 #[.slice va k cap] wq (DtPost wq B)) := by
          by_cases h1 : k = 0
          · have : B = [] := List.length_eq_zero_iff.1 (by rw [HN.out]; exact h1)
            subst this
            subst h1
            exact dstream_zero va cap (fun e => (hnil e).2) wq
          · obtain ⟨b, o, e, -, -⟩ := lst8 HL.out 0 (by rw [HN.out]; omega)
            exact dstream_any _ k cap B wq (HL.out.bel HS.out.bel) HN.out hcap HU.out ⟨b, o, e⟩ (by omega)
        go_wp2_with fail
        refine HD.out.mono ?_
        rintro e w5 ⟨v5, l5, k5, rfl, hms5, hl5, -, -, hb5⟩
        obtain ⟨a5, c5, hv5, -⟩ := hms5.own.form
        have hn5 : l5.length = wn := by
          have h5 := HS.out.so
          rw [List.take_of_length_le (by rw [HN.out]; exact Nat.le_refl _)] at h5
          rw [← List.length_map (f := fun p => p.1), hl5, ← h5]
          exact HWN.out
        rw [hn5] at hv5
        subst hv5
        have HB5 : Hid (Below w.heap.size w w5) := HS.out.bel.trans (hb5.mono HS.out.bel.size)
        clear hms5 hl5 hb5 hn5
        go_wp2_with fail
        go_ret
        exact ⟨by simp, HB5.out⟩
end Go.Proofs.Ytghlgkpfcpcopaa.Pv
