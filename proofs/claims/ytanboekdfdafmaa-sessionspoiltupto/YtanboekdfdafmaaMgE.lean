/- What Take answers. -/
import Derived.Test.YtanboekdfdafmaaMgD
namespace Go.Proofs.Ytanboekdfdafmaa.Pv
open Go.ChangeShapes Go.WideShapes Go.ChangeAt Go.RowKit Go.Joins Go.Proofs.Ytanboekdfdafmaa.PM Go.Proofs.Ytanboekdfdafmaa.Ask Go.Proofs.Ytanboekdfdafmaa.Ge
set_option linter.unusedVariables false

def vlen (v : Value) : Nat := match v with | .slice _ n _ => n | _ => 0
/-- bytes that a stream is handed -/
structure Fed (W : World) (b : Nat) (a : Option Addr) (va : Option Addr) (n cap : Nat) (r : List Nat) : Prop where
  l : Lst E8 W va r
  len : r.length = n
  cap : n ≤ cap
  u8 : ∀ d ∈ r, d < 256
  ne : ∀ ad, va = some ad → ad.block ≠ b ∧ ¬ ob a = some ad.block ∧ ad.block < W.heap.size
theorem Fed.keep {W W' : World} {b : Nat} {a a' va : Option Addr} {n cap : Nat} {r : List Nat} (h : Fed W b a va n cap r) (k : Kt W b a W' a') : Fed W' b a' va n cap r := by
  refine ⟨h.l.keep k.str.size (fun g o e hl => k.block g hl (h.ne _ e).1 (h.ne _ e).2.1), h.len, h.cap, h.u8, fun ad e => ?_⟩
  obtain ⟨h1, h2, h3⟩ := h.ne ad e
  refine ⟨h1, fun e2 => ?_, Nat.lt_of_lt_of_le h3 k.str.size⟩
  rcases k.now _ e2 with e3 | e3
  · exact h2 e3
  · omega
theorem Fed.drop {W : World} {b : Nat} {a va : Option Addr} {n cap k : Nat} {r : List Nat} (h : Fed W b a va n cap r) (hk : k ≤ n) {va' : Option Addr} {cap' : Nat} (hw : (va' = va ∧ cap' = 0 ∧ cap = k) ∨ (va' = va.map (fun x => x.add k) ∧ cap' = cap - k)) : Fed W b a va' (n - k) cap' (r.drop k) := by
  have hadd : ∀ x : Addr, (x.add k).block = x.block := fun x => by unfold Addr.add; split <;> rfl
  have hlen : (r.drop k).length = n - k := by rw [List.length_drop, h.len]
  have hc := h.cap
  refine ⟨⟨by rw [hlen]; have := h.l.small; rw [h.len] at this; omega, fun i hi => ?_⟩, hlen, ?_, drop_u8 h.u8 k, fun ad e => ?_⟩
  · rw [hlen] at hi
    rcases hw with ⟨_, e, e2⟩ | ⟨e1, e⟩
    · omega
    · obtain ⟨g, o, e2, hb, hcell⟩ := h.l.cells (k + i) (by rw [h.len]; omega)
      refine ⟨g, o + k, by rw [e1, e2]; simp [Addr.add], hb, fun j hj => ?_⟩
      have hj0 : j = 0 := by have : j < 1 := hj; omega
      subst hj0
      rw [List.getElem_drop]
      have h5 := hcell 0 (by decide)
      have hk1 : E8.k = 1 := rfl
      rw [hk1] at h5 ⊢
      rw [← h5]
      congr 2
      omega
  · rcases hw with ⟨_, e, e2⟩ | ⟨_, e⟩ <;> omega
  · rcases hw with ⟨e1, -⟩ | ⟨e1, -⟩
    · exact h.ne ad (e1 ▸ e)
    · rw [e1] at e
      cases va with
      | none => cases e
      | some ad0 =>
        cases e
        rw [hadd]
        exact h.ne _ rfl
/-- what Take leaves -/
def TkPost (N : Nat) (w : World) (b : Nat) (a : Option Addr) (o : List Ms × List Nat × Int) (e : Ending) (w' : World) : Prop :=
  ∃ v l a' c', e = .returned (.tuple #[v, .int .i64 o.2.2]) ∧ MsL w.heap.size w' v l ∧ l.map (fun p => p.1) = o.1 ∧ Stm N w' b a' c' o.2.1 o.2.2 ∧ Kt w b a w' a' ∧ (∀ p ∈ l, ∀ g, Mown p.2 g → ¬ ob a' = some g) ∧ (∀ g, v.ownBlock = some g → ¬ ob a' = some g)
/-- within the loop -/
structure TkI (N : Nat) (w : World) (b : Nat) (a : Option Addr) (T : List Ms × List Nat × Int) (n0 : Nat) (W : World) (v : Value) (l : List (Ms × Sl)) (x : List Nat) (f : Int) (a1 : Option Addr) (c1 : Nat) (r : List Nat) (va : Option Addr) (cap : Nat) : Prop where
  st : Stm N W b a1 c1 x f
  ms : MsL w.heap.size W v l
  kt : Kt w b a W a1
  fed : Fed W b a1 va r.length cap r
  so : T = (l.map (fun p => p.1) ++ (TK x f r).1, (TK x f r).2)
  ok : f = 0 → SOk x
  ap : ∀ p ∈ l, ∀ g, Mown p.2 g → ¬ ob a1 = some g
  ap2 : ∀ g, v.ownBlock = some g → ¬ ob a1 = some g
  nx : x.length + r.length ≤ n0
  nl : l.length + r.length ≤ n0
  fl : ∀ ad, va = some ad → ad.block < w.heap.size
theorem tk_done {N : Nat} {w : World} {b : Nat} {a : Option Addr} {T : List Ms × List Nat × Int} {n0 : Nat} {W W' : World} {v : Value} {l : List (Ms × Sl)} {x : List Nat} {f : Int} {a1 : Option Addr} {c1 : Nat} {r : List Nat} {va : Option Addr} {cap : Nat} (h : TkI N w b a T n0 W v l x f a1 c1 r va cap) (hr : r = [] ∨ f ≠ 0) (hb : Below W.heap.size W W') : TkPost N w b a T (.returned (.tuple #[v, .int .i64 f])) W' := by
  have e : T = (l.map (fun p => p.1), x, f) := by
    rw [h.so]
    by_cases hf : f = 0
    · subst hf
      rcases hr with hr | hr
      · rw [hr, TK_nil (h.ok rfl)]
        simp
      · exact absurd rfl hr
    · rw [TK_fault hf]
      simp
  rw [e]
  exact ⟨v, l, a1, c1, rfl, h.ms.blk (fun g _ hl => hb.block g hl), rfl, h.st.bel hb, ⟨h.kt.str.trans (hb.mono (Nat.zero_le _)), fun g hg h1 h2 => (hb.block g (Nat.lt_of_lt_of_le hg h.kt.str.size)).trans (h.kt.block g hg h1 h2), h.kt.now⟩, h.ap, h.ap2⟩
theorem step_set {P : Program} {o : Oper} {a : Act} {w w2 : World} {K : Act → World → Prop} {Q : Exit → Act → World → Prop} {c : Bool} {E : Prop} (hc : c = true) (h : (execOp a.eval o).run P w = .ok .skip w2) (hk : K (a.put o.dst undef) w2) : if c = true then Oper.wp P o a w K Q else E := by
  rw [if_pos hc]; unfold Oper.wp; rw [h]; exact hk
theorem sload_run {o : Oper} (x : Operand) (ho : o.op = .load 32 x) {ρ : Operand → Value} {b : Nat} (hx : ρ x = .pointer (some ⟨b, 0, none⟩)) {a : Option Addr} {n c : Nat} {W : World} (h : W.cell? ⟨b, 0, none⟩ = some (.slice a n c)) : (execOp ρ o).run Try.prog W = .ok (.value (.slice a n c)) W := by
  unfold execOp
  rw [ho]
  simp [go_sem, hx, h]
theorem sset_run {o : Oper} (x y : Operand) (ho : o.op = .store 32 x y) {ρ : Operand → Value} {b : Nat} (hx : ρ x = .pointer (some ⟨b, 0, none⟩)) {a : Option Addr} {n c : Nat} (hy : ρ y = .slice a n c) {v : Value} {W : World} (h : W.cell? ⟨b, 0, none⟩ = some v) (hf : W.frozen? ⟨b, 0, none⟩ = false) : (execOp ρ o).run Try.prog W = .ok .skip (W.setCell ⟨b, 0, none⟩ (.slice a n c)) := by
  unfold execOp
  rw [ho]
  simp [go_sem, hx, hy, h, hf]
theorem mbuild_run {o : Oper} (x : Operand) (ho : o.op = .buildSlice 39 1 #[(0, x)]) {ρ : Operand → Value} {m : Ms} {s : Sl} {W : World} (hx : ρ x = msV m s) : (execOp ρ o).run Try.prog W = .ok (.value (.slice (some ⟨W.heap.size, 0, none⟩) 1 1)) (W.alloc (Obj.cells (msL m s).toArray 54)) := by
  unfold msV at hx
  unfold execOp
  rw [ho]
  simp [go_sem, hx, msL]
/-- a list of one message is built -/
theorem list_mbuild {ops : Array Oper} {rest : List Oper} {o : Oper} {ac : Act} {Q : Exit → Act → World → Prop} {W : World} (hgd : o.guard = none) (x : Operand) (ho : o.op = .buildSlice 39 1 #[(0, x)]) {m : Ms} {s : Sl} (hx : ac.eval x = msV m s)
    (k : wpList Try.prog ops Q rest (ac.put o.dst (.slice (some ⟨W.heap.size, 0, none⟩) 1 1)) (W.alloc (Obj.cells (msL m s).toArray 54))) : wpList Try.prog ops Q (o :: rest) ac W := by
  refine wpList_plain hgd fun K hK => ?_
  unfold Oper.wp
  rw [mbuild_run x ho hx]
  exact hK _ _ k
theorem Fed.blk {W W' : World} {b : Nat} {a va : Option Addr} {n cap : Nat} {r : List Nat} (h : Fed W b a va n cap r) (hs : W.heap.size ≤ W'.heap.size) (hb : ∀ ad, va = some ad → W'.heap[ad.block]? = W.heap[ad.block]?) : Fed W' b a va n cap r :=
  ⟨h.l.keep hs (fun g o e hl => hb _ e), h.len, h.cap, h.u8, fun ad e => ⟨(h.ne ad e).1, (h.ne ad e).2.1, Nat.lt_of_lt_of_le (h.ne ad e).2.2 hs⟩⟩
/-- one more message stands in the list -/
theorem tk_app {N : Nat} {w w5 w6 w7 : World} {b c n n3 cap : Nat} {a a4 va : Option Addr} {x r : List Nat} {f : Int} {m : Ms} {s : Sl} {u v : Value} {l : List (Ms × Sl)} (hst : Stm N w5 b a4 c x f) (hmo : MO n3 w5 m s) (hkt : Kt w b a w5 a4) (hfd : Fed w5 b a4 va n cap r) (hms : MsL w.heap.size w5 u l)
    (hap : ∀ p ∈ l, ∀ g, Mown p.2 g → ¬ ob a4 = some g) (hap2 : ∀ g, u.ownBlock = some g → ¬ ob a4 = some g) (hn3 : w.heap.size ≤ n3) (hl3 : ∀ p ∈ l, ∀ g, Mown p.2 g → g < n3) (hu : ∀ g, u.ownBlock = some g → g < n3) (ha : ∀ g, ob a4 = some g → g < n3) (hfl : ∀ ad, va = some ad → ad.block < w.heap.size) (hbw : b < w.heap.size) (h35 : n3 ≤ w5.heap.size)
    (h6 : Below w5.heap.size w5 w6) (ho : Gm.OwnL E17 w.heap.size w7 v (l ++ [(m, s)])) (hg : w6.grownBy w7 u.ownBlock) (hv : v.ownBlock = u.ownBlock ∨ v.ownBlock = some (w5.heap.size + 1)) :
    Stm N w7 b a4 c x f ∧ MsL w.heap.size w7 v (l ++ [(m, s)]) ∧ Kt w b a w7 a4 ∧ Fed w7 b a4 va n cap r ∧ (∀ p ∈ l ++ [(m, s)], ∀ g, Mown p.2 g → ¬ ob a4 = some g) ∧ (∀ g, v.ownBlock = some g → ¬ ob a4 = some g) := by
  have hsz : w5.heap.size ≤ w7.heap.size := Nat.le_trans h6.size hg.size
  have hu2 : ∀ g, u.ownBlock = some g → w.heap.size ≤ g := fun g e => (hms.own.row.lt g e).1
  have hw := hkt.str.size
  have hbl : ∀ g, g < w5.heap.size → ¬ u.ownBlock = some g → w7.heap[g]? = w5.heap[g]? := fun g h1 h2 => (hg.block g (Nat.lt_of_lt_of_le h1 h6.size) (fun e => h2 e.symm)).trans (h6.block g h1)
  have hbl0 : ∀ g, g < w.heap.size → w7.heap[g]? = w5.heap[g]? := fun g h1 => hbl g (Nat.lt_of_lt_of_le h1 hw) (fun e => by have := hu2 g e; omega)
  refine ⟨hst.blk (hbl0 b hbw) (fun g e _ hl => hbl g hl (fun e2 => hap2 g e2 e)), ⟨ho, fun p hp => ?_, fun p hp g hg2 e => ?_, List.pairwise_append.2 ⟨hms.pw, List.pairwise_singleton _ _, fun p hp q hq g h1 h2 => by rw [List.mem_singleton] at hq; subst hq; have := hl3 p hp g h1; have := (hmo.rng g h2).1; omega⟩⟩, ⟨((hkt.str.trans (h6.mono (Nat.zero_le _)))).grown hg (Nat.zero_le _) (fun _ _ => Nat.zero_le _), fun g h1 h2 h3 => (hbl0 g h1).trans (hkt.block g h1 h2 h3), hkt.now⟩, hfd.blk hsz (fun ad e => hbl0 _ (hfl ad e)), fun p hp g hg2 e => ?_, fun g e e2 => ?_⟩
  · rw [List.mem_append, List.mem_singleton] at hp
    rcases hp with hp | rfl
    · exact (hms.each p hp).blk (fun g hg2 _ hl => hbl g hl (hms.ap p hp g hg2))
    · exact (hmo.blk (fun g hg2 h1 hl => hbl g hl (fun e => by have := hu g e; omega))).mono hn3
  · rw [List.mem_append, List.mem_singleton] at hp
    rcases hp with hp | rfl
    · rcases hv with hv | hv
      · exact hms.ap p hp g hg2 (hv ▸ e)
      · rw [hv] at e
        cases e
        have := ((hms.each p hp).rng _ hg2).2
        omega
    · have h8 := hmo.rng g hg2
      rcases hv with hv | hv
      · have := hu g (hv ▸ e); omega
      · rw [hv] at e
        cases e
        omega
  · rw [List.mem_append, List.mem_singleton] at hp
    rcases hp with hp | rfl
    · exact hap p hp g hg2 e
    · have h8 := hmo.rng g hg2
      have := ha g e
      omega
  · rcases hv with hv | hv
    · exact hap2 g (hv ▸ e) e2
    · rw [hv] at e
      cases e
      have := ha _ e2
      omega
set_option maxRecDepth 100000 in
set_option maxHeartbeats 16000000 in
theorem take_any (N : Nat) (b : Nat) (a : Option Addr) (c : Nat) (x : List Nat) (f : Int) (va : Option Addr) (n cap : Nat) (r : List Nat) (w : World) (h : Stm N w b a c x f) (hok : f = 0 → SOk x) (hN : N ≤ w.heap.size) (hf : Fed w b a va n cap r) (hsm : x.length + n ≤ 1048576) :
    Calls Try.prog 29 #[.pointer (some ⟨b, 0, none⟩), .slice va n cap] w (TkPost N w b a (TK x f r)) := by
  have HI0 : Hid (TkI N w b a (TK x f r) (x.length + n) w (.slice none 0 0) [] x f a c r va cap) := ⟨h, MsL.nil _ _, Kt.refl _ _ _, by rw [hf.len]; exact hf, by simp, hok, (fun _ h => by cases h), (fun _ h => by cases h), by rw [hf.len]; omega, by rw [hf.len]; simp, fun ad e => (hf.ne ad e).2.2⟩
  have HLN : Hid (r.length = n) := hf.len
  obtain ⟨T, hT⟩ : ∃ T, TK x f r = T := ⟨_, rfl⟩
  rw [hT] at HI0 ⊢
  obtain ⟨n0, hn0⟩ : ∃ n0, x.length + n = n0 := ⟨_, rfl⟩
  rw [hn0] at HI0 hsm
  clear h hok hf hT hn0
  go_enter Try.func29, Try.ntmps29
  go_wp2_with fail
  go_loopw [1, 6] (fun bv ov wr => ∃ (l : List (Ms × Sl)) (x : List Nat) (f : Int) (a1 : Option Addr) (c1 : Nat) (r : List Nat) (va : Option Addr) (cap : Nat), bv = .slice va r.length cap ∧ TkI N w b a T n0 wr ov l x f a1 c1 r va cap) (fun bv _ _ => vlen bv)
  case atStart => exact ⟨[], x, f, a, c, r, va, cap, by rw [HLN.out], HI0.out⟩
  case round =>
    obtain ⟨l, x, f, a1, c1, r, va, cap, hbv, hi⟩ := hrel
    obtain ⟨n, hn⟩ : ∃ n, r.length = n := ⟨_, rfl⟩
    rw [hn] at hbv
    subst hbv
    have HI : Hid (TkI N w b a T n0 wr u6 l x f a1 c1 r va cap) := hi
    have HN : Hid (r.length = n) := hn
    have c1' := hi.st.c1
    have hnx := hi.nx
    have hnl := hi.nl
    rw [hn] at hnx hnl
    clear hi hn HI0 HLN
    by_cases h0 : n = 0
    · subst h0
      have hr0 : r = [] := List.length_eq_zero_iff.1 HN.out
      have HQ : Hid (∀ q, TkPost N w b a T (.returned (.tuple #[u6, .int .i64 f])) (wr.drewN q)) := fun q => tk_done HI.out (.inl hr0) (drewN_bel wr q)
      obtain ⟨ov, oc, ho6, -⟩ := HI.out.ms.own.form
      obtain ⟨ol, hol⟩ : ∃ q, l.length = q := ⟨_, rfl⟩
      rw [hol] at ho6
      subst ho6
      clear hol hr0
      go_wp2_with fail
      go_quiet (fail)
      go_wp2_with fail
      refine bodyPost_ret (v := .tuple #[.slice ov ol oc, .int .i64 f]) (by simp [results, Try.results29, go_sem]) rfl ?_
      exact HQ.out _
    · have hn0i : (0 : Int) < (n : Int) := by omega
      by_cases hf0 : f = 0
      · subst hf0
        obtain ⟨k0, hk0⟩ : ∃ k, misN x = k := ⟨_, rfl⟩
        have hsok := HI.out.ok rfl
        have hk1 : 1 ≤ k0 := by rw [← hk0]; exact mis_pos hsok
        have HSOK : Hid (SOk x) := hsok
        have HK0 : Hid (misN x = k0) := hk0
        have HMI := missing_any N b a1 c1 x 0 wr HI.out.st (fun h6 => Nat.le_of_lt (hsok.2 h6)) (by omega) k0 hk0
        obtain ⟨k, hk⟩ : ∃ k, min k0 n = k := ⟨_, rfl⟩
        have HKK : Hid (min (misN x) r.length = k) := by show _ = _; rw [HK0.out, HN.out]; exact hk
        have hk1b : 1 ≤ k ∧ k ≤ n := by omega
        clear hsok hk0
        go_wp2_with fail
        refine HMI.mono ?_
        rintro e w1 ⟨rfl, hb1⟩
        have HST1 : Hid (Stm N w1 b a1 c1 x 0) := HI.out.st.bel hb1
        have HMS1 : Hid (MsL w.heap.size w1 u6 l) := HI.out.ms.blk (fun g _ hl => hb1.block g hl)
        have HKT1 : Hid (Kt w b a w1 a1) := HI.out.kt.trans ⟨hb1.mono (Nat.zero_le _), fun g hg _ _ => hb1.block g hg, fun g e => .inl e⟩
        have HFD1 : Hid (Fed w1 b a1 va n cap r) := by
          have h5 := HI.out.fed.keep (a' := a1) (W' := w1) ⟨hb1.mono (Nat.zero_le _), fun g hg _ _ => hb1.block g hg, fun g e => .inl e⟩
          rw [HN.out] at h5
          exact h5
        clear hb1 HMI c1'
        obtain ⟨vb, vo, rfl, hvl, -⟩ := lst8 HFD1.out.l 0 (by rw [HN.out]; omega)
        have hcap1 := HFD1.out.cap
        have hkc : k ≤ cap := by omega
        have hkci : (k : Int) ≤ (cap : Int) := by omega
        have hkni : (k : Int) ≤ (n : Int) := by omega
        by_cases hmin : k0 ≤ n
        · obtain rfl : k0 = k := by omega
          have hmi : (k0 : Int) ≤ (n : Int) := by omega
          have hmj : ¬ (n : Int) < (k0 : Int) := by omega
          go_upto_region 4 with fail
          obtain ⟨xl, hxl⟩ : ∃ q, x.length = q := ⟨_, rfl⟩
          have HXL : Hid (x.length = xl) := hxl
          obtain ⟨y, hy⟩ : ∃ y, x ++ r.take k0 = y := ⟨_, rfl⟩
          have HY : Hid (x ++ r.take k0 = y) := hy
          obtain ⟨t1, t2, t3⟩ := TK_step HSOK.out (by rw [HN.out]; omega) HKK.out hy
          have HTS : Hid (TK x 0 r = ((msgP y).1.toList ++ (TK (msgP y).2.1 (msgP y).2.2 (r.drop k0)).1, (TK (msgP y).2.1 (msgP y).2.2 (r.drop k0)).2)) := t1
          have HTO : Hid ((msgP y).2.2 = 0 → SOk (msgP y).2.1) := t2
          have HTZ : Hid (6 ≤ y.length → bgE y = 0 → y.length ≤ szOf y) := t3
          have hyl : y.length = xl + k0 := by rw [← hy, List.length_append, List.length_take, hxl, HN.out]; omega
          have HYL : Hid (y.length = xl + k0) := hyl
          have hxlb : xl + k0 ≤ 1048576 := by omega
          have hstm := HST1.out
          have c0 := hstm.c0
          have f0 := hstm.f0 0
          rw [hxl] at c0
          have hblt := hstm.hl
          have hbN := hstm.lt
          have HOD : Hid (OwnL E8 N w1.drew (.slice a1 xl c1) x) := by
            have h5 := hstm.own.bel (drew_bel w1)
            rw [hxl] at h5
            exact h5
          have HSD : Hid (Lst E8 w1.drew (some ⟨vb, vo, none⟩) (r.take k0)) := (HFD1.out.l.take k0).bel (drew_bel w1)
          have hN1 : N ≤ w1.heap.size := Nat.le_trans hN HKT1.out.str.size
          have htl : (r.take k0).length = k0 := by rw [List.length_take, HN.out]; omega
          have HTL : Hid ((r.take k0).length = k0) := htl
          have hbig : x.length + k0 ≤ 1099511627775 := by omega
          have HOR : Hid (∀ g, ob a1 = some g → N ≤ g ∧ g < w1.heap.size) := fun g e => own_obr hstm.own g e
          clear hxl hy t1 t2 t3 hyl hstm htl
          refine wp_region_held_drew (S := fun _ => True) (by kernel_rfl) trivial (fun _ => ?_)
          refine wpAnyH_take (i := 0) (v := .pointer (some ⟨b, 0, none⟩)) rfl (by kernel_rfl) (by kernel_rfl) (by kernel_rfl) (fun _ _ _ h => h) (Or.inl ⟨by rfl, (fun W' _ => by go_simp)⟩) trivial ?_
          try simp only [Act.put, List.getElem_toArray, List.getElem_cons_zero, List.setIfInBounds_toArray, List.set_cons_zero, List.set_cons_succ]
          refine wpAnyH_take (i := 1) (v := .pointer (some ⟨b, 0, none⟩)) rfl (by kernel_rfl) (by kernel_rfl) (by kernel_rfl) (fun _ _ _ h => h) (Or.inl ⟨by rfl, (fun W' _ => by go_simp)⟩) trivial ?_
          try simp only [Act.put, List.getElem_toArray, List.getElem_cons_zero, List.getElem_cons_succ, List.setIfInBounds_toArray, List.set_cons_zero, List.set_cons_succ]
          refine wpAnyH_take (i := 2) (v := .pointer (some ⟨b, 0, none⟩)) rfl (by kernel_rfl) (by kernel_rfl) (by kernel_rfl) (fun _ _ _ h => h) (Or.inl ⟨by rfl, (fun W' _ => by go_simp)⟩) trivial ?_
          try simp only [Act.put, List.getElem_toArray, List.getElem_cons_zero, List.getElem_cons_succ, List.setIfInBounds_toArray, List.set_cons_zero, List.set_cons_succ]
          refine wpAnyH_take (i := 3) (v := .pointer (some ⟨b, 0, none⟩)) rfl (by kernel_rfl) (by kernel_rfl) (by kernel_rfl) (fun _ _ _ h => h) (Or.inl ⟨by rfl, (fun W' _ => by go_simp)⟩) trivial ?_
          try simp only [Act.put, List.getElem_toArray, List.getElem_cons_zero, List.getElem_cons_succ, List.setIfInBounds_toArray, List.set_cons_zero, List.set_cons_succ]
          refine wpAnyH_take (i := 5) (v := .slice (some ⟨vb, vo, none⟩) n cap) rfl (by kernel_rfl) (by kernel_rfl) (by kernel_rfl) (fun _ _ _ h => h) (Or.inl ⟨by rfl, (fun W' _ => by go_simp)⟩) trivial ?_
          try simp only [Act.put, List.getElem_toArray, List.getElem_cons_zero, List.getElem_cons_succ, List.setIfInBounds_toArray, List.set_cons_zero, List.set_cons_succ]
          refine wpAnyH_take (i := 6) (v := .int .i64 (k0 : Int)) rfl (by kernel_rfl) (by kernel_rfl) (by kernel_rfl) (fun _ _ _ h => h) (Or.inl ⟨by rfl, (fun W' _ => by go_simp)⟩) trivial ?_
          try simp only [Act.put, List.getElem_toArray, List.getElem_cons_zero, List.getElem_cons_succ, List.setIfInBounds_toArray, List.set_cons_zero, List.set_cons_succ]
          refine wpAnyH_take (i := 7) (v := .int .i64 (k0 : Int)) rfl (by kernel_rfl) (by kernel_rfl) (by kernel_rfl) (fun _ _ _ h => h) (Or.inl ⟨by rfl, (fun W' _ => by go_simp)⟩) trivial ?_
          try simp only [Act.put, List.getElem_toArray, List.getElem_cons_zero, List.getElem_cons_succ, List.setIfInBounds_toArray, List.set_cons_zero, List.set_cons_succ]
          refine wpAnyH_take (i := 8) (v := .slice (some ⟨vb, vo, none⟩) k0 k0) rfl (by kernel_rfl) (by kernel_rfl) (by kernel_rfl) (fun _ _ _ h => h) (Or.inl ⟨by rfl, (fun W' _ => by go_simp)⟩) trivial ?_
          try simp only [Act.put, List.getElem_toArray, List.getElem_cons_zero, List.getElem_cons_succ, List.setIfInBounds_toArray, List.set_cons_zero, List.set_cons_succ]
          refine wpAnyH_ready (rs := [4]) (by kernel_rfl) (by simp) ?_
          refine AllReadyH.cons rfl (fun K' hK' => step_val (by rfl) (sload_run _ rfl rfl c0) (hK'.out _ _ trivial (fun _ => ?_))) AllReadyH.nil
          try simp only [Act.put, List.getElem_toArray, List.getElem_cons_zero, List.getElem_cons_succ, List.setIfInBounds_toArray, List.set_cons_zero, List.set_cons_succ]
          refine wpAnyH_ready (rs := [9]) (by kernel_rfl) (by simp) ?_
          refine AllReadyH.cons rfl (fun K' hK' => step_app8 rfl _ _ rfl N (.slice a1 xl c1) x (r.take k0) ⟨vb, vo, none⟩ k0 k0 w1.drew rfl HOD.out rfl HSD.out HTL.out (by omega) hN1 (fun v2 w2 ho2 hg2 hat2 => hK'.out _ _ trivial (fun _ => ?_))) AllReadyH.nil
          try simp only [Act.put, List.getElem_toArray, List.getElem_cons_zero, List.getElem_cons_succ, List.setIfInBounds_toArray, List.set_cons_zero, List.set_cons_succ]
          have hb2 : w2.heap[b]? = w1.heap[b]? := hg2.out.block b hblt (fun e => by rw [ob_own] at e; have := (HOR.out b e.symm).1; omega)
          have c02 : w2.cell? ⟨b, 0, none⟩ = some (.slice a1 xl c1) := (World.cell?_of_block (w := w1) hb2).trans c0
          have f02 : w2.frozen? ⟨b, 0, none⟩ = false := (World.frozen?_of_block (w := w1) hb2).trans f0
          have HO2 : Hid (OwnL E8 N w2 v2 y) := by rw [← HY.out]; exact ho2.out
          obtain ⟨a2, c2, hv2, -⟩ := HO2.out.form
          obtain ⟨yl, hyl2⟩ : ∃ q, y.length = q := ⟨_, rfl⟩
          have HYL2 : Hid (y.length = yl) := hyl2
          rw [hyl2] at hv2
          subst hv2
          obtain ⟨w3, hw3⟩ : ∃ w3, w2.setCell ⟨b, 0, none⟩ (.slice a2 yl c2) = w3 := ⟨_, rfl⟩
          have hk3 : Kr w2 b w3 := by rw [← hw3]; exact Kr.set _ _ _ _
          have hsz2 : w1.heap.size ≤ w2.heap.size := hg2.out.size
          have HNOW : Hid (∀ g, ob a2 = some g → ob a1 = some g ∨ w1.heap.size ≤ g) := fun g e => by
            have h5 := hat2.out
            rw [ob_own, ob_own] at h5
            rcases h5 with h5 | h5
            · exact .inl (h5 ▸ e)
            · rw [h5] at e
              cases e
              exact .inr (Nat.le_refl _)
          have hkt3 : Kt w1 b a1 w3 a2 := ⟨((Below.refl 0 w1).trans ((drew_bel w1).mono (Nat.zero_le _))).grown hg2.out (Nat.zero_le _) (fun _ _ => Nat.zero_le _) |>.trans hk3.str, fun g hg h1 h2 => (hk3.block g (Nat.lt_of_lt_of_le hg hsz2) h1).trans (hg2.out.block g hg (fun e => by rw [ob_own] at e; exact h2 e.symm)), HNOW.out⟩
          have HKT3 : Hid (Kt w b a w3 a2) := HKT1.out.trans hkt3
          have HST3 : Hid (Stm N w3 b a2 c2 y 0) := by
            refine ⟨?_, ?_, hbN, ?_⟩
            · rw [← hw3, heap_setCell_same w2 b 0 _ _ _ (hb2.trans HST1.out.box), HYL2.out]
              rfl
            · rw [HYL2.out]
              exact own_obk HO2.out (fun g _ hg hl => hk3.block g hl (by omega))
            · rw [← HY.out]
              exact all_u8 HST1.out.u8 (take_u8 HFD1.out.u8 k0)
          have HFD3 : Hid (Fed w3 b a2 (some ⟨vb, vo, none⟩) n cap r) := HFD1.out.keep hkt3
          have HMS3 : Hid (MsL w.heap.size w3 u6 l) := by
            have hap := HI.out.ap
            have hap2 := HI.out.ap2
            refine ⟨HMS1.out.own.blk (fun g e => hkt3.block g (HMS1.out.own.row.lt g e).2 ?_ (hap2 g e)), fun p hp => (HMS1.out.each p hp).blk (fun g hg h1 h2 => hkt3.block g h2 ?_ (hap p hp g hg)), HMS1.out.ap, HMS1.out.pw⟩
            · have := (HMS1.out.own.row.lt g e).1; omega
            · omega
          have HL3M : Hid (∀ p ∈ l, ∀ g, Mown p.2 g → g < w3.heap.size) := fun p hp g hg => ((HMS3.out.each p hp).rng g hg).2
          have HSZ3 : Hid (w1.heap.size ≤ w3.heap.size) := hkt3.str.size
          have HSW1 : Hid (w.heap.size ≤ w1.heap.size) := HKT1.out.str.size
          have HA2R : Hid (∀ g, ob a2 = some g → g < w3.heap.size) := fun g e => by
            have h5 := (own_obr HO2.out g e).2
            have h6 := hk3.str.size
            omega
          have HL1 : Hid (∀ g, (u6.ownBlock = some g ∨ ∃ p ∈ l, Mown p.2 g) → g < w1.heap.size) := fun g hg => by
            rcases hg with e | ⟨p, hp, e⟩
            · exact (HMS1.out.own.row.lt g e).2
            · exact ((HMS1.out.each p hp).rng g e).2
          have HW3 : Hid (w2.setCell ⟨b, 0, none⟩ (.slice a2 yl c2) = w3) := hw3
          refine wpAnyH_take (i := 10) (v := .pointer (some ⟨b, 0, none⟩)) rfl (by kernel_rfl) (by kernel_rfl) (by kernel_rfl) (fun _ _ _ h => h) (Or.inl ⟨by rfl, (fun W' _ => by go_simp)⟩) trivial ?_
          try simp only [Act.put, List.getElem_toArray, List.getElem_cons_zero, List.getElem_cons_succ, List.setIfInBounds_toArray, List.set_cons_zero, List.set_cons_succ]
          refine wpAnyH_take (i := 11) (v := .pointer (some ⟨b, 0, none⟩)) rfl (by kernel_rfl) (by kernel_rfl) (by kernel_rfl) (fun _ _ _ h => h) (Or.inl ⟨by rfl, (fun W' _ => by go_simp)⟩) trivial ?_
          try simp only [Act.put, List.getElem_toArray, List.getElem_cons_zero, List.getElem_cons_succ, List.setIfInBounds_toArray, List.set_cons_zero, List.set_cons_succ]
          refine wpAnyH_ready (rs := [12]) (by kernel_rfl) (by simp) ?_
          refine AllReadyH.cons rfl (fun K' hK' => step_set (by rfl) (sset_run _ _ rfl rfl rfl c02 f02) (hK'.out _ _ trivial (fun _ => ?_))) AllReadyH.nil
          try simp only [Act.put, List.getElem_toArray, List.getElem_cons_zero, List.getElem_cons_succ]
          refine wpAnyH_done (by kernel_rfl) ?_ _
          rw [HW3.out]
          clear HW3 hw3 hk3 hb2 c02 f02 c0 f0 hkt3 HOD HSD HO2 HST1 HMS1 HKT1 HFD1 ho2 hg2 hat2 hyl2
          by_cases hcp : cap = k0
          case' pos =>
            have hcpi : (cap : Int) = (k0 : Int) := by omega
            have HFD4 : Hid (Fed w3 b a2 (some ⟨vb, vo, none⟩) (n - k0) 0 (r.drop k0)) := HFD3.out.drop (k := k0) (by omega) (.inl ⟨rfl, rfl, hcp⟩)
            have HFL : Hid (∀ ad, some (⟨vb, vo, none⟩ : Addr) = some ad → ad.block < w.heap.size) := HI.out.fl
            have HDL : Hid ((r.drop k0).length = n - k0) := by show _ = _; rw [List.length_drop, HN.out]
            have HME : Hid (∀ z q, vlen (.slice z (n - k0) q) < n) := fun z q => by simp [vlen]; omega
            go_wp2_with fail
          case' neg =>
            have hcpi : ¬ (cap : Int) = (k0 : Int) := by omega
            have HFD4 : Hid (Fed w3 b a2 (some ⟨vb, vo + k0, none⟩) (n - k0) (cap - k0) (r.drop k0)) := HFD3.out.drop (by omega) (.inr ⟨by rw [Option.map_some, Addr.add_lit], rfl⟩)
            have HFL : Hid (∀ ad, some (⟨vb, vo + k0, none⟩ : Addr) = some ad → ad.block < w.heap.size) := fun ad e => by cases e; exact HI.out.fl ⟨vb, vo, none⟩ rfl
            have HDL : Hid ((r.drop k0).length = n - k0) := by show _ = _; rw [List.length_drop, HN.out]
            have HME : Hid (∀ z q, vlen (.slice z (n - k0) q) < n) := fun z q => by simp [vlen]; omega
            go_wp2_with fail
          all_goals
            refine (message_any N b a2 c2 y 0 w3 HST3.out HTZ.out (by rw [HYL.out]; omega)).mono ?_
            rintro e w4 ⟨m, s, a4, c4, rfl, hmm, hmo4, hst4, hk4, hnow4⟩
            have hkt4 : Kt w3 b a2 w4 a4 := Kt.kr a2 hk4 (fun g e => .inl (hnow4 g e))
            have hbN2 : b < w.heap.size := by omega
            have hs13 := HSZ3.out
            have hsw1 := HSW1.out
            have HST4 : Hid (Stm N w4 b a4 c4 (msgP y).2.1 (msgP y).2.2) := hst4
            have HMO4 : Hid (MO w3.heap.size w4 m s) := hmo4
            have HKT4 : Hid (Kt w b a w4 a4) := HKT3.out.trans hkt4
            have HFE4 := HFD4.out.keep hkt4
            have HMS4 : Hid (MsL w.heap.size w4 u6 l) := HMS3.out.blk (fun g hg hl => hk4.block g hl (by omega))
            have HMM : Hid (∀ m', (msgP y).1 = some m' → m = m') := hmm
            have HA4 : Hid (∀ g, ob a4 = some g → ob a2 = some g) := hnow4
            have HS34 : Hid (w3.heap.size ≤ w4.heap.size) := hk4.str.size
            have HPL : Hid ((msgP y).2.1.length ≤ xl + k0) := by
              show _ ≤ _
              rw [← HYL.out]
              unfold msgP
              split
              · simp
              · split
                · split <;> simp
                · exact Nat.le_refl _
            clear hmm hmo4 hst4 hk4 hnow4 hkt4 HST3 HMS3 HKT3 HFD3 HFD4
            have HFD4 : Hid (Fed w4 b a4 _ _ _ (r.drop k0)) := HFE4
            clear HFE4
            obtain ⟨mo, hmo⟩ : ∃ mo, (msgP y).1 = mo := ⟨_, rfl⟩
            have HMP : Hid ((msgP y).1 = mo) := hmo
            rw [hmo]
            clear hmo
            go_wp2_with (refine list_mstore rfl _ _ rfl (b := w4.heap.size) (m := m) (s := s) rfl rfl (mb_zero rfl rfl).1 ?_)
            intro w5 hm5 hk5
            obtain ⟨hz5, hb5⟩ := mb_zero (w := w4) rfl rfl
            have hbl5 : Below w4.heap.size w4 w5 := hb5.trans (hk5.out.below (Nat.le_refl _) hb5.size)
            have HST5 : Hid (Stm N w5 b a4 c4 (msgP y).2.1 (msgP y).2.2) := HST4.out.bel hbl5
            have HMO5 : Hid (MO w3.heap.size w5 m s) := HMO4.out.blk (fun g _ _ hl => hbl5.block g hl)
            have hkt5 : Kt w4 b a4 w5 a4 := ⟨hbl5.mono (Nat.zero_le _), fun g hg _ _ => hbl5.block g hg, fun g e => .inl e⟩
            have HKT5 : Hid (Kt w b a w5 a4) := HKT4.out.trans hkt5
            have HFE5 := HFD4.out.keep hkt5
            have HMS5 : Hid (MsL w.heap.size w5 u6 l) := HMS4.out.blk (fun g hg hl => hbl5.block g hl)
            have HS45 : Hid (w4.heap.size ≤ w5.heap.size) := hbl5.size
            have HM5 : Hid (MB w4.heap.size m s w5) := hm5
            have HAPA : Hid (∀ p ∈ l, ∀ g, Mown p.2 g → ¬ ob a4 = some g) := fun p hp g hg e => by
              rcases HNOW.out g (HA4.out g e) with e2 | e2
              · exact HI.out.ap p hp g hg e2
              · have := HL1.out g (.inr ⟨p, hp, hg⟩); omega
            have HAPB : Hid (∀ g, u6.ownBlock = some g → ¬ ob a4 = some g) := fun g hg e => by
              rcases HNOW.out g (HA4.out g e) with e2 | e2
              · exact HI.out.ap2 g hg e2
              · have := HL1.out g (.inl hg); omega
            clear hm5 hk5 hz5 hb5 hkt5 hbl5 HST4 HMO4 HKT4 HMS4 HFD4
            have HFD5 : Hid (Fed w5 b a4 _ _ _ (r.drop k0)) := HFE5
            clear HFE5
            obtain ⟨bq, hbq⟩ : ∃ q, w4.heap.size = q := ⟨_, rfl⟩
            rw [hbq] at HM5 ⊢
            clear hbq
            cases mo with
            | none =>
              have HSO5 : Hid (T = (l.map (fun p => p.1) ++ (TK (msgP y).2.1 (msgP y).2.2 (r.drop k0)).1, (TK (msgP y).2.1 (msgP y).2.2 (r.drop k0)).2)) := by
                show _ = _
                rw [HI.out.so, HTS.out, HMP.out]
                simp
              go_wp2_with fail
              first
                | (refine ⟨⟨l, (msgP y).2.1, (msgP y).2.2, a4, c4, r.drop k0, some ⟨vb, vo + k0, none⟩, cap - k0, by rw [HDL.out] <;> simp, ⟨HST5.out, HMS5.out, HKT5.out, by rw [HDL.out]; exact HFD5.out, HSO5.out, HTO.out, HAPA.out, HAPB.out, ?_, ?_, HFL.out⟩⟩, by first | exact HME.out _ _ | exact (by simpa [vlen] using HME.out none 0)⟩)
                | (refine ⟨⟨l, (msgP y).2.1, (msgP y).2.2, a4, c4, r.drop k0, some ⟨vb, vo, none⟩, 0, by rw [HDL.out] <;> simp, ⟨HST5.out, HMS5.out, HKT5.out, by rw [HDL.out]; exact HFD5.out, HSO5.out, HTO.out, HAPA.out, HAPB.out, ?_, ?_, HFL.out⟩⟩, by first | exact HME.out _ _ | exact (by simpa [vlen] using HME.out none 0)⟩)
              · have := HPL.out; have h5 := HXL.out; rw [HDL.out]; omega
              · rw [HDL.out]; omega
            | some m' =>
              have hmm' : m = m' := HMM.out m' HMP.out
              have HSO5 : Hid (T = ((l ++ [(m, s)]).map (fun p => p.1) ++ (TK (msgP y).2.1 (msgP y).2.2 (r.drop k0)).1, (TK (msgP y).2.1 (msgP y).2.2 (r.drop k0)).2)) := by
                show _ = _
                rw [HI.out.so, HTS.out, HMP.out, ← hmm']
                simp
              clear hmm'
              obtain ⟨ho6, hb6⟩ : Gm.OwnL E17 w.heap.size (w5.alloc (Obj.cells (msL m s).toArray 54)) u6 l ∧ Below w5.heap.size w5 (w5.alloc (Obj.cells (msL m s).toArray 54)) := by
                have hb : Below w5.heap.size w5 (w5.alloc (Obj.cells (msL m s).toArray 54)) := (Below.refl _ w5).alloc (Nat.le_refl _) _
                exact ⟨HMS5.out.own.bel hb, hb⟩
              have HO6 : Hid (Gm.OwnL E17 w.heap.size (w5.alloc (Obj.cells (msL m s).toArray 54)) u6 l) := ho6
              have HB6 : Hid (Below w5.heap.size w5 (w5.alloc (Obj.cells (msL m s).toArray 54))) := hb6
              have hll : l.length ≤ 137438953471 := by omega
              have hN6 : w.heap.size ≤ (w5.alloc (Obj.cells (msL m s).toArray 54)).heap.size := Nat.le_trans HKT5.out.str.size hb6.size
              clear ho6 hb6
              go_wp2_with (first | (refine list_mload rfl _ rfl (b := bq) rfl HM5.out ?_) | (refine list_mbuild rfl _ rfl (m := m) (s := s) rfl ?_) | (at_builtin; refine Gm.list_app1 E17 rfl _ _ 39 rfl rfl w.heap.size u6 l (m, s) hll (w := w5) _ rfl HO6.out rfl hN6 rfl ?_))
              intro v7 w7 ho7 hg7 ha7
              have hu3 : ∀ g, u6.ownBlock = some g → g < w3.heap.size := fun g e => by have := HL1.out g (.inl e); omega
              have h35 : w3.heap.size ≤ w5.heap.size := Nat.le_trans HS34.out HS45.out
              have h7 := tk_app HST5.out HMO5.out HKT5.out HFD5.out HMS5.out HAPA.out HAPB.out (by omega) HL3M.out hu3 (fun g e => HA2R.out g (HA4.out g e)) HFL.out hbN2 h35 HB6.out ho7.out hg7.out ha7.out
              have H7 := (show Hid _ from h7)
              clear h7 hu3 ho7 hg7 ha7 HO6 HB6 hN6 HST5 HMO5 HKT5 HMS5 HFD5
              go_wp2_with fail
              obtain ⟨q1, q2, q3, q4, q5, q6⟩ := H7.out
              first
                | (refine ⟨⟨l ++ [(m, s)], (msgP y).2.1, (msgP y).2.2, a4, c4, r.drop k0, some ⟨vb, vo + k0, none⟩, cap - k0, by rw [HDL.out] <;> simp, ⟨q1, q2, q3, by rw [HDL.out]; exact q4, HSO5.out, HTO.out, q5, q6, ?_, ?_, HFL.out⟩⟩, by first | exact HME.out _ _ | exact (by simpa [vlen] using HME.out none 0)⟩)
                | (refine ⟨⟨l ++ [(m, s)], (msgP y).2.1, (msgP y).2.2, a4, c4, r.drop k0, some ⟨vb, vo, none⟩, 0, by rw [HDL.out] <;> simp, ⟨q1, q2, q3, by rw [HDL.out]; exact q4, HSO5.out, HTO.out, q5, q6, ?_, ?_, HFL.out⟩⟩, by first | exact HME.out _ _ | exact (by simpa [vlen] using HME.out none 0)⟩)
              · have := HPL.out; have h5 := HXL.out; rw [HDL.out]; omega
              · rw [HDL.out, List.length_append]; simp; omega
        · obtain rfl : n = k := by omega
          have hmi : ¬ (k0 : Int) ≤ (n : Int) := by omega
          have hmj : (n : Int) < (k0 : Int) := by omega
          go_upto_region 4 with fail
          obtain ⟨xl, hxl⟩ : ∃ q, x.length = q := ⟨_, rfl⟩
          have HXL : Hid (x.length = xl) := hxl
          obtain ⟨y, hy⟩ : ∃ y, x ++ r.take n = y := ⟨_, rfl⟩
          have HY : Hid (x ++ r.take n = y) := hy
          obtain ⟨t1, t2, t3⟩ := TK_step HSOK.out (by rw [HN.out]; omega) HKK.out hy
          have HTS : Hid (TK x 0 r = ((msgP y).1.toList ++ (TK (msgP y).2.1 (msgP y).2.2 (r.drop n)).1, (TK (msgP y).2.1 (msgP y).2.2 (r.drop n)).2)) := t1
          have HTO : Hid ((msgP y).2.2 = 0 → SOk (msgP y).2.1) := t2
          have HTZ : Hid (6 ≤ y.length → bgE y = 0 → y.length ≤ szOf y) := t3
          have hyl : y.length = xl + n := by rw [← hy, List.length_append, List.length_take, hxl, HN.out]; omega
          have HYL : Hid (y.length = xl + n) := hyl
          have hxlb : xl + n ≤ 1048576 := by omega
          have hstm := HST1.out
          have c0 := hstm.c0
          have f0 := hstm.f0 0
          rw [hxl] at c0
          have hblt := hstm.hl
          have hbN := hstm.lt
          have HOD : Hid (OwnL E8 N w1.drew (.slice a1 xl c1) x) := by
            have h5 := hstm.own.bel (drew_bel w1)
            rw [hxl] at h5
            exact h5
          have HSD : Hid (Lst E8 w1.drew (some ⟨vb, vo, none⟩) (r.take n)) := (HFD1.out.l.take n).bel (drew_bel w1)
          have hN1 : N ≤ w1.heap.size := Nat.le_trans hN HKT1.out.str.size
          have htl : (r.take n).length = n := by rw [List.length_take, HN.out]; omega
          have HTL : Hid ((r.take n).length = n) := htl
          have hbig : x.length + n ≤ 1099511627775 := by omega
          have HOR : Hid (∀ g, ob a1 = some g → N ≤ g ∧ g < w1.heap.size) := fun g e => own_obr hstm.own g e
          clear hxl hy t1 t2 t3 hyl hstm htl
          refine wp_region_held_drew (S := fun _ => True) (by kernel_rfl) trivial (fun _ => ?_)
          refine wpAnyH_take (i := 0) (v := .pointer (some ⟨b, 0, none⟩)) rfl (by kernel_rfl) (by kernel_rfl) (by kernel_rfl) (fun _ _ _ h => h) (Or.inl ⟨by rfl, (fun W' _ => by go_simp)⟩) trivial ?_
          try simp only [Act.put, List.getElem_toArray, List.getElem_cons_zero, List.setIfInBounds_toArray, List.set_cons_zero, List.set_cons_succ]
          refine wpAnyH_take (i := 1) (v := .pointer (some ⟨b, 0, none⟩)) rfl (by kernel_rfl) (by kernel_rfl) (by kernel_rfl) (fun _ _ _ h => h) (Or.inl ⟨by rfl, (fun W' _ => by go_simp)⟩) trivial ?_
          try simp only [Act.put, List.getElem_toArray, List.getElem_cons_zero, List.getElem_cons_succ, List.setIfInBounds_toArray, List.set_cons_zero, List.set_cons_succ]
          refine wpAnyH_take (i := 2) (v := .pointer (some ⟨b, 0, none⟩)) rfl (by kernel_rfl) (by kernel_rfl) (by kernel_rfl) (fun _ _ _ h => h) (Or.inl ⟨by rfl, (fun W' _ => by go_simp)⟩) trivial ?_
          try simp only [Act.put, List.getElem_toArray, List.getElem_cons_zero, List.getElem_cons_succ, List.setIfInBounds_toArray, List.set_cons_zero, List.set_cons_succ]
          refine wpAnyH_take (i := 3) (v := .pointer (some ⟨b, 0, none⟩)) rfl (by kernel_rfl) (by kernel_rfl) (by kernel_rfl) (fun _ _ _ h => h) (Or.inl ⟨by rfl, (fun W' _ => by go_simp)⟩) trivial ?_
          try simp only [Act.put, List.getElem_toArray, List.getElem_cons_zero, List.getElem_cons_succ, List.setIfInBounds_toArray, List.set_cons_zero, List.set_cons_succ]
          refine wpAnyH_take (i := 5) (v := .slice (some ⟨vb, vo, none⟩) n cap) rfl (by kernel_rfl) (by kernel_rfl) (by kernel_rfl) (fun _ _ _ h => h) (Or.inl ⟨by rfl, (fun W' _ => by go_simp)⟩) trivial ?_
          try simp only [Act.put, List.getElem_toArray, List.getElem_cons_zero, List.getElem_cons_succ, List.setIfInBounds_toArray, List.set_cons_zero, List.set_cons_succ]
          refine wpAnyH_take (i := 6) (v := .int .i64 (n : Int)) rfl (by kernel_rfl) (by kernel_rfl) (by kernel_rfl) (fun _ _ _ h => h) (Or.inl ⟨by rfl, (fun W' _ => by go_simp)⟩) trivial ?_
          try simp only [Act.put, List.getElem_toArray, List.getElem_cons_zero, List.getElem_cons_succ, List.setIfInBounds_toArray, List.set_cons_zero, List.set_cons_succ]
          refine wpAnyH_take (i := 7) (v := .int .i64 (n : Int)) rfl (by kernel_rfl) (by kernel_rfl) (by kernel_rfl) (fun _ _ _ h => h) (Or.inl ⟨by rfl, (fun W' _ => by go_simp)⟩) trivial ?_
          try simp only [Act.put, List.getElem_toArray, List.getElem_cons_zero, List.getElem_cons_succ, List.setIfInBounds_toArray, List.set_cons_zero, List.set_cons_succ]
          refine wpAnyH_take (i := 8) (v := .slice (some ⟨vb, vo, none⟩) n n) rfl (by kernel_rfl) (by kernel_rfl) (by kernel_rfl) (fun _ _ _ h => h) (Or.inl ⟨by rfl, (fun W' _ => by go_simp)⟩) trivial ?_
          try simp only [Act.put, List.getElem_toArray, List.getElem_cons_zero, List.getElem_cons_succ, List.setIfInBounds_toArray, List.set_cons_zero, List.set_cons_succ]
          refine wpAnyH_ready (rs := [4]) (by kernel_rfl) (by simp) ?_
          refine AllReadyH.cons rfl (fun K' hK' => step_val (by rfl) (sload_run _ rfl rfl c0) (hK'.out _ _ trivial (fun _ => ?_))) AllReadyH.nil
          try simp only [Act.put, List.getElem_toArray, List.getElem_cons_zero, List.getElem_cons_succ, List.setIfInBounds_toArray, List.set_cons_zero, List.set_cons_succ]
          refine wpAnyH_ready (rs := [9]) (by kernel_rfl) (by simp) ?_
          refine AllReadyH.cons rfl (fun K' hK' => step_app8 rfl _ _ rfl N (.slice a1 xl c1) x (r.take n) ⟨vb, vo, none⟩ n n w1.drew rfl HOD.out rfl HSD.out HTL.out (by omega) hN1 (fun v2 w2 ho2 hg2 hat2 => hK'.out _ _ trivial (fun _ => ?_))) AllReadyH.nil
          try simp only [Act.put, List.getElem_toArray, List.getElem_cons_zero, List.getElem_cons_succ, List.setIfInBounds_toArray, List.set_cons_zero, List.set_cons_succ]
          have hb2 : w2.heap[b]? = w1.heap[b]? := hg2.out.block b hblt (fun e => by rw [ob_own] at e; have := (HOR.out b e.symm).1; omega)
          have c02 : w2.cell? ⟨b, 0, none⟩ = some (.slice a1 xl c1) := (World.cell?_of_block (w := w1) hb2).trans c0
          have f02 : w2.frozen? ⟨b, 0, none⟩ = false := (World.frozen?_of_block (w := w1) hb2).trans f0
          have HO2 : Hid (OwnL E8 N w2 v2 y) := by rw [← HY.out]; exact ho2.out
          obtain ⟨a2, c2, hv2, -⟩ := HO2.out.form
          obtain ⟨yl, hyl2⟩ : ∃ q, y.length = q := ⟨_, rfl⟩
          have HYL2 : Hid (y.length = yl) := hyl2
          rw [hyl2] at hv2
          subst hv2
          obtain ⟨w3, hw3⟩ : ∃ w3, w2.setCell ⟨b, 0, none⟩ (.slice a2 yl c2) = w3 := ⟨_, rfl⟩
          have hk3 : Kr w2 b w3 := by rw [← hw3]; exact Kr.set _ _ _ _
          have hsz2 : w1.heap.size ≤ w2.heap.size := hg2.out.size
          have HNOW : Hid (∀ g, ob a2 = some g → ob a1 = some g ∨ w1.heap.size ≤ g) := fun g e => by
            have h5 := hat2.out
            rw [ob_own, ob_own] at h5
            rcases h5 with h5 | h5
            · exact .inl (h5 ▸ e)
            · rw [h5] at e
              cases e
              exact .inr (Nat.le_refl _)
          have hkt3 : Kt w1 b a1 w3 a2 := ⟨((Below.refl 0 w1).trans ((drew_bel w1).mono (Nat.zero_le _))).grown hg2.out (Nat.zero_le _) (fun _ _ => Nat.zero_le _) |>.trans hk3.str, fun g hg h1 h2 => (hk3.block g (Nat.lt_of_lt_of_le hg hsz2) h1).trans (hg2.out.block g hg (fun e => by rw [ob_own] at e; exact h2 e.symm)), HNOW.out⟩
          have HKT3 : Hid (Kt w b a w3 a2) := HKT1.out.trans hkt3
          have HST3 : Hid (Stm N w3 b a2 c2 y 0) := by
            refine ⟨?_, ?_, hbN, ?_⟩
            · rw [← hw3, heap_setCell_same w2 b 0 _ _ _ (hb2.trans HST1.out.box), HYL2.out]
              rfl
            · rw [HYL2.out]
              exact own_obk HO2.out (fun g _ hg hl => hk3.block g hl (by omega))
            · rw [← HY.out]
              exact all_u8 HST1.out.u8 (take_u8 HFD1.out.u8 n)
          have HFD3 : Hid (Fed w3 b a2 (some ⟨vb, vo, none⟩) n cap r) := HFD1.out.keep hkt3
          have HMS3 : Hid (MsL w.heap.size w3 u6 l) := by
            have hap := HI.out.ap
            have hap2 := HI.out.ap2
            refine ⟨HMS1.out.own.blk (fun g e => hkt3.block g (HMS1.out.own.row.lt g e).2 ?_ (hap2 g e)), fun p hp => (HMS1.out.each p hp).blk (fun g hg h1 h2 => hkt3.block g h2 ?_ (hap p hp g hg)), HMS1.out.ap, HMS1.out.pw⟩
            · have := (HMS1.out.own.row.lt g e).1; omega
            · omega
          have HL3M : Hid (∀ p ∈ l, ∀ g, Mown p.2 g → g < w3.heap.size) := fun p hp g hg => ((HMS3.out.each p hp).rng g hg).2
          have HSZ3 : Hid (w1.heap.size ≤ w3.heap.size) := hkt3.str.size
          have HSW1 : Hid (w.heap.size ≤ w1.heap.size) := HKT1.out.str.size
          have HA2R : Hid (∀ g, ob a2 = some g → g < w3.heap.size) := fun g e => by
            have h5 := (own_obr HO2.out g e).2
            have h6 := hk3.str.size
            omega
          have HL1 : Hid (∀ g, (u6.ownBlock = some g ∨ ∃ p ∈ l, Mown p.2 g) → g < w1.heap.size) := fun g hg => by
            rcases hg with e | ⟨p, hp, e⟩
            · exact (HMS1.out.own.row.lt g e).2
            · exact ((HMS1.out.each p hp).rng g e).2
          have HW3 : Hid (w2.setCell ⟨b, 0, none⟩ (.slice a2 yl c2) = w3) := hw3
          refine wpAnyH_take (i := 10) (v := .pointer (some ⟨b, 0, none⟩)) rfl (by kernel_rfl) (by kernel_rfl) (by kernel_rfl) (fun _ _ _ h => h) (Or.inl ⟨by rfl, (fun W' _ => by go_simp)⟩) trivial ?_
          try simp only [Act.put, List.getElem_toArray, List.getElem_cons_zero, List.getElem_cons_succ, List.setIfInBounds_toArray, List.set_cons_zero, List.set_cons_succ]
          refine wpAnyH_take (i := 11) (v := .pointer (some ⟨b, 0, none⟩)) rfl (by kernel_rfl) (by kernel_rfl) (by kernel_rfl) (fun _ _ _ h => h) (Or.inl ⟨by rfl, (fun W' _ => by go_simp)⟩) trivial ?_
          try simp only [Act.put, List.getElem_toArray, List.getElem_cons_zero, List.getElem_cons_succ, List.setIfInBounds_toArray, List.set_cons_zero, List.set_cons_succ]
          refine wpAnyH_ready (rs := [12]) (by kernel_rfl) (by simp) ?_
          refine AllReadyH.cons rfl (fun K' hK' => step_set (by rfl) (sset_run _ _ rfl rfl rfl c02 f02) (hK'.out _ _ trivial (fun _ => ?_))) AllReadyH.nil
          try simp only [Act.put, List.getElem_toArray, List.getElem_cons_zero, List.getElem_cons_succ]
          refine wpAnyH_done (by kernel_rfl) ?_ _
          rw [HW3.out]
          clear HW3 hw3 hk3 hb2 c02 f02 c0 f0 hkt3 HOD HSD HO2 HST1 HMS1 HKT1 HFD1 ho2 hg2 hat2 hyl2
          by_cases hcp : cap = n
          case' pos =>
            have hcpi : (cap : Int) = (n : Int) := by omega
            have HFD4 : Hid (Fed w3 b a2 (some ⟨vb, vo, none⟩) (n - n) 0 (r.drop n)) := HFD3.out.drop (k := n) (by omega) (.inl ⟨rfl, rfl, hcp⟩)
            have HFL : Hid (∀ ad, some (⟨vb, vo, none⟩ : Addr) = some ad → ad.block < w.heap.size) := HI.out.fl
            have HDL : Hid ((r.drop n).length = n - n) := by show _ = _; rw [List.length_drop, HN.out]
            have HME : Hid (∀ z q, vlen (.slice z (n - n) q) < n) := fun z q => by simp [vlen]; omega
            go_wp2_with fail
          case' neg =>
            have hcpi : ¬ (cap : Int) = (n : Int) := by omega
            have HFD4 : Hid (Fed w3 b a2 (some ⟨vb, vo + n, none⟩) (n - n) (cap - n) (r.drop n)) := HFD3.out.drop (by omega) (.inr ⟨by rw [Option.map_some, Addr.add_lit], rfl⟩)
            have HFL : Hid (∀ ad, some (⟨vb, vo + n, none⟩ : Addr) = some ad → ad.block < w.heap.size) := fun ad e => by cases e; exact HI.out.fl ⟨vb, vo, none⟩ rfl
            have HDL : Hid ((r.drop n).length = n - n) := by show _ = _; rw [List.length_drop, HN.out]
            have HME : Hid (∀ z q, vlen (.slice z (n - n) q) < n) := fun z q => by simp [vlen]; omega
            go_wp2_with fail
          all_goals
            refine (message_any N b a2 c2 y 0 w3 HST3.out HTZ.out (by rw [HYL.out]; omega)).mono ?_
            rintro e w4 ⟨m, s, a4, c4, rfl, hmm, hmo4, hst4, hk4, hnow4⟩
            have hkt4 : Kt w3 b a2 w4 a4 := Kt.kr a2 hk4 (fun g e => .inl (hnow4 g e))
            have hbN2 : b < w.heap.size := by omega
            have hs13 := HSZ3.out
            have hsw1 := HSW1.out
            have HST4 : Hid (Stm N w4 b a4 c4 (msgP y).2.1 (msgP y).2.2) := hst4
            have HMO4 : Hid (MO w3.heap.size w4 m s) := hmo4
            have HKT4 : Hid (Kt w b a w4 a4) := HKT3.out.trans hkt4
            have HFE4 := HFD4.out.keep hkt4
            have HMS4 : Hid (MsL w.heap.size w4 u6 l) := HMS3.out.blk (fun g hg hl => hk4.block g hl (by omega))
            have HMM : Hid (∀ m', (msgP y).1 = some m' → m = m') := hmm
            have HA4 : Hid (∀ g, ob a4 = some g → ob a2 = some g) := hnow4
            have HS34 : Hid (w3.heap.size ≤ w4.heap.size) := hk4.str.size
            have HPL : Hid ((msgP y).2.1.length ≤ xl + n) := by
              show _ ≤ _
              rw [← HYL.out]
              unfold msgP
              split
              · simp
              · split
                · split <;> simp
                · exact Nat.le_refl _
            clear hmm hmo4 hst4 hk4 hnow4 hkt4 HST3 HMS3 HKT3 HFD3 HFD4
            have HFD4 : Hid (Fed w4 b a4 _ _ _ (r.drop n)) := HFE4
            clear HFE4
            obtain ⟨mo, hmo⟩ : ∃ mo, (msgP y).1 = mo := ⟨_, rfl⟩
            have HMP : Hid ((msgP y).1 = mo) := hmo
            rw [hmo]
            clear hmo
            go_wp2_with (refine list_mstore rfl _ _ rfl (b := w4.heap.size) (m := m) (s := s) rfl rfl (mb_zero rfl rfl).1 ?_)
            intro w5 hm5 hk5
            obtain ⟨hz5, hb5⟩ := mb_zero (w := w4) rfl rfl
            have hbl5 : Below w4.heap.size w4 w5 := hb5.trans (hk5.out.below (Nat.le_refl _) hb5.size)
            have HST5 : Hid (Stm N w5 b a4 c4 (msgP y).2.1 (msgP y).2.2) := HST4.out.bel hbl5
            have HMO5 : Hid (MO w3.heap.size w5 m s) := HMO4.out.blk (fun g _ _ hl => hbl5.block g hl)
            have hkt5 : Kt w4 b a4 w5 a4 := ⟨hbl5.mono (Nat.zero_le _), fun g hg _ _ => hbl5.block g hg, fun g e => .inl e⟩
            have HKT5 : Hid (Kt w b a w5 a4) := HKT4.out.trans hkt5
            have HFE5 := HFD4.out.keep hkt5
            have HMS5 : Hid (MsL w.heap.size w5 u6 l) := HMS4.out.blk (fun g hg hl => hbl5.block g hl)
            have HS45 : Hid (w4.heap.size ≤ w5.heap.size) := hbl5.size
            have HM5 : Hid (MB w4.heap.size m s w5) := hm5
            have HAPA : Hid (∀ p ∈ l, ∀ g, Mown p.2 g → ¬ ob a4 = some g) := fun p hp g hg e => by
              rcases HNOW.out g (HA4.out g e) with e2 | e2
              · exact HI.out.ap p hp g hg e2
              · have := HL1.out g (.inr ⟨p, hp, hg⟩); omega
            have HAPB : Hid (∀ g, u6.ownBlock = some g → ¬ ob a4 = some g) := fun g hg e => by
              rcases HNOW.out g (HA4.out g e) with e2 | e2
              · exact HI.out.ap2 g hg e2
              · have := HL1.out g (.inl hg); omega
            clear hm5 hk5 hz5 hb5 hkt5 hbl5 HST4 HMO4 HKT4 HMS4 HFD4
            have HFD5 : Hid (Fed w5 b a4 _ _ _ (r.drop n)) := HFE5
            clear HFE5
            obtain ⟨bq, hbq⟩ : ∃ q, w4.heap.size = q := ⟨_, rfl⟩
            rw [hbq] at HM5 ⊢
            clear hbq
            cases mo with
            | none =>
              have HSO5 : Hid (T = (l.map (fun p => p.1) ++ (TK (msgP y).2.1 (msgP y).2.2 (r.drop n)).1, (TK (msgP y).2.1 (msgP y).2.2 (r.drop n)).2)) := by
                show _ = _
                rw [HI.out.so, HTS.out, HMP.out]
                simp
              go_wp2_with fail
              first
                | (refine ⟨⟨l, (msgP y).2.1, (msgP y).2.2, a4, c4, r.drop n, some ⟨vb, vo + n, none⟩, cap - n, by rw [HDL.out] <;> simp, ⟨HST5.out, HMS5.out, HKT5.out, by rw [HDL.out]; exact HFD5.out, HSO5.out, HTO.out, HAPA.out, HAPB.out, ?_, ?_, HFL.out⟩⟩, by first | exact HME.out _ _ | exact (by simpa [vlen] using HME.out none 0)⟩)
                | (refine ⟨⟨l, (msgP y).2.1, (msgP y).2.2, a4, c4, r.drop n, some ⟨vb, vo, none⟩, 0, by rw [HDL.out] <;> simp, ⟨HST5.out, HMS5.out, HKT5.out, by rw [HDL.out]; exact HFD5.out, HSO5.out, HTO.out, HAPA.out, HAPB.out, ?_, ?_, HFL.out⟩⟩, by first | exact HME.out _ _ | exact (by simpa [vlen] using HME.out none 0)⟩)
              · have := HPL.out; have h5 := HXL.out; rw [HDL.out]; omega
              · rw [HDL.out]; omega
            | some m' =>
              have hmm' : m = m' := HMM.out m' HMP.out
              have HSO5 : Hid (T = ((l ++ [(m, s)]).map (fun p => p.1) ++ (TK (msgP y).2.1 (msgP y).2.2 (r.drop n)).1, (TK (msgP y).2.1 (msgP y).2.2 (r.drop n)).2)) := by
                show _ = _
                rw [HI.out.so, HTS.out, HMP.out, ← hmm']
                simp
              clear hmm'
              obtain ⟨ho6, hb6⟩ : Gm.OwnL E17 w.heap.size (w5.alloc (Obj.cells (msL m s).toArray 54)) u6 l ∧ Below w5.heap.size w5 (w5.alloc (Obj.cells (msL m s).toArray 54)) := by
                have hb : Below w5.heap.size w5 (w5.alloc (Obj.cells (msL m s).toArray 54)) := (Below.refl _ w5).alloc (Nat.le_refl _) _
                exact ⟨HMS5.out.own.bel hb, hb⟩
              have HO6 : Hid (Gm.OwnL E17 w.heap.size (w5.alloc (Obj.cells (msL m s).toArray 54)) u6 l) := ho6
              have HB6 : Hid (Below w5.heap.size w5 (w5.alloc (Obj.cells (msL m s).toArray 54))) := hb6
              have hll : l.length ≤ 137438953471 := by omega
              have hN6 : w.heap.size ≤ (w5.alloc (Obj.cells (msL m s).toArray 54)).heap.size := Nat.le_trans HKT5.out.str.size hb6.size
              clear ho6 hb6
              go_wp2_with (first | (refine list_mload rfl _ rfl (b := bq) rfl HM5.out ?_) | (refine list_mbuild rfl _ rfl (m := m) (s := s) rfl ?_) | (at_builtin; refine Gm.list_app1 E17 rfl _ _ 39 rfl rfl w.heap.size u6 l (m, s) hll (w := w5) _ rfl HO6.out rfl hN6 rfl ?_))
              intro v7 w7 ho7 hg7 ha7
              have hu3 : ∀ g, u6.ownBlock = some g → g < w3.heap.size := fun g e => by have := HL1.out g (.inl e); omega
              have h35 : w3.heap.size ≤ w5.heap.size := Nat.le_trans HS34.out HS45.out
              have h7 := tk_app HST5.out HMO5.out HKT5.out HFD5.out HMS5.out HAPA.out HAPB.out (by omega) HL3M.out hu3 (fun g e => HA2R.out g (HA4.out g e)) HFL.out hbN2 h35 HB6.out ho7.out hg7.out ha7.out
              have H7 := (show Hid _ from h7)
              clear h7 hu3 ho7 hg7 ha7 HO6 HB6 hN6 HST5 HMO5 HKT5 HMS5 HFD5
              go_wp2_with fail
              obtain ⟨q1, q2, q3, q4, q5, q6⟩ := H7.out
              first
                | (refine ⟨⟨l ++ [(m, s)], (msgP y).2.1, (msgP y).2.2, a4, c4, r.drop n, some ⟨vb, vo + n, none⟩, cap - n, by rw [HDL.out] <;> simp, ⟨q1, q2, q3, by rw [HDL.out]; exact q4, HSO5.out, HTO.out, q5, q6, ?_, ?_, HFL.out⟩⟩, by first | exact HME.out _ _ | exact (by simpa [vlen] using HME.out none 0)⟩)
                | (refine ⟨⟨l ++ [(m, s)], (msgP y).2.1, (msgP y).2.2, a4, c4, r.drop n, some ⟨vb, vo, none⟩, 0, by rw [HDL.out] <;> simp, ⟨q1, q2, q3, by rw [HDL.out]; exact q4, HSO5.out, HTO.out, q5, q6, ?_, ?_, HFL.out⟩⟩, by first | exact HME.out _ _ | exact (by simpa [vlen] using HME.out none 0)⟩)
              · have := HPL.out; have h5 := HXL.out; rw [HDL.out]; omega
              · rw [HDL.out, List.length_append]; simp; omega
      · have hfb : (f == 0) = false := by rw [beq_eq_false_iff_ne]; exact hf0
        have HQ : Hid (∀ q, TkPost N w b a T (.returned (.tuple #[u6, .int .i64 f])) (wr.drewN q)) := fun q => tk_done HI.out (.inr hf0) (drewN_bel wr q)
        obtain ⟨ov, oc, ho6, -⟩ := HI.out.ms.own.form
        obtain ⟨ol, hol⟩ : ∃ q, l.length = q := ⟨_, rfl⟩
        rw [hol] at ho6
        subst ho6
        clear hol
        go_wp2_with fail
        go_quiet (fail)
        go_wp2_with fail
        refine bodyPost_ret (v := .tuple #[.slice ov ol oc, .int .i64 f]) (by simp [results, Try.results29, go_sem]) rfl ?_
        exact HQ.out _
end Go.Proofs.Ytanboekdfdafmaa.Pv
