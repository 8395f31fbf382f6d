/- The damper in memory; what is asked of it. -/
import Derived.Test.YtjfiahendnlcjaaDaB
import Derived.Test.YtjfiahendnlcjaaAsk3
namespace Go.Proofs.Ytjfiahendnlcjaa.Da
open Go.ChangeShapes Go.WideShapes Go.ChangeAt Go.RowKit Go.Joins Go.Deep Go.Proofs.Ytjfiahendnlcjaa.Ge
set_option linter.unusedVariables false
set_option linter.unusedSimpArgs false

/-- a damper's config and clock -/
structure Dc where
  half : Nat
  limit : Nat
  reuse : Nat
  most : Nat
  down : Nat
  change : Nat
  clock : Nat
structure DcOk (c : Dc) : Prop where
  half : 1 ≤ c.half ∧ c.half ≤ 10000
  reuse : 1 ≤ c.reuse ∧ c.reuse < c.limit
  most : c.limit ≤ c.most ∧ c.most ≤ 1000000
  down : c.down ≤ 1000000
  change : c.change ≤ 1000000
  clock : c.clock ≤ 1099511627776
def DmK : Sk := ⟨56, 9, _, Try.underlying56, rfl, by kernel_rfl⟩
def PxK : Sk := ⟨35, 2, _, Try.underlying35, rfl, by kernel_rfl⟩
def dmL (c : Dc) (bp bu : Nat) : List Value := [.int .i64 (c.half : Int), .int .i64 (c.limit : Int), .int .i64 (c.reuse : Int), .int .i64 (c.most : Int), .int .i64 (c.down : Int), .int .i64 (c.change : Int), .int .i64 (c.clock : Int), .map (some bp), .map (some bu)]
def pxL (p : Pf) : List Value := [.int .u32 p.1, .int .i64 p.2]
/-- where it lies -/
structure Dw where
  b : Nat
  bp : Nat
  bu : Nat
def fpD (d : Dw) (g : Nat) : Prop := g = d.b ∨ g = d.bp ∨ g = d.bu
/-- a damper in memory: its penalties and those to be told, with their stamps -/
structure Dp (W : World) (d : Dw) (c : Dc) (es : Ents Pf Pn) (ce : Nat) (us : Ents Pf Unit) (cu : Nat) : Prop where
  box : SB DmK d.b (dmL c d.bp d.bu) W
  pm : MB MPn d.bp es ce W
  um : MB MUn d.bu us cu W
  eok : Mok es ce
  uok : Mok us cu
  ne : d.b ≠ d.bp ∧ d.b ≠ d.bu ∧ d.bp ≠ d.bu
  cok : DcOk c
  pen : ∀ x ∈ es, 0 < x.2.1.v ∧ x.2.1.v ≤ c.most ∧ x.2.1.s ≤ c.clock
  ui : ∀ x ∈ us, 0 ≤ x.1.1 ∧ x.1.1 < 4294967296
theorem Dp.blk {W W' : World} {d : Dw} {c : Dc} {es : Ents Pf Pn} {ce : Nat} {us : Ents Pf Unit} {cu : Nat} (h : Dp W d c es ce us cu) (hb : ∀ g, fpD d g → g < W.heap.size → W'.heap[g]? = W.heap[g]?) : Dp W' d c es ce us cu :=
  ⟨h.box.blk (hb _ (.inl rfl) h.box.lt), h.pm.blk (hb _ (.inr (.inl rfl)) h.pm.lt), h.um.blk (hb _ (.inr (.inr rfl)) h.um.lt), h.eok, h.uok, h.ne, h.cok, h.pen, h.ui⟩
theorem Dp.bel {W W' : World} {d : Dw} {c : Dc} {es : Ents Pf Pn} {ce : Nat} {us : Ents Pf Unit} {cu : Nat} (h : Dp W d c es ce us cu) (hb : Below W.heap.size W W') : Dp W' d c es ce us cu := h.blk (fun g _ hl => hb.block g hl)
theorem Dp.lt {W : World} {d : Dw} {c : Dc} {es : Ents Pf Pn} {ce : Nat} {us : Ents Pf Unit} {cu : Nat} (h : Dp W d c es ce us cu) (g : Nat) (hg : fpD d g) : g < W.heap.size := by
  rcases hg with rfl | rfl | rfl
  · exact h.box.lt
  · exact h.pm.lt
  · exact h.um.lt
/-- what is known of a prefix, or nothing -/
def pn (f : Pf → Option Pn) (p : Pf) : Pn := (f p).getD ⟨0, 0, false⟩
def penP (c : Dc) (f : Pf → Option Pn) (p : Pf) (now : Nat) : Nat := atP c.half (pn f p).v (now - (pn f p).s)
def heldP (c : Dc) (f : Pf → Option Pn) (p : Pf) (now : Nat) : Bool := (pn f p).h && decide (c.reuse ≤ penP c f p now)
theorem got_pn (es : Ents Pf Pn) (p : Pf) : MPn.got es p = pnV (pn (mget es) p) := by
  unfold Mk.got pn
  cases mget es p <;> rfl
theorem Dp.pn_ok {W : World} {d : Dw} {c : Dc} {es : Ents Pf Pn} {ce : Nat} {us : Ents Pf Unit} {cu : Nat} (h : Dp W d c es ce us cu) (p : Pf) : (pn (mget es) p).v ≤ c.most ∧ (pn (mget es) p).s ≤ c.clock := by
  unfold pn
  cases hm : mget es p with
  | none => exact ⟨Nat.zero_le _, Nat.zero_le _⟩
  | some x =>
    obtain ⟨y, hy, -, e⟩ := mem_of_mget hm
    have := h.pen y hy
    rw [e] at this
    exact this.2
set_option maxRecDepth 100000 in
set_option maxHeartbeats 8000000 in
theorem pen_any (d : Dw) (c : Dc) (es : Ents Pf Pn) (ce : Nat) (us : Ents Pf Unit) (cu : Nat) (p : Pf) (now : Nat) (w : World) (h : Dp w d c es ce us cu) (hn : c.clock ≤ now ∧ now < 9223372036854775808) :
    Calls Try.prog 21 #[.pointer (some ⟨d.b, 0, none⟩), pfV p, .int .i64 (now : Int)] w fun e w' => e = .returned (.int .i64 (penP c (mget es) p now : Nat)) ∧ Below w.heap.size w w' := by
  have HD : Hid (Dp w d c es ce us cu) := h
  have HN : Hid (c.clock ≤ now ∧ now < 9223372036854775808) := hn
  clear h hn
  obtain ⟨b, hb⟩ : ∃ y, d.b = y := ⟨_, rfl⟩
  rw [hb]
  have HB : Hid (d.b = b) := hb
  clear hb
  go_enter Try.func21, Try.ntmps21
  go_wp2_with (refine list_sbox PxK rfl _ rfl (cs := pxL p) rfl ?_)
  intro w1 hx1 hb1 hz
  obtain ⟨b4, hb4⟩ : ∃ y, w.heap.size = y := ⟨_, rfl⟩
  have HX : Hid (SB PxK b4 (pxL p) w1) := by rw [← hb4]; exact hx1.out
  have HB1 : Hid (Below w.heap.size w w1) := hb1.out
  rw [hb4]
  clear hx1 hb1 hz hb4
  go_wp2_with fail
  have HDD : Hid (Dp w1.drew d c es ce us cu) := (HD.out.bel HB1.out).bel (drew_bel w1)
  have HS0 : Hid (SB DmK b (dmL c d.bp d.bu) w1.drew ∧ SB PxK b4 (pxL p) w1.drew ∧ MB MPn d.bp es ce w1.drew) := by rw [← HB.out]; exact ⟨HDD.out.box, HX.out.blk ((drew_bel w1).block _ HX.out.lt), HDD.out.pm⟩
  have HBD : Hid (Below w.heap.size w w1.drew) := HB1.out.trans ((drew_bel w1).mono HB1.out.size)
  refine wp_region_held_drew (S := fun W => SB DmK b (dmL c d.bp d.bu) W ∧ SB PxK b4 (pxL p) W ∧ MB MPn d.bp es ce W) (by kernel_rfl) HS0.out (fun hHeld => ?_)
  obtain ⟨wd, hwd⟩ : ∃ y, w1.drew = y := ⟨_, rfl⟩
  rw [hwd] at HDD HBD hHeld ⊢
  clear hwd HS0
  refine wpAnyH_take (i := 0) (v := .pointer (some ⟨b, 0, none⟩)) rfl (by kernel_rfl) (by kernel_rfl) (by kernel_rfl) (fun _ _ _ h => h) (Or.inl ⟨by rfl, ?_⟩) (by assumption) ?_
  case refine_1 => intro W hSw; go_simp; try rfl
  try simp only [Act.put, List.getElem_toArray, List.getElem_cons_zero, List.getElem_cons_succ, List.setIfInBounds_toArray, List.set_cons_zero, List.set_cons_succ]
  refine wpAnyH_take (i := 1) (v := .pointer (some ⟨b, 0, none⟩)) rfl (by kernel_rfl) (by kernel_rfl) (by kernel_rfl) (fun _ _ _ h => h) (Or.inl ⟨by rfl, ?_⟩) (by assumption) ?_
  case refine_1 => intro W hSw; go_simp; try rfl
  try simp only [Act.put, List.getElem_toArray, List.getElem_cons_zero, List.getElem_cons_succ, List.setIfInBounds_toArray, List.set_cons_zero, List.set_cons_succ]
  refine wpAnyH_take (i := 2) (v := .pointer (some ⟨b, 7, none⟩)) rfl (by kernel_rfl) (by kernel_rfl) (by kernel_rfl) (fun _ _ _ h => h) (Or.inl ⟨by rfl, ?_⟩) (by assumption) ?_
  case refine_1 => intro W hSw; go_simp; try rfl
  try simp only [Act.put, List.getElem_toArray, List.getElem_cons_zero, List.getElem_cons_succ, List.setIfInBounds_toArray, List.set_cons_zero, List.set_cons_succ]
  refine wpAnyH_take (i := 3) (v := .map (some d.bp)) rfl (by kernel_rfl) (by kernel_rfl) (by kernel_rfl) (fun _ _ _ h => h) (Or.inl ⟨by rfl, ?_⟩) (by assumption) ?_
  case refine_1 => intro W hSw; have k1 : W.cell? ⟨b, 7, none⟩ = some (.map (some d.bp)) := hSw.1.cell 7; go_simp; try rfl
  try simp only [Act.put, List.getElem_toArray, List.getElem_cons_zero, List.getElem_cons_succ, List.setIfInBounds_toArray, List.set_cons_zero, List.set_cons_succ]
  refine wpAnyH_take (i := 4) (v := .agg (pxL p).toArray) rfl (by kernel_rfl) (by kernel_rfl) (by kernel_rfl) (fun _ _ _ h => h) (Or.inl ⟨by rfl, fun W hSw => Go.Proofs.Ytjfiahendnlcjaa.Ge.sload_run PxK (.tmp 4) rfl (b := b4) rfl hSw.2.1 rfl⟩) (by assumption) ?_
  try simp only [Act.put, List.getElem_toArray, List.getElem_cons_zero, List.getElem_cons_succ, List.setIfInBounds_toArray, List.set_cons_zero, List.set_cons_succ]
  refine wpAnyH_take (i := 5) (v := pnV (pn (mget es) p)) rfl (by kernel_rfl) (by kernel_rfl) (by kernel_rfl) (fun _ _ _ h => h) (Or.inl ⟨by rfl, fun W hSw => by rw [← got_pn]; exact look_run MPn (.tmp 10) (.tmp 11) rfl (k := p) rfl rfl hSw.2.2⟩) (by assumption) ?_
  try simp only [Act.put, List.getElem_toArray, List.getElem_cons_zero, List.getElem_cons_succ, List.setIfInBounds_toArray, List.set_cons_zero, List.set_cons_succ]
  refine wpAnyH_take (i := 6) (v := .int .i64 (now : Int)) rfl (by kernel_rfl) (by kernel_rfl) (by kernel_rfl) (fun _ _ _ h => h) (Or.inl ⟨by rfl, ?_⟩) (by assumption) ?_
  case refine_1 => intro W hSw; go_simp; try rfl
  try simp only [Act.put, List.getElem_toArray, List.getElem_cons_zero, List.getElem_cons_succ, List.setIfInBounds_toArray, List.set_cons_zero, List.set_cons_succ]
  refine wpAnyH_take (i := 7) (v := .pointer (some ⟨b, 0, none⟩)) rfl (by kernel_rfl) (by kernel_rfl) (by kernel_rfl) (fun _ _ _ h => h) (Or.inl ⟨by rfl, ?_⟩) (by assumption) ?_
  case refine_1 => intro W hSw; go_simp; try rfl
  try simp only [Act.put, List.getElem_toArray, List.getElem_cons_zero, List.getElem_cons_succ, List.setIfInBounds_toArray, List.set_cons_zero, List.set_cons_succ]
  refine wpAnyH_take (i := 8) (v := .pointer (some ⟨b, 0, none⟩)) rfl (by kernel_rfl) (by kernel_rfl) (by kernel_rfl) (fun _ _ _ h => h) (Or.inl ⟨by rfl, ?_⟩) (by assumption) ?_
  case refine_1 => intro W hSw; go_simp; try rfl
  try simp only [Act.put, List.getElem_toArray, List.getElem_cons_zero, List.getElem_cons_succ, List.setIfInBounds_toArray, List.set_cons_zero, List.set_cons_succ]
  refine wpAnyH_take (i := 9) (v := .pointer (some ⟨b, 0, none⟩)) rfl (by kernel_rfl) (by kernel_rfl) (by kernel_rfl) (fun _ _ _ h => h) (Or.inl ⟨by rfl, ?_⟩) (by assumption) ?_
  case refine_1 => intro W hSw; go_simp; try rfl
  try simp only [Act.put, List.getElem_toArray, List.getElem_cons_zero, List.getElem_cons_succ, List.setIfInBounds_toArray, List.set_cons_zero, List.set_cons_succ]
  refine wpAnyH_take (i := 10) (v := .pointer (some ⟨b, 0, none⟩)) rfl (by kernel_rfl) (by kernel_rfl) (by kernel_rfl) (fun _ _ _ h => h) (Or.inl ⟨by rfl, ?_⟩) (by assumption) ?_
  case refine_1 => intro W hSw; go_simp; try rfl
  try simp only [Act.put, List.getElem_toArray, List.getElem_cons_zero, List.getElem_cons_succ, List.setIfInBounds_toArray, List.set_cons_zero, List.set_cons_succ]
  refine wpAnyH_take (i := 11) (v := .int .i64 (c.half : Int)) rfl (by kernel_rfl) (by kernel_rfl) (by kernel_rfl) (fun _ _ _ h => h) (Or.inl ⟨by rfl, ?_⟩) (by assumption) ?_
  case refine_1 => intro W hSw; have k1 : W.cell? ⟨b, 0, none⟩ = some (.int .i64 (c.half : Int)) := hSw.1.cell 0; go_simp; try rfl
  try simp only [Act.put, List.getElem_toArray, List.getElem_cons_zero, List.getElem_cons_succ, List.setIfInBounds_toArray, List.set_cons_zero, List.set_cons_succ]
  refine wpAnyH_ready (rs := [12]) (by kernel_rfl) (by simp) ?_
  refine AllReadyH.cons rfl (fun K hK => ?_) AllReadyH.nil
  go_simp
  refine (at_any (pn (mget es) p) now c.half wd (by have := (HDD.out.pn_ok p).1; have := HDD.out.cok.most; omega) HDD.out.cok.half HN.out.2 (by have := (HDD.out.pn_ok p).2; have := HN.out.1; omega)).mono ?_
  rintro e we ⟨rfl, hbe⟩
  have HBE : Hid (Below w.heap.size w we) := HBD.out.trans (hbe.mono HBD.out.size)
  refine hK.out _ _ ⟨hHeld.1.blk (hbe.block _ hHeld.1.lt), hHeld.2.1.blk (hbe.block _ hHeld.2.1.lt), hHeld.2.2.blk (hbe.block _ hHeld.2.2.lt)⟩ (fun hHeld => ?_)
  clear hK K hbe
  try simp only [Act.put, List.getElem_toArray, List.getElem_cons_zero, List.getElem_cons_succ, List.setIfInBounds_toArray, List.set_cons_zero, List.set_cons_succ]
  refine wpAnyH_take (i := 13) (v := .int .i64 (penP c (mget es) p now : Nat)) rfl (by kernel_rfl) (by kernel_rfl) (by kernel_rfl) (fun _ _ _ h => h) (Or.inl ⟨by rfl, ?_⟩) (by assumption) ?_
  case refine_1 => intro W hSw; go_simp; try rfl
  try simp only [Act.put, List.getElem_toArray, List.getElem_cons_zero, List.getElem_cons_succ, List.setIfInBounds_toArray, List.set_cons_zero, List.set_cons_succ]
  refine wpAnyH_done (by kernel_rfl) ?_ _
  clear hHeld
  go_wp2_with fail
  go_ret
  exact ⟨rfl, HBE.out⟩
set_option maxRecDepth 100000 in
set_option maxHeartbeats 8000000 in
theorem held_any (d : Dw) (c : Dc) (es : Ents Pf Pn) (ce : Nat) (us : Ents Pf Unit) (cu : Nat) (p : Pf) (now : Nat) (w : World) (h : Dp w d c es ce us cu) (hn : c.clock ≤ now ∧ now < 9223372036854775808) :
    Calls Try.prog 23 #[.pointer (some ⟨d.b, 0, none⟩), pfV p, .int .i64 (now : Int)] w fun e w' => e = .returned (.bool (heldP c (mget es) p now)) ∧ Below w.heap.size w w' := by
  have HD : Hid (Dp w d c es ce us cu) := h
  have HN : Hid (c.clock ≤ now ∧ now < 9223372036854775808) := hn
  clear h hn
  obtain ⟨b, hb⟩ : ∃ y, d.b = y := ⟨_, rfl⟩
  rw [hb]
  have HB : Hid (d.b = b) := hb
  clear hb
  go_enter Try.func23, Try.ntmps23
  go_wp2_with (refine list_sbox PxK rfl _ rfl (cs := pxL p) rfl ?_)
  intro w1 hx1 hb1 hz
  obtain ⟨b4, hb4⟩ : ∃ y, w.heap.size = y := ⟨_, rfl⟩
  have HX : Hid (SB PxK b4 (pxL p) w1) := by rw [← hb4]; exact hx1.out
  have HB1 : Hid (Below w.heap.size w w1) := hb1.out
  rw [hb4]
  clear hx1 hb1 hz hb4
  go_wp2_with fail
  have HDD : Hid (Dp w1.drew d c es ce us cu) := (HD.out.bel HB1.out).bel (drew_bel w1)
  have HS0 : Hid (SB DmK b (dmL c d.bp d.bu) w1.drew ∧ SB PxK b4 (pxL p) w1.drew ∧ MB MPn d.bp es ce w1.drew) := by rw [← HB.out]; exact ⟨HDD.out.box, HX.out.blk ((drew_bel w1).block _ HX.out.lt), HDD.out.pm⟩
  have HBD : Hid (Below w.heap.size w w1.drew) := HB1.out.trans ((drew_bel w1).mono HB1.out.size)
  refine wp_region_held_drew (S := fun W => SB DmK b (dmL c d.bp d.bu) W ∧ SB PxK b4 (pxL p) W ∧ MB MPn d.bp es ce W) (by kernel_rfl) HS0.out (fun hHeld => ?_)
  obtain ⟨wd, hwd⟩ : ∃ y, w1.drew = y := ⟨_, rfl⟩
  rw [hwd] at HDD HBD hHeld ⊢
  clear hwd HS0
  refine wpAnyH_take (i := 0) (v := .pointer (some ⟨b, 0, none⟩)) rfl (by kernel_rfl) (by kernel_rfl) (by kernel_rfl) (fun _ _ _ h => h) (Or.inl ⟨by rfl, ?_⟩) (by assumption) ?_
  case refine_1 => intro W hSw; go_simp; try rfl
  try simp only [Act.put, List.getElem_toArray, List.getElem_cons_zero, List.getElem_cons_succ, List.setIfInBounds_toArray, List.set_cons_zero, List.set_cons_succ]
  refine wpAnyH_take (i := 1) (v := .pointer (some ⟨b, 0, none⟩)) rfl (by kernel_rfl) (by kernel_rfl) (by kernel_rfl) (fun _ _ _ h => h) (Or.inl ⟨by rfl, ?_⟩) (by assumption) ?_
  case refine_1 => intro W hSw; go_simp; try rfl
  try simp only [Act.put, List.getElem_toArray, List.getElem_cons_zero, List.getElem_cons_succ, List.setIfInBounds_toArray, List.set_cons_zero, List.set_cons_succ]
  refine wpAnyH_take (i := 2) (v := .pointer (some ⟨b, 7, none⟩)) rfl (by kernel_rfl) (by kernel_rfl) (by kernel_rfl) (fun _ _ _ h => h) (Or.inl ⟨by rfl, ?_⟩) (by assumption) ?_
  case refine_1 => intro W hSw; go_simp; try rfl
  try simp only [Act.put, List.getElem_toArray, List.getElem_cons_zero, List.getElem_cons_succ, List.setIfInBounds_toArray, List.set_cons_zero, List.set_cons_succ]
  refine wpAnyH_take (i := 3) (v := .map (some d.bp)) rfl (by kernel_rfl) (by kernel_rfl) (by kernel_rfl) (fun _ _ _ h => h) (Or.inl ⟨by rfl, ?_⟩) (by assumption) ?_
  case refine_1 => intro W hSw; have k1 : W.cell? ⟨b, 7, none⟩ = some (.map (some d.bp)) := hSw.1.cell 7; go_simp; try rfl
  try simp only [Act.put, List.getElem_toArray, List.getElem_cons_zero, List.getElem_cons_succ, List.setIfInBounds_toArray, List.set_cons_zero, List.set_cons_succ]
  refine wpAnyH_take (i := 4) (v := .agg (pxL p).toArray) rfl (by kernel_rfl) (by kernel_rfl) (by kernel_rfl) (fun _ _ _ h => h) (Or.inl ⟨by rfl, fun W hSw => Go.Proofs.Ytjfiahendnlcjaa.Ge.sload_run PxK (.tmp 4) rfl (b := b4) rfl hSw.2.1 rfl⟩) (by assumption) ?_
  try simp only [Act.put, List.getElem_toArray, List.getElem_cons_zero, List.getElem_cons_succ, List.setIfInBounds_toArray, List.set_cons_zero, List.set_cons_succ]
  refine wpAnyH_take (i := 5) (v := pnV (pn (mget es) p)) rfl (by kernel_rfl) (by kernel_rfl) (by kernel_rfl) (fun _ _ _ h => h) (Or.inl ⟨by rfl, fun W hSw => by rw [← got_pn]; exact look_run MPn (.tmp 10) (.tmp 11) rfl (k := p) rfl rfl hSw.2.2⟩) (by assumption) ?_
  try simp only [Act.put, List.getElem_toArray, List.getElem_cons_zero, List.getElem_cons_succ, List.setIfInBounds_toArray, List.set_cons_zero, List.set_cons_succ]
  by_cases hh : (pn (mget es) p).h = true
  case neg =>
    have hf : (pn (mget es) p).h = false := by simpa using hh
    have HE : Hid (heldP c (mget es) p now = false) := by show _ = _; unfold heldP; rw [hf]; rfl
    refine wpAnyH_take (i := 6) (v := .bool false) rfl (by kernel_rfl) (by kernel_rfl) (by kernel_rfl) (fun _ _ _ h => h) (Or.inl ⟨by rfl, ?_⟩) (by assumption) ?_
    case refine_1 => intro W hSw; unfold pnV; go_simp; try rfl
    try simp only [Act.put, List.getElem_toArray, List.getElem_cons_zero, List.getElem_cons_succ, List.setIfInBounds_toArray, List.set_cons_zero, List.set_cons_succ]
    refine wpAnyH_take (i := 7) (v := .bool false) rfl (by kernel_rfl) (by kernel_rfl) (by kernel_rfl) (fun _ _ _ h => h) (Or.inl ⟨by rfl, ?_⟩) (by assumption) ?_
    case refine_1 => intro W hSw; go_simp; try rfl
    try simp only [Act.put, List.getElem_toArray, List.getElem_cons_zero, List.getElem_cons_succ, List.setIfInBounds_toArray, List.set_cons_zero, List.set_cons_succ]
    refine wpAnyH_take (i := 8) (v := undef) rfl (by kernel_rfl) (by kernel_rfl) (by kernel_rfl) (fun _ _ _ h => h) (Or.inr ⟨by rfl, rfl⟩) (by assumption) ?_
    try simp only [Act.put, List.getElem_toArray, List.getElem_cons_zero, List.getElem_cons_succ, List.setIfInBounds_toArray, List.set_cons_zero, List.set_cons_succ]
    refine wpAnyH_take (i := 9) (v := undef) rfl (by kernel_rfl) (by kernel_rfl) (by kernel_rfl) (fun _ _ _ h => h) (Or.inr ⟨by rfl, rfl⟩) (by assumption) ?_
    try simp only [Act.put, List.getElem_toArray, List.getElem_cons_zero, List.getElem_cons_succ, List.setIfInBounds_toArray, List.set_cons_zero, List.set_cons_succ]
    refine wpAnyH_take (i := 10) (v := undef) rfl (by kernel_rfl) (by kernel_rfl) (by kernel_rfl) (fun _ _ _ h => h) (Or.inr ⟨by rfl, rfl⟩) (by assumption) ?_
    try simp only [Act.put, List.getElem_toArray, List.getElem_cons_zero, List.getElem_cons_succ, List.setIfInBounds_toArray, List.set_cons_zero, List.set_cons_succ]
    refine wpAnyH_take (i := 11) (v := undef) rfl (by kernel_rfl) (by kernel_rfl) (by kernel_rfl) (fun _ _ _ h => h) (Or.inr ⟨by rfl, rfl⟩) (by assumption) ?_
    try simp only [Act.put, List.getElem_toArray, List.getElem_cons_zero, List.getElem_cons_succ, List.setIfInBounds_toArray, List.set_cons_zero, List.set_cons_succ]
    refine wpAnyH_take (i := 12) (v := undef) rfl (by kernel_rfl) (by kernel_rfl) (by kernel_rfl) (fun _ _ _ h => h) (Or.inr ⟨by rfl, rfl⟩) (by assumption) ?_
    try simp only [Act.put, List.getElem_toArray, List.getElem_cons_zero, List.getElem_cons_succ, List.setIfInBounds_toArray, List.set_cons_zero, List.set_cons_succ]
    refine wpAnyH_take (i := 13) (v := undef) rfl (by kernel_rfl) (by kernel_rfl) (by kernel_rfl) (fun _ _ _ h => h) (Or.inr ⟨by rfl, rfl⟩) (by assumption) ?_
    try simp only [Act.put, List.getElem_toArray, List.getElem_cons_zero, List.getElem_cons_succ, List.setIfInBounds_toArray, List.set_cons_zero, List.set_cons_succ]
    refine wpAnyH_take (i := 14) (v := undef) rfl (by kernel_rfl) (by kernel_rfl) (by kernel_rfl) (fun _ _ _ h => h) (Or.inr ⟨by rfl, rfl⟩) (by assumption) ?_
    try simp only [Act.put, List.getElem_toArray, List.getElem_cons_zero, List.getElem_cons_succ, List.setIfInBounds_toArray, List.set_cons_zero, List.set_cons_succ]
    refine wpAnyH_take (i := 15) (v := undef) rfl (by kernel_rfl) (by kernel_rfl) (by kernel_rfl) (fun _ _ _ h => h) (Or.inr ⟨by rfl, rfl⟩) (by assumption) ?_
    try simp only [Act.put, List.getElem_toArray, List.getElem_cons_zero, List.getElem_cons_succ, List.setIfInBounds_toArray, List.set_cons_zero, List.set_cons_succ]
    refine wpAnyH_take (i := 16) (v := undef) rfl (by kernel_rfl) (by kernel_rfl) (by kernel_rfl) (fun _ _ _ h => h) (Or.inr ⟨by rfl, rfl⟩) (by assumption) ?_
    try simp only [Act.put, List.getElem_toArray, List.getElem_cons_zero, List.getElem_cons_succ, List.setIfInBounds_toArray, List.set_cons_zero, List.set_cons_succ]
    refine wpAnyH_take (i := 17) (v := undef) rfl (by kernel_rfl) (by kernel_rfl) (by kernel_rfl) (fun _ _ _ h => h) (Or.inr ⟨by rfl, rfl⟩) (by assumption) ?_
    try simp only [Act.put, List.getElem_toArray, List.getElem_cons_zero, List.getElem_cons_succ, List.setIfInBounds_toArray, List.set_cons_zero, List.set_cons_succ]
    refine wpAnyH_take (i := 18) (v := .bool false) rfl (by kernel_rfl) (by kernel_rfl) (by kernel_rfl) (fun _ _ _ h => h) (Or.inl ⟨by rfl, ?_⟩) (by assumption) ?_
    case refine_1 => intro W hSw; go_simp; try rfl
    try simp only [Act.put, List.getElem_toArray, List.getElem_cons_zero, List.getElem_cons_succ, List.setIfInBounds_toArray, List.set_cons_zero, List.set_cons_succ]
    refine wpAnyH_take (i := 19) (v := .bool false) rfl (by kernel_rfl) (by kernel_rfl) (by kernel_rfl) (fun _ _ _ h => h) (Or.inl ⟨by rfl, ?_⟩) (by assumption) ?_
    case refine_1 => intro W hSw; go_simp; try rfl
    try simp only [Act.put, List.getElem_toArray, List.getElem_cons_zero, List.getElem_cons_succ, List.setIfInBounds_toArray, List.set_cons_zero, List.set_cons_succ]
    refine wpAnyH_done (by kernel_rfl) ?_ _
    clear hHeld
    go_wp2_with fail
    go_ret
    rw [HE.out]
    exact ⟨rfl, HBD.out⟩
  case pos =>
    refine wpAnyH_take (i := 6) (v := .bool true) rfl (by kernel_rfl) (by kernel_rfl) (by kernel_rfl) (fun _ _ _ h => h) (Or.inl ⟨by rfl, ?_⟩) (by assumption) ?_
    case refine_1 => intro W hSw; unfold pnV; go_simp; try rfl
    try simp only [Act.put, List.getElem_toArray, List.getElem_cons_zero, List.getElem_cons_succ, List.setIfInBounds_toArray, List.set_cons_zero, List.set_cons_succ]
    refine wpAnyH_take (i := 7) (v := .bool true) rfl (by kernel_rfl) (by kernel_rfl) (by kernel_rfl) (fun _ _ _ h => h) (Or.inl ⟨by rfl, ?_⟩) (by assumption) ?_
    case refine_1 => intro W hSw; go_simp; try rfl
    try simp only [Act.put, List.getElem_toArray, List.getElem_cons_zero, List.getElem_cons_succ, List.setIfInBounds_toArray, List.set_cons_zero, List.set_cons_succ]
    refine wpAnyH_take (i := 8) (v := .pointer (some ⟨b, 0, none⟩)) rfl (by kernel_rfl) (by kernel_rfl) (by kernel_rfl) (fun _ _ _ h => h) (Or.inl ⟨by rfl, ?_⟩) (by assumption) ?_
    case refine_1 => intro W hSw; go_simp; try rfl
    try simp only [Act.put, List.getElem_toArray, List.getElem_cons_zero, List.getElem_cons_succ, List.setIfInBounds_toArray, List.set_cons_zero, List.set_cons_succ]
    refine wpAnyH_take (i := 9) (v := .agg (pxL p).toArray) rfl (by kernel_rfl) (by kernel_rfl) (by kernel_rfl) (fun _ _ _ h => h) (Or.inl ⟨by rfl, fun W hSw => Go.Proofs.Ytjfiahendnlcjaa.Ge.sload_run PxK (.tmp 4) rfl (b := b4) rfl hSw.2.1 rfl⟩) (by assumption) ?_
    try simp only [Act.put, List.getElem_toArray, List.getElem_cons_zero, List.getElem_cons_succ, List.setIfInBounds_toArray, List.set_cons_zero, List.set_cons_succ]
    refine wpAnyH_take (i := 10) (v := .int .i64 (now : Int)) rfl (by kernel_rfl) (by kernel_rfl) (by kernel_rfl) (fun _ _ _ h => h) (Or.inl ⟨by rfl, ?_⟩) (by assumption) ?_
    case refine_1 => intro W hSw; go_simp; try rfl
    try simp only [Act.put, List.getElem_toArray, List.getElem_cons_zero, List.getElem_cons_succ, List.setIfInBounds_toArray, List.set_cons_zero, List.set_cons_succ]
    refine wpAnyH_take (i := 12) (v := .pointer (some ⟨b, 0, none⟩)) rfl (by kernel_rfl) (by kernel_rfl) (by kernel_rfl) (fun _ _ _ h => h) (Or.inl ⟨by rfl, ?_⟩) (by assumption) ?_
    case refine_1 => intro W hSw; go_simp; try rfl
    try simp only [Act.put, List.getElem_toArray, List.getElem_cons_zero, List.getElem_cons_succ, List.setIfInBounds_toArray, List.set_cons_zero, List.set_cons_succ]
    refine wpAnyH_take (i := 13) (v := .pointer (some ⟨b, 0, none⟩)) rfl (by kernel_rfl) (by kernel_rfl) (by kernel_rfl) (fun _ _ _ h => h) (Or.inl ⟨by rfl, ?_⟩) (by assumption) ?_
    case refine_1 => intro W hSw; go_simp; try rfl
    try simp only [Act.put, List.getElem_toArray, List.getElem_cons_zero, List.getElem_cons_succ, List.setIfInBounds_toArray, List.set_cons_zero, List.set_cons_succ]
    refine wpAnyH_take (i := 14) (v := .pointer (some ⟨b, 0, none⟩)) rfl (by kernel_rfl) (by kernel_rfl) (by kernel_rfl) (fun _ _ _ h => h) (Or.inl ⟨by rfl, ?_⟩) (by assumption) ?_
    case refine_1 => intro W hSw; go_simp; try rfl
    try simp only [Act.put, List.getElem_toArray, List.getElem_cons_zero, List.getElem_cons_succ, List.setIfInBounds_toArray, List.set_cons_zero, List.set_cons_succ]
    refine wpAnyH_take (i := 15) (v := .pointer (some ⟨b, 2, none⟩)) rfl (by kernel_rfl) (by kernel_rfl) (by kernel_rfl) (fun _ _ _ h => h) (Or.inl ⟨by rfl, ?_⟩) (by assumption) ?_
    case refine_1 => intro W hSw; go_simp; try rfl
    try simp only [Act.put, List.getElem_toArray, List.getElem_cons_zero, List.getElem_cons_succ, List.setIfInBounds_toArray, List.set_cons_zero, List.set_cons_succ]
    refine wpAnyH_take (i := 16) (v := .int .i64 (c.reuse : Int)) rfl (by kernel_rfl) (by kernel_rfl) (by kernel_rfl) (fun _ _ _ h => h) (Or.inl ⟨by rfl, ?_⟩) (by assumption) ?_
    case refine_1 => intro W hSw; have k1 : W.cell? ⟨b, 2, none⟩ = some (.int .i64 (c.reuse : Int)) := hSw.1.cell 2; go_simp; try rfl
    try simp only [Act.put, List.getElem_toArray, List.getElem_cons_zero, List.getElem_cons_succ, List.setIfInBounds_toArray, List.set_cons_zero, List.set_cons_succ]
    refine wpAnyH_ready (rs := [11]) (by kernel_rfl) (by simp) ?_
    refine AllReadyH.cons rfl (fun K hK => ?_) AllReadyH.nil
    have HPE := pen_any d c es ce us cu p now wd HDD.out HN.out
    rw [HB.out] at HPE
    go_simp
    refine HPE.mono ?_
    rintro e we ⟨rfl, hbe⟩
    have HBE : Hid (Below w.heap.size w we) := HBD.out.trans (hbe.mono HBD.out.size)
    refine hK.out _ _ ⟨hHeld.1.blk (hbe.block _ hHeld.1.lt), hHeld.2.1.blk (hbe.block _ hHeld.2.1.lt), hHeld.2.2.blk (hbe.block _ hHeld.2.2.lt)⟩ (fun hHeld => ?_)
    clear hK K hbe HPE
    obtain ⟨pz, hpz⟩ : ∃ y, penP c (mget es) p now = y := ⟨_, rfl⟩
    rw [hpz]
    obtain ⟨r, hr⟩ : ∃ y, decide (c.reuse ≤ pz) = y := ⟨_, rfl⟩
    have HE : Hid (heldP c (mget es) p now = r) := by show _ = _; unfold heldP; rw [hh, hpz, hr]; rfl
    have hr2 : decide ((c.reuse : Int) ≤ (pz : Int)) = r := by rw [← hr]; exact decide_eq_decide.2 (by omega)
    clear hpz
    try simp only [Act.put, List.getElem_toArray, List.getElem_cons_zero, List.getElem_cons_succ, List.setIfInBounds_toArray, List.set_cons_zero, List.set_cons_succ]
    refine wpAnyH_take (i := 17) (v := .bool r) rfl (by kernel_rfl) (by kernel_rfl) (by kernel_rfl) (fun _ _ _ h => h) (Or.inl ⟨by rfl, ?_⟩) (by assumption) ?_
    case refine_1 => intro W hSw; go_simp; try rfl
    try simp only [Act.put, List.getElem_toArray, List.getElem_cons_zero, List.getElem_cons_succ, List.setIfInBounds_toArray, List.set_cons_zero, List.set_cons_succ]
    refine wpAnyH_take (i := 18) (v := .bool r) rfl (by kernel_rfl) (by kernel_rfl) (by kernel_rfl) (fun _ _ _ h => h) (Or.inl ⟨by rfl, ?_⟩) (by assumption) ?_
    case refine_1 => intro W hSw; go_simp; try rfl
    try simp only [Act.put, List.getElem_toArray, List.getElem_cons_zero, List.getElem_cons_succ, List.setIfInBounds_toArray, List.set_cons_zero, List.set_cons_succ]
    refine wpAnyH_take (i := 19) (v := .bool r) rfl (by kernel_rfl) (by kernel_rfl) (by kernel_rfl) (fun _ _ _ h => h) (Or.inl ⟨by rfl, ?_⟩) (by assumption) ?_
    case refine_1 => intro W hSw; go_simp; try rfl
    try simp only [Act.put, List.getElem_toArray, List.getElem_cons_zero, List.getElem_cons_succ, List.setIfInBounds_toArray, List.set_cons_zero, List.set_cons_succ]
    refine wpAnyH_done (by kernel_rfl) ?_ _
    clear hHeld
    go_wp2_with fail
    go_ret
    rw [HE.out]
    exact ⟨rfl, HBE.out⟩
set_option maxRecDepth 100000 in
set_option maxHeartbeats 8000000 in
theorem penalty_any (d : Dw) (c : Dc) (es : Ents Pf Pn) (ce : Nat) (us : Ents Pf Unit) (cu : Nat) (p : Pf) (now : Int) (t : Nat) (w : World) (h : Dp w d c es ce us cu) (hn : now < 9223372036854775808) (ht : max now (c.clock : Int) = (t : Int)) :
    Calls Try.prog 10 #[.pointer (some ⟨d.b, 0, none⟩), pfV p, .int .i64 now] w fun e w' => e = .returned (.int .i64 (penP c (mget es) p t : Nat)) ∧ Below w.heap.size w w' := by
  have HD : Hid (Dp w d c es ce us cu) := h
  have HN : Hid (c.clock ≤ t ∧ t < 9223372036854775808) := by have := h.cok.clock; show _ ∧ _; omega
  have HT : Hid (max now (c.clock : Int) = (t : Int)) := ht
  clear h hn ht
  obtain ⟨b, hb⟩ : ∃ y, d.b = y := ⟨_, rfl⟩
  rw [hb]
  have HB : Hid (d.b = b) := hb
  clear hb
  go_enter Try.func10, Try.ntmps10
  go_wp2_with (refine list_sbox PxK rfl _ rfl (cs := pxL p) rfl ?_)
  intro w1 hx1 hb1 hz
  obtain ⟨b4, hb4⟩ : ∃ y, w.heap.size = y := ⟨_, rfl⟩
  have HX : Hid (SB PxK b4 (pxL p) w1) := by rw [← hb4]; exact hx1.out
  have HB1 : Hid (Below w.heap.size w w1) := hb1.out
  rw [hb4]
  clear hx1 hb1 hz hb4
  go_wp2_with fail
  have HDD : Hid (Dp w1.drew d c es ce us cu) := (HD.out.bel HB1.out).bel (drew_bel w1)
  have HS0 : Hid (SB DmK b (dmL c d.bp d.bu) w1.drew ∧ SB PxK b4 (pxL p) w1.drew ∧ MB MPn d.bp es ce w1.drew) := by rw [← HB.out]; exact ⟨HDD.out.box, HX.out.blk ((drew_bel w1).block _ HX.out.lt), HDD.out.pm⟩
  have HBD : Hid (Below w.heap.size w w1.drew) := HB1.out.trans ((drew_bel w1).mono HB1.out.size)
  refine wp_region_held_drew (S := fun W => SB DmK b (dmL c d.bp d.bu) W ∧ SB PxK b4 (pxL p) W ∧ MB MPn d.bp es ce W) (by kernel_rfl) HS0.out (fun hHeld => ?_)
  obtain ⟨wd, hwd⟩ : ∃ y, w1.drew = y := ⟨_, rfl⟩
  rw [hwd] at HDD HBD hHeld ⊢
  clear hwd HS0
  refine wpAnyH_take (i := 0) (v := .pointer (some ⟨b, 0, none⟩)) rfl (by kernel_rfl) (by kernel_rfl) (by kernel_rfl) (fun _ _ _ h => h) (Or.inl ⟨by rfl, ?_⟩) (by assumption) ?_
  case refine_1 => intro W hSw; go_simp; try rfl
  try simp only [Act.put, List.getElem_toArray, List.getElem_cons_zero, List.getElem_cons_succ, List.setIfInBounds_toArray, List.set_cons_zero, List.set_cons_succ]
  refine wpAnyH_take (i := 1) (v := .agg (pxL p).toArray) rfl (by kernel_rfl) (by kernel_rfl) (by kernel_rfl) (fun _ _ _ h => h) (Or.inl ⟨by rfl, fun W hSw => Go.Proofs.Ytjfiahendnlcjaa.Ge.sload_run PxK (.tmp 4) rfl (b := b4) rfl hSw.2.1 rfl⟩) (by assumption) ?_
  try simp only [Act.put, List.getElem_toArray, List.getElem_cons_zero, List.getElem_cons_succ, List.setIfInBounds_toArray, List.set_cons_zero, List.set_cons_succ]
  refine wpAnyH_take (i := 2) (v := .int .i64 now) rfl (by kernel_rfl) (by kernel_rfl) (by kernel_rfl) (fun _ _ _ h => h) (Or.inl ⟨by rfl, ?_⟩) (by assumption) ?_
  case refine_1 => intro W hSw; go_simp; try rfl
  try simp only [Act.put, List.getElem_toArray, List.getElem_cons_zero, List.getElem_cons_succ, List.setIfInBounds_toArray, List.set_cons_zero, List.set_cons_succ]
  refine wpAnyH_take (i := 3) (v := .pointer (some ⟨b, 0, none⟩)) rfl (by kernel_rfl) (by kernel_rfl) (by kernel_rfl) (fun _ _ _ h => h) (Or.inl ⟨by rfl, ?_⟩) (by assumption) ?_
  case refine_1 => intro W hSw; go_simp; try rfl
  try simp only [Act.put, List.getElem_toArray, List.getElem_cons_zero, List.getElem_cons_succ, List.setIfInBounds_toArray, List.set_cons_zero, List.set_cons_succ]
  refine wpAnyH_take (i := 4) (v := .pointer (some ⟨b, 0, none⟩)) rfl (by kernel_rfl) (by kernel_rfl) (by kernel_rfl) (fun _ _ _ h => h) (Or.inl ⟨by rfl, ?_⟩) (by assumption) ?_
  case refine_1 => intro W hSw; go_simp; try rfl
  try simp only [Act.put, List.getElem_toArray, List.getElem_cons_zero, List.getElem_cons_succ, List.setIfInBounds_toArray, List.set_cons_zero, List.set_cons_succ]
  refine wpAnyH_take (i := 5) (v := .pointer (some ⟨b, 6, none⟩)) rfl (by kernel_rfl) (by kernel_rfl) (by kernel_rfl) (fun _ _ _ h => h) (Or.inl ⟨by rfl, ?_⟩) (by assumption) ?_
  case refine_1 => intro W hSw; go_simp; try rfl
  try simp only [Act.put, List.getElem_toArray, List.getElem_cons_zero, List.getElem_cons_succ, List.setIfInBounds_toArray, List.set_cons_zero, List.set_cons_succ]
  refine wpAnyH_take (i := 6) (v := .int .i64 (c.clock : Int)) rfl (by kernel_rfl) (by kernel_rfl) (by kernel_rfl) (fun _ _ _ h => h) (Or.inl ⟨by rfl, ?_⟩) (by assumption) ?_
  case refine_1 => intro W hSw; have k1 : W.cell? ⟨b, 6, none⟩ = some (.int .i64 (c.clock : Int)) := hSw.1.cell 6; go_simp; try rfl
  try simp only [Act.put, List.getElem_toArray, List.getElem_cons_zero, List.getElem_cons_succ, List.setIfInBounds_toArray, List.set_cons_zero, List.set_cons_succ]
  refine wpAnyH_take (i := 7) (v := .int .i64 (t : Int)) rfl (by kernel_rfl) (by kernel_rfl) (by kernel_rfl) (fun _ _ _ h => h) (Or.inl ⟨by rfl, ?_⟩) (by assumption) ?_
  case refine_1 => intro W hSw; rw [← HT.out]; go_simp; split <;> omega
  try simp only [Act.put, List.getElem_toArray, List.getElem_cons_zero, List.getElem_cons_succ, List.setIfInBounds_toArray, List.set_cons_zero, List.set_cons_succ]
  refine wpAnyH_ready (rs := [8]) (by kernel_rfl) (by simp) ?_
  refine AllReadyH.cons rfl (fun K hK => ?_) AllReadyH.nil
  have HPE := pen_any d c es ce us cu p t wd HDD.out HN.out
  rw [HB.out] at HPE
  go_simp
  refine HPE.mono ?_
  rintro e we ⟨rfl, hbe⟩
  have HBE : Hid (Below w.heap.size w we) := HBD.out.trans (hbe.mono HBD.out.size)
  refine hK.out _ _ ⟨hHeld.1.blk (hbe.block _ hHeld.1.lt), hHeld.2.1.blk (hbe.block _ hHeld.2.1.lt), hHeld.2.2.blk (hbe.block _ hHeld.2.2.lt)⟩ (fun hHeld => ?_)
  clear hK K hbe HPE
  try simp only [Act.put, List.getElem_toArray, List.getElem_cons_zero, List.getElem_cons_succ, List.setIfInBounds_toArray, List.set_cons_zero, List.set_cons_succ]
  refine wpAnyH_take (i := 9) (v := .int .i64 (penP c (mget es) p t : Nat)) rfl (by kernel_rfl) (by kernel_rfl) (by kernel_rfl) (fun _ _ _ h => h) (Or.inl ⟨by rfl, ?_⟩) (by assumption) ?_
  case refine_1 => intro W hSw; go_simp; try rfl
  try simp only [Act.put, List.getElem_toArray, List.getElem_cons_zero, List.getElem_cons_succ, List.setIfInBounds_toArray, List.set_cons_zero, List.set_cons_succ]
  refine wpAnyH_done (by kernel_rfl) ?_ _
  clear hHeld
  go_wp2_with fail
  go_ret
  exact ⟨rfl, HBE.out⟩
set_option maxRecDepth 100000 in
set_option maxHeartbeats 8000000 in
theorem heldq_any (d : Dw) (c : Dc) (es : Ents Pf Pn) (ce : Nat) (us : Ents Pf Unit) (cu : Nat) (p : Pf) (now : Int) (t : Nat) (w : World) (h : Dp w d c es ce us cu) (hn : now < 9223372036854775808) (ht : max now (c.clock : Int) = (t : Int)) :
    Calls Try.prog 12 #[.pointer (some ⟨d.b, 0, none⟩), pfV p, .int .i64 now] w fun e w' => e = .returned (.bool (heldP c (mget es) p t)) ∧ Below w.heap.size w w' := by
  have HD : Hid (Dp w d c es ce us cu) := h
  have HN : Hid (c.clock ≤ t ∧ t < 9223372036854775808) := by have := h.cok.clock; show _ ∧ _; omega
  have HT : Hid (max now (c.clock : Int) = (t : Int)) := ht
  clear h hn ht
  obtain ⟨b, hb⟩ : ∃ y, d.b = y := ⟨_, rfl⟩
  rw [hb]
  have HB : Hid (d.b = b) := hb
  clear hb
  go_enter Try.func12, Try.ntmps12
  go_wp2_with (refine list_sbox PxK rfl _ rfl (cs := pxL p) rfl ?_)
  intro w1 hx1 hb1 hz
  obtain ⟨b4, hb4⟩ : ∃ y, w.heap.size = y := ⟨_, rfl⟩
  have HX : Hid (SB PxK b4 (pxL p) w1) := by rw [← hb4]; exact hx1.out
  have HB1 : Hid (Below w.heap.size w w1) := hb1.out
  rw [hb4]
  clear hx1 hb1 hz hb4
  go_wp2_with fail
  have HDD : Hid (Dp w1.drew d c es ce us cu) := (HD.out.bel HB1.out).bel (drew_bel w1)
  have HS0 : Hid (SB DmK b (dmL c d.bp d.bu) w1.drew ∧ SB PxK b4 (pxL p) w1.drew ∧ MB MPn d.bp es ce w1.drew) := by rw [← HB.out]; exact ⟨HDD.out.box, HX.out.blk ((drew_bel w1).block _ HX.out.lt), HDD.out.pm⟩
  have HBD : Hid (Below w.heap.size w w1.drew) := HB1.out.trans ((drew_bel w1).mono HB1.out.size)
  refine wp_region_held_drew (S := fun W => SB DmK b (dmL c d.bp d.bu) W ∧ SB PxK b4 (pxL p) W ∧ MB MPn d.bp es ce W) (by kernel_rfl) HS0.out (fun hHeld => ?_)
  obtain ⟨wd, hwd⟩ : ∃ y, w1.drew = y := ⟨_, rfl⟩
  rw [hwd] at HDD HBD hHeld ⊢
  clear hwd HS0
  refine wpAnyH_take (i := 0) (v := .pointer (some ⟨b, 0, none⟩)) rfl (by kernel_rfl) (by kernel_rfl) (by kernel_rfl) (fun _ _ _ h => h) (Or.inl ⟨by rfl, ?_⟩) (by assumption) ?_
  case refine_1 => intro W hSw; go_simp; try rfl
  try simp only [Act.put, List.getElem_toArray, List.getElem_cons_zero, List.getElem_cons_succ, List.setIfInBounds_toArray, List.set_cons_zero, List.set_cons_succ]
  refine wpAnyH_take (i := 1) (v := .agg (pxL p).toArray) rfl (by kernel_rfl) (by kernel_rfl) (by kernel_rfl) (fun _ _ _ h => h) (Or.inl ⟨by rfl, fun W hSw => Go.Proofs.Ytjfiahendnlcjaa.Ge.sload_run PxK (.tmp 4) rfl (b := b4) rfl hSw.2.1 rfl⟩) (by assumption) ?_
  try simp only [Act.put, List.getElem_toArray, List.getElem_cons_zero, List.getElem_cons_succ, List.setIfInBounds_toArray, List.set_cons_zero, List.set_cons_succ]
  refine wpAnyH_take (i := 2) (v := .int .i64 now) rfl (by kernel_rfl) (by kernel_rfl) (by kernel_rfl) (fun _ _ _ h => h) (Or.inl ⟨by rfl, ?_⟩) (by assumption) ?_
  case refine_1 => intro W hSw; go_simp; try rfl
  try simp only [Act.put, List.getElem_toArray, List.getElem_cons_zero, List.getElem_cons_succ, List.setIfInBounds_toArray, List.set_cons_zero, List.set_cons_succ]
  refine wpAnyH_take (i := 3) (v := .pointer (some ⟨b, 0, none⟩)) rfl (by kernel_rfl) (by kernel_rfl) (by kernel_rfl) (fun _ _ _ h => h) (Or.inl ⟨by rfl, ?_⟩) (by assumption) ?_
  case refine_1 => intro W hSw; go_simp; try rfl
  try simp only [Act.put, List.getElem_toArray, List.getElem_cons_zero, List.getElem_cons_succ, List.setIfInBounds_toArray, List.set_cons_zero, List.set_cons_succ]
  refine wpAnyH_take (i := 4) (v := .pointer (some ⟨b, 0, none⟩)) rfl (by kernel_rfl) (by kernel_rfl) (by kernel_rfl) (fun _ _ _ h => h) (Or.inl ⟨by rfl, ?_⟩) (by assumption) ?_
  case refine_1 => intro W hSw; go_simp; try rfl
  try simp only [Act.put, List.getElem_toArray, List.getElem_cons_zero, List.getElem_cons_succ, List.setIfInBounds_toArray, List.set_cons_zero, List.set_cons_succ]
  refine wpAnyH_take (i := 5) (v := .pointer (some ⟨b, 6, none⟩)) rfl (by kernel_rfl) (by kernel_rfl) (by kernel_rfl) (fun _ _ _ h => h) (Or.inl ⟨by rfl, ?_⟩) (by assumption) ?_
  case refine_1 => intro W hSw; go_simp; try rfl
  try simp only [Act.put, List.getElem_toArray, List.getElem_cons_zero, List.getElem_cons_succ, List.setIfInBounds_toArray, List.set_cons_zero, List.set_cons_succ]
  refine wpAnyH_take (i := 6) (v := .int .i64 (c.clock : Int)) rfl (by kernel_rfl) (by kernel_rfl) (by kernel_rfl) (fun _ _ _ h => h) (Or.inl ⟨by rfl, ?_⟩) (by assumption) ?_
  case refine_1 => intro W hSw; have k1 : W.cell? ⟨b, 6, none⟩ = some (.int .i64 (c.clock : Int)) := hSw.1.cell 6; go_simp; try rfl
  try simp only [Act.put, List.getElem_toArray, List.getElem_cons_zero, List.getElem_cons_succ, List.setIfInBounds_toArray, List.set_cons_zero, List.set_cons_succ]
  refine wpAnyH_take (i := 7) (v := .int .i64 (t : Int)) rfl (by kernel_rfl) (by kernel_rfl) (by kernel_rfl) (fun _ _ _ h => h) (Or.inl ⟨by rfl, ?_⟩) (by assumption) ?_
  case refine_1 => intro W hSw; rw [← HT.out]; go_simp; split <;> omega
  try simp only [Act.put, List.getElem_toArray, List.getElem_cons_zero, List.getElem_cons_succ, List.setIfInBounds_toArray, List.set_cons_zero, List.set_cons_succ]
  refine wpAnyH_ready (rs := [8]) (by kernel_rfl) (by simp) ?_
  refine AllReadyH.cons rfl (fun K hK => ?_) AllReadyH.nil
  have HPE := held_any d c es ce us cu p t wd HDD.out HN.out
  rw [HB.out] at HPE
  go_simp
  refine HPE.mono ?_
  rintro e we ⟨rfl, hbe⟩
  have HBE : Hid (Below w.heap.size w we) := HBD.out.trans (hbe.mono HBD.out.size)
  refine hK.out _ _ ⟨hHeld.1.blk (hbe.block _ hHeld.1.lt), hHeld.2.1.blk (hbe.block _ hHeld.2.1.lt), hHeld.2.2.blk (hbe.block _ hHeld.2.2.lt)⟩ (fun hHeld => ?_)
  clear hK K hbe HPE
  try simp only [Act.put, List.getElem_toArray, List.getElem_cons_zero, List.getElem_cons_succ, List.setIfInBounds_toArray, List.set_cons_zero, List.set_cons_succ]
  refine wpAnyH_take (i := 9) (v := .bool (heldP c (mget es) p t)) rfl (by kernel_rfl) (by kernel_rfl) (by kernel_rfl) (fun _ _ _ h => h) (Or.inl ⟨by rfl, ?_⟩) (by assumption) ?_
  case refine_1 => intro W hSw; go_simp; try rfl
  try simp only [Act.put, List.getElem_toArray, List.getElem_cons_zero, List.getElem_cons_succ, List.setIfInBounds_toArray, List.set_cons_zero, List.set_cons_succ]
  refine wpAnyH_done (by kernel_rfl) ?_ _
  clear hHeld
  go_wp2_with fail
  go_ret
  exact ⟨rfl, HBE.out⟩
end Go.Proofs.Ytjfiahendnlcjaa.Da
