/- Two ends that talk: an end's call and what comes of it; a new talk. Two ends that talk: what they are made of. -/
import Derived.Test.YtanboekdfdafmaaMgN
namespace Go.Proofs.Ytanboekdfdafmaa.Pv
open Go.ChangeShapes Go.WideShapes Go.ChangeAt Go.RowKit Go.Joins Go.Deep Go.Proofs.Ytanboekdfdafmaa.PM Go.Proofs.Ytanboekdfdafmaa.Ask Go.Proofs.Ytanboekdfdafmaa.Ge
set_option linter.unusedVariables false
set_option linter.unusedSimpArgs false

/-- an end has done a call -/
theorem mv_step {N : Nat} {w w' : World} {bt i : Nat} {t : Tl} {c : Cp} {s : Se} {o : Ou} {e : Ending} (h : TI N w bt t c) (hi : i < 2) (hN : N ≤ w.heap.size) (hm : MvPost w (c.b i) (c.st i) (s, o) e w') :
    ∃ vb ve l c', e = .returned (.agg #[vb, ve]) ∧ TI N w' bt (sesP t i s) c' ∧ Kl w w' bt c c' ∧ (c'.b = c.b ∧ c'.h = c.h) ∧ OutV N w' o vb ve l ∧ (∀ g, fpV vb ve l g → ¬ c'.A bt g) ∧ (∀ p ∈ l, ∀ g, Mown p.2 g → w.heap.size ≤ g) := by
  obtain ⟨vb, ve, l, st', he, hs, ho, ha, hk⟩ := hm
  obtain ⟨ht, hl⟩ := TI.ses h hi hs hk
  refine ⟨vb, ve, l, _, he, ht, hl, ⟨rfl, rfl⟩, ⟨ho.bys.mono hN, ⟨ho.ev.own.mono hN, fun p hp => (ho.ev.each p hp).mono hN, ho.ev.ap, ho.ev.pw⟩, ho.eq, ho.a1⟩, ?_, fun p hp g hm => ((ho.ev.each p hp).rng g hm).1⟩
  refine A_ses (w9 := w) hi h.lt (fun g hg => ?_) ha
  rcases hg with e | e | ⟨p, hp, hm⟩
  · exact (ho.bys.row.lt g e).1
  · exact (ho.ev.own.row.lt g e).1
  · exact ((ho.ev.each p hp).rng g hm).1
/-- what it has answered is under way -/
theorem out_step {N : Nat} {w w1 w2 : World} {bt : Nat} {t' : Tl} {c c1 : Cp} {l : List (Ev × Sl)} {e : Ending} (hk : Kl w w1 bt c c1) (hb : c1.b = c.b ∧ c1.h = c.h) (hm : ∀ p ∈ l, ∀ g, Mown p.2 g → w.heap.size ≤ g) (ho : OtPost N w1 bt c1 l t' e w2) : e = .returned (.bool true) ∧ ∃ c2, TI N w2 bt t' c2 ∧ Kl w w2 bt c c2 ∧ (c2.b = c.b ∧ c2.h = c.h) := by
  obtain ⟨he, c2, ht, hsb, hs, hbl, hn⟩ := ho
  have z := hk.str.size
  refine ⟨he, c2, ht, ⟨hk.str.trans hs, fun g hg hf => (hbl g (by omega) (fun e2 => ?_) (fun p hp hm2 => by have := hm p hp g hm2; omega)).trans (hk.blk g hg hf), fun g hg => ?_⟩, ⟨hsb.1.trans hb.1, hsb.2.trans hb.2⟩⟩
  · rcases hk.now g e2 with e3 | e3
    · exact hf e3
    · omega
  · rcases hn g hg with e2 | e2 | ⟨p, hp, hm2⟩
    · exact hk.now g e2
    · exact .inr (by omega)
    · exact .inr (hm p hp g hm2)
/-- a new talk -/
def newT (s0 s1 : Se) : Tl := ⟨fun i => if i = 0 then s0 else s1, fun _ => [], fun _ => [], fun _ => [], fun _ => 0, 0⟩
def newC (b0 b1 : Nat) : Cp := ⟨fun i => if i = 0 then b0 else b1, fun _ => none, fun _ => .slice none 0 0, fun _ => .slice none 0 0, fun _ => [], fun _ => .slice none 0 0, fun _ => []⟩
theorem TI.new {N : Nat} {w : World} {bt b0 b1 : Nat} {s0 s1 : Se} (hx : SB TaK bt (taL (newT s0 s1) (newC b0 b1)) w) (h0 : Ses w b0 s0 none) (h1 : Ses w b1 s1 none) (n0 : bt ≠ b0) (n1 : bt ≠ b1) (n2 : b0 ≠ b1) : TI N w bt (newT s0 s1) (newC b0 b1) := by
  have F : ∀ k g, (newC b0 b1).F bt k g → (k = 0 ∧ g = bt) ∨ (k = 1 ∧ g = b0) ∨ (k = 2 ∧ g = b1) := fun k g h => by
    match k, h with
    | 0, h => exact .inl ⟨rfl, h⟩
    | 1, h =>
      rcases h with e | ⟨p, e, -⟩
      · exact .inr (.inl ⟨rfl, e⟩)
      · cases e
    | 2, h =>
      rcases h with e | ⟨p, e, -⟩
      · exact .inr (.inr ⟨rfl, e⟩)
      · cases e
    | 3, h => cases h
    | 4, h => cases h
    | 5, h => cases h
    | 6, h => cases h
    | 7, h =>
      rcases h with e | ⟨p, e, -⟩
      · cases e
      · cases e
    | 8, h =>
      rcases h with e | ⟨p, e, -⟩
      · cases e
      · cases e
    | n + 9, h => exact h.elim
  refine ⟨hx, fun i hi => ?_, fun i _ => ⟨OwnL.nil _ _ _, fun d hd => by cases hd⟩, fun i _ => ⟨Gm.OwnL.nil _ _ _, rfl⟩, fun i _ => ⟨MsL.nil _ _, rfl⟩, fun i j _ _ hij g h1 h2 => ?_⟩
  · match i, hi with
    | 0, _ => exact h0
    | 1, _ => exact h1
  · rcases F i g h1 with ⟨r1, r2⟩ | ⟨r1, r2⟩ | ⟨r1, r2⟩ <;> rcases F j g h2 with ⟨q1, q2⟩ | ⟨q1, q2⟩ | ⟨q1, q2⟩ <;> omega
def CgK : Sk := ⟨26, 8, _, Try.underlying26, rfl, by kernel_rfl⟩
/-! the walks -/
def tz : List Value := [.pointer none, .pointer none, .slice none 0 0, .slice none 0 0, .slice none 0 0, .slice none 0 0, .slice none 0 0, .slice none 0 0, .int .i64 0, .int .i64 0, .int .i64 0]
/-- so many ends are made -/
def NI (bt : Nat) (d0 i0 h0 p0 d1 i1 h1 p1 : Int) (wr : World) : Nat → Prop
  | 0 => SB TaK bt tz wr
  | 1 => ∃ b0, bt < b0 ∧ Ses wr b0 (newS d0 i0 h0 p0) none ∧ SB TaK bt (tz.set 0 (.pointer (some ⟨b0, 0, none⟩))) wr
  | _ => ∃ b0 b1, bt < b0 ∧ b0 < b1 ∧ Ses wr b0 (newS d0 i0 h0 p0) none ∧ Ses wr b1 (newS d1 i1 h1 p1) none ∧ SB TaK bt ((tz.set 0 (.pointer (some ⟨b0, 0, none⟩))).set 1 (.pointer (some ⟨b1, 0, none⟩))) wr
def Rc (d i h p : Int) : Prop := (1 ≤ d ∧ d ≤ 4294967295) ∧ (1 ≤ i ∧ i ≤ 4294967295) ∧ (1 ≤ p ∧ p ≤ 4294967295) ∧ (h = 0 ∨ (3 ≤ h ∧ h ≤ 65535))
set_option maxRecDepth 100000 in
set_option maxHeartbeats 8000000 in
theorem tnew_any (d0 i0 h0 p0 d1 i1 h1 p1 : Int) (w : World) (hr0 : Rc d0 i0 h0 p0) (hr1 : Rc d1 i1 h1 p1) :
    Calls Try.prog 7 #[.agg #[.int .i64 d0, .int .i64 i0, .int .i64 h0, .int .i64 p0, .int .i64 d1, .int .i64 i1, .int .i64 h1, .int .i64 p1]] w fun e w' => ∃ bt b0 b1, e = .returned (.pointer (some ⟨bt, 0, none⟩)) ∧ TI w.heap.size w' bt (newT (newS d0 i0 h0 p0) (newS d1 i1 h1 p1)) (newC b0 b1) ∧ Below w.heap.size w w' ∧ (∀ g, (newC b0 b1).A bt g → w.heap.size ≤ g) := by
  go_enter Try.func7, Try.ntmps7
  go_wp2_with (refine list_sbox CgK rfl _ rfl (cs := [.int .i64 d0, .int .i64 i0, .int .i64 h0, .int .i64 p0, .int .i64 d1, .int .i64 i1, .int .i64 h1, .int .i64 p1]) rfl ?_)
  intro w1 hx1 hb1 hz1
  obtain ⟨bc, hbc⟩ : ∃ y, w.heap.size = y := ⟨_, rfl⟩
  have HX1 : Hid (SB CgK bc [.int .i64 d0, .int .i64 i0, .int .i64 h0, .int .i64 p0, .int .i64 d1, .int .i64 i1, .int .i64 h1, .int .i64 p1] w1) := by rw [← hbc]; exact hx1.out
  have HB1 : Hid (Below w.heap.size w w1) := hb1.out
  have HBC : Hid (w.heap.size = bc) := hbc
  rw [hbc]
  clear hx1 hb1 hz1 hbc
  go_wp2_with (refine list_sbox TaK rfl _ rfl (cs := tz) rfl ?_)
  intro w2 hx2 hb2 hz2
  obtain ⟨bt, hbt⟩ : ∃ y, w1.heap.size = y := ⟨_, rfl⟩
  have HX2 : Hid (SB TaK bt tz w2) := by rw [← hbt]; exact hx2.out
  have HBE2 : Hid (Below w.heap.size w w2) := HB1.out.trans (hb2.out.mono HB1.out.size)
  have HCG2 : Hid (SB CgK bc [.int .i64 d0, .int .i64 i0, .int .i64 h0, .int .i64 p0, .int .i64 d1, .int .i64 i1, .int .i64 h1, .int .i64 p1] w2) := HX1.out.blk (hb2.out.block bc HX1.out.lt)
  have HBT : Hid (w.heap.size ≤ bt) := by rw [← hbt]; exact HB1.out.size
  have HCB : Hid (bc ≠ bt) := by show _ ≠ _; have := HX1.out.lt; omega
  rw [hbt]
  clear hx2 hb2 hz2 hbt HX1 HB1
  go_wp2_with fail
  go_loopw [9] (fun kv wr => ∃ q : Nat, q ≤ 2 ∧ kv = .int .i64 (q : Int) ∧ Below w.heap.size w wr ∧ SB CgK bc [.int .i64 d0, .int .i64 i0, .int .i64 h0, .int .i64 p0, .int .i64 d1, .int .i64 i1, .int .i64 h1, .int .i64 p1] wr ∧ NI bt d0 i0 h0 p0 d1 i1 h1 p1 wr q) (fun k _ => 2 - (intOf k).toNat)
  case atStart => exact ⟨0, by omega, rfl, HBE2.out, HCG2.out, HX2.out⟩
  case round =>
    obtain ⟨q, hq, rfl, hbe, hcg, hni⟩ := hrel
    have HBE : Hid (Below w.heap.size w wr) := hbe
    have HCG : Hid (SB CgK bc [.int .i64 d0, .int .i64 i0, .int .i64 h0, .int .i64 p0, .int .i64 d1, .int .i64 i1, .int .i64 h1, .int .i64 p1] wr) := hcg
    have HI : Hid (NI bt d0 i0 h0 p0 d1 i1 h1 p1 wr q) := hni
    clear hbe hcg hni HX2 HBE2 HCG2
    match q, hq, HI with
    | 0, hq, HI => as_aux_lemma =>
          have HB : Hid (SB TaK bt tz wr) := HI.out
          have HC : Hid (∀ y, y < CfK.k → wr.cell? ⟨bc, 0 + y, none⟩ = [Value.int .i64 d0, .int .i64 i0, .int .i64 h0, .int .i64 p0][y]?) := fun y hy => by
            rw [HCG.out.cell]
            have h4 : y < 4 := hy
            match y, h4 with
            | 0, _ => rfl
            | 1, _ => rfl
            | 2, _ => rfl
            | 3, _ => rfl
          have HNW := snew_any d0 i0 h0 p0 wr hr0.1 hr0.2.1 hr0.2.2.1 hr0.2.2.2
          go_wp2_with (refine list_sat CfK rfl _ rfl (b := bc) (k := 0) (cs := [.int .i64 d0, .int .i64 i0, .int .i64 h0, .int .i64 p0]) rfl HC.out rfl ?_)
          refine HNW.mono ?_
          rintro e wa ⟨b, rfl, hs, hba, hlb⟩
          have HBA : Hid (SB TaK bt tz wa) := HB.out.blk (hba.block bt HB.out.lt)
          have cb : wa.cell? ⟨bt, 0, none⟩ = some (.pointer none) := HBA.out.cell 0
          have fb : wa.frozen? ⟨bt, 0, none⟩ = false := HBA.out.fro 0
          have HN : Hid (NI bt d0 i0 h0 p0 d1 i1 h1 p1 (wa.setCell ⟨bt, 0, none⟩ (.pointer (some ⟨b, 0, none⟩))) 1) := by
            refine ⟨b, by have := HB.out.lt; omega, hs.blk (fun g hg _ => (Ko.set wa bt 0 _).block g ?_), HBA.out.set 0 _ rfl⟩
            rcases hg with e | ⟨p, e, -⟩
            · have := HB.out.lt; omega
            · cases e
          have HBL : Hid (Below w.heap.size w (wa.setCell ⟨bt, 0, none⟩ (.pointer (some ⟨b, 0, none⟩)))) := (HBE.out.trans (hba.mono HBE.out.size)).trans ((Ko.set wa bt 0 _).below HBT.out)
          have HCG2 : Hid (SB CgK bc [.int .i64 d0, .int .i64 i0, .int .i64 h0, .int .i64 p0, .int .i64 d1, .int .i64 i1, .int .i64 h1, .int .i64 p1] (wa.setCell ⟨bt, 0, none⟩ (.pointer (some ⟨b, 0, none⟩)))) := (HCG.out.blk (hba.block bc HCG.out.lt)).blk ((Ko.set wa bt 0 _).block bc HCB.out)
          clear HNW hs hba hlb
          go_wp2_with fail
          exact ⟨⟨1, by omega, by simp, HBL.out, HCG2.out, HN.out⟩, by simp [intOf]⟩
    | 1, hq, HI => as_aux_lemma =>
          obtain ⟨b0, hlt, hs0, hb0⟩ := HI.out
          have HB : Hid (SB TaK bt (tz.set 0 (.pointer (some ⟨b0, 0, none⟩))) wr) := hb0
          have HS0 : Hid (Ses wr b0 (newS d0 i0 h0 p0) none) := hs0
          have HLT : Hid (bt < b0) := hlt
          clear hlt hs0 hb0
          have HC : Hid (∀ y, y < CfK.k → wr.cell? ⟨bc, 4 + y, none⟩ = [Value.int .i64 d1, .int .i64 i1, .int .i64 h1, .int .i64 p1][y]?) := fun y hy => by
            rw [HCG.out.cell]
            have h4 : y < 4 := hy
            match y, h4 with
            | 0, _ => rfl
            | 1, _ => rfl
            | 2, _ => rfl
            | 3, _ => rfl
          have HNW := snew_any d1 i1 h1 p1 wr hr1.1 hr1.2.1 hr1.2.2.1 hr1.2.2.2
          go_wp2_with (refine list_sat CfK rfl _ rfl (b := bc) (k := 4) (cs := [.int .i64 d1, .int .i64 i1, .int .i64 h1, .int .i64 p1]) rfl HC.out rfl ?_)
          refine HNW.mono ?_
          rintro e wa ⟨b, rfl, hs, hba, hlb⟩
          have HBA : Hid (SB TaK bt (tz.set 0 (.pointer (some ⟨b0, 0, none⟩))) wa) := HB.out.blk (hba.block bt HB.out.lt)
          have cb : wa.cell? ⟨bt, 1, none⟩ = some (.pointer none) := HBA.out.cell 1
          have fb : wa.frozen? ⟨bt, 1, none⟩ = false := HBA.out.fro 1
          have HN : Hid (NI bt d0 i0 h0 p0 d1 i1 h1 p1 (wa.setCell ⟨bt, 1, none⟩ (.pointer (some ⟨b, 0, none⟩))) 2) := by
            have l0 := HS0.out.box.lt
            refine ⟨b0, b, HLT.out, by omega, (HS0.out.blk (fun g _ hl => hba.block g hl)).blk (fun g hg _ => (Ko.set wa bt 1 _).block g ?_), hs.blk (fun g hg _ => (Ko.set wa bt 1 _).block g ?_), HBA.out.set 1 _ rfl⟩
            · rcases hg with e | ⟨p, e, -⟩
              · have := HLT.out; omega
              · cases e
            · rcases hg with e | ⟨p, e, -⟩
              · have := HB.out.lt; omega
              · cases e
          have HBL : Hid (Below w.heap.size w (wa.setCell ⟨bt, 1, none⟩ (.pointer (some ⟨b, 0, none⟩)))) := (HBE.out.trans (hba.mono HBE.out.size)).trans ((Ko.set wa bt 1 _).below HBT.out)
          have HCG2 : Hid (SB CgK bc [.int .i64 d0, .int .i64 i0, .int .i64 h0, .int .i64 p0, .int .i64 d1, .int .i64 i1, .int .i64 h1, .int .i64 p1] (wa.setCell ⟨bt, 1, none⟩ (.pointer (some ⟨b, 0, none⟩)))) := (HCG.out.blk (hba.block bc HCG.out.lt)).blk ((Ko.set wa bt 1 _).block bc HCB.out)
          clear HNW hs hba hlb
          go_wp2_with fail
          exact ⟨⟨2, by omega, by simp, HBL.out, HCG2.out, HN.out⟩, by simp [intOf]⟩
    | 2, hq, HI => as_aux_lemma =>
          obtain ⟨b0, b1, l0, l1, hs0, hs1, hb⟩ := HI.out
          have HR : Hid (∃ bt' b0' b1', Ending.returned (.pointer (some ⟨bt, 0, none⟩)) = .returned (.pointer (some ⟨bt', 0, none⟩)) ∧ TI w.heap.size wr bt' (newT (newS d0 i0 h0 p0) (newS d1 i1 h1 p1)) (newC b0' b1') ∧ Below w.heap.size w wr ∧ (∀ g, (newC b0' b1').A bt' g → w.heap.size ≤ g)) := by
            refine ⟨bt, b0, b1, rfl, TI.new hb hs0 hs1 (by omega) (by omega) (by omega), HBE.out, fun g hg => ?_⟩
            have z := HBT.out
            obtain ⟨k, -, hf⟩ := hg
            match k, hf with
            | 0, hf => have e : g = bt := hf; omega
            | 1, hf =>
              rcases hf with e | ⟨p, e, -⟩
              · have e2 : g = b0 := e; omega
              · cases e
            | 2, hf =>
              rcases hf with e | ⟨p, e, -⟩
              · have e2 : g = b1 := e; omega
              · cases e
            | 3, hf => cases hf
            | 4, hf => cases hf
            | 5, hf => cases hf
            | 6, hf => cases hf
            | 7, hf =>
              rcases hf with e | ⟨p, e, -⟩
              · cases e
              · cases e
            | 8, hf =>
              rcases hf with e | ⟨p, e, -⟩
              · cases e
              · cases e
            | n + 9, hf => exact hf.elim
          clear hs0 hs1 hb l0 l1
          go_wp2_with fail
          go_ret
          exact HR.out
end Go.Proofs.Ytanboekdfdafmaa.Pv
namespace Go.Proofs.Ytanboekdfdafmaa.Pv
open Go.ChangeShapes Go.WideShapes Go.ChangeAt Go.RowKit Go.Joins Go.Deep Go.Proofs.Ytanboekdfdafmaa.PM Go.Proofs.Ytanboekdfdafmaa.Ask Go.Proofs.Ytanboekdfdafmaa.Ge
set_option linter.unusedVariables false
set_option linter.unusedSimpArgs false

def ArK : Sk := ⟨22, 2, _, Try.underlying22, rfl, by kernel_rfl⟩
theorem cnew_run {o : Oper} {ρ : Operand → Value} {W : World} (ho : o.op = .alloc 26) : (execOp ρ o).run Try.prog W = .ok (.value (.pointer (some ⟨W.heap.size, 0, none⟩))) (W.alloc (Obj.cells #[.int .i64 0, .int .i64 0, .int .i64 0, .int .i64 0, .int .i64 0, .int .i64 0, .int .i64 0, .int .i64 0] 26)) := by
  unfold execOp
  rw [ho]
  simp [go_sem]
def c8z : List Value := [.int .i64 0, .int .i64 0, .int .i64 0, .int .i64 0, .int .i64 0, .int .i64 0, .int .i64 0, .int .i64 0]
theorem list_cnew {ops : Array Oper} {rest : List Oper} {o : Oper} {ac : Act} {Q : Exit → Act → World → Prop} {W : World} (hgd : o.guard = none) (ho : o.op = .alloc 26)
    (k : ∀ b W', Hid (W.heap.size = b) → Hid (SB CgK b c8z W') → Hid (Below W.heap.size W W') → wpList Try.prog ops Q rest (ac.put o.dst (.pointer (some ⟨b, 0, none⟩))) W') : wpList Try.prog ops Q (o :: rest) ac W := by
  refine wpList_plain hgd fun K hK => ?_
  unfold Oper.wp
  rw [cnew_run ho]
  exact hK _ _ (k _ _ rfl (World.alloc_heap_new W _) ((Below.refl _ W).alloc (Nat.le_refl _) _))
/-- what a config says -/
def cfL (D0 D1 I0 I1 H0 H1 : Int) (q : Nat) : List Value :=
  if q = 0 then [.int .i64 (1 + (md D0 1000 : Int)), .int .i64 (1 + (md I0 1000 : Int)), .int .i64 (if md H0 60 < 3 then 0 else (md H0 60 : Int)), .int .i64 (1 + (md D1 1000 : Int))]
  else [.int .i64 (1 + (md D1 1000 : Int)), .int .i64 (1 + (md I1 1000 : Int)), .int .i64 (if md H1 60 < 3 then 0 else (md H1 60 : Int)), .int .i64 (1 + (md D0 1000 : Int))]
def cg (D0 D1 I0 I1 H0 H1 : Int) : Nat → List Value
  | 0 => c8z
  | 1 => setL c8z 0 (cfL D0 D1 I0 I1 H0 H1 0)
  | _ => setL (setL c8z 0 (cfL D0 D1 I0 I1 H0 H1 0)) 4 (cfL D0 D1 I0 I1 H0 H1 1)
/-! the walks -/
theorem cf_res {W : World} {b : Nat} {cs : List Value} (h : SB CgK b cs W) (hl : cs.length = 8) {tm : Array Value} (t6 : (tm[6]?).getD undef = .pointer (some ⟨b, 0, none⟩)) : (results Try.f6 tm).run Try.prog W = .ok (.agg cs.toArray) W := by
  match cs, hl with
  | [x0, x1, x2, x3, x4, x5, x6, x7], _ =>
    have c0 : W.cell? ⟨b, 0, none⟩ = some x0 := h.cell 0
    have c1 : W.cell? ⟨b, 1, none⟩ = some x1 := h.cell 1
    have c2 : W.cell? ⟨b, 2, none⟩ = some x2 := h.cell 2
    have c3 : W.cell? ⟨b, 3, none⟩ = some x3 := h.cell 3
    have c4 : W.cell? ⟨b, 4, none⟩ = some x4 := h.cell 4
    have c5 : W.cell? ⟨b, 5, none⟩ = some x5 := h.cell 5
    have c6 : W.cell? ⟨b, 6, none⟩ = some x6 := h.cell 6
    have c7 : W.cell? ⟨b, 7, none⟩ = some x7 := h.cell 7
    simp [results, Try.results6, go_sem, t6, c0, c1, c2, c3, c4, c5, c6, c7]
set_option maxRecDepth 100000 in
set_option maxHeartbeats 16000000 in
theorem cfgs_any (D0 D1 I0 I1 H0 H1 : Int) (w : World) (hrd0 : -9223372036854775808 ≤ D0 ∧ D0 < 9223372036854775808) (hrd1 : -9223372036854775808 ≤ D1 ∧ D1 < 9223372036854775808) (hri0 : -9223372036854775808 ≤ I0 ∧ I0 < 9223372036854775808) (hri1 : -9223372036854775808 ≤ I1 ∧ I1 < 9223372036854775808) (hrh0 : -9223372036854775808 ≤ H0 ∧ H0 < 9223372036854775808) (hrh1 : -9223372036854775808 ≤ H1 ∧ H1 < 9223372036854775808) (cs : List Value) (hcs : (if 1 + (md I0 1000 : Int) = 1 + (md I1 1000 : Int) then (cg D0 D1 I0 I1 H0 H1 2).set 5 (.int .i64 (1 + (md I1 1000 : Int) + 1)) else cg D0 D1 I0 I1 H0 H1 2) = cs) :
    Calls Try.prog 6 #[.agg #[.int .i64 D0, .int .i64 D1], .agg #[.int .i64 I0, .int .i64 I1], .agg #[.int .i64 H0, .int .i64 H1]] w fun e w' => e = .returned (.agg cs.toArray) ∧ Below w.heap.size w w' := by
  have HRD0 : Hid (-9223372036854775808 ≤ D0 ∧ D0 < 9223372036854775808) := hrd0
  have HRD1 : Hid (-9223372036854775808 ≤ D1 ∧ D1 < 9223372036854775808) := hrd1
  have HRI0 : Hid (-9223372036854775808 ≤ I0 ∧ I0 < 9223372036854775808) := hri0
  have HRI1 : Hid (-9223372036854775808 ≤ I1 ∧ I1 < 9223372036854775808) := hri1
  have HRH0 : Hid (-9223372036854775808 ≤ H0 ∧ H0 < 9223372036854775808) := hrh0
  have HRH1 : Hid (-9223372036854775808 ≤ H1 ∧ H1 < 9223372036854775808) := hrh1
  have HCS : Hid ((if 1 + (md I0 1000 : Int) = 1 + (md I1 1000 : Int) then (cg D0 D1 I0 I1 H0 H1 2).set 5 (.int .i64 (1 + (md I1 1000 : Int) + 1)) else cg D0 D1 I0 I1 H0 H1 2) = cs) := hcs
  clear hrd0 hrd1 hri0 hri1 hrh0 hrh1 hcs
  go_enter Try.func6, Try.ntmps6
  go_wp2_with (refine list_sbox ArK rfl _ rfl (cs := [.int .i64 D0, .int .i64 D1]) rfl ?_)
  intro w3 hx3 hb3 hz3
  clear hz3
  obtain ⟨b3, hb3e⟩ : ∃ y, w.heap.size = y := ⟨_, rfl⟩
  rw [hb3e]
  go_wp2_with (refine list_sbox ArK rfl _ rfl (cs := [.int .i64 I0, .int .i64 I1]) rfl ?_)
  intro w4 hx4 hb4 hz4
  clear hz4
  obtain ⟨b4, hb4e⟩ : ∃ y, w3.heap.size = y := ⟨_, rfl⟩
  rw [hb4e]
  go_wp2_with (refine list_sbox ArK rfl _ rfl (cs := [.int .i64 H0, .int .i64 H1]) rfl ?_)
  intro w5 hx5 hb5 hz5
  clear hz5
  obtain ⟨b5, hb5e⟩ : ∃ y, w4.heap.size = y := ⟨_, rfl⟩
  rw [hb5e]
  go_wp2_with (refine list_cnew rfl rfl ?_)
  intro rb w6 hrb hx6 hb6
  go_wp2_with (refine list_cnew rfl rfl ?_)
  intro bc w7 hbc hx7 hb7
  have Z : Hid (b3 < b4 ∧ b4 < b5 ∧ b5 < rb ∧ rb < bc ∧ w.heap.size ≤ b3) := by
    have := hrb.out; have := hbc.out; have := hb6.out.size; have := hx6.out.lt; have := hx5.out.lt; have := hx4.out.lt; have := hx3.out.lt
    exact ⟨by omega, by omega, by omega, by omega, by omega⟩
  have HBE7 : Hid (Below w.heap.size w w7) := by
    have q1 := hb3.out
    have q2 := q1.trans (hb4.out.mono q1.size)
    have q3 := q2.trans (hb5.out.mono q2.size)
    have q4 := q3.trans (hb6.out.mono q3.size)
    exact q4.trans (hb7.out.mono q4.size)
  have HX37 : Hid (SB ArK b3 [.int .i64 D0, .int .i64 D1] w7) := by
    have h := hx3.out
    rw [hb3e] at h
    have h2 := h.blk (hb4.out.block _ h.lt)
    have h3 := h2.blk (hb5.out.block _ h2.lt)
    have h4 := h3.blk (hb6.out.block _ h3.lt)
    exact h4.blk (hb7.out.block _ h4.lt)
  have HX47 : Hid (SB ArK b4 [.int .i64 I0, .int .i64 I1] w7) := by
    have h := hx4.out
    rw [hb4e] at h
    have h3 := h.blk (hb5.out.block _ h.lt)
    have h4 := h3.blk (hb6.out.block _ h3.lt)
    exact h4.blk (hb7.out.block _ h4.lt)
  have HX57 : Hid (SB ArK b5 [.int .i64 H0, .int .i64 H1] w7) := by
    have h := hx5.out
    rw [hb5e] at h
    have h4 := h.blk (hb6.out.block _ h.lt)
    exact h4.blk (hb7.out.block _ h4.lt)
  have HX67 : Hid (SB CgK rb c8z w7) := hx6.out.blk (hb7.out.block _ hx6.out.lt)
  have HX77 : Hid (SB CgK bc c8z w7) := hx7.out
  have HNE : Hid (b3 ≠ bc ∧ b4 ≠ bc ∧ b5 ≠ bc ∧ rb ≠ bc ∧ w.heap.size ≤ bc) := by have := Z.out; exact ⟨by omega, by omega, by omega, by omega, by omega⟩
  clear hx3 hb3 hb3e hx4 hb4 hb4e hx5 hb5 hb5e hrb hx6 hb6 hbc hx7 hb7
  go_wp2_with fail
  go_loopw [10] (fun kv wr => ∃ q : Nat, q ≤ 2 ∧ kv = .int .i64 (q : Int) ∧ SB ArK b3 [.int .i64 D0, .int .i64 D1] wr ∧ SB ArK b4 [.int .i64 I0, .int .i64 I1] wr ∧ SB ArK b5 [.int .i64 H0, .int .i64 H1] wr ∧ SB CgK rb c8z wr ∧ Below w.heap.size w wr ∧ SB CgK bc (cg D0 D1 I0 I1 H0 H1 q) wr) (fun k _ => 2 - (intOf k).toNat)
  case atStart => exact ⟨0, by omega, rfl, HX37.out, HX47.out, HX57.out, HX67.out, HBE7.out, HX77.out⟩
  case round =>
    obtain ⟨q, hq, rfl, g3, g4, g5, g6, gb, gc⟩ := hrel
    have HX3 : Hid (SB ArK b3 [.int .i64 D0, .int .i64 D1] wr) := g3
    have HX4 : Hid (SB ArK b4 [.int .i64 I0, .int .i64 I1] wr) := g4
    have HX5 : Hid (SB ArK b5 [.int .i64 H0, .int .i64 H1] wr) := g5
    have HX6 : Hid (SB CgK rb c8z wr) := g6
    have HBE : Hid (Below w.heap.size w wr) := gb
    have HI : Hid (SB CgK bc (cg D0 D1 I0 I1 H0 H1 q) wr) := gc
    clear g3 g4 g5 g6 gb gc HX37 HX47 HX57 HX67 HX77 HBE7
    match q, hq, HI with
    | 0, hq, HI =>
      have HB : Hid (SB CgK bc (cg D0 D1 I0 I1 H0 H1 0) wr) := HI.out
      have dh : wr.cell? ⟨b5, 0, none⟩ = some (.int .i64 H0) := HX5.out.cell 0
      obtain ⟨kh, hkh⟩ : ∃ y, md H0 60 = y := ⟨_, rfl⟩
      obtain ⟨kd, hkd⟩ : ∃ y, md D0 1000 = y := ⟨_, rfl⟩
      obtain ⟨ki, hki⟩ : ∃ y, md I0 1000 = y := ⟨_, rfl⟩
      obtain ⟨kp, hkp⟩ : ∃ y, md D1 1000 = y := ⟨_, rfl⟩
      have HMH : Hid (∀ W, Calls Try.prog 8 #[.int .i64 H0, .int .i64 60] W fun e w' => e = .returned (.int .i64 (kh : Int)) ∧ w' = W) := fun W => mod_any H0 HRH0.out 60 (by omega) (by omega) kh hkh W
      have HMD : Hid (∀ W, Calls Try.prog 8 #[.int .i64 D0, .int .i64 1000] W fun e w' => e = .returned (.int .i64 (kd : Int)) ∧ w' = W) := fun W => mod_any D0 HRD0.out 1000 (by omega) (by omega) kd hkd W
      have HMI : Hid (∀ W, Calls Try.prog 8 #[.int .i64 I0, .int .i64 1000] W fun e w' => e = .returned (.int .i64 (ki : Int)) ∧ w' = W) := fun W => mod_any I0 HRI0.out 1000 (by omega) (by omega) ki hki W
      have HMP : Hid (∀ W, Calls Try.prog 8 #[.int .i64 D1, .int .i64 1000] W fun e w' => e = .returned (.int .i64 (kp : Int)) ∧ w' = W) := fun W => mod_any D1 HRD1.out 1000 (by omega) (by omega) kp hkp W
      have lh : kh < 60 := by rw [← hkh]; exact md_lt (by omega)
      have ld : kd < 1000 := by rw [← hkd]; exact md_lt (by omega)
      have li : ki < 1000 := by rw [← hki]; exact md_lt (by omega)
      have lp : kp < 1000 := by rw [← hkp]; exact md_lt (by omega)
      have hw_kd : IntKind.i64.wrap (1 + (kd : Int)) = 1 + (kd : Int) := IntWalk.i64_in _ (by omega)
      have hw_ki : IntKind.i64.wrap (1 + (ki : Int)) = 1 + (ki : Int) := IntWalk.i64_in _ (by omega)
      have hw_kp : IntKind.i64.wrap (1 + (kp : Int)) = 1 + (kp : Int) := IntWalk.i64_in _ (by omega)
      have HCF : Hid (∀ hv : Int, (if kh < 3 then 0 else (kh : Int)) = hv → cfL D0 D1 I0 I1 H0 H1 0 = [.int .i64 (1 + (kd : Int)), .int .i64 (1 + (ki : Int)), .int .i64 hv, .int .i64 (1 + (kp : Int))]) := fun hv e => by rw [← e, ← hkh, ← hkd, ← hki, ← hkp]; rfl
      clear hkh hkd hki hkp
      go_wp2_with fail
      refine (HMH.out wr).mono ?_
      rintro e w' ⟨rfl, hw'⟩
      rw [hw']
      clear hw' w'
      by_cases hl : kh < 3
      case pos =>
        have hli : (kh : Int) < 3 := by omega
        have HV : Hid ((if kh < 3 then 0 else (kh : Int)) = 0) := by show _ = _; rw [if_pos hl]
        go_wp2_with fail
        clear hl hli
        refine wp_region_held_drew (S := fun W => SB ArK b3 [.int .i64 D0, .int .i64 D1] W ∧ SB ArK b4 [.int .i64 I0, .int .i64 I1] W) (by kernel_rfl) ⟨HX3.out, HX4.out⟩ (fun hHeld => ?_)
        obtain ⟨X0, hX0⟩ : ∃ x, wr.drew = x := ⟨_, rfl⟩
        have HB0 : Hid (SB CgK bc (cg D0 D1 I0 I1 H0 H1 0) X0) := by rw [← hX0]; exact HB.out
        have HBX : Hid (Below w.heap.size w X0) := by rw [← hX0]; exact HBE.out.trans ((drew_bel wr).mono HBE.out.size)
        have HX50 : Hid (SB ArK b5 [.int .i64 H0, .int .i64 H1] X0) := by rw [← hX0]; exact HX5.out
        have HX60 : Hid (SB CgK rb c8z X0) := by rw [← hX0]; exact HX6.out
        rw [hX0] at hHeld ⊢
        clear hX0
        refine wpAnyH_take (i := 0) (v := ?_) rfl (by kernel_rfl) (by kernel_rfl) (by kernel_rfl) (fun _ _ _ h => h) (Or.inl ⟨by rfl, ?_⟩) (by assumption) ?_
        case refine_2 => intro W hSw; go_simp; try rfl
        try simp only [Act.put, List.getElem_toArray, List.getElem_cons_zero, List.getElem_cons_succ, List.setIfInBounds_toArray, List.set_cons_zero, List.set_cons_succ]
        refine wpAnyH_take (i := 1) (v := ?_) rfl (by kernel_rfl) (by kernel_rfl) (by kernel_rfl) (fun _ _ _ h => h) (Or.inl ⟨by rfl, ?_⟩) (by assumption) ?_
        case refine_2 => intro W hSw; go_simp; try rfl
        try simp only [Act.put, List.getElem_toArray, List.getElem_cons_zero, List.getElem_cons_succ, List.setIfInBounds_toArray, List.set_cons_zero, List.set_cons_succ]
        refine wpAnyH_take (i := 2) (v := .pointer (some ⟨b3, 0, none⟩)) rfl (by kernel_rfl) (by kernel_rfl) (by kernel_rfl) (fun _ _ _ h => h) (Or.inl ⟨by rfl, ?_⟩) (by assumption) ?_
        case refine_1 => intro W hSw; go_simp; try rfl
        try simp only [Act.put, List.getElem_toArray, List.getElem_cons_zero, List.getElem_cons_succ, List.setIfInBounds_toArray, List.set_cons_zero, List.set_cons_succ]
        refine wpAnyH_take (i := 3) (v := .int .i64 D0) rfl (by kernel_rfl) (by kernel_rfl) (by kernel_rfl) (fun _ _ _ h => h) (Or.inl ⟨by rfl, ?_⟩) (by assumption) ?_
        case refine_1 => intro W hSw; have cc : W.cell? ⟨b3, 0, none⟩ = some (.int .i64 D0) := hSw.1.cell 0; go_simp; try rfl
        try simp only [Act.put, List.getElem_toArray, List.getElem_cons_zero, List.getElem_cons_succ, List.setIfInBounds_toArray, List.set_cons_zero, List.set_cons_succ]
        refine wpAnyH_take (i := 6) (v := ?_) rfl (by kernel_rfl) (by kernel_rfl) (by kernel_rfl) (fun _ _ _ h => h) (Or.inl ⟨by rfl, ?_⟩) (by assumption) ?_
        case refine_2 => intro W hSw; go_simp; try rfl
        try simp only [Act.put, List.getElem_toArray, List.getElem_cons_zero, List.getElem_cons_succ, List.setIfInBounds_toArray, List.set_cons_zero, List.set_cons_succ]
        refine wpAnyH_take (i := 7) (v := .pointer (some ⟨b4, 0, none⟩)) rfl (by kernel_rfl) (by kernel_rfl) (by kernel_rfl) (fun _ _ _ h => h) (Or.inl ⟨by rfl, ?_⟩) (by assumption) ?_
        case refine_1 => intro W hSw; go_simp; try rfl
        try simp only [Act.put, List.getElem_toArray, List.getElem_cons_zero, List.getElem_cons_succ, List.setIfInBounds_toArray, List.set_cons_zero, List.set_cons_succ]
        refine wpAnyH_take (i := 8) (v := .int .i64 I0) rfl (by kernel_rfl) (by kernel_rfl) (by kernel_rfl) (fun _ _ _ h => h) (Or.inl ⟨by rfl, ?_⟩) (by assumption) ?_
        case refine_1 => intro W hSw; have cc : W.cell? ⟨b4, 0, none⟩ = some (.int .i64 I0) := hSw.2.cell 0; go_simp; try rfl
        try simp only [Act.put, List.getElem_toArray, List.getElem_cons_zero, List.getElem_cons_succ, List.setIfInBounds_toArray, List.set_cons_zero, List.set_cons_succ]
        refine wpAnyH_take (i := 11) (v := ?_) rfl (by kernel_rfl) (by kernel_rfl) (by kernel_rfl) (fun _ _ _ h => h) (Or.inl ⟨by rfl, ?_⟩) (by assumption) ?_
        case refine_2 => intro W hSw; go_simp; try rfl
        try simp only [Act.put, List.getElem_toArray, List.getElem_cons_zero, List.getElem_cons_succ, List.setIfInBounds_toArray, List.set_cons_zero, List.set_cons_succ]
        refine wpAnyH_take (i := 12) (v := ?_) rfl (by kernel_rfl) (by kernel_rfl) (by kernel_rfl) (fun _ _ _ h => h) (Or.inl ⟨by rfl, ?_⟩) (by assumption) ?_
        case refine_2 => intro W hSw; go_simp; try rfl
        try simp only [Act.put, List.getElem_toArray, List.getElem_cons_zero, List.getElem_cons_succ, List.setIfInBounds_toArray, List.set_cons_zero, List.set_cons_succ]
        refine wpAnyH_take (i := 13) (v := .int .i64 1) rfl (by kernel_rfl) (by kernel_rfl) (by kernel_rfl) (fun _ _ _ h => h) (Or.inl ⟨by rfl, ?_⟩) (by assumption) ?_
        case refine_1 => intro W hSw; go_simp; try rfl
        try simp only [Act.put, List.getElem_toArray, List.getElem_cons_zero, List.getElem_cons_succ, List.setIfInBounds_toArray, List.set_cons_zero, List.set_cons_succ]
        refine wpAnyH_take (i := 14) (v := .pointer (some ⟨b3, 1, none⟩)) rfl (by kernel_rfl) (by kernel_rfl) (by kernel_rfl) (fun _ _ _ h => h) (Or.inl ⟨by rfl, ?_⟩) (by assumption) ?_
        case refine_1 => intro W hSw; go_simp; try rfl
        try simp only [Act.put, List.getElem_toArray, List.getElem_cons_zero, List.getElem_cons_succ, List.setIfInBounds_toArray, List.set_cons_zero, List.set_cons_succ]
        refine wpAnyH_take (i := 15) (v := .int .i64 D1) rfl (by kernel_rfl) (by kernel_rfl) (by kernel_rfl) (fun _ _ _ h => h) (Or.inl ⟨by rfl, ?_⟩) (by assumption) ?_
        case refine_1 => intro W hSw; have cc : W.cell? ⟨b3, 1, none⟩ = some (.int .i64 D1) := hSw.1.cell 1; go_simp; try rfl
        try simp only [Act.put, List.getElem_toArray, List.getElem_cons_zero, List.getElem_cons_succ, List.setIfInBounds_toArray, List.set_cons_zero, List.set_cons_succ]
        refine wpAnyH_ready (rs := [4]) (by kernel_rfl) (by simp) ?_
        refine AllReadyH.cons rfl (fun K hK => ?_) AllReadyH.nil
        go_simp
        refine (HMD.out X0).mono ?_
        rintro e w' ⟨rfl, hw'⟩
        rw [hw']
        clear hw' w'
        refine hK.out _ _ hHeld (fun hHeld => ?_)
        clear hK K
        try simp only [Act.put, List.getElem_toArray, List.getElem_cons_zero, List.getElem_cons_succ, List.setIfInBounds_toArray, List.set_cons_zero, List.set_cons_succ]
        refine wpAnyH_take (i := 5) (v := .int .i64 (1 + (kd : Int))) rfl (by kernel_rfl) (by kernel_rfl) (by kernel_rfl) (fun _ _ _ h => h) (Or.inl ⟨by rfl, ?_⟩) (by assumption) ?_
        case refine_1 => intro W hSw; go_simp; try simp only [hw_kd]
        try simp only [Act.put, List.getElem_toArray, List.getElem_cons_zero, List.getElem_cons_succ, List.setIfInBounds_toArray, List.set_cons_zero, List.set_cons_succ]
        refine wpAnyH_ready (rs := [9]) (by kernel_rfl) (by simp) ?_
        refine AllReadyH.cons rfl (fun K hK => ?_) AllReadyH.nil
        go_simp
        refine (HMI.out X0).mono ?_
        rintro e w' ⟨rfl, hw'⟩
        rw [hw']
        clear hw' w'
        refine hK.out _ _ hHeld (fun hHeld => ?_)
        clear hK K
        try simp only [Act.put, List.getElem_toArray, List.getElem_cons_zero, List.getElem_cons_succ, List.setIfInBounds_toArray, List.set_cons_zero, List.set_cons_succ]
        refine wpAnyH_take (i := 10) (v := .int .i64 (1 + (ki : Int))) rfl (by kernel_rfl) (by kernel_rfl) (by kernel_rfl) (fun _ _ _ h => h) (Or.inl ⟨by rfl, ?_⟩) (by assumption) ?_
        case refine_1 => intro W hSw; go_simp; try simp only [hw_ki]
        try simp only [Act.put, List.getElem_toArray, List.getElem_cons_zero, List.getElem_cons_succ, List.setIfInBounds_toArray, List.set_cons_zero, List.set_cons_succ]
        refine wpAnyH_ready (rs := [16]) (by kernel_rfl) (by simp) ?_
        refine AllReadyH.cons rfl (fun K hK => ?_) AllReadyH.nil
        go_simp
        refine (HMP.out X0).mono ?_
        rintro e w' ⟨rfl, hw'⟩
        rw [hw']
        clear hw' w'
        refine hK.out _ _ hHeld (fun hHeld => ?_)
        clear hK K
        try simp only [Act.put, List.getElem_toArray, List.getElem_cons_zero, List.getElem_cons_succ, List.setIfInBounds_toArray, List.set_cons_zero, List.set_cons_succ]
        refine wpAnyH_take (i := 17) (v := .int .i64 (1 + (kp : Int))) rfl (by kernel_rfl) (by kernel_rfl) (by kernel_rfl) (fun _ _ _ h => h) (Or.inl ⟨by rfl, ?_⟩) (by assumption) ?_
        case refine_1 => intro W hSw; go_simp; try simp only [hw_kp]
        try simp only [Act.put, List.getElem_toArray, List.getElem_cons_zero, List.getElem_cons_succ, List.setIfInBounds_toArray, List.set_cons_zero, List.set_cons_succ]
        refine wpAnyH_take (i := 18) (v := .agg #[.int .i64 (1 + (kd : Int)), .int .i64 (1 + (ki : Int)), .int .i64 0, .int .i64 (1 + (kp : Int))]) rfl (by kernel_rfl) (by kernel_rfl) (by kernel_rfl) (fun _ _ _ h => h) (Or.inl ⟨by rfl, ?_⟩) (by assumption) ?_
        case refine_1 => intro W hSw; go_simp; try rfl
        try simp only [Act.put, List.getElem_toArray, List.getElem_cons_zero, List.getElem_cons_succ, List.setIfInBounds_toArray, List.set_cons_zero, List.set_cons_succ]
        refine wpAnyH_take (i := 19) (v := .pointer (some ⟨bc, 0, none⟩)) rfl (by kernel_rfl) (by kernel_rfl) (by kernel_rfl) (fun _ _ _ h => h) (Or.inl ⟨by rfl, ?_⟩) (by assumption) ?_
        case refine_1 => intro W hSw; go_simp; try rfl
        try simp only [Act.put, List.getElem_toArray, List.getElem_cons_zero, List.getElem_cons_succ, List.setIfInBounds_toArray, List.set_cons_zero, List.set_cons_succ]
        refine wpAnyH_ready (rs := [20]) (by kernel_rfl) (by simp) ?_
        refine AllReadyH.cons rfl (fun K hK => ?_) AllReadyH.nil
        refine step_runs rfl (sput_run CgK CfK (.tmp 38) (.tmp 37) rfl (b := bc) (off := 0) (cs := cg D0 D1 I0 I1 H0 H1 0) (vs := [.int .i64 (1 + (kd : Int)), .int .i64 (1 + (ki : Int)), .int .i64 0, .int .i64 (1 + (kp : Int))]) rfl rfl HB0.out rfl (by show 0 + 4 ≤ 8; decide) rfl) ?_
        have HB2 : Hid (SB CgK bc (cg D0 D1 I0 I1 H0 H1 1) (X0.setCells bc 0 [.int .i64 (1 + (kd : Int)), .int .i64 (1 + (ki : Int)), .int .i64 0, .int .i64 (1 + (kp : Int))])) := by
          show SB CgK bc (setL (cg D0 D1 I0 I1 H0 H1 0) 0 (cfL D0 D1 I0 I1 H0 H1 0)) _
          rw [HCF.out (0) HV.out]
          exact SB.cells _ 0 _ X0 HB0.out
        have HK2 : Hid (Ko X0 bc (X0.setCells bc 0 [.int .i64 (1 + (kd : Int)), .int .i64 (1 + (ki : Int)), .int .i64 0, .int .i64 (1 + (kp : Int))])) := Ko.cellsL bc _ 0 X0
        refine hK.out _ _ ⟨hHeld.1.blk (HK2.out.block b3 HNE.out.1), hHeld.2.blk (HK2.out.block b4 HNE.out.2.1)⟩ (fun hHeld => ?_)
        clear hK K
        obtain ⟨X1, hX1⟩ : ∃ x, X0.setCells bc 0 [.int .i64 (1 + (kd : Int)), .int .i64 (1 + (ki : Int)), .int .i64 0, .int .i64 (1 + (kp : Int))] = x := ⟨_, rfl⟩
        rw [hX1] at HB2 HK2 hHeld ⊢
        clear hX1
        try simp only [Act.put, List.getElem_toArray, List.getElem_cons_zero, List.getElem_cons_succ, List.setIfInBounds_toArray, List.set_cons_zero, List.set_cons_succ]
        refine wpAnyH_done (by kernel_rfl) ?_ _
        have HG1 : Hid (SB ArK b3 [.int .i64 D0, .int .i64 D1] X1 ∧ SB ArK b4 [.int .i64 I0, .int .i64 I1] X1 ∧ SB ArK b5 [.int .i64 H0, .int .i64 H1] X1 ∧ SB CgK rb c8z X1 ∧ Below w.heap.size w X1) := ⟨hHeld.1, hHeld.2, HX50.out.blk (HK2.out.block b5 HNE.out.2.2.1), HX60.out.blk (HK2.out.block rb HNE.out.2.2.2.1), HBX.out.trans (HK2.out.below HNE.out.2.2.2.2)⟩
        clear hHeld
        go_wp2_with fail
        exact ⟨⟨1, by omega, by simp, HG1.out.1, HG1.out.2.1, HG1.out.2.2.1, HG1.out.2.2.2.1, HG1.out.2.2.2.2, HB2.out⟩, by simp [intOf]⟩
      case neg =>
        have hli : ¬ (kh : Int) < 3 := by omega
        have HV : Hid ((if kh < 3 then 0 else (kh : Int)) = (kh : Int)) := by show _ = _; rw [if_neg hl]
        go_wp2_with fail
        clear hl hli
        refine wp_region_held_drew (S := fun W => SB ArK b3 [.int .i64 D0, .int .i64 D1] W ∧ SB ArK b4 [.int .i64 I0, .int .i64 I1] W) (by kernel_rfl) ⟨HX3.out, HX4.out⟩ (fun hHeld => ?_)
        obtain ⟨X0, hX0⟩ : ∃ x, wr.drew = x := ⟨_, rfl⟩
        have HB0 : Hid (SB CgK bc (cg D0 D1 I0 I1 H0 H1 0) X0) := by rw [← hX0]; exact HB.out
        have HBX : Hid (Below w.heap.size w X0) := by rw [← hX0]; exact HBE.out.trans ((drew_bel wr).mono HBE.out.size)
        have HX50 : Hid (SB ArK b5 [.int .i64 H0, .int .i64 H1] X0) := by rw [← hX0]; exact HX5.out
        have HX60 : Hid (SB CgK rb c8z X0) := by rw [← hX0]; exact HX6.out
        rw [hX0] at hHeld ⊢
        clear hX0
        refine wpAnyH_take (i := 0) (v := ?_) rfl (by kernel_rfl) (by kernel_rfl) (by kernel_rfl) (fun _ _ _ h => h) (Or.inl ⟨by rfl, ?_⟩) (by assumption) ?_
        case refine_2 => intro W hSw; go_simp; try rfl
        try simp only [Act.put, List.getElem_toArray, List.getElem_cons_zero, List.getElem_cons_succ, List.setIfInBounds_toArray, List.set_cons_zero, List.set_cons_succ]
        refine wpAnyH_take (i := 1) (v := ?_) rfl (by kernel_rfl) (by kernel_rfl) (by kernel_rfl) (fun _ _ _ h => h) (Or.inl ⟨by rfl, ?_⟩) (by assumption) ?_
        case refine_2 => intro W hSw; go_simp; try rfl
        try simp only [Act.put, List.getElem_toArray, List.getElem_cons_zero, List.getElem_cons_succ, List.setIfInBounds_toArray, List.set_cons_zero, List.set_cons_succ]
        refine wpAnyH_take (i := 2) (v := .pointer (some ⟨b3, 0, none⟩)) rfl (by kernel_rfl) (by kernel_rfl) (by kernel_rfl) (fun _ _ _ h => h) (Or.inl ⟨by rfl, ?_⟩) (by assumption) ?_
        case refine_1 => intro W hSw; go_simp; try rfl
        try simp only [Act.put, List.getElem_toArray, List.getElem_cons_zero, List.getElem_cons_succ, List.setIfInBounds_toArray, List.set_cons_zero, List.set_cons_succ]
        refine wpAnyH_take (i := 3) (v := .int .i64 D0) rfl (by kernel_rfl) (by kernel_rfl) (by kernel_rfl) (fun _ _ _ h => h) (Or.inl ⟨by rfl, ?_⟩) (by assumption) ?_
        case refine_1 => intro W hSw; have cc : W.cell? ⟨b3, 0, none⟩ = some (.int .i64 D0) := hSw.1.cell 0; go_simp; try rfl
        try simp only [Act.put, List.getElem_toArray, List.getElem_cons_zero, List.getElem_cons_succ, List.setIfInBounds_toArray, List.set_cons_zero, List.set_cons_succ]
        refine wpAnyH_take (i := 6) (v := ?_) rfl (by kernel_rfl) (by kernel_rfl) (by kernel_rfl) (fun _ _ _ h => h) (Or.inl ⟨by rfl, ?_⟩) (by assumption) ?_
        case refine_2 => intro W hSw; go_simp; try rfl
        try simp only [Act.put, List.getElem_toArray, List.getElem_cons_zero, List.getElem_cons_succ, List.setIfInBounds_toArray, List.set_cons_zero, List.set_cons_succ]
        refine wpAnyH_take (i := 7) (v := .pointer (some ⟨b4, 0, none⟩)) rfl (by kernel_rfl) (by kernel_rfl) (by kernel_rfl) (fun _ _ _ h => h) (Or.inl ⟨by rfl, ?_⟩) (by assumption) ?_
        case refine_1 => intro W hSw; go_simp; try rfl
        try simp only [Act.put, List.getElem_toArray, List.getElem_cons_zero, List.getElem_cons_succ, List.setIfInBounds_toArray, List.set_cons_zero, List.set_cons_succ]
        refine wpAnyH_take (i := 8) (v := .int .i64 I0) rfl (by kernel_rfl) (by kernel_rfl) (by kernel_rfl) (fun _ _ _ h => h) (Or.inl ⟨by rfl, ?_⟩) (by assumption) ?_
        case refine_1 => intro W hSw; have cc : W.cell? ⟨b4, 0, none⟩ = some (.int .i64 I0) := hSw.2.cell 0; go_simp; try rfl
        try simp only [Act.put, List.getElem_toArray, List.getElem_cons_zero, List.getElem_cons_succ, List.setIfInBounds_toArray, List.set_cons_zero, List.set_cons_succ]
        refine wpAnyH_take (i := 11) (v := ?_) rfl (by kernel_rfl) (by kernel_rfl) (by kernel_rfl) (fun _ _ _ h => h) (Or.inl ⟨by rfl, ?_⟩) (by assumption) ?_
        case refine_2 => intro W hSw; go_simp; try rfl
        try simp only [Act.put, List.getElem_toArray, List.getElem_cons_zero, List.getElem_cons_succ, List.setIfInBounds_toArray, List.set_cons_zero, List.set_cons_succ]
        refine wpAnyH_take (i := 12) (v := ?_) rfl (by kernel_rfl) (by kernel_rfl) (by kernel_rfl) (fun _ _ _ h => h) (Or.inl ⟨by rfl, ?_⟩) (by assumption) ?_
        case refine_2 => intro W hSw; go_simp; try rfl
        try simp only [Act.put, List.getElem_toArray, List.getElem_cons_zero, List.getElem_cons_succ, List.setIfInBounds_toArray, List.set_cons_zero, List.set_cons_succ]
        refine wpAnyH_take (i := 13) (v := .int .i64 1) rfl (by kernel_rfl) (by kernel_rfl) (by kernel_rfl) (fun _ _ _ h => h) (Or.inl ⟨by rfl, ?_⟩) (by assumption) ?_
        case refine_1 => intro W hSw; go_simp; try rfl
        try simp only [Act.put, List.getElem_toArray, List.getElem_cons_zero, List.getElem_cons_succ, List.setIfInBounds_toArray, List.set_cons_zero, List.set_cons_succ]
        refine wpAnyH_take (i := 14) (v := .pointer (some ⟨b3, 1, none⟩)) rfl (by kernel_rfl) (by kernel_rfl) (by kernel_rfl) (fun _ _ _ h => h) (Or.inl ⟨by rfl, ?_⟩) (by assumption) ?_
        case refine_1 => intro W hSw; go_simp; try rfl
        try simp only [Act.put, List.getElem_toArray, List.getElem_cons_zero, List.getElem_cons_succ, List.setIfInBounds_toArray, List.set_cons_zero, List.set_cons_succ]
        refine wpAnyH_take (i := 15) (v := .int .i64 D1) rfl (by kernel_rfl) (by kernel_rfl) (by kernel_rfl) (fun _ _ _ h => h) (Or.inl ⟨by rfl, ?_⟩) (by assumption) ?_
        case refine_1 => intro W hSw; have cc : W.cell? ⟨b3, 1, none⟩ = some (.int .i64 D1) := hSw.1.cell 1; go_simp; try rfl
        try simp only [Act.put, List.getElem_toArray, List.getElem_cons_zero, List.getElem_cons_succ, List.setIfInBounds_toArray, List.set_cons_zero, List.set_cons_succ]
        refine wpAnyH_ready (rs := [4]) (by kernel_rfl) (by simp) ?_
        refine AllReadyH.cons rfl (fun K hK => ?_) AllReadyH.nil
        go_simp
        refine (HMD.out X0).mono ?_
        rintro e w' ⟨rfl, hw'⟩
        rw [hw']
        clear hw' w'
        refine hK.out _ _ hHeld (fun hHeld => ?_)
        clear hK K
        try simp only [Act.put, List.getElem_toArray, List.getElem_cons_zero, List.getElem_cons_succ, List.setIfInBounds_toArray, List.set_cons_zero, List.set_cons_succ]
        refine wpAnyH_take (i := 5) (v := .int .i64 (1 + (kd : Int))) rfl (by kernel_rfl) (by kernel_rfl) (by kernel_rfl) (fun _ _ _ h => h) (Or.inl ⟨by rfl, ?_⟩) (by assumption) ?_
        case refine_1 => intro W hSw; go_simp; try simp only [hw_kd]
        try simp only [Act.put, List.getElem_toArray, List.getElem_cons_zero, List.getElem_cons_succ, List.setIfInBounds_toArray, List.set_cons_zero, List.set_cons_succ]
        refine wpAnyH_ready (rs := [9]) (by kernel_rfl) (by simp) ?_
        refine AllReadyH.cons rfl (fun K hK => ?_) AllReadyH.nil
        go_simp
        refine (HMI.out X0).mono ?_
        rintro e w' ⟨rfl, hw'⟩
        rw [hw']
        clear hw' w'
        refine hK.out _ _ hHeld (fun hHeld => ?_)
        clear hK K
        try simp only [Act.put, List.getElem_toArray, List.getElem_cons_zero, List.getElem_cons_succ, List.setIfInBounds_toArray, List.set_cons_zero, List.set_cons_succ]
        refine wpAnyH_take (i := 10) (v := .int .i64 (1 + (ki : Int))) rfl (by kernel_rfl) (by kernel_rfl) (by kernel_rfl) (fun _ _ _ h => h) (Or.inl ⟨by rfl, ?_⟩) (by assumption) ?_
        case refine_1 => intro W hSw; go_simp; try simp only [hw_ki]
        try simp only [Act.put, List.getElem_toArray, List.getElem_cons_zero, List.getElem_cons_succ, List.setIfInBounds_toArray, List.set_cons_zero, List.set_cons_succ]
        refine wpAnyH_ready (rs := [16]) (by kernel_rfl) (by simp) ?_
        refine AllReadyH.cons rfl (fun K hK => ?_) AllReadyH.nil
        go_simp
        refine (HMP.out X0).mono ?_
        rintro e w' ⟨rfl, hw'⟩
        rw [hw']
        clear hw' w'
        refine hK.out _ _ hHeld (fun hHeld => ?_)
        clear hK K
        try simp only [Act.put, List.getElem_toArray, List.getElem_cons_zero, List.getElem_cons_succ, List.setIfInBounds_toArray, List.set_cons_zero, List.set_cons_succ]
        refine wpAnyH_take (i := 17) (v := .int .i64 (1 + (kp : Int))) rfl (by kernel_rfl) (by kernel_rfl) (by kernel_rfl) (fun _ _ _ h => h) (Or.inl ⟨by rfl, ?_⟩) (by assumption) ?_
        case refine_1 => intro W hSw; go_simp; try simp only [hw_kp]
        try simp only [Act.put, List.getElem_toArray, List.getElem_cons_zero, List.getElem_cons_succ, List.setIfInBounds_toArray, List.set_cons_zero, List.set_cons_succ]
        refine wpAnyH_take (i := 18) (v := .agg #[.int .i64 (1 + (kd : Int)), .int .i64 (1 + (ki : Int)), .int .i64 (kh : Int), .int .i64 (1 + (kp : Int))]) rfl (by kernel_rfl) (by kernel_rfl) (by kernel_rfl) (fun _ _ _ h => h) (Or.inl ⟨by rfl, ?_⟩) (by assumption) ?_
        case refine_1 => intro W hSw; go_simp; try rfl
        try simp only [Act.put, List.getElem_toArray, List.getElem_cons_zero, List.getElem_cons_succ, List.setIfInBounds_toArray, List.set_cons_zero, List.set_cons_succ]
        refine wpAnyH_take (i := 19) (v := .pointer (some ⟨bc, 0, none⟩)) rfl (by kernel_rfl) (by kernel_rfl) (by kernel_rfl) (fun _ _ _ h => h) (Or.inl ⟨by rfl, ?_⟩) (by assumption) ?_
        case refine_1 => intro W hSw; go_simp; try rfl
        try simp only [Act.put, List.getElem_toArray, List.getElem_cons_zero, List.getElem_cons_succ, List.setIfInBounds_toArray, List.set_cons_zero, List.set_cons_succ]
        refine wpAnyH_ready (rs := [20]) (by kernel_rfl) (by simp) ?_
        refine AllReadyH.cons rfl (fun K hK => ?_) AllReadyH.nil
        refine step_runs rfl (sput_run CgK CfK (.tmp 38) (.tmp 37) rfl (b := bc) (off := 0) (cs := cg D0 D1 I0 I1 H0 H1 0) (vs := [.int .i64 (1 + (kd : Int)), .int .i64 (1 + (ki : Int)), .int .i64 (kh : Int), .int .i64 (1 + (kp : Int))]) rfl rfl HB0.out rfl (by show 0 + 4 ≤ 8; decide) rfl) ?_
        have HB2 : Hid (SB CgK bc (cg D0 D1 I0 I1 H0 H1 1) (X0.setCells bc 0 [.int .i64 (1 + (kd : Int)), .int .i64 (1 + (ki : Int)), .int .i64 (kh : Int), .int .i64 (1 + (kp : Int))])) := by
          show SB CgK bc (setL (cg D0 D1 I0 I1 H0 H1 0) 0 (cfL D0 D1 I0 I1 H0 H1 0)) _
          rw [HCF.out ((kh : Int)) HV.out]
          exact SB.cells _ 0 _ X0 HB0.out
        have HK2 : Hid (Ko X0 bc (X0.setCells bc 0 [.int .i64 (1 + (kd : Int)), .int .i64 (1 + (ki : Int)), .int .i64 (kh : Int), .int .i64 (1 + (kp : Int))])) := Ko.cellsL bc _ 0 X0
        refine hK.out _ _ ⟨hHeld.1.blk (HK2.out.block b3 HNE.out.1), hHeld.2.blk (HK2.out.block b4 HNE.out.2.1)⟩ (fun hHeld => ?_)
        clear hK K
        obtain ⟨X1, hX1⟩ : ∃ x, X0.setCells bc 0 [.int .i64 (1 + (kd : Int)), .int .i64 (1 + (ki : Int)), .int .i64 (kh : Int), .int .i64 (1 + (kp : Int))] = x := ⟨_, rfl⟩
        rw [hX1] at HB2 HK2 hHeld ⊢
        clear hX1
        try simp only [Act.put, List.getElem_toArray, List.getElem_cons_zero, List.getElem_cons_succ, List.setIfInBounds_toArray, List.set_cons_zero, List.set_cons_succ]
        refine wpAnyH_done (by kernel_rfl) ?_ _
        have HG1 : Hid (SB ArK b3 [.int .i64 D0, .int .i64 D1] X1 ∧ SB ArK b4 [.int .i64 I0, .int .i64 I1] X1 ∧ SB ArK b5 [.int .i64 H0, .int .i64 H1] X1 ∧ SB CgK rb c8z X1 ∧ Below w.heap.size w X1) := ⟨hHeld.1, hHeld.2, HX50.out.blk (HK2.out.block b5 HNE.out.2.2.1), HX60.out.blk (HK2.out.block rb HNE.out.2.2.2.1), HBX.out.trans (HK2.out.below HNE.out.2.2.2.2)⟩
        clear hHeld
        go_wp2_with fail
        exact ⟨⟨1, by omega, by simp, HG1.out.1, HG1.out.2.1, HG1.out.2.2.1, HG1.out.2.2.2.1, HG1.out.2.2.2.2, HB2.out⟩, by simp [intOf]⟩
    | 1, hq, HI =>
      have HB : Hid (SB CgK bc (cg D0 D1 I0 I1 H0 H1 1) wr) := HI.out
      have dh : wr.cell? ⟨b5, 1, none⟩ = some (.int .i64 H1) := HX5.out.cell 1
      obtain ⟨kh, hkh⟩ : ∃ y, md H1 60 = y := ⟨_, rfl⟩
      obtain ⟨kd, hkd⟩ : ∃ y, md D1 1000 = y := ⟨_, rfl⟩
      obtain ⟨ki, hki⟩ : ∃ y, md I1 1000 = y := ⟨_, rfl⟩
      obtain ⟨kp, hkp⟩ : ∃ y, md D0 1000 = y := ⟨_, rfl⟩
      have HMH : Hid (∀ W, Calls Try.prog 8 #[.int .i64 H1, .int .i64 60] W fun e w' => e = .returned (.int .i64 (kh : Int)) ∧ w' = W) := fun W => mod_any H1 HRH1.out 60 (by omega) (by omega) kh hkh W
      have HMD : Hid (∀ W, Calls Try.prog 8 #[.int .i64 D1, .int .i64 1000] W fun e w' => e = .returned (.int .i64 (kd : Int)) ∧ w' = W) := fun W => mod_any D1 HRD1.out 1000 (by omega) (by omega) kd hkd W
      have HMI : Hid (∀ W, Calls Try.prog 8 #[.int .i64 I1, .int .i64 1000] W fun e w' => e = .returned (.int .i64 (ki : Int)) ∧ w' = W) := fun W => mod_any I1 HRI1.out 1000 (by omega) (by omega) ki hki W
      have HMP : Hid (∀ W, Calls Try.prog 8 #[.int .i64 D0, .int .i64 1000] W fun e w' => e = .returned (.int .i64 (kp : Int)) ∧ w' = W) := fun W => mod_any D0 HRD0.out 1000 (by omega) (by omega) kp hkp W
      have lh : kh < 60 := by rw [← hkh]; exact md_lt (by omega)
      have ld : kd < 1000 := by rw [← hkd]; exact md_lt (by omega)
      have li : ki < 1000 := by rw [← hki]; exact md_lt (by omega)
      have lp : kp < 1000 := by rw [← hkp]; exact md_lt (by omega)
      have hw_kd : IntKind.i64.wrap (1 + (kd : Int)) = 1 + (kd : Int) := IntWalk.i64_in _ (by omega)
      have hw_ki : IntKind.i64.wrap (1 + (ki : Int)) = 1 + (ki : Int) := IntWalk.i64_in _ (by omega)
      have hw_kp : IntKind.i64.wrap (1 + (kp : Int)) = 1 + (kp : Int) := IntWalk.i64_in _ (by omega)
      have HCF : Hid (∀ hv : Int, (if kh < 3 then 0 else (kh : Int)) = hv → cfL D0 D1 I0 I1 H0 H1 1 = [.int .i64 (1 + (kd : Int)), .int .i64 (1 + (ki : Int)), .int .i64 hv, .int .i64 (1 + (kp : Int))]) := fun hv e => by rw [← e, ← hkh, ← hkd, ← hki, ← hkp]; rfl
      clear hkh hkd hki hkp
      go_wp2_with fail
      refine (HMH.out wr).mono ?_
      rintro e w' ⟨rfl, hw'⟩
      rw [hw']
      clear hw' w'
      by_cases hl : kh < 3
      case pos =>
        have hli : (kh : Int) < 3 := by omega
        have HV : Hid ((if kh < 3 then 0 else (kh : Int)) = 0) := by show _ = _; rw [if_pos hl]
        go_wp2_with fail
        clear hl hli
        refine wp_region_held_drew (S := fun W => SB ArK b3 [.int .i64 D0, .int .i64 D1] W ∧ SB ArK b4 [.int .i64 I0, .int .i64 I1] W) (by kernel_rfl) ⟨HX3.out, HX4.out⟩ (fun hHeld => ?_)
        obtain ⟨X0, hX0⟩ : ∃ x, wr.drew = x := ⟨_, rfl⟩
        have HB0 : Hid (SB CgK bc (cg D0 D1 I0 I1 H0 H1 1) X0) := by rw [← hX0]; exact HB.out
        have HBX : Hid (Below w.heap.size w X0) := by rw [← hX0]; exact HBE.out.trans ((drew_bel wr).mono HBE.out.size)
        have HX50 : Hid (SB ArK b5 [.int .i64 H0, .int .i64 H1] X0) := by rw [← hX0]; exact HX5.out
        have HX60 : Hid (SB CgK rb c8z X0) := by rw [← hX0]; exact HX6.out
        rw [hX0] at hHeld ⊢
        clear hX0
        refine wpAnyH_take (i := 0) (v := ?_) rfl (by kernel_rfl) (by kernel_rfl) (by kernel_rfl) (fun _ _ _ h => h) (Or.inl ⟨by rfl, ?_⟩) (by assumption) ?_
        case refine_2 => intro W hSw; go_simp; try rfl
        try simp only [Act.put, List.getElem_toArray, List.getElem_cons_zero, List.getElem_cons_succ, List.setIfInBounds_toArray, List.set_cons_zero, List.set_cons_succ]
        refine wpAnyH_take (i := 1) (v := ?_) rfl (by kernel_rfl) (by kernel_rfl) (by kernel_rfl) (fun _ _ _ h => h) (Or.inl ⟨by rfl, ?_⟩) (by assumption) ?_
        case refine_2 => intro W hSw; go_simp; try rfl
        try simp only [Act.put, List.getElem_toArray, List.getElem_cons_zero, List.getElem_cons_succ, List.setIfInBounds_toArray, List.set_cons_zero, List.set_cons_succ]
        refine wpAnyH_take (i := 2) (v := .pointer (some ⟨b3, 1, none⟩)) rfl (by kernel_rfl) (by kernel_rfl) (by kernel_rfl) (fun _ _ _ h => h) (Or.inl ⟨by rfl, ?_⟩) (by assumption) ?_
        case refine_1 => intro W hSw; go_simp; try rfl
        try simp only [Act.put, List.getElem_toArray, List.getElem_cons_zero, List.getElem_cons_succ, List.setIfInBounds_toArray, List.set_cons_zero, List.set_cons_succ]
        refine wpAnyH_take (i := 3) (v := .int .i64 D1) rfl (by kernel_rfl) (by kernel_rfl) (by kernel_rfl) (fun _ _ _ h => h) (Or.inl ⟨by rfl, ?_⟩) (by assumption) ?_
        case refine_1 => intro W hSw; have cc : W.cell? ⟨b3, 1, none⟩ = some (.int .i64 D1) := hSw.1.cell 1; go_simp; try rfl
        try simp only [Act.put, List.getElem_toArray, List.getElem_cons_zero, List.getElem_cons_succ, List.setIfInBounds_toArray, List.set_cons_zero, List.set_cons_succ]
        refine wpAnyH_take (i := 6) (v := ?_) rfl (by kernel_rfl) (by kernel_rfl) (by kernel_rfl) (fun _ _ _ h => h) (Or.inl ⟨by rfl, ?_⟩) (by assumption) ?_
        case refine_2 => intro W hSw; go_simp; try rfl
        try simp only [Act.put, List.getElem_toArray, List.getElem_cons_zero, List.getElem_cons_succ, List.setIfInBounds_toArray, List.set_cons_zero, List.set_cons_succ]
        refine wpAnyH_take (i := 7) (v := .pointer (some ⟨b4, 1, none⟩)) rfl (by kernel_rfl) (by kernel_rfl) (by kernel_rfl) (fun _ _ _ h => h) (Or.inl ⟨by rfl, ?_⟩) (by assumption) ?_
        case refine_1 => intro W hSw; go_simp; try rfl
        try simp only [Act.put, List.getElem_toArray, List.getElem_cons_zero, List.getElem_cons_succ, List.setIfInBounds_toArray, List.set_cons_zero, List.set_cons_succ]
        refine wpAnyH_take (i := 8) (v := .int .i64 I1) rfl (by kernel_rfl) (by kernel_rfl) (by kernel_rfl) (fun _ _ _ h => h) (Or.inl ⟨by rfl, ?_⟩) (by assumption) ?_
        case refine_1 => intro W hSw; have cc : W.cell? ⟨b4, 1, none⟩ = some (.int .i64 I1) := hSw.2.cell 1; go_simp; try rfl
        try simp only [Act.put, List.getElem_toArray, List.getElem_cons_zero, List.getElem_cons_succ, List.setIfInBounds_toArray, List.set_cons_zero, List.set_cons_succ]
        refine wpAnyH_take (i := 11) (v := ?_) rfl (by kernel_rfl) (by kernel_rfl) (by kernel_rfl) (fun _ _ _ h => h) (Or.inl ⟨by rfl, ?_⟩) (by assumption) ?_
        case refine_2 => intro W hSw; go_simp; try rfl
        try simp only [Act.put, List.getElem_toArray, List.getElem_cons_zero, List.getElem_cons_succ, List.setIfInBounds_toArray, List.set_cons_zero, List.set_cons_succ]
        refine wpAnyH_take (i := 12) (v := ?_) rfl (by kernel_rfl) (by kernel_rfl) (by kernel_rfl) (fun _ _ _ h => h) (Or.inl ⟨by rfl, ?_⟩) (by assumption) ?_
        case refine_2 => intro W hSw; go_simp; try rfl
        try simp only [Act.put, List.getElem_toArray, List.getElem_cons_zero, List.getElem_cons_succ, List.setIfInBounds_toArray, List.set_cons_zero, List.set_cons_succ]
        refine wpAnyH_take (i := 13) (v := .int .i64 0) rfl (by kernel_rfl) (by kernel_rfl) (by kernel_rfl) (fun _ _ _ h => h) (Or.inl ⟨by rfl, ?_⟩) (by assumption) ?_
        case refine_1 => intro W hSw; go_simp; try rfl
        try simp only [Act.put, List.getElem_toArray, List.getElem_cons_zero, List.getElem_cons_succ, List.setIfInBounds_toArray, List.set_cons_zero, List.set_cons_succ]
        refine wpAnyH_take (i := 14) (v := .pointer (some ⟨b3, 0, none⟩)) rfl (by kernel_rfl) (by kernel_rfl) (by kernel_rfl) (fun _ _ _ h => h) (Or.inl ⟨by rfl, ?_⟩) (by assumption) ?_
        case refine_1 => intro W hSw; go_simp; try rfl
        try simp only [Act.put, List.getElem_toArray, List.getElem_cons_zero, List.getElem_cons_succ, List.setIfInBounds_toArray, List.set_cons_zero, List.set_cons_succ]
        refine wpAnyH_take (i := 15) (v := .int .i64 D0) rfl (by kernel_rfl) (by kernel_rfl) (by kernel_rfl) (fun _ _ _ h => h) (Or.inl ⟨by rfl, ?_⟩) (by assumption) ?_
        case refine_1 => intro W hSw; have cc : W.cell? ⟨b3, 0, none⟩ = some (.int .i64 D0) := hSw.1.cell 0; go_simp; try rfl
        try simp only [Act.put, List.getElem_toArray, List.getElem_cons_zero, List.getElem_cons_succ, List.setIfInBounds_toArray, List.set_cons_zero, List.set_cons_succ]
        refine wpAnyH_ready (rs := [4]) (by kernel_rfl) (by simp) ?_
        refine AllReadyH.cons rfl (fun K hK => ?_) AllReadyH.nil
        go_simp
        refine (HMD.out X0).mono ?_
        rintro e w' ⟨rfl, hw'⟩
        rw [hw']
        clear hw' w'
        refine hK.out _ _ hHeld (fun hHeld => ?_)
        clear hK K
        try simp only [Act.put, List.getElem_toArray, List.getElem_cons_zero, List.getElem_cons_succ, List.setIfInBounds_toArray, List.set_cons_zero, List.set_cons_succ]
        refine wpAnyH_take (i := 5) (v := .int .i64 (1 + (kd : Int))) rfl (by kernel_rfl) (by kernel_rfl) (by kernel_rfl) (fun _ _ _ h => h) (Or.inl ⟨by rfl, ?_⟩) (by assumption) ?_
        case refine_1 => intro W hSw; go_simp; try simp only [hw_kd]
        try simp only [Act.put, List.getElem_toArray, List.getElem_cons_zero, List.getElem_cons_succ, List.setIfInBounds_toArray, List.set_cons_zero, List.set_cons_succ]
        refine wpAnyH_ready (rs := [9]) (by kernel_rfl) (by simp) ?_
        refine AllReadyH.cons rfl (fun K hK => ?_) AllReadyH.nil
        go_simp
        refine (HMI.out X0).mono ?_
        rintro e w' ⟨rfl, hw'⟩
        rw [hw']
        clear hw' w'
        refine hK.out _ _ hHeld (fun hHeld => ?_)
        clear hK K
        try simp only [Act.put, List.getElem_toArray, List.getElem_cons_zero, List.getElem_cons_succ, List.setIfInBounds_toArray, List.set_cons_zero, List.set_cons_succ]
        refine wpAnyH_take (i := 10) (v := .int .i64 (1 + (ki : Int))) rfl (by kernel_rfl) (by kernel_rfl) (by kernel_rfl) (fun _ _ _ h => h) (Or.inl ⟨by rfl, ?_⟩) (by assumption) ?_
        case refine_1 => intro W hSw; go_simp; try simp only [hw_ki]
        try simp only [Act.put, List.getElem_toArray, List.getElem_cons_zero, List.getElem_cons_succ, List.setIfInBounds_toArray, List.set_cons_zero, List.set_cons_succ]
        refine wpAnyH_ready (rs := [16]) (by kernel_rfl) (by simp) ?_
        refine AllReadyH.cons rfl (fun K hK => ?_) AllReadyH.nil
        go_simp
        refine (HMP.out X0).mono ?_
        rintro e w' ⟨rfl, hw'⟩
        rw [hw']
        clear hw' w'
        refine hK.out _ _ hHeld (fun hHeld => ?_)
        clear hK K
        try simp only [Act.put, List.getElem_toArray, List.getElem_cons_zero, List.getElem_cons_succ, List.setIfInBounds_toArray, List.set_cons_zero, List.set_cons_succ]
        refine wpAnyH_take (i := 17) (v := .int .i64 (1 + (kp : Int))) rfl (by kernel_rfl) (by kernel_rfl) (by kernel_rfl) (fun _ _ _ h => h) (Or.inl ⟨by rfl, ?_⟩) (by assumption) ?_
        case refine_1 => intro W hSw; go_simp; try simp only [hw_kp]
        try simp only [Act.put, List.getElem_toArray, List.getElem_cons_zero, List.getElem_cons_succ, List.setIfInBounds_toArray, List.set_cons_zero, List.set_cons_succ]
        refine wpAnyH_take (i := 18) (v := .agg #[.int .i64 (1 + (kd : Int)), .int .i64 (1 + (ki : Int)), .int .i64 0, .int .i64 (1 + (kp : Int))]) rfl (by kernel_rfl) (by kernel_rfl) (by kernel_rfl) (fun _ _ _ h => h) (Or.inl ⟨by rfl, ?_⟩) (by assumption) ?_
        case refine_1 => intro W hSw; go_simp; try rfl
        try simp only [Act.put, List.getElem_toArray, List.getElem_cons_zero, List.getElem_cons_succ, List.setIfInBounds_toArray, List.set_cons_zero, List.set_cons_succ]
        refine wpAnyH_take (i := 19) (v := .pointer (some ⟨bc, 4, none⟩)) rfl (by kernel_rfl) (by kernel_rfl) (by kernel_rfl) (fun _ _ _ h => h) (Or.inl ⟨by rfl, ?_⟩) (by assumption) ?_
        case refine_1 => intro W hSw; go_simp; try rfl
        try simp only [Act.put, List.getElem_toArray, List.getElem_cons_zero, List.getElem_cons_succ, List.setIfInBounds_toArray, List.set_cons_zero, List.set_cons_succ]
        refine wpAnyH_ready (rs := [20]) (by kernel_rfl) (by simp) ?_
        refine AllReadyH.cons rfl (fun K hK => ?_) AllReadyH.nil
        refine step_runs rfl (sput_run CgK CfK (.tmp 38) (.tmp 37) rfl (b := bc) (off := 4) (cs := cg D0 D1 I0 I1 H0 H1 1) (vs := [.int .i64 (1 + (kd : Int)), .int .i64 (1 + (ki : Int)), .int .i64 0, .int .i64 (1 + (kp : Int))]) rfl rfl HB0.out rfl (by show 4 + 4 ≤ 8; decide) rfl) ?_
        have HB2 : Hid (SB CgK bc (cg D0 D1 I0 I1 H0 H1 2) (X0.setCells bc 4 [.int .i64 (1 + (kd : Int)), .int .i64 (1 + (ki : Int)), .int .i64 0, .int .i64 (1 + (kp : Int))])) := by
          show SB CgK bc (setL (cg D0 D1 I0 I1 H0 H1 1) 4 (cfL D0 D1 I0 I1 H0 H1 1)) _
          rw [HCF.out (0) HV.out]
          exact SB.cells _ 4 _ X0 HB0.out
        have HK2 : Hid (Ko X0 bc (X0.setCells bc 4 [.int .i64 (1 + (kd : Int)), .int .i64 (1 + (ki : Int)), .int .i64 0, .int .i64 (1 + (kp : Int))])) := Ko.cellsL bc _ 4 X0
        refine hK.out _ _ ⟨hHeld.1.blk (HK2.out.block b3 HNE.out.1), hHeld.2.blk (HK2.out.block b4 HNE.out.2.1)⟩ (fun hHeld => ?_)
        clear hK K
        obtain ⟨X1, hX1⟩ : ∃ x, X0.setCells bc 4 [.int .i64 (1 + (kd : Int)), .int .i64 (1 + (ki : Int)), .int .i64 0, .int .i64 (1 + (kp : Int))] = x := ⟨_, rfl⟩
        rw [hX1] at HB2 HK2 hHeld ⊢
        clear hX1
        try simp only [Act.put, List.getElem_toArray, List.getElem_cons_zero, List.getElem_cons_succ, List.setIfInBounds_toArray, List.set_cons_zero, List.set_cons_succ]
        refine wpAnyH_done (by kernel_rfl) ?_ _
        have HG1 : Hid (SB ArK b3 [.int .i64 D0, .int .i64 D1] X1 ∧ SB ArK b4 [.int .i64 I0, .int .i64 I1] X1 ∧ SB ArK b5 [.int .i64 H0, .int .i64 H1] X1 ∧ SB CgK rb c8z X1 ∧ Below w.heap.size w X1) := ⟨hHeld.1, hHeld.2, HX50.out.blk (HK2.out.block b5 HNE.out.2.2.1), HX60.out.blk (HK2.out.block rb HNE.out.2.2.2.1), HBX.out.trans (HK2.out.below HNE.out.2.2.2.2)⟩
        clear hHeld
        go_wp2_with fail
        exact ⟨⟨2, by omega, by simp, HG1.out.1, HG1.out.2.1, HG1.out.2.2.1, HG1.out.2.2.2.1, HG1.out.2.2.2.2, HB2.out⟩, by simp [intOf]⟩
      case neg =>
        have hli : ¬ (kh : Int) < 3 := by omega
        have HV : Hid ((if kh < 3 then 0 else (kh : Int)) = (kh : Int)) := by show _ = _; rw [if_neg hl]
        go_wp2_with fail
        clear hl hli
        refine wp_region_held_drew (S := fun W => SB ArK b3 [.int .i64 D0, .int .i64 D1] W ∧ SB ArK b4 [.int .i64 I0, .int .i64 I1] W) (by kernel_rfl) ⟨HX3.out, HX4.out⟩ (fun hHeld => ?_)
        obtain ⟨X0, hX0⟩ : ∃ x, wr.drew = x := ⟨_, rfl⟩
        have HB0 : Hid (SB CgK bc (cg D0 D1 I0 I1 H0 H1 1) X0) := by rw [← hX0]; exact HB.out
        have HBX : Hid (Below w.heap.size w X0) := by rw [← hX0]; exact HBE.out.trans ((drew_bel wr).mono HBE.out.size)
        have HX50 : Hid (SB ArK b5 [.int .i64 H0, .int .i64 H1] X0) := by rw [← hX0]; exact HX5.out
        have HX60 : Hid (SB CgK rb c8z X0) := by rw [← hX0]; exact HX6.out
        rw [hX0] at hHeld ⊢
        clear hX0
        refine wpAnyH_take (i := 0) (v := ?_) rfl (by kernel_rfl) (by kernel_rfl) (by kernel_rfl) (fun _ _ _ h => h) (Or.inl ⟨by rfl, ?_⟩) (by assumption) ?_
        case refine_2 => intro W hSw; go_simp; try rfl
        try simp only [Act.put, List.getElem_toArray, List.getElem_cons_zero, List.getElem_cons_succ, List.setIfInBounds_toArray, List.set_cons_zero, List.set_cons_succ]
        refine wpAnyH_take (i := 1) (v := ?_) rfl (by kernel_rfl) (by kernel_rfl) (by kernel_rfl) (fun _ _ _ h => h) (Or.inl ⟨by rfl, ?_⟩) (by assumption) ?_
        case refine_2 => intro W hSw; go_simp; try rfl
        try simp only [Act.put, List.getElem_toArray, List.getElem_cons_zero, List.getElem_cons_succ, List.setIfInBounds_toArray, List.set_cons_zero, List.set_cons_succ]
        refine wpAnyH_take (i := 2) (v := .pointer (some ⟨b3, 1, none⟩)) rfl (by kernel_rfl) (by kernel_rfl) (by kernel_rfl) (fun _ _ _ h => h) (Or.inl ⟨by rfl, ?_⟩) (by assumption) ?_
        case refine_1 => intro W hSw; go_simp; try rfl
        try simp only [Act.put, List.getElem_toArray, List.getElem_cons_zero, List.getElem_cons_succ, List.setIfInBounds_toArray, List.set_cons_zero, List.set_cons_succ]
        refine wpAnyH_take (i := 3) (v := .int .i64 D1) rfl (by kernel_rfl) (by kernel_rfl) (by kernel_rfl) (fun _ _ _ h => h) (Or.inl ⟨by rfl, ?_⟩) (by assumption) ?_
        case refine_1 => intro W hSw; have cc : W.cell? ⟨b3, 1, none⟩ = some (.int .i64 D1) := hSw.1.cell 1; go_simp; try rfl
        try simp only [Act.put, List.getElem_toArray, List.getElem_cons_zero, List.getElem_cons_succ, List.setIfInBounds_toArray, List.set_cons_zero, List.set_cons_succ]
        refine wpAnyH_take (i := 6) (v := ?_) rfl (by kernel_rfl) (by kernel_rfl) (by kernel_rfl) (fun _ _ _ h => h) (Or.inl ⟨by rfl, ?_⟩) (by assumption) ?_
        case refine_2 => intro W hSw; go_simp; try rfl
        try simp only [Act.put, List.getElem_toArray, List.getElem_cons_zero, List.getElem_cons_succ, List.setIfInBounds_toArray, List.set_cons_zero, List.set_cons_succ]
        refine wpAnyH_take (i := 7) (v := .pointer (some ⟨b4, 1, none⟩)) rfl (by kernel_rfl) (by kernel_rfl) (by kernel_rfl) (fun _ _ _ h => h) (Or.inl ⟨by rfl, ?_⟩) (by assumption) ?_
        case refine_1 => intro W hSw; go_simp; try rfl
        try simp only [Act.put, List.getElem_toArray, List.getElem_cons_zero, List.getElem_cons_succ, List.setIfInBounds_toArray, List.set_cons_zero, List.set_cons_succ]
        refine wpAnyH_take (i := 8) (v := .int .i64 I1) rfl (by kernel_rfl) (by kernel_rfl) (by kernel_rfl) (fun _ _ _ h => h) (Or.inl ⟨by rfl, ?_⟩) (by assumption) ?_
        case refine_1 => intro W hSw; have cc : W.cell? ⟨b4, 1, none⟩ = some (.int .i64 I1) := hSw.2.cell 1; go_simp; try rfl
        try simp only [Act.put, List.getElem_toArray, List.getElem_cons_zero, List.getElem_cons_succ, List.setIfInBounds_toArray, List.set_cons_zero, List.set_cons_succ]
        refine wpAnyH_take (i := 11) (v := ?_) rfl (by kernel_rfl) (by kernel_rfl) (by kernel_rfl) (fun _ _ _ h => h) (Or.inl ⟨by rfl, ?_⟩) (by assumption) ?_
        case refine_2 => intro W hSw; go_simp; try rfl
        try simp only [Act.put, List.getElem_toArray, List.getElem_cons_zero, List.getElem_cons_succ, List.setIfInBounds_toArray, List.set_cons_zero, List.set_cons_succ]
        refine wpAnyH_take (i := 12) (v := ?_) rfl (by kernel_rfl) (by kernel_rfl) (by kernel_rfl) (fun _ _ _ h => h) (Or.inl ⟨by rfl, ?_⟩) (by assumption) ?_
        case refine_2 => intro W hSw; go_simp; try rfl
        try simp only [Act.put, List.getElem_toArray, List.getElem_cons_zero, List.getElem_cons_succ, List.setIfInBounds_toArray, List.set_cons_zero, List.set_cons_succ]
        refine wpAnyH_take (i := 13) (v := .int .i64 0) rfl (by kernel_rfl) (by kernel_rfl) (by kernel_rfl) (fun _ _ _ h => h) (Or.inl ⟨by rfl, ?_⟩) (by assumption) ?_
        case refine_1 => intro W hSw; go_simp; try rfl
        try simp only [Act.put, List.getElem_toArray, List.getElem_cons_zero, List.getElem_cons_succ, List.setIfInBounds_toArray, List.set_cons_zero, List.set_cons_succ]
        refine wpAnyH_take (i := 14) (v := .pointer (some ⟨b3, 0, none⟩)) rfl (by kernel_rfl) (by kernel_rfl) (by kernel_rfl) (fun _ _ _ h => h) (Or.inl ⟨by rfl, ?_⟩) (by assumption) ?_
        case refine_1 => intro W hSw; go_simp; try rfl
        try simp only [Act.put, List.getElem_toArray, List.getElem_cons_zero, List.getElem_cons_succ, List.setIfInBounds_toArray, List.set_cons_zero, List.set_cons_succ]
        refine wpAnyH_take (i := 15) (v := .int .i64 D0) rfl (by kernel_rfl) (by kernel_rfl) (by kernel_rfl) (fun _ _ _ h => h) (Or.inl ⟨by rfl, ?_⟩) (by assumption) ?_
        case refine_1 => intro W hSw; have cc : W.cell? ⟨b3, 0, none⟩ = some (.int .i64 D0) := hSw.1.cell 0; go_simp; try rfl
        try simp only [Act.put, List.getElem_toArray, List.getElem_cons_zero, List.getElem_cons_succ, List.setIfInBounds_toArray, List.set_cons_zero, List.set_cons_succ]
        refine wpAnyH_ready (rs := [4]) (by kernel_rfl) (by simp) ?_
        refine AllReadyH.cons rfl (fun K hK => ?_) AllReadyH.nil
        go_simp
        refine (HMD.out X0).mono ?_
        rintro e w' ⟨rfl, hw'⟩
        rw [hw']
        clear hw' w'
        refine hK.out _ _ hHeld (fun hHeld => ?_)
        clear hK K
        try simp only [Act.put, List.getElem_toArray, List.getElem_cons_zero, List.getElem_cons_succ, List.setIfInBounds_toArray, List.set_cons_zero, List.set_cons_succ]
        refine wpAnyH_take (i := 5) (v := .int .i64 (1 + (kd : Int))) rfl (by kernel_rfl) (by kernel_rfl) (by kernel_rfl) (fun _ _ _ h => h) (Or.inl ⟨by rfl, ?_⟩) (by assumption) ?_
        case refine_1 => intro W hSw; go_simp; try simp only [hw_kd]
        try simp only [Act.put, List.getElem_toArray, List.getElem_cons_zero, List.getElem_cons_succ, List.setIfInBounds_toArray, List.set_cons_zero, List.set_cons_succ]
        refine wpAnyH_ready (rs := [9]) (by kernel_rfl) (by simp) ?_
        refine AllReadyH.cons rfl (fun K hK => ?_) AllReadyH.nil
        go_simp
        refine (HMI.out X0).mono ?_
        rintro e w' ⟨rfl, hw'⟩
        rw [hw']
        clear hw' w'
        refine hK.out _ _ hHeld (fun hHeld => ?_)
        clear hK K
        try simp only [Act.put, List.getElem_toArray, List.getElem_cons_zero, List.getElem_cons_succ, List.setIfInBounds_toArray, List.set_cons_zero, List.set_cons_succ]
        refine wpAnyH_take (i := 10) (v := .int .i64 (1 + (ki : Int))) rfl (by kernel_rfl) (by kernel_rfl) (by kernel_rfl) (fun _ _ _ h => h) (Or.inl ⟨by rfl, ?_⟩) (by assumption) ?_
        case refine_1 => intro W hSw; go_simp; try simp only [hw_ki]
        try simp only [Act.put, List.getElem_toArray, List.getElem_cons_zero, List.getElem_cons_succ, List.setIfInBounds_toArray, List.set_cons_zero, List.set_cons_succ]
        refine wpAnyH_ready (rs := [16]) (by kernel_rfl) (by simp) ?_
        refine AllReadyH.cons rfl (fun K hK => ?_) AllReadyH.nil
        go_simp
        refine (HMP.out X0).mono ?_
        rintro e w' ⟨rfl, hw'⟩
        rw [hw']
        clear hw' w'
        refine hK.out _ _ hHeld (fun hHeld => ?_)
        clear hK K
        try simp only [Act.put, List.getElem_toArray, List.getElem_cons_zero, List.getElem_cons_succ, List.setIfInBounds_toArray, List.set_cons_zero, List.set_cons_succ]
        refine wpAnyH_take (i := 17) (v := .int .i64 (1 + (kp : Int))) rfl (by kernel_rfl) (by kernel_rfl) (by kernel_rfl) (fun _ _ _ h => h) (Or.inl ⟨by rfl, ?_⟩) (by assumption) ?_
        case refine_1 => intro W hSw; go_simp; try simp only [hw_kp]
        try simp only [Act.put, List.getElem_toArray, List.getElem_cons_zero, List.getElem_cons_succ, List.setIfInBounds_toArray, List.set_cons_zero, List.set_cons_succ]
        refine wpAnyH_take (i := 18) (v := .agg #[.int .i64 (1 + (kd : Int)), .int .i64 (1 + (ki : Int)), .int .i64 (kh : Int), .int .i64 (1 + (kp : Int))]) rfl (by kernel_rfl) (by kernel_rfl) (by kernel_rfl) (fun _ _ _ h => h) (Or.inl ⟨by rfl, ?_⟩) (by assumption) ?_
        case refine_1 => intro W hSw; go_simp; try rfl
        try simp only [Act.put, List.getElem_toArray, List.getElem_cons_zero, List.getElem_cons_succ, List.setIfInBounds_toArray, List.set_cons_zero, List.set_cons_succ]
        refine wpAnyH_take (i := 19) (v := .pointer (some ⟨bc, 4, none⟩)) rfl (by kernel_rfl) (by kernel_rfl) (by kernel_rfl) (fun _ _ _ h => h) (Or.inl ⟨by rfl, ?_⟩) (by assumption) ?_
        case refine_1 => intro W hSw; go_simp; try rfl
        try simp only [Act.put, List.getElem_toArray, List.getElem_cons_zero, List.getElem_cons_succ, List.setIfInBounds_toArray, List.set_cons_zero, List.set_cons_succ]
        refine wpAnyH_ready (rs := [20]) (by kernel_rfl) (by simp) ?_
        refine AllReadyH.cons rfl (fun K hK => ?_) AllReadyH.nil
        refine step_runs rfl (sput_run CgK CfK (.tmp 38) (.tmp 37) rfl (b := bc) (off := 4) (cs := cg D0 D1 I0 I1 H0 H1 1) (vs := [.int .i64 (1 + (kd : Int)), .int .i64 (1 + (ki : Int)), .int .i64 (kh : Int), .int .i64 (1 + (kp : Int))]) rfl rfl HB0.out rfl (by show 4 + 4 ≤ 8; decide) rfl) ?_
        have HB2 : Hid (SB CgK bc (cg D0 D1 I0 I1 H0 H1 2) (X0.setCells bc 4 [.int .i64 (1 + (kd : Int)), .int .i64 (1 + (ki : Int)), .int .i64 (kh : Int), .int .i64 (1 + (kp : Int))])) := by
          show SB CgK bc (setL (cg D0 D1 I0 I1 H0 H1 1) 4 (cfL D0 D1 I0 I1 H0 H1 1)) _
          rw [HCF.out ((kh : Int)) HV.out]
          exact SB.cells _ 4 _ X0 HB0.out
        have HK2 : Hid (Ko X0 bc (X0.setCells bc 4 [.int .i64 (1 + (kd : Int)), .int .i64 (1 + (ki : Int)), .int .i64 (kh : Int), .int .i64 (1 + (kp : Int))])) := Ko.cellsL bc _ 4 X0
        refine hK.out _ _ ⟨hHeld.1.blk (HK2.out.block b3 HNE.out.1), hHeld.2.blk (HK2.out.block b4 HNE.out.2.1)⟩ (fun hHeld => ?_)
        clear hK K
        obtain ⟨X1, hX1⟩ : ∃ x, X0.setCells bc 4 [.int .i64 (1 + (kd : Int)), .int .i64 (1 + (ki : Int)), .int .i64 (kh : Int), .int .i64 (1 + (kp : Int))] = x := ⟨_, rfl⟩
        rw [hX1] at HB2 HK2 hHeld ⊢
        clear hX1
        try simp only [Act.put, List.getElem_toArray, List.getElem_cons_zero, List.getElem_cons_succ, List.setIfInBounds_toArray, List.set_cons_zero, List.set_cons_succ]
        refine wpAnyH_done (by kernel_rfl) ?_ _
        have HG1 : Hid (SB ArK b3 [.int .i64 D0, .int .i64 D1] X1 ∧ SB ArK b4 [.int .i64 I0, .int .i64 I1] X1 ∧ SB ArK b5 [.int .i64 H0, .int .i64 H1] X1 ∧ SB CgK rb c8z X1 ∧ Below w.heap.size w X1) := ⟨hHeld.1, hHeld.2, HX50.out.blk (HK2.out.block b5 HNE.out.2.2.1), HX60.out.blk (HK2.out.block rb HNE.out.2.2.2.1), HBX.out.trans (HK2.out.below HNE.out.2.2.2.2)⟩
        clear hHeld
        go_wp2_with fail
        exact ⟨⟨2, by omega, by simp, HG1.out.1, HG1.out.2.1, HG1.out.2.2.1, HG1.out.2.2.2.1, HG1.out.2.2.2.2, HB2.out⟩, by simp [intOf]⟩
    | 2, hq, HI =>
      obtain ⟨i0, hi0⟩ : ∃ y, md I0 1000 = y := ⟨_, rfl⟩
      obtain ⟨i1, hi1⟩ : ∃ y, md I1 1000 = y := ⟨_, rfl⟩
      have li : i1 < 1000 := by rw [← hi1]; exact md_lt (by omega)
      have HB : Hid (SB CgK bc (cg D0 D1 I0 I1 H0 H1 2) wr) := HI.out
      have c1 : wr.cell? ⟨bc, 1, none⟩ = some (.int .i64 (1 + (i0 : Int))) := by rw [← hi0]; exact HB.out.cell 1
      have c5 : wr.cell? ⟨bc, 5, none⟩ = some (.int .i64 (1 + (i1 : Int))) := by rw [← hi1]; exact HB.out.cell 5
      have f5 : wr.frozen? ⟨bc, 5, none⟩ = false := HB.out.fro 5
      have HCS2 := HCS.out
      rw [hi0, hi1] at HCS2
      have HHI : Hid (md I1 1000 = i1) := hi1
      clear hi0 hi1
      by_cases he : 1 + (i0 : Int) = 1 + (i1 : Int)
      case' pos =>
        have heb : (1 + (i0 : Int) == 1 + (i1 : Int)) = true := by simpa using he
        rw [if_pos he] at HCS2
        have HL : Hid (cs.length = 8 ∧ cs.all (·.oneCell') = true) := by rw [← HCS2]; exact ⟨rfl, rfl⟩
        have HBZ : Hid (SB CgK bc cs (wr.setCell ⟨bc, 5, none⟩ (.int .i64 (1 + (i1 : Int) + 1)))) := HB.out.set 5 _ HCS2
        have HKZ : Hid (Ko wr bc (wr.setCell ⟨bc, 5, none⟩ (.int .i64 (1 + (i1 : Int) + 1)))) := Ko.set _ _ _ _
        have HXZ : Hid (SB CgK rb c8z (wr.setCell ⟨bc, 5, none⟩ (.int .i64 (1 + (i1 : Int) + 1)))) := HX6.out.blk (HKZ.out.block rb HNE.out.2.2.2.1)
        have HBL : Hid (Below w.heap.size w (wr.setCell ⟨bc, 5, none⟩ (.int .i64 (1 + (i1 : Int) + 1)))) := HBE.out.trans (HKZ.out.below HNE.out.2.2.2.2)
        clear he HCS2 HKZ
      case' neg =>
        have heb : (1 + (i0 : Int) == 1 + (i1 : Int)) = false := by simpa using he
        rw [if_neg he] at HCS2
        have HL : Hid (cs.length = 8 ∧ cs.all (·.oneCell') = true) := by rw [← HCS2]; exact ⟨rfl, rfl⟩
        have HBZ : Hid (SB CgK bc cs wr) := by rw [← HCS2]; exact HB.out
        have HXZ : Hid (SB CgK rb c8z wr) := HX6.out
        have HBL : Hid (Below w.heap.size w wr) := HBE.out
        clear he HCS2
      all_goals
        go_wp2_with (first | (refine list_sload CgK rfl _ rfl (b := bc) (cs := cs) rfl HBZ.out HL.out.1 ?_) | (refine list_sstore CgK rfl _ _ rfl (b := rb) (cs := c8z) (cs' := cs) rfl rfl HXZ.out rfl HL.out.1 HL.out.2 ?_))
        intro w9 hb9 hk9
        have HR : Hid (Below w.heap.size w w9) := HBL.out.trans (hk9.out.below (by have := Z.out; omega))
        clear hk9
        go_wp2_with fail
        exact bodyPost_ret (cf_res hb9.out HL.out.1 rfl) rfl ⟨rfl, HR.out⟩
end Go.Proofs.Ytanboekdfdafmaa.Pv
