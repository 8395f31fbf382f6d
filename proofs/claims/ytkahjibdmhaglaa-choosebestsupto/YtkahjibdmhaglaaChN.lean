/- The order of offers: steps put together (slices.Concat, slices.Grow). -/
import Derived.Test.YtkahjibdmhaglaaChM
import Derived.Laws.AppendOwn
namespace Go.Proofs.Ytkahjibdmhaglaa.Ch
open Go.ChangeShapes Go.WideShapes Go.ChangeAt Go.RowKit Go.Joins Go.Deep Go.Proofs.Ytkahjibdmhaglaa.Ge
open Go.Sort hiding Below
set_option linter.unusedVariables false
set_option linter.unusedSimpArgs false

def encS : Option Nat → List Value
  | none => [.nilFunc]
  | some k => [fvK k]
theorem fvK_one (k : Nat) : (fvK k).oneCell' = true := by
  unfold fvK
  split <;> rfl
/-- steps -/
def ES : El (Option Nat) := ⟨46, 42, 1, 8, .nilFunc, encS, by decide, by decide, fun x => by cases x <;> rfl, fun x u hu => by
  cases x with
  | none => simp [encS] at hu; subst hu; rfl
  | some k => simp [encS] at hu; subst hu; exact fvK_one k, Try.underlying42, by kernel_rfl, rfl⟩
theorem zf_is (m : Nat) : Builtin.zeroCells (Value.nilFunc).cells m = (List.replicate m Value.nilFunc).toArray := by
  apply Array.ext'
  apply List.ext_getElem?
  intro j
  simp [Builtin.zeroCells, Value.cells, List.getElem?_replicate]
  split
  · rename_i h; rw [List.getElem?_range h]; simp [Nat.mod_one]
  · rename_i h; rw [List.getElem?_eq_none (by simp; omega)]; rfl
theorem run_steps_nil {P : Program} (w : World) (t u ty e : TypeId) (i : TypeInfo) (ht : P.underlying t = some (.slice e)) (hu : P.underlying u = some (.int .i64)) (hi : P.info? e = some i) (hz : i.zero = some .nilFunc) (hs1 : i.size = 1) (hb4 : i.bytes = 8)
    (m : Nat) (hm : 0 < m) (hsm : (m : Int) ≤ 1000) :
    (Builtin.append_ #[t, u] ty #[.slice none 0 0, .int .i64 (m : Int)]).run P w =
      .ok (.slice (some ⟨w.heap.size, 0, none⟩) m (grownCap w m 0 e)) (w.drew.alloc (.cells ((List.replicate m Value.nilFunc).toArray ++ Builtin.zeroCells (Value.nilFunc).cells (grownCap w m 0 e - m)) e)) := by
  have hm0 : m ≠ 0 := by omega
  have h63' : ¬ (9223372036854775807 < (m : Int)) := by omega
  have h48' : ¬ (281474976710656 < Builtin.nextslicecap m 0 * 8) := by rw [nextslicecap_zero hm]; omega
  have hw : IntKind.i64.wrap (m : Int) = m := by rw [IntKind.wrap_i64]; omega
  have h2 : ¬ (281474976710656 < (m : Int) * 8) := by omega
  simp [Builtin.append_, run_underlying ht, run_underlying hu, sizeOf, typeInfo, zeroValue, hi, hz, hs1, hb4, asInt, asIntOf, hw, h2, hm0, h63', h48', Question.forced, run_firstCells_none, newRow, grownCap, zf_is]
  intro h; omega
theorem list_nilsteps {ops : Array Oper} {rest : List Oper} {o : Oper} {a : Act} {Q : Exit → Act → World → Prop} {w : World} (hgd : o.guard = none) (s x : Operand) (ho : o.op = .call { callee := .builtin .append, args := #[s, x], argTypes := #[42, 3] })
    (hs : a.eval s = .slice none 0 0) (m : Nat) (hx : a.eval x = .int .i64 (m : Int)) (hm : 0 < m) (hsm : m ≤ 1000)
    (h : ∀ g cap w', Hid (w.heap.size = g) → Hid (m ≤ cap ∧ ∃ cur, w'.heap[g]? = some (Obj.cells cur 46) ∧ cur.size = cap ∧ cap ≤ maxLen) → Hid (Below w.heap.size w w') → wpList Try.prog ops Q rest (a.put o.dst (.slice (some ⟨g, 0, none⟩) m cap)) w') :
    wpList Try.prog ops Q (o :: rest) a w := by
  obtain ⟨i, hi, hz0, hz1, hz2⟩ := info_of ES.hi
  refine wpList_plain hgd fun K hK => ?_
  have hr := run_steps_nil (P := Try.prog) w 42 3 o.type 46 i Try.underlying42 Try.underlying3 hi hz0 hz1 hz2 m hm (by omega)
  have hge := grownCap_ge w m 0 46
  have hcm : grownCap w m 0 46 ≤ maxLen := grownCap_le_maxLen w m 0 46 (by unfold maxLen; omega)
  unfold Oper.wp execOp
  simp only [ho, resolve, invoke, builtin, Sem.run_bind, Sem.run_pure, Result.andThen_ok, List.map_toArray, List.map_cons, List.map_nil, hs, hx, hr]
  refine hK _ _ (h _ _ _ rfl ⟨hge, _, heap_alloc_new w.drew _, ?_, hcm⟩ ?_)
  · rw [zf_is]; simp; omega
  · exact ⟨rfl, rfl, rfl, by simp, fun k hk => heap_alloc_old w.drew _ hk⟩
def GwPost (w : World) (e : Ending) (w' : World) : Prop := ∃ v, e = .returned v ∧ OwnL ES w.heap.size w' v [] ∧ Below w.heap.size w w'
set_option maxRecDepth 100000 in
set_option maxHeartbeats 8000000 in
theorem grow_any (w : World) : Calls Try.prog 42 #[.slice none 0 0, .int .i64 5] w (GwPost w) := by
  go_enter Try.func42, Try.ntmps42
  go_wp2_with (refine list_nilsteps rfl _ _ rfl rfl 5 rfl (by decide) (by decide) ?_)
  intro g cap w' hg hc hb
  have HE : Hid (GwPost w (.returned (.slice (some ⟨g, 0, none⟩) 0 cap)) w') := by
    obtain ⟨h1, cur, h2, h3, h4⟩ := hc.out
    refine ⟨_, rfl, ⟨⟨rfl, .inr ⟨g, cap, cur, rfl, by have := hg.out; omega, h2, Nat.zero_le _, h4, by rw [h3]; show cap = cap * 1; omega, rfl⟩⟩⟩, hb.out⟩
  have hcap : (5 : Int) ≤ (cap : Int) := by have := hc.out.1; omega
  clear hg hc hb
  go_wp2_with fail
  all_goals
    go_ret
    exact HE.out
def CcPost (w : World) (e : Ending) (w' : World) : Prop := ∃ sb c5, e = .returned (.slice (some ⟨sb, 0, none⟩) 5 c5) ∧ w.heap.size ≤ sb ∧ sb < w'.heap.size ∧ (∀ i (hi : i < [3, 4, 5, 6, 7].length), w'.cell? ⟨sb, i, none⟩ = some (fvK [3, 4, 5, 6, 7][i])) ∧ Below w.heap.size w w'
theorem CcPost.of {w w' : World} {v : Value} (h : OwnL ES w.heap.size w' v [some 3, some 4, some 5, some 6, some 7]) (hb : Below w.heap.size w w') : CcPost w (.returned v) w' := by
  obtain ⟨a, c, rfl, -, h2, h3⟩ := h.form
  cases a with
  | none => have := (h2 rfl).1; simp at this
  | some ad =>
    obtain ⟨g, o, f⟩ := ad
    rcases h.row.2 with ⟨h1, h4⟩ | ⟨g', c', cur, h1, h4, h5, -⟩
    · cases h1
    · cases h1
      refine ⟨g, c, rfl, h4, (Array.getElem?_eq_some_iff.1 h5).1, fun i hi => ?_, hb⟩
      have h6 := (h.at0).1 i hi 0 (by decide)
      have e1 : ES.k = 1 := rfl
      rw [e1, Nat.mul_one, Nat.add_zero] at h6
      rw [h6]
      have hi5 : i < 5 := hi
      rcases i with _ | _ | _ | _ | _ | i
      all_goals first | rfl | omega
def szN (i : Nat) : Int := if i = 0 then 0 else if i = 1 then 2 else 5
def lsN (i : Nat) : List (Option Nat) := if i = 0 then [] else if i = 1 then [some 3, some 4] else [some 3, some 4, some 5, some 6, some 7]
structure C2I (w W1 : World) (iv v : Value) (W : World) : Prop where
  at_ : ∃ i : Nat, i ≤ 2 ∧ iv = .int .i64 (i : Int) ∧ OwnL ES w.heap.size W v (lsN i)
  bel : Below w.heap.size w W
set_option maxRecDepth 100000 in
set_option maxHeartbeats 8000000 in
theorem concat_any (sa sp bs cb : Nat) (w : World) (k0 : w.cell? ⟨bs, 0, none⟩ = some (.slice (some ⟨sa, 0, none⟩) 2 2)) (k1 : w.cell? ⟨bs, 1, none⟩ = some (.slice (some ⟨sp, 0, none⟩) 3 3)) (ha : Lst ES w (some ⟨sa, 0, none⟩) [some 3, some 4]) (hp : Lst ES w (some ⟨sp, 0, none⟩) [some 5, some 6, some 7]) : Calls Try.prog 19 #[.slice (some ⟨bs, 0, none⟩) 2 cb] w (CcPost w) := by
  have HA : Hid (Lst ES w (some ⟨sa, 0, none⟩) [some 3, some 4]) := ha
  have HP : Hid (Lst ES w (some ⟨sp, 0, none⟩) [some 5, some 6, some 7]) := hp
  have HK : Hid (w.cell? ⟨bs, 0, none⟩ = some (.slice (some ⟨sa, 0, none⟩) 2 2) ∧ w.cell? ⟨bs, 1, none⟩ = some (.slice (some ⟨sp, 0, none⟩) 3 3)) := ⟨k0, k1⟩
  clear ha hp
  go_enter Try.func19, Try.ntmps19
  go_wp2_with fail
  go_loopw [11, 3, 5] (fun iv sv _ wr => ∃ i : Nat, i ≤ 2 ∧ iv = .int .i64 (i : Int) ∧ sv = .int .i64 (szN i) ∧ wr = w) (fun i _ _ _ => 2 - (intOf i).toNat)
  case atStart => exact ⟨0, by omega, rfl, rfl, rfl⟩
  case round =>
    obtain ⟨i, hi, rfl, rfl, hw⟩ := hrel
    rw [hw]
    clear hw
    rcases i with _ | _ | _ | i
    case zero =>
      have e1 : szN 0 = 0 := rfl
      rw [e1]
      clear e1
      go_wp2_with fail
      refine ⟨⟨1, by omega, rfl, rfl, by first | trivial | rfl⟩, ?_⟩
      simp [intOf]
    case succ.zero =>
      have e1 : szN 1 = 2 := rfl
      rw [e1]
      clear e1
      go_wp2_with fail
      refine ⟨⟨2, by omega, rfl, rfl, by first | trivial | rfl⟩, ?_⟩
      simp [intOf]
    case succ.succ.zero =>
      have e1 : szN 2 = 5 := rfl
      rw [e1]
      clear e1
      go_wp2_with fail
      refine (grow_any w).mono ?_
      rintro e w1 ⟨v1, rfl, ho, hb⟩
      have HI : Hid (C2I w w1 (.int .i64 0) v1 w1) := ⟨⟨0, by omega, rfl, ho⟩, hb⟩
      clear ho hb k0 k1
      go_wp2_with fail
      go_loopw [27, 6, 8] (fun iv v _ wr => C2I w w1 iv v wr) (fun i _ _ _ => 2 - (intOf i).toNat)
      case atStart => exact HI.out
      case round =>
        clear HI
        obtain ⟨⟨i, hi, rfl, ho⟩, hb⟩ := hrel
        obtain ⟨wz, hwz⟩ : ∃ y, wr = y := ⟨_, rfl⟩
        rw [hwz] at ho hb ⊢
        have HO : Hid (OwnL ES w.heap.size wz u6 (lsN i)) := ho
        have HB : Hid (Below w.heap.size w wz) := hb
        clear hwz ho hb
        rcases i with _ | _ | _ | i
        case zero =>
          have k0 : wz.cell? ⟨bs, 0, none⟩ = some (.slice (some ⟨sa, 0, none⟩) 2 2) := (World.cell?_of_block (w := w) (HB.out.block bs (World.block_lt_of_cell? w _ HK.out.1))).trans HK.out.1
          go_wp2_with (refine list_appL ES rfl _ _ _ rfl rfl w.heap.size u6 [] [some 3, some 4] (some ⟨sa, 0, none⟩) 2 2 _ (by decide) rfl HO.out rfl (HA.out.bel HB.out) (fun e => by cases e) rfl HB.out.size ?_)
          intro v' w' hov hgr hnew
          have HI2 : Hid (C2I w w1 (.int .i64 1) v' w') := ⟨⟨1, by omega, rfl, hov.out⟩, HB.out.grown hgr.out HB.out.size (fun k e => (HO.out.row.lt k e).1)⟩
          clear hov hgr hnew k0
          go_wp2_with fail
          refine ⟨HI2.out, ?_⟩
          simp [intOf]
        case succ.zero =>
          have k1 : wz.cell? ⟨bs, 1, none⟩ = some (.slice (some ⟨sp, 0, none⟩) 3 3) := (World.cell?_of_block (w := w) (HB.out.block bs (World.block_lt_of_cell? w _ HK.out.2))).trans HK.out.2
          go_wp2_with (refine list_appL ES rfl _ _ _ rfl rfl w.heap.size u6 [some 3, some 4] [some 5, some 6, some 7] (some ⟨sp, 0, none⟩) 3 3 _ (by decide) rfl HO.out rfl (HP.out.bel HB.out) (fun e => by cases e) rfl HB.out.size ?_)
          intro v' w' hov hgr hnew
          have HI2 : Hid (C2I w w1 (.int .i64 2) v' w') := ⟨⟨2, by omega, rfl, hov.out⟩, HB.out.grown hgr.out HB.out.size (fun k e => (HO.out.row.lt k e).1)⟩
          clear hov hgr hnew k1
          go_wp2_with fail
          refine ⟨HI2.out, ?_⟩
          simp [intOf]
        case succ.succ.zero =>
          have HE : Hid (CcPost w (.returned u6) wz) := CcPost.of HO.out HB.out
          go_wp2_with fail
          go_ret
          exact HE.out
        case succ.succ.succ => omega
    case succ.succ.succ => omega
end Go.Proofs.Ytkahjibdmhaglaa.Ch
