/- The law's own memory: fibPut: what it answers. -/
import Derived.Test.YtjhdjbhpofhiaabFbJ
import Derived.Laws.AppendOwnNone
namespace Go.Proofs.Ytjhdjbhpofhiaab.Fb
open Go.ChangeShapes Go.WideShapes Go.ChangeAt Go.RowKit Go.Joins Go.Proofs.Ytjhdjbhpofhiaab.PM Go.Proofs.Ytjhdjbhpofhiaab.Ask
set_option linter.unusedVariables false

/-- nothing old has turned but one own block -/
structure KO (w : World) (o : Option Nat) (w' : World) (o' : Option Nat) : Prop where
  str : Below 0 w w'
  now : o' = o ∨ ∃ g, o' = some g ∧ w.heap.size ≤ g
  block : ∀ b, b < w.heap.size → some b ≠ o → w'.heap[b]? = w.heap[b]?
theorem KO.refl (w : World) (o : Option Nat) : KO w o w o := ⟨Below.refl _ _, .inl rfl, fun _ _ _ => rfl⟩
theorem KO.size {w w' : World} {o o' : Option Nat} (h : KO w o w' o') : w.heap.size ≤ w'.heap.size := h.str.size
theorem KO.bel {w w' : World} {o : Option Nat} (h : Below w.heap.size w w') : KO w o w' o := ⟨h.mono (Nat.zero_le _), .inl rfl, fun b hb _ => h.block b hb⟩
theorem KO.ne {w w' : World} {o o' : Option Nat} (h : KO w o w' o') {b : Nat} (hb : b < w.heap.size) (ho : some b ≠ o) : some b ≠ o' := by
  rcases h.now with e | ⟨g, e, hg⟩
  · rw [e]; exact ho
  · rw [e]; intro e2; cases e2; omega
theorem KO.trans {w w1 w2 : World} {o o1 o2 : Option Nat} (h : KO w o w1 o1) (k : KO w1 o1 w2 o2) : KO w o w2 o2 := by
  refine ⟨h.str.trans k.str, ?_, fun b hb ho => (k.block b (Nat.lt_of_lt_of_le hb h.size) (h.ne hb ho)).trans (h.block b hb ho)⟩
  rcases k.now with e | ⟨g, e, hg⟩
  · rw [e]; exact h.now
  · exact .inr ⟨g, e, Nat.le_trans h.size hg⟩

/-- a list of words that the call has made -/
structure OwnU (N : Nat) (w : World) (v : Value) (ms : List Int) : Prop where
  row : w.ownsRow N 31 1 v ms.length (wcs ms)
  u32 : ∀ d ∈ ms, In32 d
theorem OwnU.bel {N : Nat} {w w' : World} {v : Value} {ms : List Int} (h : OwnU N w v ms) (hb : Below w.heap.size w w') : OwnU N w' v ms := ⟨row_kept h.row (fun g e => hb.block g (h.row.lt g e).2), h.u32⟩
theorem OwnU.form {N : Nat} {w : World} {v : Value} {ms : List Int} (h : OwnU N w v ms) : ∃ va cap, v = .slice va ms.length cap := by
  rcases ownsRow_forms h.row with ⟨rfl, h0⟩ | ⟨g, cap, rfl⟩
  · exact ⟨none, 0, by rw [h0]⟩
  · exact ⟨_, _, rfl⟩
theorem OwnU.wds {N : Nat} {w : World} {va : Option Addr} {L cap : Nat} {ms : List Int} (h : OwnU N w (.slice va L cap) ms) : Wds w va ms := by
  rcases h.row.2 with ⟨-, h0⟩ | ⟨g, c, cur, hv, hg, hb, hnc, hcm, -⟩
  · exact ⟨by omega, fun i hi => absurd hi (by omega), h.u32⟩
  · cases hv
    refine ⟨by unfold maxLen at hcm; omega, fun i hi => ⟨g, 0, rfl, (h.row.lt g rfl).2, ?_⟩, h.u32⟩
    rw [Nat.zero_add, h.row.cellAt i (by omega)]
    simp [wcs, hi]

/-- one word is appended to a list that the call has made -/
theorem app_u {ops : Array Oper} {rest : List Oper} {o : Oper} {a : Act} {Q : Exit → Act → World → Prop} (hgd : o.guard = none) (s x : Operand)
    (ho : o.op = .call { callee := .builtin .append, args := #[s, x], argTypes := #[51, 51] }) (base : Nat) (v : Value) (xs : List Int) (y : Int) (y0 : In32 y) (w : World) (hs : a.eval s = v) (hown : OwnU base w v xs)
    (tb : TypeId) (H : Nat) (hx : a.eval x = .slice (some ⟨H, 0, none⟩) 1 1) (hH : w.heap.size = H) (hby : (xs.length + 1) * 4 ≤ 140737488355328) (hbase : base ≤ w.heap.size)
    (h : ∀ v' w', Hid (OwnU base w' v' (xs ++ [y])) → Hid (KO w v.ownBlock w' v'.ownBlock) → wpList Try.prog ops Q rest (a.put o.dst v') w') :
    wpList Try.prog ops Q (o :: rest) a (w.alloc (.cells #[.int .u32 y] tb)) := by
  subst hH
  obtain ⟨i0, hi, hz0, hz1, hz2⟩ := info_parts infoU
  refine wpList_append_own_at _ hgd s x 51 ho base 31 i0 _ 1 4 Try.underlying51 hi hz0 hz1 hz2 rfl (by decide) v _ _ hs (World.ownsRow.alloc hown.row _) ⟨w.heap.size, 0, none⟩ 1 1 [.int .u32 y] hx rfl (by
      intro j u' hj
      match j, hj with
      | 0, hj => simp at hj; subst hj; simp [Addr.add]) (by intro u' hu'; simp at hu'; rcases hu' with rfl; rfl) (by unfold maxLen; omega) hby (by simp; omega) ?_
  intro v' w' hown' hg _ hat
  refine h v' w' ⟨by unfold wcs; rw [List.map_append, List.length_append]; exact hown', fun d hd => ?_⟩ ⟨?_, ?_, fun k hk hne => ?_⟩
  · rcases List.mem_append.1 hd with h | h
    · exact hown.u32 d h
    · simp at h; rw [h]; exact y0
  · exact ((Below.refl 0 w).alloc (Nat.zero_le _) _).grown hg (Nat.zero_le _) (fun _ _ => Nat.zero_le _)
  · rcases hat with h | h
    · exact .inl h
    · exact .inr ⟨_, h, by simp⟩
  · rw [hg.block k (by simp; omega) hne]
    exact Below.heap_alloc _ _ _ hk

def lenV : Value → Nat | .slice _ n _ => n | _ => 0
/-- how fibPut stands -/
structure PA (N : Nat) (wA : World) (o : Option Nat) (b : Nat) (k : Nat) (x : Int) (ms : List Int) (j : Nat) (u : Value) (wr : World) : Prop where
  own : OwnU N wr u (ms ++ List.replicate j 0)
  le : ms.length + j ≤ k + 1 ∨ j = 0
  kp : KO wA o wr u.ownBlock
  b0 : wr.cell? ⟨b, 0, none⟩ = some (.int .i64 (k : Int))
  b1 : wr.cell? ⟨b, 1, none⟩ = some (.int .u32 x)
  bb : some b ≠ o
  bl : b < wA.heap.size
theorem PA.next {N : Nat} {wA : World} {o : Option Nat} {b k : Nat} {x : Int} {ms : List Int} {j : Nat} {u u' : Value} {wr w' : World} (h : PA N wA o b k x ms j u wr) (hk : ms.length + j ≤ k) (ho : OwnU N w' u' (ms ++ List.replicate j 0 ++ [0])) (hg : KO wr u.ownBlock w' u'.ownBlock) : PA N wA o b k x ms (j + 1) u' w' := by
  have hne := h.kp.ne h.bl h.bb
  have hlt : b < wr.heap.size := Nat.lt_of_lt_of_le h.bl h.kp.size
  refine ⟨?_, .inl (by omega), h.kp.trans hg, (World.cell?_of_block (w := wr) (hg.block b hlt hne)).trans h.b0, (World.cell?_of_block (w := wr) (hg.block b hlt hne)).trans h.b1, h.bb, h.bl⟩
  rw [List.replicate_succ', ← List.append_assoc]; exact ho

set_option maxRecDepth 100000 in
set_option maxHeartbeats 1000000 in
theorem fibPut_any (N : Nat) (v : Value) (ms : List Int) (k : Nat) (x : Int) (x0 : 0 ≤ x) (x1 : x < 4294967296) (most : Int) (hm0 : 0 ≤ most) (hm1 : most ≤ 17592186044416) (hk : (k : Int) < 256 + 80 * most) (hk4 : (k + 1) * 4 ≤ 140737488355328) (w : World) (h : OwnU N w v ms) (hN : N ≤ w.heap.size) :
    Calls Try.prog 21 #[v, .agg #[.int .i64 (k : Int), .int .u32 x], .int .i64 most] w fun e w' => ∃ v', e = .returned (.tuple #[v', .bool true]) ∧ OwnU N w' v' (putP ms k x) ∧ KO w v.ownBlock w' v'.ownBlock := by
  have H : Hid (OwnU N w v ms) := h
  clear h
  go_enter Try.func21, Try.ntmps21
  go_wp2_with fail
  obtain ⟨wA, hwA⟩ : ∃ wA, w.alloc (Obj.cells #[.int .i64 (k : Int), .int .u32 x] 64) = wA := ⟨_, rfl⟩
  have hbA : Below w.heap.size w wA := by rw [← hwA]; exact (Below.refl _ w).alloc (Nat.le_refl _) _
  have hsA : w.heap.size < wA.heap.size := by rw [← hwA]; simp
  have hvb : some w.heap.size ≠ v.ownBlock := fun e => by have := (H.out.row.lt _ e.symm).2; omega
  have HPA : Hid (PA N wA v.ownBlock w.heap.size k x ms 0 v wA) := ⟨by simpa using H.out.bel hbA, .inr rfl, KO.refl _ _, by rw [← hwA]; simp, by rw [← hwA]; simp, hvb, hsA⟩
  have HF : Hid (∃ va vc, v = .slice va (ms.length + 0) vc) := H.out.form
  rw [hwA]
  clear hwA hvb
  go_loopw [0] (fun u wr => ∃ (j : Nat) (va : Option Addr) (vc : Nat), u = .slice va (ms.length + j) vc ∧ PA N wA v.ownBlock w.heap.size k x ms j u wr) (fun u _ => k + 1 - lenV u)
  case atStart =>
    obtain ⟨va, vc, e⟩ := HF.out
    exact ⟨0, va, vc, e, HPA.out⟩
  case round =>
    obtain ⟨j, va, vc, rfl, hpa⟩ := hrel
    have HP : Hid (PA N wA v.ownBlock w.heap.size k x ms j (.slice va (ms.length + j) vc) wr) := hpa
    have b0 := hpa.b0
    have b1 := hpa.b1
    have hle := hpa.le
    obtain ⟨xs, hxs⟩ : ∃ xs, ms ++ List.replicate j 0 = xs := ⟨_, rfl⟩
    have hxl : xs.length = ms.length + j := by rw [← hxs]; simp
    have HOU : Hid (OwnU N wr (.slice va (ms.length + j) vc) xs) := by rw [← hxs]; exact hpa.own
    have HXS : Hid (ms ++ List.replicate j 0 = xs) := hxs
    have hNw : N ≤ wr.heap.size := Nat.le_trans hN (Nat.le_trans hbA.size hpa.kp.size)
    obtain ⟨L, hL⟩ : ∃ L, ms.length + j = L := ⟨_, rfl⟩
    have HL : Hid (ms.length + j = L) := hL
    rw [hL] at HP HOU hle hxl ⊢
    have HXL : Hid (xs.length = L) := hxl
    clear hpa hxs hL hxl
    by_cases hlt : L ≤ k
    · have hlt' : (L : Int) ≤ k := by omega
      go_wp2_with (at_builtin; refine app_u rfl _ _ rfl N (.slice va L vc) xs 0 ⟨by decide, by decide⟩ wr rfl HOU.out 31 wr.heap.size rfl rfl (by rw [HXL.out]; omega) hNw ?_)
      intro v' w' ho' hk'
      have HN1 : Hid (PA N wA v.ownBlock w.heap.size k x ms (j + 1) v' w') := by
        have e := HL.out
        refine HP.out.next (by omega) (by rw [HXS.out]; exact ho'.out) hk'.out
      obtain ⟨va', vc', e'⟩ := HN1.out.own.form
      have e2 : (ms ++ List.replicate (j + 1) (0 : Int)).length = ms.length + (j + 1) := by simp
      rw [e2] at e'
      subst e'
      go_wp2_with fail
      go_roundw
      case rel => exact ⟨j + 1, va', vc', rfl, HN1.out⟩
      case measure => have := HL.out; simp [lenV]; omega
    · have hpos : 0 < xs.length := by rw [HXL.out]; omega
      have hrow := HOU.out.row
      obtain ⟨g, vc', e⟩ := ownsRow_form hrow hpos
      cases e
      have hkx : k < xs.length := by rw [HXL.out]; omega
      have hcell := hrow.cellAt k (by omega)
      have hfr := hrow.frozenAt k
      have hcv : ∃ y, wr.cell? ⟨g, k, none⟩ = some (.int .u32 y) := ⟨_, by rw [hcell, wcs, List.getElem?_map, List.getElem?_eq_getElem hkx]; rfl⟩
      obtain ⟨y, hcv⟩ := hcv
      have hkl : (k : Int) < (xs.length : Int) := by omega
      have hlt' : ¬ (xs.length : Int) ≤ k := by omega
      have HST : Hid (wr.setCell ⟨g, k, none⟩ (.int .u32 x) |>.ownsRow N 31 1 (.slice (some ⟨g, 0, none⟩) xs.length vc) xs.length ((wcs xs).set k (.int .u32 x))) := (hrow.stored k (.int .u32 x)).1
      have HPP : Hid (putP ms k x = xs.set k x) := by
        have e := HL.out
        show putP ms k x = xs.set k x
        unfold putP
        have : k + 1 - ms.length = j := by omega
        rw [this, HXS.out]
      clear hcell hrow
      go_wp2_with fail
      go_ret2
      refine ⟨_, rfl, ⟨?_, ?_⟩, ?_⟩
      · rw [HPP.out, List.length_set]
        have e : wcs (xs.set k x) = (wcs xs).set k (.int .u32 x) := by simp [wcs, List.map_set]
        rw [e]; exact HST.out
      · rw [HPP.out]
        intro d hd
        rcases List.mem_or_eq_of_mem_set hd with h | h
        · exact HOU.out.u32 d h
        · subst h; exact ⟨x0, x1⟩
      · exact (KO.bel hbA).trans (HP.out.kp.trans ⟨below_set _ _ _ _, .inl rfl, fun b _ hne => heap_set _ _ _ _ _ (fun e => hne (by rw [e]; rfl))⟩)
/-- a list of writes below a block number -/
structure Wr6 (N : Nat) (w : World) (a : Option Addr) (ws : List (Nat × Int)) : Prop where
  small : ws.length ≤ 9223372036854775807
  cells : ∀ i (h : i < ws.length), ∃ b o, a = some ⟨b, o, none⟩ ∧ b < N ∧ b < w.heap.size ∧ w.cell? ⟨b, o + i * 2, none⟩ = some (.int .i64 (ws[i].1 : Int)) ∧ w.cell? ⟨b, o + i * 2 + 1, none⟩ = some (.int .u32 ws[i].2)
  u32 : ∀ y ∈ ws, In32 y.2
theorem Wr6.ko {N : Nat} {w w' : World} {a : Option Addr} {ws : List (Nat × Int)} {o o' : Option Nat} (h : Wr6 N w a ws) (k : KO w o w' o') (ho : ∀ x, o = some x → N ≤ x) : Wr6 N w' a ws :=
  ⟨h.small, fun i hi => by
    obtain ⟨b, p, e, hN, hlt, h0, h1⟩ := h.cells i hi
    have hb := k.block b hlt (fun e => by have := ho b e.symm; omega)
    exact ⟨b, p, e, hN, Nat.lt_of_lt_of_le hlt k.size, (World.cell?_of_block (w := w) hb).trans h0, (World.cell?_of_block (w := w) hb).trans h1⟩, h.u32⟩
theorem Own.wr6 {N : Nat} {w : World} {bt : Nat} {o1 o2 : Option Nat} {va : Option Addr} {L cap : Nat} {ws : List (Nat × Int)} (h : Own N w bt o1 o2 (.slice va L cap) ws) (hl : ws.length ≤ 9223372036854775807) : Wr6 w.heap.size w va ws :=
  ⟨hl, fun i hi => by
    obtain ⟨b, p, e, hlt, -, -, h0, h1⟩ := (h.wrs hl).cells i hi
    exact ⟨b, p, e, hlt, hlt, h0, h1⟩, h.u32⟩
end Go.Proofs.Ytjhdjbhpofhiaab.Fb
