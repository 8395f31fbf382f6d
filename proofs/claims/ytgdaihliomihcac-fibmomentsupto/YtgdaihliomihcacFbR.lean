/- FibRaw: what it answers. -/
import Derived.Test.YtgdaihliomihcacFbK
import Derived.Test.YtgdaihliomihcacFbL
import Derived.Test.YtgdaihliomihcacFbV
import Derived.Deep.QuietTactic
import Derived.BigQuiet
namespace Go.Proofs.Ytgdaihliomihcac.Fb
open Go.ChangeShapes Go.WideShapes Go.ChangeAt Go.RowKit Go.Joins Go.Proofs.Ytgdaihliomihcac.PM Go.Proofs.Ytgdaihliomihcac.Ask
set_option linter.unusedVariables false

set_option maxRecDepth 100000 in
set_option maxHeartbeats 1000000 in
theorem new_any (w : World) : Calls Try.prog 8 #[] w fun e w' => e = .returned (.pointer (some ⟨w.heap.size, 0, none⟩)) ∧ Tab (w.heap.size + 1) w' w.heap.size [] 0 [] none none ∧ Below w.heap.size w w' ∧ w'.heap.size = w.heap.size + 1 := by
  go_enter Try.func8, Try.ntmps8
  go_wp2_with fail
  go_ret
  refine ⟨rfl, ⟨⟨⟨.slice none 0 0, by simp, World.ownsRow_nil _ _ _ _, rfl⟩, by simp, by omega, by simp, by simp⟩, by simp, by simp, ⟨.slice none 0 0, by simp, World.ownsRow_nil _ _ _ _, rfl⟩, by simp, by simp, by simp⟩, (Below.refl _ w).alloc (Nat.le_refl _) _, by simp⟩

/-- what came in is appended to a list that the call has made -/
theorem app_src {ops : Array Oper} {rest : List Oper} {o : Oper} {a : Act} {Q : Exit → Act → World → Prop} (hgd : o.guard = none) (s x : Operand)
    (ho : o.op = .call { callee := .builtin .append, args := #[s, x], argTypes := #[23, 23] }) (base : Nat) (v : Value) (xs : List Int) (w : World) (hs : a.eval s = v) (hown : OwnU base w v xs)
    (va : Option Addr) (L cap : Nat) (ms : List Int) (hL : ms.length = L) (hx : a.eval x = .slice va L cap) (hwd : Wds w va ms) (hnil : va = none → L = 0 ∧ cap = 0) (hby : (xs.length + L) * 4 ≤ 140737488355328) (hbase : base ≤ w.heap.size)
    (h : ∀ v' w', Hid (OwnU base w' v' (xs ++ ms)) → Hid (KO w v.ownBlock w' v'.ownBlock) → wpList Try.prog ops Q rest (a.put o.dst v') w') :
    wpList Try.prog ops Q (o :: rest) a w := by
  obtain ⟨i0, hi, hz0, hz1, hz2⟩ := info_parts infoU
  cases va with
  | none =>
    obtain ⟨rfl, rfl⟩ := hnil rfl
    have e : ms = [] := List.length_eq_zero_iff.1 hL
    subst e
    refine wpList_append_own_none hgd s x 23 ho base 30 i0 1 Try.underlying23 hi v _ _ hs hown.row hx ?_
    exact h v w (show OwnU base w v (xs ++ []) by simpa using hown) (KO.refl _ _)
  | some ad =>
    refine wpList_append_own_at _ hgd s x 23 ho base 30 i0 _ 1 4 Try.underlying23 hi hz0 hz1 hz2 rfl (by decide) v _ _ hs hown.row ad L cap (wcs ms) hx (by simp [wcs, hL]) (by
      intro j u' hj
      have hj' : j < ms.length := by
        have := (List.getElem?_eq_some_iff.1 hj).1
        simpa [wcs] using this
      obtain ⟨b, o, e, hb, hc⟩ := hwd.cells j hj'
      cases e
      rw [Addr.add_lit, hc]
      rw [wcs, List.getElem?_map, List.getElem?_eq_getElem hj'] at hj
      simpa using hj) (by
      intro u' hu'
      simp only [wcs, List.mem_map] at hu'
      obtain ⟨y, -, rfl⟩ := hu'
      rfl) (by unfold maxLen; omega) hby hbase ?_
    intro v' w' hown' hg _ hat
    refine h v' w' ⟨by unfold wcs; rw [List.map_append, List.length_append, hL]; exact hown', fun d hd => ?_⟩ ⟨?_, ?_, fun k hk hne => hg.block k hk hne⟩
    · rcases List.mem_append.1 hd with h | h
      · exact hown.u32 d h
      · exact hwd.u32 d h
    · exact (Below.refl 0 w).grown hg (Nat.zero_le _) (fun _ _ => Nat.zero_le _)
    · rcases hat with h | h
      · exact .inl h
      · exact .inr ⟨_, h, Nat.le_refl _⟩
/-- 5, 6, 7 are appended -/
theorem app_567 {ops : Array Oper} {rest : List Oper} {o : Oper} {a : Act} {Q : Exit → Act → World → Prop} (hgd : o.guard = none) (s x : Operand)
    (ho : o.op = .call { callee := .builtin .append, args := #[s, x], argTypes := #[23, 23] }) (base : Nat) (v : Value) (xs : List Int) (w : World) (hs : a.eval s = v) (hown : OwnU base w v xs) (L : Nat) (hL : xs.length = L)
    (tb : TypeId) (H : Nat) (hx : a.eval x = .slice (some ⟨H, 0, none⟩) 3 3) (hH : w.heap.size = H) (hby : (L + 3) * 4 ≤ 140737488355328) (hbase : base ≤ w.heap.size)
    (h : ∀ g c w', Hid (OwnU base w' (.slice (some ⟨g, 0, none⟩) (L + 3) c) (xs ++ [5, 6, 7])) → Hid (KO w v.ownBlock w' (some g)) → wpList Try.prog ops Q rest (a.put o.dst (.slice (some ⟨g, 0, none⟩) (L + 3) c)) w') :
    wpList Try.prog ops Q (o :: rest) a (w.alloc (.cells #[.int .u32 5, .int .u32 6, .int .u32 7] tb)) := by
  subst hH hL
  obtain ⟨i0, hi, hz0, hz1, hz2⟩ := info_parts infoU
  refine wpList_append_own_at _ hgd s x 23 ho base 30 i0 _ 1 4 Try.underlying23 hi hz0 hz1 hz2 rfl (by decide) v _ _ hs (World.ownsRow.alloc hown.row _) ⟨w.heap.size, 0, none⟩ 3 3 [.int .u32 5, .int .u32 6, .int .u32 7] hx rfl (by
      intro j u' hj
      match j, hj with
      | 0, hj => simp at hj; subst hj; simp [Addr.add]
      | 1, hj => simp at hj; subst hj; simp [Addr.add]
      | 2, hj => simp at hj; subst hj; simp [Addr.add]) (by intro u' hu'; simp at hu'; rcases hu' with rfl | rfl | rfl <;> rfl) (by unfold maxLen; omega) hby (by simp; omega) ?_
  intro v' w' hown' hg _ hat
  have hO : OwnU base w' v' (xs ++ [5, 6, 7]) := ⟨by unfold wcs; rw [List.map_append, List.length_append]; exact hown', fun d hd => by
    rcases List.mem_append.1 hd with h | h
    · exact hown.u32 d h
    · simp at h; rcases h with rfl | rfl | rfl <;> exact ⟨by decide, by decide⟩⟩
  obtain ⟨g, c, rfl⟩ := ownsRow_form hO.row (by simp)
  have e : (xs ++ [5, 6, 7] : List Int).length = xs.length + 3 := by simp
  rw [e] at hO hat ⊢
  refine h g c w' hO ⟨((Below.refl 0 w).alloc (Nat.zero_le _) _).grown hg (Nat.zero_le _) (fun _ _ => Nat.zero_le _), ?_, fun k hk hne => ?_⟩
  · rcases hat with h | h
    · exact .inl h
    · exact .inr ⟨_, h, by simp⟩
  · rw [hg.block k (by simp; omega) hne]
    exact Below.heap_alloc _ _ _ hk

theorem OwnU.pre {N g K c : Nat} {w : World} {ms ys : List Int} (h : OwnU N w (.slice (some ⟨g, 0, none⟩) K c) (ms ++ ys)) : Wds w (some ⟨g, 0, none⟩) ms := by
  have hw := h.wds
  refine ⟨by have := hw.small; rw [List.length_append] at this; omega, fun i hi => ?_, fun d hd => h.u32 d (List.mem_append_left _ hd)⟩
  obtain ⟨b, o, e, hb, hc⟩ := hw.cells i (by rw [List.length_append]; omega)
  refine ⟨b, o, e, hb, ?_⟩
  rw [List.getElem_append_left hi] at hc
  exact hc
theorem OwnU.cap {N g K c : Nat} {w : World} {ms : List Int} (h : OwnU N w (.slice (some ⟨g, 0, none⟩) K c) ms) : K ≤ c ∧ c ≤ 9223372036854775807 := by
  rcases h.row.2 with ⟨h0, -⟩ | ⟨g', c', cur, hv, hg, hb, hnc, hcm, -⟩
  · cases h0
  · cases hv; have := h.row.1; unfold maxLen at hcm; exact ⟨hnc, by omega⟩

/-- the room stays -/
structure RS (w : World) (g c L : Nat) (ms : List Int) (W : World) : Prop where
  bel : Below w.heap.size w W
  own : OwnU w.heap.size W (.slice (some ⟨g, 0, none⟩) (L + 3) c) (ms ++ [5, 6, 7])
theorem RS.next {w : World} {g c L : Nat} {ms : List Int} {W W' : World} (h : RS w g c L ms W) (hb : Below W.heap.size W W') : RS w g c L ms W' := ⟨h.bel.trans (hb.mono h.bel.size), h.own.bel hb⟩
theorem RS.drewN {w : World} {g c L : Nat} {ms : List Int} {W : World} (h : RS w g c L ms W) (q : Nat) : RS w g c L ms (W.drewN q) := h.next ⟨rfl, rfl, rfl, Nat.le_refl _, fun _ _ => rfl⟩
theorem RS.at1 {w : World} {g c L : Nat} {ms : List Int} {W : World} (h : RS w g c L ms W) (k : Nat) (hk : k < ms.length) : W.cell? ⟨g, k, none⟩ = some (.int .u32 ms[k]) := by
  obtain ⟨b, o, e, -, hc⟩ := h.own.pre.cells k hk
  cases e; simpa using hc
theorem RS.at2 {w : World} {g c L : Nat} {ms : List Int} {W : World} (h : RS w g c L ms W) (hL : ms.length = L) (k : Nat) (hk : L ≤ k) (hk2 : k < L + 3) : W.cell? ⟨g, k, none⟩ = some (.int .u32 (5 + (k : Int) - L)) := by
  obtain ⟨b, o, e, -, hc⟩ := h.own.wds.cells k (by simp; omega)
  cases e
  rw [Nat.zero_add] at hc
  rw [hc, List.getElem_append_right (by omega)]
  have : k - ms.length = 0 ∨ k - ms.length = 1 ∨ k - ms.length = 2 := by omega
  congr 2
  rcases this with e | e | e <;> simp only [e] <;> simp <;> omega
theorem RS.lt {w : World} {g c L : Nat} {ms : List Int} {W : World} (h : RS w g c L ms W) : w.heap.size ≤ g ∧ g < W.heap.size := h.own.row.lt g rfl
/-- a list of numbers is written over -/
structure AtK (w4 : World) (gt n : Nat) (wr : World) : Prop where
  kp : KO w4 (some gt) wr (some gt)
  cells : ∀ j, j < n → (∃ y, wr.cell? ⟨gt, j, none⟩ = some (.int .i64 y)) ∧ wr.frozen? ⟨gt, j, none⟩ = false
theorem AtK.next {w4 : World} {gt n : Nat} {wr : World} (h : AtK w4 gt n wr) (k : Nat) (x : Int) : AtK w4 gt n (wr.setCell ⟨gt, k, none⟩ (.int .i64 x)) := by
  refine ⟨h.kp.trans ⟨below_set _ _ _ _, .inl rfl, fun b _ hne => heap_set _ _ _ _ _ (fun e => hne (by rw [e]))⟩, fun j hj => ⟨?_, by rw [World.frozen?_setCell]; exact (h.cells j hj).2⟩⟩
  obtain ⟨y, hy⟩ := (h.cells j hj).1
  by_cases e : k = j
  · subst e; exact ⟨x, World.cell?_setCell_same' _ _ _ (by rw [hy]; rfl)⟩
  · exact ⟨y, (World.cell?_setCell_other _ _ _ _ (fun e2 => by cases e2; exact e rfl)).trans hy⟩
theorem AtK.drew {w4 : World} {gt n : Nat} {wr : World} (h : AtK w4 gt n wr) : AtK w4 gt n wr.drew := ⟨⟨h.kp.str.drew, h.kp.now, h.kp.block⟩, h.cells⟩
theorem RS.ko {w : World} {g c L : Nat} {ms : List Int} {W W' : World} {o o' : Option Nat} (h : RS w g c L ms W) (hk : KO W o W' o') (ho : ∀ x, o = some x → w.heap.size ≤ x ∧ x ≠ g) : RS w g c L ms W' := by
  refine ⟨⟨hk.str.os.trans h.bel.os, hk.str.tape.trans h.bel.tape, hk.str.output.trans h.bel.output, Nat.le_trans h.bel.size hk.size, fun k hk2 => (hk.block k (Nat.lt_of_lt_of_le hk2 h.bel.size) (fun e => by have := (ho k e.symm).1; omega)).trans (h.bel.block k hk2)⟩, row_kept h.own.row (fun g' e => ?_), h.own.u32⟩
  have e' : g = g' := by simpa [Value.ownBlock] using e
  subst e'
  exact hk.block g h.lt.2 (fun e => (ho g e.symm).2 rfl)

theorem RS.kt {w : World} {g c L : Nat} {ms : List Int} {W W' : World} {bt : Nat} {o1' o2' : Option Nat} (h : RS w g c L ms W) (hk : KT bt W none none W' o1' o2') (hb : w.heap.size ≤ bt) (hg : g < bt) : RS w g c L ms W' := by
  refine ⟨h.bel.trans (hk.below (Nat.le_trans h.bel.size (Nat.le_refl _)) hb (fun g e => by cases e) (fun g e => by cases e)), row_kept h.own.row (fun g' e => ?_), h.own.u32⟩
  have e' : g = g' := by simpa [Value.ownBlock] using e
  subst e'
  exact hk.block g h.lt.2 (by omega) (by simp) (by simp)
theorem first_ws : nodeWs 1 0 0 1 0 0 ++ [(0, 1)] = [(4, 1), (5, 0), (6, 0), (7, 0), (0, 1)] := by decide
theorem first_sk : skP [] 0 0 1 0 0 = some (((0 : Nat) : Int), 0) := by unfold skP; rw [if_pos (.inl rfl)]; rfl

/-- how the loop over the writes stands -/
structure RL (w : World) (g c L : Nat) (ms : List Int) (N : Nat) (wa : Option Addr) (ws : List (Nat × Int)) (k : Nat) (u : Value) (wr : World) : Prop where
  rs : RS w g c L ms wr
  wr6 : Wr6 N wr wa ws
  own : OwnU N wr u (putsP [] (ws.take k))
  gN : g < N
  wN : w.heap.size ≤ N
  le : N ≤ wr.heap.size
theorem RL.bel {w : World} {g c L : Nat} {ms : List Int} {N : Nat} {wa : Option Addr} {ws : List (Nat × Int)} {k : Nat} {u : Value} {wr w' : World} (h : RL w g c L ms N wa ws k u wr) (hb : Below wr.heap.size wr w') : RL w g c L ms N wa ws k u w' :=
  ⟨h.rs.next hb, h.wr6.ko (KO.bel (o := none) hb) (fun x e => by cases e), h.own.bel hb, h.gN, h.wN, Nat.le_trans h.le hb.size⟩
theorem RL.next {w : World} {g c L : Nat} {ms : List Int} {N : Nat} {wa : Option Addr} {ws : List (Nat × Int)} {k : Nat} {u u' : Value} {wr w' : World} (h : RL w g c L ms N wa ws k u wr) (hk : k < ws.length) (ho : OwnU N w' u' (putP (putsP [] (ws.take k)) ws[k].1 ws[k].2)) (kp : KO wr u.ownBlock w' u'.ownBlock) : RL w g c L ms N wa ws (k + 1) u' w' := by
  have hge : ∀ x, u.ownBlock = some x → N ≤ x := fun x e => (h.own.row.lt x e).1
  have h1 := h.gN
  have h2 := h.wN
  exact ⟨h.rs.ko kp (fun x e => by have := hge x e; omega), h.wr6.ko kp hge, by rw [putsP_snoc hk]; exact ho, h.gN, h.wN, Nat.le_trans h.le kp.size⟩

theorem first_mem : putsP [] [((4 : Nat), (1 : Int)), (5, 0), (6, 0), (7, 0), (0, 1)] = [1, 0, 0, 0, 1, 0, 0, 0] := by decide
theorem first_find (a : Int) : findP [1, 0, 0, 0, 1, 0, 0, 0] a = 1 := by
  have e0 : wd [1, 0, 0, 0, 1, 0, 0, 0] 0 = 1 := rfl
  have e4 : wd [1, 0, 0, 0, 1, 0, 0, 0] (1 * 4) = 1 := rfl
  have hz : wd [1, 0, 0, 0, 1, 0, 0, 0] (1 * 4 + (2 + sdI a 0)) = 0 := by
    rcases sdI_01 a 0 with h | h <;> rw [h] <;> rfl
  unfold findP dsc
  rw [e0, if_neg (by decide), e4]
  rw [show (1 : Int) / 65536 = 0 by decide, show (1 : Int) % 65536 = 1 by decide, if_neg (by decide), if_neg (fun h => absurd h.1 (by decide))]
  unfold dsc
  rw [hz, if_pos rfl]; rfl
theorem nil_find (a : Int) : findP [] a = 0 := by
  have e : wd [] 0 = 0 := rfl
  unfold findP dsc; rw [if_pos e]

set_option maxRecDepth 100000 in
set_option maxHeartbeats 4000000 in
theorem raw_any (va : Option Addr) (cap : Nat) (ms : List Int) (L : Nat) (hL : ms.length = L) (hsz : (L + 3) * 4 ≤ 140737488355328) (a : Int) (a0 : 0 ≤ a) (a1 : a < 4294967296) (w : World) (h : Wds w va ms) (hnil : va = none → L = 0 ∧ cap = 0) :
    Calls Try.prog 5 #[.slice va L cap, .int .u32 a] w fun e w' => e = .returned (.bool true) ∧ Below w.heap.size w w' := by
  have H : Hid (Wds w va ms) := h
  have HL : Hid (ms.length = L) := hL
  have HNIL : Hid (va = none → L = 0 ∧ cap = 0) := hnil
  clear h hL hnil
  go_enter Try.func5, Try.ntmps5
  have HE : Hid (OwnU w.heap.size (w.alloc (Obj.cells #[] 30)) (.slice (some ⟨w.heap.size, 0, none⟩) 0 0) []) := ⟨World.ownsRow_made w #[] 0 (Nat.le_refl _) (by unfold maxLen; omega) rfl, by simp⟩
  have hbE : Below w.heap.size w (w.alloc (Obj.cells #[] 30)) := (Below.refl _ w).alloc (Nat.le_refl _) _
  go_wp2_with (at_builtin; refine app_src rfl _ _ rfl w.heap.size (.slice (some ⟨w.heap.size, 0, none⟩) 0 0) [] (w.alloc (Obj.cells #[] 30)) rfl HE.out va L cap ms HL.out rfl (H.out.bel hbE) HNIL.out (by simp; omega) hbE.size ?_)
  intro v1 w1 ho1 hk1
  have HO1 : Hid (OwnU w.heap.size w1 v1 ms) := ho1
  clear ho1
  have hb1 : Below w.heap.size w w1 := by
    have := hk1.out
    exact ⟨this.str.os.trans hbE.os, this.str.tape.trans hbE.tape, this.str.output.trans hbE.output, Nat.le_trans hbE.size this.size, fun k hk => (this.block k (Nat.lt_of_lt_of_le hk hbE.size) (fun e => by simp [Value.ownBlock] at e; omega)).trans (hbE.block k hk)⟩
  have HB1 : Hid (Below w.heap.size w w1) := hb1
  have hs1 : w.heap.size ≤ w1.heap.size := hb1.size
  clear hk1 hb1
  go_wp2_with (at_builtin; refine app_567 rfl _ _ rfl w.heap.size v1 ms w1 rfl HO1.out L HL.out 30 w1.heap.size rfl rfl hsz hs1 ?_)
  intro g c w2 ho2 hk2
  have HB2 : Hid (Below w.heap.size w w2) := by
    have := hk2.out
    exact ⟨this.str.os.trans HB1.out.os, this.str.tape.trans HB1.out.tape, this.str.output.trans HB1.out.output, Nat.le_trans hs1 this.size, fun k hk => (this.block k (Nat.lt_of_lt_of_le hk hs1) (fun e => by have := (HO1.out.row.lt _ e.symm).1; omega)).trans (HB1.out.block k hk)⟩
  have HO2 : Hid (OwnU w.heap.size w2 (.slice (some ⟨g, 0, none⟩) (L + 3) c) (ms ++ [5, 6, 7])) := ho2
  have hgl := HO2.out.row.lt g rfl
  have hcap := HO2.out.cap
  have hc1 : (L : Int) ≤ (c : Int) := by omega
  have hc0 : (0 : Int) ≤ (L : Int) := by omega
  have hc2 : c ≤ 9223372036854775807 := hcap.2
  have HR2 : Hid (RS w g c L ms w2) := ⟨HB2.out, HO2.out⟩
  clear ho2 hk2 hcap HO1 HB1 HE HO2 HB2 hgl
  obtain ⟨R, hR⟩ : ∃ R, findP ms a = R := ⟨_, rfl⟩
  have HFD : Hid (∀ W, RS w g c L ms W → Calls Try.prog 13 #[.slice (some ⟨g, 0, none⟩) L c, .int .u32 a] W fun e w' => e = .returned (.int .i64 R) ∧ Below W.heap.size W w') := fun W hW => hR ▸ find_any (some ⟨g, 0, none⟩) c ms L HL.out a a0 a1 W hW.own.pre
  obtain ⟨T, hT⟩ : ∃ T, touchP ms a = T := ⟨_, rfl⟩
  have HTC : Hid (∀ W, RS w g c L ms W → Calls Try.prog 16 #[.slice (some ⟨g, 0, none⟩) L c, .int .u32 a] W fun e w' => ∃ g' c', e = .returned (.slice (some ⟨g', 0, none⟩) T.length c') ∧ w'.ownsRow W.heap.size 3 1 (.slice (some ⟨g', 0, none⟩) T.length c') T.length (ics T) ∧ Below W.heap.size W w') := fun W hW => touched_any (some ⟨g, 0, none⟩) c ms L HL.out a a0 a1 W hW.own.pre T hT (fun b o e => by cases e; exact hW.lt.2)
  clear hR hT
  go_wp2_with fail
  refine (HFD.out w2 HR2.out).mono ?_
  rintro e w3 ⟨rfl, hb3⟩
  have HR3 : Hid (RS w g c L ms w3) := HR2.out.next hb3
  clear hb3
  go_wp2_with fail
  refine (HTC.out w3 HR3.out).mono ?_
  rintro e w4 ⟨gt, ct, rfl, hrow4, hb4⟩
  have HR4 : Hid (RS w g c L ms w4) := HR3.out.next hb4
  have hgt : w3.heap.size ≤ gt := (hrow4.lt gt rfl).1
  have hgg := HR3.out.lt
  have HAK : Hid (AtK w4 gt T.length w4) := by
    refine ⟨KO.refl _ _, fun j hj => ⟨⟨T[j], ?_⟩, hrow4.frozenAt j⟩⟩
    rw [hrow4.cellAt j (by omega)]; simp [ics, hj]
  have HTL : Hid (T.length ≤ 9223372036854775807) := by
    rcases hrow4.2 with ⟨h0, -⟩ | ⟨g', c', cur, hv, hg, hb, hnc, hcm, -⟩
    · cases h0
    · show T.length ≤ _; unfold maxLen at hcm; omega
  obtain ⟨nT, hnT⟩ : ∃ nT, T.length = nT := ⟨_, rfl⟩
  rw [hnT] at HAK HTL ⊢
  have hTl := HTL.out
  clear hrow4 hb4 hnT
  go_wp2_with fail
  go_loopw [36] (fun i wr => ∃ k : Nat, k ≤ nT ∧ i = .int .i64 k ∧ AtK w4 gt nT wr) (fun i _ => nT - (intOf i).toNat)
  case atStart => exact ⟨0, by omega, rfl, HAK.out⟩
  case round =>
    obtain ⟨k, hk, rfl, hat⟩ := hrel
    have HAT : Hid (AtK w4 gt nT wr) := hat
    by_cases hlt : k < nT
    · obtain ⟨⟨y, hy⟩, hf⟩ := hat.cells k hlt
      have hkk : (k : Int) < nT := by omega
      have kk0 : (0 : Int) ≤ k := by omega
      clear hat
      have HAN : Hid (AtK w4 gt nT (wr.setCell ⟨gt, k, none⟩ (.int .i64 (-1)))) := HAT.out.next k (-1)
      go_wp2_with fail
      go_roundw
      case rel => exact ⟨k + 1, by omega, by simp, HAN.out⟩
      case measure => simp [intOf]; omega
    · obtain rfl : k = nT := by omega
      clear hat
      have HR5 : Hid (RS w g c L ms wr) := HR4.out.ko HAT.out.kp (fun x e => by cases e; omega)
      clear HAT HAK
      go_wp2_with fail
      go_loopw [45] (fun i wq => ∃ k : Nat, k ≤ L + 3 ∧ i = .int .i64 k ∧ RS w g c L ms wq) (fun i _ => L + 3 - (intOf i).toNat)
      case atStart => exact ⟨0, by omega, rfl, HR5.out⟩
      case round =>
        obtain ⟨k, hk, rfl, hrs⟩ := hrel
        have HRS : Hid (RS w g c L ms wr) := hrs
        by_cases hlt : k < L + 3
        · have hkk : (k : Int) < ((L + 3 : Nat) : Int) := by omega
          have hkk2 : (k : Int) < (L : Int) + 3 := by omega
          have kk0 : (0 : Int) ≤ k := by omega
          by_cases hkL : k < L
          · have hkm : k < ms.length := by rw [HL.out]; exact hkL
            have cR := hrs.at1 k hkm
            obtain ⟨b, o, rfl, -, cM⟩ := (H.out.bel hrs.bel).cells k hkm
            obtain ⟨y, hy⟩ : ∃ y, ms[k] = y := ⟨_, rfl⟩
            rw [hy] at cR cM
            have hkL' : (k : Int) < L := by omega
            have hdec : decide ((k : Int) < L) = true := by simp; omega
            have hdec2 : decide (L ≤ k) = false := by simp; omega
            clear hrs hy
            go_wp2_with fail
            go_quiet (fail)
            have HRN : Hid (RS w g c L ms (wr.drewN nq)) := HRS.out.drewN nq
            go_wp2_with fail
            exact ⟨⟨k + 1, by omega, by simp, HRN.out⟩, by simp [intOf]; omega⟩
          · have cR := hrs.at2 HL.out k (by omega) hlt
            obtain ⟨y, hy⟩ : ∃ y, 5 + (k : Int) - L = y := ⟨_, rfl⟩
            have hw : IntKind.u32.wrap (5 + (k : Int) - L) = y := by rw [hy]; exact wrap_u32 y (by omega) (by omega)
            have hkL' : ¬ (k : Int) < L := by omega
            have hdec : decide ((k : Int) < L) = false := by simp; omega
            have hge : (L : Int) ≤ k := by omega
            rw [hy] at cR
            clear hrs
            go_wp2_with fail
            go_quiet (fail)
            have HRN : Hid (RS w g c L ms (wr.drewN nq)) := HRS.out.drewN nq
            go_wp2_with fail
            exact ⟨⟨k + 1, by omega, by simp, HRN.out⟩, by simp [intOf]; omega⟩
        · obtain rfl : k = L + 3 := by omega
          clear hrs
          go_wp2_with fail
          refine (new_any wr).mono ?_
          rintro e w5 ⟨rfl, ht5, hb5, hs5⟩
          have HR6 : Hid (RS w g c L ms w5) := HRS.out.next hb5
          have hwr := HRS.out.bel.size
          have hgr := HRS.out.lt
          obtain ⟨bt, hbt⟩ : ∃ bt, wr.heap.size = bt := ⟨_, rfl⟩
          rw [hbt] at ht5 hs5 hwr hgr ⊢
          have HT5 : Hid (Tab (bt + 1) w5 bt [] 0 [] none none) := ht5
          have hs5' : bt < w5.heap.size := by omega
          clear ht5 hb5 hbt hs5
          have HSET : Hid (Calls _ _ _ _ _) := set_new (bt + 1) bt [] 0 [] none none (by decide) (by decide) (by simp) 0 0 1 (by decide) (by decide) (by decide) (by decide) (by decide) 1 0 0 (by decide) first_sk rfl 1 rfl w5 HT5.out
          rw [first_ws] at HSET
          go_wp2_with fail
          refine HSET.out.mono ?_
          rintro e w6 ⟨v6, o1', o2', rfl, ht6, hk6, ho6⟩
          have HR7 : Hid (RS w g c L ms w6) := HR6.out.kt hk6 hwr hgr.2
          obtain ⟨wa, wc, rfl⟩ := ho6.form
          have HO6 : Hid (Own w5.heap.size w6 bt o1' o2' (.slice wa 5 wc) [(4, 1), (5, 0), (6, 0), (7, 0), (0, 1)]) := ho6
          have hs6 : w5.heap.size ≤ w6.heap.size := hk6.size
          have hg6 := HR7.out.lt
          have HRL : Hid (RL w g c L ms w6.heap.size wa [(4, 1), (5, 0), (6, 0), (7, 0), (0, 1)] 0 (.slice none 0 0) w6) := ⟨HR7.out, HO6.out.wr6 (by simp), ⟨World.ownsRow_nil _ _ _ _, by simp [putsP]⟩, hg6.2, HR7.out.bel.size, Nat.le_refl _⟩
          obtain ⟨W5, hW5⟩ : ∃ x, [((4 : Nat), (1 : Int)), (5, 0), (6, 0), (7, 0), (0, 1)] = x := ⟨_, rfl⟩
          have hWl : W5.length = 5 := by rw [← hW5]; rfl
          have HWk : Hid (∀ y ∈ W5, y.1 ≤ 7) := by show ∀ y ∈ W5, y.1 ≤ 7; rw [← hW5]; decide
          rw [hW5] at HRL
          have HW5 : Hid ([((4 : Nat), (1 : Int)), (5, 0), (6, 0), (7, 0), (0, 1)] = W5) := hW5
          have HWL : Hid (W5.length = 5) := hWl
          clear ht6 hk6 ho6 HSET HO6 hW5 hWl
          go_wp2_with fail
          go_loopw [13, 94] (fun u i wr => ∃ k : Nat, k ≤ 5 ∧ i = .int .i64 k ∧ RL w g c L ms w6.heap.size wa W5 k u wr) (fun _ i _ => 5 - (intOf i).toNat)
          case atStart => exact ⟨0, by omega, rfl, HRL.out⟩
          case round =>
            obtain ⟨k, hk, rfl, hrl⟩ := hrel
            have HRK : Hid (RL w g c L ms w6.heap.size wa W5 k u13 wr) := hrl
            by_cases hlt : k < 5
            · have hkd : k < W5.length := by rw [HWL.out]; exact hlt
              obtain ⟨b, o, rfl, hbN, hbl, c0, c1⟩ := hrl.wr6.cells k hkd
              have hmem := List.getElem_mem hkd
              have hxI := hrl.wr6.u32 _ hmem
              have hk7 := HWk.out _ hmem
              obtain ⟨⟨k1, x1⟩, hy⟩ : ∃ y, W5[k] = y := ⟨_, rfl⟩
              rw [hy] at c0 c1 hxI hk7
              have HY : Hid (W5[k] = (k1, x1)) := hy
              have hx0 : 0 ≤ x1 := hxI.1
              have hx1 : x1 < 4294967296 := hxI.2
              have hk77 : k1 ≤ 7 := hk7
              have hkk : (k : Int) < 5 := by omega
              have kk0 : (0 : Int) ≤ k := by omega
              clear hrl hmem hxI hk7 hy
              go_wp2_with fail
              obtain ⟨wB, hwB⟩ : ∃ wB, wr.alloc (Obj.cells #[.int .i64 (k1 : Int), .int .u32 x1] 43) = wB := ⟨_, rfl⟩
              have hbB : Below wr.heap.size wr wB := by rw [← hwB]; exact (Below.refl _ wr).alloc (Nat.le_refl _) _
              have HRB : Hid (RL w g c L ms w6.heap.size (some ⟨b, o, none⟩) W5 k u13 wB) := HRK.out.bel hbB
              rw [hwB]
              clear hwB c0 c1
              refine (fibPut_any w6.heap.size u13 (putsP [] (W5.take k)) k1 x1 hx0 hx1 1 (by decide) (by decide) (by omega) (by omega) wB HRB.out.own HRB.out.le).mono ?_
              rintro e w7 ⟨u', rfl, ho7, hk7⟩
              have HRN : Hid (RL w g c L ms w6.heap.size (some ⟨b, o, none⟩) W5 (k + 1) u' w7) := HRB.out.next hkd (by rw [HY.out]; exact ho7) hk7
              clear ho7 hk7
              go_wp2_with fail
              exact ⟨⟨k + 1, by omega, by simp, HRN.out⟩, by simp [intOf]; omega⟩
            · obtain rfl : k = 5 := by omega
              have hown5 := hrl.own
              rw [List.take_of_length_le (by rw [HWL.out]; exact Nat.le_refl _), ← HW5.out, first_mem] at hown5
              obtain ⟨ua, uc, rfl⟩ := hown5.form
              have HU : Hid (OwnU w6.heap.size wr (.slice ua 8 uc) [1, 0, 0, 0, 1, 0, 0, 0]) := hown5
              have HRF : Hid (RS w g c L ms wr) := hrl.rs
              clear hrl hown5
              have HF1 : Hid (Calls _ _ _ _ _) := find_any ua uc [1, 0, 0, 0, 1, 0, 0, 0] 8 rfl a a0 a1 wr HU.out.wds
              rw [first_find] at HF1
              have HF3 : Hid (∀ W, Calls Try.prog 13 #[.slice none 0 0, .int .u32 a] W fun e w' => e = .returned (.int .i64 0) ∧ Below W.heap.size W w') := fun W => nil_find a ▸ find_any none 0 [] 0 rfl a a0 a1 W ⟨by simp, fun i hi => absurd hi (by simp), by simp⟩
              go_wp2_with fail
              refine HF1.out.mono ?_
              rintro e w8 ⟨rfl, hb8⟩
              have HR8 : Hid (RS w g c L ms w8) := HRF.out.next hb8
              clear hb8
              go_wp2_with fail
              refine (HFD.out w8 HR8.out).mono ?_
              rintro e w9 ⟨rfl, hb9⟩
              have HR9 : Hid (RS w g c L ms w9) := HR8.out.next hb9
              clear hb9
              go_wp2_with fail
              refine (HF3.out w9).mono ?_
              rintro e w10 ⟨rfl, hb10⟩
              have HR10 : Hid (RS w g c L ms w10) := HR9.out.next hb10
              clear hb10
              go_wp2_with fail
              go_ret
              exact ⟨rfl, HR10.out.bel⟩
end Go.Proofs.Ytgdaihliomihcac.Fb
