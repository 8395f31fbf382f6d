/- policyPattern: what it answers. -/
import Derived.Test.YtagfdmkgnedlbagPoE
namespace Go.Proofs.Ytagfdmkgnedlbag.Po
open Go.ChangeShapes Go.WideShapes Go.ChangeAt Go.RowKit Go.Joins Go.Proofs.Ytagfdmkgnedlbag.Ge
set_option linter.unusedVariables false

/-- a pattern's parts lie from lo on, below hi -/
inductive PR (w : World) (lo hi : Nat) : Pat → Option Addr → Prop
  | mk {k n : Int} {sub : List Pat} {a : Option Addr} (b o : Nat) (av : Nat → Option Addr) (cv : Nat → Nat) :
     (∀ i (h : i < sub.length), a = some ⟨b, o, none⟩ ∧ (lo ≤ b ∧ b < hi) ∧ w.cell? ⟨b, o + i * 3, none⟩ = some (.int .i64 sub[i].kind) ∧ w.cell? ⟨b, o + i * 3 + 1, none⟩ = some (.int .i64 sub[i].num) ∧ w.cell? ⟨b, o + i * 3 + 2, none⟩ = some (.slice (av i) sub[i].sub.length (cv i))) →
     (∀ i (h : i < sub.length), PR w lo hi sub[i] (av i)) → PR w lo hi (.mk k n sub) a
theorem PR.keep {w w' : World} {lo hi : Nat} (hk : ∀ b, lo ≤ b → b < hi → w'.heap[b]? = w.heap[b]?) {p : Pat} {a : Option Addr} (h : PR w lo hi p a) : PR w' lo hi p a := by
  induction h with
  | mk b o av cv h1 h2 ih =>
    refine .mk b o av cv (fun i hi => ?_) ih
    obtain ⟨e, ⟨hl, hh⟩, c0, c1, c2⟩ := h1 i hi
    have e1 := hk b hl hh
    exact ⟨e, ⟨hl, hh⟩, (World.cell?_of_block (w := w) e1).trans c0, (World.cell?_of_block (w := w) e1).trans c1, (World.cell?_of_block (w := w) e1).trans c2⟩
theorem PR.mono {w : World} {lo hi lo' hi' : Nat} (h1 : lo' ≤ lo) (h2 : hi ≤ hi') {p : Pat} {a : Option Addr} (h : PR w lo hi p a) : PR w lo' hi' p a := by
  induction h with
  | mk b o av cv g1 g2 ih => exact .mk b o av cv (fun i hi => by obtain ⟨e, ⟨hl, hh⟩, c⟩ := g1 i hi; exact ⟨e, ⟨by omega, by omega⟩, c⟩) ih
theorem PR.pa {w : World} {lo hi : Nat} {p : Pat} {a : Option Addr} (h : PR w lo hi p a) : PA w hi p a := by
  induction h with
  | mk b o av cv g1 g2 ih => exact .mk b o av cv (fun i hi => by obtain ⟨e, ⟨hl, hh⟩, c⟩ := g1 i hi; exact ⟨e, hh, c⟩) ih
def EP : El (Pat × Option Addr × Nat) := ⟨24, 22, 3, 40, .agg #[.int .i64 0, .int .i64 0, .slice none 0 0], fun q => [.int .i64 q.1.kind, .int .i64 q.1.num, .slice q.2.1 q.1.sub.length q.2.2], by decide, by decide, fun _ => rfl, fun x u hu => by simp at hu; rcases hu with rfl | rfl | rfl <;> rfl, Try.underlying22, by kernel_rfl, rfl⟩
/-- copies, each in memory of its own -/
def El1 (s : Nat) (w : World) (own : Option Nat) (q : Pat × Option Addr × Nat) : Prop := ∃ lo hi, PR w lo hi q.1 q.2.1 ∧ hi ≤ w.heap.size ∧ s ≤ lo ∧ ∀ g, own = some g → ¬ (lo ≤ g ∧ g < hi)
/-- copies in a list are a pattern's parts -/
theorem pr_of {s : Nat} {w : World} {av : Option Addr} {i cv : Nat} {L : List (Pat × Option Addr × Nat)} (ho : OwnL EP (s + 2) w (.slice av i cv) L) (hel : ∀ q ∈ L, El1 (s + 2) w (Value.slice av i cv).ownBlock q) (k n : Int) : PR w s w.heap.size (.mk k n (L.map (·.1))) av := by
  cases L with
  | nil => exact .mk 0 0 (fun _ => none) (fun _ => 0) (fun j h => absurd h (by simp)) (fun j h => absurd h (by simp))
  | cons x L' =>
    obtain ⟨b, o, e, hl, -⟩ := ho.lst.1.cells 0 (by simp)
    obtain ⟨a2, c2, e2, -, -, hb⟩ := ho.form
    cases e2
    obtain ⟨rfl, hb1, hb2⟩ := hb b o e
    refine .mk b 0 (fun j => ((x :: L').getD j (.mk 0 0 [], none, 0)).2.1) (fun j => ((x :: L').getD j (.mk 0 0 [], none, 0)).2.2) (fun j h => ?_) (fun j h => ?_)
    · have hj : j < (x :: L').length := by simpa using h
      obtain ⟨b', o', e', -, hc⟩ := ho.lst.1.cells j hj
      rw [e] at e'
      cases e'
      have e9 : (x :: L').getD j (.mk 0 0 [], none, 0) = (x :: L')[j] := by rw [List.getD_eq_getElem?_getD, List.getElem?_eq_getElem hj]; rfl
      rw [e9, List.getElem_map]
      exact ⟨e, ⟨by omega, hb2⟩, hc 0 (by decide), hc 1 (by decide), hc 2 (by decide)⟩
    · have hj : j < (x :: L').length := by simpa using h
      have e9 : (x :: L').getD j (.mk 0 0 [], none, 0) = (x :: L')[j] := by rw [List.getD_eq_getElem?_getD, List.getElem?_eq_getElem hj]; rfl
      rw [e9, List.getElem_map]
      obtain ⟨lo, hi, h1, h2, h3, -⟩ := hel _ (List.getElem_mem hj)
      exact h1.mono (by omega) h2
/-- what copying is to do -/
def Cc (p : Pat) : Prop := ∀ (a : Option Addr) (c : Nat) (w : World), PA w w.heap.size p a →
  Calls Try.prog 5 #[pv p a c] w fun e w' => ∃ a' c', e = .returned (pv p a' c') ∧ PR w' w.heap.size w'.heap.size p a' ∧ Below w.heap.size w w'
set_option maxRecDepth 100000 in
set_option maxHeartbeats 4000000 in
theorem pcopy_any : ∀ (z : Nat) (p : Pat), sz p ≤ z → sz p ≤ 1048576 → Cc p := by
  intro z
  induction z with
  | zero => intro p hz; have := sz_pos p; omega
  | succ z ih =>
    intro p hz hszp a c w hp
    have HIH : Hid (∀ q : Pat, sz q ≤ z → sz q ≤ 1048576 → Cc q) := ih
    have HSZ : Hid (∀ q ∈ p.sub, sz q ≤ z ∧ sz q ≤ 1048576) := fun q hq => by have := sz_sub hq; omega
    have HP : Hid (PA w w.heap.size p a) := hp
    obtain ⟨k, n, sub⟩ := p
    obtain ⟨pl, hpl⟩ : ∃ l, sub.length = l := ⟨_, rfl⟩
    have hpl20 : pl ≤ 1048576 := by
      have h1 := sz_mk k n sub
      have h3 : ∀ l : List Pat, l.length ≤ (l.map sz).sum := fun l => by
        induction l with
        | nil => simp
        | cons x l ih => simp only [List.map_cons, List.sum_cons, List.length_cons]; have := sz_pos x; omega
      have := h3 sub
      omega
    unfold pv
    dsimp only [Pat.kind, Pat.num, Pat.sub] at HSZ ⊢
    rw [hpl]
    obtain ⟨s, hs⟩ : ∃ s, w.heap.size = s := ⟨_, rfl⟩
    go_enter Try.func5, Try.ntmps5
    obtain ⟨w1, hw1⟩ : ∃ w1, (w.alloc (Obj.cells #[.int .i64 k, .int .i64 n, .slice a pl c] 24)).alloc (Obj.cells #[.int .i64 0, .int .i64 0, .slice none 0 0] 24) = w1 := ⟨_, rfl⟩
    have HX1 : Hid (w1.heap[s]? = some (Obj.cells #[.int .i64 k, .int .i64 n, .slice a pl c] 24)) := by
      rw [← hw1, ← hs]
      exact (((Below.refl _ (w.alloc _)).alloc (Nat.le_refl _) _).block w.heap.size (by simp)).trans (World.alloc_heap_new w _)
    have HY1 : Hid (w1.heap[s + 1]? = some (Obj.cells #[.int .i64 0, .int .i64 0, .slice none 0 0] 24)) := by
      have e1 : (w.alloc (Obj.cells #[.int .i64 k, .int .i64 n, .slice a pl c] 24)).heap.size = s + 1 := by rw [← hs]; simp
      rw [← hw1, ← e1]
      exact World.alloc_heap_new _ _
    have hs1 : w1.heap.size = s + 2 := by rw [← hw1, ← hs]; simp
    have HB1 : Hid (Below w.heap.size w w1) := by rw [← hw1]; exact ((Below.refl _ w).alloc (Nat.le_refl _) _).alloc (by simp) _
    obtain ⟨t0, t1, t2⟩ := cell_three HX1.out
    go_wp2_with fail
    try rw [hw1]
    clear t0 t1 t2
    go_loopw [3, 9] (fun sv iv wr => ∃ (i : Nat) (L : List (Pat × Option Addr × Nat)), i ≤ pl ∧ iv = .int .i64 (i : Int) ∧ OwnL EP (s + 2) wr sv L ∧ L.map (·.1) = sub.take i ∧ (∀ q ∈ L, El1 (s + 2) wr sv.ownBlock q) ∧ Below (s + 2) w1 wr) (fun _ i _ => pl - (intOf i).toNat)
    case atStart => exact ⟨0, [], Nat.zero_le _, rfl, OwnL.nil _ _ _, rfl, fun q hq => by (cases hq), Below.refl _ _⟩
    case round =>
      obtain ⟨i, L, hi', rfl, ho, hm, hel, hb⟩ := hrel
      have HO : Hid (OwnL EP (s + 2) wr u3 L) := ho
      have HM : Hid (L.map (·.1) = sub.take i) := hm
      have HEL : Hid (∀ q ∈ L, El1 (s + 2) wr u3.ownBlock q) := hel
      have HBR : Hid (Below (s + 2) w1 wr) := hb
      have HBW : Hid (Below w.heap.size w wr) := HB1.out.trans (hb.mono (by omega))
      have hswr : s + 2 ≤ wr.heap.size := by have := hb.size; omega
      have hLl : L.length = i := by
        have := congrArg List.length hm
        rw [List.length_map, List.length_take] at this
        omega
      obtain ⟨x0, x1, x2⟩ := cell_three ((hb.block s (by omega)).trans HX1.out)
      clear ho hm hel hb
      by_cases hlt : i < pl
      · have hil : i < sub.length := by omega
        obtain ⟨pb, po, a', c', rfl, hpb, c0, c1, c2, hpa⟩ := (HP.out.bel HBW.out).at (i := i) hil
        obtain ⟨g1, g2⟩ := HSZ.out _ (List.getElem_mem hil)
        have HD : Hid (sub.take (i + 1) = sub.take i ++ [sub[i]]) := List.take_succ_eq_append_getElem hil
        have HIQ : Hid (Cc sub[i]) := HIH.out sub[i] g1 g2
        obtain ⟨q, hq⟩ : ∃ q, sub[i] = q := ⟨_, rfl⟩
        have HPA : Hid (PA wr w.heap.size q a') := by rw [← hq]; exact hpa
        rw [hq] at c0 c1 c2 HD HIQ
        obtain ⟨qk, qn, qs⟩ := q
        dsimp only [Pat.kind, Pat.num, Pat.sub] at c0 c1 c2
        obtain ⟨ql, hql⟩ : ∃ l, qs.length = l := ⟨_, rfl⟩
        rw [hql] at c2
        clear hpa hq
        obtain ⟨wA, hwA⟩ : ∃ wA, wr.alloc (Obj.cells #[.int .i64 qk, .int .i64 qn, .slice a' ql c'] 24) = wA := ⟨_, rfl⟩
        have HBA : Hid (Below wr.heap.size wr wA) := by rw [← hwA]; exact (Below.refl _ wr).alloc (Nat.le_refl _) _
        obtain ⟨sA, hsA⟩ : ∃ s, wr.heap.size = s := ⟨_, rfl⟩
        have hxA : wA.heap[sA]? = some (Obj.cells #[.int .i64 qk, .int .i64 qn, .slice a' ql c'] 24) := by rw [← hwA, ← hsA]; exact World.alloc_heap_new wr _
        obtain ⟨z0, z1, z2⟩ := cell_three hxA
        have HBWA : Hid (Below w.heap.size w wA) := HBW.out.trans (HBA.out.mono HBW.out.size)
        have ii : (i : Int) < pl := by omega
        have i0' : (0 : Int) ≤ i := by omega
        have HC := HIQ.out a' c' wA ((HPA.out.bel (HBA.out.mono HBW.out.size)).mono HBWA.out.size)
        unfold pv at HC
        dsimp only [Pat.kind, Pat.num, Pat.sub] at HC
        rw [hql] at HC
        obtain ⟨av, cv, rfl, -⟩ := HO.out.form
        rw [hLl]
        have HOL : Hid (OwnL EP (s + 2) wr (.slice av i cv) L) := by have h := HO.out; rw [hLl] at h; exact h
        rw [hLl] at HEL
        go_wp2_with fail
        refine HC.mono ?_
        rintro e w3 ⟨b', d', rfl, hpr, hb3⟩
        obtain ⟨w4, hw4⟩ : ∃ w4, w3.alloc (Obj.cells #[.int .i64 qk, .int .i64 qn, .slice b' ql d'] 24) = w4 := ⟨_, rfl⟩
        have HW4 : Hid (w4 = w3.alloc (Obj.cells (EP.enc (.mk qk qn qs, b', d')).toArray EP.e)) := by
          show w4 = w3.alloc (Obj.cells #[.int .i64 qk, .int .i64 qn, .slice b' qs.length d'] 24)
          rw [hql]; exact hw4.symm
        have HB34 : Hid (Below w3.heap.size w3 w4) := by rw [← hw4]; exact (Below.refl _ w3).alloc (Nat.le_refl _) _
        have HBr3 : Hid (Below wr.heap.size wr w3) := HBA.out.trans (hb3.mono HBA.out.size)
        have HBr4 : Hid (Below wr.heap.size wr w4) := HBr3.out.trans (HB34.out.mono HBr3.out.size)
        have HO4 : Hid (OwnL EP (s + 2) w4 (.slice av i cv) L) := HOL.out.bel HBr4.out
        have hN4 : s + 2 ≤ w4.heap.size := by have := HBr4.out.size; omega
        have HPR : Hid (PR w3 wA.heap.size w3.heap.size (.mk qk qn qs) b') := hpr
        have hAr : wr.heap.size < wA.heap.size := by rw [← hwA]; simp
        have h34 : w3.heap.size < w4.heap.size := by rw [← hw4]; simp
        have hA3 : wA.heap.size ≤ w3.heap.size := hb3.size
        have hLb : L.length ≤ 1099511627775 := by omega
        clear hpr hb3 HC
        go_wp2_with (at_builtin; refine list_app1 EP rfl _ _ 22 rfl rfl (s + 2) (.slice av i cv) L (.mk qk qn qs, b', d') hLb (w := w3) w4 rfl HO4.out rfl hN4 HW4.out ?_)
        intro v' w' ho' hg' hat'
        have HO5 : Hid (OwnL EP (s + 2) w' v' (L ++ [(Pat.mk qk qn qs, b', d')])) := ho'.out
        have HM5 : Hid ((L ++ [((Pat.mk qk qn qs, b', d') : Pat × Option Addr × Nat)]).map (·.1) = sub.take (i + 1)) := by
          show _ = _
          rw [List.map_append, HM.out, HD.out]
          rfl
        have hown : ∀ g, (Value.slice av i cv).ownBlock = some g → g < wr.heap.size := fun g e => (HOL.out.row.lt g e).2
        have HKK : Hid (∀ b, b < w4.heap.size → (∀ g, (Value.slice av i cv).ownBlock = some g → b ≠ g) → w'.heap[b]? = w4.heap[b]?) := fun b hb hne => hg'.out.block b hb (fun e => hne b e.symm rfl)
        have hsz' : w4.heap.size ≤ w'.heap.size := hg'.out.size
        have HE5 : Hid (∀ q ∈ L ++ [(Pat.mk qk qn qs, b', d')], El1 (s + 2) w' v'.ownBlock q) := fun q hq => by
          have hv : ∀ lo hi, hi ≤ w4.heap.size → (∀ g, (Value.slice av i cv).ownBlock = some g → ¬ (lo ≤ g ∧ g < hi)) → ∀ g, v'.ownBlock = some g → ¬ (lo ≤ g ∧ g < hi) := fun lo hi h1 h2 g e => by
            rcases hat'.out with e1 | e1
            · exact h2 g (by rw [← e1]; exact e)
            · rw [e1] at e; cases e; omega
          rcases List.mem_append.1 hq with hq | hq
          · obtain ⟨lo, hi, h1, h2, h3, h4⟩ := HEL.out q hq
            refine ⟨lo, hi, h1.keep (fun b hl hh => ?_), by omega, h3, hv lo hi (by have := HBr4.out.size; omega) h4⟩
            rw [HKK.out b (by have := HBr4.out.size; omega) (fun g e e2 => h4 g e ⟨by omega, by omega⟩)]
            exact HBr4.out.block b (by omega)
          · rw [List.mem_singleton.1 hq]
            refine ⟨wA.heap.size, w3.heap.size, HPR.out.keep (fun b hl hh => ?_), by omega, by omega, hv _ _ (by omega) (fun g e h => by have := hown g e; omega)⟩
            rw [HKK.out b (by omega) (fun g e e2 => by have := hown g e; omega)]
            exact HB34.out.block b hh
        have HB5 : Hid (Below (s + 2) w1 w') := by
          have h1 : Below (s + 2) w1 w4 := HBR.out.trans (HBr4.out.mono hswr)
          exact h1.trans ((Below.refl _ w4).grown hg'.out hN4 (fun g e => (HO4.out.row.lt g e).1))
        clear ho' hg' hat' hw4 HW4
        go_wp2_with fail
        exact ⟨⟨i + 1, _, by omega, by simp, HO5.out, HM5.out, HE5.out, HB5.out⟩, by simp [intOf]; omega⟩
      · obtain rfl : i = pl := by omega
        obtain ⟨av, cv, rfl, -, hvn, hvb⟩ := HO.out.form
        rw [hLl] at HO HEL ⊢
        have HLs : Hid (L.map (·.1) = sub) := by have h := HM.out; rw [← hpl, List.take_length] at h; exact h
        have hX : wr.heap[s]? = some (Obj.cells #[.int .i64 k, .int .i64 n, .slice a i c] 24) := (HBR.out.block s (by omega)).trans HX1.out
        have hY : wr.heap[s + 1]? = some (Obj.cells #[.int .i64 0, .int .i64 0, .slice none 0 0] 24) := (HBR.out.block (s + 1) (by omega)).trans HY1.out
        have z2 : wr.frozen? ⟨s, 2, none⟩ = false := (box_at hX (i := 2)).2
        obtain ⟨w5, hw5⟩ : ∃ w5, wr.setCell ⟨s, 2, none⟩ (.slice av i cv) = w5 := ⟨_, rfl⟩
        have hX5 : w5.heap[s]? = some (Obj.cells #[.int .i64 k, .int .i64 n, .slice av i cv] 24) := by rw [← hw5, box_set hX]; rfl
        have hY5 : w5.heap[s + 1]? = some (Obj.cells #[.int .i64 0, .int .i64 0, .slice none 0 0] 24) := by rw [← hw5]; exact (Below.heap_setCell wr ⟨s, 2, none⟩ _ (s + 1) (by show s + 1 ≠ s; omega)).trans hY
        obtain ⟨t0, t1, t2⟩ := cell_three hX5
        obtain ⟨v0, v1, v2⟩ := cell_three hY5
        have f0 : w5.frozen? ⟨s + 1, 0, none⟩ = false := (box_at hY5 (i := 0)).2
        have f1 : w5.frozen? ⟨s + 1, 1, none⟩ = false := (box_at hY5 (i := 1)).2
        have f2 : w5.frozen? ⟨s + 1, 2, none⟩ = false := (box_at hY5 (i := 2)).2
        obtain ⟨w6, hw6⟩ : ∃ w6, ((w5.setCell ⟨s + 1, 0, none⟩ (.int .i64 k)).setCell ⟨s + 1, 1, none⟩ (.int .i64 n)).setCell ⟨s + 1, 2, none⟩ (.slice av i cv) = w6 := ⟨_, rfl⟩
        have hY6 : w6.heap[s + 1]? = some (Obj.cells #[.int .i64 k, .int .i64 n, .slice av i cv] 24) := by rw [← hw6, box_set (box_set (box_set hY5 _) _)]; rfl
        have hk6 : ∀ b, s + 2 ≤ b → w6.heap[b]? = wr.heap[b]? := fun b hb => by
          rw [← hw6, ← hw5]
          exact (Below.heap_setCell _ ⟨s + 1, 2, none⟩ _ b (by show b ≠ s + 1; omega)).trans ((Below.heap_setCell _ ⟨s + 1, 1, none⟩ _ b (by show b ≠ s + 1; omega)).trans ((Below.heap_setCell _ ⟨s + 1, 0, none⟩ _ b (by show b ≠ s + 1; omega)).trans (Below.heap_setCell _ ⟨s, 2, none⟩ _ b (by show b ≠ s; omega))))
        have hsz6 : w6.heap.size = wr.heap.size := by rw [← hw6, ← hw5]; simp
        have HB6 : Hid (Below w.heap.size w w6) := by
          rw [← hw6, ← hw5]
          have hsw : w.heap.size ≤ s := by omega
          have hsw1 : w.heap.size ≤ s + 1 := by omega
          exact (((HBW.out.setCell (p := ⟨s, 2, none⟩) hsw _).setCell (p := ⟨s + 1, 0, none⟩) hsw1 _).setCell (p := ⟨s + 1, 1, none⟩) hsw1 _).setCell (p := ⟨s + 1, 2, none⟩) hsw1 _
        have HPR : Hid (PR w6 w.heap.size w6.heap.size (.mk k n sub) av) := by
          have ho6 : OwnL EP (s + 2) w6 (.slice av i cv) L := HO.out.blk (fun b e => hk6 b (HO.out.row.lt b e).1)
          have h := pr_of (s := s) ho6 (fun q hq => by
            obtain ⟨lo, hi, h1, h2, h3, h4⟩ := HEL.out q hq
            exact ⟨lo, hi, h1.keep (fun b hl hh => hk6 b (by omega)), by omega, h3, h4⟩) k n
          rw [HLs.out] at h
          exact h.mono (by omega) (Nat.le_refl _)
        obtain ⟨r0, r1, r2⟩ := cell_three hY6
        clear hX hY hX5 hY5 hY6 hk6
        go_wp2_with fail
        try rw [hw6]
        refine ⟨rfl, .agg #[.int .i64 k, .int .i64 n, .slice av i cv], ?_, av, cv, rfl, HPR.out, HB6.out⟩
        simp [results, Try.results5, go_sem, r0, r1, r2]
end Go.Proofs.Ytagfdmkgnedlbag.Po
