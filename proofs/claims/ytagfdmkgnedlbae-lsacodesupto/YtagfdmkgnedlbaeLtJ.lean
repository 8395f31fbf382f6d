/- Lists that grow beside others: plain of memory. -/
import Derived.Test.YtagfdmkgnedlbaeLtI
namespace Go.Proofs.Ytagfdmkgnedlbae.Ls
open Go.ChangeShapes Go.WideShapes Go.ChangeAt Go.RowKit Go.Joins Go.Proofs.Ytagfdmkgnedlbae.PM Go.Proofs.Ytagfdmkgnedlbae.Ask
set_option linter.unusedVariables false

/-- nothing but some blocks has changed -/
structure Fr (S : List Nat) (W W' : World) : Prop where
  os : W'.os = W.os
  tape : W'.tape = W.tape
  output : W'.output = W.output
  size : W.heap.size ≤ W'.heap.size
  block : ∀ b, b < W.heap.size → ¬ b ∈ S → W'.heap[b]? = W.heap[b]?
theorem Fr.refl (S : List Nat) (W : World) : Fr S W W := ⟨rfl, rfl, rfl, Nat.le_refl _, fun _ _ _ => rfl⟩
theorem Fr.trans {S : List Nat} {A B C : World} (h : Fr S A B) (k : Fr S B C) : Fr S A C :=
  ⟨k.os.trans h.os, k.tape.trans h.tape, k.output.trans h.output, Nat.le_trans h.size k.size, fun b hb hn => (k.block b (Nat.lt_of_lt_of_le hb h.size) hn).trans (h.block b hb hn)⟩
theorem Fr.weak {S S' : List Nat} {A B : World} (h : Fr S A B) (hs : ∀ b ∈ S, b ∈ S') : Fr S' A B := ⟨h.os, h.tape, h.output, h.size, fun b hb hn => h.block b hb (fun e => hn (hs b e))⟩
theorem Fr.bel {S : List Nat} {A B C : World} (h : Fr S A B) (k : Below B.heap.size B C) : Fr S A C := h.trans ⟨k.os, k.tape, k.output, k.size, fun b hb _ => k.block b hb⟩
theorem Fr.grown {S : List Nat} {A B C : World} {o : Option Nat} (h : Fr S A B) (k : B.grownBy C o) (ho : ∀ g, o = some g → g ∈ S ∨ A.heap.size ≤ g) : Fr S A C :=
  ⟨k.os.trans h.os, k.tape.trans h.tape, k.output.trans h.output, Nat.le_trans h.size k.size, fun b hb hn => (k.block b (Nat.lt_of_lt_of_le hb h.size) (fun e => by
    rcases ho b e.symm with h1 | h1
    · exact hn h1
    · omega)).trans (h.block b hb hn)⟩
theorem Fr.set {S : List Nat} {A B : World} {s i : Nat} (h : Fr S A B) (u : Value) (hs : s ∈ S ∨ A.heap.size ≤ s) : Fr S A (B.setCell ⟨s, i, none⟩ u) := by
  have hb : Below 0 B (B.setCell ⟨s, i, none⟩ u) := (Below.refl _ B).setCell (p := ⟨s, i, none⟩) (Nat.zero_le _) u
  refine ⟨hb.os.trans h.os, hb.tape.trans h.tape, hb.output.trans h.output, Nat.le_trans h.size hb.size, fun b hl hn => (Below.heap_setCell B ⟨s, i, none⟩ u b ?_).trans (h.block b hl hn)⟩
  show b ≠ s
  intro e
  subst e
  rcases hs with h1 | h1
  · exact hn h1
  · omega
theorem Fr.below {S : List Nat} {A B : World} {N : Nat} (h : Fr S A B) (hN : N ≤ A.heap.size) (hs : ∀ b ∈ S, N ≤ b) : Below N A B := ⟨h.os, h.tape, h.output, h.size, fun b hb => h.block b (by omega) (fun e => by have := hs b e; omega)⟩
theorem tcs_app (k : IntKind) (xs ys : List (Int × Int × Int)) : tcs k (xs ++ ys) = tcs k xs ++ tcs k ys := List.flatMap_append
/-- one item is appended: in the old row, or in a new one, the old one then as it was -/
theorem run_app1K (W : World) (N : Nat) (t ty e : TypeId) (k : IntKind) (i : TypeInfo) (z : Value) (ht : Try.prog.underlying t = some (.slice e)) (hi : Try.prog.info? e = some i) (hz : i.zero = some z) (hs3 : i.size = 3) (hby : i.bytes ≤ 24) (hzs : z.cells.size = 3)
    (v : Value) (xs : List (Int × Int × Int)) (y : Int × Int × Int) (hbig : xs.length ≤ 1048576) (hown : OwnT N e k W v xs) (u : Nat) (hcell : ∀ j c, (tcs k [y])[j]? = some c → W.cell? ((⟨u, 0, none⟩ : Addr).add j) = some c) (hN : N ≤ W.heap.size) :
    ∃ v' w', (Builtin.append_ #[t, t] ty #[v, .slice (some ⟨u, 0, none⟩) 1 1]).run Try.prog W = .ok v' w' ∧ OwnT N e k w' v' (xs ++ [y]) ∧ W.grownBy w' v.ownBlock ∧ (v'.ownBlock = v.ownBlock ∨ v'.ownBlock = some W.heap.size) ∧
      ∀ v0 xs0 zs, xs = xs0 ++ zs → OwnT N e k W v0 xs0 → v0.ownBlock = v.ownBlock → OwnT N e k w' v0 xs0 := by
  have hb48 : (xs.length + 1) * i.bytes ≤ 140737488355328 := Nat.le_trans (Nat.mul_le_mul_left _ hby) (by omega)
  obtain ⟨v', w', hr, h2, h3, h4, h5⟩ := run_append_own_at (P := Try.prog) W N t ty e i z 3 i.bytes ht hi hz hs3 rfl hzs (by decide) v xs.length (tcs k xs) hown.row ⟨u, 0, none⟩ 1 1 (tcs k [y]) (tcs_len _ _) hcell (tcs_one _ _) (by unfold maxLen; omega) hb48 hN
  have hnew : OwnT N e k w' v' (xs ++ [y]) := ⟨by rw [tcs_app, List.length_append]; exact h2⟩
  refine ⟨v', w', hr, hnew, h3, h5, ?_⟩
  intro v0 xs0 zs hx h0 hv0
  rcases h0.row.2 with ⟨h6, h7⟩ | ⟨g, c0, cur0, h6, hg0, hb0, hn0, hm0, hs0, ht0⟩
  · have e0 : xs0 = [] := List.length_eq_zero_iff.1 h7
    subst e0 h6
    exact ⟨World.ownsRow_nil _ _ _ _⟩
  · subst h6
    rcases hown.row.2 with ⟨h6, -⟩ | ⟨g1, c1, cur1, h6, hg1, hb1, hn1, hm1, hs1, ht1⟩
    · rw [h6] at hv0; cases hv0
    · subst h6
      cases hv0
      rw [hb0] at hb1
      injection hb1 with hb1
      injection hb1 with hb1
      subst hb1
      have hc : c1 = c0 := by omega
      subst hc
      by_cases hroom : xs.length + 1 ≤ c1
      · have hr2 := run_append_room (P := Try.prog) W t ty e i ht hi g xs.length c1 cur0 hb0 ⟨u, 0, none⟩ 1 1 (tcs k [y]) (by rw [hs3]; exact tcs_len _ _) hcell (tcs_one _ _) hroom (by rw [hs3, tcs_len, hs1]; simp; omega)
        rw [hr] at hr2
        injection hr2 with hv hw
        rcases hnew.row.2 with ⟨h6, -⟩ | ⟨g2, c2, cur2, h6, hg2, hb2, hn2, hm2, hs2, ht2⟩
        · rw [hv] at h6; cases h6
        · rw [hv] at h6
          injection h6 with e1 e2 e3
          injection e1 with e1
          injection e1 with e1
          subst e1 e3
          refine ⟨h0.row.1, .inr ⟨g, c1, cur2, rfl, hg0, hb2, hn0, hm0, hs2, ?_⟩⟩
          have e1 : (cur2.toList.take ((xs ++ [y]).length * 3)).take (xs0.length * 3) = cur2.toList.take (xs0.length * 3) := by
            rw [List.take_take, Nat.min_eq_left (by rw [List.length_append, hx, List.length_append]; omega)]
          rw [← e1, ht2, hx, List.append_assoc, tcs_app, ← tcs_len k xs0]
          exact List.take_left
      · have holds := hown.row.cells (g := g) rfl
        have hr2 := run_append_grow (P := Try.prog) W t ty e i z ht hi hz ⟨g, 0, none⟩ xs.length c1 (tcs k xs) (by rw [hs3]; exact tcs_len _ _) holds ⟨u, 0, none⟩ 1 1 (tcs k [y]) (by rw [hs3]; exact tcs_len _ _) hcell (by omega) (by omega) (growslice_fits (by omega) hb48)
        rw [hr] at hr2
        injection hr2 with hv hw
        exact h0.blk (fun g' e' => by
          cases e'
          rw [hw]
          exact heap_alloc_old W.drew _ (Array.getElem?_eq_some_iff.1 hb0).1)
/-- the same, at an operation -/
theorem list_app1K {ops : Array Oper} {rest : List Oper} {o : Oper} {a : Act} {Q : Exit → Act → World → Prop} (hgd : o.guard = none) (s x : Operand) (t e : TypeId)
    (ho : o.op = .call { callee := .builtin .append, args := #[s, x], argTypes := #[t, t] }) (k : IntKind) (i : TypeInfo) (z : Value) (ht : Try.prog.underlying t = some (.slice e)) (hi : Try.prog.info? e = some i) (hz : i.zero = some z) (hs3 : i.size = 3) (hby : i.bytes ≤ 24) (hzs : z.cells.size = 3)
    (N : Nat) (v : Value) (xs : List (Int × Int × Int)) (y : Int × Int × Int) (hbig : xs.length ≤ 1048576) {w : World} (W : World) (hs : a.eval s = v) (hown : OwnT N e k W v xs)
    (hx : a.eval x = .slice (some ⟨w.heap.size, 0, none⟩) 1 1) (hN : N ≤ W.heap.size) (hW : W = w.alloc (Obj.cells #[.int k y.1, .int .i64 y.2.1, .int .i64 y.2.2] e))
    (h : ∀ v' w', Hid (OwnT N e k w' v' (xs ++ [y])) → Hid (W.grownBy w' v.ownBlock) → Hid (v'.ownBlock = v.ownBlock ∨ v'.ownBlock = some W.heap.size) → Hid (∀ v0 xs0 zs, xs = xs0 ++ zs → OwnT N e k W v0 xs0 → v0.ownBlock = v.ownBlock → OwnT N e k w' v0 xs0) → wpList Try.prog ops Q rest (a.put o.dst v') w') :
    wpList Try.prog ops Q (o :: rest) a W := by
  have hnew : W.heap[w.heap.size]? = some (Obj.cells #[.int k y.1, .int .i64 y.2.1, .int .i64 y.2.2] e) := by rw [hW]; exact World.alloc_heap_new w _
  obtain ⟨v', w', hr, h2, h3, h4, h5⟩ := run_app1K W N t o.type e k i z ht hi hz hs3 hby hzs v xs y hbig hown w.heap.size (by
    intro j c hj
    rw [Addr.add_lit, Nat.zero_add]
    match j, hj with
    | 0, hj => simp [tcs] at hj; subst hj; simp [World.cell?, hnew]
    | 1, hj => simp [tcs] at hj; subst hj; simp [World.cell?, hnew]
    | 2, hj => simp [tcs] at hj; subst hj; simp [World.cell?, hnew]
    | j + 3, hj => simp [tcs] at hj) hN
  refine wpList_plain hgd fun K hK => ?_
  unfold Oper.wp execOp
  simp only [ho, resolve, invoke, builtin, Sem.run_bind, Sem.run_pure, Result.andThen_ok, List.map_toArray, List.map_cons, List.map_nil, hs, hx, hr]
  exact hK _ _ (h v' w' h2 h3 h4 h5)
theorem It.apart {y : It} (h : y.bl.Nodup) {g : Nat} (h1 : y.lv.ownBlock = some g) : ¬ y.sv.ownBlock = some g := fun h2 => (List.nodup_append.1 h).2.2 g (by rw [h1]; simp) g (by rw [h2]; simp) rfl
theorem It.inL {y : It} {g : Nat} (h : y.lv.ownBlock = some g) : g ∈ y.bl := List.mem_append_left _ (by rw [h]; simp)
theorem It.inS {y : It} {g : Nat} (h : y.sv.ownBlock = some g) : g ∈ y.bl := List.mem_append_right _ (by rw [h]; simp)
/-- two lists of an announcement grow; the announcement stays -/
structure Two (M : Nat) (W0 : World) (y : It) (kv sv : Value) (zk zs : List (Int × Int × Int)) (W : World) : Prop where
  it : ItOk M W y
  ok : OwnT M 54 .i64 W kv (y.x.links ++ zk)
  os : OwnT M 56 .u32 W sv (y.x.stubs ++ zs)
  ak : kv.ownBlock = y.lv.ownBlock ∨ ∃ g, kv.ownBlock = some g ∧ W0.heap.size ≤ g
  ats : sv.ownBlock = y.sv.ownBlock ∨ ∃ g, sv.ownBlock = some g ∧ W0.heap.size ≤ g
  ap : ∀ g, kv.ownBlock = some g → ¬ sv.ownBlock = some g
  fr : Fr y.bl W0 W
theorem Two.start {M : Nat} {W : World} {y : It} (h : ItOk M W y) (hnd : y.bl.Nodup) : Two M W y y.lv y.sv [] [] W :=
  ⟨h, by rw [List.append_nil]; exact h.lk, by rw [List.append_nil]; exact h.st, Or.inl rfl, Or.inl rfl, fun g h1 => It.apart hnd h1, Fr.refl _ _⟩
theorem Two.next {M : Nat} {W0 W W' : World} {y : It} {kv sv : Value} {zk zs : List (Int × Int × Int)} (h : Two M W0 y kv sv zk zs W) (hb : Below W.heap.size W W') : Two M W0 y kv sv zk zs W' :=
  ⟨h.it.blk (fun b hb2 => hb.block b (h.it.lt b hb2).2), h.ok.bel hb, h.os.bel hb, h.ak, h.ats, h.ap, h.fr.bel hb⟩
theorem Two.stepK {M : Nat} {W0 W w' : World} {y : It} {kv sv v' : Value} {zk zs : List (Int × Int × Int)} {z : Int × Int × Int} (h : Two M W0 y kv sv zk zs W) (h0 : ItOk M W0 y) (hnd : y.bl.Nodup) (ho : OwnT M 54 .i64 w' v' (y.x.links ++ zk ++ [z])) (hg : W.grownBy w' kv.ownBlock) (hat : v'.ownBlock = kv.ownBlock ∨ v'.ownBlock = some W.heap.size)
    (hk : ∀ v0 xs0 zs0, y.x.links ++ zk = xs0 ++ zs0 → OwnT M 54 .i64 W v0 xs0 → v0.ownBlock = kv.ownBlock → OwnT M 54 .i64 w' v0 xs0) : Two M W0 y v' sv (zk ++ [z]) zs w' := by
  have hmine : OwnT M 54 .i64 w' y.lv y.x.links := by
    by_cases e : y.lv.ownBlock = kv.ownBlock
    · exact hk y.lv y.x.links zk rfl h.it.lk e
    · exact h.it.lk.grown hg (fun g e1 e2 => e (e1.trans e2.symm))
  have hoth : ∀ g, y.sv.ownBlock = some g → ¬ kv.ownBlock = some g := fun g e1 e2 => by
    rcases h.ak with h1 | ⟨g', h1, h2⟩
    · rw [h1] at e2
      exact It.apart hnd e2 e1
    · rw [h1] at e2
      cases e2
      have := (h0.st.row.lt g e1).2
      omega
  refine ⟨⟨hmine, h.it.st.grown hg hoth, h.it.pa, h.it.s32⟩, by rw [← List.append_assoc]; exact ho, h.os.grown hg (fun g e e2 => h.ap g e2 e), ?_, h.ats, ?_, ?_⟩
  · rcases hat with h1 | h1
    · rw [h1]; exact h.ak
    · exact Or.inr ⟨_, h1, h.fr.size⟩
  · intro g e1 e2
    rcases hat with h1 | h1
    · rw [h1] at e1; exact h.ap g e1 e2
    · rw [h1] at e1; cases e1; exact absurd (h.os.row.lt _ e2).2 (by omega)
  · refine h.fr.grown hg (fun g e => ?_)
    rcases h.ak with h1 | ⟨g', h1, h2⟩
    · rw [h1] at e
      exact Or.inl (It.inL e)
    · rw [h1] at e
      cases e
      exact Or.inr h2
theorem Two.stepS {M : Nat} {W0 W w' : World} {y : It} {kv sv v' : Value} {zk zs : List (Int × Int × Int)} {z : Int × Int × Int} (h : Two M W0 y kv sv zk zs W) (h0 : ItOk M W0 y) (hnd : y.bl.Nodup) (ho : OwnT M 56 .u32 w' v' (y.x.stubs ++ zs ++ [z])) (hg : W.grownBy w' sv.ownBlock) (hat : v'.ownBlock = sv.ownBlock ∨ v'.ownBlock = some W.heap.size)
    (hk : ∀ v0 xs0 zs0, y.x.stubs ++ zs = xs0 ++ zs0 → OwnT M 56 .u32 W v0 xs0 → v0.ownBlock = sv.ownBlock → OwnT M 56 .u32 w' v0 xs0) : Two M W0 y kv v' zk (zs ++ [z]) w' := by
  have hmine : OwnT M 56 .u32 w' y.sv y.x.stubs := by
    by_cases e : y.sv.ownBlock = sv.ownBlock
    · exact hk y.sv y.x.stubs zs rfl h.it.st e
    · exact h.it.st.grown hg (fun g e1 e2 => e (e1.trans e2.symm))
  have hoth : ∀ g, y.lv.ownBlock = some g → ¬ sv.ownBlock = some g := fun g e1 e2 => by
    rcases h.ats with h1 | ⟨g', h1, h2⟩
    · rw [h1] at e2
      exact It.apart hnd e1 e2
    · rw [h1] at e2
      cases e2
      have := (h0.lk.row.lt g e1).2
      omega
  refine ⟨⟨h.it.lk.grown hg hoth, hmine, h.it.pa, h.it.s32⟩, h.ok.grown hg (fun g e e2 => h.ap g e e2), by rw [← List.append_assoc]; exact ho, h.ak, ?_, ?_, ?_⟩
  · rcases hat with h1 | h1
    · rw [h1]; exact h.ats
    · exact Or.inr ⟨_, h1, h.fr.size⟩
  · intro g e1 e2
    rcases hat with h1 | h1
    · rw [h1] at e2; exact h.ap g e1 e2
    · rw [h1] at e2; cases e2; exact absurd (h.ok.row.lt _ e1).2 (by omega)
  · refine h.fr.grown hg (fun g e => ?_)
    rcases h.ats with h1 | ⟨g', h1, h2⟩
    · rw [h1] at e
      exact Or.inl (It.inS e)
    · rw [h1] at e
      cases e
      exact Or.inr h2
theorem blocks_split {ys : List It} {i : Nat} (hi : i < ys.length) (hnd : (blocks ys).Nodup) : (ys[i].bl.Nodup) ∧ (∀ b ∈ ys[i].bl, b ∈ blocks ys) ∧ ∀ j (hj : j < ys.length), ¬ j = i → ∀ b ∈ ys[j].bl, ¬ b ∈ ys[i].bl := by
  have e : blocks ys = blocks (ys.take i) ++ (ys[i].bl ++ blocks (ys.drop (i + 1))) := by
    have h1 : ys = ys.take i ++ (ys[i] :: ys.drop (i + 1)) := by rw [← List.drop_eq_getElem_cons hi, List.take_append_drop]
    have h2 : ∀ (a : List It) (b : It) (c : List It), blocks (a ++ (b :: c)) = blocks a ++ (b.bl ++ blocks c) := fun a b c => by simp [blocks]
    exact (congrArg blocks h1).trans (h2 _ _ _)
  rw [e] at hnd
  obtain ⟨n1, n2, n3⟩ := List.nodup_append.1 hnd
  obtain ⟨n4, n5, n6⟩ := List.nodup_append.1 n2
  refine ⟨n4, fun b hb => by rw [e]; exact List.mem_append_right _ (List.mem_append_left _ hb), fun j hj hne b hb hb2 => ?_⟩
  by_cases hlt : j < i
  · exact n3 b (List.mem_flatMap.2 ⟨ys[j], List.mem_take_iff_getElem.2 ⟨j, by omega, rfl⟩, hb⟩) b (List.mem_append_left _ hb2) rfl
  · refine n6 b hb2 b (List.mem_flatMap.2 ⟨ys[j], List.mem_drop_iff_getElem.2 ⟨j - (i + 1), by omega, ?_⟩, hb⟩) rfl
    congr 1
    omega
/-- where an announcement lies in the list that was made -/
theorem DO.at {M n : Nat} {W : World} {va : Option Addr} {cap : Nat} {ys : List It} (h : DO M W (.slice va n cap) ys) (hn : ys.length = n) (i : Nat) (hi : i < ys.length) : ∃ g, va = some ⟨g, 0, none⟩ ∧ g < W.heap.size ∧ M ≤ g ∧ (∀ j, j < 11 → W.cell? ⟨g, i * 11 + j, none⟩ = ys[i].cells[j]?) ∧ ∀ j, W.frozen? ⟨g, j, none⟩ = false := by
  have hr := h.row
  rw [hn] at hr
  rcases hr.2 with ⟨_, h1⟩ | ⟨g, c, cur, hv, hg, hb, hnc, hcm, hsz, htk⟩
  · omega
  · cases hv
    refine ⟨g, rfl, (Array.getElem?_eq_some_iff.1 hb).1, hg, fun j hj => ?_, fun j => by simp [World.frozen?, hb]⟩
    rw [hr.cellAt _ (by omega)]
    exact acs_at ys i hi j hj
/-- the lists of one of them have grown; all stay -/
theorem DO.two {M n : Nat} {W0 W : World} {va : Option Addr} {cap : Nat} {ys : List It} (h : DO M W0 (.slice va n cap) ys) (i : Nat) (hi : i < ys.length) (hit : ItOk M W ys[i]) (hf : Fr ys[i].bl W0 W) : DO M W (.slice va n cap) ys := by
  obtain ⟨n1, n2, n3⟩ := blocks_split hi h.nd
  refine ⟨row_blk h.row (fun g e => hf.block g (h.row.lt g e).2 (fun e2 => h.ap g e (n2 g e2))), fun z hz => ?_, h.nd, h.ap⟩
  obtain ⟨j, hj, rfl⟩ := List.mem_iff_getElem.1 hz
  by_cases e : j = i
  · subst e; exact hit
  · exact (h.its _ hz).blk (fun b hb => hf.block b ((h.its _ hz).lt b hb).2 (n3 j hj e b hb))
end Go.Proofs.Ytagfdmkgnedlbae.Ls
