/- A forwarding memory and the tree that it holds: finding and seeking; plain. -/
import Derived.Test.YtjhdjbhpofhiaabFbH
import Derived.Test.YtjhdjbhpofhiaabTrR
namespace Go.Proofs.Ytjhdjbhpofhiaab.Fb
open Go.Proofs.Ytjhdjbhpofhiaab.PM Go.Proofs.Ytjhdjbhpofhiaab
set_option linter.unusedVariables false

/-- node k of a memory is the root of a tree -/
def Rp (ms : List Int) : Int → TrM.Tr → Prop
  | k, .nil => k = 0
  | k, .node a n v h l r => (1 ≤ k ∧ wd ms (k * 4) = n * 65536 + v ∧ wd ms (k * 4 + 1) = a ∧ 0 ≤ v ∧ v ≤ 65535 ∧ (h = true ↔ v ≠ 0)) ∧ Rp ms (wd ms (k * 4 + 2)) l ∧ Rp ms (wd ms (k * 4 + 3)) r
/-- the nodes of a tree by their numbers -/
def nums (ms : List Int) : Int → TrM.Tr → List Int
  | _, .nil => []
  | k, .node _ _ _ _ l r => k :: (nums ms (wd ms (k * 4 + 2)) l ++ nums ms (wd ms (k * 4 + 3)) r)

theorem Rp.frame {ms ms' : List Int} : ∀ {t : TrM.Tr} {k : Int}, Rp ms k t → (∀ j ∈ nums ms k t, ∀ i : Int, 0 ≤ i → i ≤ 3 → wd ms' (j * 4 + i) = wd ms (j * 4 + i)) → Rp ms' k t ∧ nums ms' k t = nums ms k t
  | .nil, k, h, _ => ⟨h, rfl⟩
  | .node a n v hh l r, k, h, hk => by
    obtain ⟨⟨h0, h1, h2, h3, h4, h5⟩, hl, hr⟩ := h
    have e0 := hk k (by simp [nums]) 0 (by decide) (by decide)
    have e1 := hk k (by simp [nums]) 1 (by decide) (by decide)
    have e2 := hk k (by simp [nums]) 2 (by decide) (by decide)
    have e3 := hk k (by simp [nums]) 3 (by decide) (by decide)
    rw [Int.add_zero] at e0
    have il := Rp.frame hl (fun j hj => hk j (by simp [nums, hj]))
    have ir := Rp.frame hr (fun j hj => hk j (by simp [nums, hj]))
    refine ⟨⟨⟨h0, by rw [e0]; exact h1, by rw [e1]; exact h2, h3, h4, h5⟩, by rw [e2]; exact il.1, by rw [e3]; exact ir.1⟩, ?_⟩
    show k :: _ = k :: _
    rw [e2, e3, il.2, ir.2]
theorem Rp.pos {ms : List Int} {t : TrM.Tr} {k : Int} (h : Rp ms k t) : ∀ j ∈ nums ms k t, 1 ≤ j := by
  induction t generalizing k with
  | nil => intro j hj; cases hj
  | node a n v hh l r il ir =>
    intro j hj
    simp only [nums, List.mem_cons, List.mem_append] at hj
    rcases hj with rfl | hj | hj
    · exact h.1.1
    · exact il h.2.1 j hj
    · exact ir h.2.2 j hj
theorem head_len (n v : Int) (h0 : 0 ≤ v) (h1 : v ≤ 65535) : (n * 65536 + v) / 65536 = n ∧ (n * 65536 + v) % 65536 = v := by omega

/-- Find finds the tree's longest match -/
theorem find_rp (ms : List Int) (x : Int) : ∀ (t : TrM.Tr) (f : Nat) (link way sure c : Int) (acc : Option (Int × Int × Int)), Rp ms (wd ms link) t → TrM.WF t → TrM.Root c sure t → (t = .nil ∨ cov c sure x 32 = true) → 34 ≤ (f : Int) + sure → 0 ≤ sure → sure ≤ 33 → way = TrM.mV acc →
    dsc ms x f link way sure = TrM.mV (TrM.mt t x acc) := by
  intro t
  induction t with
  | nil =>
    intro f link way sure c acc h _ _ _ hf s0 s1 hw
    have h0 : wd ms link = 0 := h
    cases f with
    | zero => simp at hf; omega
    | succ f => unfold dsc; rw [if_pos h0, hw]; rfl
  | node b m v hh l r il ir =>
    intro f link way sure c acc h hwf hroot hc hf s0 s1 hw
    obtain ⟨⟨h0, h1, h2, h3, h4, h5⟩, hl, hr⟩ := h
    obtain ⟨hv, hb, r0, r1, w0, w1⟩ := hwf
    obtain ⟨v0, v1, -⟩ := (vld_iff b m).1 hv
    have hd := head_len m v h3 h4
    have hcx : cov c sure x 32 = true := by rcases hc with h | h; cases h; exact h
    have hroot' : cov c sure b m = true := hroot
    have hsm : sure ≤ m := by have := (TrM.cov_iff _ _ _ _).1 hroot'; exact this.2.1
    obtain ⟨k, hk⟩ : ∃ k, wd ms link = k := ⟨_, rfl⟩
    rw [hk] at h0 h1 h2 hl hr
    cases f with
    | zero => simp at hf; omega
    | succ f =>
      unfold dsc
      rw [hk, if_neg (by omega), h1, hd.1, hd.2, if_neg (by omega), h2]
      by_cases hx : cov b m x 32 = true
      · have hhas : has b m x = true := by rw [TrM.has_cov]; exact hx
        rw [if_neg (by rw [hhas]; simp)]
        have hacc : (if v = 0 then way else v) = TrM.mV (if hh = true then some (b, m, v) else acc) := by
          by_cases e : v = 0
          · have : ¬ hh = true := fun h => h5.1 h e
            rw [if_pos e, if_neg this, hw]
          · rw [if_neg e, if_pos (h5.2 e)]; rfl
        have nx : ∀ (s : Int) (u : TrM.Tr), sdI x m = s → TrM.Root (TrM.kid b m s) (m + 1) u → (u = .nil ∨ cov (TrM.kid b m s) (m + 1) x 32 = true) := fun s u hs hru => by
          by_cases hm : m < 32
          · exact .inr (TrM.side_kid hx hm s hs)
          · left
            cases u with
            | nil => rfl
            | node b2 m2 _ _ _ _ =>
              have := (TrM.cov_iff _ _ _ _).1 (show cov (TrM.kid b m s) (m + 1) b2 m2 = true from hru)
              omega
        rcases sdI_01 x m with hs | hs
        · have e : TrM.mt (.node b m v hh l r) x acc = TrM.mt l x (if hh = true then some (b, m, v) else acc) := by
            conv => lhs; unfold TrM.mt
            rw [if_pos hx, if_pos (show TrM.sdI x m = 0 from hs)]
          rw [e, hs]
          exact il f _ _ _ _ _ (by rw [show k * 4 + (2 + 0) = k * 4 + 2 by omega]; exact hl) w0 r0 (nx 0 l hs r0) (by push_cast at hf; omega) (by omega) (by omega) hacc
        · have e : TrM.mt (.node b m v hh l r) x acc = TrM.mt r x (if hh = true then some (b, m, v) else acc) := by
            conv => lhs; unfold TrM.mt
            rw [if_pos hx, if_neg (show ¬ TrM.sdI x m = 0 from by show ¬ sdI x m = 0; rw [hs]; decide)]
          rw [e, hs]
          exact ir f _ _ _ _ _ (by rw [show k * 4 + (2 + 1) = k * 4 + 3 by omega]; exact hr) w1 r1 (nx 1 r hs r1) (by push_cast at hf; omega) (by omega) (by omega) hacc
      · have hgt : m > sure := by
          rcases Int.lt_or_eq_of_le hsm with h | h
          · exact h
          · exfalso
            have := TrM.cov_eq hroot' (by omega)
            obtain ⟨rfl, -⟩ := this
            rw [h] at hcx; exact hx hcx
        have hhas : has b m x = false := by rw [TrM.has_cov]; cases h : cov b m x 32 with | true => exact absurd h hx | false => rfl
        rw [if_pos ⟨hgt, hhas⟩, hw]
        unfold TrM.mt; rw [if_neg hx]

theorem vld_lt {b m : Int} (h : vld b m = true) (b0 : 0 ≤ b) (b1 : b < 4294967296) : cov 0 0 b m = true := by
  obtain ⟨m0, m1, hb⟩ := (vld_iff b m).1 h
  rw [TrM.cov_iff]
  exact ⟨⟨m0, m1, hb⟩, m0, ⟨by decide, by decide, by decide⟩, b0, by rw [psz_0]; omega⟩
theorem cov_all (x : Int) (x0 : 0 ≤ x) (x1 : x < 4294967296) : cov 0 0 x 32 = true := by
  rw [TrM.cov_iff]
  exact ⟨⟨by decide, by decide, by rw [psz_32]; omega⟩, by decide, ⟨by decide, by decide, by decide⟩, x0, by rw [psz_0]; omega⟩
theorem root_all {t : TrM.Tr} (h : TrM.WF t) : TrM.Root 0 0 t := by
  cases t with
  | nil => trivial
  | node b m u hh l r => exact vld_lt h.1 h.2.1.1 h.2.1.2
theorem findP_rp {ms : List Int} {t : TrM.Tr} (h : Rp ms (wd ms 0) t) (hw : TrM.WF t) (x : Int) (x0 : 0 ≤ x) (x1 : x < 4294967296) : findP ms x = TrM.mV (TrM.mt t x none) :=
  find_rp ms x t 34 0 0 0 0 none h hw (root_all hw) (.inr (cov_all x x0 x1)) (by decide) (by decide) (by decide) rfl

/-- a link that lies outside a tree -/
def LkO (T : List Int) (link : Int) : Prop := link = 0 ∨ ∃ p, 1 ≤ p ∧ p ∉ T ∧ (link = p * 4 + 2 ∨ link = p * 4 + 3)
/-- what lies neither at the link nor in the part stays -/
def Stays (ms ms' : List Int) (link : Int) (T : List Int) (lk : Int) (S : List Int) : Prop :=
  ∀ x, (x = link ∨ ∃ j ∈ T, j * 4 ≤ x ∧ x ≤ j * 4 + 3) → x ≠ lk → (∀ j ∈ S, ¬ (j * 4 ≤ x ∧ x ≤ j * 4 + 3)) → wd ms' x = wd ms x

/-- a part of a tree, and what is around it -/
structure Hole (ms : List Int) (link : Int) (t : TrM.Tr) (lk : Int) (s : TrM.Tr) (C : TrM.Tr → TrM.Tr) (rest : List Int) : Prop where
  rp : Rp ms (wd ms lk) s
  is : C s = t
  nums : (nums ms (wd ms link) t).Perm (rest ++ nums ms (wd ms lk) s)
  at_ : (lk = link ∧ rest = []) ∨ ∃ j ∈ rest, lk = j * 4 + 2 ∨ lk = j * 4 + 3
  put : ∀ ms' s', Stays ms ms' link (Fb.nums ms (wd ms link) t) lk (Fb.nums ms (wd ms lk) s) → Rp ms' (wd ms' lk) s' → Rp ms' (wd ms' link) (C s') ∧ (Fb.nums ms' (wd ms' link) (C s')).Perm (rest ++ Fb.nums ms' (wd ms' lk) s')
  nn : ∀ x, TrM.isNil x = false → TrM.isNil (C x) = false
  inj : ∀ x y, C x = C y → x = y
theorem Hole.triv {ms : List Int} {link : Int} {t : TrM.Tr} (h : Rp ms (wd ms link) t) : Hole ms link t link t id [] := ⟨h, rfl, .refl _, .inl ⟨rfl, rfl⟩, fun ms' s' _ hs => ⟨hs, .refl _⟩, fun _ h => h, fun _ _ h => h⟩
/-- a part hung below a node, on the side of an address -/
def plug (ad b m u : Int) (h : Bool) (o x : TrM.Tr) : TrM.Tr := if sdI ad m = 0 then .node b m u h x o else .node b m u h o x
/-- nodes without a value have two below -/
def Sl : TrM.Tr → Prop
  | .nil => True
  | .node _ _ _ h l r => (h = true ∨ (TrM.isNil l = false ∧ TrM.isNil r = false)) ∧ Sl l ∧ Sl r
/-- where a seek stops: the part of the tree there, and what is around it -/
structure Ctx (ms : List Int) (ad len : Int) (link ab : Int) (t : TrM.Tr) (F : Nat) (lk la : Int) (s : TrM.Tr) (C : TrM.Tr → TrM.Tr) (rest : List Int) : Prop extends Hole ms link t lk s C rest where
  run : skP ms ad len F link ab = some (lk, la)
  ins : ∀ v, TrM.ins t ad len v = C (TrM.ins s ad len v)
  wf : TrM.WF s
  root : ∃ c k, TrM.Root c k s ∧ cov c k ad len = true
  stop : s = .nil ∨ ∃ b m u hh l r, s = .node b m u hh l r ∧ (len ≤ m ∨ cov b m ad len = false)
  first : lk = link → la = ab ∧ s = t ∧ ∀ x, C x = x
  del0 : (TrM.del s ad len).2 = false → TrM.del t ad len = (t, false)
  del1 : ∀ x, TrM.del s ad len = (x, true) → TrM.isNil x = false → Sl t → TrM.del t ad len = (C x, true)
  sls : Sl t → Sl s
  par : lk = link ∨ ∃ b m u hh o C2 rest2, Hole ms link t la (plug ad b m u hh o s) C2 rest2 ∧ (∀ x, C x = C2 (plug ad b m u hh o x)) ∧ cov b m ad len = true ∧ m < len ∧ lk = wd ms la * 4 + (2 + sdI ad m) ∧ (TrM.del s ad len = (.nil, true) → Sl t → TrM.del t ad len = (if hh = true then C .nil else C2 o, true) ∧ (hh = true ∨ TrM.isNil o = false))

/-- a part of what hangs below a node is a part of the whole -/
theorem hole_lift {ms : List Int} {link k m u b : Int} {hh : Bool} {l r sub oth : TrM.Tr} {off ooff : Int} {C0 : TrM.Tr → TrM.Tr} (hk : wd ms link = k) (h0 : 1 ≤ k) (h1 : wd ms (k * 4) = m * 65536 + u) (h2 : wd ms (k * 4 + 1) = b) (hlk : LkO (nums ms k (.node b m u hh l r)) link)
    (hoff : off = 2 ∧ ooff = 3 ∨ off = 3 ∧ ooff = 2) (hsub : Rp ms (wd ms (k * 4 + off)) sub) (hoth : Rp ms (wd ms (k * 4 + ooff)) oth) (hks : k ∉ nums ms (wd ms (k * 4 + off)) sub) (hko : k ∉ nums ms (wd ms (k * 4 + ooff)) oth) (hdj : ∀ x ∈ nums ms (wd ms (k * 4 + off)) sub, ∀ y ∈ nums ms (wd ms (k * 4 + ooff)) oth, x ≠ y)
    (nn0 : ∀ x, TrM.isNil (C0 x) = false) (inj0 : ∀ x y, C0 x = C0 y → x = y) (e0 : C0 sub = .node b m u hh l r) (hput : ∀ ms' k' s', Rp ms' (wd ms' (k * 4 + off)) s' → Rp ms' (wd ms' (k * 4 + ooff)) oth → 1 ≤ k → wd ms' (k * 4) = m * 65536 + u → wd ms' (k * 4 + 1) = b → k' = k → Rp ms' k' (C0 s'))
    (hpn : ∀ ms' s', (nums ms' k (C0 s')).Perm (k :: (nums ms' (wd ms' (k * 4 + off)) s' ++ nums ms' (wd ms' (k * 4 + ooff)) oth))) {lk : Int} {s : TrM.Tr} {C : TrM.Tr → TrM.Tr} {rest : List Int} (hC : Hole ms (k * 4 + off) sub lk s C rest) :
    Hole ms link (.node b m u hh l r) lk s (fun x => C0 (C x)) (k :: (rest ++ nums ms (wd ms (k * 4 + ooff)) oth)) := by
  have poss := hsub.pos
  have hlin : ∀ j, j ∈ rest → j ∈ nums ms (wd ms (k * 4 + off)) sub := fun j hj => hC.nums.mem_iff.2 (List.mem_append_left _ hj)
  have hsin : ∀ j, j ∈ nums ms (wd ms lk) s → j ∈ nums ms (wd ms (k * 4 + off)) sub := fun j hj => hC.nums.mem_iff.2 (List.mem_append_right _ hj)
  have hT : (nums ms k (.node b m u hh l r)).Perm (k :: (nums ms (wd ms (k * 4 + off)) sub ++ nums ms (wd ms (k * 4 + ooff)) oth)) := by rw [← e0]; exact hpn ms sub
  have hlkne : ∀ x, (x = k * 4 ∨ x = k * 4 + 1 ∨ x = k * 4 + ooff) → x ≠ lk := by
    intro x hx e
    rcases hC.at_ with ⟨e2, -⟩ | ⟨j, hj, e2⟩
    · omega
    · have hjk : j ≠ k := fun e => hks (e ▸ hlin j hj)
      omega
  refine ⟨hC.rp, ?_, ?_, ?_, ?_, fun x _ => nn0 _, fun x y h => hC.inj x y (inj0 _ _ h)⟩
  · show C0 (C s) = _; rw [hC.is, e0]
  · rw [hk]
    refine hT.trans ?_
    simp only [List.cons_append]
    refine List.Perm.cons _ ?_
    refine (List.Perm.append_right _ hC.nums).trans ?_
    rw [List.append_assoc, List.append_assoc]
    exact List.Perm.append_left _ List.perm_append_comm
  · right
    rcases hC.at_ with ⟨e, -⟩ | ⟨j, hj, e⟩
    · exact ⟨k, by simp, by omega⟩
    · exact ⟨j, by simp [hj], e⟩
  · intro ms' s' hst hs'
    rw [hk] at hst
    have inT : ∀ j, j = k ∨ j ∈ nums ms (wd ms (k * 4 + off)) sub ∨ j ∈ nums ms (wd ms (k * 4 + ooff)) oth → j ∈ nums ms k (.node b m u hh l r) := fun j hj => hT.mem_iff.2 (by simpa using hj)
    have hnot : ∀ x, (x = k * 4 ∨ x = k * 4 + 1 ∨ x = k * 4 + 2 ∨ x = k * 4 + 3) → ∀ j ∈ nums ms (wd ms lk) s, ¬ (j * 4 ≤ x ∧ x ≤ j * 4 + 3) := by
      intro x hx j hj hb
      have : j = k := by omega
      exact hks (this ▸ hsin j hj)
    have e4 : wd ms' (k * 4) = wd ms (k * 4) := hst _ (.inr ⟨k, inT k (.inl rfl), by omega, by omega⟩) (hlkne _ (.inl rfl)) (hnot _ (.inl rfl))
    have e5 : wd ms' (k * 4 + 1) = wd ms (k * 4 + 1) := hst _ (.inr ⟨k, inT k (.inl rfl), by omega, by omega⟩) (hlkne _ (.inr (.inl rfl))) (hnot _ (.inr (.inl rfl)))
    have e6 : wd ms' (k * 4 + ooff) = wd ms (k * 4 + ooff) := hst _ (.inr ⟨k, inT k (.inl rfl), by omega, by omega⟩) (hlkne _ (.inr (.inr rfl))) (hnot _ (by omega))
    have eo := Rp.frame (ms' := ms') hoth (fun j hj i i0 i3 => hst _ (.inr ⟨j, inT j (.inr (.inr hj)), by omega, by omega⟩) (fun e => by
        rcases hC.at_ with ⟨e2, -⟩ | ⟨p, hp, e2⟩
        · have : j = k := by omega
          exact hko (this ▸ hj)
        · have : p = j := by omega
          exact hdj p (hlin p hp) j hj this) (fun p hp hb => by
        have : p = j := by omega
        exact hdj p (hsin p hp) j hj this))
    have elink : wd ms' link = k := by
      rw [← hk]
      refine hst _ (.inl rfl) (fun e => ?_) (fun j hj hb => ?_)
      · rcases hlk with rfl | ⟨p, p1, hp, e2⟩
        · rcases hC.at_ with ⟨e3, -⟩ | ⟨j, hj, e3⟩
          · omega
          · have := poss j (hlin j hj); omega
        · rcases hC.at_ with ⟨e3, -⟩ | ⟨j, hj, e3⟩
          · have : p = k := by omega
            exact hp (this ▸ inT k (.inl rfl))
          · have : p = j := by omega
            exact hp (this ▸ inT j (.inr (.inl (hlin j hj))))
      · have hj1 := poss j (hsin j hj)
        rcases hlk with rfl | ⟨p, p1, hp, e2⟩
        · omega
        · have : p = j := by omega
          exact hp (this ▸ inT j (.inr (.inl (hsin j hj))))
    have hin := hC.put ms' s' (fun x hx h1 h2 => by
      refine hst x ?_ h1 h2
      rcases hx with rfl | ⟨j, hj, hb⟩
      · exact .inr ⟨k, inT k (.inl rfl), by omega, by omega⟩
      · exact .inr ⟨j, inT j (.inr (.inl hj)), hb⟩) hs'
    rw [elink]
    refine ⟨hput ms' k _ hin.1 (by rw [e6]; exact eo.1) h0 (by rw [e4]; exact h1) (by rw [e5]; exact h2) rfl, ?_⟩
    refine (hpn ms' (C s')).trans ?_
    simp only [List.cons_append]
    refine List.Perm.cons _ ?_
    rw [e6, eo.2]
    refine (List.Perm.append_right _ hin.2).trans ?_
    rw [List.append_assoc, List.append_assoc]
    exact List.Perm.append_left _ List.perm_append_comm
theorem del_no {t : TrM.Tr} {a n : Int} (h : (TrM.del t a n).2 = false) : TrM.del t a n = (t, false) := by
  cases t with
  | nil => rfl
  | node b m u hh l r =>
    revert h
    unfold TrM.del
    split
    · split
      · split
        · intro h; cases h
        · intro _; rfl
      · split
        · split
          · intro h; cases h
          · intro _; rfl
        · split
          · intro h; cases h
          · intro _; rfl
    · intro _; rfl

theorem seek_ctx (ms : List Int) (ad len : Int) (hv : vld ad len = true) : ∀ (t : TrM.Tr) (link ab c k0 : Int), Rp ms (wd ms link) t → TrM.WF t → TrM.Root c k0 t → cov c k0 ad len = true → (nums ms (wd ms link) t).Nodup → LkO (nums ms (wd ms link) t) link →
    ∃ F lk la s C rest, Ctx ms ad len link ab t F lk la s C rest := by
  intro t
  induction t with
  | nil =>
    intro link ab c k0 h _ hr hc _ _
    have h0 : wd ms link = 0 := h
    refine ⟨1, link, ab, .nil, id, [], Hole.triv h, ?_, fun _ => rfl, trivial, ⟨c, k0, hr, hc⟩, .inl rfl, fun _ => ⟨rfl, rfl, fun _ => rfl⟩, fun _ => rfl, fun x hx _ _ => hx, fun h => h, .inl rfl⟩
    unfold skP; rw [if_pos (.inl h0)]
  | node b m u hh l r il ir =>
    intro link ab c k0 h hwf hr hc hnd hlk
    by_cases hstop : len ≤ m ∨ cov b m ad len = false
    · have hfl : (wd ms (wd ms link * 4)) / 65536 = m := by rw [h.1.2.1]; exact (head_len m u h.1.2.2.2.1 h.1.2.2.2.2.1).1
      refine ⟨1, link, ab, .node b m u hh l r, id, [], Hole.triv h, ?_, fun _ => rfl, hwf, ⟨c, k0, hr, hc⟩, .inr ⟨b, m, u, hh, l, r, rfl, hstop⟩, fun _ => ⟨rfl, rfl, fun _ => rfl⟩, fun hd => ?_, fun x hx _ _ => hx, fun h => h, .inl rfl⟩
      rotate_left
      · exact del_no hd
      unfold skP
      rw [if_pos]
      unfold skStop
      rw [hfl, h.1.2.2.1]
      exact .inr hstop
    · have hm : m < len := by
        rcases Int.lt_or_le m len with h | h
        · exact h
        · exact absurd (.inl h) hstop
      have hcv : cov b m ad len = true := by cases h : cov b m ad len with | true => rfl | false => exact absurd (.inr h) hstop
      obtain ⟨hvb, hb, r0, r1, w0, w1⟩ := hwf
      obtain ⟨⟨h0, h1, h2, h3, h4, h5⟩, hl, hrr⟩ := h
      obtain ⟨k, hk⟩ : ∃ k, wd ms link = k := ⟨_, rfl⟩
      rw [hk] at h0 h1 h2 hl hrr hnd hlk
      have hns : ¬ skStop ms ad len link := by
        unfold skStop
        rw [hk, h1, h2, (head_len m u h3 h4).1]
        rintro (e | e | e)
        · omega
        · omega
        · rw [hcv] at e; cases e
      have hnx : skNext ms ad link = k * 4 + (2 + sdI ad m) := by unfold skNext; rw [hk, h1, (head_len m u h3 h4).1]
      have ne : ¬ (b = ad ∧ m = len) := fun e => by omega
      simp only [nums, List.nodup_cons, List.nodup_append, List.mem_append, not_or] at hnd
      obtain ⟨⟨hkl, hkr⟩, ndl, ndr, hdis⟩ := hnd
      have posl := hl.pos
      have posr := hrr.pos
      -- the side on which it goes on
      have go : ∀ (sub oth : TrM.Tr) (off ooff : Int) (C0 : TrM.Tr → TrM.Tr), (off = 2 ∧ ooff = 3 ∨ off = 3 ∧ ooff = 2) → sdI ad m = off - 2 → Rp ms (wd ms (k * 4 + off)) sub → Rp ms (wd ms (k * 4 + ooff)) oth → TrM.WF sub → TrM.Root (TrM.kid b m (off - 2)) (m + 1) sub →
          (nums ms (wd ms (k * 4 + off)) sub).Nodup → k ∉ nums ms (wd ms (k * 4 + off)) sub → k ∉ nums ms (wd ms (k * 4 + ooff)) oth → (∀ x ∈ nums ms (wd ms (k * 4 + off)) sub, ∀ y ∈ nums ms (wd ms (k * 4 + ooff)) oth, x ≠ y) →
          (C0 sub = .node b m u hh l r) → (∀ v, TrM.ins (.node b m u hh l r) ad len v = C0 (TrM.ins sub ad len v)) →
          (∀ ms' k' s', Rp ms' (wd ms' (k * 4 + off)) s' → Rp ms' (wd ms' (k * 4 + ooff)) oth → 1 ≤ k → wd ms' (k * 4) = m * 65536 + u → wd ms' (k * 4 + 1) = b → k' = k → Rp ms' k' (C0 s')) →
          (∀ ms' s', (nums ms' k (C0 s')).Perm (k :: (nums ms' (wd ms' (k * 4 + off)) s' ++ nums ms' (wd ms' (k * 4 + ooff)) oth))) →
          (∀ x, plug ad b m u hh oth x = C0 x) → (TrM.del (.node b m u hh l r) ad len = if (TrM.del sub ad len).2 = true then (TrM.slim (C0 (TrM.del sub ad len).1), true) else (.node b m u hh l r, false)) → (Sl (.node b m u hh l r) → Sl sub ∧ (hh = true ∨ TrM.isNil oth = false)) → (∃ F lk la s C rest, Ctx ms ad len (k * 4 + off) link sub F lk la s C rest) → ∃ F lk la s C rest, Ctx ms ad len link ab (.node b m u hh l r) F lk la s C rest := by
        intro sub oth off ooff C0 hoff hsd hsub hoth hws hrs nds hks hko hdj e0 ei hput hpn hpl ed esl ⟨F, lk, la, s, C, rest, hC⟩
        have nnC0 : ∀ x, TrM.isNil (C0 x) = false := fun x => by rw [← hpl x]; unfold plug; split <;> rfl
        have injC0 : ∀ x y, C0 x = C0 y → x = y := fun x y h => by
          rw [← hpl x, ← hpl y] at h
          unfold plug at h
          by_cases hs : sdI ad m = 0
          · rw [if_pos hs, if_pos hs] at h; cases h; rfl
          · rw [if_neg hs, if_neg hs] at h; cases h; rfl
        have lift : ∀ {lk s C rest}, Hole ms (k * 4 + off) sub lk s C rest → Hole ms link (.node b m u hh l r) lk s (fun x => C0 (C x)) (k :: (rest ++ nums ms (wd ms (k * 4 + ooff)) oth)) := fun hH => hole_lift hk h0 h1 h2 hlk hoff hsub hoth hks hko hdj nnC0 injC0 e0 hput hpn hH
        have hne : ∀ x, x = k * 4 + off → x ≠ link := by
          intro x hx e
          rcases hlk with rfl | ⟨p, p1, hp, e2⟩
          · omega
          · have : p = k := by omega
            exact hp (by rw [this]; simp [nums])
        have hlkl : lk ≠ link := by
          rcases hC.at_ with ⟨e, -⟩ | ⟨j, hj, e⟩
          · exact hne lk e
          · intro e3
            have hjs : j ∈ nums ms (wd ms (k * 4 + off)) sub := hC.nums.mem_iff.2 (List.mem_append_left _ hj)
            have hj1 := hsub.pos j hjs
            rcases hlk with rfl | ⟨p, p1, hp, e2⟩
            · omega
            · have : p = j := by omega
              have hin := (lift hC.toHole).nums.mem_iff.2 (show j ∈ _ by simp [hj])
              rw [hk] at hin
              exact hp (by rw [this]; exact hin)
        have slimN : ∀ x, TrM.isNil x = false → (hh = true ∨ TrM.isNil oth = false) → TrM.slim (C0 x) = C0 x := by
          intro x hx ho
          rw [← hpl x]; unfold plug
          split
          · rw [TrM.slim_eq, if_pos (ho.imp id (fun h => ⟨hx, h⟩))]
          · rw [TrM.slim_eq, if_pos (ho.imp id (fun h => ⟨h, hx⟩))]
        have slimZ : (hh = true ∨ TrM.isNil oth = false) → TrM.slim (C0 .nil) = if hh = true then C0 .nil else oth := by
          intro ho
          rw [← hpl .nil]; unfold plug
          by_cases hb : hh = true
          · rw [if_pos hb]; split <;> rw [TrM.slim_eq, if_pos (.inl hb)]
          · have ho' : TrM.isNil oth = false := ho.resolve_left hb
            rw [if_neg hb]
            split
            · rw [TrM.slim_eq, if_neg (by simp [hb, TrM.isNil]), if_neg (by simp [TrM.isNil])]
            · rw [TrM.slim_eq, if_neg (by simp [hb, TrM.isNil]), if_pos ho']
        refine ⟨F + 1, lk, la, s, fun x => C0 (C x), k :: (rest ++ nums ms (wd ms (k * 4 + ooff)) oth), lift hC.toHole, ?_, ?_, hC.wf, hC.root, hC.stop, fun e => absurd e hlkl, fun hd => ?_, fun x hx hnx hsl => ?_, fun hsl => hC.sls (esl hsl).1, .inr ?_⟩
        · unfold skP
          rw [if_neg hns, hnx, show k * 4 + (2 + sdI ad m) = k * 4 + off by omega]
          exact hC.run
        · intro v; rw [ei v, hC.ins v]
        · rw [ed, hC.del0 hd, if_neg (by simp)]
        · have := hC.del1 x hx hnx (esl hsl).1
          rw [ed, this, if_pos rfl]
          show (TrM.slim (C0 (C x)), true) = _
          rw [slimN _ (hC.nn x hnx) (esl hsl).2]
        · rcases hC.par with e | ⟨b2, m2, u2, hh2, o2, C2, rest2, hH, hp1, hp2, hp3, hp4, hp5⟩
          · obtain ⟨e1, e2, e3⟩ := hC.first e
            have hpp : ∀ x, plug ad b m u hh oth x = C0 x := hpl
            refine ⟨b, m, u, hh, oth, id, [], ?_, fun x => ?_, hcv, hm, ?_, fun hd hsl => ?_⟩
            · rw [hpp, e1, e2, e0]
              exact Hole.triv (by rw [hk]; exact ⟨⟨h0, h1, h2, h3, h4, h5⟩, hl, hrr⟩)
            · show C0 (C x) = id (plug ad b m u hh oth x); rw [hpp, e3]; rfl
            · rw [e1, hk, e]; omega
            · have ho := (esl hsl).2
              refine ⟨?_, ho⟩
              have hds : TrM.del sub ad len = (.nil, true) := by rw [← e2]; exact hd
              rw [ed, hds, if_pos rfl]
              show (TrM.slim (C0 .nil), true) = _
              rw [slimZ ho]
              by_cases hb : hh = true
              · rw [if_pos hb, if_pos hb, e3]
              · rw [if_neg hb, if_neg hb]; rfl
          · exact ⟨b2, m2, u2, hh2, o2, fun x => C0 (C2 x), _, lift hH, fun x => by show C0 (C x) = _; rw [hp1], hp2, hp3, hp4, fun hd hsl => by
              obtain ⟨d1, d2⟩ := hp5 hd (esl hsl).1
              refine ⟨?_, d2⟩
              rw [ed, d1, if_pos rfl]
              show (TrM.slim (C0 (if hh2 = true then C .nil else C2 o2)), true) = _
              rw [slimN _ ?_ (esl hsl).2]
              · by_cases hb : hh2 = true
                · rw [if_pos hb, if_pos hb]
                · rw [if_neg hb, if_neg hb]
              · by_cases hb : hh2 = true
                · rw [if_pos hb, hp1]; exact hH.nn _ (by unfold plug; split <;> rfl)
                · rw [if_neg hb]; exact hH.nn _ (d2.resolve_left hb)⟩
      rcases sdI_01 ad m with hs | hs
      · have hs' : TrM.sdI ad m = 0 := hs
        refine go l r 2 3 (fun x => .node b m u hh x r) (.inl ⟨rfl, rfl⟩) (by omega) hl hrr w0 r0 ndl hkl hkr hdis rfl (fun v => by
            conv => lhs; unfold TrM.ins
            rw [if_neg ne, if_pos hcv, if_pos hs']) (fun ms' k' s' g1 g2 g3 g4 g5 e => by subst e; exact ⟨⟨g3, g4, g5, h3, h4, h5⟩, g1, g2⟩) (fun ms' s' => .refl _) (fun x => by unfold plug; rw [if_pos hs]) (by
            conv => lhs; unfold TrM.del
            rw [if_pos hcv, if_neg ne, if_pos hs']) (fun hsl => ⟨hsl.2.1, hsl.1.imp id (fun h => h.2)⟩) ?_
        exact il (k * 4 + 2) link _ _ hl w0 r0 (TrM.side_kid hcv hm 0 hs') ndl (.inr ⟨k, h0, hkl, .inl rfl⟩)
      · have hs' : ¬ TrM.sdI ad m = 0 := by show ¬ sdI ad m = 0; rw [hs]; decide
        refine go r l 3 2 (fun x => .node b m u hh l x) (.inr ⟨rfl, rfl⟩) (by omega) hrr hl w1 r1 ndr hkr hkl (fun x hx y hy e => hdis y hy x hx e.symm) rfl (fun v => by
            conv => lhs; unfold TrM.ins
            rw [if_neg ne, if_pos hcv, if_neg hs']) (fun ms' k' s' g1 g2 g3 g4 g5 e => by subst e; exact ⟨⟨g3, g4, g5, h3, h4, h5⟩, g2, g1⟩) (fun ms' s' => ?_) (fun x => by unfold plug; rw [if_neg (by rw [hs]; decide)]) (by
            conv => lhs; unfold TrM.del
            rw [if_pos hcv, if_neg ne, if_neg hs']) (fun hsl => ⟨hsl.2.2, hsl.1.imp id (fun h => h.1)⟩) ?_
        · exact List.Perm.cons _ List.perm_append_comm
        · exact ir (k * 4 + 3) link _ _ hrr w1 r1 (TrM.side_kid hcv hm 1 hs) ndr (.inr ⟨k, h0, hkr, .inr rfl⟩)
end Go.Proofs.Ytjhdjbhpofhiaab.Fb
