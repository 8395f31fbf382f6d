/- spfOver. who follows a link comes nearer: the plain part. the document's shortest paths, plain. the document's lengths, by rounds over all edges, plain. -/
import Derived.Test.YthhdpfgepjmgkaaDkL
namespace Go.Proofs.Ythhdpfgepjmgkaa.Dj
open Go.ChangeShapes Go.WideShapes Go.ChangeAt Go.RowKit Go.Joins Go.Deep Go.Proofs.Ythhdpfgepjmgkaa.Ge
set_option linter.unusedVariables false
set_option linter.unusedSimpArgs false

/-- the edge at place i is the one from there over that link, and stands -/
def Ov (es : List Ed) (fr lk : Int) (i : Nat) (e : Ed) : Prop := es[i]? = some e ∧ e.f = fr ∧ e.l = lk ∧ Sd es i
def OvPost (w : World) (es : List Ed) (fr lk : Int) (en : Ending) (w' : World) : Prop := ∃ (e : Ed) (ok : Bool), en = .returned (.tuple #[.agg (edL e).toArray, .bool ok]) ∧ Below w.heap.size w w' ∧ (ok = true → ∃ i, Ov es fr lk i e) ∧ (ok = false → ∀ i e, ¬ Ov es fr lk i e)
set_option maxRecDepth 100000 in
set_option maxHeartbeats 32000000 in
theorem over_any (la : Option Addr) (n lc : Nat) (es : List Ed) (fr lk : Int) (w : World) (hn : es.length = n) (hb : n < 1000000000) (h : Lst EE w la es) : Calls Try.prog 14 #[.slice la n lc, .int .i64 fr, .int .i64 lk] w (OvPost w es fr lk) := by
  have HX : Hid (Lst EE w la es ∧ es.length = n ∧ n < 1000000000) := ⟨h, hn, hb⟩
  have hn0 : (n : Int) < 1000000000 := by omega
  clear h hn hb
  go_enter Try.func14, Try.ntmps14
  go_wp2_with (refine list_newl EdK _ z_ed rfl rfl ?_)
  intro b6 w1 hb1 hs1 hbl1
  have HB1 : Hid (w.heap.size ≤ b6 ∧ Below w.heap.size w w1 ∧ SB EdK b6 (edL ⟨0, 0, 0, 0⟩) w1) := ⟨by rw [hb1.out]; exact Nat.le_refl _, hbl1.out, hs1.out⟩
  clear hb1 hs1 hbl1
  go_wp2_with fail
  go_loopw [12, 8, 9] (fun iv _ _ wr => ∃ (i : Nat), i ≤ n ∧ iv = .int .i64 (i : Int) ∧ Below w.heap.size w wr ∧ SB EdK b6 (edL ⟨0, 0, 0, 0⟩) wr ∧ ∀ j e, j < i → ¬ Ov es fr lk j e) (fun iv _ _ _ => n - (intOf iv).toNat)
  case atStart => exact ⟨0, Nat.zero_le _, rfl, HB1.out.2.1, HB1.out.2.2, fun j e h => by omega⟩
  case round =>
    obtain ⟨i, hin, rfl, hbl, hs6, hno⟩ := hrel
    obtain ⟨wz, hwz⟩ : ∃ y, wr = y := ⟨_, rfl⟩
    rw [hwz] at hbl hs6 ⊢
    have HI : Hid (Below w.heap.size w wz ∧ SB EdK b6 (edL ⟨0, 0, 0, 0⟩) wz ∧ ∀ j e, j < i → ¬ Ov es fr lk j e) := ⟨hbl, hs6, hno⟩
    have hi0 : (i : Int) < 1000000000 := by omega
    have hi2 : (0 : Int) ≤ (i : Int) := by omega
    clear hbl hs6 hno hwz
    by_cases hlt : i < n
    case neg =>
      have hii : ¬ (i : Int) < (n : Int) := by omega
      go_wp2_with (refine list_sstore EdK rfl _ _ rfl (b := b6) (cs := edL ⟨0, 0, 0, 0⟩) (cs' := edL ⟨0, 0, 0, 0⟩) rfl rfl HI.out.2.1 rfl rfl rfl ?_)
      intro w5 hs5 hk5
      have HE : Hid (OvPost w es fr lk (.returned (.tuple #[.agg (edL ⟨0, 0, 0, 0⟩).toArray, .bool false])) w5) := ⟨⟨0, 0, 0, 0⟩, false, rfl, HI.out.1.trans (hk5.out.below HB1.out.1), fun c => (by cases c), fun _ j e hj => HI.out.2.2 j e (by have h5 := (List.getElem?_eq_some_iff.1 hj.1).1; have h6 := HX.out.2.1; omega) hj⟩
      have HS5 : Hid (SB EdK b6 (edL ⟨0, 0, 0, 0⟩) w5) := hs5.out
      clear hs5 hk5
      go_wp2_with fail
      exact ret_cell1 EdK rfl rfl HS5.out rfl rfl HE.out
    have hii : (i : Int) < (n : Int) := by omega
    have hju : IntKind.u64.wrap (i : Int) = (i : Int) := by simp [IntKind.wrap, IntKind.bits, IntKind.signed]; omega
    obtain ⟨x, hx⟩ : ∃ y, es[i]? = some y := ⟨es[i]'(by have := HX.out.2.1; omega), List.getElem?_eq_getElem _⟩
    have HEi : Hid (es[i]? = some x) := hx
    obtain ⟨lb, lo, rfl, -, -⟩ := HX.out.1.cells i (by have := HX.out.2.1; omega)
    have HCE : Hid (∀ q, q < 4 → wz.cell? ⟨lb, lo + i * 4 + q, none⟩ = (edL x)[q]?) := fun q hq => ed_cells HX.out.1 HI.out.1 HEi.out q hq
    clear hx
    have HG : Hid (∀ W, Below wz.heap.size wz W → (¬ (x.f = fr ∧ x.l = lk ∧ Sd es i)) → (∃ (i2 : Nat), i2 ≤ n ∧ Value.int .i64 (↑i + 1) = .int .i64 (i2 : Int) ∧ Below w.heap.size w W ∧ SB EdK b6 (edL ⟨0, 0, 0, 0⟩) W ∧ ∀ j e, j < i2 → ¬ Ov es fr lk j e)) := fun W hW hno => ⟨i + 1, by omega, by simp, HI.out.1.trans (hW.mono HI.out.1.size), HI.out.2.1.blk (hW.block b6 HI.out.2.1.lt), fun j e hj h => by
      by_cases c : j = i
      · subst c
        obtain ⟨h1, h2⟩ := h
        rw [HEi.out] at h1
        cases h1
        exact hno h2
      · exact HI.out.2.2 j e (by omega) h⟩
    go_wp2_with (first | (refine list_sat EdK rfl _ rfl (b := lb) (k := lo + i * 4) (cs := edL x) rfl HCE.out rfl ?_) | (refine list_newl EdK _ z_ed rfl rfl ?_))
    intro b8 w8 hb8 hs8 hbl8
    have HB8 : Hid (wz.heap.size ≤ b8 ∧ Below wz.heap.size wz w8) := ⟨by rw [hb8.out]; exact Nat.le_refl _, hbl8.out⟩
    have HS8 : Hid (SB EdK b8 (edL ⟨0, 0, 0, 0⟩) w8) := hs8.out
    clear hb8 hs8 hbl8 HCE
    go_wp2_with (refine list_sstore EdK rfl _ _ rfl (b := b8) (cs := edL ⟨0, 0, 0, 0⟩) (cs' := edL x) rfl rfl HS8.out rfl rfl rfl ?_)
    intro w9 hs9 hk9
    have HS9 : Hid (SB EdK b8 (edL x) w9) := hs9.out
    have HB9 : Hid (Below wz.heap.size wz w9) := HB8.out.2.trans (hk9.out.below HB8.out.1)
    clear hs9 hk9 HS8 HB8
    have c80 : w9.cell? ⟨b8, 0, none⟩ = some (.int .i64 x.f) := HS9.out.cell 0
    have c83 : w9.cell? ⟨b8, 3, none⟩ = some (.int .i64 x.l) := HS9.out.cell 3
    by_cases hxf : x.f = fr
    case neg =>
      have hbf : (x.f == fr) = false := beq_false_of_ne hxf
      have HN : Hid (¬ (x.f = fr ∧ x.l = lk ∧ Sd es i)) := fun h => hxf h.1
      clear hxf
      go_wp2_with fail
      refine ⟨HG.out w9 HB9.out HN.out, ?_⟩
      simp [intOf]
      omega
    have HXF : Hid (x.f = fr) := hxf
    have hbf : (x.f == fr) = true := by simp [hxf]
    clear hxf
    by_cases hxl : x.l = lk
    case neg =>
      have hbg : (x.l == lk) = false := beq_false_of_ne hxl
      have HN : Hid (¬ (x.f = fr ∧ x.l = lk ∧ Sd es i)) := fun h => hxl h.2.1
      clear hxl
      go_wp2_with fail
      refine ⟨HG.out w9 HB9.out HN.out, ?_⟩
      simp [intOf]
      omega
    have HXL : Hid (x.l = lk) := hxl
    have hbg : (x.l == lk) = true := by simp [hxl]
    clear hxl
    go_wp2_with fail
    refine (sd_any (some ⟨lb, lo, none⟩) n lc es i w9 HX.out.2.1 HX.out.2.2 hlt (HX.out.1.bel (HI.out.1.trans (HB9.out.mono HI.out.1.size)))).mono ?_
    rintro e0 w10 ⟨s, rfl, hs, hb10⟩
    have HSD : Hid (s = true ↔ Sd es i) := hs
    have HB10 : Hid (Below wz.heap.size wz w10) := HB9.out.trans (hb10.mono HB9.out.size)
    have HS10 : Hid (SB EdK b8 (edL x) w10 ∧ SB EdK b6 (edL ⟨0, 0, 0, 0⟩) w10) := ⟨HS9.out.blk (hb10.block b8 HS9.out.lt), HI.out.2.1.blk (HB10.out.block b6 HI.out.2.1.lt)⟩
    clear hs hb10 hbf hbg c80 c83 HS9
    cases s
    case false =>
      have HN : Hid (¬ (x.f = fr ∧ x.l = lk ∧ Sd es i)) := fun h => (by have := HSD.out.2 h.2.2; simp at this)
      go_wp2_with fail
      refine ⟨HG.out w10 HB10.out HN.out, ?_⟩
      simp [intOf]
      omega
    have HSI : Hid (Sd es i) := HSD.out.1 (by simp)
    go_wp2_with (first | (refine list_sload EdK rfl _ rfl (b := b8) (cs := edL x) rfl HS10.out.1 rfl ?_) | (refine list_sstore EdK rfl _ _ rfl (b := b6) (cs := edL ⟨0, 0, 0, 0⟩) (cs' := edL x) rfl rfl HS10.out.2 rfl rfl rfl ?_))
    intro w11 hs11 hk11
    have HE : Hid (OvPost w es fr lk (.returned (.tuple #[.agg (edL x).toArray, .bool true])) w11) := ⟨x, true, rfl, (HI.out.1.trans (HB10.out.mono HI.out.1.size)).trans (hk11.out.below HB1.out.1), fun _ => ⟨i, HEi.out, HXF.out, HXL.out, HSI.out⟩, fun c => (by cases c)⟩
    have HS11 : Hid (SB EdK b6 (edL x) w11) := hs11.out
    clear hs11 hk11
    go_wp2_with fail
    exact ret_cell1 EdK rfl rfl HS11.out rfl rfl HE.out
end Go.Proofs.Ythhdpfgepjmgkaa.Dj
namespace Go.Proofs.Ythhdpfgepjmgkaa.Dj
open Go.ChangeShapes Go.WideShapes Go.ChangeAt Go.RowKit Go.Joins Go.Deep Go.Proofs.Ythhdpfgepjmgkaa.Ge
set_option linter.unusedVariables false
set_option linter.unusedSimpArgs false

theorem Net.st {es vs vs' : List Ed} {r r' : Int} {f f' : Kw} (h : Net es vs r f) (h' : Net es vs' r' f') (e : Ed) : St vs e ↔ St vs' e := (sd_iff h).trans (sd_iff h').symm
theorem isP_congr {vs vs' : List Ed} (h : ∀ e, St vs e ↔ St vs' e) : ∀ (p : List Ed) (a b : Int), isP vs a p b → isP vs' a p b
  | [], _, _, hp => hp
  | e :: p, a, b, hp => ⟨(h e).1 hp.1, hp.2.1, isP_congr h p _ _ hp.2.2⟩
/-- a link that is told: its edge stands, and from its other end the rest of the length is told -/
theorem Net.step {es vs : List Ed} {at_ to d : Int} {f : Kw} {ls : List Int} (h : Net es vs at_ f) (hf : f to = some (d, ls)) (hne : to ≠ at_) {x : Int} (hx : x ∈ ls) : (∃ i e, Ov es at_ x i e) ∧ ∀ i e, Ov es at_ x i e → 1 ≤ e.c ∧ e.c ≤ 65535 ∧ ∀ vs' f', Net es vs' e.t f' → ∃ ls', f' to = some (d - e.c, ls') := by
  have ht := h.td to d ls hf
  obtain ⟨e0, p, h1, h2, h3, h4, h5⟩ := (ht.lk hne x).1 hx
  obtain ⟨i0, h6, h7⟩ := (sd_iff h).1 h1
  refine ⟨⟨i0, e0, h6, h2, h3, h7⟩, fun i e ho => ?_⟩
  obtain ⟨o1, o2, o3, o4⟩ := ho
  have hst : St vs e := (sd_iff h).2 ⟨i, o1, o4⟩
  have he : e = e0 := by
    have a1 := (h.vm e).1 hst.1
    have a2 := (h.vm e0).1 h1.1
    rw [o2, o3] at a1
    rw [h2, h3, a1] at a2
    cases a2
    rfl
  subst he
  refine ⟨(h.ok.c1 e hst.1).1, (h.ok.c1 e hst.1).2, fun vs' f' h' => ?_⟩
  have hcg := h.st h'
  have hp' := isP_congr hcg p _ _ h4
  cases hf' : f' to with
  | none => exact absurd hf' (h'.re to p hp')
  | some y =>
    obtain ⟨d', ls'⟩ := y
    obtain ⟨⟨p2, hp2, hl2⟩, hm2⟩ := (h'.td to d' ls' hf').sh
    have h8 := hm2 p hp'
    have h9 := ht.sh.2 (e :: p2) ⟨h1, h2, isP_congr (fun e => (hcg e).symm) p2 _ _ hp2⟩
    have h10 : plen (e :: p2) = e.c + plen p2 := rfl
    exact ⟨ls', by rw [show d' = d - e.c by omega]⟩
/-- who is told elsewhere has a link -/
theorem Net.link {es vs : List Ed} {at_ to d : Int} {f : Kw} {ls : List Int} (h : Net es vs at_ f) (hf : f to = some (d, ls)) (hne : to ≠ at_) : ls ≠ [] := by
  have ht := h.td to d ls hf
  obtain ⟨⟨p, hp, hl⟩, -⟩ := ht.sh
  cases p with
  | nil => exact absurd (show at_ = to from hp).symm hne
  | cons e p =>
    have h1 : e.l ∈ ls := (ht.lk hne e.l).2 ⟨e, p, hp.1, hp.2.1, rfl, hp.2.2, hl⟩
    intro c
    rw [c] at h1
    cases h1
theorem Net.self {es vs : List Ed} {at_ : Int} {f : Kw} (h : Net es vs at_ f) : f at_ = some (0, []) := by
  cases hf : f at_ with
  | none => exact absurd hf (h.re at_ [] rfl)
  | some y =>
    obtain ⟨d, ls⟩ := y
    have ht := h.td at_ d ls hf
    rw [ht.sh.uniq (Sh.self h.ok at_), ht.rt rfl]
end Go.Proofs.Ythhdpfgepjmgkaa.Dj
namespace Go.Proofs.Ythhdpfgepjmgkaa.Dj
open Go.ChangeShapes Go.WideShapes Go.ChangeAt Go.RowKit Go.Joins Go.Deep Go.Proofs.Ythhdpfgepjmgkaa.Ge
set_option linter.unusedVariables false
set_option linter.unusedSimpArgs false

/-- by From and Link -/
def eLt (a b : Ed) : Prop := a.f < b.f ∨ (a.f = b.f ∧ a.l < b.l)
theorem eLt.trans {a b c : Ed} (h : eLt a b) (k : eLt b c) : eLt a c := by unfold eLt at *; omega
theorem eLt.tot {a b : Ed} (h : ¬ eLt a b) (k : ¬ (a.f = b.f ∧ a.l = b.l)) : eLt b a := by unfold eLt at *; omega
/-- the edges that count, up to place i -/
structure Aw (es : List Ed) (i : Nat) (al : List Ed) : Prop where
  so : al.Pairwise eLt
  mem : ∀ e, e ∈ al ↔ ∃ j, j < i ∧ es[j]? = some e ∧ Ct es j
theorem Aw.nil (es : List Ed) : Aw es 0 [] := ⟨List.Pairwise.nil, fun e => ⟨fun h => absurd h List.not_mem_nil, fun ⟨j, h, _⟩ => absurd h (Nat.not_lt_zero j)⟩⟩
theorem Aw.skip {es al : List Ed} {i : Nat} (h : Aw es i al) (hn : ¬ Ct es i) : Aw es (i + 1) al := ⟨h.so, fun e => (h.mem e).trans ⟨fun ⟨j, h1, h2⟩ => ⟨j, by omega, h2⟩, fun ⟨j, h1, h2, h3⟩ => ⟨j, by
  rcases Nat.lt_or_ge j i with c | c
  · exact c
  · have : j = i := by omega
    subst this
    exact absurd h3 hn, h2, h3⟩⟩⟩
theorem drop_head {α : Type} {l : List α} {k : Nat} {x : α} (hx : x ∈ l.drop k) : ∃ y, l[k]? = some y ∧ (x = y ∨ x ∈ l.drop (k + 1)) := by
  have hk : k < l.length := by
    rcases Nat.lt_or_ge k l.length with c | c
    · exact c
    · rw [List.drop_eq_nil_of_le c] at hx; cases hx
  refine ⟨l[k], List.getElem?_eq_getElem hk, ?_⟩
  rw [List.drop_eq_getElem_cons hk] at hx
  exact List.mem_cons.1 hx
theorem ins_pw {α : Type} {R : α → α → Prop} (tr : ∀ a b c, R a b → R b c → R a c) {l : List α} (h : l.Pairwise R) {k : Nat} {e : α} (h1 : ∀ j x, j < k → l[j]? = some x → R x e) (h2 : ∀ x, l[k]? = some x → R e x) : (l.take k ++ e :: l.drop k).Pairwise R := by
  have h3 : (l.take k ++ l.drop k).Pairwise R := by rw [List.take_append_drop]; exact h
  obtain ⟨h4, h5, h6⟩ := List.pairwise_append.1 h3
  have h7 : ∀ x ∈ l.take k, R x e := fun x hx => by
    obtain ⟨j, hj⟩ := List.mem_iff_getElem?.1 hx
    rw [List.getElem?_take] at hj
    by_cases c : j < k
    · rw [if_pos c] at hj; exact h1 j x c hj
    · rw [if_neg c] at hj; cases hj
  refine List.pairwise_append.2 ⟨h4, List.pairwise_cons.2 ⟨fun x hx => ?_, h5⟩, fun a ha b hb => ?_⟩
  · obtain ⟨y, hy, c⟩ := drop_head hx
    rcases c with c | c
    · rw [c]; exact h2 y hy
    · have h8 : l.drop k = y :: l.drop (k + 1) := by
        obtain ⟨hk, e⟩ := List.getElem?_eq_some_iff.1 hy
        rw [List.drop_eq_getElem_cons hk, e]
      rw [h8] at h5
      exact tr _ _ _ (h2 y hy) ((List.pairwise_cons.1 h5).1 x c)
  · rcases List.mem_cons.1 hb with c | c
    · rw [c]; exact h7 a ha
    · exact h6 a ha b c
theorem ins_mem {α : Type} {l : List α} {k : Nat} {e x : α} : x ∈ l.take k ++ e :: l.drop k ↔ x = e ∨ x ∈ l := by
  have h : x ∈ l ↔ x ∈ l.take k ∨ x ∈ l.drop k := by rw [← List.mem_append, List.take_append_drop]
  rw [List.mem_append, List.mem_cons, h]
  exact ⟨fun c => by rcases c with c | c | c <;> simp [c], fun c => by rcases c with c | c | c <;> simp [c]⟩
theorem ct_same {es : List Ed} {i j : Nat} {x e : Ed} (hj : j < i) (hx : es[j]? = some x) (hcx : Ct es j) (he : es[i]? = some e) (hce : Ct es i) : ¬ (x.f = e.f ∧ x.l = e.l) := by
  obtain ⟨y, h1, h2, h3⟩ := hcx
  obtain ⟨z, h4, h5, -⟩ := hce
  rw [hx] at h1
  cases h1
  rw [he] at h4
  cases h4
  exact fun c => h3 i e hj he ⟨h5, c.1.symm, c.2.symm⟩
theorem Aw.add {es al : List Ed} {i : Nat} (h : Aw es i al) {e : Ed} (he : es[i]? = some e) (hc : Ct es i) {k : Nat} (h1 : ∀ j x, j < k → al[j]? = some x → eLt x e) (h2 : ∀ x, al[k]? = some x → ¬ eLt x e) : Aw es (i + 1) (al.take k ++ e :: al.drop k) := by
  refine ⟨ins_pw (R := eLt) (fun _ _ _ h k => h.trans k) h.so h1 (fun x hx => ?_), fun x => ?_⟩
  · obtain ⟨j, h3, h4, h5⟩ := (h.mem x).1 (List.mem_of_getElem? hx)
    exact eLt.tot (h2 x hx) (ct_same h3 h4 h5 he hc)
  · rw [ins_mem]
    constructor
    · rintro (c | c)
      · rw [c]; exact ⟨i, by omega, he, hc⟩
      · obtain ⟨j, h3, h4⟩ := (h.mem x).1 c; exact ⟨j, by omega, h4⟩
    · rintro ⟨j, h3, h4, h5⟩
      rcases Nat.lt_or_ge j i with c | c
      · exact .inr ((h.mem x).2 ⟨j, c, h4, h5⟩)
      · have : j = i := by omega
        subst this
        rw [he] at h4
        cases h4
        exact .inl rfl
/-- the edges that count, all -/
abbrev Aa (es al : List Ed) : Prop := Aw es es.length al
theorem Aa.mem' {es al : List Ed} (h : Aa es al) (e : Ed) : e ∈ al ↔ ∃ i, es[i]? = some e ∧ Ct es i := (h.mem e).trans ⟨fun ⟨j, _, h2⟩ => ⟨j, h2⟩, fun ⟨j, h2, h3⟩ => ⟨j, (List.getElem?_eq_some_iff.1 h2).1, h2, h3⟩⟩
theorem Aa.vd {es al : List Ed} (h : Aa es al) {e : Ed} (he : e ∈ al) : vd e = true := by
  obtain ⟨i, h1, y, h2, h3, -⟩ := (h.mem' e).1 he
  rw [h1] at h2
  cases h2
  exact h3
theorem vd_out {e : Ed} (h : vd e = true) : (0 ≤ e.f ∧ e.f ≤ 4294967295) ∧ (0 ≤ e.t ∧ e.t ≤ 4294967295) ∧ e.f ≠ e.t ∧ (1 ≤ e.c ∧ e.c ≤ 65535) ∧ 0 ≤ e.l ∧ e.l ≤ 65535 := by
  unfold Dj.vd inr at h
  simp at h
  omega
theorem Aa.ok {es al : List Ed} (h : Aa es al) : Okv al := ⟨fun e he => (vd_out (h.vd he)).2.2.2.1⟩
theorem Aa.len {es al : List Ed} (h : Aa es al) : al.length ≤ es.length := by
  classical
  refine nodup_le _ _ ?_ ?_
  · rw [List.nodup_iff_pairwise_ne]
    exact h.so.imp (fun {a b} c d => by subst d; unfold eLt at c; omega)
  · intro e he
    obtain ⟨i, h1, -⟩ := (h.mem' e).1 he
    exact List.mem_of_getElem? h1
theorem Aa.st {es al : List Ed} (h : Aa es al) (e : Ed) : St al e ↔ ∃ i, es[i]? = some e ∧ Sd es i := by
  have hb : 0 < cnt al (e.t, e.f) ↔ Bk es e := by
    unfold cnt
    rw [List.length_pos_iff_exists_mem]
    constructor
    · rintro ⟨x, hx⟩
      obtain ⟨h1, h2⟩ := List.mem_filter.1 hx
      obtain ⟨j, h3, h4⟩ := (h.mem' x).1 h1
      have h5 := of_decide_eq_true h2
      exact ⟨j, x, h3, h5.1, h5.2, h4⟩
    · rintro ⟨j, x, h1, h2, h3, h4⟩
      exact ⟨x, List.mem_filter.2 ⟨(h.mem' x).2 ⟨j, h1, h4⟩, decide_eq_true ⟨h2, h3⟩⟩⟩
  constructor
  · rintro ⟨h1, h2⟩
    obtain ⟨i, h3, h4⟩ := (h.mem' e).1 h1
    exact ⟨i, h3, e, h3, h4, hb.1 h2⟩
  · rintro ⟨i, h1, e', h2, h3, h4⟩
    rw [h1] at h2
    cases h2
    exact ⟨(h.mem' e).2 ⟨i, h1, h3⟩, hb.2 h4⟩
theorem Aa.net {es al vs : List Ed} {root : Int} {f : Kw} (h : Aa es al) (k : Net es vs root f) (e : Ed) : St vs e ↔ St al e := (sd_iff k).trans (h.st e).symm
/-- of the edges that count, those that stand -/
structure Sw (al ss : List Ed) : Prop where
  so : ss.Pairwise eLt
  mem : ∀ e, e ∈ ss ↔ St al e
theorem st_back {al : List Ed} {e : Ed} (he : e ∈ al) : St al e ↔ ∃ b ∈ al, b.f = e.t ∧ b.t = e.f := by
  unfold St cnt
  rw [List.length_pos_iff_exists_mem]
  constructor
  · rintro ⟨-, x, hx⟩
    obtain ⟨h1, h2⟩ := List.mem_filter.1 hx
    have h3 := of_decide_eq_true h2
    exact ⟨x, h1, h3.1, h3.2⟩
  · rintro ⟨x, h1, h2, h3⟩
    exact ⟨he, x, List.mem_filter.2 ⟨h1, decide_eq_true ⟨h2, h3⟩⟩⟩
end Go.Proofs.Ythhdpfgepjmgkaa.Dj
namespace Go.Proofs.Ythhdpfgepjmgkaa.Dj
open Go.ChangeShapes Go.WideShapes Go.ChangeAt Go.RowKit Go.Joins Go.Deep Go.Proofs.Ythhdpfgepjmgkaa.Ge
set_option linter.unusedVariables false
set_option linter.unusedSimpArgs false

/-- two lists in one strict order that hold the same are the same -/
theorem pw_uniq {α : Type} {R : α → α → Prop} (ir : ∀ a, ¬ R a a) (as_ : ∀ a b, R a b → ¬ R b a) : ∀ (l1 l2 : List α), l1.Pairwise R → l2.Pairwise R → (∀ x, x ∈ l1 ↔ x ∈ l2) → l1 = l2
  | [], [], _, _, _ => rfl
  | [], y :: l2, _, _, h => absurd ((h y).2 List.mem_cons_self) List.not_mem_nil
  | x :: l1, [], _, _, h => absurd ((h x).1 List.mem_cons_self) List.not_mem_nil
  | x :: l1, y :: l2, h1, h2, h => by
    obtain ⟨a1, a2⟩ := List.pairwise_cons.1 h1
    obtain ⟨b1, b2⟩ := List.pairwise_cons.1 h2
    have hxy : x = y := by
      rcases List.mem_cons.1 ((h x).1 List.mem_cons_self) with c | c
      · exact c
      · rcases List.mem_cons.1 ((h y).2 List.mem_cons_self) with d | d
        · exact d.symm
        · exact absurd (b1 x c) (as_ _ _ (a1 y d))
    subst hxy
    have h3 : l1 = l2 := pw_uniq ir as_ l1 l2 a2 b2 (fun z => ⟨fun hz => by
      rcases List.mem_cons.1 ((h z).1 (List.mem_cons_of_mem _ hz)) with c | c
      · subst c; exact absurd (a1 z hz) (ir z)
      · exact c, fun hz => by
      rcases List.mem_cons.1 ((h z).2 (List.mem_cons_of_mem _ hz)) with c | c
      · subst c; exact absurd (b1 z hz) (ir z)
      · exact c⟩)
    rw [h3]
/-- what is known -/
structure Bf (al : List Ed) (root : Int) (rs : List Rc) : Prop where
  so : rs.Pairwise (fun p q => p.n < q.n)
  z : ∀ q ∈ rs, q.ls = [] ∧ q.a = none ∧ q.c = 0
  pa : ∀ q ∈ rs, ∃ p, isP al root p q.n ∧ plen p = q.d
  bd : ∀ q ∈ rs, q.d ≤ 65535 * (rs.length : Int)
  rt : ∃ q ∈ rs, q.n = root ∧ q.d = 0
theorem pw_same {rs : List Rc} (h : rs.Pairwise (fun p q => p.n < q.n)) {x y : Rc} (hx : x ∈ rs) (hy : y ∈ rs) (e : x.n = y.n) : x = y := by
  induction rs with
  | nil => cases hx
  | cons z rs ih =>
    obtain ⟨h1, h2⟩ := List.pairwise_cons.1 h
    rcases List.mem_cons.1 hx with c | c <;> rcases List.mem_cons.1 hy with d | d
    · rw [c, d]
    · have := h1 y d; rw [← c] at this; omega
    · have := h1 x c; rw [← d] at this; omega
    · exact ih h2 c d
theorem Bf.nn {al : List Ed} {root : Int} {rs : List Rc} (h : Bf al root rs) (ok : Okv al) {q : Rc} (hq : q ∈ rs) : 0 ≤ q.d := by
  obtain ⟨p, h1, h2⟩ := h.pa q hq
  have := plen_nn ok p _ _ h1
  omega
theorem Bf.start (al : List Ed) (root : Int) : Bf al root [⟨root, 0, [], none, 0⟩] := ⟨List.pairwise_singleton _ _, fun q hq => by rw [List.mem_singleton] at hq; subst hq; exact ⟨rfl, rfl, rfl⟩, fun q hq => by rw [List.mem_singleton] at hq; subst hq; exact ⟨[], rfl, rfl⟩, fun q hq => by rw [List.mem_singleton] at hq; subst hq; simp, ⟨_, List.mem_singleton.2 rfl, rfl, rfl⟩⟩
theorem Bf.len {al : List Ed} {root : Int} {rs : List Rc} (h : Bf al root rs) : rs.length ≤ al.length + 1 := by
  have h1 : (rs.map (·.n)).length ≤ (root :: al.map (·.t)).length := nodup_le _ _ (by
    rw [List.nodup_iff_pairwise_ne, List.pairwise_map]
    exact h.so.imp (fun h => by omega)) (fun v hv => by
    obtain ⟨q, hq, rfl⟩ := List.mem_map.1 hv
    obtain ⟨p, hp, -⟩ := h.pa q hq
    rcases isP_end p _ _ hp with c | ⟨e, he, c⟩
    · rw [c]; exact List.mem_cons_self
    · exact List.mem_cons_of_mem _ (List.mem_map.2 ⟨e, he, c⟩))
  rw [List.length_map, List.length_cons, List.length_map] at h1
  exact h1
def sm (rs : List Rc) : Int := (rs.map (·.d)).sum
theorem sm_nn : ∀ (rs : List Rc), (∀ q ∈ rs, 0 ≤ q.d) → 0 ≤ sm rs
  | [], _ => by simp [sm]
  | q :: rs, h => by
    have h1 := sm_nn rs (fun q hq => h q (List.mem_cons_of_mem _ hq))
    have h2 := h q List.mem_cons_self
    unfold sm at h1 ⊢
    rw [List.map_cons, List.sum_cons]
    omega
theorem sm_ins (rs : List Rc) (k : Nat) (q : Rc) : sm (rs.take k ++ q :: rs.drop k) = sm rs + q.d := by
  have h : sm rs = sm (rs.take k) + sm (rs.drop k) := by unfold sm; rw [← List.sum_append, ← List.map_append, List.take_append_drop]
  rw [h]
  unfold sm
  rw [List.map_append, List.sum_append, List.map_cons, List.sum_cons]
  omega
theorem sm_set : ∀ (rs : List Rc) (j : Nat) (y q : Rc), rs[j]? = some y → sm (rs.set j q) = sm rs - y.d + q.d
  | x :: rs, 0, y, q, h => by
    rw [List.getElem?_cons_zero] at h
    cases h
    unfold sm
    rw [List.set_cons_zero, List.map_cons, List.sum_cons, List.map_cons, List.sum_cons]
    omega
  | x :: rs, j + 1, y, q, h => by
    rw [List.getElem?_cons_succ] at h
    have h1 := sm_set rs j y q h
    unfold sm at h1 ⊢
    rw [List.set_cons_succ, List.map_cons, List.sum_cons, List.map_cons, List.sum_cons]
    omega
/-- what is left to do -/
def lf (n : Nat) (rs : List Rc) : Nat := ((n + 1 - rs.length : Nat) * (65535 * (n + 3)) + (sm rs).toNat)
/-- one more is reached -/
theorem Bf.add {al : List Ed} {root : Int} {rs : List Rc} (h : Bf al root rs) (ok : Okv al) {e : Ed} (he : St al e) {q : Rc} (hq : q ∈ rs) (hn : q.n = e.f) (hno : ∀ x ∈ rs, x.n ≠ e.t) {k : Nat} (h1 : ∀ j x, j < k → rs[j]? = some x → x.n < e.t) (h2 : ∀ x, rs[k]? = some x → ¬ x.n < e.t) : Bf al root (rs.take k ++ ⟨e.t, q.d + e.c, [], none, 0⟩ :: rs.drop k) := by
  have hl : (rs.take k ++ (⟨e.t, q.d + e.c, [], none, 0⟩ : Rc) :: rs.drop k).length = rs.length + 1 := by
    rw [List.length_append, List.length_cons, List.length_take, List.length_drop]; omega
  have hc := (ok.c1 e he.1).2
  refine ⟨ins_pw (R := fun p q : Rc => p.n < q.n) (fun _ _ _ a b => Int.lt_trans a b) h.so h1 (fun x hx => ?_), fun x hx => ?_, fun x hx => ?_, fun x hx => ?_, ?_⟩
  · have h3 := h2 x hx
    have h4 := hno x (List.mem_of_getElem? hx)
    show e.t < x.n
    omega
  · rcases ins_mem.1 hx with c | c
    · subst c; exact ⟨rfl, rfl, rfl⟩
    · exact h.z x c
  · rcases ins_mem.1 hx with c | c
    · subst c
      obtain ⟨p, h3, h4⟩ := h.pa q hq
      refine ⟨p ++ [e], isP_app p [e] root q.n e.t h3 ⟨he, hn.symm, rfl⟩, ?_⟩
      rw [plen_app, h4]
      show q.d + (e.c + 0) = q.d + e.c
      omega
    · exact h.pa x c
  · rw [hl]
    push_cast
    rcases ins_mem.1 hx with c | c
    · subst c
      have := h.bd q hq
      show q.d + e.c ≤ _
      omega
    · have := h.bd x c
      omega
  · obtain ⟨x, hx, h3⟩ := h.rt
    exact ⟨x, ins_mem.2 (.inr hx), h3⟩
theorem Bf.add_lf {al : List Ed} {root : Int} {rs : List Rc} (h : Bf al root rs) (ok : Okv al) {n : Nat} {e : Ed} {q : Rc} {k : Nat} (hn : al.length ≤ n) (hd : 0 ≤ q.d) (hb : Bf al root (rs.take k ++ ⟨e.t, q.d + e.c, [], none, 0⟩ :: rs.drop k)) : lf n (rs.take k ++ ⟨e.t, q.d + e.c, [], none, 0⟩ :: rs.drop k) < lf n rs := by
  have hl : (rs.take k ++ (⟨e.t, q.d + e.c, [], none, 0⟩ : Rc) :: rs.drop k).length = rs.length + 1 := by
    rw [List.length_append, List.length_cons, List.length_take, List.length_drop]; omega
  have h1 := hb.len
  rw [hl] at h1
  have h2 := hb.bd ⟨e.t, q.d + e.c, [], none, 0⟩ (ins_mem.2 (.inl rfl))
  rw [hl] at h2
  have h2' : q.d + e.c ≤ 65535 * ((rs.length + 1 : Nat) : Int) := h2
  have h3 := sm_nn rs (fun q hq => h.nn ok hq)
  have h4 := hb.nn ok (ins_mem.2 (.inl rfl) : (⟨e.t, q.d + e.c, [], none, 0⟩ : Rc) ∈ _)
  have h4' : 0 ≤ q.d + e.c := h4
  unfold lf
  rw [hl, sm_ins]
  obtain ⟨m, hm⟩ : ∃ m, n + 1 - rs.length = m + 1 := ⟨n - rs.length, by omega⟩
  have hm2 : n + 1 - (rs.length + 1) = m := by omega
  rw [hm, hm2, Nat.add_mul, Nat.one_mul]
  generalize m * (65535 * (n + 3)) = X
  show X + (sm rs + (q.d + e.c)).toNat < _
  have h5 : (rs.length + 1 : Nat) ≤ n + 1 := by omega
  have h6 : q.d + e.c ≤ 65535 * ((n : Int) + 1) := by omega
  omega
/-- one is nearer -/
theorem Bf.low {al : List Ed} {root : Int} {rs : List Rc} (h : Bf al root rs) (ok : Okv al) {e : Ed} (he : St al e) {q y : Rc} (hq : q ∈ rs) (hn : q.n = e.f) {j : Nat} (hj : rs[j]? = some y) (hy : y.n = e.t) (hl : q.d + e.c < y.d) : Bf al root (rs.set j { y with d := q.d + e.c }) := by
  have hyr := List.mem_of_getElem? hj
  have hmem : ∀ x, x ∈ rs.set j { y with d := q.d + e.c } → x = { y with d := q.d + e.c } ∨ x ∈ rs := fun x hx => by
    rcases List.mem_or_eq_of_mem_set hx with c | c
    · exact .inr c
    · exact .inl c
  have hc := (ok.c1 e he.1).1
  have hqn := h.nn ok hq
  refine ⟨?_, fun x hx => ?_, fun x hx => ?_, fun x hx => ?_, ?_⟩
  · have h1 : (rs.set j { y with d := q.d + e.c }).map (·.n) = rs.map (·.n) := by
      rw [List.map_set]
      refine List.ext_getElem? (fun i => ?_)
      rw [List.getElem?_set, List.getElem?_map]
      by_cases c : j = i
      · subst c
        rw [if_pos rfl, hj]
        have := (List.getElem?_eq_some_iff.1 hj).1
        rw [if_pos (by rw [List.length_map]; exact this)]
        rfl
      · rw [if_neg c]
    have h2 : (rs.map (·.n)).Pairwise (· < ·) := by rw [List.pairwise_map]; exact h.so
    rw [← h1, List.pairwise_map] at h2
    exact h2
  · rcases hmem x hx with c | c
    · subst c; exact h.z y hyr
    · exact h.z x c
  · rcases hmem x hx with c | c
    · subst c
      obtain ⟨p, h3, h4⟩ := h.pa q hq
      refine ⟨p ++ [e], isP_app p [e] root q.n y.n h3 ⟨he, hn.symm, hy.symm⟩, ?_⟩
      rw [plen_app, h4]
      show q.d + (e.c + 0) = q.d + e.c
      omega
    · exact h.pa x c
  · rw [List.length_set]
    rcases hmem x hx with c | c
    · subst c
      have := h.bd y hyr
      show q.d + e.c ≤ _
      omega
    · exact h.bd x c
  · obtain ⟨x, hx, h3, h4⟩ := h.rt
    obtain ⟨i, hi⟩ := List.mem_iff_getElem?.1 hx
    have hij : j ≠ i := fun c => by
      subst c
      rw [hj] at hi
      cases hi
      omega
    exact ⟨x, List.mem_of_getElem? (i := i) (by rw [List.getElem?_set_ne hij]; exact hi), h3, h4⟩
theorem Bf.low_lf {al : List Ed} {root : Int} {rs : List Rc} (h : Bf al root rs) (ok : Okv al) {n : Nat} {e : Ed} {q y : Rc} {j : Nat} (hj : rs[j]? = some y) (hl : q.d + e.c < y.d) (hb : Bf al root (rs.set j { y with d := q.d + e.c })) : lf n (rs.set j { y with d := q.d + e.c }) < lf n rs := by
  have h1 := sm_nn _ (fun q hq => hb.nn ok hq)
  unfold lf
  rw [List.length_set]
  rw [sm_set rs j y _ hj] at h1 ⊢
  have h2 : ({ y with d := q.d + e.c } : Rc).d = q.d + e.c := rfl
  rw [h2] at h1 ⊢
  omega
/-- an edge that brings nothing -/
def Rx (rs : List Rc) (e : Ed) : Prop := ∀ q ∈ rs, q.n = e.f → ∃ y ∈ rs, y.n = e.t ∧ y.d ≤ q.d + e.c
/-- who is reached, and how far -/
structure Ds (al : List Ed) (root : Int) (rs : List Rc) : Prop where
  bf : Bf al root rs
  sh : ∀ q ∈ rs, Sh al root q.n q.d
  re : ∀ v p, isP al root p v → ∃ q ∈ rs, q.n = v
theorem rx_path {al : List Ed} {rs : List Rc} (hx : ∀ e, St al e → Rx rs e) : ∀ (p : List Ed) (a v : Int) (q : Rc), q ∈ rs → q.n = a → isP al a p v → ∃ y ∈ rs, y.n = v ∧ y.d ≤ q.d + plen p
  | [], a, v, q, hq, hn, hp => ⟨q, hq, by rw [hn]; exact hp, by show q.d ≤ q.d + 0; omega⟩
  | e :: p, a, v, q, hq, hn, hp => by
    obtain ⟨y, h1, h2, h3⟩ := hx e hp.1 q hq (by rw [hn]; exact hp.2.1.symm)
    obtain ⟨z, h4, h5, h6⟩ := rx_path hx p e.t v y h1 h2 hp.2.2
    exact ⟨z, h4, h5, by show z.d ≤ q.d + (e.c + plen p); omega⟩
theorem Bf.done {al : List Ed} {root : Int} {rs : List Rc} (h : Bf al root rs) (hx : ∀ e, St al e → Rx rs e) : Ds al root rs := by
  obtain ⟨r, hr, h1, h2⟩ := h.rt
  refine ⟨h, fun q hq => ⟨h.pa q hq, fun p hp => ?_⟩, fun v p hp => ?_⟩
  · obtain ⟨y, h3, h4, h5⟩ := rx_path hx p root q.n r hr h1 hp
    have := pw_same h.so h3 hq h4
    subst this
    omega
  · obtain ⟨y, h3, h4, h5⟩ := rx_path hx p root v r hr h1 hp
    exact ⟨y, h3, h4⟩
end Go.Proofs.Ythhdpfgepjmgkaa.Dj
