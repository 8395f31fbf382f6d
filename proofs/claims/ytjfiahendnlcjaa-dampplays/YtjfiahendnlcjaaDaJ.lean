/- Two dampers of which the same is known, plain. -/
import Derived.Test.YtjfiahendnlcjaaDaG
namespace Go.Proofs.Ytjfiahendnlcjaa.Da
open Go.ChangeShapes Go.WideShapes Go.ChangeAt Go.RowKit Go.Joins Go.Deep Go.Proofs.Ytjfiahendnlcjaa.Ge Go.Proofs.Ytjfiahendnlcjaa.PM Go.Proofs.Ytjfiahendnlcjaa.Ask
set_option linter.unusedVariables false
set_option linter.unusedSimpArgs false

theorem kv_nd {κ β : Type} {es : Ents κ β} {c : Nat} (ok : Mok es c) : (es.map (fun x => (x.1, x.2.1))).Nodup := by
  have h := ok.nk
  have e : es.map (·.1) = (es.map (fun x => (x.1, x.2.1))).map (·.1) := by simp
  rw [e] at h
  exact List.Pairwise.imp (fun hab e2 => hab (by rw [e2])) (List.pairwise_map.1 h)
section
variable {κ β : Type} [DecidableEq κ]
def Alk (es es' : Ents κ β) : Prop := ∀ p, mget es p = mget es' p
theorem Alk.fn {es es' : Ents κ β} (h : Alk es es') : mget es = mget es' := funext h
theorem kv_mem {es : Ents κ β} {c : Nat} (ok : Mok es c) (k : κ) (v : β) : (k, v) ∈ es.map (fun x => (x.1, x.2.1)) ↔ mget es k = some v := by
  constructor
  · intro h
    obtain ⟨x, hx, e⟩ := List.mem_map.1 h
    cases e
    exact mget_of_mem ok hx
  · intro h
    obtain ⟨x, hx, rfl, rfl⟩ := mem_of_mget h
    exact List.mem_map.2 ⟨x, hx, rfl⟩
theorem Alk.perm {es es' : Ents κ β} {c c' : Nat} (h : Alk es es') (o1 : Mok es c) (o2 : Mok es' c') : (es.map (fun x => (x.1, x.2.1))).Perm (es'.map (fun x => (x.1, x.2.1))) := by
  rw [List.perm_ext_iff_of_nodup (kv_nd o1) (kv_nd o2)]
  rintro ⟨k, v⟩
  rw [kv_mem o1, kv_mem o2, h k]
theorem mget_filter {es : Ents κ β} {c : Nat} (ok : Mok es c) (f : κ → β → Bool) (p : κ) : mget (es.filter (fun x => f x.1 x.2.1)) p = (mget es p).filter (f p) := by
  have hn := ok.nk
  clear ok
  induction es with
  | nil => rfl
  | cons x es ih =>
    rw [List.map_cons, List.nodup_cons] at hn
    rw [mget_cons]
    by_cases e : p = x.1
    · rw [if_pos e]
      cases hf : f x.1 x.2.1 with
      | true =>
        rw [List.filter_cons_of_pos (by simpa using hf), mget_cons, if_pos e, e]
        simp [Option.filter, hf]
      | false =>
        rw [List.filter_cons_of_neg (by simp [hf]), ih hn.2]
        have : mget es p = none := mget_none_iff.2 (fun y hy e2 => hn.1 (by rw [← e, ← e2]; exact List.mem_map.2 ⟨y, hy, rfl⟩))
        rw [this, e]
        simp [Option.filter, hf]
    · rw [if_neg e]
      cases hf : f x.1 x.2.1 with
      | true => rw [List.filter_cons_of_pos (by simpa using hf), mget_cons, if_neg e, ih hn.2]
      | false => rw [List.filter_cons_of_neg (by simp [hf]), ih hn.2]
theorem Alk.filter {es es' : Ents κ β} {c c' : Nat} (h : Alk es es') (o1 : Mok es c) (o2 : Mok es' c') (f : κ → β → Bool) : Alk (es.filter (fun x => f x.1 x.2.1)) (es'.filter (fun x => f x.1 x.2.1)) := fun p => by rw [mget_filter o1, mget_filter o2, h p]
theorem Alk.put {es es' : Ents κ β} (h : Alk es es') (c c' : Nat) (k : κ) (v : β) : Alk (mput es c k v) (mput es' c' k v) := fun p => by rw [mput_get, mput_get, h p]
theorem Alk.keys {es es' : Ents κ β} {c c' : Nat} (h : Alk es es') (o1 : Mok es c) (o2 : Mok es' c') (f : κ → Bool) : ((es.filter (fun x => f x.1)).map (·.1)).Perm ((es'.filter (fun x => f x.1)).map (·.1)) := by
  have hp := ((h.perm o1 o2).filter (fun y => f y.1)).map (·.1)
  have e : ∀ l : Ents κ β, (l.filter (fun x => f x.1)).map (·.1) = ((l.map (fun x => (x.1, x.2.1))).filter (fun y => f y.1)).map (·.1) := fun l => by
    rw [List.filter_map, List.map_map]
    rfl
  rw [e, e]
  exact hp
end
theorem Alk.cnt {es es' : Ents Pf Pn} {ce ce' : Nat} (h : Alk es es') (o1 : Mok es ce) (o2 : Mok es' ce') (c : Dc) (now : Nat) : cntP c es now = cntP c es' now := by
  have hp := (h.perm o1 o2).countP_eq (fun y => decide (0 < atP c.half y.2.v (now - y.2.s)))
  have e : ∀ l : Ents Pf Pn, cntP c l now = (l.map (fun x => (x.1, x.2.1))).countP (fun y => decide (0 < atP c.half y.2.v (now - y.2.s))) := fun l => by
    rw [List.countP_map]
    rfl
  rw [e, e]
  exact hp
theorem Alk.chk {es es' : Ents Pf Pn} {ce ce' : Nat} (h : Alk es es') (o1 : Mok es ce) (o2 : Mok es' ce') (c : Dc) (p : Pf) (what now : Int) : chkP c es p what now = chkP c es' p what now := by
  unfold chkP
  rw [h.fn, h.cnt o1 o2]
theorem Alk.live {es es' : Ents Pf Pn} {ce ce' : Nat} (h : Alk es es') (o1 : Mok es ce) (o2 : Mok es' ce') (c : Dc) (now : Nat) : Alk (liveP c es now) (liveP c es' now) := h.filter o1 o2 (fun _ v => !decide (atP c.half v.v (now - v.s) = 0))
theorem live_ok {es : Ents Pf Pn} {ce : Nat} (o : Mok es ce) (c : Dc) (now : Nat) : Mok (liveP c es now) ce := ⟨o.nk.sublist (List.filter_sublist.map _), o.nb.sublist (List.filter_sublist.map _), fun x hx => o.lt x (List.mem_filter.1 hx).1⟩
theorem Alk.flap {es es' : Ents Pf Pn} {ce ce' : Nat} (h : Alk es es') (o1 : Mok es ce) (o2 : Mok es' ce') (c : Dc) (p : Pf) (now v : Nat) (hb : Bool) : Alk (flE c es ce p now v hb) (flE c es' ce' p now v hb) := by
  unfold flE
  split
  · exact (h.live o1 o2 c now).put _ _ _ _
  · exact h.live o1 o2 c now
theorem Alk.unt {us us' : Ents Pf Unit} (h : Alk us us') (cu cu' : Nat) (p : Pf) (hb : Bool) : Alk (flU us cu p hb) (flU us' cu' p hb) := by
  unfold flU
  split
  · exact h.put _ _ _ _
  · exact h
theorem Alk.freed {es es' : Ents Pf Pn} {us us' : Ents Pf Unit} {ce ce' cu cu' : Nat} (h : Alk es es') (o1 : Mok es ce) (o2 : Mok es' ce') (k : Alk us us') (u1 : Mok us cu) (u2 : Mok us' cu') (c : Dc) (t : Nat) {ys ys' : List (Int × Int)} (s1 : Srt ys) (s2 : Srt ys') (p1 : ys.Perm ((us.filter (freeX (clkD c t) (mget (liveP c es t)) t)).map (·.1))) (p2 : ys'.Perm ((us'.filter (freeX (clkD c t) (mget (liveP c es' t)) t)).map (·.1))) : ys = ys' := by
  have e := (h.live o1 o2 c t).fn
  rw [← e] at p2
  exact sorted_uniq _ _ s1 s2 (p1.trans ((k.keys u1 u2 (fun q => !heldP (clkD c t) (mget (liveP c es t)) q t)).trans p2.symm))
theorem Alk.left {es es' : Ents Pf Pn} {us us' : Ents Pf Unit} {ce ce' cu cu' : Nat} (h : Alk es es') (o1 : Mok es ce) (o2 : Mok es' ce') (k : Alk us us') (u1 : Mok us cu) (u2 : Mok us' cu') (c : Dc) (t : Nat) : Alk (us.filter (fun x => !freeX (clkD c t) (mget (liveP c es t)) t x)) (us'.filter (fun x => !freeX (clkD c t) (mget (liveP c es' t)) t x)) := by
  rw [← (h.live o1 o2 c t).fn]
  exact k.filter u1 u2 (fun q _ => !!heldP (clkD c t) (mget (liveP c es t)) q t)
theorem mput_len {κ β : Type} [DecidableEq κ] (es : Ents κ β) (c : Nat) (k : κ) (v : β) : (mput es c k v).length ≤ es.length + 1 := by
  unfold mput
  split
  · rw [List.length_modify]; omega
  · rw [List.length_append]; simp
theorem flE_len (c : Dc) (es : Ents Pf Pn) (ce : Nat) (p : Pf) (now v : Nat) (h : Bool) : (flE c es ce p now v h).length ≤ es.length + 1 := by
  have h1 : (liveP c es now).length ≤ es.length := List.length_filter_le _ _
  unfold flE
  split
  · exact Nat.le_trans (mput_len _ _ _ _) (by omega)
  · omega
theorem flU_len (us : Ents Pf Unit) (cu : Nat) (p : Pf) (h : Bool) : (flU us cu p h).length ≤ us.length + 1 := by
  unfold flU
  split
  · exact mput_len _ _ _ _
  · omega
end Go.Proofs.Ytjfiahendnlcjaa.Da
