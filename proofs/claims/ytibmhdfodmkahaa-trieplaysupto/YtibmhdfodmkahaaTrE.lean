/- with: it puts into the trie. -/
import Derived.Test.YtibmhdfodmkahaaTrD
namespace Go.Proofs.Ytibmhdfodmkahaa.Tri
open Go.ChangeShapes Go.WideShapes Go.ChangeAt Go.RowKit Go.Proofs.Ytibmhdfodmkahaa.PM Go.Proofs.Ytibmhdfodmkahaa.TrM Go.Proofs.Ytibmhdfodmkahaa.Ask
set_option linter.unusedVariables false

theorem Rep.bounds {ok : Nat → Prop} {w : World} {a n v : Int} {h : Bool} {l r : Tr} {p : Option Addr} (hr : Rep ok w (.node a n v h l r) p) : 0 ≤ a ∧ a < 4294967296 ∧ 0 ≤ n ∧ n ≤ 32 := hr.1
/-- what stands in memory is no nil, and its root's cells are there -/
theorem Rep.some {ok : Nat → Prop} {w : World} {t : Tr} {p : Option Addr} (hr : Rep ok w t p) (hn : isNil t = false) : ∃ b x k v h l r pl pr, t = .node x k v h l r ∧ p = some ⟨b, 0, none⟩ ∧ b < w.heap.size ∧ ok b ∧ Cells w b x k v h pl pr ∧ (0 ≤ x ∧ x < 4294967296 ∧ 0 ≤ k ∧ k ≤ 32) ∧ Rep ok w l pl ∧ Rep ok w r pr := by
  cases t with
  | nil => cases hn
  | node x k v h l r =>
    obtain ⟨hb, b, pl, pr, e, hlt, hok, hc, hl, hr⟩ := hr
    exact ⟨b, x, k, v, h, l, r, pl, pr, rfl, e, hlt, hok, hc, hb, hl, hr⟩
theorem ins_some (t : Tr) (a n v : Int) : isNil (ins t a n v) = false := by
  cases t with
  | nil => rfl
  | node b m u h l r => unfold ins; repeat' split
                        all_goals rfl

theorem ne_cases {b m a n : Int} (h : ¬ (b = a ∧ m = n)) : (¬ b = a) ∨ (b = a ∧ ¬ m = n) := by
  by_cases e : b = a
  · right; exact ⟨e, fun e2 => h ⟨e, e2⟩⟩
  · left; exact e

/-- what Put answers: the old value, and was there one -/
def wold : Tr → Int → Int → Int × Bool
  | .nil, _, _ => (0, false)
  | .node b m u h l r, a, n => if b = a ∧ m = n then (u, h) else if cov b m a n = true then (if sdI a m = 0 then wold l a n else wold r a n) else (0, false)
theorem with_had (t : Tr) : ∀ (p : Option Addr) (w : World) (ok : Nat → Prop) (bl : Nat) (a n v : Int), WF t → vld a n = true → 0 ≤ a → a < 4294967296 → Rep (fun b => ok b ∧ b ≠ bl) w t p → (∀ b, w.heap.size ≤ b → ok b) → ok bl → bl < w.heap.size →
    Cells w bl a n v true none none → w.frozen? ⟨bl, 4, none⟩ = false → w.frozen? ⟨bl, 5, none⟩ = false →
    Calls Try.prog 31 #[.pointer p, .pointer (some ⟨bl, 0, none⟩)] w fun e w' => ∃ q, e = .returned (.tuple #[.pointer (some ⟨q, 0, none⟩), .int .i64 (wold t a n).1, .bool (wold t a n).2]) ∧ But bl w w' ∧ Rep ok w' (ins t a n v) (some ⟨q, 0, none⟩) := by
  induction t with
  | nil =>
    intro p w ok bl a n v _ hv a0 a1 hr hnew hokl hbl hl f4 f5
    have hvv := (vld_iff a n).1 hv
    obtain rfl : p = none := hr
    refine (with_nil bl w).mono ?_
    rintro e w' ⟨rfl, rfl⟩
    exact ⟨bl, rfl, But.refl _ _, ⟨a0, a1, hvv.1, hvv.2.1⟩, bl, none, none, rfl, hbl, hokl, hl, rfl, rfl⟩
  | node nb nm u h l r il ir =>
    intro p w ok bl a n v hw hv a0 a1 hr hnew hokl hbl hl f4 f5
    have hvv := (vld_iff a n).1 hv
    obtain ⟨⟨b0, b1, m0, m1⟩, b, pl, pr, rfl, hlt, ⟨hok, hbb⟩, hc, hrl, hrr⟩ := hr
    have hw' := hw
    obtain ⟨hv1, hb1, r0, r1, w0, w1⟩ := hw
    by_cases e0 : nb = a ∧ nm = n
    · obtain ⟨rfl, rfl⟩ := e0
      refine (with_eq b bl nb nm u h pl pr v w hc hl f4 f5 hlt hbl hbb).mono ?_
      rintro e w' ⟨rfl, hbut, hcl⟩
      refine ⟨bl, by rw [wold, if_pos ⟨rfl, rfl⟩], hbut, ?_⟩
      rw [ins, if_pos ⟨rfl, rfl⟩]
      exact ⟨⟨a0, a1, hvv.1, hvv.2.1⟩, bl, pl, pr, rfl, Nat.lt_of_lt_of_le hbl hbut.size, hokl, hcl, hrl.but hbut (fun _ h => h), hrr.but hbut (fun _ h => h)⟩
    · by_cases e1 : cov nb nm a n = true
      · have hlt2 := cov_lt e1 e0
        rcases sdI_01 a nm with hs | hs
        · have ih : ∀ wx, Below w.heap.size w wx → Calls Try.prog 31 #[.pointer pl, .pointer (some ⟨bl, 0, none⟩)] wx fun e w' => ∃ q, e = .returned (.tuple #[.pointer (some ⟨q, 0, none⟩), .int .i64 (wold l a n).1, .bool (wold l a n).2]) ∧ But bl wx w' ∧ q < w'.heap.size ∧ (∃ x k v' h' ql qr, Cells w' q x k v' h' ql qr ∧ sdI x nm = 0 ∧ 0 ≤ x ∧ x < 4294967296) ∧ (Rep ok w' (ins l a n v) (some ⟨q, 0, none⟩) ∧ But bl wx w') := by
            intro wx hbx
            refine (il pl wx ok bl a n v w0 hv a0 a1 (hrl.below hbx (fun _ h => h)) (fun b hb => hnew b (Nat.le_trans hbx.size hb)) hokl (Nat.lt_of_lt_of_le hbl hbx.size) (hl.bel hbx hbl) (by rw [hbx.frozen (p := ⟨bl, 4, none⟩) hbl]; exact f4) (by rw [hbx.frozen (p := ⟨bl, 5, none⟩) hbl]; exact f5)).mono ?_
            rintro e w' ⟨q, rfl, hbut, hrep⟩
            obtain ⟨b', x, k, v', h', l', r', ql, qr, e1', e2, hlt', hok', hcq, hbx', _, _⟩ := hrep.some (ins_some l a n v)
            cases e2
            have hroot : cov (kid nb nm 0) (nm + 1) x k = true := by
              have := root_ins (v := v) r0 w0 (side_kid e1 hlt2 0 hs) a0 a1
              rw [e1'] at this; exact this
            have hk : nm < 32 := by omega
            exact ⟨q, rfl, hbut, hlt', ⟨x, k, v', h', ql, qr, hcq, (kid_side hv1 hk (.inl rfl) hroot).2.2, hbx'.1, hbx'.2.1⟩, hrep, hbut⟩
          refine (with_down_l b bl nb nm u h pl pr a n v w hc hl hlt hbl hbb (ne_cases e0) b0 b1 m0 m1 a0 a1 hvv.1 hvv.2.1 e1 hs (fun q w' => Rep ok w' (ins l a n v) (some ⟨q, 0, none⟩) ∧ True) (wold l a n).1 (wold l a n).2 (fun wx hbx => (ih wx hbx).mono (by rintro e w' ⟨q, h1, h2, h3, h4, h5, h6⟩; exact ⟨q, h1, h2, h3, h4, h5, trivial⟩))).mono ?_
          rintro e w' ⟨q, w2, rfl, hbut, ⟨hrep, -⟩, hb4, hs4, hc4⟩
          refine ⟨w2.heap.size, by rw [wold, if_neg e0, if_pos e1, if_pos hs], hbut.trans (But.of hb4), ?_⟩
          rw [ins, if_neg e0, if_pos e1, if_pos hs]
          exact ⟨⟨b0, b1, m0, m1⟩, w2.heap.size, _, _, rfl, hs4, hnew _ hbut.size, hc4, hrep.below hb4 (fun _ h => h), (hrr.but hbut (fun _ h => h)).below hb4 (fun _ h => h)⟩
        · have ih : ∀ wx, Below w.heap.size w wx → Calls Try.prog 31 #[.pointer pr, .pointer (some ⟨bl, 0, none⟩)] wx fun e w' => ∃ q, e = .returned (.tuple #[.pointer (some ⟨q, 0, none⟩), .int .i64 (wold r a n).1, .bool (wold r a n).2]) ∧ But bl wx w' ∧ q < w'.heap.size ∧ (∃ x k v' h' ql qr, Cells w' q x k v' h' ql qr ∧ sdI x nm = 1 ∧ 0 ≤ x ∧ x < 4294967296) ∧ (Rep ok w' (ins r a n v) (some ⟨q, 0, none⟩) ∧ But bl wx w') := by
            intro wx hbx
            refine (ir pr wx ok bl a n v w1 hv a0 a1 (hrr.below hbx (fun _ h => h)) (fun b hb => hnew b (Nat.le_trans hbx.size hb)) hokl (Nat.lt_of_lt_of_le hbl hbx.size) (hl.bel hbx hbl) (by rw [hbx.frozen (p := ⟨bl, 4, none⟩) hbl]; exact f4) (by rw [hbx.frozen (p := ⟨bl, 5, none⟩) hbl]; exact f5)).mono ?_
            rintro e w' ⟨q, rfl, hbut, hrep⟩
            obtain ⟨b', x, k, v', h', l', r', ql, qr, e1', e2, hlt', hok', hcq, hbx', _, _⟩ := hrep.some (ins_some r a n v)
            cases e2
            have hroot : cov (kid nb nm 1) (nm + 1) x k = true := by
              have := root_ins (v := v) r1 w1 (side_kid e1 hlt2 1 hs) a0 a1
              rw [e1'] at this; exact this
            have hk : nm < 32 := by omega
            exact ⟨q, rfl, hbut, hlt', ⟨x, k, v', h', ql, qr, hcq, (kid_side hv1 hk (.inr rfl) hroot).2.2, hbx'.1, hbx'.2.1⟩, hrep, hbut⟩
          refine (with_down_r b bl nb nm u h pl pr a n v w hc hl hlt hbl hbb (ne_cases e0) b0 b1 m0 m1 a0 a1 hvv.1 hvv.2.1 e1 hs (fun q w' => Rep ok w' (ins r a n v) (some ⟨q, 0, none⟩) ∧ True) (wold r a n).1 (wold r a n).2 (fun wx hbx => (ih wx hbx).mono (by rintro e w' ⟨q, h1, h2, h3, h4, h5, h6⟩; exact ⟨q, h1, h2, h3, h4, h5, trivial⟩))).mono ?_
          rintro e w' ⟨q, w2, rfl, hbut, ⟨hrep, -⟩, hb4, hs4, hc4⟩
          refine ⟨w2.heap.size, by rw [wold, if_neg e0, if_pos e1, if_neg (by rw [hs]; decide)], hbut.trans (But.of hb4), ?_⟩
          rw [ins, if_neg e0, if_pos e1, if_neg (by rw [hs]; decide)]
          exact ⟨⟨b0, b1, m0, m1⟩, w2.heap.size, _, _, rfl, hs4, hnew _ hbut.size, hc4, (hrl.but hbut (fun _ h => h)).below hb4 (fun _ h => h), hrep.below hb4 (fun _ h => h)⟩
      · have e1' : cov nb nm a n = false := by simpa using e1
        -- the node as it stands, in a later world
        have hT : ∀ w2 w', Below w.heap.size w w2 → Below w2.heap.size w2 w' → Rep ok w' (.node nb nm u h l r) (some ⟨b, 0, none⟩) := by
          intro w2 w' h1 h2
          have h12 : Below w.heap.size w w' := h1.trans (h2.mono h1.size)
          exact ⟨⟨b0, b1, m0, m1⟩, b, pl, pr, rfl, Nat.lt_of_lt_of_le hlt h12.size, hok, hc.bel h12 hlt, hrl.below h12 (fun _ h => h.1), hrr.below h12 (fun _ h => h.1)⟩
        have hLf : ∀ w2 w', Below w.heap.size w w2 → Below w2.heap.size w2 w' → Rep ok w' (.node a n v true .nil .nil) (some ⟨bl, 0, none⟩) := by
          intro w2 w' h1 h2
          have h12 : Below w.heap.size w w' := h1.trans (h2.mono h1.size)
          exact ⟨⟨a0, a1, hvv.1, hvv.2.1⟩, bl, none, none, rfl, Nat.lt_of_lt_of_le hbl h12.size, hokl, hl.bel h12 hbl, rfl, rfl⟩
        by_cases e2 : cov a n nb nm = true
        · rcases sdI_01 nb n with hs | hs
          · refine (with_up_l b bl nb nm u h pl pr a n v w hc hl hlt hbl hbb (ne_cases e0) b0 b1 m0 m1 a0 a1 hvv.1 hvv.2.1 e1' e2 hs).mono ?_
            rintro e w' ⟨w2, rfl, h1, h2, h3, h4⟩
            refine ⟨w2.heap.size, by rw [wold, if_neg e0, if_neg e1], But.of (h1.trans (h2.mono h1.size)), ?_⟩
            rw [ins, if_neg e0, if_neg e1, if_pos e2, if_pos hs]
            exact ⟨⟨a0, a1, hvv.1, hvv.2.1⟩, w2.heap.size, _, _, rfl, h3, hnew _ h1.size, h4, hT w2 w' h1 h2, rfl⟩
          · refine (with_up_r b bl nb nm u h pl pr a n v w hc hl hlt hbl hbb (ne_cases e0) b0 b1 m0 m1 a0 a1 hvv.1 hvv.2.1 e1' e2 hs).mono ?_
            rintro e w' ⟨w2, rfl, h1, h2, h3, h4⟩
            refine ⟨w2.heap.size, by rw [wold, if_neg e0, if_neg e1], But.of (h1.trans (h2.mono h1.size)), ?_⟩
            rw [ins, if_neg e0, if_neg e1, if_pos e2, if_neg (by rw [hs]; decide)]
            exact ⟨⟨a0, a1, hvv.1, hvv.2.1⟩, w2.heap.size, _, _, rfl, h3, hnew _ h1.size, h4, rfl, hT w2 w' h1 h2⟩
        · have e2' : cov a n nb nm = false := by simpa using e2
          obtain ⟨⟨k0, km, kn⟩, p1, p2, p3, f0, f1⟩ := shared_ok hv1 hv hb1.1 hb1.2 a0 a1 e1' e2'
          rcases sdI_01 nb (shN nb a) with hs | hs
          · have hs2 : sdI a (shN nb a) = 1 := by rcases sdI_01 a (shN nb a) with h' | h'; exact absurd (hs.trans h'.symm) p3; exact h'
            refine (with_fork_l b bl nb nm u h pl pr a n v w hc hl hlt hbl hbb (ne_cases e0) b0 b1 m0 m1 a0 a1 hvv.1 hvv.2.1 e1' e2' _ _ rfl rfl k0 (by omega) hs hs2).mono ?_
            rintro e w' ⟨w2, rfl, h1, h2, h3, h4⟩
            refine ⟨w2.heap.size, by rw [wold, if_neg e0, if_neg e1], But.of (h1.trans (h2.mono h1.size)), ?_⟩
            rw [ins, if_neg e0, if_neg e1, if_neg e2, if_pos hs]
            exact ⟨⟨f0, f1, k0, by omega⟩, w2.heap.size, _, _, rfl, h3, hnew _ h1.size, h4, hT w2 w' h1 h2, hLf w2 w' h1 h2⟩
          · have hs2 : sdI a (shN nb a) = 0 := by rcases sdI_01 a (shN nb a) with h' | h'; exact h'; exact absurd (hs.trans h'.symm) p3
            refine (with_fork_r b bl nb nm u h pl pr a n v w hc hl hlt hbl hbb (ne_cases e0) b0 b1 m0 m1 a0 a1 hvv.1 hvv.2.1 e1' e2' _ _ rfl rfl k0 (by omega) hs hs2).mono ?_
            rintro e w' ⟨w2, rfl, h1, h2, h3, h4⟩
            refine ⟨w2.heap.size, by rw [wold, if_neg e0, if_neg e1], But.of (h1.trans (h2.mono h1.size)), ?_⟩
            rw [ins, if_neg e0, if_neg e1, if_neg e2, if_neg (by rw [hs]; decide)]
            exact ⟨⟨f0, f1, k0, by omega⟩, w2.heap.size, _, _, rfl, h3, hnew _ h1.size, h4, hLf w2 w' h1 h2, hT w2 w' h1 h2⟩
theorem with_any (t : Tr) : ∀ (p : Option Addr) (w : World) (ok : Nat → Prop) (bl : Nat) (a n v : Int), WF t → vld a n = true → 0 ≤ a → a < 4294967296 → Rep (fun b => ok b ∧ b ≠ bl) w t p → (∀ b, w.heap.size ≤ b → ok b) → ok bl → bl < w.heap.size →
    Cells w bl a n v true none none → w.frozen? ⟨bl, 4, none⟩ = false → w.frozen? ⟨bl, 5, none⟩ = false →
    Calls Try.prog 31 #[.pointer p, .pointer (some ⟨bl, 0, none⟩)] w fun e w' => ∃ q old had, e = .returned (.tuple #[.pointer (some ⟨q, 0, none⟩), .int .i64 old, .bool had]) ∧ But bl w w' ∧ Rep ok w' (ins t a n v) (some ⟨q, 0, none⟩) := fun p w ok bl a n v hw hv a0 a1 hr hn hk hb hl f4 f5 =>
  (with_had t p w ok bl a n v hw hv a0 a1 hr hn hk hb hl f4 f5).mono (fun e w' ⟨q, h⟩ => ⟨q, _, _, h⟩)
end Go.Proofs.Ytibmhdfodmkahaa.Tri
