/- A stream, in plain words: in whatever pieces, the same comes out. A stream: what is missing, whether a message is whole. -/
import Derived.Test.YtanboekdfdafmaaMgA
import Derived.Test.YtanboekdfdafmaaGeB
import Derived.Test.YtanboekdfdafmaaMgB
namespace Go.Proofs.Ytanboekdfdafmaa.Pv
open Go.Proofs.Ytanboekdfdafmaa.PM
set_option linter.unusedVariables false

/-- the length that is told -/
def szOf (x : List Nat) : Nat := num ((x.drop 4).take 2)
def misN (x : List Nat) : Nat := if x.length < 6 then 6 - x.length else szOf x - x.length
/-- what may wait -/
def SOk (x : List Nat) : Prop := bgE x = 0 ∧ (6 ≤ x.length → x.length < szOf x)
def msgP (y : List Nat) : Option Ms × List Nat × Int :=
  if bgE y ≠ 0 then (none, [], bgE y)
  else if 6 ≤ y.length ∧ szOf y = y.length then (if (dec y).2 = 0 then (some (dec y).1, [], 0) else (none, [], (dec y).2))
  else (none, y, 0)
def takeP : Nat → List Nat → Int → List Nat → List Ms × List Nat × Int
  | 0, x, f, b => ([], x, f)
  | n + 1, x, f, b =>
    if b.length = 0 ∨ f ≠ 0 then ([], x, f)
    else
      ((msgP (x ++ b.take (min (misN x) b.length))).1.toList ++ (takeP n (msgP (x ++ b.take (min (misN x) b.length))).2.1 (msgP (x ++ b.take (min (misN x) b.length))).2.2 (b.drop (min (misN x) b.length))).1,
       (takeP n (msgP (x ++ b.take (min (misN x) b.length))).2.1 (msgP (x ++ b.take (min (misN x) b.length))).2.2 (b.drop (min (misN x) b.length))).2)
/-- bytes from the beginning on: the messages, what waits, the fault -/
def PS : Nat → List Nat → List Ms × List Nat × Int
  | 0, x => ([], x, 0)
  | n + 1, x =>
    if bgE x ≠ 0 then ([], [], bgE x)
    else if 6 ≤ x.length ∧ szOf x ≤ x.length then
      (if (dec (x.take (szOf x))).2 = 0 then ((dec (x.take (szOf x))).1 :: (PS n (x.drop (szOf x))).1, (PS n (x.drop (szOf x))).2) else ([], [], (dec (x.take (szOf x))).2))
    else ([], x, 0)
def parse (x : List Nat) : List Ms × List Nat × Int := PS (x.length + 1) x
theorem bg_six {x : List Nat} (h : bgE x = 0) (h6 : 6 ≤ x.length) : 9 ≤ szOf x ∧ szOf x ≤ 1024 := by
  unfold bgE at h
  split at h
  · cases h
  · split at h
    · cases h
    · rename_i hc
      unfold szOf
      omega
theorem szOf_app {x : List Nat} (h6 : 6 ≤ x.length) (c : List Nat) : szOf (x ++ c) = szOf x := by
  unfold szOf
  rw [List.drop_append_of_le_length (by omega), List.take_append_of_le_length (by rw [List.length_drop]; omega)]
theorem take4_app {x : List Nat} (c : List Nat) : (x.take 4).any (fun c => c != 255) = true → ((x ++ c).take 4).any (fun c => c != 255) = true := by
  intro h
  rw [List.any_eq_true] at h ⊢
  obtain ⟨d, hd, hb⟩ := h
  refine ⟨d, ?_, hb⟩
  rw [List.take_append]
  exact List.mem_append_left _ hd
theorem bg_app {x : List Nat} (c : List Nat) (h : bgE x ≠ 0) : bgE (x ++ c) = bgE x := by
  unfold bgE at h ⊢
  by_cases h4 : (x.take 4).any (fun c => c != 255) = true
  · rw [if_pos h4, if_pos (take4_app c h4)]
  · rw [if_neg h4] at h ⊢
    by_cases h6 : 6 ≤ x.length ∧ ¬ (9 ≤ num ((x.drop 4).take 2) ∧ num ((x.drop 4).take 2) ≤ 1024)
    · have e4 : (x ++ c).take 4 = x.take 4 := List.take_append_of_le_length (by omega)
      have e6 : ((x ++ c).drop 4).take 2 = (x.drop 4).take 2 := by rw [List.drop_append_of_le_length (by omega), List.take_append_of_le_length (by rw [List.length_drop]; omega)]
      rw [e4, if_neg h4, e6, if_pos h6, if_pos ⟨by rw [List.length_append]; omega, h6.2⟩]
    · rw [if_neg h6] at h
      exact absurd rfl h
theorem bg_app6 {x : List Nat} (c : List Nat) (h6 : 6 ≤ x.length) : bgE (x ++ c) = bgE x := by
  unfold bgE
  have e4 : (x ++ c).take 4 = x.take 4 := List.take_append_of_le_length (by omega)
  have e6 : ((x ++ c).drop 4).take 2 = (x.drop 4).take 2 := by rw [List.drop_append_of_le_length (by omega), List.take_append_of_le_length (by rw [List.length_drop]; omega)]
  rw [e4, e6]
  have e7 : (6 ≤ (x ++ c).length ∧ ¬ (9 ≤ num ((x.drop 4).take 2) ∧ num ((x.drop 4).take 2) ≤ 1024)) ↔ (6 ≤ x.length ∧ ¬ (9 ≤ num ((x.drop 4).take 2) ∧ num ((x.drop 4).take 2) ≤ 1024)) := ⟨fun h => ⟨h6, h.2⟩, fun h => ⟨by rw [List.length_append]; omega, h.2⟩⟩
  by_cases h : 6 ≤ x.length ∧ ¬ (9 ≤ num ((x.drop 4).take 2) ∧ num ((x.drop 4).take 2) ≤ 1024)
  · rw [if_pos h, if_pos (e7.2 h)]
  · rw [if_neg h, if_neg (fun h5 => h (e7.1 h5))]
theorem PS_more : ∀ (n k : Nat) (x : List Nat), x.length < n → PS (n + k) x = PS n x
  | 0, k, x, h => absurd h (by omega)
  | n + 1, k, x, h => by
    rw [show n + 1 + k = (n + k) + 1 by omega]
    unfold PS
    by_cases hb : bgE x ≠ 0
    · rw [if_pos hb, if_pos hb]
    · rw [if_neg hb, if_neg hb]
      by_cases h6 : 6 ≤ x.length ∧ szOf x ≤ x.length
      · have h9 := bg_six (by simpa using hb) h6.1
        rw [if_pos h6, if_pos h6, PS_more n k (x.drop (szOf x)) (by rw [List.length_drop]; omega)]
      · rw [if_neg h6, if_neg h6]
theorem parse_bad {x : List Nat} (h : bgE x ≠ 0) : parse x = ([], [], bgE x) := by unfold parse PS; rw [if_pos h]
theorem parse_wait {x : List Nat} (h : SOk x) : parse x = ([], x, 0) := by
  unfold parse PS
  rw [if_neg (by simp [h.1]), if_neg (by intro hc; have := h.2 hc.1; omega)]
theorem parse_one {y c : List Nat} (h6 : 6 ≤ y.length) (hb : bgE y = 0) (hs : szOf y = y.length) (hd : (dec y).2 = 0) : parse (y ++ c) = ((dec y).1 :: (parse c).1, (parse c).2) := by
  have e1 : (y ++ c).take (szOf (y ++ c)) = y := by rw [szOf_app h6, hs]; exact List.take_left' rfl
  have e2 : (y ++ c).drop (szOf (y ++ c)) = c := by rw [szOf_app h6, hs]; exact List.drop_left' rfl
  have h9 := bg_six hb h6
  have e3 : (y ++ c).length + 1 = (c.length + 1) + y.length - 1 + 1 := by rw [List.length_append]; omega
  unfold parse
  rw [show PS ((y ++ c).length + 1) (y ++ c) = PS ((c.length + 1) + (y.length - 1) + 1) (y ++ c) from by congr 1; rw [List.length_append]; omega]
  conv => lhs; unfold PS
  rw [if_neg (by rw [bg_app6 c h6, hb]; simp), if_pos ⟨by rw [List.length_append]; omega, by rw [szOf_app h6, List.length_append]; omega⟩, e1, e2, if_pos hd, PS_more _ _ _ (by omega)]
theorem parse_err {y c : List Nat} (h6 : 6 ≤ y.length) (hb : bgE y = 0) (hs : szOf y = y.length) (hd : (dec y).2 ≠ 0) : parse (y ++ c) = ([], [], (dec y).2) := by
  have e1 : (y ++ c).take (szOf (y ++ c)) = y := by rw [szOf_app h6, hs]; exact List.take_left' rfl
  unfold parse PS
  rw [if_neg (by rw [bg_app6 c h6, hb]; simp), if_pos ⟨by rw [List.length_append]; omega, by rw [szOf_app h6, List.length_append]; omega⟩, e1, if_neg hd]
theorem sok_nil : SOk [] := ⟨by decide, fun h => absurd h (by simp)⟩
theorem mis_pos {x : List Nat} (h : SOk x) : 1 ≤ misN x := by
  unfold misN
  split
  · omega
  · have := h.2 (by omega); omega
theorem take_fault (n : Nat) (x : List Nat) {f : Int} (hf : f ≠ 0) (b : List Nat) : takeP n x f b = ([], x, f) := by
  cases n with
  | zero => rfl
  | succ n => unfold takeP; rw [if_pos (.inr hf)]
/-- what comes out of a piece -/
theorem take_parse : ∀ (n : Nat) (x b : List Nat), SOk x → b.length ≤ n → takeP n x 0 b = parse (x ++ b)
  | 0, x, b, hx, hb => by
    have : b = [] := List.length_eq_zero_iff.1 (by omega)
    subst this
    rw [List.append_nil, parse_wait hx]
    rfl
  | n + 1, x, b, hx, hb => by
    unfold takeP
    by_cases h0 : b.length = 0
    · rw [if_pos (.inl h0), List.length_eq_zero_iff.1 h0, List.append_nil, parse_wait hx]
    · rw [if_neg (by simp [h0])]
      have hm := mis_pos hx
      obtain ⟨k, hk⟩ : ∃ k, min (misN x) b.length = k := ⟨_, rfl⟩
      rw [hk]
      have hk1 : 1 ≤ k ∧ k ≤ b.length ∧ k ≤ misN x := by omega
      obtain ⟨y, hy⟩ : ∃ y, x ++ b.take k = y := ⟨_, rfl⟩
      rw [hy]
      have hz : x ++ b = y ++ b.drop k := by rw [← hy, List.append_assoc, List.take_append_drop]
      have hyl : y.length = x.length + k := by rw [← hy, List.length_append, List.length_take]; omega
      have hdl : (b.drop k).length ≤ n := by rw [List.length_drop]; omega
      rw [hz]
      unfold msgP
      by_cases hbg : bgE y ≠ 0
      · rw [if_pos hbg]
        dsimp only
        rw [take_fault n [] hbg, parse_bad (by rw [bg_app _ hbg]; exact hbg), bg_app _ hbg]
        rfl
      · rw [if_neg hbg]
        have hbg0 : bgE y = 0 := by simpa using hbg
        by_cases hw : 6 ≤ y.length ∧ szOf y = y.length
        · rw [if_pos hw]
          by_cases hd : (dec y).2 = 0
          · rw [if_pos hd, parse_one hw.1 hbg0 hw.2 hd]
            dsimp only
            rw [take_parse n [] (b.drop k) sok_nil hdl, List.nil_append]
            rfl
          · rw [if_neg hd, parse_err hw.1 hbg0 hw.2 hd]
            dsimp only
            rw [take_fault n [] hd]
            rfl
        · rw [if_neg hw]
          dsimp only
          have hsy : SOk y := by
            refine ⟨hbg0, fun h6 => ?_⟩
            have h9 := bg_six hbg0 h6
            have hne : szOf y ≠ y.length := fun e => hw ⟨h6, e⟩
            by_cases hx6 : x.length < 6
            · have : misN x = 6 - x.length := by unfold misN; rw [if_pos hx6]
              omega
            · have e1 : misN x = szOf x - x.length := by unfold misN; rw [if_neg hx6]
              have e2 : szOf y = szOf x := by rw [← hy]; exact szOf_app (by omega) _
              have := hx.2 (by omega)
              omega
          rw [take_parse n y (b.drop k) hsy hdl]
          rfl
theorem parse_state (x : List Nat) : ((parse x).2.2 = 0 → SOk (parse x).2.1) ∧ ((parse x).2.2 ≠ 0 → (parse x).2.1 = []) := by
  suffices h : ∀ (n : Nat) (x : List Nat), x.length < n → ((PS n x).2.2 = 0 → SOk (PS n x).2.1) ∧ ((PS n x).2.2 ≠ 0 → (PS n x).2.1 = []) from h _ x (by omega)
  intro n
  induction n with
  | zero => intro x h; omega
  | succ n ih =>
    intro x hx
    unfold PS
    by_cases hb : bgE x ≠ 0
    · rw [if_pos hb]
      exact ⟨fun e => absurd e hb, fun _ => rfl⟩
    · rw [if_neg hb]
      have hb0 : bgE x = 0 := by simpa using hb
      by_cases h6 : 6 ≤ x.length ∧ szOf x ≤ x.length
      · have h9 := bg_six hb0 h6.1
        rw [if_pos h6]
        by_cases hd : (dec (x.take (szOf x))).2 = 0
        · rw [if_pos hd]
          exact ih (x.drop (szOf x)) (by rw [List.length_drop]; omega)
        · rw [if_neg hd]
          exact ⟨fun e => absurd e hd, fun _ => rfl⟩
      · rw [if_neg h6]
        exact ⟨fun _ => ⟨hb0, fun h => by have h5 : 6 ≤ x.length := h; show x.length < szOf x; omega⟩, fun e => absurd rfl e⟩
/-- one piece behind another -/
theorem parse_app : ∀ (n : Nat) (z c : List Nat), z.length < n → parse (z ++ c) = if (parse z).2.2 = 0 then ((parse z).1 ++ (parse ((parse z).2.1 ++ c)).1, (parse ((parse z).2.1 ++ c)).2) else parse z := by
  intro n
  induction n with
  | zero => intro z c h; omega
  | succ n ih =>
    intro z c hn
    by_cases hb : bgE z ≠ 0
    · rw [parse_bad hb, parse_bad (by rw [bg_app c hb]; exact hb), bg_app c hb, if_neg hb]
    · have hb0 : bgE z = 0 := by simpa using hb
      by_cases h6 : 6 ≤ z.length ∧ szOf z ≤ z.length
      · have h9 := bg_six hb0 h6.1
        obtain ⟨y, r, hz, hy, hs⟩ : ∃ y r, z = y ++ r ∧ y.length = szOf z ∧ szOf y = y.length := by
          refine ⟨z.take (szOf z), z.drop (szOf z), (List.take_append_drop _ _).symm, by rw [List.length_take]; omega, ?_⟩
          have e : szOf (z.take (szOf z) ++ z.drop (szOf z)) = szOf (z.take (szOf z)) := szOf_app (by rw [List.length_take]; omega) _
          rw [List.take_append_drop] at e
          rw [← e, List.length_take]
          omega
        have hy6 : 6 ≤ y.length := by omega
        have hby : bgE y = 0 := by rw [hz, bg_app6 r hy6] at hb0; exact hb0
        rw [hz, List.append_assoc]
        by_cases hd : (dec y).2 = 0
        · rw [parse_one hy6 hby hs hd, parse_one hy6 hby hs hd]
          have hr : r.length < n := by rw [hz, List.length_append] at hn; omega
          rw [ih r c hr]
          dsimp only
          by_cases hf : (parse r).2.2 = 0
          · rw [if_pos hf, if_pos hf]
            rfl
          · rw [if_neg hf, if_neg hf]
        · rw [parse_err hy6 hby hs hd, parse_err hy6 hby hs hd, if_neg hd]
      · have hw : SOk z := ⟨hb0, fun h => by omega⟩
        rw [parse_wait hw, if_pos rfl]
        dsimp only
        rw [List.nil_append]
/-- messages that were written -/
theorem parse_sent {m : Ms} (he : encE m = 0) (hi : InM m) (r : List Nat) : parse (encB m ++ r) = (m :: (parse r).1, (parse r).2) := by
  have hd := dec_back he hi
  rcases dec_cases (encB m) with ⟨e', he', hne⟩ | ⟨m', kd, body, he', h9, hf, -⟩
  · rw [he'] at hd; cases hd; exact absurd rfl hne
  · obtain ⟨-, k, -, -, -, -, hz, -⟩ := frE_ok (by omega) hf
    have hb : bgE (encB m) = 0 := by
      unfold frE at hf
      rw [if_neg (by omega)] at hf
      split at hf
      · rename_i hb; exact absurd hf hb
      · rename_i hb; simpa using hb
    rw [parse_one (by omega) hb hz (by rw [hd]), hd]
end Go.Proofs.Ytanboekdfdafmaa.Pv
namespace Go.Proofs.Ytanboekdfdafmaa.Pv
open Go.ChangeShapes Go.WideShapes Go.ChangeAt Go.RowKit Go.Joins Go.Proofs.Ytanboekdfdafmaa.PM Go.Proofs.Ytanboekdfdafmaa.Ask Go.Proofs.Ytanboekdfdafmaa.Ge
set_option linter.unusedVariables false

/-- a stream's box: the bytes that wait, the fault -/
structure Stm (N : Nat) (W : World) (b : Nat) (a : Option Addr) (c : Nat) (x : List Nat) (f : Int) : Prop where
  box : W.heap[b]? = some (Obj.cells #[.slice a x.length c, .int .i64 f] 84)
  own : OwnL E8 N W (.slice a x.length c) x
  lt : b < N
  u8 : ∀ d ∈ x, d < 256
theorem Stm.hl {N : Nat} {W : World} {b : Nat} {a : Option Addr} {c : Nat} {x : List Nat} {f : Int} (h : Stm N W b a c x f) : b < W.heap.size := (Array.getElem?_eq_some_iff.1 h.box).1
theorem Stm.c0 {N : Nat} {W : World} {b : Nat} {a : Option Addr} {c : Nat} {x : List Nat} {f : Int} (h : Stm N W b a c x f) : W.cell? ⟨b, 0, none⟩ = some (.slice a x.length c) := by unfold World.cell?; rw [h.box]; rfl
theorem Stm.c1 {N : Nat} {W : World} {b : Nat} {a : Option Addr} {c : Nat} {x : List Nat} {f : Int} (h : Stm N W b a c x f) : W.cell? ⟨b, 1, none⟩ = some (.int .i64 f) := by unfold World.cell?; rw [h.box]; rfl
theorem Stm.f0 {N : Nat} {W : World} {b : Nat} {a : Option Addr} {c : Nat} {x : List Nat} {f : Int} (h : Stm N W b a c x f) (i : Nat) : W.frozen? ⟨b, i, none⟩ = false := by unfold World.frozen?; rw [h.box]; simp
theorem Stm.blk {N : Nat} {W W' : World} {b : Nat} {a : Option Addr} {c : Nat} {x : List Nat} {f : Int} (h : Stm N W b a c x f) (h1 : W'.heap[b]? = W.heap[b]?) (h2 : ∀ g, ob a = some g → N ≤ g → g < W.heap.size → W'.heap[g]? = W.heap[g]?) : Stm N W' b a c x f :=
  ⟨h1.trans h.box, own_obk h.own h2, h.lt, h.u8⟩
theorem Stm.bel {N : Nat} {W W' : World} {b : Nat} {a : Option Addr} {c : Nat} {x : List Nat} {f : Int} (h : Stm N W b a c x f) (hb : Below W.heap.size W W') : Stm N W' b a c x f := h.blk (hb.block b h.hl) (fun g _ _ hl => hb.block g hl)
theorem Stm.fault {N : Nat} {W : World} {b : Nat} {a : Option Addr} {c : Nat} {x : List Nat} {f : Int} (h : Stm N W b a c x f) (f2 : Int) : Stm N (W.setCell ⟨b, 1, none⟩ (.int .i64 f2)) b a c x f2 := by
  refine ⟨?_, own_obk h.own (fun g _ hg _ => Below.heap_setCell W ⟨b, 1, none⟩ _ g (by have := h.lt; show g ≠ b; omega)), h.lt, h.u8⟩
  rw [heap_setCell_same W b 1 _ _ _ h.box]
  rfl
theorem Stm.none {N : Nat} {W : World} {b : Nat} {a : Option Addr} {c : Nat} {x : List Nat} {f : Int} (h : Stm N W b a c x f) : Stm N (W.setCell ⟨b, 0, none⟩ (.slice none 0 0)) b none 0 [] f := by
  refine ⟨?_, OwnL.nil _ _ _, h.lt, fun d hd => by cases hd⟩
  rw [heap_setCell_same W b 0 _ _ _ h.box]
  rfl
set_option maxRecDepth 100000 in
set_option maxHeartbeats 4000000 in
theorem missing_any (N : Nat) (b : Nat) (a : Option Addr) (c : Nat) (x : List Nat) (f : Int) (w : World) (h : Stm N w b a c x f) (hs : 6 ≤ x.length → x.length ≤ szOf x) (hsm : x.length ≤ 1048576) (k : Nat) (hk : misN x = k) :
    Calls Try.prog 37 #[.pointer (some ⟨b, 0, none⟩)] w fun e w' => e = .returned (.int .i64 (k : Int)) ∧ Below w.heap.size w w' := by
  have H : Hid (Stm N w b a c x f) := h
  obtain ⟨n, hn⟩ : ∃ n, x.length = n := ⟨_, rfl⟩
  have HN : Hid (x.length = n) := hn
  have c0 := h.c0
  rw [hn] at c0 hs hsm
  have HK : Hid (misN x = k) := hk
  clear h hn hk
  by_cases h6 : 6 ≤ n
  · have hs6 := hs h6
    obtain ⟨z, hz⟩ : ∃ z, szOf x = z := ⟨_, rfl⟩
    have HZ : Hid (szOf x = z) := hz
    have hkz : k = z - n := by
      rw [← HK.out]
      unfold misN
      rw [HN.out, if_neg (by omega), hz]
    rw [hz] at hs6
    have hz16 : z < 65536 := by
      rw [← hz]
      unfold szOf
      have h5 := num_lt (bs := (x.drop 4).take 2) (take_u8 (drop_u8 H.out.u8 4) 2) 2 (by rw [List.length_take, List.length_drop, HN.out]; omega)
      rw [List.take_of_length_le (by rw [List.length_take]; omega)] at h5
      simpa using h5
    have HT : Hid (Calls Try.prog 56 #[.slice a n c] w fun e w' => e = .returned (.bool true) ∧ w' = w) := by
      have h5 := tells_any a c n w
      rw [show decide (6 ≤ n) = true by simp [h6]] at h5
      exact h5
    have HSZ : Hid (∀ q, Calls Try.prog 57 #[.slice a n c] (w.drewN q) fun e w' => e = .returned (.int .i64 (z : Nat)) ∧ w' = w.drewN q) := fun q => by
      have hcap := own_cap H.out.own
      rw [HN.out] at hcap
      have h5 := sizeOf_any a c x n HN.out h6 hcap (w.drewN q) (H.out.own.lst.1.bel (drewN_bel w q)) H.out.u8
      rw [show num ((x.drop 4).take 2) = z from HZ.out] at h5
      exact h5
    have hzk : (z : Int) - (n : Int) = (k : Int) := by omega
    clear hs hz
    go_enter Try.func37, Try.ntmps37
    go_wp2_with fail
    refine HT.out.mono ?_
    rintro e w5 ⟨rfl, hw5⟩
    rw [hw5]
    clear hw5 w5
    go_wp2_with fail
    go_quiet ((go_at_call 57; exact Calls.quiet_of_same (HSZ.out _)))
    go_wp2_with fail
    go_ret
    exact ⟨ret_i64 (by omega), drewN_bel w nq⟩
  · have hkz : k = 6 - n := by
      rw [← HK.out]
      unfold misN
      rw [HN.out, if_pos (by omega)]
    have HT : Hid (Calls Try.prog 56 #[.slice a n c] w fun e w' => e = .returned (.bool false) ∧ w' = w) := by
      have h5 := tells_any a c n w
      rw [show decide (6 ≤ n) = false by simp; omega] at h5
      exact h5
    have hzk : (6 : Int) - (n : Int) = (k : Int) := by omega
    go_enter Try.func37, Try.ntmps37
    go_wp2_with fail
    refine HT.out.mono ?_
    rintro e w5 ⟨rfl, hw5⟩
    rw [hw5]
    clear hw5 w5
    go_wp2_with fail
    go_ret
    exact ⟨ret_i64 (by omega), Below.refl _ _⟩
def MgPost (N : Nat) (w : World) (b : Nat) (a0 : Option Addr) (y : List Nat) (e : Ending) (w' : World) : Prop :=
  ∃ m s a c, e = .returned (.tuple #[msV m s, .bool (msgP y).1.isSome]) ∧ (∀ m', (msgP y).1 = some m' → m = m') ∧ MO w.heap.size w' m s ∧ Stm N w' b a c (msgP y).2.1 (msgP y).2.2 ∧ Kr w b w' ∧ (∀ g, ob a = some g → ob a0 = some g)
theorem msg_res {W : World} {bd : Nat} {m : Ms} {s : Sl} {t : Bool} (h : MB bd m s W) {tm : Array Value} (t2 : (tm[2]?).getD undef = .pointer (some ⟨bd, 0, none⟩)) (t3 : (tm[3]?).getD undef = .bool t) : (results Try.f38 tm).run Try.prog W = .ok (.tuple #[msV m s, .bool t]) W := by
  obtain ⟨c0, c1, c2, c3, c4, c5, c6, c7, c8, c9, c10, c11, c12, c13, c14, c15, c16⟩ := h.box
  unfold msV
  simp [results, Try.results38, go_sem, t2, t3, c0, c1, c2, c3, c4, c5, c6, c7, c8, c9, c10, c11, c12, c13, c14, c15, c16]
theorem Kr.c1set {w w1 : World} {b : Nat} (h : Kr w b w1) (i : Nat) (v : Value) : Kr w b (w1.setCell ⟨b, i, none⟩ v) := h.trans (Kr.set b i w1 v)
theorem step_off {K' : Prop} {E : Prop} {c : Bool} (hc : c = false) (hk : K') : if c = true then E else K' := by
  subst hc
  exact hk
theorem fload_run {o : Oper} (x : Operand) (ho : o.op = .load 59 x) {ρ : Operand → Value} {N : Nat} {b : Nat} (hx : ρ x = .pointer (some ⟨b, 1, none⟩)) {a : Option Addr} {c : Nat} {y : List Nat} {f : Int} {W : World} (h : Stm N W b a c y f) : (execOp ρ o).run Try.prog W = .ok (.value (.int .i64 f)) W := by
  have c1 := h.c1
  unfold execOp
  rw [ho]
  simp [go_sem, hx, c1]
theorem Stm.drew {N : Nat} {W : World} {b : Nat} {a : Option Addr} {c : Nat} {x : List Nat} {f : Int} (h : Stm N W b a c x f) : Stm N W.drew b a c x f := h.bel (drew_bel W)
end Go.Proofs.Ytanboekdfdafmaa.Pv
