/- fibAddrs: a list of addresses of the call's own. -/
import Derived.Test.YtjhdjbhpofhiaabFbW
import Derived.Test.YtjhdjbhpofhiaabFbQ
namespace Go.Proofs.Ytjhdjbhpofhiaab.Fb
open Go.ChangeShapes Go.WideShapes Go.ChangeAt Go.RowKit Go.Joins Go.Proofs.Ytjhdjbhpofhiaab.PM Go.Proofs.Ytjhdjbhpofhiaab.Ask
set_option linter.unusedVariables false

/-- four words are appended -/
theorem app_four {ops : Array Oper} {rest : List Oper} {o : Oper} {a : Act} {Q : Exit → Act → World → Prop} (hgd : o.guard = none) (s x : Operand)
    (ho : o.op = .call { callee := .builtin .append, args := #[s, x], argTypes := #[51, 51] }) (base : Nat) (v : Value) (xs : List Int) (w : World) (hs : a.eval s = v) (hown : OwnU base w v xs) (L : Nat) (hL : xs.length = L)
    (tb : TypeId) (H : Nat) (y0 y1 y2 y3 : Int) (hx : a.eval x = .slice (some ⟨H, 0, none⟩) 4 4) (hH : w.heap.size = H) (h0 : In32 y0) (h1 : In32 y1) (h2 : In32 y2) (h3 : In32 y3) (hby : (L + 4) * 4 ≤ 140737488355328) (hbase : base ≤ w.heap.size)
    (h : ∀ v' w', Hid (∃ xs' : List Int, OwnU base w' v' xs' ∧ xs'.length = L + 4) → Hid (KO w v.ownBlock w' v'.ownBlock) → wpList Try.prog ops Q rest (a.put o.dst v') w') :
    wpList Try.prog ops Q (o :: rest) a (w.alloc (.cells #[.int .u32 y0, .int .u32 y1, .int .u32 y2, .int .u32 y3] tb)) := by
  subst hH hL
  obtain ⟨i0, hi, hz0, hz1, hz2⟩ := info_parts infoU
  refine wpList_append_own_at _ hgd s x 51 ho base 31 i0 _ 1 4 Try.underlying51 hi hz0 hz1 hz2 rfl (by decide) v _ _ hs (World.ownsRow.alloc hown.row _) ⟨w.heap.size, 0, none⟩ 4 4 [.int .u32 y0, .int .u32 y1, .int .u32 y2, .int .u32 y3] hx rfl (by
      intro j u' hj
      match j, hj with
      | 0, hj => simp at hj; subst hj; simp [Addr.add]
      | 1, hj => simp at hj; subst hj; simp [Addr.add]
      | 2, hj => simp at hj; subst hj; simp [Addr.add]
      | 3, hj => simp at hj; subst hj; simp [Addr.add]) (by intro u' hu'; simp at hu'; rcases hu' with rfl | rfl | rfl | rfl <;> rfl) (by unfold maxLen; omega) hby (by simp; omega) ?_
  intro v' w' hown' hg _ hat
  have hO : OwnU base w' v' (xs ++ [y0, y1, y2, y3]) := ⟨by unfold wcs; rw [List.map_append, List.length_append]; exact hown', fun d hd => by
    rcases List.mem_append.1 hd with h | h
    · exact hown.u32 d h
    · simp at h; rcases h with rfl | rfl | rfl | rfl <;> assumption⟩
  refine h v' w' ⟨_, hO, by simp⟩ ⟨((Below.refl 0 w).alloc (Nat.zero_le _) _).grown hg (Nat.zero_le _) (fun _ _ => Nat.zero_le _), ?_, fun k hk hne => ?_⟩
  · rcases hat with h | h
    · exact .inl h
    · exact .inr ⟨_, h, by simp⟩
  · rw [hg.block k (by simp; omega) hne]
    exact Below.heap_alloc _ _ _ hk

theorem mod32 (z : Int) : In32 (z % 4294967296) := ⟨by omega, by show z % 4294967296 < _; omega⟩
theorem vld_rng {a n : Int} (h : vld a n = true) : 0 ≤ n ∧ n ≤ 32 := by
  unfold vld at h; simp at h; omega
/-- how the loop stands -/
structure AD (w : World) (N k : Nat) (u : Value) (W : World) : Prop where
  bel : Below w.heap.size w W
  own : ∃ xs : List Int, OwnU w.heap.size W u xs ∧ xs.length ≤ N + 4 * k
theorem AD.next {w : World} {N k : Nat} {u : Value} {W W' : World} (h : AD w N k u W) (hb : Below W.heap.size W W') : AD w N k u W' := by
  obtain ⟨xs, ho, hl⟩ := h.own
  exact ⟨h.bel.trans (hb.mono h.bel.size), xs, ho.bel hb, hl⟩
theorem AD.ko {w : World} {N k : Nat} {u u' : Value} {W W' : World} {xs xs' : List Int} (h : AD w N k u W) (hx : OwnU w.heap.size W u xs) (hx' : OwnU w.heap.size W' u' xs') (hl : xs'.length ≤ N + 4 * (k + 1)) (kp : KO W u.ownBlock W' u'.ownBlock) : AD w N (k + 1) u' W' :=
  ⟨⟨kp.str.os.trans h.bel.os, kp.str.tape.trans h.bel.tape, kp.str.output.trans h.bel.output, Nat.le_trans h.bel.size kp.size, fun b hb => (kp.block b (Nat.lt_of_lt_of_le hb h.bel.size) (fun e => by have := (hx.row.lt b e.symm).1; omega)).trans (h.bel.block b hb)⟩, xs', hx', hl⟩
theorem AD.step {w : World} {N k : Nat} {u : Value} {W : World} (h : AD w N k u W) : AD w N (k + 1) u W := by
  obtain ⟨xs, ho, hl⟩ := h.own
  exact ⟨h.bel, xs, ho, by omega⟩

set_option maxRecDepth 100000 in
set_option maxHeartbeats 4000000 in
theorem addrs_any (va vm : Option Addr) (cap cm : Nat) (ss : List (Int × Int × Int × Bool)) (L : Nat) (hL : ss.length = L) (ms : List Int) (N : Nat) (hN : ms.length = N) (hsz : (N + 4 * L + 4) * 4 ≤ 140737488355328) (w : World) (h : Arr4 w va ss) (hm : Wds w vm ms) (hnil : vm = none → N = 0 ∧ cm = 0) :
    Calls Try.prog 18 #[.slice va L cap, .slice vm N cm] w fun e w' => ∃ v, e = .returned v ∧ AD w N L v w' := by
  have H : Hid (Arr4 w va ss) := h
  have HL : Hid (ss.length = L) := hL
  have HM : Hid (Wds w vm ms) := hm
  have HN : Hid (ms.length = N) := hN
  have HNIL : Hid (vm = none → N = 0 ∧ cm = 0) := hnil
  clear h hL hm hN hnil
  go_enter Try.func18, Try.ntmps18
  have HE : Hid (OwnU w.heap.size (w.alloc (Obj.cells #[] 31)) (.slice (some ⟨w.heap.size, 0, none⟩) 0 0) []) := ⟨World.ownsRow_made w #[] 0 (Nat.le_refl _) (by unfold maxLen; omega) rfl, by simp⟩
  have hbE : Below w.heap.size w (w.alloc (Obj.cells #[] 31)) := (Below.refl _ w).alloc (Nat.le_refl _) _
  go_wp2_with (at_builtin; refine app_src rfl _ _ rfl w.heap.size (.slice (some ⟨w.heap.size, 0, none⟩) 0 0) [] (w.alloc (Obj.cells #[] 31)) rfl HE.out vm N cm ms HN.out rfl (HM.out.bel hbE) HNIL.out (by simp; omega) hbE.size ?_)
  intro v1 w1 ho1 hk1
  have HA1 : Hid (AD w N 0 v1 w1) := by
    have := hk1.out
    refine ⟨⟨this.str.os.trans hbE.os, this.str.tape.trans hbE.tape, this.str.output.trans hbE.output, Nat.le_trans hbE.size this.size, fun k hk => (this.block k (Nat.lt_of_lt_of_le hk hbE.size) (fun e => by simp [Value.ownBlock] at e; omega)).trans (hbE.block k hk)⟩, ms, by simpa using ho1.out, by rw [HN.out]; omega⟩
  clear ho1 hk1 HE hbE
  go_wp2_with fail
  go_loopw [5, 14] (fun u i wr => ∃ k : Nat, k ≤ L ∧ i = .int .i64 k ∧ AD w N k u wr) (fun _ i _ => L - (intOf i).toNat)
  case atStart => exact ⟨0, by omega, rfl, HA1.out⟩
  case round =>
    obtain ⟨k, hk, rfl, had⟩ := hrel
    have HAD : Hid (AD w N k u5 wr) := had
    clear HA1
    by_cases hlt : k < L
    · have hkd : k < ss.length := by rw [HL.out]; exact hlt
      obtain ⟨b, o, rfl, hbl, c0, c1, c2, c3⟩ := (H.out.bel had.bel).cells k hkd
      have hin := H.out.u32 _ (List.getElem_mem hkd)
      obtain ⟨⟨ad, len, way, dr⟩, hy⟩ : ∃ y, ss[k] = y := ⟨_, rfl⟩
      rw [hy] at c0 c1 c2 c3 hin
      have x0 : 0 ≤ ad := hin.1
      have x1 : ad < 4294967296 := hin.2
      have hkk : (k : Int) < L := by omega
      have kk0 : (0 : Int) ≤ k := by omega
      clear had hin hy
      go_wp2_with fail
      obtain ⟨wA, hwA⟩ : ∃ wA, wr.alloc (Obj.cells #[.int .u32 ad, .int .i64 len, .int .i64 way, .bool dr] 56) = wA := ⟨_, rfl⟩
      have hbA : Below wr.heap.size wr wA := by rw [← hwA]; exact (Below.refl _ wr).alloc (Nat.le_refl _) _
      have HBX : Hid (Box4 0 none wr.heap.size ad len way dr wA) := by rw [← hwA]; exact four wr ad len way dr _ _ _ (Nat.zero_le _) (fun g e => by cases e)
      have HAA : Hid (AD w N k u5 wA) := HAD.out.next hbA
      rw [hwA]
      obtain ⟨bx, hbx⟩ : ∃ bx, wr.heap.size = bx := ⟨_, rfl⟩
      rw [hbx] at HBX ⊢
      clear hwA c0 c1 c2 c3 hbA hbx HAD
      refine (rvalid_any ad len x0 x1 wA).mono ?_
      rintro e w2 ⟨rfl, hb2⟩
      have HA2 : Hid (AD w N k u5 w2) := HAA.out.next hb2
      have HB2 : Hid (Box4 0 none bx ad len way dr w2) := HBX.out.keep hb2.size (hb2.block bx HBX.out.lt.2) (by simp)
      clear hb2 HAA HBX
      obtain ⟨q0, q1, q2, q3, -, -⟩ := HB2.out
      cases hv : vld ad len with
      | false =>
        go_wp2_with fail
        exact ⟨⟨k + 1, by omega, by simp, HA2.out.step⟩, by simp [intOf]; omega⟩
      | true =>
        have hr : 0 ≤ len ∧ len ≤ 32 := vld_rng hv
        have hr0 := hr.1
        have hr1 := hr.2
        go_wp2_with fail
        go_quiet (fail)
        have hbq : Below w2.heap.size w2 (w2.drewN nq) := ⟨rfl, rfl, rfl, Nat.le_refl _, fun _ _ => rfl⟩
        have HA3 : Hid (AD w N k u5 (w2.drewN nq)) := HA2.out.next hbq
        have HB3 : Hid (Box4 0 none bx ad len way dr (w2.drewN nq)) := HB2.out.keep hbq.size (hbq.block bx HB2.out.lt.2) (by simp)
        clear q0 q1 q2 q3 HB2 HA2 hbq
        generalize w2.drewN nq = w3 at *
        obtain ⟨E, hE⟩ : ∃ E, (ad + IntKind.u64.wrap (IntKind.u64.wrap (2 ^ (32 - len).toNat) - 1) % 4294967296) % 4294967296 = E := ⟨_, rfl⟩
        have hE32 : In32 E := by rw [← hE]; exact ⟨by omega, by show _ % 4294967296 < _; omega⟩
        rw [hE]
        have E0 : 0 ≤ E := hE32.1
        have E1 : E < 4294967296 := hE32.2
        clear hE hE32
        obtain ⟨q0, q1, q2, q3, -, -⟩ := HB3.out
        obtain ⟨xs, hox, hxl⟩ := HA3.out.own
        have HOX : Hid (OwnU w.heap.size w3 u5 xs) := hox
        obtain ⟨Lx, hLx⟩ : ∃ Lx, xs.length = Lx := ⟨_, rfl⟩
        have HLX : Hid (xs.length = Lx) := hLx
        rw [hLx] at hxl
        have hws := HA3.out.bel.size
        clear hox hLx
        go_wp2_with (at_builtin; refine app_four rfl _ _ rfl w.heap.size u5 xs w3 rfl HOX.out Lx HLX.out 31 w3.heap.size ad _ E _ rfl rfl ⟨x0, x1⟩ (mod32 _) ⟨E0, E1⟩ (mod32 _) (by omega) hws ?_)
        intro v4 w4 ho4 hk4
        have HA4 : Hid (AD w N (k + 1) v4 w4) := by
          obtain ⟨xs', hox', hl'⟩ := ho4.out
          exact HA3.out.ko HOX.out hox' (by omega) hk4.out
        clear ho4 hk4
        go_wp2_with fail
        exact ⟨⟨k + 1, by omega, by simp, HA4.out⟩, by simp [intOf]; omega⟩
    · obtain rfl : L = k := by omega
      clear had
      go_wp2_with fail
      go_ret
      exact ⟨_, rfl, HAD.out⟩
end Go.Proofs.Ytjhdjbhpofhiaab.Fb
