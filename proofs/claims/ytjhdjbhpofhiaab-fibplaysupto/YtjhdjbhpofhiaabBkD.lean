/- What the laws of the forwarding table want of the book: fibWant. -/
import Derived.Test.YtjhdjbhpofhiaabBkC
import Derived.Deep.RegionHeld3
import Derived.StillTailTactics
namespace Go.Proofs.Ytjhdjbhpofhiaab.Bk
open Go.ChangeShapes Go.WideShapes Go.ChangeAt Go.RowKit Go.Proofs.Ytjhdjbhpofhiaab.PM Go.Proofs.Ytjhdjbhpofhiaab.TrM Go.Proofs.Ytjhdjbhpofhiaab.Ask
set_option linter.unusedVariables false

def wantL (l : List (Int × Int × Int)) (ad len way : Int) (dr : Bool) : List (Int × Int × Int) :=
  if vld ad len = true then (if dr = true then (if bget ad len l = none then l else bp ad len 0 true l) else (if way < 1 ∨ 65535 < way then l else bp ad len way false l)) else l
def wantE (l : List (Int × Int × Int)) (ad len way : Int) (dr : Bool) : Int :=
  if vld ad len = true then (if dr = true then (if bget ad len l = none then 9 else 0) else (if way < 1 ∨ 65535 < way then 2 else 0)) else 3
def wantM (l : List (Int × Int × Int)) (ad len way : Int) (dr : Bool) : Bool :=
  if vld ad len = true then (if dr = true then (bget ad len l).isSome else (if way < 1 ∨ 65535 < way then false else !(bget ad len l).isSome || ((bget ad len l).getD 0 != way))) else false
/-- the boxes that fibWant lays -/
structure WBox (s : Nat) (va : Option Addr) (L cap : Nat) (ad len way : Int) (dr : Bool) (W : World) : Prop where
  b0 : W.cell? ⟨s, 0, none⟩ = some (.slice va L cap)
  p0 : W.cell? ⟨s + 1, 0, none⟩ = some (.int .u32 ad)
  p1 : W.cell? ⟨s + 1, 1, none⟩ = some (.int .i64 len)
  p2 : W.cell? ⟨s + 1, 2, none⟩ = some (.int .i64 way)
  p3 : W.cell? ⟨s + 1, 3, none⟩ = some (.bool dr)
  r0 : W.cell? ⟨s + 1 + 1, 0, none⟩ = some (.slice none 0 0)
  z0 : W.frozen? ⟨s + 1 + 1, 0, none⟩ = false
theorem WBox.bel {s : Nat} {va : Option Addr} {L cap : Nat} {ad len way : Int} {dr : Bool} {W W' : World} (h : WBox s va L cap ad len way dr W) (hb : Below W.heap.size W W') : WBox s va L cap ad len way dr W' :=
  ⟨cell_bel h.b0 hb, cell_bel h.p0 hb, cell_bel h.p1 hb, cell_bel h.p2 hb, cell_bel h.p3 hb, cell_bel h.r0 hb, (frozen_bel h.r0 hb).trans h.z0⟩
/-- how fibWant ends -/
def Wanted (w : World) (va : Option Addr) (l l' : List (Int × Int × Int)) (er : Int) (may : Bool) (e : Ending) (W : World) : Prop :=
  ∃ va' cap', e = .returned (.tuple #[.agg #[.slice va' l'.length cap'], .int .i64 er, .bool may]) ∧ Arr3 W va' l' ∧ Below w.heap.size w W ∧ ((va' = va ∧ l' = l) ∨ ∀ b o, va' = some ⟨b, o, none⟩ → w.heap.size ≤ b)
theorem wanted_same {w W : World} {s : Nat} {va : Option Addr} {L cap : Nat} {l l' : List (Int × Int × Int)} (hl : Arr3 w va l) (hL : l.length = L) (hs : w.heap.size = s) (hb : Below w.heap.size w W) (er : Int) (may : Bool) (he : l' = l) (u : Value) :
    Wanted w va l l' er may (.returned (.tuple #[.agg #[.slice va L cap], .int .i64 er, .bool may])) (W.setCell ⟨s + 1 + 1, 0, none⟩ u) := by
  subst hL he
  have hb' : Below w.heap.size w (W.setCell ⟨s + 1 + 1, 0, none⟩ u) := hb.setCell (p := ⟨s + 1 + 1, 0, none⟩) (by show _ ≤ s + 1 + 1; omega) _
  exact ⟨va, cap, rfl, hl.bel hb', hb', .inl ⟨rfl, rfl⟩⟩
theorem Arr3.set {W : World} {a : Option Addr} {l : List (Int × Int × Int)} (h : Arr3 W a l) {s : Nat} {p : Addr} (hge : ∀ b o, a = some ⟨b, o, none⟩ → s ≤ b) (hp : p.block < s) (u : Value) : Arr3 (W.setCell p u) a l := by
  refine ⟨h.small, fun i hi => ?_, h.u32⟩
  obtain ⟨b, o, e, hlt, h0, h1, h2⟩ := h.cells i hi
  have hne : p.block ≠ b := fun e2 => by have := hge b o e; omega
  have hk : ∀ k, (W.setCell p u).cell? ⟨b, k, none⟩ = W.cell? ⟨b, k, none⟩ := fun k => World.cell?_of_block (Below.heap_setCell W p u b (fun e => hne e.symm))
  exact ⟨b, o, e, by simpa using hlt, (hk _).trans h0, (hk _).trans h1, (hk _).trans h2⟩
theorem wanted_new {w W W2 : World} {s : Nat} {va va' : Option Addr} {cap' n' : Nat} {l l' : List (Int × Int × Int)} (hs : w.heap.size = s) (h2 : s + 3 ≤ W2.heap.size) (ha : Arr3 W va' l') (hn : l'.length = n') (hb : Below w.heap.size w W) (hge : ∀ b o, va' = some ⟨b, o, none⟩ → W2.heap.size ≤ b) (er : Int) (may : Bool) (u : Value) :
    Wanted w va l l' er may (.returned (.tuple #[.agg #[.slice va' n' cap'], .int .i64 er, .bool may])) (W.setCell ⟨s + 1 + 1, 0, none⟩ u) := by
  subst hn
  exact ⟨va', cap', rfl, ha.set hge (p := ⟨s + 1 + 1, 0, none⟩) (by show s + 1 + 1 < _; omega) u, hb.setCell (p := ⟨s + 1 + 1, 0, none⟩) (by show _ ≤ s + 1 + 1; omega) _, .inr (fun b o e => by have := hge b o e; omega)⟩

set_option maxRecDepth 100000 in
set_option maxHeartbeats 2000000 in
theorem want_any (va : Option Addr) (cap : Nat) (l : List (Int × Int × Int)) (L : Nat) (hL : l.length = L) (ad len way : Int) (dr : Bool) (a0 : 0 ≤ ad) (a1 : ad < 4294967296) (w : World) (hl : Arr3 w va l) (hby : (L + 2) * 24 ≤ 140737488355328) (l' : List (Int × Int × Int)) (hl' : wantL l ad len way dr = l') (er : Int) (her : wantE l ad len way dr = er) (may : Bool) (hmay : wantM l ad len way dr = may) :
    Calls Try.prog 19 #[.agg #[.slice va L cap], .agg #[.int .u32 ad, .int .i64 len, .int .i64 way, .bool dr]] w fun e w' => Wanted w va l l' er may e w' := by
  have HL : Hid (Arr3 w va l) := hl
  have HLEN : Hid (l.length = L) := hL
  have H1 : Hid (wantL l ad len way dr = l') := hl'
  have H2 : Hid (wantE l ad len way dr = er) := her
  have H3 : Hid (wantM l ad len way dr = may) := hmay
  have hsm := hl.small
  rw [hL] at hsm
  clear hl hL hl' her hmay
  go_enter Try.func19, Try.ntmps19
  go_wp2_with fail
  obtain ⟨w0, hw0⟩ : ∃ w0, ((w.alloc (Obj.cells #[.slice va L cap] 28)).alloc (Obj.cells #[.int .u32 ad, .int .i64 len, .int .i64 way, .bool dr] 56)).alloc (Obj.cells #[.slice none 0 0] 28) = w0 := ⟨_, rfl⟩
  obtain ⟨g1, g2, g3, hs0, hb0⟩ := three_blocks w _ _ _ w0 hw0.symm
  have HBX : Hid (WBox w.heap.size va L cap ad len way dr w0) := by constructor <;> simp [World.cell?, World.frozen?, g1, g2, g3]
  rw [hw0]
  clear hw0 g1 g2 g3
  obtain ⟨s, hs⟩ : ∃ s, w.heap.size = s := ⟨_, rfl⟩
  have HS : Hid (w.heap.size = s) := hs
  have hsz0 : s + 3 ≤ w0.heap.size := by omega
  rw [hs] at HBX ⊢
  clear hs hs0
  cases hv : vld ad len with
  | false =>
    have HV : Hid (vld ad len = false) := hv
    have HE : Hid (l' = l ∧ er = 3 ∧ may = false) := by
      refine ⟨?_, ?_, ?_⟩
      · rw [← H1.out]; simp [wantL, hv]
      · rw [← H2.out]; simp [wantE, hv]
      · rw [← H3.out]; simp [wantM, hv]
    clear hv
    refine (rvalid_no ad len HV.out a0 a1 w0).mono ?_
    rintro e wA ⟨rfl, hbA⟩
    obtain ⟨b0, p0, p1, p2, p3, r0, z0⟩ := HBX.out.bel hbA
    have HBA : Hid (Below w.heap.size w wA) := hb0.trans (hbA.mono hb0.size)
    clear hbA hb0 HBX
    go_wp2_with fail
    refine bodyPost_ret (v := .tuple #[.agg #[.slice va L cap], .int .i64 3, .bool false]) (by simp [results, Try.results19, go_sem, r0]) rfl ?_
    obtain ⟨e1, e2, e3⟩ := HE.out
    subst e2 e3
    exact wanted_same HL.out HLEN.out HS.out HBA.out _ _ e1 _
  | true =>
    have HV : Hid (vld ad len = true) := hv
    clear hv
    refine (rvalid_yes ad len HV.out a0 a1 w0).mono ?_
    rintro e wA ⟨rfl, hbA⟩
    obtain ⟨b0, p0, p1, p2, p3, r0, z0⟩ := HBX.out.bel hbA
    have HBXA := HBX.out.bel hbA
    have HBA : Hid (Below w.heap.size w wA) := hb0.trans (hbA.mono hb0.size)
    have hszA : s + 3 ≤ wA.heap.size := Nat.le_trans hsz0 hbA.size
    clear hbA hb0 HBX
    have HBX : Hid (WBox s va L cap ad len way dr wA) := HBXA
    clear HBXA
    obtain ⟨r, hr⟩ : ∃ r, bget ad len l = r := ⟨_, rfl⟩
    have HR : Hid (bget ad len l = r) := hr
    have HGET := bget_any va cap l ad len wA (HL.out.bel HBA.out) r hr
    rw [HLEN.out] at HGET
    have HGT : Hid (Calls _ _ _ _ _) := HGET
    clear HGET hr
    go_wp2_with fail
    refine HGT.out.mono ?_
    rintro e w2 ⟨rfl, hb2⟩
    obtain ⟨b0', p0', p1', p2', p3', r0', z0'⟩ := HBX.out.bel hb2
    have HBX2 : Hid (WBox s va L cap ad len way dr w2) := HBX.out.bel hb2
    have HB2 : Hid (Below w.heap.size w w2) := HBA.out.trans (hb2.mono HBA.out.size)
    have hsz2 : s + 3 ≤ w2.heap.size := Nat.le_trans hszA hb2.size
    clear hb2 HGT b0 p0 p1 p2 p3 r0 z0 HBX HBA
    cases dr with
    | true =>
      cases r with
      | none =>
        have HE : Hid (l' = l ∧ er = 9 ∧ may = false) := by
          refine ⟨?_, ?_, ?_⟩
          · rw [← H1.out]; simp [wantL, HV.out, HR.out]
          · rw [← H2.out]; simp [wantE, HV.out, HR.out]
          · rw [← H3.out]; simp [wantM, HV.out, HR.out]
        go_wp2_with fail
        refine bodyPost_ret (v := .tuple #[.agg #[.slice va L cap], .int .i64 9, .bool false]) (by simp [results, Try.results19, go_sem, r0']) rfl ?_
        obtain ⟨e1, e2, e3⟩ := HE.out
        subst e2 e3
        exact wanted_same HL.out HLEN.out HS.out HB2.out _ _ e1 _
      | some q =>
        have HE : Hid (l' = bp ad len 0 true l ∧ er = 0 ∧ may = true) := by
          refine ⟨?_, ?_, ?_⟩
          · rw [← H1.out]; simp [wantL, HV.out, HR.out]
          · rw [← H2.out]; simp [wantE, HV.out, HR.out]
          · rw [← H3.out]; simp [wantM, HV.out, HR.out]
        have HDRP := bdrop_any va cap l ad len w2 (HL.out.bel HB2.out) (by rw [HLEN.out]; exact hby)
        rw [HLEN.out] at HDRP
        have HDP : Hid (Calls _ _ _ _ _) := HDRP
        clear HDRP
        go_wp2_with fail
        refine HDP.out.mono ?_
        rintro e w3 ⟨va', cap', rfl, ha3, hb3, hge⟩
        obtain ⟨b0, p0, p1, p2, p3, r0, z0⟩ := HBX2.out.bel hb3
        have HB3 : Hid (Below w.heap.size w w3) := HB2.out.trans (hb3.mono HB2.out.size)
        have HA3 : Hid (Arr3 w3 va' (bp ad len 0 true l)) := ha3
        have HGE : Hid (∀ b o, va' = some ⟨b, o, none⟩ → w2.heap.size ≤ b) := hge
        clear ha3 hb3 hge HDP b0' p0' p1' p2' p3' r0' z0'
        obtain ⟨l2, hl2⟩ : ∃ l2, bp ad len 0 true l = l2 := ⟨_, rfl⟩
        rw [hl2] at HA3 HE ⊢
        obtain ⟨n2, hn2⟩ : ∃ n2, l2.length = n2 := ⟨_, rfl⟩
        have HN2 : Hid (l2.length = n2) := hn2
        rw [hn2]
        clear hl2 hn2
        go_wp2_with fail
        refine bodyPost_ret (v := .tuple #[.agg #[.slice va' n2 cap'], .int .i64 0, .bool true]) (by simp [results, Try.results19, go_sem, r0]) rfl ?_
        obtain ⟨e1, e2, e3⟩ := HE.out
        subst e1 e2 e3
        exact wanted_new HS.out hsz2 HA3.out HN2.out HB3.out HGE.out _ _ _
    | false =>
      by_cases hw1 : way < 1
      · have HE : Hid (l' = l ∧ er = 2 ∧ may = false) := by
          refine ⟨?_, ?_, ?_⟩
          · rw [← H1.out]; simp [wantL, HV.out, hw1]
          · rw [← H2.out]; simp [wantE, HV.out, hw1]
          · rw [← H3.out]; simp [wantM, HV.out, hw1]
        go_wp2_with fail
        refine bodyPost_ret (v := .tuple #[.agg #[.slice va L cap], .int .i64 2, .bool false]) (by simp [results, Try.results19, go_sem, r0']) rfl ?_
        obtain ⟨e1, e2, e3⟩ := HE.out
        subst e2 e3
        exact wanted_same HL.out HLEN.out HS.out HB2.out _ _ e1 _
      · by_cases hw2 : 65535 < way
        · have HE : Hid (l' = l ∧ er = 2 ∧ may = false) := by
            refine ⟨?_, ?_, ?_⟩
            · rw [← H1.out]; simp [wantL, HV.out, hw2]
            · rw [← H2.out]; simp [wantE, HV.out, hw2]
            · rw [← H3.out]; simp [wantM, HV.out, hw2]
          go_wp2_with fail
          refine bodyPost_ret (v := .tuple #[.agg #[.slice va L cap], .int .i64 2, .bool false]) (by simp [results, Try.results19, go_sem, r0']) rfl ?_
          obtain ⟨e1, e2, e3⟩ := HE.out
          subst e2 e3
          exact wanted_same HL.out HLEN.out HS.out HB2.out _ _ e1 _
        · have hwn : ¬ (way < 1 ∨ 65535 < way) := by omega
          have HE : Hid (l' = bp ad len way false l ∧ er = 0 ∧ (!r.isSome || (r.getD 0 != way)) = may) := by
            refine ⟨?_, ?_, ?_⟩
            · rw [← H1.out]; unfold wantL; rw [if_pos HV.out, if_neg (by simp), if_neg hwn]
            · rw [← H2.out]; unfold wantE; rw [if_pos HV.out, if_neg (by simp), if_neg hwn]
            · rw [← H3.out]; unfold wantM; rw [if_pos HV.out, if_neg (by simp), if_neg hwn, HR.out]
          have HPT : Hid (∀ W, Below w2.heap.size w2 W → Calls Try.prog 10 #[.agg #[.slice va L cap], .agg #[.int .u32 ad, .int .i64 len], .int .i64 way] W fun e w' => ∃ va' cap', e = .returned (.agg #[.slice va' (bp ad len way false l).length cap']) ∧ Arr3 w' va' (bp ad len way false l) ∧ Below W.heap.size W w' ∧ ∀ b o, va' = some ⟨b, o, none⟩ → W.heap.size ≤ b) := fun W hW => by
            have := bput_any va cap l ad len way W (HL.out.bel (HB2.out.trans (hW.mono HB2.out.size))) a0 a1 (by rw [HLEN.out]; exact hby) HV.out
            rw [HLEN.out] at this
            exact this
          clear hwn
          have hB1 : Below w2.heap.size w2 w2.drew := ⟨rfl, rfl, rfl, Nat.le_refl _, fun _ _ => rfl⟩
          cases r with
          | none =>
            go_wp2_with fail
            refine wp_region_held_drew (S := (fun w' => w'.cell? ⟨s, 0, none⟩ = some (.slice va L cap) ∧ w'.cell? ⟨s + 1, 0, none⟩ = some (.int .u32 ad) ∧ w'.cell? ⟨s + 1, 1, none⟩ = some (.int .i64 len) ∧ w'.cell? ⟨s + 1, 2, none⟩ = some (.int .i64 way))) (by kernel_rfl) ?_ (fun hHeld => ?_)
            · simp [go_sem, b0', p0', p1', p2']
            refine wpAnyH_take (i := 0) (v := ?_) rfl (by kernel_rfl) (by kernel_rfl) (by kernel_rfl) (fun _ _ _ h => h) (Or.inl ⟨by rfl, ?_⟩) (by assumption) ?_
            case refine_2 => intro w hSw; obtain ⟨k0, k1, k2, k3⟩ := hSw; first | (simp [go_sem, k0]; rfl) | (simp [go_sem, k0, k1, k2, k3]; done)
            try simp only [Act.put, List.setIfInBounds_toArray]
            refine wpAnyH_take (i := 1) (v := ?_) rfl (by kernel_rfl) (by kernel_rfl) (by kernel_rfl) (fun _ _ _ h => h) (Or.inl ⟨by rfl, ?_⟩) (by assumption) ?_
            case refine_2 => intro w hSw; obtain ⟨k0, k1, k2, k3⟩ := hSw; first | (simp [go_sem]; rfl) | (simp [go_sem, k0, k1, k2, k3]; done)
            try simp only [Act.put]
            refine wpAnyH_take (i := 2) (v := ?_) rfl (by kernel_rfl) (by kernel_rfl) (by kernel_rfl) (fun _ _ _ h => h) (Or.inl ⟨by rfl, ?_⟩) (by assumption) ?_
            case refine_2 => intro w hSw; obtain ⟨k0, k1, k2, k3⟩ := hSw; first | (simp [go_sem, k1, k2]; rfl) | (simp [go_sem, k0, k1, k2, k3]; done)
            try simp only [Act.put]
            refine wpAnyH_take (i := 3) (v := ?_) rfl (by kernel_rfl) (by kernel_rfl) (by kernel_rfl) (fun _ _ _ h => h) (Or.inl ⟨by rfl, ?_⟩) (by assumption) ?_
            case refine_2 => intro w hSw; obtain ⟨k0, k1, k2, k3⟩ := hSw; first | (simp [go_sem]; rfl) | (simp [go_sem, k0, k1, k2, k3]; done)
            try simp only [Act.put]
            refine wpAnyH_take (i := 4) (v := ?_) rfl (by kernel_rfl) (by kernel_rfl) (by kernel_rfl) (fun _ _ _ h => h) (Or.inl ⟨by rfl, ?_⟩) (by assumption) ?_
            case refine_2 => intro w hSw; obtain ⟨k0, k1, k2, k3⟩ := hSw; first | (simp [go_sem, k3]; rfl) | (simp [go_sem, k0, k1, k2, k3]; done)
            try simp only [Act.put]
            refine wpAnyH_take (i := 6) (v := ?_) rfl (by kernel_rfl) (by kernel_rfl) (by kernel_rfl) (fun _ _ _ h => h) (Or.inl ⟨by rfl, ?_⟩) (by assumption) ?_
            case refine_2 => intro w hSw; obtain ⟨k0, k1, k2, k3⟩ := hSw; first | (simp [go_sem]; rfl) | (simp [go_sem, k0, k1, k2, k3]; done)
            try simp only [Act.put]
            refine wpAnyH_take (i := 7) (v := ?_) rfl (by kernel_rfl) (by kernel_rfl) (by kernel_rfl) (fun _ _ _ h => h) (Or.inl ⟨by rfl, ?_⟩) (by assumption) ?_
            case refine_2 => intro w hSw; obtain ⟨k0, k1, k2, k3⟩ := hSw; first | (simp [go_sem]; rfl) | (simp [go_sem, k0, k1, k2, k3]; done)
            try simp only [Act.put]
            refine wpAnyH_ready (rs := [5]) (by kernel_rfl) (by simp) ?_
            refine AllReadyH.cons rfl (fun K hK => ?_) AllReadyH.nil
            go_simp
            refine (HPT.out _ hB1).mono ?_
            rintro e w3 ⟨va', cap', rfl, ha3, hb3, hge⟩
            obtain ⟨b0, p0, p1, p2, p3, r0, z0⟩ := HBX2.out.bel (hB1.trans hb3)
            have HB3 : Hid (Below w.heap.size w w3) := HB2.out.trans ((hB1.trans hb3).mono HB2.out.size)
            have HA3 : Hid (Arr3 w3 va' (bp ad len way false l)) := ha3
            have HGE : Hid (∀ b o, va' = some ⟨b, o, none⟩ → w2.heap.size ≤ b) := hge
            clear ha3 hb3 hge HPT b0' p0' p1' p2' p3' r0' z0' hHeld
            obtain ⟨l2, hl2⟩ : ∃ l2, bp ad len way false l = l2 := ⟨_, rfl⟩
            rw [hl2] at HA3 HE ⊢
            obtain ⟨n2, hn2⟩ : ∃ n2, l2.length = n2 := ⟨_, rfl⟩
            have HN2 : Hid (l2.length = n2) := hn2
            rw [hn2]
            clear hl2 hn2
            go_wp2_with fail
            refine hK.out _ _ ⟨b0, p0, p1, p2⟩ (fun hHeld => ?_)
            clear hK K
            try simp only [Act.put, List.setIfInBounds_toArray, List.set_cons_zero, List.set_cons_succ]
            refine wpAnyH_take (i := 8) (v := ?_) rfl (by kernel_rfl) (by kernel_rfl) (by kernel_rfl) (fun _ _ _ h => h) (Or.inl ⟨by rfl, ?_⟩) (by assumption) ?_
            case refine_2 => intro w hSw; obtain ⟨k0, k1, k2, k3⟩ := hSw; first | (simp [go_sem]; rfl) | (simp [go_sem, k0, k1, k2, k3]; done)
            try simp only [Act.put, List.setIfInBounds_toArray]
            refine wpAnyH_take (i := 9) (v := undef) rfl (by kernel_rfl) (by kernel_rfl) (by kernel_rfl) (fun _ _ _ h => h) (Or.inr ⟨by rfl, rfl⟩) (by assumption) ?_
            try simp only [Act.put]
            refine wpAnyH_take (i := 10) (v := undef) rfl (by kernel_rfl) (by kernel_rfl) (by kernel_rfl) (fun _ _ _ h => h) (Or.inr ⟨by rfl, rfl⟩) (by assumption) ?_
            try simp only [Act.put]
            refine wpAnyH_take (i := 11) (v := undef) rfl (by kernel_rfl) (by kernel_rfl) (by kernel_rfl) (fun _ _ _ h => h) (Or.inr ⟨by rfl, rfl⟩) (by assumption) ?_
            try simp only [Act.put]
            refine wpAnyH_take (i := 12) (v := undef) rfl (by kernel_rfl) (by kernel_rfl) (by kernel_rfl) (fun _ _ _ h => h) (Or.inr ⟨by rfl, rfl⟩) (by assumption) ?_
            try simp only [Act.put]
            refine wpAnyH_take (i := 13) (v := ?_) rfl (by kernel_rfl) (by kernel_rfl) (by kernel_rfl) (fun _ _ _ h => h) (Or.inl ⟨by rfl, ?_⟩) (by assumption) ?_
            case refine_2 => intro w hSw; obtain ⟨k0, k1, k2, k3⟩ := hSw; first | (simp [go_sem]; rfl) | (simp [go_sem, k0, k1, k2, k3]; done)
            try simp only [Act.put]
            refine wpAnyH_ready (rs := [14]) (by kernel_rfl) (by simp) ?_
            refine AllReadyH.cons rfl (fun K hK => ?_) AllReadyH.nil
            go_simp
            refine hK.out _ _ (by simp [go_sem, b0, p0, p1, p2]) (fun hHeld => ?_)
            clear hK K
            try simp only [Act.put, List.setIfInBounds_toArray, List.set_cons_zero, List.set_cons_succ]
            refine wpAnyH_ready (rs := [15]) (by kernel_rfl) (by simp) ?_
            refine AllReadyH.cons rfl (fun K hK => ?_) AllReadyH.nil
            go_simp
            refine hK.out _ _ hHeld (fun hHeld => ?_)
            clear hK K
            try simp only [Act.put, List.setIfInBounds_toArray, List.set_cons_zero, List.set_cons_succ]
            refine wpAnyH_ready (rs := [16]) (by kernel_rfl) (by simp) ?_
            refine AllReadyH.cons rfl (fun K hK => ?_) AllReadyH.nil
            go_simp
            refine hK.out _ _ hHeld (fun hHeld => ?_)
            clear hK K
            try simp only [Act.put, List.setIfInBounds_toArray, List.set_cons_zero, List.set_cons_succ]
            refine wpAnyH_done (by kernel_rfl) ?_ _
            go_wp2_with fail
            refine bodyPost_ret (v := .tuple #[.agg #[.slice va' n2 cap'], .int .i64 0, .bool may]) (by simp [results, Try.results19, go_sem, r0, ← HE.out.2.2]) rfl ?_
            obtain ⟨e1, e2, e3⟩ := HE.out
            subst e1 e2
            exact wanted_new HS.out hsz2 HA3.out HN2.out HB3.out HGE.out _ _ _
          | some q =>
            go_wp2_with fail
            refine wp_region_held_drew (S := (fun w' => w'.cell? ⟨s, 0, none⟩ = some (.slice va L cap) ∧ w'.cell? ⟨s + 1, 0, none⟩ = some (.int .u32 ad) ∧ w'.cell? ⟨s + 1, 1, none⟩ = some (.int .i64 len) ∧ w'.cell? ⟨s + 1, 2, none⟩ = some (.int .i64 way))) (by kernel_rfl) ?_ (fun hHeld => ?_)
            · simp [go_sem, b0', p0', p1', p2']
            refine wpAnyH_take (i := 0) (v := ?_) rfl (by kernel_rfl) (by kernel_rfl) (by kernel_rfl) (fun _ _ _ h => h) (Or.inl ⟨by rfl, ?_⟩) (by assumption) ?_
            case refine_2 => intro w hSw; obtain ⟨k0, k1, k2, k3⟩ := hSw; first | (simp [go_sem, k0]; rfl) | (simp [go_sem, k0, k1, k2, k3]; done)
            try simp only [Act.put, List.setIfInBounds_toArray]
            refine wpAnyH_take (i := 1) (v := ?_) rfl (by kernel_rfl) (by kernel_rfl) (by kernel_rfl) (fun _ _ _ h => h) (Or.inl ⟨by rfl, ?_⟩) (by assumption) ?_
            case refine_2 => intro w hSw; obtain ⟨k0, k1, k2, k3⟩ := hSw; first | (simp [go_sem]; rfl) | (simp [go_sem, k0, k1, k2, k3]; done)
            try simp only [Act.put]
            refine wpAnyH_take (i := 2) (v := ?_) rfl (by kernel_rfl) (by kernel_rfl) (by kernel_rfl) (fun _ _ _ h => h) (Or.inl ⟨by rfl, ?_⟩) (by assumption) ?_
            case refine_2 => intro w hSw; obtain ⟨k0, k1, k2, k3⟩ := hSw; first | (simp [go_sem, k1, k2]; rfl) | (simp [go_sem, k0, k1, k2, k3]; done)
            try simp only [Act.put]
            refine wpAnyH_take (i := 3) (v := ?_) rfl (by kernel_rfl) (by kernel_rfl) (by kernel_rfl) (fun _ _ _ h => h) (Or.inl ⟨by rfl, ?_⟩) (by assumption) ?_
            case refine_2 => intro w hSw; obtain ⟨k0, k1, k2, k3⟩ := hSw; first | (simp [go_sem]; rfl) | (simp [go_sem, k0, k1, k2, k3]; done)
            try simp only [Act.put]
            refine wpAnyH_take (i := 4) (v := ?_) rfl (by kernel_rfl) (by kernel_rfl) (by kernel_rfl) (fun _ _ _ h => h) (Or.inl ⟨by rfl, ?_⟩) (by assumption) ?_
            case refine_2 => intro w hSw; obtain ⟨k0, k1, k2, k3⟩ := hSw; first | (simp [go_sem, k3]; rfl) | (simp [go_sem, k0, k1, k2, k3]; done)
            try simp only [Act.put]
            refine wpAnyH_take (i := 6) (v := ?_) rfl (by kernel_rfl) (by kernel_rfl) (by kernel_rfl) (fun _ _ _ h => h) (Or.inl ⟨by rfl, ?_⟩) (by assumption) ?_
            case refine_2 => intro w hSw; obtain ⟨k0, k1, k2, k3⟩ := hSw; first | (simp [go_sem]; rfl) | (simp [go_sem, k0, k1, k2, k3]; done)
            try simp only [Act.put]
            refine wpAnyH_take (i := 7) (v := ?_) rfl (by kernel_rfl) (by kernel_rfl) (by kernel_rfl) (fun _ _ _ h => h) (Or.inl ⟨by rfl, ?_⟩) (by assumption) ?_
            case refine_2 => intro w hSw; obtain ⟨k0, k1, k2, k3⟩ := hSw; first | (simp [go_sem]; rfl) | (simp [go_sem, k0, k1, k2, k3]; done)
            try simp only [Act.put]
            refine wpAnyH_ready (rs := [5]) (by kernel_rfl) (by simp) ?_
            refine AllReadyH.cons rfl (fun K hK => ?_) AllReadyH.nil
            go_simp
            refine (HPT.out _ hB1).mono ?_
            rintro e w3 ⟨va', cap', rfl, ha3, hb3, hge⟩
            obtain ⟨b0, p0, p1, p2, p3, r0, z0⟩ := HBX2.out.bel (hB1.trans hb3)
            have HB3 : Hid (Below w.heap.size w w3) := HB2.out.trans ((hB1.trans hb3).mono HB2.out.size)
            have HA3 : Hid (Arr3 w3 va' (bp ad len way false l)) := ha3
            have HGE : Hid (∀ b o, va' = some ⟨b, o, none⟩ → w2.heap.size ≤ b) := hge
            clear ha3 hb3 hge HPT b0' p0' p1' p2' p3' r0' z0' hHeld
            obtain ⟨l2, hl2⟩ : ∃ l2, bp ad len way false l = l2 := ⟨_, rfl⟩
            rw [hl2] at HA3 HE ⊢
            obtain ⟨n2, hn2⟩ : ∃ n2, l2.length = n2 := ⟨_, rfl⟩
            have HN2 : Hid (l2.length = n2) := hn2
            rw [hn2]
            clear hl2 hn2
            go_wp2_with fail
            refine hK.out _ _ ⟨b0, p0, p1, p2⟩ (fun hHeld => ?_)
            clear hK K
            try simp only [Act.put, List.setIfInBounds_toArray, List.set_cons_zero, List.set_cons_succ]
            refine wpAnyH_take (i := 8) (v := ?_) rfl (by kernel_rfl) (by kernel_rfl) (by kernel_rfl) (fun _ _ _ h => h) (Or.inl ⟨by rfl, ?_⟩) (by assumption) ?_
            case refine_2 => intro w hSw; obtain ⟨k0, k1, k2, k3⟩ := hSw; first | (simp [go_sem]; rfl) | (simp [go_sem, k0, k1, k2, k3]; done)
            try simp only [Act.put, List.setIfInBounds_toArray]
            refine wpAnyH_take (i := 9) (v := ?_) rfl (by kernel_rfl) (by kernel_rfl) (by kernel_rfl) (fun _ _ _ h => h) (Or.inl ⟨by rfl, ?_⟩) (by assumption) ?_
            case refine_2 => intro w hSw; obtain ⟨k0, k1, k2, k3⟩ := hSw; first | (simp [go_sem]; rfl) | (simp [go_sem, k0, k1, k2, k3]; done)
            try simp only [Act.put]
            refine wpAnyH_take (i := 10) (v := ?_) rfl (by kernel_rfl) (by kernel_rfl) (by kernel_rfl) (fun _ _ _ h => h) (Or.inl ⟨by rfl, ?_⟩) (by assumption) ?_
            case refine_2 => intro w hSw; obtain ⟨k0, k1, k2, k3⟩ := hSw; first | (simp [go_sem]; rfl) | (simp [go_sem, k0, k1, k2, k3]; done)
            try simp only [Act.put]
            refine wpAnyH_take (i := 11) (v := ?_) rfl (by kernel_rfl) (by kernel_rfl) (by kernel_rfl) (fun _ _ _ h => h) (Or.inl ⟨by rfl, ?_⟩) (by assumption) ?_
            case refine_2 => intro w hSw; obtain ⟨k0, k1, k2, k3⟩ := hSw; first | (simp [go_sem, k3]; rfl) | (simp [go_sem, k0, k1, k2, k3]; done)
            try simp only [Act.put]
            refine wpAnyH_take (i := 12) (v := ?_) rfl (by kernel_rfl) (by kernel_rfl) (by kernel_rfl) (fun _ _ _ h => h) (Or.inl ⟨by rfl, ?_⟩) (by assumption) ?_
            case refine_2 => intro w hSw; obtain ⟨k0, k1, k2, k3⟩ := hSw; first | (simp [go_sem]; rfl) | (simp [go_sem, k0, k1, k2, k3]; done)
            try simp only [Act.put]
            refine wpAnyH_take (i := 13) (v := ?_) rfl (by kernel_rfl) (by kernel_rfl) (by kernel_rfl) (fun _ _ _ h => h) (Or.inl ⟨by rfl, ?_⟩) (by assumption) ?_
            case refine_2 => intro w hSw; obtain ⟨k0, k1, k2, k3⟩ := hSw; first | (simp [go_sem]; rfl) | (simp [go_sem, k0, k1, k2, k3]; done)
            try simp only [Act.put]
            refine wpAnyH_ready (rs := [14]) (by kernel_rfl) (by simp) ?_
            refine AllReadyH.cons rfl (fun K hK => ?_) AllReadyH.nil
            go_simp
            refine hK.out _ _ (by simp [go_sem, b0, p0, p1, p2]) (fun hHeld => ?_)
            clear hK K
            try simp only [Act.put, List.setIfInBounds_toArray, List.set_cons_zero, List.set_cons_succ]
            refine wpAnyH_ready (rs := [15]) (by kernel_rfl) (by simp) ?_
            refine AllReadyH.cons rfl (fun K hK => ?_) AllReadyH.nil
            go_simp
            refine hK.out _ _ hHeld (fun hHeld => ?_)
            clear hK K
            try simp only [Act.put, List.setIfInBounds_toArray, List.set_cons_zero, List.set_cons_succ]
            refine wpAnyH_ready (rs := [16]) (by kernel_rfl) (by simp) ?_
            refine AllReadyH.cons rfl (fun K hK => ?_) AllReadyH.nil
            go_simp
            refine hK.out _ _ hHeld (fun hHeld => ?_)
            clear hK K
            try simp only [Act.put, List.setIfInBounds_toArray, List.set_cons_zero, List.set_cons_succ]
            refine wpAnyH_done (by kernel_rfl) ?_ _
            go_wp2_with fail
            refine bodyPost_ret (v := .tuple #[.agg #[.slice va' n2 cap'], .int .i64 0, .bool may]) (by simp [results, Try.results19, go_sem, r0, ← HE.out.2.2]) rfl ?_
            obtain ⟨e1, e2, e3⟩ := HE.out
            subst e1 e2
            exact wanted_new HS.out hsz2 HA3.out HN2.out HB3.out HGE.out _ _ _
end Go.Proofs.Ytjhdjbhpofhiaab.Bk
