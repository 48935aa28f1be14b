/- The closed facts of the statements on calls: one flow in one chain. -/
import Derived.Test.YtdbilofhcadmoabEc23
import Derived.Test.YtdbilofhcadmoabEc24
import Derived.Test.YtdbilofhcadmoabEc06
namespace Go.Proofs.Ytdbilofhcadmoab.mm
open Go.ChangeShapes Go.WideShapes Go.ChangeAt Go.RowKit Go.Joins Go.Maps
set_option maxRecDepth 100000
set_option linter.unusedVariables false

def sM1 : Mm := newM 2 1
def sM2 : Mm := takenM sM1 3 0 5
def sM3 : Mm := linkedM sM2 0
theorem sg2 : takenM sM1 3 0 5 = sM2 := rfl
theorem sf2 : takenN sM1 3 0 5 = 0 ∧ takenE sM1 3 0 5 = 0 := by decide
theorem sf3 : linkE sM2 0 = 0 := by decide
theorem sl3 : sM3.slots.length = 2 := by decide
theorem snew21 (w : World) : Calls Try.prog 69 #[.int .i64 2, .int .i64 1] w fun e w' => ∃ v, e = .returned (.tuple #[v, .int .i64 0]) ∧ Ans w.heap.size w' v sM1 ∧ Below w.heap.size w w' := new_ok 2 1 w (by decide) (by decide) (by decide)
theorem linkedO_at {M M' : Mm} {a : Int} (hM : linkedM M a = M') (hE : linkE M a = 0) (v : Value) (w : World) (lo : Nat) (A : Ans lo w v M) :
    Calls Try.prog 21 #[v, .int .i64 a] w fun e w' => ∃ v, e = .returned (.tuple #[v, .int .i64 0]) ∧ AnsO w.heap.size w' v M' ∧ Below w.heap.size w w' := by
  subst hM
  obtain ⟨aS, aH, aF, aL, cS, cH, cF, cL, rfl, A, hi⟩ := A
  exact linked_own M _ _ _ _ _ _ _ _ a w A hE

def zeroMm : Obj := .cells #[.slice none 0 0, .slice none 0 0, .slice none 0 0, .slice none 0 0, .int .i64 0] 25

theorem Rw.set5' {w : World} {lo B : Nat} {aS aH aF aL : Option Addr} {cS cH cF cL : Nat} {M : Mm} (r : Rw w lo aS aH aF aL cS cH cF cL M) (hB : B < lo) (v0 v1 v2 v3 v4 : Value) : Rw (mm.set5 w B v0 v1 v2 v3 v4) lo aS aH aF aL cS cH cF cL M := by
  have ne : ∀ {e : TypeId} {size n : Nat} {v : Value} {xs : List Value}, w.ownsRow lo e size v n xs → v.ownBlock ≠ some B := fun h e => by have := (h.lt B e).1; omega
  exact ⟨own_set5 r.s (ne r.s) _ _ _ _ _, own_set5 r.h (ne r.h) _ _ _ _ _, own_set5 r.f (ne r.f) _ _ _ _ _, own_set5 r.l (ne r.l) _ _ _ _ _, r.hf, r.hl, r.fl, by rw [set5_size]; exact r.lz⟩

set_option maxHeartbeats 6400000 in
theorem single_any (w : World) : Calls Try.prog 87 #[] w fun e w' => ∃ v, e = .returned (.tuple #[v, .bool true]) ∧ AnsO w.heap.size w' v sM3 ∧ Below w.heap.size w w' := by
  obtain ⟨oz, hoz⟩ : ∃ o : Obj, o = zeroMm := ⟨_, rfl⟩
  have HZ : Hid (oz = zeroMm) := hoz
  have HR0 : Hid ((w.alloc oz).heap[w.heap.size]? = some zeroMm) := by show _ = _; rw [← hoz]; exact heap_alloc_new w oz
  have HW0 : Hid (Below w.heap.size w (w.alloc oz)) := one_below w oz
  have HS0 : Hid (w.heap.size < (w.alloc oz).heap.size) := by show _ < _; simp
  unfold zeroMm at hoz
  go_enter Try.func87, Try.ntmps87
  go_wp2_with fail
  rw [← hoz]
  generalize w.alloc oz = W0 at *
  clear hoz HZ
  refine (snew21 W0).mono ?_
  rintro e w1 ⟨v1, rfl, ⟨aS1, aH1, aF1, aL1, cS1, cH1, cF1, cL1, rfl, A1, hi1⟩, b1⟩
  have s1 := b1.size
  have HA1 : Hid (Ans W0.heap.size (w1.alloc (.cells #[.slice aS1 sM1.slots.length cS1, .slice aH1 sM1.heads.length cH1, .slice aF1 sM1.free.length cF1, .slice aL1 sM1.locks.length cL1, .int .i64 sM1.now] 25)) (.agg #[.slice aS1 sM1.slots.length cS1, .slice aH1 sM1.heads.length cH1, .slice aF1 sM1.free.length cF1, .slice aL1 sM1.locks.length cL1, .int .i64 sM1.now]) sM1) := Ans.below ⟨aS1, aH1, aF1, aL1, cS1, cH1, cF1, cL1, rfl, A1, hi1⟩ (one_below _ _)
  have HB1 : Hid ((w1.alloc (.cells #[.slice aS1 sM1.slots.length cS1, .slice aH1 sM1.heads.length cH1, .slice aF1 sM1.free.length cF1, .slice aL1 sM1.locks.length cL1, .int .i64 sM1.now] 25)).heap[w1.heap.size]? = some (.cells #[.slice aS1 sM1.slots.length cS1, .slice aH1 sM1.heads.length cH1, .slice aF1 sM1.free.length cF1, .slice aL1 sM1.locks.length cL1, .int .i64 sM1.now] 25 (0, 0))) := heap_alloc_new _ _
  have HW1 : Hid (Below w.heap.size w (w1.alloc (.cells #[.slice aS1 sM1.slots.length cS1, .slice aH1 sM1.heads.length cH1, .slice aF1 sM1.free.length cF1, .slice aL1 sM1.locks.length cL1, .int .i64 sM1.now] 25))) := (HW0.out.trans (b1.mono (by have := HS0.out; omega))).trans ((one_below _ _).mono (by have := HS0.out; omega))
  have HR1 : Hid ((w1.alloc (.cells #[.slice aS1 sM1.slots.length cS1, .slice aH1 sM1.heads.length cH1, .slice aF1 sM1.free.length cF1, .slice aL1 sM1.locks.length cL1, .int .i64 sM1.now] 25)).heap[w.heap.size]? = some zeroMm) := (Below.heap_alloc _ _ _ (by have := HS0.out; omega)).trans ((b1.block _ HS0.out).trans HR0.out)
  have HX : Hid (w.heap.size < w1.heap.size) := Nat.lt_of_lt_of_le HS0.out s1
  clear A1 hi1 b1 HR0 HW0 HS0 s1
  go_wp2_with fail
  generalize hX1 : w1.alloc (.cells #[.slice aS1 sM1.slots.length cS1, .slice aH1 sM1.heads.length cH1, .slice aF1 sM1.free.length cF1, .slice aL1 sM1.locks.length cL1, .int .i64 sM1.now] 25) = X1 at *
  generalize w1.heap.size = X at *
  clear hX1
  refine (taken_at sg2 sf2.1 sf2.2 _ X1 _ HA1.out).mono ?_
  rintro e w2 ⟨v2, rfl, ⟨aS2, aH2, aF2, aL2, cS2, cH2, cF2, cL2, rfl, A2, hi2⟩, b2⟩
  have k2 := (b2.block X (lt_of_block HB1.out)).trans HB1.out
  have HB2 : Hid ((set5 w2 X (.slice aS2 sM2.slots.length cS2) (.slice aH2 sM2.heads.length cH2) (.slice aF2 sM2.free.length cF2) (.slice aL2 sM2.locks.length cL2) (.int .i64 sM2.now)).heap[X]? = some (.cells #[.slice aS2 sM2.slots.length cS2, .slice aH2 sM2.heads.length cH2, .slice aF2 sM2.free.length cF2, .slice aL2 sM2.locks.length cL2, .int .i64 sM2.now] 25 (0, 0))) := set5_block k2 _ _ _ _ _
  have HW2 : Hid (Below w.heap.size w (set5 w2 X (.slice aS2 sM2.slots.length cS2) (.slice aH2 sM2.heads.length cH2) (.slice aF2 sM2.free.length cF2) (.slice aL2 sM2.locks.length cL2) (.int .i64 sM2.now))) := (HW1.out.trans (b2.mono HW1.out.size)).trans (set5_below _ _ _ _ _ _ _ _ (Nat.le_of_lt HX.out))
  have HR2 : Hid ((set5 w2 X (.slice aS2 sM2.slots.length cS2) (.slice aH2 sM2.heads.length cH2) (.slice aF2 sM2.free.length cF2) (.slice aL2 sM2.locks.length cL2) (.int .i64 sM2.now)).heap[w.heap.size]? = some zeroMm) := (set5_other (by have := HX.out; omega)).trans ((b2.block _ (lt_of_block HR1.out)).trans HR1.out)
  have HA2 : Hid (Ans X1.heap.size (set5 w2 X (.slice aS2 sM2.slots.length cS2) (.slice aH2 sM2.heads.length cH2) (.slice aF2 sM2.free.length cF2) (.slice aL2 sM2.locks.length cL2) (.int .i64 sM2.now)) (.agg #[.slice aS2 sM2.slots.length cS2, .slice aH2 sM2.heads.length cH2, .slice aF2 sM2.free.length cF2, .slice aL2 sM2.locks.length cL2, .int .i64 sM2.now]) sM2) := Ans.off ⟨aS2, aH2, aF2, aL2, cS2, cH2, cF2, cL2, rfl, A2, hi2⟩ (lt_of_block HB1.out) (fun k hk => set5_other hk)
  obtain ⟨q0, q1, q2, q3, q4, f0, f1, f2, f3, f4, qs⟩ := boxf k2
  clear k2 A2 hi2 HB1 b2 HA1
  go_wp2_with fail
  rw [show ((((w2.setCell ⟨X, 0, none⟩ (.slice aS2 sM2.slots.length cS2)).setCell ⟨X, 1, none⟩ (.slice aH2 sM2.heads.length cH2)).setCell ⟨X, 2, none⟩ (.slice aF2 sM2.free.length cF2)).setCell ⟨X, 3, none⟩ (.slice aL2 sM2.locks.length cL2)).setCell ⟨X, 4, none⟩ (.int .i64 sM2.now) = set5 w2 X (.slice aS2 sM2.slots.length cS2) (.slice aH2 sM2.heads.length cH2) (.slice aF2 sM2.free.length cF2) (.slice aL2 sM2.locks.length cL2) (.int .i64 sM2.now) from rfl]
  generalize hX2 : set5 w2 X (.slice aS2 sM2.slots.length cS2) (.slice aH2 sM2.heads.length cH2) (.slice aF2 sM2.free.length cF2) (.slice aL2 sM2.locks.length cL2) (.int .i64 sM2.now) = X2 at *
  clear hX2 q0 q1 q2 q3 q4 f0 f1 f2 f3 f4 qs HW1 HR1
  refine (linkedO_at (M := sM2) (M' := sM3) rfl sf3 _ X2 _ HA2.out).mono ?_
  rintro e w3 ⟨v3, rfl, ⟨aS3, aH3, aF3, aL3, cS3, cH3, cF3, cL3, rfl, R3⟩, b3⟩
  have k3 := (b3.block X (lt_of_block HB2.out)).trans HB2.out
  have HB3 : Hid ((set5 w3 X (.slice aS3 sM3.slots.length cS3) (.slice aH3 sM3.heads.length cH3) (.slice aF3 sM3.free.length cF3) (.slice aL3 sM3.locks.length cL3) (.int .i64 sM3.now)).heap[X]? = some (.cells #[.slice aS3 sM3.slots.length cS3, .slice aH3 sM3.heads.length cH3, .slice aF3 sM3.free.length cF3, .slice aL3 sM3.locks.length cL3, .int .i64 sM3.now] 25 (0, 0))) := set5_block k3 _ _ _ _ _
  have HW3 : Hid (Below w.heap.size w (set5 w3 X (.slice aS3 sM3.slots.length cS3) (.slice aH3 sM3.heads.length cH3) (.slice aF3 sM3.free.length cF3) (.slice aL3 sM3.locks.length cL3) (.int .i64 sM3.now))) := (HW2.out.trans (b3.mono HW2.out.size)).trans (set5_below _ _ _ _ _ _ _ _ (Nat.le_of_lt HX.out))
  have HR3 : Hid ((set5 w3 X (.slice aS3 sM3.slots.length cS3) (.slice aH3 sM3.heads.length cH3) (.slice aF3 sM3.free.length cF3) (.slice aL3 sM3.locks.length cL3) (.int .i64 sM3.now)).heap[w.heap.size]? = some zeroMm) := (set5_other (by have := HX.out; omega)).trans ((b3.block _ (lt_of_block HR2.out)).trans HR2.out)
  have HC3 : Hid (Rw (set5 w3 X (.slice aS3 sM3.slots.length cS3) (.slice aH3 sM3.heads.length cH3) (.slice aF3 sM3.free.length cF3) (.slice aL3 sM3.locks.length cL3) (.int .i64 sM3.now)) X2.heap.size aS3 aH3 aF3 aL3 cS3 cH3 cF3 cL3 sM3) := R3.set5' (lt_of_block HB2.out) _ _ _ _ _
  obtain ⟨q0, q1, q2, q3, q4, f0, f1, f2, f3, f4, qs⟩ := boxf k3
  clear k3 R3 HB2 b3 HA2
  go_wp2_with fail
  rw [show ((((w3.setCell ⟨X, 0, none⟩ (.slice aS3 sM3.slots.length cS3)).setCell ⟨X, 1, none⟩ (.slice aH3 sM3.heads.length cH3)).setCell ⟨X, 2, none⟩ (.slice aF3 sM3.free.length cF3)).setCell ⟨X, 3, none⟩ (.slice aL3 sM3.locks.length cL3)).setCell ⟨X, 4, none⟩ (.int .i64 sM3.now) = set5 w3 X (.slice aS3 sM3.slots.length cS3) (.slice aH3 sM3.heads.length cH3) (.slice aF3 sM3.free.length cF3) (.slice aL3 sM3.locks.length cL3) (.int .i64 sM3.now) from rfl]
  generalize hX3 : set5 w3 X (.slice aS3 sM3.slots.length cS3) (.slice aH3 sM3.heads.length cH3) (.slice aF3 sM3.free.length cF3) (.slice aL3 sM3.locks.length cL3) (.int .i64 sM3.now) = X3 at *
  have HSz : Hid (w.heap.size < X2.heap.size) := lt_of_block HR2.out
  clear hX3 q0 q1 q2 q3 q4 f0 f1 f2 f3 f4 qs HR2
  obtain ⟨q0, q1, q2, q3, q4, -, -, -, -, -, qs⟩ := boxf HB3.out
  obtain ⟨r0, r1, r2, r3, r4, g0, g1, g2, g3, g4, rs⟩ := boxf HR3.out
  have hne : X ≠ w.heap.size := by have := HX.out; omega
  rw [sl3] at q0
  go_region
  all_goals go_wp2
  all_goals
    refine bodyPost_ret (v := .tuple #[.agg #[.slice aS3 2 cS3, .slice aH3 sM3.heads.length cH3, .slice aF3 sM3.free.length cF3, .slice aL3 sM3.locks.length cL3, .int .i64 sM3.now], .bool true]) (by simp [results, Try.results87, go_sem, r0, r1, r2, r3, r4]) rfl ⟨_, rfl, ?_, ?_⟩
    · have hr := HC3.out.set5' HSz.out (.slice aS3 2 cS3) (.slice aH3 sM3.heads.length cH3) (.slice aF3 sM3.free.length cF3) (.slice aL3 sM3.locks.length cL3) (.int .i64 sM3.now)
      have hd := hr.below (w' := (set5 X3 w.heap.size (.slice aS3 2 cS3) (.slice aH3 sM3.heads.length cH3) (.slice aF3 sM3.free.length cF3) (.slice aL3 sM3.locks.length cL3) (.int .i64 sM3.now)).drew) ⟨rfl, rfl, rfl, Nat.le_refl _, fun _ _ => rfl⟩
      have hl := Nat.le_of_lt HSz.out
      exact ⟨aS3, aH3, aF3, aL3, cS3, cH3, cF3, cL3, by rw [sl3], ⟨ownsRow_le hd.s hl, ownsRow_le hd.h hl, ownsRow_le hd.f hl, ownsRow_le hd.l hl, hd.hf, hd.hl, hd.fl, Nat.le_trans hl hd.lz⟩⟩
    · have h := HW3.out.trans (set5_below X3 w.heap.size w.heap.size (.slice aS3 2 cS3) (.slice aH3 sM3.heads.length cH3) (.slice aF3 sM3.free.length cF3) (.slice aL3 sM3.locks.length cL3) (.int .i64 sM3.now) (Nat.le_refl _))
      exact ⟨h.os, h.tape, h.output, h.size, h.block⟩



end Go.Proofs.Ytdbilofhcadmoab.mm

/- Whether a flow is in a list, and whether one is of which something holds: Contains, ContainsFunc and what the statement hands to them. -/
namespace Go.Proofs.Ytdbilofhcadmoab.mm
open Go.ChangeShapes Go.WideShapes Go.ChangeAt Go.RowKit Go.Joins Go.Maps
set_option maxRecDepth 100000
set_option linter.unusedVariables false

theorem any_snoc {p : Fl → Bool} {l : List Fl} {k : Nat} (h : k < l.length) (h0 : (l.take k).any p = false) (hx : p l[k] = false) : (l.take (k + 1)).any p = false := by
  rw [List.take_succ_eq_append_getElem h, List.any_append, h0]
  simp [hx]
theorem any_hit {p : Fl → Bool} {l : List Fl} {k : Nat} (h : k < l.length) (hx : p l[k] = true) : l.any p = true :=
  List.any_eq_true.2 ⟨_, List.getElem_mem h, hx⟩

def hasF (l : List Fl) (x : Fl) : Bool := l.any (flEq x)
theorem hasF_iff (l : List Fl) (x : Fl) : hasF l x = true ↔ x ∈ l := by
  unfold hasF
  rw [List.any_eq_true]
  constructor
  · rintro ⟨y, hy, h⟩
    rw [flEq_iff] at h
    subst h; exact hy
  · intro h; exact ⟨x, h, flEq_refl x⟩

set_option maxHeartbeats 1600000 in
theorem indexF_any (ao : Option Addr) (cap : Nat) (l : List Fl) (x : Fl) (w : World) (hbig : l.length ≤ 1000) (hat : FRow w ao cap l) :
    Calls Try.prog 127 #[.slice ao l.length cap, .agg #[.int .i64 x.a, .int .i64 x.b, .int .i64 x.slot, .int .i64 x.unt]] w fun e w' => ∃ i : Int, e = .returned (.int .i64 i) ∧ decide (0 ≤ i) = hasF l x ∧ Below w.heap.size w w' := by
  have HAT : Hid (FRow w ao cap l) := hat
  clear hat
  have b0 : Below w.heap.size w (w.alloc (.cells #[.int .i64 x.a, .int .i64 x.b, .int .i64 x.slot, .int .i64 x.unt] 42)) := one_below _ _
  go_enter Try.func127, Try.ntmps127
  go_wp2
  go_loopw [8] (fun i wr => ∃ k q : Nat, k ≤ l.length ∧ i = .int .i64 k ∧ wr = (w.alloc (.cells #[.int .i64 x.a, .int .i64 x.b, .int .i64 x.slot, .int .i64 x.unt] 42)).drewN q ∧ Hid ((l.take k).any (flEq x) = false)) (fun i _ => l.length - (intOf i).toNat)
  case atStart => exact ⟨0, 0, Nat.zero_le _, rfl, rfl, by show _ = _; simp⟩
  case round =>
    obtain ⟨k, q, hk, rfl, rfl, HC⟩ := hrel
    have hbw : Below w.heap.size w ((w.alloc (.cells #[.int .i64 x.a, .int .i64 x.b, .int .i64 x.slot, .int .i64 x.unt] 42)).drewN q) := b0.trans ((drewN_below _ _).mono (by simp))
    by_cases hlt : k < l.length
    · rcases HAT.out.at_ with h0 | ⟨bk, ok, rfl, hc⟩
      · omega
      obtain ⟨c0, c1, c2, c3⟩ := hc k hlt
      have lt := cell_lt c0
      rw [← (bcell hbw).1 _ _ lt] at c0 c1 c2 c3
      clear hc
      have e0 : ((w.alloc (.cells #[.int .i64 x.a, .int .i64 x.b, .int .i64 x.slot, .int .i64 x.unt] 42)).drewN q).cell? ⟨w.heap.size, 0, none⟩ = some (.int .i64 x.a) := by rw [World.cell?_drewN]; simp
      have e1 : ((w.alloc (.cells #[.int .i64 x.a, .int .i64 x.b, .int .i64 x.slot, .int .i64 x.unt] 42)).drewN q).cell? ⟨w.heap.size, 1, none⟩ = some (.int .i64 x.b) := by rw [World.cell?_drewN]; simp
      have e2 : ((w.alloc (.cells #[.int .i64 x.a, .int .i64 x.b, .int .i64 x.slot, .int .i64 x.unt] 42)).drewN q).cell? ⟨w.heap.size, 2, none⟩ = some (.int .i64 x.slot) := by rw [World.cell?_drewN]; simp
      have e3 : ((w.alloc (.cells #[.int .i64 x.a, .int .i64 x.b, .int .i64 x.slot, .int .i64 x.unt] 42)).drewN q).cell? ⟨w.heap.size, 3, none⟩ = some (.int .i64 x.unt) := by rw [World.cell?_drewN]; simp
      generalize hwq : (w.alloc (.cells #[.int .i64 x.a, .int .i64 x.b, .int .i64 x.slot, .int .i64 x.unt] 42)).drewN q = wq at c0 c1 c2 c3 e0 e1 e2 e3 hbw ⊢
      have HWQ : Hid _ := hwq
      clear hwq
      generalize hy : l[k] = y at c0 c1 c2 c3
      have HX : Hid (l[k] = y) := hy
      clear hy
      have ke := fequal x y
      cases hh : flEq x y
      · have HH : Hid ((l.take (k + 1)).any (flEq x) = false) := any_snoc hlt HC.out (by rw [HX.out]; exact hh)
        rw [hh] at ke
        go_wp2_with fail
        go_quiet (fail)
        go_wp2
        go_roundw
        case rel => exact ⟨k + 1, q + nq, by omega, by go_num, by rw [← HWQ.out, World.drewN_drewN], HH⟩
        case measure => simp [intOf]; omega
      · have HH : Hid (hasF l x = true) := any_hit hlt (by rw [HX.out]; exact hh)
        rw [hh] at ke
        go_wp2_with fail
        go_quiet (fail)
        go_wp2
        go_ret
        exact ⟨k, rfl, by rw [HH.out]; simp, hbw.trans ((drewN_below _ _).mono hbw.size)⟩
    · have HH : Hid (hasF l x = false) := by
        have := HC.out
        rw [show k = l.length by omega, List.take_length] at this
        exact this
      go_wp2
      go_ret
      exact ⟨-1, rfl, by rw [HH.out]; rfl, hbw⟩

theorem containsF_any (ao : Option Addr) (cap : Nat) (l : List Fl) (x : Fl) (w : World) (hbig : l.length ≤ 1000) (hat : FRow w ao cap l) :
    Calls Try.prog 59 #[.slice ao l.length cap, .agg #[.int .i64 x.a, .int .i64 x.b, .int .i64 x.slot, .int .i64 x.unt]] w fun e w' => e = .returned (.bool (hasF l x)) ∧ Below w.heap.size w w' := by
  have b0 : Below w.heap.size w (w.alloc (.cells #[.int .i64 x.a, .int .i64 x.b, .int .i64 x.slot, .int .i64 x.unt] 42)) := one_below _ _
  have HAT2 : Hid (FRow (w.alloc (.cells #[.int .i64 x.a, .int .i64 x.b, .int .i64 x.slot, .int .i64 x.unt] 42)) ao cap l) := hat.below b0
  clear hat
  go_enter Try.func59, Try.ntmps59
  go_wp2_with fail
  refine (indexF_any _ _ l x _ hbig HAT2.out).mono ?_
  rintro e w1 ⟨i, rfl, hd, hb1⟩
  have b1 := b0.trans (hb1.mono b0.size)
  have HD : Hid _ := hd
  clear hd hb1 b0
  go_wp2
  go_ret
  refine ⟨?_, b1⟩
  rw [← HD.out]
  rfl

set_option maxHeartbeats 1600000 in
theorem indexFn_any (F : Nat) (caps : Array Value) (p : Fl → Bool) (ao : Option Addr) (cap : Nat) (l : List Fl) (w : World) (hbig : l.length ≤ 1000) (hat : FRow w ao cap l) (hF : ∀ args W, (callFunc F args).run Try.prog W = .ok (.enter F args) W)
    (hp : ∀ (x : Fl) W, Below w.heap.size w W → Calls Try.prog F (#[.agg #[.int .i64 x.a, .int .i64 x.b, .int .i64 x.slot, .int .i64 x.unt]] ++ caps) W fun e W' => e = .returned (.bool (p x)) ∧ Below W.heap.size W W') :
    Calls Try.prog 44 #[.slice ao l.length cap, .func (.func F) #[] caps] w fun e w' => ∃ i : Int, e = .returned (.int .i64 i) ∧ decide (0 ≤ i) = l.any p ∧ Below w.heap.size w w' := by
  have HAT : Hid (FRow w ao cap l) := hat
  have HP : Hid (∀ (x : Fl) W, Below w.heap.size w W → Calls Try.prog F (#[.agg #[.int .i64 x.a, .int .i64 x.b, .int .i64 x.slot, .int .i64 x.unt]] ++ caps) W fun e W' => e = .returned (.bool (p x)) ∧ Below W.heap.size W W') := hp
  have HFn : Hid (∀ args W, (callFunc F args).run Try.prog W = .ok (.enter F args) W) := hF
  clear hat hp hF
  go_enter Try.func44, Try.ntmps44
  go_wp2
  go_loopw [8] (fun i wr => ∃ k : Nat, k ≤ l.length ∧ i = .int .i64 k ∧ Hid (Below w.heap.size w wr) ∧ Hid ((l.take k).any p = false)) (fun i _ => l.length - (intOf i).toNat)
  case atStart => exact ⟨0, Nat.zero_le _, rfl, Below.refl _ _, by show _ = _; simp⟩
  case round =>
    obtain ⟨k, hk, rfl, HB, HC⟩ := hrel
    by_cases hlt : k < l.length
    · rcases (HAT.out.below HB.out).at_ with h0 | ⟨bk, ok, rfl, hc⟩
      · omega
      obtain ⟨c0, c1, c2, c3⟩ := hc k hlt
      clear hc
      generalize hy : l[k] = y at c0 c1 c2 c3
      have HX : Hid (l[k] = y) := hy
      clear hy
      go_wp2_with fail
      rw [HFn.out]
      refine (HP.out y wr HB.out).mono ?_
      rintro e w1 ⟨rfl, hb1⟩
      have HB1 : Hid (Below w.heap.size w w1) := HB.out.trans (hb1.mono HB.out.size)
      clear hb1 c0 c1 c2 c3
      cases hh : p y
      · have HH : Hid ((l.take (k + 1)).any p = false) := any_snoc hlt HC.out (by rw [HX.out]; exact hh)
        go_wp2
        go_roundw
        case rel => exact ⟨k + 1, by omega, by go_num, HB1, HH⟩
        case measure => simp [intOf]; omega
      · have HH : Hid (l.any p = true) := any_hit hlt (by rw [HX.out]; exact hh)
        go_wp2
        go_ret
        exact ⟨k, rfl, by rw [HH.out]; simp, HB1.out⟩
    · have HH : Hid (l.any p = false) := by
        have := HC.out
        rw [show k = l.length by omega, List.take_length] at this
        exact this
      go_wp2
      go_ret
      exact ⟨-1, rfl, by rw [HH.out]; rfl, HB.out⟩

theorem containsFn_any (F : Nat) (caps : Array Value) (p : Fl → Bool) (ao : Option Addr) (cap : Nat) (l : List Fl) (w : World) (hbig : l.length ≤ 1000) (hat : FRow w ao cap l) (hF : ∀ args W, (callFunc F args).run Try.prog W = .ok (.enter F args) W)
    (hp : ∀ (x : Fl) W, Below w.heap.size w W → Calls Try.prog F (#[.agg #[.int .i64 x.a, .int .i64 x.b, .int .i64 x.slot, .int .i64 x.unt]] ++ caps) W fun e W' => e = .returned (.bool (p x)) ∧ Below W.heap.size W W') :
    Calls Try.prog 56 #[.slice ao l.length cap, .func (.func F) #[] caps] w fun e w' => e = .returned (.bool (l.any p)) ∧ Below w.heap.size w w' := by
  have HAT : Hid (FRow w ao cap l) := hat
  have HP : Hid (∀ (x : Fl) W, Below w.heap.size w W → Calls Try.prog F (#[.agg #[.int .i64 x.a, .int .i64 x.b, .int .i64 x.slot, .int .i64 x.unt]] ++ caps) W fun e W' => e = .returned (.bool (p x)) ∧ Below W.heap.size W W') := hp
  have HFn : Hid (∀ args W, (callFunc F args).run Try.prog W = .ok (.enter F args) W) := hF
  clear hat hp hF
  go_enter Try.func56, Try.ntmps56
  go_wp2_with fail
  refine (indexFn_any F caps p ao cap l w hbig HAT.out HFn.out HP.out).mono ?_
  rintro e w1 ⟨i, rfl, hd, hb1⟩
  have HD : Hid _ := hd
  clear hd
  go_wp2
  go_ret
  refine ⟨?_, hb1⟩
  rw [← HD.out]
  rfl

/- of a key -/
theorem of_key (a b : Int) (B : Nat) (x : Fl) (W : World) (hB : W.heap[B]? = some (.cells #[.int .i64 a, .int .i64 b] 37 (0, 0))) :
    Calls Try.prog 57 (#[.agg #[.int .i64 x.a, .int .i64 x.b, .int .i64 x.slot, .int .i64 x.unt]] ++ #[.pointer (some ⟨B, 0, none⟩)]) W fun e W' => e = .returned (.bool (x.a == a && x.b == b)) ∧ Below W.heap.size W W' := by
  obtain ⟨c0, c1⟩ := keyf hB
  have lB := lt_of_block hB
  have ke := kequal x.a x.b a b
  have hb := one_below W (.cells #[.int .i64 x.a, .int .i64 x.b, .int .i64 x.slot, .int .i64 x.unt] 42)
  clear hB
  generalize (x.a == a && x.b == b) = r at *
  show Calls Try.prog 57 #[.agg #[.int .i64 x.a, .int .i64 x.b, .int .i64 x.slot, .int .i64 x.unt], .pointer (some ⟨B, 0, none⟩)] W _
  go_enter Try.func57, Try.ntmps57
  go_wp2
  go_ret
  exact ⟨rfl, hb⟩

theorem fn51 : ∀ args W, (callFunc 57 args).run Try.prog W = .ok (.enter 57 args) W := fun _ _ => by kernel_rfl

def hasKF (l : List Fl) (a b : Int) : Bool := l.any fun x => x.a == a && x.b == b
theorem not_in53 (ao : Option Addr) (cap : Nat) (l : List Fl) (B : Nat) (x : Fl) (W : World) (hbig : l.length ≤ 1000) (hB : W.heap[B]? = some (.cells #[.slice ao l.length cap] 29 (0, 0))) (hat : FRow W ao cap l) :
    Calls Try.prog 60 (#[.agg #[.int .i64 x.a, .int .i64 x.b, .int .i64 x.slot, .int .i64 x.unt]] ++ #[.pointer (some ⟨B, 0, none⟩)]) W fun e W' => e = .returned (.bool (!hasF l x)) ∧ Below W.heap.size W W' := by
  obtain ⟨c0, -, lB⟩ := var_cell hB
  have b0 : Below W.heap.size W (W.alloc (.cells #[.int .i64 x.a, .int .i64 x.b, .int .i64 x.slot, .int .i64 x.unt] 42)) := one_below _ _
  have HAT2 : Hid (FRow (W.alloc (.cells #[.int .i64 x.a, .int .i64 x.b, .int .i64 x.slot, .int .i64 x.unt] 42)) ao cap l) := hat.below b0
  clear hat hB
  show Calls Try.prog 60 #[.agg #[.int .i64 x.a, .int .i64 x.b, .int .i64 x.slot, .int .i64 x.unt], .pointer (some ⟨B, 0, none⟩)] W _
  go_enter Try.func60, Try.ntmps60
  go_wp2_with fail
  refine (containsF_any ao cap l x _ hbig HAT2.out).mono ?_
  rintro e w1 ⟨rfl, hb1⟩
  have b1 := b0.trans (hb1.mono b0.size)
  clear hb1 b0 HAT2
  go_wp2
  go_ret
  exact ⟨rfl, b1⟩
theorem fn53 : ∀ args W, (callFunc 60 args).run Try.prog W = .ok (.enter 60 args) W := fun _ _ => by kernel_rfl



end Go.Proofs.Ytdbilofhcadmoab.mm

/- The contracts of Same and of the document's own SameMem. -/
namespace Go.Proofs.Ytdbilofhcadmoab.mm
open Go.ChangeShapes Go.WideShapes Go.ChangeAt Go.RowKit Go.Joins
set_option linter.unusedVariables false

def eqM (A B : Mm) : Bool := eqS A.slots B.slots && (eqI A.heads B.heads && (eqI A.free B.free && (eqI A.locks B.locks && A.now == B.now)))
theorem eqM_iff (A B : Mm) : eqM A B = true ↔ A = B := by
  obtain ⟨S, H, F, L, n⟩ := A
  obtain ⟨S', H', F', L', n'⟩ := B
  simp only [eqM, Bool.and_eq_true, eqS_iff, eqI_iff, beq_iff_eq, Mm.mk.injEq]

set_option maxHeartbeats 3200000 in
theorem same_any (A B : Mm) (v1 v2 : Value) (w : World) (lo1 lo2 : Nat) (H1 : Ans lo1 w v1 A) (H2 : Ans lo2 w v2 B) :
    Calls Try.prog 46 #[v1, v2] w fun e w' => e = .returned (.bool (eqM A B)) ∧ Below w.heap.size w w' := by
  obtain ⟨aS1, aH1, aF1, aL1, cS1, cH1, cF1, cL1, rfl, A1, -⟩ := H1
  obtain ⟨aS2, aH2, aF2, aL2, cS2, cH2, cF2, cL2, rfl, A2, -⟩ := H2
  generalize hR : eqM A B = R
  have HR : Hid _ := hR
  clear hR
  have b0 : Below w.heap.size w ((w.alloc (.cells #[.slice aS1 A.slots.length cS1, .slice aH1 A.heads.length cH1, .slice aF1 A.free.length cF1, .slice aL1 A.locks.length cL1, .int .i64 A.now] 25)).alloc (.cells #[.slice aS2 B.slots.length cS2, .slice aH2 B.heads.length cH2, .slice aF2 B.free.length cF2, .slice aL2 B.locks.length cL2, .int .i64 B.now] 25)) := below_alloc2 w _ _
  have HA0 : Hid _ := A1.below b0
  have HB0 : Hid _ := A2.below b0
  have HX0 : Hid (((w.alloc (.cells #[.slice aS1 A.slots.length cS1, .slice aH1 A.heads.length cH1, .slice aF1 A.free.length cF1, .slice aL1 A.locks.length cL1, .int .i64 A.now] 25)).alloc (.cells #[.slice aS2 B.slots.length cS2, .slice aH2 B.heads.length cH2, .slice aF2 B.free.length cF2, .slice aL2 B.locks.length cL2, .int .i64 B.now] 25)).heap[w.heap.size]? = some (.cells #[.slice aS1 A.slots.length cS1, .slice aH1 A.heads.length cH1, .slice aF1 A.free.length cF1, .slice aL1 A.locks.length cL1, .int .i64 A.now] 25 (0, 0))) := by show _ = _; rw [Below.heap_alloc _ _ _ (by simp), heap_alloc_new]
  have HY0 : Hid (((w.alloc (.cells #[.slice aS1 A.slots.length cS1, .slice aH1 A.heads.length cH1, .slice aF1 A.free.length cF1, .slice aL1 A.locks.length cL1, .int .i64 A.now] 25)).alloc (.cells #[.slice aS2 B.slots.length cS2, .slice aH2 B.heads.length cH2, .slice aF2 B.free.length cF2, .slice aL2 B.locks.length cL2, .int .i64 B.now] 25)).heap[w.heap.size + 1]? = some (.cells #[.slice aS2 B.slots.length cS2, .slice aH2 B.heads.length cH2, .slice aF2 B.free.length cF2, .slice aL2 B.locks.length cL2, .int .i64 B.now] 25 (0, 0))) := by
    have := heap_alloc_new (w.alloc (.cells #[.slice aS1 A.slots.length cS1, .slice aH1 A.heads.length cH1, .slice aF1 A.free.length cF1, .slice aL1 A.locks.length cL1, .int .i64 A.now] 25)) (.cells #[.slice aS2 B.slots.length cS2, .slice aH2 B.heads.length cH2, .slice aF2 B.free.length cF2, .slice aL2 B.locks.length cL2, .int .i64 B.now] 25)
    rwa [show (w.alloc (.cells #[.slice aS1 A.slots.length cS1, .slice aH1 A.heads.length cH1, .slice aF1 A.free.length cF1, .slice aL1 A.locks.length cL1, .int .i64 A.now] 25)).heap.size = w.heap.size + 1 by simp] at this
  clear A1 A2
  go_enter Try.func46, Try.ntmps46
  go_wp2_with fail
  generalize (w.alloc (.cells #[.slice aS1 A.slots.length cS1, .slice aH1 A.heads.length cH1, .slice aF1 A.free.length cF1, .slice aL1 A.locks.length cL1, .int .i64 A.now] 25)).alloc (.cells #[.slice aS2 B.slots.length cS2, .slice aH2 B.heads.length cH2, .slice aF2 B.free.length cF2, .slice aL2 B.locks.length cL2, .int .i64 B.now] 25) = W0 at *
  refine (equalS_any aS1 aS2 cS1 cS2 A.slots B.slots _ HA0.out.s HB0.out.s).mono ?_
  rintro e w1 ⟨rfl, hb1⟩
  have b1 := b0.trans (hb1.mono b0.size)
  have HX1 : Hid _ := (hb1.block w.heap.size (lt_of_block HX0.out)).trans HX0.out
  have HY1 : Hid _ := (hb1.block (w.heap.size + 1) (lt_of_block HY0.out)).trans HY0.out
  have HA1 : Hid _ := HA0.out.below hb1
  have HB1 : Hid _ := HB0.out.below hb1
  clear hb1 b0 HX0 HY0 HA0 HB0
  obtain ⟨q0, q1, q2, q3, q4, -, -, -, -, -, -⟩ := boxf HX1.out
  obtain ⟨r0, r1, r2, r3, r4, -, -, -, -, -, -⟩ := boxf HY1.out
  cases h0 : eqS A.slots B.slots
  · have HV : Hid (R = false) := HR.out.symm.trans (by simp [eqM, h0])
    go_wp2
    go_ret
    exact ⟨ret_bool HV.out.symm, b1⟩
  have Hh0 : Hid _ := h0
  clear h0
  go_wp2_with fail
  refine (equalI_any aH1 aH2 cH1 cH2 A.heads B.heads _ HA1.out.h HB1.out.h).mono ?_
  rintro e w2 ⟨rfl, hb2⟩
  have b2 := b1.trans (hb2.mono b1.size)
  have HX2 : Hid _ := (hb2.block w.heap.size (lt_of_block HX1.out)).trans HX1.out
  have HY2 : Hid _ := (hb2.block (w.heap.size + 1) (lt_of_block HY1.out)).trans HY1.out
  have HA2 : Hid _ := HA1.out.below hb2
  have HB2 : Hid _ := HB1.out.below hb2
  clear hb2 b1 HX1 HY1 HA1 HB1
  clear q0 q1 q2 q3 q4 r0 r1 r2 r3 r4
  obtain ⟨q0, q1, q2, q3, q4, -, -, -, -, -, -⟩ := boxf HX2.out
  obtain ⟨r0, r1, r2, r3, r4, -, -, -, -, -, -⟩ := boxf HY2.out
  cases h1 : eqI A.heads B.heads
  · have HV : Hid (R = false) := HR.out.symm.trans (by simp [eqM, Hh0.out, h1])
    go_wp2
    go_ret
    exact ⟨ret_bool HV.out.symm, b2⟩
  have Hh1 : Hid _ := h1
  clear h1
  go_wp2_with fail
  refine (equalI_any aF1 aF2 cF1 cF2 A.free B.free _ HA2.out.f HB2.out.f).mono ?_
  rintro e w3 ⟨rfl, hb3⟩
  have b3 := b2.trans (hb3.mono b2.size)
  have HX3 : Hid _ := (hb3.block w.heap.size (lt_of_block HX2.out)).trans HX2.out
  have HY3 : Hid _ := (hb3.block (w.heap.size + 1) (lt_of_block HY2.out)).trans HY2.out
  have HA3 : Hid _ := HA2.out.below hb3
  have HB3 : Hid _ := HB2.out.below hb3
  clear hb3 b2 HX2 HY2 HA2 HB2
  clear q0 q1 q2 q3 q4 r0 r1 r2 r3 r4
  obtain ⟨q0, q1, q2, q3, q4, -, -, -, -, -, -⟩ := boxf HX3.out
  obtain ⟨r0, r1, r2, r3, r4, -, -, -, -, -, -⟩ := boxf HY3.out
  cases h2 : eqI A.free B.free
  · have HV : Hid (R = false) := HR.out.symm.trans (by simp [eqM, Hh0.out, Hh1.out, h2])
    go_wp2
    go_ret
    exact ⟨ret_bool HV.out.symm, b3⟩
  have Hh2 : Hid _ := h2
  clear h2
  go_wp2_with fail
  refine (equalI_any aL1 aL2 cL1 cL2 A.locks B.locks _ HA3.out.l HB3.out.l).mono ?_
  rintro e w4 ⟨rfl, hb4⟩
  have b4 := b3.trans (hb4.mono b3.size)
  have HX4 : Hid _ := (hb4.block w.heap.size (lt_of_block HX3.out)).trans HX3.out
  have HY4 : Hid _ := (hb4.block (w.heap.size + 1) (lt_of_block HY3.out)).trans HY3.out
  have HA4 : Hid _ := HA3.out.below hb4
  have HB4 : Hid _ := HB3.out.below hb4
  clear hb4 b3 HX3 HY3 HA3 HB3
  clear q0 q1 q2 q3 q4 r0 r1 r2 r3 r4
  obtain ⟨q0, q1, q2, q3, q4, -, -, -, -, -, -⟩ := boxf HX4.out
  obtain ⟨r0, r1, r2, r3, r4, -, -, -, -, -, -⟩ := boxf HY4.out
  cases h3 : eqI A.locks B.locks
  · have HV : Hid (R = false) := HR.out.symm.trans (by simp [eqM, Hh0.out, Hh1.out, Hh2.out, h3])
    go_wp2
    go_ret
    exact ⟨ret_bool HV.out.symm, b4⟩
  have Hh3 : Hid _ := h3
  clear h3
  have HV : Hid (R = (A.now == B.now)) := HR.out.symm.trans (by simp [eqM, Hh0.out, Hh1.out, Hh2.out, Hh3.out])
  go_wp2
  go_ret
  exact ⟨ret_bool HV.out.symm, b4⟩

set_option maxHeartbeats 3200000 in
theorem rsame_any (A B : Mm) (v1 v2 : Value) (w : World) (lo1 lo2 : Nat) (H1 : Ans lo1 w v1 A) (H2 : Ans lo2 w v2 B) :
    Calls Try.prog 38 #[v1, v2] w fun e w' => e = .returned (.bool (eqM A B)) ∧ Below w.heap.size w w' := by
  obtain ⟨aS1, aH1, aF1, aL1, cS1, cH1, cF1, cL1, rfl, A1, -⟩ := H1
  obtain ⟨aS2, aH2, aF2, aL2, cS2, cH2, cF2, cL2, rfl, A2, -⟩ := H2
  generalize hR : eqM A B = R
  have HR : Hid _ := hR
  clear hR
  have b0 : Below w.heap.size w ((w.alloc (.cells #[.slice aS1 A.slots.length cS1, .slice aH1 A.heads.length cH1, .slice aF1 A.free.length cF1, .slice aL1 A.locks.length cL1, .int .i64 A.now] 25)).alloc (.cells #[.slice aS2 B.slots.length cS2, .slice aH2 B.heads.length cH2, .slice aF2 B.free.length cF2, .slice aL2 B.locks.length cL2, .int .i64 B.now] 25)) := below_alloc2 w _ _
  have HA0 : Hid _ := A1.below b0
  have HB0 : Hid _ := A2.below b0
  have HX0 : Hid (((w.alloc (.cells #[.slice aS1 A.slots.length cS1, .slice aH1 A.heads.length cH1, .slice aF1 A.free.length cF1, .slice aL1 A.locks.length cL1, .int .i64 A.now] 25)).alloc (.cells #[.slice aS2 B.slots.length cS2, .slice aH2 B.heads.length cH2, .slice aF2 B.free.length cF2, .slice aL2 B.locks.length cL2, .int .i64 B.now] 25)).heap[w.heap.size]? = some (.cells #[.slice aS1 A.slots.length cS1, .slice aH1 A.heads.length cH1, .slice aF1 A.free.length cF1, .slice aL1 A.locks.length cL1, .int .i64 A.now] 25 (0, 0))) := by show _ = _; rw [Below.heap_alloc _ _ _ (by simp), heap_alloc_new]
  have HY0 : Hid (((w.alloc (.cells #[.slice aS1 A.slots.length cS1, .slice aH1 A.heads.length cH1, .slice aF1 A.free.length cF1, .slice aL1 A.locks.length cL1, .int .i64 A.now] 25)).alloc (.cells #[.slice aS2 B.slots.length cS2, .slice aH2 B.heads.length cH2, .slice aF2 B.free.length cF2, .slice aL2 B.locks.length cL2, .int .i64 B.now] 25)).heap[w.heap.size + 1]? = some (.cells #[.slice aS2 B.slots.length cS2, .slice aH2 B.heads.length cH2, .slice aF2 B.free.length cF2, .slice aL2 B.locks.length cL2, .int .i64 B.now] 25 (0, 0))) := by
    have := heap_alloc_new (w.alloc (.cells #[.slice aS1 A.slots.length cS1, .slice aH1 A.heads.length cH1, .slice aF1 A.free.length cF1, .slice aL1 A.locks.length cL1, .int .i64 A.now] 25)) (.cells #[.slice aS2 B.slots.length cS2, .slice aH2 B.heads.length cH2, .slice aF2 B.free.length cF2, .slice aL2 B.locks.length cL2, .int .i64 B.now] 25)
    rwa [show (w.alloc (.cells #[.slice aS1 A.slots.length cS1, .slice aH1 A.heads.length cH1, .slice aF1 A.free.length cF1, .slice aL1 A.locks.length cL1, .int .i64 A.now] 25)).heap.size = w.heap.size + 1 by simp] at this
  clear A1 A2
  go_enter Try.func38, Try.ntmps38
  go_wp2_with fail
  generalize (w.alloc (.cells #[.slice aS1 A.slots.length cS1, .slice aH1 A.heads.length cH1, .slice aF1 A.free.length cF1, .slice aL1 A.locks.length cL1, .int .i64 A.now] 25)).alloc (.cells #[.slice aS2 B.slots.length cS2, .slice aH2 B.heads.length cH2, .slice aF2 B.free.length cF2, .slice aL2 B.locks.length cL2, .int .i64 B.now] 25) = W0 at *
  refine (equalS_any aS1 aS2 cS1 cS2 A.slots B.slots _ HA0.out.s HB0.out.s).mono ?_
  rintro e w1 ⟨rfl, hb1⟩
  have b1 := b0.trans (hb1.mono b0.size)
  have HX1 : Hid _ := (hb1.block w.heap.size (lt_of_block HX0.out)).trans HX0.out
  have HY1 : Hid _ := (hb1.block (w.heap.size + 1) (lt_of_block HY0.out)).trans HY0.out
  have HA1 : Hid _ := HA0.out.below hb1
  have HB1 : Hid _ := HB0.out.below hb1
  clear hb1 b0 HX0 HY0 HA0 HB0
  obtain ⟨q0, q1, q2, q3, q4, -, -, -, -, -, -⟩ := boxf HX1.out
  obtain ⟨r0, r1, r2, r3, r4, -, -, -, -, -, -⟩ := boxf HY1.out
  cases h0 : eqS A.slots B.slots
  · have HV : Hid (R = false) := HR.out.symm.trans (by simp [eqM, h0])
    go_wp2
    go_ret
    exact ⟨ret_bool HV.out.symm, b1⟩
  have Hh0 : Hid _ := h0
  clear h0
  go_wp2_with fail
  refine (equalI_any aH1 aH2 cH1 cH2 A.heads B.heads _ HA1.out.h HB1.out.h).mono ?_
  rintro e w2 ⟨rfl, hb2⟩
  have b2 := b1.trans (hb2.mono b1.size)
  have HX2 : Hid _ := (hb2.block w.heap.size (lt_of_block HX1.out)).trans HX1.out
  have HY2 : Hid _ := (hb2.block (w.heap.size + 1) (lt_of_block HY1.out)).trans HY1.out
  have HA2 : Hid _ := HA1.out.below hb2
  have HB2 : Hid _ := HB1.out.below hb2
  clear hb2 b1 HX1 HY1 HA1 HB1
  clear q0 q1 q2 q3 q4 r0 r1 r2 r3 r4
  obtain ⟨q0, q1, q2, q3, q4, -, -, -, -, -, -⟩ := boxf HX2.out
  obtain ⟨r0, r1, r2, r3, r4, -, -, -, -, -, -⟩ := boxf HY2.out
  cases h1 : eqI A.heads B.heads
  · have HV : Hid (R = false) := HR.out.symm.trans (by simp [eqM, Hh0.out, h1])
    go_wp2
    go_ret
    exact ⟨ret_bool HV.out.symm, b2⟩
  have Hh1 : Hid _ := h1
  clear h1
  go_wp2_with fail
  refine (equalI_any aF1 aF2 cF1 cF2 A.free B.free _ HA2.out.f HB2.out.f).mono ?_
  rintro e w3 ⟨rfl, hb3⟩
  have b3 := b2.trans (hb3.mono b2.size)
  have HX3 : Hid _ := (hb3.block w.heap.size (lt_of_block HX2.out)).trans HX2.out
  have HY3 : Hid _ := (hb3.block (w.heap.size + 1) (lt_of_block HY2.out)).trans HY2.out
  have HA3 : Hid _ := HA2.out.below hb3
  have HB3 : Hid _ := HB2.out.below hb3
  clear hb3 b2 HX2 HY2 HA2 HB2
  clear q0 q1 q2 q3 q4 r0 r1 r2 r3 r4
  obtain ⟨q0, q1, q2, q3, q4, -, -, -, -, -, -⟩ := boxf HX3.out
  obtain ⟨r0, r1, r2, r3, r4, -, -, -, -, -, -⟩ := boxf HY3.out
  cases h2 : eqI A.free B.free
  · have HV : Hid (R = false) := HR.out.symm.trans (by simp [eqM, Hh0.out, Hh1.out, h2])
    go_wp2
    go_ret
    exact ⟨ret_bool HV.out.symm, b3⟩
  have Hh2 : Hid _ := h2
  clear h2
  go_wp2_with fail
  refine (equalI_any aL1 aL2 cL1 cL2 A.locks B.locks _ HA3.out.l HB3.out.l).mono ?_
  rintro e w4 ⟨rfl, hb4⟩
  have b4 := b3.trans (hb4.mono b3.size)
  have HX4 : Hid _ := (hb4.block w.heap.size (lt_of_block HX3.out)).trans HX3.out
  have HY4 : Hid _ := (hb4.block (w.heap.size + 1) (lt_of_block HY3.out)).trans HY3.out
  have HA4 : Hid _ := HA3.out.below hb4
  have HB4 : Hid _ := HB3.out.below hb4
  clear hb4 b3 HX3 HY3 HA3 HB3
  clear q0 q1 q2 q3 q4 r0 r1 r2 r3 r4
  obtain ⟨q0, q1, q2, q3, q4, -, -, -, -, -, -⟩ := boxf HX4.out
  obtain ⟨r0, r1, r2, r3, r4, -, -, -, -, -, -⟩ := boxf HY4.out
  cases h3 : eqI A.locks B.locks
  · have HV : Hid (R = false) := HR.out.symm.trans (by simp [eqM, Hh0.out, Hh1.out, Hh2.out, h3])
    go_wp2
    go_ret
    exact ⟨ret_bool HV.out.symm, b4⟩
  have Hh3 : Hid _ := h3
  clear h3
  have HV : Hid (R = (A.now == B.now)) := HR.out.symm.trans (by simp [eqM, Hh0.out, Hh1.out, Hh2.out, Hh3.out])
  go_wp2
  go_ret
  exact ⟨ret_bool HV.out.symm, b4⟩





end Go.Proofs.Ytdbilofhcadmoab.mm
