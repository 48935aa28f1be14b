/- The closed facts of the statements on calls: one flow in one chain. -/
import Derived.Test.YtdbilofhcadmoabC32
import Derived.Test.YtdbilofhcadmoabC15
import Derived.Deep.QuietTactic
import Derived.BigQuiet
namespace Go.Proofs.Ytdbilofhcadmoab.mm
open Go.ChangeShapes Go.WideShapes Go.ChangeAt Go.RowKit Go.Joins Go.Maps
set_option maxRecDepth 100000
set_option linter.unusedVariables false

def sM1 : Mm := newM 2 1
def sM2 : Mm := takenM sM1 3 0 5
def sM3 : Mm := linkedM sM2 0
theorem sg2 : takenM sM1 3 0 5 = sM2 := rfl
theorem sf2 : takenN sM1 3 0 5 = 0 ∧ takenE sM1 3 0 5 = 0 := by decide
theorem sf3 : linkE sM2 0 = 0 := by decide
theorem sl3 : sM3.slots.length = 2 := by decide
theorem snew21 (w : World) : Calls Try.prog 69 #[.int .i64 2, .int .i64 1] w fun e w' => ∃ v, e = .returned (.tuple #[v, .int .i64 0]) ∧ Ans w.heap.size w' v sM1 ∧ Below w.heap.size w w' := new_ok 2 1 w (by decide) (by decide) (by decide)
theorem linkedO_at {M M' : Mm} {a : Int} (hM : linkedM M a = M') (hE : linkE M a = 0) (v : Value) (w : World) (lo : Nat) (A : Ans lo w v M) :
    Calls Try.prog 21 #[v, .int .i64 a] w fun e w' => ∃ v, e = .returned (.tuple #[v, .int .i64 0]) ∧ AnsO w.heap.size w' v M' ∧ Below w.heap.size w w' := by
  subst hM
  obtain ⟨aS, aH, aF, aL, cS, cH, cF, cL, rfl, A, hi⟩ := A
  exact linked_own M _ _ _ _ _ _ _ _ a w A hE

def zeroMm : Obj := .cells #[.slice none 0 0, .slice none 0 0, .slice none 0 0, .slice none 0 0, .int .i64 0] 25

theorem Rw.set5' {w : World} {lo B : Nat} {aS aH aF aL : Option Addr} {cS cH cF cL : Nat} {M : Mm} (r : Rw w lo aS aH aF aL cS cH cF cL M) (hB : B < lo) (v0 v1 v2 v3 v4 : Value) : Rw (mm.set5 w B v0 v1 v2 v3 v4) lo aS aH aF aL cS cH cF cL M := by
  have ne : ∀ {e : TypeId} {size n : Nat} {v : Value} {xs : List Value}, w.ownsRow lo e size v n xs → v.ownBlock ≠ some B := fun h e => by have := (h.lt B e).1; omega
  exact ⟨own_set5 r.s (ne r.s) _ _ _ _ _, own_set5 r.h (ne r.h) _ _ _ _ _, own_set5 r.f (ne r.f) _ _ _ _ _, own_set5 r.l (ne r.l) _ _ _ _ _, r.hf, r.hl, r.fl, by rw [set5_size]; exact r.lz⟩

set_option maxHeartbeats 6400000 in
theorem single_any (w : World) : Calls Try.prog 87 #[] w fun e w' => ∃ v, e = .returned (.tuple #[v, .bool true]) ∧ AnsO w.heap.size w' v sM3 ∧ Below w.heap.size w w' := by
  obtain ⟨oz, hoz⟩ : ∃ o : Obj, o = zeroMm := ⟨_, rfl⟩
  have HZ : Hid (oz = zeroMm) := hoz
  have HR0 : Hid ((w.alloc oz).heap[w.heap.size]? = some zeroMm) := by show _ = _; rw [← hoz]; exact heap_alloc_new w oz
  have HW0 : Hid (Below w.heap.size w (w.alloc oz)) := one_below w oz
  have HS0 : Hid (w.heap.size < (w.alloc oz).heap.size) := by show _ < _; simp
  unfold zeroMm at hoz
  go_enter Try.func87, Try.ntmps87
  go_wp2_with fail
  rw [← hoz]
  generalize w.alloc oz = W0 at *
  clear hoz HZ
  refine (snew21 W0).mono ?_
  rintro e w1 ⟨v1, rfl, ⟨aS1, aH1, aF1, aL1, cS1, cH1, cF1, cL1, rfl, A1, hi1⟩, b1⟩
  have s1 := b1.size
  have HA1 : Hid (Ans W0.heap.size (w1.alloc (.cells #[.slice aS1 sM1.slots.length cS1, .slice aH1 sM1.heads.length cH1, .slice aF1 sM1.free.length cF1, .slice aL1 sM1.locks.length cL1, .int .i64 sM1.now] 25)) (.agg #[.slice aS1 sM1.slots.length cS1, .slice aH1 sM1.heads.length cH1, .slice aF1 sM1.free.length cF1, .slice aL1 sM1.locks.length cL1, .int .i64 sM1.now]) sM1) := Ans.below ⟨aS1, aH1, aF1, aL1, cS1, cH1, cF1, cL1, rfl, A1, hi1⟩ (one_below _ _)
  have HB1 : Hid ((w1.alloc (.cells #[.slice aS1 sM1.slots.length cS1, .slice aH1 sM1.heads.length cH1, .slice aF1 sM1.free.length cF1, .slice aL1 sM1.locks.length cL1, .int .i64 sM1.now] 25)).heap[w1.heap.size]? = some (.cells #[.slice aS1 sM1.slots.length cS1, .slice aH1 sM1.heads.length cH1, .slice aF1 sM1.free.length cF1, .slice aL1 sM1.locks.length cL1, .int .i64 sM1.now] 25 (0, 0))) := heap_alloc_new _ _
  have HW1 : Hid (Below w.heap.size w (w1.alloc (.cells #[.slice aS1 sM1.slots.length cS1, .slice aH1 sM1.heads.length cH1, .slice aF1 sM1.free.length cF1, .slice aL1 sM1.locks.length cL1, .int .i64 sM1.now] 25))) := (HW0.out.trans (b1.mono (by have := HS0.out; omega))).trans ((one_below _ _).mono (by have := HS0.out; omega))
  have HR1 : Hid ((w1.alloc (.cells #[.slice aS1 sM1.slots.length cS1, .slice aH1 sM1.heads.length cH1, .slice aF1 sM1.free.length cF1, .slice aL1 sM1.locks.length cL1, .int .i64 sM1.now] 25)).heap[w.heap.size]? = some zeroMm) := (Below.heap_alloc _ _ _ (by have := HS0.out; omega)).trans ((b1.block _ HS0.out).trans HR0.out)
  have HX : Hid (w.heap.size < w1.heap.size) := Nat.lt_of_lt_of_le HS0.out s1
  clear A1 hi1 b1 HR0 HW0 HS0 s1
  go_wp2_with fail
  generalize hX1 : w1.alloc (.cells #[.slice aS1 sM1.slots.length cS1, .slice aH1 sM1.heads.length cH1, .slice aF1 sM1.free.length cF1, .slice aL1 sM1.locks.length cL1, .int .i64 sM1.now] 25) = X1 at *
  generalize w1.heap.size = X at *
  clear hX1
  refine (taken_at sg2 sf2.1 sf2.2 _ X1 _ HA1.out).mono ?_
  rintro e w2 ⟨v2, rfl, ⟨aS2, aH2, aF2, aL2, cS2, cH2, cF2, cL2, rfl, A2, hi2⟩, b2⟩
  have k2 := (b2.block X (lt_of_block HB1.out)).trans HB1.out
  have HB2 : Hid ((set5 w2 X (.slice aS2 sM2.slots.length cS2) (.slice aH2 sM2.heads.length cH2) (.slice aF2 sM2.free.length cF2) (.slice aL2 sM2.locks.length cL2) (.int .i64 sM2.now)).heap[X]? = some (.cells #[.slice aS2 sM2.slots.length cS2, .slice aH2 sM2.heads.length cH2, .slice aF2 sM2.free.length cF2, .slice aL2 sM2.locks.length cL2, .int .i64 sM2.now] 25 (0, 0))) := set5_block k2 _ _ _ _ _
  have HW2 : Hid (Below w.heap.size w (set5 w2 X (.slice aS2 sM2.slots.length cS2) (.slice aH2 sM2.heads.length cH2) (.slice aF2 sM2.free.length cF2) (.slice aL2 sM2.locks.length cL2) (.int .i64 sM2.now))) := (HW1.out.trans (b2.mono HW1.out.size)).trans (set5_below _ _ _ _ _ _ _ _ (Nat.le_of_lt HX.out))
  have HR2 : Hid ((set5 w2 X (.slice aS2 sM2.slots.length cS2) (.slice aH2 sM2.heads.length cH2) (.slice aF2 sM2.free.length cF2) (.slice aL2 sM2.locks.length cL2) (.int .i64 sM2.now)).heap[w.heap.size]? = some zeroMm) := (set5_other (by have := HX.out; omega)).trans ((b2.block _ (lt_of_block HR1.out)).trans HR1.out)
  have HA2 : Hid (Ans X1.heap.size (set5 w2 X (.slice aS2 sM2.slots.length cS2) (.slice aH2 sM2.heads.length cH2) (.slice aF2 sM2.free.length cF2) (.slice aL2 sM2.locks.length cL2) (.int .i64 sM2.now)) (.agg #[.slice aS2 sM2.slots.length cS2, .slice aH2 sM2.heads.length cH2, .slice aF2 sM2.free.length cF2, .slice aL2 sM2.locks.length cL2, .int .i64 sM2.now]) sM2) := Ans.off ⟨aS2, aH2, aF2, aL2, cS2, cH2, cF2, cL2, rfl, A2, hi2⟩ (lt_of_block HB1.out) (fun k hk => set5_other hk)
  obtain ⟨q0, q1, q2, q3, q4, f0, f1, f2, f3, f4, qs⟩ := boxf k2
  clear k2 A2 hi2 HB1 b2 HA1
  go_wp2_with fail
  rw [show ((((w2.setCell ⟨X, 0, none⟩ (.slice aS2 sM2.slots.length cS2)).setCell ⟨X, 1, none⟩ (.slice aH2 sM2.heads.length cH2)).setCell ⟨X, 2, none⟩ (.slice aF2 sM2.free.length cF2)).setCell ⟨X, 3, none⟩ (.slice aL2 sM2.locks.length cL2)).setCell ⟨X, 4, none⟩ (.int .i64 sM2.now) = set5 w2 X (.slice aS2 sM2.slots.length cS2) (.slice aH2 sM2.heads.length cH2) (.slice aF2 sM2.free.length cF2) (.slice aL2 sM2.locks.length cL2) (.int .i64 sM2.now) from rfl]
  generalize hX2 : set5 w2 X (.slice aS2 sM2.slots.length cS2) (.slice aH2 sM2.heads.length cH2) (.slice aF2 sM2.free.length cF2) (.slice aL2 sM2.locks.length cL2) (.int .i64 sM2.now) = X2 at *
  clear hX2 q0 q1 q2 q3 q4 f0 f1 f2 f3 f4 qs HW1 HR1
  refine (linkedO_at (M := sM2) (M' := sM3) rfl sf3 _ X2 _ HA2.out).mono ?_
  rintro e w3 ⟨v3, rfl, ⟨aS3, aH3, aF3, aL3, cS3, cH3, cF3, cL3, rfl, R3⟩, b3⟩
  have k3 := (b3.block X (lt_of_block HB2.out)).trans HB2.out
  have HB3 : Hid ((set5 w3 X (.slice aS3 sM3.slots.length cS3) (.slice aH3 sM3.heads.length cH3) (.slice aF3 sM3.free.length cF3) (.slice aL3 sM3.locks.length cL3) (.int .i64 sM3.now)).heap[X]? = some (.cells #[.slice aS3 sM3.slots.length cS3, .slice aH3 sM3.heads.length cH3, .slice aF3 sM3.free.length cF3, .slice aL3 sM3.locks.length cL3, .int .i64 sM3.now] 25 (0, 0))) := set5_block k3 _ _ _ _ _
  have HW3 : Hid (Below w.heap.size w (set5 w3 X (.slice aS3 sM3.slots.length cS3) (.slice aH3 sM3.heads.length cH3) (.slice aF3 sM3.free.length cF3) (.slice aL3 sM3.locks.length cL3) (.int .i64 sM3.now))) := (HW2.out.trans (b3.mono HW2.out.size)).trans (set5_below _ _ _ _ _ _ _ _ (Nat.le_of_lt HX.out))
  have HR3 : Hid ((set5 w3 X (.slice aS3 sM3.slots.length cS3) (.slice aH3 sM3.heads.length cH3) (.slice aF3 sM3.free.length cF3) (.slice aL3 sM3.locks.length cL3) (.int .i64 sM3.now)).heap[w.heap.size]? = some zeroMm) := (set5_other (by have := HX.out; omega)).trans ((b3.block _ (lt_of_block HR2.out)).trans HR2.out)
  have HC3 : Hid (Rw (set5 w3 X (.slice aS3 sM3.slots.length cS3) (.slice aH3 sM3.heads.length cH3) (.slice aF3 sM3.free.length cF3) (.slice aL3 sM3.locks.length cL3) (.int .i64 sM3.now)) X2.heap.size aS3 aH3 aF3 aL3 cS3 cH3 cF3 cL3 sM3) := R3.set5' (lt_of_block HB2.out) _ _ _ _ _
  obtain ⟨q0, q1, q2, q3, q4, f0, f1, f2, f3, f4, qs⟩ := boxf k3
  clear k3 R3 HB2 b3 HA2
  go_wp2_with fail
  rw [show ((((w3.setCell ⟨X, 0, none⟩ (.slice aS3 sM3.slots.length cS3)).setCell ⟨X, 1, none⟩ (.slice aH3 sM3.heads.length cH3)).setCell ⟨X, 2, none⟩ (.slice aF3 sM3.free.length cF3)).setCell ⟨X, 3, none⟩ (.slice aL3 sM3.locks.length cL3)).setCell ⟨X, 4, none⟩ (.int .i64 sM3.now) = set5 w3 X (.slice aS3 sM3.slots.length cS3) (.slice aH3 sM3.heads.length cH3) (.slice aF3 sM3.free.length cF3) (.slice aL3 sM3.locks.length cL3) (.int .i64 sM3.now) from rfl]
  generalize hX3 : set5 w3 X (.slice aS3 sM3.slots.length cS3) (.slice aH3 sM3.heads.length cH3) (.slice aF3 sM3.free.length cF3) (.slice aL3 sM3.locks.length cL3) (.int .i64 sM3.now) = X3 at *
  have HSz : Hid (w.heap.size < X2.heap.size) := lt_of_block HR2.out
  clear hX3 q0 q1 q2 q3 q4 f0 f1 f2 f3 f4 qs HR2
  obtain ⟨q0, q1, q2, q3, q4, -, -, -, -, -, qs⟩ := boxf HB3.out
  obtain ⟨r0, r1, r2, r3, r4, g0, g1, g2, g3, g4, rs⟩ := boxf HR3.out
  have hne : X ≠ w.heap.size := by have := HX.out; omega
  rw [sl3] at q0
  go_region
  all_goals go_wp2
  all_goals
    refine bodyPost_ret (v := .tuple #[.agg #[.slice aS3 2 cS3, .slice aH3 sM3.heads.length cH3, .slice aF3 sM3.free.length cF3, .slice aL3 sM3.locks.length cL3, .int .i64 sM3.now], .bool true]) (by simp [results, Try.results87, go_sem, r0, r1, r2, r3, r4]) rfl ⟨_, rfl, ?_, ?_⟩
    · have hr := HC3.out.set5' HSz.out (.slice aS3 2 cS3) (.slice aH3 sM3.heads.length cH3) (.slice aF3 sM3.free.length cF3) (.slice aL3 sM3.locks.length cL3) (.int .i64 sM3.now)
      have hd := hr.below (w' := (set5 X3 w.heap.size (.slice aS3 2 cS3) (.slice aH3 sM3.heads.length cH3) (.slice aF3 sM3.free.length cF3) (.slice aL3 sM3.locks.length cL3) (.int .i64 sM3.now)).drew) ⟨rfl, rfl, rfl, Nat.le_refl _, fun _ _ => rfl⟩
      have hl := Nat.le_of_lt HSz.out
      exact ⟨aS3, aH3, aF3, aL3, cS3, cH3, cF3, cL3, by rw [sl3], ⟨ownsRow_le hd.s hl, ownsRow_le hd.h hl, ownsRow_le hd.f hl, ownsRow_le hd.l hl, hd.hf, hd.hl, hd.fl, Nat.le_trans hl hd.lz⟩⟩
    · have h := HW3.out.trans (set5_below X3 w.heap.size w.heap.size (.slice aS3 2 cS3) (.slice aH3 sM3.heads.length cH3) (.slice aF3 sM3.free.length cF3) (.slice aL3 sM3.locks.length cL3) (.int .i64 sM3.now) (Nat.le_refl _))
      exact ⟨h.os, h.tape, h.output, h.size, h.block⟩

end Go.Proofs.Ytdbilofhcadmoab.mm

/- The closed fact of the statements on Adds: it is added, what is there isn't added twice. -/
namespace Go.Proofs.Ytdbilofhcadmoab.mm
open Go.ChangeShapes Go.WideShapes Go.ChangeAt Go.RowKit Go.Joins Go.Deep
set_option maxRecDepth 100000
set_option linter.unusedVariables false

def aC1 : Cl := ⟨2, 3, 0, 5, 0, 0⟩
def aC2 : Cl := ⟨2, 4, 0, 5, 0, 0⟩
def aN1 : Mm := (run adF (adM 1) 40 sM3 (newF aC1)).1
def aF1 : Fr := (run adF (adM 1) 40 sM3 (newF aC1)).2.1
def aN2 : Mm := (run adF (adM 1) 40 aN1 (newF aC2)).1
def aF2 : Fr := (run adF (adM 1) 40 aN1 (newF aC2)).2.1
theorem a1_ok : (run adF (adM 1) 40 sM3 (newF aC1)).2.2 = true := by decide
theorem a2_ok : (run adF (adM 1) 40 aN1 (newF aC2)).2.2 = true := by decide
theorem a1_says : aF1.e = 6 := by decide
theorem a2_says : aF2.e = 0 := by decide
theorem a2_slots : slotsCL aN2 0 = [1, 0] := by decide
theorem a2_se : slotsCE aN2 0 = 0 := by decide
theorem a2_lock : aN2.locks.length = 1 ∧ lockAt aN2 0 = -1 := by decide
theorem as3_good : AdG sM3 (newF aC1) := ⟨(chk_zero _).1 (by decide), fit_iff.1 (by decide), rfl, rfl⟩
theorem an1_good : AdG aN1 (newF aC2) := ⟨(chk_zero _).1 (by decide), fit_iff.1 (by decide), rfl, rfl⟩
theorem as3_small : sM3.slots.length = 2 ∧ sM3.heads.length = 1 ∧ sM3.free.length = 1 ∧ sM3.locks.length = 1 := by decide

theorem add_alone {B lo : Nat} {Z : Nat → Prop} {M N : Mm} {c : Cl} {g : Fr} (w : World) (n : Nat) (hn : n ≤ 1000) (hG : AdG M (newF c)) (h1 : (run adF (adM 1) n M (newF c)).1 = N) (h2 : (run adF (adM 1) n M (newF c)).2.1 = g) (ok : Bool) (h3 : (run adF (adM 1) n M (newF c)).2.2 = ok) (hM : Has w B lo Z M) (hZ : ∀ k, Z k → k < w.heap.size) :
    Calls Try.prog 42 #[.agg #[.int .i64 c.kind, .int .i64 c.a, .int .i64 c.b, .int .i64 c.time, .int .i64 c.bk, .int .i64 c.slot], .int .i64 n, .func (.func 111) #[] #[.pointer (some ⟨B, 0, none⟩)]] w fun e w' =>
      (∃ a c', e = .returned (.tuple #[.agg #[.int .i64 g.c.kind, .int .i64 g.c.a, .int .i64 g.c.b, .int .i64 g.c.time, .int .i64 g.c.bk, .int .i64 g.c.slot, .int .i64 g.pl, .int .i64 g.cur, .int .i64 g.prev, .int .i64 g.slot, .int .i64 g.n, .slice a g.keys.length c', .bool g.done, .int .i64 g.e], .bool ok])) ∧ Has w' B lo (Up w Z) N ∧ Fine w w' Z := by
  subst h1 h2 h3
  exact alone_any 111 #[.pointer (some ⟨B, 0, none⟩)] adF (adM 1) AdG B lo Z M c n w (fun args W => by kernel_rfl) (fun M f W Z h h' => closA1 M f B lo Z W h h') (fun M f h hd => adG_next (by omega) h hd) hM hZ hG hn

theorem equalI_at2 (a1 a2 : Option Addr) (c1 c2 n1 n2 : Nat) (l1 l2 : List Int) (h1 : n1 = l1.length) (h2 : n2 = l2.length) (w : World) (r1 : IRow w a1 c1 l1) (r2 : IRow w a2 c2 l2) :
    Calls Try.prog 22 #[.slice a1 n1 c1, .slice a2 n2 c2] w fun e w' => e = .returned (.bool (eqI l1 l2)) ∧ Below w.heap.size w w' := by
  subst h1 h2
  exact equalI_any a1 a2 c1 c2 l1 l2 w r1 r2

structure AdE (w W : World) (B X Y lo : Nat) (aS aH aF aL : Option Addr) (cS cH cF cL : Nat) (M : Mm) (o1 o2 : Obj) : Prop where
  bl : Below w.heap.size w W
  m : Mine W B lo aS aH aF aL cS cH cF cL M
  x : W.heap[X]? = some o1
  y : W.heap[Y]? = some o2
theorem AdE.below {w W W2 : World} {B X Y lo : Nat} {aS aH aF aL : Option Addr} {cS cH cF cL : Nat} {M : Mm} {o1 o2 : Obj} (h : AdE w W B X Y lo aS aH aF aL cS cH cF cL M o1 o2) (hb : Below W.heap.size W W2) : AdE w W2 B X Y lo aS aH aF aL cS cH cF cL M o1 o2 :=
  ⟨h.bl.trans (hb.mono h.bl.size), h.m.below hb, (hb.block _ (lt_of_block h.x)).trans h.x, (hb.block _ (lt_of_block h.y)).trans h.y⟩

set_option maxHeartbeats 6400000 in
theorem added_any (w : World) : Calls Try.prog 50 #[] w fun e w' => e = .returned (.bool true) ∧ Below w.heap.size w w' := by
  go_enter Try.func50, Try.ntmps50
  go_wp2_with fail
  refine (single_any w).mono ?_
  rintro e w1 ⟨v1, rfl, ⟨aS1, aH1, aF1', aL1, cS1, cH1, cF1, cL1, rfl, R1⟩, b1⟩
  obtain ⟨z1, z2, z3, z4⟩ := as3_small
  have m1 : Mine (w1.alloc (.cells #[.slice aS1 sM3.slots.length cS1, .slice aH1 sM3.heads.length cH1, .slice aF1' sM3.free.length cF1, .slice aL1 sM3.locks.length cL1, .int .i64 sM3.now] 25)) w1.heap.size w.heap.size aS1 aH1 aF1' aL1 cS1 cH1 cF1 cL1 sM3 := Mine.made R1 (by omega) (by omega) (by omega) (by omega)
  have HM1 : Hid _ := m1
  have HW1 : Hid (Below w.heap.size w (w1.alloc (.cells #[.slice aS1 sM3.slots.length cS1, .slice aH1 sM3.heads.length cH1, .slice aF1' sM3.free.length cF1, .slice aL1 sM3.locks.length cL1, .int .i64 sM3.now] 25))) := b1.alloc b1.size _
  have HS1 : Hid (w.heap.size ≤ w1.heap.size) := b1.size
  clear m1 R1 b1 z1 z2 z3 z4
  go_wp2_with fail
  generalize w1.alloc (.cells #[.slice aS1 sM3.slots.length cS1, .slice aH1 sM3.heads.length cH1, .slice aF1' sM3.free.length cF1, .slice aL1 sM3.locks.length cL1, .int .i64 sM3.now] 25) = W1 at *
  generalize w1.heap.size = B at *
  have HFt : Hid (∀ k, Foot B aS1 aH1 aF1' aL1 k → w.heap.size ≤ k) := by
    rintro k (rfl | ⟨ad, rfl, rfl⟩ | ⟨ad, rfl, rfl⟩ | ⟨ad, rfl, rfl⟩ | ⟨ad, rfl, rfl⟩)
    · exact HS1.out
    · exact (HM1.out.c.s.lt _ rfl).1
    · exact (HM1.out.c.h.lt _ rfl).1
    · exact (HM1.out.c.f.lt _ rfl).1
    · exact (HM1.out.c.l.lt _ rfl).1
  refine (add_alone (c := aC1) (N := aN1) (g := aF1) W1 40 (by omega) as3_good rfl rfl true a1_ok ⟨_, _, _, _, _, _, _, _, HM1.out, fun _ h => h⟩ (foot_lt HM1.out)).mono ?_
  rintro e w2 ⟨⟨a2, c2, rfl⟩, hh2, hf2⟩
  have HW2 : Hid (Below w.heap.size w (w2.alloc (.cells #[.int .i64 aF1.c.kind, .int .i64 aF1.c.a, .int .i64 aF1.c.b, .int .i64 aF1.c.time, .int .i64 aF1.c.bk, .int .i64 aF1.c.slot, .int .i64 aF1.pl, .int .i64 aF1.cur, .int .i64 aF1.prev, .int .i64 aF1.slot, .int .i64 aF1.n, .slice a2 aF1.keys.length c2, .bool aF1.done, .int .i64 aF1.e] 51))) := (HW1.out.trans (hf2.down HW1.out.size HFt.out)).alloc (by have := HW1.out.size; have := hf2.size; omega) _
  have HH2 : Hid (Has (w2.alloc (.cells #[.int .i64 aF1.c.kind, .int .i64 aF1.c.a, .int .i64 aF1.c.b, .int .i64 aF1.c.time, .int .i64 aF1.c.bk, .int .i64 aF1.c.slot, .int .i64 aF1.pl, .int .i64 aF1.cur, .int .i64 aF1.prev, .int .i64 aF1.slot, .int .i64 aF1.n, .slice a2 aF1.keys.length c2, .bool aF1.done, .int .i64 aF1.e] 51)) B w.heap.size (fun k => w.heap.size ≤ k ∧ k < w2.heap.size) aN1) := (hh2.low.mono (fun k h1 h2 => ⟨h2.elim (fun h => h ▸ HS1.out) id, h1⟩)).below (one_below _ _)
  have HB2 : Hid ((w2.alloc (.cells #[.int .i64 aF1.c.kind, .int .i64 aF1.c.a, .int .i64 aF1.c.b, .int .i64 aF1.c.time, .int .i64 aF1.c.bk, .int .i64 aF1.c.slot, .int .i64 aF1.pl, .int .i64 aF1.cur, .int .i64 aF1.prev, .int .i64 aF1.slot, .int .i64 aF1.n, .slice a2 aF1.keys.length c2, .bool aF1.done, .int .i64 aF1.e] 51)).heap[w2.heap.size]? = some (.cells #[.int .i64 aF1.c.kind, .int .i64 aF1.c.a, .int .i64 aF1.c.b, .int .i64 aF1.c.time, .int .i64 aF1.c.bk, .int .i64 aF1.c.slot, .int .i64 aF1.pl, .int .i64 aF1.cur, .int .i64 aF1.prev, .int .i64 aF1.slot, .int .i64 aF1.n, .slice a2 aF1.keys.length c2, .bool aF1.done, .int .i64 aF1.e] 51 (0, 0))) := heap_alloc_new _ _
  clear hh2 hf2 HM1 HW1 HFt
  go_wp2_with fail
  generalize w2.alloc (.cells #[.int .i64 aF1.c.kind, .int .i64 aF1.c.a, .int .i64 aF1.c.b, .int .i64 aF1.c.time, .int .i64 aF1.c.bk, .int .i64 aF1.c.slot, .int .i64 aF1.pl, .int .i64 aF1.cur, .int .i64 aF1.prev, .int .i64 aF1.slot, .int .i64 aF1.n, .slice a2 aF1.keys.length c2, .bool aF1.done, .int .i64 aF1.e] 51) = W2 at *
  generalize w2.heap.size = X at *
  refine (add_alone (c := aC2) (N := aN2) (g := aF2) W2 40 (by omega) an1_good rfl rfl true a2_ok HH2.out (fun k h => Nat.lt_trans h.2 (lt_of_block HB2.out))).mono ?_
  rintro e w3 ⟨⟨a3, c3, rfl⟩, hh3, hf3⟩
  have HW3 : Hid (Below w.heap.size w (w3.alloc (.cells #[.int .i64 aF2.c.kind, .int .i64 aF2.c.a, .int .i64 aF2.c.b, .int .i64 aF2.c.time, .int .i64 aF2.c.bk, .int .i64 aF2.c.slot, .int .i64 aF2.pl, .int .i64 aF2.cur, .int .i64 aF2.prev, .int .i64 aF2.slot, .int .i64 aF2.n, .slice a3 aF2.keys.length c3, .bool aF2.done, .int .i64 aF2.e] 51))) := (HW2.out.trans (hf3.down HW2.out.size (fun k h => h.1))).alloc (by have := HW2.out.size; have := hf3.size; omega) _
  obtain ⟨aS, aH, aF, aL, cS, cH, cF, cL, m, hft⟩ := hh3
  have HE3 : Hid (AdE w (w3.alloc (.cells #[.int .i64 aF2.c.kind, .int .i64 aF2.c.a, .int .i64 aF2.c.b, .int .i64 aF2.c.time, .int .i64 aF2.c.bk, .int .i64 aF2.c.slot, .int .i64 aF2.pl, .int .i64 aF2.cur, .int .i64 aF2.prev, .int .i64 aF2.slot, .int .i64 aF2.n, .slice a3 aF2.keys.length c3, .bool aF2.done, .int .i64 aF2.e] 51)) B X w3.heap.size w.heap.size aS aH aF aL cS cH cF cL aN2 (.cells #[.int .i64 aF1.c.kind, .int .i64 aF1.c.a, .int .i64 aF1.c.b, .int .i64 aF1.c.time, .int .i64 aF1.c.bk, .int .i64 aF1.c.slot, .int .i64 aF1.pl, .int .i64 aF1.cur, .int .i64 aF1.prev, .int .i64 aF1.slot, .int .i64 aF1.n, .slice a2 aF1.keys.length c2, .bool aF1.done, .int .i64 aF1.e] 51 (0, 0)) (.cells #[.int .i64 aF2.c.kind, .int .i64 aF2.c.a, .int .i64 aF2.c.b, .int .i64 aF2.c.time, .int .i64 aF2.c.bk, .int .i64 aF2.c.slot, .int .i64 aF2.pl, .int .i64 aF2.cur, .int .i64 aF2.prev, .int .i64 aF2.slot, .int .i64 aF2.n, .slice a3 aF2.keys.length c3, .bool aF2.done, .int .i64 aF2.e] 51 (0, 0))) :=
    ⟨HW3.out, m.below (one_below _ _), (Below.heap_alloc _ _ _ (Nat.lt_of_lt_of_le (lt_of_block HB2.out) hf3.size)).trans ((hf3.block X (lt_of_block HB2.out) (fun h => by have := h.2; omega)).trans HB2.out), heap_alloc_new _ _⟩
  have hm0 : w3.heap[B]? = _ := m.box
  obtain ⟨q0, q1, q2, q3, q4, -, -, -, -, -, qs⟩ := boxf hm0
  clear hf3 hft HH2 HB2 HW2 HW3 m hm0
  go_wp2_with fail
  clear q0 q1 q2 q3 q4 qs
  generalize w3.alloc (.cells #[.int .i64 aF2.c.kind, .int .i64 aF2.c.a, .int .i64 aF2.c.b, .int .i64 aF2.c.time, .int .i64 aF2.c.bk, .int .i64 aF2.c.slot, .int .i64 aF2.pl, .int .i64 aF2.cur, .int .i64 aF2.prev, .int .i64 aF2.slot, .int .i64 aF2.n, .slice a3 aF2.keys.length c3, .bool aF2.done, .int .i64 aF2.e] 51) = W3 at *
  generalize w3.heap.size = Y at *
  refine (slots_at a2_slots a2_se _ W3 _ HE3.out.m.ans).mono ?_
  rintro e w4 ⟨ao, cap, rfl, hrow, b4⟩
  have HE4 : Hid (AdE w w4 B X Y w.heap.size aS aH aF aL cS cH cF cL aN2 (.cells #[.int .i64 aF1.c.kind, .int .i64 aF1.c.a, .int .i64 aF1.c.b, .int .i64 aF1.c.time, .int .i64 aF1.c.bk, .int .i64 aF1.c.slot, .int .i64 aF1.pl, .int .i64 aF1.cur, .int .i64 aF1.prev, .int .i64 aF1.slot, .int .i64 aF1.n, .slice a2 aF1.keys.length c2, .bool aF1.done, .int .i64 aF1.e] 51 (0, 0)) (.cells #[.int .i64 aF2.c.kind, .int .i64 aF2.c.a, .int .i64 aF2.c.b, .int .i64 aF2.c.time, .int .i64 aF2.c.bk, .int .i64 aF2.c.slot, .int .i64 aF2.pl, .int .i64 aF2.cur, .int .i64 aF2.prev, .int .i64 aF2.slot, .int .i64 aF2.n, .slice a3 aF2.keys.length c3, .bool aF2.done, .int .i64 aF2.e] 51 (0, 0))) := HE3.out.below b4
  have HR4 : Hid (IRow w4 ao cap [1, 0]) := hrow
  clear HE3 hrow b4
  have HE5 : Hid (AdE w (w4.alloc (.cells #[.int .i64 1, .int .i64 0] 3)) B X Y w.heap.size aS aH aF aL cS cH cF cL aN2 (.cells #[.int .i64 aF1.c.kind, .int .i64 aF1.c.a, .int .i64 aF1.c.b, .int .i64 aF1.c.time, .int .i64 aF1.c.bk, .int .i64 aF1.c.slot, .int .i64 aF1.pl, .int .i64 aF1.cur, .int .i64 aF1.prev, .int .i64 aF1.slot, .int .i64 aF1.n, .slice a2 aF1.keys.length c2, .bool aF1.done, .int .i64 aF1.e] 51 (0, 0)) (.cells #[.int .i64 aF2.c.kind, .int .i64 aF2.c.a, .int .i64 aF2.c.b, .int .i64 aF2.c.time, .int .i64 aF2.c.bk, .int .i64 aF2.c.slot, .int .i64 aF2.pl, .int .i64 aF2.cur, .int .i64 aF2.prev, .int .i64 aF2.slot, .int .i64 aF2.n, .slice a3 aF2.keys.length c3, .bool aF2.done, .int .i64 aF2.e] 51 (0, 0))) := HE4.out.below (one_below _ _)
  have HR5 : Hid (IRow (w4.alloc (.cells #[.int .i64 1, .int .i64 0] 3)) ao cap [1, 0]) := HR4.out.below (one_below _ _)
  have HL5 : Hid (IRow (w4.alloc (.cells #[.int .i64 1, .int .i64 0] 3)) (some ⟨w4.heap.size, 0, none⟩) 2 [1, 0]) := by
    refine ⟨by decide, by decide, (fun h => by cases h), .inr ⟨_, _, rfl, fun i hi => ?_⟩⟩
    have hi2 : i < 2 := hi
    match i, hi2 with
    | 0, _ => simp
    | 1, _ => simp
  obtain ⟨f0, f1, f2, f3, f4, f5, f6, f7, f8, f9, f10, f11, f12, f13, -, fs⟩ := framef HE4.out.x
  obtain ⟨g0, g1, g2, g3, g4, g5, g6, g7, g8, g9, g10, g11, g12, g13, -, gs⟩ := framef HE4.out.y
  rw [a1_says] at f13
  rw [a2_says] at g13
  clear HE4 HR4 f0 f1 f2 f3 f4 f5 f6 f7 f8 f9 f10 f11 f12 g0 g1 g2 g3 g4 g5 g6 g7 g8 g9 g10 g11 g12
  go_wp2_with fail
  clear f13 g13 fs gs
  generalize w4.alloc (.cells #[.int .i64 1, .int .i64 0] 3) = W5 at *
  refine (equalI_at2 ao (some ⟨w4.heap.size, 0, none⟩) cap 2 2 2 [1, 0] [1, 0] rfl rfl W5 HR5.out HL5.out).mono ?_
  rw [show eqI [1, 0] [1, 0] = true from (eqI_iff _ _).2 rfl]
  rintro e w6 ⟨rfl, b6⟩
  have HE6 : Hid (AdE w w6 B X Y w.heap.size aS aH aF aL cS cH cF cL aN2 (.cells #[.int .i64 aF1.c.kind, .int .i64 aF1.c.a, .int .i64 aF1.c.b, .int .i64 aF1.c.time, .int .i64 aF1.c.bk, .int .i64 aF1.c.slot, .int .i64 aF1.pl, .int .i64 aF1.cur, .int .i64 aF1.prev, .int .i64 aF1.slot, .int .i64 aF1.n, .slice a2 aF1.keys.length c2, .bool aF1.done, .int .i64 aF1.e] 51 (0, 0)) (.cells #[.int .i64 aF2.c.kind, .int .i64 aF2.c.a, .int .i64 aF2.c.b, .int .i64 aF2.c.time, .int .i64 aF2.c.bk, .int .i64 aF2.c.slot, .int .i64 aF2.pl, .int .i64 aF2.cur, .int .i64 aF2.prev, .int .i64 aF2.slot, .int .i64 aF2.n, .slice a3 aF2.keys.length c3, .bool aF2.done, .int .i64 aF2.e] 51 (0, 0))) := HE5.out.below b6
  clear HE5 HR5 HL5 b6
  obtain ⟨gL, rfl, -, -, -, -⟩ := row_form HE6.out.m.c.l (by rw [a2_lock.1]; omega)
  have hx := (row_cell HE6.out.m.c.l (j := 0) (by rw [a2_lock.1]; omega)).1
  rw [← lockAt_get (by rw [a2_lock.1]; omega), a2_lock.2] at hx
  obtain ⟨q0, q1, q2, q3, q4, -, -, -, -, -, qs⟩ := boxf HE6.out.m.box
  rw [a2_lock.1] at q3
  go_wp2
  go_ret
  exact ⟨rfl, HE6.out.bl⟩

end Go.Proofs.Ytdbilofhcadmoab.mm
