/- The closed facts of the statements on calls: one flow in one chain. -/
import Derived.Test.YtdbilofhcadmoacC21
import Derived.Test.YtdbilofhcadmoacC05
import Derived.Deep.QuietTactic
import Derived.BigQuiet
import Derived.Test.YtdbilofhcadmoacC08
namespace Go.Proofs.Ytdbilofhcadmoac.mm
open Go.ChangeShapes Go.WideShapes Go.ChangeAt Go.RowKit Go.Joins Go.Maps
set_option maxRecDepth 100000
set_option linter.unusedVariables false

def sM1 : Mm := newM 2 1
def sM2 : Mm := takenM sM1 3 0 5
def sM3 : Mm := linkedM sM2 0
theorem sg2 : takenM sM1 3 0 5 = sM2 := rfl
theorem sf2 : takenN sM1 3 0 5 = 0 ∧ takenE sM1 3 0 5 = 0 := by decide
theorem sf3 : linkE sM2 0 = 0 := by decide
theorem sl3 : sM3.slots.length = 2 := by decide
theorem snew21 (w : World) : Calls Try.prog 62 #[.int .i64 2, .int .i64 1] w fun e w' => ∃ v, e = .returned (.tuple #[v, .int .i64 0]) ∧ Ans w.heap.size w' v sM1 ∧ Below w.heap.size w w' := new_ok 2 1 w (by decide) (by decide) (by decide)
theorem linkedO_at {M M' : Mm} {a : Int} (hM : linkedM M a = M') (hE : linkE M a = 0) (v : Value) (w : World) (lo : Nat) (A : Ans lo w v M) :
    Calls Try.prog 64 #[v, .int .i64 a] w fun e w' => ∃ v, e = .returned (.tuple #[v, .int .i64 0]) ∧ AnsO w.heap.size w' v M' ∧ Below w.heap.size w w' := by
  subst hM
  obtain ⟨aS, aH, aF, aL, cS, cH, cF, cL, rfl, A, hi⟩ := A
  exact linked_own M _ _ _ _ _ _ _ _ a w A hE

def zeroMm : Obj := .cells #[.slice none 0 0, .slice none 0 0, .slice none 0 0, .slice none 0 0, .int .i64 0] 25

theorem Rw.set5' {w : World} {lo B : Nat} {aS aH aF aL : Option Addr} {cS cH cF cL : Nat} {M : Mm} (r : Rw w lo aS aH aF aL cS cH cF cL M) (hB : B < lo) (v0 v1 v2 v3 v4 : Value) : Rw (mm.set5 w B v0 v1 v2 v3 v4) lo aS aH aF aL cS cH cF cL M := by
  have ne : ∀ {e : TypeId} {size n : Nat} {v : Value} {xs : List Value}, w.ownsRow lo e size v n xs → v.ownBlock ≠ some B := fun h e => by have := (h.lt B e).1; omega
  exact ⟨own_set5 r.s (ne r.s) _ _ _ _ _, own_set5 r.h (ne r.h) _ _ _ _ _, own_set5 r.f (ne r.f) _ _ _ _ _, own_set5 r.l (ne r.l) _ _ _ _ _, r.hf, r.hl, r.fl, by rw [set5_size]; exact r.lz⟩

set_option maxHeartbeats 6400000 in
theorem single_any (w : World) : Calls Try.prog 27 #[] w fun e w' => ∃ v, e = .returned (.tuple #[v, .bool true]) ∧ AnsO w.heap.size w' v sM3 ∧ Below w.heap.size w w' := by
  obtain ⟨oz, hoz⟩ : ∃ o : Obj, o = zeroMm := ⟨_, rfl⟩
  have HZ : Hid (oz = zeroMm) := hoz
  have HR0 : Hid ((w.alloc oz).heap[w.heap.size]? = some zeroMm) := by show _ = _; rw [← hoz]; exact heap_alloc_new w oz
  have HW0 : Hid (Below w.heap.size w (w.alloc oz)) := one_below w oz
  have HS0 : Hid (w.heap.size < (w.alloc oz).heap.size) := by show _ < _; simp
  unfold zeroMm at hoz
  go_enter Try.func27, Try.ntmps27
  go_wp2_with fail
  rw [← hoz]
  generalize w.alloc oz = W0 at *
  clear hoz HZ
  refine (snew21 W0).mono ?_
  rintro e w1 ⟨v1, rfl, ⟨aS1, aH1, aF1, aL1, cS1, cH1, cF1, cL1, rfl, A1, hi1⟩, b1⟩
  have s1 := b1.size
  have HA1 : Hid (Ans W0.heap.size (w1.alloc (.cells #[.slice aS1 sM1.slots.length cS1, .slice aH1 sM1.heads.length cH1, .slice aF1 sM1.free.length cF1, .slice aL1 sM1.locks.length cL1, .int .i64 sM1.now] 25)) (.agg #[.slice aS1 sM1.slots.length cS1, .slice aH1 sM1.heads.length cH1, .slice aF1 sM1.free.length cF1, .slice aL1 sM1.locks.length cL1, .int .i64 sM1.now]) sM1) := Ans.below ⟨aS1, aH1, aF1, aL1, cS1, cH1, cF1, cL1, rfl, A1, hi1⟩ (one_below _ _)
  have HB1 : Hid ((w1.alloc (.cells #[.slice aS1 sM1.slots.length cS1, .slice aH1 sM1.heads.length cH1, .slice aF1 sM1.free.length cF1, .slice aL1 sM1.locks.length cL1, .int .i64 sM1.now] 25)).heap[w1.heap.size]? = some (.cells #[.slice aS1 sM1.slots.length cS1, .slice aH1 sM1.heads.length cH1, .slice aF1 sM1.free.length cF1, .slice aL1 sM1.locks.length cL1, .int .i64 sM1.now] 25 (0, 0))) := heap_alloc_new _ _
  have HW1 : Hid (Below w.heap.size w (w1.alloc (.cells #[.slice aS1 sM1.slots.length cS1, .slice aH1 sM1.heads.length cH1, .slice aF1 sM1.free.length cF1, .slice aL1 sM1.locks.length cL1, .int .i64 sM1.now] 25))) := (HW0.out.trans (b1.mono (by have := HS0.out; omega))).trans ((one_below _ _).mono (by have := HS0.out; omega))
  have HR1 : Hid ((w1.alloc (.cells #[.slice aS1 sM1.slots.length cS1, .slice aH1 sM1.heads.length cH1, .slice aF1 sM1.free.length cF1, .slice aL1 sM1.locks.length cL1, .int .i64 sM1.now] 25)).heap[w.heap.size]? = some zeroMm) := (Below.heap_alloc _ _ _ (by have := HS0.out; omega)).trans ((b1.block _ HS0.out).trans HR0.out)
  have HX : Hid (w.heap.size < w1.heap.size) := Nat.lt_of_lt_of_le HS0.out s1
  clear A1 hi1 b1 HR0 HW0 HS0 s1
  go_wp2_with fail
  generalize hX1 : w1.alloc (.cells #[.slice aS1 sM1.slots.length cS1, .slice aH1 sM1.heads.length cH1, .slice aF1 sM1.free.length cF1, .slice aL1 sM1.locks.length cL1, .int .i64 sM1.now] 25) = X1 at *
  generalize w1.heap.size = X at *
  clear hX1
  refine (taken_at sg2 sf2.1 sf2.2 _ X1 _ HA1.out).mono ?_
  rintro e w2 ⟨v2, rfl, ⟨aS2, aH2, aF2, aL2, cS2, cH2, cF2, cL2, rfl, A2, hi2⟩, b2⟩
  have k2 := (b2.block X (lt_of_block HB1.out)).trans HB1.out
  have HB2 : Hid ((set5 w2 X (.slice aS2 sM2.slots.length cS2) (.slice aH2 sM2.heads.length cH2) (.slice aF2 sM2.free.length cF2) (.slice aL2 sM2.locks.length cL2) (.int .i64 sM2.now)).heap[X]? = some (.cells #[.slice aS2 sM2.slots.length cS2, .slice aH2 sM2.heads.length cH2, .slice aF2 sM2.free.length cF2, .slice aL2 sM2.locks.length cL2, .int .i64 sM2.now] 25 (0, 0))) := set5_block k2 _ _ _ _ _
  have HW2 : Hid (Below w.heap.size w (set5 w2 X (.slice aS2 sM2.slots.length cS2) (.slice aH2 sM2.heads.length cH2) (.slice aF2 sM2.free.length cF2) (.slice aL2 sM2.locks.length cL2) (.int .i64 sM2.now))) := (HW1.out.trans (b2.mono HW1.out.size)).trans (set5_below _ _ _ _ _ _ _ _ (Nat.le_of_lt HX.out))
  have HR2 : Hid ((set5 w2 X (.slice aS2 sM2.slots.length cS2) (.slice aH2 sM2.heads.length cH2) (.slice aF2 sM2.free.length cF2) (.slice aL2 sM2.locks.length cL2) (.int .i64 sM2.now)).heap[w.heap.size]? = some zeroMm) := (set5_other (by have := HX.out; omega)).trans ((b2.block _ (lt_of_block HR1.out)).trans HR1.out)
  have HA2 : Hid (Ans X1.heap.size (set5 w2 X (.slice aS2 sM2.slots.length cS2) (.slice aH2 sM2.heads.length cH2) (.slice aF2 sM2.free.length cF2) (.slice aL2 sM2.locks.length cL2) (.int .i64 sM2.now)) (.agg #[.slice aS2 sM2.slots.length cS2, .slice aH2 sM2.heads.length cH2, .slice aF2 sM2.free.length cF2, .slice aL2 sM2.locks.length cL2, .int .i64 sM2.now]) sM2) := Ans.off ⟨aS2, aH2, aF2, aL2, cS2, cH2, cF2, cL2, rfl, A2, hi2⟩ (lt_of_block HB1.out) (fun k hk => set5_other hk)
  obtain ⟨q0, q1, q2, q3, q4, f0, f1, f2, f3, f4, qs⟩ := boxf k2
  clear k2 A2 hi2 HB1 b2 HA1
  go_wp2_with fail
  rw [show ((((w2.setCell ⟨X, 0, none⟩ (.slice aS2 sM2.slots.length cS2)).setCell ⟨X, 1, none⟩ (.slice aH2 sM2.heads.length cH2)).setCell ⟨X, 2, none⟩ (.slice aF2 sM2.free.length cF2)).setCell ⟨X, 3, none⟩ (.slice aL2 sM2.locks.length cL2)).setCell ⟨X, 4, none⟩ (.int .i64 sM2.now) = set5 w2 X (.slice aS2 sM2.slots.length cS2) (.slice aH2 sM2.heads.length cH2) (.slice aF2 sM2.free.length cF2) (.slice aL2 sM2.locks.length cL2) (.int .i64 sM2.now) from rfl]
  generalize hX2 : set5 w2 X (.slice aS2 sM2.slots.length cS2) (.slice aH2 sM2.heads.length cH2) (.slice aF2 sM2.free.length cF2) (.slice aL2 sM2.locks.length cL2) (.int .i64 sM2.now) = X2 at *
  clear hX2 q0 q1 q2 q3 q4 f0 f1 f2 f3 f4 qs HW1 HR1
  refine (linkedO_at (M := sM2) (M' := sM3) rfl sf3 _ X2 _ HA2.out).mono ?_
  rintro e w3 ⟨v3, rfl, ⟨aS3, aH3, aF3, aL3, cS3, cH3, cF3, cL3, rfl, R3⟩, b3⟩
  have k3 := (b3.block X (lt_of_block HB2.out)).trans HB2.out
  have HB3 : Hid ((set5 w3 X (.slice aS3 sM3.slots.length cS3) (.slice aH3 sM3.heads.length cH3) (.slice aF3 sM3.free.length cF3) (.slice aL3 sM3.locks.length cL3) (.int .i64 sM3.now)).heap[X]? = some (.cells #[.slice aS3 sM3.slots.length cS3, .slice aH3 sM3.heads.length cH3, .slice aF3 sM3.free.length cF3, .slice aL3 sM3.locks.length cL3, .int .i64 sM3.now] 25 (0, 0))) := set5_block k3 _ _ _ _ _
  have HW3 : Hid (Below w.heap.size w (set5 w3 X (.slice aS3 sM3.slots.length cS3) (.slice aH3 sM3.heads.length cH3) (.slice aF3 sM3.free.length cF3) (.slice aL3 sM3.locks.length cL3) (.int .i64 sM3.now))) := (HW2.out.trans (b3.mono HW2.out.size)).trans (set5_below _ _ _ _ _ _ _ _ (Nat.le_of_lt HX.out))
  have HR3 : Hid ((set5 w3 X (.slice aS3 sM3.slots.length cS3) (.slice aH3 sM3.heads.length cH3) (.slice aF3 sM3.free.length cF3) (.slice aL3 sM3.locks.length cL3) (.int .i64 sM3.now)).heap[w.heap.size]? = some zeroMm) := (set5_other (by have := HX.out; omega)).trans ((b3.block _ (lt_of_block HR2.out)).trans HR2.out)
  have HC3 : Hid (Rw (set5 w3 X (.slice aS3 sM3.slots.length cS3) (.slice aH3 sM3.heads.length cH3) (.slice aF3 sM3.free.length cF3) (.slice aL3 sM3.locks.length cL3) (.int .i64 sM3.now)) X2.heap.size aS3 aH3 aF3 aL3 cS3 cH3 cF3 cL3 sM3) := R3.set5' (lt_of_block HB2.out) _ _ _ _ _
  obtain ⟨q0, q1, q2, q3, q4, f0, f1, f2, f3, f4, qs⟩ := boxf k3
  clear k3 R3 HB2 b3 HA2
  go_wp2_with fail
  rw [show ((((w3.setCell ⟨X, 0, none⟩ (.slice aS3 sM3.slots.length cS3)).setCell ⟨X, 1, none⟩ (.slice aH3 sM3.heads.length cH3)).setCell ⟨X, 2, none⟩ (.slice aF3 sM3.free.length cF3)).setCell ⟨X, 3, none⟩ (.slice aL3 sM3.locks.length cL3)).setCell ⟨X, 4, none⟩ (.int .i64 sM3.now) = set5 w3 X (.slice aS3 sM3.slots.length cS3) (.slice aH3 sM3.heads.length cH3) (.slice aF3 sM3.free.length cF3) (.slice aL3 sM3.locks.length cL3) (.int .i64 sM3.now) from rfl]
  generalize hX3 : set5 w3 X (.slice aS3 sM3.slots.length cS3) (.slice aH3 sM3.heads.length cH3) (.slice aF3 sM3.free.length cF3) (.slice aL3 sM3.locks.length cL3) (.int .i64 sM3.now) = X3 at *
  have HSz : Hid (w.heap.size < X2.heap.size) := lt_of_block HR2.out
  clear hX3 q0 q1 q2 q3 q4 f0 f1 f2 f3 f4 qs HR2
  obtain ⟨q0, q1, q2, q3, q4, -, -, -, -, -, qs⟩ := boxf HB3.out
  obtain ⟨r0, r1, r2, r3, r4, g0, g1, g2, g3, g4, rs⟩ := boxf HR3.out
  have hne : X ≠ w.heap.size := by have := HX.out; omega
  rw [sl3] at q0
  go_region
  all_goals go_wp2
  all_goals
    refine bodyPost_ret (v := .tuple #[.agg #[.slice aS3 2 cS3, .slice aH3 sM3.heads.length cH3, .slice aF3 sM3.free.length cF3, .slice aL3 sM3.locks.length cL3, .int .i64 sM3.now], .bool true]) (by simp [results, Try.results27, go_sem, r0, r1, r2, r3, r4]) rfl ⟨_, rfl, ?_, ?_⟩
    · have hr := HC3.out.set5' HSz.out (.slice aS3 2 cS3) (.slice aH3 sM3.heads.length cH3) (.slice aF3 sM3.free.length cF3) (.slice aL3 sM3.locks.length cL3) (.int .i64 sM3.now)
      have hd := hr.below (w' := (set5 X3 w.heap.size (.slice aS3 2 cS3) (.slice aH3 sM3.heads.length cH3) (.slice aF3 sM3.free.length cF3) (.slice aL3 sM3.locks.length cL3) (.int .i64 sM3.now)).drew) ⟨rfl, rfl, rfl, Nat.le_refl _, fun _ _ => rfl⟩
      have hl := Nat.le_of_lt HSz.out
      exact ⟨aS3, aH3, aF3, aL3, cS3, cH3, cF3, cL3, by rw [sl3], ⟨ownsRow_le hd.s hl, ownsRow_le hd.h hl, ownsRow_le hd.f hl, ownsRow_le hd.l hl, hd.hf, hd.hl, hd.fl, Nat.le_trans hl hd.lz⟩⟩
    · have h := HW3.out.trans (set5_below X3 w.heap.size w.heap.size (.slice aS3 2 cS3) (.slice aH3 sM3.heads.length cH3) (.slice aF3 sM3.free.length cF3) (.slice aL3 sM3.locks.length cL3) (.int .i64 sM3.now) (Nat.le_refl _))
      exact ⟨h.os, h.tape, h.output, h.size, h.block⟩



end Go.Proofs.Ytdbilofhcadmoac.mm

/- The closed fact of the statements on Sweeps and Lists: what is mapped is listed, and swept when it is over. -/
namespace Go.Proofs.Ytdbilofhcadmoac.mm
open Go.ChangeShapes Go.WideShapes Go.ChangeAt Go.RowKit Go.Joins Go.Deep
set_option maxRecDepth 100000
set_option linter.unusedVariables false

def sweepFr (k : Int) (f : Fr) : Fr := { f with c := { f.c with kind := k } }
def eS : Cl := ⟨4, 0, 0, 0, 0, 0⟩
def eL : Cl := ⟨5, 0, 0, 0, 0, 0⟩
def eN1 : Mm := (run swF (swM 1) 40 sM3 (newF eS)).1
def eF1 : Fr := (run swF (swM 1) 40 sM3 (newF eS)).2.1
def eN2 : Mm := (run swF (swM 1) 40 eN1 (newF eL)).1
def eF2 : Fr := (run swF (swM 1) 40 eN1 (newF eL)).2.1
def eN3 : Mm := { eN2 with now := 5 }
def eN4 : Mm := (run swF (swM 1) 40 eN3 (newF eS)).1
def eF4 : Fr := (run swF (swM 1) 40 eN3 (newF eS)).2.1
theorem e1_ok : (run swF (swM 1) 40 sM3 (newF eS)).2.2 = true := by decide
theorem e2_ok : (run swF (swM 1) 40 eN1 (newF eL)).2.2 = true := by decide
theorem e4_ok : (run swF (swM 1) 40 eN3 (newF eS)).2.2 = true := by decide
theorem e1_says : eF1.n = 0 := by decide
theorem e2_says : eF2.keys = [(3, 0)] := by decide
theorem e4_says : eF4.n = 1 := by decide
theorem e4_mem : eN4.free.length = 2 ∧ eN4.locks.length = 1 ∧ lockAt eN4 0 = -1 := by decide
theorem es3_good : SwG 1 sM3 (newF eS) := by
  obtain ⟨X, g, h⟩ := goesB_goes (nf := swF) (nm := swM 1) (k := 40) (M := sM3) (f := newF eS) (by decide)
  exact ⟨⟨40, X, g, h⟩, fit_iff.1 (by decide), .inl rfl⟩
theorem en1_good : SwG 1 eN1 (newF eL) := by
  obtain ⟨X, g, h⟩ := goesB_goes (nf := swF) (nm := swM 1) (k := 40) (M := eN1) (f := newF eL) (by decide)
  exact ⟨⟨40, X, g, h⟩, fit_iff.1 (by decide), .inr rfl⟩
theorem en3_good : SwG 1 eN3 (newF eS) := by
  obtain ⟨X, g, h⟩ := goesB_goes (nf := swF) (nm := swM 1) (k := 40) (M := eN3) (f := newF eS) (by decide)
  exact ⟨⟨40, X, g, h⟩, fit_iff.1 (by decide), .inl rfl⟩
theorem es3_small : sM3.slots.length = 2 ∧ sM3.heads.length = 1 ∧ sM3.free.length = 1 ∧ sM3.locks.length = 1 := by decide

theorem sweep_alone {B lo : Nat} {Z : Nat → Prop} {M N : Mm} {c : Cl} {g : Fr} (w : World) (n : Nat) (hn : n ≤ 1000) (hG : SwG 1 M (newF c)) (h1 : (run swF (swM 1) n M (newF c)).1 = N) (h2 : (run swF (swM 1) n M (newF c)).2.1 = g) (ok : Bool) (h3 : (run swF (swM 1) n M (newF c)).2.2 = ok) (hM : Has w B lo Z M) (hZ : ∀ k, Z k → k < w.heap.size) :
    Calls Try.prog 17 #[.agg #[.int .i64 c.kind, .int .i64 c.a, .int .i64 c.b, .int .i64 c.time, .int .i64 c.bk, .int .i64 c.slot], .int .i64 n, .func (.func 28) #[] #[.pointer (some ⟨B, 0, none⟩)]] w fun e w' =>
      (∃ a c', e = .returned (.tuple #[.agg #[.int .i64 g.c.kind, .int .i64 g.c.a, .int .i64 g.c.b, .int .i64 g.c.time, .int .i64 g.c.bk, .int .i64 g.c.slot, .int .i64 g.pl, .int .i64 g.cur, .int .i64 g.prev, .int .i64 g.slot, .int .i64 g.n, .slice a g.keys.length c', .bool g.done, .int .i64 g.e], .bool ok]) ∧ KOwn w' 0 a c' g.keys) ∧ Has w' B lo (Up w Z) N ∧ Fine w w' Z := by
  subst h1 h2 h3
  exact aloneO_any 28 #[.pointer (some ⟨B, 0, none⟩)] swF (swM 1) (SwG 1) B lo Z M c n w (fun args W => by kernel_rfl) (fun M f W Z ka kc h h' ho => closS1 M f B lo Z W ka kc h h' ho) (fun M f h hd => swG_next h hd) hM hZ hG hn

/- A box of a frame is no block of memory. -/
theorem Mine.notFrame {w : World} {B lo X : Nat} {aS aH aF aL : Option Addr} {cS cH cF cL : Nat} {M : Mm} {cs : Array Value} (m : Mine w B lo aS aH aF aL cS cH cF cL M) (hX : w.heap[X]? = some (.cells cs 33 (0, 0))) : ¬ Foot B aS aH aF aL X := by
  have hne : ∀ {lo2 size n c2 : Nat} {e : TypeId} {a2 : Option Addr} {xs : List Value}, w.ownsRow lo2 e size (.slice a2 n c2) n xs → e ≠ 33 → ∀ ad2, a2 = some ad2 → ad2.block ≠ X := by
    rintro lo2 size n c2 e a2 xs h2 ne ad2 rfl heq
    exact own_ne h2 hX ne (by show some ad2.block = _; rw [heq])
  rintro (rfl | ⟨ad2, e, hb⟩ | ⟨ad2, e, hb⟩ | ⟨ad2, e, hb⟩ | ⟨ad2, e, hb⟩)
  · have := m.box
    rw [hX] at this
    simp at this
  · exact hne m.c.s (by decide) ad2 e hb
  · exact hne m.c.h (by decide) ad2 e hb
  · exact hne m.c.f (by decide) ad2 e hb
  · exact hne m.c.l (by decide) ad2 e hb
theorem Mine.setNow {w : World} {B lo : Nat} {aS aH aF aL : Option Addr} {cS cH cF cL : Nat} {M : Mm} (m : Mine w B lo aS aH aF aL cS cH cF cL M) (t : Int) : Mine (w.setCell ⟨B, 4, none⟩ (.int .i64 t)) B lo aS aH aF aL cS cH cF cL { M with now := t } := by
  obtain ⟨hB, ⟨s, h, f, l, hf, hl, fl, lz⟩, m1, m2, m3, m4⟩ := m
  refine ⟨?_, ⟨own_box s hB (by decide) _, own_box h hB (by decide) _, own_box f hB (by decide) _, own_box l hB (by decide) _, hf, hl, fl, by rw [World.size_setCell]; exact lz⟩, m1, m2, m3, m4⟩
  have := block_setCell (i := 4) hB (.int .i64 t)
  simpa using this
theorem key_new {W : World} {A : Nat} {x y : Int} (h : W.heap[A]? = some (.cells #[.int .i64 x, .int .i64 y] 27 (0, 0))) : KRow W (some ⟨A, 0, none⟩) 1 [(x, y)] := by
  refine ⟨by simp, by simp, (fun h => by cases h), .inr ⟨A, 0, rfl, fun i hi => ?_⟩⟩
  have hi0 : i = 0 := by simpa using hi
  subst hi0
  exact ⟨by rw [cell_of_block h]; rfl, by rw [cell_of_block h]; rfl⟩

set_option maxHeartbeats 12800000 in
theorem swept_any (w : World) : Calls Try.prog 6 #[] w fun e w' => e = .returned (.bool true) ∧ Below w.heap.size w w' := by
  go_enter Try.func6, Try.ntmps6
  go_wp2_with fail
  refine (single_any w).mono ?_
  rintro e w1 ⟨v1, rfl, ⟨aS1, aH1, aF1', aL1, cS1, cH1, cF1, cL1, rfl, R1⟩, b1⟩
  obtain ⟨z1, z2, z3, z4⟩ := es3_small
  have m1 : Mine (w1.alloc (.cells #[.slice aS1 sM3.slots.length cS1, .slice aH1 sM3.heads.length cH1, .slice aF1' sM3.free.length cF1, .slice aL1 sM3.locks.length cL1, .int .i64 sM3.now] 25)) w1.heap.size w.heap.size aS1 aH1 aF1' aL1 cS1 cH1 cF1 cL1 sM3 := Mine.made R1 (by rw [z1]; omega) (by rw [z2]; omega) (by rw [z3]; omega) (by rw [z4]; omega)
  have HM1 : Hid (Mine (w1.alloc (.cells #[.slice aS1 sM3.slots.length cS1, .slice aH1 sM3.heads.length cH1, .slice aF1' sM3.free.length cF1, .slice aL1 sM3.locks.length cL1, .int .i64 sM3.now] 25)) w1.heap.size w.heap.size aS1 aH1 aF1' aL1 cS1 cH1 cF1 cL1 sM3) := m1
  have HW1 : Hid (Below w.heap.size w (w1.alloc (.cells #[.slice aS1 sM3.slots.length cS1, .slice aH1 sM3.heads.length cH1, .slice aF1' sM3.free.length cF1, .slice aL1 sM3.locks.length cL1, .int .i64 sM3.now] 25))) := b1.alloc b1.size _
  have HS1 : Hid (w.heap.size ≤ w1.heap.size) := b1.size
  clear m1 R1 b1 z1 z2 z3 z4
  go_wp2_with fail
  generalize w1.alloc (.cells #[.slice aS1 sM3.slots.length cS1, .slice aH1 sM3.heads.length cH1, .slice aF1' sM3.free.length cF1, .slice aL1 sM3.locks.length cL1, .int .i64 sM3.now] 25) = W1 at *
  generalize w1.heap.size = B at *
  have HF1 : Hid (∀ k, Foot B aS1 aH1 aF1' aL1 k → w.heap.size ≤ k) := by
    rintro k (rfl | ⟨ad, rfl, rfl⟩ | ⟨ad, rfl, rfl⟩ | ⟨ad, rfl, rfl⟩ | ⟨ad, rfl, rfl⟩)
    · exact HS1.out
    · exact (HM1.out.c.s.lt _ rfl).1
    · exact (HM1.out.c.h.lt _ rfl).1
    · exact (HM1.out.c.f.lt _ rfl).1
    · exact (HM1.out.c.l.lt _ rfl).1
  refine (sweep_alone (c := eS) (N := eN1) (g := eF1) W1 40 (by omega) es3_good rfl rfl true e1_ok ⟨_, _, _, _, _, _, _, _, HM1.out, fun _ h => h⟩ (foot_lt HM1.out)).mono ?_
  rintro e w2 ⟨⟨a2, c2, rfl, -⟩, ⟨aS2, aH2, aF2, aL2, cS2, cH2, cF2, cL2, m2, hz2⟩, hf2⟩
  have HW2 : Hid (Below w.heap.size w (w2.alloc (.cells #[.int .i64 eF1.c.kind, .int .i64 eF1.c.a, .int .i64 eF1.c.b, .int .i64 eF1.c.time, .int .i64 eF1.c.bk, .int .i64 eF1.c.slot, .int .i64 eF1.pl, .int .i64 eF1.cur, .int .i64 eF1.prev, .int .i64 eF1.slot, .int .i64 eF1.n, .slice a2 eF1.keys.length c2, .bool eF1.done, .int .i64 eF1.e] 33))) := (HW1.out.trans (hf2.down HW1.out.size HF1.out)).alloc (by have := HW1.out.size; have := hf2.size; omega) _
  have HM2 : Hid (Mine (w2.alloc (.cells #[.int .i64 eF1.c.kind, .int .i64 eF1.c.a, .int .i64 eF1.c.b, .int .i64 eF1.c.time, .int .i64 eF1.c.bk, .int .i64 eF1.c.slot, .int .i64 eF1.pl, .int .i64 eF1.cur, .int .i64 eF1.prev, .int .i64 eF1.slot, .int .i64 eF1.n, .slice a2 eF1.keys.length c2, .bool eF1.done, .int .i64 eF1.e] 33)) B w.heap.size aS2 aH2 aF2 aL2 cS2 cH2 cF2 cL2 eN1) := m2.below (one_below _ _)
  have HF2 : Hid (∀ k, Foot B aS2 aH2 aF2 aL2 k → w.heap.size ≤ k) := fun k h => (hz2 k h).elim (HF1.out k) (fun h' => Nat.le_trans HW1.out.size h')
  have HB2 : Hid ((w2.alloc (.cells #[.int .i64 eF1.c.kind, .int .i64 eF1.c.a, .int .i64 eF1.c.b, .int .i64 eF1.c.time, .int .i64 eF1.c.bk, .int .i64 eF1.c.slot, .int .i64 eF1.pl, .int .i64 eF1.cur, .int .i64 eF1.prev, .int .i64 eF1.slot, .int .i64 eF1.n, .slice a2 eF1.keys.length c2, .bool eF1.done, .int .i64 eF1.e] 33)).heap[w2.heap.size]? = some (.cells #[.int .i64 eF1.c.kind, .int .i64 eF1.c.a, .int .i64 eF1.c.b, .int .i64 eF1.c.time, .int .i64 eF1.c.bk, .int .i64 eF1.c.slot, .int .i64 eF1.pl, .int .i64 eF1.cur, .int .i64 eF1.prev, .int .i64 eF1.slot, .int .i64 eF1.n, .slice a2 eF1.keys.length c2, .bool eF1.done, .int .i64 eF1.e] 33 (0, 0))) := heap_alloc_new _ _
  clear hf2 HM1 HW1 HF1 m2 hz2
  go_wp2_with fail
  generalize w2.alloc (.cells #[.int .i64 eF1.c.kind, .int .i64 eF1.c.a, .int .i64 eF1.c.b, .int .i64 eF1.c.time, .int .i64 eF1.c.bk, .int .i64 eF1.c.slot, .int .i64 eF1.pl, .int .i64 eF1.cur, .int .i64 eF1.prev, .int .i64 eF1.slot, .int .i64 eF1.n, .slice a2 eF1.keys.length c2, .bool eF1.done, .int .i64 eF1.e] 33) = W2 at *
  generalize w2.heap.size = X1 at *
  refine (sweep_alone (c := eL) (N := eN2) (g := eF2) W2 40 (by omega) en1_good rfl rfl true e2_ok ⟨_, _, _, _, _, _, _, _, HM2.out, fun _ h => h⟩ (foot_lt HM2.out)).mono ?_
  rintro e w3 ⟨⟨a3, c3, rfl, ho3⟩, ⟨aS3, aH3, aF3, aL3, cS3, cH3, cF3, cL3, m3, hz3⟩, hf3⟩
  have hB3 := m3.box
  have hx1 : w3.heap[X1]? = some (.cells #[.int .i64 eF1.c.kind, .int .i64 eF1.c.a, .int .i64 eF1.c.b, .int .i64 eF1.c.time, .int .i64 eF1.c.bk, .int .i64 eF1.c.slot, .int .i64 eF1.pl, .int .i64 eF1.cur, .int .i64 eF1.prev, .int .i64 eF1.slot, .int .i64 eF1.n, .slice a2 eF1.keys.length c2, .bool eF1.done, .int .i64 eF1.e] 33 (0, 0)) := (hf3.block X1 (lt_of_block HB2.out) (HM2.out.notFrame HB2.out)).trans HB2.out
  have hne1 : X1 ≠ B := fun e => m3.notFrame hx1 (.inl e)
  have m4 := m3.setNow 5
  have hx2 : (w3.setCell ⟨B, 4, none⟩ (.int .i64 5)).heap[X1]? = some (.cells #[.int .i64 eF1.c.kind, .int .i64 eF1.c.a, .int .i64 eF1.c.b, .int .i64 eF1.c.time, .int .i64 eF1.c.bk, .int .i64 eF1.c.slot, .int .i64 eF1.pl, .int .i64 eF1.cur, .int .i64 eF1.prev, .int .i64 eF1.slot, .int .i64 eF1.n, .slice a2 eF1.keys.length c2, .bool eF1.done, .int .i64 eF1.e] 33 (0, 0)) := by rw [Below.heap_setCell _ _ _ _ (by dsimp only; exact hne1)]; exact hx1
  have ho4 : KOwn (w3.setCell ⟨B, 4, none⟩ (.int .i64 5)) 0 a3 c3 eF2.keys := ho3.same (fun ad e => by rw [Below.heap_setCell _ _ _ _ (by dsimp only; exact fun h => ho3.foot m3 ad e (.inl h))])
  have hbw3 : Below w.heap.size w w3 := HW2.out.trans (hf3.down HW2.out.size HF2.out)
  have hF3 : ∀ k, Foot B aS3 aH3 aF3 aL3 k → w.heap.size ≤ k := fun k h => (hz3 k h).elim (HF2.out k) (fun h' => Nat.le_trans HW2.out.size h')
  have HW3 : Hid (Below w.heap.size w ((w3.setCell ⟨B, 4, none⟩ (.int .i64 5)).alloc (.cells #[.int .i64 eF2.c.kind, .int .i64 eF2.c.a, .int .i64 eF2.c.b, .int .i64 eF2.c.time, .int .i64 eF2.c.bk, .int .i64 eF2.c.slot, .int .i64 eF2.pl, .int .i64 eF2.cur, .int .i64 eF2.prev, .int .i64 eF2.slot, .int .i64 eF2.n, .slice a3 eF2.keys.length c3, .bool eF2.done, .int .i64 eF2.e] 33))) := (hbw3.setCell (by exact hF3 B (.inl rfl)) _).alloc (by have := hbw3.size; simpa using this) _
  have HM3 : Hid (Mine ((w3.setCell ⟨B, 4, none⟩ (.int .i64 5)).alloc (.cells #[.int .i64 eF2.c.kind, .int .i64 eF2.c.a, .int .i64 eF2.c.b, .int .i64 eF2.c.time, .int .i64 eF2.c.bk, .int .i64 eF2.c.slot, .int .i64 eF2.pl, .int .i64 eF2.cur, .int .i64 eF2.prev, .int .i64 eF2.slot, .int .i64 eF2.n, .slice a3 eF2.keys.length c3, .bool eF2.done, .int .i64 eF2.e] 33)) B w.heap.size aS3 aH3 aF3 aL3 cS3 cH3 cF3 cL3 eN3) := m4.below (one_below _ _)
  have HF3 : Hid (∀ k, Foot B aS3 aH3 aF3 aL3 k → w.heap.size ≤ k) := hF3
  have HB3 : Hid (((w3.setCell ⟨B, 4, none⟩ (.int .i64 5)).alloc (.cells #[.int .i64 eF2.c.kind, .int .i64 eF2.c.a, .int .i64 eF2.c.b, .int .i64 eF2.c.time, .int .i64 eF2.c.bk, .int .i64 eF2.c.slot, .int .i64 eF2.pl, .int .i64 eF2.cur, .int .i64 eF2.prev, .int .i64 eF2.slot, .int .i64 eF2.n, .slice a3 eF2.keys.length c3, .bool eF2.done, .int .i64 eF2.e] 33)).heap[X1]? = some (.cells #[.int .i64 eF1.c.kind, .int .i64 eF1.c.a, .int .i64 eF1.c.b, .int .i64 eF1.c.time, .int .i64 eF1.c.bk, .int .i64 eF1.c.slot, .int .i64 eF1.pl, .int .i64 eF1.cur, .int .i64 eF1.prev, .int .i64 eF1.slot, .int .i64 eF1.n, .slice a2 eF1.keys.length c2, .bool eF1.done, .int .i64 eF1.e] 33 (0, 0))) := (Below.heap_alloc _ _ _ (lt_of_block hx2)).trans hx2
  have hc3 : ((w3.setCell ⟨B, 4, none⟩ (.int .i64 5)).alloc (.cells #[.int .i64 eF2.c.kind, .int .i64 eF2.c.a, .int .i64 eF2.c.b, .int .i64 eF2.c.time, .int .i64 eF2.c.bk, .int .i64 eF2.c.slot, .int .i64 eF2.pl, .int .i64 eF2.cur, .int .i64 eF2.prev, .int .i64 eF2.slot, .int .i64 eF2.n, .slice a3 eF2.keys.length c3, .bool eF2.done, .int .i64 eF2.e] 33)).heap[w3.heap.size]? = some (.cells #[.int .i64 eF2.c.kind, .int .i64 eF2.c.a, .int .i64 eF2.c.b, .int .i64 eF2.c.time, .int .i64 eF2.c.bk, .int .i64 eF2.c.slot, .int .i64 eF2.pl, .int .i64 eF2.cur, .int .i64 eF2.prev, .int .i64 eF2.slot, .int .i64 eF2.n, .slice a3 eF2.keys.length c3, .bool eF2.done, .int .i64 eF2.e] 33 (0, 0)) := by
    have := heap_alloc_new (w3.setCell ⟨B, 4, none⟩ (.int .i64 5)) (.cells #[.int .i64 eF2.c.kind, .int .i64 eF2.c.a, .int .i64 eF2.c.b, .int .i64 eF2.c.time, .int .i64 eF2.c.bk, .int .i64 eF2.c.slot, .int .i64 eF2.pl, .int .i64 eF2.cur, .int .i64 eF2.prev, .int .i64 eF2.slot, .int .i64 eF2.n, .slice a3 eF2.keys.length c3, .bool eF2.done, .int .i64 eF2.e] 33)
    rwa [World.size_setCell] at this
  have HC3 : Hid (((w3.setCell ⟨B, 4, none⟩ (.int .i64 5)).alloc (.cells #[.int .i64 eF2.c.kind, .int .i64 eF2.c.a, .int .i64 eF2.c.b, .int .i64 eF2.c.time, .int .i64 eF2.c.bk, .int .i64 eF2.c.slot, .int .i64 eF2.pl, .int .i64 eF2.cur, .int .i64 eF2.prev, .int .i64 eF2.slot, .int .i64 eF2.n, .slice a3 eF2.keys.length c3, .bool eF2.done, .int .i64 eF2.e] 33)).heap[w3.heap.size]? = some (.cells #[.int .i64 eF2.c.kind, .int .i64 eF2.c.a, .int .i64 eF2.c.b, .int .i64 eF2.c.time, .int .i64 eF2.c.bk, .int .i64 eF2.c.slot, .int .i64 eF2.pl, .int .i64 eF2.cur, .int .i64 eF2.prev, .int .i64 eF2.slot, .int .i64 eF2.n, .slice a3 eF2.keys.length c3, .bool eF2.done, .int .i64 eF2.e] 33 (0, 0))) := hc3
  have HK3 : Hid (KOwn ((w3.setCell ⟨B, 4, none⟩ (.int .i64 5)).alloc (.cells #[.int .i64 eF2.c.kind, .int .i64 eF2.c.a, .int .i64 eF2.c.b, .int .i64 eF2.c.time, .int .i64 eF2.c.bk, .int .i64 eF2.c.slot, .int .i64 eF2.pl, .int .i64 eF2.cur, .int .i64 eF2.prev, .int .i64 eF2.slot, .int .i64 eF2.n, .slice a3 eF2.keys.length c3, .bool eF2.done, .int .i64 eF2.e] 33)) 0 a3 c3 eF2.keys) := ho4.below (one_below _ _)
  obtain ⟨q0, q1, q2, q3, q4, -, -, -, -, qf, qs⟩ := boxf hB3
  clear hf3 HM2 HW2 HF2 HB2 m3 hz3 hx1 ho3 hB3 hne1 m4 hx2 ho4 hbw3 hF3 hc3
  go_wp2_with fail
  clear q0 q1 q2 q3 q4 qf qs
  generalize (w3.setCell ⟨B, 4, none⟩ (.int .i64 5)).alloc (.cells #[.int .i64 eF2.c.kind, .int .i64 eF2.c.a, .int .i64 eF2.c.b, .int .i64 eF2.c.time, .int .i64 eF2.c.bk, .int .i64 eF2.c.slot, .int .i64 eF2.pl, .int .i64 eF2.cur, .int .i64 eF2.prev, .int .i64 eF2.slot, .int .i64 eF2.n, .slice a3 eF2.keys.length c3, .bool eF2.done, .int .i64 eF2.e] 33) = W3 at *
  generalize w3.heap.size = X2 at *
  refine (sweep_alone (c := eS) (N := eN4) (g := eF4) W3 40 (by omega) en3_good rfl rfl true e4_ok ⟨_, _, _, _, _, _, _, _, HM3.out, fun _ h => h⟩ (foot_lt HM3.out)).mono ?_
  rintro e w4 ⟨⟨a4, c4, rfl, -⟩, ⟨aS4, aH4, aF4, aL4, cS4, cH4, cF4, cL4, m4, -⟩, hf4⟩
  have hx1 : w4.heap[X1]? = some (.cells #[.int .i64 eF1.c.kind, .int .i64 eF1.c.a, .int .i64 eF1.c.b, .int .i64 eF1.c.time, .int .i64 eF1.c.bk, .int .i64 eF1.c.slot, .int .i64 eF1.pl, .int .i64 eF1.cur, .int .i64 eF1.prev, .int .i64 eF1.slot, .int .i64 eF1.n, .slice a2 eF1.keys.length c2, .bool eF1.done, .int .i64 eF1.e] 33 (0, 0)) := (hf4.block X1 (lt_of_block HB3.out) (HM3.out.notFrame HB3.out)).trans HB3.out
  have hx2 : w4.heap[X2]? = some (.cells #[.int .i64 eF2.c.kind, .int .i64 eF2.c.a, .int .i64 eF2.c.b, .int .i64 eF2.c.time, .int .i64 eF2.c.bk, .int .i64 eF2.c.slot, .int .i64 eF2.pl, .int .i64 eF2.cur, .int .i64 eF2.prev, .int .i64 eF2.slot, .int .i64 eF2.n, .slice a3 eF2.keys.length c3, .bool eF2.done, .int .i64 eF2.e] 33 (0, 0)) := (hf4.block X2 (lt_of_block HC3.out) (HM3.out.notFrame HC3.out)).trans HC3.out
  have hk4 : KOwn w4 0 a3 c3 eF2.keys := HK3.out.fine hf4 (HK3.out.foot HM3.out)
  have HW4 : Hid (Below w.heap.size w (w4.alloc (.cells #[.int .i64 eF4.c.kind, .int .i64 eF4.c.a, .int .i64 eF4.c.b, .int .i64 eF4.c.time, .int .i64 eF4.c.bk, .int .i64 eF4.c.slot, .int .i64 eF4.pl, .int .i64 eF4.cur, .int .i64 eF4.prev, .int .i64 eF4.slot, .int .i64 eF4.n, .slice a4 eF4.keys.length c4, .bool eF4.done, .int .i64 eF4.e] 33))) := (HW3.out.trans (hf4.down HW3.out.size HF3.out)).alloc (by have := HW3.out.size; have := hf4.size; omega) _
  obtain ⟨n1, n2, n3⟩ := e4_mem
  obtain ⟨q0, q1, q2, q3, q4, -, -, -, -, -, qs⟩ := boxf m4.box
  obtain ⟨gL, rfl, -, -, -, -⟩ := row_form m4.c.l (by rw [n2]; omega)
  have hxl := (row_cell m4.c.l (j := 0) (by rw [n2]; omega)).1
  rw [← lockAt_get (by rw [n2]; omega), n3] at hxl
  have bl1 := cell_lt hxl
  rw [n1] at q2
  rw [n2] at q3
  obtain ⟨f0, f1, f2, f3, f4, f5, f6, f7, f8, f9, f10, f11, f12, f13, -, fs⟩ := framef hx1
  obtain ⟨g0, g1, g2, g3, g4, g5, g6, g7, g8, g9, g10, g11, g12, g13, -, gs⟩ := framef hx2
  rw [e1_says] at f10
  have hl2 : eF2.keys.length = 1 := by rw [e2_says]; rfl
  rw [hl2] at g11
  have hn4 : eF4.n = 1 := e4_says
  have HKr : Hid (KRow ((w4.alloc (.cells #[.int .i64 eF4.c.kind, .int .i64 eF4.c.a, .int .i64 eF4.c.b, .int .i64 eF4.c.time, .int .i64 eF4.c.bk, .int .i64 eF4.c.slot, .int .i64 eF4.pl, .int .i64 eF4.cur, .int .i64 eF4.prev, .int .i64 eF4.slot, .int .i64 eF4.n, .slice a4 eF4.keys.length c4, .bool eF4.done, .int .i64 eF4.e] 33)).alloc (.cells #[.int .i64 3, .int .i64 0] 27)) a3 c3 [(3, 0)]) := by
    have := (hk4.row (by rw [hl2]; omega)).below (below_alloc2 w4 (.cells #[.int .i64 eF4.c.kind, .int .i64 eF4.c.a, .int .i64 eF4.c.b, .int .i64 eF4.c.time, .int .i64 eF4.c.bk, .int .i64 eF4.c.slot, .int .i64 eF4.pl, .int .i64 eF4.cur, .int .i64 eF4.prev, .int .i64 eF4.slot, .int .i64 eF4.n, .slice a4 eF4.keys.length c4, .bool eF4.done, .int .i64 eF4.e] 33) (.cells #[.int .i64 3, .int .i64 0] 27))
    rw [e2_says] at this
    exact this
  have HKn : Hid (KRow ((w4.alloc (.cells #[.int .i64 eF4.c.kind, .int .i64 eF4.c.a, .int .i64 eF4.c.b, .int .i64 eF4.c.time, .int .i64 eF4.c.bk, .int .i64 eF4.c.slot, .int .i64 eF4.pl, .int .i64 eF4.cur, .int .i64 eF4.prev, .int .i64 eF4.slot, .int .i64 eF4.n, .slice a4 eF4.keys.length c4, .bool eF4.done, .int .i64 eF4.e] 33)).alloc (.cells #[.int .i64 3, .int .i64 0] 27)) (some ⟨w4.heap.size + 1, 0, none⟩) 1 [(3, 0)]) := key_new (by
    have := heap_alloc_new (w4.alloc (.cells #[.int .i64 eF4.c.kind, .int .i64 eF4.c.a, .int .i64 eF4.c.b, .int .i64 eF4.c.time, .int .i64 eF4.c.bk, .int .i64 eF4.c.slot, .int .i64 eF4.pl, .int .i64 eF4.cur, .int .i64 eF4.prev, .int .i64 eF4.slot, .int .i64 eF4.n, .slice a4 eF4.keys.length c4, .bool eF4.done, .int .i64 eF4.e] 33)) (.cells #[.int .i64 3, .int .i64 0] 27)
    simpa using this)
  have HBl : Hid (Below w4.heap.size w4 ((w4.alloc (.cells #[.int .i64 eF4.c.kind, .int .i64 eF4.c.a, .int .i64 eF4.c.b, .int .i64 eF4.c.time, .int .i64 eF4.c.bk, .int .i64 eF4.c.slot, .int .i64 eF4.pl, .int .i64 eF4.cur, .int .i64 eF4.prev, .int .i64 eF4.slot, .int .i64 eF4.n, .slice a4 eF4.keys.length c4, .bool eF4.done, .int .i64 eF4.e] 33)).alloc (.cells #[.int .i64 3, .int .i64 0] 27))) := below_alloc2 w4 _ _
  have HX4 : Hid (((w4.alloc (.cells #[.int .i64 eF4.c.kind, .int .i64 eF4.c.a, .int .i64 eF4.c.b, .int .i64 eF4.c.time, .int .i64 eF4.c.bk, .int .i64 eF4.c.slot, .int .i64 eF4.pl, .int .i64 eF4.cur, .int .i64 eF4.prev, .int .i64 eF4.slot, .int .i64 eF4.n, .slice a4 eF4.keys.length c4, .bool eF4.done, .int .i64 eF4.e] 33)).alloc (.cells #[.int .i64 3, .int .i64 0] 27)).heap[w4.heap.size]? = some (.cells #[.int .i64 eF4.c.kind, .int .i64 eF4.c.a, .int .i64 eF4.c.b, .int .i64 eF4.c.time, .int .i64 eF4.c.bk, .int .i64 eF4.c.slot, .int .i64 eF4.pl, .int .i64 eF4.cur, .int .i64 eF4.prev, .int .i64 eF4.slot, .int .i64 eF4.n, .slice a4 eF4.keys.length c4, .bool eF4.done, .int .i64 eF4.e] 33 (0, 0))) := (Below.heap_alloc _ _ _ (by simp)).trans (heap_alloc_new _ _)
  have HB4 : Hid (w4.heap[B]? = some (.cells #[.slice aS4 eN4.slots.length cS4, .slice aH4 eN4.heads.length cH4, .slice aF4 eN4.free.length cF4, .slice (some ⟨gL, 0, none⟩) eN4.locks.length cL4, .int .i64 eN4.now] 25 (0, 0))) := m4.box
  have HL4 : Hid (w4.cell? ⟨gL, 0, none⟩ = some (.int .i64 (-1))) := hxl
  clear hf4 HM3 HW3 HF3 HB3 HC3 HK3 m4 hx1 hx2 hk4 f0 f1 f2 f3 f4 f5 f6 f7 f8 f9 f11 f12 f13 g0 g1 g2 g3 g4 g5 g6 g7 g8 g9 g10 g12 g13 hl2 n1 n2 n3
  go_wp2_with fail
  refine (equalK_true a3 (some ⟨w4.heap.size + 1, 0, none⟩) c3 1 [(3, 0)] _ HKr.out HKn.out).mono ?_
  rintro e w6 ⟨rfl, hb6⟩
  have hb46 : Below w4.heap.size w4 w6 := HBl.out.trans (hb6.mono HBl.out.size)
  have HW6 : Hid (Below w.heap.size w w6) := by
    have h1 := HW4.out.alloc (by exact HW4.out.size) (.cells #[.int .i64 3, .int .i64 0] 27)
    exact h1.trans (hb6.mono h1.size)
  have hx4 : w6.heap[w4.heap.size]? = some (.cells #[.int .i64 eF4.c.kind, .int .i64 eF4.c.a, .int .i64 eF4.c.b, .int .i64 eF4.c.time, .int .i64 eF4.c.bk, .int .i64 eF4.c.slot, .int .i64 eF4.pl, .int .i64 eF4.cur, .int .i64 eF4.prev, .int .i64 eF4.slot, .int .i64 eF4.n, .slice a4 eF4.keys.length c4, .bool eF4.done, .int .i64 eF4.e] 33 (0, 0)) := (hb6.block _ (lt_of_block HX4.out)).trans HX4.out
  have hb4 := (hb46.block _ (lt_of_block HB4.out)).trans HB4.out
  obtain ⟨n1, n2, n3⟩ := e4_mem
  clear q0 q1 q2 q3 q4 qs hxl bl1 f10 fs g11 gs
  obtain ⟨q0, q1, q2, q3, q4, -, -, -, -, -, qs⟩ := boxf hb4
  rw [n1] at q2
  rw [n2] at q3
  obtain ⟨f0, f1, f2, f3, f4, f5, f6, f7, f8, f9, f10, f11, f12, f13, -, fs⟩ := framef hx4
  rw [hn4] at f10
  obtain ⟨qq, -⟩ := bcell hb46
  have hxl := (qq _ _ (cell_lt HL4.out)).trans HL4.out
  have bl1 := cell_lt hxl
  go_wp2
  go_ret
  exact ⟨rfl, HW6.out⟩
end Go.Proofs.Ytdbilofhcadmoac.mm

/- What a step of a Sweep or a List leaves of keys; a List's frame. -/
namespace Go.Proofs.Ytdbilofhcadmoac.mm
set_option maxRecDepth 100000
set_option linter.unusedVariables false

theorem sw_keys_few {M : Mm} {f : Fr} (h : Fit M f) : (swF M f).keys.length ≤ 1000 := by
  have := h.keys
  rcases swF_keys M f with e | ⟨-, h1, e⟩
  · rw [e]; omega
  · rw [e]; simp only [List.length_append, List.length_cons, List.length_nil]; omega
def listFr (f : Fr) : Fr := { f with c := { f.c with kind := 5 }, pl := f.pl.tmod 4 }
end Go.Proofs.Ytdbilofhcadmoac.mm
