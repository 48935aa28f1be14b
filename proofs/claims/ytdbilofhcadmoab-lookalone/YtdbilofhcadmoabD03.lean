/- The contracts of the laws' own steps: a Look's step in memory that they have caught. -/
import Derived.Test.YtdbilofhcadmoabD02
import Derived.Test.YtdbilofhcadmoabC31
import Derived.Test.YtdbilofhcadmoabC33
import Derived.Deep.QuietTactic
import Derived.BigQuiet
namespace Go.Proofs.Ytdbilofhcadmoab.mm
open Go.ChangeShapes Go.WideShapes Go.ChangeAt Go.RowKit Go.Joins
set_option maxRecDepth 100000
set_option linter.unusedVariables false

def LkG (M : Mm) (f : Fr) : Prop := Ok M ∧ Fit M f ∧ f.keys = []
theorem lkG_next {M : Mm} {f : Fr} (h : LkG M f) (hd : (lkF M f).done = false) : LkG (lkM M f) (lkF M f) :=
  ⟨lkM_ok h.1, lkF_fit h.1 h.2.1 hd, by rw [lkF_keys]; exact h.2.2⟩
theorem krow_any (w : World) {a : Option Addr} {c : Nat} {l : List (Int × Int)} (hl : l = []) (hn : a = none → c = 0) : KRow w a c l := by
  subst hl
  exact ⟨Nat.zero_le _, by simp, hn, .inl rfl⟩

set_option maxHeartbeats 1600000 in
theorem clos64 (M : Mm) (f : Fr) (B lo : Nat) (Z : Nat → Prop) (w : World) (hG : LkG M f) (h : Has w B lo Z M) :
    Calls Try.prog 88 #[.agg #[.int .i64 f.c.kind, .int .i64 f.c.a, .int .i64 f.c.b, .int .i64 f.c.time, .int .i64 f.c.bk, .int .i64 f.c.slot, .int .i64 f.pl, .int .i64 f.cur, .int .i64 f.prev, .int .i64 f.slot, .int .i64 f.n, .slice none f.keys.length 0, .bool f.done, .int .i64 f.e], .pointer (some ⟨B, 0, none⟩)] w fun e w' => (∃ a c, e = .returned (.agg #[.int .i64 (lkF M f).c.kind, .int .i64 (lkF M f).c.a, .int .i64 (lkF M f).c.b, .int .i64 (lkF M f).c.time, .int .i64 (lkF M f).c.bk, .int .i64 (lkF M f).c.slot, .int .i64 (lkF M f).pl, .int .i64 (lkF M f).cur, .int .i64 (lkF M f).prev, .int .i64 (lkF M f).slot, .int .i64 (lkF M f).n, .slice a (lkF M f).keys.length c, .bool (lkF M f).done, .int .i64 (lkF M f).e]) ∧ ((lkF M f).done = false → a = none ∧ c = 0)) ∧ Has w' B lo (Up w Z) (lkM M f) ∧ Fine w w' Z := by
  obtain ⟨aS, aH, aF, aL, cS, cH, cF, cL, m, hz⟩ := h
  have HZ : Hid (∀ k, Foot B aS aH aF aL k → Z k) := hz
  have HKy : Hid ((lkF M f).keys = []) := (lkF_keys M f).trans hG.2.2
  have HSt : Hid (∀ W : World, Mine W B lo aS aH aF aL cS cH cF cL M → Calls Try.prog 36 #[.pointer (some ⟨B, 0, none⟩), .agg #[.int .i64 f.c.kind, .int .i64 f.c.a, .int .i64 f.c.b, .int .i64 f.c.time, .int .i64 f.c.bk, .int .i64 f.c.slot, .int .i64 f.pl, .int .i64 f.cur, .int .i64 f.prev, .int .i64 f.slot, .int .i64 f.n, .slice none f.keys.length 0, .bool f.done, .int .i64 f.e]] W fun e w' => Ret W w' e (lkF M f) none 0 ∧ Has w' B lo (Up W (Foot B aS aH aF aL)) (lkM M f) ∧ Fine W w' (Foot B aS aH aF aL)) := fun W m' => step_mine M f B lo aS aH aF aL cS cH cF cL none 0 W m' hG.1 hG.2.1 (krow_any W hG.2.2 (fun _ => rfl)) (fun ad h => by cases h)
  generalize lkF M f = g at *
  generalize lkM M f = M' at *
  obtain ⟨of, hof⟩ : ∃ o : Obj, o = .cells #[.int .i64 f.c.kind, .int .i64 f.c.a, .int .i64 f.c.b, .int .i64 f.c.time, .int .i64 f.c.bk, .int .i64 f.c.slot, .int .i64 f.pl, .int .i64 f.cur, .int .i64 f.prev, .int .i64 f.slot, .int .i64 f.n, .slice none f.keys.length 0, .bool f.done, .int .i64 f.e] 51 := ⟨_, rfl⟩
  obtain ⟨oz, hoz⟩ : ∃ o : Obj, o = zeroFr := ⟨_, rfl⟩
  have HE : Hid (Lk w ((w.alloc of).alloc oz) B lo aS aH aF aL cS cH cF cL M f none 0) := Lk.first m f none 0 hof hoz
  obtain ⟨q0, q1, q2, q3, q4, -, -, -, -, -, qs⟩ := boxf HE.out.m.box
  obtain ⟨f0, f1, f2, f3, f4, f5, f6, f7, f8, f9, f10, f11, f12, f13, ff, fs⟩ := framef HE.out.fb
  unfold zeroFr at hoz
  clear m hG hz
  go_enter Try.func88, Try.ntmps88
  go_wp2_with fail
  rw [← hof, ← hoz]
  generalize (w.alloc of).alloc oz = W0 at *
  subst hof hoz
  clear q0 q1 q2 q3 q4 qs f0 f1 f2 f3 f4 f5 f6 f7 f8 f9 f10 f11 f12 f13 ff fs
  refine (HSt.out W0 HE.out.m).mono ?_
  rintro e w2 ⟨⟨a2, c2, rfl, -, -, hd2⟩, hh2, hf2⟩
  have HD2 : Hid (g.done = false → a2 = none ∧ c2 = 0) := hd2
  have HE2 : Hid (Lk2 w w2 (Foot B aS aH aF aL) B lo M' f none 0) := HE.out.after hh2 hf2
  clear HE hh2 hf2 hd2
  obtain ⟨g0, g1, g2, g3, g4, g5, g6, g7, g8, g9, g10, g11, g12, g13, gf, gs⟩ := framef HE2.out.zb
  go_wp2
  refine bodyPost_ret (v := .agg #[.int .i64 g.c.kind, .int .i64 g.c.a, .int .i64 g.c.b, .int .i64 g.c.time, .int .i64 g.c.bk, .int .i64 g.c.slot, .int .i64 g.pl, .int .i64 g.cur, .int .i64 g.prev, .int .i64 g.slot, .int .i64 g.n, .slice a2 g.keys.length c2, .bool g.done, .int .i64 g.e]) (by simp [results, Try.results88, go_sem, g0, g1, g2, g3, g4, g5, g6, g7, g8, g9, g10, g11, g12, g13]) rfl ⟨⟨a2, c2, rfl, HD2.out⟩, HE2.out.end14.1.mono (fun k _ h => h.imp (HZ.out k) id), HE2.out.end14.2.mono HZ.out⟩

set_option maxHeartbeats 1600000 in
theorem clos37 (M : Mm) (f : Fr) (B lo : Nat) (Z : Nat → Prop) (w : World) (hG : LkG M f) (h : Has w B lo Z M) :
    Calls Try.prog 43 #[.agg #[.int .i64 f.c.kind, .int .i64 f.c.a, .int .i64 f.c.b, .int .i64 f.c.time, .int .i64 f.c.bk, .int .i64 f.c.slot, .int .i64 f.pl, .int .i64 f.cur, .int .i64 f.prev, .int .i64 f.slot, .int .i64 f.n, .slice none f.keys.length 0, .bool f.done, .int .i64 f.e], .pointer (some ⟨B, 0, none⟩)] w fun e w' => (∃ a c, e = .returned (.agg #[.int .i64 (lkF M f).c.kind, .int .i64 (lkF M f).c.a, .int .i64 (lkF M f).c.b, .int .i64 (lkF M f).c.time, .int .i64 (lkF M f).c.bk, .int .i64 (lkF M f).c.slot, .int .i64 (lkF M f).pl, .int .i64 (lkF M f).cur, .int .i64 (lkF M f).prev, .int .i64 (lkF M f).slot, .int .i64 (lkF M f).n, .slice a (lkF M f).keys.length c, .bool (lkF M f).done, .int .i64 (lkF M f).e]) ∧ ((lkF M f).done = false → a = none ∧ c = 0)) ∧ Has w' B lo (Up w Z) (lkM M f) ∧ Fine w w' Z := by
  obtain ⟨aS, aH, aF, aL, cS, cH, cF, cL, m, hz⟩ := h
  have HZ : Hid (∀ k, Foot B aS aH aF aL k → Z k) := hz
  have HKy : Hid ((lkF M f).keys = []) := (lkF_keys M f).trans hG.2.2
  have HSt : Hid (∀ W : World, Mine W B lo aS aH aF aL cS cH cF cL M → Calls Try.prog 36 #[.pointer (some ⟨B, 0, none⟩), .agg #[.int .i64 f.c.kind, .int .i64 f.c.a, .int .i64 f.c.b, .int .i64 f.c.time, .int .i64 f.c.bk, .int .i64 f.c.slot, .int .i64 f.pl, .int .i64 f.cur, .int .i64 f.prev, .int .i64 f.slot, .int .i64 f.n, .slice none f.keys.length 0, .bool f.done, .int .i64 f.e]] W fun e w' => Ret W w' e (lkF M f) none 0 ∧ Has w' B lo (Up W (Foot B aS aH aF aL)) (lkM M f) ∧ Fine W w' (Foot B aS aH aF aL)) := fun W m' => step_mine M f B lo aS aH aF aL cS cH cF cL none 0 W m' hG.1 hG.2.1 (krow_any W hG.2.2 (fun _ => rfl)) (fun ad h => by cases h)
  generalize lkF M f = g at *
  generalize lkM M f = M' at *
  obtain ⟨of, hof⟩ : ∃ o : Obj, o = .cells #[.int .i64 f.c.kind, .int .i64 f.c.a, .int .i64 f.c.b, .int .i64 f.c.time, .int .i64 f.c.bk, .int .i64 f.c.slot, .int .i64 f.pl, .int .i64 f.cur, .int .i64 f.prev, .int .i64 f.slot, .int .i64 f.n, .slice none f.keys.length 0, .bool f.done, .int .i64 f.e] 51 := ⟨_, rfl⟩
  obtain ⟨oz, hoz⟩ : ∃ o : Obj, o = zeroFr := ⟨_, rfl⟩
  have HE : Hid (Lk w ((w.alloc of).alloc oz) B lo aS aH aF aL cS cH cF cL M f none 0) := Lk.first m f none 0 hof hoz
  obtain ⟨q0, q1, q2, q3, q4, -, -, -, -, -, qs⟩ := boxf HE.out.m.box
  obtain ⟨f0, f1, f2, f3, f4, f5, f6, f7, f8, f9, f10, f11, f12, f13, ff, fs⟩ := framef HE.out.fb
  unfold zeroFr at hoz
  clear m hG hz
  go_enter Try.func43, Try.ntmps43
  go_wp2_with fail
  rw [← hof, ← hoz]
  generalize (w.alloc of).alloc oz = W0 at *
  subst hof hoz
  clear q0 q1 q2 q3 q4 qs f0 f1 f2 f3 f4 f5 f6 f7 f8 f9 f10 f11 f12 f13 ff fs
  refine (HSt.out W0 HE.out.m).mono ?_
  rintro e w2 ⟨⟨a2, c2, rfl, -, -, hd2⟩, hh2, hf2⟩
  have HD2 : Hid (g.done = false → a2 = none ∧ c2 = 0) := hd2
  have HE2 : Hid (Lk2 w w2 (Foot B aS aH aF aL) B lo M' f none 0) := HE.out.after hh2 hf2
  clear HE hh2 hf2 hd2
  obtain ⟨g0, g1, g2, g3, g4, g5, g6, g7, g8, g9, g10, g11, g12, g13, gf, gs⟩ := framef HE2.out.zb
  go_wp2
  refine bodyPost_ret (v := .agg #[.int .i64 g.c.kind, .int .i64 g.c.a, .int .i64 g.c.b, .int .i64 g.c.time, .int .i64 g.c.bk, .int .i64 g.c.slot, .int .i64 g.pl, .int .i64 g.cur, .int .i64 g.prev, .int .i64 g.slot, .int .i64 g.n, .slice a2 g.keys.length c2, .bool g.done, .int .i64 g.e]) (by simp [results, Try.results43, go_sem, g0, g1, g2, g3, g4, g5, g6, g7, g8, g9, g10, g11, g12, g13]) rfl ⟨⟨a2, c2, rfl, HD2.out⟩, HE2.out.end14.1.mono (fun k _ h => h.imp (HZ.out k) id), HE2.out.end14.2.mono HZ.out⟩


end Go.Proofs.Ytdbilofhcadmoab.mm

/- The closed fact of the statements on Looks: it is found, another one isn't. -/
namespace Go.Proofs.Ytdbilofhcadmoab.mm
open Go.ChangeShapes Go.WideShapes Go.ChangeAt Go.RowKit Go.Joins Go.Deep
set_option maxRecDepth 100000
set_option linter.unusedVariables false

def lC1 : Cl := ⟨1, 3, 0, 0, 0, 0⟩
def lC2 : Cl := ⟨1, 4, 0, 0, 0, 0⟩
def lN1 : Mm := (lkRun 40 sM3 (newF lC1)).1
def lF1 : Fr := (lkRun 40 sM3 (newF lC1)).2.1
def lN2 : Mm := (lkRun 40 lN1 (newF lC2)).1
def lF2 : Fr := (lkRun 40 lN1 (newF lC2)).2.1
theorem l1_ok : (lkRun 40 sM3 (newF lC1)).2.2 = true := by decide
theorem l2_ok : (lkRun 40 lN1 (newF lC2)).2.2 = true := by decide
theorem l1_says : lF1.e = 0 ∧ lF1.slot = 0 := by decide
theorem l2_says : lF2.e = 5 := by decide
theorem l2_refs : lN2.slots.length = 2 ∧ refsM lN2 0 = 2 := by decide
theorem s3_good : LkG sM3 (newF lC1) := ⟨(chk_zero _).1 (by decide), fit_iff.1 (by decide), rfl⟩
theorem n1_good : LkG lN1 (newF lC2) := ⟨(chk_zero _).1 (by decide), fit_iff.1 (by decide), rfl⟩
theorem s3_small : sM3.slots.length = 2 ∧ sM3.heads.length = 1 ∧ sM3.free.length = 1 ∧ sM3.locks.length = 1 := by decide

theorem look_alone {B lo : Nat} {Z : Nat → Prop} {M N : Mm} {c : Cl} {g : Fr} (w : World) (n : Nat) (hn : n ≤ 1000) (hG : LkG M (newF c)) (h1 : (lkRun n M (newF c)).1 = N) (h2 : (lkRun n M (newF c)).2.1 = g) (ok : Bool) (h3 : (lkRun n M (newF c)).2.2 = ok) (hM : Has w B lo Z M) (hZ : ∀ k, Z k → k < w.heap.size) :
    Calls Try.prog 42 #[.agg #[.int .i64 c.kind, .int .i64 c.a, .int .i64 c.b, .int .i64 c.time, .int .i64 c.bk, .int .i64 c.slot], .int .i64 n, .func (.func 88) #[] #[.pointer (some ⟨B, 0, none⟩)]] w fun e w' =>
      (∃ a c', e = .returned (.tuple #[.agg #[.int .i64 g.c.kind, .int .i64 g.c.a, .int .i64 g.c.b, .int .i64 g.c.time, .int .i64 g.c.bk, .int .i64 g.c.slot, .int .i64 g.pl, .int .i64 g.cur, .int .i64 g.prev, .int .i64 g.slot, .int .i64 g.n, .slice a g.keys.length c', .bool g.done, .int .i64 g.e], .bool ok])) ∧ Has w' B lo (Up w Z) N ∧ Fine w w' Z := by
  subst h1 h2 h3
  rw [← run_look]
  exact alone_any 88 #[.pointer (some ⟨B, 0, none⟩)] lkF lkM LkG B lo Z M c n w (fun args W => by kernel_rfl) (fun M f W Z h h' => clos64 M f B lo Z W h h') (fun M f h hd => lkG_next h hd) hM hZ hG hn

set_option maxHeartbeats 6400000 in
theorem looked_any (w : World) : Calls Try.prog 33 #[] w fun e w' => e = .returned (.bool true) ∧ Below w.heap.size w w' := by
  go_enter Try.func33, Try.ntmps33
  go_wp2_with fail
  refine (single_any w).mono ?_
  rintro e w1 ⟨v1, rfl, ⟨aS1, aH1, aF1, aL1, cS1, cH1, cF1, cL1, rfl, R1⟩, b1⟩
  obtain ⟨z1, z2, z3, z4⟩ := s3_small
  have m1 : Mine (w1.alloc (.cells #[.slice aS1 sM3.slots.length cS1, .slice aH1 sM3.heads.length cH1, .slice aF1 sM3.free.length cF1, .slice aL1 sM3.locks.length cL1, .int .i64 sM3.now] 25)) w1.heap.size w.heap.size aS1 aH1 aF1 aL1 cS1 cH1 cF1 cL1 sM3 := Mine.made R1 (by omega) (by omega) (by omega) (by omega)
  have HM1 : Hid _ := m1
  have HW1 : Hid (Below w.heap.size w (w1.alloc (.cells #[.slice aS1 sM3.slots.length cS1, .slice aH1 sM3.heads.length cH1, .slice aF1 sM3.free.length cF1, .slice aL1 sM3.locks.length cL1, .int .i64 sM3.now] 25))) := b1.alloc b1.size _
  have HS1 : Hid (w.heap.size ≤ w1.heap.size) := b1.size
  clear m1 R1 b1 z1 z2 z3 z4
  go_wp2_with fail
  generalize w1.alloc (.cells #[.slice aS1 sM3.slots.length cS1, .slice aH1 sM3.heads.length cH1, .slice aF1 sM3.free.length cF1, .slice aL1 sM3.locks.length cL1, .int .i64 sM3.now] 25) = W1 at *
  generalize w1.heap.size = B at *
  have HFt : Hid (∀ k, Foot B aS1 aH1 aF1 aL1 k → w.heap.size ≤ k) := by
    rintro k (rfl | ⟨ad, rfl, rfl⟩ | ⟨ad, rfl, rfl⟩ | ⟨ad, rfl, rfl⟩ | ⟨ad, rfl, rfl⟩)
    · exact HS1.out
    · exact (HM1.out.c.s.lt _ rfl).1
    · exact (HM1.out.c.h.lt _ rfl).1
    · exact (HM1.out.c.f.lt _ rfl).1
    · exact (HM1.out.c.l.lt _ rfl).1
  refine (look_alone (c := lC1) (N := lN1) (g := lF1) W1 40 (by omega) s3_good rfl rfl true l1_ok ⟨_, _, _, _, _, _, _, _, HM1.out, fun _ h => h⟩ (foot_lt HM1.out)).mono ?_
  rintro e w2 ⟨⟨a2, c2, rfl⟩, hh2, hf2⟩
  have HW2 : Hid (Below w.heap.size w (w2.alloc (.cells #[.int .i64 lF1.c.kind, .int .i64 lF1.c.a, .int .i64 lF1.c.b, .int .i64 lF1.c.time, .int .i64 lF1.c.bk, .int .i64 lF1.c.slot, .int .i64 lF1.pl, .int .i64 lF1.cur, .int .i64 lF1.prev, .int .i64 lF1.slot, .int .i64 lF1.n, .slice a2 lF1.keys.length c2, .bool lF1.done, .int .i64 lF1.e] 51))) := (HW1.out.trans (hf2.down HW1.out.size HFt.out)).alloc (by have := HW1.out.size; have := hf2.size; omega) _
  have HH2 : Hid (Has (w2.alloc (.cells #[.int .i64 lF1.c.kind, .int .i64 lF1.c.a, .int .i64 lF1.c.b, .int .i64 lF1.c.time, .int .i64 lF1.c.bk, .int .i64 lF1.c.slot, .int .i64 lF1.pl, .int .i64 lF1.cur, .int .i64 lF1.prev, .int .i64 lF1.slot, .int .i64 lF1.n, .slice a2 lF1.keys.length c2, .bool lF1.done, .int .i64 lF1.e] 51)) B w.heap.size (fun k => w.heap.size ≤ k ∧ k < w2.heap.size) lN1) := (hh2.low.mono (fun k h1 h2 => ⟨h2.elim (fun h => h ▸ HS1.out) id, h1⟩)).below (one_below _ _)
  have HB2 : Hid ((w2.alloc (.cells #[.int .i64 lF1.c.kind, .int .i64 lF1.c.a, .int .i64 lF1.c.b, .int .i64 lF1.c.time, .int .i64 lF1.c.bk, .int .i64 lF1.c.slot, .int .i64 lF1.pl, .int .i64 lF1.cur, .int .i64 lF1.prev, .int .i64 lF1.slot, .int .i64 lF1.n, .slice a2 lF1.keys.length c2, .bool lF1.done, .int .i64 lF1.e] 51)).heap[w2.heap.size]? = some (.cells #[.int .i64 lF1.c.kind, .int .i64 lF1.c.a, .int .i64 lF1.c.b, .int .i64 lF1.c.time, .int .i64 lF1.c.bk, .int .i64 lF1.c.slot, .int .i64 lF1.pl, .int .i64 lF1.cur, .int .i64 lF1.prev, .int .i64 lF1.slot, .int .i64 lF1.n, .slice a2 lF1.keys.length c2, .bool lF1.done, .int .i64 lF1.e] 51 (0, 0))) := heap_alloc_new _ _
  clear hh2 hf2 HM1 HW1 HFt
  go_wp2_with fail
  generalize w2.alloc (.cells #[.int .i64 lF1.c.kind, .int .i64 lF1.c.a, .int .i64 lF1.c.b, .int .i64 lF1.c.time, .int .i64 lF1.c.bk, .int .i64 lF1.c.slot, .int .i64 lF1.pl, .int .i64 lF1.cur, .int .i64 lF1.prev, .int .i64 lF1.slot, .int .i64 lF1.n, .slice a2 lF1.keys.length c2, .bool lF1.done, .int .i64 lF1.e] 51) = W2 at *
  generalize w2.heap.size = X at *
  refine (look_alone (c := lC2) (N := lN2) (g := lF2) W2 40 (by omega) n1_good rfl rfl true l2_ok HH2.out (fun k h => Nat.lt_trans h.2 (lt_of_block HB2.out))).mono ?_
  rintro e w3 ⟨⟨a3, c3, rfl⟩, hh3, hf3⟩
  have HW3 : Hid (Below w.heap.size w (w3.alloc (.cells #[.int .i64 lF2.c.kind, .int .i64 lF2.c.a, .int .i64 lF2.c.b, .int .i64 lF2.c.time, .int .i64 lF2.c.bk, .int .i64 lF2.c.slot, .int .i64 lF2.pl, .int .i64 lF2.cur, .int .i64 lF2.prev, .int .i64 lF2.slot, .int .i64 lF2.n, .slice a3 lF2.keys.length c3, .bool lF2.done, .int .i64 lF2.e] 51))) := (HW2.out.trans (hf3.down HW2.out.size (fun k h => h.1))).alloc (by have := HW2.out.size; have := hf3.size; omega) _
  obtain ⟨aS, aH, aF, aL, cS, cH, cF, cL, m, hft⟩ := hh3
  have HB3 : Hid (w3.heap[X]? = some (.cells #[.int .i64 lF1.c.kind, .int .i64 lF1.c.a, .int .i64 lF1.c.b, .int .i64 lF1.c.time, .int .i64 lF1.c.bk, .int .i64 lF1.c.slot, .int .i64 lF1.pl, .int .i64 lF1.cur, .int .i64 lF1.prev, .int .i64 lF1.slot, .int .i64 lF1.n, .slice a2 lF1.keys.length c2, .bool lF1.done, .int .i64 lF1.e] 51 (0, 0))) := (hf3.block X (lt_of_block HB2.out) (fun h => by have := h.2; omega)).trans HB2.out
  clear hf3 hft HH2 HB2 HW2
  obtain ⟨gS, rfl, -, xs, -, -⟩ := row_form m.c.s (by rw [l2_refs.1]; omega)
  have x0 := (row_cells m.c.s (j := 0) (by rw [l2_refs.1]; omega)).1
  have hrf : lN2.slots[0]'(by rw [l2_refs.1]; omega) = lN2.slots.getD 0 sl0 := by rw [getD_lt _ _ (by rw [l2_refs.1]; omega)]
  rw [hrf, show (lN2.slots.getD 0 sl0).refs = 2 from l2_refs.2, Nat.zero_mul] at x0
  obtain ⟨q0, q1, q2, q3, q4, -, -, -, -, -, qs⟩ := boxf m.box
  rw [l2_refs.1] at q0
  obtain ⟨f0, f1, f2, f3, f4, f5, f6, f7, f8, f9, f10, f11, f12, f13, -, fs⟩ := framef HB3.out
  rw [l1_says.2] at f9
  rw [l1_says.1] at f13
  have hge : lF2.e = 5 := l2_says
  generalize lF2 = g at *
  clear hrf HB3 m
  go_wp2
  go_ret
  refine ⟨rfl, ?_⟩
  rw [hge] at HW3
  exact HW3.out


end Go.Proofs.Ytdbilofhcadmoab.mm
