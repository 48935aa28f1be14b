/- The contracts of look's parts let, stray and over. -/
import Derived.Test.YtdbilofhcadmoabC20
import Derived.Deep.QuietTactic
import Derived.BigQuiet
import Derived.Lib.QuietBelow
namespace Go.Proofs.Ytdbilofhcadmoab.mm
open Go.ChangeShapes Go.WideShapes Go.ChangeAt Go.RowKit Go.Joins Go.Deep Go.Sort
set_option maxRecDepth 100000
set_option linter.unusedVariables false

def letF (M : Mm) (f : Fr) : Fr := if isSl M f.slot then { f with slot := -1 } else f

set_option maxHeartbeats 3200000 in
theorem let_part (M : Mm) (f : Fr) (B lo : Nat) (aS aH aF aL : Option Addr) (cS cH cF cL : Nat) (aK : Option Addr) (cK : Nat) (w : World)
    (m : Mine w B lo aS aH aF aL cS cH cF cL M) (hM : Ok M) :
    Calls Try.prog 151 #[.pointer (some ⟨B, 0, none⟩), .agg #[.int .i64 f.c.kind, .int .i64 f.c.a, .int .i64 f.c.b, .int .i64 f.c.time, .int .i64 f.c.bk, .int .i64 f.c.slot, .int .i64 f.pl, .int .i64 f.cur, .int .i64 f.prev, .int .i64 f.slot, .int .i64 f.n, .slice aK f.keys.length cK, .bool f.done, .int .i64 f.e]] w fun e w' => e = .returned (.tuple #[.agg #[.int .i64 (letF M f).c.kind, .int .i64 (letF M f).c.a, .int .i64 (letF M f).c.b, .int .i64 (letF M f).c.time, .int .i64 (letF M f).c.bk, .int .i64 (letF M f).c.slot, .int .i64 (letF M f).pl, .int .i64 (letF M f).cur, .int .i64 (letF M f).prev, .int .i64 (letF M f).slot, .int .i64 (letF M f).n, .slice aK (letF M f).keys.length cK, .bool (letF M f).done, .int .i64 (letF M f).e], .bool (isSl M f.slot)]) ∧ Has w' B lo (Up w (Foot B aS aH aF aL)) (lkLetM M f) ∧ Fine w w' (Foot B aS aH aF aL) := by
  have hns := hM.ns
  have HHs : Hid (∀ W : World, Calls Try.prog 78 #[.agg #[.slice aS M.slots.length cS, .slice aH M.heads.length cH, .slice aF M.free.length cF, .slice aL M.locks.length cL, .int .i64 M.now], .int .i64 f.slot] W fun e w' => e = .returned (.bool (isSl M f.slot)) ∧ Below W.heap.size W w') := fun W => isSlot_any aS aH aF aL _ _ _ _ cS cH cF cL M.now f.slot W (by omega)
  cases hsl : isSl M f.slot
  · have hres : letF M f = f := by unfold letF; rw [hsl]; rfl
    have hresM : lkLetM M f = M := by unfold lkLetM; rw [hsl]; rfl
    rw [hres, hresM]
    rw [hsl] at HHs
    obtain ⟨of, hof⟩ : ∃ o : Obj, o = .cells #[.int .i64 f.c.kind, .int .i64 f.c.a, .int .i64 f.c.b, .int .i64 f.c.time, .int .i64 f.c.bk, .int .i64 f.c.slot, .int .i64 f.pl, .int .i64 f.cur, .int .i64 f.prev, .int .i64 f.slot, .int .i64 f.n, .slice aK f.keys.length cK, .bool f.done, .int .i64 f.e] 51 := ⟨_, rfl⟩
    obtain ⟨oz, hoz⟩ : ∃ o : Obj, o = zeroFr := ⟨_, rfl⟩
    have HE : Hid (Lk w ((w.alloc of).alloc oz) B lo aS aH aF aL cS cH cF cL M f aK cK) := Lk.first m f aK cK hof hoz
    obtain ⟨q0, q1, q2, q3, q4, -, -, -, -, -, qs⟩ := boxf HE.out.m.box
    obtain ⟨f0, f1, f2, f3, f4, f5, f6, f7, f8, f9, f10, f11, f12, f13, ff, fs⟩ := framef HE.out.fb
    unfold zeroFr at hoz
    clear m hres hresM hsl hns hM
    go_enter Try.func151, Try.ntmps151
    go_wp2_with fail
    rw [← hof, ← hoz]
    generalize (w.alloc of).alloc oz = W0 at *
    subst hof hoz
    have cB : ∀ (d : Nat) (os : Array Obj), Calls Try.prog 78 #[.agg #[.slice aS M.slots.length cS, .slice aH M.heads.length cH, .slice aF M.free.length cF, .slice aL M.locks.length cL, .int .i64 M.now], .int .i64 f.slot] (grow (redrawn W0 d) os) fun e w'' => e = .returned (.bool false) ∧ ∃ p : Regrown, w'' = grow (redrawn W0 p.d) p.os := fun d os => Calls.regrown_of (HHs.out _)
    have Q0 := cell_regrown q0; have Q1 := cell_regrown q1; have Q2 := cell_regrown q2; have Q3 := cell_regrown q3; have Q4 := cell_regrown q4
    have F9 := cell_regrown f9
    clear q0 q1 q2 q3 q4 qs f0 f1 f2 f3 f4 f5 f6 f7 f8 f9 f10 f11 f12 f13 ff fs
    refine wp_region_quiet_below (by kernel_rfl) (by kernel_rfl) ?_
    repeat (quiet_step (first | exact cB _ _))
    refine wpQuiet_nil ?_
    intro _ hw'
    obtain ⟨⟨dq, osq⟩, hw''⟩ := hw'
    subst hw''
    have HB1 : Hid _ := below_regrown W0 dq osq
    generalize grow (redrawn W0 dq) osq = w1 at *
    clear cB Q0 Q1 Q2 Q3 Q4 F9
    have HE1 : Hid (Lk w w1 B lo aS aH aF aL cS cH cF cL M f aK cK) := HE.out.below HB1.out
    clear HB1 HE
    obtain ⟨q0, q1, q2, q3, q4, -, -, -, -, -, qs⟩ := boxf HE1.out.m.box
    obtain ⟨f0, f1, f2, f3, f4, f5, f6, f7, f8, f9, f10, f11, f12, f13, ff, fs⟩ := framef HE1.out.fb
    obtain ⟨g0, g1, g2, g3, g4, g5, g6, g7, g8, g9, g10, g11, g12, g13, gf, gs⟩ := framef HE1.out.zb
    go_wp2
    refine bodyPost_ret (v := .tuple #[.agg #[.int .i64 f.c.kind, .int .i64 f.c.a, .int .i64 f.c.b, .int .i64 f.c.time, .int .i64 f.c.bk, .int .i64 f.c.slot, .int .i64 f.pl, .int .i64 f.cur, .int .i64 f.prev, .int .i64 f.slot, .int .i64 f.n, .slice aK f.keys.length cK, .bool f.done, .int .i64 f.e], .bool false]) (by simp [results, Try.results151, go_sem, g0, g1, g2, g3, g4, g5, g6, g7, g8, g9, g10, g11, g12, g13]) rfl ⟨rfl, HE1.out.end14⟩
  · have hres : letF M f = { f with slot := -1 } := by unfold letF; rw [hsl]; rfl
    have hresM : lkLetM M f = putN M f.slot := by unfold lkLetM; rw [hsl]; rfl
    rw [hres, hresM]
    have HPt : Hid (∀ (W : World) (Z : Nat → Prop), Has W B lo Z M → Calls Try.prog 107 #[.pointer (some ⟨B, 0, none⟩), .int .i64 f.slot] W fun e w' => e = .returned (.bool (decide (refsM M f.slot ≠ 0))) ∧ Has w' B lo (Up W Z) (putN M f.slot) ∧ Fine W w' Z) := fun W Z h => put_fine h hM hsl
    generalize putN M f.slot = M' at *
    generalize decide (refsM M f.slot ≠ 0) = pr at *
    rw [hsl] at HHs
    obtain ⟨of, hof⟩ : ∃ o : Obj, o = .cells #[.int .i64 f.c.kind, .int .i64 f.c.a, .int .i64 f.c.b, .int .i64 f.c.time, .int .i64 f.c.bk, .int .i64 f.c.slot, .int .i64 f.pl, .int .i64 f.cur, .int .i64 f.prev, .int .i64 f.slot, .int .i64 f.n, .slice aK f.keys.length cK, .bool f.done, .int .i64 f.e] 51 := ⟨_, rfl⟩
    obtain ⟨oz, hoz⟩ : ∃ o : Obj, o = zeroFr := ⟨_, rfl⟩
    have HE : Hid (Lk w ((w.alloc of).alloc oz) B lo aS aH aF aL cS cH cF cL M f aK cK) := Lk.first m f aK cK hof hoz
    obtain ⟨q0, q1, q2, q3, q4, -, -, -, -, -, qs⟩ := boxf HE.out.m.box
    obtain ⟨f0, f1, f2, f3, f4, f5, f6, f7, f8, f9, f10, f11, f12, f13, ff, fs⟩ := framef HE.out.fb
    unfold zeroFr at hoz
    clear m hres hresM hsl hns hM
    go_enter Try.func151, Try.ntmps151
    go_wp2_with fail
    rw [← hof, ← hoz]
    generalize (w.alloc of).alloc oz = W0 at *
    subst hof hoz
    have cB : ∀ (d : Nat) (os : Array Obj), Calls Try.prog 78 #[.agg #[.slice aS M.slots.length cS, .slice aH M.heads.length cH, .slice aF M.free.length cF, .slice aL M.locks.length cL, .int .i64 M.now], .int .i64 f.slot] (grow (redrawn W0 d) os) fun e w'' => e = .returned (.bool true) ∧ ∃ p : Regrown, w'' = grow (redrawn W0 p.d) p.os := fun d os => Calls.regrown_of (HHs.out _)
    have Q0 := cell_regrown q0; have Q1 := cell_regrown q1; have Q2 := cell_regrown q2; have Q3 := cell_regrown q3; have Q4 := cell_regrown q4
    have F9 := cell_regrown f9
    clear q0 q1 q2 q3 q4 qs f0 f1 f2 f3 f4 f5 f6 f7 f8 f9 f10 f11 f12 f13 ff fs
    refine wp_region_quiet_below (by kernel_rfl) (by kernel_rfl) ?_
    repeat (quiet_step (first | exact cB _ _))
    refine wpQuiet_nil ?_
    intro _ hw'
    obtain ⟨⟨dq, osq⟩, hw''⟩ := hw'
    subst hw''
    have HB1 : Hid _ := below_regrown W0 dq osq
    generalize grow (redrawn W0 dq) osq = w1 at *
    clear cB Q0 Q1 Q2 Q3 Q4 F9
    have HE1 : Hid (Lk w w1 B lo aS aH aF aL cS cH cF cL M f aK cK) := HE.out.below HB1.out
    clear HB1 HE
    obtain ⟨q0, q1, q2, q3, q4, -, -, -, -, -, qs⟩ := boxf HE1.out.m.box
    obtain ⟨f0, f1, f2, f3, f4, f5, f6, f7, f8, f9, f10, f11, f12, f13, ff, fs⟩ := framef HE1.out.fb
    go_wp2_with fail
    refine (HPt.out w1 (Foot B aS aH aF aL) ⟨_, _, _, _, _, _, _, _, HE1.out.m, fun _ h => h⟩).mono ?_
    rintro e w2 ⟨rfl, hh2, hf2⟩
    have HE2 : Hid (Lk2 w w2 (Foot B aS aH aF aL) B lo M' f aK cK) := HE1.out.after hh2 hf2
    clear HE1 hh2 hf2
    clear q0 q1 q2 q3 q4 qs f0 f1 f2 f3 f4 f5 f6 f7 f8 f9 f10 f11 f12 f13 ff fs
    obtain ⟨f0, f1, f2, f3, f4, f5, f6, f7, f8, f9, f10, f11, f12, f13, ff, fs⟩ := framef HE2.out.fb
    obtain ⟨g0, g1, g2, g3, g4, g5, g6, g7, g8, g9, g10, g11, g12, g13, gf, gs⟩ := framef HE2.out.zb
    have HE3 : Hid (Lk2 w (w2.setCell ⟨w.heap.size, 9, none⟩ (.int .i64 (-1))) (Foot B aS aH aF aL) B lo M' { f with slot := -1 } aK cK) := HE2.out.store 9 (.int .i64 (-1)) { f with slot := -1 } rfl
    clear HE2
    go_wp2
    refine bodyPost_ret (v := .tuple #[.agg #[.int .i64 ({ f with slot := -1 }).c.kind, .int .i64 ({ f with slot := -1 }).c.a, .int .i64 ({ f with slot := -1 }).c.b, .int .i64 ({ f with slot := -1 }).c.time, .int .i64 ({ f with slot := -1 }).c.bk, .int .i64 ({ f with slot := -1 }).c.slot, .int .i64 ({ f with slot := -1 }).pl, .int .i64 ({ f with slot := -1 }).cur, .int .i64 ({ f with slot := -1 }).prev, .int .i64 ({ f with slot := -1 }).slot, .int .i64 ({ f with slot := -1 }).n, .slice aK ({ f with slot := -1 }).keys.length cK, .bool ({ f with slot := -1 }).done, .int .i64 ({ f with slot := -1 }).e], .bool true]) (by simp [results, Try.results151, go_sem, g0, g1, g2, g3, g4, g5, g6, g7, g8, g9, g10, g11, g12, g13]) rfl ⟨rfl, HE3.out.end14⟩
theorem Lk2.all {w w1 : World} {Z : Nat → Prop} {B lo : Nat} {M : Mm} {f : Fr} {aK : Option Addr} {cK : Nat} (h : Lk2 w w1 Z B lo M f aK cK) (g : Fr) :
    Lk2 w ((((((((((((((w1.setCell ⟨w.heap.size, 0, none⟩ (.int .i64 g.c.kind)).setCell ⟨w.heap.size, 1, none⟩ (.int .i64 g.c.a)).setCell ⟨w.heap.size, 2, none⟩ (.int .i64 g.c.b)).setCell ⟨w.heap.size, 3, none⟩ (.int .i64 g.c.time)).setCell ⟨w.heap.size, 4, none⟩ (.int .i64 g.c.bk)).setCell ⟨w.heap.size, 5, none⟩ (.int .i64 g.c.slot)).setCell ⟨w.heap.size, 6, none⟩ (.int .i64 g.pl)).setCell ⟨w.heap.size, 7, none⟩ (.int .i64 g.cur)).setCell ⟨w.heap.size, 8, none⟩ (.int .i64 g.prev)).setCell ⟨w.heap.size, 9, none⟩ (.int .i64 g.slot)).setCell ⟨w.heap.size, 10, none⟩ (.int .i64 g.n)).setCell ⟨w.heap.size, 11, none⟩ (.slice aK g.keys.length cK)).setCell ⟨w.heap.size, 12, none⟩ (.bool g.done)).setCell ⟨w.heap.size, 13, none⟩ (.int .i64 g.e)) Z B lo M g aK cK :=
  ((((((((((((((h).store 0 (.int .i64 g.c.kind) ⟨⟨g.c.kind, f.c.a, f.c.b, f.c.time, f.c.bk, f.c.slot⟩, f.pl, f.cur, f.prev, f.slot, f.n, f.keys, f.done, f.e⟩ rfl).store 1 (.int .i64 g.c.a) ⟨⟨g.c.kind, g.c.a, f.c.b, f.c.time, f.c.bk, f.c.slot⟩, f.pl, f.cur, f.prev, f.slot, f.n, f.keys, f.done, f.e⟩ rfl).store 2 (.int .i64 g.c.b) ⟨⟨g.c.kind, g.c.a, g.c.b, f.c.time, f.c.bk, f.c.slot⟩, f.pl, f.cur, f.prev, f.slot, f.n, f.keys, f.done, f.e⟩ rfl).store 3 (.int .i64 g.c.time) ⟨⟨g.c.kind, g.c.a, g.c.b, g.c.time, f.c.bk, f.c.slot⟩, f.pl, f.cur, f.prev, f.slot, f.n, f.keys, f.done, f.e⟩ rfl).store 4 (.int .i64 g.c.bk) ⟨⟨g.c.kind, g.c.a, g.c.b, g.c.time, g.c.bk, f.c.slot⟩, f.pl, f.cur, f.prev, f.slot, f.n, f.keys, f.done, f.e⟩ rfl).store 5 (.int .i64 g.c.slot) ⟨⟨g.c.kind, g.c.a, g.c.b, g.c.time, g.c.bk, g.c.slot⟩, f.pl, f.cur, f.prev, f.slot, f.n, f.keys, f.done, f.e⟩ rfl).store 6 (.int .i64 g.pl) ⟨⟨g.c.kind, g.c.a, g.c.b, g.c.time, g.c.bk, g.c.slot⟩, g.pl, f.cur, f.prev, f.slot, f.n, f.keys, f.done, f.e⟩ rfl).store 7 (.int .i64 g.cur) ⟨⟨g.c.kind, g.c.a, g.c.b, g.c.time, g.c.bk, g.c.slot⟩, g.pl, g.cur, f.prev, f.slot, f.n, f.keys, f.done, f.e⟩ rfl).store 8 (.int .i64 g.prev) ⟨⟨g.c.kind, g.c.a, g.c.b, g.c.time, g.c.bk, g.c.slot⟩, g.pl, g.cur, g.prev, f.slot, f.n, f.keys, f.done, f.e⟩ rfl).store 9 (.int .i64 g.slot) ⟨⟨g.c.kind, g.c.a, g.c.b, g.c.time, g.c.bk, g.c.slot⟩, g.pl, g.cur, g.prev, g.slot, f.n, f.keys, f.done, f.e⟩ rfl).store 10 (.int .i64 g.n) ⟨⟨g.c.kind, g.c.a, g.c.b, g.c.time, g.c.bk, g.c.slot⟩, g.pl, g.cur, g.prev, g.slot, g.n, f.keys, f.done, f.e⟩ rfl).store 11 (.slice aK g.keys.length cK) ⟨⟨g.c.kind, g.c.a, g.c.b, g.c.time, g.c.bk, g.c.slot⟩, g.pl, g.cur, g.prev, g.slot, g.n, g.keys, f.done, f.e⟩ rfl).store 12 (.bool g.done) ⟨⟨g.c.kind, g.c.a, g.c.b, g.c.time, g.c.bk, g.c.slot⟩, g.pl, g.cur, g.prev, g.slot, g.n, g.keys, g.done, f.e⟩ rfl).store 13 (.int .i64 g.e) ⟨⟨g.c.kind, g.c.a, g.c.b, g.c.time, g.c.bk, g.c.slot⟩, g.pl, g.cur, g.prev, g.slot, g.n, g.keys, g.done, g.e⟩ rfl

set_option maxHeartbeats 3200000 in
theorem stray_part (M : Mm) (f : Fr) (B lo : Nat) (aS aH aF aL : Option Addr) (cS cH cF cL : Nat) (aK : Option Addr) (cK : Nat) (w : World)
    (m : Mine w B lo aS aH aF aL cS cH cF cL M) (hM : Ok M) (r : KRow w aK cK f.keys) (hz : ∀ ad, aK = some ad → ¬ Foot B aS aH aF aL ad.block) :
    Calls Try.prog 95 #[.pointer (some ⟨B, 0, none⟩), .agg #[.int .i64 f.c.kind, .int .i64 f.c.a, .int .i64 f.c.b, .int .i64 f.c.time, .int .i64 f.c.bk, .int .i64 f.c.slot, .int .i64 f.pl, .int .i64 f.cur, .int .i64 f.prev, .int .i64 f.slot, .int .i64 f.n, .slice aK f.keys.length cK, .bool f.done, .int .i64 f.e]] w fun e w' => Ret w w' e (lkStray M f) aK cK ∧ Has w' B lo (Up w (Foot B aS aH aF aL)) (lkLetM M f) ∧ Fine w w' (Foot B aS aH aF aL) := by
  have HR : Hid (KRow w aK cK f.keys) := r
  have HZ : Hid (∀ ad, aK = some ad → ¬ Foot B aS aH aF aL ad.block) := hz
  have hres : lkStray M f = toF (letF M f) 0 := by unfold lkStray letF; split <;> rfl
  have hkeys : (letF M f).keys = f.keys := by unfold letF; split <;> rfl
  have HLt : Hid (∀ (W : World), Mine W B lo aS aH aF aL cS cH cF cL M → Calls Try.prog 151 #[.pointer (some ⟨B, 0, none⟩), .agg #[.int .i64 f.c.kind, .int .i64 f.c.a, .int .i64 f.c.b, .int .i64 f.c.time, .int .i64 f.c.bk, .int .i64 f.c.slot, .int .i64 f.pl, .int .i64 f.cur, .int .i64 f.prev, .int .i64 f.slot, .int .i64 f.n, .slice aK f.keys.length cK, .bool f.done, .int .i64 f.e]] W fun e w' => e = .returned (.tuple #[.agg #[.int .i64 (letF M f).c.kind, .int .i64 (letF M f).c.a, .int .i64 (letF M f).c.b, .int .i64 (letF M f).c.time, .int .i64 (letF M f).c.bk, .int .i64 (letF M f).c.slot, .int .i64 (letF M f).pl, .int .i64 (letF M f).cur, .int .i64 (letF M f).prev, .int .i64 (letF M f).slot, .int .i64 (letF M f).n, .slice aK (letF M f).keys.length cK, .bool (letF M f).done, .int .i64 (letF M f).e], .bool (isSl M f.slot)]) ∧ Has w' B lo (Up W (Foot B aS aH aF aL)) (lkLetM M f) ∧ Fine W w' (Foot B aS aH aF aL)) := fun W m' => let_part M f B lo aS aH aF aL cS cH cF cL aK cK W m' hM
  rw [hres]
  rw [← hkeys] at HR
  generalize lkLetM M f = M' at *
  generalize isSl M f.slot = had at *
  generalize letF M f = g at *
  obtain ⟨of, hof⟩ : ∃ o : Obj, o = .cells #[.int .i64 f.c.kind, .int .i64 f.c.a, .int .i64 f.c.b, .int .i64 f.c.time, .int .i64 f.c.bk, .int .i64 f.c.slot, .int .i64 f.pl, .int .i64 f.cur, .int .i64 f.prev, .int .i64 f.slot, .int .i64 f.n, .slice aK f.keys.length cK, .bool f.done, .int .i64 f.e] 51 := ⟨_, rfl⟩
  obtain ⟨oz, hoz⟩ : ∃ o : Obj, o = zeroFr := ⟨_, rfl⟩
  have HE : Hid (Lk w ((w.alloc of).alloc oz) B lo aS aH aF aL cS cH cF cL M f aK cK) := Lk.first m f aK cK hof hoz
  obtain ⟨q0, q1, q2, q3, q4, -, -, -, -, -, qs⟩ := boxf HE.out.m.box
  obtain ⟨f0, f1, f2, f3, f4, f5, f6, f7, f8, f9, f10, f11, f12, f13, ff, fs⟩ := framef HE.out.fb
  unfold zeroFr at hoz
  clear m hres hkeys hM r hz
  go_enter Try.func95, Try.ntmps95
  go_wp2_with fail
  rw [← hof, ← hoz]
  generalize (w.alloc of).alloc oz = W0 at *
  subst hof hoz
  refine (HLt.out W0 HE.out.m).mono ?_
  rintro e w2 ⟨rfl, hh2, hf2⟩
  have HE2 : Hid (Lk2 w w2 (Foot B aS aH aF aL) B lo M' f aK cK) := HE.out.after hh2 hf2
  clear HE hh2 hf2
  clear q0 q1 q2 q3 q4 qs f0 f1 f2 f3 f4 f5 f6 f7 f8 f9 f10 f11 f12 f13 ff fs
  obtain ⟨f0, f1, f2, f3, f4, f5, f6, f7, f8, f9, f10, f11, f12, f13, ff, fs⟩ := framef HE2.out.fb
  go_wp2_with fail
  have HE3 : Hid (Lk2 w _ (Foot B aS aH aF aL) B lo M' g aK cK) := HE2.out.all g
  clear HE2
  refine (to_any g 0 aK cK _).mono ?_
  rintro e w9 ⟨rfl, hb9⟩
  have HE9 : Hid (Lk2 w w9 (Foot B aS aH aF aL) B lo M' g aK cK) := HE3.out.below hb9
  clear HE3 hb9
  clear f0 f1 f2 f3 f4 f5 f6 f7 f8 f9 f10 f11 f12 f13 ff fs
  obtain ⟨g0, g1, g2, g3, g4, g5, g6, g7, g8, g9, g10, g11, g12, g13, gf, gs⟩ := framef HE9.out.zb
  go_wp2
  refine bodyPost_ret (v := .agg #[.int .i64 (toF g 0).c.kind, .int .i64 (toF g 0).c.a, .int .i64 (toF g 0).c.b, .int .i64 (toF g 0).c.time, .int .i64 (toF g 0).c.bk, .int .i64 (toF g 0).c.slot, .int .i64 (toF g 0).pl, .int .i64 (toF g 0).cur, .int .i64 (toF g 0).prev, .int .i64 (toF g 0).slot, .int .i64 (toF g 0).n, .slice aK (toF g 0).keys.length cK, .bool (toF g 0).done, .int .i64 (toF g 0).e]) (by simp [results, Try.results95, go_sem, toF, g0, g1, g2, g3, g4, g5, g6, g7, g8, g9, g10, g11, g12, g13]) rfl ⟨⟨aK, cK, rfl, HR.out.fine HE9.out.end14.2 HZ.out, (fun ad h => .inl h), fun _ => ⟨rfl, rfl⟩⟩, HE9.out.end14⟩

set_option maxHeartbeats 3200000 in
theorem over_part (M : Mm) (f : Fr) (B lo : Nat) (aS aH aF aL : Option Addr) (cS cH cF cL : Nat) (aK : Option Addr) (cK : Nat) (w : World)
    (m : Mine w B lo aS aH aF aL cS cH cF cL M) (hM : Ok M) (r : KRow w aK cK f.keys) (hz : ∀ ad, aK = some ad → ¬ Foot B aS aH aF aL ad.block) :
    Calls Try.prog 96 #[.pointer (some ⟨B, 0, none⟩), .agg #[.int .i64 f.c.kind, .int .i64 f.c.a, .int .i64 f.c.b, .int .i64 f.c.time, .int .i64 f.c.bk, .int .i64 f.c.slot, .int .i64 f.pl, .int .i64 f.cur, .int .i64 f.prev, .int .i64 f.slot, .int .i64 f.n, .slice aK f.keys.length cK, .bool f.done, .int .i64 f.e]] w fun e w' => Ret w w' e (lkOver M f) aK cK ∧ Has w' B lo (Up w (Foot B aS aH aF aL)) (lkLetM M f) ∧ Fine w w' (Foot B aS aH aF aL) := by
  have HR : Hid (KRow w aK cK f.keys) := r
  have HZ : Hid (∀ ad, aK = some ad → ¬ Foot B aS aH aF aL ad.block) := hz
  have hres : lkOver M f = if isSl M f.slot then endF (letF M f) 5 else toF (letF M f) 0 := by unfold lkOver letF; split <;> rfl
  have hkeys : (letF M f).keys = f.keys := by unfold letF; split <;> rfl
  have HLt : Hid (∀ (W : World), Mine W B lo aS aH aF aL cS cH cF cL M → Calls Try.prog 151 #[.pointer (some ⟨B, 0, none⟩), .agg #[.int .i64 f.c.kind, .int .i64 f.c.a, .int .i64 f.c.b, .int .i64 f.c.time, .int .i64 f.c.bk, .int .i64 f.c.slot, .int .i64 f.pl, .int .i64 f.cur, .int .i64 f.prev, .int .i64 f.slot, .int .i64 f.n, .slice aK f.keys.length cK, .bool f.done, .int .i64 f.e]] W fun e w' => e = .returned (.tuple #[.agg #[.int .i64 (letF M f).c.kind, .int .i64 (letF M f).c.a, .int .i64 (letF M f).c.b, .int .i64 (letF M f).c.time, .int .i64 (letF M f).c.bk, .int .i64 (letF M f).c.slot, .int .i64 (letF M f).pl, .int .i64 (letF M f).cur, .int .i64 (letF M f).prev, .int .i64 (letF M f).slot, .int .i64 (letF M f).n, .slice aK (letF M f).keys.length cK, .bool (letF M f).done, .int .i64 (letF M f).e], .bool (isSl M f.slot)]) ∧ Has w' B lo (Up W (Foot B aS aH aF aL)) (lkLetM M f) ∧ Fine W w' (Foot B aS aH aF aL)) := fun W m' => let_part M f B lo aS aH aF aL cS cH cF cL aK cK W m' hM
  rw [hres]
  rw [← hkeys] at HR
  generalize lkLetM M f = M' at *
  generalize isSl M f.slot = had at *
  generalize letF M f = g at *
  cases had
  · show Calls Try.prog 96 _ w fun e w' => Ret w w' e (toF g 0) aK cK ∧ Has w' B lo (Up w (Foot B aS aH aF aL)) M' ∧ Fine w w' (Foot B aS aH aF aL)
    obtain ⟨of, hof⟩ : ∃ o : Obj, o = .cells #[.int .i64 f.c.kind, .int .i64 f.c.a, .int .i64 f.c.b, .int .i64 f.c.time, .int .i64 f.c.bk, .int .i64 f.c.slot, .int .i64 f.pl, .int .i64 f.cur, .int .i64 f.prev, .int .i64 f.slot, .int .i64 f.n, .slice aK f.keys.length cK, .bool f.done, .int .i64 f.e] 51 := ⟨_, rfl⟩
    obtain ⟨oz, hoz⟩ : ∃ o : Obj, o = zeroFr := ⟨_, rfl⟩
    have HE : Hid (Lk w ((w.alloc of).alloc oz) B lo aS aH aF aL cS cH cF cL M f aK cK) := Lk.first m f aK cK hof hoz
    obtain ⟨q0, q1, q2, q3, q4, -, -, -, -, -, qs⟩ := boxf HE.out.m.box
    obtain ⟨f0, f1, f2, f3, f4, f5, f6, f7, f8, f9, f10, f11, f12, f13, ff, fs⟩ := framef HE.out.fb
    unfold zeroFr at hoz
    clear m hres hkeys hM r hz
    go_enter Try.func96, Try.ntmps96
    go_wp2_with fail
    rw [← hof, ← hoz]
    generalize (w.alloc of).alloc oz = W0 at *
    subst hof hoz
    refine (HLt.out W0 HE.out.m).mono ?_
    rintro e w2 ⟨rfl, hh2, hf2⟩
    have HE2 : Hid (Lk2 w w2 (Foot B aS aH aF aL) B lo M' f aK cK) := HE.out.after hh2 hf2
    clear HE hh2 hf2
    clear q0 q1 q2 q3 q4 qs f0 f1 f2 f3 f4 f5 f6 f7 f8 f9 f10 f11 f12 f13 ff fs
    obtain ⟨f0, f1, f2, f3, f4, f5, f6, f7, f8, f9, f10, f11, f12, f13, ff, fs⟩ := framef HE2.out.fb
    go_wp2_with fail
    have HE3 : Hid (Lk2 w _ (Foot B aS aH aF aL) B lo M' g aK cK) := HE2.out.all g
    clear HE2
    refine (to_any g 0 aK cK _).mono ?_
    rintro e w9 ⟨rfl, hb9⟩
    have HE9 : Hid (Lk2 w w9 (Foot B aS aH aF aL) B lo M' g aK cK) := HE3.out.below hb9
    clear HE3 hb9
    clear f0 f1 f2 f3 f4 f5 f6 f7 f8 f9 f10 f11 f12 f13 ff fs
    obtain ⟨g0, g1, g2, g3, g4, g5, g6, g7, g8, g9, g10, g11, g12, g13, gf, gs⟩ := framef HE9.out.zb
    go_wp2
    refine bodyPost_ret (v := .agg #[.int .i64 (toF g 0).c.kind, .int .i64 (toF g 0).c.a, .int .i64 (toF g 0).c.b, .int .i64 (toF g 0).c.time, .int .i64 (toF g 0).c.bk, .int .i64 (toF g 0).c.slot, .int .i64 (toF g 0).pl, .int .i64 (toF g 0).cur, .int .i64 (toF g 0).prev, .int .i64 (toF g 0).slot, .int .i64 (toF g 0).n, .slice aK (toF g 0).keys.length cK, .bool (toF g 0).done, .int .i64 (toF g 0).e]) (by simp [results, Try.results96, go_sem, toF, g0, g1, g2, g3, g4, g5, g6, g7, g8, g9, g10, g11, g12, g13]) rfl ⟨⟨aK, cK, rfl, HR.out.fine HE9.out.end14.2 HZ.out, (fun ad h => .inl h), fun _ => ⟨rfl, rfl⟩⟩, HE9.out.end14⟩
  · show Calls Try.prog 96 _ w fun e w' => Ret w w' e (endF g 5) aK cK ∧ Has w' B lo (Up w (Foot B aS aH aF aL)) M' ∧ Fine w w' (Foot B aS aH aF aL)
    obtain ⟨of, hof⟩ : ∃ o : Obj, o = .cells #[.int .i64 f.c.kind, .int .i64 f.c.a, .int .i64 f.c.b, .int .i64 f.c.time, .int .i64 f.c.bk, .int .i64 f.c.slot, .int .i64 f.pl, .int .i64 f.cur, .int .i64 f.prev, .int .i64 f.slot, .int .i64 f.n, .slice aK f.keys.length cK, .bool f.done, .int .i64 f.e] 51 := ⟨_, rfl⟩
    obtain ⟨oz, hoz⟩ : ∃ o : Obj, o = zeroFr := ⟨_, rfl⟩
    have HE : Hid (Lk w ((w.alloc of).alloc oz) B lo aS aH aF aL cS cH cF cL M f aK cK) := Lk.first m f aK cK hof hoz
    obtain ⟨q0, q1, q2, q3, q4, -, -, -, -, -, qs⟩ := boxf HE.out.m.box
    obtain ⟨f0, f1, f2, f3, f4, f5, f6, f7, f8, f9, f10, f11, f12, f13, ff, fs⟩ := framef HE.out.fb
    unfold zeroFr at hoz
    clear m hres hkeys hM r hz
    go_enter Try.func96, Try.ntmps96
    go_wp2_with fail
    rw [← hof, ← hoz]
    generalize (w.alloc of).alloc oz = W0 at *
    subst hof hoz
    refine (HLt.out W0 HE.out.m).mono ?_
    rintro e w2 ⟨rfl, hh2, hf2⟩
    have HE2 : Hid (Lk2 w w2 (Foot B aS aH aF aL) B lo M' f aK cK) := HE.out.after hh2 hf2
    clear HE hh2 hf2
    clear q0 q1 q2 q3 q4 qs f0 f1 f2 f3 f4 f5 f6 f7 f8 f9 f10 f11 f12 f13 ff fs
    obtain ⟨f0, f1, f2, f3, f4, f5, f6, f7, f8, f9, f10, f11, f12, f13, ff, fs⟩ := framef HE2.out.fb
    go_wp2_with fail
    have HE3 : Hid (Lk2 w _ (Foot B aS aH aF aL) B lo M' g aK cK) := HE2.out.all g
    clear HE2
    refine (endFr_hi g 5 aK cK _ (HR.out.fine HE3.out.fine HZ.out)).mono ?_
    rintro e w9 ⟨a9, c9, rfl, hr9, hi9, hb9⟩
    have HK9 : Hid (KRow w9 a9 c9 g.keys ∧ ∀ ad, a9 = some ad → w.heap.size + 2 ≤ ad.block) := ⟨hr9, fun ad h => Nat.le_trans (lt_of_block HE3.out.zb) (hi9 ad h)⟩
    have HE9 : Hid (Lk2 w w9 (Foot B aS aH aF aL) B lo M' g aK cK) := HE3.out.below hb9
    clear HE3 hb9 hr9 hi9
    clear f0 f1 f2 f3 f4 f5 f6 f7 f8 f9 f10 f11 f12 f13 ff fs
    obtain ⟨g0, g1, g2, g3, g4, g5, g6, g7, g8, g9, g10, g11, g12, g13, gf, gs⟩ := framef HE9.out.zb
    go_wp2
    refine bodyPost_ret (v := .agg #[.int .i64 (endF g 5).c.kind, .int .i64 (endF g 5).c.a, .int .i64 (endF g 5).c.b, .int .i64 (endF g 5).c.time, .int .i64 (endF g 5).c.bk, .int .i64 (endF g 5).c.slot, .int .i64 (endF g 5).pl, .int .i64 (endF g 5).cur, .int .i64 (endF g 5).prev, .int .i64 (endF g 5).slot, .int .i64 (endF g 5).n, .slice a9 (endF g 5).keys.length c9, .bool (endF g 5).done, .int .i64 (endF g 5).e]) (by simp [results, Try.results96, go_sem, endF, g0, g1, g2, g3, g4, g5, g6, g7, g8, g9, g10, g11, g12, g13]) rfl ⟨⟨a9, c9, rfl, krow14 HK9.out.1 HK9.out.2, (fun ad h => .inr (by have := HK9.out.2 ad h; omega)), fun h => by cases h⟩, HE9.out.end14⟩


end Go.Proofs.Ytdbilofhcadmoab.mm
