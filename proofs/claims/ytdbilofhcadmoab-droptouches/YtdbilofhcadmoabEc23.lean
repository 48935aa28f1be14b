/- The contract of alone: a call that goes on alone, by the steps that are handed in. -/
import Derived.Test.YtdbilofhcadmoabEc22
import Derived.Test.YtdbilofhcadmoabEc09
import Derived.Test.YtdbilofhcadmoabEc06
import Derived.Test.YtdbilofhcadmoabEc04
import Derived.Test.YtdbilofhcadmoabEc13
import Derived.Test.YtdbilofhcadmoabEc19
import Derived.Lib.SmallJoins
namespace Go.Proofs.Ytdbilofhcadmoab.mm
open Go.ChangeShapes Go.WideShapes Go.ChangeAt Go.RowKit Go.Joins
set_option maxRecDepth 100000
set_option linter.unusedVariables false

def run (nf : Mm → Fr → Fr) (nm : Mm → Fr → Mm) : Nat → Mm → Fr → Mm × Fr × Bool
  | 0, M, f => (M, f, false)
  | k + 1, M, f => if (nf M f).done then (nm M f, nf M f, true) else run nf nm k (nm M f) (nf M f)

theorem run_look : ∀ (k : Nat) (M : Mm) (f : Fr), run lkF lkM k M f = lkRun k M f
  | 0, _, _ => rfl
  | k + 1, M, f => by
    show (if (lkF M f).done then (lkM M f, lkF M f, true) else run lkF lkM k (lkM M f) (lkF M f)) = _
    rw [run_look k]; rfl

/- What alone carries: the memory, the frame in its box, the answer's box. -/
structure Al (w w1 : World) (Z : Nat → Prop) (B lo X : Nat) (M : Mm) (f : Fr) (a : Option Addr) (c : Nat) : Prop where
  fine : Fine w w1 Z
  has : ∃ Y : Nat → Prop, Has w1 B lo Y M ∧ ¬ Y X ∧ ¬ Y (w.heap.size + 1) ∧ ∀ k, Y k → Z k ∨ w.heap.size ≤ k
  hx : w.heap.size + 1 < X
  xb : w1.heap[X]? = some (.cells #[.int .i64 f.c.kind, .int .i64 f.c.a, .int .i64 f.c.b, .int .i64 f.c.time, .int .i64 f.c.bk, .int .i64 f.c.slot, .int .i64 f.pl, .int .i64 f.cur, .int .i64 f.prev, .int .i64 f.slot, .int .i64 f.n, .slice a f.keys.length c, .bool f.done, .int .i64 f.e] 51 (0, 0))
  rb : w1.heap[w.heap.size + 1]? = some zeroFr

section
variable {w w1 w2 : World} {Z : Nat → Prop} {B lo X : Nat} {M M' : Mm} {f : Fr} {a : Option Addr} {c : Nat}
theorem Al.step {Y : Nat → Prop} (h : Al w w1 Z B lo X M f a c) (n1 : ¬ Y X) (n2 : ¬ Y (w.heap.size + 1)) (n3 : ∀ k, Y k → Z k ∨ w.heap.size ≤ k) (hh : Has w2 B lo (Up w1 Y) M') (hf : Fine w1 w2 Y) : Al w w2 Z B lo X M' f a c := by
  have s1 := lt_of_block h.xb
  have s2 := lt_of_block h.rb
  have s3 := h.fine.size
  refine ⟨h.fine.trans hf fun k h1 h2 => (n3 k h2).elim id (fun h3 => by omega), ⟨Up w1 Y, hh, fun h1 => h1.elim n1 (fun h2 => by omega), fun h1 => h1.elim n2 (fun h2 => by omega), fun k h1 => h1.elim (n3 k) (fun h2 => .inr (by omega))⟩, h.hx, (hf.block _ s1 n1).trans h.xb, (hf.block _ s2 n2).trans h.rb⟩
theorem Al.store (h : Al w w1 Z B lo X M f a c) (j : Nat) (v : Value) (g : Fr) (b : Option Addr) (d : Nat) (hg : (#[.int .i64 f.c.kind, .int .i64 f.c.a, .int .i64 f.c.b, .int .i64 f.c.time, .int .i64 f.c.bk, .int .i64 f.c.slot, .int .i64 f.pl, .int .i64 f.cur, .int .i64 f.prev, .int .i64 f.slot, .int .i64 f.n, .slice a f.keys.length c, .bool f.done, .int .i64 f.e] : Array Value).setIfInBounds j v = #[.int .i64 g.c.kind, .int .i64 g.c.a, .int .i64 g.c.b, .int .i64 g.c.time, .int .i64 g.c.bk, .int .i64 g.c.slot, .int .i64 g.pl, .int .i64 g.cur, .int .i64 g.prev, .int .i64 g.slot, .int .i64 g.n, .slice b g.keys.length d, .bool g.done, .int .i64 g.e]) :
    Al w (w1.setCell ⟨X, j, none⟩ v) Z B lo X M g b d := by
  obtain ⟨Y, y1, y2, y3, y4⟩ := h.has
  have hx := h.hx
  refine ⟨h.fine.set (.inr (by omega)) _ _, ⟨Y, y1.same (by simp) (fun k _ hk => ?_), y2, y3, y4⟩, hx, ?_, by rw [Below.heap_setCell _ _ _ _ (by dsimp only; omega)]; exact h.rb⟩
  · rw [Below.heap_setCell _ _ _ _ (by dsimp only; rintro rfl; exact y2 hk)]
  · rw [block_setCell h.xb v, hg]
theorem Al.all (h : Al w w1 Z B lo X M f a c) (g : Fr) (b : Option Addr) (d : Nat) :
    Al w ((((((((((((((w1.setCell ⟨X, 0, none⟩ (.int .i64 g.c.kind)).setCell ⟨X, 1, none⟩ (.int .i64 g.c.a)).setCell ⟨X, 2, none⟩ (.int .i64 g.c.b)).setCell ⟨X, 3, none⟩ (.int .i64 g.c.time)).setCell ⟨X, 4, none⟩ (.int .i64 g.c.bk)).setCell ⟨X, 5, none⟩ (.int .i64 g.c.slot)).setCell ⟨X, 6, none⟩ (.int .i64 g.pl)).setCell ⟨X, 7, none⟩ (.int .i64 g.cur)).setCell ⟨X, 8, none⟩ (.int .i64 g.prev)).setCell ⟨X, 9, none⟩ (.int .i64 g.slot)).setCell ⟨X, 10, none⟩ (.int .i64 g.n)).setCell ⟨X, 11, none⟩ (.slice b g.keys.length d)).setCell ⟨X, 12, none⟩ (.bool g.done)).setCell ⟨X, 13, none⟩ (.int .i64 g.e)) Z B lo X M g b d :=
  ((((((((((((((h).store 0 (.int .i64 g.c.kind) ⟨⟨g.c.kind, f.c.a, f.c.b, f.c.time, f.c.bk, f.c.slot⟩, f.pl, f.cur, f.prev, f.slot, f.n, f.keys, f.done, f.e⟩ a c rfl).store 1 (.int .i64 g.c.a) ⟨⟨g.c.kind, g.c.a, f.c.b, f.c.time, f.c.bk, f.c.slot⟩, f.pl, f.cur, f.prev, f.slot, f.n, f.keys, f.done, f.e⟩ a c rfl).store 2 (.int .i64 g.c.b) ⟨⟨g.c.kind, g.c.a, g.c.b, f.c.time, f.c.bk, f.c.slot⟩, f.pl, f.cur, f.prev, f.slot, f.n, f.keys, f.done, f.e⟩ a c rfl).store 3 (.int .i64 g.c.time) ⟨⟨g.c.kind, g.c.a, g.c.b, g.c.time, f.c.bk, f.c.slot⟩, f.pl, f.cur, f.prev, f.slot, f.n, f.keys, f.done, f.e⟩ a c rfl).store 4 (.int .i64 g.c.bk) ⟨⟨g.c.kind, g.c.a, g.c.b, g.c.time, g.c.bk, f.c.slot⟩, f.pl, f.cur, f.prev, f.slot, f.n, f.keys, f.done, f.e⟩ a c rfl).store 5 (.int .i64 g.c.slot) ⟨⟨g.c.kind, g.c.a, g.c.b, g.c.time, g.c.bk, g.c.slot⟩, f.pl, f.cur, f.prev, f.slot, f.n, f.keys, f.done, f.e⟩ a c rfl).store 6 (.int .i64 g.pl) ⟨⟨g.c.kind, g.c.a, g.c.b, g.c.time, g.c.bk, g.c.slot⟩, g.pl, f.cur, f.prev, f.slot, f.n, f.keys, f.done, f.e⟩ a c rfl).store 7 (.int .i64 g.cur) ⟨⟨g.c.kind, g.c.a, g.c.b, g.c.time, g.c.bk, g.c.slot⟩, g.pl, g.cur, f.prev, f.slot, f.n, f.keys, f.done, f.e⟩ a c rfl).store 8 (.int .i64 g.prev) ⟨⟨g.c.kind, g.c.a, g.c.b, g.c.time, g.c.bk, g.c.slot⟩, g.pl, g.cur, g.prev, f.slot, f.n, f.keys, f.done, f.e⟩ a c rfl).store 9 (.int .i64 g.slot) ⟨⟨g.c.kind, g.c.a, g.c.b, g.c.time, g.c.bk, g.c.slot⟩, g.pl, g.cur, g.prev, g.slot, f.n, f.keys, f.done, f.e⟩ a c rfl).store 10 (.int .i64 g.n) ⟨⟨g.c.kind, g.c.a, g.c.b, g.c.time, g.c.bk, g.c.slot⟩, g.pl, g.cur, g.prev, g.slot, g.n, f.keys, f.done, f.e⟩ a c rfl).store 11 (.slice b g.keys.length d) ⟨⟨g.c.kind, g.c.a, g.c.b, g.c.time, g.c.bk, g.c.slot⟩, g.pl, g.cur, g.prev, g.slot, g.n, g.keys, f.done, f.e⟩ b d rfl).store 12 (.bool g.done) ⟨⟨g.c.kind, g.c.a, g.c.b, g.c.time, g.c.bk, g.c.slot⟩, g.pl, g.cur, g.prev, g.slot, g.n, g.keys, g.done, f.e⟩ b d rfl).store 13 (.int .i64 g.e) ⟨⟨g.c.kind, g.c.a, g.c.b, g.c.time, g.c.bk, g.c.slot⟩, g.pl, g.cur, g.prev, g.slot, g.n, g.keys, g.done, g.e⟩ b d rfl
theorem Al.end14 (h : Al w w1 Z B lo X M f a c) {v0 v1 v2 v3 v4 v5 v6 v7 v8 v9 v10 v11 v12 v13 : Value} : Has ((((((((((((((w1.setCell ⟨w.heap.size + 1, 0, none⟩ v0).setCell ⟨w.heap.size + 1, 1, none⟩ v1).setCell ⟨w.heap.size + 1, 2, none⟩ v2).setCell ⟨w.heap.size + 1, 3, none⟩ v3).setCell ⟨w.heap.size + 1, 4, none⟩ v4).setCell ⟨w.heap.size + 1, 5, none⟩ v5).setCell ⟨w.heap.size + 1, 6, none⟩ v6).setCell ⟨w.heap.size + 1, 7, none⟩ v7).setCell ⟨w.heap.size + 1, 8, none⟩ v8).setCell ⟨w.heap.size + 1, 9, none⟩ v9).setCell ⟨w.heap.size + 1, 10, none⟩ v10).setCell ⟨w.heap.size + 1, 11, none⟩ v11).setCell ⟨w.heap.size + 1, 12, none⟩ v12).setCell ⟨w.heap.size + 1, 13, none⟩ v13) B lo (Up w Z) M ∧ Fine w ((((((((((((((w1.setCell ⟨w.heap.size + 1, 0, none⟩ v0).setCell ⟨w.heap.size + 1, 1, none⟩ v1).setCell ⟨w.heap.size + 1, 2, none⟩ v2).setCell ⟨w.heap.size + 1, 3, none⟩ v3).setCell ⟨w.heap.size + 1, 4, none⟩ v4).setCell ⟨w.heap.size + 1, 5, none⟩ v5).setCell ⟨w.heap.size + 1, 6, none⟩ v6).setCell ⟨w.heap.size + 1, 7, none⟩ v7).setCell ⟨w.heap.size + 1, 8, none⟩ v8).setCell ⟨w.heap.size + 1, 9, none⟩ v9).setCell ⟨w.heap.size + 1, 10, none⟩ v10).setCell ⟨w.heap.size + 1, 11, none⟩ v11).setCell ⟨w.heap.size + 1, 12, none⟩ v12).setCell ⟨w.heap.size + 1, 13, none⟩ v13) Z := by
  have hb := set14 (w := w1) (w1 := w1) (n := w.heap.size) (v0 := v0) (v1 := v1) (v2 := v2) (v3 := v3) (v4 := v4) (v5 := v5) (v6 := v6) (v7 := v7) (v8 := v8) (v9 := v9) (v10 := v10) (v11 := v11) (v12 := v12) (v13 := v13) (Below.refl _ _)
  have hk : ∀ k, k ≠ w.heap.size + 1 → ((((((((((((((w1.setCell ⟨w.heap.size + 1, 0, none⟩ v0).setCell ⟨w.heap.size + 1, 1, none⟩ v1).setCell ⟨w.heap.size + 1, 2, none⟩ v2).setCell ⟨w.heap.size + 1, 3, none⟩ v3).setCell ⟨w.heap.size + 1, 4, none⟩ v4).setCell ⟨w.heap.size + 1, 5, none⟩ v5).setCell ⟨w.heap.size + 1, 6, none⟩ v6).setCell ⟨w.heap.size + 1, 7, none⟩ v7).setCell ⟨w.heap.size + 1, 8, none⟩ v8).setCell ⟨w.heap.size + 1, 9, none⟩ v9).setCell ⟨w.heap.size + 1, 10, none⟩ v10).setCell ⟨w.heap.size + 1, 11, none⟩ v11).setCell ⟨w.heap.size + 1, 12, none⟩ v12).setCell ⟨w.heap.size + 1, 13, none⟩ v13).heap[k]? = w1.heap[k]? := fun k hk => by
    repeat rw [Below.heap_setCell _ _ _ _ (by dsimp only; exact hk)]
  obtain ⟨Y, y1, y2, y3, y4⟩ := h.has
  refine ⟨(y1.same hb.size (fun k _ h2 => hk k (by rintro rfl; exact y3 h2))).mono (fun k _ h1 => y4 k h1), ⟨hb.os.trans h.fine.os, hb.tape.trans h.fine.tape, hb.output.trans h.fine.output, Nat.le_trans h.fine.size hb.size, fun k h1 h2 => (hk k (by omega)).trans (h.fine.block k h1 h2)⟩⟩
end

set_option maxHeartbeats 3200000 in
theorem alone_any (F : Nat) (caps : Array Value) (nf : Mm → Fr → Fr) (nm : Mm → Fr → Mm) (G : Mm → Fr → Prop) (B lo : Nat) (Z : Nat → Prop) (M : Mm) (c : Cl) (most : Nat) (w : World)
    (hF : ∀ args W, (callFunc F args).run Try.prog W = .ok (.enter F args) W)
    (hS : ∀ (M : Mm) (f : Fr) (W : World) (Z : Nat → Prop), G M f → Has W B lo Z M → Calls Try.prog F (#[.agg #[.int .i64 f.c.kind, .int .i64 f.c.a, .int .i64 f.c.b, .int .i64 f.c.time, .int .i64 f.c.bk, .int .i64 f.c.slot, .int .i64 f.pl, .int .i64 f.cur, .int .i64 f.prev, .int .i64 f.slot, .int .i64 f.n, .slice none f.keys.length 0, .bool f.done, .int .i64 f.e]] ++ caps) W fun e W' => (∃ a c, e = .returned (.agg #[.int .i64 (nf M f).c.kind, .int .i64 (nf M f).c.a, .int .i64 (nf M f).c.b, .int .i64 (nf M f).c.time, .int .i64 (nf M f).c.bk, .int .i64 (nf M f).c.slot, .int .i64 (nf M f).pl, .int .i64 (nf M f).cur, .int .i64 (nf M f).prev, .int .i64 (nf M f).slot, .int .i64 (nf M f).n, .slice a (nf M f).keys.length c, .bool (nf M f).done, .int .i64 (nf M f).e]) ∧ ((nf M f).done = false → a = none ∧ c = 0)) ∧ Has W' B lo (Up W Z) (nm M f) ∧ Fine W W' Z)
    (hG : ∀ M f, G M f → (nf M f).done = false → G (nm M f) (nf M f))
    (hM : Has w B lo Z M) (hZ : ∀ k, Z k → k < w.heap.size) (h0 : G M (newF c)) (hm : most ≤ 1000) :
    Calls Try.prog 42 #[.agg #[.int .i64 c.kind, .int .i64 c.a, .int .i64 c.b, .int .i64 c.time, .int .i64 c.bk, .int .i64 c.slot], .int .i64 most, .func (.func F) #[] caps] w fun e w' =>
      (∃ a c', e = .returned (.tuple #[.agg #[.int .i64 ((run nf nm most M (newF c)).2.1).c.kind, .int .i64 ((run nf nm most M (newF c)).2.1).c.a, .int .i64 ((run nf nm most M (newF c)).2.1).c.b, .int .i64 ((run nf nm most M (newF c)).2.1).c.time, .int .i64 ((run nf nm most M (newF c)).2.1).c.bk, .int .i64 ((run nf nm most M (newF c)).2.1).c.slot, .int .i64 ((run nf nm most M (newF c)).2.1).pl, .int .i64 ((run nf nm most M (newF c)).2.1).cur, .int .i64 ((run nf nm most M (newF c)).2.1).prev, .int .i64 ((run nf nm most M (newF c)).2.1).slot, .int .i64 ((run nf nm most M (newF c)).2.1).n, .slice a ((run nf nm most M (newF c)).2.1).keys.length c', .bool ((run nf nm most M (newF c)).2.1).done, .int .i64 ((run nf nm most M (newF c)).2.1).e], .bool (run nf nm most M (newF c)).2.2])) ∧ Has w' B lo (Up w Z) (run nf nm most M (newF c)).1 ∧ Fine w w' Z := by
  obtain ⟨f, hf⟩ : ∃ f, f = newF c := ⟨_, rfl⟩
  have HF : Hid (f = newF c) := hf
  rw [← hf]
  rw [← hf] at h0
  clear hf
  have HFn : Hid _ := hF
  have HS : Hid (∀ (M : Mm) (f : Fr) (W : World) (Z : Nat → Prop), G M f → Has W B lo Z M → Calls Try.prog F (#[.agg #[.int .i64 f.c.kind, .int .i64 f.c.a, .int .i64 f.c.b, .int .i64 f.c.time, .int .i64 f.c.bk, .int .i64 f.c.slot, .int .i64 f.pl, .int .i64 f.cur, .int .i64 f.prev, .int .i64 f.slot, .int .i64 f.n, .slice none f.keys.length 0, .bool f.done, .int .i64 f.e]] ++ caps) W fun e W' => (∃ a c, e = .returned (.agg #[.int .i64 (nf M f).c.kind, .int .i64 (nf M f).c.a, .int .i64 (nf M f).c.b, .int .i64 (nf M f).c.time, .int .i64 (nf M f).c.bk, .int .i64 (nf M f).c.slot, .int .i64 (nf M f).pl, .int .i64 (nf M f).cur, .int .i64 (nf M f).prev, .int .i64 (nf M f).slot, .int .i64 (nf M f).n, .slice a (nf M f).keys.length c, .bool (nf M f).done, .int .i64 (nf M f).e]) ∧ ((nf M f).done = false → a = none ∧ c = 0)) ∧ Has W' B lo (Up W Z) (nm M f) ∧ Fine W W' Z) := hS
  have HG : Hid (∀ M f, G M f → (nf M f).done = false → G (nm M f) (nf M f)) := hG
  have HM : Hid (Has w B lo Z M) := hM
  have HZ : Hid (∀ k, Z k → k < w.heap.size) := hZ
  have H0 : Hid (G M f) := h0
  clear hF hS hG hM hZ h0
  obtain ⟨oc, hoc⟩ : ∃ o : Obj, o = .cells #[.int .i64 c.kind, .int .i64 c.a, .int .i64 c.b, .int .i64 c.time, .int .i64 c.bk, .int .i64 c.slot] 48 := ⟨_, rfl⟩
  obtain ⟨oz, hoz⟩ : ∃ o : Obj, o = zeroFr := ⟨_, rfl⟩
  have HE0 : Hid (Env w ((w.alloc oc).alloc oz) [((w.alloc oc).heap.size, oz), (w.heap.size, oc)] []) := ((⟨Below.refl _ _, (fun p hp => by cases hp), (fun p hp => by cases hp)⟩ : Env w w [] []).alloc oc).alloc oz
  rw [show (w.alloc oc).heap.size = w.heap.size + 1 by simp] at HE0
  have HOz : Hid (oz = zeroFr) := hoz
  unfold zeroFr at hoz
  go_enter Try.func42, Try.ntmps42
  go_wp2_with fail
  rw [← hoc, ← hoz]
  generalize (w.alloc oc).alloc oz = W0 at *
  clear hoz
  refine (newFr_at HF.out W0).mono ?_
  rintro e w1 ⟨rfl, hb1⟩
  have HE1 : Hid _ := HE0.out.below hb1
  have HE2 : Hid (Env w (w1.alloc (.cells #[.int .i64 f.c.kind, .int .i64 f.c.a, .int .i64 f.c.b, .int .i64 f.c.time, .int .i64 f.c.bk, .int .i64 f.c.slot, .int .i64 f.pl, .int .i64 f.cur, .int .i64 f.prev, .int .i64 f.slot, .int .i64 f.n, .slice none f.keys.length 0, .bool f.done, .int .i64 f.e] 51)) ((w1.heap.size, .cells #[.int .i64 f.c.kind, .int .i64 f.c.a, .int .i64 f.c.b, .int .i64 f.c.time, .int .i64 f.c.bk, .int .i64 f.c.slot, .int .i64 f.pl, .int .i64 f.cur, .int .i64 f.prev, .int .i64 f.slot, .int .i64 f.n, .slice none f.keys.length 0, .bool f.done, .int .i64 f.e] 51) :: [(w.heap.size + 1, oz), (w.heap.size, oc)]) []) := HE1.out.alloc _
  have HA0 : Hid (Al w (w1.alloc (.cells #[.int .i64 f.c.kind, .int .i64 f.c.a, .int .i64 f.c.b, .int .i64 f.c.time, .int .i64 f.c.bk, .int .i64 f.c.slot, .int .i64 f.pl, .int .i64 f.cur, .int .i64 f.prev, .int .i64 f.slot, .int .i64 f.n, .slice none f.keys.length 0, .bool f.done, .int .i64 f.e] 51)) Z B lo w1.heap.size M f none 0) := by
    have h1 := HE1.out.lt (.head _)
    refine ⟨.of_below _ HE2.out.bl, ⟨Z, HM.out.below HE2.out.bl, fun h => by have := HZ.out _ h; omega, fun h => by have := HZ.out _ h; omega, fun k h => .inl h⟩, h1, HE2.out.box _ (.head _), HOz.out ▸ HE2.out.box _ (.tail _ (.head _))⟩
  clear HE0 HE1 HE2 hb1 HM HOz hoc
  go_wp2
  generalize hX : w1.heap.size = X at *
  generalize w1.alloc (.cells #[.int .i64 f.c.kind, .int .i64 f.c.a, .int .i64 f.c.b, .int .i64 f.c.time, .int .i64 f.c.bk, .int .i64 f.c.slot, .int .i64 f.pl, .int .i64 f.cur, .int .i64 f.prev, .int .i64 f.slot, .int .i64 f.n, .slice none f.keys.length 0, .bool f.done, .int .i64 f.e] 51) = W1 at *
  clear hX
  go_loopw [12] (fun i wr => ∃ k : Nat, k ≤ most ∧ i = .int .i64 k ∧ ∃ (N : Mm) (f' : Fr), Hid (Al w wr Z B lo X N f' none 0 ∧ G N f' ∧ run nf nm most M f = run nf nm (most - k) N f'))
    (fun i _ => most - (intOf i).toNat)
  case atStart => exact ⟨0, Nat.zero_le _, rfl, M, f, HA0.out, H0.out, rfl⟩
  case round =>
    obtain ⟨k, hk, rfl, N, f', HI⟩ := hrel
    clear HA0 H0 HF
    by_cases hlt : k < most
    · obtain ⟨Y, y1, y2, y3, y4⟩ := HI.out.1.has
      have HSt : Hid (Calls Try.prog F (#[.agg #[.int .i64 (f').c.kind, .int .i64 (f').c.a, .int .i64 (f').c.b, .int .i64 (f').c.time, .int .i64 (f').c.bk, .int .i64 (f').c.slot, .int .i64 (f').pl, .int .i64 (f').cur, .int .i64 (f').prev, .int .i64 (f').slot, .int .i64 (f').n, .slice none (f').keys.length 0, .bool (f').done, .int .i64 (f').e]] ++ caps) wr fun e W' => (∃ a c, e = .returned (.agg #[.int .i64 (nf N f').c.kind, .int .i64 (nf N f').c.a, .int .i64 (nf N f').c.b, .int .i64 (nf N f').c.time, .int .i64 (nf N f').c.bk, .int .i64 (nf N f').c.slot, .int .i64 (nf N f').pl, .int .i64 (nf N f').cur, .int .i64 (nf N f').prev, .int .i64 (nf N f').slot, .int .i64 (nf N f').n, .slice a (nf N f').keys.length c, .bool (nf N f').done, .int .i64 (nf N f').e]) ∧ ((nf N f').done = false → a = none ∧ c = 0)) ∧ Has W' B lo (Up wr Y) (nm N f') ∧ Fine wr W' Y) := HS.out N f' wr Y HI.out.2.1 y1
      have HNx : Hid (∀ (w2 : World), Has w2 B lo (Up wr Y) (nm N f') → Fine wr w2 Y → Al w w2 Z B lo X (nm N f') f' none 0) := fun w2 hh hf => HI.out.1.step y2 y3 y4 hh hf
      have HGn : Hid ((nf N f').done = false → G (nm N f') (nf N f')) := HG.out N f' HI.out.2.1
      have HRn : Hid (run nf nm most M f = if (nf N f').done then (nm N f', nf N f', true) else run nf nm (most - (k + 1)) (nm N f') (nf N f')) := HI.out.2.2.trans (by rw [show most - k = (most - (k + 1)) + 1 by omega]; rfl)
      obtain ⟨f0, f1, f2, f3, f4, f5, f6, f7, f8, f9, f10, f11, f12, f13, ff, fs⟩ := framef HI.out.1.xb
      clear y1 y2 y3 y4 HI HS HG
      generalize nm N f' = N2 at *
      generalize nf N f' = g at *
      go_wp2_with fail
      rw [HFn.out]
      refine HSt.out.mono ?_
      rintro e w2 ⟨⟨a2, c2, rfl, hd2⟩, hh2, hf2⟩
      have HA2 : Hid (Al w w2 Z B lo X N2 f' none 0) := HNx.out w2 hh2 hf2
      have HD2 : Hid (g.done = false → a2 = none ∧ c2 = 0) := hd2
      clear f0 f1 f2 f3 f4 f5 f6 f7 f8 f9 f10 f11 f12 f13 ff fs HSt HNx hh2 hf2 hd2
      obtain ⟨f0, f1, f2, f3, f4, f5, f6, f7, f8, f9, f10, f11, f12, f13, ff, fs⟩ := framef HA2.out.xb
      have HA3 : Hid _ := HA2.out.all g a2 c2
      cases hdn : g.done
      · rw [hdn] at HA3
        obtain ⟨ea, ec⟩ := HD2.out hdn
        have HG2 : Hid (G N2 g) := HGn.out hdn
        have HR2 : Hid (run nf nm most M f = run nf nm (most - (k + 1)) N2 g) := HRn.out.trans (by rw [hdn]; rfl)
        subst ea ec
        clear hdn HA2 HD2 HGn HRn
        go_wp2
        go_roundw
        case rel => exact ⟨k + 1, by omega, by go_num, N2, g, HA3.out, HG2.out, HR2.out⟩
        case measure => simp [intOf]; omega
      · rw [hdn] at HA3
        have HR2 : Hid (run nf nm most M f = (N2, g, true)) := HRn.out.trans (by rw [hdn]; rfl)
        have HDn : Hid (g.done = true) := hdn
        obtain ⟨g0, g1, g2, g3, g4, g5, g6, g7, g8, g9, g10, g11, g12, g13, gf, gs⟩ := framef HA2.out.rb
        have hx1 := HA2.out.hx
        have hne : X ≠ w.heap.size + 1 := by omega
        clear hdn HA2 HD2 HGn HRn
        go_wp2
        refine bodyPost_ret (v := .tuple #[.agg #[.int .i64 g.c.kind, .int .i64 g.c.a, .int .i64 g.c.b, .int .i64 g.c.time, .int .i64 g.c.bk, .int .i64 g.c.slot, .int .i64 g.pl, .int .i64 g.cur, .int .i64 g.prev, .int .i64 g.slot, .int .i64 g.n, .slice a2 g.keys.length c2, .bool g.done, .int .i64 g.e], .bool true]) (by simp [results, Try.results42, go_sem, HDn.out, g0, g1, g2, g3, g4, g5, g6, g7, g8, g9, g10, g11, g12, g13]) rfl ⟨⟨a2, c2, by rw [HR2.out]⟩, ?_⟩
        rw [HR2.out]
        exact HA3.out.end14
    · have hk' : most - k = 0 := by omega
      have HRn : Hid (run nf nm most M f = (N, f', false)) := HI.out.2.2.trans (by rw [hk']; rfl)
      obtain ⟨f0, f1, f2, f3, f4, f5, f6, f7, f8, f9, f10, f11, f12, f13, ff, fs⟩ := framef HI.out.1.xb
      obtain ⟨g0, g1, g2, g3, g4, g5, g6, g7, g8, g9, g10, g11, g12, g13, gf, gs⟩ := framef HI.out.1.rb
      have hx1 := HI.out.1.hx
      have hne : X ≠ w.heap.size + 1 := by omega
      clear hk'
      go_wp2
      refine bodyPost_ret (v := .tuple #[.agg #[.int .i64 (f').c.kind, .int .i64 (f').c.a, .int .i64 (f').c.b, .int .i64 (f').c.time, .int .i64 (f').c.bk, .int .i64 (f').c.slot, .int .i64 (f').pl, .int .i64 (f').cur, .int .i64 (f').prev, .int .i64 (f').slot, .int .i64 (f').n, .slice none (f').keys.length 0, .bool (f').done, .int .i64 (f').e], .bool false]) (by simp [results, Try.results42, go_sem, g0, g1, g2, g3, g4, g5, g6, g7, g8, g9, g10, g11, g12, g13]) rfl ⟨⟨none, 0, by rw [HRn.out]⟩, ?_⟩
      rw [HRn.out]
      exact HI.out.1.end14



end Go.Proofs.Ytdbilofhcadmoab.mm

/- What a Look finds that goes on alone, held against what is mapped. -/
namespace Go.Proofs.Ytdbilofhcadmoab.mm
set_option linter.unusedVariables false

def isF (a b now : Int) (f : Fl) : Bool := (f.a == a && f.b == b) && decide (now < f.unt)

theorem inj_nodup {α β : Type} (f : α → β) : ∀ (l : List α), (l.map f).Nodup → ∀ x ∈ l, ∀ y ∈ l, f x = f y → x = y
  | [], _, x, hx, _, _, _ => by cases hx
  | a :: l, h, x, hx, y, hy, e => by
    rw [List.map_cons, List.nodup_cons] at h
    rcases List.mem_cons.1 hx with h1 | h1
    · rcases List.mem_cons.1 hy with h2 | h2
      · rw [h1, h2]
      · rw [h1] at e
        exact (h.1 (List.mem_map.2 ⟨y, h2, e.symm⟩)).elim
    · rcases List.mem_cons.1 hy with h2 | h2
      · rw [h2] at e
        exact (h.1 (List.mem_map.2 ⟨x, h1, e⟩)).elim
      · exact inj_nodup f l h.2 x h1 y h2 e

theorem bk_look {M : Mm} (hM : Ok M) {c : Cl} (hk : c.kind = 1) (hkey : keyB c.a c.b = true) : bkOf M.heads.length c = bucket c.a c.b M.heads.length := by
  obtain ⟨n1, n2⟩ := hM.nh
  unfold bkOf
  rw [if_neg (by omega), if_pos hkey, if_pos ⟨n1, n2⟩]

theorem isF_iff {M : Mm} {a b : Int} {x : Int} : isF a b M.now (flowAt M x) = true ↔ keyAt M x = (a, b) ∧ M.now < (slotAt M x).unt := by
  unfold isF flowAt keyAt
  simp

theorem found_none {M : Mm} {c : Cl} {b : Nat} (hb : b < M.heads.length) {X : Mm} {g : Fr} (hF : Found M c (chL M b) X g) (hn : ∀ f ∈ (allC M).map (flowAt M), isF c.a c.b M.now f = false) : X = M ∧ g.e = 5 := by
  unfold Found at hF
  split at hF
  · exact hF
  · rename_i a ha
    have h1 := List.mem_of_find?_eq_some ha
    have h2 := List.find?_some ha
    have h3 : a ∈ allC M := mem_allC.2 ⟨b, hb, h1⟩
    have h4 := hn _ (List.mem_map.2 ⟨a, h3, rfl⟩)
    split at hF
    · rename_i hlt
      exfalso
      have : isF c.a c.b M.now (flowAt M a) = true := isF_iff.2 ⟨by simpa using h2, hlt⟩
      rw [h4] at this
      cases this
    · exact hF

theorem found_some {M : Mm} (hM : OkC M) {c : Cl} {b : Nat} (hb : b < M.heads.length) (hbk : bucket c.a c.b M.heads.length = b) {X : Mm} {g : Fr} (hF : Found M c (chL M b) X g) {f : Fl} (hf : f ∈ (allC M).map (flowAt M)) (hp : isF c.a c.b M.now f = true) :
    X = holdM M f.slot ∧ g.e = 0 ∧ g.slot = f.slot ∧ isSl M f.slot = true ∧ 0 < refsM M f.slot := by
  obtain ⟨a, ha, rfl⟩ := List.mem_map.1 hf
  obtain ⟨b', hb', hab⟩ := mem_allC.1 ha
  obtain ⟨r0, _, hbu⟩ := hM.held b' hb' a hab
  obtain ⟨hk, hlt⟩ := isF_iff.1 hp
  have hk1 : (slotAt M a).a = c.a ∧ (slotAt M a).b = c.b := by unfold keyAt at hk; simpa using hk
  rw [hk1.1, hk1.2, hbk] at hbu
  have hbb : b = b' := by omega
  subst hbb
  have hsl : isSl M a = true := isSl_in.2 (hM.allSlots a ha)
  have hrf : 0 < refsM M a := by
    have := (slot_refs hM.ok hsl).1
    have h2 : refsM M a ≠ 0 := r0
    omega
  unfold Found at hF
  split at hF
  · rename_i hnone
    have := List.find?_eq_none.1 hnone a hab
    rw [hk] at this
    simp at this
  · rename_i a2 ha2
    have h1 := List.mem_of_find?_eq_some ha2
    have h2 : keyAt M a2 = (c.a, c.b) := by simpa using List.find?_some ha2
    have e : a2 = a := inj_nodup (keyAt M) (allC M) hM.keys a2 (mem_allC.2 ⟨b, hb, h1⟩) a ha (h2.trans hk.symm)
    subst e
    rw [if_pos hlt] at hF
    exact ⟨hF.1, hF.2.1, hF.2.2, hsl, hrf⟩

theorem let_back {M : Mm} (hM : Ok M) {a : Int} (h : isSl M a = true) (h0 : 0 < refsM M a) (h1 : refsM M a ≠ 1000) : letE (holdM M a) a = 0 ∧ letM (holdM M a) a = M := by
  have hr := slot_refs hM h
  have ho := hold_ok hM h h0 (by omega)
  have hl : (holdM M a).slots.length = M.slots.length := by simp [holdM, setRefs]
  have hs : isSl (holdM M a) a = true := by rw [isSl_in] at h ⊢; rw [hl]; exact h
  have hrn : refsM (holdM M a) a = refsM M a + 1 := refs_hold h
  have e : letE (holdM M a) a = 0 := by
    unfold letE
    rw [if_neg (by rw [(chk_zero _).2 ho]; simp), hs, if_neg (by simp), if_neg (by omega)]
  refine ⟨e, ?_⟩
  unfold letM
  rw [if_pos e]
  have hp := putN_hold h h0
  unfold putN at hp
  rwa [if_neg (by omega)] at hp



end Go.Proofs.Ytdbilofhcadmoab.mm

/- An Add that goes on alone, as plain data: it maps its key, if that is not mapped and a slot is free. -/
namespace Go.Proofs.Ytdbilofhcadmoab.mm
set_option linter.unusedVariables false

def flowsOf (M : Mm) : List Fl := (allC M).map (flowAt M)

theorem run_go {nf : Mm → Fr → Fr} {nm : Mm → Fr → Mm} {k : Nat} {M : Mm} {f : Fr} (h : (nf M f).done = false) : run nf nm (k + 1) M f = run nf nm k (nm M f) (nf M f) := by
  show (if (nf M f).done then (nm M f, nf M f, true) else run nf nm k (nm M f) (nf M f)) = _
  rw [h]; rfl
theorem run_end {nf : Mm → Fr → Fr} {nm : Mm → Fr → Mm} {k : Nat} {M : Mm} {f : Fr} (h : (nf M f).done = true) : run nf nm (k + 1) M f = (nm M f, nf M f, true) := by
  show (if (nf M f).done then (nm M f, nf M f, true) else run nf nm k (nm M f) (nf M f)) = _
  rw [h]; rfl

theorem walk_same {S S' : List Sl} (h : ∀ n : Int, nextN S' n = nextN S n) : ∀ (k : Nat) (n : Int), walkL S' k n = walkL S k n ∧ walkE S' k n = walkE S k n
  | 0, n => ⟨rfl, rfl⟩
  | k + 1, n => by
    unfold walkL walkE
    rw [h n, (walk_same h k _).1, (walk_same h k _).2]
    exact ⟨rfl, rfl⟩

/- A change of a slot that is in no chain, and of what is free and locked. -/
theorem okc_off {M M' : Mm} {s : Int} (h : OkC M) (ho : Ok M') (hh : M'.heads = M.heads) (hn : M'.slots.length = M.slots.length) (hs : s ∉ allC M) (hs0 : 0 ≤ s)
    (hx : ∀ x : Int, x.toNat ≠ s.toNat → slotAt M' x = slotAt M x) (hnx : (slotAt M' s).next = (slotAt M s).next) :
    OkC M' ∧ (∀ b, chL M' b = chL M b) ∧ allC M' = allC M ∧ ∀ a ∈ allC M, slotAt M' a = slotAt M a := by
  have hnext : ∀ n : Int, nextN M'.slots n = nextN M.slots n := fun n => by
    by_cases e : (n - 1).toNat = s.toNat
    · have h1 : (slotAt M' s).next = (slotAt M s).next := hnx
      unfold slotAt at h1
      unfold nextN
      rw [e]; exact h1
    · have h1 := hx (n - 1) e
      unfold slotAt at h1
      unfold nextN
      rw [h1]
  have hL : ∀ b, chL M' b = chL M b := fun b => by unfold chL headM; rw [hn, hh]; exact (walk_same hnext _ _).1
  have hE : ∀ b, chE M' b = chE M b := fun b => by unfold chE headM; rw [hn, hh]; exact (walk_same hnext _ _).2
  have hA : allC M' = allC M := by unfold allC allTo; rw [hh]; exact flat_congr fun c _ => hL c
  have hat : ∀ a ∈ allC M, slotAt M' a = slotAt M a := fun a ha => hx a fun e => hs (by
    have := (h.allSlots a ha).1
    rw [show s = a by omega]; exact ha)
  refine ⟨⟨ho, fun b hb => ?_, fun b hb a ha => ?_, ?_⟩, hL, hA, hat⟩
  · rw [hh] at hb; rw [hE]; exact h.ends b hb
  · rw [hh] at hb
    rw [hL] at ha
    rw [hat a (mem_allC.2 ⟨b, hb, ha⟩), hh]
    exact h.held b hb a ha
  · rw [hA]
    have : (allC M).map (keyAt M') = (allC M).map (keyAt M) := List.map_congr_left fun a ha => by unfold keyAt; rw [hat a ha]
    rw [this]; exact h.keys

theorem flows_off {M M' : Mm} (hA : allC M' = allC M) (hat : ∀ a ∈ allC M, slotAt M' a = slotAt M a) : flowsOf M' = flowsOf M := by
  unfold flowsOf
  rw [hA]
  exact List.map_congr_left fun a ha => by unfold flowAt; rw [hat a ha]

theorem slotAt_setN {M : Mm} {S : List Sl} {F : List Int} {s : Int} {v : Sl} (hs : isSl M s = true) (hS : S = M.slots.set s.toNat v) (x : Int) : slotAt { M with slots := S, free := F } x = if x.toNat = s.toNat then v else slotAt M x := by
  obtain ⟨j, rfl, hj⟩ := (isSl_iff M s).1 hs
  subst hS
  unfold slotAt
  rw [List.getD_eq_getElem?_getD, List.getD_eq_getElem?_getD, Int.toNat_natCast, List.getElem?_set]
  by_cases e : j = x.toNat
  · subst e; simp [hj]
  · rw [if_neg e, if_neg (fun h => e h.symm)]

theorem free_off {M : Mm} (h : OkC M) {s : Int} (hr : refsM M s = 0) : s ∉ allC M := fun hm => by
  obtain ⟨b, hb, ha⟩ := mem_allC.1 hm
  exact (h.held b hb s ha).1 hr

theorem lock_okc {M : Mm} (h : OkC M) (b : Nat) {t : Int} (ht : -1 ≤ t ∧ t ≤ 4) : OkC (lockM M b t) := ⟨lock_ok h.ok b ht, h.ends, h.held, h.keys⟩

theorem chL_len {M : Mm} (h : OkC M) {b : Nat} (hb : b < M.heads.length) : (chL M b).length ≤ M.slots.length := by
  have h1 := few' M.slots.length (chL M b) (h.nodup hb) (h.slots hb)
  exact h1

theorem ad_walk {M : Mm} (hM : OkC M) {c : Cl} {b : Nat} (hb : b < M.heads.length) :
    ∀ (l : List Int) (k : Nat) (f : Fr), f.c = c → f.pl = 3 → f.done = false → Path M.slots f.cur l (-1 - (b : Int)) → (∀ a ∈ l, a ∈ chL M b) → 2 * l.length + 1 ≤ k →
      ∃ k' f', run adF (adM 0) k M f = run adF (adM 0) k' M f' ∧ k ≤ k' + (2 * l.length + 1) ∧ f'.c = c ∧ f'.done = false ∧ f'.slot = f.slot ∧ f'.pl = if l.any (fun a => keyAt M a == (c.a, c.b)) then 6 else 5 := by
  intro l
  induction l with
  | nil =>
    intro k f hc hp hd hpath hin hk
    obtain ⟨k, rfl⟩ : ∃ k0, k = k0 + 1 := ⟨k - 1, by omega⟩
    have hat : isAt M f = false := by
      have h1 : f.cur = -1 - (b : Int) := hpath.1
      cases h : isAt M f
      · rfl
      · rw [isAt_iff] at h; omega
    have e : adF M f = toF f 5 := by rw [adF3 hp]; unfold adSee; rw [hat]; rfl
    have em : adM 0 M f = M := adM_same (by omega)
    refine ⟨k, toF f 5, ?_, by simp, hc, hd, rfl, rfl⟩
    rw [run_go (by rw [e]; exact hd), e, em]
  | cons a l ih =>
    intro k f hc hp hd hpath hin hk
    obtain ⟨k, rfl⟩ : ∃ k0, k = k0 + 1 := ⟨k - 1, by omega⟩
    obtain ⟨h1, h2, h3⟩ := hpath
    have ha := hM.slots hb a (hin a (by simp))
    have hcur : f.cur - 1 = a := by omega
    have hat : isAt M f = true := isAt_iff.2 (by omega)
    have em : adM 0 M f = M := adM_same (by omega)
    have hkk : lkK (slotAt M a) f = (keyAt M a == (c.a, c.b)) := by
      unfold lkK keyAt
      rw [hc]
      rfl
    cases hkey : (keyAt M a == (c.a, c.b))
    · have e : adF M f = toF f 4 := by rw [adF3 hp]; unfold adSee; rw [hat, hcur, hkk, hkey]; rfl
      obtain ⟨k2, rfl⟩ : ∃ k2, k = k2 + 1 := ⟨k - 1, by simp only [List.length_cons] at hk; omega⟩
      have e2 : adF M (toF f 4) = curF (toF f 4) (slotAt M a).next 3 := by
        rw [adF4 rfl]; unfold adPass
        rw [if_pos (show isAt M (toF f 4) = true from hat)]
        show curF (toF f 4) (slotAt M (f.cur - 1)).next 3 = _
        rw [hcur]
      have em2 : adM 0 M (toF f 4) = M := adM_same (by simp [toF])
      obtain ⟨k', f', r1, r2, r3, r4, r5, r6⟩ := ih k2 (curF (toF f 4) (slotAt M a).next 3) hc rfl hd h3 (fun x hx => hin x (by simp [hx])) (by simp only [List.length_cons] at hk; omega)
      refine ⟨k', f', ?_, by simp only [List.length_cons]; omega, r3, r4, r5, ?_⟩
      · rw [run_go (by rw [e]; exact hd), e, em, run_go (by rw [e2]; exact hd), e2, em2]
        exact r1
      · rw [r6, List.any_cons, hkey]
        rfl
    · have e : adF M f = toF f 6 := by rw [adF3 hp]; unfold adSee; rw [hat, hcur, hkk, hkey]; rfl
      refine ⟨k, toF f 6, ?_, by simp only [List.length_cons]; omega, hc, hd, rfl, ?_⟩
      · rw [run_go (by rw [e]; exact hd), e, em]
      · rw [List.any_cons, hkey]
        rfl

def Added (M : Mm) (c : Cl) (X : Mm) (g : Fr) : Prop :=
  if M.free.length = 0 then X = M ∧ g.e = 7
  else if hasK M (allC M) (c.a, c.b) then g.e = 6 ∧ OkC X ∧ X.free = M.free ∧ X.locks = M.locks ∧ flowsOf X = flowsOf M
  else g.e = 0 ∧ OkC X ∧ X.locks = M.locks ∧ (flowsOf X).length = (flowsOf M).length + 1 ∧ (⟨c.a, c.b, g.slot, if 2000000 < M.now + c.time then 2000000 else M.now + c.time⟩ : Fl) ∈ flowsOf X ∧ ∀ f ∈ flowsOf M, f ∈ flowsOf X

theorem bk_of {M : Mm} (hM : Ok M) {c : Cl} (hk : ¬ (c.kind = 4 ∨ c.kind = 5)) (hkey : keyB c.a c.b = true) : bkOf M.heads.length c = bucket c.a c.b M.heads.length := by
  obtain ⟨n1, n2⟩ := hM.nh
  unfold bkOf
  rw [if_neg hk, if_pos hkey, if_pos ⟨n1, n2⟩]

theorem set_back {l : List Int} {b : Nat} {t : Int} (h : ∀ x ∈ l, x = -1) : (l.set b t).set b (-1) = l := by
  rw [List.set_set]
  apply List.ext_getElem?
  intro i
  rw [List.getElem?_set]
  by_cases e : b = i
  · subst e
    rw [if_pos rfl]
    by_cases hb : b < l.length
    · rw [if_pos hb, List.getElem?_eq_getElem hb, h _ (List.getElem_mem hb)]
    · rw [if_neg hb, List.getElem?_eq_none (by omega)]
  · rw [if_neg e]

theorem lockAt_set {M : Mm} {b : Nat} {t : Int} (hb : b < M.locks.length) : lockAt (lockM M b t) b = t := by
  unfold lockAt lockM
  simp [List.getD_eq_getElem?_getD, hb]

set_option maxHeartbeats 1600000 in
theorem ad_all {M : Mm} (hM : OkC M) (hlk : ∀ x ∈ M.locks, x = -1) {ka kb tm : Int} (hkey : keyB ka kb = true) (ht : 1 ≤ tm ∧ tm ≤ 1000000) :
    ∃ X g, run adF (adM 0) (2 * M.slots.length + 7) M (newF ⟨2, ka, kb, tm, 0, 0⟩) = (X, g, true) ∧ Added M ⟨2, ka, kb, tm, 0, 0⟩ X g := by
  obtain ⟨c, hc⟩ : ∃ c : Cl, c = ⟨2, ka, kb, tm, 0, 0⟩ := ⟨_, rfl⟩
  have hca : c.a = ka ∧ c.b = kb ∧ c.kind = 2 ∧ c.time = tm := by rw [hc]; exact ⟨rfl, rfl, rfl, rfl⟩
  rw [← hc]
  by_cases hF : M.free.length = 0
  · have e : adF M (newF c) = endF (newF c) 7 := by rw [adF0 rfl]; unfold adTake; rw [if_pos hF]
    have em : adM 0 M (newF c) = M := by rw [adM0 rfl]; unfold adTakeM; rw [if_pos hF]
    refine ⟨M, endF (newF c) 7, ?_, ?_⟩
    · rw [run_end (by rw [e]; rfl), e, em]
    · unfold Added; rw [if_pos hF]; exact ⟨rfl, rfl⟩
  have hF' : 0 < M.free.length := by omega
  obtain ⟨l0, l1, l2⟩ := last_ok hM.ok hF'
  have hfs := free_split hF'
  obtain ⟨s, hs⟩ : ∃ s, s = lastF M := ⟨_, rfl⟩
  rw [← hs] at l0 l1 l2 hfs
  obtain ⟨u, hu⟩ : ∃ u, u = untA M (newF c) := ⟨_, rfl⟩
  have hsl : isSl M s = true := isSl_in.2 ⟨l0, l1⟩
  have hoff : s ∉ allC M := free_off hM l2
  obtain ⟨M1, hM1⟩ : ∃ M1, M1 = takeM M ka kb u := ⟨_, rfl⟩
  have hs1 : ∀ x : Int, slotAt M1 x = if x.toNat = s.toNat then ⟨1, ka, kb, u, false, (slotAt M s).next⟩ else slotAt M x := fun x => by
    rw [hM1]; exact slotAt_setN hsl (by rw [hs]; rfl) x
  have ok1 : Ok M1 := by
    rw [hM1]
    refine take_ok hM.ok hkey ?_ hF'
    rw [hu]
    exact untA_in hM.ok (by show 1 ≤ c.time; rw [hca.2.2.2]; exact ht.1)
  have h1h : M1.heads = M.heads := by rw [hM1]; rfl
  have h1l : M1.locks = M.locks := by rw [hM1]; rfl
  have h1n : M1.slots.length = M.slots.length := by rw [hM1]; simp [takeM]
  have h1f : M1.free ++ [s] = M.free := by rw [hM1, hfs]; simp [takeM]
  obtain ⟨oc1, hL1, hA1, hat1⟩ := okc_off hM ok1 h1h h1n hoff l0 (fun x hx => by rw [hs1, if_neg hx]) (by rw [hs1, if_pos rfl])
  have hbk := bk_of hM.ok (c := c) (by rw [hca.2.2.1]; omega) (by rw [hca.1, hca.2.1]; exact hkey)
  have hbi := bucket_in c.a c.b hM.ok.nh.1
  obtain ⟨b, hb⟩ : ∃ b, b = bkN M (newF c) := ⟨_, rfl⟩
  have hbe : (b : Int) = bucket ka kb M.heads.length := by
    rw [hb]
    show ((bkOf M.heads.length c).toNat : Int) = _
    rw [hbk, Int.toNat_of_nonneg hbi.1, hca.1, hca.2.1]
  have hbl : b < M.heads.length := by rw [hca.1, hca.2.1] at hbi; omega
  have hbn : ∀ (N : Mm) (f : Fr), N.heads.length = M.heads.length → f.c = c → bkN N f = b := fun N f h1 h2 => by
    rw [hb]; unfold bkN; rw [h1, h2]; rfl
  have hbk1 : b < M1.locks.length := by rw [h1l, hM.ok.nl]; exact hbl
  obtain ⟨M2, hM2⟩ : ∃ M2, M2 = lockM M1 b 0 := ⟨_, rfl⟩
  have oc2 : OkC M2 := by rw [hM2]; exact lock_okc oc1 b (by omega)
  have h2s : M2.slots = M1.slots := by rw [hM2]; rfl
  have h2h : M2.heads = M1.heads := by rw [hM2]; rfl
  have h2f : M2.free = M1.free := by rw [hM2]; rfl
  have h2l : M2.locks = M1.locks.set b 0 := by rw [hM2]; rfl
  have hat2 : ∀ x, slotAt M2 x = slotAt M1 x := fun x => by unfold slotAt; rw [h2s]
  have hL2 : ∀ d, chL M2 d = chL M d := fun d => by rw [← hL1 d]; unfold chL headM; rw [h2s, h2h]
  have hA2 : allC M2 = allC M := by rw [← hA1]; unfold allC allTo; rw [h2h]; exact flat_congr fun d _ => by rw [hL2, hL1]
  have hn2 : M2.heads.length = M.heads.length := by rw [h2h, h1h]
  have hss2 : slotAt M2 s = ⟨1, ka, kb, u, false, (slotAt M s).next⟩ := by rw [hat2, hs1, if_pos rfl]
  have hsl2 : isSl M2 s = true := by rw [isSl_in, h2s, h1n]; exact ⟨l0, l1⟩
  have hat20 : ∀ a ∈ allC M, slotAt M2 a = slotAt M a := fun a ha => by rw [hat2]; exact hat1 a ha
  obtain ⟨f1, hf1⟩ : ∃ f, f = handF (newF c) s 1 := ⟨_, rfl⟩
  have c1 : f1.c = c := by rw [hf1]; rfl
  have p1 : f1.pl = 1 := by rw [hf1]; rfl
  have d1 : f1.done = false := by rw [hf1]; rfl
  have e0 : adF M (newF c) = f1 := by rw [adF0 rfl]; unfold adTake; rw [if_neg hF, hf1, hs]
  have em0 : adM 0 M (newF c) = M1 := by
    rw [adM0 rfl]; unfold adTakeM
    rw [if_neg hF, ← hu, hM1]
    show takeM M c.a c.b u = _
    rw [hca.1, hca.2.1]
  have hlock : lockAt M1 (bkN M1 f1) = -1 := by
    rw [hbn M1 f1 (by rw [h1h]) c1]
    unfold lockAt
    rw [List.getD_eq_getElem?_getD, List.getElem?_eq_getElem hbk1]
    exact hlk _ (by rw [← h1l]; exact List.getElem_mem _)
  have e1 : adF M1 f1 = toF f1 2 := by rw [adF1 p1]; unfold adLock; rw [if_pos hlock]
  have em1 : adM 0 M1 f1 = M2 := by rw [adM1 p1]; unfold adLockM; rw [if_pos hlock, hbn M1 f1 (by rw [h1h]) c1, hM2]
  obtain ⟨f3, hf3⟩ : ∃ f, f = curF (toF f1 2) (headM M2 b) 3 := ⟨_, rfl⟩
  have e2 : adF M2 (toF f1 2) = f3 := by rw [adF2 rfl, hbn M2 (toF f1 2) hn2 c1, hf3]
  have em2 : adM 0 M2 (toF f1 2) = M2 := adM_same (by simp [toF])
  have hlen := chL_len oc2 (b := b) (by rw [hn2]; exact hbl)
  rw [h2s, h1n] at hlen
  obtain ⟨k', f4, r1, r2, r3, r4, r5, r6⟩ := ad_walk oc2 (c := c) (b := b) (by rw [hn2]; exact hbl) (chL M2 b) (2 * M.slots.length + 4) f3 (by rw [hf3]; exact c1) (by rw [hf3]; rfl) (by rw [hf3]; exact d1)
    (by have := oc2.path (b := b) (by rw [hn2]; exact hbl); rw [hf3]; exact this) (fun a h => h) (by omega)
  have hs4 : f4.slot = s := by rw [r5, hf3, hf1]; rfl
  have hrun : run adF (adM 0) (2 * M.slots.length + 7) M (newF c) = run adF (adM 0) k' M2 f4 := by
    rw [show 2 * M.slots.length + 7 = (2 * M.slots.length + 6) + 1 by omega, run_go (by rw [e0]; exact d1), e0, em0,
      show 2 * M.slots.length + 6 = (2 * M.slots.length + 5) + 1 by omega, run_go (by rw [e1]; exact d1), e1, em1,
      show 2 * M.slots.length + 5 = (2 * M.slots.length + 4) + 1 by omega, run_go (by rw [e2, hf3]; exact d1), e2, em2]
    exact r1
  obtain ⟨k2, rfl⟩ : ∃ k2, k' = k2 + 2 := ⟨k' - 2, by omega⟩
  have hany : (chL M2 b).any (fun a => keyAt M2 a == (c.a, c.b)) = hasK M (allC M) (c.a, c.b) := by
    rw [Bool.eq_iff_iff, List.any_eq_true, hasK_iff, List.mem_map]
    constructor
    · rintro ⟨a, ha, he⟩
      rw [hL2] at ha
      have hm : a ∈ allC M := mem_allC.2 ⟨b, hbl, ha⟩
      refine ⟨a, hm, ?_⟩
      have : keyAt M2 a = (c.a, c.b) := by simpa using he
      rw [← this]; unfold keyAt; rw [hat20 a hm]
    · rintro ⟨a, hm, he⟩
      obtain ⟨b', hb', ha⟩ := mem_allC.1 hm
      have hbu := (hM.held b' hb' a ha).2.2
      have hk1 : (slotAt M a).a = c.a ∧ (slotAt M a).b = c.b := by unfold keyAt at he; simpa using he
      rw [hk1.1, hk1.2, hca.1, hca.2.1, ← hbe] at hbu
      have hbb : b = b' := by omega
      subst hbb
      refine ⟨a, by rw [hL2]; exact ha, ?_⟩
      have : keyAt M2 a = (c.a, c.b) := by rw [← he]; unfold keyAt; rw [hat20 a hm]
      rw [this]; exact beq_self_eq_true _
  rw [hany] at r6
  rw [hrun]
  cases hk : hasK M (allC M) (c.a, c.b)
  · rw [hk] at r6
    have p4 : f4.pl = 5 := by simpa using r6
    have hown : ownB M2 s = b := by unfold ownB; rw [hss2, hn2]; show (bucket ka kb M.heads.length).toNat = b; omega
    obtain ⟨M3, hM3⟩ : ∃ M3, M3 = linkM M2 s := ⟨_, rfl⟩
    have hr2 : refsM M2 s ≠ 0 := by show (slotAt M2 s).refs ≠ 0; rw [hss2]; simp
    have hk2 : hasK M2 (allC M2) (keyAt M2 s) = false := by
      rw [← hk]
      have e1 : keyAt M2 s = (c.a, c.b) := by unfold keyAt; rw [hss2, hca.1, hca.2.1]
      unfold hasK
      rw [e1, hA2]
      congr 1
      exact List.map_congr_left fun a ha => by unfold keyAt; rw [hat20 a ha]
    have L := link_ok oc2 hsl2 hr2 hk2
    rw [← hM3, hown] at L
    have hp := linked_perm (by rw [hn2]; exact hbl) L
    obtain ⟨f5, hf5⟩ : ∃ f : Fr, f = { f4 with e := 0, pl := 7 } := ⟨_, rfl⟩
    have e4 : adF M2 f4 = f5 := by rw [adF5 p4]; unfold adLink; rw [if_pos (by rw [hs4]; exact hsl2), hf5]
    have em4 : adM 0 M2 f4 = M3 := by
      rw [adM5 p4]; unfold adLinkM
      rw [hs4, if_pos hsl2, hbn M2 f4 hn2 r3, hM3]
      unfold linkM linkB
      rw [hown]
    have c5 : f5.c = c := by rw [hf5]; exact r3
    have h3h : M3.heads.length = M.heads.length := by rw [L.nh, hn2]
    have h3l : M3.locks = M1.locks.set b 0 := by rw [hM3, ← h2l]; rfl
    have e5 : adF M3 f5 = endF f5 0 := by rw [adF7 (by rw [hf5]), hf5]
    have hl3 : lockAt M3 b = 0 := by unfold lockAt; rw [h3l]; simp [List.getD_eq_getElem?_getD, hbk1]
    have em5 : adM 0 M3 f5 = lockM M3 b (-1) := by rw [adM7 (by rw [hf5])]; unfold adOpenM; rw [hbn M3 f5 h3h c5, if_pos hl3]
    refine ⟨lockM M3 b (-1), endF f5 0, ?_, ?_⟩
    · rw [run_go (by rw [e4, hf5]; exact r4), e4, em4, run_end (by rw [e5]; rfl), e5, em5]
    · unfold Added
      rw [if_neg hF, hk, if_neg (by simp)]
      have hflow : ∀ a ∈ allC M, flowAt (lockM M3 b (-1)) a = flowAt M a := fun a ha => by
        show flowAt M3 a = flowAt M a
        unfold flowAt
        have h1 := L.key a
        unfold keyAt at h1
        rw [hat20 a ha] at h1
        simp only [Prod.mk.injEq] at h1
        rw [h1.1, h1.2, L.unt, hat20 a ha]
      refine ⟨rfl, lock_okc L.okc b (by omega), ?_, ?_, ?_, ?_⟩
      · show M3.locks.set b (-1) = M.locks
        rw [h3l, h1l]; exact set_back hlk
      · show ((allC M3).map _).length = ((allC M).map _).length + 1
        rw [List.length_map, List.length_map, hp.length_eq, List.length_cons, hA2]
      · show _ ∈ (allC M3).map (flowAt (lockM M3 b (-1)))
        refine List.mem_map.2 ⟨s, hp.mem_iff.2 (by simp), ?_⟩
        show flowAt M3 s = _
        have g5 : (endF f5 0).slot = s := by rw [hf5]; exact hs4
        have h1 := L.key s
        unfold keyAt at h1
        rw [hss2] at h1
        simp only [Prod.mk.injEq] at h1
        unfold flowAt
        rw [h1.1, h1.2, L.unt, hss2, g5, hca.1, hca.2.1, hu]
        rfl
      · intro x hx
        obtain ⟨a, ha, rfl⟩ := List.mem_map.1 hx
        refine List.mem_map.2 ⟨a, ?_, hflow a ha⟩
        show a ∈ allC M3
        exact hp.mem_iff.2 (by rw [hA2]; simp [ha])
  · rw [hk] at r6
    have p4 : f4.pl = 6 := by simpa using r6
    have hr2 : refsM M2 s = 1 := by show (slotAt M2 s).refs = 1; rw [hss2]
    obtain ⟨M3, hM3⟩ : ∃ M3, M3 = putN M2 s := ⟨_, rfl⟩
    have ok3 : Ok M3 := by rw [hM3]; exact putN_ok oc2.ok hsl2
    have hM3' : M3 = { M2 with slots := setRefs M2 s 0, free := M2.free ++ [s] } := by
      rw [hM3]; unfold putN; rw [if_neg (by omega)]; unfold putM; rw [if_pos hr2, hr2]; rfl
    have hs3 : ∀ x : Int, slotAt M3 x = if x.toNat = s.toNat then { slotAt M2 s with refs := 0 } else slotAt M2 x := fun x => by
      rw [hM3']; exact slotAt_setN hsl2 rfl x
    have h3h : M3.heads = M2.heads := by rw [hM3']
    have h3l : M3.locks = M1.locks.set b 0 := by rw [hM3', ← h2l]
    obtain ⟨oc3, hL3, hA3, hat3⟩ := okc_off oc2 ok3 h3h (by rw [hM3']; simp [setRefs]) (by rw [hA2]; exact hoff) l0 (fun x hx => by rw [hs3, if_neg hx]) (by rw [hs3, if_pos rfl])
    obtain ⟨f5, hf5⟩ : ∃ f : Fr, f = { f4 with slot := -1, e := 6, pl := 7 } := ⟨_, rfl⟩
    have e4 : adF M2 f4 = f5 := by rw [adF6 p4]; unfold adPut; rw [hs4, if_pos hsl2, hf5]
    have em4 : adM 0 M2 f4 = M3 := by rw [adM6 p4]; unfold adPutM; rw [hs4, if_pos hsl2, hM3]
    have c5 : f5.c = c := by rw [hf5]; exact r3
    have e5 : adF M3 f5 = endF f5 6 := by rw [adF7 (by rw [hf5]), hf5]
    have hl3 : lockAt M3 b = 0 := by unfold lockAt; rw [h3l]; simp [List.getD_eq_getElem?_getD, hbk1]
    have em5 : adM 0 M3 f5 = lockM M3 b (-1) := by rw [adM7 (by rw [hf5])]; unfold adOpenM; rw [hbn M3 f5 (by rw [h3h, hn2]) c5, if_pos hl3]
    refine ⟨lockM M3 b (-1), endF f5 6, ?_, ?_⟩
    · rw [run_go (by rw [e4, hf5]; exact r4), e4, em4, run_end (by rw [e5]; rfl), e5, em5]
    · unfold Added
      rw [if_neg hF, hk, if_pos rfl]
      refine ⟨rfl, lock_okc oc3 b (by omega), ?_, ?_, ?_⟩
      · show M3.free = M.free
        rw [hM3']
        show M2.free ++ [s] = M.free
        rw [h2f]; exact h1f
      · show M3.locks.set b (-1) = M.locks
        rw [h3l, h1l]; exact set_back hlk
      · show flowsOf M3 = flowsOf M
        refine flows_off (by rw [hA3, hA2]) fun a ha => ?_
        rw [hat3 a (by rw [hA2]; exact ha), hat20 a ha]



end Go.Proofs.Ytdbilofhcadmoab.mm

/- A Drop that goes on alone, as plain data: its key is not mapped then, all else is as it was. -/
namespace Go.Proofs.Ytdbilofhcadmoab.mm
set_option linter.unusedVariables false

/- A run that comes to its end in time, through memory that is right all the way. -/
def Goes (nf : Mm → Fr → Fr) (nm : Mm → Fr → Mm) : Nat → Mm → Fr → Mm → Fr → Prop
  | 0, _, _, _, _ => False
  | k + 1, M, f, X, g => Ok M ∧ (((nf M f).done = true ∧ X = nm M f ∧ g = nf M f) ∨ ((nf M f).done = false ∧ Goes nf nm k (nm M f) (nf M f) X g))
theorem goes_step {nf : Mm → Fr → Fr} {nm : Mm → Fr → Mm} {k : Nat} {M N X : Mm} {f f' g : Fr} (h : Ok M) (e : nf M f = f') (em : nm M f = N) (hd : f'.done = false) (hg : Goes nf nm k N f' X g) : Goes nf nm (k + 1) M f X g := by
  subst e em
  exact ⟨h, .inr ⟨hd, hg⟩⟩
theorem goes_end {nf : Mm → Fr → Fr} {nm : Mm → Fr → Mm} {k : Nat} {M N : Mm} {f f' : Fr} (h : Ok M) (e : nf M f = f') (em : nm M f = N) (hd : f'.done = true) : Goes nf nm (k + 1) M f N f' := by
  subst e em
  exact ⟨h, .inl ⟨hd, rfl, rfl⟩⟩
theorem goes_run {nf : Mm → Fr → Fr} {nm : Mm → Fr → Mm} : ∀ {k : Nat} {M X : Mm} {f g : Fr}, Goes nf nm k M f X g → run nf nm k M f = (X, g, true)
  | 0, _, _, _, _, h => h.elim
  | k + 1, M, X, f, g, ⟨_, .inl ⟨hd, hX, hg⟩⟩ => by rw [run_end hd, hX, hg]
  | k + 1, M, X, f, g, ⟨_, .inr ⟨hd, h⟩⟩ => by rw [run_go hd, goes_run h]

def lastP (l : List Int) : Int := match l.getLast? with | none => 0 | some p => p + 1
theorem lastP_snoc (l : List Int) (a : Int) : lastP (l ++ [a]) = a + 1 := by simp [lastP]

theorem dr_walk {M : Mm} (hM : OkC M) {c : Cl} {b : Nat} (hb : b < M.heads.length) :
    ∀ (l l1 : List Int) (k : Nat) (f : Fr), chL M b = l1 ++ l → f.c = c → f.pl = 2 → f.done = false → f.prev = lastP l1 → Path M.slots f.cur l (-1 - (b : Int)) → 2 * l.length + 1 ≤ k →
      ∃ k' f', (∀ X g, Goes drF (drM 0) k' M f' X g → Goes drF (drM 0) k M f X g) ∧ k ≤ k' + (2 * l.length + 1) ∧ f'.c = c ∧ f'.done = false ∧ f'.slot = f.slot ∧
        match l.find? (fun a => keyAt M a == (c.a, c.b)) with
        | none => f'.pl = 5 ∧ f'.e = 5
        | some a => f'.pl = 4 ∧ f'.cur = a + 1 ∧ ∃ m1 m2, chL M b = m1 ++ a :: m2 ∧ f'.prev = lastP m1 := by
  intro l
  induction l with
  | nil =>
    intro l1 k f hl hc hp hd hpr hpath hk
    obtain ⟨k, rfl⟩ : ∃ k0, k = k0 + 1 := ⟨k - 1, by omega⟩
    have hat : isAt M f = false := by
      have h1 : f.cur = -1 - (b : Int) := hpath.1
      cases h : isAt M f
      · rfl
      · rw [isAt_iff] at h; omega
    have e : drF M f = errF f 5 5 := by rw [drF2 hp]; unfold drSee; rw [hat]; rfl
    have em : drM 0 M f = M := drM_same (by omega)
    exact ⟨k, errF f 5 5, fun X g h => goes_step hM.ok e em hd h, by simp, hc, hd, rfl, rfl, rfl⟩
  | cons a l ih =>
    intro l1 k f hl hc hp hd hpr hpath hk
    obtain ⟨k, rfl⟩ : ∃ k0, k = k0 + 1 := ⟨k - 1, by omega⟩
    obtain ⟨h1, h2, h3⟩ := hpath
    have ha := hM.slots hb a (by rw [hl]; simp)
    have hcur : f.cur - 1 = a := by omega
    have hat : isAt M f = true := isAt_iff.2 (by omega)
    have em : drM 0 M f = M := drM_same (by omega)
    have hkk : lkK (slotAt M a) f = (keyAt M a == (c.a, c.b)) := by
      unfold lkK keyAt
      rw [hc]
      rfl
    cases hkey : (keyAt M a == (c.a, c.b))
    · have e : drF M f = toF f 3 := by rw [drF2 hp]; unfold drSee; rw [hat, hcur, hkk, hkey]; rfl
      obtain ⟨k2, rfl⟩ : ∃ k2, k = k2 + 1 := ⟨k - 1, by simp only [List.length_cons] at hk; omega⟩
      have e2 : drF M (toF f 3) = prevF2 (toF f 3) f.cur (slotAt M a).next 2 := by
        rw [drF3 rfl]; unfold drPass
        rw [if_pos (show isAt M (toF f 3) = true from hat)]
        show prevF2 (toF f 3) f.cur (slotAt M (f.cur - 1)).next 2 = _
        rw [hcur]
      have em2 : drM 0 M (toF f 3) = M := drM_same (by simp [toF])
      obtain ⟨k', f', r1, r2, r3, r4, r5, r6⟩ := ih (l1 ++ [a]) k2 (prevF2 (toF f 3) f.cur (slotAt M a).next 2) (by rw [hl]; simp) hc rfl hd (by rw [lastP_snoc]; show f.cur = a + 1; omega) h3 (by simp only [List.length_cons] at hk; omega)
      refine ⟨k', f', fun X g h => goes_step hM.ok e em hd (goes_step hM.ok e2 em2 hd (r1 X g h)), by simp only [List.length_cons]; omega, r3, r4, r5, ?_⟩
      rw [List.find?_cons_of_neg (by rw [hkey]; simp)]
      exact r6
    · have e : drF M f = toF f 4 := by rw [drF2 hp]; unfold drSee; rw [hat, hcur, hkk, hkey]; rfl
      refine ⟨k, toF f 4, fun X g h => goes_step hM.ok e em hd h, by simp only [List.length_cons]; omega, hc, hd, rfl, ?_⟩
      rw [List.find?_cons_of_pos (by rw [hkey])]
      exact ⟨rfl, by show f.cur = a + 1; omega, l1, l, hl, hpr⟩

theorem cutted_all {M M' : Mm} {a : Int} {b : Nat} (hb : b < M.heads.length) (C : Cutted M M' a b) : ∃ p q, allC M = p ++ a :: q ∧ allC M' = p ++ q := by
  obtain ⟨l1, l2, e1, e2⟩ := C.at_
  obtain ⟨r1, s1, t1⟩ := allC_split M hb
  obtain ⟨r2, s2, t2⟩ := allC_split M' (b := b) (by rw [C.nh]; exact hb)
  have hA : allTo M' b = allTo M b := by
    unfold allTo
    exact flat_congr fun c hc => C.else_ c (by have := List.mem_range.1 hc; omega) (by have := List.mem_range.1 hc; omega)
  have hR : r2 = r1 := by
    rw [t2, t1, C.nh]
    refine flat_congr fun c hc => ?_
    obtain ⟨d, hd, rfl⟩ := List.mem_map.1 hc
    have := List.mem_range.1 hd
    exact C.else_ _ (by omega) (by omega)
  refine ⟨allTo M b ++ l1, l2 ++ r1, ?_, ?_⟩
  · rw [s1, e1]; simp
  · rw [s2, e2, hA, hR]; simp

def Dropped (M : Mm) (c : Cl) (X : Mm) (g : Fr) : Prop :=
  if hasK M (allC M) (c.a, c.b) then ∃ a p q, allC M = p ++ a :: q ∧ keyAt M a = (c.a, c.b) ∧ g.e = 0 ∧ OkC X ∧ X.locks = M.locks ∧ X.slots.length = M.slots.length ∧ flowsOf X = (p ++ q).map (flowAt M) ∧ refsM X a = refsM M a - 1
  else X = M ∧ g.e = 5

set_option maxHeartbeats 1600000 in
theorem dr_all {M : Mm} (hM : OkC M) (hlk : ∀ x ∈ M.locks, x = -1) {ka kb : Int} (hkey : keyB ka kb = true) :
    ∃ X g, Goes drF (drM 0) (2 * M.slots.length + 6) M (newF ⟨3, ka, kb, 0, 0, 0⟩) X g ∧ Dropped M ⟨3, ka, kb, 0, 0, 0⟩ X g := by
  obtain ⟨c, hc⟩ : ∃ c : Cl, c = ⟨3, ka, kb, 0, 0, 0⟩ := ⟨_, rfl⟩
  have hca : c.a = ka ∧ c.b = kb ∧ c.kind = 3 := by rw [hc]; exact ⟨rfl, rfl, rfl⟩
  rw [← hc]
  have hbk := bk_of hM.ok (c := c) (by rw [hca.2.2]; omega) (by rw [hca.1, hca.2.1]; exact hkey)
  have hbi := bucket_in c.a c.b hM.ok.nh.1
  obtain ⟨b, hb⟩ : ∃ b, b = bkN M (newF c) := ⟨_, rfl⟩
  have hbe : (b : Int) = bucket ka kb M.heads.length := by
    rw [hb]
    show ((bkOf M.heads.length c).toNat : Int) = _
    rw [hbk, Int.toNat_of_nonneg hbi.1, hca.1, hca.2.1]
  have hbl : b < M.heads.length := by rw [hca.1, hca.2.1] at hbi; omega
  have hbn : ∀ (N : Mm) (f : Fr), N.heads.length = M.heads.length → f.c = c → bkN N f = b := fun N f h1 h2 => by
    rw [hb]; unfold bkN; rw [h1, h2]; rfl
  have hbk1 : b < M.locks.length := by rw [hM.ok.nl]; exact hbl
  obtain ⟨M2, hM2⟩ : ∃ M2, M2 = lockM M b 0 := ⟨_, rfl⟩
  have oc2 : OkC M2 := by rw [hM2]; exact lock_okc hM b (by omega)
  have h2s : M2.slots = M.slots := by rw [hM2]; rfl
  have h2h : M2.heads = M.heads := by rw [hM2]; rfl
  have h2f : M2.free = M.free := by rw [hM2]; rfl
  have h2l : M2.locks = M.locks.set b 0 := by rw [hM2]; rfl
  have hn2 : M2.heads.length = M.heads.length := by rw [h2h]
  have hat2 : ∀ x, slotAt M2 x = slotAt M x := fun x => by unfold slotAt; rw [h2s]
  have hky2 : ∀ x, keyAt M2 x = keyAt M x := fun x => by unfold keyAt; rw [hat2]
  have hL2 : ∀ d, chL M2 d = chL M d := fun d => by unfold chL headM; rw [h2s, h2h]
  have hA2 : allC M2 = allC M := by unfold allC allTo; rw [h2h]; exact flat_congr fun d _ => hL2 d
  have hlock : lockAt M (bkN M (newF c)) = -1 := by
    rw [← hb]
    unfold lockAt
    rw [List.getD_eq_getElem?_getD, List.getElem?_eq_getElem hbk1]
    exact hlk _ (List.getElem_mem _)
  have e0 : drF M (newF c) = toF (newF c) 1 := by rw [drF0 rfl]; unfold drLock; rw [if_pos hlock]
  have em0 : drM 0 M (newF c) = M2 := by rw [drM0 rfl]; unfold adLockM; rw [if_pos hlock, ← hb, hM2]
  obtain ⟨f2, hf2⟩ : ∃ f, f = prevF2 (toF (newF c) 1) 0 (headM M2 b) 2 := ⟨_, rfl⟩
  have e1 : drF M2 (toF (newF c) 1) = f2 := by rw [drF1 rfl, hbn M2 (toF (newF c) 1) hn2 rfl, hf2]
  have em1 : drM 0 M2 (toF (newF c) 1) = M2 := drM_same (by simp [toF])
  have hlen := chL_len oc2 (b := b) (by rw [hn2]; exact hbl)
  rw [h2s] at hlen
  obtain ⟨k', f3, r1, r2, r3, r4, r5, r6⟩ := dr_walk oc2 (c := c) (b := b) (by rw [hn2]; exact hbl) (chL M2 b) [] (2 * M.slots.length + 4) f2 rfl (by rw [hf2]; rfl) (by rw [hf2]; rfl) (by rw [hf2]; rfl) (by rw [hf2]; rfl)
    (by have := oc2.path (b := b) (by rw [hn2]; exact hbl); rw [hf2]; exact this) (by omega)
  have hs3 : f3.slot = -1 := by rw [r5, hf2]; rfl
  have hgo : ∀ X g, Goes drF (drM 0) k' M2 f3 X g → Goes drF (drM 0) (2 * M.slots.length + 6) M (newF c) X g := fun X g h => by
    rw [show 2 * M.slots.length + 6 = (2 * M.slots.length + 4) + 1 + 1 by omega]
    exact goes_step hM.ok e0 em0 rfl (goes_step oc2.ok e1 em1 (by rw [hf2]; rfl) (r1 X g h))
  have hk'' : 3 ≤ k' := by omega
  cases hfd : (chL M2 b).find? (fun a => keyAt M2 a == (c.a, c.b)) with
  | none =>
    rw [hfd] at r6
    obtain ⟨p3, e3'⟩ := r6
    obtain ⟨k2, rfl⟩ : ∃ k2, k' = k2 + 2 := ⟨k' - 2, by omega⟩
    have hk : hasK M (allC M) (c.a, c.b) = false := by
      cases hk : hasK M (allC M) (c.a, c.b)
      · rfl
      · exfalso
        rw [hasK_iff, List.mem_map] at hk
        obtain ⟨a, hm, he⟩ := hk
        obtain ⟨b', hb', ha⟩ := mem_allC.1 hm
        have hbu := (hM.held b' hb' a ha).2.2
        have hk1 : (slotAt M a).a = c.a ∧ (slotAt M a).b = c.b := by unfold keyAt at he; simpa using he
        rw [hk1.1, hk1.2, hca.1, hca.2.1, ← hbe] at hbu
        have hbb : b = b' := by omega
        subst hbb
        have := List.find?_eq_none.1 hfd a (by rw [hL2]; exact ha)
        rw [hky2, he] at this
        simp at this
    have hl2 : lockAt M2 b = 0 := by unfold lockAt; rw [h2l]; simp [List.getD_eq_getElem?_getD, hbk1]
    have hback : lockM M2 b (-1) = M := by
      rw [hM2]; unfold lockM; dsimp only
      rw [set_back hlk]
    have e3 : drF M2 f3 = toF f3 6 := drF5 p3
    have em3 : drM 0 M2 f3 = M := by rw [drM5 p3]; unfold adOpenM; rw [hbn M2 f3 hn2 r3, if_pos hl2, hback]
    have e4 : drF M (toF f3 6) = endF { toF f3 6 with slot := -1 } (toF f3 6).e := drF6 rfl
    have em4 : drM 0 M (toF f3 6) = M := by
      rw [drM6 rfl]; unfold drPutM
      rw [if_neg (by
        show ¬ isSl M f3.slot = true
        rw [hs3, isSl_in]; omega)]
    refine ⟨M, endF { toF f3 6 with slot := -1 } (toF f3 6).e, hgo _ _ (goes_step oc2.ok e3 em3 r4 (goes_end hM.ok e4 em4 rfl)), ?_⟩
    unfold Dropped
    rw [hk, if_neg (by simp)]
    exact ⟨rfl, e3'⟩
  | some a =>
    rw [hfd] at r6
    obtain ⟨p3, hcu, m1, m2, hm, hpv⟩ := r6
    obtain ⟨k2, rfl⟩ : ∃ k2, k' = k2 + 3 := ⟨k' - 3, by omega⟩
    have hach : a ∈ chL M2 b := List.mem_of_find?_eq_some hfd
    have hka : keyAt M2 a = (c.a, c.b) := by simpa using List.find?_some hfd
    have hmem : a ∈ allC M := mem_allC.2 ⟨b, hbl, by rw [← hL2]; exact hach⟩
    have hk : hasK M (allC M) (c.a, c.b) = true := by
      rw [hasK_iff, List.mem_map]
      exact ⟨a, hmem, by rw [← hky2]; exact hka⟩
    have hnd := oc2.nodup (b := b) (by rw [hn2]; exact hbl)
    rw [hm, List.nodup_append, List.nodup_cons] at hnd
    have na1 : ¬ a ∈ m1 := fun h => hnd.2.2 a h a (by simp) rfl
    have hpv' : f3.prev = aheadF a (chL M2 b) 0 0 := by
      rw [hpv, hm, ahead_at na1 hnd.2.1.1]
      rfl
    have hasl := hM.allSlots a hmem
    obtain ⟨M3, hM3⟩ : ∃ M3, M3 = cutM M2 b (aheadF a (chL M2 b) 0 0) a := ⟨_, rfl⟩
    have C := cut_ok oc2 (by rw [hn2]; exact hbl) hach
    rw [← hM3] at C
    obtain ⟨p, q, hpq, hpq'⟩ := cutted_all (by rw [hn2]; exact hbl) C
    rw [hA2] at hpq
    have hat3 : isAt M2 f3 = true := isAt_iff.2 (by rw [hcu, h2s]; omega)
    obtain ⟨f4, hf4⟩ : ∃ f : Fr, f = { f3 with slot := f3.cur - 1, e := 0, pl := 5 } := ⟨_, rfl⟩
    have e3 : drF M2 f3 = f4 := by rw [drF4 p3]; unfold drCut; rw [if_pos hat3, hf4]
    have em3 : drM 0 M2 f3 = M3 := by
      rw [drM4 p3]; unfold drCutM
      rw [if_pos hat3, hbn M2 f3 hn2 r3, hpv', hM3, show f3.cur - 1 = a by omega]
    have c4 : f4.c = c := by rw [hf4]; exact r3
    have s4 : f4.slot = a := by rw [hf4]; show f3.cur - 1 = a; omega
    have h3h : M3.heads.length = M.heads.length := by rw [C.nh, hn2]
    have h3n : M3.slots.length = M.slots.length := by rw [C.ns, h2s]
    have h3l : M3.locks = M.locks.set b 0 := by rw [← h2l, hM3]; unfold cutM; split <;> rfl
    have hl3 : lockAt M3 b = 0 := by unfold lockAt; rw [h3l]; simp [List.getD_eq_getElem?_getD, hbk1]
    obtain ⟨M4, hM4⟩ : ∃ M4, M4 = lockM M3 b (-1) := ⟨_, rfl⟩
    have e4 : drF M3 f4 = toF f4 6 := drF5 (by rw [hf4])
    have em4 : drM 0 M3 f4 = M4 := by rw [drM5 (by rw [hf4])]; unfold adOpenM; rw [hbn M3 f4 h3h c4, if_pos hl3, hM4]
    have oc4 : OkC M4 := by rw [hM4]; exact lock_okc C.okc b (by omega)
    have hat4 : ∀ x, slotAt M4 x = slotAt M3 x := fun x => by rw [hM4]; rfl
    have hA4 : allC M4 = p ++ q := by rw [hM4]; exact hpq'
    have h4n : M4.slots.length = M.slots.length := by rw [hM4]; exact h3n
    have hsl4 : isSl M4 a = true := by rw [isSl_in, h4n]; exact hasl
    have hrefs : refsM M4 a = refsM M a := by
      show (slotAt M4 a).refs = (slotAt M a).refs
      rw [hat4, C.refs, hat2]
    have hr0 : refsM M a ≠ 0 := by
      obtain ⟨b', hb', ha⟩ := mem_allC.1 hmem
      exact (hM.held b' hb' a ha).1
    have hoff : a ∉ allC M4 := by
      rw [hA4]
      have hnn := nodup_of_map hM.keys
      rw [hpq, List.nodup_append, List.nodup_cons] at hnn
      rw [List.mem_append]
      rintro (h | h)
      · exact hnn.2.2 a h a (by simp) rfl
      · exact hnn.2.1.1 h
    obtain ⟨M5, hM5⟩ : ∃ M5, M5 = putN M4 a := ⟨_, rfl⟩
    have ok5 : Ok M5 := by rw [hM5]; exact putN_ok oc4.ok hsl4
    have hM5' : M5 = putM M4 a := by rw [hM5]; unfold putN; rw [if_neg (by rw [hrefs]; exact hr0)]
    have hs5 : ∀ x : Int, slotAt M5 x = if x.toNat = a.toNat then { slotAt M4 a with refs := refsM M4 a - 1 } else slotAt M4 x := fun x => by
      rw [hM5']; exact slotAt_setN hsl4 rfl x
    have h5n : M5.slots.length = M4.slots.length := by rw [hM5']; simp [putM, setRefs]
    obtain ⟨oc5, hL5, hA5, hat5⟩ := okc_off oc4 ok5 (by rw [hM5']; rfl) h5n hoff hasl.1 (fun x hx => by rw [hs5, if_neg hx]) (by rw [hs5, if_pos rfl])
    have e5 : drF M4 (toF f4 6) = endF { toF f4 6 with slot := -1 } (toF f4 6).e := drF6 rfl
    have em5 : drM 0 M4 (toF f4 6) = M5 := by
      rw [drM6 rfl]; unfold drPutM
      show (if isSl M4 f4.slot = true then putN M4 f4.slot else M4) = M5
      rw [s4, if_pos hsl4, hM5]
    have d4 : f4.done = false := by rw [hf4]; exact r4
    refine ⟨M5, endF { toF f4 6 with slot := -1 } (toF f4 6).e, hgo _ _ (goes_step oc2.ok e3 em3 d4 (goes_step C.okc.ok e4 em4 d4 (goes_end oc4.ok e5 em5 rfl))), ?_⟩
    unfold Dropped
    rw [hk, if_pos rfl]
    refine ⟨a, p, q, hpq, by rw [← hky2]; exact hka, by rw [hf4]; rfl, oc5, ?_, by rw [h5n, h4n], ?_, ?_⟩
    · rw [hM5']
      show M4.locks = M.locks
      rw [hM4]
      show M3.locks.set b (-1) = M.locks
      rw [h3l]; exact set_back hlk
    · unfold flowsOf
      rw [hA5, hA4]
      refine List.map_congr_left fun x hx => ?_
      have h1 := C.key x
      unfold keyAt at h1
      rw [hat2] at h1
      simp only [Prod.mk.injEq] at h1
      unfold flowAt
      rw [hat5 x (by rw [hA4]; exact hx), hat4, h1.1, h1.2, C.unt, hat2]
    · show (slotAt M5 a).refs = _
      rw [hs5, if_pos rfl, hrefs]



end Go.Proofs.Ytdbilofhcadmoab.mm

/- The contracts of the laws' own steps: a Drop's step in memory that they have caught. -/
namespace Go.Proofs.Ytdbilofhcadmoab.mm
open Go.ChangeShapes Go.WideShapes Go.ChangeAt Go.RowKit Go.Joins Go.Deep Go.Sort
set_option maxRecDepth 100000
set_option linter.unusedVariables false

def DrG (t : Int) (M : Mm) (f : Fr) : Prop := (∃ k X g, Goes drF (drM t) k M f X g) ∧ Fit M f ∧ f.keys = [] ∧ f.c.kind = 3
theorem drG_ok {t : Int} {M : Mm} {f : Fr} (h : DrG t M f) : Ok M := by
  obtain ⟨⟨k, X, g, hg⟩, -⟩ := h
  cases k with
  | zero => exact hg.elim
  | succ k => exact hg.1
theorem drG_next {t : Int} {M : Mm} {f : Fr} (h : DrG t M f) (hd : (drF M f).done = false) : DrG t (drM t M f) (drF M f) := by
  have hOk := drG_ok h
  obtain ⟨⟨k, X, g, hg⟩, hf, hk, hc⟩ := h
  refine ⟨?_, drF_fit t hOk hf hd, by rw [drF_keys]; exact hk, by rw [drF_c]; exact hc⟩
  cases k with
  | zero => exact hg.elim
  | succ k =>
    rcases hg.2 with ⟨h1, -, -⟩ | ⟨-, h2⟩
    · rw [hd] at h1; cases h1
    · exact ⟨k, X, g, h2⟩
def goesB (nf : Mm → Fr → Fr) (nm : Mm → Fr → Mm) : Nat → Mm → Fr → Bool
  | 0, _, _ => false
  | k + 1, M, f => decide (chk M = 0) && ((nf M f).done || goesB nf nm k (nm M f) (nf M f))
theorem goesB_goes {nf : Mm → Fr → Fr} {nm : Mm → Fr → Mm} : ∀ {k : Nat} {M : Mm} {f : Fr}, goesB nf nm k M f = true → ∃ X g, Goes nf nm k M f X g
  | 0, _, _, h => by cases h
  | k + 1, M, f, h => by
    simp only [goesB, Bool.and_eq_true, Bool.or_eq_true, decide_eq_true_eq] at h
    have hOk := (chk_zero M).1 h.1
    cases hd : (nf M f).done
    · rcases h.2 with h2 | h2
      · rw [hd] at h2; cases h2
      · obtain ⟨X, g, hg⟩ := goesB_goes h2
        exact ⟨X, g, hOk, .inr ⟨hd, hg⟩⟩
    · exact ⟨_, _, hOk, .inl ⟨hd, rfl, rfl⟩⟩

set_option maxHeartbeats 1600000 in
theorem closD1 (M : Mm) (f : Fr) (B lo : Nat) (Z : Nat → Prop) (w : World) (hG : DrG 1 M f) (h : Has w B lo Z M) :
    Calls Try.prog 128 #[.agg #[.int .i64 f.c.kind, .int .i64 f.c.a, .int .i64 f.c.b, .int .i64 f.c.time, .int .i64 f.c.bk, .int .i64 f.c.slot, .int .i64 f.pl, .int .i64 f.cur, .int .i64 f.prev, .int .i64 f.slot, .int .i64 f.n, .slice none f.keys.length 0, .bool f.done, .int .i64 f.e], .pointer (some ⟨B, 0, none⟩)] w fun e w' => (∃ a c, e = .returned (.agg #[.int .i64 (drF M f).c.kind, .int .i64 (drF M f).c.a, .int .i64 (drF M f).c.b, .int .i64 (drF M f).c.time, .int .i64 (drF M f).c.bk, .int .i64 (drF M f).c.slot, .int .i64 (drF M f).pl, .int .i64 (drF M f).cur, .int .i64 (drF M f).prev, .int .i64 (drF M f).slot, .int .i64 (drF M f).n, .slice a (drF M f).keys.length c, .bool (drF M f).done, .int .i64 (drF M f).e]) ∧ ((drF M f).done = false → a = none ∧ c = 0)) ∧ Has w' B lo (Up w Z) (drM 1 M f) ∧ Fine w w' Z := by
  obtain ⟨aS, aH, aF, aL, cS, cH, cF, cL, m, hz⟩ := h
  have HZ : Hid (∀ k, Foot B aS aH aF aL k → Z k) := hz
  have HSt : Hid (∀ W : World, Mine W B lo aS aH aF aL cS cH cF cL M → Calls Try.prog 62 #[.pointer (some ⟨B, 0, none⟩), .agg #[.int .i64 f.c.kind, .int .i64 f.c.a, .int .i64 f.c.b, .int .i64 f.c.time, .int .i64 f.c.bk, .int .i64 f.c.slot, .int .i64 f.pl, .int .i64 f.cur, .int .i64 f.prev, .int .i64 f.slot, .int .i64 f.n, .slice none f.keys.length 0, .bool f.done, .int .i64 f.e], .int .i64 1] W fun e w' => Ret W w' e (drF M f) none 0 ∧ Has w' B lo (Up W (Foot B aS aH aF aL)) (drM 1 M f) ∧ Fine W w' (Foot B aS aH aF aL)) := fun W m' => dr_mine 1 M f B lo aS aH aF aL cS cH cF cL none 0 W m' (drG_ok hG) hG.2.1 hG.2.2.2 (krow_anyA W hG.2.2.1 (fun _ => rfl)) (fun ad h => by cases h)
  generalize drF M f = g at *
  generalize drM 1 M f = M' at *
  obtain ⟨of, hof⟩ : ∃ o : Obj, o = .cells #[.int .i64 f.c.kind, .int .i64 f.c.a, .int .i64 f.c.b, .int .i64 f.c.time, .int .i64 f.c.bk, .int .i64 f.c.slot, .int .i64 f.pl, .int .i64 f.cur, .int .i64 f.prev, .int .i64 f.slot, .int .i64 f.n, .slice none f.keys.length 0, .bool f.done, .int .i64 f.e] 51 := ⟨_, rfl⟩
  obtain ⟨oz, hoz⟩ : ∃ o : Obj, o = zeroFr := ⟨_, rfl⟩
  have HE : Hid (Lk w ((w.alloc of).alloc oz) B lo aS aH aF aL cS cH cF cL M f none 0) := Lk.first m f none 0 hof hoz
  obtain ⟨q0, q1, q2, q3, q4, -, -, -, -, -, qs⟩ := boxf HE.out.m.box
  obtain ⟨f0, f1, f2, f3, f4, f5, f6, f7, f8, f9, f10, f11, f12, f13, ff, fs⟩ := framef HE.out.fb
  unfold zeroFr at hoz
  clear m hz hG
  go_enter Try.func128, Try.ntmps128
  go_wp2_with fail
  rw [← hof, ← hoz]
  generalize (w.alloc of).alloc oz = W0 at *
  subst hof hoz
  clear q0 q1 q2 q3 q4 qs
  clear f0 f1 f2 f3 f4 f5 f6 f7 f8 f9 f10 f11 f12 f13 ff fs
  refine (HSt.out W0 HE.out.m).mono ?_
  rintro e w2 ⟨⟨a2, c2, rfl, -, -, hd2⟩, hh2, hf2⟩
  have HD2 : Hid (g.done = false → a2 = none ∧ c2 = 0) := hd2
  have HE2 : Hid (Lk2 w w2 (Foot B aS aH aF aL) B lo M' f none 0) := HE.out.after hh2 hf2
  clear HE hh2 hf2 hd2
  obtain ⟨g0, g1, g2, g3, g4, g5, g6, g7, g8, g9, g10, g11, g12, g13, gf, gs⟩ := framef HE2.out.zb
  go_wp2
  refine bodyPost_ret (v := .agg #[.int .i64 g.c.kind, .int .i64 g.c.a, .int .i64 g.c.b, .int .i64 g.c.time, .int .i64 g.c.bk, .int .i64 g.c.slot, .int .i64 g.pl, .int .i64 g.cur, .int .i64 g.prev, .int .i64 g.slot, .int .i64 g.n, .slice a2 g.keys.length c2, .bool g.done, .int .i64 g.e]) (by simp [results, Try.results128, go_sem, g0, g1, g2, g3, g4, g5, g6, g7, g8, g9, g10, g11, g12, g13]) rfl ⟨⟨a2, c2, rfl, HD2.out⟩, HE2.out.end14.1.mono (fun k _ h => h.imp (HZ.out k) id), HE2.out.end14.2.mono HZ.out⟩

set_option maxHeartbeats 1600000 in
theorem closD0 (M : Mm) (f : Fr) (B lo : Nat) (Z : Nat → Prop) (w : World) (hG : DrG 0 M f) (h : Has w B lo Z M) :
    Calls Try.prog 65 #[.agg #[.int .i64 f.c.kind, .int .i64 f.c.a, .int .i64 f.c.b, .int .i64 f.c.time, .int .i64 f.c.bk, .int .i64 f.c.slot, .int .i64 f.pl, .int .i64 f.cur, .int .i64 f.prev, .int .i64 f.slot, .int .i64 f.n, .slice none f.keys.length 0, .bool f.done, .int .i64 f.e], .pointer (some ⟨B, 0, none⟩)] w fun e w' => (∃ a c, e = .returned (.agg #[.int .i64 (drF M f).c.kind, .int .i64 (drF M f).c.a, .int .i64 (drF M f).c.b, .int .i64 (drF M f).c.time, .int .i64 (drF M f).c.bk, .int .i64 (drF M f).c.slot, .int .i64 (drF M f).pl, .int .i64 (drF M f).cur, .int .i64 (drF M f).prev, .int .i64 (drF M f).slot, .int .i64 (drF M f).n, .slice a (drF M f).keys.length c, .bool (drF M f).done, .int .i64 (drF M f).e]) ∧ ((drF M f).done = false → a = none ∧ c = 0)) ∧ Has w' B lo (Up w Z) (drM 0 M f) ∧ Fine w w' Z := by
  obtain ⟨aS, aH, aF, aL, cS, cH, cF, cL, m, hz⟩ := h
  have HZ : Hid (∀ k, Foot B aS aH aF aL k → Z k) := hz
  have HSt : Hid (∀ W : World, Mine W B lo aS aH aF aL cS cH cF cL M → Calls Try.prog 62 #[.pointer (some ⟨B, 0, none⟩), .agg #[.int .i64 f.c.kind, .int .i64 f.c.a, .int .i64 f.c.b, .int .i64 f.c.time, .int .i64 f.c.bk, .int .i64 f.c.slot, .int .i64 f.pl, .int .i64 f.cur, .int .i64 f.prev, .int .i64 f.slot, .int .i64 f.n, .slice none f.keys.length 0, .bool f.done, .int .i64 f.e], .int .i64 0] W fun e w' => Ret W w' e (drF M f) none 0 ∧ Has w' B lo (Up W (Foot B aS aH aF aL)) (drM 0 M f) ∧ Fine W w' (Foot B aS aH aF aL)) := fun W m' => dr_mine 0 M f B lo aS aH aF aL cS cH cF cL none 0 W m' (drG_ok hG) hG.2.1 hG.2.2.2 (krow_anyA W hG.2.2.1 (fun _ => rfl)) (fun ad h => by cases h)
  generalize drF M f = g at *
  generalize drM 0 M f = M' at *
  obtain ⟨of, hof⟩ : ∃ o : Obj, o = .cells #[.int .i64 f.c.kind, .int .i64 f.c.a, .int .i64 f.c.b, .int .i64 f.c.time, .int .i64 f.c.bk, .int .i64 f.c.slot, .int .i64 f.pl, .int .i64 f.cur, .int .i64 f.prev, .int .i64 f.slot, .int .i64 f.n, .slice none f.keys.length 0, .bool f.done, .int .i64 f.e] 51 := ⟨_, rfl⟩
  obtain ⟨oz, hoz⟩ : ∃ o : Obj, o = zeroFr := ⟨_, rfl⟩
  have HE : Hid (Lk w ((w.alloc of).alloc oz) B lo aS aH aF aL cS cH cF cL M f none 0) := Lk.first m f none 0 hof hoz
  obtain ⟨q0, q1, q2, q3, q4, -, -, -, -, -, qs⟩ := boxf HE.out.m.box
  obtain ⟨f0, f1, f2, f3, f4, f5, f6, f7, f8, f9, f10, f11, f12, f13, ff, fs⟩ := framef HE.out.fb
  unfold zeroFr at hoz
  clear m hz hG
  go_enter Try.func65, Try.ntmps65
  go_wp2_with fail
  rw [← hof, ← hoz]
  generalize (w.alloc of).alloc oz = W0 at *
  subst hof hoz
  clear q0 q1 q2 q3 q4 qs
  clear f0 f1 f2 f3 f4 f5 f6 f7 f8 f9 f10 f11 f12 f13 ff fs
  refine (HSt.out W0 HE.out.m).mono ?_
  rintro e w2 ⟨⟨a2, c2, rfl, -, -, hd2⟩, hh2, hf2⟩
  have HD2 : Hid (g.done = false → a2 = none ∧ c2 = 0) := hd2
  have HE2 : Hid (Lk2 w w2 (Foot B aS aH aF aL) B lo M' f none 0) := HE.out.after hh2 hf2
  clear HE hh2 hf2 hd2
  obtain ⟨g0, g1, g2, g3, g4, g5, g6, g7, g8, g9, g10, g11, g12, g13, gf, gs⟩ := framef HE2.out.zb
  go_wp2
  refine bodyPost_ret (v := .agg #[.int .i64 g.c.kind, .int .i64 g.c.a, .int .i64 g.c.b, .int .i64 g.c.time, .int .i64 g.c.bk, .int .i64 g.c.slot, .int .i64 g.pl, .int .i64 g.cur, .int .i64 g.prev, .int .i64 g.slot, .int .i64 g.n, .slice a2 g.keys.length c2, .bool g.done, .int .i64 g.e]) (by simp [results, Try.results65, go_sem, g0, g1, g2, g3, g4, g5, g6, g7, g8, g9, g10, g11, g12, g13]) rfl ⟨⟨a2, c2, rfl, HD2.out⟩, HE2.out.end14.1.mono (fun k _ h => h.imp (HZ.out k) id), HE2.out.end14.2.mono HZ.out⟩


end Go.Proofs.Ytdbilofhcadmoab.mm

/- The contract of chain.Linked where it can be linked: memory in rows that are one's own. -/
namespace Go.Proofs.Ytdbilofhcadmoab.mm
open Go.ChangeShapes Go.WideShapes Go.ChangeAt Go.RowKit Go.Joins Go.Maps
set_option maxRecDepth 100000
set_option linter.unusedVariables false

/- A value is memory, in rows that are one's own. -/
def AnsO (lo : Nat) (w : World) (v : Value) (M : Mm) : Prop :=
  ∃ aS aH aF aL cS cH cF cL, v = .agg #[.slice aS M.slots.length cS, .slice aH M.heads.length cH, .slice aF M.free.length cF, .slice aL M.locks.length cL, .int .i64 M.now] ∧ Rw w lo aS aH aF aL cS cH cF cL M

set_option maxHeartbeats 6400000 in
theorem linked_own (M : Mm) (aS aH aF aL : Option Addr) (cS cH cF cL : Nat) (a : Int) (w : World) (A : At w aS aH aF aL cS cH cF cL M) (h0 : linkE M a = 0) :
    Calls Try.prog 21 #[.agg #[.slice aS M.slots.length cS, .slice aH M.heads.length cH, .slice aF M.free.length cF, .slice aL M.locks.length cL, .int .i64 M.now], .int .i64 a] w fun e w' => ∃ v, e = .returned (.tuple #[v, .int .i64 0]) ∧ AnsO w.heap.size w' v (linkedM M a) ∧ Below w.heap.size w w' := by
  have m1 := A.s.max; have m2 := A.h.max; have m4 := A.l.max
  have n1 : M.slots.length ≤ 9223372036854775807 := by omega
  obtain ⟨E0, hE0⟩ : ∃ E0, E0 = linkE M a := ⟨_, rfl⟩
  obtain ⟨M1, hM1⟩ : ∃ M1, M1 = linkedM M a := ⟨_, rfl⟩
  rw [← hM1]
  have H0 : Hid (E0 = 0) := hE0.trans h0
  clear h0
  have HE0 : Hid (E0 = linkE M a) := hE0
  have HM1 : Hid (M1 = linkedM M a) := hM1
  clear hE0 hM1
  have bad : ∀ e : Int, e ≠ 0 → linkE M a = e → E0 = e ∧ M1 = m0 := fun e he h => ⟨HE0.out.trans h, HM1.out.trans (by unfold linkedM; rw [h, if_neg he])⟩
  have HBad : Hid _ := bad
  clear bad
  obtain ⟨o1, ho1⟩ : ∃ o : Obj, o = .cells #[.slice aS M.slots.length cS, .slice aH M.heads.length cH, .slice aF M.free.length cF, .slice aL M.locks.length cL, .int .i64 M.now] 25 := ⟨_, rfl⟩
  obtain ⟨o2, ho2⟩ : ∃ o : Obj, o = .cells #[.slice none 0 0, .slice none 0 0, .slice none 0 0, .slice none 0 0, .int .i64 0] 25 := ⟨_, rfl⟩
  have b0 : Below w.heap.size w ((w.alloc o1).alloc o2) := below_alloc2 w o1 o2
  have HB0 : Hid (((w.alloc o1).alloc o2).heap[w.heap.size]? = some o1) := by show _ = _; rw [Below.heap_alloc _ _ _ (by simp), heap_alloc_new]
  have HR0 : Hid (((w.alloc o1).alloc o2).heap[w.heap.size + 1]? = some o2) := by
    have := heap_alloc_new (w.alloc o1) o2
    rwa [show (w.alloc o1).heap.size = w.heap.size + 1 by simp] at this
  have HZ0 : Hid (((w.alloc o1).alloc o2).heap.size = w.heap.size + 2) := by show _ = _; simp
  have HA : Hid (At w aS aH aF aL cS cH cF cL M) := A
  have HA0 : Hid _ := A.below b0
  clear A
  go_enter Try.func21, Try.ntmps21
  go_wp2_with fail
  rw [← ho1, ← ho2]
  generalize (w.alloc o1).alloc o2 = W0 at *
  subst ho1 ho2
  refine (mapped_any M aS aH aF aL cS cH cF cL W0 HA0.out).mono ?_
  rintro e w1 ⟨vm, rfl, hmap, hb1⟩
  have b1 := b0.trans (hb1.mono b0.size)
  have HB1 : Hid (w1.heap[w.heap.size]? = _) := (hb1.block w.heap.size (lt_of_block HB0.out)).trans HB0.out
  have HR1 : Hid (w1.heap[w.heap.size + 1]? = _) := (hb1.block (w.heap.size + 1) (lt_of_block HR0.out)).trans HR0.out
  have HMap : Hid (MapIs M (chkC M) W0.heap.size w1 vm) := hmap
  clear hb1 b0 HB0 HR0 HA0 hmap
  by_cases hE : chkC M = 0
  rotate_left
  · have HV : Hid (E0 = chkC M ∧ M1 = m0) := HBad.out _ hE (by unfold linkE; rw [if_pos hE])
    exact absurd (HV.out.1.symm.trans H0.out) hE
  have HC : Hid (chkC M = 0) := hE
  have hokc := (chkC_zero M).1 hE
  have hok := hokc.ok
  have k0 := hok.ns
  have k1 := hok.nh
  obtain ⟨gm, rfl, hgm, hMA⟩ := HMap.out.2 hE
  have HMA : Hid (MapAt M w1 gm (allC M)) := hMA
  have lgm := hMA.lt
  rw [hE]
  clear hE hMA HMap
  obtain ⟨q0, q1, q2, q3, q4, f0, f1, f2, f3, f4, qs⟩ := boxf HB1.out
  clear f0 f1 f2 f3 f4
  go_wp2_with fail
  refine (isSlot_any aS aH aF aL _ _ _ _ cS cH cF cL _ _ w1 n1).mono ?_
  rintro e w2 ⟨rfl, hb2⟩
  have b2 := b1.trans (hb2.mono b1.size)
  have HB2 : Hid (w2.heap[w.heap.size]? = _) := (hb2.block w.heap.size qs).trans HB1.out
  have HR2 : Hid (w2.heap[w.heap.size + 1]? = _) := (hb2.block (w.heap.size + 1) (lt_of_block HR1.out)).trans HR1.out
  have HM2 : Hid (MapAt M w2 gm (allC M)) := MapAt.kept HMA.out (hb2.block gm lgm)
  clear hb2 b1 HB1 HR1 HMA q0 q1 q2 q3 q4 qs lgm
  cases hS : inB a 0 ((M.slots.length : Int) - 1)
  · have HV : Hid (E0 = 5 ∧ M1 = m0) := HBad.out 5 (by decide) (by unfold linkE; rw [if_neg (by simpa using HC.out), if_pos (show isSl M a = false from hS)])
    exact absurd (HV.out.1.symm.trans H0.out) (by decide)
  have HS : Hid (isSl M a = true) := hS
  obtain ⟨j, rfl, hj⟩ := (isSl_iff M a).1 hS
  clear hS
  have HA2 : Hid _ := HA.out.below b2
  rcases HA2.out.s.at_ with h0 | ⟨bs, os, rfl, hcs⟩
  · omega
  obtain ⟨s0, s1, s2, s3, s4, s5⟩ := hcs j hj
  have ls := cell_lt s0
  have hgood := slot_good (hok.slot _ (List.getElem_mem hj))
  have hsl : slotAt M j = M.slots[j] := slotAt_lt hj
  generalize hM : M.slots[j] = s at s0 s1 s2 s3 s4 s5 hsl hgood
  obtain ⟨r, ka, kb, u, i, nx⟩ := s
  dsimp only at s0 s1 s2 s3 s4 s5 hgood
  have HSL : Hid (slotAt M j = ⟨r, ka, kb, u, i, nx⟩) := hsl
  have HRf : Hid (refsM M j = r) := by show (slotAt M j).refs = r; rw [hsl]
  have HKy : Hid (keyAt M j = (ka, kb)) := by unfold keyAt; rw [hsl]; exact rfl
  have hkey := hgood.2.2.1
  have HK : Hid (keyB ka kb = true) := hkey
  clear hM hsl hcs hgood hkey
  obtain ⟨q0, q1, q2, q3, q4, f0, f1, f2, f3, f4, qs⟩ := boxf HB2.out
  obtain ⟨r0, r1, r2, r3, r4, g0, g1, g2, g3, g4, rs⟩ := boxf HR2.out
  clear f0 f1 f2 f3 f4
  by_cases hr : r = 0
  · subst hr
    have HV : Hid (E0 = 8 ∧ M1 = m0) := HBad.out 8 (by decide) (by unfold linkE; rw [if_neg (by simpa using HC.out), if_neg (by rw [HS.out]; simp), if_pos HRf.out])
    exact absurd (HV.out.1.symm.trans H0.out) (by decide)
  have hr' : (r == 0) = false := by simpa using hr
  have HRn : Hid (refsM M j ≠ 0) := by rw [HRf.out]; exact hr
  have b2s := b2.size
  have lgm2 := MapAt.lt HM2.out
  have hl := MapAt.look (MapAt.kept (w' := w2.alloc (.cells #[.int .i64 r, .int .i64 ka, .int .i64 kb, .int .i64 u, .bool i, .int .i64 nx] 39)) HM2.out (Below.heap_alloc _ _ _ lgm2)) HK.out
  cases hh : hasK M (allC M) (ka, kb)
  rotate_left
  · rw [hh] at hl
    have HV : Hid (E0 = 6 ∧ M1 = m0) := HBad.out 6 (by decide) (by unfold linkE; rw [if_neg (by simpa using HC.out), if_neg (by rw [HS.out]; simp), if_neg HRn.out, HKy.out, hh]; rfl)
    exact absurd (HV.out.1.symm.trans H0.out) (by decide)
  rw [hh] at hl
  have HV : Hid (E0 = 0 ∧ M1 = linkAt M j (ownB M j)) := by
    have : linkE M j = 0 := linkE_of hokc HS.out HRn.out (by rw [HKy.out]; exact hh)
    exact ⟨HE0.out.trans this, HM1.out.trans (by unfold linkedM; rw [this, if_pos rfl]; rfl)⟩
  have HBk : Hid (bucket ka kb M.heads.length = (ownB M j : Int)) := by
    show _ = _
    rw [ownB_eq hok j, HSL.out]
  have hob := ownB_lt hok j
  clear HE0 HM1 HBad hh HRn HKy HRf HSL
  obtain ⟨o5, ho5⟩ : ∃ o : Obj, o = .cells #[.int .i64 r, .int .i64 ka, .int .i64 kb, .int .i64 u, .bool i, .int .i64 nx] 39 := ⟨_, rfl⟩
  have b3 := b2.alloc b2.size o5
  have HB3 : Hid ((w2.alloc o5).heap[w.heap.size]? = _) := (Below.heap_alloc _ _ _ qs).trans HB2.out
  have HR3 : Hid ((w2.alloc o5).heap[w.heap.size + 1]? = _) := (Below.heap_alloc _ _ _ rs).trans HR2.out
  clear g0 g1 g2 g3 g4
  go_wp2_with fail
  rw [← ho5]
  rw [← ho5] at hl
  generalize w2.alloc o5 = W3 at *
  subst ho5
  clear hl HB2 HR2 HM2 b2 q0 q1 q2 q3 q4 r0 r1 r2 r3 r4 qs rs s0 s1 s2 s3 s4 s5
  refine (bucket_ok _ _ _ _ HK.out k1.1 k1.2).mono ?_
  rintro e w4 ⟨rfl, hb4⟩
  rw [HBk.out]
  have b4 := b3.trans (hb4.mono b3.size)
  have HB4 : Hid (w4.heap[w.heap.size]? = _) := (hb4.block w.heap.size (lt_of_block HB3.out)).trans HB3.out
  have HR4 : Hid (w4.heap[w.heap.size + 1]? = _) := (hb4.block (w.heap.size + 1) (lt_of_block HR3.out)).trans HR3.out
  have HA4 : Hid _ := HA.out.below b4
  clear hb4 b3 HB3 HR3
  generalize hcb : ownB M j = cb at *
  clear hcb
  obtain ⟨q0, q1, q2, q3, q4, f0, f1, f2, f3, f4, qs⟩ := boxf HB4.out
  go_wp2_with fail
  refine (copy_any M _ aH aF aL cS cH cF cL w4 HA4.out).mono ?_
  rintro e w5 ⟨gS, gH, gF, gL, kS, kH, kF, kL, rfl, c5, hb5⟩
  have b5 := b4.trans (hb5.mono b4.size)
  have HB5 : Hid (w5.heap[w.heap.size]? = _) := (hb5.block w.heap.size qs).trans HB4.out
  have HR5 : Hid (w5.heap[w.heap.size + 1]? = _) := (hb5.block (w.heap.size + 1) (lt_of_block HR4.out)).trans HR4.out
  have t4 := lt_of_block HR4.out
  have b4s := b4.size
  clear hb5 b4 HB4 HR4 HA4 q0 q1 q2 q3 q4 f0 f1 f2 f3 f4
  have m3 := hok.few
  have hMn : Mine (set5 w5 w.heap.size (.slice gS M.slots.length kS) (.slice gH M.heads.length kH) (.slice gF M.free.length kF) (.slice gL M.locks.length kL) (.int .i64 M.now)) w.heap.size w4.heap.size gS gH gF gL kS kH kF kL M :=
    ⟨set5_block HB5.out _ _ _ _ _, c5.set5 HB5.out _ _ _ _ _, m1, m2, by omega, m4⟩
  have b6 := b5.trans (set5_below w5 w.heap.size w.heap.size (.slice gS M.slots.length kS) (.slice gH M.heads.length kH) (.slice gF M.free.length kF) (.slice gL M.locks.length kL) (.int .i64 M.now) (Nat.le_refl _))
  have HR6 : Hid ((set5 w5 w.heap.size (.slice gS M.slots.length kS) (.slice gH M.heads.length kH) (.slice gF M.free.length kF) (.slice gL M.locks.length kL) (.int .i64 M.now)).heap[w.heap.size + 1]? = _) := (set5_other (by omega)).trans HR5.out
  have HMn : Hid _ := hMn
  obtain ⟨q0, q1, q2, q3, q4, f0, f1, f2, f3, f4, qs⟩ := boxf HB5.out
  clear hMn HB5 HR5 c5
  go_wp2_with fail
  rw [show ((((w5.setCell ⟨w.heap.size, 0, none⟩ (.slice gS M.slots.length kS)).setCell ⟨w.heap.size, 1, none⟩ (.slice gH M.heads.length kH)).setCell ⟨w.heap.size, 2, none⟩ (.slice gF M.free.length kF)).setCell ⟨w.heap.size, 3, none⟩ (.slice gL M.locks.length kL)).setCell ⟨w.heap.size, 4, none⟩ (.int .i64 M.now) = set5 w5 w.heap.size (.slice gS M.slots.length kS) (.slice gH M.heads.length kH) (.slice gF M.free.length kF) (.slice gL M.locks.length kL) (.int .i64 M.now) from rfl]
  clear q0 q1 q2 q3 q4 f0 f1 f2 f3 f4 qs b5
  generalize set5 w5 w.heap.size (.slice gS M.slots.length kS) (.slice gH M.heads.length kH) (.slice gF M.free.length kF) (.slice gL M.locks.length kL) (.int .i64 M.now) = W6 at *
  refine (link_now M W6 _ _ gS gH gF gL kS kH kF kL j cb HMn.out hok hj hob).mono ?_
  rintro e w7 ⟨rfl, aS', aH', aF', aL', cS', cH', cF', cL', m7, kept⟩
  have k7 := m7.box
  have HC7 : Hid (Rw w7 w4.heap.size aS' aH' aF' aL' cS' cH' cF' cL' (linkAt M j cb)) := m7.c
  clear m7
  have b7 : Below w.heap.size w w7 := b6.trans ⟨kept.os, kept.tape, kept.output, kept.size, fun k hk => kept.block k (by omega) (by omega)⟩
  have HR7 : Hid (w7.heap[w.heap.size + 1]? = _) := (kept.block (w.heap.size + 1) t4 (by omega)).trans HR6.out
  have HK7 : Hid _ := k7
  clear kept HR6 HMn b6 k7
  obtain ⟨r0, r1, r2, r3, r4, g0, g1, g2, g3, g4, rs⟩ := boxf HR7.out
  obtain ⟨q0, q1, q2, q3, q4, f0, f1, f2, f3, f4, qs⟩ := boxf HK7.out
  generalize hLM : linkAt M j cb = Mn at *
  clear hLM
  go_wp2
  refine bodyPost_ret (v := .tuple #[.agg #[.slice aS' Mn.slots.length cS', .slice aH' Mn.heads.length cH', .slice aF' Mn.free.length cF', .slice aL' Mn.locks.length cL', .int .i64 Mn.now], .int .i64 0]) (by simp [results, Try.results21, go_sem, r0, r1, r2, r3, r4]) rfl ⟨_, rfl, ?_, ?_⟩
  · rw [HV.out.2]
    obtain ⟨x1, x2, x3, x4, x5, x6, x7, x8⟩ := HC7.out.set5 HR7.out (.slice aS' Mn.slots.length cS') (.slice aH' Mn.heads.length cH') (.slice aF' Mn.free.length cF') (.slice aL' Mn.locks.length cL') (.int .i64 Mn.now)
    exact ⟨aS', aH', aF', aL', cS', cH', cF', cL', rfl, ⟨ownsRow_le x1 b4s, ownsRow_le x2 b4s, ownsRow_le x3 b4s, ownsRow_le x4 b4s, x5, x6, x7, Nat.le_trans b4s x8⟩⟩
  · exact b7.trans (set5_below w7 _ _ _ _ _ _ _ (by omega))





end Go.Proofs.Ytdbilofhcadmoab.mm
