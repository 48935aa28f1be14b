/- The contract of alone: a call that goes on alone, by the steps that are handed in. -/
import Derived.Test.YtdbilofhcadmoacC19
import Derived.Test.YtdbilofhcadmoacC07
import Derived.Test.YtdbilofhcadmoacC05
import Derived.Test.YtdbilofhcadmoacC08
import Derived.Test.YtdbilofhcadmoacC04
namespace Go.Proofs.Ytdbilofhcadmoac.mm
open Go.ChangeShapes Go.WideShapes Go.ChangeAt Go.RowKit Go.Joins
set_option maxRecDepth 100000
set_option linter.unusedVariables false

def run (nf : Mm → Fr → Fr) (nm : Mm → Fr → Mm) : Nat → Mm → Fr → Mm × Fr × Bool
  | 0, M, f => (M, f, false)
  | k + 1, M, f => if (nf M f).done then (nm M f, nf M f, true) else run nf nm k (nm M f) (nf M f)

theorem run_look : ∀ (k : Nat) (M : Mm) (f : Fr), run lkF lkM k M f = lkRun k M f
  | 0, _, _ => rfl
  | k + 1, M, f => by
    show (if (lkF M f).done then (lkM M f, lkF M f, true) else run lkF lkM k (lkM M f) (lkF M f)) = _
    rw [run_look k]; rfl

/- What alone carries: the memory, the frame in its box, the answer's box. -/
structure Al (w w1 : World) (Z : Nat → Prop) (B lo X : Nat) (M : Mm) (f : Fr) (a : Option Addr) (c : Nat) : Prop where
  fine : Fine w w1 Z
  has : ∃ Y : Nat → Prop, Has w1 B lo Y M ∧ ¬ Y X ∧ ¬ Y (w.heap.size + 1) ∧ ∀ k, Y k → Z k ∨ w.heap.size ≤ k
  hx : w.heap.size + 1 < X
  xb : w1.heap[X]? = some (.cells #[.int .i64 f.c.kind, .int .i64 f.c.a, .int .i64 f.c.b, .int .i64 f.c.time, .int .i64 f.c.bk, .int .i64 f.c.slot, .int .i64 f.pl, .int .i64 f.cur, .int .i64 f.prev, .int .i64 f.slot, .int .i64 f.n, .slice a f.keys.length c, .bool f.done, .int .i64 f.e] 33 (0, 0))
  rb : w1.heap[w.heap.size + 1]? = some zeroFr

section
variable {w w1 w2 : World} {Z : Nat → Prop} {B lo X : Nat} {M M' : Mm} {f : Fr} {a : Option Addr} {c : Nat}
theorem Al.step {Y : Nat → Prop} (h : Al w w1 Z B lo X M f a c) (n1 : ¬ Y X) (n2 : ¬ Y (w.heap.size + 1)) (n3 : ∀ k, Y k → Z k ∨ w.heap.size ≤ k) (hh : Has w2 B lo (Up w1 Y) M') (hf : Fine w1 w2 Y) : Al w w2 Z B lo X M' f a c := by
  have s1 := lt_of_block h.xb
  have s2 := lt_of_block h.rb
  have s3 := h.fine.size
  refine ⟨h.fine.trans hf fun k h1 h2 => (n3 k h2).elim id (fun h3 => by omega), ⟨Up w1 Y, hh, fun h1 => h1.elim n1 (fun h2 => by omega), fun h1 => h1.elim n2 (fun h2 => by omega), fun k h1 => h1.elim (n3 k) (fun h2 => .inr (by omega))⟩, h.hx, (hf.block _ s1 n1).trans h.xb, (hf.block _ s2 n2).trans h.rb⟩
theorem Al.store (h : Al w w1 Z B lo X M f a c) (j : Nat) (v : Value) (g : Fr) (b : Option Addr) (d : Nat) (hg : (#[.int .i64 f.c.kind, .int .i64 f.c.a, .int .i64 f.c.b, .int .i64 f.c.time, .int .i64 f.c.bk, .int .i64 f.c.slot, .int .i64 f.pl, .int .i64 f.cur, .int .i64 f.prev, .int .i64 f.slot, .int .i64 f.n, .slice a f.keys.length c, .bool f.done, .int .i64 f.e] : Array Value).setIfInBounds j v = #[.int .i64 g.c.kind, .int .i64 g.c.a, .int .i64 g.c.b, .int .i64 g.c.time, .int .i64 g.c.bk, .int .i64 g.c.slot, .int .i64 g.pl, .int .i64 g.cur, .int .i64 g.prev, .int .i64 g.slot, .int .i64 g.n, .slice b g.keys.length d, .bool g.done, .int .i64 g.e]) :
    Al w (w1.setCell ⟨X, j, none⟩ v) Z B lo X M g b d := by
  obtain ⟨Y, y1, y2, y3, y4⟩ := h.has
  have hx := h.hx
  refine ⟨h.fine.set (.inr (by omega)) _ _, ⟨Y, y1.same (by simp) (fun k _ hk => ?_), y2, y3, y4⟩, hx, ?_, by rw [Below.heap_setCell _ _ _ _ (by dsimp only; omega)]; exact h.rb⟩
  · rw [Below.heap_setCell _ _ _ _ (by dsimp only; rintro rfl; exact y2 hk)]
  · rw [block_setCell h.xb v, hg]
theorem Al.all (h : Al w w1 Z B lo X M f a c) (g : Fr) (b : Option Addr) (d : Nat) :
    Al w ((((((((((((((w1.setCell ⟨X, 0, none⟩ (.int .i64 g.c.kind)).setCell ⟨X, 1, none⟩ (.int .i64 g.c.a)).setCell ⟨X, 2, none⟩ (.int .i64 g.c.b)).setCell ⟨X, 3, none⟩ (.int .i64 g.c.time)).setCell ⟨X, 4, none⟩ (.int .i64 g.c.bk)).setCell ⟨X, 5, none⟩ (.int .i64 g.c.slot)).setCell ⟨X, 6, none⟩ (.int .i64 g.pl)).setCell ⟨X, 7, none⟩ (.int .i64 g.cur)).setCell ⟨X, 8, none⟩ (.int .i64 g.prev)).setCell ⟨X, 9, none⟩ (.int .i64 g.slot)).setCell ⟨X, 10, none⟩ (.int .i64 g.n)).setCell ⟨X, 11, none⟩ (.slice b g.keys.length d)).setCell ⟨X, 12, none⟩ (.bool g.done)).setCell ⟨X, 13, none⟩ (.int .i64 g.e)) Z B lo X M g b d :=
  ((((((((((((((h).store 0 (.int .i64 g.c.kind) ⟨⟨g.c.kind, f.c.a, f.c.b, f.c.time, f.c.bk, f.c.slot⟩, f.pl, f.cur, f.prev, f.slot, f.n, f.keys, f.done, f.e⟩ a c rfl).store 1 (.int .i64 g.c.a) ⟨⟨g.c.kind, g.c.a, f.c.b, f.c.time, f.c.bk, f.c.slot⟩, f.pl, f.cur, f.prev, f.slot, f.n, f.keys, f.done, f.e⟩ a c rfl).store 2 (.int .i64 g.c.b) ⟨⟨g.c.kind, g.c.a, g.c.b, f.c.time, f.c.bk, f.c.slot⟩, f.pl, f.cur, f.prev, f.slot, f.n, f.keys, f.done, f.e⟩ a c rfl).store 3 (.int .i64 g.c.time) ⟨⟨g.c.kind, g.c.a, g.c.b, g.c.time, f.c.bk, f.c.slot⟩, f.pl, f.cur, f.prev, f.slot, f.n, f.keys, f.done, f.e⟩ a c rfl).store 4 (.int .i64 g.c.bk) ⟨⟨g.c.kind, g.c.a, g.c.b, g.c.time, g.c.bk, f.c.slot⟩, f.pl, f.cur, f.prev, f.slot, f.n, f.keys, f.done, f.e⟩ a c rfl).store 5 (.int .i64 g.c.slot) ⟨⟨g.c.kind, g.c.a, g.c.b, g.c.time, g.c.bk, g.c.slot⟩, f.pl, f.cur, f.prev, f.slot, f.n, f.keys, f.done, f.e⟩ a c rfl).store 6 (.int .i64 g.pl) ⟨⟨g.c.kind, g.c.a, g.c.b, g.c.time, g.c.bk, g.c.slot⟩, g.pl, f.cur, f.prev, f.slot, f.n, f.keys, f.done, f.e⟩ a c rfl).store 7 (.int .i64 g.cur) ⟨⟨g.c.kind, g.c.a, g.c.b, g.c.time, g.c.bk, g.c.slot⟩, g.pl, g.cur, f.prev, f.slot, f.n, f.keys, f.done, f.e⟩ a c rfl).store 8 (.int .i64 g.prev) ⟨⟨g.c.kind, g.c.a, g.c.b, g.c.time, g.c.bk, g.c.slot⟩, g.pl, g.cur, g.prev, f.slot, f.n, f.keys, f.done, f.e⟩ a c rfl).store 9 (.int .i64 g.slot) ⟨⟨g.c.kind, g.c.a, g.c.b, g.c.time, g.c.bk, g.c.slot⟩, g.pl, g.cur, g.prev, g.slot, f.n, f.keys, f.done, f.e⟩ a c rfl).store 10 (.int .i64 g.n) ⟨⟨g.c.kind, g.c.a, g.c.b, g.c.time, g.c.bk, g.c.slot⟩, g.pl, g.cur, g.prev, g.slot, g.n, f.keys, f.done, f.e⟩ a c rfl).store 11 (.slice b g.keys.length d) ⟨⟨g.c.kind, g.c.a, g.c.b, g.c.time, g.c.bk, g.c.slot⟩, g.pl, g.cur, g.prev, g.slot, g.n, g.keys, f.done, f.e⟩ b d rfl).store 12 (.bool g.done) ⟨⟨g.c.kind, g.c.a, g.c.b, g.c.time, g.c.bk, g.c.slot⟩, g.pl, g.cur, g.prev, g.slot, g.n, g.keys, g.done, f.e⟩ b d rfl).store 13 (.int .i64 g.e) ⟨⟨g.c.kind, g.c.a, g.c.b, g.c.time, g.c.bk, g.c.slot⟩, g.pl, g.cur, g.prev, g.slot, g.n, g.keys, g.done, g.e⟩ b d rfl
theorem Al.end14 (h : Al w w1 Z B lo X M f a c) {v0 v1 v2 v3 v4 v5 v6 v7 v8 v9 v10 v11 v12 v13 : Value} : Has ((((((((((((((w1.setCell ⟨w.heap.size + 1, 0, none⟩ v0).setCell ⟨w.heap.size + 1, 1, none⟩ v1).setCell ⟨w.heap.size + 1, 2, none⟩ v2).setCell ⟨w.heap.size + 1, 3, none⟩ v3).setCell ⟨w.heap.size + 1, 4, none⟩ v4).setCell ⟨w.heap.size + 1, 5, none⟩ v5).setCell ⟨w.heap.size + 1, 6, none⟩ v6).setCell ⟨w.heap.size + 1, 7, none⟩ v7).setCell ⟨w.heap.size + 1, 8, none⟩ v8).setCell ⟨w.heap.size + 1, 9, none⟩ v9).setCell ⟨w.heap.size + 1, 10, none⟩ v10).setCell ⟨w.heap.size + 1, 11, none⟩ v11).setCell ⟨w.heap.size + 1, 12, none⟩ v12).setCell ⟨w.heap.size + 1, 13, none⟩ v13) B lo (Up w Z) M ∧ Fine w ((((((((((((((w1.setCell ⟨w.heap.size + 1, 0, none⟩ v0).setCell ⟨w.heap.size + 1, 1, none⟩ v1).setCell ⟨w.heap.size + 1, 2, none⟩ v2).setCell ⟨w.heap.size + 1, 3, none⟩ v3).setCell ⟨w.heap.size + 1, 4, none⟩ v4).setCell ⟨w.heap.size + 1, 5, none⟩ v5).setCell ⟨w.heap.size + 1, 6, none⟩ v6).setCell ⟨w.heap.size + 1, 7, none⟩ v7).setCell ⟨w.heap.size + 1, 8, none⟩ v8).setCell ⟨w.heap.size + 1, 9, none⟩ v9).setCell ⟨w.heap.size + 1, 10, none⟩ v10).setCell ⟨w.heap.size + 1, 11, none⟩ v11).setCell ⟨w.heap.size + 1, 12, none⟩ v12).setCell ⟨w.heap.size + 1, 13, none⟩ v13) Z := by
  have hb := set14 (w := w1) (w1 := w1) (n := w.heap.size) (v0 := v0) (v1 := v1) (v2 := v2) (v3 := v3) (v4 := v4) (v5 := v5) (v6 := v6) (v7 := v7) (v8 := v8) (v9 := v9) (v10 := v10) (v11 := v11) (v12 := v12) (v13 := v13) (Below.refl _ _)
  have hk : ∀ k, k ≠ w.heap.size + 1 → ((((((((((((((w1.setCell ⟨w.heap.size + 1, 0, none⟩ v0).setCell ⟨w.heap.size + 1, 1, none⟩ v1).setCell ⟨w.heap.size + 1, 2, none⟩ v2).setCell ⟨w.heap.size + 1, 3, none⟩ v3).setCell ⟨w.heap.size + 1, 4, none⟩ v4).setCell ⟨w.heap.size + 1, 5, none⟩ v5).setCell ⟨w.heap.size + 1, 6, none⟩ v6).setCell ⟨w.heap.size + 1, 7, none⟩ v7).setCell ⟨w.heap.size + 1, 8, none⟩ v8).setCell ⟨w.heap.size + 1, 9, none⟩ v9).setCell ⟨w.heap.size + 1, 10, none⟩ v10).setCell ⟨w.heap.size + 1, 11, none⟩ v11).setCell ⟨w.heap.size + 1, 12, none⟩ v12).setCell ⟨w.heap.size + 1, 13, none⟩ v13).heap[k]? = w1.heap[k]? := fun k hk => by
    repeat rw [Below.heap_setCell _ _ _ _ (by dsimp only; exact hk)]
  obtain ⟨Y, y1, y2, y3, y4⟩ := h.has
  refine ⟨(y1.same hb.size (fun k _ h2 => hk k (by rintro rfl; exact y3 h2))).mono (fun k _ h1 => y4 k h1), ⟨hb.os.trans h.fine.os, hb.tape.trans h.fine.tape, hb.output.trans h.fine.output, Nat.le_trans h.fine.size hb.size, fun k h1 h2 => (hk k (by omega)).trans (h.fine.block k h1 h2)⟩⟩
end

set_option maxHeartbeats 3200000 in
theorem alone_any (F : Nat) (caps : Array Value) (nf : Mm → Fr → Fr) (nm : Mm → Fr → Mm) (G : Mm → Fr → Prop) (B lo : Nat) (Z : Nat → Prop) (M : Mm) (c : Cl) (most : Nat) (w : World)
    (hF : ∀ args W, (callFunc F args).run Try.prog W = .ok (.enter F args) W)
    (hS : ∀ (M : Mm) (f : Fr) (W : World) (Z : Nat → Prop), G M f → Has W B lo Z M → Calls Try.prog F (#[.agg #[.int .i64 f.c.kind, .int .i64 f.c.a, .int .i64 f.c.b, .int .i64 f.c.time, .int .i64 f.c.bk, .int .i64 f.c.slot, .int .i64 f.pl, .int .i64 f.cur, .int .i64 f.prev, .int .i64 f.slot, .int .i64 f.n, .slice none f.keys.length 0, .bool f.done, .int .i64 f.e]] ++ caps) W fun e W' => (∃ a c, e = .returned (.agg #[.int .i64 (nf M f).c.kind, .int .i64 (nf M f).c.a, .int .i64 (nf M f).c.b, .int .i64 (nf M f).c.time, .int .i64 (nf M f).c.bk, .int .i64 (nf M f).c.slot, .int .i64 (nf M f).pl, .int .i64 (nf M f).cur, .int .i64 (nf M f).prev, .int .i64 (nf M f).slot, .int .i64 (nf M f).n, .slice a (nf M f).keys.length c, .bool (nf M f).done, .int .i64 (nf M f).e]) ∧ ((nf M f).done = false → a = none ∧ c = 0)) ∧ Has W' B lo (Up W Z) (nm M f) ∧ Fine W W' Z)
    (hG : ∀ M f, G M f → (nf M f).done = false → G (nm M f) (nf M f))
    (hM : Has w B lo Z M) (hZ : ∀ k, Z k → k < w.heap.size) (h0 : G M (newF c)) (hm : most ≤ 1000) :
    Calls Try.prog 17 #[.agg #[.int .i64 c.kind, .int .i64 c.a, .int .i64 c.b, .int .i64 c.time, .int .i64 c.bk, .int .i64 c.slot], .int .i64 most, .func (.func F) #[] caps] w fun e w' =>
      (∃ a c', e = .returned (.tuple #[.agg #[.int .i64 ((run nf nm most M (newF c)).2.1).c.kind, .int .i64 ((run nf nm most M (newF c)).2.1).c.a, .int .i64 ((run nf nm most M (newF c)).2.1).c.b, .int .i64 ((run nf nm most M (newF c)).2.1).c.time, .int .i64 ((run nf nm most M (newF c)).2.1).c.bk, .int .i64 ((run nf nm most M (newF c)).2.1).c.slot, .int .i64 ((run nf nm most M (newF c)).2.1).pl, .int .i64 ((run nf nm most M (newF c)).2.1).cur, .int .i64 ((run nf nm most M (newF c)).2.1).prev, .int .i64 ((run nf nm most M (newF c)).2.1).slot, .int .i64 ((run nf nm most M (newF c)).2.1).n, .slice a ((run nf nm most M (newF c)).2.1).keys.length c', .bool ((run nf nm most M (newF c)).2.1).done, .int .i64 ((run nf nm most M (newF c)).2.1).e], .bool (run nf nm most M (newF c)).2.2])) ∧ Has w' B lo (Up w Z) (run nf nm most M (newF c)).1 ∧ Fine w w' Z := by
  obtain ⟨f, hf⟩ : ∃ f, f = newF c := ⟨_, rfl⟩
  have HF : Hid (f = newF c) := hf
  rw [← hf]
  rw [← hf] at h0
  clear hf
  have HFn : Hid _ := hF
  have HS : Hid (∀ (M : Mm) (f : Fr) (W : World) (Z : Nat → Prop), G M f → Has W B lo Z M → Calls Try.prog F (#[.agg #[.int .i64 f.c.kind, .int .i64 f.c.a, .int .i64 f.c.b, .int .i64 f.c.time, .int .i64 f.c.bk, .int .i64 f.c.slot, .int .i64 f.pl, .int .i64 f.cur, .int .i64 f.prev, .int .i64 f.slot, .int .i64 f.n, .slice none f.keys.length 0, .bool f.done, .int .i64 f.e]] ++ caps) W fun e W' => (∃ a c, e = .returned (.agg #[.int .i64 (nf M f).c.kind, .int .i64 (nf M f).c.a, .int .i64 (nf M f).c.b, .int .i64 (nf M f).c.time, .int .i64 (nf M f).c.bk, .int .i64 (nf M f).c.slot, .int .i64 (nf M f).pl, .int .i64 (nf M f).cur, .int .i64 (nf M f).prev, .int .i64 (nf M f).slot, .int .i64 (nf M f).n, .slice a (nf M f).keys.length c, .bool (nf M f).done, .int .i64 (nf M f).e]) ∧ ((nf M f).done = false → a = none ∧ c = 0)) ∧ Has W' B lo (Up W Z) (nm M f) ∧ Fine W W' Z) := hS
  have HG : Hid (∀ M f, G M f → (nf M f).done = false → G (nm M f) (nf M f)) := hG
  have HM : Hid (Has w B lo Z M) := hM
  have HZ : Hid (∀ k, Z k → k < w.heap.size) := hZ
  have H0 : Hid (G M f) := h0
  clear hF hS hG hM hZ h0
  obtain ⟨oc, hoc⟩ : ∃ o : Obj, o = .cells #[.int .i64 c.kind, .int .i64 c.a, .int .i64 c.b, .int .i64 c.time, .int .i64 c.bk, .int .i64 c.slot] 29 := ⟨_, rfl⟩
  obtain ⟨oz, hoz⟩ : ∃ o : Obj, o = zeroFr := ⟨_, rfl⟩
  have HE0 : Hid (Env w ((w.alloc oc).alloc oz) [((w.alloc oc).heap.size, oz), (w.heap.size, oc)] []) := ((⟨Below.refl _ _, (fun p hp => by cases hp), (fun p hp => by cases hp)⟩ : Env w w [] []).alloc oc).alloc oz
  rw [show (w.alloc oc).heap.size = w.heap.size + 1 by simp] at HE0
  have HOz : Hid (oz = zeroFr) := hoz
  unfold zeroFr at hoz
  go_enter Try.func17, Try.ntmps17
  go_wp2_with fail
  rw [← hoc, ← hoz]
  generalize (w.alloc oc).alloc oz = W0 at *
  clear hoz
  refine (newFr_at HF.out W0).mono ?_
  rintro e w1 ⟨rfl, hb1⟩
  have HE1 : Hid _ := HE0.out.below hb1
  have HE2 : Hid (Env w (w1.alloc (.cells #[.int .i64 f.c.kind, .int .i64 f.c.a, .int .i64 f.c.b, .int .i64 f.c.time, .int .i64 f.c.bk, .int .i64 f.c.slot, .int .i64 f.pl, .int .i64 f.cur, .int .i64 f.prev, .int .i64 f.slot, .int .i64 f.n, .slice none f.keys.length 0, .bool f.done, .int .i64 f.e] 33)) ((w1.heap.size, .cells #[.int .i64 f.c.kind, .int .i64 f.c.a, .int .i64 f.c.b, .int .i64 f.c.time, .int .i64 f.c.bk, .int .i64 f.c.slot, .int .i64 f.pl, .int .i64 f.cur, .int .i64 f.prev, .int .i64 f.slot, .int .i64 f.n, .slice none f.keys.length 0, .bool f.done, .int .i64 f.e] 33) :: [(w.heap.size + 1, oz), (w.heap.size, oc)]) []) := HE1.out.alloc _
  have HA0 : Hid (Al w (w1.alloc (.cells #[.int .i64 f.c.kind, .int .i64 f.c.a, .int .i64 f.c.b, .int .i64 f.c.time, .int .i64 f.c.bk, .int .i64 f.c.slot, .int .i64 f.pl, .int .i64 f.cur, .int .i64 f.prev, .int .i64 f.slot, .int .i64 f.n, .slice none f.keys.length 0, .bool f.done, .int .i64 f.e] 33)) Z B lo w1.heap.size M f none 0) := by
    have h1 := HE1.out.lt (.head _)
    refine ⟨.of_below _ HE2.out.bl, ⟨Z, HM.out.below HE2.out.bl, fun h => by have := HZ.out _ h; omega, fun h => by have := HZ.out _ h; omega, fun k h => .inl h⟩, h1, HE2.out.box _ (.head _), HOz.out ▸ HE2.out.box _ (.tail _ (.head _))⟩
  clear HE0 HE1 HE2 hb1 HM HOz hoc
  go_wp2
  generalize hX : w1.heap.size = X at *
  generalize w1.alloc (.cells #[.int .i64 f.c.kind, .int .i64 f.c.a, .int .i64 f.c.b, .int .i64 f.c.time, .int .i64 f.c.bk, .int .i64 f.c.slot, .int .i64 f.pl, .int .i64 f.cur, .int .i64 f.prev, .int .i64 f.slot, .int .i64 f.n, .slice none f.keys.length 0, .bool f.done, .int .i64 f.e] 33) = W1 at *
  clear hX
  go_loopw [12] (fun i wr => ∃ k : Nat, k ≤ most ∧ i = .int .i64 k ∧ ∃ (N : Mm) (f' : Fr), Hid (Al w wr Z B lo X N f' none 0 ∧ G N f' ∧ run nf nm most M f = run nf nm (most - k) N f'))
    (fun i _ => most - (intOf i).toNat)
  case atStart => exact ⟨0, Nat.zero_le _, rfl, M, f, HA0.out, H0.out, rfl⟩
  case round =>
    obtain ⟨k, hk, rfl, N, f', HI⟩ := hrel
    clear HA0 H0 HF
    by_cases hlt : k < most
    · obtain ⟨Y, y1, y2, y3, y4⟩ := HI.out.1.has
      have HSt : Hid (Calls Try.prog F (#[.agg #[.int .i64 (f').c.kind, .int .i64 (f').c.a, .int .i64 (f').c.b, .int .i64 (f').c.time, .int .i64 (f').c.bk, .int .i64 (f').c.slot, .int .i64 (f').pl, .int .i64 (f').cur, .int .i64 (f').prev, .int .i64 (f').slot, .int .i64 (f').n, .slice none (f').keys.length 0, .bool (f').done, .int .i64 (f').e]] ++ caps) wr fun e W' => (∃ a c, e = .returned (.agg #[.int .i64 (nf N f').c.kind, .int .i64 (nf N f').c.a, .int .i64 (nf N f').c.b, .int .i64 (nf N f').c.time, .int .i64 (nf N f').c.bk, .int .i64 (nf N f').c.slot, .int .i64 (nf N f').pl, .int .i64 (nf N f').cur, .int .i64 (nf N f').prev, .int .i64 (nf N f').slot, .int .i64 (nf N f').n, .slice a (nf N f').keys.length c, .bool (nf N f').done, .int .i64 (nf N f').e]) ∧ ((nf N f').done = false → a = none ∧ c = 0)) ∧ Has W' B lo (Up wr Y) (nm N f') ∧ Fine wr W' Y) := HS.out N f' wr Y HI.out.2.1 y1
      have HNx : Hid (∀ (w2 : World), Has w2 B lo (Up wr Y) (nm N f') → Fine wr w2 Y → Al w w2 Z B lo X (nm N f') f' none 0) := fun w2 hh hf => HI.out.1.step y2 y3 y4 hh hf
      have HGn : Hid ((nf N f').done = false → G (nm N f') (nf N f')) := HG.out N f' HI.out.2.1
      have HRn : Hid (run nf nm most M f = if (nf N f').done then (nm N f', nf N f', true) else run nf nm (most - (k + 1)) (nm N f') (nf N f')) := HI.out.2.2.trans (by rw [show most - k = (most - (k + 1)) + 1 by omega]; rfl)
      obtain ⟨f0, f1, f2, f3, f4, f5, f6, f7, f8, f9, f10, f11, f12, f13, ff, fs⟩ := framef HI.out.1.xb
      clear y1 y2 y3 y4 HI HS HG
      generalize nm N f' = N2 at *
      generalize nf N f' = g at *
      go_wp2_with fail
      rw [HFn.out]
      refine HSt.out.mono ?_
      rintro e w2 ⟨⟨a2, c2, rfl, hd2⟩, hh2, hf2⟩
      have HA2 : Hid (Al w w2 Z B lo X N2 f' none 0) := HNx.out w2 hh2 hf2
      have HD2 : Hid (g.done = false → a2 = none ∧ c2 = 0) := hd2
      clear f0 f1 f2 f3 f4 f5 f6 f7 f8 f9 f10 f11 f12 f13 ff fs HSt HNx hh2 hf2 hd2
      obtain ⟨f0, f1, f2, f3, f4, f5, f6, f7, f8, f9, f10, f11, f12, f13, ff, fs⟩ := framef HA2.out.xb
      have HA3 : Hid _ := HA2.out.all g a2 c2
      cases hdn : g.done
      · rw [hdn] at HA3
        obtain ⟨ea, ec⟩ := HD2.out hdn
        have HG2 : Hid (G N2 g) := HGn.out hdn
        have HR2 : Hid (run nf nm most M f = run nf nm (most - (k + 1)) N2 g) := HRn.out.trans (by rw [hdn]; rfl)
        subst ea ec
        clear hdn HA2 HD2 HGn HRn
        go_wp2
        go_roundw
        case rel => exact ⟨k + 1, by omega, by go_num, N2, g, HA3.out, HG2.out, HR2.out⟩
        case measure => simp [intOf]; omega
      · rw [hdn] at HA3
        have HR2 : Hid (run nf nm most M f = (N2, g, true)) := HRn.out.trans (by rw [hdn]; rfl)
        have HDn : Hid (g.done = true) := hdn
        obtain ⟨g0, g1, g2, g3, g4, g5, g6, g7, g8, g9, g10, g11, g12, g13, gf, gs⟩ := framef HA2.out.rb
        have hx1 := HA2.out.hx
        have hne : X ≠ w.heap.size + 1 := by omega
        clear hdn HA2 HD2 HGn HRn
        go_wp2
        refine bodyPost_ret (v := .tuple #[.agg #[.int .i64 g.c.kind, .int .i64 g.c.a, .int .i64 g.c.b, .int .i64 g.c.time, .int .i64 g.c.bk, .int .i64 g.c.slot, .int .i64 g.pl, .int .i64 g.cur, .int .i64 g.prev, .int .i64 g.slot, .int .i64 g.n, .slice a2 g.keys.length c2, .bool g.done, .int .i64 g.e], .bool true]) (by simp [results, Try.results17, go_sem, HDn.out, g0, g1, g2, g3, g4, g5, g6, g7, g8, g9, g10, g11, g12, g13]) rfl ⟨⟨a2, c2, by rw [HR2.out]⟩, ?_⟩
        rw [HR2.out]
        exact HA3.out.end14
    · have hk' : most - k = 0 := by omega
      have HRn : Hid (run nf nm most M f = (N, f', false)) := HI.out.2.2.trans (by rw [hk']; rfl)
      obtain ⟨f0, f1, f2, f3, f4, f5, f6, f7, f8, f9, f10, f11, f12, f13, ff, fs⟩ := framef HI.out.1.xb
      obtain ⟨g0, g1, g2, g3, g4, g5, g6, g7, g8, g9, g10, g11, g12, g13, gf, gs⟩ := framef HI.out.1.rb
      have hx1 := HI.out.1.hx
      have hne : X ≠ w.heap.size + 1 := by omega
      clear hk'
      go_wp2
      refine bodyPost_ret (v := .tuple #[.agg #[.int .i64 (f').c.kind, .int .i64 (f').c.a, .int .i64 (f').c.b, .int .i64 (f').c.time, .int .i64 (f').c.bk, .int .i64 (f').c.slot, .int .i64 (f').pl, .int .i64 (f').cur, .int .i64 (f').prev, .int .i64 (f').slot, .int .i64 (f').n, .slice none (f').keys.length 0, .bool (f').done, .int .i64 (f').e], .bool false]) (by simp [results, Try.results17, go_sem, g0, g1, g2, g3, g4, g5, g6, g7, g8, g9, g10, g11, g12, g13]) rfl ⟨⟨none, 0, by rw [HRn.out]⟩, ?_⟩
      rw [HRn.out]
      exact HI.out.1.end14



end Go.Proofs.Ytdbilofhcadmoac.mm

/- The contract of alone for calls whose keys grow. -/
namespace Go.Proofs.Ytdbilofhcadmoac.mm
open Go.ChangeShapes Go.WideShapes Go.ChangeAt Go.RowKit Go.Joins Go.Deep Go.Sort
set_option maxRecDepth 100000
set_option linter.unusedVariables false

theorem KOwn.all14 {w1 : World} {X lo : Nat} {a : Option Addr} {c : Nat} {l : List (Int × Int)} {cs : Array Value} (h : KOwn w1 lo a c l) (hX : w1.heap[X]? = some (.cells cs 33 (0, 0))) {v0 v1 v2 v3 v4 v5 v6 v7 v8 v9 v10 v11 v12 v13 : Value} : KOwn ((((((((((((((w1.setCell ⟨X, 0, none⟩ v0).setCell ⟨X, 1, none⟩ v1).setCell ⟨X, 2, none⟩ v2).setCell ⟨X, 3, none⟩ v3).setCell ⟨X, 4, none⟩ v4).setCell ⟨X, 5, none⟩ v5).setCell ⟨X, 6, none⟩ v6).setCell ⟨X, 7, none⟩ v7).setCell ⟨X, 8, none⟩ v8).setCell ⟨X, 9, none⟩ v9).setCell ⟨X, 10, none⟩ v10).setCell ⟨X, 11, none⟩ v11).setCell ⟨X, 12, none⟩ v12).setCell ⟨X, 13, none⟩ v13) lo a c l :=
  h.same fun ad e => by
    have hne := h.box hX ad e
    repeat rw [Below.heap_setCell _ _ _ _ (by dsimp only; exact hne)]

set_option maxHeartbeats 3200000 in
theorem aloneO_any (F : Nat) (caps : Array Value) (nf : Mm → Fr → Fr) (nm : Mm → Fr → Mm) (G : Mm → Fr → Prop) (B lo : Nat) (Z : Nat → Prop) (M : Mm) (c : Cl) (most : Nat) (w : World)
    (hF : ∀ args W, (callFunc F args).run Try.prog W = .ok (.enter F args) W)
    (hS : ∀ (M : Mm) (f : Fr) (W : World) (Z : Nat → Prop) (ka : Option Addr) (kc : Nat), G M f → Has W B lo Z M → KOwn W 0 ka kc f.keys → Calls Try.prog F (#[.agg #[.int .i64 f.c.kind, .int .i64 f.c.a, .int .i64 f.c.b, .int .i64 f.c.time, .int .i64 f.c.bk, .int .i64 f.c.slot, .int .i64 f.pl, .int .i64 f.cur, .int .i64 f.prev, .int .i64 f.slot, .int .i64 f.n, .slice ka f.keys.length kc, .bool f.done, .int .i64 f.e]] ++ caps) W fun e W' => (∃ a c, e = .returned (.agg #[.int .i64 (nf M f).c.kind, .int .i64 (nf M f).c.a, .int .i64 (nf M f).c.b, .int .i64 (nf M f).c.time, .int .i64 (nf M f).c.bk, .int .i64 (nf M f).c.slot, .int .i64 (nf M f).pl, .int .i64 (nf M f).cur, .int .i64 (nf M f).prev, .int .i64 (nf M f).slot, .int .i64 (nf M f).n, .slice a (nf M f).keys.length c, .bool (nf M f).done, .int .i64 (nf M f).e]) ∧ KOwn W' 0 a c (nf M f).keys) ∧ Has W' B lo (Up W Z) (nm M f) ∧ Fine W W' Z)
    (hG : ∀ M f, G M f → (nf M f).done = false → G (nm M f) (nf M f))
    (hM : Has w B lo Z M) (hZ : ∀ k, Z k → k < w.heap.size) (h0 : G M (newF c)) (hm : most ≤ 1000) :
    Calls Try.prog 17 #[.agg #[.int .i64 c.kind, .int .i64 c.a, .int .i64 c.b, .int .i64 c.time, .int .i64 c.bk, .int .i64 c.slot], .int .i64 most, .func (.func F) #[] caps] w fun e w' =>
      (∃ a c', e = .returned (.tuple #[.agg #[.int .i64 ((run nf nm most M (newF c)).2.1).c.kind, .int .i64 ((run nf nm most M (newF c)).2.1).c.a, .int .i64 ((run nf nm most M (newF c)).2.1).c.b, .int .i64 ((run nf nm most M (newF c)).2.1).c.time, .int .i64 ((run nf nm most M (newF c)).2.1).c.bk, .int .i64 ((run nf nm most M (newF c)).2.1).c.slot, .int .i64 ((run nf nm most M (newF c)).2.1).pl, .int .i64 ((run nf nm most M (newF c)).2.1).cur, .int .i64 ((run nf nm most M (newF c)).2.1).prev, .int .i64 ((run nf nm most M (newF c)).2.1).slot, .int .i64 ((run nf nm most M (newF c)).2.1).n, .slice a ((run nf nm most M (newF c)).2.1).keys.length c', .bool ((run nf nm most M (newF c)).2.1).done, .int .i64 ((run nf nm most M (newF c)).2.1).e], .bool (run nf nm most M (newF c)).2.2]) ∧ KOwn w' 0 a c' (run nf nm most M (newF c)).2.1.keys) ∧ Has w' B lo (Up w Z) (run nf nm most M (newF c)).1 ∧ Fine w w' Z := by
  obtain ⟨f, hf⟩ : ∃ f, f = newF c := ⟨_, rfl⟩
  have HF : Hid (f = newF c) := hf
  rw [← hf]
  rw [← hf] at h0
  clear hf
  have HFn : Hid _ := hF
  have HS : Hid (∀ (M : Mm) (f : Fr) (W : World) (Z : Nat → Prop) (ka : Option Addr) (kc : Nat), G M f → Has W B lo Z M → KOwn W 0 ka kc f.keys → Calls Try.prog F (#[.agg #[.int .i64 f.c.kind, .int .i64 f.c.a, .int .i64 f.c.b, .int .i64 f.c.time, .int .i64 f.c.bk, .int .i64 f.c.slot, .int .i64 f.pl, .int .i64 f.cur, .int .i64 f.prev, .int .i64 f.slot, .int .i64 f.n, .slice ka f.keys.length kc, .bool f.done, .int .i64 f.e]] ++ caps) W fun e W' => (∃ a c, e = .returned (.agg #[.int .i64 (nf M f).c.kind, .int .i64 (nf M f).c.a, .int .i64 (nf M f).c.b, .int .i64 (nf M f).c.time, .int .i64 (nf M f).c.bk, .int .i64 (nf M f).c.slot, .int .i64 (nf M f).pl, .int .i64 (nf M f).cur, .int .i64 (nf M f).prev, .int .i64 (nf M f).slot, .int .i64 (nf M f).n, .slice a (nf M f).keys.length c, .bool (nf M f).done, .int .i64 (nf M f).e]) ∧ KOwn W' 0 a c (nf M f).keys) ∧ Has W' B lo (Up W Z) (nm M f) ∧ Fine W W' Z) := hS
  have HG : Hid (∀ M f, G M f → (nf M f).done = false → G (nm M f) (nf M f)) := hG
  have HM : Hid (Has w B lo Z M) := hM
  have HZ : Hid (∀ k, Z k → k < w.heap.size) := hZ
  have H0 : Hid (G M f) := h0
  clear hF hS hG hM hZ h0
  obtain ⟨oc, hoc⟩ : ∃ o : Obj, o = .cells #[.int .i64 c.kind, .int .i64 c.a, .int .i64 c.b, .int .i64 c.time, .int .i64 c.bk, .int .i64 c.slot] 29 := ⟨_, rfl⟩
  obtain ⟨oz, hoz⟩ : ∃ o : Obj, o = zeroFr := ⟨_, rfl⟩
  have HE0 : Hid (Env w ((w.alloc oc).alloc oz) [((w.alloc oc).heap.size, oz), (w.heap.size, oc)] []) := ((⟨Below.refl _ _, (fun p hp => by cases hp), (fun p hp => by cases hp)⟩ : Env w w [] []).alloc oc).alloc oz
  rw [show (w.alloc oc).heap.size = w.heap.size + 1 by simp] at HE0
  have HOz : Hid (oz = zeroFr) := hoz
  unfold zeroFr at hoz
  go_enter Try.func17, Try.ntmps17
  go_wp2_with fail
  rw [← hoc, ← hoz]
  generalize (w.alloc oc).alloc oz = W0 at *
  clear hoz
  refine (newFr_at HF.out W0).mono ?_
  rintro e w1 ⟨rfl, hb1⟩
  have HE1 : Hid _ := HE0.out.below hb1
  have HE2 : Hid (Env w (w1.alloc (.cells #[.int .i64 f.c.kind, .int .i64 f.c.a, .int .i64 f.c.b, .int .i64 f.c.time, .int .i64 f.c.bk, .int .i64 f.c.slot, .int .i64 f.pl, .int .i64 f.cur, .int .i64 f.prev, .int .i64 f.slot, .int .i64 f.n, .slice none f.keys.length 0, .bool f.done, .int .i64 f.e] 33)) ((w1.heap.size, .cells #[.int .i64 f.c.kind, .int .i64 f.c.a, .int .i64 f.c.b, .int .i64 f.c.time, .int .i64 f.c.bk, .int .i64 f.c.slot, .int .i64 f.pl, .int .i64 f.cur, .int .i64 f.prev, .int .i64 f.slot, .int .i64 f.n, .slice none f.keys.length 0, .bool f.done, .int .i64 f.e] 33) :: [(w.heap.size + 1, oz), (w.heap.size, oc)]) []) := HE1.out.alloc _
  have HA0 : Hid (Al w (w1.alloc (.cells #[.int .i64 f.c.kind, .int .i64 f.c.a, .int .i64 f.c.b, .int .i64 f.c.time, .int .i64 f.c.bk, .int .i64 f.c.slot, .int .i64 f.pl, .int .i64 f.cur, .int .i64 f.prev, .int .i64 f.slot, .int .i64 f.n, .slice none f.keys.length 0, .bool f.done, .int .i64 f.e] 33)) Z B lo w1.heap.size M f none 0) := by
    have h1 := HE1.out.lt (.head _)
    refine ⟨.of_below _ HE2.out.bl, ⟨Z, HM.out.below HE2.out.bl, fun h => by have := HZ.out _ h; omega, fun h => by have := HZ.out _ h; omega, fun k h => .inl h⟩, h1, HE2.out.box _ (.head _), HOz.out ▸ HE2.out.box _ (.tail _ (.head _))⟩
  have HK0 : Hid (KOwn (w1.alloc (.cells #[.int .i64 f.c.kind, .int .i64 f.c.a, .int .i64 f.c.b, .int .i64 f.c.time, .int .i64 f.c.bk, .int .i64 f.c.slot, .int .i64 f.pl, .int .i64 f.cur, .int .i64 f.prev, .int .i64 f.slot, .int .i64 f.n, .slice none f.keys.length 0, .bool f.done, .int .i64 f.e] 33)) 0 none 0 f.keys) := (show f.keys = [] from HF.out ▸ rfl) ▸ kown_nil _ _
  clear HE0 HE1 HE2 hb1 HM HOz hoc
  go_wp2
  generalize hX : w1.heap.size = X at *
  generalize w1.alloc (.cells #[.int .i64 f.c.kind, .int .i64 f.c.a, .int .i64 f.c.b, .int .i64 f.c.time, .int .i64 f.c.bk, .int .i64 f.c.slot, .int .i64 f.pl, .int .i64 f.cur, .int .i64 f.prev, .int .i64 f.slot, .int .i64 f.n, .slice none f.keys.length 0, .bool f.done, .int .i64 f.e] 33) = W1 at *
  clear hX
  go_loopw [12] (fun i wr => ∃ k : Nat, k ≤ most ∧ i = .int .i64 k ∧ ∃ (N : Mm) (f' : Fr) (ka : Option Addr) (kc : Nat), Hid (Al w wr Z B lo X N f' ka kc ∧ G N f' ∧ run nf nm most M f = run nf nm (most - k) N f' ∧ KOwn wr 0 ka kc f'.keys))
    (fun i _ => most - (intOf i).toNat)
  case atStart => exact ⟨0, Nat.zero_le _, rfl, M, f, none, 0, HA0.out, H0.out, rfl, HK0.out⟩
  case round =>
    obtain ⟨k, hk, rfl, N, f', ka, kc, HI⟩ := hrel
    clear HA0 H0 HF HK0
    by_cases hlt : k < most
    · obtain ⟨Y, y1, y2, y3, y4⟩ := HI.out.1.has
      have HSt : Hid (Calls Try.prog F (#[.agg #[.int .i64 (f').c.kind, .int .i64 (f').c.a, .int .i64 (f').c.b, .int .i64 (f').c.time, .int .i64 (f').c.bk, .int .i64 (f').c.slot, .int .i64 (f').pl, .int .i64 (f').cur, .int .i64 (f').prev, .int .i64 (f').slot, .int .i64 (f').n, .slice ka (f').keys.length kc, .bool (f').done, .int .i64 (f').e]] ++ caps) wr fun e W' => (∃ a c, e = .returned (.agg #[.int .i64 (nf N f').c.kind, .int .i64 (nf N f').c.a, .int .i64 (nf N f').c.b, .int .i64 (nf N f').c.time, .int .i64 (nf N f').c.bk, .int .i64 (nf N f').c.slot, .int .i64 (nf N f').pl, .int .i64 (nf N f').cur, .int .i64 (nf N f').prev, .int .i64 (nf N f').slot, .int .i64 (nf N f').n, .slice a (nf N f').keys.length c, .bool (nf N f').done, .int .i64 (nf N f').e]) ∧ KOwn W' 0 a c (nf N f').keys) ∧ Has W' B lo (Up wr Y) (nm N f') ∧ Fine wr W' Y) := HS.out N f' wr Y ka kc HI.out.2.1 y1 HI.out.2.2.2
      have HNx : Hid (∀ (w2 : World), Has w2 B lo (Up wr Y) (nm N f') → Fine wr w2 Y → Al w w2 Z B lo X (nm N f') f' ka kc) := fun w2 hh hf => HI.out.1.step y2 y3 y4 hh hf
      have HGn : Hid ((nf N f').done = false → G (nm N f') (nf N f')) := HG.out N f' HI.out.2.1
      have HRn : Hid (run nf nm most M f = if (nf N f').done then (nm N f', nf N f', true) else run nf nm (most - (k + 1)) (nm N f') (nf N f')) := HI.out.2.2.1.trans (by rw [show most - k = (most - (k + 1)) + 1 by omega]; rfl)
      obtain ⟨f0, f1, f2, f3, f4, f5, f6, f7, f8, f9, f10, f11, f12, f13, ff, fs⟩ := framef HI.out.1.xb
      clear y1 y2 y3 y4 HI HS HG
      generalize nm N f' = N2 at *
      generalize nf N f' = g at *
      go_wp2_with fail
      rw [HFn.out]
      refine HSt.out.mono ?_
      rintro e w2 ⟨⟨a2, c2, rfl, hd2⟩, hh2, hf2⟩
      have HA2 : Hid (Al w w2 Z B lo X N2 f' ka kc) := HNx.out w2 hh2 hf2
      have HD2 : Hid (KOwn w2 0 a2 c2 g.keys) := hd2
      clear f0 f1 f2 f3 f4 f5 f6 f7 f8 f9 f10 f11 f12 f13 ff fs HSt HNx hh2 hf2 hd2
      obtain ⟨f0, f1, f2, f3, f4, f5, f6, f7, f8, f9, f10, f11, f12, f13, ff, fs⟩ := framef HA2.out.xb
      have HA3 : Hid _ := HA2.out.all g a2 c2
      have HO3 : Hid _ := HD2.out.all14 HA2.out.xb (v0 := .int .i64 g.c.kind) (v1 := .int .i64 g.c.a) (v2 := .int .i64 g.c.b) (v3 := .int .i64 g.c.time) (v4 := .int .i64 g.c.bk) (v5 := .int .i64 g.c.slot) (v6 := .int .i64 g.pl) (v7 := .int .i64 g.cur) (v8 := .int .i64 g.prev) (v9 := .int .i64 g.slot) (v10 := .int .i64 g.n) (v11 := .slice a2 g.keys.length c2) (v12 := .bool g.done) (v13 := .int .i64 g.e)
      cases hdn : g.done
      · rw [hdn] at HA3 HO3
        have HG2 : Hid (G N2 g) := HGn.out hdn
        have HR2 : Hid (run nf nm most M f = run nf nm (most - (k + 1)) N2 g) := HRn.out.trans (by rw [hdn]; rfl)
        clear hdn HA2 HD2 HGn HRn
        go_wp2
        go_roundw
        case rel => exact ⟨k + 1, by omega, by go_num, N2, g, a2, c2, HA3.out, HG2.out, HR2.out, HO3.out⟩
        case measure => simp [intOf]; omega
      · rw [hdn] at HA3 HO3
        have HR2 : Hid (run nf nm most M f = (N2, g, true)) := HRn.out.trans (by rw [hdn]; rfl)
        have HDn : Hid (g.done = true) := hdn
        obtain ⟨g0, g1, g2, g3, g4, g5, g6, g7, g8, g9, g10, g11, g12, g13, gf, gs⟩ := framef HA2.out.rb
        have hx1 := HA2.out.hx
        have hne : X ≠ w.heap.size + 1 := by omega
        clear hdn HA2 HD2 HGn HRn
        go_wp2
        refine bodyPost_ret (v := .tuple #[.agg #[.int .i64 g.c.kind, .int .i64 g.c.a, .int .i64 g.c.b, .int .i64 g.c.time, .int .i64 g.c.bk, .int .i64 g.c.slot, .int .i64 g.pl, .int .i64 g.cur, .int .i64 g.prev, .int .i64 g.slot, .int .i64 g.n, .slice a2 g.keys.length c2, .bool g.done, .int .i64 g.e], .bool true]) (by simp [results, Try.results17, go_sem, HDn.out, g0, g1, g2, g3, g4, g5, g6, g7, g8, g9, g10, g11, g12, g13]) rfl ⟨⟨a2, c2, by rw [HR2.out], by rw [HR2.out]; exact HO3.out.all14 HA3.out.rb⟩, ?_⟩
        rw [HR2.out]
        exact HA3.out.end14
    · have hk' : most - k = 0 := by omega
      have HRn : Hid (run nf nm most M f = (N, f', false)) := HI.out.2.2.1.trans (by rw [hk']; rfl)
      obtain ⟨f0, f1, f2, f3, f4, f5, f6, f7, f8, f9, f10, f11, f12, f13, ff, fs⟩ := framef HI.out.1.xb
      obtain ⟨g0, g1, g2, g3, g4, g5, g6, g7, g8, g9, g10, g11, g12, g13, gf, gs⟩ := framef HI.out.1.rb
      have hx1 := HI.out.1.hx
      have hne : X ≠ w.heap.size + 1 := by omega
      clear hk'
      go_wp2
      refine bodyPost_ret (v := .tuple #[.agg #[.int .i64 (f').c.kind, .int .i64 (f').c.a, .int .i64 (f').c.b, .int .i64 (f').c.time, .int .i64 (f').c.bk, .int .i64 (f').c.slot, .int .i64 (f').pl, .int .i64 (f').cur, .int .i64 (f').prev, .int .i64 (f').slot, .int .i64 (f').n, .slice ka (f').keys.length kc, .bool (f').done, .int .i64 (f').e], .bool false]) (by simp [results, Try.results17, go_sem, g0, g1, g2, g3, g4, g5, g6, g7, g8, g9, g10, g11, g12, g13]) rfl ⟨⟨ka, kc, by rw [HRn.out], by rw [HRn.out]; exact HI.out.2.2.2.all14 HI.out.1.rb⟩, ?_⟩
      rw [HRn.out]
      exact HI.out.1.end14



end Go.Proofs.Ytdbilofhcadmoac.mm

/- What a Look finds that goes on alone, held against what is mapped. -/
namespace Go.Proofs.Ytdbilofhcadmoac.mm
set_option linter.unusedVariables false

def isF (a b now : Int) (f : Fl) : Bool := (f.a == a && f.b == b) && decide (now < f.unt)

theorem inj_nodup {α β : Type} (f : α → β) : ∀ (l : List α), (l.map f).Nodup → ∀ x ∈ l, ∀ y ∈ l, f x = f y → x = y
  | [], _, x, hx, _, _, _ => by cases hx
  | a :: l, h, x, hx, y, hy, e => by
    rw [List.map_cons, List.nodup_cons] at h
    rcases List.mem_cons.1 hx with h1 | h1
    · rcases List.mem_cons.1 hy with h2 | h2
      · rw [h1, h2]
      · rw [h1] at e
        exact (h.1 (List.mem_map.2 ⟨y, h2, e.symm⟩)).elim
    · rcases List.mem_cons.1 hy with h2 | h2
      · rw [h2] at e
        exact (h.1 (List.mem_map.2 ⟨x, h1, e⟩)).elim
      · exact inj_nodup f l h.2 x h1 y h2 e

theorem bk_look {M : Mm} (hM : Ok M) {c : Cl} (hk : c.kind = 1) (hkey : keyB c.a c.b = true) : bkOf M.heads.length c = bucket c.a c.b M.heads.length := by
  obtain ⟨n1, n2⟩ := hM.nh
  unfold bkOf
  rw [if_neg (by omega), if_pos hkey, if_pos ⟨n1, n2⟩]

theorem isF_iff {M : Mm} {a b : Int} {x : Int} : isF a b M.now (flowAt M x) = true ↔ keyAt M x = (a, b) ∧ M.now < (slotAt M x).unt := by
  unfold isF flowAt keyAt
  simp

theorem found_none {M : Mm} {c : Cl} {b : Nat} (hb : b < M.heads.length) {X : Mm} {g : Fr} (hF : Found M c (chL M b) X g) (hn : ∀ f ∈ (allC M).map (flowAt M), isF c.a c.b M.now f = false) : X = M ∧ g.e = 5 := by
  unfold Found at hF
  split at hF
  · exact hF
  · rename_i a ha
    have h1 := List.mem_of_find?_eq_some ha
    have h2 := List.find?_some ha
    have h3 : a ∈ allC M := mem_allC.2 ⟨b, hb, h1⟩
    have h4 := hn _ (List.mem_map.2 ⟨a, h3, rfl⟩)
    split at hF
    · rename_i hlt
      exfalso
      have : isF c.a c.b M.now (flowAt M a) = true := isF_iff.2 ⟨by simpa using h2, hlt⟩
      rw [h4] at this
      cases this
    · exact hF

theorem found_some {M : Mm} (hM : OkC M) {c : Cl} {b : Nat} (hb : b < M.heads.length) (hbk : bucket c.a c.b M.heads.length = b) {X : Mm} {g : Fr} (hF : Found M c (chL M b) X g) {f : Fl} (hf : f ∈ (allC M).map (flowAt M)) (hp : isF c.a c.b M.now f = true) :
    X = holdM M f.slot ∧ g.e = 0 ∧ g.slot = f.slot ∧ isSl M f.slot = true ∧ 0 < refsM M f.slot := by
  obtain ⟨a, ha, rfl⟩ := List.mem_map.1 hf
  obtain ⟨b', hb', hab⟩ := mem_allC.1 ha
  obtain ⟨r0, _, hbu⟩ := hM.held b' hb' a hab
  obtain ⟨hk, hlt⟩ := isF_iff.1 hp
  have hk1 : (slotAt M a).a = c.a ∧ (slotAt M a).b = c.b := by unfold keyAt at hk; simpa using hk
  rw [hk1.1, hk1.2, hbk] at hbu
  have hbb : b = b' := by omega
  subst hbb
  have hsl : isSl M a = true := isSl_in.2 (hM.allSlots a ha)
  have hrf : 0 < refsM M a := by
    have := (slot_refs hM.ok hsl).1
    have h2 : refsM M a ≠ 0 := r0
    omega
  unfold Found at hF
  split at hF
  · rename_i hnone
    have := List.find?_eq_none.1 hnone a hab
    rw [hk] at this
    simp at this
  · rename_i a2 ha2
    have h1 := List.mem_of_find?_eq_some ha2
    have h2 : keyAt M a2 = (c.a, c.b) := by simpa using List.find?_some ha2
    have e : a2 = a := inj_nodup (keyAt M) (allC M) hM.keys a2 (mem_allC.2 ⟨b, hb, h1⟩) a ha (h2.trans hk.symm)
    subst e
    rw [if_pos hlt] at hF
    exact ⟨hF.1, hF.2.1, hF.2.2, hsl, hrf⟩

theorem let_back {M : Mm} (hM : Ok M) {a : Int} (h : isSl M a = true) (h0 : 0 < refsM M a) (h1 : refsM M a ≠ 1000) : letE (holdM M a) a = 0 ∧ letM (holdM M a) a = M := by
  have hr := slot_refs hM h
  have ho := hold_ok hM h h0 (by omega)
  have hl : (holdM M a).slots.length = M.slots.length := by simp [holdM, setRefs]
  have hs : isSl (holdM M a) a = true := by rw [isSl_in] at h ⊢; rw [hl]; exact h
  have hrn : refsM (holdM M a) a = refsM M a + 1 := refs_hold h
  have e : letE (holdM M a) a = 0 := by
    unfold letE
    rw [if_neg (by rw [(chk_zero _).2 ho]; simp), hs, if_neg (by simp), if_neg (by omega)]
  refine ⟨e, ?_⟩
  unfold letM
  rw [if_pos e]
  have hp := putN_hold h h0
  unfold putN at hp
  rwa [if_neg (by omega)] at hp



end Go.Proofs.Ytdbilofhcadmoac.mm
