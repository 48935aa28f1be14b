/- The contract of the document's own OwnMem: a copy in memory of its own, whatever order its literal is reckoned in. -/
import Derived.Test.YtdbilofhcadmoaaGrow
import Derived.Test.YtdbilofhcadmoaaAnyhow
import Derived.Laws.AppendOwnNone
namespace Go.Proofs.Ytdbilofhcadmoaa.mm
open Go.ChangeShapes Go.WideShapes Go.ChangeAt Go.RowKit Go.Joins Go.Maps
set_option maxRecDepth 100000
set_option linter.unusedVariables false

def upd (L : Nat → Bool) (i : Nat) : Nat → Bool := fun k => if k = i then true else L k
def updv (x : Nat → Value) (d : Nat) (v : Value) : Nat → Value := fun k => if k = d then v else x k

theorem dj_of {a b c d : Value} {p q : Bool} (h : Dj (if p then a else b) (if q then c else d)) (hp : p = false) (hq : q = false) : Dj b d := by
  subst hp hq; exact h
theorem dj_oftf {a b c d : Value} {p q : Bool} (h : Dj (if p then a else b) (if q then c else d)) (hp : p = true) (hq : q = false) : Dj a d := by
  subst hp hq; exact h
theorem dj_offt {a b c d : Value} {p q : Bool} (h : Dj (if p then a else b) (if q then c else d)) (hp : p = false) (hq : q = true) : Dj b c := by
  subst hp hq; exact h

/- What holds when these operations have come up. -/
structure Fx (w0 : World) (M : Mm) (aS aH aF aL : Option Addr) (cS cH cF cL : Nat) (L : Nat → Bool) (x : Nat → Value) (W : World) : Prop where
  box : W.heap[w0.heap.size]? = some (.cells #[.slice aS M.slots.length cS, .slice aH M.heads.length cH, .slice aF M.free.length cF, .slice aL M.locks.length cL, .int .i64 M.now] 29 (0, 0))
  zb : L 19 = false → W.heap[w0.heap.size + 1]? = some (.cells #[.slice none 0 0, .slice none 0 0, .slice none 0 0, .slice none 0 0, .int .i64 0] 29 (0, 0))
  fb : L 19 = true → W.heap[w0.heap.size + 1]? = some (.cells #[x 6, x 10, x 14, x 18, .int .i64 M.now] 29 (0, 0))
  below : Below w0.heap.size w0 W
  p1 : L 1 = true → x 4 = .pointer (some ⟨w0.heap.size, 0, none⟩)
  p2 : L 2 = true → x 5 = .slice aS M.slots.length cS
  p5 : L 5 = true → x 8 = .pointer (some ⟨w0.heap.size, 1, none⟩)
  p6 : L 6 = true → x 9 = .slice aH M.heads.length cH
  p9 : L 9 = true → x 12 = .pointer (some ⟨w0.heap.size, 2, none⟩)
  p10 : L 10 = true → x 13 = .slice aF M.free.length cF
  p13 : L 13 = true → x 16 = .pointer (some ⟨w0.heap.size, 3, none⟩)
  p14 : L 14 = true → x 17 = .slice aL M.locks.length cL
  p16 : L 16 = true → x 19 = .pointer (some ⟨w0.heap.size, 4, none⟩)
  p17 : L 17 = true → x 20 = .int .i64 M.now
  b18 : L 18 = true → x 21 = .agg #[x 6, x 10, x 14, x 18, .int .i64 M.now]
  r0 : L 0 = true → L 3 = false → W.ownsRow (w0.heap.size + 2) 48 6 (x 3) 0 []
  r3 : L 3 = true → W.ownsRow (w0.heap.size + 2) 48 6 (x 6) M.slots.length (encS M.slots)
  r4 : L 4 = true → L 7 = false → W.ownsRow (w0.heap.size + 2) 3 1 (x 7) 0 []
  r7 : L 7 = true → W.ownsRow (w0.heap.size + 2) 3 1 (x 10) M.heads.length (encI M.heads)
  r8 : L 8 = true → L 11 = false → W.ownsRow (w0.heap.size + 2) 3 1 (x 11) 0 []
  r11 : L 11 = true → W.ownsRow (w0.heap.size + 2) 3 1 (x 14) M.free.length (encI M.free)
  r12 : L 12 = true → L 15 = false → W.ownsRow (w0.heap.size + 2) 3 1 (x 15) 0 []
  r15 : L 15 = true → W.ownsRow (w0.heap.size + 2) 3 1 (x 18) M.locks.length (encI M.locks)
  d12 : L 4 = true → L 8 = true → Dj (if L 7 then x 10 else x 7) (if L 11 then x 14 else x 11)
  d13 : L 4 = true → L 12 = true → Dj (if L 7 then x 10 else x 7) (if L 15 then x 18 else x 15)
  d23 : L 8 = true → L 12 = true → Dj (if L 11 then x 14 else x 11) (if L 15 then x 18 else x 15)
  e3 : L 3 = true → L 0 = true
  e7 : L 7 = true → L 4 = true
  e11 : L 11 = true → L 8 = true
  e15 : L 15 = true → L 12 = true
  e18 : L 18 = true → L 3 = true ∧ L 7 = true ∧ L 11 = true ∧ L 15 = true
  e19 : L 19 = true → L 18 = true

theorem Fx.a1 {w0 : World} {M : Mm} {aS aH aF aL : Option Addr} {cS cH cF cL : Nat} {L : Nat → Bool} {x : Nat → Value} {W : World} (F : Fx w0 M aS aH aF aL cS cH cF cL L x W) : Fx w0 M aS aH aF aL cS cH cF cL (upd L 1) (updv x 4 (.pointer (some ⟨w0.heap.size, 0, none⟩))) W :=
  ⟨F.box, F.zb, F.fb, F.below, (fun _ => rfl), F.p2, F.p5, F.p6, F.p9, F.p10, F.p13, F.p14, F.p16, F.p17, F.b18, F.r0, F.r3, F.r4, F.r7, F.r8, F.r11, F.r12, F.r15, F.d12, F.d13, F.d23, F.e3, F.e7, F.e11, F.e15, F.e18, F.e19⟩
theorem Fx.a2 {w0 : World} {M : Mm} {aS aH aF aL : Option Addr} {cS cH cF cL : Nat} {L : Nat → Bool} {x : Nat → Value} {W : World} (F : Fx w0 M aS aH aF aL cS cH cF cL L x W) : Fx w0 M aS aH aF aL cS cH cF cL (upd L 2) (updv x 5 (.slice aS M.slots.length cS)) W :=
  ⟨F.box, F.zb, F.fb, F.below, F.p1, (fun _ => rfl), F.p5, F.p6, F.p9, F.p10, F.p13, F.p14, F.p16, F.p17, F.b18, F.r0, F.r3, F.r4, F.r7, F.r8, F.r11, F.r12, F.r15, F.d12, F.d13, F.d23, F.e3, F.e7, F.e11, F.e15, F.e18, F.e19⟩
theorem Fx.a5 {w0 : World} {M : Mm} {aS aH aF aL : Option Addr} {cS cH cF cL : Nat} {L : Nat → Bool} {x : Nat → Value} {W : World} (F : Fx w0 M aS aH aF aL cS cH cF cL L x W) : Fx w0 M aS aH aF aL cS cH cF cL (upd L 5) (updv x 8 (.pointer (some ⟨w0.heap.size, 1, none⟩))) W :=
  ⟨F.box, F.zb, F.fb, F.below, F.p1, F.p2, (fun _ => rfl), F.p6, F.p9, F.p10, F.p13, F.p14, F.p16, F.p17, F.b18, F.r0, F.r3, F.r4, F.r7, F.r8, F.r11, F.r12, F.r15, F.d12, F.d13, F.d23, F.e3, F.e7, F.e11, F.e15, F.e18, F.e19⟩
theorem Fx.a6 {w0 : World} {M : Mm} {aS aH aF aL : Option Addr} {cS cH cF cL : Nat} {L : Nat → Bool} {x : Nat → Value} {W : World} (F : Fx w0 M aS aH aF aL cS cH cF cL L x W) : Fx w0 M aS aH aF aL cS cH cF cL (upd L 6) (updv x 9 (.slice aH M.heads.length cH)) W :=
  ⟨F.box, F.zb, F.fb, F.below, F.p1, F.p2, F.p5, (fun _ => rfl), F.p9, F.p10, F.p13, F.p14, F.p16, F.p17, F.b18, F.r0, F.r3, F.r4, F.r7, F.r8, F.r11, F.r12, F.r15, F.d12, F.d13, F.d23, F.e3, F.e7, F.e11, F.e15, F.e18, F.e19⟩
theorem Fx.a9 {w0 : World} {M : Mm} {aS aH aF aL : Option Addr} {cS cH cF cL : Nat} {L : Nat → Bool} {x : Nat → Value} {W : World} (F : Fx w0 M aS aH aF aL cS cH cF cL L x W) : Fx w0 M aS aH aF aL cS cH cF cL (upd L 9) (updv x 12 (.pointer (some ⟨w0.heap.size, 2, none⟩))) W :=
  ⟨F.box, F.zb, F.fb, F.below, F.p1, F.p2, F.p5, F.p6, (fun _ => rfl), F.p10, F.p13, F.p14, F.p16, F.p17, F.b18, F.r0, F.r3, F.r4, F.r7, F.r8, F.r11, F.r12, F.r15, F.d12, F.d13, F.d23, F.e3, F.e7, F.e11, F.e15, F.e18, F.e19⟩
theorem Fx.a10 {w0 : World} {M : Mm} {aS aH aF aL : Option Addr} {cS cH cF cL : Nat} {L : Nat → Bool} {x : Nat → Value} {W : World} (F : Fx w0 M aS aH aF aL cS cH cF cL L x W) : Fx w0 M aS aH aF aL cS cH cF cL (upd L 10) (updv x 13 (.slice aF M.free.length cF)) W :=
  ⟨F.box, F.zb, F.fb, F.below, F.p1, F.p2, F.p5, F.p6, F.p9, (fun _ => rfl), F.p13, F.p14, F.p16, F.p17, F.b18, F.r0, F.r3, F.r4, F.r7, F.r8, F.r11, F.r12, F.r15, F.d12, F.d13, F.d23, F.e3, F.e7, F.e11, F.e15, F.e18, F.e19⟩
theorem Fx.a13 {w0 : World} {M : Mm} {aS aH aF aL : Option Addr} {cS cH cF cL : Nat} {L : Nat → Bool} {x : Nat → Value} {W : World} (F : Fx w0 M aS aH aF aL cS cH cF cL L x W) : Fx w0 M aS aH aF aL cS cH cF cL (upd L 13) (updv x 16 (.pointer (some ⟨w0.heap.size, 3, none⟩))) W :=
  ⟨F.box, F.zb, F.fb, F.below, F.p1, F.p2, F.p5, F.p6, F.p9, F.p10, (fun _ => rfl), F.p14, F.p16, F.p17, F.b18, F.r0, F.r3, F.r4, F.r7, F.r8, F.r11, F.r12, F.r15, F.d12, F.d13, F.d23, F.e3, F.e7, F.e11, F.e15, F.e18, F.e19⟩
theorem Fx.a14 {w0 : World} {M : Mm} {aS aH aF aL : Option Addr} {cS cH cF cL : Nat} {L : Nat → Bool} {x : Nat → Value} {W : World} (F : Fx w0 M aS aH aF aL cS cH cF cL L x W) : Fx w0 M aS aH aF aL cS cH cF cL (upd L 14) (updv x 17 (.slice aL M.locks.length cL)) W :=
  ⟨F.box, F.zb, F.fb, F.below, F.p1, F.p2, F.p5, F.p6, F.p9, F.p10, F.p13, (fun _ => rfl), F.p16, F.p17, F.b18, F.r0, F.r3, F.r4, F.r7, F.r8, F.r11, F.r12, F.r15, F.d12, F.d13, F.d23, F.e3, F.e7, F.e11, F.e15, F.e18, F.e19⟩
theorem Fx.a16 {w0 : World} {M : Mm} {aS aH aF aL : Option Addr} {cS cH cF cL : Nat} {L : Nat → Bool} {x : Nat → Value} {W : World} (F : Fx w0 M aS aH aF aL cS cH cF cL L x W) : Fx w0 M aS aH aF aL cS cH cF cL (upd L 16) (updv x 19 (.pointer (some ⟨w0.heap.size, 4, none⟩))) W :=
  ⟨F.box, F.zb, F.fb, F.below, F.p1, F.p2, F.p5, F.p6, F.p9, F.p10, F.p13, F.p14, (fun _ => rfl), F.p17, F.b18, F.r0, F.r3, F.r4, F.r7, F.r8, F.r11, F.r12, F.r15, F.d12, F.d13, F.d23, F.e3, F.e7, F.e11, F.e15, F.e18, F.e19⟩
theorem Fx.a17 {w0 : World} {M : Mm} {aS aH aF aL : Option Addr} {cS cH cF cL : Nat} {L : Nat → Bool} {x : Nat → Value} {W : World} (F : Fx w0 M aS aH aF aL cS cH cF cL L x W) : Fx w0 M aS aH aF aL cS cH cF cL (upd L 17) (updv x 20 (.int .i64 M.now)) W :=
  ⟨F.box, F.zb, F.fb, F.below, F.p1, F.p2, F.p5, F.p6, F.p9, F.p10, F.p13, F.p14, F.p16, (fun _ => rfl), F.b18, F.r0, F.r3, F.r4, F.r7, F.r8, F.r11, F.r12, F.r15, F.d12, F.d13, F.d23, F.e3, F.e7, F.e11, F.e15, F.e18, F.e19⟩

theorem Fx.lt {w0 : World} {M : Mm} {aS aH aF aL : Option Addr} {cS cH cF cL : Nat} {L : Nat → Bool} {x : Nat → Value} {W : World} (F : Fx w0 M aS aH aF aL cS cH cF cL L x W) : w0.heap.size + 1 < W.heap.size := by
  cases h : L 19
  · exact lt_of_block (F.zb h)
  · exact lt_of_block (F.fb h)
theorem own_lit (W : World) (e : TypeId) (size lo : Nat) (h : lo ≤ W.heap.size) : (W.alloc (.cells #[] e)).ownsRow lo e size (.slice (some ⟨W.heap.size, 0, none⟩) 0 0) 0 [] :=
  ⟨by simp, .inr ⟨W.heap.size, 0, #[], rfl, h, heap_alloc_new _ _, Nat.le_refl _, Nat.zero_le _, by simp, by simp⟩⟩
theorem Dj.fresh {W : World} {v : Value} (hv : ∀ g, v.ownBlock = some g → g < W.heap.size) : Dj v (.slice (some ⟨W.heap.size, 0, none⟩) 0 0) := fun g h e => by
  have h1 := hv g h
  have e' : some W.heap.size = some g := e
  injection e' with e'
  omega
theorem Fx.lt1 {w0 : World} {M : Mm} {aS aH aF aL : Option Addr} {cS cH cF cL : Nat} {L : Nat → Bool} {x : Nat → Value} {W : World} (F : Fx w0 M aS aH aF aL cS cH cF cL L x W) (h : L 4 = true) : ∀ g, (if L 7 then x 10 else x 7).ownBlock = some g → g < W.heap.size := by
  cases h3 : L 7
  · exact fun g hg => ((F.r4 h h3).lt g hg).2
  · exact fun g hg => ((F.r7 h3).lt g hg).2
theorem Fx.lt2 {w0 : World} {M : Mm} {aS aH aF aL : Option Addr} {cS cH cF cL : Nat} {L : Nat → Bool} {x : Nat → Value} {W : World} (F : Fx w0 M aS aH aF aL cS cH cF cL L x W) (h : L 8 = true) : ∀ g, (if L 11 then x 14 else x 11).ownBlock = some g → g < W.heap.size := by
  cases h3 : L 11
  · exact fun g hg => ((F.r8 h h3).lt g hg).2
  · exact fun g hg => ((F.r11 h3).lt g hg).2
theorem Fx.lt3 {w0 : World} {M : Mm} {aS aH aF aL : Option Addr} {cS cH cF cL : Nat} {L : Nat → Bool} {x : Nat → Value} {W : World} (F : Fx w0 M aS aH aF aL cS cH cF cL L x W) (h : L 12 = true) : ∀ g, (if L 15 then x 18 else x 15).ownBlock = some g → g < W.heap.size := by
  cases h3 : L 15
  · exact fun g hg => ((F.r12 h h3).lt g hg).2
  · exact fun g hg => ((F.r15 h3).lt g hg).2
theorem Fx.a18 {w0 : World} {M : Mm} {aS aH aF aL : Option Addr} {cS cH cF cL : Nat} {L : Nat → Bool} {x : Nat → Value} {W : World} (F : Fx w0 M aS aH aF aL cS cH cF cL L x W) (h3 : L 3 = true) (h7 : L 7 = true) (h11 : L 11 = true) (h15 : L 15 = true) : Fx w0 M aS aH aF aL cS cH cF cL (upd L 18) (updv x 21 (.agg #[x 6, x 10, x 14, x 18, .int .i64 M.now])) W :=
  ⟨F.box, F.zb, F.fb, F.below, F.p1, F.p2, F.p5, F.p6, F.p9, F.p10, F.p13, F.p14, F.p16, F.p17, (fun _ => rfl), F.r0, F.r3, F.r4, F.r7, F.r8, F.r11, F.r12, F.r15, F.d12, F.d13, F.d23, F.e3, F.e7, F.e11, F.e15, (fun _ => ⟨h3, h7, h11, h15⟩), (fun _ => rfl)⟩
theorem Fx.b0 {w0 : World} {M : Mm} {aS aH aF aL : Option Addr} {cS cH cF cL : Nat} {L : Nat → Bool} {x : Nat → Value} {W : World} (F : Fx w0 M aS aH aF aL cS cH cF cL L x W) (hn : L 0 = false) : Fx w0 M aS aH aF aL cS cH cF cL (upd L 0) (updv x 3 (.slice (some ⟨W.heap.size, 0, none⟩) 0 0)) (W.alloc (.cells #[] 48)) := by
  have hf : L 3 = false := by
    cases h : L 3
    · rfl
    · rw [F.e3 h] at hn; cases hn
  exact ⟨((Below.heap_alloc _ _ _ (lt_of_block F.box)).trans F.box), (fun h => (Below.heap_alloc _ _ _ (lt_of_block (F.zb h))).trans (F.zb h)), (fun h => (Below.heap_alloc _ _ _ (lt_of_block (F.fb h))).trans (F.fb h)), (F.below.alloc F.below.size _), F.p1, F.p2, F.p5, F.p6, F.p9, F.p10, F.p13, F.p14, F.p16, F.p17, F.b18, (fun _ _ => own_lit W 48 6 _ F.lt), (fun h => World.ownsRow.alloc (F.r3 h) _), (fun h h3 => World.ownsRow.alloc (F.r4 h h3) _), (fun h => World.ownsRow.alloc (F.r7 h) _), (fun h h3 => World.ownsRow.alloc (F.r8 h h3) _), (fun h => World.ownsRow.alloc (F.r11 h) _), (fun h h3 => World.ownsRow.alloc (F.r12 h h3) _), (fun h => World.ownsRow.alloc (F.r15 h) _), F.d12, F.d13, F.d23, (fun _ => rfl), F.e7, F.e11, F.e15, F.e18, F.e19⟩
theorem Fx.b4 {w0 : World} {M : Mm} {aS aH aF aL : Option Addr} {cS cH cF cL : Nat} {L : Nat → Bool} {x : Nat → Value} {W : World} (F : Fx w0 M aS aH aF aL cS cH cF cL L x W) (hn : L 4 = false) : Fx w0 M aS aH aF aL cS cH cF cL (upd L 4) (updv x 7 (.slice (some ⟨W.heap.size, 0, none⟩) 0 0)) (W.alloc (.cells #[] 3)) := by
  have hf : L 7 = false := by
    cases h : L 7
    · rfl
    · rw [F.e7 h] at hn; cases hn
  exact ⟨((Below.heap_alloc _ _ _ (lt_of_block F.box)).trans F.box), (fun h => (Below.heap_alloc _ _ _ (lt_of_block (F.zb h))).trans (F.zb h)), (fun h => (Below.heap_alloc _ _ _ (lt_of_block (F.fb h))).trans (F.fb h)), (F.below.alloc F.below.size _), F.p1, F.p2, F.p5, F.p6, F.p9, F.p10, F.p13, F.p14, F.p16, F.p17, F.b18, (fun h h3 => World.ownsRow.alloc (F.r0 h h3) _), (fun h => World.ownsRow.alloc (F.r3 h) _), (fun _ _ => own_lit W 3 1 _ F.lt), (fun h => World.ownsRow.alloc (F.r7 h) _), (fun h h3 => World.ownsRow.alloc (F.r8 h h3) _), (fun h => World.ownsRow.alloc (F.r11 h) _), (fun h h3 => World.ownsRow.alloc (F.r12 h h3) _), (fun h => World.ownsRow.alloc (F.r15 h) _), (fun _ hb => (by have := (Dj.fresh (F.lt2 hb)).symm; show Dj (if L 7 then _ else _) _; rw [hf]; exact this)), (fun _ hb => (by have := (Dj.fresh (F.lt3 hb)).symm; show Dj (if L 7 then _ else _) _; rw [hf]; exact this)), F.d23, F.e3, (fun _ => rfl), F.e11, F.e15, F.e18, F.e19⟩
theorem Fx.b8 {w0 : World} {M : Mm} {aS aH aF aL : Option Addr} {cS cH cF cL : Nat} {L : Nat → Bool} {x : Nat → Value} {W : World} (F : Fx w0 M aS aH aF aL cS cH cF cL L x W) (hn : L 8 = false) : Fx w0 M aS aH aF aL cS cH cF cL (upd L 8) (updv x 11 (.slice (some ⟨W.heap.size, 0, none⟩) 0 0)) (W.alloc (.cells #[] 3)) := by
  have hf : L 11 = false := by
    cases h : L 11
    · rfl
    · rw [F.e11 h] at hn; cases hn
  exact ⟨((Below.heap_alloc _ _ _ (lt_of_block F.box)).trans F.box), (fun h => (Below.heap_alloc _ _ _ (lt_of_block (F.zb h))).trans (F.zb h)), (fun h => (Below.heap_alloc _ _ _ (lt_of_block (F.fb h))).trans (F.fb h)), (F.below.alloc F.below.size _), F.p1, F.p2, F.p5, F.p6, F.p9, F.p10, F.p13, F.p14, F.p16, F.p17, F.b18, (fun h h3 => World.ownsRow.alloc (F.r0 h h3) _), (fun h => World.ownsRow.alloc (F.r3 h) _), (fun h h3 => World.ownsRow.alloc (F.r4 h h3) _), (fun h => World.ownsRow.alloc (F.r7 h) _), (fun _ _ => own_lit W 3 1 _ F.lt), (fun h => World.ownsRow.alloc (F.r11 h) _), (fun h h3 => World.ownsRow.alloc (F.r12 h h3) _), (fun h => World.ownsRow.alloc (F.r15 h) _), (fun ha _ => (by have := Dj.fresh (F.lt1 ha); show Dj _ (if L 11 then _ else _); rw [hf]; exact this)), F.d13, (fun _ hb => (by have := (Dj.fresh (F.lt3 hb)).symm; show Dj (if L 11 then _ else _) _; rw [hf]; exact this)), F.e3, F.e7, (fun _ => rfl), F.e15, F.e18, F.e19⟩
theorem Fx.b12 {w0 : World} {M : Mm} {aS aH aF aL : Option Addr} {cS cH cF cL : Nat} {L : Nat → Bool} {x : Nat → Value} {W : World} (F : Fx w0 M aS aH aF aL cS cH cF cL L x W) (hn : L 12 = false) : Fx w0 M aS aH aF aL cS cH cF cL (upd L 12) (updv x 15 (.slice (some ⟨W.heap.size, 0, none⟩) 0 0)) (W.alloc (.cells #[] 3)) := by
  have hf : L 15 = false := by
    cases h : L 15
    · rfl
    · rw [F.e15 h] at hn; cases hn
  exact ⟨((Below.heap_alloc _ _ _ (lt_of_block F.box)).trans F.box), (fun h => (Below.heap_alloc _ _ _ (lt_of_block (F.zb h))).trans (F.zb h)), (fun h => (Below.heap_alloc _ _ _ (lt_of_block (F.fb h))).trans (F.fb h)), (F.below.alloc F.below.size _), F.p1, F.p2, F.p5, F.p6, F.p9, F.p10, F.p13, F.p14, F.p16, F.p17, F.b18, (fun h h3 => World.ownsRow.alloc (F.r0 h h3) _), (fun h => World.ownsRow.alloc (F.r3 h) _), (fun h h3 => World.ownsRow.alloc (F.r4 h h3) _), (fun h => World.ownsRow.alloc (F.r7 h) _), (fun h h3 => World.ownsRow.alloc (F.r8 h h3) _), (fun h => World.ownsRow.alloc (F.r11 h) _), (fun _ _ => own_lit W 3 1 _ F.lt), (fun h => World.ownsRow.alloc (F.r15 h) _), F.d12, (fun ha _ => (by have := Dj.fresh (F.lt1 ha); show Dj _ (if L 15 then _ else _); rw [hf]; exact this)), (fun ha _ => (by have := Dj.fresh (F.lt2 ha); show Dj _ (if L 15 then _ else _); rw [hf]; exact this)), F.e3, F.e7, F.e11, (fun _ => rfl), F.e18, F.e19⟩
theorem Fx.c3 {w0 : World} {M : Mm} {aS aH aF aL : Option Addr} {cS cH cF cL : Nat} {L : Nat → Bool} {x : Nat → Value} {W : World} (F : Fx w0 M aS aH aF aL cS cH cF cL L x W) (hl : L 0 = true) (hf : L 3 = false) {v : Value} {W' : World} (ho2 : W'.ownsRow (w0.heap.size + 2) 48 6 v M.slots.length (encS M.slots)) (hg : W.grownBy W' (x 3).ownBlock) (hloc : v.ownBlock = (x 3).ownBlock ∨ v.ownBlock = some W.heap.size) : Fx w0 M aS aH aF aL cS cH cF cL (upd L 3) (updv x 6 v) W' := by
  have ho := F.r0 hl hf
  have h18 : L 18 = true → false = true := fun h => by
    obtain ⟨h3, h7, h11, h15⟩ := F.e18 h
    rw [← hf]; assumption
  exact ⟨((hg.block _ (lt_of_block F.box) (fun h => own_ne ho F.box (by decide) h.symm)).trans F.box), (fun h => (hg.block _ (lt_of_block (F.zb h)) (fun h1 => own_ne ho (F.zb h) (by decide) h1.symm)).trans (F.zb h)), (fun h => absurd (h18 (F.e19 h)) (by simp)), (F.below.grown hg F.below.size (fun k hk => by have := (ho.lt k hk).1; omega)), F.p1, F.p2, F.p5, F.p6, F.p9, F.p10, F.p13, F.p14, F.p16, F.p17, (fun h => absurd (h18 h) (by simp)), (fun _ h => by cases h), (fun _ => ho2), (fun h h3 => World.ownsRow.kept (F.r4 h h3) hg (own_dj (F.r4 h h3) ho (by decide)).ne), (fun h => World.ownsRow.kept (F.r7 h) hg (own_dj (F.r7 h) ho (by decide)).ne), (fun h h3 => World.ownsRow.kept (F.r8 h h3) hg (own_dj (F.r8 h h3) ho (by decide)).ne), (fun h => World.ownsRow.kept (F.r11 h) hg (own_dj (F.r11 h) ho (by decide)).ne), (fun h h3 => World.ownsRow.kept (F.r12 h h3) hg (own_dj (F.r12 h h3) ho (by decide)).ne), (fun h => World.ownsRow.kept (F.r15 h) hg (own_dj (F.r15 h) ho (by decide)).ne), F.d12, F.d13, F.d23, (fun _ => hl), F.e7, F.e11, F.e15, (fun h => absurd (h18 h) (by simp)), F.e19⟩
theorem Fx.c7 {w0 : World} {M : Mm} {aS aH aF aL : Option Addr} {cS cH cF cL : Nat} {L : Nat → Bool} {x : Nat → Value} {W : World} (F : Fx w0 M aS aH aF aL cS cH cF cL L x W) (hl : L 4 = true) (hf : L 7 = false) {v : Value} {W' : World} (ho2 : W'.ownsRow (w0.heap.size + 2) 3 1 v M.heads.length (encI M.heads)) (hg : W.grownBy W' (x 7).ownBlock) (hloc : v.ownBlock = (x 7).ownBlock ∨ v.ownBlock = some W.heap.size) : Fx w0 M aS aH aF aL cS cH cF cL (upd L 7) (updv x 10 v) W' := by
  have ho := F.r4 hl hf
  have h18 : L 18 = true → false = true := fun h => by
    obtain ⟨h3, h7, h11, h15⟩ := F.e18 h
    rw [← hf]; assumption
  exact ⟨((hg.block _ (lt_of_block F.box) (fun h => own_ne ho F.box (by decide) h.symm)).trans F.box), (fun h => (hg.block _ (lt_of_block (F.zb h)) (fun h1 => own_ne ho (F.zb h) (by decide) h1.symm)).trans (F.zb h)), (fun h => absurd (h18 (F.e19 h)) (by simp)), (F.below.grown hg F.below.size (fun k hk => by have := (ho.lt k hk).1; omega)), F.p1, F.p2, F.p5, F.p6, F.p9, F.p10, F.p13, F.p14, F.p16, F.p17, (fun h => absurd (h18 h) (by simp)), (fun h h3 => World.ownsRow.kept (F.r0 h h3) hg (own_dj (F.r0 h h3) ho (by decide)).ne), (fun h => World.ownsRow.kept (F.r3 h) hg (own_dj (F.r3 h) ho (by decide)).ne), (fun _ h => by cases h), (fun _ => ho2), (fun h h3 => World.ownsRow.kept (F.r8 h h3) hg (dj_of (F.d12 hl h) hf h3).symm.ne), (fun h => World.ownsRow.kept (F.r11 h) hg (dj_offt (F.d12 hl (F.e11 h)) hf h).symm.ne), (fun h h3 => World.ownsRow.kept (F.r12 h h3) hg (dj_of (F.d13 hl h) hf h3).symm.ne), (fun h => World.ownsRow.kept (F.r15 h) hg (dj_offt (F.d13 hl (F.e15 h)) hf h).symm.ne), (fun _ hb => (by have hd := (F.d12 hl hb).symm; rw [hf] at hd; exact (Dj.grown hd (F.lt2 hb) hloc).symm)), (fun _ hb => (by have hd := (F.d13 hl hb).symm; rw [hf] at hd; exact (Dj.grown hd (F.lt3 hb) hloc).symm)), F.d23, F.e3, (fun _ => hl), F.e11, F.e15, (fun h => absurd (h18 h) (by simp)), F.e19⟩
theorem Fx.c11 {w0 : World} {M : Mm} {aS aH aF aL : Option Addr} {cS cH cF cL : Nat} {L : Nat → Bool} {x : Nat → Value} {W : World} (F : Fx w0 M aS aH aF aL cS cH cF cL L x W) (hl : L 8 = true) (hf : L 11 = false) {v : Value} {W' : World} (ho2 : W'.ownsRow (w0.heap.size + 2) 3 1 v M.free.length (encI M.free)) (hg : W.grownBy W' (x 11).ownBlock) (hloc : v.ownBlock = (x 11).ownBlock ∨ v.ownBlock = some W.heap.size) : Fx w0 M aS aH aF aL cS cH cF cL (upd L 11) (updv x 14 v) W' := by
  have ho := F.r8 hl hf
  have h18 : L 18 = true → false = true := fun h => by
    obtain ⟨h3, h7, h11, h15⟩ := F.e18 h
    rw [← hf]; assumption
  exact ⟨((hg.block _ (lt_of_block F.box) (fun h => own_ne ho F.box (by decide) h.symm)).trans F.box), (fun h => (hg.block _ (lt_of_block (F.zb h)) (fun h1 => own_ne ho (F.zb h) (by decide) h1.symm)).trans (F.zb h)), (fun h => absurd (h18 (F.e19 h)) (by simp)), (F.below.grown hg F.below.size (fun k hk => by have := (ho.lt k hk).1; omega)), F.p1, F.p2, F.p5, F.p6, F.p9, F.p10, F.p13, F.p14, F.p16, F.p17, (fun h => absurd (h18 h) (by simp)), (fun h h3 => World.ownsRow.kept (F.r0 h h3) hg (own_dj (F.r0 h h3) ho (by decide)).ne), (fun h => World.ownsRow.kept (F.r3 h) hg (own_dj (F.r3 h) ho (by decide)).ne), (fun h h3 => World.ownsRow.kept (F.r4 h h3) hg (dj_of (F.d12 h hl) h3 hf).ne), (fun h => World.ownsRow.kept (F.r7 h) hg (dj_oftf (F.d12 (F.e7 h) hl) h hf).ne), (fun _ h => by cases h), (fun _ => ho2), (fun h h3 => World.ownsRow.kept (F.r12 h h3) hg (dj_of (F.d23 hl h) hf h3).symm.ne), (fun h => World.ownsRow.kept (F.r15 h) hg (dj_offt (F.d23 hl (F.e15 h)) hf h).symm.ne), (fun ha _ => (by have hd := F.d12 ha hl; rw [hf] at hd; exact Dj.grown hd (F.lt1 ha) hloc)), F.d13, (fun _ hb => (by have hd := (F.d23 hl hb).symm; rw [hf] at hd; exact (Dj.grown hd (F.lt3 hb) hloc).symm)), F.e3, F.e7, (fun _ => hl), F.e15, (fun h => absurd (h18 h) (by simp)), F.e19⟩
theorem Fx.c15 {w0 : World} {M : Mm} {aS aH aF aL : Option Addr} {cS cH cF cL : Nat} {L : Nat → Bool} {x : Nat → Value} {W : World} (F : Fx w0 M aS aH aF aL cS cH cF cL L x W) (hl : L 12 = true) (hf : L 15 = false) {v : Value} {W' : World} (ho2 : W'.ownsRow (w0.heap.size + 2) 3 1 v M.locks.length (encI M.locks)) (hg : W.grownBy W' (x 15).ownBlock) (hloc : v.ownBlock = (x 15).ownBlock ∨ v.ownBlock = some W.heap.size) : Fx w0 M aS aH aF aL cS cH cF cL (upd L 15) (updv x 18 v) W' := by
  have ho := F.r12 hl hf
  have h18 : L 18 = true → false = true := fun h => by
    obtain ⟨h3, h7, h11, h15⟩ := F.e18 h
    rw [← hf]; assumption
  exact ⟨((hg.block _ (lt_of_block F.box) (fun h => own_ne ho F.box (by decide) h.symm)).trans F.box), (fun h => (hg.block _ (lt_of_block (F.zb h)) (fun h1 => own_ne ho (F.zb h) (by decide) h1.symm)).trans (F.zb h)), (fun h => absurd (h18 (F.e19 h)) (by simp)), (F.below.grown hg F.below.size (fun k hk => by have := (ho.lt k hk).1; omega)), F.p1, F.p2, F.p5, F.p6, F.p9, F.p10, F.p13, F.p14, F.p16, F.p17, (fun h => absurd (h18 h) (by simp)), (fun h h3 => World.ownsRow.kept (F.r0 h h3) hg (own_dj (F.r0 h h3) ho (by decide)).ne), (fun h => World.ownsRow.kept (F.r3 h) hg (own_dj (F.r3 h) ho (by decide)).ne), (fun h h3 => World.ownsRow.kept (F.r4 h h3) hg (dj_of (F.d13 h hl) h3 hf).ne), (fun h => World.ownsRow.kept (F.r7 h) hg (dj_oftf (F.d13 (F.e7 h) hl) h hf).ne), (fun h h3 => World.ownsRow.kept (F.r8 h h3) hg (dj_of (F.d23 h hl) h3 hf).ne), (fun h => World.ownsRow.kept (F.r11 h) hg (dj_oftf (F.d23 (F.e11 h) hl) h hf).ne), (fun _ h => by cases h), (fun _ => ho2), F.d12, (fun ha _ => (by have hd := F.d13 ha hl; rw [hf] at hd; exact Dj.grown hd (F.lt1 ha) hloc)), (fun ha _ => (by have hd := F.d23 ha hl; rw [hf] at hd; exact Dj.grown hd (F.lt2 ha) hloc)), F.e3, F.e7, F.e11, (fun _ => hl), (fun h => absurd (h18 h) (by simp)), F.e19⟩
theorem Fx.s19 {w0 : World} {M : Mm} {aS aH aF aL : Option Addr} {cS cH cF cL : Nat} {L : Nat → Bool} {x : Nat → Value} {W : World} (F : Fx w0 M aS aH aF aL cS cH cF cL L x W) (hl : L 18 = true) (hf : L 19 = false) : Fx w0 M aS aH aF aL cS cH cF cL (upd L 19) x (set5 W (w0.heap.size + 1) (x 6) (x 10) (x 14) (x 18) (.int .i64 M.now)) :=
  ⟨((set5_other (by omega)).trans F.box), (fun h => by cases h), (fun _ => set5_block (F.zb hf) _ _ _ _ _), (F.below.trans (set5_below _ _ _ _ _ _ _ _ (by omega))), F.p1, F.p2, F.p5, F.p6, F.p9, F.p10, F.p13, F.p14, F.p16, F.p17, F.b18, (fun h h3 => own_set5 (F.r0 h h3) (own_ne (F.r0 h h3) (F.zb hf) (by decide)) _ _ _ _ _), (fun h => own_set5 (F.r3 h) (own_ne (F.r3 h) (F.zb hf) (by decide)) _ _ _ _ _), (fun h h3 => own_set5 (F.r4 h h3) (own_ne (F.r4 h h3) (F.zb hf) (by decide)) _ _ _ _ _), (fun h => own_set5 (F.r7 h) (own_ne (F.r7 h) (F.zb hf) (by decide)) _ _ _ _ _), (fun h h3 => own_set5 (F.r8 h h3) (own_ne (F.r8 h h3) (F.zb hf) (by decide)) _ _ _ _ _), (fun h => own_set5 (F.r11 h) (own_ne (F.r11 h) (F.zb hf) (by decide)) _ _ _ _ _), (fun h h3 => own_set5 (F.r12 h h3) (own_ne (F.r12 h h3) (F.zb hf) (by decide)) _ _ _ _ _), (fun h => own_set5 (F.r15 h) (own_ne (F.r15 h) (F.zb hf) (by decide)) _ _ _ _ _), F.d12, F.d13, F.d23, F.e3, F.e7, F.e11, F.e15, F.e18, (fun _ => hl)⟩


end Go.Proofs.Ytdbilofhcadmoaa.mm
