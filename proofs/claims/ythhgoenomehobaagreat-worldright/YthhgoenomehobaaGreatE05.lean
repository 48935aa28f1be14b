/- Parts. -/
import Derived.Test.YthhgoenomehobaaGreatE02
namespace Go.Proofs.YthhgoenomehobaaGreat.mm
set_option maxRecDepth 100000
set_option linter.unusedVariables false
section
open Go.ChangeShapes Go.WideShapes Go.ChangeAt Go.RowKit Go.Joins
variable {Xb : Ex}
structure Env (w0 w : World) (L : List (Nat × Obj)) (K : List (Value × Mm)) : Prop where
  bl : Below w0.heap.size w0 w
  box : ∀ p ∈ L,w.heap[p.1]? = some p.2
  mem : ∀ p ∈ K,Ans 0 w p.1 p.2
theorem Env.below {w0 w w' : World} {L : List (Nat × Obj)} {K : List (Value × Mm)} (E : Env w0 w L K) (hb : Below w.heap.size w w') : Env w0 w' L K :=
  ⟨E.bl.trans (hb.mono E.bl.size),fun p hp => (hb.block p.1 (by
    have:=E.box p hp
    exact (Array.getElem?_eq_some_iff.1 this).1)).trans (E.box p hp),fun p hp => (E.mem p hp).below hb⟩
theorem Env.alloc {w0 w : World} {L : List (Nat × Obj)} {K : List (Value × Mm)} (E : Env w0 w L K) (o : Obj) : Env w0 (w.alloc o) ((w.heap.size,o) :: L) K:=by
  have h:=E.below (a0c w o)
  refine ⟨h.bl,fun p hp => ?_,h.mem⟩
  rcases List.mem_cons.1 hp with rfl | hp
  · exact heap_alloc_new w o
  · exact h.box p hp
theorem Env.lt {w0 w : World} {L : List (Nat × Obj)} {K : List (Value × Mm)} (E : Env w0 w L K) {B : Nat} {o : Obj} (h : (B,o) ∈ L) : B < w.heap.size:=(Array.getElem?_eq_some_iff.1 (E.box _ h)).1
end
end Go.Proofs.YthhgoenomehobaaGreat.mm
