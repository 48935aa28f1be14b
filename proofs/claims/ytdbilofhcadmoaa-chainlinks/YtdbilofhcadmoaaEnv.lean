/- What a walk carries along: boxes with what lies in them, values that are memory. -/
import Derived.Test.YtdbilofhcadmoaaOwnR
namespace Go.Proofs.Ytdbilofhcadmoaa.mm
open Go.ChangeShapes Go.WideShapes Go.ChangeAt Go.RowKit Go.Joins
set_option linter.unusedVariables false

structure Env (w0 w : World) (L : List (Nat × Obj)) (K : List (Value × Mm)) : Prop where
  bl : Below w0.heap.size w0 w
  box : ∀ p ∈ L, w.heap[p.1]? = some p.2
  mem : ∀ p ∈ K, Ans 0 w p.1 p.2

theorem Env.below {w0 w w' : World} {L : List (Nat × Obj)} {K : List (Value × Mm)} (E : Env w0 w L K) (hb : Below w.heap.size w w') : Env w0 w' L K :=
  ⟨E.bl.trans (hb.mono E.bl.size), fun p hp => (hb.block p.1 (by
    have := E.box p hp
    exact (Array.getElem?_eq_some_iff.1 this).1)).trans (E.box p hp), fun p hp => (E.mem p hp).below hb⟩
theorem Env.alloc {w0 w : World} {L : List (Nat × Obj)} {K : List (Value × Mm)} (E : Env w0 w L K) (o : Obj) : Env w0 (w.alloc o) ((w.heap.size, o) :: L) K := by
  have h := E.below (one_below w o)
  refine ⟨h.bl, fun p hp => ?_, h.mem⟩
  rcases List.mem_cons.1 hp with rfl | hp
  · exact heap_alloc_new w o
  · exact h.box p hp
theorem Env.add {w0 w : World} {L : List (Nat × Obj)} {K : List (Value × Mm)} (E : Env w0 w L K) {v : Value} {M : Mm} {lo : Nat} (h : Ans lo w v M) : Env w0 w L ((v, M) :: K) :=
  ⟨E.bl, E.box, fun p hp => by
    rcases List.mem_cons.1 hp with rfl | hp
    · exact h.mono (Nat.zero_le _)
    · exact E.mem p hp⟩
theorem Env.at {w0 w : World} {L : List (Nat × Obj)} {K : List (Value × Mm)} (E : Env w0 w L K) {B : Nat} {o : Obj} (h : (B, o) ∈ L) : w.heap[B]? = some o := E.box _ h
theorem Env.ans {w0 w : World} {L : List (Nat × Obj)} {K : List (Value × Mm)} (E : Env w0 w L K) {v : Value} {M : Mm} (h : (v, M) ∈ K) : Ans 0 w v M := E.mem _ h
theorem Env.lt {w0 w : World} {L : List (Nat × Obj)} {K : List (Value × Mm)} (E : Env w0 w L K) {B : Nat} {o : Obj} (h : (B, o) ∈ L) : B < w.heap.size := (Array.getElem?_eq_some_iff.1 (E.box _ h)).1

/- A value that is memory, written out. -/
theorem Ans.form {lo : Nat} {w : World} {v : Value} {M : Mm} (h : Ans lo w v M) : ∃ aS aH aF aL cS cH cF cL, v = .agg #[.slice aS M.slots.length cS, .slice aH M.heads.length cH, .slice aF M.free.length cF, .slice aL M.locks.length cL, .int .i64 M.now] := by
  obtain ⟨aS, aH, aF, aL, cS, cH, cF, cL, e, -, -⟩ := h
  exact ⟨aS, aH, aF, aL, cS, cH, cF, cL, e⟩
theorem Rw.ans {w : World} {lo : Nat} {aS aH aF aL : Option Addr} {cS cH cF cL : Nat} {M : Mm} (r : Rw w lo aS aH aF aL cS cH cF cL M)
    (m1 : M.slots.length * 48 ≤ 140737488351232) (m2 : M.heads.length * 8 ≤ 140737488351232) (m3 : M.free.length * 8 ≤ 140737488351232) (m4 : M.locks.length * 8 ≤ 140737488351232) :
    Ans lo w (.agg #[.slice aS M.slots.length cS, .slice aH M.heads.length cH, .slice aF M.free.length cF, .slice aL M.locks.length cL, .int .i64 M.now]) M :=
  ⟨aS, aH, aF, aL, cS, cH, cF, cL, rfl, r.at m1 m2 m3 m4, r.hi⟩
theorem Ans.at_ {lo : Nat} {w : World} {aS aH aF aL : Option Addr} {cS cH cF cL : Nat} {M : Mm} (h : Ans lo w (.agg #[.slice aS M.slots.length cS, .slice aH M.heads.length cH, .slice aF M.free.length cF, .slice aL M.locks.length cL, .int .i64 M.now]) M) : At w aS aH aF aL cS cH cF cL M := by
  obtain ⟨aS', aH', aF', aL', cS', cH', cF', cL', e, A, -⟩ := h
  simp only [Value.agg.injEq, Array.mk.injEq, List.cons.injEq, Value.slice.injEq, true_and, and_true] at e
  obtain ⟨⟨rfl, rfl⟩, ⟨rfl, rfl⟩, ⟨rfl, rfl⟩, rfl, rfl⟩ := e
  exact A
theorem Rw.alloc {w : World} {lo : Nat} {aS aH aF aL : Option Addr} {cS cH cF cL : Nat} {M : Mm} (r : Rw w lo aS aH aF aL cS cH cF cL M) (o : Obj) : Rw (w.alloc o) lo aS aH aF aL cS cH cF cL M := r.below (one_below w o)

/- Memory of one's own, in the box that was just made. -/
theorem Mine.made {w : World} {lo : Nat} {aS aH aF aL : Option Addr} {cS cH cF cL : Nat} {M : Mm} (r : Rw w lo aS aH aF aL cS cH cF cL M)
    (m1 : M.slots.length * 48 ≤ 140737488351232) (m2 : M.heads.length * 8 ≤ 140737488351232) (m3 : M.free.length * 8 ≤ 140737488351000) (m4 : M.locks.length * 8 ≤ 140737488351232) :
    Mine (w.alloc (.cells #[.slice aS M.slots.length cS, .slice aH M.heads.length cH, .slice aF M.free.length cF, .slice aL M.locks.length cL, .int .i64 M.now] 29)) w.heap.size lo aS aH aF aL cS cH cF cL M :=
  ⟨heap_alloc_new _ _, r.alloc _, m1, m2, m3, m4⟩
/- .. or stored into an elder one. -/
theorem Mine.stored {w : World} {lo B : Nat} {aS aH aF aL : Option Addr} {cS cH cF cL : Nat} {M : Mm} {u0 u1 u2 u3 u4 : Value} (r : Rw w lo aS aH aF aL cS cH cF cL M) (hB : w.heap[B]? = some (.cells #[u0, u1, u2, u3, u4] 29 (0, 0)))
    (m1 : M.slots.length * 48 ≤ 140737488351232) (m2 : M.heads.length * 8 ≤ 140737488351232) (m3 : M.free.length * 8 ≤ 140737488351000) (m4 : M.locks.length * 8 ≤ 140737488351232) :
    Mine (set5 w B (.slice aS M.slots.length cS) (.slice aH M.heads.length cH) (.slice aF M.free.length cF) (.slice aL M.locks.length cL) (.int .i64 M.now)) B lo aS aH aF aL cS cH cF cL M :=
  ⟨set5_block hB _ _ _ _ _, r.set5 hB _ _ _ _ _, m1, m2, m3, m4⟩
theorem Mine.ans {w : World} {B lo : Nat} {aS aH aF aL : Option Addr} {cS cH cF cL : Nat} {M : Mm} (m : Mine w B lo aS aH aF aL cS cH cF cL M) :
    Ans lo w (.agg #[.slice aS M.slots.length cS, .slice aH M.heads.length cH, .slice aF M.free.length cF, .slice aL M.locks.length cL, .int .i64 M.now]) M :=
  m.c.ans m.m1 m.m2 (by have := m.m3; omega) m.m4


end Go.Proofs.Ytdbilofhcadmoaa.mm
