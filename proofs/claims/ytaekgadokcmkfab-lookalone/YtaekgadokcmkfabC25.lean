/- A frame that is handed in: its keys lie in what is there. A step's frame, and boxes beside a change. -/
import Derived.Test.YtaekgadokcmkfabC24
import Derived.Test.YtaekgadokcmkfabC03
namespace Go.Proofs.Ytaekgadokcmkfab.mm
open Go.ChangeShapes Go.WideShapes Go.ChangeAt Go.RowKit Go.Joins Go.Deep
set_option maxRecDepth 100000
set_option linter.unusedVariables false

/- The frame with a Look in it. -/
def lookFr (f : Fr) : Fr := { f with c := { f.c with kind := 1 } }

theorem frame_low {w : World} {r : Reach} {b0 : Nat} {v0 v1 v2 v3 v4 v5 v6 v7 v8 v9 v10 v12 v13 : Value} {aK : Option Addr} {n c : Nat} (hv : Value.okWide Try.prog w r b0 51 (.agg #[v0, v1, v2, v3, v4, v5, v6, v7, v8, v9, v10, .slice aK n c, v12, v13])) : ∀ ad, aK = some ad → ad.block < w.heap.size := by
  rintro ad rfl
  unfold Value.okWide at hv
  rw [Try.underlying51] at hv
  obtain ⟨cs, e, -, ts, hts, -, hall⟩ := hv
  injection e with e
  subst e
  have h11 : (Try.prog.cellTypes Try.prog.depth 51).map (fun ts => ts[11 % ts.length]?) = some (some 49) := by kernel_rfl
  rw [hts] at h11
  have h12 : ts[11 % ts.length]? = some 49 := by simpa using h11
  obtain ⟨u, hu, hc⟩ := hall 11 _ rfl
  rw [h12] at hu
  injection hu with hu
  subst hu
  unfold Cell.okWide at hc
  rw [Try.underlying49] at hc
  have hc' : Cell.ok Try.prog w r b0 49 (.slice (some ad) n c) := hc
  unfold Cell.ok at hc'
  rw [Try.underlying49] at hc'
  obtain ⟨_, _, _, _, row, cells, hs, _⟩ := hc'
  unfold World.shape? at hs
  by_cases h : ad.block < w.heap.size
  · exact h
  · rw [Array.getElem?_eq_none (by omega)] at hs
    simp at hs

theorem Env.fine {w0 w w' : World} {L : List (Nat × Obj)} {Z : Nat → Prop} (E : Env w0 w L []) (hf : Fine w w' Z) (hz : ∀ k, Z k → w0.heap.size ≤ k) (hL : ∀ p ∈ L, ¬ Z p.1) : Env w0 w' L [] :=
  ⟨E.bl.trans (hf.down E.bl.size hz), fun p hp => (hf.block p.1 (by
    have := E.box p hp
    exact (Array.getElem?_eq_some_iff.1 this).1) (hL p hp)).trans (E.box p hp), fun p hp => by cases hp⟩

theorem Mine.foot {w : World} {B lo n : Nat} {aS aH aF aL : Option Addr} {cS cH cF cL : Nat} {M : Mm} (m : Mine w B lo aS aH aF aL cS cH cF cL M) (h1 : n ≤ B) (h2 : n ≤ lo) : ∀ k, Foot B aS aH aF aL k → n ≤ k := by
  rintro k (rfl | ⟨ad, rfl, rfl⟩ | ⟨ad, rfl, rfl⟩ | ⟨ad, rfl, rfl⟩ | ⟨ad, rfl, rfl⟩)
  · exact h1
  · exact Nat.le_trans h2 (m.c.s.lt _ rfl).1
  · exact Nat.le_trans h2 (m.c.h.lt _ rfl).1
  · exact Nat.le_trans h2 (m.c.f.lt _ rfl).1
  · exact Nat.le_trans h2 (m.c.l.lt _ rfl).1
end Go.Proofs.Ytaekgadokcmkfab.mm
