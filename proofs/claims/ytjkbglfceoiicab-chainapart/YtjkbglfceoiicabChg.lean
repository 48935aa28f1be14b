/- The contracts of changed, at hold and at put. -/
import Derived.Test.YtjkbglfceoiicabDone
namespace Go.Proofs.Ytjkbglfceoiicab.mm
open Go.ChangeShapes Go.WideShapes Go.ChangeAt Go.RowKit Go.Joins
set_option linter.unusedVariables false

/- A value is memory, and it lies so in the world. -/
def Ans (lo : Nat) (w : World) (v : Value) (M : Mm) : Prop :=
  ∃ aS aH aF aL cS cH cF cL, v = .agg #[.slice aS M.slots.length cS, .slice aH M.heads.length cH, .slice aF M.free.length cF, .slice aL M.locks.length cL, .int .i64 M.now] ∧ At w aS aH aF aL cS cH cF cL M ∧ Hi4 lo aS aH aF aL

theorem Hi4.mono {lo lo' : Nat} {aS aH aF aL : Option Addr} (h : Hi4 lo aS aH aF aL) (hl : lo' ≤ lo) : Hi4 lo' aS aH aF aL :=
  ⟨fun a e => Nat.le_trans hl (h.s a e), fun a e => Nat.le_trans hl (h.h a e), fun a e => Nat.le_trans hl (h.f a e), fun a e => Nat.le_trans hl (h.l a e)⟩

theorem Ans.below {lo : Nat} {w w' : World} {v : Value} {M : Mm} (h : Ans lo w v M) (hb : Below w.heap.size w w') : Ans lo w' v M := by
  obtain ⟨aS, aH, aF, aL, cS, cH, cF, cL, e, A, hi⟩ := h
  exact ⟨aS, aH, aF, aL, cS, cH, cF, cL, e, A.below hb, hi⟩

theorem Ans.mono {lo lo' : Nat} {w : World} {v : Value} {M : Mm} (h : Ans lo w v M) (hl : lo' ≤ lo) : Ans lo' w v M := by
  obtain ⟨aS, aH, aF, aL, cS, cH, cF, cL, e, A, hi⟩ := h
  exact ⟨aS, aH, aF, aL, cS, cH, cF, cL, e, A, hi.mono hl⟩

theorem ans0 (lo : Nat) (w : World) : Ans lo w (.agg #[.slice none 0 0, .slice none 0 0, .slice none 0 0, .slice none 0 0, .int .i64 0]) m0 :=
  ⟨none, none, none, none, 0, 0, 0, 0, rfl, ⟨⟨by decide, by decide, fun _ => rfl, .inl rfl⟩, ⟨by decide, by decide, fun _ => rfl, .inl rfl⟩, ⟨by decide, by decide, fun _ => rfl, .inl rfl⟩, ⟨by decide, by decide, fun _ => rfl, .inl rfl⟩⟩, ⟨(fun _ h => by cases h), (fun _ h => by cases h), (fun _ h => by cases h), (fun _ h => by cases h)⟩⟩

def set5 (w : World) (g : Nat) (v0 v1 v2 v3 v4 : Value) : World :=
  ((((w.setCell ⟨g, 0, none⟩ v0).setCell ⟨g, 1, none⟩ v1).setCell ⟨g, 2, none⟩ v2).setCell ⟨g, 3, none⟩ v3).setCell ⟨g, 4, none⟩ v4
theorem set5_block {w : World} {g : Nat} {u0 u1 u2 u3 u4 : Value} {t : TypeId} (h : w.heap[g]? = some (.cells #[u0, u1, u2, u3, u4] t (0, 0))) (v0 v1 v2 v3 v4 : Value) : (set5 w g v0 v1 v2 v3 v4).heap[g]? = some (.cells #[v0, v1, v2, v3, v4] t (0, 0)) := by
  have := block_setCell (i := 4) (block_setCell (i := 3) (block_setCell (i := 2) (block_setCell (i := 1) (block_setCell (i := 0) h v0) v1) v2) v3) v4
  rw [set5, this]
  simp
theorem set5_other {w : World} {g k : Nat} {v0 v1 v2 v3 v4 : Value} (h : k ≠ g) : (set5 w g v0 v1 v2 v3 v4).heap[k]? = w.heap[k]? := by
  unfold set5
  repeat rw [Below.heap_setCell _ _ _ _ (by dsimp only; exact h)]
theorem set5_below (w : World) (g B : Nat) (v0 v1 v2 v3 v4 : Value) (h : B ≤ g) : Below B w (set5 w g v0 v1 v2 v3 v4) := by
  unfold set5
  iterate 5 (refine Below.setCell ?_ (by dsimp only; exact h) _)
  exact Below.refl _ _
theorem set5_size (w : World) (g : Nat) (v0 v1 v2 v3 v4 : Value) : (set5 w g v0 v1 v2 v3 v4).heap.size = w.heap.size := by simp [set5]

theorem Copy.set5 {w : World} {lo gS gH gF gL B : Nat} {M : Mm} (c : Copy w lo gS gH gF gL M) (h : B < lo) (v0 v1 v2 v3 v4 : Value) : Copy (mm.set5 w B v0 v1 v2 v3 v4) lo gS gH gF gL M := by
  obtain ⟨o1, o2, o3, o4, s, h1, f, l⟩ := c
  exact ⟨o1, o2, o3, o4, (set5_other (by omega)).trans s, (set5_other (by omega)).trans h1, (set5_other (by omega)).trans f, (set5_other (by omega)).trans l⟩

theorem refs_in {M : Mm} (h : chk M = 0) {i : Int} (hi : isSl M i = true) : 0 ≤ i ∧ i < M.slots.length ∧ 0 ≤ refsM M i ∧ refsM M i ≤ 1000 := by
  have hb := (inB_iff _ _ _).1 hi
  obtain ⟨j, rfl⟩ : ∃ j : Nat, i = j := ⟨i.toNat, by omega⟩
  have hj : j < M.slots.length := by omega
  have hrr : refsM M j = M.slots[j].refs := by simp [refsM, List.getD_eq_getElem?_getD, hj]
  have ho := ((chk_zero M).1 h).slot _ (List.getElem_mem hj)
  rw [hrr]
  refine ⟨by omega, by omega, ?_⟩
  have : inB M.slots[j].refs 0 1000 = true := by
    cases hh : inB M.slots[j].refs 0 1000
    · simp [slotErr, hh] at ho
    · rfl
  exact (inB_iff _ _ _).1 this

/- What is stored into a box of one's own changes no list that lies elsewhere. -/
theorem SRow.off {w w' : World} {ao : Option Addr} {cap : Nat} {l : List Sl} (r : SRow w ao cap l) (g : Nat) (hg : ∀ ad, ao = some ad → ad.block ≠ g) (h : ∀ k, k ≠ g → w'.heap[k]? = w.heap[k]?) : SRow w' ao cap l := by
  refine ⟨r.le, r.max, r.nil, ?_⟩
  rcases r.at_ with h0 | ⟨b, o, e, hc⟩
  · exact .inl h0
  · by_cases h0 : l.length = 0
    · exact .inl h0
    refine .inr ⟨b, o, e, fun i hi => ?_⟩
    have q : ∀ x, w'.cell? ⟨b, x, none⟩ = w.cell? ⟨b, x, none⟩ := fun x => World.cell?_of_block (a := ⟨b, x, none⟩) (h b (hg _ e))
    rw [q, q, q, q, q, q]
    exact hc i hi
theorem IRow.off {w w' : World} {ao : Option Addr} {cap : Nat} {l : List Int} (r : IRow w ao cap l) (g : Nat) (hg : ∀ ad, ao = some ad → ad.block ≠ g) (h : ∀ k, k ≠ g → w'.heap[k]? = w.heap[k]?) : IRow w' ao cap l := by
  refine ⟨r.le, r.max, r.nil, ?_⟩
  rcases r.at_ with h0 | ⟨b, o, e, hc⟩
  · exact .inl h0
  · by_cases h0 : l.length = 0
    · exact .inl h0
    refine .inr ⟨b, o, e, fun i hi => ?_⟩
    rw [World.cell?_of_block (a := ⟨b, o + i, none⟩) (h b (hg _ e))]
    exact hc i hi
theorem At.off {w w' : World} {aS aH aF aL : Option Addr} {cS cH cF cL lo g : Nat} {M : Mm} (A : At w aS aH aF aL cS cH cF cL M) (hi : Hi4 lo aS aH aF aL) (hg : g < lo) (h : ∀ k, k ≠ g → w'.heap[k]? = w.heap[k]?) : At w' aS aH aF aL cS cH cF cL M :=
  ⟨A.s.off g (fun ad e => by have := hi.s ad e; omega) h, A.h.off g (fun ad e => by have := hi.h ad e; omega) h, A.f.off g (fun ad e => by have := hi.f ad e; omega) h, A.l.off g (fun ad e => by have := hi.l ad e; omega) h⟩

end Go.Proofs.Ytjkbglfceoiicab.mm
