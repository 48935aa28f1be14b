/- The contract of the document's own IsKey; a set of ints as a map of one's own. -/
import Derived.Test.YtdbilofhcadmoaaCheck
import Derived.Maps.OwnOps
import Derived.Maps.OwnSet
namespace Go.Proofs.Ytdbilofhcadmoaa.mm
open Go.ChangeShapes Go.WideShapes Go.ChangeAt Go.RowKit Go.Maps
set_option maxRecDepth 100000
set_option linter.unusedVariables false

theorem isKey_any (a b : Int) (w : World) :
    Calls Try.prog 24 #[.agg #[.int .i64 a, .int .i64 b]] w fun e w' => e = .returned (.bool (keyB a b)) ∧ Below w.heap.size w w' := by
  cases h : keyB a b
  · have hc : a < 0 ∨ (0 ≤ a ∧ 15 < a) ∨ (0 ≤ a ∧ a ≤ 15 ∧ b < 0) ∨ (0 ≤ a ∧ a ≤ 15 ∧ 0 ≤ b ∧ 15 < b) := by
      have : ¬ ((0 ≤ a ∧ a ≤ 15) ∧ (0 ≤ b ∧ b ≤ 15)) := fun hh => by rw [(keyB_iff a b).2 hh] at h; cases h
      omega
    clear h
    rcases hc with h | ⟨h1, h2⟩ | ⟨h1, h2, h3⟩ | ⟨h1, h2, h3, h4⟩
    rotate_left 3
    · have hd : decide (b ≤ 15) = false := by simp; omega
      go_enter Try.func24, Try.ntmps24
      go_wp2
      go_ret
      exact ⟨rfl, one_below _ _⟩
    all_goals
      go_enter Try.func24, Try.ntmps24
      go_wp2
      go_ret
      exact ⟨rfl, one_below _ _⟩
  · obtain ⟨⟨h0, h1⟩, h2, h3⟩ := (keyB_iff a b).1 h
    clear h
    go_enter Try.func24, Try.ntmps24
    go_wp2
    go_ret
    exact ⟨rfl, one_below _ _⟩

theorem law3 : Keyed Try.prog 3 := int_keyed Try.underlying3
theorem zero4 (w : World) : (zeroValue 4).run Try.prog w = .ok (.bool false) w := by kernel_rfl
theorem under83 : Try.prog.underlying 83 = some (.map 3 4) := by kernel_rfl

theorem plainElem_bool_inv {H : Type} {v : Value} {z : DataW H × List MemPlace} (h : plainElem Try.prog 4 v = some z) : ∃ x, v = .bool x ∧ z = (.lit (.bool x), []) := by
  unfold plainElem at h
  rw [Try.underlying4] at h
  cases v <;> simp at h
  exact ⟨_, rfl, h.symm⟩

/- Block g is a map whose keys that are true are these. -/
def SetAt (w : World) (g : Nat) (l : List Int) : Prop :=
  ∃ n, n ≤ l.length ∧ ∃ D : DataW Unit, w.ownsMap Try.prog 3 (plainElem Try.prog 4) g n D ∧ ∀ x : Int, D.atKey (.int .i64 x) (.lit (.bool false)) = .lit (.bool (hasB l x))

theorem SetAt.made (w : World) : SetAt (w.alloc (.map #[] 0)) w.heap.size [] :=
  ⟨0, Nat.le_refl _, _, World.ownsMap_made w Try.prog 3 _, fun x => by simp [hasB, DataW.atKey]⟩
theorem SetAt.kept {w w' : World} {g : Nat} {l : List Int} (h : SetAt w g l) (hb : w'.heap[g]? = w.heap[g]?) : SetAt w' g l := by
  obtain ⟨n, hn, D, ⟨es, clock, hg, F, hs, hD⟩, hat⟩ := h
  exact ⟨n, hn, D, ⟨es, clock, hb.trans hg, F, hs, hD⟩, hat⟩
theorem SetAt.lt {w : World} {g : Nat} {l : List Int} (h : SetAt w g l) : g < w.heap.size := by
  obtain ⟨n, hn, D, ⟨es, clock, hg, F, hs, hD⟩, hat⟩ := h
  exact lt_of_block hg
theorem SetAt.look {w : World} {g : Nat} {l : List Int} (h : SetAt w g l) {x : Int} (hx : (Lit.int .i64 x).wf = true) : (Instr.lookup 83 (.map (some g)) (.int .i64 x) false).run Try.prog w = .ok (.bool (hasB l x)) w := by
  obtain ⟨n, hn, D, ho, hat⟩ := h
  obtain ⟨v, ps, hrun, hv⟩ := ho.lookup law3 under83 (zero4 w) (plainElem_bool Try.underlying4 false) (keyOf_int_mk Try.underlying3 hx)
  rw [hat x] at hv
  obtain ⟨y, rfl, hz⟩ := plainElem_bool_inv hv
  rw [hrun]
  injection hz with h1 h2
  injection h1 with h1
  injection h1 with h1
  rw [h1]
theorem wf64 {x : Int} (h0 : -9223372036854775808 ≤ x) (h1 : x ≤ 9223372036854775807) : (Lit.int .i64 x).wf = true := by
  have e1 : IntKind.i64.min = -9223372036854775808 := by decide
  have e2 : IntKind.i64.max = 9223372036854775807 := by decide
  simp [Lit.wf, e1, e2]
  omega
theorem SetAt.put {w w' : World} {g n : Nat} {l : List Int} {D : DataW Unit} {x : Int} (hn : n ≤ l.length) (ho : w.ownsMap Try.prog 3 (plainElem Try.prog 4) g n D) (hat : ∀ x : Int, D.atKey (.int .i64 x) (.lit (.bool false)) = .lit (.bool (hasB l x)))
    (h : w'.ownsMap Try.prog 3 (plainElem Try.prog 4) g (n + 1) (D.put (.int .i64 x) (.lit (.bool true)))) : SetAt w' g (l ++ [x]) := by
  refine ⟨n + 1, by simp; omega, _, h, fun y => ?_⟩
  by_cases e : y = x
  · subst e
    rw [atKey_put_same (ho.tidy law3).isMap (by simp [WideAt.IsKeyLit])]
    simp [hasB]
  · rw [atKey_put_other (by intro hh; injection hh with _ hh; exact e hh), hat y]
    simp [hasB, e]


end Go.Proofs.Ytdbilofhcadmoaa.mm
