/- A region that draws its order, by one invariant over what has come up so far: whatever order, it holds at the end. -/
import Derived.OrdersHeld
namespace Go.Proofs.Ytdbilofhcadmoaa.mm
open Go

theorem filter_less {l : List Nat} {p q : Nat → Bool} (hq : ∀ j, q j = true → p j = true) : (l.filter q).length ≤ (l.filter p).length := by
  induction l with
  | nil => simp
  | cons x l ih =>
    simp only [List.filter_cons]
    by_cases h : q x = true
    · rw [if_pos h, if_pos (hq x h)]
      simp only [List.length_cons]
      omega
    · rw [if_neg h]
      split
      · simp only [List.length_cons]; omega
      · exact ih

theorem filter_lt {l : List Nat} {p q : Nat → Bool} {i : Nat} (hi : i ∈ l) (hp : p i = true) (hqi : q i = false) (hq : ∀ j, q j = true → p j = true) : (l.filter q).length < (l.filter p).length := by
  induction l with
  | nil => cases hi
  | cons x l ih =>
    simp only [List.filter_cons]
    by_cases e : x = i
    · subst e
      rw [if_pos hp, if_neg (by rw [hqi]; simp)]
      have := filter_less (l := l) hq
      simp only [List.length_cons]
      omega
    · have hm : i ∈ l := by
        rcases List.mem_cons.1 hi with h | h
        · exact absurd h.symm e
        · exact h
      have := ih hm
      by_cases h : q x = true
      · rw [if_pos h, if_pos (hq x h)]
        simp only [List.length_cons]
        omega
      · rw [if_neg h]
        split
        · simp only [List.length_cons]; omega
        · exact this

/- How many have not come up. -/
def unl (ops : Array Oper) (listed : Array Bool) : Nat := ((List.range ops.size).filter fun i => !listed.getD i true).length

theorem ready_spec {md : Region.Mode} {ops : Array Oper} {listed : Array Bool} {i : Nat} (h : i ∈ Region.ready md ops listed) :
    i < ops.size ∧ listed.getD i true = false ∧ ∃ o, ops[i]? = some o ∧ ∀ e ∈ o.after, Region.binds md e = true → listed.getD e.on false = true := by
  unfold Region.ready at h
  rw [List.mem_filter] at h
  obtain ⟨h1, h2⟩ := h
  rw [Bool.and_eq_true] at h2
  refine ⟨by simpa using h1, by simpa using h2.1, ?_⟩
  cases ho : ops[i]? with
  | none => rw [ho] at h2; simp at h2
  | some o =>
    rw [ho] at h2
    refine ⟨o, rfl, fun e he hb => ?_⟩
    have h3 := h2.2
    simp only [Option.map_some, Option.getD_some] at h3
    rw [Array.all_eq_true'] at h3
    have := h3 e he
    rw [hb] at this
    simpa using this

theorem wpAny_inv {P : Program} {md : Region.Mode} {ops : Array Oper} {Q : Exit → Act → World → Prop} (J : Array Bool → Act → World → Prop)
    (step : ∀ listed a w i, i ∈ Region.ready md ops listed → J listed a w → wpOp P ops Q i (fun a' w' => J (listed.setIfInBounds i true) a' w') a w)
    (fin : ∀ listed a w, Region.ready md ops listed = [] → J listed a w → Q .normal a w) :
    ∀ (fuel : Nat) (listed : Array Bool) (a : Act) (w : World), unl ops listed ≤ fuel → listed.size = ops.size → J listed a w → wpAny P md ops Q fuel listed a w
  | 0, listed, a, w, hf, hs, hJ => by
    have hr : Region.ready md ops listed = [] := by
      cases hr : Region.ready md ops listed with
      | nil => rfl
      | cons i r =>
        have hi : i ∈ Region.ready md ops listed := by rw [hr]; simp
        obtain ⟨h1, h2, _⟩ := ready_spec hi
        have : i ∈ (List.range ops.size).filter fun i => !listed.getD i true := by
          rw [List.mem_filter]
          exact ⟨by simpa using h1, by rw [h2]; rfl⟩
        unfold unl at hf
        have hz : ((List.range ops.size).filter fun i => !listed.getD i true) = [] := List.eq_nil_of_length_eq_zero (by omega)
        rw [hz] at this
        cases this
    exact ⟨hr, fin listed a w hr hJ⟩
  | fuel + 1, listed, a, w, hf, hs, hJ => by
    refine ⟨fun hr => fin listed a w hr hJ, fun i hi => ?_⟩
    obtain ⟨h1, h2, _⟩ := ready_spec hi
    refine wpOp_mono (fun a' w' hJ' => ?_) (step listed a w i hi hJ)
    refine wpAny_inv J step fin fuel _ a' w' ?_ (by simpa using hs) hJ'
    have hlt : unl ops (listed.setIfInBounds i true) < unl ops listed := by
      unfold unl
      refine filter_lt (i := i) (by simpa using h1) (by rw [h2]; rfl) ?_ ?_
      · simp [Array.getD_eq_getD_getElem?, hs, h1]
      · intro j hj
        by_cases e : i = j
        · subst e
          rw [h2]; rfl
        · simpa [Array.getD_eq_getD_getElem?, Array.getElem?_setIfInBounds, e] using hj
    omega

/- The region itself. -/
theorem wp_region_inv {P : Program} {ops : Array Oper} {Q : Exit → Act → World → Prop} {id : Nat} {a : Act} {w : World} (hm : P.follows .mixedOrders = true) (J : Array Bool → Act → World → Prop)
    (start : J (Array.replicate ops.size false) a { w with drawn := w.drawn + 1 })
    (step : ∀ listed a w i, i ∈ Region.ready .any ops listed → J listed a w → wpOp P ops Q i (fun a' w' => J (listed.setIfInBounds i true) a' w') a w)
    (fin : ∀ listed a w, Region.ready .any ops listed = [] → J listed a w → Q .normal a w) : (Code.region id ops true).wp P Q a w := by
  refine wp_region_any hm (wpAny_inv J step fin _ _ a _ ?_ (by simp) start)
  unfold unl
  exact Nat.le_trans (List.length_filter_le _ _) (by simp)


end Go.Proofs.Ytdbilofhcadmoaa.mm
