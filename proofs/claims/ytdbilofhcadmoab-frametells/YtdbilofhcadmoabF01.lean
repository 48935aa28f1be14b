/- A region that draws its order, whose operations change nothing that was there: each operation's value by a relation of its own that outlives growth. -/
import Derived.Test.YtdbilofhcadmoabC22
import Derived.Test.YtdbilofhcadmoabC01
namespace Go.Proofs.Ytdbilofhcadmoab.mm
open Go Go.RowKit
set_option linter.unusedVariables false

def updR (x : Nat → Value) (d : Nat) (v : Value) : Nat → Value := fun k => if k = d then v else x k

theorem wpOp_value {P : Program} {ops : Array Oper} {Q : Exit → Act → World → Prop} {i : Nat} {o : Oper} {a : Act} {w w' : World} {v : Value} {K : Act → World → Prop} (hi : ops[i]? = some o) (hw : Region.wanted o (yielded ops a.tmps) = true)
    (hr : (execOp a.eval o).run P w = .ok (.value v) w') (h : K (a.put o.dst v) w') : wpOp P ops Q i K a w := by
  refine wpOp_step hi fun K' hK => ?_
  rw [if_pos hw]
  unfold Oper.wp
  rw [hr]
  exact hK _ _ h
theorem wpOp_enter {P : Program} {ops : Array Oper} {Q : Exit → Act → World → Prop} {i : Nat} {o : Oper} {a : Act} {w : World} {f : Nat} {args : Array Value} {K : Act → World → Prop} (hi : ops[i]? = some o) (hw : Region.wanted o (yielded ops a.tmps) = true)
    (hr : (execOp a.eval o).run P w = .ok (.enter f args) w) (h : Calls P f args w fun e w' => ∃ v, e = .returned v ∧ K (a.put o.dst v) w') : wpOp P ops Q i K a w := by
  refine wpOp_step hi fun K' hK => ?_
  rw [if_pos hw]
  unfold Oper.wp
  rw [hr]
  refine Calls.mono h ?_
  rintro e w' ⟨v, rfl, hv⟩
  exact hK _ _ hv
theorem wanted_none {o : Oper} {f : Nat → Option Bool} (h : o.guard = none) : Region.wanted o f = true := by unfold Region.wanted; rw [h]
theorem wanted_some {o : Oper} {ops : Array Oper} {tmps : Array Value} {k d : Nat} {b : Bool} (h : o.guard = some (k, b)) (hk : (ops[k]?).bind (·.dst) = some d) (ht : tmps[d]? = some (.bool b)) : Region.wanted o (yielded ops tmps) = true := by
  unfold Region.wanted yielded
  rw [h]
  simp [hk, ht]

theorem all_listedR {md : Region.Mode} {ops : Array Oper} {listed : Array Bool} (hr : Region.ready md ops listed = []) (hs : listed.size = ops.size)
    (he : ((List.range ops.size).all fun i => ((ops[i]?).map fun o => o.after.all fun e => decide (e.on < i)).getD true) = true) : ∀ n i, i < n → i < ops.size → listed.getD i false = true
  | 0, i, h, _ => by omega
  | n + 1, i, h, hi => by
    cases hl : listed.getD i false with
    | true => rfl
    | false =>
      exfalso
      have hlt : listed.getD i true = false := by
        simpa [Array.getD_eq_getD_getElem?, hs, hi] using hl
      have hm : i ∈ Region.ready md ops listed := by
        unfold Region.ready
        rw [List.mem_filter]
        refine ⟨by simpa using hi, ?_⟩
        rw [hlt]
        have h1 := List.all_eq_true.1 he i (by simpa using hi)
        have ho : ops[i]? = some ops[i] := Array.getElem?_eq_getElem hi
        rw [ho] at h1 ⊢
        simp only [Option.map_some, Option.getD_some] at h1 ⊢
        simp only [Bool.not_false, Bool.true_and]
        rw [Array.all_eq_true'] at h1 ⊢
        intro e hm
        have h2 := h1 e hm
        have h3 : e.on < i := by simpa using h2
        rw [all_listedR hr hs he n e.on (by omega) (by omega)]
        simp
      rw [hr] at hm
      cases hm

theorem wp_region_rel {P : Program} {ops : Array Oper} {Q : Exit → Act → World → Prop} {id : Nat} {a : Act} {w0 : World} (hm : P.follows .mixedOrders = true) (mk : (Nat → Value) → Act) (ha : a = mk fun k => a.tmps.getD k undef) (D : List Nat) (hN : D.Nodup) (hD : D.length = ops.size)
    (he : ((List.range ops.size).all fun i => ((ops[i]?).map fun o => o.after.all fun e => decide (e.on < i)).getD true) = true)
    (φ : Nat → Value → World → Prop) (mono : ∀ i v w w', φ i v w → Below w.heap.size w w' → φ i v w')
    (step : ∀ i, i < ops.size → ∀ x W, Below w0.heap.size w0 W → (∀ d, d ∉ D → x d = a.tmps.getD d undef) →
      (∀ k, (((ops[i]?).map fun o => o.after.any fun e => e.on == k && Region.binds .any e).getD false) = true → φ k (x (D.getD k 0)) W) →
      wpOp P ops Q i (fun a' W' => ∃ v, a' = mk (updR x (D.getD i 0) v) ∧ φ i v W' ∧ Below W.heap.size W W') (mk x) W)
    (fin : ∀ x W, Below w0.heap.size w0 W → (∀ d, d ∉ D → x d = a.tmps.getD d undef) → (∀ i, i < ops.size → φ i (x (D.getD i 0)) W) → Q .normal (mk x) W) : (Code.region id ops true).wp P Q a w0 := by
  refine wp_region_inv hm (fun listed a' W => ∃ x, a' = mk x ∧ listed.size = ops.size ∧ Below w0.heap.size w0 W ∧ (∀ d, d ∉ D → x d = a.tmps.getD d undef) ∧ ∀ i, i < ops.size → listed.getD i false = true → φ i (x (D.getD i 0)) W) ?_ ?_ ?_
  · refine ⟨_, ha, by simp, (Below.refl _ _).drew, fun d _ => rfl, fun i hi h => ?_⟩
    have : (Array.replicate ops.size false).getD i false = false := by simp [Array.getD_eq_getD_getElem?, hi]
    rw [this] at h
    cases h
  · rintro listed a' W i hi ⟨x, rfl, hs, hb, hout, hφ⟩
    obtain ⟨h1, h2, o, ho, hpre⟩ := ready_spec hi
    refine wpOp_mono ?_ (step i h1 x W hb hout fun k hk => ?_)
    · rintro a'' W' ⟨v, rfl, hv, hb'⟩
      refine ⟨_, rfl, by simpa using hs, hb.trans (hb'.mono hb.size), fun d hd => ?_, fun j hj hl => ?_⟩
      · have : d ≠ D.getD i 0 := by
          rintro rfl
          refine hd ?_
          rw [List.getD_eq_getElem?_getD, List.getElem?_eq_getElem (by omega)]
          exact List.getElem_mem _
        simp only [updR, if_neg this]
        exact hout d hd
      · by_cases e : j = i
        · subst e
          simp only [updR, if_pos]
          exact hv
        · have hne : D.getD j 0 ≠ D.getD i 0 := by
            rw [List.getD_eq_getElem?_getD, List.getD_eq_getElem?_getD, List.getElem?_eq_getElem (by omega), List.getElem?_eq_getElem (by omega)]
            simp only [Option.getD_some]
            intro hh
            exact e ((List.getElem_inj hN).1 hh)
          simp only [updR, if_neg hne]
          have e' : ¬ i = j := fun h => e h.symm
          have hl' : listed.getD j false = true := by
            simpa [Array.getD_eq_getD_getElem?, e'] using hl
          exact mono _ _ _ _ (hφ j hj hl') hb'
    · rw [ho] at hk
      simp only [Option.map_some, Option.getD_some] at hk
      rw [Array.any_eq_true'] at hk
      obtain ⟨e, hem, hek⟩ := hk
      rw [Bool.and_eq_true] at hek
      have hon : e.on = k := by simpa using hek.1
      have hl := hpre e hem hek.2
      rw [hon] at hl
      refine hφ k ?_ hl
      refine Nat.lt_of_not_le fun hge => ?_
      have : listed.getD k false = false := by simp [Array.getD_eq_getD_getElem?, hs, Nat.not_lt.2 hge]
      rw [this] at hl
      cases hl
  · rintro listed a' W hr ⟨x, rfl, hs, hb, hout, hφ⟩
    exact fin x W hb hout fun i hi => hφ i hi (all_listedR hr hs he (i + 1) i (by omega) hi)



end Go.Proofs.Ytdbilofhcadmoab.mm
