/- A region that draws its order, by one invariant over what has come up so far: whatever order, it holds at the end. -/
import Derived.OrdersHeld
import Derived.Test.YtdbilofhcadmoabC21
namespace Go.Proofs.Ytdbilofhcadmoab.mm
open Go

theorem filter_less {l : List Nat} {p q : Nat → Bool} (hq : ∀ j, q j = true → p j = true) : (l.filter q).length ≤ (l.filter p).length := by
  induction l with
  | nil => simp
  | cons x l ih =>
    simp only [List.filter_cons]
    by_cases h : q x = true
    · rw [if_pos h, if_pos (hq x h)]
      simp only [List.length_cons]
      omega
    · rw [if_neg h]
      split
      · simp only [List.length_cons]; omega
      · exact ih

theorem filter_lt {l : List Nat} {p q : Nat → Bool} {i : Nat} (hi : i ∈ l) (hp : p i = true) (hqi : q i = false) (hq : ∀ j, q j = true → p j = true) : (l.filter q).length < (l.filter p).length := by
  induction l with
  | nil => cases hi
  | cons x l ih =>
    simp only [List.filter_cons]
    by_cases e : x = i
    · subst e
      rw [if_pos hp, if_neg (by rw [hqi]; simp)]
      have := filter_less (l := l) hq
      simp only [List.length_cons]
      omega
    · have hm : i ∈ l := by
        rcases List.mem_cons.1 hi with h | h
        · exact absurd h.symm e
        · exact h
      have := ih hm
      by_cases h : q x = true
      · rw [if_pos h, if_pos (hq x h)]
        simp only [List.length_cons]
        omega
      · rw [if_neg h]
        split
        · simp only [List.length_cons]; omega
        · exact this

/- How many have not come up. -/
def unl (ops : Array Oper) (listed : Array Bool) : Nat := ((List.range ops.size).filter fun i => !listed.getD i true).length

theorem ready_spec {md : Region.Mode} {ops : Array Oper} {listed : Array Bool} {i : Nat} (h : i ∈ Region.ready md ops listed) :
    i < ops.size ∧ listed.getD i true = false ∧ ∃ o, ops[i]? = some o ∧ ∀ e ∈ o.after, Region.binds md e = true → listed.getD e.on false = true := by
  unfold Region.ready at h
  rw [List.mem_filter] at h
  obtain ⟨h1, h2⟩ := h
  rw [Bool.and_eq_true] at h2
  refine ⟨by simpa using h1, by simpa using h2.1, ?_⟩
  cases ho : ops[i]? with
  | none => rw [ho] at h2; simp at h2
  | some o =>
    rw [ho] at h2
    refine ⟨o, rfl, fun e he hb => ?_⟩
    have h3 := h2.2
    simp only [Option.map_some, Option.getD_some] at h3
    rw [Array.all_eq_true'] at h3
    have := h3 e he
    rw [hb] at this
    simpa using this

theorem wpAny_inv {P : Program} {md : Region.Mode} {ops : Array Oper} {Q : Exit → Act → World → Prop} (J : Array Bool → Act → World → Prop)
    (step : ∀ listed a w i, i ∈ Region.ready md ops listed → J listed a w → wpOp P ops Q i (fun a' w' => J (listed.setIfInBounds i true) a' w') a w)
    (fin : ∀ listed a w, Region.ready md ops listed = [] → J listed a w → Q .normal a w) :
    ∀ (fuel : Nat) (listed : Array Bool) (a : Act) (w : World), unl ops listed ≤ fuel → listed.size = ops.size → J listed a w → wpAny P md ops Q fuel listed a w
  | 0, listed, a, w, hf, hs, hJ => by
    have hr : Region.ready md ops listed = [] := by
      cases hr : Region.ready md ops listed with
      | nil => rfl
      | cons i r =>
        have hi : i ∈ Region.ready md ops listed := by rw [hr]; simp
        obtain ⟨h1, h2, _⟩ := ready_spec hi
        have : i ∈ (List.range ops.size).filter fun i => !listed.getD i true := by
          rw [List.mem_filter]
          exact ⟨by simpa using h1, by rw [h2]; rfl⟩
        unfold unl at hf
        have hz : ((List.range ops.size).filter fun i => !listed.getD i true) = [] := List.eq_nil_of_length_eq_zero (by omega)
        rw [hz] at this
        cases this
    exact ⟨hr, fin listed a w hr hJ⟩
  | fuel + 1, listed, a, w, hf, hs, hJ => by
    refine ⟨fun hr => fin listed a w hr hJ, fun i hi => ?_⟩
    obtain ⟨h1, h2, _⟩ := ready_spec hi
    refine wpOp_mono (fun a' w' hJ' => ?_) (step listed a w i hi hJ)
    refine wpAny_inv J step fin fuel _ a' w' ?_ (by simpa using hs) hJ'
    have hlt : unl ops (listed.setIfInBounds i true) < unl ops listed := by
      unfold unl
      refine filter_lt (i := i) (by simpa using h1) (by rw [h2]; rfl) ?_ ?_
      · simp [Array.getD_eq_getD_getElem?, hs, h1]
      · intro j hj
        by_cases e : i = j
        · subst e
          rw [h2]; rfl
        · simpa [Array.getD_eq_getD_getElem?, Array.getElem?_setIfInBounds, e] using hj
    omega

/- The region itself. -/
theorem wp_region_inv {P : Program} {ops : Array Oper} {Q : Exit → Act → World → Prop} {id : Nat} {a : Act} {w : World} (hm : P.follows .mixedOrders = true) (J : Array Bool → Act → World → Prop)
    (start : J (Array.replicate ops.size false) a { w with drawn := w.drawn + 1 })
    (step : ∀ listed a w i, i ∈ Region.ready .any ops listed → J listed a w → wpOp P ops Q i (fun a' w' => J (listed.setIfInBounds i true) a' w') a w)
    (fin : ∀ listed a w, Region.ready .any ops listed = [] → J listed a w → Q .normal a w) : (Code.region id ops true).wp P Q a w := by
  refine wp_region_any hm (wpAny_inv J step fin _ _ a _ ?_ (by simp) start)
  unfold unl
  exact Nat.le_trans (List.length_filter_le _ _) (by simp)



end Go.Proofs.Ytdbilofhcadmoab.mm

/- A walk's rest, proved once. -/
namespace Go.Proofs.Ytdbilofhcadmoab.mm
theorem by_tail {G : Prop} (a : Go.Act) (R : Go.Act → Prop) (h : R a → G) (t : R a) : G := h t
end Go.Proofs.Ytdbilofhcadmoab.mm

/- What the steps of calls share: a frame that is answered, a call that is over, what a number leads to. -/
namespace Go.Proofs.Ytdbilofhcadmoab.mm
open Go.ChangeShapes Go.WideShapes Go.ChangeAt Go.RowKit Go.Joins
set_option maxRecDepth 100000
set_option linter.unusedVariables false

theorem kro_end {w w1 : World} {n : Nat} {a aK : Option Addr} {c cK : Nat} {l : List (Int × Int)} {v0 v1 v2 v3 v4 v5 v6 v7 v8 v9 v10 v11 v12 v13 : Value} (hn : n = w.heap.size) (r : KRow w1 a c l) (r0 : KRow w aK cK l) (hl : ∀ ad, a = some ad → aK = some ad ∨ n + 2 ≤ ad.block) :
    KRow ((((((((((((((w1.setCell ⟨n + 1, 0, none⟩ v0).setCell ⟨n + 1, 1, none⟩ v1).setCell ⟨n + 1, 2, none⟩ v2).setCell ⟨n + 1, 3, none⟩ v3).setCell ⟨n + 1, 4, none⟩ v4).setCell ⟨n + 1, 5, none⟩ v5).setCell ⟨n + 1, 6, none⟩ v6).setCell ⟨n + 1, 7, none⟩ v7).setCell ⟨n + 1, 8, none⟩ v8).setCell ⟨n + 1, 9, none⟩ v9).setCell ⟨n + 1, 10, none⟩ v10).setCell ⟨n + 1, 11, none⟩ v11).setCell ⟨n + 1, 12, none⟩ v12).setCell ⟨n + 1, 13, none⟩ v13) a c l := by
  refine ⟨r.le, r.max, r.nil, ?_⟩
  by_cases h0 : l.length = 0
  · exact .inl h0
  rcases r.at_ with h | ⟨b, o, e, hc⟩
  · exact absurd h h0
  · refine .inr ⟨b, o, e, fun i hi => ?_⟩
    have hb : b ≠ n + 1 := by
      rcases hl _ e with h | h
      · rcases r0.at_ with h' | ⟨b', o', e', hc'⟩
        · exact absurd h' h0
        · have := cell_lt (hc' 0 (by omega)).1
          rw [h] at e'
          injection e' with e'
          injection e' with e'
          omega
      · dsimp only at h; omega
    have q : ∀ x, (((((((((((((((w1.setCell ⟨n + 1, 0, none⟩ v0).setCell ⟨n + 1, 1, none⟩ v1).setCell ⟨n + 1, 2, none⟩ v2).setCell ⟨n + 1, 3, none⟩ v3).setCell ⟨n + 1, 4, none⟩ v4).setCell ⟨n + 1, 5, none⟩ v5).setCell ⟨n + 1, 6, none⟩ v6).setCell ⟨n + 1, 7, none⟩ v7).setCell ⟨n + 1, 8, none⟩ v8).setCell ⟨n + 1, 9, none⟩ v9).setCell ⟨n + 1, 10, none⟩ v10).setCell ⟨n + 1, 11, none⟩ v11).setCell ⟨n + 1, 12, none⟩ v12).setCell ⟨n + 1, 13, none⟩ v13)).cell? ⟨b, x, none⟩ = w1.cell? ⟨b, x, none⟩ := fun x => World.cell?_of_block (a := ⟨b, x, none⟩) (by
      dsimp only
      repeat rw [Below.heap_setCell _ _ _ _ (by dsimp only; exact hb)])
    rw [q, q]
    exact hc i hi

theorem over_anyA (f : Fr) (n : Int) (aK : Option Addr) (cK : Nat) (w : World) :
    Calls Try.prog 100 #[.agg #[.int .i64 f.c.kind, .int .i64 f.c.a, .int .i64 f.c.b, .int .i64 f.c.time, .int .i64 f.c.bk, .int .i64 f.c.slot, .int .i64 f.pl, .int .i64 f.cur, .int .i64 f.prev, .int .i64 f.slot, .int .i64 f.n, .slice aK f.keys.length cK, .bool f.done, .int .i64 f.e], .int .i64 n] w fun e w' => e = .returned (.agg #[.int .i64 (endF f n).c.kind, .int .i64 (endF f n).c.a, .int .i64 (endF f n).c.b, .int .i64 (endF f n).c.time, .int .i64 (endF f n).c.bk, .int .i64 (endF f n).c.slot, .int .i64 (endF f n).pl, .int .i64 (endF f n).cur, .int .i64 (endF f n).prev, .int .i64 (endF f n).slot, .int .i64 (endF f n).n, .slice aK (endF f n).keys.length cK, .bool (endF f n).done, .int .i64 (endF f n).e]) ∧ Below w.heap.size w w' := by
  go_enter Try.func100, Try.ntmps100
  go_wp2
  refine bodyPost_ret (v := .agg #[.int .i64 (endF f n).c.kind, .int .i64 (endF f n).c.a, .int .i64 (endF f n).c.b, .int .i64 (endF f n).c.time, .int .i64 (endF f n).c.bk, .int .i64 (endF f n).c.slot, .int .i64 (endF f n).pl, .int .i64 (endF f n).cur, .int .i64 (endF f n).prev, .int .i64 (endF f n).slot, .int .i64 (endF f n).n, .slice aK (endF f n).keys.length cK, .bool (endF f n).done, .int .i64 (endF f n).e]) (by simp [results, Try.results100, go_sem, endF]) rfl ⟨rfl, ?_⟩
  repeat (first | exact Below.refl _ _ | refine Below.alloc ?_ (by simp <;> omega) _ | refine Below.setCell ?_ (by simp <;> omega) _)

theorem Lk2.toA {w w1 w2 : World} {Z : Nat → Prop} {B lo : Nat} {M : Mm} {f g : Fr} {aK : Option Addr} {cK : Nat} (h : Lk2 w w1 Z B lo M f aK cK) (hf : Fine w1 w2 (fun k => k = w.heap.size)) (hx : w2.heap[w.heap.size]? = some (.cells #[.int .i64 g.c.kind, .int .i64 g.c.a, .int .i64 g.c.b, .int .i64 g.c.time, .int .i64 g.c.bk, .int .i64 g.c.slot, .int .i64 g.pl, .int .i64 g.cur, .int .i64 g.prev, .int .i64 g.slot, .int .i64 g.n, .slice aK g.keys.length cK, .bool g.done, .int .i64 g.e] 51 (0, 0))) : Lk2 w w2 Z B lo M g aK cK := by
  obtain ⟨aS, aH, aF, aL, cS, cH, cF, cL, m, hz⟩ := h.mine
  refine ⟨h.zl, h.fine.trans hf (fun k h1 h2 => by omega), ⟨aS, aH, aF, aL, cS, cH, cF, cL, m.same hf.size (fun k h1 h2 => hf.block k h1 ?_), hz⟩, hx, (hf.block _ (lt_of_block h.zb) (by omega)).trans h.zb⟩
  rcases hz k h2 with h3 | h3
  · have := h.zl k h3; omega
  · omega

theorem isSlotEA (n : Int) (w : World) {r : Bool} (h : decide (0 < n) = r) : Calls Try.prog 99 #[.int .i64 n] w fun e w' => e = .returned (.bool r) ∧ w = w' := by
  subst h
  go_enter Try.func99, Try.ntmps99
  go_wp2
  go_ret
  exact ⟨rfl, rfl⟩

theorem krow_anyA (w : World) {a : Option Addr} {c : Nat} {l : List (Int × Int)} (hl : l = []) (hn : a = none → c = 0) : KRow w a c l := by
  subst hl
  exact ⟨Nat.zero_le _, by simp, hn, .inl rfl⟩

end Go.Proofs.Ytdbilofhcadmoab.mm
