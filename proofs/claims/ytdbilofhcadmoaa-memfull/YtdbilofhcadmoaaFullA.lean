/- The contracts of slices.Clone over ints, and of slices.ContainsFunc at the law's own test, where no slot is without Refs. -/
import Derived.Test.YtdbilofhcadmoaaFilled
import Derived.Test.YtdbilofhcadmoaaPure2
import Derived.Lib.BufferMore
namespace Go.Proofs.Ytdbilofhcadmoaa.mm
open Go.ChangeShapes Go.WideShapes Go.ChangeAt Go.RowKit Go.Joins
set_option linter.unusedVariables false

set_option maxHeartbeats 800000 in
theorem clone_any (ao : Option Addr) (cap : Nat) (l : List Int) (w : World) (r : IRow w ao cap l) :
    Calls Try.prog 29 #[.slice ao l.length cap] w fun e w' => ∃ ao' cap', e = .returned (.slice ao' l.length cap') ∧ IRow w' ao' cap' l ∧ (∀ ad, ao' = some ad → w.heap.size ≤ ad.block) ∧ Below w.heap.size w w' := by
  obtain ⟨i0, hi, hz0, hz1, hz2⟩ := info_parts iI
  have q24 : ∀ (w : World) (a : Option Addr) (n c n' c' : Nat), (binOp .eql 24 (.slice a n c) (.slice none n' c')).run Try.prog w = .ok (.bool a.isNone) w := fun w a n c n' c' => Lib.run_eql_slice_nil w _ _ a n c n' c' Try.underlying24
  have m1 := r.max
  have m2 := r.le
  cases ao with
  | none =>
    have hc := r.nil rfl
    have hl : l.length = 0 := by omega
    have HR : Hid _ := r
    clear r
    subst hc
    rw [hl]
    go_enter Try.func29, Try.ntmps29
    go_wp2
    go_ret
    exact ⟨none, 0, rfl, HR.out, (fun _ h => by cases h), Below.refl _ _⟩
  | some ad =>
    have HS : Hid _ := r.src
    have HN : Hid _ := r.nil
    clear r
    have HO : Hid ((w.alloc (.cells #[] 3)).ownsRow w.heap.size 3 1 (.slice (some ⟨w.heap.size, 0, none⟩) 0 0) 0 []) := World.ownsRow_made w #[] 0 (Nat.le_refl _) (by decide) (by simp)
    go_enter Try.func29, Try.ntmps29
    go_wp2_with (at_builtin; refine wpList_append_own _ rfl (.tmp 5) (.tmp 6) 24 rfl w.heap.size 3 i0 (.int .i64 0) 1 8 Try.underlying24 hi hz0 hz1 hz2 rfl (by decide) _ _ _ rfl HO.out ad l.length cap (encI l) rfl (by rw [encI_len]; omega) (fun j u hj => (World.grownBy_alloc w _ none).cell (HS.out ad rfl j u hj) (by intro hh; cases hh)) (encI_one l) (by unfold maxLen; omega) (by omega) (by simp) ?_; intro v w1 hown hgrow _)
    go_ret
    simp only [Nat.zero_add, List.nil_append] at hown
    have hlt := hown.lt
    obtain ⟨ao', cap', rfl, r'⟩ := IRow.of_own hown (by omega)
    refine ⟨ao', cap', rfl, r', ?_, ?_⟩
    · rintro ad' rfl
      exact (hlt _ rfl).1
    · exact ((Below.refl w.heap.size w).alloc (Nat.le_refl _) _).grown hgrow (by simp) (fun k h => by cases h; exact Nat.le_refl _)

theorem noRefs_any (r a b u nx : Int) (i : Bool) (w : World) (h : r ≠ 0) :
    Calls Try.prog 31 #[.agg #[.int .i64 r, .int .i64 a, .int .i64 b, .int .i64 u, .bool i, .int .i64 nx]] w fun e w' => e = .returned (.bool false) ∧ Below w.heap.size w w' := by
  have h' : (r == 0) = false := by simpa using h
  go_enter Try.func31, Try.ntmps31
  go_wp2
  go_ret
  exact ⟨rfl, one_below _ _⟩

set_option maxHeartbeats 800000 in
theorem idxFunc_no (ao : Option Addr) (cap : Nat) (S : List Sl) (w : World) (r : SRow w ao cap S) (h : ∀ j (hj : j < S.length), S[j].refs ≠ 0) :
    Calls Try.prog 68 #[.slice ao S.length cap, .func (.func 31) #[] #[]] w fun e w' => e = .returned (.int .i64 (-1)) ∧ Below w.heap.size w w' := by
  have m1 := r.max
  have n1 : S.length ≤ 9223372036854775807 := by omega
  have HZ : Hid _ := r.at_
  have HH : Hid _ := h
  clear r h
  go_enter Try.func68, Try.ntmps68
  go_wp2
  go_loopw [8] (fun i wr => ∃ k : Nat, k ≤ S.length ∧ i = .int .i64 k ∧ Below w.heap.size w wr) (fun i _ => S.length - (intOf i).toNat)
  case atStart => exact ⟨0, Nat.zero_le _, rfl, Below.refl _ _⟩
  case round =>
    obtain ⟨k, hk, rfl, hb⟩ := hrel
    by_cases hlt : k < S.length
    · rcases HZ.out with h0 | ⟨b, o, rfl, hc⟩
      · omega
      obtain ⟨c0, c1, c2, c3, c4, c5⟩ := hc k hlt
      have lt := cell_lt c0
      rw [← (bcell hb).1 _ _ lt] at c0 c1 c2 c3 c4 c5
      have hr := HH.out k hlt
      generalize S[k] = s at c0 c1 c2 c3 c4 c5 hr
      clear hc
      go_wp2_with (go_at_call 31; refine (noRefs_any _ _ _ _ _ _ _ hr).mono ?_; rintro e w1 ⟨rfl, hb1⟩)
      go_roundw
      case rel => exact ⟨k + 1, by omega, by go_num, hb.trans (hb1.mono hb.size)⟩
      case measure => simp [intOf]; omega
    · go_wp2
      go_ret
      exact ⟨rfl, hb⟩

theorem contFunc_no (ao : Option Addr) (cap : Nat) (S : List Sl) (w : World) (r : SRow w ao cap S) (h : ∀ j (hj : j < S.length), S[j].refs ≠ 0) :
    Calls Try.prog 30 #[.slice ao S.length cap, .func (.func 31) #[] #[]] w fun e w' => e = .returned (.bool false) ∧ Below w.heap.size w w' := by
  have HR : Hid _ := r
  have HH : Hid _ := h
  clear r h
  go_enter Try.func30, Try.ntmps30
  go_wp2_with (go_at_call 68; refine (idxFunc_no _ _ S _ HR.out HH.out).mono ?_; rintro e w1 ⟨rfl, hb1⟩)
  go_ret
  exact ⟨rfl, hb1⟩


end Go.Proofs.Ytdbilofhcadmoaa.mm
