/- The contracts of hold and put on memory of one's own. -/
import Derived.Test.YtjkbglfceoiicaaTake
namespace Go.Proofs.Ytjkbglfceoiicaa.mm
open Go.ChangeShapes Go.WideShapes Go.ChangeAt Go.RowKit Go.Joins
set_option linter.unusedVariables false

theorem hold_no (w : World) (B gS nS j : Nat) (hv fv lv nv : Value) (r : Int)
    (hB : w.heap[B]? = some (.cells #[.slice (some ⟨gS, 0, none⟩) nS nS, hv, fv, lv, nv] 29 (0, 0))) (hj : j < nS) (c0 : w.cell? ⟨gS, j * 6, none⟩ = some (.int .i64 r)) (hr : r = 0 ∨ r = 1000) :
    Calls Try.prog 65 #[.pointer (some ⟨B, 0, none⟩), .int .i64 j] w fun e w' => e = .returned (.bool false) ∧ w = w' := by
  obtain ⟨q0, q1, q2, q3, q4, f0, f1, f2, f3, f4, qs⟩ := boxf hB
  clear hB
  rcases hr with rfl | rfl
  all_goals
    go_enter Try.func65, Try.ntmps65
    go_wp2
    go_ret
    exact ⟨rfl, rfl⟩

theorem hold_yes (w : World) (B gS nS j : Nat) (hv fv lv nv : Value) (r : Int)
    (hB : w.heap[B]? = some (.cells #[.slice (some ⟨gS, 0, none⟩) nS nS, hv, fv, lv, nv] 29 (0, 0))) (hj : j < nS) (c0 : w.cell? ⟨gS, j * 6, none⟩ = some (.int .i64 r)) (f0 : w.frozen? ⟨gS, j * 6, none⟩ = false) (h0 : 0 < r) (h1 : r < 1000) :
    Calls Try.prog 65 #[.pointer (some ⟨B, 0, none⟩), .int .i64 j] w fun e w' => e = .returned (.bool true) ∧ w.setCell ⟨gS, j * 6, none⟩ (.int .i64 (r + 1)) = w' := by
  obtain ⟨q0, q1, q2, q3, q4, -, -, -, -, -, qs⟩ := boxf hB
  clear hB
  have e0 : (r == 0) = false := by rw [beq_eq_false_iff_ne]; omega
  have e1 : (r == 1000) = false := by rw [beq_eq_false_iff_ne]; omega
  go_enter Try.func65, Try.ntmps65
  go_wp2
  go_ret
  exact ⟨rfl, rfl⟩

theorem put_no (w : World) (B gS nS j : Nat) (hv fv lv nv : Value)
    (hB : w.heap[B]? = some (.cells #[.slice (some ⟨gS, 0, none⟩) nS nS, hv, fv, lv, nv] 29 (0, 0))) (hj : j < nS) (c0 : w.cell? ⟨gS, j * 6, none⟩ = some (.int .i64 0)) :
    Calls Try.prog 66 #[.pointer (some ⟨B, 0, none⟩), .int .i64 j] w fun e w' => e = .returned (.bool false) ∧ w = w' := by
  obtain ⟨q0, q1, q2, q3, q4, f0, f1, f2, f3, f4, qs⟩ := boxf hB
  clear hB
  go_enter Try.func66, Try.ntmps66
  go_wp2
  go_ret
  exact ⟨rfl, rfl⟩

theorem put_more (w : World) (B gS nS j : Nat) (hv fv lv nv : Value) (r : Int)
    (hB : w.heap[B]? = some (.cells #[.slice (some ⟨gS, 0, none⟩) nS nS, hv, fv, lv, nv] 29 (0, 0))) (hj : j < nS) (c0 : w.cell? ⟨gS, j * 6, none⟩ = some (.int .i64 r)) (f0 : w.frozen? ⟨gS, j * 6, none⟩ = false) (h0 : 1 < r) (h1 : r ≤ 1000) :
    Calls Try.prog 66 #[.pointer (some ⟨B, 0, none⟩), .int .i64 j] w fun e w' => e = .returned (.bool true) ∧ w.setCell ⟨gS, j * 6, none⟩ (.int .i64 (r - 1)) = w' := by
  obtain ⟨q0, q1, q2, q3, q4, -, -, -, -, -, qs⟩ := boxf hB
  clear hB
  have e0 : (r == 0) = false := by rw [beq_eq_false_iff_ne]; omega
  have e1 : (r - 1 == 0) = false := by rw [beq_eq_false_iff_ne]; omega
  go_enter Try.func66, Try.ntmps66
  go_wp2
  go_ret
  exact ⟨rfl, rfl⟩

theorem one_new (w : World) (v : Value) (t : TypeId) (n : Nat) (hn : n = w.heap.size) : ∀ (j : Nat) (u : Value), ([v] : List Value)[j]? = some u → (w.alloc (.cells #[v] t)).cell? ((⟨n, 0, none⟩ : Addr).add j) = some u := by
  subst hn
  intro j u hj
  match j, hj with
  | 0, hj => simp at hj; subst hj; simp [Addr.add]

theorem box_after {w w1 : World} {B gS gF o : Nat} {u v : Value} {ob : Obj} (hg : ((w.setCell ⟨gS, o, none⟩ u).alloc ob).grownBy w1 (some gF)) (q2 : w.cell? ⟨B, 2, none⟩ = some v) (f2 : w.frozen? ⟨B, 2, none⟩ = false) (h1 : B ≠ gS) (h2 : B ≠ gF) (hB : B < w.heap.size) :
    w1.cell? ⟨B, 2, none⟩ = some v ∧ w1.frozen? ⟨B, 2, none⟩ = false := by
  have hk : w1.heap[B]? = w.heap[B]? := by
    rw [hg.block B (by simp; omega) (by intro h; injection h with h; omega), Below.heap_alloc _ _ _ (by simp; omega), Below.heap_setCell _ _ _ _ (by dsimp only; exact h1)]
  exact ⟨(World.cell?_of_block (a := ⟨B, 2, none⟩) hk).trans q2, (World.frozen?_of_block (a := ⟨B, 2, none⟩) hk).trans f2⟩

theorem own_block {w : World} {g : Nat} {F : List Int} (base : Nat) (h : w.heap[g]? = some (.cells (encI F).toArray 3 (0, 0))) (hb : base ≤ g) (hm : F.length ≤ 9223372036854775807) : w.ownsRow base 3 1 (.slice (some ⟨g, 0, none⟩) F.length F.length) F.length (encI F) :=
  ⟨by simp [encI], .inr ⟨g, F.length, _, rfl, hb, h, Nat.le_refl _, hm, by simp [encI], by rw [List.take_of_length_le (by simp [encI])]⟩⟩

set_option maxHeartbeats 1600000 in
theorem put_last (w : World) (B gS gF nS j lo : Nat) (F : List Int) (hv lv nv : Value)
    (hB : w.heap[B]? = some (.cells #[.slice (some ⟨gS, 0, none⟩) nS nS, hv, .slice (some ⟨gF, 0, none⟩) F.length F.length, lv, nv] 29 (0, 0))) (hj : j < nS) (c0 : w.cell? ⟨gS, j * 6, none⟩ = some (.int .i64 1)) (f0 : w.frozen? ⟨gS, j * 6, none⟩ = false)
    (hlo : B < lo) (hS : lo ≤ gS) (hSF : gS < gF) (hF : w.heap[gF]? = some (.cells (encI F).toArray 3 (0, 0))) (hm : F.length * 8 ≤ 140737488351000) :
    Calls Try.prog 66 #[.pointer (some ⟨B, 0, none⟩), .int .i64 j] w fun e w' => e = .returned (.bool true) ∧ ∃ v w1, (w.setCell ⟨gS, j * 6, none⟩ (.int .i64 0)).grownBy w1 (some gF) ∧ w1.ownsRow (gS + 1) 3 1 v (F.length + 1) (encI (F ++ [(j : Int)])) ∧ w1.setCell ⟨B, 2, none⟩ v = w' := by
  have hGF := lt_of_block hF
  obtain ⟨q0, q1, q2, q3, q4, -, -, f2, -, -, qs⟩ := boxf hB
  obtain ⟨i0, hi, hz0, hz1, hz2⟩ := info_parts iI
  have hne : (⟨gS, j * 6, none⟩ : Addr) ≠ ⟨B, 2, none⟩ := by intro h; injection h with h; omega
  have HO : Hid ((w.setCell ⟨gS, j * 6, none⟩ (.int .i64 0)).ownsRow (gS + 1) 3 1 (.slice (some ⟨gF, 0, none⟩) F.length F.length) F.length (encI F)) :=
    own_block _ (by rw [Below.heap_setCell _ _ _ _ (by dsimp only; omega)]; exact hF) (by omega) (by omega)
  have HB : Hid _ := hB
  clear hB hF
  go_enter Try.func66, Try.ntmps66
  go_wp2_with (at_builtin; (refine wpList_append_own _ rfl _ _ 24 rfl (gS + 1) 3 i0 (.int .i64 0) 1 8 Try.underlying24 hi hz0 hz1 hz2 rfl (by decide) _ _ _ rfl (HO.out.alloc _) ⟨w.heap.size, 0, none⟩ 1 1 [.int .i64 j] rfl rfl (one_new _ _ _ _ (World.size_setCell ..).symm) (by intro u hu; simp at hu; subst hu; rfl) (by unfold maxLen; omega) (by omega) (by simp; omega) ?_; intro v w1 hown1 hgrow1 _; obtain ⟨g, cap, rfl⟩ := ownsRow_form hown1 (by omega); have HO1 : Hid (w1.ownsRow (gS + 1) 3 1 (.slice (some ⟨g, 0, none⟩) (F.length + 1) cap) (F.length + 1) (encI F ++ [.int .i64 j])) := hown1; have HG1 : Hid (((w.setCell ⟨gS, j * 6, none⟩ (.int .i64 0)).alloc (.cells #[.int .i64 j] 3)).grownBy w1 (some gF)) := hgrow1; clear hown1 hgrow1; obtain ⟨r2, r3⟩ := box_after HG1.out q2 f2 (by omega) (by omega) qs))
  go_ret
  refine ⟨rfl, _, w1, (World.grownBy_alloc _ _ _).trans HG1.out, ?_, rfl⟩
  have := HO1.out
  rwa [show encI F ++ [.int .i64 (j : Int)] = encI (F ++ [(j : Int)]) by simp [encI]] at this
end Go.Proofs.Ytjkbglfceoiicaa.mm
