/- The contracts of hold and put on memory of one's own. -/
import Derived.Test.YtonpjddfnokhfaaTake
namespace Go.Proofs.Ytonpjddfnokhfaa.mm
open Go.ChangeShapes Go.WideShapes Go.ChangeAt Go.RowKit Go.Joins
set_option linter.unusedVariables false

theorem hold_no (w : World) (B gS nS j cS : Nat) (hv fv lv nv : Value) (r : Int)
    (hB : w.heap[B]? = some (.cells #[.slice (some ⟨gS, 0, none⟩) nS cS, hv, fv, lv, nv] 29 (0, 0))) (hj : j < nS) (c0 : w.cell? ⟨gS, j * 6, none⟩ = some (.int .i64 r)) (hr : r = 0 ∨ r = 1000) :
    Calls Try.prog 65 #[.pointer (some ⟨B, 0, none⟩), .int .i64 j] w fun e w' => e = .returned (.bool false) ∧ w = w' := by
  obtain ⟨q0, q1, q2, q3, q4, f0, f1, f2, f3, f4, qs⟩ := boxf hB
  clear hB
  rcases hr with rfl | rfl
  all_goals
    go_enter Try.func65, Try.ntmps65
    go_wp2
    go_ret
    exact ⟨rfl, rfl⟩

theorem hold_yes (w : World) (B gS nS j cS : Nat) (hv fv lv nv : Value) (r : Int)
    (hB : w.heap[B]? = some (.cells #[.slice (some ⟨gS, 0, none⟩) nS cS, hv, fv, lv, nv] 29 (0, 0))) (hj : j < nS) (c0 : w.cell? ⟨gS, j * 6, none⟩ = some (.int .i64 r)) (f0 : w.frozen? ⟨gS, j * 6, none⟩ = false) (h0 : 0 < r) (h1 : r < 1000) :
    Calls Try.prog 65 #[.pointer (some ⟨B, 0, none⟩), .int .i64 j] w fun e w' => e = .returned (.bool true) ∧ w.setCell ⟨gS, j * 6, none⟩ (.int .i64 (r + 1)) = w' := by
  obtain ⟨q0, q1, q2, q3, q4, -, -, -, -, -, qs⟩ := boxf hB
  clear hB
  have e0 : (r == 0) = false := by rw [beq_eq_false_iff_ne]; omega
  have e1 : (r == 1000) = false := by rw [beq_eq_false_iff_ne]; omega
  go_enter Try.func65, Try.ntmps65
  go_wp2
  go_ret
  exact ⟨rfl, rfl⟩

theorem put_no (w : World) (B gS nS j cS : Nat) (hv fv lv nv : Value)
    (hB : w.heap[B]? = some (.cells #[.slice (some ⟨gS, 0, none⟩) nS cS, hv, fv, lv, nv] 29 (0, 0))) (hj : j < nS) (c0 : w.cell? ⟨gS, j * 6, none⟩ = some (.int .i64 0)) :
    Calls Try.prog 66 #[.pointer (some ⟨B, 0, none⟩), .int .i64 j] w fun e w' => e = .returned (.bool false) ∧ w = w' := by
  obtain ⟨q0, q1, q2, q3, q4, f0, f1, f2, f3, f4, qs⟩ := boxf hB
  clear hB
  go_enter Try.func66, Try.ntmps66
  go_wp2
  go_ret
  exact ⟨rfl, rfl⟩

theorem put_more (w : World) (B gS nS j cS : Nat) (hv fv lv nv : Value) (r : Int)
    (hB : w.heap[B]? = some (.cells #[.slice (some ⟨gS, 0, none⟩) nS cS, hv, fv, lv, nv] 29 (0, 0))) (hj : j < nS) (c0 : w.cell? ⟨gS, j * 6, none⟩ = some (.int .i64 r)) (f0 : w.frozen? ⟨gS, j * 6, none⟩ = false) (h0 : 1 < r) (h1 : r ≤ 1000) :
    Calls Try.prog 66 #[.pointer (some ⟨B, 0, none⟩), .int .i64 j] w fun e w' => e = .returned (.bool true) ∧ w.setCell ⟨gS, j * 6, none⟩ (.int .i64 (r - 1)) = w' := by
  obtain ⟨q0, q1, q2, q3, q4, -, -, -, -, -, qs⟩ := boxf hB
  clear hB
  have e0 : (r == 0) = false := by rw [beq_eq_false_iff_ne]; omega
  have e1 : (r - 1 == 0) = false := by rw [beq_eq_false_iff_ne]; omega
  go_enter Try.func66, Try.ntmps66
  go_wp2
  go_ret
  exact ⟨rfl, rfl⟩

theorem one_new (w : World) (v : Value) (t : TypeId) (n : Nat) (hn : n = w.heap.size) : ∀ (j : Nat) (u : Value), ([v] : List Value)[j]? = some u → (w.alloc (.cells #[v] t)).cell? ((⟨n, 0, none⟩ : Addr).add j) = some u := by
  subst hn
  intro j u hj
  match j, hj with
  | 0, hj => simp at hj; subst hj; simp [Addr.add]

theorem box_after {w w1 : World} {B gS o : Nat} {row : Option Nat} {u v : Value} {ob : Obj} (hg : ((w.setCell ⟨gS, o, none⟩ u).alloc ob).grownBy w1 row) (q2 : w.cell? ⟨B, 2, none⟩ = some v) (f2 : w.frozen? ⟨B, 2, none⟩ = false) (h1 : B ≠ gS) (h2 : row ≠ some B) (hB : B < w.heap.size) :
    w1.cell? ⟨B, 2, none⟩ = some v ∧ w1.frozen? ⟨B, 2, none⟩ = false := by
  have hk : w1.heap[B]? = w.heap[B]? := by
    rw [hg.block B (by simp; omega) (fun e => h2 e.symm), Below.heap_alloc _ _ _ (by simp; omega), Below.heap_setCell _ _ _ _ (by dsimp only; exact h1)]
  exact ⟨(World.cell?_of_block (a := ⟨B, 2, none⟩) hk).trans q2, (World.frozen?_of_block (a := ⟨B, 2, none⟩) hk).trans f2⟩

set_option maxHeartbeats 1600000 in
theorem put_last (w : World) (B gS nS j lo cS cF : Nat) (aF : Option Addr) (F : List Int) (hv lv nv : Value)
    (hB : w.heap[B]? = some (.cells #[.slice (some ⟨gS, 0, none⟩) nS cS, hv, .slice aF F.length cF, lv, nv] 29 (0, 0))) (hj : j < nS) (c0 : w.cell? ⟨gS, j * 6, none⟩ = some (.int .i64 1)) (f0 : w.frozen? ⟨gS, j * 6, none⟩ = false)
    (hne : B ≠ gS) (hO : (w.setCell ⟨gS, j * 6, none⟩ (.int .i64 0)).ownsRow lo 3 1 (.slice aF F.length cF) F.length (encI F)) (hlz : lo ≤ w.heap.size) (hm : F.length * 8 ≤ 140737488351000) :
    Calls Try.prog 66 #[.pointer (some ⟨B, 0, none⟩), .int .i64 j] w fun e w' => e = .returned (.bool true) ∧ ∃ a' c' w1, ((w.setCell ⟨gS, j * 6, none⟩ (.int .i64 0)).alloc (.cells #[.int .i64 j] 3)).grownBy w1 (Value.slice aF F.length cF).ownBlock ∧
      w1.ownsRow lo 3 1 (.slice a' (F.length + 1) c') (F.length + 1) (encI (F ++ [(j : Int)])) ∧ ((Value.slice a' (F.length + 1) c').ownBlock = (Value.slice aF F.length cF).ownBlock ∨ (Value.slice a' (F.length + 1) c').ownBlock = some (w.heap.size + 1)) ∧ w1.setCell ⟨B, 2, none⟩ (.slice a' (F.length + 1) c') = w' := by
  obtain ⟨q0, q1, q2, q3, q4, -, -, f2, -, -, qs⟩ := boxf hB
  obtain ⟨i0, hi, hz0, hz1, hz2⟩ := info_parts iI
  have hne' : (⟨gS, j * 6, none⟩ : Addr) ≠ ⟨B, 2, none⟩ := by intro h; injection h with h; omega
  have HO : Hid ((w.setCell ⟨gS, j * 6, none⟩ (.int .i64 0)).ownsRow lo 3 1 (.slice aF F.length cF) F.length (encI F)) := hO
  have hBs : (w.setCell ⟨gS, j * 6, none⟩ (.int .i64 0)).heap[B]? = _ := (Below.heap_setCell _ _ _ _ (by dsimp only; exact hne)).trans hB
  have HNe : Hid ((Value.slice aF F.length cF).ownBlock ≠ some B) := own_ne hO hBs (by decide)
  have HB : Hid _ := hB
  clear hB hO hBs
  go_enter Try.func66, Try.ntmps66
  go_wp2_with (at_builtin; (refine wpList_append_own_at _ rfl _ _ 24 rfl lo 3 i0 (.int .i64 0) 1 8 Try.underlying24 hi hz0 hz1 hz2 rfl (by decide) _ _ _ rfl (HO.out.alloc _) ⟨w.heap.size, 0, none⟩ 1 1 [.int .i64 j] rfl rfl (one_new _ _ _ _ (World.size_setCell ..).symm) (by intro u hu; simp at hu; subst hu; rfl) (by unfold maxLen; omega) (by omega) (by simp; omega) ?_; intro v w1 hown1 hgrow1 _ hloc1; obtain ⟨g, cap, rfl⟩ := ownsRow_form hown1 (by omega); have HO1 : Hid (w1.ownsRow lo 3 1 (.slice (some ⟨g, 0, none⟩) (F.length + 1) cap) (F.length + 1) (encI F ++ [.int .i64 j])) := hown1; have HG1 : Hid (((w.setCell ⟨gS, j * 6, none⟩ (.int .i64 0)).alloc (.cells #[.int .i64 j] 3)).grownBy w1 (Value.slice aF F.length cF).ownBlock) := hgrow1; have HL1 : Hid ((Value.slice (some ⟨g, 0, none⟩) (F.length + 1) cap).ownBlock = (Value.slice aF F.length cF).ownBlock ∨ (Value.slice (some ⟨g, 0, none⟩) (F.length + 1) cap).ownBlock = some ((w.setCell ⟨gS, j * 6, none⟩ (.int .i64 0)).alloc (.cells #[.int .i64 j] 3)).heap.size) := hloc1; clear hown1 hgrow1 hloc1; obtain ⟨r2, r3⟩ := box_after HG1.out q2 f2 hne HNe.out qs))
  go_ret
  refine ⟨rfl, _, _, w1, HG1.out, ?_, ?_, rfl⟩
  · have := HO1.out
    rwa [show encI F ++ [.int .i64 (j : Int)] = encI (F ++ [(j : Int)]) by simp [encI]] at this
  · have := HL1.out
    simpa using this

theorem setRefs_at (M : Mm) (j : Nat) (hj : j < M.slots.length) (r : Int) : setRefs M j r = M.slots.set j { M.slots[j] with refs := r } := by
  simp [setRefs, List.getD_eq_getElem?_getD, hj]
theorem refsM_at (M : Mm) (j : Nat) (hj : j < M.slots.length) : refsM M j = M.slots[j].refs := by
  simp [refsM, List.getD_eq_getElem?_getD, hj]

theorem hold_fail (M : Mm) (w : World) (B lo : Nat) (aS aH aF aL : Option Addr) (cS cH cF cL : Nat) (i : Int) (m : Mine w B lo aS aH aF aL cS cH cF cL M) (h0 : 0 ≤ i) (h1 : i < M.slots.length) (hr : refsM M i = 0 ∨ refsM M i = 1000) :
    Calls Try.prog 65 #[.pointer (some ⟨B, 0, none⟩), .int .i64 i] w fun e w' => e = .returned (.bool false) ∧ w = w' := by
  obtain ⟨j, rfl⟩ : ∃ j : Nat, i = j := ⟨i.toNat, by omega⟩
  have hj : j < M.slots.length := by omega
  obtain ⟨gS, rfl, -, -, -, -⟩ := row_form m.c.s (by omega)
  rw [refsM_at M j hj] at hr
  exact hold_no w B gS _ j cS _ _ _ _ _ m.box hj (row_cells m.c.s hj).1 hr

theorem put_fail (M : Mm) (w : World) (B lo : Nat) (aS aH aF aL : Option Addr) (cS cH cF cL : Nat) (i : Int) (m : Mine w B lo aS aH aF aL cS cH cF cL M) (h0 : 0 ≤ i) (h1 : i < M.slots.length) (hr : refsM M i = 0) :
    Calls Try.prog 66 #[.pointer (some ⟨B, 0, none⟩), .int .i64 i] w fun e w' => e = .returned (.bool false) ∧ w = w' := by
  obtain ⟨j, rfl⟩ : ∃ j : Nat, i = j := ⟨i.toNat, by omega⟩
  have hj : j < M.slots.length := by omega
  obtain ⟨gS, rfl, -, -, -, -⟩ := row_form m.c.s (by omega)
  rw [refsM_at M j hj] at hr
  exact put_no w B gS _ j cS _ _ _ _ m.box hj (hr ▸ (row_cells m.c.s hj).1)

/- A slot's Refs are turned, nothing else. -/
theorem turned {M : Mm} {w : World} {B lo g j : Nat} {aH aF aL : Option Addr} {cS cH cF cL : Nat} (m : Mine w B lo (some ⟨g, 0, none⟩) aH aF aL cS cH cF cL M) (hj : j < M.slots.length) (r : Int) :
    Mine (w.setCell ⟨g, j * 6, none⟩ (.int .i64 r)) B lo (some ⟨g, 0, none⟩) aH aF aL cS cH cF cL { M with slots := setRefs M j r } := by
  rw [setRefs_at M j hj r]
  exact m.setS _ _ _ (encS_set1 M.slots j hj r)

theorem hold_now (M : Mm) (w : World) (B lo : Nat) (aS aH aF aL : Option Addr) (cS cH cF cL : Nat) (i : Int) (m : Mine w B lo aS aH aF aL cS cH cF cL M) (h0 : 0 ≤ i) (h1 : i < M.slots.length) (hr : 0 < refsM M i) (hr1 : refsM M i < 1000) :
    Calls Try.prog 65 #[.pointer (some ⟨B, 0, none⟩), .int .i64 i] w fun e w' => e = .returned (.bool true) ∧ Now w w' B lo (holdM M i) := by
  obtain ⟨j, rfl⟩ : ∃ j : Nat, i = j := ⟨i.toNat, by omega⟩
  have hj : j < M.slots.length := by omega
  obtain ⟨gS, rfl, oS, -, -, -⟩ := row_form m.c.s (by omega)
  have hrr := refsM_at M j hj
  rw [hrr] at hr hr1
  obtain ⟨c0, -, -, -, -, -, fz⟩ := row_cells m.c.s hj
  refine (hold_yes w B gS _ j cS _ _ _ _ _ m.box hj c0 (fz _) hr hr1).mono ?_
  rintro e w' ⟨rfl, rfl⟩
  have mt := turned m hj (M.slots[j].refs + 1)
  rw [← hrr] at mt ⊢
  exact ⟨rfl, _, _, _, _, _, _, _, _, mt, (Kept.refl w B lo).setCell oS _⟩

theorem put_now (M : Mm) (w : World) (B lo : Nat) (aS aH aF aL : Option Addr) (cS cH cF cL : Nat) (i : Int) (m : Mine w B lo aS aH aF aL cS cH cF cL M) (h0 : 0 ≤ i) (h1 : i < M.slots.length) (hr : 0 < refsM M i) (hr1 : refsM M i ≤ 1000) (hm : M.free.length * 8 ≤ 140737488350000) :
    Calls Try.prog 66 #[.pointer (some ⟨B, 0, none⟩), .int .i64 i] w fun e w' => e = .returned (.bool true) ∧ Now w w' B lo (putM M i) := by
  obtain ⟨j, rfl⟩ : ∃ j : Nat, i = j := ⟨i.toNat, by omega⟩
  have hj : j < M.slots.length := by omega
  obtain ⟨gS, rfl, oS, -, -, -⟩ := row_form m.c.s (by omega)
  have hrr := refsM_at M j hj
  obtain ⟨c0, -, -, -, -, -, fz⟩ := row_cells m.c.s hj
  by_cases hl : refsM M j = 1
  · rw [← hrr, hl] at c0
    have mt := turned m hj 0
    refine (put_last w B gS _ j lo cS cF aF M.free _ _ _ m.box hj c0 (fz _) m.ne_s mt.c.f m.c.lz m.m3).mono ?_
    rintro e w' ⟨rfl, a', c', w1, hg, ho, hloc, rfl⟩
    have e1 : putM M j = { M with slots := setRefs M j 0, free := M.free ++ [(j : Int)] } := by simp [putM, hl]
    have hlen : (M.free ++ [(j : Int)]).length = M.free.length + 1 := by simp
    rw [e1]
    have ma := mt.below (one_below _ (.cells #[.int .i64 j] 3))
    rw [← hlen] at ho hloc ⊢
    have mg := ma.grow (M.free ++ [(j : Int)]) (by rw [hlen]; omega) hg ho (by simpa using hloc)
    refine ⟨rfl, _, _, _, _, _, _, _, _, mg, ?_⟩
    have k1 : Kept w _ B lo := ((Kept.refl w B lo).setCell (j := j * 6) oS (.int .i64 0)).below (one_below _ (.cells #[.int .i64 j] 3)) mt.c.lz
    exact (k1.grown hg (fun k hk => (ma.c.f.lt k hk).1) ma.c.lz).setBox _
  · have hr2 : 1 < M.slots[j].refs := by omega
    refine (put_more w B gS _ j cS _ _ _ _ _ m.box hj c0 (fz _) hr2 (by omega)).mono ?_
    rintro e w' ⟨rfl, rfl⟩
    have e1 : putM M j = { M with slots := setRefs M j (refsM M j - 1) } := by simp [putM, hl]
    rw [e1]
    have mt := turned m hj (M.slots[j].refs - 1)
    rw [← hrr] at mt ⊢
    exact ⟨rfl, _, _, _, _, _, _, _, _, mt, (Kept.refl w B lo).setCell oS _⟩

theorem hold_done (M : Mm) (w : World) (B lo : Nat) (aS aH aF aL : Option Addr) (cS cH cF cL : Nat) (i : Int) (m : Mine w B lo aS aH aF aL cS cH cF cL M) (h0 : 0 ≤ i) (h1 : i < M.slots.length) (hr : 0 < refsM M i) (hr1 : refsM M i < 1000) :
    Calls Try.prog 65 #[.pointer (some ⟨B, 0, none⟩), .int .i64 i] w fun e w' => e = .returned (.bool true) ∧ Done w w' B lo (holdM M i) := by
  refine (hold_now M w B lo aS aH aF aL cS cH cF cL i m h0 h1 hr hr1).mono ?_
  rintro e w' ⟨rfl, h⟩
  exact ⟨rfl, h.done⟩
theorem put_done (M : Mm) (w : World) (B lo : Nat) (aS aH aF aL : Option Addr) (cS cH cF cL : Nat) (i : Int) (m : Mine w B lo aS aH aF aL cS cH cF cL M) (h0 : 0 ≤ i) (h1 : i < M.slots.length) (hr : 0 < refsM M i) (hr1 : refsM M i ≤ 1000) (hm : M.free.length * 8 ≤ 140737488350000) :
    Calls Try.prog 66 #[.pointer (some ⟨B, 0, none⟩), .int .i64 i] w fun e w' => e = .returned (.bool true) ∧ Done w w' B lo (putM M i) := by
  refine (put_now M w B lo aS aH aF aL cS cH cF cL i m h0 h1 hr hr1 hm).mono ?_
  rintro e w' ⟨rfl, h⟩
  exact ⟨rfl, h.done⟩
end Go.Proofs.Ytonpjddfnokhfaa.mm
