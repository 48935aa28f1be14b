/- The contracts of hold and put on memory of one's own. -/
import Derived.Test.YtdbilofhcadmoaaTake
import Derived.ArgAppend
namespace Go.Proofs.Ytdbilofhcadmoaa.mm
open Go.ChangeShapes Go.WideShapes Go.ChangeAt Go.RowKit Go.Joins
set_option linter.unusedVariables false

theorem hold_no (w : World) (B gS nS j cS : Nat) (hv fv lv nv : Value) (r : Int)
    (hB : w.heap[B]? = some (.cells #[.slice (some ⟨gS, 0, none⟩) nS cS, hv, fv, lv, nv] 29 (0, 0))) (hj : j < nS) (c0 : w.cell? ⟨gS, j * 6, none⟩ = some (.int .i64 r)) (hr : r = 0 ∨ r = 1000) :
    Calls Try.prog 65 #[.pointer (some ⟨B, 0, none⟩), .int .i64 j] w fun e w' => e = .returned (.bool false) ∧ w = w' := by
  obtain ⟨q0, q1, q2, q3, q4, f0, f1, f2, f3, f4, qs⟩ := boxf hB
  clear hB
  rcases hr with rfl | rfl
  all_goals
    go_enter Try.func65, Try.ntmps65
    go_wp2
    go_ret
    exact ⟨rfl, rfl⟩

theorem hold_yes (w : World) (B gS nS j cS : Nat) (hv fv lv nv : Value) (r : Int)
    (hB : w.heap[B]? = some (.cells #[.slice (some ⟨gS, 0, none⟩) nS cS, hv, fv, lv, nv] 29 (0, 0))) (hj : j < nS) (c0 : w.cell? ⟨gS, j * 6, none⟩ = some (.int .i64 r)) (f0 : w.frozen? ⟨gS, j * 6, none⟩ = false) (h0 : 0 < r) (h1 : r < 1000) :
    Calls Try.prog 65 #[.pointer (some ⟨B, 0, none⟩), .int .i64 j] w fun e w' => e = .returned (.bool true) ∧ w.setCell ⟨gS, j * 6, none⟩ (.int .i64 (r + 1)) = w' := by
  obtain ⟨q0, q1, q2, q3, q4, -, -, -, -, -, qs⟩ := boxf hB
  clear hB
  have e0 : (r == 0) = false := by rw [beq_eq_false_iff_ne]; omega
  have e1 : (r == 1000) = false := by rw [beq_eq_false_iff_ne]; omega
  go_enter Try.func65, Try.ntmps65
  go_wp2
  go_ret
  exact ⟨rfl, rfl⟩

theorem put_no (w : World) (B gS nS j cS : Nat) (hv fv lv nv : Value)
    (hB : w.heap[B]? = some (.cells #[.slice (some ⟨gS, 0, none⟩) nS cS, hv, fv, lv, nv] 29 (0, 0))) (hj : j < nS) (c0 : w.cell? ⟨gS, j * 6, none⟩ = some (.int .i64 0)) :
    Calls Try.prog 66 #[.pointer (some ⟨B, 0, none⟩), .int .i64 j] w fun e w' => e = .returned (.bool false) ∧ w = w' := by
  obtain ⟨q0, q1, q2, q3, q4, f0, f1, f2, f3, f4, qs⟩ := boxf hB
  clear hB
  go_enter Try.func66, Try.ntmps66
  go_wp2
  go_ret
  exact ⟨rfl, rfl⟩

theorem put_more (w : World) (B gS nS j cS : Nat) (hv fv lv nv : Value) (r : Int)
    (hB : w.heap[B]? = some (.cells #[.slice (some ⟨gS, 0, none⟩) nS cS, hv, fv, lv, nv] 29 (0, 0))) (hj : j < nS) (c0 : w.cell? ⟨gS, j * 6, none⟩ = some (.int .i64 r)) (f0 : w.frozen? ⟨gS, j * 6, none⟩ = false) (h0 : 1 < r) (h1 : r ≤ 1000) :
    Calls Try.prog 66 #[.pointer (some ⟨B, 0, none⟩), .int .i64 j] w fun e w' => e = .returned (.bool true) ∧ w.setCell ⟨gS, j * 6, none⟩ (.int .i64 (r - 1)) = w' := by
  obtain ⟨q0, q1, q2, q3, q4, -, -, -, -, -, qs⟩ := boxf hB
  clear hB
  have e0 : (r == 0) = false := by rw [beq_eq_false_iff_ne]; omega
  have e1 : (r - 1 == 0) = false := by rw [beq_eq_false_iff_ne]; omega
  go_enter Try.func66, Try.ntmps66
  go_wp2
  go_ret
  exact ⟨rfl, rfl⟩

theorem one_new (w : World) (v : Value) (t : TypeId) (n : Nat) (hn : n = w.heap.size) : ∀ (j : Nat) (u : Value), ([v] : List Value)[j]? = some u → (w.alloc (.cells #[v] t)).cell? ((⟨n, 0, none⟩ : Addr).add j) = some u := by
  subst hn
  intro j u hj
  match j, hj with
  | 0, hj => simp at hj; subst hj; simp [Addr.add]

theorem box_after {w w1 : World} {B gS o : Nat} {row : Option Nat} {u v : Value} {ob : Obj} (hg : ((w.setCell ⟨gS, o, none⟩ u).alloc ob).grownBy w1 row) (q2 : w.cell? ⟨B, 2, none⟩ = some v) (f2 : w.frozen? ⟨B, 2, none⟩ = false) (h1 : B ≠ gS) (h2 : row ≠ some B) (hB : B < w.heap.size) :
    w1.cell? ⟨B, 2, none⟩ = some v ∧ w1.frozen? ⟨B, 2, none⟩ = false := by
  have hk : w1.heap[B]? = w.heap[B]? := by
    rw [hg.block B (by simp; omega) (fun e => h2 e.symm), Below.heap_alloc _ _ _ (by simp; omega), Below.heap_setCell _ _ _ _ (by dsimp only; exact h1)]
  exact ⟨(World.cell?_of_block (a := ⟨B, 2, none⟩) hk).trans q2, (World.frozen?_of_block (a := ⟨B, 2, none⟩) hk).trans f2⟩

theorem clip_at (ao : Option Addr) (n cap : Nat) (w : World) (h : n ≤ cap) (hnil : ao = none → n = 0 ∧ cap = 0) :
    Calls Try.prog 85 #[.slice ao n cap] w fun e w' => e = .returned (.slice ao n n) ∧ w = w' := by
  cases ao with
  | none =>
    obtain ⟨rfl, rfl⟩ := hnil rfl
    go_enter Try.func85, Try.ntmps85
    go_wp2
    go_ret
    exact ⟨rfl, rfl⟩
  | some ad =>
    go_enter Try.func85, Try.ntmps85
    go_wp2
    go_ret
    exact ⟨rfl, rfl⟩

/- The free ones lie in a row that is new; its slice is stored. -/
theorem Mine.newF {w w1 : World} {B lo n : Nat} {aS aH aF aL a' : Option Addr} {cS cH cF cL c' : Nat} {M : Mm} (m : Mine w B lo aS aH aF aL cS cH cF cL M) (F' : List Int) (hm : F'.length * 8 ≤ 140737488351000)
    (hb : Below w.heap.size w w1) (hn : F'.length = n) (ho : w1.ownsRow w.heap.size 3 1 (.slice a' n c') n (encI F')) :
    Mine (w1.setCell ⟨B, 2, none⟩ (.slice a' n c')) B lo aS aH a' aL cS cH c' cL { M with free := F' } := by
  subst hn
  have dh := dj_new m.c.h ho (Nat.le_refl _)
  have dl := dj_new m.c.l ho (Nat.le_refl _)
  obtain ⟨hB, ⟨s, h, f, l, hf, hl, fl, lz⟩, m1, m2, m3, m4⟩ := m.below hb
  refine ⟨?_, ⟨own_box s hB (by decide) _, own_box h hB (by decide) _, own_box (ownsRow_le ho m.c.lz) hB (by decide) _, own_box l hB (by decide) _, dh, hl, dl.symm, by rw [World.size_setCell]; exact lz⟩, m1, m2, hm, m4⟩
  have := block_setCell (i := 2) hB (.slice a' F'.length c')
  simpa using this

set_option maxHeartbeats 1600000 in
theorem put_last (w : World) (B gS nS j cS cF : Nat) (aF : Option Addr) (F : List Int) (hv lv nv : Value)
    (hB : w.heap[B]? = some (.cells #[.slice (some ⟨gS, 0, none⟩) nS cS, hv, .slice aF F.length cF, lv, nv] 29 (0, 0))) (hj : j < nS) (c0 : w.cell? ⟨gS, j * 6, none⟩ = some (.int .i64 1)) (f0 : w.frozen? ⟨gS, j * 6, none⟩ = false)
    (hne : B ≠ gS) (hO : IRow (w.setCell ⟨gS, j * 6, none⟩ (.int .i64 0)) aF cF F) (hm : F.length * 8 ≤ 140737488350000) :
    Calls Try.prog 66 #[.pointer (some ⟨B, 0, none⟩), .int .i64 j] w fun e w' => e = .returned (.bool true) ∧ ∃ a' c' w1, Below w.heap.size (w.setCell ⟨gS, j * 6, none⟩ (.int .i64 0)) w1 ∧
      w1.ownsRow w.heap.size 3 1 (.slice a' (F.length + 1) c') (F.length + 1) (encI (F ++ [(j : Int)])) ∧ w1.setCell ⟨B, 2, none⟩ (.slice a' (F.length + 1) c') = w' := by
  obtain ⟨q0, q1, q2, q3, q4, -, -, f2, -, -, qs⟩ := boxf hB
  obtain ⟨i0, hi, hz0, hz1, hz2⟩ := info_parts iI
  have hne' : (⟨gS, j * 6, none⟩ : Addr) ≠ ⟨B, 2, none⟩ := by intro h; injection h with h; omega
  have HO : Hid (IRow (w.setCell ⟨gS, j * 6, none⟩ (.int .i64 0)) aF cF F) := hO
  have HN : Hid (aF = none → F.length = 0 ∧ cF = 0) := fun h => ⟨by have := HO.out.nil h; have := HO.out.le; omega, HO.out.nil h⟩
  have HN2 : Hid (aF = none → F.length = 0 ∧ F.length = 0) := fun h => ⟨(HN.out h).1, (HN.out h).1⟩
  have HSr : Hid (∀ ad, aF = some ad → ∀ j' u, (encI F)[j']? = some u → ((w.setCell ⟨gS, j * 6, none⟩ (.int .i64 0)).alloc (.cells #[.int .i64 j] 3)).cell? (ad.add j') = some u) := (HO.out.below (one_below _ _)).src
  have HE : Hid ((encI F).length = F.length * 1) := by show _ = _; rw [encI_len, Nat.mul_one]
  have HLe : Hid (F.length ≤ cF) := HO.out.le
  have HMx : Hid (F.length ≤ 9223372036854775807) := by show _ ≤ _; omega
  clear hB hO
  go_enter Try.func66, Try.ntmps66
  go_wp2_with (first
    | (go_at_call 85; refine (clip_at aF F.length cF _ HLe.out HN.out).mono ?_; rintro e w' ⟨rfl, rfl⟩)
    | (at_builtin; (refine wpList_append_grows _ rfl _ _ 24 rfl 3 i0 (.int .i64 0) 1 8 Try.underlying24 hi hz0 hz1 hz2 rfl (by decide) aF F.length F.length (encI F) rfl HN2.out HE.out HSr.out ⟨w.heap.size, 0, none⟩ 1 1 [.int .i64 j] rfl rfl (one_new _ _ _ _ (World.size_setCell ..).symm) (by intro u hu; simp at hu; subst hu; rfl) (by omega) (by unfold maxLen; omega) (by omega) ?_; intro v w1 hown1 hgrow1; obtain ⟨g, cap, rfl⟩ := ownsRow_form hown1 (by omega); have HO1 : Hid (w1.ownsRow ((w.setCell ⟨gS, j * 6, none⟩ (.int .i64 0)).alloc (.cells #[.int .i64 j] 3)).heap.size 3 1 (.slice (some ⟨g, 0, none⟩) (F.length + 1) cap) (F.length + 1) (encI F ++ [.int .i64 j])) := hown1; have HG1 : Hid (((w.setCell ⟨gS, j * 6, none⟩ (.int .i64 0)).alloc (.cells #[.int .i64 j] 3)).grownBy w1 none) := hgrow1; clear hown1 hgrow1; obtain ⟨r2, r3⟩ := box_after HG1.out q2 f2 hne (by simp) qs)))
  go_ret
  refine ⟨rfl, _, _, w1, ?_, ?_, rfl⟩
  · exact ((Below.refl _ _).alloc (by simp) _).grown HG1.out (by simp) (fun k h => by cases h)
  · have := ownsRow_le (base' := w.heap.size) HO1.out (by simp)
    rwa [show encI F ++ [.int .i64 (j : Int)] = encI (F ++ [(j : Int)]) by simp [encI]] at this

theorem setRefs_at (M : Mm) (j : Nat) (hj : j < M.slots.length) (r : Int) : setRefs M j r = M.slots.set j { M.slots[j] with refs := r } := by
  simp [setRefs, List.getD_eq_getElem?_getD, hj]
theorem refsM_at (M : Mm) (j : Nat) (hj : j < M.slots.length) : refsM M j = M.slots[j].refs := by
  simp [refsM, List.getD_eq_getElem?_getD, hj]

theorem hold_fail (M : Mm) (w : World) (B lo : Nat) (aS aH aF aL : Option Addr) (cS cH cF cL : Nat) (i : Int) (m : Mine w B lo aS aH aF aL cS cH cF cL M) (h0 : 0 ≤ i) (h1 : i < M.slots.length) (hr : refsM M i = 0 ∨ refsM M i = 1000) :
    Calls Try.prog 65 #[.pointer (some ⟨B, 0, none⟩), .int .i64 i] w fun e w' => e = .returned (.bool false) ∧ w = w' := by
  obtain ⟨j, rfl⟩ : ∃ j : Nat, i = j := ⟨i.toNat, by omega⟩
  have hj : j < M.slots.length := by omega
  obtain ⟨gS, rfl, -, -, -, -⟩ := row_form m.c.s (by omega)
  rw [refsM_at M j hj] at hr
  exact hold_no w B gS _ j cS _ _ _ _ _ m.box hj (row_cells m.c.s hj).1 hr

theorem put_fail (M : Mm) (w : World) (B lo : Nat) (aS aH aF aL : Option Addr) (cS cH cF cL : Nat) (i : Int) (m : Mine w B lo aS aH aF aL cS cH cF cL M) (h0 : 0 ≤ i) (h1 : i < M.slots.length) (hr : refsM M i = 0) :
    Calls Try.prog 66 #[.pointer (some ⟨B, 0, none⟩), .int .i64 i] w fun e w' => e = .returned (.bool false) ∧ w = w' := by
  obtain ⟨j, rfl⟩ : ∃ j : Nat, i = j := ⟨i.toNat, by omega⟩
  have hj : j < M.slots.length := by omega
  obtain ⟨gS, rfl, -, -, -, -⟩ := row_form m.c.s (by omega)
  rw [refsM_at M j hj] at hr
  exact put_no w B gS _ j cS _ _ _ _ m.box hj (hr ▸ (row_cells m.c.s hj).1)

/- A slot's Refs are turned, nothing else. -/
theorem turned {M : Mm} {w : World} {B lo g j : Nat} {aH aF aL : Option Addr} {cS cH cF cL : Nat} (m : Mine w B lo (some ⟨g, 0, none⟩) aH aF aL cS cH cF cL M) (hj : j < M.slots.length) (r : Int) :
    Mine (w.setCell ⟨g, j * 6, none⟩ (.int .i64 r)) B lo (some ⟨g, 0, none⟩) aH aF aL cS cH cF cL { M with slots := setRefs M j r } := by
  rw [setRefs_at M j hj r]
  exact m.setS _ _ _ (encS_set1 M.slots j hj r)

theorem hold_now (M : Mm) (w : World) (B lo : Nat) (aS aH aF aL : Option Addr) (cS cH cF cL : Nat) (i : Int) (m : Mine w B lo aS aH aF aL cS cH cF cL M) (h0 : 0 ≤ i) (h1 : i < M.slots.length) (hr : 0 < refsM M i) (hr1 : refsM M i < 1000) :
    Calls Try.prog 65 #[.pointer (some ⟨B, 0, none⟩), .int .i64 i] w fun e w' => e = .returned (.bool true) ∧ Now w w' B lo (holdM M i) := by
  obtain ⟨j, rfl⟩ : ∃ j : Nat, i = j := ⟨i.toNat, by omega⟩
  have hj : j < M.slots.length := by omega
  obtain ⟨gS, rfl, oS, -, -, -⟩ := row_form m.c.s (by omega)
  have hrr := refsM_at M j hj
  rw [hrr] at hr hr1
  obtain ⟨c0, -, -, -, -, -, fz⟩ := row_cells m.c.s hj
  refine (hold_yes w B gS _ j cS _ _ _ _ _ m.box hj c0 (fz _) hr hr1).mono ?_
  rintro e w' ⟨rfl, rfl⟩
  have mt := turned m hj (M.slots[j].refs + 1)
  rw [← hrr] at mt ⊢
  exact ⟨rfl, _, _, _, _, _, _, _, _, mt, (Kept.refl w B lo).setCell oS _⟩

theorem put_now (M : Mm) (w : World) (B lo : Nat) (aS aH aF aL : Option Addr) (cS cH cF cL : Nat) (i : Int) (m : Mine w B lo aS aH aF aL cS cH cF cL M) (h0 : 0 ≤ i) (h1 : i < M.slots.length) (hr : 0 < refsM M i) (hr1 : refsM M i ≤ 1000) (hm : M.free.length * 8 ≤ 140737488350000) :
    Calls Try.prog 66 #[.pointer (some ⟨B, 0, none⟩), .int .i64 i] w fun e w' => e = .returned (.bool true) ∧ Now w w' B lo (putM M i) := by
  obtain ⟨j, rfl⟩ : ∃ j : Nat, i = j := ⟨i.toNat, by omega⟩
  have hj : j < M.slots.length := by omega
  obtain ⟨gS, rfl, oS, -, -, -⟩ := row_form m.c.s (by omega)
  have hrr := refsM_at M j hj
  obtain ⟨c0, -, -, -, -, -, fz⟩ := row_cells m.c.s hj
  by_cases hl : refsM M j = 1
  · rw [← hrr, hl] at c0
    have mt := turned m hj 0
    refine (put_last w B gS _ j cS cF aF M.free _ _ _ m.box hj c0 (fz _) m.ne_s mt.at.f hm).mono ?_
    rintro e w' ⟨rfl, a', c', w1, hb, ho, rfl⟩
    have e1 : putM M j = { M with slots := setRefs M j 0, free := M.free ++ [(j : Int)] } := by simp [putM, hl]
    have hlen : (M.free ++ [(j : Int)]).length = M.free.length + 1 := by simp
    rw [e1]
    have hz : (w.setCell ⟨gS, j * 6, none⟩ (.int .i64 0)).heap.size = w.heap.size := World.size_setCell ..
    rw [← hz] at hb ho
    have mg := mt.newF (M.free ++ [(j : Int)]) (by rw [hlen]; omega) hb hlen ho
    refine ⟨rfl, _, _, _, _, _, _, _, _, mg, ?_⟩
    have k1 : Kept w _ B lo := ((Kept.refl w B lo).setCell (j := j * 6) oS (.int .i64 0)).below hb mt.c.lz
    exact k1.setBox _
  · have hr2 : 1 < M.slots[j].refs := by omega
    refine (put_more w B gS _ j cS _ _ _ _ _ m.box hj c0 (fz _) hr2 (by omega)).mono ?_
    rintro e w' ⟨rfl, rfl⟩
    have e1 : putM M j = { M with slots := setRefs M j (refsM M j - 1) } := by simp [putM, hl]
    rw [e1]
    have mt := turned m hj (M.slots[j].refs - 1)
    rw [← hrr] at mt ⊢
    exact ⟨rfl, _, _, _, _, _, _, _, _, mt, (Kept.refl w B lo).setCell oS _⟩

theorem hold_done (M : Mm) (w : World) (B lo : Nat) (aS aH aF aL : Option Addr) (cS cH cF cL : Nat) (i : Int) (m : Mine w B lo aS aH aF aL cS cH cF cL M) (h0 : 0 ≤ i) (h1 : i < M.slots.length) (hr : 0 < refsM M i) (hr1 : refsM M i < 1000) :
    Calls Try.prog 65 #[.pointer (some ⟨B, 0, none⟩), .int .i64 i] w fun e w' => e = .returned (.bool true) ∧ Done w w' B lo (holdM M i) := by
  refine (hold_now M w B lo aS aH aF aL cS cH cF cL i m h0 h1 hr hr1).mono ?_
  rintro e w' ⟨rfl, h⟩
  exact ⟨rfl, h.done⟩
theorem put_done (M : Mm) (w : World) (B lo : Nat) (aS aH aF aL : Option Addr) (cS cH cF cL : Nat) (i : Int) (m : Mine w B lo aS aH aF aL cS cH cF cL M) (h0 : 0 ≤ i) (h1 : i < M.slots.length) (hr : 0 < refsM M i) (hr1 : refsM M i ≤ 1000) (hm : M.free.length * 8 ≤ 140737488350000) :
    Calls Try.prog 66 #[.pointer (some ⟨B, 0, none⟩), .int .i64 i] w fun e w' => e = .returned (.bool true) ∧ Done w w' B lo (putM M i) := by
  refine (put_now M w B lo aS aH aF aL cS cH cF cL i m h0 h1 hr hr1 hm).mono ?_
  rintro e w' ⟨rfl, h⟩
  exact ⟨rfl, h.done⟩


end Go.Proofs.Ytdbilofhcadmoaa.mm
