/- The contracts of base.FromBegin and base.Onward. -/
import Derived.Test.YtdbilofhcadmoabEc12
import Derived.Test.YtdbilofhcadmoabEc15
import Derived.Test.YtdbilofhcadmoabEc13
import Derived.Deep.QuietTactic
import Derived.BigQuiet
import Derived.BigRegion
import Derived.Lib.QuietBelow
namespace Go.Proofs.Ytdbilofhcadmoab.mm
open Go.ChangeShapes Go.WideShapes Go.ChangeAt Go.RowKit Go.Joins Go.Deep Go.Sort
set_option maxRecDepth 100000
set_option linter.unusedVariables false

set_option maxHeartbeats 3200000 in
theorem fromBegin_any (M : Mm) (f : Fr) (b : Nat) (B lo : Nat) (aS aH aF aL : Option Addr) (cS cH cF cL : Nat) (aK : Option Addr) (cK : Nat) (w : World)
    (m : Mine w B lo aS aH aF aL cS cH cF cL M) (hM : Ok M) (hbl : b < M.heads.length) :
    Calls Try.prog 157 #[.pointer (some ⟨B, 0, none⟩), .int .i64 (b : Int), .agg #[.int .i64 f.c.kind, .int .i64 f.c.a, .int .i64 f.c.b, .int .i64 f.c.time, .int .i64 f.c.bk, .int .i64 f.c.slot, .int .i64 f.pl, .int .i64 f.cur, .int .i64 f.prev, .int .i64 f.slot, .int .i64 f.n, .slice aK f.keys.length cK, .bool f.done, .int .i64 f.e]] w fun e w' => e = .returned (.tuple #[.agg #[.int .i64 ({ f with prev := 0, cur := headM M b }).c.kind, .int .i64 ({ f with prev := 0, cur := headM M b }).c.a, .int .i64 ({ f with prev := 0, cur := headM M b }).c.b, .int .i64 ({ f with prev := 0, cur := headM M b }).c.time, .int .i64 ({ f with prev := 0, cur := headM M b }).c.bk, .int .i64 ({ f with prev := 0, cur := headM M b }).c.slot, .int .i64 ({ f with prev := 0, cur := headM M b }).pl, .int .i64 ({ f with prev := 0, cur := headM M b }).cur, .int .i64 ({ f with prev := 0, cur := headM M b }).prev, .int .i64 ({ f with prev := 0, cur := headM M b }).slot, .int .i64 ({ f with prev := 0, cur := headM M b }).n, .slice aK ({ f with prev := 0, cur := headM M b }).keys.length cK, .bool ({ f with prev := 0, cur := headM M b }).done, .int .i64 ({ f with prev := 0, cur := headM M b }).e], .bool true]) ∧ Has w' B lo (Up w (Foot B aS aH aF aL)) M ∧ Fine w w' (Foot B aS aH aF aL) := by
  have hnh := hM.nh.2
  obtain ⟨gH, rfl, oH, lH, -, -⟩ := row_form m.c.h (by omega)
  obtain ⟨x, hx⟩ : ∃ x, x = M.heads[b] := ⟨_, rfl⟩
  have hhd : headM M b = x := by rw [hx]; simp [headM, List.getD_eq_getElem?_getD, hbl]
  rw [hhd]
  have HX : Hid (∀ W, Mine W B lo aS (some ⟨gH, 0, none⟩) aF aL cS cH cF cL M → W.cell? ⟨gH, b, none⟩ = some (.int .i64 x)) := fun W m' => by rw [hx]; exact (row_cell m'.c.h hbl).1
  have HCh : Hid (∀ W : World, Calls Try.prog 75 #[.agg #[.slice aS M.slots.length cS, .slice (some ⟨gH, 0, none⟩) M.heads.length cH, .slice aF M.free.length cF, .slice aL M.locks.length cL, .int .i64 M.now], .int .i64 (b : Int)] W fun e w' => e = .returned (.bool true) ∧ Below W.heap.size W w') := fun W => (show inB (b : Int) 0 ((M.heads.length : Int) - 1) = true from (inB_iff _ _ _).2 (by omega)) ▸ hasChain_any _ _ _ _ _ _ _ _ cS cH cF cL M.now (b : Int) W (by omega)
  obtain ⟨of, hof⟩ : ∃ o : Obj, o = .cells #[.int .i64 f.c.kind, .int .i64 f.c.a, .int .i64 f.c.b, .int .i64 f.c.time, .int .i64 f.c.bk, .int .i64 f.c.slot, .int .i64 f.pl, .int .i64 f.cur, .int .i64 f.prev, .int .i64 f.slot, .int .i64 f.n, .slice aK f.keys.length cK, .bool f.done, .int .i64 f.e] 51 := ⟨_, rfl⟩
  obtain ⟨oz, hoz⟩ : ∃ o : Obj, o = zeroFr := ⟨_, rfl⟩
  have HE : Hid (Lk w ((w.alloc of).alloc oz) B lo aS (some ⟨gH, 0, none⟩) aF aL cS cH cF cL M f aK cK) := Lk.first m f aK cK hof hoz
  obtain ⟨q0, q1, q2, q3, q4, -, -, -, -, -, qs⟩ := boxf m.box
  obtain ⟨f0, f1, f2, f3, f4, f5, f6, f7, f8, f9, f10, f11, f12, f13, ff, fs⟩ := framef HE.out.fb
  unfold zeroFr at hoz
  clear m hM hnh hx hhd oH lH
  go_enter Try.func157, Try.ntmps157
  go_wp2_with fail
  rw [← hof, ← hoz]
  generalize (w.alloc of).alloc oz = W0 at *
  subst hof hoz
  clear q0 q1 q2 q3 q4 qs
  clear f0 f1 f2 f3 f4 f5 f6 f7 f8 f9 f10 f11 f12 f13 ff fs
  refine (HCh.out W0).mono ?_
  rintro e w2 ⟨rfl, hb2⟩
  have HE2 : Hid (Lk w w2 B lo aS (some ⟨gH, 0, none⟩) aF aL cS cH cF cL M f aK cK) := HE.out.below hb2
  clear HE hb2
  obtain ⟨q0, q1, q2, q3, q4, -, -, -, -, -, qs⟩ := boxf HE2.out.m.box
  obtain ⟨f0, f1, f2, f3, f4, f5, f6, f7, f8, f9, f10, f11, f12, f13, ff, fs⟩ := framef HE2.out.fb
  have hc := HX.out w2 HE2.out.m
  have hcl := cell_lt hc
  have hB0 : B < w.heap.size := HE2.out.lt B (.inl rfl)
  have hg0 : gH < w.heap.size := HE2.out.lt gH (.inr (.inr (.inl ⟨_, rfl, rfl⟩)))
  have hBn : B ≠ w.heap.size := by omega
  have hgn : gH ≠ w.heap.size := by omega
  have hBm : w.heap.size ≠ B := by omega
  have hgm : w.heap.size ≠ gH := by omega
  go_wp2_with fail
  rename_i K0 hK0
  apply by_tail (R := fun a => ∀ W2 : World, Lk2 w W2 (Foot B aS (some ⟨gH, 0, none⟩) aF aL) B lo M { f with prev := 0, cur := x } aK cK → K0 a W2)
  · intro tail0
    have tail : Hid _ := tail0
    clear tail0
    go_region
    all_goals exact tail.out _ (((HE2.out.store 8 (.int .i64 0) { f with prev := 0 } rfl).store 7 (.int .i64 x) { f with prev := 0, cur := x } rfl).two.below ⟨rfl, rfl, rfl, Nat.le_refl _, fun _ _ => rfl⟩)
  intro w3 h3
  have HE3 : Hid (Lk2 w w3 (Foot B aS (some ⟨gH, 0, none⟩) aF aL) B lo M { f with prev := 0, cur := x } aK cK) := h3
  refine hK0 _ _ ?_
  clear h3 hK0 HE2 hc hcl hB0 hg0 hBn hgn hBm hgm
  clear f0 f1 f2 f3 f4 f5 f6 f7 f8 f9 f10 f11 f12 f13 ff fs
  obtain ⟨f0, f1, f2, f3, f4, f5, f6, f7, f8, f9, f10, f11, f12, f13, ff, fs⟩ := framef HE3.out.fb
  clear q0 q1 q2 q3 q4 qs
  obtain ⟨g0, g1, g2, g3, g4, g5, g6, g7, g8, g9, g10, g11, g12, g13, gf, gs⟩ := framef HE3.out.zb
  go_wp2
  refine bodyPost_ret (v := .tuple #[.agg #[.int .i64 ({ f with prev := 0, cur := x }).c.kind, .int .i64 ({ f with prev := 0, cur := x }).c.a, .int .i64 ({ f with prev := 0, cur := x }).c.b, .int .i64 ({ f with prev := 0, cur := x }).c.time, .int .i64 ({ f with prev := 0, cur := x }).c.bk, .int .i64 ({ f with prev := 0, cur := x }).c.slot, .int .i64 ({ f with prev := 0, cur := x }).pl, .int .i64 ({ f with prev := 0, cur := x }).cur, .int .i64 ({ f with prev := 0, cur := x }).prev, .int .i64 ({ f with prev := 0, cur := x }).slot, .int .i64 ({ f with prev := 0, cur := x }).n, .slice aK ({ f with prev := 0, cur := x }).keys.length cK, .bool ({ f with prev := 0, cur := x }).done, .int .i64 ({ f with prev := 0, cur := x }).e], .bool true]) (by simp [results, Try.results157, go_sem, g0, g1, g2, g3, g4, g5, g6, g7, g8, g9, g10, g11, g12, g13]) rfl ⟨rfl, HE3.out.end14⟩

set_option maxHeartbeats 3200000 in
theorem onward_yes (M : Mm) (f : Fr) (B lo : Nat) (aS aH aF aL : Option Addr) (cS cH cF cL : Nat) (aK : Option Addr) (cK : Nat) (w : World)
    (m : Mine w B lo aS aH aF aL cS cH cF cL M) (hM : Ok M) (hf : Fit M f) (hat : isAt M f = true) :
    Calls Try.prog 158 #[.pointer (some ⟨B, 0, none⟩), .agg #[.int .i64 f.c.kind, .int .i64 f.c.a, .int .i64 f.c.b, .int .i64 f.c.time, .int .i64 f.c.bk, .int .i64 f.c.slot, .int .i64 f.pl, .int .i64 f.cur, .int .i64 f.prev, .int .i64 f.slot, .int .i64 f.n, .slice aK f.keys.length cK, .bool f.done, .int .i64 f.e]] w fun e w' => e = .returned (.tuple #[.agg #[.int .i64 ({ f with prev := f.cur, cur := (slotAt M (f.cur - 1)).next }).c.kind, .int .i64 ({ f with prev := f.cur, cur := (slotAt M (f.cur - 1)).next }).c.a, .int .i64 ({ f with prev := f.cur, cur := (slotAt M (f.cur - 1)).next }).c.b, .int .i64 ({ f with prev := f.cur, cur := (slotAt M (f.cur - 1)).next }).c.time, .int .i64 ({ f with prev := f.cur, cur := (slotAt M (f.cur - 1)).next }).c.bk, .int .i64 ({ f with prev := f.cur, cur := (slotAt M (f.cur - 1)).next }).c.slot, .int .i64 ({ f with prev := f.cur, cur := (slotAt M (f.cur - 1)).next }).pl, .int .i64 ({ f with prev := f.cur, cur := (slotAt M (f.cur - 1)).next }).cur, .int .i64 ({ f with prev := f.cur, cur := (slotAt M (f.cur - 1)).next }).prev, .int .i64 ({ f with prev := f.cur, cur := (slotAt M (f.cur - 1)).next }).slot, .int .i64 ({ f with prev := f.cur, cur := (slotAt M (f.cur - 1)).next }).n, .slice aK ({ f with prev := f.cur, cur := (slotAt M (f.cur - 1)).next }).keys.length cK, .bool ({ f with prev := f.cur, cur := (slotAt M (f.cur - 1)).next }).done, .int .i64 ({ f with prev := f.cur, cur := (slotAt M (f.cur - 1)).next }).e], .bool true]) ∧ Has w' B lo (Up w (Foot B aS aH aF aL)) M ∧ Fine w w' (Foot B aS aH aF aL) := by
  have hns := hM.ns
  have hcur := hf.cur.2
  have hc1 : f.cur ≤ 1000 := by omega
  have hn1 : M.slots.length ≤ 1000 := by omega
  have h1 := isAt_iff.1 hat
  obtain ⟨j, hj⟩ : ∃ j : Nat, f.cur - 1 = j := ⟨(f.cur - 1).toNat, by omega⟩
  have hjl : j < M.slots.length := by omega
  obtain ⟨gS, rfl, oS, lS, kS, -⟩ := row_form m.c.s (by omega)
  obtain ⟨s, hs⟩ : ∃ s, s = slotAt M (j : Int) := ⟨_, rfl⟩
  have hst : stN f = j := by unfold stN; rw [if_neg (by omega)]; exact hj
  rw [hj, ← hs]
  have HSt : Hid (∀ (W : World), Lk w W B lo (some ⟨gS, 0, none⟩) aH aF aL cS cH cF cL M f aK cK → Calls Try.prog 149 #[.pointer (some ⟨B, 0, none⟩), .agg #[.int .i64 f.c.kind, .int .i64 f.c.a, .int .i64 f.c.b, .int .i64 f.c.time, .int .i64 f.c.bk, .int .i64 f.c.slot, .int .i64 f.pl, .int .i64 f.cur, .int .i64 f.prev, .int .i64 f.slot, .int .i64 f.n, .slice aK f.keys.length cK, .bool f.done, .int .i64 f.e]] W fun e w' => e = .returned (.tuple #[.int .i64 ((j : Int)), .bool true]) ∧ Lk w w' B lo (some ⟨gS, 0, none⟩) aH aF aL cS cH cF cL M f aK cK) := fun W h => by
    have := standsAt_any M f B _ _ _ _ cS cH cF cL aK cK W h.m.box hc1 hn1
    rw [hst, hat] at this
    exact this.mono (fun e w' h' => ⟨h'.1, h.below h'.2⟩)
  have HX : Hid (∀ W, Mine W B lo (some ⟨gS, 0, none⟩) aH aF aL cS cH cF cL M → W.cell? ⟨gS, j * 6 + 1, none⟩ = some (.int .i64 s.a) ∧ W.cell? ⟨gS, j * 6 + 2, none⟩ = some (.int .i64 s.b) ∧ W.cell? ⟨gS, j * 6 + 5, none⟩ = some (.int .i64 s.next)) := fun W m' => ⟨(slotAt_cells m'.c.s hjl hs).2.1, (slotAt_cells m'.c.s hjl hs).2.2.1, (slotAt_cells m'.c.s hjl hs).2.2.2.2.2.1⟩
  obtain ⟨of, hof⟩ : ∃ o : Obj, o = .cells #[.int .i64 f.c.kind, .int .i64 f.c.a, .int .i64 f.c.b, .int .i64 f.c.time, .int .i64 f.c.bk, .int .i64 f.c.slot, .int .i64 f.pl, .int .i64 f.cur, .int .i64 f.prev, .int .i64 f.slot, .int .i64 f.n, .slice aK f.keys.length cK, .bool f.done, .int .i64 f.e] 51 := ⟨_, rfl⟩
  obtain ⟨oz, hoz⟩ : ∃ o : Obj, o = zeroFr := ⟨_, rfl⟩
  have HE : Hid (Lk w ((w.alloc of).alloc oz) B lo (some ⟨gS, 0, none⟩) aH aF aL cS cH cF cL M f aK cK) := Lk.first m f aK cK hof hoz
  obtain ⟨q0, q1, q2, q3, q4, -, -, -, -, -, qs⟩ := boxf HE.out.m.box
  obtain ⟨f0, f1, f2, f3, f4, f5, f6, f7, f8, f9, f10, f11, f12, f13, ff, fs⟩ := framef HE.out.fb
  unfold zeroFr at hoz
  clear m hM hf hns hcur hc1 hn1 hs hst hat h1
  go_enter Try.func158, Try.ntmps158
  go_wp2_with fail
  rw [← hof, ← hoz]
  generalize (w.alloc of).alloc oz = W0 at *
  subst hof hoz
  clear q0 q1 q2 q3 q4 qs
  clear f0 f1 f2 f3 f4 f5 f6 f7 f8 f9 f10 f11 f12 f13 ff fs
  refine (HSt.out _ (by exact HE.out.below ⟨rfl, rfl, rfl, Nat.le_refl _, fun _ _ => rfl⟩)).mono ?_
  rintro e w1 ⟨rfl, h9⟩
  have HE1 : Hid (Lk w w1 B lo (some ⟨gS, 0, none⟩) aH aF aL cS cH cF cL M f aK cK) := h9
  clear HE h9
  obtain ⟨q0, q1, q2, q3, q4, -, -, -, -, -, qs⟩ := boxf HE1.out.m.box
  obtain ⟨f0, f1, f2, f3, f4, f5, f6, f7, f8, f9, f10, f11, f12, f13, ff, fs⟩ := framef HE1.out.fb
  obtain ⟨x1, x2, x5⟩ := HX.out w1 HE1.out.m
  have hB0 : B < w.heap.size := HE1.out.lt B (.inl rfl)
  have hg0 : gS < w.heap.size := HE1.out.lt gS (.inr (.inl ⟨_, rfl, rfl⟩))
  have hBn : B ≠ w.heap.size := by omega
  have hgn : gS ≠ w.heap.size := by omega
  have hBm : w.heap.size ≠ B := by omega
  have hgm : w.heap.size ≠ gS := by omega
  go_wp2_with fail
  rename_i K0 hK0
  apply by_tail (R := fun a => ∀ W2 : World, Lk2 w W2 (Foot B (some ⟨gS, 0, none⟩) aH aF aL) B lo M { f with prev := f.cur, cur := s.next } aK cK → K0 a W2)
  · intro tail0
    have tail : Hid _ := tail0
    clear tail0
    go_region
    all_goals exact tail.out _ (((HE1.out.store 8 (.int .i64 f.cur) { f with prev := f.cur } rfl).store 7 (.int .i64 s.next) { f with prev := f.cur, cur := s.next } rfl).two.below ⟨rfl, rfl, rfl, Nat.le_refl _, fun _ _ => rfl⟩)
  intro w3 h3
  have HE2 : Hid (Lk2 w w3 (Foot B (some ⟨gS, 0, none⟩) aH aF aL) B lo M { f with prev := f.cur, cur := s.next } aK cK) := h3
  refine hK0 _ _ ?_
  clear h3 hK0 HE1 x1 x2 x5 hB0 hg0 hBn hgn hBm hgm
  clear f0 f1 f2 f3 f4 f5 f6 f7 f8 f9 f10 f11 f12 f13 ff fs
  obtain ⟨f0, f1, f2, f3, f4, f5, f6, f7, f8, f9, f10, f11, f12, f13, ff, fs⟩ := framef HE2.out.fb
  clear q0 q1 q2 q3 q4 qs
  obtain ⟨g0, g1, g2, g3, g4, g5, g6, g7, g8, g9, g10, g11, g12, g13, gf, gs⟩ := framef HE2.out.zb
  go_wp2
  refine bodyPost_ret (v := .tuple #[.agg #[.int .i64 ({ f with prev := f.cur, cur := s.next }).c.kind, .int .i64 ({ f with prev := f.cur, cur := s.next }).c.a, .int .i64 ({ f with prev := f.cur, cur := s.next }).c.b, .int .i64 ({ f with prev := f.cur, cur := s.next }).c.time, .int .i64 ({ f with prev := f.cur, cur := s.next }).c.bk, .int .i64 ({ f with prev := f.cur, cur := s.next }).c.slot, .int .i64 ({ f with prev := f.cur, cur := s.next }).pl, .int .i64 ({ f with prev := f.cur, cur := s.next }).cur, .int .i64 ({ f with prev := f.cur, cur := s.next }).prev, .int .i64 ({ f with prev := f.cur, cur := s.next }).slot, .int .i64 ({ f with prev := f.cur, cur := s.next }).n, .slice aK ({ f with prev := f.cur, cur := s.next }).keys.length cK, .bool ({ f with prev := f.cur, cur := s.next }).done, .int .i64 ({ f with prev := f.cur, cur := s.next }).e], .bool true]) (by simp [results, Try.results158, go_sem, g0, g1, g2, g3, g4, g5, g6, g7, g8, g9, g10, g11, g12, g13]) rfl ⟨rfl, HE2.out.end14⟩

set_option maxHeartbeats 3200000 in
theorem onward_no (M : Mm) (f : Fr) (B lo : Nat) (aS aH aF aL : Option Addr) (cS cH cF cL : Nat) (aK : Option Addr) (cK : Nat) (w : World)
    (m : Mine w B lo aS aH aF aL cS cH cF cL M) (hM : Ok M) (hf : Fit M f) (hat0 : isAt M f = false) :
    Calls Try.prog 158 #[.pointer (some ⟨B, 0, none⟩), .agg #[.int .i64 f.c.kind, .int .i64 f.c.a, .int .i64 f.c.b, .int .i64 f.c.time, .int .i64 f.c.bk, .int .i64 f.c.slot, .int .i64 f.pl, .int .i64 f.cur, .int .i64 f.prev, .int .i64 f.slot, .int .i64 f.n, .slice aK f.keys.length cK, .bool f.done, .int .i64 f.e]] w fun e w' => e = .returned (.tuple #[.agg #[.int .i64 f.c.kind, .int .i64 f.c.a, .int .i64 f.c.b, .int .i64 f.c.time, .int .i64 f.c.bk, .int .i64 f.c.slot, .int .i64 f.pl, .int .i64 f.cur, .int .i64 f.prev, .int .i64 f.slot, .int .i64 f.n, .slice aK f.keys.length cK, .bool f.done, .int .i64 f.e], .bool false]) ∧ Has w' B lo (Up w (Foot B aS aH aF aL)) M ∧ Fine w w' (Foot B aS aH aF aL) := by
  have hns := hM.ns
  have hcur := hf.cur.2
  have hc1 : f.cur ≤ 1000 := by omega
  have hn1 : M.slots.length ≤ 1000 := by omega
  have HSt : Hid (∀ (W : World), Lk w W B lo aS aH aF aL cS cH cF cL M f aK cK → Calls Try.prog 149 #[.pointer (some ⟨B, 0, none⟩), .agg #[.int .i64 f.c.kind, .int .i64 f.c.a, .int .i64 f.c.b, .int .i64 f.c.time, .int .i64 f.c.bk, .int .i64 f.c.slot, .int .i64 f.pl, .int .i64 f.cur, .int .i64 f.prev, .int .i64 f.slot, .int .i64 f.n, .slice aK f.keys.length cK, .bool f.done, .int .i64 f.e]] W fun e w' => e = .returned (.tuple #[.int .i64 (stN f), .bool false]) ∧ Lk w w' B lo aS aH aF aL cS cH cF cL M f aK cK) := fun W h => by
    have := standsAt_any M f B _ _ _ _ cS cH cF cL aK cK W h.m.box hc1 hn1
    rw [hat0] at this
    exact this.mono (fun e w' h' => ⟨h'.1, h.below h'.2⟩)
  obtain ⟨of, hof⟩ : ∃ o : Obj, o = .cells #[.int .i64 f.c.kind, .int .i64 f.c.a, .int .i64 f.c.b, .int .i64 f.c.time, .int .i64 f.c.bk, .int .i64 f.c.slot, .int .i64 f.pl, .int .i64 f.cur, .int .i64 f.prev, .int .i64 f.slot, .int .i64 f.n, .slice aK f.keys.length cK, .bool f.done, .int .i64 f.e] 51 := ⟨_, rfl⟩
  obtain ⟨oz, hoz⟩ : ∃ o : Obj, o = zeroFr := ⟨_, rfl⟩
  have HE : Hid (Lk w ((w.alloc of).alloc oz) B lo aS aH aF aL cS cH cF cL M f aK cK) := Lk.first m f aK cK hof hoz
  obtain ⟨q0, q1, q2, q3, q4, -, -, -, -, -, qs⟩ := boxf HE.out.m.box
  obtain ⟨f0, f1, f2, f3, f4, f5, f6, f7, f8, f9, f10, f11, f12, f13, ff, fs⟩ := framef HE.out.fb
  unfold zeroFr at hoz
  clear m hM hf hns hcur hc1 hn1 hat0
  go_enter Try.func158, Try.ntmps158
  go_wp2_with fail
  rw [← hof, ← hoz]
  generalize (w.alloc of).alloc oz = W0 at *
  subst hof hoz
  clear q0 q1 q2 q3 q4 qs
  clear f0 f1 f2 f3 f4 f5 f6 f7 f8 f9 f10 f11 f12 f13 ff fs
  refine (HSt.out _ (by exact HE.out.below ⟨rfl, rfl, rfl, Nat.le_refl _, fun _ _ => rfl⟩)).mono ?_
  rintro e w1 ⟨rfl, h9⟩
  have HE1 : Hid (Lk w w1 B lo aS aH aF aL cS cH cF cL M f aK cK) := h9
  clear HE h9
  obtain ⟨f0, f1, f2, f3, f4, f5, f6, f7, f8, f9, f10, f11, f12, f13, ff, fs⟩ := framef HE1.out.fb
  obtain ⟨g0, g1, g2, g3, g4, g5, g6, g7, g8, g9, g10, g11, g12, g13, gf, gs⟩ := framef HE1.out.zb
  go_wp2
  refine bodyPost_ret (v := .tuple #[.agg #[.int .i64 f.c.kind, .int .i64 f.c.a, .int .i64 f.c.b, .int .i64 f.c.time, .int .i64 f.c.bk, .int .i64 f.c.slot, .int .i64 f.pl, .int .i64 f.cur, .int .i64 f.prev, .int .i64 f.slot, .int .i64 f.n, .slice aK f.keys.length cK, .bool f.done, .int .i64 f.e], .bool false]) (by simp [results, Try.results158, go_sem, g0, g1, g2, g3, g4, g5, g6, g7, g8, g9, g10, g11, g12, g13]) rfl ⟨rfl, HE1.out.end14⟩
end Go.Proofs.Ytdbilofhcadmoab.mm
