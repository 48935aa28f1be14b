/- The contracts of look's parts that change nothing: pass. -/
import Derived.Test.YtjgcbbakgklniabC09
namespace Go.Proofs.Ytjgcbbakgklniab.mm
open Go.ChangeShapes Go.WideShapes Go.ChangeAt Go.RowKit Go.Joins
set_option maxRecDepth 100000
set_option linter.unusedVariables false

theorem slotAt_cells {w : World} {lo gS n cap : Nat} {M : Mm} (h : w.ownsRow lo 39 6 (.slice (some ⟨gS, 0, none⟩) n cap) n (encS M.slots)) {j : Nat} (hj : j < M.slots.length) {s : Sl} (hs : s = slotAt M j) :
    w.cell? ⟨gS, j * 6, none⟩ = some (.int .i64 s.refs) ∧ w.cell? ⟨gS, j * 6 + 1, none⟩ = some (.int .i64 s.a) ∧ w.cell? ⟨gS, j * 6 + 2, none⟩ = some (.int .i64 s.b) ∧
    w.cell? ⟨gS, j * 6 + 3, none⟩ = some (.int .i64 s.unt) ∧ w.cell? ⟨gS, j * 6 + 4, none⟩ = some (.bool s.inn) ∧ w.cell? ⟨gS, j * 6 + 5, none⟩ = some (.int .i64 s.next) ∧ ∀ q, w.frozen? ⟨gS, q, none⟩ = false := by
  have e : s = M.slots[j] := by rw [hs]; simp [slotAt, List.getD_eq_getElem?_getD, hj]
  rw [e]
  exact row_cells h hj

set_option maxHeartbeats 1600000 in
theorem pass_any (M : Mm) (f : Fr) (B lo : Nat) (aS aH aF aL : Option Addr) (cS cH cF cL : Nat) (aK : Option Addr) (cK : Nat) (w : World)
    (m : Mine w B lo aS aH aF aL cS cH cF cL M) (hM : Ok M) (hf : Fit M f) :
    Calls Try.prog 92 #[.pointer (some ⟨B, 0, none⟩), .agg #[.int .i64 f.c.kind, .int .i64 f.c.a, .int .i64 f.c.b, .int .i64 f.c.time, .int .i64 f.c.bk, .int .i64 f.c.slot, .int .i64 f.pl, .int .i64 f.cur, .int .i64 f.prev, .int .i64 f.slot, .int .i64 f.n, .slice aK f.keys.length cK, .bool f.done, .int .i64 f.e]] w fun e w' => e = .returned (.agg #[.int .i64 (lkPass M f).c.kind, .int .i64 (lkPass M f).c.a, .int .i64 (lkPass M f).c.b, .int .i64 (lkPass M f).c.time, .int .i64 (lkPass M f).c.bk, .int .i64 (lkPass M f).c.slot, .int .i64 (lkPass M f).pl, .int .i64 (lkPass M f).cur, .int .i64 (lkPass M f).prev, .int .i64 (lkPass M f).slot, .int .i64 (lkPass M f).n, .slice aK (lkPass M f).keys.length cK, .bool (lkPass M f).done, .int .i64 (lkPass M f).e]) ∧ Below w.heap.size w w' := by
  have hns := hM.ns
  have hcur := hf.cur.2
  have hc1 : f.cur ≤ 1000 := by omega
  have hn1 : M.slots.length ≤ 1000 := by omega
  by_cases hat : isAt M f = true
  · have h1 := isAt_iff.1 hat
    obtain ⟨j, hj⟩ : ∃ j : Nat, f.cur - 1 = j := ⟨(f.cur - 1).toNat, by omega⟩
    have hjl : j < M.slots.length := by omega
    obtain ⟨gS, rfl, oS, lS, kS, -⟩ := row_form m.c.s (by omega)
    obtain ⟨s, hs⟩ : ∃ s, s = slotAt M (j : Int) := ⟨_, rfl⟩
    have hst : stN f = j := by unfold stN; rw [if_neg (by omega)]; exact hj
    have hres : lkPass M f = curF f s.next 1 := by unfold lkPass; rw [if_pos hat, hj, ← hs]
    rw [hres]
    have HSt : Hid (∀ (W : World), Mine W B lo (some ⟨gS, 0, none⟩) aH aF aL cS cH cF cL M → Calls Try.prog 149 #[.pointer (some ⟨B, 0, none⟩), .agg #[.int .i64 f.c.kind, .int .i64 f.c.a, .int .i64 f.c.b, .int .i64 f.c.time, .int .i64 f.c.bk, .int .i64 f.c.slot, .int .i64 f.pl, .int .i64 f.cur, .int .i64 f.prev, .int .i64 f.slot, .int .i64 f.n, .slice aK f.keys.length cK, .bool f.done, .int .i64 f.e]] W fun e w' => e = .returned (.tuple #[.int .i64 (j : Int), .bool true]) ∧ Below W.heap.size W w') := fun W m' => by
      have := standsAt_any M f B _ aH aF aL cS cH cF cL aK cK W m'.box hc1 hn1
      rwa [hst, hat] at this
    have HX : Hid (∀ W, Mine W B lo (some ⟨gS, 0, none⟩) aH aF aL cS cH cF cL M → W.cell? ⟨gS, j * 6 + 5, none⟩ = some (.int .i64 s.next)) := fun W m' => (slotAt_cells m'.c.s hjl hs).2.2.2.2.2.1
    obtain ⟨of, hof⟩ : ∃ o : Obj, o = .cells #[.int .i64 f.c.kind, .int .i64 f.c.a, .int .i64 f.c.b, .int .i64 f.c.time, .int .i64 f.c.bk, .int .i64 f.c.slot, .int .i64 f.pl, .int .i64 f.cur, .int .i64 f.prev, .int .i64 f.slot, .int .i64 f.n, .slice aK f.keys.length cK, .bool f.done, .int .i64 f.e] 51 := ⟨_, rfl⟩
    obtain ⟨oz, hoz⟩ : ∃ o : Obj, o = zeroFr := ⟨_, rfl⟩
    have HE : Hid (Lk w ((w.alloc of).alloc oz) B lo (some ⟨gS, 0, none⟩) aH aF aL cS cH cF cL M f aK cK) := Lk.first m f aK cK hof hoz
    obtain ⟨q0, q1, q2, q3, q4, -, -, -, -, -, qs⟩ := boxf HE.out.m.box
    obtain ⟨f0, f1, f2, f3, f4, f5, f6, f7, f8, f9, f10, f11, f12, f13, ff, fs⟩ := framef HE.out.fb
    unfold zeroFr at hoz
    clear m hres hs hst hat h1 hc1 hn1 hcur hns hM hf
    go_enter Try.func92, Try.ntmps92
    go_wp2_with fail
    rw [← hof, ← hoz]
    generalize (w.alloc of).alloc oz = W0 at *
    subst hof hoz
    refine (HSt.out W0 HE.out.m).mono ?_
    rintro e w1 ⟨rfl, hb1⟩
    have HE1 : Hid (Lk w w1 B lo (some ⟨gS, 0, none⟩) aH aF aL cS cH cF cL M f aK cK) := HE.out.below hb1
    clear HE hb1
    clear q0 q1 q2 q3 q4 qs f0 f1 f2 f3 f4 f5 f6 f7 f8 f9 f10 f11 f12 f13 ff fs
    obtain ⟨q0, q1, q2, q3, q4, -, -, -, -, -, qs⟩ := boxf HE1.out.m.box
    obtain ⟨f0, f1, f2, f3, f4, f5, f6, f7, f8, f9, f10, f11, f12, f13, ff, fs⟩ := framef HE1.out.fb
    have hx := HX.out w1 HE1.out.m
    go_wp2_with fail
    have HE2 : Hid (Lk w _ B lo (some ⟨gS, 0, none⟩) aH aF aL cS cH cF cL M { f with cur := s.next } aK cK) := HE1.out.store 7 (.int .i64 s.next) { f with cur := s.next } rfl
    clear HE1 hx
    refine (to_any { f with cur := s.next } 1 aK cK _).mono ?_
    rintro e w9 ⟨rfl, hb9⟩
    have HE9 : Hid (Lk w w9 B lo (some ⟨gS, 0, none⟩) aH aF aL cS cH cF cL M { f with cur := s.next } aK cK) := HE2.out.below hb9
    clear HE2 hb9
    clear q0 q1 q2 q3 q4 qs f0 f1 f2 f3 f4 f5 f6 f7 f8 f9 f10 f11 f12 f13 ff fs
    obtain ⟨g0, g1, g2, g3, g4, g5, g6, g7, g8, g9, g10, g11, g12, g13, gf, gs⟩ := framef HE9.out.zb
    go_wp2
    refine bodyPost_ret (v := .agg #[.int .i64 (curF f s.next 1).c.kind, .int .i64 (curF f s.next 1).c.a, .int .i64 (curF f s.next 1).c.b, .int .i64 (curF f s.next 1).c.time, .int .i64 (curF f s.next 1).c.bk, .int .i64 (curF f s.next 1).c.slot, .int .i64 (curF f s.next 1).pl, .int .i64 (curF f s.next 1).cur, .int .i64 (curF f s.next 1).prev, .int .i64 (curF f s.next 1).slot, .int .i64 (curF f s.next 1).n, .slice aK (curF f s.next 1).keys.length cK, .bool (curF f s.next 1).done, .int .i64 (curF f s.next 1).e]) (by simp [results, Try.results92, go_sem, curF, toF, g0, g1, g2, g3, g4, g5, g6, g7, g8, g9, g10, g11, g12, g13]) rfl ⟨rfl, ?_⟩
    refine set14 ?_
    exact HE9.out.bl
  · have hat0 : isAt M f = false := by simpa using hat
    have hres : lkPass M f = toF f 0 := by unfold lkPass; rw [if_neg hat]
    rw [hres]
    have HSt : Hid (∀ (W : World), Mine W B lo aS aH aF aL cS cH cF cL M → Calls Try.prog 149 #[.pointer (some ⟨B, 0, none⟩), .agg #[.int .i64 f.c.kind, .int .i64 f.c.a, .int .i64 f.c.b, .int .i64 f.c.time, .int .i64 f.c.bk, .int .i64 f.c.slot, .int .i64 f.pl, .int .i64 f.cur, .int .i64 f.prev, .int .i64 f.slot, .int .i64 f.n, .slice aK f.keys.length cK, .bool f.done, .int .i64 f.e]] W fun e w' => e = .returned (.tuple #[.int .i64 (stN f), .bool false]) ∧ Below W.heap.size W w') := fun W m' => by
      have := standsAt_any M f B _ aH aF aL cS cH cF cL aK cK W m'.box hc1 hn1
      rwa [hat0] at this
    obtain ⟨of, hof⟩ : ∃ o : Obj, o = .cells #[.int .i64 f.c.kind, .int .i64 f.c.a, .int .i64 f.c.b, .int .i64 f.c.time, .int .i64 f.c.bk, .int .i64 f.c.slot, .int .i64 f.pl, .int .i64 f.cur, .int .i64 f.prev, .int .i64 f.slot, .int .i64 f.n, .slice aK f.keys.length cK, .bool f.done, .int .i64 f.e] 51 := ⟨_, rfl⟩
    obtain ⟨oz, hoz⟩ : ∃ o : Obj, o = zeroFr := ⟨_, rfl⟩
    have HE : Hid (Lk w ((w.alloc of).alloc oz) B lo aS aH aF aL cS cH cF cL M f aK cK) := Lk.first m f aK cK hof hoz
    obtain ⟨q0, q1, q2, q3, q4, -, -, -, -, -, qs⟩ := boxf HE.out.m.box
    obtain ⟨f0, f1, f2, f3, f4, f5, f6, f7, f8, f9, f10, f11, f12, f13, ff, fs⟩ := framef HE.out.fb
    unfold zeroFr at hoz
    clear m hres hat hat0 hc1 hn1 hcur hns hM hf
    go_enter Try.func92, Try.ntmps92
    go_wp2_with fail
    rw [← hof, ← hoz]
    generalize (w.alloc of).alloc oz = W0 at *
    subst hof hoz
    refine (HSt.out W0 HE.out.m).mono ?_
    rintro e w1 ⟨rfl, hb1⟩
    have HE1 : Hid (Lk w w1 B lo aS aH aF aL cS cH cF cL M f aK cK) := HE.out.below hb1
    clear HE hb1
    clear q0 q1 q2 q3 q4 qs f0 f1 f2 f3 f4 f5 f6 f7 f8 f9 f10 f11 f12 f13 ff fs
    obtain ⟨q0, q1, q2, q3, q4, -, -, -, -, -, qs⟩ := boxf HE1.out.m.box
    obtain ⟨f0, f1, f2, f3, f4, f5, f6, f7, f8, f9, f10, f11, f12, f13, ff, fs⟩ := framef HE1.out.fb
    go_wp2_with fail
    refine (to_any f 0 aK cK _).mono ?_
    rintro e w9 ⟨rfl, hb9⟩
    have HE9 : Hid (Lk w w9 B lo aS aH aF aL cS cH cF cL M f aK cK) := HE1.out.below hb9
    clear HE1 hb9
    clear q0 q1 q2 q3 q4 qs f0 f1 f2 f3 f4 f5 f6 f7 f8 f9 f10 f11 f12 f13 ff fs
    obtain ⟨g0, g1, g2, g3, g4, g5, g6, g7, g8, g9, g10, g11, g12, g13, gf, gs⟩ := framef HE9.out.zb
    go_wp2
    refine bodyPost_ret (v := .agg #[.int .i64 (toF f 0).c.kind, .int .i64 (toF f 0).c.a, .int .i64 (toF f 0).c.b, .int .i64 (toF f 0).c.time, .int .i64 (toF f 0).c.bk, .int .i64 (toF f 0).c.slot, .int .i64 (toF f 0).pl, .int .i64 (toF f 0).cur, .int .i64 (toF f 0).prev, .int .i64 (toF f 0).slot, .int .i64 (toF f 0).n, .slice aK (toF f 0).keys.length cK, .bool (toF f 0).done, .int .i64 (toF f 0).e]) (by simp [results, Try.results92, go_sem, toF, g0, g1, g2, g3, g4, g5, g6, g7, g8, g9, g10, g11, g12, g13]) rfl ⟨rfl, ?_⟩
    refine set14 ?_
    exact HE9.out.bl


end Go.Proofs.Ytjgcbbakgklniab.mm
