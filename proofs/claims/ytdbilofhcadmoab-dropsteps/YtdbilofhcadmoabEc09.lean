/- The contracts of look's parts that change nothing: begin, pass, see, prove. -/
import Derived.Test.YtdbilofhcadmoabEc08
namespace Go.Proofs.Ytdbilofhcadmoab.mm
open Go.ChangeShapes Go.WideShapes Go.ChangeAt Go.RowKit Go.Joins
set_option maxRecDepth 100000
set_option linter.unusedVariables false

def zeroFr : Obj := .cells #[.int .i64 0, .int .i64 0, .int .i64 0, .int .i64 0, .int .i64 0, .int .i64 0, .int .i64 0, .int .i64 0, .int .i64 0, .int .i64 0, .int .i64 0, .slice none 0 0, .bool false, .int .i64 0] 51

/- What a part of a Look carries: the memory, and its frame in a box that is the call's own; a second box for the answer. -/
structure Lk (w w1 : World) (B lo : Nat) (aS aH aF aL : Option Addr) (cS cH cF cL : Nat) (M : Mm) (f : Fr) (aK : Option Addr) (cK : Nat) : Prop where
  bl : Below w.heap.size w w1
  m : Mine w1 B lo aS aH aF aL cS cH cF cL M
  lt : ∀ k, Foot B aS aH aF aL k → k < w.heap.size
  fb : w1.heap[w.heap.size]? = some (.cells #[.int .i64 f.c.kind, .int .i64 f.c.a, .int .i64 f.c.b, .int .i64 f.c.time, .int .i64 f.c.bk, .int .i64 f.c.slot, .int .i64 f.pl, .int .i64 f.cur, .int .i64 f.prev, .int .i64 f.slot, .int .i64 f.n, .slice aK f.keys.length cK, .bool f.done, .int .i64 f.e] 51 (0, 0))
  zb : w1.heap[w.heap.size + 1]? = some zeroFr

theorem foot_lt {w : World} {B lo : Nat} {aS aH aF aL : Option Addr} {cS cH cF cL : Nat} {M : Mm} (m : Mine w B lo aS aH aF aL cS cH cF cL M) : ∀ k, Foot B aS aH aF aL k → k < w.heap.size := by
  rintro k (rfl | ⟨ad, rfl, rfl⟩ | ⟨ad, rfl, rfl⟩ | ⟨ad, rfl, rfl⟩ | ⟨ad, rfl, rfl⟩)
  · exact lt_of_block m.box
  · exact (m.c.s.lt _ rfl).2
  · exact (m.c.h.lt _ rfl).2
  · exact (m.c.f.lt _ rfl).2
  · exact (m.c.l.lt _ rfl).2

section
variable {w w1 w2 : World} {B lo : Nat} {aS aH aF aL : Option Addr} {cS cH cF cL : Nat} {M : Mm} {f : Fr} {aK : Option Addr} {cK : Nat}
theorem Lk.below (h : Lk w w1 B lo aS aH aF aL cS cH cF cL M f aK cK) (hb : Below w1.heap.size w1 w2) : Lk w w2 B lo aS aH aF aL cS cH cF cL M f aK cK :=
  ⟨h.bl.trans (hb.mono h.bl.size), h.m.below hb, h.lt, (hb.block _ (lt_of_block h.fb)).trans h.fb, (hb.block _ (lt_of_block h.zb)).trans h.zb⟩
theorem Lk.first (m : Mine w B lo aS aH aF aL cS cH cF cL M) (f : Fr) (aK : Option Addr) (cK : Nat) {o oz : Obj} (ho : o = .cells #[.int .i64 f.c.kind, .int .i64 f.c.a, .int .i64 f.c.b, .int .i64 f.c.time, .int .i64 f.c.bk, .int .i64 f.c.slot, .int .i64 f.pl, .int .i64 f.cur, .int .i64 f.prev, .int .i64 f.slot, .int .i64 f.n, .slice aK f.keys.length cK, .bool f.done, .int .i64 f.e] 51) (hz : oz = zeroFr) : Lk w ((w.alloc o).alloc oz) B lo aS aH aF aL cS cH cF cL M f aK cK := by
  subst ho hz
  have h2 := below_alloc2 w (.cells #[.int .i64 f.c.kind, .int .i64 f.c.a, .int .i64 f.c.b, .int .i64 f.c.time, .int .i64 f.c.bk, .int .i64 f.c.slot, .int .i64 f.pl, .int .i64 f.cur, .int .i64 f.prev, .int .i64 f.slot, .int .i64 f.n, .slice aK f.keys.length cK, .bool f.done, .int .i64 f.e] 51) zeroFr
  refine ⟨h2, m.below h2, foot_lt m, ?_, ?_⟩
  · rw [Below.heap_alloc _ _ _ (by simp)]; exact heap_alloc_new w _
  · have := heap_alloc_new (w.alloc (.cells #[.int .i64 f.c.kind, .int .i64 f.c.a, .int .i64 f.c.b, .int .i64 f.c.time, .int .i64 f.c.bk, .int .i64 f.c.slot, .int .i64 f.pl, .int .i64 f.cur, .int .i64 f.prev, .int .i64 f.slot, .int .i64 f.n, .slice aK f.keys.length cK, .bool f.done, .int .i64 f.e] 51)) zeroFr
    simpa using this
theorem Lk.store (h : Lk w w1 B lo aS aH aF aL cS cH cF cL M f aK cK) (j : Nat) (v : Value) (g : Fr) (hg : (#[.int .i64 f.c.kind, .int .i64 f.c.a, .int .i64 f.c.b, .int .i64 f.c.time, .int .i64 f.c.bk, .int .i64 f.c.slot, .int .i64 f.pl, .int .i64 f.cur, .int .i64 f.prev, .int .i64 f.slot, .int .i64 f.n, .slice aK f.keys.length cK, .bool f.done, .int .i64 f.e] : Array Value).setIfInBounds j v = #[.int .i64 g.c.kind, .int .i64 g.c.a, .int .i64 g.c.b, .int .i64 g.c.time, .int .i64 g.c.bk, .int .i64 g.c.slot, .int .i64 g.pl, .int .i64 g.cur, .int .i64 g.prev, .int .i64 g.slot, .int .i64 g.n, .slice aK g.keys.length cK, .bool g.done, .int .i64 g.e]) :
    Lk w (w1.setCell ⟨w.heap.size, j, none⟩ v) B lo aS aH aF aL cS cH cF cL M g aK cK := by
  refine ⟨h.bl.setCell (by simp) _, h.m.same (by simp) (fun k _ hk => ?_), h.lt, ?_, by rw [Below.heap_setCell _ _ _ _ (by dsimp only; omega)]; exact h.zb⟩
  · have := h.lt k hk
    rw [Below.heap_setCell _ _ _ _ (by dsimp only; omega)]
  · rw [block_setCell h.fb v, hg]
end

theorem set14 {w w1 : World} {n : Nat} {v0 v1 v2 v3 v4 v5 v6 v7 v8 v9 v10 v11 v12 v13 : Value} (h : Below n w w1) : Below n w ((((((((((((((w1.setCell ⟨n + 1, 0, none⟩ v0).setCell ⟨n + 1, 1, none⟩ v1).setCell ⟨n + 1, 2, none⟩ v2).setCell ⟨n + 1, 3, none⟩ v3).setCell ⟨n + 1, 4, none⟩ v4).setCell ⟨n + 1, 5, none⟩ v5).setCell ⟨n + 1, 6, none⟩ v6).setCell ⟨n + 1, 7, none⟩ v7).setCell ⟨n + 1, 8, none⟩ v8).setCell ⟨n + 1, 9, none⟩ v9).setCell ⟨n + 1, 10, none⟩ v10).setCell ⟨n + 1, 11, none⟩ v11).setCell ⟨n + 1, 12, none⟩ v12).setCell ⟨n + 1, 13, none⟩ v13) := by
  iterate 14 (refine Below.setCell ?_ (by dsimp only; omega) _)
  exact h

set_option maxHeartbeats 1600000 in
theorem begin_any (M : Mm) (f : Fr) (B lo : Nat) (aS aH aF aL : Option Addr) (cS cH cF cL : Nat) (aK : Option Addr) (cK : Nat) (w : World)
    (m : Mine w B lo aS aH aF aL cS cH cF cL M) (hM : Ok M) (hf : Fit M f) :
    Calls Try.prog 90 #[.pointer (some ⟨B, 0, none⟩), .agg #[.int .i64 f.c.kind, .int .i64 f.c.a, .int .i64 f.c.b, .int .i64 f.c.time, .int .i64 f.c.bk, .int .i64 f.c.slot, .int .i64 f.pl, .int .i64 f.cur, .int .i64 f.prev, .int .i64 f.slot, .int .i64 f.n, .slice aK f.keys.length cK, .bool f.done, .int .i64 f.e]] w fun e w' => e = .returned (.agg #[.int .i64 (lkBegin M f).c.kind, .int .i64 (lkBegin M f).c.a, .int .i64 (lkBegin M f).c.b, .int .i64 (lkBegin M f).c.time, .int .i64 (lkBegin M f).c.bk, .int .i64 (lkBegin M f).c.slot, .int .i64 (lkBegin M f).pl, .int .i64 (lkBegin M f).cur, .int .i64 (lkBegin M f).prev, .int .i64 (lkBegin M f).slot, .int .i64 (lkBegin M f).n, .slice aK (lkBegin M f).keys.length cK, .bool (lkBegin M f).done, .int .i64 (lkBegin M f).e]) ∧ Below w.heap.size w w' := by
  obtain ⟨b0, b1⟩ := bkOf_in hM hf.call
  obtain ⟨b, hb⟩ : ∃ b : Nat, bkOf M.heads.length f.c = b := ⟨_, (Int.toNat_of_nonneg b0).symm⟩
  have hbl : b < M.heads.length := by omega
  have hnh := hM.nh.2
  obtain ⟨gH, rfl, oH, lH, -, -⟩ := row_form m.c.h (by omega)
  obtain ⟨x, hx⟩ : ∃ x, x = M.heads[b] := ⟨_, rfl⟩
  have hhd : headM M (bkOf M.heads.length f.c).toNat = x := by rw [hb, hx]; simp [headM, List.getD_eq_getElem?_getD, hbl]
  have hres : lkBegin M f = curF f x 1 := by unfold lkBegin; rw [hhd]
  rw [hres]
  have HX : Hid (∀ W, Mine W B lo aS (some ⟨gH, 0, none⟩) aF aL cS cH cF cL M → W.cell? ⟨gH, b, none⟩ = some (.int .i64 x)) := fun W m' => by rw [hx]; exact (row_cell m'.c.h hbl).1
  have HBk : Hid (∀ W : World, Calls Try.prog 31 #[.agg #[.slice aS M.slots.length cS, .slice (some ⟨gH, 0, none⟩) M.heads.length cH, .slice aF M.free.length cF, .slice aL M.locks.length cL, .int .i64 M.now], .agg #[.int .i64 f.c.kind, .int .i64 f.c.a, .int .i64 f.c.b, .int .i64 f.c.time, .int .i64 f.c.bk, .int .i64 f.c.slot]] W fun e w' => e = .returned (.int .i64 (b : Int)) ∧ Below W.heap.size W w') := fun W => hb ▸ frBucket_any aS _ aF aL _ _ _ _ cS cH cF cL M.now f.c W (by omega)
  have HCh : Hid (∀ W : World, Calls Try.prog 75 #[.agg #[.slice aS M.slots.length cS, .slice (some ⟨gH, 0, none⟩) M.heads.length cH, .slice aF M.free.length cF, .slice aL M.locks.length cL, .int .i64 M.now], .int .i64 (b : Int)] W fun e w' => e = .returned (.bool true) ∧ Below W.heap.size W w') := fun W => (show inB (b : Int) 0 ((M.heads.length : Int) - 1) = true from (inB_iff _ _ _).2 (by omega)) ▸ hasChain_any aS _ aF aL _ _ _ _ cS cH cF cL M.now (b : Int) W (by omega)
  obtain ⟨of, hof⟩ : ∃ o : Obj, o = .cells #[.int .i64 f.c.kind, .int .i64 f.c.a, .int .i64 f.c.b, .int .i64 f.c.time, .int .i64 f.c.bk, .int .i64 f.c.slot, .int .i64 f.pl, .int .i64 f.cur, .int .i64 f.prev, .int .i64 f.slot, .int .i64 f.n, .slice aK f.keys.length cK, .bool f.done, .int .i64 f.e] 51 := ⟨_, rfl⟩
  obtain ⟨oz, hoz⟩ : ∃ o : Obj, o = zeroFr := ⟨_, rfl⟩
  have HE : Hid (Lk w ((w.alloc of).alloc oz) B lo aS (some ⟨gH, 0, none⟩) aF aL cS cH cF cL M f aK cK) := Lk.first m f aK cK hof hoz
  obtain ⟨q0, q1, q2, q3, q4, -, -, -, -, -, qs⟩ := boxf HE.out.m.box
  obtain ⟨f0, f1, f2, f3, f4, f5, f6, f7, f8, f9, f10, f11, f12, f13, ff, fs⟩ := framef HE.out.fb
  unfold zeroFr at hoz
  clear hx hhd hres hb b0 b1 hM hf m oH lH
  go_enter Try.func90, Try.ntmps90
  go_wp2_with fail
  rw [← hof, ← hoz]
  generalize (w.alloc of).alloc oz = W0 at *
  subst hof hoz
  go_region_with (go_at_call 31; refine (HBk.out _).mono ?_; rintro e w1 ⟨rfl, hb1⟩; have HB1 : Hid (Below W0.heap.size W0 w1) := ⟨hb1.os, hb1.tape, hb1.output, hb1.size, hb1.block⟩; clear hb1)
  all_goals
    have HE1 : Hid (Lk w w1 B lo aS (some ⟨gH, 0, none⟩) aF aL cS cH cF cL M f aK cK) := HE.out.below HB1.out
    clear HB1 HE q0 q1 q2 q3 q4 qs f0 f1 f2 f3 f4 f5 f6 f7 f8 f9 f10 f11 f12 f13 ff fs
    obtain ⟨q0, q1, q2, q3, q4, -, -, -, -, -, qs⟩ := boxf HE1.out.m.box
    go_wp2_with fail
    refine (HCh.out w1).mono ?_
    rintro e w2 ⟨rfl, hb2⟩
    have HE2 : Hid (Lk w w2 B lo aS (some ⟨gH, 0, none⟩) aF aL cS cH cF cL M f aK cK) := HE1.out.below hb2
    clear HE1 hb2 q0 q1 q2 q3 q4 qs
    obtain ⟨q0, q1, q2, q3, q4, -, -, -, -, -, qs⟩ := boxf HE2.out.m.box
    obtain ⟨f0, f1, f2, f3, f4, f5, f6, f7, f8, f9, f10, f11, f12, f13, ff, fs⟩ := framef HE2.out.fb
    have hc := HX.out w2 HE2.out.m
    go_wp2_with fail
    have HE3 : Hid (Lk w _ B lo aS (some ⟨gH, 0, none⟩) aF aL cS cH cF cL M { f with cur := x } aK cK) := HE2.out.store 7 (.int .i64 x) { f with cur := x } rfl
    clear q0 q1 q2 q3 q4 qs f0 f1 f2 f3 f4 f5 f6 f7 f8 f9 f10 f11 f12 f13 ff fs hc HE2
    refine (to_any { f with cur := x } 1 aK cK _).mono ?_
    rintro e w3 ⟨rfl, hb3⟩
    have HE4 : Hid _ := HE3.out.below hb3
    clear HE3 hb3
    obtain ⟨g0, g1, g2, g3, g4, g5, g6, g7, g8, g9, g10, g11, g12, g13, gf, gs⟩ := framef HE4.out.zb
    go_wp2
    refine bodyPost_ret (v := .agg #[.int .i64 (curF f x 1).c.kind, .int .i64 (curF f x 1).c.a, .int .i64 (curF f x 1).c.b, .int .i64 (curF f x 1).c.time, .int .i64 (curF f x 1).c.bk, .int .i64 (curF f x 1).c.slot, .int .i64 (curF f x 1).pl, .int .i64 (curF f x 1).cur, .int .i64 (curF f x 1).prev, .int .i64 (curF f x 1).slot, .int .i64 (curF f x 1).n, .slice aK (curF f x 1).keys.length cK, .bool (curF f x 1).done, .int .i64 (curF f x 1).e]) (by simp [results, Try.results90, go_sem, curF, toF, g0, g1, g2, g3, g4, g5, g6, g7, g8, g9, g10, g11, g12, g13]) rfl ⟨rfl, ?_⟩
    refine set14 ?_
    exact HE4.out.bl



end Go.Proofs.Ytdbilofhcadmoab.mm

/- The contracts of look's parts that change nothing: pass. -/
namespace Go.Proofs.Ytdbilofhcadmoab.mm
open Go.ChangeShapes Go.WideShapes Go.ChangeAt Go.RowKit Go.Joins
set_option maxRecDepth 100000
set_option linter.unusedVariables false

theorem slotAt_cells {w : World} {lo gS n cap : Nat} {M : Mm} (h : w.ownsRow lo 39 6 (.slice (some ⟨gS, 0, none⟩) n cap) n (encS M.slots)) {j : Nat} (hj : j < M.slots.length) {s : Sl} (hs : s = slotAt M j) :
    w.cell? ⟨gS, j * 6, none⟩ = some (.int .i64 s.refs) ∧ w.cell? ⟨gS, j * 6 + 1, none⟩ = some (.int .i64 s.a) ∧ w.cell? ⟨gS, j * 6 + 2, none⟩ = some (.int .i64 s.b) ∧
    w.cell? ⟨gS, j * 6 + 3, none⟩ = some (.int .i64 s.unt) ∧ w.cell? ⟨gS, j * 6 + 4, none⟩ = some (.bool s.inn) ∧ w.cell? ⟨gS, j * 6 + 5, none⟩ = some (.int .i64 s.next) ∧ ∀ q, w.frozen? ⟨gS, q, none⟩ = false := by
  have e : s = M.slots[j] := by rw [hs]; simp [slotAt, List.getD_eq_getElem?_getD, hj]
  rw [e]
  exact row_cells h hj

set_option maxHeartbeats 1600000 in
theorem pass_any (M : Mm) (f : Fr) (B lo : Nat) (aS aH aF aL : Option Addr) (cS cH cF cL : Nat) (aK : Option Addr) (cK : Nat) (w : World)
    (m : Mine w B lo aS aH aF aL cS cH cF cL M) (hM : Ok M) (hf : Fit M f) :
    Calls Try.prog 92 #[.pointer (some ⟨B, 0, none⟩), .agg #[.int .i64 f.c.kind, .int .i64 f.c.a, .int .i64 f.c.b, .int .i64 f.c.time, .int .i64 f.c.bk, .int .i64 f.c.slot, .int .i64 f.pl, .int .i64 f.cur, .int .i64 f.prev, .int .i64 f.slot, .int .i64 f.n, .slice aK f.keys.length cK, .bool f.done, .int .i64 f.e]] w fun e w' => e = .returned (.agg #[.int .i64 (lkPass M f).c.kind, .int .i64 (lkPass M f).c.a, .int .i64 (lkPass M f).c.b, .int .i64 (lkPass M f).c.time, .int .i64 (lkPass M f).c.bk, .int .i64 (lkPass M f).c.slot, .int .i64 (lkPass M f).pl, .int .i64 (lkPass M f).cur, .int .i64 (lkPass M f).prev, .int .i64 (lkPass M f).slot, .int .i64 (lkPass M f).n, .slice aK (lkPass M f).keys.length cK, .bool (lkPass M f).done, .int .i64 (lkPass M f).e]) ∧ Below w.heap.size w w' := by
  have hns := hM.ns
  have hcur := hf.cur.2
  have hc1 : f.cur ≤ 1000 := by omega
  have hn1 : M.slots.length ≤ 1000 := by omega
  by_cases hat : isAt M f = true
  · have h1 := isAt_iff.1 hat
    obtain ⟨j, hj⟩ : ∃ j : Nat, f.cur - 1 = j := ⟨(f.cur - 1).toNat, by omega⟩
    have hjl : j < M.slots.length := by omega
    obtain ⟨gS, rfl, oS, lS, kS, -⟩ := row_form m.c.s (by omega)
    obtain ⟨s, hs⟩ : ∃ s, s = slotAt M (j : Int) := ⟨_, rfl⟩
    have hst : stN f = j := by unfold stN; rw [if_neg (by omega)]; exact hj
    have hres : lkPass M f = curF f s.next 1 := by unfold lkPass; rw [if_pos hat, hj, ← hs]
    rw [hres]
    have HSt : Hid (∀ (W : World), Mine W B lo (some ⟨gS, 0, none⟩) aH aF aL cS cH cF cL M → Calls Try.prog 149 #[.pointer (some ⟨B, 0, none⟩), .agg #[.int .i64 f.c.kind, .int .i64 f.c.a, .int .i64 f.c.b, .int .i64 f.c.time, .int .i64 f.c.bk, .int .i64 f.c.slot, .int .i64 f.pl, .int .i64 f.cur, .int .i64 f.prev, .int .i64 f.slot, .int .i64 f.n, .slice aK f.keys.length cK, .bool f.done, .int .i64 f.e]] W fun e w' => e = .returned (.tuple #[.int .i64 (j : Int), .bool true]) ∧ Below W.heap.size W w') := fun W m' => by
      have := standsAt_any M f B _ aH aF aL cS cH cF cL aK cK W m'.box hc1 hn1
      rwa [hst, hat] at this
    have HX : Hid (∀ W, Mine W B lo (some ⟨gS, 0, none⟩) aH aF aL cS cH cF cL M → W.cell? ⟨gS, j * 6 + 5, none⟩ = some (.int .i64 s.next)) := fun W m' => (slotAt_cells m'.c.s hjl hs).2.2.2.2.2.1
    obtain ⟨of, hof⟩ : ∃ o : Obj, o = .cells #[.int .i64 f.c.kind, .int .i64 f.c.a, .int .i64 f.c.b, .int .i64 f.c.time, .int .i64 f.c.bk, .int .i64 f.c.slot, .int .i64 f.pl, .int .i64 f.cur, .int .i64 f.prev, .int .i64 f.slot, .int .i64 f.n, .slice aK f.keys.length cK, .bool f.done, .int .i64 f.e] 51 := ⟨_, rfl⟩
    obtain ⟨oz, hoz⟩ : ∃ o : Obj, o = zeroFr := ⟨_, rfl⟩
    have HE : Hid (Lk w ((w.alloc of).alloc oz) B lo (some ⟨gS, 0, none⟩) aH aF aL cS cH cF cL M f aK cK) := Lk.first m f aK cK hof hoz
    obtain ⟨q0, q1, q2, q3, q4, -, -, -, -, -, qs⟩ := boxf HE.out.m.box
    obtain ⟨f0, f1, f2, f3, f4, f5, f6, f7, f8, f9, f10, f11, f12, f13, ff, fs⟩ := framef HE.out.fb
    unfold zeroFr at hoz
    clear m hres hs hst hat h1 hc1 hn1 hcur hns hM hf
    go_enter Try.func92, Try.ntmps92
    go_wp2_with fail
    rw [← hof, ← hoz]
    generalize (w.alloc of).alloc oz = W0 at *
    subst hof hoz
    refine (HSt.out W0 HE.out.m).mono ?_
    rintro e w1 ⟨rfl, hb1⟩
    have HE1 : Hid (Lk w w1 B lo (some ⟨gS, 0, none⟩) aH aF aL cS cH cF cL M f aK cK) := HE.out.below hb1
    clear HE hb1
    clear q0 q1 q2 q3 q4 qs f0 f1 f2 f3 f4 f5 f6 f7 f8 f9 f10 f11 f12 f13 ff fs
    obtain ⟨q0, q1, q2, q3, q4, -, -, -, -, -, qs⟩ := boxf HE1.out.m.box
    obtain ⟨f0, f1, f2, f3, f4, f5, f6, f7, f8, f9, f10, f11, f12, f13, ff, fs⟩ := framef HE1.out.fb
    have hx := HX.out w1 HE1.out.m
    go_wp2_with fail
    have HE2 : Hid (Lk w _ B lo (some ⟨gS, 0, none⟩) aH aF aL cS cH cF cL M { f with cur := s.next } aK cK) := HE1.out.store 7 (.int .i64 s.next) { f with cur := s.next } rfl
    clear HE1 hx
    refine (to_any { f with cur := s.next } 1 aK cK _).mono ?_
    rintro e w9 ⟨rfl, hb9⟩
    have HE9 : Hid (Lk w w9 B lo (some ⟨gS, 0, none⟩) aH aF aL cS cH cF cL M { f with cur := s.next } aK cK) := HE2.out.below hb9
    clear HE2 hb9
    clear q0 q1 q2 q3 q4 qs f0 f1 f2 f3 f4 f5 f6 f7 f8 f9 f10 f11 f12 f13 ff fs
    obtain ⟨g0, g1, g2, g3, g4, g5, g6, g7, g8, g9, g10, g11, g12, g13, gf, gs⟩ := framef HE9.out.zb
    go_wp2
    refine bodyPost_ret (v := .agg #[.int .i64 (curF f s.next 1).c.kind, .int .i64 (curF f s.next 1).c.a, .int .i64 (curF f s.next 1).c.b, .int .i64 (curF f s.next 1).c.time, .int .i64 (curF f s.next 1).c.bk, .int .i64 (curF f s.next 1).c.slot, .int .i64 (curF f s.next 1).pl, .int .i64 (curF f s.next 1).cur, .int .i64 (curF f s.next 1).prev, .int .i64 (curF f s.next 1).slot, .int .i64 (curF f s.next 1).n, .slice aK (curF f s.next 1).keys.length cK, .bool (curF f s.next 1).done, .int .i64 (curF f s.next 1).e]) (by simp [results, Try.results92, go_sem, curF, toF, g0, g1, g2, g3, g4, g5, g6, g7, g8, g9, g10, g11, g12, g13]) rfl ⟨rfl, ?_⟩
    refine set14 ?_
    exact HE9.out.bl
  · have hat0 : isAt M f = false := by simpa using hat
    have hres : lkPass M f = toF f 0 := by unfold lkPass; rw [if_neg hat]
    rw [hres]
    have HSt : Hid (∀ (W : World), Mine W B lo aS aH aF aL cS cH cF cL M → Calls Try.prog 149 #[.pointer (some ⟨B, 0, none⟩), .agg #[.int .i64 f.c.kind, .int .i64 f.c.a, .int .i64 f.c.b, .int .i64 f.c.time, .int .i64 f.c.bk, .int .i64 f.c.slot, .int .i64 f.pl, .int .i64 f.cur, .int .i64 f.prev, .int .i64 f.slot, .int .i64 f.n, .slice aK f.keys.length cK, .bool f.done, .int .i64 f.e]] W fun e w' => e = .returned (.tuple #[.int .i64 (stN f), .bool false]) ∧ Below W.heap.size W w') := fun W m' => by
      have := standsAt_any M f B _ aH aF aL cS cH cF cL aK cK W m'.box hc1 hn1
      rwa [hat0] at this
    obtain ⟨of, hof⟩ : ∃ o : Obj, o = .cells #[.int .i64 f.c.kind, .int .i64 f.c.a, .int .i64 f.c.b, .int .i64 f.c.time, .int .i64 f.c.bk, .int .i64 f.c.slot, .int .i64 f.pl, .int .i64 f.cur, .int .i64 f.prev, .int .i64 f.slot, .int .i64 f.n, .slice aK f.keys.length cK, .bool f.done, .int .i64 f.e] 51 := ⟨_, rfl⟩
    obtain ⟨oz, hoz⟩ : ∃ o : Obj, o = zeroFr := ⟨_, rfl⟩
    have HE : Hid (Lk w ((w.alloc of).alloc oz) B lo aS aH aF aL cS cH cF cL M f aK cK) := Lk.first m f aK cK hof hoz
    obtain ⟨q0, q1, q2, q3, q4, -, -, -, -, -, qs⟩ := boxf HE.out.m.box
    obtain ⟨f0, f1, f2, f3, f4, f5, f6, f7, f8, f9, f10, f11, f12, f13, ff, fs⟩ := framef HE.out.fb
    unfold zeroFr at hoz
    clear m hres hat hat0 hc1 hn1 hcur hns hM hf
    go_enter Try.func92, Try.ntmps92
    go_wp2_with fail
    rw [← hof, ← hoz]
    generalize (w.alloc of).alloc oz = W0 at *
    subst hof hoz
    refine (HSt.out W0 HE.out.m).mono ?_
    rintro e w1 ⟨rfl, hb1⟩
    have HE1 : Hid (Lk w w1 B lo aS aH aF aL cS cH cF cL M f aK cK) := HE.out.below hb1
    clear HE hb1
    clear q0 q1 q2 q3 q4 qs f0 f1 f2 f3 f4 f5 f6 f7 f8 f9 f10 f11 f12 f13 ff fs
    obtain ⟨q0, q1, q2, q3, q4, -, -, -, -, -, qs⟩ := boxf HE1.out.m.box
    obtain ⟨f0, f1, f2, f3, f4, f5, f6, f7, f8, f9, f10, f11, f12, f13, ff, fs⟩ := framef HE1.out.fb
    go_wp2_with fail
    refine (to_any f 0 aK cK _).mono ?_
    rintro e w9 ⟨rfl, hb9⟩
    have HE9 : Hid (Lk w w9 B lo aS aH aF aL cS cH cF cL M f aK cK) := HE1.out.below hb9
    clear HE1 hb9
    clear q0 q1 q2 q3 q4 qs f0 f1 f2 f3 f4 f5 f6 f7 f8 f9 f10 f11 f12 f13 ff fs
    obtain ⟨g0, g1, g2, g3, g4, g5, g6, g7, g8, g9, g10, g11, g12, g13, gf, gs⟩ := framef HE9.out.zb
    go_wp2
    refine bodyPost_ret (v := .agg #[.int .i64 (toF f 0).c.kind, .int .i64 (toF f 0).c.a, .int .i64 (toF f 0).c.b, .int .i64 (toF f 0).c.time, .int .i64 (toF f 0).c.bk, .int .i64 (toF f 0).c.slot, .int .i64 (toF f 0).pl, .int .i64 (toF f 0).cur, .int .i64 (toF f 0).prev, .int .i64 (toF f 0).slot, .int .i64 (toF f 0).n, .slice aK (toF f 0).keys.length cK, .bool (toF f 0).done, .int .i64 (toF f 0).e]) (by simp [results, Try.results92, go_sem, toF, g0, g1, g2, g3, g4, g5, g6, g7, g8, g9, g10, g11, g12, g13]) rfl ⟨rfl, ?_⟩
    refine set14 ?_
    exact HE9.out.bl



end Go.Proofs.Ytdbilofhcadmoab.mm
