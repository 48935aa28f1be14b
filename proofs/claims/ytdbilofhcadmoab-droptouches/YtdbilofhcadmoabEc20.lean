/- The contract of base.CutOut: a slot is cut out of its chain, another one or none being ahead of it. -/
import Derived.Test.YtdbilofhcadmoabEc19
import Derived.Test.YtdbilofhcadmoabEc12
import Derived.Test.YtdbilofhcadmoabEc13
import Derived.Deep.QuietTactic
import Derived.BigQuiet
import Derived.Lib.QuietBelow
namespace Go.Proofs.Ytdbilofhcadmoab.mm
open Go.ChangeShapes Go.WideShapes Go.ChangeAt Go.RowKit Go.Joins Go.Deep Go.Sort
set_option maxRecDepth 100000
set_option linter.unusedVariables false

theorem ahead_any (M : Mm) (B : Nat) (aS aH aF aL : Option Addr) (cS cH cF cL : Nat) (p : Int) (w : World) (hB : w.heap[B]? = some (.cells #[.slice aS M.slots.length cS, .slice aH M.heads.length cH, .slice aF M.free.length cF, .slice aL M.locks.length cL, .int .i64 M.now] 25 (0, 0))) (h0 : 0 ≤ p) (h1 : p ≤ M.slots.length) (hn : M.slots.length ≤ 1000) :
    Calls Try.prog 162 #[.pointer (some ⟨B, 0, none⟩), .int .i64 p] w fun e w' => e = .returned (.bool true) ∧ Below w.heap.size w w' := by
  obtain ⟨q0, q1, q2, q3, q4, -, -, -, -, -, qs⟩ := boxf hB
  clear hB
  by_cases h : p ≤ 0
  · obtain rfl : p = 0 := by omega
    go_enter Try.func162, Try.ntmps162
    go_wp2_with (go_at_call 144; refine (slotOf_no _ _ h).mono ?_; rintro e w1 ⟨rfl, rfl⟩)
    go_ret
    exact ⟨rfl, Below.refl _ _⟩
  · have h' : 0 < p := by omega
    have hc : p ≤ 1000 := by omega
    have e0 : (p == 0) = false := by rw [beq_eq_false_iff_ne]; omega
    have HS : Hid (∀ W : World, Calls Try.prog 78 #[.agg #[.slice aS M.slots.length cS, .slice aH M.heads.length cH, .slice aF M.free.length cF, .slice aL M.locks.length cL, .int .i64 M.now], .int .i64 (p - 1)] W fun e w' => e = .returned (.bool true) ∧ Below W.heap.size W w') := fun W => (show inB (p - 1) 0 ((M.slots.length : Int) - 1) = true from (inB_iff _ _ _).2 (by omega)) ▸ isSlot_any aS aH aF aL _ _ _ _ cS cH cF cL M.now (p - 1) W (by omega)
    clear hn h1 h0
    go_enter Try.func162, Try.ntmps162
    go_wp2_with (first | (go_at_call 144; refine (slotOf_is _ _ h' hc).mono ?_; rintro e w1 ⟨rfl, rfl⟩) | (go_at_call 78; refine (HS.out _).mono ?_; rintro e w2 ⟨rfl, hb2⟩))
    go_ret
    exact ⟨rfl, hb2⟩

/- What CutOut carries: the memory, and its frame in a box of its own. -/
structure Lf (w w1 : World) (B lo : Nat) (aS aH aF aL : Option Addr) (cS cH cF cL : Nat) (M : Mm) (f : Fr) (aK : Option Addr) (cK : Nat) : Prop where
  bl : Below w.heap.size w w1
  m : Mine w1 B lo aS aH aF aL cS cH cF cL M
  fb : w1.heap[w.heap.size]? = some (.cells #[.int .i64 f.c.kind, .int .i64 f.c.a, .int .i64 f.c.b, .int .i64 f.c.time, .int .i64 f.c.bk, .int .i64 f.c.slot, .int .i64 f.pl, .int .i64 f.cur, .int .i64 f.prev, .int .i64 f.slot, .int .i64 f.n, .slice aK f.keys.length cK, .bool f.done, .int .i64 f.e] 51 (0, 0))
theorem Lf.below {w w1 w2 : World} {B lo : Nat} {aS aH aF aL : Option Addr} {cS cH cF cL : Nat} {M : Mm} {f : Fr} {aK : Option Addr} {cK : Nat} (h : Lf w w1 B lo aS aH aF aL cS cH cF cL M f aK cK) (hb : Below w1.heap.size w1 w2) : Lf w w2 B lo aS aH aF aL cS cH cF cL M f aK cK :=
  ⟨h.bl.trans (hb.mono h.bl.size), h.m.below hb, (hb.block _ (lt_of_block h.fb)).trans h.fb⟩
theorem Lf.after {w w1 w2 : World} {B lo : Nat} {aS aH aF aL : Option Addr} {cS cH cF cL : Nat} {M M' : Mm} {f : Fr} {aK : Option Addr} {cK : Nat} (h : Lf w w1 B lo aS aH aF aL cS cH cF cL M f aK cK) (hh : Has w2 B lo (Up w1 (Foot B aS aH aF aL)) M') (hf : Fine w1 w2 (Foot B aS aH aF aL)) : Has w2 B lo (Up w (Foot B aS aH aF aL)) M' ∧ Fine w w2 (Foot B aS aH aF aL) :=
  ⟨hh.mono (fun k _ hk => hk.imp id (fun h' => Nat.le_trans h.bl.size h')), (Fine.of_below _ h.bl).trans hf (fun _ _ h => h)⟩
theorem Lf.first {w : World} {B lo : Nat} {aS aH aF aL : Option Addr} {cS cH cF cL : Nat} {M : Mm} (m : Mine w B lo aS aH aF aL cS cH cF cL M) (f : Fr) (aK : Option Addr) (cK : Nat) {o : Obj} (ho : o = .cells #[.int .i64 f.c.kind, .int .i64 f.c.a, .int .i64 f.c.b, .int .i64 f.c.time, .int .i64 f.c.bk, .int .i64 f.c.slot, .int .i64 f.pl, .int .i64 f.cur, .int .i64 f.prev, .int .i64 f.slot, .int .i64 f.n, .slice aK f.keys.length cK, .bool f.done, .int .i64 f.e] 51) : Lf w (w.alloc o) B lo aS aH aF aL cS cH cF cL M f aK cK := by
  subst ho
  exact ⟨one_below _ _, m.below (one_below _ _), heap_alloc_new _ _⟩

set_option maxHeartbeats 3200000 in
theorem cutout_no (M : Mm) (f : Fr) (b : Nat) (B lo : Nat) (aS aH aF aL : Option Addr) (cS cH cF cL : Nat) (aK : Option Addr) (cK : Nat) (w : World)
    (m : Mine w B lo aS aH aF aL cS cH cF cL M) (hM : Ok M) (hf : Fit M f) (hbl : b < M.heads.length) (hat : isAt M f = false) :
    Calls Try.prog 159 #[.pointer (some ⟨B, 0, none⟩), .int .i64 (b : Int), .agg #[.int .i64 f.c.kind, .int .i64 f.c.a, .int .i64 f.c.b, .int .i64 f.c.time, .int .i64 f.c.bk, .int .i64 f.c.slot, .int .i64 f.pl, .int .i64 f.cur, .int .i64 f.prev, .int .i64 f.slot, .int .i64 f.n, .slice aK f.keys.length cK, .bool f.done, .int .i64 f.e]] w fun e w' => e = .returned (.tuple #[.int .i64 0, .bool false]) ∧ Below w.heap.size w w' := by
  have hns := hM.ns
  have hnh := hM.nh.2
  have hcur := hf.cur.2
  have hc1 : f.cur ≤ 1000 := by omega
  have hn1 : M.slots.length ≤ 1000 := by omega
  obtain ⟨hp0, hp1⟩ := hf.prev
  have HSt : Hid (∀ (W : World), Lf w W B lo aS aH aF aL cS cH cF cL M f aK cK → Calls Try.prog 149 #[.pointer (some ⟨B, 0, none⟩), .agg #[.int .i64 f.c.kind, .int .i64 f.c.a, .int .i64 f.c.b, .int .i64 f.c.time, .int .i64 f.c.bk, .int .i64 f.c.slot, .int .i64 f.pl, .int .i64 f.cur, .int .i64 f.prev, .int .i64 f.slot, .int .i64 f.n, .slice aK f.keys.length cK, .bool f.done, .int .i64 f.e]] W fun e w' => e = .returned (.tuple #[.int .i64 (stN f), .bool false]) ∧ Lf w w' B lo aS aH aF aL cS cH cF cL M f aK cK) := fun W h => by
    have := standsAt_any M f B _ _ _ _ cS cH cF cL aK cK W h.m.box hc1 hn1
    rw [hat] at this
    exact this.mono (fun e w' h' => ⟨h'.1, h.below h'.2⟩)
  obtain ⟨of, hof⟩ : ∃ o : Obj, o = .cells #[.int .i64 f.c.kind, .int .i64 f.c.a, .int .i64 f.c.b, .int .i64 f.c.time, .int .i64 f.c.bk, .int .i64 f.c.slot, .int .i64 f.pl, .int .i64 f.cur, .int .i64 f.prev, .int .i64 f.slot, .int .i64 f.n, .slice aK f.keys.length cK, .bool f.done, .int .i64 f.e] 51 := ⟨_, rfl⟩
  have HE : Hid (Lf w (w.alloc of) B lo aS aH aF aL cS cH cF cL M f aK cK) := Lf.first m f aK cK hof
  obtain ⟨f0, f1, f2, f3, f4, f5, f6, f7, f8, f9, f10, f11, f12, f13, ff, fs⟩ := framef HE.out.fb
  clear m hM hf hns hnh hcur hc1 hn1 hp0 hp1 hat
  go_enter Try.func159, Try.ntmps159
  go_wp2_with fail
  rw [← hof]
  generalize w.alloc of = W0 at *
  subst hof
  clear f0 f1 f2 f3 f4 f5 f6 f7 f8 f9 f10 f11 f12 f13 ff fs
  refine (HSt.out _ (by exact HE.out)).mono ?_
  rintro e w1 ⟨rfl, h9⟩
  have HE1 : Hid (Lf w w1 B lo aS aH aF aL cS cH cF cL M f aK cK) := h9
  clear HE h9
  obtain ⟨q0, q1, q2, q3, q4, -, -, -, -, -, qs⟩ := boxf HE1.out.m.box
  obtain ⟨f0, f1, f2, f3, f4, f5, f6, f7, f8, f9, f10, f11, f12, f13, ff, fs⟩ := framef HE1.out.fb
  go_wp2
  go_ret2
  exact ⟨rfl, HE1.out.bl⟩

set_option maxHeartbeats 3200000 in
theorem cutout_yes (M : Mm) (f : Fr) (b : Nat) (B lo : Nat) (aS aH aF aL : Option Addr) (cS cH cF cL : Nat) (aK : Option Addr) (cK : Nat) (w : World)
    (m : Mine w B lo aS aH aF aL cS cH cF cL M) (hM : Ok M) (hf : Fit M f) (hbl : b < M.heads.length) (j : Nat) (hj : f.cur = (j : Int) + 1) (hjl : j < M.slots.length) :
    Calls Try.prog 159 #[.pointer (some ⟨B, 0, none⟩), .int .i64 (b : Int), .agg #[.int .i64 f.c.kind, .int .i64 f.c.a, .int .i64 f.c.b, .int .i64 f.c.time, .int .i64 f.c.bk, .int .i64 f.c.slot, .int .i64 f.pl, .int .i64 f.cur, .int .i64 f.prev, .int .i64 f.slot, .int .i64 f.n, .slice aK f.keys.length cK, .bool f.done, .int .i64 f.e]] w fun e w' => e = .returned (.tuple #[.int .i64 (j : Int), .bool true]) ∧ Has w' B lo (Up w (Foot B aS aH aF aL)) (cutM M b f.prev (j : Int)) ∧ Fine w w' (Foot B aS aH aF aL) := by
  have hns := hM.ns
  have hnh := hM.nh.2
  have hcur := hf.cur.2
  have hc1 : f.cur ≤ 1000 := by omega
  have hn1 : M.slots.length ≤ 1000 := by omega
  obtain ⟨hp0, hp1⟩ := hf.prev
  have hat : isAt M f = true := isAt_iff.2 (by omega)
  have hst : stN f = j := by unfold stN; rw [if_neg (by omega)]; omega
  have HSt : Hid (∀ (W : World), Lf w W B lo aS aH aF aL cS cH cF cL M f aK cK → Calls Try.prog 149 #[.pointer (some ⟨B, 0, none⟩), .agg #[.int .i64 f.c.kind, .int .i64 f.c.a, .int .i64 f.c.b, .int .i64 f.c.time, .int .i64 f.c.bk, .int .i64 f.c.slot, .int .i64 f.pl, .int .i64 f.cur, .int .i64 f.prev, .int .i64 f.slot, .int .i64 f.n, .slice aK f.keys.length cK, .bool f.done, .int .i64 f.e]] W fun e w' => e = .returned (.tuple #[.int .i64 ((j : Int)), .bool true]) ∧ Lf w w' B lo aS aH aF aL cS cH cF cL M f aK cK) := fun W h => by
    have := standsAt_any M f B _ _ _ _ cS cH cF cL aK cK W h.m.box hc1 hn1
    rw [hst, hat] at this
    exact this.mono (fun e w' h' => ⟨h'.1, h.below h'.2⟩)
  have HCh : Hid (∀ W : World, Calls Try.prog 75 #[.agg #[.slice aS M.slots.length cS, .slice aH M.heads.length cH, .slice aF M.free.length cF, .slice aL M.locks.length cL, .int .i64 M.now], .int .i64 (b : Int)] W fun e w' => e = .returned (.bool true) ∧ Below W.heap.size W w') := fun W => (show inB (b : Int) 0 ((M.heads.length : Int) - 1) = true from (inB_iff _ _ _).2 (by omega)) ▸ hasChain_any _ _ _ _ _ _ _ _ cS cH cF cL M.now (b : Int) W (by omega)
  have HAh : Hid (∀ W : World, W.heap[B]? = some (.cells #[.slice aS M.slots.length cS, .slice aH M.heads.length cH, .slice aF M.free.length cF, .slice aL M.locks.length cL, .int .i64 M.now] 25 (0, 0)) → Calls Try.prog 162 #[.pointer (some ⟨B, 0, none⟩), .int .i64 f.prev] W fun e w' => e = .returned (.bool true) ∧ Below W.heap.size W w') := fun W hB => ahead_any M B aS aH aF aL cS cH cF cL f.prev W hB hp0 hp1 hn1
  have HCt : Hid (∀ W : World, Lf w W B lo aS aH aF aL cS cH cF cL M f aK cK → Calls Try.prog 141 #[.pointer (some ⟨B, 0, none⟩), .int .i64 (b : Int), .int .i64 f.prev, .int .i64 (j : Int)] W fun e w' => e = .returned (.tuple #[]) ∧ Has w' B lo (Up w (Foot B aS aH aF aL)) (cutM M b f.prev (j : Int)) ∧ Fine w w' (Foot B aS aH aF aL)) := fun W h => (cut_fine (Z := Foot B aS aH aF aL) ⟨_, _, _, _, _, _, _, _, h.m, fun _ h => h⟩ hM hjl hbl hp1).mono (fun e w' h' => ⟨h'.1, h.after h'.2.1 h'.2.2⟩)
  generalize cutM M b f.prev (j : Int) = M' at *
  obtain ⟨of, hof⟩ : ∃ o : Obj, o = .cells #[.int .i64 f.c.kind, .int .i64 f.c.a, .int .i64 f.c.b, .int .i64 f.c.time, .int .i64 f.c.bk, .int .i64 f.c.slot, .int .i64 f.pl, .int .i64 f.cur, .int .i64 f.prev, .int .i64 f.slot, .int .i64 f.n, .slice aK f.keys.length cK, .bool f.done, .int .i64 f.e] 51 := ⟨_, rfl⟩
  have HE : Hid (Lf w (w.alloc of) B lo aS aH aF aL cS cH cF cL M f aK cK) := Lf.first m f aK cK hof
  obtain ⟨f0, f1, f2, f3, f4, f5, f6, f7, f8, f9, f10, f11, f12, f13, ff, fs⟩ := framef HE.out.fb
  clear m hM hf hns hnh hcur hc1 hn1 hp0 hp1 hat hst hj
  go_enter Try.func159, Try.ntmps159
  go_wp2_with fail
  rw [← hof]
  generalize w.alloc of = W0 at *
  subst hof
  clear f0 f1 f2 f3 f4 f5 f6 f7 f8 f9 f10 f11 f12 f13 ff fs
  refine (HSt.out _ (by exact HE.out)).mono ?_
  rintro e w1 ⟨rfl, h9⟩
  have HE1 : Hid (Lf w w1 B lo aS aH aF aL cS cH cF cL M f aK cK) := h9
  clear HE h9
  obtain ⟨q0, q1, q2, q3, q4, -, -, -, -, -, qs⟩ := boxf HE1.out.m.box
  obtain ⟨f0, f1, f2, f3, f4, f5, f6, f7, f8, f9, f10, f11, f12, f13, ff, fs⟩ := framef HE1.out.fb
  go_wp2_with fail
  clear q0 q1 q2 q3 q4 qs f0 f1 f2 f3 f4 f5 f6 f7 f8 f9 f10 f11 f12 f13 ff fs
  refine (HCh.out w1).mono ?_
  rintro e w2 ⟨rfl, hb2⟩
  have HE2 : Hid (Lf w w2 B lo aS aH aF aL cS cH cF cL M f aK cK) := HE1.out.below hb2
  clear HE1 hb2
  obtain ⟨q0, q1, q2, q3, q4, -, -, -, -, -, qs⟩ := boxf HE2.out.m.box
  obtain ⟨f0, f1, f2, f3, f4, f5, f6, f7, f8, f9, f10, f11, f12, f13, ff, fs⟩ := framef HE2.out.fb
  go_wp2_with fail
  clear q0 q1 q2 q3 q4 qs f0 f1 f2 f3 f4 f5 f6 f7 f8 f9 f10 f11 f12 f13 ff fs
  refine (HAh.out w2 HE2.out.m.box).mono ?_
  rintro e w3 ⟨rfl, hb3⟩
  have HE3 : Hid (Lf w w3 B lo aS aH aF aL cS cH cF cL M f aK cK) := HE2.out.below hb3
  clear HE2 hb3
  obtain ⟨q0, q1, q2, q3, q4, -, -, -, -, -, qs⟩ := boxf HE3.out.m.box
  obtain ⟨f0, f1, f2, f3, f4, f5, f6, f7, f8, f9, f10, f11, f12, f13, ff, fs⟩ := framef HE3.out.fb
  go_wp2_with fail
  clear q0 q1 q2 q3 q4 qs f0 f1 f2 f3 f4 f5 f6 f7 f8 f9 f10 f11 f12 f13 ff fs
  refine (HCt.out w3 HE3.out).mono ?_
  rintro e w4 ⟨rfl, hh4, hf4⟩
  have HF4 : Hid (Has w4 B lo (Up w (Foot B aS aH aF aL)) M' ∧ Fine w w4 (Foot B aS aH aF aL)) := ⟨hh4, hf4⟩
  clear hh4 hf4 HE3
  go_wp2
  go_ret2
  exact ⟨rfl, HF4.out⟩

end Go.Proofs.Ytdbilofhcadmoab.mm
