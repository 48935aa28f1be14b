/- The contracts of cut, on memory of one's own, and of aheadOf. -/
import Derived.Test.YtdbilofhcadmoaaLink
namespace Go.Proofs.Ytdbilofhcadmoaa.mm
open Go.ChangeShapes Go.WideShapes Go.ChangeAt Go.RowKit Go.Joins Go.Maps
set_option maxRecDepth 100000
set_option linter.unusedVariables false

set_option maxHeartbeats 800000 in
theorem cut_begin (w : World) (B gS gH nS nH j b cS cH : Nat) (fv lv nv : Value) (x nx ah : Int)
    (hB : w.heap[B]? = some (.cells #[.slice (some ⟨gS, 0, none⟩) nS cS, .slice (some ⟨gH, 0, none⟩) nH cH, fv, lv, nv] 29 (0, 0))) (hj : j < nS) (hb : b < nH) (hn : nS ≤ 12) (hh : nH ≤ 4) (ha : ah ≤ 0)
    (c5 : w.cell? ⟨gS, j * 6 + 5, none⟩ = some (.int .i64 nx)) (ch : w.cell? ⟨gH, b, none⟩ = some (.int .i64 x)) (fh : w.frozen? ⟨gH, b, none⟩ = false) :
    Calls Try.prog 78 #[.pointer (some ⟨B, 0, none⟩), .int .i64 b, .int .i64 ah, .int .i64 j] w fun e w' => e = .returned (.tuple #[]) ∧ w' = w.setCell ⟨gH, b, none⟩ (.int .i64 nx) := by
  obtain ⟨q0, q1, q2, q3, q4, -, -, -, -, -, qs⟩ := boxf hB
  clear hB
  go_enter Try.func78, Try.ntmps78
  go_wp2_with (go_at_call 87; refine (slotOf_no _ _ ha).mono ?_; rintro e w1 ⟨rfl, rfl⟩)
  go_end0
  exact ⟨rfl, rfl⟩

set_option maxHeartbeats 800000 in
theorem cut_mid (w : World) (B gS gH nS nH j b p cS cH : Nat) (fv lv nv : Value) (x nx px : Int)
    (hB : w.heap[B]? = some (.cells #[.slice (some ⟨gS, 0, none⟩) nS cS, .slice (some ⟨gH, 0, none⟩) nH cH, fv, lv, nv] 29 (0, 0))) (hj : j < nS) (hb : b < nH) (hn : nS ≤ 12) (hh : nH ≤ 4) (hp : p < nS)
    (c5 : w.cell? ⟨gS, j * 6 + 5, none⟩ = some (.int .i64 nx)) (d5 : w.cell? ⟨gS, p * 6 + 5, none⟩ = some (.int .i64 px)) (fz : w.frozen? ⟨gS, p * 6 + 5, none⟩ = false) (ch : w.cell? ⟨gH, b, none⟩ = some (.int .i64 x)) :
    Calls Try.prog 78 #[.pointer (some ⟨B, 0, none⟩), .int .i64 b, .int .i64 ((p : Int) + 1), .int .i64 j] w fun e w' => e = .returned (.tuple #[]) ∧ w' = w.setCell ⟨gS, p * 6 + 5, none⟩ (.int .i64 nx) := by
  obtain ⟨q0, q1, q2, q3, q4, -, -, -, -, -, qs⟩ := boxf hB
  clear hB
  go_enter Try.func78, Try.ntmps78
  go_wp2_with (go_at_call 87; refine (slotOf_is _ _ (by omega) (by omega)).mono ?_; rw [show (p : Int) + 1 - 1 = p by omega]; rintro e w1 ⟨rfl, rfl⟩)
  go_end0
  exact ⟨rfl, rfl⟩

theorem cut_now (M : Mm) (w : World) (B lo : Nat) (aS aH aF aL : Option Addr) (cS cH cF cL j b : Nat) (ah : Int) (m : Mine w B lo aS aH aF aL cS cH cF cL M) (hok : Ok M) (hj : j < M.slots.length) (hb : b < M.heads.length) (hah : ah ≤ M.slots.length) :
    Calls Try.prog 78 #[.pointer (some ⟨B, 0, none⟩), .int .i64 b, .int .i64 ah, .int .i64 j] w fun e w' => e = .returned (.tuple #[]) ∧ Now w w' B lo (cutM M b ah j) := by
  obtain ⟨gS, rfl, oS, lS, -, -⟩ := row_form m.c.s (by omega)
  obtain ⟨gH, rfl, oH, lH, -, -⟩ := row_form m.c.h (by omega)
  obtain ⟨c0, c1, c2, c3, c4, c5, fz⟩ := row_cells m.c.s hj
  obtain ⟨ch, fh⟩ := row_cell m.c.h hb
  have hs : slotAt M j = M.slots[j] := slotAt_lt hj
  by_cases ha : 0 < ah
  · obtain ⟨p, rfl⟩ : ∃ p : Nat, ah = (p : Int) + 1 := ⟨(ah - 1).toNat, by omega⟩
    have hp : p < M.slots.length := by omega
    obtain ⟨_, _, _, _, _, d5, _⟩ := row_cells m.c.s hp
    refine (cut_mid w B gS gH _ _ j b p cS cH _ _ _ _ _ _ m.box hj hb hok.ns hok.nh.2 hp c5 d5 (fz _) ch).mono ?_
    rintro e w' ⟨rfl, rfl⟩
    unfold cutM
    rw [if_pos ha, hs, show (p : Int) + 1 - 1 = p by omega, show slotAt M p = M.slots[p] from slotAt_lt hp, Int.toNat_natCast]
    exact ⟨rfl, _, _, _, _, _, _, _, _, m.setS _ _ _ (encS_set5 M.slots p hp _), (Kept.refl w B lo).setCell oS _⟩
  · refine (cut_begin w B gS gH _ _ j b cS cH _ _ _ _ _ _ m.box hj hb hok.ns hok.nh.2 (by omega) c5 ch fh).mono ?_
    rintro e w' ⟨rfl, rfl⟩
    unfold cutM
    rw [if_neg ha, hs]
    exact ⟨rfl, _, _, _, _, _, _, _, _, m.setH b _, (Kept.refl w B lo).setCell oH _⟩
theorem cut_any (M : Mm) (w : World) (B lo : Nat) (aS aH aF aL : Option Addr) (cS cH cF cL j b : Nat) (ah : Int) (m : Mine w B lo aS aH aF aL cS cH cF cL M) (hok : Ok M) (hj : j < M.slots.length) (hb : b < M.heads.length) (hah : ah ≤ M.slots.length) :
    Calls Try.prog 78 #[.pointer (some ⟨B, 0, none⟩), .int .i64 b, .int .i64 ah, .int .i64 j] w fun e w' => e = .returned (.tuple #[]) ∧ Done w w' B lo (cutM M b ah j) := by
  refine (cut_now M w B lo aS aH aF aL cS cH cF cL j b ah m hok hj hb hah).mono ?_
  rintro e w' ⟨rfl, h⟩
  exact ⟨rfl, h.done⟩

/- What is ahead: three variables that a function literal has caught. -/
structure Ahd (w0 : World) (P1 P2 P3 Y : Nat) (ob : Array Value) (W : World) (a la ah : Int) : Prop where
  p1 : W.heap[P1]? = some (.cells #[.int .i64 a] 3 (0, 0))
  p2 : W.heap[P2]? = some (.cells #[.int .i64 la] 3 (0, 0))
  p3 : W.heap[P3]? = some (.cells #[.int .i64 ah] 3 (0, 0))
  box : W.heap[Y]? = some (.cells ob 29 (0, 0))
  below : Below P1 w0 W

theorem Ahd.turn {w0 W : World} {P1 P2 P3 Y : Nat} {ob : Array Value} {a la ah la' : Int} (A : Ahd w0 P1 P2 P3 Y ob W a la ah) (d1 : P1 < P3) (d2 : P3 < P2) (d3 : P2 < Y) :
    Ahd w0 P1 P2 P3 Y ob (W.setCell ⟨P2, 0, none⟩ (.int .i64 la')) a la' ah := by
  refine ⟨(Below.heap_setCell _ _ _ _ (by dsimp only; omega)).trans A.p1, ?_, (Below.heap_setCell _ _ _ _ (by dsimp only; omega)).trans A.p3, (Below.heap_setCell _ _ _ _ (by dsimp only; omega)).trans A.box, A.below.setCell (by dsimp only; omega) _⟩
  have := block_setCell (i := 0) A.p2 (.int .i64 la')
  rw [this]; rfl
theorem Ahd.turn3 {w0 W : World} {P1 P2 P3 Y : Nat} {ob : Array Value} {a la ah ah' : Int} (A : Ahd w0 P1 P2 P3 Y ob W a la ah) (d1 : P1 < P3) (d2 : P3 < P2) (d3 : P2 < Y) :
    Ahd w0 P1 P2 P3 Y ob (W.setCell ⟨P3, 0, none⟩ (.int .i64 ah')) a la ah' := by
  refine ⟨(Below.heap_setCell _ _ _ _ (by dsimp only; omega)).trans A.p1, (Below.heap_setCell _ _ _ _ (by dsimp only; omega)).trans A.p2, ?_, (Below.heap_setCell _ _ _ _ (by dsimp only; omega)).trans A.box, A.below.setCell (by dsimp only; omega) _⟩
  have := block_setCell (i := 0) A.p3 (.int .i64 ah')
  rw [this]; rfl

theorem aheadF_snoc (a c : Int) : ∀ (l : List Int) (ah la : Int), aheadF a (l ++ [c]) ah la = if c == a then (match l.getLast? with | none => la | some p => p + 1) else aheadF a l ah la
  | [], ah, la => by simp [aheadF]
  | x :: l, ah, la => by
    simp only [List.cons_append, aheadF]
    rw [aheadF_snoc a c l]
    split
    · cases l with
      | nil => rfl
      | cons d l => simp [List.getLast?_cons]
    · rfl

theorem fn90 : ∀ args W, (callFunc 91 args).run Try.prog W = .ok (.enter 91 args) W := fun _ _ => by kernel_rfl

set_option maxHeartbeats 800000 in
theorem app90 (w0 W : World) (P1 P2 P3 Y : Nat) (ob : Array Value) (a : Int) (l : List Int) (j : Nat) (A : Ahd w0 P1 P2 P3 Y ob W a (lastN l) (aheadF a l 0 0)) (d1 : P1 < P3) (d2 : P3 < P2) (d3 : P2 < Y) (hj : j ≤ 12) :
    Calls Try.prog 91 #[.int .i64 j, .pointer (some ⟨P1, 0, none⟩), .pointer (some ⟨P2, 0, none⟩), .pointer (some ⟨P3, 0, none⟩)] W fun e W' => e = .returned (.tuple #[]) ∧ Ahd w0 P1 P2 P3 Y ob W' a (lastN (l ++ [(j : Int)])) (aheadF a (l ++ [(j : Int)]) 0 0) := by
  rw [lastN_snoc, aheadF_snoc]
  obtain ⟨c1, -, -⟩ := var_cell A.p1
  obtain ⟨c2, f2, z2⟩ := var_cell A.p2
  obtain ⟨c3, f3, z3⟩ := var_cell A.p3
  have HA : Hid _ := A
  clear A
  by_cases e : (j : Int) = a
  · rw [if_pos (by simpa using e)]
    have he : ((j : Int) == a) = true := by simpa using e
    have HE : Hid _ := (HA.out.turn3 (ah' := lastN l) d1 d2 d3).turn (la' := (j : Int) + 1) d1 d2 d3
    have HL : Hid ((match l.getLast? with | none => (0 : Int) | some p => p + 1) = lastN l) := rfl
    rw [HL.out]
    clear HA e HL
    generalize lastN l = ll at *
    go_enter Try.func91, Try.ntmps91
    go_wp2_with (go_at_call 90; refine (toSlot_any _ _ (by omega) (by omega)).mono ?_; rintro e w1 ⟨rfl, rfl⟩)
    go_end0
    exact ⟨rfl, HE.out⟩
  · rw [if_neg (by simpa using e)]
    have he : ((j : Int) == a) = false := by simpa using e
    have HE : Hid _ := HA.out.turn (la' := (j : Int) + 1) d1 d2 d3
    clear HA e
    go_enter Try.func91, Try.ntmps91
    go_wp2_with (go_at_call 90; refine (toSlot_any _ _ (by omega) (by omega)).mono ?_; rintro e w1 ⟨rfl, rfl⟩)
    go_end0
    exact ⟨rfl, HE.out⟩

set_option maxHeartbeats 1600000 in
theorem aheadOf_any (M : Mm) (aS aH aF aL : Option Addr) (cS cH cF cL b : Nat) (a : Int) (w : World) (A : At w aS aH aF aL cS cH cF cL M) (hok : Ok M) (hb : b < M.heads.length) :
    Calls Try.prog 79 #[.agg #[.slice aS M.slots.length cS, .slice aH M.heads.length cH, .slice aF M.free.length cF, .slice aL M.locks.length cL, .int .i64 M.now], .int .i64 b, .int .i64 a] w fun e w' => e = .returned (.int .i64 (aheadF a (chL M b) 0 0)) ∧ Below w.heap.size w w' := by
  obtain ⟨E0, hE0⟩ : ∃ E0, E0 = aheadF a (chL M b) 0 0 := ⟨_, rfl⟩
  rw [← hE0]
  have HE0 : Hid (E0 = aheadF a (chL M b) 0 0) := hE0
  clear hE0
  have n0 := hok.ns
  have hmf : ∀ (fn : Fn) (first cap : Array Value) (w : World), (Instr.makeFunc fn first cap).run Try.prog w = .ok (.func fn first cap) w := fun _ _ _ _ => rfl
  obtain ⟨o1, ho1⟩ : ∃ o : Obj, o = .cells #[.slice aS M.slots.length cS, .slice aH M.heads.length cH, .slice aF M.free.length cF, .slice aL M.locks.length cL, .int .i64 M.now] 29 := ⟨_, rfl⟩
  obtain ⟨o2, ho2⟩ : ∃ o : Obj, o = .cells #[.int .i64 a] 3 := ⟨_, rfl⟩
  obtain ⟨o3, ho3⟩ : ∃ o : Obj, o = .cells #[.int .i64 0] 3 := ⟨_, rfl⟩
  have b0 : Below w.heap.size w ((((w.alloc o1).alloc o2).alloc o3).alloc o3) := ((below_alloc2 w o1 o2).alloc (by simp; omega) o3).alloc (by simp; omega) o3
  have hP1 : ((((w.alloc o1).alloc o2).alloc o3).alloc o3).heap[w.heap.size + 1]? = some o2 := by
    rw [Below.heap_alloc _ _ _ (by simp), Below.heap_alloc _ _ _ (by simp)]
    have := heap_alloc_new (w.alloc o1) o2
    rwa [show (w.alloc o1).heap.size = w.heap.size + 1 by simp] at this
  have hP3 : ((((w.alloc o1).alloc o2).alloc o3).alloc o3).heap[w.heap.size + 2]? = some o3 := by
    rw [Below.heap_alloc _ _ _ (by simp)]
    have := heap_alloc_new ((w.alloc o1).alloc o2) o3
    rwa [show ((w.alloc o1).alloc o2).heap.size = w.heap.size + 2 by simp] at this
  have hP2 : ((((w.alloc o1).alloc o2).alloc o3).alloc o3).heap[w.heap.size + 3]? = some o3 := by
    have := heap_alloc_new (((w.alloc o1).alloc o2).alloc o3) o3
    rwa [show (((w.alloc o1).alloc o2).alloc o3).heap.size = w.heap.size + 3 by simp] at this
  have hZ : ((((w.alloc o1).alloc o2).alloc o3).alloc o3).heap.size = w.heap.size + 4 := by simp
  have HP1 : Hid _ := hP1
  have HP2 : Hid _ := hP2
  have HP3 : Hid _ := hP3
  have HZ : Hid _ := hZ
  clear hP1 hP2 hP3 hZ
  have HA : Hid (At w aS aH aF aL cS cH cF cL M) := A
  clear A
  go_enter Try.func79, Try.ntmps79
  go_wp2_with fail
  rw [← ho1, ← ho2, ← ho3]
  generalize (((w.alloc o1).alloc o2).alloc o3).alloc o3 = W0 at *
  subst ho1 ho2 ho3
  have z := HZ.out
  have hst : Ahd W0 (w.heap.size + 1) (w.heap.size + 3) (w.heap.size + 2) W0.heap.size #[.slice aS M.slots.length cS, .slice aH M.heads.length cH, .slice aF M.free.length cF, .slice aL M.locks.length cL, .int .i64 M.now] (W0.alloc (.cells #[.slice aS M.slots.length cS, .slice aH M.heads.length cH, .slice aF M.free.length cF, .slice aL M.locks.length cL, .int .i64 M.now] 29)) a (lastN []) (aheadF a [] 0 0) :=
    ⟨(Below.heap_alloc _ _ _ (by omega)).trans HP1.out, (Below.heap_alloc _ _ _ (by omega)).trans HP2.out, (Below.heap_alloc _ _ _ (by omega)).trans HP3.out, heap_alloc_new _ _, (Below.refl _ _).alloc (by omega) _⟩
  refine (walk_any 91 #[.pointer (some ⟨w.heap.size + 1, 0, none⟩), .pointer (some ⟨w.heap.size + 3, 0, none⟩), .pointer (some ⟨w.heap.size + 2, 0, none⟩)] M aS aH aF aL cS cH cF cL b W0 hok hb fn90 (fun l W => Ahd W0 (w.heap.size + 1) (w.heap.size + 3) (w.heap.size + 2) W0.heap.size #[.slice aS M.slots.length cS, .slice aH M.heads.length cH, .slice aF M.free.length cF, .slice aL M.locks.length cL, .int .i64 M.now] W a (lastN l) (aheadF a l 0 0)) hst (fun l W h => h.box) (fun l W h => HA.out.below (b0.trans (h.below.mono (by omega)))) ?_).mono ?_
  · intro l j W hL ha hl
    exact app90 _ _ _ _ _ _ _ _ _ j hL (by omega) (by omega) (by omega) (by omega)
  rintro e w1 ⟨rfl, hL1⟩
  have b1 : Below w.heap.size w w1 := b0.trans (hL1.below.mono (by omega))
  obtain ⟨c3, -, z3⟩ := var_cell hL1.p3
  rw [← HE0.out] at c3
  clear hL1 hst HP1 HP2 HP3 b0
  go_wp2
  go_ret
  exact ⟨rfl, b1⟩


end Go.Proofs.Ytdbilofhcadmoaa.mm
