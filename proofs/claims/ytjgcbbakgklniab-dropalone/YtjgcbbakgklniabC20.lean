/- The contracts of cut, on memory of one's own, and of aheadOf. -/
import Derived.Test.YtjgcbbakgklniabC04
import Derived.Test.YtjgcbbakgklniabC06
import Derived.Test.YtjgcbbakgklniabC13
import Derived.Test.YtjgcbbakgklniabC14
import Derived.Deep.QuietTactic
import Derived.BigQuiet
import Derived.Lib.QuietBelow
namespace Go.Proofs.Ytjgcbbakgklniab.mm
open Go.ChangeShapes Go.WideShapes Go.ChangeAt Go.RowKit Go.Joins Go.Maps
set_option maxRecDepth 100000
set_option linter.unusedVariables false

set_option maxHeartbeats 800000 in
theorem cut_begin (w : World) (B gS gH nS nH j b cS cH : Nat) (fv lv nv : Value) (x nx ah : Int)
    (hB : w.heap[B]? = some (.cells #[.slice (some ⟨gS, 0, none⟩) nS cS, .slice (some ⟨gH, 0, none⟩) nH cH, fv, lv, nv] 25 (0, 0))) (hj : j < nS) (hb : b < nH) (hn : nS ≤ 12) (hh : nH ≤ 4) (ha : ah ≤ 0)
    (c5 : w.cell? ⟨gS, j * 6 + 5, none⟩ = some (.int .i64 nx)) (ch : w.cell? ⟨gH, b, none⟩ = some (.int .i64 x)) (fh : w.frozen? ⟨gH, b, none⟩ = false) :
    Calls Try.prog 141 #[.pointer (some ⟨B, 0, none⟩), .int .i64 b, .int .i64 ah, .int .i64 j] w fun e w' => e = .returned (.tuple #[]) ∧ w' = w.setCell ⟨gH, b, none⟩ (.int .i64 nx) := by
  obtain ⟨q0, q1, q2, q3, q4, -, -, -, -, -, qs⟩ := boxf hB
  clear hB
  go_enter Try.func141, Try.ntmps141
  go_wp2_with (go_at_call 144; refine (slotOf_no _ _ ha).mono ?_; rintro e w1 ⟨rfl, rfl⟩)
  go_end0
  exact ⟨rfl, rfl⟩

set_option maxHeartbeats 800000 in
theorem cut_mid (w : World) (B gS gH nS nH j b p cS cH : Nat) (fv lv nv : Value) (x nx px : Int)
    (hB : w.heap[B]? = some (.cells #[.slice (some ⟨gS, 0, none⟩) nS cS, .slice (some ⟨gH, 0, none⟩) nH cH, fv, lv, nv] 25 (0, 0))) (hj : j < nS) (hb : b < nH) (hn : nS ≤ 12) (hh : nH ≤ 4) (hp : p < nS)
    (c5 : w.cell? ⟨gS, j * 6 + 5, none⟩ = some (.int .i64 nx)) (d5 : w.cell? ⟨gS, p * 6 + 5, none⟩ = some (.int .i64 px)) (fz : w.frozen? ⟨gS, p * 6 + 5, none⟩ = false) (ch : w.cell? ⟨gH, b, none⟩ = some (.int .i64 x)) :
    Calls Try.prog 141 #[.pointer (some ⟨B, 0, none⟩), .int .i64 b, .int .i64 ((p : Int) + 1), .int .i64 j] w fun e w' => e = .returned (.tuple #[]) ∧ w' = w.setCell ⟨gS, p * 6 + 5, none⟩ (.int .i64 nx) := by
  obtain ⟨q0, q1, q2, q3, q4, -, -, -, -, -, qs⟩ := boxf hB
  clear hB
  go_enter Try.func141, Try.ntmps141
  go_wp2_with (go_at_call 144; refine (slotOf_is _ _ (by omega) (by omega)).mono ?_; rw [show (p : Int) + 1 - 1 = p by omega]; rintro e w1 ⟨rfl, rfl⟩)
  go_end0
  exact ⟨rfl, rfl⟩

theorem cut_now (M : Mm) (w : World) (B lo : Nat) (aS aH aF aL : Option Addr) (cS cH cF cL j b : Nat) (ah : Int) (m : Mine w B lo aS aH aF aL cS cH cF cL M) (hok : Ok M) (hj : j < M.slots.length) (hb : b < M.heads.length) (hah : ah ≤ M.slots.length) :
    Calls Try.prog 141 #[.pointer (some ⟨B, 0, none⟩), .int .i64 b, .int .i64 ah, .int .i64 j] w fun e w' => e = .returned (.tuple #[]) ∧ Now w w' B lo (cutM M b ah j) := by
  obtain ⟨gS, rfl, oS, lS, -, -⟩ := row_form m.c.s (by omega)
  obtain ⟨gH, rfl, oH, lH, -, -⟩ := row_form m.c.h (by omega)
  obtain ⟨c0, c1, c2, c3, c4, c5, fz⟩ := row_cells m.c.s hj
  obtain ⟨ch, fh⟩ := row_cell m.c.h hb
  have hs : slotAt M j = M.slots[j] := slotAt_lt hj
  by_cases ha : 0 < ah
  · obtain ⟨p, rfl⟩ : ∃ p : Nat, ah = (p : Int) + 1 := ⟨(ah - 1).toNat, by omega⟩
    have hp : p < M.slots.length := by omega
    obtain ⟨_, _, _, _, _, d5, _⟩ := row_cells m.c.s hp
    refine (cut_mid w B gS gH _ _ j b p cS cH _ _ _ _ _ _ m.box hj hb hok.ns hok.nh.2 hp c5 d5 (fz _) ch).mono ?_
    rintro e w' ⟨rfl, rfl⟩
    unfold cutM
    rw [if_pos ha, hs, show (p : Int) + 1 - 1 = p by omega, show slotAt M p = M.slots[p] from slotAt_lt hp, Int.toNat_natCast]
    exact ⟨rfl, _, _, _, _, _, _, _, _, m.setS _ _ _ (encS_set5 M.slots p hp _), (Kept.refl w B lo).setCell oS _⟩
  · refine (cut_begin w B gS gH _ _ j b cS cH _ _ _ _ _ _ m.box hj hb hok.ns hok.nh.2 (by omega) c5 ch fh).mono ?_
    rintro e w' ⟨rfl, rfl⟩
    unfold cutM
    rw [if_neg ha, hs]
    exact ⟨rfl, _, _, _, _, _, _, _, _, m.setH b _, (Kept.refl w B lo).setCell oH _⟩
theorem cut_any (M : Mm) (w : World) (B lo : Nat) (aS aH aF aL : Option Addr) (cS cH cF cL j b : Nat) (ah : Int) (m : Mine w B lo aS aH aF aL cS cH cF cL M) (hok : Ok M) (hj : j < M.slots.length) (hb : b < M.heads.length) (hah : ah ≤ M.slots.length) :
    Calls Try.prog 141 #[.pointer (some ⟨B, 0, none⟩), .int .i64 b, .int .i64 ah, .int .i64 j] w fun e w' => e = .returned (.tuple #[]) ∧ Done w w' B lo (cutM M b ah j) := by
  refine (cut_now M w B lo aS aH aF aL cS cH cF cL j b ah m hok hj hb hah).mono ?_
  rintro e w' ⟨rfl, h⟩
  exact ⟨rfl, h.done⟩

/- What is ahead: three variables that a function literal has caught. -/
structure Ahd (w0 : World) (P1 P2 P3 Y : Nat) (ob : Array Value) (W : World) (a la ah : Int) : Prop where
  p1 : W.heap[P1]? = some (.cells #[.int .i64 a] 3 (0, 0))
  p2 : W.heap[P2]? = some (.cells #[.int .i64 la] 3 (0, 0))
  p3 : W.heap[P3]? = some (.cells #[.int .i64 ah] 3 (0, 0))
  box : W.heap[Y]? = some (.cells ob 25 (0, 0))
  below : Below P1 w0 W

theorem Ahd.turn {w0 W : World} {P1 P2 P3 Y : Nat} {ob : Array Value} {a la ah la' : Int} (A : Ahd w0 P1 P2 P3 Y ob W a la ah) (d1 : P1 < P3) (d2 : P3 < P2) (d3 : P2 < Y) :
    Ahd w0 P1 P2 P3 Y ob (W.setCell ⟨P2, 0, none⟩ (.int .i64 la')) a la' ah := by
  refine ⟨(Below.heap_setCell _ _ _ _ (by dsimp only; omega)).trans A.p1, ?_, (Below.heap_setCell _ _ _ _ (by dsimp only; omega)).trans A.p3, (Below.heap_setCell _ _ _ _ (by dsimp only; omega)).trans A.box, A.below.setCell (by dsimp only; omega) _⟩
  have := block_setCell (i := 0) A.p2 (.int .i64 la')
  rw [this]; rfl
theorem Ahd.turn3 {w0 W : World} {P1 P2 P3 Y : Nat} {ob : Array Value} {a la ah ah' : Int} (A : Ahd w0 P1 P2 P3 Y ob W a la ah) (d1 : P1 < P3) (d2 : P3 < P2) (d3 : P2 < Y) :
    Ahd w0 P1 P2 P3 Y ob (W.setCell ⟨P3, 0, none⟩ (.int .i64 ah')) a la ah' := by
  refine ⟨(Below.heap_setCell _ _ _ _ (by dsimp only; omega)).trans A.p1, (Below.heap_setCell _ _ _ _ (by dsimp only; omega)).trans A.p2, ?_, (Below.heap_setCell _ _ _ _ (by dsimp only; omega)).trans A.box, A.below.setCell (by dsimp only; omega) _⟩
  have := block_setCell (i := 0) A.p3 (.int .i64 ah')
  rw [this]; rfl

theorem aheadF_snoc (a c : Int) : ∀ (l : List Int) (ah la : Int), aheadF a (l ++ [c]) ah la = if c == a then (match l.getLast? with | none => la | some p => p + 1) else aheadF a l ah la
  | [], ah, la => by simp [aheadF]
  | x :: l, ah, la => by
    simp only [List.cons_append, aheadF]
    rw [aheadF_snoc a c l]
    split
    · cases l with
      | nil => rfl
      | cons d l => simp [List.getLast?_cons]
    · rfl

theorem fn90 : ∀ args W, (callFunc 158 args).run Try.prog W = .ok (.enter 158 args) W := fun _ _ => by kernel_rfl

set_option maxHeartbeats 800000 in
theorem app90 (w0 W : World) (P1 P2 P3 Y : Nat) (ob : Array Value) (a : Int) (l : List Int) (j : Nat) (A : Ahd w0 P1 P2 P3 Y ob W a (lastN l) (aheadF a l 0 0)) (d1 : P1 < P3) (d2 : P3 < P2) (d3 : P2 < Y) (hj : j ≤ 12) :
    Calls Try.prog 158 #[.int .i64 j, .pointer (some ⟨P1, 0, none⟩), .pointer (some ⟨P2, 0, none⟩), .pointer (some ⟨P3, 0, none⟩)] W fun e W' => e = .returned (.tuple #[]) ∧ Ahd w0 P1 P2 P3 Y ob W' a (lastN (l ++ [(j : Int)])) (aheadF a (l ++ [(j : Int)]) 0 0) := by
  rw [lastN_snoc, aheadF_snoc]
  obtain ⟨c1, -, -⟩ := var_cell A.p1
  obtain ⟨c2, f2, z2⟩ := var_cell A.p2
  obtain ⟨c3, f3, z3⟩ := var_cell A.p3
  have HA : Hid _ := A
  clear A
  by_cases e : (j : Int) = a
  · rw [if_pos (by simpa using e)]
    have he : ((j : Int) == a) = true := by simpa using e
    have HE : Hid _ := (HA.out.turn3 (ah' := lastN l) d1 d2 d3).turn (la' := (j : Int) + 1) d1 d2 d3
    have HL : Hid ((match l.getLast? with | none => (0 : Int) | some p => p + 1) = lastN l) := rfl
    rw [HL.out]
    clear HA e HL
    generalize lastN l = ll at *
    go_enter Try.func158, Try.ntmps158
    go_wp2_with (go_at_call 148; refine (toSlot_any _ _ (by omega) (by omega)).mono ?_; rintro e w1 ⟨rfl, rfl⟩)
    go_end0
    exact ⟨rfl, HE.out⟩
  · rw [if_neg (by simpa using e)]
    have he : ((j : Int) == a) = false := by simpa using e
    have HE : Hid _ := HA.out.turn (la' := (j : Int) + 1) d1 d2 d3
    clear HA e
    go_enter Try.func158, Try.ntmps158
    go_wp2_with (go_at_call 148; refine (toSlot_any _ _ (by omega) (by omega)).mono ?_; rintro e w1 ⟨rfl, rfl⟩)
    go_end0
    exact ⟨rfl, HE.out⟩

set_option maxHeartbeats 1600000 in
theorem aheadOf_any (M : Mm) (aS aH aF aL : Option Addr) (cS cH cF cL b : Nat) (a : Int) (w : World) (A : At w aS aH aF aL cS cH cF cL M) (hok : Ok M) (hb : b < M.heads.length) :
    Calls Try.prog 142 #[.agg #[.slice aS M.slots.length cS, .slice aH M.heads.length cH, .slice aF M.free.length cF, .slice aL M.locks.length cL, .int .i64 M.now], .int .i64 b, .int .i64 a] w fun e w' => e = .returned (.int .i64 (aheadF a (chL M b) 0 0)) ∧ Below w.heap.size w w' := by
  obtain ⟨E0, hE0⟩ : ∃ E0, E0 = aheadF a (chL M b) 0 0 := ⟨_, rfl⟩
  rw [← hE0]
  have HE0 : Hid (E0 = aheadF a (chL M b) 0 0) := hE0
  clear hE0
  have n0 := hok.ns
  have hmf : ∀ (fn : Fn) (first cap : Array Value) (w : World), (Instr.makeFunc fn first cap).run Try.prog w = .ok (.func fn first cap) w := fun _ _ _ _ => rfl
  obtain ⟨o1, ho1⟩ : ∃ o : Obj, o = .cells #[.slice aS M.slots.length cS, .slice aH M.heads.length cH, .slice aF M.free.length cF, .slice aL M.locks.length cL, .int .i64 M.now] 25 := ⟨_, rfl⟩
  obtain ⟨o2, ho2⟩ : ∃ o : Obj, o = .cells #[.int .i64 a] 3 := ⟨_, rfl⟩
  obtain ⟨o3, ho3⟩ : ∃ o : Obj, o = .cells #[.int .i64 0] 3 := ⟨_, rfl⟩
  have b0 : Below w.heap.size w ((((w.alloc o1).alloc o2).alloc o3).alloc o3) := ((below_alloc2 w o1 o2).alloc (by simp; omega) o3).alloc (by simp; omega) o3
  have hP1 : ((((w.alloc o1).alloc o2).alloc o3).alloc o3).heap[w.heap.size + 1]? = some o2 := by
    rw [Below.heap_alloc _ _ _ (by simp), Below.heap_alloc _ _ _ (by simp)]
    have := heap_alloc_new (w.alloc o1) o2
    rwa [show (w.alloc o1).heap.size = w.heap.size + 1 by simp] at this
  have hP3 : ((((w.alloc o1).alloc o2).alloc o3).alloc o3).heap[w.heap.size + 2]? = some o3 := by
    rw [Below.heap_alloc _ _ _ (by simp)]
    have := heap_alloc_new ((w.alloc o1).alloc o2) o3
    rwa [show ((w.alloc o1).alloc o2).heap.size = w.heap.size + 2 by simp] at this
  have hP2 : ((((w.alloc o1).alloc o2).alloc o3).alloc o3).heap[w.heap.size + 3]? = some o3 := by
    have := heap_alloc_new (((w.alloc o1).alloc o2).alloc o3) o3
    rwa [show (((w.alloc o1).alloc o2).alloc o3).heap.size = w.heap.size + 3 by simp] at this
  have hZ : ((((w.alloc o1).alloc o2).alloc o3).alloc o3).heap.size = w.heap.size + 4 := by simp
  have HP1 : Hid _ := hP1
  have HP2 : Hid _ := hP2
  have HP3 : Hid _ := hP3
  have HZ : Hid _ := hZ
  clear hP1 hP2 hP3 hZ
  have HA : Hid (At w aS aH aF aL cS cH cF cL M) := A
  clear A
  go_enter Try.func142, Try.ntmps142
  go_wp2_with fail
  rw [← ho1, ← ho2, ← ho3]
  generalize (((w.alloc o1).alloc o2).alloc o3).alloc o3 = W0 at *
  subst ho1 ho2 ho3
  have z := HZ.out
  have hst : Ahd W0 (w.heap.size + 1) (w.heap.size + 3) (w.heap.size + 2) W0.heap.size #[.slice aS M.slots.length cS, .slice aH M.heads.length cH, .slice aF M.free.length cF, .slice aL M.locks.length cL, .int .i64 M.now] (W0.alloc (.cells #[.slice aS M.slots.length cS, .slice aH M.heads.length cH, .slice aF M.free.length cF, .slice aL M.locks.length cL, .int .i64 M.now] 25)) a (lastN []) (aheadF a [] 0 0) :=
    ⟨(Below.heap_alloc _ _ _ (by omega)).trans HP1.out, (Below.heap_alloc _ _ _ (by omega)).trans HP2.out, (Below.heap_alloc _ _ _ (by omega)).trans HP3.out, heap_alloc_new _ _, (Below.refl _ _).alloc (by omega) _⟩
  refine (walk_any 158 #[.pointer (some ⟨w.heap.size + 1, 0, none⟩), .pointer (some ⟨w.heap.size + 3, 0, none⟩), .pointer (some ⟨w.heap.size + 2, 0, none⟩)] M aS aH aF aL cS cH cF cL b W0 hok hb fn90 (fun l W => Ahd W0 (w.heap.size + 1) (w.heap.size + 3) (w.heap.size + 2) W0.heap.size #[.slice aS M.slots.length cS, .slice aH M.heads.length cH, .slice aF M.free.length cF, .slice aL M.locks.length cL, .int .i64 M.now] W a (lastN l) (aheadF a l 0 0)) hst (fun l W h => h.box) (fun l W h => HA.out.below (b0.trans (h.below.mono (by omega)))) ?_).mono ?_
  · intro l j W hL ha hl
    exact app90 _ _ _ _ _ _ _ _ _ j hL (by omega) (by omega) (by omega) (by omega)
  rintro e w1 ⟨rfl, hL1⟩
  have b1 : Below w.heap.size w w1 := b0.trans (hL1.below.mono (by omega))
  obtain ⟨c3, -, z3⟩ := var_cell hL1.p3
  rw [← HE0.out] at c3
  clear hL1 hst HP1 HP2 HP3 b0
  go_wp2
  go_ret
  exact ⟨rfl, b1⟩




end Go.Proofs.Ytjgcbbakgklniab.mm

/- A slot of memory of one's own is cut out of its chain, and what that leaves. -/
namespace Go.Proofs.Ytjgcbbakgklniab.mm
open Go.ChangeShapes Go.WideShapes Go.ChangeAt Go.RowKit Go.Joins
set_option maxRecDepth 100000
set_option linter.unusedVariables false

theorem cut_fine {M : Mm} {w : World} {B lo : Nat} {Z : Nat → Prop} {j b : Nat} {ah : Int} (H : Has w B lo Z M) (hM : Ok M) (hj : j < M.slots.length) (hb : b < M.heads.length) (hah : ah ≤ M.slots.length) :
    Calls Try.prog 141 #[.pointer (some ⟨B, 0, none⟩), .int .i64 b, .int .i64 ah, .int .i64 j] w fun e w' => e = .returned (.tuple #[]) ∧ Has w' B lo (Up w Z) (cutM M b ah j) ∧ Fine w w' Z := by
  obtain ⟨aS, aH, aF, aL, cS, cH, cF, cL, m, hf⟩ := H
  obtain ⟨gS, rfl, oS, lS, -, -⟩ := row_form m.c.s (by omega)
  obtain ⟨gH, rfl, oH, lH, -, -⟩ := row_form m.c.h (by omega)
  obtain ⟨c0, c1, c2, c3, c4, c5, fz⟩ := row_cells m.c.s hj
  obtain ⟨ch, fh⟩ := row_cell m.c.h hb
  have zS : Z gS ∨ w.heap.size ≤ gS := .inl (hf gS (.inr (.inl ⟨_, rfl, rfl⟩)))
  have zH : Z gH ∨ w.heap.size ≤ gH := .inl (hf gH (.inr (.inr (.inl ⟨_, rfl, rfl⟩))))
  have hs : slotAt M j = M.slots[j] := slotAt_lt hj
  by_cases ha : 0 < ah
  · obtain ⟨p, rfl⟩ : ∃ p : Nat, ah = (p : Int) + 1 := ⟨(ah - 1).toNat, by omega⟩
    have hp : p < M.slots.length := by omega
    obtain ⟨_, _, _, _, _, d5, _⟩ := row_cells m.c.s hp
    refine (cut_mid w B gS gH _ _ j b p cS cH _ _ _ _ _ _ m.box hj hb hM.ns hM.nh.2 hp c5 d5 (fz _) ch).mono ?_
    rintro e w' ⟨rfl, rfl⟩
    unfold cutM
    rw [if_pos ha, hs, show (p : Int) + 1 - 1 = p by omega, show slotAt M p = M.slots[p] from slotAt_lt hp, Int.toNat_natCast]
    exact ⟨rfl, ⟨_, _, _, _, _, _, _, _, m.setS _ _ _ (encS_set5 M.slots p hp _), fun k hk => .inl (hf k hk)⟩, (Fine.refl w Z).set zS _ _⟩
  · refine (cut_begin w B gS gH _ _ j b cS cH _ _ _ _ _ _ m.box hj hb hM.ns hM.nh.2 (by omega) c5 ch fh).mono ?_
    rintro e w' ⟨rfl, rfl⟩
    unfold cutM
    rw [if_neg ha, hs]
    exact ⟨rfl, ⟨_, _, _, _, _, _, _, _, m.setH b _, fun k hk => .inl (hf k hk)⟩, (Fine.refl w Z).set zH _ _⟩


end Go.Proofs.Ytjgcbbakgklniab.mm

/- The contract of base.CutOut: a slot is cut out of its chain, another one or none being ahead of it. -/
namespace Go.Proofs.Ytjgcbbakgklniab.mm
open Go.ChangeShapes Go.WideShapes Go.ChangeAt Go.RowKit Go.Joins Go.Deep Go.Sort
set_option maxRecDepth 100000
set_option linter.unusedVariables false

theorem ahead_any (M : Mm) (B : Nat) (aS aH aF aL : Option Addr) (cS cH cF cL : Nat) (p : Int) (w : World) (hB : w.heap[B]? = some (.cells #[.slice aS M.slots.length cS, .slice aH M.heads.length cH, .slice aF M.free.length cF, .slice aL M.locks.length cL, .int .i64 M.now] 25 (0, 0))) (h0 : 0 ≤ p) (h1 : p ≤ M.slots.length) (hn : M.slots.length ≤ 1000) :
    Calls Try.prog 160 #[.pointer (some ⟨B, 0, none⟩), .int .i64 p] w fun e w' => e = .returned (.bool true) ∧ Below w.heap.size w w' := by
  obtain ⟨q0, q1, q2, q3, q4, -, -, -, -, -, qs⟩ := boxf hB
  clear hB
  by_cases h : p ≤ 0
  · obtain rfl : p = 0 := by omega
    go_enter Try.func160, Try.ntmps160
    go_wp2_with (go_at_call 144; refine (slotOf_no _ _ h).mono ?_; rintro e w1 ⟨rfl, rfl⟩)
    go_ret
    exact ⟨rfl, Below.refl _ _⟩
  · have h' : 0 < p := by omega
    have hc : p ≤ 1000 := by omega
    have e0 : (p == 0) = false := by rw [beq_eq_false_iff_ne]; omega
    have HS : Hid (∀ W : World, Calls Try.prog 78 #[.agg #[.slice aS M.slots.length cS, .slice aH M.heads.length cH, .slice aF M.free.length cF, .slice aL M.locks.length cL, .int .i64 M.now], .int .i64 (p - 1)] W fun e w' => e = .returned (.bool true) ∧ Below W.heap.size W w') := fun W => (show inB (p - 1) 0 ((M.slots.length : Int) - 1) = true from (inB_iff _ _ _).2 (by omega)) ▸ isSlot_any aS aH aF aL _ _ _ _ cS cH cF cL M.now (p - 1) W (by omega)
    clear hn h1 h0
    go_enter Try.func160, Try.ntmps160
    go_wp2_with (first | (go_at_call 144; refine (slotOf_is _ _ h' hc).mono ?_; rintro e w1 ⟨rfl, rfl⟩) | (go_at_call 78; refine (HS.out _).mono ?_; rintro e w2 ⟨rfl, hb2⟩))
    go_ret
    exact ⟨rfl, hb2⟩

/- What CutOut carries: the memory, and its frame in a box of its own. -/
structure Lf (w w1 : World) (B lo : Nat) (aS aH aF aL : Option Addr) (cS cH cF cL : Nat) (M : Mm) (f : Fr) (aK : Option Addr) (cK : Nat) : Prop where
  bl : Below w.heap.size w w1
  m : Mine w1 B lo aS aH aF aL cS cH cF cL M
  fb : w1.heap[w.heap.size]? = some (.cells #[.int .i64 f.c.kind, .int .i64 f.c.a, .int .i64 f.c.b, .int .i64 f.c.time, .int .i64 f.c.bk, .int .i64 f.c.slot, .int .i64 f.pl, .int .i64 f.cur, .int .i64 f.prev, .int .i64 f.slot, .int .i64 f.n, .slice aK f.keys.length cK, .bool f.done, .int .i64 f.e] 51 (0, 0))
theorem Lf.below {w w1 w2 : World} {B lo : Nat} {aS aH aF aL : Option Addr} {cS cH cF cL : Nat} {M : Mm} {f : Fr} {aK : Option Addr} {cK : Nat} (h : Lf w w1 B lo aS aH aF aL cS cH cF cL M f aK cK) (hb : Below w1.heap.size w1 w2) : Lf w w2 B lo aS aH aF aL cS cH cF cL M f aK cK :=
  ⟨h.bl.trans (hb.mono h.bl.size), h.m.below hb, (hb.block _ (lt_of_block h.fb)).trans h.fb⟩
theorem Lf.after {w w1 w2 : World} {B lo : Nat} {aS aH aF aL : Option Addr} {cS cH cF cL : Nat} {M M' : Mm} {f : Fr} {aK : Option Addr} {cK : Nat} (h : Lf w w1 B lo aS aH aF aL cS cH cF cL M f aK cK) (hh : Has w2 B lo (Up w1 (Foot B aS aH aF aL)) M') (hf : Fine w1 w2 (Foot B aS aH aF aL)) : Has w2 B lo (Up w (Foot B aS aH aF aL)) M' ∧ Fine w w2 (Foot B aS aH aF aL) :=
  ⟨hh.mono (fun k _ hk => hk.imp id (fun h' => Nat.le_trans h.bl.size h')), (Fine.of_below _ h.bl).trans hf (fun _ _ h => h)⟩
theorem Lf.first {w : World} {B lo : Nat} {aS aH aF aL : Option Addr} {cS cH cF cL : Nat} {M : Mm} (m : Mine w B lo aS aH aF aL cS cH cF cL M) (f : Fr) (aK : Option Addr) (cK : Nat) {o : Obj} (ho : o = .cells #[.int .i64 f.c.kind, .int .i64 f.c.a, .int .i64 f.c.b, .int .i64 f.c.time, .int .i64 f.c.bk, .int .i64 f.c.slot, .int .i64 f.pl, .int .i64 f.cur, .int .i64 f.prev, .int .i64 f.slot, .int .i64 f.n, .slice aK f.keys.length cK, .bool f.done, .int .i64 f.e] 51) : Lf w (w.alloc o) B lo aS aH aF aL cS cH cF cL M f aK cK := by
  subst ho
  exact ⟨one_below _ _, m.below (one_below _ _), heap_alloc_new _ _⟩

set_option maxHeartbeats 3200000 in
theorem cutout_no (M : Mm) (f : Fr) (b : Nat) (B lo : Nat) (aS aH aF aL : Option Addr) (cS cH cF cL : Nat) (aK : Option Addr) (cK : Nat) (w : World)
    (m : Mine w B lo aS aH aF aL cS cH cF cL M) (hM : Ok M) (hf : Fit M f) (hbl : b < M.heads.length) (hat : isAt M f = false) :
    Calls Try.prog 157 #[.pointer (some ⟨B, 0, none⟩), .int .i64 (b : Int), .agg #[.int .i64 f.c.kind, .int .i64 f.c.a, .int .i64 f.c.b, .int .i64 f.c.time, .int .i64 f.c.bk, .int .i64 f.c.slot, .int .i64 f.pl, .int .i64 f.cur, .int .i64 f.prev, .int .i64 f.slot, .int .i64 f.n, .slice aK f.keys.length cK, .bool f.done, .int .i64 f.e]] w fun e w' => e = .returned (.tuple #[.int .i64 0, .bool false]) ∧ Below w.heap.size w w' := by
  have hns := hM.ns
  have hnh := hM.nh.2
  have hcur := hf.cur.2
  have hc1 : f.cur ≤ 1000 := by omega
  have hn1 : M.slots.length ≤ 1000 := by omega
  obtain ⟨hp0, hp1⟩ := hf.prev
  have HSt : Hid (∀ (W : World), Lf w W B lo aS aH aF aL cS cH cF cL M f aK cK → Calls Try.prog 149 #[.pointer (some ⟨B, 0, none⟩), .agg #[.int .i64 f.c.kind, .int .i64 f.c.a, .int .i64 f.c.b, .int .i64 f.c.time, .int .i64 f.c.bk, .int .i64 f.c.slot, .int .i64 f.pl, .int .i64 f.cur, .int .i64 f.prev, .int .i64 f.slot, .int .i64 f.n, .slice aK f.keys.length cK, .bool f.done, .int .i64 f.e]] W fun e w' => e = .returned (.tuple #[.int .i64 (stN f), .bool false]) ∧ Lf w w' B lo aS aH aF aL cS cH cF cL M f aK cK) := fun W h => by
    have := standsAt_any M f B _ _ _ _ cS cH cF cL aK cK W h.m.box hc1 hn1
    rw [hat] at this
    exact this.mono (fun e w' h' => ⟨h'.1, h.below h'.2⟩)
  obtain ⟨of, hof⟩ : ∃ o : Obj, o = .cells #[.int .i64 f.c.kind, .int .i64 f.c.a, .int .i64 f.c.b, .int .i64 f.c.time, .int .i64 f.c.bk, .int .i64 f.c.slot, .int .i64 f.pl, .int .i64 f.cur, .int .i64 f.prev, .int .i64 f.slot, .int .i64 f.n, .slice aK f.keys.length cK, .bool f.done, .int .i64 f.e] 51 := ⟨_, rfl⟩
  have HE : Hid (Lf w (w.alloc of) B lo aS aH aF aL cS cH cF cL M f aK cK) := Lf.first m f aK cK hof
  obtain ⟨f0, f1, f2, f3, f4, f5, f6, f7, f8, f9, f10, f11, f12, f13, ff, fs⟩ := framef HE.out.fb
  clear m hM hf hns hnh hcur hc1 hn1 hp0 hp1 hat
  go_enter Try.func157, Try.ntmps157
  go_wp2_with fail
  rw [← hof]
  generalize w.alloc of = W0 at *
  subst hof
  clear f0 f1 f2 f3 f4 f5 f6 f7 f8 f9 f10 f11 f12 f13 ff fs
  refine (HSt.out _ (by exact HE.out)).mono ?_
  rintro e w1 ⟨rfl, h9⟩
  have HE1 : Hid (Lf w w1 B lo aS aH aF aL cS cH cF cL M f aK cK) := h9
  clear HE h9
  obtain ⟨q0, q1, q2, q3, q4, -, -, -, -, -, qs⟩ := boxf HE1.out.m.box
  obtain ⟨f0, f1, f2, f3, f4, f5, f6, f7, f8, f9, f10, f11, f12, f13, ff, fs⟩ := framef HE1.out.fb
  go_wp2
  go_ret2
  exact ⟨rfl, HE1.out.bl⟩

set_option maxHeartbeats 3200000 in
theorem cutout_yes (M : Mm) (f : Fr) (b : Nat) (B lo : Nat) (aS aH aF aL : Option Addr) (cS cH cF cL : Nat) (aK : Option Addr) (cK : Nat) (w : World)
    (m : Mine w B lo aS aH aF aL cS cH cF cL M) (hM : Ok M) (hf : Fit M f) (hbl : b < M.heads.length) (j : Nat) (hj : f.cur = (j : Int) + 1) (hjl : j < M.slots.length) :
    Calls Try.prog 157 #[.pointer (some ⟨B, 0, none⟩), .int .i64 (b : Int), .agg #[.int .i64 f.c.kind, .int .i64 f.c.a, .int .i64 f.c.b, .int .i64 f.c.time, .int .i64 f.c.bk, .int .i64 f.c.slot, .int .i64 f.pl, .int .i64 f.cur, .int .i64 f.prev, .int .i64 f.slot, .int .i64 f.n, .slice aK f.keys.length cK, .bool f.done, .int .i64 f.e]] w fun e w' => e = .returned (.tuple #[.int .i64 (j : Int), .bool true]) ∧ Has w' B lo (Up w (Foot B aS aH aF aL)) (cutM M b f.prev (j : Int)) ∧ Fine w w' (Foot B aS aH aF aL) := by
  have hns := hM.ns
  have hnh := hM.nh.2
  have hcur := hf.cur.2
  have hc1 : f.cur ≤ 1000 := by omega
  have hn1 : M.slots.length ≤ 1000 := by omega
  obtain ⟨hp0, hp1⟩ := hf.prev
  have hat : isAt M f = true := isAt_iff.2 (by omega)
  have hst : stN f = j := by unfold stN; rw [if_neg (by omega)]; omega
  have HSt : Hid (∀ (W : World), Lf w W B lo aS aH aF aL cS cH cF cL M f aK cK → Calls Try.prog 149 #[.pointer (some ⟨B, 0, none⟩), .agg #[.int .i64 f.c.kind, .int .i64 f.c.a, .int .i64 f.c.b, .int .i64 f.c.time, .int .i64 f.c.bk, .int .i64 f.c.slot, .int .i64 f.pl, .int .i64 f.cur, .int .i64 f.prev, .int .i64 f.slot, .int .i64 f.n, .slice aK f.keys.length cK, .bool f.done, .int .i64 f.e]] W fun e w' => e = .returned (.tuple #[.int .i64 ((j : Int)), .bool true]) ∧ Lf w w' B lo aS aH aF aL cS cH cF cL M f aK cK) := fun W h => by
    have := standsAt_any M f B _ _ _ _ cS cH cF cL aK cK W h.m.box hc1 hn1
    rw [hst, hat] at this
    exact this.mono (fun e w' h' => ⟨h'.1, h.below h'.2⟩)
  have HCh : Hid (∀ W : World, Calls Try.prog 75 #[.agg #[.slice aS M.slots.length cS, .slice aH M.heads.length cH, .slice aF M.free.length cF, .slice aL M.locks.length cL, .int .i64 M.now], .int .i64 (b : Int)] W fun e w' => e = .returned (.bool true) ∧ Below W.heap.size W w') := fun W => (show inB (b : Int) 0 ((M.heads.length : Int) - 1) = true from (inB_iff _ _ _).2 (by omega)) ▸ hasChain_any _ _ _ _ _ _ _ _ cS cH cF cL M.now (b : Int) W (by omega)
  have HAh : Hid (∀ W : World, W.heap[B]? = some (.cells #[.slice aS M.slots.length cS, .slice aH M.heads.length cH, .slice aF M.free.length cF, .slice aL M.locks.length cL, .int .i64 M.now] 25 (0, 0)) → Calls Try.prog 160 #[.pointer (some ⟨B, 0, none⟩), .int .i64 f.prev] W fun e w' => e = .returned (.bool true) ∧ Below W.heap.size W w') := fun W hB => ahead_any M B aS aH aF aL cS cH cF cL f.prev W hB hp0 hp1 hn1
  have HCt : Hid (∀ W : World, Lf w W B lo aS aH aF aL cS cH cF cL M f aK cK → Calls Try.prog 141 #[.pointer (some ⟨B, 0, none⟩), .int .i64 (b : Int), .int .i64 f.prev, .int .i64 (j : Int)] W fun e w' => e = .returned (.tuple #[]) ∧ Has w' B lo (Up w (Foot B aS aH aF aL)) (cutM M b f.prev (j : Int)) ∧ Fine w w' (Foot B aS aH aF aL)) := fun W h => (cut_fine (Z := Foot B aS aH aF aL) ⟨_, _, _, _, _, _, _, _, h.m, fun _ h => h⟩ hM hjl hbl hp1).mono (fun e w' h' => ⟨h'.1, h.after h'.2.1 h'.2.2⟩)
  generalize cutM M b f.prev (j : Int) = M' at *
  obtain ⟨of, hof⟩ : ∃ o : Obj, o = .cells #[.int .i64 f.c.kind, .int .i64 f.c.a, .int .i64 f.c.b, .int .i64 f.c.time, .int .i64 f.c.bk, .int .i64 f.c.slot, .int .i64 f.pl, .int .i64 f.cur, .int .i64 f.prev, .int .i64 f.slot, .int .i64 f.n, .slice aK f.keys.length cK, .bool f.done, .int .i64 f.e] 51 := ⟨_, rfl⟩
  have HE : Hid (Lf w (w.alloc of) B lo aS aH aF aL cS cH cF cL M f aK cK) := Lf.first m f aK cK hof
  obtain ⟨f0, f1, f2, f3, f4, f5, f6, f7, f8, f9, f10, f11, f12, f13, ff, fs⟩ := framef HE.out.fb
  clear m hM hf hns hnh hcur hc1 hn1 hp0 hp1 hat hst hj
  go_enter Try.func157, Try.ntmps157
  go_wp2_with fail
  rw [← hof]
  generalize w.alloc of = W0 at *
  subst hof
  clear f0 f1 f2 f3 f4 f5 f6 f7 f8 f9 f10 f11 f12 f13 ff fs
  refine (HSt.out _ (by exact HE.out)).mono ?_
  rintro e w1 ⟨rfl, h9⟩
  have HE1 : Hid (Lf w w1 B lo aS aH aF aL cS cH cF cL M f aK cK) := h9
  clear HE h9
  obtain ⟨q0, q1, q2, q3, q4, -, -, -, -, -, qs⟩ := boxf HE1.out.m.box
  obtain ⟨f0, f1, f2, f3, f4, f5, f6, f7, f8, f9, f10, f11, f12, f13, ff, fs⟩ := framef HE1.out.fb
  go_wp2_with fail
  clear q0 q1 q2 q3 q4 qs f0 f1 f2 f3 f4 f5 f6 f7 f8 f9 f10 f11 f12 f13 ff fs
  refine (HCh.out w1).mono ?_
  rintro e w2 ⟨rfl, hb2⟩
  have HE2 : Hid (Lf w w2 B lo aS aH aF aL cS cH cF cL M f aK cK) := HE1.out.below hb2
  clear HE1 hb2
  obtain ⟨q0, q1, q2, q3, q4, -, -, -, -, -, qs⟩ := boxf HE2.out.m.box
  obtain ⟨f0, f1, f2, f3, f4, f5, f6, f7, f8, f9, f10, f11, f12, f13, ff, fs⟩ := framef HE2.out.fb
  go_wp2_with fail
  clear q0 q1 q2 q3 q4 qs f0 f1 f2 f3 f4 f5 f6 f7 f8 f9 f10 f11 f12 f13 ff fs
  refine (HAh.out w2 HE2.out.m.box).mono ?_
  rintro e w3 ⟨rfl, hb3⟩
  have HE3 : Hid (Lf w w3 B lo aS aH aF aL cS cH cF cL M f aK cK) := HE2.out.below hb3
  clear HE2 hb3
  obtain ⟨q0, q1, q2, q3, q4, -, -, -, -, -, qs⟩ := boxf HE3.out.m.box
  obtain ⟨f0, f1, f2, f3, f4, f5, f6, f7, f8, f9, f10, f11, f12, f13, ff, fs⟩ := framef HE3.out.fb
  go_wp2_with fail
  clear q0 q1 q2 q3 q4 qs f0 f1 f2 f3 f4 f5 f6 f7 f8 f9 f10 f11 f12 f13 ff fs
  refine (HCt.out w3 HE3.out).mono ?_
  rintro e w4 ⟨rfl, hh4, hf4⟩
  have HF4 : Hid (Has w4 B lo (Up w (Foot B aS aH aF aL)) M' ∧ Fine w w4 (Foot B aS aH aF aL)) := ⟨hh4, hf4⟩
  clear hh4 hf4 HE3
  go_wp2
  go_ret2
  exact ⟨rfl, HF4.out⟩
end Go.Proofs.Ytjgcbbakgklniab.mm
