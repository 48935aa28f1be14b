/- Changes of memory of one's own by what an Add is made of, and what they leave: a slot is taken, linked; a lock is had, given back. -/
import Derived.Test.YtdbilofhcadmoabC12
import Derived.Test.YtdbilofhcadmoabC13
import Derived.Test.YtdbilofhcadmoabC14
import Derived.Test.YtdbilofhcadmoabC09
import Derived.Test.YtdbilofhcadmoabC05
import Derived.Carry
namespace Go.Proofs.Ytdbilofhcadmoab.mm
open Go.ChangeShapes Go.WideShapes Go.ChangeAt Go.RowKit Go.Joins
set_option maxRecDepth 100000
set_option linter.unusedVariables false

theorem Fine.set6 {w w1 : World} {Z : Nat → Prop} {g : Nat} (h : Fine w w1 Z) (hk : Z g ∨ w.heap.size ≤ g) (o : Nat) (s : Sl) : Fine w (mm.set6 w1 g o s) Z := by
  unfold mm.set6
  exact (((((h.set hk _ _).set hk _ _).set hk _ _).set hk _ _).set hk _ _).set hk _ _

theorem last_form {M : Mm} (hM : Ok M) (hF : 0 < M.free.length) (ka kb u : Int) : ∃ n j : Nat, ∃ hn : M.free.length = n + 1, ∃ hj : j < M.slots.length, M.free[n]'(by omega) = j ∧ lastF M = j ∧ takeM M ka kb u = { M with slots := M.slots.set j ⟨1, ka, kb, u, false, M.slots[j].next⟩, free := M.free.take n } := by
  have hl := last_ok hM (by omega)
  obtain ⟨n, hn⟩ : ∃ n, M.free.length = n + 1 := ⟨M.free.length - 1, by omega⟩
  have hnF : n < M.free.length := by omega
  have hlast : lastF M = M.free[n] := by
    show M.free.getD (M.free.length - 1) 0 = _
    rw [show M.free.length - 1 = n by omega]
    simp [List.getD_eq_getElem?_getD, hnF]
  obtain ⟨j, hj⟩ : ∃ j : Nat, lastF M = j := ⟨(lastF M).toNat, by omega⟩
  have hjS : j < M.slots.length := by omega
  refine ⟨n, j, hn, hjS, hlast.symm.trans hj, hj, ?_⟩
  unfold takeM
  rw [hj, show M.free.length - 1 = n by omega]
  simp [List.getD_eq_getElem?_getD, hjS]

theorem take_fine {M : Mm} {w : World} {B lo : Nat} {Z : Nat → Prop} {ka kb u : Int} (H : Has w B lo Z M) (hM : Ok M) (hF : 0 < M.free.length) :
    Calls Try.prog 140 #[.pointer (some ⟨B, 0, none⟩), .agg #[.int .i64 ka, .int .i64 kb], .int .i64 u] w fun e w' => e = .returned (.tuple #[.int .i64 (lastF M), .bool true]) ∧ Has w' B lo (Up w Z) (takeM M ka kb u) ∧ Fine w w' Z := by
  obtain ⟨aS, aH, aF, aL, cS, cH, cF, cL, m, hf⟩ := H
  obtain ⟨n, j, hn, hjS, hFj, hj, hT⟩ := last_form hM hF ka kb u
  obtain ⟨gS, rfl, oS, lS, -, -⟩ := row_form m.c.s (by omega)
  obtain ⟨gF, rfl, oF, lF, kF, kF2⟩ := row_form m.c.f hF
  rw [hT, hj]
  refine (take_in w B lo gS gF n j cS cH cF cL aH aL M ka kb u m hn hjS hFj (by omega) kF2).mono ?_
  rintro e w' ⟨rfl, w1, hb1, rfl⟩
  have mp := ((m.below hb1).pop hn).set6 (j := j) hjS ⟨1, ka, kb, u, false, M.slots[j].next⟩
  have kp : Fine w _ Z := (((Fine.of_below Z hb1).set (k := B) (.inl (hf _ (.inl rfl))) 2 (.slice (some ⟨gF, 0, none⟩) n cF))).set6 (.inl (hf gS (.inr (.inl ⟨_, rfl, rfl⟩)))) (j * 6) ⟨1, ka, kb, u, false, M.slots[j].next⟩
  generalize mm.set6 (w1.setCell ⟨B, 2, none⟩ (.slice (some ⟨gF, 0, none⟩) n cF)) gS (j * 6) ⟨1, ka, kb, u, false, M.slots[j].next⟩ = W at *
  have hb : Below W.heap.size W W.drew := (Below.refl _ _).drew
  exact ⟨rfl, ⟨_, _, _, _, _, _, _, _, mp.below hb, fun k hk => .inl (hf k hk)⟩, kp.below hb⟩

theorem take_none {M : Mm} {w : World} {B lo : Nat} {Z : Nat → Prop} {ka kb u : Int} (H : Has w B lo Z M) (hF : M.free.length = 0) :
    Calls Try.prog 140 #[.pointer (some ⟨B, 0, none⟩), .agg #[.int .i64 ka, .int .i64 kb], .int .i64 u] w fun e w' => e = .returned (.tuple #[.int .i64 0, .bool false]) ∧ Below w.heap.size w w' := by
  obtain ⟨aS, aH, aF, aL, cS, cH, cF, cL, m, hf⟩ := H
  have hB := m.box
  rw [hF] at hB
  exact take_no w B _ _ _ _ aF cF ka kb u hB

theorem rtake_fine {M : Mm} {w : World} {B lo : Nat} {Z : Nat → Prop} {ka kb u : Int} (H : Has w B lo Z M) (hM : Ok M) (hF : 0 < M.free.length) :
    Calls Try.prog 122 #[.pointer (some ⟨B, 0, none⟩), .agg #[.int .i64 ka, .int .i64 kb], .int .i64 u] w fun e w' => e = .returned (.tuple #[.int .i64 (lastF M), .bool true]) ∧ Has w' B lo (Up w Z) (takeM M ka kb u) ∧ Fine w w' Z := by
  have hfew := free_few hM
  obtain ⟨aS, aH, aF, aL, cS, cH, cF, cL, m, hf⟩ := H
  obtain ⟨n, j, hn, hjS, hFj, hj, hT⟩ := last_form hM hF ka kb u
  obtain ⟨gS, rfl, oS, lS, -, -⟩ := row_form m.c.s (by omega)
  obtain ⟨gF, rfl, oF, lF, kF, kF2⟩ := row_form m.c.f hF
  rw [hT, hj]
  have hnF : n < M.free.length := by omega
  obtain ⟨c0, c1, c2, c3, c4, c5, fz⟩ := row_cells m.c.s hjS
  have cx := (row_cell m.c.f hnF).1
  rw [hFj] at cx
  have hB := m.box
  rw [hn] at hB
  have m1 := m.m1
  have hlen : (M.free.take n).length = n := by rw [List.length_take]; omega
  have hFc : ∀ q u, (encI (M.free.take n))[q]? = some u → w.cell? ⟨gF, q, none⟩ = some u := fun q u h => by
    have hq : q < n := by
      have := (List.getElem?_eq_some_iff.1 h).1
      rwa [encI_len, hlen] at this
    rw [m.c.f.cellAt q (by omega), ← h]
    simp [encI, List.getElem?_take_of_lt hq]
  refine (rtake_in w B gS gF _ n j cS cF _ _ _ ka kb u _ _ _ _ _ _ (M.free.take n) hB (by omega) kF2 (by omega) hjS (by omega) m.ne_s m.ne_f lS lF hlen cx hFc c0 c1 c2 c3 c4 c5 fz).mono ?_
  rintro e w' ⟨rfl, a', c', w1, hb, ho, k, rfl⟩
  have hi' := own_hi ho
  have mp := (m.newF (M.free.take n) (by rw [hlen]; omega) hb hlen ho).set6 (j := j) hjS ⟨1, ka, kb, u, false, M.slots[j].next⟩
  have kp : Fine w _ Z := (((Fine.of_below Z hb).set (k := B) (.inl (hf _ (.inl rfl))) 2 (.slice a' n c'))).set6 (.inl (hf gS (.inr (.inl ⟨_, rfl, rfl⟩)))) (j * 6) ⟨1, ka, kb, u, false, M.slots[j].next⟩
  generalize mm.set6 (w1.setCell ⟨B, 2, none⟩ (.slice a' n c')) gS (j * 6) ⟨1, ka, kb, u, false, M.slots[j].next⟩ = W at *
  have hbl : Below W.heap.size W (W.drewN k) := below_draws _ _ k
  exact ⟨rfl, ⟨_, _, _, _, _, _, _, _, mp.below hbl, foot_hold hf hi'⟩, kp.below hbl⟩

theorem rtake_none {M : Mm} {w : World} {B lo : Nat} {Z : Nat → Prop} {ka kb u : Int} (H : Has w B lo Z M) (hF : M.free.length = 0) :
    Calls Try.prog 122 #[.pointer (some ⟨B, 0, none⟩), .agg #[.int .i64 ka, .int .i64 kb], .int .i64 u] w fun e w' => e = .returned (.tuple #[.int .i64 0, .bool false]) ∧ Below w.heap.size w w' := by
  obtain ⟨aS, aH, aF, aL, cS, cH, cF, cL, m, hf⟩ := H
  have hB := m.box
  rw [hF] at hB
  exact rtake_no w B _ _ _ _ aF cF ka kb u hB

theorem linkB_at (M : Mm) (j b : Nat) : linkB M j b = linkAt M j b := rfl

theorem link_fine {M : Mm} {w : World} {B lo : Nat} {Z : Nat → Prop} {j b : Nat} (H : Has w B lo Z M) (hM : Ok M) (hj : j < M.slots.length) (hb : b < M.heads.length) :
    Calls Try.prog 80 #[.pointer (some ⟨B, 0, none⟩), .int .i64 b, .int .i64 j] w fun e w' => e = .returned (.tuple #[]) ∧ Has w' B lo (Up w Z) (linkB M j b) ∧ Fine w w' Z := by
  obtain ⟨aS, aH, aF, aL, cS, cH, cF, cL, m, hf⟩ := H
  obtain ⟨gS, rfl, oS, lS, -, -⟩ := row_form m.c.s (by omega)
  obtain ⟨gH, rfl, oH, lH, -, -⟩ := row_form m.c.h (by omega)
  obtain ⟨c0, c1, c2, c3, c4, c5, fz⟩ := row_cells m.c.s hj
  obtain ⟨ch, fh⟩ := row_cell m.c.h hb
  have dj : gS ≠ gH := fun e => own_dj m.c.s m.c.h (by decide) gS rfl (by rw [e]; rfl)
  refine (link_in w B gS gH _ _ j b cS cH _ _ _ _ _ _ m.box hj hb hM.ns hM.nh.2 m.ne_s dj m.ne_h lS lH c4 c5 fz ch fh).mono ?_
  rintro e w' ⟨rfl, rfl⟩
  have hs : slotAt M j = M.slots[j] := slotAt_lt hj
  have hhd : headM M b = M.heads[b] := by simp [headM, List.getD_eq_getElem?_getD, hb]
  rw [linkB_at]
  unfold linkAt
  rw [hs, hhd]
  have h5 := encS_set5 M.slots j hj M.heads[b]
  have h2 := encS_set2 M.slots j hj M.heads[b] true
  rw [h5] at h2
  have m2 := ((m.setS (j * 6 + 5) (.int .i64 M.heads[b]) _ h5).setS (j * 6 + 4) (.bool true) _ h2).setH b ((j : Int) + 1)
  have zS : Z gS ∨ w.heap.size ≤ gS := .inl (hf gS (.inr (.inl ⟨_, rfl, rfl⟩)))
  have zH : Z gH ∨ w.heap.size ≤ gH := .inl (hf gH (.inr (.inr (.inl ⟨_, rfl, rfl⟩))))
  have k2 : Fine w _ Z := (((Fine.refl w Z).set zS (j * 6 + 5) (.int .i64 M.heads[b])).set zS (j * 6 + 4) (.bool true)).set zH b (.int .i64 ((j : Int) + 1))
  generalize ((w.setCell ⟨gS, j * 6 + 5, none⟩ (.int .i64 M.heads[b])).setCell ⟨gS, j * 6 + 4, none⟩ (.bool true)).setCell ⟨gH, b, none⟩ (.int .i64 ((j : Int) + 1)) = W at *
  have hbl : Below W.heap.size W W.drew := (Below.refl _ _).drew
  exact ⟨rfl, ⟨_, _, _, _, _, _, _, _, m2.below hbl, fun k hk => .inl (hf k hk)⟩, k2.below hbl⟩

theorem rlink_fine {M : Mm} {w : World} {B lo : Nat} {Z : Nat → Prop} {j b : Nat} (H : Has w B lo Z M) (hM : Ok M) (hj : j < M.slots.length) (hb : b < M.heads.length) :
    Calls Try.prog 124 #[.pointer (some ⟨B, 0, none⟩), .int .i64 j, .int .i64 b] w fun e w' => e = .returned (.tuple #[]) ∧ Has w' B lo (Up w Z) (linkB M j b) ∧ Fine w w' Z := by
  obtain ⟨aS, aH, aF, aL, cS, cH, cF, cL, m, hf⟩ := H
  obtain ⟨gS, rfl, oS, lS, -, -⟩ := row_form m.c.s (by omega)
  obtain ⟨gH, rfl, oH, lH, -, -⟩ := row_form m.c.h (by omega)
  obtain ⟨c0, c1, c2, c3, c4, c5, fz⟩ := row_cells m.c.s hj
  obtain ⟨ch, fh⟩ := row_cell m.c.h hb
  have dj : gS ≠ gH := fun e => own_dj m.c.s m.c.h (by decide) gS rfl (by rw [e]; rfl)
  refine (rlink_in w B gS gH _ _ j b cS cH _ _ _ _ _ _ _ _ _ _ m.box hj hb hM.ns hM.nh.2 m.ne_s dj m.ne_h lS lH c0 c1 c2 c3 c4 c5 fz ch fh).mono ?_
  rintro e w' ⟨rfl, ob, rfl⟩
  have hs : slotAt M j = M.slots[j] := slotAt_lt hj
  have hhd : headM M b = M.heads[b] := by simp [headM, List.getD_eq_getElem?_getD, hb]
  rw [linkB_at]
  unfold linkAt
  rw [hs, hhd]
  have m2 := (m.set6 (j := j) hj ⟨M.slots[j].refs, M.slots[j].a, M.slots[j].b, M.slots[j].unt, true, M.heads[b]⟩).setH b ((j : Int) + 1)
  have zS : Z gS ∨ w.heap.size ≤ gS := .inl (hf gS (.inr (.inl ⟨_, rfl, rfl⟩)))
  have zH : Z gH ∨ w.heap.size ≤ gH := .inl (hf gH (.inr (.inr (.inl ⟨_, rfl, rfl⟩))))
  have k2 : Fine w _ Z := ((Fine.refl w Z).set6 zS (j * 6) ⟨M.slots[j].refs, M.slots[j].a, M.slots[j].b, M.slots[j].unt, true, M.heads[b]⟩).set zH b (.int .i64 ((j : Int) + 1))
  generalize (mm.set6 w gS (j * 6) ⟨M.slots[j].refs, M.slots[j].a, M.slots[j].b, M.slots[j].unt, true, M.heads[b]⟩).setCell ⟨gH, b, none⟩ (.int .i64 ((j : Int) + 1)) = W at *
  have hbl : Below W.heap.size W ((W.alloc ob).drew) := (one_below W ob).drew
  exact ⟨rfl, ⟨_, _, _, _, _, _, _, _, m2.below hbl, fun k hk => .inl (hf k hk)⟩, k2.below hbl⟩

/- Locks. -/
theorem isLockOf_any (w : World) (B gL nL b cL : Nat) (sv hv fv nv : Value) (x t : Int)
    (hB : w.heap[B]? = some (.cells #[sv, hv, fv, .slice (some ⟨gL, 0, none⟩) nL cL, nv] 25 (0, 0))) (hb : b < nL) (hn : nL ≤ 1000) (c : w.cell? ⟨gL, b, none⟩ = some (.int .i64 x)) :
    Calls Try.prog 161 #[.pointer (some ⟨B, 0, none⟩), .int .i64 b, .int .i64 t] w fun e w' => e = .returned (.bool (x == t)) ∧ w = w' := by
  obtain ⟨q0, q1, q2, q3, q4, -, -, -, -, -, qs⟩ := boxf hB
  have hw : inB (b : Int) 0 ((nL : Int) - 1) = true := (inB_iff _ _ _).2 (by omega)
  have HW : Hid (∀ W : World, Calls Try.prog 81 #[.int .i64 (b : Int), .int .i64 0, .int .i64 ((nL : Int) - 1)] W fun e w' => e = .returned (.bool true) ∧ W = w') := fun W => hw ▸ within_any _ _ _ W
  clear hB hw
  go_enter Try.func161, Try.ntmps161
  go_wp2_with (go_at_call 81; refine (HW.out _).mono ?_; rintro e w1 ⟨rfl, rfl⟩)
  go_ret
  exact ⟨rfl, rfl⟩

theorem lock_yes (w : World) (B gL nL b cL : Nat) (sv hv fv nv : Value) (t : Int)
    (hB : w.heap[B]? = some (.cells #[sv, hv, fv, .slice (some ⟨gL, 0, none⟩) nL cL, nv] 25 (0, 0))) (hb : b < nL) (hn : nL ≤ 1000) (c : w.cell? ⟨gL, b, none⟩ = some (.int .i64 (-1))) (fz : w.frozen? ⟨gL, b, none⟩ = false) :
    Calls Try.prog 155 #[.pointer (some ⟨B, 0, none⟩), .int .i64 b, .int .i64 t] w fun e w' => e = .returned (.bool true) ∧ w.setCell ⟨gL, b, none⟩ (.int .i64 t) = w' := by
  have HW : Hid (Calls Try.prog 161 #[.pointer (some ⟨B, 0, none⟩), .int .i64 b, .int .i64 (-1)] w fun e w' => e = .returned (.bool true) ∧ w = w') := isLockOf_any w B gL nL b cL sv hv fv nv (-1) (-1) hB hb hn c
  obtain ⟨q0, q1, q2, q3, q4, -, -, -, -, -, qs⟩ := boxf hB
  clear hB
  go_enter Try.func155, Try.ntmps155
  go_wp2_with (go_at_call 161; refine HW.out.mono ?_; rintro e w1 ⟨rfl, rfl⟩)
  go_ret
  exact ⟨rfl, rfl⟩

theorem lock_no (w : World) (B gL nL b cL : Nat) (sv hv fv nv : Value) (x t : Int)
    (hB : w.heap[B]? = some (.cells #[sv, hv, fv, .slice (some ⟨gL, 0, none⟩) nL cL, nv] 25 (0, 0))) (hb : b < nL) (hn : nL ≤ 1000) (c : w.cell? ⟨gL, b, none⟩ = some (.int .i64 x)) (hx : (x == -1) = false) :
    Calls Try.prog 155 #[.pointer (some ⟨B, 0, none⟩), .int .i64 b, .int .i64 t] w fun e w' => e = .returned (.bool false) ∧ w = w' := by
  have HW : Hid (Calls Try.prog 161 #[.pointer (some ⟨B, 0, none⟩), .int .i64 b, .int .i64 (-1)] w fun e w' => e = .returned (.bool false) ∧ w = w') := hx ▸ isLockOf_any w B gL nL b cL sv hv fv nv x (-1) hB hb hn c
  obtain ⟨q0, q1, q2, q3, q4, -, -, -, -, -, qs⟩ := boxf hB
  clear hB hx
  go_enter Try.func155, Try.ntmps155
  go_wp2_with (go_at_call 161; refine HW.out.mono ?_; rintro e w1 ⟨rfl, rfl⟩)
  go_ret
  exact ⟨rfl, rfl⟩

theorem unlock_yes (w : World) (B gL nL b cL : Nat) (sv hv fv nv : Value) (t : Int)
    (hB : w.heap[B]? = some (.cells #[sv, hv, fv, .slice (some ⟨gL, 0, none⟩) nL cL, nv] 25 (0, 0))) (hb : b < nL) (hn : nL ≤ 1000) (c : w.cell? ⟨gL, b, none⟩ = some (.int .i64 t)) (fz : w.frozen? ⟨gL, b, none⟩ = false) :
    Calls Try.prog 156 #[.pointer (some ⟨B, 0, none⟩), .int .i64 b, .int .i64 t] w fun e w' => e = .returned (.tuple #[]) ∧ w.setCell ⟨gL, b, none⟩ (.int .i64 (-1)) = w' := by
  have HW : Hid (Calls Try.prog 161 #[.pointer (some ⟨B, 0, none⟩), .int .i64 b, .int .i64 t] w fun e w' => e = .returned (.bool true) ∧ w = w') := (show (t == t) = true by simp) ▸ isLockOf_any w B gL nL b cL sv hv fv nv t t hB hb hn c
  obtain ⟨q0, q1, q2, q3, q4, -, -, -, -, -, qs⟩ := boxf hB
  clear hB
  go_enter Try.func156, Try.ntmps156
  go_wp2_with (go_at_call 161; refine HW.out.mono ?_; rintro e w1 ⟨rfl, rfl⟩)
  go_end0
  exact ⟨rfl, rfl⟩

theorem unlock_no (w : World) (B gL nL b cL : Nat) (sv hv fv nv : Value) (x t : Int)
    (hB : w.heap[B]? = some (.cells #[sv, hv, fv, .slice (some ⟨gL, 0, none⟩) nL cL, nv] 25 (0, 0))) (hb : b < nL) (hn : nL ≤ 1000) (c : w.cell? ⟨gL, b, none⟩ = some (.int .i64 x)) (hx : (x == t) = false) :
    Calls Try.prog 156 #[.pointer (some ⟨B, 0, none⟩), .int .i64 b, .int .i64 t] w fun e w' => e = .returned (.tuple #[]) ∧ w = w' := by
  have HW : Hid (Calls Try.prog 161 #[.pointer (some ⟨B, 0, none⟩), .int .i64 b, .int .i64 t] w fun e w' => e = .returned (.bool false) ∧ w = w') := hx ▸ isLockOf_any w B gL nL b cL sv hv fv nv x t hB hb hn c
  obtain ⟨q0, q1, q2, q3, q4, -, -, -, -, -, qs⟩ := boxf hB
  clear hB hx
  go_enter Try.func156, Try.ntmps156
  go_wp2_with (go_at_call 161; refine HW.out.mono ?_; rintro e w1 ⟨rfl, rfl⟩)
  go_end0
  exact ⟨rfl, rfl⟩

theorem rlocks_yes (w : World) (B gL nL b cL : Nat) (sv hv fv nv : Value) (t : Int)
    (hB : w.heap[B]? = some (.cells #[sv, hv, fv, .slice (some ⟨gL, 0, none⟩) nL cL, nv] 25 (0, 0))) (hb : b < nL) (hn : nL ≤ 1000) (c : w.cell? ⟨gL, b, none⟩ = some (.int .i64 (-1))) (fz : w.frozen? ⟨gL, b, none⟩ = false) :
    Calls Try.prog 123 #[.pointer (some ⟨B, 0, none⟩), .int .i64 b, .int .i64 t] w fun e w' => e = .returned (.bool true) ∧ w.setCell ⟨gL, b, none⟩ (.int .i64 t) = w' := by
  obtain ⟨q0, q1, q2, q3, q4, -, -, -, -, -, qs⟩ := boxf hB
  clear hB
  go_enter Try.func123, Try.ntmps123
  go_wp2
  go_ret
  exact ⟨rfl, rfl⟩

theorem rlocks_no (w : World) (B gL nL b cL : Nat) (sv hv fv nv : Value) (x t : Int)
    (hB : w.heap[B]? = some (.cells #[sv, hv, fv, .slice (some ⟨gL, 0, none⟩) nL cL, nv] 25 (0, 0))) (hb : b < nL) (hn : nL ≤ 1000) (c : w.cell? ⟨gL, b, none⟩ = some (.int .i64 x)) (hx : (x == -1) = false) :
    Calls Try.prog 123 #[.pointer (some ⟨B, 0, none⟩), .int .i64 b, .int .i64 t] w fun e w' => e = .returned (.bool false) ∧ w = w' := by
  obtain ⟨q0, q1, q2, q3, q4, -, -, -, -, -, qs⟩ := boxf hB
  clear hB
  go_enter Try.func123, Try.ntmps123
  go_wp2
  go_ret
  exact ⟨rfl, rfl⟩

theorem runlocks_yes (w : World) (B gL nL b cL : Nat) (sv hv fv nv : Value) (t : Int)
    (hB : w.heap[B]? = some (.cells #[sv, hv, fv, .slice (some ⟨gL, 0, none⟩) nL cL, nv] 25 (0, 0))) (hb : b < nL) (hn : nL ≤ 1000) (c : w.cell? ⟨gL, b, none⟩ = some (.int .i64 t)) (fz : w.frozen? ⟨gL, b, none⟩ = false) :
    Calls Try.prog 125 #[.pointer (some ⟨B, 0, none⟩), .int .i64 b, .int .i64 t] w fun e w' => e = .returned (.tuple #[]) ∧ w.setCell ⟨gL, b, none⟩ (.int .i64 (-1)) = w' := by
  obtain ⟨q0, q1, q2, q3, q4, -, -, -, -, -, qs⟩ := boxf hB
  clear hB
  have ht : (t == t) = true := by simp
  go_enter Try.func125, Try.ntmps125
  go_wp2
  go_end0
  exact ⟨rfl, rfl⟩

theorem runlocks_no (w : World) (B gL nL b cL : Nat) (sv hv fv nv : Value) (x t : Int)
    (hB : w.heap[B]? = some (.cells #[sv, hv, fv, .slice (some ⟨gL, 0, none⟩) nL cL, nv] 25 (0, 0))) (hb : b < nL) (hn : nL ≤ 1000) (c : w.cell? ⟨gL, b, none⟩ = some (.int .i64 x)) (hx : (x == t) = false) :
    Calls Try.prog 125 #[.pointer (some ⟨B, 0, none⟩), .int .i64 b, .int .i64 t] w fun e w' => e = .returned (.tuple #[]) ∧ w = w' := by
  obtain ⟨q0, q1, q2, q3, q4, -, -, -, -, -, qs⟩ := boxf hB
  clear hB
  go_enter Try.func125, Try.ntmps125
  go_wp2
  go_end0
  exact ⟨rfl, rfl⟩

/- What Lock and Unlock, and the document's own, make of memory: L says what is had, t who asks. -/
def lockN (M : Mm) (b : Nat) (t : Int) : Mm := if lockAt M b = -1 then lockM M b t else M
def openN (M : Mm) (b : Nat) (t : Int) : Mm := if lockAt M b = t then lockM M b (-1) else M

theorem lockAt_get {M : Mm} {b : Nat} (hb : b < M.locks.length) : lockAt M b = M.locks[b] := by simp [lockAt, List.getD_eq_getElem?_getD, hb]

theorem lock_made {M : Mm} {w : World} {B lo b : Nat} {Z : Nat → Prop} {aS aH aF : Option Addr} {gL cS cH cF cL : Nat} {t : Int} (m : Mine w B lo aS aH aF (some ⟨gL, 0, none⟩) cS cH cF cL M) (hf : ∀ k, Foot B aS aH aF (some ⟨gL, 0, none⟩) k → Z k) :
    Has (w.setCell ⟨gL, b, none⟩ (.int .i64 t)) B lo (Up w Z) (lockM M b t) ∧ Fine w (w.setCell ⟨gL, b, none⟩ (.int .i64 t)) Z :=
  ⟨⟨_, _, _, _, _, _, _, _, m.setL b t, fun k hk => .inl (hf k hk)⟩, (Fine.refl w Z).set (.inl (hf gL (.inr (.inr (.inr (.inr ⟨_, rfl, rfl⟩)))))) _ _⟩

theorem lock_fine {M : Mm} {w : World} {B lo b : Nat} {Z : Nat → Prop} (t : Int) (H : Has w B lo Z M) (hM : Ok M) (hb : b < M.heads.length) :
    Calls Try.prog 155 #[.pointer (some ⟨B, 0, none⟩), .int .i64 b, .int .i64 t] w fun e w' => e = .returned (.bool (lockAt M b == -1)) ∧ Has w' B lo (Up w Z) (lockN M b t) ∧ Fine w w' Z := by
  have hl := hM.nl
  have hh := hM.nh.2
  have H' := H
  obtain ⟨aS, aH, aF, aL, cS, cH, cF, cL, m, hf⟩ := H
  obtain ⟨gL, rfl, oL, lL, -, -⟩ := row_form m.c.l (by omega)
  obtain ⟨c, fz⟩ := row_cell m.c.l (j := b) (by omega)
  rw [← lockAt_get (by omega)] at c
  unfold lockN
  by_cases h : lockAt M b = -1
  · rw [h] at c ⊢
    refine (lock_yes w B gL _ b cL _ _ _ _ t m.box (by omega) (by omega) c fz).mono ?_
    rintro e w' ⟨rfl, rfl⟩
    rw [if_pos rfl]
    exact ⟨rfl, lock_made m hf⟩
  · have hx : (lockAt M b == -1) = false := by simpa using h
    rw [hx, if_neg h]
    refine (lock_no w B gL _ b cL _ _ _ _ _ t m.box (by omega) (by omega) c hx).mono ?_
    rintro e w' ⟨rfl, rfl⟩
    exact ⟨rfl, H'.up, .refl _ _⟩

theorem rlock_fine {M : Mm} {w : World} {B lo b : Nat} {Z : Nat → Prop} (t : Int) (H : Has w B lo Z M) (hM : Ok M) (hb : b < M.heads.length) :
    Calls Try.prog 123 #[.pointer (some ⟨B, 0, none⟩), .int .i64 b, .int .i64 t] w fun e w' => e = .returned (.bool (lockAt M b == -1)) ∧ Has w' B lo (Up w Z) (lockN M b t) ∧ Fine w w' Z := by
  have hl := hM.nl
  have hh := hM.nh.2
  have H' := H
  obtain ⟨aS, aH, aF, aL, cS, cH, cF, cL, m, hf⟩ := H
  obtain ⟨gL, rfl, oL, lL, -, -⟩ := row_form m.c.l (by omega)
  obtain ⟨c, fz⟩ := row_cell m.c.l (j := b) (by omega)
  rw [← lockAt_get (by omega)] at c
  unfold lockN
  by_cases h : lockAt M b = -1
  · rw [h] at c ⊢
    refine (rlocks_yes w B gL _ b cL _ _ _ _ t m.box (by omega) (by omega) c fz).mono ?_
    rintro e w' ⟨rfl, rfl⟩
    rw [if_pos rfl]
    exact ⟨rfl, lock_made m hf⟩
  · have hx : (lockAt M b == -1) = false := by simpa using h
    rw [hx, if_neg h]
    refine (rlocks_no w B gL _ b cL _ _ _ _ _ t m.box (by omega) (by omega) c hx).mono ?_
    rintro e w' ⟨rfl, rfl⟩
    exact ⟨rfl, H'.up, .refl _ _⟩

theorem unlock_fine {M : Mm} {w : World} {B lo b : Nat} {Z : Nat → Prop} (t : Int) (H : Has w B lo Z M) (hM : Ok M) (hb : b < M.heads.length) :
    Calls Try.prog 156 #[.pointer (some ⟨B, 0, none⟩), .int .i64 b, .int .i64 t] w fun e w' => e = .returned (.tuple #[]) ∧ Has w' B lo (Up w Z) (openN M b t) ∧ Fine w w' Z := by
  have hl := hM.nl
  have hh := hM.nh.2
  have H' := H
  obtain ⟨aS, aH, aF, aL, cS, cH, cF, cL, m, hf⟩ := H
  obtain ⟨gL, rfl, oL, lL, -, -⟩ := row_form m.c.l (by omega)
  obtain ⟨c, fz⟩ := row_cell m.c.l (j := b) (by omega)
  rw [← lockAt_get (by omega)] at c
  unfold openN
  by_cases h : lockAt M b = t
  · rw [h] at c
    refine (unlock_yes w B gL _ b cL _ _ _ _ t m.box (by omega) (by omega) c fz).mono ?_
    rintro e w' ⟨rfl, rfl⟩
    rw [if_pos h]
    exact ⟨rfl, lock_made m hf⟩
  · have hx : (lockAt M b == t) = false := by simpa using h
    rw [if_neg h]
    refine (unlock_no w B gL _ b cL _ _ _ _ _ t m.box (by omega) (by omega) c hx).mono ?_
    rintro e w' ⟨rfl, rfl⟩
    exact ⟨rfl, H'.up, .refl _ _⟩

theorem runlock_fine {M : Mm} {w : World} {B lo b : Nat} {Z : Nat → Prop} (t : Int) (H : Has w B lo Z M) (hM : Ok M) (hb : b < M.heads.length) :
    Calls Try.prog 125 #[.pointer (some ⟨B, 0, none⟩), .int .i64 b, .int .i64 t] w fun e w' => e = .returned (.tuple #[]) ∧ Has w' B lo (Up w Z) (openN M b t) ∧ Fine w w' Z := by
  have hl := hM.nl
  have hh := hM.nh.2
  have H' := H
  obtain ⟨aS, aH, aF, aL, cS, cH, cF, cL, m, hf⟩ := H
  obtain ⟨gL, rfl, oL, lL, -, -⟩ := row_form m.c.l (by omega)
  obtain ⟨c, fz⟩ := row_cell m.c.l (j := b) (by omega)
  rw [← lockAt_get (by omega)] at c
  unfold openN
  by_cases h : lockAt M b = t
  · rw [h] at c
    refine (runlocks_yes w B gL _ b cL _ _ _ _ t m.box (by omega) (by omega) c fz).mono ?_
    rintro e w' ⟨rfl, rfl⟩
    rw [if_pos h]
    exact ⟨rfl, lock_made m hf⟩
  · have hx : (lockAt M b == t) = false := by simpa using h
    rw [if_neg h]
    refine (runlocks_no w B gL _ b cL _ _ _ _ _ t m.box (by omega) (by omega) c hx).mono ?_
    rintro e w' ⟨rfl, rfl⟩
    exact ⟨rfl, H'.up, .refl _ _⟩
end Go.Proofs.Ytdbilofhcadmoab.mm

/- The contracts of frame.CheckCall and of the document's own CheckCall. -/
namespace Go.Proofs.Ytdbilofhcadmoab.mm
open Go.ChangeShapes Go.WideShapes Go.ChangeAt Go.RowKit Go.Joins Go.Maps
set_option maxRecDepth 100000
set_option linter.unusedVariables false

theorem checkCall_any (aS aH aF aL : Option Addr) (nS nH nF nL cS cH cF cL : Nat) (now k a b t bk sl : Int) (w : World) (hn : nS ≤ 9223372036854775807) (hh : nH ≤ 9223372036854775807) :
    Calls Try.prog 24 #[.agg #[.slice aS nS cS, .slice aH nH cH, .slice aF nF cF, .slice aL nL cL, .int .i64 now], .agg #[.int .i64 k, .int .i64 a, .int .i64 b, .int .i64 t, .int .i64 bk, .int .i64 sl]] w fun e w' => e = .returned (.int .i64 (callE nS nH ⟨k, a, b, t, bk, sl⟩)) ∧ Below w.heap.size w w' := by
  have b0 : Below w.heap.size w ((w.alloc (.cells #[.slice aS nS cS, .slice aH nH cH, .slice aF nF cF, .slice aL nL cL, .int .i64 now] 25)).alloc (.cells #[.int .i64 k, .int .i64 a, .int .i64 b, .int .i64 t, .int .i64 bk, .int .i64 sl] 48)) := below_alloc2 w _ _
  have hk : ∀ W : World, Calls Try.prog 39 #[.agg #[.int .i64 a, .int .i64 b]] W fun e w' => e = .returned (.int .i64 (if keyB a b then 0 else 3)) ∧ Below W.heap.size W w' := fun W => kcheck_any a b W
  by_cases h13 : k = 1 ∨ k = 3
  · rw [callE_key h13]
    generalize (if keyB a b then (0 : Int) else 3) = kv at *
    rcases h13 with rfl | rfl
    all_goals
      go_enter Try.func24, Try.ntmps24
      go_wp2_with (go_at_call 39; refine (hk _).mono ?_; rintro e w1 ⟨rfl, hb1⟩)
      go_ret
      exact ⟨rfl, b0.trans (hb1.mono b0.size)⟩
  by_cases h2 : k = 2
  · subst h2
    clear h13
    rw [callE_add]
    cases hT : inB t 1 1000000
    · rw [Bool.false_and, if_neg (by simp)]
      go_enter Try.func24, Try.ntmps24
      go_wp2_with (go_at_call 81; refine (within_any _ _ _ _).mono ?_; rintro e w1 ⟨rfl, rfl⟩)
      go_ret
      exact ⟨rfl, b0⟩
    · rw [Bool.true_and]
      generalize (if keyB a b then (0 : Int) else 3) = kv at *
      go_enter Try.func24, Try.ntmps24
      go_wp2_with (first | (go_at_call 81; refine (within_any _ _ _ _).mono ?_; rintro e w1 ⟨rfl, rfl⟩) | (go_at_call 39; refine (hk _).mono ?_; rintro e w1 ⟨rfl, hb1⟩))
      go_ret
      exact ⟨rfl, b0.trans (hb1.mono b0.size)⟩
  by_cases h45 : k = 4 ∨ k = 5
  · rw [callE_bk h45]
    clear h13 h2
    have hc : ∀ W : World, Calls Try.prog 75 #[.agg #[.slice aS nS cS, .slice aH nH cH, .slice aF nF cF, .slice aL nL cL, .int .i64 now], .int .i64 bk] W fun e w' => e = .returned (.bool (inB bk 0 ((nH : Int) - 1))) ∧ Below W.heap.size W w' := fun W => hasChain_any aS aH aF aL nS nH nF nL cS cH cF cL now bk W hh
    cases hB : inB bk 0 ((nH : Int) - 1) <;> (rw [hB] at hc; rcases h45 with rfl | rfl)
    all_goals
      first | rw [if_pos rfl] | rw [if_neg (by simp)]
      go_enter Try.func24, Try.ntmps24
      go_wp2_with (go_at_call 75; refine (hc _).mono ?_; rintro e w1 ⟨rfl, hb1⟩)
      go_ret
      exact ⟨rfl, b0.trans (hb1.mono b0.size)⟩
  by_cases h6 : k = 6
  · subst h6
    clear h13 h2 h45
    rw [callE_leave]
    have hc : ∀ W : World, Calls Try.prog 78 #[.agg #[.slice aS nS cS, .slice aH nH cH, .slice aF nF cF, .slice aL nL cL, .int .i64 now], .int .i64 sl] W fun e w' => e = .returned (.bool (inB sl 0 ((nS : Int) - 1))) ∧ Below W.heap.size W w' := fun W => isSlot_any aS aH aF aL nS nH nF nL cS cH cF cL now sl W hn
    cases hB : inB sl 0 ((nS : Int) - 1) <;> rw [hB] at hc
    all_goals
      first | rw [if_pos rfl] | rw [if_neg (by simp)]
      go_enter Try.func24, Try.ntmps24
      go_wp2_with (go_at_call 78; refine (hc _).mono ?_; rintro e w1 ⟨rfl, hb1⟩)
      go_ret
      exact ⟨rfl, b0.trans (hb1.mono b0.size)⟩
  have hno : k < 1 ∨ 6 < k := by omega
  rw [callE_no hno]
  have e1 : (k == 1) = false := by rw [beq_eq_false_iff_ne]; omega
  have e2 : (k == 2) = false := by rw [beq_eq_false_iff_ne]; omega
  have e3 : (k == 3) = false := by rw [beq_eq_false_iff_ne]; omega
  have e4 : (k == 4) = false := by rw [beq_eq_false_iff_ne]; omega
  have e5 : (k == 5) = false := by rw [beq_eq_false_iff_ne]; omega
  have e6 : (k == 6) = false := by rw [beq_eq_false_iff_ne]; omega
  clear h13 h2 h45 h6 hno
  go_enter Try.func24, Try.ntmps24
  go_wp2
  go_ret
  exact ⟨rfl, b0⟩

theorem law4 : Keyed Try.prog 4 := bool_keyed Try.underlying4
theorem zero27 (w : World) : (zeroValue 27).run Try.prog w = .ok (.int .i64 0) w := by kernel_rfl
theorem under98 : Try.prog.underlying 98 = some (.map 4 27) := by kernel_rfl

theorem plainElem_int_inv {H : Type} {v : Value} {z : DataW H × List MemPlace} (h : plainElem Try.prog 27 v = some z) : ∃ x, v = .int .i64 x ∧ z = (.lit (.int .i64 x), []) := by
  unfold plainElem at h
  rw [Try.underlying27] at h
  cases v <;> simp at h
  obtain ⟨⟨rfl, _⟩, h⟩ := h
  exact ⟨_, rfl, h.symm⟩

/- Block g is the map of what is wrong. -/
def BadAt (w : World) (g : Nat) : Prop :=
  ∃ n, ∃ D : DataW Unit, w.ownsMap Try.prog 4 (plainElem Try.prog 27) g n D ∧ ∀ x : Bool, D.atKey (.bool x) (.lit (.int .i64 0)) = .lit (.int .i64 (if x then 0 else 3))
theorem BadAt.kept {w w' : World} {g : Nat} (h : BadAt w g) (hb : w'.heap[g]? = w.heap[g]?) : BadAt w' g := by
  obtain ⟨n, D, ⟨es, clock, hg, F, hs, hD⟩, hat⟩ := h
  exact ⟨n, D, ⟨es, clock, hb.trans hg, F, hs, hD⟩, hat⟩
theorem BadAt.lt {w : World} {g : Nat} (h : BadAt w g) : g < w.heap.size := by
  obtain ⟨n, D, ⟨es, clock, hg, F, hs, hD⟩, hat⟩ := h
  exact lt_of_block hg
theorem BadAt.look {w : World} {g : Nat} (h : BadAt w g) (x : Bool) : (Instr.lookup 98 (.map (some g)) (.bool x) false).run Try.prog w = .ok (.int .i64 (if x then 0 else 3)) w := by
  obtain ⟨n, D, ho, hat⟩ := h
  obtain ⟨v, ps, hrun, hv⟩ := ho.lookup law4 under98 (zero27 w) (plainElem_int Try.underlying27 (by decide)) (keyOf_bool_mk Try.underlying4 x)
  rw [hat x] at hv
  obtain ⟨y, rfl, hz⟩ := plainElem_int_inv hv
  rw [hrun]
  injection hz with h1 h2
  injection h1 with h1
  injection h1 with _ h1
  rw [h1]
theorem BadAt.put {w' : World} {g n : Nat} (h : w'.ownsMap Try.prog 4 (plainElem Try.prog 27) g n ((DataW.map [] : DataW Unit).put (.bool false) (.lit (.int .i64 3)))) : BadAt w' g := by
  refine ⟨n, _, h, fun x => ?_⟩
  cases x
  · rw [atKey_put_same ⟨_, rfl⟩ (by simp [WideAt.IsKeyLit])]; rfl
  · rw [atKey_put_other (by intro hh; cases hh)]; simp [DataW.atKey]

/- What a walk carries: memory's box, a call's, the map of what is wrong. -/
theorem callf {w : World} {B : Nat} {v0 v1 v2 v3 v4 v5 : Value} {t : TypeId} (h : w.heap[B]? = some (.cells #[v0, v1, v2, v3, v4, v5] t (0, 0))) :
    w.cell? ⟨B, 0, none⟩ = some v0 ∧ w.cell? ⟨B, 1, none⟩ = some v1 ∧ w.cell? ⟨B, 2, none⟩ = some v2 ∧ w.cell? ⟨B, 3, none⟩ = some v3 ∧ w.cell? ⟨B, 4, none⟩ = some v4 ∧ w.cell? ⟨B, 5, none⟩ = some v5 ∧ B < w.heap.size :=
  ⟨by rw [cell_of_block h]; rfl, by rw [cell_of_block h]; rfl, by rw [cell_of_block h]; rfl, by rw [cell_of_block h]; rfl, by rw [cell_of_block h]; rfl, by rw [cell_of_block h]; rfl, lt_of_block h⟩

theorem rcall_next {w1 w2 : World} {B : Nat} {v0 v1 v2 v3 v4 v5 : Value} (hb : Below w1.heap.size w1 w2) (c0 : w1.cell? ⟨B, 0, none⟩ = some v0) (c1 : w1.cell? ⟨B, 1, none⟩ = some v1) (c2 : w1.cell? ⟨B, 2, none⟩ = some v2) (c3 : w1.cell? ⟨B, 3, none⟩ = some v3) (c4 : w1.cell? ⟨B, 4, none⟩ = some v4) (c5 : w1.cell? ⟨B, 5, none⟩ = some v5) (cs : B < w1.heap.size) :
    w2.cell? ⟨B, 0, none⟩ = some v0 ∧ w2.cell? ⟨B, 1, none⟩ = some v1 ∧ w2.cell? ⟨B, 2, none⟩ = some v2 ∧ w2.cell? ⟨B, 3, none⟩ = some v3 ∧ w2.cell? ⟨B, 4, none⟩ = some v4 ∧ w2.cell? ⟨B, 5, none⟩ = some v5 ∧ B < w2.heap.size := by
  obtain ⟨q, f⟩ := bcell hb
  exact ⟨(q _ _ cs).trans c0, (q _ _ cs).trans c1, (q _ _ cs).trans c2, (q _ _ cs).trans c3, (q _ _ cs).trans c4, (q _ _ cs).trans c5, Nat.lt_of_lt_of_le cs hb.size⟩
theorem rcall_start {w W0 w1 : World} {om oc o1 o2 : Obj} (hB : W0.heap[w.heap.size]? = some om) (hC : W0.heap[w.heap.size + 1]? = some oc) (hz : W0.heap.size = w.heap.size + 2) (hb : Below w.heap.size w W0) (hd : BadAt w1 (w.heap.size + 1 + 1)) (e1 : om = o1) (e2 : oc = o2)
    (hg : (W0.alloc (.map #[] 0)).grownBy w1 (some (w.heap.size + 1 + 1))) : BadAt w1 (w.heap.size + 1 + 1) ∧ Below w.heap.size w w1 ∧ w1.heap[w.heap.size]? = some om ∧ w1.heap[w.heap.size + 1]? = some oc := by
  have h1 : Below W0.heap.size W0 w1 := (one_below W0 (.map #[] 0)).grown hg (by simp) (fun k h => by cases h; omega)
  exact ⟨hd, hb.trans (h1.mono (by omega)), (h1.block _ (by omega)).trans hB, (h1.block _ (by omega)).trans hC⟩

set_option maxHeartbeats 1600000 in
theorem rcheckCall_any (aS aH aF aL : Option Addr) (nS nH nF nL cS cH cF cL : Nat) (now k a b t bk sl : Int) (w : World) (hn : nS ≤ 9223372036854775807) (hh : nH ≤ 9223372036854775807) :
    Calls Try.prog 25 #[.agg #[.slice aS nS cS, .slice aH nH cH, .slice aF nF cF, .slice aL nL cL, .int .i64 now], .agg #[.int .i64 k, .int .i64 a, .int .i64 b, .int .i64 t, .int .i64 bk, .int .i64 sl]] w fun e w' => e = .returned (.int .i64 (callE nS nH ⟨k, a, b, t, bk, sl⟩)) ∧ Below w.heap.size w w' := by
  obtain ⟨om, hom⟩ : ∃ o : Obj, o = .cells #[.slice aS nS cS, .slice aH nH cH, .slice aF nF cF, .slice aL nL cL, .int .i64 now] 25 := ⟨_, rfl⟩
  obtain ⟨oc, hoc⟩ : ∃ o : Obj, o = .cells #[.int .i64 k, .int .i64 a, .int .i64 b, .int .i64 t, .int .i64 bk, .int .i64 sl] 48 := ⟨_, rfl⟩
  have b0 : Below w.heap.size w ((w.alloc om).alloc oc) := below_alloc2 w _ _
  have HB0 : Hid (((w.alloc om).alloc oc).heap[w.heap.size]? = some om) := by show _ = _; rw [Below.heap_alloc _ _ _ (by simp), heap_alloc_new]
  have HC0 : Hid (((w.alloc om).alloc oc).heap[w.heap.size + 1]? = some oc) := by
    have := heap_alloc_new (w.alloc om) oc
    rwa [show (w.alloc om).heap.size = w.heap.size + 1 by simp] at this
  have HZ0 : Hid (((w.alloc om).alloc oc).heap.size = w.heap.size + 2) := by show _ = _; simp
  have hmm := @run_makeMap Try.prog
  have HMM : Hid (((((w.alloc (.cells #[.slice aS nS cS, .slice aH nH cH, .slice aF nF cF, .slice aL nL cL, .int .i64 now] 25)).alloc (.cells #[.int .i64 k, .int .i64 a, .int .i64 b, .int .i64 t, .int .i64 bk, .int .i64 sl] 48)).alloc (.map #[] 0))).ownsMap Try.prog 4 (plainElem Try.prog 27) (w.heap.size + 1 + 1) 0 (.map [] : DataW Unit)) := by
    have := World.ownsMap_made (H := Unit) ((w.alloc (.cells #[.slice aS nS cS, .slice aH nH cH, .slice aF nF cF, .slice aL nL cL, .int .i64 now] 25)).alloc (.cells #[.int .i64 k, .int .i64 a, .int .i64 b, .int .i64 t, .int .i64 bk, .int .i64 sl] 48)) Try.prog 4 (plainElem Try.prog 27)
    rwa [show ((w.alloc (.cells #[.slice aS nS cS, .slice aH nH cH, .slice aF nF cF, .slice aL nL cL, .int .i64 now] 25)).alloc (.cells #[.int .i64 k, .int .i64 a, .int .i64 b, .int .i64 t, .int .i64 bk, .int .i64 sl] 48)).heap.size = w.heap.size + 1 + 1 by simp] at this
  have hk : ∀ W : World, Calls Try.prog 82 #[.agg #[.int .i64 a, .int .i64 b]] W fun e w' => e = .returned (.bool (keyB a b)) ∧ Below W.heap.size W w' := fun W => isKey_any a b W
  obtain ⟨E0, hE0⟩ : ∃ x, x = callE nS nH ⟨k, a, b, t, bk, sl⟩ := ⟨_, rfl⟩
  rw [← hE0]
  have HE0 : Hid (E0 = callE nS nH ⟨k, a, b, t, bk, sl⟩) := hE0
  clear hE0
  obtain ⟨w1, hrun, ho1, hg1⟩ := HMM.out.update law4 under98 (show 0 < maxLen by decide) (keyOf_bool_mk Try.underlying4 false) (plainElem_int (H := Unit) Try.underlying27 (q := .i64) (a := 3) (by decide))
  have HD1 : Hid (BadAt w1 (w.heap.size + 1 + 1) ∧ Below w.heap.size w w1 ∧ w1.heap[w.heap.size]? = some om ∧ w1.heap[w.heap.size + 1]? = some oc) := by
    subst hom hoc
    exact rcall_start HB0.out HC0.out HZ0.out b0 (BadAt.put ho1) rfl rfl hg1
  clear ho1 hg1 HB0 HC0 HZ0 HMM b0
  subst hom hoc
  obtain ⟨q0, q1, q2, q3, q4, -, -, -, -, -, qs⟩ := boxf HD1.out.2.2.1
  obtain ⟨c0, c1, c2, c3, c4, c5, cs⟩ := callf HD1.out.2.2.2
  have look : ∀ (W : World) (x : Bool), Below w1.heap.size w1 W → (Instr.lookup 98 (.map (some (w.heap.size + 1 + 1))) (.bool x) false).run Try.prog W = .ok (.int .i64 (if x then 0 else 3)) W := fun W x hb => BadAt.look (BadAt.kept HD1.out.1 (hb.block _ (BadAt.lt HD1.out.1))) x
  have HLook : Hid _ := look
  have HB1 : Hid (Below w.heap.size w w1) := HD1.out.2.1
  clear look HD1
  by_cases h13 : k = 1 ∨ k = 3
  · have HV : Hid (E0 = if keyB a b then 0 else 3) := HE0.out.trans (callE_key h13)
    clear HE0
    rcases h13 with rfl | rfl
    all_goals
      go_enter Try.func25, Try.ntmps25
      go_wp2_with (go_at_call 82; refine (hk _).mono ?_; rintro e w2 ⟨rfl, hb2⟩; have hlk := HLook.out w2 (keyB a b) hb2; rw [← HV.out] at hlk; clear q0 q1 q2 q3 q4 qs c0 c1 c2 c3 c4 c5 cs)
      go_ret
      exact ⟨rfl, HB1.out.trans (hb2.mono HB1.out.size)⟩
  by_cases h2 : k = 2
  · subst h2
    clear h13
    have HV : Hid (E0 = if inB t 1 1000000 && keyB a b then 0 else 3) := HE0.out.trans callE_add
    clear HE0
    cases hK : keyB a b
    · rw [hK] at hk
      rw [hK, Bool.and_false, if_neg (by simp)] at HV
      go_enter Try.func25, Try.ntmps25
      go_wp2_with (go_at_call 82; refine (hk _).mono ?_; rintro e w2 ⟨rfl, hb2⟩; have hlk := HLook.out w2 false hb2; clear q0 q1 q2 q3 q4 qs c0 c1 c2 c3 c4 c5 cs)
      go_ret
      exact ⟨by rw [HV.out]; rfl, HB1.out.trans (hb2.mono HB1.out.size)⟩
    · rw [hK] at hk
      rw [hK, Bool.and_true] at HV
      have hc : t < 1 ∨ (1 ≤ t ∧ t ≤ 1000000) ∨ (1 ≤ t ∧ 1000000 < t) := by omega
      rcases hc with h | ⟨h, h'⟩ | ⟨h, h'⟩
      · rw [show inB t 1 1000000 = false by simp [inB]; omega] at HV
        go_enter Try.func25, Try.ntmps25
        go_wp2_with (go_at_call 82; refine (hk _).mono ?_; rintro e w2 ⟨rfl, hb2⟩; have hlk := HLook.out w2 false hb2; clear q0 q1 q2 q3 q4 qs; obtain ⟨c0, c1, c2, c3, c4, c5, cs⟩ := rcall_next hb2 c0 c1 c2 c3 c4 c5 cs)
        go_ret
        exact ⟨by rw [HV.out]; rfl, HB1.out.trans (hb2.mono HB1.out.size)⟩
      · rw [show inB t 1 1000000 = true from (inB_iff _ _ _).2 ⟨h, h'⟩] at HV
        go_enter Try.func25, Try.ntmps25
        go_wp2_with (go_at_call 82; refine (hk _).mono ?_; rintro e w2 ⟨rfl, hb2⟩; have hlk := HLook.out w2 true hb2; clear q0 q1 q2 q3 q4 qs; obtain ⟨c0, c1, c2, c3, c4, c5, cs⟩ := rcall_next hb2 c0 c1 c2 c3 c4 c5 cs)
        go_ret
        exact ⟨by rw [HV.out]; rfl, HB1.out.trans (hb2.mono HB1.out.size)⟩
      · rw [show inB t 1 1000000 = false by simp [inB]; omega] at HV
        have hd : decide (t ≤ 1000000) = false := by simp; omega
        go_enter Try.func25, Try.ntmps25
        go_wp2_with (go_at_call 82; refine (hk _).mono ?_; rintro e w2 ⟨rfl, hb2⟩; have hlk := HLook.out w2 false hb2; clear q0 q1 q2 q3 q4 qs; obtain ⟨c0, c1, c2, c3, c4, c5, cs⟩ := rcall_next hb2 c0 c1 c2 c3 c4 c5 cs)
        go_ret
        exact ⟨by rw [HV.out]; rfl, HB1.out.trans (hb2.mono HB1.out.size)⟩
  by_cases h45 : k = 4 ∨ k = 5
  · have HV : Hid (E0 = if inB bk 0 ((nH : Int) - 1) then 0 else 5) := HE0.out.trans (callE_bk h45)
    clear HE0 h13 h2
    have hc : bk < 0 ∨ (0 ≤ bk ∧ bk < nH) ∨ (0 ≤ bk ∧ (nH : Int) ≤ bk) := by omega
    rcases hc with h | ⟨h, h'⟩ | ⟨h, h'⟩
    · rw [show inB bk 0 ((nH : Int) - 1) = false by simp [inB]; omega] at HV
      rcases h45 with rfl | rfl
      all_goals
        go_enter Try.func25, Try.ntmps25
        go_wp2
        go_ret
        exact ⟨by rw [HV.out]; rfl, HB1.out⟩
    · rw [show inB bk 0 ((nH : Int) - 1) = true from (inB_iff _ _ _).2 ⟨h, by omega⟩] at HV
      rcases h45 with rfl | rfl
      all_goals
        go_enter Try.func25, Try.ntmps25
        go_wp2
        go_ret
        exact ⟨by rw [HV.out]; rfl, HB1.out⟩
    · rw [show inB bk 0 ((nH : Int) - 1) = false by simp [inB]; omega] at HV
      rcases h45 with rfl | rfl
      all_goals
        go_enter Try.func25, Try.ntmps25
        go_wp2
        go_ret
        exact ⟨by rw [HV.out]; rfl, HB1.out⟩
  by_cases h6 : k = 6
  · subst h6
    have HV : Hid (E0 = if inB sl 0 ((nS : Int) - 1) then 0 else 5) := HE0.out.trans callE_leave
    clear HE0 h13 h2 h45
    have hc : sl < 0 ∨ (0 ≤ sl ∧ sl < nS) ∨ (0 ≤ sl ∧ (nS : Int) ≤ sl) := by omega
    rcases hc with h | ⟨h, h'⟩ | ⟨h, h'⟩
    · rw [show inB sl 0 ((nS : Int) - 1) = false by simp [inB]; omega] at HV
      go_enter Try.func25, Try.ntmps25
      go_wp2
      go_ret
      exact ⟨by rw [HV.out]; rfl, HB1.out⟩
    · rw [show inB sl 0 ((nS : Int) - 1) = true from (inB_iff _ _ _).2 ⟨h, by omega⟩] at HV
      go_enter Try.func25, Try.ntmps25
      go_wp2
      go_ret
      exact ⟨by rw [HV.out]; rfl, HB1.out⟩
    · rw [show inB sl 0 ((nS : Int) - 1) = false by simp [inB]; omega] at HV
      go_enter Try.func25, Try.ntmps25
      go_wp2
      go_ret
      exact ⟨by rw [HV.out]; rfl, HB1.out⟩
  have hno : k < 1 ∨ 6 < k := by omega
  have HV : Hid (E0 = 4) := HE0.out.trans (callE_no hno)
  have e1 : (k == 1) = false := by rw [beq_eq_false_iff_ne]; omega
  have e2 : (k == 2) = false := by rw [beq_eq_false_iff_ne]; omega
  have e3 : (k == 3) = false := by rw [beq_eq_false_iff_ne]; omega
  have e4 : (k == 4) = false := by rw [beq_eq_false_iff_ne]; omega
  have e5 : (k == 5) = false := by rw [beq_eq_false_iff_ne]; omega
  have e6 : (k == 6) = false := by rw [beq_eq_false_iff_ne]; omega
  clear h13 h2 h45 h6 hno HE0
  go_enter Try.func25, Try.ntmps25
  go_wp2
  go_ret
  exact ⟨by rw [HV.out]; rfl, HB1.out⟩


end Go.Proofs.Ytdbilofhcadmoab.mm

/- What a walk carries along: boxes with what lies in them, values that are memory. -/
namespace Go.Proofs.Ytdbilofhcadmoab.mm
open Go.ChangeShapes Go.WideShapes Go.ChangeAt Go.RowKit Go.Joins
set_option linter.unusedVariables false

structure Env (w0 w : World) (L : List (Nat × Obj)) (K : List (Value × Mm)) : Prop where
  bl : Below w0.heap.size w0 w
  box : ∀ p ∈ L, w.heap[p.1]? = some p.2
  mem : ∀ p ∈ K, Ans 0 w p.1 p.2

theorem Env.below {w0 w w' : World} {L : List (Nat × Obj)} {K : List (Value × Mm)} (E : Env w0 w L K) (hb : Below w.heap.size w w') : Env w0 w' L K :=
  ⟨E.bl.trans (hb.mono E.bl.size), fun p hp => (hb.block p.1 (by
    have := E.box p hp
    exact (Array.getElem?_eq_some_iff.1 this).1)).trans (E.box p hp), fun p hp => (E.mem p hp).below hb⟩
theorem Env.alloc {w0 w : World} {L : List (Nat × Obj)} {K : List (Value × Mm)} (E : Env w0 w L K) (o : Obj) : Env w0 (w.alloc o) ((w.heap.size, o) :: L) K := by
  have h := E.below (one_below w o)
  refine ⟨h.bl, fun p hp => ?_, h.mem⟩
  rcases List.mem_cons.1 hp with rfl | hp
  · exact heap_alloc_new w o
  · exact h.box p hp
theorem Env.add {w0 w : World} {L : List (Nat × Obj)} {K : List (Value × Mm)} (E : Env w0 w L K) {v : Value} {M : Mm} {lo : Nat} (h : Ans lo w v M) : Env w0 w L ((v, M) :: K) :=
  ⟨E.bl, E.box, fun p hp => by
    rcases List.mem_cons.1 hp with rfl | hp
    · exact h.mono (Nat.zero_le _)
    · exact E.mem p hp⟩
theorem Env.at {w0 w : World} {L : List (Nat × Obj)} {K : List (Value × Mm)} (E : Env w0 w L K) {B : Nat} {o : Obj} (h : (B, o) ∈ L) : w.heap[B]? = some o := E.box _ h
theorem Env.ans {w0 w : World} {L : List (Nat × Obj)} {K : List (Value × Mm)} (E : Env w0 w L K) {v : Value} {M : Mm} (h : (v, M) ∈ K) : Ans 0 w v M := E.mem _ h
theorem Env.lt {w0 w : World} {L : List (Nat × Obj)} {K : List (Value × Mm)} (E : Env w0 w L K) {B : Nat} {o : Obj} (h : (B, o) ∈ L) : B < w.heap.size := (Array.getElem?_eq_some_iff.1 (E.box _ h)).1

/- A value that is memory, written out. -/
theorem Ans.form {lo : Nat} {w : World} {v : Value} {M : Mm} (h : Ans lo w v M) : ∃ aS aH aF aL cS cH cF cL, v = .agg #[.slice aS M.slots.length cS, .slice aH M.heads.length cH, .slice aF M.free.length cF, .slice aL M.locks.length cL, .int .i64 M.now] := by
  obtain ⟨aS, aH, aF, aL, cS, cH, cF, cL, e, -, -⟩ := h
  exact ⟨aS, aH, aF, aL, cS, cH, cF, cL, e⟩
theorem Rw.ans {w : World} {lo : Nat} {aS aH aF aL : Option Addr} {cS cH cF cL : Nat} {M : Mm} (r : Rw w lo aS aH aF aL cS cH cF cL M)
    (m1 : M.slots.length * 48 ≤ 140737488351232) (m2 : M.heads.length * 8 ≤ 140737488351232) (m3 : M.free.length * 8 ≤ 140737488351232) (m4 : M.locks.length * 8 ≤ 140737488351232) :
    Ans lo w (.agg #[.slice aS M.slots.length cS, .slice aH M.heads.length cH, .slice aF M.free.length cF, .slice aL M.locks.length cL, .int .i64 M.now]) M :=
  ⟨aS, aH, aF, aL, cS, cH, cF, cL, rfl, r.at m1 m2 m3 m4, r.hi⟩
theorem Ans.at_ {lo : Nat} {w : World} {aS aH aF aL : Option Addr} {cS cH cF cL : Nat} {M : Mm} (h : Ans lo w (.agg #[.slice aS M.slots.length cS, .slice aH M.heads.length cH, .slice aF M.free.length cF, .slice aL M.locks.length cL, .int .i64 M.now]) M) : At w aS aH aF aL cS cH cF cL M := by
  obtain ⟨aS', aH', aF', aL', cS', cH', cF', cL', e, A, -⟩ := h
  simp only [Value.agg.injEq, Array.mk.injEq, List.cons.injEq, Value.slice.injEq, true_and, and_true] at e
  obtain ⟨⟨rfl, rfl⟩, ⟨rfl, rfl⟩, ⟨rfl, rfl⟩, rfl, rfl⟩ := e
  exact A
theorem Rw.alloc {w : World} {lo : Nat} {aS aH aF aL : Option Addr} {cS cH cF cL : Nat} {M : Mm} (r : Rw w lo aS aH aF aL cS cH cF cL M) (o : Obj) : Rw (w.alloc o) lo aS aH aF aL cS cH cF cL M := r.below (one_below w o)

/- Memory of one's own, in the box that was just made. -/
theorem Mine.made {w : World} {lo : Nat} {aS aH aF aL : Option Addr} {cS cH cF cL : Nat} {M : Mm} (r : Rw w lo aS aH aF aL cS cH cF cL M)
    (m1 : M.slots.length * 48 ≤ 140737488351232) (m2 : M.heads.length * 8 ≤ 140737488351232) (m3 : M.free.length * 8 ≤ 140737488351000) (m4 : M.locks.length * 8 ≤ 140737488351232) :
    Mine (w.alloc (.cells #[.slice aS M.slots.length cS, .slice aH M.heads.length cH, .slice aF M.free.length cF, .slice aL M.locks.length cL, .int .i64 M.now] 25)) w.heap.size lo aS aH aF aL cS cH cF cL M :=
  ⟨heap_alloc_new _ _, r.alloc _, m1, m2, m3, m4⟩
/- .. or stored into an elder one. -/
theorem Mine.stored {w : World} {lo B : Nat} {aS aH aF aL : Option Addr} {cS cH cF cL : Nat} {M : Mm} {u0 u1 u2 u3 u4 : Value} (r : Rw w lo aS aH aF aL cS cH cF cL M) (hB : w.heap[B]? = some (.cells #[u0, u1, u2, u3, u4] 25 (0, 0)))
    (m1 : M.slots.length * 48 ≤ 140737488351232) (m2 : M.heads.length * 8 ≤ 140737488351232) (m3 : M.free.length * 8 ≤ 140737488351000) (m4 : M.locks.length * 8 ≤ 140737488351232) :
    Mine (set5 w B (.slice aS M.slots.length cS) (.slice aH M.heads.length cH) (.slice aF M.free.length cF) (.slice aL M.locks.length cL) (.int .i64 M.now)) B lo aS aH aF aL cS cH cF cL M :=
  ⟨set5_block hB _ _ _ _ _, r.set5 hB _ _ _ _ _, m1, m2, m3, m4⟩
theorem Mine.ans {w : World} {B lo : Nat} {aS aH aF aL : Option Addr} {cS cH cF cL : Nat} {M : Mm} (m : Mine w B lo aS aH aF aL cS cH cF cL M) :
    Ans lo w (.agg #[.slice aS M.slots.length cS, .slice aH M.heads.length cH, .slice aF M.free.length cF, .slice aL M.locks.length cL, .int .i64 M.now]) M :=
  m.c.ans m.m1 m.m2 (by have := m.m3; omega) m.m4




end Go.Proofs.Ytdbilofhcadmoab.mm
