/- The contracts of link, cut and aheadOf, on memory of one's own. -/
import Derived.Test.YtdbilofhcadmoaaFlow
import Derived.Test.YtdbilofhcadmoaaDone
import Derived.Deep.RegionWith
namespace Go.Proofs.Ytdbilofhcadmoaa.mm
open Go.ChangeShapes Go.WideShapes Go.ChangeAt Go.RowKit Go.Joins Go.Maps
set_option maxRecDepth 100000
set_option linter.unusedVariables false

def linkAt (M : Mm) (a : Nat) (b : Nat) : Mm := { M with slots := M.slots.set a { slotAt M a with next := headM M b, inn := true }, heads := M.heads.set b ((a : Int) + 1) }
theorem linkM_at (M : Mm) (a : Nat) : linkM M a = linkAt M a (ownB M a) := rfl

theorem encS_set2 (S : List Sl) (j : Nat) (h : j < S.length) (nx : Int) (i : Bool) : ((encS S).set (j * 6 + 5) (.int .i64 nx)).set (j * 6 + 4) (.bool i) = encS (S.set j { S[j] with next := nx, inn := i }) := by
  induction S generalizing j with
  | nil => simp at h
  | cons x S ih =>
    match j with
    | 0 => simp [encS_cons, Sl.enc]
    | j + 1 =>
      have := ih j (by simpa using h)
      rw [List.set_cons_succ, encS_cons, encS_cons, List.getElem_cons_succ, ← this]
      simp only [Sl.enc, List.cons_append, List.nil_append, show (j + 1) * 6 + 5 = j * 6 + 5 + 6 by omega, show (j + 1) * 6 + 4 = j * 6 + 4 + 6 by omega, List.set_cons_succ]
theorem encS_set5 (S : List Sl) (j : Nat) (h : j < S.length) (nx : Int) : (encS S).set (j * 6 + 5) (.int .i64 nx) = encS (S.set j { S[j] with next := nx }) := by
  induction S generalizing j with
  | nil => simp at h
  | cons x S ih =>
    match j with
    | 0 => simp [encS_cons, Sl.enc]
    | j + 1 =>
      have := ih j (by simpa using h)
      rw [List.set_cons_succ, encS_cons, encS_cons, List.getElem_cons_succ, ← this]
      simp only [Sl.enc, List.cons_append, List.nil_append, show (j + 1) * 6 + 5 = j * 6 + 5 + 6 by omega, List.set_cons_succ]
theorem encI_set (H : List Int) (b : Nat) (x : Int) : (encI H).set b (.int .i64 x) = encI (H.set b x) := by
  simp [encI, List.map_set]

set_option maxHeartbeats 1600000 in
theorem link_in (w : World) (B gS gH nS nH j b cS cH : Nat) (fv lv nv : Value) (x nx : Int) (i : Bool)
    (hB : w.heap[B]? = some (.cells #[.slice (some ⟨gS, 0, none⟩) nS cS, .slice (some ⟨gH, 0, none⟩) nH cH, fv, lv, nv] 29 (0, 0))) (hj : j < nS) (hb : b < nH) (hn : nS ≤ 12) (hh : nH ≤ 4) (d1 : B ≠ gS) (d2 : gS ≠ gH) (d3 : B ≠ gH) (l1 : gS < w.heap.size) (l2 : gH < w.heap.size)
    (c4 : w.cell? ⟨gS, j * 6 + 4, none⟩ = some (.bool i)) (c5 : w.cell? ⟨gS, j * 6 + 5, none⟩ = some (.int .i64 nx)) (fz : ∀ q, w.frozen? ⟨gS, q, none⟩ = false) (ch : w.cell? ⟨gH, b, none⟩ = some (.int .i64 x)) (fh : w.frozen? ⟨gH, b, none⟩ = false) :
    Calls Try.prog 77 #[.pointer (some ⟨B, 0, none⟩), .int .i64 b, .int .i64 j] w fun e w' => e = .returned (.tuple #[]) ∧
      w' = (((w.setCell ⟨gS, j * 6 + 5, none⟩ (.int .i64 x)).setCell ⟨gS, j * 6 + 4, none⟩ (.bool true)).setCell ⟨gH, b, none⟩ (.int .i64 ((j : Int) + 1))).drew := by
  obtain ⟨q0, q1, q2, q3, q4, -, -, -, -, -, qs⟩ := boxf hB
  clear hB
  go_enter Try.func77, Try.ntmps77
  go_wp2
  go_region_with (go_at_call 90; refine (toSlot_any _ _ (by omega) (by omega)).mono ?_; rintro e w1 ⟨rfl, rfl⟩)
  all_goals go_wp2
  all_goals go_end0
  all_goals exact ⟨rfl, rfl⟩

theorem link_now (M : Mm) (w : World) (B lo : Nat) (aS aH aF aL : Option Addr) (cS cH cF cL j b : Nat) (m : Mine w B lo aS aH aF aL cS cH cF cL M) (hok : Ok M) (hj : j < M.slots.length) (hb : b < M.heads.length) :
    Calls Try.prog 77 #[.pointer (some ⟨B, 0, none⟩), .int .i64 b, .int .i64 j] w fun e w' => e = .returned (.tuple #[]) ∧ Now w w' B lo (linkAt M j b) := by
  obtain ⟨gS, rfl, oS, lS, -, -⟩ := row_form m.c.s (by omega)
  obtain ⟨gH, rfl, oH, lH, -, -⟩ := row_form m.c.h (by omega)
  obtain ⟨c0, c1, c2, c3, c4, c5, fz⟩ := row_cells m.c.s hj
  obtain ⟨ch, fh⟩ := row_cell m.c.h hb
  have dj : gS ≠ gH := fun e => own_dj m.c.s m.c.h (by decide) gS rfl (by rw [e]; rfl)
  refine (link_in w B gS gH _ _ j b cS cH _ _ _ _ _ _ m.box hj hb hok.ns hok.nh.2 m.ne_s dj m.ne_h lS lH c4 c5 fz ch fh).mono ?_
  rintro e w' ⟨rfl, rfl⟩
  have hs : slotAt M j = M.slots[j] := slotAt_lt hj
  have hhd : headM M b = M.heads[b] := by simp [headM, List.getD_eq_getElem?_getD, hb]
  unfold linkAt
  rw [hs, hhd]
  have h5 := encS_set5 M.slots j hj M.heads[b]
  have h2 := encS_set2 M.slots j hj M.heads[b] true
  rw [h5] at h2
  have m2 := ((m.setS (j * 6 + 5) (.int .i64 M.heads[b]) _ h5).setS (j * 6 + 4) (.bool true) _ h2).setH b ((j : Int) + 1)
  have k2 : Kept w _ B lo := (((Kept.refl w B lo).setCell (j := j * 6 + 5) oS (.int .i64 M.heads[b])).setCell (j := j * 6 + 4) oS (.bool true)).setCell (j := b) oH (.int .i64 ((j : Int) + 1))
  generalize ((w.setCell ⟨gS, j * 6 + 5, none⟩ (.int .i64 M.heads[b])).setCell ⟨gS, j * 6 + 4, none⟩ (.bool true)).setCell ⟨gH, b, none⟩ (.int .i64 ((j : Int) + 1)) = W at *
  have hbl : Below W.heap.size W W.drew := (Below.refl _ _).drew
  exact ⟨rfl, _, _, _, _, _, _, _, _, m2.below hbl, k2.below hbl m2.c.lz⟩
theorem link_any (M : Mm) (w : World) (B lo : Nat) (aS aH aF aL : Option Addr) (cS cH cF cL j b : Nat) (m : Mine w B lo aS aH aF aL cS cH cF cL M) (hok : Ok M) (hj : j < M.slots.length) (hb : b < M.heads.length) :
    Calls Try.prog 77 #[.pointer (some ⟨B, 0, none⟩), .int .i64 b, .int .i64 j] w fun e w' => e = .returned (.tuple #[]) ∧ Done w w' B lo (linkAt M j b) := by
  refine (link_now M w B lo aS aH aF aL cS cH cF cL j b m hok hj hb).mono ?_
  rintro e w' ⟨rfl, h⟩
  exact ⟨rfl, h.done⟩


end Go.Proofs.Ytdbilofhcadmoaa.mm
