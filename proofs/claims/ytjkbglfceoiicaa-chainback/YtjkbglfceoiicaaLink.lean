/- The contracts of link, cut and aheadOf, on memory of one's own. -/
import Derived.Test.YtjkbglfceoiicaaFlow
import Derived.Test.YtjkbglfceoiicaaDone
import Derived.Deep.RegionWith
namespace Go.Proofs.Ytjkbglfceoiicaa.mm
open Go.ChangeShapes Go.WideShapes Go.ChangeAt Go.RowKit Go.Joins Go.Maps
set_option maxRecDepth 100000
set_option linter.unusedVariables false

def linkAt (M : Mm) (a : Nat) (b : Nat) : Mm := { M with slots := M.slots.set a { slotAt M a with next := headM M b, inn := true }, heads := M.heads.set b ((a : Int) + 1) }
theorem linkM_at (M : Mm) (a : Nat) : linkM M a = linkAt M a (ownB M a) := rfl

theorem encS_set2 (S : List Sl) (j : Nat) (h : j < S.length) (nx : Int) (i : Bool) : ((encS S).set (j * 6 + 5) (.int .i64 nx)).set (j * 6 + 4) (.bool i) = encS (S.set j { S[j] with next := nx, inn := i }) := by
  induction S generalizing j with
  | nil => simp at h
  | cons x S ih =>
    match j with
    | 0 => simp [encS_cons, Sl.enc]
    | j + 1 =>
      have := ih j (by simpa using h)
      rw [List.set_cons_succ, encS_cons, encS_cons, List.getElem_cons_succ, ← this]
      simp only [Sl.enc, List.cons_append, List.nil_append, show (j + 1) * 6 + 5 = j * 6 + 5 + 6 by omega, show (j + 1) * 6 + 4 = j * 6 + 4 + 6 by omega, List.set_cons_succ]
theorem encS_set5 (S : List Sl) (j : Nat) (h : j < S.length) (nx : Int) : (encS S).set (j * 6 + 5) (.int .i64 nx) = encS (S.set j { S[j] with next := nx }) := by
  induction S generalizing j with
  | nil => simp at h
  | cons x S ih =>
    match j with
    | 0 => simp [encS_cons, Sl.enc]
    | j + 1 =>
      have := ih j (by simpa using h)
      rw [List.set_cons_succ, encS_cons, encS_cons, List.getElem_cons_succ, ← this]
      simp only [Sl.enc, List.cons_append, List.nil_append, show (j + 1) * 6 + 5 = j * 6 + 5 + 6 by omega, List.set_cons_succ]
theorem encI_set (H : List Int) (b : Nat) (x : Int) : (encI H).set b (.int .i64 x) = encI (H.set b x) := by
  simp [encI, List.map_set]

theorem set_blockI {w : World} {g b : Nat} {H : List Int} (hb : w.heap[g]? = some (.cells (encI H).toArray 3 (0, 0))) (x : Int) : (w.setCell ⟨g, b, none⟩ (.int .i64 x)).heap[g]? = some (.cells (encI (H.set b x)).toArray 3 (0, 0)) := by
  have := block_setCell (i := b) hb (.int .i64 x)
  rw [this, ← encI_set]
  simp
theorem set_blockN {w : World} {g j : Nat} {S : List Sl} (hb : w.heap[g]? = some (.cells (encS S).toArray 48 (0, 0))) (h : j < S.length) (nx : Int) : (w.setCell ⟨g, j * 6 + 5, none⟩ (.int .i64 nx)).heap[g]? = some (.cells (encS (S.set j { S[j] with next := nx })).toArray 48 (0, 0)) := by
  have := block_setCell (i := j * 6 + 5) hb (.int .i64 nx)
  rw [this, ← encS_set5 S j h nx]
  simp
theorem set_blockL {w : World} {g j : Nat} {S : List Sl} (hb : w.heap[g]? = some (.cells (encS S).toArray 48 (0, 0))) (h : j < S.length) (nx : Int) (i : Bool) : ((w.setCell ⟨g, j * 6 + 5, none⟩ (.int .i64 nx)).setCell ⟨g, j * 6 + 4, none⟩ (.bool i)).heap[g]? = some (.cells (encS (S.set j { S[j] with next := nx, inn := i })).toArray 48 (0, 0)) := by
  have := block_setCell (i := j * 6 + 4) (block_setCell (i := j * 6 + 5) hb (.int .i64 nx)) (.bool i)
  rw [this, ← encS_set2 S j h nx i]
  simp

set_option maxHeartbeats 1600000 in
theorem link_in (w : World) (B gS gH nS nH j b : Nat) (fv lv nv : Value) (x nx : Int) (i : Bool)
    (hB : w.heap[B]? = some (.cells #[.slice (some ⟨gS, 0, none⟩) nS nS, .slice (some ⟨gH, 0, none⟩) nH nH, fv, lv, nv] 29 (0, 0))) (hj : j < nS) (hb : b < nH) (hn : nS ≤ 12) (hh : nH ≤ 4) (d1 : B ≠ gS) (d2 : gS ≠ gH) (d3 : B ≠ gH) (l1 : gS < w.heap.size) (l2 : gH < w.heap.size)
    (c4 : w.cell? ⟨gS, j * 6 + 4, none⟩ = some (.bool i)) (c5 : w.cell? ⟨gS, j * 6 + 5, none⟩ = some (.int .i64 nx)) (fz : ∀ q, w.frozen? ⟨gS, q, none⟩ = false) (ch : w.cell? ⟨gH, b, none⟩ = some (.int .i64 x)) (fh : w.frozen? ⟨gH, b, none⟩ = false) :
    Calls Try.prog 77 #[.pointer (some ⟨B, 0, none⟩), .int .i64 b, .int .i64 j] w fun e w' => e = .returned (.tuple #[]) ∧
      w' = (((w.setCell ⟨gS, j * 6 + 5, none⟩ (.int .i64 x)).setCell ⟨gS, j * 6 + 4, none⟩ (.bool true)).setCell ⟨gH, b, none⟩ (.int .i64 ((j : Int) + 1))).drew := by
  obtain ⟨q0, q1, q2, q3, q4, -, -, -, -, -, qs⟩ := boxf hB
  clear hB
  go_enter Try.func77, Try.ntmps77
  go_wp2
  go_region_with (go_at_call 89; refine (toSlot_any _ _ (by omega) (by omega)).mono ?_; rintro e w1 ⟨rfl, rfl⟩)
  all_goals go_wp2
  all_goals go_end0
  all_goals exact ⟨rfl, rfl⟩

theorem link_any (M : Mm) (w : World) (B lo gS gH gF gL j b : Nat) (m : Mine w B lo gS gH gF gL M) (hok : Ok M) (hj : j < M.slots.length) (hb : b < M.heads.length) :
    Calls Try.prog 77 #[.pointer (some ⟨B, 0, none⟩), .int .i64 b, .int .i64 j] w fun e w' => e = .returned (.tuple #[]) ∧ Done w w' B lo (linkAt M j b) := by
  have n0 := hok.ns
  have n1 := hok.nh
  obtain ⟨S, H, F, L, now⟩ := M
  obtain ⟨hB, ⟨o1, o2, o3, o4, s, h, f, l⟩, lt, m1, m2, m3, m4⟩ := m
  dsimp only at hj hb hB s h f l m1 m2 m3 m4 n0 n1
  obtain ⟨c0, c1, c2, c3, c4, c5⟩ := slot_cells s hj
  have ch : w.cell? ⟨gH, b, none⟩ = some (.int .i64 H[b]) := by
    rw [cell_of_block h]
    simp [encI, hb]
  have z1 := lt_of_block s
  have z2 := lt_of_block h
  have zB := lt_of_block hB
  refine (link_in w B gS gH S.length H.length j b _ _ _ _ _ _ hB hj hb n0 n1.2 (by omega) (by omega) (by omega) z1 z2 c4 c5 (fun q => unfrozen_of_block s q) ch (unfrozen_of_block h b)).mono ?_
  rintro e w' ⟨rfl, rfl⟩
  refine ⟨rfl, some ⟨gS, 0, none⟩, some ⟨gH, 0, none⟩, some ⟨gF, 0, none⟩, some ⟨gL, 0, none⟩, S.length, H.length, F.length, L.length, ?_⟩
  have hs : slotAt ⟨S, H, F, L, now⟩ j = S[j] := slotAt_lt hj
  have hhd : headM ⟨S, H, F, L, now⟩ b = H[b] := by simp [headM, List.getD_eq_getElem?_getD, hb]
  unfold linkAt
  rw [hs, hhd]
  dsimp only
  rw [List.length_set, List.length_set]
  generalize hW1 : (w.setCell ⟨gS, j * 6 + 5, none⟩ (.int .i64 H[b])).setCell ⟨gS, j * 6 + 4, none⟩ (.bool true) = W1
  have k1 : ∀ k, k ≠ gS → W1.heap[k]? = w.heap[k]? := fun k hk => by
    rw [← hW1, Below.heap_setCell _ _ _ _ (by dsimp only; exact hk), Below.heap_setCell _ _ _ _ (by dsimp only; exact hk)]
  have ks : W1.heap[gS]? = some (.cells (encS (S.set j { S[j] with next := H[b], inn := true })).toArray 48 (0, 0)) := by
    rw [← hW1]; exact set_blockL s hj _ _
  have kz : W1.heap.size = w.heap.size := by rw [← hW1]; simp
  have ko : Below 0 w W1 := by rw [← hW1]; exact ((Below.refl 0 w).setCell (Nat.zero_le _) _).setCell (Nat.zero_le _) _
  clear hW1
  generalize hW2 : W1.setCell ⟨gH, b, none⟩ (.int .i64 ((j : Int) + 1)) = W2
  have kk : ∀ k, k ≠ gS → k ≠ gH → W2.heap[k]? = w.heap[k]? := fun k h1 h2 => by
    rw [← hW2, Below.heap_setCell _ _ _ _ (by dsimp only; exact h2), k1 k h1]
  have kh : W2.heap[gH]? = some (.cells (encI (H.set b ((j : Int) + 1))).toArray 3 (0, 0)) := by
    rw [← hW2]; exact set_blockI ((k1 gH (by omega)).trans h) _
  have ks2 : W2.heap[gS]? = some (.cells (encS (S.set j { S[j] with next := H[b], inn := true })).toArray 48 (0, 0)) := by
    rw [← hW2, Below.heap_setCell _ _ _ _ (by dsimp only; omega)]; exact ks
  have kz2 : W2.heap.size = w.heap.size := by rw [← hW2, World.size_setCell, kz]
  have ko2 : Below 0 w W2 := by rw [← hW2]; exact ko.setCell (Nat.zero_le _) _
  clear hW2
  have kd : Below 0 w W2.drew := ko2.drew
  have r1 : SRow W2 (some ⟨gS, 0, none⟩) (S.set j { S[j] with next := H[b], inn := true }).length (S.set j { S[j] with next := H[b], inn := true }) := .of_block ks2 (by rw [List.length_set]; exact m1)
  have r2 : IRow W2 (some ⟨gH, 0, none⟩) (H.set b ((j : Int) + 1)).length (H.set b ((j : Int) + 1)) := .of_block kh (by rw [List.length_set]; exact m2)
  have r3 : IRow W2 (some ⟨gF, 0, none⟩) F.length F := .of_block ((kk gF (by omega) (by omega)).trans f) (by omega)
  have r4 : IRow W2 (some ⟨gL, 0, none⟩) L.length L := .of_block ((kk gL (by omega) (by omega)).trans l) m4
  rw [List.length_set] at r1 r2
  refine ⟨(kk B (by omega) (by omega)).trans hB, ⟨?_, ?_, ?_, ?_⟩, ⟨kd.os, kd.tape, kd.output, kd.size, fun k h1 h2 => kk k (by omega) (by omega)⟩, ⟨hi_some o1, hi_some (by omega), hi_some (by omega), hi_some (by omega)⟩⟩
  · exact ⟨r1.le, r1.max, r1.nil, r1.at_⟩
  · exact ⟨r2.le, r2.max, r2.nil, r2.at_⟩
  · exact ⟨r3.le, r3.max, r3.nil, r3.at_⟩
  · exact ⟨r4.le, r4.max, r4.nil, r4.at_⟩
end Go.Proofs.Ytjkbglfceoiicaa.mm
