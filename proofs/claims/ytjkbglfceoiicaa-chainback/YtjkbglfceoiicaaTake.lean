/- The contracts of take and hold on memory of one's own. -/
import Derived.Test.YtjkbglfceoiicaaCopy
import Derived.BigRegion
namespace Go.Proofs.Ytjkbglfceoiicaa.mm
open Go.ChangeShapes Go.WideShapes Go.ChangeAt Go.RowKit Go.Joins
set_option linter.unusedVariables false

def set6 (w : World) (g o : Nat) (s : Sl) : World :=
  (((((w.setCell ⟨g, o, none⟩ (.int .i64 s.refs)).setCell ⟨g, o + 1, none⟩ (.int .i64 s.a)).setCell ⟨g, o + 2, none⟩ (.int .i64 s.b)).setCell ⟨g, o + 3, none⟩ (.int .i64 s.unt)).setCell ⟨g, o + 4, none⟩ (.bool s.inn)).setCell ⟨g, o + 5, none⟩ (.int .i64 s.next)

theorem encS_set6 (S : List Sl) (j : Nat) (h : j < S.length) (s : Sl) :
    ((((((encS S).set (j * 6) (.int .i64 s.refs)).set (j * 6 + 1) (.int .i64 s.a)).set (j * 6 + 2) (.int .i64 s.b)).set (j * 6 + 3) (.int .i64 s.unt)).set (j * 6 + 4) (.bool s.inn)).set (j * 6 + 5) (.int .i64 s.next) = encS (S.set j s) := by
  induction S generalizing j with
  | nil => simp at h
  | cons x S ih =>
    match j with
    | 0 => simp [encS_cons, Sl.enc]
    | j + 1 =>
      have := ih j (by simpa using h)
      rw [List.set_cons_succ, encS_cons, encS_cons, ← this]
      simp only [Sl.enc, List.cons_append, List.nil_append, show (j + 1) * 6 = j * 6 + 6 by omega, show j * 6 + 6 + 1 = j * 6 + 1 + 6 by omega, show j * 6 + 6 + 2 = j * 6 + 2 + 6 by omega, show j * 6 + 6 + 3 = j * 6 + 3 + 6 by omega, show j * 6 + 6 + 4 = j * 6 + 4 + 6 by omega, show j * 6 + 6 + 5 = j * 6 + 5 + 6 by omega, List.set_cons_succ]

theorem encS_set1 (S : List Sl) (j : Nat) (h : j < S.length) (r : Int) : (encS S).set (j * 6) (.int .i64 r) = encS (S.set j { S[j] with refs := r }) := by
  induction S generalizing j with
  | nil => simp at h
  | cons x S ih =>
    match j with
    | 0 => simp [encS_cons, Sl.enc]
    | j + 1 =>
      have := ih j (by simpa using h)
      rw [List.set_cons_succ, encS_cons, encS_cons, List.getElem_cons_succ, ← this]
      simp only [Sl.enc, List.cons_append, List.nil_append, show (j + 1) * 6 = j * 6 + 6 by omega, List.set_cons_succ]

theorem set6_block {w : World} {g j : Nat} {S : List Sl} (hb : w.heap[g]? = some (.cells (encS S).toArray 48 (0, 0))) (h : j < S.length) (s : Sl) : (set6 w g (j * 6) s).heap[g]? = some (.cells (encS (S.set j s)).toArray 48 (0, 0)) := by
  have := block_setCell (i := j * 6 + 5) (block_setCell (i := j * 6 + 4) (block_setCell (i := j * 6 + 3) (block_setCell (i := j * 6 + 2) (block_setCell (i := j * 6 + 1) (block_setCell (i := j * 6) hb (.int .i64 s.refs)) (.int .i64 s.a)) (.int .i64 s.b)) (.int .i64 s.unt)) (.bool s.inn)) (.int .i64 s.next)
  rw [set6, this, ← encS_set6 S j h s]
  simp
theorem set1_block {w : World} {g j : Nat} {S : List Sl} (hb : w.heap[g]? = some (.cells (encS S).toArray 48 (0, 0))) (h : j < S.length) (r : Int) : (w.setCell ⟨g, j * 6, none⟩ (.int .i64 r)).heap[g]? = some (.cells (encS (S.set j { S[j] with refs := r })).toArray 48 (0, 0)) := by
  have := block_setCell (i := j * 6) hb (.int .i64 r)
  rw [this, ← encS_set1 S j h r]
  simp
theorem set6_other {w : World} {g o k : Nat} {s : Sl} (h : k ≠ g) : (set6 w g o s).heap[k]? = w.heap[k]? := by
  unfold set6
  repeat rw [Below.heap_setCell _ _ _ _ (by dsimp only; exact h)]
theorem set6_below (w : World) (g o : Nat) (s : Sl) (B : Nat) (h : B ≤ g) : Below B w (set6 w g o s) := by
  unfold set6
  iterate 6 (refine Below.setCell ?_ (by dsimp only; exact h) _)
  exact Below.refl _ _
theorem set6_size (w : World) (g o : Nat) (s : Sl) : (set6 w g o s).heap.size = w.heap.size := by simp [set6]

/- Memory of one's own, in a box of one's own. -/
structure Mine (w : World) (B lo gS gH gF gL : Nat) (M : Mm) : Prop where
  box : w.heap[B]? = some (.cells #[.slice (some ⟨gS, 0, none⟩) M.slots.length M.slots.length, .slice (some ⟨gH, 0, none⟩) M.heads.length M.heads.length, .slice (some ⟨gF, 0, none⟩) M.free.length M.free.length, .slice (some ⟨gL, 0, none⟩) M.locks.length M.locks.length, .int .i64 M.now] 29 (0, 0))
  c : Copy w lo gS gH gF gL M
  lt : B < lo
  m1 : M.slots.length * 48 ≤ 140737488351232
  m2 : M.heads.length * 8 ≤ 140737488351232
  m3 : M.free.length * 8 ≤ 140737488351000
  m4 : M.locks.length * 8 ≤ 140737488351232

/- What stays where one's own memory is changed. -/
structure Kept (w w' : World) (B lo : Nat) : Prop where
  os : w'.os = w.os
  tape : w'.tape = w.tape
  output : w'.output = w.output
  size : w.heap.size ≤ w'.heap.size
  block : ∀ k, k < lo → k ≠ B → w'.heap[k]? = w.heap[k]?

/- Where four slices lie: at no block ahead of one. -/
structure Hi4 (lo : Nat) (aS aH aF aL : Option Addr) : Prop where
  s : ∀ ad, aS = some ad → lo ≤ ad.block
  h : ∀ ad, aH = some ad → lo ≤ ad.block
  f : ∀ ad, aF = some ad → lo ≤ ad.block
  l : ∀ ad, aL = some ad → lo ≤ ad.block

theorem hi_some {lo g : Nat} (h : lo ≤ g) : ∀ ad, (some ⟨g, 0, none⟩ : Option Addr) = some ad → lo ≤ ad.block := by
  rintro ad ⟨⟩
  exact h

def Done (w w' : World) (B lo : Nat) (M : Mm) : Prop :=
  ∃ aS aH aF aL cS cH cF cL, w'.heap[B]? = some (.cells #[.slice aS M.slots.length cS, .slice aH M.heads.length cH, .slice aF M.free.length cF, .slice aL M.locks.length cL, .int .i64 M.now] 29 (0, 0)) ∧
    At w' aS aH aF aL cS cH cF cL M ∧ Kept w w' B lo ∧ Hi4 lo aS aH aF aL

theorem slot_cells {w : World} {g : Nat} {S : List Sl} (hb : w.heap[g]? = some (.cells (encS S).toArray 48 (0, 0))) {j : Nat} (hj : j < S.length) :
    w.cell? ⟨g, j * 6, none⟩ = some (.int .i64 S[j].refs) ∧ w.cell? ⟨g, j * 6 + 1, none⟩ = some (.int .i64 S[j].a) ∧ w.cell? ⟨g, j * 6 + 2, none⟩ = some (.int .i64 S[j].b) ∧
    w.cell? ⟨g, j * 6 + 3, none⟩ = some (.int .i64 S[j].unt) ∧ w.cell? ⟨g, j * 6 + 4, none⟩ = some (.bool S[j].inn) ∧ w.cell? ⟨g, j * 6 + 5, none⟩ = some (.int .i64 S[j].next) := by
  have e : ∀ q, q < 6 → w.cell? ⟨g, j * 6 + q, none⟩ = (S[j].enc)[q]? := fun q hq => by
    rw [cell_of_block hb, ← encS_get S j q hj hq]; simp
  exact ⟨e 0 (by omega), e 1 (by omega), e 2 (by omega), e 3 (by omega), e 4 (by omega), e 5 (by omega)⟩

set_option maxHeartbeats 1600000 in
theorem take_in (w : World) (B gS gH gF gL nS nH nL n j : Nat) (now ka kb u nx r a b v : Int) (i : Bool)
    (hB : w.heap[B]? = some (.cells #[.slice (some ⟨gS, 0, none⟩) nS nS, .slice (some ⟨gH, 0, none⟩) nH nH, .slice (some ⟨gF, 0, none⟩) (n + 1) (n + 1), .slice (some ⟨gL, 0, none⟩) nL nL, .int .i64 now] 29 (0, 0)))
    (hn : n + 1 ≤ 9223372036854775807) (hS : nS ≤ 9223372036854775807) (hj : j < nS) (d1 : B ≠ gS) (d2 : B ≠ gF) (l1 : gS < w.heap.size) (l2 : gF < w.heap.size)
    (cx : w.cell? ⟨gF, n, none⟩ = some (.int .i64 j)) 
    (c0 : w.cell? ⟨gS, j * 6, none⟩ = some (.int .i64 r)) (c1 : w.cell? ⟨gS, j * 6 + 1, none⟩ = some (.int .i64 a)) (c2 : w.cell? ⟨gS, j * 6 + 2, none⟩ = some (.int .i64 b)) (c3 : w.cell? ⟨gS, j * 6 + 3, none⟩ = some (.int .i64 v)) (c4 : w.cell? ⟨gS, j * 6 + 4, none⟩ = some (.bool i)) (c5 : w.cell? ⟨gS, j * 6 + 5, none⟩ = some (.int .i64 nx))
    (hfz : ∀ q, w.frozen? ⟨gS, q, none⟩ = false) :
    Calls Try.prog 63 #[.pointer (some ⟨B, 0, none⟩), .agg #[.int .i64 ka, .int .i64 kb], .int .i64 u] w fun e w' => e = .returned (.tuple #[.int .i64 j, .bool true]) ∧
      w' = ((set6 (w.setCell ⟨B, 2, none⟩ (.slice (some ⟨gF, 0, none⟩) n (n + 1))) gS (j * 6) ⟨1, ka, kb, u, false, nx⟩).alloc (.cells #[.int .i64 ka, .int .i64 kb] 37)).drew := by
  obtain ⟨q0, q1, q2, q3, q4, f0, f1, f2, f3, f4, qs⟩ := boxf hB
  clear hB
  go_enter Try.func63, Try.ntmps63
  go_wp2
  go_region
  all_goals go_wp2
  all_goals go_ret2
  all_goals exact ⟨rfl, rfl⟩

theorem take_no (w : World) (B : Nat) (sv hv lv : Value) (aF : Option Addr) (cF : Nat) (now ka kb u : Int)
    (hB : w.heap[B]? = some (.cells #[sv, hv, .slice aF 0 cF, lv, .int .i64 now] 29 (0, 0))) :
    Calls Try.prog 63 #[.pointer (some ⟨B, 0, none⟩), .agg #[.int .i64 ka, .int .i64 kb], .int .i64 u] w fun e w' => e = .returned (.tuple #[.int .i64 0, .bool false]) ∧ Below w.heap.size w w' := by
  obtain ⟨q0, q1, q2, q3, q4, f0, f1, f2, f3, f4, qs⟩ := boxf hB
  clear hB
  go_enter Try.func63, Try.ntmps63
  go_wp2
  go_ret2
  exact ⟨rfl, one_below _ _⟩

set_option maxHeartbeats 800000 in
theorem take_any (M : Mm) (w : World) (B lo gS gH gF gL : Nat) (ka kb u : Int) (m : Mine w B lo gS gH gF gL M) (hF : 0 < M.free.length) (h0 : 0 ≤ lastF M) (h1 : lastF M < M.slots.length) :
    Calls Try.prog 63 #[.pointer (some ⟨B, 0, none⟩), .agg #[.int .i64 ka, .int .i64 kb], .int .i64 u] w fun e w' => e = .returned (.tuple #[.int .i64 (lastF M), .bool true]) ∧ Done w w' B lo (takeM M ka kb u) := by
  obtain ⟨S, H, F, L, now⟩ := M
  obtain ⟨hB, ⟨o1, o2, o3, o4, s, h, f, l⟩, lt, m1, m2, m3, m4⟩ := m
  dsimp only at hF h1 hB s h f l m1 m2 m3 m4
  obtain ⟨n, hn⟩ : ∃ n, F.length = n + 1 := ⟨F.length - 1, by omega⟩
  have hlast : lastF ⟨S, H, F, L, now⟩ = F[n] := by
    show F.getD (F.length - 1) 0 = _
    rw [show F.length - 1 = n by omega]
    simp [List.getD_eq_getElem?_getD, show n < F.length by omega]
  obtain ⟨j, hj⟩ : ∃ j : Nat, lastF ⟨S, H, F, L, now⟩ = j := ⟨(lastF ⟨S, H, F, L, now⟩).toNat, by omega⟩
  have hFj : F[n] = j := hlast.symm.trans hj
  unfold takeM
  rw [hj] at h0 h1 ⊢
  dsimp only
  rw [show F.length - 1 = n by omega]
  have hjS : j < S.length := by omega
  obtain ⟨c0, c1, c2, c3, c4, c5⟩ := slot_cells s hjS
  have cx : w.cell? ⟨gF, n, none⟩ = some (.int .i64 j) := by
    rw [cell_of_block f]
    simp [encI, show n < F.length by omega, hFj]
  rw [hn] at hB
  have z1 := lt_of_block s
  have z2 := lt_of_block f
  refine (take_in w B gS gH gF gL S.length H.length L.length n j now ka kb u _ _ _ _ _ _ hB (by omega) (by omega) hjS (by omega) (by omega) z1 z2 cx c0 c1 c2 c3 c4 c5 (fun q => unfrozen_of_block s q)).mono ?_
  rintro e w' ⟨rfl, rfl⟩
  refine ⟨rfl, some ⟨gS, 0, none⟩, some ⟨gH, 0, none⟩, some ⟨gF, 0, none⟩, some ⟨gL, 0, none⟩, S.length, H.length, n + 1, L.length, ?_⟩
  have hnx : (S.getD (j : Int).toNat sl0).next = S[j].next := by simp [List.getD_eq_getElem?_getD, hjS]
  have hlen : (F.take n).length = n := by rw [List.length_take]; omega
  rw [hnx, Int.toNat_natCast, List.length_set, hlen]
  generalize hW : (set6 (w.setCell ⟨B, 2, none⟩ (.slice (some ⟨gF, 0, none⟩) n (n + 1))) gS (j * 6) ⟨1, ka, kb, u, false, S[j].next⟩) = W
  have kk : ∀ k, k ≠ gS → k ≠ B → W.heap[k]? = w.heap[k]? := fun k h1 h2 => by
    rw [← hW, set6_other h1, Below.heap_setCell _ _ _ _ (by dsimp only; exact h2)]
  have ks : W.heap[gS]? = some (.cells (encS (S.set j ⟨1, ka, kb, u, false, S[j].next⟩)).toArray 48 (0, 0)) := by
    rw [← hW]
    exact set6_block (by rw [Below.heap_setCell _ _ _ _ (by dsimp only; omega)]; exact s) hjS _
  have kB : W.heap[B]? = some (.cells #[.slice (some ⟨gS, 0, none⟩) S.length S.length, .slice (some ⟨gH, 0, none⟩) H.length H.length, .slice (some ⟨gF, 0, none⟩) n (n + 1), .slice (some ⟨gL, 0, none⟩) L.length L.length, .int .i64 now] 29 (0, 0)) := by
    rw [← hW, set6_other (by omega)]
    have := block_setCell (i := 2) hB (.slice (some ⟨gF, 0, none⟩) n (n + 1))
    simpa using this
  have kz : W.heap.size = w.heap.size := by rw [← hW, set6_size, World.size_setCell]
  have ko : Below 0 w W := by rw [← hW]; exact ((Below.refl 0 w).setCell (Nat.zero_le _) _).trans (set6_below _ _ _ _ 0 (Nat.zero_le _))
  clear hW
  have kd : Below 0 w ((W.alloc (.cells #[.int .i64 ka, .int .i64 kb] 37)).drew) := (ko.alloc (Nat.zero_le _) _).drew
  have al : ∀ k, k < W.heap.size → ((W.alloc (.cells #[.int .i64 ka, .int .i64 kb] 37)).drew).heap[k]? = W.heap[k]? := fun k hk => Below.heap_alloc _ _ _ hk
  have e1 := (al B (by have := lt_of_block hB; omega)).trans kB
  have e2 := (al gS (by omega)).trans ks
  have e3 := (al gH (by omega)).trans ((kk gH (by omega) (by omega)).trans h)
  have e4 := (al gF (by omega)).trans ((kk gF (by omega) (by omega)).trans f)
  have e5 := (al gL (by have := lt_of_block l; omega)).trans ((kk gL (by omega) (by omega)).trans l)
  refine ⟨e1, ⟨?_, .of_block e3 m2, ?_, .of_block e5 m4⟩, ⟨kd.os, kd.tape, kd.output, kd.size, fun k h1 h2 => (al k (by omega)).trans (kk k (by omega) h2)⟩, ⟨hi_some o1, hi_some (by omega), hi_some (by omega), hi_some (by omega)⟩⟩
  · have := SRow.of_block e2 (by rw [List.length_set]; exact m1)
    rwa [List.length_set] at this
  · refine .mk_cells (by dsimp only; omega) (by dsimp only; omega) fun i hi => ?_
    dsimp only at hi ⊢
    rw [hlen] at hi
    rw [cell_of_block e4]
    simp [encI, List.getElem?_take_of_lt hi]
end Go.Proofs.Ytjkbglfceoiicaa.mm
