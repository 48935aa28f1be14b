/- The contract of read: the key of which the text was written, or none; nothing that was there is changed. -/
import Derived.Test.YtdbilofhcadmoaaDoorText2
import Derived.Deep.RegionWith
namespace Go.Proofs.YtdbilofhcadmoaaDoor.key
open Go.ChangeShapes Go.WideShapes Go.ChangeAt Go.RowKit Go.Sort
open Go.Proofs.YtdbilofhcadmoaaDoor.pure
set_option linter.unusedVariables false

/-- What stands in the two blocks of read's own (its result, and the two ends). -/
structure Two (w : World) (n : Nat) (u0 u1 v0 v1 : Value) : Prop where
  sz : n + 2 ≤ w.heap.size
  z0 : w.cell? ⟨n, 0, none⟩ = some u0
  z1 : w.cell? ⟨n, 1, none⟩ = some u1
  y0 : w.cell? ⟨n + 1, 0, none⟩ = some v0
  y1 : w.cell? ⟨n + 1, 1, none⟩ = some v1
  f0 : w.frozen? ⟨n, 0, none⟩ = false
  f1 : w.frozen? ⟨n, 1, none⟩ = false
  g0 : w.frozen? ⟨n + 1, 0, none⟩ = false
  g1 : w.frozen? ⟨n + 1, 1, none⟩ = false

theorem Two.below {w2 w4 : World} {n : Nat} {u0 u1 v0 v1 : Value} (t : Two w2 n u0 u1 v0 v1) (h : Below w2.heap.size w2 w4) : Two w4 n u0 u1 v0 v1 :=
  have hs := t.sz
  ⟨Nat.le_trans hs h.size, (h.cell (p := ⟨n, 0, none⟩) (by show n < _; omega)).trans t.z0, (h.cell (p := ⟨n, 1, none⟩) (by show n < _; omega)).trans t.z1,
    (h.cell (p := ⟨n + 1, 0, none⟩) (by show n + 1 < _; omega)).trans t.y0, (h.cell (p := ⟨n + 1, 1, none⟩) (by show n + 1 < _; omega)).trans t.y1,
    (h.frozen (p := ⟨n, 0, none⟩) (by show n < _; omega)).trans t.f0, (h.frozen (p := ⟨n, 1, none⟩) (by show n < _; omega)).trans t.f1,
    (h.frozen (p := ⟨n + 1, 0, none⟩) (by show n + 1 < _; omega)).trans t.g0, (h.frozen (p := ⟨n + 1, 1, none⟩) (by show n + 1 < _; omega)).trans t.g1⟩

theorem Two.start (w : World) (n : Nat) (u0 u1 v0 v1 : Value) (t1 t2 : TypeId) : Two (((w.alloc (.cells #[u0, u1] t1)).drewN n).alloc (.cells #[v0, v1] t2)) w.heap.size u0 u1 v0 v1 := by
  refine ⟨by simp only [World.size_alloc, World.heap_drewN]; omega, ?_, ?_, ?_, ?_, ?_, ?_, ?_, ?_⟩ <;> simp [go_sem]

theorem Two.put0 {w : World} {n : Nat} {u0 u1 v0 v1 : Value} (t : Two w n u0 u1 v0 v1) (x : Value) : Two (w.setCell ⟨n + 1, 0, none⟩ x) n u0 u1 x v1 := by
  obtain ⟨sz, z0, z1, y0, y1, f0, f1, g0, g1⟩ := t
  exact ⟨by rw [World.size_setCell]; exact sz, (World.cell?_setCell_other _ _ _ _ (by intro h; simp at h)).trans z0, (World.cell?_setCell_other _ _ _ _ (by intro h; simp at h)).trans z1,
    World.cell?_setCell_same _ _ _ y0, (World.cell?_setCell_other _ _ _ _ (by intro h; simp at h)).trans y1, by simp [f0], by simp [f1], by simp [g0], by simp [g1]⟩

theorem Two.put1 {w : World} {n : Nat} {u0 u1 v0 v1 : Value} (t : Two w n u0 u1 v0 v1) (x : Value) : Two (w.setCell ⟨n + 1, 1, none⟩ x) n u0 u1 v0 x := by
  obtain ⟨sz, z0, z1, y0, y1, f0, f1, g0, g1⟩ := t
  exact ⟨by rw [World.size_setCell]; exact sz, (World.cell?_setCell_other _ _ _ _ (by intro h; simp at h)).trans z0, (World.cell?_setCell_other _ _ _ _ (by intro h; simp at h)).trans z1,
    (World.cell?_setCell_other _ _ _ _ (by intro h; simp at h)).trans y0, World.cell?_setCell_same _ _ _ y1, by simp [f0], by simp [f1], by simp [g0], by simp [g1]⟩

set_option maxHeartbeats 1000000 in
theorem read_no2 (s : ByteArray) (hs : s.size ≤ 20) (w : World) (E : Env w) (A B : List UInt8) (f : Bool) (hA : A.length ≤ 20) (hB : B.length ≤ 20) (hcut : Lib.cut s.data.toList [62] = (A, B, f)) (a : Int) (hn : num A = some a) (hm2 : num B = none) :
    Calls Tryd.prog 17 #[.string s] w fun e w' => e = .returned (.tuple #[.agg #[.int .i64 0, .int .i64 0], .bool false]) ∧ Below w.heap.size w w' := by
  obtain ⟨m, hm⟩ := (E.below (Below.alloc (Below.refl _ _) (Nat.le_refl _) (.cells #[.int .i64 0, .int .i64 0] 23))).max
  have HC : Hid (Lib.cut s.data.toList [62] = (A, B, f)) := hcut
  clear hcut
  have i0 : ∀ w, (Instr.index 56 (.agg #[.string ⟨A.toArray⟩, .string ⟨B.toArray⟩]) (.int .i64 0)).run Tryd.prog w = .ok (.string ⟨A.toArray⟩) w := fun _ => by kernel_rfl
  have i1 : ∀ w, (Instr.index 56 (.agg #[.string ⟨A.toArray⟩, .string ⟨B.toArray⟩]) (.int .i64 1)).run Tryd.prog w = .ok (.string ⟨B.toArray⟩) w := fun _ => by kernel_rfl
  have HN1 : Hid (num A = some a) := hn
  have HN2 : Hid (num B = none) := hm2
  clear hn hm2
  go_enter Tryd.func17, Tryd.ntmps17
  go_wp2_with fail
  refine (Any.strings_Cut Tryd.lays145 s ⟨#[62]⟩ m _ (by omega) hm).mono ?_
  rintro e w1 ⟨rfl, n, rfl⟩
  rw [show Lib.cut s.data.toList (⟨#[62]⟩ : ByteArray).data.toList = (A, B, f) from HC.out]
  have bW := start_below w n (.cells #[.int .i64 0, .int .i64 0] 23) (.cells #[.int .i64 0, .int .i64 0] 42)
  go_wp2_with fail
  refine wp_loop_rounds 3 ?_
  rw [rounds_succ]
  go_wp2_with fail
  refine (atoi_ok ⟨A.toArray⟩ (show A.toArray.size ≤ 20 by simpa using hA) a (by simpa using HN1.out) _).mono ?_
  rintro e w2 ⟨rfl, hb2⟩
  have b2 := bW.trans (hb2.mono bW.size)
  have T2 := (Two.start w n (.int .i64 0) (.int .i64 0) (.int .i64 0) (.int .i64 0) 23 42).below hb2
  have T3 := T2.put0 (.int .i64 a)
  obtain ⟨s2, z0, z1, y0, y1, f0, f1, g0, g1⟩ := T2
  go_wp2_with fail
  rw [rounds_succ]
  go_wp2_with fail
  have b3 : Below w.heap.size w (w2.setCell ⟨w.heap.size + 1, 0, none⟩ (.int .i64 a)) := b2.setCell (by show w.heap.size ≤ w.heap.size + 1; omega) _
  refine (atoi_no ⟨B.toArray⟩ (show B.toArray.size ≤ 20 by simpa using hB) (by simpa using HN2.out) _ (E.below b3)).mono ?_
  rintro e w4 ⟨x, N, rfl, hb4⟩
  have b4 := b3.trans (hb4.mono b3.size)
  clear s2 z0 z1 y0 y1 f0 f1 g0 g1
  obtain ⟨s2, z0, z1, y0, y1, f0, f1, g0, g1⟩ := T3.below hb4
  obtain ⟨q0, q1⟩ := pair_set w4 w.heap.size _ _ z0 z1
  go_wp2
  refine bodyPost_ret (v := .tuple #[.agg #[.int .i64 0, .int .i64 0], .bool false]) (by simp [results, Tryd.results17, go_sem, q0, q1]) rfl ⟨rfl, ?_⟩
  exact (b4.setCell (Nat.le_refl _) _).setCell (Nat.le_refl _) _

set_option maxHeartbeats 1000000 in
theorem read_yes (s : ByteArray) (hs : s.size ≤ 20) (w : World) (E : Env w) (A B : List UInt8) (f : Bool) (hA : A.length ≤ 20) (hB : B.length ≤ 20) (hcut : Lib.cut s.data.toList [62] = (A, B, f)) (a : Int) (hn : num A = some a) (b : Int) (hm2 : num B = some b) (q : Bool) (hq : (wr a b == s.toList) = q) :
    Calls Tryd.prog 17 #[.string s] w fun e w' => e = .returned (.tuple #[.agg #[.int .i64 a, .int .i64 b], .bool q]) ∧ Below w.heap.size w w' := by
  obtain ⟨m, hm⟩ := (E.below (Below.alloc (Below.refl _ _) (Nat.le_refl _) (.cells #[.int .i64 0, .int .i64 0] 23))).max
  have HC : Hid (Lib.cut s.data.toList [62] = (A, B, f)) := hcut
  clear hcut
  have i0 : ∀ w, (Instr.index 56 (.agg #[.string ⟨A.toArray⟩, .string ⟨B.toArray⟩]) (.int .i64 0)).run Tryd.prog w = .ok (.string ⟨A.toArray⟩) w := fun _ => by kernel_rfl
  have i1 : ∀ w, (Instr.index 56 (.agg #[.string ⟨A.toArray⟩, .string ⟨B.toArray⟩]) (.int .i64 1)).run Tryd.prog w = .ok (.string ⟨B.toArray⟩) w := fun _ => by kernel_rfl
  have HN1 : Hid (num A = some a) := hn
  have HN2 : Hid (num B = some b) := hm2
  have HQ : Hid ((wr a b == s.toList) = q) := hq
  clear hn hm2 hq
  go_enter Tryd.func17, Tryd.ntmps17
  go_wp2_with fail
  refine (Any.strings_Cut Tryd.lays145 s ⟨#[62]⟩ m _ (by omega) hm).mono ?_
  rintro e w1 ⟨rfl, n, rfl⟩
  rw [show Lib.cut s.data.toList (⟨#[62]⟩ : ByteArray).data.toList = (A, B, f) from HC.out]
  have bW := start_below w n (.cells #[.int .i64 0, .int .i64 0] 23) (.cells #[.int .i64 0, .int .i64 0] 42)
  go_wp2_with fail
  refine wp_loop_rounds 3 ?_
  rw [rounds_succ]
  go_wp2_with fail
  refine (atoi_ok ⟨A.toArray⟩ (show A.toArray.size ≤ 20 by simpa using hA) a (by simpa using HN1.out) _).mono ?_
  rintro e w2 ⟨rfl, hb2⟩
  have b2 := bW.trans (hb2.mono bW.size)
  have T2 := (Two.start w n (.int .i64 0) (.int .i64 0) (.int .i64 0) (.int .i64 0) 23 42).below hb2
  have T3 := T2.put0 (.int .i64 a)
  obtain ⟨s2, z0, z1, y0, y1, f0, f1, g0, g1⟩ := T2
  go_wp2_with fail
  rw [rounds_succ]
  go_wp2_with fail
  have b3 : Below w.heap.size w (w2.setCell ⟨w.heap.size + 1, 0, none⟩ (.int .i64 a)) := b2.setCell (by show w.heap.size ≤ w.heap.size + 1; omega) _
  refine (atoi_ok ⟨B.toArray⟩ (show B.toArray.size ≤ 20 by simpa using hB) b (by simpa using HN2.out) _).mono ?_
  rintro e w4 ⟨rfl, hb4⟩
  have b4 := b3.trans (hb4.mono b3.size)
  clear s2 z0 z1 y0 y1 f0 f1 g0 g1
  have T4 := T3.below hb4
  have T5 := T4.put1 (.int .i64 b)
  obtain ⟨s2, z0, z1, y0, y1, f0, f1, g0, g1⟩ := T4
  have b5 : Below w.heap.size w (w4.setCell ⟨w.heap.size + 1, 1, none⟩ (.int .i64 b)) := b4.setCell (by show w.heap.size ≤ w.heap.size + 1; omega) _
  go_wp2_with fail
  rw [rounds_succ]
  go_wp2_with fail
  generalize w4.setCell ⟨w.heap.size + 1, 1, none⟩ (.int .i64 b) = W5 at *
  clear s2 z0 z1 y0 y1 f0 f1 g0 g1 T3 b4 hb4 b3 b2 hb2 bW hm i0 i1
  refine (keyOf_any a b W5).mono ?_
  rintro e w6 ⟨rfl, h6⟩
  have hb6 : Below W5.heap.size W5 w6 := by rw [← h6]; exact ((Below.refl _ _).alloc (Nat.le_refl _) _).alloc (by simp) _
  clear h6
  have T6 := T5.below hb6
  have b6 := b5.trans (hb6.mono b5.size)
  have T7 := T6.below ((Below.refl _ _).alloc (Nat.le_refl _) (.cells #[.int .i64 a, .int .i64 b] 23))
  have b7 := b6.trans (((Below.refl w6.heap.size w6).alloc (Nat.le_refl _) (.cells #[.int .i64 a, .int .i64 b] 23)).mono b6.size)
  clear T5 hb6 b5
  have T8 := T7.below (Below.refl _ _).drew
  have E8 := (E.below b7).below (Below.refl _ _).drew
  have k0 : (w6.alloc (.cells #[.int .i64 a, .int .i64 b] 23)).drew.cell? ⟨w6.heap.size, 0, none⟩ = some (.int .i64 a) := by simp [go_sem]
  have k1 : (w6.alloc (.cells #[.int .i64 a, .int .i64 b] 23)).drew.cell? ⟨w6.heap.size, 1, none⟩ = some (.int .i64 b) := by simp [go_sem]
  have kk : ∀ w8, Below (w6.alloc (.cells #[.int .i64 a, .int .i64 b] 23)).drew.heap.size (w6.alloc (.cells #[.int .i64 a, .int .i64 b] 23)).drew w8 → w8.cell? ⟨w6.heap.size, 0, none⟩ = some (.int .i64 a) ∧ w8.cell? ⟨w6.heap.size, 1, none⟩ = some (.int .i64 b) := fun w8 h =>
    ⟨(h.cell (p := ⟨w6.heap.size, 0, none⟩) (by simp)).trans k0, (h.cell (p := ⟨w6.heap.size, 1, none⟩) (by simp)).trans k1⟩
  have KK : Hid (∀ w8, Below (w6.alloc (.cells #[.int .i64 a, .int .i64 b] 23)).drew.heap.size (w6.alloc (.cells #[.int .i64 a, .int .i64 b] 23)).drew w8 → w8.cell? ⟨w6.heap.size, 0, none⟩ = some (.int .i64 a) ∧ w8.cell? ⟨w6.heap.size, 1, none⟩ = some (.int .i64 b)) := kk
  clear kk k0 k1
  go_wp2_with fail
  go_region_with (go_at_call 16; refine (write_any a b (num_i64 HN1.out) (num_i64 HN2.out) _ (by exact E8)).mono ?_; rintro e w8 ⟨rfl, hb8⟩; obtain ⟨s2, z0, z1, y0, y1, f0, f1, g0, g1⟩ := T8.below hb8; obtain ⟨m0, m1⟩ := KK.out _ hb8)
  all_goals
    obtain ⟨q0, q1⟩ := pair_set w8 w.heap.size _ _ z0 z1
    go_wp2
    refine bodyPost_ret (v := .tuple #[.agg #[.int .i64 a, .int .i64 b], .bool (wr a b == s.toList)]) (by simp [results, Tryd.results17, go_sem, q0, q1]) rfl ⟨by rw [HQ.out], ?_⟩
    exact ((b7.trans ((Below.drew (Below.refl _ _)).trans (hb8.mono (Nat.le_refl _)) |>.mono b7.size)).setCell (Nat.le_refl _) _).setCell (Nat.le_refl _) _
end Go.Proofs.YtdbilofhcadmoaaDoor.key
