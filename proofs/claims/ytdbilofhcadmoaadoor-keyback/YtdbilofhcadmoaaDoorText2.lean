/- Contracts of Print, KeyText, Atoi and read on keys' texts: each returns what the document says, and changes nothing that was there. -/
import Derived.Test.YtdbilofhcadmoaaDoorText
namespace Go.Proofs.YtdbilofhcadmoaaDoor.key
open Go.ChangeShapes Go.WideShapes Go.ChangeAt Go.RowKit Go.Sort
open Go.Proofs.YtdbilofhcadmoaaDoor.pure
set_option linter.unusedVariables false

theorem bcell {W w1 : World} (hb : Below W.heap.size W w1) : (∀ b o, b < W.heap.size → w1.cell? ⟨b, o, none⟩ = W.cell? ⟨b, o, none⟩) ∧ (∀ b o, b < W.heap.size → w1.frozen? ⟨b, o, none⟩ = W.frozen? ⟨b, o, none⟩) :=
  ⟨fun b o h => hb.cell (p := ⟨b, o, none⟩) h, fun b o h => hb.frozen (p := ⟨b, o, none⟩) h⟩

theorem i64_of {a : Int} (h0 : 0 ≤ a) (h1 : a ≤ 15) : I64 a := by unfold I64; omega

theorem print_t (a b : Int) (w : World) (E : Env w) (h0 : 0 ≤ a) (h1 : a ≤ 15) (h2 : 0 ≤ b) (h3 : b ≤ 15) :
    Calls Tryd.prog 7 #[.agg #[.int .i64 a, .int .i64 b]] w fun e w' => e = .returned (.tuple #[.string ⟨(wr a b).toArray⟩, .int .i64 0]) ∧ Below w.heap.size w w' := by
  have bw : Below w.heap.size w (w.alloc (.cells #[.int .i64 a, .int .i64 b] 23)) := (Below.refl _ _).alloc (Nat.le_refl _) _
  have E1 := E.below bw
  have ia := i64_of h0 h1
  have ib := i64_of h2 h3
  go_enter Tryd.func7, Tryd.ntmps7
  go_wp2_with fail
  refine (check_t _ _ _ h0 h1 h2 h3).mono ?_
  rintro e w1 ⟨rfl, hb1⟩
  obtain ⟨hc, hf⟩ := bcell hb1
  go_wp2_with fail
  refine (write_any a b ia ib _ (E1.below hb1)).mono ?_
  rintro e w2 ⟨rfl, hb2⟩
  go_wp2
  go_ret2
  exact ⟨rfl, bw.trans ((hb1.trans (hb2.mono hb1.size)).mono (by simp))⟩

theorem print_f (a b : Int) (w : World) (h : okK a b = false) :
    Calls Tryd.prog 7 #[.agg #[.int .i64 a, .int .i64 b]] w fun e w' => e = .returned (.tuple #[.string ⟨#[]⟩, .int .i64 3]) ∧ Below w.heap.size w w' := by
  have bw : Below w.heap.size w (w.alloc (.cells #[.int .i64 a, .int .i64 b] 23)) := (Below.refl _ _).alloc (Nat.le_refl _) _
  go_enter Tryd.func7, Tryd.ntmps7
  go_wp2_with (go_at_call 11; refine (check_f _ _ _ h).mono ?_; rintro e w1 ⟨rfl, hb1⟩)
  go_ret2
  exact ⟨rfl, bw.trans (hb1.mono (by simp))⟩

theorem atoi_ok (s : ByteArray) (hs : s.size ≤ 20) (v : Int) (h : num s.data.toList = some v) (w : World) :
    Calls Tryd.prog 25 #[.string s] w fun e w' => e = .returned (.tuple #[.int .i64 v, .nilIface]) ∧ Below w.heap.size w w' := by
  have h' : Lib.atoiAll s.data.toList = .ok v := by
    unfold num at h
    split at h
    · rename_i x hx; rw [hx]; cases h; rfl
    · cases h
  refine (Any.strconv_Atoi_ok Tryd.laysC172 s (by omega) v h' w).mono fun e w' ⟨he, hw⟩ => ⟨he, ?_⟩
  rcases hw with rfl | ⟨t, rfl⟩
  · exact Below.refl _ _
  · exact Lib.bytesWorld_below _ _ _

theorem num_i64 {l : List UInt8} {v : Int} (h : num l = some v) : I64 v := by
  unfold num at h
  split at h
  · rename_i x hx; cases h; have := Lib.atoiAll_bounds hx; unfold I64; omega
  · cases h

theorem atoi_no (s : ByteArray) (hs : s.size ≤ 20) (h : num s.data.toList = none) (w : World) (E : Env w) :
    Calls Tryd.prog 25 #[.string s] w fun e w' => ∃ n N, e = .returned (.tuple #[.int .i64 n, .iface 68 (.pointer (some ⟨N, 0, none⟩))]) ∧ Below w.heap.size w w' := by
  rcases hx : Lib.atoiAll s.data.toList with v | _ | _
  · unfold num at h; rw [hx] at h; cases h
  · obtain ⟨tp, p, hv⟩ := E.syn
    exact (Any.strconv_Atoi_syntax_var Tryd.laysC172 s (by omega) hx tp p w hv).mono fun e w' ⟨N, he, _, _, hb⟩ => ⟨_, N, he, hb⟩
  · obtain ⟨tp, p, hv⟩ := E.rng
    exact (Any.strconv_Atoi_range_var Tryd.laysC172 s (by omega) hx tp p w hv).mono fun e w' ⟨N, he, _, _, hb⟩ => ⟨_, N, he, hb⟩

theorem kequal (a b c d : Int) (w : World) : (Op.equalIn 10000 23 (.agg #[.int .i64 a, .int .i64 b]) (.agg #[.int .i64 c, .int .i64 d])).run Tryd.prog w = .ok (a == c && b == d) w := by
  have u3 := Tryd.underlying3
  have a3 := Tryd.isAgg3
  have z3 := Tryd.sizeOf3
  have hS : Tryd.prog.underlying 23 = some (.struct (Tryd.prog.fieldsOf 23)) := by kernel_rfl
  have hp : Tryd.prog.stoodInHeld 23 = false := by kernel_rfl
  rw [show (10000 : Nat) = 9999 + 1 from rfl, run_equalIn_agg w 9999 23 _ _ hS hp]
  simp only [Program.fieldsOf, Tryd.underlying23]
  go_simp
  by_cases h1 : a = c <;> by_cases h2 : b = d <;> simp [h1, h2]

theorem start_below (w : World) (n : Nat) (o1 o2 : Obj) : Below w.heap.size w (((w.alloc o1).drewN n).alloc o2) :=
  Below.alloc (⟨rfl, rfl, rfl, by simp, fun k hk => by simp [World.drewN, Below.heap_alloc _ _ _ hk]⟩ : Below w.heap.size w ((w.alloc o1).drewN n)) (by simp) _

/-- Two stores into a block of two cells, read again. -/
theorem pair_set (w : World) (b : Nat) (u v : Value) (h0 : w.cell? ⟨b, 0, none⟩ = some u) (h1 : w.cell? ⟨b, 1, none⟩ = some v) :
    (∀ x, (w.setCell ⟨b, 0, none⟩ x).cell? ⟨b, 0, none⟩ = some x) ∧ (∀ x y, ((w.setCell ⟨b, 0, none⟩ x).setCell ⟨b, 1, none⟩ y).cell? ⟨b, 1, none⟩ = some y) :=
  ⟨fun x => World.cell?_setCell_same _ _ _ h0, fun x y => World.cell?_setCell_same _ _ _ ((World.cell?_setCell_other _ _ _ _ (by intro h; cases h)).trans h1)⟩

set_option maxHeartbeats 1000000 in
theorem read_no1 (s : ByteArray) (hs : s.size ≤ 20) (w : World) (E : Env w) (A B : List UInt8) (f : Bool) (hA : A.length ≤ 20) (hB : B.length ≤ 20) (hcut : Lib.cut s.data.toList [62] = (A, B, f)) (hn : num A = none) :
    Calls Tryd.prog 17 #[.string s] w fun e w' => e = .returned (.tuple #[.agg #[.int .i64 0, .int .i64 0], .bool false]) ∧ Below w.heap.size w w' := by
  obtain ⟨m, hm⟩ := (E.below (Below.alloc (Below.refl _ _) (Nat.le_refl _) (.cells #[.int .i64 0, .int .i64 0] 23))).max
  have HC : Hid (Lib.cut s.data.toList [62] = (A, B, f)) := hcut
  clear hcut
  have i0 : ∀ w, (Instr.index 56 (.agg #[.string ⟨A.toArray⟩, .string ⟨B.toArray⟩]) (.int .i64 0)).run Tryd.prog w = .ok (.string ⟨A.toArray⟩) w := fun _ => by kernel_rfl
  have i1 : ∀ w, (Instr.index 56 (.agg #[.string ⟨A.toArray⟩, .string ⟨B.toArray⟩]) (.int .i64 1)).run Tryd.prog w = .ok (.string ⟨B.toArray⟩) w := fun _ => by kernel_rfl
  go_enter Tryd.func17, Tryd.ntmps17
  go_wp2_with fail
  refine (Any.strings_Cut Tryd.lays145 s ⟨#[62]⟩ m _ (by omega) hm).mono ?_
  rintro e w1 ⟨rfl, n, rfl⟩
  rw [show Lib.cut s.data.toList (⟨#[62]⟩ : ByteArray).data.toList = (A, B, f) from HC.out]
  have bW := start_below w n (.cells #[.int .i64 0, .int .i64 0] 23) (.cells #[.int .i64 0, .int .i64 0] 42)
  go_wp2_with fail
  refine wp_loop_rounds 3 ?_
  rw [rounds_succ]
  go_wp2_with fail
  refine (atoi_no ⟨A.toArray⟩ (show A.toArray.size ≤ 20 by simpa using hA) (by simpa using hn) _ (E.below bW)).mono ?_
  rintro e w2 ⟨x, N, rfl, hb2⟩
  obtain ⟨hc, hf⟩ := bcell hb2
  have z0 : w2.cell? ⟨w.heap.size, 0, none⟩ = some (.int .i64 0) := by rw [hc _ _ (by simp only [World.size_alloc, World.heap_drewN]; omega)]; simp [go_sem]
  have z1 : w2.cell? ⟨w.heap.size, 1, none⟩ = some (.int .i64 0) := by rw [hc _ _ (by simp only [World.size_alloc, World.heap_drewN]; omega)]; simp [go_sem]
  obtain ⟨q0, q1⟩ := pair_set w2 w.heap.size _ _ z0 z1
  go_wp2
  refine bodyPost_ret (v := .tuple #[.agg #[.int .i64 0, .int .i64 0], .bool false]) (by simp [results, Tryd.results17, go_sem, q0, q1]) rfl ⟨rfl, ?_⟩
  exact ((bW.trans (hb2.mono bW.size)).setCell (Nat.le_refl _) _).setCell (Nat.le_refl _) _
end Go.Proofs.YtdbilofhcadmoaaDoor.key
