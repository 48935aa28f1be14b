/- The walk of KeyApart: for any two keys the law returns true, and changes nothing that was there. -/
import Derived.Test.YtdbilofhcadmoaaDoorParse
namespace Go.Proofs.YtdbilofhcadmoaaDoor.key
open Go.ChangeShapes Go.WideShapes Go.ChangeAt Go.RowKit Go.Sort
open Go.Proofs.YtdbilofhcadmoaaDoor.pure
set_option linter.unusedVariables false

theorem wr12 : wr 1 2 = [49, 62, 50] := by
  unfold wr
  rw [show (1 : Int) = ((1 : Nat) : Int) from rfl, show (2 : Int) = ((2 : Nat) : Int) from rfl, itoa_digs 1 (by omega), itoa_digs 2 (by omega)]
  decide

set_option maxHeartbeats 400000 in
theorem keyed_any (w : World) (E : Env w) :
    Calls Tryd.prog 10 #[] w fun e w' => e = .returned (.bool true) ∧ Below w.heap.size w w' := by
  have W12 : Hid (wr 1 2 = [49, 62, 50]) := wr12
  have ke := kequal
  go_enter Tryd.func10, Tryd.ntmps10
  go_wp2_with fail
  refine (bucket_ok 1 2 2 _ (by omega) (by omega) (by omega) (by omega) (by omega) (by omega)).mono ?_
  rintro e w1 ⟨rfl, b1⟩
  have E1 := E.below b1
  go_wp2_with fail
  refine (print_t 1 2 _ E1 (by omega) (by omega) (by omega) (by omega)).mono ?_
  rintro e w2 ⟨rfl, b2⟩
  rw [W12.out]
  have b2' := b1.trans (b2.mono b1.size)
  go_wp2_with fail
  refine (turn_any 1 2 _).mono ?_
  rintro e w3 ⟨rfl, b3⟩
  have b3' := b2'.trans (b3.mono b2'.size)
  go_wp2
  go_ret
  exact ⟨rfl, b3'⟩

theorem Two.start0 (w : World) (u0 u1 v0 v1 : Value) (t1 t2 : TypeId) : Two ((w.alloc (.cells #[u0, u1] t1)).alloc (.cells #[v0, v1] t2)) w.heap.size u0 u1 v0 v1 := by
  refine ⟨by simp only [World.size_alloc]; omega, ?_, ?_, ?_, ?_, ?_, ?_, ?_, ?_⟩ <;> simp [go_sem]

theorem start0_below (w : World) (o1 o2 : Obj) : Below w.heap.size w ((w.alloc o1).alloc o2) := ((Below.refl _ _).alloc (Nat.le_refl _) _).alloc (by simp) _

set_option maxHeartbeats 1000000 in
theorem apart_bad (a b c d : Int) (w : World) (E : Env w) (h : okK a b = false) :
    Calls Tryd.prog 5 #[.agg #[.int .i64 a, .int .i64 b], .agg #[.int .i64 c, .int .i64 d]] w fun e w' => e = .returned (.bool true) ∧ Below w.heap.size w w' := by
  have b0 := start0_below w (.cells #[.int .i64 a, .int .i64 b] 23) (.cells #[.int .i64 c, .int .i64 d] 23)
  have T0 := Two.start0 w (.int .i64 a) (.int .i64 b) (.int .i64 c) (.int .i64 d) 23 23
  go_enter Tryd.func5, Tryd.ntmps5
  go_wp2_with fail
  refine (print_f a b _ h).mono ?_
  rintro e w1 ⟨rfl, hb1⟩
  have T1 := T0.below hb1
  have b1 := b0.trans (hb1.mono b0.size)
  clear hb1 T0 b0
  obtain ⟨sz, z0, z1, y0, y1, f0, f1, g0, g1⟩ := T1
  clear f0 f1 g0 g1
  go_wp2_with fail
  cases hk : okK c d with
  | false =>
    refine (print_f c d _ hk).mono ?_
    rintro e w2 ⟨rfl, hb2⟩
    have b2 := b1.trans (hb2.mono b1.size)
    go_wp2_with fail
    refine (keyed_any _ (E.below b2)).mono ?_
    rintro e w3 ⟨rfl, hb3⟩
    have b3 := b2.trans (hb3.mono b2.size)
    go_wp2
    go_ret
    exact ⟨rfl, b3⟩
  | true =>
    obtain ⟨h0, h1, h2, h3⟩ := okK_t hk
    refine (print_t c d _ (E.below b1) h0 h1 h2 h3).mono ?_
    rintro e w2 ⟨rfl, hb2⟩
    have b2 := b1.trans (hb2.mono b1.size)
    go_wp2_with fail
    refine (keyed_any _ (E.below b2)).mono ?_
    rintro e w3 ⟨rfl, hb3⟩
    have b3 := b2.trans (hb3.mono b2.size)
    go_wp2
    go_ret
    exact ⟨rfl, b3⟩

theorem wr_beq {a b c d : Int} (h0 : 0 ≤ a) (h1 : a ≤ 15) (h2 : 0 ≤ b) (h3 : b ≤ 15) (k0 : 0 ≤ c) (k1 : c ≤ 15) (k2 : 0 ≤ d) (k3 : d ≤ 15) : (wr a b == wr c d) = (a == c && b == d) := by
  rw [Bool.eq_iff_iff]
  simp only [beq_iff_eq, Bool.and_eq_true]
  exact ⟨wr_inj h0 h1 h2 h3 k0 k1 k2 k3, fun h => by rw [h.1, h.2]⟩

theorem wr_turned {a b : Int} (h0 : 0 ≤ a) (h1 : a ≤ 15) (h2 : 0 ≤ b) (h3 : b ≤ 15) : (wr b a == wr a b) = (a == b) := by
  rw [wr_beq h2 h3 h0 h1 h0 h1 h2 h3, Bool.eq_iff_iff]
  simp only [beq_iff_eq, Bool.and_eq_true]
  exact ⟨fun h => h.2, fun h => ⟨h.symm, h⟩⟩

set_option maxHeartbeats 1000000 in
theorem apart_ok1 (a b c d : Int) (w : World) (E : Env w) (h0 : 0 ≤ a) (h1 : a ≤ 15) (h2 : 0 ≤ b) (h3 : b ≤ 15) (hk : okK c d = false) :
    Calls Tryd.prog 5 #[.agg #[.int .i64 a, .int .i64 b], .agg #[.int .i64 c, .int .i64 d]] w fun e w' => e = .returned (.bool true) ∧ Below w.heap.size w w' := by
  have b0 := start0_below w (.cells #[.int .i64 a, .int .i64 b] 23) (.cells #[.int .i64 c, .int .i64 d] 23)
  have T0 := Two.start0 w (.int .i64 a) (.int .i64 b) (.int .i64 c) (.int .i64 d) 23 23
  have HT : Hid ((wr b a == wr a b) = (a == b)) := wr_turned h0 h1 h2 h3
  have HR : Hid (rd (wr b a) = some (b, a)) := rd_wr b a h2 h3 h0 h1
  have HL : Hid ((wr b a).length ≤ 5) := wr_len b a h2 h3 h0 h1
  have ke := kequal
  go_enter Tryd.func5, Tryd.ntmps5
  go_wp2_with fail
  refine (print_t a b _ (E.below b0) h0 h1 h2 h3).mono ?_
  rintro e w1 ⟨rfl, hb1⟩
  have T1 := T0.below hb1
  have b1 := b0.trans (hb1.mono b0.size)
  clear hb1 T0 b0
  have T1' := T1
  obtain ⟨sz, z0, z1, y0, y1, f0, f1, g0, g1⟩ := T1
  clear f0 f1 g0 g1
  go_wp2_with fail
  refine (print_f c d _ hk).mono ?_
  rintro e w2 ⟨rfl, hb2⟩
  have T2 := T1'.below hb2
  have b2 := b1.trans (hb2.mono b1.size)
  clear hb2 T1' b1 sz z0 z1 y0 y1
  have T2' := T2
  obtain ⟨sz, z0, z1, y0, y1, f0, f1, g0, g1⟩ := T2
  clear f0 f1 g0 g1
  go_wp2_with fail
  refine (keyed_any _ (E.below b2)).mono ?_
  rintro e w3 ⟨rfl, hb3⟩
  have T3 := T2'.below hb3
  have b3 := b2.trans (hb3.mono b2.size)
  clear hb3 T2' b2 sz z0 z1 y0 y1
  have T3' := T3
  obtain ⟨sz, z0, z1, y0, y1, f0, f1, g0, g1⟩ := T3
  clear f0 f1 g0 g1
  go_wp2_with fail
  refine (turn_any a b _).mono ?_
  rintro e w4 ⟨rfl, hb4⟩
  have T4 := T3'.below hb4
  have b4 := b3.trans (hb4.mono b3.size)
  clear hb4 T3' b3 sz z0 z1 y0 y1
  go_wp2_with fail
  refine (print_t b a _ (E.below b4) h2 h3 h0 h1).mono ?_
  rintro e w5 ⟨rfl, hb5⟩
  have T5 := T4.below hb5
  have b5 := b4.trans (hb5.mono b4.size)
  clear hb5 T4 b4
  go_wp2_with fail
  refine (parse_ok ⟨(wr b a).toArray⟩ (show (wr b a).toArray.size ≤ 20 by have := HL.out; simp; omega) _ (E.below b5) b a HR.out h2 h3 h0 h1).mono ?_
  rintro e w6 ⟨rfl, hb6⟩
  have T6 := T5.below hb6
  have b6 := b5.trans (hb6.mono b5.size)
  clear hb6 T5 b5
  have sq : w.heap.size < w6.heap.size := by have := T6.sz; omega
  have cT : ∀ d os, Calls Tryd.prog 12 #[.agg #[.int .i64 a, .int .i64 b]] (grow (redrawn (w6.alloc (.cells #[.int .i64 b, .int .i64 a] 23)) d) os) fun e w'' => e = .returned (.agg #[.int .i64 b, .int .i64 a]) ∧ ∃ p : Regrown, w'' = grow (redrawn (w6.alloc (.cells #[.int .i64 b, .int .i64 a] 23)) p.d) p.os :=
    fun d os => Calls.regrown_of (turn_any a b _)
  have k0 := cell_regrown (w := w6.alloc (.cells #[.int .i64 b, .int .i64 a] 23)) (a := ⟨w6.heap.size, 0, none⟩) (v := .int .i64 b) (by simp)
  have k1 := cell_regrown (w := w6.alloc (.cells #[.int .i64 b, .int .i64 a] 23)) (a := ⟨w6.heap.size, 1, none⟩) (v := .int .i64 a) (by simp)
  have k2 := cell_regrown (w := w6.alloc (.cells #[.int .i64 b, .int .i64 a] 23)) (a := ⟨w.heap.size, 0, none⟩) (v := .int .i64 a) (by simp [go_sem, sq, T6.z0])
  have k3 := cell_regrown (w := w6.alloc (.cells #[.int .i64 b, .int .i64 a] 23)) (a := ⟨w.heap.size, 1, none⟩) (v := .int .i64 b) (by simp [go_sem, sq, T6.z1])
  have b7 := b6.trans (((Below.refl w6.heap.size w6).alloc (Nat.le_refl _) (.cells #[.int .i64 b, .int .i64 a] 23)).mono b6.size)
  have hq := HT.out
  go_wp2_with fail
  refine wp_region_quiet_below (by kernel_rfl) (by kernel_rfl) ?_
  repeat (quiet_step (first | exact cT _ _))
  refine wpQuiet_nil ?_
  intro _ hw'
  obtain ⟨⟨dq, osq⟩, hw''⟩ := hw'
  subst hw''
  go_wp2
  go_ret
  refine ⟨by simp, b7.trans ((below_regrown _ dq osq).mono b7.size)⟩

set_option maxHeartbeats 1000000 in
theorem apart_ok2 (a b c d : Int) (w : World) (E : Env w) (h0 : 0 ≤ a) (h1 : a ≤ 15) (h2 : 0 ≤ b) (h3 : b ≤ 15) (k0 : 0 ≤ c) (k1 : c ≤ 15) (k2 : 0 ≤ d) (k3 : d ≤ 15) :
    Calls Tryd.prog 5 #[.agg #[.int .i64 a, .int .i64 b], .agg #[.int .i64 c, .int .i64 d]] w fun e w' => e = .returned (.bool true) ∧ Below w.heap.size w w' := by
  have b0 := start0_below w (.cells #[.int .i64 a, .int .i64 b] 23) (.cells #[.int .i64 c, .int .i64 d] 23)
  have T0 := Two.start0 w (.int .i64 a) (.int .i64 b) (.int .i64 c) (.int .i64 d) 23 23
  have HT : Hid ((wr b a == wr a b) = (a == b)) := wr_turned h0 h1 h2 h3
  have hcd := wr_beq h0 h1 h2 h3 k0 k1 k2 k3
  have HR : Hid (rd (wr b a) = some (b, a)) := rd_wr b a h2 h3 h0 h1
  have HL : Hid ((wr b a).length ≤ 5) := wr_len b a h2 h3 h0 h1
  have ke := kequal
  go_enter Tryd.func5, Tryd.ntmps5
  go_wp2_with fail
  refine (print_t a b _ (E.below b0) h0 h1 h2 h3).mono ?_
  rintro e w1 ⟨rfl, hb1⟩
  have T1 := T0.below hb1
  have b1 := b0.trans (hb1.mono b0.size)
  clear hb1 T0 b0
  have T1' := T1
  obtain ⟨sz, z0, z1, y0, y1, f0, f1, g0, g1⟩ := T1
  clear f0 f1 g0 g1
  go_wp2_with fail
  refine (print_t c d _ (E.below b1) k0 k1 k2 k3).mono ?_
  rintro e w2 ⟨rfl, hb2⟩
  have T2 := T1'.below hb2
  have b2 := b1.trans (hb2.mono b1.size)
  clear hb2 T1' b1 sz z0 z1 y0 y1
  have T2' := T2
  obtain ⟨sz, z0, z1, y0, y1, f0, f1, g0, g1⟩ := T2
  clear f0 f1 g0 g1
  go_wp2_with fail
  refine (keyed_any _ (E.below b2)).mono ?_
  rintro e w3 ⟨rfl, hb3⟩
  have T3 := T2'.below hb3
  have b3 := b2.trans (hb3.mono b2.size)
  clear hb3 T2' b2 sz z0 z1 y0 y1
  have T3' := T3
  obtain ⟨sz, z0, z1, y0, y1, f0, f1, g0, g1⟩ := T3
  clear f0 f1 g0 g1
  go_wp2_with fail
  clear hcd k0 k1 k2 k3
  refine (turn_any a b _).mono ?_
  rintro e w4 ⟨rfl, hb4⟩
  have T4 := T3'.below hb4
  have b4 := b3.trans (hb4.mono b3.size)
  clear hb4 T3' b3 sz z0 z1 y0 y1
  go_wp2_with fail
  refine (print_t b a _ (E.below b4) h2 h3 h0 h1).mono ?_
  rintro e w5 ⟨rfl, hb5⟩
  have T5 := T4.below hb5
  have b5 := b4.trans (hb5.mono b4.size)
  clear hb5 T4 b4
  go_wp2_with fail
  refine (parse_ok ⟨(wr b a).toArray⟩ (show (wr b a).toArray.size ≤ 20 by have := HL.out; simp; omega) _ (E.below b5) b a HR.out h2 h3 h0 h1).mono ?_
  rintro e w6 ⟨rfl, hb6⟩
  have T6 := T5.below hb6
  have b6 := b5.trans (hb6.mono b5.size)
  clear hb6 T5 b5
  have sq : w.heap.size < w6.heap.size := by have := T6.sz; omega
  have cT : ∀ d os, Calls Tryd.prog 12 #[.agg #[.int .i64 a, .int .i64 b]] (grow (redrawn (w6.alloc (.cells #[.int .i64 b, .int .i64 a] 23)) d) os) fun e w'' => e = .returned (.agg #[.int .i64 b, .int .i64 a]) ∧ ∃ p : Regrown, w'' = grow (redrawn (w6.alloc (.cells #[.int .i64 b, .int .i64 a] 23)) p.d) p.os :=
    fun d os => Calls.regrown_of (turn_any a b _)
  have k0 := cell_regrown (w := w6.alloc (.cells #[.int .i64 b, .int .i64 a] 23)) (a := ⟨w6.heap.size, 0, none⟩) (v := .int .i64 b) (by simp)
  have k1 := cell_regrown (w := w6.alloc (.cells #[.int .i64 b, .int .i64 a] 23)) (a := ⟨w6.heap.size, 1, none⟩) (v := .int .i64 a) (by simp)
  have k2 := cell_regrown (w := w6.alloc (.cells #[.int .i64 b, .int .i64 a] 23)) (a := ⟨w.heap.size, 0, none⟩) (v := .int .i64 a) (by simp [go_sem, sq, T6.z0])
  have k3 := cell_regrown (w := w6.alloc (.cells #[.int .i64 b, .int .i64 a] 23)) (a := ⟨w.heap.size, 1, none⟩) (v := .int .i64 b) (by simp [go_sem, sq, T6.z1])
  have b7 := b6.trans (((Below.refl w6.heap.size w6).alloc (Nat.le_refl _) (.cells #[.int .i64 b, .int .i64 a] 23)).mono b6.size)
  have hq := HT.out
  go_wp2_with fail
  refine wp_region_quiet_below (by kernel_rfl) (by kernel_rfl) ?_
  repeat (quiet_step (first | exact cT _ _))
  refine wpQuiet_nil ?_
  intro _ hw'
  obtain ⟨⟨dq, osq⟩, hw''⟩ := hw'
  subst hw''
  go_wp2
  go_ret
  refine ⟨by simp, b7.trans ((below_regrown _ dq osq).mono b7.size)⟩

theorem apart_any (a b c d : Int) (w : World) (E : Env w) :
    Calls Tryd.prog 5 #[.agg #[.int .i64 a, .int .i64 b], .agg #[.int .i64 c, .int .i64 d]] w fun e w' => e = .returned (.bool true) ∧ Below w.heap.size w w' := by
  cases h : okK a b with
  | false => exact apart_bad a b c d w E h
  | true =>
    obtain ⟨h0, h1, h2, h3⟩ := okK_t h
    cases k : okK c d with
    | false => exact apart_ok1 a b c d w E h0 h1 h2 h3 k
    | true =>
      obtain ⟨k0, k1, k2, k3⟩ := okK_t k
      exact apart_ok2 a b c d w E h0 h1 h2 h3 k0 k1 k2 k3
end Go.Proofs.YtdbilofhcadmoaaDoor.key
