/- The walk of KeyBack: for any key, text and number the law returns true, and changes nothing that was there. -/
import Derived.Test.YtdbilofhcadmoaaDoorApart
namespace Go.Proofs.YtdbilofhcadmoaaDoor.key
open Go.ChangeShapes Go.WideShapes Go.ChangeAt Go.RowKit Go.Sort
open Go.Proofs.YtdbilofhcadmoaaDoor.pure
set_option linter.unusedVariables false

/-- A text that reads as a right key. -/
def Good (s : ByteArray) (a b : Int) : Prop := s.size ≤ 20 ∧ rd s.data.toList = some (a, b) ∧ (0 ≤ a ∧ a ≤ 15) ∧ 0 ≤ b ∧ b ≤ 15

theorem parse_good (s : ByteArray) (w : World) (E : Env w) (a b : Int) (h : Good s a b) :
    Calls Tryd.prog 8 #[.string s] w fun e w' => e = .returned (.tuple #[.agg #[.int .i64 a, .int .i64 b], .int .i64 0]) ∧ Below w.heap.size w w' :=
  parse_ok s h.1 w E a b h.2.1 h.2.2.1.1 h.2.2.1.2 h.2.2.2.1 h.2.2.2.2

theorem parse_bad (s : ByteArray) (hm : s.size ≤ 9223372036854775807) (w : World) (E : Env w) (h : ¬ ∃ a b, Good s a b) :
    Calls Tryd.prog 8 #[.string s] w fun e w' => ∃ x : Int, (x == 0) = false ∧ e = .returned (.tuple #[.agg #[.int .i64 0, .int .i64 0], .int .i64 x]) ∧ Below w.heap.size w w' := by
  by_cases hs : s.size ≤ 20
  · cases hr : rd s.data.toList with
    | none => exact (parse_text s hs w E hr).mono fun e w' ⟨he, hb⟩ => ⟨1, rfl, he, hb⟩
    | some p =>
      obtain ⟨a, b⟩ := p
      cases hk : okK a b with
      | false => exact (parse_range s hs w E a b hr hk).mono fun e w' ⟨he, hb⟩ => ⟨3, rfl, he, hb⟩
      | true =>
        obtain ⟨h0, h1, h2, h3⟩ := okK_t hk
        exact absurd ⟨a, b, hs, hr, ⟨h0, h1⟩, h2, h3⟩ h
  · exact (parse_long s (by omega) hm w).mono fun e w' ⟨he, hb⟩ => ⟨2, rfl, he, hb⟩

theorem bucket_no (a b n : Int) (w : World) (h : okK a b = false ∨ (0 ≤ a ∧ a ≤ 15 ∧ 0 ≤ b ∧ b ≤ 15) ∧ (n < 1 ∨ (1 ≤ n ∧ 4 < n))) :
    Calls Tryd.prog 6 #[.agg #[.int .i64 a, .int .i64 b], .int .i64 n] w fun e w' => e = .returned (.tuple #[.int .i64 0, .int .i64 3]) ∧ Below w.heap.size w w' := by
  rcases h with h | ⟨⟨h0, h1, h2, h3⟩, hn⟩
  · exact bucket_bad a b n w h
  · exact bucket_many a b n w h0 h1 h2 h3 hn

/-- What stands in a block of two cells of the law's own. -/
structure One (w : World) (n : Nat) (u0 u1 : Value) : Prop where
  sz : n < w.heap.size
  z0 : w.cell? ⟨n, 0, none⟩ = some u0
  z1 : w.cell? ⟨n, 1, none⟩ = some u1

theorem One.below {w w' : World} {n : Nat} {u0 u1 : Value} (t : One w n u0 u1) (h : Below w.heap.size w w') : One w' n u0 u1 :=
  ⟨Nat.lt_of_lt_of_le t.sz h.size, (h.cell (p := ⟨n, 0, none⟩) t.sz).trans t.z0, (h.cell (p := ⟨n, 1, none⟩) t.sz).trans t.z1⟩

theorem One.start (w : World) (u0 u1 : Value) (t1 : TypeId) : One (w.alloc (.cells #[u0, u1] t1)) w.heap.size u0 u1 := by
  refine ⟨by simp, ?_, ?_⟩ <;> simp [go_sem]

theorem one_below (w : World) (o : Obj) : Below w.heap.size w (w.alloc o) := (Below.refl _ _).alloc (Nat.le_refl _) _

set_option maxHeartbeats 1000000 in
theorem back_bb (a b n : Int) (s : ByteArray) (hm : s.size ≤ 9223372036854775807) (w : World) (E : Env w) (h : okK a b = false) (hg : ¬ ∃ a b, Good s a b) :
    Calls Tryd.prog 4 #[.agg #[.int .i64 a, .int .i64 b], .string s, .int .i64 n] w fun e w' => e = .returned (.bool true) ∧ Below w.heap.size w w' := by
  have b0 := one_below w (.cells #[.int .i64 a, .int .i64 b] 23)
  have T0 := One.start w (.int .i64 a) (.int .i64 b) 23
  have HG : Hid (¬ ∃ a b, Good s a b) := hg
  clear hg
  have ke := kequal
  have cK : ∀ d os, Calls Tryd.prog 10 #[] (grow (redrawn (w.alloc (.cells #[.int .i64 a, .int .i64 b] 23)) d) os) fun e w'' => e = .returned (.bool true) ∧ ∃ p : Regrown, w'' = grow (redrawn (w.alloc (.cells #[.int .i64 a, .int .i64 b] 23)) p.d) p.os :=
    fun d os => Calls.regrown_of (keyed_any _ ((E.below b0).below (below_regrown _ d os)))
  have cT : ∀ x y d os, Calls Tryd.prog 12 #[.agg #[.int .i64 x, .int .i64 y]] (grow (redrawn (w.alloc (.cells #[.int .i64 a, .int .i64 b] 23)) d) os) fun e w'' => e = .returned (.agg #[.int .i64 y, .int .i64 x]) ∧ ∃ p : Regrown, w'' = grow (redrawn (w.alloc (.cells #[.int .i64 a, .int .i64 b] 23)) p.d) p.os :=
    fun x y d os => Calls.regrown_of (turn_any x y _)
  have k0 := cell_regrown T0.z0
  have k1 := cell_regrown T0.z1
  go_enter Tryd.func4, Tryd.ntmps4
  go_wp2
  refine wp_region_quiet_below (by kernel_rfl) (by kernel_rfl) ?_
  repeat (quiet_step (first | (go_at_call 10; exact cK _ _) | (go_at_call 12; exact cT _ _ _ _)))
  refine wpQuiet_nil ?_
  intro w1 hw'
  obtain ⟨⟨dq, osq⟩, hw''⟩ := hw'
  have hb1 := below_regrown (w.alloc (.cells #[.int .i64 a, .int .i64 b] 23)) dq osq
  rw [← hw''] at hb1
  clear hw'' cK cT k0 k1 dq osq
  have T := T0.below hb1
  have b1 := b0.trans (hb1.mono b0.size)
  clear hb1 T0 b0
  have ⟨sz, z0, z1⟩ := T
  go_wp2_with fail
  refine (print_f a b _ h).mono ?_
  rintro e w2 ⟨rfl, hb2⟩
  clear sz z0 z1
  replace T := T.below hb2
  have b2 := b1.trans (hb2.mono b1.size)
  clear hb2
  have ⟨sz, z0, z1⟩ := T
  go_wp2_with fail
  refine (parse_bad s hm _ (E.below b2) HG.out).mono ?_
  rintro e w3 ⟨r, hr, rfl, hb3⟩
  clear sz z0 z1
  replace T := T.below hb3
  have b3 := b2.trans (hb3.mono b2.size)
  clear hb3
  have ⟨sz, z0, z1⟩ := T
  have sq : w.heap.size < w3.heap.size := sz
  have T4 := T.below (one_below w3 (.cells #[.int .i64 0, .int .i64 0] 23))
  have b4 := b3.trans ((one_below w3 (.cells #[.int .i64 0, .int .i64 0] 23)).mono b3.size)
  go_wp2_with fail
  clear sz z0 z1 T sq
  have T := T4
  clear T4
  have ⟨sz, z0, z1⟩ := T
  refine (bucket_no a b n _ (Or.inl h)).mono ?_
  rintro e w5 ⟨rfl, hb5⟩
  clear sz z0 z1
  replace T := T.below hb5
  have b5 := b4.trans (hb5.mono b4.size)
  clear hb5
  have ⟨sz, z0, z1⟩ := T
  go_wp2
  go_ret
  exact ⟨rfl, b5⟩

set_option maxHeartbeats 1000000 in
theorem back_bg (a b n : Int) (s : ByteArray) (hm : s.size ≤ 9223372036854775807) (w : World) (E : Env w) (h : okK a b = false) (x y : Int) (hg : Good s x y) :
    Calls Tryd.prog 4 #[.agg #[.int .i64 a, .int .i64 b], .string s, .int .i64 n] w fun e w' => e = .returned (.bool true) ∧ Below w.heap.size w w' := by
  have b0 := one_below w (.cells #[.int .i64 a, .int .i64 b] 23)
  have T0 := One.start w (.int .i64 a) (.int .i64 b) 23
  have HG : Hid (Good s x y) := hg
  have HS : Hid ((wr x y == s.toList) = true) := by show (wr x y == s.toList) = true; rw [rd_some hg.2.1, ByteArray.toList_eq]; simp
  clear hg
  have ke := kequal
  have cK : ∀ d os, Calls Tryd.prog 10 #[] (grow (redrawn (w.alloc (.cells #[.int .i64 a, .int .i64 b] 23)) d) os) fun e w'' => e = .returned (.bool true) ∧ ∃ p : Regrown, w'' = grow (redrawn (w.alloc (.cells #[.int .i64 a, .int .i64 b] 23)) p.d) p.os :=
    fun d os => Calls.regrown_of (keyed_any _ ((E.below b0).below (below_regrown _ d os)))
  have cT : ∀ x y d os, Calls Tryd.prog 12 #[.agg #[.int .i64 x, .int .i64 y]] (grow (redrawn (w.alloc (.cells #[.int .i64 a, .int .i64 b] 23)) d) os) fun e w'' => e = .returned (.agg #[.int .i64 y, .int .i64 x]) ∧ ∃ p : Regrown, w'' = grow (redrawn (w.alloc (.cells #[.int .i64 a, .int .i64 b] 23)) p.d) p.os :=
    fun x y d os => Calls.regrown_of (turn_any x y _)
  have k0 := cell_regrown T0.z0
  have k1 := cell_regrown T0.z1
  go_enter Tryd.func4, Tryd.ntmps4
  go_wp2
  refine wp_region_quiet_below (by kernel_rfl) (by kernel_rfl) ?_
  repeat (quiet_step (first | (go_at_call 10; exact cK _ _) | (go_at_call 12; exact cT _ _ _ _)))
  refine wpQuiet_nil ?_
  intro w1 hw'
  obtain ⟨⟨dq, osq⟩, hw''⟩ := hw'
  have hb1 := below_regrown (w.alloc (.cells #[.int .i64 a, .int .i64 b] 23)) dq osq
  rw [← hw''] at hb1
  clear hw'' cK cT k0 k1 dq osq
  have T := T0.below hb1
  have b1 := b0.trans (hb1.mono b0.size)
  clear hb1 T0 b0
  have ⟨sz, z0, z1⟩ := T
  go_wp2_with fail
  refine (print_f a b _ h).mono ?_
  rintro e w2 ⟨rfl, hb2⟩
  clear sz z0 z1
  replace T := T.below hb2
  have b2 := b1.trans (hb2.mono b1.size)
  clear hb2
  have ⟨sz, z0, z1⟩ := T
  go_wp2_with fail
  refine (parse_good s _ (E.below b2) x y HG.out).mono ?_
  rintro e w3 ⟨rfl, hb3⟩
  clear sz z0 z1
  replace T := T.below hb3
  have b3 := b2.trans (hb3.mono b2.size)
  clear hb3
  have ⟨sz, z0, z1⟩ := T
  have sq : w.heap.size < w3.heap.size := sz
  have T4 := T.below (one_below w3 (.cells #[.int .i64 x, .int .i64 y] 23))
  have b4 := b3.trans ((one_below w3 (.cells #[.int .i64 x, .int .i64 y] 23)).mono b3.size)
  go_wp2_with fail
  clear sz z0 z1 T sq
  have T := T4
  clear T4
  have ⟨sz, z0, z1⟩ := T
  refine (print_t x y _ (E.below b4) HG.out.2.2.1.1 HG.out.2.2.1.2 HG.out.2.2.2.1 HG.out.2.2.2.2).mono ?_
  rintro e w5 ⟨rfl, hb5⟩
  clear sz z0 z1
  replace T := T.below hb5
  have b5 := b4.trans (hb5.mono b4.size)
  clear hb5
  have ⟨sz, z0, z1⟩ := T
  have hst := HS.out
  go_wp2_with fail
  clear hst
  refine (bucket_no a b n _ (Or.inl h)).mono ?_
  rintro e w6 ⟨rfl, hb6⟩
  clear sz z0 z1
  replace T := T.below hb6
  have b6 := b5.trans (hb6.mono b5.size)
  clear hb6
  have ⟨sz, z0, z1⟩ := T
  go_wp2
  go_ret
  exact ⟨rfl, b6⟩

set_option maxHeartbeats 1000000 in
theorem back_obn (a b n : Int) (s : ByteArray) (hm : s.size ≤ 9223372036854775807) (w : World) (E : Env w) (h0 : 0 ≤ a) (h1 : a ≤ 15) (h2 : 0 ≤ b) (h3 : b ≤ 15) (hg : ¬ ∃ a b, Good s a b) (hn : n < 1 ∨ (1 ≤ n ∧ 4 < n)) :
    Calls Tryd.prog 4 #[.agg #[.int .i64 a, .int .i64 b], .string s, .int .i64 n] w fun e w' => e = .returned (.bool true) ∧ Below w.heap.size w w' := by
  have b0 := one_below w (.cells #[.int .i64 a, .int .i64 b] 23)
  have T0 := One.start w (.int .i64 a) (.int .i64 b) 23
  have HG : Hid (¬ ∃ a b, Good s a b) := hg
  clear hg
  have HR : Hid (Good ⟨(wr a b).toArray⟩ a b) := ⟨by show (wr a b).toArray.size ≤ 20; have := wr_len a b h0 h1 h2 h3; simp; omega, rd_wr a b h0 h1 h2 h3, ⟨h0, h1⟩, h2, h3⟩
  have ke := kequal
  have cK : ∀ d os, Calls Tryd.prog 10 #[] (grow (redrawn (w.alloc (.cells #[.int .i64 a, .int .i64 b] 23)) d) os) fun e w'' => e = .returned (.bool true) ∧ ∃ p : Regrown, w'' = grow (redrawn (w.alloc (.cells #[.int .i64 a, .int .i64 b] 23)) p.d) p.os :=
    fun d os => Calls.regrown_of (keyed_any _ ((E.below b0).below (below_regrown _ d os)))
  have cT : ∀ x y d os, Calls Tryd.prog 12 #[.agg #[.int .i64 x, .int .i64 y]] (grow (redrawn (w.alloc (.cells #[.int .i64 a, .int .i64 b] 23)) d) os) fun e w'' => e = .returned (.agg #[.int .i64 y, .int .i64 x]) ∧ ∃ p : Regrown, w'' = grow (redrawn (w.alloc (.cells #[.int .i64 a, .int .i64 b] 23)) p.d) p.os :=
    fun x y d os => Calls.regrown_of (turn_any x y _)
  have k0 := cell_regrown T0.z0
  have k1 := cell_regrown T0.z1
  go_enter Tryd.func4, Tryd.ntmps4
  go_wp2
  refine wp_region_quiet_below (by kernel_rfl) (by kernel_rfl) ?_
  repeat (quiet_step (first | (go_at_call 10; exact cK _ _) | (go_at_call 12; exact cT _ _ _ _)))
  refine wpQuiet_nil ?_
  intro w1 hw'
  obtain ⟨⟨dq, osq⟩, hw''⟩ := hw'
  have hb1 := below_regrown (w.alloc (.cells #[.int .i64 a, .int .i64 b] 23)) dq osq
  rw [← hw''] at hb1
  clear hw'' cK cT k0 k1 dq osq
  have T := T0.below hb1
  have b1 := b0.trans (hb1.mono b0.size)
  clear hb1 T0 b0
  have ⟨sz, z0, z1⟩ := T
  go_wp2_with fail
  refine (print_t a b _ (E.below b1) h0 h1 h2 h3).mono ?_
  rintro e w2 ⟨rfl, hb2⟩
  clear sz z0 z1
  replace T := T.below hb2
  have b2 := b1.trans (hb2.mono b1.size)
  clear hb2
  have ⟨sz, z0, z1⟩ := T
  go_wp2_with fail
  refine (parse_good ⟨(wr a b).toArray⟩ _ (E.below b2) a b HR.out).mono ?_
  rintro e w3 ⟨rfl, hb3⟩
  clear sz z0 z1
  replace T := T.below hb3
  have b3 := b2.trans (hb3.mono b2.size)
  clear hb3
  have ⟨sz, z0, z1⟩ := T
  have sq : w.heap.size < w3.heap.size := sz
  have T3 := T.below (one_below w3 (.cells #[.int .i64 a, .int .i64 b] 23))
  have b4 := b3.trans ((one_below w3 (.cells #[.int .i64 a, .int .i64 b] 23)).mono b3.size)
  go_wp2_with fail
  clear sz z0 z1 T sq
  have T := T3
  clear T3
  have ⟨sz, z0, z1⟩ := T
  refine (parse_bad s hm _ (E.below b4) HG.out).mono ?_
  rintro e w5 ⟨r, hr, rfl, hb5⟩
  clear sz z0 z1
  replace T := T.below hb5
  have b5 := b4.trans (hb5.mono b4.size)
  clear hb5
  have ⟨sz, z0, z1⟩ := T
  have sq : w.heap.size < w5.heap.size := sz
  have T6 := T.below (one_below w5 (.cells #[.int .i64 0, .int .i64 0] 23))
  have b6 := b5.trans ((one_below w5 (.cells #[.int .i64 0, .int .i64 0] 23)).mono b5.size)
  go_wp2_with fail
  clear sz z0 z1 T sq
  have T := T6
  clear T6
  have ⟨sz, z0, z1⟩ := T
  refine (bucket_no a b n _ (Or.inr ⟨⟨h0, h1, h2, h3⟩, hn⟩)).mono ?_
  rintro e w7 ⟨rfl, hb7⟩
  clear sz z0 z1
  replace T := T.below hb7
  have b7 := b6.trans (hb7.mono b6.size)
  clear hb7
  have ⟨sz, z0, z1⟩ := T
  clear hn
  go_wp2
  go_ret
  exact ⟨rfl, b7⟩

set_option maxHeartbeats 1000000 in
theorem back_obo (a b n : Int) (s : ByteArray) (hm : s.size ≤ 9223372036854775807) (w : World) (E : Env w) (h0 : 0 ≤ a) (h1 : a ≤ 15) (h2 : 0 ≤ b) (h3 : b ≤ 15) (hg : ¬ ∃ a b, Good s a b) (n0 : 1 ≤ n) (n1 : n ≤ 4) :
    Calls Tryd.prog 4 #[.agg #[.int .i64 a, .int .i64 b], .string s, .int .i64 n] w fun e w' => e = .returned (.bool true) ∧ Below w.heap.size w w' := by
  have b0 := one_below w (.cells #[.int .i64 a, .int .i64 b] 23)
  have T0 := One.start w (.int .i64 a) (.int .i64 b) 23
  have HG : Hid (¬ ∃ a b, Good s a b) := hg
  clear hg
  have HR : Hid (Good ⟨(wr a b).toArray⟩ a b) := ⟨by show (wr a b).toArray.size ≤ 20; have := wr_len a b h0 h1 h2 h3; simp; omega, rd_wr a b h0 h1 h2 h3, ⟨h0, h1⟩, h2, h3⟩
  have ke := kequal
  have cK : ∀ d os, Calls Tryd.prog 10 #[] (grow (redrawn (w.alloc (.cells #[.int .i64 a, .int .i64 b] 23)) d) os) fun e w'' => e = .returned (.bool true) ∧ ∃ p : Regrown, w'' = grow (redrawn (w.alloc (.cells #[.int .i64 a, .int .i64 b] 23)) p.d) p.os :=
    fun d os => Calls.regrown_of (keyed_any _ ((E.below b0).below (below_regrown _ d os)))
  have cT : ∀ x y d os, Calls Tryd.prog 12 #[.agg #[.int .i64 x, .int .i64 y]] (grow (redrawn (w.alloc (.cells #[.int .i64 a, .int .i64 b] 23)) d) os) fun e w'' => e = .returned (.agg #[.int .i64 y, .int .i64 x]) ∧ ∃ p : Regrown, w'' = grow (redrawn (w.alloc (.cells #[.int .i64 a, .int .i64 b] 23)) p.d) p.os :=
    fun x y d os => Calls.regrown_of (turn_any x y _)
  have k0 := cell_regrown T0.z0
  have k1 := cell_regrown T0.z1
  go_enter Tryd.func4, Tryd.ntmps4
  go_wp2
  refine wp_region_quiet_below (by kernel_rfl) (by kernel_rfl) ?_
  repeat (quiet_step (first | (go_at_call 10; exact cK _ _) | (go_at_call 12; exact cT _ _ _ _)))
  refine wpQuiet_nil ?_
  intro w1 hw'
  obtain ⟨⟨dq, osq⟩, hw''⟩ := hw'
  have hb1 := below_regrown (w.alloc (.cells #[.int .i64 a, .int .i64 b] 23)) dq osq
  rw [← hw''] at hb1
  clear hw'' cK cT k0 k1 dq osq
  have T := T0.below hb1
  have b1 := b0.trans (hb1.mono b0.size)
  clear hb1 T0 b0
  have ⟨sz, z0, z1⟩ := T
  go_wp2_with fail
  refine (print_t a b _ (E.below b1) h0 h1 h2 h3).mono ?_
  rintro e w2 ⟨rfl, hb2⟩
  clear sz z0 z1
  replace T := T.below hb2
  have b2 := b1.trans (hb2.mono b1.size)
  clear hb2
  have ⟨sz, z0, z1⟩ := T
  go_wp2_with fail
  refine (parse_good ⟨(wr a b).toArray⟩ _ (E.below b2) a b HR.out).mono ?_
  rintro e w3 ⟨rfl, hb3⟩
  clear sz z0 z1
  replace T := T.below hb3
  have b3 := b2.trans (hb3.mono b2.size)
  clear hb3
  have ⟨sz, z0, z1⟩ := T
  have sq : w.heap.size < w3.heap.size := sz
  have T3 := T.below (one_below w3 (.cells #[.int .i64 a, .int .i64 b] 23))
  have b4 := b3.trans ((one_below w3 (.cells #[.int .i64 a, .int .i64 b] 23)).mono b3.size)
  go_wp2_with fail
  clear sz z0 z1 T sq
  have T := T3
  clear T3
  have ⟨sz, z0, z1⟩ := T
  refine (parse_bad s hm _ (E.below b4) HG.out).mono ?_
  rintro e w5 ⟨r, hr, rfl, hb5⟩
  clear sz z0 z1
  replace T := T.below hb5
  have b5 := b4.trans (hb5.mono b4.size)
  clear hb5
  have ⟨sz, z0, z1⟩ := T
  have sq : w.heap.size < w5.heap.size := sz
  have T6 := T.below (one_below w5 (.cells #[.int .i64 0, .int .i64 0] 23))
  have b6 := b5.trans ((one_below w5 (.cells #[.int .i64 0, .int .i64 0] 23)).mono b5.size)
  go_wp2_with fail
  clear sz z0 z1 T sq
  have T := T6
  clear T6
  have ⟨sz, z0, z1⟩ := T
  have hq0 : 0 ≤ (7 * a + 3 * b + a * b) % n := Int.emod_nonneg _ (by omega)
  have hq1 : (7 * a + 3 * b + a * b) % n < n := Int.emod_lt_of_pos _ (by omega)
  refine (bucket_ok a b n _ h0 h1 h2 h3 n0 n1).mono ?_
  rintro e w7 ⟨rfl, hb7⟩
  clear sz z0 z1
  replace T := T.below hb7
  have b7 := b6.trans (hb7.mono b6.size)
  clear hb7
  have ⟨sz, z0, z1⟩ := T
  generalize (7 * a + 3 * b + a * b) % n = q at *
  go_wp2
  go_ret
  exact ⟨rfl, b7⟩

set_option maxHeartbeats 1000000 in
theorem back_ogn (a b n : Int) (s : ByteArray) (hm : s.size ≤ 9223372036854775807) (w : World) (E : Env w) (h0 : 0 ≤ a) (h1 : a ≤ 15) (h2 : 0 ≤ b) (h3 : b ≤ 15) (x y : Int) (hg : Good s x y) (hn : n < 1 ∨ (1 ≤ n ∧ 4 < n)) :
    Calls Tryd.prog 4 #[.agg #[.int .i64 a, .int .i64 b], .string s, .int .i64 n] w fun e w' => e = .returned (.bool true) ∧ Below w.heap.size w w' := by
  have b0 := one_below w (.cells #[.int .i64 a, .int .i64 b] 23)
  have T0 := One.start w (.int .i64 a) (.int .i64 b) 23
  have HG : Hid (Good s x y) := hg
  have HS : Hid ((wr x y == s.toList) = true) := by show (wr x y == s.toList) = true; rw [rd_some hg.2.1, ByteArray.toList_eq]; simp
  clear hg
  have HR : Hid (Good ⟨(wr a b).toArray⟩ a b) := ⟨by show (wr a b).toArray.size ≤ 20; have := wr_len a b h0 h1 h2 h3; simp; omega, rd_wr a b h0 h1 h2 h3, ⟨h0, h1⟩, h2, h3⟩
  have ke := kequal
  have cK : ∀ d os, Calls Tryd.prog 10 #[] (grow (redrawn (w.alloc (.cells #[.int .i64 a, .int .i64 b] 23)) d) os) fun e w'' => e = .returned (.bool true) ∧ ∃ p : Regrown, w'' = grow (redrawn (w.alloc (.cells #[.int .i64 a, .int .i64 b] 23)) p.d) p.os :=
    fun d os => Calls.regrown_of (keyed_any _ ((E.below b0).below (below_regrown _ d os)))
  have cT : ∀ x y d os, Calls Tryd.prog 12 #[.agg #[.int .i64 x, .int .i64 y]] (grow (redrawn (w.alloc (.cells #[.int .i64 a, .int .i64 b] 23)) d) os) fun e w'' => e = .returned (.agg #[.int .i64 y, .int .i64 x]) ∧ ∃ p : Regrown, w'' = grow (redrawn (w.alloc (.cells #[.int .i64 a, .int .i64 b] 23)) p.d) p.os :=
    fun x y d os => Calls.regrown_of (turn_any x y _)
  have k0 := cell_regrown T0.z0
  have k1 := cell_regrown T0.z1
  go_enter Tryd.func4, Tryd.ntmps4
  go_wp2
  refine wp_region_quiet_below (by kernel_rfl) (by kernel_rfl) ?_
  repeat (quiet_step (first | (go_at_call 10; exact cK _ _) | (go_at_call 12; exact cT _ _ _ _)))
  refine wpQuiet_nil ?_
  intro w1 hw'
  obtain ⟨⟨dq, osq⟩, hw''⟩ := hw'
  have hb1 := below_regrown (w.alloc (.cells #[.int .i64 a, .int .i64 b] 23)) dq osq
  rw [← hw''] at hb1
  clear hw'' cK cT k0 k1 dq osq
  have T := T0.below hb1
  have b1 := b0.trans (hb1.mono b0.size)
  clear hb1 T0 b0
  have ⟨sz, z0, z1⟩ := T
  go_wp2_with fail
  refine (print_t a b _ (E.below b1) h0 h1 h2 h3).mono ?_
  rintro e w2 ⟨rfl, hb2⟩
  clear sz z0 z1
  replace T := T.below hb2
  have b2 := b1.trans (hb2.mono b1.size)
  clear hb2
  have ⟨sz, z0, z1⟩ := T
  go_wp2_with fail
  refine (parse_good ⟨(wr a b).toArray⟩ _ (E.below b2) a b HR.out).mono ?_
  rintro e w3 ⟨rfl, hb3⟩
  clear sz z0 z1
  replace T := T.below hb3
  have b3 := b2.trans (hb3.mono b2.size)
  clear hb3
  have ⟨sz, z0, z1⟩ := T
  have sq : w.heap.size < w3.heap.size := sz
  have T3 := T.below (one_below w3 (.cells #[.int .i64 a, .int .i64 b] 23))
  have b4 := b3.trans ((one_below w3 (.cells #[.int .i64 a, .int .i64 b] 23)).mono b3.size)
  go_wp2_with fail
  clear sz z0 z1 T sq
  have T := T3
  clear T3
  have ⟨sz, z0, z1⟩ := T
  refine (parse_good s _ (E.below b4) x y HG.out).mono ?_
  rintro e w5 ⟨rfl, hb5⟩
  clear sz z0 z1
  replace T := T.below hb5
  have b5 := b4.trans (hb5.mono b4.size)
  clear hb5
  have ⟨sz, z0, z1⟩ := T
  have sq : w.heap.size < w5.heap.size := sz
  have T6 := T.below (one_below w5 (.cells #[.int .i64 x, .int .i64 y] 23))
  have b6 := b5.trans ((one_below w5 (.cells #[.int .i64 x, .int .i64 y] 23)).mono b5.size)
  go_wp2_with fail
  clear sz z0 z1 T sq
  have T := T6
  clear T6
  have ⟨sz, z0, z1⟩ := T
  refine (print_t x y _ (E.below b6) HG.out.2.2.1.1 HG.out.2.2.1.2 HG.out.2.2.2.1 HG.out.2.2.2.2).mono ?_
  rintro e w7 ⟨rfl, hb7⟩
  clear sz z0 z1
  replace T := T.below hb7
  have b7 := b6.trans (hb7.mono b6.size)
  clear hb7
  have ⟨sz, z0, z1⟩ := T
  have hst := HS.out
  go_wp2_with fail
  clear hst
  refine (bucket_no a b n _ (Or.inr ⟨⟨h0, h1, h2, h3⟩, hn⟩)).mono ?_
  rintro e w8 ⟨rfl, hb8⟩
  clear sz z0 z1
  replace T := T.below hb8
  have b8 := b7.trans (hb8.mono b7.size)
  clear hb8
  have ⟨sz, z0, z1⟩ := T
  clear hn
  go_wp2
  go_ret
  exact ⟨rfl, b8⟩

set_option maxHeartbeats 1000000 in
theorem back_ogo (a b n : Int) (s : ByteArray) (hm : s.size ≤ 9223372036854775807) (w : World) (E : Env w) (h0 : 0 ≤ a) (h1 : a ≤ 15) (h2 : 0 ≤ b) (h3 : b ≤ 15) (x y : Int) (hg : Good s x y) (n0 : 1 ≤ n) (n1 : n ≤ 4) :
    Calls Tryd.prog 4 #[.agg #[.int .i64 a, .int .i64 b], .string s, .int .i64 n] w fun e w' => e = .returned (.bool true) ∧ Below w.heap.size w w' := by
  have b0 := one_below w (.cells #[.int .i64 a, .int .i64 b] 23)
  have T0 := One.start w (.int .i64 a) (.int .i64 b) 23
  have HG : Hid (Good s x y) := hg
  have HS : Hid ((wr x y == s.toList) = true) := by show (wr x y == s.toList) = true; rw [rd_some hg.2.1, ByteArray.toList_eq]; simp
  clear hg
  have HR : Hid (Good ⟨(wr a b).toArray⟩ a b) := ⟨by show (wr a b).toArray.size ≤ 20; have := wr_len a b h0 h1 h2 h3; simp; omega, rd_wr a b h0 h1 h2 h3, ⟨h0, h1⟩, h2, h3⟩
  have ke := kequal
  have cK : ∀ d os, Calls Tryd.prog 10 #[] (grow (redrawn (w.alloc (.cells #[.int .i64 a, .int .i64 b] 23)) d) os) fun e w'' => e = .returned (.bool true) ∧ ∃ p : Regrown, w'' = grow (redrawn (w.alloc (.cells #[.int .i64 a, .int .i64 b] 23)) p.d) p.os :=
    fun d os => Calls.regrown_of (keyed_any _ ((E.below b0).below (below_regrown _ d os)))
  have cT : ∀ x y d os, Calls Tryd.prog 12 #[.agg #[.int .i64 x, .int .i64 y]] (grow (redrawn (w.alloc (.cells #[.int .i64 a, .int .i64 b] 23)) d) os) fun e w'' => e = .returned (.agg #[.int .i64 y, .int .i64 x]) ∧ ∃ p : Regrown, w'' = grow (redrawn (w.alloc (.cells #[.int .i64 a, .int .i64 b] 23)) p.d) p.os :=
    fun x y d os => Calls.regrown_of (turn_any x y _)
  have k0 := cell_regrown T0.z0
  have k1 := cell_regrown T0.z1
  go_enter Tryd.func4, Tryd.ntmps4
  go_wp2
  refine wp_region_quiet_below (by kernel_rfl) (by kernel_rfl) ?_
  repeat (quiet_step (first | (go_at_call 10; exact cK _ _) | (go_at_call 12; exact cT _ _ _ _)))
  refine wpQuiet_nil ?_
  intro w1 hw'
  obtain ⟨⟨dq, osq⟩, hw''⟩ := hw'
  have hb1 := below_regrown (w.alloc (.cells #[.int .i64 a, .int .i64 b] 23)) dq osq
  rw [← hw''] at hb1
  clear hw'' cK cT k0 k1 dq osq
  have T := T0.below hb1
  have b1 := b0.trans (hb1.mono b0.size)
  clear hb1 T0 b0
  have ⟨sz, z0, z1⟩ := T
  go_wp2_with fail
  refine (print_t a b _ (E.below b1) h0 h1 h2 h3).mono ?_
  rintro e w2 ⟨rfl, hb2⟩
  clear sz z0 z1
  replace T := T.below hb2
  have b2 := b1.trans (hb2.mono b1.size)
  clear hb2
  have ⟨sz, z0, z1⟩ := T
  go_wp2_with fail
  refine (parse_good ⟨(wr a b).toArray⟩ _ (E.below b2) a b HR.out).mono ?_
  rintro e w3 ⟨rfl, hb3⟩
  clear sz z0 z1
  replace T := T.below hb3
  have b3 := b2.trans (hb3.mono b2.size)
  clear hb3
  have ⟨sz, z0, z1⟩ := T
  have sq : w.heap.size < w3.heap.size := sz
  have T3 := T.below (one_below w3 (.cells #[.int .i64 a, .int .i64 b] 23))
  have b4 := b3.trans ((one_below w3 (.cells #[.int .i64 a, .int .i64 b] 23)).mono b3.size)
  go_wp2_with fail
  clear sz z0 z1 T sq
  have T := T3
  clear T3
  have ⟨sz, z0, z1⟩ := T
  refine (parse_good s _ (E.below b4) x y HG.out).mono ?_
  rintro e w5 ⟨rfl, hb5⟩
  clear sz z0 z1
  replace T := T.below hb5
  have b5 := b4.trans (hb5.mono b4.size)
  clear hb5
  have ⟨sz, z0, z1⟩ := T
  have sq : w.heap.size < w5.heap.size := sz
  have T6 := T.below (one_below w5 (.cells #[.int .i64 x, .int .i64 y] 23))
  have b6 := b5.trans ((one_below w5 (.cells #[.int .i64 x, .int .i64 y] 23)).mono b5.size)
  go_wp2_with fail
  clear sz z0 z1 T sq
  have T := T6
  clear T6
  have ⟨sz, z0, z1⟩ := T
  refine (print_t x y _ (E.below b6) HG.out.2.2.1.1 HG.out.2.2.1.2 HG.out.2.2.2.1 HG.out.2.2.2.2).mono ?_
  rintro e w7 ⟨rfl, hb7⟩
  clear sz z0 z1
  replace T := T.below hb7
  have b7 := b6.trans (hb7.mono b6.size)
  clear hb7
  have ⟨sz, z0, z1⟩ := T
  have hst := HS.out
  go_wp2_with fail
  clear hst
  have hq0 : 0 ≤ (7 * a + 3 * b + a * b) % n := Int.emod_nonneg _ (by omega)
  have hq1 : (7 * a + 3 * b + a * b) % n < n := Int.emod_lt_of_pos _ (by omega)
  refine (bucket_ok a b n _ h0 h1 h2 h3 n0 n1).mono ?_
  rintro e w8 ⟨rfl, hb8⟩
  clear sz z0 z1
  replace T := T.below hb8
  have b8 := b7.trans (hb8.mono b7.size)
  clear hb8
  have ⟨sz, z0, z1⟩ := T
  generalize (7 * a + 3 * b + a * b) % n = q at *
  go_wp2
  go_ret
  exact ⟨rfl, b8⟩

theorem back_any (a b n : Int) (s : ByteArray) (hm : s.size ≤ 9223372036854775807) (w : World) (E : Env w) :
    Calls Tryd.prog 4 #[.agg #[.int .i64 a, .int .i64 b], .string s, .int .i64 n] w fun e w' => e = .returned (.bool true) ∧ Below w.heap.size w w' := by
  cases h : okK a b with
  | false =>
    by_cases hg : ∃ a b, Good s a b
    · obtain ⟨x, y, hg⟩ := hg
      exact back_bg a b n s hm w E h x y hg
    · exact back_bb a b n s hm w E h hg
  | true =>
    obtain ⟨h0, h1, h2, h3⟩ := okK_t h
    by_cases hn : 1 ≤ n ∧ n ≤ 4
    · by_cases hg : ∃ a b, Good s a b
      · obtain ⟨x, y, hg⟩ := hg
        exact back_ogo a b n s hm w E h0 h1 h2 h3 x y hg hn.1 hn.2
      · exact back_obo a b n s hm w E h0 h1 h2 h3 hg hn.1 hn.2
    · have hn' : n < 1 ∨ (1 ≤ n ∧ 4 < n) := by omega
      by_cases hg : ∃ a b, Good s a b
      · obtain ⟨x, y, hg⟩ := hg
        exact back_ogn a b n s hm w E h0 h1 h2 h3 x y hg hn'
      · exact back_obn a b n s hm w E h0 h1 h2 h3 hg hn'
end Go.Proofs.YtdbilofhcadmoaaDoor.key
