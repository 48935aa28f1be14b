/- The walk of KeySays: for any key, number and text the law returns true, and changes nothing that was there. -/
import Derived.Test.YtdbilofhcadmoaaDoorRef
namespace Go.Proofs.YtdbilofhcadmoaaDoor.key
open Go.ChangeShapes Go.WideShapes Go.ChangeAt Go.RowKit Go.Sort
open Go.Proofs.YtdbilofhcadmoaaDoor.pure
set_option linter.unusedVariables false

set_option maxHeartbeats 400000 in
theorem keyText_any (a b : Int) (ha : I64 a) (hb : I64 b) (w : World) (E : Env w) :
    Calls Tryd.prog 13 #[.agg #[.int .i64 a, .int .i64 b]] w fun e w' => e = .returned (.string ⟨(wr a b).toArray⟩) ∧ Below w.heap.size w w' := by
  have bw : Below w.heap.size w (w.alloc (.cells #[.int .i64 a, .int .i64 b] 23)) := (Below.refl _ _).alloc (Nat.le_refl _) _
  have cN : ∀ n d os, I64 n → Calls Tryd.prog 20 #[.int .i64 n] (grow (redrawn (w.alloc (.cells #[.int .i64 a, .int .i64 b] 23)) d) os) fun e w'' => e = .returned (.string ⟨(Lib.itoa n).toArray⟩) ∧ ∃ p : Regrown, w'' = grow (redrawn (w.alloc (.cells #[.int .i64 a, .int .i64 b] 23)) p.d) p.os :=
    fun n d os hn => Calls.regrown_of (itoa_any n hn _ ((E.below bw).below (below_regrown _ d os)))
  have k0 := cell_regrown (w := w.alloc (.cells #[.int .i64 a, .int .i64 b] 23)) (a := ⟨w.heap.size, 0, none⟩) (v := .int .i64 a) (by simp)
  have k1 := cell_regrown (w := w.alloc (.cells #[.int .i64 a, .int .i64 b] 23)) (a := ⟨w.heap.size, 1, none⟩) (v := .int .i64 b) (by simp)
  have la := Lib.itoa_length_le a ha.1 ha.2
  have lb := Lib.itoa_length_le b hb.1 hb.2
  have n1 : ¬ 9223372036854775807 < (Lib.itoa a).length + 1 := by omega
  have n2 : ¬ 9223372036854775807 < (Lib.itoa a).length + 1 + (Lib.itoa b).length := by omega
  go_enter Tryd.func13, Tryd.ntmps13
  go_wp2
  refine wp_region_quiet_below (by kernel_rfl) (by kernel_rfl) ?_
  repeat (quiet_step (first | exact cN _ _ _ (by assumption)))
  refine wpQuiet_nil ?_
  intro _ hw'
  obtain ⟨⟨dq, osq⟩, hw''⟩ := hw'
  subst hw''
  go_wp2
  go_ret
  refine ⟨?_, bw.trans ((below_regrown _ dq osq).mono (by simp))⟩
  show Ending.returned (.string ((⟨(Lib.itoa a).toArray⟩ : ByteArray) ++ ⟨#[62]⟩ ++ ⟨(Lib.itoa b).toArray⟩)) = _
  rw [wr_bytes]

/-- Parse and the document's own reading answer alike. -/
theorem parse_same (s : ByteArray) (hs : s.size ≤ 20) : ∃ x y r : Int,
    (∀ w, Env w → Calls Tryd.prog 8 #[.string s] w fun e w' => e = .returned (.tuple #[.agg #[.int .i64 x, .int .i64 y], .int .i64 r]) ∧ Below w.heap.size w w') ∧
    (∀ w, Env w → Calls Tryd.prog 15 #[.string s] w fun e w' => e = .returned (.tuple #[.agg #[.int .i64 x, .int .i64 y], .int .i64 r]) ∧ Below w.heap.size w w') := by
  cases hr : rd s.data.toList with
  | none => exact ⟨0, 0, 1, fun w E => parse_text s hs w E hr, fun w E => ref_none s hs w E hr⟩
  | some p =>
    obtain ⟨a, b⟩ := p
    cases hk : okK a b with
    | false => exact ⟨0, 0, 3, fun w E => parse_range s hs w E a b hr hk, fun w E => ref_range s hs w E a b hr hk⟩
    | true =>
      obtain ⟨h0, h1, h2, h3⟩ := okK_t hk
      exact ⟨a, b, 0, fun w E => parse_ok s hs w E a b hr h0 h1 h2 h3, fun w E => ref_ok s hs w E a b hr h0 h1 h2 h3⟩

set_option maxHeartbeats 1600000 in
theorem says_bad_long (a b n : Int) (s : ByteArray) (w : World) (E : Env w) (h : okK a b = false) (hs : 20 < s.size) (hm : s.size ≤ 9223372036854775807) :
    Calls Tryd.prog 3 #[.agg #[.int .i64 a, .int .i64 b], .int .i64 n, .string s] w fun e w' => e = .returned (.bool true) ∧ Below w.heap.size w w' := by
  have b0 := one_below w (.cells #[.int .i64 a, .int .i64 b] 23)
  have T := One.start w (.int .i64 a) (.int .i64 b) 23
  have ke := kequal
  go_enter Tryd.func3, Tryd.ntmps3
  go_wp2_with fail
  refine (bucket_no a b n _ (Or.inl h)).mono ?_
  rintro e w1 ⟨rfl, hb1⟩
  replace T := T.below hb1
  have b1 := b0.trans (hb1.mono b0.size)
  clear hb1
  have ⟨sz, z0, z1⟩ := T
  go_wp2_with fail
  clear sz z0 z1
  refine (print_f a b _ h).mono ?_
  rintro e w2 ⟨rfl, hb2⟩
  replace T := T.below hb2
  have b2 := b1.trans (hb2.mono b1.size)
  clear hb2
  have ⟨sz, z0, z1⟩ := T
  go_wp2_with fail
  clear sz z0 z1
  refine (parse_long s hs hm _).mono ?_
  rintro e w3 ⟨rfl, hb3⟩
  replace T := T.below hb3
  have b3 := b2.trans (hb3.mono b2.size)
  clear hb3
  have sq : w.heap.size < w3.heap.size := T.sz
  have ⟨sz, z0, z1⟩ := T
  go_wp2_with fail
  clear sz z0 z1 sq
  have bn := one_below w3 (.cells #[.int .i64 0, .int .i64 0] 23)
  have U := One.start w3 (.int .i64 0) (.int .i64 0) 23
  replace T := T.below bn
  have c3 := b3.trans (bn.mono b3.size)
  clear bn
  refine (isKey_f a b _ h).mono ?_
  rintro e w4 ⟨rfl, hb4⟩
  replace T := T.below hb4
  replace U := U.below hb4
  have b4 := c3.trans (hb4.mono c3.size)
  clear hb4 c3 b3
  have E4 := E.below b4
  have cK : ∀ d os, Calls Tryd.prog 10 #[] (grow (redrawn w4 d) os) fun e w'' => e = .returned (.bool true) ∧ ∃ p : Regrown, w'' = grow (redrawn w4 p.d) p.os :=
    fun d os => Calls.regrown_of (keyed_any _ (E4.below (below_regrown _ d os)))
  have cC : ∀ d os, Calls Tryd.prog 11 #[.agg #[.int .i64 a, .int .i64 b]] (grow (redrawn w4 d) os) fun e w'' => e = .returned (.int .i64 3) ∧ ∃ p : Regrown, w'' = grow (redrawn w4 p.d) p.os :=
    fun d os => Calls.regrown_of (check_f a b _ h)
  have cT : ∀ d os, Calls Tryd.prog 12 #[.agg #[.int .i64 a, .int .i64 b]] (grow (redrawn w4 d) os) fun e w'' => e = .returned (.agg #[.int .i64 b, .int .i64 a]) ∧ ∃ p : Regrown, w'' = grow (redrawn w4 p.d) p.os :=
    fun d os => Calls.regrown_of (turn_any a b _)
  have k0 := cell_regrown T.z0
  have k1 := cell_regrown T.z1
  go_wp2
  refine wp_region_quiet_below (by kernel_rfl) (by kernel_rfl) ?_
  repeat (quiet_step (first | (go_at_call 10; exact cK _ _) | (go_at_call 11; exact cC _ _) | (go_at_call 12; exact cT _ _)))
  refine wpQuiet_nil ?_
  intro w5 hw'
  obtain ⟨⟨dq, osq⟩, hw''⟩ := hw'
  have hb5 := below_regrown w4 dq osq
  rw [← hw''] at hb5
  clear hw'' cK cC cT k0 k1 dq osq E4
  replace T := T.below hb5
  replace U := U.below hb5
  have b5 := b4.trans (hb5.mono b4.size)
  clear hb5
  have ⟨sz, z0, z1⟩ := T
  have ⟨sy, y0, y1⟩ := U
  go_wp2_with fail
  go_ret
  exact ⟨rfl, b5⟩

set_option maxHeartbeats 1600000 in
theorem says_bad_short (a b n : Int) (s : ByteArray) (w : World) (E : Env w) (h : okK a b = false) (hs : s.size ≤ 20) (x y r : Int)
    (hP : ∀ w, Env w → Calls Tryd.prog 8 #[.string s] w fun e w' => e = .returned (.tuple #[.agg #[.int .i64 x, .int .i64 y], .int .i64 r]) ∧ Below w.heap.size w w')
    (hR : ∀ w, Env w → Calls Tryd.prog 15 #[.string s] w fun e w' => e = .returned (.tuple #[.agg #[.int .i64 x, .int .i64 y], .int .i64 r]) ∧ Below w.heap.size w w') :
    Calls Tryd.prog 3 #[.agg #[.int .i64 a, .int .i64 b], .int .i64 n, .string s] w fun e w' => e = .returned (.bool true) ∧ Below w.heap.size w w' := by
  have b0 := one_below w (.cells #[.int .i64 a, .int .i64 b] 23)
  have T := One.start w (.int .i64 a) (.int .i64 b) 23
  have ke := kequal
  have HP : Hid (∀ w, Env w → Calls Tryd.prog 8 #[.string s] w fun e w' => e = .returned (.tuple #[.agg #[.int .i64 x, .int .i64 y], .int .i64 r]) ∧ Below w.heap.size w w') := hP
  have HR : Hid (∀ w, Env w → Calls Tryd.prog 15 #[.string s] w fun e w' => e = .returned (.tuple #[.agg #[.int .i64 x, .int .i64 y], .int .i64 r]) ∧ Below w.heap.size w w') := hR
  clear hP hR
  go_enter Tryd.func3, Tryd.ntmps3
  go_wp2_with fail
  refine (bucket_no a b n _ (Or.inl h)).mono ?_
  rintro e w1 ⟨rfl, hb1⟩
  replace T := T.below hb1
  have b1 := b0.trans (hb1.mono b0.size)
  clear hb1
  have ⟨sz, z0, z1⟩ := T
  go_wp2_with fail
  clear sz z0 z1
  refine (print_f a b _ h).mono ?_
  rintro e w2 ⟨rfl, hb2⟩
  replace T := T.below hb2
  have b2 := b1.trans (hb2.mono b1.size)
  clear hb2
  have ⟨sz, z0, z1⟩ := T
  go_wp2_with fail
  clear sz z0 z1
  refine (HP.out _ (E.below b2)).mono ?_
  rintro e w3 ⟨rfl, hb3⟩
  replace T := T.below hb3
  have b3 := b2.trans (hb3.mono b2.size)
  clear hb3
  have sq : w.heap.size < w3.heap.size := T.sz
  have ⟨sz, z0, z1⟩ := T
  go_wp2_with fail
  clear sz z0 z1 sq
  have bn := one_below w3 (.cells #[.int .i64 x, .int .i64 y] 23)
  have U := One.start w3 (.int .i64 x) (.int .i64 y) 23
  replace T := T.below bn
  have c3 := b3.trans (bn.mono b3.size)
  clear bn
  refine (isKey_f a b _ h).mono ?_
  rintro e w4 ⟨rfl, hb4⟩
  replace T := T.below hb4
  replace U := U.below hb4
  have b4 := c3.trans (hb4.mono c3.size)
  clear hb4 c3 b3
  have E4 := E.below b4
  have cK : ∀ d os, Calls Tryd.prog 10 #[] (grow (redrawn w4 d) os) fun e w'' => e = .returned (.bool true) ∧ ∃ p : Regrown, w'' = grow (redrawn w4 p.d) p.os :=
    fun d os => Calls.regrown_of (keyed_any _ (E4.below (below_regrown _ d os)))
  have cC : ∀ d os, Calls Tryd.prog 11 #[.agg #[.int .i64 a, .int .i64 b]] (grow (redrawn w4 d) os) fun e w'' => e = .returned (.int .i64 3) ∧ ∃ p : Regrown, w'' = grow (redrawn w4 p.d) p.os :=
    fun d os => Calls.regrown_of (check_f a b _ h)
  have cT : ∀ d os, Calls Tryd.prog 12 #[.agg #[.int .i64 a, .int .i64 b]] (grow (redrawn w4 d) os) fun e w'' => e = .returned (.agg #[.int .i64 b, .int .i64 a]) ∧ ∃ p : Regrown, w'' = grow (redrawn w4 p.d) p.os :=
    fun d os => Calls.regrown_of (turn_any a b _)
  have k0 := cell_regrown T.z0
  have k1 := cell_regrown T.z1
  go_wp2
  refine wp_region_quiet_below (by kernel_rfl) (by kernel_rfl) ?_
  repeat (quiet_step (first | (go_at_call 10; exact cK _ _) | (go_at_call 11; exact cC _ _) | (go_at_call 12; exact cT _ _)))
  refine wpQuiet_nil ?_
  intro w5 hw'
  obtain ⟨⟨dq, osq⟩, hw''⟩ := hw'
  have hb5 := below_regrown w4 dq osq
  rw [← hw''] at hb5
  clear hw'' cK cC cT k0 k1 dq osq E4
  replace T := T.below hb5
  replace U := U.below hb5
  have b5 := b4.trans (hb5.mono b4.size)
  clear hb5
  have ⟨sz, z0, z1⟩ := T
  have ⟨sy, y0, y1⟩ := U
  go_wp2_with fail
  refine (HR.out _ (E.below b5)).mono ?_
  rintro e w6 ⟨rfl, hb6⟩
  have T' := T.below hb6
  have U' := U.below hb6
  have b6 := b5.trans (hb6.mono b5.size)
  have sq : w.heap.size < w6.heap.size := T'.sz
  clear sz z0 z1 sy y0 y1
  have ⟨sy, y0, y1⟩ := U'
  go_wp2
  go_ret
  exact ⟨by simp, b6.trans ((one_below _ _).mono b6.size)⟩

set_option maxHeartbeats 1600000 in
theorem says_okno_long (a b n : Int) (s : ByteArray) (w : World) (E : Env w) (h0 : 0 ≤ a) (h1 : a ≤ 15) (h2 : 0 ≤ b) (h3 : b ≤ 15) (hn : n < 1 ∨ (1 ≤ n ∧ 4 < n)) (hs : 20 < s.size) (hm : s.size ≤ 9223372036854775807) :
    Calls Tryd.prog 3 #[.agg #[.int .i64 a, .int .i64 b], .int .i64 n, .string s] w fun e w' => e = .returned (.bool true) ∧ Below w.heap.size w w' := by
  have b0 := one_below w (.cells #[.int .i64 a, .int .i64 b] 23)
  have T := One.start w (.int .i64 a) (.int .i64 b) 23
  have ke := kequal
  have HN : Hid (n < 1 ∨ (1 ≤ n ∧ 4 < n)) := hn
  clear hn
  go_enter Tryd.func3, Tryd.ntmps3
  go_wp2_with fail
  refine (bucket_no a b n _ (Or.inr ⟨⟨h0, h1, h2, h3⟩, HN.out⟩)).mono ?_
  rintro e w1 ⟨rfl, hb1⟩
  replace T := T.below hb1
  have b1 := b0.trans (hb1.mono b0.size)
  clear hb1
  have ⟨sz, z0, z1⟩ := T
  go_wp2_with fail
  clear sz z0 z1
  refine (print_t a b _ (E.below b1) h0 h1 h2 h3).mono ?_
  rintro e w2 ⟨rfl, hb2⟩
  replace T := T.below hb2
  have b2 := b1.trans (hb2.mono b1.size)
  clear hb2
  have ⟨sz, z0, z1⟩ := T
  go_wp2_with fail
  clear sz z0 z1
  refine (parse_long s hs hm _).mono ?_
  rintro e w3 ⟨rfl, hb3⟩
  replace T := T.below hb3
  have b3 := b2.trans (hb3.mono b2.size)
  clear hb3
  have sq : w.heap.size < w3.heap.size := T.sz
  have ⟨sz, z0, z1⟩ := T
  go_wp2_with fail
  clear sz z0 z1 sq
  have bn := one_below w3 (.cells #[.int .i64 0, .int .i64 0] 23)
  have U := One.start w3 (.int .i64 0) (.int .i64 0) 23
  replace T := T.below bn
  have c3 := b3.trans (bn.mono b3.size)
  clear bn
  refine (isKey_t a b _ h0 h1 h2 h3).mono ?_
  rintro e w4 ⟨rfl, hb4⟩
  replace T := T.below hb4
  replace U := U.below hb4
  have b4 := c3.trans (hb4.mono c3.size)
  clear hb4 c3 b3
  have E4 := E.below b4
  have cK : ∀ d os, Calls Tryd.prog 10 #[] (grow (redrawn w4 d) os) fun e w'' => e = .returned (.bool true) ∧ ∃ p : Regrown, w'' = grow (redrawn w4 p.d) p.os :=
    fun d os => Calls.regrown_of (keyed_any _ (E4.below (below_regrown _ d os)))
  have cC : ∀ d os, Calls Tryd.prog 11 #[.agg #[.int .i64 a, .int .i64 b]] (grow (redrawn w4 d) os) fun e w'' => e = .returned (.int .i64 0) ∧ ∃ p : Regrown, w'' = grow (redrawn w4 p.d) p.os :=
    fun d os => Calls.regrown_of (check_t a b _ h0 h1 h2 h3)
  have cT : ∀ d os, Calls Tryd.prog 12 #[.agg #[.int .i64 a, .int .i64 b]] (grow (redrawn w4 d) os) fun e w'' => e = .returned (.agg #[.int .i64 b, .int .i64 a]) ∧ ∃ p : Regrown, w'' = grow (redrawn w4 p.d) p.os :=
    fun d os => Calls.regrown_of (turn_any a b _)
  have k0 := cell_regrown T.z0
  have k1 := cell_regrown T.z1
  go_wp2
  refine wp_region_quiet_below (by kernel_rfl) (by kernel_rfl) ?_
  repeat (quiet_step (first | (go_at_call 10; exact cK _ _) | (go_at_call 11; exact cC _ _) | (go_at_call 12; exact cT _ _)))
  refine wpQuiet_nil ?_
  intro w5 hw'
  obtain ⟨⟨dq, osq⟩, hw''⟩ := hw'
  have hb5 := below_regrown w4 dq osq
  rw [← hw''] at hb5
  clear hw'' cK cC cT k0 k1 dq osq E4
  replace T := T.below hb5
  replace U := U.below hb5
  have b5 := b4.trans (hb5.mono b4.size)
  clear hb5
  have ⟨sz, z0, z1⟩ := T
  have ⟨sy, y0, y1⟩ := U
  go_wp2_with fail
  clear sz z0 z1 sy y0 y1
  refine (keyText_any a b (i64_of h0 h1) (i64_of h2 h3) _ (E.below b5)).mono ?_
  rintro e w6 ⟨rfl, hb6⟩
  replace T := T.below hb6
  replace U := U.below hb6
  have b6 := b5.trans (hb6.mono b5.size)
  clear hb6
  have ⟨sz, z0, z1⟩ := T
  have ⟨sy, y0, y1⟩ := U
  rcases HN.out with hn | ⟨hn, hn2⟩
  all_goals
    go_wp2_with fail
    go_ret
    exact ⟨rfl, b6⟩

set_option maxHeartbeats 1600000 in
theorem says_okno_short (a b n : Int) (s : ByteArray) (w : World) (E : Env w) (h0 : 0 ≤ a) (h1 : a ≤ 15) (h2 : 0 ≤ b) (h3 : b ≤ 15) (hn : n < 1 ∨ (1 ≤ n ∧ 4 < n)) (hs : s.size ≤ 20) (x y r : Int)
    (hP : ∀ w, Env w → Calls Tryd.prog 8 #[.string s] w fun e w' => e = .returned (.tuple #[.agg #[.int .i64 x, .int .i64 y], .int .i64 r]) ∧ Below w.heap.size w w')
    (hR : ∀ w, Env w → Calls Tryd.prog 15 #[.string s] w fun e w' => e = .returned (.tuple #[.agg #[.int .i64 x, .int .i64 y], .int .i64 r]) ∧ Below w.heap.size w w') :
    Calls Tryd.prog 3 #[.agg #[.int .i64 a, .int .i64 b], .int .i64 n, .string s] w fun e w' => e = .returned (.bool true) ∧ Below w.heap.size w w' := by
  have b0 := one_below w (.cells #[.int .i64 a, .int .i64 b] 23)
  have T := One.start w (.int .i64 a) (.int .i64 b) 23
  have ke := kequal
  have HP : Hid (∀ w, Env w → Calls Tryd.prog 8 #[.string s] w fun e w' => e = .returned (.tuple #[.agg #[.int .i64 x, .int .i64 y], .int .i64 r]) ∧ Below w.heap.size w w') := hP
  have HR : Hid (∀ w, Env w → Calls Tryd.prog 15 #[.string s] w fun e w' => e = .returned (.tuple #[.agg #[.int .i64 x, .int .i64 y], .int .i64 r]) ∧ Below w.heap.size w w') := hR
  clear hP hR
  have HN : Hid (n < 1 ∨ (1 ≤ n ∧ 4 < n)) := hn
  clear hn
  go_enter Tryd.func3, Tryd.ntmps3
  go_wp2_with fail
  refine (bucket_no a b n _ (Or.inr ⟨⟨h0, h1, h2, h3⟩, HN.out⟩)).mono ?_
  rintro e w1 ⟨rfl, hb1⟩
  replace T := T.below hb1
  have b1 := b0.trans (hb1.mono b0.size)
  clear hb1
  have ⟨sz, z0, z1⟩ := T
  go_wp2_with fail
  clear sz z0 z1
  refine (print_t a b _ (E.below b1) h0 h1 h2 h3).mono ?_
  rintro e w2 ⟨rfl, hb2⟩
  replace T := T.below hb2
  have b2 := b1.trans (hb2.mono b1.size)
  clear hb2
  have ⟨sz, z0, z1⟩ := T
  go_wp2_with fail
  clear sz z0 z1
  refine (HP.out _ (E.below b2)).mono ?_
  rintro e w3 ⟨rfl, hb3⟩
  replace T := T.below hb3
  have b3 := b2.trans (hb3.mono b2.size)
  clear hb3
  have sq : w.heap.size < w3.heap.size := T.sz
  have ⟨sz, z0, z1⟩ := T
  go_wp2_with fail
  clear sz z0 z1 sq
  have bn := one_below w3 (.cells #[.int .i64 x, .int .i64 y] 23)
  have U := One.start w3 (.int .i64 x) (.int .i64 y) 23
  replace T := T.below bn
  have c3 := b3.trans (bn.mono b3.size)
  clear bn
  refine (isKey_t a b _ h0 h1 h2 h3).mono ?_
  rintro e w4 ⟨rfl, hb4⟩
  replace T := T.below hb4
  replace U := U.below hb4
  have b4 := c3.trans (hb4.mono c3.size)
  clear hb4 c3 b3
  have E4 := E.below b4
  have cK : ∀ d os, Calls Tryd.prog 10 #[] (grow (redrawn w4 d) os) fun e w'' => e = .returned (.bool true) ∧ ∃ p : Regrown, w'' = grow (redrawn w4 p.d) p.os :=
    fun d os => Calls.regrown_of (keyed_any _ (E4.below (below_regrown _ d os)))
  have cC : ∀ d os, Calls Tryd.prog 11 #[.agg #[.int .i64 a, .int .i64 b]] (grow (redrawn w4 d) os) fun e w'' => e = .returned (.int .i64 0) ∧ ∃ p : Regrown, w'' = grow (redrawn w4 p.d) p.os :=
    fun d os => Calls.regrown_of (check_t a b _ h0 h1 h2 h3)
  have cT : ∀ d os, Calls Tryd.prog 12 #[.agg #[.int .i64 a, .int .i64 b]] (grow (redrawn w4 d) os) fun e w'' => e = .returned (.agg #[.int .i64 b, .int .i64 a]) ∧ ∃ p : Regrown, w'' = grow (redrawn w4 p.d) p.os :=
    fun d os => Calls.regrown_of (turn_any a b _)
  have k0 := cell_regrown T.z0
  have k1 := cell_regrown T.z1
  go_wp2
  refine wp_region_quiet_below (by kernel_rfl) (by kernel_rfl) ?_
  repeat (quiet_step (first | (go_at_call 10; exact cK _ _) | (go_at_call 11; exact cC _ _) | (go_at_call 12; exact cT _ _)))
  refine wpQuiet_nil ?_
  intro w5 hw'
  obtain ⟨⟨dq, osq⟩, hw''⟩ := hw'
  have hb5 := below_regrown w4 dq osq
  rw [← hw''] at hb5
  clear hw'' cK cC cT k0 k1 dq osq E4
  replace T := T.below hb5
  replace U := U.below hb5
  have b5 := b4.trans (hb5.mono b4.size)
  clear hb5
  have ⟨sz, z0, z1⟩ := T
  have ⟨sy, y0, y1⟩ := U
  go_wp2_with fail
  clear sz z0 z1 sy y0 y1
  refine (keyText_any a b (i64_of h0 h1) (i64_of h2 h3) _ (E.below b5)).mono ?_
  rintro e w6 ⟨rfl, hb6⟩
  replace T := T.below hb6
  replace U := U.below hb6
  have b6 := b5.trans (hb6.mono b5.size)
  clear hb6
  have ⟨sz, z0, z1⟩ := T
  have ⟨sy, y0, y1⟩ := U
  rcases HN.out with hn | ⟨hn, hn2⟩
  all_goals
    go_wp2_with fail
    refine (HR.out _ (E.below b6)).mono ?_
    rintro e w7 ⟨rfl, hb7⟩
    have T' := T.below hb7
    have U' := U.below hb7
    have b7 := b6.trans (hb7.mono b6.size)
    have sq : w.heap.size < w7.heap.size := T'.sz
    clear sz z0 z1 sy y0 y1
    have ⟨sy, y0, y1⟩ := U'
    go_wp2
    go_ret
    exact ⟨by simp, b7.trans ((one_below _ _).mono b7.size)⟩

set_option maxHeartbeats 1600000 in
theorem says_okok_long (a b n : Int) (s : ByteArray) (w : World) (E : Env w) (h0 : 0 ≤ a) (h1 : a ≤ 15) (h2 : 0 ≤ b) (h3 : b ≤ 15) (n0 : 1 ≤ n) (n1 : n ≤ 4) (hs : 20 < s.size) (hm : s.size ≤ 9223372036854775807) :
    Calls Tryd.prog 3 #[.agg #[.int .i64 a, .int .i64 b], .int .i64 n, .string s] w fun e w' => e = .returned (.bool true) ∧ Below w.heap.size w w' := by
  have b0 := one_below w (.cells #[.int .i64 a, .int .i64 b] 23)
  have T := One.start w (.int .i64 a) (.int .i64 b) 23
  have ke := kequal
  go_enter Tryd.func3, Tryd.ntmps3
  go_wp2_with fail
  obtain ⟨q, hq⟩ : ∃ q, q = (7 * a + 3 * b + a * b) % n := ⟨_, rfl⟩
  have HB : Hid (q = (7 * a + 3 * b + a * b) % n) := hq
  have cB : ∀ W, Calls Tryd.prog 6 #[.agg #[.int .i64 a, .int .i64 b], .int .i64 n] W fun e w' => e = .returned (.tuple #[.int .i64 q, .int .i64 0]) ∧ Below W.heap.size W w' := fun W => by rw [hq]; exact bucket_ok a b n W h0 h1 h2 h3 n0 n1
  clear hq
  refine (cB _).mono ?_
  rintro e w1 ⟨rfl, hb1⟩
  replace T := T.below hb1
  have b1 := b0.trans (hb1.mono b0.size)
  clear hb1
  clear cB
  have ⟨sz, z0, z1⟩ := T
  go_wp2_with fail
  clear sz z0 z1
  refine (print_t a b _ (E.below b1) h0 h1 h2 h3).mono ?_
  rintro e w2 ⟨rfl, hb2⟩
  replace T := T.below hb2
  have b2 := b1.trans (hb2.mono b1.size)
  clear hb2
  have ⟨sz, z0, z1⟩ := T
  go_wp2_with fail
  clear sz z0 z1
  refine (parse_long s hs hm _).mono ?_
  rintro e w3 ⟨rfl, hb3⟩
  replace T := T.below hb3
  have b3 := b2.trans (hb3.mono b2.size)
  clear hb3
  have sq : w.heap.size < w3.heap.size := T.sz
  have ⟨sz, z0, z1⟩ := T
  go_wp2_with fail
  clear sz z0 z1 sq
  have bn := one_below w3 (.cells #[.int .i64 0, .int .i64 0] 23)
  have U := One.start w3 (.int .i64 0) (.int .i64 0) 23
  replace T := T.below bn
  have c3 := b3.trans (bn.mono b3.size)
  clear bn
  refine (isKey_t a b _ h0 h1 h2 h3).mono ?_
  rintro e w4 ⟨rfl, hb4⟩
  replace T := T.below hb4
  replace U := U.below hb4
  have b4 := c3.trans (hb4.mono c3.size)
  clear hb4 c3 b3
  have E4 := E.below b4
  have cK : ∀ d os, Calls Tryd.prog 10 #[] (grow (redrawn w4 d) os) fun e w'' => e = .returned (.bool true) ∧ ∃ p : Regrown, w'' = grow (redrawn w4 p.d) p.os :=
    fun d os => Calls.regrown_of (keyed_any _ (E4.below (below_regrown _ d os)))
  have cC : ∀ d os, Calls Tryd.prog 11 #[.agg #[.int .i64 a, .int .i64 b]] (grow (redrawn w4 d) os) fun e w'' => e = .returned (.int .i64 0) ∧ ∃ p : Regrown, w'' = grow (redrawn w4 p.d) p.os :=
    fun d os => Calls.regrown_of (check_t a b _ h0 h1 h2 h3)
  have cT : ∀ d os, Calls Tryd.prog 12 #[.agg #[.int .i64 a, .int .i64 b]] (grow (redrawn w4 d) os) fun e w'' => e = .returned (.agg #[.int .i64 b, .int .i64 a]) ∧ ∃ p : Regrown, w'' = grow (redrawn w4 p.d) p.os :=
    fun d os => Calls.regrown_of (turn_any a b _)
  have k0 := cell_regrown T.z0
  have k1 := cell_regrown T.z1
  go_wp2
  refine wp_region_quiet_below (by kernel_rfl) (by kernel_rfl) ?_
  repeat (quiet_step (first | (go_at_call 10; exact cK _ _) | (go_at_call 11; exact cC _ _) | (go_at_call 12; exact cT _ _)))
  refine wpQuiet_nil ?_
  intro w5 hw'
  obtain ⟨⟨dq, osq⟩, hw''⟩ := hw'
  have hb5 := below_regrown w4 dq osq
  rw [← hw''] at hb5
  clear hw'' cK cC cT k0 k1 dq osq E4
  replace T := T.below hb5
  replace U := U.below hb5
  have b5 := b4.trans (hb5.mono b4.size)
  clear hb5
  have ⟨sz, z0, z1⟩ := T
  have ⟨sy, y0, y1⟩ := U
  go_wp2_with fail
  clear sz z0 z1 sy y0 y1
  refine (keyText_any a b (i64_of h0 h1) (i64_of h2 h3) _ (E.below b5)).mono ?_
  rintro e w6 ⟨rfl, hb6⟩
  replace T := T.below hb6
  replace U := U.below hb6
  have b6 := b5.trans (hb6.mono b5.size)
  clear hb6
  have ⟨sz, z0, z1⟩ := T
  have ⟨sy, y0, y1⟩ := U
  go_wp2_with fail
  clear sz z0 z1 sy y0 y1
  have cB : ∀ W, Calls Tryd.prog 14 #[.agg #[.int .i64 a, .int .i64 b], .int .i64 n] W fun e w' => e = .returned (.int .i64 q) ∧ Below W.heap.size W w' := fun W => by rw [HB.out]; exact bucketOf_any a b n W h0 h1 h2 h3 n0 n1
  refine (cB _).mono ?_
  rintro e w7 ⟨rfl, hb7⟩
  replace T := T.below hb7
  replace U := U.below hb7
  have b7 := b6.trans (hb7.mono b6.size)
  clear hb7
  clear cB
  have ⟨sz, z0, z1⟩ := T
  have ⟨sy, y0, y1⟩ := U
  go_wp2_with fail
  go_ret
  exact ⟨rfl, b7⟩

set_option maxHeartbeats 1600000 in
theorem says_okok_short (a b n : Int) (s : ByteArray) (w : World) (E : Env w) (h0 : 0 ≤ a) (h1 : a ≤ 15) (h2 : 0 ≤ b) (h3 : b ≤ 15) (n0 : 1 ≤ n) (n1 : n ≤ 4) (hs : s.size ≤ 20) (x y r : Int)
    (hP : ∀ w, Env w → Calls Tryd.prog 8 #[.string s] w fun e w' => e = .returned (.tuple #[.agg #[.int .i64 x, .int .i64 y], .int .i64 r]) ∧ Below w.heap.size w w')
    (hR : ∀ w, Env w → Calls Tryd.prog 15 #[.string s] w fun e w' => e = .returned (.tuple #[.agg #[.int .i64 x, .int .i64 y], .int .i64 r]) ∧ Below w.heap.size w w') :
    Calls Tryd.prog 3 #[.agg #[.int .i64 a, .int .i64 b], .int .i64 n, .string s] w fun e w' => e = .returned (.bool true) ∧ Below w.heap.size w w' := by
  have b0 := one_below w (.cells #[.int .i64 a, .int .i64 b] 23)
  have T := One.start w (.int .i64 a) (.int .i64 b) 23
  have ke := kequal
  have HP : Hid (∀ w, Env w → Calls Tryd.prog 8 #[.string s] w fun e w' => e = .returned (.tuple #[.agg #[.int .i64 x, .int .i64 y], .int .i64 r]) ∧ Below w.heap.size w w') := hP
  have HR : Hid (∀ w, Env w → Calls Tryd.prog 15 #[.string s] w fun e w' => e = .returned (.tuple #[.agg #[.int .i64 x, .int .i64 y], .int .i64 r]) ∧ Below w.heap.size w w') := hR
  clear hP hR
  go_enter Tryd.func3, Tryd.ntmps3
  go_wp2_with fail
  obtain ⟨q, hq⟩ : ∃ q, q = (7 * a + 3 * b + a * b) % n := ⟨_, rfl⟩
  have HB : Hid (q = (7 * a + 3 * b + a * b) % n) := hq
  have cB : ∀ W, Calls Tryd.prog 6 #[.agg #[.int .i64 a, .int .i64 b], .int .i64 n] W fun e w' => e = .returned (.tuple #[.int .i64 q, .int .i64 0]) ∧ Below W.heap.size W w' := fun W => by rw [hq]; exact bucket_ok a b n W h0 h1 h2 h3 n0 n1
  clear hq
  refine (cB _).mono ?_
  rintro e w1 ⟨rfl, hb1⟩
  replace T := T.below hb1
  have b1 := b0.trans (hb1.mono b0.size)
  clear hb1
  clear cB
  have ⟨sz, z0, z1⟩ := T
  go_wp2_with fail
  clear sz z0 z1
  refine (print_t a b _ (E.below b1) h0 h1 h2 h3).mono ?_
  rintro e w2 ⟨rfl, hb2⟩
  replace T := T.below hb2
  have b2 := b1.trans (hb2.mono b1.size)
  clear hb2
  have ⟨sz, z0, z1⟩ := T
  go_wp2_with fail
  clear sz z0 z1
  refine (HP.out _ (E.below b2)).mono ?_
  rintro e w3 ⟨rfl, hb3⟩
  replace T := T.below hb3
  have b3 := b2.trans (hb3.mono b2.size)
  clear hb3
  have sq : w.heap.size < w3.heap.size := T.sz
  have ⟨sz, z0, z1⟩ := T
  go_wp2_with fail
  clear sz z0 z1 sq
  have bn := one_below w3 (.cells #[.int .i64 x, .int .i64 y] 23)
  have U := One.start w3 (.int .i64 x) (.int .i64 y) 23
  replace T := T.below bn
  have c3 := b3.trans (bn.mono b3.size)
  clear bn
  refine (isKey_t a b _ h0 h1 h2 h3).mono ?_
  rintro e w4 ⟨rfl, hb4⟩
  replace T := T.below hb4
  replace U := U.below hb4
  have b4 := c3.trans (hb4.mono c3.size)
  clear hb4 c3 b3
  have E4 := E.below b4
  have cK : ∀ d os, Calls Tryd.prog 10 #[] (grow (redrawn w4 d) os) fun e w'' => e = .returned (.bool true) ∧ ∃ p : Regrown, w'' = grow (redrawn w4 p.d) p.os :=
    fun d os => Calls.regrown_of (keyed_any _ (E4.below (below_regrown _ d os)))
  have cC : ∀ d os, Calls Tryd.prog 11 #[.agg #[.int .i64 a, .int .i64 b]] (grow (redrawn w4 d) os) fun e w'' => e = .returned (.int .i64 0) ∧ ∃ p : Regrown, w'' = grow (redrawn w4 p.d) p.os :=
    fun d os => Calls.regrown_of (check_t a b _ h0 h1 h2 h3)
  have cT : ∀ d os, Calls Tryd.prog 12 #[.agg #[.int .i64 a, .int .i64 b]] (grow (redrawn w4 d) os) fun e w'' => e = .returned (.agg #[.int .i64 b, .int .i64 a]) ∧ ∃ p : Regrown, w'' = grow (redrawn w4 p.d) p.os :=
    fun d os => Calls.regrown_of (turn_any a b _)
  have k0 := cell_regrown T.z0
  have k1 := cell_regrown T.z1
  go_wp2
  refine wp_region_quiet_below (by kernel_rfl) (by kernel_rfl) ?_
  repeat (quiet_step (first | (go_at_call 10; exact cK _ _) | (go_at_call 11; exact cC _ _) | (go_at_call 12; exact cT _ _)))
  refine wpQuiet_nil ?_
  intro w5 hw'
  obtain ⟨⟨dq, osq⟩, hw''⟩ := hw'
  have hb5 := below_regrown w4 dq osq
  rw [← hw''] at hb5
  clear hw'' cK cC cT k0 k1 dq osq E4
  replace T := T.below hb5
  replace U := U.below hb5
  have b5 := b4.trans (hb5.mono b4.size)
  clear hb5
  have ⟨sz, z0, z1⟩ := T
  have ⟨sy, y0, y1⟩ := U
  go_wp2_with fail
  clear sz z0 z1 sy y0 y1
  refine (keyText_any a b (i64_of h0 h1) (i64_of h2 h3) _ (E.below b5)).mono ?_
  rintro e w6 ⟨rfl, hb6⟩
  replace T := T.below hb6
  replace U := U.below hb6
  have b6 := b5.trans (hb6.mono b5.size)
  clear hb6
  have ⟨sz, z0, z1⟩ := T
  have ⟨sy, y0, y1⟩ := U
  go_wp2_with fail
  clear sz z0 z1 sy y0 y1
  have cB : ∀ W, Calls Tryd.prog 14 #[.agg #[.int .i64 a, .int .i64 b], .int .i64 n] W fun e w' => e = .returned (.int .i64 q) ∧ Below W.heap.size W w' := fun W => by rw [HB.out]; exact bucketOf_any a b n W h0 h1 h2 h3 n0 n1
  refine (cB _).mono ?_
  rintro e w7 ⟨rfl, hb7⟩
  replace T := T.below hb7
  replace U := U.below hb7
  have b7 := b6.trans (hb7.mono b6.size)
  clear hb7
  clear cB
  have ⟨sz, z0, z1⟩ := T
  have ⟨sy, y0, y1⟩ := U
  go_wp2_with fail
  refine (HR.out _ (E.below b7)).mono ?_
  rintro e w8 ⟨rfl, hb8⟩
  have T' := T.below hb8
  have U' := U.below hb8
  have b8 := b7.trans (hb8.mono b7.size)
  have sq : w.heap.size < w8.heap.size := T'.sz
  clear sz z0 z1 sy y0 y1
  have ⟨sy, y0, y1⟩ := U'
  go_wp2
  go_ret
  exact ⟨by simp, b8.trans ((one_below _ _).mono b8.size)⟩

theorem says_any (a b n : Int) (s : ByteArray) (hm : s.size ≤ 9223372036854775807) (w : World) (E : Env w) :
    Calls Tryd.prog 3 #[.agg #[.int .i64 a, .int .i64 b], .int .i64 n, .string s] w fun e w' => e = .returned (.bool true) ∧ Below w.heap.size w w' := by
  cases h : okK a b with
  | false =>
    by_cases hs : s.size ≤ 20
    · obtain ⟨x, y, r, hP, hR⟩ := parse_same s hs
      exact says_bad_short a b n s w E h hs x y r hP hR
    · exact says_bad_long a b n s w E h (by omega) hm
  | true =>
    obtain ⟨h0, h1, h2, h3⟩ := okK_t h
    by_cases hn : 1 ≤ n ∧ n ≤ 4
    · by_cases hs : s.size ≤ 20
      · obtain ⟨x, y, r, hP, hR⟩ := parse_same s hs
        exact says_okok_short a b n s w E h0 h1 h2 h3 hn.1 hn.2 hs x y r hP hR
      · exact says_okok_long a b n s w E h0 h1 h2 h3 hn.1 hn.2 (by omega) hm
    · have hn' : n < 1 ∨ (1 ≤ n ∧ 4 < n) := by omega
      by_cases hs : s.size ≤ 20
      · obtain ⟨x, y, r, hP, hR⟩ := parse_same s hs
        exact says_okno_short a b n s w E h0 h1 h2 h3 hn' hs x y r hP hR
      · exact says_okno_long a b n s w E h0 h1 h2 h3 hn' (by omega) hm
end Go.Proofs.YtdbilofhcadmoaaDoor.key
