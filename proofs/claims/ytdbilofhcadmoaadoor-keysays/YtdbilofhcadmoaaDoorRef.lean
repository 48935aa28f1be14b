/- The contract of ReadKey, the document's own reading of a key's text: it answers what read and Check answer; nothing that was there is changed. -/
import Derived.Test.YtdbilofhcadmoaaDoorBack
import Derived.Test.YtdbilofhcadmoaaDoorPure2
import Derived.Lib.ParseIntBTie
namespace Go.Proofs.YtdbilofhcadmoaaDoor.key
open Go.ChangeShapes Go.WideShapes Go.ChangeAt Go.RowKit Go.Sort
open Go.Proofs.YtdbilofhcadmoaaDoor.pure
set_option linter.unusedVariables false

theorem pint_ok (s : ByteArray) (hs : s.size ≤ 20) (v : Int) (h : num s.data.toList = some v) (w : World) :
    Calls Tryd.prog 22 #[.string s, .int .i64 10, .int .i64 64] w fun e w' => e = .returned (.tuple #[.int .i64 v, .nilIface]) ∧ Below w.heap.size w w' := by
  have h' : Lib.parseIntB 64 s.data.toList = .ok v := by
    rw [Lib.parseIntB_64]
    unfold num at h
    split at h
    · rename_i x hx; rw [hx]; cases h; rfl
    · cases h
  refine (Any.strconv_ParseInt_10_at64_ok Tryd.laysC174 s (by omega) v h' w).mono fun e w' ⟨he, hw⟩ => ⟨he, ?_⟩
  rcases hw with rfl | ⟨t, rfl⟩
  · exact Below.refl _ _
  · exact Lib.bytesWorld_below _ _ _

theorem pint_no (s : ByteArray) (hs : s.size ≤ 20) (h : num s.data.toList = none) (w : World) (E : Env w) :
    Calls Tryd.prog 22 #[.string s, .int .i64 10, .int .i64 64] w fun e w' => ∃ n N, e = .returned (.tuple #[.int .i64 n, .iface 68 (.pointer (some ⟨N, 0, none⟩))]) ∧ Below w.heap.size w w' := by
  rcases hx : Lib.atoiAll s.data.toList with v | _ | _
  · unfold num at h; rw [hx] at h; cases h
  · obtain ⟨tp, p, hv⟩ := E.syn
    exact (Any.strconv_ParseInt_10_at64_syntax_var Tryd.laysC174 s (by omega) (by rw [Lib.parseIntB_64]; exact hx) tp p w hv).mono fun e w' ⟨N, he, _, _, hb⟩ => ⟨_, N, he, hb⟩
  · obtain ⟨tp, p, hv⟩ := E.rng
    exact (Any.strconv_ParseInt_10_at64_range_var Tryd.laysC174 s (by omega) (by rw [Lib.parseIntB_64]; exact hx) tp p w hv).mono fun e w' ⟨N, he, _, _, hb⟩ => ⟨_, N, he, hb⟩

theorem fmt_any (n : Int) (h : I64 n) (w : World) (E : Env w) :
    Calls Tryd.prog 23 #[.int .i64 n, .int .i64 10] w fun e w' => e = .returned (.string ⟨(Lib.itoa n).toArray⟩) ∧ Below w.heap.size w w' :=
  (Any.strconv_FormatInt_10 Tryd.laysM173 n h.1 h.2 w E.tab).mono fun e w' ⟨he, k, os, hw⟩ => ⟨he, by rw [hw]; exact Lib.below_grow _ _ (Nat.le_refl _) _ _⟩

theorem ownsRow_below {W w' : World} {base : Nat} {e : TypeId} {size : Nat} {v : Value} {n : Nat} {xs : List Value} (h : W.ownsRow base e size v n xs) (hb : Below W.heap.size W w') : w'.ownsRow base e size v n xs := by
  refine ⟨h.1, ?_⟩
  rcases h.2 with h0 | ⟨g, cap, cur, h1, h2, h3, h4⟩
  · exact Or.inl h0
  · refine Or.inr ⟨g, cap, cur, h1, h2, ?_, h4⟩
    rw [hb.block g (Array.getElem?_eq_some_iff.1 h3).1]
    exact h3

theorem i9 : (Tryd.prog.info? 9).map (fun i => (i.zero, i.size, i.bytes)) = some (some (.string ByteArray.empty), 1, 16) := by kernel_rfl

theorem info2 : ∃ i, Tryd.prog.info? 2 = some i ∧ i.zero = some (.int .i64 0) ∧ i.size = 1 ∧ i.bytes = 8 := by
  have h : (Tryd.prog.info? 2).map (fun i => (i.zero, i.size, i.bytes)) = some (some (.int .i64 0), 1, 8) := by kernel_rfl
  cases hi : Tryd.prog.info? 2 with
  | none => rw [hi] at h; cases h
  | some i =>
    rw [hi] at h
    simp only [Option.map_some, Option.some.injEq, Prod.mk.injEq] at h
    exact ⟨i, rfl, h.1, h.2.1, h.2.2⟩

theorem one_new (w : World) (v : Value) (t : TypeId) : ∀ (j : Nat) (u : Value), ([v] : List Value)[j]? = some u → (w.alloc (.cells #[v] t)).cell? ((⟨w.heap.size, 0, none⟩ : Addr).add j) = some u := by
  intro j u hj
  match j, hj with
  | 0, hj => simp at hj; subst hj; simp [Addr.add]

theorem own_two {w : World} {base : Nat} {v x y : Value} (h : w.ownsRow base 2 1 v 2 [x, y]) : ∃ g cap, v = .slice (some ⟨g, 0, none⟩) 2 cap ∧ base ≤ g ∧ g < w.heap.size ∧ w.cell? ⟨g, 0, none⟩ = some x ∧ w.cell? ⟨g, 1, none⟩ = some y := by
  have h' := h
  rcases h.2 with ⟨_, h0⟩ | ⟨g, cap, cur, rfl, hg, h3, _⟩
  · cases h0
  · exact ⟨g, cap, rfl, hg, (Array.getElem?_eq_some_iff.1 h3).1, h'.cellAt 0 (by omega), h'.cellAt 1 (by omega)⟩

theorem Two.belowB {w2 w4 : World} {n : Nat} {u0 u1 v0 v1 : Value} (t : Two w2 n u0 u1 v0 v1) (h : Below (n + 2) w2 w4) : Two w4 n u0 u1 v0 v1 :=
  have hs := t.sz
  ⟨Nat.le_trans hs h.size, (h.cell (p := ⟨n, 0, none⟩) (by show n < _; omega)).trans t.z0, (h.cell (p := ⟨n, 1, none⟩) (by show n < _; omega)).trans t.z1,
    (h.cell (p := ⟨n + 1, 0, none⟩) (by show n + 1 < _; omega)).trans t.y0, (h.cell (p := ⟨n + 1, 1, none⟩) (by show n + 1 < _; omega)).trans t.y1,
    (h.frozen (p := ⟨n, 0, none⟩) (by show n < _; omega)).trans t.f0, (h.frozen (p := ⟨n, 1, none⟩) (by show n < _; omega)).trans t.f1,
    (h.frozen (p := ⟨n + 1, 0, none⟩) (by show n + 1 < _; omega)).trans t.g0, (h.frozen (p := ⟨n + 1, 1, none⟩) (by show n + 1 < _; omega)).trans t.g1⟩

theorem split_any (s : ByteArray) (m : Int) (w : World) (hs : s.size < 4294967281) (hm : w.cell? ⟨3, 0, none⟩ = some (.int .i64 m)) :
    Calls Tryd.prog 21 #[.string s, .string ⟨#[62]⟩] w fun e w' =>
      e = .returned (.slice (some ⟨w.heap.size, 0, none⟩) (Lib.count s.data.toList [62] + 1) (Lib.count s.data.toList [62] + 1)) ∧ w.alloc (.cells ((Lib.splitB ⟨#[62]⟩ 0 (Lib.count s.data.toList [62]) s).map Value.string).toArray 9) = w' :=
  (Any.strings_Split Tryd.lays146 i9 s ⟨#[62]⟩ m w hs hm (by decide)).mono fun _ _ h => ⟨h.1, h.2.symm⟩

theorem split_one (s A B : ByteArray) (h1 : Lib.count s.data.toList [62] = 1) (hsp : Lib.splitB ⟨#[62]⟩ 0 1 s = [A, B]) (m : Int) (w : World) (hs : s.size < 4294967281) (hm : w.cell? ⟨3, 0, none⟩ = some (.int .i64 m)) :
    Calls Tryd.prog 21 #[.string s, .string ⟨#[62]⟩] w fun e w' => e = .returned (.slice (some ⟨w.heap.size, 0, none⟩) 2 2) ∧ w.alloc (.cells #[.string A, .string B] 9) = w' := by
  have c := split_any s m w hs hm
  rw [h1, hsp] at c
  exact c

set_option maxHeartbeats 1000000 in
theorem ref_many (s : ByteArray) (hs : s.size ≤ 20) (w : World) (E : Env w) (h : Lib.count s.data.toList [62] ≠ 1) :
    Calls Tryd.prog 15 #[.string s] w fun e w' => e = .returned (.tuple #[.agg #[.int .i64 0, .int .i64 0], .int .i64 1]) ∧ Below w.heap.size w w' := by
  obtain ⟨m, hm⟩ := (E.below (one_below w (.cells #[.int .i64 0, .int .i64 0] 23))).max
  have hle := Lib.count_le s.data.toList [62]
  have hl : s.data.toList.length = s.size := rfl
  have hq : ((Lib.count s.data.toList [62] : Int) + 1 == 2) = false := by rw [beq_eq_false_iff_ne]; omega
  have hq2 : ((Lib.count s.data.toList [62] : Int) + 1 != 2) = true := by rw [bne, hq]; rfl
  go_enter Tryd.func15, Tryd.ntmps15
  go_wp2_with fail
  refine (split_any s m _ (by omega) hm).mono ?_
  rintro e w1 ⟨rfl, rfl⟩
  generalize ((Lib.splitB ⟨#[62]⟩ 0 (Lib.count s.data.toList [62]) s).map Value.string).toArray = pieces
  generalize Lib.count s.data.toList [62] = c at *
  go_wp2
  exact bodyPost_ret (v := .tuple #[.agg #[.int .i64 0, .int .i64 0], .int .i64 1]) (by simp [results, Tryd.results15, go_sem]) rfl ⟨rfl, start0_below _ _ _⟩

set_option maxHeartbeats 1000000 in
theorem ref_1e (s A B : ByteArray) (hs : s.size ≤ 20) (w : World) (E : Env w) (h1 : Lib.count s.data.toList [62] = 1) (hsp : Lib.splitB ⟨#[62]⟩ 0 1 s = [A, B]) (hA : A.size ≤ 20) (hB : B.size ≤ 20) (hn : num A.data.toList = none) :
    Calls Tryd.prog 15 #[.string s] w fun e w' => e = .returned (.tuple #[.agg #[.int .i64 0, .int .i64 0], .int .i64 1]) ∧ Below w.heap.size w w' := by
  obtain ⟨m, hm⟩ := (E.below (one_below w (.cells #[.int .i64 0, .int .i64 0] 23))).max
  have H1 : Hid (Lib.count s.data.toList [62] = 1) := h1
  have HP : Hid (Lib.splitB ⟨#[62]⟩ 0 1 s = [A, B]) := hsp
  clear h1 hsp
  have HN : Hid (num A.data.toList = none) := hn
  clear hn
  go_enter Tryd.func15, Tryd.ntmps15
  go_wp2_with fail
  refine (split_one s A B H1.out HP.out m _ (by omega) hm).mono ?_
  rintro e w1 ⟨rfl, rfl⟩
  have bW := start0_below w (.cells #[.int .i64 0, .int .i64 0] 23) (.cells #[.string A, .string B] 9)
  have T := Two.start0 w (.int .i64 0) (.int .i64 0) (.string A) (.string B) 23 9
  clear hm H1 HP
  go_wp2_with fail
  refine wp_loop_rounds 3 ?_
  rw [rounds_succ]
  go_wp2_with fail
  refine (pint_no A hA HN.out _ (E.below bW)).mono ?_
  rintro e w2 ⟨x, N, rfl, hb2⟩
  have b2 := bW.trans (hb2.mono bW.size)
  obtain ⟨sz, z0, z1, y0, y1, f0, f1, g0, g1⟩ := T.below hb2
  obtain ⟨q0, q1⟩ := pair_set w2 w.heap.size _ _ z0 z1
  go_wp2
  refine bodyPost_ret (v := .tuple #[.agg #[.int .i64 0, .int .i64 0], .int .i64 1]) (by simp [results, Tryd.results15, go_sem, q0, q1]) rfl ⟨rfl, ?_⟩
  exact (b2.setCell (Nat.le_refl _) _).setCell (Nat.le_refl _) _

set_option maxHeartbeats 1000000 in
theorem ref_1f (s A B : ByteArray) (hs : s.size ≤ 20) (w : World) (E : Env w) (h1 : Lib.count s.data.toList [62] = 1) (hsp : Lib.splitB ⟨#[62]⟩ 0 1 s = [A, B]) (hA : A.size ≤ 20) (hB : B.size ≤ 20) (a : Int) (hna : num A.data.toList = some a) (hq : (Lib.itoa a == A.toList) = false) :
    Calls Tryd.prog 15 #[.string s] w fun e w' => e = .returned (.tuple #[.agg #[.int .i64 0, .int .i64 0], .int .i64 1]) ∧ Below w.heap.size w w' := by
  obtain ⟨m, hm⟩ := (E.below (one_below w (.cells #[.int .i64 0, .int .i64 0] 23))).max
  have H1 : Hid (Lib.count s.data.toList [62] = 1) := h1
  have HP : Hid (Lib.splitB ⟨#[62]⟩ 0 1 s = [A, B]) := hsp
  clear h1 hsp
  have HNA : Hid (num A.data.toList = some a) := hna
  have HQ : Hid ((Lib.itoa a == A.toList) = false) := hq
  clear hna hq
  go_enter Tryd.func15, Tryd.ntmps15
  go_wp2_with fail
  refine (split_one s A B H1.out HP.out m _ (by omega) hm).mono ?_
  rintro e w1 ⟨rfl, rfl⟩
  have bW := start0_below w (.cells #[.int .i64 0, .int .i64 0] 23) (.cells #[.string A, .string B] 9)
  have T := Two.start0 w (.int .i64 0) (.int .i64 0) (.string A) (.string B) 23 9
  clear hm H1 HP
  go_wp2_with fail
  refine wp_loop_rounds 3 ?_
  rw [rounds_succ]
  go_wp2_with fail
  refine (pint_ok A hA a HNA.out _).mono ?_
  rintro e w2 ⟨rfl, hb2⟩
  have b2 := bW.trans (hb2.mono bW.size)
  replace T := T.below hb2
  go_wp2_with fail
  refine (fmt_any a (num_i64 HNA.out) _ (E.below b2)).mono ?_
  rintro e w3 ⟨rfl, hb3⟩
  have b3 := b2.trans (hb3.mono b2.size)
  replace T := T.below hb3
  clear hb2 hb3 b2 bW
  obtain ⟨sz, z0, z1, y0, y1, f0, f1, g0, g1⟩ := T
  obtain ⟨q0, q1⟩ := pair_set w3 w.heap.size _ _ z0 z1
  have hq := HQ.out
  go_wp2
  refine bodyPost_ret (v := .tuple #[.agg #[.int .i64 0, .int .i64 0], .int .i64 1]) (by simp [results, Tryd.results15, go_sem, q0, q1]) rfl ⟨rfl, ?_⟩
  exact (b3.setCell (Nat.le_refl _) _).setCell (Nat.le_refl _) _

set_option maxHeartbeats 1600000 in
theorem ref_2e (s A B : ByteArray) (hs : s.size ≤ 20) (w : World) (E : Env w) (h1 : Lib.count s.data.toList [62] = 1) (hsp : Lib.splitB ⟨#[62]⟩ 0 1 s = [A, B]) (hA : A.size ≤ 20) (hB : B.size ≤ 20) (a : Int) (hna : num A.data.toList = some a) (hq : (Lib.itoa a == A.toList) = true) (hnb : num B.data.toList = none) :
    Calls Tryd.prog 15 #[.string s] w fun e w' => e = .returned (.tuple #[.agg #[.int .i64 0, .int .i64 0], .int .i64 1]) ∧ Below w.heap.size w w' := by
  obtain ⟨m, hm⟩ := (E.below (one_below w (.cells #[.int .i64 0, .int .i64 0] 23))).max
  have H1 : Hid (Lib.count s.data.toList [62] = 1) := h1
  have HP : Hid (Lib.splitB ⟨#[62]⟩ 0 1 s = [A, B]) := hsp
  clear h1 hsp
  have HNB : Hid (num B.data.toList = none) := hnb
  clear hnb
  have HNA : Hid (num A.data.toList = some a) := hna
  have HQ : Hid ((Lib.itoa a == A.toList) = true) := hq
  clear hna hq
  go_enter Tryd.func15, Tryd.ntmps15
  go_wp2_with fail
  refine (split_one s A B H1.out HP.out m _ (by omega) hm).mono ?_
  rintro e w1 ⟨rfl, rfl⟩
  have bW := start0_below w (.cells #[.int .i64 0, .int .i64 0] 23) (.cells #[.string A, .string B] 9)
  have T := Two.start0 w (.int .i64 0) (.int .i64 0) (.string A) (.string B) 23 9
  clear hm H1 HP
  go_wp2_with fail
  refine wp_loop_rounds 3 ?_
  rw [rounds_succ]
  go_wp2_with fail
  refine (pint_ok A hA a HNA.out _).mono ?_
  rintro e w2 ⟨rfl, hb2⟩
  have b2 := bW.trans (hb2.mono bW.size)
  replace T := T.below hb2
  go_wp2_with fail
  refine (fmt_any a (num_i64 HNA.out) _ (E.below b2)).mono ?_
  rintro e w3 ⟨rfl, hb3⟩
  have b3 := b2.trans (hb3.mono b2.size)
  replace T := T.below hb3
  clear hb2 hb3 b2 bW
  have T3 := T
  obtain ⟨sz, z0, z1, y0, y1, f0, f1, g0, g1⟩ := T3
  have hq := HQ.out
  obtain ⟨i0, hi, hz0, hz1, hz2⟩ := info2
  go_wp2_with (at_builtin; refine wpList_append_own _ rfl _ _ 48 rfl (w.heap.size + 2) 2 i0 (.int .i64 0) 1 8 Tryd.underlying48 hi hz0 hz1 hz2 rfl (by decide) _ 0 [] rfl (World.ownsRow_nil _ _ _ _) ⟨w3.heap.size, 0, none⟩ 1 1 [.int .i64 a] rfl rfl ?c1 ?c2 ?c3 ?c4 ?c5 ?_)
  case c1 => exact one_new _ _ _
  case c2 => intro u hu; simp at hu; subst hu; rfl
  case c3 => unfold maxLen; omega
  case c4 => omega
  case c5 => simp; omega
  intro v4 w4 hown4 hg4 _
  have hb4 : Below (w3.alloc (.cells #[.int .i64 a] 2)).heap.size (w3.alloc (.cells #[.int .i64 a] 2)) w4 := Below.grown (Below.refl _ _) hg4 (Nat.le_refl _) (by intro k hk; cases hk)
  have bb := one_below w3 (.cells #[.int .i64 a] 2)
  have b4 := b3.trans ((bb.trans (hb4.mono bb.size)).mono b3.size)
  replace T := (T.below bb).below hb4
  clear sz z0 z1 y0 y1 f0 f1 g0 g1 hq hg4 hb4 bb b3
  have T4 := T
  obtain ⟨sz, z0, z1, y0, y1, f0, f1, g0, g1⟩ := T4
  go_wp2_with fail
  rw [rounds_succ]
  go_wp2_with fail
  refine (pint_no B hB HNB.out _ (E.below b4)).mono ?_
  rintro e w5 ⟨x, N, rfl, hb5⟩
  have b5 := b4.trans (hb5.mono b4.size)
  clear sz z0 z1 y0 y1 f0 f1 g0 g1
  obtain ⟨sz, z0, z1, y0, y1, f0, f1, g0, g1⟩ := T.below hb5
  obtain ⟨q0, q1⟩ := pair_set w5 w.heap.size _ _ z0 z1
  go_wp2
  refine bodyPost_ret (v := .tuple #[.agg #[.int .i64 0, .int .i64 0], .int .i64 1]) (by simp [results, Tryd.results15, go_sem, q0, q1]) rfl ⟨rfl, ?_⟩
  exact (b5.setCell (Nat.le_refl _) _).setCell (Nat.le_refl _) _

set_option maxHeartbeats 1600000 in
theorem ref_2f (s A B : ByteArray) (hs : s.size ≤ 20) (w : World) (E : Env w) (h1 : Lib.count s.data.toList [62] = 1) (hsp : Lib.splitB ⟨#[62]⟩ 0 1 s = [A, B]) (hA : A.size ≤ 20) (hB : B.size ≤ 20) (a : Int) (hna : num A.data.toList = some a) (hq : (Lib.itoa a == A.toList) = true) (b : Int) (hnb : num B.data.toList = some b) (hqb : (Lib.itoa b == B.toList) = false) :
    Calls Tryd.prog 15 #[.string s] w fun e w' => e = .returned (.tuple #[.agg #[.int .i64 0, .int .i64 0], .int .i64 1]) ∧ Below w.heap.size w w' := by
  obtain ⟨m, hm⟩ := (E.below (one_below w (.cells #[.int .i64 0, .int .i64 0] 23))).max
  have H1 : Hid (Lib.count s.data.toList [62] = 1) := h1
  have HP : Hid (Lib.splitB ⟨#[62]⟩ 0 1 s = [A, B]) := hsp
  clear h1 hsp
  have HNB : Hid (num B.data.toList = some b) := hnb
  have HQB : Hid ((Lib.itoa b == B.toList) = false) := hqb
  clear hnb hqb
  have HNA : Hid (num A.data.toList = some a) := hna
  have HQ : Hid ((Lib.itoa a == A.toList) = true) := hq
  clear hna hq
  go_enter Tryd.func15, Tryd.ntmps15
  go_wp2_with fail
  refine (split_one s A B H1.out HP.out m _ (by omega) hm).mono ?_
  rintro e w1 ⟨rfl, rfl⟩
  have bW := start0_below w (.cells #[.int .i64 0, .int .i64 0] 23) (.cells #[.string A, .string B] 9)
  have T := Two.start0 w (.int .i64 0) (.int .i64 0) (.string A) (.string B) 23 9
  clear hm H1 HP
  go_wp2_with fail
  refine wp_loop_rounds 3 ?_
  rw [rounds_succ]
  go_wp2_with fail
  refine (pint_ok A hA a HNA.out _).mono ?_
  rintro e w2 ⟨rfl, hb2⟩
  have b2 := bW.trans (hb2.mono bW.size)
  replace T := T.below hb2
  go_wp2_with fail
  refine (fmt_any a (num_i64 HNA.out) _ (E.below b2)).mono ?_
  rintro e w3 ⟨rfl, hb3⟩
  have b3 := b2.trans (hb3.mono b2.size)
  replace T := T.below hb3
  clear hb2 hb3 b2 bW
  have T3 := T
  obtain ⟨sz, z0, z1, y0, y1, f0, f1, g0, g1⟩ := T3
  have hq := HQ.out
  obtain ⟨i0, hi, hz0, hz1, hz2⟩ := info2
  go_wp2_with (at_builtin; refine wpList_append_own _ rfl _ _ 48 rfl (w.heap.size + 2) 2 i0 (.int .i64 0) 1 8 Tryd.underlying48 hi hz0 hz1 hz2 rfl (by decide) _ 0 [] rfl (World.ownsRow_nil _ _ _ _) ⟨w3.heap.size, 0, none⟩ 1 1 [.int .i64 a] rfl rfl ?c1 ?c2 ?c3 ?c4 ?c5 ?_)
  case c1 => exact one_new _ _ _
  case c2 => intro u hu; simp at hu; subst hu; rfl
  case c3 => unfold maxLen; omega
  case c4 => omega
  case c5 => simp; omega
  intro v4 w4 hown4 hg4 _
  have hb4 : Below (w3.alloc (.cells #[.int .i64 a] 2)).heap.size (w3.alloc (.cells #[.int .i64 a] 2)) w4 := Below.grown (Below.refl _ _) hg4 (Nat.le_refl _) (by intro k hk; cases hk)
  have bb := one_below w3 (.cells #[.int .i64 a] 2)
  have b4 := b3.trans ((bb.trans (hb4.mono bb.size)).mono b3.size)
  replace T := (T.below bb).below hb4
  clear sz z0 z1 y0 y1 f0 f1 g0 g1 hq hg4 hb4 bb b3
  have T4 := T
  obtain ⟨sz, z0, z1, y0, y1, f0, f1, g0, g1⟩ := T4
  go_wp2_with fail
  rw [rounds_succ]
  go_wp2_with fail
  refine (pint_ok B hB b HNB.out _).mono ?_
  rintro e w5 ⟨rfl, hb5⟩
  have b5 := b4.trans (hb5.mono b4.size)
  replace T := T.below hb5
  have hown5 := ownsRow_below hown4 hb5
  go_wp2_with fail
  refine (fmt_any b (num_i64 HNB.out) _ (E.below b5)).mono ?_
  rintro e w6 ⟨rfl, hb6⟩
  have b6 := b5.trans (hb6.mono b5.size)
  replace T := T.below hb6
  have hown6 := ownsRow_below hown5 hb6
  clear hb5 hb6 b5 b4 hown4 hown5 sz z0 z1 y0 y1 f0 f1 g0 g1
  have T6 := T
  obtain ⟨sz, z0, z1, y0, y1, f0, f1, g0, g1⟩ := T6
  have hq := HQB.out
  obtain ⟨q0, q1⟩ := pair_set w6 w.heap.size _ _ z0 z1
  go_wp2
  refine bodyPost_ret (v := .tuple #[.agg #[.int .i64 0, .int .i64 0], .int .i64 1]) (by simp [results, Tryd.results15, go_sem, q0, q1]) rfl ⟨rfl, ?_⟩
  exact (b6.setCell (Nat.le_refl _) _).setCell (Nat.le_refl _) _

set_option maxHeartbeats 1600000 in
theorem ref_3n (s A B : ByteArray) (hs : s.size ≤ 20) (w : World) (E : Env w) (h1 : Lib.count s.data.toList [62] = 1) (hsp : Lib.splitB ⟨#[62]⟩ 0 1 s = [A, B]) (hA : A.size ≤ 20) (hB : B.size ≤ 20) (a : Int) (hna : num A.data.toList = some a) (hq : (Lib.itoa a == A.toList) = true) (b : Int) (hnb : num B.data.toList = some b) (hqb : (Lib.itoa b == B.toList) = true) (hk : okK a b = false) :
    Calls Tryd.prog 15 #[.string s] w fun e w' => e = .returned (.tuple #[.agg #[.int .i64 0, .int .i64 0], .int .i64 3]) ∧ Below w.heap.size w w' := by
  obtain ⟨m, hm⟩ := (E.below (one_below w (.cells #[.int .i64 0, .int .i64 0] 23))).max
  have H1 : Hid (Lib.count s.data.toList [62] = 1) := h1
  have HP : Hid (Lib.splitB ⟨#[62]⟩ 0 1 s = [A, B]) := hsp
  clear h1 hsp
  have HNB : Hid (num B.data.toList = some b) := hnb
  have HQB : Hid ((Lib.itoa b == B.toList) = true) := hqb
  clear hnb hqb
  have HNA : Hid (num A.data.toList = some a) := hna
  have HQ : Hid ((Lib.itoa a == A.toList) = true) := hq
  clear hna hq
  go_enter Tryd.func15, Tryd.ntmps15
  go_wp2_with fail
  refine (split_one s A B H1.out HP.out m _ (by omega) hm).mono ?_
  rintro e w1 ⟨rfl, rfl⟩
  have bW := start0_below w (.cells #[.int .i64 0, .int .i64 0] 23) (.cells #[.string A, .string B] 9)
  have T := Two.start0 w (.int .i64 0) (.int .i64 0) (.string A) (.string B) 23 9
  clear hm H1 HP
  go_wp2_with fail
  refine wp_loop_rounds 3 ?_
  rw [rounds_succ]
  go_wp2_with fail
  refine (pint_ok A hA a HNA.out _).mono ?_
  rintro e w2 ⟨rfl, hb2⟩
  have b2 := bW.trans (hb2.mono bW.size)
  replace T := T.below hb2
  go_wp2_with fail
  refine (fmt_any a (num_i64 HNA.out) _ (E.below b2)).mono ?_
  rintro e w3 ⟨rfl, hb3⟩
  have b3 := b2.trans (hb3.mono b2.size)
  replace T := T.below hb3
  clear hb2 hb3 b2 bW
  have T3 := T
  obtain ⟨sz, z0, z1, y0, y1, f0, f1, g0, g1⟩ := T3
  have hq := HQ.out
  obtain ⟨i0, hi, hz0, hz1, hz2⟩ := info2
  go_wp2_with (at_builtin; refine wpList_append_own _ rfl _ _ 48 rfl (w.heap.size + 2) 2 i0 (.int .i64 0) 1 8 Tryd.underlying48 hi hz0 hz1 hz2 rfl (by decide) _ 0 [] rfl (World.ownsRow_nil _ _ _ _) ⟨w3.heap.size, 0, none⟩ 1 1 [.int .i64 a] rfl rfl ?c1 ?c2 ?c3 ?c4 ?c5 ?_)
  case c1 => exact one_new _ _ _
  case c2 => intro u hu; simp at hu; subst hu; rfl
  case c3 => unfold maxLen; omega
  case c4 => omega
  case c5 => simp; omega
  intro v4 w4 hown4 hg4 _
  have hb4 : Below (w3.alloc (.cells #[.int .i64 a] 2)).heap.size (w3.alloc (.cells #[.int .i64 a] 2)) w4 := Below.grown (Below.refl _ _) hg4 (Nat.le_refl _) (by intro k hk; cases hk)
  have bb := one_below w3 (.cells #[.int .i64 a] 2)
  have b4 := b3.trans ((bb.trans (hb4.mono bb.size)).mono b3.size)
  replace T := (T.below bb).below hb4
  clear sz z0 z1 y0 y1 f0 f1 g0 g1 hq hg4 hb4 bb b3
  have T4 := T
  obtain ⟨sz, z0, z1, y0, y1, f0, f1, g0, g1⟩ := T4
  go_wp2_with fail
  rw [rounds_succ]
  go_wp2_with fail
  refine (pint_ok B hB b HNB.out _).mono ?_
  rintro e w5 ⟨rfl, hb5⟩
  have b5 := b4.trans (hb5.mono b4.size)
  replace T := T.below hb5
  have hown5 := ownsRow_below hown4 hb5
  go_wp2_with fail
  refine (fmt_any b (num_i64 HNB.out) _ (E.below b5)).mono ?_
  rintro e w6 ⟨rfl, hb6⟩
  have b6 := b5.trans (hb6.mono b5.size)
  replace T := T.below hb6
  have hown6 := ownsRow_below hown5 hb6
  clear hb5 hb6 b5 b4 hown4 hown5 sz z0 z1 y0 y1 f0 f1 g0 g1
  have T6 := T
  obtain ⟨sz, z0, z1, y0, y1, f0, f1, g0, g1⟩ := T6
  have hq := HQB.out
  have hownb : (w6.alloc (.cells #[.int .i64 b] 2)).ownsRow (w.heap.size + 2) 2 1 v4 1 [.int .i64 a] := ownsRow_below hown6 (one_below _ _)
  have hrow : ∀ k, v4.ownBlock = some k → w.heap.size + 2 ≤ k := by
    intro k hk
    rcases hown6.2 with ⟨hv, _⟩ | ⟨g, cap, cur, hv, hg, _⟩
    · rw [hv] at hk; cases hk
    · rw [hv] at hk; cases hk; exact hg
  have HROW : Hid (∀ k, v4.ownBlock = some k → w.heap.size + 2 ≤ k) := hrow
  clear hrow hown6
  go_wp2_with (at_builtin; refine wpList_append_own _ rfl _ _ 48 rfl (w.heap.size + 2) 2 i0 (.int .i64 0) 1 8 Tryd.underlying48 hi hz0 hz1 hz2 rfl (by decide) _ 1 [.int .i64 a] rfl hownb ⟨w6.heap.size, 0, none⟩ 1 1 [.int .i64 b] rfl rfl ?c1 ?c2 ?c3 ?c4 ?c5 ?_)
  case c1 => exact one_new _ _ _
  case c2 => intro u hu; simp at hu; subst hu; rfl
  case c3 => unfold maxLen; omega
  case c4 => omega
  case c5 => simp; omega
  intro v7 w7 hown7 hg7 _
  have B6 : Below (w.heap.size + 2) (w6.alloc (.cells #[.int .i64 b] 2)) w7 := Below.grown (Below.refl _ _) hg7 (by simp; omega) HROW.out
  have bb := one_below w6 (.cells #[.int .i64 b] 2)
  have b7 := (b6.trans (bb.mono b6.size)).trans (B6.mono (Nat.le_add_right _ _))
  replace T := (T.below bb).belowB B6
  clear sz z0 z1 y0 y1 f0 f1 g0 g1 hq hownb hg7 B6 bb b6 HROW
  obtain ⟨g, cap, hv7, hgb, hgs, c0, c1⟩ := own_two hown7
  rw [hv7]
  clear hv7 hown7
  go_wp2_with fail
  rw [rounds_succ]
  go_wp2_with fail
  go_region
  have bn := (one_below w7 (.cells #[.int .i64 a, .int .i64 b] 23)).drew
  have b8 := b7.trans (bn.mono b7.size)
  have T8 := T.below bn
  have k0 : (w7.alloc (.cells #[.int .i64 a, .int .i64 b] 23)).drew.cell? ⟨w7.heap.size, 0, none⟩ = some (.int .i64 a) := by simp [go_sem]
  have k1 : (w7.alloc (.cells #[.int .i64 a, .int .i64 b] 23)).drew.cell? ⟨w7.heap.size, 1, none⟩ = some (.int .i64 b) := by simp [go_sem]
  go_wp2_with fail
  refine (isKey_f a b _ hk).mono ?_
  rintro e w9 ⟨rfl, hb9⟩
  have m0 : w9.cell? ⟨w7.heap.size, 0, none⟩ = some (.int .i64 a) := (hb9.cell (p := ⟨w7.heap.size, 0, none⟩) (by simp)).trans k0
  have m1 : w9.cell? ⟨w7.heap.size, 1, none⟩ = some (.int .i64 b) := (hb9.cell (p := ⟨w7.heap.size, 1, none⟩) (by simp)).trans k1
  have b9 := b8.trans (hb9.mono b8.size)
  clear k0 k1
  obtain ⟨sz, z0, z1, y0, y1, f0, f1, g0, g1⟩ := T8.below hb9
  obtain ⟨q0, q1⟩ := pair_set w9 w.heap.size _ _ z0 z1
  go_wp2
  refine bodyPost_ret (v := .tuple #[.agg #[.int .i64 0, .int .i64 0], .int .i64 3]) (by simp [results, Tryd.results15, go_sem, q0, q1]) rfl ⟨rfl, ?_⟩
  exact (b9.setCell (Nat.le_refl _) _).setCell (Nat.le_refl _) _

set_option maxHeartbeats 1600000 in
theorem ref_3y (s A B : ByteArray) (hs : s.size ≤ 20) (w : World) (E : Env w) (hone : Lib.count s.data.toList [62] = 1) (hsp : Lib.splitB ⟨#[62]⟩ 0 1 s = [A, B]) (hA : A.size ≤ 20) (hB : B.size ≤ 20) (a : Int) (hna : num A.data.toList = some a) (hq : (Lib.itoa a == A.toList) = true) (b : Int) (hnb : num B.data.toList = some b) (hqb : (Lib.itoa b == B.toList) = true) (h0 : 0 ≤ a) (h1 : a ≤ 15) (h2 : 0 ≤ b) (h3 : b ≤ 15) :
    Calls Tryd.prog 15 #[.string s] w fun e w' => e = .returned (.tuple #[.agg #[.int .i64 a, .int .i64 b], .int .i64 0]) ∧ Below w.heap.size w w' := by
  obtain ⟨m, hm⟩ := (E.below (one_below w (.cells #[.int .i64 0, .int .i64 0] 23))).max
  have H1 : Hid (Lib.count s.data.toList [62] = 1) := hone
  have HP : Hid (Lib.splitB ⟨#[62]⟩ 0 1 s = [A, B]) := hsp
  clear hone hsp
  have HNB : Hid (num B.data.toList = some b) := hnb
  have HQB : Hid ((Lib.itoa b == B.toList) = true) := hqb
  clear hnb hqb
  have HNA : Hid (num A.data.toList = some a) := hna
  have HQ : Hid ((Lib.itoa a == A.toList) = true) := hq
  clear hna hq
  go_enter Tryd.func15, Tryd.ntmps15
  go_wp2_with fail
  refine (split_one s A B H1.out HP.out m _ (by omega) hm).mono ?_
  rintro e w1 ⟨rfl, rfl⟩
  have bW := start0_below w (.cells #[.int .i64 0, .int .i64 0] 23) (.cells #[.string A, .string B] 9)
  have T := Two.start0 w (.int .i64 0) (.int .i64 0) (.string A) (.string B) 23 9
  clear hm H1 HP
  go_wp2_with fail
  refine wp_loop_rounds 3 ?_
  rw [rounds_succ]
  go_wp2_with fail
  refine (pint_ok A hA a HNA.out _).mono ?_
  rintro e w2 ⟨rfl, hb2⟩
  have b2 := bW.trans (hb2.mono bW.size)
  replace T := T.below hb2
  go_wp2_with fail
  refine (fmt_any a (num_i64 HNA.out) _ (E.below b2)).mono ?_
  rintro e w3 ⟨rfl, hb3⟩
  have b3 := b2.trans (hb3.mono b2.size)
  replace T := T.below hb3
  clear hb2 hb3 b2 bW
  have T3 := T
  obtain ⟨sz, z0, z1, y0, y1, f0, f1, g0, g1⟩ := T3
  have hq := HQ.out
  obtain ⟨i0, hi, hz0, hz1, hz2⟩ := info2
  go_wp2_with (at_builtin; refine wpList_append_own _ rfl _ _ 48 rfl (w.heap.size + 2) 2 i0 (.int .i64 0) 1 8 Tryd.underlying48 hi hz0 hz1 hz2 rfl (by decide) _ 0 [] rfl (World.ownsRow_nil _ _ _ _) ⟨w3.heap.size, 0, none⟩ 1 1 [.int .i64 a] rfl rfl ?c1 ?c2 ?c3 ?c4 ?c5 ?_)
  case c1 => exact one_new _ _ _
  case c2 => intro u hu; simp at hu; subst hu; rfl
  case c3 => unfold maxLen; omega
  case c4 => omega
  case c5 => simp; omega
  intro v4 w4 hown4 hg4 _
  have hb4 : Below (w3.alloc (.cells #[.int .i64 a] 2)).heap.size (w3.alloc (.cells #[.int .i64 a] 2)) w4 := Below.grown (Below.refl _ _) hg4 (Nat.le_refl _) (by intro k hk; cases hk)
  have bb := one_below w3 (.cells #[.int .i64 a] 2)
  have b4 := b3.trans ((bb.trans (hb4.mono bb.size)).mono b3.size)
  replace T := (T.below bb).below hb4
  clear sz z0 z1 y0 y1 f0 f1 g0 g1 hq hg4 hb4 bb b3
  have T4 := T
  obtain ⟨sz, z0, z1, y0, y1, f0, f1, g0, g1⟩ := T4
  go_wp2_with fail
  rw [rounds_succ]
  go_wp2_with fail
  refine (pint_ok B hB b HNB.out _).mono ?_
  rintro e w5 ⟨rfl, hb5⟩
  have b5 := b4.trans (hb5.mono b4.size)
  replace T := T.below hb5
  have hown5 := ownsRow_below hown4 hb5
  go_wp2_with fail
  refine (fmt_any b (num_i64 HNB.out) _ (E.below b5)).mono ?_
  rintro e w6 ⟨rfl, hb6⟩
  have b6 := b5.trans (hb6.mono b5.size)
  replace T := T.below hb6
  have hown6 := ownsRow_below hown5 hb6
  clear hb5 hb6 b5 b4 hown4 hown5 sz z0 z1 y0 y1 f0 f1 g0 g1
  have T6 := T
  obtain ⟨sz, z0, z1, y0, y1, f0, f1, g0, g1⟩ := T6
  have hq := HQB.out
  have hownb : (w6.alloc (.cells #[.int .i64 b] 2)).ownsRow (w.heap.size + 2) 2 1 v4 1 [.int .i64 a] := ownsRow_below hown6 (one_below _ _)
  have hrow : ∀ k, v4.ownBlock = some k → w.heap.size + 2 ≤ k := by
    intro k hk
    rcases hown6.2 with ⟨hv, _⟩ | ⟨g, cap, cur, hv, hg, _⟩
    · rw [hv] at hk; cases hk
    · rw [hv] at hk; cases hk; exact hg
  have HROW : Hid (∀ k, v4.ownBlock = some k → w.heap.size + 2 ≤ k) := hrow
  clear hrow hown6
  go_wp2_with (at_builtin; refine wpList_append_own _ rfl _ _ 48 rfl (w.heap.size + 2) 2 i0 (.int .i64 0) 1 8 Tryd.underlying48 hi hz0 hz1 hz2 rfl (by decide) _ 1 [.int .i64 a] rfl hownb ⟨w6.heap.size, 0, none⟩ 1 1 [.int .i64 b] rfl rfl ?c1 ?c2 ?c3 ?c4 ?c5 ?_)
  case c1 => exact one_new _ _ _
  case c2 => intro u hu; simp at hu; subst hu; rfl
  case c3 => unfold maxLen; omega
  case c4 => omega
  case c5 => simp; omega
  intro v7 w7 hown7 hg7 _
  have B6 : Below (w.heap.size + 2) (w6.alloc (.cells #[.int .i64 b] 2)) w7 := Below.grown (Below.refl _ _) hg7 (by simp; omega) HROW.out
  have bb := one_below w6 (.cells #[.int .i64 b] 2)
  have b7 := (b6.trans (bb.mono b6.size)).trans (B6.mono (Nat.le_add_right _ _))
  replace T := (T.below bb).belowB B6
  clear sz z0 z1 y0 y1 f0 f1 g0 g1 hq hownb hg7 B6 bb b6 HROW
  obtain ⟨g, cap, hv7, hgb, hgs, c0, c1⟩ := own_two hown7
  rw [hv7]
  clear hv7 hown7
  go_wp2_with fail
  rw [rounds_succ]
  go_wp2_with fail
  go_region
  have bn := (one_below w7 (.cells #[.int .i64 a, .int .i64 b] 23)).drew
  have b8 := b7.trans (bn.mono b7.size)
  have T8 := T.below bn
  have k0 : (w7.alloc (.cells #[.int .i64 a, .int .i64 b] 23)).drew.cell? ⟨w7.heap.size, 0, none⟩ = some (.int .i64 a) := by simp [go_sem]
  have k1 : (w7.alloc (.cells #[.int .i64 a, .int .i64 b] 23)).drew.cell? ⟨w7.heap.size, 1, none⟩ = some (.int .i64 b) := by simp [go_sem]
  go_wp2_with fail
  refine (isKey_t a b _ h0 h1 h2 h3).mono ?_
  rintro e w9 ⟨rfl, hb9⟩
  have m0 : w9.cell? ⟨w7.heap.size, 0, none⟩ = some (.int .i64 a) := (hb9.cell (p := ⟨w7.heap.size, 0, none⟩) (by simp)).trans k0
  have m1 : w9.cell? ⟨w7.heap.size, 1, none⟩ = some (.int .i64 b) := (hb9.cell (p := ⟨w7.heap.size, 1, none⟩) (by simp)).trans k1
  have b9 := b8.trans (hb9.mono b8.size)
  clear k0 k1
  obtain ⟨sz, z0, z1, y0, y1, f0, f1, g0, g1⟩ := T8.below hb9
  obtain ⟨q0, q1⟩ := pair_set w9 w.heap.size _ _ z0 z1
  go_wp2
  refine bodyPost_ret (v := .tuple #[.agg #[.int .i64 a, .int .i64 b], .int .i64 0]) (by simp [results, Tryd.results15, go_sem, q0, q1]) rfl ⟨rfl, ?_⟩
  exact (b9.setCell (Nat.le_refl _) _).setCell (Nat.le_refl _) _

theorem beq_toList {l : List UInt8} {A : ByteArray} (h : l = A.data.toList) : (l == A.toList) = true := by rw [h, ByteArray.toList_eq]; simp
theorem beq_toList_no {l : List UInt8} {A : ByteArray} (h : ¬ l = A.data.toList) : (l == A.toList) = false := by rw [ByteArray.toList_eq]; simpa using h

theorem ref_none (s : ByteArray) (hs : s.size ≤ 20) (w : World) (E : Env w) (h : rd s.data.toList = none) :
    Calls Tryd.prog 15 #[.string s] w fun e w' => e = .returned (.tuple #[.agg #[.int .i64 0, .int .i64 0], .int .i64 1]) ∧ Below w.heap.size w w' := by
  by_cases h1 : Lib.count s.data.toList [62] = 1
  · obtain ⟨A, B, hsp, hcut, hA, hB⟩ := split_once s h1
    have hA' := Nat.le_trans hA hs
    have hB' := Nat.le_trans hB hs
    cases ha : num A.data.toList with
    | none => exact ref_1e s A B hs w E h1 hsp hA' hB' ha
    | some a =>
      by_cases ia : Lib.itoa a = A.data.toList
      · cases hb : num B.data.toList with
        | none => exact ref_2e s A B hs w E h1 hsp hA' hB' a ha (beq_toList ia) hb
        | some b =>
          by_cases ib : Lib.itoa b = B.data.toList
          · rw [rd_of h1 hcut ha ia hb ib] at h; cases h
          · exact ref_2f s A B hs w E h1 hsp hA' hB' a ha (beq_toList ia) b hb (beq_toList_no ib)
      · exact ref_1f s A B hs w E h1 hsp hA' hB' a ha (beq_toList_no ia)
  · exact ref_many s hs w E h1

theorem ref_some (s : ByteArray) (a b : Int) (h : rd s.data.toList = some (a, b)) : Lib.count s.data.toList [62] = 1 ∧ ∃ A B : ByteArray, Lib.splitB ⟨#[62]⟩ 0 1 s = [A, B] ∧ A.size ≤ s.size ∧ B.size ≤ s.size ∧ num A.data.toList = some a ∧ Lib.itoa a = A.data.toList ∧ num B.data.toList = some b ∧ Lib.itoa b = B.data.toList := by
  obtain ⟨h1, hc, na, nb⟩ := rd_once h
  obtain ⟨A, B, hsp, hcut, hA, hB⟩ := split_once s h1
  rw [hc] at hcut
  simp only [Prod.mk.injEq, and_true] at hcut
  exact ⟨h1, A, B, hsp, hA, hB, by rw [← hcut.1]; exact na, hcut.1, by rw [← hcut.2]; exact nb, hcut.2⟩

theorem ref_range (s : ByteArray) (hs : s.size ≤ 20) (w : World) (E : Env w) (a b : Int) (h : rd s.data.toList = some (a, b)) (hk : okK a b = false) :
    Calls Tryd.prog 15 #[.string s] w fun e w' => e = .returned (.tuple #[.agg #[.int .i64 0, .int .i64 0], .int .i64 3]) ∧ Below w.heap.size w w' := by
  obtain ⟨h1, A, B, hsp, hA, hB, na, ia, nb, ib⟩ := ref_some s a b h
  exact ref_3n s A B hs w E h1 hsp (Nat.le_trans hA hs) (Nat.le_trans hB hs) a na (beq_toList ia) b nb (beq_toList ib) hk

theorem ref_ok (s : ByteArray) (hs : s.size ≤ 20) (w : World) (E : Env w) (a b : Int) (h : rd s.data.toList = some (a, b)) (h0 : 0 ≤ a) (h1 : a ≤ 15) (h2 : 0 ≤ b) (h3 : b ≤ 15) :
    Calls Tryd.prog 15 #[.string s] w fun e w' => e = .returned (.tuple #[.agg #[.int .i64 a, .int .i64 b], .int .i64 0]) ∧ Below w.heap.size w w' := by
  obtain ⟨hc, A, B, hsp, hA, hB, na, ia, nb, ib⟩ := ref_some s a b h
  exact ref_3y s A B hs w E hc hsp (Nat.le_trans hA hs) (Nat.le_trans hB hs) a na (beq_toList ia) b nb (beq_toList ib) h0 h1 h2 h3
end Go.Proofs.YtdbilofhcadmoaaDoor.key
