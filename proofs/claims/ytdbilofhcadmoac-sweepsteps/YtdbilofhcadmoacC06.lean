/- The contracts of frame.Check and of the document's own CheckFrame. -/
import Derived.Test.YtdbilofhcadmoacC05
namespace Go.Proofs.Ytdbilofhcadmoac.mm
open Go.ChangeShapes Go.WideShapes Go.ChangeAt Go.RowKit Go.Joins Go.Maps
set_option maxRecDepth 100000
set_option linter.unusedVariables false

theorem framef {w : World} {B : Nat} {v0 v1 v2 v3 v4 v5 v6 v7 v8 v9 v10 v11 v12 v13 : Value} {t : TypeId} (h : w.heap[B]? = some (.cells #[v0, v1, v2, v3, v4, v5, v6, v7, v8, v9, v10, v11, v12, v13] t (0, 0))) :
    w.cell? ⟨B, 0, none⟩ = some v0 ∧ w.cell? ⟨B, 1, none⟩ = some v1 ∧ w.cell? ⟨B, 2, none⟩ = some v2 ∧ w.cell? ⟨B, 3, none⟩ = some v3 ∧ w.cell? ⟨B, 4, none⟩ = some v4 ∧ w.cell? ⟨B, 5, none⟩ = some v5 ∧ w.cell? ⟨B, 6, none⟩ = some v6 ∧ w.cell? ⟨B, 7, none⟩ = some v7 ∧ w.cell? ⟨B, 8, none⟩ = some v8 ∧ w.cell? ⟨B, 9, none⟩ = some v9 ∧ w.cell? ⟨B, 10, none⟩ = some v10 ∧ w.cell? ⟨B, 11, none⟩ = some v11 ∧ w.cell? ⟨B, 12, none⟩ = some v12 ∧ w.cell? ⟨B, 13, none⟩ = some v13 ∧ (∀ q, w.frozen? ⟨B, q, none⟩ = false) ∧ B < w.heap.size :=
  ⟨by rw [cell_of_block h]; rfl, by rw [cell_of_block h]; rfl, by rw [cell_of_block h]; rfl, by rw [cell_of_block h]; rfl, by rw [cell_of_block h]; rfl, by rw [cell_of_block h]; rfl, by rw [cell_of_block h]; rfl, by rw [cell_of_block h]; rfl, by rw [cell_of_block h]; rfl, by rw [cell_of_block h]; rfl, by rw [cell_of_block h]; rfl, by rw [cell_of_block h]; rfl, by rw [cell_of_block h]; rfl, by rw [cell_of_block h]; rfl, fun q => unfrozen_of_block h q, lt_of_block h⟩

theorem holds_any (x lo hi : Int) (w : World) : Calls Try.prog 61 #[.agg #[.int .i64 x, .int .i64 lo, .int .i64 hi]] w fun e w' => e = .returned (.bool (inB x lo hi)) ∧ Below w.heap.size w w' := by
  go_enter Try.func61, Try.ntmps61
  go_wp2_with (go_at_call 82; refine (within_any _ _ _ _).mono ?_; rintro e w1 ⟨rfl, rfl⟩)
  go_ret
  exact ⟨rfl, one_below _ _⟩

theorem frE_call {nS nH : Nat} {f : Fr} (h : callE nS nH f.c ≠ 0) : frE nS nH f = callE nS nH f.c := by unfold frE; rw [if_pos h]
theorem frE_three {nS nH : Nat} {f : Fr} (h : callE nS nH f.c = 0) (h1 : inB f.pl 0 9 = false ∨ inB f.n 0 1000000 = false ∨ f.done = true) : frE nS nH f = 3 := by unfold frE; rw [if_neg (by simpa using h), if_pos h1]
theorem frE_five {nS nH : Nat} {f : Fr} (h : callE nS nH f.c = 0) (h1 : inB f.pl 0 9 = true) (h2 : inB f.n 0 1000000 = true) (h3 : f.done = false) (h4 : inB f.cur (-(nH : Int)) nS = false ∨ inB f.prev 0 nS = false ∨ inB f.slot (-1) ((nS : Int) - 1) = false) : frE nS nH f = 5 := by
  unfold frE; rw [if_neg (by simpa using h), if_neg (by rw [h1, h2, h3]; simp), if_pos h4]
theorem frE_rest {nS nH : Nat} {f : Fr} (h : callE nS nH f.c = 0) (h1 : inB f.pl 0 9 = true) (h2 : inB f.n 0 1000000 = true) (h3 : f.done = false) (h4 : inB f.cur (-(nH : Int)) nS = true) (h5 : inB f.prev 0 nS = true) (h6 : inB f.slot (-1) ((nS : Int) - 1) = true) : frE nS nH f = if 100 < f.keys.length then 2 else 0 := by
  unfold frE; rw [if_neg (by simpa using h), if_neg (by rw [h1, h2, h3]; simp), if_neg (by rw [h4, h5, h6]; simp)]
theorem callE_at {nS nH : Nat} {c : Cl} {E : Int} (h : E = callE nS nH c) (aS aH aF aL : Option Addr) (nF nL cS cH cF cL : Nat) (now : Int) (w : World) (hn : nS ≤ 9223372036854775807) (hh : nH ≤ 9223372036854775807) :
    Calls Try.prog 60 #[.agg #[.slice aS nS cS, .slice aH nH cH, .slice aF nF cF, .slice aL nL cL, .int .i64 now], .agg #[.int .i64 c.kind, .int .i64 c.a, .int .i64 c.b, .int .i64 c.time, .int .i64 c.bk, .int .i64 c.slot]] w fun e w' => e = .returned (.int .i64 E) ∧ Below w.heap.size w w' := by
  subst h; exact checkCall_any aS aH aF aL nS nH nF nL cS cH cF cL now _ _ _ _ _ _ w hn hh
theorem rcallE_at {nS nH : Nat} {c : Cl} {E : Int} (h : E = callE nS nH c) (aS aH aF aL : Option Addr) (nF nL cS cH cF cL : Nat) (now : Int) (w : World) (hn : nS ≤ 9223372036854775807) (hh : nH ≤ 9223372036854775807) :
    Calls Try.prog 66 #[.agg #[.slice aS nS cS, .slice aH nH cH, .slice aF nF cF, .slice aL nL cL, .int .i64 now], .agg #[.int .i64 c.kind, .int .i64 c.a, .int .i64 c.b, .int .i64 c.time, .int .i64 c.bk, .int .i64 c.slot]] w fun e w' => e = .returned (.int .i64 E) ∧ Below w.heap.size w w' := by
  subst h; exact rcheckCall_any aS aH aF aL nS nH nF nL cS cH cF cL now _ _ _ _ _ _ w hn hh
theorem holds_at {x lo hi : Int} {r : Bool} (h : inB x lo hi = r) (w : World) : Calls Try.prog 61 #[.agg #[.int .i64 x, .int .i64 lo, .int .i64 hi]] w fun e w' => e = .returned (.bool r) ∧ Below w.heap.size w w' := by
  subst h; exact holds_any x lo hi w
set_option maxHeartbeats 6400000 in
theorem frCheck_any (aS aH aF aL : Option Addr) (nS nH nF nL cS cH cF cL : Nat) (now : Int) (f : Fr) (aK : Option Addr) (cK : Nat) (w : World) (hn : nS ≤ 9223372036854775000) (hh : nH ≤ 9223372036854775000) (hk : f.keys.length ≤ 9223372036854775807) :
    Calls Try.prog 26 #[.agg #[.slice aS nS cS, .slice aH nH cH, .slice aF nF cF, .slice aL nL cL, .int .i64 now], .agg #[.int .i64 f.c.kind, .int .i64 f.c.a, .int .i64 f.c.b, .int .i64 f.c.time, .int .i64 f.c.bk, .int .i64 f.c.slot, .int .i64 f.pl, .int .i64 f.cur, .int .i64 f.prev, .int .i64 f.slot, .int .i64 f.n, .slice aK f.keys.length cK, .bool f.done, .int .i64 f.e]] w fun e w' => e = .returned (.int .i64 (frE nS nH f)) ∧ Below w.heap.size w w' := by
  obtain ⟨om, hom⟩ : ∃ o : Obj, o = .cells #[.slice aS nS cS, .slice aH nH cH, .slice aF nF cF, .slice aL nL cL, .int .i64 now] 25 := ⟨_, rfl⟩
  obtain ⟨of, hof⟩ : ∃ o : Obj, o = .cells #[.int .i64 f.c.kind, .int .i64 f.c.a, .int .i64 f.c.b, .int .i64 f.c.time, .int .i64 f.c.bk, .int .i64 f.c.slot, .int .i64 f.pl, .int .i64 f.cur, .int .i64 f.prev, .int .i64 f.slot, .int .i64 f.n, .slice aK f.keys.length cK, .bool f.done, .int .i64 f.e] 33 := ⟨_, rfl⟩
  have HE0 : Hid (Env w ((w.alloc om).alloc of) _ []) := ((⟨Below.refl _ _, (fun p hp => by cases hp), (fun p hp => by cases hp)⟩ : Env w w [] []).alloc om).alloc of
  rw [show (w.alloc om).heap.size = w.heap.size + 1 by simp] at HE0
  obtain ⟨C0, hC0⟩ : ∃ x, x = callE nS nH f.c := ⟨_, rfl⟩
  have HC0 : Hid (C0 = callE nS nH f.c) := hC0
  obtain ⟨E0, hE0⟩ : ∃ x, x = frE nS nH f := ⟨_, rfl⟩
  rw [← hE0]
  have HV0 : Hid (E0 = frE nS nH f) := hE0
  clear hC0 hE0
  have i0 : ∀ (a b c d e g : Value) w, (Instr.index 86 (.agg #[a, b, c, d, e, g]) (.int .i64 0)).run Try.prog w = .ok (.agg #[a, b, c]) w := fun _ _ _ _ _ _ _ => by kernel_rfl
  have i1 : ∀ (a b c d e g : Value) w, (Instr.index 86 (.agg #[a, b, c, d, e, g]) (.int .i64 1)).run Try.prog w = .ok (.agg #[d, e, g]) w := fun _ _ _ _ _ _ _ => by kernel_rfl
  have j0 : ∀ (a b c d e g h i j : Value) w, (Instr.index 87 (.agg #[a, b, c, d, e, g, h, i, j]) (.int .i64 0)).run Try.prog w = .ok (.agg #[a, b, c]) w := fun _ _ _ _ _ _ _ _ _ _ => by kernel_rfl
  have j1 : ∀ (a b c d e g h i j : Value) w, (Instr.index 87 (.agg #[a, b, c, d, e, g, h, i, j]) (.int .i64 1)).run Try.prog w = .ok (.agg #[d, e, g]) w := fun _ _ _ _ _ _ _ _ _ _ => by kernel_rfl
  have j2 : ∀ (a b c d e g h i j : Value) w, (Instr.index 87 (.agg #[a, b, c, d, e, g, h, i, j]) (.int .i64 2)).run Try.prog w = .ok (.agg #[h, i, j]) w := fun _ _ _ _ _ _ _ _ _ _ => by kernel_rfl
  go_enter Try.func26, Try.ntmps26
  go_wp2_with fail
  rw [← hom, ← hof]
  generalize (w.alloc om).alloc of = W0 at *
  subst hom hof
  refine (callE_at HC0.out aS aH aF aL nF nL cS cH cF cL now W0 (by omega) (by omega)).mono ?_
  rintro e w1 ⟨rfl, hb1⟩
  have HE1 : Hid _ := HE0.out.below hb1
  clear HE0 hb1
  by_cases hC : C0 = 0
  rotate_left
  · have h' : (C0 != 0) = true := by simpa using hC
    have HV : Hid (E0 = C0) := by rw [HV0.out, HC0.out]; exact frE_call (by rw [← HC0.out]; exact hC)
    go_wp2
    go_ret
    exact ⟨by rw [HV.out]; rfl, HE1.out.bl⟩
  subst hC
  have HC : Hid (callE nS nH f.c = 0) := HC0.out.symm
  clear HC0
  obtain ⟨f0, f1, f2, f3, f4, f5, f6, f7, f8, f9, f10, f11, f12, f13, -, fs⟩ := framef (HE1.out.box _ (.head _))
  obtain ⟨q0, q1, q2, q3, q4, -, -, -, -, -, qs⟩ := boxf (HE1.out.box _ (.tail _ (.head _)))
  go_wp2_with fail
  refine wp_loop_rounds 3 ?_
  rw [rounds_succ]
  go_wp2_with fail
  clear f0 f1 f2 f3 f4 f5 f6 f7 f8 f9 f10 f11 f12 f13 fs q0 q1 q2 q3 q4 qs
  have HX1 : Hid _ := HE1.out.alloc (.cells #[.int .i64 f.pl, .int .i64 0, .int .i64 9] 85)
  cases hA : inB f.pl 0 9
  · refine (holds_at hA _).mono ?_
    rintro e w2 ⟨rfl, hb2⟩
    have HE2 : Hid _ := HX1.out.below hb2
    have HV : Hid (E0 = 3) := HV0.out.trans (frE_three HC.out (.inl hA))
    clear HX1 hb2
    go_wp2
    go_ret
    exact ⟨by rw [HV.out]; rfl, HE2.out.bl⟩
  refine (holds_at hA _).mono ?_
  rintro e w2 ⟨rfl, hb2⟩
  have HE2 : Hid _ := HX1.out.below hb2
  have G1 : Hid (inB f.pl 0 9 = true) := hA
  clear HX1 hb2 hA
  go_wp2_with fail
  rw [rounds_succ]
  go_wp2_with fail
  have HX2 : Hid _ := HE2.out.alloc (.cells #[.int .i64 f.n, .int .i64 0, .int .i64 1000000] 85)
  cases hA : inB f.n 0 1000000
  · refine (holds_at hA _).mono ?_
    rintro e w3 ⟨rfl, hb3⟩
    have HE3 : Hid _ := HX2.out.below hb3
    have HV : Hid (E0 = 3) := HV0.out.trans (frE_three HC.out (.inr (.inl hA)))
    clear HX2 hb3
    go_wp2
    go_ret
    exact ⟨by rw [HV.out]; rfl, HE3.out.bl⟩
  refine (holds_at hA _).mono ?_
  rintro e w3 ⟨rfl, hb3⟩
  have HE3 : Hid _ := HX2.out.below hb3
  have G2 : Hid (inB f.n 0 1000000 = true) := hA
  clear HX2 hb3 hA
  go_wp2_with fail
  rw [rounds_succ]
  obtain ⟨f0, f1, f2, f3, f4, f5, f6, f7, f8, f9, f10, f11, f12, f13, -, fs⟩ := framef (HE3.out.box _ (.tail _ (.tail _ (.head _))))
  obtain ⟨q0, q1, q2, q3, q4, -, -, -, -, -, qs⟩ := boxf (HE3.out.box _ (.tail _ (.tail _ (.tail _ (.head _)))))
  cases hD : f.done
  rotate_left
  · have HV : Hid (E0 = 3) := HV0.out.trans (frE_three HC.out (.inr (.inr hD)))
    rw [hD] at f12
    go_wp2
    go_ret
    exact ⟨by rw [HV.out]; rfl, HE3.out.bl⟩
  rw [hD] at f12
  have HD : Hid (f.done = false) := hD
  clear hD
  go_wp2_with fail
  refine wp_loop_rounds 4 ?_
  rw [rounds_succ]
  go_wp2_with fail
  clear f0 f1 f2 f3 f4 f5 f6 f7 f8 f9 f10 f11 f12 f13 fs q0 q1 q2 q3 q4 qs
  have HX3 : Hid _ := HE3.out.alloc (.cells #[.int .i64 f.cur, .int .i64 (-(nH : Int)), .int .i64 nS] 85)
  cases hA : inB f.cur (-(nH : Int)) nS
  · refine (holds_at hA _).mono ?_
    rintro e w4 ⟨rfl, hb4⟩
    have HE4 : Hid _ := HX3.out.below hb4
    have HV : Hid (E0 = 5) := HV0.out.trans (frE_five HC.out G1.out G2.out HD.out (.inl hA))
    clear HX3 hb4
    go_wp2
    go_ret
    exact ⟨by rw [HV.out]; rfl, HE4.out.bl⟩
  refine (holds_at hA _).mono ?_
  rintro e w4 ⟨rfl, hb4⟩
  have HE4 : Hid _ := HX3.out.below hb4
  have G3 : Hid (inB f.cur (-(nH : Int)) nS = true) := hA
  clear HX3 hb4 hA
  go_wp2_with fail
  rw [rounds_succ]
  go_wp2_with fail
  have HX4 : Hid _ := HE4.out.alloc (.cells #[.int .i64 f.prev, .int .i64 0, .int .i64 nS] 85)
  cases hA : inB f.prev 0 nS
  · refine (holds_at hA _).mono ?_
    rintro e w5 ⟨rfl, hb5⟩
    have HE5 : Hid _ := HX4.out.below hb5
    have HV : Hid (E0 = 5) := HV0.out.trans (frE_five HC.out G1.out G2.out HD.out (.inr (.inl hA)))
    clear HX4 hb5
    go_wp2
    go_ret
    exact ⟨by rw [HV.out]; rfl, HE5.out.bl⟩
  refine (holds_at hA _).mono ?_
  rintro e w5 ⟨rfl, hb5⟩
  have HE5 : Hid _ := HX4.out.below hb5
  have G4 : Hid (inB f.prev 0 nS = true) := hA
  clear HX4 hb5 hA
  go_wp2_with fail
  rw [rounds_succ]
  go_wp2_with fail
  have HX5 : Hid _ := HE5.out.alloc (.cells #[.int .i64 f.slot, .int .i64 (-1), .int .i64 ((nS : Int) - 1)] 85)
  cases hA : inB f.slot (-1) ((nS : Int) - 1)
  · refine (holds_at hA _).mono ?_
    rintro e w6 ⟨rfl, hb6⟩
    have HE6 : Hid _ := HX5.out.below hb6
    have HV : Hid (E0 = 5) := HV0.out.trans (frE_five HC.out G1.out G2.out HD.out (.inr (.inr hA)))
    clear HX5 hb6
    go_wp2
    go_ret
    exact ⟨by rw [HV.out]; rfl, HE6.out.bl⟩
  refine (holds_at hA _).mono ?_
  rintro e w6 ⟨rfl, hb6⟩
  have HE6 : Hid _ := HX5.out.below hb6
  have G5 : Hid (inB f.slot (-1) ((nS : Int) - 1) = true) := hA
  clear HX5 hb6 hA
  go_wp2_with fail
  rw [rounds_succ]
  obtain ⟨f0, f1, f2, f3, f4, f5, f6, f7, f8, f9, f10, f11, f12, f13, -, fs⟩ := framef (HE6.out.box _ (.tail _ (.tail _ (.tail _ (.tail _ (.tail _ (.head _)))))))
  obtain ⟨q0, q1, q2, q3, q4, -, -, -, -, -, qs⟩ := boxf (HE6.out.box _ (.tail _ (.tail _ (.tail _ (.tail _ (.tail _ (.tail _ (.head _))))))))
  have HV : Hid (E0 = if 100 < f.keys.length then 2 else 0) := HV0.out.trans (frE_rest HC.out G1.out G2.out HD.out G3.out G4.out G5.out)
  by_cases hK : 100 < f.keys.length
  · rw [if_pos hK] at HV
    go_wp2
    go_ret
    exact ⟨by rw [HV.out]; rfl, HE6.out.bl⟩
  · rw [if_neg hK] at HV
    have hK' : f.keys.length ≤ 100 := by omega
    go_wp2
    go_ret
    exact ⟨by rw [HV.out]; rfl, HE6.out.bl⟩

set_option maxHeartbeats 6400000 in
theorem rfrCheck_any (aS aH aF aL : Option Addr) (nS nH nF nL cS cH cF cL : Nat) (now : Int) (f : Fr) (aK : Option Addr) (cK : Nat) (w : World) (hn : nS ≤ 9223372036854775000) (hh : nH ≤ 9223372036854775000) (hk : f.keys.length ≤ 9223372036854775807) :
    Calls Try.prog 31 #[.agg #[.slice aS nS cS, .slice aH nH cH, .slice aF nF cF, .slice aL nL cL, .int .i64 now], .agg #[.int .i64 f.c.kind, .int .i64 f.c.a, .int .i64 f.c.b, .int .i64 f.c.time, .int .i64 f.c.bk, .int .i64 f.c.slot, .int .i64 f.pl, .int .i64 f.cur, .int .i64 f.prev, .int .i64 f.slot, .int .i64 f.n, .slice aK f.keys.length cK, .bool f.done, .int .i64 f.e]] w fun e w' => e = .returned (.int .i64 (frE nS nH f)) ∧ Below w.heap.size w w' := by
  obtain ⟨om, hom⟩ : ∃ o : Obj, o = .cells #[.slice aS nS cS, .slice aH nH cH, .slice aF nF cF, .slice aL nL cL, .int .i64 now] 25 := ⟨_, rfl⟩
  obtain ⟨of, hof⟩ : ∃ o : Obj, o = .cells #[.int .i64 f.c.kind, .int .i64 f.c.a, .int .i64 f.c.b, .int .i64 f.c.time, .int .i64 f.c.bk, .int .i64 f.c.slot, .int .i64 f.pl, .int .i64 f.cur, .int .i64 f.prev, .int .i64 f.slot, .int .i64 f.n, .slice aK f.keys.length cK, .bool f.done, .int .i64 f.e] 33 := ⟨_, rfl⟩
  have HE0 : Hid (Env w ((w.alloc om).alloc of) _ []) := ((⟨Below.refl _ _, (fun p hp => by cases hp), (fun p hp => by cases hp)⟩ : Env w w [] []).alloc om).alloc of
  rw [show (w.alloc om).heap.size = w.heap.size + 1 by simp] at HE0
  obtain ⟨C0, hC0⟩ : ∃ x, x = callE nS nH f.c := ⟨_, rfl⟩
  have HC0 : Hid (C0 = callE nS nH f.c) := hC0
  obtain ⟨E0, hE0⟩ : ∃ x, x = frE nS nH f := ⟨_, rfl⟩
  rw [← hE0]
  have HV0 : Hid (E0 = frE nS nH f) := hE0
  clear hC0 hE0
  go_enter Try.func31, Try.ntmps31
  go_wp2_with fail
  rw [← hom, ← hof]
  generalize (w.alloc om).alloc of = W0 at *
  subst hom hof
  refine (rcallE_at HC0.out aS aH aF aL nF nL cS cH cF cL now W0 (by omega) (by omega)).mono ?_
  rintro e w1 ⟨rfl, hb1⟩
  have HE1 : Hid _ := HE0.out.below hb1
  clear HE0 hb1
  by_cases hC : C0 = 0
  rotate_left
  · have h' : (C0 != 0) = true := by simpa using hC
    have HV : Hid (E0 = C0) := by rw [HV0.out, HC0.out]; exact frE_call (by rw [← HC0.out]; exact hC)
    go_wp2
    go_ret
    exact ⟨by rw [HV.out]; rfl, HE1.out.bl⟩
  subst hC
  have HC : Hid (callE nS nH f.c = 0) := HC0.out.symm
  clear HC0
  obtain ⟨f0, f1, f2, f3, f4, f5, f6, f7, f8, f9, f10, f11, f12, f13, -, fs⟩ := framef (HE1.out.box _ (.head _))
  obtain ⟨q0, q1, q2, q3, q4, -, -, -, -, -, qs⟩ := boxf (HE1.out.box _ (.tail _ (.head _)))
  by_cases hx : f.pl < 0
  · have HV : Hid (E0 = 3) := HV0.out.trans (frE_three HC.out (.inl (by simp [inB]; omega)))
    go_wp2
    go_ret
    exact ⟨by rw [HV.out]; rfl, HE1.out.bl⟩
  have a0 : 0 ≤ f.pl := by omega
  clear hx
  by_cases hx : 9 < f.pl
  · have HV : Hid (E0 = 3) := HV0.out.trans (frE_three HC.out (.inl (by simp [inB]; omega)))
    go_wp2
    go_ret
    exact ⟨by rw [HV.out]; rfl, HE1.out.bl⟩
  have a1 : f.pl ≤ 9 := by omega
  clear hx
  by_cases hx : f.n < 0
  · have HV : Hid (E0 = 3) := HV0.out.trans (frE_three HC.out (.inr (.inl (by simp [inB]; omega))))
    go_wp2
    go_ret
    exact ⟨by rw [HV.out]; rfl, HE1.out.bl⟩
  have a2 : 0 ≤ f.n := by omega
  clear hx
  by_cases hx : 1000000 < f.n
  · have HV : Hid (E0 = 3) := HV0.out.trans (frE_three HC.out (.inr (.inl (by simp [inB]; omega))))
    go_wp2
    go_ret
    exact ⟨by rw [HV.out]; rfl, HE1.out.bl⟩
  have a3 : f.n ≤ 1000000 := by omega
  clear hx
  have g1 : Hid (inB f.pl 0 9 = true) := (inB_iff _ _ _).2 ⟨a0, a1⟩
  have g2 : Hid (inB f.n 0 1000000 = true) := (inB_iff _ _ _).2 ⟨a2, a3⟩
  cases hD : f.done
  rotate_left
  · have HV : Hid (E0 = 3) := HV0.out.trans (frE_three HC.out (.inr (.inr hD)))
    rw [hD] at f12
    go_wp2
    go_ret
    exact ⟨by rw [HV.out]; rfl, HE1.out.bl⟩
  rw [hD] at f12
  have HD : Hid (f.done = false) := hD
  clear hD
  by_cases hx : (nS : Int) < f.cur
  · have HV : Hid (E0 = 5) := HV0.out.trans (frE_five HC.out g1.out g2.out HD.out (.inl (by simp [inB]; omega)))
    go_wp2
    go_ret
    exact ⟨by rw [HV.out]; rfl, HE1.out.bl⟩
  have b0 : f.cur ≤ nS := by omega
  clear hx
  by_cases hx : f.cur < -(nH : Int)
  · have HV : Hid (E0 = 5) := HV0.out.trans (frE_five HC.out g1.out g2.out HD.out (.inl (by simp [inB]; omega)))
    go_wp2
    go_ret
    exact ⟨by rw [HV.out]; rfl, HE1.out.bl⟩
  have b1 : -(nH : Int) ≤ f.cur := by omega
  clear hx
  by_cases hx : f.prev < 0
  · have HV : Hid (E0 = 5) := HV0.out.trans (frE_five HC.out g1.out g2.out HD.out (.inr (.inl (by simp [inB]; omega))))
    go_wp2
    go_ret
    exact ⟨by rw [HV.out]; rfl, HE1.out.bl⟩
  have b2 : 0 ≤ f.prev := by omega
  clear hx
  by_cases hx : (nS : Int) < f.prev
  · have HV : Hid (E0 = 5) := HV0.out.trans (frE_five HC.out g1.out g2.out HD.out (.inr (.inl (by simp [inB]; omega))))
    go_wp2
    go_ret
    exact ⟨by rw [HV.out]; rfl, HE1.out.bl⟩
  have b3 : f.prev ≤ nS := by omega
  clear hx
  by_cases hx : f.slot < -1
  · have HV : Hid (E0 = 5) := HV0.out.trans (frE_five HC.out g1.out g2.out HD.out (.inr (.inr (by simp [inB]; omega))))
    go_wp2
    go_ret
    exact ⟨by rw [HV.out]; rfl, HE1.out.bl⟩
  have b4 : -1 ≤ f.slot := by omega
  clear hx
  by_cases hx : (nS : Int) ≤ f.slot
  · have HV : Hid (E0 = 5) := HV0.out.trans (frE_five HC.out g1.out g2.out HD.out (.inr (.inr (by simp [inB]; omega))))
    go_wp2
    go_ret
    exact ⟨by rw [HV.out]; rfl, HE1.out.bl⟩
  have b5 : f.slot < nS := by omega
  clear hx
  have HV : Hid (E0 = if 100 < f.keys.length then 2 else 0) := HV0.out.trans (frE_rest HC.out g1.out g2.out HD.out ((inB_iff _ _ _).2 ⟨b1, b0⟩) ((inB_iff _ _ _).2 ⟨b2, b3⟩) ((inB_iff _ _ _).2 ⟨b4, by omega⟩))
  by_cases hK : 100 < f.keys.length
  · rw [if_pos hK] at HV
    go_wp2
    go_ret
    exact ⟨by rw [HV.out]; rfl, HE1.out.bl⟩
  · rw [if_neg hK] at HV
    have hK' : f.keys.length ≤ 100 := by omega
    go_wp2
    go_ret
    exact ⟨by rw [HV.out]; rfl, HE1.out.bl⟩





end Go.Proofs.Ytdbilofhcadmoac.mm
