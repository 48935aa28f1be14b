/- The contracts of frame.Check and of the document's own CheckFrame. -/
import Derived.Test.YtdbilofhcadmoabC15
import Derived.Test.YtdbilofhcadmoabC11
import Derived.Test.YtdbilofhcadmoabC09
namespace Go.Proofs.Ytdbilofhcadmoab.mm
open Go.ChangeShapes Go.WideShapes Go.ChangeAt Go.RowKit Go.Joins Go.Maps
set_option maxRecDepth 100000
set_option linter.unusedVariables false

theorem framef {w : World} {B : Nat} {v0 v1 v2 v3 v4 v5 v6 v7 v8 v9 v10 v11 v12 v13 : Value} {t : TypeId} (h : w.heap[B]? = some (.cells #[v0, v1, v2, v3, v4, v5, v6, v7, v8, v9, v10, v11, v12, v13] t (0, 0))) :
    w.cell? ⟨B, 0, none⟩ = some v0 ∧ w.cell? ⟨B, 1, none⟩ = some v1 ∧ w.cell? ⟨B, 2, none⟩ = some v2 ∧ w.cell? ⟨B, 3, none⟩ = some v3 ∧ w.cell? ⟨B, 4, none⟩ = some v4 ∧ w.cell? ⟨B, 5, none⟩ = some v5 ∧ w.cell? ⟨B, 6, none⟩ = some v6 ∧ w.cell? ⟨B, 7, none⟩ = some v7 ∧ w.cell? ⟨B, 8, none⟩ = some v8 ∧ w.cell? ⟨B, 9, none⟩ = some v9 ∧ w.cell? ⟨B, 10, none⟩ = some v10 ∧ w.cell? ⟨B, 11, none⟩ = some v11 ∧ w.cell? ⟨B, 12, none⟩ = some v12 ∧ w.cell? ⟨B, 13, none⟩ = some v13 ∧ (∀ q, w.frozen? ⟨B, q, none⟩ = false) ∧ B < w.heap.size :=
  ⟨by rw [cell_of_block h]; rfl, by rw [cell_of_block h]; rfl, by rw [cell_of_block h]; rfl, by rw [cell_of_block h]; rfl, by rw [cell_of_block h]; rfl, by rw [cell_of_block h]; rfl, by rw [cell_of_block h]; rfl, by rw [cell_of_block h]; rfl, by rw [cell_of_block h]; rfl, by rw [cell_of_block h]; rfl, by rw [cell_of_block h]; rfl, by rw [cell_of_block h]; rfl, by rw [cell_of_block h]; rfl, by rw [cell_of_block h]; rfl, fun q => unfrozen_of_block h q, lt_of_block h⟩

theorem holds_any (x lo hi : Int) (w : World) : Calls Try.prog 83 #[.agg #[.int .i64 x, .int .i64 lo, .int .i64 hi]] w fun e w' => e = .returned (.bool (inB x lo hi)) ∧ Below w.heap.size w w' := by
  go_enter Try.func83, Try.ntmps83
  go_wp2_with (go_at_call 81; refine (within_any _ _ _ _).mono ?_; rintro e w1 ⟨rfl, rfl⟩)
  go_ret
  exact ⟨rfl, one_below _ _⟩

theorem frE_call {nS nH : Nat} {f : Fr} (h : callE nS nH f.c ≠ 0) : frE nS nH f = callE nS nH f.c := by unfold frE; rw [if_pos h]
theorem frE_three {nS nH : Nat} {f : Fr} (h : callE nS nH f.c = 0) (h1 : inB f.pl 0 9 = false ∨ inB f.n 0 1000000 = false ∨ f.done = true) : frE nS nH f = 3 := by unfold frE; rw [if_neg (by simpa using h), if_pos h1]
theorem frE_five {nS nH : Nat} {f : Fr} (h : callE nS nH f.c = 0) (h1 : inB f.pl 0 9 = true) (h2 : inB f.n 0 1000000 = true) (h3 : f.done = false) (h4 : inB f.cur (-(nH : Int)) nS = false ∨ inB f.prev 0 nS = false ∨ inB f.slot (-1) ((nS : Int) - 1) = false) : frE nS nH f = 5 := by
  unfold frE; rw [if_neg (by simpa using h), if_neg (by rw [h1, h2, h3]; simp), if_pos h4]
theorem frE_rest {nS nH : Nat} {f : Fr} (h : callE nS nH f.c = 0) (h1 : inB f.pl 0 9 = true) (h2 : inB f.n 0 1000000 = true) (h3 : f.done = false) (h4 : inB f.cur (-(nH : Int)) nS = true) (h5 : inB f.prev 0 nS = true) (h6 : inB f.slot (-1) ((nS : Int) - 1) = true) : frE nS nH f = if 100 < f.keys.length then 2 else 0 := by
  unfold frE; rw [if_neg (by simpa using h), if_neg (by rw [h1, h2, h3]; simp), if_neg (by rw [h4, h5, h6]; simp)]
theorem callE_at {nS nH : Nat} {c : Cl} {E : Int} (h : E = callE nS nH c) (aS aH aF aL : Option Addr) (nF nL cS cH cF cL : Nat) (now : Int) (w : World) (hn : nS ≤ 9223372036854775807) (hh : nH ≤ 9223372036854775807) :
    Calls Try.prog 24 #[.agg #[.slice aS nS cS, .slice aH nH cH, .slice aF nF cF, .slice aL nL cL, .int .i64 now], .agg #[.int .i64 c.kind, .int .i64 c.a, .int .i64 c.b, .int .i64 c.time, .int .i64 c.bk, .int .i64 c.slot]] w fun e w' => e = .returned (.int .i64 E) ∧ Below w.heap.size w w' := by
  subst h; exact checkCall_any aS aH aF aL nS nH nF nL cS cH cF cL now _ _ _ _ _ _ w hn hh
theorem rcallE_at {nS nH : Nat} {c : Cl} {E : Int} (h : E = callE nS nH c) (aS aH aF aL : Option Addr) (nF nL cS cH cF cL : Nat) (now : Int) (w : World) (hn : nS ≤ 9223372036854775807) (hh : nH ≤ 9223372036854775807) :
    Calls Try.prog 25 #[.agg #[.slice aS nS cS, .slice aH nH cH, .slice aF nF cF, .slice aL nL cL, .int .i64 now], .agg #[.int .i64 c.kind, .int .i64 c.a, .int .i64 c.b, .int .i64 c.time, .int .i64 c.bk, .int .i64 c.slot]] w fun e w' => e = .returned (.int .i64 E) ∧ Below w.heap.size w w' := by
  subst h; exact rcheckCall_any aS aH aF aL nS nH nF nL cS cH cF cL now _ _ _ _ _ _ w hn hh
theorem holds_at {x lo hi : Int} {r : Bool} (h : inB x lo hi = r) (w : World) : Calls Try.prog 83 #[.agg #[.int .i64 x, .int .i64 lo, .int .i64 hi]] w fun e w' => e = .returned (.bool r) ∧ Below w.heap.size w w' := by
  subst h; exact holds_any x lo hi w
set_option maxHeartbeats 6400000 in
theorem frCheck_any (aS aH aF aL : Option Addr) (nS nH nF nL cS cH cF cL : Nat) (now : Int) (f : Fr) (aK : Option Addr) (cK : Nat) (w : World) (hn : nS ≤ 9223372036854775000) (hh : nH ≤ 9223372036854775000) (hk : f.keys.length ≤ 9223372036854775807) :
    Calls Try.prog 26 #[.agg #[.slice aS nS cS, .slice aH nH cH, .slice aF nF cF, .slice aL nL cL, .int .i64 now], .agg #[.int .i64 f.c.kind, .int .i64 f.c.a, .int .i64 f.c.b, .int .i64 f.c.time, .int .i64 f.c.bk, .int .i64 f.c.slot, .int .i64 f.pl, .int .i64 f.cur, .int .i64 f.prev, .int .i64 f.slot, .int .i64 f.n, .slice aK f.keys.length cK, .bool f.done, .int .i64 f.e]] w fun e w' => e = .returned (.int .i64 (frE nS nH f)) ∧ Below w.heap.size w w' := by
  obtain ⟨om, hom⟩ : ∃ o : Obj, o = .cells #[.slice aS nS cS, .slice aH nH cH, .slice aF nF cF, .slice aL nL cL, .int .i64 now] 25 := ⟨_, rfl⟩
  obtain ⟨of, hof⟩ : ∃ o : Obj, o = .cells #[.int .i64 f.c.kind, .int .i64 f.c.a, .int .i64 f.c.b, .int .i64 f.c.time, .int .i64 f.c.bk, .int .i64 f.c.slot, .int .i64 f.pl, .int .i64 f.cur, .int .i64 f.prev, .int .i64 f.slot, .int .i64 f.n, .slice aK f.keys.length cK, .bool f.done, .int .i64 f.e] 51 := ⟨_, rfl⟩
  have HE0 : Hid (Env w ((w.alloc om).alloc of) _ []) := ((⟨Below.refl _ _, (fun p hp => by cases hp), (fun p hp => by cases hp)⟩ : Env w w [] []).alloc om).alloc of
  rw [show (w.alloc om).heap.size = w.heap.size + 1 by simp] at HE0
  obtain ⟨C0, hC0⟩ : ∃ x, x = callE nS nH f.c := ⟨_, rfl⟩
  have HC0 : Hid (C0 = callE nS nH f.c) := hC0
  obtain ⟨E0, hE0⟩ : ∃ x, x = frE nS nH f := ⟨_, rfl⟩
  rw [← hE0]
  have HV0 : Hid (E0 = frE nS nH f) := hE0
  clear hC0 hE0
  have i0 : ∀ (a b c d e g : Value) w, (Instr.index 102 (.agg #[a, b, c, d, e, g]) (.int .i64 0)).run Try.prog w = .ok (.agg #[a, b, c]) w := fun _ _ _ _ _ _ _ => by kernel_rfl
  have i1 : ∀ (a b c d e g : Value) w, (Instr.index 102 (.agg #[a, b, c, d, e, g]) (.int .i64 1)).run Try.prog w = .ok (.agg #[d, e, g]) w := fun _ _ _ _ _ _ _ => by kernel_rfl
  have j0 : ∀ (a b c d e g h i j : Value) w, (Instr.index 103 (.agg #[a, b, c, d, e, g, h, i, j]) (.int .i64 0)).run Try.prog w = .ok (.agg #[a, b, c]) w := fun _ _ _ _ _ _ _ _ _ _ => by kernel_rfl
  have j1 : ∀ (a b c d e g h i j : Value) w, (Instr.index 103 (.agg #[a, b, c, d, e, g, h, i, j]) (.int .i64 1)).run Try.prog w = .ok (.agg #[d, e, g]) w := fun _ _ _ _ _ _ _ _ _ _ => by kernel_rfl
  have j2 : ∀ (a b c d e g h i j : Value) w, (Instr.index 103 (.agg #[a, b, c, d, e, g, h, i, j]) (.int .i64 2)).run Try.prog w = .ok (.agg #[h, i, j]) w := fun _ _ _ _ _ _ _ _ _ _ => by kernel_rfl
  go_enter Try.func26, Try.ntmps26
  go_wp2_with fail
  rw [← hom, ← hof]
  generalize (w.alloc om).alloc of = W0 at *
  subst hom hof
  refine (callE_at HC0.out aS aH aF aL nF nL cS cH cF cL now W0 (by omega) (by omega)).mono ?_
  rintro e w1 ⟨rfl, hb1⟩
  have HE1 : Hid _ := HE0.out.below hb1
  clear HE0 hb1
  by_cases hC : C0 = 0
  rotate_left
  · have h' : (C0 != 0) = true := by simpa using hC
    have HV : Hid (E0 = C0) := by rw [HV0.out, HC0.out]; exact frE_call (by rw [← HC0.out]; exact hC)
    go_wp2
    go_ret
    exact ⟨by rw [HV.out]; rfl, HE1.out.bl⟩
  subst hC
  have HC : Hid (callE nS nH f.c = 0) := HC0.out.symm
  clear HC0
  obtain ⟨f0, f1, f2, f3, f4, f5, f6, f7, f8, f9, f10, f11, f12, f13, -, fs⟩ := framef (HE1.out.box _ (.head _))
  obtain ⟨q0, q1, q2, q3, q4, -, -, -, -, -, qs⟩ := boxf (HE1.out.box _ (.tail _ (.head _)))
  go_wp2_with fail
  refine wp_loop_rounds 3 ?_
  rw [rounds_succ]
  go_wp2_with fail
  clear f0 f1 f2 f3 f4 f5 f6 f7 f8 f9 f10 f11 f12 f13 fs q0 q1 q2 q3 q4 qs
  have HX1 : Hid _ := HE1.out.alloc (.cells #[.int .i64 f.pl, .int .i64 0, .int .i64 9] 101)
  cases hA : inB f.pl 0 9
  · refine (holds_at hA _).mono ?_
    rintro e w2 ⟨rfl, hb2⟩
    have HE2 : Hid _ := HX1.out.below hb2
    have HV : Hid (E0 = 3) := HV0.out.trans (frE_three HC.out (.inl hA))
    clear HX1 hb2
    go_wp2
    go_ret
    exact ⟨by rw [HV.out]; rfl, HE2.out.bl⟩
  refine (holds_at hA _).mono ?_
  rintro e w2 ⟨rfl, hb2⟩
  have HE2 : Hid _ := HX1.out.below hb2
  have G1 : Hid (inB f.pl 0 9 = true) := hA
  clear HX1 hb2 hA
  go_wp2_with fail
  rw [rounds_succ]
  go_wp2_with fail
  have HX2 : Hid _ := HE2.out.alloc (.cells #[.int .i64 f.n, .int .i64 0, .int .i64 1000000] 101)
  cases hA : inB f.n 0 1000000
  · refine (holds_at hA _).mono ?_
    rintro e w3 ⟨rfl, hb3⟩
    have HE3 : Hid _ := HX2.out.below hb3
    have HV : Hid (E0 = 3) := HV0.out.trans (frE_three HC.out (.inr (.inl hA)))
    clear HX2 hb3
    go_wp2
    go_ret
    exact ⟨by rw [HV.out]; rfl, HE3.out.bl⟩
  refine (holds_at hA _).mono ?_
  rintro e w3 ⟨rfl, hb3⟩
  have HE3 : Hid _ := HX2.out.below hb3
  have G2 : Hid (inB f.n 0 1000000 = true) := hA
  clear HX2 hb3 hA
  go_wp2_with fail
  rw [rounds_succ]
  obtain ⟨f0, f1, f2, f3, f4, f5, f6, f7, f8, f9, f10, f11, f12, f13, -, fs⟩ := framef (HE3.out.box _ (.tail _ (.tail _ (.head _))))
  obtain ⟨q0, q1, q2, q3, q4, -, -, -, -, -, qs⟩ := boxf (HE3.out.box _ (.tail _ (.tail _ (.tail _ (.head _)))))
  cases hD : f.done
  rotate_left
  · have HV : Hid (E0 = 3) := HV0.out.trans (frE_three HC.out (.inr (.inr hD)))
    rw [hD] at f12
    go_wp2
    go_ret
    exact ⟨by rw [HV.out]; rfl, HE3.out.bl⟩
  rw [hD] at f12
  have HD : Hid (f.done = false) := hD
  clear hD
  go_wp2_with fail
  refine wp_loop_rounds 4 ?_
  rw [rounds_succ]
  go_wp2_with fail
  clear f0 f1 f2 f3 f4 f5 f6 f7 f8 f9 f10 f11 f12 f13 fs q0 q1 q2 q3 q4 qs
  have HX3 : Hid _ := HE3.out.alloc (.cells #[.int .i64 f.cur, .int .i64 (-(nH : Int)), .int .i64 nS] 101)
  cases hA : inB f.cur (-(nH : Int)) nS
  · refine (holds_at hA _).mono ?_
    rintro e w4 ⟨rfl, hb4⟩
    have HE4 : Hid _ := HX3.out.below hb4
    have HV : Hid (E0 = 5) := HV0.out.trans (frE_five HC.out G1.out G2.out HD.out (.inl hA))
    clear HX3 hb4
    go_wp2
    go_ret
    exact ⟨by rw [HV.out]; rfl, HE4.out.bl⟩
  refine (holds_at hA _).mono ?_
  rintro e w4 ⟨rfl, hb4⟩
  have HE4 : Hid _ := HX3.out.below hb4
  have G3 : Hid (inB f.cur (-(nH : Int)) nS = true) := hA
  clear HX3 hb4 hA
  go_wp2_with fail
  rw [rounds_succ]
  go_wp2_with fail
  have HX4 : Hid _ := HE4.out.alloc (.cells #[.int .i64 f.prev, .int .i64 0, .int .i64 nS] 101)
  cases hA : inB f.prev 0 nS
  · refine (holds_at hA _).mono ?_
    rintro e w5 ⟨rfl, hb5⟩
    have HE5 : Hid _ := HX4.out.below hb5
    have HV : Hid (E0 = 5) := HV0.out.trans (frE_five HC.out G1.out G2.out HD.out (.inr (.inl hA)))
    clear HX4 hb5
    go_wp2
    go_ret
    exact ⟨by rw [HV.out]; rfl, HE5.out.bl⟩
  refine (holds_at hA _).mono ?_
  rintro e w5 ⟨rfl, hb5⟩
  have HE5 : Hid _ := HX4.out.below hb5
  have G4 : Hid (inB f.prev 0 nS = true) := hA
  clear HX4 hb5 hA
  go_wp2_with fail
  rw [rounds_succ]
  go_wp2_with fail
  have HX5 : Hid _ := HE5.out.alloc (.cells #[.int .i64 f.slot, .int .i64 (-1), .int .i64 ((nS : Int) - 1)] 101)
  cases hA : inB f.slot (-1) ((nS : Int) - 1)
  · refine (holds_at hA _).mono ?_
    rintro e w6 ⟨rfl, hb6⟩
    have HE6 : Hid _ := HX5.out.below hb6
    have HV : Hid (E0 = 5) := HV0.out.trans (frE_five HC.out G1.out G2.out HD.out (.inr (.inr hA)))
    clear HX5 hb6
    go_wp2
    go_ret
    exact ⟨by rw [HV.out]; rfl, HE6.out.bl⟩
  refine (holds_at hA _).mono ?_
  rintro e w6 ⟨rfl, hb6⟩
  have HE6 : Hid _ := HX5.out.below hb6
  have G5 : Hid (inB f.slot (-1) ((nS : Int) - 1) = true) := hA
  clear HX5 hb6 hA
  go_wp2_with fail
  rw [rounds_succ]
  obtain ⟨f0, f1, f2, f3, f4, f5, f6, f7, f8, f9, f10, f11, f12, f13, -, fs⟩ := framef (HE6.out.box _ (.tail _ (.tail _ (.tail _ (.tail _ (.tail _ (.head _)))))))
  obtain ⟨q0, q1, q2, q3, q4, -, -, -, -, -, qs⟩ := boxf (HE6.out.box _ (.tail _ (.tail _ (.tail _ (.tail _ (.tail _ (.tail _ (.head _))))))))
  have HV : Hid (E0 = if 100 < f.keys.length then 2 else 0) := HV0.out.trans (frE_rest HC.out G1.out G2.out HD.out G3.out G4.out G5.out)
  by_cases hK : 100 < f.keys.length
  · rw [if_pos hK] at HV
    go_wp2
    go_ret
    exact ⟨by rw [HV.out]; rfl, HE6.out.bl⟩
  · rw [if_neg hK] at HV
    have hK' : f.keys.length ≤ 100 := by omega
    go_wp2
    go_ret
    exact ⟨by rw [HV.out]; rfl, HE6.out.bl⟩

set_option maxHeartbeats 6400000 in
theorem rfrCheck_any (aS aH aF aL : Option Addr) (nS nH nF nL cS cH cF cL : Nat) (now : Int) (f : Fr) (aK : Option Addr) (cK : Nat) (w : World) (hn : nS ≤ 9223372036854775000) (hh : nH ≤ 9223372036854775000) (hk : f.keys.length ≤ 9223372036854775807) :
    Calls Try.prog 27 #[.agg #[.slice aS nS cS, .slice aH nH cH, .slice aF nF cF, .slice aL nL cL, .int .i64 now], .agg #[.int .i64 f.c.kind, .int .i64 f.c.a, .int .i64 f.c.b, .int .i64 f.c.time, .int .i64 f.c.bk, .int .i64 f.c.slot, .int .i64 f.pl, .int .i64 f.cur, .int .i64 f.prev, .int .i64 f.slot, .int .i64 f.n, .slice aK f.keys.length cK, .bool f.done, .int .i64 f.e]] w fun e w' => e = .returned (.int .i64 (frE nS nH f)) ∧ Below w.heap.size w w' := by
  obtain ⟨om, hom⟩ : ∃ o : Obj, o = .cells #[.slice aS nS cS, .slice aH nH cH, .slice aF nF cF, .slice aL nL cL, .int .i64 now] 25 := ⟨_, rfl⟩
  obtain ⟨of, hof⟩ : ∃ o : Obj, o = .cells #[.int .i64 f.c.kind, .int .i64 f.c.a, .int .i64 f.c.b, .int .i64 f.c.time, .int .i64 f.c.bk, .int .i64 f.c.slot, .int .i64 f.pl, .int .i64 f.cur, .int .i64 f.prev, .int .i64 f.slot, .int .i64 f.n, .slice aK f.keys.length cK, .bool f.done, .int .i64 f.e] 51 := ⟨_, rfl⟩
  have HE0 : Hid (Env w ((w.alloc om).alloc of) _ []) := ((⟨Below.refl _ _, (fun p hp => by cases hp), (fun p hp => by cases hp)⟩ : Env w w [] []).alloc om).alloc of
  rw [show (w.alloc om).heap.size = w.heap.size + 1 by simp] at HE0
  obtain ⟨C0, hC0⟩ : ∃ x, x = callE nS nH f.c := ⟨_, rfl⟩
  have HC0 : Hid (C0 = callE nS nH f.c) := hC0
  obtain ⟨E0, hE0⟩ : ∃ x, x = frE nS nH f := ⟨_, rfl⟩
  rw [← hE0]
  have HV0 : Hid (E0 = frE nS nH f) := hE0
  clear hC0 hE0
  go_enter Try.func27, Try.ntmps27
  go_wp2_with fail
  rw [← hom, ← hof]
  generalize (w.alloc om).alloc of = W0 at *
  subst hom hof
  refine (rcallE_at HC0.out aS aH aF aL nF nL cS cH cF cL now W0 (by omega) (by omega)).mono ?_
  rintro e w1 ⟨rfl, hb1⟩
  have HE1 : Hid _ := HE0.out.below hb1
  clear HE0 hb1
  by_cases hC : C0 = 0
  rotate_left
  · have h' : (C0 != 0) = true := by simpa using hC
    have HV : Hid (E0 = C0) := by rw [HV0.out, HC0.out]; exact frE_call (by rw [← HC0.out]; exact hC)
    go_wp2
    go_ret
    exact ⟨by rw [HV.out]; rfl, HE1.out.bl⟩
  subst hC
  have HC : Hid (callE nS nH f.c = 0) := HC0.out.symm
  clear HC0
  obtain ⟨f0, f1, f2, f3, f4, f5, f6, f7, f8, f9, f10, f11, f12, f13, -, fs⟩ := framef (HE1.out.box _ (.head _))
  obtain ⟨q0, q1, q2, q3, q4, -, -, -, -, -, qs⟩ := boxf (HE1.out.box _ (.tail _ (.head _)))
  by_cases hx : f.pl < 0
  · have HV : Hid (E0 = 3) := HV0.out.trans (frE_three HC.out (.inl (by simp [inB]; omega)))
    go_wp2
    go_ret
    exact ⟨by rw [HV.out]; rfl, HE1.out.bl⟩
  have a0 : 0 ≤ f.pl := by omega
  clear hx
  by_cases hx : 9 < f.pl
  · have HV : Hid (E0 = 3) := HV0.out.trans (frE_three HC.out (.inl (by simp [inB]; omega)))
    go_wp2
    go_ret
    exact ⟨by rw [HV.out]; rfl, HE1.out.bl⟩
  have a1 : f.pl ≤ 9 := by omega
  clear hx
  by_cases hx : f.n < 0
  · have HV : Hid (E0 = 3) := HV0.out.trans (frE_three HC.out (.inr (.inl (by simp [inB]; omega))))
    go_wp2
    go_ret
    exact ⟨by rw [HV.out]; rfl, HE1.out.bl⟩
  have a2 : 0 ≤ f.n := by omega
  clear hx
  by_cases hx : 1000000 < f.n
  · have HV : Hid (E0 = 3) := HV0.out.trans (frE_three HC.out (.inr (.inl (by simp [inB]; omega))))
    go_wp2
    go_ret
    exact ⟨by rw [HV.out]; rfl, HE1.out.bl⟩
  have a3 : f.n ≤ 1000000 := by omega
  clear hx
  have g1 : Hid (inB f.pl 0 9 = true) := (inB_iff _ _ _).2 ⟨a0, a1⟩
  have g2 : Hid (inB f.n 0 1000000 = true) := (inB_iff _ _ _).2 ⟨a2, a3⟩
  cases hD : f.done
  rotate_left
  · have HV : Hid (E0 = 3) := HV0.out.trans (frE_three HC.out (.inr (.inr hD)))
    rw [hD] at f12
    go_wp2
    go_ret
    exact ⟨by rw [HV.out]; rfl, HE1.out.bl⟩
  rw [hD] at f12
  have HD : Hid (f.done = false) := hD
  clear hD
  by_cases hx : (nS : Int) < f.cur
  · have HV : Hid (E0 = 5) := HV0.out.trans (frE_five HC.out g1.out g2.out HD.out (.inl (by simp [inB]; omega)))
    go_wp2
    go_ret
    exact ⟨by rw [HV.out]; rfl, HE1.out.bl⟩
  have b0 : f.cur ≤ nS := by omega
  clear hx
  by_cases hx : f.cur < -(nH : Int)
  · have HV : Hid (E0 = 5) := HV0.out.trans (frE_five HC.out g1.out g2.out HD.out (.inl (by simp [inB]; omega)))
    go_wp2
    go_ret
    exact ⟨by rw [HV.out]; rfl, HE1.out.bl⟩
  have b1 : -(nH : Int) ≤ f.cur := by omega
  clear hx
  by_cases hx : f.prev < 0
  · have HV : Hid (E0 = 5) := HV0.out.trans (frE_five HC.out g1.out g2.out HD.out (.inr (.inl (by simp [inB]; omega))))
    go_wp2
    go_ret
    exact ⟨by rw [HV.out]; rfl, HE1.out.bl⟩
  have b2 : 0 ≤ f.prev := by omega
  clear hx
  by_cases hx : (nS : Int) < f.prev
  · have HV : Hid (E0 = 5) := HV0.out.trans (frE_five HC.out g1.out g2.out HD.out (.inr (.inl (by simp [inB]; omega))))
    go_wp2
    go_ret
    exact ⟨by rw [HV.out]; rfl, HE1.out.bl⟩
  have b3 : f.prev ≤ nS := by omega
  clear hx
  by_cases hx : f.slot < -1
  · have HV : Hid (E0 = 5) := HV0.out.trans (frE_five HC.out g1.out g2.out HD.out (.inr (.inr (by simp [inB]; omega))))
    go_wp2
    go_ret
    exact ⟨by rw [HV.out]; rfl, HE1.out.bl⟩
  have b4 : -1 ≤ f.slot := by omega
  clear hx
  by_cases hx : (nS : Int) ≤ f.slot
  · have HV : Hid (E0 = 5) := HV0.out.trans (frE_five HC.out g1.out g2.out HD.out (.inr (.inr (by simp [inB]; omega))))
    go_wp2
    go_ret
    exact ⟨by rw [HV.out]; rfl, HE1.out.bl⟩
  have b5 : f.slot < nS := by omega
  clear hx
  have HV : Hid (E0 = if 100 < f.keys.length then 2 else 0) := HV0.out.trans (frE_rest HC.out g1.out g2.out HD.out ((inB_iff _ _ _).2 ⟨b1, b0⟩) ((inB_iff _ _ _).2 ⟨b2, b3⟩) ((inB_iff _ _ _).2 ⟨b4, by omega⟩))
  by_cases hK : 100 < f.keys.length
  · rw [if_pos hK] at HV
    go_wp2
    go_ret
    exact ⟨by rw [HV.out]; rfl, HE1.out.bl⟩
  · rw [if_neg hK] at HV
    have hK' : f.keys.length ≤ 100 := by omega
    go_wp2
    go_ret
    exact ⟨by rw [HV.out]; rfl, HE1.out.bl⟩



end Go.Proofs.Ytdbilofhcadmoab.mm

/- The contract of New. -/
namespace Go.Proofs.Ytdbilofhcadmoab.mm
open Go.ChangeShapes Go.WideShapes Go.ChangeAt Go.RowKit Go.Joins
set_option linter.unusedVariables false

theorem new_bad (a b : Int) (w : World) (h : newE a b = 3) :
    Calls Try.prog 69 #[.int .i64 a, .int .i64 b] w fun e w' => e = .returned (.tuple #[.agg #[.slice none 0 0, .slice none 0 0, .slice none 0 0, .slice none 0 0, .int .i64 0], .int .i64 3]) ∧ Below w.heap.size w w' := by
  have hh : inB a 0 12 = false ∨ (inB a 0 12 = true ∧ inB b 1 4 = false) := by
    unfold newE at h
    cases h1 : inB a 0 12
    · exact .inl rfl
    · cases h2 : inB b 1 4
      · exact .inr ⟨rfl, rfl⟩
      · simp [h1, h2] at h
  clear h
  rcases hh with h1 | ⟨h1, h2⟩
  all_goals
    go_enter Try.func69, Try.ntmps69
    go_wp2_with (go_at_call 81; refine (within_any _ _ _ _).mono ?_; rintro e w1 ⟨rfl, rfl⟩)
    exact bodyPost_ret (v := .tuple #[.agg #[.slice none 0 0, .slice none 0 0, .slice none 0 0, .slice none 0 0, .int .i64 0], .int .i64 3]) (by simp [results, Try.results69, go_sem]) rfl ⟨rfl, one_below _ _⟩

def freeTo (n k : Nat) : List Int := (List.range k).map fun (a : Nat) => (n : Int) - 1 - (a : Int)
def headTo (k : Nat) : List Int := (List.range k).map fun (b : Nat) => -1 - (b : Int)
def lockTo (k : Nat) : List Int := List.replicate k (-1)
theorem freeTo_succ (n k : Nat) : freeTo n (k + 1) = freeTo n k ++ [(n : Int) - 1 - k] := by simp [freeTo, List.range_succ]
theorem headTo_succ (k : Nat) : headTo (k + 1) = headTo k ++ [-1 - (k : Int)] := by simp [headTo, List.range_succ]
theorem lockTo_succ (k : Nat) : lockTo (k + 1) = lockTo k ++ [-1] := by simp [lockTo, List.replicate_succ']
theorem freeTo_len (n k : Nat) : (freeTo n k).length = k := by simp [freeTo]
theorem headTo_len (k : Nat) : (headTo k).length = k := by simp [headTo]
theorem lockTo_len (k : Nat) : (lockTo k).length = k := by simp [lockTo]

theorem made_zero (n : Nat) : (madeCells #[.int .i64 0, .int .i64 0, .int .i64 0, .int .i64 0, .bool false, .int .i64 0] (n * 6)).toList = encS (List.replicate n sl0) := by
  apply List.ext_getElem?
  intro j
  by_cases hj : j < n * 6
  · have h6 : j / 6 < n := by omega
    have hq : j % 6 < 6 := by omega
    have e6 : j / 6 * 6 + j % 6 = j := by omega
    have r : (encS (List.replicate n sl0))[j]? = (sl0.enc)[j % 6]? := by
      have := encS_get (List.replicate n sl0) (j / 6) (j % 6) (by simpa using h6) hq
      rw [e6] at this
      rw [this]
      simp
    rw [r]
    have l : (madeCells #[.int .i64 0, .int .i64 0, .int .i64 0, .int .i64 0, .bool false, .int .i64 0] (n * 6)).toList[j]? = some ((#[.int .i64 0, .int .i64 0, .int .i64 0, .int .i64 0, .bool false, .int .i64 0] : Array Value)[j % 6]!) := by
      simp [madeCells, hj]
    rw [l]
    generalize j % 6 = q at hq
    match q, hq with
    | 0, _ => rfl
    | 1, _ => rfl
    | 2, _ => rfl
    | 3, _ => rfl
    | 4, _ => rfl
    | 5, _ => rfl
  · rw [List.getElem?_eq_none (by simp [madeCells]; omega), List.getElem?_eq_none (by rw [encS_len]; simp; omega)]

theorem Ans.off {lo g : Nat} {w w' : World} {v : Value} {M : Mm} (A : Ans lo w v M) (hg : g < lo) (h : ∀ k, k ≠ g → w'.heap[k]? = w.heap[k]?) : Ans lo w' v M := by
  obtain ⟨aS, aH, aF, aL, cS, cH, cF, cL, e, A, hi⟩ := A
  exact ⟨aS, aH, aF, aL, cS, cH, cF, cL, e, A.off hi hg h, hi⟩

set_option maxHeartbeats 3200000 in
theorem new_ok (n m : Nat) (w : World) (hn : n ≤ 12) (h1 : 1 ≤ m) (h4 : m ≤ 4) :
    Calls Try.prog 69 #[.int .i64 n, .int .i64 m] w fun e w' => ∃ v, e = .returned (.tuple #[v, .int .i64 0]) ∧ Ans w.heap.size w' v (newM n m) ∧ Below w.heap.size w w' := by
  obtain ⟨i0, hi, hz0, hz1, hz2⟩ := info_parts iI
  obtain ⟨j0, hj, yz0, yz1, yz2⟩ := info_parts iS
  have e1 : inB (n : Int) 0 12 = true := (inB_iff _ _ _).2 ⟨by omega, by omega⟩
  have e2 : inB (m : Int) 1 4 = true := (inB_iff _ _ _).2 ⟨by omega, by omega⟩
  go_enter Try.func69, Try.ntmps69
  go_wp2_with (first
    | (go_at_call 81; refine (within_any _ _ _ _).mono ?_; rintro e w1 ⟨rfl, rfl⟩)
    | (at_make; refine wpList_make_full _ rfl _ _ 22 rfl (w.heap.size + 1) 39 j0 (.agg #[.int .i64 0, .int .i64 0, .int .i64 0, .int .i64 0, .bool false, .int .i64 0]) 6 Try.underlying22 hj yz0 yz1 .i64 .i64 _ _ n rfl rfl rfl rfl (by rw [yz2]; omega) (by unfold maxLen; omega) (by simp) ?_; intro w1 hown hgrow))
  rw [show (w.alloc (.cells #[.slice none 0 0, .slice none 0 0, .slice none 0 0, .slice none 0 0, .int .i64 0] 25)).heap.size = w.heap.size + 1 by simp] at *
  obtain ⟨W0, hW0⟩ : ∃ W0, W0 = w.alloc (.cells #[.slice none 0 0, .slice none 0 0, .slice none 0 0, .slice none 0 0, .int .i64 0] 25) := ⟨_, rfl⟩
  have HR : Hid (W0.heap[w.heap.size]? = some (.cells #[.slice none 0 0, .slice none 0 0, .slice none 0 0, .slice none 0 0, .int .i64 0] 25)) := by rw [hW0]; exact heap_alloc_new _ _
  have HW : Hid (Below w.heap.size w W0) := by rw [hW0]; exact one_below _ _
  have HZ : Hid (W0.heap.size = w.heap.size + 1) := by show _ = _; rw [hW0]; simp
  rw [← hW0] at hgrow
  clear hW0
  have hS : w1.ownsRow (w.heap.size + 1) 39 6 (.slice (some ⟨w.heap.size + 1, 0, none⟩) n n) n (encS (List.replicate n sl0)) := by
    rw [← made_zero n]; exact hown
  have z1 : w.heap.size + 1 < w1.heap.size := (hS.lt _ rfl).2
  have G0 : Gr W0 (w.heap.size + 1) w1.heap.size (w1.alloc (.cells #[.slice (some ⟨w.heap.size + 1, 0, none⟩) n n, .slice none 0 0, .slice none 0 0, .slice none 0 0, .int .i64 0] 25)) (.slice (some ⟨w.heap.size + 1, 0, none⟩) n n) (.slice none 0 0) (.slice none 0 0) (.slice none 0 0) (List.replicate n sl0) [] [] [] := by
    refine ⟨heap_alloc_new _ _, ?_, World.ownsRow_nil _ _ _ _, World.ownsRow_nil _ _ _ _, World.ownsRow_nil _ _ _ _, (fun g h => by cases h), (fun g h => by cases h), (fun g h => by cases h), by omega, ?_⟩
    · rw [List.length_replicate]; exact hS.alloc _
    · exact ((Below.refl _ W0).grown hgrow (by rw [HZ.out]; exact Nat.le_refl _) (fun k h => by cases h)).alloc (by omega) _
  clear hown hgrow hS
  go_loopw [22] (fun i wr => ∃ k : Nat, k ≤ n ∧ i = .int .i64 k ∧ ∃ fv, Gr W0 (w.heap.size + 1) w1.heap.size wr (.slice (some ⟨w.heap.size + 1, 0, none⟩) n n) (.slice none 0 0) fv (.slice none 0 0) (List.replicate n sl0) [] (freeTo n k) [])
    (fun i _ => n - (intOf i).toNat)
  case atStart => exact ⟨0, Nat.zero_le _, rfl, _, G0⟩
  case round =>
    obtain ⟨k, hk, rfl, fv, G⟩ := hrel
    clear G0
    obtain ⟨ao, cap, rfl⟩ := own_shape G.f
    rw [freeTo_len] at G
    obtain ⟨q0, q1, q2, q3, q4, f0, f1, f2, f3, f4, qs⟩ := boxf G.box
    by_cases hlt : k < n
    · have hne : ∀ b : Nat, b < w1.heap.size → True := fun _ _ => trivial
      go_wp2_with (at_builtin; refine wpList_append_own_at _ rfl (.tmp 26) (.tmp 31) 23 rfl (w.heap.size + 1) 3 i0 (.int .i64 0) 1 8 Try.underlying23 hi hz0 hz1 hz2 rfl (by decide) _ _ _ rfl (G.f.alloc _) ⟨wr.heap.size, 0, none⟩ 1 1 [.int .i64 ((n : Int) - 1 - (k : Int))] rfl rfl (one_new _ _ _ _ rfl) (by intro u hu; simp at hu; subst hu; rfl) (by rw [freeTo_len]; unfold maxLen; omega) (by rw [freeTo_len]; omega) (by simp; omega) ?_; intro v2 w2 ho2 hg2 _ hloc2; obtain ⟨g2, cap2, rfl⟩ := ownsRow_form ho2 (by omega); have HO2 : Hid (w2.ownsRow (w.heap.size + 1) 3 1 _ ((freeTo n k).length + 1) (encI (freeTo n k) ++ [.int .i64 ((n : Int) - 1 - (k : Int))])) := ho2; have HG2 : Hid ((wr.alloc (.cells #[.int .i64 ((n : Int) - 1 - (k : Int))] 3)).grownBy w2 (Value.slice ao k cap).ownBlock) := ⟨hg2.1, hg2.2, hg2.3, hg2.4, hg2.5⟩; have HL2 : Hid ((Value.slice (some ⟨g2, 0, none⟩) ((freeTo n k).length + 1) cap2).ownBlock = (Value.slice ao k cap).ownBlock ∨ (Value.slice (some ⟨g2, 0, none⟩) ((freeTo n k).length + 1) cap2).ownBlock = some (wr.alloc (.cells #[.int .i64 ((n : Int) - 1 - (k : Int))] 3)).heap.size) := hloc2; clear ho2 hg2 hloc2 q0 q1 q2 q3 q4 f0 f1 f2 f3 f4; obtain ⟨q0, q1, q2, q3, q4, f0, f1, f2, f3, f4, qs2⟩ := boxf (box_kept G.box HG2.out (own_ne G.f G.box (by decide))))
      go_roundw
      case rel => exact ⟨k + 1, by omega, by go_num, _, by rw [freeTo_succ]; exact G.f_step HO2.out HG2.out HL2.out⟩
      case measure => simp [intOf]; omega
    · obtain rfl : k = n := by omega
      go_wp2
      go_loopw [36] (fun i wr => ∃ j : Nat, j ≤ m ∧ i = .int .i64 j ∧ ∃ hv lv, Gr W0 (w.heap.size + 1) w1.heap.size wr (.slice (some ⟨w.heap.size + 1, 0, none⟩) k k) hv (.slice ao k cap) lv (List.replicate k sl0) (headTo j) (freeTo k k) (lockTo j))
        (fun i _ => m - (intOf i).toNat)
      case atStart => exact ⟨0, Nat.zero_le _, rfl, _, _, G⟩
      case round =>
        obtain ⟨j, hj, rfl, hv, lv, G2⟩ := hrel
        clear G q0 q1 q2 q3 q4 f0 f1 f2 f3 f4 qs
        obtain ⟨aH, cH, rfl⟩ := own_shape G2.h
        obtain ⟨aL, cL, rfl⟩ := own_shape G2.l
        rw [headTo_len, lockTo_len] at G2
        obtain ⟨q0, q1, q2, q3, q4, f0, f1, f2, f3, f4, qs⟩ := boxf G2.box
        by_cases hlt2 : j < m
        · have HOX : ((wr.alloc (.cells #[.int .i64 (-1 - (j : Int))] 3)).drew).ownsRow (w.heap.size + 1) 3 1 (.slice aH j cH) (headTo j).length (encI (headTo j)) := (G2.h.alloc (.cells #[.int .i64 (-1 - (j : Int))] 3) : (wr.alloc (.cells #[.int .i64 (-1 - (j : Int))] 3)).ownsRow (w.heap.size + 1) 3 1 (.slice aH j cH) (headTo j).length (encI (headTo j)))
          have HCX : ∀ q u, [Value.int .i64 (-1 - (j : Int))][q]? = some u → ((wr.alloc (.cells #[.int .i64 (-1 - (j : Int))] 3)).drew).cell? ((⟨wr.heap.size, 0, none⟩ : Addr).add q) = some u := fun q u h => cell_one_new wr (.int .i64 (-1 - (j : Int))) 3 q u h
          have G2' : Gr W0 (w.heap.size + 1) w1.heap.size wr.drew (.slice (some ⟨w.heap.size + 1, 0, none⟩) k k) (.slice aH j cH) (.slice ao k cap) (.slice aL j cL) (List.replicate k sl0) (headTo j) (freeTo k k) (lockTo j) := ⟨G2.box, G2.s, G2.h, G2.f, G2.l, G2.hf, G2.hl, G2.fl, G2.at_, G2.below.drew⟩
          go_wp2_with fail
          go_region_law (first
            | (go_simp; go_at_call 139; refine (toEnd_any _ _ (by omega) (by omega)).mono ?_; rintro e wq ⟨rfl, rfl⟩)
            | (refine step_append_own_at _ rfl (.tmp 40) (.tmp 43) 23 rfl (w.heap.size + 1) 3 i0 (.int .i64 0) 1 8 Try.underlying23 hi hz0 hz1 hz2 rfl (by decide) (.slice aH j cH) _ _ rfl HOX ⟨wr.heap.size, 0, none⟩ 1 1 [.int .i64 (-1 - (j : Int))] rfl rfl HCX (by intro u hu; simp at hu; subst hu; rfl) (by rw [headTo_len]; unfold maxLen; omega) (by rw [headTo_len]; omega) (by simp; omega) ?_; intro v2 w2 ho2 hg2 _ hloc2; obtain ⟨g2, cap2, rfl⟩ := ownsRow_form ho2 (by omega); have HG2 : Hid ((wr.alloc (.cells #[.int .i64 (-1 - (j : Int))] 3)).grownBy w2 (Value.slice aH j cH).ownBlock) := ⟨hg2.1, hg2.2, hg2.3, hg2.4, hg2.5⟩; have G3 := G2.h_step (x := -1 - (j : Int)) ho2 HG2.out hloc2; clear ho2 hg2 hloc2 q0 q1 q2 q3 q4 f0 f1 f2 f3 f4; obtain ⟨q0, q1, q2, q3, q4, f0, f1, f2, f3, f4, qs2⟩ := boxf (box_kept G2.box HG2.out (own_ne G2.h G2.box (by decide))); have z2 : w1.heap.size < w2.heap.size := qs2))
          all_goals go_wp2_with (at_builtin; refine wpList_append_own_at _ rfl (.tmp 47) (.tmp 48) 23 rfl (w.heap.size + 1) 3 i0 (.int .i64 0) 1 8 Try.underlying23 hi hz0 hz1 hz2 rfl (by decide) _ _ _ rfl (G3.l.alloc _) ⟨w2.heap.size, 0, none⟩ 1 1 [.int .i64 (-1)] rfl rfl (one_new _ _ _ _ (World.size_setCell ..).symm) (by intro u hu; simp at hu; subst hu; rfl) (by rw [lockTo_len]; unfold maxLen; omega) (by rw [lockTo_len]; omega) (by simp; omega) ?_; intro v3 w3 ho3 hg3 _ hloc3; obtain ⟨g3, cap3, rfl⟩ := ownsRow_form ho3 (by omega); have HG3 : Hid (((w2.setCell ⟨w1.heap.size, 1, none⟩ (.slice (some ⟨g2, 0, none⟩) ((headTo j).length + 1) cap2)).alloc (.cells #[.int .i64 (-1)] 3)).grownBy w3 (Value.slice aL j cL).ownBlock) := hg3; have G4 := G3.l_step (x := -1) ho3 HG3.out hloc3; clear ho3 hg3 hloc3 q0 q1 q2 q3 q4 f0 f1 f2 f3 f4; obtain ⟨q0, q1, q2, q3, q4, f0, f1, f2, f3, f4, qs3⟩ := boxf (box_kept G3.box HG3.out (own_ne G3.l G3.box (by decide))))
          all_goals (go_roundw; (case rel => exact ⟨j + 1, by omega, by go_num, _, _, by rw [headTo_succ, lockTo_succ]; exact G4⟩); (case measure => simp [intOf]; omega))
        · obtain rfl : j = m := by omega
          have HR2 : Hid (wr.heap[w.heap.size]? = _) := (G2.below.block w.heap.size (by omega)).trans HR.out
          obtain ⟨r0, r1, r2, r3, r4, g0, g1, g2, g3, g4, rs⟩ := boxf HR2.out
          have A := G2.ans (by simp; omega) (by rw [headTo_len]; omega) (by rw [freeTo_len]; omega) (by rw [lockTo_len]; omega)
          have HA : Hid (Ans (w.heap.size + 1) wr _ _) := A
          have HB : Hid (Below w.heap.size w wr) := HW.out.trans (G2.below.mono (by omega))
          clear A G2
          go_wp2
          refine bodyPost_ret (v := .tuple #[.agg #[.slice (some ⟨w.heap.size + 1, 0, none⟩) k k, .slice aH j cH, .slice ao k cap, .slice aL j cL, .int .i64 0], .int .i64 0]) (by simp [results, Try.results69, go_sem, r0, r1, r2, r3, r4]) rfl ⟨_, rfl, ?_, ?_⟩
          · exact (HA.out.off (by omega) (fun k hk => set5_other (w := wr) hk)).mono (by omega)
          · exact HB.out.trans (set5_below wr _ _ _ _ _ _ _ (by omega))



end Go.Proofs.Ytdbilofhcadmoab.mm

/- The closed fact filled: it holds in every world. -/
namespace Go.Proofs.Ytdbilofhcadmoab.mm
open Go.ChangeShapes Go.WideShapes Go.ChangeAt Go.RowKit Go.Joins
set_option linter.unusedVariables false

theorem kequal (a b c d : Int) (w : World) : (Op.equalIn 10000 37 (.agg #[.int .i64 a, .int .i64 b]) (.agg #[.int .i64 c, .int .i64 d])).run Try.prog w = .ok (a == c && b == d) w := by
  have u3 := Try.underlying3
  have a3 := Try.isAgg3
  have z3 := Try.sizeOf3
  have hS : Try.prog.underlying 37 = some (.struct (Try.prog.fieldsOf 37)) := by kernel_rfl
  have hp : Try.prog.stoodInHeld 37 = false := by kernel_rfl
  rw [show (10000 : Nat) = 9999 + 1 from rfl, run_equalIn_agg w 9999 37 _ _ hS hp]
  simp only [Program.fieldsOf, Try.underlying37]
  go_simp
  by_cases h1 : a = c <;> by_cases h2 : b = d <;> simp [h1, h2]

theorem taken_at {M M' : Mm} {N0 E0 : Int} {ka kb u : Int} (hM : takenM M ka kb u = M') (hN : takenN M ka kb u = N0) (hE : takenE M ka kb u = E0) (v : Value) (w : World) (lo : Nat) (A : Ans lo w v M) :
    Calls Try.prog 70 #[v, .agg #[.int .i64 ka, .int .i64 kb], .int .i64 u] w fun e w' => ∃ v, e = .returned (.tuple #[v, .int .i64 N0, .int .i64 E0]) ∧ Ans w.heap.size w' v M' ∧ Below w.heap.size w w' := by
  subst hM hN hE
  exact taken_any M v ka kb u w lo A
theorem let_at {M M' : Mm} {E0 : Int} {i : Int} (hM : letM M i = M') (hE : letE M i = E0) (v : Value) (w : World) (lo : Nat) (A : Ans lo w v M) :
    Calls Try.prog 47 #[v, .int .i64 i] w fun e w' => ∃ v, e = .returned (.tuple #[v, .int .i64 E0]) ∧ Ans w.heap.size w' v M' ∧ Below w.heap.size w w' := by
  subst hM hE
  exact let_any M v i w lo A

def fM1 : Mm := newM 2 1
def fM2 : Mm := takenM fM1 1 0 5
def fM3 : Mm := takenM fM2 2 0 5
def fM4 : Mm := takenM fM3 3 0 5
def fM5 : Mm := letM fM3 1
def fM6 : Mm := takenM fM5 4 0 6
theorem g2 : takenM fM1 1 0 5 = fM2 := rfl
theorem g3 : takenM fM2 2 0 5 = fM3 := rfl
theorem g4 : takenM fM3 3 0 5 = fM4 := rfl
theorem g5 : letM fM3 1 = fM5 := rfl
theorem g6 : takenM fM5 4 0 6 = fM6 := rfl
theorem f2 : takenN fM1 1 0 5 = 0 ∧ takenE fM1 1 0 5 = 0 := by decide
theorem f3 : takenN fM2 2 0 5 = 1 ∧ takenE fM2 2 0 5 = 0 := by decide
theorem f4 : takenN fM3 3 0 5 = 0 ∧ takenE fM3 3 0 5 = 7 := by decide
theorem f5 : letE fM3 1 = 0 := by decide
theorem f6 : takenN fM5 4 0 6 = 1 ∧ takenE fM5 4 0 6 = 0 := by decide
theorem f6s : fM6.slots.length = 2 ∧ (fM6.slots.getD 1 sl0).a = 4 ∧ (fM6.slots.getD 1 sl0).b = 0 := by decide

theorem new21 (w : World) : Calls Try.prog 69 #[.int .i64 2, .int .i64 1] w fun e w' => ∃ v, e = .returned (.tuple #[v, .int .i64 0]) ∧ Ans w.heap.size w' v fM1 ∧ Below w.heap.size w w' := new_ok 2 1 w (by decide) (by decide) (by decide)



end Go.Proofs.Ytdbilofhcadmoab.mm
