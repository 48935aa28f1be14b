/- FrameTells' walk: for every memory, call, frame and error it answers true. -/
import Derived.Test.YtdbilofhcadmoabC31
import Derived.Test.YtdbilofhcadmoabF01
namespace Go.Proofs.Ytdbilofhcadmoab.mm
open Go.ChangeShapes Go.WideShapes Go.ChangeAt Go.RowKit Go.Joins Go.Maps
set_option maxRecDepth 100000
set_option linter.unusedVariables false

theorem rfrCheck_at {nS nH : Nat} {f : Fr} {E : Int} (h : E = frE nS nH f) (aS aH aF aL : Option Addr) (nF nL cS cH cF cL : Nat) (now : Int) (aK : Option Addr) (cK : Nat) (w : World) (hn : nS ≤ 9223372036854775000) (hh : nH ≤ 9223372036854775000) (hk : f.keys.length ≤ 9223372036854775807) :
    Calls Try.prog 27 #[.agg #[.slice aS nS cS, .slice aH nH cH, .slice aF nF cF, .slice aL nL cL, .int .i64 now], .agg #[.int .i64 f.c.kind, .int .i64 f.c.a, .int .i64 f.c.b, .int .i64 f.c.time, .int .i64 f.c.bk, .int .i64 f.c.slot, .int .i64 f.pl, .int .i64 f.cur, .int .i64 f.prev, .int .i64 f.slot, .int .i64 f.n, .slice aK f.keys.length cK, .bool f.done, .int .i64 f.e]] w fun e w' => e = .returned (.int .i64 E) ∧ Below w.heap.size w w' := by
  subst h; exact rfrCheck_any aS aH aF aL nS nH nF nL cS cH cF cL now f aK cK w hn hh hk
theorem frBucket_at {nH : Nat} {c : Cl} {E : Int} (h : E = bkOf nH c) (aS aH aF aL : Option Addr) (nS nF nL cS cH cF cL : Nat) (now : Int) (w : World) (hh : nH ≤ 9223372036854775807) :
    Calls Try.prog 31 #[.agg #[.slice aS nS cS, .slice aH nH cH, .slice aF nF cF, .slice aL nL cL, .int .i64 now], .agg #[.int .i64 c.kind, .int .i64 c.a, .int .i64 c.b, .int .i64 c.time, .int .i64 c.bk, .int .i64 c.slot]] w fun e w' => e = .returned (.int .i64 E) ∧ Below w.heap.size w w' := by
  subst h; exact frBucket_any aS aH aF aL nS nH nF nL cS cH cF cL now c w hh
theorem chainFor_at {nH : Nat} {c : Cl} {E : Int} (h : E = bkOf nH c) (aS aH aF aL : Option Addr) (nS nF nL cS cH cF cL : Nat) (now : Int) (w : World) (hh : nH ≤ 9223372036854775807) :
    Calls Try.prog 32 #[.agg #[.slice aS nS cS, .slice aH nH cH, .slice aF nF cF, .slice aL nL cL, .int .i64 now], .agg #[.int .i64 c.kind, .int .i64 c.a, .int .i64 c.b, .int .i64 c.time, .int .i64 c.bk, .int .i64 c.slot]] w fun e w' => e = .returned (.int .i64 E) ∧ Below w.heap.size w w' := by
  subst h; exact chainFor_any aS aH aF aL nS nH nF nL cS cH cF cL now c w hh

def actF (x : Nat → Value) : Act := ⟨#[x 0, x 1, x 2, x 3, x 4, x 5, x 6, x 7, x 8, x 9, x 10, x 11, x 12, x 13, x 14, x 15, x 16, x 17, x 18, x 19, x 20, x 21, x 22, x 23, x 24, x 25, x 26, x 27, x 28, x 29, x 30, x 31, x 32, x 33, x 34, x 35, x 36, x 37, x 38, x 39, x 40, x 41, x 42, x 43, x 44, x 45, x 46, x 47, x 48, x 49, x 50, x 51, x 52, x 53, x 54, x 55], []⟩
/- What each operation yields. -/
def valF (M : Mm) (aS aH aF aL : Option Addr) (cS cH cF cL : Nat) (c : Cl) (f : Fr) (aK : Option Addr) (cK : Nat) (e0 EC EF BK : Int) : Nat → Value
  | 2 => .agg #[.slice aS M.slots.length cS, .slice aH M.heads.length cH, .slice aF M.free.length cF, .slice aL M.locks.length cL, .int .i64 M.now]
  | 3 => .agg #[.int .i64 c.kind, .int .i64 c.a, .int .i64 c.b, .int .i64 c.time, .int .i64 c.bk, .int .i64 c.slot]
  | 4 => .int .i64 EC
  | 5 => .agg #[.slice aS M.slots.length cS, .slice aH M.heads.length cH, .slice aF M.free.length cF, .slice aL M.locks.length cL, .int .i64 M.now]
  | 6 => .agg #[.int .i64 c.kind, .int .i64 c.a, .int .i64 c.b, .int .i64 c.time, .int .i64 c.bk, .int .i64 c.slot]
  | 7 => .int .i64 EC
  | 11 => .agg #[.slice aS M.slots.length cS, .slice aH M.heads.length cH, .slice aF M.free.length cF, .slice aL M.locks.length cL, .int .i64 M.now]
  | 12 => .agg #[.int .i64 f.c.kind, .int .i64 f.c.a, .int .i64 f.c.b, .int .i64 f.c.time, .int .i64 f.c.bk, .int .i64 f.c.slot, .int .i64 f.pl, .int .i64 f.cur, .int .i64 f.prev, .int .i64 f.slot, .int .i64 f.n, .slice aK f.keys.length cK, .bool f.done, .int .i64 f.e]
  | 13 => .int .i64 EF
  | 14 => .agg #[.slice aS M.slots.length cS, .slice aH M.heads.length cH, .slice aF M.free.length cF, .slice aL M.locks.length cL, .int .i64 M.now]
  | 15 => .agg #[.int .i64 f.c.kind, .int .i64 f.c.a, .int .i64 f.c.b, .int .i64 f.c.time, .int .i64 f.c.bk, .int .i64 f.c.slot, .int .i64 f.pl, .int .i64 f.cur, .int .i64 f.prev, .int .i64 f.slot, .int .i64 f.n, .slice aK f.keys.length cK, .bool f.done, .int .i64 f.e]
  | 16 => .int .i64 EF
  | 20 => .agg #[.int .i64 c.kind, .int .i64 c.a, .int .i64 c.b, .int .i64 c.time, .int .i64 c.bk, .int .i64 c.slot]
  | 21 => .agg #[.int .i64 (newF c).c.kind, .int .i64 (newF c).c.a, .int .i64 (newF c).c.b, .int .i64 (newF c).c.time, .int .i64 (newF c).c.bk, .int .i64 (newF c).c.slot, .int .i64 (newF c).pl, .int .i64 (newF c).cur, .int .i64 (newF c).prev, .int .i64 (newF c).slot, .int .i64 (newF c).n, .slice none (newF c).keys.length 0, .bool (newF c).done, .int .i64 (newF c).e]
  | 22 => .agg #[.int .i64 c.kind, .int .i64 c.a, .int .i64 c.b, .int .i64 c.time, .int .i64 c.bk, .int .i64 c.slot]
  | 23 => .agg #[.int .i64 (newF c).c.kind, .int .i64 (newF c).c.a, .int .i64 (newF c).c.b, .int .i64 (newF c).c.time, .int .i64 (newF c).c.bk, .int .i64 (newF c).c.slot, .int .i64 (newF c).pl, .int .i64 (newF c).cur, .int .i64 (newF c).prev, .int .i64 (newF c).slot, .int .i64 (newF c).n, .slice none (newF c).keys.length 0, .bool (newF c).done, .int .i64 (newF c).e]
  | 27 => .agg #[.int .i64 f.c.kind, .int .i64 f.c.a, .int .i64 f.c.b, .int .i64 f.c.time, .int .i64 f.c.bk, .int .i64 f.c.slot, .int .i64 f.pl, .int .i64 f.cur, .int .i64 f.prev, .int .i64 f.slot, .int .i64 f.n, .slice aK f.keys.length cK, .bool f.done, .int .i64 f.e]
  | 28 => .int .i64 e0
  | 30 => .agg #[.int .i64 f.c.kind, .int .i64 f.c.a, .int .i64 f.c.b, .int .i64 f.c.time, .int .i64 f.c.bk, .int .i64 f.c.slot, .int .i64 f.pl, .int .i64 f.cur, .int .i64 f.prev, .int .i64 f.slot, .int .i64 f.n, .slice aK f.keys.length cK, .bool true, .int .i64 e0]
  | 34 => .agg #[.slice aS M.slots.length cS, .slice aH M.heads.length cH, .slice aF M.free.length cF, .slice aL M.locks.length cL, .int .i64 M.now]
  | 35 => .agg #[.int .i64 c.kind, .int .i64 c.a, .int .i64 c.b, .int .i64 c.time, .int .i64 c.bk, .int .i64 c.slot]
  | 36 => .int .i64 BK
  | 37 => .agg #[.slice aS M.slots.length cS, .slice aH M.heads.length cH, .slice aF M.free.length cF, .slice aL M.locks.length cL, .int .i64 M.now]
  | 38 => .agg #[.int .i64 c.kind, .int .i64 c.a, .int .i64 c.b, .int .i64 c.time, .int .i64 c.bk, .int .i64 c.slot]
  | 39 => .int .i64 BK
  | _ => .bool true
def phiF (M : Mm) (aS aH aF aL : Option Addr) (cS cH cF cL : Nat) (c : Cl) (f : Fr) (aK : Option Addr) (cK : Nat) (e0 EC EF BK : Int) (i : Nat) (v : Value) (W : World) : Prop :=
  (i ≠ 29 → v = valF M aS aH aF aL cS cH cF cL c f aK cK e0 EC EF BK i) ∧ (i = 29 → ∃ a k, v = .agg #[.int .i64 (endF f e0).c.kind, .int .i64 (endF f e0).c.a, .int .i64 (endF f e0).c.b, .int .i64 (endF f e0).c.time, .int .i64 (endF f e0).c.bk, .int .i64 (endF f e0).c.slot, .int .i64 (endF f e0).pl, .int .i64 (endF f e0).cur, .int .i64 (endF f e0).prev, .int .i64 (endF f e0).slot, .int .i64 (endF f e0).n, .slice a (endF f e0).keys.length k, .bool (endF f e0).done, .int .i64 (endF f e0).e] ∧ KRow W a k (endF f e0).keys)
theorem phiF_mono {M : Mm} {aS aH aF aL : Option Addr} {cS cH cF cL : Nat} {c : Cl} {f : Fr} {aK : Option Addr} {cK : Nat} {e0 EC EF BK : Int} : ∀ i v w w', phiF M aS aH aF aL cS cH cF cL c f aK cK e0 EC EF BK i v w → Below w.heap.size w w' → phiF M aS aH aF aL cS cH cF cL c f aK cK e0 EC EF BK i v w' := by
  rintro i v w w' ⟨h1, h2⟩ hb
  refine ⟨h1, fun h => ?_⟩
  obtain ⟨a, k, e, r⟩ := h2 h
  exact ⟨a, k, e, r.below hb⟩

set_option maxHeartbeats 12800000 in
theorem frtells_any (M : Mm) (v : Value) (c : Cl) (f : Fr) (aK : Option Addr) (cK : Nat) (e0 : Int) (w : World) (A0 : Ans 0 w v M) (rK : KRow w aK cK f.keys) :
    Calls Try.prog 4 #[v, .agg #[.int .i64 c.kind, .int .i64 c.a, .int .i64 c.b, .int .i64 c.time, .int .i64 c.bk, .int .i64 c.slot], .agg #[.int .i64 f.c.kind, .int .i64 f.c.a, .int .i64 f.c.b, .int .i64 f.c.time, .int .i64 f.c.bk, .int .i64 f.c.slot, .int .i64 f.pl, .int .i64 f.cur, .int .i64 f.prev, .int .i64 f.slot, .int .i64 f.n, .slice aK f.keys.length cK, .bool f.done, .int .i64 f.e], .int .i64 e0] w fun e w' => e = .returned (.bool true) ∧ Below w.heap.size w w' := by
  obtain ⟨aS, aH, aF, aL, cS, cH, cF, cL, rfl⟩ := A0.form
  have m1 := A0.at_.s.max; have m2 := A0.at_.h.max
  have hnS : M.slots.length ≤ 9223372036854775000 := by omega
  have hnH : M.heads.length ≤ 9223372036854775000 := by omega
  have m3 := rK.max
  have hkf : f.keys.length ≤ 9223372036854775807 := by omega
  obtain ⟨EC, hEC⟩ : ∃ x, x = callE M.slots.length M.heads.length c := ⟨_, rfl⟩
  obtain ⟨EF, hEF⟩ : ∃ x, x = frE M.slots.length M.heads.length f := ⟨_, rfl⟩
  obtain ⟨BK, hBK⟩ : ∃ x, x = bkOf M.heads.length c := ⟨_, rfl⟩
  have HC : Hid (EC = callE M.slots.length M.heads.length c) := hEC
  have HF : Hid (EF = frE M.slots.length M.heads.length f) := hEF
  have HK : Hid (BK = bkOf M.heads.length c) := hBK
  have HR : Hid (KRow w aK cK f.keys) := rK
  clear hEC hEF hBK rK m3
  obtain ⟨om, hom⟩ : ∃ o : Obj, o = .cells #[.slice aS M.slots.length cS, .slice aH M.heads.length cH, .slice aF M.free.length cF, .slice aL M.locks.length cL, .int .i64 M.now] 25 := ⟨_, rfl⟩
  obtain ⟨oc, hoc⟩ : ∃ o : Obj, o = .cells #[.int .i64 c.kind, .int .i64 c.a, .int .i64 c.b, .int .i64 c.time, .int .i64 c.bk, .int .i64 c.slot] 48 := ⟨_, rfl⟩
  obtain ⟨of, hof⟩ : ∃ o : Obj, o = .cells #[.int .i64 f.c.kind, .int .i64 f.c.a, .int .i64 f.c.b, .int .i64 f.c.time, .int .i64 f.c.bk, .int .i64 f.c.slot, .int .i64 f.pl, .int .i64 f.cur, .int .i64 f.prev, .int .i64 f.slot, .int .i64 f.n, .slice aK f.keys.length cK, .bool f.done, .int .i64 f.e] 51 := ⟨_, rfl⟩
  obtain ⟨og, hog⟩ : ∃ o : Obj, o = .cells #[.int .i64 f.c.kind, .int .i64 f.c.a, .int .i64 f.c.b, .int .i64 f.c.time, .int .i64 f.c.bk, .int .i64 f.c.slot, .int .i64 f.pl, .int .i64 f.cur, .int .i64 f.prev, .int .i64 f.slot, .int .i64 f.n, .slice aK f.keys.length cK, .bool true, .int .i64 e0] 51 := ⟨_, rfl⟩
  have HE0 : Hid (Env w ((((w.alloc om).alloc oc).alloc of).alloc og) [(w.heap.size + 3, og), (w.heap.size + 2, of), (w.heap.size + 1, oc), (w.heap.size, om)] []) := by
    have h := ((((⟨Below.refl _ _, (fun p hp => by cases hp), (fun p hp => by cases hp)⟩ : Env w w [] []).alloc om).alloc oc).alloc of).alloc og
    rw [show (w.alloc om).heap.size = w.heap.size + 1 by simp, show ((w.alloc om).alloc oc).heap.size = w.heap.size + 2 by simp, show (((w.alloc om).alloc oc).alloc of).heap.size = w.heap.size + 3 by simp] at h
    exact h
  clear A0
  go_enter Try.func4, Try.ntmps4
  go_wp2_with fail
  rename_i K0 hK0
  rw [← hom, ← hoc, ← hof, ← hog]
  generalize (((w.alloc om).alloc oc).alloc of).alloc og = W0 at *
  subst hom hoc hof hog
  refine wp_region_rel (by kernel_rfl) actF rfl [14, 15, 16, 17, 18, 19, 20, 21, 22, 23, 24, 25, 26, 27, 28, 29, 30, 31, 32, 33, 34, 35, 36, 37, 38, 39, 40, 41, 42, 43, 44, 45, 46, 47, 48, 49, 50, 51, 52, 53, 54, 55, 8] (by decide) rfl (by kernel_rfl) (phiF M aS aH aF aL cS cH cF cL c f aK cK e0 EC EF BK) phiF_mono ?_ ?_
  · intro i hi x W hb hout hpre
    have hi' : i < 43 := hi
    clear hi
    have HE : Hid _ := HE0.out.below hb
    have x3 : x 3 = .int .i64 e0 := hout 3 (by decide)
    have x4 : x 4 = .pointer (some ⟨w.heap.size, 0, none⟩) := hout 4 (by decide)
    have x5 : x 5 = .pointer (some ⟨w.heap.size + 1, 0, none⟩) := hout 5 (by decide)
    have x6 : x 6 = .pointer (some ⟨w.heap.size + 2, 0, none⟩) := hout 6 (by decide)
    have x9 : x 9 = .pointer (some ⟨w.heap.size + 3, 0, none⟩) := hout 9 (by decide)
    obtain rfl | rfl | rfl | rfl | rfl | rfl | rfl | rfl | rfl | rfl | rfl | rfl | rfl | rfl | rfl | rfl | rfl | rfl | rfl | rfl | rfl | rfl | rfl | rfl | rfl | rfl | rfl | rfl | rfl | rfl | rfl | rfl | rfl | rfl | rfl | rfl | rfl | rfl | rfl | rfl | rfl | rfl | rfl : i = 0 ∨ i = 1 ∨ i = 2 ∨ i = 3 ∨ i = 4 ∨ i = 5 ∨ i = 6 ∨ i = 7 ∨ i = 8 ∨ i = 9 ∨ i = 10 ∨ i = 11 ∨ i = 12 ∨ i = 13 ∨ i = 14 ∨ i = 15 ∨ i = 16 ∨ i = 17 ∨ i = 18 ∨ i = 19 ∨ i = 20 ∨ i = 21 ∨ i = 22 ∨ i = 23 ∨ i = 24 ∨ i = 25 ∨ i = 26 ∨ i = 27 ∨ i = 28 ∨ i = 29 ∨ i = 30 ∨ i = 31 ∨ i = 32 ∨ i = 33 ∨ i = 34 ∨ i = 35 ∨ i = 36 ∨ i = 37 ∨ i = 38 ∨ i = 39 ∨ i = 40 ∨ i = 41 ∨ i = 42 := by omega
    · refine wpOp_enter rfl (wanted_none rfl) (f := 23) (args := #[]) (by simp [execOp, go_sem]) ((framed_any W).mono ?_)
      rintro e w' ⟨rfl, hb'⟩
      exact ⟨_, rfl, _, rfl, ⟨fun _ => rfl, fun h => absurd h (by decide)⟩, hb'⟩
    · have p0 : x 14 = .bool true := (hpre 0 (by kernel_rfl)).1 (by decide)
      exact wpOp_value rfl (wanted_none rfl) (v := .bool true) (w' := W) (by simp [execOp, go_sem, (show (actF x).tmps[14]?.getD undef = _ from p0)]) ⟨_, rfl, ⟨fun _ => rfl, fun h => absurd h (by decide)⟩, Below.refl _ _⟩
    · have p1 : x 15 = .bool true := (hpre 1 (by kernel_rfl)).1 (by decide)
      obtain ⟨q0, q1, q2, q3, q4, -, -, -, -, -, qs⟩ := boxf (HE.out.box _ (.tail _ (.tail _ (.tail _ (.head _)))))
      exact wpOp_value rfl (wanted_some (ops := _) (k := 1) (d := 15) (b := true) rfl rfl (by show some (x 15) = _; rw [p1])) (v := .agg #[.slice aS M.slots.length cS, .slice aH M.heads.length cH, .slice aF M.free.length cF, .slice aL M.locks.length cL, .int .i64 M.now]) (w' := W) (by simp [execOp, go_sem, (show (actF x).tmps[4]?.getD undef = _ from x4), q0, q1, q2, q3, q4]) ⟨_, rfl, ⟨fun _ => rfl, fun h => absurd h (by decide)⟩, Below.refl _ _⟩
    · have p1 : x 15 = .bool true := (hpre 1 (by kernel_rfl)).1 (by decide)
      obtain ⟨q0, q1, q2, q3, q4, q5, qs⟩ := callf (HE.out.box _ (.tail _ (.tail _ (.head _))))
      exact wpOp_value rfl (wanted_some (ops := _) (k := 1) (d := 15) (b := true) rfl rfl (by show some (x 15) = _; rw [p1])) (v := .agg #[.int .i64 c.kind, .int .i64 c.a, .int .i64 c.b, .int .i64 c.time, .int .i64 c.bk, .int .i64 c.slot]) (w' := W) (by simp [execOp, go_sem, (show (actF x).tmps[5]?.getD undef = _ from x5), q0, q1, q2, q3, q4, q5]) ⟨_, rfl, ⟨fun _ => rfl, fun h => absurd h (by decide)⟩, Below.refl _ _⟩
    · have p1 : x 15 = .bool true := (hpre 1 (by kernel_rfl)).1 (by decide)
      have p2 : x 16 = .agg #[.slice aS M.slots.length cS, .slice aH M.heads.length cH, .slice aF M.free.length cF, .slice aL M.locks.length cL, .int .i64 M.now] := (hpre 2 (by kernel_rfl)).1 (by decide)
      have p3 : x 17 = .agg #[.int .i64 c.kind, .int .i64 c.a, .int .i64 c.b, .int .i64 c.time, .int .i64 c.bk, .int .i64 c.slot] := (hpre 3 (by kernel_rfl)).1 (by decide)
      refine wpOp_enter rfl (wanted_some (ops := _) (k := 1) (d := 15) (b := true) rfl rfl (by show some (x 15) = _; rw [p1])) (f := 24) (args := #[.agg #[.slice aS M.slots.length cS, .slice aH M.heads.length cH, .slice aF M.free.length cF, .slice aL M.locks.length cL, .int .i64 M.now], .agg #[.int .i64 c.kind, .int .i64 c.a, .int .i64 c.b, .int .i64 c.time, .int .i64 c.bk, .int .i64 c.slot]]) (by simp [execOp, go_sem, (show (actF x).tmps[16]?.getD undef = _ from p2), (show (actF x).tmps[17]?.getD undef = _ from p3)]) ((callE_at HC.out aS aH aF aL _ _ cS cH cF cL _ W (by omega) (by omega)).mono ?_)
      rintro e w' ⟨rfl, hb'⟩
      exact ⟨_, rfl, _, rfl, ⟨fun _ => rfl, fun h => absurd h (by decide)⟩, hb'⟩
    · have p1 : x 15 = .bool true := (hpre 1 (by kernel_rfl)).1 (by decide)
      obtain ⟨q0, q1, q2, q3, q4, -, -, -, -, -, qs⟩ := boxf (HE.out.box _ (.tail _ (.tail _ (.tail _ (.head _)))))
      exact wpOp_value rfl (wanted_some (ops := _) (k := 1) (d := 15) (b := true) rfl rfl (by show some (x 15) = _; rw [p1])) (v := .agg #[.slice aS M.slots.length cS, .slice aH M.heads.length cH, .slice aF M.free.length cF, .slice aL M.locks.length cL, .int .i64 M.now]) (w' := W) (by simp [execOp, go_sem, (show (actF x).tmps[4]?.getD undef = _ from x4), q0, q1, q2, q3, q4]) ⟨_, rfl, ⟨fun _ => rfl, fun h => absurd h (by decide)⟩, Below.refl _ _⟩
    · have p1 : x 15 = .bool true := (hpre 1 (by kernel_rfl)).1 (by decide)
      obtain ⟨q0, q1, q2, q3, q4, q5, qs⟩ := callf (HE.out.box _ (.tail _ (.tail _ (.head _))))
      exact wpOp_value rfl (wanted_some (ops := _) (k := 1) (d := 15) (b := true) rfl rfl (by show some (x 15) = _; rw [p1])) (v := .agg #[.int .i64 c.kind, .int .i64 c.a, .int .i64 c.b, .int .i64 c.time, .int .i64 c.bk, .int .i64 c.slot]) (w' := W) (by simp [execOp, go_sem, (show (actF x).tmps[5]?.getD undef = _ from x5), q0, q1, q2, q3, q4, q5]) ⟨_, rfl, ⟨fun _ => rfl, fun h => absurd h (by decide)⟩, Below.refl _ _⟩
    · have p1 : x 15 = .bool true := (hpre 1 (by kernel_rfl)).1 (by decide)
      have p5 : x 19 = .agg #[.slice aS M.slots.length cS, .slice aH M.heads.length cH, .slice aF M.free.length cF, .slice aL M.locks.length cL, .int .i64 M.now] := (hpre 5 (by kernel_rfl)).1 (by decide)
      have p6 : x 20 = .agg #[.int .i64 c.kind, .int .i64 c.a, .int .i64 c.b, .int .i64 c.time, .int .i64 c.bk, .int .i64 c.slot] := (hpre 6 (by kernel_rfl)).1 (by decide)
      refine wpOp_enter rfl (wanted_some (ops := _) (k := 1) (d := 15) (b := true) rfl rfl (by show some (x 15) = _; rw [p1])) (f := 25) (args := #[.agg #[.slice aS M.slots.length cS, .slice aH M.heads.length cH, .slice aF M.free.length cF, .slice aL M.locks.length cL, .int .i64 M.now], .agg #[.int .i64 c.kind, .int .i64 c.a, .int .i64 c.b, .int .i64 c.time, .int .i64 c.bk, .int .i64 c.slot]]) (by simp [execOp, go_sem, (show (actF x).tmps[19]?.getD undef = _ from p5), (show (actF x).tmps[20]?.getD undef = _ from p6)]) ((rcallE_at HC.out aS aH aF aL _ _ cS cH cF cL _ W (by omega) (by omega)).mono ?_)
      rintro e w' ⟨rfl, hb'⟩
      exact ⟨_, rfl, _, rfl, ⟨fun _ => rfl, fun h => absurd h (by decide)⟩, hb'⟩
    · have p1 : x 15 = .bool true := (hpre 1 (by kernel_rfl)).1 (by decide)
      have p4 : x 18 = .int .i64 EC := (hpre 4 (by kernel_rfl)).1 (by decide)
      have p7 : x 21 = .int .i64 EC := (hpre 7 (by kernel_rfl)).1 (by decide)
      exact wpOp_value rfl (wanted_some (ops := _) (k := 1) (d := 15) (b := true) rfl rfl (by show some (x 15) = _; rw [p1])) (v := .bool true) (w' := W) (by simp [execOp, go_sem, (show (actF x).tmps[18]?.getD undef = _ from p4), (show (actF x).tmps[21]?.getD undef = _ from p7)]) ⟨_, rfl, ⟨fun _ => rfl, fun h => absurd h (by decide)⟩, Below.refl _ _⟩
    · have p1 : x 15 = .bool true := (hpre 1 (by kernel_rfl)).1 (by decide)
      have p8 : x 22 = .bool true := (hpre 8 (by kernel_rfl)).1 (by decide)
      exact wpOp_value rfl (wanted_none rfl) (v := .bool true) (w' := W) (by simp [execOp, go_sem, (show (actF x).tmps[15]?.getD undef = _ from p1), (show (actF x).tmps[22]?.getD undef = _ from p8)]) ⟨_, rfl, ⟨fun _ => rfl, fun h => absurd h (by decide)⟩, Below.refl _ _⟩
    · have p9 : x 23 = .bool true := (hpre 9 (by kernel_rfl)).1 (by decide)
      exact wpOp_value rfl (wanted_none rfl) (v := .bool true) (w' := W) (by simp [execOp, go_sem, (show (actF x).tmps[23]?.getD undef = _ from p9)]) ⟨_, rfl, ⟨fun _ => rfl, fun h => absurd h (by decide)⟩, Below.refl _ _⟩
    · have p10 : x 24 = .bool true := (hpre 10 (by kernel_rfl)).1 (by decide)
      obtain ⟨q0, q1, q2, q3, q4, -, -, -, -, -, qs⟩ := boxf (HE.out.box _ (.tail _ (.tail _ (.tail _ (.head _)))))
      exact wpOp_value rfl (wanted_some (ops := _) (k := 10) (d := 24) (b := true) rfl rfl (by show some (x 24) = _; rw [p10])) (v := .agg #[.slice aS M.slots.length cS, .slice aH M.heads.length cH, .slice aF M.free.length cF, .slice aL M.locks.length cL, .int .i64 M.now]) (w' := W) (by simp [execOp, go_sem, (show (actF x).tmps[4]?.getD undef = _ from x4), q0, q1, q2, q3, q4]) ⟨_, rfl, ⟨fun _ => rfl, fun h => absurd h (by decide)⟩, Below.refl _ _⟩
    · have p10 : x 24 = .bool true := (hpre 10 (by kernel_rfl)).1 (by decide)
      obtain ⟨q0, q1, q2, q3, q4, q5, q6, q7, q8, q9, q10, q11, q12, q13, -, qs⟩ := framef (HE.out.box _ (.tail _ (.head _)))
      exact wpOp_value rfl (wanted_some (ops := _) (k := 10) (d := 24) (b := true) rfl rfl (by show some (x 24) = _; rw [p10])) (v := .agg #[.int .i64 f.c.kind, .int .i64 f.c.a, .int .i64 f.c.b, .int .i64 f.c.time, .int .i64 f.c.bk, .int .i64 f.c.slot, .int .i64 f.pl, .int .i64 f.cur, .int .i64 f.prev, .int .i64 f.slot, .int .i64 f.n, .slice aK f.keys.length cK, .bool f.done, .int .i64 f.e]) (w' := W) (by simp [execOp, go_sem, (show (actF x).tmps[6]?.getD undef = _ from x6), q0, q1, q2, q3, q4, q5, q6, q7, q8, q9, q10, q11, q12, q13]) ⟨_, rfl, ⟨fun _ => rfl, fun h => absurd h (by decide)⟩, Below.refl _ _⟩
    · have p10 : x 24 = .bool true := (hpre 10 (by kernel_rfl)).1 (by decide)
      have p11 : x 25 = .agg #[.slice aS M.slots.length cS, .slice aH M.heads.length cH, .slice aF M.free.length cF, .slice aL M.locks.length cL, .int .i64 M.now] := (hpre 11 (by kernel_rfl)).1 (by decide)
      have p12 : x 26 = .agg #[.int .i64 f.c.kind, .int .i64 f.c.a, .int .i64 f.c.b, .int .i64 f.c.time, .int .i64 f.c.bk, .int .i64 f.c.slot, .int .i64 f.pl, .int .i64 f.cur, .int .i64 f.prev, .int .i64 f.slot, .int .i64 f.n, .slice aK f.keys.length cK, .bool f.done, .int .i64 f.e] := (hpre 12 (by kernel_rfl)).1 (by decide)
      refine wpOp_enter rfl (wanted_some (ops := _) (k := 10) (d := 24) (b := true) rfl rfl (by show some (x 24) = _; rw [p10])) (f := 26) (args := #[.agg #[.slice aS M.slots.length cS, .slice aH M.heads.length cH, .slice aF M.free.length cF, .slice aL M.locks.length cL, .int .i64 M.now], .agg #[.int .i64 f.c.kind, .int .i64 f.c.a, .int .i64 f.c.b, .int .i64 f.c.time, .int .i64 f.c.bk, .int .i64 f.c.slot, .int .i64 f.pl, .int .i64 f.cur, .int .i64 f.prev, .int .i64 f.slot, .int .i64 f.n, .slice aK f.keys.length cK, .bool f.done, .int .i64 f.e]]) (by simp [execOp, go_sem, (show (actF x).tmps[25]?.getD undef = _ from p11), (show (actF x).tmps[26]?.getD undef = _ from p12)]) ((frCheck_at HF.out aS aH aF aL _ _ cS cH cF cL _ aK cK W hnS hnH hkf).mono ?_)
      rintro e w' ⟨rfl, hb'⟩
      exact ⟨_, rfl, _, rfl, ⟨fun _ => rfl, fun h => absurd h (by decide)⟩, hb'⟩
    · have p10 : x 24 = .bool true := (hpre 10 (by kernel_rfl)).1 (by decide)
      obtain ⟨q0, q1, q2, q3, q4, -, -, -, -, -, qs⟩ := boxf (HE.out.box _ (.tail _ (.tail _ (.tail _ (.head _)))))
      exact wpOp_value rfl (wanted_some (ops := _) (k := 10) (d := 24) (b := true) rfl rfl (by show some (x 24) = _; rw [p10])) (v := .agg #[.slice aS M.slots.length cS, .slice aH M.heads.length cH, .slice aF M.free.length cF, .slice aL M.locks.length cL, .int .i64 M.now]) (w' := W) (by simp [execOp, go_sem, (show (actF x).tmps[4]?.getD undef = _ from x4), q0, q1, q2, q3, q4]) ⟨_, rfl, ⟨fun _ => rfl, fun h => absurd h (by decide)⟩, Below.refl _ _⟩
    · have p10 : x 24 = .bool true := (hpre 10 (by kernel_rfl)).1 (by decide)
      obtain ⟨q0, q1, q2, q3, q4, q5, q6, q7, q8, q9, q10, q11, q12, q13, -, qs⟩ := framef (HE.out.box _ (.tail _ (.head _)))
      exact wpOp_value rfl (wanted_some (ops := _) (k := 10) (d := 24) (b := true) rfl rfl (by show some (x 24) = _; rw [p10])) (v := .agg #[.int .i64 f.c.kind, .int .i64 f.c.a, .int .i64 f.c.b, .int .i64 f.c.time, .int .i64 f.c.bk, .int .i64 f.c.slot, .int .i64 f.pl, .int .i64 f.cur, .int .i64 f.prev, .int .i64 f.slot, .int .i64 f.n, .slice aK f.keys.length cK, .bool f.done, .int .i64 f.e]) (w' := W) (by simp [execOp, go_sem, (show (actF x).tmps[6]?.getD undef = _ from x6), q0, q1, q2, q3, q4, q5, q6, q7, q8, q9, q10, q11, q12, q13]) ⟨_, rfl, ⟨fun _ => rfl, fun h => absurd h (by decide)⟩, Below.refl _ _⟩
    · have p10 : x 24 = .bool true := (hpre 10 (by kernel_rfl)).1 (by decide)
      have p14 : x 28 = .agg #[.slice aS M.slots.length cS, .slice aH M.heads.length cH, .slice aF M.free.length cF, .slice aL M.locks.length cL, .int .i64 M.now] := (hpre 14 (by kernel_rfl)).1 (by decide)
      have p15 : x 29 = .agg #[.int .i64 f.c.kind, .int .i64 f.c.a, .int .i64 f.c.b, .int .i64 f.c.time, .int .i64 f.c.bk, .int .i64 f.c.slot, .int .i64 f.pl, .int .i64 f.cur, .int .i64 f.prev, .int .i64 f.slot, .int .i64 f.n, .slice aK f.keys.length cK, .bool f.done, .int .i64 f.e] := (hpre 15 (by kernel_rfl)).1 (by decide)
      refine wpOp_enter rfl (wanted_some (ops := _) (k := 10) (d := 24) (b := true) rfl rfl (by show some (x 24) = _; rw [p10])) (f := 27) (args := #[.agg #[.slice aS M.slots.length cS, .slice aH M.heads.length cH, .slice aF M.free.length cF, .slice aL M.locks.length cL, .int .i64 M.now], .agg #[.int .i64 f.c.kind, .int .i64 f.c.a, .int .i64 f.c.b, .int .i64 f.c.time, .int .i64 f.c.bk, .int .i64 f.c.slot, .int .i64 f.pl, .int .i64 f.cur, .int .i64 f.prev, .int .i64 f.slot, .int .i64 f.n, .slice aK f.keys.length cK, .bool f.done, .int .i64 f.e]]) (by simp [execOp, go_sem, (show (actF x).tmps[28]?.getD undef = _ from p14), (show (actF x).tmps[29]?.getD undef = _ from p15)]) ((rfrCheck_at HF.out aS aH aF aL _ _ cS cH cF cL _ aK cK W hnS hnH hkf).mono ?_)
      rintro e w' ⟨rfl, hb'⟩
      exact ⟨_, rfl, _, rfl, ⟨fun _ => rfl, fun h => absurd h (by decide)⟩, hb'⟩
    · have p10 : x 24 = .bool true := (hpre 10 (by kernel_rfl)).1 (by decide)
      have p13 : x 27 = .int .i64 EF := (hpre 13 (by kernel_rfl)).1 (by decide)
      have p16 : x 30 = .int .i64 EF := (hpre 16 (by kernel_rfl)).1 (by decide)
      exact wpOp_value rfl (wanted_some (ops := _) (k := 10) (d := 24) (b := true) rfl rfl (by show some (x 24) = _; rw [p10])) (v := .bool true) (w' := W) (by simp [execOp, go_sem, (show (actF x).tmps[27]?.getD undef = _ from p13), (show (actF x).tmps[30]?.getD undef = _ from p16)]) ⟨_, rfl, ⟨fun _ => rfl, fun h => absurd h (by decide)⟩, Below.refl _ _⟩
    · have p10 : x 24 = .bool true := (hpre 10 (by kernel_rfl)).1 (by decide)
      have p17 : x 31 = .bool true := (hpre 17 (by kernel_rfl)).1 (by decide)
      exact wpOp_value rfl (wanted_none rfl) (v := .bool true) (w' := W) (by simp [execOp, go_sem, (show (actF x).tmps[24]?.getD undef = _ from p10), (show (actF x).tmps[31]?.getD undef = _ from p17)]) ⟨_, rfl, ⟨fun _ => rfl, fun h => absurd h (by decide)⟩, Below.refl _ _⟩
    · have p18 : x 32 = .bool true := (hpre 18 (by kernel_rfl)).1 (by decide)
      exact wpOp_value rfl (wanted_none rfl) (v := .bool true) (w' := W) (by simp [execOp, go_sem, (show (actF x).tmps[32]?.getD undef = _ from p18)]) ⟨_, rfl, ⟨fun _ => rfl, fun h => absurd h (by decide)⟩, Below.refl _ _⟩
    · have p19 : x 33 = .bool true := (hpre 19 (by kernel_rfl)).1 (by decide)
      obtain ⟨q0, q1, q2, q3, q4, q5, qs⟩ := callf (HE.out.box _ (.tail _ (.tail _ (.head _))))
      exact wpOp_value rfl (wanted_some (ops := _) (k := 19) (d := 33) (b := true) rfl rfl (by show some (x 33) = _; rw [p19])) (v := .agg #[.int .i64 c.kind, .int .i64 c.a, .int .i64 c.b, .int .i64 c.time, .int .i64 c.bk, .int .i64 c.slot]) (w' := W) (by simp [execOp, go_sem, (show (actF x).tmps[5]?.getD undef = _ from x5), q0, q1, q2, q3, q4, q5]) ⟨_, rfl, ⟨fun _ => rfl, fun h => absurd h (by decide)⟩, Below.refl _ _⟩
    · have p19 : x 33 = .bool true := (hpre 19 (by kernel_rfl)).1 (by decide)
      have p20 : x 34 = .agg #[.int .i64 c.kind, .int .i64 c.a, .int .i64 c.b, .int .i64 c.time, .int .i64 c.bk, .int .i64 c.slot] := (hpre 20 (by kernel_rfl)).1 (by decide)
      refine wpOp_enter rfl (wanted_some (ops := _) (k := 19) (d := 33) (b := true) rfl rfl (by show some (x 33) = _; rw [p19])) (f := 29) (args := #[.agg #[.int .i64 c.kind, .int .i64 c.a, .int .i64 c.b, .int .i64 c.time, .int .i64 c.bk, .int .i64 c.slot]]) (by simp [execOp, go_sem, (show (actF x).tmps[34]?.getD undef = _ from p20)]) ((newFr_any c W).mono ?_)
      rintro e w' ⟨rfl, hb'⟩
      exact ⟨_, rfl, _, rfl, ⟨fun _ => rfl, fun h => absurd h (by decide)⟩, hb'⟩
    · have p19 : x 33 = .bool true := (hpre 19 (by kernel_rfl)).1 (by decide)
      obtain ⟨q0, q1, q2, q3, q4, q5, qs⟩ := callf (HE.out.box _ (.tail _ (.tail _ (.head _))))
      exact wpOp_value rfl (wanted_some (ops := _) (k := 19) (d := 33) (b := true) rfl rfl (by show some (x 33) = _; rw [p19])) (v := .agg #[.int .i64 c.kind, .int .i64 c.a, .int .i64 c.b, .int .i64 c.time, .int .i64 c.bk, .int .i64 c.slot]) (w' := W) (by simp [execOp, go_sem, (show (actF x).tmps[5]?.getD undef = _ from x5), q0, q1, q2, q3, q4, q5]) ⟨_, rfl, ⟨fun _ => rfl, fun h => absurd h (by decide)⟩, Below.refl _ _⟩
    · have p19 : x 33 = .bool true := (hpre 19 (by kernel_rfl)).1 (by decide)
      have p22 : x 36 = .agg #[.int .i64 c.kind, .int .i64 c.a, .int .i64 c.b, .int .i64 c.time, .int .i64 c.bk, .int .i64 c.slot] := (hpre 22 (by kernel_rfl)).1 (by decide)
      exact wpOp_value rfl (wanted_some (ops := _) (k := 19) (d := 33) (b := true) rfl rfl (by show some (x 33) = _; rw [p19])) (v := .agg #[.int .i64 (newF c).c.kind, .int .i64 (newF c).c.a, .int .i64 (newF c).c.b, .int .i64 (newF c).c.time, .int .i64 (newF c).c.bk, .int .i64 (newF c).c.slot, .int .i64 (newF c).pl, .int .i64 (newF c).cur, .int .i64 (newF c).prev, .int .i64 (newF c).slot, .int .i64 (newF c).n, .slice none (newF c).keys.length 0, .bool (newF c).done, .int .i64 (newF c).e]) (w' := W) (by simp [execOp, go_sem, newF, (show (actF x).tmps[36]?.getD undef = _ from p22)]) ⟨_, rfl, ⟨fun _ => rfl, fun h => absurd h (by decide)⟩, Below.refl _ _⟩
    · have p19 : x 33 = .bool true := (hpre 19 (by kernel_rfl)).1 (by decide)
      have p21 : x 35 = .agg #[.int .i64 (newF c).c.kind, .int .i64 (newF c).c.a, .int .i64 (newF c).c.b, .int .i64 (newF c).c.time, .int .i64 (newF c).c.bk, .int .i64 (newF c).c.slot, .int .i64 (newF c).pl, .int .i64 (newF c).cur, .int .i64 (newF c).prev, .int .i64 (newF c).slot, .int .i64 (newF c).n, .slice none (newF c).keys.length 0, .bool (newF c).done, .int .i64 (newF c).e] := (hpre 21 (by kernel_rfl)).1 (by decide)
      have p23 : x 37 = .agg #[.int .i64 (newF c).c.kind, .int .i64 (newF c).c.a, .int .i64 (newF c).c.b, .int .i64 (newF c).c.time, .int .i64 (newF c).c.bk, .int .i64 (newF c).c.slot, .int .i64 (newF c).pl, .int .i64 (newF c).cur, .int .i64 (newF c).prev, .int .i64 (newF c).slot, .int .i64 (newF c).n, .slice none (newF c).keys.length 0, .bool (newF c).done, .int .i64 (newF c).e] := (hpre 23 (by kernel_rfl)).1 (by decide)
      refine wpOp_enter rfl (wanted_some (ops := _) (k := 19) (d := 33) (b := true) rfl rfl (by show some (x 33) = _; rw [p19])) (f := 28) (args := #[.agg #[.int .i64 (newF c).c.kind, .int .i64 (newF c).c.a, .int .i64 (newF c).c.b, .int .i64 (newF c).c.time, .int .i64 (newF c).c.bk, .int .i64 (newF c).c.slot, .int .i64 (newF c).pl, .int .i64 (newF c).cur, .int .i64 (newF c).prev, .int .i64 (newF c).slot, .int .i64 (newF c).n, .slice none (newF c).keys.length 0, .bool (newF c).done, .int .i64 (newF c).e], .agg #[.int .i64 (newF c).c.kind, .int .i64 (newF c).c.a, .int .i64 (newF c).c.b, .int .i64 (newF c).c.time, .int .i64 (newF c).c.bk, .int .i64 (newF c).c.slot, .int .i64 (newF c).pl, .int .i64 (newF c).cur, .int .i64 (newF c).prev, .int .i64 (newF c).slot, .int .i64 (newF c).n, .slice none (newF c).keys.length 0, .bool (newF c).done, .int .i64 (newF c).e]]) (by simp [execOp, go_sem, (show (actF x).tmps[35]?.getD undef = _ from p21), (show (actF x).tmps[37]?.getD undef = _ from p23)]) ((sameFr_true (newF c) none none 0 0 W (krow_nil _) (krow_nil _)).mono ?_)
      rintro e w' ⟨rfl, hb'⟩
      exact ⟨_, rfl, _, rfl, ⟨fun _ => rfl, fun h => absurd h (by decide)⟩, hb'⟩
    · have p19 : x 33 = .bool true := (hpre 19 (by kernel_rfl)).1 (by decide)
      have p24 : x 38 = .bool true := (hpre 24 (by kernel_rfl)).1 (by decide)
      exact wpOp_value rfl (wanted_none rfl) (v := .bool true) (w' := W) (by simp [execOp, go_sem, (show (actF x).tmps[33]?.getD undef = _ from p19), (show (actF x).tmps[38]?.getD undef = _ from p24)]) ⟨_, rfl, ⟨fun _ => rfl, fun h => absurd h (by decide)⟩, Below.refl _ _⟩
    · have p25 : x 39 = .bool true := (hpre 25 (by kernel_rfl)).1 (by decide)
      exact wpOp_value rfl (wanted_none rfl) (v := .bool true) (w' := W) (by simp [execOp, go_sem, (show (actF x).tmps[39]?.getD undef = _ from p25)]) ⟨_, rfl, ⟨fun _ => rfl, fun h => absurd h (by decide)⟩, Below.refl _ _⟩
    · have p26 : x 40 = .bool true := (hpre 26 (by kernel_rfl)).1 (by decide)
      obtain ⟨q0, q1, q2, q3, q4, q5, q6, q7, q8, q9, q10, q11, q12, q13, -, qs⟩ := framef (HE.out.box _ (.tail _ (.head _)))
      exact wpOp_value rfl (wanted_some (ops := _) (k := 26) (d := 40) (b := true) rfl rfl (by show some (x 40) = _; rw [p26])) (v := .agg #[.int .i64 f.c.kind, .int .i64 f.c.a, .int .i64 f.c.b, .int .i64 f.c.time, .int .i64 f.c.bk, .int .i64 f.c.slot, .int .i64 f.pl, .int .i64 f.cur, .int .i64 f.prev, .int .i64 f.slot, .int .i64 f.n, .slice aK f.keys.length cK, .bool f.done, .int .i64 f.e]) (w' := W) (by simp [execOp, go_sem, (show (actF x).tmps[6]?.getD undef = _ from x6), q0, q1, q2, q3, q4, q5, q6, q7, q8, q9, q10, q11, q12, q13]) ⟨_, rfl, ⟨fun _ => rfl, fun h => absurd h (by decide)⟩, Below.refl _ _⟩
    · have p26 : x 40 = .bool true := (hpre 26 (by kernel_rfl)).1 (by decide)
      exact wpOp_value rfl (wanted_some (ops := _) (k := 26) (d := 40) (b := true) rfl rfl (by show some (x 40) = _; rw [p26])) (v := .int .i64 e0) (w' := W) (by simp [execOp, go_sem, (show (actF x).tmps[3]?.getD undef = _ from x3)]) ⟨_, rfl, ⟨fun _ => rfl, fun h => absurd h (by decide)⟩, Below.refl _ _⟩
    · have p26 : x 40 = .bool true := (hpre 26 (by kernel_rfl)).1 (by decide)
      have p27 : x 41 = .agg #[.int .i64 f.c.kind, .int .i64 f.c.a, .int .i64 f.c.b, .int .i64 f.c.time, .int .i64 f.c.bk, .int .i64 f.c.slot, .int .i64 f.pl, .int .i64 f.cur, .int .i64 f.prev, .int .i64 f.slot, .int .i64 f.n, .slice aK f.keys.length cK, .bool f.done, .int .i64 f.e] := (hpre 27 (by kernel_rfl)).1 (by decide)
      have p28 : x 42 = .int .i64 e0 := (hpre 28 (by kernel_rfl)).1 (by decide)
      refine wpOp_enter rfl (wanted_some (ops := _) (k := 26) (d := 40) (b := true) rfl rfl (by show some (x 40) = _; rw [p26])) (f := 30) (args := #[.agg #[.int .i64 f.c.kind, .int .i64 f.c.a, .int .i64 f.c.b, .int .i64 f.c.time, .int .i64 f.c.bk, .int .i64 f.c.slot, .int .i64 f.pl, .int .i64 f.cur, .int .i64 f.prev, .int .i64 f.slot, .int .i64 f.n, .slice aK f.keys.length cK, .bool f.done, .int .i64 f.e], .int .i64 e0]) (by simp [execOp, go_sem, (show (actF x).tmps[41]?.getD undef = _ from p27), (show (actF x).tmps[42]?.getD undef = _ from p28)]) ((endFr_any f e0 aK cK W (HR.out.below HE.out.bl)).mono ?_)
      rintro e w' ⟨ar, kr, rfl, rr, hb'⟩
      exact ⟨_, rfl, _, rfl, ⟨fun h => absurd rfl h, fun _ => ⟨ar, kr, rfl, rr⟩⟩, hb'⟩
    · have p26 : x 40 = .bool true := (hpre 26 (by kernel_rfl)).1 (by decide)
      obtain ⟨q0, q1, q2, q3, q4, q5, q6, q7, q8, q9, q10, q11, q12, q13, -, qs⟩ := framef (HE.out.box _ (.head _))
      exact wpOp_value rfl (wanted_some (ops := _) (k := 26) (d := 40) (b := true) rfl rfl (by show some (x 40) = _; rw [p26])) (v := .agg #[.int .i64 f.c.kind, .int .i64 f.c.a, .int .i64 f.c.b, .int .i64 f.c.time, .int .i64 f.c.bk, .int .i64 f.c.slot, .int .i64 f.pl, .int .i64 f.cur, .int .i64 f.prev, .int .i64 f.slot, .int .i64 f.n, .slice aK f.keys.length cK, .bool true, .int .i64 e0]) (w' := W) (by simp [execOp, go_sem, (show (actF x).tmps[9]?.getD undef = _ from x9), q0, q1, q2, q3, q4, q5, q6, q7, q8, q9, q10, q11, q12, q13]) ⟨_, rfl, ⟨fun _ => rfl, fun h => absurd h (by decide)⟩, Below.refl _ _⟩
    · have p26 : x 40 = .bool true := (hpre 26 (by kernel_rfl)).1 (by decide)
      obtain ⟨ae, ke, p29, r29⟩ := (hpre 29 (by kernel_rfl)).2 rfl
      have p30 : x 44 = .agg #[.int .i64 f.c.kind, .int .i64 f.c.a, .int .i64 f.c.b, .int .i64 f.c.time, .int .i64 f.c.bk, .int .i64 f.c.slot, .int .i64 f.pl, .int .i64 f.cur, .int .i64 f.prev, .int .i64 f.slot, .int .i64 f.n, .slice aK f.keys.length cK, .bool true, .int .i64 e0] := (hpre 30 (by kernel_rfl)).1 (by decide)
      refine wpOp_enter rfl (wanted_some (ops := _) (k := 26) (d := 40) (b := true) rfl rfl (by show some (x 40) = _; rw [p26])) (f := 28) (args := #[.agg #[.int .i64 (endF f e0).c.kind, .int .i64 (endF f e0).c.a, .int .i64 (endF f e0).c.b, .int .i64 (endF f e0).c.time, .int .i64 (endF f e0).c.bk, .int .i64 (endF f e0).c.slot, .int .i64 (endF f e0).pl, .int .i64 (endF f e0).cur, .int .i64 (endF f e0).prev, .int .i64 (endF f e0).slot, .int .i64 (endF f e0).n, .slice ae (endF f e0).keys.length ke, .bool (endF f e0).done, .int .i64 (endF f e0).e], .agg #[.int .i64 f.c.kind, .int .i64 f.c.a, .int .i64 f.c.b, .int .i64 f.c.time, .int .i64 f.c.bk, .int .i64 f.c.slot, .int .i64 f.pl, .int .i64 f.cur, .int .i64 f.prev, .int .i64 f.slot, .int .i64 f.n, .slice aK f.keys.length cK, .bool true, .int .i64 e0]]) (by simp [execOp, go_sem, (show (actF x).tmps[43]?.getD undef = _ from p29), (show (actF x).tmps[44]?.getD undef = _ from p30)]) ((sameFr_true (endF f e0) ae aK ke cK W r29 (HR.out.below HE.out.bl)).mono ?_)
      rintro e w' ⟨rfl, hb'⟩
      exact ⟨_, rfl, _, rfl, ⟨fun _ => rfl, fun h => absurd h (by decide)⟩, hb'⟩
    · have p26 : x 40 = .bool true := (hpre 26 (by kernel_rfl)).1 (by decide)
      have p31 : x 45 = .bool true := (hpre 31 (by kernel_rfl)).1 (by decide)
      exact wpOp_value rfl (wanted_none rfl) (v := .bool true) (w' := W) (by simp [execOp, go_sem, (show (actF x).tmps[40]?.getD undef = _ from p26), (show (actF x).tmps[45]?.getD undef = _ from p31)]) ⟨_, rfl, ⟨fun _ => rfl, fun h => absurd h (by decide)⟩, Below.refl _ _⟩
    · have p32 : x 46 = .bool true := (hpre 32 (by kernel_rfl)).1 (by decide)
      exact wpOp_value rfl (wanted_none rfl) (v := .bool true) (w' := W) (by simp [execOp, go_sem, (show (actF x).tmps[46]?.getD undef = _ from p32)]) ⟨_, rfl, ⟨fun _ => rfl, fun h => absurd h (by decide)⟩, Below.refl _ _⟩
    · have p33 : x 47 = .bool true := (hpre 33 (by kernel_rfl)).1 (by decide)
      obtain ⟨q0, q1, q2, q3, q4, -, -, -, -, -, qs⟩ := boxf (HE.out.box _ (.tail _ (.tail _ (.tail _ (.head _)))))
      exact wpOp_value rfl (wanted_some (ops := _) (k := 33) (d := 47) (b := true) rfl rfl (by show some (x 47) = _; rw [p33])) (v := .agg #[.slice aS M.slots.length cS, .slice aH M.heads.length cH, .slice aF M.free.length cF, .slice aL M.locks.length cL, .int .i64 M.now]) (w' := W) (by simp [execOp, go_sem, (show (actF x).tmps[4]?.getD undef = _ from x4), q0, q1, q2, q3, q4]) ⟨_, rfl, ⟨fun _ => rfl, fun h => absurd h (by decide)⟩, Below.refl _ _⟩
    · have p33 : x 47 = .bool true := (hpre 33 (by kernel_rfl)).1 (by decide)
      obtain ⟨q0, q1, q2, q3, q4, q5, qs⟩ := callf (HE.out.box _ (.tail _ (.tail _ (.head _))))
      exact wpOp_value rfl (wanted_some (ops := _) (k := 33) (d := 47) (b := true) rfl rfl (by show some (x 47) = _; rw [p33])) (v := .agg #[.int .i64 c.kind, .int .i64 c.a, .int .i64 c.b, .int .i64 c.time, .int .i64 c.bk, .int .i64 c.slot]) (w' := W) (by simp [execOp, go_sem, (show (actF x).tmps[5]?.getD undef = _ from x5), q0, q1, q2, q3, q4, q5]) ⟨_, rfl, ⟨fun _ => rfl, fun h => absurd h (by decide)⟩, Below.refl _ _⟩
    · have p33 : x 47 = .bool true := (hpre 33 (by kernel_rfl)).1 (by decide)
      have p34 : x 48 = .agg #[.slice aS M.slots.length cS, .slice aH M.heads.length cH, .slice aF M.free.length cF, .slice aL M.locks.length cL, .int .i64 M.now] := (hpre 34 (by kernel_rfl)).1 (by decide)
      have p35 : x 49 = .agg #[.int .i64 c.kind, .int .i64 c.a, .int .i64 c.b, .int .i64 c.time, .int .i64 c.bk, .int .i64 c.slot] := (hpre 35 (by kernel_rfl)).1 (by decide)
      refine wpOp_enter rfl (wanted_some (ops := _) (k := 33) (d := 47) (b := true) rfl rfl (by show some (x 47) = _; rw [p33])) (f := 31) (args := #[.agg #[.slice aS M.slots.length cS, .slice aH M.heads.length cH, .slice aF M.free.length cF, .slice aL M.locks.length cL, .int .i64 M.now], .agg #[.int .i64 c.kind, .int .i64 c.a, .int .i64 c.b, .int .i64 c.time, .int .i64 c.bk, .int .i64 c.slot]]) (by simp [execOp, go_sem, (show (actF x).tmps[48]?.getD undef = _ from p34), (show (actF x).tmps[49]?.getD undef = _ from p35)]) ((frBucket_at HK.out aS aH aF aL _ _ _ cS cH cF cL _ W (by omega)).mono ?_)
      rintro e w' ⟨rfl, hb'⟩
      exact ⟨_, rfl, _, rfl, ⟨fun _ => rfl, fun h => absurd h (by decide)⟩, hb'⟩
    · have p33 : x 47 = .bool true := (hpre 33 (by kernel_rfl)).1 (by decide)
      obtain ⟨q0, q1, q2, q3, q4, -, -, -, -, -, qs⟩ := boxf (HE.out.box _ (.tail _ (.tail _ (.tail _ (.head _)))))
      exact wpOp_value rfl (wanted_some (ops := _) (k := 33) (d := 47) (b := true) rfl rfl (by show some (x 47) = _; rw [p33])) (v := .agg #[.slice aS M.slots.length cS, .slice aH M.heads.length cH, .slice aF M.free.length cF, .slice aL M.locks.length cL, .int .i64 M.now]) (w' := W) (by simp [execOp, go_sem, (show (actF x).tmps[4]?.getD undef = _ from x4), q0, q1, q2, q3, q4]) ⟨_, rfl, ⟨fun _ => rfl, fun h => absurd h (by decide)⟩, Below.refl _ _⟩
    · have p33 : x 47 = .bool true := (hpre 33 (by kernel_rfl)).1 (by decide)
      obtain ⟨q0, q1, q2, q3, q4, q5, qs⟩ := callf (HE.out.box _ (.tail _ (.tail _ (.head _))))
      exact wpOp_value rfl (wanted_some (ops := _) (k := 33) (d := 47) (b := true) rfl rfl (by show some (x 47) = _; rw [p33])) (v := .agg #[.int .i64 c.kind, .int .i64 c.a, .int .i64 c.b, .int .i64 c.time, .int .i64 c.bk, .int .i64 c.slot]) (w' := W) (by simp [execOp, go_sem, (show (actF x).tmps[5]?.getD undef = _ from x5), q0, q1, q2, q3, q4, q5]) ⟨_, rfl, ⟨fun _ => rfl, fun h => absurd h (by decide)⟩, Below.refl _ _⟩
    · have p33 : x 47 = .bool true := (hpre 33 (by kernel_rfl)).1 (by decide)
      have p37 : x 51 = .agg #[.slice aS M.slots.length cS, .slice aH M.heads.length cH, .slice aF M.free.length cF, .slice aL M.locks.length cL, .int .i64 M.now] := (hpre 37 (by kernel_rfl)).1 (by decide)
      have p38 : x 52 = .agg #[.int .i64 c.kind, .int .i64 c.a, .int .i64 c.b, .int .i64 c.time, .int .i64 c.bk, .int .i64 c.slot] := (hpre 38 (by kernel_rfl)).1 (by decide)
      refine wpOp_enter rfl (wanted_some (ops := _) (k := 33) (d := 47) (b := true) rfl rfl (by show some (x 47) = _; rw [p33])) (f := 32) (args := #[.agg #[.slice aS M.slots.length cS, .slice aH M.heads.length cH, .slice aF M.free.length cF, .slice aL M.locks.length cL, .int .i64 M.now], .agg #[.int .i64 c.kind, .int .i64 c.a, .int .i64 c.b, .int .i64 c.time, .int .i64 c.bk, .int .i64 c.slot]]) (by simp [execOp, go_sem, (show (actF x).tmps[51]?.getD undef = _ from p37), (show (actF x).tmps[52]?.getD undef = _ from p38)]) ((chainFor_at HK.out aS aH aF aL _ _ _ cS cH cF cL _ W (by omega)).mono ?_)
      rintro e w' ⟨rfl, hb'⟩
      exact ⟨_, rfl, _, rfl, ⟨fun _ => rfl, fun h => absurd h (by decide)⟩, hb'⟩
    · have p33 : x 47 = .bool true := (hpre 33 (by kernel_rfl)).1 (by decide)
      have p36 : x 50 = .int .i64 BK := (hpre 36 (by kernel_rfl)).1 (by decide)
      have p39 : x 53 = .int .i64 BK := (hpre 39 (by kernel_rfl)).1 (by decide)
      exact wpOp_value rfl (wanted_some (ops := _) (k := 33) (d := 47) (b := true) rfl rfl (by show some (x 47) = _; rw [p33])) (v := .bool true) (w' := W) (by simp [execOp, go_sem, (show (actF x).tmps[50]?.getD undef = _ from p36), (show (actF x).tmps[53]?.getD undef = _ from p39)]) ⟨_, rfl, ⟨fun _ => rfl, fun h => absurd h (by decide)⟩, Below.refl _ _⟩
    · have p33 : x 47 = .bool true := (hpre 33 (by kernel_rfl)).1 (by decide)
      have p40 : x 54 = .bool true := (hpre 40 (by kernel_rfl)).1 (by decide)
      exact wpOp_value rfl (wanted_none rfl) (v := .bool true) (w' := W) (by simp [execOp, go_sem, (show (actF x).tmps[47]?.getD undef = _ from p33), (show (actF x).tmps[54]?.getD undef = _ from p40)]) ⟨_, rfl, ⟨fun _ => rfl, fun h => absurd h (by decide)⟩, Below.refl _ _⟩
    · have p41 : x 55 = .bool true := (hpre 41 (by kernel_rfl)).1 (by decide)
      exact wpOp_value rfl (wanted_none rfl) (v := .bool true) (w' := W) (by simp [execOp, go_sem, (show (actF x).tmps[55]?.getD undef = _ from p41)]) ⟨_, rfl, ⟨fun _ => rfl, fun h => absurd h (by decide)⟩, Below.refl _ _⟩
  · intro x W hb hout hphi
    have h8 : x 8 = .bool true := (hphi 42 (by decide)).1 (by decide)
    have HE : Hid _ := HE0.out.below hb
    refine hK0 _ _ ?_
    simp only [actF, h8]
    go_wp2
    go_ret
    exact ⟨rfl, HE.out.bl⟩



end Go.Proofs.Ytdbilofhcadmoab.mm
