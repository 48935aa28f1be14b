/- A closed fact: a call that begins, and ends; FrameBegins' walk. -/
import Derived.Test.YtdbilofhcadmoabC17
import Derived.Test.YtdbilofhcadmoabC16
import Derived.Test.YtdbilofhcadmoabC30
import Derived.Test.YtdbilofhcadmoabC18
import Derived.Test.YtdbilofhcadmoabC15
namespace Go.Proofs.Ytdbilofhcadmoab.mm
open Go.ChangeShapes Go.WideShapes Go.ChangeAt Go.RowKit Go.Joins Go.Maps
set_option maxRecDepth 100000
set_option linter.unusedVariables false

theorem frE_new (nS nH : Nat) (c : Cl) : frE nS nH (newF c) = callE nS nH c := by
  by_cases h : callE nS nH c = 0
  · rw [frE_rest (f := newF c) h rfl rfl rfl ((inB_iff _ _ _).2 (by dsimp only [newF]; omega)) ((inB_iff _ _ _).2 (by dsimp only [newF]; omega)) ((inB_iff _ _ _).2 (by dsimp only [newF]; omega)), h]
    rfl
  · exact frE_call (f := newF c) h
theorem newFr_at {c : Cl} {f : Fr} (h : f = newF c) (w : World) : Calls Try.prog 29 #[.agg #[.int .i64 c.kind, .int .i64 c.a, .int .i64 c.b, .int .i64 c.time, .int .i64 c.bk, .int .i64 c.slot]] w fun e w' => e = .returned (.agg #[.int .i64 f.c.kind, .int .i64 f.c.a, .int .i64 f.c.b, .int .i64 f.c.time, .int .i64 f.c.bk, .int .i64 f.c.slot, .int .i64 f.pl, .int .i64 f.cur, .int .i64 f.prev, .int .i64 f.slot, .int .i64 f.n, .slice none f.keys.length 0, .bool f.done, .int .i64 f.e]) ∧ Below w.heap.size w w' := by
  subst h; exact newFr_any c w
theorem endFr_at {f g : Fr} {e0 : Int} (h : g = endF f e0) (aK : Option Addr) (cK : Nat) (w : World) (r : KRow w aK cK f.keys) :
    Calls Try.prog 30 #[.agg #[.int .i64 f.c.kind, .int .i64 f.c.a, .int .i64 f.c.b, .int .i64 f.c.time, .int .i64 f.c.bk, .int .i64 f.c.slot, .int .i64 f.pl, .int .i64 f.cur, .int .i64 f.prev, .int .i64 f.slot, .int .i64 f.n, .slice aK f.keys.length cK, .bool f.done, .int .i64 f.e], .int .i64 e0] w fun e w' => ∃ a c, e = .returned (.agg #[.int .i64 g.c.kind, .int .i64 g.c.a, .int .i64 g.c.b, .int .i64 g.c.time, .int .i64 g.c.bk, .int .i64 g.c.slot, .int .i64 g.pl, .int .i64 g.cur, .int .i64 g.prev, .int .i64 g.slot, .int .i64 g.n, .slice a g.keys.length c, .bool g.done, .int .i64 g.e]) ∧ KRow w' a c g.keys ∧ Below w.heap.size w w' := by
  subst h; exact endFr_any f e0 aK cK w r
theorem frCheck_at {nS nH : Nat} {f : Fr} {E : Int} (h : E = frE nS nH f) (aS aH aF aL : Option Addr) (nF nL cS cH cF cL : Nat) (now : Int) (aK : Option Addr) (cK : Nat) (w : World) (hn : nS ≤ 9223372036854775000) (hh : nH ≤ 9223372036854775000) (hk : f.keys.length ≤ 9223372036854775807) :
    Calls Try.prog 26 #[.agg #[.slice aS nS cS, .slice aH nH cH, .slice aF nF cF, .slice aL nL cL, .int .i64 now], .agg #[.int .i64 f.c.kind, .int .i64 f.c.a, .int .i64 f.c.b, .int .i64 f.c.time, .int .i64 f.c.bk, .int .i64 f.c.slot, .int .i64 f.pl, .int .i64 f.cur, .int .i64 f.prev, .int .i64 f.slot, .int .i64 f.n, .slice aK f.keys.length cK, .bool f.done, .int .i64 f.e]] w fun e w' => e = .returned (.int .i64 E) ∧ Below w.heap.size w w' := by
  subst h; exact frCheck_any aS aH aF aL nS nH nF nL cS cH cF cL now f aK cK w hn hh hk

def fC : Cl := ⟨1, 0, 0, 0, 0, 0⟩

set_option maxHeartbeats 3200000 in
theorem framed_any (w : World) : Calls Try.prog 23 #[] w fun e w' => e = .returned (.bool true) ∧ Below w.heap.size w w' := by
  obtain ⟨M, hM⟩ : ∃ M, M = newM 1 1 := ⟨_, rfl⟩
  have HN : Hid (∀ W : World, Calls Try.prog 69 #[.int .i64 1, .int .i64 1] W fun e w' => ∃ v, e = .returned (.tuple #[v, .int .i64 0]) ∧ Ans W.heap.size w' v M ∧ Below W.heap.size W w') := by
    intro W
    subst hM
    exact new_ok 1 1 W (by omega) (by omega) (by omega)
  have HLen : Hid (M.slots.length = 1 ∧ M.heads.length = 1) := by subst hM; exact ⟨rfl, rfl⟩
  clear hM
  obtain ⟨f, hf⟩ : ∃ f, f = newF fC := ⟨_, rfl⟩
  obtain ⟨g, hg⟩ : ∃ g, g = endF f 7 := ⟨_, rfl⟩
  have HF : Hid (f = newF fC) := hf
  have HG : Hid (g = endF f 7) := hg
  have HC1 : Hid (0 = frE M.slots.length M.heads.length f) := by show _ = _; rw [HLen.out.1, HLen.out.2, hf]; rfl
  have HC2 : Hid (3 = frE M.slots.length M.heads.length g) := by show _ = _; rw [HLen.out.1, HLen.out.2, hg, hf]; rfl
  have hs : f.slot = -1 := by rw [hf]; rfl
  have hd : g.done = true := by rw [hg]; rfl
  have he : g.e = 7 := by rw [hg]; rfl
  have hkf : f.keys.length ≤ 9223372036854775807 := by rw [hf]; exact Nat.zero_le _
  have hkg : g.keys.length ≤ 9223372036854775807 := by rw [hg, hf]; exact Nat.zero_le _
  have HK0 : Hid (f.keys = []) := by show _ = _; rw [hf]; rfl
  have hnS : M.slots.length ≤ 9223372036854775000 := by rw [HLen.out.1]; omega
  have hnH : M.heads.length ≤ 9223372036854775000 := by rw [HLen.out.2]; omega
  have HS : Hid (f.slot = -1) := hs
  have HD : Hid (g.done = true) := hd
  have HEe : Hid (g.e = 7) := he
  clear hf hg hs hd he
  go_enter Try.func23, Try.ntmps23
  go_wp2_with fail
  refine (HN.out w).mono ?_
  rintro e w1 ⟨v1, rfl, A1, hb1⟩
  obtain ⟨aS, aH, aF, aL, cS, cH, cF, cL, rfl⟩ := A1.form
  have HE1 : Hid (Env w (w1.alloc (.cells #[.slice aS M.slots.length cS, .slice aH M.heads.length cH, .slice aF M.free.length cF, .slice aL M.locks.length cL, .int .i64 M.now] 25)) _ []) := (((⟨Below.refl _ _, (fun p hp => by cases hp), (fun p hp => by cases hp)⟩ : Env w w [] []).below hb1)).alloc _
  clear A1 hb1
  go_wp2_with fail
  generalize hX1 : w1.heap.size = X1 at *
  generalize w1.alloc (.cells #[.slice aS M.slots.length cS, .slice aH M.heads.length cH, .slice aF M.free.length cF, .slice aL M.locks.length cL, .int .i64 M.now] 25) = W1 at *
  clear hX1
  refine (newFr_at (c := fC) HF.out W1).mono ?_
  rintro e w2 ⟨rfl, hb2⟩
  have HE2 : Hid _ := (HE1.out.below hb2).alloc (.cells #[.int .i64 f.c.kind, .int .i64 f.c.a, .int .i64 f.c.b, .int .i64 f.c.time, .int .i64 f.c.bk, .int .i64 f.c.slot, .int .i64 f.pl, .int .i64 f.cur, .int .i64 f.prev, .int .i64 f.slot, .int .i64 f.n, .slice none f.keys.length 0, .bool f.done, .int .i64 f.e] 51)
  clear HE1 hb2
  go_wp2_with fail
  generalize hX2 : w2.heap.size = X2 at *
  generalize w2.alloc (.cells #[.int .i64 f.c.kind, .int .i64 f.c.a, .int .i64 f.c.b, .int .i64 f.c.time, .int .i64 f.c.bk, .int .i64 f.c.slot, .int .i64 f.pl, .int .i64 f.cur, .int .i64 f.prev, .int .i64 f.slot, .int .i64 f.n, .slice none f.keys.length 0, .bool f.done, .int .i64 f.e] 51) = W2 at *
  clear hX2
  refine (endFr_at HG.out none 0 W2 (by rw [HK0.out]; exact krow_nil _)).mono ?_
  rintro e w3 ⟨a3, c3, rfl, hr3, hb3⟩
  have HE3 : Hid _ := (HE2.out.below hb3).alloc (.cells #[.int .i64 g.c.kind, .int .i64 g.c.a, .int .i64 g.c.b, .int .i64 g.c.time, .int .i64 g.c.bk, .int .i64 g.c.slot, .int .i64 g.pl, .int .i64 g.cur, .int .i64 g.prev, .int .i64 g.slot, .int .i64 g.n, .slice a3 g.keys.length c3, .bool g.done, .int .i64 g.e] 51)
  have HE3' : Hid _ := HE2.out.below hb3
  clear HE2 hb3 hr3
  obtain ⟨q0, q1, q2, q3, q4, -, -, -, -, -, qs⟩ := boxf (HE3'.out.box _ (.tail _ (.head _)))
  obtain ⟨f0, f1, f2, f3, f4, f5, f6, f7, f8, f9, f10, f11, f12, f13, -, fs⟩ := framef (HE3'.out.box _ (.head _))
  go_wp2_with fail
  generalize hX3 : w3.heap.size = X3 at *
  generalize w3.alloc (.cells #[.int .i64 g.c.kind, .int .i64 g.c.a, .int .i64 g.c.b, .int .i64 g.c.time, .int .i64 g.c.bk, .int .i64 g.c.slot, .int .i64 g.pl, .int .i64 g.cur, .int .i64 g.prev, .int .i64 g.slot, .int .i64 g.n, .slice a3 g.keys.length c3, .bool g.done, .int .i64 g.e] 51) = W3 at *
  clear hX3 q0 q1 q2 q3 q4 qs f0 f1 f2 f3 f4 f5 f6 f7 f8 f9 f10 f11 f12 f13 fs HE3'
  refine (frCheck_at HC1.out aS aH aF aL _ _ cS cH cF cL _ none 0 W3 hnS hnH hkf).mono ?_
  rintro e w4 ⟨rfl, hb4⟩
  have HE4 : Hid _ := HE3.out.below hb4
  clear HE3 hb4
  obtain ⟨q0, q1, q2, q3, q4, -, -, -, -, -, qs⟩ := boxf (HE4.out.box _ (.tail _ (.tail _ (.head _))))
  obtain ⟨f0, f1, f2, f3, f4, f5, f6, f7, f8, f9, f10, f11, f12, f13, -, fs⟩ := framef (HE4.out.box _ (.tail _ (.head _)))
  obtain ⟨g0, g1, g2, g3, g4, g5, g6, g7, g8, g9, g10, g11, g12, g13, -, gs⟩ := framef (HE4.out.box _ (.head _))
  rw [HS.out] at f9
  rw [HD.out] at g12
  rw [HEe.out] at g13
  have HCh : Hid (∀ W : World, Calls Try.prog 26 #[.agg #[.slice aS M.slots.length cS, .slice aH M.heads.length cH, .slice aF M.free.length cF, .slice aL M.locks.length cL, .int .i64 M.now], .agg #[.int .i64 g.c.kind, .int .i64 g.c.a, .int .i64 g.c.b, .int .i64 g.c.time, .int .i64 g.c.bk, .int .i64 g.c.slot, .int .i64 g.pl, .int .i64 g.cur, .int .i64 g.prev, .int .i64 g.slot, .int .i64 g.n, .slice a3 g.keys.length c3, .bool true, .int .i64 7]] W fun e w' => e = .returned (.int .i64 3) ∧ Below W.heap.size W w') := by
    intro W
    have := frCheck_at HC2.out aS aH aF aL M.free.length M.locks.length cS cH cF cL M.now a3 c3 W hnS hnH hkg
    rwa [HD.out, HEe.out] at this
  go_wp2_with fail
  refine (HCh.out w4).mono ?_
  rintro e w5 ⟨rfl, hb5⟩
  have HE5 : Hid _ := HE4.out.below hb5
  go_wp2
  go_ret
  exact ⟨rfl, HE5.out.bl⟩

set_option maxHeartbeats 3200000 in
theorem begins_any (M : Mm) (v : Value) (c : Cl) (w : World) (A0 : Ans 0 w v M) :
    Calls Try.prog 5 #[v, .agg #[.int .i64 c.kind, .int .i64 c.a, .int .i64 c.b, .int .i64 c.time, .int .i64 c.bk, .int .i64 c.slot]] w fun e w' => e = .returned (.bool true) ∧ Below w.heap.size w w' := by
  obtain ⟨aS, aH, aF, aL, cS, cH, cF, cL, rfl⟩ := A0.form
  have m1 := A0.at_.s.max; have m2 := A0.at_.h.max
  have hnS : M.slots.length ≤ 9223372036854775000 := by omega
  have hnH : M.heads.length ≤ 9223372036854775000 := by omega
  obtain ⟨E, hE⟩ : ∃ x, x = callE M.slots.length M.heads.length c := ⟨_, rfl⟩
  obtain ⟨f, hf⟩ : ∃ f, f = newF c := ⟨_, rfl⟩
  obtain ⟨g, hg⟩ : ∃ g, g = endF f E := ⟨_, rfl⟩
  have HC : Hid (E = callE M.slots.length M.heads.length c) := hE
  have HF : Hid (f = newF c) := hf
  have HG : Hid (g = endF f E) := hg
  have HC1 : Hid (E = frE M.slots.length M.heads.length f) := by show _ = _; rw [hf, frE_new]; exact hE
  have hs : f.slot = -1 := by rw [hf]; rfl
  have hp : f.pl = 0 := by rw [hf]; rfl
  have hd : f.done = false := by rw [hf]; rfl
  have HGd : Hid (g.done = true) := by show _ = _; rw [hg]; rfl
  have hkf : f.keys.length ≤ 9223372036854775807 := by rw [hf]; exact Nat.zero_le _
  have HK0 : Hid (f.keys = []) := by show _ = _; rw [hf]; rfl
  have HS : Hid (f.slot = -1) := hs
  have HP : Hid (f.pl = 0) := hp
  have HD : Hid (f.done = false) := hd
  clear hf hg hE hs hp hd
  obtain ⟨om, hom⟩ : ∃ o : Obj, o = .cells #[.slice aS M.slots.length cS, .slice aH M.heads.length cH, .slice aF M.free.length cF, .slice aL M.locks.length cL, .int .i64 M.now] 25 := ⟨_, rfl⟩
  obtain ⟨oc, hoc⟩ : ∃ o : Obj, o = .cells #[.int .i64 c.kind, .int .i64 c.a, .int .i64 c.b, .int .i64 c.time, .int .i64 c.bk, .int .i64 c.slot] 48 := ⟨_, rfl⟩
  have HE0 : Hid (Env w ((w.alloc om).alloc oc) _ []) := ((⟨Below.refl _ _, (fun p hp => by cases hp), (fun p hp => by cases hp)⟩ : Env w w [] []).alloc om).alloc oc
  rw [show (w.alloc om).heap.size = w.heap.size + 1 by simp] at HE0
  clear A0
  go_enter Try.func5, Try.ntmps5
  go_wp2_with fail
  rw [← hom, ← hoc]
  generalize (w.alloc om).alloc oc = W0 at *
  subst hom hoc
  refine (callE_at HC.out aS aH aF aL _ _ cS cH cF cL _ W0 (by omega) (by omega)).mono ?_
  rintro e w1 ⟨rfl, hb1⟩
  have HE1 : Hid _ := HE0.out.below hb1
  clear HE0 hb1
  obtain ⟨c0, c1, c2, c3, c4, c5, cs⟩ := callf (HE1.out.box _ (.head _))
  go_wp2_with fail
  clear c0 c1 c2 c3 c4 c5 cs
  refine (newFr_at HF.out w1).mono ?_
  rintro e w2 ⟨rfl, hb2⟩
  have HE2 : Hid _ := (HE1.out.below hb2).alloc (.cells #[.int .i64 f.c.kind, .int .i64 f.c.a, .int .i64 f.c.b, .int .i64 f.c.time, .int .i64 f.c.bk, .int .i64 f.c.slot, .int .i64 f.pl, .int .i64 f.cur, .int .i64 f.prev, .int .i64 f.slot, .int .i64 f.n, .slice none f.keys.length 0, .bool f.done, .int .i64 f.e] 51)
  clear HE1 hb2
  go_wp2_with fail
  generalize hX2 : w2.heap.size = X2 at *
  generalize w2.alloc (.cells #[.int .i64 f.c.kind, .int .i64 f.c.a, .int .i64 f.c.b, .int .i64 f.c.time, .int .i64 f.c.bk, .int .i64 f.c.slot, .int .i64 f.pl, .int .i64 f.cur, .int .i64 f.prev, .int .i64 f.slot, .int .i64 f.n, .slice none f.keys.length 0, .bool f.done, .int .i64 f.e] 51) = W2 at *
  clear hX2
  refine (framed_any W2).mono ?_
  rintro e w3 ⟨rfl, hb3⟩
  have HE3 : Hid _ := HE2.out.below hb3
  clear HE2 hb3
  obtain ⟨q0, q1, q2, q3, q4, -, -, -, -, -, qs⟩ := boxf (HE3.out.box _ (.tail _ (.tail _ (.head _))))
  obtain ⟨f0, f1, f2, f3, f4, f5, f6, f7, f8, f9, f10, f11, f12, f13, -, fs⟩ := framef (HE3.out.box _ (.head _))
  go_wp2_with fail
  clear q0 q1 q2 q3 q4 qs f0 f1 f2 f3 f4 f5 f6 f7 f8 f9 f10 f11 f12 f13 fs
  refine (frCheck_at HC1.out aS aH aF aL _ _ cS cH cF cL _ none 0 w3 hnS hnH hkf).mono ?_
  rintro e w4 ⟨rfl, hb4⟩
  have HE4 : Hid _ := HE3.out.below hb4
  clear HE3 hb4
  obtain ⟨f0, f1, f2, f3, f4, f5, f6, f7, f8, f9, f10, f11, f12, f13, -, fs⟩ := framef (HE4.out.box _ (.head _))
  rw [HP.out] at f6
  rw [HS.out] at f9
  rw [HD.out] at f12
  have HEn : Hid (∀ W : World, Calls Try.prog 30 #[.agg #[.int .i64 f.c.kind, .int .i64 f.c.a, .int .i64 f.c.b, .int .i64 f.c.time, .int .i64 f.c.bk, .int .i64 f.c.slot, .int .i64 0, .int .i64 f.cur, .int .i64 f.prev, .int .i64 (-1), .int .i64 f.n, .slice none f.keys.length 0, .bool false, .int .i64 f.e], .int .i64 E] W fun e w' => ∃ a c, e = .returned (.agg #[.int .i64 g.c.kind, .int .i64 g.c.a, .int .i64 g.c.b, .int .i64 g.c.time, .int .i64 g.c.bk, .int .i64 g.c.slot, .int .i64 g.pl, .int .i64 g.cur, .int .i64 g.prev, .int .i64 g.slot, .int .i64 g.n, .slice a g.keys.length c, .bool g.done, .int .i64 g.e]) ∧ KRow w' a c g.keys ∧ Below W.heap.size W w') := by
    intro W
    have := endFr_at HG.out none 0 W (by rw [HK0.out]; exact krow_nil _)
    rwa [HP.out, HS.out, HD.out] at this
  go_wp2_with fail
  refine (HEn.out w4).mono ?_
  rintro e w5 ⟨a5, c5, rfl, -, hb5⟩
  have HE5 : Hid _ := HE4.out.below hb5
  have hfl : ∀ (W : World), (Instr.field 51 (.agg #[.int .i64 g.c.kind, .int .i64 g.c.a, .int .i64 g.c.b, .int .i64 g.c.time, .int .i64 g.c.bk, .int .i64 g.c.slot, .int .i64 g.pl, .int .i64 g.cur, .int .i64 g.prev, .int .i64 g.slot, .int .i64 g.n, .slice a5 g.keys.length c5, .bool g.done, .int .i64 g.e]) 7).run Try.prog W = .ok (.bool true) W := fun W => Eq.trans (b := .ok (.bool g.done) W) (by kernel_rfl) (by rw [HGd.out])
  go_wp2
  go_ret
  exact ⟨rfl, HE5.out.bl⟩


end Go.Proofs.Ytdbilofhcadmoab.mm

/- The contract of alone: a call that goes on alone, by the steps that are handed in. -/
namespace Go.Proofs.Ytdbilofhcadmoab.mm
open Go.ChangeShapes Go.WideShapes Go.ChangeAt Go.RowKit Go.Joins
set_option maxRecDepth 100000
set_option linter.unusedVariables false

def run (nf : Mm → Fr → Fr) (nm : Mm → Fr → Mm) : Nat → Mm → Fr → Mm × Fr × Bool
  | 0, M, f => (M, f, false)
  | k + 1, M, f => if (nf M f).done then (nm M f, nf M f, true) else run nf nm k (nm M f) (nf M f)

theorem run_look : ∀ (k : Nat) (M : Mm) (f : Fr), run lkF lkM k M f = lkRun k M f
  | 0, _, _ => rfl
  | k + 1, M, f => by
    show (if (lkF M f).done then (lkM M f, lkF M f, true) else run lkF lkM k (lkM M f) (lkF M f)) = _
    rw [run_look k]; rfl

/- What alone carries: the memory, the frame in its box, the answer's box. -/
structure Al (w w1 : World) (Z : Nat → Prop) (B lo X : Nat) (M : Mm) (f : Fr) (a : Option Addr) (c : Nat) : Prop where
  fine : Fine w w1 Z
  has : ∃ Y : Nat → Prop, Has w1 B lo Y M ∧ ¬ Y X ∧ ¬ Y (w.heap.size + 1) ∧ ∀ k, Y k → Z k ∨ w.heap.size ≤ k
  hx : w.heap.size + 1 < X
  xb : w1.heap[X]? = some (.cells #[.int .i64 f.c.kind, .int .i64 f.c.a, .int .i64 f.c.b, .int .i64 f.c.time, .int .i64 f.c.bk, .int .i64 f.c.slot, .int .i64 f.pl, .int .i64 f.cur, .int .i64 f.prev, .int .i64 f.slot, .int .i64 f.n, .slice a f.keys.length c, .bool f.done, .int .i64 f.e] 51 (0, 0))
  rb : w1.heap[w.heap.size + 1]? = some zeroFr

section
variable {w w1 w2 : World} {Z : Nat → Prop} {B lo X : Nat} {M M' : Mm} {f : Fr} {a : Option Addr} {c : Nat}
theorem Al.step {Y : Nat → Prop} (h : Al w w1 Z B lo X M f a c) (n1 : ¬ Y X) (n2 : ¬ Y (w.heap.size + 1)) (n3 : ∀ k, Y k → Z k ∨ w.heap.size ≤ k) (hh : Has w2 B lo (Up w1 Y) M') (hf : Fine w1 w2 Y) : Al w w2 Z B lo X M' f a c := by
  have s1 := lt_of_block h.xb
  have s2 := lt_of_block h.rb
  have s3 := h.fine.size
  refine ⟨h.fine.trans hf fun k h1 h2 => (n3 k h2).elim id (fun h3 => by omega), ⟨Up w1 Y, hh, fun h1 => h1.elim n1 (fun h2 => by omega), fun h1 => h1.elim n2 (fun h2 => by omega), fun k h1 => h1.elim (n3 k) (fun h2 => .inr (by omega))⟩, h.hx, (hf.block _ s1 n1).trans h.xb, (hf.block _ s2 n2).trans h.rb⟩
theorem Al.store (h : Al w w1 Z B lo X M f a c) (j : Nat) (v : Value) (g : Fr) (b : Option Addr) (d : Nat) (hg : (#[.int .i64 f.c.kind, .int .i64 f.c.a, .int .i64 f.c.b, .int .i64 f.c.time, .int .i64 f.c.bk, .int .i64 f.c.slot, .int .i64 f.pl, .int .i64 f.cur, .int .i64 f.prev, .int .i64 f.slot, .int .i64 f.n, .slice a f.keys.length c, .bool f.done, .int .i64 f.e] : Array Value).setIfInBounds j v = #[.int .i64 g.c.kind, .int .i64 g.c.a, .int .i64 g.c.b, .int .i64 g.c.time, .int .i64 g.c.bk, .int .i64 g.c.slot, .int .i64 g.pl, .int .i64 g.cur, .int .i64 g.prev, .int .i64 g.slot, .int .i64 g.n, .slice b g.keys.length d, .bool g.done, .int .i64 g.e]) :
    Al w (w1.setCell ⟨X, j, none⟩ v) Z B lo X M g b d := by
  obtain ⟨Y, y1, y2, y3, y4⟩ := h.has
  have hx := h.hx
  refine ⟨h.fine.set (.inr (by omega)) _ _, ⟨Y, y1.same (by simp) (fun k _ hk => ?_), y2, y3, y4⟩, hx, ?_, by rw [Below.heap_setCell _ _ _ _ (by dsimp only; omega)]; exact h.rb⟩
  · rw [Below.heap_setCell _ _ _ _ (by dsimp only; rintro rfl; exact y2 hk)]
  · rw [block_setCell h.xb v, hg]
theorem Al.all (h : Al w w1 Z B lo X M f a c) (g : Fr) (b : Option Addr) (d : Nat) :
    Al w ((((((((((((((w1.setCell ⟨X, 0, none⟩ (.int .i64 g.c.kind)).setCell ⟨X, 1, none⟩ (.int .i64 g.c.a)).setCell ⟨X, 2, none⟩ (.int .i64 g.c.b)).setCell ⟨X, 3, none⟩ (.int .i64 g.c.time)).setCell ⟨X, 4, none⟩ (.int .i64 g.c.bk)).setCell ⟨X, 5, none⟩ (.int .i64 g.c.slot)).setCell ⟨X, 6, none⟩ (.int .i64 g.pl)).setCell ⟨X, 7, none⟩ (.int .i64 g.cur)).setCell ⟨X, 8, none⟩ (.int .i64 g.prev)).setCell ⟨X, 9, none⟩ (.int .i64 g.slot)).setCell ⟨X, 10, none⟩ (.int .i64 g.n)).setCell ⟨X, 11, none⟩ (.slice b g.keys.length d)).setCell ⟨X, 12, none⟩ (.bool g.done)).setCell ⟨X, 13, none⟩ (.int .i64 g.e)) Z B lo X M g b d :=
  ((((((((((((((h).store 0 (.int .i64 g.c.kind) ⟨⟨g.c.kind, f.c.a, f.c.b, f.c.time, f.c.bk, f.c.slot⟩, f.pl, f.cur, f.prev, f.slot, f.n, f.keys, f.done, f.e⟩ a c rfl).store 1 (.int .i64 g.c.a) ⟨⟨g.c.kind, g.c.a, f.c.b, f.c.time, f.c.bk, f.c.slot⟩, f.pl, f.cur, f.prev, f.slot, f.n, f.keys, f.done, f.e⟩ a c rfl).store 2 (.int .i64 g.c.b) ⟨⟨g.c.kind, g.c.a, g.c.b, f.c.time, f.c.bk, f.c.slot⟩, f.pl, f.cur, f.prev, f.slot, f.n, f.keys, f.done, f.e⟩ a c rfl).store 3 (.int .i64 g.c.time) ⟨⟨g.c.kind, g.c.a, g.c.b, g.c.time, f.c.bk, f.c.slot⟩, f.pl, f.cur, f.prev, f.slot, f.n, f.keys, f.done, f.e⟩ a c rfl).store 4 (.int .i64 g.c.bk) ⟨⟨g.c.kind, g.c.a, g.c.b, g.c.time, g.c.bk, f.c.slot⟩, f.pl, f.cur, f.prev, f.slot, f.n, f.keys, f.done, f.e⟩ a c rfl).store 5 (.int .i64 g.c.slot) ⟨⟨g.c.kind, g.c.a, g.c.b, g.c.time, g.c.bk, g.c.slot⟩, f.pl, f.cur, f.prev, f.slot, f.n, f.keys, f.done, f.e⟩ a c rfl).store 6 (.int .i64 g.pl) ⟨⟨g.c.kind, g.c.a, g.c.b, g.c.time, g.c.bk, g.c.slot⟩, g.pl, f.cur, f.prev, f.slot, f.n, f.keys, f.done, f.e⟩ a c rfl).store 7 (.int .i64 g.cur) ⟨⟨g.c.kind, g.c.a, g.c.b, g.c.time, g.c.bk, g.c.slot⟩, g.pl, g.cur, f.prev, f.slot, f.n, f.keys, f.done, f.e⟩ a c rfl).store 8 (.int .i64 g.prev) ⟨⟨g.c.kind, g.c.a, g.c.b, g.c.time, g.c.bk, g.c.slot⟩, g.pl, g.cur, g.prev, f.slot, f.n, f.keys, f.done, f.e⟩ a c rfl).store 9 (.int .i64 g.slot) ⟨⟨g.c.kind, g.c.a, g.c.b, g.c.time, g.c.bk, g.c.slot⟩, g.pl, g.cur, g.prev, g.slot, f.n, f.keys, f.done, f.e⟩ a c rfl).store 10 (.int .i64 g.n) ⟨⟨g.c.kind, g.c.a, g.c.b, g.c.time, g.c.bk, g.c.slot⟩, g.pl, g.cur, g.prev, g.slot, g.n, f.keys, f.done, f.e⟩ a c rfl).store 11 (.slice b g.keys.length d) ⟨⟨g.c.kind, g.c.a, g.c.b, g.c.time, g.c.bk, g.c.slot⟩, g.pl, g.cur, g.prev, g.slot, g.n, g.keys, f.done, f.e⟩ b d rfl).store 12 (.bool g.done) ⟨⟨g.c.kind, g.c.a, g.c.b, g.c.time, g.c.bk, g.c.slot⟩, g.pl, g.cur, g.prev, g.slot, g.n, g.keys, g.done, f.e⟩ b d rfl).store 13 (.int .i64 g.e) ⟨⟨g.c.kind, g.c.a, g.c.b, g.c.time, g.c.bk, g.c.slot⟩, g.pl, g.cur, g.prev, g.slot, g.n, g.keys, g.done, g.e⟩ b d rfl
theorem Al.end14 (h : Al w w1 Z B lo X M f a c) {v0 v1 v2 v3 v4 v5 v6 v7 v8 v9 v10 v11 v12 v13 : Value} : Has ((((((((((((((w1.setCell ⟨w.heap.size + 1, 0, none⟩ v0).setCell ⟨w.heap.size + 1, 1, none⟩ v1).setCell ⟨w.heap.size + 1, 2, none⟩ v2).setCell ⟨w.heap.size + 1, 3, none⟩ v3).setCell ⟨w.heap.size + 1, 4, none⟩ v4).setCell ⟨w.heap.size + 1, 5, none⟩ v5).setCell ⟨w.heap.size + 1, 6, none⟩ v6).setCell ⟨w.heap.size + 1, 7, none⟩ v7).setCell ⟨w.heap.size + 1, 8, none⟩ v8).setCell ⟨w.heap.size + 1, 9, none⟩ v9).setCell ⟨w.heap.size + 1, 10, none⟩ v10).setCell ⟨w.heap.size + 1, 11, none⟩ v11).setCell ⟨w.heap.size + 1, 12, none⟩ v12).setCell ⟨w.heap.size + 1, 13, none⟩ v13) B lo (Up w Z) M ∧ Fine w ((((((((((((((w1.setCell ⟨w.heap.size + 1, 0, none⟩ v0).setCell ⟨w.heap.size + 1, 1, none⟩ v1).setCell ⟨w.heap.size + 1, 2, none⟩ v2).setCell ⟨w.heap.size + 1, 3, none⟩ v3).setCell ⟨w.heap.size + 1, 4, none⟩ v4).setCell ⟨w.heap.size + 1, 5, none⟩ v5).setCell ⟨w.heap.size + 1, 6, none⟩ v6).setCell ⟨w.heap.size + 1, 7, none⟩ v7).setCell ⟨w.heap.size + 1, 8, none⟩ v8).setCell ⟨w.heap.size + 1, 9, none⟩ v9).setCell ⟨w.heap.size + 1, 10, none⟩ v10).setCell ⟨w.heap.size + 1, 11, none⟩ v11).setCell ⟨w.heap.size + 1, 12, none⟩ v12).setCell ⟨w.heap.size + 1, 13, none⟩ v13) Z := by
  have hb := set14 (w := w1) (w1 := w1) (n := w.heap.size) (v0 := v0) (v1 := v1) (v2 := v2) (v3 := v3) (v4 := v4) (v5 := v5) (v6 := v6) (v7 := v7) (v8 := v8) (v9 := v9) (v10 := v10) (v11 := v11) (v12 := v12) (v13 := v13) (Below.refl _ _)
  have hk : ∀ k, k ≠ w.heap.size + 1 → ((((((((((((((w1.setCell ⟨w.heap.size + 1, 0, none⟩ v0).setCell ⟨w.heap.size + 1, 1, none⟩ v1).setCell ⟨w.heap.size + 1, 2, none⟩ v2).setCell ⟨w.heap.size + 1, 3, none⟩ v3).setCell ⟨w.heap.size + 1, 4, none⟩ v4).setCell ⟨w.heap.size + 1, 5, none⟩ v5).setCell ⟨w.heap.size + 1, 6, none⟩ v6).setCell ⟨w.heap.size + 1, 7, none⟩ v7).setCell ⟨w.heap.size + 1, 8, none⟩ v8).setCell ⟨w.heap.size + 1, 9, none⟩ v9).setCell ⟨w.heap.size + 1, 10, none⟩ v10).setCell ⟨w.heap.size + 1, 11, none⟩ v11).setCell ⟨w.heap.size + 1, 12, none⟩ v12).setCell ⟨w.heap.size + 1, 13, none⟩ v13).heap[k]? = w1.heap[k]? := fun k hk => by
    repeat rw [Below.heap_setCell _ _ _ _ (by dsimp only; exact hk)]
  obtain ⟨Y, y1, y2, y3, y4⟩ := h.has
  refine ⟨(y1.same hb.size (fun k _ h2 => hk k (by rintro rfl; exact y3 h2))).mono (fun k _ h1 => y4 k h1), ⟨hb.os.trans h.fine.os, hb.tape.trans h.fine.tape, hb.output.trans h.fine.output, Nat.le_trans h.fine.size hb.size, fun k h1 h2 => (hk k (by omega)).trans (h.fine.block k h1 h2)⟩⟩
end

set_option maxHeartbeats 3200000 in
theorem alone_any (F : Nat) (caps : Array Value) (nf : Mm → Fr → Fr) (nm : Mm → Fr → Mm) (G : Mm → Fr → Prop) (B lo : Nat) (Z : Nat → Prop) (M : Mm) (c : Cl) (most : Nat) (w : World)
    (hF : ∀ args W, (callFunc F args).run Try.prog W = .ok (.enter F args) W)
    (hS : ∀ (M : Mm) (f : Fr) (W : World) (Z : Nat → Prop), G M f → Has W B lo Z M → Calls Try.prog F (#[.agg #[.int .i64 f.c.kind, .int .i64 f.c.a, .int .i64 f.c.b, .int .i64 f.c.time, .int .i64 f.c.bk, .int .i64 f.c.slot, .int .i64 f.pl, .int .i64 f.cur, .int .i64 f.prev, .int .i64 f.slot, .int .i64 f.n, .slice none f.keys.length 0, .bool f.done, .int .i64 f.e]] ++ caps) W fun e W' => (∃ a c, e = .returned (.agg #[.int .i64 (nf M f).c.kind, .int .i64 (nf M f).c.a, .int .i64 (nf M f).c.b, .int .i64 (nf M f).c.time, .int .i64 (nf M f).c.bk, .int .i64 (nf M f).c.slot, .int .i64 (nf M f).pl, .int .i64 (nf M f).cur, .int .i64 (nf M f).prev, .int .i64 (nf M f).slot, .int .i64 (nf M f).n, .slice a (nf M f).keys.length c, .bool (nf M f).done, .int .i64 (nf M f).e]) ∧ ((nf M f).done = false → a = none ∧ c = 0)) ∧ Has W' B lo (Up W Z) (nm M f) ∧ Fine W W' Z)
    (hG : ∀ M f, G M f → (nf M f).done = false → G (nm M f) (nf M f))
    (hM : Has w B lo Z M) (hZ : ∀ k, Z k → k < w.heap.size) (h0 : G M (newF c)) (hm : most ≤ 1000) :
    Calls Try.prog 42 #[.agg #[.int .i64 c.kind, .int .i64 c.a, .int .i64 c.b, .int .i64 c.time, .int .i64 c.bk, .int .i64 c.slot], .int .i64 most, .func (.func F) #[] caps] w fun e w' =>
      (∃ a c', e = .returned (.tuple #[.agg #[.int .i64 ((run nf nm most M (newF c)).2.1).c.kind, .int .i64 ((run nf nm most M (newF c)).2.1).c.a, .int .i64 ((run nf nm most M (newF c)).2.1).c.b, .int .i64 ((run nf nm most M (newF c)).2.1).c.time, .int .i64 ((run nf nm most M (newF c)).2.1).c.bk, .int .i64 ((run nf nm most M (newF c)).2.1).c.slot, .int .i64 ((run nf nm most M (newF c)).2.1).pl, .int .i64 ((run nf nm most M (newF c)).2.1).cur, .int .i64 ((run nf nm most M (newF c)).2.1).prev, .int .i64 ((run nf nm most M (newF c)).2.1).slot, .int .i64 ((run nf nm most M (newF c)).2.1).n, .slice a ((run nf nm most M (newF c)).2.1).keys.length c', .bool ((run nf nm most M (newF c)).2.1).done, .int .i64 ((run nf nm most M (newF c)).2.1).e], .bool (run nf nm most M (newF c)).2.2])) ∧ Has w' B lo (Up w Z) (run nf nm most M (newF c)).1 ∧ Fine w w' Z := by
  obtain ⟨f, hf⟩ : ∃ f, f = newF c := ⟨_, rfl⟩
  have HF : Hid (f = newF c) := hf
  rw [← hf]
  rw [← hf] at h0
  clear hf
  have HFn : Hid _ := hF
  have HS : Hid (∀ (M : Mm) (f : Fr) (W : World) (Z : Nat → Prop), G M f → Has W B lo Z M → Calls Try.prog F (#[.agg #[.int .i64 f.c.kind, .int .i64 f.c.a, .int .i64 f.c.b, .int .i64 f.c.time, .int .i64 f.c.bk, .int .i64 f.c.slot, .int .i64 f.pl, .int .i64 f.cur, .int .i64 f.prev, .int .i64 f.slot, .int .i64 f.n, .slice none f.keys.length 0, .bool f.done, .int .i64 f.e]] ++ caps) W fun e W' => (∃ a c, e = .returned (.agg #[.int .i64 (nf M f).c.kind, .int .i64 (nf M f).c.a, .int .i64 (nf M f).c.b, .int .i64 (nf M f).c.time, .int .i64 (nf M f).c.bk, .int .i64 (nf M f).c.slot, .int .i64 (nf M f).pl, .int .i64 (nf M f).cur, .int .i64 (nf M f).prev, .int .i64 (nf M f).slot, .int .i64 (nf M f).n, .slice a (nf M f).keys.length c, .bool (nf M f).done, .int .i64 (nf M f).e]) ∧ ((nf M f).done = false → a = none ∧ c = 0)) ∧ Has W' B lo (Up W Z) (nm M f) ∧ Fine W W' Z) := hS
  have HG : Hid (∀ M f, G M f → (nf M f).done = false → G (nm M f) (nf M f)) := hG
  have HM : Hid (Has w B lo Z M) := hM
  have HZ : Hid (∀ k, Z k → k < w.heap.size) := hZ
  have H0 : Hid (G M f) := h0
  clear hF hS hG hM hZ h0
  obtain ⟨oc, hoc⟩ : ∃ o : Obj, o = .cells #[.int .i64 c.kind, .int .i64 c.a, .int .i64 c.b, .int .i64 c.time, .int .i64 c.bk, .int .i64 c.slot] 48 := ⟨_, rfl⟩
  obtain ⟨oz, hoz⟩ : ∃ o : Obj, o = zeroFr := ⟨_, rfl⟩
  have HE0 : Hid (Env w ((w.alloc oc).alloc oz) [((w.alloc oc).heap.size, oz), (w.heap.size, oc)] []) := ((⟨Below.refl _ _, (fun p hp => by cases hp), (fun p hp => by cases hp)⟩ : Env w w [] []).alloc oc).alloc oz
  rw [show (w.alloc oc).heap.size = w.heap.size + 1 by simp] at HE0
  have HOz : Hid (oz = zeroFr) := hoz
  unfold zeroFr at hoz
  go_enter Try.func42, Try.ntmps42
  go_wp2_with fail
  rw [← hoc, ← hoz]
  generalize (w.alloc oc).alloc oz = W0 at *
  clear hoz
  refine (newFr_at HF.out W0).mono ?_
  rintro e w1 ⟨rfl, hb1⟩
  have HE1 : Hid _ := HE0.out.below hb1
  have HE2 : Hid (Env w (w1.alloc (.cells #[.int .i64 f.c.kind, .int .i64 f.c.a, .int .i64 f.c.b, .int .i64 f.c.time, .int .i64 f.c.bk, .int .i64 f.c.slot, .int .i64 f.pl, .int .i64 f.cur, .int .i64 f.prev, .int .i64 f.slot, .int .i64 f.n, .slice none f.keys.length 0, .bool f.done, .int .i64 f.e] 51)) ((w1.heap.size, .cells #[.int .i64 f.c.kind, .int .i64 f.c.a, .int .i64 f.c.b, .int .i64 f.c.time, .int .i64 f.c.bk, .int .i64 f.c.slot, .int .i64 f.pl, .int .i64 f.cur, .int .i64 f.prev, .int .i64 f.slot, .int .i64 f.n, .slice none f.keys.length 0, .bool f.done, .int .i64 f.e] 51) :: [(w.heap.size + 1, oz), (w.heap.size, oc)]) []) := HE1.out.alloc _
  have HA0 : Hid (Al w (w1.alloc (.cells #[.int .i64 f.c.kind, .int .i64 f.c.a, .int .i64 f.c.b, .int .i64 f.c.time, .int .i64 f.c.bk, .int .i64 f.c.slot, .int .i64 f.pl, .int .i64 f.cur, .int .i64 f.prev, .int .i64 f.slot, .int .i64 f.n, .slice none f.keys.length 0, .bool f.done, .int .i64 f.e] 51)) Z B lo w1.heap.size M f none 0) := by
    have h1 := HE1.out.lt (.head _)
    refine ⟨.of_below _ HE2.out.bl, ⟨Z, HM.out.below HE2.out.bl, fun h => by have := HZ.out _ h; omega, fun h => by have := HZ.out _ h; omega, fun k h => .inl h⟩, h1, HE2.out.box _ (.head _), HOz.out ▸ HE2.out.box _ (.tail _ (.head _))⟩
  clear HE0 HE1 HE2 hb1 HM HOz hoc
  go_wp2
  generalize hX : w1.heap.size = X at *
  generalize w1.alloc (.cells #[.int .i64 f.c.kind, .int .i64 f.c.a, .int .i64 f.c.b, .int .i64 f.c.time, .int .i64 f.c.bk, .int .i64 f.c.slot, .int .i64 f.pl, .int .i64 f.cur, .int .i64 f.prev, .int .i64 f.slot, .int .i64 f.n, .slice none f.keys.length 0, .bool f.done, .int .i64 f.e] 51) = W1 at *
  clear hX
  go_loopw [12] (fun i wr => ∃ k : Nat, k ≤ most ∧ i = .int .i64 k ∧ ∃ (N : Mm) (f' : Fr), Hid (Al w wr Z B lo X N f' none 0 ∧ G N f' ∧ run nf nm most M f = run nf nm (most - k) N f'))
    (fun i _ => most - (intOf i).toNat)
  case atStart => exact ⟨0, Nat.zero_le _, rfl, M, f, HA0.out, H0.out, rfl⟩
  case round =>
    obtain ⟨k, hk, rfl, N, f', HI⟩ := hrel
    clear HA0 H0 HF
    by_cases hlt : k < most
    · obtain ⟨Y, y1, y2, y3, y4⟩ := HI.out.1.has
      have HSt : Hid (Calls Try.prog F (#[.agg #[.int .i64 (f').c.kind, .int .i64 (f').c.a, .int .i64 (f').c.b, .int .i64 (f').c.time, .int .i64 (f').c.bk, .int .i64 (f').c.slot, .int .i64 (f').pl, .int .i64 (f').cur, .int .i64 (f').prev, .int .i64 (f').slot, .int .i64 (f').n, .slice none (f').keys.length 0, .bool (f').done, .int .i64 (f').e]] ++ caps) wr fun e W' => (∃ a c, e = .returned (.agg #[.int .i64 (nf N f').c.kind, .int .i64 (nf N f').c.a, .int .i64 (nf N f').c.b, .int .i64 (nf N f').c.time, .int .i64 (nf N f').c.bk, .int .i64 (nf N f').c.slot, .int .i64 (nf N f').pl, .int .i64 (nf N f').cur, .int .i64 (nf N f').prev, .int .i64 (nf N f').slot, .int .i64 (nf N f').n, .slice a (nf N f').keys.length c, .bool (nf N f').done, .int .i64 (nf N f').e]) ∧ ((nf N f').done = false → a = none ∧ c = 0)) ∧ Has W' B lo (Up wr Y) (nm N f') ∧ Fine wr W' Y) := HS.out N f' wr Y HI.out.2.1 y1
      have HNx : Hid (∀ (w2 : World), Has w2 B lo (Up wr Y) (nm N f') → Fine wr w2 Y → Al w w2 Z B lo X (nm N f') f' none 0) := fun w2 hh hf => HI.out.1.step y2 y3 y4 hh hf
      have HGn : Hid ((nf N f').done = false → G (nm N f') (nf N f')) := HG.out N f' HI.out.2.1
      have HRn : Hid (run nf nm most M f = if (nf N f').done then (nm N f', nf N f', true) else run nf nm (most - (k + 1)) (nm N f') (nf N f')) := HI.out.2.2.trans (by rw [show most - k = (most - (k + 1)) + 1 by omega]; rfl)
      obtain ⟨f0, f1, f2, f3, f4, f5, f6, f7, f8, f9, f10, f11, f12, f13, ff, fs⟩ := framef HI.out.1.xb
      clear y1 y2 y3 y4 HI HS HG
      generalize nm N f' = N2 at *
      generalize nf N f' = g at *
      go_wp2_with fail
      rw [HFn.out]
      refine HSt.out.mono ?_
      rintro e w2 ⟨⟨a2, c2, rfl, hd2⟩, hh2, hf2⟩
      have HA2 : Hid (Al w w2 Z B lo X N2 f' none 0) := HNx.out w2 hh2 hf2
      have HD2 : Hid (g.done = false → a2 = none ∧ c2 = 0) := hd2
      clear f0 f1 f2 f3 f4 f5 f6 f7 f8 f9 f10 f11 f12 f13 ff fs HSt HNx hh2 hf2 hd2
      obtain ⟨f0, f1, f2, f3, f4, f5, f6, f7, f8, f9, f10, f11, f12, f13, ff, fs⟩ := framef HA2.out.xb
      have HA3 : Hid _ := HA2.out.all g a2 c2
      cases hdn : g.done
      · rw [hdn] at HA3
        obtain ⟨ea, ec⟩ := HD2.out hdn
        have HG2 : Hid (G N2 g) := HGn.out hdn
        have HR2 : Hid (run nf nm most M f = run nf nm (most - (k + 1)) N2 g) := HRn.out.trans (by rw [hdn]; rfl)
        subst ea ec
        clear hdn HA2 HD2 HGn HRn
        go_wp2
        go_roundw
        case rel => exact ⟨k + 1, by omega, by go_num, N2, g, HA3.out, HG2.out, HR2.out⟩
        case measure => simp [intOf]; omega
      · rw [hdn] at HA3
        have HR2 : Hid (run nf nm most M f = (N2, g, true)) := HRn.out.trans (by rw [hdn]; rfl)
        have HDn : Hid (g.done = true) := hdn
        obtain ⟨g0, g1, g2, g3, g4, g5, g6, g7, g8, g9, g10, g11, g12, g13, gf, gs⟩ := framef HA2.out.rb
        have hx1 := HA2.out.hx
        have hne : X ≠ w.heap.size + 1 := by omega
        clear hdn HA2 HD2 HGn HRn
        go_wp2
        refine bodyPost_ret (v := .tuple #[.agg #[.int .i64 g.c.kind, .int .i64 g.c.a, .int .i64 g.c.b, .int .i64 g.c.time, .int .i64 g.c.bk, .int .i64 g.c.slot, .int .i64 g.pl, .int .i64 g.cur, .int .i64 g.prev, .int .i64 g.slot, .int .i64 g.n, .slice a2 g.keys.length c2, .bool g.done, .int .i64 g.e], .bool true]) (by simp [results, Try.results42, go_sem, HDn.out, g0, g1, g2, g3, g4, g5, g6, g7, g8, g9, g10, g11, g12, g13]) rfl ⟨⟨a2, c2, by rw [HR2.out]⟩, ?_⟩
        rw [HR2.out]
        exact HA3.out.end14
    · have hk' : most - k = 0 := by omega
      have HRn : Hid (run nf nm most M f = (N, f', false)) := HI.out.2.2.trans (by rw [hk']; rfl)
      obtain ⟨f0, f1, f2, f3, f4, f5, f6, f7, f8, f9, f10, f11, f12, f13, ff, fs⟩ := framef HI.out.1.xb
      obtain ⟨g0, g1, g2, g3, g4, g5, g6, g7, g8, g9, g10, g11, g12, g13, gf, gs⟩ := framef HI.out.1.rb
      have hx1 := HI.out.1.hx
      have hne : X ≠ w.heap.size + 1 := by omega
      clear hk'
      go_wp2
      refine bodyPost_ret (v := .tuple #[.agg #[.int .i64 (f').c.kind, .int .i64 (f').c.a, .int .i64 (f').c.b, .int .i64 (f').c.time, .int .i64 (f').c.bk, .int .i64 (f').c.slot, .int .i64 (f').pl, .int .i64 (f').cur, .int .i64 (f').prev, .int .i64 (f').slot, .int .i64 (f').n, .slice none (f').keys.length 0, .bool (f').done, .int .i64 (f').e], .bool false]) (by simp [results, Try.results42, go_sem, g0, g1, g2, g3, g4, g5, g6, g7, g8, g9, g10, g11, g12, g13]) rfl ⟨⟨none, 0, by rw [HRn.out]⟩, ?_⟩
      rw [HRn.out]
      exact HI.out.1.end14


end Go.Proofs.Ytdbilofhcadmoab.mm
