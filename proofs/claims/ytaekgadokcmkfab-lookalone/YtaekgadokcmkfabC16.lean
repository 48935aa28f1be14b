/- A closed fact: a call that begins, and ends; FrameBegins' walk. -/
import Derived.Test.YtaekgadokcmkfabC07
import Derived.Test.YtaekgadokcmkfabC06
namespace Go.Proofs.Ytaekgadokcmkfab.mm
open Go.ChangeShapes Go.WideShapes Go.ChangeAt Go.RowKit Go.Joins Go.Maps
set_option maxRecDepth 100000
set_option linter.unusedVariables false

theorem frE_new (nS nH : Nat) (c : Cl) : frE nS nH (newF c) = callE nS nH c := by
  by_cases h : callE nS nH c = 0
  · rw [frE_rest (f := newF c) h rfl rfl rfl ((inB_iff _ _ _).2 (by dsimp only [newF]; omega)) ((inB_iff _ _ _).2 (by dsimp only [newF]; omega)) ((inB_iff _ _ _).2 (by dsimp only [newF]; omega)), h]
    rfl
  · exact frE_call (f := newF c) h
theorem newFr_at {c : Cl} {f : Fr} (h : f = newF c) (w : World) : Calls Try.prog 23 #[.agg #[.int .i64 c.kind, .int .i64 c.a, .int .i64 c.b, .int .i64 c.time, .int .i64 c.bk, .int .i64 c.slot]] w fun e w' => e = .returned (.agg #[.int .i64 f.c.kind, .int .i64 f.c.a, .int .i64 f.c.b, .int .i64 f.c.time, .int .i64 f.c.bk, .int .i64 f.c.slot, .int .i64 f.pl, .int .i64 f.cur, .int .i64 f.prev, .int .i64 f.slot, .int .i64 f.n, .slice none f.keys.length 0, .bool f.done, .int .i64 f.e]) ∧ Below w.heap.size w w' := by
  subst h; exact newFr_any c w
theorem endFr_at {f g : Fr} {e0 : Int} (h : g = endF f e0) (aK : Option Addr) (cK : Nat) (w : World) (r : KRow w aK cK f.keys) :
    Calls Try.prog 24 #[.agg #[.int .i64 f.c.kind, .int .i64 f.c.a, .int .i64 f.c.b, .int .i64 f.c.time, .int .i64 f.c.bk, .int .i64 f.c.slot, .int .i64 f.pl, .int .i64 f.cur, .int .i64 f.prev, .int .i64 f.slot, .int .i64 f.n, .slice aK f.keys.length cK, .bool f.done, .int .i64 f.e], .int .i64 e0] w fun e w' => ∃ a c, e = .returned (.agg #[.int .i64 g.c.kind, .int .i64 g.c.a, .int .i64 g.c.b, .int .i64 g.c.time, .int .i64 g.c.bk, .int .i64 g.c.slot, .int .i64 g.pl, .int .i64 g.cur, .int .i64 g.prev, .int .i64 g.slot, .int .i64 g.n, .slice a g.keys.length c, .bool g.done, .int .i64 g.e]) ∧ KRow w' a c g.keys ∧ Below w.heap.size w w' := by
  subst h; exact endFr_any f e0 aK cK w r
theorem frCheck_at {nS nH : Nat} {f : Fr} {E : Int} (h : E = frE nS nH f) (aS aH aF aL : Option Addr) (nF nL cS cH cF cL : Nat) (now : Int) (aK : Option Addr) (cK : Nat) (w : World) (hn : nS ≤ 9223372036854775000) (hh : nH ≤ 9223372036854775000) (hk : f.keys.length ≤ 9223372036854775807) :
    Calls Try.prog 20 #[.agg #[.slice aS nS cS, .slice aH nH cH, .slice aF nF cF, .slice aL nL cL, .int .i64 now], .agg #[.int .i64 f.c.kind, .int .i64 f.c.a, .int .i64 f.c.b, .int .i64 f.c.time, .int .i64 f.c.bk, .int .i64 f.c.slot, .int .i64 f.pl, .int .i64 f.cur, .int .i64 f.prev, .int .i64 f.slot, .int .i64 f.n, .slice aK f.keys.length cK, .bool f.done, .int .i64 f.e]] w fun e w' => e = .returned (.int .i64 E) ∧ Below w.heap.size w w' := by
  subst h; exact frCheck_any aS aH aF aL nS nH nF nL cS cH cF cL now f aK cK w hn hh hk

def fC : Cl := ⟨1, 0, 0, 0, 0, 0⟩

set_option maxHeartbeats 3200000 in
theorem framed_any (w : World) : Calls Try.prog 17 #[] w fun e w' => e = .returned (.bool true) ∧ Below w.heap.size w w' := by
  obtain ⟨M, hM⟩ : ∃ M, M = newM 1 1 := ⟨_, rfl⟩
  have HN : Hid (∀ W : World, Calls Try.prog 44 #[.int .i64 1, .int .i64 1] W fun e w' => ∃ v, e = .returned (.tuple #[v, .int .i64 0]) ∧ Ans W.heap.size w' v M ∧ Below W.heap.size W w') := by
    intro W
    subst hM
    exact new_ok 1 1 W (by omega) (by omega) (by omega)
  have HLen : Hid (M.slots.length = 1 ∧ M.heads.length = 1) := by subst hM; exact ⟨rfl, rfl⟩
  clear hM
  obtain ⟨f, hf⟩ : ∃ f, f = newF fC := ⟨_, rfl⟩
  obtain ⟨g, hg⟩ : ∃ g, g = endF f 7 := ⟨_, rfl⟩
  have HF : Hid (f = newF fC) := hf
  have HG : Hid (g = endF f 7) := hg
  have HC1 : Hid (0 = frE M.slots.length M.heads.length f) := by show _ = _; rw [HLen.out.1, HLen.out.2, hf]; rfl
  have HC2 : Hid (3 = frE M.slots.length M.heads.length g) := by show _ = _; rw [HLen.out.1, HLen.out.2, hg, hf]; rfl
  have hs : f.slot = -1 := by rw [hf]; rfl
  have hd : g.done = true := by rw [hg]; rfl
  have he : g.e = 7 := by rw [hg]; rfl
  have hkf : f.keys.length ≤ 9223372036854775807 := by rw [hf]; exact Nat.zero_le _
  have hkg : g.keys.length ≤ 9223372036854775807 := by rw [hg, hf]; exact Nat.zero_le _
  have HK0 : Hid (f.keys = []) := by show _ = _; rw [hf]; rfl
  have hnS : M.slots.length ≤ 9223372036854775000 := by rw [HLen.out.1]; omega
  have hnH : M.heads.length ≤ 9223372036854775000 := by rw [HLen.out.2]; omega
  have HS : Hid (f.slot = -1) := hs
  have HD : Hid (g.done = true) := hd
  have HEe : Hid (g.e = 7) := he
  clear hf hg hs hd he
  go_enter Try.func17, Try.ntmps17
  go_wp2_with fail
  refine (HN.out w).mono ?_
  rintro e w1 ⟨v1, rfl, A1, hb1⟩
  obtain ⟨aS, aH, aF, aL, cS, cH, cF, cL, rfl⟩ := A1.form
  have HE1 : Hid (Env w (w1.alloc (.cells #[.slice aS M.slots.length cS, .slice aH M.heads.length cH, .slice aF M.free.length cF, .slice aL M.locks.length cL, .int .i64 M.now] 25)) _ []) := (((⟨Below.refl _ _, (fun p hp => by cases hp), (fun p hp => by cases hp)⟩ : Env w w [] []).below hb1)).alloc _
  clear A1 hb1
  go_wp2_with fail
  generalize hX1 : w1.heap.size = X1 at *
  generalize w1.alloc (.cells #[.slice aS M.slots.length cS, .slice aH M.heads.length cH, .slice aF M.free.length cF, .slice aL M.locks.length cL, .int .i64 M.now] 25) = W1 at *
  clear hX1
  refine (newFr_at (c := fC) HF.out W1).mono ?_
  rintro e w2 ⟨rfl, hb2⟩
  have HE2 : Hid _ := (HE1.out.below hb2).alloc (.cells #[.int .i64 f.c.kind, .int .i64 f.c.a, .int .i64 f.c.b, .int .i64 f.c.time, .int .i64 f.c.bk, .int .i64 f.c.slot, .int .i64 f.pl, .int .i64 f.cur, .int .i64 f.prev, .int .i64 f.slot, .int .i64 f.n, .slice none f.keys.length 0, .bool f.done, .int .i64 f.e] 51)
  clear HE1 hb2
  go_wp2_with fail
  generalize hX2 : w2.heap.size = X2 at *
  generalize w2.alloc (.cells #[.int .i64 f.c.kind, .int .i64 f.c.a, .int .i64 f.c.b, .int .i64 f.c.time, .int .i64 f.c.bk, .int .i64 f.c.slot, .int .i64 f.pl, .int .i64 f.cur, .int .i64 f.prev, .int .i64 f.slot, .int .i64 f.n, .slice none f.keys.length 0, .bool f.done, .int .i64 f.e] 51) = W2 at *
  clear hX2
  refine (endFr_at HG.out none 0 W2 (by rw [HK0.out]; exact krow_nil _)).mono ?_
  rintro e w3 ⟨a3, c3, rfl, hr3, hb3⟩
  have HE3 : Hid _ := (HE2.out.below hb3).alloc (.cells #[.int .i64 g.c.kind, .int .i64 g.c.a, .int .i64 g.c.b, .int .i64 g.c.time, .int .i64 g.c.bk, .int .i64 g.c.slot, .int .i64 g.pl, .int .i64 g.cur, .int .i64 g.prev, .int .i64 g.slot, .int .i64 g.n, .slice a3 g.keys.length c3, .bool g.done, .int .i64 g.e] 51)
  have HE3' : Hid _ := HE2.out.below hb3
  clear HE2 hb3 hr3
  obtain ⟨q0, q1, q2, q3, q4, -, -, -, -, -, qs⟩ := boxf (HE3'.out.box _ (.tail _ (.head _)))
  obtain ⟨f0, f1, f2, f3, f4, f5, f6, f7, f8, f9, f10, f11, f12, f13, -, fs⟩ := framef (HE3'.out.box _ (.head _))
  go_wp2_with fail
  generalize hX3 : w3.heap.size = X3 at *
  generalize w3.alloc (.cells #[.int .i64 g.c.kind, .int .i64 g.c.a, .int .i64 g.c.b, .int .i64 g.c.time, .int .i64 g.c.bk, .int .i64 g.c.slot, .int .i64 g.pl, .int .i64 g.cur, .int .i64 g.prev, .int .i64 g.slot, .int .i64 g.n, .slice a3 g.keys.length c3, .bool g.done, .int .i64 g.e] 51) = W3 at *
  clear hX3 q0 q1 q2 q3 q4 qs f0 f1 f2 f3 f4 f5 f6 f7 f8 f9 f10 f11 f12 f13 fs HE3'
  refine (frCheck_at HC1.out aS aH aF aL _ _ cS cH cF cL _ none 0 W3 hnS hnH hkf).mono ?_
  rintro e w4 ⟨rfl, hb4⟩
  have HE4 : Hid _ := HE3.out.below hb4
  clear HE3 hb4
  obtain ⟨q0, q1, q2, q3, q4, -, -, -, -, -, qs⟩ := boxf (HE4.out.box _ (.tail _ (.tail _ (.head _))))
  obtain ⟨f0, f1, f2, f3, f4, f5, f6, f7, f8, f9, f10, f11, f12, f13, -, fs⟩ := framef (HE4.out.box _ (.tail _ (.head _)))
  obtain ⟨g0, g1, g2, g3, g4, g5, g6, g7, g8, g9, g10, g11, g12, g13, -, gs⟩ := framef (HE4.out.box _ (.head _))
  rw [HS.out] at f9
  rw [HD.out] at g12
  rw [HEe.out] at g13
  have HCh : Hid (∀ W : World, Calls Try.prog 20 #[.agg #[.slice aS M.slots.length cS, .slice aH M.heads.length cH, .slice aF M.free.length cF, .slice aL M.locks.length cL, .int .i64 M.now], .agg #[.int .i64 g.c.kind, .int .i64 g.c.a, .int .i64 g.c.b, .int .i64 g.c.time, .int .i64 g.c.bk, .int .i64 g.c.slot, .int .i64 g.pl, .int .i64 g.cur, .int .i64 g.prev, .int .i64 g.slot, .int .i64 g.n, .slice a3 g.keys.length c3, .bool true, .int .i64 7]] W fun e w' => e = .returned (.int .i64 3) ∧ Below W.heap.size W w') := by
    intro W
    have := frCheck_at HC2.out aS aH aF aL M.free.length M.locks.length cS cH cF cL M.now a3 c3 W hnS hnH hkg
    rwa [HD.out, HEe.out] at this
  go_wp2_with fail
  refine (HCh.out w4).mono ?_
  rintro e w5 ⟨rfl, hb5⟩
  have HE5 : Hid _ := HE4.out.below hb5
  go_wp2
  go_ret
  exact ⟨rfl, HE5.out.bl⟩

set_option maxHeartbeats 3200000 in
theorem begins_any (M : Mm) (v : Value) (c : Cl) (w : World) (A0 : Ans 0 w v M) :
    Calls Try.prog 5 #[v, .agg #[.int .i64 c.kind, .int .i64 c.a, .int .i64 c.b, .int .i64 c.time, .int .i64 c.bk, .int .i64 c.slot]] w fun e w' => e = .returned (.bool true) ∧ Below w.heap.size w w' := by
  obtain ⟨aS, aH, aF, aL, cS, cH, cF, cL, rfl⟩ := A0.form
  have m1 := A0.at_.s.max; have m2 := A0.at_.h.max
  have hnS : M.slots.length ≤ 9223372036854775000 := by omega
  have hnH : M.heads.length ≤ 9223372036854775000 := by omega
  obtain ⟨E, hE⟩ : ∃ x, x = callE M.slots.length M.heads.length c := ⟨_, rfl⟩
  obtain ⟨f, hf⟩ : ∃ f, f = newF c := ⟨_, rfl⟩
  obtain ⟨g, hg⟩ : ∃ g, g = endF f E := ⟨_, rfl⟩
  have HC : Hid (E = callE M.slots.length M.heads.length c) := hE
  have HF : Hid (f = newF c) := hf
  have HG : Hid (g = endF f E) := hg
  have HC1 : Hid (E = frE M.slots.length M.heads.length f) := by show _ = _; rw [hf, frE_new]; exact hE
  have hs : f.slot = -1 := by rw [hf]; rfl
  have hp : f.pl = 0 := by rw [hf]; rfl
  have hd : f.done = false := by rw [hf]; rfl
  have HGd : Hid (g.done = true) := by show _ = _; rw [hg]; rfl
  have hkf : f.keys.length ≤ 9223372036854775807 := by rw [hf]; exact Nat.zero_le _
  have HK0 : Hid (f.keys = []) := by show _ = _; rw [hf]; rfl
  have HS : Hid (f.slot = -1) := hs
  have HP : Hid (f.pl = 0) := hp
  have HD : Hid (f.done = false) := hd
  clear hf hg hE hs hp hd
  obtain ⟨om, hom⟩ : ∃ o : Obj, o = .cells #[.slice aS M.slots.length cS, .slice aH M.heads.length cH, .slice aF M.free.length cF, .slice aL M.locks.length cL, .int .i64 M.now] 25 := ⟨_, rfl⟩
  obtain ⟨oc, hoc⟩ : ∃ o : Obj, o = .cells #[.int .i64 c.kind, .int .i64 c.a, .int .i64 c.b, .int .i64 c.time, .int .i64 c.bk, .int .i64 c.slot] 48 := ⟨_, rfl⟩
  have HE0 : Hid (Env w ((w.alloc om).alloc oc) _ []) := ((⟨Below.refl _ _, (fun p hp => by cases hp), (fun p hp => by cases hp)⟩ : Env w w [] []).alloc om).alloc oc
  rw [show (w.alloc om).heap.size = w.heap.size + 1 by simp] at HE0
  clear A0
  go_enter Try.func5, Try.ntmps5
  go_wp2_with fail
  rw [← hom, ← hoc]
  generalize (w.alloc om).alloc oc = W0 at *
  subst hom hoc
  refine (callE_at HC.out aS aH aF aL _ _ cS cH cF cL _ W0 (by omega) (by omega)).mono ?_
  rintro e w1 ⟨rfl, hb1⟩
  have HE1 : Hid _ := HE0.out.below hb1
  clear HE0 hb1
  obtain ⟨c0, c1, c2, c3, c4, c5, cs⟩ := callf (HE1.out.box _ (.head _))
  go_wp2_with fail
  clear c0 c1 c2 c3 c4 c5 cs
  refine (newFr_at HF.out w1).mono ?_
  rintro e w2 ⟨rfl, hb2⟩
  have HE2 : Hid _ := (HE1.out.below hb2).alloc (.cells #[.int .i64 f.c.kind, .int .i64 f.c.a, .int .i64 f.c.b, .int .i64 f.c.time, .int .i64 f.c.bk, .int .i64 f.c.slot, .int .i64 f.pl, .int .i64 f.cur, .int .i64 f.prev, .int .i64 f.slot, .int .i64 f.n, .slice none f.keys.length 0, .bool f.done, .int .i64 f.e] 51)
  clear HE1 hb2
  go_wp2_with fail
  generalize hX2 : w2.heap.size = X2 at *
  generalize w2.alloc (.cells #[.int .i64 f.c.kind, .int .i64 f.c.a, .int .i64 f.c.b, .int .i64 f.c.time, .int .i64 f.c.bk, .int .i64 f.c.slot, .int .i64 f.pl, .int .i64 f.cur, .int .i64 f.prev, .int .i64 f.slot, .int .i64 f.n, .slice none f.keys.length 0, .bool f.done, .int .i64 f.e] 51) = W2 at *
  clear hX2
  refine (framed_any W2).mono ?_
  rintro e w3 ⟨rfl, hb3⟩
  have HE3 : Hid _ := HE2.out.below hb3
  clear HE2 hb3
  obtain ⟨q0, q1, q2, q3, q4, -, -, -, -, -, qs⟩ := boxf (HE3.out.box _ (.tail _ (.tail _ (.head _))))
  obtain ⟨f0, f1, f2, f3, f4, f5, f6, f7, f8, f9, f10, f11, f12, f13, -, fs⟩ := framef (HE3.out.box _ (.head _))
  go_wp2_with fail
  clear q0 q1 q2 q3 q4 qs f0 f1 f2 f3 f4 f5 f6 f7 f8 f9 f10 f11 f12 f13 fs
  refine (frCheck_at HC1.out aS aH aF aL _ _ cS cH cF cL _ none 0 w3 hnS hnH hkf).mono ?_
  rintro e w4 ⟨rfl, hb4⟩
  have HE4 : Hid _ := HE3.out.below hb4
  clear HE3 hb4
  obtain ⟨f0, f1, f2, f3, f4, f5, f6, f7, f8, f9, f10, f11, f12, f13, -, fs⟩ := framef (HE4.out.box _ (.head _))
  rw [HP.out] at f6
  rw [HS.out] at f9
  rw [HD.out] at f12
  have HEn : Hid (∀ W : World, Calls Try.prog 24 #[.agg #[.int .i64 f.c.kind, .int .i64 f.c.a, .int .i64 f.c.b, .int .i64 f.c.time, .int .i64 f.c.bk, .int .i64 f.c.slot, .int .i64 0, .int .i64 f.cur, .int .i64 f.prev, .int .i64 (-1), .int .i64 f.n, .slice none f.keys.length 0, .bool false, .int .i64 f.e], .int .i64 E] W fun e w' => ∃ a c, e = .returned (.agg #[.int .i64 g.c.kind, .int .i64 g.c.a, .int .i64 g.c.b, .int .i64 g.c.time, .int .i64 g.c.bk, .int .i64 g.c.slot, .int .i64 g.pl, .int .i64 g.cur, .int .i64 g.prev, .int .i64 g.slot, .int .i64 g.n, .slice a g.keys.length c, .bool g.done, .int .i64 g.e]) ∧ KRow w' a c g.keys ∧ Below W.heap.size W w') := by
    intro W
    have := endFr_at HG.out none 0 W (by rw [HK0.out]; exact krow_nil _)
    rwa [HP.out, HS.out, HD.out] at this
  go_wp2_with fail
  refine (HEn.out w4).mono ?_
  rintro e w5 ⟨a5, c5, rfl, -, hb5⟩
  have HE5 : Hid _ := HE4.out.below hb5
  have hfl : ∀ (W : World), (Instr.field 51 (.agg #[.int .i64 g.c.kind, .int .i64 g.c.a, .int .i64 g.c.b, .int .i64 g.c.time, .int .i64 g.c.bk, .int .i64 g.c.slot, .int .i64 g.pl, .int .i64 g.cur, .int .i64 g.prev, .int .i64 g.slot, .int .i64 g.n, .slice a5 g.keys.length c5, .bool g.done, .int .i64 g.e]) 7).run Try.prog W = .ok (.bool true) W := fun W => Eq.trans (b := .ok (.bool g.done) W) (by kernel_rfl) (by rw [HGd.out])
  go_wp2
  go_ret
  exact ⟨rfl, HE5.out.bl⟩

end Go.Proofs.Ytaekgadokcmkfab.mm
