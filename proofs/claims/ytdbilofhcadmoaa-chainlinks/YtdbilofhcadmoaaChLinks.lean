/- ChainLinks' walk: for every memory, slot and key it answers true. -/
import Derived.Test.YtdbilofhcadmoaaRefL
import Derived.Test.YtdbilofhcadmoaaOwnW
import Derived.Test.YtdbilofhcadmoaaEnv
import Derived.Test.YtdbilofhcadmoaaSame2
import Derived.Test.YtdbilofhcadmoaaChained
import Derived.Test.YtdbilofhcadmoaaRefF
import Derived.Test.YtdbilofhcadmoaaRefD
import Derived.Test.YtdbilofhcadmoaaChTells
namespace Go.Proofs.Ytdbilofhcadmoaa.mm
open Go.ChangeShapes Go.WideShapes Go.ChangeAt Go.RowKit Go.Joins Go.Deep Go.Maps
set_option maxRecDepth 100000
set_option linter.unusedVariables false

theorem rcheckC_at {M : Mm} {E : Int} (h : E = chkC M) (v : Value) (w : World) (lo : Nat) (A : Ans lo w v M) : Calls Try.prog 35 #[v] w fun e w' => e = .returned (.int .i64 E) ∧ Below w.heap.size w w' := by
  subst h
  obtain ⟨aS, aH, aF, aL, cS, cH, cF, cL, rfl, A, hi⟩ := A
  exact rcheckC_any M aS aH aF aL cS cH cF cL w A
theorem rsame_is {A B : Mm} (h : A = B) {v1 v2 : Value} {w : World} {lo1 lo2 : Nat} (H1 : Ans lo1 w v1 A) (H2 : Ans lo2 w v2 B) : Calls Try.prog 18 #[v1, v2] w fun e w' => e = .returned (.bool true) ∧ Below w.heap.size w w' := by
  subst h
  have := rsame_any A A v1 v2 w lo1 lo2 H1 H2
  rwa [(eqM_iff A A).2 rfl] at this
theorem bucketOf_at {a b x : Int} {n : Nat} (h : bucket a b n = x) (w : World) (hk : keyB a b = true) (n0 : 1 ≤ n) (n1 : n ≤ 4) :
    Calls Try.prog 47 #[.agg #[.int .i64 a, .int .i64 b], .int .i64 n] w fun e w' => e = .returned (.int .i64 x) ∧ Below w.heap.size w w' := by
  subst h; exact bucketOf_any a b n w hk n0 n1
theorem rlink_at {M MX : Mm} {j b : Nat} (h : MX = linkAt M j b) (w : World) (B lo : Nat) (aS aH aF aL : Option Addr) (cS cH cF cL : Nat) (m : Mine w B lo aS aH aF aL cS cH cF cL M) (hok : Ok M) (hj : j < M.slots.length) (hb : b < M.heads.length) :
    Calls Try.prog 46 #[.pointer (some ⟨B, 0, none⟩), .int .i64 j, .int .i64 b] w fun e w' => e = .returned (.tuple #[]) ∧ Now w w' B lo MX := by
  subst h; exact rlink_now M w B lo aS aH aF aL cS cH cF cL j b m hok hj hb
theorem rcut_at {M MY : Mm} {j b : Nat} {ah : Int} (h : MY = cutM M b ah j) (w : World) (B lo : Nat) (aS aH aF aL : Option Addr) (cS cH cF cL : Nat) (m : Mine w B lo aS aH aF aL cS cH cF cL M) (hok : Ok M) (hj : j < M.slots.length) (hb : b < M.heads.length) (ha0 : 0 ≤ ah) (hah : ah ≤ M.slots.length) :
    Calls Try.prog 48 #[.pointer (some ⟨B, 0, none⟩), .int .i64 ah, .int .i64 j, .int .i64 b] w fun e w' => e = .returned (.tuple #[]) ∧ Now w w' B lo MY := by
  subst h; exact rcut_now M w B lo aS aH aF aL cS cH cF cL j b ah m hok hj hb ha0 hah
theorem chainOf_at {M : Mm} {l : List Int} {b : Nat} (h : chL M b = l) (hc : OkC M) (hb : b < M.heads.length) (hm : l.length ≤ 12) (v : Value) (w : World) (lo : Nat) (A : Ans lo w v M) :
    Calls Try.prog 40 #[v, .int .i64 b] w fun e w' => ∃ ao cap, e = .returned (.tuple #[.slice ao l.length cap, .bool true]) ∧ IRow w' ao cap l ∧ Below w.heap.size w w' := by
  subst h
  obtain ⟨aS, aH, aF, aL, cS, cH, cF, cL, rfl, A, hi⟩ := A
  have hok : chOk M b = true := (chOk_iff M b).2 (hc.ends b hb)
  refine (chainOf_any M aS aH aF aL cS cH cF cL b w A hc.ok hb).mono ?_
  rintro e w' ⟨ao, n, cap, rfl, h, hbl⟩
  obtain ⟨rfl, ho⟩ := h hok
  rw [hok]
  exact ⟨ao, cap, rfl, IRow.own ho (by omega), hbl⟩

theorem who_in {M : Mm} {ka kb : Int} (hc : OkC M) (h : hasK M (allC M) (ka, kb) = true) : whoK M (allC M) (ka, kb) ∈ chL M (keyN M ka kb) := by
  obtain ⟨b0, hb0, hm0⟩ := mem_allC.1 (whoK_mem h).1
  have hk0b := (hc.held b0 hb0 _ hm0).2.2
  have hkk := (whoK_mem h).2
  unfold keyAt at hkk
  injection hkk with h1 h2
  rw [h1, h2] at hk0b
  have : keyN M ka kb = b0 := by unfold keyN; omega
  rw [this]; exact hm0
theorem aheadF_ge {a : Int} : ∀ (l : List Int) (ah la : Int), (∀ x ∈ l, 0 ≤ x) → 0 ≤ ah → 0 ≤ la → 0 ≤ aheadF a l ah la
  | [], ah, la, _, h1, _ => h1
  | c :: l, ah, la, h, h1, h2 => by
    have hc := h c (by simp)
    simp only [aheadF]
    refine aheadF_ge l _ _ (fun x hx => h x (by simp [hx])) ?_ (by omega)
    split
    · exact h2
    · exact h1

set_option maxHeartbeats 100000000 in
theorem chlinks_any (M : Mm) (v : Value) (i ka kb : Int) (w : World) (A0 : Ans 0 w v M) (hi : -9223372036854775808 ≤ i ∧ i ≤ 9223372036854775807) :
    Calls Try.prog 10 #[v, .int .i64 i, .agg #[.int .i64 ka, .int .i64 kb]] w fun e w' => e = .returned (.bool true) ∧ Below w.heap.size w w' := by
  obtain ⟨aS, aH, aF, aL, cS, cH, cF, cL, rfl⟩ := A0.form
  have m1 := A0.at_.s.max; have m2 := A0.at_.h.max; have m3 := A0.at_.f.max; have m4 := A0.at_.l.max
  obtain ⟨MX, hMX⟩ : ∃ x, x = linkedM M i := ⟨_, rfl⟩
  obtain ⟨eX, heX⟩ : ∃ x, x = linkE M i := ⟨_, rfl⟩
  obtain ⟨MY, hMY⟩ : ∃ x, x = withoutM M ka kb := ⟨_, rfl⟩
  obtain ⟨nY, hnY⟩ : ∃ x, x = withoutN M ka kb := ⟨_, rfl⟩
  obtain ⟨eY, heY⟩ : ∃ x, x = withoutE M ka kb := ⟨_, rfl⟩
  obtain ⟨ck, hck⟩ : ∃ x, x = chkC M := ⟨_, rfl⟩
  have HMX : Hid (MX = linkedM M i) := hMX
  have HeX : Hid (eX = linkE M i) := heX
  have HMY : Hid (MY = withoutM M ka kb) := hMY
  have HnY : Hid (nY = withoutN M ka kb) := hnY
  have HeY : Hid (eY = withoutE M ka kb) := heY
  have HCk : Hid (ck = chkC M) := hck
  clear hMX heX hMY hnY heY hck
  have hmf : ∀ (fn : Fn) (first cap : Array Value) (w : World), (Instr.makeFunc fn first cap).run Try.prog w = .ok (.func fn first cap) w := fun _ _ _ _ => rfl
  obtain ⟨om, hom⟩ : ∃ o : Obj, o = .cells #[.slice aS M.slots.length cS, .slice aH M.heads.length cH, .slice aF M.free.length cF, .slice aL M.locks.length cL, .int .i64 M.now] 29 := ⟨_, rfl⟩
  obtain ⟨ok, hok⟩ : ∃ o : Obj, o = .cells #[.int .i64 ka, .int .i64 kb] 37 := ⟨_, rfl⟩
  have HE0 : Hid (Env w ((w.alloc om).alloc ok) _ _) := (((⟨Below.refl _ _, (fun p hp => by cases hp), (fun p hp => by cases hp)⟩ : Env w w [] []).add A0).alloc om).alloc ok
  rw [show (w.alloc om).heap.size = w.heap.size + 1 by simp] at HE0
  clear A0
  go_enter Try.func10, Try.ntmps10
  go_wp2_with fail
  rw [← hom, ← hok]
  generalize (w.alloc om).alloc ok = W0 at *
  subst hom hok
  refine (ownMem_any M aS aH aF aL cS cH cF cL W0 (HE0.out.ans (.head _)).at_).mono ?_
  rintro e w1 ⟨gS, gH, gF, gL, kS, kH, kF, kL, rfl, rw1, hb1⟩
  have HE1a : Hid _ := ((HE0.out.below hb1).add (rw1.ans m1 m2 m3 m4)).alloc (.cells #[.slice gS M.slots.length kS, .slice gH M.heads.length kH, .slice gF M.free.length kF, .slice gL M.locks.length kL, .int .i64 M.now] 29)
  clear HE0 hb1 rw1
  go_wp2_with fail
  generalize hX1 : w1.heap.size = X1 at *
  generalize w1.alloc (.cells #[.slice gS M.slots.length kS, .slice gH M.heads.length kH, .slice gF M.free.length kF, .slice gL M.locks.length kL, .int .i64 M.now] 29) = W1 at *
  clear hX1
  refine (linked_at HMX.out.symm HeX.out.symm _ W1 0 (HE1a.out.ans (.head _))).mono ?_
  rintro e w2 ⟨v2, rfl, A2, hb2⟩
  obtain ⟨xS, xH, xF, xL, dS, dH, dF, dL, rfl⟩ := A2.form
  have HE2 : Hid _ := (HE1a.out.below hb2).add A2
  have HE2a : Hid _ := HE2.out.alloc (.cells #[.slice xS MX.slots.length dS, .slice xH MX.heads.length dH, .slice xF MX.free.length dF, .slice xL MX.locks.length dL, .int .i64 MX.now] 29)
  clear HE1a hb2 A2
  obtain ⟨p0, p1, p2, p3, p4, -, -, -, -, -, ps⟩ := boxf (HE2.out.box _ (.head _))
  obtain ⟨k0, k1⟩ := keyf (HE2.out.box _ (.tail _ (.head _)))
  have ks := HE2.out.lt (.tail _ (.head _))
  go_wp2_with fail
  generalize hX2 : w2.heap.size = X2 at *
  generalize w2.alloc (.cells #[.slice xS MX.slots.length dS, .slice xH MX.heads.length dH, .slice xF MX.free.length dF, .slice xL MX.locks.length dL, .int .i64 MX.now] 29) = W2 at *
  clear p0 p1 p2 p3 p4 ps k0 k1 ks
  clear HE2 hX2
  refine (without_at HMY.out.symm HnY.out.symm HeY.out.symm _ W2 0 (HE2a.out.ans (.tail _ (.head _)))).mono ?_
  rintro e w3 ⟨v3, rfl, A3, hb3⟩
  obtain ⟨yS, yH, yF, yL, fS, fH, fF, fL, rfl⟩ := A3.form
  have HE3 : Hid _ := (HE2a.out.below hb3).add A3
  have HE3a : Hid _ := ((HE3.out.alloc (.cells #[.slice yS MY.slots.length fS, .slice yH MY.heads.length fH, .slice yF MY.free.length fF, .slice yL MY.locks.length fL, .int .i64 MY.now] 29)).alloc (.cells #[.slice none 0 0, .slice none 0 0, .slice none 0 0, .slice none 0 0, .int .i64 0] 29)).add (ans0 0 _)
  rw [show (w3.alloc (.cells #[.slice yS MY.slots.length fS, .slice yH MY.heads.length fH, .slice yF MY.free.length fF, .slice yL MY.locks.length fL, .int .i64 MY.now] 29)).heap.size = w3.heap.size + 1 by simp] at HE3a
  clear HE2a hb3 A3
  obtain ⟨p0, p1, p2, p3, p4, -, -, -, -, -, ps⟩ := boxf (HE3.out.box _ (.tail _ (.tail _ (.tail _ (.head _)))))
  go_wp2_with fail
  generalize hX3 : w3.heap.size = X3 at *
  generalize (w3.alloc (.cells #[.slice yS MY.slots.length fS, .slice yH MY.heads.length fH, .slice yF MY.free.length fF, .slice yL MY.locks.length fL, .int .i64 MY.now] 29)).alloc (.cells #[.slice none 0 0, .slice none 0 0, .slice none 0 0, .slice none 0 0, .int .i64 0] 29) = W3 at *
  clear p0 p1 p2 p3 p4 ps
  clear HE3 hX3
  refine (rcheckC_at HCk.out _ W3 0 (HE3a.out.ans (.tail _ (.tail _ (.tail _ (.tail _ (.head _))))))).mono ?_
  rintro e w4 ⟨rfl, hb4⟩
  have HE4 : Hid _ := HE3a.out.below hb4
  clear HE3a hb4
  go_wp2_with fail
  refine (chained_any w4).mono ?_
  rintro e w5 ⟨rfl, hb5⟩
  have HE5 : Hid _ := HE4.out.below hb5
  clear HE4 hb5
  obtain ⟨p0, p1, p2, p3, p4, -, -, -, -, -, ps⟩ := boxf (HE5.out.box _ (.tail _ (.tail _ (.tail _ (.head _)))))
  obtain ⟨q0, q1, q2, q3, q4, -, -, -, -, -, qs⟩ := boxf (HE5.out.box _ (.tail _ (.tail _ (.tail _ (.tail _ (.tail _ (.head _)))))))
  go_wp2_with fail
  clear p0 p1 p2 p3 p4 ps q0 q1 q2 q3 q4 qs
  refine (rsame_is rfl (HE5.out.ans (.tail _ (.tail _ (.tail _ (.head _))))) (HE5.out.ans (.tail _ (.tail _ (.tail _ (.tail _ (.head _))))))).mono ?_
  rintro e w6 ⟨rfl, hb6⟩
  have HE6 : Hid _ := HE5.out.below hb6
  clear HE5 hb6
  by_cases hc : chkC M = 0
  rotate_left
  · have hck0 : ck ≠ 0 := by rw [HCk.out]; exact hc
    have hck1 : (ck != 0) = true := by simpa using hck0
    have o1 : linkE M i = ck := by rw [HCk.out]; unfold linkE; rw [if_pos hc]
    have o2 : withoutE M ka kb = ck := by rw [HCk.out]; unfold withoutE; rw [if_pos hc]
    have HX0 : Hid (MX = m0) := HMX.out.trans (by unfold linkedM; rw [o1, if_neg hck0])
    have HY0 : Hid (MY = m0) := HMY.out.trans (by unfold withoutM; rw [o2, if_neg hck0])
    have e2 : nY = 0 := HnY.out.trans (by unfold withoutN; rw [o2, if_neg hck0])
    have e1 : eX = ck := HeX.out.trans o1
    have e3 : eY = ck := HeY.out.trans o2
    subst e2
    rw [e1, e3]
    clear e1 e3 o1 o2 hck0 hc HeX HeY HnY HMX HMY
    obtain ⟨p0, p1, p2, p3, p4, -, -, -, -, -, ps⟩ := boxf (HE6.out.box _ (.tail _ (.tail _ (.head _))))
    obtain ⟨q0, q1, q2, q3, q4, -, -, -, -, -, qs⟩ := boxf (HE6.out.box _ (.head _))
    go_wp2_with fail
    clear p0 p1 p2 p3 p4 ps q0 q1 q2 q3 q4 qs
    refine (rsame_is HX0.out (HE6.out.ans (.tail _ (.tail _ (.head _)))) (HE6.out.ans (.head _))).mono ?_
    rintro e w7 ⟨rfl, hb7⟩
    have HE7 : Hid _ := HE6.out.below hb7
    obtain ⟨p0, p1, p2, p3, p4, -, -, -, -, -, ps⟩ := boxf (HE7.out.box _ (.tail _ (.head _)))
    obtain ⟨q0, q1, q2, q3, q4, -, -, -, -, -, qs⟩ := boxf (HE7.out.box _ (.head _))
    go_wp2_with fail
    clear p0 p1 p2 p3 p4 ps q0 q1 q2 q3 q4 qs
    refine (rsame_is HY0.out (HE7.out.ans (.tail _ (.head _))) (HE7.out.ans (.head _))).mono ?_
    rintro e w8 ⟨rfl, hb8⟩
    have HE8 : Hid _ := HE7.out.below hb8
    go_wp2
    go_ret
    exact ⟨rfl, HE8.out.bl⟩
  have HCz : Hid (chkC M = 0) := hc
  have HOkc : Hid (OkC M) := (chkC_zero M).1 hc
  have HOk : Hid (Ok M) := HOkc.out.ok
  have n1 := HOk.out.ns
  have n2 := HOk.out.few
  have n3 := HOk.out.nh
  have hck0 : ck = 0 := HCk.out.trans hc
  subst hck0
  clear hc HCk
  obtain ⟨fl, hfl⟩ : ∃ l, l = flA M := ⟨_, rfl⟩
  have HFl : Hid (fl = flA M) := hfl
  have hfl48 : fl.length ≤ 48 := by rw [hfl]; exact flA_le HOk.out
  have HFl2 : Hid ((allC M).map (flowAt M) = fl) := hfl.symm
  have HBq : Hid (∀ (lc : List Int) (_ : ∃ b, b < M.heads.length ∧ chL M b = lc) (q : Nat) (hq : q < lc.length), 0 ≤ lc[q] ∧ lc[q] < M.slots.length) := fun lc ⟨b, hb, e⟩ q hq => by subst e; exact HOk.out.chIn hb _ (List.getElem_mem hq)
  clear hfl
  obtain ⟨q0, q1, q2, q3, q4, -, -, -, -, -, qs⟩ := boxf (HE6.out.box _ (.tail _ (.tail _ (.tail _ (.tail _ (.tail _ (.head _)))))))
  go_wp2_with fail
  clear q0 q1 q2 q3 q4 qs
  refine (flowsOf_at HFl2.out aS aH aF aL cS cH cF cL w6 (HE6.out.ans (.tail _ (.tail _ (.tail _ (.tail _ (.head _)))))).at_ HOkc.out).mono ?_
  rintro e w7 ⟨ao, cap, rfl, hr7, hb7⟩
  have HE7a : Hid _ := HE6.out.below hb7
  have HE7 : Hid _ := HE7a.out.alloc (.cells #[.slice ao fl.length cap] 60)
  have HF7 : Hid (FRow (w7.alloc (.cells #[.slice ao fl.length cap] 60)) ao cap fl) := hr7.below (one_below _ _)
  clear hb7 hr7 HE6
  obtain ⟨q0, q1, q2, q3, q4, -, -, -, -, -, qs⟩ := boxf (HE7a.out.box _ (.tail _ (.tail _ (.tail _ (.tail _ (.tail _ (.head _)))))))
  rcases Int.lt_or_le i 0 with hi0 | hi0
  · have o1 : linkE M i = 5 := by unfold linkE; rw [if_neg (by simpa using HCz.out), if_pos (by simp [isSl, inB]; omega)]
    have HX0 : Hid (MX = m0) := HMX.out.trans (by unfold linkedM; rw [o1, if_neg (by decide)])
    have e1 : eX = 5 := HeX.out.trans o1
    subst e1
    clear o1
    obtain ⟨p0, p1, p2, p3, p4, -, -, -, -, -, ps⟩ := boxf (HE7a.out.box _ (.tail _ (.tail _ (.head _))))
    obtain ⟨r0, r1, r2, r3, r4, -, -, -, -, -, rs⟩ := boxf (HE7a.out.box _ (.head _))
    go_wp2_with fail
    generalize hV : w7.heap.size = V at *
    generalize w7.alloc (.cells #[.slice ao fl.length cap] 60) = W7 at *
    clear hV
    clear p0 p1 p2 p3 p4 ps r0 r1 r2 r3 r4 rs q0 q1 q2 q3 q4 qs
    clear HE7a
    refine (rsame_is HX0.out (HE7.out.ans (.tail _ (.tail _ (.head _)))) (HE7.out.ans (.head _))).mono ?_
    rintro e wc ⟨rfl, bc⟩
    have HEc : Hid _ := HE7.out.below bc
    have HFc : Hid (FRow wc ao cap fl) := HF7.out.below bc
    obtain ⟨k0, k1⟩ := keyf (HEc.out.box _ (.tail _ (.tail _ (.tail _ (.tail _ (.tail _ (.head _)))))))
    have ks := HEc.out.lt (.tail _ (.tail _ (.tail _ (.tail _ (.tail _ (.head _))))))
    go_wp2_with fail
    clear k0 k1 ks
    refine (isKey_any ka kb wc).mono ?_
    rintro e w20 ⟨rfl, hb20⟩
    have HE20 : Hid _ := HEc.out.below hb20
    have HF20 : Hid (FRow w20 ao cap fl) := HFc.out.below hb20
    clear hb20 HEc HFc
    cases hK : keyB ka kb
    · have o1 : withoutE M ka kb = 3 := by unfold withoutE; rw [if_neg (by simpa using HCz.out), if_pos hK]
      have HY0 : Hid (MY = m0) := HMY.out.trans (by unfold withoutM; rw [o1, if_neg (by decide)])
      have e2 : nY = 0 := HnY.out.trans (by unfold withoutN; rw [o1, if_neg (by decide)])
      have e1 : eY = 3 := HeY.out.trans o1
      subst e1 e2
      clear o1
      obtain ⟨p0, p1, p2, p3, p4, -, -, -, -, -, ps⟩ := boxf (HE20.out.box _ (.tail _ (.tail _ (.head _))))
      obtain ⟨r0, r1, r2, r3, r4, -, -, -, -, -, rs⟩ := boxf (HE20.out.box _ (.tail _ (.head _)))
      go_wp2_with fail
      clear p0 p1 p2 p3 p4 ps r0 r1 r2 r3 r4 rs
      refine (rsame_is HY0.out (HE20.out.ans (.tail _ (.head _))) (HE20.out.ans (.head _))).mono ?_
      rintro e w50 ⟨rfl, hb50⟩
      have HE50 : Hid _ := HE20.out.below hb50
      go_wp2
      go_ret
      exact ⟨rfl, HE50.out.bl⟩
    have HKy : Hid (keyB ka kb = true) := hK
    clear hK
    obtain ⟨k0, k1⟩ := keyf (HE20.out.box _ (.tail _ (.tail _ (.tail _ (.tail _ (.tail _ (.head _)))))))
    have ks := HE20.out.lt (.tail _ (.tail _ (.tail _ (.tail _ (.tail _ (.head _))))))
    go_wp2_with fail
    clear k0 k1 ks
    refine (of_any ao cap fl V ka kb w20 (by omega) (HE20.out.box _ (.head _)) HF20.out).mono ?_
    rintro e w21 ⟨i1, rfl, hit, hb21⟩
    have HE21 : Hid _ := HE20.out.below hb21
    have HF21 : Hid (FRow w21 ao cap fl) := HF20.out.below hb21
    rw [HFl.out] at hit
    have HHit : Hid (HitF (flA M) (fun x => x.a == ka && x.b == kb) i1) := hit
    clear hb21 HE20 HF20 hit
    cases hH : hasK M (allC M) (ka, kb)
    · have o1 : withoutE M ka kb = 5 := by unfold withoutE; rw [if_neg (by simpa using HCz.out), if_neg (by rw [HKy.out]; simp), if_pos hH]
      have hi1 : i1 = -1 := hit_none HHit.out hH
      subst hi1
      have HY0 : Hid (MY = m0) := HMY.out.trans (by unfold withoutM; rw [o1, if_neg (by decide)])
      have e2 : nY = 0 := HnY.out.trans (by unfold withoutN; rw [o1, if_neg (by decide)])
      have e1 : eY = 5 := HeY.out.trans o1
      subst e1 e2
      clear o1
      obtain ⟨p0, p1, p2, p3, p4, -, -, -, -, -, ps⟩ := boxf (HE21.out.box _ (.tail _ (.tail _ (.head _))))
      obtain ⟨r0, r1, r2, r3, r4, -, -, -, -, -, rs⟩ := boxf (HE21.out.box _ (.tail _ (.head _)))
      go_wp2_with fail
      clear p0 p1 p2 p3 p4 ps r0 r1 r2 r3 r4 rs
      refine (rsame_is HY0.out (HE21.out.ans (.tail _ (.head _))) (HE21.out.ans (.head _))).mono ?_
      rintro e w50 ⟨rfl, hb50⟩
      have HE50 : Hid _ := HE21.out.below hb50
      go_wp2
      go_ret
      exact ⟨rfl, HE50.out.bl⟩
    have o1 : withoutE M ka kb = 0 := by unfold withoutE; rw [if_neg (by simpa using HCz.out), if_neg (by rw [HKy.out]; simp), if_neg (by rw [hH]; simp)]
    have e1 : eY = 0 := HeY.out.trans o1
    subst e1
    obtain ⟨k0, hk0', rfl, hwho⟩ := hit_some HOkc.out HHit.out hH
    have hk0 : k0 < fl.length := by rw [HFl.out]; exact hk0'
    have hws := HOkc.out.allSlots _ (whoK_mem hH).1
    obtain ⟨jw, hjw0⟩ : ∃ j : Nat, whoK M (allC M) (ka, kb) = j := ⟨(whoK M (allC M) (ka, kb)).toNat, by omega⟩
    have hjw : jw < M.slots.length := by omega
    have hnY : nY = jw := HnY.out.trans (by unfold withoutN; rw [o1, if_pos rfl]; exact hjw0)
    subst hnY
    have HFk : Hid (fl[k0].slot = jw) := by
      show _ = _
      have : fl[k0]? = (flA M)[k0]? := by rw [HFl.out]
      rw [List.getElem?_eq_getElem hk0, List.getElem?_eq_getElem hk0'] at this
      injection this with this
      rw [this, hwho, hjw0]
    have hbi := bucket_in ka kb HOk.out.nh.1
    have HBk : Hid (bucket ka kb M.heads.length = (keyN M ka kb : Int)) := by
      show _ = _
      unfold keyN; omega
    have hcb0 : keyN M ka kb < M.heads.length := by unfold keyN; omega
    have hin : whoK M (allC M) (ka, kb) ∈ chL M (keyN M ka kb) := who_in HOkc.out hH
    have hnd := HOkc.out.nodup hcb0
    have hcut : MY = cutM M (keyN M ka kb) (aheadF (whoK M (allC M) (ka, kb)) (chL M (keyN M ka kb)) 0 0) (whoK M (allC M) (ka, kb)) := HMY.out.trans (by unfold withoutM; rw [o1, if_pos rfl]; rfl)
    have hag0 : aheadF (whoK M (allC M) (ka, kb)) (chL M (keyN M ka kb)) 0 0 ≤ M.slots.length := aheadF_le _ _ _ (fun x hx => (HOk.out.chIn hcb0 x hx).2) (by omega) (by omega)
    rw [hjw0] at hin hcut hag0
    have hlen : (chL M (keyN M ka kb)).length ≤ 12 := Nat.le_trans (walkL_len _ _ _) HOk.out.ns
    generalize hcbe : keyN M ka kb = cb at *
    obtain ⟨lc, hlc⟩ : ∃ l, chL M cb = l := ⟨_, rfl⟩
    have HLc : Hid (chL M cb = lc) := hlc
    rw [hlc] at hin hcut hag0 hlen hnd
    have hcb := hcb0
    have HNd : Hid lc.Nodup := hnd
    have HMm : Hid ((jw : Int) ∈ lc) := hin
    obtain ⟨ag, hagd⟩ : ∃ x, x = aheadF (jw : Int) lc 0 0 := ⟨_, rfl⟩
    rw [← hagd] at hcut hag0
    have hag := hag0
    have HAg : Hid (ag = aheadF (jw : Int) lc 0 0) := hagd
    have HYc : Hid (MY = cutM M cb ag jw) := hcut
    have HA0 : Hid (0 ≤ ag) := by show _ ≤ _; rw [hagd]; exact aheadF_ge _ _ _ (fun x hx => by rw [← hlc] at hx; exact (HOk.out.chIn hcb0 x hx).1) (by omega) (by omega)
    clear hH HHit o1 hwho hjw0 hk0' hbi hin hnd hcut hcbe hlc hagd hws hcb0 hag0
    obtain ⟨k0, k1⟩ := keyf (HE21.out.box _ (.tail _ (.tail _ (.tail _ (.tail _ (.tail _ (.head _)))))))
    have ks := HE21.out.lt (.tail _ (.tail _ (.tail _ (.tail _ (.tail _ (.head _))))))
    obtain ⟨q0, q1, q2, q3, q4, -, -, -, -, -, qs⟩ := boxf (HE21.out.box _ (.tail _ (.tail _ (.tail _ (.tail _ (.tail _ (.tail _ (.head _))))))))
    go_wp2_with fail
    clear k0 k1 ks q0 q1 q2 q3 q4 qs
    refine (bucketOf_at HBk.out w21 HKy.out HOk.out.nh.1 HOk.out.nh.2).mono ?_
    rintro e w22 ⟨rfl, hb22⟩
    have HE22 : Hid _ := HE21.out.below hb22
    have HF22 : Hid (FRow w22 ao cap fl) := HF21.out.below hb22
    clear hb22 HE21 HF21
    obtain ⟨q0, q1, q2, q3, q4, -, -, -, -, -, qs⟩ := boxf (HE22.out.box _ (.tail _ (.tail _ (.tail _ (.tail _ (.tail _ (.tail _ (.head _))))))))
    go_wp2_with fail
    clear q0 q1 q2 q3 q4 qs
    refine (chainOf_at HLc.out HOkc.out hcb hlen _ w22 0 (HE22.out.ans (.tail _ (.tail _ (.tail _ (.tail _ (.head _))))))).mono ?_
    rintro e wf ⟨ac, cc, rfl, hrc, hbf⟩
    have HEf : Hid _ := HE22.out.below hbf
    have HFf : Hid (FRow wf ao cap fl) := HF22.out.below hbf
    have HRc : Hid (IRow wf ac cc lc) := hrc
    clear hbf HE22 HF22 hrc
    obtain ⟨v0, -, vs⟩ := var_cell (HEf.out.box _ (.head _))
    rcases HFf.out.at_ with h0 | ⟨bk, okk, rfl, hcF⟩
    · omega
    obtain ⟨-, -, y2, -⟩ := hcF k0 hk0
    rw [HFk.out] at y2
    clear hcF
    go_wp2_with fail
    go_loop [22, 183] (fun p i => ∃ q : Nat, q ≤ lc.length ∧ i = .int .i64 q ∧ p = .int .i64 (lastN (lc.take q)) ∧ Hid (¬ (jw : Int) ∈ lc.take q)) (fun _ i => lc.length - (intOf i).toNat)
    case atStart => exact ⟨0, Nat.zero_le _, rfl, rfl, by show ¬ _; simp⟩
    case round =>
      obtain ⟨q, hqle, rfl, rfl, HNo⟩ := hrel
      by_cases hq : q < lc.length
      · rcases HRc.out.at_ with h0 | ⟨bc2, oc2, rfl, hcc⟩
        · omega
        have l0 := hcc q hq
        clear hcc
        by_cases heq : lc[q] = (jw : Int)
        · rw [heq] at l0
          obtain ⟨q0, q1, q2, q3, q4, -, -, -, -, -, qs⟩ := boxf (HEf.out.box _ (.tail _ (.tail _ (.tail _ (.tail _ (.tail _ (.tail _ (.head _))))))))
          go_wp2_with fail
          clear y2 v0 vs
          clear q0 q1 q2 q3 q4 qs
          have HPv : Hid (lastN (lc.take q) = ag) := by
            show _ = _
            have hsp : lc = lc.take q ++ (jw : Int) :: lc.drop (q + 1) := by
              have := List.take_append_drop q lc
              rw [List.drop_eq_getElem_cons hq, heq] at this
              exact this.symm
            have hpa := prev_ahead HNd.out HMm.out
            rw [HAg.out, ← hpa]
            conv => rhs; rw [hsp]
            rw [prev_at HNo.out]
            rfl
          rw [HPv.out]
          clear heq hq l0
          refine (ownMem_any M _ aH aF aL cS cH cF cL wf (HEf.out.ans (.tail _ (.tail _ (.tail _ (.tail _ (.head _)))))).at_).mono ?_
          rintro e w40 ⟨gS', gH', gF', gL', kS', kH', kF', kL', rfl, rw40, hb40⟩
          have HM40 : Hid (Mine (w40.alloc (.cells #[.slice gS' M.slots.length kS', .slice gH' M.heads.length kH', .slice gF' M.free.length kF', .slice gL' M.locks.length kL', .int .i64 M.now] 29)) w40.heap.size wf.heap.size gS' gH' gF' gL' kS' kH' kF' kL' M) := Mine.made rw40 m1 m2 (by omega) m4
          have HZ40 : Hid (wf.heap.size ≤ w40.heap.size) := hb40.size
          have b40 : Below wf.heap.size wf (w40.alloc (.cells #[.slice gS' M.slots.length kS', .slice gH' M.heads.length kH', .slice gF' M.free.length kF', .slice gL' M.locks.length kL', .int .i64 M.now] 29)) := hb40.trans ((one_below _ _).mono hb40.size)
          have HE40 : Hid _ := HEf.out.below hb40
          have HF40 : Hid (FRow w40 _ cap fl) := HFf.out.below hb40
          clear hb40 rw40
          obtain ⟨v0, -, vs⟩ := var_cell (HE40.out.box _ (.head _))
          rcases HF40.out.at_ with h0 | ⟨bk, okk, hfe, hc⟩
          · omega
          obtain ⟨y0, y1, y2, y3⟩ := hc k0 hk0
          rw [HFk.out] at y2
          clear hc
          injection hfe with hfe
          injection hfe with e1 e2
          subst e1 e2
          have yl := cell_lt y2
          go_wp2_with fail
          generalize hB40 : w40.heap.size = B40 at *
          generalize w40.alloc (.cells #[.slice gS' M.slots.length kS', .slice gH' M.heads.length kH', .slice gF' M.free.length kF', .slice gL' M.locks.length kL', .int .i64 M.now] 29) = W40 at *
          clear v0 vs
          clear y0 y1 y2 y3 yl HE40 HF40 hB40
          refine (rcut_at HYc.out W40 _ _ _ _ _ _ _ _ _ _ HM40.out HOk.out hjw hcb HA0.out hag).mono ?_
          rintro e w41 ⟨rfl, uS, uH, uF, uL, lS, lH, lF, lL, m41, k41⟩
          have b41 : Below wf.heap.size wf w41 := b40.trans (k41.down (n := wf.heap.size) (Nat.le_refl _) HZ40.out)
          have HM41 : Hid _ := m41
          have HE41 : Hid _ := HEf.out.below b41
          have HF41 : Hid (FRow w41 _ cap fl) := HFf.out.below b41
          clear m41 k41 b40 HM40
          obtain ⟨v0, -, vs⟩ := var_cell (HE41.out.box _ (.head _))
          obtain ⟨p0, p1, p2, p3, p4, -, -, -, -, -, ps⟩ := boxf (HE41.out.box _ (.tail _ (.tail _ (.head _))))
          obtain ⟨r0, r1, r2, r3, r4, -, -, -, -, -, rs⟩ := boxf HM41.out.box
          rcases HF41.out.at_ with h0 | ⟨bk, okk, hfe, hc⟩
          · omega
          obtain ⟨y0, y1, y2, y3⟩ := hc k0 hk0
          rw [HFk.out] at y2
          clear hc
          injection hfe with hfe
          injection hfe with e1 e2
          subst e1 e2
          go_wp2_with fail
          clear p0 p1 p2 p3 p4 ps r0 r1 r2 r3 r4 rs v0 vs
          clear y0 y1 y2 y3
          refine (rsame_is rfl (HE41.out.ans (.tail _ (.head _))) HM41.out.ans).mono ?_
          rintro e w42 ⟨rfl, hb42⟩
          have HE42 : Hid _ := HE41.out.below hb42
          go_wp2
          go_ret
          exact ⟨rfl, HE42.out.bl⟩
        · have hne : (lc[q] == (jw : Int)) = false := by rw [beq_eq_false_iff_ne]; exact heq
          have hbq := HBq.out lc ⟨cb, hcb, HLc.out⟩ q hq
          have HNx : Hid (¬ (jw : Int) ∈ lc.take (q + 1)) := by
            show ¬ _
            rw [List.take_succ_eq_append_getElem hq, List.mem_append, not_or]
            exact ⟨HNo.out, by simpa using fun e => heq e.symm⟩
          have HLs : Hid (lastN (lc.take (q + 1)) = lc[q] + 1) := by show _ = _; rw [List.take_succ_eq_append_getElem hq, lastN_snoc]
          generalize hlq : lc[q] = x0 at *
          go_wp2
          go_round
          case rel => exact ⟨q + 1, by omega, by go_num, by rw [HLs.out], HNx⟩
          case measure => simp [intOf]; omega
      · exfalso
        have := HNo.out
        rw [show q = lc.length by omega, List.take_length] at this
        exact this HMm.out
  rcases Int.lt_or_le i M.slots.length with hi1 | hi1
  rotate_left
  · have o1 : linkE M i = 5 := by unfold linkE; rw [if_neg (by simpa using HCz.out), if_pos (by simp [isSl, inB]; omega)]
    have HX0 : Hid (MX = m0) := HMX.out.trans (by unfold linkedM; rw [o1, if_neg (by decide)])
    have e1 : eX = 5 := HeX.out.trans o1
    subst e1
    clear o1
    obtain ⟨p0, p1, p2, p3, p4, -, -, -, -, -, ps⟩ := boxf (HE7a.out.box _ (.tail _ (.tail _ (.head _))))
    obtain ⟨r0, r1, r2, r3, r4, -, -, -, -, -, rs⟩ := boxf (HE7a.out.box _ (.head _))
    go_wp2_with fail
    generalize hV : w7.heap.size = V at *
    generalize w7.alloc (.cells #[.slice ao fl.length cap] 60) = W7 at *
    clear hV
    clear p0 p1 p2 p3 p4 ps r0 r1 r2 r3 r4 rs q0 q1 q2 q3 q4 qs
    clear HE7a
    refine (rsame_is HX0.out (HE7.out.ans (.tail _ (.tail _ (.head _)))) (HE7.out.ans (.head _))).mono ?_
    rintro e wc ⟨rfl, bc⟩
    have HEc : Hid _ := HE7.out.below bc
    have HFc : Hid (FRow wc ao cap fl) := HF7.out.below bc
    obtain ⟨k0, k1⟩ := keyf (HEc.out.box _ (.tail _ (.tail _ (.tail _ (.tail _ (.tail _ (.head _)))))))
    have ks := HEc.out.lt (.tail _ (.tail _ (.tail _ (.tail _ (.tail _ (.head _))))))
    go_wp2_with fail
    clear k0 k1 ks
    refine (isKey_any ka kb wc).mono ?_
    rintro e w20 ⟨rfl, hb20⟩
    have HE20 : Hid _ := HEc.out.below hb20
    have HF20 : Hid (FRow w20 ao cap fl) := HFc.out.below hb20
    clear hb20 HEc HFc
    cases hK : keyB ka kb
    · have o1 : withoutE M ka kb = 3 := by unfold withoutE; rw [if_neg (by simpa using HCz.out), if_pos hK]
      have HY0 : Hid (MY = m0) := HMY.out.trans (by unfold withoutM; rw [o1, if_neg (by decide)])
      have e2 : nY = 0 := HnY.out.trans (by unfold withoutN; rw [o1, if_neg (by decide)])
      have e1 : eY = 3 := HeY.out.trans o1
      subst e1 e2
      clear o1
      obtain ⟨p0, p1, p2, p3, p4, -, -, -, -, -, ps⟩ := boxf (HE20.out.box _ (.tail _ (.tail _ (.head _))))
      obtain ⟨r0, r1, r2, r3, r4, -, -, -, -, -, rs⟩ := boxf (HE20.out.box _ (.tail _ (.head _)))
      go_wp2_with fail
      clear p0 p1 p2 p3 p4 ps r0 r1 r2 r3 r4 rs
      refine (rsame_is HY0.out (HE20.out.ans (.tail _ (.head _))) (HE20.out.ans (.head _))).mono ?_
      rintro e w50 ⟨rfl, hb50⟩
      have HE50 : Hid _ := HE20.out.below hb50
      go_wp2
      go_ret
      exact ⟨rfl, HE50.out.bl⟩
    have HKy : Hid (keyB ka kb = true) := hK
    clear hK
    obtain ⟨k0, k1⟩ := keyf (HE20.out.box _ (.tail _ (.tail _ (.tail _ (.tail _ (.tail _ (.head _)))))))
    have ks := HE20.out.lt (.tail _ (.tail _ (.tail _ (.tail _ (.tail _ (.head _))))))
    go_wp2_with fail
    clear k0 k1 ks
    refine (of_any ao cap fl V ka kb w20 (by omega) (HE20.out.box _ (.head _)) HF20.out).mono ?_
    rintro e w21 ⟨i1, rfl, hit, hb21⟩
    have HE21 : Hid _ := HE20.out.below hb21
    have HF21 : Hid (FRow w21 ao cap fl) := HF20.out.below hb21
    rw [HFl.out] at hit
    have HHit : Hid (HitF (flA M) (fun x => x.a == ka && x.b == kb) i1) := hit
    clear hb21 HE20 HF20 hit
    cases hH : hasK M (allC M) (ka, kb)
    · have o1 : withoutE M ka kb = 5 := by unfold withoutE; rw [if_neg (by simpa using HCz.out), if_neg (by rw [HKy.out]; simp), if_pos hH]
      have hi1 : i1 = -1 := hit_none HHit.out hH
      subst hi1
      have HY0 : Hid (MY = m0) := HMY.out.trans (by unfold withoutM; rw [o1, if_neg (by decide)])
      have e2 : nY = 0 := HnY.out.trans (by unfold withoutN; rw [o1, if_neg (by decide)])
      have e1 : eY = 5 := HeY.out.trans o1
      subst e1 e2
      clear o1
      obtain ⟨p0, p1, p2, p3, p4, -, -, -, -, -, ps⟩ := boxf (HE21.out.box _ (.tail _ (.tail _ (.head _))))
      obtain ⟨r0, r1, r2, r3, r4, -, -, -, -, -, rs⟩ := boxf (HE21.out.box _ (.tail _ (.head _)))
      go_wp2_with fail
      clear p0 p1 p2 p3 p4 ps r0 r1 r2 r3 r4 rs
      refine (rsame_is HY0.out (HE21.out.ans (.tail _ (.head _))) (HE21.out.ans (.head _))).mono ?_
      rintro e w50 ⟨rfl, hb50⟩
      have HE50 : Hid _ := HE21.out.below hb50
      go_wp2
      go_ret
      exact ⟨rfl, HE50.out.bl⟩
    have o1 : withoutE M ka kb = 0 := by unfold withoutE; rw [if_neg (by simpa using HCz.out), if_neg (by rw [HKy.out]; simp), if_neg (by rw [hH]; simp)]
    have e1 : eY = 0 := HeY.out.trans o1
    subst e1
    obtain ⟨k0, hk0', rfl, hwho⟩ := hit_some HOkc.out HHit.out hH
    have hk0 : k0 < fl.length := by rw [HFl.out]; exact hk0'
    have hws := HOkc.out.allSlots _ (whoK_mem hH).1
    obtain ⟨jw, hjw0⟩ : ∃ j : Nat, whoK M (allC M) (ka, kb) = j := ⟨(whoK M (allC M) (ka, kb)).toNat, by omega⟩
    have hjw : jw < M.slots.length := by omega
    have hnY : nY = jw := HnY.out.trans (by unfold withoutN; rw [o1, if_pos rfl]; exact hjw0)
    subst hnY
    have HFk : Hid (fl[k0].slot = jw) := by
      show _ = _
      have : fl[k0]? = (flA M)[k0]? := by rw [HFl.out]
      rw [List.getElem?_eq_getElem hk0, List.getElem?_eq_getElem hk0'] at this
      injection this with this
      rw [this, hwho, hjw0]
    have hbi := bucket_in ka kb HOk.out.nh.1
    have HBk : Hid (bucket ka kb M.heads.length = (keyN M ka kb : Int)) := by
      show _ = _
      unfold keyN; omega
    have hcb0 : keyN M ka kb < M.heads.length := by unfold keyN; omega
    have hin : whoK M (allC M) (ka, kb) ∈ chL M (keyN M ka kb) := who_in HOkc.out hH
    have hnd := HOkc.out.nodup hcb0
    have hcut : MY = cutM M (keyN M ka kb) (aheadF (whoK M (allC M) (ka, kb)) (chL M (keyN M ka kb)) 0 0) (whoK M (allC M) (ka, kb)) := HMY.out.trans (by unfold withoutM; rw [o1, if_pos rfl]; rfl)
    have hag0 : aheadF (whoK M (allC M) (ka, kb)) (chL M (keyN M ka kb)) 0 0 ≤ M.slots.length := aheadF_le _ _ _ (fun x hx => (HOk.out.chIn hcb0 x hx).2) (by omega) (by omega)
    rw [hjw0] at hin hcut hag0
    have hlen : (chL M (keyN M ka kb)).length ≤ 12 := Nat.le_trans (walkL_len _ _ _) HOk.out.ns
    generalize hcbe : keyN M ka kb = cb at *
    obtain ⟨lc, hlc⟩ : ∃ l, chL M cb = l := ⟨_, rfl⟩
    have HLc : Hid (chL M cb = lc) := hlc
    rw [hlc] at hin hcut hag0 hlen hnd
    have hcb := hcb0
    have HNd : Hid lc.Nodup := hnd
    have HMm : Hid ((jw : Int) ∈ lc) := hin
    obtain ⟨ag, hagd⟩ : ∃ x, x = aheadF (jw : Int) lc 0 0 := ⟨_, rfl⟩
    rw [← hagd] at hcut hag0
    have hag := hag0
    have HAg : Hid (ag = aheadF (jw : Int) lc 0 0) := hagd
    have HYc : Hid (MY = cutM M cb ag jw) := hcut
    have HA0 : Hid (0 ≤ ag) := by show _ ≤ _; rw [hagd]; exact aheadF_ge _ _ _ (fun x hx => by rw [← hlc] at hx; exact (HOk.out.chIn hcb0 x hx).1) (by omega) (by omega)
    clear hH HHit o1 hwho hjw0 hk0' hbi hin hnd hcut hcbe hlc hagd hws hcb0 hag0
    obtain ⟨k0, k1⟩ := keyf (HE21.out.box _ (.tail _ (.tail _ (.tail _ (.tail _ (.tail _ (.head _)))))))
    have ks := HE21.out.lt (.tail _ (.tail _ (.tail _ (.tail _ (.tail _ (.head _))))))
    obtain ⟨q0, q1, q2, q3, q4, -, -, -, -, -, qs⟩ := boxf (HE21.out.box _ (.tail _ (.tail _ (.tail _ (.tail _ (.tail _ (.tail _ (.head _))))))))
    go_wp2_with fail
    clear k0 k1 ks q0 q1 q2 q3 q4 qs
    refine (bucketOf_at HBk.out w21 HKy.out HOk.out.nh.1 HOk.out.nh.2).mono ?_
    rintro e w22 ⟨rfl, hb22⟩
    have HE22 : Hid _ := HE21.out.below hb22
    have HF22 : Hid (FRow w22 ao cap fl) := HF21.out.below hb22
    clear hb22 HE21 HF21
    obtain ⟨q0, q1, q2, q3, q4, -, -, -, -, -, qs⟩ := boxf (HE22.out.box _ (.tail _ (.tail _ (.tail _ (.tail _ (.tail _ (.tail _ (.head _))))))))
    go_wp2_with fail
    clear q0 q1 q2 q3 q4 qs
    refine (chainOf_at HLc.out HOkc.out hcb hlen _ w22 0 (HE22.out.ans (.tail _ (.tail _ (.tail _ (.tail _ (.head _))))))).mono ?_
    rintro e wf ⟨ac, cc, rfl, hrc, hbf⟩
    have HEf : Hid _ := HE22.out.below hbf
    have HFf : Hid (FRow wf ao cap fl) := HF22.out.below hbf
    have HRc : Hid (IRow wf ac cc lc) := hrc
    clear hbf HE22 HF22 hrc
    obtain ⟨v0, -, vs⟩ := var_cell (HEf.out.box _ (.head _))
    rcases HFf.out.at_ with h0 | ⟨bk, okk, rfl, hcF⟩
    · omega
    obtain ⟨-, -, y2, -⟩ := hcF k0 hk0
    rw [HFk.out] at y2
    clear hcF
    go_wp2_with fail
    go_loop [22, 183] (fun p i => ∃ q : Nat, q ≤ lc.length ∧ i = .int .i64 q ∧ p = .int .i64 (lastN (lc.take q)) ∧ Hid (¬ (jw : Int) ∈ lc.take q)) (fun _ i => lc.length - (intOf i).toNat)
    case atStart => exact ⟨0, Nat.zero_le _, rfl, rfl, by show ¬ _; simp⟩
    case round =>
      obtain ⟨q, hqle, rfl, rfl, HNo⟩ := hrel
      by_cases hq : q < lc.length
      · rcases HRc.out.at_ with h0 | ⟨bc2, oc2, rfl, hcc⟩
        · omega
        have l0 := hcc q hq
        clear hcc
        by_cases heq : lc[q] = (jw : Int)
        · rw [heq] at l0
          obtain ⟨q0, q1, q2, q3, q4, -, -, -, -, -, qs⟩ := boxf (HEf.out.box _ (.tail _ (.tail _ (.tail _ (.tail _ (.tail _ (.tail _ (.head _))))))))
          go_wp2_with fail
          clear y2 v0 vs
          clear q0 q1 q2 q3 q4 qs
          have HPv : Hid (lastN (lc.take q) = ag) := by
            show _ = _
            have hsp : lc = lc.take q ++ (jw : Int) :: lc.drop (q + 1) := by
              have := List.take_append_drop q lc
              rw [List.drop_eq_getElem_cons hq, heq] at this
              exact this.symm
            have hpa := prev_ahead HNd.out HMm.out
            rw [HAg.out, ← hpa]
            conv => rhs; rw [hsp]
            rw [prev_at HNo.out]
            rfl
          rw [HPv.out]
          clear heq hq l0
          refine (ownMem_any M _ aH aF aL cS cH cF cL wf (HEf.out.ans (.tail _ (.tail _ (.tail _ (.tail _ (.head _)))))).at_).mono ?_
          rintro e w40 ⟨gS', gH', gF', gL', kS', kH', kF', kL', rfl, rw40, hb40⟩
          have HM40 : Hid (Mine (w40.alloc (.cells #[.slice gS' M.slots.length kS', .slice gH' M.heads.length kH', .slice gF' M.free.length kF', .slice gL' M.locks.length kL', .int .i64 M.now] 29)) w40.heap.size wf.heap.size gS' gH' gF' gL' kS' kH' kF' kL' M) := Mine.made rw40 m1 m2 (by omega) m4
          have HZ40 : Hid (wf.heap.size ≤ w40.heap.size) := hb40.size
          have b40 : Below wf.heap.size wf (w40.alloc (.cells #[.slice gS' M.slots.length kS', .slice gH' M.heads.length kH', .slice gF' M.free.length kF', .slice gL' M.locks.length kL', .int .i64 M.now] 29)) := hb40.trans ((one_below _ _).mono hb40.size)
          have HE40 : Hid _ := HEf.out.below hb40
          have HF40 : Hid (FRow w40 _ cap fl) := HFf.out.below hb40
          clear hb40 rw40
          obtain ⟨v0, -, vs⟩ := var_cell (HE40.out.box _ (.head _))
          rcases HF40.out.at_ with h0 | ⟨bk, okk, hfe, hc⟩
          · omega
          obtain ⟨y0, y1, y2, y3⟩ := hc k0 hk0
          rw [HFk.out] at y2
          clear hc
          injection hfe with hfe
          injection hfe with e1 e2
          subst e1 e2
          have yl := cell_lt y2
          go_wp2_with fail
          generalize hB40 : w40.heap.size = B40 at *
          generalize w40.alloc (.cells #[.slice gS' M.slots.length kS', .slice gH' M.heads.length kH', .slice gF' M.free.length kF', .slice gL' M.locks.length kL', .int .i64 M.now] 29) = W40 at *
          clear v0 vs
          clear y0 y1 y2 y3 yl HE40 HF40 hB40
          refine (rcut_at HYc.out W40 _ _ _ _ _ _ _ _ _ _ HM40.out HOk.out hjw hcb HA0.out hag).mono ?_
          rintro e w41 ⟨rfl, uS, uH, uF, uL, lS, lH, lF, lL, m41, k41⟩
          have b41 : Below wf.heap.size wf w41 := b40.trans (k41.down (n := wf.heap.size) (Nat.le_refl _) HZ40.out)
          have HM41 : Hid _ := m41
          have HE41 : Hid _ := HEf.out.below b41
          have HF41 : Hid (FRow w41 _ cap fl) := HFf.out.below b41
          clear m41 k41 b40 HM40
          obtain ⟨v0, -, vs⟩ := var_cell (HE41.out.box _ (.head _))
          obtain ⟨p0, p1, p2, p3, p4, -, -, -, -, -, ps⟩ := boxf (HE41.out.box _ (.tail _ (.tail _ (.head _))))
          obtain ⟨r0, r1, r2, r3, r4, -, -, -, -, -, rs⟩ := boxf HM41.out.box
          rcases HF41.out.at_ with h0 | ⟨bk, okk, hfe, hc⟩
          · omega
          obtain ⟨y0, y1, y2, y3⟩ := hc k0 hk0
          rw [HFk.out] at y2
          clear hc
          injection hfe with hfe
          injection hfe with e1 e2
          subst e1 e2
          go_wp2_with fail
          clear p0 p1 p2 p3 p4 ps r0 r1 r2 r3 r4 rs v0 vs
          clear y0 y1 y2 y3
          refine (rsame_is rfl (HE41.out.ans (.tail _ (.head _))) HM41.out.ans).mono ?_
          rintro e w42 ⟨rfl, hb42⟩
          have HE42 : Hid _ := HE41.out.below hb42
          go_wp2
          go_ret
          exact ⟨rfl, HE42.out.bl⟩
        · have hne : (lc[q] == (jw : Int)) = false := by rw [beq_eq_false_iff_ne]; exact heq
          have hbq := HBq.out lc ⟨cb, hcb, HLc.out⟩ q hq
          have HNx : Hid (¬ (jw : Int) ∈ lc.take (q + 1)) := by
            show ¬ _
            rw [List.take_succ_eq_append_getElem hq, List.mem_append, not_or]
            exact ⟨HNo.out, by simpa using fun e => heq e.symm⟩
          have HLs : Hid (lastN (lc.take (q + 1)) = lc[q] + 1) := by show _ = _; rw [List.take_succ_eq_append_getElem hq, lastN_snoc]
          generalize hlq : lc[q] = x0 at *
          go_wp2
          go_round
          case rel => exact ⟨q + 1, by omega, by go_num, by rw [HLs.out], HNx⟩
          case measure => simp [intOf]; omega
      · exfalso
        have := HNo.out
        rw [show q = lc.length by omega, List.take_length] at this
        exact this HMm.out
  obtain ⟨j, rfl⟩ : ∃ j : Nat, i = j := ⟨i.toNat, by omega⟩
  have hj : j < M.slots.length := by omega
  have HSl : Hid (isSl M j = true) := (inB_iff _ _ _).2 ⟨by omega, by omega⟩
  have hsl : slotAt M j = M.slots[j] := slotAt_lt hj
  rcases (HE7a.out.ans (.tail _ (.tail _ (.tail _ (.tail _ (.head _)))))).at_.s.at_ with h0 | ⟨bs, os, rfl, hcs⟩
  · omega
  obtain ⟨s0, s1, s2, -, -, -⟩ := hcs j hj
  have ls := cell_lt s0
  have hgd := slot_good (HOk.out.slot _ (List.getElem_mem hj))
  generalize hMj : M.slots[j] = sj at s0 s1 s2 hsl hgd
  obtain ⟨rj, ja, jb, uj, inj, nj⟩ := sj
  dsimp only at s0 s1 s2 hgd
  have HRj : Hid (refsM M j = rj) := by show (slotAt M j).refs = rj; rw [hsl]
  have HKj : Hid (keyAt M j = (ja, jb)) := by show ((slotAt M j).a, (slotAt M j).b) = _; rw [hsl]
  have HKg : Hid (keyB ja jb = true) := hgd.2.2.1
  have HBj : Hid (bucket ja jb M.heads.length = (ownB M j : Int)) := by show _ = _; rw [ownB_eq HOk.out j, hsl]
  have hob := ownB_lt HOk.out j
  clear hcs hMj hsl hgd
  by_cases hr : rj = 0
  · subst hr
    have o1 : linkE M j = 8 := by unfold linkE; rw [if_neg (by simpa using HCz.out), if_neg (by rw [HSl.out]; simp), if_pos HRj.out]
    have HX0 : Hid (MX = m0) := HMX.out.trans (by unfold linkedM; rw [o1, if_neg (by decide)])
    have e1 : eX = 8 := HeX.out.trans o1
    subst e1
    clear o1
    obtain ⟨p0, p1, p2, p3, p4, -, -, -, -, -, ps⟩ := boxf (HE7a.out.box _ (.tail _ (.tail _ (.head _))))
    obtain ⟨r0, r1, r2, r3, r4, -, -, -, -, -, rs⟩ := boxf (HE7a.out.box _ (.head _))
    go_wp2_with fail
    generalize hV : w7.heap.size = V at *
    generalize w7.alloc (.cells #[.slice ao fl.length cap] 60) = W7 at *
    clear hV
    clear p0 p1 p2 p3 p4 ps r0 r1 r2 r3 r4 rs q0 q1 q2 q3 q4 qs
    clear HE7a s0 s1 s2 ls
    refine (rsame_is HX0.out (HE7.out.ans (.tail _ (.tail _ (.head _)))) (HE7.out.ans (.head _))).mono ?_
    rintro e wc ⟨rfl, bc⟩
    have HEc : Hid _ := HE7.out.below bc
    have HFc : Hid (FRow wc ao cap fl) := HF7.out.below bc
    obtain ⟨k0, k1⟩ := keyf (HEc.out.box _ (.tail _ (.tail _ (.tail _ (.tail _ (.tail _ (.head _)))))))
    have ks := HEc.out.lt (.tail _ (.tail _ (.tail _ (.tail _ (.tail _ (.head _))))))
    go_wp2_with fail
    clear k0 k1 ks
    refine (isKey_any ka kb wc).mono ?_
    rintro e w20 ⟨rfl, hb20⟩
    have HE20 : Hid _ := HEc.out.below hb20
    have HF20 : Hid (FRow w20 ao cap fl) := HFc.out.below hb20
    clear hb20 HEc HFc
    cases hK : keyB ka kb
    · have o1 : withoutE M ka kb = 3 := by unfold withoutE; rw [if_neg (by simpa using HCz.out), if_pos hK]
      have HY0 : Hid (MY = m0) := HMY.out.trans (by unfold withoutM; rw [o1, if_neg (by decide)])
      have e2 : nY = 0 := HnY.out.trans (by unfold withoutN; rw [o1, if_neg (by decide)])
      have e1 : eY = 3 := HeY.out.trans o1
      subst e1 e2
      clear o1
      obtain ⟨p0, p1, p2, p3, p4, -, -, -, -, -, ps⟩ := boxf (HE20.out.box _ (.tail _ (.tail _ (.head _))))
      obtain ⟨r0, r1, r2, r3, r4, -, -, -, -, -, rs⟩ := boxf (HE20.out.box _ (.tail _ (.head _)))
      go_wp2_with fail
      clear p0 p1 p2 p3 p4 ps r0 r1 r2 r3 r4 rs
      refine (rsame_is HY0.out (HE20.out.ans (.tail _ (.head _))) (HE20.out.ans (.head _))).mono ?_
      rintro e w50 ⟨rfl, hb50⟩
      have HE50 : Hid _ := HE20.out.below hb50
      go_wp2
      go_ret
      exact ⟨rfl, HE50.out.bl⟩
    have HKy : Hid (keyB ka kb = true) := hK
    clear hK
    obtain ⟨k0, k1⟩ := keyf (HE20.out.box _ (.tail _ (.tail _ (.tail _ (.tail _ (.tail _ (.head _)))))))
    have ks := HE20.out.lt (.tail _ (.tail _ (.tail _ (.tail _ (.tail _ (.head _))))))
    go_wp2_with fail
    clear k0 k1 ks
    refine (of_any ao cap fl V ka kb w20 (by omega) (HE20.out.box _ (.head _)) HF20.out).mono ?_
    rintro e w21 ⟨i1, rfl, hit, hb21⟩
    have HE21 : Hid _ := HE20.out.below hb21
    have HF21 : Hid (FRow w21 ao cap fl) := HF20.out.below hb21
    rw [HFl.out] at hit
    have HHit : Hid (HitF (flA M) (fun x => x.a == ka && x.b == kb) i1) := hit
    clear hb21 HE20 HF20 hit
    cases hH : hasK M (allC M) (ka, kb)
    · have o1 : withoutE M ka kb = 5 := by unfold withoutE; rw [if_neg (by simpa using HCz.out), if_neg (by rw [HKy.out]; simp), if_pos hH]
      have hi1 : i1 = -1 := hit_none HHit.out hH
      subst hi1
      have HY0 : Hid (MY = m0) := HMY.out.trans (by unfold withoutM; rw [o1, if_neg (by decide)])
      have e2 : nY = 0 := HnY.out.trans (by unfold withoutN; rw [o1, if_neg (by decide)])
      have e1 : eY = 5 := HeY.out.trans o1
      subst e1 e2
      clear o1
      obtain ⟨p0, p1, p2, p3, p4, -, -, -, -, -, ps⟩ := boxf (HE21.out.box _ (.tail _ (.tail _ (.head _))))
      obtain ⟨r0, r1, r2, r3, r4, -, -, -, -, -, rs⟩ := boxf (HE21.out.box _ (.tail _ (.head _)))
      go_wp2_with fail
      clear p0 p1 p2 p3 p4 ps r0 r1 r2 r3 r4 rs
      refine (rsame_is HY0.out (HE21.out.ans (.tail _ (.head _))) (HE21.out.ans (.head _))).mono ?_
      rintro e w50 ⟨rfl, hb50⟩
      have HE50 : Hid _ := HE21.out.below hb50
      go_wp2
      go_ret
      exact ⟨rfl, HE50.out.bl⟩
    have o1 : withoutE M ka kb = 0 := by unfold withoutE; rw [if_neg (by simpa using HCz.out), if_neg (by rw [HKy.out]; simp), if_neg (by rw [hH]; simp)]
    have e1 : eY = 0 := HeY.out.trans o1
    subst e1
    obtain ⟨k0, hk0', rfl, hwho⟩ := hit_some HOkc.out HHit.out hH
    have hk0 : k0 < fl.length := by rw [HFl.out]; exact hk0'
    have hws := HOkc.out.allSlots _ (whoK_mem hH).1
    obtain ⟨jw, hjw0⟩ : ∃ j : Nat, whoK M (allC M) (ka, kb) = j := ⟨(whoK M (allC M) (ka, kb)).toNat, by omega⟩
    have hjw : jw < M.slots.length := by omega
    have hnY : nY = jw := HnY.out.trans (by unfold withoutN; rw [o1, if_pos rfl]; exact hjw0)
    subst hnY
    have HFk : Hid (fl[k0].slot = jw) := by
      show _ = _
      have : fl[k0]? = (flA M)[k0]? := by rw [HFl.out]
      rw [List.getElem?_eq_getElem hk0, List.getElem?_eq_getElem hk0'] at this
      injection this with this
      rw [this, hwho, hjw0]
    have hbi := bucket_in ka kb HOk.out.nh.1
    have HBk : Hid (bucket ka kb M.heads.length = (keyN M ka kb : Int)) := by
      show _ = _
      unfold keyN; omega
    have hcb0 : keyN M ka kb < M.heads.length := by unfold keyN; omega
    have hin : whoK M (allC M) (ka, kb) ∈ chL M (keyN M ka kb) := who_in HOkc.out hH
    have hnd := HOkc.out.nodup hcb0
    have hcut : MY = cutM M (keyN M ka kb) (aheadF (whoK M (allC M) (ka, kb)) (chL M (keyN M ka kb)) 0 0) (whoK M (allC M) (ka, kb)) := HMY.out.trans (by unfold withoutM; rw [o1, if_pos rfl]; rfl)
    have hag0 : aheadF (whoK M (allC M) (ka, kb)) (chL M (keyN M ka kb)) 0 0 ≤ M.slots.length := aheadF_le _ _ _ (fun x hx => (HOk.out.chIn hcb0 x hx).2) (by omega) (by omega)
    rw [hjw0] at hin hcut hag0
    have hlen : (chL M (keyN M ka kb)).length ≤ 12 := Nat.le_trans (walkL_len _ _ _) HOk.out.ns
    generalize hcbe : keyN M ka kb = cb at *
    obtain ⟨lc, hlc⟩ : ∃ l, chL M cb = l := ⟨_, rfl⟩
    have HLc : Hid (chL M cb = lc) := hlc
    rw [hlc] at hin hcut hag0 hlen hnd
    have hcb := hcb0
    have HNd : Hid lc.Nodup := hnd
    have HMm : Hid ((jw : Int) ∈ lc) := hin
    obtain ⟨ag, hagd⟩ : ∃ x, x = aheadF (jw : Int) lc 0 0 := ⟨_, rfl⟩
    rw [← hagd] at hcut hag0
    have hag := hag0
    have HAg : Hid (ag = aheadF (jw : Int) lc 0 0) := hagd
    have HYc : Hid (MY = cutM M cb ag jw) := hcut
    have HA0 : Hid (0 ≤ ag) := by show _ ≤ _; rw [hagd]; exact aheadF_ge _ _ _ (fun x hx => by rw [← hlc] at hx; exact (HOk.out.chIn hcb0 x hx).1) (by omega) (by omega)
    clear hH HHit o1 hwho hjw0 hk0' hbi hin hnd hcut hcbe hlc hagd hws hcb0 hag0
    obtain ⟨k0, k1⟩ := keyf (HE21.out.box _ (.tail _ (.tail _ (.tail _ (.tail _ (.tail _ (.head _)))))))
    have ks := HE21.out.lt (.tail _ (.tail _ (.tail _ (.tail _ (.tail _ (.head _))))))
    obtain ⟨q0, q1, q2, q3, q4, -, -, -, -, -, qs⟩ := boxf (HE21.out.box _ (.tail _ (.tail _ (.tail _ (.tail _ (.tail _ (.tail _ (.head _))))))))
    go_wp2_with fail
    clear k0 k1 ks q0 q1 q2 q3 q4 qs
    refine (bucketOf_at HBk.out w21 HKy.out HOk.out.nh.1 HOk.out.nh.2).mono ?_
    rintro e w22 ⟨rfl, hb22⟩
    have HE22 : Hid _ := HE21.out.below hb22
    have HF22 : Hid (FRow w22 ao cap fl) := HF21.out.below hb22
    clear hb22 HE21 HF21
    obtain ⟨q0, q1, q2, q3, q4, -, -, -, -, -, qs⟩ := boxf (HE22.out.box _ (.tail _ (.tail _ (.tail _ (.tail _ (.tail _ (.tail _ (.head _))))))))
    go_wp2_with fail
    clear q0 q1 q2 q3 q4 qs
    refine (chainOf_at HLc.out HOkc.out hcb hlen _ w22 0 (HE22.out.ans (.tail _ (.tail _ (.tail _ (.tail _ (.head _))))))).mono ?_
    rintro e wf ⟨ac, cc, rfl, hrc, hbf⟩
    have HEf : Hid _ := HE22.out.below hbf
    have HFf : Hid (FRow wf ao cap fl) := HF22.out.below hbf
    have HRc : Hid (IRow wf ac cc lc) := hrc
    clear hbf HE22 HF22 hrc
    obtain ⟨v0, -, vs⟩ := var_cell (HEf.out.box _ (.head _))
    rcases HFf.out.at_ with h0 | ⟨bk, okk, rfl, hcF⟩
    · omega
    obtain ⟨-, -, y2, -⟩ := hcF k0 hk0
    rw [HFk.out] at y2
    clear hcF
    go_wp2_with fail
    go_loop [22, 183] (fun p i => ∃ q : Nat, q ≤ lc.length ∧ i = .int .i64 q ∧ p = .int .i64 (lastN (lc.take q)) ∧ Hid (¬ (jw : Int) ∈ lc.take q)) (fun _ i => lc.length - (intOf i).toNat)
    case atStart => exact ⟨0, Nat.zero_le _, rfl, rfl, by show ¬ _; simp⟩
    case round =>
      obtain ⟨q, hqle, rfl, rfl, HNo⟩ := hrel
      by_cases hq : q < lc.length
      · rcases HRc.out.at_ with h0 | ⟨bc2, oc2, rfl, hcc⟩
        · omega
        have l0 := hcc q hq
        clear hcc
        by_cases heq : lc[q] = (jw : Int)
        · rw [heq] at l0
          obtain ⟨q0, q1, q2, q3, q4, -, -, -, -, -, qs⟩ := boxf (HEf.out.box _ (.tail _ (.tail _ (.tail _ (.tail _ (.tail _ (.tail _ (.head _))))))))
          go_wp2_with fail
          clear y2 v0 vs
          clear q0 q1 q2 q3 q4 qs
          have HPv : Hid (lastN (lc.take q) = ag) := by
            show _ = _
            have hsp : lc = lc.take q ++ (jw : Int) :: lc.drop (q + 1) := by
              have := List.take_append_drop q lc
              rw [List.drop_eq_getElem_cons hq, heq] at this
              exact this.symm
            have hpa := prev_ahead HNd.out HMm.out
            rw [HAg.out, ← hpa]
            conv => rhs; rw [hsp]
            rw [prev_at HNo.out]
            rfl
          rw [HPv.out]
          clear heq hq l0
          refine (ownMem_any M _ aH aF aL cS cH cF cL wf (HEf.out.ans (.tail _ (.tail _ (.tail _ (.tail _ (.head _)))))).at_).mono ?_
          rintro e w40 ⟨gS', gH', gF', gL', kS', kH', kF', kL', rfl, rw40, hb40⟩
          have HM40 : Hid (Mine (w40.alloc (.cells #[.slice gS' M.slots.length kS', .slice gH' M.heads.length kH', .slice gF' M.free.length kF', .slice gL' M.locks.length kL', .int .i64 M.now] 29)) w40.heap.size wf.heap.size gS' gH' gF' gL' kS' kH' kF' kL' M) := Mine.made rw40 m1 m2 (by omega) m4
          have HZ40 : Hid (wf.heap.size ≤ w40.heap.size) := hb40.size
          have b40 : Below wf.heap.size wf (w40.alloc (.cells #[.slice gS' M.slots.length kS', .slice gH' M.heads.length kH', .slice gF' M.free.length kF', .slice gL' M.locks.length kL', .int .i64 M.now] 29)) := hb40.trans ((one_below _ _).mono hb40.size)
          have HE40 : Hid _ := HEf.out.below hb40
          have HF40 : Hid (FRow w40 _ cap fl) := HFf.out.below hb40
          clear hb40 rw40
          obtain ⟨v0, -, vs⟩ := var_cell (HE40.out.box _ (.head _))
          rcases HF40.out.at_ with h0 | ⟨bk, okk, hfe, hc⟩
          · omega
          obtain ⟨y0, y1, y2, y3⟩ := hc k0 hk0
          rw [HFk.out] at y2
          clear hc
          injection hfe with hfe
          injection hfe with e1 e2
          subst e1 e2
          have yl := cell_lt y2
          go_wp2_with fail
          generalize hB40 : w40.heap.size = B40 at *
          generalize w40.alloc (.cells #[.slice gS' M.slots.length kS', .slice gH' M.heads.length kH', .slice gF' M.free.length kF', .slice gL' M.locks.length kL', .int .i64 M.now] 29) = W40 at *
          clear v0 vs
          clear y0 y1 y2 y3 yl HE40 HF40 hB40
          refine (rcut_at HYc.out W40 _ _ _ _ _ _ _ _ _ _ HM40.out HOk.out hjw hcb HA0.out hag).mono ?_
          rintro e w41 ⟨rfl, uS, uH, uF, uL, lS, lH, lF, lL, m41, k41⟩
          have b41 : Below wf.heap.size wf w41 := b40.trans (k41.down (n := wf.heap.size) (Nat.le_refl _) HZ40.out)
          have HM41 : Hid _ := m41
          have HE41 : Hid _ := HEf.out.below b41
          have HF41 : Hid (FRow w41 _ cap fl) := HFf.out.below b41
          clear m41 k41 b40 HM40
          obtain ⟨v0, -, vs⟩ := var_cell (HE41.out.box _ (.head _))
          obtain ⟨p0, p1, p2, p3, p4, -, -, -, -, -, ps⟩ := boxf (HE41.out.box _ (.tail _ (.tail _ (.head _))))
          obtain ⟨r0, r1, r2, r3, r4, -, -, -, -, -, rs⟩ := boxf HM41.out.box
          rcases HF41.out.at_ with h0 | ⟨bk, okk, hfe, hc⟩
          · omega
          obtain ⟨y0, y1, y2, y3⟩ := hc k0 hk0
          rw [HFk.out] at y2
          clear hc
          injection hfe with hfe
          injection hfe with e1 e2
          subst e1 e2
          go_wp2_with fail
          clear p0 p1 p2 p3 p4 ps r0 r1 r2 r3 r4 rs v0 vs
          clear y0 y1 y2 y3
          refine (rsame_is rfl (HE41.out.ans (.tail _ (.head _))) HM41.out.ans).mono ?_
          rintro e w42 ⟨rfl, hb42⟩
          have HE42 : Hid _ := HE41.out.below hb42
          go_wp2
          go_ret
          exact ⟨rfl, HE42.out.bl⟩
        · have hne : (lc[q] == (jw : Int)) = false := by rw [beq_eq_false_iff_ne]; exact heq
          have hbq := HBq.out lc ⟨cb, hcb, HLc.out⟩ q hq
          have HNx : Hid (¬ (jw : Int) ∈ lc.take (q + 1)) := by
            show ¬ _
            rw [List.take_succ_eq_append_getElem hq, List.mem_append, not_or]
            exact ⟨HNo.out, by simpa using fun e => heq e.symm⟩
          have HLs : Hid (lastN (lc.take (q + 1)) = lc[q] + 1) := by show _ = _; rw [List.take_succ_eq_append_getElem hq, lastN_snoc]
          generalize hlq : lc[q] = x0 at *
          go_wp2
          go_round
          case rel => exact ⟨q + 1, by omega, by go_num, by rw [HLs.out], HNx⟩
          case measure => simp [intOf]; omega
      · exfalso
        have := HNo.out
        rw [show q = lc.length by omega, List.take_length] at this
        exact this HMm.out
  have hr' : (rj == 0) = false := by simpa using hr
  have HRn : Hid (refsM M j ≠ 0) := by rw [HRj.out]; exact hr
  clear hr
  go_wp2_with fail
  generalize hV : w7.heap.size = V at *
  generalize w7.alloc (.cells #[.slice ao fl.length cap] 60) = W7 at *
  clear hV HE7a
  clear q0 q1 q2 q3 q4 qs
  clear s0 s1 s2 ls
  refine (of_any ao cap fl V ja jb W7 (by omega) (HE7.out.box _ (.head _)) HF7.out).mono ?_
  rintro e w10 ⟨i0, rfl, hit, hb10⟩
  rw [HFl.out] at hit
  have HHit : Hid (HitF (flA M) (fun x => x.a == ja && x.b == jb) i0) := hit
  have HE10 : Hid _ := HE7.out.below hb10
  clear hit
  cases hH : hasK M (allC M) (ja, jb)
  rotate_left
  · obtain ⟨kk, hkk, rfl, -⟩ := hit_some HOkc.out HHit.out hH
    clear HHit
    have o1 : linkE M j = 6 := by unfold linkE; rw [if_neg (by simpa using HCz.out), if_neg (by rw [HSl.out]; simp), if_neg HRn.out, HKj.out, if_pos hH]
    have HX0 : Hid (MX = m0) := HMX.out.trans (by unfold linkedM; rw [o1, if_neg (by decide)])
    have e1 : eX = 6 := HeX.out.trans o1
    subst e1
    clear o1
    clear hH hkk
    obtain ⟨p0, p1, p2, p3, p4, -, -, -, -, -, ps⟩ := boxf (HE10.out.box _ (.tail _ (.tail _ (.tail _ (.head _)))))
    obtain ⟨r0, r1, r2, r3, r4, -, -, -, -, -, rs⟩ := boxf (HE10.out.box _ (.tail _ (.head _)))
    go_wp2_with fail
    clear p0 p1 p2 p3 p4 ps r0 r1 r2 r3 r4 rs
    refine (rsame_is HX0.out (HE10.out.ans (.tail _ (.tail _ (.head _)))) (HE10.out.ans (.head _))).mono ?_
    rintro e wc ⟨rfl, hbc⟩
    have bc : Below W7.heap.size W7 wc := hb10.trans (hbc.mono hb10.size)
    clear hbc hb10 HE10
    have HEc : Hid _ := HE7.out.below bc
    have HFc : Hid (FRow wc ao cap fl) := HF7.out.below bc
    obtain ⟨k0, k1⟩ := keyf (HEc.out.box _ (.tail _ (.tail _ (.tail _ (.tail _ (.tail _ (.head _)))))))
    have ks := HEc.out.lt (.tail _ (.tail _ (.tail _ (.tail _ (.tail _ (.head _))))))
    go_wp2_with fail
    clear k0 k1 ks
    refine (isKey_any ka kb wc).mono ?_
    rintro e w20 ⟨rfl, hb20⟩
    have HE20 : Hid _ := HEc.out.below hb20
    have HF20 : Hid (FRow w20 ao cap fl) := HFc.out.below hb20
    clear hb20 HEc HFc
    cases hK : keyB ka kb
    · have o1 : withoutE M ka kb = 3 := by unfold withoutE; rw [if_neg (by simpa using HCz.out), if_pos hK]
      have HY0 : Hid (MY = m0) := HMY.out.trans (by unfold withoutM; rw [o1, if_neg (by decide)])
      have e2 : nY = 0 := HnY.out.trans (by unfold withoutN; rw [o1, if_neg (by decide)])
      have e1 : eY = 3 := HeY.out.trans o1
      subst e1 e2
      clear o1
      obtain ⟨p0, p1, p2, p3, p4, -, -, -, -, -, ps⟩ := boxf (HE20.out.box _ (.tail _ (.tail _ (.head _))))
      obtain ⟨r0, r1, r2, r3, r4, -, -, -, -, -, rs⟩ := boxf (HE20.out.box _ (.tail _ (.head _)))
      go_wp2_with fail
      clear p0 p1 p2 p3 p4 ps r0 r1 r2 r3 r4 rs
      refine (rsame_is HY0.out (HE20.out.ans (.tail _ (.head _))) (HE20.out.ans (.head _))).mono ?_
      rintro e w50 ⟨rfl, hb50⟩
      have HE50 : Hid _ := HE20.out.below hb50
      go_wp2
      go_ret
      exact ⟨rfl, HE50.out.bl⟩
    have HKy : Hid (keyB ka kb = true) := hK
    clear hK
    obtain ⟨k0, k1⟩ := keyf (HE20.out.box _ (.tail _ (.tail _ (.tail _ (.tail _ (.tail _ (.head _)))))))
    have ks := HE20.out.lt (.tail _ (.tail _ (.tail _ (.tail _ (.tail _ (.head _))))))
    go_wp2_with fail
    clear k0 k1 ks
    refine (of_any ao cap fl V ka kb w20 (by omega) (HE20.out.box _ (.head _)) HF20.out).mono ?_
    rintro e w21 ⟨i1, rfl, hit, hb21⟩
    have HE21 : Hid _ := HE20.out.below hb21
    have HF21 : Hid (FRow w21 ao cap fl) := HF20.out.below hb21
    rw [HFl.out] at hit
    have HHit : Hid (HitF (flA M) (fun x => x.a == ka && x.b == kb) i1) := hit
    clear hb21 HE20 HF20 hit
    cases hH : hasK M (allC M) (ka, kb)
    · have o1 : withoutE M ka kb = 5 := by unfold withoutE; rw [if_neg (by simpa using HCz.out), if_neg (by rw [HKy.out]; simp), if_pos hH]
      have hi1 : i1 = -1 := hit_none HHit.out hH
      subst hi1
      have HY0 : Hid (MY = m0) := HMY.out.trans (by unfold withoutM; rw [o1, if_neg (by decide)])
      have e2 : nY = 0 := HnY.out.trans (by unfold withoutN; rw [o1, if_neg (by decide)])
      have e1 : eY = 5 := HeY.out.trans o1
      subst e1 e2
      clear o1
      obtain ⟨p0, p1, p2, p3, p4, -, -, -, -, -, ps⟩ := boxf (HE21.out.box _ (.tail _ (.tail _ (.head _))))
      obtain ⟨r0, r1, r2, r3, r4, -, -, -, -, -, rs⟩ := boxf (HE21.out.box _ (.tail _ (.head _)))
      go_wp2_with fail
      clear p0 p1 p2 p3 p4 ps r0 r1 r2 r3 r4 rs
      refine (rsame_is HY0.out (HE21.out.ans (.tail _ (.head _))) (HE21.out.ans (.head _))).mono ?_
      rintro e w50 ⟨rfl, hb50⟩
      have HE50 : Hid _ := HE21.out.below hb50
      go_wp2
      go_ret
      exact ⟨rfl, HE50.out.bl⟩
    have o1 : withoutE M ka kb = 0 := by unfold withoutE; rw [if_neg (by simpa using HCz.out), if_neg (by rw [HKy.out]; simp), if_neg (by rw [hH]; simp)]
    have e1 : eY = 0 := HeY.out.trans o1
    subst e1
    obtain ⟨k0, hk0', rfl, hwho⟩ := hit_some HOkc.out HHit.out hH
    have hk0 : k0 < fl.length := by rw [HFl.out]; exact hk0'
    have hws := HOkc.out.allSlots _ (whoK_mem hH).1
    obtain ⟨jw, hjw0⟩ : ∃ j : Nat, whoK M (allC M) (ka, kb) = j := ⟨(whoK M (allC M) (ka, kb)).toNat, by omega⟩
    have hjw : jw < M.slots.length := by omega
    have hnY : nY = jw := HnY.out.trans (by unfold withoutN; rw [o1, if_pos rfl]; exact hjw0)
    subst hnY
    have HFk : Hid (fl[k0].slot = jw) := by
      show _ = _
      have : fl[k0]? = (flA M)[k0]? := by rw [HFl.out]
      rw [List.getElem?_eq_getElem hk0, List.getElem?_eq_getElem hk0'] at this
      injection this with this
      rw [this, hwho, hjw0]
    have hbi := bucket_in ka kb HOk.out.nh.1
    have HBk : Hid (bucket ka kb M.heads.length = (keyN M ka kb : Int)) := by
      show _ = _
      unfold keyN; omega
    have hcb0 : keyN M ka kb < M.heads.length := by unfold keyN; omega
    have hin : whoK M (allC M) (ka, kb) ∈ chL M (keyN M ka kb) := who_in HOkc.out hH
    have hnd := HOkc.out.nodup hcb0
    have hcut : MY = cutM M (keyN M ka kb) (aheadF (whoK M (allC M) (ka, kb)) (chL M (keyN M ka kb)) 0 0) (whoK M (allC M) (ka, kb)) := HMY.out.trans (by unfold withoutM; rw [o1, if_pos rfl]; rfl)
    have hag0 : aheadF (whoK M (allC M) (ka, kb)) (chL M (keyN M ka kb)) 0 0 ≤ M.slots.length := aheadF_le _ _ _ (fun x hx => (HOk.out.chIn hcb0 x hx).2) (by omega) (by omega)
    rw [hjw0] at hin hcut hag0
    have hlen : (chL M (keyN M ka kb)).length ≤ 12 := Nat.le_trans (walkL_len _ _ _) HOk.out.ns
    generalize hcbe : keyN M ka kb = cb at *
    obtain ⟨lc, hlc⟩ : ∃ l, chL M cb = l := ⟨_, rfl⟩
    have HLc : Hid (chL M cb = lc) := hlc
    rw [hlc] at hin hcut hag0 hlen hnd
    have hcb := hcb0
    have HNd : Hid lc.Nodup := hnd
    have HMm : Hid ((jw : Int) ∈ lc) := hin
    obtain ⟨ag, hagd⟩ : ∃ x, x = aheadF (jw : Int) lc 0 0 := ⟨_, rfl⟩
    rw [← hagd] at hcut hag0
    have hag := hag0
    have HAg : Hid (ag = aheadF (jw : Int) lc 0 0) := hagd
    have HYc : Hid (MY = cutM M cb ag jw) := hcut
    have HA0 : Hid (0 ≤ ag) := by show _ ≤ _; rw [hagd]; exact aheadF_ge _ _ _ (fun x hx => by rw [← hlc] at hx; exact (HOk.out.chIn hcb0 x hx).1) (by omega) (by omega)
    clear hH HHit o1 hwho hjw0 hk0' hbi hin hnd hcut hcbe hlc hagd hws hcb0 hag0
    obtain ⟨k0, k1⟩ := keyf (HE21.out.box _ (.tail _ (.tail _ (.tail _ (.tail _ (.tail _ (.head _)))))))
    have ks := HE21.out.lt (.tail _ (.tail _ (.tail _ (.tail _ (.tail _ (.head _))))))
    obtain ⟨q0, q1, q2, q3, q4, -, -, -, -, -, qs⟩ := boxf (HE21.out.box _ (.tail _ (.tail _ (.tail _ (.tail _ (.tail _ (.tail _ (.head _))))))))
    go_wp2_with fail
    clear k0 k1 ks q0 q1 q2 q3 q4 qs
    refine (bucketOf_at HBk.out w21 HKy.out HOk.out.nh.1 HOk.out.nh.2).mono ?_
    rintro e w22 ⟨rfl, hb22⟩
    have HE22 : Hid _ := HE21.out.below hb22
    have HF22 : Hid (FRow w22 ao cap fl) := HF21.out.below hb22
    clear hb22 HE21 HF21
    obtain ⟨q0, q1, q2, q3, q4, -, -, -, -, -, qs⟩ := boxf (HE22.out.box _ (.tail _ (.tail _ (.tail _ (.tail _ (.tail _ (.tail _ (.head _))))))))
    go_wp2_with fail
    clear q0 q1 q2 q3 q4 qs
    refine (chainOf_at HLc.out HOkc.out hcb hlen _ w22 0 (HE22.out.ans (.tail _ (.tail _ (.tail _ (.tail _ (.head _))))))).mono ?_
    rintro e wf ⟨ac, cc, rfl, hrc, hbf⟩
    have HEf : Hid _ := HE22.out.below hbf
    have HFf : Hid (FRow wf ao cap fl) := HF22.out.below hbf
    have HRc : Hid (IRow wf ac cc lc) := hrc
    clear hbf HE22 HF22 hrc
    obtain ⟨v0, -, vs⟩ := var_cell (HEf.out.box _ (.head _))
    rcases HFf.out.at_ with h0 | ⟨bk, okk, rfl, hcF⟩
    · omega
    obtain ⟨-, -, y2, -⟩ := hcF k0 hk0
    rw [HFk.out] at y2
    clear hcF
    go_wp2_with fail
    go_loop [22, 183] (fun p i => ∃ q : Nat, q ≤ lc.length ∧ i = .int .i64 q ∧ p = .int .i64 (lastN (lc.take q)) ∧ Hid (¬ (jw : Int) ∈ lc.take q)) (fun _ i => lc.length - (intOf i).toNat)
    case atStart => exact ⟨0, Nat.zero_le _, rfl, rfl, by show ¬ _; simp⟩
    case round =>
      obtain ⟨q, hqle, rfl, rfl, HNo⟩ := hrel
      by_cases hq : q < lc.length
      · rcases HRc.out.at_ with h0 | ⟨bc2, oc2, rfl, hcc⟩
        · omega
        have l0 := hcc q hq
        clear hcc
        by_cases heq : lc[q] = (jw : Int)
        · rw [heq] at l0
          obtain ⟨q0, q1, q2, q3, q4, -, -, -, -, -, qs⟩ := boxf (HEf.out.box _ (.tail _ (.tail _ (.tail _ (.tail _ (.tail _ (.tail _ (.head _))))))))
          go_wp2_with fail
          clear y2 v0 vs
          clear q0 q1 q2 q3 q4 qs
          have HPv : Hid (lastN (lc.take q) = ag) := by
            show _ = _
            have hsp : lc = lc.take q ++ (jw : Int) :: lc.drop (q + 1) := by
              have := List.take_append_drop q lc
              rw [List.drop_eq_getElem_cons hq, heq] at this
              exact this.symm
            have hpa := prev_ahead HNd.out HMm.out
            rw [HAg.out, ← hpa]
            conv => rhs; rw [hsp]
            rw [prev_at HNo.out]
            rfl
          rw [HPv.out]
          clear heq hq l0
          refine (ownMem_any M _ aH aF aL cS cH cF cL wf (HEf.out.ans (.tail _ (.tail _ (.tail _ (.tail _ (.head _)))))).at_).mono ?_
          rintro e w40 ⟨gS', gH', gF', gL', kS', kH', kF', kL', rfl, rw40, hb40⟩
          have HM40 : Hid (Mine (w40.alloc (.cells #[.slice gS' M.slots.length kS', .slice gH' M.heads.length kH', .slice gF' M.free.length kF', .slice gL' M.locks.length kL', .int .i64 M.now] 29)) w40.heap.size wf.heap.size gS' gH' gF' gL' kS' kH' kF' kL' M) := Mine.made rw40 m1 m2 (by omega) m4
          have HZ40 : Hid (wf.heap.size ≤ w40.heap.size) := hb40.size
          have b40 : Below wf.heap.size wf (w40.alloc (.cells #[.slice gS' M.slots.length kS', .slice gH' M.heads.length kH', .slice gF' M.free.length kF', .slice gL' M.locks.length kL', .int .i64 M.now] 29)) := hb40.trans ((one_below _ _).mono hb40.size)
          have HE40 : Hid _ := HEf.out.below hb40
          have HF40 : Hid (FRow w40 _ cap fl) := HFf.out.below hb40
          clear hb40 rw40
          obtain ⟨v0, -, vs⟩ := var_cell (HE40.out.box _ (.head _))
          rcases HF40.out.at_ with h0 | ⟨bk, okk, hfe, hc⟩
          · omega
          obtain ⟨y0, y1, y2, y3⟩ := hc k0 hk0
          rw [HFk.out] at y2
          clear hc
          injection hfe with hfe
          injection hfe with e1 e2
          subst e1 e2
          have yl := cell_lt y2
          go_wp2_with fail
          generalize hB40 : w40.heap.size = B40 at *
          generalize w40.alloc (.cells #[.slice gS' M.slots.length kS', .slice gH' M.heads.length kH', .slice gF' M.free.length kF', .slice gL' M.locks.length kL', .int .i64 M.now] 29) = W40 at *
          clear v0 vs
          clear y0 y1 y2 y3 yl HE40 HF40 hB40
          refine (rcut_at HYc.out W40 _ _ _ _ _ _ _ _ _ _ HM40.out HOk.out hjw hcb HA0.out hag).mono ?_
          rintro e w41 ⟨rfl, uS, uH, uF, uL, lS, lH, lF, lL, m41, k41⟩
          have b41 : Below wf.heap.size wf w41 := b40.trans (k41.down (n := wf.heap.size) (Nat.le_refl _) HZ40.out)
          have HM41 : Hid _ := m41
          have HE41 : Hid _ := HEf.out.below b41
          have HF41 : Hid (FRow w41 _ cap fl) := HFf.out.below b41
          clear m41 k41 b40 HM40
          obtain ⟨v0, -, vs⟩ := var_cell (HE41.out.box _ (.head _))
          obtain ⟨p0, p1, p2, p3, p4, -, -, -, -, -, ps⟩ := boxf (HE41.out.box _ (.tail _ (.tail _ (.head _))))
          obtain ⟨r0, r1, r2, r3, r4, -, -, -, -, -, rs⟩ := boxf HM41.out.box
          rcases HF41.out.at_ with h0 | ⟨bk, okk, hfe, hc⟩
          · omega
          obtain ⟨y0, y1, y2, y3⟩ := hc k0 hk0
          rw [HFk.out] at y2
          clear hc
          injection hfe with hfe
          injection hfe with e1 e2
          subst e1 e2
          go_wp2_with fail
          clear p0 p1 p2 p3 p4 ps r0 r1 r2 r3 r4 rs v0 vs
          clear y0 y1 y2 y3
          refine (rsame_is rfl (HE41.out.ans (.tail _ (.head _))) HM41.out.ans).mono ?_
          rintro e w42 ⟨rfl, hb42⟩
          have HE42 : Hid _ := HE41.out.below hb42
          go_wp2
          go_ret
          exact ⟨rfl, HE42.out.bl⟩
        · have hne : (lc[q] == (jw : Int)) = false := by rw [beq_eq_false_iff_ne]; exact heq
          have hbq := HBq.out lc ⟨cb, hcb, HLc.out⟩ q hq
          have HNx : Hid (¬ (jw : Int) ∈ lc.take (q + 1)) := by
            show ¬ _
            rw [List.take_succ_eq_append_getElem hq, List.mem_append, not_or]
            exact ⟨HNo.out, by simpa using fun e => heq e.symm⟩
          have HLs : Hid (lastN (lc.take (q + 1)) = lc[q] + 1) := by show _ = _; rw [List.take_succ_eq_append_getElem hq, lastN_snoc]
          generalize hlq : lc[q] = x0 at *
          go_wp2
          go_round
          case rel => exact ⟨q + 1, by omega, by go_num, by rw [HLs.out], HNx⟩
          case measure => simp [intOf]; omega
      · exfalso
        have := HNo.out
        rw [show q = lc.length by omega, List.take_length] at this
        exact this HMm.out
  have hi0' : i0 = -1 := hit_none HHit.out hH
  subst hi0'
  have o1 : linkE M j = 0 := linkE_of HOkc.out HSl.out HRn.out (by rw [HKj.out]; exact hH)
  have HX1 : Hid (MX = linkAt M j (ownB M j)) := HMX.out.trans (by unfold linkedM; rw [o1, if_pos rfl]; rfl)
  have e1 : eX = 0 := HeX.out.trans o1
  subst e1
  clear o1 hH HHit
  obtain ⟨q0, q1, q2, q3, q4, -, -, -, -, -, qs⟩ := boxf (HE10.out.box _ (.tail _ (.tail _ (.tail _ (.tail _ (.tail _ (.tail _ (.head _))))))))
  go_wp2_with fail
  clear q0 q1 q2 q3 q4 qs
  refine (ownMem_any M _ aH aF aL cS cH cF cL w10 (HE10.out.ans (.tail _ (.tail _ (.tail _ (.tail _ (.head _)))))).at_).mono ?_
  rintro e w11 ⟨gS', gH', gF', gL', kS', kH', kF', kL', rfl, rw11, hb11⟩
  have HM11 : Hid (Mine (w11.alloc (.cells #[.slice gS' M.slots.length kS', .slice gH' M.heads.length kH', .slice gF' M.free.length kF', .slice gL' M.locks.length kL', .int .i64 M.now] 29)) w11.heap.size w10.heap.size gS' gH' gF' gL' kS' kH' kF' kL' M) := Mine.made rw11 m1 m2 (by omega) m4
  have HZ11 : Hid (w10.heap.size ≤ w11.heap.size) := hb11.size
  have b11 : Below w10.heap.size w10 (w11.alloc (.cells #[.slice gS' M.slots.length kS', .slice gH' M.heads.length kH', .slice gF' M.free.length kF', .slice gL' M.locks.length kL', .int .i64 M.now] 29)) := hb11.trans ((one_below _ _).mono hb11.size)
  have HE11 : Hid _ := HE10.out.below b11
  clear hb11 rw11
  rcases (HE11.out.ans (.tail _ (.tail _ (.tail _ (.tail _ (.head _)))))).at_.s.at_ with h0 | ⟨bs', os', hbe, hcs⟩
  · omega
  injection hbe with hbe
  injection hbe with e1 e2
  subst e1 e2
  obtain ⟨s0, s1, s2, -, -, -⟩ := hcs j hj
  have hMj : M.slots[j].a = ja ∧ M.slots[j].b = jb := by
    have := HKj.out
    unfold keyAt at this
    rw [slotAt_lt hj] at this
    injection this with h1 h2
    exact ⟨h1, h2⟩
  rw [hMj.1] at s1
  rw [hMj.2] at s2
  have ls := cell_lt s0
  clear hcs hMj
  obtain ⟨q0, q1, q2, q3, q4, -, -, -, -, -, qs⟩ := boxf (HE11.out.box _ (.tail _ (.tail _ (.tail _ (.tail _ (.tail _ (.tail _ (.head _))))))))
  generalize hcb : ownB M j = cbj at *
  clear hcb
  go_wp2_with fail
  generalize hB11 : w11.heap.size = B11 at *
  generalize w11.alloc (.cells #[.slice gS' M.slots.length kS', .slice gH' M.heads.length kH', .slice gF' M.free.length kF', .slice gL' M.locks.length kL', .int .i64 M.now] 29) = W11 at *
  clear hB11
  have n31 := n3.1
  have n34 := n3.2
  go_region_with (first
    | (go_at_call 47; refine (bucketOf_at HBj.out _ HKg.out n31 n34).mono ?_; rintro e w12 ⟨rfl, hb12⟩; have HM12 : Hid (Mine w12 B11 w10.heap.size gS' gH' gF' gL' kS' kH' kF' kL' M) := HM11.out.below ⟨hb12.os, hb12.tape, hb12.output, hb12.size, hb12.block⟩; have b12 : Below w10.heap.size w10 w12 := b11.trans (⟨hb12.os, hb12.tape, hb12.output, hb12.size, fun k hk => hb12.block k (Nat.lt_of_lt_of_le hk b11.size)⟩ : Below w10.heap.size W11 w12))
    | (go_at_call 46; refine (rlink_at HX1.out _ _ _ _ _ _ _ _ _ _ _ HM12.out HOk.out hj hob).mono ?_; rintro e w13 ⟨rfl, uS, uH, uF, uL, lS, lH, lF, lL, m13, k13⟩))
  all_goals
    clear q0 q1 q2 q3 q4 qs
    clear s0 s1 s2 ls
    have b13 : Below w10.heap.size w10 w13 := b12.trans (k13.down (n := w10.heap.size) (Nat.le_refl _) HZ11.out)
    have HM13 : Hid _ := m13
    have HE13 : Hid _ := HE10.out.below b13
    clear m13 k13 b12 HM12 b11 HM11 HE11
    obtain ⟨p0, p1, p2, p3, p4, -, -, -, -, -, ps⟩ := boxf (HE13.out.box _ (.tail _ (.tail _ (.tail _ (.head _)))))
    obtain ⟨r0, r1, r2, r3, r4, -, -, -, -, -, rs⟩ := boxf HM13.out.box
    go_wp2_with fail
    clear p0 p1 p2 p3 p4 ps r0 r1 r2 r3 r4 rs
    refine (rsame_is rfl (HE13.out.ans (.tail _ (.tail _ (.head _)))) HM13.out.ans).mono ?_
    rintro e wc ⟨rfl, hbc⟩
    have bc : Below W7.heap.size W7 wc := hb10.trans ((b13.trans (hbc.mono b13.size)).mono hb10.size)
    clear hbc hb10 HE10 HE13 HM13 b13
    have HEc : Hid _ := HE7.out.below bc
    have HFc : Hid (FRow wc ao cap fl) := HF7.out.below bc
    obtain ⟨k0, k1⟩ := keyf (HEc.out.box _ (.tail _ (.tail _ (.tail _ (.tail _ (.tail _ (.head _)))))))
    have ks := HEc.out.lt (.tail _ (.tail _ (.tail _ (.tail _ (.tail _ (.head _))))))
    go_wp2_with fail
    clear k0 k1 ks
    refine (isKey_any ka kb wc).mono ?_
    rintro e w20 ⟨rfl, hb20⟩
    have HE20 : Hid _ := HEc.out.below hb20
    have HF20 : Hid (FRow w20 ao cap fl) := HFc.out.below hb20
    clear hb20 HEc HFc
    cases hK : keyB ka kb
    · have o1 : withoutE M ka kb = 3 := by unfold withoutE; rw [if_neg (by simpa using HCz.out), if_pos hK]
      have HY0 : Hid (MY = m0) := HMY.out.trans (by unfold withoutM; rw [o1, if_neg (by decide)])
      have e2 : nY = 0 := HnY.out.trans (by unfold withoutN; rw [o1, if_neg (by decide)])
      have e1 : eY = 3 := HeY.out.trans o1
      subst e1 e2
      clear o1
      obtain ⟨p0, p1, p2, p3, p4, -, -, -, -, -, ps⟩ := boxf (HE20.out.box _ (.tail _ (.tail _ (.head _))))
      obtain ⟨r0, r1, r2, r3, r4, -, -, -, -, -, rs⟩ := boxf (HE20.out.box _ (.tail _ (.head _)))
      go_wp2_with fail
      clear p0 p1 p2 p3 p4 ps r0 r1 r2 r3 r4 rs
      refine (rsame_is HY0.out (HE20.out.ans (.tail _ (.head _))) (HE20.out.ans (.head _))).mono ?_
      rintro e w50 ⟨rfl, hb50⟩
      have HE50 : Hid _ := HE20.out.below hb50
      go_wp2
      go_ret
      exact ⟨rfl, HE50.out.bl⟩
    have HKy : Hid (keyB ka kb = true) := hK
    clear hK
    obtain ⟨k0, k1⟩ := keyf (HE20.out.box _ (.tail _ (.tail _ (.tail _ (.tail _ (.tail _ (.head _)))))))
    have ks := HE20.out.lt (.tail _ (.tail _ (.tail _ (.tail _ (.tail _ (.head _))))))
    go_wp2_with fail
    clear k0 k1 ks
    refine (of_any ao cap fl V ka kb w20 (by omega) (HE20.out.box _ (.head _)) HF20.out).mono ?_
    rintro e w21 ⟨i1, rfl, hit, hb21⟩
    have HE21 : Hid _ := HE20.out.below hb21
    have HF21 : Hid (FRow w21 ao cap fl) := HF20.out.below hb21
    rw [HFl.out] at hit
    have HHit : Hid (HitF (flA M) (fun x => x.a == ka && x.b == kb) i1) := hit
    clear hb21 HE20 HF20 hit
    cases hH : hasK M (allC M) (ka, kb)
    · have o1 : withoutE M ka kb = 5 := by unfold withoutE; rw [if_neg (by simpa using HCz.out), if_neg (by rw [HKy.out]; simp), if_pos hH]
      have hi1 : i1 = -1 := hit_none HHit.out hH
      subst hi1
      have HY0 : Hid (MY = m0) := HMY.out.trans (by unfold withoutM; rw [o1, if_neg (by decide)])
      have e2 : nY = 0 := HnY.out.trans (by unfold withoutN; rw [o1, if_neg (by decide)])
      have e1 : eY = 5 := HeY.out.trans o1
      subst e1 e2
      clear o1
      obtain ⟨p0, p1, p2, p3, p4, -, -, -, -, -, ps⟩ := boxf (HE21.out.box _ (.tail _ (.tail _ (.head _))))
      obtain ⟨r0, r1, r2, r3, r4, -, -, -, -, -, rs⟩ := boxf (HE21.out.box _ (.tail _ (.head _)))
      go_wp2_with fail
      clear p0 p1 p2 p3 p4 ps r0 r1 r2 r3 r4 rs
      refine (rsame_is HY0.out (HE21.out.ans (.tail _ (.head _))) (HE21.out.ans (.head _))).mono ?_
      rintro e w50 ⟨rfl, hb50⟩
      have HE50 : Hid _ := HE21.out.below hb50
      go_wp2
      go_ret
      exact ⟨rfl, HE50.out.bl⟩
    have o1 : withoutE M ka kb = 0 := by unfold withoutE; rw [if_neg (by simpa using HCz.out), if_neg (by rw [HKy.out]; simp), if_neg (by rw [hH]; simp)]
    have e1 : eY = 0 := HeY.out.trans o1
    subst e1
    obtain ⟨k0, hk0', rfl, hwho⟩ := hit_some HOkc.out HHit.out hH
    have hk0 : k0 < fl.length := by rw [HFl.out]; exact hk0'
    have hws := HOkc.out.allSlots _ (whoK_mem hH).1
    obtain ⟨jw, hjw0⟩ : ∃ j : Nat, whoK M (allC M) (ka, kb) = j := ⟨(whoK M (allC M) (ka, kb)).toNat, by omega⟩
    have hjw : jw < M.slots.length := by omega
    have hnY : nY = jw := HnY.out.trans (by unfold withoutN; rw [o1, if_pos rfl]; exact hjw0)
    subst hnY
    have HFk : Hid (fl[k0].slot = jw) := by
      show _ = _
      have : fl[k0]? = (flA M)[k0]? := by rw [HFl.out]
      rw [List.getElem?_eq_getElem hk0, List.getElem?_eq_getElem hk0'] at this
      injection this with this
      rw [this, hwho, hjw0]
    have hbi := bucket_in ka kb HOk.out.nh.1
    have HBk : Hid (bucket ka kb M.heads.length = (keyN M ka kb : Int)) := by
      show _ = _
      unfold keyN; omega
    have hcb0 : keyN M ka kb < M.heads.length := by unfold keyN; omega
    have hin : whoK M (allC M) (ka, kb) ∈ chL M (keyN M ka kb) := who_in HOkc.out hH
    have hnd := HOkc.out.nodup hcb0
    have hcut : MY = cutM M (keyN M ka kb) (aheadF (whoK M (allC M) (ka, kb)) (chL M (keyN M ka kb)) 0 0) (whoK M (allC M) (ka, kb)) := HMY.out.trans (by unfold withoutM; rw [o1, if_pos rfl]; rfl)
    have hag0 : aheadF (whoK M (allC M) (ka, kb)) (chL M (keyN M ka kb)) 0 0 ≤ M.slots.length := aheadF_le _ _ _ (fun x hx => (HOk.out.chIn hcb0 x hx).2) (by omega) (by omega)
    rw [hjw0] at hin hcut hag0
    have hlen : (chL M (keyN M ka kb)).length ≤ 12 := Nat.le_trans (walkL_len _ _ _) HOk.out.ns
    generalize hcbe : keyN M ka kb = cb at *
    obtain ⟨lc, hlc⟩ : ∃ l, chL M cb = l := ⟨_, rfl⟩
    have HLc : Hid (chL M cb = lc) := hlc
    rw [hlc] at hin hcut hag0 hlen hnd
    have hcb := hcb0
    have HNd : Hid lc.Nodup := hnd
    have HMm : Hid ((jw : Int) ∈ lc) := hin
    obtain ⟨ag, hagd⟩ : ∃ x, x = aheadF (jw : Int) lc 0 0 := ⟨_, rfl⟩
    rw [← hagd] at hcut hag0
    have hag := hag0
    have HAg : Hid (ag = aheadF (jw : Int) lc 0 0) := hagd
    have HYc : Hid (MY = cutM M cb ag jw) := hcut
    have HA0 : Hid (0 ≤ ag) := by show _ ≤ _; rw [hagd]; exact aheadF_ge _ _ _ (fun x hx => by rw [← hlc] at hx; exact (HOk.out.chIn hcb0 x hx).1) (by omega) (by omega)
    clear hH HHit o1 hwho hjw0 hk0' hbi hin hnd hcut hcbe hlc hagd hws hcb0 hag0
    obtain ⟨k0, k1⟩ := keyf (HE21.out.box _ (.tail _ (.tail _ (.tail _ (.tail _ (.tail _ (.head _)))))))
    have ks := HE21.out.lt (.tail _ (.tail _ (.tail _ (.tail _ (.tail _ (.head _))))))
    obtain ⟨q0, q1, q2, q3, q4, -, -, -, -, -, qs⟩ := boxf (HE21.out.box _ (.tail _ (.tail _ (.tail _ (.tail _ (.tail _ (.tail _ (.head _))))))))
    go_wp2_with fail
    clear k0 k1 ks q0 q1 q2 q3 q4 qs
    refine (bucketOf_at HBk.out w21 HKy.out HOk.out.nh.1 HOk.out.nh.2).mono ?_
    rintro e w22 ⟨rfl, hb22⟩
    have HE22 : Hid _ := HE21.out.below hb22
    have HF22 : Hid (FRow w22 ao cap fl) := HF21.out.below hb22
    clear hb22 HE21 HF21
    obtain ⟨q0, q1, q2, q3, q4, -, -, -, -, -, qs⟩ := boxf (HE22.out.box _ (.tail _ (.tail _ (.tail _ (.tail _ (.tail _ (.tail _ (.head _))))))))
    go_wp2_with fail
    clear q0 q1 q2 q3 q4 qs
    refine (chainOf_at HLc.out HOkc.out hcb hlen _ w22 0 (HE22.out.ans (.tail _ (.tail _ (.tail _ (.tail _ (.head _))))))).mono ?_
    rintro e wf ⟨ac, cc, rfl, hrc, hbf⟩
    have HEf : Hid _ := HE22.out.below hbf
    have HFf : Hid (FRow wf ao cap fl) := HF22.out.below hbf
    have HRc : Hid (IRow wf ac cc lc) := hrc
    clear hbf HE22 HF22 hrc
    obtain ⟨v0, -, vs⟩ := var_cell (HEf.out.box _ (.head _))
    rcases HFf.out.at_ with h0 | ⟨bk, okk, rfl, hcF⟩
    · omega
    obtain ⟨-, -, y2, -⟩ := hcF k0 hk0
    rw [HFk.out] at y2
    clear hcF
    go_wp2_with fail
    go_loop [22, 183] (fun p i => ∃ q : Nat, q ≤ lc.length ∧ i = .int .i64 q ∧ p = .int .i64 (lastN (lc.take q)) ∧ Hid (¬ (jw : Int) ∈ lc.take q)) (fun _ i => lc.length - (intOf i).toNat)
    case atStart => exact ⟨0, Nat.zero_le _, rfl, rfl, by show ¬ _; simp⟩
    case round =>
      obtain ⟨q, hqle, rfl, rfl, HNo⟩ := hrel
      by_cases hq : q < lc.length
      · rcases HRc.out.at_ with h0 | ⟨bc2, oc2, rfl, hcc⟩
        · omega
        have l0 := hcc q hq
        clear hcc
        by_cases heq : lc[q] = (jw : Int)
        · rw [heq] at l0
          obtain ⟨q0, q1, q2, q3, q4, -, -, -, -, -, qs⟩ := boxf (HEf.out.box _ (.tail _ (.tail _ (.tail _ (.tail _ (.tail _ (.tail _ (.head _))))))))
          go_wp2_with fail
          clear y2 v0 vs
          clear q0 q1 q2 q3 q4 qs
          have HPv : Hid (lastN (lc.take q) = ag) := by
            show _ = _
            have hsp : lc = lc.take q ++ (jw : Int) :: lc.drop (q + 1) := by
              have := List.take_append_drop q lc
              rw [List.drop_eq_getElem_cons hq, heq] at this
              exact this.symm
            have hpa := prev_ahead HNd.out HMm.out
            rw [HAg.out, ← hpa]
            conv => rhs; rw [hsp]
            rw [prev_at HNo.out]
            rfl
          rw [HPv.out]
          clear heq hq l0
          refine (ownMem_any M _ aH aF aL cS cH cF cL wf (HEf.out.ans (.tail _ (.tail _ (.tail _ (.tail _ (.head _)))))).at_).mono ?_
          rintro e w40 ⟨gS', gH', gF', gL', kS', kH', kF', kL', rfl, rw40, hb40⟩
          have HM40 : Hid (Mine (w40.alloc (.cells #[.slice gS' M.slots.length kS', .slice gH' M.heads.length kH', .slice gF' M.free.length kF', .slice gL' M.locks.length kL', .int .i64 M.now] 29)) w40.heap.size wf.heap.size gS' gH' gF' gL' kS' kH' kF' kL' M) := Mine.made rw40 m1 m2 (by omega) m4
          have HZ40 : Hid (wf.heap.size ≤ w40.heap.size) := hb40.size
          have b40 : Below wf.heap.size wf (w40.alloc (.cells #[.slice gS' M.slots.length kS', .slice gH' M.heads.length kH', .slice gF' M.free.length kF', .slice gL' M.locks.length kL', .int .i64 M.now] 29)) := hb40.trans ((one_below _ _).mono hb40.size)
          have HE40 : Hid _ := HEf.out.below hb40
          have HF40 : Hid (FRow w40 _ cap fl) := HFf.out.below hb40
          clear hb40 rw40
          obtain ⟨v0, -, vs⟩ := var_cell (HE40.out.box _ (.head _))
          rcases HF40.out.at_ with h0 | ⟨bk, okk, hfe, hc⟩
          · omega
          obtain ⟨y0, y1, y2, y3⟩ := hc k0 hk0
          rw [HFk.out] at y2
          clear hc
          injection hfe with hfe
          injection hfe with e1 e2
          subst e1 e2
          have yl := cell_lt y2
          go_wp2_with fail
          generalize hB40 : w40.heap.size = B40 at *
          generalize w40.alloc (.cells #[.slice gS' M.slots.length kS', .slice gH' M.heads.length kH', .slice gF' M.free.length kF', .slice gL' M.locks.length kL', .int .i64 M.now] 29) = W40 at *
          clear v0 vs
          clear y0 y1 y2 y3 yl HE40 HF40 hB40
          refine (rcut_at HYc.out W40 _ _ _ _ _ _ _ _ _ _ HM40.out HOk.out hjw hcb HA0.out hag).mono ?_
          rintro e w41 ⟨rfl, uS, uH, uF, uL, lS, lH, lF, lL, m41, k41⟩
          have b41 : Below wf.heap.size wf w41 := b40.trans (k41.down (n := wf.heap.size) (Nat.le_refl _) HZ40.out)
          have HM41 : Hid _ := m41
          have HE41 : Hid _ := HEf.out.below b41
          have HF41 : Hid (FRow w41 _ cap fl) := HFf.out.below b41
          clear m41 k41 b40 HM40
          obtain ⟨v0, -, vs⟩ := var_cell (HE41.out.box _ (.head _))
          obtain ⟨p0, p1, p2, p3, p4, -, -, -, -, -, ps⟩ := boxf (HE41.out.box _ (.tail _ (.tail _ (.head _))))
          obtain ⟨r0, r1, r2, r3, r4, -, -, -, -, -, rs⟩ := boxf HM41.out.box
          rcases HF41.out.at_ with h0 | ⟨bk, okk, hfe, hc⟩
          · omega
          obtain ⟨y0, y1, y2, y3⟩ := hc k0 hk0
          rw [HFk.out] at y2
          clear hc
          injection hfe with hfe
          injection hfe with e1 e2
          subst e1 e2
          go_wp2_with fail
          clear p0 p1 p2 p3 p4 ps r0 r1 r2 r3 r4 rs v0 vs
          clear y0 y1 y2 y3
          refine (rsame_is rfl (HE41.out.ans (.tail _ (.head _))) HM41.out.ans).mono ?_
          rintro e w42 ⟨rfl, hb42⟩
          have HE42 : Hid _ := HE41.out.below hb42
          go_wp2
          go_ret
          exact ⟨rfl, HE42.out.bl⟩
        · have hne : (lc[q] == (jw : Int)) = false := by rw [beq_eq_false_iff_ne]; exact heq
          have hbq := HBq.out lc ⟨cb, hcb, HLc.out⟩ q hq
          have HNx : Hid (¬ (jw : Int) ∈ lc.take (q + 1)) := by
            show ¬ _
            rw [List.take_succ_eq_append_getElem hq, List.mem_append, not_or]
            exact ⟨HNo.out, by simpa using fun e => heq e.symm⟩
          have HLs : Hid (lastN (lc.take (q + 1)) = lc[q] + 1) := by show _ = _; rw [List.take_succ_eq_append_getElem hq, lastN_snoc]
          generalize hlq : lc[q] = x0 at *
          go_wp2
          go_round
          case rel => exact ⟨q + 1, by omega, by go_num, by rw [HLs.out], HNx⟩
          case measure => simp [intOf]; omega
      · exfalso
        have := HNo.out
        rw [show q = lc.length by omega, List.take_length] at this
        exact this HMm.out


end Go.Proofs.Ytdbilofhcadmoaa.mm
