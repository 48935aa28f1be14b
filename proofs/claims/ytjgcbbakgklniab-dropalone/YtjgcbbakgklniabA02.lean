/- For any memory and key DropAlone returns true, and both read afterwards as they read before: where nobody else goes on, and no lock is had, a Drop is done in two steps a slot and six: its key is not mapped then, all others are as they were; what it held is held once less. No condition. -/
import Derived.Test.YtjgcbbakgklniabC26
import Derived.Test.YtjgcbbakgklniabC28
import Derived.Test.YtjgcbbakgklniabA01
import Derived.Test.YtjgcbbakgklniabC06
import Derived.Test.YtjgcbbakgklniabC14
import Derived.Deep.RegionHeld3
import Derived.Deep.QuietTactic
import Derived.BigQuiet
import Derived.BigRegion
import Derived.Lib.QuietBelow
/- DropAlone's walk: a Drop that goes on alone is done in time; its key is not mapped then, all others are as they were. -/
namespace Go.Proofs.Ytjgcbbakgklniab.mm
open Go.ChangeShapes Go.WideShapes Go.ChangeAt Go.RowKit Go.Joins Go.Deep Go.Sort
set_option maxRecDepth 100000
set_option linter.unusedVariables false

theorem litD1 (x : Int) (w : World) : Calls Try.prog 64 #[.int .i64 x] w fun e w' => e = .returned (.bool (x != -1)) ∧ w = w' := by
  go_enter Try.func64, Try.ntmps64
  go_wp2
  go_ret
  exact ⟨rfl, rfl⟩

theorem fit_drop {M : Mm} (hM : Ok M) {ka kb : Int} (hk : keyB ka kb = true) : Fit M (newF ⟨3, ka, kb, 0, 0, 0⟩) := by
  refine ⟨?_, by simp [newF], (show inB 0 0 1000000 = true by decide), rfl, ?_, ?_, ?_, by simp [newF]⟩
  · show callE _ _ ⟨3, ka, kb, 0, 0, 0⟩ = 0
    rw [callE_key (.inr rfl), if_pos hk]
  · show _ ∧ _
    simp only [newF]
    omega
  · simp only [newF]
    omega
  · simp only [newF]
    omega

theorem aloneD {B lo : Nat} {Z : Nat → Prop} {M X : Mm} {c : Cl} {g : Fr} {most : Int} (w : World) (n : Nat) (hn : n ≤ 1000) (hm : most = (n : Int)) (hG : DrG 0 M (newF c)) (h1 : run drF (drM 0) n M (newF c) = (X, g, true)) (hM : Has w B lo Z M) (hZ : ∀ k, Z k → k < w.heap.size) :
    Calls Try.prog 42 #[.agg #[.int .i64 c.kind, .int .i64 c.a, .int .i64 c.b, .int .i64 c.time, .int .i64 c.bk, .int .i64 c.slot], .int .i64 most, .func (.func 65) #[] #[.pointer (some ⟨B, 0, none⟩)]] w fun e w' =>
      (∃ a c', e = .returned (.tuple #[.agg #[.int .i64 g.c.kind, .int .i64 g.c.a, .int .i64 g.c.b, .int .i64 g.c.time, .int .i64 g.c.bk, .int .i64 g.c.slot, .int .i64 g.pl, .int .i64 g.cur, .int .i64 g.prev, .int .i64 g.slot, .int .i64 g.n, .slice a g.keys.length c', .bool g.done, .int .i64 g.e], .bool true])) ∧ Has w' B lo (Up w Z) X ∧ Fine w w' Z := by
  subst hm
  have h := alone_any 65 #[.pointer (some ⟨B, 0, none⟩)] drF (drM 0) (DrG 0) B lo Z M c n w (fun args W => by kernel_rfl) (fun M f W Z h h' => closD0 M f B lo Z W h h') (fun M f h hd => drG_next h hd) hM hZ hG hn
  rw [h1] at h
  exact h

theorem dropped_okc {M X : Mm} {g : Fr} {c : Cl} (hM : OkC M) (hD : Dropped M c X g) : OkC X ∧ X.locks = M.locks := by
  unfold Dropped at hD
  by_cases h : hasK M (allC M) (c.a, c.b) = true
  · rw [if_pos h] at hD
    obtain ⟨a, p, q, -, -, -, hX, hl, -⟩ := hD
    exact ⟨hX, hl⟩
  · rw [if_neg h] at hD
    rw [hD.1]
    exact ⟨hM, rfl⟩
theorem own_low {w : World} {base lo size n : Nat} {e : TypeId} {v : Value} {xs : List Value} (h : w.ownsRow base e size v n xs) (hl : lo ≤ base) : w.ownsRow lo e size v n xs :=
  ⟨h.1, h.2.imp id (fun ⟨g, cap, cur, a, b, c⟩ => ⟨g, cap, cur, a, Nat.le_trans hl b, c⟩)⟩
theorem refs_cell {w : World} {ao : Option Addr} {cap j : Nat} {M : Mm} (r : SRow w ao cap M.slots) (hj : j < M.slots.length) : ∃ b o, ao = some ⟨b, o, none⟩ ∧ w.cell? ⟨b, o + j * 6, none⟩ = some (.int .i64 (refsM M (j : Int))) := by
  rcases r.at_ with h0 | ⟨b, o, h, hc⟩
  · omega
  · refine ⟨b, o, h, ?_⟩
    rw [(hc j hj).1]
    simp [refsM, List.getD_eq_getElem?_getD, hj]

set_option maxHeartbeats 12800000 in
theorem dropAlone_any (M : Mm) (ka kb : Int) (v : Value) (w : World) (A0 : Ans 0 w v M) :
    Calls Try.prog 13 #[v, .agg #[.int .i64 ka, .int .i64 kb]] w fun e w' => e = .returned (.bool true) ∧ Below w.heap.size w w' := by
  have HA : Hid (Ans 0 w v M) := A0
  obtain ⟨aS, aH, aF, aL, cS, cH, cF, cL, rfl⟩ := A0.form
  obtain ⟨om, hom⟩ : ∃ o : Obj, o = .cells #[.slice aS M.slots.length cS, .slice aH M.heads.length cH, .slice aF M.free.length cF, .slice aL M.locks.length cL, .int .i64 M.now] 25 := ⟨_, rfl⟩
  obtain ⟨ok, hok⟩ : ∃ o : Obj, o = .cells #[.int .i64 ka, .int .i64 kb] 37 := ⟨_, rfl⟩
  have HE0 : Hid (Env w ((w.alloc om).alloc ok) [((w.alloc om).heap.size, ok), (w.heap.size, om)] []) := ((⟨Below.refl _ _, (fun p hp => by cases hp), (fun p hp => by cases hp)⟩ : Env w w [] []).alloc om).alloc ok
  rw [show (w.alloc om).heap.size = w.heap.size + 1 by simp] at HE0
  have HBm : Hid (∀ W : World, W.heap[w.heap.size]? = some om → W.heap[w.heap.size]? = some (.cells #[.slice aS M.slots.length cS, .slice aH M.heads.length cH, .slice aF M.free.length cF, .slice aL M.locks.length cL, .int .i64 M.now] 25 (0, 0))) := fun W E => hom ▸ E
  have HBk : Hid (∀ W : World, W.heap[w.heap.size + 1]? = some ok → W.heap[w.heap.size + 1]? = some (.cells #[.int .i64 ka, .int .i64 kb] 37 (0, 0))) := fun W E => hok ▸ E
  have HMx : Hid (M.slots.length * 48 ≤ 140737488351232 ∧ M.heads.length * 8 ≤ 140737488351232 ∧ M.free.length * 8 ≤ 140737488351232 ∧ M.locks.length * 8 ≤ 140737488351232) := ⟨A0.at_.s.max, A0.at_.h.max, A0.at_.f.max, A0.at_.l.max⟩
  obtain ⟨L, hL⟩ : ∃ L, flowsM M = L := ⟨_, rfl⟩
  obtain ⟨E0, hE⟩ : ∃ E, chkC M = E := ⟨_, rfl⟩
  have HL : Hid (flowsM M = L) := hL
  have HE : Hid (chkC M = E0) := hE
  clear A0 hL hE
  go_enter Try.func13, Try.ntmps13
  obtain ⟨q0, q1, q2, q3, q4, -, -, -, -, -, qs⟩ := boxf (HBm.out _ (HE0.out.box _ (.tail _ (.head _))))
  rw [hom, hok] at q0 q1 q2 q3 q4 qs
  go_wp2_with fail
  clear q0 q1 q2 q3 q4 qs
  rw [← hom, ← hok]
  generalize (w.alloc om).alloc ok = W0 at *
  clear hom hok
  refine (flows_at HL.out HE.out _ W0 0 (HA.out.below HE0.out.bl)).mono ?_
  rintro e w1 ⟨ao, cap, rfl, fr, hb1⟩
  have HF : Hid (FRow w1 ao cap L) := fr
  have HE1' : Hid (Env w w1 [(w.heap.size + 1, ok), (w.heap.size, om)] []) := HE0.out.below hb1
  have HE1 : Hid (Env w1 w1 [(w.heap.size + 1, ok), (w.heap.size, om)] []) := ⟨Below.refl _ _, HE1'.out.box, fun p hp => by cases hp⟩
  have HW1 : Hid (Below w.heap.size w w1) := HE1'.out.bl
  have HKl : Hid (w.heap.size + 1 < w1.heap.size) := HE1'.out.lt (.head _)
  clear HE0 hb1 fr HE1'
  go_wp2_with fail
  refine (dropped_any w1).mono ?_
  rintro e w2 ⟨rfl, hb2⟩
  have HE2 : Hid (Env w1 w2 [(w.heap.size + 1, ok), (w.heap.size, om)] []) := HE1.out.below hb2
  clear HE1 hb2
  by_cases hz : E0 = 0
  rotate_left
  · have hq : (E0 == 0) = false := by simpa using hz
    have hq2 : (E0 != 0) = true := by simpa using hz
    clear hz
    go_wp2_with fail
    refine (dropped_any w2).mono ?_
    rintro e w9 ⟨rfl, hb9⟩
    have HE9 : Hid _ := HE2.out.below hb9
    go_wp2
    go_ret
    exact ⟨rfl, HW1.out.trans (HE9.out.bl.mono HW1.out.size)⟩
  subst hz
  have HOk : Hid (OkC M) := (chkC_zero M).1 HE.out
  have HL' : Hid (L = flowsOf M) := HL.out.symm.trans (flowsM_of HOk.out)
  clear HE HL
  have k0 : w2.cell? ⟨w.heap.size + 1, 0, none⟩ = some (.int .i64 ka) := by rw [cell_of_block (HBk.out _ (HE2.out.box _ (.head _)))]; rfl
  have k1 : w2.cell? ⟨w.heap.size + 1, 1, none⟩ = some (.int .i64 kb) := by rw [cell_of_block (HBk.out _ (HE2.out.box _ (.head _)))]; rfl
  go_wp2_with fail
  clear k0 k1
  refine (kcheck_any ka kb w2).mono ?_
  rintro e w3 ⟨rfl, hb3⟩
  have HE3 : Hid (Env w1 w3 [(w.heap.size + 1, ok), (w.heap.size, om)] []) := HE2.out.below hb3
  clear HE2 hb3
  cases hkey : keyB ka kb
  · simp only [Bool.false_eq_true, if_false]
    go_wp2_with fail
    refine (dropped_any w3).mono ?_
    rintro e w9 ⟨rfl, hb9⟩
    have HE9 : Hid _ := HE3.out.below hb9
    go_wp2
    go_ret
    exact ⟨rfl, HW1.out.trans (HE9.out.bl.mono HW1.out.size)⟩
  have HKy : Hid (keyB ka kb = true) := hkey
  simp only [if_true]
  clear hkey
  have HAt : Hid (∀ W : World, Below w1.heap.size w1 W → At W aS aH aF aL cS cH cF cL M) := fun W hb => (HA.out.at_.below HW1.out).below hb
  obtain ⟨q0, q1, q2, q3, q4, -, -, -, -, -, qs⟩ := boxf (HBm.out _ (HE3.out.box _ (.tail _ (.head _))))
  go_wp2_with fail
  clear q0 q1 q2 q3 q4 qs
  refine (hasI 64 (fun args W => by kernel_rfl) litD1 aL cL M.locks w3 (HAt.out _ HE3.out.bl).l).mono ?_
  rintro e w4 ⟨bb, rfl, hbb, hb4⟩
  have HE4 : Hid (Env w1 w4 [(w.heap.size + 1, ok), (w.heap.size, om)] []) := HE3.out.below hb4
  clear HE3 hb4
  cases bb
  rotate_left
  · clear hbb
    go_wp2
    go_ret
    exact ⟨rfl, HW1.out.trans (HE4.out.bl.mono HW1.out.size)⟩
  have HLo : Hid (∀ x ∈ M.locks, x = -1) := hbb rfl
  clear hbb
  obtain ⟨X, g, hgo, hdr⟩ := dr_all HOk.out HLo.out HKy.out
  have HRun : Hid (run drF (drM 0) (2 * M.slots.length + 6) M (newF ⟨3, ka, kb, 0, 0, 0⟩) = (X, g, true)) := goes_run hgo
  have HDr : Hid (Dropped M ⟨3, ka, kb, 0, 0, 0⟩ X g) := hdr
  have HXo : Hid (OkC X ∧ X.locks = M.locks) := dropped_okc HOk.out hdr
  have HNs : Hid (M.slots.length ≤ 12 ∧ M.free.length ≤ 12) := ⟨HOk.out.ok.ns, free_few HOk.out.ok⟩
  have hns : M.slots.length ≤ 12 := HNs.out.1
  have HG : Hid (DrG 0 M (newF ⟨3, ka, kb, 0, 0, 0⟩)) := ⟨⟨_, X, g, hgo⟩, fit_drop HOk.out.ok HKy.out, rfl, rfl⟩
  clear hgo hdr
  obtain ⟨q0, q1, q2, q3, q4, -, -, -, -, -, qs⟩ := boxf (HBm.out _ (HE4.out.box _ (.tail _ (.head _))))
  go_wp2_with fail
  clear q0 q1 q2 q3 q4 qs
  refine (ownMem_any M aS aH aF aL cS cH cF cL w4 (HAt.out _ HE4.out.bl)).mono ?_
  rintro e w5 ⟨xS, xH, xF, xL, kS, kH, kF, kL, rfl, R5, hb5⟩
  obtain ⟨ox, hox⟩ : ∃ o : Obj, o = .cells #[.slice xS M.slots.length kS, .slice xH M.heads.length kH, .slice xF M.free.length kF, .slice xL M.locks.length kL, .int .i64 M.now] 25 := ⟨_, rfl⟩
  have HM5 : Hid (Mine (w5.alloc ox) w5.heap.size w4.heap.size xS xH xF xL kS kH kF kL M) := by
    obtain ⟨x1, x2, x3, x4⟩ := HMx.out
    have := HNs.out
    rw [hox]
    exact Mine.made R5 (by omega) (by omega) (by omega) (by omega)
  have HE5 : Hid (Env w1 (w5.alloc ox) [(w.heap.size + 1, ok), (w.heap.size, om)] []) := (HE4.out.below hb5).below (one_below _ _)
  have HF5 : Hid (∀ k, Foot w5.heap.size xS xH xF xL k → w1.heap.size ≤ k) := HM5.out.foot (by have := hb5.size; have := HE4.out.bl.size; omega) HE4.out.bl.size
  clear R5 hb5 HE4
  obtain ⟨q0, q1, q2, q3, q4, -, -, -, -, -, qs⟩ := boxf (HBm.out _ (HE5.out.box _ (.tail _ (.head _))))
  have k0 : (w5.alloc ox).cell? ⟨w.heap.size + 1, 0, none⟩ = some (.int .i64 ka) := by rw [cell_of_block (HBk.out _ (HE5.out.box _ (.head _)))]; rfl
  have k1 : (w5.alloc ox).cell? ⟨w.heap.size + 1, 1, none⟩ = some (.int .i64 kb) := by rw [cell_of_block (HBk.out _ (HE5.out.box _ (.head _)))]; rfl
  rw [hox] at q0 q1 q2 q3 q4 qs k0 k1
  go_wp2_with fail
  clear q0 q1 q2 q3 q4 qs k0 k1
  rw [← hox]
  generalize w5.alloc ox = W5 at *
  generalize w5.heap.size = B at *
  generalize w4.heap.size = lo at *
  clear hox
  refine (aloneD (c := ⟨3, ka, kb, 0, 0, 0⟩) W5 (2 * M.slots.length + 6) (by omega) (by omega) HG.out HRun.out ⟨_, _, _, _, _, _, _, _, HM5.out, fun _ h => h⟩ (foot_lt HM5.out)).mono ?_
  rintro e w6 ⟨⟨ga, gk, rfl⟩, ⟨yS, yH, yF, yL, jS, jH, jF, jL, m6, -⟩, hf6⟩
  obtain ⟨og, hog⟩ : ∃ o : Obj, o = .cells #[.int .i64 g.c.kind, .int .i64 g.c.a, .int .i64 g.c.b, .int .i64 g.c.time, .int .i64 g.c.bk, .int .i64 g.c.slot, .int .i64 g.pl, .int .i64 g.cur, .int .i64 g.prev, .int .i64 g.slot, .int .i64 g.n, .slice ga g.keys.length gk, .bool g.done, .int .i64 g.e] 51 := ⟨_, rfl⟩
  have HE6 : Hid (Env w1 (w6.alloc og) [(w6.heap.size, og), (w.heap.size + 1, ok), (w.heap.size, om)] []) := (HE5.out.fine hf6 HF5.out (fun p hp => by
    have := HKl.out
    rcases List.mem_cons.1 hp with rfl | hp
    · intro h; have := HF5.out _ h; dsimp only at this; omega
    rcases List.mem_cons.1 hp with rfl | hp
    · intro h; have := HF5.out _ h; dsimp only at this; omega
    cases hp)).alloc og
  have HM6 : Hid (Mine (w6.alloc og) B lo yS yH yF yL jS jH jF jL X) := m6.below (one_below _ _)
  have HBg : Hid (∀ (W : World) (G : Nat), W.heap[G]? = some og → W.heap[G]? = some (.cells #[.int .i64 g.c.kind, .int .i64 g.c.a, .int .i64 g.c.b, .int .i64 g.c.time, .int .i64 g.c.bk, .int .i64 g.c.slot, .int .i64 g.pl, .int .i64 g.cur, .int .i64 g.prev, .int .i64 g.slot, .int .i64 g.n, .slice ga g.keys.length gk, .bool g.done, .int .i64 g.e] 51 (0, 0))) := fun W G E => hog ▸ E
  clear HM5 HE5 HF5 hf6 m6 HG HRun
  obtain ⟨p0, p1, p2, p3, p4, -, -, -, -, -, ps⟩ := boxf HM6.out.box
  rw [hog] at p0 p1 p2 p3 p4 ps
  go_wp2_with fail
  clear p0 p1 p2 p3 p4 ps
  rw [← hog]
  generalize w6.alloc og = W6 at *
  generalize w6.heap.size = G at *
  clear hog
  obtain ⟨L2, hL2⟩ : ∃ L2, flowsM X = L2 := ⟨_, rfl⟩
  have HL2 : Hid (L2 = flowsOf X) := hL2.symm.trans (flowsM_of HXo.out.1)
  refine (flows_at hL2 ((chkC_zero X).2 HXo.out.1) _ W6 lo HM6.out.ans).mono ?_
  clear hL2
  rintro e w7 ⟨ao2, cap2, rfl, fr2, hb7⟩
  have HE7 : Hid (Env w1 w7 [(G, og), (w.heap.size + 1, ok), (w.heap.size, om)] []) := HE6.out.below hb7
  have HM7 : Hid (Mine w7 B lo yS yH yF yL jS jH jF jL X) := HM6.out.below hb7
  have HF7 : Hid (FRow w7 ao2 cap2 L2) := fr2
  clear HE6 HM6 hb7 fr2
  obtain ⟨q0, q1, q2, q3, q4, -, -, -, -, -, qs⟩ := boxf (HBm.out _ (HE7.out.box _ (.tail _ (.tail _ (.head _)))))
  obtain ⟨p0, p1, p2, p3, p4, -, -, -, -, -, ps⟩ := boxf HM7.out.box
  go_wp2_with fail
  clear q0 q1 q2 q3 q4 qs p0 p1 p2 p3 p4 ps
  have c1 := equalI_any yL aL jL cL X.locks M.locks w7 HM7.out.at.l (HAt.out _ HE7.out.bl).l
  rw [show eqI X.locks M.locks = true from (eqI_iff _ _).2 HXo.out.2] at c1
  refine c1.mono ?_
  clear c1
  rintro e w8 ⟨rfl, hb8⟩
  have HE8 : Hid (Env w1 w8 [(G, og), (w.heap.size + 1, ok), (w.heap.size, om)] []) := HE7.out.below hb8
  have HM8 : Hid (Mine w8 B lo yS yH yF yL jS jH jF jL X) := HM7.out.below hb8
  have HF8 : Hid (FRow w8 ao2 cap2 L2) := HF7.out.below hb8
  have HFw : Hid (∀ W : World, Below w1.heap.size w1 W → FRow W ao cap L) := fun W hb => HF.out.below hb
  clear HE7 HM7 HF7 hb8 HF
  obtain ⟨q0, q1, q2, q3, q4, -, -, -, -, -, qs⟩ := boxf (HBm.out _ (HE8.out.box _ (.tail _ (.tail _ (.head _)))))
  obtain ⟨p0, p1, p2, p3, p4, -, -, -, -, -, ps⟩ := boxf HM8.out.box
  obtain ⟨g0, g1, g2, g3, g4, g5, g6, g7, g8, g9, g10, g11, g12, g13, -, gs⟩ := framef (HBg.out _ _ (HE8.out.box _ (.head _)))
  have hL1 : L.length ≤ 1000 := by rw [HL'.out]; exact flows_few HOk.out.ok
  have HLn : Hid (L.length ≤ 1000) := hL1
  have HL2n : Hid (L2.length ≤ 1000) := by show _ ≤ _; rw [HL2.out]; exact flows_few HXo.out.1.ok
  clear hL1
  go_wp2_with fail
  clear q0 q1 q2 q3 q4 qs p0 p1 p2 p3 p4 ps g0 g1 g2 g3 g4 g5 g6 g7 g8 g9 g10 g11 g12 g13 gs
  have c1 := indexFn_at 66 #[.pointer (some ⟨w.heap.size + 1, 0, none⟩)] (fun x => x.a == ka && x.b == kb) ao cap L w8 HLn.out (HFw.out _ HE8.out.bl) (fun args W => by kernel_rfl) (fun x W hb => of_keyD ka kb (w.heap.size + 1) x W ((hb.block _ (Nat.lt_of_lt_of_le HKl.out HE8.out.bl.size)).trans (HBk.out _ (HE8.out.box _ (.tail _ (.head _))))))
  refine c1.mono ?_
  clear c1
  rintro e w9 ⟨i, rfl, hi, hb9⟩
  have HE9 : Hid (Env w1 w9 [(G, og), (w.heap.size + 1, ok), (w.heap.size, om)] []) := HE8.out.below hb9
  have HM9 : Hid (Mine w9 B lo yS yH yF yL jS jH jF jL X) := HM8.out.below hb9
  have HF9 : Hid (FRow w9 ao2 cap2 L2) := HF8.out.below hb9
  clear HE8 HM8 HF8 hb9
  rcases hi with ⟨rfl, hno⟩ | ⟨k, rfl, hk, hkey⟩
  · obtain ⟨hX, hge⟩ := drop_no HDr.out (by rw [← HL'.out]; exact hno)
    subst hX
    clear hno
    obtain ⟨q0, q1, q2, q3, q4, -, -, -, -, -, qs⟩ := boxf (HBm.out _ (HE9.out.box _ (.tail _ (.tail _ (.head _)))))
    obtain ⟨p0, p1, p2, p3, p4, -, -, -, -, -, ps⟩ := boxf HM9.out.box
    obtain ⟨g0, g1, g2, g3, g4, g5, g6, g7, g8, g9, g10, g11, g12, g13, -, gs⟩ := framef (HBg.out _ _ (HE9.out.box _ (.head _)))
    rw [hge] at g13
    have HMa : Hid (Ans 0 w9 (.agg #[.slice aS X.slots.length cS, .slice aH X.heads.length cH, .slice aF X.free.length cF, .slice aL X.locks.length cL, .int .i64 X.now]) X) := (HA.out.below HW1.out).below HE9.out.bl
    clear hge
    go_wp2_with fail
    have c1 := same_any X X _ _ w9 lo 0 HM9.out.ans HMa.out
    rw [eqM_own] at c1
    refine c1.mono ?_
    clear c1
    rintro e w10 ⟨rfl, hb10⟩
    have HE10 : Hid _ := HE9.out.below hb10
    clear q0 q1 q2 q3 q4 qs p0 p1 p2 p3 p4 ps g0 g1 g2 g3 g4 g5 g6 g7 g8 g9 g10 g11 g12 g13 gs
    go_wp2
    go_ret
    exact ⟨rfl, HW1.out.trans (HE10.out.bl.mono HW1.out.size)⟩
  · have HLe : Hid (L = flowsOf M) := HL'.out
    obtain ⟨j, hsl, hjl, hxl, hge, hfl, href⟩ := drop_at (k := k) HOk.out HDr.out (by rw [← HLe.out]; exact hk) (by simp only [← HLe.out]; exact hkey)
    have hslot : L[k].slot = (j : Int) := by simp only [HLe.out]; exact hsl
    have HEr : Hid (L2 = L.eraseIdx k) := by show _ = _; rw [HL2.out, HLe.out]; exact hfl
    clear hsl hfl hkey
    obtain ⟨b1, o1, rfl, x1⟩ := refs_cell HM9.out.at.s (by rw [hxl]; exact hjl : j < X.slots.length)
    obtain ⟨b2, o2, rfl, x2⟩ := refs_cell (HAt.out _ HE9.out.bl).s hjl
    rw [href] at x1
    rcases (HFw.out _ HE9.out.bl).at_ with h0 | ⟨b3, o3, rfl, hc3⟩
    · omega
    obtain ⟨y0, y1, y2, y3⟩ := hc3 k hk
    rw [hslot] at y2
    have HRf : Hid (0 ≤ refsM M (j : Int) ∧ refsM M (j : Int) ≤ 1000) := slot_refs HOk.out.ok (isSl_in.2 (by omega))
    obtain ⟨r0, r1⟩ := HRf.out
    clear hc3 hslot href
    generalize refsM M (j : Int) = rf at *
    have hm12 : M.slots.length ≤ 12 := HNs.out.1
    have hln := HLn.out
    obtain ⟨q0, q1, q2, q3, q4, -, -, -, -, -, qs⟩ := boxf (HBm.out _ (HE9.out.box _ (.tail _ (.tail _ (.head _)))))
    obtain ⟨p0, p1, p2, p3, p4, -, -, -, -, -, ps⟩ := boxf HM9.out.box
    obtain ⟨g0, g1, g2, g3, g4, g5, g6, g7, g8, g9, g10, g11, g12, g13, -, gs⟩ := framef (HBg.out _ _ (HE9.out.box _ (.head _)))
    rw [hge] at g13
    rw [hxl] at p0
    clear hge
    have HCl : Hid (∀ W : World, Below w9.heap.size w9 W → Calls Try.prog 68 #[.slice (some ⟨b3, o3, none⟩) L.length cap] W fun e w' => ∃ g c, e = .returned (.slice (some ⟨g, 0, none⟩) L.length c) ∧ w'.ownsRow w9.heap.size 42 4 (.slice (some ⟨g, 0, none⟩) L.length c) L.length (encF L) ∧ Below w9.heap.size w9 w') := fun W hb => (cloneF _ _ L W (by omega) HLn.out ((HFw.out _ HE9.out.bl).below hb)).mono (fun e w' h => by
      obtain ⟨g, c, he, ho, hb'⟩ := h
      exact ⟨g, c, he, own_low ho hb.size, hb.trans (hb'.mono hb.size)⟩)
    have HDl : Hid (∀ (W : World) (g c : Nat), W.ownsRow w9.heap.size 42 4 (.slice (some ⟨g, 0, none⟩) L.length c) L.length (encF L) → Below w9.heap.size w9 W → Calls Try.prog 67 #[.slice (some ⟨g, 0, none⟩) L.length c, .int .i64 (k : Int), .int .i64 ((k : Int) + 1)] W fun e w' => e = .returned (.slice (some ⟨g, 0, none⟩) L2.length c) ∧ FRow w' (some ⟨g, 0, none⟩) c L2 ∧ Below w9.heap.size w9 w') := fun W g c ho hb => by
      have h := deleteF g c k (k + 1) w9.heap.size L W ho hk rfl HLn.out (ho.lt g rfl).1
      rw [← HEr.out] at h
      exact h.mono (fun e w' h => ⟨h.1, h.2.1, hb.trans h.2.2⟩)
    have HEq : Hid (∀ (W : World) (g c : Nat), FRow W (some ⟨g, 0, none⟩) c L2 → Below w9.heap.size w9 W → Calls Try.prog 58 #[.slice ao2 L2.length cap2, .slice (some ⟨g, 0, none⟩) L2.length c] W fun e w' => e = .returned (.bool true) ∧ Below w.heap.size w w' ∧ Below w9.heap.size w9 w') := fun W g c r hb => by
      have h := equalF_any ao2 (some ⟨g, 0, none⟩) cap2 c L2 L2 W (HF9.out.below hb) r
      rw [show eqF L2 L2 = true from (eqF_iff _ _).2 rfl] at h
      refine h.mono (fun e w' h => ⟨h.1, ?_, hb.trans (h.2.mono hb.size)⟩)
      have h9 : Below w.heap.size w w9 := HW1.out.trans (HE9.out.bl.mono HW1.out.size)
      exact (h9.trans (hb.mono h9.size)).trans (h.2.mono (Nat.le_trans h9.size hb.size))
    go_wp2_with fail
    have HS : Hid (∀ W : World, Below w9.heap.size w9 W → (fun w' => w'.cell? ⟨G, 13, none⟩ = some (.int .i64 0) ∧ w'.cell? ⟨B, 0, none⟩ = some (.slice (some ⟨b1, o1, none⟩) M.slots.length jS) ∧ w'.cell? ⟨w.heap.size, 0, none⟩ = some (.slice (some ⟨b2, o2, none⟩) M.slots.length cS) ∧ w'.cell? ⟨b1, o1 + j * 6, none⟩ = some (.int .i64 (rf - 1)) ∧ w'.cell? ⟨b2, o2 + j * 6, none⟩ = some (.int .i64 rf)) W) := fun W hb => by
      obtain ⟨q, _⟩ := bcell hb
      exact ⟨(q _ _ (cell_lt g13)).trans g13, (q _ _ (cell_lt p0)).trans p0, (q _ _ (cell_lt q0)).trans q0, (q _ _ (cell_lt x1)).trans x1, (q _ _ (cell_lt x2)).trans x2⟩
    have hwr : IntKind.i64.wrap (rf - 1) = rf - 1 := by rw [IntKind.wrap_i64]; omega
    have hwk : IntKind.i64.wrap ((k : Int) + 1) = (k : Int) + 1 := by rw [IntKind.wrap_i64]; omega
    rename_i K0 hK0
    go_region_held3 (fun w' => w'.cell? ⟨G, 13, none⟩ = some (.int .i64 0) ∧ w'.cell? ⟨B, 0, none⟩ = some (.slice (some ⟨b1, o1, none⟩) M.slots.length jS) ∧ w'.cell? ⟨w.heap.size, 0, none⟩ = some (.slice (some ⟨b2, o2, none⟩) M.slots.length cS) ∧ w'.cell? ⟨b1, o1 + j * 6, none⟩ = some (.int .i64 (rf - 1)) ∧ w'.cell? ⟨b2, o2 + j * 6, none⟩ = some (.int .i64 rf)) (first | exact HS.out _ HC12.out | exact HS.out _ HO11.out.2 | exact HS.out _ HO10.out.2 | exact HS.out _ ⟨rfl, rfl, rfl, Nat.le_refl _, fun _ _ => rfl⟩) (first | (go_at_call 68; refine (HCl.out _ (by exact ⟨rfl, rfl, rfl, Nat.le_refl _, fun _ _ => rfl⟩)).mono ?_; rintro e w10 ⟨g10, c10, rfl, ho10, hb10⟩; have HO10 : Hid (w10.ownsRow w9.heap.size 42 4 (.slice (some ⟨g10, 0, none⟩) L.length c10) L.length (encF L) ∧ Below w9.heap.size w9 w10) := ⟨ho10, hb10⟩; clear ho10 hb10) | (go_at_call 67; refine (HDl.out _ g10 c10 HO10.out.1 HO10.out.2).mono ?_; rintro e w11 ⟨rfl, hr11, hb11⟩; have HO11 : Hid (FRow w11 (some ⟨g10, 0, none⟩) c10 L2 ∧ Below w9.heap.size w9 w11) := ⟨hr11, hb11⟩; clear hr11 hb11) | (go_at_call 58; refine (HEq.out _ g10 c10 HO11.out.1 HO11.out.2).mono ?_; rintro e w12 ⟨rfl, hb12, hc12⟩; have HB12 : Hid (Below w.heap.size w w12) := hb12; have HC12 : Hid (Below w9.heap.size w9 w12) := hc12; clear hb12 hc12))
    show K0 _ _
    refine hK0 _ _ ?_
    clear hK0
    go_wp2
    go_ret
    exact ⟨rfl, HB12.out⟩
end Go.Proofs.Ytjgcbbakgklniab.mm

namespace Go.Proofs.Ytjgcbbakgklniab.dropAlone
open Go.ChangeShapes Go.WideShapes Go.ChangeAt Go.RowKit Go.Joins
open Go.Proofs.Ytjgcbbakgklniab.mm
set_option linter.unusedVariables false

theorem laidOut : laidOutB Try.prog = true := by kernel_rfl

set_option maxRecDepth 100000 in
theorem lifted (os : Os) (started : os.Started) (H : Type) (enc : TypeId × Value → H) :
    ReturnsInHanded {} Try.checked os 13 .any (Rows.dropAloneSpec.pre6 enc Try.prog Try.f13 Rows.dropAloneRow.domain false) (Rows.dropAloneSpec.post enc Try.prog Try.f13 false true false false) := by
  refine returnsInHanded_of_change_sized (C := Try.checked) own started (by kernel_rfl) Try.func13
    (ChangeSpec.witness6 (enc := enc) (C := Try.checked) false ⟨#[], #[.agg #[.slice none 0 0, .slice none 0 0, .slice none 0 0, .slice none 0 0, .int .i64 0], .agg #[.int .i64 0, .int .i64 0]], []⟩ 8 (by kernel_rfl) (by kernel_rfl) (by kernel_rfl) (by kernel_rfl)) ?_
  intro W base args ds gs before hval0 hW _ hsz0 _
  have hsz : (DataW.weightsEach Try.prog (Try.f13.params.toList ++ Rows.dropAloneSpec.plain.varTypes Try.prog) (ds ++ gs)).all (· ≤ reachBytes) = true := hsz0
  have hval : ∀ (j : Nat) t v, Try.f13.params[j]? = some t → args[j]? = some v → Value.okWide Try.prog W .any base t v := hval0
  have hW' := hW
  obtain ⟨p, q, hA0, hV, rfl, _, _⟩ := hW
  have hA : DataW.TrodAll enc Try.prog W 0 (fun _ => true) true Try.f13.params.toList args.toList ds p := hA0
  rw [Try.params13] at hA hval hsz
  obtain ⟨v0, v1, d0, d1, p0, p1, rfl, rfl, rfl, h0, h1⟩ := trodAll_two hA
  obtain ⟨rfl, rfl⟩ := trodVars_none hV
  clear hA0 hval0 hsz0
  simp only [List.append_nil] at hW'
  have hlt : ∀ x ∈ p0 ++ p1, x.block < W.heap.size := fun x hx => by simpa using hW'.lt x hx
  obtain ⟨M0, A0⟩ := open_mem (hval 0 25 v0 rfl rfl) h0 (fun n hn => by
    have := List.all_eq_true.1 hsz n (DataW.weights_mem_each (j := 0) (t := 25) (d := d0) rfl rfl n hn)
    simpa using this)
  have h0k := h0
  have h1k := h1
  obtain ⟨c0, c1, y0, y1, m, rfl, hd1, hp1, hy0, hy1⟩ := open_agg2 Try.underlying37 (by kernel_rfl) cells37 (hval 1 37 v1 rfl rfl) h1
  obtain ⟨a1, e0, -⟩ := DataW.trod_int Try.underlying3 hy0
  obtain ⟨b1, e1, -⟩ := DataW.trod_int Try.underlying3 hy1
  simp only [List.cons.injEq, and_true] at e0 e1
  subst e0 e1
  refine (dropAlone_any M0 a1 b1 v0 W A0).mono fun e W' ⟨he, hnx⟩ => ?_
  subst he
  refine ⟨_, rfl, _, _, _, [], p0 ++ p1, [], hW', ?_, ?_, rfl, hnx.frame _, fun h => by cases h⟩
  · exact trodAll_mk1 (shut_bool Try.underlying4 _)
  · exact trodAll_mk2 (Below.trod laidOut (by kernel_rfl) (of_decide_eq_true (by kernel_rfl)) h0k hnx (fun x hx => hlt x (by simp [hx]))) (Below.trod laidOut (by kernel_rfl) (of_decide_eq_true (by kernel_rfl)) h1k hnx (fun x hx => hlt x (by simp [hx])))

theorem row_holds : Rows.DropAloneSaid :=
  OpenClaim.holds_of_wide 13 Try.f13 rfl rfl rfl rfl rfl rfl rfl ⟨rfl, rfl, rfl, rfl, rfl⟩ rfl rfl rfl rfl rfl (by kernel_rfl) Try.func13 (by kernel_rfl)
    (of_decide_eq_true (by kernel_rfl)) (by unfold Func.isWrapper; first | (rw [if_pos (by decide +kernel)]; kernel_rfl) | (rw [if_neg (by decide +kernel)]; exact ⟨rfl, rfl⟩))
    (fun os started H enc _ => lifted os started H enc)
#print axioms row_holds


end Go.Proofs.Ytjgcbbakgklniab.dropAlone
