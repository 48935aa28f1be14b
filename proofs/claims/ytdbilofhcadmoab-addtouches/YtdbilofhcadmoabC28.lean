/- The contract of add's part take, where no slot is free. -/
import Derived.Test.YtdbilofhcadmoabC21
import Derived.Test.YtdbilofhcadmoabC25
import Derived.Test.YtdbilofhcadmoabC22
namespace Go.Proofs.Ytdbilofhcadmoab.mm
open Go.ChangeShapes Go.WideShapes Go.ChangeAt Go.RowKit Go.Joins Go.Deep Go.Sort
set_option maxRecDepth 100000
set_option linter.unusedVariables false


set_option maxHeartbeats 3200000 in
theorem ad_take0 (M : Mm) (f : Fr) (B lo : Nat) (aS aH aF aL : Option Addr) (cS cH cF cL : Nat) (aK : Option Addr) (cK : Nat) (w : World)
    (m : Mine w B lo aS aH aF aL cS cH cF cL M) (hM : Ok M) (hf : Fit M f) (r : KRow w aK cK f.keys) (hz : ∀ ad, aK = some ad → ¬ Foot B aS aH aF aL ad.block) (hk : f.c.kind = 2) (hF : M.free.length = 0) :
    Calls Try.prog 112 #[.pointer (some ⟨B, 0, none⟩), .agg #[.int .i64 f.c.kind, .int .i64 f.c.a, .int .i64 f.c.b, .int .i64 f.c.time, .int .i64 f.c.bk, .int .i64 f.c.slot, .int .i64 f.pl, .int .i64 f.cur, .int .i64 f.prev, .int .i64 f.slot, .int .i64 f.n, .slice aK f.keys.length cK, .bool f.done, .int .i64 f.e]] w fun e w' => Ret w w' e (adTake M f) aK cK ∧ Has w' B lo (Up w (Foot B aS aH aF aL)) (adTakeM M f) ∧ Fine w w' (Foot B aS aH aF aL) := by
  have hns := hM.ns
  have hnh := hM.nh.2
  have hcur := hf.cur.2
  have hc1 : f.cur ≤ 1000 := by omega
  have hn1 : M.slots.length ≤ 1000 := by omega
  have HOk : Hid (Ok M) := hM
  have HR : Hid (KRow w aK cK f.keys) := r
  obtain ⟨k1, k2, k3⟩ := add_key hk hf.call
  have hnow := hM.now
  have hun : untA M f = M.now + f.c.time := by unfold untA; rw [if_neg (by omega)]
  have HUn : Hid (∀ W : World, Calls Try.prog 154 #[.int .i64 M.now, .int .i64 f.c.time] W fun e w' => e = .returned (.int .i64 (M.now + f.c.time)) ∧ W = w') := fun W => until_any _ _ W hnow.1 hnow.2 k2 k3
  have hres : adTake M f = endF f 7 := by unfold adTake; rw [if_pos hF]
  have hresM : adTakeM M f = M := by unfold adTakeM; rw [if_pos hF]
  rw [hres, hresM]
  have HTk : Hid (∀ W : World, Lk w W B lo aS aH aF aL cS cH cF cL M f aK cK → Calls Try.prog 140 #[.pointer (some ⟨B, 0, none⟩), .agg #[.int .i64 f.c.a, .int .i64 f.c.b], .int .i64 (M.now + f.c.time)] W fun e w' => e = .returned (.tuple #[.int .i64 0, .bool false]) ∧ Lk2 w w' (Foot B aS aH aF aL) B lo M f aK cK) := fun W h => (take_none (Z := Foot B aS aH aF aL) (lo := lo) (M := M) ⟨_, _, _, _, _, _, _, _, h.m, fun _ h => h⟩ hF).mono (fun e w' h' => ⟨h'.1, (h.below h'.2).two⟩)
  have HZ : Hid (∀ ad, aK = some ad → ¬ (Foot B aS aH aF aL) ad.block) := hz
  obtain ⟨of, hof⟩ : ∃ o : Obj, o = .cells #[.int .i64 f.c.kind, .int .i64 f.c.a, .int .i64 f.c.b, .int .i64 f.c.time, .int .i64 f.c.bk, .int .i64 f.c.slot, .int .i64 f.pl, .int .i64 f.cur, .int .i64 f.prev, .int .i64 f.slot, .int .i64 f.n, .slice aK f.keys.length cK, .bool f.done, .int .i64 f.e] 51 := ⟨_, rfl⟩
  obtain ⟨oz, hoz⟩ : ∃ o : Obj, o = zeroFr := ⟨_, rfl⟩
  have HE : Hid (Lk w ((w.alloc of).alloc oz) B lo aS aH aF aL cS cH cF cL M f aK cK) := Lk.first m f aK cK hof hoz
  obtain ⟨q0, q1, q2, q3, q4, -, -, -, -, -, qs⟩ := boxf HE.out.m.box
  obtain ⟨f0, f1, f2, f3, f4, f5, f6, f7, f8, f9, f10, f11, f12, f13, ff, fs⟩ := framef HE.out.fb
  unfold zeroFr at hoz
  clear m hc1 hn1 hcur hns hnh hM hf r hz hres hresM hF hun hnow k1 k2 k3 hk
  go_enter Try.func112, Try.ntmps112
  go_wp2_with fail
  rw [← hof, ← hoz]
  generalize (w.alloc of).alloc oz = W0 at *
  subst hof hoz
  rename_i K0 hK0
  apply by_tail (R := fun a => ∀ W2 : World, Lk2 w W2 (Foot B aS aH aF aL) B lo M f aK cK → K0 a W2)
  · intro tail0
    have tail : Hid _ := tail0
    clear tail0
    go_region_with (first | (go_at_call 154; refine (HUn.out _).mono ?_; rintro e w3 ⟨rfl, rfl⟩) | (go_at_call 140; refine (HTk.out _ (by exact HE.out.below ⟨rfl, rfl, rfl, Nat.le_refl _, fun _ _ => rfl⟩)).mono ?_; rintro e w2 ⟨rfl, h9⟩; have HE2 : Hid (Lk2 w w2 (Foot B aS aH aF aL) B lo M f aK cK) := h9; clear h9))
    all_goals exact tail.out _ HE2.out
  · intro w2 h2
    refine hK0 _ _ ?_
    have HE2 : Hid (Lk2 w w2 (Foot B aS aH aF aL) B lo M f aK cK) := h2
    clear h2 HE hK0
    clear q0 q1 q2 q3 q4 qs
    clear f0 f1 f2 f3 f4 f5 f6 f7 f8 f9 f10 f11 f12 f13 ff fs
    obtain ⟨f0, f1, f2, f3, f4, f5, f6, f7, f8, f9, f10, f11, f12, f13, ff, fs⟩ := framef HE2.out.fb
    go_wp2_with fail
    refine (endFr_hi f 7 aK cK _ (HR.out.fine HE2.out.fine HZ.out)).mono ?_
    rintro e w9 ⟨a9, c9, rfl, hr9, hi9, hb9⟩
    have HK9 : Hid (KRow w9 a9 c9 f.keys ∧ ∀ ad, a9 = some ad → w.heap.size + 2 ≤ ad.block) := ⟨hr9, fun ad h => Nat.le_trans (lt_of_block HE2.out.zb) (hi9 ad h)⟩
    have HE9 : Hid (Lk2 w w9 (Foot B aS aH aF aL) B lo M f aK cK) := HE2.out.below hb9
    clear HE2 hb9 hr9 hi9
    clear f0 f1 f2 f3 f4 f5 f6 f7 f8 f9 f10 f11 f12 f13 ff fs
    obtain ⟨g0, g1, g2, g3, g4, g5, g6, g7, g8, g9, g10, g11, g12, g13, gf, gs⟩ := framef HE9.out.zb
    go_wp2
    refine bodyPost_ret (v := .agg #[.int .i64 (endF f 7).c.kind, .int .i64 (endF f 7).c.a, .int .i64 (endF f 7).c.b, .int .i64 (endF f 7).c.time, .int .i64 (endF f 7).c.bk, .int .i64 (endF f 7).c.slot, .int .i64 (endF f 7).pl, .int .i64 (endF f 7).cur, .int .i64 (endF f 7).prev, .int .i64 (endF f 7).slot, .int .i64 (endF f 7).n, .slice a9 (endF f 7).keys.length c9, .bool (endF f 7).done, .int .i64 (endF f 7).e]) (by simp [results, Try.results112, go_sem, endF, g0, g1, g2, g3, g4, g5, g6, g7, g8, g9, g10, g11, g12, g13]) rfl ⟨⟨a9, c9, rfl, krow14 HK9.out.1 HK9.out.2, (fun ad h => .inr (by have := HK9.out.2 ad h; omega)), fun h => by cases h⟩, HE9.out.end14⟩

end Go.Proofs.Ytdbilofhcadmoab.mm
