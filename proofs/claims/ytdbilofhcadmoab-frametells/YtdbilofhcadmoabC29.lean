/- The contract of add's part take, where a slot is free. -/
import Derived.Test.YtdbilofhcadmoabC21
import Derived.Test.YtdbilofhcadmoabC25
import Derived.Test.YtdbilofhcadmoabC22
namespace Go.Proofs.Ytdbilofhcadmoab.mm
open Go.ChangeShapes Go.WideShapes Go.ChangeAt Go.RowKit Go.Joins Go.Deep Go.Sort
set_option maxRecDepth 100000
set_option linter.unusedVariables false


set_option maxHeartbeats 3200000 in
theorem ad_take1 (M : Mm) (f : Fr) (B lo : Nat) (aS aH aF aL : Option Addr) (cS cH cF cL : Nat) (aK : Option Addr) (cK : Nat) (w : World)
    (m : Mine w B lo aS aH aF aL cS cH cF cL M) (hM : Ok M) (hf : Fit M f) (r : KRow w aK cK f.keys) (hz : ∀ ad, aK = some ad → ¬ Foot B aS aH aF aL ad.block) (hk : f.c.kind = 2) (hF : ¬ M.free.length = 0) :
    Calls Try.prog 112 #[.pointer (some ⟨B, 0, none⟩), .agg #[.int .i64 f.c.kind, .int .i64 f.c.a, .int .i64 f.c.b, .int .i64 f.c.time, .int .i64 f.c.bk, .int .i64 f.c.slot, .int .i64 f.pl, .int .i64 f.cur, .int .i64 f.prev, .int .i64 f.slot, .int .i64 f.n, .slice aK f.keys.length cK, .bool f.done, .int .i64 f.e]] w fun e w' => Ret w w' e (adTake M f) aK cK ∧ Has w' B lo (Up w (Foot B aS aH aF aL)) (adTakeM M f) ∧ Fine w w' (Foot B aS aH aF aL) := by
  have hns := hM.ns
  have hnh := hM.nh.2
  have hcur := hf.cur.2
  have hc1 : f.cur ≤ 1000 := by omega
  have hn1 : M.slots.length ≤ 1000 := by omega
  have HOk : Hid (Ok M) := hM
  have HR : Hid (KRow w aK cK f.keys) := r
  obtain ⟨k1, k2, k3⟩ := add_key hk hf.call
  have hnow := hM.now
  have hun : untA M f = M.now + f.c.time := by unfold untA; rw [if_neg (by omega)]
  have HUn : Hid (∀ W : World, Calls Try.prog 154 #[.int .i64 M.now, .int .i64 f.c.time] W fun e w' => e = .returned (.int .i64 (M.now + f.c.time)) ∧ W = w') := fun W => until_any _ _ W hnow.1 hnow.2 k2 k3
  have hF' : 0 < M.free.length := by omega
  have hres : adTake M f = handF f (lastF M) 1 := by unfold adTake; rw [if_neg hF]
  have hresM : adTakeM M f = takeM M f.c.a f.c.b (M.now + f.c.time) := by unfold adTakeM; rw [if_neg hF, hun]
  rw [hres, hresM]
  have HTk : Hid (∀ W : World, Lk w W B lo aS aH aF aL cS cH cF cL M f aK cK → Calls Try.prog 140 #[.pointer (some ⟨B, 0, none⟩), .agg #[.int .i64 f.c.a, .int .i64 f.c.b], .int .i64 (M.now + f.c.time)] W fun e w' => e = .returned (.tuple #[.int .i64 (lastF M), .bool true]) ∧ Lk2 w w' (Foot B aS aH aF aL) B lo (takeM M f.c.a f.c.b (M.now + f.c.time)) f aK cK) := fun W h => (take_fine ⟨_, _, _, _, _, _, _, _, h.m, fun _ h => h⟩ HOk.out hF').mono (fun e w' h' => ⟨h'.1, h.after h'.2.1 h'.2.2⟩)
  generalize takeM M f.c.a f.c.b (M.now + f.c.time) = M' at *
  generalize lastF M = la at *
  have HZ : Hid (∀ ad, aK = some ad → ¬ (Foot B aS aH aF aL) ad.block) := hz
  obtain ⟨of, hof⟩ : ∃ o : Obj, o = .cells #[.int .i64 f.c.kind, .int .i64 f.c.a, .int .i64 f.c.b, .int .i64 f.c.time, .int .i64 f.c.bk, .int .i64 f.c.slot, .int .i64 f.pl, .int .i64 f.cur, .int .i64 f.prev, .int .i64 f.slot, .int .i64 f.n, .slice aK f.keys.length cK, .bool f.done, .int .i64 f.e] 51 := ⟨_, rfl⟩
  obtain ⟨oz, hoz⟩ : ∃ o : Obj, o = zeroFr := ⟨_, rfl⟩
  have HE : Hid (Lk w ((w.alloc of).alloc oz) B lo aS aH aF aL cS cH cF cL M f aK cK) := Lk.first m f aK cK hof hoz
  obtain ⟨q0, q1, q2, q3, q4, -, -, -, -, -, qs⟩ := boxf HE.out.m.box
  obtain ⟨f0, f1, f2, f3, f4, f5, f6, f7, f8, f9, f10, f11, f12, f13, ff, fs⟩ := framef HE.out.fb
  unfold zeroFr at hoz
  clear m hc1 hn1 hcur hns hnh hM hf r hz hres hresM hF hF' hun hnow k1 k2 k3 hk
  go_enter Try.func112, Try.ntmps112
  go_wp2_with fail
  rw [← hof, ← hoz]
  generalize (w.alloc of).alloc oz = W0 at *
  subst hof hoz
  rename_i K0 hK0
  apply by_tail (R := fun a => ∀ W2 : World, Lk2 w W2 (Foot B aS aH aF aL) B lo M' f aK cK → K0 a W2)
  · intro tail0
    have tail : Hid _ := tail0
    clear tail0
    go_region_with (first | (go_at_call 154; refine (HUn.out _).mono ?_; rintro e w3 ⟨rfl, rfl⟩) | (go_at_call 140; refine (HTk.out _ (by exact HE.out.below ⟨rfl, rfl, rfl, Nat.le_refl _, fun _ _ => rfl⟩)).mono ?_; rintro e w2 ⟨rfl, h9⟩; have HE2 : Hid (Lk2 w w2 (Foot B aS aH aF aL) B lo M' f aK cK) := h9; clear h9))
    all_goals exact tail.out _ HE2.out
  · intro w2 h2
    refine hK0 _ _ ?_
    have HE2 : Hid (Lk2 w w2 (Foot B aS aH aF aL) B lo M' f aK cK) := h2
    clear h2 HE hK0
    clear q0 q1 q2 q3 q4 qs
    clear f0 f1 f2 f3 f4 f5 f6 f7 f8 f9 f10 f11 f12 f13 ff fs
    obtain ⟨f0, f1, f2, f3, f4, f5, f6, f7, f8, f9, f10, f11, f12, f13, ff, fs⟩ := framef HE2.out.fb
    go_wp2_with fail
    have HE3 : Hid (Lk2 w _ (Foot B aS aH aF aL) B lo M' { f with slot := la } aK cK) := HE2.out.store 9 (.int .i64 la) { f with slot := la } rfl
    clear HE2
    refine (to_any { f with slot := la } 1 aK cK _).mono ?_
    rintro e w9 ⟨rfl, hb9⟩
    have HE9 : Hid (Lk2 w w9 (Foot B aS aH aF aL) B lo M' { f with slot := la } aK cK) := HE3.out.below hb9
    clear HE3 hb9
    clear f0 f1 f2 f3 f4 f5 f6 f7 f8 f9 f10 f11 f12 f13 ff fs
    obtain ⟨g0, g1, g2, g3, g4, g5, g6, g7, g8, g9, g10, g11, g12, g13, gf, gs⟩ := framef HE9.out.zb
    go_wp2
    refine bodyPost_ret (v := .agg #[.int .i64 (handF f la 1).c.kind, .int .i64 (handF f la 1).c.a, .int .i64 (handF f la 1).c.b, .int .i64 (handF f la 1).c.time, .int .i64 (handF f la 1).c.bk, .int .i64 (handF f la 1).c.slot, .int .i64 (handF f la 1).pl, .int .i64 (handF f la 1).cur, .int .i64 (handF f la 1).prev, .int .i64 (handF f la 1).slot, .int .i64 (handF f la 1).n, .slice aK (handF f la 1).keys.length cK, .bool (handF f la 1).done, .int .i64 (handF f la 1).e]) (by simp [results, Try.results112, go_sem, handF, toF, g0, g1, g2, g3, g4, g5, g6, g7, g8, g9, g10, g11, g12, g13]) rfl ⟨⟨aK, cK, rfl, HR.out.fine HE9.out.end14.2 HZ.out, (fun ad h => .inl h), fun _ => ⟨rfl, rfl⟩⟩, HE9.out.end14⟩

end Go.Proofs.Ytdbilofhcadmoab.mm
