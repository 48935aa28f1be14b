/- The contracts of add's parts that change memory: lock, unlock, take, link, refuse. -/
import Derived.Test.YtdbilofhcadmoabC21
import Derived.Test.YtdbilofhcadmoabC25
namespace Go.Proofs.Ytdbilofhcadmoab.mm
open Go.ChangeShapes Go.WideShapes Go.ChangeAt Go.RowKit Go.Joins Go.Deep Go.Sort
set_option maxRecDepth 100000
set_option linter.unusedVariables false

set_option maxHeartbeats 3200000 in
theorem ad_lock (M : Mm) (f : Fr) (t : Int) (B lo : Nat) (aS aH aF aL : Option Addr) (cS cH cF cL : Nat) (aK : Option Addr) (cK : Nat) (w : World)
    (m : Mine w B lo aS aH aF aL cS cH cF cL M) (hM : Ok M) (hf : Fit M f) (r : KRow w aK cK f.keys) (hz : ∀ ad, aK = some ad → ¬ Foot B aS aH aF aL ad.block) :
    Calls Try.prog 113 #[.pointer (some ⟨B, 0, none⟩), .agg #[.int .i64 f.c.kind, .int .i64 f.c.a, .int .i64 f.c.b, .int .i64 f.c.time, .int .i64 f.c.bk, .int .i64 f.c.slot, .int .i64 f.pl, .int .i64 f.cur, .int .i64 f.prev, .int .i64 f.slot, .int .i64 f.n, .slice aK f.keys.length cK, .bool f.done, .int .i64 f.e], .int .i64 t] w fun e w' => Ret w w' e (adLock M f) aK cK ∧ Has w' B lo (Up w (Foot B aS aH aF aL)) (adLockM M f t) ∧ Fine w w' (Foot B aS aH aF aL) := by
  have hns := hM.ns
  have hnh := hM.nh.2
  have hcur := hf.cur.2
  have hc1 : f.cur ≤ 1000 := by omega
  have hn1 : M.slots.length ≤ 1000 := by omega
  have HOk : Hid (Ok M) := hM
  have HR : Hid (KRow w aK cK f.keys) := r
  obtain ⟨b0, b1⟩ := bkOf_in hM hf.call
  obtain ⟨b, hb⟩ : ∃ b : Nat, bkOf M.heads.length f.c = b := ⟨_, (Int.toNat_of_nonneg b0).symm⟩
  have hbl : b < M.heads.length := by omega
  have hbn : bkN M f = b := by unfold bkN; rw [hb]; rfl
  have HBk : Hid (∀ W : World, Lk w W B lo aS aH aF aL cS cH cF cL M f aK cK → Calls Try.prog 31 #[.agg #[.slice aS M.slots.length cS, .slice aH M.heads.length cH, .slice aF M.free.length cF, .slice aL M.locks.length cL, .int .i64 M.now], .agg #[.int .i64 f.c.kind, .int .i64 f.c.a, .int .i64 f.c.b, .int .i64 f.c.time, .int .i64 f.c.bk, .int .i64 f.c.slot]] W fun e w' => e = .returned (.int .i64 (b : Int)) ∧ Lk w w' B lo aS aH aF aL cS cH cF cL M f aK cK) := fun W h => (hb ▸ frBucket_any _ _ _ _ _ _ _ _ cS cH cF cL M.now f.c W (by omega) : Calls Try.prog 31 _ W fun e w' => e = .returned (.int .i64 (b : Int)) ∧ Below W.heap.size W w').mono (fun e w' h' => ⟨h'.1, h.below h'.2⟩)
  have HLk : Hid (∀ W : World, Lk w W B lo aS aH aF aL cS cH cF cL M f aK cK → Calls Try.prog 155 #[.pointer (some ⟨B, 0, none⟩), .int .i64 (b : Int), .int .i64 t] W fun e w' => e = .returned (.bool (lockAt M b == -1)) ∧ Lk2 w w' (Foot B aS aH aF aL) B lo (lockN M b t) f aK cK) := fun W h => (lock_fine t ⟨_, _, _, _, _, _, _, _, h.m, fun _ h => h⟩ HOk.out hbl).mono (fun e w' h' => ⟨h'.1, h.after h'.2.1 h'.2.2⟩)
  have hres : adLock M f = if lockAt M b = -1 then toF f 2 else f := by unfold adLock; rw [hbn]
  have hresM : adLockM M f t = lockN M b t := by unfold adLockM lockN; rw [hbn]
  rw [hres, hresM]
  generalize lockN M b t = M' at *
  cases hl : (lockAt M b == -1)
  · rw [if_neg (by simpa using hl)]
    rw [hl] at HLk
    have HZ : Hid (∀ ad, aK = some ad → ¬ (Foot B aS aH aF aL) ad.block) := hz
    obtain ⟨of, hof⟩ : ∃ o : Obj, o = .cells #[.int .i64 f.c.kind, .int .i64 f.c.a, .int .i64 f.c.b, .int .i64 f.c.time, .int .i64 f.c.bk, .int .i64 f.c.slot, .int .i64 f.pl, .int .i64 f.cur, .int .i64 f.prev, .int .i64 f.slot, .int .i64 f.n, .slice aK f.keys.length cK, .bool f.done, .int .i64 f.e] 51 := ⟨_, rfl⟩
    obtain ⟨oz, hoz⟩ : ∃ o : Obj, o = zeroFr := ⟨_, rfl⟩
    have HE : Hid (Lk w ((w.alloc of).alloc oz) B lo aS aH aF aL cS cH cF cL M f aK cK) := Lk.first m f aK cK hof hoz
    obtain ⟨q0, q1, q2, q3, q4, -, -, -, -, -, qs⟩ := boxf HE.out.m.box
    obtain ⟨f0, f1, f2, f3, f4, f5, f6, f7, f8, f9, f10, f11, f12, f13, ff, fs⟩ := framef HE.out.fb
    unfold zeroFr at hoz
    clear m hc1 hn1 hcur hns hnh hM hf r hz hl hres hresM hbn hb b0 b1
    go_enter Try.func113, Try.ntmps113
    go_wp2_with fail
    rw [← hof, ← hoz]
    generalize (w.alloc of).alloc oz = W0 at *
    subst hof hoz
    go_region_with (first | (go_at_call 31; refine (HBk.out _ (by exact HE.out.below ⟨rfl, rfl, rfl, Nat.le_refl _, fun _ _ => rfl⟩)).mono ?_; rintro e w1 ⟨rfl, h9⟩; have HE1 : Hid (Lk w w1 B lo aS aH aF aL cS cH cF cL M f aK cK) := h9; clear HE h9) | (go_at_call 155; refine (HLk.out _ (by exact HE1.out.below ⟨rfl, rfl, rfl, Nat.le_refl _, fun _ _ => rfl⟩)).mono ?_; rintro e w2 ⟨rfl, h9⟩; have HE2 : Hid (Lk2 w w2 (Foot B aS aH aF aL) B lo M' f aK cK) := h9; clear HE1 h9))
    all_goals
      clear q0 q1 q2 q3 q4 qs
      clear f0 f1 f2 f3 f4 f5 f6 f7 f8 f9 f10 f11 f12 f13 ff fs
      obtain ⟨f0, f1, f2, f3, f4, f5, f6, f7, f8, f9, f10, f11, f12, f13, ff, fs⟩ := framef HE2.out.fb
      obtain ⟨g0, g1, g2, g3, g4, g5, g6, g7, g8, g9, g10, g11, g12, g13, gf, gs⟩ := framef HE2.out.zb
      go_wp2
      refine bodyPost_ret (v := .agg #[.int .i64 f.c.kind, .int .i64 f.c.a, .int .i64 f.c.b, .int .i64 f.c.time, .int .i64 f.c.bk, .int .i64 f.c.slot, .int .i64 f.pl, .int .i64 f.cur, .int .i64 f.prev, .int .i64 f.slot, .int .i64 f.n, .slice aK f.keys.length cK, .bool f.done, .int .i64 f.e]) (by simp [results, Try.results113, go_sem, g0, g1, g2, g3, g4, g5, g6, g7, g8, g9, g10, g11, g12, g13]) rfl ⟨⟨aK, cK, rfl, HR.out.fine HE2.out.end14.2 HZ.out, (fun ad h => .inl h), fun _ => ⟨rfl, rfl⟩⟩, HE2.out.end14⟩
  · rw [if_pos (by simpa using hl)]
    rw [hl] at HLk
    have HZ : Hid (∀ ad, aK = some ad → ¬ (Foot B aS aH aF aL) ad.block) := hz
    obtain ⟨of, hof⟩ : ∃ o : Obj, o = .cells #[.int .i64 f.c.kind, .int .i64 f.c.a, .int .i64 f.c.b, .int .i64 f.c.time, .int .i64 f.c.bk, .int .i64 f.c.slot, .int .i64 f.pl, .int .i64 f.cur, .int .i64 f.prev, .int .i64 f.slot, .int .i64 f.n, .slice aK f.keys.length cK, .bool f.done, .int .i64 f.e] 51 := ⟨_, rfl⟩
    obtain ⟨oz, hoz⟩ : ∃ o : Obj, o = zeroFr := ⟨_, rfl⟩
    have HE : Hid (Lk w ((w.alloc of).alloc oz) B lo aS aH aF aL cS cH cF cL M f aK cK) := Lk.first m f aK cK hof hoz
    obtain ⟨q0, q1, q2, q3, q4, -, -, -, -, -, qs⟩ := boxf HE.out.m.box
    obtain ⟨f0, f1, f2, f3, f4, f5, f6, f7, f8, f9, f10, f11, f12, f13, ff, fs⟩ := framef HE.out.fb
    unfold zeroFr at hoz
    clear m hc1 hn1 hcur hns hnh hM hf r hz hl hres hresM hbn hb b0 b1
    go_enter Try.func113, Try.ntmps113
    go_wp2_with fail
    rw [← hof, ← hoz]
    generalize (w.alloc of).alloc oz = W0 at *
    subst hof hoz
    go_region_with (first | (go_at_call 31; refine (HBk.out _ (by exact HE.out.below ⟨rfl, rfl, rfl, Nat.le_refl _, fun _ _ => rfl⟩)).mono ?_; rintro e w1 ⟨rfl, h9⟩; have HE1 : Hid (Lk w w1 B lo aS aH aF aL cS cH cF cL M f aK cK) := h9; clear HE h9) | (go_at_call 155; refine (HLk.out _ (by exact HE1.out.below ⟨rfl, rfl, rfl, Nat.le_refl _, fun _ _ => rfl⟩)).mono ?_; rintro e w2 ⟨rfl, h9⟩; have HE2 : Hid (Lk2 w w2 (Foot B aS aH aF aL) B lo M' f aK cK) := h9; clear HE1 h9))
    all_goals
      clear q0 q1 q2 q3 q4 qs
      clear f0 f1 f2 f3 f4 f5 f6 f7 f8 f9 f10 f11 f12 f13 ff fs
      obtain ⟨f0, f1, f2, f3, f4, f5, f6, f7, f8, f9, f10, f11, f12, f13, ff, fs⟩ := framef HE2.out.fb
      go_wp2_with fail
      refine (to_any f 2 aK cK _).mono ?_
      rintro e w9 ⟨rfl, hb9⟩
      have HE9 : Hid (Lk2 w w9 (Foot B aS aH aF aL) B lo M' f aK cK) := HE2.out.below hb9
      clear HE2 hb9
      clear f0 f1 f2 f3 f4 f5 f6 f7 f8 f9 f10 f11 f12 f13 ff fs
      obtain ⟨g0, g1, g2, g3, g4, g5, g6, g7, g8, g9, g10, g11, g12, g13, gf, gs⟩ := framef HE9.out.zb
      go_wp2
      refine bodyPost_ret (v := .agg #[.int .i64 (toF f 2).c.kind, .int .i64 (toF f 2).c.a, .int .i64 (toF f 2).c.b, .int .i64 (toF f 2).c.time, .int .i64 (toF f 2).c.bk, .int .i64 (toF f 2).c.slot, .int .i64 (toF f 2).pl, .int .i64 (toF f 2).cur, .int .i64 (toF f 2).prev, .int .i64 (toF f 2).slot, .int .i64 (toF f 2).n, .slice aK (toF f 2).keys.length cK, .bool (toF f 2).done, .int .i64 (toF f 2).e]) (by simp [results, Try.results113, go_sem, toF, g0, g1, g2, g3, g4, g5, g6, g7, g8, g9, g10, g11, g12, g13]) rfl ⟨⟨aK, cK, rfl, HR.out.fine HE9.out.end14.2 HZ.out, (fun ad h => .inl h), fun _ => ⟨rfl, rfl⟩⟩, HE9.out.end14⟩

set_option maxHeartbeats 3200000 in
theorem ad_unlock (M : Mm) (f : Fr) (t : Int) (B lo : Nat) (aS aH aF aL : Option Addr) (cS cH cF cL : Nat) (aK : Option Addr) (cK : Nat) (w : World)
    (m : Mine w B lo aS aH aF aL cS cH cF cL M) (hM : Ok M) (hf : Fit M f) (r : KRow w aK cK f.keys) (hz : ∀ ad, aK = some ad → ¬ Foot B aS aH aF aL ad.block) :
    Calls Try.prog 119 #[.pointer (some ⟨B, 0, none⟩), .agg #[.int .i64 f.c.kind, .int .i64 f.c.a, .int .i64 f.c.b, .int .i64 f.c.time, .int .i64 f.c.bk, .int .i64 f.c.slot, .int .i64 f.pl, .int .i64 f.cur, .int .i64 f.prev, .int .i64 f.slot, .int .i64 f.n, .slice aK f.keys.length cK, .bool f.done, .int .i64 f.e], .int .i64 t] w fun e w' => Ret w w' e (endF f f.e) aK cK ∧ Has w' B lo (Up w (Foot B aS aH aF aL)) (adOpenM M f t) ∧ Fine w w' (Foot B aS aH aF aL) := by
  have hns := hM.ns
  have hnh := hM.nh.2
  have hcur := hf.cur.2
  have hc1 : f.cur ≤ 1000 := by omega
  have hn1 : M.slots.length ≤ 1000 := by omega
  have HOk : Hid (Ok M) := hM
  have HR : Hid (KRow w aK cK f.keys) := r
  obtain ⟨b0, b1⟩ := bkOf_in hM hf.call
  obtain ⟨b, hb⟩ : ∃ b : Nat, bkOf M.heads.length f.c = b := ⟨_, (Int.toNat_of_nonneg b0).symm⟩
  have hbl : b < M.heads.length := by omega
  have hbn : bkN M f = b := by unfold bkN; rw [hb]; rfl
  have HBk : Hid (∀ W : World, Lk w W B lo aS aH aF aL cS cH cF cL M f aK cK → Calls Try.prog 31 #[.agg #[.slice aS M.slots.length cS, .slice aH M.heads.length cH, .slice aF M.free.length cF, .slice aL M.locks.length cL, .int .i64 M.now], .agg #[.int .i64 f.c.kind, .int .i64 f.c.a, .int .i64 f.c.b, .int .i64 f.c.time, .int .i64 f.c.bk, .int .i64 f.c.slot]] W fun e w' => e = .returned (.int .i64 (b : Int)) ∧ Lk w w' B lo aS aH aF aL cS cH cF cL M f aK cK) := fun W h => (hb ▸ frBucket_any _ _ _ _ _ _ _ _ cS cH cF cL M.now f.c W (by omega) : Calls Try.prog 31 _ W fun e w' => e = .returned (.int .i64 (b : Int)) ∧ Below W.heap.size W w').mono (fun e w' h' => ⟨h'.1, h.below h'.2⟩)
  have HLk : Hid (∀ W : World, Lk w W B lo aS aH aF aL cS cH cF cL M f aK cK → Calls Try.prog 156 #[.pointer (some ⟨B, 0, none⟩), .int .i64 (b : Int), .int .i64 t] W fun e w' => e = .returned (.tuple #[]) ∧ Lk2 w w' (Foot B aS aH aF aL) B lo (openN M b t) f aK cK) := fun W h => (unlock_fine t ⟨_, _, _, _, _, _, _, _, h.m, fun _ h => h⟩ HOk.out hbl).mono (fun e w' h' => ⟨h'.1, h.after h'.2.1 h'.2.2⟩)
  have hresM : adOpenM M f t = openN M b t := by unfold adOpenM openN; rw [hbn]
  rw [hresM]
  generalize openN M b t = M' at *
  have HZ : Hid (∀ ad, aK = some ad → ¬ (Foot B aS aH aF aL) ad.block) := hz
  obtain ⟨of, hof⟩ : ∃ o : Obj, o = .cells #[.int .i64 f.c.kind, .int .i64 f.c.a, .int .i64 f.c.b, .int .i64 f.c.time, .int .i64 f.c.bk, .int .i64 f.c.slot, .int .i64 f.pl, .int .i64 f.cur, .int .i64 f.prev, .int .i64 f.slot, .int .i64 f.n, .slice aK f.keys.length cK, .bool f.done, .int .i64 f.e] 51 := ⟨_, rfl⟩
  obtain ⟨oz, hoz⟩ : ∃ o : Obj, o = zeroFr := ⟨_, rfl⟩
  have HE : Hid (Lk w ((w.alloc of).alloc oz) B lo aS aH aF aL cS cH cF cL M f aK cK) := Lk.first m f aK cK hof hoz
  obtain ⟨q0, q1, q2, q3, q4, -, -, -, -, -, qs⟩ := boxf HE.out.m.box
  obtain ⟨f0, f1, f2, f3, f4, f5, f6, f7, f8, f9, f10, f11, f12, f13, ff, fs⟩ := framef HE.out.fb
  unfold zeroFr at hoz
  clear m hc1 hn1 hcur hns hnh hM hf r hz hresM hbn hb b0 b1
  go_enter Try.func119, Try.ntmps119
  go_wp2_with fail
  rw [← hof, ← hoz]
  generalize (w.alloc of).alloc oz = W0 at *
  subst hof hoz
  go_region_with (first | (go_at_call 31; refine (HBk.out _ (by exact HE.out.below ⟨rfl, rfl, rfl, Nat.le_refl _, fun _ _ => rfl⟩)).mono ?_; rintro e w1 ⟨rfl, h9⟩; have HE1 : Hid (Lk w w1 B lo aS aH aF aL cS cH cF cL M f aK cK) := h9; clear HE h9) | (go_at_call 156; refine (HLk.out _ (by exact HE1.out.below ⟨rfl, rfl, rfl, Nat.le_refl _, fun _ _ => rfl⟩)).mono ?_; rintro e w2 ⟨rfl, h9⟩; have HE2 : Hid (Lk2 w w2 (Foot B aS aH aF aL) B lo M' f aK cK) := h9; clear HE1 h9))
  all_goals
    clear q0 q1 q2 q3 q4 qs
    clear f0 f1 f2 f3 f4 f5 f6 f7 f8 f9 f10 f11 f12 f13 ff fs
    obtain ⟨f0, f1, f2, f3, f4, f5, f6, f7, f8, f9, f10, f11, f12, f13, ff, fs⟩ := framef HE2.out.fb
    go_wp2_with fail
    refine (endFr_hi f f.e aK cK _ (HR.out.fine HE2.out.fine HZ.out)).mono ?_
    rintro e w9 ⟨a9, c9, rfl, hr9, hi9, hb9⟩
    have HK9 : Hid (KRow w9 a9 c9 f.keys ∧ ∀ ad, a9 = some ad → w.heap.size + 2 ≤ ad.block) := ⟨hr9, fun ad h => Nat.le_trans (lt_of_block HE2.out.zb) (hi9 ad h)⟩
    have HE9 : Hid (Lk2 w w9 (Foot B aS aH aF aL) B lo M' f aK cK) := HE2.out.below hb9
    clear HE2 hb9 hr9 hi9
    clear f0 f1 f2 f3 f4 f5 f6 f7 f8 f9 f10 f11 f12 f13 ff fs
    obtain ⟨g0, g1, g2, g3, g4, g5, g6, g7, g8, g9, g10, g11, g12, g13, gf, gs⟩ := framef HE9.out.zb
    go_wp2
    refine bodyPost_ret (v := .agg #[.int .i64 (endF f f.e).c.kind, .int .i64 (endF f f.e).c.a, .int .i64 (endF f f.e).c.b, .int .i64 (endF f f.e).c.time, .int .i64 (endF f f.e).c.bk, .int .i64 (endF f f.e).c.slot, .int .i64 (endF f f.e).pl, .int .i64 (endF f f.e).cur, .int .i64 (endF f f.e).prev, .int .i64 (endF f f.e).slot, .int .i64 (endF f f.e).n, .slice a9 (endF f f.e).keys.length c9, .bool (endF f f.e).done, .int .i64 (endF f f.e).e]) (by simp [results, Try.results119, go_sem, endF, g0, g1, g2, g3, g4, g5, g6, g7, g8, g9, g10, g11, g12, g13]) rfl ⟨⟨a9, c9, rfl, krow14 HK9.out.1 HK9.out.2, (fun ad h => .inr (by have := HK9.out.2 ad h; omega)), fun h => by cases h⟩, HE9.out.end14⟩

end Go.Proofs.Ytdbilofhcadmoab.mm
