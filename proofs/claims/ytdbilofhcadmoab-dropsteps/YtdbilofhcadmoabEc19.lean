/- The contracts of drop's parts lock and unlock. -/
import Derived.Test.YtdbilofhcadmoabEc13
import Derived.Test.YtdbilofhcadmoabEc15
import Derived.Test.YtdbilofhcadmoabEc12
import Derived.Test.YtdbilofhcadmoabEc04
import Derived.Test.YtdbilofhcadmoabEc06
namespace Go.Proofs.Ytdbilofhcadmoab.mm
open Go.ChangeShapes Go.WideShapes Go.ChangeAt Go.RowKit Go.Joins Go.Deep Go.Sort
set_option maxRecDepth 100000
set_option linter.unusedVariables false

set_option maxHeartbeats 3200000 in
theorem dr_lock (M : Mm) (f : Fr) (t : Int) (B lo : Nat) (aS aH aF aL : Option Addr) (cS cH cF cL : Nat) (aK : Option Addr) (cK : Nat) (w : World)
    (m : Mine w B lo aS aH aF aL cS cH cF cL M) (hM : Ok M) (hf : Fit M f) (r : KRow w aK cK f.keys) (hz : ∀ ad, aK = some ad → ¬ Foot B aS aH aF aL ad.block) :
    Calls Try.prog 129 #[.pointer (some ⟨B, 0, none⟩), .agg #[.int .i64 f.c.kind, .int .i64 f.c.a, .int .i64 f.c.b, .int .i64 f.c.time, .int .i64 f.c.bk, .int .i64 f.c.slot, .int .i64 f.pl, .int .i64 f.cur, .int .i64 f.prev, .int .i64 f.slot, .int .i64 f.n, .slice aK f.keys.length cK, .bool f.done, .int .i64 f.e], .int .i64 t] w fun e w' => Ret w w' e (drLock M f) aK cK ∧ Has w' B lo (Up w (Foot B aS aH aF aL)) (adLockM M f t) ∧ Fine w w' (Foot B aS aH aF aL) := by
  have hns := hM.ns
  have hnh := hM.nh.2
  have hcur := hf.cur.2
  have hc1 : f.cur ≤ 1000 := by omega
  have hn1 : M.slots.length ≤ 1000 := by omega
  have HOk : Hid (Ok M) := hM
  have HR : Hid (KRow w aK cK f.keys) := r
  obtain ⟨b0, b1⟩ := bkOf_in hM hf.call
  obtain ⟨b, hb⟩ : ∃ b : Nat, bkOf M.heads.length f.c = b := ⟨_, (Int.toNat_of_nonneg b0).symm⟩
  have hbl : b < M.heads.length := by omega
  have hbn : bkN M f = b := by unfold bkN; rw [hb]; rfl
  have HBk : Hid (∀ W : World, Lk w W B lo aS aH aF aL cS cH cF cL M f aK cK → Calls Try.prog 31 #[.agg #[.slice aS M.slots.length cS, .slice aH M.heads.length cH, .slice aF M.free.length cF, .slice aL M.locks.length cL, .int .i64 M.now], .agg #[.int .i64 f.c.kind, .int .i64 f.c.a, .int .i64 f.c.b, .int .i64 f.c.time, .int .i64 f.c.bk, .int .i64 f.c.slot]] W fun e w' => e = .returned (.int .i64 (b : Int)) ∧ Lk w w' B lo aS aH aF aL cS cH cF cL M f aK cK) := fun W h => (hb ▸ frBucket_any _ _ _ _ _ _ _ _ cS cH cF cL M.now f.c W (by omega) : Calls Try.prog 31 _ W fun e w' => e = .returned (.int .i64 (b : Int)) ∧ Below W.heap.size W w').mono (fun e w' h' => ⟨h'.1, h.below h'.2⟩)
  have HLk : Hid (∀ W : World, Lk w W B lo aS aH aF aL cS cH cF cL M f aK cK → Calls Try.prog 155 #[.pointer (some ⟨B, 0, none⟩), .int .i64 (b : Int), .int .i64 t] W fun e w' => e = .returned (.bool (lockAt M b == -1)) ∧ Lk2 w w' (Foot B aS aH aF aL) B lo (lockN M b t) f aK cK) := fun W h => (lock_fine t ⟨_, _, _, _, _, _, _, _, h.m, fun _ h => h⟩ HOk.out hbl).mono (fun e w' h' => ⟨h'.1, h.after h'.2.1 h'.2.2⟩)
  have hres : drLock M f = if lockAt M b = -1 then toF f 1 else f := by unfold drLock; rw [hbn]
  have hresM : adLockM M f t = lockN M b t := by unfold adLockM lockN; rw [hbn]
  rw [hres, hresM]
  generalize lockN M b t = M' at *
  cases hl : (lockAt M b == -1)
  · rw [if_neg (by simpa using hl)]
    rw [hl] at HLk
    have HZ : Hid (∀ ad, aK = some ad → ¬ (Foot B aS aH aF aL) ad.block) := hz
    obtain ⟨of, hof⟩ : ∃ o : Obj, o = .cells #[.int .i64 f.c.kind, .int .i64 f.c.a, .int .i64 f.c.b, .int .i64 f.c.time, .int .i64 f.c.bk, .int .i64 f.c.slot, .int .i64 f.pl, .int .i64 f.cur, .int .i64 f.prev, .int .i64 f.slot, .int .i64 f.n, .slice aK f.keys.length cK, .bool f.done, .int .i64 f.e] 51 := ⟨_, rfl⟩
    obtain ⟨oz, hoz⟩ : ∃ o : Obj, o = zeroFr := ⟨_, rfl⟩
    have HE : Hid (Lk w ((w.alloc of).alloc oz) B lo aS aH aF aL cS cH cF cL M f aK cK) := Lk.first m f aK cK hof hoz
    obtain ⟨q0, q1, q2, q3, q4, -, -, -, -, -, qs⟩ := boxf HE.out.m.box
    obtain ⟨f0, f1, f2, f3, f4, f5, f6, f7, f8, f9, f10, f11, f12, f13, ff, fs⟩ := framef HE.out.fb
    unfold zeroFr at hoz
    clear m hc1 hn1 hcur hns hnh hM hf r hz hl hres hresM hbn hb b0 b1
    go_enter Try.func129, Try.ntmps129
    go_wp2_with fail
    rw [← hof, ← hoz]
    generalize (w.alloc of).alloc oz = W0 at *
    subst hof hoz
    go_region_with (first | (go_at_call 31; refine (HBk.out _ (by exact HE.out.below ⟨rfl, rfl, rfl, Nat.le_refl _, fun _ _ => rfl⟩)).mono ?_; rintro e w1 ⟨rfl, h9⟩; have HE1 : Hid (Lk w w1 B lo aS aH aF aL cS cH cF cL M f aK cK) := h9; clear HE h9) | (go_at_call 155; refine (HLk.out _ (by exact HE1.out.below ⟨rfl, rfl, rfl, Nat.le_refl _, fun _ _ => rfl⟩)).mono ?_; rintro e w2 ⟨rfl, h9⟩; have HE2 : Hid (Lk2 w w2 (Foot B aS aH aF aL) B lo M' f aK cK) := h9; clear HE1 h9))
    all_goals
      clear q0 q1 q2 q3 q4 qs
      clear f0 f1 f2 f3 f4 f5 f6 f7 f8 f9 f10 f11 f12 f13 ff fs
      obtain ⟨f0, f1, f2, f3, f4, f5, f6, f7, f8, f9, f10, f11, f12, f13, ff, fs⟩ := framef HE2.out.fb
      obtain ⟨g0, g1, g2, g3, g4, g5, g6, g7, g8, g9, g10, g11, g12, g13, gf, gs⟩ := framef HE2.out.zb
      go_wp2
      refine bodyPost_ret (v := .agg #[.int .i64 f.c.kind, .int .i64 f.c.a, .int .i64 f.c.b, .int .i64 f.c.time, .int .i64 f.c.bk, .int .i64 f.c.slot, .int .i64 f.pl, .int .i64 f.cur, .int .i64 f.prev, .int .i64 f.slot, .int .i64 f.n, .slice aK f.keys.length cK, .bool f.done, .int .i64 f.e]) (by simp [results, Try.results129, go_sem, g0, g1, g2, g3, g4, g5, g6, g7, g8, g9, g10, g11, g12, g13]) rfl ⟨⟨aK, cK, rfl, HR.out.fine HE2.out.end14.2 HZ.out, (fun ad h => .inl h), fun _ => ⟨rfl, rfl⟩⟩, HE2.out.end14⟩
  · rw [if_pos (by simpa using hl)]
    rw [hl] at HLk
    have HZ : Hid (∀ ad, aK = some ad → ¬ (Foot B aS aH aF aL) ad.block) := hz
    obtain ⟨of, hof⟩ : ∃ o : Obj, o = .cells #[.int .i64 f.c.kind, .int .i64 f.c.a, .int .i64 f.c.b, .int .i64 f.c.time, .int .i64 f.c.bk, .int .i64 f.c.slot, .int .i64 f.pl, .int .i64 f.cur, .int .i64 f.prev, .int .i64 f.slot, .int .i64 f.n, .slice aK f.keys.length cK, .bool f.done, .int .i64 f.e] 51 := ⟨_, rfl⟩
    obtain ⟨oz, hoz⟩ : ∃ o : Obj, o = zeroFr := ⟨_, rfl⟩
    have HE : Hid (Lk w ((w.alloc of).alloc oz) B lo aS aH aF aL cS cH cF cL M f aK cK) := Lk.first m f aK cK hof hoz
    obtain ⟨q0, q1, q2, q3, q4, -, -, -, -, -, qs⟩ := boxf HE.out.m.box
    obtain ⟨f0, f1, f2, f3, f4, f5, f6, f7, f8, f9, f10, f11, f12, f13, ff, fs⟩ := framef HE.out.fb
    unfold zeroFr at hoz
    clear m hc1 hn1 hcur hns hnh hM hf r hz hl hres hresM hbn hb b0 b1
    go_enter Try.func129, Try.ntmps129
    go_wp2_with fail
    rw [← hof, ← hoz]
    generalize (w.alloc of).alloc oz = W0 at *
    subst hof hoz
    go_region_with (first | (go_at_call 31; refine (HBk.out _ (by exact HE.out.below ⟨rfl, rfl, rfl, Nat.le_refl _, fun _ _ => rfl⟩)).mono ?_; rintro e w1 ⟨rfl, h9⟩; have HE1 : Hid (Lk w w1 B lo aS aH aF aL cS cH cF cL M f aK cK) := h9; clear HE h9) | (go_at_call 155; refine (HLk.out _ (by exact HE1.out.below ⟨rfl, rfl, rfl, Nat.le_refl _, fun _ _ => rfl⟩)).mono ?_; rintro e w2 ⟨rfl, h9⟩; have HE2 : Hid (Lk2 w w2 (Foot B aS aH aF aL) B lo M' f aK cK) := h9; clear HE1 h9))
    all_goals
      clear q0 q1 q2 q3 q4 qs
      clear f0 f1 f2 f3 f4 f5 f6 f7 f8 f9 f10 f11 f12 f13 ff fs
      obtain ⟨f0, f1, f2, f3, f4, f5, f6, f7, f8, f9, f10, f11, f12, f13, ff, fs⟩ := framef HE2.out.fb
      go_wp2_with fail
      refine (to_any f 1 aK cK _).mono ?_
      rintro e w9 ⟨rfl, hb9⟩
      have HE9 : Hid (Lk2 w w9 (Foot B aS aH aF aL) B lo M' f aK cK) := HE2.out.below hb9
      clear HE2 hb9
      clear f0 f1 f2 f3 f4 f5 f6 f7 f8 f9 f10 f11 f12 f13 ff fs
      obtain ⟨g0, g1, g2, g3, g4, g5, g6, g7, g8, g9, g10, g11, g12, g13, gf, gs⟩ := framef HE9.out.zb
      go_wp2
      refine bodyPost_ret (v := .agg #[.int .i64 (toF f 1).c.kind, .int .i64 (toF f 1).c.a, .int .i64 (toF f 1).c.b, .int .i64 (toF f 1).c.time, .int .i64 (toF f 1).c.bk, .int .i64 (toF f 1).c.slot, .int .i64 (toF f 1).pl, .int .i64 (toF f 1).cur, .int .i64 (toF f 1).prev, .int .i64 (toF f 1).slot, .int .i64 (toF f 1).n, .slice aK (toF f 1).keys.length cK, .bool (toF f 1).done, .int .i64 (toF f 1).e]) (by simp [results, Try.results129, go_sem, toF, g0, g1, g2, g3, g4, g5, g6, g7, g8, g9, g10, g11, g12, g13]) rfl ⟨⟨aK, cK, rfl, HR.out.fine HE9.out.end14.2 HZ.out, (fun ad h => .inl h), fun _ => ⟨rfl, rfl⟩⟩, HE9.out.end14⟩

set_option maxHeartbeats 3200000 in
theorem dr_unlock (M : Mm) (f : Fr) (t : Int) (B lo : Nat) (aS aH aF aL : Option Addr) (cS cH cF cL : Nat) (aK : Option Addr) (cK : Nat) (w : World)
    (m : Mine w B lo aS aH aF aL cS cH cF cL M) (hM : Ok M) (hf : Fit M f) (r : KRow w aK cK f.keys) (hz : ∀ ad, aK = some ad → ¬ Foot B aS aH aF aL ad.block) :
    Calls Try.prog 134 #[.pointer (some ⟨B, 0, none⟩), .agg #[.int .i64 f.c.kind, .int .i64 f.c.a, .int .i64 f.c.b, .int .i64 f.c.time, .int .i64 f.c.bk, .int .i64 f.c.slot, .int .i64 f.pl, .int .i64 f.cur, .int .i64 f.prev, .int .i64 f.slot, .int .i64 f.n, .slice aK f.keys.length cK, .bool f.done, .int .i64 f.e], .int .i64 t] w fun e w' => Ret w w' e (toF f 6) aK cK ∧ Has w' B lo (Up w (Foot B aS aH aF aL)) (adOpenM M f t) ∧ Fine w w' (Foot B aS aH aF aL) := by
  have hns := hM.ns
  have hnh := hM.nh.2
  have hcur := hf.cur.2
  have hc1 : f.cur ≤ 1000 := by omega
  have hn1 : M.slots.length ≤ 1000 := by omega
  have HOk : Hid (Ok M) := hM
  have HR : Hid (KRow w aK cK f.keys) := r
  obtain ⟨b0, b1⟩ := bkOf_in hM hf.call
  obtain ⟨b, hb⟩ : ∃ b : Nat, bkOf M.heads.length f.c = b := ⟨_, (Int.toNat_of_nonneg b0).symm⟩
  have hbl : b < M.heads.length := by omega
  have hbn : bkN M f = b := by unfold bkN; rw [hb]; rfl
  have HBk : Hid (∀ W : World, Lk w W B lo aS aH aF aL cS cH cF cL M f aK cK → Calls Try.prog 31 #[.agg #[.slice aS M.slots.length cS, .slice aH M.heads.length cH, .slice aF M.free.length cF, .slice aL M.locks.length cL, .int .i64 M.now], .agg #[.int .i64 f.c.kind, .int .i64 f.c.a, .int .i64 f.c.b, .int .i64 f.c.time, .int .i64 f.c.bk, .int .i64 f.c.slot]] W fun e w' => e = .returned (.int .i64 (b : Int)) ∧ Lk w w' B lo aS aH aF aL cS cH cF cL M f aK cK) := fun W h => (hb ▸ frBucket_any _ _ _ _ _ _ _ _ cS cH cF cL M.now f.c W (by omega) : Calls Try.prog 31 _ W fun e w' => e = .returned (.int .i64 (b : Int)) ∧ Below W.heap.size W w').mono (fun e w' h' => ⟨h'.1, h.below h'.2⟩)
  have HLk : Hid (∀ W : World, Lk w W B lo aS aH aF aL cS cH cF cL M f aK cK → Calls Try.prog 156 #[.pointer (some ⟨B, 0, none⟩), .int .i64 (b : Int), .int .i64 t] W fun e w' => e = .returned (.tuple #[]) ∧ Lk2 w w' (Foot B aS aH aF aL) B lo (openN M b t) f aK cK) := fun W h => (unlock_fine t ⟨_, _, _, _, _, _, _, _, h.m, fun _ h => h⟩ HOk.out hbl).mono (fun e w' h' => ⟨h'.1, h.after h'.2.1 h'.2.2⟩)
  have hresM : adOpenM M f t = openN M b t := by unfold adOpenM openN; rw [hbn]
  rw [hresM]
  generalize openN M b t = M' at *
  have HZ : Hid (∀ ad, aK = some ad → ¬ (Foot B aS aH aF aL) ad.block) := hz
  obtain ⟨of, hof⟩ : ∃ o : Obj, o = .cells #[.int .i64 f.c.kind, .int .i64 f.c.a, .int .i64 f.c.b, .int .i64 f.c.time, .int .i64 f.c.bk, .int .i64 f.c.slot, .int .i64 f.pl, .int .i64 f.cur, .int .i64 f.prev, .int .i64 f.slot, .int .i64 f.n, .slice aK f.keys.length cK, .bool f.done, .int .i64 f.e] 51 := ⟨_, rfl⟩
  obtain ⟨oz, hoz⟩ : ∃ o : Obj, o = zeroFr := ⟨_, rfl⟩
  have HE : Hid (Lk w ((w.alloc of).alloc oz) B lo aS aH aF aL cS cH cF cL M f aK cK) := Lk.first m f aK cK hof hoz
  obtain ⟨q0, q1, q2, q3, q4, -, -, -, -, -, qs⟩ := boxf HE.out.m.box
  obtain ⟨f0, f1, f2, f3, f4, f5, f6, f7, f8, f9, f10, f11, f12, f13, ff, fs⟩ := framef HE.out.fb
  unfold zeroFr at hoz
  clear m hc1 hn1 hcur hns hnh hM hf r hz hresM hbn hb b0 b1
  go_enter Try.func134, Try.ntmps134
  go_wp2_with fail
  rw [← hof, ← hoz]
  generalize (w.alloc of).alloc oz = W0 at *
  subst hof hoz
  go_region_with (first | (go_at_call 31; refine (HBk.out _ (by exact HE.out.below ⟨rfl, rfl, rfl, Nat.le_refl _, fun _ _ => rfl⟩)).mono ?_; rintro e w1 ⟨rfl, h9⟩; have HE1 : Hid (Lk w w1 B lo aS aH aF aL cS cH cF cL M f aK cK) := h9; clear HE h9) | (go_at_call 156; refine (HLk.out _ (by exact HE1.out.below ⟨rfl, rfl, rfl, Nat.le_refl _, fun _ _ => rfl⟩)).mono ?_; rintro e w2 ⟨rfl, h9⟩; have HE2 : Hid (Lk2 w w2 (Foot B aS aH aF aL) B lo M' f aK cK) := h9; clear HE1 h9))
  all_goals
    clear q0 q1 q2 q3 q4 qs
    clear f0 f1 f2 f3 f4 f5 f6 f7 f8 f9 f10 f11 f12 f13 ff fs
    obtain ⟨f0, f1, f2, f3, f4, f5, f6, f7, f8, f9, f10, f11, f12, f13, ff, fs⟩ := framef HE2.out.fb
    go_wp2_with fail
    refine (to_any f 6 aK cK _).mono ?_
    rintro e w9 ⟨rfl, hb9⟩
    have HE9 : Hid (Lk2 w w9 (Foot B aS aH aF aL) B lo M' f aK cK) := HE2.out.below hb9
    clear HE2 hb9
    clear f0 f1 f2 f3 f4 f5 f6 f7 f8 f9 f10 f11 f12 f13 ff fs
    obtain ⟨g0, g1, g2, g3, g4, g5, g6, g7, g8, g9, g10, g11, g12, g13, gf, gs⟩ := framef HE9.out.zb
    go_wp2
    refine bodyPost_ret (v := .agg #[.int .i64 (toF f 6).c.kind, .int .i64 (toF f 6).c.a, .int .i64 (toF f 6).c.b, .int .i64 (toF f 6).c.time, .int .i64 (toF f 6).c.bk, .int .i64 (toF f 6).c.slot, .int .i64 (toF f 6).pl, .int .i64 (toF f 6).cur, .int .i64 (toF f 6).prev, .int .i64 (toF f 6).slot, .int .i64 (toF f 6).n, .slice aK (toF f 6).keys.length cK, .bool (toF f 6).done, .int .i64 (toF f 6).e]) (by simp [results, Try.results134, go_sem, toF, g0, g1, g2, g3, g4, g5, g6, g7, g8, g9, g10, g11, g12, g13]) rfl ⟨⟨aK, cK, rfl, HR.out.fine HE9.out.end14.2 HZ.out, (fun ad h => .inl h), fun _ => ⟨rfl, rfl⟩⟩, HE9.out.end14⟩

end Go.Proofs.Ytdbilofhcadmoab.mm

/- The contracts of cut, on memory of one's own, and of aheadOf. -/
namespace Go.Proofs.Ytdbilofhcadmoab.mm
open Go.ChangeShapes Go.WideShapes Go.ChangeAt Go.RowKit Go.Joins Go.Maps
set_option maxRecDepth 100000
set_option linter.unusedVariables false

set_option maxHeartbeats 800000 in
theorem cut_begin (w : World) (B gS gH nS nH j b cS cH : Nat) (fv lv nv : Value) (x nx ah : Int)
    (hB : w.heap[B]? = some (.cells #[.slice (some ⟨gS, 0, none⟩) nS cS, .slice (some ⟨gH, 0, none⟩) nH cH, fv, lv, nv] 25 (0, 0))) (hj : j < nS) (hb : b < nH) (hn : nS ≤ 12) (hh : nH ≤ 4) (ha : ah ≤ 0)
    (c5 : w.cell? ⟨gS, j * 6 + 5, none⟩ = some (.int .i64 nx)) (ch : w.cell? ⟨gH, b, none⟩ = some (.int .i64 x)) (fh : w.frozen? ⟨gH, b, none⟩ = false) :
    Calls Try.prog 141 #[.pointer (some ⟨B, 0, none⟩), .int .i64 b, .int .i64 ah, .int .i64 j] w fun e w' => e = .returned (.tuple #[]) ∧ w' = w.setCell ⟨gH, b, none⟩ (.int .i64 nx) := by
  obtain ⟨q0, q1, q2, q3, q4, -, -, -, -, -, qs⟩ := boxf hB
  clear hB
  go_enter Try.func141, Try.ntmps141
  go_wp2_with (go_at_call 144; refine (slotOf_no _ _ ha).mono ?_; rintro e w1 ⟨rfl, rfl⟩)
  go_end0
  exact ⟨rfl, rfl⟩

set_option maxHeartbeats 800000 in
theorem cut_mid (w : World) (B gS gH nS nH j b p cS cH : Nat) (fv lv nv : Value) (x nx px : Int)
    (hB : w.heap[B]? = some (.cells #[.slice (some ⟨gS, 0, none⟩) nS cS, .slice (some ⟨gH, 0, none⟩) nH cH, fv, lv, nv] 25 (0, 0))) (hj : j < nS) (hb : b < nH) (hn : nS ≤ 12) (hh : nH ≤ 4) (hp : p < nS)
    (c5 : w.cell? ⟨gS, j * 6 + 5, none⟩ = some (.int .i64 nx)) (d5 : w.cell? ⟨gS, p * 6 + 5, none⟩ = some (.int .i64 px)) (fz : w.frozen? ⟨gS, p * 6 + 5, none⟩ = false) (ch : w.cell? ⟨gH, b, none⟩ = some (.int .i64 x)) :
    Calls Try.prog 141 #[.pointer (some ⟨B, 0, none⟩), .int .i64 b, .int .i64 ((p : Int) + 1), .int .i64 j] w fun e w' => e = .returned (.tuple #[]) ∧ w' = w.setCell ⟨gS, p * 6 + 5, none⟩ (.int .i64 nx) := by
  obtain ⟨q0, q1, q2, q3, q4, -, -, -, -, -, qs⟩ := boxf hB
  clear hB
  go_enter Try.func141, Try.ntmps141
  go_wp2_with (go_at_call 144; refine (slotOf_is _ _ (by omega) (by omega)).mono ?_; rw [show (p : Int) + 1 - 1 = p by omega]; rintro e w1 ⟨rfl, rfl⟩)
  go_end0
  exact ⟨rfl, rfl⟩

theorem cut_now (M : Mm) (w : World) (B lo : Nat) (aS aH aF aL : Option Addr) (cS cH cF cL j b : Nat) (ah : Int) (m : Mine w B lo aS aH aF aL cS cH cF cL M) (hok : Ok M) (hj : j < M.slots.length) (hb : b < M.heads.length) (hah : ah ≤ M.slots.length) :
    Calls Try.prog 141 #[.pointer (some ⟨B, 0, none⟩), .int .i64 b, .int .i64 ah, .int .i64 j] w fun e w' => e = .returned (.tuple #[]) ∧ Now w w' B lo (cutM M b ah j) := by
  obtain ⟨gS, rfl, oS, lS, -, -⟩ := row_form m.c.s (by omega)
  obtain ⟨gH, rfl, oH, lH, -, -⟩ := row_form m.c.h (by omega)
  obtain ⟨c0, c1, c2, c3, c4, c5, fz⟩ := row_cells m.c.s hj
  obtain ⟨ch, fh⟩ := row_cell m.c.h hb
  have hs : slotAt M j = M.slots[j] := slotAt_lt hj
  by_cases ha : 0 < ah
  · obtain ⟨p, rfl⟩ : ∃ p : Nat, ah = (p : Int) + 1 := ⟨(ah - 1).toNat, by omega⟩
    have hp : p < M.slots.length := by omega
    obtain ⟨_, _, _, _, _, d5, _⟩ := row_cells m.c.s hp
    refine (cut_mid w B gS gH _ _ j b p cS cH _ _ _ _ _ _ m.box hj hb hok.ns hok.nh.2 hp c5 d5 (fz _) ch).mono ?_
    rintro e w' ⟨rfl, rfl⟩
    unfold cutM
    rw [if_pos ha, hs, show (p : Int) + 1 - 1 = p by omega, show slotAt M p = M.slots[p] from slotAt_lt hp, Int.toNat_natCast]
    exact ⟨rfl, _, _, _, _, _, _, _, _, m.setS _ _ _ (encS_set5 M.slots p hp _), (Kept.refl w B lo).setCell oS _⟩
  · refine (cut_begin w B gS gH _ _ j b cS cH _ _ _ _ _ _ m.box hj hb hok.ns hok.nh.2 (by omega) c5 ch fh).mono ?_
    rintro e w' ⟨rfl, rfl⟩
    unfold cutM
    rw [if_neg ha, hs]
    exact ⟨rfl, _, _, _, _, _, _, _, _, m.setH b _, (Kept.refl w B lo).setCell oH _⟩
theorem cut_any (M : Mm) (w : World) (B lo : Nat) (aS aH aF aL : Option Addr) (cS cH cF cL j b : Nat) (ah : Int) (m : Mine w B lo aS aH aF aL cS cH cF cL M) (hok : Ok M) (hj : j < M.slots.length) (hb : b < M.heads.length) (hah : ah ≤ M.slots.length) :
    Calls Try.prog 141 #[.pointer (some ⟨B, 0, none⟩), .int .i64 b, .int .i64 ah, .int .i64 j] w fun e w' => e = .returned (.tuple #[]) ∧ Done w w' B lo (cutM M b ah j) := by
  refine (cut_now M w B lo aS aH aF aL cS cH cF cL j b ah m hok hj hb hah).mono ?_
  rintro e w' ⟨rfl, h⟩
  exact ⟨rfl, h.done⟩

/- What is ahead: three variables that a function literal has caught. -/
structure Ahd (w0 : World) (P1 P2 P3 Y : Nat) (ob : Array Value) (W : World) (a la ah : Int) : Prop where
  p1 : W.heap[P1]? = some (.cells #[.int .i64 a] 3 (0, 0))
  p2 : W.heap[P2]? = some (.cells #[.int .i64 la] 3 (0, 0))
  p3 : W.heap[P3]? = some (.cells #[.int .i64 ah] 3 (0, 0))
  box : W.heap[Y]? = some (.cells ob 25 (0, 0))
  below : Below P1 w0 W

theorem Ahd.turn {w0 W : World} {P1 P2 P3 Y : Nat} {ob : Array Value} {a la ah la' : Int} (A : Ahd w0 P1 P2 P3 Y ob W a la ah) (d1 : P1 < P3) (d2 : P3 < P2) (d3 : P2 < Y) :
    Ahd w0 P1 P2 P3 Y ob (W.setCell ⟨P2, 0, none⟩ (.int .i64 la')) a la' ah := by
  refine ⟨(Below.heap_setCell _ _ _ _ (by dsimp only; omega)).trans A.p1, ?_, (Below.heap_setCell _ _ _ _ (by dsimp only; omega)).trans A.p3, (Below.heap_setCell _ _ _ _ (by dsimp only; omega)).trans A.box, A.below.setCell (by dsimp only; omega) _⟩
  have := block_setCell (i := 0) A.p2 (.int .i64 la')
  rw [this]; rfl
theorem Ahd.turn3 {w0 W : World} {P1 P2 P3 Y : Nat} {ob : Array Value} {a la ah ah' : Int} (A : Ahd w0 P1 P2 P3 Y ob W a la ah) (d1 : P1 < P3) (d2 : P3 < P2) (d3 : P2 < Y) :
    Ahd w0 P1 P2 P3 Y ob (W.setCell ⟨P3, 0, none⟩ (.int .i64 ah')) a la ah' := by
  refine ⟨(Below.heap_setCell _ _ _ _ (by dsimp only; omega)).trans A.p1, (Below.heap_setCell _ _ _ _ (by dsimp only; omega)).trans A.p2, ?_, (Below.heap_setCell _ _ _ _ (by dsimp only; omega)).trans A.box, A.below.setCell (by dsimp only; omega) _⟩
  have := block_setCell (i := 0) A.p3 (.int .i64 ah')
  rw [this]; rfl

theorem aheadF_snoc (a c : Int) : ∀ (l : List Int) (ah la : Int), aheadF a (l ++ [c]) ah la = if c == a then (match l.getLast? with | none => la | some p => p + 1) else aheadF a l ah la
  | [], ah, la => by simp [aheadF]
  | x :: l, ah, la => by
    simp only [List.cons_append, aheadF]
    rw [aheadF_snoc a c l]
    split
    · cases l with
      | nil => rfl
      | cons d l => simp [List.getLast?_cons]
    · rfl

theorem fn90 : ∀ args W, (callFunc 160 args).run Try.prog W = .ok (.enter 160 args) W := fun _ _ => by kernel_rfl

set_option maxHeartbeats 800000 in
theorem app90 (w0 W : World) (P1 P2 P3 Y : Nat) (ob : Array Value) (a : Int) (l : List Int) (j : Nat) (A : Ahd w0 P1 P2 P3 Y ob W a (lastN l) (aheadF a l 0 0)) (d1 : P1 < P3) (d2 : P3 < P2) (d3 : P2 < Y) (hj : j ≤ 12) :
    Calls Try.prog 160 #[.int .i64 j, .pointer (some ⟨P1, 0, none⟩), .pointer (some ⟨P2, 0, none⟩), .pointer (some ⟨P3, 0, none⟩)] W fun e W' => e = .returned (.tuple #[]) ∧ Ahd w0 P1 P2 P3 Y ob W' a (lastN (l ++ [(j : Int)])) (aheadF a (l ++ [(j : Int)]) 0 0) := by
  rw [lastN_snoc, aheadF_snoc]
  obtain ⟨c1, -, -⟩ := var_cell A.p1
  obtain ⟨c2, f2, z2⟩ := var_cell A.p2
  obtain ⟨c3, f3, z3⟩ := var_cell A.p3
  have HA : Hid _ := A
  clear A
  by_cases e : (j : Int) = a
  · rw [if_pos (by simpa using e)]
    have he : ((j : Int) == a) = true := by simpa using e
    have HE : Hid _ := (HA.out.turn3 (ah' := lastN l) d1 d2 d3).turn (la' := (j : Int) + 1) d1 d2 d3
    have HL : Hid ((match l.getLast? with | none => (0 : Int) | some p => p + 1) = lastN l) := rfl
    rw [HL.out]
    clear HA e HL
    generalize lastN l = ll at *
    go_enter Try.func160, Try.ntmps160
    go_wp2_with (go_at_call 148; refine (toSlot_any _ _ (by omega) (by omega)).mono ?_; rintro e w1 ⟨rfl, rfl⟩)
    go_end0
    exact ⟨rfl, HE.out⟩
  · rw [if_neg (by simpa using e)]
    have he : ((j : Int) == a) = false := by simpa using e
    have HE : Hid _ := HA.out.turn (la' := (j : Int) + 1) d1 d2 d3
    clear HA e
    go_enter Try.func160, Try.ntmps160
    go_wp2_with (go_at_call 148; refine (toSlot_any _ _ (by omega) (by omega)).mono ?_; rintro e w1 ⟨rfl, rfl⟩)
    go_end0
    exact ⟨rfl, HE.out⟩

set_option maxHeartbeats 1600000 in
theorem aheadOf_any (M : Mm) (aS aH aF aL : Option Addr) (cS cH cF cL b : Nat) (a : Int) (w : World) (A : At w aS aH aF aL cS cH cF cL M) (hok : Ok M) (hb : b < M.heads.length) :
    Calls Try.prog 142 #[.agg #[.slice aS M.slots.length cS, .slice aH M.heads.length cH, .slice aF M.free.length cF, .slice aL M.locks.length cL, .int .i64 M.now], .int .i64 b, .int .i64 a] w fun e w' => e = .returned (.int .i64 (aheadF a (chL M b) 0 0)) ∧ Below w.heap.size w w' := by
  obtain ⟨E0, hE0⟩ : ∃ E0, E0 = aheadF a (chL M b) 0 0 := ⟨_, rfl⟩
  rw [← hE0]
  have HE0 : Hid (E0 = aheadF a (chL M b) 0 0) := hE0
  clear hE0
  have n0 := hok.ns
  have hmf : ∀ (fn : Fn) (first cap : Array Value) (w : World), (Instr.makeFunc fn first cap).run Try.prog w = .ok (.func fn first cap) w := fun _ _ _ _ => rfl
  obtain ⟨o1, ho1⟩ : ∃ o : Obj, o = .cells #[.slice aS M.slots.length cS, .slice aH M.heads.length cH, .slice aF M.free.length cF, .slice aL M.locks.length cL, .int .i64 M.now] 25 := ⟨_, rfl⟩
  obtain ⟨o2, ho2⟩ : ∃ o : Obj, o = .cells #[.int .i64 a] 3 := ⟨_, rfl⟩
  obtain ⟨o3, ho3⟩ : ∃ o : Obj, o = .cells #[.int .i64 0] 3 := ⟨_, rfl⟩
  have b0 : Below w.heap.size w ((((w.alloc o1).alloc o2).alloc o3).alloc o3) := ((below_alloc2 w o1 o2).alloc (by simp; omega) o3).alloc (by simp; omega) o3
  have hP1 : ((((w.alloc o1).alloc o2).alloc o3).alloc o3).heap[w.heap.size + 1]? = some o2 := by
    rw [Below.heap_alloc _ _ _ (by simp), Below.heap_alloc _ _ _ (by simp)]
    have := heap_alloc_new (w.alloc o1) o2
    rwa [show (w.alloc o1).heap.size = w.heap.size + 1 by simp] at this
  have hP3 : ((((w.alloc o1).alloc o2).alloc o3).alloc o3).heap[w.heap.size + 2]? = some o3 := by
    rw [Below.heap_alloc _ _ _ (by simp)]
    have := heap_alloc_new ((w.alloc o1).alloc o2) o3
    rwa [show ((w.alloc o1).alloc o2).heap.size = w.heap.size + 2 by simp] at this
  have hP2 : ((((w.alloc o1).alloc o2).alloc o3).alloc o3).heap[w.heap.size + 3]? = some o3 := by
    have := heap_alloc_new (((w.alloc o1).alloc o2).alloc o3) o3
    rwa [show (((w.alloc o1).alloc o2).alloc o3).heap.size = w.heap.size + 3 by simp] at this
  have hZ : ((((w.alloc o1).alloc o2).alloc o3).alloc o3).heap.size = w.heap.size + 4 := by simp
  have HP1 : Hid _ := hP1
  have HP2 : Hid _ := hP2
  have HP3 : Hid _ := hP3
  have HZ : Hid _ := hZ
  clear hP1 hP2 hP3 hZ
  have HA : Hid (At w aS aH aF aL cS cH cF cL M) := A
  clear A
  go_enter Try.func142, Try.ntmps142
  go_wp2_with fail
  rw [← ho1, ← ho2, ← ho3]
  generalize (((w.alloc o1).alloc o2).alloc o3).alloc o3 = W0 at *
  subst ho1 ho2 ho3
  have z := HZ.out
  have hst : Ahd W0 (w.heap.size + 1) (w.heap.size + 3) (w.heap.size + 2) W0.heap.size #[.slice aS M.slots.length cS, .slice aH M.heads.length cH, .slice aF M.free.length cF, .slice aL M.locks.length cL, .int .i64 M.now] (W0.alloc (.cells #[.slice aS M.slots.length cS, .slice aH M.heads.length cH, .slice aF M.free.length cF, .slice aL M.locks.length cL, .int .i64 M.now] 25)) a (lastN []) (aheadF a [] 0 0) :=
    ⟨(Below.heap_alloc _ _ _ (by omega)).trans HP1.out, (Below.heap_alloc _ _ _ (by omega)).trans HP2.out, (Below.heap_alloc _ _ _ (by omega)).trans HP3.out, heap_alloc_new _ _, (Below.refl _ _).alloc (by omega) _⟩
  refine (walk_any 160 #[.pointer (some ⟨w.heap.size + 1, 0, none⟩), .pointer (some ⟨w.heap.size + 3, 0, none⟩), .pointer (some ⟨w.heap.size + 2, 0, none⟩)] M aS aH aF aL cS cH cF cL b W0 hok hb fn90 (fun l W => Ahd W0 (w.heap.size + 1) (w.heap.size + 3) (w.heap.size + 2) W0.heap.size #[.slice aS M.slots.length cS, .slice aH M.heads.length cH, .slice aF M.free.length cF, .slice aL M.locks.length cL, .int .i64 M.now] W a (lastN l) (aheadF a l 0 0)) hst (fun l W h => h.box) (fun l W h => HA.out.below (b0.trans (h.below.mono (by omega)))) ?_).mono ?_
  · intro l j W hL ha hl
    exact app90 _ _ _ _ _ _ _ _ _ j hL (by omega) (by omega) (by omega) (by omega)
  rintro e w1 ⟨rfl, hL1⟩
  have b1 : Below w.heap.size w w1 := b0.trans (hL1.below.mono (by omega))
  obtain ⟨c3, -, z3⟩ := var_cell hL1.p3
  rw [← HE0.out] at c3
  clear hL1 hst HP1 HP2 HP3 b0
  go_wp2
  go_ret
  exact ⟨rfl, b1⟩





end Go.Proofs.Ytdbilofhcadmoab.mm

/- A slot of memory of one's own is cut out of its chain, and what that leaves. -/
namespace Go.Proofs.Ytdbilofhcadmoab.mm
open Go.ChangeShapes Go.WideShapes Go.ChangeAt Go.RowKit Go.Joins
set_option maxRecDepth 100000
set_option linter.unusedVariables false

theorem cut_fine {M : Mm} {w : World} {B lo : Nat} {Z : Nat → Prop} {j b : Nat} {ah : Int} (H : Has w B lo Z M) (hM : Ok M) (hj : j < M.slots.length) (hb : b < M.heads.length) (hah : ah ≤ M.slots.length) :
    Calls Try.prog 141 #[.pointer (some ⟨B, 0, none⟩), .int .i64 b, .int .i64 ah, .int .i64 j] w fun e w' => e = .returned (.tuple #[]) ∧ Has w' B lo (Up w Z) (cutM M b ah j) ∧ Fine w w' Z := by
  obtain ⟨aS, aH, aF, aL, cS, cH, cF, cL, m, hf⟩ := H
  obtain ⟨gS, rfl, oS, lS, -, -⟩ := row_form m.c.s (by omega)
  obtain ⟨gH, rfl, oH, lH, -, -⟩ := row_form m.c.h (by omega)
  obtain ⟨c0, c1, c2, c3, c4, c5, fz⟩ := row_cells m.c.s hj
  obtain ⟨ch, fh⟩ := row_cell m.c.h hb
  have zS : Z gS ∨ w.heap.size ≤ gS := .inl (hf gS (.inr (.inl ⟨_, rfl, rfl⟩)))
  have zH : Z gH ∨ w.heap.size ≤ gH := .inl (hf gH (.inr (.inr (.inl ⟨_, rfl, rfl⟩))))
  have hs : slotAt M j = M.slots[j] := slotAt_lt hj
  by_cases ha : 0 < ah
  · obtain ⟨p, rfl⟩ : ∃ p : Nat, ah = (p : Int) + 1 := ⟨(ah - 1).toNat, by omega⟩
    have hp : p < M.slots.length := by omega
    obtain ⟨_, _, _, _, _, d5, _⟩ := row_cells m.c.s hp
    refine (cut_mid w B gS gH _ _ j b p cS cH _ _ _ _ _ _ m.box hj hb hM.ns hM.nh.2 hp c5 d5 (fz _) ch).mono ?_
    rintro e w' ⟨rfl, rfl⟩
    unfold cutM
    rw [if_pos ha, hs, show (p : Int) + 1 - 1 = p by omega, show slotAt M p = M.slots[p] from slotAt_lt hp, Int.toNat_natCast]
    exact ⟨rfl, ⟨_, _, _, _, _, _, _, _, m.setS _ _ _ (encS_set5 M.slots p hp _), fun k hk => .inl (hf k hk)⟩, (Fine.refl w Z).set zS _ _⟩
  · refine (cut_begin w B gS gH _ _ j b cS cH _ _ _ _ _ _ m.box hj hb hM.ns hM.nh.2 (by omega) c5 ch fh).mono ?_
    rintro e w' ⟨rfl, rfl⟩
    unfold cutM
    rw [if_neg ha, hs]
    exact ⟨rfl, ⟨_, _, _, _, _, _, _, _, m.setH b _, fun k hk => .inl (hf k hk)⟩, (Fine.refl w Z).set zH _ _⟩



end Go.Proofs.Ytdbilofhcadmoab.mm
