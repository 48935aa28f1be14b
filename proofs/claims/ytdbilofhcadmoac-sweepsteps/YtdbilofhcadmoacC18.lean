/- The contract of sweep's part cut. -/
import Derived.Test.YtdbilofhcadmoacC08
import Derived.Test.YtdbilofhcadmoacC17
import Derived.Test.YtdbilofhcadmoacC07
import Derived.Deep.QuietTactic
import Derived.BigQuiet
import Derived.BigRegion
import Derived.Lib.QuietBelow
namespace Go.Proofs.Ytdbilofhcadmoac.mm
open Go.ChangeShapes Go.WideShapes Go.ChangeAt Go.RowKit Go.Joins Go.Deep Go.Sort
set_option maxRecDepth 100000
set_option linter.unusedVariables false

theorem cut_next {M : Mm} {b : Nat} {p : Int} {j : Nat} (hj : j < M.slots.length) : j < (cutM M b p (j : Int)).slots.length ∧ (cutM M b p (j : Int)).slots.length = M.slots.length ∧ (slotAt (cutM M b p (j : Int)) (j : Int)).next = (slotAt M (j : Int)).next := by
  have e : (cutM M b p (j : Int)).slots.length = M.slots.length := by unfold cutM; split <;> simp
  refine ⟨by omega, e, ?_⟩
  unfold cutM
  split
  · unfold slotAt
    dsimp only
    rw [getD_set]
    split
    · rfl
    · rfl
  · rfl

set_option maxHeartbeats 3200000 in
theorem sw_cutP (M : Mm) (f : Fr) (B lo : Nat) (aS aH aF aL : Option Addr) (cS cH cF cL : Nat) (aK : Option Addr) (cK : Nat) (w : World)
    (m : Mine w B lo aS aH aF aL cS cH cF cL M) (hM : Ok M) (hf : Fit M f) (r : KRow w aK cK f.keys) (hz : ∀ ad, aK = some ad → ¬ Foot B aS aH aF aL ad.block) :
    Calls Try.prog 36 #[.pointer (some ⟨B, 0, none⟩), .agg #[.int .i64 f.c.kind, .int .i64 f.c.a, .int .i64 f.c.b, .int .i64 f.c.time, .int .i64 f.c.bk, .int .i64 f.c.slot, .int .i64 f.pl, .int .i64 f.cur, .int .i64 f.prev, .int .i64 f.slot, .int .i64 f.n, .slice aK f.keys.length cK, .bool f.done, .int .i64 f.e]] w fun e w' => Ret w w' e (swCut M f) aK cK ∧ Has w' B lo (Up w (Foot B aS aH aF aL)) (drCutM M f) ∧ Fine w w' (Foot B aS aH aF aL) := by
  have hns := hM.ns
  have hnh := hM.nh.2
  have hcur := hf.cur.2
  have hc1 : f.cur ≤ 1000 := by omega
  have hn1 : M.slots.length ≤ 1000 := by omega
  have HOk : Hid (Ok M) := hM
  have HR : Hid (KRow w aK cK f.keys) := r
  obtain ⟨b0, b1⟩ := bkOf_in hM hf.call
  obtain ⟨b, hb⟩ : ∃ b : Nat, bkOf M.heads.length f.c = b := ⟨_, (Int.toNat_of_nonneg b0).symm⟩
  have hbl : b < M.heads.length := by omega
  have hbn : bkN M f = b := by unfold bkN; rw [hb]; rfl
  have HBk : Hid (∀ W : World, Lk w W B lo aS aH aF aL cS cH cF cL M f aK cK → Calls Try.prog 68 #[.agg #[.slice aS M.slots.length cS, .slice aH M.heads.length cH, .slice aF M.free.length cF, .slice aL M.locks.length cL, .int .i64 M.now], .agg #[.int .i64 f.c.kind, .int .i64 f.c.a, .int .i64 f.c.b, .int .i64 f.c.time, .int .i64 f.c.bk, .int .i64 f.c.slot]] W fun e w' => e = .returned (.int .i64 (b : Int)) ∧ Lk w w' B lo aS aH aF aL cS cH cF cL M f aK cK) := fun W h => (hb ▸ frBucket_any _ _ _ _ _ _ _ _ cS cH cF cL M.now f.c W (by omega) : Calls Try.prog 68 _ W fun e w' => e = .returned (.int .i64 (b : Int)) ∧ Below W.heap.size W w').mono (fun e w' h' => ⟨h'.1, h.below h'.2⟩)
  by_cases hat : isAt M f = true
  · have h1 := isAt_iff.1 hat
    obtain ⟨j, hj⟩ : ∃ j : Nat, f.cur = (j : Int) + 1 := ⟨(f.cur - 1).toNat, by omega⟩
    have hjl : j < M.slots.length := by omega
    have hj1 : f.cur - 1 = (j : Int) := by omega
    obtain ⟨nx, hnx⟩ : ∃ nx, nx = (slotAt M (j : Int)).next := ⟨_, rfl⟩
    have hres : swCut M f = toF { f with slot := (j : Int), cur := nx } 5 := by unfold swCut; rw [if_pos hat, hj1, hnx]; rfl
    have hresM : drCutM M f = cutM M b f.prev (j : Int) := by unfold drCutM; rw [if_pos hat, hj1, hbn]
    rw [hres, hresM]
    have HCt : Hid (∀ W : World, Lk w W B lo aS aH aF aL cS cH cF cL M f aK cK → Calls Try.prog 74 #[.pointer (some ⟨B, 0, none⟩), .int .i64 (b : Int), .agg #[.int .i64 f.c.kind, .int .i64 f.c.a, .int .i64 f.c.b, .int .i64 f.c.time, .int .i64 f.c.bk, .int .i64 f.c.slot, .int .i64 f.pl, .int .i64 f.cur, .int .i64 f.prev, .int .i64 f.slot, .int .i64 f.n, .slice aK f.keys.length cK, .bool f.done, .int .i64 f.e]] W fun e w' => e = .returned (.tuple #[.int .i64 (j : Int), .bool true]) ∧ Lk2 w w' (Foot B aS aH aF aL) B lo (cutM M b f.prev (j : Int)) f aK cK) := fun W h => (cutout_yes M f b B lo aS aH aF aL cS cH cF cL aK cK W h.m HOk.out hf hbl j hj hjl).mono (fun e w' h' => ⟨h'.1, h.after h'.2.1 h'.2.2⟩)
    have HM2 : Hid (j < (cutM M b f.prev (j : Int)).slots.length ∧ (cutM M b f.prev (j : Int)).slots.length ≤ 12 ∧ (slotAt (cutM M b f.prev (j : Int)) (j : Int)).next = nx) := ⟨(cut_next hjl).1, by rw [(cut_next hjl).2.1]; exact hns, by rw [(cut_next hjl).2.2]; exact hnx.symm⟩
    generalize cutM M b f.prev (j : Int) = M' at *
    have HZ : Hid (∀ ad, aK = some ad → ¬ (Foot B aS aH aF aL) ad.block) := hz
    obtain ⟨of, hof⟩ : ∃ o : Obj, o = .cells #[.int .i64 f.c.kind, .int .i64 f.c.a, .int .i64 f.c.b, .int .i64 f.c.time, .int .i64 f.c.bk, .int .i64 f.c.slot, .int .i64 f.pl, .int .i64 f.cur, .int .i64 f.prev, .int .i64 f.slot, .int .i64 f.n, .slice aK f.keys.length cK, .bool f.done, .int .i64 f.e] 33 := ⟨_, rfl⟩
    obtain ⟨oz, hoz⟩ : ∃ o : Obj, o = zeroFr := ⟨_, rfl⟩
    have HE : Hid (Lk w ((w.alloc of).alloc oz) B lo aS aH aF aL cS cH cF cL M f aK cK) := Lk.first m f aK cK hof hoz
    obtain ⟨q0, q1, q2, q3, q4, -, -, -, -, -, qs⟩ := boxf HE.out.m.box
    obtain ⟨f0, f1, f2, f3, f4, f5, f6, f7, f8, f9, f10, f11, f12, f13, ff, fs⟩ := framef HE.out.fb
    unfold zeroFr at hoz
    clear m hc1 hn1 hcur hns hnh hM hf r hz hres hresM hat h1 hj hj1 hbn hb b0 b1 hnx
    go_enter Try.func36, Try.ntmps36
    go_wp2_with fail
    rw [← hof, ← hoz]
    generalize (w.alloc of).alloc oz = W0 at *
    subst hof hoz
    rename_i K0 hK0
    apply by_tail (R := fun a => ∀ W2 : World, Lk2 w W2 (Foot B aS aH aF aL) B lo M' f aK cK → K0 a W2)
    · intro tail0
      have tail : Hid _ := tail0
      clear tail0
      go_region_with (first | (go_at_call 68; refine (HBk.out _ (by exact HE.out.below ⟨rfl, rfl, rfl, Nat.le_refl _, fun _ _ => rfl⟩)).mono ?_; rintro e w1 ⟨rfl, h9⟩; have HE1 : Hid (Lk w w1 B lo aS aH aF aL cS cH cF cL M f aK cK) := h9; clear h9; obtain ⟨f0, f1, f2, f3, f4, f5, f6, f7, f8, f9, f10, f11, f12, f13, ff, fs⟩ := framef HE1.out.fb; obtain ⟨q0, q1, q2, q3, q4, -, -, -, -, -, qs⟩ := boxf HE1.out.m.box) | (go_at_call 74; refine (HCt.out _ (by exact HE1.out.below ⟨rfl, rfl, rfl, Nat.le_refl _, fun _ _ => rfl⟩)).mono ?_; rintro e w2 ⟨rfl, h9⟩; have HE2 : Hid (Lk2 w w2 (Foot B aS aH aF aL) B lo M' f aK cK) := h9; clear h9))
      all_goals exact tail.out _ HE2.out
    · intro w2 h2
      refine hK0 _ _ ?_
      have HE2 : Hid (Lk2 w w2 (Foot B aS aH aF aL) B lo M' f aK cK) := h2
      clear h2 HE hK0
      clear q0 q1 q2 q3 q4 qs
      clear f0 f1 f2 f3 f4 f5 f6 f7 f8 f9 f10 f11 f12 f13 ff fs
      obtain ⟨f0, f1, f2, f3, f4, f5, f6, f7, f8, f9, f10, f11, f12, f13, ff, fs⟩ := framef HE2.out.fb
      obtain ⟨bS, bH, bF, bL, dS, dH, dF, dL, m2, hz2⟩ := HE2.out.mine
      obtain ⟨hj2, hn2, hx2⟩ := HM2.out
      obtain ⟨gS, rfl, oS, lS, kS, -⟩ := row_form m2.c.s (by omega)
      obtain ⟨q0, q1, q2, q3, q4, -, -, -, -, -, qs⟩ := boxf m2.box
      have x5 : w2.cell? ⟨gS, j * 6 + 5, none⟩ = some (.int .i64 nx) := hx2 ▸ (slotAt_cells m2.c.s hj2 rfl).2.2.2.2.2.1
      have hBn : B ≠ w.heap.size := fun e => by
        rcases hz2 B (.inl rfl) with h | h
        · have := HE2.out.zl _ h; omega
        · omega
      have hgn : gS ≠ w.heap.size := fun e => by
        rcases hz2 gS (.inr (.inl ⟨_, rfl, rfl⟩)) with h | h
        · have := HE2.out.zl _ h; omega
        · omega
      have hBm : w.heap.size ≠ B := fun e => hBn e.symm
      have hgm : w.heap.size ≠ gS := fun e => hgn e.symm
      clear m2 hz2 hx2 oS lS kS
      go_wp2_with fail
      rename_i K1 hK1
      apply by_tail (R := fun a => ∀ W2 : World, Lk2 w W2 (Foot B aS aH aF aL) B lo M' { f with slot := (j : Int), cur := nx } aK cK → K1 a W2)
      · intro tail0
        have tail : Hid _ := tail0
        clear tail0
        go_region
        all_goals exact tail.out _ (((HE2.out.store 9 (.int .i64 (j : Int)) { f with slot := (j : Int) } rfl).store 7 (.int .i64 nx) { f with slot := (j : Int), cur := nx } rfl).below ⟨rfl, rfl, rfl, Nat.le_refl _, fun _ _ => rfl⟩)
      · intro w3 h3
        have HE3 : Hid (Lk2 w w3 (Foot B aS aH aF aL) B lo M' { f with slot := (j : Int), cur := nx } aK cK) := h3
        refine hK1 _ _ ?_
        clear h3 hK1 HE2 x5 hBn hgn hBm hgm hj2 hn2 q0 q1 q2 q3 q4 qs
        clear f0 f1 f2 f3 f4 f5 f6 f7 f8 f9 f10 f11 f12 f13 ff fs
        obtain ⟨f0, f1, f2, f3, f4, f5, f6, f7, f8, f9, f10, f11, f12, f13, ff, fs⟩ := framef HE3.out.fb
        go_wp2_with fail
        refine (to_any { f with slot := (j : Int), cur := nx } 5 aK cK _).mono ?_
        rintro e w9 ⟨rfl, hb9⟩
        have HE9 : Hid (Lk2 w w9 (Foot B aS aH aF aL) B lo M' { f with slot := (j : Int), cur := nx } aK cK) := HE3.out.below hb9
        clear HE3 hb9
        clear f0 f1 f2 f3 f4 f5 f6 f7 f8 f9 f10 f11 f12 f13 ff fs
        obtain ⟨g0, g1, g2, g3, g4, g5, g6, g7, g8, g9, g10, g11, g12, g13, gf, gs⟩ := framef HE9.out.zb
        go_wp2
        refine bodyPost_ret (v := .agg #[.int .i64 (toF { f with slot := (j : Int), cur := nx } 5).c.kind, .int .i64 (toF { f with slot := (j : Int), cur := nx } 5).c.a, .int .i64 (toF { f with slot := (j : Int), cur := nx } 5).c.b, .int .i64 (toF { f with slot := (j : Int), cur := nx } 5).c.time, .int .i64 (toF { f with slot := (j : Int), cur := nx } 5).c.bk, .int .i64 (toF { f with slot := (j : Int), cur := nx } 5).c.slot, .int .i64 (toF { f with slot := (j : Int), cur := nx } 5).pl, .int .i64 (toF { f with slot := (j : Int), cur := nx } 5).cur, .int .i64 (toF { f with slot := (j : Int), cur := nx } 5).prev, .int .i64 (toF { f with slot := (j : Int), cur := nx } 5).slot, .int .i64 (toF { f with slot := (j : Int), cur := nx } 5).n, .slice aK (toF { f with slot := (j : Int), cur := nx } 5).keys.length cK, .bool (toF { f with slot := (j : Int), cur := nx } 5).done, .int .i64 (toF { f with slot := (j : Int), cur := nx } 5).e]) (by simp [results, Try.results36, go_sem, toF, g0, g1, g2, g3, g4, g5, g6, g7, g8, g9, g10, g11, g12, g13]) rfl ⟨⟨aK, cK, rfl, HR.out.fine HE9.out.end14.2 HZ.out, (fun ad h => .inl h), fun _ => ⟨rfl, rfl⟩⟩, HE9.out.end14⟩
  · have hat0 : isAt M f = false := by simpa using hat
    have hres : swCut M f = toF f 6 := by unfold swCut; rw [if_neg hat]
    have hresM : drCutM M f = M := by unfold drCutM; rw [if_neg hat]
    rw [hres, hresM]
    have HCt : Hid (∀ W : World, Lk w W B lo aS aH aF aL cS cH cF cL M f aK cK → Calls Try.prog 74 #[.pointer (some ⟨B, 0, none⟩), .int .i64 (b : Int), .agg #[.int .i64 f.c.kind, .int .i64 f.c.a, .int .i64 f.c.b, .int .i64 f.c.time, .int .i64 f.c.bk, .int .i64 f.c.slot, .int .i64 f.pl, .int .i64 f.cur, .int .i64 f.prev, .int .i64 f.slot, .int .i64 f.n, .slice aK f.keys.length cK, .bool f.done, .int .i64 f.e]] W fun e w' => e = .returned (.tuple #[.int .i64 0, .bool false]) ∧ Lk2 w w' (Foot B aS aH aF aL) B lo M f aK cK) := fun W h => (cutout_no M f b B lo aS aH aF aL cS cH cF cL aK cK W h.m HOk.out hf hbl hat0).mono (fun e w' h' => ⟨h'.1, (h.below h'.2).two⟩)
    have HZ : Hid (∀ ad, aK = some ad → ¬ (Foot B aS aH aF aL) ad.block) := hz
    obtain ⟨of, hof⟩ : ∃ o : Obj, o = .cells #[.int .i64 f.c.kind, .int .i64 f.c.a, .int .i64 f.c.b, .int .i64 f.c.time, .int .i64 f.c.bk, .int .i64 f.c.slot, .int .i64 f.pl, .int .i64 f.cur, .int .i64 f.prev, .int .i64 f.slot, .int .i64 f.n, .slice aK f.keys.length cK, .bool f.done, .int .i64 f.e] 33 := ⟨_, rfl⟩
    obtain ⟨oz, hoz⟩ : ∃ o : Obj, o = zeroFr := ⟨_, rfl⟩
    have HE : Hid (Lk w ((w.alloc of).alloc oz) B lo aS aH aF aL cS cH cF cL M f aK cK) := Lk.first m f aK cK hof hoz
    obtain ⟨q0, q1, q2, q3, q4, -, -, -, -, -, qs⟩ := boxf HE.out.m.box
    obtain ⟨f0, f1, f2, f3, f4, f5, f6, f7, f8, f9, f10, f11, f12, f13, ff, fs⟩ := framef HE.out.fb
    unfold zeroFr at hoz
    clear m hc1 hn1 hcur hns hnh hM hf r hz hres hresM hat hat0 hbn hb b0 b1
    go_enter Try.func36, Try.ntmps36
    go_wp2_with fail
    rw [← hof, ← hoz]
    generalize (w.alloc of).alloc oz = W0 at *
    subst hof hoz
    rename_i K0 hK0
    apply by_tail (R := fun a => ∀ W2 : World, Lk2 w W2 (Foot B aS aH aF aL) B lo M f aK cK → K0 a W2)
    · intro tail0
      have tail : Hid _ := tail0
      clear tail0
      go_region_with (first | (go_at_call 68; refine (HBk.out _ (by exact HE.out.below ⟨rfl, rfl, rfl, Nat.le_refl _, fun _ _ => rfl⟩)).mono ?_; rintro e w1 ⟨rfl, h9⟩; have HE1 : Hid (Lk w w1 B lo aS aH aF aL cS cH cF cL M f aK cK) := h9; clear h9; obtain ⟨f0, f1, f2, f3, f4, f5, f6, f7, f8, f9, f10, f11, f12, f13, ff, fs⟩ := framef HE1.out.fb; obtain ⟨q0, q1, q2, q3, q4, -, -, -, -, -, qs⟩ := boxf HE1.out.m.box) | (go_at_call 74; refine (HCt.out _ (by exact HE1.out.below ⟨rfl, rfl, rfl, Nat.le_refl _, fun _ _ => rfl⟩)).mono ?_; rintro e w2 ⟨rfl, h9⟩; have HE2 : Hid (Lk2 w w2 (Foot B aS aH aF aL) B lo M f aK cK) := h9; clear h9))
      all_goals exact tail.out _ HE2.out
    · intro w2 h2
      refine hK0 _ _ ?_
      have HE2 : Hid (Lk2 w w2 (Foot B aS aH aF aL) B lo M f aK cK) := h2
      clear h2 HE hK0
      clear q0 q1 q2 q3 q4 qs
      clear f0 f1 f2 f3 f4 f5 f6 f7 f8 f9 f10 f11 f12 f13 ff fs
      obtain ⟨f0, f1, f2, f3, f4, f5, f6, f7, f8, f9, f10, f11, f12, f13, ff, fs⟩ := framef HE2.out.fb
      go_wp2_with fail
      refine (swlate_any f aK cK _).mono ?_
      rintro e w9 ⟨rfl, hb9⟩
      have HE9 : Hid (Lk2 w w9 (Foot B aS aH aF aL) B lo M f aK cK) := HE2.out.below hb9
      clear HE2 hb9
      clear f0 f1 f2 f3 f4 f5 f6 f7 f8 f9 f10 f11 f12 f13 ff fs
      obtain ⟨g0, g1, g2, g3, g4, g5, g6, g7, g8, g9, g10, g11, g12, g13, gf, gs⟩ := framef HE9.out.zb
      go_wp2
      refine bodyPost_ret (v := .agg #[.int .i64 (toF f 6).c.kind, .int .i64 (toF f 6).c.a, .int .i64 (toF f 6).c.b, .int .i64 (toF f 6).c.time, .int .i64 (toF f 6).c.bk, .int .i64 (toF f 6).c.slot, .int .i64 (toF f 6).pl, .int .i64 (toF f 6).cur, .int .i64 (toF f 6).prev, .int .i64 (toF f 6).slot, .int .i64 (toF f 6).n, .slice aK (toF f 6).keys.length cK, .bool (toF f 6).done, .int .i64 (toF f 6).e]) (by simp [results, Try.results36, go_sem, toF, g0, g1, g2, g3, g4, g5, g6, g7, g8, g9, g10, g11, g12, g13]) rfl ⟨⟨aK, cK, rfl, HR.out.fine HE9.out.end14.2 HZ.out, (fun ad h => .inl h), fun _ => ⟨rfl, rfl⟩⟩, HE9.out.end14⟩
end Go.Proofs.Ytdbilofhcadmoac.mm
