/- The contract of add's part refuse. -/
import Derived.Test.YtdbilofhcadmoabC21
import Derived.Test.YtdbilofhcadmoabC25
import Derived.Test.YtdbilofhcadmoabC22
import Derived.Test.YtdbilofhcadmoabC23
import Derived.Test.YtdbilofhcadmoabC24
import Derived.Test.YtdbilofhcadmoabC26
import Derived.Test.YtdbilofhcadmoabC27
import Derived.Test.YtdbilofhcadmoabC28
import Derived.Test.YtdbilofhcadmoabC29
import Derived.Test.YtdbilofhcadmoabC13
namespace Go.Proofs.Ytdbilofhcadmoab.mm
open Go.ChangeShapes Go.WideShapes Go.ChangeAt Go.RowKit Go.Joins Go.Deep Go.Sort
set_option maxRecDepth 100000
set_option linter.unusedVariables false


set_option maxHeartbeats 3200000 in
theorem ad_refuse (M : Mm) (f : Fr) (B lo : Nat) (aS aH aF aL : Option Addr) (cS cH cF cL : Nat) (aK : Option Addr) (cK : Nat) (w : World)
    (m : Mine w B lo aS aH aF aL cS cH cF cL M) (hM : Ok M) (hf : Fit M f) (r : KRow w aK cK f.keys) (hz : ∀ ad, aK = some ad → ¬ Foot B aS aH aF aL ad.block) :
    Calls Try.prog 118 #[.pointer (some ⟨B, 0, none⟩), .agg #[.int .i64 f.c.kind, .int .i64 f.c.a, .int .i64 f.c.b, .int .i64 f.c.time, .int .i64 f.c.bk, .int .i64 f.c.slot, .int .i64 f.pl, .int .i64 f.cur, .int .i64 f.prev, .int .i64 f.slot, .int .i64 f.n, .slice aK f.keys.length cK, .bool f.done, .int .i64 f.e]] w fun e w' => Ret w w' e (adPut M f) aK cK ∧ Has w' B lo (Up w (Foot B aS aH aF aL)) (adPutM M f) ∧ Fine w w' (Foot B aS aH aF aL) := by
  have hns := hM.ns
  have hnh := hM.nh.2
  have hcur := hf.cur.2
  have hc1 : f.cur ≤ 1000 := by omega
  have hn1 : M.slots.length ≤ 1000 := by omega
  have HOk : Hid (Ok M) := hM
  have HR : Hid (KRow w aK cK f.keys) := r
  cases hsl : isSl M f.slot
  · have hres : adPut M f = lateF f := by unfold adPut; rw [hsl]; rfl
    have hresM : adPutM M f = lkLetM M f := rfl
    have hlet : letF M f = f := by unfold letF; rw [hsl]; rfl
    rw [hres, hresM]
    have HLt : Hid (∀ (W : World), Lk w W B lo aS aH aF aL cS cH cF cL M f aK cK → Calls Try.prog 151 #[.pointer (some ⟨B, 0, none⟩), .agg #[.int .i64 f.c.kind, .int .i64 f.c.a, .int .i64 f.c.b, .int .i64 f.c.time, .int .i64 f.c.bk, .int .i64 f.c.slot, .int .i64 f.pl, .int .i64 f.cur, .int .i64 f.prev, .int .i64 f.slot, .int .i64 f.n, .slice aK f.keys.length cK, .bool f.done, .int .i64 f.e]] W fun e w' => e = .returned (.tuple #[.agg #[.int .i64 f.c.kind, .int .i64 f.c.a, .int .i64 f.c.b, .int .i64 f.c.time, .int .i64 f.c.bk, .int .i64 f.c.slot, .int .i64 f.pl, .int .i64 f.cur, .int .i64 f.prev, .int .i64 f.slot, .int .i64 f.n, .slice aK f.keys.length cK, .bool f.done, .int .i64 f.e], .bool false]) ∧ Lk2 w w' (Foot B aS aH aF aL) B lo (lkLetM M f) f aK cK) := fun W h => by
      have := let_part M f B lo aS aH aF aL cS cH cF cL aK cK W h.m HOk.out
      rw [hlet, hsl] at this
      exact this.mono (fun e w' h' => ⟨h'.1, h.after h'.2.1 h'.2.2⟩)
    generalize lkLetM M f = M' at *
    have HZ : Hid (∀ ad, aK = some ad → ¬ (Foot B aS aH aF aL) ad.block) := hz
    obtain ⟨of, hof⟩ : ∃ o : Obj, o = .cells #[.int .i64 f.c.kind, .int .i64 f.c.a, .int .i64 f.c.b, .int .i64 f.c.time, .int .i64 f.c.bk, .int .i64 f.c.slot, .int .i64 f.pl, .int .i64 f.cur, .int .i64 f.prev, .int .i64 f.slot, .int .i64 f.n, .slice aK f.keys.length cK, .bool f.done, .int .i64 f.e] 51 := ⟨_, rfl⟩
    obtain ⟨oz, hoz⟩ : ∃ o : Obj, o = zeroFr := ⟨_, rfl⟩
    have HE : Hid (Lk w ((w.alloc of).alloc oz) B lo aS aH aF aL cS cH cF cL M f aK cK) := Lk.first m f aK cK hof hoz
    obtain ⟨q0, q1, q2, q3, q4, -, -, -, -, -, qs⟩ := boxf HE.out.m.box
    obtain ⟨f0, f1, f2, f3, f4, f5, f6, f7, f8, f9, f10, f11, f12, f13, ff, fs⟩ := framef HE.out.fb
    unfold zeroFr at hoz
    clear m hc1 hn1 hcur hns hnh hM hf r hz hsl hres hresM hlet
    go_enter Try.func118, Try.ntmps118
    go_wp2_with fail
    rw [← hof, ← hoz]
    generalize (w.alloc of).alloc oz = W0 at *
    subst hof hoz
    clear q0 q1 q2 q3 q4 qs
    clear f0 f1 f2 f3 f4 f5 f6 f7 f8 f9 f10 f11 f12 f13 ff fs
    refine (HLt.out _ (by exact HE.out.below ⟨rfl, rfl, rfl, Nat.le_refl _, fun _ _ => rfl⟩)).mono ?_
    rintro e w2 ⟨rfl, h9⟩
    have HE2 : Hid (Lk2 w w2 (Foot B aS aH aF aL) B lo M' f aK cK) := h9
    clear HE h9
    obtain ⟨f0, f1, f2, f3, f4, f5, f6, f7, f8, f9, f10, f11, f12, f13, ff, fs⟩ := framef HE2.out.fb
    go_wp2_with fail
    have HE3 : Hid (Lk2 w _ (Foot B aS aH aF aL) B lo M' f aK cK) := HE2.out.all f
    clear HE2
    refine (late_any f aK cK _).mono ?_
    rintro e w9 ⟨rfl, hb9⟩
    have HE9 : Hid (Lk2 w w9 (Foot B aS aH aF aL) B lo M' f aK cK) := HE3.out.below hb9
    clear HE3 hb9
    clear f0 f1 f2 f3 f4 f5 f6 f7 f8 f9 f10 f11 f12 f13 ff fs
    obtain ⟨g0, g1, g2, g3, g4, g5, g6, g7, g8, g9, g10, g11, g12, g13, gf, gs⟩ := framef HE9.out.zb
    go_wp2
    refine bodyPost_ret (v := .agg #[.int .i64 (lateF f).c.kind, .int .i64 (lateF f).c.a, .int .i64 (lateF f).c.b, .int .i64 (lateF f).c.time, .int .i64 (lateF f).c.bk, .int .i64 (lateF f).c.slot, .int .i64 (lateF f).pl, .int .i64 (lateF f).cur, .int .i64 (lateF f).prev, .int .i64 (lateF f).slot, .int .i64 (lateF f).n, .slice aK (lateF f).keys.length cK, .bool (lateF f).done, .int .i64 (lateF f).e]) (by simp [results, Try.results118, go_sem, lateF, g0, g1, g2, g3, g4, g5, g6, g7, g8, g9, g10, g11, g12, g13]) rfl ⟨⟨aK, cK, rfl, HR.out.fine HE9.out.end14.2 HZ.out, (fun ad h => .inl h), fun _ => ⟨rfl, rfl⟩⟩, HE9.out.end14⟩
  · obtain ⟨g, hg⟩ : ∃ g, g = letF M f := ⟨_, rfl⟩
    have hg2 : letF M f = { f with slot := -1 } := by unfold letF; rw [hsl]; rfl
    have hkeys : g.keys = f.keys := by rw [hg, hg2]
    have hres : adPut M f = { g with e := 6, pl := 7 } := by unfold adPut; rw [hsl, hg, hg2]; rfl
    have hresM : adPutM M f = lkLetM M f := rfl
    have hlet : letF M f = g := hg.symm
    rw [hres, hresM]
    have HLt : Hid (∀ (W : World), Lk w W B lo aS aH aF aL cS cH cF cL M f aK cK → Calls Try.prog 151 #[.pointer (some ⟨B, 0, none⟩), .agg #[.int .i64 f.c.kind, .int .i64 f.c.a, .int .i64 f.c.b, .int .i64 f.c.time, .int .i64 f.c.bk, .int .i64 f.c.slot, .int .i64 f.pl, .int .i64 f.cur, .int .i64 f.prev, .int .i64 f.slot, .int .i64 f.n, .slice aK f.keys.length cK, .bool f.done, .int .i64 f.e]] W fun e w' => e = .returned (.tuple #[.agg #[.int .i64 g.c.kind, .int .i64 g.c.a, .int .i64 g.c.b, .int .i64 g.c.time, .int .i64 g.c.bk, .int .i64 g.c.slot, .int .i64 g.pl, .int .i64 g.cur, .int .i64 g.prev, .int .i64 g.slot, .int .i64 g.n, .slice aK g.keys.length cK, .bool g.done, .int .i64 g.e], .bool true]) ∧ Lk2 w w' (Foot B aS aH aF aL) B lo (lkLetM M f) f aK cK) := fun W h => by
      have := let_part M f B lo aS aH aF aL cS cH cF cL aK cK W h.m HOk.out
      rw [hlet, hsl] at this
      exact this.mono (fun e w' h' => ⟨h'.1, h.after h'.2.1 h'.2.2⟩)
    generalize lkLetM M f = M' at *
    rw [← hkeys] at HR
    have HZ : Hid (∀ ad, aK = some ad → ¬ (Foot B aS aH aF aL) ad.block) := hz
    obtain ⟨of, hof⟩ : ∃ o : Obj, o = .cells #[.int .i64 f.c.kind, .int .i64 f.c.a, .int .i64 f.c.b, .int .i64 f.c.time, .int .i64 f.c.bk, .int .i64 f.c.slot, .int .i64 f.pl, .int .i64 f.cur, .int .i64 f.prev, .int .i64 f.slot, .int .i64 f.n, .slice aK f.keys.length cK, .bool f.done, .int .i64 f.e] 51 := ⟨_, rfl⟩
    obtain ⟨oz, hoz⟩ : ∃ o : Obj, o = zeroFr := ⟨_, rfl⟩
    have HE : Hid (Lk w ((w.alloc of).alloc oz) B lo aS aH aF aL cS cH cF cL M f aK cK) := Lk.first m f aK cK hof hoz
    obtain ⟨q0, q1, q2, q3, q4, -, -, -, -, -, qs⟩ := boxf HE.out.m.box
    obtain ⟨f0, f1, f2, f3, f4, f5, f6, f7, f8, f9, f10, f11, f12, f13, ff, fs⟩ := framef HE.out.fb
    unfold zeroFr at hoz
    clear m hc1 hn1 hcur hns hnh hM hf r hz hsl hres hresM hlet hg hg2 hkeys
    go_enter Try.func118, Try.ntmps118
    go_wp2_with fail
    rw [← hof, ← hoz]
    generalize (w.alloc of).alloc oz = W0 at *
    subst hof hoz
    clear q0 q1 q2 q3 q4 qs
    clear f0 f1 f2 f3 f4 f5 f6 f7 f8 f9 f10 f11 f12 f13 ff fs
    rename_i K1 hK1 K0 hK0
    have HK1 : Hid _ := hK1
    clear hK1
    refine (HLt.out _ (by exact HE.out.below ⟨rfl, rfl, rfl, Nat.le_refl _, fun _ _ => rfl⟩)).mono ?_
    rintro e w2 ⟨rfl, h9⟩
    have HE2 : Hid (Lk2 w w2 (Foot B aS aH aF aL) B lo M' f aK cK) := h9
    clear HE h9
    obtain ⟨f0, f1, f2, f3, f4, f5, f6, f7, f8, f9, f10, f11, f12, f13, ff, fs⟩ := framef HE2.out.fb
    go_wp2_with fail
    refine (fun (H : ∀ W3 : World, Lk2 w W3 (Foot B aS aH aF aL) B lo M' g aK cK → K1 _ W3) => H _ (HE2.out.all g)) ?_
    clear HE2
    clear f0 f1 f2 f3 f4 f5 f6 f7 f8 f9 f10 f11 f12 f13 ff fs
    intro w3 h3
    have HE3 : Hid (Lk2 w w3 (Foot B aS aH aF aL) B lo M' g aK cK) := h3
    clear h3
    refine HK1.out _ _ ?_
    clear HK1
    obtain ⟨f0, f1, f2, f3, f4, f5, f6, f7, f8, f9, f10, f11, f12, f13, ff, fs⟩ := framef HE3.out.fb
    go_wp2_with fail
    have HE4 : Hid (Lk2 w _ (Foot B aS aH aF aL) B lo M' { g with e := 6 } aK cK) := HE3.out.store 13 (.int .i64 6) { g with e := 6 } rfl
    clear HE3
    refine (to_any { g with e := 6 } 7 aK cK _).mono ?_
    rintro e w9 ⟨rfl, hb9⟩
    have HE9 : Hid (Lk2 w w9 (Foot B aS aH aF aL) B lo M' { g with e := 6 } aK cK) := HE4.out.below hb9
    clear HE4 hb9
    clear f0 f1 f2 f3 f4 f5 f6 f7 f8 f9 f10 f11 f12 f13 ff fs
    obtain ⟨g0, g1, g2, g3, g4, g5, g6, g7, g8, g9, g10, g11, g12, g13, gf, gs⟩ := framef HE9.out.zb
    go_wp2
    refine bodyPost_ret (v := .agg #[.int .i64 ({ g with e := 6, pl := 7 }).c.kind, .int .i64 ({ g with e := 6, pl := 7 }).c.a, .int .i64 ({ g with e := 6, pl := 7 }).c.b, .int .i64 ({ g with e := 6, pl := 7 }).c.time, .int .i64 ({ g with e := 6, pl := 7 }).c.bk, .int .i64 ({ g with e := 6, pl := 7 }).c.slot, .int .i64 ({ g with e := 6, pl := 7 }).pl, .int .i64 ({ g with e := 6, pl := 7 }).cur, .int .i64 ({ g with e := 6, pl := 7 }).prev, .int .i64 ({ g with e := 6, pl := 7 }).slot, .int .i64 ({ g with e := 6, pl := 7 }).n, .slice aK ({ g with e := 6, pl := 7 }).keys.length cK, .bool ({ g with e := 6, pl := 7 }).done, .int .i64 ({ g with e := 6, pl := 7 }).e]) (by simp [results, Try.results118, go_sem, toF, g0, g1, g2, g3, g4, g5, g6, g7, g8, g9, g10, g11, g12, g13]) rfl ⟨⟨aK, cK, rfl, HR.out.fine HE9.out.end14.2 HZ.out, (fun ad h => .inl h), fun _ => ⟨rfl, rfl⟩⟩, HE9.out.end14⟩
end Go.Proofs.Ytdbilofhcadmoab.mm

/- The contract of add's Step, for memory of one's own. -/
namespace Go.Proofs.Ytdbilofhcadmoab.mm
open Go.ChangeShapes Go.WideShapes Go.ChangeAt Go.RowKit Go.Joins Go.Deep Go.Sort
set_option maxRecDepth 100000
set_option linter.unusedVariables false

theorem ad_mine (t : Int) (M : Mm) (f : Fr) (B lo : Nat) (aS aH aF aL : Option Addr) (cS cH cF cL : Nat) (aK : Option Addr) (cK : Nat) (w : World)
    (m : Mine w B lo aS aH aF aL cS cH cF cL M) (hM : Ok M) (hf : Fit M f) (hk : f.c.kind = 2) (r : KRow w aK cK f.keys) (hz : ∀ ad, aK = some ad → ¬ Foot B aS aH aF aL ad.block) :
    Calls Try.prog 51 #[.pointer (some ⟨B, 0, none⟩), .agg #[.int .i64 f.c.kind, .int .i64 f.c.a, .int .i64 f.c.b, .int .i64 f.c.time, .int .i64 f.c.bk, .int .i64 f.c.slot, .int .i64 f.pl, .int .i64 f.cur, .int .i64 f.prev, .int .i64 f.slot, .int .i64 f.n, .slice aK f.keys.length cK, .bool f.done, .int .i64 f.e], .int .i64 t] w fun e w' => Ret w w' e (adF M f) aK cK ∧ Has w' B lo (Up w (Foot B aS aH aF aL)) (adM t M f) ∧ Fine w w' (Foot B aS aH aF aL) := by
  obtain ⟨c, pl, cur, prev, slot, nn, keys, done, ee⟩ := f
  have hd : done = false := hf.done
  subst hd
  have hpl : 0 ≤ pl ∧ pl ≤ 9 := hf.pl
  by_cases h8 : 8 ≤ pl
  · rw [adF8 (f := ⟨c, pl, cur, prev, slot, nn, keys, false, ee⟩) h8, adM_same (f := ⟨c, pl, cur, prev, slot, nn, keys, false, ee⟩) (by show pl ≠ 0 ∧ pl ≠ 1 ∧ pl ≠ 5 ∧ pl ≠ 6 ∧ pl ≠ 7; omega)]
    exact adstepLate t M c pl cur prev slot nn ee keys B lo aS aH aF aL cS cH cF cL aK cK w m r h8
  · obtain rfl | rfl | rfl | rfl | rfl | rfl | rfl | rfl : pl = 0 ∨ pl = 1 ∨ pl = 2 ∨ pl = 3 ∨ pl = 4 ∨ pl = 5 ∨ pl = 6 ∨ pl = 7 := by omega
    · exact adstep0 t M _ _ c cur prev slot nn ee keys B lo aS aH aF aL cS cH cF cL aK cK w m r (adF_keys _ _) (fun W m' r' => by
      rw [adF0 rfl, adM0 rfl]
      by_cases hF : M.free.length = 0
      · exact ad_take0 M ⟨c, 0, cur, prev, slot, nn, keys, false, ee⟩ B lo aS aH aF aL cS cH cF cL aK cK W m' hM hf r' hz hk hF
      · exact ad_take1 M ⟨c, 0, cur, prev, slot, nn, keys, false, ee⟩ B lo aS aH aF aL cS cH cF cL aK cK W m' hM hf r' hz hk hF)
    · exact adstep1 t M _ _ c cur prev slot nn ee keys B lo aS aH aF aL cS cH cF cL aK cK w m r (adF_keys _ _) (fun W m' r' => by
      rw [adF1 rfl, adM1 rfl]
      exact ad_lock M ⟨c, 1, cur, prev, slot, nn, keys, false, ee⟩ t B lo aS aH aF aL cS cH cF cL aK cK W m' hM hf r' hz)
    · exact adstep2 t M _ _ c cur prev slot nn ee keys B lo aS aH aF aL cS cH cF cL aK cK w m r (adF_keys _ _) (fun W m' r' => by
      rw [adF2 rfl, adM_same (by show (2 : Int) ≠ 0 ∧ (2 : Int) ≠ 1 ∧ (2 : Int) ≠ 5 ∧ (2 : Int) ≠ 6 ∧ (2 : Int) ≠ 7; omega)]
      exact ad_begin M ⟨c, 2, cur, prev, slot, nn, keys, false, ee⟩ B lo aS aH aF aL cS cH cF cL aK cK W m' hM hf r' hz)
    · exact adstep3 t M _ _ c cur prev slot nn ee keys B lo aS aH aF aL cS cH cF cL aK cK w m r (adF_keys _ _) (fun W m' r' => by
      rw [adF3 rfl, adM_same (by show (3 : Int) ≠ 0 ∧ (3 : Int) ≠ 1 ∧ (3 : Int) ≠ 5 ∧ (3 : Int) ≠ 6 ∧ (3 : Int) ≠ 7; omega)]
      exact ad_see M ⟨c, 3, cur, prev, slot, nn, keys, false, ee⟩ B lo aS aH aF aL cS cH cF cL aK cK W m' hM hf r' hz)
    · exact adstep4 t M _ _ c cur prev slot nn ee keys B lo aS aH aF aL cS cH cF cL aK cK w m r (adF_keys _ _) (fun W m' r' => by
      rw [adF4 rfl, adM_same (by show (4 : Int) ≠ 0 ∧ (4 : Int) ≠ 1 ∧ (4 : Int) ≠ 5 ∧ (4 : Int) ≠ 6 ∧ (4 : Int) ≠ 7; omega)]
      exact ad_pass M ⟨c, 4, cur, prev, slot, nn, keys, false, ee⟩ B lo aS aH aF aL cS cH cF cL aK cK W m' hM hf r' hz)
    · exact adstep5 t M _ _ c cur prev slot nn ee keys B lo aS aH aF aL cS cH cF cL aK cK w m r (adF_keys _ _) (fun W m' r' => by
      rw [adF5 rfl, adM5 rfl]
      exact ad_link M ⟨c, 5, cur, prev, slot, nn, keys, false, ee⟩ B lo aS aH aF aL cS cH cF cL aK cK W m' hM hf r' hz)
    · exact adstep6 t M _ _ c cur prev slot nn ee keys B lo aS aH aF aL cS cH cF cL aK cK w m r (adF_keys _ _) (fun W m' r' => by
      rw [adF6 rfl, adM6 rfl]
      exact ad_refuse M ⟨c, 6, cur, prev, slot, nn, keys, false, ee⟩ B lo aS aH aF aL cS cH cF cL aK cK W m' hM hf r' hz)
    · exact adstep7 t M _ _ c cur prev slot nn ee keys B lo aS aH aF aL cS cH cF cL aK cK w m r (adF_keys _ _) (fun W m' r' => by
      rw [adF7 rfl, adM7 rfl]
      exact ad_unlock M ⟨c, 7, cur, prev, slot, nn, keys, false, ee⟩ t B lo aS aH aF aL cS cH cF cL aK cK W m' hM hf r' hz)
end Go.Proofs.Ytdbilofhcadmoab.mm

/- A Look that goes on alone, as plain data: what it finds, and what it leaves. -/
namespace Go.Proofs.Ytdbilofhcadmoab.mm
set_option linter.unusedVariables false

def lkRun : Nat → Mm → Fr → Mm × Fr × Bool
  | 0, M, f => (M, f, false)
  | k + 1, M, f => if (lkF M f).done then (lkM M f, lkF M f, true) else lkRun k (lkM M f) (lkF M f)

theorem lkRun_go {M : Mm} {f : Fr} {k : Nat} (h : (lkF M f).done = false) : lkRun (k + 1) M f = lkRun k (lkM M f) (lkF M f) := by
  show (if (lkF M f).done then (lkM M f, lkF M f, true) else lkRun k (lkM M f) (lkF M f)) = _
  rw [h]; rfl
theorem lkRun_end {M : Mm} {f : Fr} {k : Nat} (h : (lkF M f).done = true) : lkRun (k + 1) M f = (lkM M f, lkF M f, true) := by
  show (if (lkF M f).done then (lkM M f, lkF M f, true) else lkRun k (lkM M f) (lkF M f)) = _
  rw [h]; rfl

def Found (M : Mm) (c : Cl) (l : List Int) (X : Mm) (g : Fr) : Prop :=
  match l.find? (fun a => keyAt M a == (c.a, c.b)) with
  | none => X = M ∧ g.e = 5
  | some a => if M.now < (slotAt M a).unt then X = holdM M a ∧ g.e = 0 ∧ g.slot = a else X = M ∧ g.e = 5

theorem lkF0 {M : Mm} {f : Fr} (h : f.pl = 0) : lkF M f = lkBegin M f := by unfold lkF; rw [if_pos h]
theorem lkF1 {M : Mm} {f : Fr} (h : f.pl = 1) : lkF M f = lkSee M f := by unfold lkF; rw [if_neg (by omega), if_pos h]
theorem lkF2 {M : Mm} {f : Fr} (h : f.pl = 2) : lkF M f = lkPass M f := by unfold lkF; rw [if_neg (by omega), if_neg (by omega), if_pos h]
theorem lkF3 {M : Mm} {f : Fr} (h : f.pl = 3) : lkF M f = lkHold M f := by unfold lkF; rw [if_neg (by omega), if_neg (by omega), if_neg (by omega), if_pos h]
theorem lkF4 {M : Mm} {f : Fr} (h : f.pl = 4) : lkF M f = lkProve M f := by unfold lkF; rw [if_neg (by omega), if_neg (by omega), if_neg (by omega), if_neg (by omega), if_pos h]
theorem lkF5 {M : Mm} {f : Fr} (h : f.pl = 5) : lkF M f = lkStray M f := by unfold lkF; rw [if_neg (by omega), if_neg (by omega), if_neg (by omega), if_neg (by omega), if_neg (by omega), if_pos h]
theorem lkF6 {M : Mm} {f : Fr} (h : f.pl = 6) : lkF M f = lkOver M f := by unfold lkF; rw [if_neg (by omega), if_neg (by omega), if_neg (by omega), if_neg (by omega), if_neg (by omega), if_neg (by omega), if_pos h]
theorem lkF7 {M : Mm} {f : Fr} (h : 7 ≤ f.pl) : lkF M f = toF f 0 := by unfold lkF; rw [if_neg (by omega), if_neg (by omega), if_neg (by omega), if_neg (by omega), if_neg (by omega), if_neg (by omega), if_neg (by omega)]
theorem lkM_same {M : Mm} {f : Fr} (h : f.pl ≠ 3 ∧ f.pl ≠ 5 ∧ f.pl ≠ 6) : lkM M f = M := by unfold lkM; rw [if_neg h.1, if_neg h.2.1, if_neg h.2.2]
theorem lkM3 {M : Mm} {f : Fr} (h : f.pl = 3) : lkM M f = lkHoldM M f := by unfold lkM; rw [if_pos h]
theorem lkM5 {M : Mm} {f : Fr} (h : f.pl = 5) : lkM M f = lkLetM M f := by unfold lkM; rw [if_neg (by omega), if_pos h]
theorem lkM6 {M : Mm} {f : Fr} (h : f.pl = 6) : lkM M f = lkLetM M f := by unfold lkM; rw [if_neg (by omega), if_neg (by omega), if_pos h]

theorem slotAt_hold {M : Mm} {a : Int} (h : isSl M a = true) : slotAt (holdM M a) a = { slotAt M a with refs := refsM M a + 1 } := by
  obtain ⟨j, rfl, hj⟩ := (isSl_iff M a).1 h
  unfold slotAt holdM setRefs
  dsimp only
  rw [Int.toNat_natCast, getD_set_same _ _ _ hj]

theorem putN_hold {M : Mm} {a : Int} (h : isSl M a = true) (hr : 0 < refsM M a) : putN (holdM M a) a = M := by
  unfold putN
  rw [if_neg (by rw [refs_hold h]; omega), hold_with, put_of_with h _ (by omega), show refsM M a + 1 - 1 = refsM M a by omega, withRefs_self h]

theorem run_walk {M : Mm} (hM : OkC M) (hr : ∀ i, isSl M i = true → refsM M i ≠ 1000) {c : Cl} {b : Nat} (hb : b < M.heads.length) (hbk : bkOf M.heads.length c = b) :
    ∀ (l : List Int) (k : Nat) (f : Fr), f.c = c → f.pl = 1 → f.done = false → Path M.slots f.cur l (-1 - (b : Int)) → (∀ a ∈ l, a ∈ chL M b) → 2 * l.length + 5 ≤ k →
      ∃ X g, lkRun k M f = (X, g, true) ∧ Found M c l X g
  | [], k + 1, f, hc, hp, hd, hpath, hin, hk => by
    have e : lkF M f = endF f 5 := by
      rw [lkF1 hp]
      unfold lkSee
      rw [if_pos (by rw [hc, hbk]; exact hpath.1)]
    refine ⟨M, endF f 5, ?_, ?_⟩
    · rw [lkRun_end (by rw [e]; rfl), e, lkM_same (by omega)]
    · exact ⟨rfl, rfl⟩
  | a :: l, k + 4, f, hc, hp, hd, hpath, hin, hk => by
    obtain ⟨h1, h2, h3⟩ := hpath
    have ha := hM.slots hb a (hin a (by simp))
    have hsl : isSl M a = true := isSl_in.2 ha
    have hcur : f.cur - 1 = a := by omega
    have hat : isAt M f = true := isAt_iff.2 (by omega)
    have hheld := hM.held b hb a (hin a (by simp))
    have hrf := slot_refs hM.ok hsl
    have hrr : refsM M a ≠ 0 := hheld.1
    have hrm := hr a hsl
    by_cases hkey : lkK (slotAt M a) f = true
    · have hkc : (keyAt M a == (c.a, c.b)) = true := by
        unfold lkK at hkey
        rw [hc] at hkey
        simp only [Bool.and_eq_true, beq_iff_eq] at hkey
        unfold keyAt
        rw [hkey.1, hkey.2]
        exact beq_self_eq_true _
      have hf : (a :: l).find? (fun a => keyAt M a == (c.a, c.b)) = some a := List.find?_cons_of_pos hkc
      have e1 : lkF M f = toF f 3 := by
        rw [lkF1 hp]
        unfold lkSee
        rw [if_neg (by rw [hc, hbk]; omega), if_pos hat, hcur, hkey]
        rfl
      have e2 : lkF M (toF f 3) = handF (toF f 3) a 4 := by
        rw [lkF3 rfl]
        unfold lkHold
        have hat' : isAt M (toF f 3) = true := hat
        have : canH M ((toF f 3).cur - 1) = true := by
          show canH M (f.cur - 1) = true
          rw [hcur, canH_iff]
          omega
        rw [hat', this]
        show (if (true && true) = true then handF (toF f 3) (f.cur - 1) 4 else _) = _
        rw [hcur]; rfl
      have e2m : lkM M (toF f 3) = holdM M a := by
        rw [lkM3 rfl]
        unfold lkHoldM
        have hat' : isAt M (toF f 3) = true := hat
        rw [if_pos hat']
        show holdN M (f.cur - 1) = _
        rw [hcur]
        unfold holdN
        rw [if_pos (canH_iff.2 (by omega))]
      have hsl' : isSl (holdM M a) a = true := by rw [isSl_hold]; exact hsl
      have hs' := slotAt_hold hsl
      obtain ⟨f4, h4⟩ : ∃ x, x = handF (toF f 3) a 4 := ⟨_, rfl⟩
      have p4 : f4.pl = 4 := by rw [h4]; rfl
      have s4 : f4.slot = a := by rw [h4]; rfl
      have k4 : lkK (slotAt (holdM M a) a) f4 = true := by rw [h4, hs']; exact hkey
      have i4 : (slotAt (holdM M a) a).inn = true := by rw [hs']; exact hheld.2.1
      have u4 : (slotAt (holdM M a) a).unt = (slotAt M a).unt := by rw [hs']
      have n4 : (holdM M a).now = M.now := rfl
      have d4 : f4.done = false := by rw [h4]; exact hd
      have e3 : lkF (holdM M a) f4 = if M.now < (slotAt M a).unt then endF f4 0 else toF f4 6 := by
        rw [lkF4 p4]
        unfold lkProve
        rw [s4, if_pos hsl', k4, i4, u4, n4]
        rfl
      have r1 : lkRun (k + 4) M f = lkRun (k + 2) (holdM M a) f4 := by
        rw [lkRun_go (by rw [e1]; exact hd), e1, lkM_same (by omega), lkRun_go (by rw [e2]; exact hd), e2, e2m, h4]
      rw [r1]
      by_cases hu : M.now < (slotAt M a).unt
      · rw [if_pos hu] at e3
        refine ⟨holdM M a, endF f4 0, ?_, ?_⟩
        · rw [lkRun_end (by rw [e3]; rfl), e3, lkM_same (by omega)]
        · unfold Found
          rw [hf]
          dsimp only
          rw [if_pos hu]
          exact ⟨rfl, rfl, s4⟩
      · rw [if_neg hu] at e3
        have e5 : lkF (holdM M a) (toF f4 6) = endF { toF f4 6 with slot := -1 } 5 := by
          rw [lkF6 rfl]
          unfold lkOver
          have : isSl (holdM M a) (toF f4 6).slot = true := by show isSl (holdM M a) f4.slot = true; rw [s4]; exact hsl'
          rw [if_pos this]
        have e5m : lkM (holdM M a) (toF f4 6) = M := by
          rw [lkM6 rfl]
          unfold lkLetM
          have : (toF f4 6).slot = a := s4
          rw [this, if_pos hsl']
          exact putN_hold hsl (by omega)
        refine ⟨M, endF { toF f4 6 with slot := -1 } 5, ?_, ?_⟩
        · rw [lkRun_go (by rw [e3]; exact d4), e3, lkM_same (by omega), lkRun_end (by rw [e5]; rfl), e5, e5m]
        · unfold Found
          rw [hf]
          dsimp only
          rw [if_neg hu]
          exact ⟨rfl, rfl⟩
    · have hkey' : lkK (slotAt M a) f = false := by simpa using hkey
      have hkc : ¬ (keyAt M a == (c.a, c.b)) = true := by
        intro hh
        apply hkey
        unfold keyAt at hh
        simp only [beq_iff_eq, Prod.mk.injEq] at hh
        unfold lkK
        rw [hc, hh.1, hh.2]
        simp
      have hf : (a :: l).find? (fun a => keyAt M a == (c.a, c.b)) = l.find? (fun a => keyAt M a == (c.a, c.b)) := List.find?_cons_of_neg hkc
      have e1 : lkF M f = toF f 2 := by
        rw [lkF1 hp]
        unfold lkSee
        rw [if_neg (by rw [hc, hbk]; omega), if_pos hat, hcur, hkey']
        rfl
      have e2 : lkF M (toF f 2) = curF (toF f 2) (slotAt M a).next 1 := by
        rw [lkF2 rfl]
        unfold lkPass
        have hat' : isAt M (toF f 2) = true := hat
        rw [if_pos hat']
        show curF (toF f 2) (slotAt M (f.cur - 1)).next 1 = _
        rw [hcur]
      have r1 : lkRun (k + 4) M f = lkRun (k + 2) M (curF (toF f 2) (slotAt M a).next 1) := by
        rw [lkRun_go (by rw [e1]; exact hd), e1, lkM_same (by omega), lkRun_go (by rw [e2]; exact hd), e2, lkM_same (by show _ ∧ _ ∧ _; simp [toF])]
      obtain ⟨X, g, h5, h6⟩ := run_walk hM hr hb hbk l (k + 2) (curF (toF f 2) (slotAt M a).next 1) hc rfl hd h3 (fun x hx => hin x (by simp [hx])) (by simp at hk; omega)
      refine ⟨X, g, by rw [r1, h5], ?_⟩
      unfold Found at h6 ⊢
      rw [hf]
      exact h6
  | [], 0, f, hc, hp, hd, hpath, hin, hk => by simp at hk
  | a :: l, 0, f, hc, hp, hd, hpath, hin, hk => by simp at hk
  | a :: l, 1, f, hc, hp, hd, hpath, hin, hk => by simp at hk
  | a :: l, 2, f, hc, hp, hd, hpath, hin, hk => by simp at hk
  | a :: l, 3, f, hc, hp, hd, hpath, hin, hk => by simp at hk

/- A Look that begins, and goes on alone. -/
theorem run_all {M : Mm} (hM : OkC M) (hr : ∀ i, isSl M i = true → refsM M i ≠ 1000) {c : Cl} (hk : c.kind = 1) (hkey : keyB c.a c.b = true) :
    ∃ X g, lkRun (2 * M.slots.length + 6) M (newF c) = (X, g, true) ∧ Found M c (chL M (bkOf M.heads.length c).toNat) X g := by
  have hcall : callE M.slots.length M.heads.length c = 0 := by
    unfold callE
    rw [if_pos (.inl hk), if_pos hkey]
  obtain ⟨b0, b1⟩ := bkOf_in hM.ok hcall
  obtain ⟨b, hb⟩ : ∃ b : Nat, bkOf M.heads.length c = b := ⟨(bkOf M.heads.length c).toNat, by omega⟩
  have e0 : lkF M (newF c) = curF (newF c) (headM M b) 1 := by
    rw [lkF0 rfl]
    unfold lkBegin
    show curF (newF c) (headM M (bkOf M.heads.length c).toNat) 1 = _
    rw [hb]; rfl
  have hlen : (chL M b).length ≤ M.slots.length := (walk_path M.slots M.slots.length (headM M b) (by have := hM.ends b (by omega); unfold chE at this; omega)).2
  obtain ⟨X, g, h1, h2⟩ := run_walk hM hr (b := b) (by omega) hb (chL M b) (2 * M.slots.length + 5) (curF (newF c) (headM M b) 1) rfl rfl rfl (hM.path (by omega)) (fun a ha => ha) (by omega)
  refine ⟨X, g, ?_, ?_⟩
  · rw [lkRun_go (by rw [e0]; rfl), e0, lkM_same (by show _ ∧ _ ∧ _; simp [newF]), h1]
  · rw [hb]
    exact h2


end Go.Proofs.Ytdbilofhcadmoab.mm
