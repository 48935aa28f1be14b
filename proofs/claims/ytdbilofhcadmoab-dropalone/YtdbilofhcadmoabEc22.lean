/- The contract of drop's part put. -/
import Derived.Test.YtdbilofhcadmoabEc13
import Derived.Test.YtdbilofhcadmoabEc15
import Derived.Test.YtdbilofhcadmoabEc12
import Derived.Test.YtdbilofhcadmoabEc14
import Derived.Test.YtdbilofhcadmoabEc18
import Derived.Test.YtdbilofhcadmoabEc19
import Derived.Test.YtdbilofhcadmoabEc21
import Derived.Test.YtdbilofhcadmoabEc06
import Derived.Test.YtdbilofhcadmoabEc08
import Derived.Test.YtdbilofhcadmoabEc07
namespace Go.Proofs.Ytdbilofhcadmoab.mm
open Go.ChangeShapes Go.WideShapes Go.ChangeAt Go.RowKit Go.Joins Go.Deep Go.Sort
set_option maxRecDepth 100000
set_option linter.unusedVariables false


set_option maxHeartbeats 3200000 in
theorem dr_put (M : Mm) (f : Fr) (B lo : Nat) (aS aH aF aL : Option Addr) (cS cH cF cL : Nat) (aK : Option Addr) (cK : Nat) (w : World)
    (m : Mine w B lo aS aH aF aL cS cH cF cL M) (hM : Ok M) (hf : Fit M f) (r : KRow w aK cK f.keys) (hz : ∀ ad, aK = some ad → ¬ Foot B aS aH aF aL ad.block) :
    Calls Try.prog 135 #[.pointer (some ⟨B, 0, none⟩), .agg #[.int .i64 f.c.kind, .int .i64 f.c.a, .int .i64 f.c.b, .int .i64 f.c.time, .int .i64 f.c.bk, .int .i64 f.c.slot, .int .i64 f.pl, .int .i64 f.cur, .int .i64 f.prev, .int .i64 f.slot, .int .i64 f.n, .slice aK f.keys.length cK, .bool f.done, .int .i64 f.e]] w fun e w' => Ret w w' e (endF { f with slot := -1 } f.e) aK cK ∧ Has w' B lo (Up w (Foot B aS aH aF aL)) (drPutM M f) ∧ Fine w w' (Foot B aS aH aF aL) := by
  have hns := hM.ns
  have hnh := hM.nh.2
  have hcur := hf.cur.2
  have hc1 : f.cur ≤ 1000 := by omega
  have hn1 : M.slots.length ≤ 1000 := by omega
  have HOk : Hid (Ok M) := hM
  have HR : Hid (KRow w aK cK f.keys) := r
  obtain ⟨g, hg⟩ : ∃ g, g = letF M f := ⟨_, rfl⟩
  obtain ⟨bb, hbb⟩ : ∃ bb, isSl M f.slot = bb := ⟨_, rfl⟩
  have hlet : letF M f = g := hg.symm
  have hgs : ({ g with slot := -1 } : Fr) = { f with slot := -1 } := by rw [hg]; unfold letF; split <;> rfl
  have hge : g.e = f.e := by rw [hg]; unfold letF; split <;> rfl
  have hkeys : g.keys = f.keys := by rw [hg]; unfold letF; split <;> rfl
  have hresM : drPutM M f = lkLetM M f := rfl
  rw [show endF { f with slot := -1 } f.e = endF { g with slot := -1 } g.e by rw [hgs, hge], hresM]
  have HLt : Hid (∀ (W : World), Lk w W B lo aS aH aF aL cS cH cF cL M f aK cK → Calls Try.prog 151 #[.pointer (some ⟨B, 0, none⟩), .agg #[.int .i64 f.c.kind, .int .i64 f.c.a, .int .i64 f.c.b, .int .i64 f.c.time, .int .i64 f.c.bk, .int .i64 f.c.slot, .int .i64 f.pl, .int .i64 f.cur, .int .i64 f.prev, .int .i64 f.slot, .int .i64 f.n, .slice aK f.keys.length cK, .bool f.done, .int .i64 f.e]] W fun e w' => e = .returned (.tuple #[.agg #[.int .i64 g.c.kind, .int .i64 g.c.a, .int .i64 g.c.b, .int .i64 g.c.time, .int .i64 g.c.bk, .int .i64 g.c.slot, .int .i64 g.pl, .int .i64 g.cur, .int .i64 g.prev, .int .i64 g.slot, .int .i64 g.n, .slice aK g.keys.length cK, .bool g.done, .int .i64 g.e], .bool bb]) ∧ Lk2 w w' (Foot B aS aH aF aL) B lo (lkLetM M f) f aK cK) := fun W h => by
    have := let_part M f B lo aS aH aF aL cS cH cF cL aK cK W h.m HOk.out
    rw [hlet, hbb] at this
    exact this.mono (fun e w' h' => ⟨h'.1, h.after h'.2.1 h'.2.2⟩)
  generalize lkLetM M f = M' at *
  rw [← hkeys] at HR
  have HZ : Hid (∀ ad, aK = some ad → ¬ (Foot B aS aH aF aL) ad.block) := hz
  obtain ⟨of, hof⟩ : ∃ o : Obj, o = .cells #[.int .i64 f.c.kind, .int .i64 f.c.a, .int .i64 f.c.b, .int .i64 f.c.time, .int .i64 f.c.bk, .int .i64 f.c.slot, .int .i64 f.pl, .int .i64 f.cur, .int .i64 f.prev, .int .i64 f.slot, .int .i64 f.n, .slice aK f.keys.length cK, .bool f.done, .int .i64 f.e] 51 := ⟨_, rfl⟩
  obtain ⟨oz, hoz⟩ : ∃ o : Obj, o = zeroFr := ⟨_, rfl⟩
  have HE : Hid (Lk w ((w.alloc of).alloc oz) B lo aS aH aF aL cS cH cF cL M f aK cK) := Lk.first m f aK cK hof hoz
  obtain ⟨q0, q1, q2, q3, q4, -, -, -, -, -, qs⟩ := boxf HE.out.m.box
  obtain ⟨f0, f1, f2, f3, f4, f5, f6, f7, f8, f9, f10, f11, f12, f13, ff, fs⟩ := framef HE.out.fb
  unfold zeroFr at hoz
  clear m hc1 hn1 hcur hns hnh hM hf r hz hresM hlet hg hgs hge hkeys hbb
  go_enter Try.func135, Try.ntmps135
  go_wp2_with fail
  rw [← hof, ← hoz]
  generalize (w.alloc of).alloc oz = W0 at *
  subst hof hoz
  clear q0 q1 q2 q3 q4 qs
  clear f0 f1 f2 f3 f4 f5 f6 f7 f8 f9 f10 f11 f12 f13 ff fs
  rename_i K1 hK1 K0 hK0
  have HK1 : Hid _ := hK1
  clear hK1
  refine (HLt.out _ (by exact HE.out.below ⟨rfl, rfl, rfl, Nat.le_refl _, fun _ _ => rfl⟩)).mono ?_
  rintro e w2 ⟨rfl, h9⟩
  have HE2 : Hid (Lk2 w w2 (Foot B aS aH aF aL) B lo M' f aK cK) := h9
  clear HE h9
  obtain ⟨f0, f1, f2, f3, f4, f5, f6, f7, f8, f9, f10, f11, f12, f13, ff, fs⟩ := framef HE2.out.fb
  go_wp2_with fail
  refine (fun (H : ∀ W3 : World, Lk2 w W3 (Foot B aS aH aF aL) B lo M' g aK cK → K1 _ W3) => H _ (HE2.out.all g)) ?_
  clear HE2
  clear f0 f1 f2 f3 f4 f5 f6 f7 f8 f9 f10 f11 f12 f13 ff fs
  intro w3 h3
  have HE3 : Hid (Lk2 w w3 (Foot B aS aH aF aL) B lo M' g aK cK) := h3
  clear h3
  refine HK1.out _ _ ?_
  clear HK1
  obtain ⟨f0, f1, f2, f3, f4, f5, f6, f7, f8, f9, f10, f11, f12, f13, ff, fs⟩ := framef HE3.out.fb
  go_wp2_with fail
  have HE4 : Hid (Lk2 w _ (Foot B aS aH aF aL) B lo M' { g with slot := -1 } aK cK) := HE3.out.store 9 (.int .i64 (-1)) { g with slot := -1 } rfl
  clear HE3
  refine (endFr_hi { g with slot := -1 } g.e aK cK _ (HR.out.fine HE4.out.fine HZ.out)).mono ?_
  rintro e w9 ⟨a9, c9, rfl, hr9, hi9, hb9⟩
  have HK9 : Hid (KRow w9 a9 c9 g.keys ∧ ∀ ad, a9 = some ad → w.heap.size + 2 ≤ ad.block) := ⟨hr9, fun ad h => Nat.le_trans (lt_of_block HE4.out.zb) (hi9 ad h)⟩
  have HE9 : Hid (Lk2 w w9 (Foot B aS aH aF aL) B lo M' { g with slot := -1 } aK cK) := HE4.out.below hb9
  clear HE4 hb9 hr9 hi9
  clear f0 f1 f2 f3 f4 f5 f6 f7 f8 f9 f10 f11 f12 f13 ff fs
  obtain ⟨g0, g1, g2, g3, g4, g5, g6, g7, g8, g9, g10, g11, g12, g13, gf, gs⟩ := framef HE9.out.zb
  go_wp2
  refine bodyPost_ret (v := .agg #[.int .i64 (endF { g with slot := -1 } g.e).c.kind, .int .i64 (endF { g with slot := -1 } g.e).c.a, .int .i64 (endF { g with slot := -1 } g.e).c.b, .int .i64 (endF { g with slot := -1 } g.e).c.time, .int .i64 (endF { g with slot := -1 } g.e).c.bk, .int .i64 (endF { g with slot := -1 } g.e).c.slot, .int .i64 (endF { g with slot := -1 } g.e).pl, .int .i64 (endF { g with slot := -1 } g.e).cur, .int .i64 (endF { g with slot := -1 } g.e).prev, .int .i64 (endF { g with slot := -1 } g.e).slot, .int .i64 (endF { g with slot := -1 } g.e).n, .slice a9 (endF { g with slot := -1 } g.e).keys.length c9, .bool (endF { g with slot := -1 } g.e).done, .int .i64 (endF { g with slot := -1 } g.e).e]) (by simp [results, Try.results135, go_sem, endF, g0, g1, g2, g3, g4, g5, g6, g7, g8, g9, g10, g11, g12, g13]) rfl ⟨⟨a9, c9, rfl, krow14 HK9.out.1 HK9.out.2, (fun ad h => .inr (by have := HK9.out.2 ad h; omega)), fun h => by cases h⟩, HE9.out.end14⟩

end Go.Proofs.Ytdbilofhcadmoab.mm

/- The contract of drop's Step, for memory of one's own. -/
namespace Go.Proofs.Ytdbilofhcadmoab.mm
open Go.ChangeShapes Go.WideShapes Go.ChangeAt Go.RowKit Go.Joins Go.Deep Go.Sort
set_option maxRecDepth 100000
set_option linter.unusedVariables false

theorem dr_mine (t : Int) (M : Mm) (f : Fr) (B lo : Nat) (aS aH aF aL : Option Addr) (cS cH cF cL : Nat) (aK : Option Addr) (cK : Nat) (w : World)
    (m : Mine w B lo aS aH aF aL cS cH cF cL M) (hM : Ok M) (hf : Fit M f) (hk : f.c.kind = 3) (r : KRow w aK cK f.keys) (hz : ∀ ad, aK = some ad → ¬ Foot B aS aH aF aL ad.block) :
    Calls Try.prog 62 #[.pointer (some ⟨B, 0, none⟩), .agg #[.int .i64 f.c.kind, .int .i64 f.c.a, .int .i64 f.c.b, .int .i64 f.c.time, .int .i64 f.c.bk, .int .i64 f.c.slot, .int .i64 f.pl, .int .i64 f.cur, .int .i64 f.prev, .int .i64 f.slot, .int .i64 f.n, .slice aK f.keys.length cK, .bool f.done, .int .i64 f.e], .int .i64 t] w fun e w' => Ret w w' e (drF M f) aK cK ∧ Has w' B lo (Up w (Foot B aS aH aF aL)) (drM t M f) ∧ Fine w w' (Foot B aS aH aF aL) := by
  obtain ⟨c, pl, cur, prev, slot, nn, keys, done, ee⟩ := f
  have hd : done = false := hf.done
  subst hd
  have hpl : 0 ≤ pl ∧ pl ≤ 9 := hf.pl
  by_cases h7 : 7 ≤ pl
  · rw [drF7 (f := ⟨c, pl, cur, prev, slot, nn, keys, false, ee⟩) h7, drM_same (f := ⟨c, pl, cur, prev, slot, nn, keys, false, ee⟩) (by show pl ≠ 0 ∧ pl ≠ 4 ∧ pl ≠ 5 ∧ pl ≠ 6; omega)]
    exact drstepLate t M c pl cur prev slot nn ee keys B lo aS aH aF aL cS cH cF cL aK cK w m r h7
  · obtain rfl | rfl | rfl | rfl | rfl | rfl | rfl : pl = 0 ∨ pl = 1 ∨ pl = 2 ∨ pl = 3 ∨ pl = 4 ∨ pl = 5 ∨ pl = 6 := by omega
    · exact drstep0 t M _ _ c cur prev slot nn ee keys B lo aS aH aF aL cS cH cF cL aK cK w m r (drF_keys _ _) (fun W m' r' => by
      rw [drF0 rfl, drM0 rfl]
      exact dr_lock M ⟨c, 0, cur, prev, slot, nn, keys, false, ee⟩ t B lo aS aH aF aL cS cH cF cL aK cK W m' hM hf r' hz)
    · exact drstep1 t M _ _ c cur prev slot nn ee keys B lo aS aH aF aL cS cH cF cL aK cK w m r (drF_keys _ _) (fun W m' r' => by
      rw [drF1 rfl, drM_same (by show (1 : Int) ≠ 0 ∧ (1 : Int) ≠ 4 ∧ (1 : Int) ≠ 5 ∧ (1 : Int) ≠ 6; omega)]
      exact dr_begin M ⟨c, 1, cur, prev, slot, nn, keys, false, ee⟩ B lo aS aH aF aL cS cH cF cL aK cK W m' hM hf r' hz)
    · exact drstep2 t M _ _ c cur prev slot nn ee keys B lo aS aH aF aL cS cH cF cL aK cK w m r (drF_keys _ _) (fun W m' r' => by
      rw [drF2 rfl, drM_same (by show (2 : Int) ≠ 0 ∧ (2 : Int) ≠ 4 ∧ (2 : Int) ≠ 5 ∧ (2 : Int) ≠ 6; omega)]
      exact dr_see M ⟨c, 2, cur, prev, slot, nn, keys, false, ee⟩ B lo aS aH aF aL cS cH cF cL aK cK W m' hM hf r' hz)
    · exact drstep3 t M _ _ c cur prev slot nn ee keys B lo aS aH aF aL cS cH cF cL aK cK w m r (drF_keys _ _) (fun W m' r' => by
      rw [drF3 rfl, drM_same (by show (3 : Int) ≠ 0 ∧ (3 : Int) ≠ 4 ∧ (3 : Int) ≠ 5 ∧ (3 : Int) ≠ 6; omega)]
      exact dr_pass M ⟨c, 3, cur, prev, slot, nn, keys, false, ee⟩ B lo aS aH aF aL cS cH cF cL aK cK W m' hM hf r' hz)
    · exact drstep4 t M _ _ c cur prev slot nn ee keys B lo aS aH aF aL cS cH cF cL aK cK w m r (drF_keys _ _) (fun W m' r' => by
      rw [drF4 rfl, drM4 rfl]
      exact dr_cut M ⟨c, 4, cur, prev, slot, nn, keys, false, ee⟩ B lo aS aH aF aL cS cH cF cL aK cK W m' hM hf r' hz)
    · exact drstep5 t M _ _ c cur prev slot nn ee keys B lo aS aH aF aL cS cH cF cL aK cK w m r (drF_keys _ _) (fun W m' r' => by
      rw [drF5 rfl, drM5 rfl]
      exact dr_unlock M ⟨c, 5, cur, prev, slot, nn, keys, false, ee⟩ t B lo aS aH aF aL cS cH cF cL aK cK W m' hM hf r' hz)
    · exact drstep6 t M _ _ c cur prev slot nn ee keys B lo aS aH aF aL cS cH cF cL aK cK w m r (drF_keys _ _) (fun W m' r' => by
      rw [drF6 rfl, drM6 rfl]
      exact dr_put M ⟨c, 6, cur, prev, slot, nn, keys, false, ee⟩ B lo aS aH aF aL cS cH cF cL aK cK W m' hM hf r' hz)
end Go.Proofs.Ytdbilofhcadmoab.mm

/- A Look that goes on alone, as plain data: what it finds, and what it leaves. -/
namespace Go.Proofs.Ytdbilofhcadmoab.mm
set_option linter.unusedVariables false

def lkRun : Nat → Mm → Fr → Mm × Fr × Bool
  | 0, M, f => (M, f, false)
  | k + 1, M, f => if (lkF M f).done then (lkM M f, lkF M f, true) else lkRun k (lkM M f) (lkF M f)

theorem lkRun_go {M : Mm} {f : Fr} {k : Nat} (h : (lkF M f).done = false) : lkRun (k + 1) M f = lkRun k (lkM M f) (lkF M f) := by
  show (if (lkF M f).done then (lkM M f, lkF M f, true) else lkRun k (lkM M f) (lkF M f)) = _
  rw [h]; rfl
theorem lkRun_end {M : Mm} {f : Fr} {k : Nat} (h : (lkF M f).done = true) : lkRun (k + 1) M f = (lkM M f, lkF M f, true) := by
  show (if (lkF M f).done then (lkM M f, lkF M f, true) else lkRun k (lkM M f) (lkF M f)) = _
  rw [h]; rfl

def Found (M : Mm) (c : Cl) (l : List Int) (X : Mm) (g : Fr) : Prop :=
  match l.find? (fun a => keyAt M a == (c.a, c.b)) with
  | none => X = M ∧ g.e = 5
  | some a => if M.now < (slotAt M a).unt then X = holdM M a ∧ g.e = 0 ∧ g.slot = a else X = M ∧ g.e = 5

theorem lkF0 {M : Mm} {f : Fr} (h : f.pl = 0) : lkF M f = lkBegin M f := by unfold lkF; rw [if_pos h]
theorem lkF1 {M : Mm} {f : Fr} (h : f.pl = 1) : lkF M f = lkSee M f := by unfold lkF; rw [if_neg (by omega), if_pos h]
theorem lkF2 {M : Mm} {f : Fr} (h : f.pl = 2) : lkF M f = lkPass M f := by unfold lkF; rw [if_neg (by omega), if_neg (by omega), if_pos h]
theorem lkF3 {M : Mm} {f : Fr} (h : f.pl = 3) : lkF M f = lkHold M f := by unfold lkF; rw [if_neg (by omega), if_neg (by omega), if_neg (by omega), if_pos h]
theorem lkF4 {M : Mm} {f : Fr} (h : f.pl = 4) : lkF M f = lkProve M f := by unfold lkF; rw [if_neg (by omega), if_neg (by omega), if_neg (by omega), if_neg (by omega), if_pos h]
theorem lkF5 {M : Mm} {f : Fr} (h : f.pl = 5) : lkF M f = lkStray M f := by unfold lkF; rw [if_neg (by omega), if_neg (by omega), if_neg (by omega), if_neg (by omega), if_neg (by omega), if_pos h]
theorem lkF6 {M : Mm} {f : Fr} (h : f.pl = 6) : lkF M f = lkOver M f := by unfold lkF; rw [if_neg (by omega), if_neg (by omega), if_neg (by omega), if_neg (by omega), if_neg (by omega), if_neg (by omega), if_pos h]
theorem lkF7 {M : Mm} {f : Fr} (h : 7 ≤ f.pl) : lkF M f = toF f 0 := by unfold lkF; rw [if_neg (by omega), if_neg (by omega), if_neg (by omega), if_neg (by omega), if_neg (by omega), if_neg (by omega), if_neg (by omega)]
theorem lkM_same {M : Mm} {f : Fr} (h : f.pl ≠ 3 ∧ f.pl ≠ 5 ∧ f.pl ≠ 6) : lkM M f = M := by unfold lkM; rw [if_neg h.1, if_neg h.2.1, if_neg h.2.2]
theorem lkM3 {M : Mm} {f : Fr} (h : f.pl = 3) : lkM M f = lkHoldM M f := by unfold lkM; rw [if_pos h]
theorem lkM5 {M : Mm} {f : Fr} (h : f.pl = 5) : lkM M f = lkLetM M f := by unfold lkM; rw [if_neg (by omega), if_pos h]
theorem lkM6 {M : Mm} {f : Fr} (h : f.pl = 6) : lkM M f = lkLetM M f := by unfold lkM; rw [if_neg (by omega), if_neg (by omega), if_pos h]

theorem slotAt_hold {M : Mm} {a : Int} (h : isSl M a = true) : slotAt (holdM M a) a = { slotAt M a with refs := refsM M a + 1 } := by
  obtain ⟨j, rfl, hj⟩ := (isSl_iff M a).1 h
  unfold slotAt holdM setRefs
  dsimp only
  rw [Int.toNat_natCast, getD_set_same _ _ _ hj]

theorem putN_hold {M : Mm} {a : Int} (h : isSl M a = true) (hr : 0 < refsM M a) : putN (holdM M a) a = M := by
  unfold putN
  rw [if_neg (by rw [refs_hold h]; omega), hold_with, put_of_with h _ (by omega), show refsM M a + 1 - 1 = refsM M a by omega, withRefs_self h]

theorem run_walk {M : Mm} (hM : OkC M) (hr : ∀ i, isSl M i = true → refsM M i ≠ 1000) {c : Cl} {b : Nat} (hb : b < M.heads.length) (hbk : bkOf M.heads.length c = b) :
    ∀ (l : List Int) (k : Nat) (f : Fr), f.c = c → f.pl = 1 → f.done = false → Path M.slots f.cur l (-1 - (b : Int)) → (∀ a ∈ l, a ∈ chL M b) → 2 * l.length + 5 ≤ k →
      ∃ X g, lkRun k M f = (X, g, true) ∧ Found M c l X g
  | [], k + 1, f, hc, hp, hd, hpath, hin, hk => by
    have e : lkF M f = endF f 5 := by
      rw [lkF1 hp]
      unfold lkSee
      rw [if_pos (by rw [hc, hbk]; exact hpath.1)]
    refine ⟨M, endF f 5, ?_, ?_⟩
    · rw [lkRun_end (by rw [e]; rfl), e, lkM_same (by omega)]
    · exact ⟨rfl, rfl⟩
  | a :: l, k + 4, f, hc, hp, hd, hpath, hin, hk => by
    obtain ⟨h1, h2, h3⟩ := hpath
    have ha := hM.slots hb a (hin a (by simp))
    have hsl : isSl M a = true := isSl_in.2 ha
    have hcur : f.cur - 1 = a := by omega
    have hat : isAt M f = true := isAt_iff.2 (by omega)
    have hheld := hM.held b hb a (hin a (by simp))
    have hrf := slot_refs hM.ok hsl
    have hrr : refsM M a ≠ 0 := hheld.1
    have hrm := hr a hsl
    by_cases hkey : lkK (slotAt M a) f = true
    · have hkc : (keyAt M a == (c.a, c.b)) = true := by
        unfold lkK at hkey
        rw [hc] at hkey
        simp only [Bool.and_eq_true, beq_iff_eq] at hkey
        unfold keyAt
        rw [hkey.1, hkey.2]
        exact beq_self_eq_true _
      have hf : (a :: l).find? (fun a => keyAt M a == (c.a, c.b)) = some a := List.find?_cons_of_pos hkc
      have e1 : lkF M f = toF f 3 := by
        rw [lkF1 hp]
        unfold lkSee
        rw [if_neg (by rw [hc, hbk]; omega), if_pos hat, hcur, hkey]
        rfl
      have e2 : lkF M (toF f 3) = handF (toF f 3) a 4 := by
        rw [lkF3 rfl]
        unfold lkHold
        have hat' : isAt M (toF f 3) = true := hat
        have : canH M ((toF f 3).cur - 1) = true := by
          show canH M (f.cur - 1) = true
          rw [hcur, canH_iff]
          omega
        rw [hat', this]
        show (if (true && true) = true then handF (toF f 3) (f.cur - 1) 4 else _) = _
        rw [hcur]; rfl
      have e2m : lkM M (toF f 3) = holdM M a := by
        rw [lkM3 rfl]
        unfold lkHoldM
        have hat' : isAt M (toF f 3) = true := hat
        rw [if_pos hat']
        show holdN M (f.cur - 1) = _
        rw [hcur]
        unfold holdN
        rw [if_pos (canH_iff.2 (by omega))]
      have hsl' : isSl (holdM M a) a = true := by rw [isSl_hold]; exact hsl
      have hs' := slotAt_hold hsl
      obtain ⟨f4, h4⟩ : ∃ x, x = handF (toF f 3) a 4 := ⟨_, rfl⟩
      have p4 : f4.pl = 4 := by rw [h4]; rfl
      have s4 : f4.slot = a := by rw [h4]; rfl
      have k4 : lkK (slotAt (holdM M a) a) f4 = true := by rw [h4, hs']; exact hkey
      have i4 : (slotAt (holdM M a) a).inn = true := by rw [hs']; exact hheld.2.1
      have u4 : (slotAt (holdM M a) a).unt = (slotAt M a).unt := by rw [hs']
      have n4 : (holdM M a).now = M.now := rfl
      have d4 : f4.done = false := by rw [h4]; exact hd
      have e3 : lkF (holdM M a) f4 = if M.now < (slotAt M a).unt then endF f4 0 else toF f4 6 := by
        rw [lkF4 p4]
        unfold lkProve
        rw [s4, if_pos hsl', k4, i4, u4, n4]
        rfl
      have r1 : lkRun (k + 4) M f = lkRun (k + 2) (holdM M a) f4 := by
        rw [lkRun_go (by rw [e1]; exact hd), e1, lkM_same (by omega), lkRun_go (by rw [e2]; exact hd), e2, e2m, h4]
      rw [r1]
      by_cases hu : M.now < (slotAt M a).unt
      · rw [if_pos hu] at e3
        refine ⟨holdM M a, endF f4 0, ?_, ?_⟩
        · rw [lkRun_end (by rw [e3]; rfl), e3, lkM_same (by omega)]
        · unfold Found
          rw [hf]
          dsimp only
          rw [if_pos hu]
          exact ⟨rfl, rfl, s4⟩
      · rw [if_neg hu] at e3
        have e5 : lkF (holdM M a) (toF f4 6) = endF { toF f4 6 with slot := -1 } 5 := by
          rw [lkF6 rfl]
          unfold lkOver
          have : isSl (holdM M a) (toF f4 6).slot = true := by show isSl (holdM M a) f4.slot = true; rw [s4]; exact hsl'
          rw [if_pos this]
        have e5m : lkM (holdM M a) (toF f4 6) = M := by
          rw [lkM6 rfl]
          unfold lkLetM
          have : (toF f4 6).slot = a := s4
          rw [this, if_pos hsl']
          exact putN_hold hsl (by omega)
        refine ⟨M, endF { toF f4 6 with slot := -1 } 5, ?_, ?_⟩
        · rw [lkRun_go (by rw [e3]; exact d4), e3, lkM_same (by omega), lkRun_end (by rw [e5]; rfl), e5, e5m]
        · unfold Found
          rw [hf]
          dsimp only
          rw [if_neg hu]
          exact ⟨rfl, rfl⟩
    · have hkey' : lkK (slotAt M a) f = false := by simpa using hkey
      have hkc : ¬ (keyAt M a == (c.a, c.b)) = true := by
        intro hh
        apply hkey
        unfold keyAt at hh
        simp only [beq_iff_eq, Prod.mk.injEq] at hh
        unfold lkK
        rw [hc, hh.1, hh.2]
        simp
      have hf : (a :: l).find? (fun a => keyAt M a == (c.a, c.b)) = l.find? (fun a => keyAt M a == (c.a, c.b)) := List.find?_cons_of_neg hkc
      have e1 : lkF M f = toF f 2 := by
        rw [lkF1 hp]
        unfold lkSee
        rw [if_neg (by rw [hc, hbk]; omega), if_pos hat, hcur, hkey']
        rfl
      have e2 : lkF M (toF f 2) = curF (toF f 2) (slotAt M a).next 1 := by
        rw [lkF2 rfl]
        unfold lkPass
        have hat' : isAt M (toF f 2) = true := hat
        rw [if_pos hat']
        show curF (toF f 2) (slotAt M (f.cur - 1)).next 1 = _
        rw [hcur]
      have r1 : lkRun (k + 4) M f = lkRun (k + 2) M (curF (toF f 2) (slotAt M a).next 1) := by
        rw [lkRun_go (by rw [e1]; exact hd), e1, lkM_same (by omega), lkRun_go (by rw [e2]; exact hd), e2, lkM_same (by show _ ∧ _ ∧ _; simp [toF])]
      obtain ⟨X, g, h5, h6⟩ := run_walk hM hr hb hbk l (k + 2) (curF (toF f 2) (slotAt M a).next 1) hc rfl hd h3 (fun x hx => hin x (by simp [hx])) (by simp at hk; omega)
      refine ⟨X, g, by rw [r1, h5], ?_⟩
      unfold Found at h6 ⊢
      rw [hf]
      exact h6
  | [], 0, f, hc, hp, hd, hpath, hin, hk => by simp at hk
  | a :: l, 0, f, hc, hp, hd, hpath, hin, hk => by simp at hk
  | a :: l, 1, f, hc, hp, hd, hpath, hin, hk => by simp at hk
  | a :: l, 2, f, hc, hp, hd, hpath, hin, hk => by simp at hk
  | a :: l, 3, f, hc, hp, hd, hpath, hin, hk => by simp at hk

/- A Look that begins, and goes on alone. -/
theorem run_all {M : Mm} (hM : OkC M) (hr : ∀ i, isSl M i = true → refsM M i ≠ 1000) {c : Cl} (hk : c.kind = 1) (hkey : keyB c.a c.b = true) :
    ∃ X g, lkRun (2 * M.slots.length + 6) M (newF c) = (X, g, true) ∧ Found M c (chL M (bkOf M.heads.length c).toNat) X g := by
  have hcall : callE M.slots.length M.heads.length c = 0 := by
    unfold callE
    rw [if_pos (.inl hk), if_pos hkey]
  obtain ⟨b0, b1⟩ := bkOf_in hM.ok hcall
  obtain ⟨b, hb⟩ : ∃ b : Nat, bkOf M.heads.length c = b := ⟨(bkOf M.heads.length c).toNat, by omega⟩
  have e0 : lkF M (newF c) = curF (newF c) (headM M b) 1 := by
    rw [lkF0 rfl]
    unfold lkBegin
    show curF (newF c) (headM M (bkOf M.heads.length c).toNat) 1 = _
    rw [hb]; rfl
  have hlen : (chL M b).length ≤ M.slots.length := (walk_path M.slots M.slots.length (headM M b) (by have := hM.ends b (by omega); unfold chE at this; omega)).2
  obtain ⟨X, g, h1, h2⟩ := run_walk hM hr (b := b) (by omega) hb (chL M b) (2 * M.slots.length + 5) (curF (newF c) (headM M b) 1) rfl rfl rfl (hM.path (by omega)) (fun a ha => ha) (by omega)
  refine ⟨X, g, ?_, ?_⟩
  · rw [lkRun_go (by rw [e0]; rfl), e0, lkM_same (by show _ ∧ _ ∧ _; simp [newF]), h1]
  · rw [hb]
    exact h2



end Go.Proofs.Ytdbilofhcadmoab.mm

/- A closed fact: a call that begins, and ends; FrameBegins' walk. -/
namespace Go.Proofs.Ytdbilofhcadmoab.mm
open Go.ChangeShapes Go.WideShapes Go.ChangeAt Go.RowKit Go.Joins Go.Maps
set_option maxRecDepth 100000
set_option linter.unusedVariables false

theorem frE_new (nS nH : Nat) (c : Cl) : frE nS nH (newF c) = callE nS nH c := by
  by_cases h : callE nS nH c = 0
  · rw [frE_rest (f := newF c) h rfl rfl rfl ((inB_iff _ _ _).2 (by dsimp only [newF]; omega)) ((inB_iff _ _ _).2 (by dsimp only [newF]; omega)) ((inB_iff _ _ _).2 (by dsimp only [newF]; omega)), h]
    rfl
  · exact frE_call (f := newF c) h
theorem newFr_at {c : Cl} {f : Fr} (h : f = newF c) (w : World) : Calls Try.prog 29 #[.agg #[.int .i64 c.kind, .int .i64 c.a, .int .i64 c.b, .int .i64 c.time, .int .i64 c.bk, .int .i64 c.slot]] w fun e w' => e = .returned (.agg #[.int .i64 f.c.kind, .int .i64 f.c.a, .int .i64 f.c.b, .int .i64 f.c.time, .int .i64 f.c.bk, .int .i64 f.c.slot, .int .i64 f.pl, .int .i64 f.cur, .int .i64 f.prev, .int .i64 f.slot, .int .i64 f.n, .slice none f.keys.length 0, .bool f.done, .int .i64 f.e]) ∧ Below w.heap.size w w' := by
  subst h; exact newFr_any c w
theorem endFr_at {f g : Fr} {e0 : Int} (h : g = endF f e0) (aK : Option Addr) (cK : Nat) (w : World) (r : KRow w aK cK f.keys) :
    Calls Try.prog 30 #[.agg #[.int .i64 f.c.kind, .int .i64 f.c.a, .int .i64 f.c.b, .int .i64 f.c.time, .int .i64 f.c.bk, .int .i64 f.c.slot, .int .i64 f.pl, .int .i64 f.cur, .int .i64 f.prev, .int .i64 f.slot, .int .i64 f.n, .slice aK f.keys.length cK, .bool f.done, .int .i64 f.e], .int .i64 e0] w fun e w' => ∃ a c, e = .returned (.agg #[.int .i64 g.c.kind, .int .i64 g.c.a, .int .i64 g.c.b, .int .i64 g.c.time, .int .i64 g.c.bk, .int .i64 g.c.slot, .int .i64 g.pl, .int .i64 g.cur, .int .i64 g.prev, .int .i64 g.slot, .int .i64 g.n, .slice a g.keys.length c, .bool g.done, .int .i64 g.e]) ∧ KRow w' a c g.keys ∧ Below w.heap.size w w' := by
  subst h; exact endFr_any f e0 aK cK w r
theorem frCheck_at {nS nH : Nat} {f : Fr} {E : Int} (h : E = frE nS nH f) (aS aH aF aL : Option Addr) (nF nL cS cH cF cL : Nat) (now : Int) (aK : Option Addr) (cK : Nat) (w : World) (hn : nS ≤ 9223372036854775000) (hh : nH ≤ 9223372036854775000) (hk : f.keys.length ≤ 9223372036854775807) :
    Calls Try.prog 26 #[.agg #[.slice aS nS cS, .slice aH nH cH, .slice aF nF cF, .slice aL nL cL, .int .i64 now], .agg #[.int .i64 f.c.kind, .int .i64 f.c.a, .int .i64 f.c.b, .int .i64 f.c.time, .int .i64 f.c.bk, .int .i64 f.c.slot, .int .i64 f.pl, .int .i64 f.cur, .int .i64 f.prev, .int .i64 f.slot, .int .i64 f.n, .slice aK f.keys.length cK, .bool f.done, .int .i64 f.e]] w fun e w' => e = .returned (.int .i64 E) ∧ Below w.heap.size w w' := by
  subst h; exact frCheck_any aS aH aF aL nS nH nF nL cS cH cF cL now f aK cK w hn hh hk

def fC : Cl := ⟨1, 0, 0, 0, 0, 0⟩

set_option maxHeartbeats 3200000 in
theorem framed_any (w : World) : Calls Try.prog 23 #[] w fun e w' => e = .returned (.bool true) ∧ Below w.heap.size w w' := by
  obtain ⟨M, hM⟩ : ∃ M, M = newM 1 1 := ⟨_, rfl⟩
  have HN : Hid (∀ W : World, Calls Try.prog 69 #[.int .i64 1, .int .i64 1] W fun e w' => ∃ v, e = .returned (.tuple #[v, .int .i64 0]) ∧ Ans W.heap.size w' v M ∧ Below W.heap.size W w') := by
    intro W
    subst hM
    exact new_ok 1 1 W (by omega) (by omega) (by omega)
  have HLen : Hid (M.slots.length = 1 ∧ M.heads.length = 1) := by subst hM; exact ⟨rfl, rfl⟩
  clear hM
  obtain ⟨f, hf⟩ : ∃ f, f = newF fC := ⟨_, rfl⟩
  obtain ⟨g, hg⟩ : ∃ g, g = endF f 7 := ⟨_, rfl⟩
  have HF : Hid (f = newF fC) := hf
  have HG : Hid (g = endF f 7) := hg
  have HC1 : Hid (0 = frE M.slots.length M.heads.length f) := by show _ = _; rw [HLen.out.1, HLen.out.2, hf]; rfl
  have HC2 : Hid (3 = frE M.slots.length M.heads.length g) := by show _ = _; rw [HLen.out.1, HLen.out.2, hg, hf]; rfl
  have hs : f.slot = -1 := by rw [hf]; rfl
  have hd : g.done = true := by rw [hg]; rfl
  have he : g.e = 7 := by rw [hg]; rfl
  have hkf : f.keys.length ≤ 9223372036854775807 := by rw [hf]; exact Nat.zero_le _
  have hkg : g.keys.length ≤ 9223372036854775807 := by rw [hg, hf]; exact Nat.zero_le _
  have HK0 : Hid (f.keys = []) := by show _ = _; rw [hf]; rfl
  have hnS : M.slots.length ≤ 9223372036854775000 := by rw [HLen.out.1]; omega
  have hnH : M.heads.length ≤ 9223372036854775000 := by rw [HLen.out.2]; omega
  have HS : Hid (f.slot = -1) := hs
  have HD : Hid (g.done = true) := hd
  have HEe : Hid (g.e = 7) := he
  clear hf hg hs hd he
  go_enter Try.func23, Try.ntmps23
  go_wp2_with fail
  refine (HN.out w).mono ?_
  rintro e w1 ⟨v1, rfl, A1, hb1⟩
  obtain ⟨aS, aH, aF, aL, cS, cH, cF, cL, rfl⟩ := A1.form
  have HE1 : Hid (Env w (w1.alloc (.cells #[.slice aS M.slots.length cS, .slice aH M.heads.length cH, .slice aF M.free.length cF, .slice aL M.locks.length cL, .int .i64 M.now] 25)) _ []) := (((⟨Below.refl _ _, (fun p hp => by cases hp), (fun p hp => by cases hp)⟩ : Env w w [] []).below hb1)).alloc _
  clear A1 hb1
  go_wp2_with fail
  generalize hX1 : w1.heap.size = X1 at *
  generalize w1.alloc (.cells #[.slice aS M.slots.length cS, .slice aH M.heads.length cH, .slice aF M.free.length cF, .slice aL M.locks.length cL, .int .i64 M.now] 25) = W1 at *
  clear hX1
  refine (newFr_at (c := fC) HF.out W1).mono ?_
  rintro e w2 ⟨rfl, hb2⟩
  have HE2 : Hid _ := (HE1.out.below hb2).alloc (.cells #[.int .i64 f.c.kind, .int .i64 f.c.a, .int .i64 f.c.b, .int .i64 f.c.time, .int .i64 f.c.bk, .int .i64 f.c.slot, .int .i64 f.pl, .int .i64 f.cur, .int .i64 f.prev, .int .i64 f.slot, .int .i64 f.n, .slice none f.keys.length 0, .bool f.done, .int .i64 f.e] 51)
  clear HE1 hb2
  go_wp2_with fail
  generalize hX2 : w2.heap.size = X2 at *
  generalize w2.alloc (.cells #[.int .i64 f.c.kind, .int .i64 f.c.a, .int .i64 f.c.b, .int .i64 f.c.time, .int .i64 f.c.bk, .int .i64 f.c.slot, .int .i64 f.pl, .int .i64 f.cur, .int .i64 f.prev, .int .i64 f.slot, .int .i64 f.n, .slice none f.keys.length 0, .bool f.done, .int .i64 f.e] 51) = W2 at *
  clear hX2
  refine (endFr_at HG.out none 0 W2 (by rw [HK0.out]; exact krow_nil _)).mono ?_
  rintro e w3 ⟨a3, c3, rfl, hr3, hb3⟩
  have HE3 : Hid _ := (HE2.out.below hb3).alloc (.cells #[.int .i64 g.c.kind, .int .i64 g.c.a, .int .i64 g.c.b, .int .i64 g.c.time, .int .i64 g.c.bk, .int .i64 g.c.slot, .int .i64 g.pl, .int .i64 g.cur, .int .i64 g.prev, .int .i64 g.slot, .int .i64 g.n, .slice a3 g.keys.length c3, .bool g.done, .int .i64 g.e] 51)
  have HE3' : Hid _ := HE2.out.below hb3
  clear HE2 hb3 hr3
  obtain ⟨q0, q1, q2, q3, q4, -, -, -, -, -, qs⟩ := boxf (HE3'.out.box _ (.tail _ (.head _)))
  obtain ⟨f0, f1, f2, f3, f4, f5, f6, f7, f8, f9, f10, f11, f12, f13, -, fs⟩ := framef (HE3'.out.box _ (.head _))
  go_wp2_with fail
  generalize hX3 : w3.heap.size = X3 at *
  generalize w3.alloc (.cells #[.int .i64 g.c.kind, .int .i64 g.c.a, .int .i64 g.c.b, .int .i64 g.c.time, .int .i64 g.c.bk, .int .i64 g.c.slot, .int .i64 g.pl, .int .i64 g.cur, .int .i64 g.prev, .int .i64 g.slot, .int .i64 g.n, .slice a3 g.keys.length c3, .bool g.done, .int .i64 g.e] 51) = W3 at *
  clear hX3 q0 q1 q2 q3 q4 qs f0 f1 f2 f3 f4 f5 f6 f7 f8 f9 f10 f11 f12 f13 fs HE3'
  refine (frCheck_at HC1.out aS aH aF aL _ _ cS cH cF cL _ none 0 W3 hnS hnH hkf).mono ?_
  rintro e w4 ⟨rfl, hb4⟩
  have HE4 : Hid _ := HE3.out.below hb4
  clear HE3 hb4
  obtain ⟨q0, q1, q2, q3, q4, -, -, -, -, -, qs⟩ := boxf (HE4.out.box _ (.tail _ (.tail _ (.head _))))
  obtain ⟨f0, f1, f2, f3, f4, f5, f6, f7, f8, f9, f10, f11, f12, f13, -, fs⟩ := framef (HE4.out.box _ (.tail _ (.head _)))
  obtain ⟨g0, g1, g2, g3, g4, g5, g6, g7, g8, g9, g10, g11, g12, g13, -, gs⟩ := framef (HE4.out.box _ (.head _))
  rw [HS.out] at f9
  rw [HD.out] at g12
  rw [HEe.out] at g13
  have HCh : Hid (∀ W : World, Calls Try.prog 26 #[.agg #[.slice aS M.slots.length cS, .slice aH M.heads.length cH, .slice aF M.free.length cF, .slice aL M.locks.length cL, .int .i64 M.now], .agg #[.int .i64 g.c.kind, .int .i64 g.c.a, .int .i64 g.c.b, .int .i64 g.c.time, .int .i64 g.c.bk, .int .i64 g.c.slot, .int .i64 g.pl, .int .i64 g.cur, .int .i64 g.prev, .int .i64 g.slot, .int .i64 g.n, .slice a3 g.keys.length c3, .bool true, .int .i64 7]] W fun e w' => e = .returned (.int .i64 3) ∧ Below W.heap.size W w') := by
    intro W
    have := frCheck_at HC2.out aS aH aF aL M.free.length M.locks.length cS cH cF cL M.now a3 c3 W hnS hnH hkg
    rwa [HD.out, HEe.out] at this
  go_wp2_with fail
  refine (HCh.out w4).mono ?_
  rintro e w5 ⟨rfl, hb5⟩
  have HE5 : Hid _ := HE4.out.below hb5
  go_wp2
  go_ret
  exact ⟨rfl, HE5.out.bl⟩

set_option maxHeartbeats 3200000 in
theorem begins_any (M : Mm) (v : Value) (c : Cl) (w : World) (A0 : Ans 0 w v M) :
    Calls Try.prog 5 #[v, .agg #[.int .i64 c.kind, .int .i64 c.a, .int .i64 c.b, .int .i64 c.time, .int .i64 c.bk, .int .i64 c.slot]] w fun e w' => e = .returned (.bool true) ∧ Below w.heap.size w w' := by
  obtain ⟨aS, aH, aF, aL, cS, cH, cF, cL, rfl⟩ := A0.form
  have m1 := A0.at_.s.max; have m2 := A0.at_.h.max
  have hnS : M.slots.length ≤ 9223372036854775000 := by omega
  have hnH : M.heads.length ≤ 9223372036854775000 := by omega
  obtain ⟨E, hE⟩ : ∃ x, x = callE M.slots.length M.heads.length c := ⟨_, rfl⟩
  obtain ⟨f, hf⟩ : ∃ f, f = newF c := ⟨_, rfl⟩
  obtain ⟨g, hg⟩ : ∃ g, g = endF f E := ⟨_, rfl⟩
  have HC : Hid (E = callE M.slots.length M.heads.length c) := hE
  have HF : Hid (f = newF c) := hf
  have HG : Hid (g = endF f E) := hg
  have HC1 : Hid (E = frE M.slots.length M.heads.length f) := by show _ = _; rw [hf, frE_new]; exact hE
  have hs : f.slot = -1 := by rw [hf]; rfl
  have hp : f.pl = 0 := by rw [hf]; rfl
  have hd : f.done = false := by rw [hf]; rfl
  have HGd : Hid (g.done = true) := by show _ = _; rw [hg]; rfl
  have hkf : f.keys.length ≤ 9223372036854775807 := by rw [hf]; exact Nat.zero_le _
  have HK0 : Hid (f.keys = []) := by show _ = _; rw [hf]; rfl
  have HS : Hid (f.slot = -1) := hs
  have HP : Hid (f.pl = 0) := hp
  have HD : Hid (f.done = false) := hd
  clear hf hg hE hs hp hd
  obtain ⟨om, hom⟩ : ∃ o : Obj, o = .cells #[.slice aS M.slots.length cS, .slice aH M.heads.length cH, .slice aF M.free.length cF, .slice aL M.locks.length cL, .int .i64 M.now] 25 := ⟨_, rfl⟩
  obtain ⟨oc, hoc⟩ : ∃ o : Obj, o = .cells #[.int .i64 c.kind, .int .i64 c.a, .int .i64 c.b, .int .i64 c.time, .int .i64 c.bk, .int .i64 c.slot] 48 := ⟨_, rfl⟩
  have HE0 : Hid (Env w ((w.alloc om).alloc oc) _ []) := ((⟨Below.refl _ _, (fun p hp => by cases hp), (fun p hp => by cases hp)⟩ : Env w w [] []).alloc om).alloc oc
  rw [show (w.alloc om).heap.size = w.heap.size + 1 by simp] at HE0
  clear A0
  go_enter Try.func5, Try.ntmps5
  go_wp2_with fail
  rw [← hom, ← hoc]
  generalize (w.alloc om).alloc oc = W0 at *
  subst hom hoc
  refine (callE_at HC.out aS aH aF aL _ _ cS cH cF cL _ W0 (by omega) (by omega)).mono ?_
  rintro e w1 ⟨rfl, hb1⟩
  have HE1 : Hid _ := HE0.out.below hb1
  clear HE0 hb1
  obtain ⟨c0, c1, c2, c3, c4, c5, cs⟩ := callf (HE1.out.box _ (.head _))
  go_wp2_with fail
  clear c0 c1 c2 c3 c4 c5 cs
  refine (newFr_at HF.out w1).mono ?_
  rintro e w2 ⟨rfl, hb2⟩
  have HE2 : Hid _ := (HE1.out.below hb2).alloc (.cells #[.int .i64 f.c.kind, .int .i64 f.c.a, .int .i64 f.c.b, .int .i64 f.c.time, .int .i64 f.c.bk, .int .i64 f.c.slot, .int .i64 f.pl, .int .i64 f.cur, .int .i64 f.prev, .int .i64 f.slot, .int .i64 f.n, .slice none f.keys.length 0, .bool f.done, .int .i64 f.e] 51)
  clear HE1 hb2
  go_wp2_with fail
  generalize hX2 : w2.heap.size = X2 at *
  generalize w2.alloc (.cells #[.int .i64 f.c.kind, .int .i64 f.c.a, .int .i64 f.c.b, .int .i64 f.c.time, .int .i64 f.c.bk, .int .i64 f.c.slot, .int .i64 f.pl, .int .i64 f.cur, .int .i64 f.prev, .int .i64 f.slot, .int .i64 f.n, .slice none f.keys.length 0, .bool f.done, .int .i64 f.e] 51) = W2 at *
  clear hX2
  refine (framed_any W2).mono ?_
  rintro e w3 ⟨rfl, hb3⟩
  have HE3 : Hid _ := HE2.out.below hb3
  clear HE2 hb3
  obtain ⟨q0, q1, q2, q3, q4, -, -, -, -, -, qs⟩ := boxf (HE3.out.box _ (.tail _ (.tail _ (.head _))))
  obtain ⟨f0, f1, f2, f3, f4, f5, f6, f7, f8, f9, f10, f11, f12, f13, -, fs⟩ := framef (HE3.out.box _ (.head _))
  go_wp2_with fail
  clear q0 q1 q2 q3 q4 qs f0 f1 f2 f3 f4 f5 f6 f7 f8 f9 f10 f11 f12 f13 fs
  refine (frCheck_at HC1.out aS aH aF aL _ _ cS cH cF cL _ none 0 w3 hnS hnH hkf).mono ?_
  rintro e w4 ⟨rfl, hb4⟩
  have HE4 : Hid _ := HE3.out.below hb4
  clear HE3 hb4
  obtain ⟨f0, f1, f2, f3, f4, f5, f6, f7, f8, f9, f10, f11, f12, f13, -, fs⟩ := framef (HE4.out.box _ (.head _))
  rw [HP.out] at f6
  rw [HS.out] at f9
  rw [HD.out] at f12
  have HEn : Hid (∀ W : World, Calls Try.prog 30 #[.agg #[.int .i64 f.c.kind, .int .i64 f.c.a, .int .i64 f.c.b, .int .i64 f.c.time, .int .i64 f.c.bk, .int .i64 f.c.slot, .int .i64 0, .int .i64 f.cur, .int .i64 f.prev, .int .i64 (-1), .int .i64 f.n, .slice none f.keys.length 0, .bool false, .int .i64 f.e], .int .i64 E] W fun e w' => ∃ a c, e = .returned (.agg #[.int .i64 g.c.kind, .int .i64 g.c.a, .int .i64 g.c.b, .int .i64 g.c.time, .int .i64 g.c.bk, .int .i64 g.c.slot, .int .i64 g.pl, .int .i64 g.cur, .int .i64 g.prev, .int .i64 g.slot, .int .i64 g.n, .slice a g.keys.length c, .bool g.done, .int .i64 g.e]) ∧ KRow w' a c g.keys ∧ Below W.heap.size W w') := by
    intro W
    have := endFr_at HG.out none 0 W (by rw [HK0.out]; exact krow_nil _)
    rwa [HP.out, HS.out, HD.out] at this
  go_wp2_with fail
  refine (HEn.out w4).mono ?_
  rintro e w5 ⟨a5, c5, rfl, -, hb5⟩
  have HE5 : Hid _ := HE4.out.below hb5
  have hfl : ∀ (W : World), (Instr.field 51 (.agg #[.int .i64 g.c.kind, .int .i64 g.c.a, .int .i64 g.c.b, .int .i64 g.c.time, .int .i64 g.c.bk, .int .i64 g.c.slot, .int .i64 g.pl, .int .i64 g.cur, .int .i64 g.prev, .int .i64 g.slot, .int .i64 g.n, .slice a5 g.keys.length c5, .bool g.done, .int .i64 g.e]) 7).run Try.prog W = .ok (.bool true) W := fun W => Eq.trans (b := .ok (.bool g.done) W) (by kernel_rfl) (by rw [HGd.out])
  go_wp2
  go_ret
  exact ⟨rfl, HE5.out.bl⟩




end Go.Proofs.Ytdbilofhcadmoab.mm
