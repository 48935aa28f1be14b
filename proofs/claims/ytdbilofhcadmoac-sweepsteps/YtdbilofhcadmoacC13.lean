/- The contract of sweep's part pass. -/
import Derived.Test.YtdbilofhcadmoacC08
import Derived.Test.YtdbilofhcadmoacC11
import Derived.Test.YtdbilofhcadmoacC04
import Derived.Test.YtdbilofhcadmoacC05
namespace Go.Proofs.Ytdbilofhcadmoac.mm
open Go.ChangeShapes Go.WideShapes Go.ChangeAt Go.RowKit Go.Joins Go.Deep Go.Sort
set_option maxRecDepth 100000
set_option linter.unusedVariables false

set_option maxHeartbeats 3200000 in
theorem sw_pass (M : Mm) (f : Fr) (B lo : Nat) (aS aH aF aL : Option Addr) (cS cH cF cL : Nat) (aK : Option Addr) (cK : Nat) (w : World)
    (m : Mine w B lo aS aH aF aL cS cH cF cL M) (hM : Ok M) (hf : Fit M f) (r : KRow w aK cK f.keys) (hz : ∀ ad, aK = some ad → ¬ Foot B aS aH aF aL ad.block) :
    Calls Try.prog 35 #[.pointer (some ⟨B, 0, none⟩), .agg #[.int .i64 f.c.kind, .int .i64 f.c.a, .int .i64 f.c.b, .int .i64 f.c.time, .int .i64 f.c.bk, .int .i64 f.c.slot, .int .i64 f.pl, .int .i64 f.cur, .int .i64 f.prev, .int .i64 f.slot, .int .i64 f.n, .slice aK f.keys.length cK, .bool f.done, .int .i64 f.e]] w fun e w' => Ret w w' e (swPass M f) aK cK ∧ Has w' B lo (Up w (Foot B aS aH aF aL)) (M) ∧ Fine w w' (Foot B aS aH aF aL) := by
  have hns := hM.ns
  have hnh := hM.nh.2
  have hcur := hf.cur.2
  have hc1 : f.cur ≤ 1000 := by omega
  have hn1 : M.slots.length ≤ 1000 := by omega
  have HOk : Hid (Ok M) := hM
  have HR : Hid (KRow w aK cK f.keys) := r
  by_cases hat : isAt M f = true
  · obtain ⟨g, hg⟩ : ∃ g : Fr, g = { f with prev := f.cur, cur := (slotAt M (f.cur - 1)).next } := ⟨_, rfl⟩
    have hres : swPass M f = toF g 2 := by unfold swPass; rw [if_pos hat, hg]; rfl
    have hkeys : g.keys = f.keys := by rw [hg]
    rw [hres]
    have HOn : Hid (∀ W : World, Lk w W B lo aS aH aF aL cS cH cF cL M f aK cK → Calls Try.prog 73 #[.pointer (some ⟨B, 0, none⟩), .agg #[.int .i64 f.c.kind, .int .i64 f.c.a, .int .i64 f.c.b, .int .i64 f.c.time, .int .i64 f.c.bk, .int .i64 f.c.slot, .int .i64 f.pl, .int .i64 f.cur, .int .i64 f.prev, .int .i64 f.slot, .int .i64 f.n, .slice aK f.keys.length cK, .bool f.done, .int .i64 f.e]] W fun e w' => e = .returned (.tuple #[.agg #[.int .i64 g.c.kind, .int .i64 g.c.a, .int .i64 g.c.b, .int .i64 g.c.time, .int .i64 g.c.bk, .int .i64 g.c.slot, .int .i64 g.pl, .int .i64 g.cur, .int .i64 g.prev, .int .i64 g.slot, .int .i64 g.n, .slice aK g.keys.length cK, .bool g.done, .int .i64 g.e], .bool true]) ∧ Lk2 w w' (Foot B aS aH aF aL) B lo M f aK cK) := fun W h => by
      have := onward_yes M f B lo aS aH aF aL cS cH cF cL aK cK W h.m HOk.out hf hat
      rw [← hg] at this
      exact this.mono (fun e w' h' => ⟨h'.1, h.after h'.2.1 h'.2.2⟩)
    rw [← hkeys] at HR
    have HZ : Hid (∀ ad, aK = some ad → ¬ (Foot B aS aH aF aL) ad.block) := hz
    obtain ⟨of, hof⟩ : ∃ o : Obj, o = .cells #[.int .i64 f.c.kind, .int .i64 f.c.a, .int .i64 f.c.b, .int .i64 f.c.time, .int .i64 f.c.bk, .int .i64 f.c.slot, .int .i64 f.pl, .int .i64 f.cur, .int .i64 f.prev, .int .i64 f.slot, .int .i64 f.n, .slice aK f.keys.length cK, .bool f.done, .int .i64 f.e] 33 := ⟨_, rfl⟩
    obtain ⟨oz, hoz⟩ : ∃ o : Obj, o = zeroFr := ⟨_, rfl⟩
    have HE : Hid (Lk w ((w.alloc of).alloc oz) B lo aS aH aF aL cS cH cF cL M f aK cK) := Lk.first m f aK cK hof hoz
    obtain ⟨q0, q1, q2, q3, q4, -, -, -, -, -, qs⟩ := boxf HE.out.m.box
    obtain ⟨f0, f1, f2, f3, f4, f5, f6, f7, f8, f9, f10, f11, f12, f13, ff, fs⟩ := framef HE.out.fb
    unfold zeroFr at hoz
    clear m hc1 hn1 hcur hns hnh hM hf r hz hres hg hkeys hat
    go_enter Try.func35, Try.ntmps35
    go_wp2_with fail
    rw [← hof, ← hoz]
    generalize (w.alloc of).alloc oz = W0 at *
    subst hof hoz
    clear q0 q1 q2 q3 q4 qs
    clear f0 f1 f2 f3 f4 f5 f6 f7 f8 f9 f10 f11 f12 f13 ff fs
    rename_i K1 hK1 K0 hK0
    have HK1 : Hid _ := hK1
    clear hK1
    refine (HOn.out _ (by exact HE.out.below ⟨rfl, rfl, rfl, Nat.le_refl _, fun _ _ => rfl⟩)).mono ?_
    rintro e w2 ⟨rfl, h9⟩
    have HE2 : Hid (Lk2 w w2 (Foot B aS aH aF aL) B lo M f aK cK) := h9
    clear HE h9
    obtain ⟨f0, f1, f2, f3, f4, f5, f6, f7, f8, f9, f10, f11, f12, f13, ff, fs⟩ := framef HE2.out.fb
    go_wp2_with fail
    refine (fun (H : ∀ W3 : World, Lk2 w W3 (Foot B aS aH aF aL) B lo M g aK cK → K1 _ W3) => H _ (HE2.out.all g)) ?_
    clear HE2
    clear f0 f1 f2 f3 f4 f5 f6 f7 f8 f9 f10 f11 f12 f13 ff fs
    intro w3 h3
    have HE3 : Hid (Lk2 w w3 (Foot B aS aH aF aL) B lo M g aK cK) := h3
    clear h3
    refine HK1.out _ _ ?_
    clear HK1
    obtain ⟨f0, f1, f2, f3, f4, f5, f6, f7, f8, f9, f10, f11, f12, f13, ff, fs⟩ := framef HE3.out.fb
    go_wp2_with fail
    refine (to_any g 2 aK cK _).mono ?_
    rintro e w9 ⟨rfl, hb9⟩
    have HE9 : Hid (Lk2 w w9 (Foot B aS aH aF aL) B lo M g aK cK) := HE3.out.below hb9
    clear HE3 hb9
    clear f0 f1 f2 f3 f4 f5 f6 f7 f8 f9 f10 f11 f12 f13 ff fs
    obtain ⟨g0, g1, g2, g3, g4, g5, g6, g7, g8, g9, g10, g11, g12, g13, gf, gs⟩ := framef HE9.out.zb
    go_wp2
    refine bodyPost_ret (v := .agg #[.int .i64 (toF g 2).c.kind, .int .i64 (toF g 2).c.a, .int .i64 (toF g 2).c.b, .int .i64 (toF g 2).c.time, .int .i64 (toF g 2).c.bk, .int .i64 (toF g 2).c.slot, .int .i64 (toF g 2).pl, .int .i64 (toF g 2).cur, .int .i64 (toF g 2).prev, .int .i64 (toF g 2).slot, .int .i64 (toF g 2).n, .slice aK (toF g 2).keys.length cK, .bool (toF g 2).done, .int .i64 (toF g 2).e]) (by simp [results, Try.results35, go_sem, toF, g0, g1, g2, g3, g4, g5, g6, g7, g8, g9, g10, g11, g12, g13]) rfl ⟨⟨aK, cK, rfl, HR.out.fine HE9.out.end14.2 HZ.out, (fun ad h => .inl h), fun _ => ⟨rfl, rfl⟩⟩, HE9.out.end14⟩
  · have hat0 : isAt M f = false := by simpa using hat
    obtain ⟨g, hg⟩ : ∃ g : Fr, g = f := ⟨_, rfl⟩
    have hres : swPass M f = toF g 6 := by unfold swPass; rw [if_neg hat, hg]
    have hkeys : g.keys = f.keys := by rw [hg]
    rw [hres]
    have HOn : Hid (∀ W : World, Lk w W B lo aS aH aF aL cS cH cF cL M f aK cK → Calls Try.prog 73 #[.pointer (some ⟨B, 0, none⟩), .agg #[.int .i64 f.c.kind, .int .i64 f.c.a, .int .i64 f.c.b, .int .i64 f.c.time, .int .i64 f.c.bk, .int .i64 f.c.slot, .int .i64 f.pl, .int .i64 f.cur, .int .i64 f.prev, .int .i64 f.slot, .int .i64 f.n, .slice aK f.keys.length cK, .bool f.done, .int .i64 f.e]] W fun e w' => e = .returned (.tuple #[.agg #[.int .i64 g.c.kind, .int .i64 g.c.a, .int .i64 g.c.b, .int .i64 g.c.time, .int .i64 g.c.bk, .int .i64 g.c.slot, .int .i64 g.pl, .int .i64 g.cur, .int .i64 g.prev, .int .i64 g.slot, .int .i64 g.n, .slice aK g.keys.length cK, .bool g.done, .int .i64 g.e], .bool false]) ∧ Lk2 w w' (Foot B aS aH aF aL) B lo M f aK cK) := fun W h => by
      have := onward_no M f B lo aS aH aF aL cS cH cF cL aK cK W h.m HOk.out hf hat0
      rw [hg]
      exact this.mono (fun e w' h' => ⟨h'.1, h.after h'.2.1 h'.2.2⟩)
    rw [← hkeys] at HR
    have HZ : Hid (∀ ad, aK = some ad → ¬ (Foot B aS aH aF aL) ad.block) := hz
    obtain ⟨of, hof⟩ : ∃ o : Obj, o = .cells #[.int .i64 f.c.kind, .int .i64 f.c.a, .int .i64 f.c.b, .int .i64 f.c.time, .int .i64 f.c.bk, .int .i64 f.c.slot, .int .i64 f.pl, .int .i64 f.cur, .int .i64 f.prev, .int .i64 f.slot, .int .i64 f.n, .slice aK f.keys.length cK, .bool f.done, .int .i64 f.e] 33 := ⟨_, rfl⟩
    obtain ⟨oz, hoz⟩ : ∃ o : Obj, o = zeroFr := ⟨_, rfl⟩
    have HE : Hid (Lk w ((w.alloc of).alloc oz) B lo aS aH aF aL cS cH cF cL M f aK cK) := Lk.first m f aK cK hof hoz
    obtain ⟨q0, q1, q2, q3, q4, -, -, -, -, -, qs⟩ := boxf HE.out.m.box
    obtain ⟨f0, f1, f2, f3, f4, f5, f6, f7, f8, f9, f10, f11, f12, f13, ff, fs⟩ := framef HE.out.fb
    unfold zeroFr at hoz
    clear m hc1 hn1 hcur hns hnh hM hf r hz hres hg hkeys hat hat0
    go_enter Try.func35, Try.ntmps35
    go_wp2_with fail
    rw [← hof, ← hoz]
    generalize (w.alloc of).alloc oz = W0 at *
    subst hof hoz
    clear q0 q1 q2 q3 q4 qs
    clear f0 f1 f2 f3 f4 f5 f6 f7 f8 f9 f10 f11 f12 f13 ff fs
    rename_i K1 hK1 K0 hK0
    have HK1 : Hid _ := hK1
    clear hK1
    refine (HOn.out _ (by exact HE.out.below ⟨rfl, rfl, rfl, Nat.le_refl _, fun _ _ => rfl⟩)).mono ?_
    rintro e w2 ⟨rfl, h9⟩
    have HE2 : Hid (Lk2 w w2 (Foot B aS aH aF aL) B lo M f aK cK) := h9
    clear HE h9
    obtain ⟨f0, f1, f2, f3, f4, f5, f6, f7, f8, f9, f10, f11, f12, f13, ff, fs⟩ := framef HE2.out.fb
    go_wp2_with fail
    refine (fun (H : ∀ W3 : World, Lk2 w W3 (Foot B aS aH aF aL) B lo M g aK cK → K1 _ W3) => H _ (HE2.out.all g)) ?_
    clear HE2
    clear f0 f1 f2 f3 f4 f5 f6 f7 f8 f9 f10 f11 f12 f13 ff fs
    intro w3 h3
    have HE3 : Hid (Lk2 w w3 (Foot B aS aH aF aL) B lo M g aK cK) := h3
    clear h3
    refine HK1.out _ _ ?_
    clear HK1
    obtain ⟨f0, f1, f2, f3, f4, f5, f6, f7, f8, f9, f10, f11, f12, f13, ff, fs⟩ := framef HE3.out.fb
    go_wp2_with fail
    refine (swlate_any g aK cK _).mono ?_
    rintro e w9 ⟨rfl, hb9⟩
    have HE9 : Hid (Lk2 w w9 (Foot B aS aH aF aL) B lo M g aK cK) := HE3.out.below hb9
    clear HE3 hb9
    clear f0 f1 f2 f3 f4 f5 f6 f7 f8 f9 f10 f11 f12 f13 ff fs
    obtain ⟨g0, g1, g2, g3, g4, g5, g6, g7, g8, g9, g10, g11, g12, g13, gf, gs⟩ := framef HE9.out.zb
    go_wp2
    refine bodyPost_ret (v := .agg #[.int .i64 (toF g 6).c.kind, .int .i64 (toF g 6).c.a, .int .i64 (toF g 6).c.b, .int .i64 (toF g 6).c.time, .int .i64 (toF g 6).c.bk, .int .i64 (toF g 6).c.slot, .int .i64 (toF g 6).pl, .int .i64 (toF g 6).cur, .int .i64 (toF g 6).prev, .int .i64 (toF g 6).slot, .int .i64 (toF g 6).n, .slice aK (toF g 6).keys.length cK, .bool (toF g 6).done, .int .i64 (toF g 6).e]) (by simp [results, Try.results35, go_sem, toF, g0, g1, g2, g3, g4, g5, g6, g7, g8, g9, g10, g11, g12, g13]) rfl ⟨⟨aK, cK, rfl, HR.out.fine HE9.out.end14.2 HZ.out, (fun ad h => .inl h), fun _ => ⟨rfl, rfl⟩⟩, HE9.out.end14⟩
end Go.Proofs.Ytdbilofhcadmoac.mm

/- The contracts of cut, on memory of one's own, and of aheadOf. -/
namespace Go.Proofs.Ytdbilofhcadmoac.mm
open Go.ChangeShapes Go.WideShapes Go.ChangeAt Go.RowKit Go.Joins Go.Maps
set_option maxRecDepth 100000
set_option linter.unusedVariables false

set_option maxHeartbeats 800000 in
theorem cut_begin (w : World) (B gS gH nS nH j b cS cH : Nat) (fv lv nv : Value) (x nx ah : Int)
    (hB : w.heap[B]? = some (.cells #[.slice (some ⟨gS, 0, none⟩) nS cS, .slice (some ⟨gH, 0, none⟩) nH cH, fv, lv, nv] 25 (0, 0))) (hj : j < nS) (hb : b < nH) (hn : nS ≤ 12) (hh : nH ≤ 4) (ha : ah ≤ 0)
    (c5 : w.cell? ⟨gS, j * 6 + 5, none⟩ = some (.int .i64 nx)) (ch : w.cell? ⟨gH, b, none⟩ = some (.int .i64 x)) (fh : w.frozen? ⟨gH, b, none⟩ = false) :
    Calls Try.prog 96 #[.pointer (some ⟨B, 0, none⟩), .int .i64 b, .int .i64 ah, .int .i64 j] w fun e w' => e = .returned (.tuple #[]) ∧ w' = w.setCell ⟨gH, b, none⟩ (.int .i64 nx) := by
  obtain ⟨q0, q1, q2, q3, q4, -, -, -, -, -, qs⟩ := boxf hB
  clear hB
  go_enter Try.func96, Try.ntmps96
  go_wp2_with (go_at_call 80; refine (slotOf_no _ _ ha).mono ?_; rintro e w1 ⟨rfl, rfl⟩)
  go_end0
  exact ⟨rfl, rfl⟩

set_option maxHeartbeats 800000 in
theorem cut_mid (w : World) (B gS gH nS nH j b p cS cH : Nat) (fv lv nv : Value) (x nx px : Int)
    (hB : w.heap[B]? = some (.cells #[.slice (some ⟨gS, 0, none⟩) nS cS, .slice (some ⟨gH, 0, none⟩) nH cH, fv, lv, nv] 25 (0, 0))) (hj : j < nS) (hb : b < nH) (hn : nS ≤ 12) (hh : nH ≤ 4) (hp : p < nS)
    (c5 : w.cell? ⟨gS, j * 6 + 5, none⟩ = some (.int .i64 nx)) (d5 : w.cell? ⟨gS, p * 6 + 5, none⟩ = some (.int .i64 px)) (fz : w.frozen? ⟨gS, p * 6 + 5, none⟩ = false) (ch : w.cell? ⟨gH, b, none⟩ = some (.int .i64 x)) :
    Calls Try.prog 96 #[.pointer (some ⟨B, 0, none⟩), .int .i64 b, .int .i64 ((p : Int) + 1), .int .i64 j] w fun e w' => e = .returned (.tuple #[]) ∧ w' = w.setCell ⟨gS, p * 6 + 5, none⟩ (.int .i64 nx) := by
  obtain ⟨q0, q1, q2, q3, q4, -, -, -, -, -, qs⟩ := boxf hB
  clear hB
  go_enter Try.func96, Try.ntmps96
  go_wp2_with (go_at_call 80; refine (slotOf_is _ _ (by omega) (by omega)).mono ?_; rw [show (p : Int) + 1 - 1 = p by omega]; rintro e w1 ⟨rfl, rfl⟩)
  go_end0
  exact ⟨rfl, rfl⟩

theorem cut_now (M : Mm) (w : World) (B lo : Nat) (aS aH aF aL : Option Addr) (cS cH cF cL j b : Nat) (ah : Int) (m : Mine w B lo aS aH aF aL cS cH cF cL M) (hok : Ok M) (hj : j < M.slots.length) (hb : b < M.heads.length) (hah : ah ≤ M.slots.length) :
    Calls Try.prog 96 #[.pointer (some ⟨B, 0, none⟩), .int .i64 b, .int .i64 ah, .int .i64 j] w fun e w' => e = .returned (.tuple #[]) ∧ Now w w' B lo (cutM M b ah j) := by
  obtain ⟨gS, rfl, oS, lS, -, -⟩ := row_form m.c.s (by omega)
  obtain ⟨gH, rfl, oH, lH, -, -⟩ := row_form m.c.h (by omega)
  obtain ⟨c0, c1, c2, c3, c4, c5, fz⟩ := row_cells m.c.s hj
  obtain ⟨ch, fh⟩ := row_cell m.c.h hb
  have hs : slotAt M j = M.slots[j] := slotAt_lt hj
  by_cases ha : 0 < ah
  · obtain ⟨p, rfl⟩ : ∃ p : Nat, ah = (p : Int) + 1 := ⟨(ah - 1).toNat, by omega⟩
    have hp : p < M.slots.length := by omega
    obtain ⟨_, _, _, _, _, d5, _⟩ := row_cells m.c.s hp
    refine (cut_mid w B gS gH _ _ j b p cS cH _ _ _ _ _ _ m.box hj hb hok.ns hok.nh.2 hp c5 d5 (fz _) ch).mono ?_
    rintro e w' ⟨rfl, rfl⟩
    unfold cutM
    rw [if_pos ha, hs, show (p : Int) + 1 - 1 = p by omega, show slotAt M p = M.slots[p] from slotAt_lt hp, Int.toNat_natCast]
    exact ⟨rfl, _, _, _, _, _, _, _, _, m.setS _ _ _ (encS_set5 M.slots p hp _), (Kept.refl w B lo).setCell oS _⟩
  · refine (cut_begin w B gS gH _ _ j b cS cH _ _ _ _ _ _ m.box hj hb hok.ns hok.nh.2 (by omega) c5 ch fh).mono ?_
    rintro e w' ⟨rfl, rfl⟩
    unfold cutM
    rw [if_neg ha, hs]
    exact ⟨rfl, _, _, _, _, _, _, _, _, m.setH b _, (Kept.refl w B lo).setCell oH _⟩
theorem cut_any (M : Mm) (w : World) (B lo : Nat) (aS aH aF aL : Option Addr) (cS cH cF cL j b : Nat) (ah : Int) (m : Mine w B lo aS aH aF aL cS cH cF cL M) (hok : Ok M) (hj : j < M.slots.length) (hb : b < M.heads.length) (hah : ah ≤ M.slots.length) :
    Calls Try.prog 96 #[.pointer (some ⟨B, 0, none⟩), .int .i64 b, .int .i64 ah, .int .i64 j] w fun e w' => e = .returned (.tuple #[]) ∧ Done w w' B lo (cutM M b ah j) := by
  refine (cut_now M w B lo aS aH aF aL cS cH cF cL j b ah m hok hj hb hah).mono ?_
  rintro e w' ⟨rfl, h⟩
  exact ⟨rfl, h.done⟩

/- What is ahead: three variables that a function literal has caught. -/
structure Ahd (w0 : World) (P1 P2 P3 Y : Nat) (ob : Array Value) (W : World) (a la ah : Int) : Prop where
  p1 : W.heap[P1]? = some (.cells #[.int .i64 a] 3 (0, 0))
  p2 : W.heap[P2]? = some (.cells #[.int .i64 la] 3 (0, 0))
  p3 : W.heap[P3]? = some (.cells #[.int .i64 ah] 3 (0, 0))
  box : W.heap[Y]? = some (.cells ob 25 (0, 0))
  below : Below P1 w0 W

theorem Ahd.turn {w0 W : World} {P1 P2 P3 Y : Nat} {ob : Array Value} {a la ah la' : Int} (A : Ahd w0 P1 P2 P3 Y ob W a la ah) (d1 : P1 < P3) (d2 : P3 < P2) (d3 : P2 < Y) :
    Ahd w0 P1 P2 P3 Y ob (W.setCell ⟨P2, 0, none⟩ (.int .i64 la')) a la' ah := by
  refine ⟨(Below.heap_setCell _ _ _ _ (by dsimp only; omega)).trans A.p1, ?_, (Below.heap_setCell _ _ _ _ (by dsimp only; omega)).trans A.p3, (Below.heap_setCell _ _ _ _ (by dsimp only; omega)).trans A.box, A.below.setCell (by dsimp only; omega) _⟩
  have := block_setCell (i := 0) A.p2 (.int .i64 la')
  rw [this]; rfl
theorem Ahd.turn3 {w0 W : World} {P1 P2 P3 Y : Nat} {ob : Array Value} {a la ah ah' : Int} (A : Ahd w0 P1 P2 P3 Y ob W a la ah) (d1 : P1 < P3) (d2 : P3 < P2) (d3 : P2 < Y) :
    Ahd w0 P1 P2 P3 Y ob (W.setCell ⟨P3, 0, none⟩ (.int .i64 ah')) a la ah' := by
  refine ⟨(Below.heap_setCell _ _ _ _ (by dsimp only; omega)).trans A.p1, (Below.heap_setCell _ _ _ _ (by dsimp only; omega)).trans A.p2, ?_, (Below.heap_setCell _ _ _ _ (by dsimp only; omega)).trans A.box, A.below.setCell (by dsimp only; omega) _⟩
  have := block_setCell (i := 0) A.p3 (.int .i64 ah')
  rw [this]; rfl

theorem aheadF_snoc (a c : Int) : ∀ (l : List Int) (ah la : Int), aheadF a (l ++ [c]) ah la = if c == a then (match l.getLast? with | none => la | some p => p + 1) else aheadF a l ah la
  | [], ah, la => by simp [aheadF]
  | x :: l, ah, la => by
    simp only [List.cons_append, aheadF]
    rw [aheadF_snoc a c l]
    split
    · cases l with
      | nil => rfl
      | cons d l => simp [List.getLast?_cons]
    · rfl

end Go.Proofs.Ytdbilofhcadmoac.mm

/- A slot of memory of one's own is cut out of its chain, and what that leaves. -/
namespace Go.Proofs.Ytdbilofhcadmoac.mm
open Go.ChangeShapes Go.WideShapes Go.ChangeAt Go.RowKit Go.Joins
set_option maxRecDepth 100000
set_option linter.unusedVariables false

theorem cut_fine {M : Mm} {w : World} {B lo : Nat} {Z : Nat → Prop} {j b : Nat} {ah : Int} (H : Has w B lo Z M) (hM : Ok M) (hj : j < M.slots.length) (hb : b < M.heads.length) (hah : ah ≤ M.slots.length) :
    Calls Try.prog 96 #[.pointer (some ⟨B, 0, none⟩), .int .i64 b, .int .i64 ah, .int .i64 j] w fun e w' => e = .returned (.tuple #[]) ∧ Has w' B lo (Up w Z) (cutM M b ah j) ∧ Fine w w' Z := by
  obtain ⟨aS, aH, aF, aL, cS, cH, cF, cL, m, hf⟩ := H
  obtain ⟨gS, rfl, oS, lS, -, -⟩ := row_form m.c.s (by omega)
  obtain ⟨gH, rfl, oH, lH, -, -⟩ := row_form m.c.h (by omega)
  obtain ⟨c0, c1, c2, c3, c4, c5, fz⟩ := row_cells m.c.s hj
  obtain ⟨ch, fh⟩ := row_cell m.c.h hb
  have zS : Z gS ∨ w.heap.size ≤ gS := .inl (hf gS (.inr (.inl ⟨_, rfl, rfl⟩)))
  have zH : Z gH ∨ w.heap.size ≤ gH := .inl (hf gH (.inr (.inr (.inl ⟨_, rfl, rfl⟩))))
  have hs : slotAt M j = M.slots[j] := slotAt_lt hj
  by_cases ha : 0 < ah
  · obtain ⟨p, rfl⟩ : ∃ p : Nat, ah = (p : Int) + 1 := ⟨(ah - 1).toNat, by omega⟩
    have hp : p < M.slots.length := by omega
    obtain ⟨_, _, _, _, _, d5, _⟩ := row_cells m.c.s hp
    refine (cut_mid w B gS gH _ _ j b p cS cH _ _ _ _ _ _ m.box hj hb hM.ns hM.nh.2 hp c5 d5 (fz _) ch).mono ?_
    rintro e w' ⟨rfl, rfl⟩
    unfold cutM
    rw [if_pos ha, hs, show (p : Int) + 1 - 1 = p by omega, show slotAt M p = M.slots[p] from slotAt_lt hp, Int.toNat_natCast]
    exact ⟨rfl, ⟨_, _, _, _, _, _, _, _, m.setS _ _ _ (encS_set5 M.slots p hp _), fun k hk => .inl (hf k hk)⟩, (Fine.refl w Z).set zS _ _⟩
  · refine (cut_begin w B gS gH _ _ j b cS cH _ _ _ _ _ _ m.box hj hb hM.ns hM.nh.2 (by omega) c5 ch fh).mono ?_
    rintro e w' ⟨rfl, rfl⟩
    unfold cutM
    rw [if_neg ha, hs]
    exact ⟨rfl, ⟨_, _, _, _, _, _, _, _, m.setH b _, fun k hk => .inl (hf k hk)⟩, (Fine.refl w Z).set zH _ _⟩



end Go.Proofs.Ytdbilofhcadmoac.mm
