/- For any memory, frame, number of a task and choice SweepSteps returns true, and all four read afterwards as they read before: any step of a Sweep or a List does in any memory what the document says. No condition. -/
import Derived.Test.YtdbilofhcadmoacC08
import Derived.Test.YtdbilofhcadmoacC04
import Derived.Test.YtdbilofhcadmoacC05
import Derived.Test.YtdbilofhcadmoacS01
import Derived.Test.YtdbilofhcadmoacS02
import Derived.Test.YtdbilofhcadmoacS03
import Derived.Test.YtdbilofhcadmoacS04
import Derived.Test.YtdbilofhcadmoacS05
import Derived.Test.YtdbilofhcadmoacC19
import Derived.Test.YtdbilofhcadmoacC22
import Derived.Test.YtdbilofhcadmoacC24
/- What the contracts of the document's own steps share. -/
namespace Go.Proofs.Ytdbilofhcadmoac.mm
open Go.ChangeShapes Go.WideShapes Go.ChangeAt Go.RowKit Go.Joins
set_option maxRecDepth 100000
set_option linter.unusedVariables false

theorem Has.kept {w w' : World} {B lo : Nat} {Z : Nat → Prop} {M : Mm} (h : Has w B lo Z M) (hb : Below w.heap.size w w') : Has w' B lo (Up w Z) M ∧ Fine w w' Z :=
  ⟨(h.below hb).mono (fun _ _ hk => .inl hk), .of_below _ hb⟩

theorem isAt_j {M : Mm} {j : Nat} {c : Cl} {pl prev slot nn ee : Int} {keys : List (Int × Int)} {done : Bool} (hj : j < M.slots.length) : isAt M ⟨c, pl, (j : Int) + 1, prev, slot, nn, keys, done, ee⟩ = true :=
  isAt_iff.2 (by show 1 ≤ (j : Int) + 1 ∧ (j : Int) + 1 ≤ M.slots.length; omega)
theorem isAt_no {M : Mm} {cur : Int} {c : Cl} {pl prev slot nn ee : Int} {keys : List (Int × Int)} {done : Bool} (h : cur ≤ 0) : isAt M ⟨c, pl, cur, prev, slot, nn, keys, done, ee⟩ = false := by
  cases hx : isAt M ⟨c, pl, cur, prev, slot, nn, keys, done, ee⟩
  · rfl
  · have : 1 ≤ cur ∧ _ := isAt_iff.1 hx
    omega
theorem isSl_no {M : Mm} {s : Int} (h : s < 0) : isSl M s = false := by
  cases hx : isSl M s
  · rfl
  · have := (isSl_in.1 hx).1
    omega


end Go.Proofs.Ytdbilofhcadmoac.mm

/- The same of what the document reckons with (turnstileref.CutIn). -/
namespace Go.Proofs.Ytdbilofhcadmoac.mm
open Go.ChangeShapes Go.WideShapes Go.ChangeAt Go.RowKit Go.Joins
set_option maxRecDepth 100000
set_option linter.unusedVariables false

theorem rcut_begin (w : World) (B gS gH nS nH j b cS cH : Nat) (fv lv nv : Value) (x nx : Int)
    (hB : w.heap[B]? = some (.cells #[.slice (some ⟨gS, 0, none⟩) nS cS, .slice (some ⟨gH, 0, none⟩) nH cH, fv, lv, nv] 25 (0, 0))) (hj : j < nS) (hb : b < nH) (hn : nS ≤ 12) (hh : nH ≤ 4)
    (c5 : w.cell? ⟨gS, j * 6 + 5, none⟩ = some (.int .i64 nx)) (ch : w.cell? ⟨gH, b, none⟩ = some (.int .i64 x)) (fh : w.frozen? ⟨gH, b, none⟩ = false) :
    Calls Try.prog 44 #[.pointer (some ⟨B, 0, none⟩), .int .i64 0, .int .i64 j, .int .i64 b] w fun e w' => e = .returned (.tuple #[]) ∧ w' = w.setCell ⟨gH, b, none⟩ (.int .i64 nx) := by
  obtain ⟨q0, q1, q2, q3, q4, -, -, -, -, -, qs⟩ := boxf hB
  clear hB
  go_enter Try.func44, Try.ntmps44
  go_wp2
  exact bodyPost_ret (v := .tuple #[]) (by simp [results, Try.results44]) rfl ⟨rfl, rfl⟩
theorem rcut_mid (w : World) (B gS gH nS nH j b p cS cH : Nat) (fv lv nv : Value) (nx px : Int)
    (hB : w.heap[B]? = some (.cells #[.slice (some ⟨gS, 0, none⟩) nS cS, .slice (some ⟨gH, 0, none⟩) nH cH, fv, lv, nv] 25 (0, 0))) (hj : j < nS) (hb : b < nH) (hn : nS ≤ 12) (hh : nH ≤ 4) (hp : p < nS)
    (c5 : w.cell? ⟨gS, j * 6 + 5, none⟩ = some (.int .i64 nx)) (d5 : w.cell? ⟨gS, p * 6 + 5, none⟩ = some (.int .i64 px)) (fz : w.frozen? ⟨gS, p * 6 + 5, none⟩ = false) :
    Calls Try.prog 44 #[.pointer (some ⟨B, 0, none⟩), .int .i64 ((p : Int) + 1), .int .i64 j, .int .i64 b] w fun e w' => e = .returned (.tuple #[]) ∧ w' = w.setCell ⟨gS, p * 6 + 5, none⟩ (.int .i64 nx) := by
  obtain ⟨q0, q1, q2, q3, q4, -, -, -, -, -, qs⟩ := boxf hB
  clear hB
  have e0 : ((p : Int) + 1 == 0) = false := by rw [beq_eq_false_iff_ne]; omega
  go_enter Try.func44, Try.ntmps44
  go_wp2
  go_end0
  exact ⟨rfl, rfl⟩

theorem rcut_fine {M : Mm} {w : World} {B lo : Nat} {Z : Nat → Prop} {j b : Nat} {ah : Int} (H : Has w B lo Z M) (hM : Ok M) (hj : j < M.slots.length) (hb : b < M.heads.length) (ha0 : 0 ≤ ah) (hah : ah ≤ M.slots.length) :
    Calls Try.prog 44 #[.pointer (some ⟨B, 0, none⟩), .int .i64 ah, .int .i64 j, .int .i64 b] w fun e w' => e = .returned (.tuple #[]) ∧ Has w' B lo (Up w Z) (cutM M b ah j) ∧ Fine w w' Z := by
  obtain ⟨aS, aH, aF, aL, cS, cH, cF, cL, m, hf⟩ := H
  obtain ⟨gS, rfl, oS, lS, -, -⟩ := row_form m.c.s (by omega)
  obtain ⟨gH, rfl, oH, lH, -, -⟩ := row_form m.c.h (by omega)
  obtain ⟨c0, c1, c2, c3, c4, c5, fz⟩ := row_cells m.c.s hj
  obtain ⟨ch, fh⟩ := row_cell m.c.h hb
  have zS : Z gS ∨ w.heap.size ≤ gS := .inl (hf gS (.inr (.inl ⟨_, rfl, rfl⟩)))
  have zH : Z gH ∨ w.heap.size ≤ gH := .inl (hf gH (.inr (.inr (.inl ⟨_, rfl, rfl⟩))))
  have hs : slotAt M j = M.slots[j] := slotAt_lt hj
  by_cases ha : 0 < ah
  · obtain ⟨p, rfl⟩ : ∃ p : Nat, ah = (p : Int) + 1 := ⟨(ah - 1).toNat, by omega⟩
    have hp : p < M.slots.length := by omega
    obtain ⟨_, _, _, _, _, d5, _⟩ := row_cells m.c.s hp
    refine (rcut_mid w B gS gH _ _ j b p cS cH _ _ _ _ _ m.box hj hb hM.ns hM.nh.2 hp c5 d5 (fz _)).mono ?_
    rintro e w' ⟨rfl, rfl⟩
    unfold cutM
    rw [if_pos ha, hs, show (p : Int) + 1 - 1 = p by omega, show slotAt M p = M.slots[p] from slotAt_lt hp, Int.toNat_natCast]
    exact ⟨rfl, ⟨_, _, _, _, _, _, _, _, m.setS _ _ _ (encS_set5 M.slots p hp _), fun k hk => .inl (hf k hk)⟩, (Fine.refl w Z).set zS _ _⟩
  · obtain rfl : ah = 0 := by omega
    refine (rcut_begin w B gS gH _ _ j b cS cH _ _ _ _ _ m.box hj hb hM.ns hM.nh.2 c5 ch fh).mono ?_
    rintro e w' ⟨rfl, rfl⟩
    unfold cutM
    rw [if_neg ha, hs]
    exact ⟨rfl, ⟨_, _, _, _, _, _, _, _, m.setH b _, fun k hk => .inl (hf k hk)⟩, (Fine.refl w Z).set zH _ _⟩


end Go.Proofs.Ytdbilofhcadmoac.mm

/- The contract of the document's own SweepStep: it does what sweep's Step does. -/
namespace Go.Proofs.Ytdbilofhcadmoac.mm
open Go.ChangeShapes Go.WideShapes Go.ChangeAt Go.RowKit Go.Joins
set_option maxRecDepth 100000
set_option linter.unusedVariables false

theorem ret_over {w w' : World} {e : Ending} {g : Fr} {aK : Option Addr} {cK : Nat} (h : e = .returned (.agg #[.int .i64 g.c.kind, .int .i64 g.c.a, .int .i64 g.c.b, .int .i64 g.c.time, .int .i64 g.c.bk, .int .i64 g.c.slot, .int .i64 g.pl, .int .i64 g.cur, .int .i64 g.prev, .int .i64 g.slot, .int .i64 g.n, .slice aK g.keys.length cK, .bool g.done, .int .i64 g.e]) ∧ KRow w' aK cK g.keys) : RetS w w' e g aK cK g.keys := .inl ⟨h.1, rfl, h.2⟩

theorem rsw_mine (t : Int) (M : Mm) (f : Fr) (B lo : Nat) (aS aH aF aL : Option Addr) (cS cH cF cL : Nat) (aK : Option Addr) (cK : Nat) (w : World)
    (m : Mine w B lo aS aH aF aL cS cH cF cL M) (hM : Ok M) (hf : Fit M f) (hk : f.c.kind = 4 ∨ f.c.kind = 5) (r : KRow w aK cK f.keys) (hz : ∀ ad, aK = some ad → ¬ Foot B aS aH aF aL ad.block) :
    Calls Try.prog 11 #[.pointer (some ⟨B, 0, none⟩), .agg #[.int .i64 f.c.kind, .int .i64 f.c.a, .int .i64 f.c.b, .int .i64 f.c.time, .int .i64 f.c.bk, .int .i64 f.c.slot, .int .i64 f.pl, .int .i64 f.cur, .int .i64 f.prev, .int .i64 f.slot, .int .i64 f.n, .slice aK f.keys.length cK, .bool f.done, .int .i64 f.e], .int .i64 t] w fun e w' => RetS w w' e (swF M f) aK cK f.keys ∧ Has w' B lo (Up w (Foot B aS aH aF aL)) (swM t M f) ∧ Fine w w' (Foot B aS aH aF aL) := by
  obtain ⟨c, pl, cur, prev, slot, nn, keys, done, ee⟩ := f
  have hd : done = false := hf.done
  subst hd
  have hpl : 0 ≤ pl ∧ pl ≤ 9 := hf.pl
  have hns := hM.ns
  have hnh := hM.nh
  have hcu : cur ≤ M.slots.length := hf.cur.2
  have hpr : 0 ≤ prev ∧ prev ≤ M.slots.length := hf.prev
  have hs0 : -1 ≤ slot := hf.slot.1
  have hsl : slot < M.slots.length := hf.slot.2
  obtain ⟨b0, b1⟩ : 0 ≤ bkOf M.heads.length c ∧ bkOf M.heads.length c < M.heads.length := bkOf_in hM hf.call
  obtain ⟨b, hb⟩ : ∃ b : Nat, bkOf M.heads.length c = b := ⟨_, (Int.toNat_of_nonneg b0).symm⟩
  have hbl : b < M.heads.length := by omega
  have hbn : ∀ g : Fr, g.c = c → bkN M g = b := fun g hg => by unfold bkN; rw [hg, hb]; rfl
  have HBk : Hid (∀ W : World, Calls Try.prog 40 #[.agg #[.slice aS M.slots.length cS, .slice aH M.heads.length cH, .slice aF M.free.length cF, .slice aL M.locks.length cL, .int .i64 M.now], .agg #[.int .i64 c.kind, .int .i64 c.a, .int .i64 c.b, .int .i64 c.time, .int .i64 c.bk, .int .i64 c.slot]] W fun e w' => e = .returned (.int .i64 (b : Int)) ∧ Below W.heap.size W w') := fun W => hb ▸ chainFor_any aS aH aF aL _ _ _ _ cS cH cF cL M.now c W (by omega)
  have toS : ∀ {g : Fr} {M' : Mm} {e : Ending} {w' : World}, g.done = false → g.keys = keys → (Ret w w' e g aK cK ∧ Has w' B lo (Up w (Foot B aS aH aF aL)) M' ∧ Fine w w' (Foot B aS aH aF aL)) → RetS w w' e g aK cK keys ∧ Has w' B lo (Up w (Foot B aS aH aF aL)) M' ∧ Fine w w' (Foot B aS aH aF aL) := fun hd hl h => ⟨h.1.s hd hl, h.2⟩
  have hkl : keys.length ≤ 100 := hf.keys
  have hnn : 0 ≤ nn ∧ nn ≤ 1000000 := by have := hf.n; rwa [inB_iff] at this
  have hkc : c.kind = 4 ∨ c.kind = 5 := hk
  by_cases h7 : 7 ≤ pl
  · rw [swF7 (f := ⟨c, pl, cur, prev, slot, nn, keys, false, ee⟩) h7, swM_same (f := ⟨c, pl, cur, prev, slot, nn, keys, false, ee⟩) (by show pl ≠ 0 ∧ pl ≠ 4 ∧ pl ≠ 5 ∧ pl ≠ 6; omega)]
    exact (rsw7 t M c cur prev slot nn ee keys B lo aS aH aF aL cS cH cF cL aK cK w b m r hz pl h7 HBk).mono (fun _ _ h => toS rfl rfl h)
  · obtain rfl | rfl | rfl | rfl | rfl | rfl | rfl : pl = 0 ∨ pl = 1 ∨ pl = 2 ∨ pl = 3 ∨ pl = 4 ∨ pl = 5 ∨ pl = 6 := by omega
    · rw [swF0 rfl, swM0 rfl]
      have e1 : adLockM M ⟨c, 0, cur, prev, slot, nn, keys, false, ee⟩ t = lockN M b t := by unfold adLockM lockN; rw [hbn _ rfl]
      rw [e1]
      have e2 : drLock M ⟨c, 0, cur, prev, slot, nn, keys, false, ee⟩ = if lockAt M b = -1 then toF ⟨c, 0, cur, prev, slot, nn, keys, false, ee⟩ 1 else ⟨c, 0, cur, prev, slot, nn, keys, false, ee⟩ := by unfold drLock; rw [hbn _ rfl]
      rw [e2]
      by_cases hl : lockAt M b = -1
      · rw [if_pos hl]
        have hl' : (lockAt M b == -1) = true := by simp [hl]
        exact (rsw0a t M c cur prev slot nn ee keys B lo aS aH aF aL cS cH cF cL aK cK w b m r hz _ (fun W Z h => hl' ▸ rlock_fine t h hM hbl) HBk).mono (fun _ _ h => toS rfl rfl h)
      · rw [if_neg hl]
        have hl' : (lockAt M b == -1) = false := by simpa using hl
        exact (rsw0b t M c cur prev slot nn ee keys B lo aS aH aF aL cS cH cF cL aK cK w b m r hz _ (fun W Z h => hl' ▸ rlock_fine t h hM hbl) HBk).mono (fun _ _ h => toS rfl rfl h)
    · rw [swF1 rfl, swM_same (by show (1 : Int) ≠ 0 ∧ (1 : Int) ≠ 4 ∧ (1 : Int) ≠ 5 ∧ (1 : Int) ≠ 6; omega), hbn _ rfl]
      exact (rsw1 t M c cur prev slot nn ee keys B lo aS aH aF aL cS cH cF cL aK cK w b m r hz _ hbl hnh.2 (by simp [headM, List.getD_eq_getElem?_getD, hbl]) HBk).mono (fun _ _ h => toS rfl rfl h)
    · rw [swF2 rfl, swM_same (by show (2 : Int) ≠ 0 ∧ (2 : Int) ≠ 4 ∧ (2 : Int) ≠ 5 ∧ (2 : Int) ≠ 6; omega)]
      by_cases hc : cur ≤ 0
      · rw [show swSee M ⟨c, 2, cur, prev, slot, nn, keys, false, ee⟩ = toF ⟨c, 2, cur, prev, slot, nn, keys, false, ee⟩ 6 by unfold swSee; rw [isAt_no hc]; rfl]
        exact (rsw2a t M c cur prev slot nn ee keys B lo aS aH aF aL cS cH cF cL aK cK w b m r hz hc HBk).mono (fun _ _ h => toS rfl rfl h)
      · obtain ⟨j, rfl⟩ : ∃ j : Nat, cur = (j : Int) + 1 := ⟨(cur - 1).toNat, by omega⟩
        have hj : j < M.slots.length := by omega
        have hw : (j : Int) + 1 - 1 = j := by omega
        have hwf : (⟨c, 2, (j : Int) + 1, prev, slot, nn, keys, false, ee⟩ : Fr).cur - 1 = j := hw
        by_cases h5 : c.kind = 5
        · have h5' : (c.kind == 5) = true := by rw [beq_iff_eq]; exact h5
          by_cases hfl : keys.length < 100
          · rw [show swSee M ⟨c, 2, (j : Int) + 1, prev, slot, nn, keys, false, ee⟩ = toF ⟨c, 2, (j : Int) + 1, prev, slot, nn, keys ++ [((slotAt M (j : Int)).a, (slotAt M (j : Int)).b)], false, ee⟩ 3 by
                unfold swSee swKeys
                rw [if_pos (isAt_j hj), if_pos (show (⟨c, 2, (j : Int) + 1, prev, slot, nn, keys, false, ee⟩ : Fr).c.kind = 5 from h5), if_pos (show (⟨c, 2, (j : Int) + 1, prev, slot, nn, keys, false, ee⟩ : Fr).keys.length < 100 from hfl), hwf]
                rfl]
            exact (rsw2list t M c prev slot nn ee keys B lo aS aH aF aL cS cH cF cL aK cK w b m r hz j _ hns hj rfl h5' hfl _ rfl HBk).mono (fun _ _ h => ⟨.inr h.1, h.2⟩)
          · rw [show swSee M ⟨c, 2, (j : Int) + 1, prev, slot, nn, keys, false, ee⟩ = toF ⟨c, 2, (j : Int) + 1, prev, slot, nn, keys, false, ee⟩ 3 by
                unfold swSee swKeys
                rw [if_pos (isAt_j hj), if_pos (show (⟨c, 2, (j : Int) + 1, prev, slot, nn, keys, false, ee⟩ : Fr).c.kind = 5 from h5), if_neg (show ¬ (⟨c, 2, (j : Int) + 1, prev, slot, nn, keys, false, ee⟩ : Fr).keys.length < 100 from hfl)]
                rfl]
            exact (rsw2full t M c prev slot nn ee keys B lo aS aH aF aL cS cH cF cL aK cK w b m r hz j _ hns hj rfl h5' hfl hkl HBk).mono (fun _ _ h => toS rfl rfl h)
        · have h5' : (c.kind == 5) = false := by rw [beq_eq_false_iff_ne]; exact h5
          by_cases hu : M.now < (slotAt M (j : Int)).unt
          · rw [show swSee M ⟨c, 2, (j : Int) + 1, prev, slot, nn, keys, false, ee⟩ = toF ⟨c, 2, (j : Int) + 1, prev, slot, nn, keys, false, ee⟩ 3 by
                unfold swSee
                rw [if_pos (isAt_j hj), if_neg (show ¬ (⟨c, 2, (j : Int) + 1, prev, slot, nn, keys, false, ee⟩ : Fr).c.kind = 5 from h5), hwf, if_pos hu]]
            exact (rsw2true t M c prev slot nn ee keys B lo aS aH aF aL cS cH cF cL aK cK w b m r hz j _ hns hj rfl h5' hu HBk).mono (fun _ _ h => toS rfl rfl h)
          · rw [show swSee M ⟨c, 2, (j : Int) + 1, prev, slot, nn, keys, false, ee⟩ = toF ⟨c, 2, (j : Int) + 1, prev, slot, nn, keys, false, ee⟩ 4 by
                unfold swSee
                rw [if_pos (isAt_j hj), if_neg (show ¬ (⟨c, 2, (j : Int) + 1, prev, slot, nn, keys, false, ee⟩ : Fr).c.kind = 5 from h5), hwf, if_neg hu]]
            exact (rsw2false t M c prev slot nn ee keys B lo aS aH aF aL cS cH cF cL aK cK w b m r hz j _ hns hj rfl h5' hu HBk).mono (fun _ _ h => toS rfl rfl h)
    · rw [swF3 rfl, swM_same (by show (3 : Int) ≠ 0 ∧ (3 : Int) ≠ 4 ∧ (3 : Int) ≠ 5 ∧ (3 : Int) ≠ 6; omega)]
      by_cases hc : cur ≤ 0
      · rw [show swPass M ⟨c, 3, cur, prev, slot, nn, keys, false, ee⟩ = toF ⟨c, 3, cur, prev, slot, nn, keys, false, ee⟩ 6 by unfold swPass; rw [isAt_no hc]; rfl]
        exact (rsw3b t M c cur prev slot nn ee keys B lo aS aH aF aL cS cH cF cL aK cK w b m r hz hc HBk).mono (fun _ _ h => toS rfl rfl h)
      · obtain ⟨j, rfl⟩ : ∃ j : Nat, cur = (j : Int) + 1 := ⟨(cur - 1).toNat, by omega⟩
        have hj : j < M.slots.length := by omega
        have e0 : swPass M ⟨c, 3, (j : Int) + 1, prev, slot, nn, keys, false, ee⟩ = prevF2 ⟨c, 3, (j : Int) + 1, prev, slot, nn, keys, false, ee⟩ ((j : Int) + 1) (slotAt M j).next 2 := by
          unfold swPass
          rw [if_pos (isAt_j hj)]
          show prevF2 _ _ (slotAt M ((j : Int) + 1 - 1)).next 2 = _
          rw [show (j : Int) + 1 - 1 = j by omega]
        rw [e0]
        exact (rsw3a t M c prev slot nn ee keys B lo aS aH aF aL cS cH cF cL aK cK w b m r hz j _ hns hj rfl HBk).mono (fun _ _ h => toS rfl rfl h)
    · rw [swF4 rfl, swM4 rfl]
      by_cases hc : cur ≤ 0
      · rw [show swCut M ⟨c, 4, cur, prev, slot, nn, keys, false, ee⟩ = toF ⟨c, 4, cur, prev, slot, nn, keys, false, ee⟩ 6 by unfold swCut; rw [isAt_no hc]; rfl, show drCutM M ⟨c, 4, cur, prev, slot, nn, keys, false, ee⟩ = M by unfold drCutM; rw [isAt_no hc]; rfl]
        exact (rsw4b t M c cur prev slot nn ee keys B lo aS aH aF aL cS cH cF cL aK cK w b m r hz hc HBk).mono (fun _ _ h => toS rfl rfl h)
      · obtain ⟨j, rfl⟩ : ∃ j : Nat, cur = (j : Int) + 1 := ⟨(cur - 1).toNat, by omega⟩
        have hj : j < M.slots.length := by omega
        have hw : (j : Int) + 1 - 1 = j := by omega
        rw [show swCut M ⟨c, 4, (j : Int) + 1, prev, slot, nn, keys, false, ee⟩ = { (⟨c, 4, (j : Int) + 1, prev, slot, nn, keys, false, ee⟩ : Fr) with slot := (j : Int), cur := (slotAt M (j : Int)).next, pl := 5 } by
            unfold swCut
            rw [if_pos (isAt_j hj)]
            show ({ (⟨c, 4, (j : Int) + 1, prev, slot, nn, keys, false, ee⟩ : Fr) with slot := (j : Int) + 1 - 1, cur := (slotAt M ((j : Int) + 1 - 1)).next, pl := 5 } : Fr) = _
            rw [hw],
          show drCutM M ⟨c, 4, (j : Int) + 1, prev, slot, nn, keys, false, ee⟩ = cutM M b prev (j : Int) by
            unfold drCutM
            rw [if_pos (isAt_j hj), hbn _ rfl]
            show cutM M b prev ((j : Int) + 1 - 1) = _
            rw [hw]]
        exact (rsw4a t M c prev slot nn ee keys B lo aS aH aF aL cS cH cF cL aK cK w b m r hz j _ hns hj rfl _ (fun W Z h => rcut_fine h hM hj hbl hpr.1 hpr.2) HBk).mono (fun _ _ h => toS rfl rfl h)
    · rw [swF5 rfl, swM5 rfl]
      by_cases hs : slot < 0
      · obtain rfl : slot = -1 := by omega
        rw [show swPut M ⟨c, 5, cur, prev, -1, nn, keys, false, ee⟩ = toF ⟨c, 5, cur, prev, -1, nn, keys, false, ee⟩ 6 by unfold swPut; rw [isSl_no (by omega)]; rfl, show drPutM M ⟨c, 5, cur, prev, -1, nn, keys, false, ee⟩ = M by unfold drPutM; rw [isSl_no (by omega)]; rfl]
        exact (rsw5b t M c cur prev nn ee keys B lo aS aH aF aL cS cH cF cL aK cK w b m r hz HBk).mono (fun _ _ h => toS rfl rfl h)
      · have hi : isSl M slot = true := isSl_in.2 (by omega)
        rw [show drPutM M ⟨c, 5, cur, prev, slot, nn, keys, false, ee⟩ = putN M slot by unfold drPutM; rw [hi]; rfl]
        by_cases hn : nn < 1000000
        · rw [show swPut M ⟨c, 5, cur, prev, slot, nn, keys, false, ee⟩ = { (⟨c, 5, cur, prev, slot, nn, keys, false, ee⟩ : Fr) with slot := -1, n := nn + 1, pl := 2 } by unfold swPut; rw [show isSl M (⟨c, 5, cur, prev, slot, nn, keys, false, ee⟩ : Fr).slot = true from hi, if_pos rfl, if_pos (show (⟨c, 5, cur, prev, slot, nn, keys, false, ee⟩ : Fr).n < 1000000 from hn)]]
          exact (rsw5a t M c cur prev slot nn ee keys B lo aS aH aF aL cS cH cF cL aK cK w b m r hz (by omega) hnn.1 hn _ (fun W Z h => rput_fine h hM hi) HBk).mono (fun _ _ h => toS rfl rfl h)
        · rw [show swPut M ⟨c, 5, cur, prev, slot, nn, keys, false, ee⟩ = { (⟨c, 5, cur, prev, slot, nn, keys, false, ee⟩ : Fr) with slot := -1, n := nn, pl := 2 } by unfold swPut; rw [show isSl M (⟨c, 5, cur, prev, slot, nn, keys, false, ee⟩ : Fr).slot = true from hi, if_pos rfl, if_neg (show ¬ (⟨c, 5, cur, prev, slot, nn, keys, false, ee⟩ : Fr).n < 1000000 from hn)]]
          exact (rsw5c t M c cur prev slot nn ee keys B lo aS aH aF aL cS cH cF cL aK cK w b m r hz (by omega) hnn.1 hn _ (fun W Z h => rput_fine h hM hi) HBk).mono (fun _ _ h => toS rfl rfl h)
    · rw [swF6 rfl, swM6 rfl]
      have e1 : adOpenM M ⟨c, 6, cur, prev, slot, nn, keys, false, ee⟩ t = openN M b t := by unfold adOpenM openN; rw [hbn _ rfl]
      rw [e1]
      exact (rsw6 t M c cur prev slot nn ee keys B lo aS aH aF aL cS cH cF cL aK cK w b m r hz _ (fun W Z h => runlock_fine t h hM hbl) HBk).mono (fun _ _ h => ⟨ret_over h.1, h.2⟩)
end Go.Proofs.Ytdbilofhcadmoac.mm

/- SweepSteps' walk: a step of a Sweep or a List does in any memory what the document's own one does. -/
namespace Go.Proofs.Ytdbilofhcadmoac.mm
open Go.ChangeShapes Go.WideShapes Go.ChangeAt Go.RowKit Go.Joins Go.Deep Go.Sort
set_option maxRecDepth 100000
set_option linter.unusedVariables false

set_option maxHeartbeats 6400000 in
theorem sweepSteps_four (M : Mm) (f : Fr) (t : Int) (v : Value) (aK : Option Addr) (cK : Nat) (w : World) (A0 : Ans 0 w v M) (r : KRow w aK cK f.keys) (hlow : ∀ ad, aK = some ad → ad.block < w.heap.size) :
    Calls Try.prog 3 #[v, .agg #[.int .i64 f.c.kind, .int .i64 f.c.a, .int .i64 f.c.b, .int .i64 f.c.time, .int .i64 f.c.bk, .int .i64 f.c.slot, .int .i64 f.pl, .int .i64 f.cur, .int .i64 f.prev, .int .i64 f.slot, .int .i64 f.n, .slice aK f.keys.length cK, .bool f.done, .int .i64 f.e], .int .i64 t, .bool false] w fun e w' => e = .returned (.bool true) ∧ Below w.heap.size w w' := by
  have hkl : f.keys.length ≤ 9223372036854775807 := by have := r.max; omega
  have HFt : Hid (∀ W : World, Below w.heap.size w W → Calls Try.prog 7 #[v, .agg #[.int .i64 (sweepFr 4 f).c.kind, .int .i64 (sweepFr 4 f).c.a, .int .i64 (sweepFr 4 f).c.b, .int .i64 (sweepFr 4 f).c.time, .int .i64 (sweepFr 4 f).c.bk, .int .i64 (sweepFr 4 f).c.slot, .int .i64 (sweepFr 4 f).pl, .int .i64 (sweepFr 4 f).cur, .int .i64 (sweepFr 4 f).prev, .int .i64 (sweepFr 4 f).slot, .int .i64 (sweepFr 4 f).n, .slice aK (sweepFr 4 f).keys.length cK, .bool (sweepFr 4 f).done, .int .i64 (sweepFr 4 f).e]] W fun e w' => e = .returned (.bool (fitB M (sweepFr 4 f))) ∧ Below W.heap.size W w') := fun W hb => fits_any M (sweepFr 4 f) v aK cK W (A0.below hb) hkl
  have HA : Hid (Ans 0 w v M) := A0
  have HR : Hid (KRow w aK cK f.keys) := r
  have HLow : Hid (∀ ad, aK = some ad → ad.block < w.heap.size) := hlow
  obtain ⟨aS, aH, aF, aL, cS, cH, cF, cL, rfl⟩ := A0.form
  obtain ⟨om, hom⟩ : ∃ o : Obj, o = .cells #[.slice aS M.slots.length cS, .slice aH M.heads.length cH, .slice aF M.free.length cF, .slice aL M.locks.length cL, .int .i64 M.now] 25 := ⟨_, rfl⟩
  obtain ⟨of, hof⟩ : ∃ o : Obj, o = .cells #[.int .i64 4, .int .i64 f.c.a, .int .i64 f.c.b, .int .i64 f.c.time, .int .i64 f.c.bk, .int .i64 f.c.slot, .int .i64 f.pl, .int .i64 f.cur, .int .i64 f.prev, .int .i64 f.slot, .int .i64 f.n, .slice aK f.keys.length cK, .bool f.done, .int .i64 f.e] 33 := ⟨_, rfl⟩
  have HE0 : Hid (Env w ((w.alloc om).alloc of) [((w.alloc om).heap.size, of), (w.heap.size, om)] []) := ((⟨Below.refl _ _, (fun p hp => by cases hp), (fun p hp => by cases hp)⟩ : Env w w [] []).alloc om).alloc of
  rw [show (w.alloc om).heap.size = w.heap.size + 1 by simp] at HE0
  have HBm : Hid (∀ W : World, W.heap[w.heap.size]? = some om → W.heap[w.heap.size]? = some (.cells #[.slice aS M.slots.length cS, .slice aH M.heads.length cH, .slice aF M.free.length cF, .slice aL M.locks.length cL, .int .i64 M.now] 25 (0, 0))) := fun W E => hom ▸ E
  have HBf : Hid (∀ W : World, W.heap[w.heap.size + 1]? = some of → W.heap[w.heap.size + 1]? = some (.cells #[.int .i64 4, .int .i64 f.c.a, .int .i64 f.c.b, .int .i64 f.c.time, .int .i64 f.c.bk, .int .i64 f.c.slot, .int .i64 f.pl, .int .i64 f.cur, .int .i64 f.prev, .int .i64 f.slot, .int .i64 f.n, .slice aK f.keys.length cK, .bool f.done, .int .i64 f.e] 33 (0, 0))) := fun W E => hof ▸ E
  have HMx : Hid (M.slots.length * 48 ≤ 140737488351232 ∧ M.heads.length * 8 ≤ 140737488351232 ∧ M.free.length * 8 ≤ 140737488351232 ∧ M.locks.length * 8 ≤ 140737488351232) := ⟨A0.at_.s.max, A0.at_.h.max, A0.at_.f.max, A0.at_.l.max⟩
  clear A0 r hkl hlow
  go_enter Try.func3, Try.ntmps3
  go_wp2_with fail
  rw [← hom, ← hof]
  generalize (w.alloc om).alloc of = W0 at *
  clear hom hof
  refine (swept_any W0).mono ?_
  rintro e w1 ⟨rfl, hb1⟩
  have HE1 : Hid (Env w w1 [(w.heap.size + 1, of), (w.heap.size, om)] []) := HE0.out.below hb1
  clear HE0 hb1
  obtain ⟨q0, q1, q2, q3, q4, -, -, -, -, -, qs⟩ := boxf (HBm.out _ (HE1.out.box _ (.tail _ (.head _))))
  obtain ⟨f0, f1, f2, f3, f4, f5, f6, f7, f8, f9, f10, f11, f12, f13, -, fs⟩ := framef (HBf.out _ (HE1.out.box _ (.head _)))
  go_wp2_with fail
  clear q0 q1 q2 q3 q4 qs f0 f1 f2 f3 f4 f5 f6 f7 f8 f9 f10 f11 f12 f13 fs
  refine (HFt.out w1 HE1.out.bl).mono ?_
  rintro e w2 ⟨rfl, hb2⟩
  have HE2 : Hid (Env w w2 [(w.heap.size + 1, of), (w.heap.size, om)] []) := HE1.out.below hb2
  clear HE1 hb2 HFt
  cases hfit : fitB M (sweepFr 4 f)
  · obtain ⟨q0, q1, q2, q3, q4, -, -, -, -, -, qs⟩ := boxf (HBm.out _ (HE2.out.box _ (.tail _ (.head _))))
    obtain ⟨f0, f1, f2, f3, f4, f5, f6, f7, f8, f9, f10, f11, f12, f13, -, fs⟩ := framef (HBf.out _ (HE2.out.box _ (.head _)))
    go_wp2_with fail
    refine (swept_any w2).mono ?_
    rintro e w3 ⟨rfl, hb3⟩
    have HE3 : Hid _ := HE2.out.below hb3
    go_wp2
    go_ret
    exact ⟨rfl, HE3.out.bl⟩
  obtain ⟨hOk, hFit⟩ := fitB_iff.1 hfit
  obtain ⟨N, hN⟩ : ∃ N, N = swM t M (sweepFr 4 f) := ⟨_, rfl⟩
  obtain ⟨g, hg⟩ : ∃ g, g = swF M (sweepFr 4 f) := ⟨_, rfl⟩
  have hfree := free_few hOk
  have HSt : Hid (∀ (W : World) (B lo : Nat) (xS xH xF xL : Option Addr) (kS kH kF kL : Nat), Mine W B lo xS xH xF xL kS kH kF kL M → KRow W aK cK f.keys → (∀ ad, aK = some ad → ¬ Foot B xS xH xF xL ad.block) →
      Calls Try.prog 10 #[.pointer (some ⟨B, 0, none⟩), .agg #[.int .i64 4, .int .i64 f.c.a, .int .i64 f.c.b, .int .i64 f.c.time, .int .i64 f.c.bk, .int .i64 f.c.slot, .int .i64 f.pl, .int .i64 f.cur, .int .i64 f.prev, .int .i64 f.slot, .int .i64 f.n, .slice aK f.keys.length cK, .bool f.done, .int .i64 f.e], .int .i64 t] W fun e w' => (∃ a c, e = .returned (.agg #[.int .i64 g.c.kind, .int .i64 g.c.a, .int .i64 g.c.b, .int .i64 g.c.time, .int .i64 g.c.bk, .int .i64 g.c.slot, .int .i64 g.pl, .int .i64 g.cur, .int .i64 g.prev, .int .i64 g.slot, .int .i64 g.n, .slice a g.keys.length c, .bool g.done, .int .i64 g.e]) ∧ KRow w' a c g.keys ∧ (∀ ad, a = some ad → aK = some ad ∨ W.heap.size ≤ ad.block)) ∧ Has w' B lo (Up W (Foot B xS xH xF xL)) N ∧ Fine W w' (Foot B xS xH xF xL)) := fun W B lo xS xH xF xL kS kH kF kL m r hz => by
    subst hN hg
    refine (sw_mine t M (sweepFr 4 f) B lo xS xH xF xL kS kH kF kL aK cK W m hOk hFit (.inl rfl) r hz).mono ?_
    rintro e w' ⟨hr, hh, hf⟩
    obtain ⟨a, c, rfl, kr, hi⟩ := hr.three (sw_keys_few hFit)
    exact ⟨⟨a, c, rfl, kr, hi⟩, hh, hf⟩
  have HRt : Hid (∀ (W : World) (B lo : Nat) (xS xH xF xL : Option Addr) (kS kH kF kL : Nat), Mine W B lo xS xH xF xL kS kH kF kL M → KRow W aK cK f.keys → (∀ ad, aK = some ad → ¬ Foot B xS xH xF xL ad.block) →
      Calls Try.prog 11 #[.pointer (some ⟨B, 0, none⟩), .agg #[.int .i64 4, .int .i64 f.c.a, .int .i64 f.c.b, .int .i64 f.c.time, .int .i64 f.c.bk, .int .i64 f.c.slot, .int .i64 f.pl, .int .i64 f.cur, .int .i64 f.prev, .int .i64 f.slot, .int .i64 f.n, .slice aK f.keys.length cK, .bool f.done, .int .i64 f.e], .int .i64 t] W fun e w' => (∃ a c, e = .returned (.agg #[.int .i64 g.c.kind, .int .i64 g.c.a, .int .i64 g.c.b, .int .i64 g.c.time, .int .i64 g.c.bk, .int .i64 g.c.slot, .int .i64 g.pl, .int .i64 g.cur, .int .i64 g.prev, .int .i64 g.slot, .int .i64 g.n, .slice a g.keys.length c, .bool g.done, .int .i64 g.e]) ∧ KRow w' a c g.keys ∧ (∀ ad, a = some ad → aK = some ad ∨ W.heap.size ≤ ad.block)) ∧ Has w' B lo (Up W (Foot B xS xH xF xL)) N ∧ Fine W w' (Foot B xS xH xF xL)) := fun W B lo xS xH xF xL kS kH kF kL m r hz => by
    subst hN hg
    refine (rsw_mine t M (sweepFr 4 f) B lo xS xH xF xL kS kH kF kL aK cK W m hOk hFit (.inl rfl) r hz).mono ?_
    rintro e w' ⟨hr, hh, hf⟩
    obtain ⟨a, c, rfl, kr, hi⟩ := hr.three (sw_keys_few hFit)
    exact ⟨⟨a, c, rfl, kr, hi⟩, hh, hf⟩
  clear hfit hOk hFit hN hg
  have HFe : Hid (M.free.length ≤ 12) := hfree
  clear hfree
  obtain ⟨q0, q1, q2, q3, q4, -, -, -, -, -, qs⟩ := boxf (HBm.out _ (HE2.out.box _ (.tail _ (.head _))))
  obtain ⟨f0, f1, f2, f3, f4, f5, f6, f7, f8, f9, f10, f11, f12, f13, -, fs⟩ := framef (HBf.out _ (HE2.out.box _ (.head _)))
  go_wp2_with fail
  clear q0 q1 q2 q3 q4 qs f0 f1 f2 f3 f4 f5 f6 f7 f8 f9 f10 f11 f12 f13 fs
  rename_i K0 hK0
  have h2 : w.heap.size + 1 < w2.heap.size := HE2.out.lt (.head _)
  refine wp_region_at (by kernel_rfl) actT rfl (JtT w2 M (.agg #[.slice aS M.slots.length cS, .slice aH M.heads.length cH, .slice aF M.free.length cF, .slice aL M.locks.length cL, .int .i64 M.now])) ?_ ?_ ?_
  · refine ⟨by simp, fun k _ => rfl, fun _ _ => False, ?_⟩
    have e : (fun i => (Array.replicate 8 false).getD i false) = fun _ => false := by
      funext i
      by_cases h : i < 8 <;> simp [Array.getD_eq_getD_getElem?, h]
    show TwT w2 M _ (fun i => (Array.replicate 8 false).getD i false) _ _ _
    rw [e]
    exact TwT.start (Below.refl _ _).drew
  · intro listed x W i hi hJ
    obtain ⟨hi1, hi2, o, ho, hpre⟩ := ready_spec hi
    clear hi
    have hi1' : i < 8 := hi1
    clear hi1
    have hJ' := hJ
    obtain ⟨hsz, hout, Z, T⟩ := hJ'
    have hbw : Below w.heap.size w W := HE2.out.bl.trans (T.bl.mono HE2.out.bl.size)
    obtain ⟨q0, q1, q2, q3, q4, -, -, -, -, -, qs⟩ := boxf (HBm.out W ((T.bl.block _ (by omega)).trans (HE2.out.box _ (.tail _ (.head _)))))
    have x2 : x 4 = .pointer (some ⟨w.heap.size, 0, none⟩) := hout 4 (by decide)
    obtain rfl | rfl | rfl | rfl | rfl | rfl | rfl | rfl : i = 0 ∨ i = 1 ∨ i = 2 ∨ i = 3 ∨ i = 4 ∨ i = 5 ∨ i = 6 ∨ i = 7 := by omega
    · exact wpOp_val rfl rfl (v := .agg #[.slice aS M.slots.length cS, .slice aH M.heads.length cH, .slice aF M.free.length cF, .slice aL M.locks.length cL, .int .i64 M.now]) (w' := W) (by simp [execOp, go_sem, (show (actT x).tmps[4]?.getD undef = _ from x2), q0, q1, q2, q3, q4]) ⟨updv x 25 _, rfl, hJ.next 0 (by omega) (updv_outT (by decide)) T.a0⟩
    · have g0 : listed.getD 0 false = true := hpre ⟨0, .data⟩ (by simp at ho; subst ho; simp) rfl
      have x18 := T.p0 g0
      refine wpOp_in rfl rfl (f := 8) (args := #[.agg #[.slice aS M.slots.length cS, .slice aH M.heads.length cH, .slice aF M.free.length cF, .slice aL M.locks.length cL, .int .i64 M.now]]) (by simp [execOp, go_sem, (show (actT x).tmps[25]?.getD undef = _ from x18)]) ((ownMem_any M aS aH aF aL cS cH cF cL W (HA.out.at_.below hbw)).mono ?_)
      rintro e w3 ⟨xS, xH, xF, xL, kS, kH, kF, kL, rfl, R3, hb3⟩
      exact ⟨_, rfl, updv x 26 _, rfl, hJ.next 1 (by omega) (updv_outT (by decide)) (T.a1 (getD_ft hi2) hb3 ⟨_, _, _, _, _, _, _, _, rfl, R3, fun _ _ => trivial⟩)⟩
    · exact wpOp_val rfl rfl (v := .agg #[.slice aS M.slots.length cS, .slice aH M.heads.length cH, .slice aF M.free.length cF, .slice aL M.locks.length cL, .int .i64 M.now]) (w' := W) (by simp [execOp, go_sem, (show (actT x).tmps[4]?.getD undef = _ from x2), q0, q1, q2, q3, q4]) ⟨updv x 27 _, rfl, hJ.next 2 (by omega) (updv_outT (by decide)) T.a2⟩
    · have g2 : listed.getD 2 false = true := hpre ⟨2, .data⟩ (by simp at ho; subst ho; simp) rfl
      have x20 := T.p2 g2
      refine wpOp_in rfl rfl (f := 8) (args := #[.agg #[.slice aS M.slots.length cS, .slice aH M.heads.length cH, .slice aF M.free.length cF, .slice aL M.locks.length cL, .int .i64 M.now]]) (by simp [execOp, go_sem, (show (actT x).tmps[27]?.getD undef = _ from x20)]) ((ownMem_any M aS aH aF aL cS cH cF cL W (HA.out.at_.below hbw)).mono ?_)
      rintro e w3 ⟨xS, xH, xF, xL, kS, kH, kF, kL, rfl, R3, hb3⟩
      exact ⟨_, rfl, updv x 28 _, rfl, hJ.next 3 (by omega) (updv_outT (by decide)) (T.a3 (getD_ft hi2) hb3 ⟨_, _, _, _, _, _, _, _, rfl, R3, fun _ _ => trivial⟩)⟩
    · exact wpOp_val rfl rfl (v := .pointer (some ⟨W.heap.size, 0, none⟩)) (w' := W.alloc zeroTw) (by simp only [execOp]; simp [go_sem, zeroTw]) ⟨updv x 9 _, rfl, hJ.next 4 (by omega) (updv_outT (by decide)) (T.a4 (getD_ft hi2))⟩
    · exact wpOp_val rfl rfl (v := .pointer (some ⟨W.heap.size, 0, none⟩)) (w' := W.alloc zeroTw) (by simp only [execOp]; simp [go_sem, zeroTw]) ⟨updv x 10 _, rfl, hJ.next 5 (by omega) (updv_outT (by decide)) (T.a5 (getD_ft hi2))⟩
    · have g4 : listed.getD 4 false = true := hpre ⟨4, .data⟩ (by simp at ho; subst ho; simp) rfl
      have g1 : listed.getD 1 false = true := hpre ⟨1, .data⟩ (by simp at ho; subst ho; simp) rfl
      obtain ⟨B, x5, -, hz, -⟩ := T.p4 g4
      obtain ⟨xS, xH, xF, xL, kS, kH, kF, kL, x19, -, -⟩ := T.p1 g1
      have hz' := hz (getD_ft hi2)
      unfold zeroTw at hz'
      obtain ⟨r0, r1, r2, r3, r4, z0, z1, z2, z3, z4, zs⟩ := boxf hz'
      refine wpOp_skip rfl rfl (w' := set5 W B (.slice xS M.slots.length kS) (.slice xH M.heads.length kH) (.slice xF M.free.length kF) (.slice xL M.locks.length kL) (.int .i64 M.now)) (by
        simp [execOp, go_sem, (show (actT x).tmps[9]?.getD undef = _ from x5), (show (actT x).tmps[26]?.getD undef = _ from x19), r0, r1, r2, r3, r4, z0, z1, z2, z3, z4]
        rfl) ⟨x, rfl, hJ.next 6 (by omega) (fun _ _ => rfl) (T.a6 g1 g4 (getD_ft hi2) x5 x19)⟩
    · have g5 : listed.getD 5 false = true := hpre ⟨5, .data⟩ (by simp at ho; subst ho; simp) rfl
      have g3 : listed.getD 3 false = true := hpre ⟨3, .data⟩ (by simp at ho; subst ho; simp) rfl
      obtain ⟨B, x6, -, hz, -⟩ := T.p5 g5
      obtain ⟨xS, xH, xF, xL, kS, kH, kF, kL, x21, -, -⟩ := T.p3 g3
      have hz' := hz (getD_ft hi2)
      unfold zeroTw at hz'
      obtain ⟨r0, r1, r2, r3, r4, z0, z1, z2, z3, z4, zs⟩ := boxf hz'
      refine wpOp_skip rfl rfl (w' := set5 W B (.slice xS M.slots.length kS) (.slice xH M.heads.length kH) (.slice xF M.free.length kF) (.slice xL M.locks.length kL) (.int .i64 M.now)) (by
        simp [execOp, go_sem, (show (actT x).tmps[10]?.getD undef = _ from x6), (show (actT x).tmps[28]?.getD undef = _ from x21), r0, r1, r2, r3, r4, z0, z1, z2, z3, z4]
        rfl) ⟨x, rfl, hJ.next 7 (by omega) (fun _ _ => rfl) (T.a7 g3 g5 (getD_ft hi2) x6 x21)⟩
  intro listed x W hr hJ
  obtain ⟨hsz, hout, Z, T⟩ := hJ
  have hall := all_listed hr hsz (by kernel_rfl) 8
  have g6 : listed.getD 6 false = true := hall 6 (by omega) (by show 6 < 8; omega)
  have g7 : listed.getD 7 false = true := hall 7 (by omega) (by show 7 < 8; omega)
  clear hr hall
  obtain ⟨Bx, By, xS, xH, xF, xL, kS, kH, kF, kL, yS, yH, yF, yL, jS, jH, jF, jL, e5, e6, mx, my, fx, fy⟩ := T.fin g6 g7 (by have := HMx.out.1; omega) (by have := HMx.out.2.1; omega) (by have := HFe.out; omega) (by have := HMx.out.2.2.2; omega)
  have e2 : x 4 = .pointer (some ⟨w.heap.size, 0, none⟩) := hout 4 (by decide)
  have et : x 2 = .int .i64 t := hout 2 (by decide)
  have e3 : x 5 = .pointer (some ⟨w.heap.size + 1, 0, none⟩) := hout 5 (by decide)
  have HE3 : Hid (Env w W [(w.heap.size + 1, of), (w.heap.size, om)] []) := ⟨HE2.out.bl.trans (T.bl.mono HE2.out.bl.size), (fun p hp => (T.bl.block _ (HE2.out.lt hp)).trans (HE2.out.box p hp)), fun p hp => by cases hp⟩
  have HX : Hid (Mine W Bx w2.heap.size xS xH xF xL kS kH kF kL M) := mx
  have HY : Hid (Mine W By w2.heap.size yS yH yF yL jS jH jF jL M) := my
  have HFx : Hid (∀ k, Foot Bx xS xH xF xL k → w.heap.size + 2 ≤ k) := fun k h => by have := fx k h; omega
  have HFy : Hid (∀ k, Foot By yS yH yF yL k → w.heap.size + 2 ≤ k ∧ ¬ Foot Bx xS xH xF xL k) := fun k h => ⟨by have := (fy k h).1; omega, (fy k h).2⟩
  clear T hout g6 g7 hsz mx my fx fy HE2 h2
  refine hK0 _ _ ?_
  unfold actT
  rw [et, e2, e3, e5, e6]
  clear et e2 e3 e5 e6
  go_wp2_with fail
  rename_i K1 hK1
  have HLb : Hid (∀ p ∈ [(w.heap.size + 1, of), (w.heap.size, om)], p.1 < w.heap.size + 2) := by
    intro p hp
    rcases List.mem_cons.1 hp with rfl | hp
    · dsimp only; omega
    rcases List.mem_cons.1 hp with rfl | hp
    · dsimp only; omega
    cases hp
  generalize w2.heap.size = lo at *
  have T0 : TsT w [(w.heap.size + 1, of), (w.heap.size, om)] (.agg #[.int .i64 4, .int .i64 f.c.a, .int .i64 f.c.b, .int .i64 f.c.time, .int .i64 f.c.bk, .int .i64 f.c.slot, .int .i64 f.pl, .int .i64 f.cur, .int .i64 f.prev, .int .i64 f.slot, .int .i64 f.n, .slice aK f.keys.length cK, .bool f.done, .int .i64 f.e]) g M N Bx By lo (fun _ => false) (fun _ => undef) (Foot Bx xS xH xF xL) (Foot By yS yH yF yL) W :=
    TsT.start HE3.out ⟨_, _, _, _, _, _, _, _, HX.out, fun k h => h⟩ ⟨_, _, _, _, _, _, _, _, HY.out, fun k h => h⟩ (fun k h => ⟨HFx.out k h, foot_lt HX.out k h⟩) (fun k h => ⟨(HFy.out k h).1, foot_lt HY.out k h⟩) (fun k h h' => (HFy.out k h').2 h)
  have HT0 : Hid _ := T0
  clear T0 HX HY HFx HFy HE3
  refine wp_region_at (by kernel_rfl) actT rfl (JsT w [(w.heap.size + 1, of), (w.heap.size, om)] (.agg #[.int .i64 4, .int .i64 f.c.a, .int .i64 f.c.b, .int .i64 f.c.time, .int .i64 f.c.bk, .int .i64 f.c.slot, .int .i64 f.pl, .int .i64 f.cur, .int .i64 f.prev, .int .i64 f.slot, .int .i64 f.n, .slice aK f.keys.length cK, .bool f.done, .int .i64 f.e]) t g M N Bx By lo) ?_ ?_ ?_
  · refine ⟨by simp, fun k _ => rfl, (fun h => by simp [Array.getD_eq_getD_getElem?] at h), (fun h => by simp [Array.getD_eq_getD_getElem?] at h), Foot Bx xS xH xF xL, Foot By yS yH yF yL, ?_⟩
    have e : (fun i => (Array.replicate 13 false).getD i false) = fun _ => false := by
      funext i
      by_cases h : i < 13 <;> simp [Array.getD_eq_getD_getElem?, h]
    show TsT w _ _ g M N Bx By lo (fun i => (Array.replicate 13 false).getD i false) _ _ _ _
    rw [e]
    have T1 := HT0.out.below (W' := { W with drawn := W.drawn + 1 }) (Below.refl _ _).drew
    exact ⟨T1.ev, T1.hx, T1.hy, T1.rx, T1.ry, T1.dj, (fun h => by cases h), (fun h => by cases h), (fun h => by cases h), (fun h => by cases h), (fun h => by cases h), (fun h => by cases h), (fun h => by cases h), (fun h => by cases h), (fun h => by cases h), (fun h => by cases h), (fun h => by cases h), (fun h => by cases h), (fun h => by cases h), (fun h => by cases h), (fun h => by cases h), (fun h => by cases h)⟩
  · clear HT0
    intro listed y W i hi hJ
    obtain ⟨hi1, hi2, o, ho, hpre⟩ := ready_spec hi
    clear hi
    have hi1' : i < 13 := hi1
    clear hi1
    have hJ' := hJ
    obtain ⟨hsz, hout, ht1, ht4, Zx, Zy, T⟩ := hJ'
    have y3 : y 5 = .pointer (some ⟨w.heap.size + 1, 0, none⟩) := hout 5 (by decide)
    have y5 : y 9 = .pointer (some ⟨Bx, 0, none⟩) := hout 9 (by decide)
    have y6 : y 10 = .pointer (some ⟨By, 0, none⟩) := hout 10 (by decide)
    have yt : y 2 = .int .i64 t := hout 2 (by decide)
    obtain rfl | rfl | rfl | rfl | rfl | rfl | rfl | rfl | rfl | rfl | rfl | rfl | rfl : i = 0 ∨ i = 1 ∨ i = 2 ∨ i = 3 ∨ i = 4 ∨ i = 5 ∨ i = 6 ∨ i = 7 ∨ i = 8 ∨ i = 9 ∨ i = 10 ∨ i = 11 ∨ i = 12 := by omega
    · obtain ⟨f0, f1, f2, f3, f4, f5, f6, f7, f8, f9, f10, f11, f12, f13, -, fs⟩ := framef (HBf.out _ (T.ev.box _ (.head _)))
      exact wpOp_val rfl rfl (v := .agg #[.int .i64 4, .int .i64 f.c.a, .int .i64 f.c.b, .int .i64 f.c.time, .int .i64 f.c.bk, .int .i64 f.c.slot, .int .i64 f.pl, .int .i64 f.cur, .int .i64 f.prev, .int .i64 f.slot, .int .i64 f.n, .slice aK f.keys.length cK, .bool f.done, .int .i64 f.e]) (w' := W) (by simp [execOp, go_sem, (show (actT y).tmps[5]?.getD undef = _ from y3), f0, f1, f2, f3, f4, f5, f6, f7, f8, f9, f10, f11, f12, f13]) ⟨updv y 29 _, rfl, hJ.next 0 (by omega) (by omega) (by omega) (updv_outsT (by decide)) T.b0⟩
    · exact wpOp_val rfl rfl (v := .int .i64 t) (w' := W) (by simp [execOp, go_sem, (show (actT y).tmps[2]?.getD undef = _ from yt)]) ⟨updv y 30 _, rfl, hJ.move 1 30 (by omega)⟩
    · have gv : listed.getD 1 false = true := hpre ⟨1, .data⟩ (by simp at ho; subst ho; simp) rfl
      have yv := ht1 gv
      have g0 : listed.getD 0 false = true := hpre ⟨0, .data⟩ (by simp at ho; subst ho; simp) rfl
      have y22 := T.p0 g0
      obtain ⟨zS, zH, zF, zL, lS, lH, lF, lL, m, hft⟩ := T.hx0 (getD_ft hi2)
      refine wpOp_in rfl rfl (f := 10) (args := #[.pointer (some ⟨Bx, 0, none⟩), .agg #[.int .i64 4, .int .i64 f.c.a, .int .i64 f.c.b, .int .i64 f.c.time, .int .i64 f.c.bk, .int .i64 f.c.slot, .int .i64 f.pl, .int .i64 f.cur, .int .i64 f.prev, .int .i64 f.slot, .int .i64 f.n, .slice aK f.keys.length cK, .bool f.done, .int .i64 f.e], .int .i64 t]) (by simp [execOp, go_sem, (show (actT y).tmps[9]?.getD undef = _ from y5), (show (actT y).tmps[29]?.getD undef = _ from y22), (show (actT y).tmps[30]?.getD undef = _ from yv)]) ((HSt.out W Bx lo zS zH zF zL lS lH lF lL m (HR.out.below T.ev.bl) (fun ad h hF => by have := HLow.out ad h; have := (T.rx _ (hft _ hF)).1; omega)).mono ?_)
      rintro e w3 ⟨⟨a, c, rfl, kr, hi⟩, hh, hf⟩
      exact ⟨_, rfl, updv y 31 _, rfl, hJ.next 2 (by omega) (by omega) (by omega) (updv_outsT (by decide)) (T.b1 (getD_ft hi2) HLb.out HLow.out hft kr hi hh hf)⟩
    · obtain ⟨f0, f1, f2, f3, f4, f5, f6, f7, f8, f9, f10, f11, f12, f13, -, fs⟩ := framef (HBf.out _ (T.ev.box _ (.head _)))
      exact wpOp_val rfl rfl (v := .agg #[.int .i64 4, .int .i64 f.c.a, .int .i64 f.c.b, .int .i64 f.c.time, .int .i64 f.c.bk, .int .i64 f.c.slot, .int .i64 f.pl, .int .i64 f.cur, .int .i64 f.prev, .int .i64 f.slot, .int .i64 f.n, .slice aK f.keys.length cK, .bool f.done, .int .i64 f.e]) (w' := W) (by simp [execOp, go_sem, (show (actT y).tmps[5]?.getD undef = _ from y3), f0, f1, f2, f3, f4, f5, f6, f7, f8, f9, f10, f11, f12, f13]) ⟨updv y 32 _, rfl, hJ.next 3 (by omega) (by omega) (by omega) (updv_outsT (by decide)) T.b2⟩
    · exact wpOp_val rfl rfl (v := .int .i64 t) (w' := W) (by simp [execOp, go_sem, (show (actT y).tmps[2]?.getD undef = _ from yt)]) ⟨updv y 33 _, rfl, hJ.move 4 33 (by omega)⟩
    · have gv : listed.getD 4 false = true := hpre ⟨4, .data⟩ (by simp at ho; subst ho; simp) rfl
      have yv := ht4 gv
      have g2 : listed.getD 3 false = true := hpre ⟨3, .data⟩ (by simp at ho; subst ho; simp) rfl
      have g1 : listed.getD 2 false = true := hpre ⟨2, .chain⟩ (by simp at ho; subst ho; simp) rfl
      have y24 := T.p2 g2
      obtain ⟨zS, zH, zF, zL, lS, lH, lF, lL, m, hft⟩ := T.hy0 (getD_ft hi2)
      refine wpOp_in rfl rfl (f := 11) (args := #[.pointer (some ⟨By, 0, none⟩), .agg #[.int .i64 4, .int .i64 f.c.a, .int .i64 f.c.b, .int .i64 f.c.time, .int .i64 f.c.bk, .int .i64 f.c.slot, .int .i64 f.pl, .int .i64 f.cur, .int .i64 f.prev, .int .i64 f.slot, .int .i64 f.n, .slice aK f.keys.length cK, .bool f.done, .int .i64 f.e], .int .i64 t]) (by simp [execOp, go_sem, (show (actT y).tmps[10]?.getD undef = _ from y6), (show (actT y).tmps[32]?.getD undef = _ from y24), (show (actT y).tmps[33]?.getD undef = _ from yv)]) ((HRt.out W By lo zS zH zF zL lS lH lF lL m (HR.out.below T.ev.bl) (fun ad h hF => by have := HLow.out ad h; have := (T.ry _ (hft _ hF)).1; omega)).mono ?_)
      rintro e w3 ⟨⟨a, c, rfl, kr, hi⟩, hh, hf⟩
      exact ⟨_, rfl, updv y 34 _, rfl, hJ.next 5 (by omega) (by omega) (by omega) (updv_outsT (by decide)) (T.b3 (getD_ft hi2) g1 HLb.out hft kr hh hf)⟩
    · have g1 : listed.getD 2 false = true := hpre ⟨2, .data⟩ (by simp at ho; subst ho; simp) rfl
      have g3 : listed.getD 5 false = true := hpre ⟨5, .data⟩ (by simp at ho; subst ho; simp) rfl
      obtain ⟨a, c, y23, kr, -⟩ := T.p1 g1
      obtain ⟨a', c', y25, kr'⟩ := T.p3 g3
      refine wpOp_in rfl rfl (f := 9) (args := #[fval g a c, fval g a' c']) (by simp [execOp, go_sem, (show (actT y).tmps[31]?.getD undef = _ from y23), (show (actT y).tmps[34]?.getD undef = _ from y25)]) ((sameFr_true g a a' c c' W kr kr').mono ?_)
      rintro e w3 ⟨rfl, hb⟩
      exact ⟨_, rfl, updv y 35 _, rfl, hJ.next 6 (by omega) (by omega) (by omega) (updv_outsT (by decide)) ((T.below hb).b4 g3)⟩
    · have g4 : listed.getD 6 false = true := hpre ⟨6, .data⟩ (by simp at ho; subst ho; simp) rfl
      have y26 := T.p4 g4
      exact wpOp_val rfl rfl (v := .bool true) (w' := W) (by simp [execOp, go_sem, (show (actT y).tmps[35]?.getD undef = _ from y26)]) ⟨updv y 36 _, rfl, hJ.next 7 (by omega) (by omega) (by omega) (updv_outsT (by decide)) (T.b5 g4)⟩
    · have g5 : listed.getD 7 false = true := hpre ⟨7, .guard⟩ (by simp at ho; subst ho; simp) rfl
      have y27 := T.p5 g5
      obtain ⟨nS, nH, nF, nL, lS, lH, lF, lL, m, -⟩ := T.hx1 (T.e3 (T.e4 (T.e5 g5)))
      obtain ⟨q0, q1, q2, q3, q4, -, -, -, -, -, qs⟩ := boxf m.box
      exact wpOp_vals rfl (wants (ops := _) (k := 7) (d := 36) (b := true) rfl rfl (by show some (y 36) = _; rw [y27])) (v := .agg #[.slice nS N.slots.length lS, .slice nH N.heads.length lH, .slice nF N.free.length lF, .slice nL N.locks.length lL, .int .i64 N.now]) (w' := W) (by simp [execOp, go_sem, (show (actT y).tmps[9]?.getD undef = _ from y5), q0, q1, q2, q3, q4]) ⟨updv y 37 _, rfl, hJ.next 8 (by omega) (by omega) (by omega) (updv_outsT (by decide)) (T.b6 g5 (m.ans.mono (Nat.zero_le _)))⟩
    · have g5 : listed.getD 7 false = true := hpre ⟨7, .guard⟩ (by simp at ho; subst ho; simp) rfl
      have y27 := T.p5 g5
      obtain ⟨nS, nH, nF, nL, lS, lH, lF, lL, m, -⟩ := T.hy1 (T.e4 (T.e5 g5))
      obtain ⟨q0, q1, q2, q3, q4, -, -, -, -, -, qs⟩ := boxf m.box
      exact wpOp_vals rfl (wants (ops := _) (k := 7) (d := 36) (b := true) rfl rfl (by show some (y 36) = _; rw [y27])) (v := .agg #[.slice nS N.slots.length lS, .slice nH N.heads.length lH, .slice nF N.free.length lF, .slice nL N.locks.length lL, .int .i64 N.now]) (w' := W) (by simp [execOp, go_sem, (show (actT y).tmps[10]?.getD undef = _ from y6), q0, q1, q2, q3, q4]) ⟨updv y 38 _, rfl, hJ.next 9 (by omega) (by omega) (by omega) (updv_outsT (by decide)) (T.b7 g5 (m.ans.mono (Nat.zero_le _)))⟩
    · have g5 : listed.getD 7 false = true := hpre ⟨7, .guard⟩ (by simp at ho; subst ho; simp) rfl
      have g6 : listed.getD 8 false = true := hpre ⟨8, .data⟩ (by simp at ho; subst ho; simp) rfl
      have g7 : listed.getD 9 false = true := hpre ⟨9, .data⟩ (by simp at ho; subst ho; simp) rfl
      have y27 := T.p5 g5
      have a1 := T.p6 g6
      have a2 := T.p7 g7
      generalize h28 : y 37 = u1 at a1
      generalize h29 : y 38 = u2 at a2
      have hr := rsame_any N N u1 u2 W 0 0 a1 a2
      rw [eqM_selfA] at hr
      obtain ⟨_, _, _, _, _, _, _, _, rfl⟩ := a1.form
      obtain ⟨_, _, _, _, _, _, _, _, rfl⟩ := a2.form
      refine wpOp_ins rfl (wants (ops := _) (k := 7) (d := 36) (b := true) rfl rfl (by show some (y 36) = _; rw [y27])) (f := 12) (by simp [execOp, go_sem, (show (actT y).tmps[37]?.getD undef = _ from h28), (show (actT y).tmps[38]?.getD undef = _ from h29)]) (hr.mono ?_)
      rintro e w3 ⟨rfl, hb⟩
      exact ⟨_, rfl, updv y 39 _, rfl, hJ.next 10 (by omega) (by omega) (by omega) (updv_outsT (by decide)) (T.below hb).b8⟩
    · have g5 : listed.getD 7 false = true := hpre ⟨7, .data⟩ (by simp at ho; subst ho; simp) rfl
      have g8 : listed.getD 10 false = true := hpre ⟨10, .data⟩ (by simp at ho; subst ho; simp) rfl
      have y27 := T.p5 g5
      have y30 := T.p8 g8
      exact wpOp_val rfl rfl (v := .bool true) (w' := W) (by simp [execOp, go_sem, (show (actT y).tmps[36]?.getD undef = _ from y27), (show (actT y).tmps[39]?.getD undef = _ from y30)]) ⟨updv y 40 _, rfl, hJ.next 11 (by omega) (by omega) (by omega) (updv_outsT (by decide)) T.b9⟩
    · have g9 : listed.getD 11 false = true := hpre ⟨11, .data⟩ (by simp at ho; subst ho; simp) rfl
      have y31 := T.p9 g9
      exact wpOp_val rfl rfl (v := .bool true) (w' := W) (by simp [execOp, go_sem, (show (actT y).tmps[40]?.getD undef = _ from y31)]) ⟨updv y 8 _, rfl, hJ.next 12 (by omega) (by omega) (by omega) (updv_outsT (by decide)) T.b10⟩
  intro listed y W' hr hJ
  obtain ⟨hsz, hout, ht1, ht4, Zx, Zy, T⟩ := hJ
  have hall := all_listed hr hsz (by kernel_rfl) 13
  have g10 : listed.getD 12 false = true := hall 12 (by omega) (by show 12 < 13; omega)
  have y4 := T.p10 g10
  have HBl : Hid (Below w.heap.size w W') := T.ev.bl
  clear hr hall T hout hsz g10 ht1 ht4
  refine hK1 _ _ ?_
  unfold actT
  rw [y4]
  clear y4
  go_wp2
  go_ret
  exact ⟨rfl, HBl.out⟩




end Go.Proofs.Ytdbilofhcadmoac.mm

/- SweepSteps' walk: a step of a Sweep or a List does in any memory what the document's own one does. -/
namespace Go.Proofs.Ytdbilofhcadmoac.mm
open Go.ChangeShapes Go.WideShapes Go.ChangeAt Go.RowKit Go.Joins Go.Deep Go.Sort
set_option maxRecDepth 100000
set_option linter.unusedVariables false

set_option maxHeartbeats 6400000 in
theorem sweepSteps_five (M : Mm) (f : Fr) (t : Int) (v : Value) (aK : Option Addr) (cK : Nat) (w : World) (A0 : Ans 0 w v M) (r : KRow w aK cK f.keys) (hlow : ∀ ad, aK = some ad → ad.block < w.heap.size) :
    Calls Try.prog 3 #[v, .agg #[.int .i64 f.c.kind, .int .i64 f.c.a, .int .i64 f.c.b, .int .i64 f.c.time, .int .i64 f.c.bk, .int .i64 f.c.slot, .int .i64 f.pl, .int .i64 f.cur, .int .i64 f.prev, .int .i64 f.slot, .int .i64 f.n, .slice aK f.keys.length cK, .bool f.done, .int .i64 f.e], .int .i64 t, .bool true] w fun e w' => e = .returned (.bool true) ∧ Below w.heap.size w w' := by
  have hkl : f.keys.length ≤ 9223372036854775807 := by have := r.max; omega
  have HFt : Hid (∀ W : World, Below w.heap.size w W → Calls Try.prog 7 #[v, .agg #[.int .i64 (sweepFr 5 f).c.kind, .int .i64 (sweepFr 5 f).c.a, .int .i64 (sweepFr 5 f).c.b, .int .i64 (sweepFr 5 f).c.time, .int .i64 (sweepFr 5 f).c.bk, .int .i64 (sweepFr 5 f).c.slot, .int .i64 (sweepFr 5 f).pl, .int .i64 (sweepFr 5 f).cur, .int .i64 (sweepFr 5 f).prev, .int .i64 (sweepFr 5 f).slot, .int .i64 (sweepFr 5 f).n, .slice aK (sweepFr 5 f).keys.length cK, .bool (sweepFr 5 f).done, .int .i64 (sweepFr 5 f).e]] W fun e w' => e = .returned (.bool (fitB M (sweepFr 5 f))) ∧ Below W.heap.size W w') := fun W hb => fits_any M (sweepFr 5 f) v aK cK W (A0.below hb) hkl
  have HA : Hid (Ans 0 w v M) := A0
  have HR : Hid (KRow w aK cK f.keys) := r
  have HLow : Hid (∀ ad, aK = some ad → ad.block < w.heap.size) := hlow
  obtain ⟨aS, aH, aF, aL, cS, cH, cF, cL, rfl⟩ := A0.form
  obtain ⟨om, hom⟩ : ∃ o : Obj, o = .cells #[.slice aS M.slots.length cS, .slice aH M.heads.length cH, .slice aF M.free.length cF, .slice aL M.locks.length cL, .int .i64 M.now] 25 := ⟨_, rfl⟩
  obtain ⟨of, hof⟩ : ∃ o : Obj, o = .cells #[.int .i64 5, .int .i64 f.c.a, .int .i64 f.c.b, .int .i64 f.c.time, .int .i64 f.c.bk, .int .i64 f.c.slot, .int .i64 f.pl, .int .i64 f.cur, .int .i64 f.prev, .int .i64 f.slot, .int .i64 f.n, .slice aK f.keys.length cK, .bool f.done, .int .i64 f.e] 33 := ⟨_, rfl⟩
  have HE0 : Hid (Env w ((w.alloc om).alloc of) [((w.alloc om).heap.size, of), (w.heap.size, om)] []) := ((⟨Below.refl _ _, (fun p hp => by cases hp), (fun p hp => by cases hp)⟩ : Env w w [] []).alloc om).alloc of
  rw [show (w.alloc om).heap.size = w.heap.size + 1 by simp] at HE0
  have HBm : Hid (∀ W : World, W.heap[w.heap.size]? = some om → W.heap[w.heap.size]? = some (.cells #[.slice aS M.slots.length cS, .slice aH M.heads.length cH, .slice aF M.free.length cF, .slice aL M.locks.length cL, .int .i64 M.now] 25 (0, 0))) := fun W E => hom ▸ E
  have HBf : Hid (∀ W : World, W.heap[w.heap.size + 1]? = some of → W.heap[w.heap.size + 1]? = some (.cells #[.int .i64 5, .int .i64 f.c.a, .int .i64 f.c.b, .int .i64 f.c.time, .int .i64 f.c.bk, .int .i64 f.c.slot, .int .i64 f.pl, .int .i64 f.cur, .int .i64 f.prev, .int .i64 f.slot, .int .i64 f.n, .slice aK f.keys.length cK, .bool f.done, .int .i64 f.e] 33 (0, 0))) := fun W E => hof ▸ E
  have HMx : Hid (M.slots.length * 48 ≤ 140737488351232 ∧ M.heads.length * 8 ≤ 140737488351232 ∧ M.free.length * 8 ≤ 140737488351232 ∧ M.locks.length * 8 ≤ 140737488351232) := ⟨A0.at_.s.max, A0.at_.h.max, A0.at_.f.max, A0.at_.l.max⟩
  clear A0 r hkl hlow
  go_enter Try.func3, Try.ntmps3
  go_wp2_with fail
  rw [← hom, ← hof]
  generalize (w.alloc om).alloc of = W0 at *
  clear hom hof
  refine (swept_any W0).mono ?_
  rintro e w1 ⟨rfl, hb1⟩
  have HE1 : Hid (Env w w1 [(w.heap.size + 1, of), (w.heap.size, om)] []) := HE0.out.below hb1
  clear HE0 hb1
  obtain ⟨q0, q1, q2, q3, q4, -, -, -, -, -, qs⟩ := boxf (HBm.out _ (HE1.out.box _ (.tail _ (.head _))))
  obtain ⟨f0, f1, f2, f3, f4, f5, f6, f7, f8, f9, f10, f11, f12, f13, -, fs⟩ := framef (HBf.out _ (HE1.out.box _ (.head _)))
  go_wp2_with fail
  clear q0 q1 q2 q3 q4 qs f0 f1 f2 f3 f4 f5 f6 f7 f8 f9 f10 f11 f12 f13 fs
  refine (HFt.out w1 HE1.out.bl).mono ?_
  rintro e w2 ⟨rfl, hb2⟩
  have HE2 : Hid (Env w w2 [(w.heap.size + 1, of), (w.heap.size, om)] []) := HE1.out.below hb2
  clear HE1 hb2 HFt
  cases hfit : fitB M (sweepFr 5 f)
  · obtain ⟨q0, q1, q2, q3, q4, -, -, -, -, -, qs⟩ := boxf (HBm.out _ (HE2.out.box _ (.tail _ (.head _))))
    obtain ⟨f0, f1, f2, f3, f4, f5, f6, f7, f8, f9, f10, f11, f12, f13, -, fs⟩ := framef (HBf.out _ (HE2.out.box _ (.head _)))
    go_wp2_with fail
    refine (swept_any w2).mono ?_
    rintro e w3 ⟨rfl, hb3⟩
    have HE3 : Hid _ := HE2.out.below hb3
    go_wp2
    go_ret
    exact ⟨rfl, HE3.out.bl⟩
  obtain ⟨hOk, hFit⟩ := fitB_iff.1 hfit
  obtain ⟨N, hN⟩ : ∃ N, N = swM t M (sweepFr 5 f) := ⟨_, rfl⟩
  obtain ⟨g, hg⟩ : ∃ g, g = swF M (sweepFr 5 f) := ⟨_, rfl⟩
  have hfree := free_few hOk
  have HSt : Hid (∀ (W : World) (B lo : Nat) (xS xH xF xL : Option Addr) (kS kH kF kL : Nat), Mine W B lo xS xH xF xL kS kH kF kL M → KRow W aK cK f.keys → (∀ ad, aK = some ad → ¬ Foot B xS xH xF xL ad.block) →
      Calls Try.prog 10 #[.pointer (some ⟨B, 0, none⟩), .agg #[.int .i64 5, .int .i64 f.c.a, .int .i64 f.c.b, .int .i64 f.c.time, .int .i64 f.c.bk, .int .i64 f.c.slot, .int .i64 f.pl, .int .i64 f.cur, .int .i64 f.prev, .int .i64 f.slot, .int .i64 f.n, .slice aK f.keys.length cK, .bool f.done, .int .i64 f.e], .int .i64 t] W fun e w' => (∃ a c, e = .returned (.agg #[.int .i64 g.c.kind, .int .i64 g.c.a, .int .i64 g.c.b, .int .i64 g.c.time, .int .i64 g.c.bk, .int .i64 g.c.slot, .int .i64 g.pl, .int .i64 g.cur, .int .i64 g.prev, .int .i64 g.slot, .int .i64 g.n, .slice a g.keys.length c, .bool g.done, .int .i64 g.e]) ∧ KRow w' a c g.keys ∧ (∀ ad, a = some ad → aK = some ad ∨ W.heap.size ≤ ad.block)) ∧ Has w' B lo (Up W (Foot B xS xH xF xL)) N ∧ Fine W w' (Foot B xS xH xF xL)) := fun W B lo xS xH xF xL kS kH kF kL m r hz => by
    subst hN hg
    refine (sw_mine t M (sweepFr 5 f) B lo xS xH xF xL kS kH kF kL aK cK W m hOk hFit (.inr rfl) r hz).mono ?_
    rintro e w' ⟨hr, hh, hf⟩
    obtain ⟨a, c, rfl, kr, hi⟩ := hr.three (sw_keys_few hFit)
    exact ⟨⟨a, c, rfl, kr, hi⟩, hh, hf⟩
  have HRt : Hid (∀ (W : World) (B lo : Nat) (xS xH xF xL : Option Addr) (kS kH kF kL : Nat), Mine W B lo xS xH xF xL kS kH kF kL M → KRow W aK cK f.keys → (∀ ad, aK = some ad → ¬ Foot B xS xH xF xL ad.block) →
      Calls Try.prog 11 #[.pointer (some ⟨B, 0, none⟩), .agg #[.int .i64 5, .int .i64 f.c.a, .int .i64 f.c.b, .int .i64 f.c.time, .int .i64 f.c.bk, .int .i64 f.c.slot, .int .i64 f.pl, .int .i64 f.cur, .int .i64 f.prev, .int .i64 f.slot, .int .i64 f.n, .slice aK f.keys.length cK, .bool f.done, .int .i64 f.e], .int .i64 t] W fun e w' => (∃ a c, e = .returned (.agg #[.int .i64 g.c.kind, .int .i64 g.c.a, .int .i64 g.c.b, .int .i64 g.c.time, .int .i64 g.c.bk, .int .i64 g.c.slot, .int .i64 g.pl, .int .i64 g.cur, .int .i64 g.prev, .int .i64 g.slot, .int .i64 g.n, .slice a g.keys.length c, .bool g.done, .int .i64 g.e]) ∧ KRow w' a c g.keys ∧ (∀ ad, a = some ad → aK = some ad ∨ W.heap.size ≤ ad.block)) ∧ Has w' B lo (Up W (Foot B xS xH xF xL)) N ∧ Fine W w' (Foot B xS xH xF xL)) := fun W B lo xS xH xF xL kS kH kF kL m r hz => by
    subst hN hg
    refine (rsw_mine t M (sweepFr 5 f) B lo xS xH xF xL kS kH kF kL aK cK W m hOk hFit (.inr rfl) r hz).mono ?_
    rintro e w' ⟨hr, hh, hf⟩
    obtain ⟨a, c, rfl, kr, hi⟩ := hr.three (sw_keys_few hFit)
    exact ⟨⟨a, c, rfl, kr, hi⟩, hh, hf⟩
  clear hfit hOk hFit hN hg
  have HFe : Hid (M.free.length ≤ 12) := hfree
  clear hfree
  obtain ⟨q0, q1, q2, q3, q4, -, -, -, -, -, qs⟩ := boxf (HBm.out _ (HE2.out.box _ (.tail _ (.head _))))
  obtain ⟨f0, f1, f2, f3, f4, f5, f6, f7, f8, f9, f10, f11, f12, f13, -, fs⟩ := framef (HBf.out _ (HE2.out.box _ (.head _)))
  go_wp2_with fail
  clear q0 q1 q2 q3 q4 qs f0 f1 f2 f3 f4 f5 f6 f7 f8 f9 f10 f11 f12 f13 fs
  rename_i K0 hK0
  have h2 : w.heap.size + 1 < w2.heap.size := HE2.out.lt (.head _)
  refine wp_region_at (by kernel_rfl) actT rfl (JtT w2 M (.agg #[.slice aS M.slots.length cS, .slice aH M.heads.length cH, .slice aF M.free.length cF, .slice aL M.locks.length cL, .int .i64 M.now])) ?_ ?_ ?_
  · refine ⟨by simp, fun k _ => rfl, fun _ _ => False, ?_⟩
    have e : (fun i => (Array.replicate 8 false).getD i false) = fun _ => false := by
      funext i
      by_cases h : i < 8 <;> simp [Array.getD_eq_getD_getElem?, h]
    show TwT w2 M _ (fun i => (Array.replicate 8 false).getD i false) _ _ _
    rw [e]
    exact TwT.start (Below.refl _ _).drew
  · intro listed x W i hi hJ
    obtain ⟨hi1, hi2, o, ho, hpre⟩ := ready_spec hi
    clear hi
    have hi1' : i < 8 := hi1
    clear hi1
    have hJ' := hJ
    obtain ⟨hsz, hout, Z, T⟩ := hJ'
    have hbw : Below w.heap.size w W := HE2.out.bl.trans (T.bl.mono HE2.out.bl.size)
    obtain ⟨q0, q1, q2, q3, q4, -, -, -, -, -, qs⟩ := boxf (HBm.out W ((T.bl.block _ (by omega)).trans (HE2.out.box _ (.tail _ (.head _)))))
    have x2 : x 4 = .pointer (some ⟨w.heap.size, 0, none⟩) := hout 4 (by decide)
    obtain rfl | rfl | rfl | rfl | rfl | rfl | rfl | rfl : i = 0 ∨ i = 1 ∨ i = 2 ∨ i = 3 ∨ i = 4 ∨ i = 5 ∨ i = 6 ∨ i = 7 := by omega
    · exact wpOp_val rfl rfl (v := .agg #[.slice aS M.slots.length cS, .slice aH M.heads.length cH, .slice aF M.free.length cF, .slice aL M.locks.length cL, .int .i64 M.now]) (w' := W) (by simp [execOp, go_sem, (show (actT x).tmps[4]?.getD undef = _ from x2), q0, q1, q2, q3, q4]) ⟨updv x 25 _, rfl, hJ.next 0 (by omega) (updv_outT (by decide)) T.a0⟩
    · have g0 : listed.getD 0 false = true := hpre ⟨0, .data⟩ (by simp at ho; subst ho; simp) rfl
      have x18 := T.p0 g0
      refine wpOp_in rfl rfl (f := 8) (args := #[.agg #[.slice aS M.slots.length cS, .slice aH M.heads.length cH, .slice aF M.free.length cF, .slice aL M.locks.length cL, .int .i64 M.now]]) (by simp [execOp, go_sem, (show (actT x).tmps[25]?.getD undef = _ from x18)]) ((ownMem_any M aS aH aF aL cS cH cF cL W (HA.out.at_.below hbw)).mono ?_)
      rintro e w3 ⟨xS, xH, xF, xL, kS, kH, kF, kL, rfl, R3, hb3⟩
      exact ⟨_, rfl, updv x 26 _, rfl, hJ.next 1 (by omega) (updv_outT (by decide)) (T.a1 (getD_ft hi2) hb3 ⟨_, _, _, _, _, _, _, _, rfl, R3, fun _ _ => trivial⟩)⟩
    · exact wpOp_val rfl rfl (v := .agg #[.slice aS M.slots.length cS, .slice aH M.heads.length cH, .slice aF M.free.length cF, .slice aL M.locks.length cL, .int .i64 M.now]) (w' := W) (by simp [execOp, go_sem, (show (actT x).tmps[4]?.getD undef = _ from x2), q0, q1, q2, q3, q4]) ⟨updv x 27 _, rfl, hJ.next 2 (by omega) (updv_outT (by decide)) T.a2⟩
    · have g2 : listed.getD 2 false = true := hpre ⟨2, .data⟩ (by simp at ho; subst ho; simp) rfl
      have x20 := T.p2 g2
      refine wpOp_in rfl rfl (f := 8) (args := #[.agg #[.slice aS M.slots.length cS, .slice aH M.heads.length cH, .slice aF M.free.length cF, .slice aL M.locks.length cL, .int .i64 M.now]]) (by simp [execOp, go_sem, (show (actT x).tmps[27]?.getD undef = _ from x20)]) ((ownMem_any M aS aH aF aL cS cH cF cL W (HA.out.at_.below hbw)).mono ?_)
      rintro e w3 ⟨xS, xH, xF, xL, kS, kH, kF, kL, rfl, R3, hb3⟩
      exact ⟨_, rfl, updv x 28 _, rfl, hJ.next 3 (by omega) (updv_outT (by decide)) (T.a3 (getD_ft hi2) hb3 ⟨_, _, _, _, _, _, _, _, rfl, R3, fun _ _ => trivial⟩)⟩
    · exact wpOp_val rfl rfl (v := .pointer (some ⟨W.heap.size, 0, none⟩)) (w' := W.alloc zeroTw) (by simp only [execOp]; simp [go_sem, zeroTw]) ⟨updv x 9 _, rfl, hJ.next 4 (by omega) (updv_outT (by decide)) (T.a4 (getD_ft hi2))⟩
    · exact wpOp_val rfl rfl (v := .pointer (some ⟨W.heap.size, 0, none⟩)) (w' := W.alloc zeroTw) (by simp only [execOp]; simp [go_sem, zeroTw]) ⟨updv x 10 _, rfl, hJ.next 5 (by omega) (updv_outT (by decide)) (T.a5 (getD_ft hi2))⟩
    · have g4 : listed.getD 4 false = true := hpre ⟨4, .data⟩ (by simp at ho; subst ho; simp) rfl
      have g1 : listed.getD 1 false = true := hpre ⟨1, .data⟩ (by simp at ho; subst ho; simp) rfl
      obtain ⟨B, x5, -, hz, -⟩ := T.p4 g4
      obtain ⟨xS, xH, xF, xL, kS, kH, kF, kL, x19, -, -⟩ := T.p1 g1
      have hz' := hz (getD_ft hi2)
      unfold zeroTw at hz'
      obtain ⟨r0, r1, r2, r3, r4, z0, z1, z2, z3, z4, zs⟩ := boxf hz'
      refine wpOp_skip rfl rfl (w' := set5 W B (.slice xS M.slots.length kS) (.slice xH M.heads.length kH) (.slice xF M.free.length kF) (.slice xL M.locks.length kL) (.int .i64 M.now)) (by
        simp [execOp, go_sem, (show (actT x).tmps[9]?.getD undef = _ from x5), (show (actT x).tmps[26]?.getD undef = _ from x19), r0, r1, r2, r3, r4, z0, z1, z2, z3, z4]
        rfl) ⟨x, rfl, hJ.next 6 (by omega) (fun _ _ => rfl) (T.a6 g1 g4 (getD_ft hi2) x5 x19)⟩
    · have g5 : listed.getD 5 false = true := hpre ⟨5, .data⟩ (by simp at ho; subst ho; simp) rfl
      have g3 : listed.getD 3 false = true := hpre ⟨3, .data⟩ (by simp at ho; subst ho; simp) rfl
      obtain ⟨B, x6, -, hz, -⟩ := T.p5 g5
      obtain ⟨xS, xH, xF, xL, kS, kH, kF, kL, x21, -, -⟩ := T.p3 g3
      have hz' := hz (getD_ft hi2)
      unfold zeroTw at hz'
      obtain ⟨r0, r1, r2, r3, r4, z0, z1, z2, z3, z4, zs⟩ := boxf hz'
      refine wpOp_skip rfl rfl (w' := set5 W B (.slice xS M.slots.length kS) (.slice xH M.heads.length kH) (.slice xF M.free.length kF) (.slice xL M.locks.length kL) (.int .i64 M.now)) (by
        simp [execOp, go_sem, (show (actT x).tmps[10]?.getD undef = _ from x6), (show (actT x).tmps[28]?.getD undef = _ from x21), r0, r1, r2, r3, r4, z0, z1, z2, z3, z4]
        rfl) ⟨x, rfl, hJ.next 7 (by omega) (fun _ _ => rfl) (T.a7 g3 g5 (getD_ft hi2) x6 x21)⟩
  intro listed x W hr hJ
  obtain ⟨hsz, hout, Z, T⟩ := hJ
  have hall := all_listed hr hsz (by kernel_rfl) 8
  have g6 : listed.getD 6 false = true := hall 6 (by omega) (by show 6 < 8; omega)
  have g7 : listed.getD 7 false = true := hall 7 (by omega) (by show 7 < 8; omega)
  clear hr hall
  obtain ⟨Bx, By, xS, xH, xF, xL, kS, kH, kF, kL, yS, yH, yF, yL, jS, jH, jF, jL, e5, e6, mx, my, fx, fy⟩ := T.fin g6 g7 (by have := HMx.out.1; omega) (by have := HMx.out.2.1; omega) (by have := HFe.out; omega) (by have := HMx.out.2.2.2; omega)
  have e2 : x 4 = .pointer (some ⟨w.heap.size, 0, none⟩) := hout 4 (by decide)
  have et : x 2 = .int .i64 t := hout 2 (by decide)
  have e3 : x 5 = .pointer (some ⟨w.heap.size + 1, 0, none⟩) := hout 5 (by decide)
  have HE3 : Hid (Env w W [(w.heap.size + 1, of), (w.heap.size, om)] []) := ⟨HE2.out.bl.trans (T.bl.mono HE2.out.bl.size), (fun p hp => (T.bl.block _ (HE2.out.lt hp)).trans (HE2.out.box p hp)), fun p hp => by cases hp⟩
  have HX : Hid (Mine W Bx w2.heap.size xS xH xF xL kS kH kF kL M) := mx
  have HY : Hid (Mine W By w2.heap.size yS yH yF yL jS jH jF jL M) := my
  have HFx : Hid (∀ k, Foot Bx xS xH xF xL k → w.heap.size + 2 ≤ k) := fun k h => by have := fx k h; omega
  have HFy : Hid (∀ k, Foot By yS yH yF yL k → w.heap.size + 2 ≤ k ∧ ¬ Foot Bx xS xH xF xL k) := fun k h => ⟨by have := (fy k h).1; omega, (fy k h).2⟩
  clear T hout g6 g7 hsz mx my fx fy HE2 h2
  refine hK0 _ _ ?_
  unfold actT
  rw [et, e2, e3, e5, e6]
  clear et e2 e3 e5 e6
  go_wp2_with fail
  rename_i K1 hK1
  have HLb : Hid (∀ p ∈ [(w.heap.size + 1, of), (w.heap.size, om)], p.1 < w.heap.size + 2) := by
    intro p hp
    rcases List.mem_cons.1 hp with rfl | hp
    · dsimp only; omega
    rcases List.mem_cons.1 hp with rfl | hp
    · dsimp only; omega
    cases hp
  generalize w2.heap.size = lo at *
  have T0 : TsT w [(w.heap.size + 1, of), (w.heap.size, om)] (.agg #[.int .i64 5, .int .i64 f.c.a, .int .i64 f.c.b, .int .i64 f.c.time, .int .i64 f.c.bk, .int .i64 f.c.slot, .int .i64 f.pl, .int .i64 f.cur, .int .i64 f.prev, .int .i64 f.slot, .int .i64 f.n, .slice aK f.keys.length cK, .bool f.done, .int .i64 f.e]) g M N Bx By lo (fun _ => false) (fun _ => undef) (Foot Bx xS xH xF xL) (Foot By yS yH yF yL) W :=
    TsT.start HE3.out ⟨_, _, _, _, _, _, _, _, HX.out, fun k h => h⟩ ⟨_, _, _, _, _, _, _, _, HY.out, fun k h => h⟩ (fun k h => ⟨HFx.out k h, foot_lt HX.out k h⟩) (fun k h => ⟨(HFy.out k h).1, foot_lt HY.out k h⟩) (fun k h h' => (HFy.out k h').2 h)
  have HT0 : Hid _ := T0
  clear T0 HX HY HFx HFy HE3
  refine wp_region_at (by kernel_rfl) actT rfl (JsT w [(w.heap.size + 1, of), (w.heap.size, om)] (.agg #[.int .i64 5, .int .i64 f.c.a, .int .i64 f.c.b, .int .i64 f.c.time, .int .i64 f.c.bk, .int .i64 f.c.slot, .int .i64 f.pl, .int .i64 f.cur, .int .i64 f.prev, .int .i64 f.slot, .int .i64 f.n, .slice aK f.keys.length cK, .bool f.done, .int .i64 f.e]) t g M N Bx By lo) ?_ ?_ ?_
  · refine ⟨by simp, fun k _ => rfl, (fun h => by simp [Array.getD_eq_getD_getElem?] at h), (fun h => by simp [Array.getD_eq_getD_getElem?] at h), Foot Bx xS xH xF xL, Foot By yS yH yF yL, ?_⟩
    have e : (fun i => (Array.replicate 13 false).getD i false) = fun _ => false := by
      funext i
      by_cases h : i < 13 <;> simp [Array.getD_eq_getD_getElem?, h]
    show TsT w _ _ g M N Bx By lo (fun i => (Array.replicate 13 false).getD i false) _ _ _ _
    rw [e]
    have T1 := HT0.out.below (W' := { W with drawn := W.drawn + 1 }) (Below.refl _ _).drew
    exact ⟨T1.ev, T1.hx, T1.hy, T1.rx, T1.ry, T1.dj, (fun h => by cases h), (fun h => by cases h), (fun h => by cases h), (fun h => by cases h), (fun h => by cases h), (fun h => by cases h), (fun h => by cases h), (fun h => by cases h), (fun h => by cases h), (fun h => by cases h), (fun h => by cases h), (fun h => by cases h), (fun h => by cases h), (fun h => by cases h), (fun h => by cases h), (fun h => by cases h)⟩
  · clear HT0
    intro listed y W i hi hJ
    obtain ⟨hi1, hi2, o, ho, hpre⟩ := ready_spec hi
    clear hi
    have hi1' : i < 13 := hi1
    clear hi1
    have hJ' := hJ
    obtain ⟨hsz, hout, ht1, ht4, Zx, Zy, T⟩ := hJ'
    have y3 : y 5 = .pointer (some ⟨w.heap.size + 1, 0, none⟩) := hout 5 (by decide)
    have y5 : y 9 = .pointer (some ⟨Bx, 0, none⟩) := hout 9 (by decide)
    have y6 : y 10 = .pointer (some ⟨By, 0, none⟩) := hout 10 (by decide)
    have yt : y 2 = .int .i64 t := hout 2 (by decide)
    obtain rfl | rfl | rfl | rfl | rfl | rfl | rfl | rfl | rfl | rfl | rfl | rfl | rfl : i = 0 ∨ i = 1 ∨ i = 2 ∨ i = 3 ∨ i = 4 ∨ i = 5 ∨ i = 6 ∨ i = 7 ∨ i = 8 ∨ i = 9 ∨ i = 10 ∨ i = 11 ∨ i = 12 := by omega
    · obtain ⟨f0, f1, f2, f3, f4, f5, f6, f7, f8, f9, f10, f11, f12, f13, -, fs⟩ := framef (HBf.out _ (T.ev.box _ (.head _)))
      exact wpOp_val rfl rfl (v := .agg #[.int .i64 5, .int .i64 f.c.a, .int .i64 f.c.b, .int .i64 f.c.time, .int .i64 f.c.bk, .int .i64 f.c.slot, .int .i64 f.pl, .int .i64 f.cur, .int .i64 f.prev, .int .i64 f.slot, .int .i64 f.n, .slice aK f.keys.length cK, .bool f.done, .int .i64 f.e]) (w' := W) (by simp [execOp, go_sem, (show (actT y).tmps[5]?.getD undef = _ from y3), f0, f1, f2, f3, f4, f5, f6, f7, f8, f9, f10, f11, f12, f13]) ⟨updv y 29 _, rfl, hJ.next 0 (by omega) (by omega) (by omega) (updv_outsT (by decide)) T.b0⟩
    · exact wpOp_val rfl rfl (v := .int .i64 t) (w' := W) (by simp [execOp, go_sem, (show (actT y).tmps[2]?.getD undef = _ from yt)]) ⟨updv y 30 _, rfl, hJ.move 1 30 (by omega)⟩
    · have gv : listed.getD 1 false = true := hpre ⟨1, .data⟩ (by simp at ho; subst ho; simp) rfl
      have yv := ht1 gv
      have g0 : listed.getD 0 false = true := hpre ⟨0, .data⟩ (by simp at ho; subst ho; simp) rfl
      have y22 := T.p0 g0
      obtain ⟨zS, zH, zF, zL, lS, lH, lF, lL, m, hft⟩ := T.hx0 (getD_ft hi2)
      refine wpOp_in rfl rfl (f := 10) (args := #[.pointer (some ⟨Bx, 0, none⟩), .agg #[.int .i64 5, .int .i64 f.c.a, .int .i64 f.c.b, .int .i64 f.c.time, .int .i64 f.c.bk, .int .i64 f.c.slot, .int .i64 f.pl, .int .i64 f.cur, .int .i64 f.prev, .int .i64 f.slot, .int .i64 f.n, .slice aK f.keys.length cK, .bool f.done, .int .i64 f.e], .int .i64 t]) (by simp [execOp, go_sem, (show (actT y).tmps[9]?.getD undef = _ from y5), (show (actT y).tmps[29]?.getD undef = _ from y22), (show (actT y).tmps[30]?.getD undef = _ from yv)]) ((HSt.out W Bx lo zS zH zF zL lS lH lF lL m (HR.out.below T.ev.bl) (fun ad h hF => by have := HLow.out ad h; have := (T.rx _ (hft _ hF)).1; omega)).mono ?_)
      rintro e w3 ⟨⟨a, c, rfl, kr, hi⟩, hh, hf⟩
      exact ⟨_, rfl, updv y 31 _, rfl, hJ.next 2 (by omega) (by omega) (by omega) (updv_outsT (by decide)) (T.b1 (getD_ft hi2) HLb.out HLow.out hft kr hi hh hf)⟩
    · obtain ⟨f0, f1, f2, f3, f4, f5, f6, f7, f8, f9, f10, f11, f12, f13, -, fs⟩ := framef (HBf.out _ (T.ev.box _ (.head _)))
      exact wpOp_val rfl rfl (v := .agg #[.int .i64 5, .int .i64 f.c.a, .int .i64 f.c.b, .int .i64 f.c.time, .int .i64 f.c.bk, .int .i64 f.c.slot, .int .i64 f.pl, .int .i64 f.cur, .int .i64 f.prev, .int .i64 f.slot, .int .i64 f.n, .slice aK f.keys.length cK, .bool f.done, .int .i64 f.e]) (w' := W) (by simp [execOp, go_sem, (show (actT y).tmps[5]?.getD undef = _ from y3), f0, f1, f2, f3, f4, f5, f6, f7, f8, f9, f10, f11, f12, f13]) ⟨updv y 32 _, rfl, hJ.next 3 (by omega) (by omega) (by omega) (updv_outsT (by decide)) T.b2⟩
    · exact wpOp_val rfl rfl (v := .int .i64 t) (w' := W) (by simp [execOp, go_sem, (show (actT y).tmps[2]?.getD undef = _ from yt)]) ⟨updv y 33 _, rfl, hJ.move 4 33 (by omega)⟩
    · have gv : listed.getD 4 false = true := hpre ⟨4, .data⟩ (by simp at ho; subst ho; simp) rfl
      have yv := ht4 gv
      have g2 : listed.getD 3 false = true := hpre ⟨3, .data⟩ (by simp at ho; subst ho; simp) rfl
      have g1 : listed.getD 2 false = true := hpre ⟨2, .chain⟩ (by simp at ho; subst ho; simp) rfl
      have y24 := T.p2 g2
      obtain ⟨zS, zH, zF, zL, lS, lH, lF, lL, m, hft⟩ := T.hy0 (getD_ft hi2)
      refine wpOp_in rfl rfl (f := 11) (args := #[.pointer (some ⟨By, 0, none⟩), .agg #[.int .i64 5, .int .i64 f.c.a, .int .i64 f.c.b, .int .i64 f.c.time, .int .i64 f.c.bk, .int .i64 f.c.slot, .int .i64 f.pl, .int .i64 f.cur, .int .i64 f.prev, .int .i64 f.slot, .int .i64 f.n, .slice aK f.keys.length cK, .bool f.done, .int .i64 f.e], .int .i64 t]) (by simp [execOp, go_sem, (show (actT y).tmps[10]?.getD undef = _ from y6), (show (actT y).tmps[32]?.getD undef = _ from y24), (show (actT y).tmps[33]?.getD undef = _ from yv)]) ((HRt.out W By lo zS zH zF zL lS lH lF lL m (HR.out.below T.ev.bl) (fun ad h hF => by have := HLow.out ad h; have := (T.ry _ (hft _ hF)).1; omega)).mono ?_)
      rintro e w3 ⟨⟨a, c, rfl, kr, hi⟩, hh, hf⟩
      exact ⟨_, rfl, updv y 34 _, rfl, hJ.next 5 (by omega) (by omega) (by omega) (updv_outsT (by decide)) (T.b3 (getD_ft hi2) g1 HLb.out hft kr hh hf)⟩
    · have g1 : listed.getD 2 false = true := hpre ⟨2, .data⟩ (by simp at ho; subst ho; simp) rfl
      have g3 : listed.getD 5 false = true := hpre ⟨5, .data⟩ (by simp at ho; subst ho; simp) rfl
      obtain ⟨a, c, y23, kr, -⟩ := T.p1 g1
      obtain ⟨a', c', y25, kr'⟩ := T.p3 g3
      refine wpOp_in rfl rfl (f := 9) (args := #[fval g a c, fval g a' c']) (by simp [execOp, go_sem, (show (actT y).tmps[31]?.getD undef = _ from y23), (show (actT y).tmps[34]?.getD undef = _ from y25)]) ((sameFr_true g a a' c c' W kr kr').mono ?_)
      rintro e w3 ⟨rfl, hb⟩
      exact ⟨_, rfl, updv y 35 _, rfl, hJ.next 6 (by omega) (by omega) (by omega) (updv_outsT (by decide)) ((T.below hb).b4 g3)⟩
    · have g4 : listed.getD 6 false = true := hpre ⟨6, .data⟩ (by simp at ho; subst ho; simp) rfl
      have y26 := T.p4 g4
      exact wpOp_val rfl rfl (v := .bool true) (w' := W) (by simp [execOp, go_sem, (show (actT y).tmps[35]?.getD undef = _ from y26)]) ⟨updv y 36 _, rfl, hJ.next 7 (by omega) (by omega) (by omega) (updv_outsT (by decide)) (T.b5 g4)⟩
    · have g5 : listed.getD 7 false = true := hpre ⟨7, .guard⟩ (by simp at ho; subst ho; simp) rfl
      have y27 := T.p5 g5
      obtain ⟨nS, nH, nF, nL, lS, lH, lF, lL, m, -⟩ := T.hx1 (T.e3 (T.e4 (T.e5 g5)))
      obtain ⟨q0, q1, q2, q3, q4, -, -, -, -, -, qs⟩ := boxf m.box
      exact wpOp_vals rfl (wants (ops := _) (k := 7) (d := 36) (b := true) rfl rfl (by show some (y 36) = _; rw [y27])) (v := .agg #[.slice nS N.slots.length lS, .slice nH N.heads.length lH, .slice nF N.free.length lF, .slice nL N.locks.length lL, .int .i64 N.now]) (w' := W) (by simp [execOp, go_sem, (show (actT y).tmps[9]?.getD undef = _ from y5), q0, q1, q2, q3, q4]) ⟨updv y 37 _, rfl, hJ.next 8 (by omega) (by omega) (by omega) (updv_outsT (by decide)) (T.b6 g5 (m.ans.mono (Nat.zero_le _)))⟩
    · have g5 : listed.getD 7 false = true := hpre ⟨7, .guard⟩ (by simp at ho; subst ho; simp) rfl
      have y27 := T.p5 g5
      obtain ⟨nS, nH, nF, nL, lS, lH, lF, lL, m, -⟩ := T.hy1 (T.e4 (T.e5 g5))
      obtain ⟨q0, q1, q2, q3, q4, -, -, -, -, -, qs⟩ := boxf m.box
      exact wpOp_vals rfl (wants (ops := _) (k := 7) (d := 36) (b := true) rfl rfl (by show some (y 36) = _; rw [y27])) (v := .agg #[.slice nS N.slots.length lS, .slice nH N.heads.length lH, .slice nF N.free.length lF, .slice nL N.locks.length lL, .int .i64 N.now]) (w' := W) (by simp [execOp, go_sem, (show (actT y).tmps[10]?.getD undef = _ from y6), q0, q1, q2, q3, q4]) ⟨updv y 38 _, rfl, hJ.next 9 (by omega) (by omega) (by omega) (updv_outsT (by decide)) (T.b7 g5 (m.ans.mono (Nat.zero_le _)))⟩
    · have g5 : listed.getD 7 false = true := hpre ⟨7, .guard⟩ (by simp at ho; subst ho; simp) rfl
      have g6 : listed.getD 8 false = true := hpre ⟨8, .data⟩ (by simp at ho; subst ho; simp) rfl
      have g7 : listed.getD 9 false = true := hpre ⟨9, .data⟩ (by simp at ho; subst ho; simp) rfl
      have y27 := T.p5 g5
      have a1 := T.p6 g6
      have a2 := T.p7 g7
      generalize h28 : y 37 = u1 at a1
      generalize h29 : y 38 = u2 at a2
      have hr := rsame_any N N u1 u2 W 0 0 a1 a2
      rw [eqM_selfA] at hr
      obtain ⟨_, _, _, _, _, _, _, _, rfl⟩ := a1.form
      obtain ⟨_, _, _, _, _, _, _, _, rfl⟩ := a2.form
      refine wpOp_ins rfl (wants (ops := _) (k := 7) (d := 36) (b := true) rfl rfl (by show some (y 36) = _; rw [y27])) (f := 12) (by simp [execOp, go_sem, (show (actT y).tmps[37]?.getD undef = _ from h28), (show (actT y).tmps[38]?.getD undef = _ from h29)]) (hr.mono ?_)
      rintro e w3 ⟨rfl, hb⟩
      exact ⟨_, rfl, updv y 39 _, rfl, hJ.next 10 (by omega) (by omega) (by omega) (updv_outsT (by decide)) (T.below hb).b8⟩
    · have g5 : listed.getD 7 false = true := hpre ⟨7, .data⟩ (by simp at ho; subst ho; simp) rfl
      have g8 : listed.getD 10 false = true := hpre ⟨10, .data⟩ (by simp at ho; subst ho; simp) rfl
      have y27 := T.p5 g5
      have y30 := T.p8 g8
      exact wpOp_val rfl rfl (v := .bool true) (w' := W) (by simp [execOp, go_sem, (show (actT y).tmps[36]?.getD undef = _ from y27), (show (actT y).tmps[39]?.getD undef = _ from y30)]) ⟨updv y 40 _, rfl, hJ.next 11 (by omega) (by omega) (by omega) (updv_outsT (by decide)) T.b9⟩
    · have g9 : listed.getD 11 false = true := hpre ⟨11, .data⟩ (by simp at ho; subst ho; simp) rfl
      have y31 := T.p9 g9
      exact wpOp_val rfl rfl (v := .bool true) (w' := W) (by simp [execOp, go_sem, (show (actT y).tmps[40]?.getD undef = _ from y31)]) ⟨updv y 8 _, rfl, hJ.next 12 (by omega) (by omega) (by omega) (updv_outsT (by decide)) T.b10⟩
  intro listed y W' hr hJ
  obtain ⟨hsz, hout, ht1, ht4, Zx, Zy, T⟩ := hJ
  have hall := all_listed hr hsz (by kernel_rfl) 13
  have g10 : listed.getD 12 false = true := hall 12 (by omega) (by show 12 < 13; omega)
  have y4 := T.p10 g10
  have HBl : Hid (Below w.heap.size w W') := T.ev.bl
  clear hr hall T hout hsz g10 ht1 ht4
  refine hK1 _ _ ?_
  unfold actT
  rw [y4]
  clear y4
  go_wp2
  go_ret
  exact ⟨rfl, HBl.out⟩




end Go.Proofs.Ytdbilofhcadmoac.mm

/- SweepSteps' walk, of a Sweep and of a List. -/
namespace Go.Proofs.Ytdbilofhcadmoac.mm
open Go.ChangeShapes Go.WideShapes Go.ChangeAt Go.RowKit Go.Joins Go.Deep Go.Sort
set_option maxRecDepth 100000
set_option linter.unusedVariables false

theorem sweepSteps_any (M : Mm) (f : Fr) (t : Int) (lb : Bool) (v : Value) (aK : Option Addr) (cK : Nat) (w : World) (A0 : Ans 0 w v M) (r : KRow w aK cK f.keys) (hlow : ∀ ad, aK = some ad → ad.block < w.heap.size) :
    Calls Try.prog 3 #[v, .agg #[.int .i64 f.c.kind, .int .i64 f.c.a, .int .i64 f.c.b, .int .i64 f.c.time, .int .i64 f.c.bk, .int .i64 f.c.slot, .int .i64 f.pl, .int .i64 f.cur, .int .i64 f.prev, .int .i64 f.slot, .int .i64 f.n, .slice aK f.keys.length cK, .bool f.done, .int .i64 f.e], .int .i64 t, .bool lb] w fun e w' => e = .returned (.bool true) ∧ Below w.heap.size w w' := by
  cases lb
  · exact sweepSteps_four M f t v aK cK w A0 r hlow
  · exact sweepSteps_five M f t v aK cK w A0 r hlow
end Go.Proofs.Ytdbilofhcadmoac.mm

namespace Go.Proofs.Ytdbilofhcadmoac.sweepSteps
open Go.ChangeShapes Go.WideShapes Go.ChangeAt Go.RowKit Go.Joins
open Go.Proofs.Ytdbilofhcadmoac.mm
set_option linter.unusedVariables false

theorem laidOut : laidOutB Try.prog = true := by kernel_rfl

set_option maxRecDepth 100000 in
theorem lifted (os : Os) (started : os.Started) (H : Type) (enc : TypeId × Value → H) :
    ReturnsInHanded {} Try.checked os 3 .any (Rows.sweepStepsSpec.pre6 enc Try.prog Try.f3 Rows.sweepStepsRow.domain false) (Rows.sweepStepsSpec.post enc Try.prog Try.f3 false true false false) := by
  refine returnsInHanded_of_change_sized (C := Try.checked) own started (by kernel_rfl) Try.func3
    (ChangeSpec.witness6 (enc := enc) (C := Try.checked) false ⟨#[], #[.agg #[.slice none 0 0, .slice none 0 0, .slice none 0 0, .slice none 0 0, .int .i64 0], .agg #[.int .i64 0, .int .i64 0, .int .i64 0, .int .i64 0, .int .i64 0, .int .i64 0, .int .i64 0, .int .i64 0, .int .i64 0, .int .i64 0, .int .i64 0, .slice none 0 0, .bool false, .int .i64 0], .int .i64 0, .bool false], []⟩ 8 (by kernel_rfl) (by kernel_rfl) (by kernel_rfl) (by kernel_rfl)) ?_
  intro W base args ds gs before hval0 hW _ hsz0 _
  have hsz : (DataW.weightsEach Try.prog (Try.f3.params.toList ++ Rows.sweepStepsSpec.plain.varTypes Try.prog) (ds ++ gs)).all (· ≤ reachBytes) = true := hsz0
  have hval : ∀ (j : Nat) t v, Try.f3.params[j]? = some t → args[j]? = some v → Value.okWide Try.prog W .any base t v := hval0
  have hW' := hW
  obtain ⟨p, q, hA0, hV, rfl, _, _⟩ := hW
  have hA : DataW.TrodAll enc Try.prog W 0 (fun _ => true) true Try.f3.params.toList args.toList ds p := hA0
  rw [Try.params3] at hA hval hsz
  obtain ⟨v0, v1, v2, v3, d0, d1, d2, d3, p0, p1, p2, p3, rfl, rfl, rfl, h0, h1, h2, h3⟩ := trodAll_four hA
  obtain ⟨rfl, rfl⟩ := trodVars_none hV
  clear hA0 hval0 hsz0
  simp only [List.append_nil] at hW'
  have hlt : ∀ x ∈ p0 ++ p1 ++ p2 ++ p3, x.block < W.heap.size := fun x hx => by simpa using hW'.lt x hx
  obtain ⟨M0, A0⟩ := open_mem (hval 0 25 v0 rfl rfl) h0 (fun n hn => by
    have := List.all_eq_true.1 hsz n (DataW.weights_mem_each (j := 0) (t := 25) (d := d0) rfl rfl n hn)
    simpa using this)
  have h0k := h0
  have h1k := h1
  obtain ⟨f1, aK1, cK1, rfl, rK1⟩ := open_frame (hval 1 33 v1 rfl rfl) h1 (fun n hn => by
    have := List.all_eq_true.1 hsz n (DataW.weights_mem_each (j := 1) (t := 33) (d := d1) rfl rfl n hn)
    simpa using this)
  have h2k := h2
  obtain ⟨u2, rfl, hd2, hp2, wu2⟩ := open_int Try.underlying3 (hval 2 3 v2 rfl rfl) h2
  have h3k := h3
  obtain ⟨u3, rfl, hd3, hp3⟩ := open_bool Try.underlying4 (hval 3 4 v3 rfl rfl) h3
  refine (sweepSteps_any M0 f1 u2 u3 v0 aK1 cK1 W A0 rK1 (frame_low (hval 1 33 _ rfl rfl))).mono fun e W' ⟨he, hnx⟩ => ?_
  subst he
  refine ⟨_, rfl, _, _, _, [], p0 ++ (p1 ++ (p2 ++ p3)), [], hW', ?_, ?_, rfl, hnx.frame _, fun h => by cases h⟩
  · exact trodAll_mk1 (shut_bool Try.underlying4 _)
  · exact trodAll_mk4 (Below.trod laidOut (by kernel_rfl) (of_decide_eq_true (by kernel_rfl)) h0k hnx (fun x hx => hlt x (by simp [hx]))) (Below.trod laidOut (by kernel_rfl) (of_decide_eq_true (by kernel_rfl)) h1k hnx (fun x hx => hlt x (by simp [hx]))) (Below.trod laidOut (by kernel_rfl) (of_decide_eq_true (by kernel_rfl)) h2k hnx (fun x hx => hlt x (by simp [hx]))) (Below.trod laidOut (by kernel_rfl) (of_decide_eq_true (by kernel_rfl)) h3k hnx (fun x hx => hlt x (by simp [hx])))

theorem row_holds : Rows.SweepStepsSaid :=
  OpenClaim.holds_of_wide 3 Try.f3 rfl rfl rfl rfl rfl rfl rfl ⟨rfl, rfl, rfl, rfl, rfl⟩ rfl rfl rfl rfl rfl (by kernel_rfl) Try.func3 (by kernel_rfl)
    (of_decide_eq_true (by kernel_rfl)) (by unfold Func.isWrapper; first | (rw [if_pos (by decide +kernel)]; kernel_rfl) | (rw [if_neg (by decide +kernel)]; exact ⟨rfl, rfl⟩))
    (fun os started H enc _ => lifted os started H enc)
#print axioms row_holds
end Go.Proofs.Ytdbilofhcadmoac.sweepSteps
