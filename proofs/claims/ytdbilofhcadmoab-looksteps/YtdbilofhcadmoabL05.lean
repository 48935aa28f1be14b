/- For any memory and frame LookSteps returns true, and both read afterwards as they read before: any step of a Look does in any memory what the document says. No condition. -/
import Derived.Test.YtdbilofhcadmoabL02
import Derived.Test.YtdbilofhcadmoabL03
import Derived.Test.YtdbilofhcadmoabL04
import Derived.Test.YtdbilofhcadmoabC35
import Derived.Test.YtdbilofhcadmoabC13
import Derived.Test.YtdbilofhcadmoabC15
import Derived.Test.YtdbilofhcadmoabC19
import Derived.Test.YtdbilofhcadmoabD03
import Derived.Test.YtdbilofhcadmoabC34
/- The contract of the document's own LookStep: it does what look's Step does. -/
namespace Go.Proofs.Ytdbilofhcadmoab.mm
open Go.ChangeShapes Go.WideShapes Go.ChangeAt Go.RowKit Go.Joins
set_option maxRecDepth 100000
set_option linter.unusedVariables false

theorem rstep_mine (M : Mm) (f : Fr) (B lo : Nat) (aS aH aF aL : Option Addr) (cS cH cF cL : Nat) (aK : Option Addr) (cK : Nat) (w : World)
    (m : Mine w B lo aS aH aF aL cS cH cF cL M) (hM : Ok M) (hf : Fit M f) (r : KRow w aK cK f.keys) (hz : ∀ ad, aK = some ad → ¬ Foot B aS aH aF aL ad.block) :
    Calls Try.prog 37 #[.pointer (some ⟨B, 0, none⟩), .agg #[.int .i64 f.c.kind, .int .i64 f.c.a, .int .i64 f.c.b, .int .i64 f.c.time, .int .i64 f.c.bk, .int .i64 f.c.slot, .int .i64 f.pl, .int .i64 f.cur, .int .i64 f.prev, .int .i64 f.slot, .int .i64 f.n, .slice aK f.keys.length cK, .bool f.done, .int .i64 f.e]] w fun e w' => Ret w w' e (lkF M f) aK cK ∧ Has w' B lo (Up w (Foot B aS aH aF aL)) (lkM M f) ∧ Fine w w' (Foot B aS aH aF aL) := by
  obtain ⟨c, pl, cur, prev, slot, nn, keys, done, ee⟩ := f
  have hd : done = false := hf.done
  subst hd
  have hpl : 0 ≤ pl ∧ pl ≤ 9 := hf.pl
  have hns := hM.ns
  have hnh := hM.nh
  have hcu : cur ≤ M.slots.length := hf.cur.2
  have hsl : slot < M.slots.length := hf.slot.2
  obtain ⟨b0, b1⟩ : 0 ≤ bkOf M.heads.length c ∧ bkOf M.heads.length c < M.heads.length := bkOf_in hM hf.call
  obtain ⟨b, hb⟩ : ∃ b : Nat, bkOf M.heads.length c = b := ⟨_, (Int.toNat_of_nonneg b0).symm⟩
  have hbl : b < M.heads.length := by omega
  have HBk : Hid (∀ W : World, Calls Try.prog 32 #[.agg #[.slice aS M.slots.length cS, .slice aH M.heads.length cH, .slice aF M.free.length cF, .slice aL M.locks.length cL, .int .i64 M.now], .agg #[.int .i64 c.kind, .int .i64 c.a, .int .i64 c.b, .int .i64 c.time, .int .i64 c.bk, .int .i64 c.slot]] W fun e w' => e = .returned (.int .i64 (b : Int)) ∧ Below W.heap.size W w') := fun W => hb ▸ chainFor_any aS aH aF aL _ _ _ _ cS cH cF cL M.now c W (by omega)
  by_cases h7 : 7 ≤ pl
  · rw [lkF7 (f := ⟨c, pl, cur, prev, slot, nn, keys, false, ee⟩) h7, lkM_same (f := ⟨c, pl, cur, prev, slot, nn, keys, false, ee⟩) (by show pl ≠ 3 ∧ pl ≠ 5 ∧ pl ≠ 6; omega)]
    exact rstep7 M c cur prev slot nn ee keys B lo aS aH aF aL cS cH cF cL aK cK w b m r hz pl h7 HBk
  · obtain rfl | rfl | rfl | rfl | rfl | rfl | rfl : pl = 0 ∨ pl = 1 ∨ pl = 2 ∨ pl = 3 ∨ pl = 4 ∨ pl = 5 ∨ pl = 6 := by omega
    · have e1 : lkF M ⟨c, 0, cur, prev, slot, nn, keys, false, ee⟩ = curF ⟨c, 0, cur, prev, slot, nn, keys, false, ee⟩ M.heads[b] 1 := by
        rw [lkF0 rfl]
        unfold lkBegin
        show curF _ (headM M (bkOf M.heads.length c).toNat) 1 = _
        rw [hb]
        simp [headM, List.getD_eq_getElem?_getD, hbl]
      rw [e1, lkM_same (f := ⟨c, 0, cur, prev, slot, nn, keys, false, ee⟩) (by show (0 : Int) ≠ 3 ∧ (0 : Int) ≠ 5 ∧ (0 : Int) ≠ 6; omega)]
      exact rstep0 M c cur prev slot nn ee keys B lo aS aH aF aL cS cH cF cL aK cK w b m r hz _ hbl hnh.2 rfl HBk
    · rw [lkM_same (f := ⟨c, 1, cur, prev, slot, nn, keys, false, ee⟩) (by show (1 : Int) ≠ 3 ∧ (1 : Int) ≠ 5 ∧ (1 : Int) ≠ 6; omega), lkF1 rfl]
      by_cases hc : cur ≤ 0
      · have hat : isAt M ⟨c, 1, cur, prev, slot, nn, keys, false, ee⟩ = false := by
          cases hx : isAt M ⟨c, 1, cur, prev, slot, nn, keys, false, ee⟩
          · rfl
          · have : 1 ≤ cur ∧ _ := isAt_iff.1 hx
            omega
        by_cases hq : cur = -1 - (b : Int)
        · have e1 : lkSee M ⟨c, 1, cur, prev, slot, nn, keys, false, ee⟩ = endF ⟨c, 1, cur, prev, slot, nn, keys, false, ee⟩ 5 := by
            unfold lkSee
            rw [if_pos (by show cur = -1 - bkOf M.heads.length c; rw [hb]; exact hq)]
          rw [e1]
          exact rstep1endtrue M c cur prev slot nn ee keys B lo aS aH aF aL cS cH cF cL aK cK w b m r hz hc (by omega) (by simp [hq]) HBk
        · have e1 : lkSee M ⟨c, 1, cur, prev, slot, nn, keys, false, ee⟩ = toF ⟨c, 1, cur, prev, slot, nn, keys, false, ee⟩ 0 := by
            unfold lkSee
            rw [if_neg (by show ¬ cur = -1 - bkOf M.heads.length c; rw [hb]; exact hq), hat]
            rfl
          rw [e1]
          exact rstep1endfalse M c cur prev slot nn ee keys B lo aS aH aF aL cS cH cF cL aK cK w b m r hz hc (by omega) (by simpa using hq) HBk
      · obtain ⟨j, rfl⟩ : ∃ j : Nat, cur = (j : Int) + 1 := ⟨(cur - 1).toNat, by omega⟩
        have hj : j < M.slots.length := by omega
        have hat : isAt M ⟨c, 1, (j : Int) + 1, prev, slot, nn, keys, false, ee⟩ = true := isAt_iff.2 (by show 1 ≤ (j : Int) + 1 ∧ (j : Int) + 1 ≤ M.slots.length; omega)
        have e0 : lkSee M ⟨c, 1, (j : Int) + 1, prev, slot, nn, keys, false, ee⟩ = toF ⟨c, 1, (j : Int) + 1, prev, slot, nn, keys, false, ee⟩ (if lkK (slotAt M j) ⟨c, 1, 0, 0, 0, 0, [], false, 0⟩ then 3 else 2) := by
          unfold lkSee
          rw [if_neg (by show ¬ (j : Int) + 1 = -1 - bkOf M.heads.length c; rw [hb]; omega), if_pos hat]
          show toF _ (if lkK (slotAt M ((j : Int) + 1 - 1)) _ then 3 else 2) = _
          rw [show (j : Int) + 1 - 1 = j by omega]
          rfl
        rw [e0]
        cases hk : lkK (slotAt M j) ⟨c, 1, 0, 0, 0, 0, [], false, 0⟩
        · exact rstep1false M c prev slot nn ee keys B lo aS aH aF aL cS cH cF cL aK cK w b m r hz j _ hns hj rfl hk HBk
        · exact rstep1true M c prev slot nn ee keys B lo aS aH aF aL cS cH cF cL aK cK w b m r hz j _ hns hj rfl hk HBk
    · rw [lkM_same (f := ⟨c, 2, cur, prev, slot, nn, keys, false, ee⟩) (by show (2 : Int) ≠ 3 ∧ (2 : Int) ≠ 5 ∧ (2 : Int) ≠ 6; omega), lkF2 rfl]
      by_cases hc : cur ≤ 0
      · have e1 : lkPass M ⟨c, 2, cur, prev, slot, nn, keys, false, ee⟩ = toF ⟨c, 2, cur, prev, slot, nn, keys, false, ee⟩ 0 := by
          unfold lkPass
          rw [if_neg (fun hx => by have : 1 ≤ cur ∧ _ := isAt_iff.1 hx; omega)]
        rw [e1]
        exact rstep2no M c cur prev slot nn ee keys B lo aS aH aF aL cS cH cF cL aK cK w b m r hz hc HBk
      · obtain ⟨j, rfl⟩ : ∃ j : Nat, cur = (j : Int) + 1 := ⟨(cur - 1).toNat, by omega⟩
        have hj : j < M.slots.length := by omega
        have hat : isAt M ⟨c, 2, (j : Int) + 1, prev, slot, nn, keys, false, ee⟩ = true := isAt_iff.2 (by show 1 ≤ (j : Int) + 1 ∧ (j : Int) + 1 ≤ M.slots.length; omega)
        have e0 : lkPass M ⟨c, 2, (j : Int) + 1, prev, slot, nn, keys, false, ee⟩ = curF ⟨c, 2, (j : Int) + 1, prev, slot, nn, keys, false, ee⟩ (slotAt M j).next 1 := by
          unfold lkPass
          rw [if_pos hat]
          show curF _ (slotAt M ((j : Int) + 1 - 1)).next 1 = _
          rw [show (j : Int) + 1 - 1 = j by omega]
        rw [e0]
        exact rstep2 M c prev slot nn ee keys B lo aS aH aF aL cS cH cF cL aK cK w b m r hz j _ hns hj rfl HBk
    · rw [lkM3 rfl, lkF3 rfl]
      by_cases hc : cur ≤ 0
      · have hat : isAt M ⟨c, 3, cur, prev, slot, nn, keys, false, ee⟩ = false := by
          cases hx : isAt M ⟨c, 3, cur, prev, slot, nn, keys, false, ee⟩
          · rfl
          · have : 1 ≤ cur ∧ _ := isAt_iff.1 hx
            omega
        have e1 : lkHold M ⟨c, 3, cur, prev, slot, nn, keys, false, ee⟩ = toF ⟨c, 3, cur, prev, slot, nn, keys, false, ee⟩ 0 := by unfold lkHold; rw [hat]; rfl
        have e2 : lkHoldM M ⟨c, 3, cur, prev, slot, nn, keys, false, ee⟩ = M := by unfold lkHoldM; rw [hat]; rfl
        rw [e1, e2]
        exact rstep3no M c cur prev slot nn ee keys B lo aS aH aF aL cS cH cF cL aK cK w b m r hz hc HBk
      · obtain ⟨j, rfl⟩ : ∃ j : Nat, cur = (j : Int) + 1 := ⟨(cur - 1).toNat, by omega⟩
        have hj : j < M.slots.length := by omega
        have hat : isAt M ⟨c, 3, (j : Int) + 1, prev, slot, nn, keys, false, ee⟩ = true := isAt_iff.2 (by show 1 ≤ (j : Int) + 1 ∧ (j : Int) + 1 ≤ M.slots.length; omega)
        have hS : isSl M (j : Int) = true := isSl_in.2 (by omega)
        have e2 : lkHoldM M ⟨c, 3, (j : Int) + 1, prev, slot, nn, keys, false, ee⟩ = holdN M j := by
          unfold lkHoldM
          rw [if_pos hat]
          show holdN M ((j : Int) + 1 - 1) = _
          rw [show (j : Int) + 1 - 1 = j by omega]
        have e1 : lkHold M ⟨c, 3, (j : Int) + 1, prev, slot, nn, keys, false, ee⟩ = if canH M j then handF ⟨c, 3, (j : Int) + 1, prev, slot, nn, keys, false, ee⟩ j 4 else toF ⟨c, 3, (j : Int) + 1, prev, slot, nn, keys, false, ee⟩ 0 := by
          unfold lkHold
          rw [hat]
          show (if (true && canH M ((j : Int) + 1 - 1)) = true then handF _ ((j : Int) + 1 - 1) 4 else _) = _
          rw [show (j : Int) + 1 - 1 = j by omega, Bool.true_and]
        rw [e1, e2]
        cases hcan : canH M j
        · exact rstep3false M c prev slot nn ee keys B lo aS aH aF aL cS cH cF cL aK cK w b m r hz j _ hns hj (fun W Z h => by have := rhold_fine h hM hS; rwa [hcan] at this) HBk
        · exact rstep3true M c prev slot nn ee keys B lo aS aH aF aL cS cH cF cL aK cK w b m r hz j _ hns hj (fun W Z h => by have := rhold_fine h hM hS; rwa [hcan] at this) HBk
    · rw [lkM_same (f := ⟨c, 4, cur, prev, slot, nn, keys, false, ee⟩) (by show (4 : Int) ≠ 3 ∧ (4 : Int) ≠ 5 ∧ (4 : Int) ≠ 6; omega), lkF4 rfl]
      by_cases hs : slot < 0
      · have e1 : lkProve M ⟨c, 4, cur, prev, slot, nn, keys, false, ee⟩ = toF ⟨c, 4, cur, prev, slot, nn, keys, false, ee⟩ 0 := by
          unfold lkProve
          rw [if_neg (fun hx => by have : 0 ≤ slot ∧ _ := isSl_in.1 hx; omega)]
        rw [e1]
        exact rstep4no M c cur prev slot nn ee keys B lo aS aH aF aL cS cH cF cL aK cK w b m r hz hs HBk
      · obtain ⟨j, rfl⟩ : ∃ j : Nat, slot = (j : Int) := ⟨slot.toNat, by omega⟩
        have hj : j < M.slots.length := by omega
        have hS : isSl M (j : Int) = true := isSl_in.2 (by omega)
        have e0 : lkProve M ⟨c, 4, cur, prev, (j : Int), nn, keys, false, ee⟩ = if lkK (slotAt M j) ⟨c, 4, 0, 0, 0, 0, [], false, 0⟩ && (slotAt M j).inn then (if M.now < (slotAt M j).unt then endF ⟨c, 4, cur, prev, (j : Int), nn, keys, false, ee⟩ 0 else toF ⟨c, 4, cur, prev, (j : Int), nn, keys, false, ee⟩ 6) else toF ⟨c, 4, cur, prev, (j : Int), nn, keys, false, ee⟩ 5 := by
          unfold lkProve
          rw [if_pos hS]
          rfl
        rw [e0]
        cases hin : (slotAt M j).inn
        · rw [Bool.and_false]
          exact rstep4b M c cur prev nn ee keys B lo aS aH aF aL cS cH cF cL aK cK w b m r hz _ j _ hns hj rfl rfl hin HBk
        · rw [Bool.and_true]
          cases hk : lkK (slotAt M j) ⟨c, 4, 0, 0, 0, 0, [], false, 0⟩
          · exact rstep4a M c cur prev nn ee keys B lo aS aH aF aL cS cH cF cL aK cK w b m r hz j _ hns hj rfl hk hin HBk
          · by_cases hu : M.now < (slotAt M j).unt
            · rw [if_pos hu]
              exact rstep4c M c cur prev nn ee keys B lo aS aH aF aL cS cH cF cL aK cK w b m r hz j _ hns hj rfl hk hin hu HBk
            · rw [if_neg hu]
              exact rstep4d M c cur prev nn ee keys B lo aS aH aF aL cS cH cF cL aK cK w b m r hz j _ hns hj rfl hk hin (by omega) HBk
    · rw [lkM5 rfl, lkF5 rfl]
      by_cases hs : slot < 0
      · have hS : isSl M slot = false := by
          cases hx : isSl M slot
          · rfl
          · have := isSl_in.1 hx; omega
        have e1 : lkStray M ⟨c, 5, cur, prev, slot, nn, keys, false, ee⟩ = toF ⟨c, 5, cur, prev, slot, nn, keys, false, ee⟩ 0 := by unfold lkStray; rw [hS]; rfl
        have e2 : lkLetM M ⟨c, 5, cur, prev, slot, nn, keys, false, ee⟩ = M := by unfold lkLetM; rw [hS]; rfl
        rw [e1, e2]
        exact rstep5no M c cur prev slot nn ee keys B lo aS aH aF aL cS cH cF cL aK cK w b m r hz hs HBk
      · have hS : isSl M slot = true := isSl_in.2 (by omega)
        have e1 : lkStray M ⟨c, 5, cur, prev, slot, nn, keys, false, ee⟩ = handF ⟨c, 5, cur, prev, slot, nn, keys, false, ee⟩ (-1) 0 := by unfold lkStray; rw [hS]; rfl
        have e2 : lkLetM M ⟨c, 5, cur, prev, slot, nn, keys, false, ee⟩ = putN M slot := by unfold lkLetM; rw [hS]; rfl
        rw [e1, e2]
        exact rstep5 M c cur prev slot nn ee keys B lo aS aH aF aL cS cH cF cL aK cK w b m r hz _ (by omega) (fun W Z h => rput_fine h hM hS) HBk
    · rw [lkM6 rfl, lkF6 rfl]
      by_cases hs : slot < 0
      · have hS : isSl M slot = false := by
          cases hx : isSl M slot
          · rfl
          · have := isSl_in.1 hx; omega
        have e1 : lkOver M ⟨c, 6, cur, prev, slot, nn, keys, false, ee⟩ = toF ⟨c, 6, cur, prev, slot, nn, keys, false, ee⟩ 0 := by unfold lkOver; rw [hS]; rfl
        have e2 : lkLetM M ⟨c, 6, cur, prev, slot, nn, keys, false, ee⟩ = M := by unfold lkLetM; rw [hS]; rfl
        rw [e1, e2]
        exact rstep6no M c cur prev slot nn ee keys B lo aS aH aF aL cS cH cF cL aK cK w b m r hz hs HBk
      · have hS : isSl M slot = true := isSl_in.2 (by omega)
        have e1 : lkOver M ⟨c, 6, cur, prev, slot, nn, keys, false, ee⟩ = endF ⟨c, 6, cur, prev, -1, nn, keys, false, ee⟩ 5 := by unfold lkOver; rw [hS]; rfl
        have e2 : lkLetM M ⟨c, 6, cur, prev, slot, nn, keys, false, ee⟩ = putN M slot := by unfold lkLetM; rw [hS]; rfl
        rw [e1, e2]
        exact rstep6 M c cur prev slot nn ee keys B lo aS aH aF aL cS cH cF cL aK cK w b m r hz _ (by omega) (fun W Z h => rput_fine h hM hS) HBk

end Go.Proofs.Ytdbilofhcadmoab.mm

/- Two memories of one's own, made in one row of the program, in whatever order its parts are reckoned. -/
namespace Go.Proofs.Ytdbilofhcadmoab.mm
open Go.ChangeShapes Go.WideShapes Go.ChangeAt Go.RowKit Go.Joins
set_option maxRecDepth 100000
set_option linter.unusedVariables false

def Rows4 (aS aH aF aL : Option Addr) (k : Nat) : Prop :=
  (∃ ad, aS = some ad ∧ ad.block = k) ∨ (∃ ad, aH = some ad ∧ ad.block = k) ∨ (∃ ad, aF = some ad ∧ ad.block = k) ∨ (∃ ad, aL = some ad ∧ ad.block = k)
theorem Rw.rows {w : World} {lo : Nat} {aS aH aF aL : Option Addr} {cS cH cF cL : Nat} {M : Mm} (r : Rw w lo aS aH aF aL cS cH cF cL M) : ∀ k, Rows4 aS aH aF aL k → lo ≤ k ∧ k < w.heap.size := by
  rintro k (⟨ad, rfl, rfl⟩ | ⟨ad, rfl, rfl⟩ | ⟨ad, rfl, rfl⟩ | ⟨ad, rfl, rfl⟩)
  · exact r.s.lt _ rfl
  · exact r.h.lt _ rfl
  · exact r.f.lt _ rfl
  · exact r.l.lt _ rfl
theorem Rw.low {w : World} {lo n : Nat} {aS aH aF aL : Option Addr} {cS cH cF cL : Nat} {M : Mm} (r : Rw w lo aS aH aF aL cS cH cF cL M) (h : n ≤ lo) : Rw w n aS aH aF aL cS cH cF cL M :=
  ⟨ownsRow_le r.s h, ownsRow_le r.h h, ownsRow_le r.f h, ownsRow_le r.l h, r.hf, r.hl, r.fl, Nat.le_trans h r.lz⟩

/- A value that is memory of one's own, its rows within Z. -/
def Got (W : World) (lo : Nat) (M : Mm) (Z : Nat → Prop) (v : Value) : Prop :=
  ∃ xS xH xF xL kS kH kF kL, v = .agg #[.slice xS M.slots.length kS, .slice xH M.heads.length kH, .slice xF M.free.length kF, .slice xL M.locks.length kL, .int .i64 M.now] ∧ Rw W lo xS xH xF xL kS kH kF kL M ∧ ∀ k, Rows4 xS xH xF xL k → Z k
theorem Got.below {W W' : World} {lo : Nat} {M : Mm} {Z : Nat → Prop} {v : Value} (g : Got W lo M Z v) (hb : Below W.heap.size W W') : Got W' lo M Z v := by
  obtain ⟨xS, xH, xF, xL, kS, kH, kF, kL, e, r, h⟩ := g
  exact ⟨xS, xH, xF, xL, kS, kH, kF, kL, e, r.below hb, h⟩
theorem Got.set5 {W : World} {lo B : Nat} {M : Mm} {Z : Nat → Prop} {v u0 u1 u2 u3 u4 : Value} (g : Got W lo M Z v) (hB : W.heap[B]? = some (.cells #[u0, u1, u2, u3, u4] 25 (0, 0))) (v0 v1 v2 v3 v4 : Value) : Got (set5 W B v0 v1 v2 v3 v4) lo M Z v := by
  obtain ⟨xS, xH, xF, xL, kS, kH, kF, kL, e, r, h⟩ := g
  exact ⟨xS, xH, xF, xL, kS, kH, kF, kL, e, r.set5 hB _ _ _ _ _, h⟩

def zeroTw : Obj := .cells #[.slice none 0 0, .slice none 0 0, .slice none 0 0, .slice none 0 0, .int .i64 0] 25 (0, 0)
def boxO (v : Value) : Obj := match v with
  | .agg cs => .cells cs 25 (0, 0)
  | _ => zeroTw
def updZ (Z : Nat → Nat → Prop) (i : Nat) (S : Nat → Prop) : Nat → Nat → Prop := fun j => if j = i then S else Z j
def New (W W' : World) (k : Nat) : Prop := W.heap.size ≤ k ∧ k < W'.heap.size

structure Tw (w2 : World) (M : Mm) (mv : Value) (L : Nat → Bool) (x : Nat → Value) (Z : Nat → Nat → Prop) (W : World) : Prop where
  bl : Below w2.heap.size w2 W
  rng : ∀ i k, Z i k → w2.heap.size ≤ k ∧ k < W.heap.size
  dj : ∀ i j k, Z i k → Z j k → i = j
  p0 : L 0 = true → x 18 = mv
  p2 : L 2 = true → x 20 = mv
  p1 : L 1 = true → Got W w2.heap.size M (Z 1) (x 19)
  p3 : L 3 = true → Got W w2.heap.size M (Z 3) (x 21)
  p4 : L 4 = true → ∃ B, x 5 = .pointer (some ⟨B, 0, none⟩) ∧ Z 4 B ∧ (L 6 = false → W.heap[B]? = some zeroTw) ∧ (L 6 = true → W.heap[B]? = some (boxO (x 19)))
  p5 : L 5 = true → ∃ B, x 6 = .pointer (some ⟨B, 0, none⟩) ∧ Z 5 B ∧ (L 7 = false → W.heap[B]? = some zeroTw) ∧ (L 7 = true → W.heap[B]? = some (boxO (x 21)))
  e6 : L 6 = true → L 1 = true ∧ L 4 = true
  e7 : L 7 = true → L 3 = true ∧ L 5 = true

section
variable {w2 W W' : World} {M : Mm} {mv v : Value} {L : Nat → Bool} {x : Nat → Value} {Z : Nat → Nat → Prop}

theorem Tw.start (hb : Below w2.heap.size w2 W) : Tw w2 M mv (fun _ => false) x (fun _ _ => False) W :=
  ⟨hb, (fun i k h => h.elim), (fun i j k h => h.elim), (fun h => by cases h), (fun h => by cases h), (fun h => by cases h), (fun h => by cases h), (fun h => by cases h), (fun h => by cases h), (fun h => by cases h), (fun h => by cases h)⟩

theorem box_below {B : Nat} {o : Obj} (h : W.heap[B]? = some o) (hb : Below W.heap.size W W') : W'.heap[B]? = some o := (hb.block B (lt_of_block h)).trans h

theorem tw_rng (T : Tw w2 M mv L x Z W) (hb : Below W.heap.size W W') (i : Nat) : ∀ j k, updZ Z i (New W W') j k → w2.heap.size ≤ k ∧ k < W'.heap.size := by
  intro j k h
  unfold updZ at h
  split at h
  · exact ⟨Nat.le_trans T.bl.size h.1, h.2⟩
  · exact ⟨(T.rng j k h).1, Nat.lt_of_lt_of_le (T.rng j k h).2 hb.size⟩
theorem tw_dj (T : Tw w2 M mv L x Z W) (i : Nat) : ∀ j l k, updZ Z i (New W W') j k → updZ Z i (New W W') l k → j = l := by
  intro j l k h1 h2
  unfold updZ at h1 h2
  split at h1 <;> split at h2
  · subst_vars; rfl
  · have := (T.rng l k h2).2; have := h1.1; omega
  · have := (T.rng j k h1).2; have := h2.1; omega
  · exact T.dj j l k h1 h2

theorem Tw.a0 (T : Tw w2 M mv L x Z W) : Tw w2 M mv (upd L 0) (updv x 18 mv) Z W :=
  ⟨T.bl, T.rng, T.dj, (fun _ => rfl), T.p2, T.p1, T.p3, T.p4, T.p5, T.e6, T.e7⟩
theorem Tw.a2 (T : Tw w2 M mv L x Z W) : Tw w2 M mv (upd L 2) (updv x 20 mv) Z W :=
  ⟨T.bl, T.rng, T.dj, T.p0, (fun _ => rfl), T.p1, T.p3, T.p4, T.p5, T.e6, T.e7⟩

theorem Tw.a1 (T : Tw w2 M mv L x Z W) (h1 : L 1 = false) (hb : Below W.heap.size W W') (g : Got W' W.heap.size M (fun _ => True) v) : Tw w2 M mv (upd L 1) (updv x 19 v) (updZ Z 1 (New W W')) W' := by
  have h6 : L 6 = false := by
    cases h : L 6
    · rfl
    · have := (T.e6 h).1; rw [h1] at this; cases this
  refine ⟨T.bl.trans (hb.mono T.bl.size), tw_rng T hb 1, tw_dj T 1, T.p0, T.p2, fun _ => ?_, fun h => (T.p3 h).below hb, fun h => ?_, fun h => ?_, (fun h => by have h' : L 6 = true := h; rw [h6] at h'; cases h'), T.e7⟩
  · obtain ⟨xS, xH, xF, xL, kS, kH, kF, kL, e, r, -⟩ := g
    exact ⟨xS, xH, xF, xL, kS, kH, kF, kL, e, r.low T.bl.size, fun k hk => r.rows k hk⟩
  · obtain ⟨B, e, hz, i1, i2⟩ := T.p4 h
    exact ⟨B, e, hz, (fun h' => box_below (i1 h') hb), fun h' => by have h'' : L 6 = true := h'; rw [h6] at h''; cases h''⟩
  · obtain ⟨B, e, hz, i1, i2⟩ := T.p5 h
    exact ⟨B, e, hz, (fun h' => box_below (i1 h') hb), fun h' => box_below (i2 h') hb⟩
theorem Tw.a3 (T : Tw w2 M mv L x Z W) (h3 : L 3 = false) (hb : Below W.heap.size W W') (g : Got W' W.heap.size M (fun _ => True) v) : Tw w2 M mv (upd L 3) (updv x 21 v) (updZ Z 3 (New W W')) W' := by
  have h7 : L 7 = false := by
    cases h : L 7
    · rfl
    · have := (T.e7 h).1; rw [h3] at this; cases this
  refine ⟨T.bl.trans (hb.mono T.bl.size), tw_rng T hb 3, tw_dj T 3, T.p0, T.p2, fun h => (T.p1 h).below hb, fun _ => ?_, fun h => ?_, fun h => ?_, T.e6, (fun h => by have h' : L 7 = true := h; rw [h7] at h'; cases h')⟩
  · obtain ⟨xS, xH, xF, xL, kS, kH, kF, kL, e, r, -⟩ := g
    exact ⟨xS, xH, xF, xL, kS, kH, kF, kL, e, r.low T.bl.size, fun k hk => r.rows k hk⟩
  · obtain ⟨B, e, hz, i1, i2⟩ := T.p4 h
    exact ⟨B, e, hz, (fun h' => box_below (i1 h') hb), fun h' => box_below (i2 h') hb⟩
  · obtain ⟨B, e, hz, i1, i2⟩ := T.p5 h
    exact ⟨B, e, hz, (fun h' => box_below (i1 h') hb), fun h' => by have h'' : L 7 = true := h'; rw [h7] at h''; cases h''⟩
theorem Tw.a4 (T : Tw w2 M mv L x Z W) (h4 : L 4 = false) : Tw w2 M mv (upd L 4) (updv x 5 (.pointer (some ⟨W.heap.size, 0, none⟩))) (updZ Z 4 (New W (W.alloc zeroTw))) (W.alloc zeroTw) := by
  have hb := one_below W zeroTw
  have h6 : L 6 = false := by
    cases h : L 6
    · rfl
    · have := (T.e6 h).2; rw [h4] at this; cases this
  refine ⟨T.bl.trans (hb.mono T.bl.size), tw_rng T hb 4, tw_dj T 4, T.p0, T.p2, fun h => (T.p1 h).below hb, fun h => (T.p3 h).below hb, fun _ => ?_, fun h => ?_, (fun h => by have h' : L 6 = true := h; rw [h6] at h'; cases h'), T.e7⟩
  · exact ⟨W.heap.size, rfl, ⟨Nat.le_refl _, lt_of_block (heap_alloc_new W zeroTw)⟩, (fun _ => heap_alloc_new W zeroTw), fun h' => by have h'' : L 6 = true := h'; rw [h6] at h''; cases h''⟩
  · obtain ⟨B, e, hz, i1, i2⟩ := T.p5 h
    exact ⟨B, e, hz, (fun h' => box_below (i1 h') hb), fun h' => box_below (i2 h') hb⟩
theorem Tw.a5 (T : Tw w2 M mv L x Z W) (h5 : L 5 = false) : Tw w2 M mv (upd L 5) (updv x 6 (.pointer (some ⟨W.heap.size, 0, none⟩))) (updZ Z 5 (New W (W.alloc zeroTw))) (W.alloc zeroTw) := by
  have hb := one_below W zeroTw
  have h7 : L 7 = false := by
    cases h : L 7
    · rfl
    · have := (T.e7 h).2; rw [h5] at this; cases this
  refine ⟨T.bl.trans (hb.mono T.bl.size), tw_rng T hb 5, tw_dj T 5, T.p0, T.p2, fun h => (T.p1 h).below hb, fun h => (T.p3 h).below hb, fun h => ?_, fun _ => ?_, T.e6, (fun h => by have h' : L 7 = true := h; rw [h7] at h'; cases h')⟩
  · obtain ⟨B, e, hz, i1, i2⟩ := T.p4 h
    exact ⟨B, e, hz, (fun h' => box_below (i1 h') hb), fun h' => box_below (i2 h') hb⟩
  · exact ⟨W.heap.size, rfl, ⟨Nat.le_refl _, lt_of_block (heap_alloc_new W zeroTw)⟩, (fun _ => heap_alloc_new W zeroTw), fun h' => by have h'' : L 7 = true := h'; rw [h7] at h''; cases h''⟩

theorem tw_other {B k : Nat} (h : k ≠ B) (v0 v1 v2 v3 v4 : Value) : (set5 W B v0 v1 v2 v3 v4).heap[k]? = W.heap[k]? := set5_other h
theorem tw_size {B : Nat} (v0 v1 v2 v3 v4 : Value) : (set5 W B v0 v1 v2 v3 v4).heap.size = W.heap.size := set5_size _ _ _ _ _ _ _
theorem tw_below {B n : Nat} (h : n ≤ B) (v0 v1 v2 v3 v4 : Value) : Below n W (set5 W B v0 v1 v2 v3 v4) := set5_below _ _ _ _ _ _ _ _ h

theorem Tw.a6 {B : Nat} {v0 v1 v2 v3 v4 : Value} (T : Tw w2 M mv L x Z W) (g1 : L 1 = true) (g4 : L 4 = true) (h6 : L 6 = false) (hB : x 5 = .pointer (some ⟨B, 0, none⟩)) (hv : x 19 = .agg #[v0, v1, v2, v3, v4]) : Tw w2 M mv (upd L 6) x Z (set5 W B v0 v1 v2 v3 v4) := by
  obtain ⟨B', e, hz, i1, -⟩ := T.p4 g4
  rw [hB] at e
  injection e with e; injection e with e; injection e with e
  subst e
  have hz0 := i1 h6
  refine ⟨T.bl.trans (tw_below (T.rng 4 B hz).1 _ _ _ _ _), fun i k h => by rw [tw_size]; exact T.rng i k h, T.dj, T.p0, T.p2, fun h => (T.p1 h).set5 hz0 _ _ _ _ _, fun h => (T.p3 h).set5 hz0 _ _ _ _ _, fun _ => ?_, fun h => ?_, fun _ => ⟨g1, g4⟩, T.e7⟩
  · refine ⟨B, hB, hz, (fun h => by cases h), fun _ => ?_⟩
    rw [hv]
    exact set5_block hz0 _ _ _ _ _
  · obtain ⟨B5, e5, hz5, j1, j2⟩ := T.p5 h
    have hne : B5 ≠ B := by rintro rfl; have := T.dj 4 5 _ hz hz5; omega
    exact ⟨B5, e5, hz5, (fun h' => (tw_other hne _ _ _ _ _).trans (j1 h')), fun h' => (tw_other hne _ _ _ _ _).trans (j2 h')⟩
theorem Tw.a7 {B : Nat} {v0 v1 v2 v3 v4 : Value} (T : Tw w2 M mv L x Z W) (g3 : L 3 = true) (g5 : L 5 = true) (h7 : L 7 = false) (hB : x 6 = .pointer (some ⟨B, 0, none⟩)) (hv : x 21 = .agg #[v0, v1, v2, v3, v4]) : Tw w2 M mv (upd L 7) x Z (set5 W B v0 v1 v2 v3 v4) := by
  obtain ⟨B', e, hz, i1, -⟩ := T.p5 g5
  rw [hB] at e
  injection e with e; injection e with e; injection e with e
  subst e
  have hz0 := i1 h7
  refine ⟨T.bl.trans (tw_below (T.rng 5 B hz).1 _ _ _ _ _), fun i k h => by rw [tw_size]; exact T.rng i k h, T.dj, T.p0, T.p2, fun h => (T.p1 h).set5 hz0 _ _ _ _ _, fun h => (T.p3 h).set5 hz0 _ _ _ _ _, fun h => ?_, fun _ => ?_, T.e6, fun _ => ⟨g3, g5⟩⟩
  · obtain ⟨B5, e5, hz5, j1, j2⟩ := T.p4 h
    have hne : B5 ≠ B := by rintro rfl; have := T.dj 4 5 _ hz5 hz; omega
    exact ⟨B5, e5, hz5, (fun h' => (tw_other hne _ _ _ _ _).trans (j1 h')), fun h' => (tw_other hne _ _ _ _ _).trans (j2 h')⟩
  · refine ⟨B, hB, hz, (fun h => by cases h), fun _ => ?_⟩
    rw [hv]
    exact set5_block hz0 _ _ _ _ _

/- In the end there are two boxes, with a memory of one's own in each, apart from each other. -/
theorem Tw.fin (T : Tw w2 M mv L x Z W) (g6 : L 6 = true) (g7 : L 7 = true)
    (m1 : M.slots.length * 48 ≤ 140737488351232) (m2 : M.heads.length * 8 ≤ 140737488351232) (m3 : M.free.length * 8 ≤ 140737488351000) (m4 : M.locks.length * 8 ≤ 140737488351232) :
    ∃ Bx By xS xH xF xL kS kH kF kL yS yH yF yL jS jH jF jL, x 5 = .pointer (some ⟨Bx, 0, none⟩) ∧ x 6 = .pointer (some ⟨By, 0, none⟩) ∧ Mine W Bx w2.heap.size xS xH xF xL kS kH kF kL M ∧ Mine W By w2.heap.size yS yH yF yL jS jH jF jL M ∧
      (∀ k, Foot Bx xS xH xF xL k → w2.heap.size ≤ k) ∧ (∀ k, Foot By yS yH yF yL k → w2.heap.size ≤ k ∧ ¬ Foot Bx xS xH xF xL k) := by
  obtain ⟨g1, g4⟩ := T.e6 g6
  obtain ⟨g3, g5⟩ := T.e7 g7
  obtain ⟨xS, xH, xF, xL, kS, kH, kF, kL, ex, rx, hx⟩ := T.p1 g1
  obtain ⟨yS, yH, yF, yL, jS, jH, jF, jL, ey, ry, hy⟩ := T.p3 g3
  obtain ⟨Bx, e5, z5, -, b5⟩ := T.p4 g4
  obtain ⟨By, e6, z6, -, b6⟩ := T.p5 g5
  have b5' := b5 g6
  have b6' := b6 g7
  rw [ex] at b5'
  rw [ey] at b6'
  have fx : ∀ k, Foot Bx xS xH xF xL k → Z 4 k ∨ Z 1 k := by
    rintro k (rfl | h)
    · exact .inl z5
    · exact .inr (hx k h)
  have fy : ∀ k, Foot By yS yH yF yL k → Z 5 k ∨ Z 3 k := by
    rintro k (rfl | h)
    · exact .inl z6
    · exact .inr (hy k h)
  refine ⟨Bx, By, xS, xH, xF, xL, kS, kH, kF, kL, yS, yH, yF, yL, jS, jH, jF, jL, e5, e6, ⟨b5', rx, m1, m2, m3, m4⟩, ⟨b6', ry, m1, m2, m3, m4⟩, fun k h => ?_, fun k h => ⟨?_, fun h' => ?_⟩⟩
  · rcases fx k h with h | h
    · exact (T.rng _ k h).1
    · exact (T.rng _ k h).1
  · rcases fy k h with h | h
    · exact (T.rng _ k h).1
    · exact (T.rng _ k h).1
  · rcases fy k h with h | h <;> rcases fx k h' with h' | h'
    · have := T.dj _ _ k h h'; omega
    · have := T.dj _ _ k h h'; omega
    · have := T.dj _ _ k h h'; omega
    · have := T.dj _ _ k h h'; omega
end

theorem wp_region_at {P : Program} {ops : Array Oper} {Q : Exit → Act → World → Prop} {id : Nat} {a : Act} {w : World} (hm : P.follows .mixedOrders = true) (mk : (Nat → Value) → Act) (ha : a = mk fun k => a.tmps.getD k undef) (J : (Nat → Value) → Array Bool → (Nat → Value) → World → Prop)
    (start : J (fun k => a.tmps.getD k undef) (Array.replicate ops.size false) (fun k => a.tmps.getD k undef) { w with drawn := w.drawn + 1 })
    (step : ∀ listed x W i, i ∈ Region.ready .any ops listed → J (fun k => a.tmps.getD k undef) listed x W → wpOp P ops Q i (fun a' W' => ∃ x', a' = mk x' ∧ J (fun k => a.tmps.getD k undef) (listed.setIfInBounds i true) x' W') (mk x) W)
    (fin : ∀ listed x W, Region.ready .any ops listed = [] → J (fun k => a.tmps.getD k undef) listed x W → Q .normal (mk x) W) : (Code.region id ops true).wp P Q a w :=
  wp_region_inv hm (fun l a' W => ∃ x, a' = mk x ∧ J (fun k => a.tmps.getD k undef) l x W) ⟨_, ha, start⟩ (by rintro l a' W i hi ⟨x, rfl, hJ⟩; exact step l x W i hi hJ) (by rintro l a' W hr ⟨x, rfl, hJ⟩; exact fin l x W hr hJ)

theorem wpOp_in {P : Program} {ops : Array Oper} {Q : Exit → Act → World → Prop} {i : Nat} {o : Oper} {a : Act} {w : World} {f : Nat} {args : Array Value} {K : Act → World → Prop} (hi : ops[i]? = some o) (hg : o.guard = none)
    (hr : (execOp a.eval o).run P w = .ok (.enter f args) w) (h : Calls P f args w fun e w' => ∃ v, e = .returned v ∧ K (a.put o.dst v) w') : wpOp P ops Q i K a w := by
  refine wpOp_step hi fun K' hK => ?_
  have hw : Region.wanted o (yielded ops a.tmps) = true := by unfold Region.wanted; rw [hg]
  rw [if_pos hw]
  unfold Oper.wp
  rw [hr]
  refine Calls.mono h ?_
  rintro e w' ⟨v, rfl, hv⟩
  exact hK _ _ hv

/- What a region's walk carries: what has come up, and what no operation changes. -/
def Jt (w2 : World) (M : Mm) (mv : Value) (b : Nat → Value) (listed : Array Bool) (x : Nat → Value) (W : World) : Prop :=
  listed.size = 8 ∧ (∀ k, k ∉ [5, 6, 18, 19, 20, 21] → x k = b k) ∧ ∃ Z, Tw w2 M mv (fun i => listed.getD i false) x Z W
theorem Jt.next {w2 W W' : World} {M : Mm} {mv : Value} {b : Nat → Value} {listed : Array Bool} {x x' : Nat → Value} {Z : Nat → Nat → Prop} (J : Jt w2 M mv b listed x W) (i : Nat) (hi : i < 8) (hx : ∀ k, k ∉ [5, 6, 18, 19, 20, 21] → x' k = x k) (T : Tw w2 M mv (upd (fun k => listed.getD k false) i) x' Z W') : Jt w2 M mv b (listed.setIfInBounds i true) x' W' := by
  refine ⟨by simpa using J.1, fun k hk => (hx k hk).trans (J.2.1 k hk), Z, ?_⟩
  have e : (fun k => (listed.setIfInBounds i true).getD k false) = upd (fun k => listed.getD k false) i := by
    funext k
    have := J.1
    by_cases hk : k = i
    · subst hk
      simp [upd, Array.getD_eq_getD_getElem?, J.1, hi]
    · have hk' : ¬ i = k := fun e => hk e.symm
      simp [upd, hk, Array.getD_eq_getD_getElem?, hk']
  rw [e]
  exact T
theorem updv_out {x : Nat → Value} {d : Nat} {v : Value} (hd : d ∈ [5, 6, 18, 19, 20, 21]) : ∀ k, k ∉ [5, 6, 18, 19, 20, 21] → updv x d v k = x k := by
  intro k hk
  unfold updv
  rw [if_neg]
  rintro rfl
  exact hk hd

end Go.Proofs.Ytdbilofhcadmoab.mm

/- Two steps in one row of the program, one on each memory, and what they answer held against each other: in whatever order the parts are reckoned. -/
namespace Go.Proofs.Ytdbilofhcadmoab.mm
open Go.ChangeShapes Go.WideShapes Go.ChangeAt Go.RowKit Go.Joins
set_option maxRecDepth 100000
set_option linter.unusedVariables false

def fval (g : Fr) (a : Option Addr) (c : Nat) : Value := .agg #[.int .i64 g.c.kind, .int .i64 g.c.a, .int .i64 g.c.b, .int .i64 g.c.time, .int .i64 g.c.bk, .int .i64 g.c.slot, .int .i64 g.pl, .int .i64 g.cur, .int .i64 g.prev, .int .i64 g.slot, .int .i64 g.n, .slice a g.keys.length c, .bool g.done, .int .i64 g.e]

structure Ts (w : World) (Lb : List (Nat × Obj)) (fv : Value) (g : Fr) (M N : Mm) (Bx By lo : Nat) (L : Nat → Bool) (x : Nat → Value) (Zx Zy : Nat → Prop) (W : World) : Prop where
  ev : Env w W Lb []
  hx : Has W Bx lo Zx (if L 1 then N else M)
  hy : Has W By lo Zy (if L 3 then N else M)
  rx : ∀ k, Zx k → w.heap.size + 2 ≤ k ∧ k < W.heap.size
  ry : ∀ k, Zy k → w.heap.size + 2 ≤ k ∧ k < W.heap.size
  dj : ∀ k, Zx k → ¬ Zy k
  p0 : L 0 = true → x 22 = fv
  p2 : L 2 = true → x 24 = fv
  p1 : L 1 = true → ∃ a c, x 23 = fval g a c ∧ KRow W a c g.keys ∧ (L 3 = false → ∀ ad, a = some ad → ¬ Zy ad.block)
  p3 : L 3 = true → ∃ a c, x 25 = fval g a c ∧ KRow W a c g.keys
  p4 : L 4 = true → x 26 = .bool true
  p5 : L 5 = true → x 27 = .bool true
  p6 : L 6 = true → Ans 0 W (x 28) N
  p7 : L 7 = true → Ans 0 W (x 29) N
  p8 : L 8 = true → x 30 = .bool true
  p9 : L 9 = true → x 31 = .bool true
  p10 : L 10 = true → x 4 = .bool true
  e3 : L 3 = true → L 1 = true
  e4 : L 4 = true → L 3 = true
  e5 : L 5 = true → L 4 = true
  e6 : L 6 = true → L 5 = true
  e7 : L 7 = true → L 5 = true

section
variable {w W W' : World} {Lb : List (Nat × Obj)} {fv v : Value} {g : Fr} {M N : Mm} {Bx By lo : Nat} {L : Nat → Bool} {x : Nat → Value} {Zx Zy : Nat → Prop}

theorem Ts.start (E : Env w W Lb []) (hx : Has W Bx lo Zx M) (hy : Has W By lo Zy M) (rx : ∀ k, Zx k → w.heap.size + 2 ≤ k ∧ k < W.heap.size) (ry : ∀ k, Zy k → w.heap.size + 2 ≤ k ∧ k < W.heap.size) (dj : ∀ k, Zx k → ¬ Zy k) : Ts w Lb fv g M N Bx By lo (fun _ => false) x Zx Zy W :=
  ⟨E, hx, hy, rx, ry, dj, (fun h => by cases h), (fun h => by cases h), (fun h => by cases h), (fun h => by cases h), (fun h => by cases h), (fun h => by cases h), (fun h => by cases h), (fun h => by cases h), (fun h => by cases h), (fun h => by cases h), (fun h => by cases h), (fun h => by cases h), (fun h => by cases h), (fun h => by cases h), (fun h => by cases h), (fun h => by cases h)⟩

theorem Ts.below (T : Ts w Lb fv g M N Bx By lo L x Zx Zy W) (hb : Below W.heap.size W W') : Ts w Lb fv g M N Bx By lo L x Zx Zy W' :=
  ⟨T.ev.below hb, T.hx.below hb, T.hy.below hb, (fun k h => ⟨(T.rx k h).1, Nat.lt_of_lt_of_le (T.rx k h).2 hb.size⟩), (fun k h => ⟨(T.ry k h).1, Nat.lt_of_lt_of_le (T.ry k h).2 hb.size⟩), T.dj, T.p0, T.p2,
    (fun h => by obtain ⟨a, c, e, r, z⟩ := T.p1 h; exact ⟨a, c, e, r.below hb, z⟩), (fun h => by obtain ⟨a, c, e, r⟩ := T.p3 h; exact ⟨a, c, e, r.below hb⟩), T.p4, T.p5, (fun h => (T.p6 h).below hb), (fun h => (T.p7 h).below hb), T.p8, T.p9, T.p10, T.e3, T.e4, T.e5, T.e6, T.e7⟩

theorem Ts.b0 (T : Ts w Lb fv g M N Bx By lo L x Zx Zy W) : Ts w Lb fv g M N Bx By lo (upd L 0) (updv x 22 fv) Zx Zy W :=
  ⟨T.ev, T.hx, T.hy, T.rx, T.ry, T.dj, (fun _ => rfl), T.p2, T.p1, T.p3, T.p4, T.p5, T.p6, T.p7, T.p8, T.p9, T.p10, T.e3, T.e4, T.e5, T.e6, T.e7⟩
theorem Ts.b2 (T : Ts w Lb fv g M N Bx By lo L x Zx Zy W) : Ts w Lb fv g M N Bx By lo (upd L 2) (updv x 24 fv) Zx Zy W :=
  ⟨T.ev, T.hx, T.hy, T.rx, T.ry, T.dj, T.p0, (fun _ => rfl), T.p1, T.p3, T.p4, T.p5, T.p6, T.p7, T.p8, T.p9, T.p10, T.e3, T.e4, T.e5, T.e6, T.e7⟩
theorem Ts.b4 (T : Ts w Lb fv g M N Bx By lo L x Zx Zy W) (h3 : L 3 = true) : Ts w Lb fv g M N Bx By lo (upd L 4) (updv x 26 (.bool true)) Zx Zy W :=
  ⟨T.ev, T.hx, T.hy, T.rx, T.ry, T.dj, T.p0, T.p2, T.p1, T.p3, (fun _ => rfl), T.p5, T.p6, T.p7, T.p8, T.p9, T.p10, T.e3, (fun _ => h3), (fun _ => rfl), T.e6, T.e7⟩
theorem Ts.b5 (T : Ts w Lb fv g M N Bx By lo L x Zx Zy W) (h4 : L 4 = true) : Ts w Lb fv g M N Bx By lo (upd L 5) (updv x 27 (.bool true)) Zx Zy W :=
  ⟨T.ev, T.hx, T.hy, T.rx, T.ry, T.dj, T.p0, T.p2, T.p1, T.p3, T.p4, (fun _ => rfl), T.p6, T.p7, T.p8, T.p9, T.p10, T.e3, T.e4, (fun _ => h4), (fun _ => rfl), (fun _ => rfl)⟩
theorem Ts.b6 (T : Ts w Lb fv g M N Bx By lo L x Zx Zy W) (h5 : L 5 = true) (h : Ans 0 W v N) : Ts w Lb fv g M N Bx By lo (upd L 6) (updv x 28 v) Zx Zy W :=
  ⟨T.ev, T.hx, T.hy, T.rx, T.ry, T.dj, T.p0, T.p2, T.p1, T.p3, T.p4, T.p5, (fun _ => h), T.p7, T.p8, T.p9, T.p10, T.e3, T.e4, T.e5, (fun _ => h5), T.e7⟩
theorem Ts.b7 (T : Ts w Lb fv g M N Bx By lo L x Zx Zy W) (h5 : L 5 = true) (h : Ans 0 W v N) : Ts w Lb fv g M N Bx By lo (upd L 7) (updv x 29 v) Zx Zy W :=
  ⟨T.ev, T.hx, T.hy, T.rx, T.ry, T.dj, T.p0, T.p2, T.p1, T.p3, T.p4, T.p5, T.p6, (fun _ => h), T.p8, T.p9, T.p10, T.e3, T.e4, T.e5, T.e6, (fun _ => h5)⟩
theorem Ts.b8 (T : Ts w Lb fv g M N Bx By lo L x Zx Zy W) : Ts w Lb fv g M N Bx By lo (upd L 8) (updv x 30 (.bool true)) Zx Zy W :=
  ⟨T.ev, T.hx, T.hy, T.rx, T.ry, T.dj, T.p0, T.p2, T.p1, T.p3, T.p4, T.p5, T.p6, T.p7, (fun _ => rfl), T.p9, T.p10, T.e3, T.e4, T.e5, T.e6, T.e7⟩
theorem Ts.b9 (T : Ts w Lb fv g M N Bx By lo L x Zx Zy W) : Ts w Lb fv g M N Bx By lo (upd L 9) (updv x 31 (.bool true)) Zx Zy W :=
  ⟨T.ev, T.hx, T.hy, T.rx, T.ry, T.dj, T.p0, T.p2, T.p1, T.p3, T.p4, T.p5, T.p6, T.p7, T.p8, (fun _ => rfl), T.p10, T.e3, T.e4, T.e5, T.e6, T.e7⟩
theorem Ts.b10 (T : Ts w Lb fv g M N Bx By lo L x Zx Zy W) : Ts w Lb fv g M N Bx By lo (upd L 10) (updv x 4 (.bool true)) Zx Zy W :=
  ⟨T.ev, T.hx, T.hy, T.rx, T.ry, T.dj, T.p0, T.p2, T.p1, T.p3, T.p4, T.p5, T.p6, T.p7, T.p8, T.p9, (fun _ => rfl), T.e3, T.e4, T.e5, T.e6, T.e7⟩

def Zn (W W' : World) (Z : Nat → Prop) (k : Nat) : Prop := (Z k ∨ W.heap.size ≤ k) ∧ k < W'.heap.size

theorem Ts.b1 {aK a : Option Addr} {c : Nat} {F : Nat → Prop} (T : Ts w Lb fv g M N Bx By lo L x Zx Zy W) (h1 : L 1 = false) (hLb : ∀ p ∈ Lb, p.1 < w.heap.size + 2) (hlow : ∀ ad, aK = some ad → ad.block < w.heap.size)
    (hF : ∀ k, F k → Zx k) (kr : KRow W' a c g.keys) (hi : ∀ ad, a = some ad → aK = some ad ∨ W.heap.size ≤ ad.block) (hh : Has W' Bx lo (Up W F) N) (hf : Fine W W' F) :
    Ts w Lb fv g M N Bx By lo (upd L 1) (updv x 23 (fval g a c)) (Zn W W' Zx) Zy W' := by
  have hno : ∀ {k}, L k = true → L k = false → False := fun h h' => by rw [h] at h'; cases h'
  have h3 : L 3 = true → False := fun h => hno (T.e3 h) h1
  have h5 : L 5 = true → False := fun h => h3 (T.e4 (T.e5 h))
  have hf' : Fine W W' Zx := hf.mono hF
  have hwW : w.heap.size + 2 ≤ W.heap.size := by
    obtain ⟨_, _, _, _, _, _, _, _, m, hft⟩ := T.hx
    have := T.rx Bx (hft Bx (.inl rfl))
    omega
  refine ⟨T.ev.fine hf' (fun k h => by have := (T.rx k h).1; omega) (fun p hp h => by have := (T.rx _ h).1; have := hLb p hp; omega), ?_, T.hy.fine hf' (fun k _ h h' => T.dj k h' h), ?_, (fun k h => ⟨(T.ry k h).1, Nat.lt_of_lt_of_le (T.ry k h).2 hf.size⟩), ?_, T.p0, T.p2, (fun _ => ⟨a, c, rfl, kr, fun _ ad h h' => ?_⟩), (fun h => (h3 h).elim), T.p4, T.p5, (fun h => (h5 (T.e6 h)).elim), (fun h => (h5 (T.e7 h)).elim), T.p8, T.p9, T.p10, (fun h => rfl), T.e4, T.e5, T.e6, T.e7⟩
  · exact hh.mono fun k hk h => ⟨h.imp (hF k) id, hk⟩
  · rintro k ⟨h | h, h'⟩
    · exact ⟨(T.rx k h).1, h'⟩
    · exact ⟨by omega, h'⟩
  · rintro k ⟨h | h, -⟩ h'
    · exact T.dj k h h'
    · have := (T.ry k h').2; omega
  · rcases hi ad h with h | h
    · have := hlow ad h; have := (T.ry _ h').1; omega
    · have := (T.ry _ h').2; omega

theorem Ts.b3 {a : Option Addr} {c : Nat} {F : Nat → Prop} (T : Ts w Lb fv g M N Bx By lo L x Zx Zy W) (h3 : L 3 = false) (h1 : L 1 = true) (hLb : ∀ p ∈ Lb, p.1 < w.heap.size + 2)
    (hF : ∀ k, F k → Zy k) (kr : KRow W' a c g.keys) (hh : Has W' By lo (Up W F) N) (hf : Fine W W' F) :
    Ts w Lb fv g M N Bx By lo (upd L 3) (updv x 25 (fval g a c)) Zx (Zn W W' Zy) W' := by
  have hno : ∀ {k}, L k = true → L k = false → False := fun h h' => by rw [h] at h'; cases h'
  have h4 : L 4 = true → False := fun h => hno (T.e4 h) h3
  have h5 : L 5 = true → False := fun h => h4 (T.e5 h)
  have hf' : Fine W W' Zy := hf.mono hF
  have hwW : w.heap.size + 2 ≤ W.heap.size := by
    obtain ⟨_, _, _, _, _, _, _, _, m, hft⟩ := T.hx
    have := T.rx Bx (hft Bx (.inl rfl))
    omega
  refine ⟨T.ev.fine hf' (fun k h => by have := (T.ry k h).1; omega) (fun p hp h => by have := (T.ry _ h).1; have := hLb p hp; omega), T.hx.fine hf' (fun k _ h h' => T.dj k h h'), ?_, (fun k h => ⟨(T.rx k h).1, Nat.lt_of_lt_of_le (T.rx k h).2 hf.size⟩), ?_, ?_, T.p0, T.p2, (fun h => ?_), (fun _ => ⟨a, c, rfl, kr⟩), T.p4, T.p5, (fun h => (h5 (T.e6 h)).elim), (fun h => (h5 (T.e7 h)).elim), T.p8, T.p9, T.p10, (fun h => h1), (fun h => rfl), T.e5, T.e6, T.e7⟩
  · exact hh.mono fun k hk h => ⟨h.imp (hF k) id, hk⟩
  · rintro k ⟨h | h, h'⟩
    · exact ⟨(T.ry k h).1, h'⟩
    · exact ⟨by omega, h'⟩
  · rintro k h' ⟨h | h, -⟩
    · exact T.dj k h' h
    · have := (T.rx k h').2; omega
  · obtain ⟨a', c', e, r, z⟩ := T.p1 h
    exact ⟨a', c', e, r.fine hf' (z h3), fun h' => by cases h'⟩
theorem Ts.hx0 (T : Ts w Lb fv g M N Bx By lo L x Zx Zy W) (h : L 1 = false) : Has W Bx lo Zx M := by have := T.hx; rwa [h, if_neg (by simp)] at this
theorem Ts.hy0 (T : Ts w Lb fv g M N Bx By lo L x Zx Zy W) (h : L 3 = false) : Has W By lo Zy M := by have := T.hy; rwa [h, if_neg (by simp)] at this
theorem Ts.hx1 (T : Ts w Lb fv g M N Bx By lo L x Zx Zy W) (h : L 1 = true) : Has W Bx lo Zx N := by have := T.hx; rwa [h, if_pos rfl] at this
theorem Ts.hy1 (T : Ts w Lb fv g M N Bx By lo L x Zx Zy W) (h : L 3 = true) : Has W By lo Zy N := by have := T.hy; rwa [h, if_pos rfl] at this
end
def Js (w : World) (Lb : List (Nat × Obj)) (fv : Value) (g : Fr) (M N : Mm) (Bx By lo : Nat) (b : Nat → Value) (listed : Array Bool) (x : Nat → Value) (W : World) : Prop :=
  listed.size = 11 ∧ (∀ k, k ∉ [4, 22, 23, 24, 25, 26, 27, 28, 29, 30, 31] → x k = b k) ∧ ∃ Zx Zy, Ts w Lb fv g M N Bx By lo (fun i => listed.getD i false) x Zx Zy W
theorem Js.next {w W W' : World} {Lb : List (Nat × Obj)} {fv : Value} {g : Fr} {M N : Mm} {Bx By lo : Nat} {b : Nat → Value} {listed : Array Bool} {x x' : Nat → Value} {Zx Zy : Nat → Prop} (J : Js w Lb fv g M N Bx By lo b listed x W) (i : Nat) (hi : i < 11) (hx : ∀ k, k ∉ [4, 22, 23, 24, 25, 26, 27, 28, 29, 30, 31] → x' k = x k) (T : Ts w Lb fv g M N Bx By lo (upd (fun k => listed.getD k false) i) x' Zx Zy W') : Js w Lb fv g M N Bx By lo b (listed.setIfInBounds i true) x' W' := by
  refine ⟨by simpa using J.1, fun k hk => (hx k hk).trans (J.2.1 k hk), Zx, Zy, ?_⟩
  have e : (fun k => (listed.setIfInBounds i true).getD k false) = upd (fun k => listed.getD k false) i := by
    funext k
    have := J.1
    by_cases hk : k = i
    · subst hk
      simp [upd, Array.getD_eq_getD_getElem?, J.1, hi]
    · have hk' : ¬ i = k := fun e => hk e.symm
      simp [upd, hk, Array.getD_eq_getD_getElem?, hk']
  rw [e]
  exact T
theorem updv_outs {x : Nat → Value} {d : Nat} {v : Value} (hd : d ∈ [4, 22, 23, 24, 25, 26, 27, 28, 29, 30, 31]) : ∀ k, k ∉ [4, 22, 23, 24, 25, 26, 27, 28, 29, 30, 31] → updv x d v k = x k := by
  intro k hk
  unfold updv
  rw [if_neg]
  rintro rfl
  exact hk hd

theorem wpOp_vals {P : Program} {ops : Array Oper} {Q : Exit → Act → World → Prop} {i : Nat} {o : Oper} {a : Act} {w w' : World} {v : Value} {K : Act → World → Prop} (hi : ops[i]? = some o) (hw : Region.wanted o (yielded ops a.tmps) = true)
    (hr : (execOp a.eval o).run P w = .ok (.value v) w') (h : K (a.put o.dst v) w') : wpOp P ops Q i K a w := by
  refine wpOp_step hi fun K' hK => ?_
  rw [if_pos hw]
  unfold Oper.wp
  rw [hr]
  exact hK _ _ h
theorem wpOp_ins {P : Program} {ops : Array Oper} {Q : Exit → Act → World → Prop} {i : Nat} {o : Oper} {a : Act} {w : World} {f : Nat} {args : Array Value} {K : Act → World → Prop} (hi : ops[i]? = some o) (hw : Region.wanted o (yielded ops a.tmps) = true)
    (hr : (execOp a.eval o).run P w = .ok (.enter f args) w) (h : Calls P f args w fun e w' => ∃ v, e = .returned v ∧ K (a.put o.dst v) w') : wpOp P ops Q i K a w := by
  refine wpOp_step hi fun K' hK => ?_
  rw [if_pos hw]
  unfold Oper.wp
  rw [hr]
  refine Calls.mono h ?_
  rintro e w' ⟨v, rfl, hv⟩
  exact hK _ _ hv
theorem wants {o : Oper} {ops : Array Oper} {tmps : Array Value} {k d : Nat} {b : Bool} (h : o.guard = some (k, b)) (hk : (ops[k]?).bind (·.dst) = some d) (ht : tmps[d]? = some (.bool b)) : Region.wanted o (yielded ops tmps) = true := by
  unfold Region.wanted yielded
  rw [h]
  simp [hk, ht]

end Go.Proofs.Ytdbilofhcadmoab.mm

/- LookSteps' walk: a step of a Look does in any memory what the document's own one does. -/
namespace Go.Proofs.Ytdbilofhcadmoab.mm
open Go.ChangeShapes Go.WideShapes Go.ChangeAt Go.RowKit Go.Joins Go.Deep Go.Sort
set_option maxRecDepth 100000
set_option linter.unusedVariables false

theorem eqM_self (N : Mm) : eqM N N = true := by
  unfold eqM
  rw [(eqS_iff _ _).2 rfl, (eqI_iff _ _).2 rfl, (eqI_iff _ _).2 rfl, (eqI_iff _ _).2 rfl]
  simp

def actS (x : Nat → Value) : Act := ⟨#[x 0, x 1, x 2, x 3, x 4, x 5, x 6, x 7, x 8, x 9, x 10, x 11, x 12, x 13, x 14, x 15, x 16, x 17, x 18, x 19, x 20, x 21, x 22, x 23, x 24, x 25, x 26, x 27, x 28, x 29, x 30, x 31], []⟩

set_option maxHeartbeats 6400000 in
theorem lookSteps_any (M : Mm) (f : Fr) (v : Value) (aK : Option Addr) (cK : Nat) (w : World) (A0 : Ans 0 w v M) (r : KRow w aK cK f.keys) (hlow : ∀ ad, aK = some ad → ad.block < w.heap.size) :
    Calls Try.prog 6 #[v, .agg #[.int .i64 f.c.kind, .int .i64 f.c.a, .int .i64 f.c.b, .int .i64 f.c.time, .int .i64 f.c.bk, .int .i64 f.c.slot, .int .i64 f.pl, .int .i64 f.cur, .int .i64 f.prev, .int .i64 f.slot, .int .i64 f.n, .slice aK f.keys.length cK, .bool f.done, .int .i64 f.e]] w fun e w' => e = .returned (.bool true) ∧ Below w.heap.size w w' := by
  have hkl : f.keys.length ≤ 9223372036854775807 := by have := r.max; omega
  have HFt : Hid (∀ W : World, Below w.heap.size w W → Calls Try.prog 34 #[v, .agg #[.int .i64 (lookFr f).c.kind, .int .i64 (lookFr f).c.a, .int .i64 (lookFr f).c.b, .int .i64 (lookFr f).c.time, .int .i64 (lookFr f).c.bk, .int .i64 (lookFr f).c.slot, .int .i64 (lookFr f).pl, .int .i64 (lookFr f).cur, .int .i64 (lookFr f).prev, .int .i64 (lookFr f).slot, .int .i64 (lookFr f).n, .slice aK (lookFr f).keys.length cK, .bool (lookFr f).done, .int .i64 (lookFr f).e]] W fun e w' => e = .returned (.bool (fitB M (lookFr f))) ∧ Below W.heap.size W w') := fun W hb => fits_any M (lookFr f) v aK cK W (A0.below hb) hkl
  have HA : Hid (Ans 0 w v M) := A0
  have HR : Hid (KRow w aK cK f.keys) := r
  have HLow : Hid (∀ ad, aK = some ad → ad.block < w.heap.size) := hlow
  obtain ⟨aS, aH, aF, aL, cS, cH, cF, cL, rfl⟩ := A0.form
  obtain ⟨om, hom⟩ : ∃ o : Obj, o = .cells #[.slice aS M.slots.length cS, .slice aH M.heads.length cH, .slice aF M.free.length cF, .slice aL M.locks.length cL, .int .i64 M.now] 25 := ⟨_, rfl⟩
  obtain ⟨of, hof⟩ : ∃ o : Obj, o = .cells #[.int .i64 1, .int .i64 f.c.a, .int .i64 f.c.b, .int .i64 f.c.time, .int .i64 f.c.bk, .int .i64 f.c.slot, .int .i64 f.pl, .int .i64 f.cur, .int .i64 f.prev, .int .i64 f.slot, .int .i64 f.n, .slice aK f.keys.length cK, .bool f.done, .int .i64 f.e] 51 := ⟨_, rfl⟩
  have HE0 : Hid (Env w ((w.alloc om).alloc of) [((w.alloc om).heap.size, of), (w.heap.size, om)] []) := ((⟨Below.refl _ _, (fun p hp => by cases hp), (fun p hp => by cases hp)⟩ : Env w w [] []).alloc om).alloc of
  rw [show (w.alloc om).heap.size = w.heap.size + 1 by simp] at HE0
  have HBm : Hid (∀ W : World, W.heap[w.heap.size]? = some om → W.heap[w.heap.size]? = some (.cells #[.slice aS M.slots.length cS, .slice aH M.heads.length cH, .slice aF M.free.length cF, .slice aL M.locks.length cL, .int .i64 M.now] 25 (0, 0))) := fun W E => hom ▸ E
  have HBf : Hid (∀ W : World, W.heap[w.heap.size + 1]? = some of → W.heap[w.heap.size + 1]? = some (.cells #[.int .i64 1, .int .i64 f.c.a, .int .i64 f.c.b, .int .i64 f.c.time, .int .i64 f.c.bk, .int .i64 f.c.slot, .int .i64 f.pl, .int .i64 f.cur, .int .i64 f.prev, .int .i64 f.slot, .int .i64 f.n, .slice aK f.keys.length cK, .bool f.done, .int .i64 f.e] 51 (0, 0))) := fun W E => hof ▸ E
  have HMx : Hid (M.slots.length * 48 ≤ 140737488351232 ∧ M.heads.length * 8 ≤ 140737488351232 ∧ M.free.length * 8 ≤ 140737488351232 ∧ M.locks.length * 8 ≤ 140737488351232) := ⟨A0.at_.s.max, A0.at_.h.max, A0.at_.f.max, A0.at_.l.max⟩
  clear A0 r hkl hlow
  go_enter Try.func6, Try.ntmps6
  go_wp2_with fail
  rw [← hom, ← hof]
  generalize (w.alloc om).alloc of = W0 at *
  clear hom hof
  refine (looked_any W0).mono ?_
  rintro e w1 ⟨rfl, hb1⟩
  have HE1 : Hid (Env w w1 [(w.heap.size + 1, of), (w.heap.size, om)] []) := HE0.out.below hb1
  clear HE0 hb1
  obtain ⟨q0, q1, q2, q3, q4, -, -, -, -, -, qs⟩ := boxf (HBm.out _ (HE1.out.box _ (.tail _ (.head _))))
  obtain ⟨f0, f1, f2, f3, f4, f5, f6, f7, f8, f9, f10, f11, f12, f13, -, fs⟩ := framef (HBf.out _ (HE1.out.box _ (.head _)))
  go_wp2_with fail
  clear q0 q1 q2 q3 q4 qs f0 f1 f2 f3 f4 f5 f6 f7 f8 f9 f10 f11 f12 f13 fs
  refine (HFt.out w1 HE1.out.bl).mono ?_
  rintro e w2 ⟨rfl, hb2⟩
  have HE2 : Hid (Env w w2 [(w.heap.size + 1, of), (w.heap.size, om)] []) := HE1.out.below hb2
  clear HE1 hb2 HFt
  cases hfit : fitB M (lookFr f)
  · obtain ⟨q0, q1, q2, q3, q4, -, -, -, -, -, qs⟩ := boxf (HBm.out _ (HE2.out.box _ (.tail _ (.head _))))
    obtain ⟨f0, f1, f2, f3, f4, f5, f6, f7, f8, f9, f10, f11, f12, f13, -, fs⟩ := framef (HBf.out _ (HE2.out.box _ (.head _)))
    go_wp2_with fail
    refine (looked_any w2).mono ?_
    rintro e w3 ⟨rfl, hb3⟩
    have HE3 : Hid _ := HE2.out.below hb3
    go_wp2
    go_ret
    exact ⟨rfl, HE3.out.bl⟩
  obtain ⟨hOk, hFit⟩ := fitB_iff.1 hfit
  obtain ⟨N, hN⟩ : ∃ N, N = lkM M (lookFr f) := ⟨_, rfl⟩
  obtain ⟨g, hg⟩ : ∃ g, g = lkF M (lookFr f) := ⟨_, rfl⟩
  have hfree := free_few hOk
  have HSt : Hid (∀ (W : World) (B lo : Nat) (xS xH xF xL : Option Addr) (kS kH kF kL : Nat), Mine W B lo xS xH xF xL kS kH kF kL M → KRow W aK cK f.keys → (∀ ad, aK = some ad → ¬ Foot B xS xH xF xL ad.block) →
      Calls Try.prog 36 #[.pointer (some ⟨B, 0, none⟩), .agg #[.int .i64 1, .int .i64 f.c.a, .int .i64 f.c.b, .int .i64 f.c.time, .int .i64 f.c.bk, .int .i64 f.c.slot, .int .i64 f.pl, .int .i64 f.cur, .int .i64 f.prev, .int .i64 f.slot, .int .i64 f.n, .slice aK f.keys.length cK, .bool f.done, .int .i64 f.e]] W fun e w' => (∃ a c, e = .returned (.agg #[.int .i64 g.c.kind, .int .i64 g.c.a, .int .i64 g.c.b, .int .i64 g.c.time, .int .i64 g.c.bk, .int .i64 g.c.slot, .int .i64 g.pl, .int .i64 g.cur, .int .i64 g.prev, .int .i64 g.slot, .int .i64 g.n, .slice a g.keys.length c, .bool g.done, .int .i64 g.e]) ∧ KRow w' a c g.keys ∧ (∀ ad, a = some ad → aK = some ad ∨ W.heap.size ≤ ad.block)) ∧ Has w' B lo (Up W (Foot B xS xH xF xL)) N ∧ Fine W w' (Foot B xS xH xF xL)) := fun W B lo xS xH xF xL kS kH kF kL m r hz => by
    subst hN hg
    refine (step_mine M (lookFr f) B lo xS xH xF xL kS kH kF kL aK cK W m hOk hFit r hz).mono ?_
    rintro e w' ⟨⟨a, c, rfl, kr, hi, -⟩, hh, hf⟩
    exact ⟨⟨a, c, rfl, kr, hi⟩, hh, hf⟩
  have HRt : Hid (∀ (W : World) (B lo : Nat) (xS xH xF xL : Option Addr) (kS kH kF kL : Nat), Mine W B lo xS xH xF xL kS kH kF kL M → KRow W aK cK f.keys → (∀ ad, aK = some ad → ¬ Foot B xS xH xF xL ad.block) →
      Calls Try.prog 37 #[.pointer (some ⟨B, 0, none⟩), .agg #[.int .i64 1, .int .i64 f.c.a, .int .i64 f.c.b, .int .i64 f.c.time, .int .i64 f.c.bk, .int .i64 f.c.slot, .int .i64 f.pl, .int .i64 f.cur, .int .i64 f.prev, .int .i64 f.slot, .int .i64 f.n, .slice aK f.keys.length cK, .bool f.done, .int .i64 f.e]] W fun e w' => (∃ a c, e = .returned (.agg #[.int .i64 g.c.kind, .int .i64 g.c.a, .int .i64 g.c.b, .int .i64 g.c.time, .int .i64 g.c.bk, .int .i64 g.c.slot, .int .i64 g.pl, .int .i64 g.cur, .int .i64 g.prev, .int .i64 g.slot, .int .i64 g.n, .slice a g.keys.length c, .bool g.done, .int .i64 g.e]) ∧ KRow w' a c g.keys ∧ (∀ ad, a = some ad → aK = some ad ∨ W.heap.size ≤ ad.block)) ∧ Has w' B lo (Up W (Foot B xS xH xF xL)) N ∧ Fine W w' (Foot B xS xH xF xL)) := fun W B lo xS xH xF xL kS kH kF kL m r hz => by
    subst hN hg
    refine (rstep_mine M (lookFr f) B lo xS xH xF xL kS kH kF kL aK cK W m hOk hFit r hz).mono ?_
    rintro e w' ⟨⟨a, c, rfl, kr, hi, -⟩, hh, hf⟩
    exact ⟨⟨a, c, rfl, kr, hi⟩, hh, hf⟩
  clear hfit hOk hFit hN hg
  have HFe : Hid (M.free.length ≤ 12) := hfree
  clear hfree
  obtain ⟨q0, q1, q2, q3, q4, -, -, -, -, -, qs⟩ := boxf (HBm.out _ (HE2.out.box _ (.tail _ (.head _))))
  obtain ⟨f0, f1, f2, f3, f4, f5, f6, f7, f8, f9, f10, f11, f12, f13, -, fs⟩ := framef (HBf.out _ (HE2.out.box _ (.head _)))
  go_wp2_with fail
  clear q0 q1 q2 q3 q4 qs f0 f1 f2 f3 f4 f5 f6 f7 f8 f9 f10 f11 f12 f13 fs
  rename_i K0 hK0
  have h2 : w.heap.size + 1 < w2.heap.size := HE2.out.lt (.head _)
  refine wp_region_at (by kernel_rfl) actS rfl (Jt w2 M (.agg #[.slice aS M.slots.length cS, .slice aH M.heads.length cH, .slice aF M.free.length cF, .slice aL M.locks.length cL, .int .i64 M.now])) ?_ ?_ ?_
  · refine ⟨by simp, fun k _ => rfl, fun _ _ => False, ?_⟩
    have e : (fun i => (Array.replicate 8 false).getD i false) = fun _ => false := by
      funext i
      by_cases h : i < 8 <;> simp [Array.getD_eq_getD_getElem?, h]
    show Tw w2 M _ (fun i => (Array.replicate 8 false).getD i false) _ _ _
    rw [e]
    exact Tw.start (Below.refl _ _).drew
  · intro listed x W i hi hJ
    obtain ⟨hi1, hi2, o, ho, hpre⟩ := ready_spec hi
    clear hi
    have hi1' : i < 8 := hi1
    clear hi1
    have hJ' := hJ
    obtain ⟨hsz, hout, Z, T⟩ := hJ'
    have hbw : Below w.heap.size w W := HE2.out.bl.trans (T.bl.mono HE2.out.bl.size)
    obtain ⟨q0, q1, q2, q3, q4, -, -, -, -, -, qs⟩ := boxf (HBm.out W ((T.bl.block _ (by omega)).trans (HE2.out.box _ (.tail _ (.head _)))))
    have x2 : x 2 = .pointer (some ⟨w.heap.size, 0, none⟩) := hout 2 (by decide)
    obtain rfl | rfl | rfl | rfl | rfl | rfl | rfl | rfl : i = 0 ∨ i = 1 ∨ i = 2 ∨ i = 3 ∨ i = 4 ∨ i = 5 ∨ i = 6 ∨ i = 7 := by omega
    · exact wpOp_val rfl rfl (v := .agg #[.slice aS M.slots.length cS, .slice aH M.heads.length cH, .slice aF M.free.length cF, .slice aL M.locks.length cL, .int .i64 M.now]) (w' := W) (by simp [execOp, go_sem, (show (actS x).tmps[2]?.getD undef = _ from x2), q0, q1, q2, q3, q4]) ⟨updv x 18 _, rfl, hJ.next 0 (by omega) (updv_out (by decide)) T.a0⟩
    · have g0 : listed.getD 0 false = true := hpre ⟨0, .data⟩ (by simp at ho; subst ho; simp) rfl
      have x18 := T.p0 g0
      refine wpOp_in rfl rfl (f := 35) (args := #[.agg #[.slice aS M.slots.length cS, .slice aH M.heads.length cH, .slice aF M.free.length cF, .slice aL M.locks.length cL, .int .i64 M.now]]) (by simp [execOp, go_sem, (show (actS x).tmps[18]?.getD undef = _ from x18)]) ((ownMem_any M aS aH aF aL cS cH cF cL W (HA.out.at_.below hbw)).mono ?_)
      rintro e w3 ⟨xS, xH, xF, xL, kS, kH, kF, kL, rfl, R3, hb3⟩
      exact ⟨_, rfl, updv x 19 _, rfl, hJ.next 1 (by omega) (updv_out (by decide)) (T.a1 (getD_ft hi2) hb3 ⟨_, _, _, _, _, _, _, _, rfl, R3, fun _ _ => trivial⟩)⟩
    · exact wpOp_val rfl rfl (v := .agg #[.slice aS M.slots.length cS, .slice aH M.heads.length cH, .slice aF M.free.length cF, .slice aL M.locks.length cL, .int .i64 M.now]) (w' := W) (by simp [execOp, go_sem, (show (actS x).tmps[2]?.getD undef = _ from x2), q0, q1, q2, q3, q4]) ⟨updv x 20 _, rfl, hJ.next 2 (by omega) (updv_out (by decide)) T.a2⟩
    · have g2 : listed.getD 2 false = true := hpre ⟨2, .data⟩ (by simp at ho; subst ho; simp) rfl
      have x20 := T.p2 g2
      refine wpOp_in rfl rfl (f := 35) (args := #[.agg #[.slice aS M.slots.length cS, .slice aH M.heads.length cH, .slice aF M.free.length cF, .slice aL M.locks.length cL, .int .i64 M.now]]) (by simp [execOp, go_sem, (show (actS x).tmps[20]?.getD undef = _ from x20)]) ((ownMem_any M aS aH aF aL cS cH cF cL W (HA.out.at_.below hbw)).mono ?_)
      rintro e w3 ⟨xS, xH, xF, xL, kS, kH, kF, kL, rfl, R3, hb3⟩
      exact ⟨_, rfl, updv x 21 _, rfl, hJ.next 3 (by omega) (updv_out (by decide)) (T.a3 (getD_ft hi2) hb3 ⟨_, _, _, _, _, _, _, _, rfl, R3, fun _ _ => trivial⟩)⟩
    · exact wpOp_val rfl rfl (v := .pointer (some ⟨W.heap.size, 0, none⟩)) (w' := W.alloc zeroTw) (by simp only [execOp]; simp [go_sem, zeroTw]) ⟨updv x 5 _, rfl, hJ.next 4 (by omega) (updv_out (by decide)) (T.a4 (getD_ft hi2))⟩
    · exact wpOp_val rfl rfl (v := .pointer (some ⟨W.heap.size, 0, none⟩)) (w' := W.alloc zeroTw) (by simp only [execOp]; simp [go_sem, zeroTw]) ⟨updv x 6 _, rfl, hJ.next 5 (by omega) (updv_out (by decide)) (T.a5 (getD_ft hi2))⟩
    · have g4 : listed.getD 4 false = true := hpre ⟨4, .data⟩ (by simp at ho; subst ho; simp) rfl
      have g1 : listed.getD 1 false = true := hpre ⟨1, .data⟩ (by simp at ho; subst ho; simp) rfl
      obtain ⟨B, x5, -, hz, -⟩ := T.p4 g4
      obtain ⟨xS, xH, xF, xL, kS, kH, kF, kL, x19, -, -⟩ := T.p1 g1
      have hz' := hz (getD_ft hi2)
      unfold zeroTw at hz'
      obtain ⟨r0, r1, r2, r3, r4, z0, z1, z2, z3, z4, zs⟩ := boxf hz'
      refine wpOp_skip rfl rfl (w' := set5 W B (.slice xS M.slots.length kS) (.slice xH M.heads.length kH) (.slice xF M.free.length kF) (.slice xL M.locks.length kL) (.int .i64 M.now)) (by
        simp [execOp, go_sem, (show (actS x).tmps[5]?.getD undef = _ from x5), (show (actS x).tmps[19]?.getD undef = _ from x19), r0, r1, r2, r3, r4, z0, z1, z2, z3, z4]
        rfl) ⟨x, rfl, hJ.next 6 (by omega) (fun _ _ => rfl) (T.a6 g1 g4 (getD_ft hi2) x5 x19)⟩
    · have g5 : listed.getD 5 false = true := hpre ⟨5, .data⟩ (by simp at ho; subst ho; simp) rfl
      have g3 : listed.getD 3 false = true := hpre ⟨3, .data⟩ (by simp at ho; subst ho; simp) rfl
      obtain ⟨B, x6, -, hz, -⟩ := T.p5 g5
      obtain ⟨xS, xH, xF, xL, kS, kH, kF, kL, x21, -, -⟩ := T.p3 g3
      have hz' := hz (getD_ft hi2)
      unfold zeroTw at hz'
      obtain ⟨r0, r1, r2, r3, r4, z0, z1, z2, z3, z4, zs⟩ := boxf hz'
      refine wpOp_skip rfl rfl (w' := set5 W B (.slice xS M.slots.length kS) (.slice xH M.heads.length kH) (.slice xF M.free.length kF) (.slice xL M.locks.length kL) (.int .i64 M.now)) (by
        simp [execOp, go_sem, (show (actS x).tmps[6]?.getD undef = _ from x6), (show (actS x).tmps[21]?.getD undef = _ from x21), r0, r1, r2, r3, r4, z0, z1, z2, z3, z4]
        rfl) ⟨x, rfl, hJ.next 7 (by omega) (fun _ _ => rfl) (T.a7 g3 g5 (getD_ft hi2) x6 x21)⟩
  intro listed x W hr hJ
  obtain ⟨hsz, hout, Z, T⟩ := hJ
  have hall := all_listed hr hsz (by kernel_rfl) 8
  have g6 : listed.getD 6 false = true := hall 6 (by omega) (by show 6 < 8; omega)
  have g7 : listed.getD 7 false = true := hall 7 (by omega) (by show 7 < 8; omega)
  clear hr hall
  obtain ⟨Bx, By, xS, xH, xF, xL, kS, kH, kF, kL, yS, yH, yF, yL, jS, jH, jF, jL, e5, e6, mx, my, fx, fy⟩ := T.fin g6 g7 (by have := HMx.out.1; omega) (by have := HMx.out.2.1; omega) (by have := HFe.out; omega) (by have := HMx.out.2.2.2; omega)
  have e2 : x 2 = .pointer (some ⟨w.heap.size, 0, none⟩) := hout 2 (by decide)
  have e3 : x 3 = .pointer (some ⟨w.heap.size + 1, 0, none⟩) := hout 3 (by decide)
  have HE3 : Hid (Env w W [(w.heap.size + 1, of), (w.heap.size, om)] []) := ⟨HE2.out.bl.trans (T.bl.mono HE2.out.bl.size), (fun p hp => (T.bl.block _ (HE2.out.lt hp)).trans (HE2.out.box p hp)), fun p hp => by cases hp⟩
  have HX : Hid (Mine W Bx w2.heap.size xS xH xF xL kS kH kF kL M) := mx
  have HY : Hid (Mine W By w2.heap.size yS yH yF yL jS jH jF jL M) := my
  have HFx : Hid (∀ k, Foot Bx xS xH xF xL k → w.heap.size + 2 ≤ k) := fun k h => by have := fx k h; omega
  have HFy : Hid (∀ k, Foot By yS yH yF yL k → w.heap.size + 2 ≤ k ∧ ¬ Foot Bx xS xH xF xL k) := fun k h => ⟨by have := (fy k h).1; omega, (fy k h).2⟩
  clear T hout g6 g7 hsz mx my fx fy HE2 h2
  refine hK0 _ _ ?_
  unfold actS
  rw [e2, e3, e5, e6]
  clear e2 e3 e5 e6
  go_wp2_with fail
  rename_i K1 hK1
  have HLb : Hid (∀ p ∈ [(w.heap.size + 1, of), (w.heap.size, om)], p.1 < w.heap.size + 2) := by
    intro p hp
    rcases List.mem_cons.1 hp with rfl | hp
    · dsimp only; omega
    rcases List.mem_cons.1 hp with rfl | hp
    · dsimp only; omega
    cases hp
  generalize w2.heap.size = lo at *
  have T0 : Ts w [(w.heap.size + 1, of), (w.heap.size, om)] (.agg #[.int .i64 1, .int .i64 f.c.a, .int .i64 f.c.b, .int .i64 f.c.time, .int .i64 f.c.bk, .int .i64 f.c.slot, .int .i64 f.pl, .int .i64 f.cur, .int .i64 f.prev, .int .i64 f.slot, .int .i64 f.n, .slice aK f.keys.length cK, .bool f.done, .int .i64 f.e]) g M N Bx By lo (fun _ => false) (fun _ => undef) (Foot Bx xS xH xF xL) (Foot By yS yH yF yL) W :=
    Ts.start HE3.out ⟨_, _, _, _, _, _, _, _, HX.out, fun k h => h⟩ ⟨_, _, _, _, _, _, _, _, HY.out, fun k h => h⟩ (fun k h => ⟨HFx.out k h, foot_lt HX.out k h⟩) (fun k h => ⟨(HFy.out k h).1, foot_lt HY.out k h⟩) (fun k h h' => (HFy.out k h').2 h)
  have HT0 : Hid _ := T0
  clear T0 HX HY HFx HFy HE3
  refine wp_region_at (by kernel_rfl) actS rfl (Js w [(w.heap.size + 1, of), (w.heap.size, om)] (.agg #[.int .i64 1, .int .i64 f.c.a, .int .i64 f.c.b, .int .i64 f.c.time, .int .i64 f.c.bk, .int .i64 f.c.slot, .int .i64 f.pl, .int .i64 f.cur, .int .i64 f.prev, .int .i64 f.slot, .int .i64 f.n, .slice aK f.keys.length cK, .bool f.done, .int .i64 f.e]) g M N Bx By lo) ?_ ?_ ?_
  · refine ⟨by simp, fun k _ => rfl, Foot Bx xS xH xF xL, Foot By yS yH yF yL, ?_⟩
    have e : (fun i => (Array.replicate 11 false).getD i false) = fun _ => false := by
      funext i
      by_cases h : i < 11 <;> simp [Array.getD_eq_getD_getElem?, h]
    show Ts w _ _ g M N Bx By lo (fun i => (Array.replicate 11 false).getD i false) _ _ _ _
    rw [e]
    have T1 := HT0.out.below (W' := { W with drawn := W.drawn + 1 }) (Below.refl _ _).drew
    exact ⟨T1.ev, T1.hx, T1.hy, T1.rx, T1.ry, T1.dj, (fun h => by cases h), (fun h => by cases h), (fun h => by cases h), (fun h => by cases h), (fun h => by cases h), (fun h => by cases h), (fun h => by cases h), (fun h => by cases h), (fun h => by cases h), (fun h => by cases h), (fun h => by cases h), (fun h => by cases h), (fun h => by cases h), (fun h => by cases h), (fun h => by cases h), (fun h => by cases h)⟩
  · clear HT0
    intro listed y W i hi hJ
    obtain ⟨hi1, hi2, o, ho, hpre⟩ := ready_spec hi
    clear hi
    have hi1' : i < 11 := hi1
    clear hi1
    have hJ' := hJ
    obtain ⟨hsz, hout, Zx, Zy, T⟩ := hJ'
    have y3 : y 3 = .pointer (some ⟨w.heap.size + 1, 0, none⟩) := hout 3 (by decide)
    have y5 : y 5 = .pointer (some ⟨Bx, 0, none⟩) := hout 5 (by decide)
    have y6 : y 6 = .pointer (some ⟨By, 0, none⟩) := hout 6 (by decide)
    obtain rfl | rfl | rfl | rfl | rfl | rfl | rfl | rfl | rfl | rfl | rfl : i = 0 ∨ i = 1 ∨ i = 2 ∨ i = 3 ∨ i = 4 ∨ i = 5 ∨ i = 6 ∨ i = 7 ∨ i = 8 ∨ i = 9 ∨ i = 10 := by omega
    · obtain ⟨f0, f1, f2, f3, f4, f5, f6, f7, f8, f9, f10, f11, f12, f13, -, fs⟩ := framef (HBf.out _ (T.ev.box _ (.head _)))
      exact wpOp_val rfl rfl (v := .agg #[.int .i64 1, .int .i64 f.c.a, .int .i64 f.c.b, .int .i64 f.c.time, .int .i64 f.c.bk, .int .i64 f.c.slot, .int .i64 f.pl, .int .i64 f.cur, .int .i64 f.prev, .int .i64 f.slot, .int .i64 f.n, .slice aK f.keys.length cK, .bool f.done, .int .i64 f.e]) (w' := W) (by simp [execOp, go_sem, (show (actS y).tmps[3]?.getD undef = _ from y3), f0, f1, f2, f3, f4, f5, f6, f7, f8, f9, f10, f11, f12, f13]) ⟨updv y 22 _, rfl, hJ.next 0 (by omega) (updv_outs (by decide)) T.b0⟩
    · have g0 : listed.getD 0 false = true := hpre ⟨0, .data⟩ (by simp at ho; subst ho; simp) rfl
      have y22 := T.p0 g0
      obtain ⟨zS, zH, zF, zL, lS, lH, lF, lL, m, hft⟩ := T.hx0 (getD_ft hi2)
      refine wpOp_in rfl rfl (f := 36) (args := #[.pointer (some ⟨Bx, 0, none⟩), .agg #[.int .i64 1, .int .i64 f.c.a, .int .i64 f.c.b, .int .i64 f.c.time, .int .i64 f.c.bk, .int .i64 f.c.slot, .int .i64 f.pl, .int .i64 f.cur, .int .i64 f.prev, .int .i64 f.slot, .int .i64 f.n, .slice aK f.keys.length cK, .bool f.done, .int .i64 f.e]]) (by simp [execOp, go_sem, (show (actS y).tmps[5]?.getD undef = _ from y5), (show (actS y).tmps[22]?.getD undef = _ from y22)]) ((HSt.out W Bx lo zS zH zF zL lS lH lF lL m (HR.out.below T.ev.bl) (fun ad h hF => by have := HLow.out ad h; have := (T.rx _ (hft _ hF)).1; omega)).mono ?_)
      rintro e w3 ⟨⟨a, c, rfl, kr, hi⟩, hh, hf⟩
      exact ⟨_, rfl, updv y 23 _, rfl, hJ.next 1 (by omega) (updv_outs (by decide)) (T.b1 (getD_ft hi2) HLb.out HLow.out hft kr hi hh hf)⟩
    · obtain ⟨f0, f1, f2, f3, f4, f5, f6, f7, f8, f9, f10, f11, f12, f13, -, fs⟩ := framef (HBf.out _ (T.ev.box _ (.head _)))
      exact wpOp_val rfl rfl (v := .agg #[.int .i64 1, .int .i64 f.c.a, .int .i64 f.c.b, .int .i64 f.c.time, .int .i64 f.c.bk, .int .i64 f.c.slot, .int .i64 f.pl, .int .i64 f.cur, .int .i64 f.prev, .int .i64 f.slot, .int .i64 f.n, .slice aK f.keys.length cK, .bool f.done, .int .i64 f.e]) (w' := W) (by simp [execOp, go_sem, (show (actS y).tmps[3]?.getD undef = _ from y3), f0, f1, f2, f3, f4, f5, f6, f7, f8, f9, f10, f11, f12, f13]) ⟨updv y 24 _, rfl, hJ.next 2 (by omega) (updv_outs (by decide)) T.b2⟩
    · have g2 : listed.getD 2 false = true := hpre ⟨2, .data⟩ (by simp at ho; subst ho; simp) rfl
      have g1 : listed.getD 1 false = true := hpre ⟨1, .chain⟩ (by simp at ho; subst ho; simp) rfl
      have y24 := T.p2 g2
      obtain ⟨zS, zH, zF, zL, lS, lH, lF, lL, m, hft⟩ := T.hy0 (getD_ft hi2)
      refine wpOp_in rfl rfl (f := 37) (args := #[.pointer (some ⟨By, 0, none⟩), .agg #[.int .i64 1, .int .i64 f.c.a, .int .i64 f.c.b, .int .i64 f.c.time, .int .i64 f.c.bk, .int .i64 f.c.slot, .int .i64 f.pl, .int .i64 f.cur, .int .i64 f.prev, .int .i64 f.slot, .int .i64 f.n, .slice aK f.keys.length cK, .bool f.done, .int .i64 f.e]]) (by simp [execOp, go_sem, (show (actS y).tmps[6]?.getD undef = _ from y6), (show (actS y).tmps[24]?.getD undef = _ from y24)]) ((HRt.out W By lo zS zH zF zL lS lH lF lL m (HR.out.below T.ev.bl) (fun ad h hF => by have := HLow.out ad h; have := (T.ry _ (hft _ hF)).1; omega)).mono ?_)
      rintro e w3 ⟨⟨a, c, rfl, kr, hi⟩, hh, hf⟩
      exact ⟨_, rfl, updv y 25 _, rfl, hJ.next 3 (by omega) (updv_outs (by decide)) (T.b3 (getD_ft hi2) g1 HLb.out hft kr hh hf)⟩
    · have g1 : listed.getD 1 false = true := hpre ⟨1, .data⟩ (by simp at ho; subst ho; simp) rfl
      have g3 : listed.getD 3 false = true := hpre ⟨3, .data⟩ (by simp at ho; subst ho; simp) rfl
      obtain ⟨a, c, y23, kr, -⟩ := T.p1 g1
      obtain ⟨a', c', y25, kr'⟩ := T.p3 g3
      refine wpOp_in rfl rfl (f := 28) (args := #[fval g a c, fval g a' c']) (by simp [execOp, go_sem, (show (actS y).tmps[23]?.getD undef = _ from y23), (show (actS y).tmps[25]?.getD undef = _ from y25)]) ((sameFr_true g a a' c c' W kr kr').mono ?_)
      rintro e w3 ⟨rfl, hb⟩
      exact ⟨_, rfl, updv y 26 _, rfl, hJ.next 4 (by omega) (updv_outs (by decide)) ((T.below hb).b4 g3)⟩
    · have g4 : listed.getD 4 false = true := hpre ⟨4, .data⟩ (by simp at ho; subst ho; simp) rfl
      have y26 := T.p4 g4
      exact wpOp_val rfl rfl (v := .bool true) (w' := W) (by simp [execOp, go_sem, (show (actS y).tmps[26]?.getD undef = _ from y26)]) ⟨updv y 27 _, rfl, hJ.next 5 (by omega) (updv_outs (by decide)) (T.b5 g4)⟩
    · have g5 : listed.getD 5 false = true := hpre ⟨5, .guard⟩ (by simp at ho; subst ho; simp) rfl
      have y27 := T.p5 g5
      obtain ⟨nS, nH, nF, nL, lS, lH, lF, lL, m, -⟩ := T.hx1 (T.e3 (T.e4 (T.e5 g5)))
      obtain ⟨q0, q1, q2, q3, q4, -, -, -, -, -, qs⟩ := boxf m.box
      exact wpOp_vals rfl (wants (ops := _) (k := 5) (d := 27) (b := true) rfl rfl (by show some (y 27) = _; rw [y27])) (v := .agg #[.slice nS N.slots.length lS, .slice nH N.heads.length lH, .slice nF N.free.length lF, .slice nL N.locks.length lL, .int .i64 N.now]) (w' := W) (by simp [execOp, go_sem, (show (actS y).tmps[5]?.getD undef = _ from y5), q0, q1, q2, q3, q4]) ⟨updv y 28 _, rfl, hJ.next 6 (by omega) (updv_outs (by decide)) (T.b6 g5 (m.ans.mono (Nat.zero_le _)))⟩
    · have g5 : listed.getD 5 false = true := hpre ⟨5, .guard⟩ (by simp at ho; subst ho; simp) rfl
      have y27 := T.p5 g5
      obtain ⟨nS, nH, nF, nL, lS, lH, lF, lL, m, -⟩ := T.hy1 (T.e4 (T.e5 g5))
      obtain ⟨q0, q1, q2, q3, q4, -, -, -, -, -, qs⟩ := boxf m.box
      exact wpOp_vals rfl (wants (ops := _) (k := 5) (d := 27) (b := true) rfl rfl (by show some (y 27) = _; rw [y27])) (v := .agg #[.slice nS N.slots.length lS, .slice nH N.heads.length lH, .slice nF N.free.length lF, .slice nL N.locks.length lL, .int .i64 N.now]) (w' := W) (by simp [execOp, go_sem, (show (actS y).tmps[6]?.getD undef = _ from y6), q0, q1, q2, q3, q4]) ⟨updv y 29 _, rfl, hJ.next 7 (by omega) (updv_outs (by decide)) (T.b7 g5 (m.ans.mono (Nat.zero_le _)))⟩
    · have g5 : listed.getD 5 false = true := hpre ⟨5, .guard⟩ (by simp at ho; subst ho; simp) rfl
      have g6 : listed.getD 6 false = true := hpre ⟨6, .data⟩ (by simp at ho; subst ho; simp) rfl
      have g7 : listed.getD 7 false = true := hpre ⟨7, .data⟩ (by simp at ho; subst ho; simp) rfl
      have y27 := T.p5 g5
      have a1 := T.p6 g6
      have a2 := T.p7 g7
      generalize h28 : y 28 = u1 at a1
      generalize h29 : y 29 = u2 at a2
      have hr := rsame_any N N u1 u2 W 0 0 a1 a2
      rw [eqM_self] at hr
      obtain ⟨_, _, _, _, _, _, _, _, rfl⟩ := a1.form
      obtain ⟨_, _, _, _, _, _, _, _, rfl⟩ := a2.form
      refine wpOp_ins rfl (wants (ops := _) (k := 5) (d := 27) (b := true) rfl rfl (by show some (y 27) = _; rw [y27])) (f := 38) (by simp [execOp, go_sem, (show (actS y).tmps[28]?.getD undef = _ from h28), (show (actS y).tmps[29]?.getD undef = _ from h29)]) (hr.mono ?_)
      rintro e w3 ⟨rfl, hb⟩
      exact ⟨_, rfl, updv y 30 _, rfl, hJ.next 8 (by omega) (updv_outs (by decide)) (T.below hb).b8⟩
    · have g5 : listed.getD 5 false = true := hpre ⟨5, .data⟩ (by simp at ho; subst ho; simp) rfl
      have g8 : listed.getD 8 false = true := hpre ⟨8, .data⟩ (by simp at ho; subst ho; simp) rfl
      have y27 := T.p5 g5
      have y30 := T.p8 g8
      exact wpOp_val rfl rfl (v := .bool true) (w' := W) (by simp [execOp, go_sem, (show (actS y).tmps[27]?.getD undef = _ from y27), (show (actS y).tmps[30]?.getD undef = _ from y30)]) ⟨updv y 31 _, rfl, hJ.next 9 (by omega) (updv_outs (by decide)) T.b9⟩
    · have g9 : listed.getD 9 false = true := hpre ⟨9, .data⟩ (by simp at ho; subst ho; simp) rfl
      have y31 := T.p9 g9
      exact wpOp_val rfl rfl (v := .bool true) (w' := W) (by simp [execOp, go_sem, (show (actS y).tmps[31]?.getD undef = _ from y31)]) ⟨updv y 4 _, rfl, hJ.next 10 (by omega) (updv_outs (by decide)) T.b10⟩
  intro listed y W' hr hJ
  obtain ⟨hsz, hout, Zx, Zy, T⟩ := hJ
  have hall := all_listed hr hsz (by kernel_rfl) 11
  have g10 : listed.getD 10 false = true := hall 10 (by omega) (by show 10 < 11; omega)
  have y4 := T.p10 g10
  have HBl : Hid (Below w.heap.size w W') := T.ev.bl
  clear hr hall T hout hsz g10
  refine hK1 _ _ ?_
  unfold actS
  rw [y4]
  clear y4
  go_wp2
  go_ret
  exact ⟨rfl, HBl.out⟩

end Go.Proofs.Ytdbilofhcadmoab.mm

namespace Go.Proofs.Ytdbilofhcadmoab.lookSteps
open Go.ChangeShapes Go.WideShapes Go.ChangeAt Go.RowKit Go.Joins
open Go.Proofs.Ytdbilofhcadmoab.mm
set_option linter.unusedVariables false

theorem laidOut : laidOutB Try.prog = true := by kernel_rfl

set_option maxRecDepth 100000 in
theorem lifted (os : Os) (started : os.Started) (H : Type) (enc : TypeId × Value → H) :
    ReturnsInHanded {} Try.checked os 6 .any (Rows.lookStepsSpec.pre6 enc Try.prog Try.f6 Rows.lookStepsRow.domain false) (Rows.lookStepsSpec.post enc Try.prog Try.f6 false true false false) := by
  refine returnsInHanded_of_change_sized (C := Try.checked) own started (by kernel_rfl) Try.func6
    (ChangeSpec.witness6 (enc := enc) (C := Try.checked) false ⟨#[], #[.agg #[.slice none 0 0, .slice none 0 0, .slice none 0 0, .slice none 0 0, .int .i64 0], .agg #[.int .i64 0, .int .i64 0, .int .i64 0, .int .i64 0, .int .i64 0, .int .i64 0, .int .i64 0, .int .i64 0, .int .i64 0, .int .i64 0, .int .i64 0, .slice none 0 0, .bool false, .int .i64 0]], []⟩ 8 (by kernel_rfl) (by kernel_rfl) (by kernel_rfl) (by kernel_rfl)) ?_
  intro W base args ds gs before hval0 hW _ hsz0 _
  have hsz : (DataW.weightsEach Try.prog (Try.f6.params.toList ++ Rows.lookStepsSpec.plain.varTypes Try.prog) (ds ++ gs)).all (· ≤ reachBytes) = true := hsz0
  have hval : ∀ (j : Nat) t v, Try.f6.params[j]? = some t → args[j]? = some v → Value.okWide Try.prog W .any base t v := hval0
  have hW' := hW
  obtain ⟨p, q, hA0, hV, rfl, _, _⟩ := hW
  have hA : DataW.TrodAll enc Try.prog W 0 (fun _ => true) true Try.f6.params.toList args.toList ds p := hA0
  rw [Try.params6] at hA hval hsz
  obtain ⟨v0, v1, d0, d1, p0, p1, rfl, rfl, rfl, h0, h1⟩ := trodAll_two hA
  obtain ⟨rfl, rfl⟩ := trodVars_none hV
  clear hA0 hval0 hsz0
  simp only [List.append_nil] at hW'
  have hlt : ∀ x ∈ p0 ++ p1, x.block < W.heap.size := fun x hx => by simpa using hW'.lt x hx
  obtain ⟨M0, A0⟩ := open_mem (hval 0 25 v0 rfl rfl) h0 (fun n hn => by
    have := List.all_eq_true.1 hsz n (DataW.weights_mem_each (j := 0) (t := 25) (d := d0) rfl rfl n hn)
    simpa using this)
  have h0k := h0
  have h1k := h1
  obtain ⟨f1, aK1, cK1, rfl, rK1⟩ := open_frame (hval 1 51 v1 rfl rfl) h1 (fun n hn => by
    have := List.all_eq_true.1 hsz n (DataW.weights_mem_each (j := 1) (t := 51) (d := d1) rfl rfl n hn)
    simpa using this)
  refine (lookSteps_any M0 f1 v0 aK1 cK1 W A0 rK1 (frame_low (hval 1 51 _ rfl rfl))).mono fun e W' ⟨he, hnx⟩ => ?_
  subst he
  refine ⟨_, rfl, _, _, _, [], p0 ++ p1, [], hW', ?_, ?_, rfl, hnx.frame _, fun h => by cases h⟩
  · exact trodAll_mk1 (shut_bool Try.underlying4 _)
  · exact trodAll_mk2 (Below.trod laidOut (by kernel_rfl) (of_decide_eq_true (by kernel_rfl)) h0k hnx (fun x hx => hlt x (by simp [hx]))) (Below.trod laidOut (by kernel_rfl) (of_decide_eq_true (by kernel_rfl)) h1k hnx (fun x hx => hlt x (by simp [hx])))

theorem row_holds : Rows.LookStepsSaid :=
  OpenClaim.holds_of_wide 6 Try.f6 rfl rfl rfl rfl rfl rfl rfl ⟨rfl, rfl, rfl, rfl, rfl⟩ rfl rfl rfl rfl rfl (by kernel_rfl) Try.func6 (by kernel_rfl)
    (of_decide_eq_true (by kernel_rfl)) (by unfold Func.isWrapper; first | (rw [if_pos (by decide +kernel)]; kernel_rfl) | (rw [if_neg (by decide +kernel)]; exact ⟨rfl, rfl⟩))
    (fun os started H enc _ => lifted os started H enc)
#print axioms row_holds


end Go.Proofs.Ytdbilofhcadmoab.lookSteps
