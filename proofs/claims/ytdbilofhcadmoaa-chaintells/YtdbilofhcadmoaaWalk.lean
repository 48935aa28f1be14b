/- The contract of walk: along a chain, whatever is called for each slot, by what that keeps. -/
import Derived.Test.YtdbilofhcadmoaaMapK
import Derived.Test.YtdbilofhcadmoaaChg
namespace Go.Proofs.Ytdbilofhcadmoaa.mm
open Go.ChangeShapes Go.WideShapes Go.ChangeAt Go.RowKit
set_option maxRecDepth 100000
set_option linter.unusedVariables false

theorem walk_stop {S : List Sl} {k : Nat} {x : Int} (h : x ≤ 0 ∨ k = 0) : walkL S k x = [] ∧ walkE S k x = x := by
  cases k with
  | zero => exact ⟨rfl, rfl⟩
  | succ k =>
    have : ¬ 0 < x := by omega
    simp [walkL, walkE, this]
theorem walk_go {S : List Sl} {k : Nat} {x : Int} (h : 0 < x) : walkL S (k + 1) x = (x - 1) :: walkL S k (nextN S x) ∧ walkE S (k + 1) x = walkE S k (nextN S x) := by
  simp [walkL, walkE, h]

set_option maxHeartbeats 3200000 in
theorem walk_any (F : Nat) (caps : Array Value) (M : Mm) (aS aH aF aL : Option Addr) (cS cH cF cL b : Nat) (w : World) (hok : Ok M) (hb : b < M.heads.length) (hF : ∀ args W, (callFunc F args).run Try.prog W = .ok (.enter F args) W) (I : List Int → World → Prop)
    (start : I [] (w.alloc (.cells #[.slice aS M.slots.length cS, .slice aH M.heads.length cH, .slice aF M.free.length cF, .slice aL M.locks.length cL, .int .i64 M.now] 29)))
    (box : ∀ l W, I l W → W.heap[w.heap.size]? = some (.cells #[.slice aS M.slots.length cS, .slice aH M.heads.length cH, .slice aF M.free.length cF, .slice aL M.locks.length cL, .int .i64 M.now] 29 (0, 0)))
    (at_ : ∀ l W, I l W → At W aS aH aF aL cS cH cF cL M)
    (step : ∀ l (a : Nat) W, I l W → a < M.slots.length → l.length < M.slots.length → Calls Try.prog F (#[.int .i64 a] ++ caps) W fun e W' => e = .returned (.tuple #[]) ∧ I (l ++ [(a : Int)]) W') :
    Calls Try.prog 71 #[.agg #[.slice aS M.slots.length cS, .slice aH M.heads.length cH, .slice aF M.free.length cF, .slice aL M.locks.length cL, .int .i64 M.now], .int .i64 b, .func (.func F) #[] caps] w fun e w' => e = .returned (.bool (chOk M b)) ∧ I (chL M b) w' := by
  have n0 := hok.ns
  have n1 := hok.nh
  obtain ⟨R, hR⟩ : ∃ R, R = chOk M b := ⟨_, rfl⟩
  rw [← hR]
  have HR : Hid (R = chOk M b) := hR
  clear hR
  obtain ⟨LL, hL⟩ : ∃ LL, LL = chL M b := ⟨_, rfl⟩
  rw [← hL]
  have HL : Hid (LL = chL M b) := hL
  clear hL
  have HB : Hid _ := box
  have HA : Hid _ := at_
  have HS : Hid _ := step
  have HI : Hid _ := start
  have HFn : Hid _ := hF
  have hA0 := HA.out _ _ HI.out
  rcases hA0.h.at_ with h0 | ⟨bh, oh, rfl, hch⟩
  · omega
  have d0 := hch b hb
  clear box at_ step start hA0 hch hF
  go_enter Try.func71, Try.ntmps71
  go_wp2
  go_loopw [18, 7] (fun i n wr => ∃ k : Nat, k ≤ M.slots.length ∧ i = .int .i64 k ∧ ∃ (l : List Int) (x : Int), n = .int .i64 x ∧ x ≤ M.slots.length ∧ l.length = k ∧ Hid (chL M b = l ++ walkL M.slots (M.slots.length - k) x ∧ chE M b = walkE M.slots (M.slots.length - k) x) ∧ Hid (I l wr))
    (fun i _ _ => M.slots.length - (intOf i).toNat)
  case atStart =>
    have hh := hok.headIn hb
    have he : headM M b = M.heads[b] := by simp [headM, List.getD_eq_getElem?_getD, hb]
    rw [he] at hh
    refine ⟨0, Nat.zero_le _, rfl, [], _, rfl, ((inB_iff _ _ _).1 hh.2).2, rfl, ?_, HI⟩
    rw [← he]
    exact ⟨rfl, rfl⟩
  case round =>
    obtain ⟨k, hk, rfl, l, x, rfl, hx, hl, HE, HW⟩ := hrel
    have hbx := HB.out _ _ HW.out
    obtain ⟨q0, q1, q2, q3, q4, f0, f1, f2, f3, f4, qs⟩ := boxf hbx
    clear hbx f0 f1 f2 f3 f4 d0
    have fin : (x ≤ 0 ∨ M.slots.length - k = 0) → R = (x == -1 - (b : Int)) ∧ LL = l := fun h => by
      have hs := walk_stop (S := M.slots) h
      have h1 := HE.out.1
      have h2 := HE.out.2
      rw [hs.1, List.append_nil] at h1
      rw [hs.2] at h2
      exact ⟨by rw [HR.out, chOk, h2], by rw [HL.out, h1]⟩
    have HF : Hid _ := fin
    clear fin
    by_cases hlt : k < M.slots.length
    · by_cases hx0 : x ≤ 0
      · go_wp2_with (first
          | (go_at_call 87; refine (slotOf_no _ _ hx0).mono ?_; rintro e w1 ⟨rfl, rfl⟩)
          | (go_at_call 57; refine (toEnd_any _ _ (by omega) (by omega)).mono ?_; rintro e w1 ⟨rfl, rfl⟩))
        go_ret
        obtain ⟨e1, e2⟩ := HF.out (.inl hx0)
        rw [e1, e2]
        exact ⟨rfl, HW.out⟩
      · obtain ⟨j, rfl⟩ : ∃ j : Nat, x = (j : Int) + 1 := ⟨(x - 1).toNat, by omega⟩
        have hj : j < M.slots.length := by omega
        have hj1 : (0 : Int) < (j : Int) + 1 := by omega
        have HE2 : Hid (chL M b = (l ++ [(j : Int)]) ++ walkL M.slots (M.slots.length - (k + 1)) M.slots[j].next ∧ chE M b = walkE M.slots (M.slots.length - (k + 1)) M.slots[j].next) := by
          have hg := walk_go (S := M.slots) (k := M.slots.length - (k + 1)) hj1
          rw [show M.slots.length - (k + 1) + 1 = M.slots.length - k by omega] at hg
          have hn : nextN M.slots ((j : Int) + 1) = M.slots[j].next := by
            unfold nextN
            rw [show ((j : Int) + 1 - 1).toNat = j by omega, getD_lt _ _ hj]
          rw [hn] at hg
          refine ⟨?_, by rw [HE.out.2, hg.2]⟩
          rw [HE.out.1, hg.1, List.append_assoc, show (j : Int) + 1 - 1 = j by omega]
          rfl
        have hnx := ((inB_iff _ _ _).1 (slot_good (hok.slot _ (List.getElem_mem hj))).2.2.2).2
        clear HE
        go_wp2_with (first
          | (go_at_call 87; refine (slotOf_is _ _ hj1 (by omega)).mono ?_; rw [show (j : Int) + 1 - 1 = j by omega]; rintro e w1 ⟨rfl, rfl⟩))
        rw [HFn.out]
        refine (HS.out l j wr HW.out hj (by omega)).mono ?_
        rintro e w2 ⟨rfl, hI2⟩
        have HW2 : Hid _ := hI2
        have hbx2 := HB.out _ _ hI2
        have hA2 := HA.out _ _ hI2
        clear q0 q1 q2 q3 q4 qs hI2
        obtain ⟨q0, q1, q2, q3, q4, f0, f1, f2, f3, f4, qs⟩ := boxf hbx2
        clear hbx2 f0 f1 f2 f3 f4
        rcases hA2.s.at_ with h0 | ⟨bs, os, rfl, hcs⟩
        · omega
        have c5 := (hcs j hj).2.2.2.2.2
        clear hA2 hcs
        go_wp2
        go_roundw
        case rel => exact ⟨k + 1, by omega, by go_num, _, _, rfl, hnx, by simp [hl], HE2, HW2⟩
        case measure => simp [intOf]; omega
    · go_wp2_with (first
        | (go_at_call 57; refine (toEnd_any _ _ (by omega) (by omega)).mono ?_; rintro e w1 ⟨rfl, rfl⟩))
      go_ret
      obtain ⟨e1, e2⟩ := HF.out (.inr (by omega))
      rw [e1, e2]
      exact ⟨rfl, HW.out⟩


end Go.Proofs.Ytdbilofhcadmoaa.mm
