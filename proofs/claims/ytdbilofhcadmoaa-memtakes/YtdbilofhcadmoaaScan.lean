/- Contracts of slices.Contains over ints, and of the three loops of memory's Check. -/
import Derived.Test.YtdbilofhcadmoaaBase
namespace Go.Proofs.Ytdbilofhcadmoaa.mm
open Go.ChangeShapes Go.WideShapes Go.ChangeAt Go.RowKit
set_option linter.unusedVariables false

theorem has_snoc (l : List Int) (k : Nat) (h : k < l.length) (x : Int) (h0 : hasB (l.take k) x = false) (hx : ¬ x = l[k]) : hasB (l.take (k + 1)) x = false := by
  rw [hasB_not] at h0 ⊢
  rw [List.take_succ_eq_append_getElem h, List.mem_append, List.mem_singleton]
  rintro (h | h)
  · exact h0 h
  · exact hx h

theorem has_hit (l : List Int) (k n : Nat) (h : k < l.length) (hk : k < n) (x : Int) (hx : x = l[k]) : hasB (l.take n) x = true := by
  rw [hasB_iff]
  subst hx
  have : (l.take n)[k]? = some l[k] := by rw [List.getElem?_take_of_lt hk]; exact List.getElem?_eq_getElem h
  exact List.mem_of_getElem? this

set_option maxHeartbeats 400000 in
theorem index_any (ao : Option Addr) (n cap : Nat) (l : List Int) (x : Int) (w : World) (hn : n ≤ l.length) (hbig : n ≤ 9223372036854775807)
    (hat : n = 0 ∨ ∃ b o, ao = some ⟨b, o, none⟩ ∧ ∀ i (h : i < l.length), w.cell? ⟨b, o + i, none⟩ = some (.int .i64 l[i])) :
    Calls Try.prog 92 #[.slice ao n cap, .int .i64 x] w fun e w' => ∃ i : Int, e = .returned (.int .i64 i) ∧ decide (0 ≤ i) = hasB (l.take n) x ∧ w = w' := by
  rcases hat with rfl | ⟨b, o, rfl, hc⟩
  · go_enter Try.func92, Try.ntmps92
    go_wp2
    refine wp_loop_rounds 1 ?_
    rw [rounds_succ]
    go_wp2
    go_ret
    exact ⟨-1, rfl, by simp [hasB], rfl⟩
  · go_enter Try.func92, Try.ntmps92
    go_wp2
    go_loop [8] (fun i => ∃ k : Nat, k ≤ n ∧ i = .int .i64 k ∧ Hid (hasB (l.take k) x = false)) (fun i => n - (intOf i).toNat)
    case atStart => exact ⟨0, Nat.zero_le _, rfl, by show _ = _; simp [hasB]⟩
    case round =>
      obtain ⟨k, hk, rfl, HC⟩ := hrel
      by_cases hlt : k < n
      · have hkl : k < l.length := by omega
        have hck := hc k hkl
        clear hc
        by_cases hx : x = l[k]
        · have HH : Hid (hasB (l.take n) x = true) := has_hit l k n hkl hlt x hx
          generalize l[k] = y at hck hx
          subst hx
          go_wp2
          go_ret
          exact ⟨k, rfl, by rw [HH.out]; simp, rfl⟩
        · have HH : Hid (hasB (l.take (k + 1)) x = false) := has_snoc l k hkl x HC.out hx
          have hx' : (x == l[k]) = false := by simpa using hx
          go_wp2
          go_round
          case rel => exact ⟨k + 1, by omega, by go_num, HH⟩
          case measure => simp [intOf]; omega
      · obtain rfl : k = n := by omega
        go_wp2
        go_ret
        exact ⟨-1, rfl, by rw [HC.out]; rfl, rfl⟩

theorem contains_any (ao : Option Addr) (n cap : Nat) (l : List Int) (x : Int) (w : World) (hn : n ≤ l.length) (hbig : n ≤ 9223372036854775807)
    (hat : n = 0 ∨ ∃ b o, ao = some ⟨b, o, none⟩ ∧ ∀ i (h : i < l.length), w.cell? ⟨b, o + i, none⟩ = some (.int .i64 l[i])) :
    Calls Try.prog 82 #[.slice ao n cap, .int .i64 x] w fun e w' => e = .returned (.bool (hasB (l.take n) x)) ∧ w = w' := by
  go_enter Try.func82, Try.ntmps82
  go_wp2_with (go_at_call 92; refine (index_any _ _ _ l _ _ hn hbig hat).mono ?_; rintro e w1 ⟨i, rfl, hd, rfl⟩)
  go_ret
  exact ⟨rfl, rfl⟩


end Go.Proofs.Ytdbilofhcadmoaa.mm
