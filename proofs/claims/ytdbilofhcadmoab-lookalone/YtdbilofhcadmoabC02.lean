/- Contracts of slices.Contains over ints, and of the three loops of memory's Check. -/
import Derived.Test.YtdbilofhcadmoabC01
namespace Go.Proofs.Ytdbilofhcadmoab.mm
open Go.ChangeShapes Go.WideShapes Go.ChangeAt Go.RowKit
set_option linter.unusedVariables false

theorem has_snoc (l : List Int) (k : Nat) (h : k < l.length) (x : Int) (h0 : hasB (l.take k) x = false) (hx : ¬ x = l[k]) : hasB (l.take (k + 1)) x = false := by
  rw [hasB_not] at h0 ⊢
  rw [List.take_succ_eq_append_getElem h, List.mem_append, List.mem_singleton]
  rintro (h | h)
  · exact h0 h
  · exact hx h

theorem has_hit (l : List Int) (k n : Nat) (h : k < l.length) (hk : k < n) (x : Int) (hx : x = l[k]) : hasB (l.take n) x = true := by
  rw [hasB_iff]
  subst hx
  have : (l.take n)[k]? = some l[k] := by rw [List.getElem?_take_of_lt hk]; exact List.getElem?_eq_getElem h
  exact List.mem_of_getElem? this

set_option maxHeartbeats 400000 in
theorem index_any (ao : Option Addr) (n cap : Nat) (l : List Int) (x : Int) (w : World) (hn : n ≤ l.length) (hbig : n ≤ 9223372036854775807)
    (hat : n = 0 ∨ ∃ b o, ao = some ⟨b, o, none⟩ ∧ ∀ i (h : i < l.length), w.cell? ⟨b, o + i, none⟩ = some (.int .i64 l[i])) :
    Calls Try.prog 77 #[.slice ao n cap, .int .i64 x] w fun e w' => ∃ i : Int, e = .returned (.int .i64 i) ∧ decide (0 ≤ i) = hasB (l.take n) x ∧ w = w' := by
  rcases hat with rfl | ⟨b, o, rfl, hc⟩
  · go_enter Try.func77, Try.ntmps77
    go_wp2
    refine wp_loop_rounds 1 ?_
    rw [rounds_succ]
    go_wp2
    go_ret
    exact ⟨-1, rfl, by simp [hasB], rfl⟩
  · go_enter Try.func77, Try.ntmps77
    go_wp2
    go_loop [8] (fun i => ∃ k : Nat, k ≤ n ∧ i = .int .i64 k ∧ Hid (hasB (l.take k) x = false)) (fun i => n - (intOf i).toNat)
    case atStart => exact ⟨0, Nat.zero_le _, rfl, by show _ = _; simp [hasB]⟩
    case round =>
      obtain ⟨k, hk, rfl, HC⟩ := hrel
      by_cases hlt : k < n
      · have hkl : k < l.length := by omega
        have hck := hc k hkl
        clear hc
        by_cases hx : x = l[k]
        · have HH : Hid (hasB (l.take n) x = true) := has_hit l k n hkl hlt x hx
          generalize l[k] = y at hck hx
          subst hx
          go_wp2
          go_ret
          exact ⟨k, rfl, by rw [HH.out]; simp, rfl⟩
        · have HH : Hid (hasB (l.take (k + 1)) x = false) := has_snoc l k hkl x HC.out hx
          have hx' : (x == l[k]) = false := by simpa using hx
          go_wp2
          go_round
          case rel => exact ⟨k + 1, by omega, by go_num, HH⟩
          case measure => simp [intOf]; omega
      · obtain rfl : k = n := by omega
        go_wp2
        go_ret
        exact ⟨-1, rfl, by rw [HC.out]; rfl, rfl⟩

theorem contains_any (ao : Option Addr) (n cap : Nat) (l : List Int) (x : Int) (w : World) (hn : n ≤ l.length) (hbig : n ≤ 9223372036854775807)
    (hat : n = 0 ∨ ∃ b o, ao = some ⟨b, o, none⟩ ∧ ∀ i (h : i < l.length), w.cell? ⟨b, o + i, none⟩ = some (.int .i64 l[i])) :
    Calls Try.prog 20 #[.slice ao n cap, .int .i64 x] w fun e w' => e = .returned (.bool (hasB (l.take n) x)) ∧ w = w' := by
  go_enter Try.func20, Try.ntmps20
  go_wp2_with (go_at_call 77; refine (index_any _ _ _ l _ _ hn hbig hat).mono ?_; rintro e w1 ⟨i, rfl, hd, rfl⟩)
  go_ret
  exact ⟨rfl, rfl⟩



end Go.Proofs.Ytdbilofhcadmoab.mm

/- The contract of checkSlots: the first error of the slots. -/
namespace Go.Proofs.Ytdbilofhcadmoab.mm
open Go.ChangeShapes Go.WideShapes Go.ChangeAt Go.RowKit
set_option linter.unusedVariables false

theorem ret_int {k : IntKind} {a b : Int} (h : a = b) : Ending.returned (.int k a) = .returned (.int k b) := by rw [h]

theorem step_err {α : Type} {f : α → Int} {l : List α} {k : Nat} (h : k < l.length) {e : Int} (he : f l[k] = e) (h0 : e ≠ 0) (H : firstE f l = firstE f (l.drop k)) : firstE f l = e := by
  rw [H, firstE_drop f l k h, he, if_pos h0]
theorem step_ok {α : Type} {f : α → Int} {l : List α} {k : Nat} (h : k < l.length) (he : f l[k] = 0) (H : firstE f l = firstE f (l.drop k)) : firstE f l = firstE f (l.drop (k + 1)) := by
  rw [H, firstE_drop f l k h, he, if_neg (by simp)]

set_option maxHeartbeats 1600000 in
theorem checkSlots_any (M : Mm) (aS aH aF aL : Option Addr) (cS cH cF cL : Nat) (w : World) (A : At w aS aH aF aL cS cH cF cL M) :
    Calls Try.prog 108 #[.agg #[.slice aS M.slots.length cS, .slice aH M.heads.length cH, .slice aF M.free.length cF, .slice aL M.locks.length cL, .int .i64 M.now]] w fun e w' =>
      e = .returned (.int .i64 (firstE (slotErr M.heads.length M.slots.length) M.slots)) ∧ Below w.heap.size w w' := by
  obtain ⟨S, H, F, L, now⟩ := M
  obtain ⟨rs, rh, rf, rl⟩ := A
  dsimp only at rs rh rf rl ⊢
  have m1 := rs.max; have m2 := rs.le; have m3 := rh.max; have m4 := rh.le
  have n1 : S.length ≤ 9223372036854775807 := by omega
  have n2 : H.length ≤ 9223372036854775807 := by omega
  obtain ⟨f, hf⟩ : ∃ f, f = slotErr H.length S.length := ⟨_, rfl⟩
  have HF : Hid (f = slotErr H.length S.length) := hf
  rw [← hf]
  clear hf
  have hz := rs.at_
  clear rh rf rl rs
  go_enter Try.func108, Try.ntmps108
  go_wp2
  rcases hz with h0 | ⟨b, o, rfl, hc⟩
  · have HE : Hid (firstE f S = 0) := by
      show _ = _
      rw [List.eq_nil_of_length_eq_zero h0]; rfl
    refine wp_loop_rounds 1 ?_
    rw [rounds_succ]
    go_wp2
    go_ret
    exact ⟨ret_int HE.out.symm, one_below _ _⟩
  · go_loopw [9] (fun i wr => ∃ k : Nat, k ≤ S.length ∧ i = .int .i64 k ∧ Below (w.heap.size + 1) (w.alloc (.cells #[.slice (some ⟨b, o, none⟩) S.length cS, .slice aH H.length cH, .slice aF F.length cF, .slice aL L.length cL, .int .i64 now] 25)) wr ∧ Hid (firstE f S = firstE f (S.drop k)))
      (fun i _ => S.length - (intOf i).toNat)
    case atStart => exact ⟨0, Nat.zero_le _, rfl, Below.refl _ _, by show _ = _; rw [List.drop_zero]⟩
    case round =>
      obtain ⟨k, hk, rfl, hb, HE⟩ := hrel
      have hbw : Below w.heap.size w wr := (one_below w _).trans (hb.mono (by omega))
      obtain ⟨q0, q1, q2, q3, q4, q5⟩ := box_cells hb
      by_cases hlt : k < S.length
      · obtain ⟨c0, c1, c2, c3, c4, c5⟩ := hc k hlt
        have lt := cell_lt c0
        obtain ⟨qc, -⟩ := bcell hbw
        rw [← qc _ _ lt] at c0 c1 c2 c3 c4 c5
        clear hc qc
        have lt' : b < wr.heap.size := cell_lt c0
        generalize hs : S[k] = s at c0 c1 c2 c3 c4 c5
        obtain ⟨r, a, bb, u, i, nx⟩ := s
        dsimp only at c0 c1 c2 c3 c4 c5
        have HS : Hid (S[k] = ⟨r, a, bb, u, i, nx⟩) := hs
        clear hs
        cases h1 : inB r 0 1000
        · have HV : Hid (firstE f S = 3) := step_err hlt (by rw [HS.out, HF.out]; simp [slotErr, h1]) (by decide) HE.out
          go_wp2_with (go_at_call 81; refine (within_any _ _ _ _).mono ?_; rintro e w1 ⟨rfl, rfl⟩)
          go_ret
          exact ⟨ret_int HV.out.symm, hbw.alloc hbw.size _⟩
        cases h2 : inB u 0 2000000
        · have HV : Hid (firstE f S = 3) := step_err hlt (by rw [HS.out, HF.out]; simp [slotErr, h2]) (by decide) HE.out
          go_wp2_with (go_at_call 81; refine (within_any _ _ _ _).mono ?_; rintro e w1 ⟨rfl, rfl⟩)
          go_ret
          exact ⟨ret_int HV.out.symm, hbw.alloc hbw.size _⟩
        cases h3 : keyB a bb
        · have HV : Hid (firstE f S = 3) := step_err hlt (by rw [HS.out, HF.out]; simp [slotErr, h3]) (by decide) HE.out
          go_wp2_with (first | (go_at_call 81; refine (within_any _ _ _ _).mono ?_; rintro e w1 ⟨rfl, rfl⟩) | (go_at_call 39; refine (kcheck_f _ _ _ h3).mono ?_; rintro e w1 ⟨rfl, hb1⟩))
          go_ret
          exact ⟨ret_int HV.out.symm, (hbw.alloc hbw.size _).trans (hb1.mono (by have := hbw.size; simp; omega))⟩
        go_wp2_with (go_at_call 81; refine (within_any _ _ _ _).mono ?_; rintro e w1 ⟨rfl, rfl⟩)
        refine (kcheck_t _ _ _ h3).mono ?_
        rintro e w1 ⟨rfl, hb1⟩
        have hbx : Below w.heap.size w w1 := (hbw.alloc hbw.size _).trans (hb1.mono (by have := hbw.size; simp; omega))
        have hby := (hb.alloc q5 (.cells #[.int .i64 r, .int .i64 a, .int .i64 bb, .int .i64 u, .bool i, .int .i64 nx] 39)).trans (hb1.mono (by simp; omega))
        have s5 : w1.cell? ⟨wr.heap.size, 5, none⟩ = some (.int .i64 nx) := ((bcell hb1).1 _ _ (by simp)).trans (by simp)
        have z1 : wr.heap.size + 1 ≤ w1.heap.size := by have := hb1.size; simpa using this
        clear hb1 c0 c1 c2 c3 c4 c5 q0 q1 q2 q3 q4
        obtain ⟨q0, q1, q2, q3, q4, -⟩ := box_cells hby
        cases h4 : inB nx (-(H.length : Int)) S.length
        · have HV : Hid (firstE f S = 5) := step_err hlt (by rw [HS.out, HF.out]; simp [slotErr, h1, h2, h3, h4]) (by decide) HE.out
          go_wp2_with (go_at_call 153; refine (mayStand_any _ _ _ _ _ _ _ _ _ _ _ _ _ _ _ n1 n2).mono ?_; rintro e w2 ⟨rfl, hb2⟩)
          go_ret
          exact ⟨ret_int HV.out.symm, hbx.trans (hb2.mono hbx.size)⟩
        · have HV : Hid (firstE f S = firstE f (S.drop (k + 1))) := step_ok hlt (by rw [HS.out, HF.out]; simp [slotErr, h1, h2, h3, h4]) HE.out
          go_wp2_with (go_at_call 153; refine (mayStand_any _ _ _ _ _ _ _ _ _ _ _ _ _ _ _ n1 n2).mono ?_; rintro e w2 ⟨rfl, hb2⟩)
          go_roundw
          case rel => exact ⟨k + 1, by omega, by go_num, hby.trans (hb2.mono (by omega)), HV⟩
          case measure => simp [intOf]; omega
      · have HV : Hid (firstE f S = 0) := by
          show _ = _
          rw [HE.out, firstE_end f S k (by omega)]
        go_wp2
        go_ret
        exact ⟨ret_int HV.out.symm, hbw⟩




end Go.Proofs.Ytdbilofhcadmoab.mm
