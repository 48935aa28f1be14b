/- The contract of the document's own CheckChains: it answers what Check of chains answers. -/
import Derived.Test.YtdbilofhcadmoaaRefD
import Derived.Test.YtdbilofhcadmoaaRefB
import Derived.Test.YtdbilofhcadmoaaFilled
import Derived.Test.YtdbilofhcadmoaaSame
namespace Go.Proofs.Ytdbilofhcadmoaa.mm
open Go.ChangeShapes Go.WideShapes Go.ChangeAt Go.RowKit Go.Joins Go.Maps
set_option maxRecDepth 100000
set_option linter.unusedVariables false

def encK (l : List (Int × Int)) : List Value := l.flatMap fun k => [.int .i64 k.1, .int .i64 k.2]
theorem encK_cons (s : Int × Int) (l : List (Int × Int)) : encK (s :: l) = [.int .i64 s.1, .int .i64 s.2] ++ encK l := by simp [encK]
theorem encK_len (l : List (Int × Int)) : (encK l).length = l.length * 2 := by
  induction l with
  | nil => rfl
  | cons s l ih => rw [encK_cons, List.length_append, ih]; simp; omega
theorem encK_get (l : List (Int × Int)) (i q : Nat) (h : i < l.length) (hq : q < 2) : (encK l)[i * 2 + q]? = [Value.int .i64 l[i].1, .int .i64 l[i].2][q]? := by
  induction l generalizing i with
  | nil => simp at h
  | cons s l ih =>
    rw [encK_cons]
    match i with
    | 0 =>
      rw [List.getElem?_append_left (by simp; omega)]
      simp
    | i + 1 =>
      rw [List.getElem?_append_right (by simp; omega)]
      rw [show [Value.int .i64 s.1, .int .i64 s.2].length = 2 from rfl, show (i + 1) * 2 + q - 2 = i * 2 + q by omega, ih i (by simpa using h)]
      simp

def KAt (w : World) (ao : Option Addr) (l : List (Int × Int)) : Prop :=
  l.length = 0 ∨ ∃ b o, ao = some ⟨b, o, none⟩ ∧ ∀ i (h : i < l.length), w.cell? ⟨b, o + i * 2, none⟩ = some (.int .i64 l[i].1) ∧ w.cell? ⟨b, o + i * 2 + 1, none⟩ = some (.int .i64 l[i].2)
theorem KAt.of_own {w : World} {base n cap : Nat} {ao : Option Addr} {S : List (Int × Int)} (h : w.ownsRow base 37 2 (.slice ao n cap) n (encK S)) : KAt w ao S := by
  have hl := h.1
  rw [encK_len] at hl
  have hn : S.length = n := by omega
  subst hn
  rcases h.2 with ⟨h1, h0⟩ | ⟨g, cap', cur, hv, hg, hb, hc, -, hs, ht⟩
  · exact .inl h0
  · injection hv with h1 h2 h3
    subst h1 h3
    refine .inr ⟨g, 0, rfl, fun i hi => ?_⟩
    have e : ∀ q, q < 2 → w.cell? ⟨g, 0 + i * 2 + q, none⟩ = [Value.int .i64 S[i].1, .int .i64 S[i].2][q]? := fun q hq => by
      rw [Nat.zero_add, h.cellAt _ (by omega), encK_get S i q hi hq]
    exact ⟨e 0 (by omega), e 1 (by omega)⟩

theorem nin_snoc (l : List (Int × Int)) (k : Nat) (h : k < l.length) (x : Int × Int) (h0 : ¬ x ∈ l.take k) (hx : ¬ x = l[k]) : ¬ x ∈ l.take (k + 1) := by
  rw [List.take_succ_eq_append_getElem h, List.mem_append]
  rintro (hh | hh)
  · exact h0 hh
  · simp at hh; exact hx hh

set_option maxHeartbeats 1600000 in
theorem indexK_any (ao : Option Addr) (cap : Nat) (l : List (Int × Int)) (a b : Int) (w : World) (hbig : l.length ≤ 1000) (hat : KAt w ao l) :
    Calls Try.prog 88 #[.slice ao l.length cap, .agg #[.int .i64 a, .int .i64 b]] w fun e w' => ∃ i : Int, e = .returned (.int .i64 i) ∧ decide (0 ≤ i) = l.contains (a, b) ∧ Below w.heap.size w w' := by
  have HAT : Hid (KAt w ao l) := hat
  clear hat
  have b0 : Below w.heap.size w (w.alloc (.cells #[.int .i64 a, .int .i64 b] 37)) := one_below _ _
  go_enter Try.func88, Try.ntmps88
  go_wp2
  go_loopw [8] (fun i wr => ∃ k q : Nat, k ≤ l.length ∧ i = .int .i64 k ∧ wr = (w.alloc (.cells #[.int .i64 a, .int .i64 b] 37)).drewN q ∧ Hid (¬ (a, b) ∈ l.take k)) (fun i _ => l.length - (intOf i).toNat)
  case atStart => exact ⟨0, 0, Nat.zero_le _, rfl, rfl, by show ¬ _; simp⟩
  case round =>
    obtain ⟨k, q, hk, rfl, rfl, HC⟩ := hrel
    have hbw : Below w.heap.size w ((w.alloc (.cells #[.int .i64 a, .int .i64 b] 37)).drewN q) := b0.trans ((drewN_below _ _).mono (by simp))
    by_cases hlt : k < l.length
    · rcases HAT.out with h0 | ⟨bk, ok, rfl, hc⟩
      · omega
      obtain ⟨c0, c1⟩ := hc k hlt
      have lt := cell_lt c0
      rw [← (bcell hbw).1 _ _ lt] at c0 c1
      clear hc
      have e0 : ((w.alloc (.cells #[.int .i64 a, .int .i64 b] 37)).drewN q).cell? ⟨w.heap.size, 0, none⟩ = some (.int .i64 a) := by rw [World.cell?_drewN]; simp
      have e1 : ((w.alloc (.cells #[.int .i64 a, .int .i64 b] 37)).drewN q).cell? ⟨w.heap.size, 1, none⟩ = some (.int .i64 b) := by rw [World.cell?_drewN]; simp
      generalize hwq : (w.alloc (.cells #[.int .i64 a, .int .i64 b] 37)).drewN q = wq at c0 c1 e0 e1 hbw ⊢
      have HWQ : Hid _ := hwq
      clear hwq
      generalize hx : l[k] = x at c0 c1
      have HX : Hid (l[k] = x) := hx
      clear hx
      obtain ⟨x0, x1⟩ := x
      dsimp only at c0 c1
      have ke := kequal a b x0 x1
      by_cases hh : a = x0 ∧ b = x1
      · obtain ⟨rfl, rfl⟩ := hh
        have HH : Hid (l.contains (a, b) = true) := by
          show _ = _
          rw [List.contains_iff_mem, ← HX.out]
          exact List.getElem_mem hlt
        have hz : (a == a && b == b) = true := by simp
        rw [hz] at ke
        go_wp2_with fail
        go_quiet (fail)
        go_wp2
        go_ret
        exact ⟨k, rfl, by rw [HH.out]; simp, hbw.trans ((drewN_below _ _).mono hbw.size)⟩
      · have HH : Hid (¬ (a, b) ∈ l.take (k + 1)) := nin_snoc l k hlt (a, b) HC.out (by rw [HX.out]; intro he; injection he with h1 h2; exact hh ⟨h1, h2⟩)
        have hz : (a == x0 && b == x1) = false := by
          rw [Bool.eq_false_iff]
          intro h; simp at h; exact hh h
        rw [hz] at ke
        go_wp2_with fail
        go_quiet (fail)
        go_wp2
        go_roundw
        case rel => exact ⟨k + 1, q + nq, by omega, by go_num, by rw [← HWQ.out, World.drewN_drewN], HH⟩
        case measure => simp [intOf]; omega
    · have HH : Hid (l.contains (a, b) = false) := by
        show _ = _
        rw [Bool.eq_false_iff]
        intro h
        rw [List.contains_iff_mem] at h
        have := HC.out
        rw [show k = l.length by omega, List.take_length] at this
        exact this h
      go_wp2
      go_ret
      exact ⟨-1, rfl, by rw [HH.out]; rfl, hbw⟩

theorem containsK_any (ao : Option Addr) (cap : Nat) (l : List (Int × Int)) (a b : Int) (w : World) (hbig : l.length ≤ 1000) (hat : KAt w ao l) :
    Calls Try.prog 73 #[.slice ao l.length cap, .agg #[.int .i64 a, .int .i64 b]] w fun e w' => e = .returned (.bool (l.contains (a, b))) ∧ Below w.heap.size w w' := by
  have HAT : Hid (KAt w ao l) := hat
  have b0 : Below w.heap.size w (w.alloc (.cells #[.int .i64 a, .int .i64 b] 37)) := one_below _ _
  have HAT2 : Hid (KAt (w.alloc (.cells #[.int .i64 a, .int .i64 b] 37)) ao l) := by
    rcases hat with h0 | ⟨bk, ok, e, hc⟩
    · exact .inl h0
    · exact .inr ⟨bk, ok, e, fun i hi => ⟨((bcell b0).1 _ _ (cell_lt (hc i hi).1)).trans (hc i hi).1, ((bcell b0).1 _ _ (cell_lt (hc i hi).1)).trans (hc i hi).2⟩⟩
  clear hat
  go_enter Try.func73, Try.ntmps73
  go_wp2_with fail
  refine (indexK_any _ _ l a b _ hbig HAT2.out).mono ?_
  rintro e w1 ⟨i, rfl, hd, hb1⟩
  have b1 := b0.trans (hb1.mono b0.size)
  have HD : Hid _ := hd
  clear hd hb1 b0
  go_wp2
  go_ret
  refine ⟨?_, b1⟩
  rw [← HD.out]
  rfl


end Go.Proofs.Ytdbilofhcadmoaa.mm
