/- The contracts of slices.ContainsFunc over slots and of slices.IndexFunc over flows, with the literals that LookAlone hands them. -/
import Derived.Test.YtdbilofhcadmoabEc23
import Derived.Test.YtdbilofhcadmoabEc06
import Derived.Test.YtdbilofhcadmoabEc07
import Derived.Test.YtdbilofhcadmoabEc25
import Derived.Test.YtdbilofhcadmoabEc02
import Derived.Lib.SliceRun
import Derived.Deep.RegionLaw
import Derived.Laws.IdiomCopy
import Derived.BigRegion
import Derived.Test.YtdbilofhcadmoabEc26
import Derived.Test.YtdbilofhcadmoabEc12
import Derived.Deep.RegionHeld3
import Derived.Deep.QuietTactic
import Derived.BigQuiet
import Derived.Lib.QuietBelow
namespace Go.Proofs.Ytdbilofhcadmoab.mm
open Go.ChangeShapes Go.WideShapes Go.ChangeAt Go.RowKit Go.Joins Go.Deep
set_option maxRecDepth 100000
set_option linter.unusedVariables false

theorem lit35 (s : Sl) (w : World) : Calls Try.prog 41 #[.agg #[.int .i64 s.refs, .int .i64 s.a, .int .i64 s.b, .int .i64 s.unt, .bool s.inn, .int .i64 s.next]] w fun e w' => e = .returned (.bool (s.refs == 1000)) ∧ Below w.heap.size w w' := by
  go_enter Try.func41, Try.ntmps41
  go_wp2
  go_ret
  exact ⟨rfl, one_below _ _⟩

theorem idx81 (aS : Option Addr) (cS : Nat) (l : List Sl) (w : World) (r : SRow w aS cS l) :
    Calls Try.prog 105 #[.slice aS l.length cS, .func (.func 41) #[] #[]] w fun e w' => ∃ i : Int, e = .returned (.int .i64 i) ∧ ((i = -1 ∧ ∀ s ∈ l, s.refs ≠ 1000) ∨ (0 ≤ i ∧ ∃ s ∈ l, s.refs = 1000)) ∧ Below w.heap.size w w' := by
  have m1 := r.max
  have n1 : l.length ≤ 9223372036854775807 := by omega
  have HR : Hid (∀ W : World, Below w.heap.size w W → SRow W aS cS l) := fun W hb => r.below hb
  clear r
  go_enter Try.func105, Try.ntmps105
  go_wp2_with fail
  go_loopw [8] (fun i wr => ∃ k : Nat, k ≤ l.length ∧ i = .int .i64 k ∧ Hid (Below w.heap.size w wr) ∧ Hid (∀ j (h : j < l.length), j < k → l[j].refs ≠ 1000)) (fun i _ => l.length - (intOf i).toNat)
  case atStart => exact ⟨0, Nat.zero_le _, rfl, Below.refl _ _, fun j _ h => absurd h (Nat.not_lt_zero _)⟩
  case round =>
    obtain ⟨k, hk, rfl, HB, HN⟩ := hrel
    by_cases hlt : k < l.length
    · have HM : Hid (l[k] ∈ l) := List.getElem_mem hlt
      rcases (HR.out _ HB.out).at_ with h0 | ⟨b1, o1, rfl, hc1⟩
      · omega
      obtain ⟨x0, x1, x2, x3, x4, x5⟩ := hc1 k hlt
      clear hc1
      have HK : Hid (∀ x, l[k] = x → x.refs ≠ 1000 → ∀ j (h : j < l.length), j < k + 1 → l[j].refs ≠ 1000) := fun x e hx j h hj => by
        by_cases ej : j = k
        · subst ej; rw [e]; exact hx
        · exact HN.out j h (by omega)
      generalize hx : l[k] = x at x0 x1 x2 x3 x4 x5 HM
      have HX : Hid (∀ j (h : j < l.length), j < k + 1 → x.refs ≠ 1000 → l[j].refs ≠ 1000) := fun j h hj hn => HK.out x hx hn j h hj
      clear hx HK
      go_wp2_with fail
      refine (lit35 x wr).mono ?_
      rintro e w1 ⟨rfl, hb1⟩
      have HB1 : Hid (Below w.heap.size w w1) := HB.out.trans (hb1.mono HB.out.size)
      clear hb1 x0 x1 x2 x3 x4 x5
      by_cases hr : x.refs = 1000
      · have hq : (x.refs == 1000) = true := by simp [hr]
        have HR2 : Hid (x.refs = 1000) := hr
        clear hr
        go_wp2
        go_ret
        exact ⟨k, rfl, .inr ⟨by omega, x, HM.out, HR2.out⟩, HB1.out⟩
      · have hq : (x.refs == 1000) = false := by simp [hr]
        have HR2 : Hid (x.refs ≠ 1000) := hr
        clear hr
        go_wp2
        go_roundw
        case rel => exact ⟨k + 1, by omega, by go_num, HB1, fun j h hj => HX.out j h hj HR2.out⟩
        case measure => simp [intOf]; omega
    · obtain rfl : k = l.length := by omega
      go_wp2
      go_ret
      refine ⟨-1, rfl, .inl ⟨rfl, fun s hs => ?_⟩, HB.out⟩
      obtain ⟨j, hj, rfl⟩ := List.getElem_of_mem hs
      exact HN.out j hj hj

theorem has34 (aS : Option Addr) (cS : Nat) (l : List Sl) (w : World) (r : SRow w aS cS l) :
    Calls Try.prog 40 #[.slice aS l.length cS, .func (.func 41) #[] #[]] w fun e w' => ∃ b : Bool, e = .returned (.bool b) ∧ (b = false → ∀ s ∈ l, s.refs ≠ 1000) ∧ Below w.heap.size w w' := by
  have HI : Hid (SRow w aS cS l) := r
  clear r
  go_enter Try.func40, Try.ntmps40
  go_wp2_with fail
  refine (idx81 aS cS l w HI.out).mono ?_
  rintro e w1 ⟨i, rfl, h, hb⟩
  rcases h with ⟨rfl, h⟩ | ⟨h, -⟩
  · have HH : Hid _ := h
    have HB : Hid _ := hb
    clear h hb
    go_wp2
    go_ret
    exact ⟨false, rfl, fun _ => HH.out, HB.out⟩
  · have HB : Hid _ := hb
    have hd : decide (0 ≤ i) = true := by simpa using h
    clear hb
    go_wp2
    go_ret
    exact ⟨true, by simp, (fun h => by cases h), HB.out⟩

theorem lit39 (f : Fl) (K B : Nat) (a b : Int) (v0 v1 v2 v3 : Value) (now : Int) (w : World) (hK : w.heap[K]? = some (.cells #[.int .i64 a, .int .i64 b] 37 (0, 0))) (hB : w.heap[B]? = some (.cells #[v0, v1, v2, v3, .int .i64 now] 25 (0, 0))) :
    Calls Try.prog 45 #[.agg #[.int .i64 f.a, .int .i64 f.b, .int .i64 f.slot, .int .i64 f.unt], .pointer (some ⟨K, 0, none⟩), .pointer (some ⟨B, 0, none⟩)] w fun e w' => e = .returned (.bool (isF a b now f)) ∧ Below w.heap.size w w' := by
  have k0 : w.cell? ⟨K, 0, none⟩ = some (.int .i64 a) := by rw [cell_of_block hK]; rfl
  have k1 : w.cell? ⟨K, 1, none⟩ = some (.int .i64 b) := by rw [cell_of_block hK]; rfl
  have ks : K < w.heap.size := lt_of_block hK
  obtain ⟨q0, q1, q2, q3, q4, -, -, -, -, -, qs⟩ := boxf hB
  have se := kequal f.a f.b a b
  clear hK hB
  cases hq : (f.a == a && f.b == b)
  · have hr : isF a b now f = false := by unfold isF; rw [hq]; rfl
    rw [hr]
    go_enter Try.func45, Try.ntmps45
    go_wp2
    go_ret
    exact ⟨rfl, one_below _ _⟩
  · by_cases hu : now < f.unt
    · have hr : isF a b now f = true := by unfold isF; rw [hq]; simp [hu]
      rw [hr]
      go_enter Try.func45, Try.ntmps45
      go_wp2
      go_ret
      exact ⟨rfl, one_below _ _⟩
    · have hr : isF a b now f = false := by unfold isF; rw [hq]; simp [hu]
      rw [hr]
      go_enter Try.func45, Try.ntmps45
      go_wp2
      go_ret
      exact ⟨rfl, one_below _ _⟩

theorem idx38 (ao : Option Addr) (cap : Nat) (l : List Fl) (K B : Nat) (a b : Int) (v0 v1 v2 v3 : Value) (now : Int) (w : World) (r : FRow w ao cap l) (hK : w.heap[K]? = some (.cells #[.int .i64 a, .int .i64 b] 37 (0, 0))) (hB : w.heap[B]? = some (.cells #[v0, v1, v2, v3, .int .i64 now] 25 (0, 0))) :
    Calls Try.prog 44 #[.slice ao l.length cap, .func (.func 45) #[] #[.pointer (some ⟨K, 0, none⟩), .pointer (some ⟨B, 0, none⟩)]] w fun e w' => ∃ i : Int, e = .returned (.int .i64 i) ∧ ((i = -1 ∧ ∀ f ∈ l, isF a b now f = false) ∨ ∃ (j : Nat) (h : j < l.length), i = j ∧ isF a b now l[j] = true) ∧ Below w.heap.size w w' := by
  have m1 := r.max
  have n1 : l.length ≤ 9223372036854775807 := by omega
  have HR : Hid (∀ W : World, Below w.heap.size w W → FRow W ao cap l) := fun W hb => r.below hb
  have HC : Hid (∀ (W : World) (f : Fl), Below w.heap.size w W → Calls Try.prog 45 #[.agg #[.int .i64 f.a, .int .i64 f.b, .int .i64 f.slot, .int .i64 f.unt], .pointer (some ⟨K, 0, none⟩), .pointer (some ⟨B, 0, none⟩)] W fun e w' => e = .returned (.bool (isF a b now f)) ∧ Below W.heap.size W w') := fun W f hb => lit39 f K B a b v0 v1 v2 v3 now W ((hb.block _ (lt_of_block hK)).trans hK) ((hb.block _ (lt_of_block hB)).trans hB)
  clear r hK hB
  go_enter Try.func44, Try.ntmps44
  go_wp2_with fail
  go_loopw [8] (fun i wr => ∃ k : Nat, k ≤ l.length ∧ i = .int .i64 k ∧ Hid (Below w.heap.size w wr) ∧ Hid (∀ j (h : j < l.length), j < k → isF a b now l[j] = false)) (fun i _ => l.length - (intOf i).toNat)
  case atStart => exact ⟨0, Nat.zero_le _, rfl, Below.refl _ _, fun j _ h => absurd h (Nat.not_lt_zero _)⟩
  case round =>
    obtain ⟨k, hk, rfl, HBl, HN⟩ := hrel
    by_cases hlt : k < l.length
    · rcases (HR.out _ HBl.out).at_ with h0 | ⟨b1, o1, rfl, hc1⟩
      · omega
      obtain ⟨x0, x1, x2, x3⟩ := hc1 k hlt
      clear hc1
      have HX : Hid (∀ x, l[k] = x → isF a b now x = false → ∀ j (h : j < l.length), j < k + 1 → isF a b now l[j] = false) := fun x e hx j h hj => by
        by_cases ej : j = k
        · subst ej; rw [e]; exact hx
        · exact HN.out j h (by omega)
      generalize hx : l[k] = x at x0 x1 x2 x3
      have HXk : Hid (∃ h : k < l.length, l[k] = x) := ⟨hlt, hx⟩
      clear hx
      go_wp2_with fail
      refine (HC.out wr x HBl.out).mono ?_
      rintro e w1 ⟨rfl, hb1⟩
      have HB1 : Hid (Below w.heap.size w w1) := HBl.out.trans (hb1.mono HBl.out.size)
      clear hb1 x0 x1 x2 x3
      cases hq : isF a b now x
      · have HQ : Hid (isF a b now x = false) := hq
        clear hq
        go_wp2
        go_roundw
        case rel => exact ⟨k + 1, by omega, by go_num, HB1, fun j h hj => HX.out x HXk.out.2 HQ.out j h hj⟩
        case measure => simp [intOf]; omega
      · have HQ : Hid (isF a b now x = true) := hq
        clear hq
        go_wp2
        go_ret
        exact ⟨k, rfl, .inr ⟨k, HXk.out.1, rfl, by rw [HXk.out.2]; exact HQ.out⟩, HB1.out⟩
    · obtain rfl : k = l.length := by omega
      go_wp2
      go_ret
      refine ⟨-1, rfl, .inl ⟨rfl, fun s hs => ?_⟩, HBl.out⟩
      obtain ⟨j, hj, rfl⟩ := List.getElem_of_mem hs
      exact HN.out j hj hj



end Go.Proofs.Ytdbilofhcadmoab.mm

/- Whether a list of numbers has one that is not -1. -/
namespace Go.Proofs.Ytdbilofhcadmoab.mm
open Go.ChangeShapes Go.WideShapes Go.ChangeAt Go.RowKit Go.Joins
set_option maxRecDepth 100000
set_option linter.unusedVariables false

theorem litI (F : Nat) (x : Int) (w : World) (h : ∀ W : World, Calls Try.prog F #[.int .i64 x] W fun e w' => e = .returned (.bool (x != -1)) ∧ W = w') : Calls Try.prog F #[.int .i64 x] w fun e w' => e = .returned (.bool (x != -1)) ∧ w = w' := h w

theorem litA1 (x : Int) (w : World) : Calls Try.prog 54 #[.int .i64 x] w fun e w' => e = .returned (.bool (x != -1)) ∧ w = w' := by
  go_enter Try.func54, Try.ntmps54
  go_wp2
  go_ret
  exact ⟨rfl, rfl⟩

theorem idxI (F : Nat) (hF : ∀ args W, (callFunc F args).run Try.prog W = .ok (.enter F args) W) (hp : ∀ (x : Int) (W : World), Calls Try.prog F #[.int .i64 x] W fun e w' => e = .returned (.bool (x != -1)) ∧ W = w') (aS : Option Addr) (cS : Nat) (l : List Int) (w : World) (r : IRow w aS cS l) :
    Calls Try.prog 126 #[.slice aS l.length cS, .func (.func F) #[] #[]] w fun e w' => ∃ i : Int, e = .returned (.int .i64 i) ∧ ((i = -1 ∧ ∀ s ∈ l, s = -1) ∨ (0 ≤ i ∧ ∃ s ∈ l, s ≠ -1)) ∧ Below w.heap.size w w' := by
  have m1 := r.max
  have n1 : l.length ≤ 9223372036854775807 := by omega
  have HR : Hid (∀ W : World, Below w.heap.size w W → IRow W aS cS l) := fun W hb => r.below hb
  have HP : Hid (∀ (x : Int) (W : World), Calls Try.prog F #[.int .i64 x] W fun e w' => e = .returned (.bool (x != -1)) ∧ W = w') := hp
  clear r hp
  go_enter Try.func126, Try.ntmps126
  go_wp2_with fail
  go_loopw [8] (fun i wr => ∃ k : Nat, k ≤ l.length ∧ i = .int .i64 k ∧ Hid (Below w.heap.size w wr) ∧ Hid (∀ j (h : j < l.length), j < k → l[j] = -1)) (fun i _ => l.length - (intOf i).toNat)
  case atStart => exact ⟨0, Nat.zero_le _, rfl, Below.refl _ _, fun j _ h => absurd h (Nat.not_lt_zero _)⟩
  case round =>
    obtain ⟨k, hk, rfl, HB, HN⟩ := hrel
    by_cases hlt : k < l.length
    · have HM : Hid (l[k] ∈ l) := List.getElem_mem hlt
      rcases (HR.out _ HB.out).at_ with h0 | ⟨b1, o1, rfl, hc1⟩
      · omega
      have x0 := hc1 k hlt
      clear hc1
      have HK : Hid (∀ x, l[k] = x → x = -1 → ∀ j (h : j < l.length), j < k + 1 → l[j] = -1) := fun x e hx j h hj => by
        by_cases ej : j = k
        · subst ej; rw [e]; exact hx
        · exact HN.out j h (by omega)
      generalize hx : l[k] = x at x0 HM
      have HX : Hid (∀ j (h : j < l.length), j < k + 1 → x = -1 → l[j] = -1) := fun j h hj hn => HK.out x hx hn j h hj
      clear hx HK
      go_wp2_with fail
      refine (HP.out x wr).mono ?_
      rintro e w1 ⟨rfl, rfl⟩
      clear x0
      by_cases hr : x = -1
      · have hq : (x != -1) = false := by simp [hr]
        have HR2 : Hid (x = -1) := hr
        clear hr
        go_wp2
        go_roundw
        case rel => exact ⟨k + 1, by omega, by go_num, HB, fun j h hj => HX.out j h hj HR2.out⟩
        case measure => simp [intOf]; omega
      · have hq : (x != -1) = true := by simpa using hr
        have HR2 : Hid (x ≠ -1) := hr
        clear hr
        go_wp2
        go_ret
        exact ⟨k, rfl, .inr ⟨by omega, x, HM.out, HR2.out⟩, HB.out⟩
    · obtain rfl : k = l.length := by omega
      go_wp2
      go_ret
      refine ⟨-1, rfl, .inl ⟨rfl, fun s hs => ?_⟩, HB.out⟩
      obtain ⟨j, hj, rfl⟩ := List.getElem_of_mem hs
      exact HN.out j hj hj

theorem hasI (F : Nat) (hF : ∀ args W, (callFunc F args).run Try.prog W = .ok (.enter F args) W) (hp : ∀ (x : Int) (W : World), Calls Try.prog F #[.int .i64 x] W fun e w' => e = .returned (.bool (x != -1)) ∧ W = w') (aS : Option Addr) (cS : Nat) (l : List Int) (w : World) (r : IRow w aS cS l) :
    Calls Try.prog 53 #[.slice aS l.length cS, .func (.func F) #[] #[]] w fun e w' => ∃ b : Bool, e = .returned (.bool b) ∧ (b = false → ∀ s ∈ l, s = -1) ∧ Below w.heap.size w w' := by
  have HI : Hid (Calls Try.prog 126 #[.slice aS l.length cS, .func (.func F) #[] #[]] w fun e w' => ∃ i : Int, e = .returned (.int .i64 i) ∧ ((i = -1 ∧ ∀ s ∈ l, s = -1) ∨ (0 ≤ i ∧ ∃ s ∈ l, s ≠ -1)) ∧ Below w.heap.size w w') := idxI F hF hp aS cS l w r
  clear r hp hF
  go_enter Try.func53, Try.ntmps53
  go_wp2_with fail
  refine HI.out.mono ?_
  rintro e w1 ⟨i, rfl, h, hb⟩
  rcases h with ⟨rfl, h⟩ | ⟨h, -⟩
  · have HH : Hid _ := h
    have HB : Hid _ := hb
    clear h hb
    go_wp2
    go_ret
    exact ⟨false, rfl, fun _ => HH.out, HB.out⟩
  · have HB : Hid _ := hb
    have hd : decide (0 ≤ i) = true := by simpa using h
    clear hb
    go_wp2
    go_ret
    exact ⟨true, by simp, (fun h => by cases h), HB.out⟩


end Go.Proofs.Ytdbilofhcadmoab.mm

/- Lists of flows: which one is of a kind, a copy of one's own, one left out of it. -/
namespace Go.Proofs.Ytdbilofhcadmoab.mm
open Go.ChangeShapes Go.WideShapes Go.ChangeAt Go.RowKit Go.Joins Go.Deep Go.Sort
set_option maxRecDepth 100000
set_option linter.unusedVariables false

set_option maxHeartbeats 1600000 in
theorem indexFn_at (F : Nat) (caps : Array Value) (p : Fl → Bool) (ao : Option Addr) (cap : Nat) (l : List Fl) (w : World) (hbig : l.length ≤ 1000) (hat : FRow w ao cap l) (hF : ∀ args W, (callFunc F args).run Try.prog W = .ok (.enter F args) W)
    (hp : ∀ (x : Fl) W, Below w.heap.size w W → Calls Try.prog F (#[.agg #[.int .i64 x.a, .int .i64 x.b, .int .i64 x.slot, .int .i64 x.unt]] ++ caps) W fun e W' => e = .returned (.bool (p x)) ∧ Below W.heap.size W W') :
    Calls Try.prog 44 #[.slice ao l.length cap, .func (.func F) #[] caps] w fun e w' => ∃ i : Int, e = .returned (.int .i64 i) ∧ ((i = -1 ∧ l.any p = false) ∨ ∃ k : Nat, i = (k : Int) ∧ ∃ h : k < l.length, p l[k] = true) ∧ Below w.heap.size w w' := by
  have HAT : Hid (FRow w ao cap l) := hat
  have HP : Hid (∀ (x : Fl) W, Below w.heap.size w W → Calls Try.prog F (#[.agg #[.int .i64 x.a, .int .i64 x.b, .int .i64 x.slot, .int .i64 x.unt]] ++ caps) W fun e W' => e = .returned (.bool (p x)) ∧ Below W.heap.size W W') := hp
  have HFn : Hid (∀ args W, (callFunc F args).run Try.prog W = .ok (.enter F args) W) := hF
  clear hat hp hF
  go_enter Try.func44, Try.ntmps44
  go_wp2
  go_loopw [8] (fun i wr => ∃ k : Nat, k ≤ l.length ∧ i = .int .i64 k ∧ Hid (Below w.heap.size w wr) ∧ Hid ((l.take k).any p = false)) (fun i _ => l.length - (intOf i).toNat)
  case atStart => exact ⟨0, Nat.zero_le _, rfl, Below.refl _ _, by show _ = _; simp⟩
  case round =>
    obtain ⟨k, hk, rfl, HB, HC⟩ := hrel
    by_cases hlt : k < l.length
    · rcases (HAT.out.below HB.out).at_ with h0 | ⟨bk, ok, rfl, hc⟩
      · omega
      obtain ⟨c0, c1, c2, c3⟩ := hc k hlt
      clear hc
      generalize hy : l[k] = y at c0 c1 c2 c3
      have HX : Hid (l[k] = y) := hy
      clear hy
      go_wp2_with fail
      rw [HFn.out]
      refine (HP.out y wr HB.out).mono ?_
      rintro e w1 ⟨rfl, hb1⟩
      have HB1 : Hid (Below w.heap.size w w1) := HB.out.trans (hb1.mono HB.out.size)
      clear hb1 c0 c1 c2 c3
      cases hh : p y
      · have HH : Hid ((l.take (k + 1)).any p = false) := any_snoc hlt HC.out (by rw [HX.out]; exact hh)
        go_wp2
        go_roundw
        case rel => exact ⟨k + 1, by omega, by go_num, HB1, HH⟩
        case measure => simp [intOf]; omega
      · have HH : Hid (p l[k] = true) := by
          show _ = _
          rw [HX.out]; exact hh
        go_wp2
        go_ret
        exact ⟨k, rfl, .inr ⟨k, rfl, hlt, HH.out⟩, HB1.out⟩
    · have HH : Hid (l.any p = false) := by
        have := HC.out
        rw [show k = l.length by omega, List.take_length] at this
        exact this
      go_wp2
      go_ret
      exact ⟨-1, rfl, .inl ⟨rfl, HH.out⟩, HB.out⟩

theorem of_keyD (a b : Int) (B : Nat) (x : Fl) (W : World) (hB : W.heap[B]? = some (.cells #[.int .i64 a, .int .i64 b] 37 (0, 0))) :
    Calls Try.prog 66 (#[.agg #[.int .i64 x.a, .int .i64 x.b, .int .i64 x.slot, .int .i64 x.unt]] ++ #[.pointer (some ⟨B, 0, none⟩)]) W fun e W' => e = .returned (.bool (x.a == a && x.b == b)) ∧ Below W.heap.size W W' := by
  obtain ⟨c0, c1⟩ := keyf hB
  have lB := lt_of_block hB
  have ke := kequal x.a x.b a b
  have hb := one_below W (.cells #[.int .i64 x.a, .int .i64 x.b, .int .i64 x.slot, .int .i64 x.unt] 42)
  clear hB
  generalize (x.a == a && x.b == b) = r at *
  show Calls Try.prog 66 #[.agg #[.int .i64 x.a, .int .i64 x.b, .int .i64 x.slot, .int .i64 x.unt], .pointer (some ⟨B, 0, none⟩)] W _
  go_enter Try.func66, Try.ntmps66
  go_wp2
  go_ret
  exact ⟨rfl, hb⟩

theorem FRow.src {w : World} {ao : Option Addr} {cap : Nat} {l : List Fl} (r : FRow w ao cap l) : ∀ ad, ao = some ad → ∀ j u, (encF l)[j]? = some u → w.cell? (ad.add j) = some u := by
  intro ad h j u hu
  have hj : j < l.length * 4 := by
    have := (List.getElem?_eq_some_iff.1 hu).1
    rwa [encF_len] at this
  rcases r.at_ with h0 | ⟨b, o, rfl, hc⟩
  · omega
  · cases h
    obtain ⟨c0, c1, c2, c3⟩ := hc (j / 4) (by omega)
    have e := encF_get l (j / 4) (j % 4) (by omega) (by omega)
    rw [show j / 4 * 4 + j % 4 = j by omega, hu] at e
    rw [Addr.add_lit]
    have hq : j % 4 = 0 ∨ j % 4 = 1 ∨ j % 4 = 2 ∨ j % 4 = 3 := by omega
    rcases hq with hq | hq | hq | hq
    · rw [hq] at e
      rw [show o + j = o + j / 4 * 4 by omega, c0, e]; rfl
    · rw [hq] at e
      rw [show o + j = o + j / 4 * 4 + 1 by omega, c1, e]; rfl
    · rw [hq] at e
      rw [show o + j = o + j / 4 * 4 + 2 by omega, c2, e]; rfl
    · rw [hq] at e
      rw [show o + j = o + j / 4 * 4 + 3 by omega, c3, e]; rfl
theorem encF_one (l : List Fl) : ∀ u ∈ encF l, u.oneCell' = true := by
  intro u hu
  obtain ⟨x, -, hx⟩ := List.mem_flatMap.1 hu
  simp only [Fl.enc, List.mem_cons, List.not_mem_nil, or_false] at hx
  rcases hx with rfl | rfl | rfl | rfl <;> rfl

set_option maxHeartbeats 1600000 in
theorem cloneF (ao : Option Addr) (cap : Nat) (l : List Fl) (w : World) (h0 : 0 < l.length) (hbig : l.length ≤ 1000) (r : FRow w ao cap l) :
    Calls Try.prog 68 #[.slice ao l.length cap] w fun e w' => ∃ g c, e = .returned (.slice (some ⟨g, 0, none⟩) l.length c) ∧ w'.ownsRow w.heap.size 42 4 (.slice (some ⟨g, 0, none⟩) l.length c) l.length (encF l) ∧ Below w.heap.size w w' := by
  have q29 : ∀ (w : World) (a : Option Addr) (n c : Nat), (binOp .eql 29 (.slice a n c) (.slice none 0 0)).run Try.prog w = .ok (.bool a.isNone) w := fun w a n c => Lib.run_eql_slice_nil w _ _ a n c 0 0 Try.underlying29
  obtain ⟨ad, rfl⟩ : ∃ ad, ao = some ad := by
    rcases r.at_ with h | ⟨b, o, h, -⟩
    · omega
    · exact ⟨_, h⟩
  obtain ⟨i0, hi, hz0, hz1, hz2⟩ := info_parts iF
  have HSr : Hid (∀ j u, (encF l)[j]? = some u → (w.alloc (.cells #[] 42)).cell? (ad.add j) = some u) := (r.below (one_below _ _)).src ad rfl
  have HLt : Hid ((w.alloc (.cells #[] 42)).ownsRow w.heap.size 42 4 (.slice (some ⟨w.heap.size, 0, none⟩) 0 0) 0 []) := lit_row _ 42 4 w.heap.size _ rfl (Nat.le_refl _)
  have HE : Hid ((encF l).length = l.length * 4) := encF_len l
  have HO1 : Hid (∀ u ∈ encF l, u.oneCell' = true) := encF_one l
  have HB0 : Hid (Below w.heap.size w (w.alloc (.cells #[] 42))) := one_below _ _
  clear r
  generalize encF l = xs at *
  generalize l.length = n at *
  go_enter Try.func68, Try.ntmps68
  go_wp2_with (at_builtin; refine wpList_append_own_at _ rfl _ _ 29 rfl w.heap.size 42 i0 (.agg #[.int .i64 0, .int .i64 0, .int .i64 0, .int .i64 0]) 4 32 Try.underlying29 hi hz0 hz1 hz2 rfl (by decide) (.slice (some ⟨w.heap.size, 0, none⟩) 0 0) 0 [] rfl HLt.out ad n cap xs rfl HE.out HSr.out HO1.out (by unfold maxLen; omega) (by omega) (by simp) ?_; intro v1 w1 hown1 hgrow1 _ hloc1; rw [Nat.zero_add, List.nil_append] at hown1; obtain ⟨g1, c1, rfl⟩ := ownsRow_form hown1 (by omega); have HW1 : Hid (w1.ownsRow w.heap.size 42 4 (.slice (some ⟨g1, 0, none⟩) n c1) n xs ∧ Below w.heap.size w w1) := ⟨hown1, HB0.out.grown hgrow1 (by simp) (fun k h => by cases h; exact Nat.le_refl _)⟩; clear hown1 hgrow1 hloc1)
  go_ret
  exact ⟨g1, c1, rfl, HW1.out.1, HW1.out.2⟩

theorem run_clear_flow (w : World) (ty : TypeId) (b o n c : Nat) (hn : n = 1)
    (hc : ∀ j, j < 4 → (w.cell? ⟨b, o + j, none⟩).isSome = true) (hf : ∀ j, j < 4 → w.frozen? ⟨b, o + j, none⟩ = false) :
    (Builtin.clear_ #[29] ty #[.slice (some ⟨b, o, none⟩) n c]).run Try.prog w = .ok (.tuple #[]) (w.setCells b o [.int .i64 0, .int .i64 0, .int .i64 0, .int .i64 0]) := by
  subst hn
  have hv : ∀ w, (zeroValue 42).run Try.prog w = .ok (.agg #[.int .i64 0, .int .i64 0, .int .i64 0, .int .i64 0]) w := fun w => by kernel_rfl
  have hzc : (Builtin.zeroCells (Value.agg #[.int .i64 0, .int .i64 0, .int .i64 0, .int .i64 0]).cells 1).toList = [.int .i64 0, .int .i64 0, .int .i64 0, .int .i64 0] := by kernel_rfl
  have hst := run_storeCells_cells (P := Try.prog) b o [.int .i64 0, .int .i64 0, .int .i64 0, .int .i64 0] 0 w (by simpa using hc) (by simpa using hf) (by intro v hv'; simp at hv'; subst hv'; rfl)
  simp only [Nat.add_zero] at hst
  simp [Builtin.clear_, run_underlying Try.underlying29, hv, hzc, hst]

theorem below_setCells {lo b : Nat} (h : lo ≤ b) : ∀ (vs : List Value) (o : Nat) (w w1 : World), Below lo w w1 → Below lo w (w1.setCells b o vs)
  | [], _, _, _, hb => hb
  | v :: r, o, w, w1, hb => below_setCells h r (o + 1) w _ (hb.setCell h v)

theorem encF_erase (l : List Fl) (i : Nat) : encF (l.eraseIdx i) = (encF l).take (i * 4) ++ (encF l).drop ((i + 1) * 4) := by
  induction l generalizing i with
  | nil => simp [encF]
  | cons s l ih =>
    cases i with
    | zero => rw [List.eraseIdx_cons_zero, encF_cons]; simp [Fl.enc]
    | succ i =>
      rw [List.eraseIdx_cons_succ, encF_cons, encF_cons, ih]
      have h4 : s.enc.length = 4 := rfl
      have e1 : (s.enc ++ encF l).take ((i + 1) * 4) = s.enc ++ (encF l).take (i * 4) := by
        rw [List.take_append, h4, List.take_of_length_le (l := s.enc) (by rw [h4]; omega), show (i + 1) * 4 - 4 = i * 4 by omega]
      have e2 : (s.enc ++ encF l).drop ((i + 1 + 1) * 4) = (encF l).drop ((i + 1) * 4) := by
        rw [List.drop_append, h4, List.drop_of_length_le (l := s.enc) (by rw [h4]; omega), show (i + 1 + 1) * 4 - 4 = (i + 1) * 4 by omega, List.nil_append]
      rw [e1, e2, List.append_assoc]

/- Behind the move and the clearing: all but one stand there. -/
theorem row_erase {w : World} {lo g c i j : Nat} {l : List Fl} (hO : w.ownsRow lo 42 4 (.slice (some ⟨g, 0, none⟩) l.length c) l.length (encF l)) (hi : i < l.length) (hj : j = i + 1) (hbig : l.length ≤ 1000) (q : Nat) (hq : q = l.length - 1) (zs : List Value) :
    FRow (((w.drew).setCells g (i * 4) ((encF l).drop (j * 4))).setCells g (q * 4) zs) (some ⟨g, 0, none⟩) c (l.eraseIdx i) := by
  subst hj hq
  have hlen : (l.eraseIdx i).length = l.length - 1 := List.length_eraseIdx_of_lt hi
  obtain ⟨hl, hO2⟩ := id hO
  have hc : l.length ≤ c := by
    rcases hO2 with ⟨h, -⟩ | ⟨g', cap, cur, h, -, -, hc, -⟩
    · cases h
    · injection h with h1 h2 h3
      omega
  refine .mk_cells (by omega) (by omega) fun t ht => ?_
  rw [hlen] at ht
  have hd : ((encF l).drop ((i + 1) * 4)).length = (l.length - (i + 1)) * 4 := by rw [List.length_drop, encF_len]; omega
  rw [World.cell?_setCells_out g zs _ _ _ (fun _ _ => .inl ht), encF_erase, List.getElem?_append]
  have htk : ((encF l).take (i * 4)).length = i * 4 := by rw [List.length_take, encF_len]; omega
  rw [htk]
  by_cases h : t < i * 4
  · rw [if_pos h, World.cell?_setCells_out g _ _ _ _ (fun _ _ => .inl h), List.getElem?_take_of_lt h]
    exact hO.cellAt t (by omega)
  · rw [if_neg h]
    have hin := World.cell?_setCells_in g ((encF l).drop ((i + 1) * 4)) (i * 4) w.drew (fun k hk => by
      rw [hd] at hk
      have e : w.drew.cell? ⟨g, i * 4 + k, none⟩ = _ := hO.cellAt (i * 4 + k) (by omega)
      rw [e, List.getElem?_eq_getElem (by rw [encF_len]; omega)]
      rfl) (t - i * 4) (by rw [hd]; omega)
    rw [show i * 4 + (t - i * 4) = t by omega] at hin
    rw [hin, List.getElem?_eq_getElem (by rw [hd]; omega)]

set_option maxHeartbeats 3200000 in
theorem deleteF (g c i j lo : Nat) (l : List Fl) (w : World) (hO : w.ownsRow lo 42 4 (.slice (some ⟨g, 0, none⟩) l.length c) l.length (encF l)) (hi : i < l.length) (hj : j = i + 1) (hbig : l.length ≤ 1000) (hlo : lo ≤ g) :
    Calls Try.prog 67 #[.slice (some ⟨g, 0, none⟩) l.length c, .int .i64 (i : Int), .int .i64 (j : Int)] w fun e w' => e = .returned (.slice (some ⟨g, 0, none⟩) (l.eraseIdx i).length c) ∧ FRow w' (some ⟨g, 0, none⟩) c (l.eraseIdx i) ∧ Below lo w w' := by
  have hlen : (l.eraseIdx i).length = i + (l.length - j) := by rw [List.length_eraseIdx_of_lt hi]; omega
  obtain ⟨i0, hi0, hz0, hz1, hz2⟩ := info_parts iF
  obtain ⟨hcap, hcm⟩ : l.length ≤ c ∧ c ≤ maxLen := by
    rcases hO.2 with ⟨h, -⟩ | ⟨g', cap, cur, h, -, -, hc, hm, -⟩
    · cases h
    · injection h with h1 h2 h3
      omega
  have hm : c ≤ 9223372036854775807 := by unfold maxLen at hcm; exact hcm
  obtain ⟨news, hnews⟩ : ∃ news, news = (encF l).drop (j * 4) := ⟨_, rfl⟩
  have HE : Hid (∀ q zs, q = i + (l.length - j) → FRow ((w.drew.setCells g (i * 4) news).setCells g (q * 4) zs) (some ⟨g, 0, none⟩) c (l.eraseIdx i)) := fun q zs hq => hnews ▸ row_erase hO hi hj hbig q (by omega) zs
  have hnl : news.length = (l.length - j) * 4 := by rw [hnews, List.length_drop, encF_len]; omega
  have hcell : ∀ t, t < l.length * 4 → (w.drew.cell? ⟨g, t, none⟩).isSome = true := fun t ht => by
    have e : w.drew.cell? ⟨g, t, none⟩ = _ := hO.cellAt t ht
    rw [e, List.getElem?_eq_getElem (by rw [encF_len]; omega)]
    rfl
  have hfz : ∀ t, w.drew.frozen? ⟨g, t, none⟩ = false := fun t => hO.frozenAt t
  obtain ⟨A, hA, hsrc⟩ : ∃ A : Addr, (if c = j then some (⟨g, 0, none⟩ : Addr) else some ⟨g, j * 4, none⟩) = some A ∧ Hid (∀ t u, news[t]? = some u → w.drew.cell? (A.add t) = some u) := by
    by_cases h : c = j
    · refine ⟨⟨g, 0, none⟩, by simp [h], fun t u hu => ?_⟩
      have h0 : news.length = 0 := by rw [hnl]; omega
      rw [List.length_eq_zero_iff.1 h0] at hu
      simp at hu
    · refine ⟨⟨g, j * 4, none⟩, by simp [h], fun t u hu => ?_⟩
      have ht : t < (l.length - j) * 4 := by
        have := (List.getElem?_eq_some_iff.1 hu).1
        rwa [hnl] at this
      rw [Addr.add_lit]
      have e : w.drew.cell? ⟨g, j * 4 + t, none⟩ = _ := hO.cellAt (j * 4 + t) (by omega)
      rw [e, ← hu, hnews, List.getElem?_drop]
  have s1 : Hid (news.length = (l.length - j) * 4) := hnl
  have s2 : Hid (∀ u ∈ news, u.oneCell' = true) := fun u hu => encF_one l u (List.mem_of_mem_drop (hnews ▸ hu))
  have s3 : Hid (∀ t, t < news.length → (w.drew.cell? ⟨g, 0 + i * 4 + t, none⟩).isSome = true ∧ w.drew.frozen? ⟨g, 0 + i * 4 + t, none⟩ = false) := fun t ht => by
    rw [hnl] at ht
    exact ⟨hcell _ (by omega), hfz _⟩
  obtain ⟨W1, hW1⟩ : ∃ W1, W1 = w.drew.setCells g (0 + i * 4) news := ⟨_, rfl⟩
  have hcl : ∀ ty, (Builtin.clear_ #[29] ty #[.slice (some ⟨g, (i + (l.length - j)) * 4, none⟩) (l.length - (i + (l.length - j))) (c - (i + (l.length - j)))]).run Try.prog W1 = .ok (.tuple #[]) (W1.setCells g ((i + (l.length - j)) * 4) [.int .i64 0, .int .i64 0, .int .i64 0, .int .i64 0]) :=
    fun ty => run_clear_flow W1 ty g _ _ _ (by omega) (fun t ht => by
      rw [hW1, World.cell?_setCells_out g _ _ _ _ (fun _ _ => .inr (by rw [hnl]; dsimp only; omega))]
      exact hcell _ (by omega)) (fun t ht => by rw [hW1, World.frozen?_setCells]; exact hfz _)
  have HB : Hid (Below lo w W1) := hW1 ▸ below_setCells hlo _ _ _ _ ⟨rfl, rfl, rfl, Nat.le_refl _, fun _ _ => rfl⟩
  have hW : Hid (W1 = w.drew.setCells g (0 + i * 4) news) := hW1
  have hic : i ≤ c := by omega
  have hjc : j ≤ c := by omega
  have hlt : i < j := by omega
  have hjn : j ≤ l.length := by omega
  rw [hlen]
  have HLO : Hid (lo ≤ g) := hlo
  clear hW1 hcell hfz hO hnews hnl hlen hj hi hcm hlo
  generalize l.length = n at *
  go_enter Try.func67, Try.ntmps67
  go_wp2_with fail
  go_region_law (refine step_append_room rfl _ _ 29 rfl 42 i0 4 Try.underlying29 hi0 hz1 g 0 i c (by simp [Act.eval, Act.put]) A (n - j) (c - j) news (by simp [Act.eval, Act.put]) s1.out hsrc.out s2.out (by omega) s3.out ?_; rw [← hW.out])
  go_wp2
  go_ret
  refine ⟨rfl, ?_, below_setCells HLO.out _ _ _ _ HB.out⟩
  have h := HE.out _ [.int .i64 0, .int .i64 0, .int .i64 0, .int .i64 0] rfl
  rw [hW.out, Nat.zero_add]
  exact h

end Go.Proofs.Ytdbilofhcadmoab.mm

/- What a Drop that went on alone leaves, told by the place of its flow among those mapped. -/
namespace Go.Proofs.Ytdbilofhcadmoab.mm
set_option linter.unusedVariables false

theorem nodup_at {α β : Type} (f : α → β) : ∀ (l : List α), (l.map f).Nodup → ∀ (i j : Nat) (hi : i < l.length) (hj : j < l.length), f l[i] = f l[j] → i = j
  | [], _, i, _, hi, _, _ => absurd hi (Nat.not_lt_zero _)
  | x :: l, h, 0, 0, _, _, _ => rfl
  | x :: l, h, 0, j + 1, _, hj, e => by
    rw [List.map_cons, List.nodup_cons] at h
    exact absurd (List.mem_map.2 ⟨l[j]'(by simpa using hj), List.getElem_mem _, by simpa using e.symm⟩) h.1
  | x :: l, h, i + 1, 0, hi, _, e => by
    rw [List.map_cons, List.nodup_cons] at h
    exact absurd (List.mem_map.2 ⟨l[i]'(by simpa using hi), List.getElem_mem _, by simpa using e⟩) h.1
  | x :: l, h, i + 1, j + 1, hi, hj, e => by
    rw [List.map_cons, List.nodup_cons] at h
    rw [nodup_at f l h.2 i j (by simpa using hi) (by simpa using hj) (by simpa using e)]

theorem erase_mid {α : Type} (p : List α) (a : α) (q : List α) : (p ++ a :: q).eraseIdx p.length = p ++ q := by
  induction p with
  | nil => rfl
  | cons x p ih => simpa using ih

theorem drop_at {M X : Mm} {g : Fr} {ka kb : Int} (hM : OkC M) (hD : Dropped M ⟨3, ka, kb, 0, 0, 0⟩ X g) {k : Nat} (hk : k < (flowsOf M).length) (hkey : ((flowsOf M)[k].a == ka && (flowsOf M)[k].b == kb) = true) :
    ∃ j : Nat, (flowsOf M)[k].slot = (j : Int) ∧ j < M.slots.length ∧ X.slots.length = M.slots.length ∧ g.e = 0 ∧ flowsOf X = (flowsOf M).eraseIdx k ∧ refsM X (j : Int) = refsM M (j : Int) - 1 := by
  have hh : hasK M (allC M) (ka, kb) = true := by
    rw [← any_key]
    exact List.any_eq_true.2 ⟨_, List.getElem_mem hk, hkey⟩
  unfold Dropped at hD
  rw [if_pos (by exact hh)] at hD
  obtain ⟨a, p, q, e, ea, hge, hX, -, hns, hfl, hr⟩ := hD
  have hk' : k < (allC M).length := by simpa [flowsOf] using hk
  have hkk : keyAt M ((allC M)[k]) = (ka, kb) := by
    simp only [flowsOf, List.getElem_map, flowAt, Bool.and_eq_true, beq_iff_eq] at hkey
    unfold keyAt
    rw [hkey.1, hkey.2]
  have hpl : p.length < (allC M).length := by rw [e]; simp
  have hpa : (allC M)[p.length] = a := by simp [e]
  have hkp : k = p.length := nodup_at (keyAt M) (allC M) hM.keys k p.length hk' hpl (by rw [hkk, hpa]; exact ea.symm)
  subst hkp
  obtain ⟨h0, h1⟩ := hM.allSlots a (by rw [e]; simp)
  refine ⟨a.toNat, ?_, by omega, hns, hge, ?_, ?_⟩
  · simp only [flowsOf, List.getElem_map, flowAt]
    rw [hpa]
    omega
  · rw [hfl]
    unfold flowsOf
    rw [e]
    have := erase_mid (p.map (flowAt M)) (flowAt M a) (q.map (flowAt M))
    rw [List.length_map] at this
    rw [List.map_append, List.map_append, List.map_cons, this]
  · rw [show ((a.toNat : Nat) : Int) = a by omega]
    exact hr
theorem drop_no {M X : Mm} {g : Fr} {ka kb : Int} (hD : Dropped M ⟨3, ka, kb, 0, 0, 0⟩ X g) (hno : (flowsOf M).any (fun x => x.a == ka && x.b == kb) = false) : X = M ∧ g.e = 5 := by
  unfold Dropped at hD
  rwa [if_neg (by rw [show hasK M (allC M) ((⟨3, ka, kb, 0, 0, 0⟩ : Cl).a, (⟨3, ka, kb, 0, 0, 0⟩ : Cl).b) = false by rw [← any_key]; exact hno]; simp)] at hD

end Go.Proofs.Ytdbilofhcadmoab.mm

/- DropAlone's walk: a Drop that goes on alone is done in time; its key is not mapped then, all others are as they were. -/
namespace Go.Proofs.Ytdbilofhcadmoab.mm
open Go.ChangeShapes Go.WideShapes Go.ChangeAt Go.RowKit Go.Joins Go.Deep Go.Sort
set_option maxRecDepth 100000
set_option linter.unusedVariables false

theorem litD1 (x : Int) (w : World) : Calls Try.prog 64 #[.int .i64 x] w fun e w' => e = .returned (.bool (x != -1)) ∧ w = w' := by
  go_enter Try.func64, Try.ntmps64
  go_wp2
  go_ret
  exact ⟨rfl, rfl⟩

theorem fit_drop {M : Mm} (hM : Ok M) {ka kb : Int} (hk : keyB ka kb = true) : Fit M (newF ⟨3, ka, kb, 0, 0, 0⟩) := by
  refine ⟨?_, by simp [newF], (show inB 0 0 1000000 = true by decide), rfl, ?_, ?_, ?_, by simp [newF]⟩
  · show callE _ _ ⟨3, ka, kb, 0, 0, 0⟩ = 0
    rw [callE_key (.inr rfl), if_pos hk]
  · show _ ∧ _
    simp only [newF]
    omega
  · simp only [newF]
    omega
  · simp only [newF]
    omega

theorem aloneD {B lo : Nat} {Z : Nat → Prop} {M X : Mm} {c : Cl} {g : Fr} {most : Int} (w : World) (n : Nat) (hn : n ≤ 1000) (hm : most = (n : Int)) (hG : DrG 0 M (newF c)) (h1 : run drF (drM 0) n M (newF c) = (X, g, true)) (hM : Has w B lo Z M) (hZ : ∀ k, Z k → k < w.heap.size) :
    Calls Try.prog 42 #[.agg #[.int .i64 c.kind, .int .i64 c.a, .int .i64 c.b, .int .i64 c.time, .int .i64 c.bk, .int .i64 c.slot], .int .i64 most, .func (.func 65) #[] #[.pointer (some ⟨B, 0, none⟩)]] w fun e w' =>
      (∃ a c', e = .returned (.tuple #[.agg #[.int .i64 g.c.kind, .int .i64 g.c.a, .int .i64 g.c.b, .int .i64 g.c.time, .int .i64 g.c.bk, .int .i64 g.c.slot, .int .i64 g.pl, .int .i64 g.cur, .int .i64 g.prev, .int .i64 g.slot, .int .i64 g.n, .slice a g.keys.length c', .bool g.done, .int .i64 g.e], .bool true])) ∧ Has w' B lo (Up w Z) X ∧ Fine w w' Z := by
  subst hm
  have h := alone_any 65 #[.pointer (some ⟨B, 0, none⟩)] drF (drM 0) (DrG 0) B lo Z M c n w (fun args W => by kernel_rfl) (fun M f W Z h h' => closD0 M f B lo Z W h h') (fun M f h hd => drG_next h hd) hM hZ hG hn
  rw [h1] at h
  exact h

theorem dropped_okc {M X : Mm} {g : Fr} {c : Cl} (hM : OkC M) (hD : Dropped M c X g) : OkC X ∧ X.locks = M.locks := by
  unfold Dropped at hD
  by_cases h : hasK M (allC M) (c.a, c.b) = true
  · rw [if_pos h] at hD
    obtain ⟨a, p, q, -, -, -, hX, hl, -⟩ := hD
    exact ⟨hX, hl⟩
  · rw [if_neg h] at hD
    rw [hD.1]
    exact ⟨hM, rfl⟩
theorem own_low {w : World} {base lo size n : Nat} {e : TypeId} {v : Value} {xs : List Value} (h : w.ownsRow base e size v n xs) (hl : lo ≤ base) : w.ownsRow lo e size v n xs :=
  ⟨h.1, h.2.imp id (fun ⟨g, cap, cur, a, b, c⟩ => ⟨g, cap, cur, a, Nat.le_trans hl b, c⟩)⟩
theorem refs_cell {w : World} {ao : Option Addr} {cap j : Nat} {M : Mm} (r : SRow w ao cap M.slots) (hj : j < M.slots.length) : ∃ b o, ao = some ⟨b, o, none⟩ ∧ w.cell? ⟨b, o + j * 6, none⟩ = some (.int .i64 (refsM M (j : Int))) := by
  rcases r.at_ with h0 | ⟨b, o, h, hc⟩
  · omega
  · refine ⟨b, o, h, ?_⟩
    rw [(hc j hj).1]
    simp [refsM, List.getD_eq_getElem?_getD, hj]

set_option maxHeartbeats 12800000 in
theorem dropAlone_any (M : Mm) (ka kb : Int) (v : Value) (w : World) (A0 : Ans 0 w v M) :
    Calls Try.prog 13 #[v, .agg #[.int .i64 ka, .int .i64 kb]] w fun e w' => e = .returned (.bool true) ∧ Below w.heap.size w w' := by
  have HA : Hid (Ans 0 w v M) := A0
  obtain ⟨aS, aH, aF, aL, cS, cH, cF, cL, rfl⟩ := A0.form
  obtain ⟨om, hom⟩ : ∃ o : Obj, o = .cells #[.slice aS M.slots.length cS, .slice aH M.heads.length cH, .slice aF M.free.length cF, .slice aL M.locks.length cL, .int .i64 M.now] 25 := ⟨_, rfl⟩
  obtain ⟨ok, hok⟩ : ∃ o : Obj, o = .cells #[.int .i64 ka, .int .i64 kb] 37 := ⟨_, rfl⟩
  have HE0 : Hid (Env w ((w.alloc om).alloc ok) [((w.alloc om).heap.size, ok), (w.heap.size, om)] []) := ((⟨Below.refl _ _, (fun p hp => by cases hp), (fun p hp => by cases hp)⟩ : Env w w [] []).alloc om).alloc ok
  rw [show (w.alloc om).heap.size = w.heap.size + 1 by simp] at HE0
  have HBm : Hid (∀ W : World, W.heap[w.heap.size]? = some om → W.heap[w.heap.size]? = some (.cells #[.slice aS M.slots.length cS, .slice aH M.heads.length cH, .slice aF M.free.length cF, .slice aL M.locks.length cL, .int .i64 M.now] 25 (0, 0))) := fun W E => hom ▸ E
  have HBk : Hid (∀ W : World, W.heap[w.heap.size + 1]? = some ok → W.heap[w.heap.size + 1]? = some (.cells #[.int .i64 ka, .int .i64 kb] 37 (0, 0))) := fun W E => hok ▸ E
  have HMx : Hid (M.slots.length * 48 ≤ 140737488351232 ∧ M.heads.length * 8 ≤ 140737488351232 ∧ M.free.length * 8 ≤ 140737488351232 ∧ M.locks.length * 8 ≤ 140737488351232) := ⟨A0.at_.s.max, A0.at_.h.max, A0.at_.f.max, A0.at_.l.max⟩
  obtain ⟨L, hL⟩ : ∃ L, flowsM M = L := ⟨_, rfl⟩
  obtain ⟨E0, hE⟩ : ∃ E, chkC M = E := ⟨_, rfl⟩
  have HL : Hid (flowsM M = L) := hL
  have HE : Hid (chkC M = E0) := hE
  clear A0 hL hE
  go_enter Try.func13, Try.ntmps13
  obtain ⟨q0, q1, q2, q3, q4, -, -, -, -, -, qs⟩ := boxf (HBm.out _ (HE0.out.box _ (.tail _ (.head _))))
  rw [hom, hok] at q0 q1 q2 q3 q4 qs
  go_wp2_with fail
  clear q0 q1 q2 q3 q4 qs
  rw [← hom, ← hok]
  generalize (w.alloc om).alloc ok = W0 at *
  clear hom hok
  refine (flows_at HL.out HE.out _ W0 0 (HA.out.below HE0.out.bl)).mono ?_
  rintro e w1 ⟨ao, cap, rfl, fr, hb1⟩
  have HF : Hid (FRow w1 ao cap L) := fr
  have HE1' : Hid (Env w w1 [(w.heap.size + 1, ok), (w.heap.size, om)] []) := HE0.out.below hb1
  have HE1 : Hid (Env w1 w1 [(w.heap.size + 1, ok), (w.heap.size, om)] []) := ⟨Below.refl _ _, HE1'.out.box, fun p hp => by cases hp⟩
  have HW1 : Hid (Below w.heap.size w w1) := HE1'.out.bl
  have HKl : Hid (w.heap.size + 1 < w1.heap.size) := HE1'.out.lt (.head _)
  clear HE0 hb1 fr HE1'
  go_wp2_with fail
  refine (dropped_any w1).mono ?_
  rintro e w2 ⟨rfl, hb2⟩
  have HE2 : Hid (Env w1 w2 [(w.heap.size + 1, ok), (w.heap.size, om)] []) := HE1.out.below hb2
  clear HE1 hb2
  by_cases hz : E0 = 0
  rotate_left
  · have hq : (E0 == 0) = false := by simpa using hz
    have hq2 : (E0 != 0) = true := by simpa using hz
    clear hz
    go_wp2_with fail
    refine (dropped_any w2).mono ?_
    rintro e w9 ⟨rfl, hb9⟩
    have HE9 : Hid _ := HE2.out.below hb9
    go_wp2
    go_ret
    exact ⟨rfl, HW1.out.trans (HE9.out.bl.mono HW1.out.size)⟩
  subst hz
  have HOk : Hid (OkC M) := (chkC_zero M).1 HE.out
  have HL' : Hid (L = flowsOf M) := HL.out.symm.trans (flowsM_of HOk.out)
  clear HE HL
  have k0 : w2.cell? ⟨w.heap.size + 1, 0, none⟩ = some (.int .i64 ka) := by rw [cell_of_block (HBk.out _ (HE2.out.box _ (.head _)))]; rfl
  have k1 : w2.cell? ⟨w.heap.size + 1, 1, none⟩ = some (.int .i64 kb) := by rw [cell_of_block (HBk.out _ (HE2.out.box _ (.head _)))]; rfl
  go_wp2_with fail
  clear k0 k1
  refine (kcheck_any ka kb w2).mono ?_
  rintro e w3 ⟨rfl, hb3⟩
  have HE3 : Hid (Env w1 w3 [(w.heap.size + 1, ok), (w.heap.size, om)] []) := HE2.out.below hb3
  clear HE2 hb3
  cases hkey : keyB ka kb
  · simp only [Bool.false_eq_true, if_false]
    go_wp2_with fail
    refine (dropped_any w3).mono ?_
    rintro e w9 ⟨rfl, hb9⟩
    have HE9 : Hid _ := HE3.out.below hb9
    go_wp2
    go_ret
    exact ⟨rfl, HW1.out.trans (HE9.out.bl.mono HW1.out.size)⟩
  have HKy : Hid (keyB ka kb = true) := hkey
  simp only [if_true]
  clear hkey
  have HAt : Hid (∀ W : World, Below w1.heap.size w1 W → At W aS aH aF aL cS cH cF cL M) := fun W hb => (HA.out.at_.below HW1.out).below hb
  obtain ⟨q0, q1, q2, q3, q4, -, -, -, -, -, qs⟩ := boxf (HBm.out _ (HE3.out.box _ (.tail _ (.head _))))
  go_wp2_with fail
  clear q0 q1 q2 q3 q4 qs
  refine (hasI 64 (fun args W => by kernel_rfl) litD1 aL cL M.locks w3 (HAt.out _ HE3.out.bl).l).mono ?_
  rintro e w4 ⟨bb, rfl, hbb, hb4⟩
  have HE4 : Hid (Env w1 w4 [(w.heap.size + 1, ok), (w.heap.size, om)] []) := HE3.out.below hb4
  clear HE3 hb4
  cases bb
  rotate_left
  · clear hbb
    go_wp2
    go_ret
    exact ⟨rfl, HW1.out.trans (HE4.out.bl.mono HW1.out.size)⟩
  have HLo : Hid (∀ x ∈ M.locks, x = -1) := hbb rfl
  clear hbb
  obtain ⟨X, g, hgo, hdr⟩ := dr_all HOk.out HLo.out HKy.out
  have HRun : Hid (run drF (drM 0) (2 * M.slots.length + 6) M (newF ⟨3, ka, kb, 0, 0, 0⟩) = (X, g, true)) := goes_run hgo
  have HDr : Hid (Dropped M ⟨3, ka, kb, 0, 0, 0⟩ X g) := hdr
  have HXo : Hid (OkC X ∧ X.locks = M.locks) := dropped_okc HOk.out hdr
  have HNs : Hid (M.slots.length ≤ 12 ∧ M.free.length ≤ 12) := ⟨HOk.out.ok.ns, free_few HOk.out.ok⟩
  have hns : M.slots.length ≤ 12 := HNs.out.1
  have HG : Hid (DrG 0 M (newF ⟨3, ka, kb, 0, 0, 0⟩)) := ⟨⟨_, X, g, hgo⟩, fit_drop HOk.out.ok HKy.out, rfl, rfl⟩
  clear hgo hdr
  obtain ⟨q0, q1, q2, q3, q4, -, -, -, -, -, qs⟩ := boxf (HBm.out _ (HE4.out.box _ (.tail _ (.head _))))
  go_wp2_with fail
  clear q0 q1 q2 q3 q4 qs
  refine (ownMem_any M aS aH aF aL cS cH cF cL w4 (HAt.out _ HE4.out.bl)).mono ?_
  rintro e w5 ⟨xS, xH, xF, xL, kS, kH, kF, kL, rfl, R5, hb5⟩
  obtain ⟨ox, hox⟩ : ∃ o : Obj, o = .cells #[.slice xS M.slots.length kS, .slice xH M.heads.length kH, .slice xF M.free.length kF, .slice xL M.locks.length kL, .int .i64 M.now] 25 := ⟨_, rfl⟩
  have HM5 : Hid (Mine (w5.alloc ox) w5.heap.size w4.heap.size xS xH xF xL kS kH kF kL M) := by
    obtain ⟨x1, x2, x3, x4⟩ := HMx.out
    have := HNs.out
    rw [hox]
    exact Mine.made R5 (by omega) (by omega) (by omega) (by omega)
  have HE5 : Hid (Env w1 (w5.alloc ox) [(w.heap.size + 1, ok), (w.heap.size, om)] []) := (HE4.out.below hb5).below (one_below _ _)
  have HF5 : Hid (∀ k, Foot w5.heap.size xS xH xF xL k → w1.heap.size ≤ k) := HM5.out.foot (by have := hb5.size; have := HE4.out.bl.size; omega) HE4.out.bl.size
  clear R5 hb5 HE4
  obtain ⟨q0, q1, q2, q3, q4, -, -, -, -, -, qs⟩ := boxf (HBm.out _ (HE5.out.box _ (.tail _ (.head _))))
  have k0 : (w5.alloc ox).cell? ⟨w.heap.size + 1, 0, none⟩ = some (.int .i64 ka) := by rw [cell_of_block (HBk.out _ (HE5.out.box _ (.head _)))]; rfl
  have k1 : (w5.alloc ox).cell? ⟨w.heap.size + 1, 1, none⟩ = some (.int .i64 kb) := by rw [cell_of_block (HBk.out _ (HE5.out.box _ (.head _)))]; rfl
  rw [hox] at q0 q1 q2 q3 q4 qs k0 k1
  go_wp2_with fail
  clear q0 q1 q2 q3 q4 qs k0 k1
  rw [← hox]
  generalize w5.alloc ox = W5 at *
  generalize w5.heap.size = B at *
  generalize w4.heap.size = lo at *
  clear hox
  refine (aloneD (c := ⟨3, ka, kb, 0, 0, 0⟩) W5 (2 * M.slots.length + 6) (by omega) (by omega) HG.out HRun.out ⟨_, _, _, _, _, _, _, _, HM5.out, fun _ h => h⟩ (foot_lt HM5.out)).mono ?_
  rintro e w6 ⟨⟨ga, gk, rfl⟩, ⟨yS, yH, yF, yL, jS, jH, jF, jL, m6, -⟩, hf6⟩
  obtain ⟨og, hog⟩ : ∃ o : Obj, o = .cells #[.int .i64 g.c.kind, .int .i64 g.c.a, .int .i64 g.c.b, .int .i64 g.c.time, .int .i64 g.c.bk, .int .i64 g.c.slot, .int .i64 g.pl, .int .i64 g.cur, .int .i64 g.prev, .int .i64 g.slot, .int .i64 g.n, .slice ga g.keys.length gk, .bool g.done, .int .i64 g.e] 51 := ⟨_, rfl⟩
  have HE6 : Hid (Env w1 (w6.alloc og) [(w6.heap.size, og), (w.heap.size + 1, ok), (w.heap.size, om)] []) := (HE5.out.fine hf6 HF5.out (fun p hp => by
    have := HKl.out
    rcases List.mem_cons.1 hp with rfl | hp
    · intro h; have := HF5.out _ h; dsimp only at this; omega
    rcases List.mem_cons.1 hp with rfl | hp
    · intro h; have := HF5.out _ h; dsimp only at this; omega
    cases hp)).alloc og
  have HM6 : Hid (Mine (w6.alloc og) B lo yS yH yF yL jS jH jF jL X) := m6.below (one_below _ _)
  have HBg : Hid (∀ (W : World) (G : Nat), W.heap[G]? = some og → W.heap[G]? = some (.cells #[.int .i64 g.c.kind, .int .i64 g.c.a, .int .i64 g.c.b, .int .i64 g.c.time, .int .i64 g.c.bk, .int .i64 g.c.slot, .int .i64 g.pl, .int .i64 g.cur, .int .i64 g.prev, .int .i64 g.slot, .int .i64 g.n, .slice ga g.keys.length gk, .bool g.done, .int .i64 g.e] 51 (0, 0))) := fun W G E => hog ▸ E
  clear HM5 HE5 HF5 hf6 m6 HG HRun
  obtain ⟨p0, p1, p2, p3, p4, -, -, -, -, -, ps⟩ := boxf HM6.out.box
  rw [hog] at p0 p1 p2 p3 p4 ps
  go_wp2_with fail
  clear p0 p1 p2 p3 p4 ps
  rw [← hog]
  generalize w6.alloc og = W6 at *
  generalize w6.heap.size = G at *
  clear hog
  obtain ⟨L2, hL2⟩ : ∃ L2, flowsM X = L2 := ⟨_, rfl⟩
  have HL2 : Hid (L2 = flowsOf X) := hL2.symm.trans (flowsM_of HXo.out.1)
  refine (flows_at hL2 ((chkC_zero X).2 HXo.out.1) _ W6 lo HM6.out.ans).mono ?_
  clear hL2
  rintro e w7 ⟨ao2, cap2, rfl, fr2, hb7⟩
  have HE7 : Hid (Env w1 w7 [(G, og), (w.heap.size + 1, ok), (w.heap.size, om)] []) := HE6.out.below hb7
  have HM7 : Hid (Mine w7 B lo yS yH yF yL jS jH jF jL X) := HM6.out.below hb7
  have HF7 : Hid (FRow w7 ao2 cap2 L2) := fr2
  clear HE6 HM6 hb7 fr2
  obtain ⟨q0, q1, q2, q3, q4, -, -, -, -, -, qs⟩ := boxf (HBm.out _ (HE7.out.box _ (.tail _ (.tail _ (.head _)))))
  obtain ⟨p0, p1, p2, p3, p4, -, -, -, -, -, ps⟩ := boxf HM7.out.box
  go_wp2_with fail
  clear q0 q1 q2 q3 q4 qs p0 p1 p2 p3 p4 ps
  have c1 := equalI_any yL aL jL cL X.locks M.locks w7 HM7.out.at.l (HAt.out _ HE7.out.bl).l
  rw [show eqI X.locks M.locks = true from (eqI_iff _ _).2 HXo.out.2] at c1
  refine c1.mono ?_
  clear c1
  rintro e w8 ⟨rfl, hb8⟩
  have HE8 : Hid (Env w1 w8 [(G, og), (w.heap.size + 1, ok), (w.heap.size, om)] []) := HE7.out.below hb8
  have HM8 : Hid (Mine w8 B lo yS yH yF yL jS jH jF jL X) := HM7.out.below hb8
  have HF8 : Hid (FRow w8 ao2 cap2 L2) := HF7.out.below hb8
  have HFw : Hid (∀ W : World, Below w1.heap.size w1 W → FRow W ao cap L) := fun W hb => HF.out.below hb
  clear HE7 HM7 HF7 hb8 HF
  obtain ⟨q0, q1, q2, q3, q4, -, -, -, -, -, qs⟩ := boxf (HBm.out _ (HE8.out.box _ (.tail _ (.tail _ (.head _)))))
  obtain ⟨p0, p1, p2, p3, p4, -, -, -, -, -, ps⟩ := boxf HM8.out.box
  obtain ⟨g0, g1, g2, g3, g4, g5, g6, g7, g8, g9, g10, g11, g12, g13, -, gs⟩ := framef (HBg.out _ _ (HE8.out.box _ (.head _)))
  have hL1 : L.length ≤ 1000 := by rw [HL'.out]; exact flows_few HOk.out.ok
  have HLn : Hid (L.length ≤ 1000) := hL1
  have HL2n : Hid (L2.length ≤ 1000) := by show _ ≤ _; rw [HL2.out]; exact flows_few HXo.out.1.ok
  clear hL1
  go_wp2_with fail
  clear q0 q1 q2 q3 q4 qs p0 p1 p2 p3 p4 ps g0 g1 g2 g3 g4 g5 g6 g7 g8 g9 g10 g11 g12 g13 gs
  have c1 := indexFn_at 66 #[.pointer (some ⟨w.heap.size + 1, 0, none⟩)] (fun x => x.a == ka && x.b == kb) ao cap L w8 HLn.out (HFw.out _ HE8.out.bl) (fun args W => by kernel_rfl) (fun x W hb => of_keyD ka kb (w.heap.size + 1) x W ((hb.block _ (Nat.lt_of_lt_of_le HKl.out HE8.out.bl.size)).trans (HBk.out _ (HE8.out.box _ (.tail _ (.head _))))))
  refine c1.mono ?_
  clear c1
  rintro e w9 ⟨i, rfl, hi, hb9⟩
  have HE9 : Hid (Env w1 w9 [(G, og), (w.heap.size + 1, ok), (w.heap.size, om)] []) := HE8.out.below hb9
  have HM9 : Hid (Mine w9 B lo yS yH yF yL jS jH jF jL X) := HM8.out.below hb9
  have HF9 : Hid (FRow w9 ao2 cap2 L2) := HF8.out.below hb9
  clear HE8 HM8 HF8 hb9
  rcases hi with ⟨rfl, hno⟩ | ⟨k, rfl, hk, hkey⟩
  · obtain ⟨hX, hge⟩ := drop_no HDr.out (by rw [← HL'.out]; exact hno)
    subst hX
    clear hno
    obtain ⟨q0, q1, q2, q3, q4, -, -, -, -, -, qs⟩ := boxf (HBm.out _ (HE9.out.box _ (.tail _ (.tail _ (.head _)))))
    obtain ⟨p0, p1, p2, p3, p4, -, -, -, -, -, ps⟩ := boxf HM9.out.box
    obtain ⟨g0, g1, g2, g3, g4, g5, g6, g7, g8, g9, g10, g11, g12, g13, -, gs⟩ := framef (HBg.out _ _ (HE9.out.box _ (.head _)))
    rw [hge] at g13
    have HMa : Hid (Ans 0 w9 (.agg #[.slice aS X.slots.length cS, .slice aH X.heads.length cH, .slice aF X.free.length cF, .slice aL X.locks.length cL, .int .i64 X.now]) X) := (HA.out.below HW1.out).below HE9.out.bl
    clear hge
    go_wp2_with fail
    have c1 := same_any X X _ _ w9 lo 0 HM9.out.ans HMa.out
    rw [eqM_own] at c1
    refine c1.mono ?_
    clear c1
    rintro e w10 ⟨rfl, hb10⟩
    have HE10 : Hid _ := HE9.out.below hb10
    clear q0 q1 q2 q3 q4 qs p0 p1 p2 p3 p4 ps g0 g1 g2 g3 g4 g5 g6 g7 g8 g9 g10 g11 g12 g13 gs
    go_wp2
    go_ret
    exact ⟨rfl, HW1.out.trans (HE10.out.bl.mono HW1.out.size)⟩
  · have HLe : Hid (L = flowsOf M) := HL'.out
    obtain ⟨j, hsl, hjl, hxl, hge, hfl, href⟩ := drop_at (k := k) HOk.out HDr.out (by rw [← HLe.out]; exact hk) (by simp only [← HLe.out]; exact hkey)
    have hslot : L[k].slot = (j : Int) := by simp only [HLe.out]; exact hsl
    have HEr : Hid (L2 = L.eraseIdx k) := by show _ = _; rw [HL2.out, HLe.out]; exact hfl
    clear hsl hfl hkey
    obtain ⟨b1, o1, rfl, x1⟩ := refs_cell HM9.out.at.s (by rw [hxl]; exact hjl : j < X.slots.length)
    obtain ⟨b2, o2, rfl, x2⟩ := refs_cell (HAt.out _ HE9.out.bl).s hjl
    rw [href] at x1
    rcases (HFw.out _ HE9.out.bl).at_ with h0 | ⟨b3, o3, rfl, hc3⟩
    · omega
    obtain ⟨y0, y1, y2, y3⟩ := hc3 k hk
    rw [hslot] at y2
    have HRf : Hid (0 ≤ refsM M (j : Int) ∧ refsM M (j : Int) ≤ 1000) := slot_refs HOk.out.ok (isSl_in.2 (by omega))
    obtain ⟨r0, r1⟩ := HRf.out
    clear hc3 hslot href
    generalize refsM M (j : Int) = rf at *
    have hm12 : M.slots.length ≤ 12 := HNs.out.1
    have hln := HLn.out
    obtain ⟨q0, q1, q2, q3, q4, -, -, -, -, -, qs⟩ := boxf (HBm.out _ (HE9.out.box _ (.tail _ (.tail _ (.head _)))))
    obtain ⟨p0, p1, p2, p3, p4, -, -, -, -, -, ps⟩ := boxf HM9.out.box
    obtain ⟨g0, g1, g2, g3, g4, g5, g6, g7, g8, g9, g10, g11, g12, g13, -, gs⟩ := framef (HBg.out _ _ (HE9.out.box _ (.head _)))
    rw [hge] at g13
    rw [hxl] at p0
    clear hge
    have HCl : Hid (∀ W : World, Below w9.heap.size w9 W → Calls Try.prog 68 #[.slice (some ⟨b3, o3, none⟩) L.length cap] W fun e w' => ∃ g c, e = .returned (.slice (some ⟨g, 0, none⟩) L.length c) ∧ w'.ownsRow w9.heap.size 42 4 (.slice (some ⟨g, 0, none⟩) L.length c) L.length (encF L) ∧ Below w9.heap.size w9 w') := fun W hb => (cloneF _ _ L W (by omega) HLn.out ((HFw.out _ HE9.out.bl).below hb)).mono (fun e w' h => by
      obtain ⟨g, c, he, ho, hb'⟩ := h
      exact ⟨g, c, he, own_low ho hb.size, hb.trans (hb'.mono hb.size)⟩)
    have HDl : Hid (∀ (W : World) (g c : Nat), W.ownsRow w9.heap.size 42 4 (.slice (some ⟨g, 0, none⟩) L.length c) L.length (encF L) → Below w9.heap.size w9 W → Calls Try.prog 67 #[.slice (some ⟨g, 0, none⟩) L.length c, .int .i64 (k : Int), .int .i64 ((k : Int) + 1)] W fun e w' => e = .returned (.slice (some ⟨g, 0, none⟩) L2.length c) ∧ FRow w' (some ⟨g, 0, none⟩) c L2 ∧ Below w9.heap.size w9 w') := fun W g c ho hb => by
      have h := deleteF g c k (k + 1) w9.heap.size L W ho hk rfl HLn.out (ho.lt g rfl).1
      rw [← HEr.out] at h
      exact h.mono (fun e w' h => ⟨h.1, h.2.1, hb.trans h.2.2⟩)
    have HEq : Hid (∀ (W : World) (g c : Nat), FRow W (some ⟨g, 0, none⟩) c L2 → Below w9.heap.size w9 W → Calls Try.prog 58 #[.slice ao2 L2.length cap2, .slice (some ⟨g, 0, none⟩) L2.length c] W fun e w' => e = .returned (.bool true) ∧ Below w.heap.size w w' ∧ Below w9.heap.size w9 w') := fun W g c r hb => by
      have h := equalF_any ao2 (some ⟨g, 0, none⟩) cap2 c L2 L2 W (HF9.out.below hb) r
      rw [show eqF L2 L2 = true from (eqF_iff _ _).2 rfl] at h
      refine h.mono (fun e w' h => ⟨h.1, ?_, hb.trans (h.2.mono hb.size)⟩)
      have h9 : Below w.heap.size w w9 := HW1.out.trans (HE9.out.bl.mono HW1.out.size)
      exact (h9.trans (hb.mono h9.size)).trans (h.2.mono (Nat.le_trans h9.size hb.size))
    go_wp2_with fail
    have HS : Hid (∀ W : World, Below w9.heap.size w9 W → (fun w' => w'.cell? ⟨G, 13, none⟩ = some (.int .i64 0) ∧ w'.cell? ⟨B, 0, none⟩ = some (.slice (some ⟨b1, o1, none⟩) M.slots.length jS) ∧ w'.cell? ⟨w.heap.size, 0, none⟩ = some (.slice (some ⟨b2, o2, none⟩) M.slots.length cS) ∧ w'.cell? ⟨b1, o1 + j * 6, none⟩ = some (.int .i64 (rf - 1)) ∧ w'.cell? ⟨b2, o2 + j * 6, none⟩ = some (.int .i64 rf)) W) := fun W hb => by
      obtain ⟨q, _⟩ := bcell hb
      exact ⟨(q _ _ (cell_lt g13)).trans g13, (q _ _ (cell_lt p0)).trans p0, (q _ _ (cell_lt q0)).trans q0, (q _ _ (cell_lt x1)).trans x1, (q _ _ (cell_lt x2)).trans x2⟩
    have hwr : IntKind.i64.wrap (rf - 1) = rf - 1 := by rw [IntKind.wrap_i64]; omega
    have hwk : IntKind.i64.wrap ((k : Int) + 1) = (k : Int) + 1 := by rw [IntKind.wrap_i64]; omega
    rename_i K0 hK0
    go_region_held3 (fun w' => w'.cell? ⟨G, 13, none⟩ = some (.int .i64 0) ∧ w'.cell? ⟨B, 0, none⟩ = some (.slice (some ⟨b1, o1, none⟩) M.slots.length jS) ∧ w'.cell? ⟨w.heap.size, 0, none⟩ = some (.slice (some ⟨b2, o2, none⟩) M.slots.length cS) ∧ w'.cell? ⟨b1, o1 + j * 6, none⟩ = some (.int .i64 (rf - 1)) ∧ w'.cell? ⟨b2, o2 + j * 6, none⟩ = some (.int .i64 rf)) (first | exact HS.out _ HC12.out | exact HS.out _ HO11.out.2 | exact HS.out _ HO10.out.2 | exact HS.out _ ⟨rfl, rfl, rfl, Nat.le_refl _, fun _ _ => rfl⟩) (first | (go_at_call 68; refine (HCl.out _ (by exact ⟨rfl, rfl, rfl, Nat.le_refl _, fun _ _ => rfl⟩)).mono ?_; rintro e w10 ⟨g10, c10, rfl, ho10, hb10⟩; have HO10 : Hid (w10.ownsRow w9.heap.size 42 4 (.slice (some ⟨g10, 0, none⟩) L.length c10) L.length (encF L) ∧ Below w9.heap.size w9 w10) := ⟨ho10, hb10⟩; clear ho10 hb10) | (go_at_call 67; refine (HDl.out _ g10 c10 HO10.out.1 HO10.out.2).mono ?_; rintro e w11 ⟨rfl, hr11, hb11⟩; have HO11 : Hid (FRow w11 (some ⟨g10, 0, none⟩) c10 L2 ∧ Below w9.heap.size w9 w11) := ⟨hr11, hb11⟩; clear hr11 hb11) | (go_at_call 58; refine (HEq.out _ g10 c10 HO11.out.1 HO11.out.2).mono ?_; rintro e w12 ⟨rfl, hb12, hc12⟩; have HB12 : Hid (Below w.heap.size w w12) := hb12; have HC12 : Hid (Below w9.heap.size w9 w12) := hc12; clear hb12 hc12))
    show K0 _ _
    refine hK0 _ _ ?_
    clear hK0
    go_wp2
    go_ret
    exact ⟨rfl, HB12.out⟩

end Go.Proofs.Ytdbilofhcadmoab.mm
