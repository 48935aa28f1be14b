/- The contracts of slices.ContainsFunc over slots and of slices.IndexFunc over flows, with the literals that LookAlone hands them. -/
import Derived.Test.YtjgcbbakgklniabC23
import Derived.Test.YtjgcbbakgklniabC06
import Derived.Test.YtjgcbbakgklniabC08
import Derived.Test.YtjgcbbakgklniabC25
import Derived.Test.YtjgcbbakgklniabC02
import Derived.Lib.SliceRun
import Derived.Deep.RegionLaw
import Derived.Laws.IdiomCopy
import Derived.BigRegion
import Derived.Test.YtjgcbbakgklniabC26
namespace Go.Proofs.Ytjgcbbakgklniab.mm
open Go.ChangeShapes Go.WideShapes Go.ChangeAt Go.RowKit Go.Joins Go.Deep
set_option maxRecDepth 100000
set_option linter.unusedVariables false

theorem lit35 (s : Sl) (w : World) : Calls Try.prog 41 #[.agg #[.int .i64 s.refs, .int .i64 s.a, .int .i64 s.b, .int .i64 s.unt, .bool s.inn, .int .i64 s.next]] w fun e w' => e = .returned (.bool (s.refs == 1000)) ∧ Below w.heap.size w w' := by
  go_enter Try.func41, Try.ntmps41
  go_wp2
  go_ret
  exact ⟨rfl, one_below _ _⟩

theorem idx81 (aS : Option Addr) (cS : Nat) (l : List Sl) (w : World) (r : SRow w aS cS l) :
    Calls Try.prog 105 #[.slice aS l.length cS, .func (.func 41) #[] #[]] w fun e w' => ∃ i : Int, e = .returned (.int .i64 i) ∧ ((i = -1 ∧ ∀ s ∈ l, s.refs ≠ 1000) ∨ (0 ≤ i ∧ ∃ s ∈ l, s.refs = 1000)) ∧ Below w.heap.size w w' := by
  have m1 := r.max
  have n1 : l.length ≤ 9223372036854775807 := by omega
  have HR : Hid (∀ W : World, Below w.heap.size w W → SRow W aS cS l) := fun W hb => r.below hb
  clear r
  go_enter Try.func105, Try.ntmps105
  go_wp2_with fail
  go_loopw [8] (fun i wr => ∃ k : Nat, k ≤ l.length ∧ i = .int .i64 k ∧ Hid (Below w.heap.size w wr) ∧ Hid (∀ j (h : j < l.length), j < k → l[j].refs ≠ 1000)) (fun i _ => l.length - (intOf i).toNat)
  case atStart => exact ⟨0, Nat.zero_le _, rfl, Below.refl _ _, fun j _ h => absurd h (Nat.not_lt_zero _)⟩
  case round =>
    obtain ⟨k, hk, rfl, HB, HN⟩ := hrel
    by_cases hlt : k < l.length
    · have HM : Hid (l[k] ∈ l) := List.getElem_mem hlt
      rcases (HR.out _ HB.out).at_ with h0 | ⟨b1, o1, rfl, hc1⟩
      · omega
      obtain ⟨x0, x1, x2, x3, x4, x5⟩ := hc1 k hlt
      clear hc1
      have HK : Hid (∀ x, l[k] = x → x.refs ≠ 1000 → ∀ j (h : j < l.length), j < k + 1 → l[j].refs ≠ 1000) := fun x e hx j h hj => by
        by_cases ej : j = k
        · subst ej; rw [e]; exact hx
        · exact HN.out j h (by omega)
      generalize hx : l[k] = x at x0 x1 x2 x3 x4 x5 HM
      have HX : Hid (∀ j (h : j < l.length), j < k + 1 → x.refs ≠ 1000 → l[j].refs ≠ 1000) := fun j h hj hn => HK.out x hx hn j h hj
      clear hx HK
      go_wp2_with fail
      refine (lit35 x wr).mono ?_
      rintro e w1 ⟨rfl, hb1⟩
      have HB1 : Hid (Below w.heap.size w w1) := HB.out.trans (hb1.mono HB.out.size)
      clear hb1 x0 x1 x2 x3 x4 x5
      by_cases hr : x.refs = 1000
      · have hq : (x.refs == 1000) = true := by simp [hr]
        have HR2 : Hid (x.refs = 1000) := hr
        clear hr
        go_wp2
        go_ret
        exact ⟨k, rfl, .inr ⟨by omega, x, HM.out, HR2.out⟩, HB1.out⟩
      · have hq : (x.refs == 1000) = false := by simp [hr]
        have HR2 : Hid (x.refs ≠ 1000) := hr
        clear hr
        go_wp2
        go_roundw
        case rel => exact ⟨k + 1, by omega, by go_num, HB1, fun j h hj => HX.out j h hj HR2.out⟩
        case measure => simp [intOf]; omega
    · obtain rfl : k = l.length := by omega
      go_wp2
      go_ret
      refine ⟨-1, rfl, .inl ⟨rfl, fun s hs => ?_⟩, HB.out⟩
      obtain ⟨j, hj, rfl⟩ := List.getElem_of_mem hs
      exact HN.out j hj hj

theorem has34 (aS : Option Addr) (cS : Nat) (l : List Sl) (w : World) (r : SRow w aS cS l) :
    Calls Try.prog 40 #[.slice aS l.length cS, .func (.func 41) #[] #[]] w fun e w' => ∃ b : Bool, e = .returned (.bool b) ∧ (b = false → ∀ s ∈ l, s.refs ≠ 1000) ∧ Below w.heap.size w w' := by
  have HI : Hid (SRow w aS cS l) := r
  clear r
  go_enter Try.func40, Try.ntmps40
  go_wp2_with fail
  refine (idx81 aS cS l w HI.out).mono ?_
  rintro e w1 ⟨i, rfl, h, hb⟩
  rcases h with ⟨rfl, h⟩ | ⟨h, -⟩
  · have HH : Hid _ := h
    have HB : Hid _ := hb
    clear h hb
    go_wp2
    go_ret
    exact ⟨false, rfl, fun _ => HH.out, HB.out⟩
  · have HB : Hid _ := hb
    have hd : decide (0 ≤ i) = true := by simpa using h
    clear hb
    go_wp2
    go_ret
    exact ⟨true, by simp, (fun h => by cases h), HB.out⟩

theorem lit39 (f : Fl) (K B : Nat) (a b : Int) (v0 v1 v2 v3 : Value) (now : Int) (w : World) (hK : w.heap[K]? = some (.cells #[.int .i64 a, .int .i64 b] 37 (0, 0))) (hB : w.heap[B]? = some (.cells #[v0, v1, v2, v3, .int .i64 now] 25 (0, 0))) :
    Calls Try.prog 45 #[.agg #[.int .i64 f.a, .int .i64 f.b, .int .i64 f.slot, .int .i64 f.unt], .pointer (some ⟨K, 0, none⟩), .pointer (some ⟨B, 0, none⟩)] w fun e w' => e = .returned (.bool (isF a b now f)) ∧ Below w.heap.size w w' := by
  have k0 : w.cell? ⟨K, 0, none⟩ = some (.int .i64 a) := by rw [cell_of_block hK]; rfl
  have k1 : w.cell? ⟨K, 1, none⟩ = some (.int .i64 b) := by rw [cell_of_block hK]; rfl
  have ks : K < w.heap.size := lt_of_block hK
  obtain ⟨q0, q1, q2, q3, q4, -, -, -, -, -, qs⟩ := boxf hB
  have se := kequal f.a f.b a b
  clear hK hB
  cases hq : (f.a == a && f.b == b)
  · have hr : isF a b now f = false := by unfold isF; rw [hq]; rfl
    rw [hr]
    go_enter Try.func45, Try.ntmps45
    go_wp2
    go_ret
    exact ⟨rfl, one_below _ _⟩
  · by_cases hu : now < f.unt
    · have hr : isF a b now f = true := by unfold isF; rw [hq]; simp [hu]
      rw [hr]
      go_enter Try.func45, Try.ntmps45
      go_wp2
      go_ret
      exact ⟨rfl, one_below _ _⟩
    · have hr : isF a b now f = false := by unfold isF; rw [hq]; simp [hu]
      rw [hr]
      go_enter Try.func45, Try.ntmps45
      go_wp2
      go_ret
      exact ⟨rfl, one_below _ _⟩

theorem idx38 (ao : Option Addr) (cap : Nat) (l : List Fl) (K B : Nat) (a b : Int) (v0 v1 v2 v3 : Value) (now : Int) (w : World) (r : FRow w ao cap l) (hK : w.heap[K]? = some (.cells #[.int .i64 a, .int .i64 b] 37 (0, 0))) (hB : w.heap[B]? = some (.cells #[v0, v1, v2, v3, .int .i64 now] 25 (0, 0))) :
    Calls Try.prog 44 #[.slice ao l.length cap, .func (.func 45) #[] #[.pointer (some ⟨K, 0, none⟩), .pointer (some ⟨B, 0, none⟩)]] w fun e w' => ∃ i : Int, e = .returned (.int .i64 i) ∧ ((i = -1 ∧ ∀ f ∈ l, isF a b now f = false) ∨ ∃ (j : Nat) (h : j < l.length), i = j ∧ isF a b now l[j] = true) ∧ Below w.heap.size w w' := by
  have m1 := r.max
  have n1 : l.length ≤ 9223372036854775807 := by omega
  have HR : Hid (∀ W : World, Below w.heap.size w W → FRow W ao cap l) := fun W hb => r.below hb
  have HC : Hid (∀ (W : World) (f : Fl), Below w.heap.size w W → Calls Try.prog 45 #[.agg #[.int .i64 f.a, .int .i64 f.b, .int .i64 f.slot, .int .i64 f.unt], .pointer (some ⟨K, 0, none⟩), .pointer (some ⟨B, 0, none⟩)] W fun e w' => e = .returned (.bool (isF a b now f)) ∧ Below W.heap.size W w') := fun W f hb => lit39 f K B a b v0 v1 v2 v3 now W ((hb.block _ (lt_of_block hK)).trans hK) ((hb.block _ (lt_of_block hB)).trans hB)
  clear r hK hB
  go_enter Try.func44, Try.ntmps44
  go_wp2_with fail
  go_loopw [8] (fun i wr => ∃ k : Nat, k ≤ l.length ∧ i = .int .i64 k ∧ Hid (Below w.heap.size w wr) ∧ Hid (∀ j (h : j < l.length), j < k → isF a b now l[j] = false)) (fun i _ => l.length - (intOf i).toNat)
  case atStart => exact ⟨0, Nat.zero_le _, rfl, Below.refl _ _, fun j _ h => absurd h (Nat.not_lt_zero _)⟩
  case round =>
    obtain ⟨k, hk, rfl, HBl, HN⟩ := hrel
    by_cases hlt : k < l.length
    · rcases (HR.out _ HBl.out).at_ with h0 | ⟨b1, o1, rfl, hc1⟩
      · omega
      obtain ⟨x0, x1, x2, x3⟩ := hc1 k hlt
      clear hc1
      have HX : Hid (∀ x, l[k] = x → isF a b now x = false → ∀ j (h : j < l.length), j < k + 1 → isF a b now l[j] = false) := fun x e hx j h hj => by
        by_cases ej : j = k
        · subst ej; rw [e]; exact hx
        · exact HN.out j h (by omega)
      generalize hx : l[k] = x at x0 x1 x2 x3
      have HXk : Hid (∃ h : k < l.length, l[k] = x) := ⟨hlt, hx⟩
      clear hx
      go_wp2_with fail
      refine (HC.out wr x HBl.out).mono ?_
      rintro e w1 ⟨rfl, hb1⟩
      have HB1 : Hid (Below w.heap.size w w1) := HBl.out.trans (hb1.mono HBl.out.size)
      clear hb1 x0 x1 x2 x3
      cases hq : isF a b now x
      · have HQ : Hid (isF a b now x = false) := hq
        clear hq
        go_wp2
        go_roundw
        case rel => exact ⟨k + 1, by omega, by go_num, HB1, fun j h hj => HX.out x HXk.out.2 HQ.out j h hj⟩
        case measure => simp [intOf]; omega
      · have HQ : Hid (isF a b now x = true) := hq
        clear hq
        go_wp2
        go_ret
        exact ⟨k, rfl, .inr ⟨k, HXk.out.1, rfl, by rw [HXk.out.2]; exact HQ.out⟩, HB1.out⟩
    · obtain rfl : k = l.length := by omega
      go_wp2
      go_ret
      refine ⟨-1, rfl, .inl ⟨rfl, fun s hs => ?_⟩, HBl.out⟩
      obtain ⟨j, hj, rfl⟩ := List.getElem_of_mem hs
      exact HN.out j hj hj


end Go.Proofs.Ytjgcbbakgklniab.mm

/- Whether a list of numbers has one that is not -1. -/
namespace Go.Proofs.Ytjgcbbakgklniab.mm
open Go.ChangeShapes Go.WideShapes Go.ChangeAt Go.RowKit Go.Joins
set_option maxRecDepth 100000
set_option linter.unusedVariables false

theorem litI (F : Nat) (x : Int) (w : World) (h : ∀ W : World, Calls Try.prog F #[.int .i64 x] W fun e w' => e = .returned (.bool (x != -1)) ∧ W = w') : Calls Try.prog F #[.int .i64 x] w fun e w' => e = .returned (.bool (x != -1)) ∧ w = w' := h w

theorem litA1 (x : Int) (w : World) : Calls Try.prog 54 #[.int .i64 x] w fun e w' => e = .returned (.bool (x != -1)) ∧ w = w' := by
  go_enter Try.func54, Try.ntmps54
  go_wp2
  go_ret
  exact ⟨rfl, rfl⟩

theorem idxI (F : Nat) (hF : ∀ args W, (callFunc F args).run Try.prog W = .ok (.enter F args) W) (hp : ∀ (x : Int) (W : World), Calls Try.prog F #[.int .i64 x] W fun e w' => e = .returned (.bool (x != -1)) ∧ W = w') (aS : Option Addr) (cS : Nat) (l : List Int) (w : World) (r : IRow w aS cS l) :
    Calls Try.prog 126 #[.slice aS l.length cS, .func (.func F) #[] #[]] w fun e w' => ∃ i : Int, e = .returned (.int .i64 i) ∧ ((i = -1 ∧ ∀ s ∈ l, s = -1) ∨ (0 ≤ i ∧ ∃ s ∈ l, s ≠ -1)) ∧ Below w.heap.size w w' := by
  have m1 := r.max
  have n1 : l.length ≤ 9223372036854775807 := by omega
  have HR : Hid (∀ W : World, Below w.heap.size w W → IRow W aS cS l) := fun W hb => r.below hb
  have HP : Hid (∀ (x : Int) (W : World), Calls Try.prog F #[.int .i64 x] W fun e w' => e = .returned (.bool (x != -1)) ∧ W = w') := hp
  clear r hp
  go_enter Try.func126, Try.ntmps126
  go_wp2_with fail
  go_loopw [8] (fun i wr => ∃ k : Nat, k ≤ l.length ∧ i = .int .i64 k ∧ Hid (Below w.heap.size w wr) ∧ Hid (∀ j (h : j < l.length), j < k → l[j] = -1)) (fun i _ => l.length - (intOf i).toNat)
  case atStart => exact ⟨0, Nat.zero_le _, rfl, Below.refl _ _, fun j _ h => absurd h (Nat.not_lt_zero _)⟩
  case round =>
    obtain ⟨k, hk, rfl, HB, HN⟩ := hrel
    by_cases hlt : k < l.length
    · have HM : Hid (l[k] ∈ l) := List.getElem_mem hlt
      rcases (HR.out _ HB.out).at_ with h0 | ⟨b1, o1, rfl, hc1⟩
      · omega
      have x0 := hc1 k hlt
      clear hc1
      have HK : Hid (∀ x, l[k] = x → x = -1 → ∀ j (h : j < l.length), j < k + 1 → l[j] = -1) := fun x e hx j h hj => by
        by_cases ej : j = k
        · subst ej; rw [e]; exact hx
        · exact HN.out j h (by omega)
      generalize hx : l[k] = x at x0 HM
      have HX : Hid (∀ j (h : j < l.length), j < k + 1 → x = -1 → l[j] = -1) := fun j h hj hn => HK.out x hx hn j h hj
      clear hx HK
      go_wp2_with fail
      refine (HP.out x wr).mono ?_
      rintro e w1 ⟨rfl, rfl⟩
      clear x0
      by_cases hr : x = -1
      · have hq : (x != -1) = false := by simp [hr]
        have HR2 : Hid (x = -1) := hr
        clear hr
        go_wp2
        go_roundw
        case rel => exact ⟨k + 1, by omega, by go_num, HB, fun j h hj => HX.out j h hj HR2.out⟩
        case measure => simp [intOf]; omega
      · have hq : (x != -1) = true := by simpa using hr
        have HR2 : Hid (x ≠ -1) := hr
        clear hr
        go_wp2
        go_ret
        exact ⟨k, rfl, .inr ⟨by omega, x, HM.out, HR2.out⟩, HB.out⟩
    · obtain rfl : k = l.length := by omega
      go_wp2
      go_ret
      refine ⟨-1, rfl, .inl ⟨rfl, fun s hs => ?_⟩, HB.out⟩
      obtain ⟨j, hj, rfl⟩ := List.getElem_of_mem hs
      exact HN.out j hj hj

theorem hasI (F : Nat) (hF : ∀ args W, (callFunc F args).run Try.prog W = .ok (.enter F args) W) (hp : ∀ (x : Int) (W : World), Calls Try.prog F #[.int .i64 x] W fun e w' => e = .returned (.bool (x != -1)) ∧ W = w') (aS : Option Addr) (cS : Nat) (l : List Int) (w : World) (r : IRow w aS cS l) :
    Calls Try.prog 53 #[.slice aS l.length cS, .func (.func F) #[] #[]] w fun e w' => ∃ b : Bool, e = .returned (.bool b) ∧ (b = false → ∀ s ∈ l, s = -1) ∧ Below w.heap.size w w' := by
  have HI : Hid (Calls Try.prog 126 #[.slice aS l.length cS, .func (.func F) #[] #[]] w fun e w' => ∃ i : Int, e = .returned (.int .i64 i) ∧ ((i = -1 ∧ ∀ s ∈ l, s = -1) ∨ (0 ≤ i ∧ ∃ s ∈ l, s ≠ -1)) ∧ Below w.heap.size w w') := idxI F hF hp aS cS l w r
  clear r hp hF
  go_enter Try.func53, Try.ntmps53
  go_wp2_with fail
  refine HI.out.mono ?_
  rintro e w1 ⟨i, rfl, h, hb⟩
  rcases h with ⟨rfl, h⟩ | ⟨h, -⟩
  · have HH : Hid _ := h
    have HB : Hid _ := hb
    clear h hb
    go_wp2
    go_ret
    exact ⟨false, rfl, fun _ => HH.out, HB.out⟩
  · have HB : Hid _ := hb
    have hd : decide (0 ≤ i) = true := by simpa using h
    clear hb
    go_wp2
    go_ret
    exact ⟨true, by simp, (fun h => by cases h), HB.out⟩

end Go.Proofs.Ytjgcbbakgklniab.mm

/- Lists of flows: which one is of a kind, a copy of one's own, one left out of it. -/
namespace Go.Proofs.Ytjgcbbakgklniab.mm
open Go.ChangeShapes Go.WideShapes Go.ChangeAt Go.RowKit Go.Joins Go.Deep Go.Sort
set_option maxRecDepth 100000
set_option linter.unusedVariables false

set_option maxHeartbeats 1600000 in
theorem indexFn_at (F : Nat) (caps : Array Value) (p : Fl → Bool) (ao : Option Addr) (cap : Nat) (l : List Fl) (w : World) (hbig : l.length ≤ 1000) (hat : FRow w ao cap l) (hF : ∀ args W, (callFunc F args).run Try.prog W = .ok (.enter F args) W)
    (hp : ∀ (x : Fl) W, Below w.heap.size w W → Calls Try.prog F (#[.agg #[.int .i64 x.a, .int .i64 x.b, .int .i64 x.slot, .int .i64 x.unt]] ++ caps) W fun e W' => e = .returned (.bool (p x)) ∧ Below W.heap.size W W') :
    Calls Try.prog 44 #[.slice ao l.length cap, .func (.func F) #[] caps] w fun e w' => ∃ i : Int, e = .returned (.int .i64 i) ∧ ((i = -1 ∧ l.any p = false) ∨ ∃ k : Nat, i = (k : Int) ∧ ∃ h : k < l.length, p l[k] = true) ∧ Below w.heap.size w w' := by
  have HAT : Hid (FRow w ao cap l) := hat
  have HP : Hid (∀ (x : Fl) W, Below w.heap.size w W → Calls Try.prog F (#[.agg #[.int .i64 x.a, .int .i64 x.b, .int .i64 x.slot, .int .i64 x.unt]] ++ caps) W fun e W' => e = .returned (.bool (p x)) ∧ Below W.heap.size W W') := hp
  have HFn : Hid (∀ args W, (callFunc F args).run Try.prog W = .ok (.enter F args) W) := hF
  clear hat hp hF
  go_enter Try.func44, Try.ntmps44
  go_wp2
  go_loopw [8] (fun i wr => ∃ k : Nat, k ≤ l.length ∧ i = .int .i64 k ∧ Hid (Below w.heap.size w wr) ∧ Hid ((l.take k).any p = false)) (fun i _ => l.length - (intOf i).toNat)
  case atStart => exact ⟨0, Nat.zero_le _, rfl, Below.refl _ _, by show _ = _; simp⟩
  case round =>
    obtain ⟨k, hk, rfl, HB, HC⟩ := hrel
    by_cases hlt : k < l.length
    · rcases (HAT.out.below HB.out).at_ with h0 | ⟨bk, ok, rfl, hc⟩
      · omega
      obtain ⟨c0, c1, c2, c3⟩ := hc k hlt
      clear hc
      generalize hy : l[k] = y at c0 c1 c2 c3
      have HX : Hid (l[k] = y) := hy
      clear hy
      go_wp2_with fail
      rw [HFn.out]
      refine (HP.out y wr HB.out).mono ?_
      rintro e w1 ⟨rfl, hb1⟩
      have HB1 : Hid (Below w.heap.size w w1) := HB.out.trans (hb1.mono HB.out.size)
      clear hb1 c0 c1 c2 c3
      cases hh : p y
      · have HH : Hid ((l.take (k + 1)).any p = false) := any_snoc hlt HC.out (by rw [HX.out]; exact hh)
        go_wp2
        go_roundw
        case rel => exact ⟨k + 1, by omega, by go_num, HB1, HH⟩
        case measure => simp [intOf]; omega
      · have HH : Hid (p l[k] = true) := by
          show _ = _
          rw [HX.out]; exact hh
        go_wp2
        go_ret
        exact ⟨k, rfl, .inr ⟨k, rfl, hlt, HH.out⟩, HB1.out⟩
    · have HH : Hid (l.any p = false) := by
        have := HC.out
        rw [show k = l.length by omega, List.take_length] at this
        exact this
      go_wp2
      go_ret
      exact ⟨-1, rfl, .inl ⟨rfl, HH.out⟩, HB.out⟩

theorem of_keyD (a b : Int) (B : Nat) (x : Fl) (W : World) (hB : W.heap[B]? = some (.cells #[.int .i64 a, .int .i64 b] 37 (0, 0))) :
    Calls Try.prog 66 (#[.agg #[.int .i64 x.a, .int .i64 x.b, .int .i64 x.slot, .int .i64 x.unt]] ++ #[.pointer (some ⟨B, 0, none⟩)]) W fun e W' => e = .returned (.bool (x.a == a && x.b == b)) ∧ Below W.heap.size W W' := by
  obtain ⟨c0, c1⟩ := keyf hB
  have lB := lt_of_block hB
  have ke := kequal x.a x.b a b
  have hb := one_below W (.cells #[.int .i64 x.a, .int .i64 x.b, .int .i64 x.slot, .int .i64 x.unt] 42)
  clear hB
  generalize (x.a == a && x.b == b) = r at *
  show Calls Try.prog 66 #[.agg #[.int .i64 x.a, .int .i64 x.b, .int .i64 x.slot, .int .i64 x.unt], .pointer (some ⟨B, 0, none⟩)] W _
  go_enter Try.func66, Try.ntmps66
  go_wp2
  go_ret
  exact ⟨rfl, hb⟩

theorem FRow.src {w : World} {ao : Option Addr} {cap : Nat} {l : List Fl} (r : FRow w ao cap l) : ∀ ad, ao = some ad → ∀ j u, (encF l)[j]? = some u → w.cell? (ad.add j) = some u := by
  intro ad h j u hu
  have hj : j < l.length * 4 := by
    have := (List.getElem?_eq_some_iff.1 hu).1
    rwa [encF_len] at this
  rcases r.at_ with h0 | ⟨b, o, rfl, hc⟩
  · omega
  · cases h
    obtain ⟨c0, c1, c2, c3⟩ := hc (j / 4) (by omega)
    have e := encF_get l (j / 4) (j % 4) (by omega) (by omega)
    rw [show j / 4 * 4 + j % 4 = j by omega, hu] at e
    rw [Addr.add_lit]
    have hq : j % 4 = 0 ∨ j % 4 = 1 ∨ j % 4 = 2 ∨ j % 4 = 3 := by omega
    rcases hq with hq | hq | hq | hq
    · rw [hq] at e
      rw [show o + j = o + j / 4 * 4 by omega, c0, e]; rfl
    · rw [hq] at e
      rw [show o + j = o + j / 4 * 4 + 1 by omega, c1, e]; rfl
    · rw [hq] at e
      rw [show o + j = o + j / 4 * 4 + 2 by omega, c2, e]; rfl
    · rw [hq] at e
      rw [show o + j = o + j / 4 * 4 + 3 by omega, c3, e]; rfl
theorem encF_one (l : List Fl) : ∀ u ∈ encF l, u.oneCell' = true := by
  intro u hu
  obtain ⟨x, -, hx⟩ := List.mem_flatMap.1 hu
  simp only [Fl.enc, List.mem_cons, List.not_mem_nil, or_false] at hx
  rcases hx with rfl | rfl | rfl | rfl <;> rfl

set_option maxHeartbeats 1600000 in
theorem cloneF (ao : Option Addr) (cap : Nat) (l : List Fl) (w : World) (h0 : 0 < l.length) (hbig : l.length ≤ 1000) (r : FRow w ao cap l) :
    Calls Try.prog 68 #[.slice ao l.length cap] w fun e w' => ∃ g c, e = .returned (.slice (some ⟨g, 0, none⟩) l.length c) ∧ w'.ownsRow w.heap.size 42 4 (.slice (some ⟨g, 0, none⟩) l.length c) l.length (encF l) ∧ Below w.heap.size w w' := by
  have q29 : ∀ (w : World) (a : Option Addr) (n c : Nat), (binOp .eql 29 (.slice a n c) (.slice none 0 0)).run Try.prog w = .ok (.bool a.isNone) w := fun w a n c => Lib.run_eql_slice_nil w _ _ a n c 0 0 Try.underlying29
  obtain ⟨ad, rfl⟩ : ∃ ad, ao = some ad := by
    rcases r.at_ with h | ⟨b, o, h, -⟩
    · omega
    · exact ⟨_, h⟩
  obtain ⟨i0, hi, hz0, hz1, hz2⟩ := info_parts iF
  have HSr : Hid (∀ j u, (encF l)[j]? = some u → (w.alloc (.cells #[] 42)).cell? (ad.add j) = some u) := (r.below (one_below _ _)).src ad rfl
  have HLt : Hid ((w.alloc (.cells #[] 42)).ownsRow w.heap.size 42 4 (.slice (some ⟨w.heap.size, 0, none⟩) 0 0) 0 []) := lit_row _ 42 4 w.heap.size _ rfl (Nat.le_refl _)
  have HE : Hid ((encF l).length = l.length * 4) := encF_len l
  have HO1 : Hid (∀ u ∈ encF l, u.oneCell' = true) := encF_one l
  have HB0 : Hid (Below w.heap.size w (w.alloc (.cells #[] 42))) := one_below _ _
  clear r
  generalize encF l = xs at *
  generalize l.length = n at *
  go_enter Try.func68, Try.ntmps68
  go_wp2_with (at_builtin; refine wpList_append_own_at _ rfl _ _ 29 rfl w.heap.size 42 i0 (.agg #[.int .i64 0, .int .i64 0, .int .i64 0, .int .i64 0]) 4 32 Try.underlying29 hi hz0 hz1 hz2 rfl (by decide) (.slice (some ⟨w.heap.size, 0, none⟩) 0 0) 0 [] rfl HLt.out ad n cap xs rfl HE.out HSr.out HO1.out (by unfold maxLen; omega) (by omega) (by simp) ?_; intro v1 w1 hown1 hgrow1 _ hloc1; rw [Nat.zero_add, List.nil_append] at hown1; obtain ⟨g1, c1, rfl⟩ := ownsRow_form hown1 (by omega); have HW1 : Hid (w1.ownsRow w.heap.size 42 4 (.slice (some ⟨g1, 0, none⟩) n c1) n xs ∧ Below w.heap.size w w1) := ⟨hown1, HB0.out.grown hgrow1 (by simp) (fun k h => by cases h; exact Nat.le_refl _)⟩; clear hown1 hgrow1 hloc1)
  go_ret
  exact ⟨g1, c1, rfl, HW1.out.1, HW1.out.2⟩

theorem run_clear_flow (w : World) (ty : TypeId) (b o n c : Nat) (hn : n = 1)
    (hc : ∀ j, j < 4 → (w.cell? ⟨b, o + j, none⟩).isSome = true) (hf : ∀ j, j < 4 → w.frozen? ⟨b, o + j, none⟩ = false) :
    (Builtin.clear_ #[29] ty #[.slice (some ⟨b, o, none⟩) n c]).run Try.prog w = .ok (.tuple #[]) (w.setCells b o [.int .i64 0, .int .i64 0, .int .i64 0, .int .i64 0]) := by
  subst hn
  have hv : ∀ w, (zeroValue 42).run Try.prog w = .ok (.agg #[.int .i64 0, .int .i64 0, .int .i64 0, .int .i64 0]) w := fun w => by kernel_rfl
  have hzc : (Builtin.zeroCells (Value.agg #[.int .i64 0, .int .i64 0, .int .i64 0, .int .i64 0]).cells 1).toList = [.int .i64 0, .int .i64 0, .int .i64 0, .int .i64 0] := by kernel_rfl
  have hst := run_storeCells_cells (P := Try.prog) b o [.int .i64 0, .int .i64 0, .int .i64 0, .int .i64 0] 0 w (by simpa using hc) (by simpa using hf) (by intro v hv'; simp at hv'; subst hv'; rfl)
  simp only [Nat.add_zero] at hst
  simp [Builtin.clear_, run_underlying Try.underlying29, hv, hzc, hst]

theorem below_setCells {lo b : Nat} (h : lo ≤ b) : ∀ (vs : List Value) (o : Nat) (w w1 : World), Below lo w w1 → Below lo w (w1.setCells b o vs)
  | [], _, _, _, hb => hb
  | v :: r, o, w, w1, hb => below_setCells h r (o + 1) w _ (hb.setCell h v)

theorem encF_erase (l : List Fl) (i : Nat) : encF (l.eraseIdx i) = (encF l).take (i * 4) ++ (encF l).drop ((i + 1) * 4) := by
  induction l generalizing i with
  | nil => simp [encF]
  | cons s l ih =>
    cases i with
    | zero => rw [List.eraseIdx_cons_zero, encF_cons]; simp [Fl.enc]
    | succ i =>
      rw [List.eraseIdx_cons_succ, encF_cons, encF_cons, ih]
      have h4 : s.enc.length = 4 := rfl
      have e1 : (s.enc ++ encF l).take ((i + 1) * 4) = s.enc ++ (encF l).take (i * 4) := by
        rw [List.take_append, h4, List.take_of_length_le (l := s.enc) (by rw [h4]; omega), show (i + 1) * 4 - 4 = i * 4 by omega]
      have e2 : (s.enc ++ encF l).drop ((i + 1 + 1) * 4) = (encF l).drop ((i + 1) * 4) := by
        rw [List.drop_append, h4, List.drop_of_length_le (l := s.enc) (by rw [h4]; omega), show (i + 1 + 1) * 4 - 4 = (i + 1) * 4 by omega, List.nil_append]
      rw [e1, e2, List.append_assoc]

/- Behind the move and the clearing: all but one stand there. -/
theorem row_erase {w : World} {lo g c i j : Nat} {l : List Fl} (hO : w.ownsRow lo 42 4 (.slice (some ⟨g, 0, none⟩) l.length c) l.length (encF l)) (hi : i < l.length) (hj : j = i + 1) (hbig : l.length ≤ 1000) (q : Nat) (hq : q = l.length - 1) (zs : List Value) :
    FRow (((w.drew).setCells g (i * 4) ((encF l).drop (j * 4))).setCells g (q * 4) zs) (some ⟨g, 0, none⟩) c (l.eraseIdx i) := by
  subst hj hq
  have hlen : (l.eraseIdx i).length = l.length - 1 := List.length_eraseIdx_of_lt hi
  obtain ⟨hl, hO2⟩ := id hO
  have hc : l.length ≤ c := by
    rcases hO2 with ⟨h, -⟩ | ⟨g', cap, cur, h, -, -, hc, -⟩
    · cases h
    · injection h with h1 h2 h3
      omega
  refine .mk_cells (by omega) (by omega) fun t ht => ?_
  rw [hlen] at ht
  have hd : ((encF l).drop ((i + 1) * 4)).length = (l.length - (i + 1)) * 4 := by rw [List.length_drop, encF_len]; omega
  rw [World.cell?_setCells_out g zs _ _ _ (fun _ _ => .inl ht), encF_erase, List.getElem?_append]
  have htk : ((encF l).take (i * 4)).length = i * 4 := by rw [List.length_take, encF_len]; omega
  rw [htk]
  by_cases h : t < i * 4
  · rw [if_pos h, World.cell?_setCells_out g _ _ _ _ (fun _ _ => .inl h), List.getElem?_take_of_lt h]
    exact hO.cellAt t (by omega)
  · rw [if_neg h]
    have hin := World.cell?_setCells_in g ((encF l).drop ((i + 1) * 4)) (i * 4) w.drew (fun k hk => by
      rw [hd] at hk
      have e : w.drew.cell? ⟨g, i * 4 + k, none⟩ = _ := hO.cellAt (i * 4 + k) (by omega)
      rw [e, List.getElem?_eq_getElem (by rw [encF_len]; omega)]
      rfl) (t - i * 4) (by rw [hd]; omega)
    rw [show i * 4 + (t - i * 4) = t by omega] at hin
    rw [hin, List.getElem?_eq_getElem (by rw [hd]; omega)]

set_option maxHeartbeats 3200000 in
theorem deleteF (g c i j lo : Nat) (l : List Fl) (w : World) (hO : w.ownsRow lo 42 4 (.slice (some ⟨g, 0, none⟩) l.length c) l.length (encF l)) (hi : i < l.length) (hj : j = i + 1) (hbig : l.length ≤ 1000) (hlo : lo ≤ g) :
    Calls Try.prog 67 #[.slice (some ⟨g, 0, none⟩) l.length c, .int .i64 (i : Int), .int .i64 (j : Int)] w fun e w' => e = .returned (.slice (some ⟨g, 0, none⟩) (l.eraseIdx i).length c) ∧ FRow w' (some ⟨g, 0, none⟩) c (l.eraseIdx i) ∧ Below lo w w' := by
  have hlen : (l.eraseIdx i).length = i + (l.length - j) := by rw [List.length_eraseIdx_of_lt hi]; omega
  obtain ⟨i0, hi0, hz0, hz1, hz2⟩ := info_parts iF
  obtain ⟨hcap, hcm⟩ : l.length ≤ c ∧ c ≤ maxLen := by
    rcases hO.2 with ⟨h, -⟩ | ⟨g', cap, cur, h, -, -, hc, hm, -⟩
    · cases h
    · injection h with h1 h2 h3
      omega
  have hm : c ≤ 9223372036854775807 := by unfold maxLen at hcm; exact hcm
  obtain ⟨news, hnews⟩ : ∃ news, news = (encF l).drop (j * 4) := ⟨_, rfl⟩
  have HE : Hid (∀ q zs, q = i + (l.length - j) → FRow ((w.drew.setCells g (i * 4) news).setCells g (q * 4) zs) (some ⟨g, 0, none⟩) c (l.eraseIdx i)) := fun q zs hq => hnews ▸ row_erase hO hi hj hbig q (by omega) zs
  have hnl : news.length = (l.length - j) * 4 := by rw [hnews, List.length_drop, encF_len]; omega
  have hcell : ∀ t, t < l.length * 4 → (w.drew.cell? ⟨g, t, none⟩).isSome = true := fun t ht => by
    have e : w.drew.cell? ⟨g, t, none⟩ = _ := hO.cellAt t ht
    rw [e, List.getElem?_eq_getElem (by rw [encF_len]; omega)]
    rfl
  have hfz : ∀ t, w.drew.frozen? ⟨g, t, none⟩ = false := fun t => hO.frozenAt t
  obtain ⟨A, hA, hsrc⟩ : ∃ A : Addr, (if c = j then some (⟨g, 0, none⟩ : Addr) else some ⟨g, j * 4, none⟩) = some A ∧ Hid (∀ t u, news[t]? = some u → w.drew.cell? (A.add t) = some u) := by
    by_cases h : c = j
    · refine ⟨⟨g, 0, none⟩, by simp [h], fun t u hu => ?_⟩
      have h0 : news.length = 0 := by rw [hnl]; omega
      rw [List.length_eq_zero_iff.1 h0] at hu
      simp at hu
    · refine ⟨⟨g, j * 4, none⟩, by simp [h], fun t u hu => ?_⟩
      have ht : t < (l.length - j) * 4 := by
        have := (List.getElem?_eq_some_iff.1 hu).1
        rwa [hnl] at this
      rw [Addr.add_lit]
      have e : w.drew.cell? ⟨g, j * 4 + t, none⟩ = _ := hO.cellAt (j * 4 + t) (by omega)
      rw [e, ← hu, hnews, List.getElem?_drop]
  have s1 : Hid (news.length = (l.length - j) * 4) := hnl
  have s2 : Hid (∀ u ∈ news, u.oneCell' = true) := fun u hu => encF_one l u (List.mem_of_mem_drop (hnews ▸ hu))
  have s3 : Hid (∀ t, t < news.length → (w.drew.cell? ⟨g, 0 + i * 4 + t, none⟩).isSome = true ∧ w.drew.frozen? ⟨g, 0 + i * 4 + t, none⟩ = false) := fun t ht => by
    rw [hnl] at ht
    exact ⟨hcell _ (by omega), hfz _⟩
  obtain ⟨W1, hW1⟩ : ∃ W1, W1 = w.drew.setCells g (0 + i * 4) news := ⟨_, rfl⟩
  have hcl : ∀ ty, (Builtin.clear_ #[29] ty #[.slice (some ⟨g, (i + (l.length - j)) * 4, none⟩) (l.length - (i + (l.length - j))) (c - (i + (l.length - j)))]).run Try.prog W1 = .ok (.tuple #[]) (W1.setCells g ((i + (l.length - j)) * 4) [.int .i64 0, .int .i64 0, .int .i64 0, .int .i64 0]) :=
    fun ty => run_clear_flow W1 ty g _ _ _ (by omega) (fun t ht => by
      rw [hW1, World.cell?_setCells_out g _ _ _ _ (fun _ _ => .inr (by rw [hnl]; dsimp only; omega))]
      exact hcell _ (by omega)) (fun t ht => by rw [hW1, World.frozen?_setCells]; exact hfz _)
  have HB : Hid (Below lo w W1) := hW1 ▸ below_setCells hlo _ _ _ _ ⟨rfl, rfl, rfl, Nat.le_refl _, fun _ _ => rfl⟩
  have hW : Hid (W1 = w.drew.setCells g (0 + i * 4) news) := hW1
  have hic : i ≤ c := by omega
  have hjc : j ≤ c := by omega
  have hlt : i < j := by omega
  have hjn : j ≤ l.length := by omega
  rw [hlen]
  have HLO : Hid (lo ≤ g) := hlo
  clear hW1 hcell hfz hO hnews hnl hlen hj hi hcm hlo
  generalize l.length = n at *
  go_enter Try.func67, Try.ntmps67
  go_wp2_with fail
  go_region_law (refine step_append_room rfl _ _ 29 rfl 42 i0 4 Try.underlying29 hi0 hz1 g 0 i c (by simp [Act.eval, Act.put]) A (n - j) (c - j) news (by simp [Act.eval, Act.put]) s1.out hsrc.out s2.out (by omega) s3.out ?_; rw [← hW.out])
  go_wp2
  go_ret
  refine ⟨rfl, ?_, below_setCells HLO.out _ _ _ _ HB.out⟩
  have h := HE.out _ [.int .i64 0, .int .i64 0, .int .i64 0, .int .i64 0] rfl
  rw [hW.out, Nat.zero_add]
  exact h
end Go.Proofs.Ytjgcbbakgklniab.mm

/- What a Drop that went on alone leaves, told by the place of its flow among those mapped. -/
namespace Go.Proofs.Ytjgcbbakgklniab.mm
set_option linter.unusedVariables false

theorem nodup_at {α β : Type} (f : α → β) : ∀ (l : List α), (l.map f).Nodup → ∀ (i j : Nat) (hi : i < l.length) (hj : j < l.length), f l[i] = f l[j] → i = j
  | [], _, i, _, hi, _, _ => absurd hi (Nat.not_lt_zero _)
  | x :: l, h, 0, 0, _, _, _ => rfl
  | x :: l, h, 0, j + 1, _, hj, e => by
    rw [List.map_cons, List.nodup_cons] at h
    exact absurd (List.mem_map.2 ⟨l[j]'(by simpa using hj), List.getElem_mem _, by simpa using e.symm⟩) h.1
  | x :: l, h, i + 1, 0, hi, _, e => by
    rw [List.map_cons, List.nodup_cons] at h
    exact absurd (List.mem_map.2 ⟨l[i]'(by simpa using hi), List.getElem_mem _, by simpa using e⟩) h.1
  | x :: l, h, i + 1, j + 1, hi, hj, e => by
    rw [List.map_cons, List.nodup_cons] at h
    rw [nodup_at f l h.2 i j (by simpa using hi) (by simpa using hj) (by simpa using e)]

theorem erase_mid {α : Type} (p : List α) (a : α) (q : List α) : (p ++ a :: q).eraseIdx p.length = p ++ q := by
  induction p with
  | nil => rfl
  | cons x p ih => simpa using ih

theorem drop_at {M X : Mm} {g : Fr} {ka kb : Int} (hM : OkC M) (hD : Dropped M ⟨3, ka, kb, 0, 0, 0⟩ X g) {k : Nat} (hk : k < (flowsOf M).length) (hkey : ((flowsOf M)[k].a == ka && (flowsOf M)[k].b == kb) = true) :
    ∃ j : Nat, (flowsOf M)[k].slot = (j : Int) ∧ j < M.slots.length ∧ X.slots.length = M.slots.length ∧ g.e = 0 ∧ flowsOf X = (flowsOf M).eraseIdx k ∧ refsM X (j : Int) = refsM M (j : Int) - 1 := by
  have hh : hasK M (allC M) (ka, kb) = true := by
    rw [← any_key]
    exact List.any_eq_true.2 ⟨_, List.getElem_mem hk, hkey⟩
  unfold Dropped at hD
  rw [if_pos (by exact hh)] at hD
  obtain ⟨a, p, q, e, ea, hge, hX, -, hns, hfl, hr⟩ := hD
  have hk' : k < (allC M).length := by simpa [flowsOf] using hk
  have hkk : keyAt M ((allC M)[k]) = (ka, kb) := by
    simp only [flowsOf, List.getElem_map, flowAt, Bool.and_eq_true, beq_iff_eq] at hkey
    unfold keyAt
    rw [hkey.1, hkey.2]
  have hpl : p.length < (allC M).length := by rw [e]; simp
  have hpa : (allC M)[p.length] = a := by simp [e]
  have hkp : k = p.length := nodup_at (keyAt M) (allC M) hM.keys k p.length hk' hpl (by rw [hkk, hpa]; exact ea.symm)
  subst hkp
  obtain ⟨h0, h1⟩ := hM.allSlots a (by rw [e]; simp)
  refine ⟨a.toNat, ?_, by omega, hns, hge, ?_, ?_⟩
  · simp only [flowsOf, List.getElem_map, flowAt]
    rw [hpa]
    omega
  · rw [hfl]
    unfold flowsOf
    rw [e]
    have := erase_mid (p.map (flowAt M)) (flowAt M a) (q.map (flowAt M))
    rw [List.length_map] at this
    rw [List.map_append, List.map_append, List.map_cons, this]
  · rw [show ((a.toNat : Nat) : Int) = a by omega]
    exact hr
theorem drop_no {M X : Mm} {g : Fr} {ka kb : Int} (hD : Dropped M ⟨3, ka, kb, 0, 0, 0⟩ X g) (hno : (flowsOf M).any (fun x => x.a == ka && x.b == kb) = false) : X = M ∧ g.e = 5 := by
  unfold Dropped at hD
  rwa [if_neg (by rw [show hasK M (allC M) ((⟨3, ka, kb, 0, 0, 0⟩ : Cl).a, (⟨3, ka, kb, 0, 0, 0⟩ : Cl).b) = false by rw [← any_key]; exact hno]; simp)] at hD
end Go.Proofs.Ytjgcbbakgklniab.mm
