/- Whether a flow is in a list, and whether one is of which something holds: Contains, ContainsFunc and what the statement hands to them. -/
import Derived.Test.YtdbilofhcadmoaaChained
namespace Go.Proofs.Ytdbilofhcadmoaa.mm
open Go.ChangeShapes Go.WideShapes Go.ChangeAt Go.RowKit Go.Joins Go.Maps
set_option maxRecDepth 100000
set_option linter.unusedVariables false

theorem any_snoc {p : Fl → Bool} {l : List Fl} {k : Nat} (h : k < l.length) (h0 : (l.take k).any p = false) (hx : p l[k] = false) : (l.take (k + 1)).any p = false := by
  rw [List.take_succ_eq_append_getElem h, List.any_append, h0]
  simp [hx]
theorem any_hit {p : Fl → Bool} {l : List Fl} {k : Nat} (h : k < l.length) (hx : p l[k] = true) : l.any p = true :=
  List.any_eq_true.2 ⟨_, List.getElem_mem h, hx⟩

def hasF (l : List Fl) (x : Fl) : Bool := l.any (flEq x)
theorem hasF_iff (l : List Fl) (x : Fl) : hasF l x = true ↔ x ∈ l := by
  unfold hasF
  rw [List.any_eq_true]
  constructor
  · rintro ⟨y, hy, h⟩
    rw [flEq_iff] at h
    subst h; exact hy
  · intro h; exact ⟨x, h, flEq_refl x⟩

set_option maxHeartbeats 1600000 in
theorem indexF_any (ao : Option Addr) (cap : Nat) (l : List Fl) (x : Fl) (w : World) (hbig : l.length ≤ 1000) (hat : FRow w ao cap l) :
    Calls Try.prog 80 #[.slice ao l.length cap, .agg #[.int .i64 x.a, .int .i64 x.b, .int .i64 x.slot, .int .i64 x.unt]] w fun e w' => ∃ i : Int, e = .returned (.int .i64 i) ∧ decide (0 ≤ i) = hasF l x ∧ Below w.heap.size w w' := by
  have HAT : Hid (FRow w ao cap l) := hat
  clear hat
  have b0 : Below w.heap.size w (w.alloc (.cells #[.int .i64 x.a, .int .i64 x.b, .int .i64 x.slot, .int .i64 x.unt] 65)) := one_below _ _
  go_enter Try.func80, Try.ntmps80
  go_wp2
  go_loopw [8] (fun i wr => ∃ k q : Nat, k ≤ l.length ∧ i = .int .i64 k ∧ wr = (w.alloc (.cells #[.int .i64 x.a, .int .i64 x.b, .int .i64 x.slot, .int .i64 x.unt] 65)).drewN q ∧ Hid ((l.take k).any (flEq x) = false)) (fun i _ => l.length - (intOf i).toNat)
  case atStart => exact ⟨0, 0, Nat.zero_le _, rfl, rfl, by show _ = _; simp⟩
  case round =>
    obtain ⟨k, q, hk, rfl, rfl, HC⟩ := hrel
    have hbw : Below w.heap.size w ((w.alloc (.cells #[.int .i64 x.a, .int .i64 x.b, .int .i64 x.slot, .int .i64 x.unt] 65)).drewN q) := b0.trans ((drewN_below _ _).mono (by simp))
    by_cases hlt : k < l.length
    · rcases HAT.out.at_ with h0 | ⟨bk, ok, rfl, hc⟩
      · omega
      obtain ⟨c0, c1, c2, c3⟩ := hc k hlt
      have lt := cell_lt c0
      rw [← (bcell hbw).1 _ _ lt] at c0 c1 c2 c3
      clear hc
      have e0 : ((w.alloc (.cells #[.int .i64 x.a, .int .i64 x.b, .int .i64 x.slot, .int .i64 x.unt] 65)).drewN q).cell? ⟨w.heap.size, 0, none⟩ = some (.int .i64 x.a) := by rw [World.cell?_drewN]; simp
      have e1 : ((w.alloc (.cells #[.int .i64 x.a, .int .i64 x.b, .int .i64 x.slot, .int .i64 x.unt] 65)).drewN q).cell? ⟨w.heap.size, 1, none⟩ = some (.int .i64 x.b) := by rw [World.cell?_drewN]; simp
      have e2 : ((w.alloc (.cells #[.int .i64 x.a, .int .i64 x.b, .int .i64 x.slot, .int .i64 x.unt] 65)).drewN q).cell? ⟨w.heap.size, 2, none⟩ = some (.int .i64 x.slot) := by rw [World.cell?_drewN]; simp
      have e3 : ((w.alloc (.cells #[.int .i64 x.a, .int .i64 x.b, .int .i64 x.slot, .int .i64 x.unt] 65)).drewN q).cell? ⟨w.heap.size, 3, none⟩ = some (.int .i64 x.unt) := by rw [World.cell?_drewN]; simp
      generalize hwq : (w.alloc (.cells #[.int .i64 x.a, .int .i64 x.b, .int .i64 x.slot, .int .i64 x.unt] 65)).drewN q = wq at c0 c1 c2 c3 e0 e1 e2 e3 hbw ⊢
      have HWQ : Hid _ := hwq
      clear hwq
      generalize hy : l[k] = y at c0 c1 c2 c3
      have HX : Hid (l[k] = y) := hy
      clear hy
      have ke := fequal x y
      cases hh : flEq x y
      · have HH : Hid ((l.take (k + 1)).any (flEq x) = false) := any_snoc hlt HC.out (by rw [HX.out]; exact hh)
        rw [hh] at ke
        go_wp2_with fail
        go_quiet (fail)
        go_wp2
        go_roundw
        case rel => exact ⟨k + 1, q + nq, by omega, by go_num, by rw [← HWQ.out, World.drewN_drewN], HH⟩
        case measure => simp [intOf]; omega
      · have HH : Hid (hasF l x = true) := any_hit hlt (by rw [HX.out]; exact hh)
        rw [hh] at ke
        go_wp2_with fail
        go_quiet (fail)
        go_wp2
        go_ret
        exact ⟨k, rfl, by rw [HH.out]; simp, hbw.trans ((drewN_below _ _).mono hbw.size)⟩
    · have HH : Hid (hasF l x = false) := by
        have := HC.out
        rw [show k = l.length by omega, List.take_length] at this
        exact this
      go_wp2
      go_ret
      exact ⟨-1, rfl, by rw [HH.out]; rfl, hbw⟩

theorem containsF_any (ao : Option Addr) (cap : Nat) (l : List Fl) (x : Fl) (w : World) (hbig : l.length ≤ 1000) (hat : FRow w ao cap l) :
    Calls Try.prog 52 #[.slice ao l.length cap, .agg #[.int .i64 x.a, .int .i64 x.b, .int .i64 x.slot, .int .i64 x.unt]] w fun e w' => e = .returned (.bool (hasF l x)) ∧ Below w.heap.size w w' := by
  have b0 : Below w.heap.size w (w.alloc (.cells #[.int .i64 x.a, .int .i64 x.b, .int .i64 x.slot, .int .i64 x.unt] 65)) := one_below _ _
  have HAT2 : Hid (FRow (w.alloc (.cells #[.int .i64 x.a, .int .i64 x.b, .int .i64 x.slot, .int .i64 x.unt] 65)) ao cap l) := hat.below b0
  clear hat
  go_enter Try.func52, Try.ntmps52
  go_wp2_with fail
  refine (indexF_any _ _ l x _ hbig HAT2.out).mono ?_
  rintro e w1 ⟨i, rfl, hd, hb1⟩
  have b1 := b0.trans (hb1.mono b0.size)
  have HD : Hid _ := hd
  clear hd hb1 b0
  go_wp2
  go_ret
  refine ⟨?_, b1⟩
  rw [← HD.out]
  rfl

set_option maxHeartbeats 1600000 in
theorem indexFn_any (F : Nat) (caps : Array Value) (p : Fl → Bool) (ao : Option Addr) (cap : Nat) (l : List Fl) (w : World) (hbig : l.length ≤ 1000) (hat : FRow w ao cap l) (hF : ∀ args W, (callFunc F args).run Try.prog W = .ok (.enter F args) W)
    (hp : ∀ (x : Fl) W, Below w.heap.size w W → Calls Try.prog F (#[.agg #[.int .i64 x.a, .int .i64 x.b, .int .i64 x.slot, .int .i64 x.unt]] ++ caps) W fun e W' => e = .returned (.bool (p x)) ∧ Below W.heap.size W W') :
    Calls Try.prog 44 #[.slice ao l.length cap, .func (.func F) #[] caps] w fun e w' => ∃ i : Int, e = .returned (.int .i64 i) ∧ decide (0 ≤ i) = l.any p ∧ Below w.heap.size w w' := by
  have HAT : Hid (FRow w ao cap l) := hat
  have HP : Hid (∀ (x : Fl) W, Below w.heap.size w W → Calls Try.prog F (#[.agg #[.int .i64 x.a, .int .i64 x.b, .int .i64 x.slot, .int .i64 x.unt]] ++ caps) W fun e W' => e = .returned (.bool (p x)) ∧ Below W.heap.size W W') := hp
  have HFn : Hid (∀ args W, (callFunc F args).run Try.prog W = .ok (.enter F args) W) := hF
  clear hat hp hF
  go_enter Try.func44, Try.ntmps44
  go_wp2
  go_loopw [8] (fun i wr => ∃ k : Nat, k ≤ l.length ∧ i = .int .i64 k ∧ Hid (Below w.heap.size w wr) ∧ Hid ((l.take k).any p = false)) (fun i _ => l.length - (intOf i).toNat)
  case atStart => exact ⟨0, Nat.zero_le _, rfl, Below.refl _ _, by show _ = _; simp⟩
  case round =>
    obtain ⟨k, hk, rfl, HB, HC⟩ := hrel
    by_cases hlt : k < l.length
    · rcases (HAT.out.below HB.out).at_ with h0 | ⟨bk, ok, rfl, hc⟩
      · omega
      obtain ⟨c0, c1, c2, c3⟩ := hc k hlt
      clear hc
      generalize hy : l[k] = y at c0 c1 c2 c3
      have HX : Hid (l[k] = y) := hy
      clear hy
      go_wp2_with fail
      rw [HFn.out]
      refine (HP.out y wr HB.out).mono ?_
      rintro e w1 ⟨rfl, hb1⟩
      have HB1 : Hid (Below w.heap.size w w1) := HB.out.trans (hb1.mono HB.out.size)
      clear hb1 c0 c1 c2 c3
      cases hh : p y
      · have HH : Hid ((l.take (k + 1)).any p = false) := any_snoc hlt HC.out (by rw [HX.out]; exact hh)
        go_wp2
        go_roundw
        case rel => exact ⟨k + 1, by omega, by go_num, HB1, HH⟩
        case measure => simp [intOf]; omega
      · have HH : Hid (l.any p = true) := any_hit hlt (by rw [HX.out]; exact hh)
        go_wp2
        go_ret
        exact ⟨k, rfl, by rw [HH.out]; simp, HB1.out⟩
    · have HH : Hid (l.any p = false) := by
        have := HC.out
        rw [show k = l.length by omega, List.take_length] at this
        exact this
      go_wp2
      go_ret
      exact ⟨-1, rfl, by rw [HH.out]; rfl, HB.out⟩

theorem containsFn_any (F : Nat) (caps : Array Value) (p : Fl → Bool) (ao : Option Addr) (cap : Nat) (l : List Fl) (w : World) (hbig : l.length ≤ 1000) (hat : FRow w ao cap l) (hF : ∀ args W, (callFunc F args).run Try.prog W = .ok (.enter F args) W)
    (hp : ∀ (x : Fl) W, Below w.heap.size w W → Calls Try.prog F (#[.agg #[.int .i64 x.a, .int .i64 x.b, .int .i64 x.slot, .int .i64 x.unt]] ++ caps) W fun e W' => e = .returned (.bool (p x)) ∧ Below W.heap.size W W') :
    Calls Try.prog 50 #[.slice ao l.length cap, .func (.func F) #[] caps] w fun e w' => e = .returned (.bool (l.any p)) ∧ Below w.heap.size w w' := by
  have HAT : Hid (FRow w ao cap l) := hat
  have HP : Hid (∀ (x : Fl) W, Below w.heap.size w W → Calls Try.prog F (#[.agg #[.int .i64 x.a, .int .i64 x.b, .int .i64 x.slot, .int .i64 x.unt]] ++ caps) W fun e W' => e = .returned (.bool (p x)) ∧ Below W.heap.size W W') := hp
  have HFn : Hid (∀ args W, (callFunc F args).run Try.prog W = .ok (.enter F args) W) := hF
  clear hat hp hF
  go_enter Try.func50, Try.ntmps50
  go_wp2_with fail
  refine (indexFn_any F caps p ao cap l w hbig HAT.out HFn.out HP.out).mono ?_
  rintro e w1 ⟨i, rfl, hd, hb1⟩
  have HD : Hid _ := hd
  clear hd
  go_wp2
  go_ret
  refine ⟨?_, hb1⟩
  rw [← HD.out]
  rfl

/- of a key -/
theorem of_key (a b : Int) (B : Nat) (x : Fl) (W : World) (hB : W.heap[B]? = some (.cells #[.int .i64 a, .int .i64 b] 37 (0, 0))) :
    Calls Try.prog 51 (#[.agg #[.int .i64 x.a, .int .i64 x.b, .int .i64 x.slot, .int .i64 x.unt]] ++ #[.pointer (some ⟨B, 0, none⟩)]) W fun e W' => e = .returned (.bool (x.a == a && x.b == b)) ∧ Below W.heap.size W W' := by
  obtain ⟨c0, c1⟩ := keyf hB
  have lB := lt_of_block hB
  have ke := kequal x.a x.b a b
  have hb := one_below W (.cells #[.int .i64 x.a, .int .i64 x.b, .int .i64 x.slot, .int .i64 x.unt] 65)
  clear hB
  generalize (x.a == a && x.b == b) = r at *
  show Calls Try.prog 51 #[.agg #[.int .i64 x.a, .int .i64 x.b, .int .i64 x.slot, .int .i64 x.unt], .pointer (some ⟨B, 0, none⟩)] W _
  go_enter Try.func51, Try.ntmps51
  go_wp2
  go_ret
  exact ⟨rfl, hb⟩

theorem fn51 : ∀ args W, (callFunc 51 args).run Try.prog W = .ok (.enter 51 args) W := fun _ _ => by kernel_rfl

def hasKF (l : List Fl) (a b : Int) : Bool := l.any fun x => x.a == a && x.b == b
theorem has_any (ao : Option Addr) (cap : Nat) (l : List Fl) (a b : Int) (w : World) (hbig : l.length ≤ 1000) (hat : FRow w ao cap l) :
    Calls Try.prog 49 #[.slice ao l.length cap, .agg #[.int .i64 a, .int .i64 b]] w fun e w' => e = .returned (.bool (hasKF l a b)) ∧ Below w.heap.size w w' := by
  have b0 : Below w.heap.size w (w.alloc (.cells #[.int .i64 a, .int .i64 b] 37)) := one_below _ _
  have HB0 : Hid ((w.alloc (.cells #[.int .i64 a, .int .i64 b] 37)).heap[w.heap.size]? = some (.cells #[.int .i64 a, .int .i64 b] 37)) := heap_alloc_new _ _
  have HAT2 : Hid (FRow (w.alloc (.cells #[.int .i64 a, .int .i64 b] 37)) ao cap l) := hat.below b0
  clear hat
  have hmf : ∀ (fn : Fn) (first cap : Array Value) (w : World), (Instr.makeFunc fn first cap).run Try.prog w = .ok (.func fn first cap) w := fun _ _ _ _ => rfl
  go_enter Try.func49, Try.ntmps49
  go_wp2_with fail
  refine (containsFn_any 51 #[.pointer (some ⟨w.heap.size, 0, none⟩)] (fun x => x.a == a && x.b == b) ao cap l _ hbig HAT2.out fn51 (fun x W hW => of_key a b w.heap.size x W ((hW.block w.heap.size (lt_of_block HB0.out)).trans HB0.out))).mono ?_
  rw [show (l.any fun x => x.a == a && x.b == b) = hasKF l a b from rfl]
  rintro e w1 ⟨rfl, hb1⟩
  have b1 := b0.trans (hb1.mono b0.size)
  clear hb1 b0 HB0 HAT2
  go_wp2
  go_ret
  exact ⟨rfl, b1⟩

theorem not_in53 (ao : Option Addr) (cap : Nat) (l : List Fl) (B : Nat) (x : Fl) (W : World) (hbig : l.length ≤ 1000) (hB : W.heap[B]? = some (.cells #[.slice ao l.length cap] 60 (0, 0))) (hat : FRow W ao cap l) :
    Calls Try.prog 53 (#[.agg #[.int .i64 x.a, .int .i64 x.b, .int .i64 x.slot, .int .i64 x.unt]] ++ #[.pointer (some ⟨B, 0, none⟩)]) W fun e W' => e = .returned (.bool (!hasF l x)) ∧ Below W.heap.size W W' := by
  obtain ⟨c0, -, lB⟩ := var_cell hB
  have b0 : Below W.heap.size W (W.alloc (.cells #[.int .i64 x.a, .int .i64 x.b, .int .i64 x.slot, .int .i64 x.unt] 65)) := one_below _ _
  have HAT2 : Hid (FRow (W.alloc (.cells #[.int .i64 x.a, .int .i64 x.b, .int .i64 x.slot, .int .i64 x.unt] 65)) ao cap l) := hat.below b0
  clear hat hB
  show Calls Try.prog 53 #[.agg #[.int .i64 x.a, .int .i64 x.b, .int .i64 x.slot, .int .i64 x.unt], .pointer (some ⟨B, 0, none⟩)] W _
  go_enter Try.func53, Try.ntmps53
  go_wp2_with fail
  refine (containsF_any ao cap l x _ hbig HAT2.out).mono ?_
  rintro e w1 ⟨rfl, hb1⟩
  have b1 := b0.trans (hb1.mono b0.size)
  clear hb1 b0 HAT2
  go_wp2
  go_ret
  exact ⟨rfl, b1⟩
theorem fn53 : ∀ args W, (callFunc 53 args).run Try.prog W = .ok (.enter 53 args) W := fun _ _ => by kernel_rfl

theorem not_in54 (ao : Option Addr) (cap : Nat) (l : List Fl) (B : Nat) (x : Fl) (W : World) (hbig : l.length ≤ 1000) (hB : W.heap[B]? = some (.cells #[.slice ao l.length cap] 60 (0, 0))) (hat : FRow W ao cap l) :
    Calls Try.prog 54 (#[.agg #[.int .i64 x.a, .int .i64 x.b, .int .i64 x.slot, .int .i64 x.unt]] ++ #[.pointer (some ⟨B, 0, none⟩)]) W fun e W' => e = .returned (.bool (!hasF l x)) ∧ Below W.heap.size W W' := by
  obtain ⟨c0, -, lB⟩ := var_cell hB
  have b0 : Below W.heap.size W (W.alloc (.cells #[.int .i64 x.a, .int .i64 x.b, .int .i64 x.slot, .int .i64 x.unt] 65)) := one_below _ _
  have HAT2 : Hid (FRow (W.alloc (.cells #[.int .i64 x.a, .int .i64 x.b, .int .i64 x.slot, .int .i64 x.unt] 65)) ao cap l) := hat.below b0
  clear hat hB
  show Calls Try.prog 54 #[.agg #[.int .i64 x.a, .int .i64 x.b, .int .i64 x.slot, .int .i64 x.unt], .pointer (some ⟨B, 0, none⟩)] W _
  go_enter Try.func54, Try.ntmps54
  go_wp2_with fail
  refine (containsF_any ao cap l x _ hbig HAT2.out).mono ?_
  rintro e w1 ⟨rfl, hb1⟩
  have b1 := b0.trans (hb1.mono b0.size)
  clear hb1 b0 HAT2
  go_wp2
  go_ret
  exact ⟨rfl, b1⟩
theorem fn54 : ∀ args W, (callFunc 54 args).run Try.prog W = .ok (.enter 54 args) W := fun _ _ => by kernel_rfl

theorem not_in55 (ao : Option Addr) (cap : Nat) (l : List Fl) (B : Nat) (x : Fl) (W : World) (hbig : l.length ≤ 1000) (hB : W.heap[B]? = some (.cells #[.slice ao l.length cap] 60 (0, 0))) (hat : FRow W ao cap l) :
    Calls Try.prog 55 (#[.agg #[.int .i64 x.a, .int .i64 x.b, .int .i64 x.slot, .int .i64 x.unt]] ++ #[.pointer (some ⟨B, 0, none⟩)]) W fun e W' => e = .returned (.bool (!hasF l x)) ∧ Below W.heap.size W W' := by
  obtain ⟨c0, -, lB⟩ := var_cell hB
  have b0 : Below W.heap.size W (W.alloc (.cells #[.int .i64 x.a, .int .i64 x.b, .int .i64 x.slot, .int .i64 x.unt] 65)) := one_below _ _
  have HAT2 : Hid (FRow (W.alloc (.cells #[.int .i64 x.a, .int .i64 x.b, .int .i64 x.slot, .int .i64 x.unt] 65)) ao cap l) := hat.below b0
  clear hat hB
  show Calls Try.prog 55 #[.agg #[.int .i64 x.a, .int .i64 x.b, .int .i64 x.slot, .int .i64 x.unt], .pointer (some ⟨B, 0, none⟩)] W _
  go_enter Try.func55, Try.ntmps55
  go_wp2_with fail
  refine (containsF_any ao cap l x _ hbig HAT2.out).mono ?_
  rintro e w1 ⟨rfl, hb1⟩
  have b1 := b0.trans (hb1.mono b0.size)
  clear hb1 b0 HAT2
  go_wp2
  go_ret
  exact ⟨rfl, b1⟩
theorem fn55 : ∀ args W, (callFunc 55 args).run Try.prog W = .ok (.enter 55 args) W := fun _ _ => by kernel_rfl


end Go.Proofs.Ytdbilofhcadmoaa.mm
