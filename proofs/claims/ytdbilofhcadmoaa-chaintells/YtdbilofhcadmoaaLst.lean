/- A list that grows in a variable that a function literal has caught; the contract of slotsOf. -/
import Derived.Test.YtdbilofhcadmoaaWalk
import Derived.Test.YtdbilofhcadmoaaGrow
namespace Go.Proofs.Ytdbilofhcadmoaa.mm
open Go.ChangeShapes Go.WideShapes Go.ChangeAt Go.RowKit Go.Joins
set_option maxRecDepth 100000
set_option linter.unusedVariables false

structure Lst (w0 : World) (B Y : Nat) (t e : TypeId) (size : Nat) (ob : Array Value) (W : World) (n : Nat) (xs : List Value) : Prop where
  var : ∃ v, W.heap[B]? = some (.cells #[v] t (0, 0)) ∧ W.ownsRow (B + 1) e size v n xs
  box : W.heap[Y]? = some (.cells ob 29 (0, 0))
  below : Below B w0 W
  ne : B ≠ Y

theorem var_cell {W : World} {B : Nat} {v : Value} {t : TypeId} (h : W.heap[B]? = some (.cells #[v] t (0, 0))) : W.cell? ⟨B, 0, none⟩ = some v ∧ W.frozen? ⟨B, 0, none⟩ = false ∧ B < W.heap.size :=
  ⟨by rw [cell_of_block h]; rfl, unfrozen_of_block h _, lt_of_block h⟩

theorem Lst.step {w0 W w1 : World} {B Y : Nat} {t e : TypeId} {size n m : Nat} {ob : Array Value} {xs news : List Value} {v v' : Value} {o1 : Obj} (hB : W.heap[B]? = some (.cells #[v] t (0, 0))) (ho : W.ownsRow (B + 1) e size v n xs)
    (hY : W.heap[Y]? = some (.cells ob 29 (0, 0))) (hb : Below B w0 W) (hne : B ≠ Y) (n1 : e ≠ t) (n2 : e ≠ 29) (hg : (W.alloc o1).grownBy w1 v.ownBlock) (ho' : w1.ownsRow (B + 1) e size v' (n + m) (xs ++ news)) :
    Lst w0 B Y t e size ob (w1.setCell ⟨B, 0, none⟩ v') (n + m) (xs ++ news) := by
  have lB := lt_of_block hB
  have lY := lt_of_block hY
  have hvB := own_ne ho hB n1
  have hvY := own_ne ho hY n2
  have kB : w1.heap[B]? = some (.cells #[v] t (0, 0)) := box_kept hB hg hvB
  have kY : w1.heap[Y]? = some (.cells ob 29 (0, 0)) := box_kept hY hg hvY
  have hu : ∀ k, v.ownBlock = some k → B ≤ k := fun k hk => by
    have := (ho.lt k hk).1
    omega
  refine ⟨⟨v', ?_, set1_own ho' (own_ne ho' kB n1)⟩, (Below.heap_setCell _ _ _ _ (by dsimp only; omega)).trans kY, ?_, hne⟩
  · have := block_setCell (i := 0) kB v'
    rw [this]; rfl
  · exact low_kept hb hg hu (by omega) (Nat.le_refl _)

set_option maxHeartbeats 800000 in
theorem app85 (w0 W : World) (B Y : Nat) (ob : Array Value) (l : List Int) (a : Int) (L : Lst w0 B Y 24 3 1 ob W l.length (encI l)) (hl : l.length ≤ 12) :
    Calls Try.prog 86 #[.int .i64 a, .pointer (some ⟨B, 0, none⟩)] W fun e W' => e = .returned (.tuple #[]) ∧ Lst w0 B Y 24 3 1 ob W' (l ++ [a]).length (encI (l ++ [a])) := by
  obtain ⟨i0, hi, hz0, hz1, hz2⟩ := info_parts iI
  obtain ⟨⟨v, hB, ho⟩, hY, hb, hne⟩ := L
  obtain ⟨ao, cap, rfl⟩ := own_shape ho
  obtain ⟨c0, f0, lB⟩ := var_cell hB
  have HB : Hid _ := hB
  have HY : Hid _ := hY
  clear hB hY
  go_enter Try.func86, Try.ntmps86
  go_wp2_with (at_builtin; refine wpList_append_own_at _ rfl (.tmp 3) (.tmp 5) 24 rfl (B + 1) 3 i0 (.int .i64 0) 1 8 Try.underlying24 hi hz0 hz1 hz2 rfl (by decide) _ _ _ rfl (ho.alloc _) ⟨W.heap.size, 0, none⟩ 1 1 [.int .i64 a] rfl rfl (cell_one_new _ _ _) (by intro u hu; simp at hu; subst hu; rfl) (by unfold maxLen; omega) (by omega) (by simp; omega) ?_; intro v2 w2 ho2 hg2 _ hloc2; obtain ⟨g2, cap2, rfl⟩ := ownsRow_form ho2 (by omega); have HL : Hid _ := Lst.step HB.out ho HY.out hb hne (by decide) (by decide) hg2 ho2; obtain ⟨d0, e0, lB2⟩ := var_cell (box_kept HB.out hg2 (own_ne ho HB.out (by decide))); clear c0 f0 lB ho2 hg2 hloc2)
  go_end0
  refine ⟨rfl, ?_⟩
  have := HL.out
  rw [show (l ++ [a]).length = l.length + 1 by simp, show encI (l ++ [a]) = encI l ++ [.int .i64 a] by simp [encI]]
  exact this

theorem fn85 : ∀ args W, (callFunc 86 args).run Try.prog W = .ok (.enter 86 args) W := fun _ _ => by kernel_rfl

theorem walkL_len (S : List Sl) : ∀ (k : Nat) (n : Int), (walkL S k n).length ≤ k
  | 0, _ => by simp [walkL]
  | k + 1, n => by
    simp only [walkL]
    split
    · have := walkL_len S k (nextN S n); simp; omega
    · simp

def slotsE (M : Mm) (b : Nat) : Int := if chOk M b then 0 else 4
def slotsL (M : Mm) (b : Nat) : List Int := if chOk M b then chL M b else []

set_option maxHeartbeats 1600000 in
theorem slotsOf_any (M : Mm) (aS aH aF aL : Option Addr) (cS cH cF cL b : Nat) (w : World) (A : At w aS aH aF aL cS cH cF cL M) (hok : Ok M) (hb : b < M.heads.length) :
    Calls Try.prog 70 #[.agg #[.slice aS M.slots.length cS, .slice aH M.heads.length cH, .slice aF M.free.length cF, .slice aL M.locks.length cL, .int .i64 M.now], .int .i64 b] w fun e w' =>
      ∃ ao cap, e = .returned (.tuple #[.slice ao (slotsL M b).length cap, .int .i64 (slotsE M b)]) ∧ IRow w' ao cap (slotsL M b) ∧ Below w.heap.size w w' := by
  obtain ⟨E0, hE0⟩ : ∃ E0, E0 = slotsE M b := ⟨_, rfl⟩
  obtain ⟨L0, hL0⟩ : ∃ L0, L0 = slotsL M b := ⟨_, rfl⟩
  rw [← hE0, ← hL0]
  have HE0 : Hid (E0 = slotsE M b) := hE0
  have HL0 : Hid (L0 = slotsL M b) := hL0
  clear hE0 hL0
  have n0 := hok.ns
  obtain ⟨o1, ho1⟩ : ∃ o : Obj, o = .cells #[.slice aS M.slots.length cS, .slice aH M.heads.length cH, .slice aF M.free.length cF, .slice aL M.locks.length cL, .int .i64 M.now] 29 := ⟨_, rfl⟩
  obtain ⟨o2, ho2⟩ : ∃ o : Obj, o = .cells #[.slice none 0 0] 24 := ⟨_, rfl⟩
  have b0 : Below w.heap.size w ((w.alloc o1).alloc o2) := below_alloc2 w o1 o2
  have HB0 : Hid (((w.alloc o1).alloc o2).heap[w.heap.size]? = some o1) := by show _ = _; rw [Below.heap_alloc _ _ _ (by simp), heap_alloc_new]
  have HV0 : Hid (((w.alloc o1).alloc o2).heap[w.heap.size + 1]? = some o2) := by
    have := heap_alloc_new (w.alloc o1) o2
    rwa [show (w.alloc o1).heap.size = w.heap.size + 1 by simp] at this
  have HZ0 : Hid (((w.alloc o1).alloc o2).heap.size = w.heap.size + 2) := by show _ = _; simp
  have HA0 : Hid _ := A.below b0
  have hmf : ∀ (fn : Fn) (first cap : Array Value) (w : World), (Instr.makeFunc fn first cap).run Try.prog w = .ok (.func fn first cap) w := fun _ _ _ _ => rfl
  go_enter Try.func70, Try.ntmps70
  go_wp2_with fail
  rw [← ho1, ← ho2]
  generalize (w.alloc o1).alloc o2 = W0 at *
  subst ho1 ho2
  have hstart : Lst W0 (w.heap.size + 1) W0.heap.size 24 3 1 #[.slice aS M.slots.length cS, .slice aH M.heads.length cH, .slice aF M.free.length cF, .slice aL M.locks.length cL, .int .i64 M.now] (W0.alloc (.cells #[.slice aS M.slots.length cS, .slice aH M.heads.length cH, .slice aF M.free.length cF, .slice aL M.locks.length cL, .int .i64 M.now] 29)) ([] : List Int).length (encI []) := by
    have z := HZ0.out
    refine ⟨⟨.slice none 0 0, ?_, World.ownsRow_nil _ _ _ _⟩, heap_alloc_new _ _, (Below.refl _ _).alloc (by omega) _, by omega⟩
    rw [Below.heap_alloc _ _ _ (by omega)]
    exact HV0.out
  have HAw : Hid _ := A
  clear A
  refine (walk_any 86 #[.pointer (some ⟨w.heap.size + 1, 0, none⟩)] M aS aH aF aL cS cH cF cL b W0 hok hb fn85 (fun l W => Lst W0 (w.heap.size + 1) W0.heap.size 24 3 1 #[.slice aS M.slots.length cS, .slice aH M.heads.length cH, .slice aF M.free.length cF, .slice aL M.locks.length cL, .int .i64 M.now] W l.length (encI l)) hstart (fun l W h => h.box) (fun l W h => HAw.out.below (b0.trans (h.below.mono (by omega)))) ?_).mono ?_
  · intro l a W hL ha hl
    exact app85 _ _ _ _ _ _ _ hL (by omega)
  rintro e w1 ⟨rfl, hL1⟩
  have HL1 : Hid _ := hL1
  have HB1 : Hid (Below w.heap.size w w1) := b0.trans (hL1.below.mono (by omega))
  obtain ⟨⟨v, hv, ho⟩, -, -, -⟩ := hL1
  have hm : (chL M b).length ≤ 12 := Nat.le_trans (walkL_len _ _ _) n0
  obtain ⟨ao, cap, rfl, hrow⟩ := IRow.of_own ho (by omega)
  obtain ⟨c0, f0, lB⟩ := var_cell hv
  have HRow : Hid _ := hrow
  clear hv ho hrow HL1 hstart HB0 HV0 HZ0 HA0 b0
  cases hc : chOk M b
  · have HV : Hid (E0 = 4 ∧ L0 = []) := ⟨HE0.out.trans (by unfold slotsE; rw [hc]; rfl), HL0.out.trans (by unfold slotsL; rw [hc]; rfl)⟩
    go_wp2
    go_ret2
    refine ⟨none, 0, ?_, ?_, HB1.out⟩
    · rw [HV.out.1, HV.out.2]; rfl
    · rw [HV.out.2]; exact ⟨by decide, by decide, fun _ => rfl, .inl rfl⟩
  · have HV : Hid (E0 = 0 ∧ L0 = chL M b) := ⟨HE0.out.trans (by unfold slotsE; rw [hc]; rfl), HL0.out.trans (by unfold slotsL; rw [hc]; rfl)⟩
    go_wp2
    go_ret2
    refine ⟨ao, cap, ?_, ?_, HB1.out⟩
    · rw [HV.out.1, HV.out.2]; rfl
    · rw [HV.out.2]; exact HRow.out


end Go.Proofs.Ytdbilofhcadmoaa.mm
