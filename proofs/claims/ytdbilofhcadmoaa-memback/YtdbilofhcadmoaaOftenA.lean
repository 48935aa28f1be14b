/- MemOften's parts: what is held and put again and again. -/
import Derived.Test.YtdbilofhcadmoaaFilled
import Derived.Test.YtdbilofhcadmoaaPure2
import Derived.Test.YtdbilofhcadmoaaSame2
namespace Go.Proofs.Ytdbilofhcadmoaa.mm
open Go.ChangeShapes Go.WideShapes Go.ChangeAt Go.RowKit Go.Joins
set_option linter.unusedVariables false

theorem at_any (k : Int) (w : World) (h0 : -9223372036854775808 ≤ k) (h1 : k ≤ 9223372036854775807) :
    Calls Try.prog 32 #[.int .i64 k, .int .i64 20] w fun e w' => ∃ t : Nat, t < 20 ∧ e = .returned (.int .i64 t) ∧ w = w' := by
  have m1 : k.tmod 20 < 20 := Int.tmod_lt_of_pos k (by decide)
  have m2 : -20 < k.tmod 20 := by
    have := Int.tmod_lt_of_pos (-k) (b := 20) (by decide)
    rw [Int.neg_tmod] at this
    omega
  generalize hm : k.tmod 20 = m at m1 m2
  by_cases hneg : m < 0
  · go_enter Try.func32, Try.ntmps32
    go_wp2
    go_ret
    exact ⟨(m + 20).toNat, by omega, by rw [Int.toNat_of_nonneg (by omega)]; rfl, rfl⟩
  · have hp : 0 ≤ m := by omega
    go_enter Try.func32, Try.ntmps32
    go_wp2
    go_ret
    exact ⟨m.toNat, by omega, by rw [Int.toNat_of_nonneg (by omega)]; rfl, rfl⟩

/- Two boxes: one holds what came in, the other one what was made of it. -/
structure Oft (w wr : World) (X : Nat) (o1 : Obj) (Mx : Mm) : Prop where
  lt : w.heap.size < X
  box : wr.heap[w.heap.size]? = some o1
  ex : ∃ aS aH aF aL cS cH cF cL, wr.heap[X]? = some (.cells #[.slice aS Mx.slots.length cS, .slice aH Mx.heads.length cH, .slice aF Mx.free.length cF, .slice aL Mx.locks.length cL, .int .i64 Mx.now] 29 (0, 0)) ∧ At wr aS aH aF aL cS cH cF cL Mx
  below : Below w.heap.size w wr

theorem Oft.keep {w wr w' : World} {X : Nat} {o1 : Obj} {Mx : Mm} (I : Oft w wr X o1 Mx) (hb : Below wr.heap.size wr w') : Oft w w' X o1 Mx := by
  obtain ⟨lt, box, ⟨aS, aH, aF, aL, cS, cH, cF, cL, hX, A⟩, b⟩ := I
  exact ⟨lt, (hb.block _ (lt_of_block box)).trans box, ⟨aS, aH, aF, aL, cS, cH, cF, cL, (hb.block _ (lt_of_block hX)).trans hX, A.below hb⟩, b.trans (hb.mono b.size)⟩

theorem Oft.store {w wr w2 : World} {X : Nat} {o1 : Obj} {Mx M2 : Mm} {aS aH aF aL : Option Addr} {cS cH cF cL : Nat} (I : Oft w wr X o1 Mx) (hb : Below wr.heap.size wr w2) (A2 : At w2 aS aH aF aL cS cH cF cL M2) (hi : Hi4 wr.heap.size aS aH aF aL) :
    Oft w (set5 w2 X (.slice aS M2.slots.length cS) (.slice aH M2.heads.length cH) (.slice aF M2.free.length cF) (.slice aL M2.locks.length cL) (.int .i64 M2.now)) X o1 M2 := by
  have hX : X < wr.heap.size := by
    obtain ⟨_, _, _, _, _, _, _, _, h, _⟩ := I.ex
    exact lt_of_block h
  have J := I.keep hb
  obtain ⟨lt, box, ⟨aS', aH', aF', aL', cS', cH', cF', cL', hX', A⟩, b⟩ := J
  exact ⟨lt, (set5_other (by omega)).trans box, ⟨aS, aH, aF, aL, cS, cH, cF, cL, set5_block hX' _ _ _ _ _, A2.off hi hX (fun k hk => set5_other hk)⟩, b.trans (set5_below _ _ _ _ _ _ _ _ (by omega))⟩

theorem Oft.ans {w wr : World} {X : Nat} {o1 : Obj} {Mx : Mm} (I : Oft w wr X o1 Mx) : ∃ aS aH aF aL cS cH cF cL, wr.heap[X]? = some (.cells #[.slice aS Mx.slots.length cS, .slice aH Mx.heads.length cH, .slice aF Mx.free.length cF, .slice aL Mx.locks.length cL, .int .i64 Mx.now] 29 (0, 0)) ∧
    Ans 0 wr (.agg #[.slice aS Mx.slots.length cS, .slice aH Mx.heads.length cH, .slice aF Mx.free.length cF, .slice aL Mx.locks.length cL, .int .i64 Mx.now]) Mx := by
  obtain ⟨aS, aH, aF, aL, cS, cH, cF, cL, h, A⟩ := I.ex
  exact ⟨aS, aH, aF, aL, cS, cH, cF, cL, h, aS, aH, aF, aL, cS, cH, cF, cL, rfl, A, fun _ _ => Nat.zero_le _, fun _ _ => Nat.zero_le _, fun _ _ => Nat.zero_le _, fun _ _ => Nat.zero_le _⟩

/- Held and Let of a slot with so many Refs, all else right. -/
theorem with_ok {M : Mm} (h : Ok M) {i : Int} (hi : isSl M i = true) (h0 : 0 < refsM M i) {r : Int} (r0 : 0 < r) (r1 : r ≤ 1000) : Ok (withRefs M i r) := by
  obtain ⟨j, rfl, hj⟩ := (isSl_iff M i).1 hi
  exact turn_ok h hj r0 r1 (by omega)
theorem held_more {M : Mm} (h : Ok M) {i : Int} (hi : isSl M i = true) (h0 : 0 < refsM M i) {r : Int} (r0 : 0 < r) (r1 : r < 1000) : heldE (withRefs M i r) i = 0 ∧ heldM (withRefs M i r) i = withRefs M i (r + 1) := by
  have e : heldE (withRefs M i r) i = 0 := by
    unfold heldE
    rw [if_neg (by simpa using (chk_zero _).2 (with_ok h hi h0 r0 (by omega))), if_neg (by rw [isSl_with, hi]; simp), if_neg (by rw [refs_with hi]; omega)]
  exact ⟨e, by unfold heldM; rw [if_pos e, hold_of_with hi]⟩
theorem held_full {M : Mm} (h : Ok M) {i : Int} (hi : isSl M i = true) (h0 : 0 < refsM M i) : heldE (withRefs M i 1000) i = 8 := by
  unfold heldE
  rw [if_neg (by simpa using (chk_zero _).2 (with_ok h hi h0 (by decide) (by decide))), if_neg (by rw [isSl_with, hi]; simp), if_pos (by rw [refs_with hi]; exact .inr rfl)]
theorem let_less {M : Mm} (h : Ok M) {i : Int} (hi : isSl M i = true) (h0 : 0 < refsM M i) {r : Int} (r0 : 1 < r) (r1 : r ≤ 1000) : letE (withRefs M i r) i = 0 ∧ letM (withRefs M i r) i = withRefs M i (r - 1) := by
  have e : letE (withRefs M i r) i = 0 := by
    unfold letE
    rw [if_neg (by simpa using (chk_zero _).2 (with_ok h hi h0 (by omega) r1)), if_neg (by rw [isSl_with, hi]; simp), if_neg (by rw [refs_with hi]; omega)]
  exact ⟨e, by unfold letM; rw [if_pos e, put_of_with hi _ (by omega)]⟩
def freed (M : Mm) (i : Int) : Mm := putM (withRefs M i 1) i
theorem let_last {M : Mm} (h : Ok M) {i : Int} (hi : isSl M i = true) (h0 : 0 < refsM M i) : letE (withRefs M i 1) i = 0 ∧ letM (withRefs M i 1) i = freed M i := by
  have e : letE (withRefs M i 1) i = 0 := by
    unfold letE
    rw [if_neg (by simpa using (chk_zero _).2 (with_ok h hi h0 (by decide) (by decide))), if_neg (by rw [isSl_with, hi]; simp), if_neg (by rw [refs_with hi]; decide)]
  exact ⟨e, by unfold letM; rw [if_pos e]; rfl⟩
theorem freed_ok {M : Mm} (h : Ok M) {i : Int} (hi : isSl M i = true) (h0 : 0 < refsM M i) : heldE (freed M i) i = 8 ∧ letE (freed M i) i = 8 ∧ (freed M i).free = M.free ++ [i] := by
  have hw := with_ok h hi h0 (r := 1) (by decide) (by decide)
  have hi1 : isSl (withRefs M i 1) i = true := by rw [isSl_with]; exact hi
  have o : Ok (freed M i) := put_ok hw hi1 (by rw [refs_with hi]; decide) (by rw [refs_with hi]; decide)
  have hr : refsM (freed M i) i = 0 := by unfold freed; rw [refs_put hi1, refs_with hi]; rfl
  have hs : isSl (freed M i) i = true := by unfold freed; rw [isSl_put]; exact hi1
  refine ⟨?_, ?_, ?_⟩
  · unfold heldE
    rw [if_neg (by simpa using (chk_zero _).2 o), if_neg (by rw [hs]; simp), if_pos (.inl hr)]
  · unfold letE
    rw [if_neg (by simpa using (chk_zero _).2 o), if_neg (by rw [hs]; simp), if_pos hr]
  · unfold freed putM
    dsimp only
    rw [refs_with hi, if_pos rfl]
    rfl
theorem held_first {M : Mm} {i : Int} (h : heldE M i = 0) : Ok M ∧ isSl M i = true ∧ 0 < refsM M i ∧ refsM M i < 1000 ∧ heldM M i = withRefs M i (refsM M i + 1) := by
  have h' := h
  unfold heldE at h
  split at h
  · rename_i hc; exact absurd h hc
  rename_i hc
  split at h
  · cases h
  rename_i hs
  split at h
  · cases h
  rename_i hr
  have ho := (chk_zero M).1 (by simpa using hc)
  have hs' : isSl M i = true := by simpa using hs
  obtain ⟨j, rfl, hj⟩ := (isSl_iff M i).1 hs'
  have hg := (inB_iff _ _ _).1 (slot_good (ho.slot _ (List.getElem_mem hj))).1
  rw [← refs_lt hj] at hg
  exact ⟨ho, hs', by omega, by omega, by unfold heldM; rw [if_pos h', hold_with]⟩


end Go.Proofs.Ytdbilofhcadmoaa.mm
