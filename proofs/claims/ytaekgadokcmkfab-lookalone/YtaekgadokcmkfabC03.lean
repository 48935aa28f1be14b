/- Memory of one's own, and what a change of it leaves: all that is not in its box nor its rows. -/
import Derived.Test.YtaekgadokcmkfabC02
import Derived.Test.YtaekgadokcmkfabC01
import Derived.Maps.OwnOps
import Derived.Maps.OwnSet
import Derived.Carry
namespace Go.Proofs.Ytaekgadokcmkfab.mm
open Go.ChangeShapes Go.WideShapes Go.ChangeAt Go.RowKit Go.Joins
set_option linter.unusedVariables false

/- Where memory of one's own lies: its box and its four rows. -/
def Foot (B : Nat) (aS aH aF aL : Option Addr) (k : Nat) : Prop :=
  k = B ∨ (∃ ad, aS = some ad ∧ ad.block = k) ∨ (∃ ad, aH = some ad ∧ ad.block = k) ∨ (∃ ad, aF = some ad ∧ ad.block = k) ∨ (∃ ad, aL = some ad ∧ ad.block = k)

/- A change that touches nothing but what Z names, and what is new. -/
structure Fine (w w' : World) (Z : Nat → Prop) : Prop where
  os : w'.os = w.os
  tape : w'.tape = w.tape
  output : w'.output = w.output
  size : w.heap.size ≤ w'.heap.size
  block : ∀ k, k < w.heap.size → ¬ Z k → w'.heap[k]? = w.heap[k]?

/- What Z names, and what is new. -/
def Up (w : World) (Z : Nat → Prop) (k : Nat) : Prop := Z k ∨ w.heap.size ≤ k

theorem Fine.refl (w : World) (Z : Nat → Prop) : Fine w w Z := ⟨rfl, rfl, rfl, Nat.le_refl _, fun _ _ _ => rfl⟩
theorem Fine.of_below {w w' : World} (Z : Nat → Prop) (hb : Below w.heap.size w w') : Fine w w' Z := ⟨hb.os, hb.tape, hb.output, hb.size, fun k h _ => hb.block k h⟩
theorem Fine.trans {w w1 w2 : World} {Z Z' : Nat → Prop} (h : Fine w w1 Z) (h' : Fine w1 w2 Z') (hz : ∀ k, k < w.heap.size → Z' k → Z k) : Fine w w2 Z :=
  ⟨h'.os.trans h.os, h'.tape.trans h.tape, h'.output.trans h.output, Nat.le_trans h.size h'.size, fun k h1 h2 => (h'.block k (Nat.lt_of_lt_of_le h1 h.size) (fun h3 => h2 (hz k h1 h3))).trans (h.block k h1 h2)⟩
theorem Fine.go {w w1 w2 : World} {Z : Nat → Prop} (h : Fine w w1 Z) (h' : Fine w1 w2 (Up w Z)) : Fine w w2 Z :=
  h.trans h' fun k h1 h2 => h2.elim id (fun h3 => by omega)
theorem Fine.below {w w1 w2 : World} {Z : Nat → Prop} (h : Fine w w1 Z) (hb : Below w1.heap.size w1 w2) : Fine w w2 Z :=
  h.trans (.of_below Z hb) fun _ _ h => h
theorem Fine.set {w w1 : World} {Z : Nat → Prop} {k : Nat} (h : Fine w w1 Z) (hk : Z k ∨ w.heap.size ≤ k) (j : Nat) (v : Value) : Fine w (w1.setCell ⟨k, j, none⟩ v) Z :=
  ⟨h.os, h.tape, h.output, by rw [World.size_setCell]; exact h.size, fun i h1 h2 => by
    have hne : i ≠ k := by rintro rfl; exact hk.elim h2 (fun h3 => by omega)
    rw [Below.heap_setCell _ _ _ _ (by dsimp only; exact hne)]
    exact h.block i h1 h2⟩
theorem Fine.down {w w1 : World} {Z : Nat → Prop} (h : Fine w w1 Z) {n : Nat} (hn : n ≤ w.heap.size) (hz : ∀ k, Z k → n ≤ k) : Below n w w1 :=
  ⟨h.os, h.tape, h.output, h.size, fun k hk => h.block k (by omega) (fun h3 => by have := hz k h3; omega)⟩
theorem Fine.mono {w w1 : World} {Z Z' : Nat → Prop} (h : Fine w w1 Z) (hz : ∀ k, Z k → Z' k) : Fine w w1 Z' := ⟨h.os, h.tape, h.output, h.size, fun k h1 h2 => h.block k h1 (fun h3 => h2 (hz k h3))⟩

theorem own_same {w w' : World} {lo size n : Nat} {e : TypeId} {v : Value} {xs : List Value} (h : w.ownsRow lo e size v n xs) (hk : ∀ g, v.ownBlock = some g → w'.heap[g]? = w.heap[g]?) : w'.ownsRow lo e size v n xs := by
  refine ⟨h.1, ?_⟩
  rcases h.2 with h1 | ⟨g, cap, cur, rfl, hg, hb, rest⟩
  · exact .inl h1
  · exact .inr ⟨g, cap, cur, rfl, hg, (hk g rfl).trans hb, rest⟩

/- A box holds memory of one's own, which lies within Z. -/
def Has (w : World) (B lo : Nat) (Z : Nat → Prop) (M : Mm) : Prop :=
  ∃ aS aH aF aL cS cH cF cL, Mine w B lo aS aH aF aL cS cH cF cL M ∧ ∀ k, Foot B aS aH aF aL k → Z k

theorem foot_own {aS : Option Addr} {n c g : Nat} (h : (Value.slice aS n c).ownBlock = some g) : ∃ ad, aS = some ad ∧ ad.block = g := by
  cases aS with
  | none => cases h
  | some ad => exact ⟨ad, rfl, by injection h⟩

theorem Mine.same {w w' : World} {B lo : Nat} {aS aH aF aL : Option Addr} {cS cH cF cL : Nat} {M : Mm} (m : Mine w B lo aS aH aF aL cS cH cF cL M) (hz : w.heap.size ≤ w'.heap.size)
    (hk : ∀ k, k < w.heap.size → Foot B aS aH aF aL k → w'.heap[k]? = w.heap[k]?) : Mine w' B lo aS aH aF aL cS cH cF cL M := by
  obtain ⟨hB, ⟨s, h, f, l, hf, hl, fl, lz⟩, m1, m2, m3, m4⟩ := m
  refine ⟨(hk B (lt_of_block hB) (.inl rfl)).trans hB, ⟨?_, ?_, ?_, ?_, hf, hl, fl, Nat.le_trans lz hz⟩, m1, m2, m3, m4⟩
  · exact own_same s fun g hg => hk g (s.lt g hg).2 (.inr (.inl (foot_own hg)))
  · exact own_same h fun g hg => hk g (h.lt g hg).2 (.inr (.inr (.inl (foot_own hg))))
  · exact own_same f fun g hg => hk g (f.lt g hg).2 (.inr (.inr (.inr (.inl (foot_own hg)))))
  · exact own_same l fun g hg => hk g (l.lt g hg).2 (.inr (.inr (.inr (.inr (foot_own hg)))))

theorem Has.same {w w' : World} {B lo : Nat} {Z : Nat → Prop} {M : Mm} (h : Has w B lo Z M) (hz : w.heap.size ≤ w'.heap.size) (hk : ∀ k, k < w.heap.size → Z k → w'.heap[k]? = w.heap[k]?) : Has w' B lo Z M := by
  obtain ⟨aS, aH, aF, aL, cS, cH, cF, cL, m, hf⟩ := h
  exact ⟨aS, aH, aF, aL, cS, cH, cF, cL, m.same hz (fun k h1 h2 => hk k h1 (hf k h2)), hf⟩
theorem Has.below {w w' : World} {B lo : Nat} {Z : Nat → Prop} {M : Mm} (h : Has w B lo Z M) (hb : Below w.heap.size w w') : Has w' B lo Z M := h.same hb.size fun k h1 _ => hb.block k h1
theorem Has.fine {w w' : World} {B lo : Nat} {Z Z' : Nat → Prop} {M : Mm} (h : Has w B lo Z M) (hf : Fine w w' Z') (hd : ∀ k, k < w.heap.size → Z k → ¬ Z' k) : Has w' B lo Z M := h.same hf.size fun k h1 h2 => hf.block k h1 (hd k h1 h2)
theorem Has.mono {w : World} {B lo : Nat} {Z Z' : Nat → Prop} {M : Mm} (h : Has w B lo Z M) (hz : ∀ k, k < w.heap.size → Z k → Z' k) : Has w B lo Z' M := by
  obtain ⟨aS, aH, aF, aL, cS, cH, cF, cL, m, hf⟩ := h
  refine ⟨aS, aH, aF, aL, cS, cH, cF, cL, m, fun k hk => hz k ?_ (hf k hk)⟩
  rcases hk with rfl | ⟨ad, rfl, rfl⟩ | ⟨ad, rfl, rfl⟩ | ⟨ad, rfl, rfl⟩ | ⟨ad, rfl, rfl⟩
  · exact lt_of_block m.box
  · exact (m.c.s.lt _ rfl).2
  · exact (m.c.h.lt _ rfl).2
  · exact (m.c.f.lt _ rfl).2
  · exact (m.c.l.lt _ rfl).2
theorem Has.up {w : World} {B lo : Nat} {Z : Nat → Prop} {M : Mm} (h : Has w B lo Z M) : Has w B lo (Up w Z) M := h.mono fun _ _ h => .inl h
theorem Has.low {w : World} {B lo : Nat} {Z : Nat → Prop} {M : Mm} (h : Has w B lo Z M) : Has w B lo (fun k => k = B ∨ lo ≤ k) M := by
  obtain ⟨aS, aH, aF, aL, cS, cH, cF, cL, m, hf⟩ := h
  refine ⟨aS, aH, aF, aL, cS, cH, cF, cL, m, fun k hk => ?_⟩
  rcases hk with rfl | ⟨ad, rfl, rfl⟩ | ⟨ad, rfl, rfl⟩ | ⟨ad, rfl, rfl⟩ | ⟨ad, rfl, rfl⟩
  · exact .inl rfl
  · exact .inr (m.c.s.lt _ rfl).1
  · exact .inr (m.c.h.lt _ rfl).1
  · exact .inr (m.c.f.lt _ rfl).1
  · exact .inr (m.c.l.lt _ rfl).1

theorem free_few {M : Mm} (h : Ok M) : M.free.length ≤ 12 := by
  have h1 := few' M.slots.length M.free h.nodup (fun a ha => by
    have := (freeOk_iff _ _).1 (h.free a ha)
    exact ⟨this.1, this.2.1⟩)
  have := h.ns
  omega

theorem foot_hold {B : Nat} {aS aH aF aL aF' : Option Addr} {Z : Nat → Prop} {n : Nat} (hf : ∀ k, Foot B aS aH aF aL k → Z k) (hn : ∀ ad, aF' = some ad → n ≤ ad.block) : ∀ k, Foot B aS aH aF' aL k → Z k ∨ n ≤ k := by
  rintro k (rfl | h | h | ⟨ad, e, rfl⟩ | h)
  · exact .inl (hf _ (.inl rfl))
  · exact .inl (hf _ (.inr (.inl h)))
  · exact .inl (hf _ (.inr (.inr (.inl h))))
  · exact .inr (hn ad e)
  · exact .inl (hf _ (.inr (.inr (.inr (.inr h)))))

/- The four changes of how often a slot is held: the program's, the document's. -/
theorem hold_fine {M : Mm} {w : World} {B lo : Nat} {Z : Nat → Prop} {i : Int} (H : Has w B lo Z M) (hM : Ok M) (hi : isSl M i = true) :
    Calls Try.prog 98 #[.pointer (some ⟨B, 0, none⟩), .int .i64 i] w fun e w' => e = .returned (.bool (canH M i)) ∧ Has w' B lo (Up w Z) (holdN M i) ∧ Fine w w' Z := by
  have hr := slot_refs hM hi
  obtain ⟨i0, i1⟩ := isSl_in.1 hi
  have H' := H
  obtain ⟨aS, aH, aF, aL, cS, cH, cF, cL, m, hf⟩ := H
  by_cases hc : canH M i = true
  · have hc' := canH_iff.1 hc
    obtain ⟨j, rfl⟩ : ∃ j : Nat, i = j := ⟨i.toNat, by omega⟩
    have hj : j < M.slots.length := by omega
    obtain ⟨gS, rfl, oS, -, -, -⟩ := row_form m.c.s (by omega)
    have hrr := refsM_at M j hj
    rw [hrr] at hc'
    obtain ⟨c0, -, -, -, -, -, fz⟩ := row_cells m.c.s hj
    refine (hold_yes w B gS _ j cS _ _ _ _ _ m.box hj c0 (fz _) hc'.1 hc'.2).mono ?_
    rintro e w' ⟨rfl, rfl⟩
    have mt := turned m hj (M.slots[j].refs + 1)
    have e1 : holdN M j = holdM M j := by unfold holdN; rw [if_pos hc]
    rw [e1, hc]
    rw [← hrr] at mt ⊢
    exact ⟨rfl, ⟨_, _, _, _, _, _, _, _, mt, fun k hk => .inl (hf k hk)⟩, (Fine.refl w Z).set (.inl (hf gS (.inr (.inl ⟨_, rfl, rfl⟩)))) _ _⟩
  · have hc0 : canH M i = false := by simpa using hc
    have hn : ¬ (0 < refsM M i ∧ refsM M i < 1000) := fun h => hc (canH_iff.2 h)
    refine (hold_fail M w B lo aS aH aF aL cS cH cF cL i m i0 i1 (by omega)).mono ?_
    rintro e w' ⟨rfl, rfl⟩
    have e1 : holdN M i = M := by unfold holdN; rw [if_neg hc]
    rw [e1, hc0]
    exact ⟨rfl, H'.up, .refl _ _⟩

theorem rhold_fine {M : Mm} {w : World} {B lo : Nat} {Z : Nat → Prop} {i : Int} (H : Has w B lo Z M) (hM : Ok M) (hi : isSl M i = true) :
    Calls Try.prog 77 #[.pointer (some ⟨B, 0, none⟩), .int .i64 i] w fun e w' => e = .returned (.bool (canH M i)) ∧ Has w' B lo (Up w Z) (holdN M i) ∧ Fine w w' Z := by
  have hr := slot_refs hM hi
  obtain ⟨i0, i1⟩ := isSl_in.1 hi
  have H' := H
  obtain ⟨aS, aH, aF, aL, cS, cH, cF, cL, m, hf⟩ := H
  have m1 := m.m1
  by_cases hc : canH M i = true
  · have hc' := canH_iff.1 hc
    obtain ⟨j, rfl⟩ : ∃ j : Nat, i = j := ⟨i.toNat, by omega⟩
    have hj : j < M.slots.length := by omega
    obtain ⟨gS, rfl, oS, -, -, -⟩ := row_form m.c.s (by omega)
    have hrr := refsM_at M j hj
    rw [hrr] at hc'
    obtain ⟨c0, -, -, -, -, -, fz⟩ := row_cells m.c.s hj
    refine (rhold_yes w B gS _ j cS _ _ _ _ _ m.box hj (by omega) c0 (fz _) hc'.1 hc'.2).mono ?_
    rintro e w' ⟨rfl, rfl⟩
    have mt := turned m hj (M.slots[j].refs + 1)
    have e1 : holdN M j = holdM M j := by unfold holdN; rw [if_pos hc]
    rw [e1, hc]
    rw [← hrr] at mt ⊢
    exact ⟨rfl, ⟨_, _, _, _, _, _, _, _, mt, fun k hk => .inl (hf k hk)⟩, (Fine.refl w Z).set (.inl (hf gS (.inr (.inl ⟨_, rfl, rfl⟩)))) _ _⟩
  · have hc0 : canH M i = false := by simpa using hc
    have hn : ¬ (0 < refsM M i ∧ refsM M i < 1000) := fun h => hc (canH_iff.2 h)
    refine (rhold_fail M w B lo aS aH aF aL cS cH cF cL i m i0 i1 (by omega)).mono ?_
    rintro e w' ⟨rfl, rfl⟩
    have e1 : holdN M i = M := by unfold holdN; rw [if_neg hc]
    rw [e1, hc0]
    exact ⟨rfl, H'.up, .refl _ _⟩

theorem put_fine {M : Mm} {w : World} {B lo : Nat} {Z : Nat → Prop} {i : Int} (H : Has w B lo Z M) (hM : Ok M) (hi : isSl M i = true) :
    Calls Try.prog 83 #[.pointer (some ⟨B, 0, none⟩), .int .i64 i] w fun e w' => e = .returned (.bool (decide (refsM M i ≠ 0))) ∧ Has w' B lo (Up w Z) (putN M i) ∧ Fine w w' Z := by
  have hr := slot_refs hM hi
  have hfew := free_few hM
  obtain ⟨i0, i1⟩ := isSl_in.1 hi
  have H' := H
  obtain ⟨aS, aH, aF, aL, cS, cH, cF, cL, m, hf⟩ := H
  by_cases h0 : refsM M i = 0
  · refine (put_fail M w B lo aS aH aF aL cS cH cF cL i m i0 i1 h0).mono ?_
    rintro e w' ⟨rfl, rfl⟩
    have e1 : putN M i = M := by unfold putN; rw [if_pos h0]
    rw [e1]
    exact ⟨by simp [h0], H'.up, .refl _ _⟩
  have ed : decide (refsM M i ≠ 0) = true := by simp [h0]
  have e0 : putN M i = putM M i := by unfold putN; rw [if_neg h0]
  rw [ed, e0]
  obtain ⟨j, rfl⟩ : ∃ j : Nat, i = j := ⟨i.toNat, by omega⟩
  have hj : j < M.slots.length := by omega
  obtain ⟨gS, rfl, oS, -, -, -⟩ := row_form m.c.s (by omega)
  have hZ : Z gS := hf gS (.inr (.inl ⟨_, rfl, rfl⟩))
  have hrr := refsM_at M j hj
  obtain ⟨c0, -, -, -, -, -, fz⟩ := row_cells m.c.s hj
  by_cases hl : refsM M j = 1
  · rw [← hrr, hl] at c0
    have mt := turned m hj 0
    refine (put_last w B gS _ j cS cF aF M.free _ _ _ m.box hj c0 (fz _) m.ne_s mt.at.f (by omega)).mono ?_
    rintro e w' ⟨rfl, a', c', w1, hb, ho, rfl⟩
    have e1 : putM M j = { M with slots := setRefs M j 0, free := M.free ++ [(j : Int)] } := by simp [putM, hl]
    have hlen : (M.free ++ [(j : Int)]).length = M.free.length + 1 := by simp
    rw [e1]
    have hz : (w.setCell ⟨gS, j * 6, none⟩ (.int .i64 0)).heap.size = w.heap.size := World.size_setCell ..
    have hi' := own_hi ho
    rw [← hz] at hb ho
    have mg := mt.newF (M.free ++ [(j : Int)]) (by rw [hlen]; omega) hb hlen ho
    refine ⟨rfl, ⟨_, _, _, _, _, _, _, _, mg, foot_hold hf hi'⟩, ?_⟩
    exact (((Fine.refl w Z).set (.inl hZ) (j * 6) (.int .i64 0)).below hb).set (.inl (hf B (.inl rfl))) _ _
  · have hr2 : 1 < M.slots[j].refs := by omega
    refine (put_more w B gS _ j cS _ _ _ _ _ m.box hj c0 (fz _) hr2 (by omega)).mono ?_
    rintro e w' ⟨rfl, rfl⟩
    have e1 : putM M j = { M with slots := setRefs M j (refsM M j - 1) } := by simp [putM, hl]
    rw [e1]
    have mt := turned m hj (M.slots[j].refs - 1)
    rw [← hrr] at mt ⊢
    exact ⟨rfl, ⟨_, _, _, _, _, _, _, _, mt, fun k hk => .inl (hf k hk)⟩, (Fine.refl w Z).set (.inl hZ) _ _⟩

theorem rput_fine {M : Mm} {w : World} {B lo : Nat} {Z : Nat → Prop} {i : Int} (H : Has w B lo Z M) (hM : Ok M) (hi : isSl M i = true) :
    Calls Try.prog 78 #[.pointer (some ⟨B, 0, none⟩), .int .i64 i] w fun e w' => e = .returned (.tuple #[]) ∧ Has w' B lo (Up w Z) (putN M i) ∧ Fine w w' Z := by
  have hr := slot_refs hM hi
  have hfew := free_few hM
  obtain ⟨i0, i1⟩ := isSl_in.1 hi
  have H' := H
  obtain ⟨aS, aH, aF, aL, cS, cH, cF, cL, m, hf⟩ := H
  have m1 := m.m1
  obtain ⟨j, rfl⟩ : ∃ j : Nat, i = j := ⟨i.toNat, by omega⟩
  have hj : j < M.slots.length := by omega
  obtain ⟨gS, rfl, oS, -, -, -⟩ := row_form m.c.s (by omega)
  have hZ : Z gS := hf gS (.inr (.inl ⟨_, rfl, rfl⟩))
  have hrr := refsM_at M j hj
  obtain ⟨c0, -, -, -, -, -, fz⟩ := row_cells m.c.s hj
  by_cases h0 : refsM M j = 0
  · rw [← hrr, h0] at c0
    refine (rput_none w B gS _ j cS _ _ _ _ m.box hj (by omega) c0).mono ?_
    rintro e w' ⟨rfl, rfl⟩
    have e1 : putN M j = M := by unfold putN; rw [if_pos h0]
    rw [e1]
    exact ⟨rfl, H'.up, .refl _ _⟩
  have e0 : putN M j = putM M j := by unfold putN; rw [if_neg h0]
  rw [e0]
  by_cases hl : refsM M j = 1
  · rw [← hrr, hl] at c0
    have mt := turned m hj 0
    refine (rput_last w B gS _ j lo cS cF aF M.free _ _ _ m.box hj (by omega) c0 (fz _) m.ne_s mt.at.f (by omega)).mono ?_
    rintro e w' ⟨rfl, a', c', w1, hb, ho, rfl⟩
    have e1 : putM M j = { M with slots := setRefs M j 0, free := M.free ++ [(j : Int)] } := by simp [putM, hl]
    have hlen : (M.free ++ [(j : Int)]).length = M.free.length + 1 := by simp
    rw [e1]
    have hz : (w.setCell ⟨gS, j * 6, none⟩ (.int .i64 0)).heap.size = w.heap.size := World.size_setCell ..
    have hi' := own_hi ho
    rw [← hz] at hb ho
    have mg := mt.newF (M.free ++ [(j : Int)]) (by rw [hlen]; omega) hb hlen ho
    refine ⟨rfl, ⟨_, _, _, _, _, _, _, _, mg, foot_hold hf hi'⟩, ?_⟩
    exact (((Fine.refl w Z).set (.inl hZ) (j * 6) (.int .i64 0)).below hb).set (.inl (hf B (.inl rfl))) _ _
  · have hr2 : 1 < M.slots[j].refs := by omega
    refine (rput_more w B gS _ j cS _ _ _ _ _ m.box hj (by omega) c0 (fz _) hr2 (by omega)).mono ?_
    rintro e w' ⟨rfl, rfl⟩
    have e1 : putM M j = { M with slots := setRefs M j (refsM M j - 1) } := by simp [putM, hl]
    rw [e1]
    have mt := turned m hj (M.slots[j].refs - 1)
    rw [← hrr] at mt ⊢
    exact ⟨rfl, ⟨_, _, _, _, _, _, _, _, mt, fun k hk => .inl (hf k hk)⟩, (Fine.refl w Z).set (.inl hZ) _ _⟩
end Go.Proofs.Ytaekgadokcmkfab.mm

/- The contract of the document's own IsKey; a set of ints as a map of one's own. -/
namespace Go.Proofs.Ytaekgadokcmkfab.mm
open Go.ChangeShapes Go.WideShapes Go.ChangeAt Go.RowKit Go.Maps
set_option maxRecDepth 100000
set_option linter.unusedVariables false

theorem isKey_any (a b : Int) (w : World) :
    Calls Try.prog 58 #[.agg #[.int .i64 a, .int .i64 b]] w fun e w' => e = .returned (.bool (keyB a b)) ∧ Below w.heap.size w w' := by
  cases h : keyB a b
  · have hc : a < 0 ∨ (0 ≤ a ∧ 15 < a) ∨ (0 ≤ a ∧ a ≤ 15 ∧ b < 0) ∨ (0 ≤ a ∧ a ≤ 15 ∧ 0 ≤ b ∧ 15 < b) := by
      have : ¬ ((0 ≤ a ∧ a ≤ 15) ∧ (0 ≤ b ∧ b ≤ 15)) := fun hh => by rw [(keyB_iff a b).2 hh] at h; cases h
      omega
    clear h
    rcases hc with h | ⟨h1, h2⟩ | ⟨h1, h2, h3⟩ | ⟨h1, h2, h3, h4⟩
    rotate_left 3
    · have hd : decide (b ≤ 15) = false := by simp; omega
      go_enter Try.func58, Try.ntmps58
      go_wp2
      go_ret
      exact ⟨rfl, one_below _ _⟩
    all_goals
      go_enter Try.func58, Try.ntmps58
      go_wp2
      go_ret
      exact ⟨rfl, one_below _ _⟩
  · obtain ⟨⟨h0, h1⟩, h2, h3⟩ := (keyB_iff a b).1 h
    clear h
    go_enter Try.func58, Try.ntmps58
    go_wp2
    go_ret
    exact ⟨rfl, one_below _ _⟩

theorem law3 : Keyed Try.prog 3 := int_keyed Try.underlying3
theorem zero4 (w : World) : (zeroValue 4).run Try.prog w = .ok (.bool false) w := by kernel_rfl
theorem under119 : Try.prog.underlying 119 = some (.map 3 4) := by kernel_rfl

theorem plainElem_bool_inv {H : Type} {v : Value} {z : DataW H × List MemPlace} (h : plainElem Try.prog 4 v = some z) : ∃ x, v = .bool x ∧ z = (.lit (.bool x), []) := by
  unfold plainElem at h
  rw [Try.underlying4] at h
  cases v <;> simp at h
  exact ⟨_, rfl, h.symm⟩

/- Block g is a map whose keys that are true are these. -/
def SetAt (w : World) (g : Nat) (l : List Int) : Prop :=
  ∃ n, n ≤ l.length ∧ ∃ D : DataW Unit, w.ownsMap Try.prog 3 (plainElem Try.prog 4) g n D ∧ ∀ x : Int, D.atKey (.int .i64 x) (.lit (.bool false)) = .lit (.bool (hasB l x))

theorem SetAt.made (w : World) : SetAt (w.alloc (.map #[] 0)) w.heap.size [] :=
  ⟨0, Nat.le_refl _, _, World.ownsMap_made w Try.prog 3 _, fun x => by simp [hasB, DataW.atKey]⟩
theorem SetAt.kept {w w' : World} {g : Nat} {l : List Int} (h : SetAt w g l) (hb : w'.heap[g]? = w.heap[g]?) : SetAt w' g l := by
  obtain ⟨n, hn, D, ⟨es, clock, hg, F, hs, hD⟩, hat⟩ := h
  exact ⟨n, hn, D, ⟨es, clock, hb.trans hg, F, hs, hD⟩, hat⟩
theorem SetAt.lt {w : World} {g : Nat} {l : List Int} (h : SetAt w g l) : g < w.heap.size := by
  obtain ⟨n, hn, D, ⟨es, clock, hg, F, hs, hD⟩, hat⟩ := h
  exact lt_of_block hg
theorem SetAt.look {w : World} {g : Nat} {l : List Int} (h : SetAt w g l) {x : Int} (hx : (Lit.int .i64 x).wf = true) : (Instr.lookup 119 (.map (some g)) (.int .i64 x) false).run Try.prog w = .ok (.bool (hasB l x)) w := by
  obtain ⟨n, hn, D, ho, hat⟩ := h
  obtain ⟨v, ps, hrun, hv⟩ := ho.lookup law3 under119 (zero4 w) (plainElem_bool Try.underlying4 false) (keyOf_int_mk Try.underlying3 hx)
  rw [hat x] at hv
  obtain ⟨y, rfl, hz⟩ := plainElem_bool_inv hv
  rw [hrun]
  injection hz with h1 h2
  injection h1 with h1
  injection h1 with h1
  rw [h1]
theorem wf64 {x : Int} (h0 : -9223372036854775808 ≤ x) (h1 : x ≤ 9223372036854775807) : (Lit.int .i64 x).wf = true := by
  have e1 : IntKind.i64.min = -9223372036854775808 := by decide
  have e2 : IntKind.i64.max = 9223372036854775807 := by decide
  simp [Lit.wf, e1, e2]
  omega
theorem SetAt.put {w w' : World} {g n : Nat} {l : List Int} {D : DataW Unit} {x : Int} (hn : n ≤ l.length) (ho : w.ownsMap Try.prog 3 (plainElem Try.prog 4) g n D) (hat : ∀ x : Int, D.atKey (.int .i64 x) (.lit (.bool false)) = .lit (.bool (hasB l x)))
    (h : w'.ownsMap Try.prog 3 (plainElem Try.prog 4) g (n + 1) (D.put (.int .i64 x) (.lit (.bool true)))) : SetAt w' g (l ++ [x]) := by
  refine ⟨n + 1, by simp; omega, _, h, fun y => ?_⟩
  by_cases e : y = x
  · subst e
    rw [atKey_put_same (ho.tidy law3).isMap (by simp [WideAt.IsKeyLit])]
    simp [hasB]
  · rw [atKey_put_other (by intro hh; injection hh with _ hh; exact e hh), hat y]
    simp [hasB, e]


end Go.Proofs.Ytaekgadokcmkfab.mm

/- The contracts of frame.CheckCall and of the document's own CheckCall. -/
namespace Go.Proofs.Ytaekgadokcmkfab.mm
open Go.ChangeShapes Go.WideShapes Go.ChangeAt Go.RowKit Go.Joins Go.Maps
set_option maxRecDepth 100000
set_option linter.unusedVariables false

theorem checkCall_any (aS aH aF aL : Option Addr) (nS nH nF nL cS cH cF cL : Nat) (now k a b t bk sl : Int) (w : World) (hn : nS ≤ 9223372036854775807) (hh : nH ≤ 9223372036854775807) :
    Calls Try.prog 18 #[.agg #[.slice aS nS cS, .slice aH nH cH, .slice aF nF cF, .slice aL nL cL, .int .i64 now], .agg #[.int .i64 k, .int .i64 a, .int .i64 b, .int .i64 t, .int .i64 bk, .int .i64 sl]] w fun e w' => e = .returned (.int .i64 (callE nS nH ⟨k, a, b, t, bk, sl⟩)) ∧ Below w.heap.size w w' := by
  have b0 : Below w.heap.size w ((w.alloc (.cells #[.slice aS nS cS, .slice aH nH cH, .slice aF nF cF, .slice aL nL cL, .int .i64 now] 25)).alloc (.cells #[.int .i64 k, .int .i64 a, .int .i64 b, .int .i64 t, .int .i64 bk, .int .i64 sl] 48)) := below_alloc2 w _ _
  have hk : ∀ W : World, Calls Try.prog 33 #[.agg #[.int .i64 a, .int .i64 b]] W fun e w' => e = .returned (.int .i64 (if keyB a b then 0 else 3)) ∧ Below W.heap.size W w' := fun W => kcheck_any a b W
  by_cases h13 : k = 1 ∨ k = 3
  · rw [callE_key h13]
    generalize (if keyB a b then (0 : Int) else 3) = kv at *
    rcases h13 with rfl | rfl
    all_goals
      go_enter Try.func18, Try.ntmps18
      go_wp2_with (go_at_call 33; refine (hk _).mono ?_; rintro e w1 ⟨rfl, hb1⟩)
      go_ret
      exact ⟨rfl, b0.trans (hb1.mono b0.size)⟩
  by_cases h2 : k = 2
  · subst h2
    clear h13
    rw [callE_add]
    cases hT : inB t 1 1000000
    · rw [Bool.false_and, if_neg (by simp)]
      go_enter Try.func18, Try.ntmps18
      go_wp2_with (go_at_call 57; refine (within_any _ _ _ _).mono ?_; rintro e w1 ⟨rfl, rfl⟩)
      go_ret
      exact ⟨rfl, b0⟩
    · rw [Bool.true_and]
      generalize (if keyB a b then (0 : Int) else 3) = kv at *
      go_enter Try.func18, Try.ntmps18
      go_wp2_with (first | (go_at_call 57; refine (within_any _ _ _ _).mono ?_; rintro e w1 ⟨rfl, rfl⟩) | (go_at_call 33; refine (hk _).mono ?_; rintro e w1 ⟨rfl, hb1⟩))
      go_ret
      exact ⟨rfl, b0.trans (hb1.mono b0.size)⟩
  by_cases h45 : k = 4 ∨ k = 5
  · rw [callE_bk h45]
    clear h13 h2
    have hc : ∀ W : World, Calls Try.prog 51 #[.agg #[.slice aS nS cS, .slice aH nH cH, .slice aF nF cF, .slice aL nL cL, .int .i64 now], .int .i64 bk] W fun e w' => e = .returned (.bool (inB bk 0 ((nH : Int) - 1))) ∧ Below W.heap.size W w' := fun W => hasChain_any aS aH aF aL nS nH nF nL cS cH cF cL now bk W hh
    cases hB : inB bk 0 ((nH : Int) - 1) <;> (rw [hB] at hc; rcases h45 with rfl | rfl)
    all_goals
      first | rw [if_pos rfl] | rw [if_neg (by simp)]
      go_enter Try.func18, Try.ntmps18
      go_wp2_with (go_at_call 51; refine (hc _).mono ?_; rintro e w1 ⟨rfl, hb1⟩)
      go_ret
      exact ⟨rfl, b0.trans (hb1.mono b0.size)⟩
  by_cases h6 : k = 6
  · subst h6
    clear h13 h2 h45
    rw [callE_leave]
    have hc : ∀ W : World, Calls Try.prog 54 #[.agg #[.slice aS nS cS, .slice aH nH cH, .slice aF nF cF, .slice aL nL cL, .int .i64 now], .int .i64 sl] W fun e w' => e = .returned (.bool (inB sl 0 ((nS : Int) - 1))) ∧ Below W.heap.size W w' := fun W => isSlot_any aS aH aF aL nS nH nF nL cS cH cF cL now sl W hn
    cases hB : inB sl 0 ((nS : Int) - 1) <;> rw [hB] at hc
    all_goals
      first | rw [if_pos rfl] | rw [if_neg (by simp)]
      go_enter Try.func18, Try.ntmps18
      go_wp2_with (go_at_call 54; refine (hc _).mono ?_; rintro e w1 ⟨rfl, hb1⟩)
      go_ret
      exact ⟨rfl, b0.trans (hb1.mono b0.size)⟩
  have hno : k < 1 ∨ 6 < k := by omega
  rw [callE_no hno]
  have e1 : (k == 1) = false := by rw [beq_eq_false_iff_ne]; omega
  have e2 : (k == 2) = false := by rw [beq_eq_false_iff_ne]; omega
  have e3 : (k == 3) = false := by rw [beq_eq_false_iff_ne]; omega
  have e4 : (k == 4) = false := by rw [beq_eq_false_iff_ne]; omega
  have e5 : (k == 5) = false := by rw [beq_eq_false_iff_ne]; omega
  have e6 : (k == 6) = false := by rw [beq_eq_false_iff_ne]; omega
  clear h13 h2 h45 h6 hno
  go_enter Try.func18, Try.ntmps18
  go_wp2
  go_ret
  exact ⟨rfl, b0⟩

theorem law4 : Keyed Try.prog 4 := bool_keyed Try.underlying4
theorem zero27 (w : World) : (zeroValue 27).run Try.prog w = .ok (.int .i64 0) w := by kernel_rfl
theorem under89 : Try.prog.underlying 89 = some (.map 4 27) := by kernel_rfl

theorem plainElem_int_inv {H : Type} {v : Value} {z : DataW H × List MemPlace} (h : plainElem Try.prog 27 v = some z) : ∃ x, v = .int .i64 x ∧ z = (.lit (.int .i64 x), []) := by
  unfold plainElem at h
  rw [Try.underlying27] at h
  cases v <;> simp at h
  obtain ⟨⟨rfl, _⟩, h⟩ := h
  exact ⟨_, rfl, h.symm⟩

/- Block g is the map of what is wrong. -/
def BadAt (w : World) (g : Nat) : Prop :=
  ∃ n, ∃ D : DataW Unit, w.ownsMap Try.prog 4 (plainElem Try.prog 27) g n D ∧ ∀ x : Bool, D.atKey (.bool x) (.lit (.int .i64 0)) = .lit (.int .i64 (if x then 0 else 3))
theorem BadAt.kept {w w' : World} {g : Nat} (h : BadAt w g) (hb : w'.heap[g]? = w.heap[g]?) : BadAt w' g := by
  obtain ⟨n, D, ⟨es, clock, hg, F, hs, hD⟩, hat⟩ := h
  exact ⟨n, D, ⟨es, clock, hb.trans hg, F, hs, hD⟩, hat⟩
theorem BadAt.lt {w : World} {g : Nat} (h : BadAt w g) : g < w.heap.size := by
  obtain ⟨n, D, ⟨es, clock, hg, F, hs, hD⟩, hat⟩ := h
  exact lt_of_block hg
theorem BadAt.look {w : World} {g : Nat} (h : BadAt w g) (x : Bool) : (Instr.lookup 89 (.map (some g)) (.bool x) false).run Try.prog w = .ok (.int .i64 (if x then 0 else 3)) w := by
  obtain ⟨n, D, ho, hat⟩ := h
  obtain ⟨v, ps, hrun, hv⟩ := ho.lookup law4 under89 (zero27 w) (plainElem_int Try.underlying27 (by decide)) (keyOf_bool_mk Try.underlying4 x)
  rw [hat x] at hv
  obtain ⟨y, rfl, hz⟩ := plainElem_int_inv hv
  rw [hrun]
  injection hz with h1 h2
  injection h1 with h1
  injection h1 with _ h1
  rw [h1]
theorem BadAt.put {w' : World} {g n : Nat} (h : w'.ownsMap Try.prog 4 (plainElem Try.prog 27) g n ((DataW.map [] : DataW Unit).put (.bool false) (.lit (.int .i64 3)))) : BadAt w' g := by
  refine ⟨n, _, h, fun x => ?_⟩
  cases x
  · rw [atKey_put_same ⟨_, rfl⟩ (by simp [WideAt.IsKeyLit])]; rfl
  · rw [atKey_put_other (by intro hh; cases hh)]; simp [DataW.atKey]

/- What a walk carries: memory's box, a call's, the map of what is wrong. -/
theorem callf {w : World} {B : Nat} {v0 v1 v2 v3 v4 v5 : Value} {t : TypeId} (h : w.heap[B]? = some (.cells #[v0, v1, v2, v3, v4, v5] t (0, 0))) :
    w.cell? ⟨B, 0, none⟩ = some v0 ∧ w.cell? ⟨B, 1, none⟩ = some v1 ∧ w.cell? ⟨B, 2, none⟩ = some v2 ∧ w.cell? ⟨B, 3, none⟩ = some v3 ∧ w.cell? ⟨B, 4, none⟩ = some v4 ∧ w.cell? ⟨B, 5, none⟩ = some v5 ∧ B < w.heap.size :=
  ⟨by rw [cell_of_block h]; rfl, by rw [cell_of_block h]; rfl, by rw [cell_of_block h]; rfl, by rw [cell_of_block h]; rfl, by rw [cell_of_block h]; rfl, by rw [cell_of_block h]; rfl, lt_of_block h⟩

theorem rcall_next {w1 w2 : World} {B : Nat} {v0 v1 v2 v3 v4 v5 : Value} (hb : Below w1.heap.size w1 w2) (c0 : w1.cell? ⟨B, 0, none⟩ = some v0) (c1 : w1.cell? ⟨B, 1, none⟩ = some v1) (c2 : w1.cell? ⟨B, 2, none⟩ = some v2) (c3 : w1.cell? ⟨B, 3, none⟩ = some v3) (c4 : w1.cell? ⟨B, 4, none⟩ = some v4) (c5 : w1.cell? ⟨B, 5, none⟩ = some v5) (cs : B < w1.heap.size) :
    w2.cell? ⟨B, 0, none⟩ = some v0 ∧ w2.cell? ⟨B, 1, none⟩ = some v1 ∧ w2.cell? ⟨B, 2, none⟩ = some v2 ∧ w2.cell? ⟨B, 3, none⟩ = some v3 ∧ w2.cell? ⟨B, 4, none⟩ = some v4 ∧ w2.cell? ⟨B, 5, none⟩ = some v5 ∧ B < w2.heap.size := by
  obtain ⟨q, f⟩ := bcell hb
  exact ⟨(q _ _ cs).trans c0, (q _ _ cs).trans c1, (q _ _ cs).trans c2, (q _ _ cs).trans c3, (q _ _ cs).trans c4, (q _ _ cs).trans c5, Nat.lt_of_lt_of_le cs hb.size⟩
theorem rcall_start {w W0 w1 : World} {om oc o1 o2 : Obj} (hB : W0.heap[w.heap.size]? = some om) (hC : W0.heap[w.heap.size + 1]? = some oc) (hz : W0.heap.size = w.heap.size + 2) (hb : Below w.heap.size w W0) (hd : BadAt w1 (w.heap.size + 1 + 1)) (e1 : om = o1) (e2 : oc = o2)
    (hg : (W0.alloc (.map #[] 0)).grownBy w1 (some (w.heap.size + 1 + 1))) : BadAt w1 (w.heap.size + 1 + 1) ∧ Below w.heap.size w w1 ∧ w1.heap[w.heap.size]? = some om ∧ w1.heap[w.heap.size + 1]? = some oc := by
  have h1 : Below W0.heap.size W0 w1 := (one_below W0 (.map #[] 0)).grown hg (by simp) (fun k h => by cases h; omega)
  exact ⟨hd, hb.trans (h1.mono (by omega)), (h1.block _ (by omega)).trans hB, (h1.block _ (by omega)).trans hC⟩

set_option maxHeartbeats 1600000 in
theorem rcheckCall_any (aS aH aF aL : Option Addr) (nS nH nF nL cS cH cF cL : Nat) (now k a b t bk sl : Int) (w : World) (hn : nS ≤ 9223372036854775807) (hh : nH ≤ 9223372036854775807) :
    Calls Try.prog 19 #[.agg #[.slice aS nS cS, .slice aH nH cH, .slice aF nF cF, .slice aL nL cL, .int .i64 now], .agg #[.int .i64 k, .int .i64 a, .int .i64 b, .int .i64 t, .int .i64 bk, .int .i64 sl]] w fun e w' => e = .returned (.int .i64 (callE nS nH ⟨k, a, b, t, bk, sl⟩)) ∧ Below w.heap.size w w' := by
  obtain ⟨om, hom⟩ : ∃ o : Obj, o = .cells #[.slice aS nS cS, .slice aH nH cH, .slice aF nF cF, .slice aL nL cL, .int .i64 now] 25 := ⟨_, rfl⟩
  obtain ⟨oc, hoc⟩ : ∃ o : Obj, o = .cells #[.int .i64 k, .int .i64 a, .int .i64 b, .int .i64 t, .int .i64 bk, .int .i64 sl] 48 := ⟨_, rfl⟩
  have b0 : Below w.heap.size w ((w.alloc om).alloc oc) := below_alloc2 w _ _
  have HB0 : Hid (((w.alloc om).alloc oc).heap[w.heap.size]? = some om) := by show _ = _; rw [Below.heap_alloc _ _ _ (by simp), heap_alloc_new]
  have HC0 : Hid (((w.alloc om).alloc oc).heap[w.heap.size + 1]? = some oc) := by
    have := heap_alloc_new (w.alloc om) oc
    rwa [show (w.alloc om).heap.size = w.heap.size + 1 by simp] at this
  have HZ0 : Hid (((w.alloc om).alloc oc).heap.size = w.heap.size + 2) := by show _ = _; simp
  have hmm := @run_makeMap Try.prog
  have HMM : Hid (((((w.alloc (.cells #[.slice aS nS cS, .slice aH nH cH, .slice aF nF cF, .slice aL nL cL, .int .i64 now] 25)).alloc (.cells #[.int .i64 k, .int .i64 a, .int .i64 b, .int .i64 t, .int .i64 bk, .int .i64 sl] 48)).alloc (.map #[] 0))).ownsMap Try.prog 4 (plainElem Try.prog 27) (w.heap.size + 1 + 1) 0 (.map [] : DataW Unit)) := by
    have := World.ownsMap_made (H := Unit) ((w.alloc (.cells #[.slice aS nS cS, .slice aH nH cH, .slice aF nF cF, .slice aL nL cL, .int .i64 now] 25)).alloc (.cells #[.int .i64 k, .int .i64 a, .int .i64 b, .int .i64 t, .int .i64 bk, .int .i64 sl] 48)) Try.prog 4 (plainElem Try.prog 27)
    rwa [show ((w.alloc (.cells #[.slice aS nS cS, .slice aH nH cH, .slice aF nF cF, .slice aL nL cL, .int .i64 now] 25)).alloc (.cells #[.int .i64 k, .int .i64 a, .int .i64 b, .int .i64 t, .int .i64 bk, .int .i64 sl] 48)).heap.size = w.heap.size + 1 + 1 by simp] at this
  have hk : ∀ W : World, Calls Try.prog 58 #[.agg #[.int .i64 a, .int .i64 b]] W fun e w' => e = .returned (.bool (keyB a b)) ∧ Below W.heap.size W w' := fun W => isKey_any a b W
  obtain ⟨E0, hE0⟩ : ∃ x, x = callE nS nH ⟨k, a, b, t, bk, sl⟩ := ⟨_, rfl⟩
  rw [← hE0]
  have HE0 : Hid (E0 = callE nS nH ⟨k, a, b, t, bk, sl⟩) := hE0
  clear hE0
  obtain ⟨w1, hrun, ho1, hg1⟩ := HMM.out.update law4 under89 (show 0 < maxLen by decide) (keyOf_bool_mk Try.underlying4 false) (plainElem_int (H := Unit) Try.underlying27 (q := .i64) (a := 3) (by decide))
  have HD1 : Hid (BadAt w1 (w.heap.size + 1 + 1) ∧ Below w.heap.size w w1 ∧ w1.heap[w.heap.size]? = some om ∧ w1.heap[w.heap.size + 1]? = some oc) := by
    subst hom hoc
    exact rcall_start HB0.out HC0.out HZ0.out b0 (BadAt.put ho1) rfl rfl hg1
  clear ho1 hg1 HB0 HC0 HZ0 HMM b0
  subst hom hoc
  obtain ⟨q0, q1, q2, q3, q4, -, -, -, -, -, qs⟩ := boxf HD1.out.2.2.1
  obtain ⟨c0, c1, c2, c3, c4, c5, cs⟩ := callf HD1.out.2.2.2
  have look : ∀ (W : World) (x : Bool), Below w1.heap.size w1 W → (Instr.lookup 89 (.map (some (w.heap.size + 1 + 1))) (.bool x) false).run Try.prog W = .ok (.int .i64 (if x then 0 else 3)) W := fun W x hb => BadAt.look (BadAt.kept HD1.out.1 (hb.block _ (BadAt.lt HD1.out.1))) x
  have HLook : Hid _ := look
  have HB1 : Hid (Below w.heap.size w w1) := HD1.out.2.1
  clear look HD1
  by_cases h13 : k = 1 ∨ k = 3
  · have HV : Hid (E0 = if keyB a b then 0 else 3) := HE0.out.trans (callE_key h13)
    clear HE0
    rcases h13 with rfl | rfl
    all_goals
      go_enter Try.func19, Try.ntmps19
      go_wp2_with (go_at_call 58; refine (hk _).mono ?_; rintro e w2 ⟨rfl, hb2⟩; have hlk := HLook.out w2 (keyB a b) hb2; rw [← HV.out] at hlk; clear q0 q1 q2 q3 q4 qs c0 c1 c2 c3 c4 c5 cs)
      go_ret
      exact ⟨rfl, HB1.out.trans (hb2.mono HB1.out.size)⟩
  by_cases h2 : k = 2
  · subst h2
    clear h13
    have HV : Hid (E0 = if inB t 1 1000000 && keyB a b then 0 else 3) := HE0.out.trans callE_add
    clear HE0
    cases hK : keyB a b
    · rw [hK] at hk
      rw [hK, Bool.and_false, if_neg (by simp)] at HV
      go_enter Try.func19, Try.ntmps19
      go_wp2_with (go_at_call 58; refine (hk _).mono ?_; rintro e w2 ⟨rfl, hb2⟩; have hlk := HLook.out w2 false hb2; clear q0 q1 q2 q3 q4 qs c0 c1 c2 c3 c4 c5 cs)
      go_ret
      exact ⟨by rw [HV.out]; rfl, HB1.out.trans (hb2.mono HB1.out.size)⟩
    · rw [hK] at hk
      rw [hK, Bool.and_true] at HV
      have hc : t < 1 ∨ (1 ≤ t ∧ t ≤ 1000000) ∨ (1 ≤ t ∧ 1000000 < t) := by omega
      rcases hc with h | ⟨h, h'⟩ | ⟨h, h'⟩
      · rw [show inB t 1 1000000 = false by simp [inB]; omega] at HV
        go_enter Try.func19, Try.ntmps19
        go_wp2_with (go_at_call 58; refine (hk _).mono ?_; rintro e w2 ⟨rfl, hb2⟩; have hlk := HLook.out w2 false hb2; clear q0 q1 q2 q3 q4 qs; obtain ⟨c0, c1, c2, c3, c4, c5, cs⟩ := rcall_next hb2 c0 c1 c2 c3 c4 c5 cs)
        go_ret
        exact ⟨by rw [HV.out]; rfl, HB1.out.trans (hb2.mono HB1.out.size)⟩
      · rw [show inB t 1 1000000 = true from (inB_iff _ _ _).2 ⟨h, h'⟩] at HV
        go_enter Try.func19, Try.ntmps19
        go_wp2_with (go_at_call 58; refine (hk _).mono ?_; rintro e w2 ⟨rfl, hb2⟩; have hlk := HLook.out w2 true hb2; clear q0 q1 q2 q3 q4 qs; obtain ⟨c0, c1, c2, c3, c4, c5, cs⟩ := rcall_next hb2 c0 c1 c2 c3 c4 c5 cs)
        go_ret
        exact ⟨by rw [HV.out]; rfl, HB1.out.trans (hb2.mono HB1.out.size)⟩
      · rw [show inB t 1 1000000 = false by simp [inB]; omega] at HV
        have hd : decide (t ≤ 1000000) = false := by simp; omega
        go_enter Try.func19, Try.ntmps19
        go_wp2_with (go_at_call 58; refine (hk _).mono ?_; rintro e w2 ⟨rfl, hb2⟩; have hlk := HLook.out w2 false hb2; clear q0 q1 q2 q3 q4 qs; obtain ⟨c0, c1, c2, c3, c4, c5, cs⟩ := rcall_next hb2 c0 c1 c2 c3 c4 c5 cs)
        go_ret
        exact ⟨by rw [HV.out]; rfl, HB1.out.trans (hb2.mono HB1.out.size)⟩
  by_cases h45 : k = 4 ∨ k = 5
  · have HV : Hid (E0 = if inB bk 0 ((nH : Int) - 1) then 0 else 5) := HE0.out.trans (callE_bk h45)
    clear HE0 h13 h2
    have hc : bk < 0 ∨ (0 ≤ bk ∧ bk < nH) ∨ (0 ≤ bk ∧ (nH : Int) ≤ bk) := by omega
    rcases hc with h | ⟨h, h'⟩ | ⟨h, h'⟩
    · rw [show inB bk 0 ((nH : Int) - 1) = false by simp [inB]; omega] at HV
      rcases h45 with rfl | rfl
      all_goals
        go_enter Try.func19, Try.ntmps19
        go_wp2
        go_ret
        exact ⟨by rw [HV.out]; rfl, HB1.out⟩
    · rw [show inB bk 0 ((nH : Int) - 1) = true from (inB_iff _ _ _).2 ⟨h, by omega⟩] at HV
      rcases h45 with rfl | rfl
      all_goals
        go_enter Try.func19, Try.ntmps19
        go_wp2
        go_ret
        exact ⟨by rw [HV.out]; rfl, HB1.out⟩
    · rw [show inB bk 0 ((nH : Int) - 1) = false by simp [inB]; omega] at HV
      rcases h45 with rfl | rfl
      all_goals
        go_enter Try.func19, Try.ntmps19
        go_wp2
        go_ret
        exact ⟨by rw [HV.out]; rfl, HB1.out⟩
  by_cases h6 : k = 6
  · subst h6
    have HV : Hid (E0 = if inB sl 0 ((nS : Int) - 1) then 0 else 5) := HE0.out.trans callE_leave
    clear HE0 h13 h2 h45
    have hc : sl < 0 ∨ (0 ≤ sl ∧ sl < nS) ∨ (0 ≤ sl ∧ (nS : Int) ≤ sl) := by omega
    rcases hc with h | ⟨h, h'⟩ | ⟨h, h'⟩
    · rw [show inB sl 0 ((nS : Int) - 1) = false by simp [inB]; omega] at HV
      go_enter Try.func19, Try.ntmps19
      go_wp2
      go_ret
      exact ⟨by rw [HV.out]; rfl, HB1.out⟩
    · rw [show inB sl 0 ((nS : Int) - 1) = true from (inB_iff _ _ _).2 ⟨h, by omega⟩] at HV
      go_enter Try.func19, Try.ntmps19
      go_wp2
      go_ret
      exact ⟨by rw [HV.out]; rfl, HB1.out⟩
    · rw [show inB sl 0 ((nS : Int) - 1) = false by simp [inB]; omega] at HV
      go_enter Try.func19, Try.ntmps19
      go_wp2
      go_ret
      exact ⟨by rw [HV.out]; rfl, HB1.out⟩
  have hno : k < 1 ∨ 6 < k := by omega
  have HV : Hid (E0 = 4) := HE0.out.trans (callE_no hno)
  have e1 : (k == 1) = false := by rw [beq_eq_false_iff_ne]; omega
  have e2 : (k == 2) = false := by rw [beq_eq_false_iff_ne]; omega
  have e3 : (k == 3) = false := by rw [beq_eq_false_iff_ne]; omega
  have e4 : (k == 4) = false := by rw [beq_eq_false_iff_ne]; omega
  have e5 : (k == 5) = false := by rw [beq_eq_false_iff_ne]; omega
  have e6 : (k == 6) = false := by rw [beq_eq_false_iff_ne]; omega
  clear h13 h2 h45 h6 hno HE0
  go_enter Try.func19, Try.ntmps19
  go_wp2
  go_ret
  exact ⟨by rw [HV.out]; rfl, HB1.out⟩

end Go.Proofs.Ytaekgadokcmkfab.mm

/- What a walk carries along: boxes with what lies in them, values that are memory. -/
namespace Go.Proofs.Ytaekgadokcmkfab.mm
open Go.ChangeShapes Go.WideShapes Go.ChangeAt Go.RowKit Go.Joins
set_option linter.unusedVariables false

structure Env (w0 w : World) (L : List (Nat × Obj)) (K : List (Value × Mm)) : Prop where
  bl : Below w0.heap.size w0 w
  box : ∀ p ∈ L, w.heap[p.1]? = some p.2
  mem : ∀ p ∈ K, Ans 0 w p.1 p.2

theorem Env.below {w0 w w' : World} {L : List (Nat × Obj)} {K : List (Value × Mm)} (E : Env w0 w L K) (hb : Below w.heap.size w w') : Env w0 w' L K :=
  ⟨E.bl.trans (hb.mono E.bl.size), fun p hp => (hb.block p.1 (by
    have := E.box p hp
    exact (Array.getElem?_eq_some_iff.1 this).1)).trans (E.box p hp), fun p hp => (E.mem p hp).below hb⟩
theorem Env.alloc {w0 w : World} {L : List (Nat × Obj)} {K : List (Value × Mm)} (E : Env w0 w L K) (o : Obj) : Env w0 (w.alloc o) ((w.heap.size, o) :: L) K := by
  have h := E.below (one_below w o)
  refine ⟨h.bl, fun p hp => ?_, h.mem⟩
  rcases List.mem_cons.1 hp with rfl | hp
  · exact heap_alloc_new w o
  · exact h.box p hp
theorem Env.add {w0 w : World} {L : List (Nat × Obj)} {K : List (Value × Mm)} (E : Env w0 w L K) {v : Value} {M : Mm} {lo : Nat} (h : Ans lo w v M) : Env w0 w L ((v, M) :: K) :=
  ⟨E.bl, E.box, fun p hp => by
    rcases List.mem_cons.1 hp with rfl | hp
    · exact h.mono (Nat.zero_le _)
    · exact E.mem p hp⟩
theorem Env.at {w0 w : World} {L : List (Nat × Obj)} {K : List (Value × Mm)} (E : Env w0 w L K) {B : Nat} {o : Obj} (h : (B, o) ∈ L) : w.heap[B]? = some o := E.box _ h
theorem Env.ans {w0 w : World} {L : List (Nat × Obj)} {K : List (Value × Mm)} (E : Env w0 w L K) {v : Value} {M : Mm} (h : (v, M) ∈ K) : Ans 0 w v M := E.mem _ h
theorem Env.lt {w0 w : World} {L : List (Nat × Obj)} {K : List (Value × Mm)} (E : Env w0 w L K) {B : Nat} {o : Obj} (h : (B, o) ∈ L) : B < w.heap.size := (Array.getElem?_eq_some_iff.1 (E.box _ h)).1

/- A value that is memory, written out. -/
theorem Ans.form {lo : Nat} {w : World} {v : Value} {M : Mm} (h : Ans lo w v M) : ∃ aS aH aF aL cS cH cF cL, v = .agg #[.slice aS M.slots.length cS, .slice aH M.heads.length cH, .slice aF M.free.length cF, .slice aL M.locks.length cL, .int .i64 M.now] := by
  obtain ⟨aS, aH, aF, aL, cS, cH, cF, cL, e, -, -⟩ := h
  exact ⟨aS, aH, aF, aL, cS, cH, cF, cL, e⟩
theorem Rw.ans {w : World} {lo : Nat} {aS aH aF aL : Option Addr} {cS cH cF cL : Nat} {M : Mm} (r : Rw w lo aS aH aF aL cS cH cF cL M)
    (m1 : M.slots.length * 48 ≤ 140737488351232) (m2 : M.heads.length * 8 ≤ 140737488351232) (m3 : M.free.length * 8 ≤ 140737488351232) (m4 : M.locks.length * 8 ≤ 140737488351232) :
    Ans lo w (.agg #[.slice aS M.slots.length cS, .slice aH M.heads.length cH, .slice aF M.free.length cF, .slice aL M.locks.length cL, .int .i64 M.now]) M :=
  ⟨aS, aH, aF, aL, cS, cH, cF, cL, rfl, r.at m1 m2 m3 m4, r.hi⟩
theorem Ans.at_ {lo : Nat} {w : World} {aS aH aF aL : Option Addr} {cS cH cF cL : Nat} {M : Mm} (h : Ans lo w (.agg #[.slice aS M.slots.length cS, .slice aH M.heads.length cH, .slice aF M.free.length cF, .slice aL M.locks.length cL, .int .i64 M.now]) M) : At w aS aH aF aL cS cH cF cL M := by
  obtain ⟨aS', aH', aF', aL', cS', cH', cF', cL', e, A, -⟩ := h
  simp only [Value.agg.injEq, Array.mk.injEq, List.cons.injEq, Value.slice.injEq, true_and, and_true] at e
  obtain ⟨⟨rfl, rfl⟩, ⟨rfl, rfl⟩, ⟨rfl, rfl⟩, rfl, rfl⟩ := e
  exact A
theorem Rw.alloc {w : World} {lo : Nat} {aS aH aF aL : Option Addr} {cS cH cF cL : Nat} {M : Mm} (r : Rw w lo aS aH aF aL cS cH cF cL M) (o : Obj) : Rw (w.alloc o) lo aS aH aF aL cS cH cF cL M := r.below (one_below w o)

/- Memory of one's own, in the box that was just made. -/
theorem Mine.made {w : World} {lo : Nat} {aS aH aF aL : Option Addr} {cS cH cF cL : Nat} {M : Mm} (r : Rw w lo aS aH aF aL cS cH cF cL M)
    (m1 : M.slots.length * 48 ≤ 140737488351232) (m2 : M.heads.length * 8 ≤ 140737488351232) (m3 : M.free.length * 8 ≤ 140737488351000) (m4 : M.locks.length * 8 ≤ 140737488351232) :
    Mine (w.alloc (.cells #[.slice aS M.slots.length cS, .slice aH M.heads.length cH, .slice aF M.free.length cF, .slice aL M.locks.length cL, .int .i64 M.now] 25)) w.heap.size lo aS aH aF aL cS cH cF cL M :=
  ⟨heap_alloc_new _ _, r.alloc _, m1, m2, m3, m4⟩
/- .. or stored into an elder one. -/
theorem Mine.stored {w : World} {lo B : Nat} {aS aH aF aL : Option Addr} {cS cH cF cL : Nat} {M : Mm} {u0 u1 u2 u3 u4 : Value} (r : Rw w lo aS aH aF aL cS cH cF cL M) (hB : w.heap[B]? = some (.cells #[u0, u1, u2, u3, u4] 25 (0, 0)))
    (m1 : M.slots.length * 48 ≤ 140737488351232) (m2 : M.heads.length * 8 ≤ 140737488351232) (m3 : M.free.length * 8 ≤ 140737488351000) (m4 : M.locks.length * 8 ≤ 140737488351232) :
    Mine (set5 w B (.slice aS M.slots.length cS) (.slice aH M.heads.length cH) (.slice aF M.free.length cF) (.slice aL M.locks.length cL) (.int .i64 M.now)) B lo aS aH aF aL cS cH cF cL M :=
  ⟨set5_block hB _ _ _ _ _, r.set5 hB _ _ _ _ _, m1, m2, m3, m4⟩
theorem Mine.ans {w : World} {B lo : Nat} {aS aH aF aL : Option Addr} {cS cH cF cL : Nat} {M : Mm} (m : Mine w B lo aS aH aF aL cS cH cF cL M) :
    Ans lo w (.agg #[.slice aS M.slots.length cS, .slice aH M.heads.length cH, .slice aF M.free.length cF, .slice aL M.locks.length cL, .int .i64 M.now]) M :=
  m.c.ans m.m1 m.m2 (by have := m.m3; omega) m.m4


end Go.Proofs.Ytaekgadokcmkfab.mm
