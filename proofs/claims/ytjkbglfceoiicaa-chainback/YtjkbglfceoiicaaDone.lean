/- hold and put on memory of one's own, as what they make of it; how many slots are free at most. -/
import Derived.Test.YtjkbglfceoiicaaHold
namespace Go.Proofs.Ytjkbglfceoiicaa.mm
open Go.ChangeShapes Go.WideShapes Go.ChangeAt Go.RowKit Go.Joins
set_option linter.unusedVariables false

theorem few : ∀ (n : Nat) (l : List Int), l.Nodup → (∀ a ∈ l, 0 ≤ a ∧ a < n) → l.length ≤ n
  | 0, l, hn, h => by
    match l, h with
    | [], _ => simp
    | a :: _, h => have := h a (by simp); omega
  | n + 1, l, hn, h => by
    have h1 := few n (l.erase (n : Int)) (hn.erase _) (fun a ha => by
      have h3 := (hn.mem_erase_iff).1 ha
      have h4 := h a h3.2
      have h5 := h3.1
      omega)
    rw [List.length_erase] at h1
    split at h1 <;> omega

theorem Ok.few {m : Mm} (h : Ok m) : m.free.length ≤ 12 := by
  have := mm.few m.slots.length m.free h.nodup (fun a ha => by
    have := (freeOk_iff _ _).1 (h.free a ha)
    omega)
  have := h.ns
  omega

theorem hold_fail (M : Mm) (w : World) (B lo gS gH gF gL : Nat) (i : Int) (m : Mine w B lo gS gH gF gL M) (h0 : 0 ≤ i) (h1 : i < M.slots.length) (hr : refsM M i = 0 ∨ refsM M i = 1000) :
    Calls Try.prog 65 #[.pointer (some ⟨B, 0, none⟩), .int .i64 i] w fun e w' => e = .returned (.bool false) ∧ w = w' := by
  obtain ⟨j, rfl⟩ : ∃ j : Nat, i = j := ⟨i.toNat, by omega⟩
  have hj : j < M.slots.length := by omega
  have hrr : refsM M j = M.slots[j].refs := by simp [refsM, List.getD_eq_getElem?_getD, hj]
  rw [hrr] at hr
  exact hold_no w B gS _ j _ _ _ _ _ m.box hj (slot_cells m.c.s hj).1 hr

theorem put_fail (M : Mm) (w : World) (B lo gS gH gF gL : Nat) (i : Int) (m : Mine w B lo gS gH gF gL M) (h0 : 0 ≤ i) (h1 : i < M.slots.length) (hr : refsM M i = 0) :
    Calls Try.prog 66 #[.pointer (some ⟨B, 0, none⟩), .int .i64 i] w fun e w' => e = .returned (.bool false) ∧ w = w' := by
  obtain ⟨j, rfl⟩ : ∃ j : Nat, i = j := ⟨i.toNat, by omega⟩
  have hj : j < M.slots.length := by omega
  have hrr : refsM M j = M.slots[j].refs := by simp [refsM, List.getD_eq_getElem?_getD, hj]
  rw [hrr] at hr
  exact put_no w B gS _ j _ _ _ _ m.box hj (hr ▸ (slot_cells m.c.s hj).1)

theorem setRefs_at (M : Mm) (j : Nat) (hj : j < M.slots.length) (r : Int) : setRefs M j r = M.slots.set j { M.slots[j] with refs := r } := by
  simp [setRefs, List.getD_eq_getElem?_getD, hj]

/- A slot's Refs are turned, nothing else. -/
theorem turned {M : Mm} {w : World} {B lo gS gH gF gL j : Nat} (m : Mine w B lo gS gH gF gL M) (hj : j < M.slots.length) (r : Int) (S' : List Sl) (hS : setRefs M j r = S') :
    Done w (w.setCell ⟨gS, j * 6, none⟩ (.int .i64 r)) B lo { M with slots := S' } := by
  rw [setRefs_at M j hj r] at hS
  subst hS
  obtain ⟨S, H, F, L, now⟩ := M
  obtain ⟨hB, ⟨o1, o2, o3, o4, s, h, f, l⟩, lt, m1, m2, m3, m4⟩ := m
  dsimp only at hB s h f l m1 m2 m3 m4 hj ⊢
  have ks := set1_block s hj r
  have kk : ∀ k, k ≠ gS → (w.setCell ⟨gS, j * 6, none⟩ (.int .i64 r)).heap[k]? = w.heap[k]? := fun k h1 => Below.heap_setCell _ _ _ _ (by dsimp only; exact h1)
  have kd : Below 0 w (w.setCell ⟨gS, j * 6, none⟩ (.int .i64 r)) := (Below.refl 0 w).setCell (Nat.zero_le _) _
  refine ⟨some ⟨gS, 0, none⟩, some ⟨gH, 0, none⟩, some ⟨gF, 0, none⟩, some ⟨gL, 0, none⟩, S.length, H.length, F.length, L.length, ?_⟩
  dsimp only
  rw [List.length_set]
  refine ⟨(kk B (by omega)).trans hB, ⟨?_, .of_block ((kk gH (by omega)).trans h) m2, .of_block ((kk gF (by omega)).trans f) (by omega), .of_block ((kk gL (by omega)).trans l) m4⟩, ⟨kd.os, kd.tape, kd.output, kd.size, fun k h1 h2 => kk k (by omega)⟩, ⟨hi_some o1, hi_some (by omega), hi_some (by omega), hi_some (by omega)⟩⟩
  have := SRow.of_block ks (by rw [List.length_set]; exact m1)
  rwa [List.length_set] at this

theorem hold_done (M : Mm) (w : World) (B lo gS gH gF gL : Nat) (i : Int) (m : Mine w B lo gS gH gF gL M) (h0 : 0 ≤ i) (h1 : i < M.slots.length) (hr : 0 < refsM M i) (hr1 : refsM M i < 1000) :
    Calls Try.prog 65 #[.pointer (some ⟨B, 0, none⟩), .int .i64 i] w fun e w' => e = .returned (.bool true) ∧ Done w w' B lo (holdM M i) := by
  obtain ⟨j, rfl⟩ : ∃ j : Nat, i = j := ⟨i.toNat, by omega⟩
  have hj : j < M.slots.length := by omega
  have hrr : refsM M j = M.slots[j].refs := by simp [refsM, List.getD_eq_getElem?_getD, hj]
  rw [hrr] at hr hr1
  refine (hold_yes w B gS _ j _ _ _ _ _ m.box hj (slot_cells m.c.s hj).1 (unfrozen_of_block m.c.s _) hr hr1).mono ?_
  rintro e w' ⟨rfl, rfl⟩
  exact ⟨rfl, turned m hj _ _ (by rw [hrr])⟩

theorem put_done (M : Mm) (w : World) (B lo gS gH gF gL : Nat) (i : Int) (m : Mine w B lo gS gH gF gL M) (h0 : 0 ≤ i) (h1 : i < M.slots.length) (hr : 0 < refsM M i) (hr1 : refsM M i ≤ 1000) :
    Calls Try.prog 66 #[.pointer (some ⟨B, 0, none⟩), .int .i64 i] w fun e w' => e = .returned (.bool true) ∧ Done w w' B lo (putM M i) := by
  obtain ⟨j, rfl⟩ : ∃ j : Nat, i = j := ⟨i.toNat, by omega⟩
  have hj : j < M.slots.length := by omega
  have hrr : refsM M j = M.slots[j].refs := by simp [refsM, List.getD_eq_getElem?_getD, hj]
  by_cases hl : refsM M j = 1
  · have hl' := hrr.symm.trans hl
    refine (put_last w B gS gF _ j lo M.free _ _ _ m.box hj (hl' ▸ (slot_cells m.c.s hj).1) (unfrozen_of_block m.c.s _) m.lt m.c.o1 (by have := m.c.o2; have := m.c.o3; omega) m.c.f m.m3).mono ?_
    rintro e w' ⟨rfl, v, w1, hg, ho, rfl⟩
    refine ⟨rfl, ?_⟩
    have e1 : putM M j = { M with slots := setRefs M j 0, free := M.free ++ [(j : Int)] } := by simp [putM, hl]
    rw [e1]
    obtain ⟨S, H, F, L, now⟩ := M
    have hlen : (F ++ [(j : Int)]).length = F.length + 1 := by simp
    obtain ⟨aF, cF, rfl, rF⟩ := IRow.of_own ho (by have := m.m3; dsimp only at this ⊢; rw [hlen]; omega)
    have hsr := setRefs_at ⟨S, H, F, L, now⟩ j hj 0
    rw [hsr]
    obtain ⟨hB, ⟨o1, o2, o3, o4, s, h, f, l⟩, lt, m1, m2, m3, m4⟩ := m
    dsimp only at hB s h f l m1 m2 m3 m4 hj rF hg ⊢
    have ks := set1_block s hj 0
    have zz : w.heap.size ≤ w1.heap.size := by have := hg.size; rwa [World.size_setCell] at this
    have k1 : ∀ k, k < w.heap.size → k ≠ gS → k ≠ gF → w1.heap[k]? = w.heap[k]? := fun k h1 h2 h3 => by
      rw [hg.block k (by rw [World.size_setCell]; exact h1) (by intro h; injection h with h; exact h3 h), Below.heap_setCell _ _ _ _ (by dsimp only; exact h2)]
    have zS := lt_of_block s
    have zB := lt_of_block hB
    have zH := lt_of_block h
    have zL := lt_of_block l
    have kS : w1.heap[gS]? = _ := (hg.block gS (by rw [World.size_setCell]; exact zS) (by intro h; injection h with h; omega)).trans ks
    have kB := (k1 B zB (by omega) (by omega)).trans hB
    have kk : ∀ k, k ≠ B → (w1.setCell ⟨B, 2, none⟩ (.slice aF (F ++ [(j : Int)]).length cF)).heap[k]? = w1.heap[k]? := fun k h1 => Below.heap_setCell _ _ _ _ (by dsimp only; exact h1)
    have hiF : ∀ ad, aF = some ad → lo ≤ ad.block := by
      rintro ad rfl
      have := ho.lt ad.block rfl
      omega
    refine ⟨some ⟨gS, 0, none⟩, some ⟨gH, 0, none⟩, aF, some ⟨gL, 0, none⟩, S.length, H.length, cF, L.length, ?_⟩
    rw [List.length_set]
    refine ⟨?_, ⟨?_, .of_block ((kk gH (by omega)).trans ((k1 gH zH (by omega) (by omega)).trans h)) m2, ?_, .of_block ((kk gL (by omega)).trans ((k1 gL zL (by omega) (by omega)).trans l)) m4⟩, ⟨hg.os, hg.tape, hg.output, by rw [World.size_setCell]; exact zz, fun k h1 h2 => (kk k h2).trans (k1 k (by omega) (by omega) (by omega))⟩, ⟨hi_some o1, hi_some (by omega), hiF, hi_some (by omega)⟩⟩
    · have := block_setCell (i := 2) kB (.slice aF (F ++ [(j : Int)]).length cF)
      simpa using this
    · have := SRow.of_block ((kk gS (by omega)).trans kS) (by rw [List.length_set]; exact m1)
      rwa [List.length_set] at this
    · refine ⟨rF.le, rF.max, rF.nil, ?_⟩
      rcases rF.at_ with h0 | ⟨b, o, rfl, hc⟩
      · exact .inl h0
      · refine .inr ⟨b, o, rfl, fun i hi => ?_⟩
        have hne : b ≠ B := by
          rintro rfl
          have := ho.lt b rfl
          omega
        exact (World.cell?_of_block (a := ⟨b, o + i, none⟩) (kk b hne)).trans (hc i hi)
  · have hr2 : 1 < M.slots[j].refs := by omega
    refine (put_more w B gS _ j _ _ _ _ _ m.box hj (slot_cells m.c.s hj).1 (unfrozen_of_block m.c.s _) hr2 (by omega)).mono ?_
    rintro e w' ⟨rfl, rfl⟩
    refine ⟨rfl, ?_⟩
    have e1 : putM M j = { M with slots := setRefs M j (refsM M j - 1) } := by simp [putM, hl]
    rw [e1]
    exact turned m hj _ _ (by rw [hrr])
end Go.Proofs.Ytjkbglfceoiicaa.mm
