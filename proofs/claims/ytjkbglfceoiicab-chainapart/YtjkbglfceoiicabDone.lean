/- hold and put on memory of one's own, as what they make of it; how many slots are free at most. -/
import Derived.Test.YtjkbglfceoiicabHold
namespace Go.Proofs.Ytjkbglfceoiicab.mm
open Go.ChangeShapes Go.WideShapes Go.ChangeAt Go.RowKit Go.Joins
set_option linter.unusedVariables false

theorem few : ∀ (n : Nat) (l : List Int), l.Nodup → (∀ a ∈ l, 0 ≤ a ∧ a < n) → l.length ≤ n
  | 0, l, hn, h => by
    match l, h with
    | [], _ => simp
    | a :: _, h => have := h a (by simp); omega
  | n + 1, l, hn, h => by
    have h1 := few n (l.erase (n : Int)) (hn.erase _) (fun a ha => by
      have h3 := (hn.mem_erase_iff).1 ha
      have h4 := h a h3.2
      have h5 := h3.1
      omega)
    rw [List.length_erase] at h1
    split at h1 <;> omega

theorem Ok.few {m : Mm} (h : Ok m) : m.free.length ≤ 12 := by
  have := mm.few m.slots.length m.free h.nodup (fun a ha => by
    have := (freeOk_iff _ _).1 (h.free a ha)
    omega)
  have := h.ns
  omega

theorem setRefs_at (M : Mm) (j : Nat) (hj : j < M.slots.length) (r : Int) : setRefs M j r = M.slots.set j { M.slots[j] with refs := r } := by
  simp [setRefs, List.getD_eq_getElem?_getD, hj]

/- A slot's Refs are turned, nothing else. -/
theorem turned {M : Mm} {w : World} {B lo gS gH gF gL j : Nat} (m : Mine w B lo gS gH gF gL M) (hj : j < M.slots.length) (r : Int) (S' : List Sl) (hS : setRefs M j r = S') :
    Done w (w.setCell ⟨gS, j * 6, none⟩ (.int .i64 r)) B lo { M with slots := S' } := by
  rw [setRefs_at M j hj r] at hS
  subst hS
  obtain ⟨S, H, F, L, now⟩ := M
  obtain ⟨hB, ⟨o1, o2, o3, o4, s, h, f, l⟩, lt, m1, m2, m3, m4⟩ := m
  dsimp only at hB s h f l m1 m2 m3 m4 hj ⊢
  have ks := set1_block s hj r
  have kk : ∀ k, k ≠ gS → (w.setCell ⟨gS, j * 6, none⟩ (.int .i64 r)).heap[k]? = w.heap[k]? := fun k h1 => Below.heap_setCell _ _ _ _ (by dsimp only; exact h1)
  have kd : Below 0 w (w.setCell ⟨gS, j * 6, none⟩ (.int .i64 r)) := (Below.refl 0 w).setCell (Nat.zero_le _) _
  refine ⟨some ⟨gS, 0, none⟩, some ⟨gH, 0, none⟩, some ⟨gF, 0, none⟩, some ⟨gL, 0, none⟩, S.length, H.length, F.length, L.length, ?_⟩
  dsimp only
  rw [List.length_set]
  refine ⟨(kk B (by omega)).trans hB, ⟨?_, .of_block ((kk gH (by omega)).trans h) m2, .of_block ((kk gF (by omega)).trans f) (by omega), .of_block ((kk gL (by omega)).trans l) m4⟩, ⟨kd.os, kd.tape, kd.output, kd.size, fun k h1 h2 => kk k (by omega)⟩, ⟨hi_some o1, hi_some (by omega), hi_some (by omega), hi_some (by omega)⟩⟩
  have := SRow.of_block ks (by rw [List.length_set]; exact m1)
  rwa [List.length_set] at this

end Go.Proofs.Ytjkbglfceoiicab.mm
