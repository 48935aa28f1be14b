/- How many slots are free at most. -/
import Derived.Test.YtdbilofhcadmoaaHold
namespace Go.Proofs.Ytdbilofhcadmoaa.mm
open Go.ChangeShapes Go.WideShapes Go.ChangeAt Go.RowKit Go.Joins
set_option linter.unusedVariables false

theorem few : ∀ (n : Nat) (l : List Int), l.Nodup → (∀ a ∈ l, 0 ≤ a ∧ a < n) → l.length ≤ n
  | 0, l, hn, h => by
    match l, h with
    | [], _ => simp
    | a :: _, h => have := h a (by simp); omega
  | n + 1, l, hn, h => by
    have h1 := few n (l.erase (n : Int)) (hn.erase _) (fun a ha => by
      have h3 := (hn.mem_erase_iff).1 ha
      have h4 := h a h3.2
      have h5 := h3.1
      omega)
    rw [List.length_erase] at h1
    split at h1 <;> omega

theorem Ok.few {m : Mm} (h : Ok m) : m.free.length ≤ 12 := by
  have := mm.few m.slots.length m.free h.nodup (fun a ha => by
    have := (freeOk_iff _ _).1 (h.free a ha)
    omega)
  have := h.ns
  omega



end Go.Proofs.Ytdbilofhcadmoaa.mm
