/- Plain facts on the texts of keys: what is written is read again, and as it was. No program in this text. -/
import Derived.Lib.ItoaNum
import Derived.Lib.ItoaMem
import Derived.Lib.ItoaLen
import Derived.Lib.AtoiAll
import Derived.Lib.IndexMore
import Derived.Lib.CutLaws
namespace Go.Proofs.YtdbilofhcadmoaaDoor.pure
open Go Go.Lib

/-- A key's text. -/
def wr (a b : Int) : List UInt8 := itoa a ++ 62 :: itoa b

/-- What the number of a text is, if it is one. -/
def num (l : List UInt8) : Option Int :=
  match atoiAll l with
  | .ok v => some v
  | _ => none

/-- What a text reads as. -/
def rd (l : List UInt8) : Option (Int × Int) :=
  match num (cut l [62]).1, num (cut l [62]).2.1 with
  | some a, some b => if wr a b = l then some (a, b) else none
  | _, _ => none

def digs (n : Nat) : List UInt8 := if n < 10 then [UInt8.ofNat (48 + n)] else [UInt8.ofNat (48 + n / 10), UInt8.ofNat (48 + n % 10)]

theorem itoa_digs (n : Nat) (h : n < 100) : itoa (n : Int) = digs n := by
  rw [itoa_nonneg]
  unfold digs
  by_cases h1 : n < 10
  · rw [if_pos h1, decDigits_one h1]
  · rw [if_neg h1, decDigits_two h1 h]

theorem num_digs : ∀ a : Fin 16, num (digs a.val) = some (a.val : Int) := by decide +kernel
theorem cut_digs : ∀ a b : Fin 16, cut (digs a.val ++ 62 :: digs b.val) [62] = (digs a.val, digs b.val, true) := by decide +kernel

theorem rd_wr (a b : Int) (h0 : 0 ≤ a) (h1 : a ≤ 15) (h2 : 0 ≤ b) (h3 : b ≤ 15) : rd (wr a b) = some (a, b) := by
  obtain ⟨m, rfl⟩ := Int.eq_ofNat_of_zero_le h0
  obtain ⟨n, rfl⟩ := Int.eq_ofNat_of_zero_le h2
  have hm : m < 16 := by omega
  have hn : n < 16 := by omega
  have e : wr (m : Int) (n : Int) = digs m ++ 62 :: digs n := by unfold wr; rw [itoa_digs m (by omega), itoa_digs n (by omega)]
  have c := cut_digs ⟨m, hm⟩ ⟨n, hn⟩
  have x := num_digs ⟨m, hm⟩
  have y := num_digs ⟨n, hn⟩
  simp only at c x y
  unfold rd
  rw [e, c]
  simp only
  rw [x, y]
  simp only
  rw [if_pos e]

theorem rd_some {l : List UInt8} {a b : Int} (h : rd l = some (a, b)) : wr a b = l := by
  unfold rd at h
  split at h
  · split at h
    · rename_i hw
      simp only [Option.some.injEq, Prod.mk.injEq] at h
      obtain ⟨rfl, rfl⟩ := h
      exact hw
    · cases h
  · cases h

theorem wr_inj {a b c d : Int} (h0 : 0 ≤ a) (h1 : a ≤ 15) (h2 : 0 ≤ b) (h3 : b ≤ 15) (k0 : 0 ≤ c) (k1 : c ≤ 15) (k2 : 0 ≤ d) (k3 : d ≤ 15) (h : wr a b = wr c d) : a = c ∧ b = d := by
  have x := rd_wr a b h0 h1 h2 h3
  have y := rd_wr c d k0 k1 k2 k3
  rw [h, y] at x
  simp only [Option.some.injEq, Prod.mk.injEq] at x
  exact ⟨x.1.symm, x.2.symm⟩

theorem wr_len (a b : Int) (h0 : 0 ≤ a) (h1 : a ≤ 15) (h2 : 0 ≤ b) (h3 : b ≤ 15) : (wr a b).length ≤ 5 := by
  obtain ⟨m, rfl⟩ := Int.eq_ofNat_of_zero_le h0
  obtain ⟨n, rfl⟩ := Int.eq_ofNat_of_zero_le h2
  have l : ∀ n : Nat, n < 100 → (digs n).length ≤ 2 := fun n h => by unfold digs; split <;> simp
  unfold wr
  rw [itoa_digs m (by omega), itoa_digs n (by omega)]
  have := l m (by omega)
  have := l n (by omega)
  simp
  omega
end Go.Proofs.YtdbilofhcadmoaaDoor.pure
