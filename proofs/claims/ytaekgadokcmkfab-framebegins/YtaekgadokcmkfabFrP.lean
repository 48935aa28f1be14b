/- Calls and frames as plain data: what CheckCall and Check tell, in which chain a call is done. -/
import Derived.Test.YtaekgadokcmkfabPureC
namespace Go.Proofs.Ytaekgadokcmkfab.mm

structure Cl where
  kind : Int
  a : Int
  b : Int
  time : Int
  bk : Int
  slot : Int

structure Fr where
  c : Cl
  pl : Int
  cur : Int
  prev : Int
  slot : Int
  n : Int
  keys : List (Int × Int)
  done : Bool
  e : Int

def callE (nS nH : Nat) (c : Cl) : Int :=
  if c.kind = 1 ∨ c.kind = 3 then (if keyB c.a c.b then 0 else 3)
  else if c.kind = 2 then (if inB c.time 1 1000000 && keyB c.a c.b then 0 else 3)
  else if c.kind = 4 ∨ c.kind = 5 then (if inB c.bk 0 ((nH : Int) - 1) then 0 else 5)
  else if c.kind = 6 then (if inB c.slot 0 ((nS : Int) - 1) then 0 else 5)
  else 4

def frE (nS nH : Nat) (f : Fr) : Int :=
  if callE nS nH f.c ≠ 0 then callE nS nH f.c
  else if inB f.pl 0 9 = false ∨ inB f.n 0 1000000 = false ∨ f.done = true then 3
  else if inB f.cur (-(nH : Int)) nS = false ∨ inB f.prev 0 nS = false ∨ inB f.slot (-1) ((nS : Int) - 1) = false then 5
  else if 100 < f.keys.length then 2 else 0

def bkOf (nH : Nat) (c : Cl) : Int :=
  if c.kind = 4 ∨ c.kind = 5 then c.bk
  else if keyB c.a c.b then (if 1 ≤ nH ∧ nH ≤ 4 then bucket c.a c.b nH else 0) else 0

def newF (c : Cl) : Fr := ⟨c, 0, 0, 0, -1, 0, [], false, 0⟩
def endF (f : Fr) (e : Int) : Fr := { f with done := true, e := e }

theorem callE_key {nS nH : Nat} {k a b t bk sl : Int} (h : k = 1 ∨ k = 3) : callE nS nH ⟨k, a, b, t, bk, sl⟩ = if keyB a b then 0 else 3 := by
  unfold callE; rw [if_pos h]
theorem callE_add {nS nH : Nat} {a b t bk sl : Int} : callE nS nH ⟨2, a, b, t, bk, sl⟩ = if inB t 1 1000000 && keyB a b then 0 else 3 := by
  unfold callE; rw [if_neg (by simp), if_pos rfl]
theorem callE_bk {nS nH : Nat} {k a b t bk sl : Int} (h : k = 4 ∨ k = 5) : callE nS nH ⟨k, a, b, t, bk, sl⟩ = if inB bk 0 ((nH : Int) - 1) then 0 else 5 := by
  unfold callE; rw [if_neg (by dsimp only; omega), if_neg (by dsimp only; omega), if_pos h]
theorem callE_leave {nS nH : Nat} {a b t bk sl : Int} : callE nS nH ⟨6, a, b, t, bk, sl⟩ = if inB sl 0 ((nS : Int) - 1) then 0 else 5 := by
  unfold callE; rw [if_neg (by simp), if_neg (by simp), if_neg (by simp), if_pos rfl]
theorem callE_no {nS nH : Nat} {k a b t bk sl : Int} (h : k < 1 ∨ 6 < k) : callE nS nH ⟨k, a, b, t, bk, sl⟩ = 4 := by
  unfold callE; rw [if_neg (by dsimp only; omega), if_neg (by dsimp only; omega), if_neg (by dsimp only; omega), if_neg (by dsimp only; omega)]

end Go.Proofs.Ytaekgadokcmkfab.mm
