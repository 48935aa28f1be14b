/- Calls and frames as plain data: what CheckCall and Check tell, in which chain a call is done. -/
import Derived.Test.YtdbilofhcadmoabEc01
import Derived.Test.YtdbilofhcadmoabEc02
import Derived.Deep.QuietTactic
import Derived.BigQuiet
import Derived.Laws.StructEq
import Derived.Test.YtdbilofhcadmoabEc04
import Derived.Test.YtdbilofhcadmoabEc05
import Derived.Carry
namespace Go.Proofs.Ytdbilofhcadmoab.mm

structure Cl where
  kind : Int
  a : Int
  b : Int
  time : Int
  bk : Int
  slot : Int

structure Fr where
  c : Cl
  pl : Int
  cur : Int
  prev : Int
  slot : Int
  n : Int
  keys : List (Int × Int)
  done : Bool
  e : Int

def callE (nS nH : Nat) (c : Cl) : Int :=
  if c.kind = 1 ∨ c.kind = 3 then (if keyB c.a c.b then 0 else 3)
  else if c.kind = 2 then (if inB c.time 1 1000000 && keyB c.a c.b then 0 else 3)
  else if c.kind = 4 ∨ c.kind = 5 then (if inB c.bk 0 ((nH : Int) - 1) then 0 else 5)
  else if c.kind = 6 then (if inB c.slot 0 ((nS : Int) - 1) then 0 else 5)
  else 4

def frE (nS nH : Nat) (f : Fr) : Int :=
  if callE nS nH f.c ≠ 0 then callE nS nH f.c
  else if inB f.pl 0 9 = false ∨ inB f.n 0 1000000 = false ∨ f.done = true then 3
  else if inB f.cur (-(nH : Int)) nS = false ∨ inB f.prev 0 nS = false ∨ inB f.slot (-1) ((nS : Int) - 1) = false then 5
  else if 100 < f.keys.length then 2 else 0

def bkOf (nH : Nat) (c : Cl) : Int :=
  if c.kind = 4 ∨ c.kind = 5 then c.bk
  else if keyB c.a c.b then (if 1 ≤ nH ∧ nH ≤ 4 then bucket c.a c.b nH else 0) else 0

def newF (c : Cl) : Fr := ⟨c, 0, 0, 0, -1, 0, [], false, 0⟩
def endF (f : Fr) (e : Int) : Fr := { f with done := true, e := e }

theorem callE_key {nS nH : Nat} {k a b t bk sl : Int} (h : k = 1 ∨ k = 3) : callE nS nH ⟨k, a, b, t, bk, sl⟩ = if keyB a b then 0 else 3 := by
  unfold callE; rw [if_pos h]
theorem callE_add {nS nH : Nat} {a b t bk sl : Int} : callE nS nH ⟨2, a, b, t, bk, sl⟩ = if inB t 1 1000000 && keyB a b then 0 else 3 := by
  unfold callE; rw [if_neg (by simp), if_pos rfl]
theorem callE_bk {nS nH : Nat} {k a b t bk sl : Int} (h : k = 4 ∨ k = 5) : callE nS nH ⟨k, a, b, t, bk, sl⟩ = if inB bk 0 ((nH : Int) - 1) then 0 else 5 := by
  unfold callE; rw [if_neg (by dsimp only; omega), if_neg (by dsimp only; omega), if_pos h]
theorem callE_leave {nS nH : Nat} {a b t bk sl : Int} : callE nS nH ⟨6, a, b, t, bk, sl⟩ = if inB sl 0 ((nS : Int) - 1) then 0 else 5 := by
  unfold callE; rw [if_neg (by simp), if_neg (by simp), if_neg (by simp), if_pos rfl]
theorem callE_no {nS nH : Nat} {k a b t bk sl : Int} (h : k < 1 ∨ 6 < k) : callE nS nH ⟨k, a, b, t, bk, sl⟩ = 4 := by
  unfold callE; rw [if_neg (by dsimp only; omega), if_neg (by dsimp only; omega), if_neg (by dsimp only; omega), if_neg (by dsimp only; omega)]




end Go.Proofs.Ytdbilofhcadmoab.mm

/- A Look as plain data: what a step does and what it leaves. -/
namespace Go.Proofs.Ytdbilofhcadmoab.mm
set_option linter.unusedVariables false

def toF (f : Fr) (n : Int) : Fr := { f with pl := n }
def curF (f : Fr) (c n : Int) : Fr := { f with cur := c, pl := n }
def handF (f : Fr) (s n : Int) : Fr := { f with slot := s, pl := n }
def isAt (M : Mm) (f : Fr) : Bool := inB f.cur 1 M.slots.length
def lkK (s : Sl) (f : Fr) : Bool := s.a == f.c.a && s.b == f.c.b
def putN (M : Mm) (a : Int) : Mm := if refsM M a = 0 then M else putM M a
def canH (M : Mm) (a : Int) : Bool := decide (0 < refsM M a) && decide (refsM M a < 1000)
def holdN (M : Mm) (a : Int) : Mm := if canH M a then holdM M a else M

def lkBegin (M : Mm) (f : Fr) : Fr := curF f (headM M (bkOf M.heads.length f.c).toNat) 1
def lkSee (M : Mm) (f : Fr) : Fr :=
  if f.cur = -1 - bkOf M.heads.length f.c then endF f 5
  else if isAt M f then toF f (if lkK (slotAt M (f.cur - 1)) f then 3 else 2) else toF f 0
def lkPass (M : Mm) (f : Fr) : Fr := if isAt M f then curF f (slotAt M (f.cur - 1)).next 1 else toF f 0
def lkHold (M : Mm) (f : Fr) : Fr := if isAt M f && canH M (f.cur - 1) then handF f (f.cur - 1) 4 else toF f 0
def lkHoldM (M : Mm) (f : Fr) : Mm := if isAt M f then holdN M (f.cur - 1) else M
def lkProve (M : Mm) (f : Fr) : Fr :=
  if isSl M f.slot then
    (if lkK (slotAt M f.slot) f && (slotAt M f.slot).inn then (if M.now < (slotAt M f.slot).unt then endF f 0 else toF f 6) else toF f 5)
  else toF f 0
def lkLetM (M : Mm) (f : Fr) : Mm := if isSl M f.slot then putN M f.slot else M
def lkStray (M : Mm) (f : Fr) : Fr := if isSl M f.slot then handF f (-1) 0 else toF f 0
def lkOver (M : Mm) (f : Fr) : Fr := if isSl M f.slot then endF { f with slot := -1 } 5 else toF f 0

def lkF (M : Mm) (f : Fr) : Fr :=
  if f.pl = 0 then lkBegin M f else if f.pl = 1 then lkSee M f else if f.pl = 2 then lkPass M f else if f.pl = 3 then lkHold M f
  else if f.pl = 4 then lkProve M f else if f.pl = 5 then lkStray M f else if f.pl = 6 then lkOver M f else toF f 0
def lkM (M : Mm) (f : Fr) : Mm :=
  if f.pl = 3 then lkHoldM M f else if f.pl = 5 then lkLetM M f else if f.pl = 6 then lkLetM M f else M

/- A frame whose call can go on. -/
structure Fit (M : Mm) (f : Fr) : Prop where
  call : callE M.slots.length M.heads.length f.c = 0
  pl : 0 ≤ f.pl ∧ f.pl ≤ 9
  n : inB f.n 0 1000000 = true
  done : f.done = false
  cur : -(M.heads.length : Int) ≤ f.cur ∧ f.cur ≤ M.slots.length
  prev : 0 ≤ f.prev ∧ f.prev ≤ M.slots.length
  slot : -1 ≤ f.slot ∧ f.slot < M.slots.length
  keys : f.keys.length ≤ 100

theorem fit_iff {M : Mm} {f : Fr} : frE M.slots.length M.heads.length f = 0 ↔ Fit M f := by
  constructor
  · intro h
    unfold frE at h
    by_cases h1 : callE M.slots.length M.heads.length f.c = 0
    · rw [if_neg (by simpa using h1)] at h
      by_cases h2 : inB f.pl 0 9 = false ∨ inB f.n 0 1000000 = false ∨ f.done = true
      · rw [if_pos h2] at h; omega
      · rw [if_neg h2] at h
        by_cases h3 : inB f.cur (-(M.heads.length : Int)) M.slots.length = false ∨ inB f.prev 0 M.slots.length = false ∨ inB f.slot (-1) ((M.slots.length : Int) - 1) = false
        · rw [if_pos h3] at h; omega
        · rw [if_neg h3] at h
          by_cases h4 : 100 < f.keys.length
          · rw [if_pos h4] at h; omega
          · simp only [not_or, Bool.not_eq_false, Bool.not_eq_true, inB_iff] at h2 h3
            exact ⟨h1, h2.1, (inB_iff _ _ _).2 h2.2.1, h2.2.2, h3.1, h3.2.1, ⟨h3.2.2.1, by have := h3.2.2.2; omega⟩, by omega⟩
    · rw [if_pos h1] at h; exact absurd h h1
  · rintro ⟨h1, h2, h3, h4, h5, h6, h7, h8⟩
    unfold frE
    rw [if_neg (by simpa using h1), if_neg, if_neg, if_neg (by omega)]
    · simp only [not_or, Bool.not_eq_false, inB_iff]
      exact ⟨h5, h6, h7.1, by omega⟩
    · simp only [not_or, Bool.not_eq_false, Bool.not_eq_true]
      exact ⟨(inB_iff _ _ _).2 h2, h3, h4⟩

theorem look_key {nS nH : Nat} {c : Cl} (hk : c.kind = 1) (h : callE nS nH c = 0) : keyB c.a c.b = true := by
  unfold callE at h
  rw [if_pos (.inl hk)] at h
  cases hb : keyB c.a c.b
  · rw [hb] at h; simp at h
  · rfl

theorem bkOf_in {M : Mm} {c : Cl} (hM : Ok M) (h : callE M.slots.length M.heads.length c = 0) : 0 ≤ bkOf M.heads.length c ∧ bkOf M.heads.length c < M.heads.length := by
  obtain ⟨n1, n2⟩ := hM.nh
  by_cases hb : c.kind = 4 ∨ c.kind = 5
  · unfold callE at h
    rw [if_neg (by omega), if_neg (by omega), if_pos hb] at h
    cases hi : inB c.bk 0 ((M.heads.length : Int) - 1)
    · rw [hi] at h; simp at h
    · rw [inB_iff] at hi
      unfold bkOf
      rw [if_pos hb]
      omega
  · unfold bkOf
    rw [if_neg hb]
    by_cases hk : keyB c.a c.b = true
    · rw [if_pos hk, if_pos ⟨n1, n2⟩]
      exact bucket_in c.a c.b n1
    · rw [if_neg hk]
      omega

theorem isAt_iff {M : Mm} {f : Fr} : isAt M f = true ↔ 1 ≤ f.cur ∧ f.cur ≤ M.slots.length := by unfold isAt; rw [inB_iff]
theorem isSl_in {M : Mm} {i : Int} : isSl M i = true ↔ 0 ≤ i ∧ i < M.slots.length := by
  unfold isSl
  rw [inB_iff]
  omega

theorem slotAt_mem {M : Mm} {i : Int} (h : isSl M i = true) : slotAt M i ∈ M.slots := by
  obtain ⟨j, rfl, hj⟩ := (isSl_iff M i).1 h
  unfold slotAt
  rw [Int.toNat_natCast, getD_lt _ _ hj]
  exact List.getElem_mem hj

theorem slot_refs {M : Mm} (hM : Ok M) {i : Int} (h : isSl M i = true) : 0 ≤ refsM M i ∧ refsM M i ≤ 1000 := by
  have := (slot_good (hM.slot _ (slotAt_mem h))).1
  rw [inB_iff] at this
  exact this
theorem slot_next {M : Mm} (hM : Ok M) {i : Int} (h : isSl M i = true) : -(M.heads.length : Int) ≤ (slotAt M i).next ∧ (slotAt M i).next ≤ M.slots.length := by
  have := (slot_good (hM.slot _ (slotAt_mem h))).2.2.2
  rwa [inB_iff] at this

theorem canH_iff {M : Mm} {a : Int} : canH M a = true ↔ 0 < refsM M a ∧ refsM M a < 1000 := by simp [canH]
theorem holdN_ok {M : Mm} (hM : Ok M) {a : Int} (h : isSl M a = true) : Ok (holdN M a) := by
  unfold holdN
  split
  · rename_i hc
    rw [canH_iff] at hc
    exact hold_ok hM h hc.1 hc.2
  · exact hM
theorem putN_ok {M : Mm} (hM : Ok M) {a : Int} (h : isSl M a = true) : Ok (putN M a) := by
  unfold putN
  split
  · exact hM
  · have := slot_refs hM h
    exact put_ok hM h (by omega) (by omega)

/- Memory in which nothing but how often one slot is held, and what is free, differs. -/
structure Like (M M' : Mm) : Prop where
  heads : M'.heads = M.heads
  locks : M'.locks = M.locks
  now : M'.now = M.now
  slots : M'.slots = M.slots ∨ ∃ j r, j < M.slots.length ∧ M'.slots = M.slots.set j { M.slots.getD j sl0 with refs := r }

theorem Like.refl (M : Mm) : Like M M := ⟨rfl, rfl, rfl, .inl rfl⟩
theorem Like.len {M M' : Mm} (h : Like M M') : M'.slots.length = M.slots.length := by
  rcases h.slots with e | ⟨j, r, _, e⟩ <;> rw [e]
  simp
theorem like_refs {M : Mm} {i : Int} (h : isSl M i = true) (r : Int) (F : List Int) : Like M { M with slots := setRefs M i r, free := F } := by
  obtain ⟨j, rfl, hj⟩ := (isSl_iff M i).1 h
  exact ⟨rfl, rfl, rfl, .inr ⟨j, r, hj, by simp [setRefs]⟩⟩
theorem holdN_like {M : Mm} {i : Int} (h : isSl M i = true) : Like M (holdN M i) := by
  unfold holdN
  split
  · exact like_refs h _ _
  · exact .refl M
theorem putN_like {M : Mm} {i : Int} (h : isSl M i = true) : Like M (putN M i) := by
  unfold putN
  split
  · exact .refl M
  · exact like_refs h _ _

theorem isAt_sl {M : Mm} {f : Fr} (h : isAt M f = true) : isSl M (f.cur - 1) = true := by
  rw [isAt_iff] at h
  rw [isSl_in]
  omega

theorem lkM_ok {M : Mm} {f : Fr} (hM : Ok M) : Ok (lkM M f) := by
  unfold lkM lkHoldM lkLetM
  repeat' split
  · exact holdN_ok hM (isAt_sl (by assumption))
  · exact hM
  · exact putN_ok hM (by assumption)
  · exact hM
  · exact putN_ok hM (by assumption)
  · exact hM
  · exact hM
theorem lkM_like (M : Mm) (f : Fr) : Like M (lkM M f) := by
  unfold lkM lkHoldM lkLetM
  repeat' split
  · exact holdN_like (isAt_sl (by assumption))
  · exact .refl M
  · exact putN_like (by assumption)
  · exact .refl M
  · exact putN_like (by assumption)
  · exact .refl M
  · exact .refl M

theorem lkF_c (M : Mm) (f : Fr) : (lkF M f).c = f.c := by
  unfold lkF lkBegin lkSee lkPass lkHold lkProve lkStray lkOver
  repeat' split
  all_goals rfl
theorem lkF_keys (M : Mm) (f : Fr) : (lkF M f).keys = f.keys := by
  unfold lkF lkBegin lkSee lkPass lkHold lkProve lkStray lkOver
  repeat' split
  all_goals rfl

theorem Fit.to {M : Mm} {f : Fr} (h : Fit M f) {n : Int} (h1 : 0 ≤ n ∧ n ≤ 9) : Fit M (toF f n) := ⟨h.call, h1, h.n, h.done, h.cur, h.prev, h.slot, h.keys⟩
theorem Fit.curTo {M : Mm} {f : Fr} (h : Fit M f) {c n : Int} (h1 : 0 ≤ n ∧ n ≤ 9) (h2 : -(M.heads.length : Int) ≤ c ∧ c ≤ M.slots.length) : Fit M (curF f c n) := ⟨h.call, h1, h.n, h.done, h2, h.prev, h.slot, h.keys⟩
theorem Fit.handTo {M : Mm} {f : Fr} (h : Fit M f) {s n : Int} (h1 : 0 ≤ n ∧ n ≤ 9) (h2 : -1 ≤ s ∧ s < M.slots.length) : Fit M (handF f s n) := ⟨h.call, h1, h.n, h.done, h.cur, h.prev, h2, h.keys⟩
theorem Fit.like {M M' : Mm} {f : Fr} (h : Fit M f) (hl : Like M M') : Fit M' f := by
  have e1 := hl.len
  have e2 := hl.heads
  refine ⟨?_, h.pl, h.n, h.done, ?_, ?_, ?_, h.keys⟩
  · rw [e1, e2]; exact h.call
  · rw [e1, e2]; exact h.cur
  · rw [e1]; exact h.prev
  · rw [e1]; exact h.slot

theorem lkF_fit {M : Mm} {f : Fr} (hM : Ok M) (h : Fit M f) (hd : (lkF M f).done = false) : Fit (lkM M f) (lkF M f) := by
  refine Fit.like ?_ (lkM_like M f)
  revert hd
  unfold lkF lkBegin lkSee lkPass lkHold lkProve lkStray lkOver
  have hb := bkOf_in hM h.call
  repeat' split
  all_goals intro hd
  all_goals first
    | (cases hd; done)
    | exact h.to (by omega)
    | exact h.handTo (by omega) (by omega)
    | skip
  · refine h.curTo (by omega) ?_
    have hh := (hM.headIn (b := (bkOf M.heads.length f.c).toNat) (by omega)).2
    rwa [inB_iff] at hh
  · rename_i ha
    exact h.curTo (by omega) (slot_next hM (isAt_sl ha))
  · rename_i ha
    simp only [Bool.and_eq_true] at ha
    have := isSl_in.1 (isAt_sl ha.1)
    exact h.handTo (by omega) (by omega)



end Go.Proofs.Ytdbilofhcadmoab.mm

/- Memory of one's own, and what a change of it leaves: all that is not in its box nor its rows. -/
namespace Go.Proofs.Ytdbilofhcadmoab.mm
open Go.ChangeShapes Go.WideShapes Go.ChangeAt Go.RowKit Go.Joins
set_option linter.unusedVariables false

/- Where memory of one's own lies: its box and its four rows. -/
def Foot (B : Nat) (aS aH aF aL : Option Addr) (k : Nat) : Prop :=
  k = B ∨ (∃ ad, aS = some ad ∧ ad.block = k) ∨ (∃ ad, aH = some ad ∧ ad.block = k) ∨ (∃ ad, aF = some ad ∧ ad.block = k) ∨ (∃ ad, aL = some ad ∧ ad.block = k)

/- A change that touches nothing but what Z names, and what is new. -/
structure Fine (w w' : World) (Z : Nat → Prop) : Prop where
  os : w'.os = w.os
  tape : w'.tape = w.tape
  output : w'.output = w.output
  size : w.heap.size ≤ w'.heap.size
  block : ∀ k, k < w.heap.size → ¬ Z k → w'.heap[k]? = w.heap[k]?

/- What Z names, and what is new. -/
def Up (w : World) (Z : Nat → Prop) (k : Nat) : Prop := Z k ∨ w.heap.size ≤ k

theorem Fine.refl (w : World) (Z : Nat → Prop) : Fine w w Z := ⟨rfl, rfl, rfl, Nat.le_refl _, fun _ _ _ => rfl⟩
theorem Fine.of_below {w w' : World} (Z : Nat → Prop) (hb : Below w.heap.size w w') : Fine w w' Z := ⟨hb.os, hb.tape, hb.output, hb.size, fun k h _ => hb.block k h⟩
theorem Fine.trans {w w1 w2 : World} {Z Z' : Nat → Prop} (h : Fine w w1 Z) (h' : Fine w1 w2 Z') (hz : ∀ k, k < w.heap.size → Z' k → Z k) : Fine w w2 Z :=
  ⟨h'.os.trans h.os, h'.tape.trans h.tape, h'.output.trans h.output, Nat.le_trans h.size h'.size, fun k h1 h2 => (h'.block k (Nat.lt_of_lt_of_le h1 h.size) (fun h3 => h2 (hz k h1 h3))).trans (h.block k h1 h2)⟩
theorem Fine.go {w w1 w2 : World} {Z : Nat → Prop} (h : Fine w w1 Z) (h' : Fine w1 w2 (Up w Z)) : Fine w w2 Z :=
  h.trans h' fun k h1 h2 => h2.elim id (fun h3 => by omega)
theorem Fine.below {w w1 w2 : World} {Z : Nat → Prop} (h : Fine w w1 Z) (hb : Below w1.heap.size w1 w2) : Fine w w2 Z :=
  h.trans (.of_below Z hb) fun _ _ h => h
theorem Fine.set {w w1 : World} {Z : Nat → Prop} {k : Nat} (h : Fine w w1 Z) (hk : Z k ∨ w.heap.size ≤ k) (j : Nat) (v : Value) : Fine w (w1.setCell ⟨k, j, none⟩ v) Z :=
  ⟨h.os, h.tape, h.output, by rw [World.size_setCell]; exact h.size, fun i h1 h2 => by
    have hne : i ≠ k := by rintro rfl; exact hk.elim h2 (fun h3 => by omega)
    rw [Below.heap_setCell _ _ _ _ (by dsimp only; exact hne)]
    exact h.block i h1 h2⟩
theorem Fine.down {w w1 : World} {Z : Nat → Prop} (h : Fine w w1 Z) {n : Nat} (hn : n ≤ w.heap.size) (hz : ∀ k, Z k → n ≤ k) : Below n w w1 :=
  ⟨h.os, h.tape, h.output, h.size, fun k hk => h.block k (by omega) (fun h3 => by have := hz k h3; omega)⟩
theorem Fine.mono {w w1 : World} {Z Z' : Nat → Prop} (h : Fine w w1 Z) (hz : ∀ k, Z k → Z' k) : Fine w w1 Z' := ⟨h.os, h.tape, h.output, h.size, fun k h1 h2 => h.block k h1 (fun h3 => h2 (hz k h3))⟩

theorem own_same {w w' : World} {lo size n : Nat} {e : TypeId} {v : Value} {xs : List Value} (h : w.ownsRow lo e size v n xs) (hk : ∀ g, v.ownBlock = some g → w'.heap[g]? = w.heap[g]?) : w'.ownsRow lo e size v n xs := by
  refine ⟨h.1, ?_⟩
  rcases h.2 with h1 | ⟨g, cap, cur, rfl, hg, hb, rest⟩
  · exact .inl h1
  · exact .inr ⟨g, cap, cur, rfl, hg, (hk g rfl).trans hb, rest⟩

/- A box holds memory of one's own, which lies within Z. -/
def Has (w : World) (B lo : Nat) (Z : Nat → Prop) (M : Mm) : Prop :=
  ∃ aS aH aF aL cS cH cF cL, Mine w B lo aS aH aF aL cS cH cF cL M ∧ ∀ k, Foot B aS aH aF aL k → Z k

theorem foot_own {aS : Option Addr} {n c g : Nat} (h : (Value.slice aS n c).ownBlock = some g) : ∃ ad, aS = some ad ∧ ad.block = g := by
  cases aS with
  | none => cases h
  | some ad => exact ⟨ad, rfl, by injection h⟩

theorem Mine.same {w w' : World} {B lo : Nat} {aS aH aF aL : Option Addr} {cS cH cF cL : Nat} {M : Mm} (m : Mine w B lo aS aH aF aL cS cH cF cL M) (hz : w.heap.size ≤ w'.heap.size)
    (hk : ∀ k, k < w.heap.size → Foot B aS aH aF aL k → w'.heap[k]? = w.heap[k]?) : Mine w' B lo aS aH aF aL cS cH cF cL M := by
  obtain ⟨hB, ⟨s, h, f, l, hf, hl, fl, lz⟩, m1, m2, m3, m4⟩ := m
  refine ⟨(hk B (lt_of_block hB) (.inl rfl)).trans hB, ⟨?_, ?_, ?_, ?_, hf, hl, fl, Nat.le_trans lz hz⟩, m1, m2, m3, m4⟩
  · exact own_same s fun g hg => hk g (s.lt g hg).2 (.inr (.inl (foot_own hg)))
  · exact own_same h fun g hg => hk g (h.lt g hg).2 (.inr (.inr (.inl (foot_own hg))))
  · exact own_same f fun g hg => hk g (f.lt g hg).2 (.inr (.inr (.inr (.inl (foot_own hg)))))
  · exact own_same l fun g hg => hk g (l.lt g hg).2 (.inr (.inr (.inr (.inr (foot_own hg)))))

theorem Has.same {w w' : World} {B lo : Nat} {Z : Nat → Prop} {M : Mm} (h : Has w B lo Z M) (hz : w.heap.size ≤ w'.heap.size) (hk : ∀ k, k < w.heap.size → Z k → w'.heap[k]? = w.heap[k]?) : Has w' B lo Z M := by
  obtain ⟨aS, aH, aF, aL, cS, cH, cF, cL, m, hf⟩ := h
  exact ⟨aS, aH, aF, aL, cS, cH, cF, cL, m.same hz (fun k h1 h2 => hk k h1 (hf k h2)), hf⟩
theorem Has.below {w w' : World} {B lo : Nat} {Z : Nat → Prop} {M : Mm} (h : Has w B lo Z M) (hb : Below w.heap.size w w') : Has w' B lo Z M := h.same hb.size fun k h1 _ => hb.block k h1
theorem Has.fine {w w' : World} {B lo : Nat} {Z Z' : Nat → Prop} {M : Mm} (h : Has w B lo Z M) (hf : Fine w w' Z') (hd : ∀ k, k < w.heap.size → Z k → ¬ Z' k) : Has w' B lo Z M := h.same hf.size fun k h1 h2 => hf.block k h1 (hd k h1 h2)
theorem Has.mono {w : World} {B lo : Nat} {Z Z' : Nat → Prop} {M : Mm} (h : Has w B lo Z M) (hz : ∀ k, k < w.heap.size → Z k → Z' k) : Has w B lo Z' M := by
  obtain ⟨aS, aH, aF, aL, cS, cH, cF, cL, m, hf⟩ := h
  refine ⟨aS, aH, aF, aL, cS, cH, cF, cL, m, fun k hk => hz k ?_ (hf k hk)⟩
  rcases hk with rfl | ⟨ad, rfl, rfl⟩ | ⟨ad, rfl, rfl⟩ | ⟨ad, rfl, rfl⟩ | ⟨ad, rfl, rfl⟩
  · exact lt_of_block m.box
  · exact (m.c.s.lt _ rfl).2
  · exact (m.c.h.lt _ rfl).2
  · exact (m.c.f.lt _ rfl).2
  · exact (m.c.l.lt _ rfl).2
theorem Has.up {w : World} {B lo : Nat} {Z : Nat → Prop} {M : Mm} (h : Has w B lo Z M) : Has w B lo (Up w Z) M := h.mono fun _ _ h => .inl h
theorem Has.low {w : World} {B lo : Nat} {Z : Nat → Prop} {M : Mm} (h : Has w B lo Z M) : Has w B lo (fun k => k = B ∨ lo ≤ k) M := by
  obtain ⟨aS, aH, aF, aL, cS, cH, cF, cL, m, hf⟩ := h
  refine ⟨aS, aH, aF, aL, cS, cH, cF, cL, m, fun k hk => ?_⟩
  rcases hk with rfl | ⟨ad, rfl, rfl⟩ | ⟨ad, rfl, rfl⟩ | ⟨ad, rfl, rfl⟩ | ⟨ad, rfl, rfl⟩
  · exact .inl rfl
  · exact .inr (m.c.s.lt _ rfl).1
  · exact .inr (m.c.h.lt _ rfl).1
  · exact .inr (m.c.f.lt _ rfl).1
  · exact .inr (m.c.l.lt _ rfl).1

theorem free_few {M : Mm} (h : Ok M) : M.free.length ≤ 12 := by
  have h1 := few' M.slots.length M.free h.nodup (fun a ha => by
    have := (freeOk_iff _ _).1 (h.free a ha)
    exact ⟨this.1, this.2.1⟩)
  have := h.ns
  omega

theorem foot_hold {B : Nat} {aS aH aF aL aF' : Option Addr} {Z : Nat → Prop} {n : Nat} (hf : ∀ k, Foot B aS aH aF aL k → Z k) (hn : ∀ ad, aF' = some ad → n ≤ ad.block) : ∀ k, Foot B aS aH aF' aL k → Z k ∨ n ≤ k := by
  rintro k (rfl | h | h | ⟨ad, e, rfl⟩ | h)
  · exact .inl (hf _ (.inl rfl))
  · exact .inl (hf _ (.inr (.inl h)))
  · exact .inl (hf _ (.inr (.inr (.inl h))))
  · exact .inr (hn ad e)
  · exact .inl (hf _ (.inr (.inr (.inr (.inr h)))))

/- The four changes of how often a slot is held: the program's, the document's. -/
theorem hold_fine {M : Mm} {w : World} {B lo : Nat} {Z : Nat → Prop} {i : Int} (H : Has w B lo Z M) (hM : Ok M) (hi : isSl M i = true) :
    Calls Try.prog 150 #[.pointer (some ⟨B, 0, none⟩), .int .i64 i] w fun e w' => e = .returned (.bool (canH M i)) ∧ Has w' B lo (Up w Z) (holdN M i) ∧ Fine w w' Z := by
  have hr := slot_refs hM hi
  obtain ⟨i0, i1⟩ := isSl_in.1 hi
  have H' := H
  obtain ⟨aS, aH, aF, aL, cS, cH, cF, cL, m, hf⟩ := H
  by_cases hc : canH M i = true
  · have hc' := canH_iff.1 hc
    obtain ⟨j, rfl⟩ : ∃ j : Nat, i = j := ⟨i.toNat, by omega⟩
    have hj : j < M.slots.length := by omega
    obtain ⟨gS, rfl, oS, -, -, -⟩ := row_form m.c.s (by omega)
    have hrr := refsM_at M j hj
    rw [hrr] at hc'
    obtain ⟨c0, -, -, -, -, -, fz⟩ := row_cells m.c.s hj
    refine (hold_yes w B gS _ j cS _ _ _ _ _ m.box hj c0 (fz _) hc'.1 hc'.2).mono ?_
    rintro e w' ⟨rfl, rfl⟩
    have mt := turned m hj (M.slots[j].refs + 1)
    have e1 : holdN M j = holdM M j := by unfold holdN; rw [if_pos hc]
    rw [e1, hc]
    rw [← hrr] at mt ⊢
    exact ⟨rfl, ⟨_, _, _, _, _, _, _, _, mt, fun k hk => .inl (hf k hk)⟩, (Fine.refl w Z).set (.inl (hf gS (.inr (.inl ⟨_, rfl, rfl⟩)))) _ _⟩
  · have hc0 : canH M i = false := by simpa using hc
    have hn : ¬ (0 < refsM M i ∧ refsM M i < 1000) := fun h => hc (canH_iff.2 h)
    refine (hold_fail M w B lo aS aH aF aL cS cH cF cL i m i0 i1 (by omega)).mono ?_
    rintro e w' ⟨rfl, rfl⟩
    have e1 : holdN M i = M := by unfold holdN; rw [if_neg hc]
    rw [e1, hc0]
    exact ⟨rfl, H'.up, .refl _ _⟩

theorem rhold_fine {M : Mm} {w : World} {B lo : Nat} {Z : Nat → Prop} {i : Int} (H : Has w B lo Z M) (hM : Ok M) (hi : isSl M i = true) :
    Calls Try.prog 101 #[.pointer (some ⟨B, 0, none⟩), .int .i64 i] w fun e w' => e = .returned (.bool (canH M i)) ∧ Has w' B lo (Up w Z) (holdN M i) ∧ Fine w w' Z := by
  have hr := slot_refs hM hi
  obtain ⟨i0, i1⟩ := isSl_in.1 hi
  have H' := H
  obtain ⟨aS, aH, aF, aL, cS, cH, cF, cL, m, hf⟩ := H
  have m1 := m.m1
  by_cases hc : canH M i = true
  · have hc' := canH_iff.1 hc
    obtain ⟨j, rfl⟩ : ∃ j : Nat, i = j := ⟨i.toNat, by omega⟩
    have hj : j < M.slots.length := by omega
    obtain ⟨gS, rfl, oS, -, -, -⟩ := row_form m.c.s (by omega)
    have hrr := refsM_at M j hj
    rw [hrr] at hc'
    obtain ⟨c0, -, -, -, -, -, fz⟩ := row_cells m.c.s hj
    refine (rhold_yes w B gS _ j cS _ _ _ _ _ m.box hj (by omega) c0 (fz _) hc'.1 hc'.2).mono ?_
    rintro e w' ⟨rfl, rfl⟩
    have mt := turned m hj (M.slots[j].refs + 1)
    have e1 : holdN M j = holdM M j := by unfold holdN; rw [if_pos hc]
    rw [e1, hc]
    rw [← hrr] at mt ⊢
    exact ⟨rfl, ⟨_, _, _, _, _, _, _, _, mt, fun k hk => .inl (hf k hk)⟩, (Fine.refl w Z).set (.inl (hf gS (.inr (.inl ⟨_, rfl, rfl⟩)))) _ _⟩
  · have hc0 : canH M i = false := by simpa using hc
    have hn : ¬ (0 < refsM M i ∧ refsM M i < 1000) := fun h => hc (canH_iff.2 h)
    refine (rhold_fail M w B lo aS aH aF aL cS cH cF cL i m i0 i1 (by omega)).mono ?_
    rintro e w' ⟨rfl, rfl⟩
    have e1 : holdN M i = M := by unfold holdN; rw [if_neg hc]
    rw [e1, hc0]
    exact ⟨rfl, H'.up, .refl _ _⟩

theorem put_fine {M : Mm} {w : World} {B lo : Nat} {Z : Nat → Prop} {i : Int} (H : Has w B lo Z M) (hM : Ok M) (hi : isSl M i = true) :
    Calls Try.prog 107 #[.pointer (some ⟨B, 0, none⟩), .int .i64 i] w fun e w' => e = .returned (.bool (decide (refsM M i ≠ 0))) ∧ Has w' B lo (Up w Z) (putN M i) ∧ Fine w w' Z := by
  have hr := slot_refs hM hi
  have hfew := free_few hM
  obtain ⟨i0, i1⟩ := isSl_in.1 hi
  have H' := H
  obtain ⟨aS, aH, aF, aL, cS, cH, cF, cL, m, hf⟩ := H
  by_cases h0 : refsM M i = 0
  · refine (put_fail M w B lo aS aH aF aL cS cH cF cL i m i0 i1 h0).mono ?_
    rintro e w' ⟨rfl, rfl⟩
    have e1 : putN M i = M := by unfold putN; rw [if_pos h0]
    rw [e1]
    exact ⟨by simp [h0], H'.up, .refl _ _⟩
  have ed : decide (refsM M i ≠ 0) = true := by simp [h0]
  have e0 : putN M i = putM M i := by unfold putN; rw [if_neg h0]
  rw [ed, e0]
  obtain ⟨j, rfl⟩ : ∃ j : Nat, i = j := ⟨i.toNat, by omega⟩
  have hj : j < M.slots.length := by omega
  obtain ⟨gS, rfl, oS, -, -, -⟩ := row_form m.c.s (by omega)
  have hZ : Z gS := hf gS (.inr (.inl ⟨_, rfl, rfl⟩))
  have hrr := refsM_at M j hj
  obtain ⟨c0, -, -, -, -, -, fz⟩ := row_cells m.c.s hj
  by_cases hl : refsM M j = 1
  · rw [← hrr, hl] at c0
    have mt := turned m hj 0
    refine (put_last w B gS _ j cS cF aF M.free _ _ _ m.box hj c0 (fz _) m.ne_s mt.at.f (by omega)).mono ?_
    rintro e w' ⟨rfl, a', c', w1, hb, ho, rfl⟩
    have e1 : putM M j = { M with slots := setRefs M j 0, free := M.free ++ [(j : Int)] } := by simp [putM, hl]
    have hlen : (M.free ++ [(j : Int)]).length = M.free.length + 1 := by simp
    rw [e1]
    have hz : (w.setCell ⟨gS, j * 6, none⟩ (.int .i64 0)).heap.size = w.heap.size := World.size_setCell ..
    have hi' := own_hi ho
    rw [← hz] at hb ho
    have mg := mt.newF (M.free ++ [(j : Int)]) (by rw [hlen]; omega) hb hlen ho
    refine ⟨rfl, ⟨_, _, _, _, _, _, _, _, mg, foot_hold hf hi'⟩, ?_⟩
    exact (((Fine.refl w Z).set (.inl hZ) (j * 6) (.int .i64 0)).below hb).set (.inl (hf B (.inl rfl))) _ _
  · have hr2 : 1 < M.slots[j].refs := by omega
    refine (put_more w B gS _ j cS _ _ _ _ _ m.box hj c0 (fz _) hr2 (by omega)).mono ?_
    rintro e w' ⟨rfl, rfl⟩
    have e1 : putM M j = { M with slots := setRefs M j (refsM M j - 1) } := by simp [putM, hl]
    rw [e1]
    have mt := turned m hj (M.slots[j].refs - 1)
    rw [← hrr] at mt ⊢
    exact ⟨rfl, ⟨_, _, _, _, _, _, _, _, mt, fun k hk => .inl (hf k hk)⟩, (Fine.refl w Z).set (.inl hZ) _ _⟩

theorem rput_fine {M : Mm} {w : World} {B lo : Nat} {Z : Nat → Prop} {i : Int} (H : Has w B lo Z M) (hM : Ok M) (hi : isSl M i = true) :
    Calls Try.prog 102 #[.pointer (some ⟨B, 0, none⟩), .int .i64 i] w fun e w' => e = .returned (.tuple #[]) ∧ Has w' B lo (Up w Z) (putN M i) ∧ Fine w w' Z := by
  have hr := slot_refs hM hi
  have hfew := free_few hM
  obtain ⟨i0, i1⟩ := isSl_in.1 hi
  have H' := H
  obtain ⟨aS, aH, aF, aL, cS, cH, cF, cL, m, hf⟩ := H
  have m1 := m.m1
  obtain ⟨j, rfl⟩ : ∃ j : Nat, i = j := ⟨i.toNat, by omega⟩
  have hj : j < M.slots.length := by omega
  obtain ⟨gS, rfl, oS, -, -, -⟩ := row_form m.c.s (by omega)
  have hZ : Z gS := hf gS (.inr (.inl ⟨_, rfl, rfl⟩))
  have hrr := refsM_at M j hj
  obtain ⟨c0, -, -, -, -, -, fz⟩ := row_cells m.c.s hj
  by_cases h0 : refsM M j = 0
  · rw [← hrr, h0] at c0
    refine (rput_none w B gS _ j cS _ _ _ _ m.box hj (by omega) c0).mono ?_
    rintro e w' ⟨rfl, rfl⟩
    have e1 : putN M j = M := by unfold putN; rw [if_pos h0]
    rw [e1]
    exact ⟨rfl, H'.up, .refl _ _⟩
  have e0 : putN M j = putM M j := by unfold putN; rw [if_neg h0]
  rw [e0]
  by_cases hl : refsM M j = 1
  · rw [← hrr, hl] at c0
    have mt := turned m hj 0
    refine (rput_last w B gS _ j lo cS cF aF M.free _ _ _ m.box hj (by omega) c0 (fz _) m.ne_s mt.at.f (by omega)).mono ?_
    rintro e w' ⟨rfl, a', c', w1, hb, ho, rfl⟩
    have e1 : putM M j = { M with slots := setRefs M j 0, free := M.free ++ [(j : Int)] } := by simp [putM, hl]
    have hlen : (M.free ++ [(j : Int)]).length = M.free.length + 1 := by simp
    rw [e1]
    have hz : (w.setCell ⟨gS, j * 6, none⟩ (.int .i64 0)).heap.size = w.heap.size := World.size_setCell ..
    have hi' := own_hi ho
    rw [← hz] at hb ho
    have mg := mt.newF (M.free ++ [(j : Int)]) (by rw [hlen]; omega) hb hlen ho
    refine ⟨rfl, ⟨_, _, _, _, _, _, _, _, mg, foot_hold hf hi'⟩, ?_⟩
    exact (((Fine.refl w Z).set (.inl hZ) (j * 6) (.int .i64 0)).below hb).set (.inl (hf B (.inl rfl))) _ _
  · have hr2 : 1 < M.slots[j].refs := by omega
    refine (rput_more w B gS _ j cS _ _ _ _ _ m.box hj (by omega) c0 (fz _) hr2 (by omega)).mono ?_
    rintro e w' ⟨rfl, rfl⟩
    have e1 : putM M j = { M with slots := setRefs M j (refsM M j - 1) } := by simp [putM, hl]
    rw [e1]
    have mt := turned m hj (M.slots[j].refs - 1)
    rw [← hrr] at mt ⊢
    exact ⟨rfl, ⟨_, _, _, _, _, _, _, _, mt, fun k hk => .inl (hf k hk)⟩, (Fine.refl w Z).set (.inl hZ) _ _⟩



end Go.Proofs.Ytdbilofhcadmoab.mm

/- How many slots are unlike, as plain data; a Look's step leaves at most one. -/
namespace Go.Proofs.Ytdbilofhcadmoab.mm
set_option linter.unusedVariables false

def dif (l1 l2 : List Sl) : Nat → Nat
  | 0 => 0
  | k + 1 => dif l1 l2 k + if slEq (l1.getD k sl0) (l2.getD k sl0) then 0 else 1

theorem dif_le (l1 l2 : List Sl) : ∀ k, dif l1 l2 k ≤ k
  | 0 => Nat.le_refl _
  | k + 1 => by
    have := dif_le l1 l2 k
    unfold dif
    split <;> omega
theorem dif_same (l : List Sl) : ∀ k, dif l l k = 0
  | 0 => rfl
  | k + 1 => by
    unfold dif
    rw [dif_same l k, slEq_refl]
    rfl
theorem getD_set_ne (l : List Sl) {j k : Nat} (x : Sl) (h : j ≠ k) : (l.set j x).getD k sl0 = l.getD k sl0 := by
  rw [List.getD_eq_getElem?_getD, List.getD_eq_getElem?_getD, List.getElem?_set_ne h]
theorem dif_set (l : List Sl) (j : Nat) (x : Sl) : ∀ k, dif l (l.set j x) k ≤ if j < k then 1 else 0
  | 0 => by simp [dif]
  | k + 1 => by
    have ih := dif_set l j x k
    unfold dif
    by_cases e : j = k
    · subst e
      rw [if_neg (Nat.lt_irrefl _)] at ih
      rw [if_pos (Nat.lt_succ_self _)]
      split <;> omega
    · rw [getD_set_ne l x e, slEq_refl]
      simp only [if_true, Nat.add_zero]
      by_cases h : j < k
      · rw [if_pos h] at ih; rw [if_pos (by omega)]; exact ih
      · rw [if_neg h] at ih; omega

theorem Like.dif {M M' : Mm} (h : Like M M') (k : Nat) : dif M.slots M'.slots k ≤ 1 := by
  rcases h.slots with e | ⟨j, r, hj, e⟩
  · rw [e, dif_same]; omega
  · rw [e]
    have := dif_set M.slots j { M.slots.getD j sl0 with refs := r } k
    split at this <;> omega
/- But for how often it is held, a slot is as it was. -/
theorem Like.slot {M M' : Mm} (h : Like M M') (k : Nat) (hk : k < M.slots.length) : { M'.slots.getD k sl0 with refs := (M.slots.getD k sl0).refs } = M.slots.getD k sl0 := by
  rcases h.slots with e | ⟨j, r, hj, e⟩
  · rw [e]
  · rw [e]
    by_cases ejk : j = k
    · subst ejk
      have : (M.slots.set j { M.slots.getD j sl0 with refs := r }).getD j sl0 = { M.slots.getD j sl0 with refs := r } := by
        rw [List.getD_eq_getElem?_getD, List.getElem?_set_self hj]; rfl
      rw [this]
    · rw [getD_set_ne _ _ ejk]



end Go.Proofs.Ytdbilofhcadmoab.mm

/- An Add as plain data: what a step does and what it leaves. -/
namespace Go.Proofs.Ytdbilofhcadmoab.mm
set_option linter.unusedVariables false

def lockAt (M : Mm) (b : Nat) : Int := M.locks.getD b 0
def lockM (M : Mm) (b : Nat) (t : Int) : Mm := { M with locks := M.locks.set b t }
def linkB (M : Mm) (a : Int) (b : Nat) : Mm := { M with slots := M.slots.set a.toNat { slotAt M a with next := headM M b, inn := true }, heads := M.heads.set b (a + 1) }
def bkN (M : Mm) (f : Fr) : Nat := (bkOf M.heads.length f.c).toNat
def untA (M : Mm) (f : Fr) : Int := if 2000000 < M.now + f.c.time then 2000000 else M.now + f.c.time
def lateF (f : Fr) : Fr := { f with e := 8, pl := 7 }
def adTake (M : Mm) (f : Fr) : Fr := if M.free.length = 0 then endF f 7 else handF f (lastF M) 1
def adTakeM (M : Mm) (f : Fr) : Mm := if M.free.length = 0 then M else takeM M f.c.a f.c.b (untA M f)
def adLock (M : Mm) (f : Fr) : Fr := if lockAt M (bkN M f) = -1 then toF f 2 else f
def adLockM (M : Mm) (f : Fr) (t : Int) : Mm := if lockAt M (bkN M f) = -1 then lockM M (bkN M f) t else M
def adSee (M : Mm) (f : Fr) : Fr := if isAt M f then toF f (if lkK (slotAt M (f.cur - 1)) f then 6 else 4) else toF f 5
def adPass (M : Mm) (f : Fr) : Fr := if isAt M f then curF f (slotAt M (f.cur - 1)).next 3 else lateF f
def adLink (M : Mm) (f : Fr) : Fr := if isSl M f.slot then { f with e := 0, pl := 7 } else lateF f
def adLinkM (M : Mm) (f : Fr) : Mm := if isSl M f.slot then linkB M f.slot (bkN M f) else M
def adPut (M : Mm) (f : Fr) : Fr := if isSl M f.slot then { f with slot := -1, e := 6, pl := 7 } else lateF f
def adPutM (M : Mm) (f : Fr) : Mm := if isSl M f.slot then putN M f.slot else M
def adOpenM (M : Mm) (f : Fr) (t : Int) : Mm := if lockAt M (bkN M f) = t then lockM M (bkN M f) (-1) else M

def adF (M : Mm) (f : Fr) : Fr :=
  if f.pl = 0 then adTake M f else if f.pl = 1 then adLock M f else if f.pl = 2 then curF f (headM M (bkN M f)) 3 else if f.pl = 3 then adSee M f
  else if f.pl = 4 then adPass M f else if f.pl = 5 then adLink M f else if f.pl = 6 then adPut M f else if f.pl = 7 then endF f f.e else lateF f
def adM (t : Int) (M : Mm) (f : Fr) : Mm :=
  if f.pl = 0 then adTakeM M f else if f.pl = 1 then adLockM M f t else if f.pl = 5 then adLinkM M f else if f.pl = 6 then adPutM M f else if f.pl = 7 then adOpenM M f t else M

theorem adF0 {M : Mm} {f : Fr} (h : f.pl = 0) : adF M f = adTake M f := by unfold adF; rw [if_pos h]
theorem adF1 {M : Mm} {f : Fr} (h : f.pl = 1) : adF M f = adLock M f := by unfold adF; rw [if_neg (by omega), if_pos h]
theorem adF2 {M : Mm} {f : Fr} (h : f.pl = 2) : adF M f = curF f (headM M (bkN M f)) 3 := by unfold adF; rw [if_neg (by omega), if_neg (by omega), if_pos h]
theorem adF3 {M : Mm} {f : Fr} (h : f.pl = 3) : adF M f = adSee M f := by unfold adF; rw [if_neg (by omega), if_neg (by omega), if_neg (by omega), if_pos h]
theorem adF4 {M : Mm} {f : Fr} (h : f.pl = 4) : adF M f = adPass M f := by unfold adF; rw [if_neg (by omega), if_neg (by omega), if_neg (by omega), if_neg (by omega), if_pos h]
theorem adF5 {M : Mm} {f : Fr} (h : f.pl = 5) : adF M f = adLink M f := by unfold adF; rw [if_neg (by omega), if_neg (by omega), if_neg (by omega), if_neg (by omega), if_neg (by omega), if_pos h]
theorem adF6 {M : Mm} {f : Fr} (h : f.pl = 6) : adF M f = adPut M f := by unfold adF; rw [if_neg (by omega), if_neg (by omega), if_neg (by omega), if_neg (by omega), if_neg (by omega), if_neg (by omega), if_pos h]
theorem adF7 {M : Mm} {f : Fr} (h : f.pl = 7) : adF M f = endF f f.e := by unfold adF; rw [if_neg (by omega), if_neg (by omega), if_neg (by omega), if_neg (by omega), if_neg (by omega), if_neg (by omega), if_neg (by omega), if_pos h]
theorem adF8 {M : Mm} {f : Fr} (h : 8 ≤ f.pl) : adF M f = lateF f := by unfold adF; rw [if_neg (by omega), if_neg (by omega), if_neg (by omega), if_neg (by omega), if_neg (by omega), if_neg (by omega), if_neg (by omega), if_neg (by omega)]
theorem adM0 {M : Mm} {f : Fr} {t : Int} (h : f.pl = 0) : adM t M f = adTakeM M f := by unfold adM; rw [if_pos h]
theorem adM1 {M : Mm} {f : Fr} {t : Int} (h : f.pl = 1) : adM t M f = adLockM M f t := by unfold adM; rw [if_neg (by omega), if_pos h]
theorem adM5 {M : Mm} {f : Fr} {t : Int} (h : f.pl = 5) : adM t M f = adLinkM M f := by unfold adM; rw [if_neg (by omega), if_neg (by omega), if_pos h]
theorem adM6 {M : Mm} {f : Fr} {t : Int} (h : f.pl = 6) : adM t M f = adPutM M f := by unfold adM; rw [if_neg (by omega), if_neg (by omega), if_neg (by omega), if_pos h]
theorem adM7 {M : Mm} {f : Fr} {t : Int} (h : f.pl = 7) : adM t M f = adOpenM M f t := by unfold adM; rw [if_neg (by omega), if_neg (by omega), if_neg (by omega), if_neg (by omega), if_pos h]
theorem adM_same {M : Mm} {f : Fr} {t : Int} (h : f.pl ≠ 0 ∧ f.pl ≠ 1 ∧ f.pl ≠ 5 ∧ f.pl ≠ 6 ∧ f.pl ≠ 7) : adM t M f = M := by unfold adM; rw [if_neg h.1, if_neg h.2.1, if_neg h.2.2.1, if_neg h.2.2.2.1, if_neg h.2.2.2.2]

theorem adF_c (M : Mm) (f : Fr) : (adF M f).c = f.c := by
  unfold adF adTake adLock adSee adPass adLink adPut
  repeat' split
  all_goals rfl
theorem adF_keys (M : Mm) (f : Fr) : (adF M f).keys = f.keys := by
  unfold adF adTake adLock adSee adPass adLink adPut
  repeat' split
  all_goals rfl

theorem add_key {nS nH : Nat} {c : Cl} (hk : c.kind = 2) (h : callE nS nH c = 0) : keyB c.a c.b = true ∧ 1 ≤ c.time ∧ c.time ≤ 1000000 := by
  obtain ⟨k, a, b, t, bk, sl⟩ := c
  have hk' : k = 2 := hk
  subst hk'
  rw [callE_add] at h
  cases hb : inB t 1 1000000 && keyB a b
  · rw [hb] at h; simp at h
  · simp only [Bool.and_eq_true, inB_iff] at hb
    exact ⟨hb.2, hb.1⟩
theorem untA_in {M : Mm} {f : Fr} (hM : Ok M) (h1 : 1 ≤ f.c.time) : inB (untA M f) 0 2000000 = true := by
  have := hM.now
  rw [inB_iff]
  unfold untA
  split <;> omega

/- What a step of a call that locks leaves: one slot at most, its own chain's begin and lock, what is free. -/
structure Near (M M' : Mm) (b : Nat) : Prop where
  now : M'.now = M.now
  ns : M'.slots.length = M.slots.length
  nh : M'.heads.length = M.heads.length
  nl : M'.locks.length = M.locks.length
  heads : ∀ i, i ≠ b → M'.heads[i]? = M.heads[i]?
  locks : ∀ i, i ≠ b → M'.locks[i]? = M.locks[i]?
  dif : ∀ k, dif M.slots M'.slots k ≤ 1
  free : M'.free.length ≤ M.free.length + 1 ∧ M.free.length ≤ M'.free.length + 1

theorem Near.refl (M : Mm) (b : Nat) : Near M M b := ⟨rfl, rfl, rfl, rfl, fun _ _ => rfl, fun _ _ => rfl, (fun k => by rw [dif_same]; omega), by omega⟩
theorem dif_set1 (l : List Sl) (j : Nat) (x : Sl) (k : Nat) : dif l (l.set j x) k ≤ 1 := by
  have := dif_set l j x k
  split at this <;> omega
theorem take_near (M : Mm) (b : Nat) (ka kb u : Int) : Near M (takeM M ka kb u) b :=
  ⟨rfl, by simp [takeM], rfl, rfl, fun _ _ => rfl, fun _ _ => rfl, (fun k => dif_set1 _ _ _ k), by simp [takeM]; omega⟩
theorem lock_near (M : Mm) (b : Nat) (t : Int) : Near M (lockM M b t) b :=
  ⟨rfl, rfl, rfl, by simp [lockM], fun _ _ => rfl, (fun i hi => by simp only [lockM]; rw [List.getElem?_set_ne (by omega)]), (fun k => by show dif M.slots M.slots k ≤ 1; rw [dif_same]; omega), by simp [lockM]⟩
theorem link_near (M : Mm) (a : Int) (b : Nat) : Near M (linkB M a b) b :=
  ⟨rfl, by simp [linkB], by simp [linkB], rfl, (fun i hi => by simp only [linkB]; rw [List.getElem?_set_ne (by omega)]), fun _ _ => rfl, (fun k => dif_set1 _ _ _ k), by simp [linkB]⟩
theorem putN_near (M : Mm) (a : Int) (b : Nat) : Near M (putN M a) b := by
  unfold putN
  split
  · exact .refl M b
  · refine ⟨rfl, by simp [putM, setRefs], rfl, rfl, fun _ _ => rfl, fun _ _ => rfl, (fun k => dif_set1 _ _ _ k), ?_⟩
    unfold putM
    dsimp only
    split
    · simp only [List.length_append, List.length_cons, List.length_nil]; omega
    · omega

theorem adM_near (t : Int) (M : Mm) (f : Fr) : Near M (adM t M f) (bkN M f) := by
  unfold adM adTakeM adLockM adLinkM adPutM adOpenM
  repeat' split
  all_goals first
    | exact .refl _ _
    | exact take_near _ _ _ _ _
    | exact lock_near _ _ _
    | exact link_near _ _ _
    | exact putN_near _ _ _

theorem Fit.near {M M' : Mm} {f : Fr} {b : Nat} (h : Fit M f) (hl : Near M M' b) : Fit M' f := by
  have e1 := hl.ns
  have e2 := hl.nh
  refine ⟨?_, h.pl, h.n, h.done, ?_, ?_, ?_, h.keys⟩
  · rw [e1, e2]; exact h.call
  · rw [e1, e2]; exact h.cur
  · rw [e1]; exact h.prev
  · rw [e1]; exact h.slot

theorem Fit.late {M : Mm} {f : Fr} (h : Fit M f) : Fit M (lateF f) := ⟨h.call, by simp [lateF], h.n, h.done, h.cur, h.prev, h.slot, h.keys⟩

theorem adF_fit {M : Mm} {f : Fr} (t : Int) (hM : Ok M) (h : Fit M f) (hd : (adF M f).done = false) : Fit (adM t M f) (adF M f) := by
  refine Fit.near ?_ (adM_near t M f)
  revert hd
  unfold adF adTake adLock adSee adPass adLink adPut
  have hb := bkOf_in hM h.call
  repeat' split
  all_goals intro hd
  all_goals first
    | (cases hd; done)
    | exact h.late
    | exact h
    | exact h.to (by omega)
    | skip
  · rename_i hf
    have := last_ok hM (by omega)
    exact h.handTo (by omega) (by omega)
  · refine h.curTo (by omega) ?_
    have hh := (hM.headIn (b := bkN M f) (by unfold bkN; omega)).2
    rwa [inB_iff] at hh
  · rename_i ha
    exact h.curTo (by omega) (slot_next hM (isAt_sl ha))
  · exact ⟨h.call, by simp, h.n, h.done, h.cur, h.prev, h.slot, h.keys⟩
  · exact ⟨h.call, by simp, h.n, h.done, h.cur, h.prev, by constructor <;> simp <;> omega, h.keys⟩

theorem lock_ok {M : Mm} (h : Ok M) (b : Nat) {t : Int} (ht : -1 ≤ t ∧ t ≤ 4) : Ok (lockM M b t) := by
  refine ⟨h.ns, h.nh, by simp [lockM, h.nl], h.now, h.slot, ?_, h.free, h.nodup, h.all⟩
  intro p hp
  simp only [lockM] at hp ⊢
  obtain ⟨i, hi, e⟩ := List.getElem_of_mem hp
  rw [List.getElem_zip] at e
  have hi' : i < M.heads.length ∧ i < M.locks.length := by simp at hi; omega
  have h0 := h.chain (M.heads[i]'hi'.1, M.locks[i]'hi'.2) (by
    rw [← List.getElem_zip (h := by simp; omega)]
    exact List.getElem_mem _)
  subst e
  unfold chainErr at h0 ⊢
  dsimp only at h0 ⊢
  by_cases hc : M.heads[i]'hi'.1 ≠ 0 ∧ inB (M.heads[i]'hi'.1) (-(M.heads.length : Int)) M.slots.length
  · rw [if_pos hc] at h0 ⊢
    rw [if_pos]
    rw [List.getElem_set]
    split
    · rw [inB_iff]; exact ht
    · by_cases hl : inB (M.locks[i]'hi'.2) (-1) 4 = true
      · exact hl
      · rw [if_neg hl] at h0; omega
  · rw [if_neg hc] at h0; omega

theorem linkB_ok {M : Mm} (h : Ok M) {a : Int} (ha : isSl M a = true) {b : Nat} (hb : b < M.heads.length) : Ok (linkB M a b) := by
  obtain ⟨j, rfl, hj⟩ := (isSl_iff M a).1 ha
  exact h.turn (b := b) hj (h.headIn hb).2 ⟨by omega, by rw [inB_iff]; omega⟩

theorem adM_ok {M : Mm} {f : Fr} {t : Int} (ht : -1 ≤ t ∧ t ≤ 4) (hM : Ok M) (h : Fit M f) (hk : f.c.kind = 2) : Ok (adM t M f) := by
  obtain ⟨k1, k2, k3⟩ := add_key hk h.call
  have hb := bkOf_in hM h.call
  have hbn : bkN M f < M.heads.length := by unfold bkN; omega
  unfold adM adTakeM adLockM adLinkM adPutM adOpenM
  repeat' split
  all_goals first
    | exact hM
    | exact lock_ok hM _ ht
    | exact lock_ok hM _ (by omega)
    | exact take_ok hM k1 (untA_in hM k2) (by omega)
    | exact linkB_ok hM (by assumption) hbn
    | exact putN_ok hM (by assumption)



end Go.Proofs.Ytdbilofhcadmoab.mm

/- The contracts of slices.Equal over ints and over slots, and of Same. -/
namespace Go.Proofs.Ytdbilofhcadmoab.mm
open Go.ChangeShapes Go.WideShapes Go.ChangeAt Go.RowKit Go.Joins Go.Deep
set_option linter.unusedVariables false

def eqI (l1 l2 : List Int) : Bool := decide (l1 = l2)
def eqS (l1 l2 : List Sl) : Bool := l1.length == l2.length && (l1.zip l2).all fun p => slEq p.1 p.2

theorem eqI_len {l1 l2 : List Int} (h : l1.length ≠ l2.length) : eqI l1 l2 = false := by
  simp only [eqI, decide_eq_false_iff_not]
  rintro rfl
  exact h rfl
theorem eqI_ne {l1 l2 : List Int} {k : Nat} (h1 : k < l1.length) (h2 : k < l2.length) (h : l1[k] ≠ l2[k]) : eqI l1 l2 = false := by
  simp only [eqI, decide_eq_false_iff_not]
  rintro rfl
  exact h rfl
theorem eqI_all {l1 l2 : List Int} (hl : l1.length = l2.length) (h : ∀ j, j < l1.length → l1[j]? = l2[j]?) : eqI l1 l2 = true := by
  simp only [eqI, decide_eq_true_eq]
  apply List.ext_getElem?
  intro j
  by_cases hj : j < l1.length
  · exact h j hj
  · rw [List.getElem?_eq_none (by omega), List.getElem?_eq_none (by omega)]
theorem eqI_iff (l1 l2 : List Int) : eqI l1 l2 = true ↔ l1 = l2 := by simp [eqI]
theorem eqS_iff (l1 l2 : List Sl) : eqS l1 l2 = true ↔ l1 = l2 := by
  induction l1 generalizing l2 with
  | nil => cases l2 <;> simp [eqS]
  | cons x l1 ih =>
    cases l2 with
    | nil => simp [eqS]
    | cons y l2 =>
      have := ih l2
      simp only [eqS, Bool.and_eq_true, beq_iff_eq] at this
      simp only [eqS, List.length_cons, List.zip_cons_cons, List.all_cons, Bool.and_eq_true, beq_iff_eq, slEq_iff, List.cons.injEq, ← this]
      constructor
      · rintro ⟨h1, h2, h3⟩; exact ⟨h2, by omega, h3⟩
      · rintro ⟨h1, h2, h3⟩; exact ⟨by omega, h1, h3⟩
theorem eqS_false {l1 l2 : List Sl} (h : l1 ≠ l2) : eqS l1 l2 = false := by
  rw [Bool.eq_false_iff]
  intro hh
  exact h ((eqS_iff _ _).1 hh)

theorem drewN_below (w : World) (q : Nat) : Below w.heap.size w (w.drewN q) := ⟨rfl, rfl, rfl, Nat.le_refl _, fun _ _ => rfl⟩

theorem ret_bool {a b : Bool} (h : a = b) : Ending.returned (.bool a) = .returned (.bool b) := by rw [h]

set_option maxHeartbeats 1600000 in
theorem equalI_any (a1 a2 : Option Addr) (c1 c2 : Nat) (l1 l2 : List Int) (w : World) (r1 : IRow w a1 c1 l1) (r2 : IRow w a2 c2 l2) :
    Calls Try.prog 22 #[.slice a1 l1.length c1, .slice a2 l2.length c2] w fun e w' => e = .returned (.bool (eqI l1 l2)) ∧ Below w.heap.size w w' := by
  have m1 := r1.max; have m2 := r2.max
  have n1 : l1.length ≤ 9223372036854775807 := by omega
  have n2 : l2.length ≤ 9223372036854775807 := by omega
  by_cases hl : l1.length = l2.length
  rotate_left
  · have HV : Hid (eqI l1 l2 = false) := eqI_len hl
    have hb : ((l1.length : Int) != (l2.length : Int)) = true := by rw [bne_iff_ne]; omega
    go_enter Try.func22, Try.ntmps22
    go_wp2
    go_ret
    exact ⟨ret_bool HV.out.symm, Below.refl _ _⟩
  · have HL : Hid (l1.length = l2.length) := hl
    have hb : ((l1.length : Int) != (l2.length : Int)) = false := by rw [hl]; simp
    clear hl
    have HZ1 : Hid _ := r1.at_
    have HZ2 : Hid _ := r2.at_
    clear r1 r2
    go_enter Try.func22, Try.ntmps22
    go_wp2
    go_loopw [13] (fun i wr => ∃ k q : Nat, k ≤ l1.length ∧ i = .int .i64 k ∧ wr = w.drewN q ∧ Hid (∀ j, j < k → l1[j]? = l2[j]?)) (fun i _ => l1.length - (intOf i).toNat)
    case atStart => exact ⟨0, 0, Nat.zero_le _, rfl, rfl, fun j hj => absurd hj (Nat.not_lt_zero _)⟩
    case round =>
      obtain ⟨k, q, hk, rfl, rfl, HE⟩ := hrel
      by_cases hlt : k < l1.length
      · have hlt2 : k < l2.length := by have := HL.out; omega
        rcases HZ1.out with h0 | ⟨b1, o1, rfl, hc1⟩
        · omega
        rcases HZ2.out with h0 | ⟨b2, o2, rfl, hc2⟩
        · omega
        have d1 : (w.drewN q).cell? ⟨b1, o1 + k, none⟩ = some (.int .i64 l1[k]) := hc1 k hlt
        have d2 : (w.drewN q).cell? ⟨b2, o2 + k, none⟩ = some (.int .i64 l2[k]) := hc2 k hlt2
        clear hc1 hc2
        generalize hwq : w.drewN q = wq at d1 d2 ⊢
        have HWQ : Hid _ := hwq
        clear hwq
        generalize hx : l1[k] = x at d1
        generalize hy : l2[k] = y at d2
        have HX : Hid (l1[k] = x ∧ l2[k] = y) := ⟨hx, hy⟩
        clear hx hy
        by_cases hxy : x = y
        · subst hxy
          have HV : Hid (∀ j, j < k + 1 → l1[j]? = l2[j]?) := fun j hj => by
            by_cases e : j = k
            · subst e
              rw [List.getElem?_eq_getElem hlt, List.getElem?_eq_getElem hlt2, HX.out.1, HX.out.2]
            · exact HE.out j (by omega)
          go_wp2_with fail
          go_quiet (fail)
          go_wp2
          go_roundw
          case rel => exact ⟨k + 1, q + nq, by omega, by go_num, by rw [← HWQ.out, World.drewN_drewN], HV⟩
          case measure => simp [intOf]; omega
        · have HV : Hid (eqI l1 l2 = false) := eqI_ne hlt hlt2 (by rw [HX.out.1, HX.out.2]; exact hxy)
          have hn : (x != y) = true := by simpa using hxy
          go_wp2_with fail
          go_quiet (fail)
          go_wp2
          go_ret
          exact ⟨ret_bool HV.out.symm, by rw [← HWQ.out, World.drewN_drewN]; exact drewN_below _ _⟩
      · have HV : Hid (eqI l1 l2 = true) := eqI_all HL.out (fun j hj => HE.out j (by omega))
        go_wp2
        go_ret
        exact ⟨ret_bool HV.out.symm, drewN_below _ _⟩

theorem kequal9 (a b c d : Int) (w : World) : (Op.equalIn 9999 37 (.agg #[.int .i64 a, .int .i64 b]) (.agg #[.int .i64 c, .int .i64 d])).run Try.prog w = .ok (a == c && b == d) w := by
  have u3 := Try.underlying3
  have a3 := Try.isAgg3
  have z3 := Try.sizeOf3
  have hS : Try.prog.underlying 37 = some (.struct (Try.prog.fieldsOf 37)) := by kernel_rfl
  have hp : Try.prog.stoodInHeld 37 = false := by kernel_rfl
  rw [show (9999 : Nat) = 9998 + 1 from rfl, run_equalIn_agg w 9998 37 _ _ hS hp]
  simp only [Program.fieldsOf, Try.underlying37]
  go_simp
  by_cases h1 : a = c <;> by_cases h2 : b = d <;> simp [h1, h2]

theorem sequal (x y : Sl) (w : World) : (Op.equalIn 10000 39 (.agg #[.int .i64 x.refs, .int .i64 x.a, .int .i64 x.b, .int .i64 x.unt, .bool x.inn, .int .i64 x.next]) (.agg #[.int .i64 y.refs, .int .i64 y.a, .int .i64 y.b, .int .i64 y.unt, .bool y.inn, .int .i64 y.next])).run Try.prog w = .ok (slEq x y) w := by
  have u3 := Try.underlying3
  have a3 := Try.isAgg3
  have z3 := Try.sizeOf3
  have u4 := Try.underlying4
  have a4 := Try.isAgg4
  have z4 := Try.sizeOf4
  have a37 := Try.isAgg37
  have z37 := Try.sizeOf37
  have k9 := kequal9
  have hS : Try.prog.underlying 39 = some (.struct (Try.prog.fieldsOf 39)) := by kernel_rfl
  have hp : Try.prog.stoodInHeld 39 = false := by kernel_rfl
  rw [show (10000 : Nat) = 9999 + 1 from rfl, run_equalIn_agg w 9999 39 _ _ hS hp]
  simp only [Program.fieldsOf, Try.underlying39]
  clear hS
  go_simp
  unfold slEq
  by_cases h1 : x.refs = y.refs <;> by_cases h2 : x.a = y.a <;> by_cases h3 : x.b = y.b <;> by_cases h4 : x.unt = y.unt <;> by_cases h5 : x.inn = y.inn <;> by_cases h6 : x.next = y.next <;> simp [h1, h2, h3, h4, h5, h6]

theorem eqS_ne {l1 l2 : List Sl} {k : Nat} (h1 : k < l1.length) (h2 : k < l2.length) (h : l1[k] ≠ l2[k]) : eqS l1 l2 = false :=
  eqS_false (by rintro rfl; exact h rfl)
theorem eqS_all {l1 l2 : List Sl} (hl : l1.length = l2.length) (h : ∀ j, j < l1.length → l1[j]? = l2[j]?) : eqS l1 l2 = true := by
  rw [eqS_iff]
  apply List.ext_getElem?
  intro j
  by_cases hj : j < l1.length
  · exact h j hj
  · rw [List.getElem?_eq_none (by omega), List.getElem?_eq_none (by omega)]

set_option maxHeartbeats 3200000 in
theorem equalS_any (a1 a2 : Option Addr) (c1 c2 : Nat) (l1 l2 : List Sl) (w : World) (r1 : SRow w a1 c1 l1) (r2 : SRow w a2 c2 l2) :
    Calls Try.prog 103 #[.slice a1 l1.length c1, .slice a2 l2.length c2] w fun e w' => e = .returned (.bool (eqS l1 l2)) ∧ Below w.heap.size w w' := by
  have m1 := r1.max; have m2 := r2.max
  have n1 : l1.length ≤ 9223372036854775807 := by omega
  have n2 : l2.length ≤ 9223372036854775807 := by omega
  by_cases hl : l1.length = l2.length
  rotate_left
  · have HV : Hid (eqS l1 l2 = false) := eqS_false (by rintro rfl; exact hl rfl)
    have hb : ((l1.length : Int) != (l2.length : Int)) = true := by rw [bne_iff_ne]; omega
    go_enter Try.func103, Try.ntmps103
    go_wp2
    go_ret
    exact ⟨ret_bool HV.out.symm, Below.refl _ _⟩
  · have HL : Hid (l1.length = l2.length) := hl
    have hb : ((l1.length : Int) != (l2.length : Int)) = false := by rw [hl]; simp
    clear hl
    have HZ1 : Hid _ := r1.at_
    have HZ2 : Hid _ := r2.at_
    clear r1 r2
    go_enter Try.func103, Try.ntmps103
    go_wp2
    go_loopw [13] (fun i wr => ∃ k q : Nat, k ≤ l1.length ∧ i = .int .i64 k ∧ wr = w.drewN q ∧ Hid (∀ j, j < k → l1[j]? = l2[j]?)) (fun i _ => l1.length - (intOf i).toNat)
    case atStart => exact ⟨0, 0, Nat.zero_le _, rfl, rfl, fun j hj => absurd hj (Nat.not_lt_zero _)⟩
    case round =>
      obtain ⟨k, q, hk, rfl, rfl, HE⟩ := hrel
      by_cases hlt : k < l1.length
      · have hlt2 : k < l2.length := by have := HL.out; omega
        rcases HZ1.out with h0 | ⟨b1, o1, rfl, hc1⟩
        · omega
        rcases HZ2.out with h0 | ⟨b2, o2, rfl, hc2⟩
        · omega
        obtain ⟨x0, x1, x2, x3, x4, x5⟩ := hc1 k hlt
        obtain ⟨y0, y1, y2, y3, y4, y5⟩ := hc2 k hlt2
        rw [← World.cell?_drewN (n := q)] at x0 x1 x2 x3 x4 x5 y0 y1 y2 y3 y4 y5
        clear hc1 hc2
        generalize hwq : w.drewN q = wq at x0 x1 x2 x3 x4 x5 y0 y1 y2 y3 y4 y5 ⊢
        have HWQ : Hid _ := hwq
        clear hwq
        generalize hx : l1[k] = x at x0 x1 x2 x3 x4 x5
        generalize hy : l2[k] = y at y0 y1 y2 y3 y4 y5
        have HX : Hid (l1[k] = x ∧ l2[k] = y) := ⟨hx, hy⟩
        clear hx hy
        have se := sequal x y
        cases hxy : slEq x y
        · have HV : Hid (eqS l1 l2 = false) := eqS_ne hlt hlt2 (by rw [HX.out.1, HX.out.2]; intro e; rw [e, slEq_refl] at hxy; cases hxy)
          go_wp2_with fail
          go_quiet (fail)
          go_wp2
          go_ret
          exact ⟨ret_bool HV.out.symm, by rw [← HWQ.out, World.drewN_drewN]; exact drewN_below _ _⟩
        · have HV : Hid (∀ j, j < k + 1 → l1[j]? = l2[j]?) := fun j hj => by
            by_cases e : j = k
            · subst e
              rw [List.getElem?_eq_getElem hlt, List.getElem?_eq_getElem hlt2, HX.out.1, HX.out.2, (slEq_iff x y).1 hxy]
            · exact HE.out j (by omega)
          go_wp2_with fail
          go_quiet (fail)
          go_wp2
          go_roundw
          case rel => exact ⟨k + 1, q + nq, by omega, by go_num, by rw [← HWQ.out, World.drewN_drewN], HV⟩
          case measure => simp [intOf]; omega
      · have HV : Hid (eqS l1 l2 = true) := eqS_all HL.out (fun j hj => HE.out j (by omega))
        go_wp2
        go_ret
        exact ⟨ret_bool HV.out.symm, drewN_below _ _⟩





end Go.Proofs.Ytdbilofhcadmoab.mm

/- Lists of flows held against each other. -/
namespace Go.Proofs.Ytdbilofhcadmoab.mm
open Go.ChangeShapes Go.WideShapes Go.ChangeAt Go.RowKit
set_option maxRecDepth 100000
set_option linter.unusedVariables false

def flEq (x y : Fl) : Bool := x.a == y.a && (x.b == y.b && (x.slot == y.slot && x.unt == y.unt))
theorem flEq_iff (x y : Fl) : flEq x y = true ↔ x = y := by
  cases x; cases y; simp [flEq]
theorem flEq_refl (x : Fl) : flEq x x = true := (flEq_iff x x).2 rfl
def eqF (l1 l2 : List Fl) : Bool := l1.length == l2.length && (l1.zip l2).all fun p => flEq p.1 p.2
theorem eqF_iff (l1 l2 : List Fl) : eqF l1 l2 = true ↔ l1 = l2 := by
  induction l1 generalizing l2 with
  | nil => cases l2 <;> simp [eqF]
  | cons x l1 ih =>
    cases l2 with
    | nil => simp [eqF]
    | cons y l2 =>
      have := ih l2
      simp only [eqF, Bool.and_eq_true, beq_iff_eq] at this
      simp only [eqF, List.length_cons, List.zip_cons_cons, List.all_cons, Bool.and_eq_true, beq_iff_eq, flEq_iff, List.cons.injEq, ← this]
      constructor
      · rintro ⟨h1, h2, h3⟩; exact ⟨h2, by omega, h3⟩
      · rintro ⟨h1, h2, h3⟩; exact ⟨by omega, h1, h3⟩
theorem eqF_false {l1 l2 : List Fl} (h : l1 ≠ l2) : eqF l1 l2 = false := by
  rw [Bool.eq_false_iff]
  intro hh
  exact h ((eqF_iff _ _).1 hh)


theorem fequal (x y : Fl) (w : World) : (Op.equalIn 10000 42 (.agg #[.int .i64 x.a, .int .i64 x.b, .int .i64 x.slot, .int .i64 x.unt]) (.agg #[.int .i64 y.a, .int .i64 y.b, .int .i64 y.slot, .int .i64 y.unt])).run Try.prog w = .ok (flEq x y) w := by
  have u3 := Try.underlying3
  have a3 := Try.isAgg3
  have z3 := Try.sizeOf3
  have a37 := Try.isAgg37
  have z37 := Try.sizeOf37
  have k9 := kequal9
  have hS : Try.prog.underlying 42 = some (.struct (Try.prog.fieldsOf 42)) := by kernel_rfl
  have hp : Try.prog.stoodInHeld 42 = false := by kernel_rfl
  rw [show (10000 : Nat) = 9999 + 1 from rfl, run_equalIn_agg w 9999 42 _ _ hS hp]
  simp only [Program.fieldsOf, Try.underlying42]
  clear hS
  go_simp
  unfold flEq
  by_cases h1 : x.a = y.a <;> by_cases h2 : x.b = y.b <;> by_cases h3 : x.slot = y.slot <;> by_cases h4 : x.unt = y.unt <;> simp [h1, h2, h3, h4]

theorem eqF_ne {l1 l2 : List Fl} {k : Nat} (h1 : k < l1.length) (h2 : k < l2.length) (h : l1[k] ≠ l2[k]) : eqF l1 l2 = false :=
  eqF_false (by rintro rfl; exact h rfl)
theorem eqF_all {l1 l2 : List Fl} (hl : l1.length = l2.length) (h : ∀ j, j < l1.length → l1[j]? = l2[j]?) : eqF l1 l2 = true := by
  rw [eqF_iff]
  apply List.ext_getElem?
  intro j
  by_cases hj : j < l1.length
  · exact h j hj
  · rw [List.getElem?_eq_none (by omega), List.getElem?_eq_none (by omega)]

set_option maxHeartbeats 3200000 in
theorem equalF_any (a1 a2 : Option Addr) (c1 c2 : Nat) (l1 l2 : List Fl) (w : World) (r1 : FRow w a1 c1 l1) (r2 : FRow w a2 c2 l2) :
    Calls Try.prog 58 #[.slice a1 l1.length c1, .slice a2 l2.length c2] w fun e w' => e = .returned (.bool (eqF l1 l2)) ∧ Below w.heap.size w w' := by
  have m1 := r1.max; have m2 := r2.max
  have n1 : l1.length ≤ 9223372036854775807 := by omega
  have n2 : l2.length ≤ 9223372036854775807 := by omega
  by_cases hl : l1.length = l2.length
  rotate_left
  · have HV : Hid (eqF l1 l2 = false) := eqF_false (by rintro rfl; exact hl rfl)
    have hb : ((l1.length : Int) != (l2.length : Int)) = true := by rw [bne_iff_ne]; omega
    go_enter Try.func58, Try.ntmps58
    go_wp2
    go_ret
    exact ⟨ret_bool HV.out.symm, Below.refl _ _⟩
  · have HL : Hid (l1.length = l2.length) := hl
    have hb : ((l1.length : Int) != (l2.length : Int)) = false := by rw [hl]; simp
    clear hl
    have HZ1 : Hid _ := r1.at_
    have HZ2 : Hid _ := r2.at_
    clear r1 r2
    go_enter Try.func58, Try.ntmps58
    go_wp2
    go_loopw [13] (fun i wr => ∃ k q : Nat, k ≤ l1.length ∧ i = .int .i64 k ∧ wr = w.drewN q ∧ Hid (∀ j, j < k → l1[j]? = l2[j]?)) (fun i _ => l1.length - (intOf i).toNat)
    case atStart => exact ⟨0, 0, Nat.zero_le _, rfl, rfl, fun j hj => absurd hj (Nat.not_lt_zero _)⟩
    case round =>
      obtain ⟨k, q, hk, rfl, rfl, HE⟩ := hrel
      by_cases hlt : k < l1.length
      · have hlt2 : k < l2.length := by have := HL.out; omega
        rcases HZ1.out with h0 | ⟨b1, o1, rfl, hc1⟩
        · omega
        rcases HZ2.out with h0 | ⟨b2, o2, rfl, hc2⟩
        · omega
        obtain ⟨x0, x1, x2, x3⟩ := hc1 k hlt
        obtain ⟨y0, y1, y2, y3⟩ := hc2 k hlt2
        rw [← World.cell?_drewN (n := q)] at x0 x1 x2 x3 y0 y1 y2 y3
        clear hc1 hc2
        generalize hwq : w.drewN q = wq at x0 x1 x2 x3 y0 y1 y2 y3 ⊢
        have HWQ : Hid _ := hwq
        clear hwq
        generalize hx : l1[k] = x at x0 x1 x2 x3
        generalize hy : l2[k] = y at y0 y1 y2 y3
        have HX : Hid (l1[k] = x ∧ l2[k] = y) := ⟨hx, hy⟩
        clear hx hy
        have se := fequal x y
        cases hxy : flEq x y
        · have HV : Hid (eqF l1 l2 = false) := eqF_ne hlt hlt2 (by rw [HX.out.1, HX.out.2]; intro e; rw [e, flEq_refl] at hxy; cases hxy)
          go_wp2_with fail
          go_quiet (fail)
          go_wp2
          go_ret
          exact ⟨ret_bool HV.out.symm, by rw [← HWQ.out, World.drewN_drewN]; exact drewN_below _ _⟩
        · have HV : Hid (∀ j, j < k + 1 → l1[j]? = l2[j]?) := fun j hj => by
            by_cases e : j = k
            · subst e
              rw [List.getElem?_eq_getElem hlt, List.getElem?_eq_getElem hlt2, HX.out.1, HX.out.2, (flEq_iff x y).1 hxy]
            · exact HE.out j (by omega)
          go_wp2_with fail
          go_quiet (fail)
          go_wp2
          go_roundw
          case rel => exact ⟨k + 1, q + nq, by omega, by go_num, by rw [← HWQ.out, World.drewN_drewN], HV⟩
          case measure => simp [intOf]; omega
      · have HV : Hid (eqF l1 l2 = true) := eqF_all HL.out (fun j hj => HE.out j (by omega))
        go_wp2
        go_ret
        exact ⟨ret_bool HV.out.symm, drewN_below _ _⟩





end Go.Proofs.Ytdbilofhcadmoab.mm

/- Changes of memory of one's own by what an Add is made of, and what they leave: a slot is taken, linked; a lock is had, given back. -/
namespace Go.Proofs.Ytdbilofhcadmoab.mm
open Go.ChangeShapes Go.WideShapes Go.ChangeAt Go.RowKit Go.Joins
set_option maxRecDepth 100000
set_option linter.unusedVariables false

theorem Fine.set6 {w w1 : World} {Z : Nat → Prop} {g : Nat} (h : Fine w w1 Z) (hk : Z g ∨ w.heap.size ≤ g) (o : Nat) (s : Sl) : Fine w (mm.set6 w1 g o s) Z := by
  unfold mm.set6
  exact (((((h.set hk _ _).set hk _ _).set hk _ _).set hk _ _).set hk _ _).set hk _ _

theorem last_form {M : Mm} (hM : Ok M) (hF : 0 < M.free.length) (ka kb u : Int) : ∃ n j : Nat, ∃ hn : M.free.length = n + 1, ∃ hj : j < M.slots.length, M.free[n]'(by omega) = j ∧ lastF M = j ∧ takeM M ka kb u = { M with slots := M.slots.set j ⟨1, ka, kb, u, false, M.slots[j].next⟩, free := M.free.take n } := by
  have hl := last_ok hM (by omega)
  obtain ⟨n, hn⟩ : ∃ n, M.free.length = n + 1 := ⟨M.free.length - 1, by omega⟩
  have hnF : n < M.free.length := by omega
  have hlast : lastF M = M.free[n] := by
    show M.free.getD (M.free.length - 1) 0 = _
    rw [show M.free.length - 1 = n by omega]
    simp [List.getD_eq_getElem?_getD, hnF]
  obtain ⟨j, hj⟩ : ∃ j : Nat, lastF M = j := ⟨(lastF M).toNat, by omega⟩
  have hjS : j < M.slots.length := by omega
  refine ⟨n, j, hn, hjS, hlast.symm.trans hj, hj, ?_⟩
  unfold takeM
  rw [hj, show M.free.length - 1 = n by omega]
  simp [List.getD_eq_getElem?_getD, hjS]

theorem take_fine {M : Mm} {w : World} {B lo : Nat} {Z : Nat → Prop} {ka kb u : Int} (H : Has w B lo Z M) (hM : Ok M) (hF : 0 < M.free.length) :
    Calls Try.prog 140 #[.pointer (some ⟨B, 0, none⟩), .agg #[.int .i64 ka, .int .i64 kb], .int .i64 u] w fun e w' => e = .returned (.tuple #[.int .i64 (lastF M), .bool true]) ∧ Has w' B lo (Up w Z) (takeM M ka kb u) ∧ Fine w w' Z := by
  obtain ⟨aS, aH, aF, aL, cS, cH, cF, cL, m, hf⟩ := H
  obtain ⟨n, j, hn, hjS, hFj, hj, hT⟩ := last_form hM hF ka kb u
  obtain ⟨gS, rfl, oS, lS, -, -⟩ := row_form m.c.s (by omega)
  obtain ⟨gF, rfl, oF, lF, kF, kF2⟩ := row_form m.c.f hF
  rw [hT, hj]
  refine (take_in w B lo gS gF n j cS cH cF cL aH aL M ka kb u m hn hjS hFj (by omega) kF2).mono ?_
  rintro e w' ⟨rfl, w1, hb1, rfl⟩
  have mp := ((m.below hb1).pop hn).set6 (j := j) hjS ⟨1, ka, kb, u, false, M.slots[j].next⟩
  have kp : Fine w _ Z := (((Fine.of_below Z hb1).set (k := B) (.inl (hf _ (.inl rfl))) 2 (.slice (some ⟨gF, 0, none⟩) n cF))).set6 (.inl (hf gS (.inr (.inl ⟨_, rfl, rfl⟩)))) (j * 6) ⟨1, ka, kb, u, false, M.slots[j].next⟩
  generalize mm.set6 (w1.setCell ⟨B, 2, none⟩ (.slice (some ⟨gF, 0, none⟩) n cF)) gS (j * 6) ⟨1, ka, kb, u, false, M.slots[j].next⟩ = W at *
  have hb : Below W.heap.size W W.drew := (Below.refl _ _).drew
  exact ⟨rfl, ⟨_, _, _, _, _, _, _, _, mp.below hb, fun k hk => .inl (hf k hk)⟩, kp.below hb⟩

theorem take_none {M : Mm} {w : World} {B lo : Nat} {Z : Nat → Prop} {ka kb u : Int} (H : Has w B lo Z M) (hF : M.free.length = 0) :
    Calls Try.prog 140 #[.pointer (some ⟨B, 0, none⟩), .agg #[.int .i64 ka, .int .i64 kb], .int .i64 u] w fun e w' => e = .returned (.tuple #[.int .i64 0, .bool false]) ∧ Below w.heap.size w w' := by
  obtain ⟨aS, aH, aF, aL, cS, cH, cF, cL, m, hf⟩ := H
  have hB := m.box
  rw [hF] at hB
  exact take_no w B _ _ _ _ aF cF ka kb u hB

theorem rtake_fine {M : Mm} {w : World} {B lo : Nat} {Z : Nat → Prop} {ka kb u : Int} (H : Has w B lo Z M) (hM : Ok M) (hF : 0 < M.free.length) :
    Calls Try.prog 122 #[.pointer (some ⟨B, 0, none⟩), .agg #[.int .i64 ka, .int .i64 kb], .int .i64 u] w fun e w' => e = .returned (.tuple #[.int .i64 (lastF M), .bool true]) ∧ Has w' B lo (Up w Z) (takeM M ka kb u) ∧ Fine w w' Z := by
  have hfew := free_few hM
  obtain ⟨aS, aH, aF, aL, cS, cH, cF, cL, m, hf⟩ := H
  obtain ⟨n, j, hn, hjS, hFj, hj, hT⟩ := last_form hM hF ka kb u
  obtain ⟨gS, rfl, oS, lS, -, -⟩ := row_form m.c.s (by omega)
  obtain ⟨gF, rfl, oF, lF, kF, kF2⟩ := row_form m.c.f hF
  rw [hT, hj]
  have hnF : n < M.free.length := by omega
  obtain ⟨c0, c1, c2, c3, c4, c5, fz⟩ := row_cells m.c.s hjS
  have cx := (row_cell m.c.f hnF).1
  rw [hFj] at cx
  have hB := m.box
  rw [hn] at hB
  have m1 := m.m1
  have hlen : (M.free.take n).length = n := by rw [List.length_take]; omega
  have hFc : ∀ q u, (encI (M.free.take n))[q]? = some u → w.cell? ⟨gF, q, none⟩ = some u := fun q u h => by
    have hq : q < n := by
      have := (List.getElem?_eq_some_iff.1 h).1
      rwa [encI_len, hlen] at this
    rw [m.c.f.cellAt q (by omega), ← h]
    simp [encI, List.getElem?_take_of_lt hq]
  refine (rtake_in w B gS gF _ n j cS cF _ _ _ ka kb u _ _ _ _ _ _ (M.free.take n) hB (by omega) kF2 (by omega) hjS (by omega) m.ne_s m.ne_f lS lF hlen cx hFc c0 c1 c2 c3 c4 c5 fz).mono ?_
  rintro e w' ⟨rfl, a', c', w1, hb, ho, k, rfl⟩
  have hi' := own_hi ho
  have mp := (m.newF (M.free.take n) (by rw [hlen]; omega) hb hlen ho).set6 (j := j) hjS ⟨1, ka, kb, u, false, M.slots[j].next⟩
  have kp : Fine w _ Z := (((Fine.of_below Z hb).set (k := B) (.inl (hf _ (.inl rfl))) 2 (.slice a' n c'))).set6 (.inl (hf gS (.inr (.inl ⟨_, rfl, rfl⟩)))) (j * 6) ⟨1, ka, kb, u, false, M.slots[j].next⟩
  generalize mm.set6 (w1.setCell ⟨B, 2, none⟩ (.slice a' n c')) gS (j * 6) ⟨1, ka, kb, u, false, M.slots[j].next⟩ = W at *
  have hbl : Below W.heap.size W (W.drewN k) := below_draws _ _ k
  exact ⟨rfl, ⟨_, _, _, _, _, _, _, _, mp.below hbl, foot_hold hf hi'⟩, kp.below hbl⟩

theorem rtake_none {M : Mm} {w : World} {B lo : Nat} {Z : Nat → Prop} {ka kb u : Int} (H : Has w B lo Z M) (hF : M.free.length = 0) :
    Calls Try.prog 122 #[.pointer (some ⟨B, 0, none⟩), .agg #[.int .i64 ka, .int .i64 kb], .int .i64 u] w fun e w' => e = .returned (.tuple #[.int .i64 0, .bool false]) ∧ Below w.heap.size w w' := by
  obtain ⟨aS, aH, aF, aL, cS, cH, cF, cL, m, hf⟩ := H
  have hB := m.box
  rw [hF] at hB
  exact rtake_no w B _ _ _ _ aF cF ka kb u hB

theorem linkB_at (M : Mm) (j b : Nat) : linkB M j b = linkAt M j b := rfl

theorem link_fine {M : Mm} {w : World} {B lo : Nat} {Z : Nat → Prop} {j b : Nat} (H : Has w B lo Z M) (hM : Ok M) (hj : j < M.slots.length) (hb : b < M.heads.length) :
    Calls Try.prog 80 #[.pointer (some ⟨B, 0, none⟩), .int .i64 b, .int .i64 j] w fun e w' => e = .returned (.tuple #[]) ∧ Has w' B lo (Up w Z) (linkB M j b) ∧ Fine w w' Z := by
  obtain ⟨aS, aH, aF, aL, cS, cH, cF, cL, m, hf⟩ := H
  obtain ⟨gS, rfl, oS, lS, -, -⟩ := row_form m.c.s (by omega)
  obtain ⟨gH, rfl, oH, lH, -, -⟩ := row_form m.c.h (by omega)
  obtain ⟨c0, c1, c2, c3, c4, c5, fz⟩ := row_cells m.c.s hj
  obtain ⟨ch, fh⟩ := row_cell m.c.h hb
  have dj : gS ≠ gH := fun e => own_dj m.c.s m.c.h (by decide) gS rfl (by rw [e]; rfl)
  refine (link_in w B gS gH _ _ j b cS cH _ _ _ _ _ _ m.box hj hb hM.ns hM.nh.2 m.ne_s dj m.ne_h lS lH c4 c5 fz ch fh).mono ?_
  rintro e w' ⟨rfl, rfl⟩
  have hs : slotAt M j = M.slots[j] := slotAt_lt hj
  have hhd : headM M b = M.heads[b] := by simp [headM, List.getD_eq_getElem?_getD, hb]
  rw [linkB_at]
  unfold linkAt
  rw [hs, hhd]
  have h5 := encS_set5 M.slots j hj M.heads[b]
  have h2 := encS_set2 M.slots j hj M.heads[b] true
  rw [h5] at h2
  have m2 := ((m.setS (j * 6 + 5) (.int .i64 M.heads[b]) _ h5).setS (j * 6 + 4) (.bool true) _ h2).setH b ((j : Int) + 1)
  have zS : Z gS ∨ w.heap.size ≤ gS := .inl (hf gS (.inr (.inl ⟨_, rfl, rfl⟩)))
  have zH : Z gH ∨ w.heap.size ≤ gH := .inl (hf gH (.inr (.inr (.inl ⟨_, rfl, rfl⟩))))
  have k2 : Fine w _ Z := (((Fine.refl w Z).set zS (j * 6 + 5) (.int .i64 M.heads[b])).set zS (j * 6 + 4) (.bool true)).set zH b (.int .i64 ((j : Int) + 1))
  generalize ((w.setCell ⟨gS, j * 6 + 5, none⟩ (.int .i64 M.heads[b])).setCell ⟨gS, j * 6 + 4, none⟩ (.bool true)).setCell ⟨gH, b, none⟩ (.int .i64 ((j : Int) + 1)) = W at *
  have hbl : Below W.heap.size W W.drew := (Below.refl _ _).drew
  exact ⟨rfl, ⟨_, _, _, _, _, _, _, _, m2.below hbl, fun k hk => .inl (hf k hk)⟩, k2.below hbl⟩

theorem rlink_fine {M : Mm} {w : World} {B lo : Nat} {Z : Nat → Prop} {j b : Nat} (H : Has w B lo Z M) (hM : Ok M) (hj : j < M.slots.length) (hb : b < M.heads.length) :
    Calls Try.prog 124 #[.pointer (some ⟨B, 0, none⟩), .int .i64 j, .int .i64 b] w fun e w' => e = .returned (.tuple #[]) ∧ Has w' B lo (Up w Z) (linkB M j b) ∧ Fine w w' Z := by
  obtain ⟨aS, aH, aF, aL, cS, cH, cF, cL, m, hf⟩ := H
  obtain ⟨gS, rfl, oS, lS, -, -⟩ := row_form m.c.s (by omega)
  obtain ⟨gH, rfl, oH, lH, -, -⟩ := row_form m.c.h (by omega)
  obtain ⟨c0, c1, c2, c3, c4, c5, fz⟩ := row_cells m.c.s hj
  obtain ⟨ch, fh⟩ := row_cell m.c.h hb
  have dj : gS ≠ gH := fun e => own_dj m.c.s m.c.h (by decide) gS rfl (by rw [e]; rfl)
  refine (rlink_in w B gS gH _ _ j b cS cH _ _ _ _ _ _ _ _ _ _ m.box hj hb hM.ns hM.nh.2 m.ne_s dj m.ne_h lS lH c0 c1 c2 c3 c4 c5 fz ch fh).mono ?_
  rintro e w' ⟨rfl, ob, rfl⟩
  have hs : slotAt M j = M.slots[j] := slotAt_lt hj
  have hhd : headM M b = M.heads[b] := by simp [headM, List.getD_eq_getElem?_getD, hb]
  rw [linkB_at]
  unfold linkAt
  rw [hs, hhd]
  have m2 := (m.set6 (j := j) hj ⟨M.slots[j].refs, M.slots[j].a, M.slots[j].b, M.slots[j].unt, true, M.heads[b]⟩).setH b ((j : Int) + 1)
  have zS : Z gS ∨ w.heap.size ≤ gS := .inl (hf gS (.inr (.inl ⟨_, rfl, rfl⟩)))
  have zH : Z gH ∨ w.heap.size ≤ gH := .inl (hf gH (.inr (.inr (.inl ⟨_, rfl, rfl⟩))))
  have k2 : Fine w _ Z := ((Fine.refl w Z).set6 zS (j * 6) ⟨M.slots[j].refs, M.slots[j].a, M.slots[j].b, M.slots[j].unt, true, M.heads[b]⟩).set zH b (.int .i64 ((j : Int) + 1))
  generalize (mm.set6 w gS (j * 6) ⟨M.slots[j].refs, M.slots[j].a, M.slots[j].b, M.slots[j].unt, true, M.heads[b]⟩).setCell ⟨gH, b, none⟩ (.int .i64 ((j : Int) + 1)) = W at *
  have hbl : Below W.heap.size W ((W.alloc ob).drew) := (one_below W ob).drew
  exact ⟨rfl, ⟨_, _, _, _, _, _, _, _, m2.below hbl, fun k hk => .inl (hf k hk)⟩, k2.below hbl⟩

/- Locks. -/
theorem isLockOf_any (w : World) (B gL nL b cL : Nat) (sv hv fv nv : Value) (x t : Int)
    (hB : w.heap[B]? = some (.cells #[sv, hv, fv, .slice (some ⟨gL, 0, none⟩) nL cL, nv] 25 (0, 0))) (hb : b < nL) (hn : nL ≤ 1000) (c : w.cell? ⟨gL, b, none⟩ = some (.int .i64 x)) :
    Calls Try.prog 161 #[.pointer (some ⟨B, 0, none⟩), .int .i64 b, .int .i64 t] w fun e w' => e = .returned (.bool (x == t)) ∧ w = w' := by
  obtain ⟨q0, q1, q2, q3, q4, -, -, -, -, -, qs⟩ := boxf hB
  have hw : inB (b : Int) 0 ((nL : Int) - 1) = true := (inB_iff _ _ _).2 (by omega)
  have HW : Hid (∀ W : World, Calls Try.prog 81 #[.int .i64 (b : Int), .int .i64 0, .int .i64 ((nL : Int) - 1)] W fun e w' => e = .returned (.bool true) ∧ W = w') := fun W => hw ▸ within_any _ _ _ W
  clear hB hw
  go_enter Try.func161, Try.ntmps161
  go_wp2_with (go_at_call 81; refine (HW.out _).mono ?_; rintro e w1 ⟨rfl, rfl⟩)
  go_ret
  exact ⟨rfl, rfl⟩

theorem lock_yes (w : World) (B gL nL b cL : Nat) (sv hv fv nv : Value) (t : Int)
    (hB : w.heap[B]? = some (.cells #[sv, hv, fv, .slice (some ⟨gL, 0, none⟩) nL cL, nv] 25 (0, 0))) (hb : b < nL) (hn : nL ≤ 1000) (c : w.cell? ⟨gL, b, none⟩ = some (.int .i64 (-1))) (fz : w.frozen? ⟨gL, b, none⟩ = false) :
    Calls Try.prog 155 #[.pointer (some ⟨B, 0, none⟩), .int .i64 b, .int .i64 t] w fun e w' => e = .returned (.bool true) ∧ w.setCell ⟨gL, b, none⟩ (.int .i64 t) = w' := by
  have HW : Hid (Calls Try.prog 161 #[.pointer (some ⟨B, 0, none⟩), .int .i64 b, .int .i64 (-1)] w fun e w' => e = .returned (.bool true) ∧ w = w') := isLockOf_any w B gL nL b cL sv hv fv nv (-1) (-1) hB hb hn c
  obtain ⟨q0, q1, q2, q3, q4, -, -, -, -, -, qs⟩ := boxf hB
  clear hB
  go_enter Try.func155, Try.ntmps155
  go_wp2_with (go_at_call 161; refine HW.out.mono ?_; rintro e w1 ⟨rfl, rfl⟩)
  go_ret
  exact ⟨rfl, rfl⟩

theorem lock_no (w : World) (B gL nL b cL : Nat) (sv hv fv nv : Value) (x t : Int)
    (hB : w.heap[B]? = some (.cells #[sv, hv, fv, .slice (some ⟨gL, 0, none⟩) nL cL, nv] 25 (0, 0))) (hb : b < nL) (hn : nL ≤ 1000) (c : w.cell? ⟨gL, b, none⟩ = some (.int .i64 x)) (hx : (x == -1) = false) :
    Calls Try.prog 155 #[.pointer (some ⟨B, 0, none⟩), .int .i64 b, .int .i64 t] w fun e w' => e = .returned (.bool false) ∧ w = w' := by
  have HW : Hid (Calls Try.prog 161 #[.pointer (some ⟨B, 0, none⟩), .int .i64 b, .int .i64 (-1)] w fun e w' => e = .returned (.bool false) ∧ w = w') := hx ▸ isLockOf_any w B gL nL b cL sv hv fv nv x (-1) hB hb hn c
  obtain ⟨q0, q1, q2, q3, q4, -, -, -, -, -, qs⟩ := boxf hB
  clear hB hx
  go_enter Try.func155, Try.ntmps155
  go_wp2_with (go_at_call 161; refine HW.out.mono ?_; rintro e w1 ⟨rfl, rfl⟩)
  go_ret
  exact ⟨rfl, rfl⟩

theorem unlock_yes (w : World) (B gL nL b cL : Nat) (sv hv fv nv : Value) (t : Int)
    (hB : w.heap[B]? = some (.cells #[sv, hv, fv, .slice (some ⟨gL, 0, none⟩) nL cL, nv] 25 (0, 0))) (hb : b < nL) (hn : nL ≤ 1000) (c : w.cell? ⟨gL, b, none⟩ = some (.int .i64 t)) (fz : w.frozen? ⟨gL, b, none⟩ = false) :
    Calls Try.prog 156 #[.pointer (some ⟨B, 0, none⟩), .int .i64 b, .int .i64 t] w fun e w' => e = .returned (.tuple #[]) ∧ w.setCell ⟨gL, b, none⟩ (.int .i64 (-1)) = w' := by
  have HW : Hid (Calls Try.prog 161 #[.pointer (some ⟨B, 0, none⟩), .int .i64 b, .int .i64 t] w fun e w' => e = .returned (.bool true) ∧ w = w') := (show (t == t) = true by simp) ▸ isLockOf_any w B gL nL b cL sv hv fv nv t t hB hb hn c
  obtain ⟨q0, q1, q2, q3, q4, -, -, -, -, -, qs⟩ := boxf hB
  clear hB
  go_enter Try.func156, Try.ntmps156
  go_wp2_with (go_at_call 161; refine HW.out.mono ?_; rintro e w1 ⟨rfl, rfl⟩)
  go_end0
  exact ⟨rfl, rfl⟩

theorem unlock_no (w : World) (B gL nL b cL : Nat) (sv hv fv nv : Value) (x t : Int)
    (hB : w.heap[B]? = some (.cells #[sv, hv, fv, .slice (some ⟨gL, 0, none⟩) nL cL, nv] 25 (0, 0))) (hb : b < nL) (hn : nL ≤ 1000) (c : w.cell? ⟨gL, b, none⟩ = some (.int .i64 x)) (hx : (x == t) = false) :
    Calls Try.prog 156 #[.pointer (some ⟨B, 0, none⟩), .int .i64 b, .int .i64 t] w fun e w' => e = .returned (.tuple #[]) ∧ w = w' := by
  have HW : Hid (Calls Try.prog 161 #[.pointer (some ⟨B, 0, none⟩), .int .i64 b, .int .i64 t] w fun e w' => e = .returned (.bool false) ∧ w = w') := hx ▸ isLockOf_any w B gL nL b cL sv hv fv nv x t hB hb hn c
  obtain ⟨q0, q1, q2, q3, q4, -, -, -, -, -, qs⟩ := boxf hB
  clear hB hx
  go_enter Try.func156, Try.ntmps156
  go_wp2_with (go_at_call 161; refine HW.out.mono ?_; rintro e w1 ⟨rfl, rfl⟩)
  go_end0
  exact ⟨rfl, rfl⟩

theorem rlocks_yes (w : World) (B gL nL b cL : Nat) (sv hv fv nv : Value) (t : Int)
    (hB : w.heap[B]? = some (.cells #[sv, hv, fv, .slice (some ⟨gL, 0, none⟩) nL cL, nv] 25 (0, 0))) (hb : b < nL) (hn : nL ≤ 1000) (c : w.cell? ⟨gL, b, none⟩ = some (.int .i64 (-1))) (fz : w.frozen? ⟨gL, b, none⟩ = false) :
    Calls Try.prog 123 #[.pointer (some ⟨B, 0, none⟩), .int .i64 b, .int .i64 t] w fun e w' => e = .returned (.bool true) ∧ w.setCell ⟨gL, b, none⟩ (.int .i64 t) = w' := by
  obtain ⟨q0, q1, q2, q3, q4, -, -, -, -, -, qs⟩ := boxf hB
  clear hB
  go_enter Try.func123, Try.ntmps123
  go_wp2
  go_ret
  exact ⟨rfl, rfl⟩

theorem rlocks_no (w : World) (B gL nL b cL : Nat) (sv hv fv nv : Value) (x t : Int)
    (hB : w.heap[B]? = some (.cells #[sv, hv, fv, .slice (some ⟨gL, 0, none⟩) nL cL, nv] 25 (0, 0))) (hb : b < nL) (hn : nL ≤ 1000) (c : w.cell? ⟨gL, b, none⟩ = some (.int .i64 x)) (hx : (x == -1) = false) :
    Calls Try.prog 123 #[.pointer (some ⟨B, 0, none⟩), .int .i64 b, .int .i64 t] w fun e w' => e = .returned (.bool false) ∧ w = w' := by
  obtain ⟨q0, q1, q2, q3, q4, -, -, -, -, -, qs⟩ := boxf hB
  clear hB
  go_enter Try.func123, Try.ntmps123
  go_wp2
  go_ret
  exact ⟨rfl, rfl⟩

theorem runlocks_yes (w : World) (B gL nL b cL : Nat) (sv hv fv nv : Value) (t : Int)
    (hB : w.heap[B]? = some (.cells #[sv, hv, fv, .slice (some ⟨gL, 0, none⟩) nL cL, nv] 25 (0, 0))) (hb : b < nL) (hn : nL ≤ 1000) (c : w.cell? ⟨gL, b, none⟩ = some (.int .i64 t)) (fz : w.frozen? ⟨gL, b, none⟩ = false) :
    Calls Try.prog 125 #[.pointer (some ⟨B, 0, none⟩), .int .i64 b, .int .i64 t] w fun e w' => e = .returned (.tuple #[]) ∧ w.setCell ⟨gL, b, none⟩ (.int .i64 (-1)) = w' := by
  obtain ⟨q0, q1, q2, q3, q4, -, -, -, -, -, qs⟩ := boxf hB
  clear hB
  have ht : (t == t) = true := by simp
  go_enter Try.func125, Try.ntmps125
  go_wp2
  go_end0
  exact ⟨rfl, rfl⟩

theorem runlocks_no (w : World) (B gL nL b cL : Nat) (sv hv fv nv : Value) (x t : Int)
    (hB : w.heap[B]? = some (.cells #[sv, hv, fv, .slice (some ⟨gL, 0, none⟩) nL cL, nv] 25 (0, 0))) (hb : b < nL) (hn : nL ≤ 1000) (c : w.cell? ⟨gL, b, none⟩ = some (.int .i64 x)) (hx : (x == t) = false) :
    Calls Try.prog 125 #[.pointer (some ⟨B, 0, none⟩), .int .i64 b, .int .i64 t] w fun e w' => e = .returned (.tuple #[]) ∧ w = w' := by
  obtain ⟨q0, q1, q2, q3, q4, -, -, -, -, -, qs⟩ := boxf hB
  clear hB
  go_enter Try.func125, Try.ntmps125
  go_wp2
  go_end0
  exact ⟨rfl, rfl⟩

/- What Lock and Unlock, and the document's own, make of memory: L says what is had, t who asks. -/
def lockN (M : Mm) (b : Nat) (t : Int) : Mm := if lockAt M b = -1 then lockM M b t else M
def openN (M : Mm) (b : Nat) (t : Int) : Mm := if lockAt M b = t then lockM M b (-1) else M

theorem lockAt_get {M : Mm} {b : Nat} (hb : b < M.locks.length) : lockAt M b = M.locks[b] := by simp [lockAt, List.getD_eq_getElem?_getD, hb]

theorem lock_made {M : Mm} {w : World} {B lo b : Nat} {Z : Nat → Prop} {aS aH aF : Option Addr} {gL cS cH cF cL : Nat} {t : Int} (m : Mine w B lo aS aH aF (some ⟨gL, 0, none⟩) cS cH cF cL M) (hf : ∀ k, Foot B aS aH aF (some ⟨gL, 0, none⟩) k → Z k) :
    Has (w.setCell ⟨gL, b, none⟩ (.int .i64 t)) B lo (Up w Z) (lockM M b t) ∧ Fine w (w.setCell ⟨gL, b, none⟩ (.int .i64 t)) Z :=
  ⟨⟨_, _, _, _, _, _, _, _, m.setL b t, fun k hk => .inl (hf k hk)⟩, (Fine.refl w Z).set (.inl (hf gL (.inr (.inr (.inr (.inr ⟨_, rfl, rfl⟩)))))) _ _⟩

theorem lock_fine {M : Mm} {w : World} {B lo b : Nat} {Z : Nat → Prop} (t : Int) (H : Has w B lo Z M) (hM : Ok M) (hb : b < M.heads.length) :
    Calls Try.prog 155 #[.pointer (some ⟨B, 0, none⟩), .int .i64 b, .int .i64 t] w fun e w' => e = .returned (.bool (lockAt M b == -1)) ∧ Has w' B lo (Up w Z) (lockN M b t) ∧ Fine w w' Z := by
  have hl := hM.nl
  have hh := hM.nh.2
  have H' := H
  obtain ⟨aS, aH, aF, aL, cS, cH, cF, cL, m, hf⟩ := H
  obtain ⟨gL, rfl, oL, lL, -, -⟩ := row_form m.c.l (by omega)
  obtain ⟨c, fz⟩ := row_cell m.c.l (j := b) (by omega)
  rw [← lockAt_get (by omega)] at c
  unfold lockN
  by_cases h : lockAt M b = -1
  · rw [h] at c ⊢
    refine (lock_yes w B gL _ b cL _ _ _ _ t m.box (by omega) (by omega) c fz).mono ?_
    rintro e w' ⟨rfl, rfl⟩
    rw [if_pos rfl]
    exact ⟨rfl, lock_made m hf⟩
  · have hx : (lockAt M b == -1) = false := by simpa using h
    rw [hx, if_neg h]
    refine (lock_no w B gL _ b cL _ _ _ _ _ t m.box (by omega) (by omega) c hx).mono ?_
    rintro e w' ⟨rfl, rfl⟩
    exact ⟨rfl, H'.up, .refl _ _⟩

theorem rlock_fine {M : Mm} {w : World} {B lo b : Nat} {Z : Nat → Prop} (t : Int) (H : Has w B lo Z M) (hM : Ok M) (hb : b < M.heads.length) :
    Calls Try.prog 123 #[.pointer (some ⟨B, 0, none⟩), .int .i64 b, .int .i64 t] w fun e w' => e = .returned (.bool (lockAt M b == -1)) ∧ Has w' B lo (Up w Z) (lockN M b t) ∧ Fine w w' Z := by
  have hl := hM.nl
  have hh := hM.nh.2
  have H' := H
  obtain ⟨aS, aH, aF, aL, cS, cH, cF, cL, m, hf⟩ := H
  obtain ⟨gL, rfl, oL, lL, -, -⟩ := row_form m.c.l (by omega)
  obtain ⟨c, fz⟩ := row_cell m.c.l (j := b) (by omega)
  rw [← lockAt_get (by omega)] at c
  unfold lockN
  by_cases h : lockAt M b = -1
  · rw [h] at c ⊢
    refine (rlocks_yes w B gL _ b cL _ _ _ _ t m.box (by omega) (by omega) c fz).mono ?_
    rintro e w' ⟨rfl, rfl⟩
    rw [if_pos rfl]
    exact ⟨rfl, lock_made m hf⟩
  · have hx : (lockAt M b == -1) = false := by simpa using h
    rw [hx, if_neg h]
    refine (rlocks_no w B gL _ b cL _ _ _ _ _ t m.box (by omega) (by omega) c hx).mono ?_
    rintro e w' ⟨rfl, rfl⟩
    exact ⟨rfl, H'.up, .refl _ _⟩

theorem unlock_fine {M : Mm} {w : World} {B lo b : Nat} {Z : Nat → Prop} (t : Int) (H : Has w B lo Z M) (hM : Ok M) (hb : b < M.heads.length) :
    Calls Try.prog 156 #[.pointer (some ⟨B, 0, none⟩), .int .i64 b, .int .i64 t] w fun e w' => e = .returned (.tuple #[]) ∧ Has w' B lo (Up w Z) (openN M b t) ∧ Fine w w' Z := by
  have hl := hM.nl
  have hh := hM.nh.2
  have H' := H
  obtain ⟨aS, aH, aF, aL, cS, cH, cF, cL, m, hf⟩ := H
  obtain ⟨gL, rfl, oL, lL, -, -⟩ := row_form m.c.l (by omega)
  obtain ⟨c, fz⟩ := row_cell m.c.l (j := b) (by omega)
  rw [← lockAt_get (by omega)] at c
  unfold openN
  by_cases h : lockAt M b = t
  · rw [h] at c
    refine (unlock_yes w B gL _ b cL _ _ _ _ t m.box (by omega) (by omega) c fz).mono ?_
    rintro e w' ⟨rfl, rfl⟩
    rw [if_pos h]
    exact ⟨rfl, lock_made m hf⟩
  · have hx : (lockAt M b == t) = false := by simpa using h
    rw [if_neg h]
    refine (unlock_no w B gL _ b cL _ _ _ _ _ t m.box (by omega) (by omega) c hx).mono ?_
    rintro e w' ⟨rfl, rfl⟩
    exact ⟨rfl, H'.up, .refl _ _⟩

theorem runlock_fine {M : Mm} {w : World} {B lo b : Nat} {Z : Nat → Prop} (t : Int) (H : Has w B lo Z M) (hM : Ok M) (hb : b < M.heads.length) :
    Calls Try.prog 125 #[.pointer (some ⟨B, 0, none⟩), .int .i64 b, .int .i64 t] w fun e w' => e = .returned (.tuple #[]) ∧ Has w' B lo (Up w Z) (openN M b t) ∧ Fine w w' Z := by
  have hl := hM.nl
  have hh := hM.nh.2
  have H' := H
  obtain ⟨aS, aH, aF, aL, cS, cH, cF, cL, m, hf⟩ := H
  obtain ⟨gL, rfl, oL, lL, -, -⟩ := row_form m.c.l (by omega)
  obtain ⟨c, fz⟩ := row_cell m.c.l (j := b) (by omega)
  rw [← lockAt_get (by omega)] at c
  unfold openN
  by_cases h : lockAt M b = t
  · rw [h] at c
    refine (runlocks_yes w B gL _ b cL _ _ _ _ t m.box (by omega) (by omega) c fz).mono ?_
    rintro e w' ⟨rfl, rfl⟩
    rw [if_pos h]
    exact ⟨rfl, lock_made m hf⟩
  · have hx : (lockAt M b == t) = false := by simpa using h
    rw [if_neg h]
    refine (runlocks_no w B gL _ b cL _ _ _ _ _ t m.box (by omega) (by omega) c hx).mono ?_
    rintro e w' ⟨rfl, rfl⟩
    exact ⟨rfl, H'.up, .refl _ _⟩


end Go.Proofs.Ytdbilofhcadmoab.mm

/- The contracts of frame.CheckCall and of the document's own CheckCall. -/
namespace Go.Proofs.Ytdbilofhcadmoab.mm
open Go.ChangeShapes Go.WideShapes Go.ChangeAt Go.RowKit Go.Joins Go.Maps
set_option maxRecDepth 100000
set_option linter.unusedVariables false

theorem checkCall_any (aS aH aF aL : Option Addr) (nS nH nF nL cS cH cF cL : Nat) (now k a b t bk sl : Int) (w : World) (hn : nS ≤ 9223372036854775807) (hh : nH ≤ 9223372036854775807) :
    Calls Try.prog 24 #[.agg #[.slice aS nS cS, .slice aH nH cH, .slice aF nF cF, .slice aL nL cL, .int .i64 now], .agg #[.int .i64 k, .int .i64 a, .int .i64 b, .int .i64 t, .int .i64 bk, .int .i64 sl]] w fun e w' => e = .returned (.int .i64 (callE nS nH ⟨k, a, b, t, bk, sl⟩)) ∧ Below w.heap.size w w' := by
  have b0 : Below w.heap.size w ((w.alloc (.cells #[.slice aS nS cS, .slice aH nH cH, .slice aF nF cF, .slice aL nL cL, .int .i64 now] 25)).alloc (.cells #[.int .i64 k, .int .i64 a, .int .i64 b, .int .i64 t, .int .i64 bk, .int .i64 sl] 48)) := below_alloc2 w _ _
  have hk : ∀ W : World, Calls Try.prog 39 #[.agg #[.int .i64 a, .int .i64 b]] W fun e w' => e = .returned (.int .i64 (if keyB a b then 0 else 3)) ∧ Below W.heap.size W w' := fun W => kcheck_any a b W
  by_cases h13 : k = 1 ∨ k = 3
  · rw [callE_key h13]
    generalize (if keyB a b then (0 : Int) else 3) = kv at *
    rcases h13 with rfl | rfl
    all_goals
      go_enter Try.func24, Try.ntmps24
      go_wp2_with (go_at_call 39; refine (hk _).mono ?_; rintro e w1 ⟨rfl, hb1⟩)
      go_ret
      exact ⟨rfl, b0.trans (hb1.mono b0.size)⟩
  by_cases h2 : k = 2
  · subst h2
    clear h13
    rw [callE_add]
    cases hT : inB t 1 1000000
    · rw [Bool.false_and, if_neg (by simp)]
      go_enter Try.func24, Try.ntmps24
      go_wp2_with (go_at_call 81; refine (within_any _ _ _ _).mono ?_; rintro e w1 ⟨rfl, rfl⟩)
      go_ret
      exact ⟨rfl, b0⟩
    · rw [Bool.true_and]
      generalize (if keyB a b then (0 : Int) else 3) = kv at *
      go_enter Try.func24, Try.ntmps24
      go_wp2_with (first | (go_at_call 81; refine (within_any _ _ _ _).mono ?_; rintro e w1 ⟨rfl, rfl⟩) | (go_at_call 39; refine (hk _).mono ?_; rintro e w1 ⟨rfl, hb1⟩))
      go_ret
      exact ⟨rfl, b0.trans (hb1.mono b0.size)⟩
  by_cases h45 : k = 4 ∨ k = 5
  · rw [callE_bk h45]
    clear h13 h2
    have hc : ∀ W : World, Calls Try.prog 75 #[.agg #[.slice aS nS cS, .slice aH nH cH, .slice aF nF cF, .slice aL nL cL, .int .i64 now], .int .i64 bk] W fun e w' => e = .returned (.bool (inB bk 0 ((nH : Int) - 1))) ∧ Below W.heap.size W w' := fun W => hasChain_any aS aH aF aL nS nH nF nL cS cH cF cL now bk W hh
    cases hB : inB bk 0 ((nH : Int) - 1) <;> (rw [hB] at hc; rcases h45 with rfl | rfl)
    all_goals
      first | rw [if_pos rfl] | rw [if_neg (by simp)]
      go_enter Try.func24, Try.ntmps24
      go_wp2_with (go_at_call 75; refine (hc _).mono ?_; rintro e w1 ⟨rfl, hb1⟩)
      go_ret
      exact ⟨rfl, b0.trans (hb1.mono b0.size)⟩
  by_cases h6 : k = 6
  · subst h6
    clear h13 h2 h45
    rw [callE_leave]
    have hc : ∀ W : World, Calls Try.prog 78 #[.agg #[.slice aS nS cS, .slice aH nH cH, .slice aF nF cF, .slice aL nL cL, .int .i64 now], .int .i64 sl] W fun e w' => e = .returned (.bool (inB sl 0 ((nS : Int) - 1))) ∧ Below W.heap.size W w' := fun W => isSlot_any aS aH aF aL nS nH nF nL cS cH cF cL now sl W hn
    cases hB : inB sl 0 ((nS : Int) - 1) <;> rw [hB] at hc
    all_goals
      first | rw [if_pos rfl] | rw [if_neg (by simp)]
      go_enter Try.func24, Try.ntmps24
      go_wp2_with (go_at_call 78; refine (hc _).mono ?_; rintro e w1 ⟨rfl, hb1⟩)
      go_ret
      exact ⟨rfl, b0.trans (hb1.mono b0.size)⟩
  have hno : k < 1 ∨ 6 < k := by omega
  rw [callE_no hno]
  have e1 : (k == 1) = false := by rw [beq_eq_false_iff_ne]; omega
  have e2 : (k == 2) = false := by rw [beq_eq_false_iff_ne]; omega
  have e3 : (k == 3) = false := by rw [beq_eq_false_iff_ne]; omega
  have e4 : (k == 4) = false := by rw [beq_eq_false_iff_ne]; omega
  have e5 : (k == 5) = false := by rw [beq_eq_false_iff_ne]; omega
  have e6 : (k == 6) = false := by rw [beq_eq_false_iff_ne]; omega
  clear h13 h2 h45 h6 hno
  go_enter Try.func24, Try.ntmps24
  go_wp2
  go_ret
  exact ⟨rfl, b0⟩

theorem law4 : Keyed Try.prog 4 := bool_keyed Try.underlying4
theorem zero27 (w : World) : (zeroValue 27).run Try.prog w = .ok (.int .i64 0) w := by kernel_rfl
theorem under98 : Try.prog.underlying 98 = some (.map 4 27) := by kernel_rfl

theorem plainElem_int_inv {H : Type} {v : Value} {z : DataW H × List MemPlace} (h : plainElem Try.prog 27 v = some z) : ∃ x, v = .int .i64 x ∧ z = (.lit (.int .i64 x), []) := by
  unfold plainElem at h
  rw [Try.underlying27] at h
  cases v <;> simp at h
  obtain ⟨⟨rfl, _⟩, h⟩ := h
  exact ⟨_, rfl, h.symm⟩

/- Block g is the map of what is wrong. -/
def BadAt (w : World) (g : Nat) : Prop :=
  ∃ n, ∃ D : DataW Unit, w.ownsMap Try.prog 4 (plainElem Try.prog 27) g n D ∧ ∀ x : Bool, D.atKey (.bool x) (.lit (.int .i64 0)) = .lit (.int .i64 (if x then 0 else 3))
theorem BadAt.kept {w w' : World} {g : Nat} (h : BadAt w g) (hb : w'.heap[g]? = w.heap[g]?) : BadAt w' g := by
  obtain ⟨n, D, ⟨es, clock, hg, F, hs, hD⟩, hat⟩ := h
  exact ⟨n, D, ⟨es, clock, hb.trans hg, F, hs, hD⟩, hat⟩
theorem BadAt.lt {w : World} {g : Nat} (h : BadAt w g) : g < w.heap.size := by
  obtain ⟨n, D, ⟨es, clock, hg, F, hs, hD⟩, hat⟩ := h
  exact lt_of_block hg
theorem BadAt.look {w : World} {g : Nat} (h : BadAt w g) (x : Bool) : (Instr.lookup 98 (.map (some g)) (.bool x) false).run Try.prog w = .ok (.int .i64 (if x then 0 else 3)) w := by
  obtain ⟨n, D, ho, hat⟩ := h
  obtain ⟨v, ps, hrun, hv⟩ := ho.lookup law4 under98 (zero27 w) (plainElem_int Try.underlying27 (by decide)) (keyOf_bool_mk Try.underlying4 x)
  rw [hat x] at hv
  obtain ⟨y, rfl, hz⟩ := plainElem_int_inv hv
  rw [hrun]
  injection hz with h1 h2
  injection h1 with h1
  injection h1 with _ h1
  rw [h1]
theorem BadAt.put {w' : World} {g n : Nat} (h : w'.ownsMap Try.prog 4 (plainElem Try.prog 27) g n ((DataW.map [] : DataW Unit).put (.bool false) (.lit (.int .i64 3)))) : BadAt w' g := by
  refine ⟨n, _, h, fun x => ?_⟩
  cases x
  · rw [atKey_put_same ⟨_, rfl⟩ (by simp [WideAt.IsKeyLit])]; rfl
  · rw [atKey_put_other (by intro hh; cases hh)]; simp [DataW.atKey]

/- What a walk carries: memory's box, a call's, the map of what is wrong. -/
theorem callf {w : World} {B : Nat} {v0 v1 v2 v3 v4 v5 : Value} {t : TypeId} (h : w.heap[B]? = some (.cells #[v0, v1, v2, v3, v4, v5] t (0, 0))) :
    w.cell? ⟨B, 0, none⟩ = some v0 ∧ w.cell? ⟨B, 1, none⟩ = some v1 ∧ w.cell? ⟨B, 2, none⟩ = some v2 ∧ w.cell? ⟨B, 3, none⟩ = some v3 ∧ w.cell? ⟨B, 4, none⟩ = some v4 ∧ w.cell? ⟨B, 5, none⟩ = some v5 ∧ B < w.heap.size :=
  ⟨by rw [cell_of_block h]; rfl, by rw [cell_of_block h]; rfl, by rw [cell_of_block h]; rfl, by rw [cell_of_block h]; rfl, by rw [cell_of_block h]; rfl, by rw [cell_of_block h]; rfl, lt_of_block h⟩

theorem rcall_next {w1 w2 : World} {B : Nat} {v0 v1 v2 v3 v4 v5 : Value} (hb : Below w1.heap.size w1 w2) (c0 : w1.cell? ⟨B, 0, none⟩ = some v0) (c1 : w1.cell? ⟨B, 1, none⟩ = some v1) (c2 : w1.cell? ⟨B, 2, none⟩ = some v2) (c3 : w1.cell? ⟨B, 3, none⟩ = some v3) (c4 : w1.cell? ⟨B, 4, none⟩ = some v4) (c5 : w1.cell? ⟨B, 5, none⟩ = some v5) (cs : B < w1.heap.size) :
    w2.cell? ⟨B, 0, none⟩ = some v0 ∧ w2.cell? ⟨B, 1, none⟩ = some v1 ∧ w2.cell? ⟨B, 2, none⟩ = some v2 ∧ w2.cell? ⟨B, 3, none⟩ = some v3 ∧ w2.cell? ⟨B, 4, none⟩ = some v4 ∧ w2.cell? ⟨B, 5, none⟩ = some v5 ∧ B < w2.heap.size := by
  obtain ⟨q, f⟩ := bcell hb
  exact ⟨(q _ _ cs).trans c0, (q _ _ cs).trans c1, (q _ _ cs).trans c2, (q _ _ cs).trans c3, (q _ _ cs).trans c4, (q _ _ cs).trans c5, Nat.lt_of_lt_of_le cs hb.size⟩
theorem rcall_start {w W0 w1 : World} {om oc o1 o2 : Obj} (hB : W0.heap[w.heap.size]? = some om) (hC : W0.heap[w.heap.size + 1]? = some oc) (hz : W0.heap.size = w.heap.size + 2) (hb : Below w.heap.size w W0) (hd : BadAt w1 (w.heap.size + 1 + 1)) (e1 : om = o1) (e2 : oc = o2)
    (hg : (W0.alloc (.map #[] 0)).grownBy w1 (some (w.heap.size + 1 + 1))) : BadAt w1 (w.heap.size + 1 + 1) ∧ Below w.heap.size w w1 ∧ w1.heap[w.heap.size]? = some om ∧ w1.heap[w.heap.size + 1]? = some oc := by
  have h1 : Below W0.heap.size W0 w1 := (one_below W0 (.map #[] 0)).grown hg (by simp) (fun k h => by cases h; omega)
  exact ⟨hd, hb.trans (h1.mono (by omega)), (h1.block _ (by omega)).trans hB, (h1.block _ (by omega)).trans hC⟩

set_option maxHeartbeats 1600000 in
theorem rcheckCall_any (aS aH aF aL : Option Addr) (nS nH nF nL cS cH cF cL : Nat) (now k a b t bk sl : Int) (w : World) (hn : nS ≤ 9223372036854775807) (hh : nH ≤ 9223372036854775807) :
    Calls Try.prog 25 #[.agg #[.slice aS nS cS, .slice aH nH cH, .slice aF nF cF, .slice aL nL cL, .int .i64 now], .agg #[.int .i64 k, .int .i64 a, .int .i64 b, .int .i64 t, .int .i64 bk, .int .i64 sl]] w fun e w' => e = .returned (.int .i64 (callE nS nH ⟨k, a, b, t, bk, sl⟩)) ∧ Below w.heap.size w w' := by
  obtain ⟨om, hom⟩ : ∃ o : Obj, o = .cells #[.slice aS nS cS, .slice aH nH cH, .slice aF nF cF, .slice aL nL cL, .int .i64 now] 25 := ⟨_, rfl⟩
  obtain ⟨oc, hoc⟩ : ∃ o : Obj, o = .cells #[.int .i64 k, .int .i64 a, .int .i64 b, .int .i64 t, .int .i64 bk, .int .i64 sl] 48 := ⟨_, rfl⟩
  have b0 : Below w.heap.size w ((w.alloc om).alloc oc) := below_alloc2 w _ _
  have HB0 : Hid (((w.alloc om).alloc oc).heap[w.heap.size]? = some om) := by show _ = _; rw [Below.heap_alloc _ _ _ (by simp), heap_alloc_new]
  have HC0 : Hid (((w.alloc om).alloc oc).heap[w.heap.size + 1]? = some oc) := by
    have := heap_alloc_new (w.alloc om) oc
    rwa [show (w.alloc om).heap.size = w.heap.size + 1 by simp] at this
  have HZ0 : Hid (((w.alloc om).alloc oc).heap.size = w.heap.size + 2) := by show _ = _; simp
  have hmm := @run_makeMap Try.prog
  have HMM : Hid (((((w.alloc (.cells #[.slice aS nS cS, .slice aH nH cH, .slice aF nF cF, .slice aL nL cL, .int .i64 now] 25)).alloc (.cells #[.int .i64 k, .int .i64 a, .int .i64 b, .int .i64 t, .int .i64 bk, .int .i64 sl] 48)).alloc (.map #[] 0))).ownsMap Try.prog 4 (plainElem Try.prog 27) (w.heap.size + 1 + 1) 0 (.map [] : DataW Unit)) := by
    have := World.ownsMap_made (H := Unit) ((w.alloc (.cells #[.slice aS nS cS, .slice aH nH cH, .slice aF nF cF, .slice aL nL cL, .int .i64 now] 25)).alloc (.cells #[.int .i64 k, .int .i64 a, .int .i64 b, .int .i64 t, .int .i64 bk, .int .i64 sl] 48)) Try.prog 4 (plainElem Try.prog 27)
    rwa [show ((w.alloc (.cells #[.slice aS nS cS, .slice aH nH cH, .slice aF nF cF, .slice aL nL cL, .int .i64 now] 25)).alloc (.cells #[.int .i64 k, .int .i64 a, .int .i64 b, .int .i64 t, .int .i64 bk, .int .i64 sl] 48)).heap.size = w.heap.size + 1 + 1 by simp] at this
  have hk : ∀ W : World, Calls Try.prog 82 #[.agg #[.int .i64 a, .int .i64 b]] W fun e w' => e = .returned (.bool (keyB a b)) ∧ Below W.heap.size W w' := fun W => isKey_any a b W
  obtain ⟨E0, hE0⟩ : ∃ x, x = callE nS nH ⟨k, a, b, t, bk, sl⟩ := ⟨_, rfl⟩
  rw [← hE0]
  have HE0 : Hid (E0 = callE nS nH ⟨k, a, b, t, bk, sl⟩) := hE0
  clear hE0
  obtain ⟨w1, hrun, ho1, hg1⟩ := HMM.out.update law4 under98 (show 0 < maxLen by decide) (keyOf_bool_mk Try.underlying4 false) (plainElem_int (H := Unit) Try.underlying27 (q := .i64) (a := 3) (by decide))
  have HD1 : Hid (BadAt w1 (w.heap.size + 1 + 1) ∧ Below w.heap.size w w1 ∧ w1.heap[w.heap.size]? = some om ∧ w1.heap[w.heap.size + 1]? = some oc) := by
    subst hom hoc
    exact rcall_start HB0.out HC0.out HZ0.out b0 (BadAt.put ho1) rfl rfl hg1
  clear ho1 hg1 HB0 HC0 HZ0 HMM b0
  subst hom hoc
  obtain ⟨q0, q1, q2, q3, q4, -, -, -, -, -, qs⟩ := boxf HD1.out.2.2.1
  obtain ⟨c0, c1, c2, c3, c4, c5, cs⟩ := callf HD1.out.2.2.2
  have look : ∀ (W : World) (x : Bool), Below w1.heap.size w1 W → (Instr.lookup 98 (.map (some (w.heap.size + 1 + 1))) (.bool x) false).run Try.prog W = .ok (.int .i64 (if x then 0 else 3)) W := fun W x hb => BadAt.look (BadAt.kept HD1.out.1 (hb.block _ (BadAt.lt HD1.out.1))) x
  have HLook : Hid _ := look
  have HB1 : Hid (Below w.heap.size w w1) := HD1.out.2.1
  clear look HD1
  by_cases h13 : k = 1 ∨ k = 3
  · have HV : Hid (E0 = if keyB a b then 0 else 3) := HE0.out.trans (callE_key h13)
    clear HE0
    rcases h13 with rfl | rfl
    all_goals
      go_enter Try.func25, Try.ntmps25
      go_wp2_with (go_at_call 82; refine (hk _).mono ?_; rintro e w2 ⟨rfl, hb2⟩; have hlk := HLook.out w2 (keyB a b) hb2; rw [← HV.out] at hlk; clear q0 q1 q2 q3 q4 qs c0 c1 c2 c3 c4 c5 cs)
      go_ret
      exact ⟨rfl, HB1.out.trans (hb2.mono HB1.out.size)⟩
  by_cases h2 : k = 2
  · subst h2
    clear h13
    have HV : Hid (E0 = if inB t 1 1000000 && keyB a b then 0 else 3) := HE0.out.trans callE_add
    clear HE0
    cases hK : keyB a b
    · rw [hK] at hk
      rw [hK, Bool.and_false, if_neg (by simp)] at HV
      go_enter Try.func25, Try.ntmps25
      go_wp2_with (go_at_call 82; refine (hk _).mono ?_; rintro e w2 ⟨rfl, hb2⟩; have hlk := HLook.out w2 false hb2; clear q0 q1 q2 q3 q4 qs c0 c1 c2 c3 c4 c5 cs)
      go_ret
      exact ⟨by rw [HV.out]; rfl, HB1.out.trans (hb2.mono HB1.out.size)⟩
    · rw [hK] at hk
      rw [hK, Bool.and_true] at HV
      have hc : t < 1 ∨ (1 ≤ t ∧ t ≤ 1000000) ∨ (1 ≤ t ∧ 1000000 < t) := by omega
      rcases hc with h | ⟨h, h'⟩ | ⟨h, h'⟩
      · rw [show inB t 1 1000000 = false by simp [inB]; omega] at HV
        go_enter Try.func25, Try.ntmps25
        go_wp2_with (go_at_call 82; refine (hk _).mono ?_; rintro e w2 ⟨rfl, hb2⟩; have hlk := HLook.out w2 false hb2; clear q0 q1 q2 q3 q4 qs; obtain ⟨c0, c1, c2, c3, c4, c5, cs⟩ := rcall_next hb2 c0 c1 c2 c3 c4 c5 cs)
        go_ret
        exact ⟨by rw [HV.out]; rfl, HB1.out.trans (hb2.mono HB1.out.size)⟩
      · rw [show inB t 1 1000000 = true from (inB_iff _ _ _).2 ⟨h, h'⟩] at HV
        go_enter Try.func25, Try.ntmps25
        go_wp2_with (go_at_call 82; refine (hk _).mono ?_; rintro e w2 ⟨rfl, hb2⟩; have hlk := HLook.out w2 true hb2; clear q0 q1 q2 q3 q4 qs; obtain ⟨c0, c1, c2, c3, c4, c5, cs⟩ := rcall_next hb2 c0 c1 c2 c3 c4 c5 cs)
        go_ret
        exact ⟨by rw [HV.out]; rfl, HB1.out.trans (hb2.mono HB1.out.size)⟩
      · rw [show inB t 1 1000000 = false by simp [inB]; omega] at HV
        have hd : decide (t ≤ 1000000) = false := by simp; omega
        go_enter Try.func25, Try.ntmps25
        go_wp2_with (go_at_call 82; refine (hk _).mono ?_; rintro e w2 ⟨rfl, hb2⟩; have hlk := HLook.out w2 false hb2; clear q0 q1 q2 q3 q4 qs; obtain ⟨c0, c1, c2, c3, c4, c5, cs⟩ := rcall_next hb2 c0 c1 c2 c3 c4 c5 cs)
        go_ret
        exact ⟨by rw [HV.out]; rfl, HB1.out.trans (hb2.mono HB1.out.size)⟩
  by_cases h45 : k = 4 ∨ k = 5
  · have HV : Hid (E0 = if inB bk 0 ((nH : Int) - 1) then 0 else 5) := HE0.out.trans (callE_bk h45)
    clear HE0 h13 h2
    have hc : bk < 0 ∨ (0 ≤ bk ∧ bk < nH) ∨ (0 ≤ bk ∧ (nH : Int) ≤ bk) := by omega
    rcases hc with h | ⟨h, h'⟩ | ⟨h, h'⟩
    · rw [show inB bk 0 ((nH : Int) - 1) = false by simp [inB]; omega] at HV
      rcases h45 with rfl | rfl
      all_goals
        go_enter Try.func25, Try.ntmps25
        go_wp2
        go_ret
        exact ⟨by rw [HV.out]; rfl, HB1.out⟩
    · rw [show inB bk 0 ((nH : Int) - 1) = true from (inB_iff _ _ _).2 ⟨h, by omega⟩] at HV
      rcases h45 with rfl | rfl
      all_goals
        go_enter Try.func25, Try.ntmps25
        go_wp2
        go_ret
        exact ⟨by rw [HV.out]; rfl, HB1.out⟩
    · rw [show inB bk 0 ((nH : Int) - 1) = false by simp [inB]; omega] at HV
      rcases h45 with rfl | rfl
      all_goals
        go_enter Try.func25, Try.ntmps25
        go_wp2
        go_ret
        exact ⟨by rw [HV.out]; rfl, HB1.out⟩
  by_cases h6 : k = 6
  · subst h6
    have HV : Hid (E0 = if inB sl 0 ((nS : Int) - 1) then 0 else 5) := HE0.out.trans callE_leave
    clear HE0 h13 h2 h45
    have hc : sl < 0 ∨ (0 ≤ sl ∧ sl < nS) ∨ (0 ≤ sl ∧ (nS : Int) ≤ sl) := by omega
    rcases hc with h | ⟨h, h'⟩ | ⟨h, h'⟩
    · rw [show inB sl 0 ((nS : Int) - 1) = false by simp [inB]; omega] at HV
      go_enter Try.func25, Try.ntmps25
      go_wp2
      go_ret
      exact ⟨by rw [HV.out]; rfl, HB1.out⟩
    · rw [show inB sl 0 ((nS : Int) - 1) = true from (inB_iff _ _ _).2 ⟨h, by omega⟩] at HV
      go_enter Try.func25, Try.ntmps25
      go_wp2
      go_ret
      exact ⟨by rw [HV.out]; rfl, HB1.out⟩
    · rw [show inB sl 0 ((nS : Int) - 1) = false by simp [inB]; omega] at HV
      go_enter Try.func25, Try.ntmps25
      go_wp2
      go_ret
      exact ⟨by rw [HV.out]; rfl, HB1.out⟩
  have hno : k < 1 ∨ 6 < k := by omega
  have HV : Hid (E0 = 4) := HE0.out.trans (callE_no hno)
  have e1 : (k == 1) = false := by rw [beq_eq_false_iff_ne]; omega
  have e2 : (k == 2) = false := by rw [beq_eq_false_iff_ne]; omega
  have e3 : (k == 3) = false := by rw [beq_eq_false_iff_ne]; omega
  have e4 : (k == 4) = false := by rw [beq_eq_false_iff_ne]; omega
  have e5 : (k == 5) = false := by rw [beq_eq_false_iff_ne]; omega
  have e6 : (k == 6) = false := by rw [beq_eq_false_iff_ne]; omega
  clear h13 h2 h45 h6 hno HE0
  go_enter Try.func25, Try.ntmps25
  go_wp2
  go_ret
  exact ⟨by rw [HV.out]; rfl, HB1.out⟩




end Go.Proofs.Ytdbilofhcadmoab.mm

/- What a walk carries along: boxes with what lies in them, values that are memory. -/
namespace Go.Proofs.Ytdbilofhcadmoab.mm
open Go.ChangeShapes Go.WideShapes Go.ChangeAt Go.RowKit Go.Joins
set_option linter.unusedVariables false

structure Env (w0 w : World) (L : List (Nat × Obj)) (K : List (Value × Mm)) : Prop where
  bl : Below w0.heap.size w0 w
  box : ∀ p ∈ L, w.heap[p.1]? = some p.2
  mem : ∀ p ∈ K, Ans 0 w p.1 p.2

theorem Env.below {w0 w w' : World} {L : List (Nat × Obj)} {K : List (Value × Mm)} (E : Env w0 w L K) (hb : Below w.heap.size w w') : Env w0 w' L K :=
  ⟨E.bl.trans (hb.mono E.bl.size), fun p hp => (hb.block p.1 (by
    have := E.box p hp
    exact (Array.getElem?_eq_some_iff.1 this).1)).trans (E.box p hp), fun p hp => (E.mem p hp).below hb⟩
theorem Env.alloc {w0 w : World} {L : List (Nat × Obj)} {K : List (Value × Mm)} (E : Env w0 w L K) (o : Obj) : Env w0 (w.alloc o) ((w.heap.size, o) :: L) K := by
  have h := E.below (one_below w o)
  refine ⟨h.bl, fun p hp => ?_, h.mem⟩
  rcases List.mem_cons.1 hp with rfl | hp
  · exact heap_alloc_new w o
  · exact h.box p hp
theorem Env.add {w0 w : World} {L : List (Nat × Obj)} {K : List (Value × Mm)} (E : Env w0 w L K) {v : Value} {M : Mm} {lo : Nat} (h : Ans lo w v M) : Env w0 w L ((v, M) :: K) :=
  ⟨E.bl, E.box, fun p hp => by
    rcases List.mem_cons.1 hp with rfl | hp
    · exact h.mono (Nat.zero_le _)
    · exact E.mem p hp⟩
theorem Env.at {w0 w : World} {L : List (Nat × Obj)} {K : List (Value × Mm)} (E : Env w0 w L K) {B : Nat} {o : Obj} (h : (B, o) ∈ L) : w.heap[B]? = some o := E.box _ h
theorem Env.ans {w0 w : World} {L : List (Nat × Obj)} {K : List (Value × Mm)} (E : Env w0 w L K) {v : Value} {M : Mm} (h : (v, M) ∈ K) : Ans 0 w v M := E.mem _ h
theorem Env.lt {w0 w : World} {L : List (Nat × Obj)} {K : List (Value × Mm)} (E : Env w0 w L K) {B : Nat} {o : Obj} (h : (B, o) ∈ L) : B < w.heap.size := (Array.getElem?_eq_some_iff.1 (E.box _ h)).1

/- A value that is memory, written out. -/
theorem Ans.form {lo : Nat} {w : World} {v : Value} {M : Mm} (h : Ans lo w v M) : ∃ aS aH aF aL cS cH cF cL, v = .agg #[.slice aS M.slots.length cS, .slice aH M.heads.length cH, .slice aF M.free.length cF, .slice aL M.locks.length cL, .int .i64 M.now] := by
  obtain ⟨aS, aH, aF, aL, cS, cH, cF, cL, e, -, -⟩ := h
  exact ⟨aS, aH, aF, aL, cS, cH, cF, cL, e⟩
theorem Rw.ans {w : World} {lo : Nat} {aS aH aF aL : Option Addr} {cS cH cF cL : Nat} {M : Mm} (r : Rw w lo aS aH aF aL cS cH cF cL M)
    (m1 : M.slots.length * 48 ≤ 140737488351232) (m2 : M.heads.length * 8 ≤ 140737488351232) (m3 : M.free.length * 8 ≤ 140737488351232) (m4 : M.locks.length * 8 ≤ 140737488351232) :
    Ans lo w (.agg #[.slice aS M.slots.length cS, .slice aH M.heads.length cH, .slice aF M.free.length cF, .slice aL M.locks.length cL, .int .i64 M.now]) M :=
  ⟨aS, aH, aF, aL, cS, cH, cF, cL, rfl, r.at m1 m2 m3 m4, r.hi⟩
theorem Ans.at_ {lo : Nat} {w : World} {aS aH aF aL : Option Addr} {cS cH cF cL : Nat} {M : Mm} (h : Ans lo w (.agg #[.slice aS M.slots.length cS, .slice aH M.heads.length cH, .slice aF M.free.length cF, .slice aL M.locks.length cL, .int .i64 M.now]) M) : At w aS aH aF aL cS cH cF cL M := by
  obtain ⟨aS', aH', aF', aL', cS', cH', cF', cL', e, A, -⟩ := h
  simp only [Value.agg.injEq, Array.mk.injEq, List.cons.injEq, Value.slice.injEq, true_and, and_true] at e
  obtain ⟨⟨rfl, rfl⟩, ⟨rfl, rfl⟩, ⟨rfl, rfl⟩, rfl, rfl⟩ := e
  exact A
theorem Rw.alloc {w : World} {lo : Nat} {aS aH aF aL : Option Addr} {cS cH cF cL : Nat} {M : Mm} (r : Rw w lo aS aH aF aL cS cH cF cL M) (o : Obj) : Rw (w.alloc o) lo aS aH aF aL cS cH cF cL M := r.below (one_below w o)

/- Memory of one's own, in the box that was just made. -/
theorem Mine.made {w : World} {lo : Nat} {aS aH aF aL : Option Addr} {cS cH cF cL : Nat} {M : Mm} (r : Rw w lo aS aH aF aL cS cH cF cL M)
    (m1 : M.slots.length * 48 ≤ 140737488351232) (m2 : M.heads.length * 8 ≤ 140737488351232) (m3 : M.free.length * 8 ≤ 140737488351000) (m4 : M.locks.length * 8 ≤ 140737488351232) :
    Mine (w.alloc (.cells #[.slice aS M.slots.length cS, .slice aH M.heads.length cH, .slice aF M.free.length cF, .slice aL M.locks.length cL, .int .i64 M.now] 25)) w.heap.size lo aS aH aF aL cS cH cF cL M :=
  ⟨heap_alloc_new _ _, r.alloc _, m1, m2, m3, m4⟩
/- .. or stored into an elder one. -/
theorem Mine.stored {w : World} {lo B : Nat} {aS aH aF aL : Option Addr} {cS cH cF cL : Nat} {M : Mm} {u0 u1 u2 u3 u4 : Value} (r : Rw w lo aS aH aF aL cS cH cF cL M) (hB : w.heap[B]? = some (.cells #[u0, u1, u2, u3, u4] 25 (0, 0)))
    (m1 : M.slots.length * 48 ≤ 140737488351232) (m2 : M.heads.length * 8 ≤ 140737488351232) (m3 : M.free.length * 8 ≤ 140737488351000) (m4 : M.locks.length * 8 ≤ 140737488351232) :
    Mine (set5 w B (.slice aS M.slots.length cS) (.slice aH M.heads.length cH) (.slice aF M.free.length cF) (.slice aL M.locks.length cL) (.int .i64 M.now)) B lo aS aH aF aL cS cH cF cL M :=
  ⟨set5_block hB _ _ _ _ _, r.set5 hB _ _ _ _ _, m1, m2, m3, m4⟩
theorem Mine.ans {w : World} {B lo : Nat} {aS aH aF aL : Option Addr} {cS cH cF cL : Nat} {M : Mm} (m : Mine w B lo aS aH aF aL cS cH cF cL M) :
    Ans lo w (.agg #[.slice aS M.slots.length cS, .slice aH M.heads.length cH, .slice aF M.free.length cF, .slice aL M.locks.length cL, .int .i64 M.now]) M :=
  m.c.ans m.m1 m.m2 (by have := m.m3; omega) m.m4





end Go.Proofs.Ytdbilofhcadmoab.mm
