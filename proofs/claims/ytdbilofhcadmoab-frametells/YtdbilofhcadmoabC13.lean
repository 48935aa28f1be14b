/- Calls and frames as plain data: what CheckCall and Check tell, in which chain a call is done. -/
import Derived.Test.YtdbilofhcadmoabC07
import Derived.Test.YtdbilofhcadmoabC08
import Derived.Test.YtdbilofhcadmoabC09
namespace Go.Proofs.Ytdbilofhcadmoab.mm

structure Cl where
  kind : Int
  a : Int
  b : Int
  time : Int
  bk : Int
  slot : Int

structure Fr where
  c : Cl
  pl : Int
  cur : Int
  prev : Int
  slot : Int
  n : Int
  keys : List (Int × Int)
  done : Bool
  e : Int

def callE (nS nH : Nat) (c : Cl) : Int :=
  if c.kind = 1 ∨ c.kind = 3 then (if keyB c.a c.b then 0 else 3)
  else if c.kind = 2 then (if inB c.time 1 1000000 && keyB c.a c.b then 0 else 3)
  else if c.kind = 4 ∨ c.kind = 5 then (if inB c.bk 0 ((nH : Int) - 1) then 0 else 5)
  else if c.kind = 6 then (if inB c.slot 0 ((nS : Int) - 1) then 0 else 5)
  else 4

def frE (nS nH : Nat) (f : Fr) : Int :=
  if callE nS nH f.c ≠ 0 then callE nS nH f.c
  else if inB f.pl 0 9 = false ∨ inB f.n 0 1000000 = false ∨ f.done = true then 3
  else if inB f.cur (-(nH : Int)) nS = false ∨ inB f.prev 0 nS = false ∨ inB f.slot (-1) ((nS : Int) - 1) = false then 5
  else if 100 < f.keys.length then 2 else 0

def bkOf (nH : Nat) (c : Cl) : Int :=
  if c.kind = 4 ∨ c.kind = 5 then c.bk
  else if keyB c.a c.b then (if 1 ≤ nH ∧ nH ≤ 4 then bucket c.a c.b nH else 0) else 0

def newF (c : Cl) : Fr := ⟨c, 0, 0, 0, -1, 0, [], false, 0⟩
def endF (f : Fr) (e : Int) : Fr := { f with done := true, e := e }

theorem callE_key {nS nH : Nat} {k a b t bk sl : Int} (h : k = 1 ∨ k = 3) : callE nS nH ⟨k, a, b, t, bk, sl⟩ = if keyB a b then 0 else 3 := by
  unfold callE; rw [if_pos h]
theorem callE_add {nS nH : Nat} {a b t bk sl : Int} : callE nS nH ⟨2, a, b, t, bk, sl⟩ = if inB t 1 1000000 && keyB a b then 0 else 3 := by
  unfold callE; rw [if_neg (by simp), if_pos rfl]
theorem callE_bk {nS nH : Nat} {k a b t bk sl : Int} (h : k = 4 ∨ k = 5) : callE nS nH ⟨k, a, b, t, bk, sl⟩ = if inB bk 0 ((nH : Int) - 1) then 0 else 5 := by
  unfold callE; rw [if_neg (by dsimp only; omega), if_neg (by dsimp only; omega), if_pos h]
theorem callE_leave {nS nH : Nat} {a b t bk sl : Int} : callE nS nH ⟨6, a, b, t, bk, sl⟩ = if inB sl 0 ((nS : Int) - 1) then 0 else 5 := by
  unfold callE; rw [if_neg (by simp), if_neg (by simp), if_neg (by simp), if_pos rfl]
theorem callE_no {nS nH : Nat} {k a b t bk sl : Int} (h : k < 1 ∨ 6 < k) : callE nS nH ⟨k, a, b, t, bk, sl⟩ = 4 := by
  unfold callE; rw [if_neg (by dsimp only; omega), if_neg (by dsimp only; omega), if_neg (by dsimp only; omega), if_neg (by dsimp only; omega)]


end Go.Proofs.Ytdbilofhcadmoab.mm

/- A Look as plain data: what a step does and what it leaves. -/
namespace Go.Proofs.Ytdbilofhcadmoab.mm
set_option linter.unusedVariables false

def toF (f : Fr) (n : Int) : Fr := { f with pl := n }
def curF (f : Fr) (c n : Int) : Fr := { f with cur := c, pl := n }
def handF (f : Fr) (s n : Int) : Fr := { f with slot := s, pl := n }
def isAt (M : Mm) (f : Fr) : Bool := inB f.cur 1 M.slots.length
def lkK (s : Sl) (f : Fr) : Bool := s.a == f.c.a && s.b == f.c.b
def putN (M : Mm) (a : Int) : Mm := if refsM M a = 0 then M else putM M a
def canH (M : Mm) (a : Int) : Bool := decide (0 < refsM M a) && decide (refsM M a < 1000)
def holdN (M : Mm) (a : Int) : Mm := if canH M a then holdM M a else M

def lkBegin (M : Mm) (f : Fr) : Fr := curF f (headM M (bkOf M.heads.length f.c).toNat) 1
def lkSee (M : Mm) (f : Fr) : Fr :=
  if f.cur = -1 - bkOf M.heads.length f.c then endF f 5
  else if isAt M f then toF f (if lkK (slotAt M (f.cur - 1)) f then 3 else 2) else toF f 0
def lkPass (M : Mm) (f : Fr) : Fr := if isAt M f then curF f (slotAt M (f.cur - 1)).next 1 else toF f 0
def lkHold (M : Mm) (f : Fr) : Fr := if isAt M f && canH M (f.cur - 1) then handF f (f.cur - 1) 4 else toF f 0
def lkHoldM (M : Mm) (f : Fr) : Mm := if isAt M f then holdN M (f.cur - 1) else M
def lkProve (M : Mm) (f : Fr) : Fr :=
  if isSl M f.slot then
    (if lkK (slotAt M f.slot) f && (slotAt M f.slot).inn then (if M.now < (slotAt M f.slot).unt then endF f 0 else toF f 6) else toF f 5)
  else toF f 0
def lkLetM (M : Mm) (f : Fr) : Mm := if isSl M f.slot then putN M f.slot else M
def lkStray (M : Mm) (f : Fr) : Fr := if isSl M f.slot then handF f (-1) 0 else toF f 0
def lkOver (M : Mm) (f : Fr) : Fr := if isSl M f.slot then endF { f with slot := -1 } 5 else toF f 0

def lkF (M : Mm) (f : Fr) : Fr :=
  if f.pl = 0 then lkBegin M f else if f.pl = 1 then lkSee M f else if f.pl = 2 then lkPass M f else if f.pl = 3 then lkHold M f
  else if f.pl = 4 then lkProve M f else if f.pl = 5 then lkStray M f else if f.pl = 6 then lkOver M f else toF f 0
def lkM (M : Mm) (f : Fr) : Mm :=
  if f.pl = 3 then lkHoldM M f else if f.pl = 5 then lkLetM M f else if f.pl = 6 then lkLetM M f else M

/- A frame whose call can go on. -/
structure Fit (M : Mm) (f : Fr) : Prop where
  call : callE M.slots.length M.heads.length f.c = 0
  pl : 0 ≤ f.pl ∧ f.pl ≤ 9
  n : inB f.n 0 1000000 = true
  done : f.done = false
  cur : -(M.heads.length : Int) ≤ f.cur ∧ f.cur ≤ M.slots.length
  prev : 0 ≤ f.prev ∧ f.prev ≤ M.slots.length
  slot : -1 ≤ f.slot ∧ f.slot < M.slots.length
  keys : f.keys.length ≤ 100

theorem fit_iff {M : Mm} {f : Fr} : frE M.slots.length M.heads.length f = 0 ↔ Fit M f := by
  constructor
  · intro h
    unfold frE at h
    by_cases h1 : callE M.slots.length M.heads.length f.c = 0
    · rw [if_neg (by simpa using h1)] at h
      by_cases h2 : inB f.pl 0 9 = false ∨ inB f.n 0 1000000 = false ∨ f.done = true
      · rw [if_pos h2] at h; omega
      · rw [if_neg h2] at h
        by_cases h3 : inB f.cur (-(M.heads.length : Int)) M.slots.length = false ∨ inB f.prev 0 M.slots.length = false ∨ inB f.slot (-1) ((M.slots.length : Int) - 1) = false
        · rw [if_pos h3] at h; omega
        · rw [if_neg h3] at h
          by_cases h4 : 100 < f.keys.length
          · rw [if_pos h4] at h; omega
          · simp only [not_or, Bool.not_eq_false, Bool.not_eq_true, inB_iff] at h2 h3
            exact ⟨h1, h2.1, (inB_iff _ _ _).2 h2.2.1, h2.2.2, h3.1, h3.2.1, ⟨h3.2.2.1, by have := h3.2.2.2; omega⟩, by omega⟩
    · rw [if_pos h1] at h; exact absurd h h1
  · rintro ⟨h1, h2, h3, h4, h5, h6, h7, h8⟩
    unfold frE
    rw [if_neg (by simpa using h1), if_neg, if_neg, if_neg (by omega)]
    · simp only [not_or, Bool.not_eq_false, inB_iff]
      exact ⟨h5, h6, h7.1, by omega⟩
    · simp only [not_or, Bool.not_eq_false, Bool.not_eq_true]
      exact ⟨(inB_iff _ _ _).2 h2, h3, h4⟩

theorem look_key {nS nH : Nat} {c : Cl} (hk : c.kind = 1) (h : callE nS nH c = 0) : keyB c.a c.b = true := by
  unfold callE at h
  rw [if_pos (.inl hk)] at h
  cases hb : keyB c.a c.b
  · rw [hb] at h; simp at h
  · rfl

theorem bkOf_in {M : Mm} {c : Cl} (hM : Ok M) (h : callE M.slots.length M.heads.length c = 0) : 0 ≤ bkOf M.heads.length c ∧ bkOf M.heads.length c < M.heads.length := by
  obtain ⟨n1, n2⟩ := hM.nh
  by_cases hb : c.kind = 4 ∨ c.kind = 5
  · unfold callE at h
    rw [if_neg (by omega), if_neg (by omega), if_pos hb] at h
    cases hi : inB c.bk 0 ((M.heads.length : Int) - 1)
    · rw [hi] at h; simp at h
    · rw [inB_iff] at hi
      unfold bkOf
      rw [if_pos hb]
      omega
  · unfold bkOf
    rw [if_neg hb]
    by_cases hk : keyB c.a c.b = true
    · rw [if_pos hk, if_pos ⟨n1, n2⟩]
      exact bucket_in c.a c.b n1
    · rw [if_neg hk]
      omega

theorem isAt_iff {M : Mm} {f : Fr} : isAt M f = true ↔ 1 ≤ f.cur ∧ f.cur ≤ M.slots.length := by unfold isAt; rw [inB_iff]
theorem isSl_in {M : Mm} {i : Int} : isSl M i = true ↔ 0 ≤ i ∧ i < M.slots.length := by
  unfold isSl
  rw [inB_iff]
  omega

theorem slotAt_mem {M : Mm} {i : Int} (h : isSl M i = true) : slotAt M i ∈ M.slots := by
  obtain ⟨j, rfl, hj⟩ := (isSl_iff M i).1 h
  unfold slotAt
  rw [Int.toNat_natCast, getD_lt _ _ hj]
  exact List.getElem_mem hj

theorem slot_refs {M : Mm} (hM : Ok M) {i : Int} (h : isSl M i = true) : 0 ≤ refsM M i ∧ refsM M i ≤ 1000 := by
  have := (slot_good (hM.slot _ (slotAt_mem h))).1
  rw [inB_iff] at this
  exact this
theorem slot_next {M : Mm} (hM : Ok M) {i : Int} (h : isSl M i = true) : -(M.heads.length : Int) ≤ (slotAt M i).next ∧ (slotAt M i).next ≤ M.slots.length := by
  have := (slot_good (hM.slot _ (slotAt_mem h))).2.2.2
  rwa [inB_iff] at this

theorem canH_iff {M : Mm} {a : Int} : canH M a = true ↔ 0 < refsM M a ∧ refsM M a < 1000 := by simp [canH]
theorem holdN_ok {M : Mm} (hM : Ok M) {a : Int} (h : isSl M a = true) : Ok (holdN M a) := by
  unfold holdN
  split
  · rename_i hc
    rw [canH_iff] at hc
    exact hold_ok hM h hc.1 hc.2
  · exact hM
theorem putN_ok {M : Mm} (hM : Ok M) {a : Int} (h : isSl M a = true) : Ok (putN M a) := by
  unfold putN
  split
  · exact hM
  · have := slot_refs hM h
    exact put_ok hM h (by omega) (by omega)

/- Memory in which nothing but how often one slot is held, and what is free, differs. -/
structure Like (M M' : Mm) : Prop where
  heads : M'.heads = M.heads
  locks : M'.locks = M.locks
  now : M'.now = M.now
  slots : M'.slots = M.slots ∨ ∃ j r, j < M.slots.length ∧ M'.slots = M.slots.set j { M.slots.getD j sl0 with refs := r }

theorem Like.refl (M : Mm) : Like M M := ⟨rfl, rfl, rfl, .inl rfl⟩
theorem Like.len {M M' : Mm} (h : Like M M') : M'.slots.length = M.slots.length := by
  rcases h.slots with e | ⟨j, r, _, e⟩ <;> rw [e]
  simp
theorem like_refs {M : Mm} {i : Int} (h : isSl M i = true) (r : Int) (F : List Int) : Like M { M with slots := setRefs M i r, free := F } := by
  obtain ⟨j, rfl, hj⟩ := (isSl_iff M i).1 h
  exact ⟨rfl, rfl, rfl, .inr ⟨j, r, hj, by simp [setRefs]⟩⟩
theorem holdN_like {M : Mm} {i : Int} (h : isSl M i = true) : Like M (holdN M i) := by
  unfold holdN
  split
  · exact like_refs h _ _
  · exact .refl M
theorem putN_like {M : Mm} {i : Int} (h : isSl M i = true) : Like M (putN M i) := by
  unfold putN
  split
  · exact .refl M
  · exact like_refs h _ _

theorem isAt_sl {M : Mm} {f : Fr} (h : isAt M f = true) : isSl M (f.cur - 1) = true := by
  rw [isAt_iff] at h
  rw [isSl_in]
  omega

theorem lkM_ok {M : Mm} {f : Fr} (hM : Ok M) : Ok (lkM M f) := by
  unfold lkM lkHoldM lkLetM
  repeat' split
  · exact holdN_ok hM (isAt_sl (by assumption))
  · exact hM
  · exact putN_ok hM (by assumption)
  · exact hM
  · exact putN_ok hM (by assumption)
  · exact hM
  · exact hM
theorem lkM_like (M : Mm) (f : Fr) : Like M (lkM M f) := by
  unfold lkM lkHoldM lkLetM
  repeat' split
  · exact holdN_like (isAt_sl (by assumption))
  · exact .refl M
  · exact putN_like (by assumption)
  · exact .refl M
  · exact putN_like (by assumption)
  · exact .refl M
  · exact .refl M

theorem lkF_c (M : Mm) (f : Fr) : (lkF M f).c = f.c := by
  unfold lkF lkBegin lkSee lkPass lkHold lkProve lkStray lkOver
  repeat' split
  all_goals rfl
theorem lkF_keys (M : Mm) (f : Fr) : (lkF M f).keys = f.keys := by
  unfold lkF lkBegin lkSee lkPass lkHold lkProve lkStray lkOver
  repeat' split
  all_goals rfl

theorem Fit.to {M : Mm} {f : Fr} (h : Fit M f) {n : Int} (h1 : 0 ≤ n ∧ n ≤ 9) : Fit M (toF f n) := ⟨h.call, h1, h.n, h.done, h.cur, h.prev, h.slot, h.keys⟩
theorem Fit.curTo {M : Mm} {f : Fr} (h : Fit M f) {c n : Int} (h1 : 0 ≤ n ∧ n ≤ 9) (h2 : -(M.heads.length : Int) ≤ c ∧ c ≤ M.slots.length) : Fit M (curF f c n) := ⟨h.call, h1, h.n, h.done, h2, h.prev, h.slot, h.keys⟩
theorem Fit.handTo {M : Mm} {f : Fr} (h : Fit M f) {s n : Int} (h1 : 0 ≤ n ∧ n ≤ 9) (h2 : -1 ≤ s ∧ s < M.slots.length) : Fit M (handF f s n) := ⟨h.call, h1, h.n, h.done, h.cur, h.prev, h2, h.keys⟩
theorem Fit.like {M M' : Mm} {f : Fr} (h : Fit M f) (hl : Like M M') : Fit M' f := by
  have e1 := hl.len
  have e2 := hl.heads
  refine ⟨?_, h.pl, h.n, h.done, ?_, ?_, ?_, h.keys⟩
  · rw [e1, e2]; exact h.call
  · rw [e1, e2]; exact h.cur
  · rw [e1]; exact h.prev
  · rw [e1]; exact h.slot

theorem lkF_fit {M : Mm} {f : Fr} (hM : Ok M) (h : Fit M f) (hd : (lkF M f).done = false) : Fit (lkM M f) (lkF M f) := by
  refine Fit.like ?_ (lkM_like M f)
  revert hd
  unfold lkF lkBegin lkSee lkPass lkHold lkProve lkStray lkOver
  have hb := bkOf_in hM h.call
  repeat' split
  all_goals intro hd
  all_goals first
    | (cases hd; done)
    | exact h.to (by omega)
    | exact h.handTo (by omega) (by omega)
    | skip
  · refine h.curTo (by omega) ?_
    have hh := (hM.headIn (b := (bkOf M.heads.length f.c).toNat) (by omega)).2
    rwa [inB_iff] at hh
  · rename_i ha
    exact h.curTo (by omega) (slot_next hM (isAt_sl ha))
  · rename_i ha
    simp only [Bool.and_eq_true] at ha
    have := isSl_in.1 (isAt_sl ha.1)
    exact h.handTo (by omega) (by omega)

end Go.Proofs.Ytdbilofhcadmoab.mm

/- Memory of one's own, and what a change of it leaves: all that is not in its box nor its rows. -/
namespace Go.Proofs.Ytdbilofhcadmoab.mm
open Go.ChangeShapes Go.WideShapes Go.ChangeAt Go.RowKit Go.Joins
set_option linter.unusedVariables false

/- Where memory of one's own lies: its box and its four rows. -/
def Foot (B : Nat) (aS aH aF aL : Option Addr) (k : Nat) : Prop :=
  k = B ∨ (∃ ad, aS = some ad ∧ ad.block = k) ∨ (∃ ad, aH = some ad ∧ ad.block = k) ∨ (∃ ad, aF = some ad ∧ ad.block = k) ∨ (∃ ad, aL = some ad ∧ ad.block = k)

/- A change that touches nothing but what Z names, and what is new. -/
structure Fine (w w' : World) (Z : Nat → Prop) : Prop where
  os : w'.os = w.os
  tape : w'.tape = w.tape
  output : w'.output = w.output
  size : w.heap.size ≤ w'.heap.size
  block : ∀ k, k < w.heap.size → ¬ Z k → w'.heap[k]? = w.heap[k]?

/- What Z names, and what is new. -/
def Up (w : World) (Z : Nat → Prop) (k : Nat) : Prop := Z k ∨ w.heap.size ≤ k

theorem Fine.refl (w : World) (Z : Nat → Prop) : Fine w w Z := ⟨rfl, rfl, rfl, Nat.le_refl _, fun _ _ _ => rfl⟩
theorem Fine.of_below {w w' : World} (Z : Nat → Prop) (hb : Below w.heap.size w w') : Fine w w' Z := ⟨hb.os, hb.tape, hb.output, hb.size, fun k h _ => hb.block k h⟩
theorem Fine.trans {w w1 w2 : World} {Z Z' : Nat → Prop} (h : Fine w w1 Z) (h' : Fine w1 w2 Z') (hz : ∀ k, k < w.heap.size → Z' k → Z k) : Fine w w2 Z :=
  ⟨h'.os.trans h.os, h'.tape.trans h.tape, h'.output.trans h.output, Nat.le_trans h.size h'.size, fun k h1 h2 => (h'.block k (Nat.lt_of_lt_of_le h1 h.size) (fun h3 => h2 (hz k h1 h3))).trans (h.block k h1 h2)⟩
theorem Fine.go {w w1 w2 : World} {Z : Nat → Prop} (h : Fine w w1 Z) (h' : Fine w1 w2 (Up w Z)) : Fine w w2 Z :=
  h.trans h' fun k h1 h2 => h2.elim id (fun h3 => by omega)
theorem Fine.below {w w1 w2 : World} {Z : Nat → Prop} (h : Fine w w1 Z) (hb : Below w1.heap.size w1 w2) : Fine w w2 Z :=
  h.trans (.of_below Z hb) fun _ _ h => h
theorem Fine.set {w w1 : World} {Z : Nat → Prop} {k : Nat} (h : Fine w w1 Z) (hk : Z k ∨ w.heap.size ≤ k) (j : Nat) (v : Value) : Fine w (w1.setCell ⟨k, j, none⟩ v) Z :=
  ⟨h.os, h.tape, h.output, by rw [World.size_setCell]; exact h.size, fun i h1 h2 => by
    have hne : i ≠ k := by rintro rfl; exact hk.elim h2 (fun h3 => by omega)
    rw [Below.heap_setCell _ _ _ _ (by dsimp only; exact hne)]
    exact h.block i h1 h2⟩
theorem Fine.down {w w1 : World} {Z : Nat → Prop} (h : Fine w w1 Z) {n : Nat} (hn : n ≤ w.heap.size) (hz : ∀ k, Z k → n ≤ k) : Below n w w1 :=
  ⟨h.os, h.tape, h.output, h.size, fun k hk => h.block k (by omega) (fun h3 => by have := hz k h3; omega)⟩
theorem Fine.mono {w w1 : World} {Z Z' : Nat → Prop} (h : Fine w w1 Z) (hz : ∀ k, Z k → Z' k) : Fine w w1 Z' := ⟨h.os, h.tape, h.output, h.size, fun k h1 h2 => h.block k h1 (fun h3 => h2 (hz k h3))⟩

theorem own_same {w w' : World} {lo size n : Nat} {e : TypeId} {v : Value} {xs : List Value} (h : w.ownsRow lo e size v n xs) (hk : ∀ g, v.ownBlock = some g → w'.heap[g]? = w.heap[g]?) : w'.ownsRow lo e size v n xs := by
  refine ⟨h.1, ?_⟩
  rcases h.2 with h1 | ⟨g, cap, cur, rfl, hg, hb, rest⟩
  · exact .inl h1
  · exact .inr ⟨g, cap, cur, rfl, hg, (hk g rfl).trans hb, rest⟩

/- A box holds memory of one's own, which lies within Z. -/
def Has (w : World) (B lo : Nat) (Z : Nat → Prop) (M : Mm) : Prop :=
  ∃ aS aH aF aL cS cH cF cL, Mine w B lo aS aH aF aL cS cH cF cL M ∧ ∀ k, Foot B aS aH aF aL k → Z k

theorem foot_own {aS : Option Addr} {n c g : Nat} (h : (Value.slice aS n c).ownBlock = some g) : ∃ ad, aS = some ad ∧ ad.block = g := by
  cases aS with
  | none => cases h
  | some ad => exact ⟨ad, rfl, by injection h⟩

theorem Mine.same {w w' : World} {B lo : Nat} {aS aH aF aL : Option Addr} {cS cH cF cL : Nat} {M : Mm} (m : Mine w B lo aS aH aF aL cS cH cF cL M) (hz : w.heap.size ≤ w'.heap.size)
    (hk : ∀ k, k < w.heap.size → Foot B aS aH aF aL k → w'.heap[k]? = w.heap[k]?) : Mine w' B lo aS aH aF aL cS cH cF cL M := by
  obtain ⟨hB, ⟨s, h, f, l, hf, hl, fl, lz⟩, m1, m2, m3, m4⟩ := m
  refine ⟨(hk B (lt_of_block hB) (.inl rfl)).trans hB, ⟨?_, ?_, ?_, ?_, hf, hl, fl, Nat.le_trans lz hz⟩, m1, m2, m3, m4⟩
  · exact own_same s fun g hg => hk g (s.lt g hg).2 (.inr (.inl (foot_own hg)))
  · exact own_same h fun g hg => hk g (h.lt g hg).2 (.inr (.inr (.inl (foot_own hg))))
  · exact own_same f fun g hg => hk g (f.lt g hg).2 (.inr (.inr (.inr (.inl (foot_own hg)))))
  · exact own_same l fun g hg => hk g (l.lt g hg).2 (.inr (.inr (.inr (.inr (foot_own hg)))))

theorem Has.same {w w' : World} {B lo : Nat} {Z : Nat → Prop} {M : Mm} (h : Has w B lo Z M) (hz : w.heap.size ≤ w'.heap.size) (hk : ∀ k, k < w.heap.size → Z k → w'.heap[k]? = w.heap[k]?) : Has w' B lo Z M := by
  obtain ⟨aS, aH, aF, aL, cS, cH, cF, cL, m, hf⟩ := h
  exact ⟨aS, aH, aF, aL, cS, cH, cF, cL, m.same hz (fun k h1 h2 => hk k h1 (hf k h2)), hf⟩
theorem Has.below {w w' : World} {B lo : Nat} {Z : Nat → Prop} {M : Mm} (h : Has w B lo Z M) (hb : Below w.heap.size w w') : Has w' B lo Z M := h.same hb.size fun k h1 _ => hb.block k h1
theorem Has.fine {w w' : World} {B lo : Nat} {Z Z' : Nat → Prop} {M : Mm} (h : Has w B lo Z M) (hf : Fine w w' Z') (hd : ∀ k, k < w.heap.size → Z k → ¬ Z' k) : Has w' B lo Z M := h.same hf.size fun k h1 h2 => hf.block k h1 (hd k h1 h2)
theorem Has.mono {w : World} {B lo : Nat} {Z Z' : Nat → Prop} {M : Mm} (h : Has w B lo Z M) (hz : ∀ k, k < w.heap.size → Z k → Z' k) : Has w B lo Z' M := by
  obtain ⟨aS, aH, aF, aL, cS, cH, cF, cL, m, hf⟩ := h
  refine ⟨aS, aH, aF, aL, cS, cH, cF, cL, m, fun k hk => hz k ?_ (hf k hk)⟩
  rcases hk with rfl | ⟨ad, rfl, rfl⟩ | ⟨ad, rfl, rfl⟩ | ⟨ad, rfl, rfl⟩ | ⟨ad, rfl, rfl⟩
  · exact lt_of_block m.box
  · exact (m.c.s.lt _ rfl).2
  · exact (m.c.h.lt _ rfl).2
  · exact (m.c.f.lt _ rfl).2
  · exact (m.c.l.lt _ rfl).2
theorem Has.up {w : World} {B lo : Nat} {Z : Nat → Prop} {M : Mm} (h : Has w B lo Z M) : Has w B lo (Up w Z) M := h.mono fun _ _ h => .inl h
theorem Has.low {w : World} {B lo : Nat} {Z : Nat → Prop} {M : Mm} (h : Has w B lo Z M) : Has w B lo (fun k => k = B ∨ lo ≤ k) M := by
  obtain ⟨aS, aH, aF, aL, cS, cH, cF, cL, m, hf⟩ := h
  refine ⟨aS, aH, aF, aL, cS, cH, cF, cL, m, fun k hk => ?_⟩
  rcases hk with rfl | ⟨ad, rfl, rfl⟩ | ⟨ad, rfl, rfl⟩ | ⟨ad, rfl, rfl⟩ | ⟨ad, rfl, rfl⟩
  · exact .inl rfl
  · exact .inr (m.c.s.lt _ rfl).1
  · exact .inr (m.c.h.lt _ rfl).1
  · exact .inr (m.c.f.lt _ rfl).1
  · exact .inr (m.c.l.lt _ rfl).1

theorem free_few {M : Mm} (h : Ok M) : M.free.length ≤ 12 := by
  have h1 := few' M.slots.length M.free h.nodup (fun a ha => by
    have := (freeOk_iff _ _).1 (h.free a ha)
    exact ⟨this.1, this.2.1⟩)
  have := h.ns
  omega

theorem foot_hold {B : Nat} {aS aH aF aL aF' : Option Addr} {Z : Nat → Prop} {n : Nat} (hf : ∀ k, Foot B aS aH aF aL k → Z k) (hn : ∀ ad, aF' = some ad → n ≤ ad.block) : ∀ k, Foot B aS aH aF' aL k → Z k ∨ n ≤ k := by
  rintro k (rfl | h | h | ⟨ad, e, rfl⟩ | h)
  · exact .inl (hf _ (.inl rfl))
  · exact .inl (hf _ (.inr (.inl h)))
  · exact .inl (hf _ (.inr (.inr (.inl h))))
  · exact .inr (hn ad e)
  · exact .inl (hf _ (.inr (.inr (.inr (.inr h)))))

/- The four changes of how often a slot is held: the program's, the document's. -/
theorem hold_fine {M : Mm} {w : World} {B lo : Nat} {Z : Nat → Prop} {i : Int} (H : Has w B lo Z M) (hM : Ok M) (hi : isSl M i = true) :
    Calls Try.prog 150 #[.pointer (some ⟨B, 0, none⟩), .int .i64 i] w fun e w' => e = .returned (.bool (canH M i)) ∧ Has w' B lo (Up w Z) (holdN M i) ∧ Fine w w' Z := by
  have hr := slot_refs hM hi
  obtain ⟨i0, i1⟩ := isSl_in.1 hi
  have H' := H
  obtain ⟨aS, aH, aF, aL, cS, cH, cF, cL, m, hf⟩ := H
  by_cases hc : canH M i = true
  · have hc' := canH_iff.1 hc
    obtain ⟨j, rfl⟩ : ∃ j : Nat, i = j := ⟨i.toNat, by omega⟩
    have hj : j < M.slots.length := by omega
    obtain ⟨gS, rfl, oS, -, -, -⟩ := row_form m.c.s (by omega)
    have hrr := refsM_at M j hj
    rw [hrr] at hc'
    obtain ⟨c0, -, -, -, -, -, fz⟩ := row_cells m.c.s hj
    refine (hold_yes w B gS _ j cS _ _ _ _ _ m.box hj c0 (fz _) hc'.1 hc'.2).mono ?_
    rintro e w' ⟨rfl, rfl⟩
    have mt := turned m hj (M.slots[j].refs + 1)
    have e1 : holdN M j = holdM M j := by unfold holdN; rw [if_pos hc]
    rw [e1, hc]
    rw [← hrr] at mt ⊢
    exact ⟨rfl, ⟨_, _, _, _, _, _, _, _, mt, fun k hk => .inl (hf k hk)⟩, (Fine.refl w Z).set (.inl (hf gS (.inr (.inl ⟨_, rfl, rfl⟩)))) _ _⟩
  · have hc0 : canH M i = false := by simpa using hc
    have hn : ¬ (0 < refsM M i ∧ refsM M i < 1000) := fun h => hc (canH_iff.2 h)
    refine (hold_fail M w B lo aS aH aF aL cS cH cF cL i m i0 i1 (by omega)).mono ?_
    rintro e w' ⟨rfl, rfl⟩
    have e1 : holdN M i = M := by unfold holdN; rw [if_neg hc]
    rw [e1, hc0]
    exact ⟨rfl, H'.up, .refl _ _⟩

theorem rhold_fine {M : Mm} {w : World} {B lo : Nat} {Z : Nat → Prop} {i : Int} (H : Has w B lo Z M) (hM : Ok M) (hi : isSl M i = true) :
    Calls Try.prog 101 #[.pointer (some ⟨B, 0, none⟩), .int .i64 i] w fun e w' => e = .returned (.bool (canH M i)) ∧ Has w' B lo (Up w Z) (holdN M i) ∧ Fine w w' Z := by
  have hr := slot_refs hM hi
  obtain ⟨i0, i1⟩ := isSl_in.1 hi
  have H' := H
  obtain ⟨aS, aH, aF, aL, cS, cH, cF, cL, m, hf⟩ := H
  have m1 := m.m1
  by_cases hc : canH M i = true
  · have hc' := canH_iff.1 hc
    obtain ⟨j, rfl⟩ : ∃ j : Nat, i = j := ⟨i.toNat, by omega⟩
    have hj : j < M.slots.length := by omega
    obtain ⟨gS, rfl, oS, -, -, -⟩ := row_form m.c.s (by omega)
    have hrr := refsM_at M j hj
    rw [hrr] at hc'
    obtain ⟨c0, -, -, -, -, -, fz⟩ := row_cells m.c.s hj
    refine (rhold_yes w B gS _ j cS _ _ _ _ _ m.box hj (by omega) c0 (fz _) hc'.1 hc'.2).mono ?_
    rintro e w' ⟨rfl, rfl⟩
    have mt := turned m hj (M.slots[j].refs + 1)
    have e1 : holdN M j = holdM M j := by unfold holdN; rw [if_pos hc]
    rw [e1, hc]
    rw [← hrr] at mt ⊢
    exact ⟨rfl, ⟨_, _, _, _, _, _, _, _, mt, fun k hk => .inl (hf k hk)⟩, (Fine.refl w Z).set (.inl (hf gS (.inr (.inl ⟨_, rfl, rfl⟩)))) _ _⟩
  · have hc0 : canH M i = false := by simpa using hc
    have hn : ¬ (0 < refsM M i ∧ refsM M i < 1000) := fun h => hc (canH_iff.2 h)
    refine (rhold_fail M w B lo aS aH aF aL cS cH cF cL i m i0 i1 (by omega)).mono ?_
    rintro e w' ⟨rfl, rfl⟩
    have e1 : holdN M i = M := by unfold holdN; rw [if_neg hc]
    rw [e1, hc0]
    exact ⟨rfl, H'.up, .refl _ _⟩

theorem put_fine {M : Mm} {w : World} {B lo : Nat} {Z : Nat → Prop} {i : Int} (H : Has w B lo Z M) (hM : Ok M) (hi : isSl M i = true) :
    Calls Try.prog 107 #[.pointer (some ⟨B, 0, none⟩), .int .i64 i] w fun e w' => e = .returned (.bool (decide (refsM M i ≠ 0))) ∧ Has w' B lo (Up w Z) (putN M i) ∧ Fine w w' Z := by
  have hr := slot_refs hM hi
  have hfew := free_few hM
  obtain ⟨i0, i1⟩ := isSl_in.1 hi
  have H' := H
  obtain ⟨aS, aH, aF, aL, cS, cH, cF, cL, m, hf⟩ := H
  by_cases h0 : refsM M i = 0
  · refine (put_fail M w B lo aS aH aF aL cS cH cF cL i m i0 i1 h0).mono ?_
    rintro e w' ⟨rfl, rfl⟩
    have e1 : putN M i = M := by unfold putN; rw [if_pos h0]
    rw [e1]
    exact ⟨by simp [h0], H'.up, .refl _ _⟩
  have ed : decide (refsM M i ≠ 0) = true := by simp [h0]
  have e0 : putN M i = putM M i := by unfold putN; rw [if_neg h0]
  rw [ed, e0]
  obtain ⟨j, rfl⟩ : ∃ j : Nat, i = j := ⟨i.toNat, by omega⟩
  have hj : j < M.slots.length := by omega
  obtain ⟨gS, rfl, oS, -, -, -⟩ := row_form m.c.s (by omega)
  have hZ : Z gS := hf gS (.inr (.inl ⟨_, rfl, rfl⟩))
  have hrr := refsM_at M j hj
  obtain ⟨c0, -, -, -, -, -, fz⟩ := row_cells m.c.s hj
  by_cases hl : refsM M j = 1
  · rw [← hrr, hl] at c0
    have mt := turned m hj 0
    refine (put_last w B gS _ j cS cF aF M.free _ _ _ m.box hj c0 (fz _) m.ne_s mt.at.f (by omega)).mono ?_
    rintro e w' ⟨rfl, a', c', w1, hb, ho, rfl⟩
    have e1 : putM M j = { M with slots := setRefs M j 0, free := M.free ++ [(j : Int)] } := by simp [putM, hl]
    have hlen : (M.free ++ [(j : Int)]).length = M.free.length + 1 := by simp
    rw [e1]
    have hz : (w.setCell ⟨gS, j * 6, none⟩ (.int .i64 0)).heap.size = w.heap.size := World.size_setCell ..
    have hi' := own_hi ho
    rw [← hz] at hb ho
    have mg := mt.newF (M.free ++ [(j : Int)]) (by rw [hlen]; omega) hb hlen ho
    refine ⟨rfl, ⟨_, _, _, _, _, _, _, _, mg, foot_hold hf hi'⟩, ?_⟩
    exact (((Fine.refl w Z).set (.inl hZ) (j * 6) (.int .i64 0)).below hb).set (.inl (hf B (.inl rfl))) _ _
  · have hr2 : 1 < M.slots[j].refs := by omega
    refine (put_more w B gS _ j cS _ _ _ _ _ m.box hj c0 (fz _) hr2 (by omega)).mono ?_
    rintro e w' ⟨rfl, rfl⟩
    have e1 : putM M j = { M with slots := setRefs M j (refsM M j - 1) } := by simp [putM, hl]
    rw [e1]
    have mt := turned m hj (M.slots[j].refs - 1)
    rw [← hrr] at mt ⊢
    exact ⟨rfl, ⟨_, _, _, _, _, _, _, _, mt, fun k hk => .inl (hf k hk)⟩, (Fine.refl w Z).set (.inl hZ) _ _⟩

theorem rput_fine {M : Mm} {w : World} {B lo : Nat} {Z : Nat → Prop} {i : Int} (H : Has w B lo Z M) (hM : Ok M) (hi : isSl M i = true) :
    Calls Try.prog 102 #[.pointer (some ⟨B, 0, none⟩), .int .i64 i] w fun e w' => e = .returned (.tuple #[]) ∧ Has w' B lo (Up w Z) (putN M i) ∧ Fine w w' Z := by
  have hr := slot_refs hM hi
  have hfew := free_few hM
  obtain ⟨i0, i1⟩ := isSl_in.1 hi
  have H' := H
  obtain ⟨aS, aH, aF, aL, cS, cH, cF, cL, m, hf⟩ := H
  have m1 := m.m1
  obtain ⟨j, rfl⟩ : ∃ j : Nat, i = j := ⟨i.toNat, by omega⟩
  have hj : j < M.slots.length := by omega
  obtain ⟨gS, rfl, oS, -, -, -⟩ := row_form m.c.s (by omega)
  have hZ : Z gS := hf gS (.inr (.inl ⟨_, rfl, rfl⟩))
  have hrr := refsM_at M j hj
  obtain ⟨c0, -, -, -, -, -, fz⟩ := row_cells m.c.s hj
  by_cases h0 : refsM M j = 0
  · rw [← hrr, h0] at c0
    refine (rput_none w B gS _ j cS _ _ _ _ m.box hj (by omega) c0).mono ?_
    rintro e w' ⟨rfl, rfl⟩
    have e1 : putN M j = M := by unfold putN; rw [if_pos h0]
    rw [e1]
    exact ⟨rfl, H'.up, .refl _ _⟩
  have e0 : putN M j = putM M j := by unfold putN; rw [if_neg h0]
  rw [e0]
  by_cases hl : refsM M j = 1
  · rw [← hrr, hl] at c0
    have mt := turned m hj 0
    refine (rput_last w B gS _ j lo cS cF aF M.free _ _ _ m.box hj (by omega) c0 (fz _) m.ne_s mt.at.f (by omega)).mono ?_
    rintro e w' ⟨rfl, a', c', w1, hb, ho, rfl⟩
    have e1 : putM M j = { M with slots := setRefs M j 0, free := M.free ++ [(j : Int)] } := by simp [putM, hl]
    have hlen : (M.free ++ [(j : Int)]).length = M.free.length + 1 := by simp
    rw [e1]
    have hz : (w.setCell ⟨gS, j * 6, none⟩ (.int .i64 0)).heap.size = w.heap.size := World.size_setCell ..
    have hi' := own_hi ho
    rw [← hz] at hb ho
    have mg := mt.newF (M.free ++ [(j : Int)]) (by rw [hlen]; omega) hb hlen ho
    refine ⟨rfl, ⟨_, _, _, _, _, _, _, _, mg, foot_hold hf hi'⟩, ?_⟩
    exact (((Fine.refl w Z).set (.inl hZ) (j * 6) (.int .i64 0)).below hb).set (.inl (hf B (.inl rfl))) _ _
  · have hr2 : 1 < M.slots[j].refs := by omega
    refine (rput_more w B gS _ j cS _ _ _ _ _ m.box hj (by omega) c0 (fz _) hr2 (by omega)).mono ?_
    rintro e w' ⟨rfl, rfl⟩
    have e1 : putM M j = { M with slots := setRefs M j (refsM M j - 1) } := by simp [putM, hl]
    rw [e1]
    have mt := turned m hj (M.slots[j].refs - 1)
    rw [← hrr] at mt ⊢
    exact ⟨rfl, ⟨_, _, _, _, _, _, _, _, mt, fun k hk => .inl (hf k hk)⟩, (Fine.refl w Z).set (.inl hZ) _ _⟩


end Go.Proofs.Ytdbilofhcadmoab.mm
