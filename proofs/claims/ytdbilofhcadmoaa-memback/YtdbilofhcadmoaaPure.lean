/- Memory as plain data: what Check finds, what is taken, held and put; no program text is named here. -/
namespace Go.Proofs.Ytdbilofhcadmoaa.mm

structure Sl where
  refs : Int
  a : Int
  b : Int
  unt : Int
  inn : Bool
  next : Int

structure Mm where
  slots : List Sl
  heads : List Int
  free : List Int
  locks : List Int
  now : Int

def sl0 : Sl := ⟨0, 0, 0, 0, false, 0⟩
def m0 : Mm := ⟨[], [], [], [], 0⟩

def slEq (x y : Sl) : Bool := x.refs == y.refs && (x.a == y.a && (x.b == y.b && (x.unt == y.unt && (x.inn == y.inn && x.next == y.next))))
theorem slEq_iff (x y : Sl) : slEq x y = true ↔ x = y := by
  cases x; cases y; simp [slEq]
theorem slEq_refl (x : Sl) : slEq x x = true := (slEq_iff x x).2 rfl

def inB (x lo hi : Int) : Bool := decide (lo ≤ x) && decide (x ≤ hi)
theorem inB_iff (x lo hi : Int) : inB x lo hi = true ↔ lo ≤ x ∧ x ≤ hi := by simp [inB]
def keyB (a b : Int) : Bool := inB a 0 15 && inB b 0 15
theorem keyB_iff (a b : Int) : keyB a b = true ↔ (0 ≤ a ∧ a ≤ 15) ∧ (0 ≤ b ∧ b ≤ 15) := by simp [keyB, inB]

def slotErr (nh ns : Nat) (s : Sl) : Int :=
  if inB s.refs 0 1000 && inB s.unt 0 2000000 && keyB s.a s.b then (if inB s.next (-(nh : Int)) ns then 0 else 5) else 3
def chainErr (nh ns : Nat) (p : Int × Int) : Int :=
  if p.1 ≠ 0 ∧ inB p.1 (-(nh : Int)) ns then (if inB p.2 (-1) 4 then 0 else 3) else 5

def firstE {α : Type} (f : α → Int) : List α → Int
  | [] => 0
  | x :: l => if f x ≠ 0 then f x else firstE f l

theorem firstE_drop {α : Type} (f : α → Int) (l : List α) (k : Nat) (h : k < l.length) :
    firstE f (l.drop k) = if f l[k] ≠ 0 then f l[k] else firstE f (l.drop (k + 1)) := by
  rw [List.drop_eq_getElem_cons h]; rfl
theorem firstE_end {α : Type} (f : α → Int) (l : List α) (k : Nat) (h : l.length ≤ k) : firstE f (l.drop k) = 0 := by
  rw [List.drop_of_length_le h]; rfl
theorem firstE_zero {α : Type} (f : α → Int) (l : List α) : firstE f l = 0 ↔ ∀ x ∈ l, f x = 0 := by
  induction l with
  | nil => simp [firstE]
  | cons x l ih =>
    simp only [firstE, List.mem_cons, forall_eq_or_imp]
    by_cases h : f x = 0
    · simp [h, ih]
    · simp [h]

def hasB (l : List Int) (x : Int) : Bool := l.contains x
theorem hasB_iff (l : List Int) (x : Int) : hasB l x = true ↔ x ∈ l := by simp [hasB]
theorem hasB_not (l : List Int) (x : Int) : hasB l x = false ↔ ¬ x ∈ l := by simp [hasB]

def freeOk (S : List Sl) (a : Int) : Bool := decide (0 ≤ a) && (decide (a < S.length) && decide ((S.getD a.toNat sl0).refs = 0))
theorem freeOk_iff (S : List Sl) (a : Int) : freeOk S a = true ↔ 0 ≤ a ∧ a < S.length ∧ (S.getD a.toNat sl0).refs = 0 := by simp [freeOk]
def freeErr (S : List Sl) : List Int → List Int → Int
  | _, [] => 0
  | pre, a :: l => if freeOk S a then (if hasB pre a then 6 else freeErr S (pre ++ [a]) l) else 5
def lostErr (F : List Int) : Nat → List Sl → Int
  | _, [] => 0
  | i, s :: l => if s.refs == 0 && !hasB F (i : Int) then 4 else lostErr F (i + 1) l

theorem freeErr_drop (S : List Sl) (l : List Int) (k : Nat) (h : k < l.length) :
    freeErr S (l.take k) (l.drop k) = if freeOk S l[k] then (if hasB (l.take k) l[k] then 6 else freeErr S (l.take (k + 1)) (l.drop (k + 1))) else 5 := by
  rw [List.drop_eq_getElem_cons h, List.take_succ_eq_append_getElem h]; rfl
theorem freeErr_end (S : List Sl) (l : List Int) (k : Nat) (h : l.length ≤ k) : freeErr S (l.take k) (l.drop k) = 0 := by
  rw [List.drop_of_length_le h]; rfl
theorem lostErr_drop (F : List Int) (S : List Sl) (k : Nat) (h : k < S.length) :
    lostErr F k (S.drop k) = if S[k].refs == 0 && !hasB F (k : Int) then 4 else lostErr F (k + 1) (S.drop (k + 1)) := by
  rw [List.drop_eq_getElem_cons h]; rfl
theorem lostErr_end (F : List Int) (S : List Sl) (k : Nat) (h : S.length ≤ k) : lostErr F k (S.drop k) = 0 := by
  rw [List.drop_of_length_le h]; rfl

def chk (m : Mm) : Int :=
  if 12 < m.slots.length ∨ m.heads.length < 1 ∨ 4 < m.heads.length then 2
  else if m.locks.length ≠ m.heads.length then 4
  else if inB m.now 0 1000000 = false then 3
  else if firstE (slotErr m.heads.length m.slots.length) m.slots ≠ 0 then firstE (slotErr m.heads.length m.slots.length) m.slots
  else if firstE (chainErr m.heads.length m.slots.length) (m.heads.zip m.locks) ≠ 0 then firstE (chainErr m.heads.length m.slots.length) (m.heads.zip m.locks)
  else if freeErr m.slots [] m.free ≠ 0 then freeErr m.slots [] m.free
  else lostErr m.free 0 m.slots

/- What Check's answer 0 says. -/
structure Ok (m : Mm) : Prop where
  ns : m.slots.length ≤ 12
  nh : 1 ≤ m.heads.length ∧ m.heads.length ≤ 4
  nl : m.locks.length = m.heads.length
  now : 0 ≤ m.now ∧ m.now ≤ 1000000
  slot : ∀ s ∈ m.slots, slotErr m.heads.length m.slots.length s = 0
  chain : ∀ p ∈ m.heads.zip m.locks, chainErr m.heads.length m.slots.length p = 0
  free : ∀ a ∈ m.free, freeOk m.slots a = true
  nodup : m.free.Nodup
  all : ∀ i, i < m.slots.length → (m.slots.getD i sl0).refs = 0 → (i : Int) ∈ m.free

theorem freeErr_zero (S : List Sl) (pre l : List Int) (hp : pre.Nodup) : freeErr S pre l = 0 ↔ (∀ a ∈ l, freeOk S a = true) ∧ (pre ++ l).Nodup := by
  induction l generalizing pre with
  | nil => simp [freeErr, hp]
  | cons a l ih =>
    simp only [freeErr, List.mem_cons, forall_eq_or_imp]
    by_cases h1 : freeOk S a = true
    · by_cases h2 : a ∈ pre
      · simp [h1, h2, hasB_iff, List.nodup_append]
        intro _ _ _ _
        exact ⟨a, h2, fun h => absurd rfl h⟩
      · have hp' : (pre ++ [a]).Nodup := by
          rw [List.nodup_append]; simp [hp]
          intro x hx e; subst e; exact h2 hx
        have := ih (pre ++ [a]) hp'
        rw [List.append_assoc] at this
        simp only [h1, h2, hasB_iff, if_true, if_false, true_and]
        exact this
    · simp [h1]

theorem lostErr_zero (F : List Int) (S : List Sl) (k : Nat) : lostErr F k S = 0 ↔ ∀ i, i < S.length → (S.getD i sl0).refs = 0 → ((k + i : Nat) : Int) ∈ F := by
  induction S generalizing k with
  | nil => simp [lostErr]
  | cons s l ih =>
    simp only [lostErr]
    by_cases h : s.refs == 0 && !hasB F (k : Int)
    · rw [if_pos h]
      simp only [Bool.and_eq_true, beq_iff_eq, Bool.not_eq_true'] at h
      constructor
      · intro e; omega
      · intro hh
        have := hh 0 (by simp) (by simpa using h.1)
        simp only [Nat.add_zero] at this
        rw [← hasB_iff] at this
        rw [this] at h; simp at h
    · rw [if_neg h, ih]
      constructor
      · intro hh i hi hr
        match i with
        | 0 =>
          simp at hr
          simp [hr, hasB_iff] at h
          simpa using h
        | i + 1 =>
          have := hh i (by simp at hi; omega) (by simpa using hr)
          rwa [show k + 1 + i = k + (i + 1) by omega] at this
      · intro hh i hi hr
        have := hh (i + 1) (by simp; omega) (by simpa using hr)
        rwa [show k + (i + 1) = k + 1 + i by omega] at this

theorem chk_zero (m : Mm) : chk m = 0 ↔ Ok m := by
  unfold chk
  constructor
  · intro h
    split at h
    · omega
    split at h
    · omega
    split at h
    · omega
    split at h
    · omega
    split at h
    · omega
    split at h
    · omega
    rename_i h1 h2 h3 h4 h5 h6
    have h3' : inB m.now 0 1000000 = true := by simpa using h3
    simp only [ne_eq, Decidable.not_not] at h4 h5 h6 h2
    have hf := (freeErr_zero m.slots [] m.free List.nodup_nil).1 h6
    have hl := (lostErr_zero m.free m.slots 0).1 h
    refine ⟨by omega, by omega, h2, (inB_iff _ _ _).1 h3', (firstE_zero _ _).1 h4, (firstE_zero _ _).1 h5, hf.1, by simpa using hf.2, ?_⟩
    intro i hi hr
    have := hl i hi hr
    simpa using this
  · intro h
    rw [if_neg (by have := h.ns; have := h.nh; omega), if_neg (by simpa using h.nl), if_neg (by rw [(inB_iff _ _ _).2 h.now]; simp),
      if_neg (by simpa using (firstE_zero _ _).2 h.slot), if_neg (by simpa using (firstE_zero _ _).2 h.chain),
      if_neg (by simpa using (freeErr_zero m.slots [] m.free List.nodup_nil).2 ⟨h.free, by simpa using h.nodup⟩)]
    exact (lostErr_zero m.free m.slots 0).2 fun i hi hr => by simpa using h.all i hi hr

def lastF (m : Mm) : Int := m.free.getD (m.free.length - 1) 0
def takeM (m : Mm) (ka kb u : Int) : Mm :=
  { m with slots := m.slots.set (lastF m).toNat ⟨1, ka, kb, u, false, (m.slots.getD (lastF m).toNat sl0).next⟩, free := m.free.take (m.free.length - 1) }
def refsM (m : Mm) (i : Int) : Int := (m.slots.getD i.toNat sl0).refs
def setRefs (m : Mm) (i r : Int) : List Sl := m.slots.set i.toNat { m.slots.getD i.toNat sl0 with refs := r }
def holdM (m : Mm) (i : Int) : Mm := { m with slots := setRefs m i (refsM m i + 1) }
def putM (m : Mm) (i : Int) : Mm := { m with slots := setRefs m i (refsM m i - 1), free := if refsM m i = 1 then m.free ++ [i] else m.free }
def isSl (m : Mm) (i : Int) : Bool := inB i 0 ((m.slots.length : Int) - 1)

def takenE (m : Mm) (ka kb u : Int) : Int :=
  if chk m ≠ 0 then chk m else if keyB ka kb = false then 3 else if inB u 0 2000000 = false then 3 else if m.free.length = 0 then 7 else 0
def takenM (m : Mm) (ka kb u : Int) : Mm := if takenE m ka kb u = 0 then takeM m ka kb u else m0
def takenN (m : Mm) (ka kb u : Int) : Int := if takenE m ka kb u = 0 then lastF m else 0
def heldE (m : Mm) (i : Int) : Int :=
  if chk m ≠ 0 then chk m else if isSl m i = false then 5 else if refsM m i = 0 ∨ refsM m i = 1000 then 8 else 0
def heldM (m : Mm) (i : Int) : Mm := if heldE m i = 0 then holdM m i else m0
def letE (m : Mm) (i : Int) : Int :=
  if chk m ≠ 0 then chk m else if isSl m i = false then 5 else if refsM m i = 0 then 8 else 0
def letM (m : Mm) (i : Int) : Mm := if letE m i = 0 then putM m i else m0

def newM (many buckets : Nat) : Mm :=
  { slots := List.replicate many sl0, heads := (List.range buckets).map fun (b : Nat) => -1 - (b : Int), free := (List.range many).map fun (a : Nat) => (many : Int) - 1 - (a : Int), locks := List.replicate buckets (-1), now := 0 }
def newE (many buckets : Int) : Int := if inB many 0 12 && inB buckets 1 4 then 0 else 3


end Go.Proofs.Ytdbilofhcadmoaa.mm
