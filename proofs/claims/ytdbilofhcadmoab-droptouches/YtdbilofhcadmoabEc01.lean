/- Memory as plain data: what Check finds, what is taken, held and put; no program text is named here. -/
import Derived.Test.YtdbilofhcadmoabRows
import Derived.WalkKit
import Derived.ProofKit
import Derived.OpenShut
import Derived.WalkLawsBesides
import Derived.WalkSpells
import Derived.Lib.SmallJoins
import Derived.Lib.BufferMore
import Derived.Maps.AppendAt
import Derived.WalkSmall
import Derived.BigRegion
import Derived.Deep.QuietTactic
import Derived.BigQuiet
import Derived.Lib.QuietBelow
import Derived.ArgAppend
namespace Go.Proofs.Ytdbilofhcadmoab.mm

structure Sl where
  refs : Int
  a : Int
  b : Int
  unt : Int
  inn : Bool
  next : Int

structure Mm where
  slots : List Sl
  heads : List Int
  free : List Int
  locks : List Int
  now : Int

def sl0 : Sl := ⟨0, 0, 0, 0, false, 0⟩
def m0 : Mm := ⟨[], [], [], [], 0⟩

def slEq (x y : Sl) : Bool := x.refs == y.refs && (x.a == y.a && (x.b == y.b && (x.unt == y.unt && (x.inn == y.inn && x.next == y.next))))
theorem slEq_iff (x y : Sl) : slEq x y = true ↔ x = y := by
  cases x; cases y; simp [slEq]
theorem slEq_refl (x : Sl) : slEq x x = true := (slEq_iff x x).2 rfl

def inB (x lo hi : Int) : Bool := decide (lo ≤ x) && decide (x ≤ hi)
theorem inB_iff (x lo hi : Int) : inB x lo hi = true ↔ lo ≤ x ∧ x ≤ hi := by simp [inB]
def keyB (a b : Int) : Bool := inB a 0 15 && inB b 0 15
theorem keyB_iff (a b : Int) : keyB a b = true ↔ (0 ≤ a ∧ a ≤ 15) ∧ (0 ≤ b ∧ b ≤ 15) := by simp [keyB, inB]

def slotErr (nh ns : Nat) (s : Sl) : Int :=
  if inB s.refs 0 1000 && inB s.unt 0 2000000 && keyB s.a s.b then (if inB s.next (-(nh : Int)) ns then 0 else 5) else 3
def chainErr (nh ns : Nat) (p : Int × Int) : Int :=
  if p.1 ≠ 0 ∧ inB p.1 (-(nh : Int)) ns then (if inB p.2 (-1) 4 then 0 else 3) else 5

def firstE {α : Type} (f : α → Int) : List α → Int
  | [] => 0
  | x :: l => if f x ≠ 0 then f x else firstE f l

theorem firstE_drop {α : Type} (f : α → Int) (l : List α) (k : Nat) (h : k < l.length) :
    firstE f (l.drop k) = if f l[k] ≠ 0 then f l[k] else firstE f (l.drop (k + 1)) := by
  rw [List.drop_eq_getElem_cons h]; rfl
theorem firstE_end {α : Type} (f : α → Int) (l : List α) (k : Nat) (h : l.length ≤ k) : firstE f (l.drop k) = 0 := by
  rw [List.drop_of_length_le h]; rfl
theorem firstE_zero {α : Type} (f : α → Int) (l : List α) : firstE f l = 0 ↔ ∀ x ∈ l, f x = 0 := by
  induction l with
  | nil => simp [firstE]
  | cons x l ih =>
    simp only [firstE, List.mem_cons, forall_eq_or_imp]
    by_cases h : f x = 0
    · simp [h, ih]
    · simp [h]

def hasB (l : List Int) (x : Int) : Bool := l.contains x
theorem hasB_iff (l : List Int) (x : Int) : hasB l x = true ↔ x ∈ l := by simp [hasB]
theorem hasB_not (l : List Int) (x : Int) : hasB l x = false ↔ ¬ x ∈ l := by simp [hasB]

def freeOk (S : List Sl) (a : Int) : Bool := decide (0 ≤ a) && (decide (a < S.length) && decide ((S.getD a.toNat sl0).refs = 0))
theorem freeOk_iff (S : List Sl) (a : Int) : freeOk S a = true ↔ 0 ≤ a ∧ a < S.length ∧ (S.getD a.toNat sl0).refs = 0 := by simp [freeOk]
def freeErr (S : List Sl) : List Int → List Int → Int
  | _, [] => 0
  | pre, a :: l => if freeOk S a then (if hasB pre a then 6 else freeErr S (pre ++ [a]) l) else 5
def lostErr (F : List Int) : Nat → List Sl → Int
  | _, [] => 0
  | i, s :: l => if s.refs == 0 && !hasB F (i : Int) then 4 else lostErr F (i + 1) l

theorem freeErr_drop (S : List Sl) (l : List Int) (k : Nat) (h : k < l.length) :
    freeErr S (l.take k) (l.drop k) = if freeOk S l[k] then (if hasB (l.take k) l[k] then 6 else freeErr S (l.take (k + 1)) (l.drop (k + 1))) else 5 := by
  rw [List.drop_eq_getElem_cons h, List.take_succ_eq_append_getElem h]; rfl
theorem freeErr_end (S : List Sl) (l : List Int) (k : Nat) (h : l.length ≤ k) : freeErr S (l.take k) (l.drop k) = 0 := by
  rw [List.drop_of_length_le h]; rfl
theorem lostErr_drop (F : List Int) (S : List Sl) (k : Nat) (h : k < S.length) :
    lostErr F k (S.drop k) = if S[k].refs == 0 && !hasB F (k : Int) then 4 else lostErr F (k + 1) (S.drop (k + 1)) := by
  rw [List.drop_eq_getElem_cons h]; rfl
theorem lostErr_end (F : List Int) (S : List Sl) (k : Nat) (h : S.length ≤ k) : lostErr F k (S.drop k) = 0 := by
  rw [List.drop_of_length_le h]; rfl

def chk (m : Mm) : Int :=
  if 12 < m.slots.length ∨ m.heads.length < 1 ∨ 4 < m.heads.length then 2
  else if m.locks.length ≠ m.heads.length then 4
  else if inB m.now 0 1000000 = false then 3
  else if firstE (slotErr m.heads.length m.slots.length) m.slots ≠ 0 then firstE (slotErr m.heads.length m.slots.length) m.slots
  else if firstE (chainErr m.heads.length m.slots.length) (m.heads.zip m.locks) ≠ 0 then firstE (chainErr m.heads.length m.slots.length) (m.heads.zip m.locks)
  else if freeErr m.slots [] m.free ≠ 0 then freeErr m.slots [] m.free
  else lostErr m.free 0 m.slots

/- What Check's answer 0 says. -/
structure Ok (m : Mm) : Prop where
  ns : m.slots.length ≤ 12
  nh : 1 ≤ m.heads.length ∧ m.heads.length ≤ 4
  nl : m.locks.length = m.heads.length
  now : 0 ≤ m.now ∧ m.now ≤ 1000000
  slot : ∀ s ∈ m.slots, slotErr m.heads.length m.slots.length s = 0
  chain : ∀ p ∈ m.heads.zip m.locks, chainErr m.heads.length m.slots.length p = 0
  free : ∀ a ∈ m.free, freeOk m.slots a = true
  nodup : m.free.Nodup
  all : ∀ i, i < m.slots.length → (m.slots.getD i sl0).refs = 0 → (i : Int) ∈ m.free

theorem freeErr_zero (S : List Sl) (pre l : List Int) (hp : pre.Nodup) : freeErr S pre l = 0 ↔ (∀ a ∈ l, freeOk S a = true) ∧ (pre ++ l).Nodup := by
  induction l generalizing pre with
  | nil => simp [freeErr, hp]
  | cons a l ih =>
    simp only [freeErr, List.mem_cons, forall_eq_or_imp]
    by_cases h1 : freeOk S a = true
    · by_cases h2 : a ∈ pre
      · simp [h1, h2, hasB_iff, List.nodup_append]
        intro _ _ _ _
        exact ⟨a, h2, fun h => absurd rfl h⟩
      · have hp' : (pre ++ [a]).Nodup := by
          rw [List.nodup_append]; simp [hp]
          intro x hx e; subst e; exact h2 hx
        have := ih (pre ++ [a]) hp'
        rw [List.append_assoc] at this
        simp only [h1, h2, hasB_iff, if_true, if_false, true_and]
        exact this
    · simp [h1]

theorem lostErr_zero (F : List Int) (S : List Sl) (k : Nat) : lostErr F k S = 0 ↔ ∀ i, i < S.length → (S.getD i sl0).refs = 0 → ((k + i : Nat) : Int) ∈ F := by
  induction S generalizing k with
  | nil => simp [lostErr]
  | cons s l ih =>
    simp only [lostErr]
    by_cases h : s.refs == 0 && !hasB F (k : Int)
    · rw [if_pos h]
      simp only [Bool.and_eq_true, beq_iff_eq, Bool.not_eq_true'] at h
      constructor
      · intro e; omega
      · intro hh
        have := hh 0 (by simp) (by simpa using h.1)
        simp only [Nat.add_zero] at this
        rw [← hasB_iff] at this
        rw [this] at h; simp at h
    · rw [if_neg h, ih]
      constructor
      · intro hh i hi hr
        match i with
        | 0 =>
          simp at hr
          simp [hr, hasB_iff] at h
          simpa using h
        | i + 1 =>
          have := hh i (by simp at hi; omega) (by simpa using hr)
          rwa [show k + 1 + i = k + (i + 1) by omega] at this
      · intro hh i hi hr
        have := hh (i + 1) (by simp; omega) (by simpa using hr)
        rwa [show k + (i + 1) = k + 1 + i by omega] at this

theorem chk_zero (m : Mm) : chk m = 0 ↔ Ok m := by
  unfold chk
  constructor
  · intro h
    split at h
    · omega
    split at h
    · omega
    split at h
    · omega
    split at h
    · omega
    split at h
    · omega
    split at h
    · omega
    rename_i h1 h2 h3 h4 h5 h6
    have h3' : inB m.now 0 1000000 = true := by simpa using h3
    simp only [ne_eq, Decidable.not_not] at h4 h5 h6 h2
    have hf := (freeErr_zero m.slots [] m.free List.nodup_nil).1 h6
    have hl := (lostErr_zero m.free m.slots 0).1 h
    refine ⟨by omega, by omega, h2, (inB_iff _ _ _).1 h3', (firstE_zero _ _).1 h4, (firstE_zero _ _).1 h5, hf.1, by simpa using hf.2, ?_⟩
    intro i hi hr
    have := hl i hi hr
    simpa using this
  · intro h
    rw [if_neg (by have := h.ns; have := h.nh; omega), if_neg (by simpa using h.nl), if_neg (by rw [(inB_iff _ _ _).2 h.now]; simp),
      if_neg (by simpa using (firstE_zero _ _).2 h.slot), if_neg (by simpa using (firstE_zero _ _).2 h.chain),
      if_neg (by simpa using (freeErr_zero m.slots [] m.free List.nodup_nil).2 ⟨h.free, by simpa using h.nodup⟩)]
    exact (lostErr_zero m.free m.slots 0).2 fun i hi hr => by simpa using h.all i hi hr

def lastF (m : Mm) : Int := m.free.getD (m.free.length - 1) 0
def takeM (m : Mm) (ka kb u : Int) : Mm :=
  { m with slots := m.slots.set (lastF m).toNat ⟨1, ka, kb, u, false, (m.slots.getD (lastF m).toNat sl0).next⟩, free := m.free.take (m.free.length - 1) }
def refsM (m : Mm) (i : Int) : Int := (m.slots.getD i.toNat sl0).refs
def setRefs (m : Mm) (i r : Int) : List Sl := m.slots.set i.toNat { m.slots.getD i.toNat sl0 with refs := r }
def holdM (m : Mm) (i : Int) : Mm := { m with slots := setRefs m i (refsM m i + 1) }
def putM (m : Mm) (i : Int) : Mm := { m with slots := setRefs m i (refsM m i - 1), free := if refsM m i = 1 then m.free ++ [i] else m.free }
def isSl (m : Mm) (i : Int) : Bool := inB i 0 ((m.slots.length : Int) - 1)

def takenE (m : Mm) (ka kb u : Int) : Int :=
  if chk m ≠ 0 then chk m else if keyB ka kb = false then 3 else if inB u 0 2000000 = false then 3 else if m.free.length = 0 then 7 else 0
def takenM (m : Mm) (ka kb u : Int) : Mm := if takenE m ka kb u = 0 then takeM m ka kb u else m0
def takenN (m : Mm) (ka kb u : Int) : Int := if takenE m ka kb u = 0 then lastF m else 0
def heldE (m : Mm) (i : Int) : Int :=
  if chk m ≠ 0 then chk m else if isSl m i = false then 5 else if refsM m i = 0 ∨ refsM m i = 1000 then 8 else 0
def heldM (m : Mm) (i : Int) : Mm := if heldE m i = 0 then holdM m i else m0
def letE (m : Mm) (i : Int) : Int :=
  if chk m ≠ 0 then chk m else if isSl m i = false then 5 else if refsM m i = 0 then 8 else 0
def letM (m : Mm) (i : Int) : Mm := if letE m i = 0 then putM m i else m0

def newM (many buckets : Nat) : Mm :=
  { slots := List.replicate many sl0, heads := (List.range buckets).map fun (b : Nat) => -1 - (b : Int), free := (List.range many).map fun (a : Nat) => (many : Int) - 1 - (a : Int), locks := List.replicate buckets (-1), now := 0 }
def newE (many buckets : Int) : Int := if inB many 0 12 && inB buckets 1 4 then 0 else 3





end Go.Proofs.Ytdbilofhcadmoab.mm

/- Contracts of the small functions that memory's Check is made of: within, isSlot, mayStand, key.Check, slices.Contains: each returns what the document says, and changes nothing that was there. -/
namespace Go.Proofs.Ytdbilofhcadmoab.mm
open Go.ChangeShapes Go.WideShapes Go.ChangeAt Go.RowKit
set_option linter.unusedVariables false

theorem bcell {W w1 : World} {n : Nat} (hb : Below n W w1) : (∀ b o, b < n → w1.cell? ⟨b, o, none⟩ = W.cell? ⟨b, o, none⟩) ∧ (∀ b o, b < n → w1.frozen? ⟨b, o, none⟩ = W.frozen? ⟨b, o, none⟩) :=
  ⟨fun b o h => hb.cell (p := ⟨b, o, none⟩) h, fun b o h => hb.frozen (p := ⟨b, o, none⟩) h⟩

theorem cell_lt {w : World} {b o : Nat} {v : Value} (h : w.cell? ⟨b, o, none⟩ = some v) : b < w.heap.size := by
  refine Nat.lt_of_not_le fun hh => ?_
  unfold World.cell? at h
  rw [Array.getElem?_eq_none hh] at h
  cases h

/- A list of ints lies at a slice. -/
structure IRow (w : World) (ao : Option Addr) (cap : Nat) (l : List Int) : Prop where
  le : l.length ≤ cap
  max : l.length * 8 ≤ 140737488351232
  nil : ao = none → cap = 0
  at_ : l.length = 0 ∨ ∃ b o, ao = some ⟨b, o, none⟩ ∧ ∀ i (h : i < l.length), w.cell? ⟨b, o + i, none⟩ = some (.int .i64 l[i])

/- A list of slots lies at a slice. -/
structure SRow (w : World) (ao : Option Addr) (cap : Nat) (l : List Sl) : Prop where
  le : l.length ≤ cap
  max : l.length * 48 ≤ 140737488351232
  nil : ao = none → cap = 0
  at_ : l.length = 0 ∨ ∃ b o, ao = some ⟨b, o, none⟩ ∧ ∀ i (h : i < l.length),
    w.cell? ⟨b, o + i * 6, none⟩ = some (.int .i64 l[i].refs) ∧ w.cell? ⟨b, o + i * 6 + 1, none⟩ = some (.int .i64 l[i].a) ∧ w.cell? ⟨b, o + i * 6 + 2, none⟩ = some (.int .i64 l[i].b) ∧
    w.cell? ⟨b, o + i * 6 + 3, none⟩ = some (.int .i64 l[i].unt) ∧ w.cell? ⟨b, o + i * 6 + 4, none⟩ = some (.bool l[i].inn) ∧ w.cell? ⟨b, o + i * 6 + 5, none⟩ = some (.int .i64 l[i].next)

theorem IRow.below {w w' : World} {ao : Option Addr} {cap : Nat} {l : List Int} (r : IRow w ao cap l) (hb : Below w.heap.size w w') : IRow w' ao cap l := by
  refine ⟨r.le, r.max, r.nil, ?_⟩
  rcases r.at_ with h | ⟨b, o, h, hc⟩
  · exact .inl h
  · exact .inr ⟨b, o, h, fun i hi => (hb.cell (p := ⟨b, o + i, none⟩) (cell_lt (hc i hi))).trans (hc i hi)⟩

theorem SRow.below {w w' : World} {ao : Option Addr} {cap : Nat} {l : List Sl} (r : SRow w ao cap l) (hb : Below w.heap.size w w') : SRow w' ao cap l := by
  refine ⟨r.le, r.max, r.nil, ?_⟩
  rcases r.at_ with h | ⟨b, o, h, hc⟩
  · exact .inl h
  · refine .inr ⟨b, o, h, fun i hi => ?_⟩
    obtain ⟨c0, c1, c2, c3, c4, c5⟩ := hc i hi
    have lt := cell_lt c0
    obtain ⟨q, _⟩ := bcell hb
    exact ⟨(q _ _ lt).trans c0, (q _ _ lt).trans c1, (q _ _ lt).trans c2, (q _ _ lt).trans c3, (q _ _ lt).trans c4, (q _ _ lt).trans c5⟩

/- Memory lies at four slices. -/
structure At (w : World) (aS aH aF aL : Option Addr) (cS cH cF cL : Nat) (M : Mm) : Prop where
  s : SRow w aS cS M.slots
  h : IRow w aH cH M.heads
  f : IRow w aF cF M.free
  l : IRow w aL cL M.locks

theorem At.below {w w' : World} {aS aH aF aL : Option Addr} {cS cH cF cL : Nat} {M : Mm} (r : At w aS aH aF aL cS cH cF cL M) (hb : Below w.heap.size w w') : At w' aS aH aF aL cS cH cF cL M :=
  ⟨r.s.below hb, r.h.below hb, r.f.below hb, r.l.below hb⟩

theorem one_below (w : World) (o : Obj) : Below w.heap.size w (w.alloc o) := (Below.refl _ _).alloc (Nat.le_refl _) _

theorem box_cells {w wr : World} {v0 v1 v2 v3 v4 : Value} {t : TypeId} (hb : Below (w.heap.size + 1) (w.alloc (.cells #[v0, v1, v2, v3, v4] t)) wr) :
    wr.cell? ⟨w.heap.size, 0, none⟩ = some v0 ∧ wr.cell? ⟨w.heap.size, 1, none⟩ = some v1 ∧ wr.cell? ⟨w.heap.size, 2, none⟩ = some v2 ∧ wr.cell? ⟨w.heap.size, 3, none⟩ = some v3 ∧ wr.cell? ⟨w.heap.size, 4, none⟩ = some v4 ∧ w.heap.size + 1 ≤ wr.heap.size := by
  obtain ⟨q, _⟩ := bcell hb
  refine ⟨(q _ _ (by omega)).trans (by simp), (q _ _ (by omega)).trans (by simp), (q _ _ (by omega)).trans (by simp), (q _ _ (by omega)).trans (by simp), (q _ _ (by omega)).trans (by simp), ?_⟩
  have := hb.size
  simpa using this

theorem within_any (x lo hi : Int) (w : World) :
    Calls Try.prog 81 #[.int .i64 x, .int .i64 lo, .int .i64 hi] w fun e w' => e = .returned (.bool (inB x lo hi)) ∧ w = w' := by
  by_cases h : lo ≤ x
  · go_enter Try.func81, Try.ntmps81
    go_wp2
    go_ret
    exact ⟨by simp [inB, h], rfl⟩
  · have h' : x < lo := by omega
    go_enter Try.func81, Try.ntmps81
    go_wp2
    go_ret
    exact ⟨by simp [inB]; omega, rfl⟩

theorem isSlot_any (aS aH aF aL : Option Addr) (nS nH nF nL cS cH cF cL : Nat) (now a : Int) (w : World) (hn : nS ≤ 9223372036854775807) :
    Calls Try.prog 78 #[.agg #[.slice aS nS cS, .slice aH nH cH, .slice aF nF cF, .slice aL nL cL, .int .i64 now], .int .i64 a] w fun e w' => e = .returned (.bool (inB a 0 ((nS : Int) - 1))) ∧ Below w.heap.size w w' := by
  by_cases h : 0 ≤ a
  · by_cases h2 : a < nS
    · go_enter Try.func78, Try.ntmps78
      go_wp2
      go_ret
      refine ⟨?_, one_below _ _⟩
      rw [show inB a 0 ((nS : Int) - 1) = true from (inB_iff _ _ _).2 ⟨h, by omega⟩]; rfl
    · have h3 : (nS : Int) ≤ a := by omega
      go_enter Try.func78, Try.ntmps78
      go_wp2
      go_ret
      refine ⟨?_, one_below _ _⟩
      rw [show inB a 0 ((nS : Int) - 1) = false by simp [inB]; omega]; rfl
  · have h' : a < 0 := by omega
    go_enter Try.func78, Try.ntmps78
    go_wp2
    go_ret
    refine ⟨?_, one_below _ _⟩
    rw [show inB a 0 ((nS : Int) - 1) = false by simp [inB]; omega]; rfl

theorem mayStand_any (aS aH aF aL : Option Addr) (nS nH nF nL cS cH cF cL : Nat) (now a : Int) (w : World) (hn : nS ≤ 9223372036854775807) (hh : nH ≤ 9223372036854775807) :
    Calls Try.prog 153 #[.agg #[.slice aS nS cS, .slice aH nH cH, .slice aF nF cF, .slice aL nL cL, .int .i64 now], .int .i64 a] w fun e w' => e = .returned (.bool (inB a (-(nH : Int)) nS)) ∧ Below w.heap.size w w' := by
  go_enter Try.func153, Try.ntmps153
  go_wp2_with (go_at_call 81; refine (within_any _ _ _ _).mono ?_; rintro e w1 ⟨rfl, rfl⟩)
  go_ret
  exact ⟨rfl, one_below _ _⟩

theorem endsOf_any (a b : Int) (w : World) :
    Calls Try.prog 104 #[.agg #[.int .i64 a, .int .i64 b]] w fun e w' => e = .returned (.agg #[.int .i64 a, .int .i64 b]) ∧ (w.alloc (.cells #[.int .i64 a, .int .i64 b] 37)).alloc (.cells #[.int .i64 a, .int .i64 b] 114) = w' := by
  go_enter Try.func104, Try.ntmps104
  go_wp2
  exact bodyPost_ret (v := .agg #[.int .i64 a, .int .i64 b]) (by simp [results, Try.results104, go_sem]) rfl ⟨rfl, rfl⟩

theorem kcheck_t (a b : Int) (w : World) (h : keyB a b = true) :
    Calls Try.prog 39 #[.agg #[.int .i64 a, .int .i64 b]] w fun e w' => e = .returned (.int .i64 0) ∧ Below w.heap.size w w' := by
  obtain ⟨⟨h0, h1⟩, h2, h3⟩ := (keyB_iff a b).1 h
  clear h
  have i0 : ∀ w, (Instr.index 114 (.agg #[.int .i64 a, .int .i64 b]) (.int .i64 0)).run Try.prog w = .ok (.int .i64 a) w := fun _ => by kernel_rfl
  have i1 : ∀ w, (Instr.index 114 (.agg #[.int .i64 a, .int .i64 b]) (.int .i64 1)).run Try.prog w = .ok (.int .i64 b) w := fun _ => by kernel_rfl
  go_enter Try.func39, Try.ntmps39
  go_wp2_with (first | (go_at_call 104; refine (endsOf_any _ _ _).mono ?_; rintro e w1 ⟨rfl, rfl⟩))
  refine wp_loop_rounds 3 ?_
  rw [rounds_succ]
  go_wp2
  rw [rounds_succ]
  go_wp2
  rw [rounds_succ]
  go_wp2
  go_ret
  refine ⟨rfl, ?_⟩
  repeat (first | exact Below.refl _ _ | refine Below.alloc ?_ (by simp <;> omega) _)

theorem kcheck_f (a b : Int) (w : World) (h : keyB a b = false) :
    Calls Try.prog 39 #[.agg #[.int .i64 a, .int .i64 b]] w fun e w' => e = .returned (.int .i64 3) ∧ Below w.heap.size w w' := by
  have hc : a < 0 ∨ (0 ≤ a ∧ 15 < a) ∨ (0 ≤ a ∧ a ≤ 15 ∧ b < 0) ∨ (0 ≤ a ∧ a ≤ 15 ∧ 0 ≤ b ∧ 15 < b) := by
    have : ¬ ((0 ≤ a ∧ a ≤ 15) ∧ (0 ≤ b ∧ b ≤ 15)) := fun hh => by rw [(keyB_iff a b).2 hh] at h; cases h
    omega
  clear h
  have i0 : ∀ w, (Instr.index 114 (.agg #[.int .i64 a, .int .i64 b]) (.int .i64 0)).run Try.prog w = .ok (.int .i64 a) w := fun _ => by kernel_rfl
  have i1 : ∀ w, (Instr.index 114 (.agg #[.int .i64 a, .int .i64 b]) (.int .i64 1)).run Try.prog w = .ok (.int .i64 b) w := fun _ => by kernel_rfl
  rcases hc with h | ⟨h1, h2⟩ | ⟨h1, h2, h3⟩ | ⟨h1, h2, h3, h4⟩
  all_goals
    go_enter Try.func39, Try.ntmps39
    go_wp2_with (first | (go_at_call 104; refine (endsOf_any _ _ _).mono ?_; rintro e w1 ⟨rfl, rfl⟩))
    refine wp_loop_rounds 3 ?_
    rw [rounds_succ]
    go_wp2
    try (rw [rounds_succ]; go_wp2)
    go_ret
    refine ⟨rfl, ?_⟩
    repeat (first | exact Below.refl _ _ | refine Below.alloc ?_ (by simp <;> omega) _)

theorem kcheck_any (a b : Int) (w : World) :
    Calls Try.prog 39 #[.agg #[.int .i64 a, .int .i64 b]] w fun e w' => e = .returned (.int .i64 (if keyB a b then 0 else 3)) ∧ Below w.heap.size w w' := by
  cases h : keyB a b
  · exact kcheck_f a b w h
  · exact kcheck_t a b w h





end Go.Proofs.Ytdbilofhcadmoab.mm

/- Contracts of slices.Contains over ints, and of the three loops of memory's Check. -/
namespace Go.Proofs.Ytdbilofhcadmoab.mm
open Go.ChangeShapes Go.WideShapes Go.ChangeAt Go.RowKit
set_option linter.unusedVariables false

theorem has_snoc (l : List Int) (k : Nat) (h : k < l.length) (x : Int) (h0 : hasB (l.take k) x = false) (hx : ¬ x = l[k]) : hasB (l.take (k + 1)) x = false := by
  rw [hasB_not] at h0 ⊢
  rw [List.take_succ_eq_append_getElem h, List.mem_append, List.mem_singleton]
  rintro (h | h)
  · exact h0 h
  · exact hx h

theorem has_hit (l : List Int) (k n : Nat) (h : k < l.length) (hk : k < n) (x : Int) (hx : x = l[k]) : hasB (l.take n) x = true := by
  rw [hasB_iff]
  subst hx
  have : (l.take n)[k]? = some l[k] := by rw [List.getElem?_take_of_lt hk]; exact List.getElem?_eq_getElem h
  exact List.mem_of_getElem? this

set_option maxHeartbeats 400000 in
theorem index_any (ao : Option Addr) (n cap : Nat) (l : List Int) (x : Int) (w : World) (hn : n ≤ l.length) (hbig : n ≤ 9223372036854775807)
    (hat : n = 0 ∨ ∃ b o, ao = some ⟨b, o, none⟩ ∧ ∀ i (h : i < l.length), w.cell? ⟨b, o + i, none⟩ = some (.int .i64 l[i])) :
    Calls Try.prog 77 #[.slice ao n cap, .int .i64 x] w fun e w' => ∃ i : Int, e = .returned (.int .i64 i) ∧ decide (0 ≤ i) = hasB (l.take n) x ∧ w = w' := by
  rcases hat with rfl | ⟨b, o, rfl, hc⟩
  · go_enter Try.func77, Try.ntmps77
    go_wp2
    refine wp_loop_rounds 1 ?_
    rw [rounds_succ]
    go_wp2
    go_ret
    exact ⟨-1, rfl, by simp [hasB], rfl⟩
  · go_enter Try.func77, Try.ntmps77
    go_wp2
    go_loop [8] (fun i => ∃ k : Nat, k ≤ n ∧ i = .int .i64 k ∧ Hid (hasB (l.take k) x = false)) (fun i => n - (intOf i).toNat)
    case atStart => exact ⟨0, Nat.zero_le _, rfl, by show _ = _; simp [hasB]⟩
    case round =>
      obtain ⟨k, hk, rfl, HC⟩ := hrel
      by_cases hlt : k < n
      · have hkl : k < l.length := by omega
        have hck := hc k hkl
        clear hc
        by_cases hx : x = l[k]
        · have HH : Hid (hasB (l.take n) x = true) := has_hit l k n hkl hlt x hx
          generalize l[k] = y at hck hx
          subst hx
          go_wp2
          go_ret
          exact ⟨k, rfl, by rw [HH.out]; simp, rfl⟩
        · have HH : Hid (hasB (l.take (k + 1)) x = false) := has_snoc l k hkl x HC.out hx
          have hx' : (x == l[k]) = false := by simpa using hx
          go_wp2
          go_round
          case rel => exact ⟨k + 1, by omega, by go_num, HH⟩
          case measure => simp [intOf]; omega
      · obtain rfl : k = n := by omega
        go_wp2
        go_ret
        exact ⟨-1, rfl, by rw [HC.out]; rfl, rfl⟩

theorem contains_any (ao : Option Addr) (n cap : Nat) (l : List Int) (x : Int) (w : World) (hn : n ≤ l.length) (hbig : n ≤ 9223372036854775807)
    (hat : n = 0 ∨ ∃ b o, ao = some ⟨b, o, none⟩ ∧ ∀ i (h : i < l.length), w.cell? ⟨b, o + i, none⟩ = some (.int .i64 l[i])) :
    Calls Try.prog 20 #[.slice ao n cap, .int .i64 x] w fun e w' => e = .returned (.bool (hasB (l.take n) x)) ∧ w = w' := by
  go_enter Try.func20, Try.ntmps20
  go_wp2_with (go_at_call 77; refine (index_any _ _ _ l _ _ hn hbig hat).mono ?_; rintro e w1 ⟨i, rfl, hd, rfl⟩)
  go_ret
  exact ⟨rfl, rfl⟩





end Go.Proofs.Ytdbilofhcadmoab.mm

/- The contract of checkSlots: the first error of the slots. -/
namespace Go.Proofs.Ytdbilofhcadmoab.mm
open Go.ChangeShapes Go.WideShapes Go.ChangeAt Go.RowKit
set_option linter.unusedVariables false

theorem ret_int {k : IntKind} {a b : Int} (h : a = b) : Ending.returned (.int k a) = .returned (.int k b) := by rw [h]

theorem step_err {α : Type} {f : α → Int} {l : List α} {k : Nat} (h : k < l.length) {e : Int} (he : f l[k] = e) (h0 : e ≠ 0) (H : firstE f l = firstE f (l.drop k)) : firstE f l = e := by
  rw [H, firstE_drop f l k h, he, if_pos h0]
theorem step_ok {α : Type} {f : α → Int} {l : List α} {k : Nat} (h : k < l.length) (he : f l[k] = 0) (H : firstE f l = firstE f (l.drop k)) : firstE f l = firstE f (l.drop (k + 1)) := by
  rw [H, firstE_drop f l k h, he, if_neg (by simp)]

set_option maxHeartbeats 1600000 in
theorem checkSlots_any (M : Mm) (aS aH aF aL : Option Addr) (cS cH cF cL : Nat) (w : World) (A : At w aS aH aF aL cS cH cF cL M) :
    Calls Try.prog 108 #[.agg #[.slice aS M.slots.length cS, .slice aH M.heads.length cH, .slice aF M.free.length cF, .slice aL M.locks.length cL, .int .i64 M.now]] w fun e w' =>
      e = .returned (.int .i64 (firstE (slotErr M.heads.length M.slots.length) M.slots)) ∧ Below w.heap.size w w' := by
  obtain ⟨S, H, F, L, now⟩ := M
  obtain ⟨rs, rh, rf, rl⟩ := A
  dsimp only at rs rh rf rl ⊢
  have m1 := rs.max; have m2 := rs.le; have m3 := rh.max; have m4 := rh.le
  have n1 : S.length ≤ 9223372036854775807 := by omega
  have n2 : H.length ≤ 9223372036854775807 := by omega
  obtain ⟨f, hf⟩ : ∃ f, f = slotErr H.length S.length := ⟨_, rfl⟩
  have HF : Hid (f = slotErr H.length S.length) := hf
  rw [← hf]
  clear hf
  have hz := rs.at_
  clear rh rf rl rs
  go_enter Try.func108, Try.ntmps108
  go_wp2
  rcases hz with h0 | ⟨b, o, rfl, hc⟩
  · have HE : Hid (firstE f S = 0) := by
      show _ = _
      rw [List.eq_nil_of_length_eq_zero h0]; rfl
    refine wp_loop_rounds 1 ?_
    rw [rounds_succ]
    go_wp2
    go_ret
    exact ⟨ret_int HE.out.symm, one_below _ _⟩
  · go_loopw [9] (fun i wr => ∃ k : Nat, k ≤ S.length ∧ i = .int .i64 k ∧ Below (w.heap.size + 1) (w.alloc (.cells #[.slice (some ⟨b, o, none⟩) S.length cS, .slice aH H.length cH, .slice aF F.length cF, .slice aL L.length cL, .int .i64 now] 25)) wr ∧ Hid (firstE f S = firstE f (S.drop k)))
      (fun i _ => S.length - (intOf i).toNat)
    case atStart => exact ⟨0, Nat.zero_le _, rfl, Below.refl _ _, by show _ = _; rw [List.drop_zero]⟩
    case round =>
      obtain ⟨k, hk, rfl, hb, HE⟩ := hrel
      have hbw : Below w.heap.size w wr := (one_below w _).trans (hb.mono (by omega))
      obtain ⟨q0, q1, q2, q3, q4, q5⟩ := box_cells hb
      by_cases hlt : k < S.length
      · obtain ⟨c0, c1, c2, c3, c4, c5⟩ := hc k hlt
        have lt := cell_lt c0
        obtain ⟨qc, -⟩ := bcell hbw
        rw [← qc _ _ lt] at c0 c1 c2 c3 c4 c5
        clear hc qc
        have lt' : b < wr.heap.size := cell_lt c0
        generalize hs : S[k] = s at c0 c1 c2 c3 c4 c5
        obtain ⟨r, a, bb, u, i, nx⟩ := s
        dsimp only at c0 c1 c2 c3 c4 c5
        have HS : Hid (S[k] = ⟨r, a, bb, u, i, nx⟩) := hs
        clear hs
        cases h1 : inB r 0 1000
        · have HV : Hid (firstE f S = 3) := step_err hlt (by rw [HS.out, HF.out]; simp [slotErr, h1]) (by decide) HE.out
          go_wp2_with (go_at_call 81; refine (within_any _ _ _ _).mono ?_; rintro e w1 ⟨rfl, rfl⟩)
          go_ret
          exact ⟨ret_int HV.out.symm, hbw.alloc hbw.size _⟩
        cases h2 : inB u 0 2000000
        · have HV : Hid (firstE f S = 3) := step_err hlt (by rw [HS.out, HF.out]; simp [slotErr, h2]) (by decide) HE.out
          go_wp2_with (go_at_call 81; refine (within_any _ _ _ _).mono ?_; rintro e w1 ⟨rfl, rfl⟩)
          go_ret
          exact ⟨ret_int HV.out.symm, hbw.alloc hbw.size _⟩
        cases h3 : keyB a bb
        · have HV : Hid (firstE f S = 3) := step_err hlt (by rw [HS.out, HF.out]; simp [slotErr, h3]) (by decide) HE.out
          go_wp2_with (first | (go_at_call 81; refine (within_any _ _ _ _).mono ?_; rintro e w1 ⟨rfl, rfl⟩) | (go_at_call 39; refine (kcheck_f _ _ _ h3).mono ?_; rintro e w1 ⟨rfl, hb1⟩))
          go_ret
          exact ⟨ret_int HV.out.symm, (hbw.alloc hbw.size _).trans (hb1.mono (by have := hbw.size; simp; omega))⟩
        go_wp2_with (go_at_call 81; refine (within_any _ _ _ _).mono ?_; rintro e w1 ⟨rfl, rfl⟩)
        refine (kcheck_t _ _ _ h3).mono ?_
        rintro e w1 ⟨rfl, hb1⟩
        have hbx : Below w.heap.size w w1 := (hbw.alloc hbw.size _).trans (hb1.mono (by have := hbw.size; simp; omega))
        have hby := (hb.alloc q5 (.cells #[.int .i64 r, .int .i64 a, .int .i64 bb, .int .i64 u, .bool i, .int .i64 nx] 39)).trans (hb1.mono (by simp; omega))
        have s5 : w1.cell? ⟨wr.heap.size, 5, none⟩ = some (.int .i64 nx) := ((bcell hb1).1 _ _ (by simp)).trans (by simp)
        have z1 : wr.heap.size + 1 ≤ w1.heap.size := by have := hb1.size; simpa using this
        clear hb1 c0 c1 c2 c3 c4 c5 q0 q1 q2 q3 q4
        obtain ⟨q0, q1, q2, q3, q4, -⟩ := box_cells hby
        cases h4 : inB nx (-(H.length : Int)) S.length
        · have HV : Hid (firstE f S = 5) := step_err hlt (by rw [HS.out, HF.out]; simp [slotErr, h1, h2, h3, h4]) (by decide) HE.out
          go_wp2_with (go_at_call 153; refine (mayStand_any _ _ _ _ _ _ _ _ _ _ _ _ _ _ _ n1 n2).mono ?_; rintro e w2 ⟨rfl, hb2⟩)
          go_ret
          exact ⟨ret_int HV.out.symm, hbx.trans (hb2.mono hbx.size)⟩
        · have HV : Hid (firstE f S = firstE f (S.drop (k + 1))) := step_ok hlt (by rw [HS.out, HF.out]; simp [slotErr, h1, h2, h3, h4]) HE.out
          go_wp2_with (go_at_call 153; refine (mayStand_any _ _ _ _ _ _ _ _ _ _ _ _ _ _ _ n1 n2).mono ?_; rintro e w2 ⟨rfl, hb2⟩)
          go_roundw
          case rel => exact ⟨k + 1, by omega, by go_num, hby.trans (hb2.mono (by omega)), HV⟩
          case measure => simp [intOf]; omega
      · have HV : Hid (firstE f S = 0) := by
          show _ = _
          rw [HE.out, firstE_end f S k (by omega)]
        go_wp2
        go_ret
        exact ⟨ret_int HV.out.symm, hbw⟩





end Go.Proofs.Ytdbilofhcadmoab.mm

/- The contracts of checkChains and checkFree: the first error of the chains, and of what is free. -/
namespace Go.Proofs.Ytdbilofhcadmoab.mm
open Go.ChangeShapes Go.WideShapes Go.ChangeAt Go.RowKit
set_option linter.unusedVariables false

set_option maxHeartbeats 1600000 in
theorem checkChains_any (M : Mm) (aS aH aF aL : Option Addr) (cS cH cF cL : Nat) (w : World) (A : At w aS aH aF aL cS cH cF cL M) (hl : M.locks.length = M.heads.length) :
    Calls Try.prog 109 #[.agg #[.slice aS M.slots.length cS, .slice aH M.heads.length cH, .slice aF M.free.length cF, .slice aL M.locks.length cL, .int .i64 M.now]] w fun e w' =>
      e = .returned (.int .i64 (firstE (chainErr M.heads.length M.slots.length) (M.heads.zip M.locks))) ∧ Below w.heap.size w w' := by
  obtain ⟨S, H, F, L, now⟩ := M
  obtain ⟨rs, rh, rf, rl⟩ := A
  dsimp only at rs rh rf rl hl ⊢
  have m1 := rs.max; have m2 := rs.le; have m3 := rh.max; have m4 := rh.le
  have n1 : S.length ≤ 9223372036854775807 := by omega
  have n2 : H.length ≤ 9223372036854775807 := by omega
  have hzl : (H.zip L).length = H.length := by rw [List.length_zip]; omega
  obtain ⟨f, hf⟩ : ∃ f, f = chainErr H.length S.length := ⟨_, rfl⟩
  have HF : Hid (f = chainErr H.length S.length) := hf
  rw [← hf]
  clear hf
  obtain ⟨Z, hZ⟩ : ∃ Z, Z = H.zip L := ⟨_, rfl⟩
  have HZ : Hid (Z = H.zip L) := hZ
  rw [← hZ] at hzl ⊢
  clear hZ
  have HL : Hid (Z.length = H.length) := hzl
  have HLL : Hid (L.length = H.length) := hl
  clear hzl hl
  have hz := rh.at_
  have hz2 := rl.at_
  clear rh rf rl rs
  go_enter Try.func109, Try.ntmps109
  go_wp2
  rcases hz with h0 | ⟨b, o, rfl, hc⟩
  · have HE : Hid (firstE f Z = 0) := by
      show _ = _
      rw [List.eq_nil_of_length_eq_zero (HL.out.trans h0)]; rfl
    refine wp_loop_rounds 1 ?_
    rw [rounds_succ]
    go_wp2
    go_ret
    exact ⟨ret_int HE.out.symm, one_below _ _⟩
  · rcases hz2 with h0 | ⟨b2, o2, rfl, hc2⟩
    · have h0' : H.length = 0 := by rw [← HLL.out]; exact h0
      have HE : Hid (firstE f Z = 0) := by
        show _ = _
        rw [List.eq_nil_of_length_eq_zero (HL.out.trans h0')]; rfl
      refine wp_loop_rounds 1 ?_
      rw [rounds_succ]
      go_wp2
      go_ret
      exact ⟨ret_int HE.out.symm, one_below _ _⟩
    go_loopw [8] (fun i wr => ∃ k : Nat, k ≤ H.length ∧ i = .int .i64 k ∧ Below (w.heap.size + 1) (w.alloc (.cells #[.slice aS S.length cS, .slice (some ⟨b, o, none⟩) H.length cH, .slice aF F.length cF, .slice (some ⟨b2, o2, none⟩) L.length cL, .int .i64 now] 25)) wr ∧ Hid (firstE f Z = firstE f (Z.drop k)))
      (fun i _ => H.length - (intOf i).toNat)
    case atStart => exact ⟨0, Nat.zero_le _, rfl, Below.refl _ _, by show _ = _; rw [List.drop_zero]⟩
    case round =>
      obtain ⟨k, hk, rfl, hb, HE⟩ := hrel
      have hbw : Below w.heap.size w wr := (one_below w _).trans (hb.mono (by omega))
      obtain ⟨q0, q1, q2, q3, q4, q5⟩ := box_cells hb
      by_cases hlt : k < H.length
      · have hltL : k < L.length := by have := HLL.out; omega
        have hltZ : k < Z.length := by have := HL.out; omega
        have c0 := hc k hlt
        have d0 := hc2 k hltL
        have lt := cell_lt c0
        have lt2 := cell_lt d0
        obtain ⟨qc, -⟩ := bcell hbw
        rw [← qc _ _ lt] at c0
        rw [← qc _ _ lt2] at d0
        clear hc hc2 qc
        generalize hx : H[k] = x at c0
        generalize hy : L[k] = y at d0
        have HS : Hid (Z[k] = (x, y)) := by
          show _ = _
          have e : Z[k]? = some (x, y) := by rw [HZ.out, List.getElem?_zip_eq_some]; exact ⟨by rw [List.getElem?_eq_getElem hlt, hx], by rw [List.getElem?_eq_getElem hltL, hy]⟩
          rw [List.getElem?_eq_getElem hltZ] at e
          exact Option.some.inj e
        clear hx hy
        by_cases hx0 : x = 0
        · have HV : Hid (firstE f Z = 5) := step_err hltZ (by rw [HS.out, HF.out]; simp [chainErr, hx0]) (by decide) HE.out
          subst hx0
          go_wp2
          go_ret
          exact ⟨ret_int HV.out.symm, hbw⟩
        have hx1 : (x == 0) = false := by simpa using hx0
        cases h1 : inB x (-(H.length : Int)) S.length
        · have HV : Hid (firstE f Z = 5) := step_err hltZ (by rw [HS.out, HF.out]; simp [chainErr, h1]) (by decide) HE.out
          go_wp2_with (go_at_call 153; refine (mayStand_any _ _ _ _ _ _ _ _ _ _ _ _ _ _ _ n1 n2).mono ?_; rintro e w2 ⟨rfl, hb2⟩)
          go_ret
          exact ⟨ret_int HV.out.symm, hbw.trans (hb2.mono hbw.size)⟩
        go_wp2_with fail
        refine (mayStand_any _ _ _ _ _ _ _ _ _ _ _ _ _ _ _ n1 n2).mono ?_
        rintro e w2 ⟨rfl, hb2⟩
        have hbx := hbw.trans (hb2.mono hbw.size)
        have hby := hb.trans (hb2.mono q5)
        replace d0 := ((bcell hb2).1 _ _ (cell_lt d0)).trans d0
        clear hb2 q0 q1 q2 q3 q4
        obtain ⟨q0, q1, q2, q3, q4, -⟩ := box_cells hby
        cases h2 : inB y (-1) 4
        · have HV : Hid (firstE f Z = 3) := step_err hltZ (by rw [HS.out, HF.out]; simp [chainErr, hx0, h1, h2]) (by decide) HE.out
          go_wp2_with (go_at_call 81; refine (within_any _ _ _ _).mono ?_; rintro e w1 ⟨rfl, rfl⟩)
          go_ret
          exact ⟨ret_int HV.out.symm, hbx⟩
        · have HV : Hid (firstE f Z = firstE f (Z.drop (k + 1))) := step_ok hltZ (by rw [HS.out, HF.out]; simp [chainErr, hx0, h1, h2]) HE.out
          go_wp2_with (go_at_call 81; refine (within_any _ _ _ _).mono ?_; rintro e w1 ⟨rfl, rfl⟩)
          go_roundw
          case rel => exact ⟨k + 1, by omega, by go_num, hby, HV⟩
          case measure => simp [intOf]; omega
      · have HV : Hid (firstE f Z = 0) := by
          show _ = _
          rw [HE.out, firstE_end f Z k (by have := HL.out; omega)]
        go_wp2
        go_ret
        exact ⟨ret_int HV.out.symm, hbw⟩





end Go.Proofs.Ytdbilofhcadmoab.mm

/- The contract of checkFree: the first error of what is free, and whether a slot without Refs is not in Free. -/
namespace Go.Proofs.Ytdbilofhcadmoab.mm
open Go.ChangeShapes Go.WideShapes Go.ChangeAt Go.RowKit
set_option linter.unusedVariables false

theorem freeOk_of {S : List Sl} {a : Int} {k : Nat} (h : k < S.length) (ha : a = k) : freeOk S a = decide (S[k].refs = 0) := by
  subst ha
  simp [freeOk, h]
theorem freeOk_no {S : List Sl} {a : Int} (h : inB a 0 ((S.length : Int) - 1) = false) : freeOk S a = false := by
  have : ¬ (0 ≤ a ∧ a ≤ (S.length : Int) - 1) := fun hh => by rw [(inB_iff _ _ _).2 hh] at h; cases h
  rw [Bool.eq_false_iff]
  intro hh
  rw [freeOk_iff] at hh
  omega

theorem contains_all (ao : Option Addr) (cap : Nat) (l : List Int) (x : Int) (w : World) (r : IRow w ao cap l) :
    Calls Try.prog 20 #[.slice ao l.length cap, .int .i64 x] w fun e w' => e = .returned (.bool (hasB l x)) ∧ w = w' := by
  have := contains_any ao l.length cap l x w (Nat.le_refl _) (by have := r.max; omega) r.at_
  rwa [List.take_length] at this

theorem ferr_step5 {S : List Sl} {F : List Int} {k : Nat} (h : k < F.length) (h0 : freeOk S F[k] = false) (H : freeErr S [] F = freeErr S (F.take k) (F.drop k)) : freeErr S [] F = 5 := by
  rw [H, freeErr_drop S F k h, h0]; rfl
theorem ferr_step6 {S : List Sl} {F : List Int} {k : Nat} (h : k < F.length) (h0 : freeOk S F[k] = true) (h1 : hasB (F.take k) F[k] = true) (H : freeErr S [] F = freeErr S (F.take k) (F.drop k)) : freeErr S [] F = 6 := by
  rw [H, freeErr_drop S F k h, h0, h1]; rfl
theorem ferr_step {S : List Sl} {F : List Int} {k : Nat} (h : k < F.length) (h0 : freeOk S F[k] = true) (h1 : hasB (F.take k) F[k] = false) (H : freeErr S [] F = freeErr S (F.take k) (F.drop k)) : freeErr S [] F = freeErr S (F.take (k + 1)) (F.drop (k + 1)) := by
  rw [H, freeErr_drop S F k h, h0, h1]; rfl
theorem lost_step4 {S : List Sl} {F : List Int} {k : Nat} (h : k < S.length) (h0 : S[k].refs = 0) (h1 : hasB F (k : Int) = false) (H : lostErr F 0 S = lostErr F k (S.drop k)) : lostErr F 0 S = 4 := by
  rw [H, lostErr_drop F S k h, h0, h1]; rfl
theorem lost_step {S : List Sl} {F : List Int} {k : Nat} (h : k < S.length) (h0 : S[k].refs ≠ 0 ∨ hasB F (k : Int) = true) (H : lostErr F 0 S = lostErr F k (S.drop k)) : lostErr F 0 S = lostErr F (k + 1) (S.drop (k + 1)) := by
  rw [H, lostErr_drop F S k h]
  rcases h0 with h0 | h0
  · rw [if_neg (by simp [h0])]
  · rw [if_neg (by simp [h0])]

set_option maxHeartbeats 3200000 in
theorem checkFree_any (M : Mm) (aS aH aF aL : Option Addr) (cS cH cF cL : Nat) (w : World) (A : At w aS aH aF aL cS cH cF cL M) :
    Calls Try.prog 110 #[.agg #[.slice aS M.slots.length cS, .slice aH M.heads.length cH, .slice aF M.free.length cF, .slice aL M.locks.length cL, .int .i64 M.now]] w fun e w' =>
      e = .returned (.int .i64 (if freeErr M.slots [] M.free ≠ 0 then freeErr M.slots [] M.free else lostErr M.free 0 M.slots)) ∧ Below w.heap.size w w' := by
  obtain ⟨S, H, F, L, now⟩ := M
  obtain ⟨rs, rh, rf, rl⟩ := A
  dsimp only at rs rh rf rl ⊢
  have m1 := rs.max; have m2 := rs.le; have m3 := rf.max; have m4 := rf.le
  have n1 : S.length ≤ 9223372036854775807 := by omega
  have n2 : F.length ≤ 9223372036854775807 := by omega
  obtain ⟨Z, hZ⟩ : ∃ Z : Int, Z = (if freeErr S [] F ≠ 0 then freeErr S [] F else lostErr F 0 S) := ⟨_, rfl⟩
  have HZ : Hid (Z = (if freeErr S [] F ≠ 0 then freeErr S [] F else lostErr F 0 S)) := hZ
  rw [← hZ]
  clear hZ
  have HRS : Hid (SRow w aS cS S) := rs
  have HRF : Hid (IRow w aF cF F) := rf
  clear rh rf rl rs
  go_enter Try.func110, Try.ntmps110
  go_wp2
  go_loopw [10] (fun i wr => ∃ k : Nat, k ≤ F.length ∧ i = .int .i64 k ∧ Below (w.heap.size + 1) (w.alloc (.cells #[.slice aS S.length cS, .slice aH H.length cH, .slice aF F.length cF, .slice aL L.length cL, .int .i64 now] 25)) wr ∧ Hid (freeErr S [] F = freeErr S (F.take k) (F.drop k)))
    (fun i _ => F.length - (intOf i).toNat)
  case atStart => exact ⟨0, Nat.zero_le _, rfl, Below.refl _ _, by show _ = _; rw [List.drop_zero, List.take_zero]⟩
  case round =>
    obtain ⟨k, hk, rfl, hb, HE⟩ := hrel
    have hbw : Below w.heap.size w wr := (one_below w _).trans (hb.mono (by omega))
    obtain ⟨q0, q1, q2, q3, q4, q5⟩ := box_cells hb
    by_cases hlt : k < F.length
    · rcases HRF.out.at_ with h0 | ⟨b, o, rfl, hc⟩
      · omega
      have c0 := hc k hlt
      have lt := cell_lt c0
      rw [← (bcell hbw).1 _ _ lt] at c0
      generalize hx : F[k] = x at c0
      have HX : Hid (F[k] = x) := hx
      clear hx
      cases h1 : inB x 0 ((S.length : Int) - 1)
      · have HV : Hid (Z = 5) := by
          show _ = _
          rw [HZ.out, ferr_step5 hlt (by rw [HX.out]; exact freeOk_no h1) HE.out]; rfl
        go_wp2_with (go_at_call 78; refine (isSlot_any _ _ _ _ _ _ _ _ _ _ _ _ _ _ _ n1).mono ?_; rintro e w2 ⟨rfl, hb2⟩)
        go_ret
        exact ⟨ret_int HV.out.symm, hbw.trans (hb2.mono hbw.size)⟩
      have hxb := (inB_iff _ _ _).1 h1
      obtain ⟨j, rfl⟩ : ∃ j : Nat, x = j := ⟨x.toNat, by omega⟩
      have hj : j < S.length := by omega
      rcases HRS.out.at_ with h0 | ⟨b2, o2, rfl, hc2⟩
      · omega
      have d0 := (hc2 j hj).1
      have lt2 := cell_lt d0
      rw [← (bcell hbw).1 _ _ lt2] at d0
      generalize hr : S[j].refs = r at d0
      have HOK : Hid (freeOk S (F[k]'hlt) = decide (r = 0)) := by
        show _ = _
        rw [HX.out, freeOk_of hj rfl, hr]
      clear hr hc2
      go_wp2_with fail
      refine (isSlot_any _ _ _ _ _ _ _ _ _ _ _ _ _ _ _ n1).mono ?_
      rintro e w2 ⟨rfl, hb2⟩
      have hbx := hbw.trans (hb2.mono hbw.size)
      have hby := hb.trans (hb2.mono q5)
      replace d0 := ((bcell hb2).1 _ _ (cell_lt d0)).trans d0
      clear hb2 q0 q1 q2 q3 q4 c0
      obtain ⟨q0, q1, q2, q3, q4, -⟩ := box_cells hby
      by_cases hr0 : r = 0
      · subst hr0
        have HAT : Hid (k = 0 ∨ ∃ b' o', (some ⟨b, o, none⟩ : Option Addr) = some ⟨b', o', none⟩ ∧ ∀ i (h : i < F.length), w2.cell? ⟨b', o' + i, none⟩ = some (.int .i64 F[i])) :=
          .inr ⟨b, o, rfl, fun i hi => ((bcell hbx).1 _ _ (cell_lt (hc i hi))).trans (hc i hi)⟩
        clear hc
        cases h2 : hasB (F.take k) j
        · have HV : Hid (freeErr S [] F = freeErr S (F.take (k + 1)) (F.drop (k + 1))) := ferr_step hlt (by rw [HOK.out]; rfl) (by rw [HX.out]; exact h2) HE.out
          go_wp2_with (go_at_call 20; refine (contains_any _ _ _ F _ _ hk (by omega) HAT.out).mono ?_; rintro e w1 ⟨rfl, rfl⟩)
          go_roundw
          case rel => exact ⟨k + 1, by omega, by go_num, hby, HV⟩
          case measure => simp [intOf]; omega
        · have HV : Hid (Z = 6) := by
            show _ = _
            rw [HZ.out, ferr_step6 hlt (by rw [HOK.out]; rfl) (by rw [HX.out]; exact h2) HE.out]; rfl
          go_wp2_with (go_at_call 20; refine (contains_any _ _ _ F _ _ hk (by omega) HAT.out).mono ?_; rintro e w1 ⟨rfl, rfl⟩)
          go_ret
          exact ⟨ret_int HV.out.symm, hbx⟩
      · have hr1 : (r != 0) = true := by simpa using hr0
        have HV : Hid (Z = 5) := by
          show _ = _
          rw [HZ.out, ferr_step5 hlt (by rw [HOK.out]; simpa using hr0) HE.out]; rfl
        go_wp2
        go_ret
        exact ⟨ret_int HV.out.symm, hbx⟩
    · have HZ2 : Hid (Z = lostErr F 0 S) := by
        show _ = _
        rw [HZ.out, HE.out, freeErr_end S F k (by omega)]; rfl
      clear HZ HE
      go_wp2
      go_loopw [38] (fun i wr => ∃ k : Nat, k ≤ S.length ∧ i = .int .i64 k ∧ Below (w.heap.size + 1) (w.alloc (.cells #[.slice aS S.length cS, .slice aH H.length cH, .slice aF F.length cF, .slice aL L.length cL, .int .i64 now] 25)) wr ∧ Hid (lostErr F 0 S = lostErr F k (S.drop k)))
        (fun i _ => S.length - (intOf i).toNat)
      case atStart => exact ⟨0, Nat.zero_le _, rfl, hb, by show _ = _; rw [List.drop_zero]⟩
      case round =>
        obtain ⟨k2, hk2, rfl, hb3, HE⟩ := hrel
        clear hbw hb q0 q1 q2 q3 q4 q5
        have hbw : Below w.heap.size w wr := (one_below w _).trans (hb3.mono (by omega))
        obtain ⟨q0, q1, q2, q3, q4, q5⟩ := box_cells hb3
        have q6 : w.heap.size < wr.heap.size := q5
        by_cases hlt2 : k2 < S.length
        · rcases HRS.out.at_ with h0 | ⟨b, o, rfl, hc⟩
          · omega
          obtain ⟨c0, c1, c2, c3, c4, c5⟩ := hc k2 hlt2
          have lt := cell_lt c0
          rw [← (bcell hbw).1 _ _ lt] at c0 c1 c2 c3 c4 c5
          clear hc
          generalize hs : S[k2] = s at c0 c1 c2 c3 c4 c5
          obtain ⟨r, a, bb, u, i, nx⟩ := s
          dsimp only at c0 c1 c2 c3 c4 c5
          have HS : Hid (S[k2] = ⟨r, a, bb, u, i, nx⟩) := hs
          clear hs
          have hbx := hbw.alloc hbw.size (.cells #[.int .i64 r, .int .i64 a, .int .i64 bb, .int .i64 u, .bool i, .int .i64 nx] 39)
          have hby := hb3.alloc q5 (.cells #[.int .i64 r, .int .i64 a, .int .i64 bb, .int .i64 u, .bool i, .int .i64 nx] 39)
          have HRF2 : Hid _ := HRF.out.below hbx
          by_cases hr0 : r = 0
          · subst hr0
            cases h2 : hasB F k2
            · have HV : Hid (Z = 4) := by
                show _ = _
                rw [HZ2.out, lost_step4 hlt2 (by rw [HS.out]) h2 HE.out]
              go_wp2_with (go_at_call 20; refine (contains_all _ _ F _ _ HRF2.out).mono ?_; rintro e w1 ⟨rfl, rfl⟩)
              go_ret
              exact ⟨ret_int HV.out.symm, hbx⟩
            · have HV : Hid (lostErr F 0 S = lostErr F (k2 + 1) (S.drop (k2 + 1))) := lost_step hlt2 (.inr h2) HE.out
              go_wp2_with (go_at_call 20; refine (contains_all _ _ F _ _ HRF2.out).mono ?_; rintro e w1 ⟨rfl, rfl⟩)
              go_roundw
              case rel => exact ⟨k2 + 1, by omega, by go_num, hby, HV⟩
              case measure => simp [intOf]; omega
          · have hr1 : (r == 0) = false := by simpa using hr0
            have HV : Hid (lostErr F 0 S = lostErr F (k2 + 1) (S.drop (k2 + 1))) := lost_step hlt2 (.inl (by rw [HS.out]; exact hr0)) HE.out
            go_wp2
            go_roundw
            case rel => exact ⟨k2 + 1, by omega, by go_num, hby, HV⟩
            case measure => simp [intOf]; omega
        · have HV : Hid (Z = 0) := by
            show _ = _
            rw [HZ2.out, HE.out, lostErr_end F S k2 (by omega)]
          go_wp2
          go_ret
          exact ⟨ret_int HV.out.symm, hbw⟩





end Go.Proofs.Ytdbilofhcadmoab.mm

/- The contract of memory's Check. -/
namespace Go.Proofs.Ytdbilofhcadmoab.mm
open Go.ChangeShapes Go.WideShapes Go.ChangeAt Go.RowKit
set_option linter.unusedVariables false

set_option maxHeartbeats 1600000 in
theorem check_any (M : Mm) (aS aH aF aL : Option Addr) (cS cH cF cL : Nat) (w : World) (A : At w aS aH aF aL cS cH cF cL M) :
    Calls Try.prog 49 #[.agg #[.slice aS M.slots.length cS, .slice aH M.heads.length cH, .slice aF M.free.length cF, .slice aL M.locks.length cL, .int .i64 M.now]] w fun e w' =>
      e = .returned (.int .i64 (chk M)) ∧ Below w.heap.size w w' := by
  have m1 := A.s.max; have m2 := A.s.le; have m3 := A.h.max; have m4 := A.h.le; have m5 := A.l.max; have m6 := A.l.le
  have n1 : M.slots.length ≤ 9223372036854775807 := by omega
  have n2 : M.heads.length ≤ 9223372036854775807 := by omega
  have n3 : M.locks.length ≤ 9223372036854775807 := by omega
  clear m1 m2 m3 m4 m5 m6
  by_cases h1 : 12 < M.slots.length
  · have HV : Hid (chk M = 2) := by show _ = _; unfold chk; rw [if_pos (.inl h1)]
    go_enter Try.func49, Try.ntmps49
    go_wp2
    go_ret
    exact ⟨ret_int HV.out.symm, one_below _ _⟩
  cases h2 : inB (M.heads.length : Int) 1 4
  · have HV : Hid (chk M = 2) := by
      show _ = _; unfold chk
      have : ¬ (1 ≤ (M.heads.length : Int) ∧ (M.heads.length : Int) ≤ 4) := fun hh => by rw [(inB_iff _ _ _).2 hh] at h2; cases h2
      rw [if_pos (by omega)]
    go_enter Try.func49, Try.ntmps49
    go_wp2_with (go_at_call 81; refine (within_any _ _ _ _).mono ?_; rintro e w1 ⟨rfl, rfl⟩)
    go_ret
    exact ⟨ret_int HV.out.symm, one_below _ _⟩
  have h2' := (inB_iff _ _ _).1 h2
  by_cases h3 : M.locks.length = M.heads.length
  rotate_left
  · have HV : Hid (chk M = 4) := by
      show _ = _; unfold chk
      rw [if_neg (by omega), if_pos h3]
    have h3' : ((M.locks.length : Int) != (M.heads.length : Int)) = true := by rw [bne_iff_ne]; omega
    go_enter Try.func49, Try.ntmps49
    go_wp2_with (go_at_call 81; refine (within_any _ _ _ _).mono ?_; rintro e w1 ⟨rfl, rfl⟩)
    go_ret
    exact ⟨ret_int HV.out.symm, one_below _ _⟩
  have h3' : ((M.locks.length : Int) != (M.heads.length : Int)) = false := by rw [h3]; simp
  have H3 : Hid (M.locks.length = M.heads.length) := h3
  clear h3
  cases h4 : inB M.now 0 1000000
  · have HV : Hid (chk M = 3) := by
      show _ = _; unfold chk
      rw [if_neg (by omega), if_neg (by simpa using H3.out), if_pos h4]
    go_enter Try.func49, Try.ntmps49
    go_wp2_with (go_at_call 81; refine (within_any _ _ _ _).mono ?_; rintro e w1 ⟨rfl, rfl⟩)
    go_ret
    exact ⟨ret_int HV.out.symm, one_below _ _⟩
  have HC : Hid (chk M = (if firstE (slotErr M.heads.length M.slots.length) M.slots ≠ 0 then firstE (slotErr M.heads.length M.slots.length) M.slots
      else if firstE (chainErr M.heads.length M.slots.length) (M.heads.zip M.locks) ≠ 0 then firstE (chainErr M.heads.length M.slots.length) (M.heads.zip M.locks)
      else if freeErr M.slots [] M.free ≠ 0 then freeErr M.slots [] M.free
      else lostErr M.free 0 M.slots)) := by
    show _ = _
    unfold chk
    rw [if_neg (by omega), if_neg (by simpa using H3.out), if_neg (by rw [h4]; simp)]
  have A1 := A.below (one_below w (.cells #[.slice aS M.slots.length cS, .slice aH M.heads.length cH, .slice aF M.free.length cF, .slice aL M.locks.length cL, .int .i64 M.now] 25))
  have HA1 : Hid _ := A1
  clear A A1
  go_enter Try.func49, Try.ntmps49
  go_wp2_with (go_at_call 81; refine (within_any _ _ _ _).mono ?_; rintro e w1 ⟨rfl, rfl⟩)
  refine (checkSlots_any M aS aH aF aL cS cH cF cL _ HA1.out).mono ?_
  rintro e w1 ⟨rfl, hb1⟩
  have HA2 : Hid _ := HA1.out.below hb1
  have hx1 := (one_below w (.cells #[.slice aS M.slots.length cS, .slice aH M.heads.length cH, .slice aF M.free.length cF, .slice aL M.locks.length cL, .int .i64 M.now] 25)).trans (hb1.mono (by simp))
  have hy1 := hb1.mono (show w.heap.size + 1 ≤ _ by simp)
  clear hb1 HA1
  obtain ⟨q0, q1, q2, q3, q4, q5⟩ := box_cells hy1
  generalize hE1 : firstE (slotErr M.heads.length M.slots.length) M.slots = E1
  have HE1 : Hid _ := hE1
  clear hE1
  by_cases e1 : E1 = 0
  rotate_left
  · have e1' : (E1 != 0) = true := by simpa using e1
    have HV : Hid (chk M = E1) := by
      show _ = _
      rw [HC.out, HE1.out, if_pos e1]
    go_wp2
    go_ret
    exact ⟨ret_int HV.out.symm, hx1⟩
  subst e1
  go_wp2_with fail
  refine (checkChains_any M aS aH aF aL cS cH cF cL _ HA2.out H3.out).mono ?_
  rintro e w2 ⟨rfl, hb2⟩
  have HA3 : Hid _ := HA2.out.below hb2
  have hx2 := hx1.trans (hb2.mono hx1.size)
  have hy2 := hy1.trans (hb2.mono q5)
  clear hb2 HA2 q0 q1 q2 q3 q4 q5
  obtain ⟨q0, q1, q2, q3, q4, q5⟩ := box_cells hy2
  generalize hE2 : firstE (chainErr M.heads.length M.slots.length) (M.heads.zip M.locks) = E2
  have HE2 : Hid _ := hE2
  clear hE2
  by_cases e2 : E2 = 0
  rotate_left
  · have e2' : (E2 != 0) = true := by simpa using e2
    have HV : Hid (chk M = E2) := by
      show _ = _
      rw [HC.out, HE1.out, HE2.out, if_neg (by simp), if_pos e2]
    go_wp2
    go_ret
    exact ⟨ret_int HV.out.symm, hx2⟩
  subst e2
  go_wp2_with fail
  refine (checkFree_any M aS aH aF aL cS cH cF cL _ HA3.out).mono ?_
  rintro e w3 ⟨rfl, hb3⟩
  have hx3 := hx2.trans (hb3.mono hx2.size)
  generalize hE3 : (if freeErr M.slots [] M.free ≠ 0 then freeErr M.slots [] M.free else lostErr M.free 0 M.slots) = E3
  have HV : Hid (chk M = E3) := by
    show _ = _
    rw [HC.out, HE1.out, HE2.out, if_neg (by simp), if_neg (by simp), hE3]
  clear hE3
  go_wp2
  go_ret
  exact ⟨ret_int HV.out.symm, hx3⟩





end Go.Proofs.Ytdbilofhcadmoab.mm

/- Copies of lists: the contracts of listOf; blocks that are one's own. -/
namespace Go.Proofs.Ytdbilofhcadmoab.mm
open Go.ChangeShapes Go.WideShapes Go.ChangeAt Go.RowKit Go.Joins
set_option linter.unusedVariables false
set_option maxRecDepth 100000

def Sl.enc (s : Sl) : List Value := [.int .i64 s.refs, .int .i64 s.a, .int .i64 s.b, .int .i64 s.unt, .bool s.inn, .int .i64 s.next]
def encS (l : List Sl) : List Value := l.flatMap Sl.enc
def encI (l : List Int) : List Value := l.map (Value.int .i64)

theorem encS_cons (s : Sl) (l : List Sl) : encS (s :: l) = s.enc ++ encS l := by simp [encS]
theorem encS_len (l : List Sl) : (encS l).length = l.length * 6 := by
  induction l with
  | nil => rfl
  | cons s l ih => rw [encS_cons, List.length_append, ih]; simp [Sl.enc]; omega
theorem encI_len (l : List Int) : (encI l).length = l.length := by simp [encI]
theorem encS_get (l : List Sl) (i q : Nat) (h : i < l.length) (hq : q < 6) : (encS l)[i * 6 + q]? = (l[i].enc)[q]? := by
  induction l generalizing i with
  | nil => simp at h
  | cons s l ih =>
    rw [encS_cons]
    match i with
    | 0 =>
      rw [List.getElem?_append_left (by simp [Sl.enc]; omega)]
      simp
    | i + 1 =>
      rw [List.getElem?_append_right (by simp [Sl.enc]; omega)]
      have hl : s.enc.length = 6 := rfl
      rw [hl, show (i + 1) * 6 + q - 6 = i * 6 + q by omega, ih i (by simpa using h)]
      simp
theorem encS_one (l : List Sl) : ∀ u ∈ encS l, u.oneCell' = true := by
  intro u hu
  simp only [encS, List.mem_flatMap, Sl.enc, List.mem_cons, List.not_mem_nil, or_false] at hu
  obtain ⟨s, _, h | h | h | h | h | h⟩ := hu <;> (subst h; rfl)
theorem encI_one (l : List Int) : ∀ u ∈ encI l, u.oneCell' = true := by
  intro u hu
  simp only [encI, List.mem_map] at hu
  obtain ⟨s, _, rfl⟩ := hu; rfl

theorem SRow.flat {w : World} {b o cap : Nat} {S : List Sl} (r : SRow w (some ⟨b, o, none⟩) cap S) : ∀ j u, (encS S)[j]? = some u → w.cell? ((⟨b, o, none⟩ : Addr).add j) = some u := by
  intro j u hu
  have hj : j < S.length * 6 := by
    rw [← encS_len]
    exact (List.getElem?_eq_some_iff.1 hu).1
  rcases r.at_ with h0 | ⟨b', o', e, hc⟩
  · omega
  cases e
  have hi : j / 6 < S.length := by omega
  have e6 : j / 6 * 6 + j % 6 = j := by omega
  have hq : j % 6 < 6 := by omega
  obtain ⟨c0, c1, c2, c3, c4, c5⟩ := hc (j / 6) hi
  rw [← e6, encS_get S _ _ hi hq] at hu
  rw [Addr.add_lit, ← e6]
  generalize j / 6 = i at *
  generalize j % 6 = q at *
  rw [← Nat.add_assoc]
  simp only [Sl.enc] at hu
  match q, hq with
  | 0, _ => simp at hu; subst hu; exact c0
  | 1, _ => simp at hu; subst hu; exact c1
  | 2, _ => simp at hu; subst hu; exact c2
  | 3, _ => simp at hu; subst hu; exact c3
  | 4, _ => simp at hu; subst hu; exact c4
  | 5, _ => simp at hu; subst hu; exact c5

theorem IRow.flat {w : World} {b o cap : Nat} {l : List Int} (r : IRow w (some ⟨b, o, none⟩) cap l) : ∀ j u, (encI l)[j]? = some u → w.cell? ((⟨b, o, none⟩ : Addr).add j) = some u := by
  intro j u hu
  have hj : j < l.length := by
    rw [← encI_len]
    exact (List.getElem?_eq_some_iff.1 hu).1
  rcases r.at_ with h0 | ⟨b', o', e, hc⟩
  · omega
  cases e
  simp only [encI, List.getElem?_map, List.getElem?_eq_getElem hj, Option.map_some, Option.some.injEq] at hu
  subst hu
  rw [Addr.add_lit]
  exact hc j hj

theorem SRow.src {w : World} {ao : Option Addr} {cap : Nat} {S : List Sl} (r : SRow w ao cap S) : ∀ ad, ao = some ad → ∀ j u, (encS S)[j]? = some u → w.cell? (ad.add j) = some u := by
  rintro ad rfl j u hu
  rcases r.at_ with h0 | ⟨b, o, e, hc⟩
  · have := (List.getElem?_eq_some_iff.1 hu).1
    rw [encS_len] at this
    omega
  · cases e
    exact r.flat j u hu
theorem IRow.src {w : World} {ao : Option Addr} {cap : Nat} {l : List Int} (r : IRow w ao cap l) : ∀ ad, ao = some ad → ∀ j u, (encI l)[j]? = some u → w.cell? (ad.add j) = some u := by
  rintro ad rfl j u hu
  rcases r.at_ with h0 | ⟨b, o, e, hc⟩
  · have := (List.getElem?_eq_some_iff.1 hu).1
    rw [encI_len] at this
    omega
  · cases e
    exact r.flat j u hu

/- A row of cells, as a list of slots or of ints. -/
theorem SRow.mk_cells {w : World} {b cap : Nat} {S : List Sl} (hl : S.length ≤ cap) (hm : S.length * 48 ≤ 140737488351232) (hc : ∀ j, j < S.length * 6 → w.cell? ⟨b, j, none⟩ = (encS S)[j]?) : SRow w (some ⟨b, 0, none⟩) cap S := by
  refine ⟨hl, hm, (fun h => by cases h), .inr ⟨b, 0, rfl, fun i hi => ?_⟩⟩
  have e : ∀ q, q < 6 → w.cell? ⟨b, 0 + i * 6 + q, none⟩ = (S[i].enc)[q]? := fun q hq => by
    rw [Nat.zero_add, hc _ (by omega), encS_get S i q hi hq]
  exact ⟨e 0 (by omega), e 1 (by omega), e 2 (by omega), e 3 (by omega), e 4 (by omega), e 5 (by omega)⟩
theorem IRow.mk_cells {w : World} {b cap : Nat} {l : List Int} (hl : l.length ≤ cap) (hm : l.length * 8 ≤ 140737488351232) (hc : ∀ j, j < l.length → w.cell? ⟨b, j, none⟩ = (encI l)[j]?) : IRow w (some ⟨b, 0, none⟩) cap l := by
  refine ⟨hl, hm, (fun h => by cases h), .inr ⟨b, 0, rfl, fun i hi => ?_⟩⟩
  rw [Nat.zero_add, hc i hi]
  simp [encI, hi]
theorem SRow.of_block {w : World} {b : Nat} {S : List Sl} (hb : w.heap[b]? = some (.cells (encS S).toArray 39 (0, 0))) (hm : S.length * 48 ≤ 140737488351232) : SRow w (some ⟨b, 0, none⟩) S.length S :=
  .mk_cells (Nat.le_refl _) hm fun j hj => by rw [cell_of_block hb]; simp
theorem IRow.of_block {w : World} {b : Nat} {l : List Int} (hb : w.heap[b]? = some (.cells (encI l).toArray 3 (0, 0))) (hm : l.length * 8 ≤ 140737488351232) : IRow w (some ⟨b, 0, none⟩) l.length l :=
  .mk_cells (Nat.le_refl _) hm fun j hj => by rw [cell_of_block hb]; simp

theorem SRow.of_own {w : World} {base n : Nat} {v : Value} {S : List Sl} (h : w.ownsRow base 39 6 v n (encS S)) (hm : S.length * 48 ≤ 140737488351232) : ∃ ao cap, v = .slice ao S.length cap ∧ SRow w ao cap S := by
  have hl := h.1
  rw [encS_len] at hl
  have hn : S.length = n := by omega
  subst hn
  rcases h.2 with ⟨rfl, h0⟩ | ⟨g, cap, cur, rfl, hg, hb, hc, -, hs, ht⟩
  · exact ⟨none, 0, by rw [h0], by omega, hm, fun _ => rfl, .inl h0⟩
  · exact ⟨_, _, rfl, .mk_cells hc hm fun j hj => h.cellAt j hj⟩
theorem IRow.of_own {w : World} {base n : Nat} {v : Value} {l : List Int} (h : w.ownsRow base 3 1 v n (encI l)) (hm : l.length * 8 ≤ 140737488351232) : ∃ ao cap, v = .slice ao l.length cap ∧ IRow w ao cap l := by
  have hl := h.1
  rw [encI_len] at hl
  have hn : l.length = n := by omega
  subst hn
  rcases h.2 with ⟨rfl, h0⟩ | ⟨g, cap, cur, rfl, hg, hb, hc, -, hs, ht⟩
  · exact ⟨none, 0, by rw [h0], by omega, hm, fun _ => rfl, .inl h0⟩
  · exact ⟨_, _, rfl, .mk_cells hc hm fun j hj => h.cellAt j (by omega)⟩

theorem block_of_own {w : World} {base g n size : Nat} {e : TypeId} {xs : List Value} (h : w.ownsRow base e size (.slice (some ⟨g, 0, none⟩) n n) n xs) : w.heap[g]? = some (.cells xs.toArray e (0, 0)) := by
  rcases h.2 with ⟨h0, _⟩ | ⟨g', cap, cur, hv, hg, hb, hc, -, hs, ht⟩
  · cases h0
  · injection hv with h1 h2 h3
    injection h1 with h1
    injection h1 with h1
    subst h1 h3
    rw [hb]
    have : cur.toList = xs := by rw [← ht, List.take_of_length_le (by simp [hs])]
    rw [← this]

theorem iI : (Try.prog.info? 3).map (fun i => (i.zero, i.size, i.bytes)) = some (some (.int .i64 0), 1, 8) := by kernel_rfl
theorem iS : (Try.prog.info? 39).map (fun i => (i.zero, i.size, i.bytes)) = some (some (.agg #[.int .i64 0, .int .i64 0, .int .i64 0, .int .i64 0, .bool false, .int .i64 0]), 6, 48) := by kernel_rfl

theorem own_below {w w' : World} {lo size n : Nat} {e : TypeId} {v : Value} {xs : List Value} (h : w.ownsRow lo e size v n xs) (hb : Below w.heap.size w w') : w'.ownsRow lo e size v n xs :=
  h.kept (row := none) ⟨hb.os, hb.tape, hb.output, hb.size, fun k hk _ => hb.block k hk⟩ (by cases hv : v.ownBlock <;> simp)

set_option maxHeartbeats 800000 in
theorem listI_some (ad : Addr) (cap : Nat) (l : List Int) (w : World) (r : IRow w (some ad) cap l) :
    Calls Try.prog 147 #[.slice (some ad) l.length cap] w fun e w' => e = .returned (.slice (some ⟨w.heap.size, 0, none⟩) l.length l.length) ∧ w'.ownsRow w.heap.size 3 1 (.slice (some ⟨w.heap.size, 0, none⟩) l.length l.length) l.length (encI l) ∧ Below w.heap.size w w' := by
  obtain ⟨i0, hi, hz0, hz1, hz2⟩ := info_parts iI
  have m1 := r.max
  have m2 := r.le
  have HS : Hid _ := r.src
  have HN : Hid _ := r.nil
  clear r
  have q24 : ∀ (w : World) (a : Option Addr) (n c : Nat), (binOp .eql 23 (.slice a n c) (.slice none 0 0)).run Try.prog w = .ok (.bool a.isNone) w := fun w a n c => Lib.run_eql_slice_nil w _ _ a n c 0 0 Try.underlying23
  go_enter Try.func147, Try.ntmps147
  go_wp2_with (first
    | (at_make; refine wpList_make_own _ rfl _ _ 23 rfl w.heap.size 3 i0 (.int .i64 0) 1 Try.underlying23 hi hz0 hz1 .i64 .i64 _ l.length rfl rfl rfl (by rw [hz2]; omega) (by unfold maxLen; omega) (Nat.le_refl _) ?_; intro w1 hown hgrow)
    | (at_builtin; refine wpList_append_fits_any _ rfl _ _ 23 rfl w.heap.size 3 i0 1 Try.underlying23 hi hz1 w.heap.size 0 l.length _ rfl hown (some ad) l.length cap (encI l) rfl (by rw [encI_len]; omega) (fun h => by have := HN.out h; omega) (fun ad h j u hj => hgrow.cell (HS.out ad h j u hj) (by intro hh; cases hh)) (encI_one l) (by omega) ?_; intro w2 hown2 hgrow2))
  go_ret
  simp only [Nat.zero_add, List.nil_append] at hown2
  refine ⟨by simp, hown2, ?_⟩
  have := ((Below.refl w.heap.size w).grown hgrow (Nat.le_refl _) (fun k h => by cases h))
  exact this.grown hgrow2 hgrow.size (fun k h => by cases h; exact Nat.le_refl _)

set_option maxHeartbeats 800000 in
theorem listS_some (ad : Addr) (cap : Nat) (l : List Sl) (w : World) (r : SRow w (some ad) cap l) :
    Calls Try.prog 146 #[.slice (some ad) l.length cap] w fun e w' => e = .returned (.slice (some ⟨w.heap.size, 0, none⟩) l.length l.length) ∧ w'.ownsRow w.heap.size 39 6 (.slice (some ⟨w.heap.size, 0, none⟩) l.length l.length) l.length (encS l) ∧ Below w.heap.size w w' := by
  obtain ⟨i0, hi, hz0, hz1, hz2⟩ := info_parts iS
  have m1 := r.max
  have m2 := r.le
  have HS : Hid _ := r.src
  have HN : Hid _ := r.nil
  clear r
  have q27 : ∀ (w : World) (a : Option Addr) (n c : Nat), (binOp .eql 22 (.slice a n c) (.slice none 0 0)).run Try.prog w = .ok (.bool a.isNone) w := fun w a n c => Lib.run_eql_slice_nil w _ _ a n c 0 0 Try.underlying22
  go_enter Try.func146, Try.ntmps146
  go_wp2_with (first
    | (at_make; refine wpList_make_own _ rfl _ _ 22 rfl w.heap.size 39 i0 (.agg #[.int .i64 0, .int .i64 0, .int .i64 0, .int .i64 0, .bool false, .int .i64 0]) 6 Try.underlying22 hi hz0 hz1 .i64 .i64 _ l.length rfl rfl rfl (by rw [hz2]; omega) (by unfold maxLen; omega) (Nat.le_refl _) ?_; intro w1 hown hgrow)
    | (at_builtin; refine wpList_append_fits_any _ rfl _ _ 22 rfl w.heap.size 39 i0 6 Try.underlying22 hi hz1 w.heap.size 0 l.length _ rfl hown (some ad) l.length cap (encS l) rfl (encS_len l) (fun h => by have := HN.out h; omega) (fun ad h j u hj => hgrow.cell (HS.out ad h j u hj) (by intro hh; cases hh)) (encS_one l) (by omega) ?_; intro w2 hown2 hgrow2))
  go_ret
  simp only [Nat.zero_add, List.nil_append] at hown2
  refine ⟨by simp, hown2, ?_⟩
  have := ((Below.refl w.heap.size w).grown hgrow (Nat.le_refl _) (fun k h => by cases h))
  exact this.grown hgrow2 hgrow.size (fun k h => by cases h; exact Nat.le_refl _)

theorem listI_none (w : World) : Calls Try.prog 147 #[.slice none 0 0] w fun e w' => e = .returned (.slice none 0 0) ∧ w = w' := by
  have q24 : ∀ (w : World) (a : Option Addr) (n c : Nat), (binOp .eql 23 (.slice a n c) (.slice none 0 0)).run Try.prog w = .ok (.bool a.isNone) w := fun w a n c => Lib.run_eql_slice_nil w _ _ a n c 0 0 Try.underlying23
  go_enter Try.func147, Try.ntmps147
  go_wp2
  go_ret
  exact ⟨rfl, rfl⟩
theorem listS_none (w : World) : Calls Try.prog 146 #[.slice none 0 0] w fun e w' => e = .returned (.slice none 0 0) ∧ w = w' := by
  have q27 : ∀ (w : World) (a : Option Addr) (n c : Nat), (binOp .eql 22 (.slice a n c) (.slice none 0 0)).run Try.prog w = .ok (.bool a.isNone) w := fun w a n c => Lib.run_eql_slice_nil w _ _ a n c 0 0 Try.underlying22
  go_enter Try.func146, Try.ntmps146
  go_wp2
  go_ret
  exact ⟨rfl, rfl⟩

theorem listI_any (ao : Option Addr) (cap : Nat) (l : List Int) (w : World) (r : IRow w ao cap l) :
    Calls Try.prog 147 #[.slice ao l.length cap] w fun e w' => ∃ a c, e = .returned (.slice a l.length c) ∧ w'.ownsRow w.heap.size 3 1 (.slice a l.length c) l.length (encI l) ∧ Below w.heap.size w w' := by
  cases ao with
  | some ad =>
    refine (listI_some ad cap l w r).mono ?_
    rintro e w' ⟨rfl, h1, h2⟩
    exact ⟨_, _, rfl, h1, h2⟩
  | none =>
    have hc := r.nil rfl
    have hl : l = [] := List.eq_nil_of_length_eq_zero (by have := r.le; omega)
    subst hc hl
    refine (listI_none w).mono ?_
    rintro e w' ⟨rfl, rfl⟩
    exact ⟨_, _, rfl, World.ownsRow_nil _ _ _ _, Below.refl _ _⟩
theorem listS_any (ao : Option Addr) (cap : Nat) (l : List Sl) (w : World) (r : SRow w ao cap l) :
    Calls Try.prog 146 #[.slice ao l.length cap] w fun e w' => ∃ a c, e = .returned (.slice a l.length c) ∧ w'.ownsRow w.heap.size 39 6 (.slice a l.length c) l.length (encS l) ∧ Below w.heap.size w w' := by
  cases ao with
  | some ad =>
    refine (listS_some ad cap l w r).mono ?_
    rintro e w' ⟨rfl, h1, h2⟩
    exact ⟨_, _, rfl, h1, h2⟩
  | none =>
    have hc := r.nil rfl
    have hl : l = [] := List.eq_nil_of_length_eq_zero (by have := r.le; omega)
    subst hc hl
    refine (listS_none w).mono ?_
    rintro e w' ⟨rfl, rfl⟩
    exact ⟨_, _, rfl, World.ownsRow_nil _ _ _ _, Below.refl _ _⟩





end Go.Proofs.Ytdbilofhcadmoab.mm

/- Memory of one's own: four rows in blocks of their own, whatever room they have; what stays where it is changed; memory as a value. -/
namespace Go.Proofs.Ytdbilofhcadmoab.mm
open Go.ChangeShapes Go.WideShapes Go.ChangeAt Go.RowKit Go.Joins
set_option linter.unusedVariables false

theorem boxf {w : World} {B : Nat} {v0 v1 v2 v3 v4 : Value} {t : TypeId} (h : w.heap[B]? = some (.cells #[v0, v1, v2, v3, v4] t (0, 0))) :
    w.cell? ⟨B, 0, none⟩ = some v0 ∧ w.cell? ⟨B, 1, none⟩ = some v1 ∧ w.cell? ⟨B, 2, none⟩ = some v2 ∧ w.cell? ⟨B, 3, none⟩ = some v3 ∧ w.cell? ⟨B, 4, none⟩ = some v4 ∧
    w.frozen? ⟨B, 0, none⟩ = false ∧ w.frozen? ⟨B, 1, none⟩ = false ∧ w.frozen? ⟨B, 2, none⟩ = false ∧ w.frozen? ⟨B, 3, none⟩ = false ∧ w.frozen? ⟨B, 4, none⟩ = false ∧ B < w.heap.size :=
  ⟨by rw [cell_of_block h]; rfl, by rw [cell_of_block h]; rfl, by rw [cell_of_block h]; rfl, by rw [cell_of_block h]; rfl, by rw [cell_of_block h]; rfl,
    unfrozen_of_block h _, unfrozen_of_block h _, unfrozen_of_block h _, unfrozen_of_block h _, unfrozen_of_block h _, lt_of_block h⟩

/- Two slices don't lie in one block. -/
def Dj (v v' : Value) : Prop := ∀ g, v.ownBlock = some g → v'.ownBlock ≠ some g

theorem Dj.symm {v v' : Value} (h : Dj v v') : Dj v' v := fun g e e' => h g e' e

theorem own_shape {w : World} {lo size n : Nat} {e : TypeId} {v : Value} {xs : List Value} (h : w.ownsRow lo e size v n xs) : ∃ ao cap, v = .slice ao n cap := by
  rcases ownsRow_forms h with ⟨rfl, rfl⟩ | ⟨g, cap, rfl⟩
  · exact ⟨_, _, rfl⟩
  · exact ⟨_, _, rfl⟩

theorem own_at {w : World} {lo size n g : Nat} {e : TypeId} {v : Value} {xs : List Value} (h : w.ownsRow lo e size v n xs) (hg : v.ownBlock = some g) : ∃ cur, w.heap[g]? = some (.cells cur e (0, 0)) := by
  rcases h.2 with ⟨rfl, _⟩ | ⟨g', cap, cur, rfl, _, hb, _⟩
  · cases hg
  · cases hg
    exact ⟨_, hb⟩

theorem own_ne {w : World} {lo size n B : Nat} {e t : TypeId} {v : Value} {xs : List Value} {cs : Array Value} (h : w.ownsRow lo e size v n xs) (hB : w.heap[B]? = some (.cells cs t (0, 0))) (ne : e ≠ t) : v.ownBlock ≠ some B := by
  intro hg
  obtain ⟨cur, hc⟩ := own_at h hg
  rw [hB] at hc
  injection hc with hc
  injection hc with _ hc
  exact ne hc.symm

theorem own_dj {w : World} {lo size n lo' size' n' : Nat} {e e' : TypeId} {v v' : Value} {xs xs' : List Value} (h : w.ownsRow lo e size v n xs) (h' : w.ownsRow lo' e' size' v' n' xs') (ne : e ≠ e') : Dj v v' := by
  intro g hg hg'
  obtain ⟨cur, hc⟩ := own_at h hg
  exact own_ne h' hc (Ne.symm ne) hg'

theorem Dj.grown {w : World} {v u u' : Value} (h : Dj v u) (hv : ∀ g, v.ownBlock = some g → g < w.heap.size) (hloc : u'.ownBlock = u.ownBlock ∨ u'.ownBlock = some w.heap.size) : Dj v u' := by
  intro g hg hg'
  rcases hloc with e | e
  · exact h g hg (e ▸ hg')
  · have := hv g hg
    rw [e] at hg'
    injection hg' with hg'
    omega

theorem Dj.ne {v u : Value} (h : Dj v u) : v.ownBlock = none ∨ v.ownBlock ≠ u.ownBlock := by
  cases hv : v.ownBlock with
  | none => exact .inl rfl
  | some g => exact .inr (fun e => h g hv e.symm)

theorem dj_len {a b : Option Addr} {n c m d n' c' m' d' : Nat} (h : Dj (.slice a n c) (.slice b m d)) : Dj (.slice a n' c') (.slice b m' d') := by
  cases a <;> cases b <;> exact h

/- Where four slices lie: at no block ahead of one. -/
structure Hi4 (lo : Nat) (aS aH aF aL : Option Addr) : Prop where
  s : ∀ ad, aS = some ad → lo ≤ ad.block
  h : ∀ ad, aH = some ad → lo ≤ ad.block
  f : ∀ ad, aF = some ad → lo ≤ ad.block
  l : ∀ ad, aL = some ad → lo ≤ ad.block

theorem hi_some {lo g : Nat} (h : lo ≤ g) : ∀ ad, (some ⟨g, 0, none⟩ : Option Addr) = some ad → lo ≤ ad.block := by
  rintro ad ⟨⟩
  exact h

/- A value is memory, and it lies so in the world. -/
def Ans (lo : Nat) (w : World) (v : Value) (M : Mm) : Prop :=
  ∃ aS aH aF aL cS cH cF cL, v = .agg #[.slice aS M.slots.length cS, .slice aH M.heads.length cH, .slice aF M.free.length cF, .slice aL M.locks.length cL, .int .i64 M.now] ∧ At w aS aH aF aL cS cH cF cL M ∧ Hi4 lo aS aH aF aL

theorem Hi4.mono {lo lo' : Nat} {aS aH aF aL : Option Addr} (h : Hi4 lo aS aH aF aL) (hl : lo' ≤ lo) : Hi4 lo' aS aH aF aL :=
  ⟨fun a e => Nat.le_trans hl (h.s a e), fun a e => Nat.le_trans hl (h.h a e), fun a e => Nat.le_trans hl (h.f a e), fun a e => Nat.le_trans hl (h.l a e)⟩

theorem Ans.below {lo : Nat} {w w' : World} {v : Value} {M : Mm} (h : Ans lo w v M) (hb : Below w.heap.size w w') : Ans lo w' v M := by
  obtain ⟨aS, aH, aF, aL, cS, cH, cF, cL, e, A, hi⟩ := h
  exact ⟨aS, aH, aF, aL, cS, cH, cF, cL, e, A.below hb, hi⟩

theorem Ans.mono {lo lo' : Nat} {w : World} {v : Value} {M : Mm} (h : Ans lo w v M) (hl : lo' ≤ lo) : Ans lo' w v M := by
  obtain ⟨aS, aH, aF, aL, cS, cH, cF, cL, e, A, hi⟩ := h
  exact ⟨aS, aH, aF, aL, cS, cH, cF, cL, e, A, hi.mono hl⟩

theorem ans0 (lo : Nat) (w : World) : Ans lo w (.agg #[.slice none 0 0, .slice none 0 0, .slice none 0 0, .slice none 0 0, .int .i64 0]) m0 :=
  ⟨none, none, none, none, 0, 0, 0, 0, rfl, ⟨⟨by decide, by decide, fun _ => rfl, .inl rfl⟩, ⟨by decide, by decide, fun _ => rfl, .inl rfl⟩, ⟨by decide, by decide, fun _ => rfl, .inl rfl⟩, ⟨by decide, by decide, fun _ => rfl, .inl rfl⟩⟩, ⟨(fun _ h => by cases h), (fun _ h => by cases h), (fun _ h => by cases h), (fun _ h => by cases h)⟩⟩

def set5 (w : World) (g : Nat) (v0 v1 v2 v3 v4 : Value) : World :=
  ((((w.setCell ⟨g, 0, none⟩ v0).setCell ⟨g, 1, none⟩ v1).setCell ⟨g, 2, none⟩ v2).setCell ⟨g, 3, none⟩ v3).setCell ⟨g, 4, none⟩ v4
theorem set5_block {w : World} {g : Nat} {u0 u1 u2 u3 u4 : Value} {t : TypeId} (h : w.heap[g]? = some (.cells #[u0, u1, u2, u3, u4] t (0, 0))) (v0 v1 v2 v3 v4 : Value) : (set5 w g v0 v1 v2 v3 v4).heap[g]? = some (.cells #[v0, v1, v2, v3, v4] t (0, 0)) := by
  have := block_setCell (i := 4) (block_setCell (i := 3) (block_setCell (i := 2) (block_setCell (i := 1) (block_setCell (i := 0) h v0) v1) v2) v3) v4
  rw [set5, this]
  simp
theorem set5_other {w : World} {g k : Nat} {v0 v1 v2 v3 v4 : Value} (h : k ≠ g) : (set5 w g v0 v1 v2 v3 v4).heap[k]? = w.heap[k]? := by
  unfold set5
  repeat rw [Below.heap_setCell _ _ _ _ (by dsimp only; exact h)]
theorem set5_below (w : World) (g B : Nat) (v0 v1 v2 v3 v4 : Value) (h : B ≤ g) : Below B w (set5 w g v0 v1 v2 v3 v4) := by
  unfold set5
  iterate 5 (refine Below.setCell ?_ (by dsimp only; exact h) _)
  exact Below.refl _ _
theorem set5_size (w : World) (g : Nat) (v0 v1 v2 v3 v4 : Value) : (set5 w g v0 v1 v2 v3 v4).heap.size = w.heap.size := by simp [set5]
theorem own_set5 {w : World} {lo size n g : Nat} {e : TypeId} {v : Value} {xs : List Value} (h : w.ownsRow lo e size v n xs) (hne : v.ownBlock ≠ some g) (v0 v1 v2 v3 v4 : Value) : (set5 w g v0 v1 v2 v3 v4).ownsRow lo e size v n xs := by
  unfold set5
  iterate 5 (refine ownsRow_setCell_other ?_ hne _)
  exact h

/- What is stored into a box of one's own changes no list that lies elsewhere. -/
theorem SRow.off {w w' : World} {ao : Option Addr} {cap : Nat} {l : List Sl} (r : SRow w ao cap l) (g : Nat) (hg : ∀ ad, ao = some ad → ad.block ≠ g) (h : ∀ k, k ≠ g → w'.heap[k]? = w.heap[k]?) : SRow w' ao cap l := by
  refine ⟨r.le, r.max, r.nil, ?_⟩
  rcases r.at_ with h0 | ⟨b, o, e, hc⟩
  · exact .inl h0
  · by_cases h0 : l.length = 0
    · exact .inl h0
    refine .inr ⟨b, o, e, fun i hi => ?_⟩
    have q : ∀ x, w'.cell? ⟨b, x, none⟩ = w.cell? ⟨b, x, none⟩ := fun x => World.cell?_of_block (a := ⟨b, x, none⟩) (h b (hg _ e))
    rw [q, q, q, q, q, q]
    exact hc i hi
theorem IRow.off {w w' : World} {ao : Option Addr} {cap : Nat} {l : List Int} (r : IRow w ao cap l) (g : Nat) (hg : ∀ ad, ao = some ad → ad.block ≠ g) (h : ∀ k, k ≠ g → w'.heap[k]? = w.heap[k]?) : IRow w' ao cap l := by
  refine ⟨r.le, r.max, r.nil, ?_⟩
  rcases r.at_ with h0 | ⟨b, o, e, hc⟩
  · exact .inl h0
  · by_cases h0 : l.length = 0
    · exact .inl h0
    refine .inr ⟨b, o, e, fun i hi => ?_⟩
    rw [World.cell?_of_block (a := ⟨b, o + i, none⟩) (h b (hg _ e))]
    exact hc i hi
theorem At.off {w w' : World} {aS aH aF aL : Option Addr} {cS cH cF cL lo g : Nat} {M : Mm} (A : At w aS aH aF aL cS cH cF cL M) (hi : Hi4 lo aS aH aF aL) (hg : g < lo) (h : ∀ k, k ≠ g → w'.heap[k]? = w.heap[k]?) : At w' aS aH aF aL cS cH cF cL M :=
  ⟨A.s.off g (fun ad e => by have := hi.s ad e; omega) h, A.h.off g (fun ad e => by have := hi.h ad e; omega) h, A.f.off g (fun ad e => by have := hi.f ad e; omega) h, A.l.off g (fun ad e => by have := hi.l ad e; omega) h⟩

/- Rows of one's own hold memory. -/
structure Rw (w : World) (lo : Nat) (aS aH aF aL : Option Addr) (cS cH cF cL : Nat) (M : Mm) : Prop where
  s : w.ownsRow lo 39 6 (.slice aS M.slots.length cS) M.slots.length (encS M.slots)
  h : w.ownsRow lo 3 1 (.slice aH M.heads.length cH) M.heads.length (encI M.heads)
  f : w.ownsRow lo 3 1 (.slice aF M.free.length cF) M.free.length (encI M.free)
  l : w.ownsRow lo 3 1 (.slice aL M.locks.length cL) M.locks.length (encI M.locks)
  hf : Dj (.slice aH M.heads.length cH) (.slice aF M.free.length cF)
  hl : Dj (.slice aH M.heads.length cH) (.slice aL M.locks.length cL)
  fl : Dj (.slice aF M.free.length cF) (.slice aL M.locks.length cL)
  lz : lo ≤ w.heap.size

theorem Rw.below {w w' : World} {lo : Nat} {aS aH aF aL : Option Addr} {cS cH cF cL : Nat} {M : Mm} (r : Rw w lo aS aH aF aL cS cH cF cL M) (hb : Below w.heap.size w w') : Rw w' lo aS aH aF aL cS cH cF cL M :=
  ⟨own_below r.s hb, own_below r.h hb, own_below r.f hb, own_below r.l hb, r.hf, r.hl, r.fl, Nat.le_trans r.lz hb.size⟩

theorem Rw.set5 {w : World} {lo B : Nat} {aS aH aF aL : Option Addr} {cS cH cF cL : Nat} {M : Mm} {cs : Array Value} (r : Rw w lo aS aH aF aL cS cH cF cL M) (hB : w.heap[B]? = some (.cells cs 25 (0, 0))) (v0 v1 v2 v3 v4 : Value) : Rw (mm.set5 w B v0 v1 v2 v3 v4) lo aS aH aF aL cS cH cF cL M :=
  ⟨own_set5 r.s (own_ne r.s hB (by decide)) _ _ _ _ _, own_set5 r.h (own_ne r.h hB (by decide)) _ _ _ _ _, own_set5 r.f (own_ne r.f hB (by decide)) _ _ _ _ _, own_set5 r.l (own_ne r.l hB (by decide)) _ _ _ _ _, r.hf, r.hl, r.fl, by rw [set5_size]; exact r.lz⟩

theorem SRow.own {w : World} {lo n cap : Nat} {ao : Option Addr} {S : List Sl} (h : w.ownsRow lo 39 6 (.slice ao n cap) n (encS S)) (hm : S.length * 48 ≤ 140737488351232) : SRow w ao cap S := by
  obtain ⟨a, c, e, r⟩ := SRow.of_own h hm
  injection e with e1 e2 e3
  subst e1 e3
  exact r
theorem IRow.own {w : World} {lo n cap : Nat} {ao : Option Addr} {l : List Int} (h : w.ownsRow lo 3 1 (.slice ao n cap) n (encI l)) (hm : l.length * 8 ≤ 140737488351232) : IRow w ao cap l := by
  obtain ⟨a, c, e, r⟩ := IRow.of_own h hm
  injection e with e1 e2 e3
  subst e1 e3
  exact r

theorem own_hi {w : World} {lo size n m cap : Nat} {ao : Option Addr} {e : TypeId} {xs : List Value} (h : w.ownsRow lo e size (.slice ao m cap) n xs) : ∀ ad, ao = some ad → lo ≤ ad.block := by
  rintro ad rfl
  exact (h.lt ad.block rfl).1

theorem Rw.hi {w : World} {lo : Nat} {aS aH aF aL : Option Addr} {cS cH cF cL : Nat} {M : Mm} (r : Rw w lo aS aH aF aL cS cH cF cL M) : Hi4 lo aS aH aF aL :=
  ⟨own_hi r.s, own_hi r.h, own_hi r.f, own_hi r.l⟩
theorem Rw.at {w : World} {lo : Nat} {aS aH aF aL : Option Addr} {cS cH cF cL : Nat} {M : Mm} (r : Rw w lo aS aH aF aL cS cH cF cL M)
    (m1 : M.slots.length * 48 ≤ 140737488351232) (m2 : M.heads.length * 8 ≤ 140737488351232) (m3 : M.free.length * 8 ≤ 140737488351232) (m4 : M.locks.length * 8 ≤ 140737488351232) : At w aS aH aF aL cS cH cF cL M :=
  ⟨.own r.s m1, .own r.h m2, .own r.f m3, .own r.l m4⟩

/- Memory of one's own, in a box. -/
structure Mine (w : World) (B lo : Nat) (aS aH aF aL : Option Addr) (cS cH cF cL : Nat) (M : Mm) : Prop where
  box : w.heap[B]? = some (.cells #[.slice aS M.slots.length cS, .slice aH M.heads.length cH, .slice aF M.free.length cF, .slice aL M.locks.length cL, .int .i64 M.now] 25 (0, 0))
  c : Rw w lo aS aH aF aL cS cH cF cL M
  m1 : M.slots.length * 48 ≤ 140737488351232
  m2 : M.heads.length * 8 ≤ 140737488351232
  m3 : M.free.length * 8 ≤ 140737488351000
  m4 : M.locks.length * 8 ≤ 140737488351232

theorem Mine.at {w : World} {B lo : Nat} {aS aH aF aL : Option Addr} {cS cH cF cL : Nat} {M : Mm} (m : Mine w B lo aS aH aF aL cS cH cF cL M) : At w aS aH aF aL cS cH cF cL M :=
  m.c.at m.m1 m.m2 (by have := m.m3; omega) m.m4
theorem Mine.below {w w' : World} {B lo : Nat} {aS aH aF aL : Option Addr} {cS cH cF cL : Nat} {M : Mm} (m : Mine w B lo aS aH aF aL cS cH cF cL M) (hb : Below w.heap.size w w') : Mine w' B lo aS aH aF aL cS cH cF cL M :=
  ⟨(hb.block _ (lt_of_block m.box)).trans m.box, m.c.below hb, m.m1, m.m2, m.m3, m.m4⟩

/- What stays where one's own memory is changed. -/
structure Kept (w w' : World) (B lo : Nat) : Prop where
  os : w'.os = w.os
  tape : w'.tape = w.tape
  output : w'.output = w.output
  size : w.heap.size ≤ w'.heap.size
  block : ∀ k, k < lo → k ≠ B → w'.heap[k]? = w.heap[k]?

theorem Kept.refl (w : World) (B lo : Nat) : Kept w w B lo := ⟨rfl, rfl, rfl, Nat.le_refl _, fun _ _ _ => rfl⟩
theorem Kept.trans {w w1 w2 : World} {B lo : Nat} (h : Kept w w1 B lo) (h' : Kept w1 w2 B lo) : Kept w w2 B lo :=
  ⟨h'.os.trans h.os, h'.tape.trans h.tape, h'.output.trans h.output, Nat.le_trans h.size h'.size, fun k h1 h2 => (h'.block k h1 h2).trans (h.block k h1 h2)⟩
theorem Kept.of_below {w w' : World} {B lo n : Nat} (hb : Below n w w') (h : lo ≤ n) : Kept w w' B lo := ⟨hb.os, hb.tape, hb.output, hb.size, fun k h1 h2 => hb.block k (by omega)⟩
theorem Kept.grown {w w1 w2 : World} {B lo : Nat} {row : Option Nat} (h : Kept w w1 B lo) (hg : w1.grownBy w2 row) (hr : ∀ k, row = some k → lo ≤ k) (hz : lo ≤ w1.heap.size) : Kept w w2 B lo :=
  h.trans ⟨hg.os, hg.tape, hg.output, hg.size, fun k h1 h2 => hg.block k (by omega) (fun e => by have := hr k e.symm; omega)⟩
theorem Kept.setBox {w w1 : World} {B lo j : Nat} (h : Kept w w1 B lo) (v : Value) : Kept w (w1.setCell ⟨B, j, none⟩ v) B lo :=
  h.trans ⟨rfl, rfl, rfl, by simp, fun k h1 h2 => Below.heap_setCell _ _ _ _ (by dsimp only; exact h2)⟩
theorem Kept.setCell {w w1 : World} {B lo g j : Nat} (h : Kept w w1 B lo) (hg : lo ≤ g) (v : Value) : Kept w (w1.setCell ⟨g, j, none⟩ v) B lo :=
  h.trans ⟨rfl, rfl, rfl, by simp, fun k h1 h2 => Below.heap_setCell _ _ _ _ (by dsimp only; omega)⟩
theorem Kept.below {w w1 w2 : World} {B lo : Nat} (h : Kept w w1 B lo) (hb : Below w1.heap.size w1 w2) (hz : lo ≤ w1.heap.size) : Kept w w2 B lo :=
  h.trans (.of_below hb hz)
theorem Kept.down {w w1 : World} {B lo : Nat} (h : Kept w w1 B lo) {n : Nat} (h1 : n ≤ lo) (h2 : n ≤ B) : Below n w w1 :=
  ⟨h.os, h.tape, h.output, h.size, fun k hk => h.block k (by omega) (by omega)⟩

/- Memory in a box is now this one; nothing else has turned. -/
def Now (w w' : World) (B lo : Nat) (M : Mm) : Prop := ∃ aS aH aF aL cS cH cF cL, Mine w' B lo aS aH aF aL cS cH cF cL M ∧ Kept w w' B lo

def Done (w w' : World) (B lo : Nat) (M : Mm) : Prop :=
  ∃ aS aH aF aL cS cH cF cL, w'.heap[B]? = some (.cells #[.slice aS M.slots.length cS, .slice aH M.heads.length cH, .slice aF M.free.length cF, .slice aL M.locks.length cL, .int .i64 M.now] 25 (0, 0)) ∧
    At w' aS aH aF aL cS cH cF cL M ∧ Kept w w' B lo ∧ Hi4 lo aS aH aF aL

theorem Now.done {w w' : World} {B lo : Nat} {M : Mm} (h : Now w w' B lo M) : Done w w' B lo M := by
  obtain ⟨aS, aH, aF, aL, cS, cH, cF, cL, m, k⟩ := h
  exact ⟨aS, aH, aF, aL, cS, cH, cF, cL, m.box, m.at, k, m.c.hi⟩

/- One cell of a row is stored. -/
theorem Mine.setS {w : World} {B lo g : Nat} {aH aF aL : Option Addr} {cS cH cF cL : Nat} {M : Mm} (m : Mine w B lo (some ⟨g, 0, none⟩) aH aF aL cS cH cF cL M) (j : Nat) (u : Value) (S' : List Sl) (hS : (encS M.slots).set j u = encS S') :
    Mine (w.setCell ⟨g, j, none⟩ u) B lo (some ⟨g, 0, none⟩) aH aF aL cS cH cF cL { M with slots := S' } := by
  have hl : S'.length = M.slots.length := by
    have := congrArg List.length hS
    rw [List.length_set, encS_len, encS_len] at this
    omega
  obtain ⟨hB, ⟨s, h, f, l, hf, hl', fl, lz⟩, m1, m2, m3, m4⟩ := m
  have hg : (Value.slice (some ⟨g, 0, none⟩) M.slots.length cS).ownBlock = some g := rfl
  have ne : ∀ {v : Value} {n : Nat} {xs : List Value}, w.ownsRow lo 3 1 v n xs → v.ownBlock ≠ some g := fun h e => own_dj h s (by decide) g e hg
  refine ⟨?_, ⟨?_, ownsRow_setCell_other h (ne h) u, ownsRow_setCell_other f (ne f) u, ownsRow_setCell_other l (ne l) u, hf, hl', fl, by rw [World.size_setCell]; exact lz⟩, by dsimp only; omega, m2, m3, m4⟩
  · dsimp only
    rw [Below.heap_setCell _ _ _ _ (by dsimp only; intro e; exact own_ne s hB (by decide) (by rw [hg, e])), hl]
    exact hB
  · dsimp only
    rw [hl, ← hS]
    exact (s.stored j u).1

theorem Mine.setH {w : World} {B lo g : Nat} {aS aF aL : Option Addr} {cS cH cF cL : Nat} {M : Mm} (m : Mine w B lo aS (some ⟨g, 0, none⟩) aF aL cS cH cF cL M) (j : Nat) (x : Int) :
    Mine (w.setCell ⟨g, j, none⟩ (.int .i64 x)) B lo aS (some ⟨g, 0, none⟩) aF aL cS cH cF cL { M with heads := M.heads.set j x } := by
  obtain ⟨hB, ⟨s, h, f, l, hf, hl, fl, lz⟩, m1, m2, m3, m4⟩ := m
  have hg : (Value.slice (some ⟨g, 0, none⟩) M.heads.length cH).ownBlock = some g := rfl
  have ns : (Value.slice aS M.slots.length cS).ownBlock ≠ some g := fun e => own_dj s h (by decide) g e hg
  refine ⟨?_, ⟨ownsRow_setCell_other s ns _, ?_, ownsRow_setCell_other f (fun e => hf g hg e) _, ownsRow_setCell_other l (fun e => hl g hg e) _, dj_len hf, dj_len hl, fl, by rw [World.size_setCell]; exact lz⟩, m1, by dsimp only; rw [List.length_set]; exact m2, m3, m4⟩
  · dsimp only
    rw [Below.heap_setCell _ _ _ _ (by dsimp only; intro e; exact own_ne h hB (by decide) (by rw [hg, e])), List.length_set]
    exact hB
  · dsimp only
    have e : encI (M.heads.set j x) = (encI M.heads).set j (.int .i64 x) := by simp [encI, List.map_set]
    rw [List.length_set, e]
    exact (h.stored j _).1

theorem Mine.setL {w : World} {B lo g : Nat} {aS aH aF : Option Addr} {cS cH cF cL : Nat} {M : Mm} (m : Mine w B lo aS aH aF (some ⟨g, 0, none⟩) cS cH cF cL M) (j : Nat) (x : Int) :
    Mine (w.setCell ⟨g, j, none⟩ (.int .i64 x)) B lo aS aH aF (some ⟨g, 0, none⟩) cS cH cF cL { M with locks := M.locks.set j x } := by
  obtain ⟨hB, ⟨s, h, f, l, hf, hl, fl, lz⟩, m1, m2, m3, m4⟩ := m
  have hg : (Value.slice (some ⟨g, 0, none⟩) M.locks.length cL).ownBlock = some g := rfl
  have ns : (Value.slice aS M.slots.length cS).ownBlock ≠ some g := fun e => own_dj s l (by decide) g e hg
  refine ⟨?_, ⟨ownsRow_setCell_other s ns _, ownsRow_setCell_other h (fun e => hl g e hg) _, ownsRow_setCell_other f (fun e => fl g e hg) _, ?_, hf, dj_len hl, dj_len fl, by rw [World.size_setCell]; exact lz⟩, m1, m2, m3, by dsimp only; rw [List.length_set]; exact m4⟩
  · dsimp only
    rw [Below.heap_setCell _ _ _ _ (by dsimp only; intro e; exact own_ne l hB (by decide) (by rw [hg, e])), List.length_set]
    exact hB
  · dsimp only
    have e : encI (M.locks.set j x) = (encI M.locks).set j (.int .i64 x) := by simp [encI, List.map_set]
    rw [List.length_set, e]
    exact (l.stored j _).1

/- The last of the free ones is struck off. -/
theorem Mine.pop {w : World} {B lo g n : Nat} {aS aH aL : Option Addr} {cS cH cF cL : Nat} {M : Mm} (m : Mine w B lo aS aH (some ⟨g, 0, none⟩) aL cS cH cF cL M) (hn : M.free.length = n + 1) :
    Mine (w.setCell ⟨B, 2, none⟩ (.slice (some ⟨g, 0, none⟩) n cF)) B lo aS aH (some ⟨g, 0, none⟩) aL cS cH cF cL { M with free := M.free.take n } := by
  obtain ⟨hB, ⟨s, h, f, l, hf, hl, fl, lz⟩, m1, m2, m3, m4⟩ := m
  have hlen : (M.free.take n).length = n := by rw [List.length_take]; omega
  refine ⟨?_, ⟨ownsRow_setCell_other s (own_ne s hB (by decide)) _, ownsRow_setCell_other h (own_ne h hB (by decide)) _, ?_, ownsRow_setCell_other l (own_ne l hB (by decide)) _, dj_len hf, hl, dj_len fl, by rw [World.size_setCell]; exact lz⟩, m1, m2, by dsimp only; omega, m4⟩
  · dsimp only
    rw [hlen]
    have := block_setCell (i := 2) hB (.slice (some ⟨g, 0, none⟩) n cF)
    simpa using this
  · dsimp only
    rw [hlen]
    have fn := own_ne f hB (by decide)
    refine ownsRow_setCell_other ?_ fn _
    rw [hn] at f
    refine ownsRow_pop (last := encI (M.free.drop n)) (by simp [encI]; omega) ?_
    rw [show encI (M.free.take n) ++ encI (M.free.drop n) = encI M.free by simp [encI]]
    exact f

/- The free ones have grown, in another world; its slice is stored. -/
theorem Mine.grow {w w1 : World} {B lo : Nat} {aS aH aF aL a' : Option Addr} {cS cH cF cL c' : Nat} {M : Mm} (m : Mine w B lo aS aH aF aL cS cH cF cL M) (F' : List Int) (hm : F'.length * 8 ≤ 140737488351000)
    (hg : w.grownBy w1 (Value.slice aF M.free.length cF).ownBlock) (ho : w1.ownsRow lo 3 1 (.slice a' F'.length c') F'.length (encI F'))
    (hloc : (Value.slice a' F'.length c').ownBlock = (Value.slice aF M.free.length cF).ownBlock ∨ (Value.slice a' F'.length c').ownBlock = some w.heap.size) :
    Mine (w1.setCell ⟨B, 2, none⟩ (.slice a' F'.length c')) B lo aS aH a' aL cS cH c' cL { M with free := F' } := by
  obtain ⟨hB, ⟨s, h, f, l, hf, hl, fl, lz⟩, m1, m2, m3, m4⟩ := m
  have hB1 : w1.heap[B]? = _ := (hg.block B (lt_of_block hB) (fun e => own_ne f hB (by decide) e.symm)).trans hB
  have s1 := s.kept hg (own_dj s f (by decide)).ne
  have h1 := h.kept hg hf.ne
  have l1 := l.kept hg fl.symm.ne
  refine ⟨?_, ⟨ownsRow_setCell_other s1 (own_ne s1 hB1 (by decide)) _, ownsRow_setCell_other h1 (own_ne h1 hB1 (by decide)) _, ownsRow_setCell_other ho (own_ne ho hB1 (by decide)) _, ownsRow_setCell_other l1 (own_ne l1 hB1 (by decide)) _, ?_, hl, ?_, ?_⟩, m1, m2, hm, m4⟩
  · have := block_setCell (i := 2) hB1 (.slice a' F'.length c')
    simpa using this
  · exact Dj.grown hf (fun g hg => (h.lt g hg).2) hloc
  · exact (Dj.grown fl.symm (fun g hg => (l.lt g hg).2) hloc).symm
  · rw [World.size_setCell]; exact Nat.le_trans lz hg.size





end Go.Proofs.Ytdbilofhcadmoab.mm

/- The contract of base.Copy: a copy of memory in memory of its own. -/
namespace Go.Proofs.Ytdbilofhcadmoab.mm
open Go.ChangeShapes Go.WideShapes Go.ChangeAt Go.RowKit Go.Joins
set_option linter.unusedVariables false

theorem own_box {w : World} {lo size n g j : Nat} {e : TypeId} {v : Value} {xs : List Value} {cs : Array Value} (h : w.ownsRow lo e size v n xs) (hB : w.heap[g]? = some (.cells cs 25 (0, 0))) (ne : e ≠ 25) (u : Value) : (w.setCell ⟨g, j, none⟩ u).ownsRow lo e size v n xs :=
  ownsRow_setCell_other h (own_ne h hB ne) u

theorem dj_new {w w1 : World} {lo lo1 size size1 n n1 : Nat} {e e1 : TypeId} {v v1 : Value} {xs xs1 : List Value} (h : w.ownsRow lo e size v n xs) (h1 : w1.ownsRow lo1 e1 size1 v1 n1 xs1) (hl : w.heap.size ≤ lo1) : Dj v v1 := by
  intro g hg hg1
  have := (h.lt g hg).2
  have := (h1.lt g hg1).1
  omega

set_option maxHeartbeats 1600000 in
theorem copy_any (M : Mm) (aS aH aF aL : Option Addr) (cS cH cF cL : Nat) (w : World) (A : At w aS aH aF aL cS cH cF cL M) :
    Calls Try.prog 79 #[.agg #[.slice aS M.slots.length cS, .slice aH M.heads.length cH, .slice aF M.free.length cF, .slice aL M.locks.length cL, .int .i64 M.now]] w fun e w' => ∃ gS gH gF gL kS kH kF kL,
      e = .returned (.agg #[.slice gS M.slots.length kS, .slice gH M.heads.length kH, .slice gF M.free.length kF, .slice gL M.locks.length kL, .int .i64 M.now]) ∧
      Rw w' w.heap.size gS gH gF gL kS kH kF kL M ∧ Below w.heap.size w w' := by
  obtain ⟨S, H, F, L, now⟩ := M
  dsimp only
  have m1 := A.s.max; have m2 := A.h.max; have m3 := A.f.max; have m4 := A.l.max
  dsimp only at m1 m2 m3 m4
  obtain ⟨o1, ho1⟩ : ∃ o : Obj, o = .cells #[.slice aS S.length cS, .slice aH H.length cH, .slice aF F.length cF, .slice aL L.length cL, .int .i64 now] 25 := ⟨_, rfl⟩
  obtain ⟨o2, ho2⟩ : ∃ o : Obj, o = .cells #[.slice none 0 0, .slice none 0 0, .slice none 0 0, .slice none 0 0, .int .i64 0] 25 := ⟨_, rfl⟩
  have B0 : Below w.heap.size w ((w.alloc o1).alloc o2) := below_alloc2 w o1 o2
  have HB0 : Hid (((w.alloc o1).alloc o2).heap[w.heap.size]? = some o1) := by show _ = _; rw [Below.heap_alloc _ _ _ (by simp), heap_alloc_new]
  have HR0 : Hid (((w.alloc o1).alloc o2).heap[w.heap.size + 1]? = some o2) := by
    have := heap_alloc_new (w.alloc o1) o2
    rwa [show (w.alloc o1).heap.size = w.heap.size + 1 by simp] at this
  have z0 : w.heap.size + 2 ≤ ((w.alloc o1).alloc o2).heap.size := by simp
  have HA : Hid (At w aS aH aF aL cS cH cF cL ⟨S, H, F, L, now⟩) := A
  clear A
  go_enter Try.func79, Try.ntmps79
  go_wp2_with fail
  rw [← ho1, ← ho2]
  generalize (w.alloc o1).alloc o2 = W0 at *
  subst ho1 ho2
  have HA0 : Hid _ := HA.out.below B0
  refine (listS_any aS cS S W0 HA0.out.s).mono ?_
  rintro e w1 ⟨gS, kS, rfl, ownS, hb1⟩
  have b1 := B0.trans (hb1.mono B0.size)
  have HBx1 : Hid (w1.heap[w.heap.size]? = _) := (hb1.block w.heap.size (lt_of_block HB0.out)).trans HB0.out
  have HRx1 : Hid (w1.heap[w.heap.size + 1]? = _) := (hb1.block (w.heap.size + 1) (lt_of_block HR0.out)).trans HR0.out
  have zx1 : w.heap.size + 2 ≤ w1.heap.size := Nat.le_trans z0 hb1.size
  have OSx1 : Hid (w1.ownsRow w.heap.size 39 6 (.slice gS S.length kS) S.length (encS S)) := ownsRow_le ownS (by omega)
  clear ownS hb1 HA0 HB0 HR0 
  obtain ⟨q0, q1, q2, q3, q4, f0, f1, f2, f3, f4, qs⟩ := boxf HBx1.out
  have B1 : Below w.heap.size w (w1.setCell ⟨w.heap.size, 0, none⟩ (.slice gS S.length kS)) := b1.setCell (Nat.le_refl _) _
  have HB1 : Hid ((w1.setCell ⟨w.heap.size, 0, none⟩ (.slice gS S.length kS)).heap[w.heap.size]? = some (.cells #[.slice gS S.length kS, .slice aH H.length cH, .slice aF F.length cF, .slice aL L.length cL, .int .i64 now] 25 (0, 0))) := by
    have := block_setCell (i := 0) HBx1.out (.slice gS S.length kS)
    show _ = _
    simpa using this
  have HR1 : Hid ((w1.setCell ⟨w.heap.size, 0, none⟩ (.slice gS S.length kS)).heap[w.heap.size + 1]? = _) := (Below.heap_setCell w1 ⟨w.heap.size, 0, none⟩ (.slice gS S.length kS) (w.heap.size + 1) (by show w.heap.size + 1 ≠ w.heap.size; omega)).trans HRx1.out
  have z1 : w.heap.size + 2 ≤ (w1.setCell ⟨w.heap.size, 0, none⟩ (.slice gS S.length kS)).heap.size := by rw [World.size_setCell]; exact zx1
  have OS1 : Hid ((w1.setCell ⟨w.heap.size, 0, none⟩ (.slice gS S.length kS)).ownsRow w.heap.size 39 6 (.slice gS S.length kS) S.length (encS S)) := own_box OSx1.out HBx1.out (by decide) _
  clear zx1 HRx1 OSx1 B0 b1 z0
  go_wp2_with fail
  generalize w1.setCell ⟨w.heap.size, 0, none⟩ (.slice gS S.length kS) = W1 at *
  clear q0 q1 q2 q3 q4 f0 f1 f2 f3 f4 qs HBx1
  have HA1 : Hid _ := HA.out.below B1
  refine (listI_any aH cH H W1 HA1.out.h).mono ?_
  rintro e w2 ⟨gH, kH, rfl, ownH, hb2⟩
  have b2 := B1.trans (hb2.mono B1.size)
  have HBx2 : Hid (w2.heap[w.heap.size]? = _) := (hb2.block w.heap.size (lt_of_block HB1.out)).trans HB1.out
  have HRx2 : Hid (w2.heap[w.heap.size + 1]? = _) := (hb2.block (w.heap.size + 1) (lt_of_block HR1.out)).trans HR1.out
  have zx2 : w.heap.size + 2 ≤ w2.heap.size := Nat.le_trans z1 hb2.size
  have OSx2 : Hid (w2.ownsRow w.heap.size 39 6 (.slice gS S.length kS) S.length (encS S)) := own_below OS1.out hb2
  have OHx2 : Hid (w2.ownsRow w.heap.size 3 1 (.slice gH H.length kH) H.length (encI H)) := ownsRow_le ownH (by omega)
  clear ownH hb2 HA1 HB1 HR1 OS1
  obtain ⟨q0, q1, q2, q3, q4, f0, f1, f2, f3, f4, qs⟩ := boxf HBx2.out
  have B2 : Below w.heap.size w (w2.setCell ⟨w.heap.size, 1, none⟩ (.slice gH H.length kH)) := b2.setCell (Nat.le_refl _) _
  have HB2 : Hid ((w2.setCell ⟨w.heap.size, 1, none⟩ (.slice gH H.length kH)).heap[w.heap.size]? = some (.cells #[.slice gS S.length kS, .slice gH H.length kH, .slice aF F.length cF, .slice aL L.length cL, .int .i64 now] 25 (0, 0))) := by
    have := block_setCell (i := 1) HBx2.out (.slice gH H.length kH)
    show _ = _
    simpa using this
  have HR2 : Hid ((w2.setCell ⟨w.heap.size, 1, none⟩ (.slice gH H.length kH)).heap[w.heap.size + 1]? = _) := (Below.heap_setCell w2 ⟨w.heap.size, 1, none⟩ (.slice gH H.length kH) (w.heap.size + 1) (by show w.heap.size + 1 ≠ w.heap.size; omega)).trans HRx2.out
  have z2 : w.heap.size + 2 ≤ (w2.setCell ⟨w.heap.size, 1, none⟩ (.slice gH H.length kH)).heap.size := by rw [World.size_setCell]; exact zx2
  have OS2 : Hid ((w2.setCell ⟨w.heap.size, 1, none⟩ (.slice gH H.length kH)).ownsRow w.heap.size 39 6 (.slice gS S.length kS) S.length (encS S)) := own_box OSx2.out HBx2.out (by decide) _
  have OH2 : Hid ((w2.setCell ⟨w.heap.size, 1, none⟩ (.slice gH H.length kH)).ownsRow w.heap.size 3 1 (.slice gH H.length kH) H.length (encI H)) := own_box OHx2.out HBx2.out (by decide) _
  clear zx2 HRx2 OSx2 OHx2 B1 b2 z1
  go_wp2_with fail
  generalize w2.setCell ⟨w.heap.size, 1, none⟩ (.slice gH H.length kH) = W2 at *
  clear q0 q1 q2 q3 q4 f0 f1 f2 f3 f4 qs HBx2
  have HA2 : Hid _ := HA.out.below B2
  refine (listI_any aF cF F W2 HA2.out.f).mono ?_
  rintro e w3 ⟨gF, kF, rfl, ownF, hb3⟩
  have b3 := B2.trans (hb3.mono B2.size)
  have HBx3 : Hid (w3.heap[w.heap.size]? = _) := (hb3.block w.heap.size (lt_of_block HB2.out)).trans HB2.out
  have HRx3 : Hid (w3.heap[w.heap.size + 1]? = _) := (hb3.block (w.heap.size + 1) (lt_of_block HR2.out)).trans HR2.out
  have zx3 : w.heap.size + 2 ≤ w3.heap.size := Nat.le_trans z2 hb3.size
  have OSx3 : Hid (w3.ownsRow w.heap.size 39 6 (.slice gS S.length kS) S.length (encS S)) := own_below OS2.out hb3
  have OHx3 : Hid (w3.ownsRow w.heap.size 3 1 (.slice gH H.length kH) H.length (encI H)) := own_below OH2.out hb3
  have OFx3 : Hid (w3.ownsRow w.heap.size 3 1 (.slice gF F.length kF) F.length (encI F)) := ownsRow_le ownF (by omega)
  have DHF : Dj (.slice gH H.length kH) (.slice gF F.length kF) := dj_new OH2.out ownF (Nat.le_refl _)
  clear ownF hb3 HA2 HB2 HR2 OS2 OH2
  obtain ⟨q0, q1, q2, q3, q4, f0, f1, f2, f3, f4, qs⟩ := boxf HBx3.out
  have B3 : Below w.heap.size w (w3.setCell ⟨w.heap.size, 2, none⟩ (.slice gF F.length kF)) := b3.setCell (Nat.le_refl _) _
  have HB3 : Hid ((w3.setCell ⟨w.heap.size, 2, none⟩ (.slice gF F.length kF)).heap[w.heap.size]? = some (.cells #[.slice gS S.length kS, .slice gH H.length kH, .slice gF F.length kF, .slice aL L.length cL, .int .i64 now] 25 (0, 0))) := by
    have := block_setCell (i := 2) HBx3.out (.slice gF F.length kF)
    show _ = _
    simpa using this
  have HR3 : Hid ((w3.setCell ⟨w.heap.size, 2, none⟩ (.slice gF F.length kF)).heap[w.heap.size + 1]? = _) := (Below.heap_setCell w3 ⟨w.heap.size, 2, none⟩ (.slice gF F.length kF) (w.heap.size + 1) (by show w.heap.size + 1 ≠ w.heap.size; omega)).trans HRx3.out
  have z3 : w.heap.size + 2 ≤ (w3.setCell ⟨w.heap.size, 2, none⟩ (.slice gF F.length kF)).heap.size := by rw [World.size_setCell]; exact zx3
  have OS3 : Hid ((w3.setCell ⟨w.heap.size, 2, none⟩ (.slice gF F.length kF)).ownsRow w.heap.size 39 6 (.slice gS S.length kS) S.length (encS S)) := own_box OSx3.out HBx3.out (by decide) _
  have OH3 : Hid ((w3.setCell ⟨w.heap.size, 2, none⟩ (.slice gF F.length kF)).ownsRow w.heap.size 3 1 (.slice gH H.length kH) H.length (encI H)) := own_box OHx3.out HBx3.out (by decide) _
  have OF3 : Hid ((w3.setCell ⟨w.heap.size, 2, none⟩ (.slice gF F.length kF)).ownsRow w.heap.size 3 1 (.slice gF F.length kF) F.length (encI F)) := own_box OFx3.out HBx3.out (by decide) _
  clear zx3 HRx3 OSx3 OHx3 OFx3 B2 b3 z2
  go_wp2_with fail
  generalize w3.setCell ⟨w.heap.size, 2, none⟩ (.slice gF F.length kF) = W3 at *
  clear q0 q1 q2 q3 q4 f0 f1 f2 f3 f4 qs HBx3
  have HA3 : Hid _ := HA.out.below B3
  refine (listI_any aL cL L W3 HA3.out.l).mono ?_
  rintro e w4 ⟨gL, kL, rfl, ownL, hb4⟩
  have b4 := B3.trans (hb4.mono B3.size)
  have HBx4 : Hid (w4.heap[w.heap.size]? = _) := (hb4.block w.heap.size (lt_of_block HB3.out)).trans HB3.out
  have HRx4 : Hid (w4.heap[w.heap.size + 1]? = _) := (hb4.block (w.heap.size + 1) (lt_of_block HR3.out)).trans HR3.out
  have zx4 : w.heap.size + 2 ≤ w4.heap.size := Nat.le_trans z3 hb4.size
  have OSx4 : Hid (w4.ownsRow w.heap.size 39 6 (.slice gS S.length kS) S.length (encS S)) := own_below OS3.out hb4
  have OHx4 : Hid (w4.ownsRow w.heap.size 3 1 (.slice gH H.length kH) H.length (encI H)) := own_below OH3.out hb4
  have OFx4 : Hid (w4.ownsRow w.heap.size 3 1 (.slice gF F.length kF) F.length (encI F)) := own_below OF3.out hb4
  have OLx4 : Hid (w4.ownsRow w.heap.size 3 1 (.slice gL L.length kL) L.length (encI L)) := ownsRow_le ownL (by omega)
  have DHL : Dj (.slice gH H.length kH) (.slice gL L.length kL) := dj_new OH3.out ownL (Nat.le_refl _)
  have DFL : Dj (.slice gF F.length kF) (.slice gL L.length kL) := dj_new OF3.out ownL (Nat.le_refl _)
  clear ownL hb4 HA3 HB3 HR3 OS3 OH3 OF3
  obtain ⟨q0, q1, q2, q3, q4, f0, f1, f2, f3, f4, qs⟩ := boxf HBx4.out
  obtain ⟨r0, r1, r2, r3, r4, g0, g1, g2, g3, g4, rs⟩ := boxf HRx4.out
  have rs0 : w.heap.size + 1 ≠ w.heap.size := by omega
  have HF : Hid (Rw (mm.set5 (w4.setCell ⟨w.heap.size, 3, none⟩ (.slice gL L.length kL)) (w.heap.size + 1) (.slice gS S.length kS) (.slice gH H.length kH) (.slice gF F.length kF) (.slice gL L.length kL) (.int .i64 now)) w.heap.size gS gH gF gL kS kH kF kL ⟨S, H, F, L, now⟩) := by
    have hR : (w4.setCell ⟨w.heap.size, 3, none⟩ (.slice gL L.length kL)).heap[w.heap.size + 1]? = _ := (Below.heap_setCell w4 ⟨w.heap.size, 3, none⟩ (.slice gL L.length kL) (w.heap.size + 1) (by show w.heap.size + 1 ≠ w.heap.size; omega)).trans HRx4.out
    have r : Rw (w4.setCell ⟨w.heap.size, 3, none⟩ (.slice gL L.length kL)) w.heap.size gS gH gF gL kS kH kF kL ⟨S, H, F, L, now⟩ :=
      ⟨own_box OSx4.out HBx4.out (by decide) _, own_box OHx4.out HBx4.out (by decide) _, own_box OFx4.out HBx4.out (by decide) _, own_box OLx4.out HBx4.out (by decide) _, DHF, DHL, DFL, by rw [World.size_setCell]; omega⟩
    exact r.set5 hR _ _ _ _ _
  clear OSx4 OHx4 OFx4 OLx4 HBx4 HRx4 z3
  go_wp2
  refine bodyPost_ret (v := .agg #[.slice gS S.length kS, .slice gH H.length kH, .slice gF F.length kF, .slice gL L.length kL, .int .i64 now]) (by simp [results, Try.results79, go_sem, r0, r1, r2, r3, r4]) rfl ⟨_, _, _, _, _, _, _, _, rfl, HF.out, ?_⟩
  exact (b4.setCell (Nat.le_refl _) _).trans (set5_below _ _ _ _ _ _ _ _ (by omega))





end Go.Proofs.Ytdbilofhcadmoab.mm

/- The contract of take on memory of one's own. -/
namespace Go.Proofs.Ytdbilofhcadmoab.mm
open Go.ChangeShapes Go.WideShapes Go.ChangeAt Go.RowKit Go.Joins Go.Deep Go.Sort
set_option linter.unusedVariables false

def set6 (w : World) (g o : Nat) (s : Sl) : World :=
  (((((w.setCell ⟨g, o, none⟩ (.int .i64 s.refs)).setCell ⟨g, o + 1, none⟩ (.int .i64 s.a)).setCell ⟨g, o + 2, none⟩ (.int .i64 s.b)).setCell ⟨g, o + 3, none⟩ (.int .i64 s.unt)).setCell ⟨g, o + 4, none⟩ (.bool s.inn)).setCell ⟨g, o + 5, none⟩ (.int .i64 s.next)

theorem encS_set6 (S : List Sl) (j : Nat) (h : j < S.length) (s : Sl) :
    ((((((encS S).set (j * 6) (.int .i64 s.refs)).set (j * 6 + 1) (.int .i64 s.a)).set (j * 6 + 2) (.int .i64 s.b)).set (j * 6 + 3) (.int .i64 s.unt)).set (j * 6 + 4) (.bool s.inn)).set (j * 6 + 5) (.int .i64 s.next) = encS (S.set j s) := by
  induction S generalizing j with
  | nil => simp at h
  | cons x S ih =>
    match j with
    | 0 => simp [encS_cons, Sl.enc]
    | j + 1 =>
      have := ih j (by simpa using h)
      rw [List.set_cons_succ, encS_cons, encS_cons, ← this]
      simp only [Sl.enc, List.cons_append, List.nil_append, show (j + 1) * 6 = j * 6 + 6 by omega, show j * 6 + 6 + 1 = j * 6 + 1 + 6 by omega, show j * 6 + 6 + 2 = j * 6 + 2 + 6 by omega, show j * 6 + 6 + 3 = j * 6 + 3 + 6 by omega, show j * 6 + 6 + 4 = j * 6 + 4 + 6 by omega, show j * 6 + 6 + 5 = j * 6 + 5 + 6 by omega, List.set_cons_succ]

theorem encS_set1 (S : List Sl) (j : Nat) (h : j < S.length) (r : Int) : (encS S).set (j * 6) (.int .i64 r) = encS (S.set j { S[j] with refs := r }) := by
  induction S generalizing j with
  | nil => simp at h
  | cons x S ih =>
    match j with
    | 0 => simp [encS_cons, Sl.enc]
    | j + 1 =>
      have := ih j (by simpa using h)
      rw [List.set_cons_succ, encS_cons, encS_cons, List.getElem_cons_succ, ← this]
      simp only [Sl.enc, List.cons_append, List.nil_append, show (j + 1) * 6 = j * 6 + 6 by omega, List.set_cons_succ]

theorem Mine.set6 {w : World} {B lo g j : Nat} {aH aF aL : Option Addr} {cS cH cF cL : Nat} {M : Mm} (m : Mine w B lo (some ⟨g, 0, none⟩) aH aF aL cS cH cF cL M) (h : j < M.slots.length) (s : Sl) :
    Mine (mm.set6 w g (j * 6) s) B lo (some ⟨g, 0, none⟩) aH aF aL cS cH cF cL { M with slots := M.slots.set j s } := by
  obtain ⟨hB, ⟨hs, hh, f, l, hf, hl', fl, lz⟩, m1, m2, m3, m4⟩ := m
  have hg : (Value.slice (some ⟨g, 0, none⟩) M.slots.length cS).ownBlock = some g := rfl
  have ne : ∀ {v : Value} {n : Nat} {xs : List Value}, w.ownsRow lo 3 1 v n xs → v.ownBlock ≠ some g := fun h e => own_dj h hs (by decide) g e hg
  have oth : ∀ {v : Value} {n : Nat} {xs : List Value}, w.ownsRow lo 3 1 v n xs → (mm.set6 w g (j * 6) s).ownsRow lo 3 1 v n xs := fun h => by
    have := ne h
    unfold mm.set6
    iterate 6 (refine ownsRow_setCell_other ?_ this _)
    exact h
  have hne : B ≠ g := fun e => own_ne hs hB (by decide) (by rw [hg, e])
  refine ⟨?_, ⟨?_, oth hh, oth f, oth l, hf, hl', fl, by simp only [mm.set6, World.size_setCell]; exact lz⟩, by dsimp only; rw [List.length_set]; exact m1, m2, m3, m4⟩
  · dsimp only
    rw [List.length_set]
    unfold mm.set6
    repeat rw [Below.heap_setCell _ _ _ _ (by dsimp only; exact hne)]
    exact hB
  · dsimp only
    rw [List.length_set, ← encS_set6 M.slots j h s]
    unfold mm.set6
    exact ((((((hs.stored _ _).1.stored _ _).1.stored _ _).1.stored _ _).1.stored _ _).1.stored _ _).1
theorem Kept.set6 {w w1 : World} {B lo g o : Nat} (h : Kept w w1 B lo) (hg : lo ≤ g) (s : Sl) : Kept w (mm.set6 w1 g o s) B lo := by
  unfold mm.set6
  iterate 6 (refine Kept.setCell ?_ hg _)
  exact h

theorem row_cells {w : World} {lo g n cap : Nat} {S : List Sl} (h : w.ownsRow lo 39 6 (.slice (some ⟨g, 0, none⟩) n cap) n (encS S)) {j : Nat} (hj : j < S.length) :
    w.cell? ⟨g, j * 6, none⟩ = some (.int .i64 S[j].refs) ∧ w.cell? ⟨g, j * 6 + 1, none⟩ = some (.int .i64 S[j].a) ∧ w.cell? ⟨g, j * 6 + 2, none⟩ = some (.int .i64 S[j].b) ∧
    w.cell? ⟨g, j * 6 + 3, none⟩ = some (.int .i64 S[j].unt) ∧ w.cell? ⟨g, j * 6 + 4, none⟩ = some (.bool S[j].inn) ∧ w.cell? ⟨g, j * 6 + 5, none⟩ = some (.int .i64 S[j].next) ∧ ∀ q, w.frozen? ⟨g, q, none⟩ = false := by
  have hn : S.length * 6 = n * 6 := by rw [← h.1, encS_len]
  have e : ∀ q, q < 6 → w.cell? ⟨g, j * 6 + q, none⟩ = (S[j].enc)[q]? := fun q hq => by
    rw [h.cellAt _ (by omega), encS_get S j q hj hq]
  exact ⟨e 0 (by omega), e 1 (by omega), e 2 (by omega), e 3 (by omega), e 4 (by omega), e 5 (by omega), fun q => h.frozenAt q⟩
theorem row_cell {w : World} {lo g n cap : Nat} {l : List Int} (h : w.ownsRow lo 3 1 (.slice (some ⟨g, 0, none⟩) n cap) n (encI l)) {j : Nat} (hj : j < l.length) :
    w.cell? ⟨g, j, none⟩ = some (.int .i64 l[j]) ∧ w.frozen? ⟨g, j, none⟩ = false := by
  have hn : l.length = n * 1 := by rw [← h.1, encI_len]
  exact ⟨by rw [h.cellAt _ (by omega)]; simp [encI, hj], h.frozenAt j⟩
theorem row_form {w : World} {lo size n cap : Nat} {ao : Option Addr} {e : TypeId} {xs : List Value} (h : w.ownsRow lo e size (.slice ao n cap) n xs) (hn : 0 < n) : ∃ g, ao = some ⟨g, 0, none⟩ ∧ lo ≤ g ∧ g < w.heap.size ∧ n ≤ cap ∧ cap ≤ 9223372036854775807 := by
  rcases h.2 with ⟨_, h0⟩ | ⟨g, cap', cur, hv, hg, hb, hc, hm, _⟩
  · omega
  · injection hv with h1 _ h3
    subst h1 h3
    exact ⟨g, rfl, hg, lt_of_block hb, hc, by unfold maxLen at hm; exact hm⟩

set_option maxHeartbeats 1600000 in
theorem take_in (w : World) (B lo gS gF n j cS cH cF cL : Nat) (aH aL : Option Addr) (M : Mm) (ka kb u : Int)
    (m : Mine w B lo (some ⟨gS, 0, none⟩) aH (some ⟨gF, 0, none⟩) aL cS cH cF cL M) (hF : M.free.length = n + 1) (hj : j < M.slots.length) (hx : M.free[n]'(by omega) = j) (hn : n + 1 ≤ cF) (hc : cF ≤ 9223372036854775807) :
    Calls Try.prog 140 #[.pointer (some ⟨B, 0, none⟩), .agg #[.int .i64 ka, .int .i64 kb], .int .i64 u] w fun e w' => e = .returned (.tuple #[.int .i64 j, .bool true]) ∧
      ∃ w1, Below w.heap.size w w1 ∧ w' = (mm.set6 (w1.setCell ⟨B, 2, none⟩ (.slice (some ⟨gF, 0, none⟩) n cF)) gS (j * 6) ⟨1, ka, kb, u, false, M.slots[j].next⟩).drew := by
  have hn' : n ≤ cF := by omega
  have hS : M.slots.length ≤ 9223372036854775807 := by have := m.m1; omega
  have hv : inB (j : Int) 0 ((M.slots.length : Int) - 1) = true := (inB_iff _ _ _).2 (by omega)
  have HHs : Hid (∀ W : World, Calls Try.prog 78 #[.agg #[.slice (some ⟨gS, 0, none⟩) M.slots.length cS, .slice aH M.heads.length cH, .slice (some ⟨gF, 0, none⟩) M.free.length cF, .slice aL M.locks.length cL, .int .i64 M.now], .int .i64 j] W fun e w' => e = .returned (.bool true) ∧ Below W.heap.size W w') := fun W => hv ▸ isSlot_any _ aH _ aL _ _ _ _ cS cH cF cL M.now j W hS
  obtain ⟨s, hs⟩ : ∃ s, s = M.slots[j] := ⟨_, rfl⟩
  have HS : Hid (M.slots[j] = s) := hs.symm
  have HX : Hid (∀ W, Mine W B lo (some ⟨gS, 0, none⟩) aH (some ⟨gF, 0, none⟩) aL cS cH cF cL M → (W.cell? ⟨gS, j * 6, none⟩ = some (.int .i64 s.refs) ∧ W.cell? ⟨gS, j * 6 + 1, none⟩ = some (.int .i64 s.a) ∧ W.cell? ⟨gS, j * 6 + 2, none⟩ = some (.int .i64 s.b) ∧ W.cell? ⟨gS, j * 6 + 3, none⟩ = some (.int .i64 s.unt) ∧ W.cell? ⟨gS, j * 6 + 4, none⟩ = some (.bool s.inn) ∧ W.cell? ⟨gS, j * 6 + 5, none⟩ = some (.int .i64 s.next) ∧ ∀ q, W.frozen? ⟨gS, q, none⟩ = false) ∧ W.cell? ⟨gF, n, none⟩ = some (.int .i64 j)) := fun W m' => by
    have := (row_cell m'.c.f (j := n) (by omega)).1
    rw [hx] at this
    rw [hs]
    exact ⟨row_cells m'.c.s hj, this⟩
  have HD : Hid (∀ W, Mine W B lo (some ⟨gS, 0, none⟩) aH (some ⟨gF, 0, none⟩) aL cS cH cF cL M → B ≠ gS ∧ B ≠ gF ∧ gS < W.heap.size ∧ gF < W.heap.size ∧ W.heap[B]? = some (.cells #[.slice (some ⟨gS, 0, none⟩) M.slots.length cS, .slice aH M.heads.length cH, .slice (some ⟨gF, 0, none⟩) M.free.length cF, .slice aL M.locks.length cL, .int .i64 M.now] 25 (0, 0))) := fun W m' =>
    ⟨(fun e => own_ne m'.c.s m'.box (by decide) (by rw [e]; rfl)), (fun e => own_ne m'.c.f m'.box (by decide) (by rw [e]; rfl)), (m'.c.s.lt _ rfl).2, (m'.c.f.lt _ rfl).2, m'.box⟩
  obtain ⟨ok, hok⟩ : ∃ o : Obj, o = .cells #[.int .i64 ka, .int .i64 kb] 37 := ⟨_, rfl⟩
  have HM : Hid (Mine (w.alloc ok) B lo (some ⟨gS, 0, none⟩) aH (some ⟨gF, 0, none⟩) aL cS cH cF cL M) := m.below (one_below _ _)
  have HB : Hid (Below w.heap.size w (w.alloc ok)) := one_below _ _
  have HK : Hid ((w.alloc ok).heap[w.heap.size]? = some (.cells #[.int .i64 ka, .int .i64 kb] 37 (0, 0))) := hok ▸ heap_alloc_new w ok
  obtain ⟨-, -, -, -, hB⟩ := HD.out _ m
  obtain ⟨-, -, q2, -, -, -, -, -, -, -, qs⟩ := boxf hB
  rw [hF] at q2
  have hnl : n < M.free.length := by omega
  have HFl : Hid (M.free.length = n + 1) := hF
  have HQ : Hid (w.heap.size ≠ B) := by show _ ≠ _; omega
  clear m hx hv hB hs hF
  go_enter Try.func140, Try.ntmps140
  go_wp2_with fail
  rw [← hok]
  clear q2 qs
  generalize w.alloc ok = W0 at *
  clear hok
  obtain ⟨d1, d2, l1, l2, hB⟩ := HD.out _ HM.out
  obtain ⟨q0, q1, q2, q3, q4, -, -, -, -, -, qs⟩ := boxf hB
  obtain ⟨-, cx⟩ := HX.out _ HM.out
  have cB : ∀ (d : Nat) (os : Array Obj), Calls Try.prog 78 #[.agg #[.slice (some ⟨gS, 0, none⟩) M.slots.length cS, .slice aH M.heads.length cH, .slice (some ⟨gF, 0, none⟩) M.free.length cF, .slice aL M.locks.length cL, .int .i64 M.now], .int .i64 j] (grow (redrawn W0 d) os) fun e w'' => e = .returned (.bool true) ∧ ∃ p : Regrown, w'' = grow (redrawn W0 p.d) p.os := fun d os => Calls.regrown_of (HHs.out _)
  have Q0 := cell_regrown q0; have Q1 := cell_regrown q1; have Q2 := cell_regrown q2; have Q3 := cell_regrown q3; have Q4 := cell_regrown q4; have QX := cell_regrown cx
  clear q0 q1 q2 q3 q4 qs cx hB
  refine wp_region_quiet_below (by kernel_rfl) (by kernel_rfl) ?_
  repeat (quiet_step (first | exact cB _ _))
  refine wpQuiet_nil ?_
  intro _ hw'
  obtain ⟨⟨dq, osq⟩, hw''⟩ := hw'
  subst hw''
  have HB1 : Hid _ := below_regrown W0 dq osq
  generalize grow (redrawn W0 dq) osq = w1 at *
  clear cB Q0 Q1 Q2 Q3 Q4 QX d1 d2 l1 l2 HHs
  have HM1 : Hid (Mine w1 B lo (some ⟨gS, 0, none⟩) aH (some ⟨gF, 0, none⟩) aL cS cH cF cL M) := HM.out.below HB1.out
  have HK1 : Hid (w1.heap[w.heap.size]? = some (.cells #[.int .i64 ka, .int .i64 kb] 37 (0, 0))) := (HB1.out.block _ (lt_of_block HK.out)).trans HK.out
  have HB2 : Hid (Below w.heap.size w w1) := HB.out.trans (HB1.out.mono HB.out.size)
  clear HB1 HM HK HB
  have HM2 : Hid (Mine (w1.setCell ⟨B, 2, none⟩ (.slice (some ⟨gF, 0, none⟩) n cF)) B lo (some ⟨gS, 0, none⟩) aH (some ⟨gF, 0, none⟩) aL cS cH cF cL { M with free := M.free.take n }) := HM1.out.pop HFl.out
  have HK2 : Hid ((w1.setCell ⟨B, 2, none⟩ (.slice (some ⟨gF, 0, none⟩) n cF)).heap[w.heap.size]? = some (.cells #[.int .i64 ka, .int .i64 kb] 37 (0, 0))) := (Below.heap_setCell _ _ _ _ (by dsimp only; exact HQ.out)).trans HK1.out
  have HW : Hid (∃ w2, Below w.heap.size w w2 ∧ w1.setCell ⟨B, 2, none⟩ (.slice (some ⟨gF, 0, none⟩) n cF) = w2.setCell ⟨B, 2, none⟩ (.slice (some ⟨gF, 0, none⟩) n cF)) := ⟨w1, HB2.out, rfl⟩
  obtain ⟨d1, d2, l1, l2, hB⟩ := HD.out _ HM1.out
  obtain ⟨q0, q1, q2, q3, q4, f0, f1, f2, f3, f4, qs⟩ := boxf hB
  obtain ⟨-, cx⟩ := HX.out _ HM1.out
  clear hB HD HX HM1 HK1 HB2
  go_wp2
  clear q0 q1 q2 q3 q4 f0 f1 f2 f3 f4 qs cx l1 l2
  generalize w1.setCell ⟨B, 2, none⟩ (.slice (some ⟨gF, 0, none⟩) n cF) = w2 at *
  obtain ⟨q0, -, -, -, -, -, -, -, -, -, qs⟩ := boxf HM2.out.box
  have l1 : gS < w2.heap.size := (HM2.out.c.s.lt _ rfl).2
  obtain ⟨c0, c1, c2, c3, c4, c5, hfz⟩ := row_cells HM2.out.c.s (j := j) hj
  dsimp only at q0 c0 c1 c2 c3 c4 c5
  rw [HS.out] at c0 c1 c2 c3 c4 c5
  have k0 : w2.cell? ⟨w.heap.size, 0, none⟩ = some (.int .i64 ka) := by rw [cell_of_block HK2.out]; rfl
  have k1 : w2.cell? ⟨w.heap.size, 1, none⟩ = some (.int .i64 kb) := by rw [cell_of_block HK2.out]; rfl
  have ks := lt_of_block HK2.out
  clear HM2 HK2 HQ HFl
  go_region
  all_goals go_wp2
  all_goals go_ret2
  all_goals
    obtain ⟨w3, h3, h4⟩ := HW.out
    subst h4
    exact ⟨rfl, w3, h3, by rw [HS.out]; rfl⟩

theorem take_no (w : World) (B : Nat) (sv hv lv nv : Value) (aF : Option Addr) (cF : Nat) (ka kb u : Int)
    (hB : w.heap[B]? = some (.cells #[sv, hv, .slice aF 0 cF, lv, nv] 25 (0, 0))) :
    Calls Try.prog 140 #[.pointer (some ⟨B, 0, none⟩), .agg #[.int .i64 ka, .int .i64 kb], .int .i64 u] w fun e w' => e = .returned (.tuple #[.int .i64 0, .bool false]) ∧ Below w.heap.size w w' := by
  obtain ⟨q0, q1, q2, q3, q4, f0, f1, f2, f3, f4, qs⟩ := boxf hB
  clear hB
  go_enter Try.func140, Try.ntmps140
  go_wp2_with fail
  go_quiet (fail)
  go_wp2
  go_ret2
  exact ⟨rfl, (one_below _ _).trans ⟨rfl, rfl, rfl, Nat.le_refl _, fun _ _ => rfl⟩⟩

theorem Mine.ne_s {w : World} {B lo g : Nat} {aH aF aL : Option Addr} {cS cH cF cL : Nat} {M : Mm} (m : Mine w B lo (some ⟨g, 0, none⟩) aH aF aL cS cH cF cL M) : B ≠ g :=
  fun e => own_ne m.c.s m.box (by decide) (by rw [e]; rfl)
theorem Mine.ne_h {w : World} {B lo g : Nat} {aS aF aL : Option Addr} {cS cH cF cL : Nat} {M : Mm} (m : Mine w B lo aS (some ⟨g, 0, none⟩) aF aL cS cH cF cL M) : B ≠ g :=
  fun e => own_ne m.c.h m.box (by decide) (by rw [e]; rfl)
theorem Mine.ne_f {w : World} {B lo g : Nat} {aS aH aL : Option Addr} {cS cH cF cL : Nat} {M : Mm} (m : Mine w B lo aS aH (some ⟨g, 0, none⟩) aL cS cH cF cL M) : B ≠ g :=
  fun e => own_ne m.c.f m.box (by decide) (by rw [e]; rfl)
theorem Mine.ne_l {w : World} {B lo g : Nat} {aS aH aF : Option Addr} {cS cH cF cL : Nat} {M : Mm} (m : Mine w B lo aS aH aF (some ⟨g, 0, none⟩) cS cH cF cL M) : B ≠ g :=
  fun e => own_ne m.c.l m.box (by decide) (by rw [e]; rfl)

theorem take_now (M : Mm) (w : World) (B lo : Nat) (aS aH aF aL : Option Addr) (cS cH cF cL : Nat) (ka kb u : Int) (m : Mine w B lo aS aH aF aL cS cH cF cL M) (hF : 0 < M.free.length) (h0 : 0 ≤ lastF M) (h1 : lastF M < M.slots.length) :
    Calls Try.prog 140 #[.pointer (some ⟨B, 0, none⟩), .agg #[.int .i64 ka, .int .i64 kb], .int .i64 u] w fun e w' => e = .returned (.tuple #[.int .i64 (lastF M), .bool true]) ∧ Now w w' B lo (takeM M ka kb u) := by
  obtain ⟨gS, rfl, oS, lS, -, -⟩ := row_form m.c.s (by omega)
  obtain ⟨gF, rfl, oF, lF, kF, kF2⟩ := row_form m.c.f hF
  obtain ⟨n, hn⟩ : ∃ n, M.free.length = n + 1 := ⟨M.free.length - 1, by omega⟩
  have hnF : n < M.free.length := by omega
  have hlast : lastF M = M.free[n] := by
    show M.free.getD (M.free.length - 1) 0 = _
    rw [show M.free.length - 1 = n by omega]
    simp [List.getD_eq_getElem?_getD, hnF]
  obtain ⟨j, hj⟩ : ∃ j : Nat, lastF M = j := ⟨(lastF M).toNat, by omega⟩
  have hFj : M.free[n] = j := hlast.symm.trans hj
  have hjS : j < M.slots.length := by omega
  have hT : takeM M ka kb u = { M with slots := M.slots.set j ⟨1, ka, kb, u, false, M.slots[j].next⟩, free := M.free.take n } := by
    unfold takeM
    rw [hj, show M.free.length - 1 = n by omega]
    simp [List.getD_eq_getElem?_getD, hjS]
  rw [hT, hj]
  obtain ⟨c0, c1, c2, c3, c4, c5, fz⟩ := row_cells m.c.s hjS
  have cx := (row_cell m.c.f hnF).1
  rw [hFj] at cx
  refine (take_in w B lo gS gF n j cS cH cF cL aH aL M ka kb u m hn hjS hFj (by omega) kF2).mono ?_
  rintro e w' ⟨rfl, w1, hb1, rfl⟩
  have m1 := m.below hb1
  have mp := (m1.pop hn).set6 (j := j) hjS ⟨1, ka, kb, u, false, M.slots[j].next⟩
  have kp : Kept w _ B lo := (((Kept.refl w B lo).below hb1 m.c.lz).setBox (.slice (some ⟨gF, 0, none⟩) n cF) (j := 2)).set6 (o := j * 6) oS ⟨1, ka, kb, u, false, M.slots[j].next⟩
  generalize mm.set6 (w1.setCell ⟨B, 2, none⟩ (.slice (some ⟨gF, 0, none⟩) n cF)) gS (j * 6) ⟨1, ka, kb, u, false, M.slots[j].next⟩ = W at *
  have hb : Below W.heap.size W W.drew := (Below.refl _ _).drew
  exact ⟨rfl, _, _, _, _, _, _, _, _, mp.below hb, kp.below hb mp.c.lz⟩

theorem take_any (M : Mm) (w : World) (B lo : Nat) (aS aH aF aL : Option Addr) (cS cH cF cL : Nat) (ka kb u : Int) (m : Mine w B lo aS aH aF aL cS cH cF cL M) (hF : 0 < M.free.length) (h0 : 0 ≤ lastF M) (h1 : lastF M < M.slots.length) :
    Calls Try.prog 140 #[.pointer (some ⟨B, 0, none⟩), .agg #[.int .i64 ka, .int .i64 kb], .int .i64 u] w fun e w' => e = .returned (.tuple #[.int .i64 (lastF M), .bool true]) ∧ Done w w' B lo (takeM M ka kb u) := by
  refine (take_now M w B lo aS aH aF aL cS cH cF cL ka kb u m hF h0 h1).mono ?_
  rintro e w' ⟨rfl, h⟩
  exact ⟨rfl, h.done⟩





end Go.Proofs.Ytdbilofhcadmoab.mm

/- The contracts of hold and put on memory of one's own. -/
namespace Go.Proofs.Ytdbilofhcadmoab.mm
open Go.ChangeShapes Go.WideShapes Go.ChangeAt Go.RowKit Go.Joins
set_option linter.unusedVariables false

theorem hold_no (w : World) (B gS nS j cS : Nat) (hv fv lv nv : Value) (r : Int)
    (hB : w.heap[B]? = some (.cells #[.slice (some ⟨gS, 0, none⟩) nS cS, hv, fv, lv, nv] 25 (0, 0))) (hj : j < nS) (c0 : w.cell? ⟨gS, j * 6, none⟩ = some (.int .i64 r)) (hr : r = 0 ∨ r = 1000) :
    Calls Try.prog 150 #[.pointer (some ⟨B, 0, none⟩), .int .i64 j] w fun e w' => e = .returned (.bool false) ∧ w = w' := by
  obtain ⟨q0, q1, q2, q3, q4, f0, f1, f2, f3, f4, qs⟩ := boxf hB
  clear hB
  rcases hr with rfl | rfl
  all_goals
    go_enter Try.func150, Try.ntmps150
    go_wp2
    go_ret
    exact ⟨rfl, rfl⟩

theorem hold_yes (w : World) (B gS nS j cS : Nat) (hv fv lv nv : Value) (r : Int)
    (hB : w.heap[B]? = some (.cells #[.slice (some ⟨gS, 0, none⟩) nS cS, hv, fv, lv, nv] 25 (0, 0))) (hj : j < nS) (c0 : w.cell? ⟨gS, j * 6, none⟩ = some (.int .i64 r)) (f0 : w.frozen? ⟨gS, j * 6, none⟩ = false) (h0 : 0 < r) (h1 : r < 1000) :
    Calls Try.prog 150 #[.pointer (some ⟨B, 0, none⟩), .int .i64 j] w fun e w' => e = .returned (.bool true) ∧ w.setCell ⟨gS, j * 6, none⟩ (.int .i64 (r + 1)) = w' := by
  obtain ⟨q0, q1, q2, q3, q4, -, -, -, -, -, qs⟩ := boxf hB
  clear hB
  have e0 : (r == 0) = false := by rw [beq_eq_false_iff_ne]; omega
  have e1 : (r == 1000) = false := by rw [beq_eq_false_iff_ne]; omega
  go_enter Try.func150, Try.ntmps150
  go_wp2
  go_ret
  exact ⟨rfl, rfl⟩

theorem put_no (w : World) (B gS nS j cS : Nat) (hv fv lv nv : Value)
    (hB : w.heap[B]? = some (.cells #[.slice (some ⟨gS, 0, none⟩) nS cS, hv, fv, lv, nv] 25 (0, 0))) (hj : j < nS) (c0 : w.cell? ⟨gS, j * 6, none⟩ = some (.int .i64 0)) :
    Calls Try.prog 107 #[.pointer (some ⟨B, 0, none⟩), .int .i64 j] w fun e w' => e = .returned (.bool false) ∧ w = w' := by
  obtain ⟨q0, q1, q2, q3, q4, f0, f1, f2, f3, f4, qs⟩ := boxf hB
  clear hB
  go_enter Try.func107, Try.ntmps107
  go_wp2
  go_ret
  exact ⟨rfl, rfl⟩

theorem put_more (w : World) (B gS nS j cS : Nat) (hv fv lv nv : Value) (r : Int)
    (hB : w.heap[B]? = some (.cells #[.slice (some ⟨gS, 0, none⟩) nS cS, hv, fv, lv, nv] 25 (0, 0))) (hj : j < nS) (c0 : w.cell? ⟨gS, j * 6, none⟩ = some (.int .i64 r)) (f0 : w.frozen? ⟨gS, j * 6, none⟩ = false) (h0 : 1 < r) (h1 : r ≤ 1000) :
    Calls Try.prog 107 #[.pointer (some ⟨B, 0, none⟩), .int .i64 j] w fun e w' => e = .returned (.bool true) ∧ w.setCell ⟨gS, j * 6, none⟩ (.int .i64 (r - 1)) = w' := by
  obtain ⟨q0, q1, q2, q3, q4, -, -, -, -, -, qs⟩ := boxf hB
  clear hB
  have e0 : (r == 0) = false := by rw [beq_eq_false_iff_ne]; omega
  have e1 : (r - 1 == 0) = false := by rw [beq_eq_false_iff_ne]; omega
  go_enter Try.func107, Try.ntmps107
  go_wp2
  go_ret
  exact ⟨rfl, rfl⟩

theorem one_new (w : World) (v : Value) (t : TypeId) (n : Nat) (hn : n = w.heap.size) : ∀ (j : Nat) (u : Value), ([v] : List Value)[j]? = some u → (w.alloc (.cells #[v] t)).cell? ((⟨n, 0, none⟩ : Addr).add j) = some u := by
  subst hn
  intro j u hj
  match j, hj with
  | 0, hj => simp at hj; subst hj; simp [Addr.add]

theorem box_after {w w1 : World} {B gS o : Nat} {row : Option Nat} {u v : Value} {ob : Obj} (hg : ((w.setCell ⟨gS, o, none⟩ u).alloc ob).grownBy w1 row) (q2 : w.cell? ⟨B, 2, none⟩ = some v) (f2 : w.frozen? ⟨B, 2, none⟩ = false) (h1 : B ≠ gS) (h2 : row ≠ some B) (hB : B < w.heap.size) :
    w1.cell? ⟨B, 2, none⟩ = some v ∧ w1.frozen? ⟨B, 2, none⟩ = false := by
  have hk : w1.heap[B]? = w.heap[B]? := by
    rw [hg.block B (by simp; omega) (fun e => h2 e.symm), Below.heap_alloc _ _ _ (by simp; omega), Below.heap_setCell _ _ _ _ (by dsimp only; exact h1)]
  exact ⟨(World.cell?_of_block (a := ⟨B, 2, none⟩) hk).trans q2, (World.frozen?_of_block (a := ⟨B, 2, none⟩) hk).trans f2⟩

theorem clip_at (ao : Option Addr) (n cap : Nat) (w : World) (h : n ≤ cap) (hnil : ao = none → n = 0 ∧ cap = 0) :
    Calls Try.prog 152 #[.slice ao n cap] w fun e w' => e = .returned (.slice ao n n) ∧ w = w' := by
  cases ao with
  | none =>
    obtain ⟨rfl, rfl⟩ := hnil rfl
    go_enter Try.func152, Try.ntmps152
    go_wp2
    go_ret
    exact ⟨rfl, rfl⟩
  | some ad =>
    go_enter Try.func152, Try.ntmps152
    go_wp2
    go_ret
    exact ⟨rfl, rfl⟩

/- The free ones lie in a row that is new; its slice is stored. -/
theorem Mine.newF {w w1 : World} {B lo n : Nat} {aS aH aF aL a' : Option Addr} {cS cH cF cL c' : Nat} {M : Mm} (m : Mine w B lo aS aH aF aL cS cH cF cL M) (F' : List Int) (hm : F'.length * 8 ≤ 140737488351000)
    (hb : Below w.heap.size w w1) (hn : F'.length = n) (ho : w1.ownsRow w.heap.size 3 1 (.slice a' n c') n (encI F')) :
    Mine (w1.setCell ⟨B, 2, none⟩ (.slice a' n c')) B lo aS aH a' aL cS cH c' cL { M with free := F' } := by
  subst hn
  have dh := dj_new m.c.h ho (Nat.le_refl _)
  have dl := dj_new m.c.l ho (Nat.le_refl _)
  obtain ⟨hB, ⟨s, h, f, l, hf, hl, fl, lz⟩, m1, m2, m3, m4⟩ := m.below hb
  refine ⟨?_, ⟨own_box s hB (by decide) _, own_box h hB (by decide) _, own_box (ownsRow_le ho m.c.lz) hB (by decide) _, own_box l hB (by decide) _, dh, hl, dl.symm, by rw [World.size_setCell]; exact lz⟩, m1, m2, hm, m4⟩
  have := block_setCell (i := 2) hB (.slice a' F'.length c')
  simpa using this

set_option maxHeartbeats 1600000 in
theorem put_last (w : World) (B gS nS j cS cF : Nat) (aF : Option Addr) (F : List Int) (hv lv nv : Value)
    (hB : w.heap[B]? = some (.cells #[.slice (some ⟨gS, 0, none⟩) nS cS, hv, .slice aF F.length cF, lv, nv] 25 (0, 0))) (hj : j < nS) (c0 : w.cell? ⟨gS, j * 6, none⟩ = some (.int .i64 1)) (f0 : w.frozen? ⟨gS, j * 6, none⟩ = false)
    (hne : B ≠ gS) (hO : IRow (w.setCell ⟨gS, j * 6, none⟩ (.int .i64 0)) aF cF F) (hm : F.length * 8 ≤ 140737488350000) :
    Calls Try.prog 107 #[.pointer (some ⟨B, 0, none⟩), .int .i64 j] w fun e w' => e = .returned (.bool true) ∧ ∃ a' c' w1, Below w.heap.size (w.setCell ⟨gS, j * 6, none⟩ (.int .i64 0)) w1 ∧
      w1.ownsRow w.heap.size 3 1 (.slice a' (F.length + 1) c') (F.length + 1) (encI (F ++ [(j : Int)])) ∧ w1.setCell ⟨B, 2, none⟩ (.slice a' (F.length + 1) c') = w' := by
  obtain ⟨q0, q1, q2, q3, q4, -, -, f2, -, -, qs⟩ := boxf hB
  obtain ⟨i0, hi, hz0, hz1, hz2⟩ := info_parts iI
  have hne' : (⟨gS, j * 6, none⟩ : Addr) ≠ ⟨B, 2, none⟩ := by intro h; injection h with h; omega
  have HO : Hid (IRow (w.setCell ⟨gS, j * 6, none⟩ (.int .i64 0)) aF cF F) := hO
  have HN : Hid (aF = none → F.length = 0 ∧ cF = 0) := fun h => ⟨by have := HO.out.nil h; have := HO.out.le; omega, HO.out.nil h⟩
  have HN2 : Hid (aF = none → F.length = 0 ∧ F.length = 0) := fun h => ⟨(HN.out h).1, (HN.out h).1⟩
  have HSr : Hid (∀ ad, aF = some ad → ∀ j' u, (encI F)[j']? = some u → ((w.setCell ⟨gS, j * 6, none⟩ (.int .i64 0)).alloc (.cells #[.int .i64 j] 3)).cell? (ad.add j') = some u) := (HO.out.below (one_below _ _)).src
  have HE : Hid ((encI F).length = F.length * 1) := by show _ = _; rw [encI_len, Nat.mul_one]
  have HLe : Hid (F.length ≤ cF) := HO.out.le
  have HMx : Hid (F.length ≤ 9223372036854775807) := by show _ ≤ _; omega
  clear hB hO
  go_enter Try.func107, Try.ntmps107
  go_wp2_with (first
    | (go_at_call 152; refine (clip_at aF F.length cF _ HLe.out HN.out).mono ?_; rintro e w' ⟨rfl, rfl⟩)
    | (at_builtin; (refine wpList_append_grows _ rfl _ _ 23 rfl 3 i0 (.int .i64 0) 1 8 Try.underlying23 hi hz0 hz1 hz2 rfl (by decide) aF F.length F.length (encI F) rfl HN2.out HE.out HSr.out ⟨w.heap.size, 0, none⟩ 1 1 [.int .i64 j] rfl rfl (one_new _ _ _ _ (World.size_setCell ..).symm) (by intro u hu; simp at hu; subst hu; rfl) (by omega) (by unfold maxLen; omega) (by omega) ?_; intro v w1 hown1 hgrow1; obtain ⟨g, cap, rfl⟩ := ownsRow_form hown1 (by omega); have HO1 : Hid (w1.ownsRow ((w.setCell ⟨gS, j * 6, none⟩ (.int .i64 0)).alloc (.cells #[.int .i64 j] 3)).heap.size 3 1 (.slice (some ⟨g, 0, none⟩) (F.length + 1) cap) (F.length + 1) (encI F ++ [.int .i64 j])) := hown1; have HG1 : Hid (((w.setCell ⟨gS, j * 6, none⟩ (.int .i64 0)).alloc (.cells #[.int .i64 j] 3)).grownBy w1 none) := hgrow1; clear hown1 hgrow1; obtain ⟨r2, r3⟩ := box_after HG1.out q2 f2 hne (by simp) qs)))
  go_ret
  refine ⟨rfl, _, _, w1, ?_, ?_, rfl⟩
  · exact ((Below.refl _ _).alloc (by simp) _).grown HG1.out (by simp) (fun k h => by cases h)
  · have := ownsRow_le (base' := w.heap.size) HO1.out (by simp)
    rwa [show encI F ++ [.int .i64 (j : Int)] = encI (F ++ [(j : Int)]) by simp [encI]] at this

theorem setRefs_at (M : Mm) (j : Nat) (hj : j < M.slots.length) (r : Int) : setRefs M j r = M.slots.set j { M.slots[j] with refs := r } := by
  simp [setRefs, List.getD_eq_getElem?_getD, hj]
theorem refsM_at (M : Mm) (j : Nat) (hj : j < M.slots.length) : refsM M j = M.slots[j].refs := by
  simp [refsM, List.getD_eq_getElem?_getD, hj]

theorem hold_fail (M : Mm) (w : World) (B lo : Nat) (aS aH aF aL : Option Addr) (cS cH cF cL : Nat) (i : Int) (m : Mine w B lo aS aH aF aL cS cH cF cL M) (h0 : 0 ≤ i) (h1 : i < M.slots.length) (hr : refsM M i = 0 ∨ refsM M i = 1000) :
    Calls Try.prog 150 #[.pointer (some ⟨B, 0, none⟩), .int .i64 i] w fun e w' => e = .returned (.bool false) ∧ w = w' := by
  obtain ⟨j, rfl⟩ : ∃ j : Nat, i = j := ⟨i.toNat, by omega⟩
  have hj : j < M.slots.length := by omega
  obtain ⟨gS, rfl, -, -, -, -⟩ := row_form m.c.s (by omega)
  rw [refsM_at M j hj] at hr
  exact hold_no w B gS _ j cS _ _ _ _ _ m.box hj (row_cells m.c.s hj).1 hr

theorem put_fail (M : Mm) (w : World) (B lo : Nat) (aS aH aF aL : Option Addr) (cS cH cF cL : Nat) (i : Int) (m : Mine w B lo aS aH aF aL cS cH cF cL M) (h0 : 0 ≤ i) (h1 : i < M.slots.length) (hr : refsM M i = 0) :
    Calls Try.prog 107 #[.pointer (some ⟨B, 0, none⟩), .int .i64 i] w fun e w' => e = .returned (.bool false) ∧ w = w' := by
  obtain ⟨j, rfl⟩ : ∃ j : Nat, i = j := ⟨i.toNat, by omega⟩
  have hj : j < M.slots.length := by omega
  obtain ⟨gS, rfl, -, -, -, -⟩ := row_form m.c.s (by omega)
  rw [refsM_at M j hj] at hr
  exact put_no w B gS _ j cS _ _ _ _ m.box hj (hr ▸ (row_cells m.c.s hj).1)

/- A slot's Refs are turned, nothing else. -/
theorem turned {M : Mm} {w : World} {B lo g j : Nat} {aH aF aL : Option Addr} {cS cH cF cL : Nat} (m : Mine w B lo (some ⟨g, 0, none⟩) aH aF aL cS cH cF cL M) (hj : j < M.slots.length) (r : Int) :
    Mine (w.setCell ⟨g, j * 6, none⟩ (.int .i64 r)) B lo (some ⟨g, 0, none⟩) aH aF aL cS cH cF cL { M with slots := setRefs M j r } := by
  rw [setRefs_at M j hj r]
  exact m.setS _ _ _ (encS_set1 M.slots j hj r)

theorem hold_now (M : Mm) (w : World) (B lo : Nat) (aS aH aF aL : Option Addr) (cS cH cF cL : Nat) (i : Int) (m : Mine w B lo aS aH aF aL cS cH cF cL M) (h0 : 0 ≤ i) (h1 : i < M.slots.length) (hr : 0 < refsM M i) (hr1 : refsM M i < 1000) :
    Calls Try.prog 150 #[.pointer (some ⟨B, 0, none⟩), .int .i64 i] w fun e w' => e = .returned (.bool true) ∧ Now w w' B lo (holdM M i) := by
  obtain ⟨j, rfl⟩ : ∃ j : Nat, i = j := ⟨i.toNat, by omega⟩
  have hj : j < M.slots.length := by omega
  obtain ⟨gS, rfl, oS, -, -, -⟩ := row_form m.c.s (by omega)
  have hrr := refsM_at M j hj
  rw [hrr] at hr hr1
  obtain ⟨c0, -, -, -, -, -, fz⟩ := row_cells m.c.s hj
  refine (hold_yes w B gS _ j cS _ _ _ _ _ m.box hj c0 (fz _) hr hr1).mono ?_
  rintro e w' ⟨rfl, rfl⟩
  have mt := turned m hj (M.slots[j].refs + 1)
  rw [← hrr] at mt ⊢
  exact ⟨rfl, _, _, _, _, _, _, _, _, mt, (Kept.refl w B lo).setCell oS _⟩

theorem put_now (M : Mm) (w : World) (B lo : Nat) (aS aH aF aL : Option Addr) (cS cH cF cL : Nat) (i : Int) (m : Mine w B lo aS aH aF aL cS cH cF cL M) (h0 : 0 ≤ i) (h1 : i < M.slots.length) (hr : 0 < refsM M i) (hr1 : refsM M i ≤ 1000) (hm : M.free.length * 8 ≤ 140737488350000) :
    Calls Try.prog 107 #[.pointer (some ⟨B, 0, none⟩), .int .i64 i] w fun e w' => e = .returned (.bool true) ∧ Now w w' B lo (putM M i) := by
  obtain ⟨j, rfl⟩ : ∃ j : Nat, i = j := ⟨i.toNat, by omega⟩
  have hj : j < M.slots.length := by omega
  obtain ⟨gS, rfl, oS, -, -, -⟩ := row_form m.c.s (by omega)
  have hrr := refsM_at M j hj
  obtain ⟨c0, -, -, -, -, -, fz⟩ := row_cells m.c.s hj
  by_cases hl : refsM M j = 1
  · rw [← hrr, hl] at c0
    have mt := turned m hj 0
    refine (put_last w B gS _ j cS cF aF M.free _ _ _ m.box hj c0 (fz _) m.ne_s mt.at.f hm).mono ?_
    rintro e w' ⟨rfl, a', c', w1, hb, ho, rfl⟩
    have e1 : putM M j = { M with slots := setRefs M j 0, free := M.free ++ [(j : Int)] } := by simp [putM, hl]
    have hlen : (M.free ++ [(j : Int)]).length = M.free.length + 1 := by simp
    rw [e1]
    have hz : (w.setCell ⟨gS, j * 6, none⟩ (.int .i64 0)).heap.size = w.heap.size := World.size_setCell ..
    rw [← hz] at hb ho
    have mg := mt.newF (M.free ++ [(j : Int)]) (by rw [hlen]; omega) hb hlen ho
    refine ⟨rfl, _, _, _, _, _, _, _, _, mg, ?_⟩
    have k1 : Kept w _ B lo := ((Kept.refl w B lo).setCell (j := j * 6) oS (.int .i64 0)).below hb mt.c.lz
    exact k1.setBox _
  · have hr2 : 1 < M.slots[j].refs := by omega
    refine (put_more w B gS _ j cS _ _ _ _ _ m.box hj c0 (fz _) hr2 (by omega)).mono ?_
    rintro e w' ⟨rfl, rfl⟩
    have e1 : putM M j = { M with slots := setRefs M j (refsM M j - 1) } := by simp [putM, hl]
    rw [e1]
    have mt := turned m hj (M.slots[j].refs - 1)
    rw [← hrr] at mt ⊢
    exact ⟨rfl, _, _, _, _, _, _, _, _, mt, (Kept.refl w B lo).setCell oS _⟩

theorem hold_done (M : Mm) (w : World) (B lo : Nat) (aS aH aF aL : Option Addr) (cS cH cF cL : Nat) (i : Int) (m : Mine w B lo aS aH aF aL cS cH cF cL M) (h0 : 0 ≤ i) (h1 : i < M.slots.length) (hr : 0 < refsM M i) (hr1 : refsM M i < 1000) :
    Calls Try.prog 150 #[.pointer (some ⟨B, 0, none⟩), .int .i64 i] w fun e w' => e = .returned (.bool true) ∧ Done w w' B lo (holdM M i) := by
  refine (hold_now M w B lo aS aH aF aL cS cH cF cL i m h0 h1 hr hr1).mono ?_
  rintro e w' ⟨rfl, h⟩
  exact ⟨rfl, h.done⟩
theorem put_done (M : Mm) (w : World) (B lo : Nat) (aS aH aF aL : Option Addr) (cS cH cF cL : Nat) (i : Int) (m : Mine w B lo aS aH aF aL cS cH cF cL M) (h0 : 0 ≤ i) (h1 : i < M.slots.length) (hr : 0 < refsM M i) (hr1 : refsM M i ≤ 1000) (hm : M.free.length * 8 ≤ 140737488350000) :
    Calls Try.prog 107 #[.pointer (some ⟨B, 0, none⟩), .int .i64 i] w fun e w' => e = .returned (.bool true) ∧ Done w w' B lo (putM M i) := by
  refine (put_now M w B lo aS aH aF aL cS cH cF cL i m h0 h1 hr hr1 hm).mono ?_
  rintro e w' ⟨rfl, h⟩
  exact ⟨rfl, h.done⟩





end Go.Proofs.Ytdbilofhcadmoab.mm

/- How many slots are free at most. -/
namespace Go.Proofs.Ytdbilofhcadmoab.mm
open Go.ChangeShapes Go.WideShapes Go.ChangeAt Go.RowKit Go.Joins
set_option linter.unusedVariables false

theorem few : ∀ (n : Nat) (l : List Int), l.Nodup → (∀ a ∈ l, 0 ≤ a ∧ a < n) → l.length ≤ n
  | 0, l, hn, h => by
    match l, h with
    | [], _ => simp
    | a :: _, h => have := h a (by simp); omega
  | n + 1, l, hn, h => by
    have h1 := few n (l.erase (n : Int)) (hn.erase _) (fun a ha => by
      have h3 := (hn.mem_erase_iff).1 ha
      have h4 := h a h3.2
      have h5 := h3.1
      omega)
    rw [List.length_erase] at h1
    split at h1 <;> omega

theorem Ok.few {m : Mm} (h : Ok m) : m.free.length ≤ 12 := by
  have := mm.few m.slots.length m.free h.nodup (fun a ha => by
    have := (freeOk_iff _ _).1 (h.free a ha)
    omega)
  have := h.ns
  omega






end Go.Proofs.Ytdbilofhcadmoab.mm

/- The contracts of changed, at hold and at put. -/
namespace Go.Proofs.Ytdbilofhcadmoab.mm
open Go.ChangeShapes Go.WideShapes Go.ChangeAt Go.RowKit Go.Joins
set_option linter.unusedVariables false

theorem refs_in {M : Mm} (h : chk M = 0) {i : Int} (hi : isSl M i = true) : 0 ≤ i ∧ i < M.slots.length ∧ 0 ≤ refsM M i ∧ refsM M i ≤ 1000 := by
  have hb := (inB_iff _ _ _).1 hi
  obtain ⟨j, rfl⟩ : ∃ j : Nat, i = j := ⟨i.toNat, by omega⟩
  have hj : j < M.slots.length := by omega
  have hrr : refsM M j = M.slots[j].refs := by simp [refsM, List.getD_eq_getElem?_getD, hj]
  have ho := ((chk_zero M).1 h).slot _ (List.getElem_mem hj)
  rw [hrr]
  refine ⟨by omega, by omega, ?_⟩
  have : inB M.slots[j].refs 0 1000 = true := by
    cases hh : inB M.slots[j].refs 0 1000
    · simp [slotErr, hh] at ho
    · rfl
  exact (inB_iff _ _ _).1 this

set_option maxHeartbeats 3200000 in
theorem changed_hold (M : Mm) (aS aH aF aL : Option Addr) (cS cH cF cL : Nat) (i : Int) (w : World) (A : At w aS aH aF aL cS cH cF cL M) :
    Calls Try.prog 106 #[.agg #[.slice aS M.slots.length cS, .slice aH M.heads.length cH, .slice aF M.free.length cF, .slice aL M.locks.length cL, .int .i64 M.now], .int .i64 i, .func (.func 150) #[] #[]] w fun e w' => ∃ v, e = .returned (.tuple #[v, .int .i64 (heldE M i)]) ∧ Ans w.heap.size w' v (heldM M i) ∧ Below w.heap.size w w' := by
  have m1 := A.s.max; have m2 := A.h.max; have m4 := A.l.max
  have n1 : M.slots.length ≤ 9223372036854775807 := by omega
  obtain ⟨E0, hE0⟩ : ∃ E0, E0 = heldE M i := ⟨_, rfl⟩
  obtain ⟨M1, hM1⟩ : ∃ M1, M1 = heldM M i := ⟨_, rfl⟩
  rw [← hE0, ← hM1]
  have HE0 : Hid _ := hE0
  have HM1 : Hid _ := hM1
  clear hE0 hM1
  obtain ⟨o1, ho1⟩ : ∃ o : Obj, o = .cells #[.slice aS M.slots.length cS, .slice aH M.heads.length cH, .slice aF M.free.length cF, .slice aL M.locks.length cL, .int .i64 M.now] 25 := ⟨_, rfl⟩
  obtain ⟨o2, ho2⟩ : ∃ o : Obj, o = .cells #[.slice none 0 0, .slice none 0 0, .slice none 0 0, .slice none 0 0, .int .i64 0] 25 := ⟨_, rfl⟩
  have b0 : Below w.heap.size w ((w.alloc o1).alloc o2) := below_alloc2 w o1 o2
  have HB0 : Hid (((w.alloc o1).alloc o2).heap[w.heap.size]? = some o1) := by show _ = _; rw [Below.heap_alloc _ _ _ (by simp), heap_alloc_new]
  have HR0 : Hid (((w.alloc o1).alloc o2).heap[w.heap.size + 1]? = some o2) := by
    have := heap_alloc_new (w.alloc o1) o2
    rwa [show (w.alloc o1).heap.size = w.heap.size + 1 by simp] at this
  have HA0 : Hid _ := A.below b0
  clear A
  go_enter Try.func106, Try.ntmps106
  go_wp2_with fail
  rw [← ho1, ← ho2]
  generalize (w.alloc o1).alloc o2 = W0 at *
  subst ho1 ho2
  refine (check_any M aS aH aF aL cS cH cF cL W0 HA0.out).mono ?_
  rintro e w1 ⟨rfl, hb1⟩
  have b1 := b0.trans (hb1.mono b0.size)
  have HB1 : Hid _ := (hb1.block w.heap.size (lt_of_block HB0.out)).trans HB0.out
  have HR1 : Hid _ := (hb1.block (w.heap.size + 1) (lt_of_block HR0.out)).trans HR0.out
  have HA1 : Hid _ := HA0.out.below hb1
  clear hb1 b0 HB0 HR0 HA0
  by_cases hE : chk M = 0
  rotate_left
  · have HV : Hid (E0 = chk M ∧ M1 = m0) := by
      have : heldE M i = chk M := by unfold heldE; rw [if_pos hE]
      exact ⟨HE0.out.trans this, HM1.out.trans (by unfold heldM; rw [this, if_neg hE])⟩
    have h' : (chk M != 0) = true := by simpa using hE
    obtain ⟨r0, r1, r2, r3, r4, g0, g1, g2, g3, g4, rs⟩ := boxf HR1.out
    clear HB1 HR1 HA1
    generalize chk M = E at *
    go_wp2
    refine bodyPost_ret (v := .tuple #[.agg #[.slice none 0 0, .slice none 0 0, .slice none 0 0, .slice none 0 0, .int .i64 0], .int .i64 E]) (by simp [results, Try.results106, go_sem, r0, r1, r2, r3, r4]) rfl ⟨_, by rw [HV.out.1], by rw [HV.out.2]; exact ans0 _ _, ?_⟩
    exact b1.trans (set5_below w1 _ _ _ _ _ _ _ (by omega))
  have HC : Hid (chk M = 0) := hE
  rw [hE]
  clear hE
  obtain ⟨q0, q1, q2, q3, q4, f0, f1, f2, f3, f4, qs⟩ := boxf HB1.out
  go_wp2_with fail
  refine (isSlot_any aS aH aF aL _ _ _ _ cS cH cF cL _ _ w1 n1).mono ?_
  rintro e w2 ⟨rfl, hb2⟩
  have b2 := b1.trans (hb2.mono b1.size)
  have HB2 : Hid _ := (hb2.block w.heap.size (lt_of_block HB1.out)).trans HB1.out
  have HR2 : Hid _ := (hb2.block (w.heap.size + 1) (lt_of_block HR1.out)).trans HR1.out
  have HA2 : Hid _ := HA1.out.below hb2
  clear hb2 b1 HB1 HR1 HA1 q0 q1 q2 q3 q4 f0 f1 f2 f3 f4 qs
  cases hS : inB i 0 ((M.slots.length : Int) - 1)
  · have HV : Hid (E0 = 5 ∧ M1 = m0) := by
      have : heldE M i = 5 := by unfold heldE; rw [if_neg (by simpa using HC.out), if_pos (show isSl M i = false from hS)]
      exact ⟨HE0.out.trans this, HM1.out.trans (by unfold heldM; rw [this, if_neg (by decide)])⟩
    obtain ⟨r0, r1, r2, r3, r4, g0, g1, g2, g3, g4, rs⟩ := boxf HR2.out
    clear HB2 HR2 HA2
    go_wp2
    refine bodyPost_ret (v := .tuple #[.agg #[.slice none 0 0, .slice none 0 0, .slice none 0 0, .slice none 0 0, .int .i64 0], .int .i64 5]) (by simp [results, Try.results106, go_sem, r0, r1, r2, r3, r4]) rfl ⟨_, by rw [HV.out.1], by rw [HV.out.2]; exact ans0 _ _, ?_⟩
    exact b2.trans (set5_below w2 _ _ _ _ _ _ _ (by omega))
  have HS : Hid (isSl M i = true) := hS
  clear hS
  obtain ⟨i0, i1, hr0, hr1⟩ := refs_in HC.out HS.out
  have m3 := ((chk_zero M).1 HC.out).few
  obtain ⟨q0, q1, q2, q3, q4, f0, f1, f2, f3, f4, qs⟩ := boxf HB2.out
  go_wp2_with fail
  refine (copy_any M aS aH aF aL cS cH cF cL w2 HA2.out).mono ?_
  rintro e w3 ⟨gS, gH, gF, gL, kS, kH, kF, kL, rfl, c3, hb3⟩
  have b3 := b2.trans (hb3.mono b2.size)
  have HB3 : Hid _ := (hb3.block w.heap.size (lt_of_block HB2.out)).trans HB2.out
  have HR3 : Hid _ := (hb3.block (w.heap.size + 1) (lt_of_block HR2.out)).trans HR2.out
  have t2 := lt_of_block HR2.out
  have b2s := b2.size
  clear hb3 b2 HB2 HR2 HA2 q0 q1 q2 q3 q4 f0 f1 f2 f3 f4 qs
  have hM : Mine (set5 w3 w.heap.size (.slice gS M.slots.length kS) (.slice gH M.heads.length kH) (.slice gF M.free.length kF) (.slice gL M.locks.length kL) (.int .i64 M.now)) w.heap.size w2.heap.size gS gH gF gL kS kH kF kL M :=
    ⟨set5_block HB3.out _ _ _ _ _, c3.set5 HB3.out _ _ _ _ _, m1, m2, by omega, m4⟩
  have b4 := b3.trans (set5_below w3 w.heap.size w.heap.size (.slice gS M.slots.length kS) (.slice gH M.heads.length kH) (.slice gF M.free.length kF) (.slice gL M.locks.length kL) (.int .i64 M.now) (Nat.le_refl _))
  have HR4 : Hid _ := (set5_other (w := w3) (g := w.heap.size) (v0 := .slice gS M.slots.length kS) (v1 := .slice gH M.heads.length kH) (v2 := .slice gF M.free.length kF) (v3 := .slice gL M.locks.length kL) (v4 := .int .i64 M.now) (k := w.heap.size + 1) (by omega)).trans HR3.out
  have HM : Hid _ := hM
  obtain ⟨q0, q1, q2, q3, q4, f0, f1, f2, f3, f4, qs⟩ := boxf HB3.out
  clear hM HB3 HR3 c3
  go_wp2_with fail
  rw [show ((((w3.setCell ⟨w.heap.size, 0, none⟩ (.slice gS M.slots.length kS)).setCell ⟨w.heap.size, 1, none⟩ (.slice gH M.heads.length kH)).setCell ⟨w.heap.size, 2, none⟩ (.slice gF M.free.length kF)).setCell ⟨w.heap.size, 3, none⟩ (.slice gL M.locks.length kL)).setCell ⟨w.heap.size, 4, none⟩ (.int .i64 M.now) = set5 w3 w.heap.size (.slice gS M.slots.length kS) (.slice gH M.heads.length kH) (.slice gF M.free.length kF) (.slice gL M.locks.length kL) (.int .i64 M.now) from rfl]
  clear q0 q1 q2 q3 q4 f0 f1 f2 f3 f4 qs b3
  generalize set5 w3 w.heap.size (.slice gS M.slots.length kS) (.slice gH M.heads.length kH) (.slice gF M.free.length kF) (.slice gL M.locks.length kL) (.int .i64 M.now) = W4 at *
  by_cases hr : refsM M i = 0 ∨ refsM M i = 1000
  · have HV : Hid (E0 = 8 ∧ M1 = m0) := by
      have : heldE M i = 8 := by unfold heldE; rw [if_neg (by simpa using HC.out), if_neg (by rw [HS.out]; simp), if_pos hr]
      exact ⟨HE0.out.trans this, HM1.out.trans (by unfold heldM; rw [this, if_neg (by decide)])⟩
    refine (hold_fail M W4 _ _ gS gH gF gL kS kH kF kL i HM.out i0 i1 hr).mono ?_
    rintro e w5 ⟨rfl, rfl⟩
    obtain ⟨r0, r1, r2, r3, r4, g0, g1, g2, g3, g4, rs⟩ := boxf HR4.out
    clear HR4 HM
    go_wp2
    refine bodyPost_ret (v := .tuple #[.agg #[.slice none 0 0, .slice none 0 0, .slice none 0 0, .slice none 0 0, .int .i64 0], .int .i64 8]) (by simp [results, Try.results106, go_sem, r0, r1, r2, r3, r4]) rfl ⟨_, by rw [HV.out.1], by rw [HV.out.2]; exact ans0 _ _, ?_⟩
    exact b4.trans (set5_below W4 _ _ _ _ _ _ _ (by omega))
  · have HV : Hid (E0 = 0 ∧ M1 = holdM M i) := by
      have : heldE M i = 0 := by unfold heldE; rw [if_neg (by simpa using HC.out), if_neg (by rw [HS.out]; simp), if_neg hr]
      exact ⟨HE0.out.trans this, HM1.out.trans (by unfold heldM; rw [this, if_pos rfl])⟩
    refine (hold_done M W4 _ _ gS gH gF gL kS kH kF kL i HM.out i0 i1 (by omega) (by omega)).mono ?_
    rintro e w5 ⟨rfl, aS', aH', aF', aL', cS', cH', cF', cL', k5, A5, kept, hi5⟩
    have b5 : Below w.heap.size w w5 := b4.trans ⟨kept.os, kept.tape, kept.output, kept.size, fun k hk => kept.block k (by omega) (by omega)⟩
    have HR5 : Hid _ := (kept.block (w.heap.size + 1) t2 (by omega)).trans HR4.out
    have HA5 : Hid _ := A5
    have HK5 : Hid _ := k5
    clear A5 kept HR4 HM b4 k5
    have hz5 := HR5.out
    obtain ⟨r0, r1, r2, r3, r4, g0, g1, g2, g3, g4, rs⟩ := boxf HR5.out
    obtain ⟨q0, q1, q2, q3, q4, f0, f1, f2, f3, f4, qs⟩ := boxf HK5.out
    clear hz5
    generalize hMn : holdM M i = Mn at *
    have HMn : Hid _ := hMn
    clear hMn
    go_wp2
    refine bodyPost_ret (v := .tuple #[.agg #[.slice aS' Mn.slots.length cS', .slice aH' Mn.heads.length cH', .slice aF' Mn.free.length cF', .slice aL' Mn.locks.length cL', .int .i64 Mn.now], .int .i64 0]) (by simp [results, Try.results106, go_sem, r0, r1, r2, r3, r4]) rfl ⟨_, by rw [HV.out.1], ?_, ?_⟩
    · rw [HV.out.2]
      have A6 := HA5.out.off hi5 t2 (fun k hk => set5_other (w := w5) (v0 := .slice aS' Mn.slots.length cS') (v1 := .slice aH' Mn.heads.length cH') (v2 := .slice aF' Mn.free.length cF') (v3 := .slice aL' Mn.locks.length cL') (v4 := .int .i64 Mn.now) hk)
      exact ⟨aS', aH', aF', aL', cS', cH', cF', cL', rfl, A6, hi5.mono b2s⟩
    · exact b5.trans (set5_below w5 _ _ _ _ _ _ _ (by omega))

set_option maxHeartbeats 3200000 in
theorem changed_put (M : Mm) (aS aH aF aL : Option Addr) (cS cH cF cL : Nat) (i : Int) (w : World) (A : At w aS aH aF aL cS cH cF cL M) :
    Calls Try.prog 106 #[.agg #[.slice aS M.slots.length cS, .slice aH M.heads.length cH, .slice aF M.free.length cF, .slice aL M.locks.length cL, .int .i64 M.now], .int .i64 i, .func (.func 107) #[] #[]] w fun e w' => ∃ v, e = .returned (.tuple #[v, .int .i64 (letE M i)]) ∧ Ans w.heap.size w' v (letM M i) ∧ Below w.heap.size w w' := by
  have m1 := A.s.max; have m2 := A.h.max; have m4 := A.l.max
  have n1 : M.slots.length ≤ 9223372036854775807 := by omega
  obtain ⟨E0, hE0⟩ : ∃ E0, E0 = letE M i := ⟨_, rfl⟩
  obtain ⟨M1, hM1⟩ : ∃ M1, M1 = letM M i := ⟨_, rfl⟩
  rw [← hE0, ← hM1]
  have HE0 : Hid _ := hE0
  have HM1 : Hid _ := hM1
  clear hE0 hM1
  obtain ⟨o1, ho1⟩ : ∃ o : Obj, o = .cells #[.slice aS M.slots.length cS, .slice aH M.heads.length cH, .slice aF M.free.length cF, .slice aL M.locks.length cL, .int .i64 M.now] 25 := ⟨_, rfl⟩
  obtain ⟨o2, ho2⟩ : ∃ o : Obj, o = .cells #[.slice none 0 0, .slice none 0 0, .slice none 0 0, .slice none 0 0, .int .i64 0] 25 := ⟨_, rfl⟩
  have b0 : Below w.heap.size w ((w.alloc o1).alloc o2) := below_alloc2 w o1 o2
  have HB0 : Hid (((w.alloc o1).alloc o2).heap[w.heap.size]? = some o1) := by show _ = _; rw [Below.heap_alloc _ _ _ (by simp), heap_alloc_new]
  have HR0 : Hid (((w.alloc o1).alloc o2).heap[w.heap.size + 1]? = some o2) := by
    have := heap_alloc_new (w.alloc o1) o2
    rwa [show (w.alloc o1).heap.size = w.heap.size + 1 by simp] at this
  have HA0 : Hid _ := A.below b0
  clear A
  go_enter Try.func106, Try.ntmps106
  go_wp2_with fail
  rw [← ho1, ← ho2]
  generalize (w.alloc o1).alloc o2 = W0 at *
  subst ho1 ho2
  refine (check_any M aS aH aF aL cS cH cF cL W0 HA0.out).mono ?_
  rintro e w1 ⟨rfl, hb1⟩
  have b1 := b0.trans (hb1.mono b0.size)
  have HB1 : Hid _ := (hb1.block w.heap.size (lt_of_block HB0.out)).trans HB0.out
  have HR1 : Hid _ := (hb1.block (w.heap.size + 1) (lt_of_block HR0.out)).trans HR0.out
  have HA1 : Hid _ := HA0.out.below hb1
  clear hb1 b0 HB0 HR0 HA0
  by_cases hE : chk M = 0
  rotate_left
  · have HV : Hid (E0 = chk M ∧ M1 = m0) := by
      have : letE M i = chk M := by unfold letE; rw [if_pos hE]
      exact ⟨HE0.out.trans this, HM1.out.trans (by unfold letM; rw [this, if_neg hE])⟩
    have h' : (chk M != 0) = true := by simpa using hE
    obtain ⟨r0, r1, r2, r3, r4, g0, g1, g2, g3, g4, rs⟩ := boxf HR1.out
    clear HB1 HR1 HA1
    generalize chk M = E at *
    go_wp2
    refine bodyPost_ret (v := .tuple #[.agg #[.slice none 0 0, .slice none 0 0, .slice none 0 0, .slice none 0 0, .int .i64 0], .int .i64 E]) (by simp [results, Try.results106, go_sem, r0, r1, r2, r3, r4]) rfl ⟨_, by rw [HV.out.1], by rw [HV.out.2]; exact ans0 _ _, ?_⟩
    exact b1.trans (set5_below w1 _ _ _ _ _ _ _ (by omega))
  have HC : Hid (chk M = 0) := hE
  rw [hE]
  clear hE
  obtain ⟨q0, q1, q2, q3, q4, f0, f1, f2, f3, f4, qs⟩ := boxf HB1.out
  go_wp2_with fail
  refine (isSlot_any aS aH aF aL _ _ _ _ cS cH cF cL _ _ w1 n1).mono ?_
  rintro e w2 ⟨rfl, hb2⟩
  have b2 := b1.trans (hb2.mono b1.size)
  have HB2 : Hid _ := (hb2.block w.heap.size (lt_of_block HB1.out)).trans HB1.out
  have HR2 : Hid _ := (hb2.block (w.heap.size + 1) (lt_of_block HR1.out)).trans HR1.out
  have HA2 : Hid _ := HA1.out.below hb2
  clear hb2 b1 HB1 HR1 HA1 q0 q1 q2 q3 q4 f0 f1 f2 f3 f4 qs
  cases hS : inB i 0 ((M.slots.length : Int) - 1)
  · have HV : Hid (E0 = 5 ∧ M1 = m0) := by
      have : letE M i = 5 := by unfold letE; rw [if_neg (by simpa using HC.out), if_pos (show isSl M i = false from hS)]
      exact ⟨HE0.out.trans this, HM1.out.trans (by unfold letM; rw [this, if_neg (by decide)])⟩
    obtain ⟨r0, r1, r2, r3, r4, g0, g1, g2, g3, g4, rs⟩ := boxf HR2.out
    clear HB2 HR2 HA2
    go_wp2
    refine bodyPost_ret (v := .tuple #[.agg #[.slice none 0 0, .slice none 0 0, .slice none 0 0, .slice none 0 0, .int .i64 0], .int .i64 5]) (by simp [results, Try.results106, go_sem, r0, r1, r2, r3, r4]) rfl ⟨_, by rw [HV.out.1], by rw [HV.out.2]; exact ans0 _ _, ?_⟩
    exact b2.trans (set5_below w2 _ _ _ _ _ _ _ (by omega))
  have HS : Hid (isSl M i = true) := hS
  clear hS
  obtain ⟨i0, i1, hr0, hr1⟩ := refs_in HC.out HS.out
  have m3 := ((chk_zero M).1 HC.out).few
  obtain ⟨q0, q1, q2, q3, q4, f0, f1, f2, f3, f4, qs⟩ := boxf HB2.out
  go_wp2_with fail
  refine (copy_any M aS aH aF aL cS cH cF cL w2 HA2.out).mono ?_
  rintro e w3 ⟨gS, gH, gF, gL, kS, kH, kF, kL, rfl, c3, hb3⟩
  have b3 := b2.trans (hb3.mono b2.size)
  have HB3 : Hid _ := (hb3.block w.heap.size (lt_of_block HB2.out)).trans HB2.out
  have HR3 : Hid _ := (hb3.block (w.heap.size + 1) (lt_of_block HR2.out)).trans HR2.out
  have t2 := lt_of_block HR2.out
  have b2s := b2.size
  clear hb3 b2 HB2 HR2 HA2 q0 q1 q2 q3 q4 f0 f1 f2 f3 f4 qs
  have hM : Mine (set5 w3 w.heap.size (.slice gS M.slots.length kS) (.slice gH M.heads.length kH) (.slice gF M.free.length kF) (.slice gL M.locks.length kL) (.int .i64 M.now)) w.heap.size w2.heap.size gS gH gF gL kS kH kF kL M :=
    ⟨set5_block HB3.out _ _ _ _ _, c3.set5 HB3.out _ _ _ _ _, m1, m2, by omega, m4⟩
  have b4 := b3.trans (set5_below w3 w.heap.size w.heap.size (.slice gS M.slots.length kS) (.slice gH M.heads.length kH) (.slice gF M.free.length kF) (.slice gL M.locks.length kL) (.int .i64 M.now) (Nat.le_refl _))
  have HR4 : Hid _ := (set5_other (w := w3) (g := w.heap.size) (v0 := .slice gS M.slots.length kS) (v1 := .slice gH M.heads.length kH) (v2 := .slice gF M.free.length kF) (v3 := .slice gL M.locks.length kL) (v4 := .int .i64 M.now) (k := w.heap.size + 1) (by omega)).trans HR3.out
  have HM : Hid _ := hM
  obtain ⟨q0, q1, q2, q3, q4, f0, f1, f2, f3, f4, qs⟩ := boxf HB3.out
  clear hM HB3 HR3 c3
  go_wp2_with fail
  rw [show ((((w3.setCell ⟨w.heap.size, 0, none⟩ (.slice gS M.slots.length kS)).setCell ⟨w.heap.size, 1, none⟩ (.slice gH M.heads.length kH)).setCell ⟨w.heap.size, 2, none⟩ (.slice gF M.free.length kF)).setCell ⟨w.heap.size, 3, none⟩ (.slice gL M.locks.length kL)).setCell ⟨w.heap.size, 4, none⟩ (.int .i64 M.now) = set5 w3 w.heap.size (.slice gS M.slots.length kS) (.slice gH M.heads.length kH) (.slice gF M.free.length kF) (.slice gL M.locks.length kL) (.int .i64 M.now) from rfl]
  clear q0 q1 q2 q3 q4 f0 f1 f2 f3 f4 qs b3
  generalize set5 w3 w.heap.size (.slice gS M.slots.length kS) (.slice gH M.heads.length kH) (.slice gF M.free.length kF) (.slice gL M.locks.length kL) (.int .i64 M.now) = W4 at *
  by_cases hr : refsM M i = 0
  · have HV : Hid (E0 = 8 ∧ M1 = m0) := by
      have : letE M i = 8 := by unfold letE; rw [if_neg (by simpa using HC.out), if_neg (by rw [HS.out]; simp), if_pos hr]
      exact ⟨HE0.out.trans this, HM1.out.trans (by unfold letM; rw [this, if_neg (by decide)])⟩
    refine (put_fail M W4 _ _ gS gH gF gL kS kH kF kL i HM.out i0 i1 hr).mono ?_
    rintro e w5 ⟨rfl, rfl⟩
    obtain ⟨r0, r1, r2, r3, r4, g0, g1, g2, g3, g4, rs⟩ := boxf HR4.out
    clear HR4 HM
    go_wp2
    refine bodyPost_ret (v := .tuple #[.agg #[.slice none 0 0, .slice none 0 0, .slice none 0 0, .slice none 0 0, .int .i64 0], .int .i64 8]) (by simp [results, Try.results106, go_sem, r0, r1, r2, r3, r4]) rfl ⟨_, by rw [HV.out.1], by rw [HV.out.2]; exact ans0 _ _, ?_⟩
    exact b4.trans (set5_below W4 _ _ _ _ _ _ _ (by omega))
  · have HV : Hid (E0 = 0 ∧ M1 = putM M i) := by
      have : letE M i = 0 := by unfold letE; rw [if_neg (by simpa using HC.out), if_neg (by rw [HS.out]; simp), if_neg hr]
      exact ⟨HE0.out.trans this, HM1.out.trans (by unfold letM; rw [this, if_pos rfl])⟩
    refine (put_done M W4 _ _ gS gH gF gL kS kH kF kL i HM.out i0 i1 (by omega) hr1 (by omega)).mono ?_
    rintro e w5 ⟨rfl, aS', aH', aF', aL', cS', cH', cF', cL', k5, A5, kept, hi5⟩
    have b5 : Below w.heap.size w w5 := b4.trans ⟨kept.os, kept.tape, kept.output, kept.size, fun k hk => kept.block k (by omega) (by omega)⟩
    have HR5 : Hid _ := (kept.block (w.heap.size + 1) t2 (by omega)).trans HR4.out
    have HA5 : Hid _ := A5
    have HK5 : Hid _ := k5
    clear A5 kept HR4 HM b4 k5
    have hz5 := HR5.out
    obtain ⟨r0, r1, r2, r3, r4, g0, g1, g2, g3, g4, rs⟩ := boxf HR5.out
    obtain ⟨q0, q1, q2, q3, q4, f0, f1, f2, f3, f4, qs⟩ := boxf HK5.out
    clear hz5
    generalize hMn : putM M i = Mn at *
    have HMn : Hid _ := hMn
    clear hMn
    go_wp2
    refine bodyPost_ret (v := .tuple #[.agg #[.slice aS' Mn.slots.length cS', .slice aH' Mn.heads.length cH', .slice aF' Mn.free.length cF', .slice aL' Mn.locks.length cL', .int .i64 Mn.now], .int .i64 0]) (by simp [results, Try.results106, go_sem, r0, r1, r2, r3, r4]) rfl ⟨_, by rw [HV.out.1], ?_, ?_⟩
    · rw [HV.out.2]
      have A6 := HA5.out.off hi5 t2 (fun k hk => set5_other (w := w5) (v0 := .slice aS' Mn.slots.length cS') (v1 := .slice aH' Mn.heads.length cH') (v2 := .slice aF' Mn.free.length cF') (v3 := .slice aL' Mn.locks.length cL') (v4 := .int .i64 Mn.now) hk)
      exact ⟨aS', aH', aF', aL', cS', cH', cF', cL', rfl, A6, hi5.mono b2s⟩
    · exact b5.trans (set5_below w5 _ _ _ _ _ _ _ (by omega))





end Go.Proofs.Ytdbilofhcadmoab.mm

/- The contracts of Held and Let. -/
namespace Go.Proofs.Ytdbilofhcadmoab.mm
open Go.ChangeShapes Go.WideShapes Go.ChangeAt Go.RowKit Go.Joins
set_option linter.unusedVariables false

set_option maxHeartbeats 1600000 in
theorem let_any (M : Mm) (v : Value) (i : Int) (w : World) (lo : Nat) (A : Ans lo w v M) :
    Calls Try.prog 47 #[v, .int .i64 i] w fun e w' => ∃ v, e = .returned (.tuple #[v, .int .i64 (letE M i)]) ∧ Ans w.heap.size w' v (letM M i) ∧ Below w.heap.size w w' := by
  obtain ⟨aS, aH, aF, aL, cS, cH, cF, cL, rfl, A, -⟩ := A
  generalize hE : letE M i = E0
  generalize hM : letM M i = M1
  have HE : Hid _ := hE
  have HM : Hid _ := hM
  clear hE hM
  obtain ⟨o1, ho1⟩ : ∃ o : Obj, o = .cells #[.slice aS M.slots.length cS, .slice aH M.heads.length cH, .slice aF M.free.length cF, .slice aL M.locks.length cL, .int .i64 M.now] 25 := ⟨_, rfl⟩
  obtain ⟨o2, ho2⟩ : ∃ o : Obj, o = .cells #[.slice none 0 0, .slice none 0 0, .slice none 0 0, .slice none 0 0, .int .i64 0] 25 := ⟨_, rfl⟩
  have b0 : Below w.heap.size w ((w.alloc o1).alloc o2) := below_alloc2 w o1 o2
  have HR0 : Hid (((w.alloc o1).alloc o2).heap[w.heap.size + 1]? = some o2) := by
    have := heap_alloc_new (w.alloc o1) o2
    rwa [show (w.alloc o1).heap.size = w.heap.size + 1 by simp] at this
  have HA0 : Hid _ := A.below b0
  clear A
  go_enter Try.func47, Try.ntmps47
  go_wp2_with fail
  rw [← ho1, ← ho2]
  generalize (w.alloc o1).alloc o2 = W0 at *
  subst ho1 ho2
  refine (changed_put M aS aH aF aL cS cH cF cL i W0 HA0.out).mono ?_
  rw [HE.out, HM.out]
  rintro e w1 ⟨v1, rfl, ⟨aS', aH', aF', aL', cS', cH', cF', cL', rfl, A1, hi1⟩, hb1⟩
  have b1 := b0.trans (hb1.mono b0.size)
  have HR1 : Hid _ := (hb1.block (w.heap.size + 1) (lt_of_block HR0.out)).trans HR0.out
  have HA1 : Hid _ := A1
  have HL : Hid (w.heap.size + 1 < W0.heap.size) := lt_of_block HR0.out
  have HL2 : Hid (w.heap.size ≤ W0.heap.size) := b0.size
  clear hb1 b0 HA0 A1
  obtain ⟨r0, r1, r2, r3, r4, g0, g1, g2, g3, g4, rs⟩ := boxf HR1.out
  go_wp2
  refine bodyPost_ret (v := .tuple #[.agg #[.slice aS' M1.slots.length cS', .slice aH' M1.heads.length cH', .slice aF' M1.free.length cF', .slice aL' M1.locks.length cL', .int .i64 M1.now], .int .i64 E0]) (by simp [results, Try.results47, go_sem, r0, r1, r2, r3, r4]) rfl ⟨_, rfl, ?_, ?_⟩
  · have A6 := HA1.out.off hi1 HL.out (fun k hk => set5_other (w := w1) (v0 := .slice aS' M1.slots.length cS') (v1 := .slice aH' M1.heads.length cH') (v2 := .slice aF' M1.free.length cF') (v3 := .slice aL' M1.locks.length cL') (v4 := .int .i64 M1.now) hk)
    exact ⟨aS', aH', aF', aL', cS', cH', cF', cL', rfl, A6, hi1.mono HL2.out⟩
  · exact b1.trans (set5_below w1 _ _ _ _ _ _ _ (by omega))





end Go.Proofs.Ytdbilofhcadmoab.mm

/- The contract of Taken. -/
namespace Go.Proofs.Ytdbilofhcadmoab.mm
open Go.ChangeShapes Go.WideShapes Go.ChangeAt Go.RowKit Go.Joins
set_option linter.unusedVariables false

theorem keyf {w : World} {B : Nat} {v0 v1 : Value} {t : TypeId} (h : w.heap[B]? = some (.cells #[v0, v1] t (0, 0))) : w.cell? ⟨B, 0, none⟩ = some v0 ∧ w.cell? ⟨B, 1, none⟩ = some v1 :=
  ⟨by rw [cell_of_block h]; rfl, by rw [cell_of_block h]; rfl⟩

theorem last_in {M : Mm} (h : Ok M) (hF : 0 < M.free.length) : 0 ≤ lastF M ∧ lastF M < M.slots.length ∧ refsM M (lastF M) = 0 ∧ lastF M ∈ M.free := by
  have hl : lastF M = M.free[M.free.length - 1] := by
    have : M.free.length - 1 < M.free.length := by omega
    simp [lastF, List.getD_eq_getElem?_getD, this]
  have hm : lastF M ∈ M.free := by rw [hl]; exact List.getElem_mem _
  have := (freeOk_iff _ _).1 (h.free _ hm)
  exact ⟨this.1, this.2.1, this.2.2, hm⟩

set_option maxHeartbeats 3200000 in
theorem taken_any (M : Mm) (v : Value) (ka kb u : Int) (w : World) (lo : Nat) (A : Ans lo w v M) :
    Calls Try.prog 70 #[v, .agg #[.int .i64 ka, .int .i64 kb], .int .i64 u] w fun e w' => ∃ v, e = .returned (.tuple #[v, .int .i64 (takenN M ka kb u), .int .i64 (takenE M ka kb u)]) ∧ Ans w.heap.size w' v (takenM M ka kb u) ∧ Below w.heap.size w w' := by
  obtain ⟨aS, aH, aF, aL, cS, cH, cF, cL, rfl, A, -⟩ := A
  have m1 := A.s.max; have m2 := A.h.max; have m4 := A.l.max
  have n1 : M.slots.length ≤ 9223372036854775807 := by omega
  obtain ⟨E0, hE0⟩ : ∃ E0, E0 = takenE M ka kb u := ⟨_, rfl⟩
  obtain ⟨M1, hM1⟩ : ∃ M1, M1 = takenM M ka kb u := ⟨_, rfl⟩
  obtain ⟨N0, hN0⟩ : ∃ N0, N0 = takenN M ka kb u := ⟨_, rfl⟩
  rw [← hE0, ← hM1, ← hN0]
  have HE0 : Hid _ := hE0
  have HM1 : Hid _ := hM1
  have HN0 : Hid _ := hN0
  clear hE0 hM1 hN0
  obtain ⟨o1, ho1⟩ : ∃ o : Obj, o = .cells #[.slice aS M.slots.length cS, .slice aH M.heads.length cH, .slice aF M.free.length cF, .slice aL M.locks.length cL, .int .i64 M.now] 25 := ⟨_, rfl⟩
  obtain ⟨o3, ho3⟩ : ∃ o : Obj, o = .cells #[.int .i64 ka, .int .i64 kb] 37 := ⟨_, rfl⟩
  obtain ⟨o2, ho2⟩ : ∃ o : Obj, o = .cells #[.slice none 0 0, .slice none 0 0, .slice none 0 0, .slice none 0 0, .int .i64 0] 25 := ⟨_, rfl⟩
  have b0 : Below w.heap.size w (((w.alloc o1).alloc o3).alloc o2) := below_alloc3 w o1 o3 o2
  have HB0 : Hid ((((w.alloc o1).alloc o3).alloc o2).heap[w.heap.size]? = some o1) := by show _ = _; rw [Below.heap_alloc _ _ _ (by simp; omega), Below.heap_alloc _ _ _ (by simp), heap_alloc_new]
  have HK0 : Hid ((((w.alloc o1).alloc o3).alloc o2).heap[w.heap.size + 1]? = some o3) := by
    have := heap_alloc_new (w.alloc o1) o3
    rw [show (w.alloc o1).heap.size = w.heap.size + 1 by simp] at this
    show _ = _
    rw [Below.heap_alloc _ _ _ (by simp), this]
  have HR0 : Hid ((((w.alloc o1).alloc o3).alloc o2).heap[w.heap.size + 2]? = some o2) := by
    have := heap_alloc_new ((w.alloc o1).alloc o3) o2
    rwa [show ((w.alloc o1).alloc o3).heap.size = w.heap.size + 2 by simp] at this
  have HA0 : Hid _ := A.below b0
  clear A
  go_enter Try.func70, Try.ntmps70
  go_wp2_with fail
  rw [← ho1, ← ho2, ← ho3]
  generalize ((w.alloc o1).alloc o3).alloc o2 = W0 at *
  subst ho1 ho2 ho3
  refine (check_any M aS aH aF aL cS cH cF cL W0 HA0.out).mono ?_
  rintro e w1 ⟨rfl, hb1⟩
  have b1 := b0.trans (hb1.mono b0.size)
  have HB1 : Hid _ := (hb1.block w.heap.size (lt_of_block HB0.out)).trans HB0.out
  have HK1 : Hid _ := (hb1.block (w.heap.size + 1) (lt_of_block HK0.out)).trans HK0.out
  have HR1 : Hid _ := (hb1.block (w.heap.size + 2) (lt_of_block HR0.out)).trans HR0.out
  have HA1 : Hid _ := HA0.out.below hb1
  clear hb1 b0 HB0 HK0 HR0 HA0
  by_cases hE : chk M = 0
  rotate_left
  · have HV : Hid (E0 = chk M ∧ M1 = m0 ∧ N0 = 0) := by
      have h : takenE M ka kb u = chk M := by unfold takenE; rw [if_pos hE]
      have hn : takenE M ka kb u ≠ 0 := by rw [h]; exact hE
      exact ⟨HE0.out.trans h, HM1.out.trans (by unfold takenM; rw [if_neg hn]), HN0.out.trans (by unfold takenN; rw [if_neg hn])⟩
    have h' : (chk M != 0) = true := by simpa using hE
    obtain ⟨r0, r1, r2, r3, r4, g0, g1, g2, g3, g4, rs⟩ := boxf HR1.out
    clear HB1 HK1 HR1 HA1
    generalize chk M = E at *
    go_wp2
    refine bodyPost_ret (v := .tuple #[.agg #[.slice none 0 0, .slice none 0 0, .slice none 0 0, .slice none 0 0, .int .i64 0], .int .i64 0, .int .i64 E]) (by simp [results, Try.results70, go_sem, r0, r1, r2, r3, r4]) rfl ⟨_, by rw [HV.out.1, HV.out.2.2], by rw [HV.out.2.1]; exact ans0 _ _, ?_⟩
    exact b1.trans (set5_below w1 _ _ _ _ _ _ _ (by omega))
  have HC : Hid (chk M = 0) := hE
  rw [hE]
  clear hE
  obtain ⟨k0, k1⟩ := keyf HK1.out
  go_wp2_with fail
  refine (kcheck_any ka kb w1).mono ?_
  rintro e w2 ⟨rfl, hb2⟩
  have b2 := b1.trans (hb2.mono b1.size)
  have HB2 : Hid _ := (hb2.block w.heap.size (lt_of_block HB1.out)).trans HB1.out
  have HK2 : Hid _ := (hb2.block (w.heap.size + 1) (lt_of_block HK1.out)).trans HK1.out
  have HR2 : Hid _ := (hb2.block (w.heap.size + 2) (lt_of_block HR1.out)).trans HR1.out
  have HA2 : Hid _ := HA1.out.below hb2
  clear hb2 b1 HB1 HK1 HR1 HA1 k0 k1
  cases hK : keyB ka kb
  · have HV : Hid (E0 = 3 ∧ M1 = m0 ∧ N0 = 0) := by
      have h : takenE M ka kb u = 3 := by unfold takenE; rw [if_neg (by simpa using HC.out), if_pos hK]
      have hn : takenE M ka kb u ≠ 0 := by rw [h]; decide
      exact ⟨HE0.out.trans h, HM1.out.trans (by unfold takenM; rw [if_neg hn]), HN0.out.trans (by unfold takenN; rw [if_neg hn])⟩
    obtain ⟨r0, r1, r2, r3, r4, g0, g1, g2, g3, g4, rs⟩ := boxf HR2.out
    clear HB2 HK2 HR2 HA2
    go_wp2
    refine bodyPost_ret (v := .tuple #[.agg #[.slice none 0 0, .slice none 0 0, .slice none 0 0, .slice none 0 0, .int .i64 0], .int .i64 0, .int .i64 3]) (by simp [results, Try.results70, go_sem, r0, r1, r2, r3, r4]) rfl ⟨_, by rw [HV.out.1, HV.out.2.2], by rw [HV.out.2.1]; exact ans0 _ _, ?_⟩
    exact b2.trans (set5_below w2 _ _ _ _ _ _ _ (by omega))
  have HK : Hid (keyB ka kb = true) := hK
  clear hK
  rw [if_pos rfl]
  cases hU : inB u 0 2000000
  · have HV : Hid (E0 = 3 ∧ M1 = m0 ∧ N0 = 0) := by
      have h : takenE M ka kb u = 3 := by unfold takenE; rw [if_neg (by simpa using HC.out), if_neg (by rw [HK.out]; simp), if_pos hU]
      have hn : takenE M ka kb u ≠ 0 := by rw [h]; decide
      exact ⟨HE0.out.trans h, HM1.out.trans (by unfold takenM; rw [if_neg hn]), HN0.out.trans (by unfold takenN; rw [if_neg hn])⟩
    obtain ⟨r0, r1, r2, r3, r4, g0, g1, g2, g3, g4, rs⟩ := boxf HR2.out
    clear HB2 HK2 HR2 HA2
    go_wp2_with (go_at_call 81; refine (within_any _ _ _ _).mono ?_; rintro e w1 ⟨rfl, rfl⟩)
    refine bodyPost_ret (v := .tuple #[.agg #[.slice none 0 0, .slice none 0 0, .slice none 0 0, .slice none 0 0, .int .i64 0], .int .i64 0, .int .i64 3]) (by simp [results, Try.results70, go_sem, r0, r1, r2, r3, r4]) rfl ⟨_, by rw [HV.out.1, HV.out.2.2], by rw [HV.out.2.1]; exact ans0 _ _, ?_⟩
    exact b2.trans (set5_below w2 _ _ _ _ _ _ _ (by omega))
  have m3 := ((chk_zero M).1 HC.out).few
  obtain ⟨q0, q1, q2, q3, q4, f0, f1, f2, f3, f4, qs⟩ := boxf HB2.out
  go_wp2_with (go_at_call 81; refine (within_any _ _ _ _).mono ?_; rintro e w1 ⟨rfl, rfl⟩)
  have HU : Hid (inB u 0 2000000 = true) := hU
  clear hU
  refine (copy_any M aS aH aF aL cS cH cF cL w2 HA2.out).mono ?_
  rintro e w3 ⟨gS, gH, gF, gL, kS, kH, kF, kL, rfl, c3, hb3⟩
  have b3 := b2.trans (hb3.mono b2.size)
  have HB3 : Hid _ := (hb3.block w.heap.size (lt_of_block HB2.out)).trans HB2.out
  have HK3 : Hid _ := (hb3.block (w.heap.size + 1) (lt_of_block HK2.out)).trans HK2.out
  have HR3 : Hid _ := (hb3.block (w.heap.size + 2) (lt_of_block HR2.out)).trans HR2.out
  have t2 := lt_of_block HR2.out
  have b2s := b2.size
  clear hb3 b2 HB2 HK2 HR2 HA2 q0 q1 q2 q3 q4 f0 f1 f2 f3 f4 qs
  have hM : Mine (set5 w3 w.heap.size (.slice gS M.slots.length kS) (.slice gH M.heads.length kH) (.slice gF M.free.length kF) (.slice gL M.locks.length kL) (.int .i64 M.now)) w.heap.size w2.heap.size gS gH gF gL kS kH kF kL M :=
    ⟨set5_block HB3.out _ _ _ _ _, c3.set5 HB3.out _ _ _ _ _, m1, m2, by omega, m4⟩
  have b4 := b3.trans (set5_below w3 w.heap.size w.heap.size (.slice gS M.slots.length kS) (.slice gH M.heads.length kH) (.slice gF M.free.length kF) (.slice gL M.locks.length kL) (.int .i64 M.now) (Nat.le_refl _))
  have HR4 : Hid ((set5 w3 w.heap.size (.slice gS M.slots.length kS) (.slice gH M.heads.length kH) (.slice gF M.free.length kF) (.slice gL M.locks.length kL) (.int .i64 M.now)).heap[w.heap.size + 2]? = _) := (set5_other (by omega)).trans HR3.out
  have HK4 : Hid ((set5 w3 w.heap.size (.slice gS M.slots.length kS) (.slice gH M.heads.length kH) (.slice gF M.free.length kF) (.slice gL M.locks.length kL) (.int .i64 M.now)).heap[w.heap.size + 1]? = _) := (set5_other (by omega)).trans HK3.out
  have HM : Hid _ := hM
  obtain ⟨q0, q1, q2, q3, q4, f0, f1, f2, f3, f4, qs⟩ := boxf HB3.out
  obtain ⟨k0, k1⟩ := keyf HK3.out
  have kne : w.heap.size + 1 ≠ w.heap.size := by omega
  clear hM HB3 HR3 HK3 c3
  go_wp2_with fail
  rw [show ((((w3.setCell ⟨w.heap.size, 0, none⟩ (.slice gS M.slots.length kS)).setCell ⟨w.heap.size, 1, none⟩ (.slice gH M.heads.length kH)).setCell ⟨w.heap.size, 2, none⟩ (.slice gF M.free.length kF)).setCell ⟨w.heap.size, 3, none⟩ (.slice gL M.locks.length kL)).setCell ⟨w.heap.size, 4, none⟩ (.int .i64 M.now) = set5 w3 w.heap.size (.slice gS M.slots.length kS) (.slice gH M.heads.length kH) (.slice gF M.free.length kF) (.slice gL M.locks.length kL) (.int .i64 M.now) from rfl]
  clear q0 q1 q2 q3 q4 f0 f1 f2 f3 f4 qs b3 k0 k1
  generalize set5 w3 w.heap.size (.slice gS M.slots.length kS) (.slice gH M.heads.length kH) (.slice gF M.free.length kF) (.slice gL M.locks.length kL) (.int .i64 M.now) = W4 at *
  by_cases hF : M.free.length = 0
  · have HV : Hid (E0 = 7 ∧ M1 = m0 ∧ N0 = 0) := by
      have h : takenE M ka kb u = 7 := by unfold takenE; rw [if_neg (by simpa using HC.out), if_neg (by rw [HK.out]; simp), if_neg (by rw [HU.out]; simp), if_pos hF]
      have hn : takenE M ka kb u ≠ 0 := by rw [h]; decide
      exact ⟨HE0.out.trans h, HM1.out.trans (by unfold takenM; rw [if_neg hn]), HN0.out.trans (by unfold takenN; rw [if_neg hn])⟩
    have hbx := HM.out.box
    rw [hF] at hbx
    refine (take_no W4 w.heap.size _ _ _ _ _ _ ka kb u hbx).mono ?_
    rintro e w5 ⟨rfl, hb5⟩
    have b5 := b4.trans (hb5.mono b4.size)
    have HR5 : Hid _ := (hb5.block (w.heap.size + 2) (lt_of_block HR4.out)).trans HR4.out
    obtain ⟨r0, r1, r2, r3, r4, g0, g1, g2, g3, g4, rs⟩ := boxf HR5.out
    clear HR4 HM hb5 hbx hF HR5 HK4
    go_wp2
    refine bodyPost_ret (v := .tuple #[.agg #[.slice none 0 0, .slice none 0 0, .slice none 0 0, .slice none 0 0, .int .i64 0], .int .i64 0, .int .i64 7]) (by simp [results, Try.results70, go_sem, r0, r1, r2, r3, r4]) rfl ⟨_, by rw [HV.out.1, HV.out.2.2], by rw [HV.out.2.1]; exact ans0 _ _, ?_⟩
    exact b5.trans (set5_below w5 _ _ _ _ _ _ _ (by omega))
  · obtain ⟨i0, i1, -, -⟩ := last_in ((chk_zero M).1 HC.out) (by omega)
    have HV : Hid (E0 = 0 ∧ M1 = takeM M ka kb u ∧ N0 = lastF M) := by
      have : takenE M ka kb u = 0 := by unfold takenE; rw [if_neg (by simpa using HC.out), if_neg (by rw [HK.out]; simp), if_neg (by rw [HU.out]; simp), if_neg hF]
      exact ⟨HE0.out.trans this, HM1.out.trans (by unfold takenM; rw [this, if_pos rfl]), HN0.out.trans (by unfold takenN; rw [this, if_pos rfl])⟩
    refine (take_any M W4 _ _ gS gH gF gL kS kH kF kL ka kb u HM.out (by omega) i0 i1).mono ?_
    rintro e w5 ⟨rfl, aS', aH', aF', aL', cS', cH', cF', cL', k5, A5, kept, hi5⟩
    have b5 : Below w.heap.size w w5 := b4.trans ⟨kept.os, kept.tape, kept.output, kept.size, fun k hk => kept.block k (by omega) (by omega)⟩
    have HR5 : Hid _ := (kept.block (w.heap.size + 2) t2 (by omega)).trans HR4.out
    have HA5 : Hid _ := A5
    have HK5 : Hid _ := k5
    clear A5 kept HR4 HM b4 k5 HK4
    obtain ⟨r0, r1, r2, r3, r4, g0, g1, g2, g3, g4, rs⟩ := boxf HR5.out
    obtain ⟨q0, q1, q2, q3, q4, f0, f1, f2, f3, f4, qs⟩ := boxf HK5.out
    generalize hMn : takeM M ka kb u = Mn at *
    generalize hLn : lastF M = Ln at *
    clear hMn hLn
    go_wp2
    refine bodyPost_ret (v := .tuple #[.agg #[.slice aS' Mn.slots.length cS', .slice aH' Mn.heads.length cH', .slice aF' Mn.free.length cF', .slice aL' Mn.locks.length cL', .int .i64 Mn.now], .int .i64 Ln, .int .i64 0]) (by simp [results, Try.results70, go_sem, r0, r1, r2, r3, r4]) rfl ⟨_, by rw [HV.out.1, HV.out.2.2], ?_, ?_⟩
    · rw [HV.out.2.1]
      have A6 := HA5.out.off hi5 t2 (fun k hk => set5_other (w := w5) (v0 := .slice aS' Mn.slots.length cS') (v1 := .slice aH' Mn.heads.length cH') (v2 := .slice aF' Mn.free.length cF') (v3 := .slice aL' Mn.locks.length cL') (v4 := .int .i64 Mn.now) hk)
      exact ⟨aS', aH', aF', aL', cS', cH', cF', cL', rfl, A6, hi5.mono b2s⟩
    · exact b5.trans (set5_below w5 _ _ _ _ _ _ _ (by omega))





end Go.Proofs.Ytdbilofhcadmoab.mm

/- What is taken, held and put leaves memory as Check wants it; who holds and lets go leaves what was; what was put last is taken next. -/
namespace Go.Proofs.Ytdbilofhcadmoab.mm
set_option linter.unusedVariables false

theorem getD_lt (S : List Sl) (j : Nat) (h : j < S.length) : S.getD j sl0 = S[j] := by simp [List.getD_eq_getElem?_getD, h]
theorem getD_set_same (S : List Sl) (j : Nat) (s : Sl) (h : j < S.length) : (S.set j s).getD j sl0 = s := by simp [List.getD_eq_getElem?_getD, h]
theorem getD_set_other (S : List Sl) (i j : Nat) (s : Sl) (h : j ≠ i) : (S.set j s).getD i sl0 = S.getD i sl0 := by simp [List.getD_eq_getElem?_getD, List.getElem?_set_ne h]

theorem Ok.set {m : Mm} (h : Ok m) (j : Nat) (s : Sl) (hs : slotErr m.heads.length m.slots.length s = 0) (F : List Int) (h1 : ∀ a ∈ F, freeOk (m.slots.set j s) a = true) (h2 : F.Nodup)
    (h3 : ∀ i, i < m.slots.length → ((m.slots.set j s).getD i sl0).refs = 0 → (i : Int) ∈ F) : Ok { m with slots := m.slots.set j s, free := F } := by
  refine ⟨by simpa using h.ns, h.nh, h.nl, h.now, ?_, ?_, h1, h2, ?_⟩
  · intro x hx
    dsimp only at hx ⊢
    rw [List.length_set]
    rcases List.mem_or_eq_of_mem_set hx with hx | rfl
    · exact h.slot x hx
    · exact hs
  · intro p hp
    dsimp only at hp ⊢
    rw [List.length_set]
    exact h.chain p hp
  · intro i hi hr
    exact h3 i (by simpa using hi) hr

theorem slot_good {nh ns : Nat} {s : Sl} (h : slotErr nh ns s = 0) : inB s.refs 0 1000 = true ∧ inB s.unt 0 2000000 = true ∧ keyB s.a s.b = true ∧ inB s.next (-(nh : Int)) ns = true := by
  unfold slotErr at h
  split at h
  · rename_i h1
    split at h
    · rename_i h2
      simp only [Bool.and_eq_true] at h1
      exact ⟨h1.1.1, h1.1.2, h1.2, h2⟩
    · omega
  · omega
theorem good_slot {nh ns : Nat} {s : Sl} (h1 : inB s.refs 0 1000 = true) (h2 : inB s.unt 0 2000000 = true) (h3 : keyB s.a s.b = true) (h4 : inB s.next (-(nh : Int)) ns = true) : slotErr nh ns s = 0 := by
  simp [slotErr, h1, h2, h3, h4]

theorem free_split {m : Mm} (hF : 0 < m.free.length) : m.free = m.free.take (m.free.length - 1) ++ [lastF m] := by
  have hl : lastF m = m.free[m.free.length - 1] := by
    have : m.free.length - 1 < m.free.length := by omega
    simp [lastF, List.getD_eq_getElem?_getD, this]
  rw [hl]
  have := List.take_succ_eq_append_getElem (l := m.free) (i := m.free.length - 1) (by omega)
  rw [← this, show m.free.length - 1 + 1 = m.free.length by omega, List.take_length]

theorem last_ok {m : Mm} (h : Ok m) (hF : 0 < m.free.length) : 0 ≤ lastF m ∧ lastF m < m.slots.length ∧ refsM m (lastF m) = 0 := by
  have hm : lastF m ∈ m.free := by rw [free_split hF]; simp
  exact (freeOk_iff _ _).1 (h.free _ hm)

theorem take_ok {m : Mm} (h : Ok m) {ka kb u : Int} (hk : keyB ka kb = true) (hu : inB u 0 2000000 = true) (hF : 0 < m.free.length) : Ok (takeM m ka kb u) := by
  obtain ⟨l0, l1, l2⟩ := last_ok h hF
  obtain ⟨j, hj⟩ : ∃ j : Nat, lastF m = j := ⟨(lastF m).toNat, by omega⟩
  have hsp := free_split hF
  have hnd := h.nodup
  rw [hsp, List.nodup_append] at hnd
  have hjS : j < m.slots.length := by omega
  unfold takeM
  rw [hj] at *
  rw [Int.toNat_natCast]
  have hgood := slot_good (h.slot _ (List.getElem_mem hjS))
  refine h.set j _ (good_slot rfl hu hk ?_) _ ?_ hnd.1 ?_
  · rw [getD_lt _ _ hjS]; exact hgood.2.2.2
  · intro a ha
    have hne : a ≠ j := hnd.2.2 a ha j (by simp)
    have hf := (freeOk_iff _ _).1 (h.free a (List.mem_of_mem_take ha))
    rw [freeOk_iff]
    refine ⟨hf.1, by simpa using hf.2.1, ?_⟩
    rw [getD_set_other _ _ _ _ (by omega)]
    exact hf.2.2
  · intro i hi hr
    by_cases e : j = i
    · subst e
      rw [getD_set_same _ _ _ hjS] at hr
      simp at hr
    · rw [getD_set_other _ _ _ _ e] at hr
      have := h.all i hi hr
      rw [hsp, List.mem_append, List.mem_singleton] at this
      rcases this with h | h
      · exact h
      · omega

theorem refs_lt {m : Mm} {i : Nat} (h : i < m.slots.length) : refsM m i = m.slots[i].refs := by simp [refsM, List.getD_eq_getElem?_getD, h]

theorem setRefs_eq {m : Mm} {j : Nat} (h : j < m.slots.length) (r : Int) : setRefs m j r = m.slots.set j { m.slots[j] with refs := r } := by
  simp [setRefs, List.getD_eq_getElem?_getD, h]

theorem turn_ok {m : Mm} (h : Ok m) {j : Nat} (hj : j < m.slots.length) {r : Int} (h0 : 0 < r) (h1 : r ≤ 1000) (hr : refsM m j ≠ 0) : Ok { m with slots := setRefs m j r } := by
  rw [setRefs_eq hj]
  rw [refs_lt hj] at hr
  have hgood := slot_good (h.slot _ (List.getElem_mem hj))
  refine h.set j _ (good_slot (s := { m.slots[j] with refs := r }) ((inB_iff _ _ _).2 ⟨Int.le_of_lt h0, h1⟩) hgood.2.1 hgood.2.2.1 hgood.2.2.2) m.free ?_ h.nodup ?_
  · intro a ha
    have hf := (freeOk_iff _ _).1 (h.free a ha)
    have hne : a ≠ j := by
      rintro rfl
      rw [Int.toNat_natCast, getD_lt _ _ hj] at hf
      exact hr hf.2.2
    rw [freeOk_iff]
    refine ⟨hf.1, by simpa using hf.2.1, ?_⟩
    rw [getD_set_other _ _ _ _ (by omega)]
    exact hf.2.2
  · intro i hi hr'
    by_cases e : j = i
    · subst e
      rw [getD_set_same _ _ _ hj] at hr'
      dsimp only at hr'
      omega
    · rw [getD_set_other _ _ _ _ e] at hr'
      exact h.all i hi hr'

theorem isSl_iff (m : Mm) (i : Int) : isSl m i = true ↔ ∃ j : Nat, i = j ∧ j < m.slots.length := by
  unfold isSl
  rw [inB_iff]
  constructor
  · intro h
    exact ⟨i.toNat, by omega, by omega⟩
  · rintro ⟨j, rfl, h⟩
    omega

theorem hold_ok {m : Mm} (h : Ok m) {i : Int} (hi : isSl m i = true) (h0 : 0 < refsM m i) (h1 : refsM m i < 1000) : Ok (holdM m i) := by
  obtain ⟨j, rfl, hj⟩ := (isSl_iff m i).1 hi
  exact turn_ok h hj (by omega) (by omega) (by omega)

theorem put_ok {m : Mm} (h : Ok m) {i : Int} (hi : isSl m i = true) (h0 : 0 < refsM m i) (h1 : refsM m i ≤ 1000) : Ok (putM m i) := by
  obtain ⟨j, rfl, hj⟩ := (isSl_iff m i).1 hi
  by_cases hl : refsM m j = 1
  · have e : putM m j = { m with slots := setRefs m j 0, free := m.free ++ [(j : Int)] } := by simp [putM, hl]
    rw [e, setRefs_eq hj]
    rw [refs_lt hj] at hl
    have hgood := slot_good (h.slot _ (List.getElem_mem hj))
    have hnj : (j : Int) ∉ m.free := fun hm => by
      have hf := (freeOk_iff _ _).1 (h.free _ hm)
      rw [Int.toNat_natCast, getD_lt _ _ hj, hl] at hf
      omega
    refine h.set j _ (good_slot (s := { m.slots[j] with refs := 0 }) rfl hgood.2.1 hgood.2.2.1 hgood.2.2.2) _ ?_ ?_ ?_
    · intro a ha
      rw [List.mem_append, List.mem_singleton] at ha
      rw [freeOk_iff]
      rcases ha with ha | rfl
      · have hf := (freeOk_iff _ _).1 (h.free a ha)
        have hne : a ≠ j := by rintro rfl; exact hnj ha
        refine ⟨hf.1, by simpa using hf.2.1, ?_⟩
        rw [getD_set_other _ _ _ _ (by omega)]
        exact hf.2.2
      · refine ⟨by omega, by simpa using hj, ?_⟩
        rw [Int.toNat_natCast, getD_set_same _ _ _ hj]
    · rw [List.nodup_append]
      refine ⟨h.nodup, by simp, fun a ha b hb => ?_⟩
      rw [List.mem_singleton] at hb
      subst hb
      rintro rfl
      exact hnj ha
    · intro i hi' hr'
      rw [List.mem_append, List.mem_singleton]
      by_cases e : j = i
      · exact .inr (by omega)
      · rw [getD_set_other _ _ _ _ e] at hr'
        exact .inl (h.all i hi' hr')
  · have e : putM m j = { m with slots := setRefs m j (refsM m j - 1) } := by simp [putM, hl]
    rw [e]
    exact turn_ok h hj (by omega) (by omega) (by omega)

theorem isSl_hold (m : Mm) (i k : Int) : isSl (holdM m i) k = isSl m k := by simp [isSl, holdM, setRefs]
theorem isSl_put (m : Mm) (i k : Int) : isSl (putM m i) k = isSl m k := by simp [isSl, putM, setRefs]
theorem refs_hold {m : Mm} {i : Int} (hi : isSl m i = true) : refsM (holdM m i) i = refsM m i + 1 := by
  obtain ⟨j, rfl, hj⟩ := (isSl_iff m i).1 hi
  simp [holdM, refsM, setRefs, List.getD_eq_getElem?_getD, hj]
theorem refs_put {m : Mm} {i : Int} (hi : isSl m i = true) : refsM (putM m i) i = refsM m i - 1 := by
  obtain ⟨j, rfl, hj⟩ := (isSl_iff m i).1 hi
  simp [putM, refsM, setRefs, List.getD_eq_getElem?_getD, hj]

/- Slot i with so many Refs, all else as it was. -/
def withRefs (m : Mm) (i r : Int) : Mm := { m with slots := setRefs m i r }
theorem withRefs_self {m : Mm} {i : Int} (hi : isSl m i = true) : withRefs m i (refsM m i) = m := by
  obtain ⟨j, rfl, hj⟩ := (isSl_iff m i).1 hi
  obtain ⟨S, H, F, L, n⟩ := m
  dsimp only at hj
  have e : (S.getD j sl0) = S[j] := getD_lt S j hj
  simp only [withRefs, setRefs, refsM, Int.toNat_natCast, e, Mm.mk.injEq, and_true]
  exact List.set_getElem_self hj
theorem hold_with {m : Mm} {i : Int} : holdM m i = withRefs m i (refsM m i + 1) := rfl
theorem refs_with {m : Mm} {i : Int} (hi : isSl m i = true) (r : Int) : refsM (withRefs m i r) i = r := by
  obtain ⟨j, rfl, hj⟩ := (isSl_iff m i).1 hi
  simp [withRefs, refsM, setRefs, List.getD_eq_getElem?_getD, hj]
theorem isSl_with (m : Mm) (i k r : Int) : isSl (withRefs m i r) k = isSl m k := by simp [isSl, withRefs, setRefs]
theorem with_with {m : Mm} {i : Int} (hi : isSl m i = true) (r q : Int) : withRefs (withRefs m i r) i q = withRefs m i q := by
  obtain ⟨j, rfl, hj⟩ := (isSl_iff m i).1 hi
  simp [withRefs, setRefs, List.getD_eq_getElem?_getD, hj]
theorem hold_of_with {m : Mm} {i : Int} (hi : isSl m i = true) (r : Int) : holdM (withRefs m i r) i = withRefs m i (r + 1) := by
  show withRefs (withRefs m i r) i (refsM (withRefs m i r) i + 1) = _
  rw [refs_with hi, with_with hi]
theorem put_of_with {m : Mm} {i : Int} (hi : isSl m i = true) (r : Int) (hr : r ≠ 1) : putM (withRefs m i r) i = withRefs m i (r - 1) := by
  have h : putM (withRefs m i r) i = withRefs (withRefs m i r) i (refsM (withRefs m i r) i - 1) := by
    have e := refs_with hi r
    unfold putM
    rw [e, if_neg hr]
    rfl
  rw [h, refs_with hi, with_with hi]





end Go.Proofs.Ytdbilofhcadmoab.mm

/- Chains as plain data: the slots of a chain, whether chains are right, what is mapped, what is linked and cut out; no program text is named here. -/
namespace Go.Proofs.Ytdbilofhcadmoab.mm
set_option linter.unusedVariables false

def nextN (S : List Sl) (n : Int) : Int := (S.getD (n - 1).toNat sl0).next
def walkL (S : List Sl) : Nat → Int → List Int
  | 0, _ => []
  | k + 1, n => if 0 < n then (n - 1) :: walkL S k (nextN S n) else []
def walkE (S : List Sl) : Nat → Int → Int
  | 0, n => n
  | k + 1, n => if 0 < n then walkE S k (nextN S n) else n

def headM (M : Mm) (b : Nat) : Int := M.heads.getD b 0
def chL (M : Mm) (b : Nat) : List Int := walkL M.slots M.slots.length (headM M b)
def chE (M : Mm) (b : Nat) : Int := walkE M.slots M.slots.length (headM M b)
def chOk (M : Mm) (b : Nat) : Bool := chE M b == -1 - (b : Int)
def slotAt (M : Mm) (a : Int) : Sl := M.slots.getD a.toNat sl0
def keyAt (M : Mm) (a : Int) : Int × Int := ((slotAt M a).a, (slotAt M a).b)
def bucket (a b : Int) (n : Nat) : Int := (7 * a + 3 * b + a * b) % n
def hasK (M : Mm) (all : List Int) (k : Int × Int) : Bool := (all.map (keyAt M)).contains k
def whoK (M : Mm) (all : List Int) (k : Int × Int) : Int := (all.find? fun a => keyAt M a == k).getD 0

def slotC (M : Mm) (b : Nat) (all : List Int) (a : Int) : Int :=
  if (slotAt M a).refs = 0 ∨ (slotAt M a).inn = false then 5
  else if bucket (slotAt M a).a (slotAt M a).b M.heads.length ≠ b then 4
  else if hasK M all (keyAt M a) then 6 else 0
def scanC (M : Mm) (b : Nat) : List Int → List Int → Int
  | _, [] => 0
  | all, a :: l => if slotC M b all a ≠ 0 then slotC M b all a else scanC M b (all ++ [a]) l
def chkB (M : Mm) : Nat → Nat → List Int → Int
  | 0, _, _ => 0
  | k + 1, b, all => if chOk M b then (if scanC M b all (chL M b) ≠ 0 then scanC M b all (chL M b) else chkB M k (b + 1) (all ++ chL M b)) else 4
def chkC (M : Mm) : Int := if chk M ≠ 0 then chk M else chkB M M.heads.length 0 []
def allTo (M : Mm) (b : Nat) : List Int := (List.range b).flatMap (chL M)
def allC (M : Mm) : List Int := allTo M M.heads.length

theorem allTo_succ (M : Mm) (b : Nat) : allTo M (b + 1) = allTo M b ++ chL M b := by simp [allTo, List.range_succ]
theorem allTo_zero (M : Mm) : allTo M 0 = [] := rfl

theorem scanC_drop (M : Mm) (b : Nat) (all l : List Int) (k : Nat) (h : k < l.length) :
    scanC M b (all ++ l.take k) (l.drop k) = if slotC M b (all ++ l.take k) l[k] ≠ 0 then slotC M b (all ++ l.take k) l[k] else scanC M b (all ++ l.take (k + 1)) (l.drop (k + 1)) := by
  rw [List.drop_eq_getElem_cons h, List.take_succ_eq_append_getElem h, ← List.append_assoc]; rfl
theorem scanC_end (M : Mm) (b : Nat) (all l : List Int) (k : Nat) (h : l.length ≤ k) : scanC M b (all ++ l.take k) (l.drop k) = 0 := by
  rw [List.drop_of_length_le h]; rfl
theorem chkB_step (M : Mm) (b : Nat) (h : b < M.heads.length) :
    chkB M (M.heads.length - b) b (allTo M b) = if chOk M b then (if scanC M b (allTo M b) (chL M b) ≠ 0 then scanC M b (allTo M b) (chL M b) else chkB M (M.heads.length - (b + 1)) (b + 1) (allTo M (b + 1))) else 4 := by
  rw [show M.heads.length - b = (M.heads.length - (b + 1)) + 1 by omega, allTo_succ]; rfl
theorem chkB_end (M : Mm) (b : Nat) (h : M.heads.length ≤ b) (all : List Int) : chkB M (M.heads.length - b) b all = 0 := by
  rw [show M.heads.length - b = 0 by omega]; rfl

/- What Check's answer 0 says of chains. -/
structure OkC (M : Mm) : Prop where
  ok : Ok M
  ends : ∀ b, b < M.heads.length → chE M b = -1 - (b : Int)
  held : ∀ b, b < M.heads.length → ∀ a ∈ chL M b, (slotAt M a).refs ≠ 0 ∧ (slotAt M a).inn = true ∧ bucket (slotAt M a).a (slotAt M a).b M.heads.length = b
  keys : ((allC M).map (keyAt M)).Nodup

theorem hasK_iff (M : Mm) (all : List Int) (k : Int × Int) : hasK M all k = true ↔ k ∈ all.map (keyAt M) := by simp [hasK]

theorem slotC_zero (M : Mm) (b : Nat) (all : List Int) (a : Int) : slotC M b all a = 0 ↔ ((slotAt M a).refs ≠ 0 ∧ (slotAt M a).inn = true ∧ bucket (slotAt M a).a (slotAt M a).b M.heads.length = b) ∧ ¬ keyAt M a ∈ all.map (keyAt M) := by
  unfold slotC
  rw [← hasK_iff]
  by_cases h1 : (slotAt M a).refs = 0 ∨ (slotAt M a).inn = false
  · rw [if_pos h1]
    constructor
    · intro h; omega
    · rintro ⟨⟨h, h', _⟩, _⟩
      rcases h1 with h1 | h1
      · exact absurd h1 h
      · rw [h'] at h1; cases h1
  rw [if_neg h1]
  have h1' : (slotAt M a).refs ≠ 0 ∧ (slotAt M a).inn = true := by
    refine ⟨fun h => h1 (.inl h), ?_⟩
    cases h : (slotAt M a).inn
    · exact absurd (.inr h) h1
    · rfl
  by_cases h2 : bucket (slotAt M a).a (slotAt M a).b M.heads.length = b
  · rw [if_neg (by simpa using h2)]
    cases h3 : hasK M all (keyAt M a)
    · simp [h1', h2]
    · simp
  · rw [if_pos h2]
    constructor
    · intro h; omega
    · rintro ⟨⟨_, _, h⟩, _⟩; exact absurd h h2

theorem scanC_zero (M : Mm) (b : Nat) (l : List Int) : ∀ all : List Int, (all.map (keyAt M)).Nodup → (scanC M b all l = 0 ↔ (∀ a ∈ l, (slotAt M a).refs ≠ 0 ∧ (slotAt M a).inn = true ∧ bucket (slotAt M a).a (slotAt M a).b M.heads.length = b) ∧ ((all ++ l).map (keyAt M)).Nodup) := by
  induction l with
  | nil => intro all h; simp [scanC]; exact h
  | cons a l ih =>
    intro all hn
    simp only [scanC]
    by_cases h : slotC M b all a = 0
    · rw [if_neg (by simpa using h)]
      have h' := (slotC_zero M b all a).1 h
      have hn' : ((all ++ [a]).map (keyAt M)).Nodup := by
        rw [List.map_append, List.nodup_append]
        refine ⟨hn, by simp, ?_⟩
        intro x hx y hy e
        simp at hy
        subst hy
        subst e
        exact h'.2 hx
      rw [ih (all ++ [a]) hn', List.append_assoc]
      simp only [List.mem_cons, forall_eq_or_imp, List.cons_append, List.nil_append]
      constructor
      · rintro ⟨h1, h2⟩; exact ⟨⟨h'.1, h1⟩, h2⟩
      · rintro ⟨⟨_, h1⟩, h2⟩; exact ⟨h1, h2⟩
    · rw [if_pos h]
      constructor
      · intro hh; exact absurd hh h
      · rintro ⟨h1, h2⟩
        exfalso
        apply h
        rw [slotC_zero]
        refine ⟨h1 a (by simp), fun hm => ?_⟩
        rw [List.map_append, List.nodup_append] at h2
        exact h2.2.2 _ hm _ (by simp) rfl

theorem chOk_iff (M : Mm) (b : Nat) : chOk M b = true ↔ chE M b = -1 - (b : Int) := by simp [chOk]

theorem chkB_zero (M : Mm) : ∀ (k b : Nat), b + k = M.heads.length → ((allTo M b).map (keyAt M)).Nodup →
    (chkB M k b (allTo M b) = 0 ↔ (∀ c, b ≤ c → c < M.heads.length → chE M c = -1 - (c : Int) ∧ ∀ a ∈ chL M c, (slotAt M a).refs ≠ 0 ∧ (slotAt M a).inn = true ∧ bucket (slotAt M a).a (slotAt M a).b M.heads.length = c) ∧ ((allC M).map (keyAt M)).Nodup)
  | 0, b, hb, hn => by
    have : b = M.heads.length := by omega
    subst this
    simp only [chkB, true_iff]
    exact ⟨fun c h1 h2 => by omega, hn⟩
  | k + 1, b, hb, hn => by
    simp only [chkB]
    cases hc : chOk M b
    · simp only [Bool.false_eq_true, if_false]
      constructor
      · intro h; omega
      · rintro ⟨h, _⟩
        have := (chOk_iff M b).2 (h b (Nat.le_refl _) (by omega)).1
        rw [hc] at this; cases this
    · have hc' := (chOk_iff M b).1 hc
      simp only [if_true]
      have hs := scanC_zero M b (chL M b) (allTo M b) hn
      rw [← allTo_succ] at hs ⊢
      by_cases h : scanC M b (allTo M b) (chL M b) = 0
      · rw [if_neg (by simpa using h)]
        have h' := hs.1 h
        rw [chkB_zero M k (b + 1) (by omega) h'.2]
        constructor
        · rintro ⟨h1, h2⟩
          refine ⟨fun c hc1 hc2 => ?_, h2⟩
          by_cases e : c = b
          · subst e; exact ⟨hc', h'.1⟩
          · exact h1 c (by omega) hc2
        · rintro ⟨h1, h2⟩
          exact ⟨fun c hc1 hc2 => h1 c (by omega) hc2, h2⟩
      · rw [if_pos h]
        constructor
        · intro hh; exact absurd hh h
        · rintro ⟨h1, h2⟩
          exfalso
          apply h
          rw [hs]
          refine ⟨(h1 b (Nat.le_refl _) (by omega)).2, ?_⟩
          have e : allC M = allTo M (b + 1) ++ ((List.range (M.heads.length - (b + 1))).map (· + (b + 1))).flatMap (chL M) := by
            unfold allC allTo
            rw [← List.flatMap_append]
            congr 1
            rw [show M.heads.length = (b + 1) + (M.heads.length - (b + 1)) by omega, List.range_add]
            simp [Nat.add_comm]
          rw [e, List.map_append, List.nodup_append] at h2
          exact h2.1

theorem chkC_zero (M : Mm) : chkC M = 0 ↔ OkC M := by
  unfold chkC
  by_cases h : chk M = 0
  · rw [if_neg (by simpa using h), show ([] : List Int) = allTo M 0 from rfl, chkB_zero M M.heads.length 0 (by omega) (by simp [allTo])]
    constructor
    · rintro ⟨h1, h2⟩
      exact ⟨(chk_zero M).1 h, fun b hb => (h1 b (Nat.zero_le _) hb).1, fun b hb => (h1 b (Nat.zero_le _) hb).2, h2⟩
    · rintro ⟨_, h1, h2, h3⟩
      exact ⟨fun c _ hc => ⟨h1 c hc, h2 c hc⟩, h3⟩
  · rw [if_pos h]
    constructor
    · intro hh; exact absurd hh h
    · intro hh; exact absurd ((chk_zero M).2 hh.ok) h





end Go.Proofs.Ytdbilofhcadmoab.mm

/- What is linked and cut out, as plain data: chains stay right, and which slots are in them. -/
namespace Go.Proofs.Ytdbilofhcadmoab.mm
set_option linter.unusedVariables false

def ownB (M : Mm) (a : Int) : Nat := (bucket (slotAt M a).a (slotAt M a).b M.heads.length).toNat
def linkM (M : Mm) (a : Int) : Mm := { M with slots := M.slots.set a.toNat { slotAt M a with next := headM M (ownB M a), inn := true }, heads := M.heads.set (ownB M a) (a + 1) }
def linkE (M : Mm) (a : Int) : Int := if chkC M ≠ 0 then chkC M else if isSl M a = false then 5 else if refsM M a = 0 then 8 else if hasK M (allC M) (keyAt M a) then 6 else 0
def linkedM (M : Mm) (a : Int) : Mm := if linkE M a = 0 then linkM M a else m0

def aheadF (a : Int) : List Int → Int → Int → Int
  | [], ah, _ => ah
  | c :: l, ah, la => aheadF a l (if c == a then la else ah) (c + 1)
def prevF (a : Int) : List Int → Int → Int
  | [], p => p
  | c :: l, p => if c == a then p else prevF a l (c + 1)
def cutM (M : Mm) (b : Nat) (ahead a : Int) : Mm :=
  if 0 < ahead then { M with slots := M.slots.set (ahead - 1).toNat { slotAt M (ahead - 1) with next := (slotAt M a).next } } else { M with heads := M.heads.set b (slotAt M a).next }
def keyN (M : Mm) (ka kb : Int) : Nat := (bucket ka kb M.heads.length).toNat
def withoutE (M : Mm) (ka kb : Int) : Int := if chkC M ≠ 0 then chkC M else if keyB ka kb = false then 3 else if hasK M (allC M) (ka, kb) = false then 5 else 0
def withoutN (M : Mm) (ka kb : Int) : Int := if withoutE M ka kb = 0 then whoK M (allC M) (ka, kb) else 0
def cutK (M : Mm) (ka kb : Int) : Mm := cutM M (keyN M ka kb) (aheadF (whoK M (allC M) (ka, kb)) (chL M (keyN M ka kb)) 0 0) (whoK M (allC M) (ka, kb))
def withoutM (M : Mm) (ka kb : Int) : Mm := if withoutE M ka kb = 0 then cutK M ka kb else m0

/- A way from a number along slots to an end. -/
def Path (S : List Sl) : Int → List Int → Int → Prop
  | n, [], e => n = e ∧ n ≤ 0
  | n, a :: l, e => n = a + 1 ∧ 0 ≤ a ∧ Path S (S.getD a.toNat sl0).next l e

theorem walk_path (S : List Sl) : ∀ (k : Nat) (n : Int), walkE S k n ≤ 0 → Path S n (walkL S k n) (walkE S k n) ∧ (walkL S k n).length ≤ k
  | 0, n, h => ⟨⟨rfl, h⟩, by simp [walkL]⟩
  | k + 1, n, h => by
    simp only [walkE, walkL] at h ⊢
    by_cases hn : 0 < n
    · rw [if_pos hn] at h
      rw [if_pos hn, if_pos hn]
      have := walk_path S k _ h
      exact ⟨⟨by omega, by omega, this.1⟩, by simpa using this.2⟩
    · rw [if_neg hn] at h
      rw [if_neg hn, if_neg hn]
      exact ⟨⟨rfl, h⟩, by simp⟩
theorem path_walk (S : List Sl) : ∀ (k : Nat) (n : Int) (l : List Int) (e : Int), Path S n l e → l.length ≤ k → walkL S k n = l ∧ walkE S k n = e
  | k, n, [], e, h, hl => by
    obtain ⟨rfl, h⟩ := h
    cases k with
    | zero => exact ⟨rfl, rfl⟩
    | succ k => simp only [walkE, walkL]; rw [if_neg (by omega), if_neg (by omega)]; exact ⟨rfl, rfl⟩
  | 0, n, a :: l, e, h, hl => by simp at hl
  | k + 1, n, a :: l, e, h, hl => by
    obtain ⟨rfl, h0, h⟩ := h
    have := path_walk S k _ l e h (by simpa using hl)
    simp only [walkE, walkL, nextN]
    rw [if_pos (by omega), if_pos (by omega), show a + 1 - 1 = a by omega]
    rw [this.1, this.2]
    exact ⟨rfl, rfl⟩
theorem path_end {S : List Sl} : ∀ {n : Int} {l : List Int} {e : Int}, Path S n l e → e ≤ 0
  | _, [], _, h => by obtain ⟨rfl, h⟩ := h; exact h
  | _, _ :: _, _, h => path_end h.2.2
theorem path_congr {S S' : List Sl} : ∀ {n : Int} {l : List Int} {e : Int}, (∀ a ∈ l, (S'.getD a.toNat sl0).next = (S.getD a.toNat sl0).next) → Path S n l e → Path S' n l e
  | _, [], _, _, h => h
  | _, a :: l, _, hh, h => by
    refine ⟨h.1, h.2.1, ?_⟩
    rw [hh a (by simp)]
    exact path_congr (fun x hx => hh x (by simp [hx])) h.2.2
/- A way to a number. -/
def PathTo (S : List Sl) : Int → List Int → Int → Prop
  | n, [], e => n = e
  | n, a :: l, e => n = a + 1 ∧ 0 ≤ a ∧ PathTo S (S.getD a.toNat sl0).next l e
theorem path_app {S : List Sl} : ∀ {n : Int} {l1 l2 : List Int} {e : Int}, Path S n (l1 ++ l2) e ↔ ∃ m, PathTo S n l1 m ∧ Path S m l2 e
  | n, [], l2, e => by simp [PathTo]
  | n, a :: l1, l2, e => by
    simp only [List.cons_append, Path, PathTo, path_app (l1 := l1)]
    constructor
    · rintro ⟨h1, h2, m, h3, h4⟩; exact ⟨m, ⟨h1, h2, h3⟩, h4⟩
    · rintro ⟨m, ⟨h1, h2, h3⟩, h4⟩; exact ⟨h1, h2, m, h3, h4⟩
theorem pathTo_snoc {S : List Sl} : ∀ {n : Int} {l : List Int} {p e : Int}, PathTo S n (l ++ [p]) e ↔ PathTo S n l (p + 1) ∧ 0 ≤ p ∧ (S.getD p.toNat sl0).next = e
  | n, [], p, e => by simp [PathTo]
  | n, a :: l, p, e => by
    simp only [List.cons_append, PathTo, pathTo_snoc (l := l)]
    constructor
    · rintro ⟨h1, h2, h3, h4⟩; exact ⟨⟨h1, h2, h3⟩, h4⟩
    · rintro ⟨⟨h1, h2, h3⟩, h4⟩; exact ⟨h1, h2, h3, h4⟩
theorem pathTo_congr {S S' : List Sl} : ∀ {n : Int} {l : List Int} {e : Int}, (∀ a ∈ l, (S'.getD a.toNat sl0).next = (S.getD a.toNat sl0).next) → PathTo S n l e → PathTo S' n l e
  | _, [], _, _, h => h
  | _, a :: l, _, hh, h => by
    refine ⟨h.1, h.2.1, ?_⟩
    rw [hh a (by simp)]
    exact pathTo_congr (fun x hx => hh x (by simp [hx])) h.2.2
theorem path_nonneg {S : List Sl} : ∀ {n : Int} {l : List Int} {e : Int}, Path S n l e → ∀ a ∈ l, 0 ≤ a
  | _, [], _, _, _, ha => by cases ha
  | _, x :: l, _, h, a, ha => by
    rcases List.mem_cons.1 ha with rfl | ha
    · exact h.2.1
    · exact path_nonneg h.2.2 a ha
/- Where each number that stands is one that may stand, each slot of a way is one. -/
theorem path_lt {S : List Sl} {N : Nat} (hs : ∀ s ∈ S, s.next ≤ N) (h0 : (0 : Int) ≤ N) : ∀ {n : Int} {l : List Int} {e : Int}, n ≤ N → Path S n l e → ∀ a ∈ l, a < N
  | _, [], _, _, _, _, ha => by cases ha
  | n, x :: l, _, hn, h, a, ha => by
    rcases List.mem_cons.1 ha with rfl | ha
    · have := h.1; omega
    · refine path_lt hs h0 (n := (S.getD x.toNat sl0).next) ?_ h.2.2 a ha
      by_cases hx : x.toNat < S.length
      · rw [getD_lt S _ hx]; exact hs _ (List.getElem_mem hx)
      · rw [List.getD_eq_getElem?_getD, List.getElem?_eq_none (by omega)]; exact h0

theorem few' : ∀ (n : Nat) (l : List Int), l.Nodup → (∀ a ∈ l, 0 ≤ a ∧ a < n) → l.length ≤ n
  | 0, l, hn, h => by
    match l, h with
    | [], _ => simp
    | a :: _, h => have := h a (by simp); omega
  | n + 1, l, hn, h => by
    have h1 := few' n (l.erase (n : Int)) (hn.erase _) (fun a ha => by
      have h3 := (hn.mem_erase_iff).1 ha
      have h4 := h a h3.2
      have h5 := h3.1
      omega)
    rw [List.length_erase] at h1
    split at h1 <;> omega

theorem OkC.path {M : Mm} (h : OkC M) {b : Nat} (hb : b < M.heads.length) : Path M.slots (headM M b) (chL M b) (-1 - (b : Int)) := by
  have e := h.ends b hb
  have := (walk_path M.slots M.slots.length (headM M b) (by show chE M b ≤ 0; omega)).1
  rw [show walkE M.slots M.slots.length (headM M b) = -1 - (b : Int) from e] at this
  exact this
theorem Ok.headIn {M : Mm} (h : Ok M) {b : Nat} (hb : b < M.heads.length) : headM M b ≠ 0 ∧ inB (headM M b) (-(M.heads.length : Int)) M.slots.length = true := by
  have hl : b < M.locks.length := by have := h.nl; omega
  have hz : b < (M.heads.zip M.locks).length := by simp; omega
  have := h.chain _ (List.getElem_mem hz)
  simp only [List.getElem_zip, chainErr] at this
  have e : headM M b = M.heads[b] := by simp [headM, List.getD_eq_getElem?_getD, hb]
  rw [e]
  split at this
  · rename_i hh; exact hh
  · omega
theorem OkC.slots {M : Mm} (h : OkC M) {b : Nat} (hb : b < M.heads.length) : ∀ a ∈ chL M b, 0 ≤ a ∧ a < M.slots.length := by
  intro a ha
  have hp := h.path hb
  refine ⟨path_nonneg hp a ha, path_lt (fun s hs => ?_) (by omega) ?_ hp a ha⟩
  · have := (slot_good (h.ok.slot s hs)).2.2.2
    exact ((inB_iff _ _ _).1 this).2
  · exact ((inB_iff _ _ _).1 (h.ok.headIn hb).2).2
theorem mem_allTo {M : Mm} {n : Nat} {a : Int} : a ∈ allTo M n ↔ ∃ b, b < n ∧ a ∈ chL M b := by simp [allTo]
theorem mem_allC {M : Mm} {a : Int} : a ∈ allC M ↔ ∃ b, b < M.heads.length ∧ a ∈ chL M b := mem_allTo
theorem nodup_of_map {α β : Type} {f : α → β} : ∀ {l : List α}, (l.map f).Nodup → l.Nodup
  | [], _ => by simp
  | a :: l, h => by
    rw [List.map_cons, List.nodup_cons] at h
    rw [List.nodup_cons]
    exact ⟨fun hm => h.1 (List.mem_map_of_mem hm), nodup_of_map h.2⟩
theorem allC_split (M : Mm) {b : Nat} (hb : b < M.heads.length) : ∃ l2, allC M = allTo M b ++ chL M b ++ l2 ∧ l2 = ((List.range (M.heads.length - (b + 1))).map (· + (b + 1))).flatMap (chL M) := by
  refine ⟨_, ?_, rfl⟩
  rw [← allTo_succ]
  unfold allC allTo
  rw [← List.flatMap_append]
  congr 1
  rw [show M.heads.length = (b + 1) + (M.heads.length - (b + 1)) by omega, List.range_add]
  simp [Nat.add_comm]
theorem OkC.nodup {M : Mm} (h : OkC M) {b : Nat} (hb : b < M.heads.length) : (chL M b).Nodup := by
  obtain ⟨l2, e, _⟩ := allC_split M hb
  have := nodup_of_map h.keys
  rw [e, List.nodup_append, List.nodup_append] at this
  exact this.1.2.1
theorem OkC.allSlots {M : Mm} (h : OkC M) : ∀ a ∈ allC M, 0 ≤ a ∧ a < M.slots.length := by
  intro a ha
  obtain ⟨b, hb, hm⟩ := mem_allC.1 ha
  exact h.slots hb a hm





end Go.Proofs.Ytdbilofhcadmoab.mm
