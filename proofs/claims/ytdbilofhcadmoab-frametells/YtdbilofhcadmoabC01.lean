/- Memory as plain data: what Check finds, what is taken, held and put; no program text is named here. -/
import Derived.Test.YtdbilofhcadmoabRows
import Derived.WalkKit
import Derived.ProofKit
import Derived.OpenShut
import Derived.WalkLawsBesides
import Derived.WalkSpells
namespace Go.Proofs.Ytdbilofhcadmoab.mm

structure Sl where
  refs : Int
  a : Int
  b : Int
  unt : Int
  inn : Bool
  next : Int

structure Mm where
  slots : List Sl
  heads : List Int
  free : List Int
  locks : List Int
  now : Int

def sl0 : Sl := ⟨0, 0, 0, 0, false, 0⟩
def m0 : Mm := ⟨[], [], [], [], 0⟩

def slEq (x y : Sl) : Bool := x.refs == y.refs && (x.a == y.a && (x.b == y.b && (x.unt == y.unt && (x.inn == y.inn && x.next == y.next))))
theorem slEq_iff (x y : Sl) : slEq x y = true ↔ x = y := by
  cases x; cases y; simp [slEq]
theorem slEq_refl (x : Sl) : slEq x x = true := (slEq_iff x x).2 rfl

def inB (x lo hi : Int) : Bool := decide (lo ≤ x) && decide (x ≤ hi)
theorem inB_iff (x lo hi : Int) : inB x lo hi = true ↔ lo ≤ x ∧ x ≤ hi := by simp [inB]
def keyB (a b : Int) : Bool := inB a 0 15 && inB b 0 15
theorem keyB_iff (a b : Int) : keyB a b = true ↔ (0 ≤ a ∧ a ≤ 15) ∧ (0 ≤ b ∧ b ≤ 15) := by simp [keyB, inB]

def slotErr (nh ns : Nat) (s : Sl) : Int :=
  if inB s.refs 0 1000 && inB s.unt 0 2000000 && keyB s.a s.b then (if inB s.next (-(nh : Int)) ns then 0 else 5) else 3
def chainErr (nh ns : Nat) (p : Int × Int) : Int :=
  if p.1 ≠ 0 ∧ inB p.1 (-(nh : Int)) ns then (if inB p.2 (-1) 4 then 0 else 3) else 5

def firstE {α : Type} (f : α → Int) : List α → Int
  | [] => 0
  | x :: l => if f x ≠ 0 then f x else firstE f l

theorem firstE_drop {α : Type} (f : α → Int) (l : List α) (k : Nat) (h : k < l.length) :
    firstE f (l.drop k) = if f l[k] ≠ 0 then f l[k] else firstE f (l.drop (k + 1)) := by
  rw [List.drop_eq_getElem_cons h]; rfl
theorem firstE_end {α : Type} (f : α → Int) (l : List α) (k : Nat) (h : l.length ≤ k) : firstE f (l.drop k) = 0 := by
  rw [List.drop_of_length_le h]; rfl
theorem firstE_zero {α : Type} (f : α → Int) (l : List α) : firstE f l = 0 ↔ ∀ x ∈ l, f x = 0 := by
  induction l with
  | nil => simp [firstE]
  | cons x l ih =>
    simp only [firstE, List.mem_cons, forall_eq_or_imp]
    by_cases h : f x = 0
    · simp [h, ih]
    · simp [h]

def hasB (l : List Int) (x : Int) : Bool := l.contains x
theorem hasB_iff (l : List Int) (x : Int) : hasB l x = true ↔ x ∈ l := by simp [hasB]
theorem hasB_not (l : List Int) (x : Int) : hasB l x = false ↔ ¬ x ∈ l := by simp [hasB]

def freeOk (S : List Sl) (a : Int) : Bool := decide (0 ≤ a) && (decide (a < S.length) && decide ((S.getD a.toNat sl0).refs = 0))
theorem freeOk_iff (S : List Sl) (a : Int) : freeOk S a = true ↔ 0 ≤ a ∧ a < S.length ∧ (S.getD a.toNat sl0).refs = 0 := by simp [freeOk]
def freeErr (S : List Sl) : List Int → List Int → Int
  | _, [] => 0
  | pre, a :: l => if freeOk S a then (if hasB pre a then 6 else freeErr S (pre ++ [a]) l) else 5
def lostErr (F : List Int) : Nat → List Sl → Int
  | _, [] => 0
  | i, s :: l => if s.refs == 0 && !hasB F (i : Int) then 4 else lostErr F (i + 1) l

theorem freeErr_drop (S : List Sl) (l : List Int) (k : Nat) (h : k < l.length) :
    freeErr S (l.take k) (l.drop k) = if freeOk S l[k] then (if hasB (l.take k) l[k] then 6 else freeErr S (l.take (k + 1)) (l.drop (k + 1))) else 5 := by
  rw [List.drop_eq_getElem_cons h, List.take_succ_eq_append_getElem h]; rfl
theorem freeErr_end (S : List Sl) (l : List Int) (k : Nat) (h : l.length ≤ k) : freeErr S (l.take k) (l.drop k) = 0 := by
  rw [List.drop_of_length_le h]; rfl
theorem lostErr_drop (F : List Int) (S : List Sl) (k : Nat) (h : k < S.length) :
    lostErr F k (S.drop k) = if S[k].refs == 0 && !hasB F (k : Int) then 4 else lostErr F (k + 1) (S.drop (k + 1)) := by
  rw [List.drop_eq_getElem_cons h]; rfl
theorem lostErr_end (F : List Int) (S : List Sl) (k : Nat) (h : S.length ≤ k) : lostErr F k (S.drop k) = 0 := by
  rw [List.drop_of_length_le h]; rfl

def chk (m : Mm) : Int :=
  if 12 < m.slots.length ∨ m.heads.length < 1 ∨ 4 < m.heads.length then 2
  else if m.locks.length ≠ m.heads.length then 4
  else if inB m.now 0 1000000 = false then 3
  else if firstE (slotErr m.heads.length m.slots.length) m.slots ≠ 0 then firstE (slotErr m.heads.length m.slots.length) m.slots
  else if firstE (chainErr m.heads.length m.slots.length) (m.heads.zip m.locks) ≠ 0 then firstE (chainErr m.heads.length m.slots.length) (m.heads.zip m.locks)
  else if freeErr m.slots [] m.free ≠ 0 then freeErr m.slots [] m.free
  else lostErr m.free 0 m.slots

/- What Check's answer 0 says. -/
structure Ok (m : Mm) : Prop where
  ns : m.slots.length ≤ 12
  nh : 1 ≤ m.heads.length ∧ m.heads.length ≤ 4
  nl : m.locks.length = m.heads.length
  now : 0 ≤ m.now ∧ m.now ≤ 1000000
  slot : ∀ s ∈ m.slots, slotErr m.heads.length m.slots.length s = 0
  chain : ∀ p ∈ m.heads.zip m.locks, chainErr m.heads.length m.slots.length p = 0
  free : ∀ a ∈ m.free, freeOk m.slots a = true
  nodup : m.free.Nodup
  all : ∀ i, i < m.slots.length → (m.slots.getD i sl0).refs = 0 → (i : Int) ∈ m.free

theorem freeErr_zero (S : List Sl) (pre l : List Int) (hp : pre.Nodup) : freeErr S pre l = 0 ↔ (∀ a ∈ l, freeOk S a = true) ∧ (pre ++ l).Nodup := by
  induction l generalizing pre with
  | nil => simp [freeErr, hp]
  | cons a l ih =>
    simp only [freeErr, List.mem_cons, forall_eq_or_imp]
    by_cases h1 : freeOk S a = true
    · by_cases h2 : a ∈ pre
      · simp [h1, h2, hasB_iff, List.nodup_append]
        intro _ _ _ _
        exact ⟨a, h2, fun h => absurd rfl h⟩
      · have hp' : (pre ++ [a]).Nodup := by
          rw [List.nodup_append]; simp [hp]
          intro x hx e; subst e; exact h2 hx
        have := ih (pre ++ [a]) hp'
        rw [List.append_assoc] at this
        simp only [h1, h2, hasB_iff, if_true, if_false, true_and]
        exact this
    · simp [h1]

theorem lostErr_zero (F : List Int) (S : List Sl) (k : Nat) : lostErr F k S = 0 ↔ ∀ i, i < S.length → (S.getD i sl0).refs = 0 → ((k + i : Nat) : Int) ∈ F := by
  induction S generalizing k with
  | nil => simp [lostErr]
  | cons s l ih =>
    simp only [lostErr]
    by_cases h : s.refs == 0 && !hasB F (k : Int)
    · rw [if_pos h]
      simp only [Bool.and_eq_true, beq_iff_eq, Bool.not_eq_true'] at h
      constructor
      · intro e; omega
      · intro hh
        have := hh 0 (by simp) (by simpa using h.1)
        simp only [Nat.add_zero] at this
        rw [← hasB_iff] at this
        rw [this] at h; simp at h
    · rw [if_neg h, ih]
      constructor
      · intro hh i hi hr
        match i with
        | 0 =>
          simp at hr
          simp [hr, hasB_iff] at h
          simpa using h
        | i + 1 =>
          have := hh i (by simp at hi; omega) (by simpa using hr)
          rwa [show k + 1 + i = k + (i + 1) by omega] at this
      · intro hh i hi hr
        have := hh (i + 1) (by simp; omega) (by simpa using hr)
        rwa [show k + (i + 1) = k + 1 + i by omega] at this

theorem chk_zero (m : Mm) : chk m = 0 ↔ Ok m := by
  unfold chk
  constructor
  · intro h
    split at h
    · omega
    split at h
    · omega
    split at h
    · omega
    split at h
    · omega
    split at h
    · omega
    split at h
    · omega
    rename_i h1 h2 h3 h4 h5 h6
    have h3' : inB m.now 0 1000000 = true := by simpa using h3
    simp only [ne_eq, Decidable.not_not] at h4 h5 h6 h2
    have hf := (freeErr_zero m.slots [] m.free List.nodup_nil).1 h6
    have hl := (lostErr_zero m.free m.slots 0).1 h
    refine ⟨by omega, by omega, h2, (inB_iff _ _ _).1 h3', (firstE_zero _ _).1 h4, (firstE_zero _ _).1 h5, hf.1, by simpa using hf.2, ?_⟩
    intro i hi hr
    have := hl i hi hr
    simpa using this
  · intro h
    rw [if_neg (by have := h.ns; have := h.nh; omega), if_neg (by simpa using h.nl), if_neg (by rw [(inB_iff _ _ _).2 h.now]; simp),
      if_neg (by simpa using (firstE_zero _ _).2 h.slot), if_neg (by simpa using (firstE_zero _ _).2 h.chain),
      if_neg (by simpa using (freeErr_zero m.slots [] m.free List.nodup_nil).2 ⟨h.free, by simpa using h.nodup⟩)]
    exact (lostErr_zero m.free m.slots 0).2 fun i hi hr => by simpa using h.all i hi hr

def lastF (m : Mm) : Int := m.free.getD (m.free.length - 1) 0
def takeM (m : Mm) (ka kb u : Int) : Mm :=
  { m with slots := m.slots.set (lastF m).toNat ⟨1, ka, kb, u, false, (m.slots.getD (lastF m).toNat sl0).next⟩, free := m.free.take (m.free.length - 1) }
def refsM (m : Mm) (i : Int) : Int := (m.slots.getD i.toNat sl0).refs
def setRefs (m : Mm) (i r : Int) : List Sl := m.slots.set i.toNat { m.slots.getD i.toNat sl0 with refs := r }
def holdM (m : Mm) (i : Int) : Mm := { m with slots := setRefs m i (refsM m i + 1) }
def putM (m : Mm) (i : Int) : Mm := { m with slots := setRefs m i (refsM m i - 1), free := if refsM m i = 1 then m.free ++ [i] else m.free }
def isSl (m : Mm) (i : Int) : Bool := inB i 0 ((m.slots.length : Int) - 1)

def takenE (m : Mm) (ka kb u : Int) : Int :=
  if chk m ≠ 0 then chk m else if keyB ka kb = false then 3 else if inB u 0 2000000 = false then 3 else if m.free.length = 0 then 7 else 0
def takenM (m : Mm) (ka kb u : Int) : Mm := if takenE m ka kb u = 0 then takeM m ka kb u else m0
def takenN (m : Mm) (ka kb u : Int) : Int := if takenE m ka kb u = 0 then lastF m else 0
def heldE (m : Mm) (i : Int) : Int :=
  if chk m ≠ 0 then chk m else if isSl m i = false then 5 else if refsM m i = 0 ∨ refsM m i = 1000 then 8 else 0
def heldM (m : Mm) (i : Int) : Mm := if heldE m i = 0 then holdM m i else m0
def letE (m : Mm) (i : Int) : Int :=
  if chk m ≠ 0 then chk m else if isSl m i = false then 5 else if refsM m i = 0 then 8 else 0
def letM (m : Mm) (i : Int) : Mm := if letE m i = 0 then putM m i else m0

def newM (many buckets : Nat) : Mm :=
  { slots := List.replicate many sl0, heads := (List.range buckets).map fun (b : Nat) => -1 - (b : Int), free := (List.range many).map fun (a : Nat) => (many : Int) - 1 - (a : Int), locks := List.replicate buckets (-1), now := 0 }
def newE (many buckets : Int) : Int := if inB many 0 12 && inB buckets 1 4 then 0 else 3



end Go.Proofs.Ytdbilofhcadmoab.mm

/- Contracts of the small functions that memory's Check is made of: within, isSlot, mayStand, key.Check, slices.Contains: each returns what the document says, and changes nothing that was there. -/
namespace Go.Proofs.Ytdbilofhcadmoab.mm
open Go.ChangeShapes Go.WideShapes Go.ChangeAt Go.RowKit
set_option linter.unusedVariables false

theorem bcell {W w1 : World} {n : Nat} (hb : Below n W w1) : (∀ b o, b < n → w1.cell? ⟨b, o, none⟩ = W.cell? ⟨b, o, none⟩) ∧ (∀ b o, b < n → w1.frozen? ⟨b, o, none⟩ = W.frozen? ⟨b, o, none⟩) :=
  ⟨fun b o h => hb.cell (p := ⟨b, o, none⟩) h, fun b o h => hb.frozen (p := ⟨b, o, none⟩) h⟩

theorem cell_lt {w : World} {b o : Nat} {v : Value} (h : w.cell? ⟨b, o, none⟩ = some v) : b < w.heap.size := by
  refine Nat.lt_of_not_le fun hh => ?_
  unfold World.cell? at h
  rw [Array.getElem?_eq_none hh] at h
  cases h

/- A list of ints lies at a slice. -/
structure IRow (w : World) (ao : Option Addr) (cap : Nat) (l : List Int) : Prop where
  le : l.length ≤ cap
  max : l.length * 8 ≤ 140737488351232
  nil : ao = none → cap = 0
  at_ : l.length = 0 ∨ ∃ b o, ao = some ⟨b, o, none⟩ ∧ ∀ i (h : i < l.length), w.cell? ⟨b, o + i, none⟩ = some (.int .i64 l[i])

/- A list of slots lies at a slice. -/
structure SRow (w : World) (ao : Option Addr) (cap : Nat) (l : List Sl) : Prop where
  le : l.length ≤ cap
  max : l.length * 48 ≤ 140737488351232
  nil : ao = none → cap = 0
  at_ : l.length = 0 ∨ ∃ b o, ao = some ⟨b, o, none⟩ ∧ ∀ i (h : i < l.length),
    w.cell? ⟨b, o + i * 6, none⟩ = some (.int .i64 l[i].refs) ∧ w.cell? ⟨b, o + i * 6 + 1, none⟩ = some (.int .i64 l[i].a) ∧ w.cell? ⟨b, o + i * 6 + 2, none⟩ = some (.int .i64 l[i].b) ∧
    w.cell? ⟨b, o + i * 6 + 3, none⟩ = some (.int .i64 l[i].unt) ∧ w.cell? ⟨b, o + i * 6 + 4, none⟩ = some (.bool l[i].inn) ∧ w.cell? ⟨b, o + i * 6 + 5, none⟩ = some (.int .i64 l[i].next)

theorem IRow.below {w w' : World} {ao : Option Addr} {cap : Nat} {l : List Int} (r : IRow w ao cap l) (hb : Below w.heap.size w w') : IRow w' ao cap l := by
  refine ⟨r.le, r.max, r.nil, ?_⟩
  rcases r.at_ with h | ⟨b, o, h, hc⟩
  · exact .inl h
  · exact .inr ⟨b, o, h, fun i hi => (hb.cell (p := ⟨b, o + i, none⟩) (cell_lt (hc i hi))).trans (hc i hi)⟩

theorem SRow.below {w w' : World} {ao : Option Addr} {cap : Nat} {l : List Sl} (r : SRow w ao cap l) (hb : Below w.heap.size w w') : SRow w' ao cap l := by
  refine ⟨r.le, r.max, r.nil, ?_⟩
  rcases r.at_ with h | ⟨b, o, h, hc⟩
  · exact .inl h
  · refine .inr ⟨b, o, h, fun i hi => ?_⟩
    obtain ⟨c0, c1, c2, c3, c4, c5⟩ := hc i hi
    have lt := cell_lt c0
    obtain ⟨q, _⟩ := bcell hb
    exact ⟨(q _ _ lt).trans c0, (q _ _ lt).trans c1, (q _ _ lt).trans c2, (q _ _ lt).trans c3, (q _ _ lt).trans c4, (q _ _ lt).trans c5⟩

/- Memory lies at four slices. -/
structure At (w : World) (aS aH aF aL : Option Addr) (cS cH cF cL : Nat) (M : Mm) : Prop where
  s : SRow w aS cS M.slots
  h : IRow w aH cH M.heads
  f : IRow w aF cF M.free
  l : IRow w aL cL M.locks

theorem At.below {w w' : World} {aS aH aF aL : Option Addr} {cS cH cF cL : Nat} {M : Mm} (r : At w aS aH aF aL cS cH cF cL M) (hb : Below w.heap.size w w') : At w' aS aH aF aL cS cH cF cL M :=
  ⟨r.s.below hb, r.h.below hb, r.f.below hb, r.l.below hb⟩

theorem one_below (w : World) (o : Obj) : Below w.heap.size w (w.alloc o) := (Below.refl _ _).alloc (Nat.le_refl _) _

theorem box_cells {w wr : World} {v0 v1 v2 v3 v4 : Value} {t : TypeId} (hb : Below (w.heap.size + 1) (w.alloc (.cells #[v0, v1, v2, v3, v4] t)) wr) :
    wr.cell? ⟨w.heap.size, 0, none⟩ = some v0 ∧ wr.cell? ⟨w.heap.size, 1, none⟩ = some v1 ∧ wr.cell? ⟨w.heap.size, 2, none⟩ = some v2 ∧ wr.cell? ⟨w.heap.size, 3, none⟩ = some v3 ∧ wr.cell? ⟨w.heap.size, 4, none⟩ = some v4 ∧ w.heap.size + 1 ≤ wr.heap.size := by
  obtain ⟨q, _⟩ := bcell hb
  refine ⟨(q _ _ (by omega)).trans (by simp), (q _ _ (by omega)).trans (by simp), (q _ _ (by omega)).trans (by simp), (q _ _ (by omega)).trans (by simp), (q _ _ (by omega)).trans (by simp), ?_⟩
  have := hb.size
  simpa using this

theorem within_any (x lo hi : Int) (w : World) :
    Calls Try.prog 81 #[.int .i64 x, .int .i64 lo, .int .i64 hi] w fun e w' => e = .returned (.bool (inB x lo hi)) ∧ w = w' := by
  by_cases h : lo ≤ x
  · go_enter Try.func81, Try.ntmps81
    go_wp2
    go_ret
    exact ⟨by simp [inB, h], rfl⟩
  · have h' : x < lo := by omega
    go_enter Try.func81, Try.ntmps81
    go_wp2
    go_ret
    exact ⟨by simp [inB]; omega, rfl⟩

theorem isSlot_any (aS aH aF aL : Option Addr) (nS nH nF nL cS cH cF cL : Nat) (now a : Int) (w : World) (hn : nS ≤ 9223372036854775807) :
    Calls Try.prog 78 #[.agg #[.slice aS nS cS, .slice aH nH cH, .slice aF nF cF, .slice aL nL cL, .int .i64 now], .int .i64 a] w fun e w' => e = .returned (.bool (inB a 0 ((nS : Int) - 1))) ∧ Below w.heap.size w w' := by
  by_cases h : 0 ≤ a
  · by_cases h2 : a < nS
    · go_enter Try.func78, Try.ntmps78
      go_wp2
      go_ret
      refine ⟨?_, one_below _ _⟩
      rw [show inB a 0 ((nS : Int) - 1) = true from (inB_iff _ _ _).2 ⟨h, by omega⟩]; rfl
    · have h3 : (nS : Int) ≤ a := by omega
      go_enter Try.func78, Try.ntmps78
      go_wp2
      go_ret
      refine ⟨?_, one_below _ _⟩
      rw [show inB a 0 ((nS : Int) - 1) = false by simp [inB]; omega]; rfl
  · have h' : a < 0 := by omega
    go_enter Try.func78, Try.ntmps78
    go_wp2
    go_ret
    refine ⟨?_, one_below _ _⟩
    rw [show inB a 0 ((nS : Int) - 1) = false by simp [inB]; omega]; rfl

theorem mayStand_any (aS aH aF aL : Option Addr) (nS nH nF nL cS cH cF cL : Nat) (now a : Int) (w : World) (hn : nS ≤ 9223372036854775807) (hh : nH ≤ 9223372036854775807) :
    Calls Try.prog 153 #[.agg #[.slice aS nS cS, .slice aH nH cH, .slice aF nF cF, .slice aL nL cL, .int .i64 now], .int .i64 a] w fun e w' => e = .returned (.bool (inB a (-(nH : Int)) nS)) ∧ Below w.heap.size w w' := by
  go_enter Try.func153, Try.ntmps153
  go_wp2_with (go_at_call 81; refine (within_any _ _ _ _).mono ?_; rintro e w1 ⟨rfl, rfl⟩)
  go_ret
  exact ⟨rfl, one_below _ _⟩

theorem endsOf_any (a b : Int) (w : World) :
    Calls Try.prog 104 #[.agg #[.int .i64 a, .int .i64 b]] w fun e w' => e = .returned (.agg #[.int .i64 a, .int .i64 b]) ∧ (w.alloc (.cells #[.int .i64 a, .int .i64 b] 37)).alloc (.cells #[.int .i64 a, .int .i64 b] 114) = w' := by
  go_enter Try.func104, Try.ntmps104
  go_wp2
  exact bodyPost_ret (v := .agg #[.int .i64 a, .int .i64 b]) (by simp [results, Try.results104, go_sem]) rfl ⟨rfl, rfl⟩

theorem kcheck_t (a b : Int) (w : World) (h : keyB a b = true) :
    Calls Try.prog 39 #[.agg #[.int .i64 a, .int .i64 b]] w fun e w' => e = .returned (.int .i64 0) ∧ Below w.heap.size w w' := by
  obtain ⟨⟨h0, h1⟩, h2, h3⟩ := (keyB_iff a b).1 h
  clear h
  have i0 : ∀ w, (Instr.index 114 (.agg #[.int .i64 a, .int .i64 b]) (.int .i64 0)).run Try.prog w = .ok (.int .i64 a) w := fun _ => by kernel_rfl
  have i1 : ∀ w, (Instr.index 114 (.agg #[.int .i64 a, .int .i64 b]) (.int .i64 1)).run Try.prog w = .ok (.int .i64 b) w := fun _ => by kernel_rfl
  go_enter Try.func39, Try.ntmps39
  go_wp2_with (first | (go_at_call 104; refine (endsOf_any _ _ _).mono ?_; rintro e w1 ⟨rfl, rfl⟩))
  refine wp_loop_rounds 3 ?_
  rw [rounds_succ]
  go_wp2
  rw [rounds_succ]
  go_wp2
  rw [rounds_succ]
  go_wp2
  go_ret
  refine ⟨rfl, ?_⟩
  repeat (first | exact Below.refl _ _ | refine Below.alloc ?_ (by simp <;> omega) _)

theorem kcheck_f (a b : Int) (w : World) (h : keyB a b = false) :
    Calls Try.prog 39 #[.agg #[.int .i64 a, .int .i64 b]] w fun e w' => e = .returned (.int .i64 3) ∧ Below w.heap.size w w' := by
  have hc : a < 0 ∨ (0 ≤ a ∧ 15 < a) ∨ (0 ≤ a ∧ a ≤ 15 ∧ b < 0) ∨ (0 ≤ a ∧ a ≤ 15 ∧ 0 ≤ b ∧ 15 < b) := by
    have : ¬ ((0 ≤ a ∧ a ≤ 15) ∧ (0 ≤ b ∧ b ≤ 15)) := fun hh => by rw [(keyB_iff a b).2 hh] at h; cases h
    omega
  clear h
  have i0 : ∀ w, (Instr.index 114 (.agg #[.int .i64 a, .int .i64 b]) (.int .i64 0)).run Try.prog w = .ok (.int .i64 a) w := fun _ => by kernel_rfl
  have i1 : ∀ w, (Instr.index 114 (.agg #[.int .i64 a, .int .i64 b]) (.int .i64 1)).run Try.prog w = .ok (.int .i64 b) w := fun _ => by kernel_rfl
  rcases hc with h | ⟨h1, h2⟩ | ⟨h1, h2, h3⟩ | ⟨h1, h2, h3, h4⟩
  all_goals
    go_enter Try.func39, Try.ntmps39
    go_wp2_with (first | (go_at_call 104; refine (endsOf_any _ _ _).mono ?_; rintro e w1 ⟨rfl, rfl⟩))
    refine wp_loop_rounds 3 ?_
    rw [rounds_succ]
    go_wp2
    try (rw [rounds_succ]; go_wp2)
    go_ret
    refine ⟨rfl, ?_⟩
    repeat (first | exact Below.refl _ _ | refine Below.alloc ?_ (by simp <;> omega) _)

theorem kcheck_any (a b : Int) (w : World) :
    Calls Try.prog 39 #[.agg #[.int .i64 a, .int .i64 b]] w fun e w' => e = .returned (.int .i64 (if keyB a b then 0 else 3)) ∧ Below w.heap.size w w' := by
  cases h : keyB a b
  · exact kcheck_f a b w h
  · exact kcheck_t a b w h




end Go.Proofs.Ytdbilofhcadmoab.mm
