/- Chains as plain data: the slots of a chain, whether chains are right, what is mapped, what is linked and cut out; no program text is named here. -/
import Derived.Test.YtdbilofhcadmoaaPure2
namespace Go.Proofs.Ytdbilofhcadmoaa.mm
set_option linter.unusedVariables false

def nextN (S : List Sl) (n : Int) : Int := (S.getD (n - 1).toNat sl0).next
def walkL (S : List Sl) : Nat → Int → List Int
  | 0, _ => []
  | k + 1, n => if 0 < n then (n - 1) :: walkL S k (nextN S n) else []
def walkE (S : List Sl) : Nat → Int → Int
  | 0, n => n
  | k + 1, n => if 0 < n then walkE S k (nextN S n) else n

def headM (M : Mm) (b : Nat) : Int := M.heads.getD b 0
def chL (M : Mm) (b : Nat) : List Int := walkL M.slots M.slots.length (headM M b)
def chE (M : Mm) (b : Nat) : Int := walkE M.slots M.slots.length (headM M b)
def chOk (M : Mm) (b : Nat) : Bool := chE M b == -1 - (b : Int)
def slotAt (M : Mm) (a : Int) : Sl := M.slots.getD a.toNat sl0
def keyAt (M : Mm) (a : Int) : Int × Int := ((slotAt M a).a, (slotAt M a).b)
def bucket (a b : Int) (n : Nat) : Int := (7 * a + 3 * b + a * b) % n
def hasK (M : Mm) (all : List Int) (k : Int × Int) : Bool := (all.map (keyAt M)).contains k
def whoK (M : Mm) (all : List Int) (k : Int × Int) : Int := (all.find? fun a => keyAt M a == k).getD 0

def slotC (M : Mm) (b : Nat) (all : List Int) (a : Int) : Int :=
  if (slotAt M a).refs = 0 ∨ (slotAt M a).inn = false then 5
  else if bucket (slotAt M a).a (slotAt M a).b M.heads.length ≠ b then 4
  else if hasK M all (keyAt M a) then 6 else 0
def scanC (M : Mm) (b : Nat) : List Int → List Int → Int
  | _, [] => 0
  | all, a :: l => if slotC M b all a ≠ 0 then slotC M b all a else scanC M b (all ++ [a]) l
def chkB (M : Mm) : Nat → Nat → List Int → Int
  | 0, _, _ => 0
  | k + 1, b, all => if chOk M b then (if scanC M b all (chL M b) ≠ 0 then scanC M b all (chL M b) else chkB M k (b + 1) (all ++ chL M b)) else 4
def chkC (M : Mm) : Int := if chk M ≠ 0 then chk M else chkB M M.heads.length 0 []
def allTo (M : Mm) (b : Nat) : List Int := (List.range b).flatMap (chL M)
def allC (M : Mm) : List Int := allTo M M.heads.length

theorem allTo_succ (M : Mm) (b : Nat) : allTo M (b + 1) = allTo M b ++ chL M b := by simp [allTo, List.range_succ]
theorem allTo_zero (M : Mm) : allTo M 0 = [] := rfl

theorem scanC_drop (M : Mm) (b : Nat) (all l : List Int) (k : Nat) (h : k < l.length) :
    scanC M b (all ++ l.take k) (l.drop k) = if slotC M b (all ++ l.take k) l[k] ≠ 0 then slotC M b (all ++ l.take k) l[k] else scanC M b (all ++ l.take (k + 1)) (l.drop (k + 1)) := by
  rw [List.drop_eq_getElem_cons h, List.take_succ_eq_append_getElem h, ← List.append_assoc]; rfl
theorem scanC_end (M : Mm) (b : Nat) (all l : List Int) (k : Nat) (h : l.length ≤ k) : scanC M b (all ++ l.take k) (l.drop k) = 0 := by
  rw [List.drop_of_length_le h]; rfl
theorem chkB_step (M : Mm) (b : Nat) (h : b < M.heads.length) :
    chkB M (M.heads.length - b) b (allTo M b) = if chOk M b then (if scanC M b (allTo M b) (chL M b) ≠ 0 then scanC M b (allTo M b) (chL M b) else chkB M (M.heads.length - (b + 1)) (b + 1) (allTo M (b + 1))) else 4 := by
  rw [show M.heads.length - b = (M.heads.length - (b + 1)) + 1 by omega, allTo_succ]; rfl
theorem chkB_end (M : Mm) (b : Nat) (h : M.heads.length ≤ b) (all : List Int) : chkB M (M.heads.length - b) b all = 0 := by
  rw [show M.heads.length - b = 0 by omega]; rfl

/- What Check's answer 0 says of chains. -/
structure OkC (M : Mm) : Prop where
  ok : Ok M
  ends : ∀ b, b < M.heads.length → chE M b = -1 - (b : Int)
  held : ∀ b, b < M.heads.length → ∀ a ∈ chL M b, (slotAt M a).refs ≠ 0 ∧ (slotAt M a).inn = true ∧ bucket (slotAt M a).a (slotAt M a).b M.heads.length = b
  keys : ((allC M).map (keyAt M)).Nodup

theorem hasK_iff (M : Mm) (all : List Int) (k : Int × Int) : hasK M all k = true ↔ k ∈ all.map (keyAt M) := by simp [hasK]

theorem slotC_zero (M : Mm) (b : Nat) (all : List Int) (a : Int) : slotC M b all a = 0 ↔ ((slotAt M a).refs ≠ 0 ∧ (slotAt M a).inn = true ∧ bucket (slotAt M a).a (slotAt M a).b M.heads.length = b) ∧ ¬ keyAt M a ∈ all.map (keyAt M) := by
  unfold slotC
  rw [← hasK_iff]
  by_cases h1 : (slotAt M a).refs = 0 ∨ (slotAt M a).inn = false
  · rw [if_pos h1]
    constructor
    · intro h; omega
    · rintro ⟨⟨h, h', _⟩, _⟩
      rcases h1 with h1 | h1
      · exact absurd h1 h
      · rw [h'] at h1; cases h1
  rw [if_neg h1]
  have h1' : (slotAt M a).refs ≠ 0 ∧ (slotAt M a).inn = true := by
    refine ⟨fun h => h1 (.inl h), ?_⟩
    cases h : (slotAt M a).inn
    · exact absurd (.inr h) h1
    · rfl
  by_cases h2 : bucket (slotAt M a).a (slotAt M a).b M.heads.length = b
  · rw [if_neg (by simpa using h2)]
    cases h3 : hasK M all (keyAt M a)
    · simp [h1', h2]
    · simp
  · rw [if_pos h2]
    constructor
    · intro h; omega
    · rintro ⟨⟨_, _, h⟩, _⟩; exact absurd h h2

theorem scanC_zero (M : Mm) (b : Nat) (l : List Int) : ∀ all : List Int, (all.map (keyAt M)).Nodup → (scanC M b all l = 0 ↔ (∀ a ∈ l, (slotAt M a).refs ≠ 0 ∧ (slotAt M a).inn = true ∧ bucket (slotAt M a).a (slotAt M a).b M.heads.length = b) ∧ ((all ++ l).map (keyAt M)).Nodup) := by
  induction l with
  | nil => intro all h; simp [scanC]; exact h
  | cons a l ih =>
    intro all hn
    simp only [scanC]
    by_cases h : slotC M b all a = 0
    · rw [if_neg (by simpa using h)]
      have h' := (slotC_zero M b all a).1 h
      have hn' : ((all ++ [a]).map (keyAt M)).Nodup := by
        rw [List.map_append, List.nodup_append]
        refine ⟨hn, by simp, ?_⟩
        intro x hx y hy e
        simp at hy
        subst hy
        subst e
        exact h'.2 hx
      rw [ih (all ++ [a]) hn', List.append_assoc]
      simp only [List.mem_cons, forall_eq_or_imp, List.cons_append, List.nil_append]
      constructor
      · rintro ⟨h1, h2⟩; exact ⟨⟨h'.1, h1⟩, h2⟩
      · rintro ⟨⟨_, h1⟩, h2⟩; exact ⟨h1, h2⟩
    · rw [if_pos h]
      constructor
      · intro hh; exact absurd hh h
      · rintro ⟨h1, h2⟩
        exfalso
        apply h
        rw [slotC_zero]
        refine ⟨h1 a (by simp), fun hm => ?_⟩
        rw [List.map_append, List.nodup_append] at h2
        exact h2.2.2 _ hm _ (by simp) rfl

theorem chOk_iff (M : Mm) (b : Nat) : chOk M b = true ↔ chE M b = -1 - (b : Int) := by simp [chOk]

theorem chkB_zero (M : Mm) : ∀ (k b : Nat), b + k = M.heads.length → ((allTo M b).map (keyAt M)).Nodup →
    (chkB M k b (allTo M b) = 0 ↔ (∀ c, b ≤ c → c < M.heads.length → chE M c = -1 - (c : Int) ∧ ∀ a ∈ chL M c, (slotAt M a).refs ≠ 0 ∧ (slotAt M a).inn = true ∧ bucket (slotAt M a).a (slotAt M a).b M.heads.length = c) ∧ ((allC M).map (keyAt M)).Nodup)
  | 0, b, hb, hn => by
    have : b = M.heads.length := by omega
    subst this
    simp only [chkB, true_iff]
    exact ⟨fun c h1 h2 => by omega, hn⟩
  | k + 1, b, hb, hn => by
    simp only [chkB]
    cases hc : chOk M b
    · simp only [Bool.false_eq_true, if_false]
      constructor
      · intro h; omega
      · rintro ⟨h, _⟩
        have := (chOk_iff M b).2 (h b (Nat.le_refl _) (by omega)).1
        rw [hc] at this; cases this
    · have hc' := (chOk_iff M b).1 hc
      simp only [if_true]
      have hs := scanC_zero M b (chL M b) (allTo M b) hn
      rw [← allTo_succ] at hs ⊢
      by_cases h : scanC M b (allTo M b) (chL M b) = 0
      · rw [if_neg (by simpa using h)]
        have h' := hs.1 h
        rw [chkB_zero M k (b + 1) (by omega) h'.2]
        constructor
        · rintro ⟨h1, h2⟩
          refine ⟨fun c hc1 hc2 => ?_, h2⟩
          by_cases e : c = b
          · subst e; exact ⟨hc', h'.1⟩
          · exact h1 c (by omega) hc2
        · rintro ⟨h1, h2⟩
          exact ⟨fun c hc1 hc2 => h1 c (by omega) hc2, h2⟩
      · rw [if_pos h]
        constructor
        · intro hh; exact absurd hh h
        · rintro ⟨h1, h2⟩
          exfalso
          apply h
          rw [hs]
          refine ⟨(h1 b (Nat.le_refl _) (by omega)).2, ?_⟩
          have e : allC M = allTo M (b + 1) ++ ((List.range (M.heads.length - (b + 1))).map (· + (b + 1))).flatMap (chL M) := by
            unfold allC allTo
            rw [← List.flatMap_append]
            congr 1
            rw [show M.heads.length = (b + 1) + (M.heads.length - (b + 1)) by omega, List.range_add]
            simp [Nat.add_comm]
          rw [e, List.map_append, List.nodup_append] at h2
          exact h2.1

theorem chkC_zero (M : Mm) : chkC M = 0 ↔ OkC M := by
  unfold chkC
  by_cases h : chk M = 0
  · rw [if_neg (by simpa using h), show ([] : List Int) = allTo M 0 from rfl, chkB_zero M M.heads.length 0 (by omega) (by simp [allTo])]
    constructor
    · rintro ⟨h1, h2⟩
      exact ⟨(chk_zero M).1 h, fun b hb => (h1 b (Nat.zero_le _) hb).1, fun b hb => (h1 b (Nat.zero_le _) hb).2, h2⟩
    · rintro ⟨_, h1, h2, h3⟩
      exact ⟨fun c _ hc => ⟨h1 c hc, h2 c hc⟩, h3⟩
  · rw [if_pos h]
    constructor
    · intro hh; exact absurd hh h
    · intro hh; exact absurd ((chk_zero M).2 hh.ok) h


end Go.Proofs.Ytdbilofhcadmoaa.mm
