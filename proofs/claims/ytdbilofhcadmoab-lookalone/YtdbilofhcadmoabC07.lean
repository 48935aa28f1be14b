/- What is taken, held and put leaves memory as Check wants it; who holds and lets go leaves what was; what was put last is taken next. -/
import Derived.Test.YtdbilofhcadmoabC01
namespace Go.Proofs.Ytdbilofhcadmoab.mm
set_option linter.unusedVariables false

theorem getD_lt (S : List Sl) (j : Nat) (h : j < S.length) : S.getD j sl0 = S[j] := by simp [List.getD_eq_getElem?_getD, h]
theorem getD_set_same (S : List Sl) (j : Nat) (s : Sl) (h : j < S.length) : (S.set j s).getD j sl0 = s := by simp [List.getD_eq_getElem?_getD, h]
theorem getD_set_other (S : List Sl) (i j : Nat) (s : Sl) (h : j ≠ i) : (S.set j s).getD i sl0 = S.getD i sl0 := by simp [List.getD_eq_getElem?_getD, List.getElem?_set_ne h]

theorem Ok.set {m : Mm} (h : Ok m) (j : Nat) (s : Sl) (hs : slotErr m.heads.length m.slots.length s = 0) (F : List Int) (h1 : ∀ a ∈ F, freeOk (m.slots.set j s) a = true) (h2 : F.Nodup)
    (h3 : ∀ i, i < m.slots.length → ((m.slots.set j s).getD i sl0).refs = 0 → (i : Int) ∈ F) : Ok { m with slots := m.slots.set j s, free := F } := by
  refine ⟨by simpa using h.ns, h.nh, h.nl, h.now, ?_, ?_, h1, h2, ?_⟩
  · intro x hx
    dsimp only at hx ⊢
    rw [List.length_set]
    rcases List.mem_or_eq_of_mem_set hx with hx | rfl
    · exact h.slot x hx
    · exact hs
  · intro p hp
    dsimp only at hp ⊢
    rw [List.length_set]
    exact h.chain p hp
  · intro i hi hr
    exact h3 i (by simpa using hi) hr

theorem slot_good {nh ns : Nat} {s : Sl} (h : slotErr nh ns s = 0) : inB s.refs 0 1000 = true ∧ inB s.unt 0 2000000 = true ∧ keyB s.a s.b = true ∧ inB s.next (-(nh : Int)) ns = true := by
  unfold slotErr at h
  split at h
  · rename_i h1
    split at h
    · rename_i h2
      simp only [Bool.and_eq_true] at h1
      exact ⟨h1.1.1, h1.1.2, h1.2, h2⟩
    · omega
  · omega
theorem good_slot {nh ns : Nat} {s : Sl} (h1 : inB s.refs 0 1000 = true) (h2 : inB s.unt 0 2000000 = true) (h3 : keyB s.a s.b = true) (h4 : inB s.next (-(nh : Int)) ns = true) : slotErr nh ns s = 0 := by
  simp [slotErr, h1, h2, h3, h4]

theorem free_split {m : Mm} (hF : 0 < m.free.length) : m.free = m.free.take (m.free.length - 1) ++ [lastF m] := by
  have hl : lastF m = m.free[m.free.length - 1] := by
    have : m.free.length - 1 < m.free.length := by omega
    simp [lastF, List.getD_eq_getElem?_getD, this]
  rw [hl]
  have := List.take_succ_eq_append_getElem (l := m.free) (i := m.free.length - 1) (by omega)
  rw [← this, show m.free.length - 1 + 1 = m.free.length by omega, List.take_length]

theorem last_ok {m : Mm} (h : Ok m) (hF : 0 < m.free.length) : 0 ≤ lastF m ∧ lastF m < m.slots.length ∧ refsM m (lastF m) = 0 := by
  have hm : lastF m ∈ m.free := by rw [free_split hF]; simp
  exact (freeOk_iff _ _).1 (h.free _ hm)

theorem take_ok {m : Mm} (h : Ok m) {ka kb u : Int} (hk : keyB ka kb = true) (hu : inB u 0 2000000 = true) (hF : 0 < m.free.length) : Ok (takeM m ka kb u) := by
  obtain ⟨l0, l1, l2⟩ := last_ok h hF
  obtain ⟨j, hj⟩ : ∃ j : Nat, lastF m = j := ⟨(lastF m).toNat, by omega⟩
  have hsp := free_split hF
  have hnd := h.nodup
  rw [hsp, List.nodup_append] at hnd
  have hjS : j < m.slots.length := by omega
  unfold takeM
  rw [hj] at *
  rw [Int.toNat_natCast]
  have hgood := slot_good (h.slot _ (List.getElem_mem hjS))
  refine h.set j _ (good_slot rfl hu hk ?_) _ ?_ hnd.1 ?_
  · rw [getD_lt _ _ hjS]; exact hgood.2.2.2
  · intro a ha
    have hne : a ≠ j := hnd.2.2 a ha j (by simp)
    have hf := (freeOk_iff _ _).1 (h.free a (List.mem_of_mem_take ha))
    rw [freeOk_iff]
    refine ⟨hf.1, by simpa using hf.2.1, ?_⟩
    rw [getD_set_other _ _ _ _ (by omega)]
    exact hf.2.2
  · intro i hi hr
    by_cases e : j = i
    · subst e
      rw [getD_set_same _ _ _ hjS] at hr
      simp at hr
    · rw [getD_set_other _ _ _ _ e] at hr
      have := h.all i hi hr
      rw [hsp, List.mem_append, List.mem_singleton] at this
      rcases this with h | h
      · exact h
      · omega

theorem refs_lt {m : Mm} {i : Nat} (h : i < m.slots.length) : refsM m i = m.slots[i].refs := by simp [refsM, List.getD_eq_getElem?_getD, h]

theorem setRefs_eq {m : Mm} {j : Nat} (h : j < m.slots.length) (r : Int) : setRefs m j r = m.slots.set j { m.slots[j] with refs := r } := by
  simp [setRefs, List.getD_eq_getElem?_getD, h]

theorem turn_ok {m : Mm} (h : Ok m) {j : Nat} (hj : j < m.slots.length) {r : Int} (h0 : 0 < r) (h1 : r ≤ 1000) (hr : refsM m j ≠ 0) : Ok { m with slots := setRefs m j r } := by
  rw [setRefs_eq hj]
  rw [refs_lt hj] at hr
  have hgood := slot_good (h.slot _ (List.getElem_mem hj))
  refine h.set j _ (good_slot (s := { m.slots[j] with refs := r }) ((inB_iff _ _ _).2 ⟨Int.le_of_lt h0, h1⟩) hgood.2.1 hgood.2.2.1 hgood.2.2.2) m.free ?_ h.nodup ?_
  · intro a ha
    have hf := (freeOk_iff _ _).1 (h.free a ha)
    have hne : a ≠ j := by
      rintro rfl
      rw [Int.toNat_natCast, getD_lt _ _ hj] at hf
      exact hr hf.2.2
    rw [freeOk_iff]
    refine ⟨hf.1, by simpa using hf.2.1, ?_⟩
    rw [getD_set_other _ _ _ _ (by omega)]
    exact hf.2.2
  · intro i hi hr'
    by_cases e : j = i
    · subst e
      rw [getD_set_same _ _ _ hj] at hr'
      dsimp only at hr'
      omega
    · rw [getD_set_other _ _ _ _ e] at hr'
      exact h.all i hi hr'

theorem isSl_iff (m : Mm) (i : Int) : isSl m i = true ↔ ∃ j : Nat, i = j ∧ j < m.slots.length := by
  unfold isSl
  rw [inB_iff]
  constructor
  · intro h
    exact ⟨i.toNat, by omega, by omega⟩
  · rintro ⟨j, rfl, h⟩
    omega

theorem hold_ok {m : Mm} (h : Ok m) {i : Int} (hi : isSl m i = true) (h0 : 0 < refsM m i) (h1 : refsM m i < 1000) : Ok (holdM m i) := by
  obtain ⟨j, rfl, hj⟩ := (isSl_iff m i).1 hi
  exact turn_ok h hj (by omega) (by omega) (by omega)

theorem put_ok {m : Mm} (h : Ok m) {i : Int} (hi : isSl m i = true) (h0 : 0 < refsM m i) (h1 : refsM m i ≤ 1000) : Ok (putM m i) := by
  obtain ⟨j, rfl, hj⟩ := (isSl_iff m i).1 hi
  by_cases hl : refsM m j = 1
  · have e : putM m j = { m with slots := setRefs m j 0, free := m.free ++ [(j : Int)] } := by simp [putM, hl]
    rw [e, setRefs_eq hj]
    rw [refs_lt hj] at hl
    have hgood := slot_good (h.slot _ (List.getElem_mem hj))
    have hnj : (j : Int) ∉ m.free := fun hm => by
      have hf := (freeOk_iff _ _).1 (h.free _ hm)
      rw [Int.toNat_natCast, getD_lt _ _ hj, hl] at hf
      omega
    refine h.set j _ (good_slot (s := { m.slots[j] with refs := 0 }) rfl hgood.2.1 hgood.2.2.1 hgood.2.2.2) _ ?_ ?_ ?_
    · intro a ha
      rw [List.mem_append, List.mem_singleton] at ha
      rw [freeOk_iff]
      rcases ha with ha | rfl
      · have hf := (freeOk_iff _ _).1 (h.free a ha)
        have hne : a ≠ j := by rintro rfl; exact hnj ha
        refine ⟨hf.1, by simpa using hf.2.1, ?_⟩
        rw [getD_set_other _ _ _ _ (by omega)]
        exact hf.2.2
      · refine ⟨by omega, by simpa using hj, ?_⟩
        rw [Int.toNat_natCast, getD_set_same _ _ _ hj]
    · rw [List.nodup_append]
      refine ⟨h.nodup, by simp, fun a ha b hb => ?_⟩
      rw [List.mem_singleton] at hb
      subst hb
      rintro rfl
      exact hnj ha
    · intro i hi' hr'
      rw [List.mem_append, List.mem_singleton]
      by_cases e : j = i
      · exact .inr (by omega)
      · rw [getD_set_other _ _ _ _ e] at hr'
        exact .inl (h.all i hi' hr')
  · have e : putM m j = { m with slots := setRefs m j (refsM m j - 1) } := by simp [putM, hl]
    rw [e]
    exact turn_ok h hj (by omega) (by omega) (by omega)

theorem isSl_hold (m : Mm) (i k : Int) : isSl (holdM m i) k = isSl m k := by simp [isSl, holdM, setRefs]
theorem isSl_put (m : Mm) (i k : Int) : isSl (putM m i) k = isSl m k := by simp [isSl, putM, setRefs]
theorem refs_hold {m : Mm} {i : Int} (hi : isSl m i = true) : refsM (holdM m i) i = refsM m i + 1 := by
  obtain ⟨j, rfl, hj⟩ := (isSl_iff m i).1 hi
  simp [holdM, refsM, setRefs, List.getD_eq_getElem?_getD, hj]
theorem refs_put {m : Mm} {i : Int} (hi : isSl m i = true) : refsM (putM m i) i = refsM m i - 1 := by
  obtain ⟨j, rfl, hj⟩ := (isSl_iff m i).1 hi
  simp [putM, refsM, setRefs, List.getD_eq_getElem?_getD, hj]

/- Slot i with so many Refs, all else as it was. -/
def withRefs (m : Mm) (i r : Int) : Mm := { m with slots := setRefs m i r }
theorem withRefs_self {m : Mm} {i : Int} (hi : isSl m i = true) : withRefs m i (refsM m i) = m := by
  obtain ⟨j, rfl, hj⟩ := (isSl_iff m i).1 hi
  obtain ⟨S, H, F, L, n⟩ := m
  dsimp only at hj
  have e : (S.getD j sl0) = S[j] := getD_lt S j hj
  simp only [withRefs, setRefs, refsM, Int.toNat_natCast, e, Mm.mk.injEq, and_true]
  exact List.set_getElem_self hj
theorem hold_with {m : Mm} {i : Int} : holdM m i = withRefs m i (refsM m i + 1) := rfl
theorem refs_with {m : Mm} {i : Int} (hi : isSl m i = true) (r : Int) : refsM (withRefs m i r) i = r := by
  obtain ⟨j, rfl, hj⟩ := (isSl_iff m i).1 hi
  simp [withRefs, refsM, setRefs, List.getD_eq_getElem?_getD, hj]
theorem isSl_with (m : Mm) (i k r : Int) : isSl (withRefs m i r) k = isSl m k := by simp [isSl, withRefs, setRefs]
theorem with_with {m : Mm} {i : Int} (hi : isSl m i = true) (r q : Int) : withRefs (withRefs m i r) i q = withRefs m i q := by
  obtain ⟨j, rfl, hj⟩ := (isSl_iff m i).1 hi
  simp [withRefs, setRefs, List.getD_eq_getElem?_getD, hj]
theorem hold_of_with {m : Mm} {i : Int} (hi : isSl m i = true) (r : Int) : holdM (withRefs m i r) i = withRefs m i (r + 1) := by
  show withRefs (withRefs m i r) i (refsM (withRefs m i r) i + 1) = _
  rw [refs_with hi, with_with hi]
theorem put_of_with {m : Mm} {i : Int} (hi : isSl m i = true) (r : Int) (hr : r ≠ 1) : putM (withRefs m i r) i = withRefs m i (r - 1) := by
  have h : putM (withRefs m i r) i = withRefs (withRefs m i r) i (refsM (withRefs m i r) i - 1) := by
    have e := refs_with hi r
    unfold putM
    rw [e, if_neg hr]
    rfl
  rw [h, refs_with hi, with_with hi]



end Go.Proofs.Ytdbilofhcadmoab.mm

/- Chains as plain data: the slots of a chain, whether chains are right, what is mapped, what is linked and cut out; no program text is named here. -/
namespace Go.Proofs.Ytdbilofhcadmoab.mm
set_option linter.unusedVariables false

def nextN (S : List Sl) (n : Int) : Int := (S.getD (n - 1).toNat sl0).next
def walkL (S : List Sl) : Nat → Int → List Int
  | 0, _ => []
  | k + 1, n => if 0 < n then (n - 1) :: walkL S k (nextN S n) else []
def walkE (S : List Sl) : Nat → Int → Int
  | 0, n => n
  | k + 1, n => if 0 < n then walkE S k (nextN S n) else n

def headM (M : Mm) (b : Nat) : Int := M.heads.getD b 0
def chL (M : Mm) (b : Nat) : List Int := walkL M.slots M.slots.length (headM M b)
def chE (M : Mm) (b : Nat) : Int := walkE M.slots M.slots.length (headM M b)
def chOk (M : Mm) (b : Nat) : Bool := chE M b == -1 - (b : Int)
def slotAt (M : Mm) (a : Int) : Sl := M.slots.getD a.toNat sl0
def keyAt (M : Mm) (a : Int) : Int × Int := ((slotAt M a).a, (slotAt M a).b)
def bucket (a b : Int) (n : Nat) : Int := (7 * a + 3 * b + a * b) % n
def hasK (M : Mm) (all : List Int) (k : Int × Int) : Bool := (all.map (keyAt M)).contains k
def whoK (M : Mm) (all : List Int) (k : Int × Int) : Int := (all.find? fun a => keyAt M a == k).getD 0

def slotC (M : Mm) (b : Nat) (all : List Int) (a : Int) : Int :=
  if (slotAt M a).refs = 0 ∨ (slotAt M a).inn = false then 5
  else if bucket (slotAt M a).a (slotAt M a).b M.heads.length ≠ b then 4
  else if hasK M all (keyAt M a) then 6 else 0
def scanC (M : Mm) (b : Nat) : List Int → List Int → Int
  | _, [] => 0
  | all, a :: l => if slotC M b all a ≠ 0 then slotC M b all a else scanC M b (all ++ [a]) l
def chkB (M : Mm) : Nat → Nat → List Int → Int
  | 0, _, _ => 0
  | k + 1, b, all => if chOk M b then (if scanC M b all (chL M b) ≠ 0 then scanC M b all (chL M b) else chkB M k (b + 1) (all ++ chL M b)) else 4
def chkC (M : Mm) : Int := if chk M ≠ 0 then chk M else chkB M M.heads.length 0 []
def allTo (M : Mm) (b : Nat) : List Int := (List.range b).flatMap (chL M)
def allC (M : Mm) : List Int := allTo M M.heads.length

theorem allTo_succ (M : Mm) (b : Nat) : allTo M (b + 1) = allTo M b ++ chL M b := by simp [allTo, List.range_succ]
theorem allTo_zero (M : Mm) : allTo M 0 = [] := rfl

theorem scanC_drop (M : Mm) (b : Nat) (all l : List Int) (k : Nat) (h : k < l.length) :
    scanC M b (all ++ l.take k) (l.drop k) = if slotC M b (all ++ l.take k) l[k] ≠ 0 then slotC M b (all ++ l.take k) l[k] else scanC M b (all ++ l.take (k + 1)) (l.drop (k + 1)) := by
  rw [List.drop_eq_getElem_cons h, List.take_succ_eq_append_getElem h, ← List.append_assoc]; rfl
theorem scanC_end (M : Mm) (b : Nat) (all l : List Int) (k : Nat) (h : l.length ≤ k) : scanC M b (all ++ l.take k) (l.drop k) = 0 := by
  rw [List.drop_of_length_le h]; rfl
theorem chkB_step (M : Mm) (b : Nat) (h : b < M.heads.length) :
    chkB M (M.heads.length - b) b (allTo M b) = if chOk M b then (if scanC M b (allTo M b) (chL M b) ≠ 0 then scanC M b (allTo M b) (chL M b) else chkB M (M.heads.length - (b + 1)) (b + 1) (allTo M (b + 1))) else 4 := by
  rw [show M.heads.length - b = (M.heads.length - (b + 1)) + 1 by omega, allTo_succ]; rfl
theorem chkB_end (M : Mm) (b : Nat) (h : M.heads.length ≤ b) (all : List Int) : chkB M (M.heads.length - b) b all = 0 := by
  rw [show M.heads.length - b = 0 by omega]; rfl

/- What Check's answer 0 says of chains. -/
structure OkC (M : Mm) : Prop where
  ok : Ok M
  ends : ∀ b, b < M.heads.length → chE M b = -1 - (b : Int)
  held : ∀ b, b < M.heads.length → ∀ a ∈ chL M b, (slotAt M a).refs ≠ 0 ∧ (slotAt M a).inn = true ∧ bucket (slotAt M a).a (slotAt M a).b M.heads.length = b
  keys : ((allC M).map (keyAt M)).Nodup

theorem hasK_iff (M : Mm) (all : List Int) (k : Int × Int) : hasK M all k = true ↔ k ∈ all.map (keyAt M) := by simp [hasK]

theorem slotC_zero (M : Mm) (b : Nat) (all : List Int) (a : Int) : slotC M b all a = 0 ↔ ((slotAt M a).refs ≠ 0 ∧ (slotAt M a).inn = true ∧ bucket (slotAt M a).a (slotAt M a).b M.heads.length = b) ∧ ¬ keyAt M a ∈ all.map (keyAt M) := by
  unfold slotC
  rw [← hasK_iff]
  by_cases h1 : (slotAt M a).refs = 0 ∨ (slotAt M a).inn = false
  · rw [if_pos h1]
    constructor
    · intro h; omega
    · rintro ⟨⟨h, h', _⟩, _⟩
      rcases h1 with h1 | h1
      · exact absurd h1 h
      · rw [h'] at h1; cases h1
  rw [if_neg h1]
  have h1' : (slotAt M a).refs ≠ 0 ∧ (slotAt M a).inn = true := by
    refine ⟨fun h => h1 (.inl h), ?_⟩
    cases h : (slotAt M a).inn
    · exact absurd (.inr h) h1
    · rfl
  by_cases h2 : bucket (slotAt M a).a (slotAt M a).b M.heads.length = b
  · rw [if_neg (by simpa using h2)]
    cases h3 : hasK M all (keyAt M a)
    · simp [h1', h2]
    · simp
  · rw [if_pos h2]
    constructor
    · intro h; omega
    · rintro ⟨⟨_, _, h⟩, _⟩; exact absurd h h2

theorem scanC_zero (M : Mm) (b : Nat) (l : List Int) : ∀ all : List Int, (all.map (keyAt M)).Nodup → (scanC M b all l = 0 ↔ (∀ a ∈ l, (slotAt M a).refs ≠ 0 ∧ (slotAt M a).inn = true ∧ bucket (slotAt M a).a (slotAt M a).b M.heads.length = b) ∧ ((all ++ l).map (keyAt M)).Nodup) := by
  induction l with
  | nil => intro all h; simp [scanC]; exact h
  | cons a l ih =>
    intro all hn
    simp only [scanC]
    by_cases h : slotC M b all a = 0
    · rw [if_neg (by simpa using h)]
      have h' := (slotC_zero M b all a).1 h
      have hn' : ((all ++ [a]).map (keyAt M)).Nodup := by
        rw [List.map_append, List.nodup_append]
        refine ⟨hn, by simp, ?_⟩
        intro x hx y hy e
        simp at hy
        subst hy
        subst e
        exact h'.2 hx
      rw [ih (all ++ [a]) hn', List.append_assoc]
      simp only [List.mem_cons, forall_eq_or_imp, List.cons_append, List.nil_append]
      constructor
      · rintro ⟨h1, h2⟩; exact ⟨⟨h'.1, h1⟩, h2⟩
      · rintro ⟨⟨_, h1⟩, h2⟩; exact ⟨h1, h2⟩
    · rw [if_pos h]
      constructor
      · intro hh; exact absurd hh h
      · rintro ⟨h1, h2⟩
        exfalso
        apply h
        rw [slotC_zero]
        refine ⟨h1 a (by simp), fun hm => ?_⟩
        rw [List.map_append, List.nodup_append] at h2
        exact h2.2.2 _ hm _ (by simp) rfl

theorem chOk_iff (M : Mm) (b : Nat) : chOk M b = true ↔ chE M b = -1 - (b : Int) := by simp [chOk]

theorem chkB_zero (M : Mm) : ∀ (k b : Nat), b + k = M.heads.length → ((allTo M b).map (keyAt M)).Nodup →
    (chkB M k b (allTo M b) = 0 ↔ (∀ c, b ≤ c → c < M.heads.length → chE M c = -1 - (c : Int) ∧ ∀ a ∈ chL M c, (slotAt M a).refs ≠ 0 ∧ (slotAt M a).inn = true ∧ bucket (slotAt M a).a (slotAt M a).b M.heads.length = c) ∧ ((allC M).map (keyAt M)).Nodup)
  | 0, b, hb, hn => by
    have : b = M.heads.length := by omega
    subst this
    simp only [chkB, true_iff]
    exact ⟨fun c h1 h2 => by omega, hn⟩
  | k + 1, b, hb, hn => by
    simp only [chkB]
    cases hc : chOk M b
    · simp only [Bool.false_eq_true, if_false]
      constructor
      · intro h; omega
      · rintro ⟨h, _⟩
        have := (chOk_iff M b).2 (h b (Nat.le_refl _) (by omega)).1
        rw [hc] at this; cases this
    · have hc' := (chOk_iff M b).1 hc
      simp only [if_true]
      have hs := scanC_zero M b (chL M b) (allTo M b) hn
      rw [← allTo_succ] at hs ⊢
      by_cases h : scanC M b (allTo M b) (chL M b) = 0
      · rw [if_neg (by simpa using h)]
        have h' := hs.1 h
        rw [chkB_zero M k (b + 1) (by omega) h'.2]
        constructor
        · rintro ⟨h1, h2⟩
          refine ⟨fun c hc1 hc2 => ?_, h2⟩
          by_cases e : c = b
          · subst e; exact ⟨hc', h'.1⟩
          · exact h1 c (by omega) hc2
        · rintro ⟨h1, h2⟩
          exact ⟨fun c hc1 hc2 => h1 c (by omega) hc2, h2⟩
      · rw [if_pos h]
        constructor
        · intro hh; exact absurd hh h
        · rintro ⟨h1, h2⟩
          exfalso
          apply h
          rw [hs]
          refine ⟨(h1 b (Nat.le_refl _) (by omega)).2, ?_⟩
          have e : allC M = allTo M (b + 1) ++ ((List.range (M.heads.length - (b + 1))).map (· + (b + 1))).flatMap (chL M) := by
            unfold allC allTo
            rw [← List.flatMap_append]
            congr 1
            rw [show M.heads.length = (b + 1) + (M.heads.length - (b + 1)) by omega, List.range_add]
            simp [Nat.add_comm]
          rw [e, List.map_append, List.nodup_append] at h2
          exact h2.1

theorem chkC_zero (M : Mm) : chkC M = 0 ↔ OkC M := by
  unfold chkC
  by_cases h : chk M = 0
  · rw [if_neg (by simpa using h), show ([] : List Int) = allTo M 0 from rfl, chkB_zero M M.heads.length 0 (by omega) (by simp [allTo])]
    constructor
    · rintro ⟨h1, h2⟩
      exact ⟨(chk_zero M).1 h, fun b hb => (h1 b (Nat.zero_le _) hb).1, fun b hb => (h1 b (Nat.zero_le _) hb).2, h2⟩
    · rintro ⟨_, h1, h2, h3⟩
      exact ⟨fun c _ hc => ⟨h1 c hc, h2 c hc⟩, h3⟩
  · rw [if_pos h]
    constructor
    · intro hh; exact absurd hh h
    · intro hh; exact absurd ((chk_zero M).2 hh.ok) h




end Go.Proofs.Ytdbilofhcadmoab.mm
