/- How many slots are unlike, as plain data; a Look's step leaves at most one. -/
import Derived.Test.YtdbilofhcadmoabC13
import Derived.Test.YtdbilofhcadmoabC06
import Derived.Deep.QuietTactic
import Derived.BigQuiet
import Derived.Laws.StructEq
import Derived.Test.YtdbilofhcadmoabC11
namespace Go.Proofs.Ytdbilofhcadmoab.mm
set_option linter.unusedVariables false

def dif (l1 l2 : List Sl) : Nat → Nat
  | 0 => 0
  | k + 1 => dif l1 l2 k + if slEq (l1.getD k sl0) (l2.getD k sl0) then 0 else 1

theorem dif_le (l1 l2 : List Sl) : ∀ k, dif l1 l2 k ≤ k
  | 0 => Nat.le_refl _
  | k + 1 => by
    have := dif_le l1 l2 k
    unfold dif
    split <;> omega
theorem dif_same (l : List Sl) : ∀ k, dif l l k = 0
  | 0 => rfl
  | k + 1 => by
    unfold dif
    rw [dif_same l k, slEq_refl]
    rfl
theorem getD_set_ne (l : List Sl) {j k : Nat} (x : Sl) (h : j ≠ k) : (l.set j x).getD k sl0 = l.getD k sl0 := by
  rw [List.getD_eq_getElem?_getD, List.getD_eq_getElem?_getD, List.getElem?_set_ne h]
theorem dif_set (l : List Sl) (j : Nat) (x : Sl) : ∀ k, dif l (l.set j x) k ≤ if j < k then 1 else 0
  | 0 => by simp [dif]
  | k + 1 => by
    have ih := dif_set l j x k
    unfold dif
    by_cases e : j = k
    · subst e
      rw [if_neg (Nat.lt_irrefl _)] at ih
      rw [if_pos (Nat.lt_succ_self _)]
      split <;> omega
    · rw [getD_set_ne l x e, slEq_refl]
      simp only [if_true, Nat.add_zero]
      by_cases h : j < k
      · rw [if_pos h] at ih; rw [if_pos (by omega)]; exact ih
      · rw [if_neg h] at ih; omega

theorem Like.dif {M M' : Mm} (h : Like M M') (k : Nat) : dif M.slots M'.slots k ≤ 1 := by
  rcases h.slots with e | ⟨j, r, hj, e⟩
  · rw [e, dif_same]; omega
  · rw [e]
    have := dif_set M.slots j { M.slots.getD j sl0 with refs := r } k
    split at this <;> omega
/- But for how often it is held, a slot is as it was. -/
theorem Like.slot {M M' : Mm} (h : Like M M') (k : Nat) (hk : k < M.slots.length) : { M'.slots.getD k sl0 with refs := (M.slots.getD k sl0).refs } = M.slots.getD k sl0 := by
  rcases h.slots with e | ⟨j, r, hj, e⟩
  · rw [e]
  · rw [e]
    by_cases ejk : j = k
    · subst ejk
      have : (M.slots.set j { M.slots.getD j sl0 with refs := r }).getD j sl0 = { M.slots.getD j sl0 with refs := r } := by
        rw [List.getD_eq_getElem?_getD, List.getElem?_set_self hj]; rfl
      rw [this]
    · rw [getD_set_ne _ _ ejk]

end Go.Proofs.Ytdbilofhcadmoab.mm

/- An Add as plain data: what a step does and what it leaves. -/
namespace Go.Proofs.Ytdbilofhcadmoab.mm
set_option linter.unusedVariables false

def lockAt (M : Mm) (b : Nat) : Int := M.locks.getD b 0
def lockM (M : Mm) (b : Nat) (t : Int) : Mm := { M with locks := M.locks.set b t }
def linkB (M : Mm) (a : Int) (b : Nat) : Mm := { M with slots := M.slots.set a.toNat { slotAt M a with next := headM M b, inn := true }, heads := M.heads.set b (a + 1) }
def bkN (M : Mm) (f : Fr) : Nat := (bkOf M.heads.length f.c).toNat
def untA (M : Mm) (f : Fr) : Int := if 2000000 < M.now + f.c.time then 2000000 else M.now + f.c.time
def lateF (f : Fr) : Fr := { f with e := 8, pl := 7 }
def adTake (M : Mm) (f : Fr) : Fr := if M.free.length = 0 then endF f 7 else handF f (lastF M) 1
def adTakeM (M : Mm) (f : Fr) : Mm := if M.free.length = 0 then M else takeM M f.c.a f.c.b (untA M f)
def adLock (M : Mm) (f : Fr) : Fr := if lockAt M (bkN M f) = -1 then toF f 2 else f
def adLockM (M : Mm) (f : Fr) (t : Int) : Mm := if lockAt M (bkN M f) = -1 then lockM M (bkN M f) t else M
def adSee (M : Mm) (f : Fr) : Fr := if isAt M f then toF f (if lkK (slotAt M (f.cur - 1)) f then 6 else 4) else toF f 5
def adPass (M : Mm) (f : Fr) : Fr := if isAt M f then curF f (slotAt M (f.cur - 1)).next 3 else lateF f
def adLink (M : Mm) (f : Fr) : Fr := if isSl M f.slot then { f with e := 0, pl := 7 } else lateF f
def adLinkM (M : Mm) (f : Fr) : Mm := if isSl M f.slot then linkB M f.slot (bkN M f) else M
def adPut (M : Mm) (f : Fr) : Fr := if isSl M f.slot then { f with slot := -1, e := 6, pl := 7 } else lateF f
def adPutM (M : Mm) (f : Fr) : Mm := if isSl M f.slot then putN M f.slot else M
def adOpenM (M : Mm) (f : Fr) (t : Int) : Mm := if lockAt M (bkN M f) = t then lockM M (bkN M f) (-1) else M

def adF (M : Mm) (f : Fr) : Fr :=
  if f.pl = 0 then adTake M f else if f.pl = 1 then adLock M f else if f.pl = 2 then curF f (headM M (bkN M f)) 3 else if f.pl = 3 then adSee M f
  else if f.pl = 4 then adPass M f else if f.pl = 5 then adLink M f else if f.pl = 6 then adPut M f else if f.pl = 7 then endF f f.e else lateF f
def adM (t : Int) (M : Mm) (f : Fr) : Mm :=
  if f.pl = 0 then adTakeM M f else if f.pl = 1 then adLockM M f t else if f.pl = 5 then adLinkM M f else if f.pl = 6 then adPutM M f else if f.pl = 7 then adOpenM M f t else M

theorem adF0 {M : Mm} {f : Fr} (h : f.pl = 0) : adF M f = adTake M f := by unfold adF; rw [if_pos h]
theorem adF1 {M : Mm} {f : Fr} (h : f.pl = 1) : adF M f = adLock M f := by unfold adF; rw [if_neg (by omega), if_pos h]
theorem adF2 {M : Mm} {f : Fr} (h : f.pl = 2) : adF M f = curF f (headM M (bkN M f)) 3 := by unfold adF; rw [if_neg (by omega), if_neg (by omega), if_pos h]
theorem adF3 {M : Mm} {f : Fr} (h : f.pl = 3) : adF M f = adSee M f := by unfold adF; rw [if_neg (by omega), if_neg (by omega), if_neg (by omega), if_pos h]
theorem adF4 {M : Mm} {f : Fr} (h : f.pl = 4) : adF M f = adPass M f := by unfold adF; rw [if_neg (by omega), if_neg (by omega), if_neg (by omega), if_neg (by omega), if_pos h]
theorem adF5 {M : Mm} {f : Fr} (h : f.pl = 5) : adF M f = adLink M f := by unfold adF; rw [if_neg (by omega), if_neg (by omega), if_neg (by omega), if_neg (by omega), if_neg (by omega), if_pos h]
theorem adF6 {M : Mm} {f : Fr} (h : f.pl = 6) : adF M f = adPut M f := by unfold adF; rw [if_neg (by omega), if_neg (by omega), if_neg (by omega), if_neg (by omega), if_neg (by omega), if_neg (by omega), if_pos h]
theorem adF7 {M : Mm} {f : Fr} (h : f.pl = 7) : adF M f = endF f f.e := by unfold adF; rw [if_neg (by omega), if_neg (by omega), if_neg (by omega), if_neg (by omega), if_neg (by omega), if_neg (by omega), if_neg (by omega), if_pos h]
theorem adF8 {M : Mm} {f : Fr} (h : 8 ≤ f.pl) : adF M f = lateF f := by unfold adF; rw [if_neg (by omega), if_neg (by omega), if_neg (by omega), if_neg (by omega), if_neg (by omega), if_neg (by omega), if_neg (by omega), if_neg (by omega)]
theorem adM0 {M : Mm} {f : Fr} {t : Int} (h : f.pl = 0) : adM t M f = adTakeM M f := by unfold adM; rw [if_pos h]
theorem adM1 {M : Mm} {f : Fr} {t : Int} (h : f.pl = 1) : adM t M f = adLockM M f t := by unfold adM; rw [if_neg (by omega), if_pos h]
theorem adM5 {M : Mm} {f : Fr} {t : Int} (h : f.pl = 5) : adM t M f = adLinkM M f := by unfold adM; rw [if_neg (by omega), if_neg (by omega), if_pos h]
theorem adM6 {M : Mm} {f : Fr} {t : Int} (h : f.pl = 6) : adM t M f = adPutM M f := by unfold adM; rw [if_neg (by omega), if_neg (by omega), if_neg (by omega), if_pos h]
theorem adM7 {M : Mm} {f : Fr} {t : Int} (h : f.pl = 7) : adM t M f = adOpenM M f t := by unfold adM; rw [if_neg (by omega), if_neg (by omega), if_neg (by omega), if_neg (by omega), if_pos h]
theorem adM_same {M : Mm} {f : Fr} {t : Int} (h : f.pl ≠ 0 ∧ f.pl ≠ 1 ∧ f.pl ≠ 5 ∧ f.pl ≠ 6 ∧ f.pl ≠ 7) : adM t M f = M := by unfold adM; rw [if_neg h.1, if_neg h.2.1, if_neg h.2.2.1, if_neg h.2.2.2.1, if_neg h.2.2.2.2]

theorem adF_c (M : Mm) (f : Fr) : (adF M f).c = f.c := by
  unfold adF adTake adLock adSee adPass adLink adPut
  repeat' split
  all_goals rfl
theorem adF_keys (M : Mm) (f : Fr) : (adF M f).keys = f.keys := by
  unfold adF adTake adLock adSee adPass adLink adPut
  repeat' split
  all_goals rfl

theorem add_key {nS nH : Nat} {c : Cl} (hk : c.kind = 2) (h : callE nS nH c = 0) : keyB c.a c.b = true ∧ 1 ≤ c.time ∧ c.time ≤ 1000000 := by
  obtain ⟨k, a, b, t, bk, sl⟩ := c
  have hk' : k = 2 := hk
  subst hk'
  rw [callE_add] at h
  cases hb : inB t 1 1000000 && keyB a b
  · rw [hb] at h; simp at h
  · simp only [Bool.and_eq_true, inB_iff] at hb
    exact ⟨hb.2, hb.1⟩
theorem untA_in {M : Mm} {f : Fr} (hM : Ok M) (h1 : 1 ≤ f.c.time) : inB (untA M f) 0 2000000 = true := by
  have := hM.now
  rw [inB_iff]
  unfold untA
  split <;> omega

/- What a step of a call that locks leaves: one slot at most, its own chain's begin and lock, what is free. -/
structure Near (M M' : Mm) (b : Nat) : Prop where
  now : M'.now = M.now
  ns : M'.slots.length = M.slots.length
  nh : M'.heads.length = M.heads.length
  nl : M'.locks.length = M.locks.length
  heads : ∀ i, i ≠ b → M'.heads[i]? = M.heads[i]?
  locks : ∀ i, i ≠ b → M'.locks[i]? = M.locks[i]?
  dif : ∀ k, dif M.slots M'.slots k ≤ 1
  free : M'.free.length ≤ M.free.length + 1 ∧ M.free.length ≤ M'.free.length + 1

theorem Near.refl (M : Mm) (b : Nat) : Near M M b := ⟨rfl, rfl, rfl, rfl, fun _ _ => rfl, fun _ _ => rfl, (fun k => by rw [dif_same]; omega), by omega⟩
theorem dif_set1 (l : List Sl) (j : Nat) (x : Sl) (k : Nat) : dif l (l.set j x) k ≤ 1 := by
  have := dif_set l j x k
  split at this <;> omega
theorem take_near (M : Mm) (b : Nat) (ka kb u : Int) : Near M (takeM M ka kb u) b :=
  ⟨rfl, by simp [takeM], rfl, rfl, fun _ _ => rfl, fun _ _ => rfl, (fun k => dif_set1 _ _ _ k), by simp [takeM]; omega⟩
theorem lock_near (M : Mm) (b : Nat) (t : Int) : Near M (lockM M b t) b :=
  ⟨rfl, rfl, rfl, by simp [lockM], fun _ _ => rfl, (fun i hi => by simp only [lockM]; rw [List.getElem?_set_ne (by omega)]), (fun k => by show dif M.slots M.slots k ≤ 1; rw [dif_same]; omega), by simp [lockM]⟩
theorem link_near (M : Mm) (a : Int) (b : Nat) : Near M (linkB M a b) b :=
  ⟨rfl, by simp [linkB], by simp [linkB], rfl, (fun i hi => by simp only [linkB]; rw [List.getElem?_set_ne (by omega)]), fun _ _ => rfl, (fun k => dif_set1 _ _ _ k), by simp [linkB]⟩
theorem putN_near (M : Mm) (a : Int) (b : Nat) : Near M (putN M a) b := by
  unfold putN
  split
  · exact .refl M b
  · refine ⟨rfl, by simp [putM, setRefs], rfl, rfl, fun _ _ => rfl, fun _ _ => rfl, (fun k => dif_set1 _ _ _ k), ?_⟩
    unfold putM
    dsimp only
    split
    · simp only [List.length_append, List.length_cons, List.length_nil]; omega
    · omega

theorem adM_near (t : Int) (M : Mm) (f : Fr) : Near M (adM t M f) (bkN M f) := by
  unfold adM adTakeM adLockM adLinkM adPutM adOpenM
  repeat' split
  all_goals first
    | exact .refl _ _
    | exact take_near _ _ _ _ _
    | exact lock_near _ _ _
    | exact link_near _ _ _
    | exact putN_near _ _ _

theorem Fit.near {M M' : Mm} {f : Fr} {b : Nat} (h : Fit M f) (hl : Near M M' b) : Fit M' f := by
  have e1 := hl.ns
  have e2 := hl.nh
  refine ⟨?_, h.pl, h.n, h.done, ?_, ?_, ?_, h.keys⟩
  · rw [e1, e2]; exact h.call
  · rw [e1, e2]; exact h.cur
  · rw [e1]; exact h.prev
  · rw [e1]; exact h.slot

theorem Fit.late {M : Mm} {f : Fr} (h : Fit M f) : Fit M (lateF f) := ⟨h.call, by simp [lateF], h.n, h.done, h.cur, h.prev, h.slot, h.keys⟩

theorem adF_fit {M : Mm} {f : Fr} (t : Int) (hM : Ok M) (h : Fit M f) (hd : (adF M f).done = false) : Fit (adM t M f) (adF M f) := by
  refine Fit.near ?_ (adM_near t M f)
  revert hd
  unfold adF adTake adLock adSee adPass adLink adPut
  have hb := bkOf_in hM h.call
  repeat' split
  all_goals intro hd
  all_goals first
    | (cases hd; done)
    | exact h.late
    | exact h
    | exact h.to (by omega)
    | skip
  · rename_i hf
    have := last_ok hM (by omega)
    exact h.handTo (by omega) (by omega)
  · refine h.curTo (by omega) ?_
    have hh := (hM.headIn (b := bkN M f) (by unfold bkN; omega)).2
    rwa [inB_iff] at hh
  · rename_i ha
    exact h.curTo (by omega) (slot_next hM (isAt_sl ha))
  · exact ⟨h.call, by simp, h.n, h.done, h.cur, h.prev, h.slot, h.keys⟩
  · exact ⟨h.call, by simp, h.n, h.done, h.cur, h.prev, by constructor <;> simp <;> omega, h.keys⟩

theorem lock_ok {M : Mm} (h : Ok M) (b : Nat) {t : Int} (ht : -1 ≤ t ∧ t ≤ 4) : Ok (lockM M b t) := by
  refine ⟨h.ns, h.nh, by simp [lockM, h.nl], h.now, h.slot, ?_, h.free, h.nodup, h.all⟩
  intro p hp
  simp only [lockM] at hp ⊢
  obtain ⟨i, hi, e⟩ := List.getElem_of_mem hp
  rw [List.getElem_zip] at e
  have hi' : i < M.heads.length ∧ i < M.locks.length := by simp at hi; omega
  have h0 := h.chain (M.heads[i]'hi'.1, M.locks[i]'hi'.2) (by
    rw [← List.getElem_zip (h := by simp; omega)]
    exact List.getElem_mem _)
  subst e
  unfold chainErr at h0 ⊢
  dsimp only at h0 ⊢
  by_cases hc : M.heads[i]'hi'.1 ≠ 0 ∧ inB (M.heads[i]'hi'.1) (-(M.heads.length : Int)) M.slots.length
  · rw [if_pos hc] at h0 ⊢
    rw [if_pos]
    rw [List.getElem_set]
    split
    · rw [inB_iff]; exact ht
    · by_cases hl : inB (M.locks[i]'hi'.2) (-1) 4 = true
      · exact hl
      · rw [if_neg hl] at h0; omega
  · rw [if_neg hc] at h0; omega

theorem linkB_ok {M : Mm} (h : Ok M) {a : Int} (ha : isSl M a = true) {b : Nat} (hb : b < M.heads.length) : Ok (linkB M a b) := by
  obtain ⟨j, rfl, hj⟩ := (isSl_iff M a).1 ha
  exact h.turn (b := b) hj (h.headIn hb).2 ⟨by omega, by rw [inB_iff]; omega⟩

theorem adM_ok {M : Mm} {f : Fr} {t : Int} (ht : -1 ≤ t ∧ t ≤ 4) (hM : Ok M) (h : Fit M f) (hk : f.c.kind = 2) : Ok (adM t M f) := by
  obtain ⟨k1, k2, k3⟩ := add_key hk h.call
  have hb := bkOf_in hM h.call
  have hbn : bkN M f < M.heads.length := by unfold bkN; omega
  unfold adM adTakeM adLockM adLinkM adPutM adOpenM
  repeat' split
  all_goals first
    | exact hM
    | exact lock_ok hM _ ht
    | exact lock_ok hM _ (by omega)
    | exact take_ok hM k1 (untA_in hM k2) (by omega)
    | exact linkB_ok hM (by assumption) hbn
    | exact putN_ok hM (by assumption)

end Go.Proofs.Ytdbilofhcadmoab.mm

/- The contracts of slices.Equal over ints and over slots, and of Same. -/
namespace Go.Proofs.Ytdbilofhcadmoab.mm
open Go.ChangeShapes Go.WideShapes Go.ChangeAt Go.RowKit Go.Joins Go.Deep
set_option linter.unusedVariables false

def eqI (l1 l2 : List Int) : Bool := decide (l1 = l2)
def eqS (l1 l2 : List Sl) : Bool := l1.length == l2.length && (l1.zip l2).all fun p => slEq p.1 p.2

theorem eqI_len {l1 l2 : List Int} (h : l1.length ≠ l2.length) : eqI l1 l2 = false := by
  simp only [eqI, decide_eq_false_iff_not]
  rintro rfl
  exact h rfl
theorem eqI_ne {l1 l2 : List Int} {k : Nat} (h1 : k < l1.length) (h2 : k < l2.length) (h : l1[k] ≠ l2[k]) : eqI l1 l2 = false := by
  simp only [eqI, decide_eq_false_iff_not]
  rintro rfl
  exact h rfl
theorem eqI_all {l1 l2 : List Int} (hl : l1.length = l2.length) (h : ∀ j, j < l1.length → l1[j]? = l2[j]?) : eqI l1 l2 = true := by
  simp only [eqI, decide_eq_true_eq]
  apply List.ext_getElem?
  intro j
  by_cases hj : j < l1.length
  · exact h j hj
  · rw [List.getElem?_eq_none (by omega), List.getElem?_eq_none (by omega)]
theorem eqI_iff (l1 l2 : List Int) : eqI l1 l2 = true ↔ l1 = l2 := by simp [eqI]
theorem eqS_iff (l1 l2 : List Sl) : eqS l1 l2 = true ↔ l1 = l2 := by
  induction l1 generalizing l2 with
  | nil => cases l2 <;> simp [eqS]
  | cons x l1 ih =>
    cases l2 with
    | nil => simp [eqS]
    | cons y l2 =>
      have := ih l2
      simp only [eqS, Bool.and_eq_true, beq_iff_eq] at this
      simp only [eqS, List.length_cons, List.zip_cons_cons, List.all_cons, Bool.and_eq_true, beq_iff_eq, slEq_iff, List.cons.injEq, ← this]
      constructor
      · rintro ⟨h1, h2, h3⟩; exact ⟨h2, by omega, h3⟩
      · rintro ⟨h1, h2, h3⟩; exact ⟨by omega, h1, h3⟩
theorem eqS_false {l1 l2 : List Sl} (h : l1 ≠ l2) : eqS l1 l2 = false := by
  rw [Bool.eq_false_iff]
  intro hh
  exact h ((eqS_iff _ _).1 hh)

theorem drewN_below (w : World) (q : Nat) : Below w.heap.size w (w.drewN q) := ⟨rfl, rfl, rfl, Nat.le_refl _, fun _ _ => rfl⟩

theorem ret_bool {a b : Bool} (h : a = b) : Ending.returned (.bool a) = .returned (.bool b) := by rw [h]

set_option maxHeartbeats 1600000 in
theorem equalI_any (a1 a2 : Option Addr) (c1 c2 : Nat) (l1 l2 : List Int) (w : World) (r1 : IRow w a1 c1 l1) (r2 : IRow w a2 c2 l2) :
    Calls Try.prog 22 #[.slice a1 l1.length c1, .slice a2 l2.length c2] w fun e w' => e = .returned (.bool (eqI l1 l2)) ∧ Below w.heap.size w w' := by
  have m1 := r1.max; have m2 := r2.max
  have n1 : l1.length ≤ 9223372036854775807 := by omega
  have n2 : l2.length ≤ 9223372036854775807 := by omega
  by_cases hl : l1.length = l2.length
  rotate_left
  · have HV : Hid (eqI l1 l2 = false) := eqI_len hl
    have hb : ((l1.length : Int) != (l2.length : Int)) = true := by rw [bne_iff_ne]; omega
    go_enter Try.func22, Try.ntmps22
    go_wp2
    go_ret
    exact ⟨ret_bool HV.out.symm, Below.refl _ _⟩
  · have HL : Hid (l1.length = l2.length) := hl
    have hb : ((l1.length : Int) != (l2.length : Int)) = false := by rw [hl]; simp
    clear hl
    have HZ1 : Hid _ := r1.at_
    have HZ2 : Hid _ := r2.at_
    clear r1 r2
    go_enter Try.func22, Try.ntmps22
    go_wp2
    go_loopw [13] (fun i wr => ∃ k q : Nat, k ≤ l1.length ∧ i = .int .i64 k ∧ wr = w.drewN q ∧ Hid (∀ j, j < k → l1[j]? = l2[j]?)) (fun i _ => l1.length - (intOf i).toNat)
    case atStart => exact ⟨0, 0, Nat.zero_le _, rfl, rfl, fun j hj => absurd hj (Nat.not_lt_zero _)⟩
    case round =>
      obtain ⟨k, q, hk, rfl, rfl, HE⟩ := hrel
      by_cases hlt : k < l1.length
      · have hlt2 : k < l2.length := by have := HL.out; omega
        rcases HZ1.out with h0 | ⟨b1, o1, rfl, hc1⟩
        · omega
        rcases HZ2.out with h0 | ⟨b2, o2, rfl, hc2⟩
        · omega
        have d1 : (w.drewN q).cell? ⟨b1, o1 + k, none⟩ = some (.int .i64 l1[k]) := hc1 k hlt
        have d2 : (w.drewN q).cell? ⟨b2, o2 + k, none⟩ = some (.int .i64 l2[k]) := hc2 k hlt2
        clear hc1 hc2
        generalize hwq : w.drewN q = wq at d1 d2 ⊢
        have HWQ : Hid _ := hwq
        clear hwq
        generalize hx : l1[k] = x at d1
        generalize hy : l2[k] = y at d2
        have HX : Hid (l1[k] = x ∧ l2[k] = y) := ⟨hx, hy⟩
        clear hx hy
        by_cases hxy : x = y
        · subst hxy
          have HV : Hid (∀ j, j < k + 1 → l1[j]? = l2[j]?) := fun j hj => by
            by_cases e : j = k
            · subst e
              rw [List.getElem?_eq_getElem hlt, List.getElem?_eq_getElem hlt2, HX.out.1, HX.out.2]
            · exact HE.out j (by omega)
          go_wp2_with fail
          go_quiet (fail)
          go_wp2
          go_roundw
          case rel => exact ⟨k + 1, q + nq, by omega, by go_num, by rw [← HWQ.out, World.drewN_drewN], HV⟩
          case measure => simp [intOf]; omega
        · have HV : Hid (eqI l1 l2 = false) := eqI_ne hlt hlt2 (by rw [HX.out.1, HX.out.2]; exact hxy)
          have hn : (x != y) = true := by simpa using hxy
          go_wp2_with fail
          go_quiet (fail)
          go_wp2
          go_ret
          exact ⟨ret_bool HV.out.symm, by rw [← HWQ.out, World.drewN_drewN]; exact drewN_below _ _⟩
      · have HV : Hid (eqI l1 l2 = true) := eqI_all HL.out (fun j hj => HE.out j (by omega))
        go_wp2
        go_ret
        exact ⟨ret_bool HV.out.symm, drewN_below _ _⟩

theorem kequal9 (a b c d : Int) (w : World) : (Op.equalIn 9999 37 (.agg #[.int .i64 a, .int .i64 b]) (.agg #[.int .i64 c, .int .i64 d])).run Try.prog w = .ok (a == c && b == d) w := by
  have u3 := Try.underlying3
  have a3 := Try.isAgg3
  have z3 := Try.sizeOf3
  have hS : Try.prog.underlying 37 = some (.struct (Try.prog.fieldsOf 37)) := by kernel_rfl
  have hp : Try.prog.stoodInHeld 37 = false := by kernel_rfl
  rw [show (9999 : Nat) = 9998 + 1 from rfl, run_equalIn_agg w 9998 37 _ _ hS hp]
  simp only [Program.fieldsOf, Try.underlying37]
  go_simp
  by_cases h1 : a = c <;> by_cases h2 : b = d <;> simp [h1, h2]

theorem sequal (x y : Sl) (w : World) : (Op.equalIn 10000 39 (.agg #[.int .i64 x.refs, .int .i64 x.a, .int .i64 x.b, .int .i64 x.unt, .bool x.inn, .int .i64 x.next]) (.agg #[.int .i64 y.refs, .int .i64 y.a, .int .i64 y.b, .int .i64 y.unt, .bool y.inn, .int .i64 y.next])).run Try.prog w = .ok (slEq x y) w := by
  have u3 := Try.underlying3
  have a3 := Try.isAgg3
  have z3 := Try.sizeOf3
  have u4 := Try.underlying4
  have a4 := Try.isAgg4
  have z4 := Try.sizeOf4
  have a37 := Try.isAgg37
  have z37 := Try.sizeOf37
  have k9 := kequal9
  have hS : Try.prog.underlying 39 = some (.struct (Try.prog.fieldsOf 39)) := by kernel_rfl
  have hp : Try.prog.stoodInHeld 39 = false := by kernel_rfl
  rw [show (10000 : Nat) = 9999 + 1 from rfl, run_equalIn_agg w 9999 39 _ _ hS hp]
  simp only [Program.fieldsOf, Try.underlying39]
  clear hS
  go_simp
  unfold slEq
  by_cases h1 : x.refs = y.refs <;> by_cases h2 : x.a = y.a <;> by_cases h3 : x.b = y.b <;> by_cases h4 : x.unt = y.unt <;> by_cases h5 : x.inn = y.inn <;> by_cases h6 : x.next = y.next <;> simp [h1, h2, h3, h4, h5, h6]

theorem eqS_ne {l1 l2 : List Sl} {k : Nat} (h1 : k < l1.length) (h2 : k < l2.length) (h : l1[k] ≠ l2[k]) : eqS l1 l2 = false :=
  eqS_false (by rintro rfl; exact h rfl)
theorem eqS_all {l1 l2 : List Sl} (hl : l1.length = l2.length) (h : ∀ j, j < l1.length → l1[j]? = l2[j]?) : eqS l1 l2 = true := by
  rw [eqS_iff]
  apply List.ext_getElem?
  intro j
  by_cases hj : j < l1.length
  · exact h j hj
  · rw [List.getElem?_eq_none (by omega), List.getElem?_eq_none (by omega)]

set_option maxHeartbeats 3200000 in
theorem equalS_any (a1 a2 : Option Addr) (c1 c2 : Nat) (l1 l2 : List Sl) (w : World) (r1 : SRow w a1 c1 l1) (r2 : SRow w a2 c2 l2) :
    Calls Try.prog 103 #[.slice a1 l1.length c1, .slice a2 l2.length c2] w fun e w' => e = .returned (.bool (eqS l1 l2)) ∧ Below w.heap.size w w' := by
  have m1 := r1.max; have m2 := r2.max
  have n1 : l1.length ≤ 9223372036854775807 := by omega
  have n2 : l2.length ≤ 9223372036854775807 := by omega
  by_cases hl : l1.length = l2.length
  rotate_left
  · have HV : Hid (eqS l1 l2 = false) := eqS_false (by rintro rfl; exact hl rfl)
    have hb : ((l1.length : Int) != (l2.length : Int)) = true := by rw [bne_iff_ne]; omega
    go_enter Try.func103, Try.ntmps103
    go_wp2
    go_ret
    exact ⟨ret_bool HV.out.symm, Below.refl _ _⟩
  · have HL : Hid (l1.length = l2.length) := hl
    have hb : ((l1.length : Int) != (l2.length : Int)) = false := by rw [hl]; simp
    clear hl
    have HZ1 : Hid _ := r1.at_
    have HZ2 : Hid _ := r2.at_
    clear r1 r2
    go_enter Try.func103, Try.ntmps103
    go_wp2
    go_loopw [13] (fun i wr => ∃ k q : Nat, k ≤ l1.length ∧ i = .int .i64 k ∧ wr = w.drewN q ∧ Hid (∀ j, j < k → l1[j]? = l2[j]?)) (fun i _ => l1.length - (intOf i).toNat)
    case atStart => exact ⟨0, 0, Nat.zero_le _, rfl, rfl, fun j hj => absurd hj (Nat.not_lt_zero _)⟩
    case round =>
      obtain ⟨k, q, hk, rfl, rfl, HE⟩ := hrel
      by_cases hlt : k < l1.length
      · have hlt2 : k < l2.length := by have := HL.out; omega
        rcases HZ1.out with h0 | ⟨b1, o1, rfl, hc1⟩
        · omega
        rcases HZ2.out with h0 | ⟨b2, o2, rfl, hc2⟩
        · omega
        obtain ⟨x0, x1, x2, x3, x4, x5⟩ := hc1 k hlt
        obtain ⟨y0, y1, y2, y3, y4, y5⟩ := hc2 k hlt2
        rw [← World.cell?_drewN (n := q)] at x0 x1 x2 x3 x4 x5 y0 y1 y2 y3 y4 y5
        clear hc1 hc2
        generalize hwq : w.drewN q = wq at x0 x1 x2 x3 x4 x5 y0 y1 y2 y3 y4 y5 ⊢
        have HWQ : Hid _ := hwq
        clear hwq
        generalize hx : l1[k] = x at x0 x1 x2 x3 x4 x5
        generalize hy : l2[k] = y at y0 y1 y2 y3 y4 y5
        have HX : Hid (l1[k] = x ∧ l2[k] = y) := ⟨hx, hy⟩
        clear hx hy
        have se := sequal x y
        cases hxy : slEq x y
        · have HV : Hid (eqS l1 l2 = false) := eqS_ne hlt hlt2 (by rw [HX.out.1, HX.out.2]; intro e; rw [e, slEq_refl] at hxy; cases hxy)
          go_wp2_with fail
          go_quiet (fail)
          go_wp2
          go_ret
          exact ⟨ret_bool HV.out.symm, by rw [← HWQ.out, World.drewN_drewN]; exact drewN_below _ _⟩
        · have HV : Hid (∀ j, j < k + 1 → l1[j]? = l2[j]?) := fun j hj => by
            by_cases e : j = k
            · subst e
              rw [List.getElem?_eq_getElem hlt, List.getElem?_eq_getElem hlt2, HX.out.1, HX.out.2, (slEq_iff x y).1 hxy]
            · exact HE.out j (by omega)
          go_wp2_with fail
          go_quiet (fail)
          go_wp2
          go_roundw
          case rel => exact ⟨k + 1, q + nq, by omega, by go_num, by rw [← HWQ.out, World.drewN_drewN], HV⟩
          case measure => simp [intOf]; omega
      · have HV : Hid (eqS l1 l2 = true) := eqS_all HL.out (fun j hj => HE.out j (by omega))
        go_wp2
        go_ret
        exact ⟨ret_bool HV.out.symm, drewN_below _ _⟩



end Go.Proofs.Ytdbilofhcadmoab.mm

/- Lists of flows held against each other. -/
namespace Go.Proofs.Ytdbilofhcadmoab.mm
open Go.ChangeShapes Go.WideShapes Go.ChangeAt Go.RowKit
set_option maxRecDepth 100000
set_option linter.unusedVariables false

def flEq (x y : Fl) : Bool := x.a == y.a && (x.b == y.b && (x.slot == y.slot && x.unt == y.unt))
theorem flEq_iff (x y : Fl) : flEq x y = true ↔ x = y := by
  cases x; cases y; simp [flEq]
theorem flEq_refl (x : Fl) : flEq x x = true := (flEq_iff x x).2 rfl
def eqF (l1 l2 : List Fl) : Bool := l1.length == l2.length && (l1.zip l2).all fun p => flEq p.1 p.2
theorem eqF_iff (l1 l2 : List Fl) : eqF l1 l2 = true ↔ l1 = l2 := by
  induction l1 generalizing l2 with
  | nil => cases l2 <;> simp [eqF]
  | cons x l1 ih =>
    cases l2 with
    | nil => simp [eqF]
    | cons y l2 =>
      have := ih l2
      simp only [eqF, Bool.and_eq_true, beq_iff_eq] at this
      simp only [eqF, List.length_cons, List.zip_cons_cons, List.all_cons, Bool.and_eq_true, beq_iff_eq, flEq_iff, List.cons.injEq, ← this]
      constructor
      · rintro ⟨h1, h2, h3⟩; exact ⟨h2, by omega, h3⟩
      · rintro ⟨h1, h2, h3⟩; exact ⟨by omega, h1, h3⟩
theorem eqF_false {l1 l2 : List Fl} (h : l1 ≠ l2) : eqF l1 l2 = false := by
  rw [Bool.eq_false_iff]
  intro hh
  exact h ((eqF_iff _ _).1 hh)


theorem fequal (x y : Fl) (w : World) : (Op.equalIn 10000 42 (.agg #[.int .i64 x.a, .int .i64 x.b, .int .i64 x.slot, .int .i64 x.unt]) (.agg #[.int .i64 y.a, .int .i64 y.b, .int .i64 y.slot, .int .i64 y.unt])).run Try.prog w = .ok (flEq x y) w := by
  have u3 := Try.underlying3
  have a3 := Try.isAgg3
  have z3 := Try.sizeOf3
  have a37 := Try.isAgg37
  have z37 := Try.sizeOf37
  have k9 := kequal9
  have hS : Try.prog.underlying 42 = some (.struct (Try.prog.fieldsOf 42)) := by kernel_rfl
  have hp : Try.prog.stoodInHeld 42 = false := by kernel_rfl
  rw [show (10000 : Nat) = 9999 + 1 from rfl, run_equalIn_agg w 9999 42 _ _ hS hp]
  simp only [Program.fieldsOf, Try.underlying42]
  clear hS
  go_simp
  unfold flEq
  by_cases h1 : x.a = y.a <;> by_cases h2 : x.b = y.b <;> by_cases h3 : x.slot = y.slot <;> by_cases h4 : x.unt = y.unt <;> simp [h1, h2, h3, h4]

theorem eqF_ne {l1 l2 : List Fl} {k : Nat} (h1 : k < l1.length) (h2 : k < l2.length) (h : l1[k] ≠ l2[k]) : eqF l1 l2 = false :=
  eqF_false (by rintro rfl; exact h rfl)
theorem eqF_all {l1 l2 : List Fl} (hl : l1.length = l2.length) (h : ∀ j, j < l1.length → l1[j]? = l2[j]?) : eqF l1 l2 = true := by
  rw [eqF_iff]
  apply List.ext_getElem?
  intro j
  by_cases hj : j < l1.length
  · exact h j hj
  · rw [List.getElem?_eq_none (by omega), List.getElem?_eq_none (by omega)]

set_option maxHeartbeats 3200000 in
theorem equalF_any (a1 a2 : Option Addr) (c1 c2 : Nat) (l1 l2 : List Fl) (w : World) (r1 : FRow w a1 c1 l1) (r2 : FRow w a2 c2 l2) :
    Calls Try.prog 58 #[.slice a1 l1.length c1, .slice a2 l2.length c2] w fun e w' => e = .returned (.bool (eqF l1 l2)) ∧ Below w.heap.size w w' := by
  have m1 := r1.max; have m2 := r2.max
  have n1 : l1.length ≤ 9223372036854775807 := by omega
  have n2 : l2.length ≤ 9223372036854775807 := by omega
  by_cases hl : l1.length = l2.length
  rotate_left
  · have HV : Hid (eqF l1 l2 = false) := eqF_false (by rintro rfl; exact hl rfl)
    have hb : ((l1.length : Int) != (l2.length : Int)) = true := by rw [bne_iff_ne]; omega
    go_enter Try.func58, Try.ntmps58
    go_wp2
    go_ret
    exact ⟨ret_bool HV.out.symm, Below.refl _ _⟩
  · have HL : Hid (l1.length = l2.length) := hl
    have hb : ((l1.length : Int) != (l2.length : Int)) = false := by rw [hl]; simp
    clear hl
    have HZ1 : Hid _ := r1.at_
    have HZ2 : Hid _ := r2.at_
    clear r1 r2
    go_enter Try.func58, Try.ntmps58
    go_wp2
    go_loopw [13] (fun i wr => ∃ k q : Nat, k ≤ l1.length ∧ i = .int .i64 k ∧ wr = w.drewN q ∧ Hid (∀ j, j < k → l1[j]? = l2[j]?)) (fun i _ => l1.length - (intOf i).toNat)
    case atStart => exact ⟨0, 0, Nat.zero_le _, rfl, rfl, fun j hj => absurd hj (Nat.not_lt_zero _)⟩
    case round =>
      obtain ⟨k, q, hk, rfl, rfl, HE⟩ := hrel
      by_cases hlt : k < l1.length
      · have hlt2 : k < l2.length := by have := HL.out; omega
        rcases HZ1.out with h0 | ⟨b1, o1, rfl, hc1⟩
        · omega
        rcases HZ2.out with h0 | ⟨b2, o2, rfl, hc2⟩
        · omega
        obtain ⟨x0, x1, x2, x3⟩ := hc1 k hlt
        obtain ⟨y0, y1, y2, y3⟩ := hc2 k hlt2
        rw [← World.cell?_drewN (n := q)] at x0 x1 x2 x3 y0 y1 y2 y3
        clear hc1 hc2
        generalize hwq : w.drewN q = wq at x0 x1 x2 x3 y0 y1 y2 y3 ⊢
        have HWQ : Hid _ := hwq
        clear hwq
        generalize hx : l1[k] = x at x0 x1 x2 x3
        generalize hy : l2[k] = y at y0 y1 y2 y3
        have HX : Hid (l1[k] = x ∧ l2[k] = y) := ⟨hx, hy⟩
        clear hx hy
        have se := fequal x y
        cases hxy : flEq x y
        · have HV : Hid (eqF l1 l2 = false) := eqF_ne hlt hlt2 (by rw [HX.out.1, HX.out.2]; intro e; rw [e, flEq_refl] at hxy; cases hxy)
          go_wp2_with fail
          go_quiet (fail)
          go_wp2
          go_ret
          exact ⟨ret_bool HV.out.symm, by rw [← HWQ.out, World.drewN_drewN]; exact drewN_below _ _⟩
        · have HV : Hid (∀ j, j < k + 1 → l1[j]? = l2[j]?) := fun j hj => by
            by_cases e : j = k
            · subst e
              rw [List.getElem?_eq_getElem hlt, List.getElem?_eq_getElem hlt2, HX.out.1, HX.out.2, (flEq_iff x y).1 hxy]
            · exact HE.out j (by omega)
          go_wp2_with fail
          go_quiet (fail)
          go_wp2
          go_roundw
          case rel => exact ⟨k + 1, q + nq, by omega, by go_num, by rw [← HWQ.out, World.drewN_drewN], HV⟩
          case measure => simp [intOf]; omega
      · have HV : Hid (eqF l1 l2 = true) := eqF_all HL.out (fun j hj => HE.out j (by omega))
        go_wp2
        go_ret
        exact ⟨ret_bool HV.out.symm, drewN_below _ _⟩




end Go.Proofs.Ytdbilofhcadmoab.mm
