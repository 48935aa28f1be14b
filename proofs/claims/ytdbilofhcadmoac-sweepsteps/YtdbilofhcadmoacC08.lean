/- What the steps of calls share: a frame that is answered, a call that is over, what a number leads to. -/
import Derived.Test.YtdbilofhcadmoacC07
import Derived.Test.YtdbilofhcadmoacC04
import Derived.Deep.QuietTactic
import Derived.BigQuiet
import Derived.BigRegion
import Derived.Lib.QuietBelow
namespace Go.Proofs.Ytdbilofhcadmoac.mm
open Go.ChangeShapes Go.WideShapes Go.ChangeAt Go.RowKit Go.Joins
set_option maxRecDepth 100000
set_option linter.unusedVariables false

theorem kro_end {w w1 : World} {n : Nat} {a aK : Option Addr} {c cK : Nat} {l : List (Int × Int)} {v0 v1 v2 v3 v4 v5 v6 v7 v8 v9 v10 v11 v12 v13 : Value} (hn : n = w.heap.size) (r : KRow w1 a c l) (r0 : KRow w aK cK l) (hl : ∀ ad, a = some ad → aK = some ad ∨ n + 2 ≤ ad.block) :
    KRow ((((((((((((((w1.setCell ⟨n + 1, 0, none⟩ v0).setCell ⟨n + 1, 1, none⟩ v1).setCell ⟨n + 1, 2, none⟩ v2).setCell ⟨n + 1, 3, none⟩ v3).setCell ⟨n + 1, 4, none⟩ v4).setCell ⟨n + 1, 5, none⟩ v5).setCell ⟨n + 1, 6, none⟩ v6).setCell ⟨n + 1, 7, none⟩ v7).setCell ⟨n + 1, 8, none⟩ v8).setCell ⟨n + 1, 9, none⟩ v9).setCell ⟨n + 1, 10, none⟩ v10).setCell ⟨n + 1, 11, none⟩ v11).setCell ⟨n + 1, 12, none⟩ v12).setCell ⟨n + 1, 13, none⟩ v13) a c l := by
  refine ⟨r.le, r.max, r.nil, ?_⟩
  by_cases h0 : l.length = 0
  · exact .inl h0
  rcases r.at_ with h | ⟨b, o, e, hc⟩
  · exact absurd h h0
  · refine .inr ⟨b, o, e, fun i hi => ?_⟩
    have hb : b ≠ n + 1 := by
      rcases hl _ e with h | h
      · rcases r0.at_ with h' | ⟨b', o', e', hc'⟩
        · exact absurd h' h0
        · have := cell_lt (hc' 0 (by omega)).1
          rw [h] at e'
          injection e' with e'
          injection e' with e'
          omega
      · dsimp only at h; omega
    have q : ∀ x, (((((((((((((((w1.setCell ⟨n + 1, 0, none⟩ v0).setCell ⟨n + 1, 1, none⟩ v1).setCell ⟨n + 1, 2, none⟩ v2).setCell ⟨n + 1, 3, none⟩ v3).setCell ⟨n + 1, 4, none⟩ v4).setCell ⟨n + 1, 5, none⟩ v5).setCell ⟨n + 1, 6, none⟩ v6).setCell ⟨n + 1, 7, none⟩ v7).setCell ⟨n + 1, 8, none⟩ v8).setCell ⟨n + 1, 9, none⟩ v9).setCell ⟨n + 1, 10, none⟩ v10).setCell ⟨n + 1, 11, none⟩ v11).setCell ⟨n + 1, 12, none⟩ v12).setCell ⟨n + 1, 13, none⟩ v13)).cell? ⟨b, x, none⟩ = w1.cell? ⟨b, x, none⟩ := fun x => World.cell?_of_block (a := ⟨b, x, none⟩) (by
      dsimp only
      repeat rw [Below.heap_setCell _ _ _ _ (by dsimp only; exact hb)])
    rw [q, q]
    exact hc i hi

theorem over_anyA (f : Fr) (n : Int) (aK : Option Addr) (cK : Nat) (w : World) :
    Calls Try.prog 47 #[.agg #[.int .i64 f.c.kind, .int .i64 f.c.a, .int .i64 f.c.b, .int .i64 f.c.time, .int .i64 f.c.bk, .int .i64 f.c.slot, .int .i64 f.pl, .int .i64 f.cur, .int .i64 f.prev, .int .i64 f.slot, .int .i64 f.n, .slice aK f.keys.length cK, .bool f.done, .int .i64 f.e], .int .i64 n] w fun e w' => e = .returned (.agg #[.int .i64 (endF f n).c.kind, .int .i64 (endF f n).c.a, .int .i64 (endF f n).c.b, .int .i64 (endF f n).c.time, .int .i64 (endF f n).c.bk, .int .i64 (endF f n).c.slot, .int .i64 (endF f n).pl, .int .i64 (endF f n).cur, .int .i64 (endF f n).prev, .int .i64 (endF f n).slot, .int .i64 (endF f n).n, .slice aK (endF f n).keys.length cK, .bool (endF f n).done, .int .i64 (endF f n).e]) ∧ Below w.heap.size w w' := by
  go_enter Try.func47, Try.ntmps47
  go_wp2
  refine bodyPost_ret (v := .agg #[.int .i64 (endF f n).c.kind, .int .i64 (endF f n).c.a, .int .i64 (endF f n).c.b, .int .i64 (endF f n).c.time, .int .i64 (endF f n).c.bk, .int .i64 (endF f n).c.slot, .int .i64 (endF f n).pl, .int .i64 (endF f n).cur, .int .i64 (endF f n).prev, .int .i64 (endF f n).slot, .int .i64 (endF f n).n, .slice aK (endF f n).keys.length cK, .bool (endF f n).done, .int .i64 (endF f n).e]) (by simp [results, Try.results47, go_sem, endF]) rfl ⟨rfl, ?_⟩
  repeat (first | exact Below.refl _ _ | refine Below.alloc ?_ (by simp <;> omega) _ | refine Below.setCell ?_ (by simp <;> omega) _)

theorem Lk2.toA {w w1 w2 : World} {Z : Nat → Prop} {B lo : Nat} {M : Mm} {f g : Fr} {aK : Option Addr} {cK : Nat} (h : Lk2 w w1 Z B lo M f aK cK) (hf : Fine w1 w2 (fun k => k = w.heap.size)) (hx : w2.heap[w.heap.size]? = some (.cells #[.int .i64 g.c.kind, .int .i64 g.c.a, .int .i64 g.c.b, .int .i64 g.c.time, .int .i64 g.c.bk, .int .i64 g.c.slot, .int .i64 g.pl, .int .i64 g.cur, .int .i64 g.prev, .int .i64 g.slot, .int .i64 g.n, .slice aK g.keys.length cK, .bool g.done, .int .i64 g.e] 33 (0, 0))) : Lk2 w w2 Z B lo M g aK cK := by
  obtain ⟨aS, aH, aF, aL, cS, cH, cF, cL, m, hz⟩ := h.mine
  refine ⟨h.zl, h.fine.trans hf (fun k h1 h2 => by omega), ⟨aS, aH, aF, aL, cS, cH, cF, cL, m.same hf.size (fun k h1 h2 => hf.block k h1 ?_), hz⟩, hx, (hf.block _ (lt_of_block h.zb) (by omega)).trans h.zb⟩
  rcases hz k h2 with h3 | h3
  · have := h.zl k h3; omega
  · omega

theorem isSlotEA (n : Int) (w : World) {r : Bool} (h : decide (0 < n) = r) : Calls Try.prog 43 #[.int .i64 n] w fun e w' => e = .returned (.bool r) ∧ w = w' := by
  subst h
  go_enter Try.func43, Try.ntmps43
  go_wp2
  go_ret
  exact ⟨rfl, rfl⟩

theorem krow_anyA (w : World) {a : Option Addr} {c : Nat} {l : List (Int × Int)} (hl : l = []) (hn : a = none → c = 0) : KRow w a c l := by
  subst hl
  exact ⟨Nat.zero_le _, by simp, hn, .inl rfl⟩


end Go.Proofs.Ytdbilofhcadmoac.mm

/- A Drop as plain data: what a step does and what it leaves. -/
namespace Go.Proofs.Ytdbilofhcadmoac.mm
set_option linter.unusedVariables false

def prevF2 (f : Fr) (p c n : Int) : Fr := { f with prev := p, cur := c, pl := n }
def errF (f : Fr) (e n : Int) : Fr := { f with e := e, pl := n }
def drLock (M : Mm) (f : Fr) : Fr := if lockAt M (bkN M f) = -1 then toF f 1 else f
def drSee (M : Mm) (f : Fr) : Fr := if isAt M f then toF f (if lkK (slotAt M (f.cur - 1)) f then 4 else 3) else errF f 5 5
def drPass (M : Mm) (f : Fr) : Fr := if isAt M f then prevF2 f f.cur (slotAt M (f.cur - 1)).next 2 else errF f 8 5
def drCut (M : Mm) (f : Fr) : Fr := if isAt M f then { f with slot := f.cur - 1, e := 0, pl := 5 } else errF f 8 5
def drCutM (M : Mm) (f : Fr) : Mm := if isAt M f then cutM M (bkN M f) f.prev (f.cur - 1) else M
def drPutM (M : Mm) (f : Fr) : Mm := if isSl M f.slot then putN M f.slot else M

def drF (M : Mm) (f : Fr) : Fr :=
  if f.pl = 0 then drLock M f else if f.pl = 1 then prevF2 f 0 (headM M (bkN M f)) 2 else if f.pl = 2 then drSee M f else if f.pl = 3 then drPass M f
  else if f.pl = 4 then drCut M f else if f.pl = 5 then toF f 6 else if f.pl = 6 then endF { f with slot := -1 } f.e else errF f 8 5
def drM (t : Int) (M : Mm) (f : Fr) : Mm :=
  if f.pl = 0 then adLockM M f t else if f.pl = 4 then drCutM M f else if f.pl = 5 then adOpenM M f t else if f.pl = 6 then drPutM M f else M

theorem drF0 {M : Mm} {f : Fr} (h : f.pl = 0) : drF M f = drLock M f := by unfold drF; rw [if_pos h]
theorem drF1 {M : Mm} {f : Fr} (h : f.pl = 1) : drF M f = prevF2 f 0 (headM M (bkN M f)) 2 := by unfold drF; rw [if_neg (by omega), if_pos h]
theorem drF2 {M : Mm} {f : Fr} (h : f.pl = 2) : drF M f = drSee M f := by unfold drF; rw [if_neg (by omega), if_neg (by omega), if_pos h]
theorem drF3 {M : Mm} {f : Fr} (h : f.pl = 3) : drF M f = drPass M f := by unfold drF; rw [if_neg (by omega), if_neg (by omega), if_neg (by omega), if_pos h]
theorem drF4 {M : Mm} {f : Fr} (h : f.pl = 4) : drF M f = drCut M f := by unfold drF; rw [if_neg (by omega), if_neg (by omega), if_neg (by omega), if_neg (by omega), if_pos h]
theorem drF5 {M : Mm} {f : Fr} (h : f.pl = 5) : drF M f = toF f 6 := by unfold drF; rw [if_neg (by omega), if_neg (by omega), if_neg (by omega), if_neg (by omega), if_neg (by omega), if_pos h]
theorem drF6 {M : Mm} {f : Fr} (h : f.pl = 6) : drF M f = endF { f with slot := -1 } f.e := by unfold drF; rw [if_neg (by omega), if_neg (by omega), if_neg (by omega), if_neg (by omega), if_neg (by omega), if_neg (by omega), if_pos h]
theorem drF7 {M : Mm} {f : Fr} (h : 7 ≤ f.pl) : drF M f = errF f 8 5 := by unfold drF; rw [if_neg (by omega), if_neg (by omega), if_neg (by omega), if_neg (by omega), if_neg (by omega), if_neg (by omega), if_neg (by omega)]
theorem drM0 {M : Mm} {f : Fr} {t : Int} (h : f.pl = 0) : drM t M f = adLockM M f t := by unfold drM; rw [if_pos h]
theorem drM4 {M : Mm} {f : Fr} {t : Int} (h : f.pl = 4) : drM t M f = drCutM M f := by unfold drM; rw [if_neg (by omega), if_pos h]
theorem drM5 {M : Mm} {f : Fr} {t : Int} (h : f.pl = 5) : drM t M f = adOpenM M f t := by unfold drM; rw [if_neg (by omega), if_neg (by omega), if_pos h]
theorem drM6 {M : Mm} {f : Fr} {t : Int} (h : f.pl = 6) : drM t M f = drPutM M f := by unfold drM; rw [if_neg (by omega), if_neg (by omega), if_neg (by omega), if_pos h]
theorem drM_same {M : Mm} {f : Fr} {t : Int} (h : f.pl ≠ 0 ∧ f.pl ≠ 4 ∧ f.pl ≠ 5 ∧ f.pl ≠ 6) : drM t M f = M := by unfold drM; rw [if_neg h.1, if_neg h.2.1, if_neg h.2.2.1, if_neg h.2.2.2]

theorem drF_c (M : Mm) (f : Fr) : (drF M f).c = f.c := by
  unfold drF drLock drSee drPass drCut
  repeat' split
  all_goals rfl
theorem drF_keys (M : Mm) (f : Fr) : (drF M f).keys = f.keys := by
  unfold drF drLock drSee drPass drCut
  repeat' split
  all_goals rfl

/- Keys, times and marks stay, and what is free stays free. -/
structure Keep (M M' : Mm) : Prop where
  ns : M'.slots.length = M.slots.length
  slot : ∀ k, (M'.slots.getD k sl0).a = (M.slots.getD k sl0).a ∧ (M'.slots.getD k sl0).b = (M.slots.getD k sl0).b ∧ (M'.slots.getD k sl0).unt = (M.slots.getD k sl0).unt ∧ (M'.slots.getD k sl0).inn = (M.slots.getD k sl0).inn
  free : M.free.length ≤ M'.free.length

theorem Keep.refl (M : Mm) : Keep M M := ⟨rfl, fun _ => ⟨rfl, rfl, rfl, rfl⟩, Nat.le_refl _⟩
theorem getD_set (l : List Sl) (j k : Nat) (x : Sl) : (l.set j x).getD k sl0 = if j = k ∧ j < l.length then x else l.getD k sl0 := by
  rw [List.getD_eq_getElem?_getD, List.getD_eq_getElem?_getD, List.getElem?_set]
  by_cases e : j = k
  · subst e
    by_cases h : j < l.length
    · rw [if_pos rfl, if_pos h, if_pos ⟨rfl, h⟩]; rfl
    · rw [if_pos rfl, if_neg h, if_neg (fun h' => h h'.2), List.getElem?_eq_none (by omega)]
  · rw [if_neg e, if_neg (fun h => e h.1)]
theorem keep_set {l : List Sl} {j : Nat} {x : Sl} (h : x.a = (l.getD j sl0).a ∧ x.b = (l.getD j sl0).b ∧ x.unt = (l.getD j sl0).unt ∧ x.inn = (l.getD j sl0).inn) (k : Nat) :
    ((l.set j x).getD k sl0).a = (l.getD k sl0).a ∧ ((l.set j x).getD k sl0).b = (l.getD k sl0).b ∧ ((l.set j x).getD k sl0).unt = (l.getD k sl0).unt ∧ ((l.set j x).getD k sl0).inn = (l.getD k sl0).inn := by
  rw [getD_set]
  split
  · rename_i e
    rw [← e.1]; exact h
  · exact ⟨rfl, rfl, rfl, rfl⟩
theorem lock_keep (M : Mm) (b : Nat) (t : Int) : Keep M (lockM M b t) := ⟨rfl, fun _ => ⟨rfl, rfl, rfl, rfl⟩, Nat.le_refl _⟩
theorem putN_keep (M : Mm) (a : Int) : Keep M (putN M a) := by
  unfold putN
  split
  · exact .refl M
  · refine ⟨by simp [putM, setRefs], fun k => keep_set (l := M.slots) (j := a.toNat) (x := { M.slots.getD a.toNat sl0 with refs := refsM M a - 1 }) ⟨rfl, rfl, rfl, rfl⟩ k, ?_⟩
    unfold putM
    dsimp only
    split
    · simp only [List.length_append, List.length_cons, List.length_nil]; omega
    · omega
theorem cutM_keep (M : Mm) (b : Nat) (p a : Int) : Keep M (cutM M b p a) := by
  unfold cutM
  split
  · exact ⟨by simp, fun k => keep_set (l := M.slots) (j := (p - 1).toNat) (x := { slotAt M (p - 1) with next := (slotAt M a).next }) ⟨rfl, rfl, rfl, rfl⟩ k, Nat.le_refl _⟩
  · exact ⟨rfl, fun _ => ⟨rfl, rfl, rfl, rfl⟩, Nat.le_refl _⟩
theorem cutM_near (M : Mm) (b : Nat) (p a : Int) : Near M (cutM M b p a) b := by
  unfold cutM
  split
  · exact ⟨rfl, by simp, rfl, rfl, fun _ _ => rfl, fun _ _ => rfl, (fun k => dif_set1 _ _ _ k), by simp⟩
  · exact ⟨rfl, rfl, by simp, rfl, (fun i hi => by dsimp only; rw [List.getElem?_set_ne (by omega)]), fun _ _ => rfl, (fun k => by show dif M.slots M.slots k ≤ 1; rw [dif_same]; omega), by simp⟩

theorem drM_near (t : Int) (M : Mm) (f : Fr) : Near M (drM t M f) (bkN M f) := by
  unfold drM adLockM drCutM adOpenM drPutM
  repeat' split
  all_goals first
    | exact .refl _ _
    | exact lock_near _ _ _
    | exact cutM_near _ _ _ _
    | exact putN_near _ _ _
theorem drM_keep (t : Int) (M : Mm) (f : Fr) : Keep M (drM t M f) := by
  unfold drM adLockM drCutM adOpenM drPutM
  repeat' split
  all_goals first
    | exact .refl _
    | exact lock_keep _ _ _
    | exact cutM_keep _ _ _ _
    | exact putN_keep _ _

theorem Fit.err {M : Mm} {f : Fr} (h : Fit M f) (e : Int) {n : Int} (h1 : 0 ≤ n ∧ n ≤ 9) : Fit M (errF f e n) := ⟨h.call, h1, h.n, h.done, h.cur, h.prev, h.slot, h.keys⟩
theorem Fit.prevTo {M : Mm} {f : Fr} (h : Fit M f) {p c n : Int} (h1 : 0 ≤ n ∧ n ≤ 9) (h2 : -(M.heads.length : Int) ≤ c ∧ c ≤ M.slots.length) (h3 : 0 ≤ p ∧ p ≤ M.slots.length) : Fit M (prevF2 f p c n) := ⟨h.call, h1, h.n, h.done, h2, h3, h.slot, h.keys⟩

theorem drF_fit {M : Mm} {f : Fr} (t : Int) (hM : Ok M) (h : Fit M f) (hd : (drF M f).done = false) : Fit (drM t M f) (drF M f) := by
  refine Fit.near ?_ (drM_near t M f)
  revert hd
  unfold drF drLock drSee drPass drCut
  have hb := bkOf_in hM h.call
  have hhd : -(M.heads.length : Int) ≤ headM M (bkN M f) ∧ headM M (bkN M f) ≤ M.slots.length := by
    have hh := (hM.headIn (b := bkN M f) (by unfold bkN; omega)).2
    rwa [inB_iff] at hh
  repeat' split
  all_goals intro hd
  all_goals first
    | (cases hd; done)
    | exact h
    | exact h.to (by omega)
    | exact h.err _ (by omega)
    | exact h.prevTo (by omega) hhd (by omega)
    | skip
  · rename_i ha
    exact h.prevTo (by omega) (slot_next hM (isAt_sl ha)) (by have := isAt_iff.1 ha; omega)
  · rename_i ha
    have := isAt_iff.1 ha
    exact ⟨h.call, by simp, h.n, h.done, h.cur, h.prev, by constructor <;> simp <;> omega, h.keys⟩

/- Chains may be cut anywhere: memory stays right. -/
theorem heads_ok {M : Mm} (h : Ok M) (b : Nat) {hd : Int} (h2 : hd ≠ 0 ∧ inB hd (-(M.heads.length : Int)) M.slots.length = true) : Ok { M with heads := M.heads.set b hd } := by
  refine ⟨h.ns, by simpa using h.nh, by simpa using h.nl, h.now, by simpa using h.slot, ?_, h.free, h.nodup, h.all⟩
  intro p hp
  simp only [List.length_set] at hp ⊢
  obtain ⟨i, hi, e⟩ := List.getElem_of_mem hp
  rw [List.getElem_zip] at e
  have hi' : i < M.heads.length ∧ i < M.locks.length := by simp at hi; omega
  have h0 := h.chain (M.heads[i]'hi'.1, M.locks[i]'hi'.2) (by
    rw [← List.getElem_zip (h := by simp; omega)]
    exact List.getElem_mem _)
  subst e
  unfold chainErr at h0 ⊢
  dsimp only at h0 ⊢
  have hl : inB (M.locks[i]'hi'.2) (-1) 4 = true := by
    by_cases hl : inB (M.locks[i]'hi'.2) (-1) 4 = true
    · exact hl
    · rw [if_neg hl] at h0
      split at h0 <;> omega
  rw [if_pos, if_pos hl]
  rw [List.getElem_set]
  split
  · exact h2
  · by_cases hc : M.heads[i]'hi'.1 ≠ 0 ∧ inB (M.heads[i]'hi'.1) (-(M.heads.length : Int)) M.slots.length
    · exact hc
    · rw [if_neg hc] at h0; omega



end Go.Proofs.Ytdbilofhcadmoac.mm

/- A Sweep and a List as plain data: what a step does and what it leaves. -/
namespace Go.Proofs.Ytdbilofhcadmoac.mm
set_option linter.unusedVariables false

def swKeys (M : Mm) (f : Fr) : List (Int × Int) := if f.keys.length < 100 then f.keys ++ [keyAt M (f.cur - 1)] else f.keys
def swSee (M : Mm) (f : Fr) : Fr :=
  if isAt M f then (if f.c.kind = 5 then { f with keys := swKeys M f, pl := 3 } else if M.now < (slotAt M (f.cur - 1)).unt then toF f 3 else toF f 4) else toF f 6
def swPass (M : Mm) (f : Fr) : Fr := if isAt M f then prevF2 f f.cur (slotAt M (f.cur - 1)).next 2 else toF f 6
def swCut (M : Mm) (f : Fr) : Fr := if isAt M f then { f with slot := f.cur - 1, cur := (slotAt M (f.cur - 1)).next, pl := 5 } else toF f 6
def swPut (M : Mm) (f : Fr) : Fr := if isSl M f.slot then { f with slot := -1, n := if f.n < 1000000 then f.n + 1 else f.n, pl := 2 } else toF f 6

def swF (M : Mm) (f : Fr) : Fr :=
  if f.pl = 0 then drLock M f else if f.pl = 1 then prevF2 f 0 (headM M (bkN M f)) 2 else if f.pl = 2 then swSee M f else if f.pl = 3 then swPass M f
  else if f.pl = 4 then swCut M f else if f.pl = 5 then swPut M f else if f.pl = 6 then endF f 0 else toF f 6
def swM (t : Int) (M : Mm) (f : Fr) : Mm :=
  if f.pl = 0 then adLockM M f t else if f.pl = 4 then drCutM M f else if f.pl = 5 then drPutM M f else if f.pl = 6 then adOpenM M f t else M

theorem swF0 {M : Mm} {f : Fr} (h : f.pl = 0) : swF M f = drLock M f := by unfold swF; rw [if_pos h]
theorem swF1 {M : Mm} {f : Fr} (h : f.pl = 1) : swF M f = prevF2 f 0 (headM M (bkN M f)) 2 := by unfold swF; rw [if_neg (by omega), if_pos h]
theorem swF2 {M : Mm} {f : Fr} (h : f.pl = 2) : swF M f = swSee M f := by unfold swF; rw [if_neg (by omega), if_neg (by omega), if_pos h]
theorem swF3 {M : Mm} {f : Fr} (h : f.pl = 3) : swF M f = swPass M f := by unfold swF; rw [if_neg (by omega), if_neg (by omega), if_neg (by omega), if_pos h]
theorem swF4 {M : Mm} {f : Fr} (h : f.pl = 4) : swF M f = swCut M f := by unfold swF; rw [if_neg (by omega), if_neg (by omega), if_neg (by omega), if_neg (by omega), if_pos h]
theorem swF5 {M : Mm} {f : Fr} (h : f.pl = 5) : swF M f = swPut M f := by unfold swF; rw [if_neg (by omega), if_neg (by omega), if_neg (by omega), if_neg (by omega), if_neg (by omega), if_pos h]
theorem swF6 {M : Mm} {f : Fr} (h : f.pl = 6) : swF M f = endF f 0 := by unfold swF; rw [if_neg (by omega), if_neg (by omega), if_neg (by omega), if_neg (by omega), if_neg (by omega), if_neg (by omega), if_pos h]
theorem swF7 {M : Mm} {f : Fr} (h : 7 ≤ f.pl) : swF M f = toF f 6 := by unfold swF; rw [if_neg (by omega), if_neg (by omega), if_neg (by omega), if_neg (by omega), if_neg (by omega), if_neg (by omega), if_neg (by omega)]
theorem swM0 {M : Mm} {f : Fr} {t : Int} (h : f.pl = 0) : swM t M f = adLockM M f t := by unfold swM; rw [if_pos h]
theorem swM4 {M : Mm} {f : Fr} {t : Int} (h : f.pl = 4) : swM t M f = drCutM M f := by unfold swM; rw [if_neg (by omega), if_pos h]
theorem swM5 {M : Mm} {f : Fr} {t : Int} (h : f.pl = 5) : swM t M f = drPutM M f := by unfold swM; rw [if_neg (by omega), if_neg (by omega), if_pos h]
theorem swM6 {M : Mm} {f : Fr} {t : Int} (h : f.pl = 6) : swM t M f = adOpenM M f t := by unfold swM; rw [if_neg (by omega), if_neg (by omega), if_neg (by omega), if_pos h]
theorem swM_same {M : Mm} {f : Fr} {t : Int} (h : f.pl ≠ 0 ∧ f.pl ≠ 4 ∧ f.pl ≠ 5 ∧ f.pl ≠ 6) : swM t M f = M := by unfold swM; rw [if_neg h.1, if_neg h.2.1, if_neg h.2.2.1, if_neg h.2.2.2]

theorem swF_c (M : Mm) (f : Fr) : (swF M f).c = f.c := by
  unfold swF drLock swSee swPass swCut swPut
  repeat' split
  all_goals rfl
/- A Sweep's keys stay; a List's grow by one at most, up to a hundred. -/
theorem swF_keys (M : Mm) (f : Fr) : (swF M f).keys = f.keys ∨ (f.c.kind = 5 ∧ f.keys.length < 100 ∧ (swF M f).keys = f.keys ++ [keyAt M (f.cur - 1)]) := by
  unfold swF drLock swSee swPass swCut swPut
  repeat' split
  all_goals first
    | exact .inl rfl
    | skip
  all_goals
    show swKeys M f = f.keys ∨ _
    unfold swKeys
    split
    · exact .inr ⟨by assumption, by assumption, rfl⟩
    · exact .inl rfl
theorem swF_n (M : Mm) (f : Fr) : f.n ≤ (swF M f).n := by
  unfold swF drLock swSee swPass swCut swPut
  repeat' split
  all_goals first
    | exact Int.le_refl _
    | skip
  all_goals
    dsimp only
    omega

theorem swM_near (t : Int) (M : Mm) (f : Fr) : Near M (swM t M f) (bkN M f) := by
  unfold swM adLockM drCutM adOpenM drPutM
  repeat' split
  all_goals first
    | exact .refl _ _
    | exact lock_near _ _ _
    | exact cutM_near _ _ _ _
    | exact putN_near _ _ _
theorem swM_keep (t : Int) (M : Mm) (f : Fr) : Keep M (swM t M f) := by
  unfold swM adLockM drCutM adOpenM drPutM
  repeat' split
  all_goals first
    | exact .refl _
    | exact lock_keep _ _ _
    | exact cutM_keep _ _ _ _
    | exact putN_keep _ _
/- A List that comes to no others changes no slot. -/
theorem swM_slots (t : Int) (M : Mm) (f : Fr) (h : f.pl < 4) : (swM t M f).slots = M.slots := by
  unfold swM adLockM
  repeat' split
  all_goals first
    | rfl
    | omega

theorem swF_fit {M : Mm} {f : Fr} (t : Int) (hM : Ok M) (h : Fit M f) (hd : (swF M f).done = false) : Fit (swM t M f) (swF M f) := by
  refine Fit.near ?_ (swM_near t M f)
  revert hd
  unfold swF drLock swSee swPass swCut swPut
  have hb := bkOf_in hM h.call
  have hhd : -(M.heads.length : Int) ≤ headM M (bkN M f) ∧ headM M (bkN M f) ≤ M.slots.length := by
    have hh := (hM.headIn (b := bkN M f) (by unfold bkN; omega)).2
    rwa [inB_iff] at hh
  have hn := h.n
  rw [inB_iff] at hn
  repeat' split
  all_goals intro hd
  all_goals first
    | (cases hd; done)
    | exact h
    | exact h.to (by omega)
    | exact h.prevTo (by omega) hhd (by omega)
    | skip
  · refine ⟨h.call, by simp, h.n, h.done, h.cur, h.prev, h.slot, ?_⟩
    show (swKeys M f).length ≤ 100
    unfold swKeys
    have := h.keys
    split
    · simp only [List.length_append, List.length_cons, List.length_nil]; omega
    · exact this
  · rename_i ha
    exact h.prevTo (by omega) (slot_next hM (isAt_sl ha)) (by have := isAt_iff.1 ha; omega)
  · rename_i ha
    have := isAt_iff.1 ha
    exact ⟨h.call, by simp, h.n, h.done, slot_next hM (isAt_sl ha), h.prev, by constructor <;> simp <;> omega, h.keys⟩
  · exact ⟨h.call, by simp, (by rw [inB_iff]; dsimp only; omega), h.done, h.cur, h.prev, by constructor <;> simp <;> omega, h.keys⟩
  · exact ⟨h.call, by simp, (by rw [inB_iff]; dsimp only; omega), h.done, h.cur, h.prev, by constructor <;> simp <;> omega, h.keys⟩



end Go.Proofs.Ytdbilofhcadmoac.mm

/- The contract of sweep's part late. -/
namespace Go.Proofs.Ytdbilofhcadmoac.mm
open Go.ChangeShapes Go.WideShapes Go.ChangeAt Go.RowKit Go.Joins Go.Deep Go.Sort
set_option maxRecDepth 100000
set_option linter.unusedVariables false

theorem swlate_any (f : Fr) (aK : Option Addr) (cK : Nat) (w : World) :
    Calls Try.prog 39 #[.agg #[.int .i64 f.c.kind, .int .i64 f.c.a, .int .i64 f.c.b, .int .i64 f.c.time, .int .i64 f.c.bk, .int .i64 f.c.slot, .int .i64 f.pl, .int .i64 f.cur, .int .i64 f.prev, .int .i64 f.slot, .int .i64 f.n, .slice aK f.keys.length cK, .bool f.done, .int .i64 f.e]] w fun e w' => e = .returned (.agg #[.int .i64 (toF f 6).c.kind, .int .i64 (toF f 6).c.a, .int .i64 (toF f 6).c.b, .int .i64 (toF f 6).c.time, .int .i64 (toF f 6).c.bk, .int .i64 (toF f 6).c.slot, .int .i64 (toF f 6).pl, .int .i64 (toF f 6).cur, .int .i64 (toF f 6).prev, .int .i64 (toF f 6).slot, .int .i64 (toF f 6).n, .slice aK (toF f 6).keys.length cK, .bool (toF f 6).done, .int .i64 (toF f 6).e]) ∧ Below w.heap.size w w' := by
  go_enter Try.func39, Try.ntmps39
  go_wp2_with fail
  refine (to_any f 6 aK cK _).mono ?_
  rintro e w9 ⟨rfl, hb9⟩
  have HE9 : Hid (Below w.heap.size w w9 ∧ w9.heap[w.heap.size + 1]? = some zeroFr) := zero_at hb9
  clear hb9
  obtain ⟨g0, g1, g2, g3, g4, g5, g6, g7, g8, g9, g10, g11, g12, g13, gf, gs⟩ := framef HE9.out.2
  go_wp2
  refine bodyPost_ret (v := .agg #[.int .i64 (toF f 6).c.kind, .int .i64 (toF f 6).c.a, .int .i64 (toF f 6).c.b, .int .i64 (toF f 6).c.time, .int .i64 (toF f 6).c.bk, .int .i64 (toF f 6).c.slot, .int .i64 (toF f 6).pl, .int .i64 (toF f 6).cur, .int .i64 (toF f 6).prev, .int .i64 (toF f 6).slot, .int .i64 (toF f 6).n, .slice aK (toF f 6).keys.length cK, .bool (toF f 6).done, .int .i64 (toF f 6).e]) (by simp [results, Try.results39, go_sem, toF, g0, g1, g2, g3, g4, g5, g6, g7, g8, g9, g10, g11, g12, g13]) rfl ⟨rfl, set14 HE9.out.1⟩

end Go.Proofs.Ytdbilofhcadmoac.mm

/- The contracts of look's parts let, stray and over. -/
namespace Go.Proofs.Ytdbilofhcadmoac.mm
open Go.ChangeShapes Go.WideShapes Go.ChangeAt Go.RowKit Go.Joins Go.Deep Go.Sort
set_option maxRecDepth 100000
set_option linter.unusedVariables false

def letF (M : Mm) (f : Fr) : Fr := if isSl M f.slot then { f with slot := -1 } else f

set_option maxHeartbeats 3200000 in
theorem let_part (M : Mm) (f : Fr) (B lo : Nat) (aS aH aF aL : Option Addr) (cS cH cF cL : Nat) (aK : Option Addr) (cK : Nat) (w : World)
    (m : Mine w B lo aS aH aF aL cS cH cF cL M) (hM : Ok M) :
    Calls Try.prog 75 #[.pointer (some ⟨B, 0, none⟩), .agg #[.int .i64 f.c.kind, .int .i64 f.c.a, .int .i64 f.c.b, .int .i64 f.c.time, .int .i64 f.c.bk, .int .i64 f.c.slot, .int .i64 f.pl, .int .i64 f.cur, .int .i64 f.prev, .int .i64 f.slot, .int .i64 f.n, .slice aK f.keys.length cK, .bool f.done, .int .i64 f.e]] w fun e w' => e = .returned (.tuple #[.agg #[.int .i64 (letF M f).c.kind, .int .i64 (letF M f).c.a, .int .i64 (letF M f).c.b, .int .i64 (letF M f).c.time, .int .i64 (letF M f).c.bk, .int .i64 (letF M f).c.slot, .int .i64 (letF M f).pl, .int .i64 (letF M f).cur, .int .i64 (letF M f).prev, .int .i64 (letF M f).slot, .int .i64 (letF M f).n, .slice aK (letF M f).keys.length cK, .bool (letF M f).done, .int .i64 (letF M f).e], .bool (isSl M f.slot)]) ∧ Has w' B lo (Up w (Foot B aS aH aF aL)) (lkLetM M f) ∧ Fine w w' (Foot B aS aH aF aL) := by
  have hns := hM.ns
  have HHs : Hid (∀ W : World, Calls Try.prog 88 #[.agg #[.slice aS M.slots.length cS, .slice aH M.heads.length cH, .slice aF M.free.length cF, .slice aL M.locks.length cL, .int .i64 M.now], .int .i64 f.slot] W fun e w' => e = .returned (.bool (isSl M f.slot)) ∧ Below W.heap.size W w') := fun W => isSlot_any aS aH aF aL _ _ _ _ cS cH cF cL M.now f.slot W (by omega)
  cases hsl : isSl M f.slot
  · have hres : letF M f = f := by unfold letF; rw [hsl]; rfl
    have hresM : lkLetM M f = M := by unfold lkLetM; rw [hsl]; rfl
    rw [hres, hresM]
    rw [hsl] at HHs
    obtain ⟨of, hof⟩ : ∃ o : Obj, o = .cells #[.int .i64 f.c.kind, .int .i64 f.c.a, .int .i64 f.c.b, .int .i64 f.c.time, .int .i64 f.c.bk, .int .i64 f.c.slot, .int .i64 f.pl, .int .i64 f.cur, .int .i64 f.prev, .int .i64 f.slot, .int .i64 f.n, .slice aK f.keys.length cK, .bool f.done, .int .i64 f.e] 33 := ⟨_, rfl⟩
    obtain ⟨oz, hoz⟩ : ∃ o : Obj, o = zeroFr := ⟨_, rfl⟩
    have HE : Hid (Lk w ((w.alloc of).alloc oz) B lo aS aH aF aL cS cH cF cL M f aK cK) := Lk.first m f aK cK hof hoz
    obtain ⟨q0, q1, q2, q3, q4, -, -, -, -, -, qs⟩ := boxf HE.out.m.box
    obtain ⟨f0, f1, f2, f3, f4, f5, f6, f7, f8, f9, f10, f11, f12, f13, ff, fs⟩ := framef HE.out.fb
    unfold zeroFr at hoz
    clear m hres hresM hsl hns hM
    go_enter Try.func75, Try.ntmps75
    go_wp2_with fail
    rw [← hof, ← hoz]
    generalize (w.alloc of).alloc oz = W0 at *
    subst hof hoz
    have cB : ∀ (d : Nat) (os : Array Obj), Calls Try.prog 88 #[.agg #[.slice aS M.slots.length cS, .slice aH M.heads.length cH, .slice aF M.free.length cF, .slice aL M.locks.length cL, .int .i64 M.now], .int .i64 f.slot] (grow (redrawn W0 d) os) fun e w'' => e = .returned (.bool false) ∧ ∃ p : Regrown, w'' = grow (redrawn W0 p.d) p.os := fun d os => Calls.regrown_of (HHs.out _)
    have Q0 := cell_regrown q0; have Q1 := cell_regrown q1; have Q2 := cell_regrown q2; have Q3 := cell_regrown q3; have Q4 := cell_regrown q4
    have F9 := cell_regrown f9
    clear q0 q1 q2 q3 q4 qs f0 f1 f2 f3 f4 f5 f6 f7 f8 f9 f10 f11 f12 f13 ff fs
    refine wp_region_quiet_below (by kernel_rfl) (by kernel_rfl) ?_
    repeat (quiet_step (first | exact cB _ _))
    refine wpQuiet_nil ?_
    intro _ hw'
    obtain ⟨⟨dq, osq⟩, hw''⟩ := hw'
    subst hw''
    have HB1 : Hid _ := below_regrown W0 dq osq
    generalize grow (redrawn W0 dq) osq = w1 at *
    clear cB Q0 Q1 Q2 Q3 Q4 F9
    have HE1 : Hid (Lk w w1 B lo aS aH aF aL cS cH cF cL M f aK cK) := HE.out.below HB1.out
    clear HB1 HE
    obtain ⟨q0, q1, q2, q3, q4, -, -, -, -, -, qs⟩ := boxf HE1.out.m.box
    obtain ⟨f0, f1, f2, f3, f4, f5, f6, f7, f8, f9, f10, f11, f12, f13, ff, fs⟩ := framef HE1.out.fb
    obtain ⟨g0, g1, g2, g3, g4, g5, g6, g7, g8, g9, g10, g11, g12, g13, gf, gs⟩ := framef HE1.out.zb
    go_wp2
    refine bodyPost_ret (v := .tuple #[.agg #[.int .i64 f.c.kind, .int .i64 f.c.a, .int .i64 f.c.b, .int .i64 f.c.time, .int .i64 f.c.bk, .int .i64 f.c.slot, .int .i64 f.pl, .int .i64 f.cur, .int .i64 f.prev, .int .i64 f.slot, .int .i64 f.n, .slice aK f.keys.length cK, .bool f.done, .int .i64 f.e], .bool false]) (by simp [results, Try.results75, go_sem, g0, g1, g2, g3, g4, g5, g6, g7, g8, g9, g10, g11, g12, g13]) rfl ⟨rfl, HE1.out.end14⟩
  · have hres : letF M f = { f with slot := -1 } := by unfold letF; rw [hsl]; rfl
    have hresM : lkLetM M f = putN M f.slot := by unfold lkLetM; rw [hsl]; rfl
    rw [hres, hresM]
    have HPt : Hid (∀ (W : World) (Z : Nat → Prop), Has W B lo Z M → Calls Try.prog 97 #[.pointer (some ⟨B, 0, none⟩), .int .i64 f.slot] W fun e w' => e = .returned (.bool (decide (refsM M f.slot ≠ 0))) ∧ Has w' B lo (Up W Z) (putN M f.slot) ∧ Fine W w' Z) := fun W Z h => put_fine h hM hsl
    generalize putN M f.slot = M' at *
    generalize decide (refsM M f.slot ≠ 0) = pr at *
    rw [hsl] at HHs
    obtain ⟨of, hof⟩ : ∃ o : Obj, o = .cells #[.int .i64 f.c.kind, .int .i64 f.c.a, .int .i64 f.c.b, .int .i64 f.c.time, .int .i64 f.c.bk, .int .i64 f.c.slot, .int .i64 f.pl, .int .i64 f.cur, .int .i64 f.prev, .int .i64 f.slot, .int .i64 f.n, .slice aK f.keys.length cK, .bool f.done, .int .i64 f.e] 33 := ⟨_, rfl⟩
    obtain ⟨oz, hoz⟩ : ∃ o : Obj, o = zeroFr := ⟨_, rfl⟩
    have HE : Hid (Lk w ((w.alloc of).alloc oz) B lo aS aH aF aL cS cH cF cL M f aK cK) := Lk.first m f aK cK hof hoz
    obtain ⟨q0, q1, q2, q3, q4, -, -, -, -, -, qs⟩ := boxf HE.out.m.box
    obtain ⟨f0, f1, f2, f3, f4, f5, f6, f7, f8, f9, f10, f11, f12, f13, ff, fs⟩ := framef HE.out.fb
    unfold zeroFr at hoz
    clear m hres hresM hsl hns hM
    go_enter Try.func75, Try.ntmps75
    go_wp2_with fail
    rw [← hof, ← hoz]
    generalize (w.alloc of).alloc oz = W0 at *
    subst hof hoz
    have cB : ∀ (d : Nat) (os : Array Obj), Calls Try.prog 88 #[.agg #[.slice aS M.slots.length cS, .slice aH M.heads.length cH, .slice aF M.free.length cF, .slice aL M.locks.length cL, .int .i64 M.now], .int .i64 f.slot] (grow (redrawn W0 d) os) fun e w'' => e = .returned (.bool true) ∧ ∃ p : Regrown, w'' = grow (redrawn W0 p.d) p.os := fun d os => Calls.regrown_of (HHs.out _)
    have Q0 := cell_regrown q0; have Q1 := cell_regrown q1; have Q2 := cell_regrown q2; have Q3 := cell_regrown q3; have Q4 := cell_regrown q4
    have F9 := cell_regrown f9
    clear q0 q1 q2 q3 q4 qs f0 f1 f2 f3 f4 f5 f6 f7 f8 f9 f10 f11 f12 f13 ff fs
    refine wp_region_quiet_below (by kernel_rfl) (by kernel_rfl) ?_
    repeat (quiet_step (first | exact cB _ _))
    refine wpQuiet_nil ?_
    intro _ hw'
    obtain ⟨⟨dq, osq⟩, hw''⟩ := hw'
    subst hw''
    have HB1 : Hid _ := below_regrown W0 dq osq
    generalize grow (redrawn W0 dq) osq = w1 at *
    clear cB Q0 Q1 Q2 Q3 Q4 F9
    have HE1 : Hid (Lk w w1 B lo aS aH aF aL cS cH cF cL M f aK cK) := HE.out.below HB1.out
    clear HB1 HE
    obtain ⟨q0, q1, q2, q3, q4, -, -, -, -, -, qs⟩ := boxf HE1.out.m.box
    obtain ⟨f0, f1, f2, f3, f4, f5, f6, f7, f8, f9, f10, f11, f12, f13, ff, fs⟩ := framef HE1.out.fb
    go_wp2_with fail
    refine (HPt.out w1 (Foot B aS aH aF aL) ⟨_, _, _, _, _, _, _, _, HE1.out.m, fun _ h => h⟩).mono ?_
    rintro e w2 ⟨rfl, hh2, hf2⟩
    have HE2 : Hid (Lk2 w w2 (Foot B aS aH aF aL) B lo M' f aK cK) := HE1.out.after hh2 hf2
    clear HE1 hh2 hf2
    clear q0 q1 q2 q3 q4 qs f0 f1 f2 f3 f4 f5 f6 f7 f8 f9 f10 f11 f12 f13 ff fs
    obtain ⟨f0, f1, f2, f3, f4, f5, f6, f7, f8, f9, f10, f11, f12, f13, ff, fs⟩ := framef HE2.out.fb
    obtain ⟨g0, g1, g2, g3, g4, g5, g6, g7, g8, g9, g10, g11, g12, g13, gf, gs⟩ := framef HE2.out.zb
    have HE3 : Hid (Lk2 w (w2.setCell ⟨w.heap.size, 9, none⟩ (.int .i64 (-1))) (Foot B aS aH aF aL) B lo M' { f with slot := -1 } aK cK) := HE2.out.store 9 (.int .i64 (-1)) { f with slot := -1 } rfl
    clear HE2
    go_wp2
    refine bodyPost_ret (v := .tuple #[.agg #[.int .i64 ({ f with slot := -1 }).c.kind, .int .i64 ({ f with slot := -1 }).c.a, .int .i64 ({ f with slot := -1 }).c.b, .int .i64 ({ f with slot := -1 }).c.time, .int .i64 ({ f with slot := -1 }).c.bk, .int .i64 ({ f with slot := -1 }).c.slot, .int .i64 ({ f with slot := -1 }).pl, .int .i64 ({ f with slot := -1 }).cur, .int .i64 ({ f with slot := -1 }).prev, .int .i64 ({ f with slot := -1 }).slot, .int .i64 ({ f with slot := -1 }).n, .slice aK ({ f with slot := -1 }).keys.length cK, .bool ({ f with slot := -1 }).done, .int .i64 ({ f with slot := -1 }).e], .bool true]) (by simp [results, Try.results75, go_sem, g0, g1, g2, g3, g4, g5, g6, g7, g8, g9, g10, g11, g12, g13]) rfl ⟨rfl, HE3.out.end14⟩
theorem Lk2.all {w w1 : World} {Z : Nat → Prop} {B lo : Nat} {M : Mm} {f : Fr} {aK : Option Addr} {cK : Nat} (h : Lk2 w w1 Z B lo M f aK cK) (g : Fr) :
    Lk2 w ((((((((((((((w1.setCell ⟨w.heap.size, 0, none⟩ (.int .i64 g.c.kind)).setCell ⟨w.heap.size, 1, none⟩ (.int .i64 g.c.a)).setCell ⟨w.heap.size, 2, none⟩ (.int .i64 g.c.b)).setCell ⟨w.heap.size, 3, none⟩ (.int .i64 g.c.time)).setCell ⟨w.heap.size, 4, none⟩ (.int .i64 g.c.bk)).setCell ⟨w.heap.size, 5, none⟩ (.int .i64 g.c.slot)).setCell ⟨w.heap.size, 6, none⟩ (.int .i64 g.pl)).setCell ⟨w.heap.size, 7, none⟩ (.int .i64 g.cur)).setCell ⟨w.heap.size, 8, none⟩ (.int .i64 g.prev)).setCell ⟨w.heap.size, 9, none⟩ (.int .i64 g.slot)).setCell ⟨w.heap.size, 10, none⟩ (.int .i64 g.n)).setCell ⟨w.heap.size, 11, none⟩ (.slice aK g.keys.length cK)).setCell ⟨w.heap.size, 12, none⟩ (.bool g.done)).setCell ⟨w.heap.size, 13, none⟩ (.int .i64 g.e)) Z B lo M g aK cK :=
  ((((((((((((((h).store 0 (.int .i64 g.c.kind) ⟨⟨g.c.kind, f.c.a, f.c.b, f.c.time, f.c.bk, f.c.slot⟩, f.pl, f.cur, f.prev, f.slot, f.n, f.keys, f.done, f.e⟩ rfl).store 1 (.int .i64 g.c.a) ⟨⟨g.c.kind, g.c.a, f.c.b, f.c.time, f.c.bk, f.c.slot⟩, f.pl, f.cur, f.prev, f.slot, f.n, f.keys, f.done, f.e⟩ rfl).store 2 (.int .i64 g.c.b) ⟨⟨g.c.kind, g.c.a, g.c.b, f.c.time, f.c.bk, f.c.slot⟩, f.pl, f.cur, f.prev, f.slot, f.n, f.keys, f.done, f.e⟩ rfl).store 3 (.int .i64 g.c.time) ⟨⟨g.c.kind, g.c.a, g.c.b, g.c.time, f.c.bk, f.c.slot⟩, f.pl, f.cur, f.prev, f.slot, f.n, f.keys, f.done, f.e⟩ rfl).store 4 (.int .i64 g.c.bk) ⟨⟨g.c.kind, g.c.a, g.c.b, g.c.time, g.c.bk, f.c.slot⟩, f.pl, f.cur, f.prev, f.slot, f.n, f.keys, f.done, f.e⟩ rfl).store 5 (.int .i64 g.c.slot) ⟨⟨g.c.kind, g.c.a, g.c.b, g.c.time, g.c.bk, g.c.slot⟩, f.pl, f.cur, f.prev, f.slot, f.n, f.keys, f.done, f.e⟩ rfl).store 6 (.int .i64 g.pl) ⟨⟨g.c.kind, g.c.a, g.c.b, g.c.time, g.c.bk, g.c.slot⟩, g.pl, f.cur, f.prev, f.slot, f.n, f.keys, f.done, f.e⟩ rfl).store 7 (.int .i64 g.cur) ⟨⟨g.c.kind, g.c.a, g.c.b, g.c.time, g.c.bk, g.c.slot⟩, g.pl, g.cur, f.prev, f.slot, f.n, f.keys, f.done, f.e⟩ rfl).store 8 (.int .i64 g.prev) ⟨⟨g.c.kind, g.c.a, g.c.b, g.c.time, g.c.bk, g.c.slot⟩, g.pl, g.cur, g.prev, f.slot, f.n, f.keys, f.done, f.e⟩ rfl).store 9 (.int .i64 g.slot) ⟨⟨g.c.kind, g.c.a, g.c.b, g.c.time, g.c.bk, g.c.slot⟩, g.pl, g.cur, g.prev, g.slot, f.n, f.keys, f.done, f.e⟩ rfl).store 10 (.int .i64 g.n) ⟨⟨g.c.kind, g.c.a, g.c.b, g.c.time, g.c.bk, g.c.slot⟩, g.pl, g.cur, g.prev, g.slot, g.n, f.keys, f.done, f.e⟩ rfl).store 11 (.slice aK g.keys.length cK) ⟨⟨g.c.kind, g.c.a, g.c.b, g.c.time, g.c.bk, g.c.slot⟩, g.pl, g.cur, g.prev, g.slot, g.n, g.keys, f.done, f.e⟩ rfl).store 12 (.bool g.done) ⟨⟨g.c.kind, g.c.a, g.c.b, g.c.time, g.c.bk, g.c.slot⟩, g.pl, g.cur, g.prev, g.slot, g.n, g.keys, g.done, f.e⟩ rfl).store 13 (.int .i64 g.e) ⟨⟨g.c.kind, g.c.a, g.c.b, g.c.time, g.c.bk, g.c.slot⟩, g.pl, g.cur, g.prev, g.slot, g.n, g.keys, g.done, g.e⟩ rfl

end Go.Proofs.Ytdbilofhcadmoac.mm

/- Keys that lie in a row of one's own; frame.End, which answers such. -/
namespace Go.Proofs.Ytdbilofhcadmoac.mm
open Go.ChangeShapes Go.WideShapes Go.ChangeAt Go.RowKit Go.Joins Go.Deep Go.Sort
set_option maxRecDepth 100000
set_option linter.unusedVariables false

/- Keys in a row of the call's own. -/
structure KOwn (w : World) (lo : Nat) (a : Option Addr) (c : Nat) (l : List (Int × Int)) : Prop where
  own : w.ownsRow lo 27 2 (.slice a l.length c) l.length (encK l)
theorem kown_nil (w : World) (lo : Nat) : KOwn w lo none 0 [] := ⟨World.ownsRow_nil w lo 27 2⟩
theorem KOwn.row {w : World} {lo : Nat} {a : Option Addr} {c : Nat} {l : List (Int × Int)} (h : KOwn w lo a c l) (hm : l.length ≤ 1000) : KRow w a c l := KRow.own h.own (by omega)
theorem KOwn.le {w : World} {lo lo' : Nat} {a : Option Addr} {c : Nat} {l : List (Int × Int)} (h : KOwn w lo a c l) (hl : lo' ≤ lo) : KOwn w lo' a c l := ⟨ownsRow_le h.own hl⟩
theorem KOwn.lt {w : World} {lo : Nat} {a : Option Addr} {c : Nat} {l : List (Int × Int)} (h : KOwn w lo a c l) : ∀ ad, a = some ad → lo ≤ ad.block ∧ ad.block < w.heap.size := by
  rintro ad rfl
  rcases h.own.2 with ⟨hv, -⟩ | ⟨g, cap, cur, hv, hg, hb, -⟩
  · cases hv
  · injection hv with h1 _ _
    injection h1 with h1
    subst h1
    exact ⟨hg, lt_of_block hb⟩
theorem KOwn.same {w w' : World} {lo : Nat} {a : Option Addr} {c : Nat} {l : List (Int × Int)} (h : KOwn w lo a c l) (hk : ∀ ad, a = some ad → w'.heap[ad.block]? = w.heap[ad.block]?) : KOwn w' lo a c l :=
  ⟨own_same h.own fun g hg => by
    cases a with
    | none => cases hg
    | some ad => cases hg; exact hk ad rfl⟩
theorem KOwn.fine {w w' : World} {lo : Nat} {Z : Nat → Prop} {a : Option Addr} {c : Nat} {l : List (Int × Int)} (h : KOwn w lo a c l) (hf : Fine w w' Z) (hz : ∀ ad, a = some ad → ¬ Z ad.block) : KOwn w' lo a c l :=
  h.same fun ad e => hf.block _ (h.lt ad e).2 (hz ad e)
theorem KOwn.below {w w' : World} {lo : Nat} {a : Option Addr} {c : Nat} {l : List (Int × Int)} (h : KOwn w lo a c l) (hb : Below w.heap.size w w') : KOwn w' lo a c l :=
  h.same fun ad e => hb.block _ (h.lt ad e).2
/- Keys never lie in a block of memory, nor in a box of a frame. -/
theorem KOwn.foot {w : World} {lo lo' B : Nat} {aS aH aF aL : Option Addr} {cS cH cF cL : Nat} {M : Mm} {a : Option Addr} {c : Nat} {l : List (Int × Int)} (h : KOwn w lo a c l) (m : Mine w B lo' aS aH aF aL cS cH cF cL M) : ∀ ad, a = some ad → ¬ Foot B aS aH aF aL ad.block := by
  rintro ad rfl hk
  have hne : ∀ {lo2 size n c2 : Nat} {e : TypeId} {a2 : Option Addr} {xs : List Value}, w.ownsRow lo2 e size (.slice a2 n c2) n xs → 27 ≠ e → ∀ ad2, a2 = some ad2 → ad2.block ≠ ad.block := by
    rintro lo2 size n c2 e a2 xs h2 ne ad2 rfl heq
    exact own_dj h.own h2 ne ad.block rfl (by show some ad2.block = _; rw [heq])
  rcases hk with hB | ⟨ad2, e, hb⟩ | ⟨ad2, e, hb⟩ | ⟨ad2, e, hb⟩ | ⟨ad2, e, hb⟩
  · exact own_ne h.own m.box (by decide) (by show some ad.block = _; rw [hB])
  · exact hne m.c.s (by decide) ad2 e hb
  · exact hne m.c.h (by decide) ad2 e hb
  · exact hne m.c.f (by decide) ad2 e hb
  · exact hne m.c.l (by decide) ad2 e hb
theorem KOwn.box {w : World} {lo X : Nat} {a : Option Addr} {c : Nat} {l : List (Int × Int)} {cs : Array Value} (h : KOwn w lo a c l) (hX : w.heap[X]? = some (.cells cs 33 (0, 0))) : ∀ ad, a = some ad → ad.block ≠ X := by
  rintro ad rfl hb
  exact own_ne h.own hX (by decide) (by show some ad.block = _; rw [hb])

theorem listK_own (ao : Option Addr) (cap : Nat) (l : List (Int × Int)) (w : World) (r : KRow w ao cap l) :
    Calls Try.prog 98 #[.slice ao l.length cap] w fun e w' => ∃ a c, e = .returned (.slice a l.length c) ∧ KOwn w' w.heap.size a c l ∧ Below w.heap.size w w' := by
  cases ao with
  | some ad =>
    refine (listK_some ad cap l w r).mono ?_
    rintro e w' ⟨rfl, h1, h2⟩
    exact ⟨_, _, rfl, ⟨h1⟩, h2⟩
  | none =>
    have hc := r.nil rfl
    have hl : l = [] := List.eq_nil_of_length_eq_zero (by have := r.le; omega)
    subst hc hl
    refine (listK_none w).mono ?_
    rintro e w' ⟨rfl, rfl⟩
    exact ⟨_, _, rfl, kown_nil _ _, Below.refl _ _⟩

theorem KOwn.end14 {w1 : World} {n : Nat} {a : Option Addr} {c : Nat} {l : List (Int × Int)} (h : KOwn w1 (n + 2) a c l) {v0 v1 v2 v3 v4 v5 v6 v7 v8 v9 v10 v11 v12 v13 : Value} : KOwn ((((((((((((((w1.setCell ⟨n + 1, 0, none⟩ v0).setCell ⟨n + 1, 1, none⟩ v1).setCell ⟨n + 1, 2, none⟩ v2).setCell ⟨n + 1, 3, none⟩ v3).setCell ⟨n + 1, 4, none⟩ v4).setCell ⟨n + 1, 5, none⟩ v5).setCell ⟨n + 1, 6, none⟩ v6).setCell ⟨n + 1, 7, none⟩ v7).setCell ⟨n + 1, 8, none⟩ v8).setCell ⟨n + 1, 9, none⟩ v9).setCell ⟨n + 1, 10, none⟩ v10).setCell ⟨n + 1, 11, none⟩ v11).setCell ⟨n + 1, 12, none⟩ v12).setCell ⟨n + 1, 13, none⟩ v13) n a c l :=
  (h.same fun ad e => by
    have := (h.lt ad e).1
    repeat rw [Below.heap_setCell _ _ _ _ (by dsimp only; omega)]).le (by omega)
/- A frame is answered whose keys lie in a row that is new. -/
def RetO (w w' : World) (e : Ending) (g : Fr) : Prop := ∃ a c, e = .returned (.agg #[.int .i64 g.c.kind, .int .i64 g.c.a, .int .i64 g.c.b, .int .i64 g.c.time, .int .i64 g.c.bk, .int .i64 g.c.slot, .int .i64 g.pl, .int .i64 g.cur, .int .i64 g.prev, .int .i64 g.slot, .int .i64 g.n, .slice a g.keys.length c, .bool g.done, .int .i64 g.e]) ∧ KOwn w' w.heap.size a c g.keys
/- A frame is answered; its keys lie there as before, or in a row that is new. -/
def RetS (w w' : World) (e : Ending) (g : Fr) (aK : Option Addr) (cK : Nat) (l : List (Int × Int)) : Prop := (e = .returned (.agg #[.int .i64 g.c.kind, .int .i64 g.c.a, .int .i64 g.c.b, .int .i64 g.c.time, .int .i64 g.c.bk, .int .i64 g.c.slot, .int .i64 g.pl, .int .i64 g.cur, .int .i64 g.prev, .int .i64 g.slot, .int .i64 g.n, .slice aK g.keys.length cK, .bool g.done, .int .i64 g.e]) ∧ g.keys = l ∧ KRow w' aK cK g.keys) ∨ RetO w w' e g
theorem Ret.s {w w' : World} {e : Ending} {g : Fr} {aK : Option Addr} {cK : Nat} {l : List (Int × Int)} (h : Ret w w' e g aK cK) (hd : g.done = false) (hl : g.keys = l) : RetS w w' e g aK cK l := by
  obtain ⟨a, c, h1, h2, -, h4⟩ := h
  obtain ⟨rfl, rfl⟩ := h4 hd
  exact .inl ⟨h1, hl, h2⟩
theorem RetS.three {w w' : World} {e : Ending} {g : Fr} {aK : Option Addr} {cK : Nat} {l : List (Int × Int)} (h : RetS w w' e g aK cK l) (hk : g.keys.length ≤ 1000) : ∃ a c, e = .returned (.agg #[.int .i64 g.c.kind, .int .i64 g.c.a, .int .i64 g.c.b, .int .i64 g.c.time, .int .i64 g.c.bk, .int .i64 g.c.slot, .int .i64 g.pl, .int .i64 g.cur, .int .i64 g.prev, .int .i64 g.slot, .int .i64 g.n, .slice a g.keys.length c, .bool g.done, .int .i64 g.e]) ∧ KRow w' a c g.keys ∧ (∀ ad, a = some ad → aK = some ad ∨ w.heap.size ≤ ad.block) := by
  rcases h with ⟨h1, -, h2⟩ | ⟨a, c, h1, h2⟩
  · exact ⟨aK, cK, h1, h2, fun _ h => .inl h⟩
  · exact ⟨a, c, h1, h2.row hk, fun ad h => .inr (h2.lt ad h).1⟩
theorem RetS.own {w w' : World} {e : Ending} {g : Fr} {aK : Option Addr} {cK : Nat} {l : List (Int × Int)} (h : RetS w w' e g aK cK l) (hk : KOwn w' 0 aK cK l) : ∃ a c, e = .returned (.agg #[.int .i64 g.c.kind, .int .i64 g.c.a, .int .i64 g.c.b, .int .i64 g.c.time, .int .i64 g.c.bk, .int .i64 g.c.slot, .int .i64 g.pl, .int .i64 g.cur, .int .i64 g.prev, .int .i64 g.slot, .int .i64 g.n, .slice a g.keys.length c, .bool g.done, .int .i64 g.e]) ∧ KOwn w' 0 a c g.keys := by
  rcases h with ⟨h1, h2, -⟩ | ⟨a, c, h1, h2⟩
  · exact ⟨aK, cK, h1, h2 ▸ hk⟩
  · exact ⟨a, c, h1, h2.le (Nat.zero_le _)⟩

set_option maxHeartbeats 3200000 in
theorem endFr_own (f : Fr) (e0 : Int) (aK : Option Addr) (cK : Nat) (w : World) (r : KRow w aK cK f.keys) :
    Calls Try.prog 77 #[.agg #[.int .i64 f.c.kind, .int .i64 f.c.a, .int .i64 f.c.b, .int .i64 f.c.time, .int .i64 f.c.bk, .int .i64 f.c.slot, .int .i64 f.pl, .int .i64 f.cur, .int .i64 f.prev, .int .i64 f.slot, .int .i64 f.n, .slice aK f.keys.length cK, .bool f.done, .int .i64 f.e], .int .i64 e0] w fun e w' => ∃ a c, e = .returned (.agg #[.int .i64 (endF f e0).c.kind, .int .i64 (endF f e0).c.a, .int .i64 (endF f e0).c.b, .int .i64 (endF f e0).c.time, .int .i64 (endF f e0).c.bk, .int .i64 (endF f e0).c.slot, .int .i64 (endF f e0).pl, .int .i64 (endF f e0).cur, .int .i64 (endF f e0).prev, .int .i64 (endF f e0).slot, .int .i64 (endF f e0).n, .slice a (endF f e0).keys.length c, .bool (endF f e0).done, .int .i64 (endF f e0).e]) ∧ KOwn w' w.heap.size a c f.keys ∧ Below w.heap.size w w' := by
  obtain ⟨of, hof⟩ : ∃ o : Obj, o = .cells #[.int .i64 f.c.kind, .int .i64 f.c.a, .int .i64 f.c.b, .int .i64 f.c.time, .int .i64 f.c.bk, .int .i64 f.c.slot, .int .i64 f.pl, .int .i64 f.cur, .int .i64 f.prev, .int .i64 f.slot, .int .i64 f.n, .slice aK f.keys.length cK, .bool f.done, .int .i64 f.e] 33 := ⟨_, rfl⟩
  obtain ⟨oz, hoz⟩ : ∃ o : Obj, o = .cells #[.int .i64 0, .int .i64 0, .int .i64 0, .int .i64 0, .int .i64 0, .int .i64 0, .int .i64 0, .int .i64 0, .int .i64 0, .int .i64 0, .int .i64 0, .slice none 0 0, .bool false, .int .i64 0] 33 := ⟨_, rfl⟩
  have HE0 : Hid (Env w ((w.alloc of).alloc oz) _ []) := ((⟨Below.refl _ _, (fun p hp => by cases hp), (fun p hp => by cases hp)⟩ : Env w w [] []).alloc of).alloc oz
  rw [show (w.alloc of).heap.size = w.heap.size + 1 by simp] at HE0
  have HR : Hid (KRow w aK cK f.keys) := r
  clear r
  go_enter Try.func77, Try.ntmps77
  go_wp2_with fail
  rw [← hof, ← hoz]
  generalize (w.alloc of).alloc oz = W0 at *
  subst hof hoz
  refine (listK_own aK cK f.keys W0 (HR.out.below HE0.out.bl)).mono ?_
  rintro e w1 ⟨a1, c1, rfl, hr1, hb1⟩
  have HE1 : Hid _ := HE0.out.below hb1
  have HR1 : Hid (KOwn w1 (w.heap.size + 2) a1 c1 f.keys) := hr1.le (HE0.out.lt (.head _))
  clear HE0 hb1 hr1
  have hbz := HE1.out.box _ (.head _)
  have hbf := HE1.out.box _ (.tail _ (.head _))
  obtain ⟨f0, f1, f2, f3, f4, f5, f6, f7, f8, f9, f10, f11, f12, f13, ff, fs⟩ := framef hbf
  obtain ⟨g0, g1, g2, g3, g4, g5, g6, g7, g8, g9, g10, g11, g12, g13, gf, gs⟩ := framef hbz
  have hne : w.heap.size + 1 ≠ w.heap.size := by omega
  have HBl : Hid (Below w.heap.size w w1) := HE1.out.bl
  clear hbz hbf HE1
  go_wp2
  refine bodyPost_ret (v := .agg #[.int .i64 (endF f e0).c.kind, .int .i64 (endF f e0).c.a, .int .i64 (endF f e0).c.b, .int .i64 (endF f e0).c.time, .int .i64 (endF f e0).c.bk, .int .i64 (endF f e0).c.slot, .int .i64 (endF f e0).pl, .int .i64 (endF f e0).cur, .int .i64 (endF f e0).prev, .int .i64 (endF f e0).slot, .int .i64 (endF f e0).n, .slice a1 (endF f e0).keys.length c1, .bool (endF f e0).done, .int .i64 (endF f e0).e]) (by simp [results, Try.results77, go_sem, endF, g0, g1, g2, g3, g4, g5, g6, g7, g8, g9, g10, g11, g12, g13]) rfl ⟨a1, c1, rfl, (HR1.out.same (fun ad hk => ?_)).le (by omega), ?_⟩
  · have := (HR1.out.lt ad hk).1
    repeat rw [Below.heap_setCell _ _ _ _ (by dsimp only; omega)]
  · iterate 17 (refine Below.setCell ?_ (by dsimp only; omega) _)
    exact HBl.out

end Go.Proofs.Ytdbilofhcadmoac.mm
