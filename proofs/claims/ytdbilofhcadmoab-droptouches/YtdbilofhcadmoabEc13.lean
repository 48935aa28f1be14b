/- What the steps of calls share: a frame that is answered, a call that is over, what a number leads to. -/
import Derived.Test.YtdbilofhcadmoabEc12
import Derived.Test.YtdbilofhcadmoabEc06
import Derived.Deep.QuietTactic
import Derived.BigQuiet
import Derived.Lib.QuietBelow
namespace Go.Proofs.Ytdbilofhcadmoab.mm
open Go.ChangeShapes Go.WideShapes Go.ChangeAt Go.RowKit Go.Joins
set_option maxRecDepth 100000
set_option linter.unusedVariables false

theorem kro_end {w w1 : World} {n : Nat} {a aK : Option Addr} {c cK : Nat} {l : List (Int × Int)} {v0 v1 v2 v3 v4 v5 v6 v7 v8 v9 v10 v11 v12 v13 : Value} (hn : n = w.heap.size) (r : KRow w1 a c l) (r0 : KRow w aK cK l) (hl : ∀ ad, a = some ad → aK = some ad ∨ n + 2 ≤ ad.block) :
    KRow ((((((((((((((w1.setCell ⟨n + 1, 0, none⟩ v0).setCell ⟨n + 1, 1, none⟩ v1).setCell ⟨n + 1, 2, none⟩ v2).setCell ⟨n + 1, 3, none⟩ v3).setCell ⟨n + 1, 4, none⟩ v4).setCell ⟨n + 1, 5, none⟩ v5).setCell ⟨n + 1, 6, none⟩ v6).setCell ⟨n + 1, 7, none⟩ v7).setCell ⟨n + 1, 8, none⟩ v8).setCell ⟨n + 1, 9, none⟩ v9).setCell ⟨n + 1, 10, none⟩ v10).setCell ⟨n + 1, 11, none⟩ v11).setCell ⟨n + 1, 12, none⟩ v12).setCell ⟨n + 1, 13, none⟩ v13) a c l := by
  refine ⟨r.le, r.max, r.nil, ?_⟩
  by_cases h0 : l.length = 0
  · exact .inl h0
  rcases r.at_ with h | ⟨b, o, e, hc⟩
  · exact absurd h h0
  · refine .inr ⟨b, o, e, fun i hi => ?_⟩
    have hb : b ≠ n + 1 := by
      rcases hl _ e with h | h
      · rcases r0.at_ with h' | ⟨b', o', e', hc'⟩
        · exact absurd h' h0
        · have := cell_lt (hc' 0 (by omega)).1
          rw [h] at e'
          injection e' with e'
          injection e' with e'
          omega
      · dsimp only at h; omega
    have q : ∀ x, (((((((((((((((w1.setCell ⟨n + 1, 0, none⟩ v0).setCell ⟨n + 1, 1, none⟩ v1).setCell ⟨n + 1, 2, none⟩ v2).setCell ⟨n + 1, 3, none⟩ v3).setCell ⟨n + 1, 4, none⟩ v4).setCell ⟨n + 1, 5, none⟩ v5).setCell ⟨n + 1, 6, none⟩ v6).setCell ⟨n + 1, 7, none⟩ v7).setCell ⟨n + 1, 8, none⟩ v8).setCell ⟨n + 1, 9, none⟩ v9).setCell ⟨n + 1, 10, none⟩ v10).setCell ⟨n + 1, 11, none⟩ v11).setCell ⟨n + 1, 12, none⟩ v12).setCell ⟨n + 1, 13, none⟩ v13)).cell? ⟨b, x, none⟩ = w1.cell? ⟨b, x, none⟩ := fun x => World.cell?_of_block (a := ⟨b, x, none⟩) (by
      dsimp only
      repeat rw [Below.heap_setCell _ _ _ _ (by dsimp only; exact hb)])
    rw [q, q]
    exact hc i hi

theorem over_anyA (f : Fr) (n : Int) (aK : Option Addr) (cK : Nat) (w : World) :
    Calls Try.prog 100 #[.agg #[.int .i64 f.c.kind, .int .i64 f.c.a, .int .i64 f.c.b, .int .i64 f.c.time, .int .i64 f.c.bk, .int .i64 f.c.slot, .int .i64 f.pl, .int .i64 f.cur, .int .i64 f.prev, .int .i64 f.slot, .int .i64 f.n, .slice aK f.keys.length cK, .bool f.done, .int .i64 f.e], .int .i64 n] w fun e w' => e = .returned (.agg #[.int .i64 (endF f n).c.kind, .int .i64 (endF f n).c.a, .int .i64 (endF f n).c.b, .int .i64 (endF f n).c.time, .int .i64 (endF f n).c.bk, .int .i64 (endF f n).c.slot, .int .i64 (endF f n).pl, .int .i64 (endF f n).cur, .int .i64 (endF f n).prev, .int .i64 (endF f n).slot, .int .i64 (endF f n).n, .slice aK (endF f n).keys.length cK, .bool (endF f n).done, .int .i64 (endF f n).e]) ∧ Below w.heap.size w w' := by
  go_enter Try.func100, Try.ntmps100
  go_wp2
  refine bodyPost_ret (v := .agg #[.int .i64 (endF f n).c.kind, .int .i64 (endF f n).c.a, .int .i64 (endF f n).c.b, .int .i64 (endF f n).c.time, .int .i64 (endF f n).c.bk, .int .i64 (endF f n).c.slot, .int .i64 (endF f n).pl, .int .i64 (endF f n).cur, .int .i64 (endF f n).prev, .int .i64 (endF f n).slot, .int .i64 (endF f n).n, .slice aK (endF f n).keys.length cK, .bool (endF f n).done, .int .i64 (endF f n).e]) (by simp [results, Try.results100, go_sem, endF]) rfl ⟨rfl, ?_⟩
  repeat (first | exact Below.refl _ _ | refine Below.alloc ?_ (by simp <;> omega) _ | refine Below.setCell ?_ (by simp <;> omega) _)

theorem Lk2.toA {w w1 w2 : World} {Z : Nat → Prop} {B lo : Nat} {M : Mm} {f g : Fr} {aK : Option Addr} {cK : Nat} (h : Lk2 w w1 Z B lo M f aK cK) (hf : Fine w1 w2 (fun k => k = w.heap.size)) (hx : w2.heap[w.heap.size]? = some (.cells #[.int .i64 g.c.kind, .int .i64 g.c.a, .int .i64 g.c.b, .int .i64 g.c.time, .int .i64 g.c.bk, .int .i64 g.c.slot, .int .i64 g.pl, .int .i64 g.cur, .int .i64 g.prev, .int .i64 g.slot, .int .i64 g.n, .slice aK g.keys.length cK, .bool g.done, .int .i64 g.e] 51 (0, 0))) : Lk2 w w2 Z B lo M g aK cK := by
  obtain ⟨aS, aH, aF, aL, cS, cH, cF, cL, m, hz⟩ := h.mine
  refine ⟨h.zl, h.fine.trans hf (fun k h1 h2 => by omega), ⟨aS, aH, aF, aL, cS, cH, cF, cL, m.same hf.size (fun k h1 h2 => hf.block k h1 ?_), hz⟩, hx, (hf.block _ (lt_of_block h.zb) (by omega)).trans h.zb⟩
  rcases hz k h2 with h3 | h3
  · have := h.zl k h3; omega
  · omega

theorem isSlotEA (n : Int) (w : World) {r : Bool} (h : decide (0 < n) = r) : Calls Try.prog 99 #[.int .i64 n] w fun e w' => e = .returned (.bool r) ∧ w = w' := by
  subst h
  go_enter Try.func99, Try.ntmps99
  go_wp2
  go_ret
  exact ⟨rfl, rfl⟩

theorem krow_anyA (w : World) {a : Option Addr} {c : Nat} {l : List (Int × Int)} (hl : l = []) (hn : a = none → c = 0) : KRow w a c l := by
  subst hl
  exact ⟨Nat.zero_le _, by simp, hn, .inl rfl⟩


end Go.Proofs.Ytdbilofhcadmoab.mm

/- A Drop as plain data: what a step does and what it leaves. -/
namespace Go.Proofs.Ytdbilofhcadmoab.mm
set_option linter.unusedVariables false

def prevF2 (f : Fr) (p c n : Int) : Fr := { f with prev := p, cur := c, pl := n }
def errF (f : Fr) (e n : Int) : Fr := { f with e := e, pl := n }
def drLock (M : Mm) (f : Fr) : Fr := if lockAt M (bkN M f) = -1 then toF f 1 else f
def drSee (M : Mm) (f : Fr) : Fr := if isAt M f then toF f (if lkK (slotAt M (f.cur - 1)) f then 4 else 3) else errF f 5 5
def drPass (M : Mm) (f : Fr) : Fr := if isAt M f then prevF2 f f.cur (slotAt M (f.cur - 1)).next 2 else errF f 8 5
def drCut (M : Mm) (f : Fr) : Fr := if isAt M f then { f with slot := f.cur - 1, e := 0, pl := 5 } else errF f 8 5
def drCutM (M : Mm) (f : Fr) : Mm := if isAt M f then cutM M (bkN M f) f.prev (f.cur - 1) else M
def drPutM (M : Mm) (f : Fr) : Mm := if isSl M f.slot then putN M f.slot else M

def drF (M : Mm) (f : Fr) : Fr :=
  if f.pl = 0 then drLock M f else if f.pl = 1 then prevF2 f 0 (headM M (bkN M f)) 2 else if f.pl = 2 then drSee M f else if f.pl = 3 then drPass M f
  else if f.pl = 4 then drCut M f else if f.pl = 5 then toF f 6 else if f.pl = 6 then endF { f with slot := -1 } f.e else errF f 8 5
def drM (t : Int) (M : Mm) (f : Fr) : Mm :=
  if f.pl = 0 then adLockM M f t else if f.pl = 4 then drCutM M f else if f.pl = 5 then adOpenM M f t else if f.pl = 6 then drPutM M f else M

theorem drF0 {M : Mm} {f : Fr} (h : f.pl = 0) : drF M f = drLock M f := by unfold drF; rw [if_pos h]
theorem drF1 {M : Mm} {f : Fr} (h : f.pl = 1) : drF M f = prevF2 f 0 (headM M (bkN M f)) 2 := by unfold drF; rw [if_neg (by omega), if_pos h]
theorem drF2 {M : Mm} {f : Fr} (h : f.pl = 2) : drF M f = drSee M f := by unfold drF; rw [if_neg (by omega), if_neg (by omega), if_pos h]
theorem drF3 {M : Mm} {f : Fr} (h : f.pl = 3) : drF M f = drPass M f := by unfold drF; rw [if_neg (by omega), if_neg (by omega), if_neg (by omega), if_pos h]
theorem drF4 {M : Mm} {f : Fr} (h : f.pl = 4) : drF M f = drCut M f := by unfold drF; rw [if_neg (by omega), if_neg (by omega), if_neg (by omega), if_neg (by omega), if_pos h]
theorem drF5 {M : Mm} {f : Fr} (h : f.pl = 5) : drF M f = toF f 6 := by unfold drF; rw [if_neg (by omega), if_neg (by omega), if_neg (by omega), if_neg (by omega), if_neg (by omega), if_pos h]
theorem drF6 {M : Mm} {f : Fr} (h : f.pl = 6) : drF M f = endF { f with slot := -1 } f.e := by unfold drF; rw [if_neg (by omega), if_neg (by omega), if_neg (by omega), if_neg (by omega), if_neg (by omega), if_neg (by omega), if_pos h]
theorem drF7 {M : Mm} {f : Fr} (h : 7 ≤ f.pl) : drF M f = errF f 8 5 := by unfold drF; rw [if_neg (by omega), if_neg (by omega), if_neg (by omega), if_neg (by omega), if_neg (by omega), if_neg (by omega), if_neg (by omega)]
theorem drM0 {M : Mm} {f : Fr} {t : Int} (h : f.pl = 0) : drM t M f = adLockM M f t := by unfold drM; rw [if_pos h]
theorem drM4 {M : Mm} {f : Fr} {t : Int} (h : f.pl = 4) : drM t M f = drCutM M f := by unfold drM; rw [if_neg (by omega), if_pos h]
theorem drM5 {M : Mm} {f : Fr} {t : Int} (h : f.pl = 5) : drM t M f = adOpenM M f t := by unfold drM; rw [if_neg (by omega), if_neg (by omega), if_pos h]
theorem drM6 {M : Mm} {f : Fr} {t : Int} (h : f.pl = 6) : drM t M f = drPutM M f := by unfold drM; rw [if_neg (by omega), if_neg (by omega), if_neg (by omega), if_pos h]
theorem drM_same {M : Mm} {f : Fr} {t : Int} (h : f.pl ≠ 0 ∧ f.pl ≠ 4 ∧ f.pl ≠ 5 ∧ f.pl ≠ 6) : drM t M f = M := by unfold drM; rw [if_neg h.1, if_neg h.2.1, if_neg h.2.2.1, if_neg h.2.2.2]

theorem drF_c (M : Mm) (f : Fr) : (drF M f).c = f.c := by
  unfold drF drLock drSee drPass drCut
  repeat' split
  all_goals rfl
theorem drF_keys (M : Mm) (f : Fr) : (drF M f).keys = f.keys := by
  unfold drF drLock drSee drPass drCut
  repeat' split
  all_goals rfl

/- Keys, times and marks stay, and what is free stays free. -/
structure Keep (M M' : Mm) : Prop where
  ns : M'.slots.length = M.slots.length
  slot : ∀ k, (M'.slots.getD k sl0).a = (M.slots.getD k sl0).a ∧ (M'.slots.getD k sl0).b = (M.slots.getD k sl0).b ∧ (M'.slots.getD k sl0).unt = (M.slots.getD k sl0).unt ∧ (M'.slots.getD k sl0).inn = (M.slots.getD k sl0).inn
  free : M.free.length ≤ M'.free.length

theorem Keep.refl (M : Mm) : Keep M M := ⟨rfl, fun _ => ⟨rfl, rfl, rfl, rfl⟩, Nat.le_refl _⟩
theorem getD_set (l : List Sl) (j k : Nat) (x : Sl) : (l.set j x).getD k sl0 = if j = k ∧ j < l.length then x else l.getD k sl0 := by
  rw [List.getD_eq_getElem?_getD, List.getD_eq_getElem?_getD, List.getElem?_set]
  by_cases e : j = k
  · subst e
    by_cases h : j < l.length
    · rw [if_pos rfl, if_pos h, if_pos ⟨rfl, h⟩]; rfl
    · rw [if_pos rfl, if_neg h, if_neg (fun h' => h h'.2), List.getElem?_eq_none (by omega)]
  · rw [if_neg e, if_neg (fun h => e h.1)]
theorem keep_set {l : List Sl} {j : Nat} {x : Sl} (h : x.a = (l.getD j sl0).a ∧ x.b = (l.getD j sl0).b ∧ x.unt = (l.getD j sl0).unt ∧ x.inn = (l.getD j sl0).inn) (k : Nat) :
    ((l.set j x).getD k sl0).a = (l.getD k sl0).a ∧ ((l.set j x).getD k sl0).b = (l.getD k sl0).b ∧ ((l.set j x).getD k sl0).unt = (l.getD k sl0).unt ∧ ((l.set j x).getD k sl0).inn = (l.getD k sl0).inn := by
  rw [getD_set]
  split
  · rename_i e
    rw [← e.1]; exact h
  · exact ⟨rfl, rfl, rfl, rfl⟩
theorem lock_keep (M : Mm) (b : Nat) (t : Int) : Keep M (lockM M b t) := ⟨rfl, fun _ => ⟨rfl, rfl, rfl, rfl⟩, Nat.le_refl _⟩
theorem putN_keep (M : Mm) (a : Int) : Keep M (putN M a) := by
  unfold putN
  split
  · exact .refl M
  · refine ⟨by simp [putM, setRefs], fun k => keep_set (l := M.slots) (j := a.toNat) (x := { M.slots.getD a.toNat sl0 with refs := refsM M a - 1 }) ⟨rfl, rfl, rfl, rfl⟩ k, ?_⟩
    unfold putM
    dsimp only
    split
    · simp only [List.length_append, List.length_cons, List.length_nil]; omega
    · omega
theorem cutM_keep (M : Mm) (b : Nat) (p a : Int) : Keep M (cutM M b p a) := by
  unfold cutM
  split
  · exact ⟨by simp, fun k => keep_set (l := M.slots) (j := (p - 1).toNat) (x := { slotAt M (p - 1) with next := (slotAt M a).next }) ⟨rfl, rfl, rfl, rfl⟩ k, Nat.le_refl _⟩
  · exact ⟨rfl, fun _ => ⟨rfl, rfl, rfl, rfl⟩, Nat.le_refl _⟩
theorem cutM_near (M : Mm) (b : Nat) (p a : Int) : Near M (cutM M b p a) b := by
  unfold cutM
  split
  · exact ⟨rfl, by simp, rfl, rfl, fun _ _ => rfl, fun _ _ => rfl, (fun k => dif_set1 _ _ _ k), by simp⟩
  · exact ⟨rfl, rfl, by simp, rfl, (fun i hi => by dsimp only; rw [List.getElem?_set_ne (by omega)]), fun _ _ => rfl, (fun k => by show dif M.slots M.slots k ≤ 1; rw [dif_same]; omega), by simp⟩

theorem drM_near (t : Int) (M : Mm) (f : Fr) : Near M (drM t M f) (bkN M f) := by
  unfold drM adLockM drCutM adOpenM drPutM
  repeat' split
  all_goals first
    | exact .refl _ _
    | exact lock_near _ _ _
    | exact cutM_near _ _ _ _
    | exact putN_near _ _ _
theorem drM_keep (t : Int) (M : Mm) (f : Fr) : Keep M (drM t M f) := by
  unfold drM adLockM drCutM adOpenM drPutM
  repeat' split
  all_goals first
    | exact .refl _
    | exact lock_keep _ _ _
    | exact cutM_keep _ _ _ _
    | exact putN_keep _ _

theorem Fit.err {M : Mm} {f : Fr} (h : Fit M f) (e : Int) {n : Int} (h1 : 0 ≤ n ∧ n ≤ 9) : Fit M (errF f e n) := ⟨h.call, h1, h.n, h.done, h.cur, h.prev, h.slot, h.keys⟩
theorem Fit.prevTo {M : Mm} {f : Fr} (h : Fit M f) {p c n : Int} (h1 : 0 ≤ n ∧ n ≤ 9) (h2 : -(M.heads.length : Int) ≤ c ∧ c ≤ M.slots.length) (h3 : 0 ≤ p ∧ p ≤ M.slots.length) : Fit M (prevF2 f p c n) := ⟨h.call, h1, h.n, h.done, h2, h3, h.slot, h.keys⟩

theorem drF_fit {M : Mm} {f : Fr} (t : Int) (hM : Ok M) (h : Fit M f) (hd : (drF M f).done = false) : Fit (drM t M f) (drF M f) := by
  refine Fit.near ?_ (drM_near t M f)
  revert hd
  unfold drF drLock drSee drPass drCut
  have hb := bkOf_in hM h.call
  have hhd : -(M.heads.length : Int) ≤ headM M (bkN M f) ∧ headM M (bkN M f) ≤ M.slots.length := by
    have hh := (hM.headIn (b := bkN M f) (by unfold bkN; omega)).2
    rwa [inB_iff] at hh
  repeat' split
  all_goals intro hd
  all_goals first
    | (cases hd; done)
    | exact h
    | exact h.to (by omega)
    | exact h.err _ (by omega)
    | exact h.prevTo (by omega) hhd (by omega)
    | skip
  · rename_i ha
    exact h.prevTo (by omega) (slot_next hM (isAt_sl ha)) (by have := isAt_iff.1 ha; omega)
  · rename_i ha
    have := isAt_iff.1 ha
    exact ⟨h.call, by simp, h.n, h.done, h.cur, h.prev, by constructor <;> simp <;> omega, h.keys⟩

/- Chains may be cut anywhere: memory stays right. -/
theorem heads_ok {M : Mm} (h : Ok M) (b : Nat) {hd : Int} (h2 : hd ≠ 0 ∧ inB hd (-(M.heads.length : Int)) M.slots.length = true) : Ok { M with heads := M.heads.set b hd } := by
  refine ⟨h.ns, by simpa using h.nh, by simpa using h.nl, h.now, by simpa using h.slot, ?_, h.free, h.nodup, h.all⟩
  intro p hp
  simp only [List.length_set] at hp ⊢
  obtain ⟨i, hi, e⟩ := List.getElem_of_mem hp
  rw [List.getElem_zip] at e
  have hi' : i < M.heads.length ∧ i < M.locks.length := by simp at hi; omega
  have h0 := h.chain (M.heads[i]'hi'.1, M.locks[i]'hi'.2) (by
    rw [← List.getElem_zip (h := by simp; omega)]
    exact List.getElem_mem _)
  subst e
  unfold chainErr at h0 ⊢
  dsimp only at h0 ⊢
  have hl : inB (M.locks[i]'hi'.2) (-1) 4 = true := by
    by_cases hl : inB (M.locks[i]'hi'.2) (-1) 4 = true
    · exact hl
    · rw [if_neg hl] at h0
      split at h0 <;> omega
  rw [if_pos, if_pos hl]
  rw [List.getElem_set]
  split
  · exact h2
  · by_cases hc : M.heads[i]'hi'.1 ≠ 0 ∧ inB (M.heads[i]'hi'.1) (-(M.heads.length : Int)) M.slots.length
    · exact hc
    · rw [if_neg hc] at h0; omega



end Go.Proofs.Ytdbilofhcadmoab.mm

/- The contract of drop's Step, for memory of one's own: to each part. -/
namespace Go.Proofs.Ytdbilofhcadmoab.mm
open Go.ChangeShapes Go.WideShapes Go.ChangeAt Go.RowKit Go.Joins Go.Deep Go.Sort
set_option maxRecDepth 100000
set_option linter.unusedVariables false

set_option maxHeartbeats 1600000 in
theorem drstep0 (t : Int) (M M' : Mm) (g : Fr) (c : Cl) (cur prev slot nn ee : Int) (keys : List (Int × Int)) (B lo : Nat) (aS aH aF aL : Option Addr) (cS cH cF cL : Nat) (aK : Option Addr) (cK : Nat) (w : World)
    (m : Mine w B lo aS aH aF aL cS cH cF cL M) (HR : Hid (KRow w aK cK keys)) (HKy : Hid (g.keys = keys))
    (HP : Hid (∀ (W : World), Mine W B lo aS aH aF aL cS cH cF cL M → KRow W aK cK keys → Calls Try.prog 129 #[.pointer (some ⟨B, 0, none⟩), .agg #[.int .i64 c.kind, .int .i64 c.a, .int .i64 c.b, .int .i64 c.time, .int .i64 c.bk, .int .i64 c.slot, .int .i64 0, .int .i64 cur, .int .i64 prev, .int .i64 slot, .int .i64 nn, .slice aK keys.length cK, .bool false, .int .i64 ee], .int .i64 t] W fun e w' => Ret W w' e g aK cK ∧ Has w' B lo (Up W (Foot B aS aH aF aL)) M' ∧ Fine W w' (Foot B aS aH aF aL))) :
    Calls Try.prog 62 #[.pointer (some ⟨B, 0, none⟩), .agg #[.int .i64 c.kind, .int .i64 c.a, .int .i64 c.b, .int .i64 c.time, .int .i64 c.bk, .int .i64 c.slot, .int .i64 0, .int .i64 cur, .int .i64 prev, .int .i64 slot, .int .i64 nn, .slice aK keys.length cK, .bool false, .int .i64 ee], .int .i64 t] w fun e w' => Ret w w' e g aK cK ∧ Has w' B lo (Up w (Foot B aS aH aF aL)) M' ∧ Fine w w' (Foot B aS aH aF aL) := by
  obtain ⟨of, hof⟩ : ∃ o : Obj, o = .cells #[.int .i64 c.kind, .int .i64 c.a, .int .i64 c.b, .int .i64 c.time, .int .i64 c.bk, .int .i64 c.slot, .int .i64 0, .int .i64 cur, .int .i64 prev, .int .i64 slot, .int .i64 nn, .slice aK keys.length cK, .bool false, .int .i64 ee] 51 := ⟨_, rfl⟩
  obtain ⟨oz, hoz⟩ : ∃ o : Obj, o = zeroFr := ⟨_, rfl⟩
  have HE : Hid (Lk w ((w.alloc of).alloc oz) B lo aS aH aF aL cS cH cF cL M ⟨c, 0, cur, prev, slot, nn, keys, false, ee⟩ aK cK) := Lk.first m ⟨c, 0, cur, prev, slot, nn, keys, false, ee⟩ aK cK hof hoz
  obtain ⟨f0, f1, f2, f3, f4, f5, f6, f7, f8, f9, f10, f11, f12, f13, ff, fs⟩ := framef (show ((w.alloc of).alloc oz).heap[w.heap.size]? = some (.cells #[.int .i64 c.kind, .int .i64 c.a, .int .i64 c.b, .int .i64 c.time, .int .i64 c.bk, .int .i64 c.slot, .int .i64 0, .int .i64 cur, .int .i64 prev, .int .i64 slot, .int .i64 nn, .slice aK keys.length cK, .bool false, .int .i64 ee] 51 (0, 0)) from HE.out.fb)
  unfold zeroFr at hoz
  clear m
  go_enter Try.func62, Try.ntmps62
  go_wp2_with fail
  rw [← hof, ← hoz]
  generalize (w.alloc of).alloc oz = W0 at *
  subst hof hoz
  have HE1 : Hid (Lk w W0 B lo aS aH aF aL cS cH cF cL M ⟨c, 0, cur, prev, slot, nn, keys, false, ee⟩ aK cK) := HE.out
  clear HE
  clear f0 f1 f2 f3 f4 f5 f6 f7 f8 f9 f10 f11 f12 f13 ff fs
  refine (HP.out _ HE1.out.m (HR.out.below HE1.out.bl)).mono ?_
  rintro e w2 ⟨⟨a2, c2, rfl, hr2, hl2, hd2⟩, hh2, hf2⟩
  have HK2 : Hid (KRow w2 a2 c2 keys ∧ ∀ ad, a2 = some ad → aK = some ad ∨ w.heap.size + 2 ≤ ad.block) := ⟨HKy.out ▸ hr2, fun ad h => (hl2 ad h).imp id (fun h' => Nat.le_trans (lt_of_block HE1.out.zb) h')⟩
  have HD2 : Hid (g.done = false → a2 = aK ∧ c2 = cK) := hd2
  have HE2 : Hid (Lk2 w w2 (Foot B aS aH aF aL) B lo M' ⟨c, 0, cur, prev, slot, nn, keys, false, ee⟩ aK cK) := HE1.out.after hh2 hf2
  clear HE1 hh2 hf2 hr2 hl2 hd2
  obtain ⟨g0, g1, g2, g3, g4, g5, g6, g7, g8, g9, g10, g11, g12, g13, gf, gs⟩ := framef HE2.out.zb
  go_wp2
  refine bodyPost_ret (v := .agg #[.int .i64 g.c.kind, .int .i64 g.c.a, .int .i64 g.c.b, .int .i64 g.c.time, .int .i64 g.c.bk, .int .i64 g.c.slot, .int .i64 g.pl, .int .i64 g.cur, .int .i64 g.prev, .int .i64 g.slot, .int .i64 g.n, .slice a2 g.keys.length c2, .bool g.done, .int .i64 g.e]) (by simp [results, Try.results62, go_sem, g0, g1, g2, g3, g4, g5, g6, g7, g8, g9, g10, g11, g12, g13]) rfl ⟨⟨a2, c2, rfl, by rw [HKy.out]; exact kro_end rfl HK2.out.1 HR.out HK2.out.2, (fun ad h => (HK2.out.2 ad h).imp id (fun h' => by omega)), HD2.out⟩, HE2.out.end14⟩

set_option maxHeartbeats 1600000 in
theorem drstep1 (t : Int) (M M' : Mm) (g : Fr) (c : Cl) (cur prev slot nn ee : Int) (keys : List (Int × Int)) (B lo : Nat) (aS aH aF aL : Option Addr) (cS cH cF cL : Nat) (aK : Option Addr) (cK : Nat) (w : World)
    (m : Mine w B lo aS aH aF aL cS cH cF cL M) (HR : Hid (KRow w aK cK keys)) (HKy : Hid (g.keys = keys))
    (HP : Hid (∀ (W : World), Mine W B lo aS aH aF aL cS cH cF cL M → KRow W aK cK keys → Calls Try.prog 130 #[.pointer (some ⟨B, 0, none⟩), .agg #[.int .i64 c.kind, .int .i64 c.a, .int .i64 c.b, .int .i64 c.time, .int .i64 c.bk, .int .i64 c.slot, .int .i64 1, .int .i64 cur, .int .i64 prev, .int .i64 slot, .int .i64 nn, .slice aK keys.length cK, .bool false, .int .i64 ee]] W fun e w' => Ret W w' e g aK cK ∧ Has w' B lo (Up W (Foot B aS aH aF aL)) M' ∧ Fine W w' (Foot B aS aH aF aL))) :
    Calls Try.prog 62 #[.pointer (some ⟨B, 0, none⟩), .agg #[.int .i64 c.kind, .int .i64 c.a, .int .i64 c.b, .int .i64 c.time, .int .i64 c.bk, .int .i64 c.slot, .int .i64 1, .int .i64 cur, .int .i64 prev, .int .i64 slot, .int .i64 nn, .slice aK keys.length cK, .bool false, .int .i64 ee], .int .i64 t] w fun e w' => Ret w w' e g aK cK ∧ Has w' B lo (Up w (Foot B aS aH aF aL)) M' ∧ Fine w w' (Foot B aS aH aF aL) := by
  obtain ⟨of, hof⟩ : ∃ o : Obj, o = .cells #[.int .i64 c.kind, .int .i64 c.a, .int .i64 c.b, .int .i64 c.time, .int .i64 c.bk, .int .i64 c.slot, .int .i64 1, .int .i64 cur, .int .i64 prev, .int .i64 slot, .int .i64 nn, .slice aK keys.length cK, .bool false, .int .i64 ee] 51 := ⟨_, rfl⟩
  obtain ⟨oz, hoz⟩ : ∃ o : Obj, o = zeroFr := ⟨_, rfl⟩
  have HE : Hid (Lk w ((w.alloc of).alloc oz) B lo aS aH aF aL cS cH cF cL M ⟨c, 1, cur, prev, slot, nn, keys, false, ee⟩ aK cK) := Lk.first m ⟨c, 1, cur, prev, slot, nn, keys, false, ee⟩ aK cK hof hoz
  obtain ⟨f0, f1, f2, f3, f4, f5, f6, f7, f8, f9, f10, f11, f12, f13, ff, fs⟩ := framef (show ((w.alloc of).alloc oz).heap[w.heap.size]? = some (.cells #[.int .i64 c.kind, .int .i64 c.a, .int .i64 c.b, .int .i64 c.time, .int .i64 c.bk, .int .i64 c.slot, .int .i64 1, .int .i64 cur, .int .i64 prev, .int .i64 slot, .int .i64 nn, .slice aK keys.length cK, .bool false, .int .i64 ee] 51 (0, 0)) from HE.out.fb)
  unfold zeroFr at hoz
  clear m
  go_enter Try.func62, Try.ntmps62
  go_wp2_with fail
  rw [← hof, ← hoz]
  generalize (w.alloc of).alloc oz = W0 at *
  subst hof hoz
  have HE1 : Hid (Lk w W0 B lo aS aH aF aL cS cH cF cL M ⟨c, 1, cur, prev, slot, nn, keys, false, ee⟩ aK cK) := HE.out
  clear HE
  clear f0 f1 f2 f3 f4 f5 f6 f7 f8 f9 f10 f11 f12 f13 ff fs
  refine (HP.out _ HE1.out.m (HR.out.below HE1.out.bl)).mono ?_
  rintro e w2 ⟨⟨a2, c2, rfl, hr2, hl2, hd2⟩, hh2, hf2⟩
  have HK2 : Hid (KRow w2 a2 c2 keys ∧ ∀ ad, a2 = some ad → aK = some ad ∨ w.heap.size + 2 ≤ ad.block) := ⟨HKy.out ▸ hr2, fun ad h => (hl2 ad h).imp id (fun h' => Nat.le_trans (lt_of_block HE1.out.zb) h')⟩
  have HD2 : Hid (g.done = false → a2 = aK ∧ c2 = cK) := hd2
  have HE2 : Hid (Lk2 w w2 (Foot B aS aH aF aL) B lo M' ⟨c, 1, cur, prev, slot, nn, keys, false, ee⟩ aK cK) := HE1.out.after hh2 hf2
  clear HE1 hh2 hf2 hr2 hl2 hd2
  obtain ⟨g0, g1, g2, g3, g4, g5, g6, g7, g8, g9, g10, g11, g12, g13, gf, gs⟩ := framef HE2.out.zb
  go_wp2
  refine bodyPost_ret (v := .agg #[.int .i64 g.c.kind, .int .i64 g.c.a, .int .i64 g.c.b, .int .i64 g.c.time, .int .i64 g.c.bk, .int .i64 g.c.slot, .int .i64 g.pl, .int .i64 g.cur, .int .i64 g.prev, .int .i64 g.slot, .int .i64 g.n, .slice a2 g.keys.length c2, .bool g.done, .int .i64 g.e]) (by simp [results, Try.results62, go_sem, g0, g1, g2, g3, g4, g5, g6, g7, g8, g9, g10, g11, g12, g13]) rfl ⟨⟨a2, c2, rfl, by rw [HKy.out]; exact kro_end rfl HK2.out.1 HR.out HK2.out.2, (fun ad h => (HK2.out.2 ad h).imp id (fun h' => by omega)), HD2.out⟩, HE2.out.end14⟩

set_option maxHeartbeats 1600000 in
theorem drstep2 (t : Int) (M M' : Mm) (g : Fr) (c : Cl) (cur prev slot nn ee : Int) (keys : List (Int × Int)) (B lo : Nat) (aS aH aF aL : Option Addr) (cS cH cF cL : Nat) (aK : Option Addr) (cK : Nat) (w : World)
    (m : Mine w B lo aS aH aF aL cS cH cF cL M) (HR : Hid (KRow w aK cK keys)) (HKy : Hid (g.keys = keys))
    (HP : Hid (∀ (W : World), Mine W B lo aS aH aF aL cS cH cF cL M → KRow W aK cK keys → Calls Try.prog 131 #[.pointer (some ⟨B, 0, none⟩), .agg #[.int .i64 c.kind, .int .i64 c.a, .int .i64 c.b, .int .i64 c.time, .int .i64 c.bk, .int .i64 c.slot, .int .i64 2, .int .i64 cur, .int .i64 prev, .int .i64 slot, .int .i64 nn, .slice aK keys.length cK, .bool false, .int .i64 ee]] W fun e w' => Ret W w' e g aK cK ∧ Has w' B lo (Up W (Foot B aS aH aF aL)) M' ∧ Fine W w' (Foot B aS aH aF aL))) :
    Calls Try.prog 62 #[.pointer (some ⟨B, 0, none⟩), .agg #[.int .i64 c.kind, .int .i64 c.a, .int .i64 c.b, .int .i64 c.time, .int .i64 c.bk, .int .i64 c.slot, .int .i64 2, .int .i64 cur, .int .i64 prev, .int .i64 slot, .int .i64 nn, .slice aK keys.length cK, .bool false, .int .i64 ee], .int .i64 t] w fun e w' => Ret w w' e g aK cK ∧ Has w' B lo (Up w (Foot B aS aH aF aL)) M' ∧ Fine w w' (Foot B aS aH aF aL) := by
  obtain ⟨of, hof⟩ : ∃ o : Obj, o = .cells #[.int .i64 c.kind, .int .i64 c.a, .int .i64 c.b, .int .i64 c.time, .int .i64 c.bk, .int .i64 c.slot, .int .i64 2, .int .i64 cur, .int .i64 prev, .int .i64 slot, .int .i64 nn, .slice aK keys.length cK, .bool false, .int .i64 ee] 51 := ⟨_, rfl⟩
  obtain ⟨oz, hoz⟩ : ∃ o : Obj, o = zeroFr := ⟨_, rfl⟩
  have HE : Hid (Lk w ((w.alloc of).alloc oz) B lo aS aH aF aL cS cH cF cL M ⟨c, 2, cur, prev, slot, nn, keys, false, ee⟩ aK cK) := Lk.first m ⟨c, 2, cur, prev, slot, nn, keys, false, ee⟩ aK cK hof hoz
  obtain ⟨f0, f1, f2, f3, f4, f5, f6, f7, f8, f9, f10, f11, f12, f13, ff, fs⟩ := framef (show ((w.alloc of).alloc oz).heap[w.heap.size]? = some (.cells #[.int .i64 c.kind, .int .i64 c.a, .int .i64 c.b, .int .i64 c.time, .int .i64 c.bk, .int .i64 c.slot, .int .i64 2, .int .i64 cur, .int .i64 prev, .int .i64 slot, .int .i64 nn, .slice aK keys.length cK, .bool false, .int .i64 ee] 51 (0, 0)) from HE.out.fb)
  unfold zeroFr at hoz
  clear m
  go_enter Try.func62, Try.ntmps62
  go_wp2_with fail
  rw [← hof, ← hoz]
  generalize (w.alloc of).alloc oz = W0 at *
  subst hof hoz
  have HE1 : Hid (Lk w W0 B lo aS aH aF aL cS cH cF cL M ⟨c, 2, cur, prev, slot, nn, keys, false, ee⟩ aK cK) := HE.out
  clear HE
  clear f0 f1 f2 f3 f4 f5 f6 f7 f8 f9 f10 f11 f12 f13 ff fs
  refine (HP.out _ HE1.out.m (HR.out.below HE1.out.bl)).mono ?_
  rintro e w2 ⟨⟨a2, c2, rfl, hr2, hl2, hd2⟩, hh2, hf2⟩
  have HK2 : Hid (KRow w2 a2 c2 keys ∧ ∀ ad, a2 = some ad → aK = some ad ∨ w.heap.size + 2 ≤ ad.block) := ⟨HKy.out ▸ hr2, fun ad h => (hl2 ad h).imp id (fun h' => Nat.le_trans (lt_of_block HE1.out.zb) h')⟩
  have HD2 : Hid (g.done = false → a2 = aK ∧ c2 = cK) := hd2
  have HE2 : Hid (Lk2 w w2 (Foot B aS aH aF aL) B lo M' ⟨c, 2, cur, prev, slot, nn, keys, false, ee⟩ aK cK) := HE1.out.after hh2 hf2
  clear HE1 hh2 hf2 hr2 hl2 hd2
  obtain ⟨g0, g1, g2, g3, g4, g5, g6, g7, g8, g9, g10, g11, g12, g13, gf, gs⟩ := framef HE2.out.zb
  go_wp2
  refine bodyPost_ret (v := .agg #[.int .i64 g.c.kind, .int .i64 g.c.a, .int .i64 g.c.b, .int .i64 g.c.time, .int .i64 g.c.bk, .int .i64 g.c.slot, .int .i64 g.pl, .int .i64 g.cur, .int .i64 g.prev, .int .i64 g.slot, .int .i64 g.n, .slice a2 g.keys.length c2, .bool g.done, .int .i64 g.e]) (by simp [results, Try.results62, go_sem, g0, g1, g2, g3, g4, g5, g6, g7, g8, g9, g10, g11, g12, g13]) rfl ⟨⟨a2, c2, rfl, by rw [HKy.out]; exact kro_end rfl HK2.out.1 HR.out HK2.out.2, (fun ad h => (HK2.out.2 ad h).imp id (fun h' => by omega)), HD2.out⟩, HE2.out.end14⟩

set_option maxHeartbeats 1600000 in
theorem drstep3 (t : Int) (M M' : Mm) (g : Fr) (c : Cl) (cur prev slot nn ee : Int) (keys : List (Int × Int)) (B lo : Nat) (aS aH aF aL : Option Addr) (cS cH cF cL : Nat) (aK : Option Addr) (cK : Nat) (w : World)
    (m : Mine w B lo aS aH aF aL cS cH cF cL M) (HR : Hid (KRow w aK cK keys)) (HKy : Hid (g.keys = keys))
    (HP : Hid (∀ (W : World), Mine W B lo aS aH aF aL cS cH cF cL M → KRow W aK cK keys → Calls Try.prog 132 #[.pointer (some ⟨B, 0, none⟩), .agg #[.int .i64 c.kind, .int .i64 c.a, .int .i64 c.b, .int .i64 c.time, .int .i64 c.bk, .int .i64 c.slot, .int .i64 3, .int .i64 cur, .int .i64 prev, .int .i64 slot, .int .i64 nn, .slice aK keys.length cK, .bool false, .int .i64 ee]] W fun e w' => Ret W w' e g aK cK ∧ Has w' B lo (Up W (Foot B aS aH aF aL)) M' ∧ Fine W w' (Foot B aS aH aF aL))) :
    Calls Try.prog 62 #[.pointer (some ⟨B, 0, none⟩), .agg #[.int .i64 c.kind, .int .i64 c.a, .int .i64 c.b, .int .i64 c.time, .int .i64 c.bk, .int .i64 c.slot, .int .i64 3, .int .i64 cur, .int .i64 prev, .int .i64 slot, .int .i64 nn, .slice aK keys.length cK, .bool false, .int .i64 ee], .int .i64 t] w fun e w' => Ret w w' e g aK cK ∧ Has w' B lo (Up w (Foot B aS aH aF aL)) M' ∧ Fine w w' (Foot B aS aH aF aL) := by
  obtain ⟨of, hof⟩ : ∃ o : Obj, o = .cells #[.int .i64 c.kind, .int .i64 c.a, .int .i64 c.b, .int .i64 c.time, .int .i64 c.bk, .int .i64 c.slot, .int .i64 3, .int .i64 cur, .int .i64 prev, .int .i64 slot, .int .i64 nn, .slice aK keys.length cK, .bool false, .int .i64 ee] 51 := ⟨_, rfl⟩
  obtain ⟨oz, hoz⟩ : ∃ o : Obj, o = zeroFr := ⟨_, rfl⟩
  have HE : Hid (Lk w ((w.alloc of).alloc oz) B lo aS aH aF aL cS cH cF cL M ⟨c, 3, cur, prev, slot, nn, keys, false, ee⟩ aK cK) := Lk.first m ⟨c, 3, cur, prev, slot, nn, keys, false, ee⟩ aK cK hof hoz
  obtain ⟨f0, f1, f2, f3, f4, f5, f6, f7, f8, f9, f10, f11, f12, f13, ff, fs⟩ := framef (show ((w.alloc of).alloc oz).heap[w.heap.size]? = some (.cells #[.int .i64 c.kind, .int .i64 c.a, .int .i64 c.b, .int .i64 c.time, .int .i64 c.bk, .int .i64 c.slot, .int .i64 3, .int .i64 cur, .int .i64 prev, .int .i64 slot, .int .i64 nn, .slice aK keys.length cK, .bool false, .int .i64 ee] 51 (0, 0)) from HE.out.fb)
  unfold zeroFr at hoz
  clear m
  go_enter Try.func62, Try.ntmps62
  go_wp2_with fail
  rw [← hof, ← hoz]
  generalize (w.alloc of).alloc oz = W0 at *
  subst hof hoz
  have HE1 : Hid (Lk w W0 B lo aS aH aF aL cS cH cF cL M ⟨c, 3, cur, prev, slot, nn, keys, false, ee⟩ aK cK) := HE.out
  clear HE
  clear f0 f1 f2 f3 f4 f5 f6 f7 f8 f9 f10 f11 f12 f13 ff fs
  refine (HP.out _ HE1.out.m (HR.out.below HE1.out.bl)).mono ?_
  rintro e w2 ⟨⟨a2, c2, rfl, hr2, hl2, hd2⟩, hh2, hf2⟩
  have HK2 : Hid (KRow w2 a2 c2 keys ∧ ∀ ad, a2 = some ad → aK = some ad ∨ w.heap.size + 2 ≤ ad.block) := ⟨HKy.out ▸ hr2, fun ad h => (hl2 ad h).imp id (fun h' => Nat.le_trans (lt_of_block HE1.out.zb) h')⟩
  have HD2 : Hid (g.done = false → a2 = aK ∧ c2 = cK) := hd2
  have HE2 : Hid (Lk2 w w2 (Foot B aS aH aF aL) B lo M' ⟨c, 3, cur, prev, slot, nn, keys, false, ee⟩ aK cK) := HE1.out.after hh2 hf2
  clear HE1 hh2 hf2 hr2 hl2 hd2
  obtain ⟨g0, g1, g2, g3, g4, g5, g6, g7, g8, g9, g10, g11, g12, g13, gf, gs⟩ := framef HE2.out.zb
  go_wp2
  refine bodyPost_ret (v := .agg #[.int .i64 g.c.kind, .int .i64 g.c.a, .int .i64 g.c.b, .int .i64 g.c.time, .int .i64 g.c.bk, .int .i64 g.c.slot, .int .i64 g.pl, .int .i64 g.cur, .int .i64 g.prev, .int .i64 g.slot, .int .i64 g.n, .slice a2 g.keys.length c2, .bool g.done, .int .i64 g.e]) (by simp [results, Try.results62, go_sem, g0, g1, g2, g3, g4, g5, g6, g7, g8, g9, g10, g11, g12, g13]) rfl ⟨⟨a2, c2, rfl, by rw [HKy.out]; exact kro_end rfl HK2.out.1 HR.out HK2.out.2, (fun ad h => (HK2.out.2 ad h).imp id (fun h' => by omega)), HD2.out⟩, HE2.out.end14⟩

end Go.Proofs.Ytdbilofhcadmoab.mm

/- The contract of drop's part late. -/
namespace Go.Proofs.Ytdbilofhcadmoab.mm
open Go.ChangeShapes Go.WideShapes Go.ChangeAt Go.RowKit Go.Joins Go.Deep Go.Sort
set_option maxRecDepth 100000
set_option linter.unusedVariables false

theorem drlate_any (f : Fr) (aK : Option Addr) (cK : Nat) (w : World) :
    Calls Try.prog 136 #[.agg #[.int .i64 f.c.kind, .int .i64 f.c.a, .int .i64 f.c.b, .int .i64 f.c.time, .int .i64 f.c.bk, .int .i64 f.c.slot, .int .i64 f.pl, .int .i64 f.cur, .int .i64 f.prev, .int .i64 f.slot, .int .i64 f.n, .slice aK f.keys.length cK, .bool f.done, .int .i64 f.e]] w fun e w' => e = .returned (.agg #[.int .i64 (errF f 8 5).c.kind, .int .i64 (errF f 8 5).c.a, .int .i64 (errF f 8 5).c.b, .int .i64 (errF f 8 5).c.time, .int .i64 (errF f 8 5).c.bk, .int .i64 (errF f 8 5).c.slot, .int .i64 (errF f 8 5).pl, .int .i64 (errF f 8 5).cur, .int .i64 (errF f 8 5).prev, .int .i64 (errF f 8 5).slot, .int .i64 (errF f 8 5).n, .slice aK (errF f 8 5).keys.length cK, .bool (errF f 8 5).done, .int .i64 (errF f 8 5).e]) ∧ Below w.heap.size w w' := by
  go_enter Try.func136, Try.ntmps136
  go_wp2_with fail
  refine (to_any { f with e := 8 } 5 aK cK _).mono ?_
  rintro e w9 ⟨rfl, hb9⟩
  have HE9 : Hid (Below w.heap.size w w9 ∧ w9.heap[w.heap.size + 1]? = some zeroFr) := zero_at hb9
  clear hb9
  obtain ⟨g0, g1, g2, g3, g4, g5, g6, g7, g8, g9, g10, g11, g12, g13, gf, gs⟩ := framef HE9.out.2
  go_wp2
  refine bodyPost_ret (v := .agg #[.int .i64 (errF f 8 5).c.kind, .int .i64 (errF f 8 5).c.a, .int .i64 (errF f 8 5).c.b, .int .i64 (errF f 8 5).c.time, .int .i64 (errF f 8 5).c.bk, .int .i64 (errF f 8 5).c.slot, .int .i64 (errF f 8 5).pl, .int .i64 (errF f 8 5).cur, .int .i64 (errF f 8 5).prev, .int .i64 (errF f 8 5).slot, .int .i64 (errF f 8 5).n, .slice aK (errF f 8 5).keys.length cK, .bool (errF f 8 5).done, .int .i64 (errF f 8 5).e]) (by simp [results, Try.results136, go_sem, errF, toF, g0, g1, g2, g3, g4, g5, g6, g7, g8, g9, g10, g11, g12, g13]) rfl ⟨rfl, set14 HE9.out.1⟩

end Go.Proofs.Ytdbilofhcadmoab.mm
