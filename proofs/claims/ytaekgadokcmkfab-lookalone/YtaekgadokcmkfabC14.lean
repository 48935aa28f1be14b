/- A Look that goes on alone, as plain data: what it finds, and what it leaves. -/
import Derived.Test.YtaekgadokcmkfabC02
namespace Go.Proofs.Ytaekgadokcmkfab.mm
set_option linter.unusedVariables false

def lkRun : Nat → Mm → Fr → Mm × Fr × Bool
  | 0, M, f => (M, f, false)
  | k + 1, M, f => if (lkF M f).done then (lkM M f, lkF M f, true) else lkRun k (lkM M f) (lkF M f)

theorem lkRun_go {M : Mm} {f : Fr} {k : Nat} (h : (lkF M f).done = false) : lkRun (k + 1) M f = lkRun k (lkM M f) (lkF M f) := by
  show (if (lkF M f).done then (lkM M f, lkF M f, true) else lkRun k (lkM M f) (lkF M f)) = _
  rw [h]; rfl
theorem lkRun_end {M : Mm} {f : Fr} {k : Nat} (h : (lkF M f).done = true) : lkRun (k + 1) M f = (lkM M f, lkF M f, true) := by
  show (if (lkF M f).done then (lkM M f, lkF M f, true) else lkRun k (lkM M f) (lkF M f)) = _
  rw [h]; rfl

def Found (M : Mm) (c : Cl) (l : List Int) (X : Mm) (g : Fr) : Prop :=
  match l.find? (fun a => keyAt M a == (c.a, c.b)) with
  | none => X = M ∧ g.e = 5
  | some a => if M.now < (slotAt M a).unt then X = holdM M a ∧ g.e = 0 ∧ g.slot = a else X = M ∧ g.e = 5

theorem lkF0 {M : Mm} {f : Fr} (h : f.pl = 0) : lkF M f = lkBegin M f := by unfold lkF; rw [if_pos h]
theorem lkF1 {M : Mm} {f : Fr} (h : f.pl = 1) : lkF M f = lkSee M f := by unfold lkF; rw [if_neg (by omega), if_pos h]
theorem lkF2 {M : Mm} {f : Fr} (h : f.pl = 2) : lkF M f = lkPass M f := by unfold lkF; rw [if_neg (by omega), if_neg (by omega), if_pos h]
theorem lkF3 {M : Mm} {f : Fr} (h : f.pl = 3) : lkF M f = lkHold M f := by unfold lkF; rw [if_neg (by omega), if_neg (by omega), if_neg (by omega), if_pos h]
theorem lkF4 {M : Mm} {f : Fr} (h : f.pl = 4) : lkF M f = lkProve M f := by unfold lkF; rw [if_neg (by omega), if_neg (by omega), if_neg (by omega), if_neg (by omega), if_pos h]
theorem lkF5 {M : Mm} {f : Fr} (h : f.pl = 5) : lkF M f = lkStray M f := by unfold lkF; rw [if_neg (by omega), if_neg (by omega), if_neg (by omega), if_neg (by omega), if_neg (by omega), if_pos h]
theorem lkF6 {M : Mm} {f : Fr} (h : f.pl = 6) : lkF M f = lkOver M f := by unfold lkF; rw [if_neg (by omega), if_neg (by omega), if_neg (by omega), if_neg (by omega), if_neg (by omega), if_neg (by omega), if_pos h]
theorem lkF7 {M : Mm} {f : Fr} (h : 7 ≤ f.pl) : lkF M f = toF f 0 := by unfold lkF; rw [if_neg (by omega), if_neg (by omega), if_neg (by omega), if_neg (by omega), if_neg (by omega), if_neg (by omega), if_neg (by omega)]
theorem lkM_same {M : Mm} {f : Fr} (h : f.pl ≠ 3 ∧ f.pl ≠ 5 ∧ f.pl ≠ 6) : lkM M f = M := by unfold lkM; rw [if_neg h.1, if_neg h.2.1, if_neg h.2.2]
theorem lkM3 {M : Mm} {f : Fr} (h : f.pl = 3) : lkM M f = lkHoldM M f := by unfold lkM; rw [if_pos h]
theorem lkM5 {M : Mm} {f : Fr} (h : f.pl = 5) : lkM M f = lkLetM M f := by unfold lkM; rw [if_neg (by omega), if_pos h]
theorem lkM6 {M : Mm} {f : Fr} (h : f.pl = 6) : lkM M f = lkLetM M f := by unfold lkM; rw [if_neg (by omega), if_neg (by omega), if_pos h]

theorem slotAt_hold {M : Mm} {a : Int} (h : isSl M a = true) : slotAt (holdM M a) a = { slotAt M a with refs := refsM M a + 1 } := by
  obtain ⟨j, rfl, hj⟩ := (isSl_iff M a).1 h
  unfold slotAt holdM setRefs
  dsimp only
  rw [Int.toNat_natCast, getD_set_same _ _ _ hj]

theorem putN_hold {M : Mm} {a : Int} (h : isSl M a = true) (hr : 0 < refsM M a) : putN (holdM M a) a = M := by
  unfold putN
  rw [if_neg (by rw [refs_hold h]; omega), hold_with, put_of_with h _ (by omega), show refsM M a + 1 - 1 = refsM M a by omega, withRefs_self h]

theorem run_walk {M : Mm} (hM : OkC M) (hr : ∀ i, isSl M i = true → refsM M i ≠ 1000) {c : Cl} {b : Nat} (hb : b < M.heads.length) (hbk : bkOf M.heads.length c = b) :
    ∀ (l : List Int) (k : Nat) (f : Fr), f.c = c → f.pl = 1 → f.done = false → Path M.slots f.cur l (-1 - (b : Int)) → (∀ a ∈ l, a ∈ chL M b) → 2 * l.length + 5 ≤ k →
      ∃ X g, lkRun k M f = (X, g, true) ∧ Found M c l X g
  | [], k + 1, f, hc, hp, hd, hpath, hin, hk => by
    have e : lkF M f = endF f 5 := by
      rw [lkF1 hp]
      unfold lkSee
      rw [if_pos (by rw [hc, hbk]; exact hpath.1)]
    refine ⟨M, endF f 5, ?_, ?_⟩
    · rw [lkRun_end (by rw [e]; rfl), e, lkM_same (by omega)]
    · exact ⟨rfl, rfl⟩
  | a :: l, k + 4, f, hc, hp, hd, hpath, hin, hk => by
    obtain ⟨h1, h2, h3⟩ := hpath
    have ha := hM.slots hb a (hin a (by simp))
    have hsl : isSl M a = true := isSl_in.2 ha
    have hcur : f.cur - 1 = a := by omega
    have hat : isAt M f = true := isAt_iff.2 (by omega)
    have hheld := hM.held b hb a (hin a (by simp))
    have hrf := slot_refs hM.ok hsl
    have hrr : refsM M a ≠ 0 := hheld.1
    have hrm := hr a hsl
    by_cases hkey : lkK (slotAt M a) f = true
    · have hkc : (keyAt M a == (c.a, c.b)) = true := by
        unfold lkK at hkey
        rw [hc] at hkey
        simp only [Bool.and_eq_true, beq_iff_eq] at hkey
        unfold keyAt
        rw [hkey.1, hkey.2]
        exact beq_self_eq_true _
      have hf : (a :: l).find? (fun a => keyAt M a == (c.a, c.b)) = some a := List.find?_cons_of_pos hkc
      have e1 : lkF M f = toF f 3 := by
        rw [lkF1 hp]
        unfold lkSee
        rw [if_neg (by rw [hc, hbk]; omega), if_pos hat, hcur, hkey]
        rfl
      have e2 : lkF M (toF f 3) = handF (toF f 3) a 4 := by
        rw [lkF3 rfl]
        unfold lkHold
        have hat' : isAt M (toF f 3) = true := hat
        have : canH M ((toF f 3).cur - 1) = true := by
          show canH M (f.cur - 1) = true
          rw [hcur, canH_iff]
          omega
        rw [hat', this]
        show (if (true && true) = true then handF (toF f 3) (f.cur - 1) 4 else _) = _
        rw [hcur]; rfl
      have e2m : lkM M (toF f 3) = holdM M a := by
        rw [lkM3 rfl]
        unfold lkHoldM
        have hat' : isAt M (toF f 3) = true := hat
        rw [if_pos hat']
        show holdN M (f.cur - 1) = _
        rw [hcur]
        unfold holdN
        rw [if_pos (canH_iff.2 (by omega))]
      have hsl' : isSl (holdM M a) a = true := by rw [isSl_hold]; exact hsl
      have hs' := slotAt_hold hsl
      obtain ⟨f4, h4⟩ : ∃ x, x = handF (toF f 3) a 4 := ⟨_, rfl⟩
      have p4 : f4.pl = 4 := by rw [h4]; rfl
      have s4 : f4.slot = a := by rw [h4]; rfl
      have k4 : lkK (slotAt (holdM M a) a) f4 = true := by rw [h4, hs']; exact hkey
      have i4 : (slotAt (holdM M a) a).inn = true := by rw [hs']; exact hheld.2.1
      have u4 : (slotAt (holdM M a) a).unt = (slotAt M a).unt := by rw [hs']
      have n4 : (holdM M a).now = M.now := rfl
      have d4 : f4.done = false := by rw [h4]; exact hd
      have e3 : lkF (holdM M a) f4 = if M.now < (slotAt M a).unt then endF f4 0 else toF f4 6 := by
        rw [lkF4 p4]
        unfold lkProve
        rw [s4, if_pos hsl', k4, i4, u4, n4]
        rfl
      have r1 : lkRun (k + 4) M f = lkRun (k + 2) (holdM M a) f4 := by
        rw [lkRun_go (by rw [e1]; exact hd), e1, lkM_same (by omega), lkRun_go (by rw [e2]; exact hd), e2, e2m, h4]
      rw [r1]
      by_cases hu : M.now < (slotAt M a).unt
      · rw [if_pos hu] at e3
        refine ⟨holdM M a, endF f4 0, ?_, ?_⟩
        · rw [lkRun_end (by rw [e3]; rfl), e3, lkM_same (by omega)]
        · unfold Found
          rw [hf]
          dsimp only
          rw [if_pos hu]
          exact ⟨rfl, rfl, s4⟩
      · rw [if_neg hu] at e3
        have e5 : lkF (holdM M a) (toF f4 6) = endF { toF f4 6 with slot := -1 } 5 := by
          rw [lkF6 rfl]
          unfold lkOver
          have : isSl (holdM M a) (toF f4 6).slot = true := by show isSl (holdM M a) f4.slot = true; rw [s4]; exact hsl'
          rw [if_pos this]
        have e5m : lkM (holdM M a) (toF f4 6) = M := by
          rw [lkM6 rfl]
          unfold lkLetM
          have : (toF f4 6).slot = a := s4
          rw [this, if_pos hsl']
          exact putN_hold hsl (by omega)
        refine ⟨M, endF { toF f4 6 with slot := -1 } 5, ?_, ?_⟩
        · rw [lkRun_go (by rw [e3]; exact d4), e3, lkM_same (by omega), lkRun_end (by rw [e5]; rfl), e5, e5m]
        · unfold Found
          rw [hf]
          dsimp only
          rw [if_neg hu]
          exact ⟨rfl, rfl⟩
    · have hkey' : lkK (slotAt M a) f = false := by simpa using hkey
      have hkc : ¬ (keyAt M a == (c.a, c.b)) = true := by
        intro hh
        apply hkey
        unfold keyAt at hh
        simp only [beq_iff_eq, Prod.mk.injEq] at hh
        unfold lkK
        rw [hc, hh.1, hh.2]
        simp
      have hf : (a :: l).find? (fun a => keyAt M a == (c.a, c.b)) = l.find? (fun a => keyAt M a == (c.a, c.b)) := List.find?_cons_of_neg hkc
      have e1 : lkF M f = toF f 2 := by
        rw [lkF1 hp]
        unfold lkSee
        rw [if_neg (by rw [hc, hbk]; omega), if_pos hat, hcur, hkey']
        rfl
      have e2 : lkF M (toF f 2) = curF (toF f 2) (slotAt M a).next 1 := by
        rw [lkF2 rfl]
        unfold lkPass
        have hat' : isAt M (toF f 2) = true := hat
        rw [if_pos hat']
        show curF (toF f 2) (slotAt M (f.cur - 1)).next 1 = _
        rw [hcur]
      have r1 : lkRun (k + 4) M f = lkRun (k + 2) M (curF (toF f 2) (slotAt M a).next 1) := by
        rw [lkRun_go (by rw [e1]; exact hd), e1, lkM_same (by omega), lkRun_go (by rw [e2]; exact hd), e2, lkM_same (by show _ ∧ _ ∧ _; simp [toF])]
      obtain ⟨X, g, h5, h6⟩ := run_walk hM hr hb hbk l (k + 2) (curF (toF f 2) (slotAt M a).next 1) hc rfl hd h3 (fun x hx => hin x (by simp [hx])) (by simp at hk; omega)
      refine ⟨X, g, by rw [r1, h5], ?_⟩
      unfold Found at h6 ⊢
      rw [hf]
      exact h6
  | [], 0, f, hc, hp, hd, hpath, hin, hk => by simp at hk
  | a :: l, 0, f, hc, hp, hd, hpath, hin, hk => by simp at hk
  | a :: l, 1, f, hc, hp, hd, hpath, hin, hk => by simp at hk
  | a :: l, 2, f, hc, hp, hd, hpath, hin, hk => by simp at hk
  | a :: l, 3, f, hc, hp, hd, hpath, hin, hk => by simp at hk

/- A Look that begins, and goes on alone. -/
theorem run_all {M : Mm} (hM : OkC M) (hr : ∀ i, isSl M i = true → refsM M i ≠ 1000) {c : Cl} (hk : c.kind = 1) (hkey : keyB c.a c.b = true) :
    ∃ X g, lkRun (2 * M.slots.length + 6) M (newF c) = (X, g, true) ∧ Found M c (chL M (bkOf M.heads.length c).toNat) X g := by
  have hcall : callE M.slots.length M.heads.length c = 0 := by
    unfold callE
    rw [if_pos (.inl hk), if_pos hkey]
  obtain ⟨b0, b1⟩ := bkOf_in hM.ok hcall
  obtain ⟨b, hb⟩ : ∃ b : Nat, bkOf M.heads.length c = b := ⟨(bkOf M.heads.length c).toNat, by omega⟩
  have e0 : lkF M (newF c) = curF (newF c) (headM M b) 1 := by
    rw [lkF0 rfl]
    unfold lkBegin
    show curF (newF c) (headM M (bkOf M.heads.length c).toNat) 1 = _
    rw [hb]; rfl
  have hlen : (chL M b).length ≤ M.slots.length := (walk_path M.slots M.slots.length (headM M b) (by have := hM.ends b (by omega); unfold chE at this; omega)).2
  obtain ⟨X, g, h1, h2⟩ := run_walk hM hr (b := b) (by omega) hb (chL M b) (2 * M.slots.length + 5) (curF (newF c) (headM M b) 1) rfl rfl rfl (hM.path (by omega)) (fun a ha => ha) (by omega)
  refine ⟨X, g, ?_, ?_⟩
  · rw [lkRun_go (by rw [e0]; rfl), e0, lkM_same (by show _ ∧ _ ∧ _; simp [newF]), h1]
  · rw [hb]
    exact h2
end Go.Proofs.Ytaekgadokcmkfab.mm
