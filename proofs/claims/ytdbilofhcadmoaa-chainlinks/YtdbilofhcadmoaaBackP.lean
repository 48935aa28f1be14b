/- What is linked is mapped, and what is cut out is not; all other flows stay; what is cut out can be linked again: as plain data. -/
import Derived.Test.YtdbilofhcadmoaaBackF
namespace Go.Proofs.Ytdbilofhcadmoaa.mm
set_option linter.unusedVariables false

def flA (M : Mm) : List Fl := (allC M).map (flowAt M)
theorem flowsM_ok {M : Mm} (h : OkC M) : flowsM M = flA M := by unfold flowsM; rw [if_pos ((chkC_zero M).2 h)]; rfl
theorem flA_len (M : Mm) : (flA M).length = (allC M).length := by simp [flA]
theorem flA_le {M : Mm} (h : Ok M) : (flA M).length ≤ 48 := by
  rw [flA_len]
  have h1 := allTo_len M M.heads.length
  have h2 : M.heads.length * M.slots.length ≤ 4 * 12 := Nat.mul_le_mul h.nh.2 h.ns
  exact Nat.le_trans h1 h2

theorem flowAt_same {M M' : Mm} (hk : ∀ x, keyAt M' x = keyAt M x) (hu : ∀ x, (slotAt M' x).unt = (slotAt M x).unt) : flowAt M' = flowAt M := by
  funext x
  have := hk x
  unfold keyAt at this
  injection this with h1 h2
  unfold flowAt
  rw [h1, h2, hu]

theorem hasKF_eq (M : Mm) (all : List Int) (a b : Int) : hasKF (all.map (flowAt M)) a b = hasK M all (a, b) := by
  rw [Bool.eq_iff_iff, hasK_iff]
  unfold hasKF
  rw [List.any_eq_true]
  constructor
  · rintro ⟨x, hx, hh⟩
    rw [List.mem_map] at hx ⊢
    obtain ⟨y, hy, rfl⟩ := hx
    simp only [Bool.and_eq_true, beq_iff_eq] at hh
    exact ⟨y, hy, Prod.ext hh.1 hh.2⟩
  · intro h
    rw [List.mem_map] at h
    obtain ⟨y, hy, e⟩ := h
    refine ⟨flowAt M y, List.mem_map_of_mem hy, ?_⟩
    unfold keyAt at e
    injection e with h1 h2
    simp [flowAt, h1, h2]

theorem none_lost {l l' : List Fl} (h : ∀ x ∈ l, x ∈ l') : l.any (fun f => !hasF l' f) = false := by
  rw [List.any_eq_false]
  intro x hx
  simp [(hasF_iff l' x).2 (h x hx)]

structure LinkSays (M M' : Mm) (j : Nat) : Prop where
  okc : OkC M'
  len : (flA M').length = (flA M).length + 1
  no : hasKF (flA M) (slotAt M j).a (slotAt M j).b = false
  yes : hasF (flA M') ⟨(slotAt M j).a, (slotAt M j).b, j, (slotAt M j).unt⟩ = true
  all : (flA M).any (fun f => !hasF (flA M') f) = false

theorem link_says {M : Mm} {j : Nat} (h : OkC M) (h1 : isSl M j = true) (h2 : refsM M j ≠ 0) (h3 : hasK M (allC M) (keyAt M j) = false) : LinkSays M (linkM M j) j := by
  have LK := link_ok h h1 h2 h3
  have hb := ownB_lt h.ok (j : Int)
  have hp := linked_perm hb LK
  have hf := flowAt_same LK.key LK.unt
  refine ⟨LK.okc, ?_, ?_, ?_, ?_⟩
  · rw [flA_len, flA_len, hp.length_eq]; rfl
  · unfold flA; rw [hasKF_eq]; exact h3
  · rw [hasF_iff]
    unfold flA
    rw [hf]
    exact List.mem_map.2 ⟨j, hp.mem_iff.2 List.mem_cons_self, rfl⟩
  · refine none_lost fun x hx => ?_
    unfold flA at hx ⊢
    rw [hf]
    obtain ⟨y, hy, rfl⟩ := List.mem_map.1 hx
    exact List.mem_map_of_mem (hp.mem_iff.2 (List.mem_cons_of_mem _ hy))

theorem withoutE_or {M : Mm} (h : OkC M) (ka kb : Int) : withoutE M ka kb = 3 ∨ (withoutE M ka kb = 5 ∧ hasKF (flA M) ka kb = false) ∨ (withoutE M ka kb = 0 ∧ keyB ka kb = true ∧ hasK M (allC M) (ka, kb) = true) := by
  unfold withoutE
  rw [if_neg (by simpa using (chkC_zero M).2 h)]
  cases h1 : keyB ka kb
  · left; simp
  · rw [if_neg (by simp)]
    cases h2 : hasK M (allC M) (ka, kb)
    · right; left
      refine ⟨by simp, ?_⟩
      unfold flA; rw [hasKF_eq]; exact h2
    · right; right; simp

structure CutSays (M Y : Mm) (ka kb : Int) (n : Nat) : Prop where
  okc : OkC Y
  len : (flA Y).length + 1 = (flA M).length
  no : hasKF (flA Y) ka kb = false
  yes : hasKF (flA M) ka kb = true
  all : (flA Y).any (fun f => !hasF (flA M) f) = false
  lnk : linkE Y n = 0
  zok : OkC (linkedM Y n)
  zlen : (flA (linkedM Y n)).length = (flA M).length
  zall : (flA M).any (fun f => !hasF (flA (linkedM Y n)) f) = false

theorem cut_says {M : Mm} {ka kb : Int} (h : OkC M) (hk : keyB ka kb = true) (hh : hasK M (allC M) (ka, kb) = true) : ∃ n : Nat, whoK M (allC M) (ka, kb) = n ∧ CutSays M (cutK M ka kb) ka kb n := by
  obtain ⟨hm, hkey⟩ := whoK_mem hh
  have hsl := h.allSlots _ hm
  obtain ⟨n, hn⟩ : ∃ n : Nat, whoK M (allC M) (ka, kb) = n := ⟨(whoK M (allC M) (ka, kb)).toNat, by omega⟩
  refine ⟨n, hn, ?_⟩
  have hbi := bucket_in ka kb h.ok.nh.1
  have hb : keyN M ka kb < M.heads.length := by unfold keyN; omega
  have hmem : (n : Int) ∈ chL M (keyN M ka kb) := by
    rw [hn] at hm hkey
    obtain ⟨c, hc, hm⟩ := mem_allC.1 hm
    have := (h.held c hc _ hm).2.2
    unfold keyAt at hkey
    injection hkey with e1 e2
    rw [e1, e2] at this
    have hcc : c = keyN M ka kb := by unfold keyN; omega
    rw [← hcc]; exact hm
  unfold cutK
  rw [hn] at hsl hkey ⊢
  have CT := cut_ok h hb hmem
  generalize cutM M (keyN M ka kb) (aheadF (n : Int) (chL M (keyN M ka kb)) 0 0) n = Y at CT
  obtain ⟨l1, l2, e1, e2⟩ := CT.at_
  obtain ⟨k1, k2, a1, a2⟩ := allC_turn hb CT.nh CT.else_
  have hp : (allC M).Perm ((n : Int) :: allC Y) := by
    rw [a1, a2, e1, e2]
    have : k1 ++ (l1 ++ (n : Int) :: l2) ++ k2 = (k1 ++ l1) ++ (n : Int) :: (l2 ++ k2) := by simp
    rw [this]
    refine List.perm_middle.trans ?_
    simp
  have hf := flowAt_same CT.key CT.unt
  have hkn : ¬ (ka, kb) ∈ (allC Y).map (keyAt M) := by
    have := (hp.map (keyAt M)).nodup_iff.1 h.keys
    rw [List.map_cons, hkey, List.nodup_cons] at this
    exact this.1
  have hno : hasK Y (allC Y) (ka, kb) = false := by
    cases hx : hasK Y (allC Y) (ka, kb)
    · rfl
    · rw [hasK_iff, show keyAt Y = keyAt M from funext CT.key] at hx
      exact absurd hx hkn
  have hky : hasK Y (allC Y) (keyAt Y n) = false := by rw [CT.key, hkey]; exact hno
  have hrf : refsM Y n ≠ 0 := by
    have h1 := (h.held _ hb _ hmem).1
    show (slotAt Y n).refs ≠ 0
    rw [CT.refs]; exact h1
  have his : isSl Y n = true := (isSl_iff Y n).2 ⟨n, rfl, by rw [CT.ns]; omega⟩
  have hle : linkE Y n = 0 := linkE_of CT.okc his hrf hky
  have hlm : linkedM Y n = linkM Y n := by unfold linkedM; rw [hle, if_pos rfl]
  have LK := link_ok CT.okc his hrf hky
  have hpz := linked_perm (ownB_lt CT.okc.ok (n : Int)) LK
  have hfz := flowAt_same LK.key LK.unt
  refine ⟨CT.okc, ?_, ?_, ?_, ?_, hle, by rw [hlm]; exact LK.okc, ?_, ?_⟩
  · rw [flA_len, flA_len, hp.length_eq]; rfl
  · unfold flA; rw [hasKF_eq]; exact hno
  · unfold flA; rw [hasKF_eq]; exact hh
  · refine none_lost fun x hx => ?_
    unfold flA at hx ⊢
    rw [hf] at hx
    obtain ⟨y, hy, rfl⟩ := List.mem_map.1 hx
    exact List.mem_map_of_mem (hp.mem_iff.2 (List.mem_cons_of_mem _ hy))
  · rw [hlm, flA_len, flA_len, hpz.length_eq, hp.length_eq]
  · rw [hlm]
    refine none_lost fun x hx => ?_
    unfold flA at hx ⊢
    rw [hfz, hf]
    obtain ⟨y, hy, rfl⟩ := List.mem_map.1 hx
    exact List.mem_map_of_mem (hpz.mem_iff.2 (hp.mem_iff.1 hy))


end Go.Proofs.Ytdbilofhcadmoaa.mm
