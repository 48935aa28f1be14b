/- What MemBack asks, of plain data: what was put last is taken next. -/
import Derived.Test.YtdbilofhcadmoaaPure2
namespace Go.Proofs.Ytdbilofhcadmoaa.mm
set_option linter.unusedVariables false

theorem taken_zero {M : Mm} {ka kb u : Int} (h : takenE M ka kb u = 0) : Ok M ∧ keyB ka kb = true ∧ inB u 0 2000000 = true ∧ 0 < M.free.length ∧ takenM M ka kb u = takeM M ka kb u ∧ takenN M ka kb u = lastF M := by
  have h' := h
  unfold takenE at h
  split at h
  · rename_i hc; exact absurd h hc
  rename_i hc
  split at h
  · cases h
  rename_i hk
  split at h
  · cases h
  rename_i hu
  split at h
  · cases h
  rename_i hf
  exact ⟨(chk_zero M).1 (by simpa using hc), by simpa using hk, by simpa using hu, by omega, by unfold takenM; rw [if_pos h'], by unfold takenN; rw [if_pos h']⟩

theorem zero_taken {M : Mm} {ka kb u : Int} (o : Ok M) (hk : keyB ka kb = true) (hu : inB u 0 2000000 = true) (hF : 0 < M.free.length) : takenE M ka kb u = 0 := by
  unfold takenE
  rw [if_neg (by simpa using (chk_zero M).2 o), if_neg (by rw [hk]; simp), if_neg (by rw [hu]; simp), if_neg (by omega)]

theorem takeM_at {m : Mm} {ka kb u : Int} {j : Nat} (h : lastF m = j) : takeM m ka kb u = Mm.mk (m.slots.set j ⟨1, ka, kb, u, false, (m.slots.getD j sl0).next⟩) m.heads (m.free.take (m.free.length - 1)) m.locks m.now := by
  unfold takeM
  rw [h, Int.toNat_natCast]

theorem back_pure {M : Mm} {ka kb u : Int} (h : takenE M ka kb u = 0) : ∃ (j : Nat) (hj : j < M.slots.length) (Mx My : Mm), takenN M ka kb u = j ∧ takenM M ka kb u = Mx ∧ M.slots[j].refs = 0 ∧
    Mx.slots = M.slots.set j ⟨1, ka, kb, u, false, M.slots[j].next⟩ ∧ Mx.free.length + 1 = M.free.length ∧ chk Mx = 0 ∧ letE Mx j = 0 ∧ letM Mx j = My ∧ takenE My ka kb u = 0 ∧ takenN My ka kb u = j ∧ takenM My ka kb u = Mx := by
  obtain ⟨o, hk, hu, hF, eM, eN⟩ := taken_zero h
  obtain ⟨l0, l1, l2⟩ := last_ok o hF
  obtain ⟨j, hjl⟩ : ∃ j : Nat, lastF M = j := ⟨(lastF M).toNat, by omega⟩
  have hj : j < M.slots.length := by omega
  have ox : Ok (takeM M ka kb u) := take_ok o hk hu hF
  have hr0 : M.slots[j].refs = 0 := by rw [hjl, refs_lt hj] at l2; exact l2
  have hxs : (takeM M ka kb u).slots = M.slots.set j ⟨1, ka, kb, u, false, M.slots[j].next⟩ := by
    unfold takeM
    rw [hjl, Int.toNat_natCast, getD_lt _ _ hj]
  have hxf : (takeM M ka kb u).free = M.free.take (M.free.length - 1) := rfl
  have hsx : isSl (takeM M ka kb u) j = true := (isSl_iff _ _).2 ⟨j, rfl, by rw [hxs, List.length_set]; exact hj⟩
  have hrx : refsM (takeM M ka kb u) j = 1 := by
    unfold refsM
    rw [hxs, Int.toNat_natCast, getD_set_same _ _ _ hj]
  have eL : letE (takeM M ka kb u) j = 0 := by
    unfold letE
    rw [if_neg (by simpa using (chk_zero _).2 ox), if_neg (by rw [hsx]; simp), if_neg (by rw [hrx]; decide)]
  have eLM : letM (takeM M ka kb u) j = putM (takeM M ka kb u) j := by unfold letM; rw [if_pos eL]
  have oy : Ok (putM (takeM M ka kb u) j) := put_ok ox hsx (by rw [hrx]; decide) (by rw [hrx]; decide)
  have hyf : (putM (takeM M ka kb u) j).free = M.free := by
    show (if refsM (takeM M ka kb u) j = 1 then (takeM M ka kb u).free ++ [(j : Int)] else (takeM M ka kb u).free) = _
    rw [if_pos hrx, hxf, ← hjl]
    exact (free_split hF).symm
  have hys : (putM (takeM M ka kb u) j).slots = M.slots.set j ⟨0, ka, kb, u, false, M.slots[j].next⟩ := by
    show setRefs (takeM M ka kb u) j (refsM (takeM M ka kb u) j - 1) = _
    rw [hrx]
    unfold setRefs
    rw [hxs, Int.toNat_natCast, getD_set_same _ _ _ hj, List.set_set]
    rfl
  have hyl : lastF (putM (takeM M ka kb u) j) = j := by unfold lastF; rw [hyf]; exact hjl
  have eT : takenE (putM (takeM M ka kb u) j) ka kb u = 0 := zero_taken oy hk hu (by rw [hyf]; exact hF)
  refine ⟨j, hj, takeM M ka kb u, putM (takeM M ka kb u) j, eN.trans hjl, eM, hr0, hxs, ?_, (chk_zero _).2 ox, eL, eLM, eT, ?_, ?_⟩
  · rw [hxf, List.length_take]; omega
  · rw [(taken_zero eT).2.2.2.2.2, hyl]
  · rw [(taken_zero eT).2.2.2.2.1]
    have e : takeM (putM (takeM M ka kb u) j) ka kb u = Mm.mk ((putM (takeM M ka kb u) j).slots.set j ⟨1, ka, kb, u, false, ((putM (takeM M ka kb u) j).slots.getD j sl0).next⟩) M.heads (M.free.take (M.free.length - 1)) M.locks M.now := by
      rw [takeM_at hyl, hyf]
      rfl
    rw [e, hys, getD_set_same _ _ _ hj, List.set_set]
    have e2 : takeM M ka kb u = Mm.mk (takeM M ka kb u).slots M.heads (M.free.take (M.free.length - 1)) M.locks M.now := rfl
    rw [e2, hxs]

theorem hold_let {M : Mm} {i : Int} (h : heldE M i = 0) : letE (heldM M i) i = 0 ∧ letM (heldM M i) i = M := by
  have h' := h
  unfold heldE at h
  split at h
  · rename_i hc; exact absurd h hc
  rename_i hc
  split at h
  · cases h
  rename_i hs
  split at h
  · cases h
  rename_i hr
  have ho := (chk_zero M).1 (by simpa using hc)
  have hs' : isSl M i = true := by simpa using hs
  obtain ⟨j, rfl, hj⟩ := (isSl_iff M i).1 hs'
  have hg := (inB_iff _ _ _).1 (slot_good (ho.slot _ (List.getElem_mem hj))).1
  rw [← refs_lt hj] at hg
  have eM : heldM M j = withRefs M j (refsM M j + 1) := by unfold heldM; rw [if_pos h', hold_with]
  have oh : Ok (withRefs M j (refsM M j + 1)) := turn_ok ho hj (by omega) (by omega) (by omega)
  have e : letE (withRefs M j (refsM M j + 1)) j = 0 := by
    unfold letE
    rw [if_neg (by simpa using (chk_zero _).2 oh), if_neg (by rw [isSl_with, hs']; simp), if_neg (by rw [refs_with hs']; omega)]
  rw [eM]
  refine ⟨e, ?_⟩
  unfold letM
  rw [if_pos e, put_of_with hs' _ (by omega), show refsM M j + 1 - 1 = refsM M j by omega]
  exact withRefs_self hs'


end Go.Proofs.Ytdbilofhcadmoaa.mm
