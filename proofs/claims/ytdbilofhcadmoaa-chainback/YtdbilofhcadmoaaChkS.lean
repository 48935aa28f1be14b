/- The contract of checkSlot. -/
import Derived.Test.YtdbilofhcadmoaaLst
namespace Go.Proofs.Ytdbilofhcadmoaa.mm
open Go.ChangeShapes Go.WideShapes Go.ChangeAt Go.RowKit Go.Joins Go.Maps
set_option maxRecDepth 100000
set_option linter.unusedVariables false

theorem slotAt_lt {M : Mm} {j : Nat} (h : j < M.slots.length) : slotAt M j = M.slots[j] := by simp [slotAt, List.getD_eq_getElem?_getD, h]

set_option maxHeartbeats 1600000 in
theorem checkSlot_any (M : Mm) (aS aH aF aL : Option Addr) (cS cH cF cL b j g : Nat) (all : List Int) (w : World) (A : At w aS aH aF aL cS cH cF cL M) (hok : Ok M) (hb : b < M.heads.length) (hj : j < M.slots.length) (hm : MapAt M w g all) :
    Calls Try.prog 89 #[.agg #[.slice aS M.slots.length cS, .slice aH M.heads.length cH, .slice aF M.free.length cF, .slice aL M.locks.length cL, .int .i64 M.now], .int .i64 b, .int .i64 j, .map (some g)] w fun e w' => e = .returned (.int .i64 (slotC M b all j)) ∧ Below w.heap.size w w' := by
  obtain ⟨E0, hE0⟩ : ∃ E0, E0 = slotC M b all j := ⟨_, rfl⟩
  rw [← hE0]
  have HE0 : Hid (E0 = slotC M b all j) := hE0
  clear hE0
  have n0 := hok.ns
  have n1 := hok.nh
  have hgood := slot_good (hok.slot _ (List.getElem_mem hj))
  have hs : slotAt M j = M.slots[j] := slotAt_lt hj
  have HM : Hid (MapAt M w g all) := hm
  have gl := hm.lt
  clear hm
  rcases A.s.at_ with h0 | ⟨bs, os, rfl, hc⟩
  · omega
  obtain ⟨c0, c1, c2, c3, c4, c5⟩ := hc j hj
  have lt := cell_lt c0
  clear hc A
  generalize hsl : M.slots[j] = s at c0 c1 c2 c3 c4 c5
  rw [hsl] at hgood hs
  obtain ⟨r, ka, kb, u, i, nx⟩ := s
  dsimp only at c0 c1 c2 c3 c4 c5 hgood
  have HSL : Hid (slotAt M j = ⟨r, ka, kb, u, i, nx⟩) := hs
  clear hsl hs
  have hkey := hgood.2.2.1
  clear hgood
  have hbw : Below w.heap.size w ((w.alloc (.cells #[.slice (some ⟨bs, os, none⟩) M.slots.length cS, .slice aH M.heads.length cH, .slice aF M.free.length cF, .slice aL M.locks.length cL, .int .i64 M.now] 29)).alloc (.cells #[.int .i64 r, .int .i64 ka, .int .i64 kb, .int .i64 u, .bool i, .int .i64 nx] 48)) := below_alloc2 w _ _
  by_cases hr : r = 0
  · subst hr
    have HV : Hid (E0 = 5) := HE0.out.trans (by unfold slotC; rw [HSL.out, if_pos (.inl rfl)])
    go_enter Try.func89, Try.ntmps89
    go_wp2
    go_ret
    exact ⟨ret_int HV.out.symm, hbw⟩
  have hr' : (r == 0) = false := by simpa using hr
  cases i
  · have HV : Hid (E0 = 5) := HE0.out.trans (by unfold slotC; rw [HSL.out, if_pos (.inr rfl)])
    go_enter Try.func89, Try.ntmps89
    go_wp2
    go_ret
    exact ⟨ret_int HV.out.symm, hbw⟩
  have HC : Hid (E0 = if bucket ka kb M.heads.length ≠ b then 4 else if hasK M all (ka, kb) then 6 else 0) := HE0.out.trans (by
    have hk : keyAt M j = (ka, kb) := by unfold keyAt; rw [HSL.out]
    unfold slotC
    rw [hk, HSL.out]
    dsimp only
    rw [if_neg (by rintro (h | h); exact hr h; cases h)])
  have HK : Hid (keyB ka kb = true) := hkey
  clear hkey HE0
  go_enter Try.func89, Try.ntmps89
  go_wp2_with fail
  refine (bucket_ok _ _ _ _ HK.out n1.1 n1.2).mono ?_
  rintro e w1 ⟨rfl, hb1⟩
  have hbx : Below w.heap.size w w1 := hbw.trans (hb1.mono (by simp; omega))
  have s1 : w1.cell? ⟨w.heap.size + 1, 1, none⟩ = some (.int .i64 ka) := ((bcell hb1).1 _ _ (by simp)).trans (by simp)
  have s2 : w1.cell? ⟨w.heap.size + 1, 2, none⟩ = some (.int .i64 kb) := ((bcell hb1).1 _ _ (by simp)).trans (by simp)
  have hl := MapAt.look (MapAt.kept HM.out (hbx.block g gl)) HK.out
  clear hb1 hbw c0 c1 c2 c3 c4 c5
  by_cases hbb : bucket ka kb M.heads.length = b
  · have HD : Hid (E0 = if hasK M all (ka, kb) then 6 else 0) := HC.out.trans (by rw [if_neg (by simpa using hbb)])
    rw [hbb]
    have hbe : ((b : Int) != (b : Int)) = false := by simp
    cases hh : hasK M all (ka, kb)
    · rw [hh] at hl
      have HV : Hid (E0 = 0) := HD.out.trans (by rw [hh]; rfl)
      clear HC HD
      go_wp2
      go_ret
      exact ⟨ret_int HV.out.symm, hbx⟩
    · rw [hh] at hl
      have HV : Hid (E0 = 6) := HD.out.trans (by rw [hh]; rfl)
      clear HC HD
      go_wp2
      go_ret
      exact ⟨ret_int HV.out.symm, hbx⟩
  · have hbe : (bucket ka kb M.heads.length != (b : Int)) = true := by simpa using hbb
    have HV : Hid (E0 = 4) := HC.out.trans (by rw [if_pos hbb])
    clear HC
    generalize bucket ka kb M.heads.length = q at *
    go_wp2
    go_ret
    exact ⟨ret_int HV.out.symm, hbx⟩


end Go.Proofs.Ytdbilofhcadmoaa.mm
