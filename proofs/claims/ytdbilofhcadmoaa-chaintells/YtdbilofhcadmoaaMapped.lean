/- The contract of mapped: what Check of chains finds, and the map from keys that are mapped to their slots. -/
import Derived.Test.YtdbilofhcadmoaaChkS
namespace Go.Proofs.Ytdbilofhcadmoaa.mm
open Go.ChangeShapes Go.WideShapes Go.ChangeAt Go.RowKit Go.Joins Go.Maps
set_option maxRecDepth 100000
set_option linter.unusedVariables false

theorem walkL_in {S : List Sl} {N : Nat} (hs : ∀ s ∈ S, s.next ≤ N) : ∀ (k : Nat) (n : Int), n ≤ N → ∀ a ∈ walkL S k n, 0 ≤ a ∧ a < N
  | 0, _, _, _, ha => by cases ha
  | k + 1, n, hn, a, ha => by
    simp only [walkL] at ha
    split at ha
    · rename_i h0
      rcases List.mem_cons.1 ha with rfl | ha
      · omega
      · refine walkL_in hs k (nextN S n) ?_ a ha
        unfold nextN
        by_cases hx : (n - 1).toNat < S.length
        · rw [getD_lt S _ hx]; exact hs _ (List.getElem_mem hx)
        · rw [List.getD_eq_getElem?_getD, List.getElem?_eq_none (by omega)]; show (0 : Int) ≤ N; omega
    · cases ha
theorem Ok.chIn {M : Mm} (h : Ok M) {b : Nat} (hb : b < M.heads.length) : ∀ a ∈ chL M b, 0 ≤ a ∧ a < M.slots.length :=
  walkL_in (fun s hs => ((inB_iff _ _ _).1 (slot_good (h.slot s hs)).2.2.2).2) _ _ ((inB_iff _ _ _).1 (h.headIn hb).2).2

theorem cell_map {w : World} {g o : Nat} {es : Array MapEntry} {clock : Nat} (h : w.heap[g]? = some (.map es clock)) : w.cell? ⟨g, o, none⟩ = none := by
  unfold World.cell?
  rw [h]
theorem IRow.turn {w w' : World} {ao : Option Addr} {cap g : Nat} {l : List Int} {es : Array MapEntry} {clock : Nat} (r : IRow w ao cap l) (hg : w.heap[g]? = some (.map es clock)) (h : ∀ k, k < w.heap.size → k ≠ g → w'.heap[k]? = w.heap[k]?) : IRow w' ao cap l := by
  refine ⟨r.le, r.max, r.nil, ?_⟩
  rcases r.at_ with h0 | ⟨b, o, e, hc⟩
  · exact .inl h0
  · refine .inr ⟨b, o, e, fun i hi => ?_⟩
    have hne : b ≠ g := by
      rintro rfl
      have := hc i hi
      rw [cell_map hg] at this
      cases this
    rw [World.cell?_of_block (a := ⟨b, o + i, none⟩) (h b (cell_lt (hc i hi)) hne)]
    exact hc i hi
theorem MapAt.blk {M : Mm} {w : World} {g : Nat} {l : List Int} (h : MapAt M w g l) : ∃ es clock, w.heap[g]? = some (.map es clock) := by
  obtain ⟨n, hn, D, ⟨es, clock, hg, F, hs, hD⟩, hat⟩ := h
  exact ⟨es, clock, hg⟩

theorem allTo_len (M : Mm) : ∀ b : Nat, (allTo M b).length ≤ b * M.slots.length
  | 0 => by simp [allTo]
  | b + 1 => by
    rw [allTo_succ, List.length_append, Nat.succ_mul]
    have := allTo_len M b
    have : (chL M b).length ≤ M.slots.length := walkL_len _ _ _
    omega

def MapIs (M : Mm) (Z : Int) (lo : Nat) (w : World) (v : Value) : Prop := (Z ≠ 0 → v = .map none) ∧ (Z = 0 → ∃ g, v = .map (some g) ∧ lo ≤ g ∧ MapAt M w g (allC M))

set_option maxHeartbeats 6400000 in
theorem mapped_any (M : Mm) (aS aH aF aL : Option Addr) (cS cH cF cL : Nat) (w : World) (A : At w aS aH aF aL cS cH cF cL M) :
    Calls Try.prog 74 #[.agg #[.slice aS M.slots.length cS, .slice aH M.heads.length cH, .slice aF M.free.length cF, .slice aL M.locks.length cL, .int .i64 M.now]] w fun e w' => ∃ v, e = .returned (.tuple #[v, .int .i64 (chkC M)]) ∧ MapIs M (chkC M) w.heap.size w' v ∧ Below w.heap.size w w' := by
  obtain ⟨Z, hZ⟩ : ∃ Z, Z = chkC M := ⟨_, rfl⟩
  rw [← hZ]
  have HZ : Hid (Z = chkC M) := hZ
  clear hZ
  obtain ⟨o1, ho1⟩ : ∃ o : Obj, o = .cells #[.slice aS M.slots.length cS, .slice aH M.heads.length cH, .slice aF M.free.length cF, .slice aL M.locks.length cL, .int .i64 M.now] 29 := ⟨_, rfl⟩
  have b0 : Below w.heap.size w (w.alloc o1) := one_below w o1
  have HB0 : Hid ((w.alloc o1).heap[w.heap.size]? = some o1) := heap_alloc_new _ _
  have HA : Hid (At w aS aH aF aL cS cH cF cL M) := A
  have HA0 : Hid _ := A.below b0
  clear A
  go_enter Try.func74, Try.ntmps74
  go_wp2_with fail
  rw [← ho1]
  generalize w.alloc o1 = W0 at *
  subst ho1
  refine (check_any M aS aH aF aL cS cH cF cL W0 HA0.out).mono ?_
  rintro e w1 ⟨rfl, hb1⟩
  have b1 := b0.trans (hb1.mono b0.size)
  have HB1 : Hid _ := (hb1.block w.heap.size (lt_of_block HB0.out)).trans HB0.out
  clear hb1 b0 HB0 HA0
  by_cases hE : chk M = 0
  rotate_left
  · have h' : (chk M != 0) = true := by simpa using hE
    have HV : Hid (Z = chk M) := HZ.out.trans (by unfold chkC; rw [if_pos hE])
    have HN : Hid (chk M ≠ 0) := hE
    clear HB1
    generalize chk M = E at *
    go_wp2
    go_ret2
    exact ⟨_, by rw [HV.out]; rfl, ⟨fun _ => rfl, fun h => absurd (HV.out ▸ h) HN.out⟩, b1⟩
  have hok := (chk_zero M).1 hE
  have n0 := hok.ns
  have n1 := hok.nh
  have HC : Hid (Z = chkB M M.heads.length 0 []) := HZ.out.trans (by unfold chkC; rw [if_neg (by simpa using hE)])
  rw [hE]
  clear hE HZ
  obtain ⟨q0, q1, q2, q3, q4, f0, f1, f2, f3, f4, qs⟩ := boxf HB1.out
  clear f0 f1 f2 f3 f4
  have HM1 : Hid (MapAt M (w1.alloc (.map #[] 0)) w1.heap.size []) := MapAt.made M w1
  have b2 := b1.alloc b1.size (.map #[] 0)
  have HB2 : Hid ((w1.alloc (.map #[] 0)).heap[w.heap.size]? = _) := (Below.heap_alloc _ _ _ qs).trans HB1.out
  have hmm := @run_makeMap Try.prog
  go_wp2
  clear q0 q1 q2 q3 q4 hmm
  go_loopw [21] (fun i wr => ∃ b : Nat, b ≤ M.heads.length ∧ i = .int .i64 b ∧ Hid (MapAt M wr w1.heap.size (allTo M b)) ∧ Below w.heap.size w wr ∧ Hid (wr.heap[w.heap.size]? = some (.cells #[.slice aS M.slots.length cS, .slice aH M.heads.length cH, .slice aF M.free.length cF, .slice aL M.locks.length cL, .int .i64 M.now] 29 (0, 0))) ∧ Hid (Z = chkB M (M.heads.length - b) b (allTo M b)))
    (fun i _ => M.heads.length - (intOf i).toNat)
  case atStart => exact ⟨0, Nat.zero_le _, rfl, HM1, b2, HB2, HC⟩
  case round =>
    obtain ⟨b, hb, rfl, HM, hbw, HB, HE⟩ := hrel
    clear HM1 HB2 b2 HC HB1 b1
    obtain ⟨q0, q1, q2, q3, q4, f0, f1, f2, f3, f4, qs'⟩ := boxf HB.out
    clear f0 f1 f2 f3 f4
    have gl := MapAt.lt HM.out
    by_cases hlt : b < M.heads.length
    · have HAr : Hid _ := HA.out.below hbw
      go_wp2_with fail
      refine (slotsOf_any M aS aH aF aL cS cH cF cL b wr HAr.out hok hlt).mono ?_
      rintro e w2 ⟨ao, cap, rfl, hrow, hb2⟩
      have hbx := hbw.trans (hb2.mono hbw.size)
      have HM2 : Hid (MapAt M w2 w1.heap.size (allTo M b)) := MapAt.kept HM.out (hb2.block _ gl)
      have HB2 : Hid (w2.heap[w.heap.size]? = _) := (hb2.block w.heap.size qs').trans HB.out
      have HS : Hid _ := chkB_step M b hlt
      clear HM HB HAr hbw hb2 q0 q1 q2 q3 q4
      cases hc : chOk M b
      · have HV : Hid (Z = 4) := HE.out.trans (HS.out.trans (by rw [hc]; rfl))
        have es : slotsE M b = 4 := by unfold slotsE; rw [hc]; rfl
        have el : slotsL M b = [] := by unfold slotsL; rw [hc]; rfl
        rw [es, el]
        clear hrow HS HE
        go_wp2
        go_ret2
        exact ⟨_, by rw [HV.out]; rfl, ⟨fun _ => rfl, fun h => by rw [HV.out] at h; cases h⟩, hbx⟩
      · have es : slotsE M b = 0 := by unfold slotsE; rw [hc]; rfl
        have el : slotsL M b = chL M b := by unfold slotsL; rw [hc]; rfl
        rw [es, el]
        rw [el] at hrow
        have HIn : Hid _ := hok.chIn hlt
        have HRow : Hid (IRow w2 ao cap (chL M b)) := hrow
        have hlen : (chL M b).length ≤ 12 := Nat.le_trans (walkL_len _ _ _) n0
        have HD : Hid (Z = if scanC M b (allTo M b) (chL M b) ≠ 0 then scanC M b (allTo M b) (chL M b) else chkB M (M.heads.length - (b + 1)) (b + 1) (allTo M (b + 1))) := HE.out.trans (HS.out.trans (by rw [hc]; rfl))
        have HSu : Hid (allTo M (b + 1) = allTo M b ++ chL M b) := allTo_succ M b
        clear hrow HS HE es el hc
        generalize chL M b = l at *
        go_wp2
        go_loopw [35] (fun i wr => ∃ k : Nat, k ≤ l.length ∧ i = .int .i64 k ∧ Hid (MapAt M wr w1.heap.size (allTo M b ++ l.take k)) ∧ Hid (IRow wr ao cap l) ∧ Below w.heap.size w wr ∧ Hid (wr.heap[w.heap.size]? = some (.cells #[.slice aS M.slots.length cS, .slice aH M.heads.length cH, .slice aF M.free.length cF, .slice aL M.locks.length cL, .int .i64 M.now] 29 (0, 0))) ∧ Hid (scanC M b (allTo M b) l = scanC M b (allTo M b ++ l.take k) (l.drop k)))
          (fun i _ => l.length - (intOf i).toNat)
        case atStart => exact ⟨0, Nat.zero_le _, rfl, by rw [List.take_zero, List.append_nil]; exact HM2, HRow, hbx, HB2, by rw [List.take_zero, List.append_nil, List.drop_zero]; exact rfl⟩
        case round =>
          obtain ⟨k, hk, rfl, HM3, HR3, hb3, HB3, HE3⟩ := hrel
          clear HM2 HRow hbx HB2
          obtain ⟨q0, q1, q2, q3, q4, f0, f1, f2, f3, f4, qs3⟩ := boxf HB3.out
          clear f0 f1 f2 f3 f4
          by_cases hlt3 : k < l.length
          · rcases HR3.out.at_ with h0 | ⟨bl, ol, rfl, hcl⟩
            · omega
            have d0 := hcl k hlt3
            clear hcl
            have hin := HIn.out l[k] (List.getElem_mem hlt3)
            obtain ⟨j, hj⟩ : ∃ j : Nat, l[k] = j := ⟨(l[k]).toNat, by omega⟩
            have HX : Hid (l[k] = j) := hj
            rw [hj] at d0 hin
            clear hj
            have hjs : j < M.slots.length := by omega
            have HA3 : Hid _ := HA.out.below hb3
            have HSt : Hid _ := scanC_drop M b (allTo M b) l k hlt3
            go_wp2_with fail
            refine (checkSlot_any M aS aH aF aL cS cH cF cL b j w1.heap.size (allTo M b ++ l.take k) wr HA3.out hok hlt hjs HM3.out).mono ?_
            rintro e w4 ⟨rfl, hb4⟩
            have hbx4 := hb3.trans (hb4.mono hb3.size)
            have HM4 : Hid (MapAt M w4 w1.heap.size (allTo M b ++ l.take k)) := MapAt.kept HM3.out (hb4.block _ (MapAt.lt HM3.out))
            have HB4 : Hid (w4.heap[w.heap.size]? = _) := (hb4.block w.heap.size qs3).trans HB3.out
            have HR4 : Hid _ := HR3.out.below hb4
            have HA4 : Hid _ := HA.out.below hbx4
            clear HM3 HB3 HR3 HA3 hb4 hb3 q0 q1 q2 q3 q4 d0
            by_cases hsc : slotC M b (allTo M b ++ l.take k) j = 0
            · rw [hsc]
              have HV : Hid (scanC M b (allTo M b) l = scanC M b (allTo M b ++ l.take (k + 1)) (l.drop (k + 1))) := HE3.out.trans (HSt.out.trans (by rw [HX.out, if_neg (by simpa using hsc)]))
              have hz := (slotC_zero M b _ _).1 hsc
              have hnk : hasK M (allTo M b ++ l.take k) (keyAt M j) = false := by
                cases hh : hasK M (allTo M b ++ l.take k) (keyAt M j)
                · rfl
                · exact absurd ((hasK_iff _ _ _).1 hh) hz.2
              have HNK : Hid _ := hnk
              clear hz hnk hsc HSt HE3
              obtain ⟨r0, r1, r2, r3, r4, g0, g1, g2, g3, g4, rs⟩ := boxf HB4.out
              clear g0 g1 g2 g3 g4
              have hgood := (slot_good (hok.slot _ (List.getElem_mem hjs))).2.2.1
              rcases HA4.out.s.at_ with h0 | ⟨bs, os, rfl, hcs⟩
              · omega
              obtain ⟨c0, c1, c2, c3, c4, c5⟩ := hcs j hjs
              clear hcs c0 c3 c4 c5
              have hsl : slotAt M j = M.slots[j] := slotAt_lt hjs
              have hkk : keyAt M j = (M.slots[j].a, M.slots[j].b) := by unfold keyAt; rw [hsl]
              have HKK : Hid (keyAt M j = (M.slots[j].a, M.slots[j].b)) := hkk
              have HSL : Hid (slotAt M j = M.slots[j]) := hsl
              clear hkk hsl
              obtain ⟨nn, hnn, D, ho, hat⟩ := HM4.out
              have HO : Hid (w4.ownsMap Try.prog 37 (plainElem Try.prog 3) w1.heap.size nn D) := ho
              have HAT : Hid _ := hat
              obtain ⟨es, clock, hgb⟩ := MapAt.blk HM4.out
              have HGB : Hid _ := hgb
              have hnn2 : nn < 140737488355328 := by
                have h1 := allTo_len M b
                have h2 : b * M.slots.length ≤ 4 * 12 := Nat.mul_le_mul (by omega) n0
                have h3 := hnn
                simp only [List.length_append, List.length_take] at h3
                omega
              clear ho hat hgb
              go_wp2_with (at_mapUpdate; (refine wpList_mapUpdate_own (H := Unit) _ rfl _ _ _ 93 rfl 37 3 law37 under93 (plainElem Try.prog 3) w1.heap.size nn D rfl HO.out (by unfold maxLen; omega) _ _ (kl (M.slots[j].a, M.slots[j].b)) rfl rfl (keyOf_kl (keyB_wf hgood).1 (keyB_wf hgood).2) (.lit (.int .i64 (j : Int))) [] (plainElem_int Try.underlying3 (wf64 (by omega) (by omega))) ?_; intro w5 ho5 hg5))
              have HM5 : Hid (MapAt M w5 w1.heap.size (allTo M b ++ l.take (k + 1))) := by
                have := MapAt.put (a := (j : Int)) hnn HO.out.isMap HAT.out (by rw [HSL.out]; exact hgood) HNK.out (by rw [HKK.out]; exact ho5)
                rw [List.take_succ_eq_append_getElem hlt3, ← List.append_assoc, HX.out]
                exact this
              have HB5 : Hid (w5.heap[w.heap.size]? = some (.cells #[.slice (some ⟨bs, os, none⟩) M.slots.length cS, .slice aH M.heads.length cH, .slice aF M.free.length cF, .slice aL M.locks.length cL, .int .i64 M.now] 29 (0, 0))) := (hg5.block w.heap.size rs (by simp; omega)).trans HB4.out
              have HR5 : Hid (IRow w5 (some ⟨bl, ol, none⟩) cap l) := HR4.out.turn HGB.out (fun k h1 h2 => hg5.block k h1 (by simpa using h2))
              have hb5 : Below w.heap.size w w5 := hbx4.grown hg5 hbx4.size (fun k h => by cases h; omega)
              go_roundw
              case rel => exact ⟨k + 1, by omega, by go_num, HM5, HR5, hb5, HB5, HV⟩
              case measure => simp [intOf]; omega
            · have h' : (slotC M b (allTo M b ++ l.take k) j != 0) = true := by simpa using hsc
              have HV : Hid (Z = slotC M b (allTo M b ++ l.take k) j) := by
                have h1 := HE3.out.trans (HSt.out.trans (by rw [HX.out, if_pos hsc]))
                have := HD.out
                rw [h1, if_pos hsc] at this
                exact this
              have HN : Hid (slotC M b (allTo M b ++ l.take k) j ≠ 0) := hsc
              clear HSt HE3 HD hsc HB4 HR4 HA4 HM4
              generalize slotC M b (allTo M b ++ l.take k) j = E at *
              go_wp2
              go_ret2
              exact ⟨_, by rw [HV.out]; rfl, ⟨fun _ => rfl, fun h => absurd (HV.out ▸ h) HN.out⟩, hbx4⟩
          · have hk' : k = l.length := by omega
            have HV : Hid (Z = chkB M (M.heads.length - (b + 1)) (b + 1) (allTo M (b + 1))) := by
              have h1 := HE3.out.trans (scanC_end M b (allTo M b) l k (by omega))
              have := HD.out
              rw [h1, if_neg (by simp)] at this
              exact this
            have HM6 : Hid (MapAt M wr w1.heap.size (allTo M (b + 1))) := by
              have := HM3.out
              rw [hk', List.take_length, ← HSu.out] at this
              exact this
            go_wp2
            go_roundw
            case rel => exact ⟨b + 1, by omega, by go_num, HM6, hb3, HB3, HV⟩
            case measure => simp [intOf]; omega
    · have hbe : b = M.heads.length := by omega
      have HV : Hid (Z = 0) := HE.out.trans (chkB_end M b (by omega) _)
      have HMf : Hid (MapAt M wr w1.heap.size (allC M)) := by
        have := HM.out
        rw [hbe] at this
        exact this
      go_wp2
      go_ret2
      exact ⟨_, by rw [HV.out]; rfl, ⟨fun h => absurd HV.out h, fun _ => ⟨w1.heap.size, rfl, by omega, HMf.out⟩⟩, hbw⟩


end Go.Proofs.Ytdbilofhcadmoaa.mm
