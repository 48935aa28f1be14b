/- The contracts of the document's own ChainOf and FlowsOf. -/
import Derived.Test.YtdbilofhcadmoaaFlow
namespace Go.Proofs.Ytdbilofhcadmoaa.mm
open Go.ChangeShapes Go.WideShapes Go.ChangeAt Go.RowKit Go.Joins Go.Maps
set_option maxRecDepth 100000
set_option linter.unusedVariables false

theorem At.slotNext {w : World} {bs os : Nat} {aH aF aL : Option Addr} {cS cH cF cL : Nat} {M : Mm} (A : At w (some ⟨bs, os, none⟩) aH aF aL cS cH cF cL M) {j : Nat} (hj : j < M.slots.length) : w.cell? ⟨bs, os + j * 6 + 5, none⟩ = some (.int .i64 M.slots[j].next) := by
  rcases A.s.at_ with h0 | ⟨b, o, e, hc⟩
  · omega
  cases e
  exact (hc j hj).2.2.2.2.2

set_option maxHeartbeats 3200000 in
theorem chainOf_any (M : Mm) (aS aH aF aL : Option Addr) (cS cH cF cL b : Nat) (w : World) (A : At w aS aH aF aL cS cH cF cL M) (hok : Ok M) (hb : b < M.heads.length) :
    Calls Try.prog 40 #[.agg #[.slice aS M.slots.length cS, .slice aH M.heads.length cH, .slice aF M.free.length cF, .slice aL M.locks.length cL, .int .i64 M.now], .int .i64 b] w fun e w' =>
      ∃ ao n cap, e = .returned (.tuple #[.slice ao n cap, .bool (chOk M b)]) ∧ (chOk M b = true → n = (chL M b).length ∧ w'.ownsRow (w.heap.size + 1) 3 1 (.slice ao n cap) n (encI (chL M b))) ∧ Below w.heap.size w w' := by
  have n0 := hok.ns
  have n1 := hok.nh
  obtain ⟨i0, hi, hz0, hz1, hz2⟩ := info_parts iI
  obtain ⟨R, hR⟩ : ∃ R, R = chOk M b := ⟨_, rfl⟩
  rw [← hR]
  have HR : Hid (R = chOk M b) := hR
  clear hR
  obtain ⟨LL, hL⟩ : ∃ LL, LL = chL M b := ⟨_, rfl⟩
  rw [← hL]
  have HL : Hid (LL = chL M b) := hL
  clear hL
  have HA : Hid (At w aS aH aF aL cS cH cF cL M) := A
  have b0 : Below w.heap.size w (w.alloc (.cells #[.slice aS M.slots.length cS, .slice aH M.heads.length cH, .slice aF M.free.length cF, .slice aL M.locks.length cL, .int .i64 M.now] 29)) := one_below w _
  have HB0 : Hid ((w.alloc (.cells #[.slice aS M.slots.length cS, .slice aH M.heads.length cH, .slice aF M.free.length cF, .slice aL M.locks.length cL, .int .i64 M.now] 29)).heap[w.heap.size]? = some (.cells #[.slice aS M.slots.length cS, .slice aH M.heads.length cH, .slice aF M.free.length cF, .slice aL M.locks.length cL, .int .i64 M.now] 29)) := heap_alloc_new _ _
  have hA0 := A.below b0
  clear A
  rcases hA0.h.at_ with h0 | ⟨bh, oh, rfl, hch⟩
  · omega
  have d0 := hch b hb
  clear hA0 hch
  go_enter Try.func40, Try.ntmps40
  go_wp2
  go_loopw [17, 6, 7] (fun i v n wr => ∃ k : Nat, k ≤ M.slots.length + 1 ∧ i = .int .i64 k ∧ ∃ (l : List Int) (x : Int), n = .int .i64 x ∧ x ≤ M.slots.length ∧ l.length = k ∧ Hid (wr.ownsRow (w.heap.size + 1) 3 1 v l.length (encI l)) ∧ Below w.heap.size w wr ∧ Hid (wr.heap[w.heap.size]? = some (.cells #[.slice aS M.slots.length cS, .slice (some ⟨bh, oh, none⟩) M.heads.length cH, .slice aF M.free.length cF, .slice aL M.locks.length cL, .int .i64 M.now] 29 (0, 0))) ∧ Hid ((k ≤ M.slots.length → chL M b = l ++ walkL M.slots (M.slots.length - k) x ∧ chE M b = walkE M.slots (M.slots.length - k) x) ∧ (k = M.slots.length + 1 → chOk M b = false)))
    (fun i _ _ _ => M.slots.length + 1 - (intOf i).toNat)
  case atStart =>
    have hh := hok.headIn hb
    have he : headM M b = M.heads[b] := by simp [headM, List.getD_eq_getElem?_getD, hb]
    rw [he] at hh
    refine ⟨0, Nat.zero_le _, rfl, [], _, rfl, ((inB_iff _ _ _).1 hh.2).2, rfl, World.ownsRow_nil _ _ _ _, b0, HB0, ?_⟩
    rw [← he]
    exact ⟨fun _ => ⟨rfl, rfl⟩, fun h => by omega⟩
  case round =>
    obtain ⟨k, hk, rfl, l, x, rfl, hx, hl, HO, hbw, HB, HE⟩ := hrel
    clear HB0 b0 d0
    obtain ⟨ao, cap, rfl⟩ := own_shape HO.out
    obtain ⟨q0, q1, q2, q3, q4, f0, f1, f2, f3, f4, qs⟩ := boxf HB.out
    clear f0 f1 f2 f3 f4
    by_cases hlt : k < M.slots.length + 1
    · by_cases hx0 : x ≤ 0
      · have HV : Hid (R = (x == -(b : Int) - 1) ∧ LL = l) := by
          have hs := walk_stop (S := M.slots) (k := M.slots.length - k) (.inl hx0)
          obtain ⟨h1, h2⟩ := HE.out.1 (by omega)
          rw [hs.1, List.append_nil] at h1
          rw [hs.2] at h2
          exact ⟨by rw [HR.out, chOk, h2, show -(b : Int) - 1 = -1 - (b : Int) by omega], by rw [HL.out, h1]⟩
        go_wp2
        go_ret2
        refine ⟨ao, l.length, cap, ?_, fun _ => ⟨?_, ?_⟩, hbw⟩
        · rw [HV.out.1]; rfl
        · rw [HV.out.2]
        · rw [HV.out.2]; exact HO.out
      · obtain ⟨j, rfl⟩ : ∃ j : Nat, x = (j : Int) + 1 := ⟨(x - 1).toNat, by omega⟩
        have hj : j < M.slots.length := by omega
        have hj1 : (0 : Int) < (j : Int) + 1 := by omega
        have HE2 : Hid ((k + 1 ≤ M.slots.length → chL M b = (l ++ [(j : Int)]) ++ walkL M.slots (M.slots.length - (k + 1)) M.slots[j].next ∧ chE M b = walkE M.slots (M.slots.length - (k + 1)) M.slots[j].next) ∧ (k + 1 = M.slots.length + 1 → chOk M b = false)) := by
          obtain ⟨h1, h2⟩ := HE.out.1 (by omega)
          refine ⟨fun hk1 => ?_, fun hk1 => ?_⟩
          · have hg := walk_go (S := M.slots) (k := M.slots.length - (k + 1)) hj1
            rw [show M.slots.length - (k + 1) + 1 = M.slots.length - k by omega] at hg
            have hn : nextN M.slots ((j : Int) + 1) = M.slots[j].next := by
              unfold nextN
              rw [show ((j : Int) + 1 - 1).toNat = j by omega, getD_lt _ _ hj]
            rw [hn] at hg
            refine ⟨?_, by rw [h2, hg.2]⟩
            rw [h1, hg.1, List.append_assoc, show (j : Int) + 1 - 1 = j by omega]
            rfl
          · rw [show M.slots.length - k = 0 by omega] at h2
            have h3 : walkE M.slots 0 ((j : Int) + 1) = (j : Int) + 1 := rfl
            rw [h3] at h2
            unfold chOk
            rw [h2]
            simp; omega
        have hnx := ((inB_iff _ _ _).1 (slot_good (hok.slot _ (List.getElem_mem hj))).2.2.2).2
        have hA2 := HA.out.below hbw
        rcases hA2.s.at_ with h0 | ⟨bs, os, rfl, hcs⟩
        · omega
        have c5 := (hcs j hj).2.2.2.2.2
        have lc5 := cell_lt c5
        clear hA2 hcs HE
        go_wp2_with (at_builtin; refine wpList_append_own_at _ rfl (.tmp 27) (.tmp 30) 24 rfl (w.heap.size + 1) 3 i0 (.int .i64 0) 1 8 Try.underlying24 hi hz0 hz1 hz2 rfl (by decide) _ _ _ rfl (World.ownsRow.alloc HO.out _) ⟨wr.heap.size, 0, none⟩ 1 1 [.int .i64 (j : Int)] rfl rfl (cell_one_new _ _ _) (by intro u hu; simp at hu; subst hu; rfl) (by unfold maxLen; omega) (by omega) (by simp; omega) ?_; intro v2 w2 ho2 hg2 _ hloc2; obtain ⟨g2, cap2, rfl⟩ := ownsRow_form ho2 (by omega); have HO2 : Hid (w2.ownsRow (w.heap.size + 1) 3 1 (.slice (some ⟨g2, 0, none⟩) (l.length + 1) cap2) (l.length + 1) (encI l ++ [.int .i64 (j : Int)])) := ho2; have hb2 : Below w.heap.size w w2 := (hbw.alloc hbw.size _).grown hg2 (by simp; have := hbw.size; omega) (fun q hq => by have := (World.ownsRow.lt HO.out q hq).1; omega); have HB2 : Hid (w2.heap[w.heap.size]? = some (.cells #[.slice (some ⟨bs, os, none⟩) M.slots.length cS, .slice (some ⟨bh, oh, none⟩) M.heads.length cH, .slice aF M.free.length cF, .slice aL M.locks.length cL, .int .i64 M.now] 29 (0, 0))) := box_kept HB.out hg2 (own_ne HO.out HB.out (by decide)); have d5 : w2.cell? ⟨bs, os + j * 6 + 5, none⟩ = some (.int .i64 M.slots[j].next) := (HA.out.below hb2).slotNext hj; clear ho2 hg2 hloc2 q0 q1 q2 q3 q4 qs c5 lc5; obtain ⟨q0, q1, q2, q3, q4, f0, f1, f2, f3, f4, qs⟩ := boxf HB2.out; clear f0 f1 f2 f3 f4)
        go_roundw
        case rel => exact ⟨k + 1, by omega, by go_num, l ++ [(j : Int)], _, rfl, hnx, by simp [hl], by rw [show (l ++ [(j : Int)]).length = l.length + 1 by simp, show encI (l ++ [(j : Int)]) = encI l ++ [.int .i64 (j : Int)] by simp [encI], ← hl]; exact HO2, hb2, HB2, HE2⟩
        case measure => simp [intOf]; omega
    · have hke : k = M.slots.length + 1 := by omega
      have HV : Hid (R = false) := HR.out.trans (HE.out.2 hke)
      go_wp2
      go_ret2
      exact ⟨none, 0, 0, by rw [HV.out]; rfl, (fun h => by rw [HV.out] at h; cases h), hbw⟩

set_option maxHeartbeats 6400000 in
theorem flowsOf_any (M : Mm) (aS aH aF aL : Option Addr) (cS cH cF cL : Nat) (w : World) (A : At w aS aH aF aL cS cH cF cL M) (hokc : OkC M) :
    Calls Try.prog 39 #[.agg #[.slice aS M.slots.length cS, .slice aH M.heads.length cH, .slice aF M.free.length cF, .slice aL M.locks.length cL, .int .i64 M.now]] w fun e w' =>
      ∃ ao cap, e = .returned (.slice ao ((allC M).map (flowAt M)).length cap) ∧ FRow w' ao cap ((allC M).map (flowAt M)) ∧ Below w.heap.size w w' := by
  have hok := hokc.ok
  have n0 := hok.ns
  have n1 := hok.nh
  obtain ⟨i0, hi, hz0, hz1, hz2⟩ := info_parts iF
  have hlen0 := allTo_len M M.heads.length
  have hal0 : M.heads.length * M.slots.length ≤ 4 * 12 := Nat.mul_le_mul (by omega) n0
  obtain ⟨LL, hLL⟩ : ∃ LL, LL = (allC M).map (flowAt M) := ⟨_, rfl⟩
  rw [← hLL]
  have HLL : Hid (LL = (allC M).map (flowAt M)) := hLL
  clear hLL
  have HA : Hid (At w aS aH aF aL cS cH cF cL M) := A
  have b0 : Below w.heap.size w (w.alloc (.cells #[.slice aS M.slots.length cS, .slice aH M.heads.length cH, .slice aF M.free.length cF, .slice aL M.locks.length cL, .int .i64 M.now] 29)) := one_below w _
  have HB0 : Hid ((w.alloc (.cells #[.slice aS M.slots.length cS, .slice aH M.heads.length cH, .slice aF M.free.length cF, .slice aL M.locks.length cL, .int .i64 M.now] 29)).heap[w.heap.size]? = some (.cells #[.slice aS M.slots.length cS, .slice aH M.heads.length cH, .slice aF M.free.length cF, .slice aL M.locks.length cL, .int .i64 M.now] 29)) := heap_alloc_new _ _
  clear A
  go_enter Try.func39, Try.ntmps39
  go_wp2
  go_loopw [12, 3] (fun i v wr => ∃ b : Nat, b ≤ M.heads.length ∧ i = .int .i64 b ∧ Hid (wr.ownsRow (w.heap.size + 1) 65 4 v ((allTo M b).map (flowAt M)).length (encF ((allTo M b).map (flowAt M)))) ∧ Below w.heap.size w wr ∧ Hid (wr.heap[w.heap.size]? = some (.cells #[.slice aS M.slots.length cS, .slice aH M.heads.length cH, .slice aF M.free.length cF, .slice aL M.locks.length cL, .int .i64 M.now] 29 (0, 0))))
    (fun i _ _ => M.heads.length - (intOf i).toNat)
  case atStart => exact ⟨0, Nat.zero_le _, rfl, World.ownsRow_nil _ _ _ _, b0, HB0⟩
  case round =>
    obtain ⟨b, hb, rfl, HO, hbw, HB⟩ := hrel
    clear HB0 b0
    obtain ⟨q0, q1, q2, q3, q4, f0, f1, f2, f3, f4, qs⟩ := boxf HB.out
    clear f0 f1 f2 f3 f4
    by_cases hlt : b < M.heads.length
    · have HA1 : Hid _ := HA.out.below hbw
      have hal := allTo_len M b
      have hal2 : b * M.slots.length ≤ 4 * 12 := Nat.mul_le_mul (by omega) n0
      go_wp2_with fail
      refine (chainOf_any M aS aH aF aL cS cH cF cL b wr HA1.out hok hlt).mono ?_
      rintro e w2 ⟨ao, n, cap, rfl, hr, hb2⟩
      have hc : chOk M b = true := (chOk_iff M b).2 (hokc.ends b hlt)
      obtain ⟨rfl, hrow⟩ := hr hc
      rw [hc]
      have hbx := hbw.trans (hb2.mono hbw.size)
      have HO2 : Hid (w2.ownsRow (w.heap.size + 1) 65 4 _ ((allTo M b).map (flowAt M)).length (encF ((allTo M b).map (flowAt M)))) := own_below HO.out hb2
      have HB2 : Hid (w2.heap[w.heap.size]? = _) := (hb2.block w.heap.size qs).trans HB.out
      have HRow : Hid (w2.ownsRow (wr.heap.size + 1) 3 1 (.slice ao (chL M b).length cap) (chL M b).length (encI (chL M b))) := hrow
      have HIn : Hid _ := hok.chIn hlt
      have hlen : (chL M b).length ≤ 12 := Nat.le_trans (walkL_len _ _ _) n0
      have HSu : Hid (allTo M (b + 1) = allTo M b ++ chL M b) := allTo_succ M b
      clear hrow hr hc hb2 HO HB hbw q0 q1 q2 q3 q4 qs HA1
      generalize chL M b = l at *
      generalize allTo M b = al at *
      generalize wr.heap.size + 1 = lw at HRow
      go_wp2
      go_loopw [23, 3] (fun i v wr => ∃ k : Nat, k ≤ l.length ∧ i = .int .i64 k ∧ Hid (wr.ownsRow (w.heap.size + 1) 65 4 v ((al ++ l.take k).map (flowAt M)).length (encF ((al ++ l.take k).map (flowAt M)))) ∧ Hid (wr.ownsRow lw 3 1 (.slice ao l.length cap) l.length (encI l)) ∧ Below w.heap.size w wr ∧ Hid (wr.heap[w.heap.size]? = some (.cells #[.slice aS M.slots.length cS, .slice aH M.heads.length cH, .slice aF M.free.length cF, .slice aL M.locks.length cL, .int .i64 M.now] 29 (0, 0))))
        (fun i _ _ => l.length - (intOf i).toNat)
      case atStart => exact ⟨0, Nat.zero_le _, rfl, by rw [List.take_zero, List.append_nil]; exact HO2, HRow, hbx, HB2⟩
      case round =>
        obtain ⟨k, hk, rfl, HO3, HR3, hb3, HB3⟩ := hrel
        clear HO2 HRow hbx HB2
        obtain ⟨q0, q1, q2, q3, q4, f0, f1, f2, f3, f4, qs⟩ := boxf HB3.out
        clear f0 f1 f2 f3 f4
        by_cases hlt3 : k < l.length
        · obtain ⟨ax, cx, hax, hir⟩ := IRow.of_own HR3.out (by omega)
          simp only [Value.slice.injEq, true_and] at hax
          obtain ⟨rfl, rfl⟩ := hax
          rcases hir.at_ with h0 | ⟨bl, ol, rfl, hcl⟩
          · omega
          have d0 := hcl k hlt3
          have hin := HIn.out l[k] (List.getElem_mem hlt3)
          obtain ⟨j, hj⟩ : ∃ j : Nat, l[k] = j := ⟨(l[k]).toNat, by omega⟩
          have HX : Hid (l[k] = j) := hj
          rw [hj] at d0 hin
          clear hj hcl hir
          have hjs : j < M.slots.length := by omega
          have hA3 := HA.out.below hb3
          rcases hA3.s.at_ with h0 | ⟨bs, os, rfl, hcs⟩
          · omega
          obtain ⟨s0, s1, s2, s3, s4, s5⟩ := hcs j hjs
          clear hA3 hcs s0 s4 s5
          have hsl : slotAt M j = M.slots[j] := slotAt_lt hjs
          generalize hM : M.slots[j] = sj at s1 s2 s3 hsl
          obtain ⟨r, ka, kb, u, ii, nx⟩ := sj
          dsimp only at s1 s2 s3
          have HFl : Hid (flowAt M j = ⟨ka, kb, j, u⟩) := by unfold flowAt; rw [hsl]; rfl
          clear hM hsl
          have hlk : ((al ++ l.take k).map (flowAt M)).length ≤ 100 := by
            simp only [List.length_map, List.length_append, List.length_take]
            omega
          have HT : Hid ((al ++ l.take (k + 1)).map (flowAt M) = (al ++ l.take k).map (flowAt M) ++ [flowAt M j]) := by
            show _ = _
            rw [List.take_succ_eq_append_getElem hlt3, ← List.append_assoc, List.map_append, HX.out]
            rfl
          generalize (al ++ l.take k).map (flowAt M) = fl at *
          obtain ⟨fo, fcap, rfl⟩ := own_shape HO3.out
          have HOX : Hid (((wr.alloc (.cells #[.int .i64 ka, .int .i64 kb, .int .i64 (j : Int), .int .i64 u] 65)).drew).ownsRow (w.heap.size + 1) 65 4 (.slice fo fl.length fcap) fl.length (encF fl)) := (World.ownsRow.alloc HO3.out (.cells #[.int .i64 ka, .int .i64 kb, .int .i64 (j : Int), .int .i64 u] 65) : (wr.alloc (.cells #[.int .i64 ka, .int .i64 kb, .int .i64 (j : Int), .int .i64 u] 65)).ownsRow (w.heap.size + 1) 65 4 (.slice fo fl.length fcap) fl.length (encF fl))
          have HCX : Hid (∀ q y, (Fl.enc ⟨ka, kb, j, u⟩)[q]? = some y → ((wr.alloc (.cells #[.int .i64 ka, .int .i64 kb, .int .i64 (j : Int), .int .i64 u] 65)).drew).cell? ((⟨wr.heap.size, 0, none⟩ : Addr).add q) = some y) := fun q y h => four_new wr ⟨ka, kb, j, u⟩ q y h
          have hbs := hb3.size
          go_wp2_with fail
          go_region_law (refine step_append_own_at _ rfl (.tmp 27) (.tmp 42) 60 rfl (w.heap.size + 1) 65 i0 (.agg #[.int .i64 0, .int .i64 0, .int .i64 0, .int .i64 0]) 4 32 Try.underlying60 hi hz0 hz1 hz2 rfl (by decide) (.slice fo fl.length fcap) _ _ rfl HOX.out ⟨wr.heap.size, 0, none⟩ 1 1 (Fl.enc ⟨ka, kb, j, u⟩) rfl rfl HCX.out (by intro x hx; simp only [Fl.enc, List.mem_cons, List.not_mem_nil, or_false] at hx; rcases hx with rfl | rfl | rfl | rfl <;> rfl) (by unfold maxLen; omega) (by omega) (by simp; omega) ?_; intro v2 w2 ho2 hg2 _ hloc2; obtain ⟨g2, cap2, rfl⟩ := ownsRow_form ho2 (by omega); have HO5 : Hid (w2.ownsRow (w.heap.size + 1) 65 4 (.slice (some ⟨g2, 0, none⟩) (fl.length + 1) cap2) (fl.length + 1) (encF fl ++ Fl.enc ⟨ka, kb, j, u⟩)) := ho2; have HG5 : Hid ((wr.alloc (.cells #[.int .i64 ka, .int .i64 kb, .int .i64 (j : Int), .int .i64 u] 65)).grownBy w2 (Value.slice fo fl.length fcap).ownBlock) := ⟨hg2.1, hg2.2, hg2.3, hg2.4, hg2.5⟩; clear ho2 hg2 hloc2)
          all_goals
            have hb5 : Below w.heap.size w w2 := (hb3.alloc hb3.size _).grown HG5.out (by simp; omega) (fun q hq => by have := (World.ownsRow.lt HO3.out q hq).1; omega)
            have HB5 : Hid (w2.heap[w.heap.size]? = some (.cells #[.slice (some ⟨bs, os, none⟩) M.slots.length cS, .slice aH M.heads.length cH, .slice aF M.free.length cF, .slice aL M.locks.length cL, .int .i64 M.now] 29 (0, 0))) := box_kept HB3.out HG5.out (own_ne HO3.out HB3.out (by decide))
            have HR5 : Hid (w2.ownsRow lw 3 1 (.slice (some ⟨bl, ol, none⟩) l.length cap) l.length (encI l)) := (World.ownsRow.alloc HR3.out _).kept HG5.out (own_dj HR3.out HO3.out (by decide)).ne
            clear q0 q1 q2 q3 q4 qs d0 s1 s2 s3
            go_wp2
            go_roundw
            (case rel => exact ⟨k + 1, by omega, by go_num, by rw [HT.out, show (fl ++ [flowAt M j]).length = fl.length + 1 by simp, show encF (fl ++ [flowAt M j]) = encF fl ++ Fl.enc ⟨ka, kb, j, u⟩ by simp [encF, HFl.out]]; exact HO5, HR5, hb5, HB5⟩)
            (case measure => simp [intOf]; omega)
        · have hk' : k = l.length := by omega
          have HO6 : Hid (wr.ownsRow (w.heap.size + 1) 65 4 u3 ((allTo M (b + 1)).map (flowAt M)).length (encF ((allTo M (b + 1)).map (flowAt M)))) := by
            have := HO3.out
            rw [hk', List.take_length, ← HSu.out] at this
            exact this
          go_wp2
          go_roundw
          case rel => exact ⟨b + 1, by omega, by go_num, HO6, hb3, HB3⟩
          case measure => simp [intOf]; omega
    · obtain rfl : b = M.heads.length := by omega
      obtain ⟨fo, fcap, rfl, hrow⟩ := FRow.of_own HO.out (by rw [List.length_map]; omega)
      have HR : Hid (FRow wr fo fcap ((allC M).map (flowAt M))) := hrow
      clear hrow HO
      have HLn : Hid (LL.length = ((allTo M M.heads.length).map (flowAt M)).length) := by rw [HLL.out]; rfl
      go_wp2
      go_ret
      refine ⟨fo, fcap, ?_, ?_, hbw⟩
      · rw [HLn.out]
        simp
      · rw [HLL.out]; exact HR.out


end Go.Proofs.Ytdbilofhcadmoaa.mm
