/- The contract of the document's own NewMem. -/
import Derived.Test.YtdbilofhcadmoaaNew
namespace Go.Proofs.Ytdbilofhcadmoaa.mm
open Go.ChangeShapes Go.WideShapes Go.ChangeAt Go.RowKit Go.Joins
set_option maxRecDepth 100000
set_option linter.unusedVariables false

def slotTo (k : Nat) : List Sl := List.replicate k sl0
theorem slotTo_succ (k : Nat) : slotTo (k + 1) = slotTo k ++ [sl0] := by simp [slotTo, List.replicate_succ']
theorem slotTo_len (k : Nat) : (slotTo k).length = k := by simp [slotTo]

theorem six_new (w : World) (n : Nat) (hn : n = w.heap.size) : ∀ (j : Nat) (u : Value), (sl0.enc)[j]? = some u → (w.alloc (.cells #[.int .i64 0, .int .i64 0, .int .i64 0, .int .i64 0, .bool false, .int .i64 0] 48)).cell? ((⟨n, 0, none⟩ : Addr).add j) = some u := by
  subst hn
  intro j u hj
  rw [Addr.add_lit, cell_of_block (heap_alloc_new w _), Nat.zero_add]
  rw [← hj]
  simp [sl0, Sl.enc]

set_option maxHeartbeats 3200000 in
theorem rnew_ok (n m : Nat) (w : World) (hn : n ≤ 12) (h1 : 1 ≤ m) (h4 : m ≤ 4) :
    Calls Try.prog 19 #[.int .i64 n, .int .i64 m] w fun e w' => ∃ v, e = .returned v ∧ Ans w.heap.size w' v (newM n m) ∧ Below w.heap.size w w' := by
  obtain ⟨i0, hi, hz0, hz1, hz2⟩ := info_parts iI
  obtain ⟨j0, hj, yz0, yz1, yz2⟩ := info_parts iS
  obtain ⟨W0, hW0⟩ : ∃ W0, W0 = w.alloc (.cells #[.slice none 0 0, .slice none 0 0, .slice none 0 0, .slice none 0 0, .int .i64 0] 29) := ⟨_, rfl⟩
  have HR : Hid (W0.heap[w.heap.size]? = some (.cells #[.slice none 0 0, .slice none 0 0, .slice none 0 0, .slice none 0 0, .int .i64 0] 29)) := by rw [hW0]; exact heap_alloc_new _ _
  have HW : Hid (Below w.heap.size w W0) := by rw [hW0]; exact one_below _ _
  have hz : W0.heap.size = w.heap.size + 1 := by rw [hW0]; simp
  have G0 : Gr W0 (w.heap.size + 1) (w.heap.size + 1) (W0.alloc (.cells #[.slice none 0 0, .slice none 0 0, .slice none 0 0, .slice none 0 0, .int .i64 0] 29)) (.slice none 0 0) (.slice none 0 0) (.slice none 0 0) (.slice none 0 0) [] [] [] [] :=
    ⟨by have := heap_alloc_new W0 (.cells #[.slice none 0 0, .slice none 0 0, .slice none 0 0, .slice none 0 0, .int .i64 0] 29); rwa [hz] at this, World.ownsRow_nil _ _ _ _, World.ownsRow_nil _ _ _ _, World.ownsRow_nil _ _ _ _, World.ownsRow_nil _ _ _ _, (fun g h => by cases h), (fun g h => by cases h), (fun g h => by cases h), Nat.le_refl _, (Below.refl _ _).alloc (by omega) _⟩
  clear hz
  go_enter Try.func19, Try.ntmps19
  go_wp2
  rw [← hW0]
  clear hW0
  go_loopw [6] (fun i wr => ∃ k : Nat, k ≤ n ∧ i = .int .i64 ((n : Int) - 1 - (k : Int)) ∧ ∃ sv fv, Gr W0 (w.heap.size + 1) (w.heap.size + 1) wr sv (.slice none 0 0) fv (.slice none 0 0) (slotTo k) [] (freeTo n k) [])
    (fun i _ => (intOf i + 1).toNat)
  case atStart => exact ⟨0, Nat.zero_le _, by simp, _, _, G0⟩
  case round =>
    obtain ⟨k, hk, rfl, sv, fv, G⟩ := hrel
    clear G0
    obtain ⟨ao, cap, rfl⟩ := own_shape G.f
    obtain ⟨aZ, cZ, rfl⟩ := own_shape G.s
    rw [freeTo_len, slotTo_len] at G
    obtain ⟨q0, q1, q2, q3, q4, f0, f1, f2, f3, f4, qs⟩ := boxf G.box
    by_cases hlt : k < n
    · have i1 : 0 ≤ (n : Int) - 1 - (k : Int) := by omega
      go_wp2_with (first
        | (at_builtin; refine wpList_append_own_at _ rfl (.tmp 15) (.tmp 17) 24 rfl (w.heap.size + 1) 3 i0 (.int .i64 0) 1 8 Try.underlying24 hi hz0 hz1 hz2 rfl (by decide) _ _ _ rfl (G.f.alloc _) ⟨wr.heap.size, 0, none⟩ 1 1 [.int .i64 ((n : Int) - 1 - (k : Int))] rfl rfl (one_new _ _ _ _ rfl) (by intro u hu; simp at hu; subst hu; rfl) (by rw [freeTo_len]; unfold maxLen; omega) (by rw [freeTo_len]; omega) (by simp; omega) ?_; intro v2 w2 ho2 hg2 _ hloc2; obtain ⟨g2, cap2, rfl⟩ := ownsRow_form ho2 (by omega); have HG2 : Hid ((wr.alloc (.cells #[.int .i64 ((n : Int) - 1 - (k : Int))] 3)).grownBy w2 (Value.slice ao k cap).ownBlock) := hg2; have G3 := G.f_step (x := (n : Int) - 1 - (k : Int)) ho2 HG2.out hloc2; clear ho2 hg2 hloc2; clear q0 q1 q2 q3 q4 f0 f1 f2 f3 f4; obtain ⟨q0, q1, q2, q3, q4, f0, f1, f2, f3, f4, qsx⟩ := boxf (box_kept G.box HG2.out (own_ne G.f G.box (by decide))); have z2 : w.heap.size + 1 < w2.heap.size := qsx)
        | (at_builtin; refine wpList_append_own_at _ rfl (.tmp 21) (.tmp 23) 27 rfl (w.heap.size + 1) 48 j0 (.agg #[.int .i64 0, .int .i64 0, .int .i64 0, .int .i64 0, .bool false, .int .i64 0]) 6 48 Try.underlying27 hj yz0 yz1 yz2 rfl (by decide) _ _ _ rfl (G3.s.alloc _) ⟨w2.heap.size, 0, none⟩ 1 1 sl0.enc rfl rfl (six_new _ _ (World.size_setCell ..).symm) (by intro u hu; simp only [Sl.enc, sl0, List.mem_cons, List.not_mem_nil, or_false] at hu; rcases hu with rfl | rfl | rfl | rfl | rfl | rfl <;> rfl) (by rw [slotTo_len]; unfold maxLen; omega) (by rw [slotTo_len]; omega) (by simp; omega) ?_; intro v3 w3 ho3 hg3 _ hloc3; obtain ⟨g3, cap3, rfl⟩ := ownsRow_form ho3 (by omega); have HG3 : Hid (((w2.setCell ⟨w.heap.size + 1, 2, none⟩ (.slice (some ⟨g2, 0, none⟩) ((freeTo n k).length + 1) cap2)).alloc (.cells #[.int .i64 0, .int .i64 0, .int .i64 0, .int .i64 0, .bool false, .int .i64 0] 48)).grownBy w3 (Value.slice aZ k cZ).ownBlock) := hg3; have G4 := G3.s_step (x := sl0) ho3 HG3.out hloc3; clear ho3 hg3 hloc3; clear q0 q1 q2 q3 q4 f0 f1 f2 f3 f4; obtain ⟨q0, q1, q2, q3, q4, f0, f1, f2, f3, f4, qsy⟩ := boxf (box_kept G3.box HG3.out (own_ne G3.s G3.box (by decide)))))
      go_roundw
      case rel => exact ⟨k + 1, by omega, by go_num, _, _, by rw [freeTo_succ, slotTo_succ]; exact G4⟩
      case measure => simp [intOf]; omega
    · obtain rfl : k = n := by omega
      have i1 : (k : Int) - 1 - (k : Int) < 0 := by omega
      go_wp2
      go_loopw [7] (fun i wr => ∃ j : Nat, j ≤ m ∧ i = .int .i64 ((j : Int) + 1) ∧ ∃ hv lv, Gr W0 (w.heap.size + 1) (w.heap.size + 1) wr (.slice aZ k cZ) hv (.slice ao k cap) lv (slotTo k) (headTo j) (freeTo k k) (lockTo j))
        (fun i _ => (m + 1) - (intOf i).toNat)
      case atStart => exact ⟨0, Nat.zero_le _, by simp, _, _, G⟩
      case round =>
        obtain ⟨j, hj', rfl, hv, lv, G2⟩ := hrel
        clear G q0 q1 q2 q3 q4 f0 f1 f2 f3 f4 qs
        obtain ⟨aH, cH, rfl⟩ := own_shape G2.h
        obtain ⟨aL, cL, rfl⟩ := own_shape G2.l
        rw [headTo_len, lockTo_len] at G2
        obtain ⟨q0, q1, q2, q3, q4, f0, f1, f2, f3, f4, qs⟩ := boxf G2.box
        by_cases hlt2 : j < m
        · have eV : -((j : Int) + 1) = -1 - (j : Int) := by omega
          have HEV : Hid _ := eV
          clear eV
          go_wp2_with (first
            | (at_builtin; ((refine wpList_append_own_at _ rfl (.tmp 32) (.tmp 35) 24 rfl (w.heap.size + 1) 3 i0 (.int .i64 0) 1 8 Try.underlying24 hi hz0 hz1 hz2 rfl (by decide) _ _ _ rfl (G2.h.alloc _) ⟨wr.heap.size, 0, none⟩ 1 1 [.int .i64 (-((j : Int) + 1))] rfl rfl (one_new _ _ _ _ rfl) (by intro u hu; simp at hu; subst hu; rfl) (by rw [headTo_len]; unfold maxLen; omega) (by rw [headTo_len]; omega) (by simp; omega) ?_; intro v2 w2 ho2 hg2 _ hloc2; obtain ⟨g2, cap2, rfl⟩ := ownsRow_form ho2 (by omega); have HG2 : Hid ((wr.alloc (.cells #[.int .i64 (-((j : Int) + 1))] 3)).grownBy w2 (Value.slice aH j cH).ownBlock) := hg2; have G3 := G2.h_step (x := -((j : Int) + 1)) ho2 HG2.out hloc2; clear ho2 hg2 hloc2; clear q0 q1 q2 q3 q4 f0 f1 f2 f3 f4; obtain ⟨q0, q1, q2, q3, q4, f0, f1, f2, f3, f4, qsx⟩ := boxf (box_kept G2.box HG2.out (own_ne G2.h G2.box (by decide))); have z2 : w.heap.size + 1 < w2.heap.size := qsx)))
            | (at_builtin; refine wpList_append_own_at _ rfl (.tmp 39) (.tmp 40) 24 rfl (w.heap.size + 1) 3 i0 (.int .i64 0) 1 8 Try.underlying24 hi hz0 hz1 hz2 rfl (by decide) _ _ _ rfl (G3.l.alloc _) ⟨w2.heap.size, 0, none⟩ 1 1 [.int .i64 (-1)] rfl rfl (one_new _ _ _ _ (World.size_setCell ..).symm) (by intro u hu; simp at hu; subst hu; rfl) (by rw [lockTo_len]; unfold maxLen; omega) (by rw [lockTo_len]; omega) (by simp; omega) ?_; intro v3 w3 ho3 hg3 _ hloc3; obtain ⟨g3, cap3, rfl⟩ := ownsRow_form ho3 (by omega); have HG3 : Hid (((w2.setCell ⟨w.heap.size + 1, 1, none⟩ (.slice (some ⟨g2, 0, none⟩) ((headTo j).length + 1) cap2)).alloc (.cells #[.int .i64 (-1)] 3)).grownBy w3 (Value.slice aL j cL).ownBlock) := hg3; have G4 := G3.l_step (x := -1) ho3 HG3.out hloc3; clear ho3 hg3 hloc3; clear q0 q1 q2 q3 q4 f0 f1 f2 f3 f4; obtain ⟨q0, q1, q2, q3, q4, f0, f1, f2, f3, f4, qsy⟩ := boxf (box_kept G3.box HG3.out (own_ne G3.l G3.box (by decide)))))
          go_roundw
          case rel => exact ⟨j + 1, by omega, by go_num, _, _, by rw [headTo_succ, lockTo_succ, ← HEV.out]; exact G4⟩
          case measure => simp [intOf]; omega
        · obtain rfl : j = m := by omega
          have HR2 : Hid (wr.heap[w.heap.size]? = _) := (G2.below.block w.heap.size (by omega)).trans HR.out
          obtain ⟨r0, r1, r2, r3, r4, g0, g1, g2, g3, g4, rs⟩ := boxf HR2.out
          have A := G2.ans (by rw [slotTo_len]; omega) (by rw [headTo_len]; omega) (by rw [freeTo_len]; omega) (by rw [lockTo_len]; omega)
          have HA : Hid (Ans (w.heap.size + 1) wr _ _) := A
          have HB : Hid (Below w.heap.size w wr) := HW.out.trans (G2.below.mono (by omega))
          clear A G2
          go_wp2
          refine bodyPost_ret (v := .agg #[.slice aZ k cZ, .slice aH j cH, .slice ao k cap, .slice aL j cL, .int .i64 0]) (by simp [results, Try.results19, go_sem, r0, r1, r2, r3, r4]) rfl ⟨_, rfl, ?_, ?_⟩
          · exact (HA.out.off (by omega) (fun k hk => set5_other (w := wr) hk)).mono (by omega)
          · exact HB.out.trans (set5_below wr _ _ _ _ _ _ _ (by omega))


end Go.Proofs.Ytdbilofhcadmoaa.mm
