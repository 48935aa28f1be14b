/- The contract of New. -/
import Derived.Test.YtdbilofhcadmoaaGrow
import Derived.Test.YtdbilofhcadmoaaSmall
namespace Go.Proofs.Ytdbilofhcadmoaa.mm
open Go.ChangeShapes Go.WideShapes Go.ChangeAt Go.RowKit Go.Joins
set_option linter.unusedVariables false

theorem new_bad (a b : Int) (w : World) (h : newE a b = 3) :
    Calls Try.prog 13 #[.int .i64 a, .int .i64 b] w fun e w' => e = .returned (.tuple #[.agg #[.slice none 0 0, .slice none 0 0, .slice none 0 0, .slice none 0 0, .int .i64 0], .int .i64 3]) ∧ Below w.heap.size w w' := by
  have hh : inB a 0 12 = false ∨ (inB a 0 12 = true ∧ inB b 1 4 = false) := by
    unfold newE at h
    cases h1 : inB a 0 12
    · exact .inl rfl
    · cases h2 : inB b 1 4
      · exact .inr ⟨rfl, rfl⟩
      · simp [h1, h2] at h
  clear h
  rcases hh with h1 | ⟨h1, h2⟩
  all_goals
    go_enter Try.func13, Try.ntmps13
    go_wp2_with (go_at_call 56; refine (within_any _ _ _ _).mono ?_; rintro e w1 ⟨rfl, rfl⟩)
    exact bodyPost_ret (v := .tuple #[.agg #[.slice none 0 0, .slice none 0 0, .slice none 0 0, .slice none 0 0, .int .i64 0], .int .i64 3]) (by simp [results, Try.results13, go_sem]) rfl ⟨rfl, one_below _ _⟩

def freeTo (n k : Nat) : List Int := (List.range k).map fun (a : Nat) => (n : Int) - 1 - (a : Int)
def headTo (k : Nat) : List Int := (List.range k).map fun (b : Nat) => -1 - (b : Int)
def lockTo (k : Nat) : List Int := List.replicate k (-1)
theorem freeTo_succ (n k : Nat) : freeTo n (k + 1) = freeTo n k ++ [(n : Int) - 1 - k] := by simp [freeTo, List.range_succ]
theorem headTo_succ (k : Nat) : headTo (k + 1) = headTo k ++ [-1 - (k : Int)] := by simp [headTo, List.range_succ]
theorem lockTo_succ (k : Nat) : lockTo (k + 1) = lockTo k ++ [-1] := by simp [lockTo, List.replicate_succ']
theorem freeTo_len (n k : Nat) : (freeTo n k).length = k := by simp [freeTo]
theorem headTo_len (k : Nat) : (headTo k).length = k := by simp [headTo]
theorem lockTo_len (k : Nat) : (lockTo k).length = k := by simp [lockTo]

theorem made_zero (n : Nat) : (madeCells #[.int .i64 0, .int .i64 0, .int .i64 0, .int .i64 0, .bool false, .int .i64 0] (n * 6)).toList = encS (List.replicate n sl0) := by
  apply List.ext_getElem?
  intro j
  by_cases hj : j < n * 6
  · have h6 : j / 6 < n := by omega
    have hq : j % 6 < 6 := by omega
    have e6 : j / 6 * 6 + j % 6 = j := by omega
    have r : (encS (List.replicate n sl0))[j]? = (sl0.enc)[j % 6]? := by
      have := encS_get (List.replicate n sl0) (j / 6) (j % 6) (by simpa using h6) hq
      rw [e6] at this
      rw [this]
      simp
    rw [r]
    have l : (madeCells #[.int .i64 0, .int .i64 0, .int .i64 0, .int .i64 0, .bool false, .int .i64 0] (n * 6)).toList[j]? = some ((#[.int .i64 0, .int .i64 0, .int .i64 0, .int .i64 0, .bool false, .int .i64 0] : Array Value)[j % 6]!) := by
      simp [madeCells, hj]
    rw [l]
    generalize j % 6 = q at hq
    match q, hq with
    | 0, _ => rfl
    | 1, _ => rfl
    | 2, _ => rfl
    | 3, _ => rfl
    | 4, _ => rfl
    | 5, _ => rfl
  · rw [List.getElem?_eq_none (by simp [madeCells]; omega), List.getElem?_eq_none (by rw [encS_len]; simp; omega)]

theorem Ans.off {lo g : Nat} {w w' : World} {v : Value} {M : Mm} (A : Ans lo w v M) (hg : g < lo) (h : ∀ k, k ≠ g → w'.heap[k]? = w.heap[k]?) : Ans lo w' v M := by
  obtain ⟨aS, aH, aF, aL, cS, cH, cF, cL, e, A, hi⟩ := A
  exact ⟨aS, aH, aF, aL, cS, cH, cF, cL, e, A.off hi hg h, hi⟩

set_option maxHeartbeats 3200000 in
theorem new_ok (n m : Nat) (w : World) (hn : n ≤ 12) (h1 : 1 ≤ m) (h4 : m ≤ 4) :
    Calls Try.prog 13 #[.int .i64 n, .int .i64 m] w fun e w' => ∃ v, e = .returned (.tuple #[v, .int .i64 0]) ∧ Ans w.heap.size w' v (newM n m) ∧ Below w.heap.size w w' := by
  obtain ⟨i0, hi, hz0, hz1, hz2⟩ := info_parts iI
  obtain ⟨j0, hj, yz0, yz1, yz2⟩ := info_parts iS
  have e1 : inB (n : Int) 0 12 = true := (inB_iff _ _ _).2 ⟨by omega, by omega⟩
  have e2 : inB (m : Int) 1 4 = true := (inB_iff _ _ _).2 ⟨by omega, by omega⟩
  go_enter Try.func13, Try.ntmps13
  go_wp2_with (first
    | (go_at_call 56; refine (within_any _ _ _ _).mono ?_; rintro e w1 ⟨rfl, rfl⟩)
    | (at_make; refine wpList_make_full _ rfl _ _ 27 rfl (w.heap.size + 1) 48 j0 (.agg #[.int .i64 0, .int .i64 0, .int .i64 0, .int .i64 0, .bool false, .int .i64 0]) 6 Try.underlying27 hj yz0 yz1 .i64 .i64 _ _ n rfl rfl rfl rfl (by rw [yz2]; omega) (by unfold maxLen; omega) (by simp) ?_; intro w1 hown hgrow))
  rw [show (w.alloc (.cells #[.slice none 0 0, .slice none 0 0, .slice none 0 0, .slice none 0 0, .int .i64 0] 29)).heap.size = w.heap.size + 1 by simp] at *
  obtain ⟨W0, hW0⟩ : ∃ W0, W0 = w.alloc (.cells #[.slice none 0 0, .slice none 0 0, .slice none 0 0, .slice none 0 0, .int .i64 0] 29) := ⟨_, rfl⟩
  have HR : Hid (W0.heap[w.heap.size]? = some (.cells #[.slice none 0 0, .slice none 0 0, .slice none 0 0, .slice none 0 0, .int .i64 0] 29)) := by rw [hW0]; exact heap_alloc_new _ _
  have HW : Hid (Below w.heap.size w W0) := by rw [hW0]; exact one_below _ _
  have HZ : Hid (W0.heap.size = w.heap.size + 1) := by show _ = _; rw [hW0]; simp
  rw [← hW0] at hgrow
  clear hW0
  have hS : w1.ownsRow (w.heap.size + 1) 48 6 (.slice (some ⟨w.heap.size + 1, 0, none⟩) n n) n (encS (List.replicate n sl0)) := by
    rw [← made_zero n]; exact hown
  have z1 : w.heap.size + 1 < w1.heap.size := (hS.lt _ rfl).2
  have G0 : Gr W0 (w.heap.size + 1) w1.heap.size (w1.alloc (.cells #[.slice (some ⟨w.heap.size + 1, 0, none⟩) n n, .slice none 0 0, .slice none 0 0, .slice none 0 0, .int .i64 0] 29)) (.slice (some ⟨w.heap.size + 1, 0, none⟩) n n) (.slice none 0 0) (.slice none 0 0) (.slice none 0 0) (List.replicate n sl0) [] [] [] := by
    refine ⟨heap_alloc_new _ _, ?_, World.ownsRow_nil _ _ _ _, World.ownsRow_nil _ _ _ _, World.ownsRow_nil _ _ _ _, (fun g h => by cases h), (fun g h => by cases h), (fun g h => by cases h), by omega, ?_⟩
    · rw [List.length_replicate]; exact hS.alloc _
    · exact ((Below.refl _ W0).grown hgrow (by rw [HZ.out]; exact Nat.le_refl _) (fun k h => by cases h)).alloc (by omega) _
  clear hown hgrow hS
  go_loopw [22] (fun i wr => ∃ k : Nat, k ≤ n ∧ i = .int .i64 k ∧ ∃ fv, Gr W0 (w.heap.size + 1) w1.heap.size wr (.slice (some ⟨w.heap.size + 1, 0, none⟩) n n) (.slice none 0 0) fv (.slice none 0 0) (List.replicate n sl0) [] (freeTo n k) [])
    (fun i _ => n - (intOf i).toNat)
  case atStart => exact ⟨0, Nat.zero_le _, rfl, _, G0⟩
  case round =>
    obtain ⟨k, hk, rfl, fv, G⟩ := hrel
    clear G0
    obtain ⟨ao, cap, rfl⟩ := own_shape G.f
    rw [freeTo_len] at G
    obtain ⟨q0, q1, q2, q3, q4, f0, f1, f2, f3, f4, qs⟩ := boxf G.box
    by_cases hlt : k < n
    · have hne : ∀ b : Nat, b < w1.heap.size → True := fun _ _ => trivial
      go_wp2_with (at_builtin; refine wpList_append_own_at _ rfl (.tmp 26) (.tmp 31) 24 rfl (w.heap.size + 1) 3 i0 (.int .i64 0) 1 8 Try.underlying24 hi hz0 hz1 hz2 rfl (by decide) _ _ _ rfl (G.f.alloc _) ⟨wr.heap.size, 0, none⟩ 1 1 [.int .i64 ((n : Int) - 1 - (k : Int))] rfl rfl (one_new _ _ _ _ rfl) (by intro u hu; simp at hu; subst hu; rfl) (by rw [freeTo_len]; unfold maxLen; omega) (by rw [freeTo_len]; omega) (by simp; omega) ?_; intro v2 w2 ho2 hg2 _ hloc2; obtain ⟨g2, cap2, rfl⟩ := ownsRow_form ho2 (by omega); have HO2 : Hid (w2.ownsRow (w.heap.size + 1) 3 1 _ ((freeTo n k).length + 1) (encI (freeTo n k) ++ [.int .i64 ((n : Int) - 1 - (k : Int))])) := ho2; have HG2 : Hid ((wr.alloc (.cells #[.int .i64 ((n : Int) - 1 - (k : Int))] 3)).grownBy w2 (Value.slice ao k cap).ownBlock) := ⟨hg2.1, hg2.2, hg2.3, hg2.4, hg2.5⟩; have HL2 : Hid ((Value.slice (some ⟨g2, 0, none⟩) ((freeTo n k).length + 1) cap2).ownBlock = (Value.slice ao k cap).ownBlock ∨ (Value.slice (some ⟨g2, 0, none⟩) ((freeTo n k).length + 1) cap2).ownBlock = some (wr.alloc (.cells #[.int .i64 ((n : Int) - 1 - (k : Int))] 3)).heap.size) := hloc2; clear ho2 hg2 hloc2 q0 q1 q2 q3 q4 f0 f1 f2 f3 f4; obtain ⟨q0, q1, q2, q3, q4, f0, f1, f2, f3, f4, qs2⟩ := boxf (box_kept G.box HG2.out (own_ne G.f G.box (by decide))))
      go_roundw
      case rel => exact ⟨k + 1, by omega, by go_num, _, by rw [freeTo_succ]; exact G.f_step HO2.out HG2.out HL2.out⟩
      case measure => simp [intOf]; omega
    · obtain rfl : k = n := by omega
      go_wp2
      go_loopw [36] (fun i wr => ∃ j : Nat, j ≤ m ∧ i = .int .i64 j ∧ ∃ hv lv, Gr W0 (w.heap.size + 1) w1.heap.size wr (.slice (some ⟨w.heap.size + 1, 0, none⟩) k k) hv (.slice ao k cap) lv (List.replicate k sl0) (headTo j) (freeTo k k) (lockTo j))
        (fun i _ => m - (intOf i).toNat)
      case atStart => exact ⟨0, Nat.zero_le _, rfl, _, _, G⟩
      case round =>
        obtain ⟨j, hj, rfl, hv, lv, G2⟩ := hrel
        clear G q0 q1 q2 q3 q4 f0 f1 f2 f3 f4 qs
        obtain ⟨aH, cH, rfl⟩ := own_shape G2.h
        obtain ⟨aL, cL, rfl⟩ := own_shape G2.l
        rw [headTo_len, lockTo_len] at G2
        obtain ⟨q0, q1, q2, q3, q4, f0, f1, f2, f3, f4, qs⟩ := boxf G2.box
        by_cases hlt2 : j < m
        · have HOX : ((wr.alloc (.cells #[.int .i64 (-1 - (j : Int))] 3)).drew).ownsRow (w.heap.size + 1) 3 1 (.slice aH j cH) (headTo j).length (encI (headTo j)) := (G2.h.alloc (.cells #[.int .i64 (-1 - (j : Int))] 3) : (wr.alloc (.cells #[.int .i64 (-1 - (j : Int))] 3)).ownsRow (w.heap.size + 1) 3 1 (.slice aH j cH) (headTo j).length (encI (headTo j)))
          have HCX : ∀ q u, [Value.int .i64 (-1 - (j : Int))][q]? = some u → ((wr.alloc (.cells #[.int .i64 (-1 - (j : Int))] 3)).drew).cell? ((⟨wr.heap.size, 0, none⟩ : Addr).add q) = some u := fun q u h => cell_one_new wr (.int .i64 (-1 - (j : Int))) 3 q u h
          have G2' : Gr W0 (w.heap.size + 1) w1.heap.size wr.drew (.slice (some ⟨w.heap.size + 1, 0, none⟩) k k) (.slice aH j cH) (.slice ao k cap) (.slice aL j cL) (List.replicate k sl0) (headTo j) (freeTo k k) (lockTo j) := ⟨G2.box, G2.s, G2.h, G2.f, G2.l, G2.hf, G2.hl, G2.fl, G2.at_, G2.below.drew⟩
          go_wp2_with fail
          go_region_law (first
            | (go_simp; go_at_call 57; refine (toEnd_any _ _ (by omega) (by omega)).mono ?_; rintro e wq ⟨rfl, rfl⟩)
            | (refine step_append_own_at _ rfl (.tmp 40) (.tmp 43) 24 rfl (w.heap.size + 1) 3 i0 (.int .i64 0) 1 8 Try.underlying24 hi hz0 hz1 hz2 rfl (by decide) (.slice aH j cH) _ _ rfl HOX ⟨wr.heap.size, 0, none⟩ 1 1 [.int .i64 (-1 - (j : Int))] rfl rfl HCX (by intro u hu; simp at hu; subst hu; rfl) (by rw [headTo_len]; unfold maxLen; omega) (by rw [headTo_len]; omega) (by simp; omega) ?_; intro v2 w2 ho2 hg2 _ hloc2; obtain ⟨g2, cap2, rfl⟩ := ownsRow_form ho2 (by omega); have HG2 : Hid ((wr.alloc (.cells #[.int .i64 (-1 - (j : Int))] 3)).grownBy w2 (Value.slice aH j cH).ownBlock) := ⟨hg2.1, hg2.2, hg2.3, hg2.4, hg2.5⟩; have G3 := G2.h_step (x := -1 - (j : Int)) ho2 HG2.out hloc2; clear ho2 hg2 hloc2 q0 q1 q2 q3 q4 f0 f1 f2 f3 f4; obtain ⟨q0, q1, q2, q3, q4, f0, f1, f2, f3, f4, qs2⟩ := boxf (box_kept G2.box HG2.out (own_ne G2.h G2.box (by decide))); have z2 : w1.heap.size < w2.heap.size := qs2))
          all_goals go_wp2_with (at_builtin; refine wpList_append_own_at _ rfl (.tmp 47) (.tmp 48) 24 rfl (w.heap.size + 1) 3 i0 (.int .i64 0) 1 8 Try.underlying24 hi hz0 hz1 hz2 rfl (by decide) _ _ _ rfl (G3.l.alloc _) ⟨w2.heap.size, 0, none⟩ 1 1 [.int .i64 (-1)] rfl rfl (one_new _ _ _ _ (World.size_setCell ..).symm) (by intro u hu; simp at hu; subst hu; rfl) (by rw [lockTo_len]; unfold maxLen; omega) (by rw [lockTo_len]; omega) (by simp; omega) ?_; intro v3 w3 ho3 hg3 _ hloc3; obtain ⟨g3, cap3, rfl⟩ := ownsRow_form ho3 (by omega); have HG3 : Hid (((w2.setCell ⟨w1.heap.size, 1, none⟩ (.slice (some ⟨g2, 0, none⟩) ((headTo j).length + 1) cap2)).alloc (.cells #[.int .i64 (-1)] 3)).grownBy w3 (Value.slice aL j cL).ownBlock) := hg3; have G4 := G3.l_step (x := -1) ho3 HG3.out hloc3; clear ho3 hg3 hloc3 q0 q1 q2 q3 q4 f0 f1 f2 f3 f4; obtain ⟨q0, q1, q2, q3, q4, f0, f1, f2, f3, f4, qs3⟩ := boxf (box_kept G3.box HG3.out (own_ne G3.l G3.box (by decide))))
          all_goals (go_roundw; (case rel => exact ⟨j + 1, by omega, by go_num, _, _, by rw [headTo_succ, lockTo_succ]; exact G4⟩); (case measure => simp [intOf]; omega))
        · obtain rfl : j = m := by omega
          have HR2 : Hid (wr.heap[w.heap.size]? = _) := (G2.below.block w.heap.size (by omega)).trans HR.out
          obtain ⟨r0, r1, r2, r3, r4, g0, g1, g2, g3, g4, rs⟩ := boxf HR2.out
          have A := G2.ans (by simp; omega) (by rw [headTo_len]; omega) (by rw [freeTo_len]; omega) (by rw [lockTo_len]; omega)
          have HA : Hid (Ans (w.heap.size + 1) wr _ _) := A
          have HB : Hid (Below w.heap.size w wr) := HW.out.trans (G2.below.mono (by omega))
          clear A G2
          go_wp2
          refine bodyPost_ret (v := .tuple #[.agg #[.slice (some ⟨w.heap.size + 1, 0, none⟩) k k, .slice aH j cH, .slice ao k cap, .slice aL j cL, .int .i64 0], .int .i64 0]) (by simp [results, Try.results13, go_sem, r0, r1, r2, r3, r4]) rfl ⟨_, rfl, ?_, ?_⟩
          · exact (HA.out.off (by omega) (fun k hk => set5_other (w := wr) hk)).mono (by omega)
          · exact HB.out.trans (set5_below wr _ _ _ _ _ _ _ (by omega))


end Go.Proofs.Ytdbilofhcadmoaa.mm
