/- The contract of New. -/
import Derived.Test.YtdbilofhcadmoacC04
import Derived.Test.YtdbilofhcadmoacC01
import Derived.Test.YtdbilofhcadmoacC06
import Derived.Test.YtdbilofhcadmoacC03
import Derived.Test.YtdbilofhcadmoacC05
import Derived.Lib.BufferMore
import Derived.Deep.QuietTactic
import Derived.BigQuiet
import Derived.Lib.QuietBelow
import Derived.OrdersHeld
namespace Go.Proofs.Ytdbilofhcadmoac.mm
open Go.ChangeShapes Go.WideShapes Go.ChangeAt Go.RowKit Go.Joins
set_option linter.unusedVariables false

theorem new_bad (a b : Int) (w : World) (h : newE a b = 3) :
    Calls Try.prog 62 #[.int .i64 a, .int .i64 b] w fun e w' => e = .returned (.tuple #[.agg #[.slice none 0 0, .slice none 0 0, .slice none 0 0, .slice none 0 0, .int .i64 0], .int .i64 3]) ∧ Below w.heap.size w w' := by
  have hh : inB a 0 12 = false ∨ (inB a 0 12 = true ∧ inB b 1 4 = false) := by
    unfold newE at h
    cases h1 : inB a 0 12
    · exact .inl rfl
    · cases h2 : inB b 1 4
      · exact .inr ⟨rfl, rfl⟩
      · simp [h1, h2] at h
  clear h
  rcases hh with h1 | ⟨h1, h2⟩
  all_goals
    go_enter Try.func62, Try.ntmps62
    go_wp2_with (go_at_call 82; refine (within_any _ _ _ _).mono ?_; rintro e w1 ⟨rfl, rfl⟩)
    exact bodyPost_ret (v := .tuple #[.agg #[.slice none 0 0, .slice none 0 0, .slice none 0 0, .slice none 0 0, .int .i64 0], .int .i64 3]) (by simp [results, Try.results62, go_sem]) rfl ⟨rfl, one_below _ _⟩

def freeTo (n k : Nat) : List Int := (List.range k).map fun (a : Nat) => (n : Int) - 1 - (a : Int)
def headTo (k : Nat) : List Int := (List.range k).map fun (b : Nat) => -1 - (b : Int)
def lockTo (k : Nat) : List Int := List.replicate k (-1)
theorem freeTo_succ (n k : Nat) : freeTo n (k + 1) = freeTo n k ++ [(n : Int) - 1 - k] := by simp [freeTo, List.range_succ]
theorem headTo_succ (k : Nat) : headTo (k + 1) = headTo k ++ [-1 - (k : Int)] := by simp [headTo, List.range_succ]
theorem lockTo_succ (k : Nat) : lockTo (k + 1) = lockTo k ++ [-1] := by simp [lockTo, List.replicate_succ']
theorem freeTo_len (n k : Nat) : (freeTo n k).length = k := by simp [freeTo]
theorem headTo_len (k : Nat) : (headTo k).length = k := by simp [headTo]
theorem lockTo_len (k : Nat) : (lockTo k).length = k := by simp [lockTo]

theorem made_zero (n : Nat) : (madeCells #[.int .i64 0, .int .i64 0, .int .i64 0, .int .i64 0, .bool false, .int .i64 0] (n * 6)).toList = encS (List.replicate n sl0) := by
  apply List.ext_getElem?
  intro j
  by_cases hj : j < n * 6
  · have h6 : j / 6 < n := by omega
    have hq : j % 6 < 6 := by omega
    have e6 : j / 6 * 6 + j % 6 = j := by omega
    have r : (encS (List.replicate n sl0))[j]? = (sl0.enc)[j % 6]? := by
      have := encS_get (List.replicate n sl0) (j / 6) (j % 6) (by simpa using h6) hq
      rw [e6] at this
      rw [this]
      simp
    rw [r]
    have l : (madeCells #[.int .i64 0, .int .i64 0, .int .i64 0, .int .i64 0, .bool false, .int .i64 0] (n * 6)).toList[j]? = some ((#[.int .i64 0, .int .i64 0, .int .i64 0, .int .i64 0, .bool false, .int .i64 0] : Array Value)[j % 6]!) := by
      simp [madeCells, hj]
    rw [l]
    generalize j % 6 = q at hq
    match q, hq with
    | 0, _ => rfl
    | 1, _ => rfl
    | 2, _ => rfl
    | 3, _ => rfl
    | 4, _ => rfl
    | 5, _ => rfl
  · rw [List.getElem?_eq_none (by simp [madeCells]; omega), List.getElem?_eq_none (by rw [encS_len]; simp; omega)]

theorem Ans.off {lo g : Nat} {w w' : World} {v : Value} {M : Mm} (A : Ans lo w v M) (hg : g < lo) (h : ∀ k, k ≠ g → w'.heap[k]? = w.heap[k]?) : Ans lo w' v M := by
  obtain ⟨aS, aH, aF, aL, cS, cH, cF, cL, e, A, hi⟩ := A
  exact ⟨aS, aH, aF, aL, cS, cH, cF, cL, e, A.off hi hg h, hi⟩

set_option maxHeartbeats 3200000 in
theorem new_ok (n m : Nat) (w : World) (hn : n ≤ 12) (h1 : 1 ≤ m) (h4 : m ≤ 4) :
    Calls Try.prog 62 #[.int .i64 n, .int .i64 m] w fun e w' => ∃ v, e = .returned (.tuple #[v, .int .i64 0]) ∧ Ans w.heap.size w' v (newM n m) ∧ Below w.heap.size w w' := by
  obtain ⟨i0, hi, hz0, hz1, hz2⟩ := info_parts iI
  obtain ⟨j0, hj, yz0, yz1, yz2⟩ := info_parts iS
  have e1 : inB (n : Int) 0 12 = true := (inB_iff _ _ _).2 ⟨by omega, by omega⟩
  have e2 : inB (m : Int) 1 4 = true := (inB_iff _ _ _).2 ⟨by omega, by omega⟩
  go_enter Try.func62, Try.ntmps62
  go_wp2_with (first
    | (go_at_call 82; refine (within_any _ _ _ _).mono ?_; rintro e w1 ⟨rfl, rfl⟩)
    | (at_make; refine wpList_make_full _ rfl _ _ 22 rfl (w.heap.size + 1) 53 j0 (.agg #[.int .i64 0, .int .i64 0, .int .i64 0, .int .i64 0, .bool false, .int .i64 0]) 6 Try.underlying22 hj yz0 yz1 .i64 .i64 _ _ n rfl rfl rfl rfl (by rw [yz2]; omega) (by unfold maxLen; omega) (by simp) ?_; intro w1 hown hgrow))
  rw [show (w.alloc (.cells #[.slice none 0 0, .slice none 0 0, .slice none 0 0, .slice none 0 0, .int .i64 0] 25)).heap.size = w.heap.size + 1 by simp] at *
  obtain ⟨W0, hW0⟩ : ∃ W0, W0 = w.alloc (.cells #[.slice none 0 0, .slice none 0 0, .slice none 0 0, .slice none 0 0, .int .i64 0] 25) := ⟨_, rfl⟩
  have HR : Hid (W0.heap[w.heap.size]? = some (.cells #[.slice none 0 0, .slice none 0 0, .slice none 0 0, .slice none 0 0, .int .i64 0] 25)) := by rw [hW0]; exact heap_alloc_new _ _
  have HW : Hid (Below w.heap.size w W0) := by rw [hW0]; exact one_below _ _
  have HZ : Hid (W0.heap.size = w.heap.size + 1) := by show _ = _; rw [hW0]; simp
  rw [← hW0] at hgrow
  clear hW0
  have hS : w1.ownsRow (w.heap.size + 1) 53 6 (.slice (some ⟨w.heap.size + 1, 0, none⟩) n n) n (encS (List.replicate n sl0)) := by
    rw [← made_zero n]; exact hown
  have z1 : w.heap.size + 1 < w1.heap.size := (hS.lt _ rfl).2
  have G0 : Gr W0 (w.heap.size + 1) w1.heap.size (w1.alloc (.cells #[.slice (some ⟨w.heap.size + 1, 0, none⟩) n n, .slice none 0 0, .slice none 0 0, .slice none 0 0, .int .i64 0] 25)) (.slice (some ⟨w.heap.size + 1, 0, none⟩) n n) (.slice none 0 0) (.slice none 0 0) (.slice none 0 0) (List.replicate n sl0) [] [] [] := by
    refine ⟨heap_alloc_new _ _, ?_, World.ownsRow_nil _ _ _ _, World.ownsRow_nil _ _ _ _, World.ownsRow_nil _ _ _ _, (fun g h => by cases h), (fun g h => by cases h), (fun g h => by cases h), by omega, ?_⟩
    · rw [List.length_replicate]; exact hS.alloc _
    · exact ((Below.refl _ W0).grown hgrow (by rw [HZ.out]; exact Nat.le_refl _) (fun k h => by cases h)).alloc (by omega) _
  clear hown hgrow hS
  go_loopw [22] (fun i wr => ∃ k : Nat, k ≤ n ∧ i = .int .i64 k ∧ ∃ fv, Gr W0 (w.heap.size + 1) w1.heap.size wr (.slice (some ⟨w.heap.size + 1, 0, none⟩) n n) (.slice none 0 0) fv (.slice none 0 0) (List.replicate n sl0) [] (freeTo n k) [])
    (fun i _ => n - (intOf i).toNat)
  case atStart => exact ⟨0, Nat.zero_le _, rfl, _, G0⟩
  case round =>
    obtain ⟨k, hk, rfl, fv, G⟩ := hrel
    clear G0
    obtain ⟨ao, cap, rfl⟩ := own_shape G.f
    rw [freeTo_len] at G
    obtain ⟨q0, q1, q2, q3, q4, f0, f1, f2, f3, f4, qs⟩ := boxf G.box
    by_cases hlt : k < n
    · have hne : ∀ b : Nat, b < w1.heap.size → True := fun _ _ => trivial
      go_wp2_with (at_builtin; refine wpList_append_own_at _ rfl (.tmp 26) (.tmp 31) 23 rfl (w.heap.size + 1) 3 i0 (.int .i64 0) 1 8 Try.underlying23 hi hz0 hz1 hz2 rfl (by decide) _ _ _ rfl (G.f.alloc _) ⟨wr.heap.size, 0, none⟩ 1 1 [.int .i64 ((n : Int) - 1 - (k : Int))] rfl rfl (one_new _ _ _ _ rfl) (by intro u hu; simp at hu; subst hu; rfl) (by rw [freeTo_len]; unfold maxLen; omega) (by rw [freeTo_len]; omega) (by simp; omega) ?_; intro v2 w2 ho2 hg2 _ hloc2; obtain ⟨g2, cap2, rfl⟩ := ownsRow_form ho2 (by omega); have HO2 : Hid (w2.ownsRow (w.heap.size + 1) 3 1 _ ((freeTo n k).length + 1) (encI (freeTo n k) ++ [.int .i64 ((n : Int) - 1 - (k : Int))])) := ho2; have HG2 : Hid ((wr.alloc (.cells #[.int .i64 ((n : Int) - 1 - (k : Int))] 3)).grownBy w2 (Value.slice ao k cap).ownBlock) := ⟨hg2.1, hg2.2, hg2.3, hg2.4, hg2.5⟩; have HL2 : Hid ((Value.slice (some ⟨g2, 0, none⟩) ((freeTo n k).length + 1) cap2).ownBlock = (Value.slice ao k cap).ownBlock ∨ (Value.slice (some ⟨g2, 0, none⟩) ((freeTo n k).length + 1) cap2).ownBlock = some (wr.alloc (.cells #[.int .i64 ((n : Int) - 1 - (k : Int))] 3)).heap.size) := hloc2; clear ho2 hg2 hloc2 q0 q1 q2 q3 q4 f0 f1 f2 f3 f4; obtain ⟨q0, q1, q2, q3, q4, f0, f1, f2, f3, f4, qs2⟩ := boxf (box_kept G.box HG2.out (own_ne G.f G.box (by decide))))
      go_roundw
      case rel => exact ⟨k + 1, by omega, by go_num, _, by rw [freeTo_succ]; exact G.f_step HO2.out HG2.out HL2.out⟩
      case measure => simp [intOf]; omega
    · obtain rfl : k = n := by omega
      go_wp2
      go_loopw [36] (fun i wr => ∃ j : Nat, j ≤ m ∧ i = .int .i64 j ∧ ∃ hv lv, Gr W0 (w.heap.size + 1) w1.heap.size wr (.slice (some ⟨w.heap.size + 1, 0, none⟩) k k) hv (.slice ao k cap) lv (List.replicate k sl0) (headTo j) (freeTo k k) (lockTo j))
        (fun i _ => m - (intOf i).toNat)
      case atStart => exact ⟨0, Nat.zero_le _, rfl, _, _, G⟩
      case round =>
        obtain ⟨j, hj, rfl, hv, lv, G2⟩ := hrel
        clear G q0 q1 q2 q3 q4 f0 f1 f2 f3 f4 qs
        obtain ⟨aH, cH, rfl⟩ := own_shape G2.h
        obtain ⟨aL, cL, rfl⟩ := own_shape G2.l
        rw [headTo_len, lockTo_len] at G2
        obtain ⟨q0, q1, q2, q3, q4, f0, f1, f2, f3, f4, qs⟩ := boxf G2.box
        by_cases hlt2 : j < m
        · have HOX : ((wr.alloc (.cells #[.int .i64 (-1 - (j : Int))] 3)).drew).ownsRow (w.heap.size + 1) 3 1 (.slice aH j cH) (headTo j).length (encI (headTo j)) := (G2.h.alloc (.cells #[.int .i64 (-1 - (j : Int))] 3) : (wr.alloc (.cells #[.int .i64 (-1 - (j : Int))] 3)).ownsRow (w.heap.size + 1) 3 1 (.slice aH j cH) (headTo j).length (encI (headTo j)))
          have HCX : ∀ q u, [Value.int .i64 (-1 - (j : Int))][q]? = some u → ((wr.alloc (.cells #[.int .i64 (-1 - (j : Int))] 3)).drew).cell? ((⟨wr.heap.size, 0, none⟩ : Addr).add q) = some u := fun q u h => cell_one_new wr (.int .i64 (-1 - (j : Int))) 3 q u h
          have G2' : Gr W0 (w.heap.size + 1) w1.heap.size wr.drew (.slice (some ⟨w.heap.size + 1, 0, none⟩) k k) (.slice aH j cH) (.slice ao k cap) (.slice aL j cL) (List.replicate k sl0) (headTo j) (freeTo k k) (lockTo j) := ⟨G2.box, G2.s, G2.h, G2.f, G2.l, G2.hf, G2.hl, G2.fl, G2.at_, G2.below.drew⟩
          go_wp2_with fail
          go_region_law (first
            | (go_simp; go_at_call 81; refine (toEnd_any _ _ (by omega) (by omega)).mono ?_; rintro e wq ⟨rfl, rfl⟩)
            | (refine step_append_own_at _ rfl (.tmp 40) (.tmp 43) 23 rfl (w.heap.size + 1) 3 i0 (.int .i64 0) 1 8 Try.underlying23 hi hz0 hz1 hz2 rfl (by decide) (.slice aH j cH) _ _ rfl HOX ⟨wr.heap.size, 0, none⟩ 1 1 [.int .i64 (-1 - (j : Int))] rfl rfl HCX (by intro u hu; simp at hu; subst hu; rfl) (by rw [headTo_len]; unfold maxLen; omega) (by rw [headTo_len]; omega) (by simp; omega) ?_; intro v2 w2 ho2 hg2 _ hloc2; obtain ⟨g2, cap2, rfl⟩ := ownsRow_form ho2 (by omega); have HG2 : Hid ((wr.alloc (.cells #[.int .i64 (-1 - (j : Int))] 3)).grownBy w2 (Value.slice aH j cH).ownBlock) := ⟨hg2.1, hg2.2, hg2.3, hg2.4, hg2.5⟩; have G3 := G2.h_step (x := -1 - (j : Int)) ho2 HG2.out hloc2; clear ho2 hg2 hloc2 q0 q1 q2 q3 q4 f0 f1 f2 f3 f4; obtain ⟨q0, q1, q2, q3, q4, f0, f1, f2, f3, f4, qs2⟩ := boxf (box_kept G2.box HG2.out (own_ne G2.h G2.box (by decide))); have z2 : w1.heap.size < w2.heap.size := qs2))
          all_goals go_wp2_with (at_builtin; refine wpList_append_own_at _ rfl (.tmp 47) (.tmp 48) 23 rfl (w.heap.size + 1) 3 i0 (.int .i64 0) 1 8 Try.underlying23 hi hz0 hz1 hz2 rfl (by decide) _ _ _ rfl (G3.l.alloc _) ⟨w2.heap.size, 0, none⟩ 1 1 [.int .i64 (-1)] rfl rfl (one_new _ _ _ _ (World.size_setCell ..).symm) (by intro u hu; simp at hu; subst hu; rfl) (by rw [lockTo_len]; unfold maxLen; omega) (by rw [lockTo_len]; omega) (by simp; omega) ?_; intro v3 w3 ho3 hg3 _ hloc3; obtain ⟨g3, cap3, rfl⟩ := ownsRow_form ho3 (by omega); have HG3 : Hid (((w2.setCell ⟨w1.heap.size, 1, none⟩ (.slice (some ⟨g2, 0, none⟩) ((headTo j).length + 1) cap2)).alloc (.cells #[.int .i64 (-1)] 3)).grownBy w3 (Value.slice aL j cL).ownBlock) := hg3; have G4 := G3.l_step (x := -1) ho3 HG3.out hloc3; clear ho3 hg3 hloc3 q0 q1 q2 q3 q4 f0 f1 f2 f3 f4; obtain ⟨q0, q1, q2, q3, q4, f0, f1, f2, f3, f4, qs3⟩ := boxf (box_kept G3.box HG3.out (own_ne G3.l G3.box (by decide))))
          all_goals (go_roundw; (case rel => exact ⟨j + 1, by omega, by go_num, _, _, by rw [headTo_succ, lockTo_succ]; exact G4⟩); (case measure => simp [intOf]; omega))
        · obtain rfl : j = m := by omega
          have HR2 : Hid (wr.heap[w.heap.size]? = _) := (G2.below.block w.heap.size (by omega)).trans HR.out
          obtain ⟨r0, r1, r2, r3, r4, g0, g1, g2, g3, g4, rs⟩ := boxf HR2.out
          have A := G2.ans (by simp; omega) (by rw [headTo_len]; omega) (by rw [freeTo_len]; omega) (by rw [lockTo_len]; omega)
          have HA : Hid (Ans (w.heap.size + 1) wr _ _) := A
          have HB : Hid (Below w.heap.size w wr) := HW.out.trans (G2.below.mono (by omega))
          clear A G2
          go_wp2
          refine bodyPost_ret (v := .tuple #[.agg #[.slice (some ⟨w.heap.size + 1, 0, none⟩) k k, .slice aH j cH, .slice ao k cap, .slice aL j cL, .int .i64 0], .int .i64 0]) (by simp [results, Try.results62, go_sem, r0, r1, r2, r3, r4]) rfl ⟨_, rfl, ?_, ?_⟩
          · exact (HA.out.off (by omega) (fun k hk => set5_other (w := wr) hk)).mono (by omega)
          · exact HB.out.trans (set5_below wr _ _ _ _ _ _ _ (by omega))





end Go.Proofs.Ytdbilofhcadmoac.mm

/- The closed fact filled: it holds in every world. -/
namespace Go.Proofs.Ytdbilofhcadmoac.mm
open Go.ChangeShapes Go.WideShapes Go.ChangeAt Go.RowKit Go.Joins
set_option linter.unusedVariables false

theorem kequal (a b c d : Int) (w : World) : (Op.equalIn 10000 27 (.agg #[.int .i64 a, .int .i64 b]) (.agg #[.int .i64 c, .int .i64 d])).run Try.prog w = .ok (a == c && b == d) w := by
  have u3 := Try.underlying3
  have a3 := Try.isAgg3
  have z3 := Try.sizeOf3
  have hS : Try.prog.underlying 27 = some (.struct (Try.prog.fieldsOf 27)) := by kernel_rfl
  have hp : Try.prog.stoodInHeld 27 = false := by kernel_rfl
  rw [show (10000 : Nat) = 9999 + 1 from rfl, run_equalIn_agg w 9999 27 _ _ hS hp]
  simp only [Program.fieldsOf, Try.underlying27]
  go_simp
  by_cases h1 : a = c <;> by_cases h2 : b = d <;> simp [h1, h2]

theorem taken_at {M M' : Mm} {N0 E0 : Int} {ka kb u : Int} (hM : takenM M ka kb u = M') (hN : takenN M ka kb u = N0) (hE : takenE M ka kb u = E0) (v : Value) (w : World) (lo : Nat) (A : Ans lo w v M) :
    Calls Try.prog 63 #[v, .agg #[.int .i64 ka, .int .i64 kb], .int .i64 u] w fun e w' => ∃ v, e = .returned (.tuple #[v, .int .i64 N0, .int .i64 E0]) ∧ Ans w.heap.size w' v M' ∧ Below w.heap.size w w' := by
  subst hM hN hE
  exact taken_any M v ka kb u w lo A
def fM1 : Mm := newM 2 1
def fM2 : Mm := takenM fM1 1 0 5
def fM3 : Mm := takenM fM2 2 0 5
def fM4 : Mm := takenM fM3 3 0 5
def fM5 : Mm := letM fM3 1
def fM6 : Mm := takenM fM5 4 0 6
theorem g2 : takenM fM1 1 0 5 = fM2 := rfl
theorem g3 : takenM fM2 2 0 5 = fM3 := rfl
theorem g4 : takenM fM3 3 0 5 = fM4 := rfl
theorem g5 : letM fM3 1 = fM5 := rfl
theorem g6 : takenM fM5 4 0 6 = fM6 := rfl
theorem f2 : takenN fM1 1 0 5 = 0 ∧ takenE fM1 1 0 5 = 0 := by decide
theorem f3 : takenN fM2 2 0 5 = 1 ∧ takenE fM2 2 0 5 = 0 := by decide
theorem f4 : takenN fM3 3 0 5 = 0 ∧ takenE fM3 3 0 5 = 7 := by decide
theorem f5 : letE fM3 1 = 0 := by decide
theorem f6 : takenN fM5 4 0 6 = 1 ∧ takenE fM5 4 0 6 = 0 := by decide
theorem f6s : fM6.slots.length = 2 ∧ (fM6.slots.getD 1 sl0).a = 4 ∧ (fM6.slots.getD 1 sl0).b = 0 := by decide

theorem new21 (w : World) : Calls Try.prog 62 #[.int .i64 2, .int .i64 1] w fun e w' => ∃ v, e = .returned (.tuple #[v, .int .i64 0]) ∧ Ans w.heap.size w' v fM1 ∧ Below w.heap.size w w' := new_ok 2 1 w (by decide) (by decide) (by decide)




end Go.Proofs.Ytdbilofhcadmoac.mm

/- Lists of keys; the contracts of frame.New, frame.End, of the document's own SameFrame where both are alike, of frame.Bucket and the document's own ChainFor. -/
namespace Go.Proofs.Ytdbilofhcadmoac.mm
open Go.ChangeShapes Go.WideShapes Go.ChangeAt Go.RowKit Go.Joins Go.Maps
set_option maxRecDepth 100000
set_option linter.unusedVariables false

/- A list of keys lies at a slice. -/
structure KRow (w : World) (ao : Option Addr) (cap : Nat) (l : List (Int × Int)) : Prop where
  le : l.length ≤ cap
  max : l.length * 16 ≤ 140737488351232
  nil : ao = none → cap = 0
  at_ : l.length = 0 ∨ ∃ b o, ao = some ⟨b, o, none⟩ ∧ ∀ i (h : i < l.length), w.cell? ⟨b, o + i * 2, none⟩ = some (.int .i64 l[i].1) ∧ w.cell? ⟨b, o + i * 2 + 1, none⟩ = some (.int .i64 l[i].2)

theorem KRow.below {w w' : World} {ao : Option Addr} {cap : Nat} {l : List (Int × Int)} (r : KRow w ao cap l) (hb : Below w.heap.size w w') : KRow w' ao cap l := by
  refine ⟨r.le, r.max, r.nil, ?_⟩
  rcases r.at_ with h | ⟨b, o, h, hc⟩
  · exact .inl h
  · refine .inr ⟨b, o, h, fun i hi => ?_⟩
    obtain ⟨c0, c1⟩ := hc i hi
    have lt := cell_lt c0
    obtain ⟨q, _⟩ := bcell hb
    exact ⟨(q _ _ lt).trans c0, (q _ _ lt).trans c1⟩
theorem krow_nil (w : World) : KRow w none 0 [] := ⟨by decide, by decide, fun _ => rfl, .inl rfl⟩

def encK (l : List (Int × Int)) : List Value := l.flatMap fun p => [.int .i64 p.1, .int .i64 p.2]
theorem encK_cons (p : Int × Int) (l : List (Int × Int)) : encK (p :: l) = [.int .i64 p.1, .int .i64 p.2] ++ encK l := by simp [encK]
theorem encK_len (l : List (Int × Int)) : (encK l).length = l.length * 2 := by
  induction l with
  | nil => rfl
  | cons s l ih => rw [encK_cons, List.length_append, ih]; simp; omega
theorem encK_get (l : List (Int × Int)) (i q : Nat) (h : i < l.length) (hq : q < 2) : (encK l)[i * 2 + q]? = ([.int .i64 l[i].1, .int .i64 l[i].2] : List Value)[q]? := by
  induction l generalizing i with
  | nil => simp at h
  | cons s l ih =>
    rw [encK_cons]
    match i with
    | 0 =>
      rw [List.getElem?_append_left (by simp; omega)]
      simp
    | i + 1 =>
      rw [List.getElem?_append_right (by simp; omega)]
      rw [show ([.int .i64 s.1, .int .i64 s.2] : List Value).length = 2 from rfl, show (i + 1) * 2 + q - 2 = i * 2 + q by omega, ih i (by simpa using h)]
      simp
theorem encK_one (l : List (Int × Int)) : ∀ u ∈ encK l, u.oneCell' = true := by
  intro u hu
  simp only [encK, List.mem_flatMap, List.mem_cons, List.not_mem_nil, or_false] at hu
  obtain ⟨s, _, h | h⟩ := hu <;> (subst h; rfl)
theorem KRow.src {w : World} {ao : Option Addr} {cap : Nat} {l : List (Int × Int)} (r : KRow w ao cap l) : ∀ ad, ao = some ad → ∀ j u, (encK l)[j]? = some u → w.cell? (ad.add j) = some u := by
  rintro ad rfl j u hu
  have hj : j < l.length * 2 := by
    rw [← encK_len]
    exact (List.getElem?_eq_some_iff.1 hu).1
  rcases r.at_ with h0 | ⟨b, o, e, hc⟩
  · omega
  cases e
  have hi : j / 2 < l.length := by omega
  have e2 : j / 2 * 2 + j % 2 = j := by omega
  have hq : j % 2 < 2 := by omega
  obtain ⟨c0, c1⟩ := hc (j / 2) hi
  rw [← e2, encK_get l _ _ hi hq] at hu
  rw [Addr.add_lit, ← e2]
  generalize j / 2 = i at *
  generalize j % 2 = q at *
  rw [← Nat.add_assoc]
  match q, hq with
  | 0, _ => simp at hu; subst hu; exact c0
  | 1, _ => simp at hu; subst hu; exact c1
theorem KRow.own {w : World} {lo n cap : Nat} {ao : Option Addr} {l : List (Int × Int)} (h : w.ownsRow lo 27 2 (.slice ao n cap) n (encK l)) (hm : l.length * 16 ≤ 140737488351232) : KRow w ao cap l := by
  have hl := h.1
  rw [encK_len] at hl
  have hn : l.length = n := by omega
  subst hn
  rcases h.2 with ⟨hv, h0⟩ | ⟨g, cap', cur, hv, hg, hb, hc, -, hs, ht⟩
  · injection hv with h1 _ h3
    subst h1 h3
    exact ⟨by omega, hm, fun _ => rfl, .inl h0⟩
  · injection hv with h1 _ h3
    subst h1 h3
    refine ⟨hc, hm, (fun h => by cases h), .inr ⟨g, 0, rfl, fun i hi => ?_⟩⟩
    have e : ∀ q, q < 2 → w.cell? ⟨g, 0 + i * 2 + q, none⟩ = ([.int .i64 l[i].1, .int .i64 l[i].2] : List Value)[q]? := fun q hq => by
      rw [Nat.zero_add, h.cellAt _ (by omega), encK_get l i q hi hq]
    exact ⟨e 0 (by omega), e 1 (by omega)⟩

theorem KRow.hi {w w' : World} {ao : Option Addr} {cap lo : Nat} {l : List (Int × Int)} (r : KRow w ao cap l) (hi : ∀ ad, ao = some ad → lo ≤ ad.block) (hk : ∀ k, lo ≤ k → w'.heap[k]? = w.heap[k]?) : KRow w' ao cap l := by
  refine ⟨r.le, r.max, r.nil, ?_⟩
  rcases r.at_ with h | ⟨b, o, h, hc⟩
  · exact .inl h
  · refine .inr ⟨b, o, h, fun i hi' => ?_⟩
    have hb := hk b (hi _ h)
    rw [World.cell?_of_block (a := ⟨b, o + i * 2, none⟩) hb, World.cell?_of_block (a := ⟨b, o + i * 2 + 1, none⟩) hb]
    exact hc i hi'

theorem iK : (Try.prog.info? 27).map (fun i => (i.zero, i.size, i.bytes)) = some (some (.agg #[.int .i64 0, .int .i64 0]), 2, 16) := by kernel_rfl

set_option maxHeartbeats 800000 in
theorem listK_some (ad : Addr) (cap : Nat) (l : List (Int × Int)) (w : World) (r : KRow w (some ad) cap l) :
    Calls Try.prog 98 #[.slice (some ad) l.length cap] w fun e w' => e = .returned (.slice (some ⟨w.heap.size, 0, none⟩) l.length l.length) ∧ w'.ownsRow w.heap.size 27 2 (.slice (some ⟨w.heap.size, 0, none⟩) l.length l.length) l.length (encK l) ∧ Below w.heap.size w w' := by
  obtain ⟨i0, hi, hz0, hz1, hz2⟩ := info_parts iK
  have m1 := r.max
  have m2 := r.le
  have HS : Hid _ := r.src
  have HN : Hid _ := r.nil
  clear r
  have q49 : ∀ (w : World) (a : Option Addr) (n c : Nat), (binOp .eql 30 (.slice a n c) (.slice none 0 0)).run Try.prog w = .ok (.bool a.isNone) w := fun w a n c => Lib.run_eql_slice_nil w _ _ a n c 0 0 Try.underlying30
  go_enter Try.func98, Try.ntmps98
  go_wp2_with (first
    | (at_make; refine wpList_make_own _ rfl _ _ 30 rfl w.heap.size 27 i0 (.agg #[.int .i64 0, .int .i64 0]) 2 Try.underlying30 hi hz0 hz1 .i64 .i64 _ l.length rfl rfl rfl (by rw [hz2]; omega) (by unfold maxLen; omega) (Nat.le_refl _) ?_; intro w1 hown hgrow)
    | (at_builtin; refine wpList_append_fits_any _ rfl _ _ 30 rfl w.heap.size 27 i0 2 Try.underlying30 hi hz1 w.heap.size 0 l.length _ rfl hown (some ad) l.length cap (encK l) rfl (encK_len l) (fun h => by have := HN.out h; omega) (fun ad h j u hj => hgrow.cell (HS.out ad h j u hj) (by intro hh; cases hh)) (encK_one l) (by omega) ?_; intro w2 hown2 hgrow2))
  go_ret
  simp only [Nat.zero_add, List.nil_append] at hown2
  refine ⟨by simp, hown2, ?_⟩
  have := ((Below.refl w.heap.size w).grown hgrow (Nat.le_refl _) (fun k h => by cases h))
  exact this.grown hgrow2 hgrow.size (fun k h => by cases h; exact Nat.le_refl _)
theorem listK_none (w : World) : Calls Try.prog 98 #[.slice none 0 0] w fun e w' => e = .returned (.slice none 0 0) ∧ w = w' := by
  have q49 : ∀ (w : World) (a : Option Addr) (n c : Nat), (binOp .eql 30 (.slice a n c) (.slice none 0 0)).run Try.prog w = .ok (.bool a.isNone) w := fun w a n c => Lib.run_eql_slice_nil w _ _ a n c 0 0 Try.underlying30
  go_enter Try.func98, Try.ntmps98
  go_wp2
  go_ret
  exact ⟨rfl, rfl⟩
theorem listK_any (ao : Option Addr) (cap : Nat) (l : List (Int × Int)) (w : World) (r : KRow w ao cap l) :
    Calls Try.prog 98 #[.slice ao l.length cap] w fun e w' => ∃ a c, e = .returned (.slice a l.length c) ∧ KRow w' a c l ∧ (∀ ad, a = some ad → w.heap.size ≤ ad.block) ∧ Below w.heap.size w w' := by
  cases ao with
  | some ad =>
    refine (listK_some ad cap l w r).mono ?_
    rintro e w' ⟨rfl, h1, h2⟩
    exact ⟨_, _, rfl, KRow.own h1 r.max, hi_some (Nat.le_refl _), h2⟩
  | none =>
    have hc := r.nil rfl
    have hl : l = [] := List.eq_nil_of_length_eq_zero (by have := r.le; omega)
    subst hc hl
    refine (listK_none w).mono ?_
    rintro e w' ⟨rfl, rfl⟩
    exact ⟨_, _, rfl, krow_nil _, (fun _ h => by cases h), Below.refl _ _⟩

theorem newFr_any (c : Cl) (w : World) : Calls Try.prog 57 #[.agg #[.int .i64 c.kind, .int .i64 c.a, .int .i64 c.b, .int .i64 c.time, .int .i64 c.bk, .int .i64 c.slot]] w fun e w' => e = .returned (.agg #[.int .i64 (newF c).c.kind, .int .i64 (newF c).c.a, .int .i64 (newF c).c.b, .int .i64 (newF c).c.time, .int .i64 (newF c).c.bk, .int .i64 (newF c).c.slot, .int .i64 (newF c).pl, .int .i64 (newF c).cur, .int .i64 (newF c).prev, .int .i64 (newF c).slot, .int .i64 (newF c).n, .slice none (newF c).keys.length 0, .bool (newF c).done, .int .i64 (newF c).e]) ∧ Below w.heap.size w w' := by
  go_enter Try.func57, Try.ntmps57
  go_wp2
  refine bodyPost_ret (v := .agg #[.int .i64 (newF c).c.kind, .int .i64 (newF c).c.a, .int .i64 (newF c).c.b, .int .i64 (newF c).c.time, .int .i64 (newF c).c.bk, .int .i64 (newF c).c.slot, .int .i64 (newF c).pl, .int .i64 (newF c).cur, .int .i64 (newF c).prev, .int .i64 (newF c).slot, .int .i64 (newF c).n, .slice none (newF c).keys.length 0, .bool (newF c).done, .int .i64 (newF c).e]) (by simp [results, Try.results57, go_sem, newF]) rfl ⟨rfl, ?_⟩
  repeat (first | exact Below.refl _ _ | refine Below.alloc ?_ (by simp <;> omega) _ | refine Below.setCell ?_ (by simp <;> omega) _)

set_option maxHeartbeats 3200000 in
theorem endFr_hi (f : Fr) (e0 : Int) (aK : Option Addr) (cK : Nat) (w : World) (r : KRow w aK cK f.keys) :
    Calls Try.prog 77 #[.agg #[.int .i64 f.c.kind, .int .i64 f.c.a, .int .i64 f.c.b, .int .i64 f.c.time, .int .i64 f.c.bk, .int .i64 f.c.slot, .int .i64 f.pl, .int .i64 f.cur, .int .i64 f.prev, .int .i64 f.slot, .int .i64 f.n, .slice aK f.keys.length cK, .bool f.done, .int .i64 f.e], .int .i64 e0] w fun e w' => ∃ a c, e = .returned (.agg #[.int .i64 (endF f e0).c.kind, .int .i64 (endF f e0).c.a, .int .i64 (endF f e0).c.b, .int .i64 (endF f e0).c.time, .int .i64 (endF f e0).c.bk, .int .i64 (endF f e0).c.slot, .int .i64 (endF f e0).pl, .int .i64 (endF f e0).cur, .int .i64 (endF f e0).prev, .int .i64 (endF f e0).slot, .int .i64 (endF f e0).n, .slice a (endF f e0).keys.length c, .bool (endF f e0).done, .int .i64 (endF f e0).e]) ∧ KRow w' a c f.keys ∧ (∀ ad, a = some ad → w.heap.size ≤ ad.block) ∧ Below w.heap.size w w' := by
  obtain ⟨of, hof⟩ : ∃ o : Obj, o = .cells #[.int .i64 f.c.kind, .int .i64 f.c.a, .int .i64 f.c.b, .int .i64 f.c.time, .int .i64 f.c.bk, .int .i64 f.c.slot, .int .i64 f.pl, .int .i64 f.cur, .int .i64 f.prev, .int .i64 f.slot, .int .i64 f.n, .slice aK f.keys.length cK, .bool f.done, .int .i64 f.e] 33 := ⟨_, rfl⟩
  obtain ⟨oz, hoz⟩ : ∃ o : Obj, o = .cells #[.int .i64 0, .int .i64 0, .int .i64 0, .int .i64 0, .int .i64 0, .int .i64 0, .int .i64 0, .int .i64 0, .int .i64 0, .int .i64 0, .int .i64 0, .slice none 0 0, .bool false, .int .i64 0] 33 := ⟨_, rfl⟩
  have HE0 : Hid (Env w ((w.alloc of).alloc oz) _ []) := ((⟨Below.refl _ _, (fun p hp => by cases hp), (fun p hp => by cases hp)⟩ : Env w w [] []).alloc of).alloc oz
  rw [show (w.alloc of).heap.size = w.heap.size + 1 by simp] at HE0
  have HR : Hid (KRow w aK cK f.keys) := r
  clear r
  go_enter Try.func77, Try.ntmps77
  go_wp2_with fail
  rw [← hof, ← hoz]
  generalize (w.alloc of).alloc oz = W0 at *
  subst hof hoz
  refine (listK_any aK cK f.keys W0 (HR.out.below HE0.out.bl)).mono ?_
  rintro e w1 ⟨a1, c1, rfl, hr1, hi1, hb1⟩
  have HE1 : Hid _ := HE0.out.below hb1
  have HR1 : Hid (KRow w1 a1 c1 f.keys) := hr1
  have HHi : Hid (∀ ad, a1 = some ad → w.heap.size + 2 ≤ ad.block) := fun ad h => Nat.le_trans (HE0.out.lt (.head _)) (hi1 ad h)
  clear HE0 hb1 hr1 hi1
  have hbz := HE1.out.box _ (.head _)
  have hbf := HE1.out.box _ (.tail _ (.head _))
  obtain ⟨f0, f1, f2, f3, f4, f5, f6, f7, f8, f9, f10, f11, f12, f13, ff, fs⟩ := framef hbf
  obtain ⟨g0, g1, g2, g3, g4, g5, g6, g7, g8, g9, g10, g11, g12, g13, gf, gs⟩ := framef hbz
  have hne : w.heap.size + 1 ≠ w.heap.size := by omega
  have HBl : Hid (Below w.heap.size w w1) := HE1.out.bl
  clear hbz hbf HE1
  go_wp2
  refine bodyPost_ret (v := .agg #[.int .i64 (endF f e0).c.kind, .int .i64 (endF f e0).c.a, .int .i64 (endF f e0).c.b, .int .i64 (endF f e0).c.time, .int .i64 (endF f e0).c.bk, .int .i64 (endF f e0).c.slot, .int .i64 (endF f e0).pl, .int .i64 (endF f e0).cur, .int .i64 (endF f e0).prev, .int .i64 (endF f e0).slot, .int .i64 (endF f e0).n, .slice a1 (endF f e0).keys.length c1, .bool (endF f e0).done, .int .i64 (endF f e0).e]) (by simp [results, Try.results77, go_sem, endF, g0, g1, g2, g3, g4, g5, g6, g7, g8, g9, g10, g11, g12, g13]) rfl ⟨a1, c1, rfl, HR1.out.hi HHi.out (fun k hk => ?_), (fun ad h => Nat.le_trans (Nat.le_add_right _ 2) (HHi.out ad h)), ?_⟩
  · repeat rw [Below.heap_setCell _ _ _ _ (by dsimp only; omega)]
  · iterate 17 (refine Below.setCell ?_ (by dsimp only; omega) _)
    exact HBl.out

theorem endFr_any (f : Fr) (e0 : Int) (aK : Option Addr) (cK : Nat) (w : World) (r : KRow w aK cK f.keys) :
    Calls Try.prog 77 #[.agg #[.int .i64 f.c.kind, .int .i64 f.c.a, .int .i64 f.c.b, .int .i64 f.c.time, .int .i64 f.c.bk, .int .i64 f.c.slot, .int .i64 f.pl, .int .i64 f.cur, .int .i64 f.prev, .int .i64 f.slot, .int .i64 f.n, .slice aK f.keys.length cK, .bool f.done, .int .i64 f.e], .int .i64 e0] w fun e w' => ∃ a c, e = .returned (.agg #[.int .i64 (endF f e0).c.kind, .int .i64 (endF f e0).c.a, .int .i64 (endF f e0).c.b, .int .i64 (endF f e0).c.time, .int .i64 (endF f e0).c.bk, .int .i64 (endF f e0).c.slot, .int .i64 (endF f e0).pl, .int .i64 (endF f e0).cur, .int .i64 (endF f e0).prev, .int .i64 (endF f e0).slot, .int .i64 (endF f e0).n, .slice a (endF f e0).keys.length c, .bool (endF f e0).done, .int .i64 (endF f e0).e]) ∧ KRow w' a c f.keys ∧ Below w.heap.size w w' := by
  refine (endFr_hi f e0 aK cK w r).mono ?_
  rintro e w' ⟨a, c, rfl, h1, -, h2⟩
  exact ⟨a, c, rfl, h1, h2⟩

set_option maxHeartbeats 1600000 in
theorem equalK_true (a1 a2 : Option Addr) (c1 c2 : Nat) (l : List (Int × Int)) (w : World) (r1 : KRow w a1 c1 l) (r2 : KRow w a2 c2 l) :
    Calls Try.prog 29 #[.slice a1 l.length c1, .slice a2 l.length c2] w fun e w' => e = .returned (.bool true) ∧ Below w.heap.size w w' := by
  have m1 := r1.max
  have n1 : l.length ≤ 9223372036854775807 := by omega
  have HZ1 : Hid _ := r1.at_
  have HZ2 : Hid _ := r2.at_
  clear r1 r2
  go_enter Try.func29, Try.ntmps29
  go_wp2
  go_loopw [13] (fun i wr => ∃ k q : Nat, k ≤ l.length ∧ i = .int .i64 k ∧ wr = w.drewN q) (fun i _ => l.length - (intOf i).toNat)
  case atStart => exact ⟨0, 0, Nat.zero_le _, rfl, rfl⟩
  case round =>
    obtain ⟨k, q, hk, rfl, rfl⟩ := hrel
    by_cases hlt : k < l.length
    · rcases HZ1.out with h0 | ⟨b1, o1, rfl, hc1⟩
      · omega
      rcases HZ2.out with h0 | ⟨b2, o2, rfl, hc2⟩
      · omega
      obtain ⟨x0, x1⟩ := hc1 k hlt
      obtain ⟨y0, y1⟩ := hc2 k hlt
      rw [← World.cell?_drewN (n := q)] at x0 x1 y0 y1
      clear hc1 hc2
      generalize hwq : w.drewN q = wq at x0 x1 y0 y1 ⊢
      have HWQ : Hid _ := hwq
      clear hwq
      generalize l[k].1 = xa at x0 y0
      generalize l[k].2 = xb at x1 y1
      have se : ∀ W : World, (Op.equalIn 10000 27 (.agg #[.int .i64 xa, .int .i64 xb]) (.agg #[.int .i64 xa, .int .i64 xb])).run Try.prog W = .ok true W := fun W => by rw [kequal]; simp
      go_wp2_with fail
      go_quiet (fail)
      go_wp2
      go_roundw
      case rel => exact ⟨k + 1, q + nq, by omega, by go_num, by rw [← HWQ.out, World.drewN_drewN]⟩
      case measure => simp [intOf]; omega
    · go_wp2
      go_ret
      exact ⟨rfl, below_draws _ _ _⟩

theorem cequal (c : Cl) (w : World) : (Op.equalIn 10000 29 (.agg #[.int .i64 c.kind, .int .i64 c.a, .int .i64 c.b, .int .i64 c.time, .int .i64 c.bk, .int .i64 c.slot]) (.agg #[.int .i64 c.kind, .int .i64 c.a, .int .i64 c.b, .int .i64 c.time, .int .i64 c.bk, .int .i64 c.slot])).run Try.prog w = .ok true w := by
  have u3 := Try.underlying3
  have a3 := Try.isAgg3
  have z3 := Try.sizeOf3
  have a37 := Try.isAgg27
  have z37 := Try.sizeOf27
  have k9 := kequal9
  have hS : Try.prog.underlying 29 = some (.struct (Try.prog.fieldsOf 29)) := by kernel_rfl
  have hp : Try.prog.stoodInHeld 29 = false := by kernel_rfl
  rw [show (10000 : Nat) = 9999 + 1 from rfl, run_equalIn_agg w 9999 29 _ _ hS hp]
  simp only [Program.fieldsOf, Try.underlying29]
  clear hS
  go_simp

set_option maxHeartbeats 1600000 in
theorem sameFr_true (f : Fr) (aK aK' : Option Addr) (cK cK' : Nat) (w : World) (r : KRow w aK cK f.keys) (r' : KRow w aK' cK' f.keys) :
    Calls Try.prog 9 #[.agg #[.int .i64 f.c.kind, .int .i64 f.c.a, .int .i64 f.c.b, .int .i64 f.c.time, .int .i64 f.c.bk, .int .i64 f.c.slot, .int .i64 f.pl, .int .i64 f.cur, .int .i64 f.prev, .int .i64 f.slot, .int .i64 f.n, .slice aK f.keys.length cK, .bool f.done, .int .i64 f.e], .agg #[.int .i64 f.c.kind, .int .i64 f.c.a, .int .i64 f.c.b, .int .i64 f.c.time, .int .i64 f.c.bk, .int .i64 f.c.slot, .int .i64 f.pl, .int .i64 f.cur, .int .i64 f.prev, .int .i64 f.slot, .int .i64 f.n, .slice aK' f.keys.length cK', .bool f.done, .int .i64 f.e]] w fun e w' => e = .returned (.bool true) ∧ Below w.heap.size w w' := by
  obtain ⟨of, hof⟩ : ∃ o : Obj, o = .cells #[.int .i64 f.c.kind, .int .i64 f.c.a, .int .i64 f.c.b, .int .i64 f.c.time, .int .i64 f.c.bk, .int .i64 f.c.slot, .int .i64 f.pl, .int .i64 f.cur, .int .i64 f.prev, .int .i64 f.slot, .int .i64 f.n, .slice aK f.keys.length cK, .bool f.done, .int .i64 f.e] 33 := ⟨_, rfl⟩
  obtain ⟨oz, hoz⟩ : ∃ o : Obj, o = .cells #[.int .i64 f.c.kind, .int .i64 f.c.a, .int .i64 f.c.b, .int .i64 f.c.time, .int .i64 f.c.bk, .int .i64 f.c.slot, .int .i64 f.pl, .int .i64 f.cur, .int .i64 f.prev, .int .i64 f.slot, .int .i64 f.n, .slice aK' f.keys.length cK', .bool f.done, .int .i64 f.e] 33 := ⟨_, rfl⟩
  have HE0 : Hid (Env w ((w.alloc of).alloc oz) _ []) := ((⟨Below.refl _ _, (fun p hp => by cases hp), (fun p hp => by cases hp)⟩ : Env w w [] []).alloc of).alloc oz
  rw [show (w.alloc of).heap.size = w.heap.size + 1 by simp] at HE0
  have HR : Hid (KRow w aK cK f.keys) := r
  have HR' : Hid (KRow w aK' cK' f.keys) := r'
  clear r r'
  have ce := cequal f.c
  go_enter Try.func9, Try.ntmps9
  go_wp2_with fail
  rw [← hof, ← hoz]
  generalize (w.alloc of).alloc oz = W0 at *
  subst hof hoz
  refine (equalK_true aK aK' cK cK' f.keys W0 (HR.out.below HE0.out.bl) (HR'.out.below HE0.out.bl)).mono ?_
  rintro e w1 ⟨rfl, hb1⟩
  have HE1 : Hid _ := HE0.out.below hb1
  clear HE0 hb1
  obtain ⟨f0, f1, f2, f3, f4, f5, f6, f7, f8, f9, f10, f11, f12, f13, -, fs⟩ := framef (HE1.out.box _ (.tail _ (.head _)))
  obtain ⟨g0, g1, g2, g3, g4, g5, g6, g7, g8, g9, g10, g11, g12, g13, -, gs⟩ := framef (HE1.out.box _ (.head _))
  go_wp2
  go_ret
  exact ⟨rfl, HE1.out.bl⟩

theorem bucket_many (a b : Int) (n : Nat) (w : World) (hk : keyB a b = true) (hn : n < 1 ∨ 4 < n) (hm : n ≤ 9223372036854775807) :
    Calls Try.prog 91 #[.agg #[.int .i64 a, .int .i64 b], .int .i64 n] w fun e w' => e = .returned (.tuple #[.int .i64 0, .int .i64 3]) ∧ Below w.heap.size w w' := by
  have HK : Hid (keyB a b = true) := hk
  clear hk
  rcases hn with h | h
  · obtain rfl : n = 0 := by omega
    go_enter Try.func91, Try.ntmps91
    go_wp2_with (first | (go_at_call 87; refine (kcheck_t _ _ _ HK.out).mono ?_; rintro e w1 ⟨rfl, hb1⟩))
    go_ret2
    exact ⟨rfl, ((Below.refl _ _).alloc (Nat.le_refl _) _).trans (hb1.mono (by simp))⟩
  · have h1 : (1 : Int) ≤ n := by omega
    have h4 : (4 : Int) < n := by omega
    go_enter Try.func91, Try.ntmps91
    go_wp2_with (first | (go_at_call 87; refine (kcheck_t _ _ _ HK.out).mono ?_; rintro e w1 ⟨rfl, hb1⟩))
    go_ret2
    exact ⟨rfl, ((Below.refl _ _).alloc (Nat.le_refl _) _).trans (hb1.mono (by simp))⟩

/- key.Bucket of whatever key and number, the first of what it answers. -/
def bkK (a b : Int) (n : Nat) : Int := if keyB a b then (if 1 ≤ n ∧ n ≤ 4 then bucket a b n else 0) else 0
theorem bucket_all (a b : Int) (n : Nat) (w : World) (hm : n ≤ 9223372036854775807) :
    Calls Try.prog 91 #[.agg #[.int .i64 a, .int .i64 b], .int .i64 n] w fun e w' => ∃ x : Int, e = .returned (.tuple #[.int .i64 (bkK a b n), .int .i64 x]) ∧ Below w.heap.size w w' := by
  cases hk : keyB a b
  · refine (bucket_bad a b n w hk).mono ?_
    rintro e w1 ⟨rfl, hb⟩
    exact ⟨3, by unfold bkK; rw [hk]; rfl, hb⟩
  · by_cases hn : 1 ≤ n ∧ n ≤ 4
    · refine (bucket_ok a b n w hk hn.1 hn.2).mono ?_
      rintro e w1 ⟨rfl, hb⟩
      exact ⟨0, by unfold bkK; rw [hk, if_pos rfl, if_pos hn], hb⟩
    · refine (bucket_many a b n w hk (by omega) hm).mono ?_
      rintro e w1 ⟨rfl, hb⟩
      exact ⟨3, by unfold bkK; rw [hk, if_pos rfl, if_neg hn], hb⟩
theorem bkOf_own {nH : Nat} {c : Cl} (h : c.kind = 4 ∨ c.kind = 5) : bkOf nH c = c.bk := by unfold bkOf; rw [if_pos h]
theorem bkOf_key {nH : Nat} {c : Cl} (h : ¬ (c.kind = 4 ∨ c.kind = 5)) : bkOf nH c = bkK c.a c.b nH := by unfold bkOf bkK; rw [if_neg h]

theorem frBucket_any (aS aH aF aL : Option Addr) (nS nH nF nL cS cH cF cL : Nat) (now : Int) (c : Cl) (w : World) (hh : nH ≤ 9223372036854775807) :
    Calls Try.prog 68 #[.agg #[.slice aS nS cS, .slice aH nH cH, .slice aF nF cF, .slice aL nL cL, .int .i64 now], .agg #[.int .i64 c.kind, .int .i64 c.a, .int .i64 c.b, .int .i64 c.time, .int .i64 c.bk, .int .i64 c.slot]] w fun e w' => e = .returned (.int .i64 (bkOf nH c)) ∧ Below w.heap.size w w' := by
  have b0 : Below w.heap.size w ((w.alloc (.cells #[.slice aS nS cS, .slice aH nH cH, .slice aF nF cF, .slice aL nL cL, .int .i64 now] 25)).alloc (.cells #[.int .i64 c.kind, .int .i64 c.a, .int .i64 c.b, .int .i64 c.time, .int .i64 c.bk, .int .i64 c.slot] 29)) := below_alloc2 w _ _
  have hc := fun W => bucket_all c.a c.b nH W hh
  obtain ⟨E0, hE0⟩ : ∃ x, x = bkOf nH c := ⟨_, rfl⟩
  rw [← hE0]
  have HE0 : Hid (E0 = bkOf nH c) := hE0
  clear hE0
  by_cases h4 : c.kind = 4
  · have HV : Hid (E0 = c.bk) := HE0.out.trans (bkOf_own (.inl h4))
    rw [h4] at b0 ⊢
    go_enter Try.func68, Try.ntmps68
    go_wp2
    go_ret
    exact ⟨by rw [HV.out]; rfl, b0⟩
  by_cases h5 : c.kind = 5
  · have HV : Hid (E0 = c.bk) := HE0.out.trans (bkOf_own (.inr h5))
    rw [h5] at b0 ⊢
    go_enter Try.func68, Try.ntmps68
    go_wp2
    go_ret
    exact ⟨by rw [HV.out]; rfl, b0⟩
  have e4 : (c.kind == 4) = false := by rw [beq_eq_false_iff_ne]; exact h4
  have e5 : (c.kind == 5) = false := by rw [beq_eq_false_iff_ne]; exact h5
  have HV : Hid (E0 = bkK c.a c.b nH) := HE0.out.trans (bkOf_key (by omega))
  generalize bkK c.a c.b nH = bv at *
  clear h4 h5 HE0
  go_enter Try.func68, Try.ntmps68
  go_wp2_with (go_at_call 91; refine (hc _).mono ?_; rintro e w1 ⟨x1, rfl, hb1⟩)
  go_ret
  exact ⟨by rw [HV.out]; rfl, b0.trans (hb1.mono b0.size)⟩

set_option maxHeartbeats 1600000 in
theorem chainFor_any (aS aH aF aL : Option Addr) (nS nH nF nL cS cH cF cL : Nat) (now : Int) (c : Cl) (w : World) (hh : nH ≤ 9223372036854775807) :
    Calls Try.prog 40 #[.agg #[.slice aS nS cS, .slice aH nH cH, .slice aF nF cF, .slice aL nL cL, .int .i64 now], .agg #[.int .i64 c.kind, .int .i64 c.a, .int .i64 c.b, .int .i64 c.time, .int .i64 c.bk, .int .i64 c.slot]] w fun e w' => e = .returned (.int .i64 (bkOf nH c)) ∧ Below w.heap.size w w' := by
  obtain ⟨om, hom⟩ : ∃ o : Obj, o = .cells #[.slice aS nS cS, .slice aH nH cH, .slice aF nF cF, .slice aL nL cL, .int .i64 now] 25 := ⟨_, rfl⟩
  obtain ⟨oc, hoc⟩ : ∃ o : Obj, o = .cells #[.int .i64 c.kind, .int .i64 c.a, .int .i64 c.b, .int .i64 c.time, .int .i64 c.bk, .int .i64 c.slot] 29 := ⟨_, rfl⟩
  have HE : Hid (Env w ((w.alloc om).alloc oc) _ []) := ((⟨Below.refl _ _, (fun p hp => by cases hp), (fun p hp => by cases hp)⟩ : Env w w [] []).alloc om).alloc oc
  rw [show (w.alloc om).heap.size = w.heap.size + 1 by simp] at HE
  obtain ⟨E0, hE0⟩ : ∃ x, x = bkOf nH c := ⟨_, rfl⟩
  rw [← hE0]
  have HE0 : Hid (E0 = bkOf nH c) := hE0
  clear hE0
  by_cases h4 : c.kind = 4
  · have HV : Hid (E0 = c.bk) := HE0.out.trans (bkOf_own (.inl h4))
    subst hom hoc
    rw [h4] at HE ⊢
    go_enter Try.func40, Try.ntmps40
    go_wp2
    go_ret
    exact ⟨by rw [HV.out]; rfl, HE.out.bl⟩
  by_cases h5 : c.kind = 5
  · have HV : Hid (E0 = c.bk) := HE0.out.trans (bkOf_own (.inr h5))
    subst hom hoc
    rw [h5] at HE ⊢
    go_enter Try.func40, Try.ntmps40
    go_wp2
    go_ret
    exact ⟨by rw [HV.out]; rfl, HE.out.bl⟩
  have e4 : (c.kind == 4) = false := by rw [beq_eq_false_iff_ne]; exact h4
  have e5 : (c.kind == 5) = false := by rw [beq_eq_false_iff_ne]; exact h5
  have HV : Hid (E0 = bkK c.a c.b nH) := HE0.out.trans (bkOf_key (by omega))
  clear h4 h5 HE0
  have hk : ∀ W : World, Calls Try.prog 65 #[.agg #[.int .i64 c.a, .int .i64 c.b]] W fun e w' => e = .returned (.bool (keyB c.a c.b)) ∧ Below W.heap.size W w' := fun W => isKey_any c.a c.b W
  cases hK : keyB c.a c.b
  · rw [hK] at hk
    have HV0 : Hid (E0 = 0) := HV.out.trans (by unfold bkK; rw [hK]; rfl)
    go_enter Try.func40, Try.ntmps40
    go_wp2_with fail
    rw [← hom, ← hoc]
    generalize (w.alloc om).alloc oc = W0 at *
    subst hom hoc
    refine (hk W0).mono ?_
    rintro e w1 ⟨rfl, hb1⟩
    have HE1 : Hid _ := HE.out.below hb1
    clear HE hb1
    go_wp2
    go_ret
    exact ⟨by rw [HV0.out]; rfl, HE1.out.bl⟩
  rw [hK] at hk
  go_enter Try.func40, Try.ntmps40
  go_wp2_with fail
  rw [← hom, ← hoc]
  generalize (w.alloc om).alloc oc = W0 at *
  subst hom hoc
  refine (hk W0).mono ?_
  rintro e w1 ⟨rfl, hb1⟩
  have HE1 : Hid _ := HE.out.below hb1
  clear HE hb1
  obtain ⟨q0, q1, q2, q3, q4, -, -, -, -, -, qs⟩ := boxf (HE1.out.box _ (.tail _ (.head _)))
  obtain ⟨c0, c1, c2, c3, c4, c5, cs⟩ := callf (HE1.out.box _ (.head _))
  by_cases hn1 : nH < 1
  · obtain rfl : nH = 0 := by omega
    have HV0 : Hid (E0 = 0) := HV.out.trans (by unfold bkK; rw [hK, if_pos rfl, if_neg (by omega)])
    go_wp2
    go_ret
    exact ⟨by rw [HV0.out]; rfl, HE1.out.bl⟩
  by_cases hn4 : 4 < nH
  · have i1 : (1 : Int) ≤ nH := by omega
    have i4 : (4 : Int) < nH := by omega
    have HV0 : Hid (E0 = 0) := HV.out.trans (by unfold bkK; rw [hK, if_pos rfl, if_neg (by omega)])
    go_wp2
    go_ret
    exact ⟨by rw [HV0.out]; rfl, HE1.out.bl⟩
  have i1 : (1 : Int) ≤ nH := by omega
  have i4 : (nH : Int) ≤ 4 := by omega
  have HV0 : Hid (E0 = bucket c.a c.b nH) := HV.out.trans (by unfold bkK; rw [hK, if_pos rfl, if_pos (by omega)])
  have hc := fun W => bucketOf_any c.a c.b nH W hK (by omega) (by omega)
  generalize bucket c.a c.b nH = bv at *
  go_wp2_with (go_at_call 78; refine (hc _).mono ?_; rintro e w2 ⟨rfl, hb2⟩)
  go_ret
  exact ⟨by rw [HV0.out]; rfl, HE1.out.bl.trans (hb2.mono HE1.out.bl.size)⟩




end Go.Proofs.Ytdbilofhcadmoac.mm

/- The contracts of look's parts: what they answer, for memory of one's own. -/
namespace Go.Proofs.Ytdbilofhcadmoac.mm
open Go.ChangeShapes Go.WideShapes Go.ChangeAt Go.RowKit Go.Joins
set_option maxRecDepth 100000
set_option linter.unusedVariables false

theorem KRow.fine {w w' : World} {Z : Nat → Prop} {ao : Option Addr} {cap : Nat} {l : List (Int × Int)} (r : KRow w ao cap l) (hf : Fine w w' Z) (hz : ∀ ad, ao = some ad → ¬ Z ad.block) : KRow w' ao cap l := by
  refine ⟨r.le, r.max, r.nil, ?_⟩
  rcases r.at_ with h | ⟨b, o, e, hc⟩
  · exact .inl h
  · refine .inr ⟨b, o, e, fun i hi => ?_⟩
    have hb : b < w.heap.size := by
      have := (hc i hi).1
      exact cell_lt this
    have q : ∀ x, w'.cell? ⟨b, x, none⟩ = w.cell? ⟨b, x, none⟩ := fun x => World.cell?_of_block (a := ⟨b, x, none⟩) (hf.block b hb (hz _ e))
    rw [q, q]
    exact hc i hi

theorem to_any (f : Fr) (n : Int) (aK : Option Addr) (cK : Nat) (w : World) :
    Calls Try.prog 69 #[.agg #[.int .i64 f.c.kind, .int .i64 f.c.a, .int .i64 f.c.b, .int .i64 f.c.time, .int .i64 f.c.bk, .int .i64 f.c.slot, .int .i64 f.pl, .int .i64 f.cur, .int .i64 f.prev, .int .i64 f.slot, .int .i64 f.n, .slice aK f.keys.length cK, .bool f.done, .int .i64 f.e], .int .i64 n] w fun e w' => e = .returned (.agg #[.int .i64 (toF f n).c.kind, .int .i64 (toF f n).c.a, .int .i64 (toF f n).c.b, .int .i64 (toF f n).c.time, .int .i64 (toF f n).c.bk, .int .i64 (toF f n).c.slot, .int .i64 (toF f n).pl, .int .i64 (toF f n).cur, .int .i64 (toF f n).prev, .int .i64 (toF f n).slot, .int .i64 (toF f n).n, .slice aK (toF f n).keys.length cK, .bool (toF f n).done, .int .i64 (toF f n).e]) ∧ Below w.heap.size w w' := by
  go_enter Try.func69, Try.ntmps69
  go_wp2
  refine bodyPost_ret (v := .agg #[.int .i64 (toF f n).c.kind, .int .i64 (toF f n).c.a, .int .i64 (toF f n).c.b, .int .i64 (toF f n).c.time, .int .i64 (toF f n).c.bk, .int .i64 (toF f n).c.slot, .int .i64 (toF f n).pl, .int .i64 (toF f n).cur, .int .i64 (toF f n).prev, .int .i64 (toF f n).slot, .int .i64 (toF f n).n, .slice aK (toF f n).keys.length cK, .bool (toF f n).done, .int .i64 (toF f n).e]) (by simp [results, Try.results69, go_sem, toF]) rfl ⟨rfl, ?_⟩
  repeat (first | exact Below.refl _ _ | refine Below.alloc ?_ (by simp <;> omega) _ | refine Below.setCell ?_ (by simp <;> omega) _)

def stN (f : Fr) : Int := if f.cur ≤ 0 then 0 else f.cur - 1

theorem standsAt_any (M : Mm) (f : Fr) (B : Nat) (aS aH aF aL : Option Addr) (cS cH cF cL : Nat) (aK : Option Addr) (cK : Nat) (w : World)
    (hB : w.heap[B]? = some (.cells #[.slice aS M.slots.length cS, .slice aH M.heads.length cH, .slice aF M.free.length cF, .slice aL M.locks.length cL, .int .i64 M.now] 25 (0, 0)))
    (hc : f.cur ≤ 1000) (hn : M.slots.length ≤ 1000) :
    Calls Try.prog 71 #[.pointer (some ⟨B, 0, none⟩), .agg #[.int .i64 f.c.kind, .int .i64 f.c.a, .int .i64 f.c.b, .int .i64 f.c.time, .int .i64 f.c.bk, .int .i64 f.c.slot, .int .i64 f.pl, .int .i64 f.cur, .int .i64 f.prev, .int .i64 f.slot, .int .i64 f.n, .slice aK f.keys.length cK, .bool f.done, .int .i64 f.e]] w fun e w' => e = .returned (.tuple #[.int .i64 (stN f), .bool (isAt M f)]) ∧ Below w.heap.size w w' := by
  obtain ⟨q0, q1, q2, q3, q4, -, -, -, -, -, qs⟩ := boxf hB
  clear hB
  by_cases h : f.cur ≤ 0
  · have e1 : stN f = 0 := by unfold stN; rw [if_pos h]
    have e2 : isAt M f = false := by
      cases hx : isAt M f
      · rfl
      · rw [isAt_iff] at hx; omega
    rw [e1, e2]
    go_enter Try.func71, Try.ntmps71
    go_wp2_with (go_at_call 80; refine (slotOf_no _ _ h).mono ?_; rintro e w1 ⟨rfl, rfl⟩)
    go_ret2
    exact ⟨rfl, one_below _ _⟩
  · have h' : 0 < f.cur := by omega
    have e1 : stN f = f.cur - 1 := by unfold stN; rw [if_neg h]
    have e2 : isAt M f = inB (f.cur - 1) 0 ((M.slots.length : Int) - 1) := by
      rw [Bool.eq_iff_iff, isAt_iff, inB_iff]
      omega
    rw [e1, e2]
    have HS : Hid (∀ W : World, Calls Try.prog 88 #[.agg #[.slice aS M.slots.length cS, .slice aH M.heads.length cH, .slice aF M.free.length cF, .slice aL M.locks.length cL, .int .i64 M.now], .int .i64 (f.cur - 1)] W fun e w' => e = .returned (.bool (inB (f.cur - 1) 0 ((M.slots.length : Int) - 1))) ∧ Below W.heap.size W w') := fun W => isSlot_any aS aH aF aL _ _ _ _ cS cH cF cL M.now (f.cur - 1) W (by omega)
    generalize inB (f.cur - 1) 0 ((M.slots.length : Int) - 1) = r at *
    clear e1 e2 hn
    go_enter Try.func71, Try.ntmps71
    go_wp2_with (first | (go_at_call 80; refine (slotOf_is _ _ h' hc).mono ?_; rintro e w1 ⟨rfl, rfl⟩) | (go_at_call 88; refine (HS.out _).mono ?_; rintro e w2 ⟨rfl, hb2⟩))
    go_ret2
    exact ⟨rfl, (one_below _ _).trans (hb2.mono (by simp))⟩



end Go.Proofs.Ytdbilofhcadmoac.mm

/- The contracts of look's parts that change nothing: begin, pass, see, prove. -/
namespace Go.Proofs.Ytdbilofhcadmoac.mm
open Go.ChangeShapes Go.WideShapes Go.ChangeAt Go.RowKit Go.Joins
set_option maxRecDepth 100000
set_option linter.unusedVariables false

def zeroFr : Obj := .cells #[.int .i64 0, .int .i64 0, .int .i64 0, .int .i64 0, .int .i64 0, .int .i64 0, .int .i64 0, .int .i64 0, .int .i64 0, .int .i64 0, .int .i64 0, .slice none 0 0, .bool false, .int .i64 0] 33

/- What a part of a Look carries: the memory, and its frame in a box that is the call's own; a second box for the answer. -/
structure Lk (w w1 : World) (B lo : Nat) (aS aH aF aL : Option Addr) (cS cH cF cL : Nat) (M : Mm) (f : Fr) (aK : Option Addr) (cK : Nat) : Prop where
  bl : Below w.heap.size w w1
  m : Mine w1 B lo aS aH aF aL cS cH cF cL M
  lt : ∀ k, Foot B aS aH aF aL k → k < w.heap.size
  fb : w1.heap[w.heap.size]? = some (.cells #[.int .i64 f.c.kind, .int .i64 f.c.a, .int .i64 f.c.b, .int .i64 f.c.time, .int .i64 f.c.bk, .int .i64 f.c.slot, .int .i64 f.pl, .int .i64 f.cur, .int .i64 f.prev, .int .i64 f.slot, .int .i64 f.n, .slice aK f.keys.length cK, .bool f.done, .int .i64 f.e] 33 (0, 0))
  zb : w1.heap[w.heap.size + 1]? = some zeroFr

theorem foot_lt {w : World} {B lo : Nat} {aS aH aF aL : Option Addr} {cS cH cF cL : Nat} {M : Mm} (m : Mine w B lo aS aH aF aL cS cH cF cL M) : ∀ k, Foot B aS aH aF aL k → k < w.heap.size := by
  rintro k (rfl | ⟨ad, rfl, rfl⟩ | ⟨ad, rfl, rfl⟩ | ⟨ad, rfl, rfl⟩ | ⟨ad, rfl, rfl⟩)
  · exact lt_of_block m.box
  · exact (m.c.s.lt _ rfl).2
  · exact (m.c.h.lt _ rfl).2
  · exact (m.c.f.lt _ rfl).2
  · exact (m.c.l.lt _ rfl).2

section
variable {w w1 w2 : World} {B lo : Nat} {aS aH aF aL : Option Addr} {cS cH cF cL : Nat} {M : Mm} {f : Fr} {aK : Option Addr} {cK : Nat}
theorem Lk.below (h : Lk w w1 B lo aS aH aF aL cS cH cF cL M f aK cK) (hb : Below w1.heap.size w1 w2) : Lk w w2 B lo aS aH aF aL cS cH cF cL M f aK cK :=
  ⟨h.bl.trans (hb.mono h.bl.size), h.m.below hb, h.lt, (hb.block _ (lt_of_block h.fb)).trans h.fb, (hb.block _ (lt_of_block h.zb)).trans h.zb⟩
theorem Lk.first (m : Mine w B lo aS aH aF aL cS cH cF cL M) (f : Fr) (aK : Option Addr) (cK : Nat) {o oz : Obj} (ho : o = .cells #[.int .i64 f.c.kind, .int .i64 f.c.a, .int .i64 f.c.b, .int .i64 f.c.time, .int .i64 f.c.bk, .int .i64 f.c.slot, .int .i64 f.pl, .int .i64 f.cur, .int .i64 f.prev, .int .i64 f.slot, .int .i64 f.n, .slice aK f.keys.length cK, .bool f.done, .int .i64 f.e] 33) (hz : oz = zeroFr) : Lk w ((w.alloc o).alloc oz) B lo aS aH aF aL cS cH cF cL M f aK cK := by
  subst ho hz
  have h2 := below_alloc2 w (.cells #[.int .i64 f.c.kind, .int .i64 f.c.a, .int .i64 f.c.b, .int .i64 f.c.time, .int .i64 f.c.bk, .int .i64 f.c.slot, .int .i64 f.pl, .int .i64 f.cur, .int .i64 f.prev, .int .i64 f.slot, .int .i64 f.n, .slice aK f.keys.length cK, .bool f.done, .int .i64 f.e] 33) zeroFr
  refine ⟨h2, m.below h2, foot_lt m, ?_, ?_⟩
  · rw [Below.heap_alloc _ _ _ (by simp)]; exact heap_alloc_new w _
  · have := heap_alloc_new (w.alloc (.cells #[.int .i64 f.c.kind, .int .i64 f.c.a, .int .i64 f.c.b, .int .i64 f.c.time, .int .i64 f.c.bk, .int .i64 f.c.slot, .int .i64 f.pl, .int .i64 f.cur, .int .i64 f.prev, .int .i64 f.slot, .int .i64 f.n, .slice aK f.keys.length cK, .bool f.done, .int .i64 f.e] 33)) zeroFr
    simpa using this
theorem Lk.store (h : Lk w w1 B lo aS aH aF aL cS cH cF cL M f aK cK) (j : Nat) (v : Value) (g : Fr) (hg : (#[.int .i64 f.c.kind, .int .i64 f.c.a, .int .i64 f.c.b, .int .i64 f.c.time, .int .i64 f.c.bk, .int .i64 f.c.slot, .int .i64 f.pl, .int .i64 f.cur, .int .i64 f.prev, .int .i64 f.slot, .int .i64 f.n, .slice aK f.keys.length cK, .bool f.done, .int .i64 f.e] : Array Value).setIfInBounds j v = #[.int .i64 g.c.kind, .int .i64 g.c.a, .int .i64 g.c.b, .int .i64 g.c.time, .int .i64 g.c.bk, .int .i64 g.c.slot, .int .i64 g.pl, .int .i64 g.cur, .int .i64 g.prev, .int .i64 g.slot, .int .i64 g.n, .slice aK g.keys.length cK, .bool g.done, .int .i64 g.e]) :
    Lk w (w1.setCell ⟨w.heap.size, j, none⟩ v) B lo aS aH aF aL cS cH cF cL M g aK cK := by
  refine ⟨h.bl.setCell (by simp) _, h.m.same (by simp) (fun k _ hk => ?_), h.lt, ?_, by rw [Below.heap_setCell _ _ _ _ (by dsimp only; omega)]; exact h.zb⟩
  · have := h.lt k hk
    rw [Below.heap_setCell _ _ _ _ (by dsimp only; omega)]
  · rw [block_setCell h.fb v, hg]
end

theorem set14 {w w1 : World} {n : Nat} {v0 v1 v2 v3 v4 v5 v6 v7 v8 v9 v10 v11 v12 v13 : Value} (h : Below n w w1) : Below n w ((((((((((((((w1.setCell ⟨n + 1, 0, none⟩ v0).setCell ⟨n + 1, 1, none⟩ v1).setCell ⟨n + 1, 2, none⟩ v2).setCell ⟨n + 1, 3, none⟩ v3).setCell ⟨n + 1, 4, none⟩ v4).setCell ⟨n + 1, 5, none⟩ v5).setCell ⟨n + 1, 6, none⟩ v6).setCell ⟨n + 1, 7, none⟩ v7).setCell ⟨n + 1, 8, none⟩ v8).setCell ⟨n + 1, 9, none⟩ v9).setCell ⟨n + 1, 10, none⟩ v10).setCell ⟨n + 1, 11, none⟩ v11).setCell ⟨n + 1, 12, none⟩ v12).setCell ⟨n + 1, 13, none⟩ v13) := by
  iterate 14 (refine Below.setCell ?_ (by dsimp only; omega) _)
  exact h

end Go.Proofs.Ytdbilofhcadmoac.mm

/- The contracts of look's parts that change nothing: pass. -/
namespace Go.Proofs.Ytdbilofhcadmoac.mm
open Go.ChangeShapes Go.WideShapes Go.ChangeAt Go.RowKit Go.Joins
set_option maxRecDepth 100000
set_option linter.unusedVariables false

theorem slotAt_cells {w : World} {lo gS n cap : Nat} {M : Mm} (h : w.ownsRow lo 53 6 (.slice (some ⟨gS, 0, none⟩) n cap) n (encS M.slots)) {j : Nat} (hj : j < M.slots.length) {s : Sl} (hs : s = slotAt M j) :
    w.cell? ⟨gS, j * 6, none⟩ = some (.int .i64 s.refs) ∧ w.cell? ⟨gS, j * 6 + 1, none⟩ = some (.int .i64 s.a) ∧ w.cell? ⟨gS, j * 6 + 2, none⟩ = some (.int .i64 s.b) ∧
    w.cell? ⟨gS, j * 6 + 3, none⟩ = some (.int .i64 s.unt) ∧ w.cell? ⟨gS, j * 6 + 4, none⟩ = some (.bool s.inn) ∧ w.cell? ⟨gS, j * 6 + 5, none⟩ = some (.int .i64 s.next) ∧ ∀ q, w.frozen? ⟨gS, q, none⟩ = false := by
  have e : s = M.slots[j] := by rw [hs]; simp [slotAt, List.getD_eq_getElem?_getD, hj]
  rw [e]
  exact row_cells h hj

end Go.Proofs.Ytdbilofhcadmoac.mm

/- The contract of look's part see. -/
namespace Go.Proofs.Ytdbilofhcadmoac.mm
open Go.ChangeShapes Go.WideShapes Go.ChangeAt Go.RowKit Go.Joins Go.Deep Go.Sort
set_option maxRecDepth 100000
set_option linter.unusedVariables false

/- A frame is answered, its keys lie there as before, or anew. -/
def Ret (w w' : World) (e : Ending) (g : Fr) (aK : Option Addr) (cK : Nat) : Prop :=
  ∃ a c, e = .returned (.agg #[.int .i64 g.c.kind, .int .i64 g.c.a, .int .i64 g.c.b, .int .i64 g.c.time, .int .i64 g.c.bk, .int .i64 g.c.slot, .int .i64 g.pl, .int .i64 g.cur, .int .i64 g.prev, .int .i64 g.slot, .int .i64 g.n, .slice a g.keys.length c, .bool g.done, .int .i64 g.e]) ∧ KRow w' a c g.keys ∧ (∀ ad, a = some ad → aK = some ad ∨ w.heap.size ≤ ad.block) ∧ (g.done = false → a = aK ∧ c = cK)

theorem krow14 {w1 : World} {n : Nat} {a : Option Addr} {c : Nat} {l : List (Int × Int)} {v0 v1 v2 v3 v4 v5 v6 v7 v8 v9 v10 v11 v12 v13 : Value} (r : KRow w1 a c l) (h : ∀ ad, a = some ad → n + 2 ≤ ad.block) : KRow ((((((((((((((w1.setCell ⟨n + 1, 0, none⟩ v0).setCell ⟨n + 1, 1, none⟩ v1).setCell ⟨n + 1, 2, none⟩ v2).setCell ⟨n + 1, 3, none⟩ v3).setCell ⟨n + 1, 4, none⟩ v4).setCell ⟨n + 1, 5, none⟩ v5).setCell ⟨n + 1, 6, none⟩ v6).setCell ⟨n + 1, 7, none⟩ v7).setCell ⟨n + 1, 8, none⟩ v8).setCell ⟨n + 1, 9, none⟩ v9).setCell ⟨n + 1, 10, none⟩ v10).setCell ⟨n + 1, 11, none⟩ v11).setCell ⟨n + 1, 12, none⟩ v12).setCell ⟨n + 1, 13, none⟩ v13) a c l := by
  refine r.hi h (fun k hk => ?_)
  repeat rw [Below.heap_setCell _ _ _ _ (by dsimp only; omega)]

end Go.Proofs.Ytdbilofhcadmoac.mm

/- What look's parts that change memory carry; the contract of hold. -/
namespace Go.Proofs.Ytdbilofhcadmoac.mm
open Go.ChangeShapes Go.WideShapes Go.ChangeAt Go.RowKit Go.Joins
set_option maxRecDepth 100000
set_option linter.unusedVariables false

structure Lk2 (w w1 : World) (Z : Nat → Prop) (B lo : Nat) (M : Mm) (f : Fr) (aK : Option Addr) (cK : Nat) : Prop where
  zl : ∀ k, Z k → k < w.heap.size
  fine : Fine w w1 Z
  mine : ∃ aS aH aF aL cS cH cF cL, Mine w1 B lo aS aH aF aL cS cH cF cL M ∧ ∀ k, Foot B aS aH aF aL k → Z k ∨ w.heap.size + 2 ≤ k
  fb : w1.heap[w.heap.size]? = some (.cells #[.int .i64 f.c.kind, .int .i64 f.c.a, .int .i64 f.c.b, .int .i64 f.c.time, .int .i64 f.c.bk, .int .i64 f.c.slot, .int .i64 f.pl, .int .i64 f.cur, .int .i64 f.prev, .int .i64 f.slot, .int .i64 f.n, .slice aK f.keys.length cK, .bool f.done, .int .i64 f.e] 33 (0, 0))
  zb : w1.heap[w.heap.size + 1]? = some zeroFr

/- Behind a change of memory that was done for this part. -/
theorem Lk.after {w w1 w2 : World} {B lo : Nat} {aS aH aF aL : Option Addr} {cS cH cF cL : Nat} {M M' : Mm} {f : Fr} {aK : Option Addr} {cK : Nat} (h : Lk w w1 B lo aS aH aF aL cS cH cF cL M f aK cK)
    (hh : Has w2 B lo (Up w1 (Foot B aS aH aF aL)) M') (hf : Fine w1 w2 (Foot B aS aH aF aL)) : Lk2 w w2 (Foot B aS aH aF aL) B lo M' f aK cK := by
  have s1 := lt_of_block h.fb
  have s2 := lt_of_block h.zb
  refine ⟨h.lt, ?_, ?_, ?_, ?_⟩
  · exact (Fine.of_below (w := w) (w' := w1) _ h.bl).trans hf fun _ _ h => h
  · obtain ⟨bS, bH, bF, bL, dS, dH, dF, dL, m, hz⟩ := hh
    refine ⟨bS, bH, bF, bL, dS, dH, dF, dL, m, fun k hk => ?_⟩
    rcases hz k hk with h3 | h3
    · exact .inl h3
    · exact .inr (by omega)
  · exact (hf.block _ s1 (fun h3 => by have := h.lt _ h3; omega)).trans h.fb
  · exact (hf.block _ s2 (fun h3 => by have := h.lt _ h3; omega)).trans h.zb

theorem Lk.end14 {w w1 : World} {B lo : Nat} {aS aH aF aL : Option Addr} {cS cH cF cL : Nat} {M : Mm} {f : Fr} {aK : Option Addr} {cK : Nat} {v0 v1 v2 v3 v4 v5 v6 v7 v8 v9 v10 v11 v12 v13 : Value} (h : Lk w w1 B lo aS aH aF aL cS cH cF cL M f aK cK) : Has ((((((((((((((w1.setCell ⟨w.heap.size + 1, 0, none⟩ v0).setCell ⟨w.heap.size + 1, 1, none⟩ v1).setCell ⟨w.heap.size + 1, 2, none⟩ v2).setCell ⟨w.heap.size + 1, 3, none⟩ v3).setCell ⟨w.heap.size + 1, 4, none⟩ v4).setCell ⟨w.heap.size + 1, 5, none⟩ v5).setCell ⟨w.heap.size + 1, 6, none⟩ v6).setCell ⟨w.heap.size + 1, 7, none⟩ v7).setCell ⟨w.heap.size + 1, 8, none⟩ v8).setCell ⟨w.heap.size + 1, 9, none⟩ v9).setCell ⟨w.heap.size + 1, 10, none⟩ v10).setCell ⟨w.heap.size + 1, 11, none⟩ v11).setCell ⟨w.heap.size + 1, 12, none⟩ v12).setCell ⟨w.heap.size + 1, 13, none⟩ v13) B lo (Up w (Foot B aS aH aF aL)) M ∧
    Fine w ((((((((((((((w1.setCell ⟨w.heap.size + 1, 0, none⟩ v0).setCell ⟨w.heap.size + 1, 1, none⟩ v1).setCell ⟨w.heap.size + 1, 2, none⟩ v2).setCell ⟨w.heap.size + 1, 3, none⟩ v3).setCell ⟨w.heap.size + 1, 4, none⟩ v4).setCell ⟨w.heap.size + 1, 5, none⟩ v5).setCell ⟨w.heap.size + 1, 6, none⟩ v6).setCell ⟨w.heap.size + 1, 7, none⟩ v7).setCell ⟨w.heap.size + 1, 8, none⟩ v8).setCell ⟨w.heap.size + 1, 9, none⟩ v9).setCell ⟨w.heap.size + 1, 10, none⟩ v10).setCell ⟨w.heap.size + 1, 11, none⟩ v11).setCell ⟨w.heap.size + 1, 12, none⟩ v12).setCell ⟨w.heap.size + 1, 13, none⟩ v13) (Foot B aS aH aF aL) := by
  refine ⟨⟨aS, aH, aF, aL, cS, cH, cF, cL, h.m.same (by simp) (fun k _ hk => ?_), fun k hk => .inl hk⟩, .of_below _ (set14 h.bl)⟩
  have := h.lt k hk
  repeat rw [Below.heap_setCell _ _ _ _ (by dsimp only; omega)]

section
variable {w w1 w2 : World} {Z : Nat → Prop} {B lo : Nat} {M : Mm} {f : Fr} {aK : Option Addr} {cK : Nat}
theorem Lk2.below (h : Lk2 w w1 Z B lo M f aK cK) (hb : Below w1.heap.size w1 w2) : Lk2 w w2 Z B lo M f aK cK := by
  obtain ⟨aS, aH, aF, aL, cS, cH, cF, cL, m, hz⟩ := h.mine
  exact ⟨h.zl, h.fine.below hb, ⟨aS, aH, aF, aL, cS, cH, cF, cL, m.below hb, hz⟩, (hb.block _ (lt_of_block h.fb)).trans h.fb, (hb.block _ (lt_of_block h.zb)).trans h.zb⟩
theorem Lk2.store (h : Lk2 w w1 Z B lo M f aK cK) (j : Nat) (v : Value) (g : Fr) (hg : (#[.int .i64 f.c.kind, .int .i64 f.c.a, .int .i64 f.c.b, .int .i64 f.c.time, .int .i64 f.c.bk, .int .i64 f.c.slot, .int .i64 f.pl, .int .i64 f.cur, .int .i64 f.prev, .int .i64 f.slot, .int .i64 f.n, .slice aK f.keys.length cK, .bool f.done, .int .i64 f.e] : Array Value).setIfInBounds j v = #[.int .i64 g.c.kind, .int .i64 g.c.a, .int .i64 g.c.b, .int .i64 g.c.time, .int .i64 g.c.bk, .int .i64 g.c.slot, .int .i64 g.pl, .int .i64 g.cur, .int .i64 g.prev, .int .i64 g.slot, .int .i64 g.n, .slice aK g.keys.length cK, .bool g.done, .int .i64 g.e]) :
    Lk2 w (w1.setCell ⟨w.heap.size, j, none⟩ v) Z B lo M g aK cK := by
  obtain ⟨aS, aH, aF, aL, cS, cH, cF, cL, m, hz⟩ := h.mine
  refine ⟨h.zl, h.fine.set (.inr (Nat.le_refl _)) _ _, ⟨aS, aH, aF, aL, cS, cH, cF, cL, m.same (by simp) (fun k _ hk => ?_), hz⟩, ?_, by rw [Below.heap_setCell _ _ _ _ (by dsimp only; omega)]; exact h.zb⟩
  · have hk' : k ≠ w.heap.size := by
      rcases hz k hk with h3 | h3
      · have := h.zl k h3; omega
      · omega
    rw [Below.heap_setCell _ _ _ _ (by dsimp only; exact hk')]
  · rw [block_setCell h.fb v, hg]
theorem Lk2.same (h : Lk2 w w1 Z B lo M f aK cK) (hs : w1.heap.size ≤ w2.heap.size) (ho : w2.os = w1.os ∧ w2.tape = w1.tape ∧ w2.output = w1.output) (hk : ∀ k, k ≠ w.heap.size + 1 → w2.heap[k]? = w1.heap[k]?) : Has w2 B lo (Up w Z) M ∧ Fine w w2 Z := by
  obtain ⟨aS, aH, aF, aL, cS, cH, cF, cL, m, hz⟩ := h.mine
  refine ⟨⟨aS, aH, aF, aL, cS, cH, cF, cL, m.same hs (fun k _ h1 => hk k ?_), fun k h1 => ?_⟩, ⟨ho.1.trans h.fine.os, ho.2.1.trans h.fine.tape, ho.2.2.trans h.fine.output, Nat.le_trans h.fine.size hs, fun k h1 h2 => (hk k (by omega)).trans (h.fine.block k h1 h2)⟩⟩
  · rcases hz k h1 with h3 | h3
    · have := h.zl k h3; omega
    · omega
  · rcases hz k h1 with h3 | h3
    · exact .inl h3
    · exact .inr (by omega)
theorem Lk2.end14 {v0 v1 v2 v3 v4 v5 v6 v7 v8 v9 v10 v11 v12 v13 : Value} (h : Lk2 w w1 Z B lo M f aK cK) : Has ((((((((((((((w1.setCell ⟨w.heap.size + 1, 0, none⟩ v0).setCell ⟨w.heap.size + 1, 1, none⟩ v1).setCell ⟨w.heap.size + 1, 2, none⟩ v2).setCell ⟨w.heap.size + 1, 3, none⟩ v3).setCell ⟨w.heap.size + 1, 4, none⟩ v4).setCell ⟨w.heap.size + 1, 5, none⟩ v5).setCell ⟨w.heap.size + 1, 6, none⟩ v6).setCell ⟨w.heap.size + 1, 7, none⟩ v7).setCell ⟨w.heap.size + 1, 8, none⟩ v8).setCell ⟨w.heap.size + 1, 9, none⟩ v9).setCell ⟨w.heap.size + 1, 10, none⟩ v10).setCell ⟨w.heap.size + 1, 11, none⟩ v11).setCell ⟨w.heap.size + 1, 12, none⟩ v12).setCell ⟨w.heap.size + 1, 13, none⟩ v13) B lo (Up w Z) M ∧
    Fine w ((((((((((((((w1.setCell ⟨w.heap.size + 1, 0, none⟩ v0).setCell ⟨w.heap.size + 1, 1, none⟩ v1).setCell ⟨w.heap.size + 1, 2, none⟩ v2).setCell ⟨w.heap.size + 1, 3, none⟩ v3).setCell ⟨w.heap.size + 1, 4, none⟩ v4).setCell ⟨w.heap.size + 1, 5, none⟩ v5).setCell ⟨w.heap.size + 1, 6, none⟩ v6).setCell ⟨w.heap.size + 1, 7, none⟩ v7).setCell ⟨w.heap.size + 1, 8, none⟩ v8).setCell ⟨w.heap.size + 1, 9, none⟩ v9).setCell ⟨w.heap.size + 1, 10, none⟩ v10).setCell ⟨w.heap.size + 1, 11, none⟩ v11).setCell ⟨w.heap.size + 1, 12, none⟩ v12).setCell ⟨w.heap.size + 1, 13, none⟩ v13) Z := by
  have hb := set14 (w := w1) (w1 := w1) (n := w.heap.size) (v0 := v0) (v1 := v1) (v2 := v2) (v3 := v3) (v4 := v4) (v5 := v5) (v6 := v6) (v7 := v7) (v8 := v8) (v9 := v9) (v10 := v10) (v11 := v11) (v12 := v12) (v13 := v13) (Below.refl _ _)
  refine h.same hb.size ⟨hb.os, hb.tape, hb.output⟩ (fun k hk => ?_)
  repeat rw [Below.heap_setCell _ _ _ _ (by dsimp only; exact hk)]
end

end Go.Proofs.Ytdbilofhcadmoac.mm

/- The contracts of add's parts: late, until, begin, see, pass. -/
namespace Go.Proofs.Ytdbilofhcadmoac.mm
open Go.ChangeShapes Go.WideShapes Go.ChangeAt Go.RowKit Go.Joins Go.Deep Go.Sort
set_option maxRecDepth 100000
set_option linter.unusedVariables false

theorem Lk.two {w w1 : World} {B lo : Nat} {aS aH aF aL : Option Addr} {cS cH cF cL : Nat} {M : Mm} {f : Fr} {aK : Option Addr} {cK : Nat} (h : Lk w w1 B lo aS aH aF aL cS cH cF cL M f aK cK) : Lk2 w w1 (Foot B aS aH aF aL) B lo M f aK cK :=
  ⟨h.lt, .of_below _ h.bl, ⟨_, _, _, _, _, _, _, _, h.m, fun k hk => .inl hk⟩, h.fb, h.zb⟩

theorem zero_at {w w9 : World} {o : Obj} (hb : Below ((w.alloc o).alloc zeroFr).heap.size ((w.alloc o).alloc zeroFr) w9) : Below w.heap.size w w9 ∧ w9.heap[w.heap.size + 1]? = some zeroFr := by
  have h0 : ((w.alloc o).alloc zeroFr).heap[w.heap.size + 1]? = some zeroFr := by
    have := heap_alloc_new (w.alloc o) zeroFr
    simpa using this
  exact ⟨(below_alloc2 w o zeroFr).trans (hb.mono (below_alloc2 w o zeroFr).size), (hb.block _ (lt_of_block h0)).trans h0⟩

end Go.Proofs.Ytdbilofhcadmoac.mm

/- A region that draws its order, by one invariant over what has come up so far: whatever order, it holds at the end. -/
namespace Go.Proofs.Ytdbilofhcadmoac.mm
open Go

theorem filter_less {l : List Nat} {p q : Nat → Bool} (hq : ∀ j, q j = true → p j = true) : (l.filter q).length ≤ (l.filter p).length := by
  induction l with
  | nil => simp
  | cons x l ih =>
    simp only [List.filter_cons]
    by_cases h : q x = true
    · rw [if_pos h, if_pos (hq x h)]
      simp only [List.length_cons]
      omega
    · rw [if_neg h]
      split
      · simp only [List.length_cons]; omega
      · exact ih

theorem filter_lt {l : List Nat} {p q : Nat → Bool} {i : Nat} (hi : i ∈ l) (hp : p i = true) (hqi : q i = false) (hq : ∀ j, q j = true → p j = true) : (l.filter q).length < (l.filter p).length := by
  induction l with
  | nil => cases hi
  | cons x l ih =>
    simp only [List.filter_cons]
    by_cases e : x = i
    · subst e
      rw [if_pos hp, if_neg (by rw [hqi]; simp)]
      have := filter_less (l := l) hq
      simp only [List.length_cons]
      omega
    · have hm : i ∈ l := by
        rcases List.mem_cons.1 hi with h | h
        · exact absurd h.symm e
        · exact h
      have := ih hm
      by_cases h : q x = true
      · rw [if_pos h, if_pos (hq x h)]
        simp only [List.length_cons]
        omega
      · rw [if_neg h]
        split
        · simp only [List.length_cons]; omega
        · exact this

/- How many have not come up. -/
def unl (ops : Array Oper) (listed : Array Bool) : Nat := ((List.range ops.size).filter fun i => !listed.getD i true).length

theorem ready_spec {md : Region.Mode} {ops : Array Oper} {listed : Array Bool} {i : Nat} (h : i ∈ Region.ready md ops listed) :
    i < ops.size ∧ listed.getD i true = false ∧ ∃ o, ops[i]? = some o ∧ ∀ e ∈ o.after, Region.binds md e = true → listed.getD e.on false = true := by
  unfold Region.ready at h
  rw [List.mem_filter] at h
  obtain ⟨h1, h2⟩ := h
  rw [Bool.and_eq_true] at h2
  refine ⟨by simpa using h1, by simpa using h2.1, ?_⟩
  cases ho : ops[i]? with
  | none => rw [ho] at h2; simp at h2
  | some o =>
    rw [ho] at h2
    refine ⟨o, rfl, fun e he hb => ?_⟩
    have h3 := h2.2
    simp only [Option.map_some, Option.getD_some] at h3
    rw [Array.all_eq_true'] at h3
    have := h3 e he
    rw [hb] at this
    simpa using this

theorem wpAny_inv {P : Program} {md : Region.Mode} {ops : Array Oper} {Q : Exit → Act → World → Prop} (J : Array Bool → Act → World → Prop)
    (step : ∀ listed a w i, i ∈ Region.ready md ops listed → J listed a w → wpOp P ops Q i (fun a' w' => J (listed.setIfInBounds i true) a' w') a w)
    (fin : ∀ listed a w, Region.ready md ops listed = [] → J listed a w → Q .normal a w) :
    ∀ (fuel : Nat) (listed : Array Bool) (a : Act) (w : World), unl ops listed ≤ fuel → listed.size = ops.size → J listed a w → wpAny P md ops Q fuel listed a w
  | 0, listed, a, w, hf, hs, hJ => by
    have hr : Region.ready md ops listed = [] := by
      cases hr : Region.ready md ops listed with
      | nil => rfl
      | cons i r =>
        have hi : i ∈ Region.ready md ops listed := by rw [hr]; simp
        obtain ⟨h1, h2, _⟩ := ready_spec hi
        have : i ∈ (List.range ops.size).filter fun i => !listed.getD i true := by
          rw [List.mem_filter]
          exact ⟨by simpa using h1, by rw [h2]; rfl⟩
        unfold unl at hf
        have hz : ((List.range ops.size).filter fun i => !listed.getD i true) = [] := List.eq_nil_of_length_eq_zero (by omega)
        rw [hz] at this
        cases this
    exact ⟨hr, fin listed a w hr hJ⟩
  | fuel + 1, listed, a, w, hf, hs, hJ => by
    refine ⟨fun hr => fin listed a w hr hJ, fun i hi => ?_⟩
    obtain ⟨h1, h2, _⟩ := ready_spec hi
    refine wpOp_mono (fun a' w' hJ' => ?_) (step listed a w i hi hJ)
    refine wpAny_inv J step fin fuel _ a' w' ?_ (by simpa using hs) hJ'
    have hlt : unl ops (listed.setIfInBounds i true) < unl ops listed := by
      unfold unl
      refine filter_lt (i := i) (by simpa using h1) (by rw [h2]; rfl) ?_ ?_
      · simp [Array.getD_eq_getD_getElem?, hs, h1]
      · intro j hj
        by_cases e : i = j
        · subst e
          rw [h2]; rfl
        · simpa [Array.getD_eq_getD_getElem?, Array.getElem?_setIfInBounds, e] using hj
    omega

/- The region itself. -/
theorem wp_region_inv {P : Program} {ops : Array Oper} {Q : Exit → Act → World → Prop} {id : Nat} {a : Act} {w : World} (hm : P.follows .mixedOrders = true) (J : Array Bool → Act → World → Prop)
    (start : J (Array.replicate ops.size false) a { w with drawn := w.drawn + 1 })
    (step : ∀ listed a w i, i ∈ Region.ready .any ops listed → J listed a w → wpOp P ops Q i (fun a' w' => J (listed.setIfInBounds i true) a' w') a w)
    (fin : ∀ listed a w, Region.ready .any ops listed = [] → J listed a w → Q .normal a w) : (Code.region id ops true).wp P Q a w := by
  refine wp_region_any hm (wpAny_inv J step fin _ _ a _ ?_ (by simp) start)
  unfold unl
  exact Nat.le_trans (List.length_filter_le _ _) (by simp)





end Go.Proofs.Ytdbilofhcadmoac.mm

/- A walk's rest, proved once. -/
namespace Go.Proofs.Ytdbilofhcadmoac.mm
theorem by_tail {G : Prop} (a : Go.Act) (R : Go.Act → Prop) (h : R a → G) (t : R a) : G := h t


end Go.Proofs.Ytdbilofhcadmoac.mm
