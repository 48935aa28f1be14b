/- The contract of walk: along a chain, whatever is called for each slot, by what that keeps. -/
import Derived.Test.YtdbilofhcadmoabC10
import Derived.Test.YtdbilofhcadmoabC06
import Derived.Maps.AppendAt
import Derived.Deep.RegionWith
namespace Go.Proofs.Ytdbilofhcadmoab.mm
open Go.ChangeShapes Go.WideShapes Go.ChangeAt Go.RowKit
set_option maxRecDepth 100000
set_option linter.unusedVariables false

theorem walk_stop {S : List Sl} {k : Nat} {x : Int} (h : x ≤ 0 ∨ k = 0) : walkL S k x = [] ∧ walkE S k x = x := by
  cases k with
  | zero => exact ⟨rfl, rfl⟩
  | succ k =>
    have : ¬ 0 < x := by omega
    simp [walkL, walkE, this]
theorem walk_go {S : List Sl} {k : Nat} {x : Int} (h : 0 < x) : walkL S (k + 1) x = (x - 1) :: walkL S k (nextN S x) ∧ walkE S (k + 1) x = walkE S k (nextN S x) := by
  simp [walkL, walkE, h]

set_option maxHeartbeats 3200000 in
theorem walk_any (F : Nat) (caps : Array Value) (M : Mm) (aS aH aF aL : Option Addr) (cS cH cF cL b : Nat) (w : World) (hok : Ok M) (hb : b < M.heads.length) (hF : ∀ args W, (callFunc F args).run Try.prog W = .ok (.enter F args) W) (I : List Int → World → Prop)
    (start : I [] (w.alloc (.cells #[.slice aS M.slots.length cS, .slice aH M.heads.length cH, .slice aF M.free.length cF, .slice aL M.locks.length cL, .int .i64 M.now] 25)))
    (box : ∀ l W, I l W → W.heap[w.heap.size]? = some (.cells #[.slice aS M.slots.length cS, .slice aH M.heads.length cH, .slice aF M.free.length cF, .slice aL M.locks.length cL, .int .i64 M.now] 25 (0, 0)))
    (at_ : ∀ l W, I l W → At W aS aH aF aL cS cH cF cL M)
    (step : ∀ l (a : Nat) W, I l W → a < M.slots.length → l.length < M.slots.length → Calls Try.prog F (#[.int .i64 a] ++ caps) W fun e W' => e = .returned (.tuple #[]) ∧ I (l ++ [(a : Int)]) W') :
    Calls Try.prog 73 #[.agg #[.slice aS M.slots.length cS, .slice aH M.heads.length cH, .slice aF M.free.length cF, .slice aL M.locks.length cL, .int .i64 M.now], .int .i64 b, .func (.func F) #[] caps] w fun e w' => e = .returned (.bool (chOk M b)) ∧ I (chL M b) w' := by
  have n0 := hok.ns
  have n1 := hok.nh
  obtain ⟨R, hR⟩ : ∃ R, R = chOk M b := ⟨_, rfl⟩
  rw [← hR]
  have HR : Hid (R = chOk M b) := hR
  clear hR
  obtain ⟨LL, hL⟩ : ∃ LL, LL = chL M b := ⟨_, rfl⟩
  rw [← hL]
  have HL : Hid (LL = chL M b) := hL
  clear hL
  have HB : Hid _ := box
  have HA : Hid _ := at_
  have HS : Hid _ := step
  have HI : Hid _ := start
  have HFn : Hid _ := hF
  have hA0 := HA.out _ _ HI.out
  rcases hA0.h.at_ with h0 | ⟨bh, oh, rfl, hch⟩
  · omega
  have d0 := hch b hb
  clear box at_ step start hA0 hch hF
  go_enter Try.func73, Try.ntmps73
  go_wp2
  go_loopw [18, 7] (fun i n wr => ∃ k : Nat, k ≤ M.slots.length ∧ i = .int .i64 k ∧ ∃ (l : List Int) (x : Int), n = .int .i64 x ∧ x ≤ M.slots.length ∧ l.length = k ∧ Hid (chL M b = l ++ walkL M.slots (M.slots.length - k) x ∧ chE M b = walkE M.slots (M.slots.length - k) x) ∧ Hid (I l wr))
    (fun i _ _ => M.slots.length - (intOf i).toNat)
  case atStart =>
    have hh := hok.headIn hb
    have he : headM M b = M.heads[b] := by simp [headM, List.getD_eq_getElem?_getD, hb]
    rw [he] at hh
    refine ⟨0, Nat.zero_le _, rfl, [], _, rfl, ((inB_iff _ _ _).1 hh.2).2, rfl, ?_, HI⟩
    rw [← he]
    exact ⟨rfl, rfl⟩
  case round =>
    obtain ⟨k, hk, rfl, l, x, rfl, hx, hl, HE, HW⟩ := hrel
    have hbx := HB.out _ _ HW.out
    obtain ⟨q0, q1, q2, q3, q4, f0, f1, f2, f3, f4, qs⟩ := boxf hbx
    clear hbx f0 f1 f2 f3 f4 d0
    have fin : (x ≤ 0 ∨ M.slots.length - k = 0) → R = (x == -1 - (b : Int)) ∧ LL = l := fun h => by
      have hs := walk_stop (S := M.slots) h
      have h1 := HE.out.1
      have h2 := HE.out.2
      rw [hs.1, List.append_nil] at h1
      rw [hs.2] at h2
      exact ⟨by rw [HR.out, chOk, h2], by rw [HL.out, h1]⟩
    have HF : Hid _ := fin
    clear fin
    by_cases hlt : k < M.slots.length
    · by_cases hx0 : x ≤ 0
      · go_wp2_with (first
          | (go_at_call 144; refine (slotOf_no _ _ hx0).mono ?_; rintro e w1 ⟨rfl, rfl⟩)
          | (go_at_call 139; refine (toEnd_any _ _ (by omega) (by omega)).mono ?_; rintro e w1 ⟨rfl, rfl⟩))
        go_ret
        obtain ⟨e1, e2⟩ := HF.out (.inl hx0)
        rw [e1, e2]
        exact ⟨rfl, HW.out⟩
      · obtain ⟨j, rfl⟩ : ∃ j : Nat, x = (j : Int) + 1 := ⟨(x - 1).toNat, by omega⟩
        have hj : j < M.slots.length := by omega
        have hj1 : (0 : Int) < (j : Int) + 1 := by omega
        have HE2 : Hid (chL M b = (l ++ [(j : Int)]) ++ walkL M.slots (M.slots.length - (k + 1)) M.slots[j].next ∧ chE M b = walkE M.slots (M.slots.length - (k + 1)) M.slots[j].next) := by
          have hg := walk_go (S := M.slots) (k := M.slots.length - (k + 1)) hj1
          rw [show M.slots.length - (k + 1) + 1 = M.slots.length - k by omega] at hg
          have hn : nextN M.slots ((j : Int) + 1) = M.slots[j].next := by
            unfold nextN
            rw [show ((j : Int) + 1 - 1).toNat = j by omega, getD_lt _ _ hj]
          rw [hn] at hg
          refine ⟨?_, by rw [HE.out.2, hg.2]⟩
          rw [HE.out.1, hg.1, List.append_assoc, show (j : Int) + 1 - 1 = j by omega]
          rfl
        have hnx := ((inB_iff _ _ _).1 (slot_good (hok.slot _ (List.getElem_mem hj))).2.2.2).2
        clear HE
        go_wp2_with (first
          | (go_at_call 144; refine (slotOf_is _ _ hj1 (by omega)).mono ?_; rw [show (j : Int) + 1 - 1 = j by omega]; rintro e w1 ⟨rfl, rfl⟩))
        rw [HFn.out]
        refine (HS.out l j wr HW.out hj (by omega)).mono ?_
        rintro e w2 ⟨rfl, hI2⟩
        have HW2 : Hid _ := hI2
        have hbx2 := HB.out _ _ hI2
        have hA2 := HA.out _ _ hI2
        clear q0 q1 q2 q3 q4 qs hI2
        obtain ⟨q0, q1, q2, q3, q4, f0, f1, f2, f3, f4, qs⟩ := boxf hbx2
        clear hbx2 f0 f1 f2 f3 f4
        rcases hA2.s.at_ with h0 | ⟨bs, os, rfl, hcs⟩
        · omega
        have c5 := (hcs j hj).2.2.2.2.2
        clear hA2 hcs
        go_wp2
        go_roundw
        case rel => exact ⟨k + 1, by omega, by go_num, _, _, rfl, hnx, by simp [hl], HE2, HW2⟩
        case measure => simp [intOf]; omega
    · go_wp2_with (first
        | (go_at_call 139; refine (toEnd_any _ _ (by omega) (by omega)).mono ?_; rintro e w1 ⟨rfl, rfl⟩))
      go_ret
      obtain ⟨e1, e2⟩ := HF.out (.inr (by omega))
      rw [e1, e2]
      exact ⟨rfl, HW.out⟩



end Go.Proofs.Ytdbilofhcadmoab.mm

/- Memory that grows: four lists in a box of one's own, each appended to. -/
namespace Go.Proofs.Ytdbilofhcadmoab.mm
open Go.ChangeShapes Go.WideShapes Go.ChangeAt Go.RowKit Go.Joins
set_option linter.unusedVariables false

structure Gr (w0 : World) (lo B : Nat) (w : World) (sv hv fv lv : Value) (S : List Sl) (H F L : List Int) : Prop where
  box : w.heap[B]? = some (.cells #[sv, hv, fv, lv, .int .i64 0] 25 (0, 0))
  s : w.ownsRow lo 39 6 sv S.length (encS S)
  h : w.ownsRow lo 3 1 hv H.length (encI H)
  f : w.ownsRow lo 3 1 fv F.length (encI F)
  l : w.ownsRow lo 3 1 lv L.length (encI L)
  hf : Dj hv fv
  hl : Dj hv lv
  fl : Dj fv lv
  at_ : lo ≤ B
  below : Below lo w0 w

/- One row is appended to, by way of a block that holds what is appended. -/
theorem row_kept {w w1 : World} {ob : Obj} {lo size n : Nat} {e : TypeId} {v u : Value} {xs : List Value} (h : w.ownsRow lo e size v n xs) (hg : (w.alloc ob).grownBy w1 u.ownBlock) (hd : Dj v u) {B j : Nat} {x : Value} (hne : v.ownBlock ≠ some B) : (w1.setCell ⟨B, j, none⟩ x).ownsRow lo e size v n xs :=
  ownsRow_setCell_other ((h.alloc ob).kept hg hd.ne) hne x

theorem box_kept {w w1 : World} {ob : Obj} {B : Nat} {u : Value} {o : Obj} (hB : w.heap[B]? = some o) (hg : (w.alloc ob).grownBy w1 u.ownBlock) (hne : u.ownBlock ≠ some B) : w1.heap[B]? = some o := by
  have := lt_of_block hB
  rw [hg.block B (by simp; omega) (fun e => hne e.symm), Below.heap_alloc _ _ _ this, hB]

theorem low_kept {w0 w w1 : World} {ob : Obj} {lo B j : Nat} {u x : Value} (hb : Below lo w0 w) (hg : (w.alloc ob).grownBy w1 u.ownBlock) (hu : ∀ k, u.ownBlock = some k → lo ≤ k) (hl : lo ≤ w.heap.size) (hB : lo ≤ B) : Below lo w0 (w1.setCell ⟨B, j, none⟩ x) :=
  ((hb.alloc hl ob).grown hg (by simp; omega) hu).setCell hB x

theorem set1_own {w : World} {lo size n B j : Nat} {e : TypeId} {v x : Value} {xs : List Value} (h : w.ownsRow lo e size v n xs) (hne : v.ownBlock ≠ some B) : (w.setCell ⟨B, j, none⟩ x).ownsRow lo e size v n xs :=
  ownsRow_setCell_other h hne x

theorem Gr.s_step {w0 w w1 : World} {lo B : Nat} {sv hv fv lv v' : Value} {S : List Sl} {H F L : List Int} {ob : Obj} {x : Sl} (G : Gr w0 lo B w sv hv fv lv S H F L)
    (ho : w1.ownsRow lo 39 6 v' (S.length + 1) (encS S ++ x.enc)) (hg : (w.alloc ob).grownBy w1 sv.ownBlock) (hloc : v'.ownBlock = sv.ownBlock ∨ v'.ownBlock = some (w.alloc ob).heap.size) :
    Gr w0 lo B (w1.setCell ⟨B, 0, none⟩ v') v' hv fv lv (S ++ [x]) H F L := by
  have hB := box_kept G.box hg (own_ne G.s G.box (by decide))
  have hne : v'.ownBlock ≠ some B := own_ne ho hB (by decide)
  have hlt : ∀ {u : Value} {n size : Nat} {e : TypeId} {xs : List Value}, w.ownsRow lo e size u n xs → ∀ g, u.ownBlock = some g → g < (w.alloc ob).heap.size := fun h g hg => by have := (h.lt g hg).2; simp; omega
  have hz : lo ≤ w.heap.size := by have := lt_of_block G.box; have := G.at_; omega
  refine ⟨?_, ?_, ?_, ?_, ?_, ?_, ?_, ?_, G.at_, low_kept G.below hg (fun k hk => (G.s.lt k hk).1) hz G.at_⟩
  · have := block_setCell (i := 0) hB v'
    simpa using this
  · have := set1_own (j := 0) (x := v') ho hne
    rwa [show encS S ++ x.enc = encS (S ++ [x]) by simp [encS], show S.length + 1 = (S ++ [x]).length by simp] at this
  · exact row_kept G.h hg (own_dj G.h G.s (by decide)) (own_ne G.h G.box (by decide))
  · exact row_kept G.f hg (own_dj G.f G.s (by decide)) (own_ne G.f G.box (by decide))
  · exact row_kept G.l hg (own_dj G.l G.s (by decide)) (own_ne G.l G.box (by decide))
  · exact G.hf
  · exact G.hl
  · exact G.fl

theorem Gr.h_step {w0 w w1 : World} {lo B : Nat} {sv hv fv lv v' : Value} {S : List Sl} {H F L : List Int} {ob : Obj} {x : Int} (G : Gr w0 lo B w sv hv fv lv S H F L)
    (ho : w1.ownsRow lo 3 1 v' (H.length + 1) (encI H ++ [.int .i64 x])) (hg : (w.alloc ob).grownBy w1 hv.ownBlock) (hloc : v'.ownBlock = hv.ownBlock ∨ v'.ownBlock = some (w.alloc ob).heap.size) :
    Gr w0 lo B (w1.setCell ⟨B, 1, none⟩ v') sv v' fv lv S (H ++ [x]) F L := by
  have hB := box_kept G.box hg (own_ne G.h G.box (by decide))
  have hne : v'.ownBlock ≠ some B := own_ne ho hB (by decide)
  have hlt : ∀ {u : Value} {n size : Nat} {e : TypeId} {xs : List Value}, w.ownsRow lo e size u n xs → ∀ g, u.ownBlock = some g → g < (w.alloc ob).heap.size := fun h g hg => by have := (h.lt g hg).2; simp; omega
  have hz : lo ≤ w.heap.size := by have := lt_of_block G.box; have := G.at_; omega
  refine ⟨?_, ?_, ?_, ?_, ?_, ?_, ?_, ?_, G.at_, low_kept G.below hg (fun k hk => (G.h.lt k hk).1) hz G.at_⟩
  · have := block_setCell (i := 1) hB v'
    simpa using this
  · exact row_kept G.s hg (own_dj G.s G.h (by decide)) (own_ne G.s G.box (by decide))
  · have := set1_own (j := 1) (x := v') ho hne
    rwa [show encI H ++ [.int .i64 x] = encI (H ++ [x]) by simp [encI], show H.length + 1 = (H ++ [x]).length by simp] at this
  · exact row_kept G.f hg ((G.hf).symm) (own_ne G.f G.box (by decide))
  · exact row_kept G.l hg ((G.hl).symm) (own_ne G.l G.box (by decide))
  · exact (Dj.grown (w := w.alloc ob) ((G.hf).symm) (hlt G.f) hloc).symm
  · exact (Dj.grown (w := w.alloc ob) ((G.hl).symm) (hlt G.l) hloc).symm
  · exact G.fl

theorem Gr.f_step {w0 w w1 : World} {lo B : Nat} {sv hv fv lv v' : Value} {S : List Sl} {H F L : List Int} {ob : Obj} {x : Int} (G : Gr w0 lo B w sv hv fv lv S H F L)
    (ho : w1.ownsRow lo 3 1 v' (F.length + 1) (encI F ++ [.int .i64 x])) (hg : (w.alloc ob).grownBy w1 fv.ownBlock) (hloc : v'.ownBlock = fv.ownBlock ∨ v'.ownBlock = some (w.alloc ob).heap.size) :
    Gr w0 lo B (w1.setCell ⟨B, 2, none⟩ v') sv hv v' lv S H (F ++ [x]) L := by
  have hB := box_kept G.box hg (own_ne G.f G.box (by decide))
  have hne : v'.ownBlock ≠ some B := own_ne ho hB (by decide)
  have hlt : ∀ {u : Value} {n size : Nat} {e : TypeId} {xs : List Value}, w.ownsRow lo e size u n xs → ∀ g, u.ownBlock = some g → g < (w.alloc ob).heap.size := fun h g hg => by have := (h.lt g hg).2; simp; omega
  have hz : lo ≤ w.heap.size := by have := lt_of_block G.box; have := G.at_; omega
  refine ⟨?_, ?_, ?_, ?_, ?_, ?_, ?_, ?_, G.at_, low_kept G.below hg (fun k hk => (G.f.lt k hk).1) hz G.at_⟩
  · have := block_setCell (i := 2) hB v'
    simpa using this
  · exact row_kept G.s hg (own_dj G.s G.f (by decide)) (own_ne G.s G.box (by decide))
  · exact row_kept G.h hg (G.hf) (own_ne G.h G.box (by decide))
  · have := set1_own (j := 2) (x := v') ho hne
    rwa [show encI F ++ [.int .i64 x] = encI (F ++ [x]) by simp [encI], show F.length + 1 = (F ++ [x]).length by simp] at this
  · exact row_kept G.l hg ((G.fl).symm) (own_ne G.l G.box (by decide))
  · exact Dj.grown (w := w.alloc ob) (G.hf) (hlt G.h) hloc
  · exact G.hl
  · exact (Dj.grown (w := w.alloc ob) ((G.fl).symm) (hlt G.l) hloc).symm

theorem Gr.l_step {w0 w w1 : World} {lo B : Nat} {sv hv fv lv v' : Value} {S : List Sl} {H F L : List Int} {ob : Obj} {x : Int} (G : Gr w0 lo B w sv hv fv lv S H F L)
    (ho : w1.ownsRow lo 3 1 v' (L.length + 1) (encI L ++ [.int .i64 x])) (hg : (w.alloc ob).grownBy w1 lv.ownBlock) (hloc : v'.ownBlock = lv.ownBlock ∨ v'.ownBlock = some (w.alloc ob).heap.size) :
    Gr w0 lo B (w1.setCell ⟨B, 3, none⟩ v') sv hv fv v' S H F (L ++ [x]) := by
  have hB := box_kept G.box hg (own_ne G.l G.box (by decide))
  have hne : v'.ownBlock ≠ some B := own_ne ho hB (by decide)
  have hlt : ∀ {u : Value} {n size : Nat} {e : TypeId} {xs : List Value}, w.ownsRow lo e size u n xs → ∀ g, u.ownBlock = some g → g < (w.alloc ob).heap.size := fun h g hg => by have := (h.lt g hg).2; simp; omega
  have hz : lo ≤ w.heap.size := by have := lt_of_block G.box; have := G.at_; omega
  refine ⟨?_, ?_, ?_, ?_, ?_, ?_, ?_, ?_, G.at_, low_kept G.below hg (fun k hk => (G.l.lt k hk).1) hz G.at_⟩
  · have := block_setCell (i := 3) hB v'
    simpa using this
  · exact row_kept G.s hg (own_dj G.s G.l (by decide)) (own_ne G.s G.box (by decide))
  · exact row_kept G.h hg (G.hl) (own_ne G.h G.box (by decide))
  · exact row_kept G.f hg (G.fl) (own_ne G.f G.box (by decide))
  · have := set1_own (j := 3) (x := v') ho hne
    rwa [show encI L ++ [.int .i64 x] = encI (L ++ [x]) by simp [encI], show L.length + 1 = (L ++ [x]).length by simp] at this
  · exact G.hf
  · exact Dj.grown (w := w.alloc ob) (G.hl) (hlt G.h) hloc
  · exact Dj.grown (w := w.alloc ob) (G.fl) (hlt G.f) hloc

/- What has grown is memory. -/
theorem Gr.ans {w0 w : World} {lo B : Nat} {sv hv fv lv : Value} {S : List Sl} {H F L : List Int} (G : Gr w0 lo B w sv hv fv lv S H F L) (h1 : S.length * 48 ≤ 140737488351232) (h2 : H.length * 8 ≤ 140737488351232) (h3 : F.length * 8 ≤ 140737488351232) (h4 : L.length * 8 ≤ 140737488351232) :
    Ans lo w (.agg #[sv, hv, fv, lv, .int .i64 0]) ⟨S, H, F, L, 0⟩ := by
  have ks := G.s.lt; have kh := G.h.lt; have kf := G.f.lt; have kl := G.l.lt
  obtain ⟨aS, cS, rfl, rs⟩ := SRow.of_own G.s h1
  obtain ⟨aH, cH, rfl, rh⟩ := IRow.of_own G.h h2
  obtain ⟨aF, cF, rfl, rf⟩ := IRow.of_own G.f h3
  obtain ⟨aL, cL, rfl, rl⟩ := IRow.of_own G.l h4
  refine ⟨aS, aH, aF, aL, cS, cH, cF, cL, rfl, ⟨rs, rh, rf, rl⟩, ⟨?_, ?_, ?_, ?_⟩⟩
  · rintro ad rfl; exact (ks _ rfl).1
  · rintro ad rfl; exact (kh _ rfl).1
  · rintro ad rfl; exact (kf _ rfl).1
  · rintro ad rfl; exact (kl _ rfl).1



end Go.Proofs.Ytdbilofhcadmoab.mm

/- A list that grows in a variable that a function literal has caught; the contract of slotsOf. -/
namespace Go.Proofs.Ytdbilofhcadmoab.mm
open Go.ChangeShapes Go.WideShapes Go.ChangeAt Go.RowKit Go.Joins
set_option maxRecDepth 100000
set_option linter.unusedVariables false

structure Lst (w0 : World) (B Y : Nat) (t e : TypeId) (size : Nat) (ob : Array Value) (W : World) (n : Nat) (xs : List Value) : Prop where
  var : ∃ v, W.heap[B]? = some (.cells #[v] t (0, 0)) ∧ W.ownsRow (B + 1) e size v n xs
  box : W.heap[Y]? = some (.cells ob 25 (0, 0))
  below : Below B w0 W
  ne : B ≠ Y

theorem var_cell {W : World} {B : Nat} {v : Value} {t : TypeId} (h : W.heap[B]? = some (.cells #[v] t (0, 0))) : W.cell? ⟨B, 0, none⟩ = some v ∧ W.frozen? ⟨B, 0, none⟩ = false ∧ B < W.heap.size :=
  ⟨by rw [cell_of_block h]; rfl, unfrozen_of_block h _, lt_of_block h⟩

theorem Lst.step {w0 W w1 : World} {B Y : Nat} {t e : TypeId} {size n m : Nat} {ob : Array Value} {xs news : List Value} {v v' : Value} {o1 : Obj} (hB : W.heap[B]? = some (.cells #[v] t (0, 0))) (ho : W.ownsRow (B + 1) e size v n xs)
    (hY : W.heap[Y]? = some (.cells ob 25 (0, 0))) (hb : Below B w0 W) (hne : B ≠ Y) (n1 : e ≠ t) (n2 : e ≠ 25) (hg : (W.alloc o1).grownBy w1 v.ownBlock) (ho' : w1.ownsRow (B + 1) e size v' (n + m) (xs ++ news)) :
    Lst w0 B Y t e size ob (w1.setCell ⟨B, 0, none⟩ v') (n + m) (xs ++ news) := by
  have lB := lt_of_block hB
  have lY := lt_of_block hY
  have hvB := own_ne ho hB n1
  have hvY := own_ne ho hY n2
  have kB : w1.heap[B]? = some (.cells #[v] t (0, 0)) := box_kept hB hg hvB
  have kY : w1.heap[Y]? = some (.cells ob 25 (0, 0)) := box_kept hY hg hvY
  have hu : ∀ k, v.ownBlock = some k → B ≤ k := fun k hk => by
    have := (ho.lt k hk).1
    omega
  refine ⟨⟨v', ?_, set1_own ho' (own_ne ho' kB n1)⟩, (Below.heap_setCell _ _ _ _ (by dsimp only; omega)).trans kY, ?_, hne⟩
  · have := block_setCell (i := 0) kB v'
    rw [this]; rfl
  · exact low_kept hb hg hu (by omega) (Nat.le_refl _)

set_option maxHeartbeats 800000 in
theorem app85 (w0 W : World) (B Y : Nat) (ob : Array Value) (l : List Int) (a : Int) (L : Lst w0 B Y 23 3 1 ob W l.length (encI l)) (hl : l.length ≤ 12) :
    Calls Try.prog 145 #[.int .i64 a, .pointer (some ⟨B, 0, none⟩)] W fun e W' => e = .returned (.tuple #[]) ∧ Lst w0 B Y 23 3 1 ob W' (l ++ [a]).length (encI (l ++ [a])) := by
  obtain ⟨i0, hi, hz0, hz1, hz2⟩ := info_parts iI
  obtain ⟨⟨v, hB, ho⟩, hY, hb, hne⟩ := L
  obtain ⟨ao, cap, rfl⟩ := own_shape ho
  obtain ⟨c0, f0, lB⟩ := var_cell hB
  have HB : Hid _ := hB
  have HY : Hid _ := hY
  clear hB hY
  go_enter Try.func145, Try.ntmps145
  go_wp2_with (at_builtin; refine wpList_append_own_at _ rfl (.tmp 3) (.tmp 5) 23 rfl (B + 1) 3 i0 (.int .i64 0) 1 8 Try.underlying23 hi hz0 hz1 hz2 rfl (by decide) _ _ _ rfl (ho.alloc _) ⟨W.heap.size, 0, none⟩ 1 1 [.int .i64 a] rfl rfl (cell_one_new _ _ _) (by intro u hu; simp at hu; subst hu; rfl) (by unfold maxLen; omega) (by omega) (by simp; omega) ?_; intro v2 w2 ho2 hg2 _ hloc2; obtain ⟨g2, cap2, rfl⟩ := ownsRow_form ho2 (by omega); have HL : Hid _ := Lst.step HB.out ho HY.out hb hne (by decide) (by decide) hg2 ho2; obtain ⟨d0, e0, lB2⟩ := var_cell (box_kept HB.out hg2 (own_ne ho HB.out (by decide))); clear c0 f0 lB ho2 hg2 hloc2)
  go_end0
  refine ⟨rfl, ?_⟩
  have := HL.out
  rw [show (l ++ [a]).length = l.length + 1 by simp, show encI (l ++ [a]) = encI l ++ [.int .i64 a] by simp [encI]]
  exact this

theorem fn85 : ∀ args W, (callFunc 145 args).run Try.prog W = .ok (.enter 145 args) W := fun _ _ => by kernel_rfl

theorem walkL_len (S : List Sl) : ∀ (k : Nat) (n : Int), (walkL S k n).length ≤ k
  | 0, _ => by simp [walkL]
  | k + 1, n => by
    simp only [walkL]
    split
    · have := walkL_len S k (nextN S n); simp; omega
    · simp

def slotsE (M : Mm) (b : Nat) : Int := if chOk M b then 0 else 4
def slotsL (M : Mm) (b : Nat) : List Int := if chOk M b then chL M b else []

set_option maxHeartbeats 1600000 in
theorem slotsOf_any (M : Mm) (aS aH aF aL : Option Addr) (cS cH cF cL b : Nat) (w : World) (A : At w aS aH aF aL cS cH cF cL M) (hok : Ok M) (hb : b < M.heads.length) :
    Calls Try.prog 76 #[.agg #[.slice aS M.slots.length cS, .slice aH M.heads.length cH, .slice aF M.free.length cF, .slice aL M.locks.length cL, .int .i64 M.now], .int .i64 b] w fun e w' =>
      ∃ ao cap, e = .returned (.tuple #[.slice ao (slotsL M b).length cap, .int .i64 (slotsE M b)]) ∧ IRow w' ao cap (slotsL M b) ∧ Below w.heap.size w w' := by
  obtain ⟨E0, hE0⟩ : ∃ E0, E0 = slotsE M b := ⟨_, rfl⟩
  obtain ⟨L0, hL0⟩ : ∃ L0, L0 = slotsL M b := ⟨_, rfl⟩
  rw [← hE0, ← hL0]
  have HE0 : Hid (E0 = slotsE M b) := hE0
  have HL0 : Hid (L0 = slotsL M b) := hL0
  clear hE0 hL0
  have n0 := hok.ns
  obtain ⟨o1, ho1⟩ : ∃ o : Obj, o = .cells #[.slice aS M.slots.length cS, .slice aH M.heads.length cH, .slice aF M.free.length cF, .slice aL M.locks.length cL, .int .i64 M.now] 25 := ⟨_, rfl⟩
  obtain ⟨o2, ho2⟩ : ∃ o : Obj, o = .cells #[.slice none 0 0] 23 := ⟨_, rfl⟩
  have b0 : Below w.heap.size w ((w.alloc o1).alloc o2) := below_alloc2 w o1 o2
  have HB0 : Hid (((w.alloc o1).alloc o2).heap[w.heap.size]? = some o1) := by show _ = _; rw [Below.heap_alloc _ _ _ (by simp), heap_alloc_new]
  have HV0 : Hid (((w.alloc o1).alloc o2).heap[w.heap.size + 1]? = some o2) := by
    have := heap_alloc_new (w.alloc o1) o2
    rwa [show (w.alloc o1).heap.size = w.heap.size + 1 by simp] at this
  have HZ0 : Hid (((w.alloc o1).alloc o2).heap.size = w.heap.size + 2) := by show _ = _; simp
  have HA0 : Hid _ := A.below b0
  have hmf : ∀ (fn : Fn) (first cap : Array Value) (w : World), (Instr.makeFunc fn first cap).run Try.prog w = .ok (.func fn first cap) w := fun _ _ _ _ => rfl
  go_enter Try.func76, Try.ntmps76
  go_wp2_with fail
  rw [← ho1, ← ho2]
  generalize (w.alloc o1).alloc o2 = W0 at *
  subst ho1 ho2
  have hstart : Lst W0 (w.heap.size + 1) W0.heap.size 23 3 1 #[.slice aS M.slots.length cS, .slice aH M.heads.length cH, .slice aF M.free.length cF, .slice aL M.locks.length cL, .int .i64 M.now] (W0.alloc (.cells #[.slice aS M.slots.length cS, .slice aH M.heads.length cH, .slice aF M.free.length cF, .slice aL M.locks.length cL, .int .i64 M.now] 25)) ([] : List Int).length (encI []) := by
    have z := HZ0.out
    refine ⟨⟨.slice none 0 0, ?_, World.ownsRow_nil _ _ _ _⟩, heap_alloc_new _ _, (Below.refl _ _).alloc (by omega) _, by omega⟩
    rw [Below.heap_alloc _ _ _ (by omega)]
    exact HV0.out
  have HAw : Hid _ := A
  clear A
  refine (walk_any 145 #[.pointer (some ⟨w.heap.size + 1, 0, none⟩)] M aS aH aF aL cS cH cF cL b W0 hok hb fn85 (fun l W => Lst W0 (w.heap.size + 1) W0.heap.size 23 3 1 #[.slice aS M.slots.length cS, .slice aH M.heads.length cH, .slice aF M.free.length cF, .slice aL M.locks.length cL, .int .i64 M.now] W l.length (encI l)) hstart (fun l W h => h.box) (fun l W h => HAw.out.below (b0.trans (h.below.mono (by omega)))) ?_).mono ?_
  · intro l a W hL ha hl
    exact app85 _ _ _ _ _ _ _ hL (by omega)
  rintro e w1 ⟨rfl, hL1⟩
  have HL1 : Hid _ := hL1
  have HB1 : Hid (Below w.heap.size w w1) := b0.trans (hL1.below.mono (by omega))
  obtain ⟨⟨v, hv, ho⟩, -, -, -⟩ := hL1
  have hm : (chL M b).length ≤ 12 := Nat.le_trans (walkL_len _ _ _) n0
  obtain ⟨ao, cap, rfl, hrow⟩ := IRow.of_own ho (by omega)
  obtain ⟨c0, f0, lB⟩ := var_cell hv
  have HRow : Hid _ := hrow
  clear hv ho hrow HL1 hstart HB0 HV0 HZ0 HA0 b0
  cases hc : chOk M b
  · have HV : Hid (E0 = 4 ∧ L0 = []) := ⟨HE0.out.trans (by unfold slotsE; rw [hc]; rfl), HL0.out.trans (by unfold slotsL; rw [hc]; rfl)⟩
    go_wp2
    go_ret2
    refine ⟨none, 0, ?_, ?_, HB1.out⟩
    · rw [HV.out.1, HV.out.2]; rfl
    · rw [HV.out.2]; exact ⟨by decide, by decide, fun _ => rfl, .inl rfl⟩
  · have HV : Hid (E0 = 0 ∧ L0 = chL M b) := ⟨HE0.out.trans (by unfold slotsE; rw [hc]; rfl), HL0.out.trans (by unfold slotsL; rw [hc]; rfl)⟩
    go_wp2
    go_ret2
    refine ⟨ao, cap, ?_, ?_, HB1.out⟩
    · rw [HV.out.1, HV.out.2]; rfl
    · rw [HV.out.2]; exact HRow.out



end Go.Proofs.Ytdbilofhcadmoab.mm

/- The contract of checkSlot. -/
namespace Go.Proofs.Ytdbilofhcadmoab.mm
open Go.ChangeShapes Go.WideShapes Go.ChangeAt Go.RowKit Go.Joins Go.Maps
set_option maxRecDepth 100000
set_option linter.unusedVariables false

theorem slotAt_lt {M : Mm} {j : Nat} (h : j < M.slots.length) : slotAt M j = M.slots[j] := by simp [slotAt, List.getD_eq_getElem?_getD, h]

set_option maxHeartbeats 1600000 in
theorem checkSlot_any (M : Mm) (aS aH aF aL : Option Addr) (cS cH cF cL b j g : Nat) (all : List Int) (w : World) (A : At w aS aH aF aL cS cH cF cL M) (hok : Ok M) (hb : b < M.heads.length) (hj : j < M.slots.length) (hm : MapAt M w g all) :
    Calls Try.prog 143 #[.agg #[.slice aS M.slots.length cS, .slice aH M.heads.length cH, .slice aF M.free.length cF, .slice aL M.locks.length cL, .int .i64 M.now], .int .i64 b, .int .i64 j, .map (some g)] w fun e w' => e = .returned (.int .i64 (slotC M b all j)) ∧ Below w.heap.size w w' := by
  obtain ⟨E0, hE0⟩ : ∃ E0, E0 = slotC M b all j := ⟨_, rfl⟩
  rw [← hE0]
  have HE0 : Hid (E0 = slotC M b all j) := hE0
  clear hE0
  have n0 := hok.ns
  have n1 := hok.nh
  have hgood := slot_good (hok.slot _ (List.getElem_mem hj))
  have hs : slotAt M j = M.slots[j] := slotAt_lt hj
  have HM : Hid (MapAt M w g all) := hm
  have gl := hm.lt
  clear hm
  rcases A.s.at_ with h0 | ⟨bs, os, rfl, hc⟩
  · omega
  obtain ⟨c0, c1, c2, c3, c4, c5⟩ := hc j hj
  have lt := cell_lt c0
  clear hc A
  generalize hsl : M.slots[j] = s at c0 c1 c2 c3 c4 c5
  rw [hsl] at hgood hs
  obtain ⟨r, ka, kb, u, i, nx⟩ := s
  dsimp only at c0 c1 c2 c3 c4 c5 hgood
  have HSL : Hid (slotAt M j = ⟨r, ka, kb, u, i, nx⟩) := hs
  clear hsl hs
  have hkey := hgood.2.2.1
  clear hgood
  have hbw : Below w.heap.size w ((w.alloc (.cells #[.slice (some ⟨bs, os, none⟩) M.slots.length cS, .slice aH M.heads.length cH, .slice aF M.free.length cF, .slice aL M.locks.length cL, .int .i64 M.now] 25)).alloc (.cells #[.int .i64 r, .int .i64 ka, .int .i64 kb, .int .i64 u, .bool i, .int .i64 nx] 39)) := below_alloc2 w _ _
  by_cases hr : r = 0
  · subst hr
    have HV : Hid (E0 = 5) := HE0.out.trans (by unfold slotC; rw [HSL.out, if_pos (.inl rfl)])
    go_enter Try.func143, Try.ntmps143
    go_wp2
    go_ret
    exact ⟨ret_int HV.out.symm, hbw⟩
  have hr' : (r == 0) = false := by simpa using hr
  cases i
  · have HV : Hid (E0 = 5) := HE0.out.trans (by unfold slotC; rw [HSL.out, if_pos (.inr rfl)])
    go_enter Try.func143, Try.ntmps143
    go_wp2
    go_ret
    exact ⟨ret_int HV.out.symm, hbw⟩
  have HC : Hid (E0 = if bucket ka kb M.heads.length ≠ b then 4 else if hasK M all (ka, kb) then 6 else 0) := HE0.out.trans (by
    have hk : keyAt M j = (ka, kb) := by unfold keyAt; rw [HSL.out]
    unfold slotC
    rw [hk, HSL.out]
    dsimp only
    rw [if_neg (by rintro (h | h); exact hr h; cases h)])
  have HK : Hid (keyB ka kb = true) := hkey
  clear hkey HE0
  go_enter Try.func143, Try.ntmps143
  go_wp2_with fail
  refine (bucket_ok _ _ _ _ HK.out n1.1 n1.2).mono ?_
  rintro e w1 ⟨rfl, hb1⟩
  have hbx : Below w.heap.size w w1 := hbw.trans (hb1.mono (by simp; omega))
  have s1 : w1.cell? ⟨w.heap.size + 1, 1, none⟩ = some (.int .i64 ka) := ((bcell hb1).1 _ _ (by simp)).trans (by simp)
  have s2 : w1.cell? ⟨w.heap.size + 1, 2, none⟩ = some (.int .i64 kb) := ((bcell hb1).1 _ _ (by simp)).trans (by simp)
  have hl := MapAt.look (MapAt.kept HM.out (hbx.block g gl)) HK.out
  clear hb1 hbw c0 c1 c2 c3 c4 c5
  by_cases hbb : bucket ka kb M.heads.length = b
  · have HD : Hid (E0 = if hasK M all (ka, kb) then 6 else 0) := HC.out.trans (by rw [if_neg (by simpa using hbb)])
    rw [hbb]
    have hbe : ((b : Int) != (b : Int)) = false := by simp
    cases hh : hasK M all (ka, kb)
    · rw [hh] at hl
      have HV : Hid (E0 = 0) := HD.out.trans (by rw [hh]; rfl)
      clear HC HD
      go_wp2
      go_ret
      exact ⟨ret_int HV.out.symm, hbx⟩
    · rw [hh] at hl
      have HV : Hid (E0 = 6) := HD.out.trans (by rw [hh]; rfl)
      clear HC HD
      go_wp2
      go_ret
      exact ⟨ret_int HV.out.symm, hbx⟩
  · have hbe : (bucket ka kb M.heads.length != (b : Int)) = true := by simpa using hbb
    have HV : Hid (E0 = 4) := HC.out.trans (by rw [if_pos hbb])
    clear HC
    generalize bucket ka kb M.heads.length = q at *
    go_wp2
    go_ret
    exact ⟨ret_int HV.out.symm, hbx⟩



end Go.Proofs.Ytdbilofhcadmoab.mm

/- The contract of mapped: what Check of chains finds, and the map from keys that are mapped to their slots. -/
namespace Go.Proofs.Ytdbilofhcadmoab.mm
open Go.ChangeShapes Go.WideShapes Go.ChangeAt Go.RowKit Go.Joins Go.Maps
set_option maxRecDepth 100000
set_option linter.unusedVariables false

theorem walkL_in {S : List Sl} {N : Nat} (hs : ∀ s ∈ S, s.next ≤ N) : ∀ (k : Nat) (n : Int), n ≤ N → ∀ a ∈ walkL S k n, 0 ≤ a ∧ a < N
  | 0, _, _, _, ha => by cases ha
  | k + 1, n, hn, a, ha => by
    simp only [walkL] at ha
    split at ha
    · rename_i h0
      rcases List.mem_cons.1 ha with rfl | ha
      · omega
      · refine walkL_in hs k (nextN S n) ?_ a ha
        unfold nextN
        by_cases hx : (n - 1).toNat < S.length
        · rw [getD_lt S _ hx]; exact hs _ (List.getElem_mem hx)
        · rw [List.getD_eq_getElem?_getD, List.getElem?_eq_none (by omega)]; show (0 : Int) ≤ N; omega
    · cases ha
theorem Ok.chIn {M : Mm} (h : Ok M) {b : Nat} (hb : b < M.heads.length) : ∀ a ∈ chL M b, 0 ≤ a ∧ a < M.slots.length :=
  walkL_in (fun s hs => ((inB_iff _ _ _).1 (slot_good (h.slot s hs)).2.2.2).2) _ _ ((inB_iff _ _ _).1 (h.headIn hb).2).2

theorem cell_map {w : World} {g o : Nat} {es : Array MapEntry} {clock : Nat} (h : w.heap[g]? = some (.map es clock)) : w.cell? ⟨g, o, none⟩ = none := by
  unfold World.cell?
  rw [h]
theorem IRow.turn {w w' : World} {ao : Option Addr} {cap g : Nat} {l : List Int} {es : Array MapEntry} {clock : Nat} (r : IRow w ao cap l) (hg : w.heap[g]? = some (.map es clock)) (h : ∀ k, k < w.heap.size → k ≠ g → w'.heap[k]? = w.heap[k]?) : IRow w' ao cap l := by
  refine ⟨r.le, r.max, r.nil, ?_⟩
  rcases r.at_ with h0 | ⟨b, o, e, hc⟩
  · exact .inl h0
  · refine .inr ⟨b, o, e, fun i hi => ?_⟩
    have hne : b ≠ g := by
      rintro rfl
      have := hc i hi
      rw [cell_map hg] at this
      cases this
    rw [World.cell?_of_block (a := ⟨b, o + i, none⟩) (h b (cell_lt (hc i hi)) hne)]
    exact hc i hi
theorem MapAt.blk {M : Mm} {w : World} {g : Nat} {l : List Int} (h : MapAt M w g l) : ∃ es clock, w.heap[g]? = some (.map es clock) := by
  obtain ⟨n, hn, D, ⟨es, clock, hg, F, hs, hD⟩, hat⟩ := h
  exact ⟨es, clock, hg⟩

theorem allTo_len (M : Mm) : ∀ b : Nat, (allTo M b).length ≤ b * M.slots.length
  | 0 => by simp [allTo]
  | b + 1 => by
    rw [allTo_succ, List.length_append, Nat.succ_mul]
    have := allTo_len M b
    have : (chL M b).length ≤ M.slots.length := walkL_len _ _ _
    omega

def MapIs (M : Mm) (Z : Int) (lo : Nat) (w : World) (v : Value) : Prop := (Z ≠ 0 → v = .map none) ∧ (Z = 0 → ∃ g, v = .map (some g) ∧ lo ≤ g ∧ MapAt M w g (allC M))

set_option maxHeartbeats 6400000 in
theorem mapped_any (M : Mm) (aS aH aF aL : Option Addr) (cS cH cF cL : Nat) (w : World) (A : At w aS aH aF aL cS cH cF cL M) :
    Calls Try.prog 72 #[.agg #[.slice aS M.slots.length cS, .slice aH M.heads.length cH, .slice aF M.free.length cF, .slice aL M.locks.length cL, .int .i64 M.now]] w fun e w' => ∃ v, e = .returned (.tuple #[v, .int .i64 (chkC M)]) ∧ MapIs M (chkC M) w.heap.size w' v ∧ Below w.heap.size w w' := by
  obtain ⟨Z, hZ⟩ : ∃ Z, Z = chkC M := ⟨_, rfl⟩
  rw [← hZ]
  have HZ : Hid (Z = chkC M) := hZ
  clear hZ
  obtain ⟨o1, ho1⟩ : ∃ o : Obj, o = .cells #[.slice aS M.slots.length cS, .slice aH M.heads.length cH, .slice aF M.free.length cF, .slice aL M.locks.length cL, .int .i64 M.now] 25 := ⟨_, rfl⟩
  have b0 : Below w.heap.size w (w.alloc o1) := one_below w o1
  have HB0 : Hid ((w.alloc o1).heap[w.heap.size]? = some o1) := heap_alloc_new _ _
  have HA : Hid (At w aS aH aF aL cS cH cF cL M) := A
  have HA0 : Hid _ := A.below b0
  clear A
  go_enter Try.func72, Try.ntmps72
  go_wp2_with fail
  rw [← ho1]
  generalize w.alloc o1 = W0 at *
  subst ho1
  refine (check_any M aS aH aF aL cS cH cF cL W0 HA0.out).mono ?_
  rintro e w1 ⟨rfl, hb1⟩
  have b1 := b0.trans (hb1.mono b0.size)
  have HB1 : Hid _ := (hb1.block w.heap.size (lt_of_block HB0.out)).trans HB0.out
  clear hb1 b0 HB0 HA0
  by_cases hE : chk M = 0
  rotate_left
  · have h' : (chk M != 0) = true := by simpa using hE
    have HV : Hid (Z = chk M) := HZ.out.trans (by unfold chkC; rw [if_pos hE])
    have HN : Hid (chk M ≠ 0) := hE
    clear HB1
    generalize chk M = E at *
    go_wp2
    go_ret2
    exact ⟨_, by rw [HV.out]; rfl, ⟨fun _ => rfl, fun h => absurd (HV.out ▸ h) HN.out⟩, b1⟩
  have hok := (chk_zero M).1 hE
  have n0 := hok.ns
  have n1 := hok.nh
  have HC : Hid (Z = chkB M M.heads.length 0 []) := HZ.out.trans (by unfold chkC; rw [if_neg (by simpa using hE)])
  rw [hE]
  clear hE HZ
  obtain ⟨q0, q1, q2, q3, q4, f0, f1, f2, f3, f4, qs⟩ := boxf HB1.out
  clear f0 f1 f2 f3 f4
  have HM1 : Hid (MapAt M (w1.alloc (.map #[] 0)) w1.heap.size []) := MapAt.made M w1
  have b2 := b1.alloc b1.size (.map #[] 0)
  have HB2 : Hid ((w1.alloc (.map #[] 0)).heap[w.heap.size]? = _) := (Below.heap_alloc _ _ _ qs).trans HB1.out
  have hmm := @run_makeMap Try.prog
  go_wp2
  clear q0 q1 q2 q3 q4 hmm
  go_loopw [21] (fun i wr => ∃ b : Nat, b ≤ M.heads.length ∧ i = .int .i64 b ∧ Hid (MapAt M wr w1.heap.size (allTo M b)) ∧ Below w.heap.size w wr ∧ Hid (wr.heap[w.heap.size]? = some (.cells #[.slice aS M.slots.length cS, .slice aH M.heads.length cH, .slice aF M.free.length cF, .slice aL M.locks.length cL, .int .i64 M.now] 25 (0, 0))) ∧ Hid (Z = chkB M (M.heads.length - b) b (allTo M b)))
    (fun i _ => M.heads.length - (intOf i).toNat)
  case atStart => exact ⟨0, Nat.zero_le _, rfl, HM1, b2, HB2, HC⟩
  case round =>
    obtain ⟨b, hb, rfl, HM, hbw, HB, HE⟩ := hrel
    clear HM1 HB2 b2 HC HB1 b1
    obtain ⟨q0, q1, q2, q3, q4, f0, f1, f2, f3, f4, qs'⟩ := boxf HB.out
    clear f0 f1 f2 f3 f4
    have gl := MapAt.lt HM.out
    by_cases hlt : b < M.heads.length
    · have HAr : Hid _ := HA.out.below hbw
      go_wp2_with fail
      refine (slotsOf_any M aS aH aF aL cS cH cF cL b wr HAr.out hok hlt).mono ?_
      rintro e w2 ⟨ao, cap, rfl, hrow, hb2⟩
      have hbx := hbw.trans (hb2.mono hbw.size)
      have HM2 : Hid (MapAt M w2 w1.heap.size (allTo M b)) := MapAt.kept HM.out (hb2.block _ gl)
      have HB2 : Hid (w2.heap[w.heap.size]? = _) := (hb2.block w.heap.size qs').trans HB.out
      have HS : Hid _ := chkB_step M b hlt
      clear HM HB HAr hbw hb2 q0 q1 q2 q3 q4
      cases hc : chOk M b
      · have HV : Hid (Z = 4) := HE.out.trans (HS.out.trans (by rw [hc]; rfl))
        have es : slotsE M b = 4 := by unfold slotsE; rw [hc]; rfl
        have el : slotsL M b = [] := by unfold slotsL; rw [hc]; rfl
        rw [es, el]
        clear hrow HS HE
        go_wp2
        go_ret2
        exact ⟨_, by rw [HV.out]; rfl, ⟨fun _ => rfl, fun h => by rw [HV.out] at h; cases h⟩, hbx⟩
      · have es : slotsE M b = 0 := by unfold slotsE; rw [hc]; rfl
        have el : slotsL M b = chL M b := by unfold slotsL; rw [hc]; rfl
        rw [es, el]
        rw [el] at hrow
        have HIn : Hid _ := hok.chIn hlt
        have HRow : Hid (IRow w2 ao cap (chL M b)) := hrow
        have hlen : (chL M b).length ≤ 12 := Nat.le_trans (walkL_len _ _ _) n0
        have HD : Hid (Z = if scanC M b (allTo M b) (chL M b) ≠ 0 then scanC M b (allTo M b) (chL M b) else chkB M (M.heads.length - (b + 1)) (b + 1) (allTo M (b + 1))) := HE.out.trans (HS.out.trans (by rw [hc]; rfl))
        have HSu : Hid (allTo M (b + 1) = allTo M b ++ chL M b) := allTo_succ M b
        clear hrow HS HE es el hc
        generalize chL M b = l at *
        go_wp2
        go_loopw [35] (fun i wr => ∃ k : Nat, k ≤ l.length ∧ i = .int .i64 k ∧ Hid (MapAt M wr w1.heap.size (allTo M b ++ l.take k)) ∧ Hid (IRow wr ao cap l) ∧ Below w.heap.size w wr ∧ Hid (wr.heap[w.heap.size]? = some (.cells #[.slice aS M.slots.length cS, .slice aH M.heads.length cH, .slice aF M.free.length cF, .slice aL M.locks.length cL, .int .i64 M.now] 25 (0, 0))) ∧ Hid (scanC M b (allTo M b) l = scanC M b (allTo M b ++ l.take k) (l.drop k)))
          (fun i _ => l.length - (intOf i).toNat)
        case atStart => exact ⟨0, Nat.zero_le _, rfl, by rw [List.take_zero, List.append_nil]; exact HM2, HRow, hbx, HB2, by rw [List.take_zero, List.append_nil, List.drop_zero]; exact rfl⟩
        case round =>
          obtain ⟨k, hk, rfl, HM3, HR3, hb3, HB3, HE3⟩ := hrel
          clear HM2 HRow hbx HB2
          obtain ⟨q0, q1, q2, q3, q4, f0, f1, f2, f3, f4, qs3⟩ := boxf HB3.out
          clear f0 f1 f2 f3 f4
          by_cases hlt3 : k < l.length
          · rcases HR3.out.at_ with h0 | ⟨bl, ol, rfl, hcl⟩
            · omega
            have d0 := hcl k hlt3
            clear hcl
            have hin := HIn.out l[k] (List.getElem_mem hlt3)
            obtain ⟨j, hj⟩ : ∃ j : Nat, l[k] = j := ⟨(l[k]).toNat, by omega⟩
            have HX : Hid (l[k] = j) := hj
            rw [hj] at d0 hin
            clear hj
            have hjs : j < M.slots.length := by omega
            have HA3 : Hid _ := HA.out.below hb3
            have HSt : Hid _ := scanC_drop M b (allTo M b) l k hlt3
            go_wp2_with fail
            refine (checkSlot_any M aS aH aF aL cS cH cF cL b j w1.heap.size (allTo M b ++ l.take k) wr HA3.out hok hlt hjs HM3.out).mono ?_
            rintro e w4 ⟨rfl, hb4⟩
            have hbx4 := hb3.trans (hb4.mono hb3.size)
            have HM4 : Hid (MapAt M w4 w1.heap.size (allTo M b ++ l.take k)) := MapAt.kept HM3.out (hb4.block _ (MapAt.lt HM3.out))
            have HB4 : Hid (w4.heap[w.heap.size]? = _) := (hb4.block w.heap.size qs3).trans HB3.out
            have HR4 : Hid _ := HR3.out.below hb4
            have HA4 : Hid _ := HA.out.below hbx4
            clear HM3 HB3 HR3 HA3 hb4 hb3 q0 q1 q2 q3 q4 d0
            by_cases hsc : slotC M b (allTo M b ++ l.take k) j = 0
            · rw [hsc]
              have HV : Hid (scanC M b (allTo M b) l = scanC M b (allTo M b ++ l.take (k + 1)) (l.drop (k + 1))) := HE3.out.trans (HSt.out.trans (by rw [HX.out, if_neg (by simpa using hsc)]))
              have hz := (slotC_zero M b _ _).1 hsc
              have hnk : hasK M (allTo M b ++ l.take k) (keyAt M j) = false := by
                cases hh : hasK M (allTo M b ++ l.take k) (keyAt M j)
                · rfl
                · exact absurd ((hasK_iff _ _ _).1 hh) hz.2
              have HNK : Hid _ := hnk
              clear hz hnk hsc HSt HE3
              obtain ⟨r0, r1, r2, r3, r4, g0, g1, g2, g3, g4, rs⟩ := boxf HB4.out
              clear g0 g1 g2 g3 g4
              have hgood := (slot_good (hok.slot _ (List.getElem_mem hjs))).2.2.1
              rcases HA4.out.s.at_ with h0 | ⟨bs, os, rfl, hcs⟩
              · omega
              obtain ⟨c0, c1, c2, c3, c4, c5⟩ := hcs j hjs
              clear hcs c0 c3 c4 c5
              have hsl : slotAt M j = M.slots[j] := slotAt_lt hjs
              have hkk : keyAt M j = (M.slots[j].a, M.slots[j].b) := by unfold keyAt; rw [hsl]
              have HKK : Hid (keyAt M j = (M.slots[j].a, M.slots[j].b)) := hkk
              have HSL : Hid (slotAt M j = M.slots[j]) := hsl
              clear hkk hsl
              obtain ⟨nn, hnn, D, ho, hat⟩ := HM4.out
              have HO : Hid (w4.ownsMap Try.prog 37 (plainElem Try.prog 3) w1.heap.size nn D) := ho
              have HAT : Hid _ := hat
              obtain ⟨es, clock, hgb⟩ := MapAt.blk HM4.out
              have HGB : Hid _ := hgb
              have hnn2 : nn < 140737488355328 := by
                have h1 := allTo_len M b
                have h2 : b * M.slots.length ≤ 4 * 12 := Nat.mul_le_mul (by omega) n0
                have h3 := hnn
                simp only [List.length_append, List.length_take] at h3
                omega
              clear ho hat hgb
              go_wp2_with (at_mapUpdate; (refine wpList_mapUpdate_own (H := Unit) _ rfl _ _ _ 89 rfl 37 3 law37 under89 (plainElem Try.prog 3) w1.heap.size nn D rfl HO.out (by unfold maxLen; omega) _ _ (kl (M.slots[j].a, M.slots[j].b)) rfl rfl (keyOf_kl (keyB_wf hgood).1 (keyB_wf hgood).2) (.lit (.int .i64 (j : Int))) [] (plainElem_int Try.underlying3 (wf64 (by omega) (by omega))) ?_; intro w5 ho5 hg5))
              have HM5 : Hid (MapAt M w5 w1.heap.size (allTo M b ++ l.take (k + 1))) := by
                have := MapAt.put (a := (j : Int)) hnn HO.out.isMap HAT.out (by rw [HSL.out]; exact hgood) HNK.out (by rw [HKK.out]; exact ho5)
                rw [List.take_succ_eq_append_getElem hlt3, ← List.append_assoc, HX.out]
                exact this
              have HB5 : Hid (w5.heap[w.heap.size]? = some (.cells #[.slice (some ⟨bs, os, none⟩) M.slots.length cS, .slice aH M.heads.length cH, .slice aF M.free.length cF, .slice aL M.locks.length cL, .int .i64 M.now] 25 (0, 0))) := (hg5.block w.heap.size rs (by simp; omega)).trans HB4.out
              have HR5 : Hid (IRow w5 (some ⟨bl, ol, none⟩) cap l) := HR4.out.turn HGB.out (fun k h1 h2 => hg5.block k h1 (by simpa using h2))
              have hb5 : Below w.heap.size w w5 := hbx4.grown hg5 hbx4.size (fun k h => by cases h; omega)
              go_roundw
              case rel => exact ⟨k + 1, by omega, by go_num, HM5, HR5, hb5, HB5, HV⟩
              case measure => simp [intOf]; omega
            · have h' : (slotC M b (allTo M b ++ l.take k) j != 0) = true := by simpa using hsc
              have HV : Hid (Z = slotC M b (allTo M b ++ l.take k) j) := by
                have h1 := HE3.out.trans (HSt.out.trans (by rw [HX.out, if_pos hsc]))
                have := HD.out
                rw [h1, if_pos hsc] at this
                exact this
              have HN : Hid (slotC M b (allTo M b ++ l.take k) j ≠ 0) := hsc
              clear HSt HE3 HD hsc HB4 HR4 HA4 HM4
              generalize slotC M b (allTo M b ++ l.take k) j = E at *
              go_wp2
              go_ret2
              exact ⟨_, by rw [HV.out]; rfl, ⟨fun _ => rfl, fun h => absurd (HV.out ▸ h) HN.out⟩, hbx4⟩
          · have hk' : k = l.length := by omega
            have HV : Hid (Z = chkB M (M.heads.length - (b + 1)) (b + 1) (allTo M (b + 1))) := by
              have h1 := HE3.out.trans (scanC_end M b (allTo M b) l k (by omega))
              have := HD.out
              rw [h1, if_neg (by simp)] at this
              exact this
            have HM6 : Hid (MapAt M wr w1.heap.size (allTo M (b + 1))) := by
              have := HM3.out
              rw [hk', List.take_length, ← HSu.out] at this
              exact this
            go_wp2
            go_roundw
            case rel => exact ⟨b + 1, by omega, by go_num, HM6, hb3, HB3, HV⟩
            case measure => simp [intOf]; omega
    · have hbe : b = M.heads.length := by omega
      have HV : Hid (Z = 0) := HE.out.trans (chkB_end M b (by omega) _)
      have HMf : Hid (MapAt M wr w1.heap.size (allC M)) := by
        have := HM.out
        rw [hbe] at this
        exact this
      go_wp2
      go_ret2
      exact ⟨_, by rw [HV.out]; rfl, ⟨fun h => absurd HV.out h, fun _ => ⟨w1.heap.size, rfl, by omega, HMf.out⟩⟩, hbw⟩



end Go.Proofs.Ytdbilofhcadmoab.mm

/- The contracts of chain.Check and chain.Slots. -/
namespace Go.Proofs.Ytdbilofhcadmoab.mm
open Go.ChangeShapes Go.WideShapes Go.ChangeAt Go.RowKit Go.Joins Go.Maps
set_option maxRecDepth 100000
set_option linter.unusedVariables false

set_option maxHeartbeats 800000 in
theorem chainCheck_any (M : Mm) (aS aH aF aL : Option Addr) (cS cH cF cL : Nat) (w : World) (A : At w aS aH aF aL cS cH cF cL M) :
    Calls Try.prog 16 #[.agg #[.slice aS M.slots.length cS, .slice aH M.heads.length cH, .slice aF M.free.length cF, .slice aL M.locks.length cL, .int .i64 M.now]] w fun e w' => e = .returned (.int .i64 (chkC M)) ∧ Below w.heap.size w w' := by
  have b0 : Below w.heap.size w (w.alloc (.cells #[.slice aS M.slots.length cS, .slice aH M.heads.length cH, .slice aF M.free.length cF, .slice aL M.locks.length cL, .int .i64 M.now] 25)) := one_below w _
  have HA0 : Hid _ := A.below b0
  clear A
  go_enter Try.func16, Try.ntmps16
  go_wp2_with fail
  refine (mapped_any M aS aH aF aL cS cH cF cL _ HA0.out).mono ?_
  rintro e w1 ⟨v, rfl, -, hb1⟩
  have b1 := b0.trans (hb1.mono b0.size)
  clear hb1 b0 HA0
  go_wp2
  go_ret
  exact ⟨rfl, b1⟩

def slotsCE (M : Mm) (b : Int) : Int := if chk M ≠ 0 then chk M else if inB b 0 ((M.heads.length : Int) - 1) = false then 5 else slotsE M b.toNat
def slotsCL (M : Mm) (b : Int) : List Int := if slotsCE M b = 0 then chL M b.toNat else []

theorem irow_nil (w : World) : IRow w none 0 [] := ⟨by decide, by decide, fun _ => rfl, .inl rfl⟩

set_option maxHeartbeats 1600000 in
theorem chainSlots_any (M : Mm) (aS aH aF aL : Option Addr) (cS cH cF cL : Nat) (b : Int) (w : World) (A : At w aS aH aF aL cS cH cF cL M) :
    Calls Try.prog 18 #[.agg #[.slice aS M.slots.length cS, .slice aH M.heads.length cH, .slice aF M.free.length cF, .slice aL M.locks.length cL, .int .i64 M.now], .int .i64 b] w fun e w' =>
      ∃ ao cap, e = .returned (.tuple #[.slice ao (slotsCL M b).length cap, .int .i64 (slotsCE M b)]) ∧ IRow w' ao cap (slotsCL M b) ∧ Below w.heap.size w w' := by
  obtain ⟨E0, hE0⟩ : ∃ E0, E0 = slotsCE M b := ⟨_, rfl⟩
  obtain ⟨L0, hL0⟩ : ∃ L0, L0 = slotsCL M b := ⟨_, rfl⟩
  rw [← hE0, ← hL0]
  have HE0 : Hid (E0 = slotsCE M b) := hE0
  have HL0 : Hid (L0 = slotsCL M b) := hL0
  clear hE0 hL0
  have m2 := A.h.max
  have n2 : M.heads.length ≤ 9223372036854775807 := by omega
  obtain ⟨o1, ho1⟩ : ∃ o : Obj, o = .cells #[.slice aS M.slots.length cS, .slice aH M.heads.length cH, .slice aF M.free.length cF, .slice aL M.locks.length cL, .int .i64 M.now] 25 := ⟨_, rfl⟩
  have b0 : Below w.heap.size w (w.alloc o1) := one_below w o1
  have HB0 : Hid ((w.alloc o1).heap[w.heap.size]? = some o1) := heap_alloc_new _ _
  have HA : Hid (At w aS aH aF aL cS cH cF cL M) := A
  have HA0 : Hid _ := A.below b0
  clear A
  go_enter Try.func18, Try.ntmps18
  go_wp2_with fail
  rw [← ho1]
  generalize w.alloc o1 = W0 at *
  subst ho1
  refine (check_any M aS aH aF aL cS cH cF cL W0 HA0.out).mono ?_
  rintro e w1 ⟨rfl, hb1⟩
  have b1 := b0.trans (hb1.mono b0.size)
  have HB1 : Hid _ := (hb1.block w.heap.size (lt_of_block HB0.out)).trans HB0.out
  clear hb1 b0 HB0 HA0
  by_cases hE : chk M = 0
  rotate_left
  · have h' : (chk M != 0) = true := by simpa using hE
    have HV : Hid (E0 = chk M ∧ L0 = []) := by
      have h : slotsCE M b = chk M := by unfold slotsCE; rw [if_pos hE]
      exact ⟨HE0.out.trans h, HL0.out.trans (by unfold slotsCL; rw [h, if_neg hE])⟩
    clear HB1
    generalize chk M = E at *
    go_wp2
    go_ret2
    exact ⟨none, 0, by rw [HV.out.1, HV.out.2]; rfl, by rw [HV.out.2]; exact irow_nil _, b1⟩
  have hok := (chk_zero M).1 hE
  have HC : Hid (chk M = 0) := hE
  rw [hE]
  clear hE
  obtain ⟨q0, q1, q2, q3, q4, f0, f1, f2, f3, f4, qs⟩ := boxf HB1.out
  clear f0 f1 f2 f3 f4
  go_wp2_with fail
  refine (hasChain_any aS aH aF aL _ _ _ _ cS cH cF cL _ _ w1 n2).mono ?_
  rintro e w2 ⟨rfl, hb2⟩
  have b2 := b1.trans (hb2.mono b1.size)
  have HB2 : Hid _ := (hb2.block w.heap.size qs).trans HB1.out
  clear hb2 b1 HB1 q0 q1 q2 q3 q4 qs
  cases hS : inB b 0 ((M.heads.length : Int) - 1)
  · have HV : Hid (E0 = 5 ∧ L0 = []) := by
      have h : slotsCE M b = 5 := by unfold slotsCE; rw [if_neg (by simpa using HC.out), if_pos hS]
      exact ⟨HE0.out.trans h, HL0.out.trans (by unfold slotsCL; rw [h, if_neg (by decide)])⟩
    go_wp2
    go_ret2
    exact ⟨none, 0, by rw [HV.out.1, HV.out.2]; rfl, by rw [HV.out.2]; exact irow_nil _, b2⟩
  have hbb := (inB_iff _ _ _).1 hS
  obtain ⟨c, rfl⟩ : ∃ c : Nat, b = c := ⟨b.toNat, by omega⟩
  have hc : c < M.heads.length := by omega
  have HV : Hid (E0 = slotsE M c ∧ L0 = slotsL M c) := by
    have h : slotsCE M c = slotsE M c := by unfold slotsCE; rw [if_neg (by simpa using HC.out), if_neg (by rw [hS]; simp)]; rfl
    refine ⟨HE0.out.trans h, HL0.out.trans ?_⟩
    unfold slotsCL
    rw [h]
    unfold slotsE slotsL
    cases chOk M c <;> simp
  obtain ⟨q0, q1, q2, q3, q4, f0, f1, f2, f3, f4, qs⟩ := boxf HB2.out
  clear f0 f1 f2 f3 f4 hS hbb
  have HA2 : Hid _ := HA.out.below b2
  go_wp2_with fail
  refine (slotsOf_any M aS aH aF aL cS cH cF cL c w2 HA2.out hok hc).mono ?_
  rintro e w3 ⟨ao, cap, rfl, hrow, hb3⟩
  have b3 := b2.trans (hb3.mono b2.size)
  have HR : Hid _ := hrow
  clear hrow hb3 b2 HB2 q0 q1 q2 q3 q4 qs HA2
  generalize slotsE M c = e1 at *
  generalize slotsL M c = l1 at *
  go_wp2
  go_ret2
  exact ⟨ao, cap, by rw [HV.out.1, HV.out.2]; rfl, by rw [HV.out.2]; exact HR.out, b3⟩



end Go.Proofs.Ytdbilofhcadmoab.mm

/- Lists of flows; the contract of chain.Flows. -/
namespace Go.Proofs.Ytdbilofhcadmoab.mm
open Go.ChangeShapes Go.WideShapes Go.ChangeAt Go.RowKit Go.Joins Go.Maps
set_option maxRecDepth 100000
set_option linter.unusedVariables false

structure Fl where
  a : Int
  b : Int
  slot : Int
  unt : Int

def Fl.enc (f : Fl) : List Value := [.int .i64 f.a, .int .i64 f.b, .int .i64 f.slot, .int .i64 f.unt]
def encF (l : List Fl) : List Value := l.flatMap Fl.enc
theorem encF_cons (s : Fl) (l : List Fl) : encF (s :: l) = s.enc ++ encF l := by simp [encF]
theorem encF_len (l : List Fl) : (encF l).length = l.length * 4 := by
  induction l with
  | nil => rfl
  | cons s l ih => rw [encF_cons, List.length_append, ih]; simp [Fl.enc]; omega
theorem encF_get (l : List Fl) (i q : Nat) (h : i < l.length) (hq : q < 4) : (encF l)[i * 4 + q]? = (l[i].enc)[q]? := by
  induction l generalizing i with
  | nil => simp at h
  | cons s l ih =>
    rw [encF_cons]
    match i with
    | 0 =>
      rw [List.getElem?_append_left (by simp [Fl.enc]; omega)]
      simp
    | i + 1 =>
      rw [List.getElem?_append_right (by simp [Fl.enc]; omega)]
      have hl : s.enc.length = 4 := rfl
      rw [hl, show (i + 1) * 4 + q - 4 = i * 4 + q by omega, ih i (by simpa using h)]
      simp

structure FRow (w : World) (ao : Option Addr) (cap : Nat) (l : List Fl) : Prop where
  le : l.length ≤ cap
  max : l.length * 32 ≤ 140737488351232
  nil : ao = none → cap = 0
  at_ : l.length = 0 ∨ ∃ b o, ao = some ⟨b, o, none⟩ ∧ ∀ i (h : i < l.length),
    w.cell? ⟨b, o + i * 4, none⟩ = some (.int .i64 l[i].a) ∧ w.cell? ⟨b, o + i * 4 + 1, none⟩ = some (.int .i64 l[i].b) ∧ w.cell? ⟨b, o + i * 4 + 2, none⟩ = some (.int .i64 l[i].slot) ∧ w.cell? ⟨b, o + i * 4 + 3, none⟩ = some (.int .i64 l[i].unt)

theorem FRow.below {w w' : World} {ao : Option Addr} {cap : Nat} {l : List Fl} (r : FRow w ao cap l) (hb : Below w.heap.size w w') : FRow w' ao cap l := by
  refine ⟨r.le, r.max, r.nil, ?_⟩
  rcases r.at_ with h | ⟨b, o, h, hc⟩
  · exact .inl h
  · refine .inr ⟨b, o, h, fun i hi => ?_⟩
    obtain ⟨c0, c1, c2, c3⟩ := hc i hi
    have lt := cell_lt c0
    obtain ⟨q, _⟩ := bcell hb
    exact ⟨(q _ _ lt).trans c0, (q _ _ lt).trans c1, (q _ _ lt).trans c2, (q _ _ lt).trans c3⟩
theorem FRow.mk_cells {w : World} {b cap : Nat} {S : List Fl} (hl : S.length ≤ cap) (hm : S.length * 32 ≤ 140737488351232) (hc : ∀ j, j < S.length * 4 → w.cell? ⟨b, j, none⟩ = (encF S)[j]?) : FRow w (some ⟨b, 0, none⟩) cap S := by
  refine ⟨hl, hm, (fun h => by cases h), .inr ⟨b, 0, rfl, fun i hi => ?_⟩⟩
  have e : ∀ q, q < 4 → w.cell? ⟨b, 0 + i * 4 + q, none⟩ = (S[i].enc)[q]? := fun q hq => by
    rw [Nat.zero_add, hc _ (by omega), encF_get S i q hi hq]
  exact ⟨e 0 (by omega), e 1 (by omega), e 2 (by omega), e 3 (by omega)⟩
theorem FRow.of_own {w : World} {base n : Nat} {v : Value} {S : List Fl} (h : w.ownsRow base 42 4 v n (encF S)) (hm : S.length * 32 ≤ 140737488351232) : ∃ ao cap, v = .slice ao S.length cap ∧ FRow w ao cap S := by
  have hl := h.1
  rw [encF_len] at hl
  have hn : S.length = n := by omega
  subst hn
  rcases h.2 with ⟨rfl, h0⟩ | ⟨g, cap, cur, rfl, hg, hb, hc, -, hs, ht⟩
  · exact ⟨none, 0, by rw [h0], by omega, hm, fun _ => rfl, .inl h0⟩
  · exact ⟨_, _, rfl, .mk_cells hc hm fun j hj => h.cellAt j hj⟩
theorem frow_nil (w : World) : FRow w none 0 [] := ⟨by decide, by decide, fun _ => rfl, .inl rfl⟩

theorem iF : (Try.prog.info? 42).map (fun i => (i.zero, i.size, i.bytes)) = some (some (.agg #[.int .i64 0, .int .i64 0, .int .i64 0, .int .i64 0]), 4, 32) := by kernel_rfl

def flowAt (M : Mm) (x : Int) : Fl := ⟨(slotAt M x).a, (slotAt M x).b, x, (slotAt M x).unt⟩
def flowsM (M : Mm) : List Fl := if chkC M = 0 then (allC M).map (flowAt M) else []

theorem four_new (w : World) (f : Fl) : ∀ (j : Nat) (u : Value), (f.enc)[j]? = some u → (w.alloc (.cells #[.int .i64 f.a, .int .i64 f.b, .int .i64 f.slot, .int .i64 f.unt] 42)).cell? ((⟨w.heap.size, 0, none⟩ : Addr).add j) = some u := by
  intro j u hu
  rw [Addr.add_lit]
  match j, hu with
  | 0, hu => simp [Fl.enc] at hu; subst hu; simp
  | 1, hu => simp [Fl.enc] at hu; subst hu; simp
  | 2, hu => simp [Fl.enc] at hu; subst hu; simp
  | 3, hu => simp [Fl.enc] at hu; subst hu; simp
  | j + 4, hu => simp [Fl.enc] at hu

set_option maxHeartbeats 1600000 in
theorem app72 (M : Mm) (aS aH aF aL : Option Addr) (cS cH cF cL : Nat) (w0 W : World) (X B Y : Nat) (ob : Array Value) (l : List Int) (j : Nat) (L : Lst w0 B Y 29 42 4 ob W (l.map (flowAt M)).length (encF (l.map (flowAt M)))) (hl : l.length ≤ 100)
    (hX : W.heap[X]? = some (.cells #[.slice aS M.slots.length cS, .slice aH M.heads.length cH, .slice aF M.free.length cF, .slice aL M.locks.length cL, .int .i64 M.now] 25 (0, 0))) (A : At W aS aH aF aL cS cH cF cL M) (hj : j < M.slots.length) (hns : M.slots.length ≤ 12) :
    Calls Try.prog 74 #[.int .i64 j, .pointer (some ⟨X, 0, none⟩), .pointer (some ⟨B, 0, none⟩)] W fun e W' => e = .returned (.tuple #[]) ∧ Lst w0 B Y 29 42 4 ob W' ((l ++ [(j : Int)]).map (flowAt M)).length (encF ((l ++ [(j : Int)]).map (flowAt M))) := by
  obtain ⟨i0, hi, hz0, hz1, hz2⟩ := info_parts iF
  obtain ⟨⟨v, hB, ho⟩, hY, hb, hne⟩ := L
  have hll : (l.map (flowAt M)).length = l.length := by simp
  rw [hll] at ho
  obtain ⟨ao, cap, rfl⟩ := own_shape ho
  obtain ⟨c0, f0, lB⟩ := var_cell hB
  obtain ⟨q0, q1, q2, q3, q4, -, -, -, -, -, qs⟩ := boxf hX
  rcases A.s.at_ with h0 | ⟨bs, os, rfl, hcs⟩
  · omega
  obtain ⟨s0, s1, s2, s3, s4, s5⟩ := hcs j hj
  have ls := cell_lt s0
  have hsl : slotAt M j = M.slots[j] := slotAt_lt hj
  generalize hM : M.slots[j] = s at s0 s1 s2 s3 s4 s5 hsl
  obtain ⟨r, ka, kb, u, i, nx⟩ := s
  dsimp only at s0 s1 s2 s3 s4 s5
  have HFl : Hid (flowAt M j = ⟨ka, kb, j, u⟩) := by unfold flowAt; rw [hsl]; rfl
  clear hM hsl hcs A hX
  have HB : Hid _ := hB
  have HY : Hid _ := hY
  have lY := lt_of_block hY
  clear hB hY
  have kB : (W.alloc (.cells #[.int .i64 r, .int .i64 ka, .int .i64 kb, .int .i64 u, .bool i, .int .i64 nx] 39)).heap[B]? = _ := (Below.heap_alloc W (.cells #[.int .i64 r, .int .i64 ka, .int .i64 kb, .int .i64 u, .bool i, .int .i64 nx] 39) B lB).trans HB.out
  have kY : (W.alloc (.cells #[.int .i64 r, .int .i64 ka, .int .i64 kb, .int .i64 u, .bool i, .int .i64 nx] 39)).heap[Y]? = _ := (Below.heap_alloc W (.cells #[.int .i64 r, .int .i64 ka, .int .i64 kb, .int .i64 u, .bool i, .int .i64 nx] 39) Y lY).trans HY.out
  have KB : Hid _ := kB
  have KY : Hid _ := kY
  clear kB kY
  have hb' := hb.alloc (Nat.le_of_lt lB) (.cells #[.int .i64 r, .int .i64 ka, .int .i64 kb, .int .i64 u, .bool i, .int .i64 nx] 39)
  have HN : Hid _ := four_new (W.alloc (.cells #[.int .i64 r, .int .i64 ka, .int .i64 kb, .int .i64 u, .bool i, .int .i64 nx] 39)) ⟨ka, kb, j, u⟩
  rw [show (W.alloc (.cells #[.int .i64 r, .int .i64 ka, .int .i64 kb, .int .i64 u, .bool i, .int .i64 nx] 39)).heap.size = W.heap.size + 1 by simp] at HN
  go_enter Try.func74, Try.ntmps74
  go_wp2_with (at_builtin; refine wpList_append_own_at _ rfl (.tmp 10) (.tmp 17) 29 rfl (B + 1) 42 i0 (.agg #[.int .i64 0, .int .i64 0, .int .i64 0, .int .i64 0]) 4 32 Try.underlying29 hi hz0 hz1 hz2 rfl (by decide) _ _ _ rfl ((ho.alloc _).alloc _) ⟨W.heap.size + 1, 0, none⟩ 1 1 (Fl.enc ⟨ka, kb, j, u⟩) rfl rfl HN.out (by intro x hx; simp only [Fl.enc, List.mem_cons, List.not_mem_nil, or_false] at hx; rcases hx with rfl | rfl | rfl | rfl <;> rfl) (by unfold maxLen; omega) (by omega) (by simp; omega) ?_; intro v2 w2 ho2 hg2 _ hloc2; obtain ⟨g2, cap2, rfl⟩ := ownsRow_form ho2 (by omega); have HL : Hid _ := Lst.step KB.out (ho.alloc _) KY.out hb' hne (by decide) (by decide) hg2 ho2; obtain ⟨d0, e0, lB2⟩ := var_cell (box_kept KB.out hg2 (own_ne (ho.alloc _) KB.out (by decide))); clear c0 f0 ho2 hg2 hloc2)
  go_end0
  refine ⟨rfl, ?_⟩
  have := HL.out
  rw [show encF (l.map (flowAt M) ++ [flowAt M (j : Int)]) = encF (l.map (flowAt M)) ++ Fl.enc ⟨ka, kb, j, u⟩ by simp [encF, HFl.out]]
  exact this

theorem fn72 : ∀ args W, (callFunc 74 args).run Try.prog W = .ok (.enter 74 args) W := fun _ _ => by kernel_rfl

set_option maxHeartbeats 3200000 in
theorem flows_any (M : Mm) (aS aH aF aL : Option Addr) (cS cH cF cL : Nat) (w : World) (A : At w aS aH aF aL cS cH cF cL M) :
    Calls Try.prog 17 #[.agg #[.slice aS M.slots.length cS, .slice aH M.heads.length cH, .slice aF M.free.length cF, .slice aL M.locks.length cL, .int .i64 M.now]] w fun e w' =>
      ∃ ao cap, e = .returned (.tuple #[.slice ao (flowsM M).length cap, .int .i64 (chkC M)]) ∧ FRow w' ao cap (flowsM M) ∧ Below w.heap.size w w' := by
  obtain ⟨E0, hE0⟩ : ∃ E0, E0 = chkC M := ⟨_, rfl⟩
  obtain ⟨L0, hL0⟩ : ∃ L0, L0 = flowsM M := ⟨_, rfl⟩
  rw [← hE0, ← hL0]
  have HE0 : Hid (E0 = chkC M) := hE0
  have HL0 : Hid (L0 = flowsM M) := hL0
  clear hE0 hL0
  obtain ⟨o1, ho1⟩ : ∃ o : Obj, o = .cells #[.slice aS M.slots.length cS, .slice aH M.heads.length cH, .slice aF M.free.length cF, .slice aL M.locks.length cL, .int .i64 M.now] 25 := ⟨_, rfl⟩
  have b0 : Below w.heap.size w (w.alloc o1) := one_below w o1
  have HB0 : Hid ((w.alloc o1).heap[w.heap.size]? = some o1) := heap_alloc_new _ _
  have HA : Hid (At w aS aH aF aL cS cH cF cL M) := A
  have HA0 : Hid _ := A.below b0
  clear A
  have hmf : ∀ (fn : Fn) (first cap : Array Value) (w : World), (Instr.makeFunc fn first cap).run Try.prog w = .ok (.func fn first cap) w := fun _ _ _ _ => rfl
  go_enter Try.func17, Try.ntmps17
  go_wp2_with fail
  rw [← ho1]
  generalize w.alloc o1 = W0 at *
  subst ho1
  refine (chainCheck_any M aS aH aF aL cS cH cF cL W0 HA0.out).mono ?_
  rintro e w1 ⟨rfl, hb1⟩
  have b1 := b0.trans (hb1.mono b0.size)
  have HB1 : Hid (w1.heap[w.heap.size]? = _) := (hb1.block w.heap.size (lt_of_block HB0.out)).trans HB0.out
  clear hb1 b0 HB0 HA0
  by_cases hE : chkC M = 0
  rotate_left
  · have h' : (chkC M != 0) = true := by simpa using hE
    have HV : Hid (E0 = chkC M ∧ L0 = []) := ⟨HE0.out, HL0.out.trans (by unfold flowsM; rw [if_neg hE])⟩
    clear HB1
    generalize chkC M = E at *
    go_wp2
    go_ret2
    exact ⟨none, 0, by rw [HV.out.1, HV.out.2]; rfl, by rw [HV.out.2]; exact frow_nil _, b1⟩
  have hokc := (chkC_zero M).1 hE
  have hok := hokc.ok
  have n0 := hok.ns
  have n1 := hok.nh
  have HV : Hid (E0 = 0 ∧ L0 = (allC M).map (flowAt M)) := ⟨HE0.out.trans hE, HL0.out.trans (by unfold flowsM; rw [if_pos hE])⟩
  rw [hE]
  clear hE HE0 HL0
  obtain ⟨q0, q1, q2, q3, q4, f0, f1, f2, f3, f4, qs⟩ := boxf HB1.out
  clear f0 f1 f2 f3 f4
  obtain ⟨B, hB⟩ : ∃ B, B = w1.heap.size := ⟨_, rfl⟩
  have HBe : Hid (B = w1.heap.size) := hB
  have HV1 : Hid ((w1.alloc (.cells #[.slice none 0 0] 29)).heap[B]? = some (.cells #[.slice none 0 0] 29)) := by rw [hB]; exact heap_alloc_new _ _
  have HX1 : Hid ((w1.alloc (.cells #[.slice none 0 0] 29)).heap[w.heap.size]? = some (.cells #[.slice aS M.slots.length cS, .slice aH M.heads.length cH, .slice aF M.free.length cF, .slice aL M.locks.length cL, .int .i64 M.now] 25 (0, 0))) := (Below.heap_alloc _ _ _ qs).trans HB1.out
  have b2 := b1.alloc b1.size (.cells #[.slice none 0 0] 29)
  have bX : w.heap.size < B := by rw [hB]; exact qs
  go_wp2
  rw [← hB]
  clear hB q0 q1 q2 q3 q4 HB1
  go_loopw [15] (fun i wr => ∃ b : Nat, b ≤ M.heads.length ∧ i = .int .i64 b ∧ (∃ v, Hid (wr.heap[B]? = some (.cells #[v] 29 (0, 0))) ∧ Hid (wr.ownsRow (B + 1) 42 4 v ((allTo M b).map (flowAt M)).length (encF ((allTo M b).map (flowAt M))))) ∧ Below w.heap.size w wr ∧ Hid (wr.heap[w.heap.size]? = some (.cells #[.slice aS M.slots.length cS, .slice aH M.heads.length cH, .slice aF M.free.length cF, .slice aL M.locks.length cL, .int .i64 M.now] 25 (0, 0))))
    (fun i _ => M.heads.length - (intOf i).toNat)
  case atStart => exact ⟨0, Nat.zero_le _, rfl, ⟨_, HV1, World.ownsRow_nil _ _ _ _⟩, b2, HX1⟩
  case round =>
    obtain ⟨b, hb, rfl, ⟨v, HVr, HOr⟩, hbw, HX⟩ := hrel
    clear HV1 HX1 b2 b1
    obtain ⟨q0, q1, q2, q3, q4, f0, f1, f2, f3, f4, qs'⟩ := boxf HX.out
    clear f0 f1 f2 f3 f4
    have lB := lt_of_block HVr.out
    by_cases hlt : b < M.heads.length
    · have hal := allTo_len M b
      have hal2 : b * M.slots.length ≤ 4 * 12 := Nat.mul_le_mul (by omega) n0
      go_wp2_with fail
      have hst : Lst wr B wr.heap.size 29 42 4 #[.slice aS M.slots.length cS, .slice aH M.heads.length cH, .slice aF M.free.length cF, .slice aL M.locks.length cL, .int .i64 M.now] (wr.alloc (.cells #[.slice aS M.slots.length cS, .slice aH M.heads.length cH, .slice aF M.free.length cF, .slice aL M.locks.length cL, .int .i64 M.now] 25)) ((allTo M b ++ []).map (flowAt M)).length (encF ((allTo M b ++ []).map (flowAt M))) := by
        rw [List.append_nil]
        refine ⟨⟨v, (Below.heap_alloc _ _ _ lB).trans HVr.out, World.ownsRow.alloc HOr.out _⟩, heap_alloc_new _ _, (Below.refl _ _).alloc (by omega) _, by omega⟩
      refine (walk_any 74 #[.pointer (some ⟨w.heap.size, 0, none⟩), .pointer (some ⟨B, 0, none⟩)] M aS aH aF aL cS cH cF cL b wr hok hlt fn72 (fun l W => Lst wr B wr.heap.size 29 42 4 #[.slice aS M.slots.length cS, .slice aH M.heads.length cH, .slice aF M.free.length cF, .slice aL M.locks.length cL, .int .i64 M.now] W ((allTo M b ++ l).map (flowAt M)).length (encF ((allTo M b ++ l).map (flowAt M)))) hst (fun l W h => h.box) (fun l W h => HA.out.below (hbw.trans (h.below.mono (by omega)))) ?_).mono ?_
      · intro l a W hL ha hl
        have := app72 M aS aH aF aL cS cH cF cL _ _ w.heap.size _ _ _ _ a hL (by rw [List.length_append]; omega) ((hL.below.block w.heap.size bX).trans HX.out) (HA.out.below (hbw.trans (hL.below.mono (by omega)))) ha n0
        rw [List.append_assoc] at this
        exact this
      rintro e w2 ⟨rfl, hL2⟩
      rw [← allTo_succ] at hL2
      obtain ⟨⟨v2, hv2, ho2⟩, -, hb2, -⟩ := hL2
      have HV2 : Hid (w2.heap[B]? = some (.cells #[v2] 29 (0, 0))) := hv2
      have HO2 : Hid (w2.ownsRow (B + 1) 42 4 v2 ((allTo M (b + 1)).map (flowAt M)).length (encF ((allTo M (b + 1)).map (flowAt M)))) := ho2
      have hbx : Below w.heap.size w w2 := hbw.trans (hb2.mono (by omega))
      have HX2 : Hid (w2.heap[w.heap.size]? = some (.cells #[.slice aS M.slots.length cS, .slice aH M.heads.length cH, .slice aF M.free.length cF, .slice aL M.locks.length cL, .int .i64 M.now] 25 (0, 0))) := (hb2.block w.heap.size bX).trans HX.out
      clear hv2 ho2 hb2 hst HVr HOr HX hbw q0 q1 q2 q3 q4
      go_wp2
      go_roundw
      case rel => exact ⟨b + 1, by omega, by go_num, ⟨v2, HV2, HO2⟩, hbx, HX2⟩
      case measure => simp [intOf]; omega
    · obtain rfl : b = M.heads.length := by omega
      have hlen := allTo_len M M.heads.length
      have hal2 : M.heads.length * M.slots.length ≤ 4 * 12 := Nat.mul_le_mul (by omega) n0
      obtain ⟨ao, cap, rfl, hrow⟩ := FRow.of_own HOr.out (by rw [List.length_map]; omega)
      have HR : Hid (FRow wr ao cap ((allC M).map (flowAt M))) := hrow
      clear hrow
      obtain ⟨c0, -, lB'⟩ := var_cell HVr.out
      have hlm : ((allC M).map (flowAt M)).length = ((allTo M M.heads.length).map (flowAt M)).length := rfl
      clear HVr HOr
      go_wp2
      go_ret2
      refine ⟨ao, cap, ?_, ?_, hbw⟩
      · rw [HV.out.1, HV.out.2, hlm]
        simp
      · rw [HV.out.2]; exact HR.out



end Go.Proofs.Ytdbilofhcadmoab.mm

/- The contracts of link, cut and aheadOf, on memory of one's own. -/
namespace Go.Proofs.Ytdbilofhcadmoab.mm
open Go.ChangeShapes Go.WideShapes Go.ChangeAt Go.RowKit Go.Joins Go.Maps
set_option maxRecDepth 100000
set_option linter.unusedVariables false

def linkAt (M : Mm) (a : Nat) (b : Nat) : Mm := { M with slots := M.slots.set a { slotAt M a with next := headM M b, inn := true }, heads := M.heads.set b ((a : Int) + 1) }
theorem linkM_at (M : Mm) (a : Nat) : linkM M a = linkAt M a (ownB M a) := rfl

theorem encS_set2 (S : List Sl) (j : Nat) (h : j < S.length) (nx : Int) (i : Bool) : ((encS S).set (j * 6 + 5) (.int .i64 nx)).set (j * 6 + 4) (.bool i) = encS (S.set j { S[j] with next := nx, inn := i }) := by
  induction S generalizing j with
  | nil => simp at h
  | cons x S ih =>
    match j with
    | 0 => simp [encS_cons, Sl.enc]
    | j + 1 =>
      have := ih j (by simpa using h)
      rw [List.set_cons_succ, encS_cons, encS_cons, List.getElem_cons_succ, ← this]
      simp only [Sl.enc, List.cons_append, List.nil_append, show (j + 1) * 6 + 5 = j * 6 + 5 + 6 by omega, show (j + 1) * 6 + 4 = j * 6 + 4 + 6 by omega, List.set_cons_succ]
theorem encS_set5 (S : List Sl) (j : Nat) (h : j < S.length) (nx : Int) : (encS S).set (j * 6 + 5) (.int .i64 nx) = encS (S.set j { S[j] with next := nx }) := by
  induction S generalizing j with
  | nil => simp at h
  | cons x S ih =>
    match j with
    | 0 => simp [encS_cons, Sl.enc]
    | j + 1 =>
      have := ih j (by simpa using h)
      rw [List.set_cons_succ, encS_cons, encS_cons, List.getElem_cons_succ, ← this]
      simp only [Sl.enc, List.cons_append, List.nil_append, show (j + 1) * 6 + 5 = j * 6 + 5 + 6 by omega, List.set_cons_succ]
theorem encI_set (H : List Int) (b : Nat) (x : Int) : (encI H).set b (.int .i64 x) = encI (H.set b x) := by
  simp [encI, List.map_set]

set_option maxHeartbeats 1600000 in
theorem link_in (w : World) (B gS gH nS nH j b cS cH : Nat) (fv lv nv : Value) (x nx : Int) (i : Bool)
    (hB : w.heap[B]? = some (.cells #[.slice (some ⟨gS, 0, none⟩) nS cS, .slice (some ⟨gH, 0, none⟩) nH cH, fv, lv, nv] 25 (0, 0))) (hj : j < nS) (hb : b < nH) (hn : nS ≤ 12) (hh : nH ≤ 4) (d1 : B ≠ gS) (d2 : gS ≠ gH) (d3 : B ≠ gH) (l1 : gS < w.heap.size) (l2 : gH < w.heap.size)
    (c4 : w.cell? ⟨gS, j * 6 + 4, none⟩ = some (.bool i)) (c5 : w.cell? ⟨gS, j * 6 + 5, none⟩ = some (.int .i64 nx)) (fz : ∀ q, w.frozen? ⟨gS, q, none⟩ = false) (ch : w.cell? ⟨gH, b, none⟩ = some (.int .i64 x)) (fh : w.frozen? ⟨gH, b, none⟩ = false) :
    Calls Try.prog 80 #[.pointer (some ⟨B, 0, none⟩), .int .i64 b, .int .i64 j] w fun e w' => e = .returned (.tuple #[]) ∧
      w' = (((w.setCell ⟨gS, j * 6 + 5, none⟩ (.int .i64 x)).setCell ⟨gS, j * 6 + 4, none⟩ (.bool true)).setCell ⟨gH, b, none⟩ (.int .i64 ((j : Int) + 1))).drew := by
  obtain ⟨q0, q1, q2, q3, q4, -, -, -, -, -, qs⟩ := boxf hB
  clear hB
  go_enter Try.func80, Try.ntmps80
  go_wp2
  go_region_with (go_at_call 148; refine (toSlot_any _ _ (by omega) (by omega)).mono ?_; rintro e w1 ⟨rfl, rfl⟩)
  all_goals go_wp2
  all_goals go_end0
  all_goals exact ⟨rfl, rfl⟩

theorem link_now (M : Mm) (w : World) (B lo : Nat) (aS aH aF aL : Option Addr) (cS cH cF cL j b : Nat) (m : Mine w B lo aS aH aF aL cS cH cF cL M) (hok : Ok M) (hj : j < M.slots.length) (hb : b < M.heads.length) :
    Calls Try.prog 80 #[.pointer (some ⟨B, 0, none⟩), .int .i64 b, .int .i64 j] w fun e w' => e = .returned (.tuple #[]) ∧ Now w w' B lo (linkAt M j b) := by
  obtain ⟨gS, rfl, oS, lS, -, -⟩ := row_form m.c.s (by omega)
  obtain ⟨gH, rfl, oH, lH, -, -⟩ := row_form m.c.h (by omega)
  obtain ⟨c0, c1, c2, c3, c4, c5, fz⟩ := row_cells m.c.s hj
  obtain ⟨ch, fh⟩ := row_cell m.c.h hb
  have dj : gS ≠ gH := fun e => own_dj m.c.s m.c.h (by decide) gS rfl (by rw [e]; rfl)
  refine (link_in w B gS gH _ _ j b cS cH _ _ _ _ _ _ m.box hj hb hok.ns hok.nh.2 m.ne_s dj m.ne_h lS lH c4 c5 fz ch fh).mono ?_
  rintro e w' ⟨rfl, rfl⟩
  have hs : slotAt M j = M.slots[j] := slotAt_lt hj
  have hhd : headM M b = M.heads[b] := by simp [headM, List.getD_eq_getElem?_getD, hb]
  unfold linkAt
  rw [hs, hhd]
  have h5 := encS_set5 M.slots j hj M.heads[b]
  have h2 := encS_set2 M.slots j hj M.heads[b] true
  rw [h5] at h2
  have m2 := ((m.setS (j * 6 + 5) (.int .i64 M.heads[b]) _ h5).setS (j * 6 + 4) (.bool true) _ h2).setH b ((j : Int) + 1)
  have k2 : Kept w _ B lo := (((Kept.refl w B lo).setCell (j := j * 6 + 5) oS (.int .i64 M.heads[b])).setCell (j := j * 6 + 4) oS (.bool true)).setCell (j := b) oH (.int .i64 ((j : Int) + 1))
  generalize ((w.setCell ⟨gS, j * 6 + 5, none⟩ (.int .i64 M.heads[b])).setCell ⟨gS, j * 6 + 4, none⟩ (.bool true)).setCell ⟨gH, b, none⟩ (.int .i64 ((j : Int) + 1)) = W at *
  have hbl : Below W.heap.size W W.drew := (Below.refl _ _).drew
  exact ⟨rfl, _, _, _, _, _, _, _, _, m2.below hbl, k2.below hbl m2.c.lz⟩
theorem link_any (M : Mm) (w : World) (B lo : Nat) (aS aH aF aL : Option Addr) (cS cH cF cL j b : Nat) (m : Mine w B lo aS aH aF aL cS cH cF cL M) (hok : Ok M) (hj : j < M.slots.length) (hb : b < M.heads.length) :
    Calls Try.prog 80 #[.pointer (some ⟨B, 0, none⟩), .int .i64 b, .int .i64 j] w fun e w' => e = .returned (.tuple #[]) ∧ Done w w' B lo (linkAt M j b) := by
  refine (link_now M w B lo aS aH aF aL cS cH cF cL j b m hok hj hb).mono ?_
  rintro e w' ⟨rfl, h⟩
  exact ⟨rfl, h.done⟩




end Go.Proofs.Ytdbilofhcadmoab.mm
