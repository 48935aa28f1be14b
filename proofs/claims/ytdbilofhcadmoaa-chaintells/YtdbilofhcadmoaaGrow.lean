/- Memory that grows: four lists in a box of one's own, each appended to. -/
import Derived.Test.YtdbilofhcadmoaaTaken
import Derived.Maps.AppendAt
namespace Go.Proofs.Ytdbilofhcadmoaa.mm
open Go.ChangeShapes Go.WideShapes Go.ChangeAt Go.RowKit Go.Joins
set_option linter.unusedVariables false

structure Gr (w0 : World) (lo B : Nat) (w : World) (sv hv fv lv : Value) (S : List Sl) (H F L : List Int) : Prop where
  box : w.heap[B]? = some (.cells #[sv, hv, fv, lv, .int .i64 0] 29 (0, 0))
  s : w.ownsRow lo 48 6 sv S.length (encS S)
  h : w.ownsRow lo 3 1 hv H.length (encI H)
  f : w.ownsRow lo 3 1 fv F.length (encI F)
  l : w.ownsRow lo 3 1 lv L.length (encI L)
  hf : Dj hv fv
  hl : Dj hv lv
  fl : Dj fv lv
  at_ : lo ≤ B
  below : Below lo w0 w

/- One row is appended to, by way of a block that holds what is appended. -/
theorem row_kept {w w1 : World} {ob : Obj} {lo size n : Nat} {e : TypeId} {v u : Value} {xs : List Value} (h : w.ownsRow lo e size v n xs) (hg : (w.alloc ob).grownBy w1 u.ownBlock) (hd : Dj v u) {B j : Nat} {x : Value} (hne : v.ownBlock ≠ some B) : (w1.setCell ⟨B, j, none⟩ x).ownsRow lo e size v n xs :=
  ownsRow_setCell_other ((h.alloc ob).kept hg hd.ne) hne x

theorem box_kept {w w1 : World} {ob : Obj} {B : Nat} {u : Value} {o : Obj} (hB : w.heap[B]? = some o) (hg : (w.alloc ob).grownBy w1 u.ownBlock) (hne : u.ownBlock ≠ some B) : w1.heap[B]? = some o := by
  have := lt_of_block hB
  rw [hg.block B (by simp; omega) (fun e => hne e.symm), Below.heap_alloc _ _ _ this, hB]

theorem low_kept {w0 w w1 : World} {ob : Obj} {lo B j : Nat} {u x : Value} (hb : Below lo w0 w) (hg : (w.alloc ob).grownBy w1 u.ownBlock) (hu : ∀ k, u.ownBlock = some k → lo ≤ k) (hl : lo ≤ w.heap.size) (hB : lo ≤ B) : Below lo w0 (w1.setCell ⟨B, j, none⟩ x) :=
  ((hb.alloc hl ob).grown hg (by simp; omega) hu).setCell hB x

theorem set1_own {w : World} {lo size n B j : Nat} {e : TypeId} {v x : Value} {xs : List Value} (h : w.ownsRow lo e size v n xs) (hne : v.ownBlock ≠ some B) : (w.setCell ⟨B, j, none⟩ x).ownsRow lo e size v n xs :=
  ownsRow_setCell_other h hne x

theorem Gr.s_step {w0 w w1 : World} {lo B : Nat} {sv hv fv lv v' : Value} {S : List Sl} {H F L : List Int} {ob : Obj} {x : Sl} (G : Gr w0 lo B w sv hv fv lv S H F L)
    (ho : w1.ownsRow lo 48 6 v' (S.length + 1) (encS S ++ x.enc)) (hg : (w.alloc ob).grownBy w1 sv.ownBlock) (hloc : v'.ownBlock = sv.ownBlock ∨ v'.ownBlock = some (w.alloc ob).heap.size) :
    Gr w0 lo B (w1.setCell ⟨B, 0, none⟩ v') v' hv fv lv (S ++ [x]) H F L := by
  have hB := box_kept G.box hg (own_ne G.s G.box (by decide))
  have hne : v'.ownBlock ≠ some B := own_ne ho hB (by decide)
  have hlt : ∀ {u : Value} {n size : Nat} {e : TypeId} {xs : List Value}, w.ownsRow lo e size u n xs → ∀ g, u.ownBlock = some g → g < (w.alloc ob).heap.size := fun h g hg => by have := (h.lt g hg).2; simp; omega
  have hz : lo ≤ w.heap.size := by have := lt_of_block G.box; have := G.at_; omega
  refine ⟨?_, ?_, ?_, ?_, ?_, ?_, ?_, ?_, G.at_, low_kept G.below hg (fun k hk => (G.s.lt k hk).1) hz G.at_⟩
  · have := block_setCell (i := 0) hB v'
    simpa using this
  · have := set1_own (j := 0) (x := v') ho hne
    rwa [show encS S ++ x.enc = encS (S ++ [x]) by simp [encS], show S.length + 1 = (S ++ [x]).length by simp] at this
  · exact row_kept G.h hg (own_dj G.h G.s (by decide)) (own_ne G.h G.box (by decide))
  · exact row_kept G.f hg (own_dj G.f G.s (by decide)) (own_ne G.f G.box (by decide))
  · exact row_kept G.l hg (own_dj G.l G.s (by decide)) (own_ne G.l G.box (by decide))
  · exact G.hf
  · exact G.hl
  · exact G.fl

theorem Gr.h_step {w0 w w1 : World} {lo B : Nat} {sv hv fv lv v' : Value} {S : List Sl} {H F L : List Int} {ob : Obj} {x : Int} (G : Gr w0 lo B w sv hv fv lv S H F L)
    (ho : w1.ownsRow lo 3 1 v' (H.length + 1) (encI H ++ [.int .i64 x])) (hg : (w.alloc ob).grownBy w1 hv.ownBlock) (hloc : v'.ownBlock = hv.ownBlock ∨ v'.ownBlock = some (w.alloc ob).heap.size) :
    Gr w0 lo B (w1.setCell ⟨B, 1, none⟩ v') sv v' fv lv S (H ++ [x]) F L := by
  have hB := box_kept G.box hg (own_ne G.h G.box (by decide))
  have hne : v'.ownBlock ≠ some B := own_ne ho hB (by decide)
  have hlt : ∀ {u : Value} {n size : Nat} {e : TypeId} {xs : List Value}, w.ownsRow lo e size u n xs → ∀ g, u.ownBlock = some g → g < (w.alloc ob).heap.size := fun h g hg => by have := (h.lt g hg).2; simp; omega
  have hz : lo ≤ w.heap.size := by have := lt_of_block G.box; have := G.at_; omega
  refine ⟨?_, ?_, ?_, ?_, ?_, ?_, ?_, ?_, G.at_, low_kept G.below hg (fun k hk => (G.h.lt k hk).1) hz G.at_⟩
  · have := block_setCell (i := 1) hB v'
    simpa using this
  · exact row_kept G.s hg (own_dj G.s G.h (by decide)) (own_ne G.s G.box (by decide))
  · have := set1_own (j := 1) (x := v') ho hne
    rwa [show encI H ++ [.int .i64 x] = encI (H ++ [x]) by simp [encI], show H.length + 1 = (H ++ [x]).length by simp] at this
  · exact row_kept G.f hg ((G.hf).symm) (own_ne G.f G.box (by decide))
  · exact row_kept G.l hg ((G.hl).symm) (own_ne G.l G.box (by decide))
  · exact (Dj.grown (w := w.alloc ob) ((G.hf).symm) (hlt G.f) hloc).symm
  · exact (Dj.grown (w := w.alloc ob) ((G.hl).symm) (hlt G.l) hloc).symm
  · exact G.fl

theorem Gr.f_step {w0 w w1 : World} {lo B : Nat} {sv hv fv lv v' : Value} {S : List Sl} {H F L : List Int} {ob : Obj} {x : Int} (G : Gr w0 lo B w sv hv fv lv S H F L)
    (ho : w1.ownsRow lo 3 1 v' (F.length + 1) (encI F ++ [.int .i64 x])) (hg : (w.alloc ob).grownBy w1 fv.ownBlock) (hloc : v'.ownBlock = fv.ownBlock ∨ v'.ownBlock = some (w.alloc ob).heap.size) :
    Gr w0 lo B (w1.setCell ⟨B, 2, none⟩ v') sv hv v' lv S H (F ++ [x]) L := by
  have hB := box_kept G.box hg (own_ne G.f G.box (by decide))
  have hne : v'.ownBlock ≠ some B := own_ne ho hB (by decide)
  have hlt : ∀ {u : Value} {n size : Nat} {e : TypeId} {xs : List Value}, w.ownsRow lo e size u n xs → ∀ g, u.ownBlock = some g → g < (w.alloc ob).heap.size := fun h g hg => by have := (h.lt g hg).2; simp; omega
  have hz : lo ≤ w.heap.size := by have := lt_of_block G.box; have := G.at_; omega
  refine ⟨?_, ?_, ?_, ?_, ?_, ?_, ?_, ?_, G.at_, low_kept G.below hg (fun k hk => (G.f.lt k hk).1) hz G.at_⟩
  · have := block_setCell (i := 2) hB v'
    simpa using this
  · exact row_kept G.s hg (own_dj G.s G.f (by decide)) (own_ne G.s G.box (by decide))
  · exact row_kept G.h hg (G.hf) (own_ne G.h G.box (by decide))
  · have := set1_own (j := 2) (x := v') ho hne
    rwa [show encI F ++ [.int .i64 x] = encI (F ++ [x]) by simp [encI], show F.length + 1 = (F ++ [x]).length by simp] at this
  · exact row_kept G.l hg ((G.fl).symm) (own_ne G.l G.box (by decide))
  · exact Dj.grown (w := w.alloc ob) (G.hf) (hlt G.h) hloc
  · exact G.hl
  · exact (Dj.grown (w := w.alloc ob) ((G.fl).symm) (hlt G.l) hloc).symm

theorem Gr.l_step {w0 w w1 : World} {lo B : Nat} {sv hv fv lv v' : Value} {S : List Sl} {H F L : List Int} {ob : Obj} {x : Int} (G : Gr w0 lo B w sv hv fv lv S H F L)
    (ho : w1.ownsRow lo 3 1 v' (L.length + 1) (encI L ++ [.int .i64 x])) (hg : (w.alloc ob).grownBy w1 lv.ownBlock) (hloc : v'.ownBlock = lv.ownBlock ∨ v'.ownBlock = some (w.alloc ob).heap.size) :
    Gr w0 lo B (w1.setCell ⟨B, 3, none⟩ v') sv hv fv v' S H F (L ++ [x]) := by
  have hB := box_kept G.box hg (own_ne G.l G.box (by decide))
  have hne : v'.ownBlock ≠ some B := own_ne ho hB (by decide)
  have hlt : ∀ {u : Value} {n size : Nat} {e : TypeId} {xs : List Value}, w.ownsRow lo e size u n xs → ∀ g, u.ownBlock = some g → g < (w.alloc ob).heap.size := fun h g hg => by have := (h.lt g hg).2; simp; omega
  have hz : lo ≤ w.heap.size := by have := lt_of_block G.box; have := G.at_; omega
  refine ⟨?_, ?_, ?_, ?_, ?_, ?_, ?_, ?_, G.at_, low_kept G.below hg (fun k hk => (G.l.lt k hk).1) hz G.at_⟩
  · have := block_setCell (i := 3) hB v'
    simpa using this
  · exact row_kept G.s hg (own_dj G.s G.l (by decide)) (own_ne G.s G.box (by decide))
  · exact row_kept G.h hg (G.hl) (own_ne G.h G.box (by decide))
  · exact row_kept G.f hg (G.fl) (own_ne G.f G.box (by decide))
  · have := set1_own (j := 3) (x := v') ho hne
    rwa [show encI L ++ [.int .i64 x] = encI (L ++ [x]) by simp [encI], show L.length + 1 = (L ++ [x]).length by simp] at this
  · exact G.hf
  · exact Dj.grown (w := w.alloc ob) (G.hl) (hlt G.h) hloc
  · exact Dj.grown (w := w.alloc ob) (G.fl) (hlt G.f) hloc

/- What has grown is memory. -/
theorem Gr.ans {w0 w : World} {lo B : Nat} {sv hv fv lv : Value} {S : List Sl} {H F L : List Int} (G : Gr w0 lo B w sv hv fv lv S H F L) (h1 : S.length * 48 ≤ 140737488351232) (h2 : H.length * 8 ≤ 140737488351232) (h3 : F.length * 8 ≤ 140737488351232) (h4 : L.length * 8 ≤ 140737488351232) :
    Ans lo w (.agg #[sv, hv, fv, lv, .int .i64 0]) ⟨S, H, F, L, 0⟩ := by
  have ks := G.s.lt; have kh := G.h.lt; have kf := G.f.lt; have kl := G.l.lt
  obtain ⟨aS, cS, rfl, rs⟩ := SRow.of_own G.s h1
  obtain ⟨aH, cH, rfl, rh⟩ := IRow.of_own G.h h2
  obtain ⟨aF, cF, rfl, rf⟩ := IRow.of_own G.f h3
  obtain ⟨aL, cL, rfl, rl⟩ := IRow.of_own G.l h4
  refine ⟨aS, aH, aF, aL, cS, cH, cF, cL, rfl, ⟨rs, rh, rf, rl⟩, ⟨?_, ?_, ?_, ?_⟩⟩
  · rintro ad rfl; exact (ks _ rfl).1
  · rintro ad rfl; exact (kh _ rfl).1
  · rintro ad rfl; exact (kf _ rfl).1
  · rintro ad rfl; exact (kl _ rfl).1


end Go.Proofs.Ytdbilofhcadmoaa.mm
