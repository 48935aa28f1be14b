/- What look's parts that change memory carry; the contract of hold. -/
import Derived.Test.YtdbilofhcadmoabC19
namespace Go.Proofs.Ytdbilofhcadmoab.mm
open Go.ChangeShapes Go.WideShapes Go.ChangeAt Go.RowKit Go.Joins
set_option maxRecDepth 100000
set_option linter.unusedVariables false

structure Lk2 (w w1 : World) (Z : Nat → Prop) (B lo : Nat) (M : Mm) (f : Fr) (aK : Option Addr) (cK : Nat) : Prop where
  zl : ∀ k, Z k → k < w.heap.size
  fine : Fine w w1 Z
  mine : ∃ aS aH aF aL cS cH cF cL, Mine w1 B lo aS aH aF aL cS cH cF cL M ∧ ∀ k, Foot B aS aH aF aL k → Z k ∨ w.heap.size + 2 ≤ k
  fb : w1.heap[w.heap.size]? = some (.cells #[.int .i64 f.c.kind, .int .i64 f.c.a, .int .i64 f.c.b, .int .i64 f.c.time, .int .i64 f.c.bk, .int .i64 f.c.slot, .int .i64 f.pl, .int .i64 f.cur, .int .i64 f.prev, .int .i64 f.slot, .int .i64 f.n, .slice aK f.keys.length cK, .bool f.done, .int .i64 f.e] 51 (0, 0))
  zb : w1.heap[w.heap.size + 1]? = some zeroFr

/- Behind a change of memory that was done for this part. -/
theorem Lk.after {w w1 w2 : World} {B lo : Nat} {aS aH aF aL : Option Addr} {cS cH cF cL : Nat} {M M' : Mm} {f : Fr} {aK : Option Addr} {cK : Nat} (h : Lk w w1 B lo aS aH aF aL cS cH cF cL M f aK cK)
    (hh : Has w2 B lo (Up w1 (Foot B aS aH aF aL)) M') (hf : Fine w1 w2 (Foot B aS aH aF aL)) : Lk2 w w2 (Foot B aS aH aF aL) B lo M' f aK cK := by
  have s1 := lt_of_block h.fb
  have s2 := lt_of_block h.zb
  refine ⟨h.lt, ?_, ?_, ?_, ?_⟩
  · exact (Fine.of_below (w := w) (w' := w1) _ h.bl).trans hf fun _ _ h => h
  · obtain ⟨bS, bH, bF, bL, dS, dH, dF, dL, m, hz⟩ := hh
    refine ⟨bS, bH, bF, bL, dS, dH, dF, dL, m, fun k hk => ?_⟩
    rcases hz k hk with h3 | h3
    · exact .inl h3
    · exact .inr (by omega)
  · exact (hf.block _ s1 (fun h3 => by have := h.lt _ h3; omega)).trans h.fb
  · exact (hf.block _ s2 (fun h3 => by have := h.lt _ h3; omega)).trans h.zb

theorem Lk.end14 {w w1 : World} {B lo : Nat} {aS aH aF aL : Option Addr} {cS cH cF cL : Nat} {M : Mm} {f : Fr} {aK : Option Addr} {cK : Nat} {v0 v1 v2 v3 v4 v5 v6 v7 v8 v9 v10 v11 v12 v13 : Value} (h : Lk w w1 B lo aS aH aF aL cS cH cF cL M f aK cK) : Has ((((((((((((((w1.setCell ⟨w.heap.size + 1, 0, none⟩ v0).setCell ⟨w.heap.size + 1, 1, none⟩ v1).setCell ⟨w.heap.size + 1, 2, none⟩ v2).setCell ⟨w.heap.size + 1, 3, none⟩ v3).setCell ⟨w.heap.size + 1, 4, none⟩ v4).setCell ⟨w.heap.size + 1, 5, none⟩ v5).setCell ⟨w.heap.size + 1, 6, none⟩ v6).setCell ⟨w.heap.size + 1, 7, none⟩ v7).setCell ⟨w.heap.size + 1, 8, none⟩ v8).setCell ⟨w.heap.size + 1, 9, none⟩ v9).setCell ⟨w.heap.size + 1, 10, none⟩ v10).setCell ⟨w.heap.size + 1, 11, none⟩ v11).setCell ⟨w.heap.size + 1, 12, none⟩ v12).setCell ⟨w.heap.size + 1, 13, none⟩ v13) B lo (Up w (Foot B aS aH aF aL)) M ∧
    Fine w ((((((((((((((w1.setCell ⟨w.heap.size + 1, 0, none⟩ v0).setCell ⟨w.heap.size + 1, 1, none⟩ v1).setCell ⟨w.heap.size + 1, 2, none⟩ v2).setCell ⟨w.heap.size + 1, 3, none⟩ v3).setCell ⟨w.heap.size + 1, 4, none⟩ v4).setCell ⟨w.heap.size + 1, 5, none⟩ v5).setCell ⟨w.heap.size + 1, 6, none⟩ v6).setCell ⟨w.heap.size + 1, 7, none⟩ v7).setCell ⟨w.heap.size + 1, 8, none⟩ v8).setCell ⟨w.heap.size + 1, 9, none⟩ v9).setCell ⟨w.heap.size + 1, 10, none⟩ v10).setCell ⟨w.heap.size + 1, 11, none⟩ v11).setCell ⟨w.heap.size + 1, 12, none⟩ v12).setCell ⟨w.heap.size + 1, 13, none⟩ v13) (Foot B aS aH aF aL) := by
  refine ⟨⟨aS, aH, aF, aL, cS, cH, cF, cL, h.m.same (by simp) (fun k _ hk => ?_), fun k hk => .inl hk⟩, .of_below _ (set14 h.bl)⟩
  have := h.lt k hk
  repeat rw [Below.heap_setCell _ _ _ _ (by dsimp only; omega)]

section
variable {w w1 w2 : World} {Z : Nat → Prop} {B lo : Nat} {M : Mm} {f : Fr} {aK : Option Addr} {cK : Nat}
theorem Lk2.below (h : Lk2 w w1 Z B lo M f aK cK) (hb : Below w1.heap.size w1 w2) : Lk2 w w2 Z B lo M f aK cK := by
  obtain ⟨aS, aH, aF, aL, cS, cH, cF, cL, m, hz⟩ := h.mine
  exact ⟨h.zl, h.fine.below hb, ⟨aS, aH, aF, aL, cS, cH, cF, cL, m.below hb, hz⟩, (hb.block _ (lt_of_block h.fb)).trans h.fb, (hb.block _ (lt_of_block h.zb)).trans h.zb⟩
theorem Lk2.store (h : Lk2 w w1 Z B lo M f aK cK) (j : Nat) (v : Value) (g : Fr) (hg : (#[.int .i64 f.c.kind, .int .i64 f.c.a, .int .i64 f.c.b, .int .i64 f.c.time, .int .i64 f.c.bk, .int .i64 f.c.slot, .int .i64 f.pl, .int .i64 f.cur, .int .i64 f.prev, .int .i64 f.slot, .int .i64 f.n, .slice aK f.keys.length cK, .bool f.done, .int .i64 f.e] : Array Value).setIfInBounds j v = #[.int .i64 g.c.kind, .int .i64 g.c.a, .int .i64 g.c.b, .int .i64 g.c.time, .int .i64 g.c.bk, .int .i64 g.c.slot, .int .i64 g.pl, .int .i64 g.cur, .int .i64 g.prev, .int .i64 g.slot, .int .i64 g.n, .slice aK g.keys.length cK, .bool g.done, .int .i64 g.e]) :
    Lk2 w (w1.setCell ⟨w.heap.size, j, none⟩ v) Z B lo M g aK cK := by
  obtain ⟨aS, aH, aF, aL, cS, cH, cF, cL, m, hz⟩ := h.mine
  refine ⟨h.zl, h.fine.set (.inr (Nat.le_refl _)) _ _, ⟨aS, aH, aF, aL, cS, cH, cF, cL, m.same (by simp) (fun k _ hk => ?_), hz⟩, ?_, by rw [Below.heap_setCell _ _ _ _ (by dsimp only; omega)]; exact h.zb⟩
  · have hk' : k ≠ w.heap.size := by
      rcases hz k hk with h3 | h3
      · have := h.zl k h3; omega
      · omega
    rw [Below.heap_setCell _ _ _ _ (by dsimp only; exact hk')]
  · rw [block_setCell h.fb v, hg]
theorem Lk2.same (h : Lk2 w w1 Z B lo M f aK cK) (hs : w1.heap.size ≤ w2.heap.size) (ho : w2.os = w1.os ∧ w2.tape = w1.tape ∧ w2.output = w1.output) (hk : ∀ k, k ≠ w.heap.size + 1 → w2.heap[k]? = w1.heap[k]?) : Has w2 B lo (Up w Z) M ∧ Fine w w2 Z := by
  obtain ⟨aS, aH, aF, aL, cS, cH, cF, cL, m, hz⟩ := h.mine
  refine ⟨⟨aS, aH, aF, aL, cS, cH, cF, cL, m.same hs (fun k _ h1 => hk k ?_), fun k h1 => ?_⟩, ⟨ho.1.trans h.fine.os, ho.2.1.trans h.fine.tape, ho.2.2.trans h.fine.output, Nat.le_trans h.fine.size hs, fun k h1 h2 => (hk k (by omega)).trans (h.fine.block k h1 h2)⟩⟩
  · rcases hz k h1 with h3 | h3
    · have := h.zl k h3; omega
    · omega
  · rcases hz k h1 with h3 | h3
    · exact .inl h3
    · exact .inr (by omega)
theorem Lk2.end14 {v0 v1 v2 v3 v4 v5 v6 v7 v8 v9 v10 v11 v12 v13 : Value} (h : Lk2 w w1 Z B lo M f aK cK) : Has ((((((((((((((w1.setCell ⟨w.heap.size + 1, 0, none⟩ v0).setCell ⟨w.heap.size + 1, 1, none⟩ v1).setCell ⟨w.heap.size + 1, 2, none⟩ v2).setCell ⟨w.heap.size + 1, 3, none⟩ v3).setCell ⟨w.heap.size + 1, 4, none⟩ v4).setCell ⟨w.heap.size + 1, 5, none⟩ v5).setCell ⟨w.heap.size + 1, 6, none⟩ v6).setCell ⟨w.heap.size + 1, 7, none⟩ v7).setCell ⟨w.heap.size + 1, 8, none⟩ v8).setCell ⟨w.heap.size + 1, 9, none⟩ v9).setCell ⟨w.heap.size + 1, 10, none⟩ v10).setCell ⟨w.heap.size + 1, 11, none⟩ v11).setCell ⟨w.heap.size + 1, 12, none⟩ v12).setCell ⟨w.heap.size + 1, 13, none⟩ v13) B lo (Up w Z) M ∧
    Fine w ((((((((((((((w1.setCell ⟨w.heap.size + 1, 0, none⟩ v0).setCell ⟨w.heap.size + 1, 1, none⟩ v1).setCell ⟨w.heap.size + 1, 2, none⟩ v2).setCell ⟨w.heap.size + 1, 3, none⟩ v3).setCell ⟨w.heap.size + 1, 4, none⟩ v4).setCell ⟨w.heap.size + 1, 5, none⟩ v5).setCell ⟨w.heap.size + 1, 6, none⟩ v6).setCell ⟨w.heap.size + 1, 7, none⟩ v7).setCell ⟨w.heap.size + 1, 8, none⟩ v8).setCell ⟨w.heap.size + 1, 9, none⟩ v9).setCell ⟨w.heap.size + 1, 10, none⟩ v10).setCell ⟨w.heap.size + 1, 11, none⟩ v11).setCell ⟨w.heap.size + 1, 12, none⟩ v12).setCell ⟨w.heap.size + 1, 13, none⟩ v13) Z := by
  have hb := set14 (w := w1) (w1 := w1) (n := w.heap.size) (v0 := v0) (v1 := v1) (v2 := v2) (v3 := v3) (v4 := v4) (v5 := v5) (v6 := v6) (v7 := v7) (v8 := v8) (v9 := v9) (v10 := v10) (v11 := v11) (v12 := v12) (v13 := v13) (Below.refl _ _)
  refine h.same hb.size ⟨hb.os, hb.tape, hb.output⟩ (fun k hk => ?_)
  repeat rw [Below.heap_setCell _ _ _ _ (by dsimp only; exact hk)]
end

set_option maxHeartbeats 3200000 in
theorem hold_part (M : Mm) (f : Fr) (B lo : Nat) (aS aH aF aL : Option Addr) (cS cH cF cL : Nat) (aK : Option Addr) (cK : Nat) (w : World)
    (m : Mine w B lo aS aH aF aL cS cH cF cL M) (hM : Ok M) (hf : Fit M f) (r : KRow w aK cK f.keys) (hz : ∀ ad, aK = some ad → ¬ Foot B aS aH aF aL ad.block) :
    Calls Try.prog 93 #[.pointer (some ⟨B, 0, none⟩), .agg #[.int .i64 f.c.kind, .int .i64 f.c.a, .int .i64 f.c.b, .int .i64 f.c.time, .int .i64 f.c.bk, .int .i64 f.c.slot, .int .i64 f.pl, .int .i64 f.cur, .int .i64 f.prev, .int .i64 f.slot, .int .i64 f.n, .slice aK f.keys.length cK, .bool f.done, .int .i64 f.e]] w fun e w' => Ret w w' e (lkHold M f) aK cK ∧ Has w' B lo (Up w (Foot B aS aH aF aL)) (lkHoldM M f) ∧ Fine w w' (Foot B aS aH aF aL) := by
  have hns := hM.ns
  have hcur := hf.cur.2
  have hc1 : f.cur ≤ 1000 := by omega
  have hn1 : M.slots.length ≤ 1000 := by omega
  have HR : Hid (KRow w aK cK f.keys) := r
  by_cases hat : isAt M f = true
  · have h1 := isAt_iff.1 hat
    have HOk : Hid (Ok M) := hM
    obtain ⟨j, hj⟩ : ∃ j : Nat, f.cur - 1 = j := ⟨(f.cur - 1).toNat, by omega⟩
    have hjl : j < M.slots.length := by omega
    obtain ⟨gS, rfl, oS, lS, kS, -⟩ := row_form m.c.s (by omega)
    have HZ : Hid (∀ ad, aK = some ad → ¬ Foot B (some ⟨gS, 0, none⟩) aH aF aL ad.block) := hz
    have HSl : Hid (isSl M (j : Int) = true) := isSl_in.2 (by omega)
    have hst : stN f = j := by unfold stN; rw [if_neg (by omega)]; exact hj
    have hresM : lkHoldM M f = holdN M j := by unfold lkHoldM; rw [if_pos hat, hj]
    rw [hresM]
    obtain ⟨M', hM'⟩ : ∃ M', M' = holdN M j := ⟨_, rfl⟩
    have HSt : Hid (∀ (W : World), Mine W B lo (some ⟨gS, 0, none⟩) aH aF aL cS cH cF cL M → Calls Try.prog 149 #[.pointer (some ⟨B, 0, none⟩), .agg #[.int .i64 f.c.kind, .int .i64 f.c.a, .int .i64 f.c.b, .int .i64 f.c.time, .int .i64 f.c.bk, .int .i64 f.c.slot, .int .i64 f.pl, .int .i64 f.cur, .int .i64 f.prev, .int .i64 f.slot, .int .i64 f.n, .slice aK f.keys.length cK, .bool f.done, .int .i64 f.e]] W fun e w' => e = .returned (.tuple #[.int .i64 (j : Int), .bool true]) ∧ Below W.heap.size W w') := fun W m' => by
      have := standsAt_any M f B _ aH aF aL cS cH cF cL aK cK W m'.box hc1 hn1
      rwa [hst, hat] at this
    have HHd : Hid (∀ (W : World) (Z : Nat → Prop), Has W B lo Z M → Calls Try.prog 150 #[.pointer (some ⟨B, 0, none⟩), .int .i64 (j : Int)] W fun e w' => e = .returned (.bool (canH M j)) ∧ Has w' B lo (Up W Z) M' ∧ Fine W w' Z) := fun W Z h => by rw [hM']; exact hold_fine h HOk.out HSl.out
    rw [← hM']
    cases hcan : canH M j
    · have hres : lkHold M f = toF f 0 := by unfold lkHold; rw [hat, hj, hcan]; rfl
      rw [hres]
      rw [hcan] at HHd
      obtain ⟨of, hof⟩ : ∃ o : Obj, o = .cells #[.int .i64 f.c.kind, .int .i64 f.c.a, .int .i64 f.c.b, .int .i64 f.c.time, .int .i64 f.c.bk, .int .i64 f.c.slot, .int .i64 f.pl, .int .i64 f.cur, .int .i64 f.prev, .int .i64 f.slot, .int .i64 f.n, .slice aK f.keys.length cK, .bool f.done, .int .i64 f.e] 51 := ⟨_, rfl⟩
      obtain ⟨oz, hoz⟩ : ∃ o : Obj, o = zeroFr := ⟨_, rfl⟩
      have HE : Hid (Lk w ((w.alloc of).alloc oz) B lo (some ⟨gS, 0, none⟩) aH aF aL cS cH cF cL M f aK cK) := Lk.first m f aK cK hof hoz
      obtain ⟨q0, q1, q2, q3, q4, -, -, -, -, -, qs⟩ := boxf HE.out.m.box
      obtain ⟨f0, f1, f2, f3, f4, f5, f6, f7, f8, f9, f10, f11, f12, f13, ff, fs⟩ := framef HE.out.fb
      unfold zeroFr at hoz
      clear m hres hst hat h1 hc1 hn1 hcur hns hM hf r hcan hM' hresM hz
      go_enter Try.func93, Try.ntmps93
      go_wp2_with fail
      rw [← hof, ← hoz]
      generalize (w.alloc of).alloc oz = W0 at *
      subst hof hoz
      refine (HSt.out W0 HE.out.m).mono ?_
      rintro e w1 ⟨rfl, hb1⟩
      have HE1 : Hid (Lk w w1 B lo (some ⟨gS, 0, none⟩) aH aF aL cS cH cF cL M f aK cK) := HE.out.below hb1
      clear HE hb1
      clear q0 q1 q2 q3 q4 qs f0 f1 f2 f3 f4 f5 f6 f7 f8 f9 f10 f11 f12 f13 ff fs
      obtain ⟨q0, q1, q2, q3, q4, -, -, -, -, -, qs⟩ := boxf HE1.out.m.box
      obtain ⟨f0, f1, f2, f3, f4, f5, f6, f7, f8, f9, f10, f11, f12, f13, ff, fs⟩ := framef HE1.out.fb
      go_wp2_with fail
      refine (HHd.out w1 (Foot B (some ⟨gS, 0, none⟩) aH aF aL) ⟨_, _, _, _, _, _, _, _, HE1.out.m, fun _ h => h⟩).mono ?_
      rintro e w2 ⟨rfl, hh2, hf2⟩
      have HE2 : Hid (Lk2 w w2 (Foot B (some ⟨gS, 0, none⟩) aH aF aL) B lo M' f aK cK) := HE1.out.after hh2 hf2
      clear HE1 hh2 hf2
      clear q0 q1 q2 q3 q4 qs f0 f1 f2 f3 f4 f5 f6 f7 f8 f9 f10 f11 f12 f13 ff fs
      obtain ⟨f0, f1, f2, f3, f4, f5, f6, f7, f8, f9, f10, f11, f12, f13, ff, fs⟩ := framef HE2.out.fb
      go_wp2_with fail
      refine (to_any f 0 aK cK _).mono ?_
      rintro e w9 ⟨rfl, hb9⟩
      have HE9 : Hid (Lk2 w w9 (Foot B (some ⟨gS, 0, none⟩) aH aF aL) B lo M' f aK cK) := HE2.out.below hb9
      clear HE2 hb9
      clear f0 f1 f2 f3 f4 f5 f6 f7 f8 f9 f10 f11 f12 f13 ff fs
      obtain ⟨g0, g1, g2, g3, g4, g5, g6, g7, g8, g9, g10, g11, g12, g13, gf, gs⟩ := framef HE9.out.zb
      go_wp2
      refine bodyPost_ret (v := .agg #[.int .i64 (toF f 0).c.kind, .int .i64 (toF f 0).c.a, .int .i64 (toF f 0).c.b, .int .i64 (toF f 0).c.time, .int .i64 (toF f 0).c.bk, .int .i64 (toF f 0).c.slot, .int .i64 (toF f 0).pl, .int .i64 (toF f 0).cur, .int .i64 (toF f 0).prev, .int .i64 (toF f 0).slot, .int .i64 (toF f 0).n, .slice aK (toF f 0).keys.length cK, .bool (toF f 0).done, .int .i64 (toF f 0).e]) (by simp [results, Try.results93, go_sem, toF, g0, g1, g2, g3, g4, g5, g6, g7, g8, g9, g10, g11, g12, g13]) rfl ⟨⟨aK, cK, rfl, HR.out.fine HE9.out.end14.2 HZ.out, (fun ad h => .inl h), fun _ => ⟨rfl, rfl⟩⟩, HE9.out.end14⟩
    · have hres : lkHold M f = handF f (j : Int) 4 := by unfold lkHold; rw [hat, hj, hcan]; rfl
      rw [hres]
      rw [hcan] at HHd
      obtain ⟨of, hof⟩ : ∃ o : Obj, o = .cells #[.int .i64 f.c.kind, .int .i64 f.c.a, .int .i64 f.c.b, .int .i64 f.c.time, .int .i64 f.c.bk, .int .i64 f.c.slot, .int .i64 f.pl, .int .i64 f.cur, .int .i64 f.prev, .int .i64 f.slot, .int .i64 f.n, .slice aK f.keys.length cK, .bool f.done, .int .i64 f.e] 51 := ⟨_, rfl⟩
      obtain ⟨oz, hoz⟩ : ∃ o : Obj, o = zeroFr := ⟨_, rfl⟩
      have HE : Hid (Lk w ((w.alloc of).alloc oz) B lo (some ⟨gS, 0, none⟩) aH aF aL cS cH cF cL M f aK cK) := Lk.first m f aK cK hof hoz
      obtain ⟨q0, q1, q2, q3, q4, -, -, -, -, -, qs⟩ := boxf HE.out.m.box
      obtain ⟨f0, f1, f2, f3, f4, f5, f6, f7, f8, f9, f10, f11, f12, f13, ff, fs⟩ := framef HE.out.fb
      unfold zeroFr at hoz
      clear m hres hst hat h1 hc1 hn1 hcur hns hM hf r hcan hM' hresM hz
      go_enter Try.func93, Try.ntmps93
      go_wp2_with fail
      rw [← hof, ← hoz]
      generalize (w.alloc of).alloc oz = W0 at *
      subst hof hoz
      refine (HSt.out W0 HE.out.m).mono ?_
      rintro e w1 ⟨rfl, hb1⟩
      have HE1 : Hid (Lk w w1 B lo (some ⟨gS, 0, none⟩) aH aF aL cS cH cF cL M f aK cK) := HE.out.below hb1
      clear HE hb1
      clear q0 q1 q2 q3 q4 qs f0 f1 f2 f3 f4 f5 f6 f7 f8 f9 f10 f11 f12 f13 ff fs
      obtain ⟨q0, q1, q2, q3, q4, -, -, -, -, -, qs⟩ := boxf HE1.out.m.box
      obtain ⟨f0, f1, f2, f3, f4, f5, f6, f7, f8, f9, f10, f11, f12, f13, ff, fs⟩ := framef HE1.out.fb
      go_wp2_with fail
      refine (HHd.out w1 (Foot B (some ⟨gS, 0, none⟩) aH aF aL) ⟨_, _, _, _, _, _, _, _, HE1.out.m, fun _ h => h⟩).mono ?_
      rintro e w2 ⟨rfl, hh2, hf2⟩
      have HE2 : Hid (Lk2 w w2 (Foot B (some ⟨gS, 0, none⟩) aH aF aL) B lo M' f aK cK) := HE1.out.after hh2 hf2
      clear HE1 hh2 hf2
      clear q0 q1 q2 q3 q4 qs f0 f1 f2 f3 f4 f5 f6 f7 f8 f9 f10 f11 f12 f13 ff fs
      obtain ⟨f0, f1, f2, f3, f4, f5, f6, f7, f8, f9, f10, f11, f12, f13, ff, fs⟩ := framef HE2.out.fb
      go_wp2_with fail
      have HE3 : Hid (Lk2 w _ (Foot B (some ⟨gS, 0, none⟩) aH aF aL) B lo M' { f with slot := (j : Int) } aK cK) := HE2.out.store 9 (.int .i64 (j : Int)) { f with slot := (j : Int) } rfl
      clear HE2
      refine (to_any { f with slot := (j : Int) } 4 aK cK _).mono ?_
      rintro e w9 ⟨rfl, hb9⟩
      have HE9 : Hid (Lk2 w w9 (Foot B (some ⟨gS, 0, none⟩) aH aF aL) B lo M' { f with slot := (j : Int) } aK cK) := HE3.out.below hb9
      clear HE3 hb9
      clear f0 f1 f2 f3 f4 f5 f6 f7 f8 f9 f10 f11 f12 f13 ff fs
      obtain ⟨g0, g1, g2, g3, g4, g5, g6, g7, g8, g9, g10, g11, g12, g13, gf, gs⟩ := framef HE9.out.zb
      go_wp2
      refine bodyPost_ret (v := .agg #[.int .i64 (handF f (j : Int) 4).c.kind, .int .i64 (handF f (j : Int) 4).c.a, .int .i64 (handF f (j : Int) 4).c.b, .int .i64 (handF f (j : Int) 4).c.time, .int .i64 (handF f (j : Int) 4).c.bk, .int .i64 (handF f (j : Int) 4).c.slot, .int .i64 (handF f (j : Int) 4).pl, .int .i64 (handF f (j : Int) 4).cur, .int .i64 (handF f (j : Int) 4).prev, .int .i64 (handF f (j : Int) 4).slot, .int .i64 (handF f (j : Int) 4).n, .slice aK (handF f (j : Int) 4).keys.length cK, .bool (handF f (j : Int) 4).done, .int .i64 (handF f (j : Int) 4).e]) (by simp [results, Try.results93, go_sem, handF, toF, g0, g1, g2, g3, g4, g5, g6, g7, g8, g9, g10, g11, g12, g13]) rfl ⟨⟨aK, cK, rfl, HR.out.fine HE9.out.end14.2 HZ.out, (fun ad h => .inl h), fun _ => ⟨rfl, rfl⟩⟩, HE9.out.end14⟩
  · have hat0 : isAt M f = false := by simpa using hat
    have hres : lkHold M f = toF f 0 := by unfold lkHold; rw [hat0]; rfl
    have hresM : lkHoldM M f = M := by unfold lkHoldM; rw [if_neg hat]
    rw [hres, hresM]
    have HSt : Hid (∀ (W : World), Mine W B lo aS aH aF aL cS cH cF cL M → Calls Try.prog 149 #[.pointer (some ⟨B, 0, none⟩), .agg #[.int .i64 f.c.kind, .int .i64 f.c.a, .int .i64 f.c.b, .int .i64 f.c.time, .int .i64 f.c.bk, .int .i64 f.c.slot, .int .i64 f.pl, .int .i64 f.cur, .int .i64 f.prev, .int .i64 f.slot, .int .i64 f.n, .slice aK f.keys.length cK, .bool f.done, .int .i64 f.e]] W fun e w' => e = .returned (.tuple #[.int .i64 (stN f), .bool false]) ∧ Below W.heap.size W w') := fun W m' => by
      have := standsAt_any M f B _ aH aF aL cS cH cF cL aK cK W m'.box hc1 hn1
      rwa [hat0] at this
    obtain ⟨of, hof⟩ : ∃ o : Obj, o = .cells #[.int .i64 f.c.kind, .int .i64 f.c.a, .int .i64 f.c.b, .int .i64 f.c.time, .int .i64 f.c.bk, .int .i64 f.c.slot, .int .i64 f.pl, .int .i64 f.cur, .int .i64 f.prev, .int .i64 f.slot, .int .i64 f.n, .slice aK f.keys.length cK, .bool f.done, .int .i64 f.e] 51 := ⟨_, rfl⟩
    obtain ⟨oz, hoz⟩ : ∃ o : Obj, o = zeroFr := ⟨_, rfl⟩
    have HE : Hid (Lk w ((w.alloc of).alloc oz) B lo aS aH aF aL cS cH cF cL M f aK cK) := Lk.first m f aK cK hof hoz
    obtain ⟨q0, q1, q2, q3, q4, -, -, -, -, -, qs⟩ := boxf HE.out.m.box
    obtain ⟨f0, f1, f2, f3, f4, f5, f6, f7, f8, f9, f10, f11, f12, f13, ff, fs⟩ := framef HE.out.fb
    unfold zeroFr at hoz
    clear m hres hresM hat hat0 hc1 hn1 hcur hns hM hf r hz
    go_enter Try.func93, Try.ntmps93
    go_wp2_with fail
    rw [← hof, ← hoz]
    generalize (w.alloc of).alloc oz = W0 at *
    subst hof hoz
    refine (HSt.out W0 HE.out.m).mono ?_
    rintro e w1 ⟨rfl, hb1⟩
    have HE1 : Hid (Lk w w1 B lo aS aH aF aL cS cH cF cL M f aK cK) := HE.out.below hb1
    clear HE hb1
    clear q0 q1 q2 q3 q4 qs f0 f1 f2 f3 f4 f5 f6 f7 f8 f9 f10 f11 f12 f13 ff fs
    obtain ⟨q0, q1, q2, q3, q4, -, -, -, -, -, qs⟩ := boxf HE1.out.m.box
    obtain ⟨f0, f1, f2, f3, f4, f5, f6, f7, f8, f9, f10, f11, f12, f13, ff, fs⟩ := framef HE1.out.fb
    go_wp2_with fail
    refine (to_any f 0 aK cK _).mono ?_
    rintro e w9 ⟨rfl, hb9⟩
    have HE9 : Hid (Lk w w9 B lo aS aH aF aL cS cH cF cL M f aK cK) := HE1.out.below hb9
    clear HE1 hb9
    clear q0 q1 q2 q3 q4 qs f0 f1 f2 f3 f4 f5 f6 f7 f8 f9 f10 f11 f12 f13 ff fs
    obtain ⟨g0, g1, g2, g3, g4, g5, g6, g7, g8, g9, g10, g11, g12, g13, gf, gs⟩ := framef HE9.out.zb
    go_wp2
    refine bodyPost_ret (v := .agg #[.int .i64 (toF f 0).c.kind, .int .i64 (toF f 0).c.a, .int .i64 (toF f 0).c.b, .int .i64 (toF f 0).c.time, .int .i64 (toF f 0).c.bk, .int .i64 (toF f 0).c.slot, .int .i64 (toF f 0).pl, .int .i64 (toF f 0).cur, .int .i64 (toF f 0).prev, .int .i64 (toF f 0).slot, .int .i64 (toF f 0).n, .slice aK (toF f 0).keys.length cK, .bool (toF f 0).done, .int .i64 (toF f 0).e]) (by simp [results, Try.results93, go_sem, toF, g0, g1, g2, g3, g4, g5, g6, g7, g8, g9, g10, g11, g12, g13]) rfl ⟨⟨aK, cK, rfl, HR.out.below (set14 HE9.out.bl), (fun ad h => .inl h), fun _ => ⟨rfl, rfl⟩⟩, HE9.out.end14⟩


end Go.Proofs.Ytdbilofhcadmoab.mm
