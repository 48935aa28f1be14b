/- The contract of sweep's part note: a key behind the keys, in a row that is new. -/
import Derived.Test.YtdbilofhcadmoacC07
import Derived.Test.YtdbilofhcadmoacC08
import Derived.Test.YtdbilofhcadmoacC01
import Derived.ArgAppend
import Derived.Deep.RegionLawGrows
import Derived.Laws.AppendOwnNone
namespace Go.Proofs.Ytdbilofhcadmoac.mm
open Go.ChangeShapes Go.WideShapes Go.ChangeAt Go.RowKit Go.Joins Go.Deep Go.Sort
set_option maxRecDepth 100000
set_option linter.unusedVariables false

theorem step_call_same {P : Program} {ops : Array Oper} {o : Oper} {a : Act} {w : World} {K : Act → World → Prop} {Q : Exit → Act → World → Prop} {E : Prop} (hg : o.guard = none) (f : Nat) (args : Array Value) (v : Value)
    (hr : (execOp a.eval o).run P w = .ok (.enter f args) w) (h : Calls P f args w fun e w' => e = .returned v ∧ w = w') (hK : K (a.put o.dst v) w) : if Region.wanted o (yielded ops a.tmps) = true then Oper.wp P o a w K Q else E := by
  have hw : Region.wanted o (yielded ops a.tmps) = true := by unfold Region.wanted; rw [hg]
  rw [if_pos hw]
  unfold Oper.wp
  rw [hr]
  refine Calls.mono h ?_
  rintro e w' ⟨rfl, rfl⟩
  exact hK
/- What note carries: its frame and its key in boxes of their own, a third one for the answer. -/
structure Nt (w w1 : World) (f : Fr) (x y : Int) (aK : Option Addr) (cK : Nat) : Prop where
  bl : Below w.heap.size w w1
  fb : w1.heap[w.heap.size]? = some (.cells #[.int .i64 f.c.kind, .int .i64 f.c.a, .int .i64 f.c.b, .int .i64 f.c.time, .int .i64 f.c.bk, .int .i64 f.c.slot, .int .i64 f.pl, .int .i64 f.cur, .int .i64 f.prev, .int .i64 f.slot, .int .i64 f.n, .slice aK f.keys.length cK, .bool f.done, .int .i64 f.e] 33 (0, 0))
  kb : w1.heap[w.heap.size + 1]? = some (.cells #[.int .i64 x, .int .i64 y] 27 (0, 0))
  zb : w1.heap[w.heap.size + 2]? = some zeroFr
theorem Nt.first {w : World} (f : Fr) (x y : Int) (aK : Option Addr) (cK : Nat) {o ok oz : Obj} (ho : o = .cells #[.int .i64 f.c.kind, .int .i64 f.c.a, .int .i64 f.c.b, .int .i64 f.c.time, .int .i64 f.c.bk, .int .i64 f.c.slot, .int .i64 f.pl, .int .i64 f.cur, .int .i64 f.prev, .int .i64 f.slot, .int .i64 f.n, .slice aK f.keys.length cK, .bool f.done, .int .i64 f.e] 33) (hk : ok = .cells #[.int .i64 x, .int .i64 y] 27) (hz : oz = zeroFr) : Nt w (((w.alloc o).alloc ok).alloc oz) f x y aK cK := by
  subst ho hk hz
  refine ⟨(below_alloc2 w _ _).alloc (by simp; omega) _, ?_, ?_, ?_⟩
  · rw [Below.heap_alloc _ _ _ (by simp; omega), Below.heap_alloc _ _ _ (by simp)]; exact heap_alloc_new w _
  · rw [Below.heap_alloc _ _ _ (by simp)]
    have := heap_alloc_new (w.alloc (.cells #[.int .i64 f.c.kind, .int .i64 f.c.a, .int .i64 f.c.b, .int .i64 f.c.time, .int .i64 f.c.bk, .int .i64 f.c.slot, .int .i64 f.pl, .int .i64 f.cur, .int .i64 f.prev, .int .i64 f.slot, .int .i64 f.n, .slice aK f.keys.length cK, .bool f.done, .int .i64 f.e] 33)) (.cells #[.int .i64 x, .int .i64 y] 27)
    simpa using this
  · have := heap_alloc_new ((w.alloc (.cells #[.int .i64 f.c.kind, .int .i64 f.c.a, .int .i64 f.c.b, .int .i64 f.c.time, .int .i64 f.c.bk, .int .i64 f.c.slot, .int .i64 f.pl, .int .i64 f.cur, .int .i64 f.prev, .int .i64 f.slot, .int .i64 f.n, .slice aK f.keys.length cK, .bool f.done, .int .i64 f.e] 33)).alloc (.cells #[.int .i64 x, .int .i64 y] 27)) zeroFr
    simpa using this
theorem Nt.below {w w1 w2 : World} {f : Fr} {x y : Int} {aK : Option Addr} {cK : Nat} (h : Nt w w1 f x y aK cK) (hb : Below w1.heap.size w1 w2) : Nt w w2 f x y aK cK :=
  ⟨h.bl.trans (hb.mono h.bl.size), (hb.block _ (lt_of_block h.fb)).trans h.fb, (hb.block _ (lt_of_block h.kb)).trans h.kb, (hb.block _ (lt_of_block h.zb)).trans h.zb⟩
theorem Nt.keys {w w1 : World} {f : Fr} {x y : Int} {aK : Option Addr} {cK : Nat} (h : Nt w w1 f x y aK cK) (l : List (Int × Int)) (n : Nat) (hn : l.length = n) (a : Option Addr) (c : Nat) : Nt w (w1.setCell ⟨w.heap.size, 11, none⟩ (.slice a n c)) { f with keys := l } x y a c := by
  subst hn
  refine ⟨h.bl.setCell (by simp) _, ?_, by rw [Below.heap_setCell _ _ _ _ (by dsimp only; omega)]; exact h.kb, by rw [Below.heap_setCell _ _ _ _ (by dsimp only; omega)]; exact h.zb⟩
  rw [block_setCell h.fb]; rfl
theorem KOwn.end14n {w1 : World} {n : Nat} {a : Option Addr} {c : Nat} {l : List (Int × Int)} (h : KOwn w1 (n + 3) a c l) {u v0 v1 v2 v3 v4 v5 v6 v7 v8 v9 v10 v11 v12 v13 : Value} : KOwn (((((((((((((((w1.setCell ⟨n, 11, none⟩ u).setCell ⟨n + 2, 0, none⟩ v0).setCell ⟨n + 2, 1, none⟩ v1).setCell ⟨n + 2, 2, none⟩ v2).setCell ⟨n + 2, 3, none⟩ v3).setCell ⟨n + 2, 4, none⟩ v4).setCell ⟨n + 2, 5, none⟩ v5).setCell ⟨n + 2, 6, none⟩ v6).setCell ⟨n + 2, 7, none⟩ v7).setCell ⟨n + 2, 8, none⟩ v8).setCell ⟨n + 2, 9, none⟩ v9).setCell ⟨n + 2, 10, none⟩ v10).setCell ⟨n + 2, 11, none⟩ v11).setCell ⟨n + 2, 12, none⟩ v12).setCell ⟨n + 2, 13, none⟩ v13) n a c l :=
  (h.same fun ad e => by
    have := (h.lt ad e).1
    repeat rw [Below.heap_setCell _ _ _ _ (by dsimp only; omega)]).le (by omega)
theorem two_new (W : World) (x y : Value) (t : TypeId) : ∀ j u, [x, y][j]? = some u → ((W.alloc (.cells #[x, y] t)).drew).cell? ((⟨W.heap.size, 0, none⟩ : Addr).add j) = some u := by
  intro j u hu
  have hb : ((W.alloc (.cells #[x, y] t)).drew).heap[W.heap.size]? = some (.cells #[x, y] t (0, 0)) := heap_alloc_new W _
  rw [Addr.add_lit, cell_of_block hb]
  simpa using hu
theorem clipK_at (ao : Option Addr) (n cap : Nat) (w : World) (h : n ≤ cap) (hnil : ao = none → n = 0 ∧ cap = 0) :
    Calls Try.prog 94 #[.slice ao n cap] w fun e w' => e = .returned (.slice ao n n) ∧ w = w' := by
  cases ao with
  | none =>
    obtain ⟨rfl, rfl⟩ := hnil rfl
    go_enter Try.func94, Try.ntmps94
    go_wp2
    go_ret
    exact ⟨rfl, rfl⟩
  | some ad =>
    go_enter Try.func94, Try.ntmps94
    go_wp2
    go_ret
    exact ⟨rfl, rfl⟩

set_option maxHeartbeats 1600000 in
theorem note_full (f : Fr) (x y : Int) (aK : Option Addr) (cK : Nat) (w : World) (h : ¬ f.keys.length < 100) :
    Calls Try.prog 72 #[.agg #[.int .i64 f.c.kind, .int .i64 f.c.a, .int .i64 f.c.b, .int .i64 f.c.time, .int .i64 f.c.bk, .int .i64 f.c.slot, .int .i64 f.pl, .int .i64 f.cur, .int .i64 f.prev, .int .i64 f.slot, .int .i64 f.n, .slice aK f.keys.length cK, .bool f.done, .int .i64 f.e], .agg #[.int .i64 x, .int .i64 y]] w fun e w' => e = .returned (.agg #[.int .i64 f.c.kind, .int .i64 f.c.a, .int .i64 f.c.b, .int .i64 f.c.time, .int .i64 f.c.bk, .int .i64 f.c.slot, .int .i64 f.pl, .int .i64 f.cur, .int .i64 f.prev, .int .i64 f.slot, .int .i64 f.n, .slice aK f.keys.length cK, .bool f.done, .int .i64 f.e]) ∧ Below w.heap.size w w' := by
  have h' : ¬ ((f.keys.length : Int) < 100) := by omega
  clear h
  go_enter Try.func72, Try.ntmps72
  go_wp2
  refine bodyPost_ret (v := .agg #[.int .i64 f.c.kind, .int .i64 f.c.a, .int .i64 f.c.b, .int .i64 f.c.time, .int .i64 f.c.bk, .int .i64 f.c.slot, .int .i64 f.pl, .int .i64 f.cur, .int .i64 f.prev, .int .i64 f.slot, .int .i64 f.n, .slice aK f.keys.length cK, .bool f.done, .int .i64 f.e]) (by simp [results, Try.results72, go_sem]) rfl ⟨rfl, ?_⟩
  repeat (first | exact Below.refl _ _ | refine Below.alloc ?_ (by simp <;> omega) _ | refine Below.setCell ?_ (by simp <;> omega) _)

set_option maxHeartbeats 3200000 in
theorem note_more (f : Fr) (x y : Int) (aK : Option Addr) (cK : Nat) (w : World) (r : KRow w aK cK f.keys) (h : f.keys.length < 100) :
    Calls Try.prog 72 #[.agg #[.int .i64 f.c.kind, .int .i64 f.c.a, .int .i64 f.c.b, .int .i64 f.c.time, .int .i64 f.c.bk, .int .i64 f.c.slot, .int .i64 f.pl, .int .i64 f.cur, .int .i64 f.prev, .int .i64 f.slot, .int .i64 f.n, .slice aK f.keys.length cK, .bool f.done, .int .i64 f.e], .agg #[.int .i64 x, .int .i64 y]] w fun e w' => ∃ a c, e = .returned (.agg #[.int .i64 ({ f with keys := f.keys ++ [(x, y)] }).c.kind, .int .i64 ({ f with keys := f.keys ++ [(x, y)] }).c.a, .int .i64 ({ f with keys := f.keys ++ [(x, y)] }).c.b, .int .i64 ({ f with keys := f.keys ++ [(x, y)] }).c.time, .int .i64 ({ f with keys := f.keys ++ [(x, y)] }).c.bk, .int .i64 ({ f with keys := f.keys ++ [(x, y)] }).c.slot, .int .i64 ({ f with keys := f.keys ++ [(x, y)] }).pl, .int .i64 ({ f with keys := f.keys ++ [(x, y)] }).cur, .int .i64 ({ f with keys := f.keys ++ [(x, y)] }).prev, .int .i64 ({ f with keys := f.keys ++ [(x, y)] }).slot, .int .i64 ({ f with keys := f.keys ++ [(x, y)] }).n, .slice a ({ f with keys := f.keys ++ [(x, y)] }).keys.length c, .bool ({ f with keys := f.keys ++ [(x, y)] }).done, .int .i64 ({ f with keys := f.keys ++ [(x, y)] }).e]) ∧ KOwn w' w.heap.size a c (f.keys ++ [(x, y)]) ∧ Below w.heap.size w w' := by
  have h' : (f.keys.length : Int) < 100 := by omega
  obtain ⟨i0, hi, hz0, hz1, hz2⟩ := info_parts iK
  obtain ⟨of, hof⟩ : ∃ o : Obj, o = .cells #[.int .i64 f.c.kind, .int .i64 f.c.a, .int .i64 f.c.b, .int .i64 f.c.time, .int .i64 f.c.bk, .int .i64 f.c.slot, .int .i64 f.pl, .int .i64 f.cur, .int .i64 f.prev, .int .i64 f.slot, .int .i64 f.n, .slice aK f.keys.length cK, .bool f.done, .int .i64 f.e] 33 := ⟨_, rfl⟩
  obtain ⟨ok, hok⟩ : ∃ o : Obj, o = .cells #[.int .i64 x, .int .i64 y] 27 := ⟨_, rfl⟩
  obtain ⟨oz, hoz⟩ : ∃ o : Obj, o = zeroFr := ⟨_, rfl⟩
  have HE : Hid (Nt w (((w.alloc of).alloc ok).alloc oz) f x y aK cK) := Nt.first f x y aK cK hof hok hoz
  have HN : Hid (aK = none → f.keys.length = 0 ∧ cK = 0) := fun e => ⟨by have := r.nil e; have := r.le; omega, r.nil e⟩
  have HN2 : Hid (aK = none → f.keys.length = 0 ∧ f.keys.length = 0) := fun e => ⟨(HN.out e).1, (HN.out e).1⟩
  have HLe : Hid (f.keys.length ≤ cK) := r.le
  have HR : Hid (KRow w aK cK f.keys) := r
  have HLt : Hid (f.keys.length < 100) := h
  obtain ⟨f0, f1, f2, f3, f4, f5, f6, f7, f8, f9, f10, f11, f12, f13, ff, fs⟩ := framef HE.out.fb
  have k0 : (((w.alloc of).alloc ok).alloc oz).cell? ⟨w.heap.size + 1, 0, none⟩ = some (.int .i64 x) := by rw [cell_of_block HE.out.kb]; rfl
  have k1 : (((w.alloc of).alloc ok).alloc oz).cell? ⟨w.heap.size + 1, 1, none⟩ = some (.int .i64 y) := by rw [cell_of_block HE.out.kb]; rfl
  unfold zeroFr at hoz
  clear r h
  go_enter Try.func72, Try.ntmps72
  go_wp2_with fail
  rw [← hof, ← hok, ← hoz]
  generalize ((w.alloc of).alloc ok).alloc oz = W0 at *
  subst hof hok hoz
  have HSr : Hid (∀ W : World, Below W0.heap.size W0 W → ∀ b, aK = some b → ∀ j u, (encK f.keys)[j]? = some u → W.cell? (b.add j) = some u) := fun W hb => ((HR.out.below HE.out.bl).below hb).src
  have HEk : Hid ((encK f.keys).length = f.keys.length * 2) := encK_len _
  have hlt := HLt.out
  go_region_law (first
    | (refine step_append_grows rfl (.tmp 11) (.tmp 13) 30 rfl 27 i0 (.agg #[.int .i64 0, .int .i64 0]) 2 16 Try.underlying30 hi hz0 hz1 hz2 rfl (by decide) aK f.keys.length f.keys.length (encK f.keys) (by simp [Act.eval]) HN2.out HEk.out (HSr.out _ (by exact (one_below _ _).drew)) ⟨W0.heap.size, 0, none⟩ 1 1 [.int .i64 x, .int .i64 y] (by simp [Act.eval]) rfl (two_new _ _ _ _) (by intro u hu; simp at hu; rcases hu with rfl | rfl <;> rfl) (by omega) (by unfold maxLen; omega) (by omega) ?_; intro v w1 hown1 hgrow1; obtain ⟨g, cap, rfl⟩ := ownsRow_form hown1 (by omega); have HB1 : Hid (Below W0.heap.size W0 w1) := ((one_below W0 (.cells #[.int .i64 x, .int .i64 y] 27)).drew).grown hgrow1 (by simp [World.drew]) (fun k h => by cases h); have HO1 : Hid (w1.ownsRow (W0.heap.size + 1) 27 2 (.slice (some ⟨g, 0, none⟩) (f.keys.length + 1) cap) (f.keys.length + 1) (encK f.keys ++ [.int .i64 x, .int .i64 y])) := ownsRow_le hown1 (by simp [World.drew]); clear hown1 hgrow1 f0 f1 f2 f3 f4 f5 f6 f7 f8 f9 f10 f11 f12 f13 ff fs; have HE1 : Hid (Nt w w1 f x y aK cK) := HE.out.below HB1.out; obtain ⟨f0, f1, f2, f3, f4, f5, f6, f7, f8, f9, f10, f11, f12, f13, ff, fs⟩ := framef HE1.out.fb)
    | (refine step_call_same rfl 94 #[.slice aK f.keys.length cK] (.slice aK f.keys.length f.keys.length) (by simp [go_sem]) (clipK_at aK f.keys.length cK _ HLe.out HN.out) ?_))
  all_goals
    clear f0 f1 f2 f3 f4 f5 f6 f7 f8 f9 f10 f11 f12 f13 ff fs
    have hsz := lt_of_block HE.out.zb
    have HK1 : Hid (KOwn w1 (w.heap.size + 3) (some ⟨g, 0, none⟩) cap (f.keys ++ [(x, y)])) := ⟨by
      rw [show (f.keys ++ [(x, y)]).length = f.keys.length + 1 by simp, show encK (f.keys ++ [(x, y)]) = encK f.keys ++ [.int .i64 x, .int .i64 y] by simp [encK]]
      exact ownsRow_le HO1.out (by omega)⟩
    have HE2 : Hid (Nt w _ { f with keys := f.keys ++ [(x, y)] } x y (some ⟨g, 0, none⟩) cap) := HE1.out.keys (f.keys ++ [(x, y)]) (f.keys.length + 1) (by simp) (some ⟨g, 0, none⟩) cap
    obtain ⟨f0, f1, f2, f3, f4, f5, f6, f7, f8, f9, f10, f11, f12, f13, ff, fs⟩ := framef HE2.out.fb
    obtain ⟨g0, g1, g2, g3, g4, g5, g6, g7, g8, g9, g10, g11, g12, g13, gf, gs⟩ := framef HE2.out.zb
    go_wp2
    refine bodyPost_ret (v := .agg #[.int .i64 ({ f with keys := f.keys ++ [(x, y)] }).c.kind, .int .i64 ({ f with keys := f.keys ++ [(x, y)] }).c.a, .int .i64 ({ f with keys := f.keys ++ [(x, y)] }).c.b, .int .i64 ({ f with keys := f.keys ++ [(x, y)] }).c.time, .int .i64 ({ f with keys := f.keys ++ [(x, y)] }).c.bk, .int .i64 ({ f with keys := f.keys ++ [(x, y)] }).c.slot, .int .i64 ({ f with keys := f.keys ++ [(x, y)] }).pl, .int .i64 ({ f with keys := f.keys ++ [(x, y)] }).cur, .int .i64 ({ f with keys := f.keys ++ [(x, y)] }).prev, .int .i64 ({ f with keys := f.keys ++ [(x, y)] }).slot, .int .i64 ({ f with keys := f.keys ++ [(x, y)] }).n, .slice (some ⟨g, 0, none⟩) ({ f with keys := f.keys ++ [(x, y)] }).keys.length cap, .bool ({ f with keys := f.keys ++ [(x, y)] }).done, .int .i64 ({ f with keys := f.keys ++ [(x, y)] }).e]) (by simp [results, Try.results72, go_sem, g0, g1, g2, g3, g4, g5, g6, g7, g8, g9, g10, g11, g12, g13]) rfl ⟨some ⟨g, 0, none⟩, cap, (by simp), HK1.out.end14n, ?_⟩
    iterate 14 (refine Below.setCell ?_ (by dsimp only; omega) _)
    exact HE2.out.bl
end Go.Proofs.Ytdbilofhcadmoac.mm
