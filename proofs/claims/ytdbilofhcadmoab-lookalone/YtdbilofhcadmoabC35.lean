/- The contract of the document's own OwnMem: its walk. -/
import Derived.Test.YtdbilofhcadmoabC34
import Derived.Test.YtdbilofhcadmoabC06
import Derived.Deep.Slices
import Derived.SizedLaws
import Derived.Carry
import Derived.Test.YtdbilofhcadmoabC17
import Derived.Test.YtdbilofhcadmoabC13
import Derived.Test.YtdbilofhcadmoabC15
import Derived.Test.YtdbilofhcadmoabC14
namespace Go.Proofs.Ytdbilofhcadmoab.mm
open Go.ChangeShapes Go.WideShapes Go.ChangeAt Go.RowKit Go.Joins Go.Maps
set_option maxRecDepth 100000
set_option linter.unusedVariables false

theorem wpOp_val {P : Program} {ops : Array Oper} {Q : Exit → Act → World → Prop} {i : Nat} {o : Oper} {a : Act} {w w' : World} {v : Value} {K : Act → World → Prop} (hi : ops[i]? = some o) (hg : o.guard = none)
    (hr : (execOp a.eval o).run P w = .ok (.value v) w') (h : K (a.put o.dst v) w') : wpOp P ops Q i K a w := by
  refine wpOp_step hi fun K' hK => ?_
  have hw : Region.wanted o (yielded ops a.tmps) = true := by unfold Region.wanted; rw [hg]
  rw [if_pos hw]
  unfold Oper.wp
  rw [hr]
  exact hK _ _ h

theorem wpOp_skip {P : Program} {ops : Array Oper} {Q : Exit → Act → World → Prop} {i : Nat} {o : Oper} {a : Act} {w w' : World} {K : Act → World → Prop} (hi : ops[i]? = some o) (hg : o.guard = none)
    (hr : (execOp a.eval o).run P w = .ok .skip w') (h : K (a.put o.dst undef) w') : wpOp P ops Q i K a w := by
  refine wpOp_step hi fun K' hK => ?_
  have hw : Region.wanted o (yielded ops a.tmps) = true := by unfold Region.wanted; rw [hg]
  rw [if_pos hw]
  unfold Oper.wp
  rw [hr]
  exact hK _ _ h

theorem Fx.start {w0 W : World} {M : Mm} {aS aH aF aL : Option Addr} {cS cH cF cL : Nat} {x : Nat → Value} (hB : W.heap[w0.heap.size]? = some (.cells #[.slice aS M.slots.length cS, .slice aH M.heads.length cH, .slice aF M.free.length cF, .slice aL M.locks.length cL, .int .i64 M.now] 25 (0, 0)))
    (hR : W.heap[w0.heap.size + 1]? = some (.cells #[.slice none 0 0, .slice none 0 0, .slice none 0 0, .slice none 0 0, .int .i64 0] 25 (0, 0))) (hb : Below w0.heap.size w0 W) : Fx w0 M aS aH aF aL cS cH cF cL (fun _ => false) x W :=
  ⟨hB, fun _ => hR, (fun h => by cases h), hb, (fun h => by cases h), (fun h => by cases h), (fun h => by cases h), (fun h => by cases h), (fun h => by cases h), (fun h => by cases h), (fun h => by cases h), (fun h => by cases h), (fun h => by cases h), (fun h => by cases h), (fun h => by cases h), (fun h => by cases h), (fun h => by cases h), (fun h => by cases h), (fun h => by cases h), (fun h => by cases h), (fun h => by cases h), (fun h => by cases h), (fun h => by cases h), (fun h => by cases h), (fun h => by cases h), (fun h => by cases h), (fun h => by cases h), (fun h => by cases h), (fun h => by cases h), (fun h => by cases h), (fun h => by cases h), (fun h => by cases h)⟩

theorem getD_ft {l : Array Bool} {i : Nat} (h : l.getD i true = false) : l.getD i false = false := by
  by_cases hi : i < l.size
  · simpa [Array.getD_eq_getD_getElem?, hi] using h
  · simp [Array.getD_eq_getD_getElem?, hi]

theorem all_listed {md : Region.Mode} {ops : Array Oper} {listed : Array Bool} (hr : Region.ready md ops listed = []) (hs : listed.size = ops.size)
    (he : ((List.range ops.size).all fun i => ((ops[i]?).map fun o => o.after.all fun e => decide (e.on < i)).getD true) = true) : ∀ n i, i < n → i < ops.size → listed.getD i false = true
  | 0, i, h, _ => by omega
  | n + 1, i, h, hi => by
    cases hl : listed.getD i false with
    | true => rfl
    | false =>
      exfalso
      have hlt : listed.getD i true = false := by
        simpa [Array.getD_eq_getD_getElem?, hs, hi] using hl
      have hm : i ∈ Region.ready md ops listed := by
        unfold Region.ready
        rw [List.mem_filter]
        refine ⟨by simpa using hi, ?_⟩
        rw [hlt]
        have h1 := List.all_eq_true.1 he i (by simpa using hi)
        have ho : ops[i]? = some ops[i] := Array.getElem?_eq_getElem hi
        rw [ho] at h1 ⊢
        simp only [Option.map_some, Option.getD_some] at h1 ⊢
        simp only [Bool.not_false, Bool.true_and]
        rw [Array.all_eq_true'] at h1 ⊢
        intro e hm
        have h2 := h1 e hm
        have h3 : e.on < i := by simpa using h2
        rw [all_listed hr hs he n e.on (by omega) (by omega)]
        simp
      rw [hr] at hm
      cases hm

def actO (x : Nat → Value) : Act := ⟨#[x 0, x 1, x 2, x 3, x 4, x 5, x 6, x 7, x 8, x 9, x 10, x 11, x 12, x 13, x 14, x 15, x 16, x 17, x 18, x 19, x 20, x 21], []⟩

structure Jo (w0 : World) (M : Mm) (aS aH aF aL : Option Addr) (cS cH cF cL : Nat) (listed : Array Bool) (x : Nat → Value) (W : World) : Prop where
  n : listed.size = 20
  x1 : x 1 = .pointer (some ⟨w0.heap.size, 0, none⟩)
  x2 : x 2 = .pointer (some ⟨w0.heap.size + 1, 0, none⟩)
  f : Fx w0 M aS aH aF aL cS cH cF cL (fun i => listed.getD i false) x W

theorem Jo.next {w0 : World} {M : Mm} {aS aH aF aL : Option Addr} {cS cH cF cL : Nat} {listed : Array Bool} {x x' : Nat → Value} {W W' : World} (J : Jo w0 M aS aH aF aL cS cH cF cL listed x W) (i : Nat) (hi : i < 20) (h1 : x' 1 = x 1) (h2 : x' 2 = x 2)
    (F : Fx w0 M aS aH aF aL cS cH cF cL (upd (fun k => listed.getD k false) i) x' W') : Jo w0 M aS aH aF aL cS cH cF cL (listed.setIfInBounds i true) x' W' := by
  refine ⟨by simpa using J.n, h1.trans J.x1, h2.trans J.x2, ?_⟩
  have e : (fun k => (listed.setIfInBounds i true).getD k false) = upd (fun k => listed.getD k false) i := by
    funext k
    have := J.n
    by_cases hk : k = i
    · subst hk
      simp [upd, Array.getD_eq_getD_getElem?, J.n, hi]
    · have hk' : ¬ i = k := fun e => hk e.symm
      simp [upd, hk, Array.getD_eq_getD_getElem?, hk']
  rw [e]
  exact F

theorem app_some {W : World} (x : Nat → Value) (base : Nat) (t e : TypeId) (i : TypeInfo) (z : Value) (size bytes : Nat) (ht : Try.prog.underlying t = some (.slice e)) (hi : Try.prog.info? e = some i) (hz : i.zero = some z)
    (hsize : i.size = size) (hby : i.bytes = bytes) (hzs : z.cells.size = size) (hsz : 0 < size) (s y : Nat) (o : Oper) (ho : o.op = .call { callee := .builtin .append, args := #[.tmp s, .tmp y], argTypes := #[t, t] })
    (v : Value) (hs : (actO x).eval (.tmp s) = v) (hown : W.ownsRow base e size v 0 [])
    (ao : Option Addr) (m c : Nat) (news : List Value) (hx : (actO x).eval (.tmp y) = .slice ao m c) (hl : news.length = m * size) (hn : ao = none → m = 0 ∧ c = 0) (hnews : ∀ ad, ao = some ad → ∀ j u, news[j]? = some u → W.cell? (ad.add j) = some u) (h1 : ∀ u ∈ news, u.oneCell' = true)
    (h63 : m ≤ maxLen) (hbytes : m * bytes ≤ 140737488355328) (hbase : base ≤ W.heap.size) :
    ∃ v' W', (execOp (actO x).eval o).run Try.prog W = .ok (.value v') W' ∧ W'.ownsRow base e size v' m news ∧ W.grownBy W' v.ownBlock ∧ (v'.ownBlock = v.ownBlock ∨ v'.ownBlock = some W.heap.size) := by
  cases ao with
  | some ad =>
    obtain ⟨v', w', hr, h2, h3, h4, h5⟩ := run_append_own_at (P := Try.prog) W base t o.type e i z size bytes ht hi hz hsize hby hzs hsz v 0 [] hown ad m c news hl (hnews ad rfl) h1 (by omega) (by rw [Nat.zero_add]; exact hbytes) hbase
    rw [Nat.zero_add, List.nil_append] at h2
    refine ⟨v', w', ?_, h2, h3, h5⟩
    unfold execOp
    simp only [ho, resolve, invoke, builtin, Sem.run_bind, Sem.run_pure, Result.andThen_ok, List.map_toArray, List.map_cons, List.map_nil, hs, hx, hr]
  | none =>
    obtain ⟨rfl, rfl⟩ := hn rfl
    have hnil : news = [] := List.eq_nil_of_length_eq_zero (by rw [hl, Nat.zero_mul])
    subst hnil
    have hr := run_append_owned_none (P := Try.prog) W base t o.type e i size ht hi v 0 [] hown
    refine ⟨v, W, ?_, hown, ⟨rfl, rfl, rfl, Nat.le_refl _, fun _ _ _ => rfl⟩, .inl rfl⟩
    unfold execOp
    simp only [ho, resolve, invoke, builtin, Sem.run_bind, Sem.run_pure, Result.andThen_ok, List.map_toArray, List.map_cons, List.map_nil, hs, hx, hr]

theorem own_len {w : World} {lo size n : Nat} {e : TypeId} {v : Value} {xs : List Value} (h : w.ownsRow lo e size v n xs) : ∃ a c, v = .slice a n c := own_shape h

set_option maxHeartbeats 3200000 in
theorem ownMem_any (M : Mm) (aS aH aF aL : Option Addr) (cS cH cF cL : Nat) (w : World) (A : At w aS aH aF aL cS cH cF cL M) :
    Calls Try.prog 35 #[.agg #[.slice aS M.slots.length cS, .slice aH M.heads.length cH, .slice aF M.free.length cF, .slice aL M.locks.length cL, .int .i64 M.now]] w fun e w' => ∃ gS gH gF gL kS kH kF kL,
      e = .returned (.agg #[.slice gS M.slots.length kS, .slice gH M.heads.length kH, .slice gF M.free.length kF, .slice gL M.locks.length kL, .int .i64 M.now]) ∧
      Rw w' w.heap.size gS gH gF gL kS kH kF kL M ∧ Below w.heap.size w w' := by
  obtain ⟨iI0, hiI, hzI0, hzI1, hzI2⟩ := info_parts iI
  obtain ⟨iS0, hiS, hzS0, hzS1, hzS2⟩ := info_parts iS
  have m1 := A.s.max; have m2 := A.h.max; have m3 := A.f.max; have m4 := A.l.max
  have HA : Hid (At w aS aH aF aL cS cH cF cL M) := A
  clear A
  have b0 : Below w.heap.size w ((w.alloc (.cells #[.slice aS M.slots.length cS, .slice aH M.heads.length cH, .slice aF M.free.length cF, .slice aL M.locks.length cL, .int .i64 M.now] 25)).alloc (.cells #[.slice none 0 0, .slice none 0 0, .slice none 0 0, .slice none 0 0, .int .i64 0] 25)) := below_alloc2 w _ _
  have HB0 : Hid (((w.alloc (.cells #[.slice aS M.slots.length cS, .slice aH M.heads.length cH, .slice aF M.free.length cF, .slice aL M.locks.length cL, .int .i64 M.now] 25)).alloc (.cells #[.slice none 0 0, .slice none 0 0, .slice none 0 0, .slice none 0 0, .int .i64 0] 25)).heap[w.heap.size]? = some (.cells #[.slice aS M.slots.length cS, .slice aH M.heads.length cH, .slice aF M.free.length cF, .slice aL M.locks.length cL, .int .i64 M.now] 25 (0, 0))) := by
    show _ = _
    rw [Below.heap_alloc _ _ _ (by simp), heap_alloc_new]
  have HR0 : Hid (((w.alloc (.cells #[.slice aS M.slots.length cS, .slice aH M.heads.length cH, .slice aF M.free.length cF, .slice aL M.locks.length cL, .int .i64 M.now] 25)).alloc (.cells #[.slice none 0 0, .slice none 0 0, .slice none 0 0, .slice none 0 0, .int .i64 0] 25)).heap[w.heap.size + 1]? = some (.cells #[.slice none 0 0, .slice none 0 0, .slice none 0 0, .slice none 0 0, .int .i64 0] 25 (0, 0))) := by
    have := heap_alloc_new (w.alloc (.cells #[.slice aS M.slots.length cS, .slice aH M.heads.length cH, .slice aF M.free.length cF, .slice aL M.locks.length cL, .int .i64 M.now] 25)) (.cells #[.slice none 0 0, .slice none 0 0, .slice none 0 0, .slice none 0 0, .int .i64 0] 25)
    rwa [show (w.alloc (.cells #[.slice aS M.slots.length cS, .slice aH M.heads.length cH, .slice aF M.free.length cF, .slice aL M.locks.length cL, .int .i64 M.now] 25)).heap.size = w.heap.size + 1 by simp] at this
  go_enter Try.func35, Try.ntmps35
  go_wp2_with fail
  rename_i K0 hK0
  refine wp_region_inv (by kernel_rfl) (fun listed a W => ∃ x, a = actO x ∧ Jo w M aS aH aF aL cS cH cF cL listed x W) ?_ ?_ ?_
  · refine ⟨fun k => match k with | 0 => .agg #[.slice aS M.slots.length cS, .slice aH M.heads.length cH, .slice aF M.free.length cF, .slice aL M.locks.length cL, .int .i64 M.now] | 1 => .pointer (some ⟨w.heap.size, 0, none⟩) | 2 => .pointer (some ⟨w.heap.size + 1, 0, none⟩) | _ => undef, rfl, by simp, rfl, rfl, ?_⟩
    have e : (fun i => (Array.replicate 20 false).getD i false) = fun _ => false := by
      funext i
      by_cases h : i < 20 <;> simp [Array.getD_eq_getD_getElem?, h]
    show Fx w M aS aH aF aL cS cH cF cL (fun i => (Array.replicate 20 false).getD i false) _ _
    rw [e]
    exact Fx.start HB0.out HR0.out b0.drew
  · rintro listed a W i hi ⟨x, rfl, hJ⟩
    obtain ⟨hi1, hi2, o, ho, hpre⟩ := ready_spec hi
    clear hi
    have hi1' : i < 20 := hi1
    clear hi1
    have hA := HA.out.below hJ.f.below
    obtain ⟨q0, q1, q2, q3, q4, -, -, -, -, -, qs⟩ := boxf hJ.f.box
    have hx1 := hJ.x1
    have hlo : w.heap.size + 2 ≤ W.heap.size := hJ.f.lt
    obtain rfl | rfl | rfl | rfl | rfl | rfl | rfl | rfl | rfl | rfl | rfl | rfl | rfl | rfl | rfl | rfl | rfl | rfl | rfl | rfl : i = 0 ∨ i = 1 ∨ i = 2 ∨ i = 3 ∨ i = 4 ∨ i = 5 ∨ i = 6 ∨ i = 7 ∨ i = 8 ∨ i = 9 ∨ i = 10 ∨ i = 11 ∨ i = 12 ∨ i = 13 ∨ i = 14 ∨ i = 15 ∨ i = 16 ∨ i = 17 ∨ i = 18 ∨ i = 19 := by omega
    · refine wpOp_val rfl rfl (v := .slice (some ⟨W.heap.size, 0, none⟩) 0 0) (w' := W.alloc (.cells #[] 39)) (by simp only [execOp]; simp [go_sem]) ⟨updv x 3 _, rfl, hJ.next 0 (by omega) rfl rfl (hJ.f.b0 (getD_ft hi2))⟩
    · refine wpOp_val rfl rfl (v := .pointer (some ⟨w.heap.size, 0, none⟩)) (w' := W) (by simp [execOp, go_sem, (show (actO x).tmps[1]?.getD undef = .pointer (some ⟨w.heap.size, 0, none⟩) from hx1)]) ⟨updv x 4 _, rfl, hJ.next 1 (by omega) rfl rfl hJ.f.a1⟩
    · have g1 : listed.getD 1 false = true := hpre ⟨1, .data⟩ (by simp at ho; subst ho; simp) rfl
      have hx4 := hJ.f.p1 g1
      refine wpOp_val rfl rfl (v := .slice aS M.slots.length cS) (w' := W) (by simp [execOp, go_sem, (show (actO x).tmps[4]?.getD undef = .pointer (some ⟨w.heap.size, 0, none⟩) from hx4), q0]) ⟨updv x 5 _, rfl, hJ.next 2 (by omega) rfl rfl hJ.f.a2⟩
    · have hop : o.op = .call { callee := .builtin .append, args := #[.tmp 3, .tmp 5], argTypes := #[22, 22] } := by simp at ho; subst ho; rfl
      have hdst : o.dst = some 6 := by simp at ho; subst ho; rfl
      have hgd : o.guard = none := by simp at ho; subst ho; rfl
      have g0 : listed.getD 0 false = true := hpre ⟨0, .data⟩ (by simp at ho; subst ho; simp) rfl
      have g2 : listed.getD 2 false = true := hpre ⟨2, .data⟩ (by simp at ho; subst ho; simp) rfl
      have hs := hJ.f.r0 g0 (getD_ft hi2)
      have hy := hJ.f.p2 g2
      obtain ⟨v', W', hr, h2, h3, h5⟩ := app_some (W := W) x (w.heap.size + 2) 22 39 iS0 (.agg #[.int .i64 0, .int .i64 0, .int .i64 0, .int .i64 0, .bool false, .int .i64 0]) 6 48 Try.underlying22 hiS hzS0 hzS1 hzS2 rfl (by decide) 3 5 o hop (x 3) rfl hs aS M.slots.length cS (encS M.slots) hy (encS_len _) (fun h => ⟨by have := hA.s.nil h; have := hA.s.le; omega, hA.s.nil h⟩) hA.s.src (encS_one _) (by unfold maxLen; omega) (by omega) hlo
      exact wpOp_val ho hgd hr ⟨updv x 6 v', by rw [hdst]; rfl, hJ.next 3 (by omega) rfl rfl (hJ.f.c3 g0 (getD_ft hi2) h2 h3 h5)⟩
    · refine wpOp_val rfl rfl (v := .slice (some ⟨W.heap.size, 0, none⟩) 0 0) (w' := W.alloc (.cells #[] 3)) (by simp only [execOp]; simp [go_sem]) ⟨updv x 7 _, rfl, hJ.next 4 (by omega) rfl rfl (hJ.f.b4 (getD_ft hi2))⟩
    · refine wpOp_val rfl rfl (v := .pointer (some ⟨w.heap.size, 1, none⟩)) (w' := W) (by simp [execOp, go_sem, (show (actO x).tmps[1]?.getD undef = .pointer (some ⟨w.heap.size, 0, none⟩) from hx1)]) ⟨updv x 8 _, rfl, hJ.next 5 (by omega) rfl rfl hJ.f.a5⟩
    · have g5 : listed.getD 5 false = true := hpre ⟨5, .data⟩ (by simp at ho; subst ho; simp) rfl
      have hx4 := hJ.f.p5 g5
      refine wpOp_val rfl rfl (v := .slice aH M.heads.length cH) (w' := W) (by simp [execOp, go_sem, (show (actO x).tmps[8]?.getD undef = .pointer (some ⟨w.heap.size, 1, none⟩) from hx4), q1]) ⟨updv x 9 _, rfl, hJ.next 6 (by omega) rfl rfl hJ.f.a6⟩
    · have hop : o.op = .call { callee := .builtin .append, args := #[.tmp 7, .tmp 9], argTypes := #[23, 23] } := by simp at ho; subst ho; rfl
      have hdst : o.dst = some 10 := by simp at ho; subst ho; rfl
      have hgd : o.guard = none := by simp at ho; subst ho; rfl
      have g4 : listed.getD 4 false = true := hpre ⟨4, .data⟩ (by simp at ho; subst ho; simp) rfl
      have g6 : listed.getD 6 false = true := hpre ⟨6, .data⟩ (by simp at ho; subst ho; simp) rfl
      have hs := hJ.f.r4 g4 (getD_ft hi2)
      have hy := hJ.f.p6 g6
      obtain ⟨v', W', hr, h2, h3, h5⟩ := app_some (W := W) x (w.heap.size + 2) 23 3 iI0 (.int .i64 0) 1 8 Try.underlying23 hiI hzI0 hzI1 hzI2 rfl (by decide) 7 9 o hop (x 7) rfl hs aH M.heads.length cH (encI M.heads) hy ((encI_len _).trans (Nat.mul_one _).symm) (fun h => ⟨by have := hA.h.nil h; have := hA.h.le; omega, hA.h.nil h⟩) hA.h.src (encI_one _) (by unfold maxLen; omega) (by omega) hlo
      exact wpOp_val ho hgd hr ⟨updv x 10 v', by rw [hdst]; rfl, hJ.next 7 (by omega) rfl rfl (hJ.f.c7 g4 (getD_ft hi2) h2 h3 h5)⟩
    · refine wpOp_val rfl rfl (v := .slice (some ⟨W.heap.size, 0, none⟩) 0 0) (w' := W.alloc (.cells #[] 3)) (by simp only [execOp]; simp [go_sem]) ⟨updv x 11 _, rfl, hJ.next 8 (by omega) rfl rfl (hJ.f.b8 (getD_ft hi2))⟩
    · refine wpOp_val rfl rfl (v := .pointer (some ⟨w.heap.size, 2, none⟩)) (w' := W) (by simp [execOp, go_sem, (show (actO x).tmps[1]?.getD undef = .pointer (some ⟨w.heap.size, 0, none⟩) from hx1)]) ⟨updv x 12 _, rfl, hJ.next 9 (by omega) rfl rfl hJ.f.a9⟩
    · have g9 : listed.getD 9 false = true := hpre ⟨9, .data⟩ (by simp at ho; subst ho; simp) rfl
      have hx4 := hJ.f.p9 g9
      refine wpOp_val rfl rfl (v := .slice aF M.free.length cF) (w' := W) (by simp [execOp, go_sem, (show (actO x).tmps[12]?.getD undef = .pointer (some ⟨w.heap.size, 2, none⟩) from hx4), q2]) ⟨updv x 13 _, rfl, hJ.next 10 (by omega) rfl rfl hJ.f.a10⟩
    · have hop : o.op = .call { callee := .builtin .append, args := #[.tmp 11, .tmp 13], argTypes := #[23, 23] } := by simp at ho; subst ho; rfl
      have hdst : o.dst = some 14 := by simp at ho; subst ho; rfl
      have hgd : o.guard = none := by simp at ho; subst ho; rfl
      have g8 : listed.getD 8 false = true := hpre ⟨8, .data⟩ (by simp at ho; subst ho; simp) rfl
      have g10 : listed.getD 10 false = true := hpre ⟨10, .data⟩ (by simp at ho; subst ho; simp) rfl
      have hs := hJ.f.r8 g8 (getD_ft hi2)
      have hy := hJ.f.p10 g10
      obtain ⟨v', W', hr, h2, h3, h5⟩ := app_some (W := W) x (w.heap.size + 2) 23 3 iI0 (.int .i64 0) 1 8 Try.underlying23 hiI hzI0 hzI1 hzI2 rfl (by decide) 11 13 o hop (x 11) rfl hs aF M.free.length cF (encI M.free) hy ((encI_len _).trans (Nat.mul_one _).symm) (fun h => ⟨by have := hA.f.nil h; have := hA.f.le; omega, hA.f.nil h⟩) hA.f.src (encI_one _) (by unfold maxLen; omega) (by omega) hlo
      exact wpOp_val ho hgd hr ⟨updv x 14 v', by rw [hdst]; rfl, hJ.next 11 (by omega) rfl rfl (hJ.f.c11 g8 (getD_ft hi2) h2 h3 h5)⟩
    · refine wpOp_val rfl rfl (v := .slice (some ⟨W.heap.size, 0, none⟩) 0 0) (w' := W.alloc (.cells #[] 3)) (by simp only [execOp]; simp [go_sem]) ⟨updv x 15 _, rfl, hJ.next 12 (by omega) rfl rfl (hJ.f.b12 (getD_ft hi2))⟩
    · refine wpOp_val rfl rfl (v := .pointer (some ⟨w.heap.size, 3, none⟩)) (w' := W) (by simp [execOp, go_sem, (show (actO x).tmps[1]?.getD undef = .pointer (some ⟨w.heap.size, 0, none⟩) from hx1)]) ⟨updv x 16 _, rfl, hJ.next 13 (by omega) rfl rfl hJ.f.a13⟩
    · have g13 : listed.getD 13 false = true := hpre ⟨13, .data⟩ (by simp at ho; subst ho; simp) rfl
      have hx4 := hJ.f.p13 g13
      refine wpOp_val rfl rfl (v := .slice aL M.locks.length cL) (w' := W) (by simp [execOp, go_sem, (show (actO x).tmps[16]?.getD undef = .pointer (some ⟨w.heap.size, 3, none⟩) from hx4), q3]) ⟨updv x 17 _, rfl, hJ.next 14 (by omega) rfl rfl hJ.f.a14⟩
    · have hop : o.op = .call { callee := .builtin .append, args := #[.tmp 15, .tmp 17], argTypes := #[23, 23] } := by simp at ho; subst ho; rfl
      have hdst : o.dst = some 18 := by simp at ho; subst ho; rfl
      have hgd : o.guard = none := by simp at ho; subst ho; rfl
      have g12 : listed.getD 12 false = true := hpre ⟨12, .data⟩ (by simp at ho; subst ho; simp) rfl
      have g14 : listed.getD 14 false = true := hpre ⟨14, .data⟩ (by simp at ho; subst ho; simp) rfl
      have hs := hJ.f.r12 g12 (getD_ft hi2)
      have hy := hJ.f.p14 g14
      obtain ⟨v', W', hr, h2, h3, h5⟩ := app_some (W := W) x (w.heap.size + 2) 23 3 iI0 (.int .i64 0) 1 8 Try.underlying23 hiI hzI0 hzI1 hzI2 rfl (by decide) 15 17 o hop (x 15) rfl hs aL M.locks.length cL (encI M.locks) hy ((encI_len _).trans (Nat.mul_one _).symm) (fun h => ⟨by have := hA.l.nil h; have := hA.l.le; omega, hA.l.nil h⟩) hA.l.src (encI_one _) (by unfold maxLen; omega) (by omega) hlo
      exact wpOp_val ho hgd hr ⟨updv x 18 v', by rw [hdst]; rfl, hJ.next 15 (by omega) rfl rfl (hJ.f.c15 g12 (getD_ft hi2) h2 h3 h5)⟩
    · refine wpOp_val rfl rfl (v := .pointer (some ⟨w.heap.size, 4, none⟩)) (w' := W) (by simp [execOp, go_sem, (show (actO x).tmps[1]?.getD undef = .pointer (some ⟨w.heap.size, 0, none⟩) from hx1)]) ⟨updv x 19 _, rfl, hJ.next 16 (by omega) rfl rfl hJ.f.a16⟩
    · have g16 : listed.getD 16 false = true := hpre ⟨16, .data⟩ (by simp at ho; subst ho; simp) rfl
      have hx4 := hJ.f.p16 g16
      refine wpOp_val rfl rfl (v := .int .i64 M.now) (w' := W) (by simp [execOp, go_sem, (show (actO x).tmps[19]?.getD undef = .pointer (some ⟨w.heap.size, 4, none⟩) from hx4), q4]) ⟨updv x 20 _, rfl, hJ.next 17 (by omega) rfl rfl hJ.f.a17⟩
    · have g3 : listed.getD 3 false = true := hpre ⟨3, .data⟩ (by simp at ho; subst ho; simp) rfl
      have g7 : listed.getD 7 false = true := hpre ⟨7, .data⟩ (by simp at ho; subst ho; simp) rfl
      have g11 : listed.getD 11 false = true := hpre ⟨11, .data⟩ (by simp at ho; subst ho; simp) rfl
      have g15 : listed.getD 15 false = true := hpre ⟨15, .data⟩ (by simp at ho; subst ho; simp) rfl
      have g17 : listed.getD 17 false = true := hpre ⟨17, .data⟩ (by simp at ho; subst ho; simp) rfl
      have h20 := hJ.f.p17 g17
      obtain ⟨_, _, e6⟩ := own_shape (hJ.f.r3 g3)
      obtain ⟨_, _, e10⟩ := own_shape (hJ.f.r7 g7)
      obtain ⟨_, _, e14⟩ := own_shape (hJ.f.r11 g11)
      obtain ⟨_, _, e18⟩ := own_shape (hJ.f.r15 g15)
      refine wpOp_val rfl rfl (v := .agg #[x 6, x 10, x 14, x 18, .int .i64 M.now]) (w' := W) (by rw [e6, e10, e14, e18]; simp [execOp, go_sem, (show (actO x).tmps[20]?.getD undef = .int .i64 M.now from h20), (show (actO x).tmps[6]?.getD undef = _ from e6), (show (actO x).tmps[10]?.getD undef = _ from e10), (show (actO x).tmps[14]?.getD undef = _ from e14), (show (actO x).tmps[18]?.getD undef = _ from e18)]) ⟨updv x 21 _, rfl, hJ.next 18 (by omega) rfl rfl (hJ.f.a18 g3 g7 g11 g15)⟩
    · have g18 : listed.getD 18 false = true := hpre ⟨18, .data⟩ (by simp at ho; subst ho; simp) rfl
      have h21 := hJ.f.b18 g18
      have hx2 := hJ.x2
      obtain ⟨g3, g7, g11, g15⟩ := hJ.f.e18 g18
      obtain ⟨_, _, e6⟩ := own_shape (hJ.f.r3 g3)
      obtain ⟨_, _, e10⟩ := own_shape (hJ.f.r7 g7)
      obtain ⟨_, _, e14⟩ := own_shape (hJ.f.r11 g11)
      obtain ⟨_, _, e18⟩ := own_shape (hJ.f.r15 g15)
      obtain ⟨r0, r1, r2, r3, r4, z0, z1, z2, z3, z4, zs⟩ := boxf (hJ.f.zb (getD_ft hi2))
      refine wpOp_skip rfl rfl (w' := set5 W (w.heap.size + 1) (x 6) (x 10) (x 14) (x 18) (.int .i64 M.now)) (by
        rw [e6, e10, e14, e18] at h21 ⊢
        simp [execOp, go_sem, (show (actO x).tmps[2]?.getD undef = _ from hx2), (show (actO x).tmps[21]?.getD undef = _ from h21), r0, r1, r2, r3, r4, z0, z1, z2, z3, z4]
        rfl) ⟨x, rfl, hJ.next 19 (by omega) rfl rfl (hJ.f.s19 g18 (getD_ft hi2))⟩
  · rintro listed a W hr ⟨x, rfl, hJ⟩
    have hall := all_listed hr hJ.n (by kernel_rfl) 20
    have g3 : listed.getD 3 false = true := hall 3 (by omega) (by show 3 < 20; omega)
    have g7 : listed.getD 7 false = true := hall 7 (by omega) (by show 7 < 20; omega)
    have g11 : listed.getD 11 false = true := hall 11 (by omega) (by show 11 < 20; omega)
    have g15 : listed.getD 15 false = true := hall 15 (by omega) (by show 15 < 20; omega)
    have g19 : listed.getD 19 false = true := hall 19 (by omega) (by show 19 < 20; omega)
    have g4 := hJ.f.e7 g7
    have g8 := hJ.f.e11 g11
    have g12 := hJ.f.e15 g15
    clear hr hall
    have o3 := hJ.f.r3 g3
    have o7 := hJ.f.r7 g7
    have o11 := hJ.f.r11 g11
    have o15 := hJ.f.r15 g15
    have d12 : Dj (x 10) (x 14) := by have := hJ.f.d12 g4 g8; rwa [if_pos g7, if_pos g11] at this
    have d13 : Dj (x 10) (x 18) := by have := hJ.f.d13 g4 g12; rwa [if_pos g7, if_pos g15] at this
    have d23 : Dj (x 14) (x 18) := by have := hJ.f.d23 g8 g12; rwa [if_pos g11, if_pos g15] at this
    have fb := hJ.f.fb g19
    have lt := hJ.f.lt
    have bl := hJ.f.below
    obtain ⟨gS, kS, e6⟩ := own_shape o3
    obtain ⟨gH, kH, e10⟩ := own_shape o7
    obtain ⟨gF, kF, e14⟩ := own_shape o11
    obtain ⟨gL, kL, e18⟩ := own_shape o15
    rw [e6] at o3 fb
    rw [e10] at o7 d12 d13 fb
    rw [e14] at o11 d12 d23 fb
    rw [e18] at o15 d13 d23 fb
    have HF : Hid (Rw W w.heap.size gS gH gF gL kS kH kF kL M) := ⟨ownsRow_le o3 (by omega), ownsRow_le o7 (by omega), ownsRow_le o11 (by omega), ownsRow_le o15 (by omega), d12, d13, d23, by omega⟩
    obtain ⟨r0, r1, r2, r3, r4, g0, g1, g2, g3, g4, rs⟩ := boxf fb
    have hx2 := hJ.x2
    clear o3 o7 o11 o15 d12 d13 d23 fb
    refine hK0 _ _ ?_
    go_wp2
    refine bodyPost_ret (v := .agg #[.slice gS M.slots.length kS, .slice gH M.heads.length kH, .slice gF M.free.length kF, .slice gL M.locks.length kL, .int .i64 M.now]) (by simp [results, Try.results35, go_sem, actO, hx2, r0, r1, r2, r3, r4]) rfl ⟨_, _, _, _, _, _, _, _, rfl, HF.out, bl⟩



end Go.Proofs.Ytdbilofhcadmoab.mm

/- From what a row says of an argument to memory that lies in the world. -/
namespace Go.Proofs.Ytdbilofhcadmoab.mm
open Go.ChangeShapes Go.WideShapes Go.ChangeAt Go.RowKit Go.Joins Go.Deep
set_option maxRecDepth 100000
set_option linter.unusedVariables false

theorem own : ownKnob Try.prog.godebug = none := by kernel_rfl
theorem cells3 : Try.prog.cellsOf 3 = 1 := by kernel_rfl
theorem cells4 : Try.prog.cellsOf 4 = 1 := by kernel_rfl
theorem cells37 : Try.prog.cellsOf 37 = 2 := by kernel_rfl
theorem cells48 : Try.prog.cellsOf 39 = 6 := by kernel_rfl
theorem cells29 : Try.prog.cellsOf 25 = 5 := by kernel_rfl
theorem cells24 : Try.prog.cellsOf 23 = 1 := by kernel_rfl
theorem cells27 : Try.prog.cellsOf 22 = 1 := by kernel_rfl
theorem bytes3 : Try.prog.bytesOf 3 = 8 := by kernel_rfl
theorem bytes48 : Try.prog.bytesOf 39 = 48 := by kernel_rfl

variable {H : Type} {enc : TypeId × Value → H} {w : World}

theorem trod_struct5 {P : Program} {base : Nat} {spare : Nat → Bool} {held : Bool} {t : TypeId} {f0 f1 f2 f3 f4 : Field} {fuel : Nat} {cs : List Value} {x : DataW H × List MemPlace} (ht : P.underlying t = some (.struct #[f0, f1, f2, f3, f4])) (h : DataW.trod enc P w base spare held fuel t cs = some x) :
    ∃ y0 y1 y2 y3 y4 n, x.1 = .agg [y0.1, y1.1, y2.1, y3.1, y4.1] ∧ cs.length = P.cellsOf t ∧ DataW.trod enc P w base spare held n f0.type ((cs.drop f0.offset).take (P.cellsOf f0.type)) = some y0 ∧
      DataW.trod enc P w base spare held n f1.type ((cs.drop f1.offset).take (P.cellsOf f1.type)) = some y1 ∧ DataW.trod enc P w base spare held n f2.type ((cs.drop f2.offset).take (P.cellsOf f2.type)) = some y2 ∧
      DataW.trod enc P w base spare held n f3.type ((cs.drop f3.offset).take (P.cellsOf f3.type)) = some y3 ∧ DataW.trod enc P w base spare held n f4.type ((cs.drop f4.offset).take (P.cellsOf f4.type)) = some y4 := by
  obtain ⟨xs, n, _, rfl, hl, hlen, hf⟩ := DataW.trod_struct ht h
  match xs, hlen with
  | [y0, y1, y2, y3, y4], _ => exact ⟨y0, y1, y2, y3, y4, n, by simp, hl, by simpa using hf 0 f0 rfl, by simpa using hf 1 f1 rfl, by simpa using hf 2 f2 rfl, by simpa using hf 3 f3 rfl, by simpa using hf 4 f4 rfl⟩

theorem six {cs : List Value} (h : cs.length = 6) : ∃ c0 c1 c2 c3 c4 c5, cs = [c0, c1, c2, c3, c4, c5] := by
  match cs, h with
  | [c0, c1, c2, c3, c4, c5], _ => exact ⟨_, _, _, _, _, _, rfl⟩

theorem open_slot {fuel : Nat} {cs : List Value} {x : DataW H × List MemPlace} (h : DataW.trod enc Try.prog w 0 (fun _ => true) true fuel 39 cs = some x) : ∃ s : Sl, cs = s.enc := by
  obtain ⟨y0, y1, y2, y3, y4, n, _, hl, h0, h1, h2, h3, h4⟩ := trod_struct5 Try.underlying39 h
  rw [cells48] at hl
  obtain ⟨c0, c1, c2, c3, c4, c5, rfl⟩ := six hl
  simp only [cells3, cells4, cells37] at h0 h1 h2 h3 h4
  obtain ⟨r, e0, _⟩ := DataW.trod_int Try.underlying3 h0
  obtain ⟨z0, z1, m, _, _, k0, k1⟩ := trod_struct2 Try.underlying37 h1
  simp only [cells3] at k0 k1
  obtain ⟨a, e1, _⟩ := DataW.trod_int Try.underlying3 k0
  obtain ⟨b, e2, _⟩ := DataW.trod_int Try.underlying3 k1
  obtain ⟨u, e3, _⟩ := DataW.trod_int Try.underlying3 h2
  obtain ⟨i, e4, _⟩ := DataW.trod_bool Try.underlying4 h3
  obtain ⟨nx, e5, _⟩ := DataW.trod_int Try.underlying3 h4
  simp at e0 e1 e2 e3 e4 e5
  subst e0 e1 e2 e3 e4 e5
  exact ⟨⟨r, a, b, u, i, nx⟩, rfl⟩

theorem open_irow {fuel : Nat} {c : Value} {x : DataW H × List MemPlace} (h : DataW.trod enc Try.prog w 0 (fun _ => true) true fuel 23 [c] = some x) (hz : ∀ n ∈ x.1.weights Try.prog 23, n ≤ reachBytes) :
    ∃ l ao cap, c = .slice ao l.length cap ∧ IRow w ao cap l := by
  rcases open_ints Try.underlying23 Try.underlying3 cells3 h with ⟨e, -⟩ | ⟨a, len, cap, zs, e, hb, hl, hm, hlen, hx, hc, hwf⟩
  · simp at e
    exact ⟨[], none, 0, e, Nat.zero_le _, by decide, fun _ => rfl, .inl rfl⟩
  · simp at e hlen
    subst e
    have hlt : (zs.take len).length = len := by rw [List.length_take]; omega
    refine ⟨zs.take len, some a, cap, by rw [hlt], by omega, ?_, (fun h => by cases h), ?_⟩
    · rw [hx] at hz
      have := hz ((len + (cap - len)) * 8) (by simp [DataW.weights, Try.underlying23, bytes3, lits, hlen]; left; omega)
      unfold reachBytes at this
      rw [hlt]
      omega
    · by_cases h0 : len = 0
      · left; omega
      · right
        obtain ⟨b, off, spot⟩ := a
        have hspot : spot = none := by simpa [Addr.add] using World.cell?_spot (hc 0 (by omega))
        subst hspot
        refine ⟨b, off, rfl, fun i hi => ?_⟩
        have := hc i (by omega)
        rw [Addr.add_lit] at this
        rw [this]
        have hi' : i < zs.length := by omega
        simp [List.getD_eq_getElem?_getD, hi']

theorem open_srow {fuel : Nat} {c : Value} {x : DataW H × List MemPlace} (h : DataW.trod enc Try.prog w 0 (fun _ => true) true fuel 22 [c] = some x) (hz : ∀ n ∈ x.1.weights Try.prog 22, n ≤ reachBytes) :
    ∃ l ao cap, c = .slice ao l.length cap ∧ SRow w ao cap l := by
  rcases open_slice Try.underlying22 h with ⟨e, -⟩ | ⟨a, len, cap, m, n, D, Pl, e, hb, hl, hm, hmm, hx, hc⟩
  · simp at e
    exact ⟨[], none, 0, e, Nat.zero_le _, by decide, fun _ => rfl, .inl rfl⟩
  · simp at e hmm
    subst e hmm
    rw [cells48] at hc
    obtain ⟨S, hS⟩ := @choose_lt Sl ⟨sl0⟩ len (fun i s => w.cells? 0 (a.add (i * 6)) 6 = some s.enc) (fun i hi => by
      obtain ⟨cs', h1, h2⟩ := hc i (by omega)
      obtain ⟨s, rfl⟩ := open_slot h2
      exact ⟨s, h1⟩)
    have hlt : ((List.range len).map S).length = len := by simp
    refine ⟨(List.range len).map S, some a, m, by rw [hlt], by omega, ?_, (fun h => by cases h), ?_⟩
    · rw [hx] at hz
      have := hz ((len + (m - len)) * 48) (by simp [DataW.weights, Try.underlying22, bytes48])
      unfold reachBytes at this
      rw [hlt]
      omega
    · by_cases h0 : len = 0
      · left; omega
      · right
        obtain ⟨b, off, spot⟩ := a
        have hspot : spot = none := by
          have := (World.cells?_some (hS 0 (by omega))).2.2 0 (by omega)
          simpa [Addr.add] using World.cell?_spot this
        subst hspot
        refine ⟨b, off, rfl, fun i hi => ?_⟩
        have hi' : i < len := by simpa using hi
        have k : ∀ q, q < 6 → w.cell? ⟨b, off + i * 6 + q, none⟩ = ((S i).enc)[q]? := fun q hq => by
          have := (World.cells?_some (hS i hi')).2.2 q hq
          rwa [Addr.add_lit, Addr.add_lit] at this
        have e : ((List.range len).map S)[i] = S i := by simp
        rw [e]
        exact ⟨k 0 (by omega), k 1 (by omega), k 2 (by omega), k 3 (by omega), k 4 (by omega), k 5 (by omega)⟩

theorem open_mem {r : Reach} {b0 : Nat} {v : Value} {d : DataW H} {p : List MemPlace} (hv : Value.okWide Try.prog w r b0 25 v) (h : DataW.Trod enc Try.prog w 0 (fun _ => true) true 25 v d p) (hz : ∀ n ∈ d.weights Try.prog 25, n ≤ reachBytes) : ∃ M, Ans 0 w v M := by
  obtain ⟨cs, rfl, hsz⟩ := okWide_struct Try.underlying25 hv
  obtain ⟨l⟩ := cs
  rw [cells29] at hsz
  match l, hsz with
  | [c0, c1, c2, c3, c4], _ =>
    obtain ⟨fuel, hf⟩ := h
    obtain ⟨y0, y1, y2, y3, y4, n, hx, _, h0, h1, h2, h3, h4⟩ := trod_struct5 Try.underlying25 hf
    simp only [Value.cells, cells27, cells24, cells3] at h0 h1 h2 h3 h4
    have hd : d = .agg [y0.1, y1.1, y2.1, y3.1, y4.1] := hx
    subst hd
    have hz' : ∀ n, n ∈ y0.1.weights Try.prog 22 ∨ n ∈ y1.1.weights Try.prog 23 ∨ n ∈ y2.1.weights Try.prog 23 ∨ n ∈ y3.1.weights Try.prog 23 → n ≤ reachBytes := fun n hn => hz n (by
      simp only [DataW.weights, Try.underlying25, DataW.weightsEach, List.map_cons, List.mem_append]
      rcases hn with h | h | h | h
      · exact .inl h
      · exact .inr (.inl h)
      · exact .inr (.inr (.inl h))
      · exact .inr (.inr (.inr (.inl h))))
    obtain ⟨S, aS, cS, rfl, rS⟩ := open_srow h0 (fun n hn => hz' n (.inl hn))
    obtain ⟨H, aH, cH, rfl, rH⟩ := open_irow h1 (fun n hn => hz' n (.inr (.inl hn)))
    obtain ⟨F, aF, cF, rfl, rF⟩ := open_irow h2 (fun n hn => hz' n (.inr (.inr (.inl hn))))
    obtain ⟨L, aL, cL, rfl, rL⟩ := open_irow h3 (fun n hn => hz' n (.inr (.inr (.inr hn))))
    obtain ⟨now, e, _⟩ := DataW.trod_int Try.underlying3 h4
    simp at e
    subst e
    exact ⟨⟨S, H, F, L, now⟩, aS, aH, aF, aL, cS, cH, cF, cL, rfl, ⟨rS, rH, rF, rL⟩, ⟨fun _ _ => Nat.zero_le _, fun _ _ => Nat.zero_le _, fun _ _ => Nat.zero_le _, fun _ _ => Nat.zero_le _⟩⟩



end Go.Proofs.Ytdbilofhcadmoab.mm

/- From what a row says of an argument to calls and frames that lie in the world. -/
namespace Go.Proofs.Ytdbilofhcadmoab.mm
open Go.ChangeShapes Go.WideShapes Go.ChangeAt Go.RowKit Go.Joins Go.Deep
set_option maxRecDepth 100000
set_option linter.unusedVariables false

theorem cellsCall : Try.prog.cellsOf 48 = 6 := by kernel_rfl
theorem cellsFrame : Try.prog.cellsOf 51 = 14 := by kernel_rfl
theorem cellsErr : Try.prog.cellsOf 27 = 1 := by kernel_rfl
theorem cellsKeys : Try.prog.cellsOf 49 = 1 := by kernel_rfl
theorem bytesKey : Try.prog.bytesOf 37 = 16 := by kernel_rfl

variable {H : Type} {enc : TypeId × Value → H} {w : World}

theorem trod_call {fuel : Nat} {cs : List Value} {x : DataW H × List MemPlace} (h : DataW.trod enc Try.prog w 0 (fun _ => true) true fuel 48 cs = some x) :
    ∃ c : Cl, cs = [.int .i64 c.kind, .int .i64 c.a, .int .i64 c.b, .int .i64 c.time, .int .i64 c.bk, .int .i64 c.slot] := by
  obtain ⟨y0, y1, y2, y3, y4, n, _, hl, h0, h1, h2, h3, h4⟩ := trod_struct5 Try.underlying48 h
  rw [cellsCall] at hl
  obtain ⟨c0, c1, c2, c3, c4, c5, rfl⟩ := six hl
  simp only [cells3, cells37] at h0 h1 h2 h3 h4
  obtain ⟨r, e0, _⟩ := DataW.trod_int Try.underlying3 h0
  obtain ⟨z0, z1, m, _, _, k0, k1⟩ := trod_struct2 Try.underlying37 h1
  simp only [cells3] at k0 k1
  obtain ⟨a, e1, _⟩ := DataW.trod_int Try.underlying3 k0
  obtain ⟨b, e2, _⟩ := DataW.trod_int Try.underlying3 k1
  obtain ⟨u, e3, _⟩ := DataW.trod_int Try.underlying3 h2
  obtain ⟨i, e4, _⟩ := DataW.trod_int Try.underlying3 h3
  obtain ⟨nx, e5, _⟩ := DataW.trod_int Try.underlying3 h4
  simp at e0 e1 e2 e3 e4 e5
  subst e0 e1 e2 e3 e4 e5
  exact ⟨⟨r, a, b, u, i, nx⟩, rfl⟩

theorem open_call {r : Reach} {b0 : Nat} {v : Value} {d : DataW H} {p : List MemPlace} (hv : Value.okWide Try.prog w r b0 48 v) (h : DataW.Trod enc Try.prog w 0 (fun _ => true) true 48 v d p) :
    ∃ c : Cl, v = .agg #[.int .i64 c.kind, .int .i64 c.a, .int .i64 c.b, .int .i64 c.time, .int .i64 c.bk, .int .i64 c.slot] := by
  obtain ⟨cs, rfl, hsz⟩ := okWide_struct Try.underlying48 hv
  obtain ⟨fuel, hf⟩ := h
  obtain ⟨c, hc⟩ := trod_call hf
  refine ⟨c, ?_⟩
  obtain ⟨l⟩ := cs
  have hc' : l = _ := hc
  rw [hc']

theorem trod_struct9 {P : Program} {base : Nat} {spare : Nat → Bool} {held : Bool} {t : TypeId} {f0 f1 f2 f3 f4 f5 f6 f7 f8 : Field} {fuel : Nat} {cs : List Value} {x : DataW H × List MemPlace} (ht : P.underlying t = some (.struct #[f0, f1, f2, f3, f4, f5, f6, f7, f8])) (h : DataW.trod enc P w base spare held fuel t cs = some x) :
    ∃ y0 y1 y2 y3 y4 y5 y6 y7 y8 n, x.1 = .agg [y0.1, y1.1, y2.1, y3.1, y4.1, y5.1, y6.1, y7.1, y8.1] ∧ cs.length = P.cellsOf t ∧ DataW.trod enc P w base spare held n f0.type ((cs.drop f0.offset).take (P.cellsOf f0.type)) = some y0 ∧
      DataW.trod enc P w base spare held n f1.type ((cs.drop f1.offset).take (P.cellsOf f1.type)) = some y1 ∧ DataW.trod enc P w base spare held n f2.type ((cs.drop f2.offset).take (P.cellsOf f2.type)) = some y2 ∧
      DataW.trod enc P w base spare held n f3.type ((cs.drop f3.offset).take (P.cellsOf f3.type)) = some y3 ∧ DataW.trod enc P w base spare held n f4.type ((cs.drop f4.offset).take (P.cellsOf f4.type)) = some y4 ∧
      DataW.trod enc P w base spare held n f5.type ((cs.drop f5.offset).take (P.cellsOf f5.type)) = some y5 ∧ DataW.trod enc P w base spare held n f6.type ((cs.drop f6.offset).take (P.cellsOf f6.type)) = some y6 ∧
      DataW.trod enc P w base spare held n f7.type ((cs.drop f7.offset).take (P.cellsOf f7.type)) = some y7 ∧ DataW.trod enc P w base spare held n f8.type ((cs.drop f8.offset).take (P.cellsOf f8.type)) = some y8 := by
  obtain ⟨xs, n, _, rfl, hl, hlen, hf⟩ := DataW.trod_struct ht h
  match xs, hlen with
  | [y0, y1, y2, y3, y4, y5, y6, y7, y8], _ => exact ⟨y0, y1, y2, y3, y4, y5, y6, y7, y8, n, by simp, hl, by simpa using hf 0 f0 rfl, by simpa using hf 1 f1 rfl, by simpa using hf 2 f2 rfl, by simpa using hf 3 f3 rfl, by simpa using hf 4 f4 rfl, by simpa using hf 5 f5 rfl, by simpa using hf 6 f6 rfl, by simpa using hf 7 f7 rfl, by simpa using hf 8 f8 rfl⟩

theorem open_key2 {fuel : Nat} {cs : List Value} {x : DataW H × List MemPlace} (h : DataW.trod enc Try.prog w 0 (fun _ => true) true fuel 37 cs = some x) : ∃ p : Int × Int, cs = [.int .i64 p.1, .int .i64 p.2] := by
  obtain ⟨z0, z1, m, _, hl, k0, k1⟩ := trod_struct2 Try.underlying37 h
  rw [cells37] at hl
  match cs, hl with
  | [c0, c1], _ =>
    simp only [cells3] at k0 k1
    obtain ⟨a, e1, _⟩ := DataW.trod_int Try.underlying3 k0
    obtain ⟨b, e2, _⟩ := DataW.trod_int Try.underlying3 k1
    simp at e1 e2
    subst e1 e2
    exact ⟨(a, b), rfl⟩

theorem open_krow {fuel : Nat} {c : Value} {x : DataW H × List MemPlace} (h : DataW.trod enc Try.prog w 0 (fun _ => true) true fuel 49 [c] = some x) (hz : ∀ n ∈ x.1.weights Try.prog 49, n ≤ reachBytes) :
    ∃ l ao cap, c = .slice ao l.length cap ∧ KRow w ao cap l := by
  rcases open_slice Try.underlying49 h with ⟨e, -⟩ | ⟨a, len, cap, m, n, D, Pl, e, hb, hl, hm, hmm, hx, hc⟩
  · simp at e
    exact ⟨[], none, 0, e, Nat.zero_le _, by decide, fun _ => rfl, .inl rfl⟩
  · simp at e hmm
    subst e hmm
    rw [cells37] at hc
    obtain ⟨S, hS⟩ := @choose_lt (Int × Int) ⟨(0, 0)⟩ len (fun i s => w.cells? 0 (a.add (i * 2)) 2 = some [.int .i64 s.1, .int .i64 s.2]) (fun i hi => by
      obtain ⟨cs', h1, h2⟩ := hc i (by omega)
      obtain ⟨s, rfl⟩ := open_key2 h2
      exact ⟨s, h1⟩)
    have hlt : ((List.range len).map S).length = len := by simp
    refine ⟨(List.range len).map S, some a, m, by rw [hlt], by omega, ?_, (fun h => by cases h), ?_⟩
    · rw [hx] at hz
      have := hz ((len + (m - len)) * 16) (by simp [DataW.weights, Try.underlying49, bytesKey])
      unfold reachBytes at this
      rw [hlt]
      omega
    · by_cases h0 : len = 0
      · left; omega
      · right
        obtain ⟨b, off, spot⟩ := a
        have hspot : spot = none := by
          have := (World.cells?_some (hS 0 (by omega))).2.2 0 (by omega)
          simpa [Addr.add] using World.cell?_spot this
        subst hspot
        refine ⟨b, off, rfl, fun i hi => ?_⟩
        have hi' : i < len := by simpa using hi
        have k : ∀ q, q < 2 → w.cell? ⟨b, off + i * 2 + q, none⟩ = ([.int .i64 (S i).1, .int .i64 (S i).2] : List Value)[q]? := fun q hq => by
          have := (World.cells?_some (hS i hi')).2.2 q hq
          rwa [Addr.add_lit, Addr.add_lit] at this
        have e : ((List.range len).map S)[i] = S i := by simp
        rw [e]
        exact ⟨k 0 (by omega), k 1 (by omega)⟩

theorem fourteen {cs : List Value} (h : cs.length = 14) : ∃ c0 c1 c2 c3 c4 c5 c6 c7 c8 c9 c10 c11 c12 c13, cs = [c0, c1, c2, c3, c4, c5, c6, c7, c8, c9, c10, c11, c12, c13] := by
  match cs, h with
  | [c0, c1, c2, c3, c4, c5, c6, c7, c8, c9, c10, c11, c12, c13], _ => exact ⟨_, _, _, _, _, _, _, _, _, _, _, _, _, _, rfl⟩

theorem open_frame {r : Reach} {b0 : Nat} {v : Value} {d : DataW H} {p : List MemPlace} (hv : Value.okWide Try.prog w r b0 51 v) (h : DataW.Trod enc Try.prog w 0 (fun _ => true) true 51 v d p) (hz : ∀ n ∈ d.weights Try.prog 51, n ≤ reachBytes) :
    ∃ (f : Fr) (aK : Option Addr) (cK : Nat), v = .agg #[.int .i64 f.c.kind, .int .i64 f.c.a, .int .i64 f.c.b, .int .i64 f.c.time, .int .i64 f.c.bk, .int .i64 f.c.slot, .int .i64 f.pl, .int .i64 f.cur, .int .i64 f.prev, .int .i64 f.slot, .int .i64 f.n, .slice aK f.keys.length cK, .bool f.done, .int .i64 f.e] ∧ KRow w aK cK f.keys := by
  obtain ⟨cs, rfl, hsz⟩ := okWide_struct Try.underlying51 hv
  obtain ⟨l⟩ := cs
  rw [cellsFrame] at hsz
  obtain ⟨c0, c1, c2, c3, c4, c5, c6, c7, c8, c9, c10, c11, c12, c13, rfl⟩ := fourteen hsz
  obtain ⟨fuel, hf⟩ := h
  obtain ⟨y0, y1, y2, y3, y4, y5, y6, y7, y8, n, hx, _, h0, h1, h2, h3, h4, h5, h6, h7, h8⟩ := trod_struct9 Try.underlying51 hf
  simp only [Value.cells, cellsCall, cells3, cells4, cellsErr, cellsKeys] at h0 h1 h2 h3 h4 h5 h6 h7 h8
  have hd : d = .agg [y0.1, y1.1, y2.1, y3.1, y4.1, y5.1, y6.1, y7.1, y8.1] := hx
  subst hd
  have hz' : ∀ n, n ∈ y6.1.weights Try.prog 49 → n ≤ reachBytes := fun n hn => hz n (by
    simp only [DataW.weights, Try.underlying51, DataW.weightsEach, List.map_cons, List.mem_append]
    exact .inr (.inr (.inr (.inr (.inr (.inr (.inl hn)))))))
  obtain ⟨c, ec⟩ := trod_call h0
  obtain ⟨pl, e1, _⟩ := DataW.trod_int Try.underlying3 h1
  obtain ⟨cur, e2, _⟩ := DataW.trod_int Try.underlying3 h2
  obtain ⟨prev, e3, _⟩ := DataW.trod_int Try.underlying3 h3
  obtain ⟨slot, e4, _⟩ := DataW.trod_int Try.underlying3 h4
  obtain ⟨nn, e5, _⟩ := DataW.trod_int Try.underlying3 h5
  obtain ⟨K, aK, cK, e6, rK⟩ := open_krow h6 hz'
  obtain ⟨dn, e7, _⟩ := DataW.trod_bool Try.underlying4 h7
  obtain ⟨ee, e8, _⟩ := DataW.trod_int Try.underlying27 h8
  simp at ec e1 e2 e3 e4 e5 e7 e8
  obtain ⟨rfl, rfl, rfl, rfl, rfl, rfl⟩ := ec
  subst e1 e2 e3 e4 e5 e6 e7 e8
  exact ⟨⟨c, pl, cur, prev, slot, nn, K, dn, ee⟩, aK, cK, rfl, rK⟩


end Go.Proofs.Ytdbilofhcadmoab.mm

/- A frame that is handed in: its keys lie in what is there. A step's frame, and boxes beside a change. -/
namespace Go.Proofs.Ytdbilofhcadmoab.mm
open Go.ChangeShapes Go.WideShapes Go.ChangeAt Go.RowKit Go.Joins Go.Deep
set_option maxRecDepth 100000
set_option linter.unusedVariables false

/- The frame with a Look in it. -/
def lookFr (f : Fr) : Fr := { f with c := { f.c with kind := 1 } }

theorem frame_low {w : World} {r : Reach} {b0 : Nat} {v0 v1 v2 v3 v4 v5 v6 v7 v8 v9 v10 v12 v13 : Value} {aK : Option Addr} {n c : Nat} (hv : Value.okWide Try.prog w r b0 51 (.agg #[v0, v1, v2, v3, v4, v5, v6, v7, v8, v9, v10, .slice aK n c, v12, v13])) : ∀ ad, aK = some ad → ad.block < w.heap.size := by
  rintro ad rfl
  unfold Value.okWide at hv
  rw [Try.underlying51] at hv
  obtain ⟨cs, e, -, ts, hts, -, hall⟩ := hv
  injection e with e
  subst e
  have h11 : (Try.prog.cellTypes Try.prog.depth 51).map (fun ts => ts[11 % ts.length]?) = some (some 49) := by kernel_rfl
  rw [hts] at h11
  have h12 : ts[11 % ts.length]? = some 49 := by simpa using h11
  obtain ⟨u, hu, hc⟩ := hall 11 _ rfl
  rw [h12] at hu
  injection hu with hu
  subst hu
  unfold Cell.okWide at hc
  rw [Try.underlying49] at hc
  have hc' : Cell.ok Try.prog w r b0 49 (.slice (some ad) n c) := hc
  unfold Cell.ok at hc'
  rw [Try.underlying49] at hc'
  obtain ⟨_, _, _, _, row, cells, hs, _⟩ := hc'
  unfold World.shape? at hs
  by_cases h : ad.block < w.heap.size
  · exact h
  · rw [Array.getElem?_eq_none (by omega)] at hs
    simp at hs

theorem Env.fine {w0 w w' : World} {L : List (Nat × Obj)} {Z : Nat → Prop} (E : Env w0 w L []) (hf : Fine w w' Z) (hz : ∀ k, Z k → w0.heap.size ≤ k) (hL : ∀ p ∈ L, ¬ Z p.1) : Env w0 w' L [] :=
  ⟨E.bl.trans (hf.down E.bl.size hz), fun p hp => (hf.block p.1 (by
    have := E.box p hp
    exact (Array.getElem?_eq_some_iff.1 this).1) (hL p hp)).trans (E.box p hp), fun p hp => by cases hp⟩

theorem Mine.foot {w : World} {B lo n : Nat} {aS aH aF aL : Option Addr} {cS cH cF cL : Nat} {M : Mm} (m : Mine w B lo aS aH aF aL cS cH cF cL M) (h1 : n ≤ B) (h2 : n ≤ lo) : ∀ k, Foot B aS aH aF aL k → n ≤ k := by
  rintro k (rfl | ⟨ad, rfl, rfl⟩ | ⟨ad, rfl, rfl⟩ | ⟨ad, rfl, rfl⟩ | ⟨ad, rfl, rfl⟩)
  · exact h1
  · exact Nat.le_trans h2 (m.c.s.lt _ rfl).1
  · exact Nat.le_trans h2 (m.c.h.lt _ rfl).1
  · exact Nat.le_trans h2 (m.c.f.lt _ rfl).1
  · exact Nat.le_trans h2 (m.c.l.lt _ rfl).1

end Go.Proofs.Ytdbilofhcadmoab.mm

/- The contracts of Same and of the document's own SameMem. -/
namespace Go.Proofs.Ytdbilofhcadmoab.mm
open Go.ChangeShapes Go.WideShapes Go.ChangeAt Go.RowKit Go.Joins
set_option linter.unusedVariables false

def eqM (A B : Mm) : Bool := eqS A.slots B.slots && (eqI A.heads B.heads && (eqI A.free B.free && (eqI A.locks B.locks && A.now == B.now)))
theorem eqM_iff (A B : Mm) : eqM A B = true ↔ A = B := by
  obtain ⟨S, H, F, L, n⟩ := A
  obtain ⟨S', H', F', L', n'⟩ := B
  simp only [eqM, Bool.and_eq_true, eqS_iff, eqI_iff, beq_iff_eq, Mm.mk.injEq]

set_option maxHeartbeats 3200000 in
theorem same_any (A B : Mm) (v1 v2 : Value) (w : World) (lo1 lo2 : Nat) (H1 : Ans lo1 w v1 A) (H2 : Ans lo2 w v2 B) :
    Calls Try.prog 46 #[v1, v2] w fun e w' => e = .returned (.bool (eqM A B)) ∧ Below w.heap.size w w' := by
  obtain ⟨aS1, aH1, aF1, aL1, cS1, cH1, cF1, cL1, rfl, A1, -⟩ := H1
  obtain ⟨aS2, aH2, aF2, aL2, cS2, cH2, cF2, cL2, rfl, A2, -⟩ := H2
  generalize hR : eqM A B = R
  have HR : Hid _ := hR
  clear hR
  have b0 : Below w.heap.size w ((w.alloc (.cells #[.slice aS1 A.slots.length cS1, .slice aH1 A.heads.length cH1, .slice aF1 A.free.length cF1, .slice aL1 A.locks.length cL1, .int .i64 A.now] 25)).alloc (.cells #[.slice aS2 B.slots.length cS2, .slice aH2 B.heads.length cH2, .slice aF2 B.free.length cF2, .slice aL2 B.locks.length cL2, .int .i64 B.now] 25)) := below_alloc2 w _ _
  have HA0 : Hid _ := A1.below b0
  have HB0 : Hid _ := A2.below b0
  have HX0 : Hid (((w.alloc (.cells #[.slice aS1 A.slots.length cS1, .slice aH1 A.heads.length cH1, .slice aF1 A.free.length cF1, .slice aL1 A.locks.length cL1, .int .i64 A.now] 25)).alloc (.cells #[.slice aS2 B.slots.length cS2, .slice aH2 B.heads.length cH2, .slice aF2 B.free.length cF2, .slice aL2 B.locks.length cL2, .int .i64 B.now] 25)).heap[w.heap.size]? = some (.cells #[.slice aS1 A.slots.length cS1, .slice aH1 A.heads.length cH1, .slice aF1 A.free.length cF1, .slice aL1 A.locks.length cL1, .int .i64 A.now] 25 (0, 0))) := by show _ = _; rw [Below.heap_alloc _ _ _ (by simp), heap_alloc_new]
  have HY0 : Hid (((w.alloc (.cells #[.slice aS1 A.slots.length cS1, .slice aH1 A.heads.length cH1, .slice aF1 A.free.length cF1, .slice aL1 A.locks.length cL1, .int .i64 A.now] 25)).alloc (.cells #[.slice aS2 B.slots.length cS2, .slice aH2 B.heads.length cH2, .slice aF2 B.free.length cF2, .slice aL2 B.locks.length cL2, .int .i64 B.now] 25)).heap[w.heap.size + 1]? = some (.cells #[.slice aS2 B.slots.length cS2, .slice aH2 B.heads.length cH2, .slice aF2 B.free.length cF2, .slice aL2 B.locks.length cL2, .int .i64 B.now] 25 (0, 0))) := by
    have := heap_alloc_new (w.alloc (.cells #[.slice aS1 A.slots.length cS1, .slice aH1 A.heads.length cH1, .slice aF1 A.free.length cF1, .slice aL1 A.locks.length cL1, .int .i64 A.now] 25)) (.cells #[.slice aS2 B.slots.length cS2, .slice aH2 B.heads.length cH2, .slice aF2 B.free.length cF2, .slice aL2 B.locks.length cL2, .int .i64 B.now] 25)
    rwa [show (w.alloc (.cells #[.slice aS1 A.slots.length cS1, .slice aH1 A.heads.length cH1, .slice aF1 A.free.length cF1, .slice aL1 A.locks.length cL1, .int .i64 A.now] 25)).heap.size = w.heap.size + 1 by simp] at this
  clear A1 A2
  go_enter Try.func46, Try.ntmps46
  go_wp2_with fail
  generalize (w.alloc (.cells #[.slice aS1 A.slots.length cS1, .slice aH1 A.heads.length cH1, .slice aF1 A.free.length cF1, .slice aL1 A.locks.length cL1, .int .i64 A.now] 25)).alloc (.cells #[.slice aS2 B.slots.length cS2, .slice aH2 B.heads.length cH2, .slice aF2 B.free.length cF2, .slice aL2 B.locks.length cL2, .int .i64 B.now] 25) = W0 at *
  refine (equalS_any aS1 aS2 cS1 cS2 A.slots B.slots _ HA0.out.s HB0.out.s).mono ?_
  rintro e w1 ⟨rfl, hb1⟩
  have b1 := b0.trans (hb1.mono b0.size)
  have HX1 : Hid _ := (hb1.block w.heap.size (lt_of_block HX0.out)).trans HX0.out
  have HY1 : Hid _ := (hb1.block (w.heap.size + 1) (lt_of_block HY0.out)).trans HY0.out
  have HA1 : Hid _ := HA0.out.below hb1
  have HB1 : Hid _ := HB0.out.below hb1
  clear hb1 b0 HX0 HY0 HA0 HB0
  obtain ⟨q0, q1, q2, q3, q4, -, -, -, -, -, -⟩ := boxf HX1.out
  obtain ⟨r0, r1, r2, r3, r4, -, -, -, -, -, -⟩ := boxf HY1.out
  cases h0 : eqS A.slots B.slots
  · have HV : Hid (R = false) := HR.out.symm.trans (by simp [eqM, h0])
    go_wp2
    go_ret
    exact ⟨ret_bool HV.out.symm, b1⟩
  have Hh0 : Hid _ := h0
  clear h0
  go_wp2_with fail
  refine (equalI_any aH1 aH2 cH1 cH2 A.heads B.heads _ HA1.out.h HB1.out.h).mono ?_
  rintro e w2 ⟨rfl, hb2⟩
  have b2 := b1.trans (hb2.mono b1.size)
  have HX2 : Hid _ := (hb2.block w.heap.size (lt_of_block HX1.out)).trans HX1.out
  have HY2 : Hid _ := (hb2.block (w.heap.size + 1) (lt_of_block HY1.out)).trans HY1.out
  have HA2 : Hid _ := HA1.out.below hb2
  have HB2 : Hid _ := HB1.out.below hb2
  clear hb2 b1 HX1 HY1 HA1 HB1
  clear q0 q1 q2 q3 q4 r0 r1 r2 r3 r4
  obtain ⟨q0, q1, q2, q3, q4, -, -, -, -, -, -⟩ := boxf HX2.out
  obtain ⟨r0, r1, r2, r3, r4, -, -, -, -, -, -⟩ := boxf HY2.out
  cases h1 : eqI A.heads B.heads
  · have HV : Hid (R = false) := HR.out.symm.trans (by simp [eqM, Hh0.out, h1])
    go_wp2
    go_ret
    exact ⟨ret_bool HV.out.symm, b2⟩
  have Hh1 : Hid _ := h1
  clear h1
  go_wp2_with fail
  refine (equalI_any aF1 aF2 cF1 cF2 A.free B.free _ HA2.out.f HB2.out.f).mono ?_
  rintro e w3 ⟨rfl, hb3⟩
  have b3 := b2.trans (hb3.mono b2.size)
  have HX3 : Hid _ := (hb3.block w.heap.size (lt_of_block HX2.out)).trans HX2.out
  have HY3 : Hid _ := (hb3.block (w.heap.size + 1) (lt_of_block HY2.out)).trans HY2.out
  have HA3 : Hid _ := HA2.out.below hb3
  have HB3 : Hid _ := HB2.out.below hb3
  clear hb3 b2 HX2 HY2 HA2 HB2
  clear q0 q1 q2 q3 q4 r0 r1 r2 r3 r4
  obtain ⟨q0, q1, q2, q3, q4, -, -, -, -, -, -⟩ := boxf HX3.out
  obtain ⟨r0, r1, r2, r3, r4, -, -, -, -, -, -⟩ := boxf HY3.out
  cases h2 : eqI A.free B.free
  · have HV : Hid (R = false) := HR.out.symm.trans (by simp [eqM, Hh0.out, Hh1.out, h2])
    go_wp2
    go_ret
    exact ⟨ret_bool HV.out.symm, b3⟩
  have Hh2 : Hid _ := h2
  clear h2
  go_wp2_with fail
  refine (equalI_any aL1 aL2 cL1 cL2 A.locks B.locks _ HA3.out.l HB3.out.l).mono ?_
  rintro e w4 ⟨rfl, hb4⟩
  have b4 := b3.trans (hb4.mono b3.size)
  have HX4 : Hid _ := (hb4.block w.heap.size (lt_of_block HX3.out)).trans HX3.out
  have HY4 : Hid _ := (hb4.block (w.heap.size + 1) (lt_of_block HY3.out)).trans HY3.out
  have HA4 : Hid _ := HA3.out.below hb4
  have HB4 : Hid _ := HB3.out.below hb4
  clear hb4 b3 HX3 HY3 HA3 HB3
  clear q0 q1 q2 q3 q4 r0 r1 r2 r3 r4
  obtain ⟨q0, q1, q2, q3, q4, -, -, -, -, -, -⟩ := boxf HX4.out
  obtain ⟨r0, r1, r2, r3, r4, -, -, -, -, -, -⟩ := boxf HY4.out
  cases h3 : eqI A.locks B.locks
  · have HV : Hid (R = false) := HR.out.symm.trans (by simp [eqM, Hh0.out, Hh1.out, Hh2.out, h3])
    go_wp2
    go_ret
    exact ⟨ret_bool HV.out.symm, b4⟩
  have Hh3 : Hid _ := h3
  clear h3
  have HV : Hid (R = (A.now == B.now)) := HR.out.symm.trans (by simp [eqM, Hh0.out, Hh1.out, Hh2.out, Hh3.out])
  go_wp2
  go_ret
  exact ⟨ret_bool HV.out.symm, b4⟩

set_option maxHeartbeats 3200000 in
theorem rsame_any (A B : Mm) (v1 v2 : Value) (w : World) (lo1 lo2 : Nat) (H1 : Ans lo1 w v1 A) (H2 : Ans lo2 w v2 B) :
    Calls Try.prog 38 #[v1, v2] w fun e w' => e = .returned (.bool (eqM A B)) ∧ Below w.heap.size w w' := by
  obtain ⟨aS1, aH1, aF1, aL1, cS1, cH1, cF1, cL1, rfl, A1, -⟩ := H1
  obtain ⟨aS2, aH2, aF2, aL2, cS2, cH2, cF2, cL2, rfl, A2, -⟩ := H2
  generalize hR : eqM A B = R
  have HR : Hid _ := hR
  clear hR
  have b0 : Below w.heap.size w ((w.alloc (.cells #[.slice aS1 A.slots.length cS1, .slice aH1 A.heads.length cH1, .slice aF1 A.free.length cF1, .slice aL1 A.locks.length cL1, .int .i64 A.now] 25)).alloc (.cells #[.slice aS2 B.slots.length cS2, .slice aH2 B.heads.length cH2, .slice aF2 B.free.length cF2, .slice aL2 B.locks.length cL2, .int .i64 B.now] 25)) := below_alloc2 w _ _
  have HA0 : Hid _ := A1.below b0
  have HB0 : Hid _ := A2.below b0
  have HX0 : Hid (((w.alloc (.cells #[.slice aS1 A.slots.length cS1, .slice aH1 A.heads.length cH1, .slice aF1 A.free.length cF1, .slice aL1 A.locks.length cL1, .int .i64 A.now] 25)).alloc (.cells #[.slice aS2 B.slots.length cS2, .slice aH2 B.heads.length cH2, .slice aF2 B.free.length cF2, .slice aL2 B.locks.length cL2, .int .i64 B.now] 25)).heap[w.heap.size]? = some (.cells #[.slice aS1 A.slots.length cS1, .slice aH1 A.heads.length cH1, .slice aF1 A.free.length cF1, .slice aL1 A.locks.length cL1, .int .i64 A.now] 25 (0, 0))) := by show _ = _; rw [Below.heap_alloc _ _ _ (by simp), heap_alloc_new]
  have HY0 : Hid (((w.alloc (.cells #[.slice aS1 A.slots.length cS1, .slice aH1 A.heads.length cH1, .slice aF1 A.free.length cF1, .slice aL1 A.locks.length cL1, .int .i64 A.now] 25)).alloc (.cells #[.slice aS2 B.slots.length cS2, .slice aH2 B.heads.length cH2, .slice aF2 B.free.length cF2, .slice aL2 B.locks.length cL2, .int .i64 B.now] 25)).heap[w.heap.size + 1]? = some (.cells #[.slice aS2 B.slots.length cS2, .slice aH2 B.heads.length cH2, .slice aF2 B.free.length cF2, .slice aL2 B.locks.length cL2, .int .i64 B.now] 25 (0, 0))) := by
    have := heap_alloc_new (w.alloc (.cells #[.slice aS1 A.slots.length cS1, .slice aH1 A.heads.length cH1, .slice aF1 A.free.length cF1, .slice aL1 A.locks.length cL1, .int .i64 A.now] 25)) (.cells #[.slice aS2 B.slots.length cS2, .slice aH2 B.heads.length cH2, .slice aF2 B.free.length cF2, .slice aL2 B.locks.length cL2, .int .i64 B.now] 25)
    rwa [show (w.alloc (.cells #[.slice aS1 A.slots.length cS1, .slice aH1 A.heads.length cH1, .slice aF1 A.free.length cF1, .slice aL1 A.locks.length cL1, .int .i64 A.now] 25)).heap.size = w.heap.size + 1 by simp] at this
  clear A1 A2
  go_enter Try.func38, Try.ntmps38
  go_wp2_with fail
  generalize (w.alloc (.cells #[.slice aS1 A.slots.length cS1, .slice aH1 A.heads.length cH1, .slice aF1 A.free.length cF1, .slice aL1 A.locks.length cL1, .int .i64 A.now] 25)).alloc (.cells #[.slice aS2 B.slots.length cS2, .slice aH2 B.heads.length cH2, .slice aF2 B.free.length cF2, .slice aL2 B.locks.length cL2, .int .i64 B.now] 25) = W0 at *
  refine (equalS_any aS1 aS2 cS1 cS2 A.slots B.slots _ HA0.out.s HB0.out.s).mono ?_
  rintro e w1 ⟨rfl, hb1⟩
  have b1 := b0.trans (hb1.mono b0.size)
  have HX1 : Hid _ := (hb1.block w.heap.size (lt_of_block HX0.out)).trans HX0.out
  have HY1 : Hid _ := (hb1.block (w.heap.size + 1) (lt_of_block HY0.out)).trans HY0.out
  have HA1 : Hid _ := HA0.out.below hb1
  have HB1 : Hid _ := HB0.out.below hb1
  clear hb1 b0 HX0 HY0 HA0 HB0
  obtain ⟨q0, q1, q2, q3, q4, -, -, -, -, -, -⟩ := boxf HX1.out
  obtain ⟨r0, r1, r2, r3, r4, -, -, -, -, -, -⟩ := boxf HY1.out
  cases h0 : eqS A.slots B.slots
  · have HV : Hid (R = false) := HR.out.symm.trans (by simp [eqM, h0])
    go_wp2
    go_ret
    exact ⟨ret_bool HV.out.symm, b1⟩
  have Hh0 : Hid _ := h0
  clear h0
  go_wp2_with fail
  refine (equalI_any aH1 aH2 cH1 cH2 A.heads B.heads _ HA1.out.h HB1.out.h).mono ?_
  rintro e w2 ⟨rfl, hb2⟩
  have b2 := b1.trans (hb2.mono b1.size)
  have HX2 : Hid _ := (hb2.block w.heap.size (lt_of_block HX1.out)).trans HX1.out
  have HY2 : Hid _ := (hb2.block (w.heap.size + 1) (lt_of_block HY1.out)).trans HY1.out
  have HA2 : Hid _ := HA1.out.below hb2
  have HB2 : Hid _ := HB1.out.below hb2
  clear hb2 b1 HX1 HY1 HA1 HB1
  clear q0 q1 q2 q3 q4 r0 r1 r2 r3 r4
  obtain ⟨q0, q1, q2, q3, q4, -, -, -, -, -, -⟩ := boxf HX2.out
  obtain ⟨r0, r1, r2, r3, r4, -, -, -, -, -, -⟩ := boxf HY2.out
  cases h1 : eqI A.heads B.heads
  · have HV : Hid (R = false) := HR.out.symm.trans (by simp [eqM, Hh0.out, h1])
    go_wp2
    go_ret
    exact ⟨ret_bool HV.out.symm, b2⟩
  have Hh1 : Hid _ := h1
  clear h1
  go_wp2_with fail
  refine (equalI_any aF1 aF2 cF1 cF2 A.free B.free _ HA2.out.f HB2.out.f).mono ?_
  rintro e w3 ⟨rfl, hb3⟩
  have b3 := b2.trans (hb3.mono b2.size)
  have HX3 : Hid _ := (hb3.block w.heap.size (lt_of_block HX2.out)).trans HX2.out
  have HY3 : Hid _ := (hb3.block (w.heap.size + 1) (lt_of_block HY2.out)).trans HY2.out
  have HA3 : Hid _ := HA2.out.below hb3
  have HB3 : Hid _ := HB2.out.below hb3
  clear hb3 b2 HX2 HY2 HA2 HB2
  clear q0 q1 q2 q3 q4 r0 r1 r2 r3 r4
  obtain ⟨q0, q1, q2, q3, q4, -, -, -, -, -, -⟩ := boxf HX3.out
  obtain ⟨r0, r1, r2, r3, r4, -, -, -, -, -, -⟩ := boxf HY3.out
  cases h2 : eqI A.free B.free
  · have HV : Hid (R = false) := HR.out.symm.trans (by simp [eqM, Hh0.out, Hh1.out, h2])
    go_wp2
    go_ret
    exact ⟨ret_bool HV.out.symm, b3⟩
  have Hh2 : Hid _ := h2
  clear h2
  go_wp2_with fail
  refine (equalI_any aL1 aL2 cL1 cL2 A.locks B.locks _ HA3.out.l HB3.out.l).mono ?_
  rintro e w4 ⟨rfl, hb4⟩
  have b4 := b3.trans (hb4.mono b3.size)
  have HX4 : Hid _ := (hb4.block w.heap.size (lt_of_block HX3.out)).trans HX3.out
  have HY4 : Hid _ := (hb4.block (w.heap.size + 1) (lt_of_block HY3.out)).trans HY3.out
  have HA4 : Hid _ := HA3.out.below hb4
  have HB4 : Hid _ := HB3.out.below hb4
  clear hb4 b3 HX3 HY3 HA3 HB3
  clear q0 q1 q2 q3 q4 r0 r1 r2 r3 r4
  obtain ⟨q0, q1, q2, q3, q4, -, -, -, -, -, -⟩ := boxf HX4.out
  obtain ⟨r0, r1, r2, r3, r4, -, -, -, -, -, -⟩ := boxf HY4.out
  cases h3 : eqI A.locks B.locks
  · have HV : Hid (R = false) := HR.out.symm.trans (by simp [eqM, Hh0.out, Hh1.out, Hh2.out, h3])
    go_wp2
    go_ret
    exact ⟨ret_bool HV.out.symm, b4⟩
  have Hh3 : Hid _ := h3
  clear h3
  have HV : Hid (R = (A.now == B.now)) := HR.out.symm.trans (by simp [eqM, Hh0.out, Hh1.out, Hh2.out, Hh3.out])
  go_wp2
  go_ret
  exact ⟨ret_bool HV.out.symm, b4⟩




end Go.Proofs.Ytdbilofhcadmoab.mm
