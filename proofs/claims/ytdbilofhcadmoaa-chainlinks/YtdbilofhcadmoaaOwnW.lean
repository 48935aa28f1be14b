/- The contract of the document's own OwnMem: its walk. -/
import Derived.Test.YtdbilofhcadmoaaOwnM
namespace Go.Proofs.Ytdbilofhcadmoaa.mm
open Go.ChangeShapes Go.WideShapes Go.ChangeAt Go.RowKit Go.Joins Go.Maps
set_option maxRecDepth 100000
set_option linter.unusedVariables false

theorem wpOp_val {P : Program} {ops : Array Oper} {Q : Exit → Act → World → Prop} {i : Nat} {o : Oper} {a : Act} {w w' : World} {v : Value} {K : Act → World → Prop} (hi : ops[i]? = some o) (hg : o.guard = none)
    (hr : (execOp a.eval o).run P w = .ok (.value v) w') (h : K (a.put o.dst v) w') : wpOp P ops Q i K a w := by
  refine wpOp_step hi fun K' hK => ?_
  have hw : Region.wanted o (yielded ops a.tmps) = true := by unfold Region.wanted; rw [hg]
  rw [if_pos hw]
  unfold Oper.wp
  rw [hr]
  exact hK _ _ h

theorem wpOp_skip {P : Program} {ops : Array Oper} {Q : Exit → Act → World → Prop} {i : Nat} {o : Oper} {a : Act} {w w' : World} {K : Act → World → Prop} (hi : ops[i]? = some o) (hg : o.guard = none)
    (hr : (execOp a.eval o).run P w = .ok .skip w') (h : K (a.put o.dst undef) w') : wpOp P ops Q i K a w := by
  refine wpOp_step hi fun K' hK => ?_
  have hw : Region.wanted o (yielded ops a.tmps) = true := by unfold Region.wanted; rw [hg]
  rw [if_pos hw]
  unfold Oper.wp
  rw [hr]
  exact hK _ _ h

theorem Fx.start {w0 W : World} {M : Mm} {aS aH aF aL : Option Addr} {cS cH cF cL : Nat} {x : Nat → Value} (hB : W.heap[w0.heap.size]? = some (.cells #[.slice aS M.slots.length cS, .slice aH M.heads.length cH, .slice aF M.free.length cF, .slice aL M.locks.length cL, .int .i64 M.now] 29 (0, 0)))
    (hR : W.heap[w0.heap.size + 1]? = some (.cells #[.slice none 0 0, .slice none 0 0, .slice none 0 0, .slice none 0 0, .int .i64 0] 29 (0, 0))) (hb : Below w0.heap.size w0 W) : Fx w0 M aS aH aF aL cS cH cF cL (fun _ => false) x W :=
  ⟨hB, fun _ => hR, (fun h => by cases h), hb, (fun h => by cases h), (fun h => by cases h), (fun h => by cases h), (fun h => by cases h), (fun h => by cases h), (fun h => by cases h), (fun h => by cases h), (fun h => by cases h), (fun h => by cases h), (fun h => by cases h), (fun h => by cases h), (fun h => by cases h), (fun h => by cases h), (fun h => by cases h), (fun h => by cases h), (fun h => by cases h), (fun h => by cases h), (fun h => by cases h), (fun h => by cases h), (fun h => by cases h), (fun h => by cases h), (fun h => by cases h), (fun h => by cases h), (fun h => by cases h), (fun h => by cases h), (fun h => by cases h), (fun h => by cases h), (fun h => by cases h)⟩

theorem getD_ft {l : Array Bool} {i : Nat} (h : l.getD i true = false) : l.getD i false = false := by
  by_cases hi : i < l.size
  · simpa [Array.getD_eq_getD_getElem?, hi] using h
  · simp [Array.getD_eq_getD_getElem?, hi]

theorem all_listed {md : Region.Mode} {ops : Array Oper} {listed : Array Bool} (hr : Region.ready md ops listed = []) (hs : listed.size = ops.size)
    (he : ((List.range ops.size).all fun i => ((ops[i]?).map fun o => o.after.all fun e => decide (e.on < i)).getD true) = true) : ∀ n i, i < n → i < ops.size → listed.getD i false = true
  | 0, i, h, _ => by omega
  | n + 1, i, h, hi => by
    cases hl : listed.getD i false with
    | true => rfl
    | false =>
      exfalso
      have hlt : listed.getD i true = false := by
        simpa [Array.getD_eq_getD_getElem?, hs, hi] using hl
      have hm : i ∈ Region.ready md ops listed := by
        unfold Region.ready
        rw [List.mem_filter]
        refine ⟨by simpa using hi, ?_⟩
        rw [hlt]
        have h1 := List.all_eq_true.1 he i (by simpa using hi)
        have ho : ops[i]? = some ops[i] := Array.getElem?_eq_getElem hi
        rw [ho] at h1 ⊢
        simp only [Option.map_some, Option.getD_some] at h1 ⊢
        simp only [Bool.not_false, Bool.true_and]
        rw [Array.all_eq_true'] at h1 ⊢
        intro e hm
        have h2 := h1 e hm
        have h3 : e.on < i := by simpa using h2
        rw [all_listed hr hs he n e.on (by omega) (by omega)]
        simp
      rw [hr] at hm
      cases hm

def actO (x : Nat → Value) : Act := ⟨#[x 0, x 1, x 2, x 3, x 4, x 5, x 6, x 7, x 8, x 9, x 10, x 11, x 12, x 13, x 14, x 15, x 16, x 17, x 18, x 19, x 20, x 21], []⟩

structure Jo (w0 : World) (M : Mm) (aS aH aF aL : Option Addr) (cS cH cF cL : Nat) (listed : Array Bool) (x : Nat → Value) (W : World) : Prop where
  n : listed.size = 20
  x1 : x 1 = .pointer (some ⟨w0.heap.size, 0, none⟩)
  x2 : x 2 = .pointer (some ⟨w0.heap.size + 1, 0, none⟩)
  f : Fx w0 M aS aH aF aL cS cH cF cL (fun i => listed.getD i false) x W

theorem Jo.next {w0 : World} {M : Mm} {aS aH aF aL : Option Addr} {cS cH cF cL : Nat} {listed : Array Bool} {x x' : Nat → Value} {W W' : World} (J : Jo w0 M aS aH aF aL cS cH cF cL listed x W) (i : Nat) (hi : i < 20) (h1 : x' 1 = x 1) (h2 : x' 2 = x 2)
    (F : Fx w0 M aS aH aF aL cS cH cF cL (upd (fun k => listed.getD k false) i) x' W') : Jo w0 M aS aH aF aL cS cH cF cL (listed.setIfInBounds i true) x' W' := by
  refine ⟨by simpa using J.n, h1.trans J.x1, h2.trans J.x2, ?_⟩
  have e : (fun k => (listed.setIfInBounds i true).getD k false) = upd (fun k => listed.getD k false) i := by
    funext k
    have := J.n
    by_cases hk : k = i
    · subst hk
      simp [upd, Array.getD_eq_getD_getElem?, J.n, hi]
    · have hk' : ¬ i = k := fun e => hk e.symm
      simp [upd, hk, Array.getD_eq_getD_getElem?, hk']
  rw [e]
  exact F

theorem app_some {W : World} (x : Nat → Value) (base : Nat) (t e : TypeId) (i : TypeInfo) (z : Value) (size bytes : Nat) (ht : Try.prog.underlying t = some (.slice e)) (hi : Try.prog.info? e = some i) (hz : i.zero = some z)
    (hsize : i.size = size) (hby : i.bytes = bytes) (hzs : z.cells.size = size) (hsz : 0 < size) (s y : Nat) (o : Oper) (ho : o.op = .call { callee := .builtin .append, args := #[.tmp s, .tmp y], argTypes := #[t, t] })
    (v : Value) (hs : (actO x).eval (.tmp s) = v) (hown : W.ownsRow base e size v 0 [])
    (ao : Option Addr) (m c : Nat) (news : List Value) (hx : (actO x).eval (.tmp y) = .slice ao m c) (hl : news.length = m * size) (hn : ao = none → m = 0 ∧ c = 0) (hnews : ∀ ad, ao = some ad → ∀ j u, news[j]? = some u → W.cell? (ad.add j) = some u) (h1 : ∀ u ∈ news, u.oneCell' = true)
    (h63 : m ≤ maxLen) (hbytes : m * bytes ≤ 140737488355328) (hbase : base ≤ W.heap.size) :
    ∃ v' W', (execOp (actO x).eval o).run Try.prog W = .ok (.value v') W' ∧ W'.ownsRow base e size v' m news ∧ W.grownBy W' v.ownBlock ∧ (v'.ownBlock = v.ownBlock ∨ v'.ownBlock = some W.heap.size) := by
  cases ao with
  | some ad =>
    obtain ⟨v', w', hr, h2, h3, h4, h5⟩ := run_append_own_at (P := Try.prog) W base t o.type e i z size bytes ht hi hz hsize hby hzs hsz v 0 [] hown ad m c news hl (hnews ad rfl) h1 (by omega) (by rw [Nat.zero_add]; exact hbytes) hbase
    rw [Nat.zero_add, List.nil_append] at h2
    refine ⟨v', w', ?_, h2, h3, h5⟩
    unfold execOp
    simp only [ho, resolve, invoke, builtin, Sem.run_bind, Sem.run_pure, Result.andThen_ok, List.map_toArray, List.map_cons, List.map_nil, hs, hx, hr]
  | none =>
    obtain ⟨rfl, rfl⟩ := hn rfl
    have hnil : news = [] := List.eq_nil_of_length_eq_zero (by rw [hl, Nat.zero_mul])
    subst hnil
    have hr := run_append_owned_none (P := Try.prog) W base t o.type e i size ht hi v 0 [] hown
    refine ⟨v, W, ?_, hown, ⟨rfl, rfl, rfl, Nat.le_refl _, fun _ _ _ => rfl⟩, .inl rfl⟩
    unfold execOp
    simp only [ho, resolve, invoke, builtin, Sem.run_bind, Sem.run_pure, Result.andThen_ok, List.map_toArray, List.map_cons, List.map_nil, hs, hx, hr]

theorem own_len {w : World} {lo size n : Nat} {e : TypeId} {v : Value} {xs : List Value} (h : w.ownsRow lo e size v n xs) : ∃ a c, v = .slice a n c := own_shape h

set_option maxHeartbeats 3200000 in
theorem ownMem_any (M : Mm) (aS aH aF aL : Option Addr) (cS cH cF cL : Nat) (w : World) (A : At w aS aH aF aL cS cH cF cL M) :
    Calls Try.prog 20 #[.agg #[.slice aS M.slots.length cS, .slice aH M.heads.length cH, .slice aF M.free.length cF, .slice aL M.locks.length cL, .int .i64 M.now]] w fun e w' => ∃ gS gH gF gL kS kH kF kL,
      e = .returned (.agg #[.slice gS M.slots.length kS, .slice gH M.heads.length kH, .slice gF M.free.length kF, .slice gL M.locks.length kL, .int .i64 M.now]) ∧
      Rw w' w.heap.size gS gH gF gL kS kH kF kL M ∧ Below w.heap.size w w' := by
  obtain ⟨iI0, hiI, hzI0, hzI1, hzI2⟩ := info_parts iI
  obtain ⟨iS0, hiS, hzS0, hzS1, hzS2⟩ := info_parts iS
  have m1 := A.s.max; have m2 := A.h.max; have m3 := A.f.max; have m4 := A.l.max
  have HA : Hid (At w aS aH aF aL cS cH cF cL M) := A
  clear A
  have b0 : Below w.heap.size w ((w.alloc (.cells #[.slice aS M.slots.length cS, .slice aH M.heads.length cH, .slice aF M.free.length cF, .slice aL M.locks.length cL, .int .i64 M.now] 29)).alloc (.cells #[.slice none 0 0, .slice none 0 0, .slice none 0 0, .slice none 0 0, .int .i64 0] 29)) := below_alloc2 w _ _
  have HB0 : Hid (((w.alloc (.cells #[.slice aS M.slots.length cS, .slice aH M.heads.length cH, .slice aF M.free.length cF, .slice aL M.locks.length cL, .int .i64 M.now] 29)).alloc (.cells #[.slice none 0 0, .slice none 0 0, .slice none 0 0, .slice none 0 0, .int .i64 0] 29)).heap[w.heap.size]? = some (.cells #[.slice aS M.slots.length cS, .slice aH M.heads.length cH, .slice aF M.free.length cF, .slice aL M.locks.length cL, .int .i64 M.now] 29 (0, 0))) := by
    show _ = _
    rw [Below.heap_alloc _ _ _ (by simp), heap_alloc_new]
  have HR0 : Hid (((w.alloc (.cells #[.slice aS M.slots.length cS, .slice aH M.heads.length cH, .slice aF M.free.length cF, .slice aL M.locks.length cL, .int .i64 M.now] 29)).alloc (.cells #[.slice none 0 0, .slice none 0 0, .slice none 0 0, .slice none 0 0, .int .i64 0] 29)).heap[w.heap.size + 1]? = some (.cells #[.slice none 0 0, .slice none 0 0, .slice none 0 0, .slice none 0 0, .int .i64 0] 29 (0, 0))) := by
    have := heap_alloc_new (w.alloc (.cells #[.slice aS M.slots.length cS, .slice aH M.heads.length cH, .slice aF M.free.length cF, .slice aL M.locks.length cL, .int .i64 M.now] 29)) (.cells #[.slice none 0 0, .slice none 0 0, .slice none 0 0, .slice none 0 0, .int .i64 0] 29)
    rwa [show (w.alloc (.cells #[.slice aS M.slots.length cS, .slice aH M.heads.length cH, .slice aF M.free.length cF, .slice aL M.locks.length cL, .int .i64 M.now] 29)).heap.size = w.heap.size + 1 by simp] at this
  go_enter Try.func20, Try.ntmps20
  go_wp2_with fail
  rename_i K0 hK0
  refine wp_region_inv (by kernel_rfl) (fun listed a W => ∃ x, a = actO x ∧ Jo w M aS aH aF aL cS cH cF cL listed x W) ?_ ?_ ?_
  · refine ⟨fun k => match k with | 0 => .agg #[.slice aS M.slots.length cS, .slice aH M.heads.length cH, .slice aF M.free.length cF, .slice aL M.locks.length cL, .int .i64 M.now] | 1 => .pointer (some ⟨w.heap.size, 0, none⟩) | 2 => .pointer (some ⟨w.heap.size + 1, 0, none⟩) | _ => undef, rfl, by simp, rfl, rfl, ?_⟩
    have e : (fun i => (Array.replicate 20 false).getD i false) = fun _ => false := by
      funext i
      by_cases h : i < 20 <;> simp [Array.getD_eq_getD_getElem?, h]
    show Fx w M aS aH aF aL cS cH cF cL (fun i => (Array.replicate 20 false).getD i false) _ _
    rw [e]
    exact Fx.start HB0.out HR0.out b0.drew
  · rintro listed a W i hi ⟨x, rfl, hJ⟩
    obtain ⟨hi1, hi2, o, ho, hpre⟩ := ready_spec hi
    clear hi
    have hi1' : i < 20 := hi1
    clear hi1
    have hA := HA.out.below hJ.f.below
    obtain ⟨q0, q1, q2, q3, q4, -, -, -, -, -, qs⟩ := boxf hJ.f.box
    have hx1 := hJ.x1
    have hlo : w.heap.size + 2 ≤ W.heap.size := hJ.f.lt
    obtain rfl | rfl | rfl | rfl | rfl | rfl | rfl | rfl | rfl | rfl | rfl | rfl | rfl | rfl | rfl | rfl | rfl | rfl | rfl | rfl : i = 0 ∨ i = 1 ∨ i = 2 ∨ i = 3 ∨ i = 4 ∨ i = 5 ∨ i = 6 ∨ i = 7 ∨ i = 8 ∨ i = 9 ∨ i = 10 ∨ i = 11 ∨ i = 12 ∨ i = 13 ∨ i = 14 ∨ i = 15 ∨ i = 16 ∨ i = 17 ∨ i = 18 ∨ i = 19 := by omega
    · refine wpOp_val rfl rfl (v := .slice (some ⟨W.heap.size, 0, none⟩) 0 0) (w' := W.alloc (.cells #[] 48)) (by simp only [execOp]; simp [go_sem]) ⟨updv x 3 _, rfl, hJ.next 0 (by omega) rfl rfl (hJ.f.b0 (getD_ft hi2))⟩
    · refine wpOp_val rfl rfl (v := .pointer (some ⟨w.heap.size, 0, none⟩)) (w' := W) (by simp [execOp, go_sem, (show (actO x).tmps[1]?.getD undef = .pointer (some ⟨w.heap.size, 0, none⟩) from hx1)]) ⟨updv x 4 _, rfl, hJ.next 1 (by omega) rfl rfl hJ.f.a1⟩
    · have g1 : listed.getD 1 false = true := hpre ⟨1, .data⟩ (by simp at ho; subst ho; simp) rfl
      have hx4 := hJ.f.p1 g1
      refine wpOp_val rfl rfl (v := .slice aS M.slots.length cS) (w' := W) (by simp [execOp, go_sem, (show (actO x).tmps[4]?.getD undef = .pointer (some ⟨w.heap.size, 0, none⟩) from hx4), q0]) ⟨updv x 5 _, rfl, hJ.next 2 (by omega) rfl rfl hJ.f.a2⟩
    · have hop : o.op = .call { callee := .builtin .append, args := #[.tmp 3, .tmp 5], argTypes := #[27, 27] } := by simp at ho; subst ho; rfl
      have hdst : o.dst = some 6 := by simp at ho; subst ho; rfl
      have hgd : o.guard = none := by simp at ho; subst ho; rfl
      have g0 : listed.getD 0 false = true := hpre ⟨0, .data⟩ (by simp at ho; subst ho; simp) rfl
      have g2 : listed.getD 2 false = true := hpre ⟨2, .data⟩ (by simp at ho; subst ho; simp) rfl
      have hs := hJ.f.r0 g0 (getD_ft hi2)
      have hy := hJ.f.p2 g2
      obtain ⟨v', W', hr, h2, h3, h5⟩ := app_some (W := W) x (w.heap.size + 2) 27 48 iS0 (.agg #[.int .i64 0, .int .i64 0, .int .i64 0, .int .i64 0, .bool false, .int .i64 0]) 6 48 Try.underlying27 hiS hzS0 hzS1 hzS2 rfl (by decide) 3 5 o hop (x 3) rfl hs aS M.slots.length cS (encS M.slots) hy (encS_len _) (fun h => ⟨by have := hA.s.nil h; have := hA.s.le; omega, hA.s.nil h⟩) hA.s.src (encS_one _) (by unfold maxLen; omega) (by omega) hlo
      exact wpOp_val ho hgd hr ⟨updv x 6 v', by rw [hdst]; rfl, hJ.next 3 (by omega) rfl rfl (hJ.f.c3 g0 (getD_ft hi2) h2 h3 h5)⟩
    · refine wpOp_val rfl rfl (v := .slice (some ⟨W.heap.size, 0, none⟩) 0 0) (w' := W.alloc (.cells #[] 3)) (by simp only [execOp]; simp [go_sem]) ⟨updv x 7 _, rfl, hJ.next 4 (by omega) rfl rfl (hJ.f.b4 (getD_ft hi2))⟩
    · refine wpOp_val rfl rfl (v := .pointer (some ⟨w.heap.size, 1, none⟩)) (w' := W) (by simp [execOp, go_sem, (show (actO x).tmps[1]?.getD undef = .pointer (some ⟨w.heap.size, 0, none⟩) from hx1)]) ⟨updv x 8 _, rfl, hJ.next 5 (by omega) rfl rfl hJ.f.a5⟩
    · have g5 : listed.getD 5 false = true := hpre ⟨5, .data⟩ (by simp at ho; subst ho; simp) rfl
      have hx4 := hJ.f.p5 g5
      refine wpOp_val rfl rfl (v := .slice aH M.heads.length cH) (w' := W) (by simp [execOp, go_sem, (show (actO x).tmps[8]?.getD undef = .pointer (some ⟨w.heap.size, 1, none⟩) from hx4), q1]) ⟨updv x 9 _, rfl, hJ.next 6 (by omega) rfl rfl hJ.f.a6⟩
    · have hop : o.op = .call { callee := .builtin .append, args := #[.tmp 7, .tmp 9], argTypes := #[24, 24] } := by simp at ho; subst ho; rfl
      have hdst : o.dst = some 10 := by simp at ho; subst ho; rfl
      have hgd : o.guard = none := by simp at ho; subst ho; rfl
      have g4 : listed.getD 4 false = true := hpre ⟨4, .data⟩ (by simp at ho; subst ho; simp) rfl
      have g6 : listed.getD 6 false = true := hpre ⟨6, .data⟩ (by simp at ho; subst ho; simp) rfl
      have hs := hJ.f.r4 g4 (getD_ft hi2)
      have hy := hJ.f.p6 g6
      obtain ⟨v', W', hr, h2, h3, h5⟩ := app_some (W := W) x (w.heap.size + 2) 24 3 iI0 (.int .i64 0) 1 8 Try.underlying24 hiI hzI0 hzI1 hzI2 rfl (by decide) 7 9 o hop (x 7) rfl hs aH M.heads.length cH (encI M.heads) hy ((encI_len _).trans (Nat.mul_one _).symm) (fun h => ⟨by have := hA.h.nil h; have := hA.h.le; omega, hA.h.nil h⟩) hA.h.src (encI_one _) (by unfold maxLen; omega) (by omega) hlo
      exact wpOp_val ho hgd hr ⟨updv x 10 v', by rw [hdst]; rfl, hJ.next 7 (by omega) rfl rfl (hJ.f.c7 g4 (getD_ft hi2) h2 h3 h5)⟩
    · refine wpOp_val rfl rfl (v := .slice (some ⟨W.heap.size, 0, none⟩) 0 0) (w' := W.alloc (.cells #[] 3)) (by simp only [execOp]; simp [go_sem]) ⟨updv x 11 _, rfl, hJ.next 8 (by omega) rfl rfl (hJ.f.b8 (getD_ft hi2))⟩
    · refine wpOp_val rfl rfl (v := .pointer (some ⟨w.heap.size, 2, none⟩)) (w' := W) (by simp [execOp, go_sem, (show (actO x).tmps[1]?.getD undef = .pointer (some ⟨w.heap.size, 0, none⟩) from hx1)]) ⟨updv x 12 _, rfl, hJ.next 9 (by omega) rfl rfl hJ.f.a9⟩
    · have g9 : listed.getD 9 false = true := hpre ⟨9, .data⟩ (by simp at ho; subst ho; simp) rfl
      have hx4 := hJ.f.p9 g9
      refine wpOp_val rfl rfl (v := .slice aF M.free.length cF) (w' := W) (by simp [execOp, go_sem, (show (actO x).tmps[12]?.getD undef = .pointer (some ⟨w.heap.size, 2, none⟩) from hx4), q2]) ⟨updv x 13 _, rfl, hJ.next 10 (by omega) rfl rfl hJ.f.a10⟩
    · have hop : o.op = .call { callee := .builtin .append, args := #[.tmp 11, .tmp 13], argTypes := #[24, 24] } := by simp at ho; subst ho; rfl
      have hdst : o.dst = some 14 := by simp at ho; subst ho; rfl
      have hgd : o.guard = none := by simp at ho; subst ho; rfl
      have g8 : listed.getD 8 false = true := hpre ⟨8, .data⟩ (by simp at ho; subst ho; simp) rfl
      have g10 : listed.getD 10 false = true := hpre ⟨10, .data⟩ (by simp at ho; subst ho; simp) rfl
      have hs := hJ.f.r8 g8 (getD_ft hi2)
      have hy := hJ.f.p10 g10
      obtain ⟨v', W', hr, h2, h3, h5⟩ := app_some (W := W) x (w.heap.size + 2) 24 3 iI0 (.int .i64 0) 1 8 Try.underlying24 hiI hzI0 hzI1 hzI2 rfl (by decide) 11 13 o hop (x 11) rfl hs aF M.free.length cF (encI M.free) hy ((encI_len _).trans (Nat.mul_one _).symm) (fun h => ⟨by have := hA.f.nil h; have := hA.f.le; omega, hA.f.nil h⟩) hA.f.src (encI_one _) (by unfold maxLen; omega) (by omega) hlo
      exact wpOp_val ho hgd hr ⟨updv x 14 v', by rw [hdst]; rfl, hJ.next 11 (by omega) rfl rfl (hJ.f.c11 g8 (getD_ft hi2) h2 h3 h5)⟩
    · refine wpOp_val rfl rfl (v := .slice (some ⟨W.heap.size, 0, none⟩) 0 0) (w' := W.alloc (.cells #[] 3)) (by simp only [execOp]; simp [go_sem]) ⟨updv x 15 _, rfl, hJ.next 12 (by omega) rfl rfl (hJ.f.b12 (getD_ft hi2))⟩
    · refine wpOp_val rfl rfl (v := .pointer (some ⟨w.heap.size, 3, none⟩)) (w' := W) (by simp [execOp, go_sem, (show (actO x).tmps[1]?.getD undef = .pointer (some ⟨w.heap.size, 0, none⟩) from hx1)]) ⟨updv x 16 _, rfl, hJ.next 13 (by omega) rfl rfl hJ.f.a13⟩
    · have g13 : listed.getD 13 false = true := hpre ⟨13, .data⟩ (by simp at ho; subst ho; simp) rfl
      have hx4 := hJ.f.p13 g13
      refine wpOp_val rfl rfl (v := .slice aL M.locks.length cL) (w' := W) (by simp [execOp, go_sem, (show (actO x).tmps[16]?.getD undef = .pointer (some ⟨w.heap.size, 3, none⟩) from hx4), q3]) ⟨updv x 17 _, rfl, hJ.next 14 (by omega) rfl rfl hJ.f.a14⟩
    · have hop : o.op = .call { callee := .builtin .append, args := #[.tmp 15, .tmp 17], argTypes := #[24, 24] } := by simp at ho; subst ho; rfl
      have hdst : o.dst = some 18 := by simp at ho; subst ho; rfl
      have hgd : o.guard = none := by simp at ho; subst ho; rfl
      have g12 : listed.getD 12 false = true := hpre ⟨12, .data⟩ (by simp at ho; subst ho; simp) rfl
      have g14 : listed.getD 14 false = true := hpre ⟨14, .data⟩ (by simp at ho; subst ho; simp) rfl
      have hs := hJ.f.r12 g12 (getD_ft hi2)
      have hy := hJ.f.p14 g14
      obtain ⟨v', W', hr, h2, h3, h5⟩ := app_some (W := W) x (w.heap.size + 2) 24 3 iI0 (.int .i64 0) 1 8 Try.underlying24 hiI hzI0 hzI1 hzI2 rfl (by decide) 15 17 o hop (x 15) rfl hs aL M.locks.length cL (encI M.locks) hy ((encI_len _).trans (Nat.mul_one _).symm) (fun h => ⟨by have := hA.l.nil h; have := hA.l.le; omega, hA.l.nil h⟩) hA.l.src (encI_one _) (by unfold maxLen; omega) (by omega) hlo
      exact wpOp_val ho hgd hr ⟨updv x 18 v', by rw [hdst]; rfl, hJ.next 15 (by omega) rfl rfl (hJ.f.c15 g12 (getD_ft hi2) h2 h3 h5)⟩
    · refine wpOp_val rfl rfl (v := .pointer (some ⟨w.heap.size, 4, none⟩)) (w' := W) (by simp [execOp, go_sem, (show (actO x).tmps[1]?.getD undef = .pointer (some ⟨w.heap.size, 0, none⟩) from hx1)]) ⟨updv x 19 _, rfl, hJ.next 16 (by omega) rfl rfl hJ.f.a16⟩
    · have g16 : listed.getD 16 false = true := hpre ⟨16, .data⟩ (by simp at ho; subst ho; simp) rfl
      have hx4 := hJ.f.p16 g16
      refine wpOp_val rfl rfl (v := .int .i64 M.now) (w' := W) (by simp [execOp, go_sem, (show (actO x).tmps[19]?.getD undef = .pointer (some ⟨w.heap.size, 4, none⟩) from hx4), q4]) ⟨updv x 20 _, rfl, hJ.next 17 (by omega) rfl rfl hJ.f.a17⟩
    · have g3 : listed.getD 3 false = true := hpre ⟨3, .data⟩ (by simp at ho; subst ho; simp) rfl
      have g7 : listed.getD 7 false = true := hpre ⟨7, .data⟩ (by simp at ho; subst ho; simp) rfl
      have g11 : listed.getD 11 false = true := hpre ⟨11, .data⟩ (by simp at ho; subst ho; simp) rfl
      have g15 : listed.getD 15 false = true := hpre ⟨15, .data⟩ (by simp at ho; subst ho; simp) rfl
      have g17 : listed.getD 17 false = true := hpre ⟨17, .data⟩ (by simp at ho; subst ho; simp) rfl
      have h20 := hJ.f.p17 g17
      obtain ⟨_, _, e6⟩ := own_shape (hJ.f.r3 g3)
      obtain ⟨_, _, e10⟩ := own_shape (hJ.f.r7 g7)
      obtain ⟨_, _, e14⟩ := own_shape (hJ.f.r11 g11)
      obtain ⟨_, _, e18⟩ := own_shape (hJ.f.r15 g15)
      refine wpOp_val rfl rfl (v := .agg #[x 6, x 10, x 14, x 18, .int .i64 M.now]) (w' := W) (by rw [e6, e10, e14, e18]; simp [execOp, go_sem, (show (actO x).tmps[20]?.getD undef = .int .i64 M.now from h20), (show (actO x).tmps[6]?.getD undef = _ from e6), (show (actO x).tmps[10]?.getD undef = _ from e10), (show (actO x).tmps[14]?.getD undef = _ from e14), (show (actO x).tmps[18]?.getD undef = _ from e18)]) ⟨updv x 21 _, rfl, hJ.next 18 (by omega) rfl rfl (hJ.f.a18 g3 g7 g11 g15)⟩
    · have g18 : listed.getD 18 false = true := hpre ⟨18, .data⟩ (by simp at ho; subst ho; simp) rfl
      have h21 := hJ.f.b18 g18
      have hx2 := hJ.x2
      obtain ⟨g3, g7, g11, g15⟩ := hJ.f.e18 g18
      obtain ⟨_, _, e6⟩ := own_shape (hJ.f.r3 g3)
      obtain ⟨_, _, e10⟩ := own_shape (hJ.f.r7 g7)
      obtain ⟨_, _, e14⟩ := own_shape (hJ.f.r11 g11)
      obtain ⟨_, _, e18⟩ := own_shape (hJ.f.r15 g15)
      obtain ⟨r0, r1, r2, r3, r4, z0, z1, z2, z3, z4, zs⟩ := boxf (hJ.f.zb (getD_ft hi2))
      refine wpOp_skip rfl rfl (w' := set5 W (w.heap.size + 1) (x 6) (x 10) (x 14) (x 18) (.int .i64 M.now)) (by
        rw [e6, e10, e14, e18] at h21 ⊢
        simp [execOp, go_sem, (show (actO x).tmps[2]?.getD undef = _ from hx2), (show (actO x).tmps[21]?.getD undef = _ from h21), r0, r1, r2, r3, r4, z0, z1, z2, z3, z4]
        rfl) ⟨x, rfl, hJ.next 19 (by omega) rfl rfl (hJ.f.s19 g18 (getD_ft hi2))⟩
  · rintro listed a W hr ⟨x, rfl, hJ⟩
    have hall := all_listed hr hJ.n (by kernel_rfl) 20
    have g3 : listed.getD 3 false = true := hall 3 (by omega) (by show 3 < 20; omega)
    have g7 : listed.getD 7 false = true := hall 7 (by omega) (by show 7 < 20; omega)
    have g11 : listed.getD 11 false = true := hall 11 (by omega) (by show 11 < 20; omega)
    have g15 : listed.getD 15 false = true := hall 15 (by omega) (by show 15 < 20; omega)
    have g19 : listed.getD 19 false = true := hall 19 (by omega) (by show 19 < 20; omega)
    have g4 := hJ.f.e7 g7
    have g8 := hJ.f.e11 g11
    have g12 := hJ.f.e15 g15
    clear hr hall
    have o3 := hJ.f.r3 g3
    have o7 := hJ.f.r7 g7
    have o11 := hJ.f.r11 g11
    have o15 := hJ.f.r15 g15
    have d12 : Dj (x 10) (x 14) := by have := hJ.f.d12 g4 g8; rwa [if_pos g7, if_pos g11] at this
    have d13 : Dj (x 10) (x 18) := by have := hJ.f.d13 g4 g12; rwa [if_pos g7, if_pos g15] at this
    have d23 : Dj (x 14) (x 18) := by have := hJ.f.d23 g8 g12; rwa [if_pos g11, if_pos g15] at this
    have fb := hJ.f.fb g19
    have lt := hJ.f.lt
    have bl := hJ.f.below
    obtain ⟨gS, kS, e6⟩ := own_shape o3
    obtain ⟨gH, kH, e10⟩ := own_shape o7
    obtain ⟨gF, kF, e14⟩ := own_shape o11
    obtain ⟨gL, kL, e18⟩ := own_shape o15
    rw [e6] at o3 fb
    rw [e10] at o7 d12 d13 fb
    rw [e14] at o11 d12 d23 fb
    rw [e18] at o15 d13 d23 fb
    have HF : Hid (Rw W w.heap.size gS gH gF gL kS kH kF kL M) := ⟨ownsRow_le o3 (by omega), ownsRow_le o7 (by omega), ownsRow_le o11 (by omega), ownsRow_le o15 (by omega), d12, d13, d23, by omega⟩
    obtain ⟨r0, r1, r2, r3, r4, g0, g1, g2, g3, g4, rs⟩ := boxf fb
    have hx2 := hJ.x2
    clear o3 o7 o11 o15 d12 d13 d23 fb
    refine hK0 _ _ ?_
    go_wp2
    refine bodyPost_ret (v := .agg #[.slice gS M.slots.length kS, .slice gH M.heads.length kH, .slice gF M.free.length kF, .slice gL M.locks.length kL, .int .i64 M.now]) (by simp [results, Try.results20, go_sem, actO, hx2, r0, r1, r2, r3, r4]) rfl ⟨_, _, _, _, _, _, _, _, rfl, HF.out, bl⟩


end Go.Proofs.Ytdbilofhcadmoaa.mm
