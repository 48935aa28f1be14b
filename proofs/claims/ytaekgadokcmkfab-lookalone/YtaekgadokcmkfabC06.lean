/- The contracts of slices.Equal over ints and over slots, and of Same. -/
import Derived.Test.YtaekgadokcmkfabC02
import Derived.Deep.QuietTactic
import Derived.BigQuiet
import Derived.Laws.StructEq
import Derived.Maps.AppendAt
namespace Go.Proofs.Ytaekgadokcmkfab.mm
open Go.ChangeShapes Go.WideShapes Go.ChangeAt Go.RowKit Go.Joins Go.Deep
set_option linter.unusedVariables false

def eqI (l1 l2 : List Int) : Bool := decide (l1 = l2)
def eqS (l1 l2 : List Sl) : Bool := l1.length == l2.length && (l1.zip l2).all fun p => slEq p.1 p.2

theorem eqI_len {l1 l2 : List Int} (h : l1.length ≠ l2.length) : eqI l1 l2 = false := by
  simp only [eqI, decide_eq_false_iff_not]
  rintro rfl
  exact h rfl
theorem eqI_ne {l1 l2 : List Int} {k : Nat} (h1 : k < l1.length) (h2 : k < l2.length) (h : l1[k] ≠ l2[k]) : eqI l1 l2 = false := by
  simp only [eqI, decide_eq_false_iff_not]
  rintro rfl
  exact h rfl
theorem eqI_all {l1 l2 : List Int} (hl : l1.length = l2.length) (h : ∀ j, j < l1.length → l1[j]? = l2[j]?) : eqI l1 l2 = true := by
  simp only [eqI, decide_eq_true_eq]
  apply List.ext_getElem?
  intro j
  by_cases hj : j < l1.length
  · exact h j hj
  · rw [List.getElem?_eq_none (by omega), List.getElem?_eq_none (by omega)]
theorem eqI_iff (l1 l2 : List Int) : eqI l1 l2 = true ↔ l1 = l2 := by simp [eqI]
theorem eqS_iff (l1 l2 : List Sl) : eqS l1 l2 = true ↔ l1 = l2 := by
  induction l1 generalizing l2 with
  | nil => cases l2 <;> simp [eqS]
  | cons x l1 ih =>
    cases l2 with
    | nil => simp [eqS]
    | cons y l2 =>
      have := ih l2
      simp only [eqS, Bool.and_eq_true, beq_iff_eq] at this
      simp only [eqS, List.length_cons, List.zip_cons_cons, List.all_cons, Bool.and_eq_true, beq_iff_eq, slEq_iff, List.cons.injEq, ← this]
      constructor
      · rintro ⟨h1, h2, h3⟩; exact ⟨h2, by omega, h3⟩
      · rintro ⟨h1, h2, h3⟩; exact ⟨by omega, h1, h3⟩
theorem eqS_false {l1 l2 : List Sl} (h : l1 ≠ l2) : eqS l1 l2 = false := by
  rw [Bool.eq_false_iff]
  intro hh
  exact h ((eqS_iff _ _).1 hh)

theorem drewN_below (w : World) (q : Nat) : Below w.heap.size w (w.drewN q) := ⟨rfl, rfl, rfl, Nat.le_refl _, fun _ _ => rfl⟩

theorem ret_bool {a b : Bool} (h : a = b) : Ending.returned (.bool a) = .returned (.bool b) := by rw [h]

set_option maxHeartbeats 1600000 in
theorem equalI_any (a1 a2 : Option Addr) (c1 c2 : Nat) (l1 l2 : List Int) (w : World) (r1 : IRow w a1 c1 l1) (r2 : IRow w a2 c2 l2) :
    Calls Try.prog 16 #[.slice a1 l1.length c1, .slice a2 l2.length c2] w fun e w' => e = .returned (.bool (eqI l1 l2)) ∧ Below w.heap.size w w' := by
  have m1 := r1.max; have m2 := r2.max
  have n1 : l1.length ≤ 9223372036854775807 := by omega
  have n2 : l2.length ≤ 9223372036854775807 := by omega
  by_cases hl : l1.length = l2.length
  rotate_left
  · have HV : Hid (eqI l1 l2 = false) := eqI_len hl
    have hb : ((l1.length : Int) != (l2.length : Int)) = true := by rw [bne_iff_ne]; omega
    go_enter Try.func16, Try.ntmps16
    go_wp2
    go_ret
    exact ⟨ret_bool HV.out.symm, Below.refl _ _⟩
  · have HL : Hid (l1.length = l2.length) := hl
    have hb : ((l1.length : Int) != (l2.length : Int)) = false := by rw [hl]; simp
    clear hl
    have HZ1 : Hid _ := r1.at_
    have HZ2 : Hid _ := r2.at_
    clear r1 r2
    go_enter Try.func16, Try.ntmps16
    go_wp2
    go_loopw [13] (fun i wr => ∃ k q : Nat, k ≤ l1.length ∧ i = .int .i64 k ∧ wr = w.drewN q ∧ Hid (∀ j, j < k → l1[j]? = l2[j]?)) (fun i _ => l1.length - (intOf i).toNat)
    case atStart => exact ⟨0, 0, Nat.zero_le _, rfl, rfl, fun j hj => absurd hj (Nat.not_lt_zero _)⟩
    case round =>
      obtain ⟨k, q, hk, rfl, rfl, HE⟩ := hrel
      by_cases hlt : k < l1.length
      · have hlt2 : k < l2.length := by have := HL.out; omega
        rcases HZ1.out with h0 | ⟨b1, o1, rfl, hc1⟩
        · omega
        rcases HZ2.out with h0 | ⟨b2, o2, rfl, hc2⟩
        · omega
        have d1 : (w.drewN q).cell? ⟨b1, o1 + k, none⟩ = some (.int .i64 l1[k]) := hc1 k hlt
        have d2 : (w.drewN q).cell? ⟨b2, o2 + k, none⟩ = some (.int .i64 l2[k]) := hc2 k hlt2
        clear hc1 hc2
        generalize hwq : w.drewN q = wq at d1 d2 ⊢
        have HWQ : Hid _ := hwq
        clear hwq
        generalize hx : l1[k] = x at d1
        generalize hy : l2[k] = y at d2
        have HX : Hid (l1[k] = x ∧ l2[k] = y) := ⟨hx, hy⟩
        clear hx hy
        by_cases hxy : x = y
        · subst hxy
          have HV : Hid (∀ j, j < k + 1 → l1[j]? = l2[j]?) := fun j hj => by
            by_cases e : j = k
            · subst e
              rw [List.getElem?_eq_getElem hlt, List.getElem?_eq_getElem hlt2, HX.out.1, HX.out.2]
            · exact HE.out j (by omega)
          go_wp2_with fail
          go_quiet (fail)
          go_wp2
          go_roundw
          case rel => exact ⟨k + 1, q + nq, by omega, by go_num, by rw [← HWQ.out, World.drewN_drewN], HV⟩
          case measure => simp [intOf]; omega
        · have HV : Hid (eqI l1 l2 = false) := eqI_ne hlt hlt2 (by rw [HX.out.1, HX.out.2]; exact hxy)
          have hn : (x != y) = true := by simpa using hxy
          go_wp2_with fail
          go_quiet (fail)
          go_wp2
          go_ret
          exact ⟨ret_bool HV.out.symm, by rw [← HWQ.out, World.drewN_drewN]; exact drewN_below _ _⟩
      · have HV : Hid (eqI l1 l2 = true) := eqI_all HL.out (fun j hj => HE.out j (by omega))
        go_wp2
        go_ret
        exact ⟨ret_bool HV.out.symm, drewN_below _ _⟩

theorem kequal9 (a b c d : Int) (w : World) : (Op.equalIn 9999 37 (.agg #[.int .i64 a, .int .i64 b]) (.agg #[.int .i64 c, .int .i64 d])).run Try.prog w = .ok (a == c && b == d) w := by
  have u3 := Try.underlying3
  have a3 := Try.isAgg3
  have z3 := Try.sizeOf3
  have hS : Try.prog.underlying 37 = some (.struct (Try.prog.fieldsOf 37)) := by kernel_rfl
  have hp : Try.prog.stoodInHeld 37 = false := by kernel_rfl
  rw [show (9999 : Nat) = 9998 + 1 from rfl, run_equalIn_agg w 9998 37 _ _ hS hp]
  simp only [Program.fieldsOf, Try.underlying37]
  go_simp
  by_cases h1 : a = c <;> by_cases h2 : b = d <;> simp [h1, h2]

theorem sequal (x y : Sl) (w : World) : (Op.equalIn 10000 39 (.agg #[.int .i64 x.refs, .int .i64 x.a, .int .i64 x.b, .int .i64 x.unt, .bool x.inn, .int .i64 x.next]) (.agg #[.int .i64 y.refs, .int .i64 y.a, .int .i64 y.b, .int .i64 y.unt, .bool y.inn, .int .i64 y.next])).run Try.prog w = .ok (slEq x y) w := by
  have u3 := Try.underlying3
  have a3 := Try.isAgg3
  have z3 := Try.sizeOf3
  have u4 := Try.underlying4
  have a4 := Try.isAgg4
  have z4 := Try.sizeOf4
  have a37 := Try.isAgg37
  have z37 := Try.sizeOf37
  have k9 := kequal9
  have hS : Try.prog.underlying 39 = some (.struct (Try.prog.fieldsOf 39)) := by kernel_rfl
  have hp : Try.prog.stoodInHeld 39 = false := by kernel_rfl
  rw [show (10000 : Nat) = 9999 + 1 from rfl, run_equalIn_agg w 9999 39 _ _ hS hp]
  simp only [Program.fieldsOf, Try.underlying39]
  clear hS
  go_simp
  unfold slEq
  by_cases h1 : x.refs = y.refs <;> by_cases h2 : x.a = y.a <;> by_cases h3 : x.b = y.b <;> by_cases h4 : x.unt = y.unt <;> by_cases h5 : x.inn = y.inn <;> by_cases h6 : x.next = y.next <;> simp [h1, h2, h3, h4, h5, h6]

theorem eqS_ne {l1 l2 : List Sl} {k : Nat} (h1 : k < l1.length) (h2 : k < l2.length) (h : l1[k] ≠ l2[k]) : eqS l1 l2 = false :=
  eqS_false (by rintro rfl; exact h rfl)
theorem eqS_all {l1 l2 : List Sl} (hl : l1.length = l2.length) (h : ∀ j, j < l1.length → l1[j]? = l2[j]?) : eqS l1 l2 = true := by
  rw [eqS_iff]
  apply List.ext_getElem?
  intro j
  by_cases hj : j < l1.length
  · exact h j hj
  · rw [List.getElem?_eq_none (by omega), List.getElem?_eq_none (by omega)]

set_option maxHeartbeats 3200000 in
theorem equalS_any (a1 a2 : Option Addr) (c1 c2 : Nat) (l1 l2 : List Sl) (w : World) (r1 : SRow w a1 c1 l1) (r2 : SRow w a2 c2 l2) :
    Calls Try.prog 79 #[.slice a1 l1.length c1, .slice a2 l2.length c2] w fun e w' => e = .returned (.bool (eqS l1 l2)) ∧ Below w.heap.size w w' := by
  have m1 := r1.max; have m2 := r2.max
  have n1 : l1.length ≤ 9223372036854775807 := by omega
  have n2 : l2.length ≤ 9223372036854775807 := by omega
  by_cases hl : l1.length = l2.length
  rotate_left
  · have HV : Hid (eqS l1 l2 = false) := eqS_false (by rintro rfl; exact hl rfl)
    have hb : ((l1.length : Int) != (l2.length : Int)) = true := by rw [bne_iff_ne]; omega
    go_enter Try.func79, Try.ntmps79
    go_wp2
    go_ret
    exact ⟨ret_bool HV.out.symm, Below.refl _ _⟩
  · have HL : Hid (l1.length = l2.length) := hl
    have hb : ((l1.length : Int) != (l2.length : Int)) = false := by rw [hl]; simp
    clear hl
    have HZ1 : Hid _ := r1.at_
    have HZ2 : Hid _ := r2.at_
    clear r1 r2
    go_enter Try.func79, Try.ntmps79
    go_wp2
    go_loopw [13] (fun i wr => ∃ k q : Nat, k ≤ l1.length ∧ i = .int .i64 k ∧ wr = w.drewN q ∧ Hid (∀ j, j < k → l1[j]? = l2[j]?)) (fun i _ => l1.length - (intOf i).toNat)
    case atStart => exact ⟨0, 0, Nat.zero_le _, rfl, rfl, fun j hj => absurd hj (Nat.not_lt_zero _)⟩
    case round =>
      obtain ⟨k, q, hk, rfl, rfl, HE⟩ := hrel
      by_cases hlt : k < l1.length
      · have hlt2 : k < l2.length := by have := HL.out; omega
        rcases HZ1.out with h0 | ⟨b1, o1, rfl, hc1⟩
        · omega
        rcases HZ2.out with h0 | ⟨b2, o2, rfl, hc2⟩
        · omega
        obtain ⟨x0, x1, x2, x3, x4, x5⟩ := hc1 k hlt
        obtain ⟨y0, y1, y2, y3, y4, y5⟩ := hc2 k hlt2
        rw [← World.cell?_drewN (n := q)] at x0 x1 x2 x3 x4 x5 y0 y1 y2 y3 y4 y5
        clear hc1 hc2
        generalize hwq : w.drewN q = wq at x0 x1 x2 x3 x4 x5 y0 y1 y2 y3 y4 y5 ⊢
        have HWQ : Hid _ := hwq
        clear hwq
        generalize hx : l1[k] = x at x0 x1 x2 x3 x4 x5
        generalize hy : l2[k] = y at y0 y1 y2 y3 y4 y5
        have HX : Hid (l1[k] = x ∧ l2[k] = y) := ⟨hx, hy⟩
        clear hx hy
        have se := sequal x y
        cases hxy : slEq x y
        · have HV : Hid (eqS l1 l2 = false) := eqS_ne hlt hlt2 (by rw [HX.out.1, HX.out.2]; intro e; rw [e, slEq_refl] at hxy; cases hxy)
          go_wp2_with fail
          go_quiet (fail)
          go_wp2
          go_ret
          exact ⟨ret_bool HV.out.symm, by rw [← HWQ.out, World.drewN_drewN]; exact drewN_below _ _⟩
        · have HV : Hid (∀ j, j < k + 1 → l1[j]? = l2[j]?) := fun j hj => by
            by_cases e : j = k
            · subst e
              rw [List.getElem?_eq_getElem hlt, List.getElem?_eq_getElem hlt2, HX.out.1, HX.out.2, (slEq_iff x y).1 hxy]
            · exact HE.out j (by omega)
          go_wp2_with fail
          go_quiet (fail)
          go_wp2
          go_roundw
          case rel => exact ⟨k + 1, q + nq, by omega, by go_num, by rw [← HWQ.out, World.drewN_drewN], HV⟩
          case measure => simp [intOf]; omega
      · have HV : Hid (eqS l1 l2 = true) := eqS_all HL.out (fun j hj => HE.out j (by omega))
        go_wp2
        go_ret
        exact ⟨ret_bool HV.out.symm, drewN_below _ _⟩


end Go.Proofs.Ytaekgadokcmkfab.mm

/- Memory that grows: four lists in a box of one's own, each appended to. -/
namespace Go.Proofs.Ytaekgadokcmkfab.mm
open Go.ChangeShapes Go.WideShapes Go.ChangeAt Go.RowKit Go.Joins
set_option linter.unusedVariables false

structure Gr (w0 : World) (lo B : Nat) (w : World) (sv hv fv lv : Value) (S : List Sl) (H F L : List Int) : Prop where
  box : w.heap[B]? = some (.cells #[sv, hv, fv, lv, .int .i64 0] 25 (0, 0))
  s : w.ownsRow lo 39 6 sv S.length (encS S)
  h : w.ownsRow lo 3 1 hv H.length (encI H)
  f : w.ownsRow lo 3 1 fv F.length (encI F)
  l : w.ownsRow lo 3 1 lv L.length (encI L)
  hf : Dj hv fv
  hl : Dj hv lv
  fl : Dj fv lv
  at_ : lo ≤ B
  below : Below lo w0 w

/- One row is appended to, by way of a block that holds what is appended. -/
theorem row_kept {w w1 : World} {ob : Obj} {lo size n : Nat} {e : TypeId} {v u : Value} {xs : List Value} (h : w.ownsRow lo e size v n xs) (hg : (w.alloc ob).grownBy w1 u.ownBlock) (hd : Dj v u) {B j : Nat} {x : Value} (hne : v.ownBlock ≠ some B) : (w1.setCell ⟨B, j, none⟩ x).ownsRow lo e size v n xs :=
  ownsRow_setCell_other ((h.alloc ob).kept hg hd.ne) hne x

theorem box_kept {w w1 : World} {ob : Obj} {B : Nat} {u : Value} {o : Obj} (hB : w.heap[B]? = some o) (hg : (w.alloc ob).grownBy w1 u.ownBlock) (hne : u.ownBlock ≠ some B) : w1.heap[B]? = some o := by
  have := lt_of_block hB
  rw [hg.block B (by simp; omega) (fun e => hne e.symm), Below.heap_alloc _ _ _ this, hB]

theorem low_kept {w0 w w1 : World} {ob : Obj} {lo B j : Nat} {u x : Value} (hb : Below lo w0 w) (hg : (w.alloc ob).grownBy w1 u.ownBlock) (hu : ∀ k, u.ownBlock = some k → lo ≤ k) (hl : lo ≤ w.heap.size) (hB : lo ≤ B) : Below lo w0 (w1.setCell ⟨B, j, none⟩ x) :=
  ((hb.alloc hl ob).grown hg (by simp; omega) hu).setCell hB x

theorem set1_own {w : World} {lo size n B j : Nat} {e : TypeId} {v x : Value} {xs : List Value} (h : w.ownsRow lo e size v n xs) (hne : v.ownBlock ≠ some B) : (w.setCell ⟨B, j, none⟩ x).ownsRow lo e size v n xs :=
  ownsRow_setCell_other h hne x

theorem Gr.s_step {w0 w w1 : World} {lo B : Nat} {sv hv fv lv v' : Value} {S : List Sl} {H F L : List Int} {ob : Obj} {x : Sl} (G : Gr w0 lo B w sv hv fv lv S H F L)
    (ho : w1.ownsRow lo 39 6 v' (S.length + 1) (encS S ++ x.enc)) (hg : (w.alloc ob).grownBy w1 sv.ownBlock) (hloc : v'.ownBlock = sv.ownBlock ∨ v'.ownBlock = some (w.alloc ob).heap.size) :
    Gr w0 lo B (w1.setCell ⟨B, 0, none⟩ v') v' hv fv lv (S ++ [x]) H F L := by
  have hB := box_kept G.box hg (own_ne G.s G.box (by decide))
  have hne : v'.ownBlock ≠ some B := own_ne ho hB (by decide)
  have hlt : ∀ {u : Value} {n size : Nat} {e : TypeId} {xs : List Value}, w.ownsRow lo e size u n xs → ∀ g, u.ownBlock = some g → g < (w.alloc ob).heap.size := fun h g hg => by have := (h.lt g hg).2; simp; omega
  have hz : lo ≤ w.heap.size := by have := lt_of_block G.box; have := G.at_; omega
  refine ⟨?_, ?_, ?_, ?_, ?_, ?_, ?_, ?_, G.at_, low_kept G.below hg (fun k hk => (G.s.lt k hk).1) hz G.at_⟩
  · have := block_setCell (i := 0) hB v'
    simpa using this
  · have := set1_own (j := 0) (x := v') ho hne
    rwa [show encS S ++ x.enc = encS (S ++ [x]) by simp [encS], show S.length + 1 = (S ++ [x]).length by simp] at this
  · exact row_kept G.h hg (own_dj G.h G.s (by decide)) (own_ne G.h G.box (by decide))
  · exact row_kept G.f hg (own_dj G.f G.s (by decide)) (own_ne G.f G.box (by decide))
  · exact row_kept G.l hg (own_dj G.l G.s (by decide)) (own_ne G.l G.box (by decide))
  · exact G.hf
  · exact G.hl
  · exact G.fl

theorem Gr.h_step {w0 w w1 : World} {lo B : Nat} {sv hv fv lv v' : Value} {S : List Sl} {H F L : List Int} {ob : Obj} {x : Int} (G : Gr w0 lo B w sv hv fv lv S H F L)
    (ho : w1.ownsRow lo 3 1 v' (H.length + 1) (encI H ++ [.int .i64 x])) (hg : (w.alloc ob).grownBy w1 hv.ownBlock) (hloc : v'.ownBlock = hv.ownBlock ∨ v'.ownBlock = some (w.alloc ob).heap.size) :
    Gr w0 lo B (w1.setCell ⟨B, 1, none⟩ v') sv v' fv lv S (H ++ [x]) F L := by
  have hB := box_kept G.box hg (own_ne G.h G.box (by decide))
  have hne : v'.ownBlock ≠ some B := own_ne ho hB (by decide)
  have hlt : ∀ {u : Value} {n size : Nat} {e : TypeId} {xs : List Value}, w.ownsRow lo e size u n xs → ∀ g, u.ownBlock = some g → g < (w.alloc ob).heap.size := fun h g hg => by have := (h.lt g hg).2; simp; omega
  have hz : lo ≤ w.heap.size := by have := lt_of_block G.box; have := G.at_; omega
  refine ⟨?_, ?_, ?_, ?_, ?_, ?_, ?_, ?_, G.at_, low_kept G.below hg (fun k hk => (G.h.lt k hk).1) hz G.at_⟩
  · have := block_setCell (i := 1) hB v'
    simpa using this
  · exact row_kept G.s hg (own_dj G.s G.h (by decide)) (own_ne G.s G.box (by decide))
  · have := set1_own (j := 1) (x := v') ho hne
    rwa [show encI H ++ [.int .i64 x] = encI (H ++ [x]) by simp [encI], show H.length + 1 = (H ++ [x]).length by simp] at this
  · exact row_kept G.f hg ((G.hf).symm) (own_ne G.f G.box (by decide))
  · exact row_kept G.l hg ((G.hl).symm) (own_ne G.l G.box (by decide))
  · exact (Dj.grown (w := w.alloc ob) ((G.hf).symm) (hlt G.f) hloc).symm
  · exact (Dj.grown (w := w.alloc ob) ((G.hl).symm) (hlt G.l) hloc).symm
  · exact G.fl

theorem Gr.f_step {w0 w w1 : World} {lo B : Nat} {sv hv fv lv v' : Value} {S : List Sl} {H F L : List Int} {ob : Obj} {x : Int} (G : Gr w0 lo B w sv hv fv lv S H F L)
    (ho : w1.ownsRow lo 3 1 v' (F.length + 1) (encI F ++ [.int .i64 x])) (hg : (w.alloc ob).grownBy w1 fv.ownBlock) (hloc : v'.ownBlock = fv.ownBlock ∨ v'.ownBlock = some (w.alloc ob).heap.size) :
    Gr w0 lo B (w1.setCell ⟨B, 2, none⟩ v') sv hv v' lv S H (F ++ [x]) L := by
  have hB := box_kept G.box hg (own_ne G.f G.box (by decide))
  have hne : v'.ownBlock ≠ some B := own_ne ho hB (by decide)
  have hlt : ∀ {u : Value} {n size : Nat} {e : TypeId} {xs : List Value}, w.ownsRow lo e size u n xs → ∀ g, u.ownBlock = some g → g < (w.alloc ob).heap.size := fun h g hg => by have := (h.lt g hg).2; simp; omega
  have hz : lo ≤ w.heap.size := by have := lt_of_block G.box; have := G.at_; omega
  refine ⟨?_, ?_, ?_, ?_, ?_, ?_, ?_, ?_, G.at_, low_kept G.below hg (fun k hk => (G.f.lt k hk).1) hz G.at_⟩
  · have := block_setCell (i := 2) hB v'
    simpa using this
  · exact row_kept G.s hg (own_dj G.s G.f (by decide)) (own_ne G.s G.box (by decide))
  · exact row_kept G.h hg (G.hf) (own_ne G.h G.box (by decide))
  · have := set1_own (j := 2) (x := v') ho hne
    rwa [show encI F ++ [.int .i64 x] = encI (F ++ [x]) by simp [encI], show F.length + 1 = (F ++ [x]).length by simp] at this
  · exact row_kept G.l hg ((G.fl).symm) (own_ne G.l G.box (by decide))
  · exact Dj.grown (w := w.alloc ob) (G.hf) (hlt G.h) hloc
  · exact G.hl
  · exact (Dj.grown (w := w.alloc ob) ((G.fl).symm) (hlt G.l) hloc).symm

theorem Gr.l_step {w0 w w1 : World} {lo B : Nat} {sv hv fv lv v' : Value} {S : List Sl} {H F L : List Int} {ob : Obj} {x : Int} (G : Gr w0 lo B w sv hv fv lv S H F L)
    (ho : w1.ownsRow lo 3 1 v' (L.length + 1) (encI L ++ [.int .i64 x])) (hg : (w.alloc ob).grownBy w1 lv.ownBlock) (hloc : v'.ownBlock = lv.ownBlock ∨ v'.ownBlock = some (w.alloc ob).heap.size) :
    Gr w0 lo B (w1.setCell ⟨B, 3, none⟩ v') sv hv fv v' S H F (L ++ [x]) := by
  have hB := box_kept G.box hg (own_ne G.l G.box (by decide))
  have hne : v'.ownBlock ≠ some B := own_ne ho hB (by decide)
  have hlt : ∀ {u : Value} {n size : Nat} {e : TypeId} {xs : List Value}, w.ownsRow lo e size u n xs → ∀ g, u.ownBlock = some g → g < (w.alloc ob).heap.size := fun h g hg => by have := (h.lt g hg).2; simp; omega
  have hz : lo ≤ w.heap.size := by have := lt_of_block G.box; have := G.at_; omega
  refine ⟨?_, ?_, ?_, ?_, ?_, ?_, ?_, ?_, G.at_, low_kept G.below hg (fun k hk => (G.l.lt k hk).1) hz G.at_⟩
  · have := block_setCell (i := 3) hB v'
    simpa using this
  · exact row_kept G.s hg (own_dj G.s G.l (by decide)) (own_ne G.s G.box (by decide))
  · exact row_kept G.h hg (G.hl) (own_ne G.h G.box (by decide))
  · exact row_kept G.f hg (G.fl) (own_ne G.f G.box (by decide))
  · have := set1_own (j := 3) (x := v') ho hne
    rwa [show encI L ++ [.int .i64 x] = encI (L ++ [x]) by simp [encI], show L.length + 1 = (L ++ [x]).length by simp] at this
  · exact G.hf
  · exact Dj.grown (w := w.alloc ob) (G.hl) (hlt G.h) hloc
  · exact Dj.grown (w := w.alloc ob) (G.fl) (hlt G.f) hloc

/- What has grown is memory. -/
theorem Gr.ans {w0 w : World} {lo B : Nat} {sv hv fv lv : Value} {S : List Sl} {H F L : List Int} (G : Gr w0 lo B w sv hv fv lv S H F L) (h1 : S.length * 48 ≤ 140737488351232) (h2 : H.length * 8 ≤ 140737488351232) (h3 : F.length * 8 ≤ 140737488351232) (h4 : L.length * 8 ≤ 140737488351232) :
    Ans lo w (.agg #[sv, hv, fv, lv, .int .i64 0]) ⟨S, H, F, L, 0⟩ := by
  have ks := G.s.lt; have kh := G.h.lt; have kf := G.f.lt; have kl := G.l.lt
  obtain ⟨aS, cS, rfl, rs⟩ := SRow.of_own G.s h1
  obtain ⟨aH, cH, rfl, rh⟩ := IRow.of_own G.h h2
  obtain ⟨aF, cF, rfl, rf⟩ := IRow.of_own G.f h3
  obtain ⟨aL, cL, rfl, rl⟩ := IRow.of_own G.l h4
  refine ⟨aS, aH, aF, aL, cS, cH, cF, cL, rfl, ⟨rs, rh, rf, rl⟩, ⟨?_, ?_, ?_, ?_⟩⟩
  · rintro ad rfl; exact (ks _ rfl).1
  · rintro ad rfl; exact (kh _ rfl).1
  · rintro ad rfl; exact (kf _ rfl).1
  · rintro ad rfl; exact (kl _ rfl).1


end Go.Proofs.Ytaekgadokcmkfab.mm

/- The contract of New. -/
namespace Go.Proofs.Ytaekgadokcmkfab.mm
open Go.ChangeShapes Go.WideShapes Go.ChangeAt Go.RowKit Go.Joins
set_option linter.unusedVariables false

theorem new_bad (a b : Int) (w : World) (h : newE a b = 3) :
    Calls Try.prog 44 #[.int .i64 a, .int .i64 b] w fun e w' => e = .returned (.tuple #[.agg #[.slice none 0 0, .slice none 0 0, .slice none 0 0, .slice none 0 0, .int .i64 0], .int .i64 3]) ∧ Below w.heap.size w w' := by
  have hh : inB a 0 12 = false ∨ (inB a 0 12 = true ∧ inB b 1 4 = false) := by
    unfold newE at h
    cases h1 : inB a 0 12
    · exact .inl rfl
    · cases h2 : inB b 1 4
      · exact .inr ⟨rfl, rfl⟩
      · simp [h1, h2] at h
  clear h
  rcases hh with h1 | ⟨h1, h2⟩
  all_goals
    go_enter Try.func44, Try.ntmps44
    go_wp2_with (go_at_call 57; refine (within_any _ _ _ _).mono ?_; rintro e w1 ⟨rfl, rfl⟩)
    exact bodyPost_ret (v := .tuple #[.agg #[.slice none 0 0, .slice none 0 0, .slice none 0 0, .slice none 0 0, .int .i64 0], .int .i64 3]) (by simp [results, Try.results44, go_sem]) rfl ⟨rfl, one_below _ _⟩

def freeTo (n k : Nat) : List Int := (List.range k).map fun (a : Nat) => (n : Int) - 1 - (a : Int)
def headTo (k : Nat) : List Int := (List.range k).map fun (b : Nat) => -1 - (b : Int)
def lockTo (k : Nat) : List Int := List.replicate k (-1)
theorem freeTo_succ (n k : Nat) : freeTo n (k + 1) = freeTo n k ++ [(n : Int) - 1 - k] := by simp [freeTo, List.range_succ]
theorem headTo_succ (k : Nat) : headTo (k + 1) = headTo k ++ [-1 - (k : Int)] := by simp [headTo, List.range_succ]
theorem lockTo_succ (k : Nat) : lockTo (k + 1) = lockTo k ++ [-1] := by simp [lockTo, List.replicate_succ']
theorem freeTo_len (n k : Nat) : (freeTo n k).length = k := by simp [freeTo]
theorem headTo_len (k : Nat) : (headTo k).length = k := by simp [headTo]
theorem lockTo_len (k : Nat) : (lockTo k).length = k := by simp [lockTo]

theorem made_zero (n : Nat) : (madeCells #[.int .i64 0, .int .i64 0, .int .i64 0, .int .i64 0, .bool false, .int .i64 0] (n * 6)).toList = encS (List.replicate n sl0) := by
  apply List.ext_getElem?
  intro j
  by_cases hj : j < n * 6
  · have h6 : j / 6 < n := by omega
    have hq : j % 6 < 6 := by omega
    have e6 : j / 6 * 6 + j % 6 = j := by omega
    have r : (encS (List.replicate n sl0))[j]? = (sl0.enc)[j % 6]? := by
      have := encS_get (List.replicate n sl0) (j / 6) (j % 6) (by simpa using h6) hq
      rw [e6] at this
      rw [this]
      simp
    rw [r]
    have l : (madeCells #[.int .i64 0, .int .i64 0, .int .i64 0, .int .i64 0, .bool false, .int .i64 0] (n * 6)).toList[j]? = some ((#[.int .i64 0, .int .i64 0, .int .i64 0, .int .i64 0, .bool false, .int .i64 0] : Array Value)[j % 6]!) := by
      simp [madeCells, hj]
    rw [l]
    generalize j % 6 = q at hq
    match q, hq with
    | 0, _ => rfl
    | 1, _ => rfl
    | 2, _ => rfl
    | 3, _ => rfl
    | 4, _ => rfl
    | 5, _ => rfl
  · rw [List.getElem?_eq_none (by simp [madeCells]; omega), List.getElem?_eq_none (by rw [encS_len]; simp; omega)]

theorem Ans.off {lo g : Nat} {w w' : World} {v : Value} {M : Mm} (A : Ans lo w v M) (hg : g < lo) (h : ∀ k, k ≠ g → w'.heap[k]? = w.heap[k]?) : Ans lo w' v M := by
  obtain ⟨aS, aH, aF, aL, cS, cH, cF, cL, e, A, hi⟩ := A
  exact ⟨aS, aH, aF, aL, cS, cH, cF, cL, e, A.off hi hg h, hi⟩

set_option maxHeartbeats 3200000 in
theorem new_ok (n m : Nat) (w : World) (hn : n ≤ 12) (h1 : 1 ≤ m) (h4 : m ≤ 4) :
    Calls Try.prog 44 #[.int .i64 n, .int .i64 m] w fun e w' => ∃ v, e = .returned (.tuple #[v, .int .i64 0]) ∧ Ans w.heap.size w' v (newM n m) ∧ Below w.heap.size w w' := by
  obtain ⟨i0, hi, hz0, hz1, hz2⟩ := info_parts iI
  obtain ⟨j0, hj, yz0, yz1, yz2⟩ := info_parts iS
  have e1 : inB (n : Int) 0 12 = true := (inB_iff _ _ _).2 ⟨by omega, by omega⟩
  have e2 : inB (m : Int) 1 4 = true := (inB_iff _ _ _).2 ⟨by omega, by omega⟩
  go_enter Try.func44, Try.ntmps44
  go_wp2_with (first
    | (go_at_call 57; refine (within_any _ _ _ _).mono ?_; rintro e w1 ⟨rfl, rfl⟩)
    | (at_make; refine wpList_make_full _ rfl _ _ 22 rfl (w.heap.size + 1) 39 j0 (.agg #[.int .i64 0, .int .i64 0, .int .i64 0, .int .i64 0, .bool false, .int .i64 0]) 6 Try.underlying22 hj yz0 yz1 .i64 .i64 _ _ n rfl rfl rfl rfl (by rw [yz2]; omega) (by unfold maxLen; omega) (by simp) ?_; intro w1 hown hgrow))
  rw [show (w.alloc (.cells #[.slice none 0 0, .slice none 0 0, .slice none 0 0, .slice none 0 0, .int .i64 0] 25)).heap.size = w.heap.size + 1 by simp] at *
  obtain ⟨W0, hW0⟩ : ∃ W0, W0 = w.alloc (.cells #[.slice none 0 0, .slice none 0 0, .slice none 0 0, .slice none 0 0, .int .i64 0] 25) := ⟨_, rfl⟩
  have HR : Hid (W0.heap[w.heap.size]? = some (.cells #[.slice none 0 0, .slice none 0 0, .slice none 0 0, .slice none 0 0, .int .i64 0] 25)) := by rw [hW0]; exact heap_alloc_new _ _
  have HW : Hid (Below w.heap.size w W0) := by rw [hW0]; exact one_below _ _
  have HZ : Hid (W0.heap.size = w.heap.size + 1) := by show _ = _; rw [hW0]; simp
  rw [← hW0] at hgrow
  clear hW0
  have hS : w1.ownsRow (w.heap.size + 1) 39 6 (.slice (some ⟨w.heap.size + 1, 0, none⟩) n n) n (encS (List.replicate n sl0)) := by
    rw [← made_zero n]; exact hown
  have z1 : w.heap.size + 1 < w1.heap.size := (hS.lt _ rfl).2
  have G0 : Gr W0 (w.heap.size + 1) w1.heap.size (w1.alloc (.cells #[.slice (some ⟨w.heap.size + 1, 0, none⟩) n n, .slice none 0 0, .slice none 0 0, .slice none 0 0, .int .i64 0] 25)) (.slice (some ⟨w.heap.size + 1, 0, none⟩) n n) (.slice none 0 0) (.slice none 0 0) (.slice none 0 0) (List.replicate n sl0) [] [] [] := by
    refine ⟨heap_alloc_new _ _, ?_, World.ownsRow_nil _ _ _ _, World.ownsRow_nil _ _ _ _, World.ownsRow_nil _ _ _ _, (fun g h => by cases h), (fun g h => by cases h), (fun g h => by cases h), by omega, ?_⟩
    · rw [List.length_replicate]; exact hS.alloc _
    · exact ((Below.refl _ W0).grown hgrow (by rw [HZ.out]; exact Nat.le_refl _) (fun k h => by cases h)).alloc (by omega) _
  clear hown hgrow hS
  go_loopw [22] (fun i wr => ∃ k : Nat, k ≤ n ∧ i = .int .i64 k ∧ ∃ fv, Gr W0 (w.heap.size + 1) w1.heap.size wr (.slice (some ⟨w.heap.size + 1, 0, none⟩) n n) (.slice none 0 0) fv (.slice none 0 0) (List.replicate n sl0) [] (freeTo n k) [])
    (fun i _ => n - (intOf i).toNat)
  case atStart => exact ⟨0, Nat.zero_le _, rfl, _, G0⟩
  case round =>
    obtain ⟨k, hk, rfl, fv, G⟩ := hrel
    clear G0
    obtain ⟨ao, cap, rfl⟩ := own_shape G.f
    rw [freeTo_len] at G
    obtain ⟨q0, q1, q2, q3, q4, f0, f1, f2, f3, f4, qs⟩ := boxf G.box
    by_cases hlt : k < n
    · have hne : ∀ b : Nat, b < w1.heap.size → True := fun _ _ => trivial
      go_wp2_with (at_builtin; refine wpList_append_own_at _ rfl (.tmp 26) (.tmp 31) 23 rfl (w.heap.size + 1) 3 i0 (.int .i64 0) 1 8 Try.underlying23 hi hz0 hz1 hz2 rfl (by decide) _ _ _ rfl (G.f.alloc _) ⟨wr.heap.size, 0, none⟩ 1 1 [.int .i64 ((n : Int) - 1 - (k : Int))] rfl rfl (one_new _ _ _ _ rfl) (by intro u hu; simp at hu; subst hu; rfl) (by rw [freeTo_len]; unfold maxLen; omega) (by rw [freeTo_len]; omega) (by simp; omega) ?_; intro v2 w2 ho2 hg2 _ hloc2; obtain ⟨g2, cap2, rfl⟩ := ownsRow_form ho2 (by omega); have HO2 : Hid (w2.ownsRow (w.heap.size + 1) 3 1 _ ((freeTo n k).length + 1) (encI (freeTo n k) ++ [.int .i64 ((n : Int) - 1 - (k : Int))])) := ho2; have HG2 : Hid ((wr.alloc (.cells #[.int .i64 ((n : Int) - 1 - (k : Int))] 3)).grownBy w2 (Value.slice ao k cap).ownBlock) := ⟨hg2.1, hg2.2, hg2.3, hg2.4, hg2.5⟩; have HL2 : Hid ((Value.slice (some ⟨g2, 0, none⟩) ((freeTo n k).length + 1) cap2).ownBlock = (Value.slice ao k cap).ownBlock ∨ (Value.slice (some ⟨g2, 0, none⟩) ((freeTo n k).length + 1) cap2).ownBlock = some (wr.alloc (.cells #[.int .i64 ((n : Int) - 1 - (k : Int))] 3)).heap.size) := hloc2; clear ho2 hg2 hloc2 q0 q1 q2 q3 q4 f0 f1 f2 f3 f4; obtain ⟨q0, q1, q2, q3, q4, f0, f1, f2, f3, f4, qs2⟩ := boxf (box_kept G.box HG2.out (own_ne G.f G.box (by decide))))
      go_roundw
      case rel => exact ⟨k + 1, by omega, by go_num, _, by rw [freeTo_succ]; exact G.f_step HO2.out HG2.out HL2.out⟩
      case measure => simp [intOf]; omega
    · obtain rfl : k = n := by omega
      go_wp2
      go_loopw [36] (fun i wr => ∃ j : Nat, j ≤ m ∧ i = .int .i64 j ∧ ∃ hv lv, Gr W0 (w.heap.size + 1) w1.heap.size wr (.slice (some ⟨w.heap.size + 1, 0, none⟩) k k) hv (.slice ao k cap) lv (List.replicate k sl0) (headTo j) (freeTo k k) (lockTo j))
        (fun i _ => m - (intOf i).toNat)
      case atStart => exact ⟨0, Nat.zero_le _, rfl, _, _, G⟩
      case round =>
        obtain ⟨j, hj, rfl, hv, lv, G2⟩ := hrel
        clear G q0 q1 q2 q3 q4 f0 f1 f2 f3 f4 qs
        obtain ⟨aH, cH, rfl⟩ := own_shape G2.h
        obtain ⟨aL, cL, rfl⟩ := own_shape G2.l
        rw [headTo_len, lockTo_len] at G2
        obtain ⟨q0, q1, q2, q3, q4, f0, f1, f2, f3, f4, qs⟩ := boxf G2.box
        by_cases hlt2 : j < m
        · have HOX : ((wr.alloc (.cells #[.int .i64 (-1 - (j : Int))] 3)).drew).ownsRow (w.heap.size + 1) 3 1 (.slice aH j cH) (headTo j).length (encI (headTo j)) := (G2.h.alloc (.cells #[.int .i64 (-1 - (j : Int))] 3) : (wr.alloc (.cells #[.int .i64 (-1 - (j : Int))] 3)).ownsRow (w.heap.size + 1) 3 1 (.slice aH j cH) (headTo j).length (encI (headTo j)))
          have HCX : ∀ q u, [Value.int .i64 (-1 - (j : Int))][q]? = some u → ((wr.alloc (.cells #[.int .i64 (-1 - (j : Int))] 3)).drew).cell? ((⟨wr.heap.size, 0, none⟩ : Addr).add q) = some u := fun q u h => cell_one_new wr (.int .i64 (-1 - (j : Int))) 3 q u h
          have G2' : Gr W0 (w.heap.size + 1) w1.heap.size wr.drew (.slice (some ⟨w.heap.size + 1, 0, none⟩) k k) (.slice aH j cH) (.slice ao k cap) (.slice aL j cL) (List.replicate k sl0) (headTo j) (freeTo k k) (lockTo j) := ⟨G2.box, G2.s, G2.h, G2.f, G2.l, G2.hf, G2.hl, G2.fl, G2.at_, G2.below.drew⟩
          go_wp2_with fail
          go_region_law (first
            | (go_simp; go_at_call 87; refine (toEnd_any _ _ (by omega) (by omega)).mono ?_; rintro e wq ⟨rfl, rfl⟩)
            | (refine step_append_own_at _ rfl (.tmp 40) (.tmp 43) 23 rfl (w.heap.size + 1) 3 i0 (.int .i64 0) 1 8 Try.underlying23 hi hz0 hz1 hz2 rfl (by decide) (.slice aH j cH) _ _ rfl HOX ⟨wr.heap.size, 0, none⟩ 1 1 [.int .i64 (-1 - (j : Int))] rfl rfl HCX (by intro u hu; simp at hu; subst hu; rfl) (by rw [headTo_len]; unfold maxLen; omega) (by rw [headTo_len]; omega) (by simp; omega) ?_; intro v2 w2 ho2 hg2 _ hloc2; obtain ⟨g2, cap2, rfl⟩ := ownsRow_form ho2 (by omega); have HG2 : Hid ((wr.alloc (.cells #[.int .i64 (-1 - (j : Int))] 3)).grownBy w2 (Value.slice aH j cH).ownBlock) := ⟨hg2.1, hg2.2, hg2.3, hg2.4, hg2.5⟩; have G3 := G2.h_step (x := -1 - (j : Int)) ho2 HG2.out hloc2; clear ho2 hg2 hloc2 q0 q1 q2 q3 q4 f0 f1 f2 f3 f4; obtain ⟨q0, q1, q2, q3, q4, f0, f1, f2, f3, f4, qs2⟩ := boxf (box_kept G2.box HG2.out (own_ne G2.h G2.box (by decide))); have z2 : w1.heap.size < w2.heap.size := qs2))
          all_goals go_wp2_with (at_builtin; refine wpList_append_own_at _ rfl (.tmp 47) (.tmp 48) 23 rfl (w.heap.size + 1) 3 i0 (.int .i64 0) 1 8 Try.underlying23 hi hz0 hz1 hz2 rfl (by decide) _ _ _ rfl (G3.l.alloc _) ⟨w2.heap.size, 0, none⟩ 1 1 [.int .i64 (-1)] rfl rfl (one_new _ _ _ _ (World.size_setCell ..).symm) (by intro u hu; simp at hu; subst hu; rfl) (by rw [lockTo_len]; unfold maxLen; omega) (by rw [lockTo_len]; omega) (by simp; omega) ?_; intro v3 w3 ho3 hg3 _ hloc3; obtain ⟨g3, cap3, rfl⟩ := ownsRow_form ho3 (by omega); have HG3 : Hid (((w2.setCell ⟨w1.heap.size, 1, none⟩ (.slice (some ⟨g2, 0, none⟩) ((headTo j).length + 1) cap2)).alloc (.cells #[.int .i64 (-1)] 3)).grownBy w3 (Value.slice aL j cL).ownBlock) := hg3; have G4 := G3.l_step (x := -1) ho3 HG3.out hloc3; clear ho3 hg3 hloc3 q0 q1 q2 q3 q4 f0 f1 f2 f3 f4; obtain ⟨q0, q1, q2, q3, q4, f0, f1, f2, f3, f4, qs3⟩ := boxf (box_kept G3.box HG3.out (own_ne G3.l G3.box (by decide))))
          all_goals (go_roundw; (case rel => exact ⟨j + 1, by omega, by go_num, _, _, by rw [headTo_succ, lockTo_succ]; exact G4⟩); (case measure => simp [intOf]; omega))
        · obtain rfl : j = m := by omega
          have HR2 : Hid (wr.heap[w.heap.size]? = _) := (G2.below.block w.heap.size (by omega)).trans HR.out
          obtain ⟨r0, r1, r2, r3, r4, g0, g1, g2, g3, g4, rs⟩ := boxf HR2.out
          have A := G2.ans (by simp; omega) (by rw [headTo_len]; omega) (by rw [freeTo_len]; omega) (by rw [lockTo_len]; omega)
          have HA : Hid (Ans (w.heap.size + 1) wr _ _) := A
          have HB : Hid (Below w.heap.size w wr) := HW.out.trans (G2.below.mono (by omega))
          clear A G2
          go_wp2
          refine bodyPost_ret (v := .tuple #[.agg #[.slice (some ⟨w.heap.size + 1, 0, none⟩) k k, .slice aH j cH, .slice ao k cap, .slice aL j cL, .int .i64 0], .int .i64 0]) (by simp [results, Try.results44, go_sem, r0, r1, r2, r3, r4]) rfl ⟨_, rfl, ?_, ?_⟩
          · exact (HA.out.off (by omega) (fun k hk => set5_other (w := wr) hk)).mono (by omega)
          · exact HB.out.trans (set5_below wr _ _ _ _ _ _ _ (by omega))


end Go.Proofs.Ytaekgadokcmkfab.mm

/- The closed fact filled: it holds in every world. -/
namespace Go.Proofs.Ytaekgadokcmkfab.mm
open Go.ChangeShapes Go.WideShapes Go.ChangeAt Go.RowKit Go.Joins
set_option linter.unusedVariables false

theorem kequal (a b c d : Int) (w : World) : (Op.equalIn 10000 37 (.agg #[.int .i64 a, .int .i64 b]) (.agg #[.int .i64 c, .int .i64 d])).run Try.prog w = .ok (a == c && b == d) w := by
  have u3 := Try.underlying3
  have a3 := Try.isAgg3
  have z3 := Try.sizeOf3
  have hS : Try.prog.underlying 37 = some (.struct (Try.prog.fieldsOf 37)) := by kernel_rfl
  have hp : Try.prog.stoodInHeld 37 = false := by kernel_rfl
  rw [show (10000 : Nat) = 9999 + 1 from rfl, run_equalIn_agg w 9999 37 _ _ hS hp]
  simp only [Program.fieldsOf, Try.underlying37]
  go_simp
  by_cases h1 : a = c <;> by_cases h2 : b = d <;> simp [h1, h2]

theorem taken_at {M M' : Mm} {N0 E0 : Int} {ka kb u : Int} (hM : takenM M ka kb u = M') (hN : takenN M ka kb u = N0) (hE : takenE M ka kb u = E0) (v : Value) (w : World) (lo : Nat) (A : Ans lo w v M) :
    Calls Try.prog 45 #[v, .agg #[.int .i64 ka, .int .i64 kb], .int .i64 u] w fun e w' => ∃ v, e = .returned (.tuple #[v, .int .i64 N0, .int .i64 E0]) ∧ Ans w.heap.size w' v M' ∧ Below w.heap.size w w' := by
  subst hM hN hE
  exact taken_any M v ka kb u w lo A
theorem let_at {M M' : Mm} {E0 : Int} {i : Int} (hM : letM M i = M') (hE : letE M i = E0) (v : Value) (w : World) (lo : Nat) (A : Ans lo w v M) :
    Calls Try.prog 41 #[v, .int .i64 i] w fun e w' => ∃ v, e = .returned (.tuple #[v, .int .i64 E0]) ∧ Ans w.heap.size w' v M' ∧ Below w.heap.size w w' := by
  subst hM hE
  exact let_any M v i w lo A

def fM1 : Mm := newM 2 1
def fM2 : Mm := takenM fM1 1 0 5
def fM3 : Mm := takenM fM2 2 0 5
def fM4 : Mm := takenM fM3 3 0 5
def fM5 : Mm := letM fM3 1
def fM6 : Mm := takenM fM5 4 0 6
theorem g2 : takenM fM1 1 0 5 = fM2 := rfl
theorem g3 : takenM fM2 2 0 5 = fM3 := rfl
theorem g4 : takenM fM3 3 0 5 = fM4 := rfl
theorem g5 : letM fM3 1 = fM5 := rfl
theorem g6 : takenM fM5 4 0 6 = fM6 := rfl
theorem f2 : takenN fM1 1 0 5 = 0 ∧ takenE fM1 1 0 5 = 0 := by decide
theorem f3 : takenN fM2 2 0 5 = 1 ∧ takenE fM2 2 0 5 = 0 := by decide
theorem f4 : takenN fM3 3 0 5 = 0 ∧ takenE fM3 3 0 5 = 7 := by decide
theorem f5 : letE fM3 1 = 0 := by decide
theorem f6 : takenN fM5 4 0 6 = 1 ∧ takenE fM5 4 0 6 = 0 := by decide
theorem f6s : fM6.slots.length = 2 ∧ (fM6.slots.getD 1 sl0).a = 4 ∧ (fM6.slots.getD 1 sl0).b = 0 := by decide

theorem new21 (w : World) : Calls Try.prog 44 #[.int .i64 2, .int .i64 1] w fun e w' => ∃ v, e = .returned (.tuple #[v, .int .i64 0]) ∧ Ans w.heap.size w' v fM1 ∧ Below w.heap.size w w' := new_ok 2 1 w (by decide) (by decide) (by decide)

end Go.Proofs.Ytaekgadokcmkfab.mm
