/- The contracts of frame.CheckCall and of the document's own CheckCall. -/
import Derived.Test.YtaekgadokcmkfabFrP
import Derived.Test.YtaekgadokcmkfabRefA
import Derived.Test.YtaekgadokcmkfabSmall
import Derived.Test.YtaekgadokcmkfabOwnR
import Derived.Carry
namespace Go.Proofs.Ytaekgadokcmkfab.mm
open Go.ChangeShapes Go.WideShapes Go.ChangeAt Go.RowKit Go.Joins Go.Maps
set_option maxRecDepth 100000
set_option linter.unusedVariables false

theorem checkCall_any (aS aH aF aL : Option Addr) (nS nH nF nL cS cH cF cL : Nat) (now k a b t bk sl : Int) (w : World) (hn : nS ≤ 9223372036854775807) (hh : nH ≤ 9223372036854775807) :
    Calls Try.prog 18 #[.agg #[.slice aS nS cS, .slice aH nH cH, .slice aF nF cF, .slice aL nL cL, .int .i64 now], .agg #[.int .i64 k, .int .i64 a, .int .i64 b, .int .i64 t, .int .i64 bk, .int .i64 sl]] w fun e w' => e = .returned (.int .i64 (callE nS nH ⟨k, a, b, t, bk, sl⟩)) ∧ Below w.heap.size w w' := by
  have b0 : Below w.heap.size w ((w.alloc (.cells #[.slice aS nS cS, .slice aH nH cH, .slice aF nF cF, .slice aL nL cL, .int .i64 now] 25)).alloc (.cells #[.int .i64 k, .int .i64 a, .int .i64 b, .int .i64 t, .int .i64 bk, .int .i64 sl] 48)) := below_alloc2 w _ _
  have hk : ∀ W : World, Calls Try.prog 33 #[.agg #[.int .i64 a, .int .i64 b]] W fun e w' => e = .returned (.int .i64 (if keyB a b then 0 else 3)) ∧ Below W.heap.size W w' := fun W => kcheck_any a b W
  by_cases h13 : k = 1 ∨ k = 3
  · rw [callE_key h13]
    generalize (if keyB a b then (0 : Int) else 3) = kv at *
    rcases h13 with rfl | rfl
    all_goals
      go_enter Try.func18, Try.ntmps18
      go_wp2_with (go_at_call 33; refine (hk _).mono ?_; rintro e w1 ⟨rfl, hb1⟩)
      go_ret
      exact ⟨rfl, b0.trans (hb1.mono b0.size)⟩
  by_cases h2 : k = 2
  · subst h2
    clear h13
    rw [callE_add]
    cases hT : inB t 1 1000000
    · rw [Bool.false_and, if_neg (by simp)]
      go_enter Try.func18, Try.ntmps18
      go_wp2_with (go_at_call 57; refine (within_any _ _ _ _).mono ?_; rintro e w1 ⟨rfl, rfl⟩)
      go_ret
      exact ⟨rfl, b0⟩
    · rw [Bool.true_and]
      generalize (if keyB a b then (0 : Int) else 3) = kv at *
      go_enter Try.func18, Try.ntmps18
      go_wp2_with (first | (go_at_call 57; refine (within_any _ _ _ _).mono ?_; rintro e w1 ⟨rfl, rfl⟩) | (go_at_call 33; refine (hk _).mono ?_; rintro e w1 ⟨rfl, hb1⟩))
      go_ret
      exact ⟨rfl, b0.trans (hb1.mono b0.size)⟩
  by_cases h45 : k = 4 ∨ k = 5
  · rw [callE_bk h45]
    clear h13 h2
    have hc : ∀ W : World, Calls Try.prog 51 #[.agg #[.slice aS nS cS, .slice aH nH cH, .slice aF nF cF, .slice aL nL cL, .int .i64 now], .int .i64 bk] W fun e w' => e = .returned (.bool (inB bk 0 ((nH : Int) - 1))) ∧ Below W.heap.size W w' := fun W => hasChain_any aS aH aF aL nS nH nF nL cS cH cF cL now bk W hh
    cases hB : inB bk 0 ((nH : Int) - 1) <;> (rw [hB] at hc; rcases h45 with rfl | rfl)
    all_goals
      first | rw [if_pos rfl] | rw [if_neg (by simp)]
      go_enter Try.func18, Try.ntmps18
      go_wp2_with (go_at_call 51; refine (hc _).mono ?_; rintro e w1 ⟨rfl, hb1⟩)
      go_ret
      exact ⟨rfl, b0.trans (hb1.mono b0.size)⟩
  by_cases h6 : k = 6
  · subst h6
    clear h13 h2 h45
    rw [callE_leave]
    have hc : ∀ W : World, Calls Try.prog 54 #[.agg #[.slice aS nS cS, .slice aH nH cH, .slice aF nF cF, .slice aL nL cL, .int .i64 now], .int .i64 sl] W fun e w' => e = .returned (.bool (inB sl 0 ((nS : Int) - 1))) ∧ Below W.heap.size W w' := fun W => isSlot_any aS aH aF aL nS nH nF nL cS cH cF cL now sl W hn
    cases hB : inB sl 0 ((nS : Int) - 1) <;> rw [hB] at hc
    all_goals
      first | rw [if_pos rfl] | rw [if_neg (by simp)]
      go_enter Try.func18, Try.ntmps18
      go_wp2_with (go_at_call 54; refine (hc _).mono ?_; rintro e w1 ⟨rfl, hb1⟩)
      go_ret
      exact ⟨rfl, b0.trans (hb1.mono b0.size)⟩
  have hno : k < 1 ∨ 6 < k := by omega
  rw [callE_no hno]
  have e1 : (k == 1) = false := by rw [beq_eq_false_iff_ne]; omega
  have e2 : (k == 2) = false := by rw [beq_eq_false_iff_ne]; omega
  have e3 : (k == 3) = false := by rw [beq_eq_false_iff_ne]; omega
  have e4 : (k == 4) = false := by rw [beq_eq_false_iff_ne]; omega
  have e5 : (k == 5) = false := by rw [beq_eq_false_iff_ne]; omega
  have e6 : (k == 6) = false := by rw [beq_eq_false_iff_ne]; omega
  clear h13 h2 h45 h6 hno
  go_enter Try.func18, Try.ntmps18
  go_wp2
  go_ret
  exact ⟨rfl, b0⟩

theorem law4 : Keyed Try.prog 4 := bool_keyed Try.underlying4
theorem zero27 (w : World) : (zeroValue 27).run Try.prog w = .ok (.int .i64 0) w := by kernel_rfl
theorem under89 : Try.prog.underlying 89 = some (.map 4 27) := by kernel_rfl

theorem plainElem_int_inv {H : Type} {v : Value} {z : DataW H × List MemPlace} (h : plainElem Try.prog 27 v = some z) : ∃ x, v = .int .i64 x ∧ z = (.lit (.int .i64 x), []) := by
  unfold plainElem at h
  rw [Try.underlying27] at h
  cases v <;> simp at h
  obtain ⟨⟨rfl, _⟩, h⟩ := h
  exact ⟨_, rfl, h.symm⟩

/- Block g is the map of what is wrong. -/
def BadAt (w : World) (g : Nat) : Prop :=
  ∃ n, ∃ D : DataW Unit, w.ownsMap Try.prog 4 (plainElem Try.prog 27) g n D ∧ ∀ x : Bool, D.atKey (.bool x) (.lit (.int .i64 0)) = .lit (.int .i64 (if x then 0 else 3))
theorem BadAt.kept {w w' : World} {g : Nat} (h : BadAt w g) (hb : w'.heap[g]? = w.heap[g]?) : BadAt w' g := by
  obtain ⟨n, D, ⟨es, clock, hg, F, hs, hD⟩, hat⟩ := h
  exact ⟨n, D, ⟨es, clock, hb.trans hg, F, hs, hD⟩, hat⟩
theorem BadAt.lt {w : World} {g : Nat} (h : BadAt w g) : g < w.heap.size := by
  obtain ⟨n, D, ⟨es, clock, hg, F, hs, hD⟩, hat⟩ := h
  exact lt_of_block hg
theorem BadAt.look {w : World} {g : Nat} (h : BadAt w g) (x : Bool) : (Instr.lookup 89 (.map (some g)) (.bool x) false).run Try.prog w = .ok (.int .i64 (if x then 0 else 3)) w := by
  obtain ⟨n, D, ho, hat⟩ := h
  obtain ⟨v, ps, hrun, hv⟩ := ho.lookup law4 under89 (zero27 w) (plainElem_int Try.underlying27 (by decide)) (keyOf_bool_mk Try.underlying4 x)
  rw [hat x] at hv
  obtain ⟨y, rfl, hz⟩ := plainElem_int_inv hv
  rw [hrun]
  injection hz with h1 h2
  injection h1 with h1
  injection h1 with _ h1
  rw [h1]
theorem BadAt.put {w' : World} {g n : Nat} (h : w'.ownsMap Try.prog 4 (plainElem Try.prog 27) g n ((DataW.map [] : DataW Unit).put (.bool false) (.lit (.int .i64 3)))) : BadAt w' g := by
  refine ⟨n, _, h, fun x => ?_⟩
  cases x
  · rw [atKey_put_same ⟨_, rfl⟩ (by simp [WideAt.IsKeyLit])]; rfl
  · rw [atKey_put_other (by intro hh; cases hh)]; simp [DataW.atKey]

/- What a walk carries: memory's box, a call's, the map of what is wrong. -/
theorem callf {w : World} {B : Nat} {v0 v1 v2 v3 v4 v5 : Value} {t : TypeId} (h : w.heap[B]? = some (.cells #[v0, v1, v2, v3, v4, v5] t (0, 0))) :
    w.cell? ⟨B, 0, none⟩ = some v0 ∧ w.cell? ⟨B, 1, none⟩ = some v1 ∧ w.cell? ⟨B, 2, none⟩ = some v2 ∧ w.cell? ⟨B, 3, none⟩ = some v3 ∧ w.cell? ⟨B, 4, none⟩ = some v4 ∧ w.cell? ⟨B, 5, none⟩ = some v5 ∧ B < w.heap.size :=
  ⟨by rw [cell_of_block h]; rfl, by rw [cell_of_block h]; rfl, by rw [cell_of_block h]; rfl, by rw [cell_of_block h]; rfl, by rw [cell_of_block h]; rfl, by rw [cell_of_block h]; rfl, lt_of_block h⟩

theorem rcall_next {w1 w2 : World} {B : Nat} {v0 v1 v2 v3 v4 v5 : Value} (hb : Below w1.heap.size w1 w2) (c0 : w1.cell? ⟨B, 0, none⟩ = some v0) (c1 : w1.cell? ⟨B, 1, none⟩ = some v1) (c2 : w1.cell? ⟨B, 2, none⟩ = some v2) (c3 : w1.cell? ⟨B, 3, none⟩ = some v3) (c4 : w1.cell? ⟨B, 4, none⟩ = some v4) (c5 : w1.cell? ⟨B, 5, none⟩ = some v5) (cs : B < w1.heap.size) :
    w2.cell? ⟨B, 0, none⟩ = some v0 ∧ w2.cell? ⟨B, 1, none⟩ = some v1 ∧ w2.cell? ⟨B, 2, none⟩ = some v2 ∧ w2.cell? ⟨B, 3, none⟩ = some v3 ∧ w2.cell? ⟨B, 4, none⟩ = some v4 ∧ w2.cell? ⟨B, 5, none⟩ = some v5 ∧ B < w2.heap.size := by
  obtain ⟨q, f⟩ := bcell hb
  exact ⟨(q _ _ cs).trans c0, (q _ _ cs).trans c1, (q _ _ cs).trans c2, (q _ _ cs).trans c3, (q _ _ cs).trans c4, (q _ _ cs).trans c5, Nat.lt_of_lt_of_le cs hb.size⟩
theorem rcall_start {w W0 w1 : World} {om oc o1 o2 : Obj} (hB : W0.heap[w.heap.size]? = some om) (hC : W0.heap[w.heap.size + 1]? = some oc) (hz : W0.heap.size = w.heap.size + 2) (hb : Below w.heap.size w W0) (hd : BadAt w1 (w.heap.size + 1 + 1)) (e1 : om = o1) (e2 : oc = o2)
    (hg : (W0.alloc (.map #[] 0)).grownBy w1 (some (w.heap.size + 1 + 1))) : BadAt w1 (w.heap.size + 1 + 1) ∧ Below w.heap.size w w1 ∧ w1.heap[w.heap.size]? = some om ∧ w1.heap[w.heap.size + 1]? = some oc := by
  have h1 : Below W0.heap.size W0 w1 := (one_below W0 (.map #[] 0)).grown hg (by simp) (fun k h => by cases h; omega)
  exact ⟨hd, hb.trans (h1.mono (by omega)), (h1.block _ (by omega)).trans hB, (h1.block _ (by omega)).trans hC⟩

set_option maxHeartbeats 1600000 in
theorem rcheckCall_any (aS aH aF aL : Option Addr) (nS nH nF nL cS cH cF cL : Nat) (now k a b t bk sl : Int) (w : World) (hn : nS ≤ 9223372036854775807) (hh : nH ≤ 9223372036854775807) :
    Calls Try.prog 19 #[.agg #[.slice aS nS cS, .slice aH nH cH, .slice aF nF cF, .slice aL nL cL, .int .i64 now], .agg #[.int .i64 k, .int .i64 a, .int .i64 b, .int .i64 t, .int .i64 bk, .int .i64 sl]] w fun e w' => e = .returned (.int .i64 (callE nS nH ⟨k, a, b, t, bk, sl⟩)) ∧ Below w.heap.size w w' := by
  obtain ⟨om, hom⟩ : ∃ o : Obj, o = .cells #[.slice aS nS cS, .slice aH nH cH, .slice aF nF cF, .slice aL nL cL, .int .i64 now] 25 := ⟨_, rfl⟩
  obtain ⟨oc, hoc⟩ : ∃ o : Obj, o = .cells #[.int .i64 k, .int .i64 a, .int .i64 b, .int .i64 t, .int .i64 bk, .int .i64 sl] 48 := ⟨_, rfl⟩
  have b0 : Below w.heap.size w ((w.alloc om).alloc oc) := below_alloc2 w _ _
  have HB0 : Hid (((w.alloc om).alloc oc).heap[w.heap.size]? = some om) := by show _ = _; rw [Below.heap_alloc _ _ _ (by simp), heap_alloc_new]
  have HC0 : Hid (((w.alloc om).alloc oc).heap[w.heap.size + 1]? = some oc) := by
    have := heap_alloc_new (w.alloc om) oc
    rwa [show (w.alloc om).heap.size = w.heap.size + 1 by simp] at this
  have HZ0 : Hid (((w.alloc om).alloc oc).heap.size = w.heap.size + 2) := by show _ = _; simp
  have hmm := @run_makeMap Try.prog
  have HMM : Hid (((((w.alloc (.cells #[.slice aS nS cS, .slice aH nH cH, .slice aF nF cF, .slice aL nL cL, .int .i64 now] 25)).alloc (.cells #[.int .i64 k, .int .i64 a, .int .i64 b, .int .i64 t, .int .i64 bk, .int .i64 sl] 48)).alloc (.map #[] 0))).ownsMap Try.prog 4 (plainElem Try.prog 27) (w.heap.size + 1 + 1) 0 (.map [] : DataW Unit)) := by
    have := World.ownsMap_made (H := Unit) ((w.alloc (.cells #[.slice aS nS cS, .slice aH nH cH, .slice aF nF cF, .slice aL nL cL, .int .i64 now] 25)).alloc (.cells #[.int .i64 k, .int .i64 a, .int .i64 b, .int .i64 t, .int .i64 bk, .int .i64 sl] 48)) Try.prog 4 (plainElem Try.prog 27)
    rwa [show ((w.alloc (.cells #[.slice aS nS cS, .slice aH nH cH, .slice aF nF cF, .slice aL nL cL, .int .i64 now] 25)).alloc (.cells #[.int .i64 k, .int .i64 a, .int .i64 b, .int .i64 t, .int .i64 bk, .int .i64 sl] 48)).heap.size = w.heap.size + 1 + 1 by simp] at this
  have hk : ∀ W : World, Calls Try.prog 58 #[.agg #[.int .i64 a, .int .i64 b]] W fun e w' => e = .returned (.bool (keyB a b)) ∧ Below W.heap.size W w' := fun W => isKey_any a b W
  obtain ⟨E0, hE0⟩ : ∃ x, x = callE nS nH ⟨k, a, b, t, bk, sl⟩ := ⟨_, rfl⟩
  rw [← hE0]
  have HE0 : Hid (E0 = callE nS nH ⟨k, a, b, t, bk, sl⟩) := hE0
  clear hE0
  obtain ⟨w1, hrun, ho1, hg1⟩ := HMM.out.update law4 under89 (show 0 < maxLen by decide) (keyOf_bool_mk Try.underlying4 false) (plainElem_int (H := Unit) Try.underlying27 (q := .i64) (a := 3) (by decide))
  have HD1 : Hid (BadAt w1 (w.heap.size + 1 + 1) ∧ Below w.heap.size w w1 ∧ w1.heap[w.heap.size]? = some om ∧ w1.heap[w.heap.size + 1]? = some oc) := by
    subst hom hoc
    exact rcall_start HB0.out HC0.out HZ0.out b0 (BadAt.put ho1) rfl rfl hg1
  clear ho1 hg1 HB0 HC0 HZ0 HMM b0
  subst hom hoc
  obtain ⟨q0, q1, q2, q3, q4, -, -, -, -, -, qs⟩ := boxf HD1.out.2.2.1
  obtain ⟨c0, c1, c2, c3, c4, c5, cs⟩ := callf HD1.out.2.2.2
  have look : ∀ (W : World) (x : Bool), Below w1.heap.size w1 W → (Instr.lookup 89 (.map (some (w.heap.size + 1 + 1))) (.bool x) false).run Try.prog W = .ok (.int .i64 (if x then 0 else 3)) W := fun W x hb => BadAt.look (BadAt.kept HD1.out.1 (hb.block _ (BadAt.lt HD1.out.1))) x
  have HLook : Hid _ := look
  have HB1 : Hid (Below w.heap.size w w1) := HD1.out.2.1
  clear look HD1
  by_cases h13 : k = 1 ∨ k = 3
  · have HV : Hid (E0 = if keyB a b then 0 else 3) := HE0.out.trans (callE_key h13)
    clear HE0
    rcases h13 with rfl | rfl
    all_goals
      go_enter Try.func19, Try.ntmps19
      go_wp2_with (go_at_call 58; refine (hk _).mono ?_; rintro e w2 ⟨rfl, hb2⟩; have hlk := HLook.out w2 (keyB a b) hb2; rw [← HV.out] at hlk; clear q0 q1 q2 q3 q4 qs c0 c1 c2 c3 c4 c5 cs)
      go_ret
      exact ⟨rfl, HB1.out.trans (hb2.mono HB1.out.size)⟩
  by_cases h2 : k = 2
  · subst h2
    clear h13
    have HV : Hid (E0 = if inB t 1 1000000 && keyB a b then 0 else 3) := HE0.out.trans callE_add
    clear HE0
    cases hK : keyB a b
    · rw [hK] at hk
      rw [hK, Bool.and_false, if_neg (by simp)] at HV
      go_enter Try.func19, Try.ntmps19
      go_wp2_with (go_at_call 58; refine (hk _).mono ?_; rintro e w2 ⟨rfl, hb2⟩; have hlk := HLook.out w2 false hb2; clear q0 q1 q2 q3 q4 qs c0 c1 c2 c3 c4 c5 cs)
      go_ret
      exact ⟨by rw [HV.out]; rfl, HB1.out.trans (hb2.mono HB1.out.size)⟩
    · rw [hK] at hk
      rw [hK, Bool.and_true] at HV
      have hc : t < 1 ∨ (1 ≤ t ∧ t ≤ 1000000) ∨ (1 ≤ t ∧ 1000000 < t) := by omega
      rcases hc with h | ⟨h, h'⟩ | ⟨h, h'⟩
      · rw [show inB t 1 1000000 = false by simp [inB]; omega] at HV
        go_enter Try.func19, Try.ntmps19
        go_wp2_with (go_at_call 58; refine (hk _).mono ?_; rintro e w2 ⟨rfl, hb2⟩; have hlk := HLook.out w2 false hb2; clear q0 q1 q2 q3 q4 qs; obtain ⟨c0, c1, c2, c3, c4, c5, cs⟩ := rcall_next hb2 c0 c1 c2 c3 c4 c5 cs)
        go_ret
        exact ⟨by rw [HV.out]; rfl, HB1.out.trans (hb2.mono HB1.out.size)⟩
      · rw [show inB t 1 1000000 = true from (inB_iff _ _ _).2 ⟨h, h'⟩] at HV
        go_enter Try.func19, Try.ntmps19
        go_wp2_with (go_at_call 58; refine (hk _).mono ?_; rintro e w2 ⟨rfl, hb2⟩; have hlk := HLook.out w2 true hb2; clear q0 q1 q2 q3 q4 qs; obtain ⟨c0, c1, c2, c3, c4, c5, cs⟩ := rcall_next hb2 c0 c1 c2 c3 c4 c5 cs)
        go_ret
        exact ⟨by rw [HV.out]; rfl, HB1.out.trans (hb2.mono HB1.out.size)⟩
      · rw [show inB t 1 1000000 = false by simp [inB]; omega] at HV
        have hd : decide (t ≤ 1000000) = false := by simp; omega
        go_enter Try.func19, Try.ntmps19
        go_wp2_with (go_at_call 58; refine (hk _).mono ?_; rintro e w2 ⟨rfl, hb2⟩; have hlk := HLook.out w2 false hb2; clear q0 q1 q2 q3 q4 qs; obtain ⟨c0, c1, c2, c3, c4, c5, cs⟩ := rcall_next hb2 c0 c1 c2 c3 c4 c5 cs)
        go_ret
        exact ⟨by rw [HV.out]; rfl, HB1.out.trans (hb2.mono HB1.out.size)⟩
  by_cases h45 : k = 4 ∨ k = 5
  · have HV : Hid (E0 = if inB bk 0 ((nH : Int) - 1) then 0 else 5) := HE0.out.trans (callE_bk h45)
    clear HE0 h13 h2
    have hc : bk < 0 ∨ (0 ≤ bk ∧ bk < nH) ∨ (0 ≤ bk ∧ (nH : Int) ≤ bk) := by omega
    rcases hc with h | ⟨h, h'⟩ | ⟨h, h'⟩
    · rw [show inB bk 0 ((nH : Int) - 1) = false by simp [inB]; omega] at HV
      rcases h45 with rfl | rfl
      all_goals
        go_enter Try.func19, Try.ntmps19
        go_wp2
        go_ret
        exact ⟨by rw [HV.out]; rfl, HB1.out⟩
    · rw [show inB bk 0 ((nH : Int) - 1) = true from (inB_iff _ _ _).2 ⟨h, by omega⟩] at HV
      rcases h45 with rfl | rfl
      all_goals
        go_enter Try.func19, Try.ntmps19
        go_wp2
        go_ret
        exact ⟨by rw [HV.out]; rfl, HB1.out⟩
    · rw [show inB bk 0 ((nH : Int) - 1) = false by simp [inB]; omega] at HV
      rcases h45 with rfl | rfl
      all_goals
        go_enter Try.func19, Try.ntmps19
        go_wp2
        go_ret
        exact ⟨by rw [HV.out]; rfl, HB1.out⟩
  by_cases h6 : k = 6
  · subst h6
    have HV : Hid (E0 = if inB sl 0 ((nS : Int) - 1) then 0 else 5) := HE0.out.trans callE_leave
    clear HE0 h13 h2 h45
    have hc : sl < 0 ∨ (0 ≤ sl ∧ sl < nS) ∨ (0 ≤ sl ∧ (nS : Int) ≤ sl) := by omega
    rcases hc with h | ⟨h, h'⟩ | ⟨h, h'⟩
    · rw [show inB sl 0 ((nS : Int) - 1) = false by simp [inB]; omega] at HV
      go_enter Try.func19, Try.ntmps19
      go_wp2
      go_ret
      exact ⟨by rw [HV.out]; rfl, HB1.out⟩
    · rw [show inB sl 0 ((nS : Int) - 1) = true from (inB_iff _ _ _).2 ⟨h, by omega⟩] at HV
      go_enter Try.func19, Try.ntmps19
      go_wp2
      go_ret
      exact ⟨by rw [HV.out]; rfl, HB1.out⟩
    · rw [show inB sl 0 ((nS : Int) - 1) = false by simp [inB]; omega] at HV
      go_enter Try.func19, Try.ntmps19
      go_wp2
      go_ret
      exact ⟨by rw [HV.out]; rfl, HB1.out⟩
  have hno : k < 1 ∨ 6 < k := by omega
  have HV : Hid (E0 = 4) := HE0.out.trans (callE_no hno)
  have e1 : (k == 1) = false := by rw [beq_eq_false_iff_ne]; omega
  have e2 : (k == 2) = false := by rw [beq_eq_false_iff_ne]; omega
  have e3 : (k == 3) = false := by rw [beq_eq_false_iff_ne]; omega
  have e4 : (k == 4) = false := by rw [beq_eq_false_iff_ne]; omega
  have e5 : (k == 5) = false := by rw [beq_eq_false_iff_ne]; omega
  have e6 : (k == 6) = false := by rw [beq_eq_false_iff_ne]; omega
  clear h13 h2 h45 h6 hno HE0
  go_enter Try.func19, Try.ntmps19
  go_wp2
  go_ret
  exact ⟨by rw [HV.out]; rfl, HB1.out⟩

end Go.Proofs.Ytaekgadokcmkfab.mm
