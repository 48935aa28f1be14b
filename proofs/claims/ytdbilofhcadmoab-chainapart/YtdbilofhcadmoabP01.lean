/- The slots of a chain lie in memory of their own; append of a list onto a row of one's own. -/
import Derived.Test.YtdbilofhcadmoabC11
import Derived.Laws.AppendOwnNone
namespace Go.Proofs.Ytdbilofhcadmoab.mm
open Go.ChangeShapes Go.WideShapes Go.ChangeAt Go.RowKit Go.Joins Go.Maps
set_option maxRecDepth 100000
set_option linter.unusedVariables false

theorem own_hi2 {w : World} {base lo n size cap : Nat} {e : TypeId} {ao : Option Addr} {xs : List Value} (h : w.ownsRow base e size (.slice ao n cap) n xs) (hl : lo ≤ base) : ∀ ad, ao = some ad → lo ≤ ad.block := by
  rintro ad rfl
  rcases h.2 with ⟨h1, h0⟩ | ⟨g, cap', cur, hv, hg, hb, hc, -, hs, ht⟩
  · cases h1
  · injection hv with h1 h2 h3
    injection h1 with h1
    subst h1
    exact Nat.le_trans hl hg

set_option maxHeartbeats 1600000 in
theorem slotsOf_hi (M : Mm) (aS aH aF aL : Option Addr) (cS cH cF cL b : Nat) (w : World) (A : At w aS aH aF aL cS cH cF cL M) (hok : Ok M) (hb : b < M.heads.length) :
    Calls Try.prog 76 #[.agg #[.slice aS M.slots.length cS, .slice aH M.heads.length cH, .slice aF M.free.length cF, .slice aL M.locks.length cL, .int .i64 M.now], .int .i64 b] w fun e w' =>
      ∃ ao cap, e = .returned (.tuple #[.slice ao (slotsL M b).length cap, .int .i64 (slotsE M b)]) ∧ IRow w' ao cap (slotsL M b) ∧ (∀ ad, ao = some ad → w.heap.size ≤ ad.block) ∧ Below w.heap.size w w' := by
  obtain ⟨E0, hE0⟩ : ∃ E0, E0 = slotsE M b := ⟨_, rfl⟩
  obtain ⟨L0, hL0⟩ : ∃ L0, L0 = slotsL M b := ⟨_, rfl⟩
  rw [← hE0, ← hL0]
  have HE0 : Hid (E0 = slotsE M b) := hE0
  have HL0 : Hid (L0 = slotsL M b) := hL0
  clear hE0 hL0
  have n0 := hok.ns
  obtain ⟨o1, ho1⟩ : ∃ o : Obj, o = .cells #[.slice aS M.slots.length cS, .slice aH M.heads.length cH, .slice aF M.free.length cF, .slice aL M.locks.length cL, .int .i64 M.now] 25 := ⟨_, rfl⟩
  obtain ⟨o2, ho2⟩ : ∃ o : Obj, o = .cells #[.slice none 0 0] 23 := ⟨_, rfl⟩
  have b0 : Below w.heap.size w ((w.alloc o1).alloc o2) := below_alloc2 w o1 o2
  have HB0 : Hid (((w.alloc o1).alloc o2).heap[w.heap.size]? = some o1) := by show _ = _; rw [Below.heap_alloc _ _ _ (by simp), heap_alloc_new]
  have HV0 : Hid (((w.alloc o1).alloc o2).heap[w.heap.size + 1]? = some o2) := by
    have := heap_alloc_new (w.alloc o1) o2
    rwa [show (w.alloc o1).heap.size = w.heap.size + 1 by simp] at this
  have HZ0 : Hid (((w.alloc o1).alloc o2).heap.size = w.heap.size + 2) := by show _ = _; simp
  have HA0 : Hid _ := A.below b0
  have hmf : ∀ (fn : Fn) (first cap : Array Value) (w : World), (Instr.makeFunc fn first cap).run Try.prog w = .ok (.func fn first cap) w := fun _ _ _ _ => rfl
  go_enter Try.func76, Try.ntmps76
  go_wp2_with fail
  rw [← ho1, ← ho2]
  generalize (w.alloc o1).alloc o2 = W0 at *
  subst ho1 ho2
  have hstart : Lst W0 (w.heap.size + 1) W0.heap.size 23 3 1 #[.slice aS M.slots.length cS, .slice aH M.heads.length cH, .slice aF M.free.length cF, .slice aL M.locks.length cL, .int .i64 M.now] (W0.alloc (.cells #[.slice aS M.slots.length cS, .slice aH M.heads.length cH, .slice aF M.free.length cF, .slice aL M.locks.length cL, .int .i64 M.now] 25)) ([] : List Int).length (encI []) := by
    have z := HZ0.out
    refine ⟨⟨.slice none 0 0, ?_, World.ownsRow_nil _ _ _ _⟩, heap_alloc_new _ _, (Below.refl _ _).alloc (by omega) _, by omega⟩
    rw [Below.heap_alloc _ _ _ (by omega)]
    exact HV0.out
  have HAw : Hid _ := A
  clear A
  refine (walk_any 145 #[.pointer (some ⟨w.heap.size + 1, 0, none⟩)] M aS aH aF aL cS cH cF cL b W0 hok hb fn85 (fun l W => Lst W0 (w.heap.size + 1) W0.heap.size 23 3 1 #[.slice aS M.slots.length cS, .slice aH M.heads.length cH, .slice aF M.free.length cF, .slice aL M.locks.length cL, .int .i64 M.now] W l.length (encI l)) hstart (fun l W h => h.box) (fun l W h => HAw.out.below (b0.trans (h.below.mono (by omega)))) ?_).mono ?_
  · intro l a W hL ha hl
    exact app85 _ _ _ _ _ _ _ hL (by omega)
  rintro e w1 ⟨rfl, hL1⟩
  have HL1 : Hid _ := hL1
  have HB1 : Hid (Below w.heap.size w w1) := b0.trans (hL1.below.mono (by omega))
  obtain ⟨⟨v, hv, ho⟩, -, -, -⟩ := hL1
  have hm : (chL M b).length ≤ 12 := Nat.le_trans (walkL_len _ _ _) n0
  obtain ⟨ao, cap, rfl, hrow⟩ := IRow.of_own ho (by omega)
  have HHi : Hid (∀ ad, ao = some ad → w.heap.size ≤ ad.block) := own_hi2 ho (by omega)
  obtain ⟨c0, f0, lB⟩ := var_cell hv
  have HRow : Hid _ := hrow
  clear hv ho hrow HL1 hstart HB0 HV0 HZ0 HA0 b0
  cases hc : chOk M b
  · have HV : Hid (E0 = 4 ∧ L0 = []) := ⟨HE0.out.trans (by unfold slotsE; rw [hc]; rfl), HL0.out.trans (by unfold slotsL; rw [hc]; rfl)⟩
    go_wp2
    go_ret2
    refine ⟨none, 0, ?_, ?_, (fun _ h => by cases h), HB1.out⟩
    · rw [HV.out.1, HV.out.2]; rfl
    · rw [HV.out.2]; exact ⟨by decide, by decide, fun _ => rfl, .inl rfl⟩
  · have HV : Hid (E0 = 0 ∧ L0 = chL M b) := ⟨HE0.out.trans (by unfold slotsE; rw [hc]; rfl), HL0.out.trans (by unfold slotsL; rw [hc]; rfl)⟩
    go_wp2
    go_ret2
    refine ⟨ao, cap, ?_, ?_, HHi.out, HB1.out⟩
    · rw [HV.out.1, HV.out.2]; rfl
    · rw [HV.out.2]; exact HRow.out


set_option maxHeartbeats 1600000 in
theorem chainSlots_hi (M : Mm) (aS aH aF aL : Option Addr) (cS cH cF cL : Nat) (b : Int) (w : World) (A : At w aS aH aF aL cS cH cF cL M) :
    Calls Try.prog 18 #[.agg #[.slice aS M.slots.length cS, .slice aH M.heads.length cH, .slice aF M.free.length cF, .slice aL M.locks.length cL, .int .i64 M.now], .int .i64 b] w fun e w' =>
      ∃ ao cap, e = .returned (.tuple #[.slice ao (slotsCL M b).length cap, .int .i64 (slotsCE M b)]) ∧ IRow w' ao cap (slotsCL M b) ∧ (∀ ad, ao = some ad → w.heap.size ≤ ad.block) ∧ Below w.heap.size w w' := by
  obtain ⟨E0, hE0⟩ : ∃ E0, E0 = slotsCE M b := ⟨_, rfl⟩
  obtain ⟨L0, hL0⟩ : ∃ L0, L0 = slotsCL M b := ⟨_, rfl⟩
  rw [← hE0, ← hL0]
  have HE0 : Hid (E0 = slotsCE M b) := hE0
  have HL0 : Hid (L0 = slotsCL M b) := hL0
  clear hE0 hL0
  have m2 := A.h.max
  have n2 : M.heads.length ≤ 9223372036854775807 := by omega
  obtain ⟨o1, ho1⟩ : ∃ o : Obj, o = .cells #[.slice aS M.slots.length cS, .slice aH M.heads.length cH, .slice aF M.free.length cF, .slice aL M.locks.length cL, .int .i64 M.now] 25 := ⟨_, rfl⟩
  have b0 : Below w.heap.size w (w.alloc o1) := one_below w o1
  have HB0 : Hid ((w.alloc o1).heap[w.heap.size]? = some o1) := heap_alloc_new _ _
  have HA : Hid (At w aS aH aF aL cS cH cF cL M) := A
  have HA0 : Hid _ := A.below b0
  clear A
  go_enter Try.func18, Try.ntmps18
  go_wp2_with fail
  rw [← ho1]
  generalize w.alloc o1 = W0 at *
  subst ho1
  refine (check_any M aS aH aF aL cS cH cF cL W0 HA0.out).mono ?_
  rintro e w1 ⟨rfl, hb1⟩
  have b1 := b0.trans (hb1.mono b0.size)
  have HB1 : Hid _ := (hb1.block w.heap.size (lt_of_block HB0.out)).trans HB0.out
  clear hb1 b0 HB0 HA0
  by_cases hE : chk M = 0
  rotate_left
  · have h' : (chk M != 0) = true := by simpa using hE
    have HV : Hid (E0 = chk M ∧ L0 = []) := by
      have h : slotsCE M b = chk M := by unfold slotsCE; rw [if_pos hE]
      exact ⟨HE0.out.trans h, HL0.out.trans (by unfold slotsCL; rw [h, if_neg hE])⟩
    clear HB1
    generalize chk M = E at *
    go_wp2
    go_ret2
    exact ⟨none, 0, by rw [HV.out.1, HV.out.2]; rfl, by rw [HV.out.2]; exact irow_nil _, (fun _ h => by cases h), b1⟩
  have hok := (chk_zero M).1 hE
  have HC : Hid (chk M = 0) := hE
  rw [hE]
  clear hE
  obtain ⟨q0, q1, q2, q3, q4, f0, f1, f2, f3, f4, qs⟩ := boxf HB1.out
  clear f0 f1 f2 f3 f4
  go_wp2_with fail
  refine (hasChain_any aS aH aF aL _ _ _ _ cS cH cF cL _ _ w1 n2).mono ?_
  rintro e w2 ⟨rfl, hb2⟩
  have b2 := b1.trans (hb2.mono b1.size)
  have HB2 : Hid _ := (hb2.block w.heap.size qs).trans HB1.out
  clear hb2 b1 HB1 q0 q1 q2 q3 q4 qs
  cases hS : inB b 0 ((M.heads.length : Int) - 1)
  · have HV : Hid (E0 = 5 ∧ L0 = []) := by
      have h : slotsCE M b = 5 := by unfold slotsCE; rw [if_neg (by simpa using HC.out), if_pos hS]
      exact ⟨HE0.out.trans h, HL0.out.trans (by unfold slotsCL; rw [h, if_neg (by decide)])⟩
    go_wp2
    go_ret2
    exact ⟨none, 0, by rw [HV.out.1, HV.out.2]; rfl, by rw [HV.out.2]; exact irow_nil _, (fun _ h => by cases h), b2⟩
  have hbb := (inB_iff _ _ _).1 hS
  obtain ⟨c, rfl⟩ : ∃ c : Nat, b = c := ⟨b.toNat, by omega⟩
  have hc : c < M.heads.length := by omega
  have HV : Hid (E0 = slotsE M c ∧ L0 = slotsL M c) := by
    have h : slotsCE M c = slotsE M c := by unfold slotsCE; rw [if_neg (by simpa using HC.out), if_neg (by rw [hS]; simp)]; rfl
    refine ⟨HE0.out.trans h, HL0.out.trans ?_⟩
    unfold slotsCL
    rw [h]
    unfold slotsE slotsL
    cases chOk M c <;> simp
  obtain ⟨q0, q1, q2, q3, q4, f0, f1, f2, f3, f4, qs⟩ := boxf HB2.out
  clear f0 f1 f2 f3 f4 hS hbb
  have HA2 : Hid _ := HA.out.below b2
  go_wp2_with fail
  refine (slotsOf_hi M aS aH aF aL cS cH cF cL c w2 HA2.out hok hc).mono ?_
  rintro e w3 ⟨ao, cap, rfl, hrow, hhi, hb3⟩
  have b3 := b2.trans (hb3.mono b2.size)
  have HR : Hid _ := hrow
  have HHi : Hid (∀ ad, ao = some ad → w.heap.size ≤ ad.block) := fun ad h => Nat.le_trans b2.size (hhi ad h)
  clear hhi
  clear hrow hb3 b2 HB2 q0 q1 q2 q3 q4 qs HA2
  generalize slotsE M c = e1 at *
  generalize slotsL M c = l1 at *
  go_wp2
  go_ret2
  exact ⟨ao, cap, by rw [HV.out.1, HV.out.2]; rfl, by rw [HV.out.2]; exact HR.out, HHi.out, b3⟩


theorem IRow.beside {w w' : World} {ao : Option Addr} {cap : Nat} {l : List Int} {ob : Option Nat} (r : IRow w ao cap l) (h : ∀ k, k < w.heap.size → some k ≠ ob → w'.heap[k]? = w.heap[k]?) (hne : ∀ ad, ao = some ad → ob ≠ some ad.block) : IRow w' ao cap l := by
  refine ⟨r.le, r.max, r.nil, ?_⟩
  rcases r.at_ with h0 | ⟨b, o, e, hc⟩
  · exact .inl h0
  · refine .inr ⟨b, o, e, fun i hi => ?_⟩
    rw [World.cell?_of_block (a := ⟨b, o + i, none⟩) (h b (cell_lt (hc i hi)) (fun e1 => hne _ e e1.symm))]
    exact hc i hi

/- append of a list of ints onto a row of one's own, whether or not the list is nil, where the operation is wanted. -/
theorem wpList_append_list {w : World} {ops : Array Oper} {rest : List Oper} {o : Oper} {a : Act} {Q : Exit → Act → World → Prop} (hw : Region.wanted o (yielded ops a.tmps) = true) (s x : Operand)
    (ho : o.op = .call { callee := .builtin .append, args := #[s, x], argTypes := #[23, 23] })
    (base : Nat) (v : Value) (n : Nat) (xs : List Value) (hs : a.eval s = v) (hown : w.ownsRow base 3 1 v n xs)
    (ao : Option Addr) (cap : Nat) (l : List Int) (hx : a.eval x = .slice ao l.length cap) (hrow : IRow w ao cap l) (h63 : n + l.length ≤ 1000) (hbase : base ≤ w.heap.size)
    (h : ∀ v' w', w'.ownsRow base 3 1 v' (n + l.length) (xs ++ encI l) → w.grownBy w' v.ownBlock → wpList Try.prog ops Q rest (a.put o.dst v') w') :
    wpList Try.prog ops Q (o :: rest) a w := by
  obtain ⟨i0, hi, hz0, hz1, hz2⟩ := info_parts iI
  refine wpList_step fun K hK => ?_
  rw [if_pos hw]
  have hrun : ∃ v' w', (Builtin.append_ #[23, 23] o.type #[v, .slice ao l.length cap]).run Try.prog w = .ok v' w' ∧ w'.ownsRow base 3 1 v' (n + l.length) (xs ++ encI l) ∧ w.grownBy w' v.ownBlock := by
    cases ao with
    | none =>
      have hc := hrow.nil rfl
      have hl := hrow.le
      have hl0 : l.length = 0 := by omega
      have hn := List.eq_nil_of_length_eq_zero hl0
      subst hn hc
      exact ⟨v, w, run_append_owned_none w base 23 o.type 3 i0 1 Try.underlying23 hi v n xs hown, by simpa [encI] using hown, ⟨rfl, rfl, rfl, Nat.le_refl _, fun _ _ _ => rfl⟩⟩
    | some ad =>
      obtain ⟨v', w', hr, h2, h3, -, -⟩ := run_append_own_at (P := Try.prog) w base 23 o.type 3 i0 (.int .i64 0) 1 8 Try.underlying23 hi hz0 hz1 hz2 rfl (by decide) v n xs hown ad l.length cap (encI l) (by rw [encI_len]; omega) (hrow.src ad rfl) (encI_one l) (by unfold maxLen; omega) (by omega) hbase
      exact ⟨v', w', hr, h2, h3⟩
  obtain ⟨v', w', hr, h2, h3⟩ := hrun
  unfold Oper.wp execOp
  simp only [ho, resolve, invoke, builtin, Sem.run_bind, Sem.run_pure, Result.andThen_ok, List.map_toArray, List.map_cons, List.map_nil, hs, hx, hr]
  exact hK _ _ (h v' w' h2 h3)




end Go.Proofs.Ytdbilofhcadmoab.mm
