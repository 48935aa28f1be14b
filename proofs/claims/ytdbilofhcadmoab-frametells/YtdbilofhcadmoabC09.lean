/- Contracts of the numbers that stand behind slots: ToSlot, ToEnd, SlotOf, HasChain; append onto a row of one's own as one step of a region that draws. -/
import Derived.Test.YtdbilofhcadmoabC01
import Derived.Test.YtdbilofhcadmoabC08
import Derived.Deep.RegionLaw
import Derived.Maps.AppendAt
import Derived.Test.YtdbilofhcadmoabC06
import Derived.Laws.AppendOwnNone
import Derived.Deep.QuietTactic
import Derived.BigQuiet
import Derived.BigRegion
import Derived.Test.YtdbilofhcadmoabC04
import Derived.Maps.OwnOps
import Derived.Maps.OwnSet
namespace Go.Proofs.Ytdbilofhcadmoab.mm
open Go.ChangeShapes Go.WideShapes Go.ChangeAt Go.RowKit
set_option linter.unusedVariables false

theorem toEnd_any (b : Int) (w : World) (h0 : 0 ≤ b) (h1 : b ≤ 1000) : Calls Try.prog 139 #[.int .i64 b] w fun e w' => e = .returned (.int .i64 (-1 - b)) ∧ w = w' := by
  go_enter Try.func139, Try.ntmps139
  go_wp2
  go_ret
  exact ⟨by go_num, rfl⟩
theorem toSlot_any (b : Int) (w : World) (h0 : 0 ≤ b) (h1 : b ≤ 1000) : Calls Try.prog 148 #[.int .i64 b] w fun e w' => e = .returned (.int .i64 (b + 1)) ∧ w = w' := by
  go_enter Try.func148, Try.ntmps148
  go_wp2
  go_ret
  exact ⟨by go_num, rfl⟩
theorem slotOf_no (n : Int) (w : World) (h : n ≤ 0) : Calls Try.prog 144 #[.int .i64 n] w fun e w' => e = .returned (.tuple #[.int .i64 0, .bool false]) ∧ w = w' := by
  go_enter Try.func144, Try.ntmps144
  go_wp2
  go_ret2
  exact ⟨rfl, rfl⟩
theorem slotOf_is (n : Int) (w : World) (h : 0 < n) (h1 : n ≤ 1000) : Calls Try.prog 144 #[.int .i64 n] w fun e w' => e = .returned (.tuple #[.int .i64 (n - 1), .bool true]) ∧ w = w' := by
  go_enter Try.func144, Try.ntmps144
  go_wp2
  go_ret2
  exact ⟨by go_num, rfl⟩
theorem hasChain_any (aS aH aF aL : Option Addr) (nS nH nF nL cS cH cF cL : Nat) (now a : Int) (w : World) (hn : nH ≤ 9223372036854775807) :
    Calls Try.prog 75 #[.agg #[.slice aS nS cS, .slice aH nH cH, .slice aF nF cF, .slice aL nL cL, .int .i64 now], .int .i64 a] w fun e w' => e = .returned (.bool (inB a 0 ((nH : Int) - 1))) ∧ Below w.heap.size w w' := by
  by_cases h : 0 ≤ a
  · by_cases h2 : a < nH
    · go_enter Try.func75, Try.ntmps75
      go_wp2
      go_ret
      refine ⟨?_, one_below _ _⟩
      rw [show inB a 0 ((nH : Int) - 1) = true from (inB_iff _ _ _).2 ⟨h, by omega⟩]; rfl
    · have h3 : (nH : Int) ≤ a := by omega
      go_enter Try.func75, Try.ntmps75
      go_wp2
      go_ret
      refine ⟨?_, one_below _ _⟩
      rw [show inB a 0 ((nH : Int) - 1) = false by simp [inB]; omega]; rfl
  · have h' : a < 0 := by omega
    go_enter Try.func75, Try.ntmps75
    go_wp2
    go_ret
    refine ⟨?_, one_below _ _⟩
    rw [show inB a 0 ((nH : Int) - 1) = false by simp [inB]; omega]; rfl

theorem step_append_own_at {P : Program} (w : World) {ops : Array Oper} {o : Oper} {a : Act} {K : Act → World → Prop} {Q : Exit → Act → World → Prop} {E : Prop} (hgd : o.guard = none) (s x : Operand) (t : TypeId)
    (ho : o.op = .call { callee := .builtin .append, args := #[s, x], argTypes := #[t, t] })
    (base : Nat) (e : TypeId) (i : TypeInfo) (z : Value) (size bytes : Nat) (ht : P.underlying t = some (.slice e)) (hi : P.info? e = some i) (hz : i.zero = some z)
    (hsize : i.size = size) (hby : i.bytes = bytes) (hzs : z.cells.size = size) (hsz : 0 < size)
    (v : Value) (n : Nat) (xs : List Value) (hs : a.eval s = v) (hown : w.ownsRow base e size v n xs)
    (ad : Addr) (m c : Nat) (news : List Value) (hx : a.eval x = .slice (some ad) m c) (hl : news.length = m * size) (hnews : ∀ j u, news[j]? = some u → w.cell? (ad.add j) = some u) (h1 : ∀ u ∈ news, u.oneCell' = true)
    (h63 : n + m ≤ maxLen) (hbytes : (n + m) * bytes ≤ 140737488355328) (hbase : base ≤ w.heap.size)
    (h : ∀ v' w', w'.ownsRow base e size v' (n + m) (xs ++ news) → w.grownBy w' v.ownBlock → (v' = .slice none 0 0 ↔ v = .slice none 0 0 ∧ m = 0) → (v'.ownBlock = v.ownBlock ∨ v'.ownBlock = some w.heap.size) → K (a.put o.dst v') w') :
    if Region.wanted o (yielded ops a.tmps) = true then Oper.wp P o a w K Q else E := by
  have hw : Region.wanted o (yielded ops a.tmps) = true := by simp [Region.wanted, hgd]
  rw [if_pos hw]
  obtain ⟨v', w', hr, h2, h3, h4, h5⟩ := run_append_own_at (P := P) w base t o.type e i z size bytes ht hi hz hsize hby hzs hsz v n xs hown ad m c news hl hnews h1 h63 hbytes hbase
  unfold Oper.wp execOp
  simp only [ho, resolve, invoke, builtin, Sem.run_bind, Sem.run_pure, Result.andThen_ok, List.map_toArray, List.map_cons, List.map_nil, hs, hx, hr]
  exact h v' w' h2 h3 h4 h5



end Go.Proofs.Ytdbilofhcadmoab.mm

/- The contracts of the document's own TakeIn, HoldIn, PutIn on memory of one's own. -/
namespace Go.Proofs.Ytdbilofhcadmoab.mm
open Go.ChangeShapes Go.WideShapes Go.ChangeAt Go.RowKit Go.Joins Go.Deep
set_option maxRecDepth 100000
set_option linter.unusedVariables false

theorem rhold_no (w : World) (B gS nS j cS : Nat) (hv fv lv nv : Value) (r : Int)
    (hB : w.heap[B]? = some (.cells #[.slice (some ⟨gS, 0, none⟩) nS cS, hv, fv, lv, nv] 25 (0, 0))) (hj : j < nS) (hS : nS ≤ 9223372036854775807) (c0 : w.cell? ⟨gS, j * 6, none⟩ = some (.int .i64 r)) (hr : r ≤ 0 ∨ 1000 ≤ r) :
    Calls Try.prog 101 #[.pointer (some ⟨B, 0, none⟩), .int .i64 j] w fun e w' => e = .returned (.bool false) ∧ w = w' := by
  obtain ⟨q0, q1, q2, q3, q4, f0, f1, f2, f3, f4, qs⟩ := boxf hB
  clear hB
  by_cases h0 : r ≤ 0
  · go_enter Try.func101, Try.ntmps101
    go_wp2
    go_ret
    exact ⟨rfl, rfl⟩
  · have h1 : 1000 ≤ r := by omega
    have h2 : 0 < r := by omega
    go_enter Try.func101, Try.ntmps101
    go_wp2
    go_ret
    exact ⟨rfl, rfl⟩

theorem rhold_yes (w : World) (B gS nS j cS : Nat) (hv fv lv nv : Value) (r : Int)
    (hB : w.heap[B]? = some (.cells #[.slice (some ⟨gS, 0, none⟩) nS cS, hv, fv, lv, nv] 25 (0, 0))) (hj : j < nS) (hS : nS ≤ 9223372036854775807) (c0 : w.cell? ⟨gS, j * 6, none⟩ = some (.int .i64 r)) (f0 : w.frozen? ⟨gS, j * 6, none⟩ = false) (h0 : 0 < r) (h1 : r < 1000) :
    Calls Try.prog 101 #[.pointer (some ⟨B, 0, none⟩), .int .i64 j] w fun e w' => e = .returned (.bool true) ∧ w.setCell ⟨gS, j * 6, none⟩ (.int .i64 (r + 1)) = w' := by
  obtain ⟨q0, q1, q2, q3, q4, -, -, -, -, -, qs⟩ := boxf hB
  clear hB
  go_enter Try.func101, Try.ntmps101
  go_wp2
  go_ret
  exact ⟨rfl, rfl⟩

theorem rhold_fail (M : Mm) (w : World) (B lo : Nat) (aS aH aF aL : Option Addr) (cS cH cF cL : Nat) (i : Int) (m : Mine w B lo aS aH aF aL cS cH cF cL M) (h0 : 0 ≤ i) (h1 : i < M.slots.length) (hr : refsM M i ≤ 0 ∨ 1000 ≤ refsM M i) :
    Calls Try.prog 101 #[.pointer (some ⟨B, 0, none⟩), .int .i64 i] w fun e w' => e = .returned (.bool false) ∧ w = w' := by
  obtain ⟨j, rfl⟩ : ∃ j : Nat, i = j := ⟨i.toNat, by omega⟩
  have hj : j < M.slots.length := by omega
  have m1 := m.m1
  obtain ⟨gS, rfl, -, -, -, -⟩ := row_form m.c.s (by omega)
  rw [refsM_at M j hj] at hr
  exact rhold_no w B gS _ j cS _ _ _ _ _ m.box hj (by omega) (row_cells m.c.s hj).1 hr

theorem rhold_now (M : Mm) (w : World) (B lo : Nat) (aS aH aF aL : Option Addr) (cS cH cF cL : Nat) (i : Int) (m : Mine w B lo aS aH aF aL cS cH cF cL M) (h0 : 0 ≤ i) (h1 : i < M.slots.length) (hr : 0 < refsM M i) (hr1 : refsM M i < 1000) :
    Calls Try.prog 101 #[.pointer (some ⟨B, 0, none⟩), .int .i64 i] w fun e w' => e = .returned (.bool true) ∧ Now w w' B lo (holdM M i) := by
  obtain ⟨j, rfl⟩ : ∃ j : Nat, i = j := ⟨i.toNat, by omega⟩
  have hj : j < M.slots.length := by omega
  have m1 := m.m1
  obtain ⟨gS, rfl, oS, -, -, -⟩ := row_form m.c.s (by omega)
  have hrr := refsM_at M j hj
  rw [hrr] at hr hr1
  obtain ⟨c0, -, -, -, -, -, fz⟩ := row_cells m.c.s hj
  refine (rhold_yes w B gS _ j cS _ _ _ _ _ m.box hj (by omega) c0 (fz _) hr hr1).mono ?_
  rintro e w' ⟨rfl, rfl⟩
  have mt := turned m hj (M.slots[j].refs + 1)
  rw [← hrr] at mt ⊢
  exact ⟨rfl, _, _, _, _, _, _, _, _, mt, (Kept.refl w B lo).setCell oS _⟩

theorem rput_none (w : World) (B gS nS j cS : Nat) (hv fv lv nv : Value)
    (hB : w.heap[B]? = some (.cells #[.slice (some ⟨gS, 0, none⟩) nS cS, hv, fv, lv, nv] 25 (0, 0))) (hj : j < nS) (hS : nS ≤ 9223372036854775807) (c0 : w.cell? ⟨gS, j * 6, none⟩ = some (.int .i64 0)) :
    Calls Try.prog 102 #[.pointer (some ⟨B, 0, none⟩), .int .i64 j] w fun e w' => e = .returned (.tuple #[]) ∧ w = w' := by
  obtain ⟨q0, q1, q2, q3, q4, f0, f1, f2, f3, f4, qs⟩ := boxf hB
  clear hB
  go_enter Try.func102, Try.ntmps102
  go_wp2
  go_end0
  exact ⟨rfl, rfl⟩

theorem rput_more (w : World) (B gS nS j cS : Nat) (hv fv lv nv : Value) (r : Int)
    (hB : w.heap[B]? = some (.cells #[.slice (some ⟨gS, 0, none⟩) nS cS, hv, fv, lv, nv] 25 (0, 0))) (hj : j < nS) (hS : nS ≤ 9223372036854775807) (c0 : w.cell? ⟨gS, j * 6, none⟩ = some (.int .i64 r)) (f0 : w.frozen? ⟨gS, j * 6, none⟩ = false) (h0 : 1 < r) (h1 : r ≤ 1000) :
    Calls Try.prog 102 #[.pointer (some ⟨B, 0, none⟩), .int .i64 j] w fun e w' => e = .returned (.tuple #[]) ∧ w.setCell ⟨gS, j * 6, none⟩ (.int .i64 (r - 1)) = w' := by
  obtain ⟨q0, q1, q2, q3, q4, -, -, -, -, -, qs⟩ := boxf hB
  clear hB
  have e0 : (r == 0) = false := by rw [beq_eq_false_iff_ne]; omega
  have e1 : (r == 1) = false := by rw [beq_eq_false_iff_ne]; omega
  go_enter Try.func102, Try.ntmps102
  go_wp2
  go_end0
  exact ⟨rfl, rfl⟩

/- append of a list, nil or not, onto a row of one's own. -/
theorem wpList_app {P : Program} (w : World) {ops : Array Oper} {rest : List Oper} {o : Oper} {a : Act} {Q : Exit → Act → World → Prop} (hgd : o.guard = none) (s x : Operand) (t : TypeId)
    (ho : o.op = .call { callee := .builtin .append, args := #[s, x], argTypes := #[t, t] })
    (base : Nat) (e : TypeId) (i : TypeInfo) (z : Value) (size bytes : Nat) (ht : P.underlying t = some (.slice e)) (hi : P.info? e = some i) (hz : i.zero = some z)
    (hsize : i.size = size) (hby : i.bytes = bytes) (hzs : z.cells.size = size) (hsz : 0 < size)
    (v : Value) (n : Nat) (xs : List Value) (hs : a.eval s = v) (hown : w.ownsRow base e size v n xs)
    (ao : Option Addr) (m c : Nat) (news : List Value) (hx : a.eval x = .slice ao m c) (hl : news.length = m * size) (hn : ao = none → m = 0 ∧ c = 0) (hnews : ∀ ad, ao = some ad → ∀ j u, news[j]? = some u → w.cell? (ad.add j) = some u) (h1 : ∀ u ∈ news, u.oneCell' = true)
    (h63 : n + m ≤ maxLen) (hbytes : (n + m) * bytes ≤ 140737488355328) (hbase : base ≤ w.heap.size)
    (h : ∀ v' w', w'.ownsRow base e size v' (n + m) (xs ++ news) → w.grownBy w' v.ownBlock → (v'.ownBlock = v.ownBlock ∨ v'.ownBlock = some w.heap.size) → wpList P ops Q rest (a.put o.dst v') w') :
    wpList P ops Q (o :: rest) a w := by
  cases ao with
  | some ad => exact wpList_append_own_at w hgd s x t ho base e i z size bytes ht hi hz hsize hby hzs hsz v n xs hs hown ad m c news hx hl (hnews ad rfl) h1 h63 hbytes hbase fun v' w' a1 a2 _ a4 => h v' w' a1 a2 a4
  | none =>
    obtain ⟨rfl, rfl⟩ := hn rfl
    have hnil : news = [] := List.eq_nil_of_length_eq_zero (by rw [hl, Nat.zero_mul])
    subst hnil
    have hr := run_append_owned_none (P := P) w base t o.type e i size ht hi v n xs hown
    refine wpList_plain hgd fun K hK => ?_
    unfold Oper.wp execOp
    simp only [ho, resolve, invoke, builtin, Sem.run_bind, Sem.run_pure, Result.andThen_ok, List.map_toArray, List.map_cons, List.map_nil, hs, hx, hr]
    refine hK _ _ (h v w ?_ ⟨rfl, rfl, rfl, Nat.le_refl _, fun _ _ _ => rfl⟩ (.inl rfl))
    rw [Nat.add_zero, List.append_nil]
    exact hown

theorem lit_row (w : World) (e : TypeId) (size lo n : Nat) (hn : n = w.heap.size) (h : lo ≤ w.heap.size) : (w.alloc (.cells #[] e)).ownsRow lo e size (.slice (some ⟨n, 0, none⟩) 0 0) 0 [] := by
  subst hn
  exact World.ownsRow_lit w #[] 0 h (Nat.zero_le _) (by simp)

set_option maxHeartbeats 1600000 in
theorem rput_last (w : World) (B gS nS j lo cS cF : Nat) (aF : Option Addr) (F : List Int) (hv lv nv : Value)
    (hB : w.heap[B]? = some (.cells #[.slice (some ⟨gS, 0, none⟩) nS cS, hv, .slice aF F.length cF, lv, nv] 25 (0, 0))) (hj : j < nS) (hS : nS ≤ 9223372036854775807) (c0 : w.cell? ⟨gS, j * 6, none⟩ = some (.int .i64 1)) (f0 : w.frozen? ⟨gS, j * 6, none⟩ = false)
    (hne : B ≠ gS) (hO : IRow (w.setCell ⟨gS, j * 6, none⟩ (.int .i64 0)) aF cF F) (hm : F.length * 8 ≤ 140737488350000) :
    Calls Try.prog 102 #[.pointer (some ⟨B, 0, none⟩), .int .i64 j] w fun e w' => e = .returned (.tuple #[]) ∧ ∃ a' c' w1, Below w.heap.size (w.setCell ⟨gS, j * 6, none⟩ (.int .i64 0)) w1 ∧
      w1.ownsRow w.heap.size 3 1 (.slice a' (F.length + 1) c') (F.length + 1) (encI (F ++ [(j : Int)])) ∧ w1.setCell ⟨B, 2, none⟩ (.slice a' (F.length + 1) c') = w' := by
  obtain ⟨q0, q1, q2, q3, q4, -, -, f2, -, -, qs⟩ := boxf hB
  obtain ⟨i0, hi, hz0, hz1, hz2⟩ := info_parts iI
  have hne' : (⟨gS, j * 6, none⟩ : Addr) ≠ ⟨B, 2, none⟩ := by intro h; injection h with h; omega
  have hBs : (w.setCell ⟨gS, j * 6, none⟩ (.int .i64 0)).heap[B]? = _ := (Below.heap_setCell _ _ _ _ (by dsimp only; exact hne)).trans hB
  have HO : Hid (IRow (w.setCell ⟨gS, j * 6, none⟩ (.int .i64 0)) aF cF F) := hO
  have HBs : Hid _ := hBs
  have hzw : (w.setCell ⟨gS, j * 6, none⟩ (.int .i64 0)).heap.size = w.heap.size := World.size_setCell ..
  have HZw : Hid _ := hzw
  have HB : Hid _ := hB
  clear hB hO hBs hzw
  have HN : Hid (aF = none → F.length = 0 ∧ cF = 0) := fun h => ⟨by have := HO.out.nil h; have := HO.out.le; omega, HO.out.nil h⟩
  have HSr : Hid (∀ ad, aF = some ad → ∀ j' u, (encI F)[j']? = some u → ((w.setCell ⟨gS, j * 6, none⟩ (.int .i64 0)).alloc (.cells #[] 3)).cell? (ad.add j') = some u) := (HO.out.below (one_below _ _)).src
  have HLt : Hid (((w.setCell ⟨gS, j * 6, none⟩ (.int .i64 0)).alloc (.cells #[] 3)).ownsRow w.heap.size 3 1 (.slice (some ⟨w.heap.size, 0, none⟩) 0 0) 0 []) := lit_row _ 3 1 w.heap.size _ HZw.out.symm (Nat.le_of_eq HZw.out.symm)
  have hL63 : 0 + F.length ≤ maxLen := by unfold maxLen; omega
  have HLB : Hid (w.heap.size ≤ ((w.setCell ⟨gS, j * 6, none⟩ (.int .i64 0)).alloc (.cells #[] 3)).heap.size) := by show _ ≤ _; simp
  have HE : Hid ((encI F).length = F.length * 1) := by show _ = _; rw [encI_len, Nat.mul_one]
  go_enter Try.func102, Try.ntmps102
  go_wp2_with (first
    | (at_builtin; (refine wpList_app _ rfl (.tmp 35) (.tmp 39) 23 rfl w.heap.size 3 i0 (.int .i64 0) 1 8 Try.underlying23 hi hz0 hz1 hz2 rfl (by decide) (.slice (some ⟨w.heap.size, 0, none⟩) 0 0) 0 [] rfl HLt.out aF F.length cF (encI F) rfl HE.out HN.out HSr.out (encI_one F) hL63 (by omega) HLB.out ?_; intro v1 w1 hown1 hgrow1 hloc1; rw [Nat.zero_add, List.nil_append] at hown1; obtain ⟨a1, c1, rfl⟩ := own_shape hown1; have HO1 : Hid (w1.ownsRow w.heap.size 3 1 (.slice a1 F.length c1) F.length (encI F)) := hown1; have HG1 : Hid (((w.setCell ⟨gS, j * 6, none⟩ (.int .i64 0)).alloc (.cells #[] 3)).grownBy w1 (some w.heap.size)) := hgrow1; clear hown1 hgrow1 hloc1; have HZ1 : Hid (w.heap.size + 1 ≤ w1.heap.size) := (by have := HG1.out.size; simp at this; exact this)))
    | (at_builtin; (refine wpList_append_own_at _ rfl (.tmp 40) (.tmp 42) 23 rfl w.heap.size 3 i0 (.int .i64 0) 1 8 Try.underlying23 hi hz0 hz1 hz2 rfl (by decide) (.slice a1 F.length c1) F.length (encI F) rfl (HO1.out.alloc _) ⟨w1.heap.size, 0, none⟩ 1 1 [.int .i64 j] rfl rfl (one_new _ _ _ _ rfl) (by intro u hu; simp at hu; subst hu; rfl) (by unfold maxLen; omega) (by omega) (by simp; have := HZ1.out; omega) ?_; intro v2 w2 hown2 hgrow2 _ hloc2; obtain ⟨g2, c2, rfl⟩ := ownsRow_form hown2 (by omega); have HO2 : Hid (w2.ownsRow w.heap.size 3 1 (.slice (some ⟨g2, 0, none⟩) (F.length + 1) c2) (F.length + 1) (encI F ++ [.int .i64 j])) := hown2; have HG2 : Hid ((w1.alloc (.cells #[.int .i64 j] 3)).grownBy w2 (Value.slice a1 F.length c1).ownBlock) := hgrow2; clear hown2 hgrow2 hloc2; have HK2 : Hid (Below w.heap.size (w.setCell ⟨gS, j * 6, none⟩ (.int .i64 0)) w2) := (((((Below.refl _ _).alloc (by rw [HZw.out]; exact Nat.le_refl _) _).grown HG1.out (by simp) (fun k h => by cases h; exact Nat.le_refl _)).alloc (by have := HZ1.out; omega) _).grown HG2.out (by simp; have := HZ1.out; omega) (fun k h => (HO1.out.lt k h).1)); obtain ⟨r2, r3⟩ : w2.cell? ⟨B, 2, none⟩ = some (.slice aF F.length cF) ∧ w2.frozen? ⟨B, 2, none⟩ = false := (by obtain ⟨-, -, k2, -, -, -, -, l2, -, -, -⟩ := boxf ((HK2.out.block B qs).trans HBs.out); exact ⟨k2, l2⟩))))
  go_end0
  refine ⟨rfl, _, _, w2, HK2.out, ?_, rfl⟩
  have := HO2.out
  rwa [show encI F ++ [.int .i64 (j : Int)] = encI (F ++ [(j : Int)]) by simp [encI]] at this

theorem rput_now (M : Mm) (w : World) (B lo : Nat) (aS aH aF aL : Option Addr) (cS cH cF cL : Nat) (i : Int) (m : Mine w B lo aS aH aF aL cS cH cF cL M) (h0 : 0 ≤ i) (h1 : i < M.slots.length) (hr : 0 < refsM M i) (hr1 : refsM M i ≤ 1000) (hm : M.free.length * 8 ≤ 140737488350000) :
    Calls Try.prog 102 #[.pointer (some ⟨B, 0, none⟩), .int .i64 i] w fun e w' => e = .returned (.tuple #[]) ∧ Now w w' B lo (putM M i) := by
  obtain ⟨j, rfl⟩ : ∃ j : Nat, i = j := ⟨i.toNat, by omega⟩
  have hj : j < M.slots.length := by omega
  have m1 := m.m1
  obtain ⟨gS, rfl, oS, -, -, -⟩ := row_form m.c.s (by omega)
  have hrr := refsM_at M j hj
  obtain ⟨c0, -, -, -, -, -, fz⟩ := row_cells m.c.s hj
  by_cases hl : refsM M j = 1
  · rw [← hrr, hl] at c0
    have mt := turned m hj 0
    refine (rput_last w B gS _ j lo cS cF aF M.free _ _ _ m.box hj (by omega) c0 (fz _) m.ne_s mt.at.f hm).mono ?_
    rintro e w' ⟨rfl, a', c', w1, hb, ho, rfl⟩
    have e1 : putM M j = { M with slots := setRefs M j 0, free := M.free ++ [(j : Int)] } := by simp [putM, hl]
    have hlen : (M.free ++ [(j : Int)]).length = M.free.length + 1 := by simp
    rw [e1]
    have hz : (w.setCell ⟨gS, j * 6, none⟩ (.int .i64 0)).heap.size = w.heap.size := World.size_setCell ..
    rw [← hz] at hb ho
    have mg := mt.newF (M.free ++ [(j : Int)]) (by rw [hlen]; omega) hb hlen ho
    refine ⟨rfl, _, _, _, _, _, _, _, _, mg, ?_⟩
    have k1 : Kept w _ B lo := ((Kept.refl w B lo).setCell (j := j * 6) oS (.int .i64 0)).below hb mt.c.lz
    exact k1.setBox _
  · have hr2 : 1 < M.slots[j].refs := by omega
    refine (rput_more w B gS _ j cS _ _ _ _ _ m.box hj (by omega) c0 (fz _) hr2 (by omega)).mono ?_
    rintro e w' ⟨rfl, rfl⟩
    have e1 : putM M j = { M with slots := setRefs M j (refsM M j - 1) } := by simp [putM, hl]
    rw [e1]
    have mt := turned m hj (M.slots[j].refs - 1)
    rw [← hrr] at mt ⊢
    exact ⟨rfl, _, _, _, _, _, _, _, _, mt, (Kept.refl w B lo).setCell oS _⟩

theorem take_mid {w W1 w2 : World} {ob : Obj} (hb : Below w.heap.size w W1) (hk : W1.heap[w.heap.size]? = some ob) (hz : W1.heap.size = w.heap.size + 1) (hg : ((W1.alloc (.cells #[] 3)).drew).grownBy w2 (some W1.heap.size)) :
    Below w.heap.size w w2 ∧ w.heap.size < w2.heap.size ∧ w2.heap[w.heap.size]? = some ob := by
  have h1 : Below W1.heap.size W1 w2 := ((one_below W1 (.cells #[] 3)).drew).grown hg (by simp) (fun k h => by cases h; exact Nat.le_refl _)
  refine ⟨hb.trans (h1.mono (by omega)), by have := h1.size; omega, (h1.block _ (by omega)).trans hk⟩
theorem take_cells {w w2 : World} {gS j : Nat} {r a b v nx : Int} {i : Bool} (hb : Below w.heap.size w w2) (l : gS < w.heap.size)
    (c0 : w.cell? ⟨gS, j * 6, none⟩ = some (.int .i64 r)) (c1 : w.cell? ⟨gS, j * 6 + 1, none⟩ = some (.int .i64 a)) (c2 : w.cell? ⟨gS, j * 6 + 2, none⟩ = some (.int .i64 b)) (c3 : w.cell? ⟨gS, j * 6 + 3, none⟩ = some (.int .i64 v)) (c4 : w.cell? ⟨gS, j * 6 + 4, none⟩ = some (.bool i)) (c5 : w.cell? ⟨gS, j * 6 + 5, none⟩ = some (.int .i64 nx))
    (hfz : ∀ q, w.frozen? ⟨gS, q, none⟩ = false) : w2.cell? ⟨gS, j * 6, none⟩ = some (.int .i64 r) ∧ w2.cell? ⟨gS, j * 6 + 1, none⟩ = some (.int .i64 a) ∧ w2.cell? ⟨gS, j * 6 + 2, none⟩ = some (.int .i64 b) ∧ w2.cell? ⟨gS, j * 6 + 3, none⟩ = some (.int .i64 v) ∧ w2.cell? ⟨gS, j * 6 + 4, none⟩ = some (.bool i) ∧ w2.cell? ⟨gS, j * 6 + 5, none⟩ = some (.int .i64 nx) ∧ ∀ q, w2.frozen? ⟨gS, q, none⟩ = false := by
  obtain ⟨q, f⟩ := bcell hb
  exact ⟨(q _ _ l).trans c0, (q _ _ l).trans c1, (q _ _ l).trans c2, (q _ _ l).trans c3, (q _ _ l).trans c4, (q _ _ l).trans c5, fun x => (f _ _ l).trans (hfz x)⟩


end Go.Proofs.Ytdbilofhcadmoab.mm

/- The contract of the document's own IsKey; a set of ints as a map of one's own. -/
namespace Go.Proofs.Ytdbilofhcadmoab.mm
open Go.ChangeShapes Go.WideShapes Go.ChangeAt Go.RowKit Go.Maps
set_option maxRecDepth 100000
set_option linter.unusedVariables false

theorem isKey_any (a b : Int) (w : World) :
    Calls Try.prog 82 #[.agg #[.int .i64 a, .int .i64 b]] w fun e w' => e = .returned (.bool (keyB a b)) ∧ Below w.heap.size w w' := by
  cases h : keyB a b
  · have hc : a < 0 ∨ (0 ≤ a ∧ 15 < a) ∨ (0 ≤ a ∧ a ≤ 15 ∧ b < 0) ∨ (0 ≤ a ∧ a ≤ 15 ∧ 0 ≤ b ∧ 15 < b) := by
      have : ¬ ((0 ≤ a ∧ a ≤ 15) ∧ (0 ≤ b ∧ b ≤ 15)) := fun hh => by rw [(keyB_iff a b).2 hh] at h; cases h
      omega
    clear h
    rcases hc with h | ⟨h1, h2⟩ | ⟨h1, h2, h3⟩ | ⟨h1, h2, h3, h4⟩
    rotate_left 3
    · have hd : decide (b ≤ 15) = false := by simp; omega
      go_enter Try.func82, Try.ntmps82
      go_wp2
      go_ret
      exact ⟨rfl, one_below _ _⟩
    all_goals
      go_enter Try.func82, Try.ntmps82
      go_wp2
      go_ret
      exact ⟨rfl, one_below _ _⟩
  · obtain ⟨⟨h0, h1⟩, h2, h3⟩ := (keyB_iff a b).1 h
    clear h
    go_enter Try.func82, Try.ntmps82
    go_wp2
    go_ret
    exact ⟨rfl, one_below _ _⟩

theorem law3 : Keyed Try.prog 3 := int_keyed Try.underlying3
theorem zero4 (w : World) : (zeroValue 4).run Try.prog w = .ok (.bool false) w := by kernel_rfl
theorem under130 : Try.prog.underlying 130 = some (.map 3 4) := by kernel_rfl

theorem plainElem_bool_inv {H : Type} {v : Value} {z : DataW H × List MemPlace} (h : plainElem Try.prog 4 v = some z) : ∃ x, v = .bool x ∧ z = (.lit (.bool x), []) := by
  unfold plainElem at h
  rw [Try.underlying4] at h
  cases v <;> simp at h
  exact ⟨_, rfl, h.symm⟩

/- Block g is a map whose keys that are true are these. -/
def SetAt (w : World) (g : Nat) (l : List Int) : Prop :=
  ∃ n, n ≤ l.length ∧ ∃ D : DataW Unit, w.ownsMap Try.prog 3 (plainElem Try.prog 4) g n D ∧ ∀ x : Int, D.atKey (.int .i64 x) (.lit (.bool false)) = .lit (.bool (hasB l x))

theorem SetAt.made (w : World) : SetAt (w.alloc (.map #[] 0)) w.heap.size [] :=
  ⟨0, Nat.le_refl _, _, World.ownsMap_made w Try.prog 3 _, fun x => by simp [hasB, DataW.atKey]⟩
theorem SetAt.kept {w w' : World} {g : Nat} {l : List Int} (h : SetAt w g l) (hb : w'.heap[g]? = w.heap[g]?) : SetAt w' g l := by
  obtain ⟨n, hn, D, ⟨es, clock, hg, F, hs, hD⟩, hat⟩ := h
  exact ⟨n, hn, D, ⟨es, clock, hb.trans hg, F, hs, hD⟩, hat⟩
theorem SetAt.lt {w : World} {g : Nat} {l : List Int} (h : SetAt w g l) : g < w.heap.size := by
  obtain ⟨n, hn, D, ⟨es, clock, hg, F, hs, hD⟩, hat⟩ := h
  exact lt_of_block hg
theorem SetAt.look {w : World} {g : Nat} {l : List Int} (h : SetAt w g l) {x : Int} (hx : (Lit.int .i64 x).wf = true) : (Instr.lookup 130 (.map (some g)) (.int .i64 x) false).run Try.prog w = .ok (.bool (hasB l x)) w := by
  obtain ⟨n, hn, D, ho, hat⟩ := h
  obtain ⟨v, ps, hrun, hv⟩ := ho.lookup law3 under130 (zero4 w) (plainElem_bool Try.underlying4 false) (keyOf_int_mk Try.underlying3 hx)
  rw [hat x] at hv
  obtain ⟨y, rfl, hz⟩ := plainElem_bool_inv hv
  rw [hrun]
  injection hz with h1 h2
  injection h1 with h1
  injection h1 with h1
  rw [h1]
theorem wf64 {x : Int} (h0 : -9223372036854775808 ≤ x) (h1 : x ≤ 9223372036854775807) : (Lit.int .i64 x).wf = true := by
  have e1 : IntKind.i64.min = -9223372036854775808 := by decide
  have e2 : IntKind.i64.max = 9223372036854775807 := by decide
  simp [Lit.wf, e1, e2]
  omega
theorem SetAt.put {w w' : World} {g n : Nat} {l : List Int} {D : DataW Unit} {x : Int} (hn : n ≤ l.length) (ho : w.ownsMap Try.prog 3 (plainElem Try.prog 4) g n D) (hat : ∀ x : Int, D.atKey (.int .i64 x) (.lit (.bool false)) = .lit (.bool (hasB l x)))
    (h : w'.ownsMap Try.prog 3 (plainElem Try.prog 4) g (n + 1) (D.put (.int .i64 x) (.lit (.bool true)))) : SetAt w' g (l ++ [x]) := by
  refine ⟨n + 1, by simp; omega, _, h, fun y => ?_⟩
  by_cases e : y = x
  · subst e
    rw [atKey_put_same (ho.tidy law3).isMap (by simp [WideAt.IsKeyLit])]
    simp [hasB]
  · rw [atKey_put_other (by intro hh; injection hh with _ hh; exact e hh), hat y]
    simp [hasB, e]




end Go.Proofs.Ytdbilofhcadmoab.mm
