/- The contracts of the document's own TakeIn, HoldIn, PutIn on memory of one's own. -/
import Derived.Test.YtdbilofhcadmoaaTaken
import Derived.Test.YtdbilofhcadmoaaSmall
import Derived.Laws.AppendOwnNone
import Derived.Deep.RegionLaw
import Derived.Deep.QuietTactic
import Derived.BigQuiet
import Derived.BigRegion
namespace Go.Proofs.Ytdbilofhcadmoaa.mm
open Go.ChangeShapes Go.WideShapes Go.ChangeAt Go.RowKit Go.Joins Go.Deep
set_option maxRecDepth 100000
set_option linter.unusedVariables false

theorem rhold_no (w : World) (B gS nS j cS : Nat) (hv fv lv nv : Value) (r : Int)
    (hB : w.heap[B]? = some (.cells #[.slice (some ⟨gS, 0, none⟩) nS cS, hv, fv, lv, nv] 29 (0, 0))) (hj : j < nS) (hS : nS ≤ 9223372036854775807) (c0 : w.cell? ⟨gS, j * 6, none⟩ = some (.int .i64 r)) (hr : r ≤ 0 ∨ 1000 ≤ r) :
    Calls Try.prog 26 #[.pointer (some ⟨B, 0, none⟩), .int .i64 j] w fun e w' => e = .returned (.bool false) ∧ w = w' := by
  obtain ⟨q0, q1, q2, q3, q4, f0, f1, f2, f3, f4, qs⟩ := boxf hB
  clear hB
  by_cases h0 : r ≤ 0
  · go_enter Try.func26, Try.ntmps26
    go_wp2
    go_ret
    exact ⟨rfl, rfl⟩
  · have h1 : 1000 ≤ r := by omega
    have h2 : 0 < r := by omega
    go_enter Try.func26, Try.ntmps26
    go_wp2
    go_ret
    exact ⟨rfl, rfl⟩

theorem rhold_yes (w : World) (B gS nS j cS : Nat) (hv fv lv nv : Value) (r : Int)
    (hB : w.heap[B]? = some (.cells #[.slice (some ⟨gS, 0, none⟩) nS cS, hv, fv, lv, nv] 29 (0, 0))) (hj : j < nS) (hS : nS ≤ 9223372036854775807) (c0 : w.cell? ⟨gS, j * 6, none⟩ = some (.int .i64 r)) (f0 : w.frozen? ⟨gS, j * 6, none⟩ = false) (h0 : 0 < r) (h1 : r < 1000) :
    Calls Try.prog 26 #[.pointer (some ⟨B, 0, none⟩), .int .i64 j] w fun e w' => e = .returned (.bool true) ∧ w.setCell ⟨gS, j * 6, none⟩ (.int .i64 (r + 1)) = w' := by
  obtain ⟨q0, q1, q2, q3, q4, -, -, -, -, -, qs⟩ := boxf hB
  clear hB
  go_enter Try.func26, Try.ntmps26
  go_wp2
  go_ret
  exact ⟨rfl, rfl⟩

theorem rhold_fail (M : Mm) (w : World) (B lo : Nat) (aS aH aF aL : Option Addr) (cS cH cF cL : Nat) (i : Int) (m : Mine w B lo aS aH aF aL cS cH cF cL M) (h0 : 0 ≤ i) (h1 : i < M.slots.length) (hr : refsM M i ≤ 0 ∨ 1000 ≤ refsM M i) :
    Calls Try.prog 26 #[.pointer (some ⟨B, 0, none⟩), .int .i64 i] w fun e w' => e = .returned (.bool false) ∧ w = w' := by
  obtain ⟨j, rfl⟩ : ∃ j : Nat, i = j := ⟨i.toNat, by omega⟩
  have hj : j < M.slots.length := by omega
  have m1 := m.m1
  obtain ⟨gS, rfl, -, -, -, -⟩ := row_form m.c.s (by omega)
  rw [refsM_at M j hj] at hr
  exact rhold_no w B gS _ j cS _ _ _ _ _ m.box hj (by omega) (row_cells m.c.s hj).1 hr

theorem rhold_now (M : Mm) (w : World) (B lo : Nat) (aS aH aF aL : Option Addr) (cS cH cF cL : Nat) (i : Int) (m : Mine w B lo aS aH aF aL cS cH cF cL M) (h0 : 0 ≤ i) (h1 : i < M.slots.length) (hr : 0 < refsM M i) (hr1 : refsM M i < 1000) :
    Calls Try.prog 26 #[.pointer (some ⟨B, 0, none⟩), .int .i64 i] w fun e w' => e = .returned (.bool true) ∧ Now w w' B lo (holdM M i) := by
  obtain ⟨j, rfl⟩ : ∃ j : Nat, i = j := ⟨i.toNat, by omega⟩
  have hj : j < M.slots.length := by omega
  have m1 := m.m1
  obtain ⟨gS, rfl, oS, -, -, -⟩ := row_form m.c.s (by omega)
  have hrr := refsM_at M j hj
  rw [hrr] at hr hr1
  obtain ⟨c0, -, -, -, -, -, fz⟩ := row_cells m.c.s hj
  refine (rhold_yes w B gS _ j cS _ _ _ _ _ m.box hj (by omega) c0 (fz _) hr hr1).mono ?_
  rintro e w' ⟨rfl, rfl⟩
  have mt := turned m hj (M.slots[j].refs + 1)
  rw [← hrr] at mt ⊢
  exact ⟨rfl, _, _, _, _, _, _, _, _, mt, (Kept.refl w B lo).setCell oS _⟩

theorem rput_none (w : World) (B gS nS j cS : Nat) (hv fv lv nv : Value)
    (hB : w.heap[B]? = some (.cells #[.slice (some ⟨gS, 0, none⟩) nS cS, hv, fv, lv, nv] 29 (0, 0))) (hj : j < nS) (hS : nS ≤ 9223372036854775807) (c0 : w.cell? ⟨gS, j * 6, none⟩ = some (.int .i64 0)) :
    Calls Try.prog 27 #[.pointer (some ⟨B, 0, none⟩), .int .i64 j] w fun e w' => e = .returned (.tuple #[]) ∧ w = w' := by
  obtain ⟨q0, q1, q2, q3, q4, f0, f1, f2, f3, f4, qs⟩ := boxf hB
  clear hB
  go_enter Try.func27, Try.ntmps27
  go_wp2
  go_end0
  exact ⟨rfl, rfl⟩

theorem rput_more (w : World) (B gS nS j cS : Nat) (hv fv lv nv : Value) (r : Int)
    (hB : w.heap[B]? = some (.cells #[.slice (some ⟨gS, 0, none⟩) nS cS, hv, fv, lv, nv] 29 (0, 0))) (hj : j < nS) (hS : nS ≤ 9223372036854775807) (c0 : w.cell? ⟨gS, j * 6, none⟩ = some (.int .i64 r)) (f0 : w.frozen? ⟨gS, j * 6, none⟩ = false) (h0 : 1 < r) (h1 : r ≤ 1000) :
    Calls Try.prog 27 #[.pointer (some ⟨B, 0, none⟩), .int .i64 j] w fun e w' => e = .returned (.tuple #[]) ∧ w.setCell ⟨gS, j * 6, none⟩ (.int .i64 (r - 1)) = w' := by
  obtain ⟨q0, q1, q2, q3, q4, -, -, -, -, -, qs⟩ := boxf hB
  clear hB
  have e0 : (r == 0) = false := by rw [beq_eq_false_iff_ne]; omega
  have e1 : (r == 1) = false := by rw [beq_eq_false_iff_ne]; omega
  go_enter Try.func27, Try.ntmps27
  go_wp2
  go_end0
  exact ⟨rfl, rfl⟩

/- append of a list, nil or not, onto a row of one's own. -/
theorem wpList_app {P : Program} (w : World) {ops : Array Oper} {rest : List Oper} {o : Oper} {a : Act} {Q : Exit → Act → World → Prop} (hgd : o.guard = none) (s x : Operand) (t : TypeId)
    (ho : o.op = .call { callee := .builtin .append, args := #[s, x], argTypes := #[t, t] })
    (base : Nat) (e : TypeId) (i : TypeInfo) (z : Value) (size bytes : Nat) (ht : P.underlying t = some (.slice e)) (hi : P.info? e = some i) (hz : i.zero = some z)
    (hsize : i.size = size) (hby : i.bytes = bytes) (hzs : z.cells.size = size) (hsz : 0 < size)
    (v : Value) (n : Nat) (xs : List Value) (hs : a.eval s = v) (hown : w.ownsRow base e size v n xs)
    (ao : Option Addr) (m c : Nat) (news : List Value) (hx : a.eval x = .slice ao m c) (hl : news.length = m * size) (hn : ao = none → m = 0 ∧ c = 0) (hnews : ∀ ad, ao = some ad → ∀ j u, news[j]? = some u → w.cell? (ad.add j) = some u) (h1 : ∀ u ∈ news, u.oneCell' = true)
    (h63 : n + m ≤ maxLen) (hbytes : (n + m) * bytes ≤ 140737488355328) (hbase : base ≤ w.heap.size)
    (h : ∀ v' w', w'.ownsRow base e size v' (n + m) (xs ++ news) → w.grownBy w' v.ownBlock → (v'.ownBlock = v.ownBlock ∨ v'.ownBlock = some w.heap.size) → wpList P ops Q rest (a.put o.dst v') w') :
    wpList P ops Q (o :: rest) a w := by
  cases ao with
  | some ad => exact wpList_append_own_at w hgd s x t ho base e i z size bytes ht hi hz hsize hby hzs hsz v n xs hs hown ad m c news hx hl (hnews ad rfl) h1 h63 hbytes hbase fun v' w' a1 a2 _ a4 => h v' w' a1 a2 a4
  | none =>
    obtain ⟨rfl, rfl⟩ := hn rfl
    have hnil : news = [] := List.eq_nil_of_length_eq_zero (by rw [hl, Nat.zero_mul])
    subst hnil
    have hr := run_append_owned_none (P := P) w base t o.type e i size ht hi v n xs hown
    refine wpList_plain hgd fun K hK => ?_
    unfold Oper.wp execOp
    simp only [ho, resolve, invoke, builtin, Sem.run_bind, Sem.run_pure, Result.andThen_ok, List.map_toArray, List.map_cons, List.map_nil, hs, hx, hr]
    refine hK _ _ (h v w ?_ ⟨rfl, rfl, rfl, Nat.le_refl _, fun _ _ _ => rfl⟩ (.inl rfl))
    rw [Nat.add_zero, List.append_nil]
    exact hown

theorem lit_row (w : World) (e : TypeId) (size lo n : Nat) (hn : n = w.heap.size) (h : lo ≤ w.heap.size) : (w.alloc (.cells #[] e)).ownsRow lo e size (.slice (some ⟨n, 0, none⟩) 0 0) 0 [] := by
  subst hn
  exact World.ownsRow_lit w #[] 0 h (Nat.zero_le _) (by simp)

set_option maxHeartbeats 1600000 in
theorem rput_last (w : World) (B gS nS j lo cS cF : Nat) (aF : Option Addr) (F : List Int) (hv lv nv : Value)
    (hB : w.heap[B]? = some (.cells #[.slice (some ⟨gS, 0, none⟩) nS cS, hv, .slice aF F.length cF, lv, nv] 29 (0, 0))) (hj : j < nS) (hS : nS ≤ 9223372036854775807) (c0 : w.cell? ⟨gS, j * 6, none⟩ = some (.int .i64 1)) (f0 : w.frozen? ⟨gS, j * 6, none⟩ = false)
    (hne : B ≠ gS) (hO : IRow (w.setCell ⟨gS, j * 6, none⟩ (.int .i64 0)) aF cF F) (hm : F.length * 8 ≤ 140737488350000) :
    Calls Try.prog 27 #[.pointer (some ⟨B, 0, none⟩), .int .i64 j] w fun e w' => e = .returned (.tuple #[]) ∧ ∃ a' c' w1, Below w.heap.size (w.setCell ⟨gS, j * 6, none⟩ (.int .i64 0)) w1 ∧
      w1.ownsRow w.heap.size 3 1 (.slice a' (F.length + 1) c') (F.length + 1) (encI (F ++ [(j : Int)])) ∧ w1.setCell ⟨B, 2, none⟩ (.slice a' (F.length + 1) c') = w' := by
  obtain ⟨q0, q1, q2, q3, q4, -, -, f2, -, -, qs⟩ := boxf hB
  obtain ⟨i0, hi, hz0, hz1, hz2⟩ := info_parts iI
  have hne' : (⟨gS, j * 6, none⟩ : Addr) ≠ ⟨B, 2, none⟩ := by intro h; injection h with h; omega
  have hBs : (w.setCell ⟨gS, j * 6, none⟩ (.int .i64 0)).heap[B]? = _ := (Below.heap_setCell _ _ _ _ (by dsimp only; exact hne)).trans hB
  have HO : Hid (IRow (w.setCell ⟨gS, j * 6, none⟩ (.int .i64 0)) aF cF F) := hO
  have HBs : Hid _ := hBs
  have hzw : (w.setCell ⟨gS, j * 6, none⟩ (.int .i64 0)).heap.size = w.heap.size := World.size_setCell ..
  have HZw : Hid _ := hzw
  have HB : Hid _ := hB
  clear hB hO hBs hzw
  have HN : Hid (aF = none → F.length = 0 ∧ cF = 0) := fun h => ⟨by have := HO.out.nil h; have := HO.out.le; omega, HO.out.nil h⟩
  have HSr : Hid (∀ ad, aF = some ad → ∀ j' u, (encI F)[j']? = some u → ((w.setCell ⟨gS, j * 6, none⟩ (.int .i64 0)).alloc (.cells #[] 3)).cell? (ad.add j') = some u) := (HO.out.below (one_below _ _)).src
  have HLt : Hid (((w.setCell ⟨gS, j * 6, none⟩ (.int .i64 0)).alloc (.cells #[] 3)).ownsRow w.heap.size 3 1 (.slice (some ⟨w.heap.size, 0, none⟩) 0 0) 0 []) := lit_row _ 3 1 w.heap.size _ HZw.out.symm (Nat.le_of_eq HZw.out.symm)
  have hL63 : 0 + F.length ≤ maxLen := by unfold maxLen; omega
  have HLB : Hid (w.heap.size ≤ ((w.setCell ⟨gS, j * 6, none⟩ (.int .i64 0)).alloc (.cells #[] 3)).heap.size) := by show _ ≤ _; simp
  have HE : Hid ((encI F).length = F.length * 1) := by show _ = _; rw [encI_len, Nat.mul_one]
  go_enter Try.func27, Try.ntmps27
  go_wp2_with (first
    | (at_builtin; (refine wpList_app _ rfl (.tmp 35) (.tmp 39) 24 rfl w.heap.size 3 i0 (.int .i64 0) 1 8 Try.underlying24 hi hz0 hz1 hz2 rfl (by decide) (.slice (some ⟨w.heap.size, 0, none⟩) 0 0) 0 [] rfl HLt.out aF F.length cF (encI F) rfl HE.out HN.out HSr.out (encI_one F) hL63 (by omega) HLB.out ?_; intro v1 w1 hown1 hgrow1 hloc1; rw [Nat.zero_add, List.nil_append] at hown1; obtain ⟨a1, c1, rfl⟩ := own_shape hown1; have HO1 : Hid (w1.ownsRow w.heap.size 3 1 (.slice a1 F.length c1) F.length (encI F)) := hown1; have HG1 : Hid (((w.setCell ⟨gS, j * 6, none⟩ (.int .i64 0)).alloc (.cells #[] 3)).grownBy w1 (some w.heap.size)) := hgrow1; clear hown1 hgrow1 hloc1; have HZ1 : Hid (w.heap.size + 1 ≤ w1.heap.size) := (by have := HG1.out.size; simp at this; exact this)))
    | (at_builtin; (refine wpList_append_own_at _ rfl (.tmp 40) (.tmp 42) 24 rfl w.heap.size 3 i0 (.int .i64 0) 1 8 Try.underlying24 hi hz0 hz1 hz2 rfl (by decide) (.slice a1 F.length c1) F.length (encI F) rfl (HO1.out.alloc _) ⟨w1.heap.size, 0, none⟩ 1 1 [.int .i64 j] rfl rfl (one_new _ _ _ _ rfl) (by intro u hu; simp at hu; subst hu; rfl) (by unfold maxLen; omega) (by omega) (by simp; have := HZ1.out; omega) ?_; intro v2 w2 hown2 hgrow2 _ hloc2; obtain ⟨g2, c2, rfl⟩ := ownsRow_form hown2 (by omega); have HO2 : Hid (w2.ownsRow w.heap.size 3 1 (.slice (some ⟨g2, 0, none⟩) (F.length + 1) c2) (F.length + 1) (encI F ++ [.int .i64 j])) := hown2; have HG2 : Hid ((w1.alloc (.cells #[.int .i64 j] 3)).grownBy w2 (Value.slice a1 F.length c1).ownBlock) := hgrow2; clear hown2 hgrow2 hloc2; have HK2 : Hid (Below w.heap.size (w.setCell ⟨gS, j * 6, none⟩ (.int .i64 0)) w2) := (((((Below.refl _ _).alloc (by rw [HZw.out]; exact Nat.le_refl _) _).grown HG1.out (by simp) (fun k h => by cases h; exact Nat.le_refl _)).alloc (by have := HZ1.out; omega) _).grown HG2.out (by simp; have := HZ1.out; omega) (fun k h => (HO1.out.lt k h).1)); obtain ⟨r2, r3⟩ : w2.cell? ⟨B, 2, none⟩ = some (.slice aF F.length cF) ∧ w2.frozen? ⟨B, 2, none⟩ = false := (by obtain ⟨-, -, k2, -, -, -, -, l2, -, -, -⟩ := boxf ((HK2.out.block B qs).trans HBs.out); exact ⟨k2, l2⟩))))
  go_end0
  refine ⟨rfl, _, _, w2, HK2.out, ?_, rfl⟩
  have := HO2.out
  rwa [show encI F ++ [.int .i64 (j : Int)] = encI (F ++ [(j : Int)]) by simp [encI]] at this

theorem rput_now (M : Mm) (w : World) (B lo : Nat) (aS aH aF aL : Option Addr) (cS cH cF cL : Nat) (i : Int) (m : Mine w B lo aS aH aF aL cS cH cF cL M) (h0 : 0 ≤ i) (h1 : i < M.slots.length) (hr : 0 < refsM M i) (hr1 : refsM M i ≤ 1000) (hm : M.free.length * 8 ≤ 140737488350000) :
    Calls Try.prog 27 #[.pointer (some ⟨B, 0, none⟩), .int .i64 i] w fun e w' => e = .returned (.tuple #[]) ∧ Now w w' B lo (putM M i) := by
  obtain ⟨j, rfl⟩ : ∃ j : Nat, i = j := ⟨i.toNat, by omega⟩
  have hj : j < M.slots.length := by omega
  have m1 := m.m1
  obtain ⟨gS, rfl, oS, -, -, -⟩ := row_form m.c.s (by omega)
  have hrr := refsM_at M j hj
  obtain ⟨c0, -, -, -, -, -, fz⟩ := row_cells m.c.s hj
  by_cases hl : refsM M j = 1
  · rw [← hrr, hl] at c0
    have mt := turned m hj 0
    refine (rput_last w B gS _ j lo cS cF aF M.free _ _ _ m.box hj (by omega) c0 (fz _) m.ne_s mt.at.f hm).mono ?_
    rintro e w' ⟨rfl, a', c', w1, hb, ho, rfl⟩
    have e1 : putM M j = { M with slots := setRefs M j 0, free := M.free ++ [(j : Int)] } := by simp [putM, hl]
    have hlen : (M.free ++ [(j : Int)]).length = M.free.length + 1 := by simp
    rw [e1]
    have hz : (w.setCell ⟨gS, j * 6, none⟩ (.int .i64 0)).heap.size = w.heap.size := World.size_setCell ..
    rw [← hz] at hb ho
    have mg := mt.newF (M.free ++ [(j : Int)]) (by rw [hlen]; omega) hb hlen ho
    refine ⟨rfl, _, _, _, _, _, _, _, _, mg, ?_⟩
    have k1 : Kept w _ B lo := ((Kept.refl w B lo).setCell (j := j * 6) oS (.int .i64 0)).below hb mt.c.lz
    exact k1.setBox _
  · have hr2 : 1 < M.slots[j].refs := by omega
    refine (rput_more w B gS _ j cS _ _ _ _ _ m.box hj (by omega) c0 (fz _) hr2 (by omega)).mono ?_
    rintro e w' ⟨rfl, rfl⟩
    have e1 : putM M j = { M with slots := setRefs M j (refsM M j - 1) } := by simp [putM, hl]
    rw [e1]
    have mt := turned m hj (M.slots[j].refs - 1)
    rw [← hrr] at mt ⊢
    exact ⟨rfl, _, _, _, _, _, _, _, _, mt, (Kept.refl w B lo).setCell oS _⟩

theorem rtake_no (w : World) (B : Nat) (sv hv lv nv : Value) (aF : Option Addr) (cF : Nat) (ka kb u : Int)
    (hB : w.heap[B]? = some (.cells #[sv, hv, .slice aF 0 cF, lv, nv] 29 (0, 0))) :
    Calls Try.prog 25 #[.pointer (some ⟨B, 0, none⟩), .agg #[.int .i64 ka, .int .i64 kb], .int .i64 u] w fun e w' => e = .returned (.tuple #[.int .i64 0, .bool false]) ∧ Below w.heap.size w w' := by
  obtain ⟨q0, q1, q2, q3, q4, f0, f1, f2, f3, f4, qs⟩ := boxf hB
  clear hB
  go_enter Try.func25, Try.ntmps25
  go_wp2
  go_ret2
  exact ⟨rfl, one_below _ _⟩

theorem take_mid {w W1 w2 : World} {ob : Obj} (hb : Below w.heap.size w W1) (hk : W1.heap[w.heap.size]? = some ob) (hz : W1.heap.size = w.heap.size + 1) (hg : ((W1.alloc (.cells #[] 3)).drew).grownBy w2 (some W1.heap.size)) :
    Below w.heap.size w w2 ∧ w.heap.size < w2.heap.size ∧ w2.heap[w.heap.size]? = some ob := by
  have h1 : Below W1.heap.size W1 w2 := ((one_below W1 (.cells #[] 3)).drew).grown hg (by simp) (fun k h => by cases h; exact Nat.le_refl _)
  refine ⟨hb.trans (h1.mono (by omega)), by have := h1.size; omega, (h1.block _ (by omega)).trans hk⟩
theorem take_cells {w w2 : World} {gS j : Nat} {r a b v nx : Int} {i : Bool} (hb : Below w.heap.size w w2) (l : gS < w.heap.size)
    (c0 : w.cell? ⟨gS, j * 6, none⟩ = some (.int .i64 r)) (c1 : w.cell? ⟨gS, j * 6 + 1, none⟩ = some (.int .i64 a)) (c2 : w.cell? ⟨gS, j * 6 + 2, none⟩ = some (.int .i64 b)) (c3 : w.cell? ⟨gS, j * 6 + 3, none⟩ = some (.int .i64 v)) (c4 : w.cell? ⟨gS, j * 6 + 4, none⟩ = some (.bool i)) (c5 : w.cell? ⟨gS, j * 6 + 5, none⟩ = some (.int .i64 nx))
    (hfz : ∀ q, w.frozen? ⟨gS, q, none⟩ = false) : w2.cell? ⟨gS, j * 6, none⟩ = some (.int .i64 r) ∧ w2.cell? ⟨gS, j * 6 + 1, none⟩ = some (.int .i64 a) ∧ w2.cell? ⟨gS, j * 6 + 2, none⟩ = some (.int .i64 b) ∧ w2.cell? ⟨gS, j * 6 + 3, none⟩ = some (.int .i64 v) ∧ w2.cell? ⟨gS, j * 6 + 4, none⟩ = some (.bool i) ∧ w2.cell? ⟨gS, j * 6 + 5, none⟩ = some (.int .i64 nx) ∧ ∀ q, w2.frozen? ⟨gS, q, none⟩ = false := by
  obtain ⟨q, f⟩ := bcell hb
  exact ⟨(q _ _ l).trans c0, (q _ _ l).trans c1, (q _ _ l).trans c2, (q _ _ l).trans c3, (q _ _ l).trans c4, (q _ _ l).trans c5, fun x => (f _ _ l).trans (hfz x)⟩

set_option maxHeartbeats 3200000 in
theorem rtake_in (w : World) (B gS gF nS n j cS cF : Nat) (hv lv nv : Value) (ka kb u nx r a b v : Int) (i : Bool) (F : List Int)
    (hB : w.heap[B]? = some (.cells #[.slice (some ⟨gS, 0, none⟩) nS cS, hv, .slice (some ⟨gF, 0, none⟩) (n + 1) cF, lv, nv] 29 (0, 0)))
    (hn : n + 1 ≤ cF) (hc : cF ≤ 9223372036854775807) (hS : nS ≤ 9223372036854775807) (hj : j < nS) (hm : n * 8 ≤ 140737488350000) (d1 : B ≠ gS) (d2 : B ≠ gF) (l1 : gS < w.heap.size) (l2 : gF < w.heap.size) (hF : F.length = n)
    (cx : w.cell? ⟨gF, n, none⟩ = some (.int .i64 j)) (hFc : ∀ q u, (encI F)[q]? = some u → w.cell? ⟨gF, q, none⟩ = some u)
    (c0 : w.cell? ⟨gS, j * 6, none⟩ = some (.int .i64 r)) (c1 : w.cell? ⟨gS, j * 6 + 1, none⟩ = some (.int .i64 a)) (c2' : w.cell? ⟨gS, j * 6 + 2, none⟩ = some (.int .i64 b)) (c3 : w.cell? ⟨gS, j * 6 + 3, none⟩ = some (.int .i64 v)) (c4 : w.cell? ⟨gS, j * 6 + 4, none⟩ = some (.bool i)) (c5 : w.cell? ⟨gS, j * 6 + 5, none⟩ = some (.int .i64 nx))
    (hfz : ∀ q, w.frozen? ⟨gS, q, none⟩ = false) :
    Calls Try.prog 25 #[.pointer (some ⟨B, 0, none⟩), .agg #[.int .i64 ka, .int .i64 kb], .int .i64 u] w fun e w' => e = .returned (.tuple #[.int .i64 j, .bool true]) ∧ ∃ a' c' w1, Below w.heap.size w w1 ∧ w1.ownsRow w.heap.size 3 1 (.slice a' n c') n (encI F) ∧
      ∃ k, w' = (mm.set6 (w1.setCell ⟨B, 2, none⟩ (.slice a' n c')) gS (j * 6) ⟨1, ka, kb, u, false, nx⟩).drewN k := by
  have hn' : n ≤ cF := by omega
  have HB : Hid _ := hB
  obtain ⟨q0, q1, q2, q3, q4, f0, f1, f2, f3, f4, qs⟩ := boxf hB
  obtain ⟨i0, hi, hz0, hz1, hz2⟩ := info_parts iI
  have HFc : Hid _ := hFc
  clear hB hFc
  go_enter Try.func25, Try.ntmps25
  go_wp2_with fail
  go_quiet (fail)
  go_wp2_with fail
  have hb0 : Below w.heap.size w ((w.alloc (.cells #[.int .i64 ka, .int .i64 kb] 37)).drewN nq) := (one_below w _).trans (below_draws _ _ nq)
  have hk0 : ((w.alloc (.cells #[.int .i64 ka, .int .i64 kb] 37)).drewN nq).heap[w.heap.size]? = some (.cells #[.int .i64 ka, .int .i64 kb] 37 (0, 0)) := heap_alloc_new _ _
  have hz0' : ((w.alloc (.cells #[.int .i64 ka, .int .i64 kb] 37)).drewN nq).heap.size = w.heap.size + 1 := by simp
  clear q0 q1 q2 q3 q4 f0 f1 f2 f3 f4
  generalize (w.alloc (.cells #[.int .i64 ka, .int .i64 kb] 37)).drewN nq = W1 at *
  have HB1 : Hid (W1.heap[B]? = _) := (hb0.block B qs).trans HB.out
  obtain ⟨q0, q1, q2, q3, q4, f0, f1, f2, f3, f4, qs1⟩ := boxf HB1.out
  have HFc1 : Hid (∀ q u, (encI F)[q]? = some u → ((W1.alloc (.cells #[] 3)).drew).cell? ((⟨gF, 0, none⟩ : Addr).add q) = some u) := fun q u h => by
    rw [Addr.add_lit, Nat.zero_add]
    exact ((((hb0.trans ((one_below W1 (.cells #[] 3)).mono (by omega))).drew).cell (p := ⟨gF, q, none⟩) l2)).trans (HFc.out q u h)
  have HLt : Hid (((W1.alloc (.cells #[] 3)).drew).ownsRow w.heap.size 3 1 (.slice (some ⟨W1.heap.size, 0, none⟩) 0 0) 0 []) := (lit_row W1 3 1 w.heap.size _ rfl (by omega) : (W1.alloc (.cells #[] 3)).ownsRow w.heap.size 3 1 (.slice (some ⟨W1.heap.size, 0, none⟩) 0 0) 0 [])
  have hwr : IntKind.i64.wrap (n : Int) = (n : Int) := by rw [IntKind.wrap_i64] <;> omega
  have hn2 : (n : Int) ≤ (cF : Int) := by omega
  have hn3 : (0 : Int) ≤ (n : Int) := by omega
  have hE : (encI F).length = n * 1 := by rw [encI_len, Nat.mul_one, hF]
  have hz1' : w.heap.size + 1 = W1.heap.size := hz0'.symm
  have HK0 : Hid _ := hk0
  have HZ0 : Hid _ := hz0'
  have HB0 : Hid _ := hb0
  clear hk0 hz0' hb0
  go_region_law (first
    | (refine step_append_own_at _ rfl (.tmp 28) (.tmp 39) 24 rfl w.heap.size 3 i0 (.int .i64 0) 1 8 Try.underlying24 hi hz0 hz1 hz2 rfl (by decide) (.slice (some ⟨W1.heap.size, 0, none⟩) 0 0) 0 [] rfl HLt.out ⟨gF, 0, none⟩ n cF (encI F) rfl hE HFc1.out (encI_one F) (by unfold maxLen; omega) (by omega) (by simp; omega) ?_; intro v2 w2 ho2 hg2 _ hloc2; rw [Nat.zero_add, List.nil_append] at ho2; obtain ⟨a2, c2, rfl⟩ := own_shape ho2; have HO2 : Hid (w2.ownsRow w.heap.size 3 1 (.slice a2 n c2) n (encI F)) := ho2; have HK2 : Hid (Below w.heap.size w w2 ∧ w.heap.size < w2.heap.size ∧ w2.heap[w.heap.size]? = some (.cells #[.int .i64 ka, .int .i64 kb] 37 (0, 0))) := take_mid HB0.out HK0.out HZ0.out hg2; clear ho2 hg2 hloc2 q0 q1 q2 q3 q4 f0 f1 f2 f3 f4 qs1; obtain ⟨q0, q1, q2, q3, q4, f0, f1, f2, f3, f4, qs2⟩ := boxf ((HK2.out.1.block B qs).trans HB.out); obtain ⟨k0, k1⟩ := keyf HK2.out.2.2; obtain ⟨e0, e1, e2, e3, e4, e5, ez⟩ := take_cells HK2.out.1 l1 c0 c1 c2' c3 c4 c5 hfz; have l3 : w.heap.size < w2.heap.size := HK2.out.2.1; have l4 : gS < w2.heap.size := (by omega)))
  all_goals (clear c0 c1 c2' c3 c4 c5 hfz cx)
  all_goals go_wp2_with fail
  all_goals go_region
  all_goals go_wp2
  all_goals go_ret2
  all_goals exact ⟨rfl, a2, c2, w2, HK2.out.1, HO2.out, 1, rfl⟩

theorem rtake_now (M : Mm) (w : World) (B lo : Nat) (aS aH aF aL : Option Addr) (cS cH cF cL : Nat) (ka kb u : Int) (m : Mine w B lo aS aH aF aL cS cH cF cL M) (hF : 0 < M.free.length) (h0 : 0 ≤ lastF M) (h1 : lastF M < M.slots.length) (hm : M.free.length * 8 ≤ 140737488350000) :
    Calls Try.prog 25 #[.pointer (some ⟨B, 0, none⟩), .agg #[.int .i64 ka, .int .i64 kb], .int .i64 u] w fun e w' => e = .returned (.tuple #[.int .i64 (lastF M), .bool true]) ∧ Now w w' B lo (takeM M ka kb u) := by
  obtain ⟨gS, rfl, oS, lS, -, -⟩ := row_form m.c.s (by omega)
  obtain ⟨gF, rfl, oF, lF, kF, kF2⟩ := row_form m.c.f hF
  obtain ⟨n, hn⟩ : ∃ n, M.free.length = n + 1 := ⟨M.free.length - 1, by omega⟩
  have hnF : n < M.free.length := by omega
  have hlast : lastF M = M.free[n] := by
    show M.free.getD (M.free.length - 1) 0 = _
    rw [show M.free.length - 1 = n by omega]
    simp [List.getD_eq_getElem?_getD, hnF]
  obtain ⟨j, hj⟩ : ∃ j : Nat, lastF M = j := ⟨(lastF M).toNat, by omega⟩
  have hFj : M.free[n] = j := hlast.symm.trans hj
  have hjS : j < M.slots.length := by omega
  have hT : takeM M ka kb u = { M with slots := M.slots.set j ⟨1, ka, kb, u, false, M.slots[j].next⟩, free := M.free.take n } := by
    unfold takeM
    rw [hj, show M.free.length - 1 = n by omega]
    simp [List.getD_eq_getElem?_getD, hjS]
  rw [hT, hj]
  obtain ⟨c0, c1, c2, c3, c4, c5, fz⟩ := row_cells m.c.s hjS
  have cx := (row_cell m.c.f hnF).1
  rw [hFj] at cx
  have hB := m.box
  rw [hn] at hB
  have m1 := m.m1
  have hlen : (M.free.take n).length = n := by rw [List.length_take]; omega
  have hFc : ∀ q u, (encI (M.free.take n))[q]? = some u → w.cell? ⟨gF, q, none⟩ = some u := fun q u h => by
    have hq : q < n := by
      have := (List.getElem?_eq_some_iff.1 h).1
      rwa [encI_len, hlen] at this
    rw [m.c.f.cellAt q (by omega), ← h]
    simp [encI, List.getElem?_take_of_lt hq]
  refine (rtake_in w B gS gF _ n j cS cF _ _ _ ka kb u _ _ _ _ _ _ (M.free.take n) hB (by omega) kF2 (by omega) hjS (by omega) m.ne_s m.ne_f lS lF hlen cx hFc c0 c1 c2 c3 c4 c5 fz).mono ?_
  rintro e w' ⟨rfl, a', c', w1, hb, ho, k, rfl⟩
  have mp := (m.newF (M.free.take n) (by rw [hlen]; omega) hb hlen ho).set6 (j := j) hjS ⟨1, ka, kb, u, false, M.slots[j].next⟩
  have kp : Kept w _ B lo := (((Kept.refl w B lo).below hb m.c.lz).setBox (.slice a' n c') (j := 2)).set6 (o := j * 6) oS ⟨1, ka, kb, u, false, M.slots[j].next⟩
  generalize mm.set6 (w1.setCell ⟨B, 2, none⟩ (.slice a' n c')) gS (j * 6) ⟨1, ka, kb, u, false, M.slots[j].next⟩ = W at *
  have hbl : Below W.heap.size W (W.drewN k) := below_draws _ _ k
  exact ⟨rfl, _, _, _, _, _, _, _, _, mp.below hbl, kp.below hbl mp.c.lz⟩


end Go.Proofs.Ytdbilofhcadmoaa.mm
