/- The contracts of the document's own TakeIn and LinkIn on memory of one's own. -/
import Derived.Test.YtdbilofhcadmoabC09
import Derived.Test.YtdbilofhcadmoabC11
namespace Go.Proofs.Ytdbilofhcadmoab.mm
open Go.ChangeShapes Go.WideShapes Go.ChangeAt Go.RowKit Go.Joins Go.Deep
set_option maxRecDepth 100000
set_option linter.unusedVariables false

theorem rtake_no (w : World) (B : Nat) (sv hv lv nv : Value) (aF : Option Addr) (cF : Nat) (ka kb u : Int)
    (hB : w.heap[B]? = some (.cells #[sv, hv, .slice aF 0 cF, lv, nv] 25 (0, 0))) :
    Calls Try.prog 122 #[.pointer (some ⟨B, 0, none⟩), .agg #[.int .i64 ka, .int .i64 kb], .int .i64 u] w fun e w' => e = .returned (.tuple #[.int .i64 0, .bool false]) ∧ Below w.heap.size w w' := by
  obtain ⟨q0, q1, q2, q3, q4, f0, f1, f2, f3, f4, qs⟩ := boxf hB
  clear hB
  go_enter Try.func122, Try.ntmps122
  go_wp2
  go_ret2
  exact ⟨rfl, one_below _ _⟩

set_option maxHeartbeats 3200000 in
theorem rtake_in (w : World) (B gS gF nS n j cS cF : Nat) (hv lv nv : Value) (ka kb u nx r a b v : Int) (i : Bool) (F : List Int)
    (hB : w.heap[B]? = some (.cells #[.slice (some ⟨gS, 0, none⟩) nS cS, hv, .slice (some ⟨gF, 0, none⟩) (n + 1) cF, lv, nv] 25 (0, 0)))
    (hn : n + 1 ≤ cF) (hc : cF ≤ 9223372036854775807) (hS : nS ≤ 9223372036854775807) (hj : j < nS) (hm : n * 8 ≤ 140737488350000) (d1 : B ≠ gS) (d2 : B ≠ gF) (l1 : gS < w.heap.size) (l2 : gF < w.heap.size) (hF : F.length = n)
    (cx : w.cell? ⟨gF, n, none⟩ = some (.int .i64 j)) (hFc : ∀ q u, (encI F)[q]? = some u → w.cell? ⟨gF, q, none⟩ = some u)
    (c0 : w.cell? ⟨gS, j * 6, none⟩ = some (.int .i64 r)) (c1 : w.cell? ⟨gS, j * 6 + 1, none⟩ = some (.int .i64 a)) (c2' : w.cell? ⟨gS, j * 6 + 2, none⟩ = some (.int .i64 b)) (c3 : w.cell? ⟨gS, j * 6 + 3, none⟩ = some (.int .i64 v)) (c4 : w.cell? ⟨gS, j * 6 + 4, none⟩ = some (.bool i)) (c5 : w.cell? ⟨gS, j * 6 + 5, none⟩ = some (.int .i64 nx))
    (hfz : ∀ q, w.frozen? ⟨gS, q, none⟩ = false) :
    Calls Try.prog 122 #[.pointer (some ⟨B, 0, none⟩), .agg #[.int .i64 ka, .int .i64 kb], .int .i64 u] w fun e w' => e = .returned (.tuple #[.int .i64 j, .bool true]) ∧ ∃ a' c' w1, Below w.heap.size w w1 ∧ w1.ownsRow w.heap.size 3 1 (.slice a' n c') n (encI F) ∧
      ∃ k, w' = (mm.set6 (w1.setCell ⟨B, 2, none⟩ (.slice a' n c')) gS (j * 6) ⟨1, ka, kb, u, false, nx⟩).drewN k := by
  have hn' : n ≤ cF := by omega
  have HB : Hid _ := hB
  obtain ⟨q0, q1, q2, q3, q4, f0, f1, f2, f3, f4, qs⟩ := boxf hB
  obtain ⟨i0, hi, hz0, hz1, hz2⟩ := info_parts iI
  have HFc : Hid _ := hFc
  clear hB hFc
  go_enter Try.func122, Try.ntmps122
  go_wp2_with fail
  go_quiet (fail)
  go_wp2_with fail
  have hb0 : Below w.heap.size w ((w.alloc (.cells #[.int .i64 ka, .int .i64 kb] 37)).drewN nq) := (one_below w _).trans (below_draws _ _ nq)
  have hk0 : ((w.alloc (.cells #[.int .i64 ka, .int .i64 kb] 37)).drewN nq).heap[w.heap.size]? = some (.cells #[.int .i64 ka, .int .i64 kb] 37 (0, 0)) := heap_alloc_new _ _
  have hz0' : ((w.alloc (.cells #[.int .i64 ka, .int .i64 kb] 37)).drewN nq).heap.size = w.heap.size + 1 := by simp
  clear q0 q1 q2 q3 q4 f0 f1 f2 f3 f4
  generalize (w.alloc (.cells #[.int .i64 ka, .int .i64 kb] 37)).drewN nq = W1 at *
  have HB1 : Hid (W1.heap[B]? = _) := (hb0.block B qs).trans HB.out
  obtain ⟨q0, q1, q2, q3, q4, f0, f1, f2, f3, f4, qs1⟩ := boxf HB1.out
  have HFc1 : Hid (∀ q u, (encI F)[q]? = some u → ((W1.alloc (.cells #[] 3)).drew).cell? ((⟨gF, 0, none⟩ : Addr).add q) = some u) := fun q u h => by
    rw [Addr.add_lit, Nat.zero_add]
    exact ((((hb0.trans ((one_below W1 (.cells #[] 3)).mono (by omega))).drew).cell (p := ⟨gF, q, none⟩) l2)).trans (HFc.out q u h)
  have HLt : Hid (((W1.alloc (.cells #[] 3)).drew).ownsRow w.heap.size 3 1 (.slice (some ⟨W1.heap.size, 0, none⟩) 0 0) 0 []) := (lit_row W1 3 1 w.heap.size _ rfl (by omega) : (W1.alloc (.cells #[] 3)).ownsRow w.heap.size 3 1 (.slice (some ⟨W1.heap.size, 0, none⟩) 0 0) 0 [])
  have hwr : IntKind.i64.wrap (n : Int) = (n : Int) := by rw [IntKind.wrap_i64] <;> omega
  have hn2 : (n : Int) ≤ (cF : Int) := by omega
  have hn3 : (0 : Int) ≤ (n : Int) := by omega
  have hE : (encI F).length = n * 1 := by rw [encI_len, Nat.mul_one, hF]
  have hz1' : w.heap.size + 1 = W1.heap.size := hz0'.symm
  have HK0 : Hid _ := hk0
  have HZ0 : Hid _ := hz0'
  have HB0 : Hid _ := hb0
  clear hk0 hz0' hb0
  go_region_law (first
    | (refine step_append_own_at _ rfl (.tmp 28) (.tmp 39) 23 rfl w.heap.size 3 i0 (.int .i64 0) 1 8 Try.underlying23 hi hz0 hz1 hz2 rfl (by decide) (.slice (some ⟨W1.heap.size, 0, none⟩) 0 0) 0 [] rfl HLt.out ⟨gF, 0, none⟩ n cF (encI F) rfl hE HFc1.out (encI_one F) (by unfold maxLen; omega) (by omega) (by simp; omega) ?_; intro v2 w2 ho2 hg2 _ hloc2; rw [Nat.zero_add, List.nil_append] at ho2; obtain ⟨a2, c2, rfl⟩ := own_shape ho2; have HO2 : Hid (w2.ownsRow w.heap.size 3 1 (.slice a2 n c2) n (encI F)) := ho2; have HK2 : Hid (Below w.heap.size w w2 ∧ w.heap.size < w2.heap.size ∧ w2.heap[w.heap.size]? = some (.cells #[.int .i64 ka, .int .i64 kb] 37 (0, 0))) := take_mid HB0.out HK0.out HZ0.out hg2; clear ho2 hg2 hloc2 q0 q1 q2 q3 q4 f0 f1 f2 f3 f4 qs1; obtain ⟨q0, q1, q2, q3, q4, f0, f1, f2, f3, f4, qs2⟩ := boxf ((HK2.out.1.block B qs).trans HB.out); obtain ⟨k0, k1⟩ := keyf HK2.out.2.2; obtain ⟨e0, e1, e2, e3, e4, e5, ez⟩ := take_cells HK2.out.1 l1 c0 c1 c2' c3 c4 c5 hfz; have l3 : w.heap.size < w2.heap.size := HK2.out.2.1; have l4 : gS < w2.heap.size := (by omega)))
  all_goals (clear c0 c1 c2' c3 c4 c5 hfz cx)
  all_goals go_wp2_with fail
  all_goals go_region
  all_goals go_wp2
  all_goals go_ret2
  all_goals exact ⟨rfl, a2, c2, w2, HK2.out.1, HO2.out, 1, rfl⟩

theorem rtake_now (M : Mm) (w : World) (B lo : Nat) (aS aH aF aL : Option Addr) (cS cH cF cL : Nat) (ka kb u : Int) (m : Mine w B lo aS aH aF aL cS cH cF cL M) (hF : 0 < M.free.length) (h0 : 0 ≤ lastF M) (h1 : lastF M < M.slots.length) (hm : M.free.length * 8 ≤ 140737488350000) :
    Calls Try.prog 122 #[.pointer (some ⟨B, 0, none⟩), .agg #[.int .i64 ka, .int .i64 kb], .int .i64 u] w fun e w' => e = .returned (.tuple #[.int .i64 (lastF M), .bool true]) ∧ Now w w' B lo (takeM M ka kb u) := by
  obtain ⟨gS, rfl, oS, lS, -, -⟩ := row_form m.c.s (by omega)
  obtain ⟨gF, rfl, oF, lF, kF, kF2⟩ := row_form m.c.f hF
  obtain ⟨n, hn⟩ : ∃ n, M.free.length = n + 1 := ⟨M.free.length - 1, by omega⟩
  have hnF : n < M.free.length := by omega
  have hlast : lastF M = M.free[n] := by
    show M.free.getD (M.free.length - 1) 0 = _
    rw [show M.free.length - 1 = n by omega]
    simp [List.getD_eq_getElem?_getD, hnF]
  obtain ⟨j, hj⟩ : ∃ j : Nat, lastF M = j := ⟨(lastF M).toNat, by omega⟩
  have hFj : M.free[n] = j := hlast.symm.trans hj
  have hjS : j < M.slots.length := by omega
  have hT : takeM M ka kb u = { M with slots := M.slots.set j ⟨1, ka, kb, u, false, M.slots[j].next⟩, free := M.free.take n } := by
    unfold takeM
    rw [hj, show M.free.length - 1 = n by omega]
    simp [List.getD_eq_getElem?_getD, hjS]
  rw [hT, hj]
  obtain ⟨c0, c1, c2, c3, c4, c5, fz⟩ := row_cells m.c.s hjS
  have cx := (row_cell m.c.f hnF).1
  rw [hFj] at cx
  have hB := m.box
  rw [hn] at hB
  have m1 := m.m1
  have hlen : (M.free.take n).length = n := by rw [List.length_take]; omega
  have hFc : ∀ q u, (encI (M.free.take n))[q]? = some u → w.cell? ⟨gF, q, none⟩ = some u := fun q u h => by
    have hq : q < n := by
      have := (List.getElem?_eq_some_iff.1 h).1
      rwa [encI_len, hlen] at this
    rw [m.c.f.cellAt q (by omega), ← h]
    simp [encI, List.getElem?_take_of_lt hq]
  refine (rtake_in w B gS gF _ n j cS cF _ _ _ ka kb u _ _ _ _ _ _ (M.free.take n) hB (by omega) kF2 (by omega) hjS (by omega) m.ne_s m.ne_f lS lF hlen cx hFc c0 c1 c2 c3 c4 c5 fz).mono ?_
  rintro e w' ⟨rfl, a', c', w1, hb, ho, k, rfl⟩
  have mp := (m.newF (M.free.take n) (by rw [hlen]; omega) hb hlen ho).set6 (j := j) hjS ⟨1, ka, kb, u, false, M.slots[j].next⟩
  have kp : Kept w _ B lo := (((Kept.refl w B lo).below hb m.c.lz).setBox (.slice a' n c') (j := 2)).set6 (o := j * 6) oS ⟨1, ka, kb, u, false, M.slots[j].next⟩
  generalize mm.set6 (w1.setCell ⟨B, 2, none⟩ (.slice a' n c')) gS (j * 6) ⟨1, ka, kb, u, false, M.slots[j].next⟩ = W at *
  have hbl : Below W.heap.size W (W.drewN k) := below_draws _ _ k
  exact ⟨rfl, _, _, _, _, _, _, _, _, mp.below hbl, kp.below hbl mp.c.lz⟩


set_option maxHeartbeats 1600000 in
theorem rlink_in (w : World) (B gS gH nS nH j b cS cH : Nat) (fv lv nv : Value) (r ka kb u nx x : Int) (i : Bool)
    (hB : w.heap[B]? = some (.cells #[.slice (some ⟨gS, 0, none⟩) nS cS, .slice (some ⟨gH, 0, none⟩) nH cH, fv, lv, nv] 25 (0, 0))) (hj : j < nS) (hb : b < nH) (hn : nS ≤ 12) (hh : nH ≤ 4) (d1 : B ≠ gS) (d2 : gS ≠ gH) (d3 : B ≠ gH) (l1 : gS < w.heap.size) (l2 : gH < w.heap.size)
    (c0 : w.cell? ⟨gS, j * 6, none⟩ = some (.int .i64 r)) (c1 : w.cell? ⟨gS, j * 6 + 1, none⟩ = some (.int .i64 ka)) (c2 : w.cell? ⟨gS, j * 6 + 2, none⟩ = some (.int .i64 kb)) (c3 : w.cell? ⟨gS, j * 6 + 3, none⟩ = some (.int .i64 u)) (c4 : w.cell? ⟨gS, j * 6 + 4, none⟩ = some (.bool i)) (c5 : w.cell? ⟨gS, j * 6 + 5, none⟩ = some (.int .i64 nx))
    (fz : ∀ q, w.frozen? ⟨gS, q, none⟩ = false) (ch : w.cell? ⟨gH, b, none⟩ = some (.int .i64 x)) (fh : w.frozen? ⟨gH, b, none⟩ = false) :
    Calls Try.prog 124 #[.pointer (some ⟨B, 0, none⟩), .int .i64 j, .int .i64 b] w fun e w' => e = .returned (.tuple #[]) ∧
      ∃ ob, w' = (((mm.set6 w gS (j * 6) ⟨r, ka, kb, u, true, x⟩).setCell ⟨gH, b, none⟩ (.int .i64 ((j : Int) + 1))).alloc ob).drew := by
  obtain ⟨q0, q1, q2, q3, q4, -, -, -, -, -, qs⟩ := boxf hB
  clear hB
  go_enter Try.func124, Try.ntmps124
  go_wp2
  go_region
  all_goals go_wp2
  all_goals go_end0
  all_goals exact ⟨rfl, _, rfl⟩

theorem rlink_now (M : Mm) (w : World) (B lo : Nat) (aS aH aF aL : Option Addr) (cS cH cF cL j b : Nat) (m : Mine w B lo aS aH aF aL cS cH cF cL M) (hok : Ok M) (hj : j < M.slots.length) (hb : b < M.heads.length) :
    Calls Try.prog 124 #[.pointer (some ⟨B, 0, none⟩), .int .i64 j, .int .i64 b] w fun e w' => e = .returned (.tuple #[]) ∧ Now w w' B lo (linkAt M j b) := by
  obtain ⟨gS, rfl, oS, lS, -, -⟩ := row_form m.c.s (by omega)
  obtain ⟨gH, rfl, oH, lH, -, -⟩ := row_form m.c.h (by omega)
  obtain ⟨c0, c1, c2, c3, c4, c5, fz⟩ := row_cells m.c.s hj
  obtain ⟨ch, fh⟩ := row_cell m.c.h hb
  have dj : gS ≠ gH := fun e => own_dj m.c.s m.c.h (by decide) gS rfl (by rw [e]; rfl)
  refine (rlink_in w B gS gH _ _ j b cS cH _ _ _ _ _ _ _ _ _ _ m.box hj hb hok.ns hok.nh.2 m.ne_s dj m.ne_h lS lH c0 c1 c2 c3 c4 c5 fz ch fh).mono ?_
  rintro e w' ⟨rfl, ob, rfl⟩
  have hs : slotAt M j = M.slots[j] := slotAt_lt hj
  have hhd : headM M b = M.heads[b] := by simp [headM, List.getD_eq_getElem?_getD, hb]
  unfold linkAt
  rw [hs, hhd]
  have m2 := (m.set6 (j := j) hj ⟨M.slots[j].refs, M.slots[j].a, M.slots[j].b, M.slots[j].unt, true, M.heads[b]⟩).setH b ((j : Int) + 1)
  have k2 : Kept w _ B lo := ((Kept.refl w B lo).set6 (o := j * 6) oS ⟨M.slots[j].refs, M.slots[j].a, M.slots[j].b, M.slots[j].unt, true, M.heads[b]⟩).setCell (j := b) oH (.int .i64 ((j : Int) + 1))
  generalize (mm.set6 w gS (j * 6) ⟨M.slots[j].refs, M.slots[j].a, M.slots[j].b, M.slots[j].unt, true, M.heads[b]⟩).setCell ⟨gH, b, none⟩ (.int .i64 ((j : Int) + 1)) = W at *
  have hbl : Below W.heap.size W ((W.alloc ob).drew) := (one_below W ob).drew
  exact ⟨rfl, _, _, _, _, _, _, _, _, m2.below hbl, k2.below hbl m2.c.lz⟩


end Go.Proofs.Ytdbilofhcadmoab.mm
