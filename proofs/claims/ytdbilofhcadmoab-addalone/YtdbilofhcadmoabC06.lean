/- The contract of take on memory of one's own. -/
import Derived.Test.YtdbilofhcadmoabC05
import Derived.BigRegion
import Derived.Deep.QuietTactic
import Derived.BigQuiet
import Derived.Lib.QuietBelow
import Derived.ArgAppend
namespace Go.Proofs.Ytdbilofhcadmoab.mm
open Go.ChangeShapes Go.WideShapes Go.ChangeAt Go.RowKit Go.Joins Go.Deep Go.Sort
set_option linter.unusedVariables false

def set6 (w : World) (g o : Nat) (s : Sl) : World :=
  (((((w.setCell ⟨g, o, none⟩ (.int .i64 s.refs)).setCell ⟨g, o + 1, none⟩ (.int .i64 s.a)).setCell ⟨g, o + 2, none⟩ (.int .i64 s.b)).setCell ⟨g, o + 3, none⟩ (.int .i64 s.unt)).setCell ⟨g, o + 4, none⟩ (.bool s.inn)).setCell ⟨g, o + 5, none⟩ (.int .i64 s.next)

theorem encS_set6 (S : List Sl) (j : Nat) (h : j < S.length) (s : Sl) :
    ((((((encS S).set (j * 6) (.int .i64 s.refs)).set (j * 6 + 1) (.int .i64 s.a)).set (j * 6 + 2) (.int .i64 s.b)).set (j * 6 + 3) (.int .i64 s.unt)).set (j * 6 + 4) (.bool s.inn)).set (j * 6 + 5) (.int .i64 s.next) = encS (S.set j s) := by
  induction S generalizing j with
  | nil => simp at h
  | cons x S ih =>
    match j with
    | 0 => simp [encS_cons, Sl.enc]
    | j + 1 =>
      have := ih j (by simpa using h)
      rw [List.set_cons_succ, encS_cons, encS_cons, ← this]
      simp only [Sl.enc, List.cons_append, List.nil_append, show (j + 1) * 6 = j * 6 + 6 by omega, show j * 6 + 6 + 1 = j * 6 + 1 + 6 by omega, show j * 6 + 6 + 2 = j * 6 + 2 + 6 by omega, show j * 6 + 6 + 3 = j * 6 + 3 + 6 by omega, show j * 6 + 6 + 4 = j * 6 + 4 + 6 by omega, show j * 6 + 6 + 5 = j * 6 + 5 + 6 by omega, List.set_cons_succ]

theorem encS_set1 (S : List Sl) (j : Nat) (h : j < S.length) (r : Int) : (encS S).set (j * 6) (.int .i64 r) = encS (S.set j { S[j] with refs := r }) := by
  induction S generalizing j with
  | nil => simp at h
  | cons x S ih =>
    match j with
    | 0 => simp [encS_cons, Sl.enc]
    | j + 1 =>
      have := ih j (by simpa using h)
      rw [List.set_cons_succ, encS_cons, encS_cons, List.getElem_cons_succ, ← this]
      simp only [Sl.enc, List.cons_append, List.nil_append, show (j + 1) * 6 = j * 6 + 6 by omega, List.set_cons_succ]

theorem Mine.set6 {w : World} {B lo g j : Nat} {aH aF aL : Option Addr} {cS cH cF cL : Nat} {M : Mm} (m : Mine w B lo (some ⟨g, 0, none⟩) aH aF aL cS cH cF cL M) (h : j < M.slots.length) (s : Sl) :
    Mine (mm.set6 w g (j * 6) s) B lo (some ⟨g, 0, none⟩) aH aF aL cS cH cF cL { M with slots := M.slots.set j s } := by
  obtain ⟨hB, ⟨hs, hh, f, l, hf, hl', fl, lz⟩, m1, m2, m3, m4⟩ := m
  have hg : (Value.slice (some ⟨g, 0, none⟩) M.slots.length cS).ownBlock = some g := rfl
  have ne : ∀ {v : Value} {n : Nat} {xs : List Value}, w.ownsRow lo 3 1 v n xs → v.ownBlock ≠ some g := fun h e => own_dj h hs (by decide) g e hg
  have oth : ∀ {v : Value} {n : Nat} {xs : List Value}, w.ownsRow lo 3 1 v n xs → (mm.set6 w g (j * 6) s).ownsRow lo 3 1 v n xs := fun h => by
    have := ne h
    unfold mm.set6
    iterate 6 (refine ownsRow_setCell_other ?_ this _)
    exact h
  have hne : B ≠ g := fun e => own_ne hs hB (by decide) (by rw [hg, e])
  refine ⟨?_, ⟨?_, oth hh, oth f, oth l, hf, hl', fl, by simp only [mm.set6, World.size_setCell]; exact lz⟩, by dsimp only; rw [List.length_set]; exact m1, m2, m3, m4⟩
  · dsimp only
    rw [List.length_set]
    unfold mm.set6
    repeat rw [Below.heap_setCell _ _ _ _ (by dsimp only; exact hne)]
    exact hB
  · dsimp only
    rw [List.length_set, ← encS_set6 M.slots j h s]
    unfold mm.set6
    exact ((((((hs.stored _ _).1.stored _ _).1.stored _ _).1.stored _ _).1.stored _ _).1.stored _ _).1
theorem Kept.set6 {w w1 : World} {B lo g o : Nat} (h : Kept w w1 B lo) (hg : lo ≤ g) (s : Sl) : Kept w (mm.set6 w1 g o s) B lo := by
  unfold mm.set6
  iterate 6 (refine Kept.setCell ?_ hg _)
  exact h

theorem row_cells {w : World} {lo g n cap : Nat} {S : List Sl} (h : w.ownsRow lo 39 6 (.slice (some ⟨g, 0, none⟩) n cap) n (encS S)) {j : Nat} (hj : j < S.length) :
    w.cell? ⟨g, j * 6, none⟩ = some (.int .i64 S[j].refs) ∧ w.cell? ⟨g, j * 6 + 1, none⟩ = some (.int .i64 S[j].a) ∧ w.cell? ⟨g, j * 6 + 2, none⟩ = some (.int .i64 S[j].b) ∧
    w.cell? ⟨g, j * 6 + 3, none⟩ = some (.int .i64 S[j].unt) ∧ w.cell? ⟨g, j * 6 + 4, none⟩ = some (.bool S[j].inn) ∧ w.cell? ⟨g, j * 6 + 5, none⟩ = some (.int .i64 S[j].next) ∧ ∀ q, w.frozen? ⟨g, q, none⟩ = false := by
  have hn : S.length * 6 = n * 6 := by rw [← h.1, encS_len]
  have e : ∀ q, q < 6 → w.cell? ⟨g, j * 6 + q, none⟩ = (S[j].enc)[q]? := fun q hq => by
    rw [h.cellAt _ (by omega), encS_get S j q hj hq]
  exact ⟨e 0 (by omega), e 1 (by omega), e 2 (by omega), e 3 (by omega), e 4 (by omega), e 5 (by omega), fun q => h.frozenAt q⟩
theorem row_cell {w : World} {lo g n cap : Nat} {l : List Int} (h : w.ownsRow lo 3 1 (.slice (some ⟨g, 0, none⟩) n cap) n (encI l)) {j : Nat} (hj : j < l.length) :
    w.cell? ⟨g, j, none⟩ = some (.int .i64 l[j]) ∧ w.frozen? ⟨g, j, none⟩ = false := by
  have hn : l.length = n * 1 := by rw [← h.1, encI_len]
  exact ⟨by rw [h.cellAt _ (by omega)]; simp [encI, hj], h.frozenAt j⟩
theorem row_form {w : World} {lo size n cap : Nat} {ao : Option Addr} {e : TypeId} {xs : List Value} (h : w.ownsRow lo e size (.slice ao n cap) n xs) (hn : 0 < n) : ∃ g, ao = some ⟨g, 0, none⟩ ∧ lo ≤ g ∧ g < w.heap.size ∧ n ≤ cap ∧ cap ≤ 9223372036854775807 := by
  rcases h.2 with ⟨_, h0⟩ | ⟨g, cap', cur, hv, hg, hb, hc, hm, _⟩
  · omega
  · injection hv with h1 _ h3
    subst h1 h3
    exact ⟨g, rfl, hg, lt_of_block hb, hc, by unfold maxLen at hm; exact hm⟩

set_option maxHeartbeats 1600000 in
theorem take_in (w : World) (B lo gS gF n j cS cH cF cL : Nat) (aH aL : Option Addr) (M : Mm) (ka kb u : Int)
    (m : Mine w B lo (some ⟨gS, 0, none⟩) aH (some ⟨gF, 0, none⟩) aL cS cH cF cL M) (hF : M.free.length = n + 1) (hj : j < M.slots.length) (hx : M.free[n]'(by omega) = j) (hn : n + 1 ≤ cF) (hc : cF ≤ 9223372036854775807) :
    Calls Try.prog 140 #[.pointer (some ⟨B, 0, none⟩), .agg #[.int .i64 ka, .int .i64 kb], .int .i64 u] w fun e w' => e = .returned (.tuple #[.int .i64 j, .bool true]) ∧
      ∃ w1, Below w.heap.size w w1 ∧ w' = (mm.set6 (w1.setCell ⟨B, 2, none⟩ (.slice (some ⟨gF, 0, none⟩) n cF)) gS (j * 6) ⟨1, ka, kb, u, false, M.slots[j].next⟩).drew := by
  have hn' : n ≤ cF := by omega
  have hS : M.slots.length ≤ 9223372036854775807 := by have := m.m1; omega
  have hv : inB (j : Int) 0 ((M.slots.length : Int) - 1) = true := (inB_iff _ _ _).2 (by omega)
  have HHs : Hid (∀ W : World, Calls Try.prog 78 #[.agg #[.slice (some ⟨gS, 0, none⟩) M.slots.length cS, .slice aH M.heads.length cH, .slice (some ⟨gF, 0, none⟩) M.free.length cF, .slice aL M.locks.length cL, .int .i64 M.now], .int .i64 j] W fun e w' => e = .returned (.bool true) ∧ Below W.heap.size W w') := fun W => hv ▸ isSlot_any _ aH _ aL _ _ _ _ cS cH cF cL M.now j W hS
  obtain ⟨s, hs⟩ : ∃ s, s = M.slots[j] := ⟨_, rfl⟩
  have HS : Hid (M.slots[j] = s) := hs.symm
  have HX : Hid (∀ W, Mine W B lo (some ⟨gS, 0, none⟩) aH (some ⟨gF, 0, none⟩) aL cS cH cF cL M → (W.cell? ⟨gS, j * 6, none⟩ = some (.int .i64 s.refs) ∧ W.cell? ⟨gS, j * 6 + 1, none⟩ = some (.int .i64 s.a) ∧ W.cell? ⟨gS, j * 6 + 2, none⟩ = some (.int .i64 s.b) ∧ W.cell? ⟨gS, j * 6 + 3, none⟩ = some (.int .i64 s.unt) ∧ W.cell? ⟨gS, j * 6 + 4, none⟩ = some (.bool s.inn) ∧ W.cell? ⟨gS, j * 6 + 5, none⟩ = some (.int .i64 s.next) ∧ ∀ q, W.frozen? ⟨gS, q, none⟩ = false) ∧ W.cell? ⟨gF, n, none⟩ = some (.int .i64 j)) := fun W m' => by
    have := (row_cell m'.c.f (j := n) (by omega)).1
    rw [hx] at this
    rw [hs]
    exact ⟨row_cells m'.c.s hj, this⟩
  have HD : Hid (∀ W, Mine W B lo (some ⟨gS, 0, none⟩) aH (some ⟨gF, 0, none⟩) aL cS cH cF cL M → B ≠ gS ∧ B ≠ gF ∧ gS < W.heap.size ∧ gF < W.heap.size ∧ W.heap[B]? = some (.cells #[.slice (some ⟨gS, 0, none⟩) M.slots.length cS, .slice aH M.heads.length cH, .slice (some ⟨gF, 0, none⟩) M.free.length cF, .slice aL M.locks.length cL, .int .i64 M.now] 25 (0, 0))) := fun W m' =>
    ⟨(fun e => own_ne m'.c.s m'.box (by decide) (by rw [e]; rfl)), (fun e => own_ne m'.c.f m'.box (by decide) (by rw [e]; rfl)), (m'.c.s.lt _ rfl).2, (m'.c.f.lt _ rfl).2, m'.box⟩
  obtain ⟨ok, hok⟩ : ∃ o : Obj, o = .cells #[.int .i64 ka, .int .i64 kb] 37 := ⟨_, rfl⟩
  have HM : Hid (Mine (w.alloc ok) B lo (some ⟨gS, 0, none⟩) aH (some ⟨gF, 0, none⟩) aL cS cH cF cL M) := m.below (one_below _ _)
  have HB : Hid (Below w.heap.size w (w.alloc ok)) := one_below _ _
  have HK : Hid ((w.alloc ok).heap[w.heap.size]? = some (.cells #[.int .i64 ka, .int .i64 kb] 37 (0, 0))) := hok ▸ heap_alloc_new w ok
  obtain ⟨-, -, -, -, hB⟩ := HD.out _ m
  obtain ⟨-, -, q2, -, -, -, -, -, -, -, qs⟩ := boxf hB
  rw [hF] at q2
  have hnl : n < M.free.length := by omega
  have HFl : Hid (M.free.length = n + 1) := hF
  have HQ : Hid (w.heap.size ≠ B) := by show _ ≠ _; omega
  clear m hx hv hB hs hF
  go_enter Try.func140, Try.ntmps140
  go_wp2_with fail
  rw [← hok]
  clear q2 qs
  generalize w.alloc ok = W0 at *
  clear hok
  obtain ⟨d1, d2, l1, l2, hB⟩ := HD.out _ HM.out
  obtain ⟨q0, q1, q2, q3, q4, -, -, -, -, -, qs⟩ := boxf hB
  obtain ⟨-, cx⟩ := HX.out _ HM.out
  have cB : ∀ (d : Nat) (os : Array Obj), Calls Try.prog 78 #[.agg #[.slice (some ⟨gS, 0, none⟩) M.slots.length cS, .slice aH M.heads.length cH, .slice (some ⟨gF, 0, none⟩) M.free.length cF, .slice aL M.locks.length cL, .int .i64 M.now], .int .i64 j] (grow (redrawn W0 d) os) fun e w'' => e = .returned (.bool true) ∧ ∃ p : Regrown, w'' = grow (redrawn W0 p.d) p.os := fun d os => Calls.regrown_of (HHs.out _)
  have Q0 := cell_regrown q0; have Q1 := cell_regrown q1; have Q2 := cell_regrown q2; have Q3 := cell_regrown q3; have Q4 := cell_regrown q4; have QX := cell_regrown cx
  clear q0 q1 q2 q3 q4 qs cx hB
  refine wp_region_quiet_below (by kernel_rfl) (by kernel_rfl) ?_
  repeat (quiet_step (first | exact cB _ _))
  refine wpQuiet_nil ?_
  intro _ hw'
  obtain ⟨⟨dq, osq⟩, hw''⟩ := hw'
  subst hw''
  have HB1 : Hid _ := below_regrown W0 dq osq
  generalize grow (redrawn W0 dq) osq = w1 at *
  clear cB Q0 Q1 Q2 Q3 Q4 QX d1 d2 l1 l2 HHs
  have HM1 : Hid (Mine w1 B lo (some ⟨gS, 0, none⟩) aH (some ⟨gF, 0, none⟩) aL cS cH cF cL M) := HM.out.below HB1.out
  have HK1 : Hid (w1.heap[w.heap.size]? = some (.cells #[.int .i64 ka, .int .i64 kb] 37 (0, 0))) := (HB1.out.block _ (lt_of_block HK.out)).trans HK.out
  have HB2 : Hid (Below w.heap.size w w1) := HB.out.trans (HB1.out.mono HB.out.size)
  clear HB1 HM HK HB
  have HM2 : Hid (Mine (w1.setCell ⟨B, 2, none⟩ (.slice (some ⟨gF, 0, none⟩) n cF)) B lo (some ⟨gS, 0, none⟩) aH (some ⟨gF, 0, none⟩) aL cS cH cF cL { M with free := M.free.take n }) := HM1.out.pop HFl.out
  have HK2 : Hid ((w1.setCell ⟨B, 2, none⟩ (.slice (some ⟨gF, 0, none⟩) n cF)).heap[w.heap.size]? = some (.cells #[.int .i64 ka, .int .i64 kb] 37 (0, 0))) := (Below.heap_setCell _ _ _ _ (by dsimp only; exact HQ.out)).trans HK1.out
  have HW : Hid (∃ w2, Below w.heap.size w w2 ∧ w1.setCell ⟨B, 2, none⟩ (.slice (some ⟨gF, 0, none⟩) n cF) = w2.setCell ⟨B, 2, none⟩ (.slice (some ⟨gF, 0, none⟩) n cF)) := ⟨w1, HB2.out, rfl⟩
  obtain ⟨d1, d2, l1, l2, hB⟩ := HD.out _ HM1.out
  obtain ⟨q0, q1, q2, q3, q4, f0, f1, f2, f3, f4, qs⟩ := boxf hB
  obtain ⟨-, cx⟩ := HX.out _ HM1.out
  clear hB HD HX HM1 HK1 HB2
  go_wp2
  clear q0 q1 q2 q3 q4 f0 f1 f2 f3 f4 qs cx l1 l2
  generalize w1.setCell ⟨B, 2, none⟩ (.slice (some ⟨gF, 0, none⟩) n cF) = w2 at *
  obtain ⟨q0, -, -, -, -, -, -, -, -, -, qs⟩ := boxf HM2.out.box
  have l1 : gS < w2.heap.size := (HM2.out.c.s.lt _ rfl).2
  obtain ⟨c0, c1, c2, c3, c4, c5, hfz⟩ := row_cells HM2.out.c.s (j := j) hj
  dsimp only at q0 c0 c1 c2 c3 c4 c5
  rw [HS.out] at c0 c1 c2 c3 c4 c5
  have k0 : w2.cell? ⟨w.heap.size, 0, none⟩ = some (.int .i64 ka) := by rw [cell_of_block HK2.out]; rfl
  have k1 : w2.cell? ⟨w.heap.size, 1, none⟩ = some (.int .i64 kb) := by rw [cell_of_block HK2.out]; rfl
  have ks := lt_of_block HK2.out
  clear HM2 HK2 HQ HFl
  go_region
  all_goals go_wp2
  all_goals go_ret2
  all_goals
    obtain ⟨w3, h3, h4⟩ := HW.out
    subst h4
    exact ⟨rfl, w3, h3, by rw [HS.out]; rfl⟩

theorem take_no (w : World) (B : Nat) (sv hv lv nv : Value) (aF : Option Addr) (cF : Nat) (ka kb u : Int)
    (hB : w.heap[B]? = some (.cells #[sv, hv, .slice aF 0 cF, lv, nv] 25 (0, 0))) :
    Calls Try.prog 140 #[.pointer (some ⟨B, 0, none⟩), .agg #[.int .i64 ka, .int .i64 kb], .int .i64 u] w fun e w' => e = .returned (.tuple #[.int .i64 0, .bool false]) ∧ Below w.heap.size w w' := by
  obtain ⟨q0, q1, q2, q3, q4, f0, f1, f2, f3, f4, qs⟩ := boxf hB
  clear hB
  go_enter Try.func140, Try.ntmps140
  go_wp2_with fail
  go_quiet (fail)
  go_wp2
  go_ret2
  exact ⟨rfl, (one_below _ _).trans ⟨rfl, rfl, rfl, Nat.le_refl _, fun _ _ => rfl⟩⟩

theorem Mine.ne_s {w : World} {B lo g : Nat} {aH aF aL : Option Addr} {cS cH cF cL : Nat} {M : Mm} (m : Mine w B lo (some ⟨g, 0, none⟩) aH aF aL cS cH cF cL M) : B ≠ g :=
  fun e => own_ne m.c.s m.box (by decide) (by rw [e]; rfl)
theorem Mine.ne_h {w : World} {B lo g : Nat} {aS aF aL : Option Addr} {cS cH cF cL : Nat} {M : Mm} (m : Mine w B lo aS (some ⟨g, 0, none⟩) aF aL cS cH cF cL M) : B ≠ g :=
  fun e => own_ne m.c.h m.box (by decide) (by rw [e]; rfl)
theorem Mine.ne_f {w : World} {B lo g : Nat} {aS aH aL : Option Addr} {cS cH cF cL : Nat} {M : Mm} (m : Mine w B lo aS aH (some ⟨g, 0, none⟩) aL cS cH cF cL M) : B ≠ g :=
  fun e => own_ne m.c.f m.box (by decide) (by rw [e]; rfl)
theorem Mine.ne_l {w : World} {B lo g : Nat} {aS aH aF : Option Addr} {cS cH cF cL : Nat} {M : Mm} (m : Mine w B lo aS aH aF (some ⟨g, 0, none⟩) cS cH cF cL M) : B ≠ g :=
  fun e => own_ne m.c.l m.box (by decide) (by rw [e]; rfl)

theorem take_now (M : Mm) (w : World) (B lo : Nat) (aS aH aF aL : Option Addr) (cS cH cF cL : Nat) (ka kb u : Int) (m : Mine w B lo aS aH aF aL cS cH cF cL M) (hF : 0 < M.free.length) (h0 : 0 ≤ lastF M) (h1 : lastF M < M.slots.length) :
    Calls Try.prog 140 #[.pointer (some ⟨B, 0, none⟩), .agg #[.int .i64 ka, .int .i64 kb], .int .i64 u] w fun e w' => e = .returned (.tuple #[.int .i64 (lastF M), .bool true]) ∧ Now w w' B lo (takeM M ka kb u) := by
  obtain ⟨gS, rfl, oS, lS, -, -⟩ := row_form m.c.s (by omega)
  obtain ⟨gF, rfl, oF, lF, kF, kF2⟩ := row_form m.c.f hF
  obtain ⟨n, hn⟩ : ∃ n, M.free.length = n + 1 := ⟨M.free.length - 1, by omega⟩
  have hnF : n < M.free.length := by omega
  have hlast : lastF M = M.free[n] := by
    show M.free.getD (M.free.length - 1) 0 = _
    rw [show M.free.length - 1 = n by omega]
    simp [List.getD_eq_getElem?_getD, hnF]
  obtain ⟨j, hj⟩ : ∃ j : Nat, lastF M = j := ⟨(lastF M).toNat, by omega⟩
  have hFj : M.free[n] = j := hlast.symm.trans hj
  have hjS : j < M.slots.length := by omega
  have hT : takeM M ka kb u = { M with slots := M.slots.set j ⟨1, ka, kb, u, false, M.slots[j].next⟩, free := M.free.take n } := by
    unfold takeM
    rw [hj, show M.free.length - 1 = n by omega]
    simp [List.getD_eq_getElem?_getD, hjS]
  rw [hT, hj]
  obtain ⟨c0, c1, c2, c3, c4, c5, fz⟩ := row_cells m.c.s hjS
  have cx := (row_cell m.c.f hnF).1
  rw [hFj] at cx
  refine (take_in w B lo gS gF n j cS cH cF cL aH aL M ka kb u m hn hjS hFj (by omega) kF2).mono ?_
  rintro e w' ⟨rfl, w1, hb1, rfl⟩
  have m1 := m.below hb1
  have mp := (m1.pop hn).set6 (j := j) hjS ⟨1, ka, kb, u, false, M.slots[j].next⟩
  have kp : Kept w _ B lo := (((Kept.refl w B lo).below hb1 m.c.lz).setBox (.slice (some ⟨gF, 0, none⟩) n cF) (j := 2)).set6 (o := j * 6) oS ⟨1, ka, kb, u, false, M.slots[j].next⟩
  generalize mm.set6 (w1.setCell ⟨B, 2, none⟩ (.slice (some ⟨gF, 0, none⟩) n cF)) gS (j * 6) ⟨1, ka, kb, u, false, M.slots[j].next⟩ = W at *
  have hb : Below W.heap.size W W.drew := (Below.refl _ _).drew
  exact ⟨rfl, _, _, _, _, _, _, _, _, mp.below hb, kp.below hb mp.c.lz⟩

theorem take_any (M : Mm) (w : World) (B lo : Nat) (aS aH aF aL : Option Addr) (cS cH cF cL : Nat) (ka kb u : Int) (m : Mine w B lo aS aH aF aL cS cH cF cL M) (hF : 0 < M.free.length) (h0 : 0 ≤ lastF M) (h1 : lastF M < M.slots.length) :
    Calls Try.prog 140 #[.pointer (some ⟨B, 0, none⟩), .agg #[.int .i64 ka, .int .i64 kb], .int .i64 u] w fun e w' => e = .returned (.tuple #[.int .i64 (lastF M), .bool true]) ∧ Done w w' B lo (takeM M ka kb u) := by
  refine (take_now M w B lo aS aH aF aL cS cH cF cL ka kb u m hF h0 h1).mono ?_
  rintro e w' ⟨rfl, h⟩
  exact ⟨rfl, h.done⟩



end Go.Proofs.Ytdbilofhcadmoab.mm

/- The contracts of hold and put on memory of one's own. -/
namespace Go.Proofs.Ytdbilofhcadmoab.mm
open Go.ChangeShapes Go.WideShapes Go.ChangeAt Go.RowKit Go.Joins
set_option linter.unusedVariables false

theorem hold_no (w : World) (B gS nS j cS : Nat) (hv fv lv nv : Value) (r : Int)
    (hB : w.heap[B]? = some (.cells #[.slice (some ⟨gS, 0, none⟩) nS cS, hv, fv, lv, nv] 25 (0, 0))) (hj : j < nS) (c0 : w.cell? ⟨gS, j * 6, none⟩ = some (.int .i64 r)) (hr : r = 0 ∨ r = 1000) :
    Calls Try.prog 150 #[.pointer (some ⟨B, 0, none⟩), .int .i64 j] w fun e w' => e = .returned (.bool false) ∧ w = w' := by
  obtain ⟨q0, q1, q2, q3, q4, f0, f1, f2, f3, f4, qs⟩ := boxf hB
  clear hB
  rcases hr with rfl | rfl
  all_goals
    go_enter Try.func150, Try.ntmps150
    go_wp2
    go_ret
    exact ⟨rfl, rfl⟩

theorem hold_yes (w : World) (B gS nS j cS : Nat) (hv fv lv nv : Value) (r : Int)
    (hB : w.heap[B]? = some (.cells #[.slice (some ⟨gS, 0, none⟩) nS cS, hv, fv, lv, nv] 25 (0, 0))) (hj : j < nS) (c0 : w.cell? ⟨gS, j * 6, none⟩ = some (.int .i64 r)) (f0 : w.frozen? ⟨gS, j * 6, none⟩ = false) (h0 : 0 < r) (h1 : r < 1000) :
    Calls Try.prog 150 #[.pointer (some ⟨B, 0, none⟩), .int .i64 j] w fun e w' => e = .returned (.bool true) ∧ w.setCell ⟨gS, j * 6, none⟩ (.int .i64 (r + 1)) = w' := by
  obtain ⟨q0, q1, q2, q3, q4, -, -, -, -, -, qs⟩ := boxf hB
  clear hB
  have e0 : (r == 0) = false := by rw [beq_eq_false_iff_ne]; omega
  have e1 : (r == 1000) = false := by rw [beq_eq_false_iff_ne]; omega
  go_enter Try.func150, Try.ntmps150
  go_wp2
  go_ret
  exact ⟨rfl, rfl⟩

theorem put_no (w : World) (B gS nS j cS : Nat) (hv fv lv nv : Value)
    (hB : w.heap[B]? = some (.cells #[.slice (some ⟨gS, 0, none⟩) nS cS, hv, fv, lv, nv] 25 (0, 0))) (hj : j < nS) (c0 : w.cell? ⟨gS, j * 6, none⟩ = some (.int .i64 0)) :
    Calls Try.prog 107 #[.pointer (some ⟨B, 0, none⟩), .int .i64 j] w fun e w' => e = .returned (.bool false) ∧ w = w' := by
  obtain ⟨q0, q1, q2, q3, q4, f0, f1, f2, f3, f4, qs⟩ := boxf hB
  clear hB
  go_enter Try.func107, Try.ntmps107
  go_wp2
  go_ret
  exact ⟨rfl, rfl⟩

theorem put_more (w : World) (B gS nS j cS : Nat) (hv fv lv nv : Value) (r : Int)
    (hB : w.heap[B]? = some (.cells #[.slice (some ⟨gS, 0, none⟩) nS cS, hv, fv, lv, nv] 25 (0, 0))) (hj : j < nS) (c0 : w.cell? ⟨gS, j * 6, none⟩ = some (.int .i64 r)) (f0 : w.frozen? ⟨gS, j * 6, none⟩ = false) (h0 : 1 < r) (h1 : r ≤ 1000) :
    Calls Try.prog 107 #[.pointer (some ⟨B, 0, none⟩), .int .i64 j] w fun e w' => e = .returned (.bool true) ∧ w.setCell ⟨gS, j * 6, none⟩ (.int .i64 (r - 1)) = w' := by
  obtain ⟨q0, q1, q2, q3, q4, -, -, -, -, -, qs⟩ := boxf hB
  clear hB
  have e0 : (r == 0) = false := by rw [beq_eq_false_iff_ne]; omega
  have e1 : (r - 1 == 0) = false := by rw [beq_eq_false_iff_ne]; omega
  go_enter Try.func107, Try.ntmps107
  go_wp2
  go_ret
  exact ⟨rfl, rfl⟩

theorem one_new (w : World) (v : Value) (t : TypeId) (n : Nat) (hn : n = w.heap.size) : ∀ (j : Nat) (u : Value), ([v] : List Value)[j]? = some u → (w.alloc (.cells #[v] t)).cell? ((⟨n, 0, none⟩ : Addr).add j) = some u := by
  subst hn
  intro j u hj
  match j, hj with
  | 0, hj => simp at hj; subst hj; simp [Addr.add]

theorem box_after {w w1 : World} {B gS o : Nat} {row : Option Nat} {u v : Value} {ob : Obj} (hg : ((w.setCell ⟨gS, o, none⟩ u).alloc ob).grownBy w1 row) (q2 : w.cell? ⟨B, 2, none⟩ = some v) (f2 : w.frozen? ⟨B, 2, none⟩ = false) (h1 : B ≠ gS) (h2 : row ≠ some B) (hB : B < w.heap.size) :
    w1.cell? ⟨B, 2, none⟩ = some v ∧ w1.frozen? ⟨B, 2, none⟩ = false := by
  have hk : w1.heap[B]? = w.heap[B]? := by
    rw [hg.block B (by simp; omega) (fun e => h2 e.symm), Below.heap_alloc _ _ _ (by simp; omega), Below.heap_setCell _ _ _ _ (by dsimp only; exact h1)]
  exact ⟨(World.cell?_of_block (a := ⟨B, 2, none⟩) hk).trans q2, (World.frozen?_of_block (a := ⟨B, 2, none⟩) hk).trans f2⟩

theorem clip_at (ao : Option Addr) (n cap : Nat) (w : World) (h : n ≤ cap) (hnil : ao = none → n = 0 ∧ cap = 0) :
    Calls Try.prog 152 #[.slice ao n cap] w fun e w' => e = .returned (.slice ao n n) ∧ w = w' := by
  cases ao with
  | none =>
    obtain ⟨rfl, rfl⟩ := hnil rfl
    go_enter Try.func152, Try.ntmps152
    go_wp2
    go_ret
    exact ⟨rfl, rfl⟩
  | some ad =>
    go_enter Try.func152, Try.ntmps152
    go_wp2
    go_ret
    exact ⟨rfl, rfl⟩

/- The free ones lie in a row that is new; its slice is stored. -/
theorem Mine.newF {w w1 : World} {B lo n : Nat} {aS aH aF aL a' : Option Addr} {cS cH cF cL c' : Nat} {M : Mm} (m : Mine w B lo aS aH aF aL cS cH cF cL M) (F' : List Int) (hm : F'.length * 8 ≤ 140737488351000)
    (hb : Below w.heap.size w w1) (hn : F'.length = n) (ho : w1.ownsRow w.heap.size 3 1 (.slice a' n c') n (encI F')) :
    Mine (w1.setCell ⟨B, 2, none⟩ (.slice a' n c')) B lo aS aH a' aL cS cH c' cL { M with free := F' } := by
  subst hn
  have dh := dj_new m.c.h ho (Nat.le_refl _)
  have dl := dj_new m.c.l ho (Nat.le_refl _)
  obtain ⟨hB, ⟨s, h, f, l, hf, hl, fl, lz⟩, m1, m2, m3, m4⟩ := m.below hb
  refine ⟨?_, ⟨own_box s hB (by decide) _, own_box h hB (by decide) _, own_box (ownsRow_le ho m.c.lz) hB (by decide) _, own_box l hB (by decide) _, dh, hl, dl.symm, by rw [World.size_setCell]; exact lz⟩, m1, m2, hm, m4⟩
  have := block_setCell (i := 2) hB (.slice a' F'.length c')
  simpa using this

set_option maxHeartbeats 1600000 in
theorem put_last (w : World) (B gS nS j cS cF : Nat) (aF : Option Addr) (F : List Int) (hv lv nv : Value)
    (hB : w.heap[B]? = some (.cells #[.slice (some ⟨gS, 0, none⟩) nS cS, hv, .slice aF F.length cF, lv, nv] 25 (0, 0))) (hj : j < nS) (c0 : w.cell? ⟨gS, j * 6, none⟩ = some (.int .i64 1)) (f0 : w.frozen? ⟨gS, j * 6, none⟩ = false)
    (hne : B ≠ gS) (hO : IRow (w.setCell ⟨gS, j * 6, none⟩ (.int .i64 0)) aF cF F) (hm : F.length * 8 ≤ 140737488350000) :
    Calls Try.prog 107 #[.pointer (some ⟨B, 0, none⟩), .int .i64 j] w fun e w' => e = .returned (.bool true) ∧ ∃ a' c' w1, Below w.heap.size (w.setCell ⟨gS, j * 6, none⟩ (.int .i64 0)) w1 ∧
      w1.ownsRow w.heap.size 3 1 (.slice a' (F.length + 1) c') (F.length + 1) (encI (F ++ [(j : Int)])) ∧ w1.setCell ⟨B, 2, none⟩ (.slice a' (F.length + 1) c') = w' := by
  obtain ⟨q0, q1, q2, q3, q4, -, -, f2, -, -, qs⟩ := boxf hB
  obtain ⟨i0, hi, hz0, hz1, hz2⟩ := info_parts iI
  have hne' : (⟨gS, j * 6, none⟩ : Addr) ≠ ⟨B, 2, none⟩ := by intro h; injection h with h; omega
  have HO : Hid (IRow (w.setCell ⟨gS, j * 6, none⟩ (.int .i64 0)) aF cF F) := hO
  have HN : Hid (aF = none → F.length = 0 ∧ cF = 0) := fun h => ⟨by have := HO.out.nil h; have := HO.out.le; omega, HO.out.nil h⟩
  have HN2 : Hid (aF = none → F.length = 0 ∧ F.length = 0) := fun h => ⟨(HN.out h).1, (HN.out h).1⟩
  have HSr : Hid (∀ ad, aF = some ad → ∀ j' u, (encI F)[j']? = some u → ((w.setCell ⟨gS, j * 6, none⟩ (.int .i64 0)).alloc (.cells #[.int .i64 j] 3)).cell? (ad.add j') = some u) := (HO.out.below (one_below _ _)).src
  have HE : Hid ((encI F).length = F.length * 1) := by show _ = _; rw [encI_len, Nat.mul_one]
  have HLe : Hid (F.length ≤ cF) := HO.out.le
  have HMx : Hid (F.length ≤ 9223372036854775807) := by show _ ≤ _; omega
  clear hB hO
  go_enter Try.func107, Try.ntmps107
  go_wp2_with (first
    | (go_at_call 152; refine (clip_at aF F.length cF _ HLe.out HN.out).mono ?_; rintro e w' ⟨rfl, rfl⟩)
    | (at_builtin; (refine wpList_append_grows _ rfl _ _ 23 rfl 3 i0 (.int .i64 0) 1 8 Try.underlying23 hi hz0 hz1 hz2 rfl (by decide) aF F.length F.length (encI F) rfl HN2.out HE.out HSr.out ⟨w.heap.size, 0, none⟩ 1 1 [.int .i64 j] rfl rfl (one_new _ _ _ _ (World.size_setCell ..).symm) (by intro u hu; simp at hu; subst hu; rfl) (by omega) (by unfold maxLen; omega) (by omega) ?_; intro v w1 hown1 hgrow1; obtain ⟨g, cap, rfl⟩ := ownsRow_form hown1 (by omega); have HO1 : Hid (w1.ownsRow ((w.setCell ⟨gS, j * 6, none⟩ (.int .i64 0)).alloc (.cells #[.int .i64 j] 3)).heap.size 3 1 (.slice (some ⟨g, 0, none⟩) (F.length + 1) cap) (F.length + 1) (encI F ++ [.int .i64 j])) := hown1; have HG1 : Hid (((w.setCell ⟨gS, j * 6, none⟩ (.int .i64 0)).alloc (.cells #[.int .i64 j] 3)).grownBy w1 none) := hgrow1; clear hown1 hgrow1; obtain ⟨r2, r3⟩ := box_after HG1.out q2 f2 hne (by simp) qs)))
  go_ret
  refine ⟨rfl, _, _, w1, ?_, ?_, rfl⟩
  · exact ((Below.refl _ _).alloc (by simp) _).grown HG1.out (by simp) (fun k h => by cases h)
  · have := ownsRow_le (base' := w.heap.size) HO1.out (by simp)
    rwa [show encI F ++ [.int .i64 (j : Int)] = encI (F ++ [(j : Int)]) by simp [encI]] at this

theorem setRefs_at (M : Mm) (j : Nat) (hj : j < M.slots.length) (r : Int) : setRefs M j r = M.slots.set j { M.slots[j] with refs := r } := by
  simp [setRefs, List.getD_eq_getElem?_getD, hj]
theorem refsM_at (M : Mm) (j : Nat) (hj : j < M.slots.length) : refsM M j = M.slots[j].refs := by
  simp [refsM, List.getD_eq_getElem?_getD, hj]

theorem hold_fail (M : Mm) (w : World) (B lo : Nat) (aS aH aF aL : Option Addr) (cS cH cF cL : Nat) (i : Int) (m : Mine w B lo aS aH aF aL cS cH cF cL M) (h0 : 0 ≤ i) (h1 : i < M.slots.length) (hr : refsM M i = 0 ∨ refsM M i = 1000) :
    Calls Try.prog 150 #[.pointer (some ⟨B, 0, none⟩), .int .i64 i] w fun e w' => e = .returned (.bool false) ∧ w = w' := by
  obtain ⟨j, rfl⟩ : ∃ j : Nat, i = j := ⟨i.toNat, by omega⟩
  have hj : j < M.slots.length := by omega
  obtain ⟨gS, rfl, -, -, -, -⟩ := row_form m.c.s (by omega)
  rw [refsM_at M j hj] at hr
  exact hold_no w B gS _ j cS _ _ _ _ _ m.box hj (row_cells m.c.s hj).1 hr

theorem put_fail (M : Mm) (w : World) (B lo : Nat) (aS aH aF aL : Option Addr) (cS cH cF cL : Nat) (i : Int) (m : Mine w B lo aS aH aF aL cS cH cF cL M) (h0 : 0 ≤ i) (h1 : i < M.slots.length) (hr : refsM M i = 0) :
    Calls Try.prog 107 #[.pointer (some ⟨B, 0, none⟩), .int .i64 i] w fun e w' => e = .returned (.bool false) ∧ w = w' := by
  obtain ⟨j, rfl⟩ : ∃ j : Nat, i = j := ⟨i.toNat, by omega⟩
  have hj : j < M.slots.length := by omega
  obtain ⟨gS, rfl, -, -, -, -⟩ := row_form m.c.s (by omega)
  rw [refsM_at M j hj] at hr
  exact put_no w B gS _ j cS _ _ _ _ m.box hj (hr ▸ (row_cells m.c.s hj).1)

/- A slot's Refs are turned, nothing else. -/
theorem turned {M : Mm} {w : World} {B lo g j : Nat} {aH aF aL : Option Addr} {cS cH cF cL : Nat} (m : Mine w B lo (some ⟨g, 0, none⟩) aH aF aL cS cH cF cL M) (hj : j < M.slots.length) (r : Int) :
    Mine (w.setCell ⟨g, j * 6, none⟩ (.int .i64 r)) B lo (some ⟨g, 0, none⟩) aH aF aL cS cH cF cL { M with slots := setRefs M j r } := by
  rw [setRefs_at M j hj r]
  exact m.setS _ _ _ (encS_set1 M.slots j hj r)

theorem hold_now (M : Mm) (w : World) (B lo : Nat) (aS aH aF aL : Option Addr) (cS cH cF cL : Nat) (i : Int) (m : Mine w B lo aS aH aF aL cS cH cF cL M) (h0 : 0 ≤ i) (h1 : i < M.slots.length) (hr : 0 < refsM M i) (hr1 : refsM M i < 1000) :
    Calls Try.prog 150 #[.pointer (some ⟨B, 0, none⟩), .int .i64 i] w fun e w' => e = .returned (.bool true) ∧ Now w w' B lo (holdM M i) := by
  obtain ⟨j, rfl⟩ : ∃ j : Nat, i = j := ⟨i.toNat, by omega⟩
  have hj : j < M.slots.length := by omega
  obtain ⟨gS, rfl, oS, -, -, -⟩ := row_form m.c.s (by omega)
  have hrr := refsM_at M j hj
  rw [hrr] at hr hr1
  obtain ⟨c0, -, -, -, -, -, fz⟩ := row_cells m.c.s hj
  refine (hold_yes w B gS _ j cS _ _ _ _ _ m.box hj c0 (fz _) hr hr1).mono ?_
  rintro e w' ⟨rfl, rfl⟩
  have mt := turned m hj (M.slots[j].refs + 1)
  rw [← hrr] at mt ⊢
  exact ⟨rfl, _, _, _, _, _, _, _, _, mt, (Kept.refl w B lo).setCell oS _⟩

theorem put_now (M : Mm) (w : World) (B lo : Nat) (aS aH aF aL : Option Addr) (cS cH cF cL : Nat) (i : Int) (m : Mine w B lo aS aH aF aL cS cH cF cL M) (h0 : 0 ≤ i) (h1 : i < M.slots.length) (hr : 0 < refsM M i) (hr1 : refsM M i ≤ 1000) (hm : M.free.length * 8 ≤ 140737488350000) :
    Calls Try.prog 107 #[.pointer (some ⟨B, 0, none⟩), .int .i64 i] w fun e w' => e = .returned (.bool true) ∧ Now w w' B lo (putM M i) := by
  obtain ⟨j, rfl⟩ : ∃ j : Nat, i = j := ⟨i.toNat, by omega⟩
  have hj : j < M.slots.length := by omega
  obtain ⟨gS, rfl, oS, -, -, -⟩ := row_form m.c.s (by omega)
  have hrr := refsM_at M j hj
  obtain ⟨c0, -, -, -, -, -, fz⟩ := row_cells m.c.s hj
  by_cases hl : refsM M j = 1
  · rw [← hrr, hl] at c0
    have mt := turned m hj 0
    refine (put_last w B gS _ j cS cF aF M.free _ _ _ m.box hj c0 (fz _) m.ne_s mt.at.f hm).mono ?_
    rintro e w' ⟨rfl, a', c', w1, hb, ho, rfl⟩
    have e1 : putM M j = { M with slots := setRefs M j 0, free := M.free ++ [(j : Int)] } := by simp [putM, hl]
    have hlen : (M.free ++ [(j : Int)]).length = M.free.length + 1 := by simp
    rw [e1]
    have hz : (w.setCell ⟨gS, j * 6, none⟩ (.int .i64 0)).heap.size = w.heap.size := World.size_setCell ..
    rw [← hz] at hb ho
    have mg := mt.newF (M.free ++ [(j : Int)]) (by rw [hlen]; omega) hb hlen ho
    refine ⟨rfl, _, _, _, _, _, _, _, _, mg, ?_⟩
    have k1 : Kept w _ B lo := ((Kept.refl w B lo).setCell (j := j * 6) oS (.int .i64 0)).below hb mt.c.lz
    exact k1.setBox _
  · have hr2 : 1 < M.slots[j].refs := by omega
    refine (put_more w B gS _ j cS _ _ _ _ _ m.box hj c0 (fz _) hr2 (by omega)).mono ?_
    rintro e w' ⟨rfl, rfl⟩
    have e1 : putM M j = { M with slots := setRefs M j (refsM M j - 1) } := by simp [putM, hl]
    rw [e1]
    have mt := turned m hj (M.slots[j].refs - 1)
    rw [← hrr] at mt ⊢
    exact ⟨rfl, _, _, _, _, _, _, _, _, mt, (Kept.refl w B lo).setCell oS _⟩

theorem hold_done (M : Mm) (w : World) (B lo : Nat) (aS aH aF aL : Option Addr) (cS cH cF cL : Nat) (i : Int) (m : Mine w B lo aS aH aF aL cS cH cF cL M) (h0 : 0 ≤ i) (h1 : i < M.slots.length) (hr : 0 < refsM M i) (hr1 : refsM M i < 1000) :
    Calls Try.prog 150 #[.pointer (some ⟨B, 0, none⟩), .int .i64 i] w fun e w' => e = .returned (.bool true) ∧ Done w w' B lo (holdM M i) := by
  refine (hold_now M w B lo aS aH aF aL cS cH cF cL i m h0 h1 hr hr1).mono ?_
  rintro e w' ⟨rfl, h⟩
  exact ⟨rfl, h.done⟩
theorem put_done (M : Mm) (w : World) (B lo : Nat) (aS aH aF aL : Option Addr) (cS cH cF cL : Nat) (i : Int) (m : Mine w B lo aS aH aF aL cS cH cF cL M) (h0 : 0 ≤ i) (h1 : i < M.slots.length) (hr : 0 < refsM M i) (hr1 : refsM M i ≤ 1000) (hm : M.free.length * 8 ≤ 140737488350000) :
    Calls Try.prog 107 #[.pointer (some ⟨B, 0, none⟩), .int .i64 i] w fun e w' => e = .returned (.bool true) ∧ Done w w' B lo (putM M i) := by
  refine (put_now M w B lo aS aH aF aL cS cH cF cL i m h0 h1 hr hr1 hm).mono ?_
  rintro e w' ⟨rfl, h⟩
  exact ⟨rfl, h.done⟩



end Go.Proofs.Ytdbilofhcadmoab.mm

/- How many slots are free at most. -/
namespace Go.Proofs.Ytdbilofhcadmoab.mm
open Go.ChangeShapes Go.WideShapes Go.ChangeAt Go.RowKit Go.Joins
set_option linter.unusedVariables false

theorem few : ∀ (n : Nat) (l : List Int), l.Nodup → (∀ a ∈ l, 0 ≤ a ∧ a < n) → l.length ≤ n
  | 0, l, hn, h => by
    match l, h with
    | [], _ => simp
    | a :: _, h => have := h a (by simp); omega
  | n + 1, l, hn, h => by
    have h1 := few n (l.erase (n : Int)) (hn.erase _) (fun a ha => by
      have h3 := (hn.mem_erase_iff).1 ha
      have h4 := h a h3.2
      have h5 := h3.1
      omega)
    rw [List.length_erase] at h1
    split at h1 <;> omega

theorem Ok.few {m : Mm} (h : Ok m) : m.free.length ≤ 12 := by
  have := mm.few m.slots.length m.free h.nodup (fun a ha => by
    have := (freeOk_iff _ _).1 (h.free a ha)
    omega)
  have := h.ns
  omega




end Go.Proofs.Ytdbilofhcadmoab.mm

/- The contracts of changed, at hold and at put. -/
namespace Go.Proofs.Ytdbilofhcadmoab.mm
open Go.ChangeShapes Go.WideShapes Go.ChangeAt Go.RowKit Go.Joins
set_option linter.unusedVariables false

theorem refs_in {M : Mm} (h : chk M = 0) {i : Int} (hi : isSl M i = true) : 0 ≤ i ∧ i < M.slots.length ∧ 0 ≤ refsM M i ∧ refsM M i ≤ 1000 := by
  have hb := (inB_iff _ _ _).1 hi
  obtain ⟨j, rfl⟩ : ∃ j : Nat, i = j := ⟨i.toNat, by omega⟩
  have hj : j < M.slots.length := by omega
  have hrr : refsM M j = M.slots[j].refs := by simp [refsM, List.getD_eq_getElem?_getD, hj]
  have ho := ((chk_zero M).1 h).slot _ (List.getElem_mem hj)
  rw [hrr]
  refine ⟨by omega, by omega, ?_⟩
  have : inB M.slots[j].refs 0 1000 = true := by
    cases hh : inB M.slots[j].refs 0 1000
    · simp [slotErr, hh] at ho
    · rfl
  exact (inB_iff _ _ _).1 this

set_option maxHeartbeats 3200000 in
theorem changed_hold (M : Mm) (aS aH aF aL : Option Addr) (cS cH cF cL : Nat) (i : Int) (w : World) (A : At w aS aH aF aL cS cH cF cL M) :
    Calls Try.prog 106 #[.agg #[.slice aS M.slots.length cS, .slice aH M.heads.length cH, .slice aF M.free.length cF, .slice aL M.locks.length cL, .int .i64 M.now], .int .i64 i, .func (.func 150) #[] #[]] w fun e w' => ∃ v, e = .returned (.tuple #[v, .int .i64 (heldE M i)]) ∧ Ans w.heap.size w' v (heldM M i) ∧ Below w.heap.size w w' := by
  have m1 := A.s.max; have m2 := A.h.max; have m4 := A.l.max
  have n1 : M.slots.length ≤ 9223372036854775807 := by omega
  obtain ⟨E0, hE0⟩ : ∃ E0, E0 = heldE M i := ⟨_, rfl⟩
  obtain ⟨M1, hM1⟩ : ∃ M1, M1 = heldM M i := ⟨_, rfl⟩
  rw [← hE0, ← hM1]
  have HE0 : Hid _ := hE0
  have HM1 : Hid _ := hM1
  clear hE0 hM1
  obtain ⟨o1, ho1⟩ : ∃ o : Obj, o = .cells #[.slice aS M.slots.length cS, .slice aH M.heads.length cH, .slice aF M.free.length cF, .slice aL M.locks.length cL, .int .i64 M.now] 25 := ⟨_, rfl⟩
  obtain ⟨o2, ho2⟩ : ∃ o : Obj, o = .cells #[.slice none 0 0, .slice none 0 0, .slice none 0 0, .slice none 0 0, .int .i64 0] 25 := ⟨_, rfl⟩
  have b0 : Below w.heap.size w ((w.alloc o1).alloc o2) := below_alloc2 w o1 o2
  have HB0 : Hid (((w.alloc o1).alloc o2).heap[w.heap.size]? = some o1) := by show _ = _; rw [Below.heap_alloc _ _ _ (by simp), heap_alloc_new]
  have HR0 : Hid (((w.alloc o1).alloc o2).heap[w.heap.size + 1]? = some o2) := by
    have := heap_alloc_new (w.alloc o1) o2
    rwa [show (w.alloc o1).heap.size = w.heap.size + 1 by simp] at this
  have HA0 : Hid _ := A.below b0
  clear A
  go_enter Try.func106, Try.ntmps106
  go_wp2_with fail
  rw [← ho1, ← ho2]
  generalize (w.alloc o1).alloc o2 = W0 at *
  subst ho1 ho2
  refine (check_any M aS aH aF aL cS cH cF cL W0 HA0.out).mono ?_
  rintro e w1 ⟨rfl, hb1⟩
  have b1 := b0.trans (hb1.mono b0.size)
  have HB1 : Hid _ := (hb1.block w.heap.size (lt_of_block HB0.out)).trans HB0.out
  have HR1 : Hid _ := (hb1.block (w.heap.size + 1) (lt_of_block HR0.out)).trans HR0.out
  have HA1 : Hid _ := HA0.out.below hb1
  clear hb1 b0 HB0 HR0 HA0
  by_cases hE : chk M = 0
  rotate_left
  · have HV : Hid (E0 = chk M ∧ M1 = m0) := by
      have : heldE M i = chk M := by unfold heldE; rw [if_pos hE]
      exact ⟨HE0.out.trans this, HM1.out.trans (by unfold heldM; rw [this, if_neg hE])⟩
    have h' : (chk M != 0) = true := by simpa using hE
    obtain ⟨r0, r1, r2, r3, r4, g0, g1, g2, g3, g4, rs⟩ := boxf HR1.out
    clear HB1 HR1 HA1
    generalize chk M = E at *
    go_wp2
    refine bodyPost_ret (v := .tuple #[.agg #[.slice none 0 0, .slice none 0 0, .slice none 0 0, .slice none 0 0, .int .i64 0], .int .i64 E]) (by simp [results, Try.results106, go_sem, r0, r1, r2, r3, r4]) rfl ⟨_, by rw [HV.out.1], by rw [HV.out.2]; exact ans0 _ _, ?_⟩
    exact b1.trans (set5_below w1 _ _ _ _ _ _ _ (by omega))
  have HC : Hid (chk M = 0) := hE
  rw [hE]
  clear hE
  obtain ⟨q0, q1, q2, q3, q4, f0, f1, f2, f3, f4, qs⟩ := boxf HB1.out
  go_wp2_with fail
  refine (isSlot_any aS aH aF aL _ _ _ _ cS cH cF cL _ _ w1 n1).mono ?_
  rintro e w2 ⟨rfl, hb2⟩
  have b2 := b1.trans (hb2.mono b1.size)
  have HB2 : Hid _ := (hb2.block w.heap.size (lt_of_block HB1.out)).trans HB1.out
  have HR2 : Hid _ := (hb2.block (w.heap.size + 1) (lt_of_block HR1.out)).trans HR1.out
  have HA2 : Hid _ := HA1.out.below hb2
  clear hb2 b1 HB1 HR1 HA1 q0 q1 q2 q3 q4 f0 f1 f2 f3 f4 qs
  cases hS : inB i 0 ((M.slots.length : Int) - 1)
  · have HV : Hid (E0 = 5 ∧ M1 = m0) := by
      have : heldE M i = 5 := by unfold heldE; rw [if_neg (by simpa using HC.out), if_pos (show isSl M i = false from hS)]
      exact ⟨HE0.out.trans this, HM1.out.trans (by unfold heldM; rw [this, if_neg (by decide)])⟩
    obtain ⟨r0, r1, r2, r3, r4, g0, g1, g2, g3, g4, rs⟩ := boxf HR2.out
    clear HB2 HR2 HA2
    go_wp2
    refine bodyPost_ret (v := .tuple #[.agg #[.slice none 0 0, .slice none 0 0, .slice none 0 0, .slice none 0 0, .int .i64 0], .int .i64 5]) (by simp [results, Try.results106, go_sem, r0, r1, r2, r3, r4]) rfl ⟨_, by rw [HV.out.1], by rw [HV.out.2]; exact ans0 _ _, ?_⟩
    exact b2.trans (set5_below w2 _ _ _ _ _ _ _ (by omega))
  have HS : Hid (isSl M i = true) := hS
  clear hS
  obtain ⟨i0, i1, hr0, hr1⟩ := refs_in HC.out HS.out
  have m3 := ((chk_zero M).1 HC.out).few
  obtain ⟨q0, q1, q2, q3, q4, f0, f1, f2, f3, f4, qs⟩ := boxf HB2.out
  go_wp2_with fail
  refine (copy_any M aS aH aF aL cS cH cF cL w2 HA2.out).mono ?_
  rintro e w3 ⟨gS, gH, gF, gL, kS, kH, kF, kL, rfl, c3, hb3⟩
  have b3 := b2.trans (hb3.mono b2.size)
  have HB3 : Hid _ := (hb3.block w.heap.size (lt_of_block HB2.out)).trans HB2.out
  have HR3 : Hid _ := (hb3.block (w.heap.size + 1) (lt_of_block HR2.out)).trans HR2.out
  have t2 := lt_of_block HR2.out
  have b2s := b2.size
  clear hb3 b2 HB2 HR2 HA2 q0 q1 q2 q3 q4 f0 f1 f2 f3 f4 qs
  have hM : Mine (set5 w3 w.heap.size (.slice gS M.slots.length kS) (.slice gH M.heads.length kH) (.slice gF M.free.length kF) (.slice gL M.locks.length kL) (.int .i64 M.now)) w.heap.size w2.heap.size gS gH gF gL kS kH kF kL M :=
    ⟨set5_block HB3.out _ _ _ _ _, c3.set5 HB3.out _ _ _ _ _, m1, m2, by omega, m4⟩
  have b4 := b3.trans (set5_below w3 w.heap.size w.heap.size (.slice gS M.slots.length kS) (.slice gH M.heads.length kH) (.slice gF M.free.length kF) (.slice gL M.locks.length kL) (.int .i64 M.now) (Nat.le_refl _))
  have HR4 : Hid _ := (set5_other (w := w3) (g := w.heap.size) (v0 := .slice gS M.slots.length kS) (v1 := .slice gH M.heads.length kH) (v2 := .slice gF M.free.length kF) (v3 := .slice gL M.locks.length kL) (v4 := .int .i64 M.now) (k := w.heap.size + 1) (by omega)).trans HR3.out
  have HM : Hid _ := hM
  obtain ⟨q0, q1, q2, q3, q4, f0, f1, f2, f3, f4, qs⟩ := boxf HB3.out
  clear hM HB3 HR3 c3
  go_wp2_with fail
  rw [show ((((w3.setCell ⟨w.heap.size, 0, none⟩ (.slice gS M.slots.length kS)).setCell ⟨w.heap.size, 1, none⟩ (.slice gH M.heads.length kH)).setCell ⟨w.heap.size, 2, none⟩ (.slice gF M.free.length kF)).setCell ⟨w.heap.size, 3, none⟩ (.slice gL M.locks.length kL)).setCell ⟨w.heap.size, 4, none⟩ (.int .i64 M.now) = set5 w3 w.heap.size (.slice gS M.slots.length kS) (.slice gH M.heads.length kH) (.slice gF M.free.length kF) (.slice gL M.locks.length kL) (.int .i64 M.now) from rfl]
  clear q0 q1 q2 q3 q4 f0 f1 f2 f3 f4 qs b3
  generalize set5 w3 w.heap.size (.slice gS M.slots.length kS) (.slice gH M.heads.length kH) (.slice gF M.free.length kF) (.slice gL M.locks.length kL) (.int .i64 M.now) = W4 at *
  by_cases hr : refsM M i = 0 ∨ refsM M i = 1000
  · have HV : Hid (E0 = 8 ∧ M1 = m0) := by
      have : heldE M i = 8 := by unfold heldE; rw [if_neg (by simpa using HC.out), if_neg (by rw [HS.out]; simp), if_pos hr]
      exact ⟨HE0.out.trans this, HM1.out.trans (by unfold heldM; rw [this, if_neg (by decide)])⟩
    refine (hold_fail M W4 _ _ gS gH gF gL kS kH kF kL i HM.out i0 i1 hr).mono ?_
    rintro e w5 ⟨rfl, rfl⟩
    obtain ⟨r0, r1, r2, r3, r4, g0, g1, g2, g3, g4, rs⟩ := boxf HR4.out
    clear HR4 HM
    go_wp2
    refine bodyPost_ret (v := .tuple #[.agg #[.slice none 0 0, .slice none 0 0, .slice none 0 0, .slice none 0 0, .int .i64 0], .int .i64 8]) (by simp [results, Try.results106, go_sem, r0, r1, r2, r3, r4]) rfl ⟨_, by rw [HV.out.1], by rw [HV.out.2]; exact ans0 _ _, ?_⟩
    exact b4.trans (set5_below W4 _ _ _ _ _ _ _ (by omega))
  · have HV : Hid (E0 = 0 ∧ M1 = holdM M i) := by
      have : heldE M i = 0 := by unfold heldE; rw [if_neg (by simpa using HC.out), if_neg (by rw [HS.out]; simp), if_neg hr]
      exact ⟨HE0.out.trans this, HM1.out.trans (by unfold heldM; rw [this, if_pos rfl])⟩
    refine (hold_done M W4 _ _ gS gH gF gL kS kH kF kL i HM.out i0 i1 (by omega) (by omega)).mono ?_
    rintro e w5 ⟨rfl, aS', aH', aF', aL', cS', cH', cF', cL', k5, A5, kept, hi5⟩
    have b5 : Below w.heap.size w w5 := b4.trans ⟨kept.os, kept.tape, kept.output, kept.size, fun k hk => kept.block k (by omega) (by omega)⟩
    have HR5 : Hid _ := (kept.block (w.heap.size + 1) t2 (by omega)).trans HR4.out
    have HA5 : Hid _ := A5
    have HK5 : Hid _ := k5
    clear A5 kept HR4 HM b4 k5
    have hz5 := HR5.out
    obtain ⟨r0, r1, r2, r3, r4, g0, g1, g2, g3, g4, rs⟩ := boxf HR5.out
    obtain ⟨q0, q1, q2, q3, q4, f0, f1, f2, f3, f4, qs⟩ := boxf HK5.out
    clear hz5
    generalize hMn : holdM M i = Mn at *
    have HMn : Hid _ := hMn
    clear hMn
    go_wp2
    refine bodyPost_ret (v := .tuple #[.agg #[.slice aS' Mn.slots.length cS', .slice aH' Mn.heads.length cH', .slice aF' Mn.free.length cF', .slice aL' Mn.locks.length cL', .int .i64 Mn.now], .int .i64 0]) (by simp [results, Try.results106, go_sem, r0, r1, r2, r3, r4]) rfl ⟨_, by rw [HV.out.1], ?_, ?_⟩
    · rw [HV.out.2]
      have A6 := HA5.out.off hi5 t2 (fun k hk => set5_other (w := w5) (v0 := .slice aS' Mn.slots.length cS') (v1 := .slice aH' Mn.heads.length cH') (v2 := .slice aF' Mn.free.length cF') (v3 := .slice aL' Mn.locks.length cL') (v4 := .int .i64 Mn.now) hk)
      exact ⟨aS', aH', aF', aL', cS', cH', cF', cL', rfl, A6, hi5.mono b2s⟩
    · exact b5.trans (set5_below w5 _ _ _ _ _ _ _ (by omega))

set_option maxHeartbeats 3200000 in
theorem changed_put (M : Mm) (aS aH aF aL : Option Addr) (cS cH cF cL : Nat) (i : Int) (w : World) (A : At w aS aH aF aL cS cH cF cL M) :
    Calls Try.prog 106 #[.agg #[.slice aS M.slots.length cS, .slice aH M.heads.length cH, .slice aF M.free.length cF, .slice aL M.locks.length cL, .int .i64 M.now], .int .i64 i, .func (.func 107) #[] #[]] w fun e w' => ∃ v, e = .returned (.tuple #[v, .int .i64 (letE M i)]) ∧ Ans w.heap.size w' v (letM M i) ∧ Below w.heap.size w w' := by
  have m1 := A.s.max; have m2 := A.h.max; have m4 := A.l.max
  have n1 : M.slots.length ≤ 9223372036854775807 := by omega
  obtain ⟨E0, hE0⟩ : ∃ E0, E0 = letE M i := ⟨_, rfl⟩
  obtain ⟨M1, hM1⟩ : ∃ M1, M1 = letM M i := ⟨_, rfl⟩
  rw [← hE0, ← hM1]
  have HE0 : Hid _ := hE0
  have HM1 : Hid _ := hM1
  clear hE0 hM1
  obtain ⟨o1, ho1⟩ : ∃ o : Obj, o = .cells #[.slice aS M.slots.length cS, .slice aH M.heads.length cH, .slice aF M.free.length cF, .slice aL M.locks.length cL, .int .i64 M.now] 25 := ⟨_, rfl⟩
  obtain ⟨o2, ho2⟩ : ∃ o : Obj, o = .cells #[.slice none 0 0, .slice none 0 0, .slice none 0 0, .slice none 0 0, .int .i64 0] 25 := ⟨_, rfl⟩
  have b0 : Below w.heap.size w ((w.alloc o1).alloc o2) := below_alloc2 w o1 o2
  have HB0 : Hid (((w.alloc o1).alloc o2).heap[w.heap.size]? = some o1) := by show _ = _; rw [Below.heap_alloc _ _ _ (by simp), heap_alloc_new]
  have HR0 : Hid (((w.alloc o1).alloc o2).heap[w.heap.size + 1]? = some o2) := by
    have := heap_alloc_new (w.alloc o1) o2
    rwa [show (w.alloc o1).heap.size = w.heap.size + 1 by simp] at this
  have HA0 : Hid _ := A.below b0
  clear A
  go_enter Try.func106, Try.ntmps106
  go_wp2_with fail
  rw [← ho1, ← ho2]
  generalize (w.alloc o1).alloc o2 = W0 at *
  subst ho1 ho2
  refine (check_any M aS aH aF aL cS cH cF cL W0 HA0.out).mono ?_
  rintro e w1 ⟨rfl, hb1⟩
  have b1 := b0.trans (hb1.mono b0.size)
  have HB1 : Hid _ := (hb1.block w.heap.size (lt_of_block HB0.out)).trans HB0.out
  have HR1 : Hid _ := (hb1.block (w.heap.size + 1) (lt_of_block HR0.out)).trans HR0.out
  have HA1 : Hid _ := HA0.out.below hb1
  clear hb1 b0 HB0 HR0 HA0
  by_cases hE : chk M = 0
  rotate_left
  · have HV : Hid (E0 = chk M ∧ M1 = m0) := by
      have : letE M i = chk M := by unfold letE; rw [if_pos hE]
      exact ⟨HE0.out.trans this, HM1.out.trans (by unfold letM; rw [this, if_neg hE])⟩
    have h' : (chk M != 0) = true := by simpa using hE
    obtain ⟨r0, r1, r2, r3, r4, g0, g1, g2, g3, g4, rs⟩ := boxf HR1.out
    clear HB1 HR1 HA1
    generalize chk M = E at *
    go_wp2
    refine bodyPost_ret (v := .tuple #[.agg #[.slice none 0 0, .slice none 0 0, .slice none 0 0, .slice none 0 0, .int .i64 0], .int .i64 E]) (by simp [results, Try.results106, go_sem, r0, r1, r2, r3, r4]) rfl ⟨_, by rw [HV.out.1], by rw [HV.out.2]; exact ans0 _ _, ?_⟩
    exact b1.trans (set5_below w1 _ _ _ _ _ _ _ (by omega))
  have HC : Hid (chk M = 0) := hE
  rw [hE]
  clear hE
  obtain ⟨q0, q1, q2, q3, q4, f0, f1, f2, f3, f4, qs⟩ := boxf HB1.out
  go_wp2_with fail
  refine (isSlot_any aS aH aF aL _ _ _ _ cS cH cF cL _ _ w1 n1).mono ?_
  rintro e w2 ⟨rfl, hb2⟩
  have b2 := b1.trans (hb2.mono b1.size)
  have HB2 : Hid _ := (hb2.block w.heap.size (lt_of_block HB1.out)).trans HB1.out
  have HR2 : Hid _ := (hb2.block (w.heap.size + 1) (lt_of_block HR1.out)).trans HR1.out
  have HA2 : Hid _ := HA1.out.below hb2
  clear hb2 b1 HB1 HR1 HA1 q0 q1 q2 q3 q4 f0 f1 f2 f3 f4 qs
  cases hS : inB i 0 ((M.slots.length : Int) - 1)
  · have HV : Hid (E0 = 5 ∧ M1 = m0) := by
      have : letE M i = 5 := by unfold letE; rw [if_neg (by simpa using HC.out), if_pos (show isSl M i = false from hS)]
      exact ⟨HE0.out.trans this, HM1.out.trans (by unfold letM; rw [this, if_neg (by decide)])⟩
    obtain ⟨r0, r1, r2, r3, r4, g0, g1, g2, g3, g4, rs⟩ := boxf HR2.out
    clear HB2 HR2 HA2
    go_wp2
    refine bodyPost_ret (v := .tuple #[.agg #[.slice none 0 0, .slice none 0 0, .slice none 0 0, .slice none 0 0, .int .i64 0], .int .i64 5]) (by simp [results, Try.results106, go_sem, r0, r1, r2, r3, r4]) rfl ⟨_, by rw [HV.out.1], by rw [HV.out.2]; exact ans0 _ _, ?_⟩
    exact b2.trans (set5_below w2 _ _ _ _ _ _ _ (by omega))
  have HS : Hid (isSl M i = true) := hS
  clear hS
  obtain ⟨i0, i1, hr0, hr1⟩ := refs_in HC.out HS.out
  have m3 := ((chk_zero M).1 HC.out).few
  obtain ⟨q0, q1, q2, q3, q4, f0, f1, f2, f3, f4, qs⟩ := boxf HB2.out
  go_wp2_with fail
  refine (copy_any M aS aH aF aL cS cH cF cL w2 HA2.out).mono ?_
  rintro e w3 ⟨gS, gH, gF, gL, kS, kH, kF, kL, rfl, c3, hb3⟩
  have b3 := b2.trans (hb3.mono b2.size)
  have HB3 : Hid _ := (hb3.block w.heap.size (lt_of_block HB2.out)).trans HB2.out
  have HR3 : Hid _ := (hb3.block (w.heap.size + 1) (lt_of_block HR2.out)).trans HR2.out
  have t2 := lt_of_block HR2.out
  have b2s := b2.size
  clear hb3 b2 HB2 HR2 HA2 q0 q1 q2 q3 q4 f0 f1 f2 f3 f4 qs
  have hM : Mine (set5 w3 w.heap.size (.slice gS M.slots.length kS) (.slice gH M.heads.length kH) (.slice gF M.free.length kF) (.slice gL M.locks.length kL) (.int .i64 M.now)) w.heap.size w2.heap.size gS gH gF gL kS kH kF kL M :=
    ⟨set5_block HB3.out _ _ _ _ _, c3.set5 HB3.out _ _ _ _ _, m1, m2, by omega, m4⟩
  have b4 := b3.trans (set5_below w3 w.heap.size w.heap.size (.slice gS M.slots.length kS) (.slice gH M.heads.length kH) (.slice gF M.free.length kF) (.slice gL M.locks.length kL) (.int .i64 M.now) (Nat.le_refl _))
  have HR4 : Hid _ := (set5_other (w := w3) (g := w.heap.size) (v0 := .slice gS M.slots.length kS) (v1 := .slice gH M.heads.length kH) (v2 := .slice gF M.free.length kF) (v3 := .slice gL M.locks.length kL) (v4 := .int .i64 M.now) (k := w.heap.size + 1) (by omega)).trans HR3.out
  have HM : Hid _ := hM
  obtain ⟨q0, q1, q2, q3, q4, f0, f1, f2, f3, f4, qs⟩ := boxf HB3.out
  clear hM HB3 HR3 c3
  go_wp2_with fail
  rw [show ((((w3.setCell ⟨w.heap.size, 0, none⟩ (.slice gS M.slots.length kS)).setCell ⟨w.heap.size, 1, none⟩ (.slice gH M.heads.length kH)).setCell ⟨w.heap.size, 2, none⟩ (.slice gF M.free.length kF)).setCell ⟨w.heap.size, 3, none⟩ (.slice gL M.locks.length kL)).setCell ⟨w.heap.size, 4, none⟩ (.int .i64 M.now) = set5 w3 w.heap.size (.slice gS M.slots.length kS) (.slice gH M.heads.length kH) (.slice gF M.free.length kF) (.slice gL M.locks.length kL) (.int .i64 M.now) from rfl]
  clear q0 q1 q2 q3 q4 f0 f1 f2 f3 f4 qs b3
  generalize set5 w3 w.heap.size (.slice gS M.slots.length kS) (.slice gH M.heads.length kH) (.slice gF M.free.length kF) (.slice gL M.locks.length kL) (.int .i64 M.now) = W4 at *
  by_cases hr : refsM M i = 0
  · have HV : Hid (E0 = 8 ∧ M1 = m0) := by
      have : letE M i = 8 := by unfold letE; rw [if_neg (by simpa using HC.out), if_neg (by rw [HS.out]; simp), if_pos hr]
      exact ⟨HE0.out.trans this, HM1.out.trans (by unfold letM; rw [this, if_neg (by decide)])⟩
    refine (put_fail M W4 _ _ gS gH gF gL kS kH kF kL i HM.out i0 i1 hr).mono ?_
    rintro e w5 ⟨rfl, rfl⟩
    obtain ⟨r0, r1, r2, r3, r4, g0, g1, g2, g3, g4, rs⟩ := boxf HR4.out
    clear HR4 HM
    go_wp2
    refine bodyPost_ret (v := .tuple #[.agg #[.slice none 0 0, .slice none 0 0, .slice none 0 0, .slice none 0 0, .int .i64 0], .int .i64 8]) (by simp [results, Try.results106, go_sem, r0, r1, r2, r3, r4]) rfl ⟨_, by rw [HV.out.1], by rw [HV.out.2]; exact ans0 _ _, ?_⟩
    exact b4.trans (set5_below W4 _ _ _ _ _ _ _ (by omega))
  · have HV : Hid (E0 = 0 ∧ M1 = putM M i) := by
      have : letE M i = 0 := by unfold letE; rw [if_neg (by simpa using HC.out), if_neg (by rw [HS.out]; simp), if_neg hr]
      exact ⟨HE0.out.trans this, HM1.out.trans (by unfold letM; rw [this, if_pos rfl])⟩
    refine (put_done M W4 _ _ gS gH gF gL kS kH kF kL i HM.out i0 i1 (by omega) hr1 (by omega)).mono ?_
    rintro e w5 ⟨rfl, aS', aH', aF', aL', cS', cH', cF', cL', k5, A5, kept, hi5⟩
    have b5 : Below w.heap.size w w5 := b4.trans ⟨kept.os, kept.tape, kept.output, kept.size, fun k hk => kept.block k (by omega) (by omega)⟩
    have HR5 : Hid _ := (kept.block (w.heap.size + 1) t2 (by omega)).trans HR4.out
    have HA5 : Hid _ := A5
    have HK5 : Hid _ := k5
    clear A5 kept HR4 HM b4 k5
    have hz5 := HR5.out
    obtain ⟨r0, r1, r2, r3, r4, g0, g1, g2, g3, g4, rs⟩ := boxf HR5.out
    obtain ⟨q0, q1, q2, q3, q4, f0, f1, f2, f3, f4, qs⟩ := boxf HK5.out
    clear hz5
    generalize hMn : putM M i = Mn at *
    have HMn : Hid _ := hMn
    clear hMn
    go_wp2
    refine bodyPost_ret (v := .tuple #[.agg #[.slice aS' Mn.slots.length cS', .slice aH' Mn.heads.length cH', .slice aF' Mn.free.length cF', .slice aL' Mn.locks.length cL', .int .i64 Mn.now], .int .i64 0]) (by simp [results, Try.results106, go_sem, r0, r1, r2, r3, r4]) rfl ⟨_, by rw [HV.out.1], ?_, ?_⟩
    · rw [HV.out.2]
      have A6 := HA5.out.off hi5 t2 (fun k hk => set5_other (w := w5) (v0 := .slice aS' Mn.slots.length cS') (v1 := .slice aH' Mn.heads.length cH') (v2 := .slice aF' Mn.free.length cF') (v3 := .slice aL' Mn.locks.length cL') (v4 := .int .i64 Mn.now) hk)
      exact ⟨aS', aH', aF', aL', cS', cH', cF', cL', rfl, A6, hi5.mono b2s⟩
    · exact b5.trans (set5_below w5 _ _ _ _ _ _ _ (by omega))



end Go.Proofs.Ytdbilofhcadmoab.mm

/- The contracts of Held and Let. -/
namespace Go.Proofs.Ytdbilofhcadmoab.mm
open Go.ChangeShapes Go.WideShapes Go.ChangeAt Go.RowKit Go.Joins
set_option linter.unusedVariables false

set_option maxHeartbeats 1600000 in
theorem let_any (M : Mm) (v : Value) (i : Int) (w : World) (lo : Nat) (A : Ans lo w v M) :
    Calls Try.prog 47 #[v, .int .i64 i] w fun e w' => ∃ v, e = .returned (.tuple #[v, .int .i64 (letE M i)]) ∧ Ans w.heap.size w' v (letM M i) ∧ Below w.heap.size w w' := by
  obtain ⟨aS, aH, aF, aL, cS, cH, cF, cL, rfl, A, -⟩ := A
  generalize hE : letE M i = E0
  generalize hM : letM M i = M1
  have HE : Hid _ := hE
  have HM : Hid _ := hM
  clear hE hM
  obtain ⟨o1, ho1⟩ : ∃ o : Obj, o = .cells #[.slice aS M.slots.length cS, .slice aH M.heads.length cH, .slice aF M.free.length cF, .slice aL M.locks.length cL, .int .i64 M.now] 25 := ⟨_, rfl⟩
  obtain ⟨o2, ho2⟩ : ∃ o : Obj, o = .cells #[.slice none 0 0, .slice none 0 0, .slice none 0 0, .slice none 0 0, .int .i64 0] 25 := ⟨_, rfl⟩
  have b0 : Below w.heap.size w ((w.alloc o1).alloc o2) := below_alloc2 w o1 o2
  have HR0 : Hid (((w.alloc o1).alloc o2).heap[w.heap.size + 1]? = some o2) := by
    have := heap_alloc_new (w.alloc o1) o2
    rwa [show (w.alloc o1).heap.size = w.heap.size + 1 by simp] at this
  have HA0 : Hid _ := A.below b0
  clear A
  go_enter Try.func47, Try.ntmps47
  go_wp2_with fail
  rw [← ho1, ← ho2]
  generalize (w.alloc o1).alloc o2 = W0 at *
  subst ho1 ho2
  refine (changed_put M aS aH aF aL cS cH cF cL i W0 HA0.out).mono ?_
  rw [HE.out, HM.out]
  rintro e w1 ⟨v1, rfl, ⟨aS', aH', aF', aL', cS', cH', cF', cL', rfl, A1, hi1⟩, hb1⟩
  have b1 := b0.trans (hb1.mono b0.size)
  have HR1 : Hid _ := (hb1.block (w.heap.size + 1) (lt_of_block HR0.out)).trans HR0.out
  have HA1 : Hid _ := A1
  have HL : Hid (w.heap.size + 1 < W0.heap.size) := lt_of_block HR0.out
  have HL2 : Hid (w.heap.size ≤ W0.heap.size) := b0.size
  clear hb1 b0 HA0 A1
  obtain ⟨r0, r1, r2, r3, r4, g0, g1, g2, g3, g4, rs⟩ := boxf HR1.out
  go_wp2
  refine bodyPost_ret (v := .tuple #[.agg #[.slice aS' M1.slots.length cS', .slice aH' M1.heads.length cH', .slice aF' M1.free.length cF', .slice aL' M1.locks.length cL', .int .i64 M1.now], .int .i64 E0]) (by simp [results, Try.results47, go_sem, r0, r1, r2, r3, r4]) rfl ⟨_, rfl, ?_, ?_⟩
  · have A6 := HA1.out.off hi1 HL.out (fun k hk => set5_other (w := w1) (v0 := .slice aS' M1.slots.length cS') (v1 := .slice aH' M1.heads.length cH') (v2 := .slice aF' M1.free.length cF') (v3 := .slice aL' M1.locks.length cL') (v4 := .int .i64 M1.now) hk)
    exact ⟨aS', aH', aF', aL', cS', cH', cF', cL', rfl, A6, hi1.mono HL2.out⟩
  · exact b1.trans (set5_below w1 _ _ _ _ _ _ _ (by omega))



end Go.Proofs.Ytdbilofhcadmoab.mm

/- The contract of Taken. -/
namespace Go.Proofs.Ytdbilofhcadmoab.mm
open Go.ChangeShapes Go.WideShapes Go.ChangeAt Go.RowKit Go.Joins
set_option linter.unusedVariables false

theorem keyf {w : World} {B : Nat} {v0 v1 : Value} {t : TypeId} (h : w.heap[B]? = some (.cells #[v0, v1] t (0, 0))) : w.cell? ⟨B, 0, none⟩ = some v0 ∧ w.cell? ⟨B, 1, none⟩ = some v1 :=
  ⟨by rw [cell_of_block h]; rfl, by rw [cell_of_block h]; rfl⟩

theorem last_in {M : Mm} (h : Ok M) (hF : 0 < M.free.length) : 0 ≤ lastF M ∧ lastF M < M.slots.length ∧ refsM M (lastF M) = 0 ∧ lastF M ∈ M.free := by
  have hl : lastF M = M.free[M.free.length - 1] := by
    have : M.free.length - 1 < M.free.length := by omega
    simp [lastF, List.getD_eq_getElem?_getD, this]
  have hm : lastF M ∈ M.free := by rw [hl]; exact List.getElem_mem _
  have := (freeOk_iff _ _).1 (h.free _ hm)
  exact ⟨this.1, this.2.1, this.2.2, hm⟩

set_option maxHeartbeats 3200000 in
theorem taken_any (M : Mm) (v : Value) (ka kb u : Int) (w : World) (lo : Nat) (A : Ans lo w v M) :
    Calls Try.prog 70 #[v, .agg #[.int .i64 ka, .int .i64 kb], .int .i64 u] w fun e w' => ∃ v, e = .returned (.tuple #[v, .int .i64 (takenN M ka kb u), .int .i64 (takenE M ka kb u)]) ∧ Ans w.heap.size w' v (takenM M ka kb u) ∧ Below w.heap.size w w' := by
  obtain ⟨aS, aH, aF, aL, cS, cH, cF, cL, rfl, A, -⟩ := A
  have m1 := A.s.max; have m2 := A.h.max; have m4 := A.l.max
  have n1 : M.slots.length ≤ 9223372036854775807 := by omega
  obtain ⟨E0, hE0⟩ : ∃ E0, E0 = takenE M ka kb u := ⟨_, rfl⟩
  obtain ⟨M1, hM1⟩ : ∃ M1, M1 = takenM M ka kb u := ⟨_, rfl⟩
  obtain ⟨N0, hN0⟩ : ∃ N0, N0 = takenN M ka kb u := ⟨_, rfl⟩
  rw [← hE0, ← hM1, ← hN0]
  have HE0 : Hid _ := hE0
  have HM1 : Hid _ := hM1
  have HN0 : Hid _ := hN0
  clear hE0 hM1 hN0
  obtain ⟨o1, ho1⟩ : ∃ o : Obj, o = .cells #[.slice aS M.slots.length cS, .slice aH M.heads.length cH, .slice aF M.free.length cF, .slice aL M.locks.length cL, .int .i64 M.now] 25 := ⟨_, rfl⟩
  obtain ⟨o3, ho3⟩ : ∃ o : Obj, o = .cells #[.int .i64 ka, .int .i64 kb] 37 := ⟨_, rfl⟩
  obtain ⟨o2, ho2⟩ : ∃ o : Obj, o = .cells #[.slice none 0 0, .slice none 0 0, .slice none 0 0, .slice none 0 0, .int .i64 0] 25 := ⟨_, rfl⟩
  have b0 : Below w.heap.size w (((w.alloc o1).alloc o3).alloc o2) := below_alloc3 w o1 o3 o2
  have HB0 : Hid ((((w.alloc o1).alloc o3).alloc o2).heap[w.heap.size]? = some o1) := by show _ = _; rw [Below.heap_alloc _ _ _ (by simp; omega), Below.heap_alloc _ _ _ (by simp), heap_alloc_new]
  have HK0 : Hid ((((w.alloc o1).alloc o3).alloc o2).heap[w.heap.size + 1]? = some o3) := by
    have := heap_alloc_new (w.alloc o1) o3
    rw [show (w.alloc o1).heap.size = w.heap.size + 1 by simp] at this
    show _ = _
    rw [Below.heap_alloc _ _ _ (by simp), this]
  have HR0 : Hid ((((w.alloc o1).alloc o3).alloc o2).heap[w.heap.size + 2]? = some o2) := by
    have := heap_alloc_new ((w.alloc o1).alloc o3) o2
    rwa [show ((w.alloc o1).alloc o3).heap.size = w.heap.size + 2 by simp] at this
  have HA0 : Hid _ := A.below b0
  clear A
  go_enter Try.func70, Try.ntmps70
  go_wp2_with fail
  rw [← ho1, ← ho2, ← ho3]
  generalize ((w.alloc o1).alloc o3).alloc o2 = W0 at *
  subst ho1 ho2 ho3
  refine (check_any M aS aH aF aL cS cH cF cL W0 HA0.out).mono ?_
  rintro e w1 ⟨rfl, hb1⟩
  have b1 := b0.trans (hb1.mono b0.size)
  have HB1 : Hid _ := (hb1.block w.heap.size (lt_of_block HB0.out)).trans HB0.out
  have HK1 : Hid _ := (hb1.block (w.heap.size + 1) (lt_of_block HK0.out)).trans HK0.out
  have HR1 : Hid _ := (hb1.block (w.heap.size + 2) (lt_of_block HR0.out)).trans HR0.out
  have HA1 : Hid _ := HA0.out.below hb1
  clear hb1 b0 HB0 HK0 HR0 HA0
  by_cases hE : chk M = 0
  rotate_left
  · have HV : Hid (E0 = chk M ∧ M1 = m0 ∧ N0 = 0) := by
      have h : takenE M ka kb u = chk M := by unfold takenE; rw [if_pos hE]
      have hn : takenE M ka kb u ≠ 0 := by rw [h]; exact hE
      exact ⟨HE0.out.trans h, HM1.out.trans (by unfold takenM; rw [if_neg hn]), HN0.out.trans (by unfold takenN; rw [if_neg hn])⟩
    have h' : (chk M != 0) = true := by simpa using hE
    obtain ⟨r0, r1, r2, r3, r4, g0, g1, g2, g3, g4, rs⟩ := boxf HR1.out
    clear HB1 HK1 HR1 HA1
    generalize chk M = E at *
    go_wp2
    refine bodyPost_ret (v := .tuple #[.agg #[.slice none 0 0, .slice none 0 0, .slice none 0 0, .slice none 0 0, .int .i64 0], .int .i64 0, .int .i64 E]) (by simp [results, Try.results70, go_sem, r0, r1, r2, r3, r4]) rfl ⟨_, by rw [HV.out.1, HV.out.2.2], by rw [HV.out.2.1]; exact ans0 _ _, ?_⟩
    exact b1.trans (set5_below w1 _ _ _ _ _ _ _ (by omega))
  have HC : Hid (chk M = 0) := hE
  rw [hE]
  clear hE
  obtain ⟨k0, k1⟩ := keyf HK1.out
  go_wp2_with fail
  refine (kcheck_any ka kb w1).mono ?_
  rintro e w2 ⟨rfl, hb2⟩
  have b2 := b1.trans (hb2.mono b1.size)
  have HB2 : Hid _ := (hb2.block w.heap.size (lt_of_block HB1.out)).trans HB1.out
  have HK2 : Hid _ := (hb2.block (w.heap.size + 1) (lt_of_block HK1.out)).trans HK1.out
  have HR2 : Hid _ := (hb2.block (w.heap.size + 2) (lt_of_block HR1.out)).trans HR1.out
  have HA2 : Hid _ := HA1.out.below hb2
  clear hb2 b1 HB1 HK1 HR1 HA1 k0 k1
  cases hK : keyB ka kb
  · have HV : Hid (E0 = 3 ∧ M1 = m0 ∧ N0 = 0) := by
      have h : takenE M ka kb u = 3 := by unfold takenE; rw [if_neg (by simpa using HC.out), if_pos hK]
      have hn : takenE M ka kb u ≠ 0 := by rw [h]; decide
      exact ⟨HE0.out.trans h, HM1.out.trans (by unfold takenM; rw [if_neg hn]), HN0.out.trans (by unfold takenN; rw [if_neg hn])⟩
    obtain ⟨r0, r1, r2, r3, r4, g0, g1, g2, g3, g4, rs⟩ := boxf HR2.out
    clear HB2 HK2 HR2 HA2
    go_wp2
    refine bodyPost_ret (v := .tuple #[.agg #[.slice none 0 0, .slice none 0 0, .slice none 0 0, .slice none 0 0, .int .i64 0], .int .i64 0, .int .i64 3]) (by simp [results, Try.results70, go_sem, r0, r1, r2, r3, r4]) rfl ⟨_, by rw [HV.out.1, HV.out.2.2], by rw [HV.out.2.1]; exact ans0 _ _, ?_⟩
    exact b2.trans (set5_below w2 _ _ _ _ _ _ _ (by omega))
  have HK : Hid (keyB ka kb = true) := hK
  clear hK
  rw [if_pos rfl]
  cases hU : inB u 0 2000000
  · have HV : Hid (E0 = 3 ∧ M1 = m0 ∧ N0 = 0) := by
      have h : takenE M ka kb u = 3 := by unfold takenE; rw [if_neg (by simpa using HC.out), if_neg (by rw [HK.out]; simp), if_pos hU]
      have hn : takenE M ka kb u ≠ 0 := by rw [h]; decide
      exact ⟨HE0.out.trans h, HM1.out.trans (by unfold takenM; rw [if_neg hn]), HN0.out.trans (by unfold takenN; rw [if_neg hn])⟩
    obtain ⟨r0, r1, r2, r3, r4, g0, g1, g2, g3, g4, rs⟩ := boxf HR2.out
    clear HB2 HK2 HR2 HA2
    go_wp2_with (go_at_call 81; refine (within_any _ _ _ _).mono ?_; rintro e w1 ⟨rfl, rfl⟩)
    refine bodyPost_ret (v := .tuple #[.agg #[.slice none 0 0, .slice none 0 0, .slice none 0 0, .slice none 0 0, .int .i64 0], .int .i64 0, .int .i64 3]) (by simp [results, Try.results70, go_sem, r0, r1, r2, r3, r4]) rfl ⟨_, by rw [HV.out.1, HV.out.2.2], by rw [HV.out.2.1]; exact ans0 _ _, ?_⟩
    exact b2.trans (set5_below w2 _ _ _ _ _ _ _ (by omega))
  have m3 := ((chk_zero M).1 HC.out).few
  obtain ⟨q0, q1, q2, q3, q4, f0, f1, f2, f3, f4, qs⟩ := boxf HB2.out
  go_wp2_with (go_at_call 81; refine (within_any _ _ _ _).mono ?_; rintro e w1 ⟨rfl, rfl⟩)
  have HU : Hid (inB u 0 2000000 = true) := hU
  clear hU
  refine (copy_any M aS aH aF aL cS cH cF cL w2 HA2.out).mono ?_
  rintro e w3 ⟨gS, gH, gF, gL, kS, kH, kF, kL, rfl, c3, hb3⟩
  have b3 := b2.trans (hb3.mono b2.size)
  have HB3 : Hid _ := (hb3.block w.heap.size (lt_of_block HB2.out)).trans HB2.out
  have HK3 : Hid _ := (hb3.block (w.heap.size + 1) (lt_of_block HK2.out)).trans HK2.out
  have HR3 : Hid _ := (hb3.block (w.heap.size + 2) (lt_of_block HR2.out)).trans HR2.out
  have t2 := lt_of_block HR2.out
  have b2s := b2.size
  clear hb3 b2 HB2 HK2 HR2 HA2 q0 q1 q2 q3 q4 f0 f1 f2 f3 f4 qs
  have hM : Mine (set5 w3 w.heap.size (.slice gS M.slots.length kS) (.slice gH M.heads.length kH) (.slice gF M.free.length kF) (.slice gL M.locks.length kL) (.int .i64 M.now)) w.heap.size w2.heap.size gS gH gF gL kS kH kF kL M :=
    ⟨set5_block HB3.out _ _ _ _ _, c3.set5 HB3.out _ _ _ _ _, m1, m2, by omega, m4⟩
  have b4 := b3.trans (set5_below w3 w.heap.size w.heap.size (.slice gS M.slots.length kS) (.slice gH M.heads.length kH) (.slice gF M.free.length kF) (.slice gL M.locks.length kL) (.int .i64 M.now) (Nat.le_refl _))
  have HR4 : Hid ((set5 w3 w.heap.size (.slice gS M.slots.length kS) (.slice gH M.heads.length kH) (.slice gF M.free.length kF) (.slice gL M.locks.length kL) (.int .i64 M.now)).heap[w.heap.size + 2]? = _) := (set5_other (by omega)).trans HR3.out
  have HK4 : Hid ((set5 w3 w.heap.size (.slice gS M.slots.length kS) (.slice gH M.heads.length kH) (.slice gF M.free.length kF) (.slice gL M.locks.length kL) (.int .i64 M.now)).heap[w.heap.size + 1]? = _) := (set5_other (by omega)).trans HK3.out
  have HM : Hid _ := hM
  obtain ⟨q0, q1, q2, q3, q4, f0, f1, f2, f3, f4, qs⟩ := boxf HB3.out
  obtain ⟨k0, k1⟩ := keyf HK3.out
  have kne : w.heap.size + 1 ≠ w.heap.size := by omega
  clear hM HB3 HR3 HK3 c3
  go_wp2_with fail
  rw [show ((((w3.setCell ⟨w.heap.size, 0, none⟩ (.slice gS M.slots.length kS)).setCell ⟨w.heap.size, 1, none⟩ (.slice gH M.heads.length kH)).setCell ⟨w.heap.size, 2, none⟩ (.slice gF M.free.length kF)).setCell ⟨w.heap.size, 3, none⟩ (.slice gL M.locks.length kL)).setCell ⟨w.heap.size, 4, none⟩ (.int .i64 M.now) = set5 w3 w.heap.size (.slice gS M.slots.length kS) (.slice gH M.heads.length kH) (.slice gF M.free.length kF) (.slice gL M.locks.length kL) (.int .i64 M.now) from rfl]
  clear q0 q1 q2 q3 q4 f0 f1 f2 f3 f4 qs b3 k0 k1
  generalize set5 w3 w.heap.size (.slice gS M.slots.length kS) (.slice gH M.heads.length kH) (.slice gF M.free.length kF) (.slice gL M.locks.length kL) (.int .i64 M.now) = W4 at *
  by_cases hF : M.free.length = 0
  · have HV : Hid (E0 = 7 ∧ M1 = m0 ∧ N0 = 0) := by
      have h : takenE M ka kb u = 7 := by unfold takenE; rw [if_neg (by simpa using HC.out), if_neg (by rw [HK.out]; simp), if_neg (by rw [HU.out]; simp), if_pos hF]
      have hn : takenE M ka kb u ≠ 0 := by rw [h]; decide
      exact ⟨HE0.out.trans h, HM1.out.trans (by unfold takenM; rw [if_neg hn]), HN0.out.trans (by unfold takenN; rw [if_neg hn])⟩
    have hbx := HM.out.box
    rw [hF] at hbx
    refine (take_no W4 w.heap.size _ _ _ _ _ _ ka kb u hbx).mono ?_
    rintro e w5 ⟨rfl, hb5⟩
    have b5 := b4.trans (hb5.mono b4.size)
    have HR5 : Hid _ := (hb5.block (w.heap.size + 2) (lt_of_block HR4.out)).trans HR4.out
    obtain ⟨r0, r1, r2, r3, r4, g0, g1, g2, g3, g4, rs⟩ := boxf HR5.out
    clear HR4 HM hb5 hbx hF HR5 HK4
    go_wp2
    refine bodyPost_ret (v := .tuple #[.agg #[.slice none 0 0, .slice none 0 0, .slice none 0 0, .slice none 0 0, .int .i64 0], .int .i64 0, .int .i64 7]) (by simp [results, Try.results70, go_sem, r0, r1, r2, r3, r4]) rfl ⟨_, by rw [HV.out.1, HV.out.2.2], by rw [HV.out.2.1]; exact ans0 _ _, ?_⟩
    exact b5.trans (set5_below w5 _ _ _ _ _ _ _ (by omega))
  · obtain ⟨i0, i1, -, -⟩ := last_in ((chk_zero M).1 HC.out) (by omega)
    have HV : Hid (E0 = 0 ∧ M1 = takeM M ka kb u ∧ N0 = lastF M) := by
      have : takenE M ka kb u = 0 := by unfold takenE; rw [if_neg (by simpa using HC.out), if_neg (by rw [HK.out]; simp), if_neg (by rw [HU.out]; simp), if_neg hF]
      exact ⟨HE0.out.trans this, HM1.out.trans (by unfold takenM; rw [this, if_pos rfl]), HN0.out.trans (by unfold takenN; rw [this, if_pos rfl])⟩
    refine (take_any M W4 _ _ gS gH gF gL kS kH kF kL ka kb u HM.out (by omega) i0 i1).mono ?_
    rintro e w5 ⟨rfl, aS', aH', aF', aL', cS', cH', cF', cL', k5, A5, kept, hi5⟩
    have b5 : Below w.heap.size w w5 := b4.trans ⟨kept.os, kept.tape, kept.output, kept.size, fun k hk => kept.block k (by omega) (by omega)⟩
    have HR5 : Hid _ := (kept.block (w.heap.size + 2) t2 (by omega)).trans HR4.out
    have HA5 : Hid _ := A5
    have HK5 : Hid _ := k5
    clear A5 kept HR4 HM b4 k5 HK4
    obtain ⟨r0, r1, r2, r3, r4, g0, g1, g2, g3, g4, rs⟩ := boxf HR5.out
    obtain ⟨q0, q1, q2, q3, q4, f0, f1, f2, f3, f4, qs⟩ := boxf HK5.out
    generalize hMn : takeM M ka kb u = Mn at *
    generalize hLn : lastF M = Ln at *
    clear hMn hLn
    go_wp2
    refine bodyPost_ret (v := .tuple #[.agg #[.slice aS' Mn.slots.length cS', .slice aH' Mn.heads.length cH', .slice aF' Mn.free.length cF', .slice aL' Mn.locks.length cL', .int .i64 Mn.now], .int .i64 Ln, .int .i64 0]) (by simp [results, Try.results70, go_sem, r0, r1, r2, r3, r4]) rfl ⟨_, by rw [HV.out.1, HV.out.2.2], ?_, ?_⟩
    · rw [HV.out.2.1]
      have A6 := HA5.out.off hi5 t2 (fun k hk => set5_other (w := w5) (v0 := .slice aS' Mn.slots.length cS') (v1 := .slice aH' Mn.heads.length cH') (v2 := .slice aF' Mn.free.length cF') (v3 := .slice aL' Mn.locks.length cL') (v4 := .int .i64 Mn.now) hk)
      exact ⟨aS', aH', aF', aL', cS', cH', cF', cL', rfl, A6, hi5.mono b2s⟩
    · exact b5.trans (set5_below w5 _ _ _ _ _ _ _ (by omega))




end Go.Proofs.Ytdbilofhcadmoab.mm
