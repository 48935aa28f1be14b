/- The contract of take on memory of one's own. -/
import Derived.Test.YtdbilofhcadmoaaCopy
import Derived.BigRegion
import Derived.Deep.QuietTactic
import Derived.BigQuiet
import Derived.Lib.QuietBelow
namespace Go.Proofs.Ytdbilofhcadmoaa.mm
open Go.ChangeShapes Go.WideShapes Go.ChangeAt Go.RowKit Go.Joins Go.Deep Go.Sort
set_option linter.unusedVariables false

def set6 (w : World) (g o : Nat) (s : Sl) : World :=
  (((((w.setCell ⟨g, o, none⟩ (.int .i64 s.refs)).setCell ⟨g, o + 1, none⟩ (.int .i64 s.a)).setCell ⟨g, o + 2, none⟩ (.int .i64 s.b)).setCell ⟨g, o + 3, none⟩ (.int .i64 s.unt)).setCell ⟨g, o + 4, none⟩ (.bool s.inn)).setCell ⟨g, o + 5, none⟩ (.int .i64 s.next)

theorem encS_set6 (S : List Sl) (j : Nat) (h : j < S.length) (s : Sl) :
    ((((((encS S).set (j * 6) (.int .i64 s.refs)).set (j * 6 + 1) (.int .i64 s.a)).set (j * 6 + 2) (.int .i64 s.b)).set (j * 6 + 3) (.int .i64 s.unt)).set (j * 6 + 4) (.bool s.inn)).set (j * 6 + 5) (.int .i64 s.next) = encS (S.set j s) := by
  induction S generalizing j with
  | nil => simp at h
  | cons x S ih =>
    match j with
    | 0 => simp [encS_cons, Sl.enc]
    | j + 1 =>
      have := ih j (by simpa using h)
      rw [List.set_cons_succ, encS_cons, encS_cons, ← this]
      simp only [Sl.enc, List.cons_append, List.nil_append, show (j + 1) * 6 = j * 6 + 6 by omega, show j * 6 + 6 + 1 = j * 6 + 1 + 6 by omega, show j * 6 + 6 + 2 = j * 6 + 2 + 6 by omega, show j * 6 + 6 + 3 = j * 6 + 3 + 6 by omega, show j * 6 + 6 + 4 = j * 6 + 4 + 6 by omega, show j * 6 + 6 + 5 = j * 6 + 5 + 6 by omega, List.set_cons_succ]

theorem encS_set1 (S : List Sl) (j : Nat) (h : j < S.length) (r : Int) : (encS S).set (j * 6) (.int .i64 r) = encS (S.set j { S[j] with refs := r }) := by
  induction S generalizing j with
  | nil => simp at h
  | cons x S ih =>
    match j with
    | 0 => simp [encS_cons, Sl.enc]
    | j + 1 =>
      have := ih j (by simpa using h)
      rw [List.set_cons_succ, encS_cons, encS_cons, List.getElem_cons_succ, ← this]
      simp only [Sl.enc, List.cons_append, List.nil_append, show (j + 1) * 6 = j * 6 + 6 by omega, List.set_cons_succ]

theorem Mine.set6 {w : World} {B lo g j : Nat} {aH aF aL : Option Addr} {cS cH cF cL : Nat} {M : Mm} (m : Mine w B lo (some ⟨g, 0, none⟩) aH aF aL cS cH cF cL M) (h : j < M.slots.length) (s : Sl) :
    Mine (mm.set6 w g (j * 6) s) B lo (some ⟨g, 0, none⟩) aH aF aL cS cH cF cL { M with slots := M.slots.set j s } := by
  obtain ⟨hB, ⟨hs, hh, f, l, hf, hl', fl, lz⟩, m1, m2, m3, m4⟩ := m
  have hg : (Value.slice (some ⟨g, 0, none⟩) M.slots.length cS).ownBlock = some g := rfl
  have ne : ∀ {v : Value} {n : Nat} {xs : List Value}, w.ownsRow lo 3 1 v n xs → v.ownBlock ≠ some g := fun h e => own_dj h hs (by decide) g e hg
  have oth : ∀ {v : Value} {n : Nat} {xs : List Value}, w.ownsRow lo 3 1 v n xs → (mm.set6 w g (j * 6) s).ownsRow lo 3 1 v n xs := fun h => by
    have := ne h
    unfold mm.set6
    iterate 6 (refine ownsRow_setCell_other ?_ this _)
    exact h
  have hne : B ≠ g := fun e => own_ne hs hB (by decide) (by rw [hg, e])
  refine ⟨?_, ⟨?_, oth hh, oth f, oth l, hf, hl', fl, by simp only [mm.set6, World.size_setCell]; exact lz⟩, by dsimp only; rw [List.length_set]; exact m1, m2, m3, m4⟩
  · dsimp only
    rw [List.length_set]
    unfold mm.set6
    repeat rw [Below.heap_setCell _ _ _ _ (by dsimp only; exact hne)]
    exact hB
  · dsimp only
    rw [List.length_set, ← encS_set6 M.slots j h s]
    unfold mm.set6
    exact ((((((hs.stored _ _).1.stored _ _).1.stored _ _).1.stored _ _).1.stored _ _).1.stored _ _).1
theorem Kept.set6 {w w1 : World} {B lo g o : Nat} (h : Kept w w1 B lo) (hg : lo ≤ g) (s : Sl) : Kept w (mm.set6 w1 g o s) B lo := by
  unfold mm.set6
  iterate 6 (refine Kept.setCell ?_ hg _)
  exact h

theorem row_cells {w : World} {lo g n cap : Nat} {S : List Sl} (h : w.ownsRow lo 48 6 (.slice (some ⟨g, 0, none⟩) n cap) n (encS S)) {j : Nat} (hj : j < S.length) :
    w.cell? ⟨g, j * 6, none⟩ = some (.int .i64 S[j].refs) ∧ w.cell? ⟨g, j * 6 + 1, none⟩ = some (.int .i64 S[j].a) ∧ w.cell? ⟨g, j * 6 + 2, none⟩ = some (.int .i64 S[j].b) ∧
    w.cell? ⟨g, j * 6 + 3, none⟩ = some (.int .i64 S[j].unt) ∧ w.cell? ⟨g, j * 6 + 4, none⟩ = some (.bool S[j].inn) ∧ w.cell? ⟨g, j * 6 + 5, none⟩ = some (.int .i64 S[j].next) ∧ ∀ q, w.frozen? ⟨g, q, none⟩ = false := by
  have hn : S.length * 6 = n * 6 := by rw [← h.1, encS_len]
  have e : ∀ q, q < 6 → w.cell? ⟨g, j * 6 + q, none⟩ = (S[j].enc)[q]? := fun q hq => by
    rw [h.cellAt _ (by omega), encS_get S j q hj hq]
  exact ⟨e 0 (by omega), e 1 (by omega), e 2 (by omega), e 3 (by omega), e 4 (by omega), e 5 (by omega), fun q => h.frozenAt q⟩
theorem row_cell {w : World} {lo g n cap : Nat} {l : List Int} (h : w.ownsRow lo 3 1 (.slice (some ⟨g, 0, none⟩) n cap) n (encI l)) {j : Nat} (hj : j < l.length) :
    w.cell? ⟨g, j, none⟩ = some (.int .i64 l[j]) ∧ w.frozen? ⟨g, j, none⟩ = false := by
  have hn : l.length = n * 1 := by rw [← h.1, encI_len]
  exact ⟨by rw [h.cellAt _ (by omega)]; simp [encI, hj], h.frozenAt j⟩
theorem row_form {w : World} {lo size n cap : Nat} {ao : Option Addr} {e : TypeId} {xs : List Value} (h : w.ownsRow lo e size (.slice ao n cap) n xs) (hn : 0 < n) : ∃ g, ao = some ⟨g, 0, none⟩ ∧ lo ≤ g ∧ g < w.heap.size ∧ n ≤ cap ∧ cap ≤ 9223372036854775807 := by
  rcases h.2 with ⟨_, h0⟩ | ⟨g, cap', cur, hv, hg, hb, hc, hm, _⟩
  · omega
  · injection hv with h1 _ h3
    subst h1 h3
    exact ⟨g, rfl, hg, lt_of_block hb, hc, by unfold maxLen at hm; exact hm⟩

set_option maxHeartbeats 1600000 in
theorem take_in (w : World) (B lo gS gF n j cS cH cF cL : Nat) (aH aL : Option Addr) (M : Mm) (ka kb u : Int)
    (m : Mine w B lo (some ⟨gS, 0, none⟩) aH (some ⟨gF, 0, none⟩) aL cS cH cF cL M) (hF : M.free.length = n + 1) (hj : j < M.slots.length) (hx : M.free[n]'(by omega) = j) (hn : n + 1 ≤ cF) (hc : cF ≤ 9223372036854775807) :
    Calls Try.prog 63 #[.pointer (some ⟨B, 0, none⟩), .agg #[.int .i64 ka, .int .i64 kb], .int .i64 u] w fun e w' => e = .returned (.tuple #[.int .i64 j, .bool true]) ∧
      ∃ w1, Below w.heap.size w w1 ∧ w' = (mm.set6 (w1.setCell ⟨B, 2, none⟩ (.slice (some ⟨gF, 0, none⟩) n cF)) gS (j * 6) ⟨1, ka, kb, u, false, M.slots[j].next⟩).drew := by
  have hn' : n ≤ cF := by omega
  have hS : M.slots.length ≤ 9223372036854775807 := by have := m.m1; omega
  have hv : inB (j : Int) 0 ((M.slots.length : Int) - 1) = true := (inB_iff _ _ _).2 (by omega)
  have HHs : Hid (∀ W : World, Calls Try.prog 75 #[.agg #[.slice (some ⟨gS, 0, none⟩) M.slots.length cS, .slice aH M.heads.length cH, .slice (some ⟨gF, 0, none⟩) M.free.length cF, .slice aL M.locks.length cL, .int .i64 M.now], .int .i64 j] W fun e w' => e = .returned (.bool true) ∧ Below W.heap.size W w') := fun W => hv ▸ isSlot_any _ aH _ aL _ _ _ _ cS cH cF cL M.now j W hS
  obtain ⟨s, hs⟩ : ∃ s, s = M.slots[j] := ⟨_, rfl⟩
  have HS : Hid (M.slots[j] = s) := hs.symm
  have HX : Hid (∀ W, Mine W B lo (some ⟨gS, 0, none⟩) aH (some ⟨gF, 0, none⟩) aL cS cH cF cL M → (W.cell? ⟨gS, j * 6, none⟩ = some (.int .i64 s.refs) ∧ W.cell? ⟨gS, j * 6 + 1, none⟩ = some (.int .i64 s.a) ∧ W.cell? ⟨gS, j * 6 + 2, none⟩ = some (.int .i64 s.b) ∧ W.cell? ⟨gS, j * 6 + 3, none⟩ = some (.int .i64 s.unt) ∧ W.cell? ⟨gS, j * 6 + 4, none⟩ = some (.bool s.inn) ∧ W.cell? ⟨gS, j * 6 + 5, none⟩ = some (.int .i64 s.next) ∧ ∀ q, W.frozen? ⟨gS, q, none⟩ = false) ∧ W.cell? ⟨gF, n, none⟩ = some (.int .i64 j)) := fun W m' => by
    have := (row_cell m'.c.f (j := n) (by omega)).1
    rw [hx] at this
    rw [hs]
    exact ⟨row_cells m'.c.s hj, this⟩
  have HD : Hid (∀ W, Mine W B lo (some ⟨gS, 0, none⟩) aH (some ⟨gF, 0, none⟩) aL cS cH cF cL M → B ≠ gS ∧ B ≠ gF ∧ gS < W.heap.size ∧ gF < W.heap.size ∧ W.heap[B]? = some (.cells #[.slice (some ⟨gS, 0, none⟩) M.slots.length cS, .slice aH M.heads.length cH, .slice (some ⟨gF, 0, none⟩) M.free.length cF, .slice aL M.locks.length cL, .int .i64 M.now] 29 (0, 0))) := fun W m' =>
    ⟨(fun e => own_ne m'.c.s m'.box (by decide) (by rw [e]; rfl)), (fun e => own_ne m'.c.f m'.box (by decide) (by rw [e]; rfl)), (m'.c.s.lt _ rfl).2, (m'.c.f.lt _ rfl).2, m'.box⟩
  obtain ⟨ok, hok⟩ : ∃ o : Obj, o = .cells #[.int .i64 ka, .int .i64 kb] 37 := ⟨_, rfl⟩
  have HM : Hid (Mine (w.alloc ok) B lo (some ⟨gS, 0, none⟩) aH (some ⟨gF, 0, none⟩) aL cS cH cF cL M) := m.below (one_below _ _)
  have HB : Hid (Below w.heap.size w (w.alloc ok)) := one_below _ _
  have HK : Hid ((w.alloc ok).heap[w.heap.size]? = some (.cells #[.int .i64 ka, .int .i64 kb] 37 (0, 0))) := hok ▸ heap_alloc_new w ok
  obtain ⟨-, -, -, -, hB⟩ := HD.out _ m
  obtain ⟨-, -, q2, -, -, -, -, -, -, -, qs⟩ := boxf hB
  rw [hF] at q2
  have hnl : n < M.free.length := by omega
  have HFl : Hid (M.free.length = n + 1) := hF
  have HQ : Hid (w.heap.size ≠ B) := by show _ ≠ _; omega
  clear m hx hv hB hs hF
  go_enter Try.func63, Try.ntmps63
  go_wp2_with fail
  rw [← hok]
  clear q2 qs
  generalize w.alloc ok = W0 at *
  clear hok
  obtain ⟨d1, d2, l1, l2, hB⟩ := HD.out _ HM.out
  obtain ⟨q0, q1, q2, q3, q4, -, -, -, -, -, qs⟩ := boxf hB
  obtain ⟨-, cx⟩ := HX.out _ HM.out
  have cB : ∀ (d : Nat) (os : Array Obj), Calls Try.prog 75 #[.agg #[.slice (some ⟨gS, 0, none⟩) M.slots.length cS, .slice aH M.heads.length cH, .slice (some ⟨gF, 0, none⟩) M.free.length cF, .slice aL M.locks.length cL, .int .i64 M.now], .int .i64 j] (grow (redrawn W0 d) os) fun e w'' => e = .returned (.bool true) ∧ ∃ p : Regrown, w'' = grow (redrawn W0 p.d) p.os := fun d os => Calls.regrown_of (HHs.out _)
  have Q0 := cell_regrown q0; have Q1 := cell_regrown q1; have Q2 := cell_regrown q2; have Q3 := cell_regrown q3; have Q4 := cell_regrown q4; have QX := cell_regrown cx
  clear q0 q1 q2 q3 q4 qs cx hB
  refine wp_region_quiet_below (by kernel_rfl) (by kernel_rfl) ?_
  repeat (quiet_step (first | exact cB _ _))
  refine wpQuiet_nil ?_
  intro _ hw'
  obtain ⟨⟨dq, osq⟩, hw''⟩ := hw'
  subst hw''
  have HB1 : Hid _ := below_regrown W0 dq osq
  generalize grow (redrawn W0 dq) osq = w1 at *
  clear cB Q0 Q1 Q2 Q3 Q4 QX d1 d2 l1 l2 HHs
  have HM1 : Hid (Mine w1 B lo (some ⟨gS, 0, none⟩) aH (some ⟨gF, 0, none⟩) aL cS cH cF cL M) := HM.out.below HB1.out
  have HK1 : Hid (w1.heap[w.heap.size]? = some (.cells #[.int .i64 ka, .int .i64 kb] 37 (0, 0))) := (HB1.out.block _ (lt_of_block HK.out)).trans HK.out
  have HB2 : Hid (Below w.heap.size w w1) := HB.out.trans (HB1.out.mono HB.out.size)
  clear HB1 HM HK HB
  have HM2 : Hid (Mine (w1.setCell ⟨B, 2, none⟩ (.slice (some ⟨gF, 0, none⟩) n cF)) B lo (some ⟨gS, 0, none⟩) aH (some ⟨gF, 0, none⟩) aL cS cH cF cL { M with free := M.free.take n }) := HM1.out.pop HFl.out
  have HK2 : Hid ((w1.setCell ⟨B, 2, none⟩ (.slice (some ⟨gF, 0, none⟩) n cF)).heap[w.heap.size]? = some (.cells #[.int .i64 ka, .int .i64 kb] 37 (0, 0))) := (Below.heap_setCell _ _ _ _ (by dsimp only; exact HQ.out)).trans HK1.out
  have HW : Hid (∃ w2, Below w.heap.size w w2 ∧ w1.setCell ⟨B, 2, none⟩ (.slice (some ⟨gF, 0, none⟩) n cF) = w2.setCell ⟨B, 2, none⟩ (.slice (some ⟨gF, 0, none⟩) n cF)) := ⟨w1, HB2.out, rfl⟩
  obtain ⟨d1, d2, l1, l2, hB⟩ := HD.out _ HM1.out
  obtain ⟨q0, q1, q2, q3, q4, f0, f1, f2, f3, f4, qs⟩ := boxf hB
  obtain ⟨-, cx⟩ := HX.out _ HM1.out
  clear hB HD HX HM1 HK1 HB2
  go_wp2
  clear q0 q1 q2 q3 q4 f0 f1 f2 f3 f4 qs cx l1 l2
  generalize w1.setCell ⟨B, 2, none⟩ (.slice (some ⟨gF, 0, none⟩) n cF) = w2 at *
  obtain ⟨q0, -, -, -, -, -, -, -, -, -, qs⟩ := boxf HM2.out.box
  have l1 : gS < w2.heap.size := (HM2.out.c.s.lt _ rfl).2
  obtain ⟨c0, c1, c2, c3, c4, c5, hfz⟩ := row_cells HM2.out.c.s (j := j) hj
  dsimp only at q0 c0 c1 c2 c3 c4 c5
  rw [HS.out] at c0 c1 c2 c3 c4 c5
  have k0 : w2.cell? ⟨w.heap.size, 0, none⟩ = some (.int .i64 ka) := by rw [cell_of_block HK2.out]; rfl
  have k1 : w2.cell? ⟨w.heap.size, 1, none⟩ = some (.int .i64 kb) := by rw [cell_of_block HK2.out]; rfl
  have ks := lt_of_block HK2.out
  clear HM2 HK2 HQ HFl
  go_region
  all_goals go_wp2
  all_goals go_ret2
  all_goals
    obtain ⟨w3, h3, h4⟩ := HW.out
    subst h4
    exact ⟨rfl, w3, h3, by rw [HS.out]; rfl⟩

theorem take_no (w : World) (B : Nat) (sv hv lv nv : Value) (aF : Option Addr) (cF : Nat) (ka kb u : Int)
    (hB : w.heap[B]? = some (.cells #[sv, hv, .slice aF 0 cF, lv, nv] 29 (0, 0))) :
    Calls Try.prog 63 #[.pointer (some ⟨B, 0, none⟩), .agg #[.int .i64 ka, .int .i64 kb], .int .i64 u] w fun e w' => e = .returned (.tuple #[.int .i64 0, .bool false]) ∧ Below w.heap.size w w' := by
  obtain ⟨q0, q1, q2, q3, q4, f0, f1, f2, f3, f4, qs⟩ := boxf hB
  clear hB
  go_enter Try.func63, Try.ntmps63
  go_wp2_with fail
  go_quiet (fail)
  go_wp2
  go_ret2
  exact ⟨rfl, (one_below _ _).trans ⟨rfl, rfl, rfl, Nat.le_refl _, fun _ _ => rfl⟩⟩

theorem Mine.ne_s {w : World} {B lo g : Nat} {aH aF aL : Option Addr} {cS cH cF cL : Nat} {M : Mm} (m : Mine w B lo (some ⟨g, 0, none⟩) aH aF aL cS cH cF cL M) : B ≠ g :=
  fun e => own_ne m.c.s m.box (by decide) (by rw [e]; rfl)
theorem Mine.ne_h {w : World} {B lo g : Nat} {aS aF aL : Option Addr} {cS cH cF cL : Nat} {M : Mm} (m : Mine w B lo aS (some ⟨g, 0, none⟩) aF aL cS cH cF cL M) : B ≠ g :=
  fun e => own_ne m.c.h m.box (by decide) (by rw [e]; rfl)
theorem Mine.ne_f {w : World} {B lo g : Nat} {aS aH aL : Option Addr} {cS cH cF cL : Nat} {M : Mm} (m : Mine w B lo aS aH (some ⟨g, 0, none⟩) aL cS cH cF cL M) : B ≠ g :=
  fun e => own_ne m.c.f m.box (by decide) (by rw [e]; rfl)
theorem Mine.ne_l {w : World} {B lo g : Nat} {aS aH aF : Option Addr} {cS cH cF cL : Nat} {M : Mm} (m : Mine w B lo aS aH aF (some ⟨g, 0, none⟩) cS cH cF cL M) : B ≠ g :=
  fun e => own_ne m.c.l m.box (by decide) (by rw [e]; rfl)

theorem take_now (M : Mm) (w : World) (B lo : Nat) (aS aH aF aL : Option Addr) (cS cH cF cL : Nat) (ka kb u : Int) (m : Mine w B lo aS aH aF aL cS cH cF cL M) (hF : 0 < M.free.length) (h0 : 0 ≤ lastF M) (h1 : lastF M < M.slots.length) :
    Calls Try.prog 63 #[.pointer (some ⟨B, 0, none⟩), .agg #[.int .i64 ka, .int .i64 kb], .int .i64 u] w fun e w' => e = .returned (.tuple #[.int .i64 (lastF M), .bool true]) ∧ Now w w' B lo (takeM M ka kb u) := by
  obtain ⟨gS, rfl, oS, lS, -, -⟩ := row_form m.c.s (by omega)
  obtain ⟨gF, rfl, oF, lF, kF, kF2⟩ := row_form m.c.f hF
  obtain ⟨n, hn⟩ : ∃ n, M.free.length = n + 1 := ⟨M.free.length - 1, by omega⟩
  have hnF : n < M.free.length := by omega
  have hlast : lastF M = M.free[n] := by
    show M.free.getD (M.free.length - 1) 0 = _
    rw [show M.free.length - 1 = n by omega]
    simp [List.getD_eq_getElem?_getD, hnF]
  obtain ⟨j, hj⟩ : ∃ j : Nat, lastF M = j := ⟨(lastF M).toNat, by omega⟩
  have hFj : M.free[n] = j := hlast.symm.trans hj
  have hjS : j < M.slots.length := by omega
  have hT : takeM M ka kb u = { M with slots := M.slots.set j ⟨1, ka, kb, u, false, M.slots[j].next⟩, free := M.free.take n } := by
    unfold takeM
    rw [hj, show M.free.length - 1 = n by omega]
    simp [List.getD_eq_getElem?_getD, hjS]
  rw [hT, hj]
  obtain ⟨c0, c1, c2, c3, c4, c5, fz⟩ := row_cells m.c.s hjS
  have cx := (row_cell m.c.f hnF).1
  rw [hFj] at cx
  refine (take_in w B lo gS gF n j cS cH cF cL aH aL M ka kb u m hn hjS hFj (by omega) kF2).mono ?_
  rintro e w' ⟨rfl, w1, hb1, rfl⟩
  have m1 := m.below hb1
  have mp := (m1.pop hn).set6 (j := j) hjS ⟨1, ka, kb, u, false, M.slots[j].next⟩
  have kp : Kept w _ B lo := (((Kept.refl w B lo).below hb1 m.c.lz).setBox (.slice (some ⟨gF, 0, none⟩) n cF) (j := 2)).set6 (o := j * 6) oS ⟨1, ka, kb, u, false, M.slots[j].next⟩
  generalize mm.set6 (w1.setCell ⟨B, 2, none⟩ (.slice (some ⟨gF, 0, none⟩) n cF)) gS (j * 6) ⟨1, ka, kb, u, false, M.slots[j].next⟩ = W at *
  have hb : Below W.heap.size W W.drew := (Below.refl _ _).drew
  exact ⟨rfl, _, _, _, _, _, _, _, _, mp.below hb, kp.below hb mp.c.lz⟩

theorem take_any (M : Mm) (w : World) (B lo : Nat) (aS aH aF aL : Option Addr) (cS cH cF cL : Nat) (ka kb u : Int) (m : Mine w B lo aS aH aF aL cS cH cF cL M) (hF : 0 < M.free.length) (h0 : 0 ≤ lastF M) (h1 : lastF M < M.slots.length) :
    Calls Try.prog 63 #[.pointer (some ⟨B, 0, none⟩), .agg #[.int .i64 ka, .int .i64 kb], .int .i64 u] w fun e w' => e = .returned (.tuple #[.int .i64 (lastF M), .bool true]) ∧ Done w w' B lo (takeM M ka kb u) := by
  refine (take_now M w B lo aS aH aF aL cS cH cF cL ka kb u m hF h0 h1).mono ?_
  rintro e w' ⟨rfl, h⟩
  exact ⟨rfl, h.done⟩




end Go.Proofs.Ytdbilofhcadmoaa.mm
