/- The contract of take on memory of one's own. -/
import Derived.Test.YtaekgadokcmkfabCopy
import Derived.BigRegion
namespace Go.Proofs.Ytaekgadokcmkfab.mm
open Go.ChangeShapes Go.WideShapes Go.ChangeAt Go.RowKit Go.Joins
set_option linter.unusedVariables false

def set6 (w : World) (g o : Nat) (s : Sl) : World :=
  (((((w.setCell ⟨g, o, none⟩ (.int .i64 s.refs)).setCell ⟨g, o + 1, none⟩ (.int .i64 s.a)).setCell ⟨g, o + 2, none⟩ (.int .i64 s.b)).setCell ⟨g, o + 3, none⟩ (.int .i64 s.unt)).setCell ⟨g, o + 4, none⟩ (.bool s.inn)).setCell ⟨g, o + 5, none⟩ (.int .i64 s.next)

theorem encS_set6 (S : List Sl) (j : Nat) (h : j < S.length) (s : Sl) :
    ((((((encS S).set (j * 6) (.int .i64 s.refs)).set (j * 6 + 1) (.int .i64 s.a)).set (j * 6 + 2) (.int .i64 s.b)).set (j * 6 + 3) (.int .i64 s.unt)).set (j * 6 + 4) (.bool s.inn)).set (j * 6 + 5) (.int .i64 s.next) = encS (S.set j s) := by
  induction S generalizing j with
  | nil => simp at h
  | cons x S ih =>
    match j with
    | 0 => simp [encS_cons, Sl.enc]
    | j + 1 =>
      have := ih j (by simpa using h)
      rw [List.set_cons_succ, encS_cons, encS_cons, ← this]
      simp only [Sl.enc, List.cons_append, List.nil_append, show (j + 1) * 6 = j * 6 + 6 by omega, show j * 6 + 6 + 1 = j * 6 + 1 + 6 by omega, show j * 6 + 6 + 2 = j * 6 + 2 + 6 by omega, show j * 6 + 6 + 3 = j * 6 + 3 + 6 by omega, show j * 6 + 6 + 4 = j * 6 + 4 + 6 by omega, show j * 6 + 6 + 5 = j * 6 + 5 + 6 by omega, List.set_cons_succ]

theorem encS_set1 (S : List Sl) (j : Nat) (h : j < S.length) (r : Int) : (encS S).set (j * 6) (.int .i64 r) = encS (S.set j { S[j] with refs := r }) := by
  induction S generalizing j with
  | nil => simp at h
  | cons x S ih =>
    match j with
    | 0 => simp [encS_cons, Sl.enc]
    | j + 1 =>
      have := ih j (by simpa using h)
      rw [List.set_cons_succ, encS_cons, encS_cons, List.getElem_cons_succ, ← this]
      simp only [Sl.enc, List.cons_append, List.nil_append, show (j + 1) * 6 = j * 6 + 6 by omega, List.set_cons_succ]

theorem Mine.set6 {w : World} {B lo g j : Nat} {aH aF aL : Option Addr} {cS cH cF cL : Nat} {M : Mm} (m : Mine w B lo (some ⟨g, 0, none⟩) aH aF aL cS cH cF cL M) (h : j < M.slots.length) (s : Sl) :
    Mine (mm.set6 w g (j * 6) s) B lo (some ⟨g, 0, none⟩) aH aF aL cS cH cF cL { M with slots := M.slots.set j s } := by
  obtain ⟨hB, ⟨hs, hh, f, l, hf, hl', fl, lz⟩, m1, m2, m3, m4⟩ := m
  have hg : (Value.slice (some ⟨g, 0, none⟩) M.slots.length cS).ownBlock = some g := rfl
  have ne : ∀ {v : Value} {n : Nat} {xs : List Value}, w.ownsRow lo 3 1 v n xs → v.ownBlock ≠ some g := fun h e => own_dj h hs (by decide) g e hg
  have oth : ∀ {v : Value} {n : Nat} {xs : List Value}, w.ownsRow lo 3 1 v n xs → (mm.set6 w g (j * 6) s).ownsRow lo 3 1 v n xs := fun h => by
    have := ne h
    unfold mm.set6
    iterate 6 (refine ownsRow_setCell_other ?_ this _)
    exact h
  have hne : B ≠ g := fun e => own_ne hs hB (by decide) (by rw [hg, e])
  refine ⟨?_, ⟨?_, oth hh, oth f, oth l, hf, hl', fl, by simp only [mm.set6, World.size_setCell]; exact lz⟩, by dsimp only; rw [List.length_set]; exact m1, m2, m3, m4⟩
  · dsimp only
    rw [List.length_set]
    unfold mm.set6
    repeat rw [Below.heap_setCell _ _ _ _ (by dsimp only; exact hne)]
    exact hB
  · dsimp only
    rw [List.length_set, ← encS_set6 M.slots j h s]
    unfold mm.set6
    exact ((((((hs.stored _ _).1.stored _ _).1.stored _ _).1.stored _ _).1.stored _ _).1.stored _ _).1
theorem Kept.set6 {w w1 : World} {B lo g o : Nat} (h : Kept w w1 B lo) (hg : lo ≤ g) (s : Sl) : Kept w (mm.set6 w1 g o s) B lo := by
  unfold mm.set6
  iterate 6 (refine Kept.setCell ?_ hg _)
  exact h

theorem row_cells {w : World} {lo g n cap : Nat} {S : List Sl} (h : w.ownsRow lo 39 6 (.slice (some ⟨g, 0, none⟩) n cap) n (encS S)) {j : Nat} (hj : j < S.length) :
    w.cell? ⟨g, j * 6, none⟩ = some (.int .i64 S[j].refs) ∧ w.cell? ⟨g, j * 6 + 1, none⟩ = some (.int .i64 S[j].a) ∧ w.cell? ⟨g, j * 6 + 2, none⟩ = some (.int .i64 S[j].b) ∧
    w.cell? ⟨g, j * 6 + 3, none⟩ = some (.int .i64 S[j].unt) ∧ w.cell? ⟨g, j * 6 + 4, none⟩ = some (.bool S[j].inn) ∧ w.cell? ⟨g, j * 6 + 5, none⟩ = some (.int .i64 S[j].next) ∧ ∀ q, w.frozen? ⟨g, q, none⟩ = false := by
  have hn : S.length * 6 = n * 6 := by rw [← h.1, encS_len]
  have e : ∀ q, q < 6 → w.cell? ⟨g, j * 6 + q, none⟩ = (S[j].enc)[q]? := fun q hq => by
    rw [h.cellAt _ (by omega), encS_get S j q hj hq]
  exact ⟨e 0 (by omega), e 1 (by omega), e 2 (by omega), e 3 (by omega), e 4 (by omega), e 5 (by omega), fun q => h.frozenAt q⟩
theorem row_cell {w : World} {lo g n cap : Nat} {l : List Int} (h : w.ownsRow lo 3 1 (.slice (some ⟨g, 0, none⟩) n cap) n (encI l)) {j : Nat} (hj : j < l.length) :
    w.cell? ⟨g, j, none⟩ = some (.int .i64 l[j]) ∧ w.frozen? ⟨g, j, none⟩ = false := by
  have hn : l.length = n * 1 := by rw [← h.1, encI_len]
  exact ⟨by rw [h.cellAt _ (by omega)]; simp [encI, hj], h.frozenAt j⟩
theorem row_form {w : World} {lo size n cap : Nat} {ao : Option Addr} {e : TypeId} {xs : List Value} (h : w.ownsRow lo e size (.slice ao n cap) n xs) (hn : 0 < n) : ∃ g, ao = some ⟨g, 0, none⟩ ∧ lo ≤ g ∧ g < w.heap.size ∧ n ≤ cap ∧ cap ≤ 9223372036854775807 := by
  rcases h.2 with ⟨_, h0⟩ | ⟨g, cap', cur, hv, hg, hb, hc, hm, _⟩
  · omega
  · injection hv with h1 _ h3
    subst h1 h3
    exact ⟨g, rfl, hg, lt_of_block hb, hc, by unfold maxLen at hm; exact hm⟩

set_option maxHeartbeats 1600000 in
theorem take_in (w : World) (B gS gF nS n j cS cF : Nat) (hv lv nv : Value) (ka kb u nx r a b v : Int) (i : Bool)
    (hB : w.heap[B]? = some (.cells #[.slice (some ⟨gS, 0, none⟩) nS cS, hv, .slice (some ⟨gF, 0, none⟩) (n + 1) cF, lv, nv] 25 (0, 0)))
    (hn : n + 1 ≤ cF) (hc : cF ≤ 9223372036854775807) (hS : nS ≤ 9223372036854775807) (hj : j < nS) (d1 : B ≠ gS) (d2 : B ≠ gF) (l1 : gS < w.heap.size) (l2 : gF < w.heap.size)
    (cx : w.cell? ⟨gF, n, none⟩ = some (.int .i64 j)) 
    (c0 : w.cell? ⟨gS, j * 6, none⟩ = some (.int .i64 r)) (c1 : w.cell? ⟨gS, j * 6 + 1, none⟩ = some (.int .i64 a)) (c2 : w.cell? ⟨gS, j * 6 + 2, none⟩ = some (.int .i64 b)) (c3 : w.cell? ⟨gS, j * 6 + 3, none⟩ = some (.int .i64 v)) (c4 : w.cell? ⟨gS, j * 6 + 4, none⟩ = some (.bool i)) (c5 : w.cell? ⟨gS, j * 6 + 5, none⟩ = some (.int .i64 nx))
    (hfz : ∀ q, w.frozen? ⟨gS, q, none⟩ = false) :
    Calls Try.prog 88 #[.pointer (some ⟨B, 0, none⟩), .agg #[.int .i64 ka, .int .i64 kb], .int .i64 u] w fun e w' => e = .returned (.tuple #[.int .i64 j, .bool true]) ∧
      w' = ((mm.set6 (w.setCell ⟨B, 2, none⟩ (.slice (some ⟨gF, 0, none⟩) n cF)) gS (j * 6) ⟨1, ka, kb, u, false, nx⟩).alloc (.cells #[.int .i64 ka, .int .i64 kb] 37)).drew := by
  have hn' : n ≤ cF := by omega
  obtain ⟨q0, q1, q2, q3, q4, f0, f1, f2, f3, f4, qs⟩ := boxf hB
  clear hB
  go_enter Try.func88, Try.ntmps88
  go_wp2
  go_region
  all_goals go_wp2
  all_goals go_ret2
  all_goals exact ⟨rfl, rfl⟩

theorem take_no (w : World) (B : Nat) (sv hv lv nv : Value) (aF : Option Addr) (cF : Nat) (ka kb u : Int)
    (hB : w.heap[B]? = some (.cells #[sv, hv, .slice aF 0 cF, lv, nv] 25 (0, 0))) :
    Calls Try.prog 88 #[.pointer (some ⟨B, 0, none⟩), .agg #[.int .i64 ka, .int .i64 kb], .int .i64 u] w fun e w' => e = .returned (.tuple #[.int .i64 0, .bool false]) ∧ Below w.heap.size w w' := by
  obtain ⟨q0, q1, q2, q3, q4, f0, f1, f2, f3, f4, qs⟩ := boxf hB
  clear hB
  go_enter Try.func88, Try.ntmps88
  go_wp2
  go_ret2
  exact ⟨rfl, one_below _ _⟩

theorem Mine.ne_s {w : World} {B lo g : Nat} {aH aF aL : Option Addr} {cS cH cF cL : Nat} {M : Mm} (m : Mine w B lo (some ⟨g, 0, none⟩) aH aF aL cS cH cF cL M) : B ≠ g :=
  fun e => own_ne m.c.s m.box (by decide) (by rw [e]; rfl)
theorem Mine.ne_h {w : World} {B lo g : Nat} {aS aF aL : Option Addr} {cS cH cF cL : Nat} {M : Mm} (m : Mine w B lo aS (some ⟨g, 0, none⟩) aF aL cS cH cF cL M) : B ≠ g :=
  fun e => own_ne m.c.h m.box (by decide) (by rw [e]; rfl)
theorem Mine.ne_f {w : World} {B lo g : Nat} {aS aH aL : Option Addr} {cS cH cF cL : Nat} {M : Mm} (m : Mine w B lo aS aH (some ⟨g, 0, none⟩) aL cS cH cF cL M) : B ≠ g :=
  fun e => own_ne m.c.f m.box (by decide) (by rw [e]; rfl)
theorem Mine.ne_l {w : World} {B lo g : Nat} {aS aH aF : Option Addr} {cS cH cF cL : Nat} {M : Mm} (m : Mine w B lo aS aH aF (some ⟨g, 0, none⟩) cS cH cF cL M) : B ≠ g :=
  fun e => own_ne m.c.l m.box (by decide) (by rw [e]; rfl)

theorem take_now (M : Mm) (w : World) (B lo : Nat) (aS aH aF aL : Option Addr) (cS cH cF cL : Nat) (ka kb u : Int) (m : Mine w B lo aS aH aF aL cS cH cF cL M) (hF : 0 < M.free.length) (h0 : 0 ≤ lastF M) (h1 : lastF M < M.slots.length) :
    Calls Try.prog 88 #[.pointer (some ⟨B, 0, none⟩), .agg #[.int .i64 ka, .int .i64 kb], .int .i64 u] w fun e w' => e = .returned (.tuple #[.int .i64 (lastF M), .bool true]) ∧ Now w w' B lo (takeM M ka kb u) := by
  obtain ⟨gS, rfl, oS, lS, -, -⟩ := row_form m.c.s (by omega)
  obtain ⟨gF, rfl, oF, lF, kF, kF2⟩ := row_form m.c.f hF
  obtain ⟨n, hn⟩ : ∃ n, M.free.length = n + 1 := ⟨M.free.length - 1, by omega⟩
  have hnF : n < M.free.length := by omega
  have hlast : lastF M = M.free[n] := by
    show M.free.getD (M.free.length - 1) 0 = _
    rw [show M.free.length - 1 = n by omega]
    simp [List.getD_eq_getElem?_getD, hnF]
  obtain ⟨j, hj⟩ : ∃ j : Nat, lastF M = j := ⟨(lastF M).toNat, by omega⟩
  have hFj : M.free[n] = j := hlast.symm.trans hj
  have hjS : j < M.slots.length := by omega
  have hT : takeM M ka kb u = { M with slots := M.slots.set j ⟨1, ka, kb, u, false, M.slots[j].next⟩, free := M.free.take n } := by
    unfold takeM
    rw [hj, show M.free.length - 1 = n by omega]
    simp [List.getD_eq_getElem?_getD, hjS]
  rw [hT, hj]
  obtain ⟨c0, c1, c2, c3, c4, c5, fz⟩ := row_cells m.c.s hjS
  have cx := (row_cell m.c.f hnF).1
  rw [hFj] at cx
  have hB := m.box
  rw [hn] at hB
  have m1 := m.m1
  refine (take_in w B gS gF _ n j cS cF _ _ _ ka kb u _ _ _ _ _ _ hB (by omega) kF2 (by omega) hjS m.ne_s m.ne_f lS lF cx c0 c1 c2 c3 c4 c5 fz).mono ?_
  rintro e w' ⟨rfl, rfl⟩
  have mp := (m.pop hn).set6 (j := j) hjS ⟨1, ka, kb, u, false, M.slots[j].next⟩
  have kp : Kept w _ B lo := ((Kept.refl w B lo).setBox (.slice (some ⟨gF, 0, none⟩) n cF) (j := 2)).set6 (o := j * 6) oS ⟨1, ka, kb, u, false, M.slots[j].next⟩
  generalize mm.set6 (w.setCell ⟨B, 2, none⟩ (.slice (some ⟨gF, 0, none⟩) n cF)) gS (j * 6) ⟨1, ka, kb, u, false, M.slots[j].next⟩ = W at *
  have hb : Below W.heap.size W ((W.alloc (.cells #[.int .i64 ka, .int .i64 kb] 37)).drew) := (one_below W _).drew
  exact ⟨rfl, _, _, _, _, _, _, _, _, mp.below hb, kp.below hb mp.c.lz⟩

theorem take_any (M : Mm) (w : World) (B lo : Nat) (aS aH aF aL : Option Addr) (cS cH cF cL : Nat) (ka kb u : Int) (m : Mine w B lo aS aH aF aL cS cH cF cL M) (hF : 0 < M.free.length) (h0 : 0 ≤ lastF M) (h1 : lastF M < M.slots.length) :
    Calls Try.prog 88 #[.pointer (some ⟨B, 0, none⟩), .agg #[.int .i64 ka, .int .i64 kb], .int .i64 u] w fun e w' => e = .returned (.tuple #[.int .i64 (lastF M), .bool true]) ∧ Done w w' B lo (takeM M ka kb u) := by
  refine (take_now M w B lo aS aH aF aL cS cH cF cL ka kb u m hF h0 h1).mono ?_
  rintro e w' ⟨rfl, h⟩
  exact ⟨rfl, h.done⟩


end Go.Proofs.Ytaekgadokcmkfab.mm
