/- The contracts of the laws' own steps: an Add's step in memory that they have caught. -/
import Derived.Test.YtdbilofhcadmoabC30
import Derived.Test.YtdbilofhcadmoabC31
import Derived.Test.YtdbilofhcadmoabC22
import Derived.Test.YtdbilofhcadmoabC11
import Derived.Lib.SmallJoins
import Derived.Test.YtdbilofhcadmoabC06
import Derived.Test.YtdbilofhcadmoabC14
import Derived.Test.YtdbilofhcadmoabC16
namespace Go.Proofs.Ytdbilofhcadmoab.mm
open Go.ChangeShapes Go.WideShapes Go.ChangeAt Go.RowKit Go.Joins Go.Deep Go.Sort
set_option maxRecDepth 100000
set_option linter.unusedVariables false

def AdG (M : Mm) (f : Fr) : Prop := Ok M ∧ Fit M f ∧ f.keys = [] ∧ f.c.kind = 2
theorem adG_next {t : Int} (ht : -1 ≤ t ∧ t ≤ 4) {M : Mm} {f : Fr} (h : AdG M f) (hd : (adF M f).done = false) : AdG (adM t M f) (adF M f) :=
  ⟨adM_ok ht h.1 h.2.1 h.2.2.2, adF_fit t h.1 h.2.1 hd, by rw [adF_keys]; exact h.2.2.1, by rw [adF_c]; exact h.2.2.2⟩

set_option maxHeartbeats 1600000 in
theorem closA1 (M : Mm) (f : Fr) (B lo : Nat) (Z : Nat → Prop) (w : World) (hG : AdG M f) (h : Has w B lo Z M) :
    Calls Try.prog 111 #[.agg #[.int .i64 f.c.kind, .int .i64 f.c.a, .int .i64 f.c.b, .int .i64 f.c.time, .int .i64 f.c.bk, .int .i64 f.c.slot, .int .i64 f.pl, .int .i64 f.cur, .int .i64 f.prev, .int .i64 f.slot, .int .i64 f.n, .slice none f.keys.length 0, .bool f.done, .int .i64 f.e], .pointer (some ⟨B, 0, none⟩)] w fun e w' => (∃ a c, e = .returned (.agg #[.int .i64 (adF M f).c.kind, .int .i64 (adF M f).c.a, .int .i64 (adF M f).c.b, .int .i64 (adF M f).c.time, .int .i64 (adF M f).c.bk, .int .i64 (adF M f).c.slot, .int .i64 (adF M f).pl, .int .i64 (adF M f).cur, .int .i64 (adF M f).prev, .int .i64 (adF M f).slot, .int .i64 (adF M f).n, .slice a (adF M f).keys.length c, .bool (adF M f).done, .int .i64 (adF M f).e]) ∧ ((adF M f).done = false → a = none ∧ c = 0)) ∧ Has w' B lo (Up w Z) (adM 1 M f) ∧ Fine w w' Z := by
  obtain ⟨aS, aH, aF, aL, cS, cH, cF, cL, m, hz⟩ := h
  have HZ : Hid (∀ k, Foot B aS aH aF aL k → Z k) := hz
  have HSt : Hid (∀ W : World, Mine W B lo aS aH aF aL cS cH cF cL M → Calls Try.prog 51 #[.pointer (some ⟨B, 0, none⟩), .agg #[.int .i64 f.c.kind, .int .i64 f.c.a, .int .i64 f.c.b, .int .i64 f.c.time, .int .i64 f.c.bk, .int .i64 f.c.slot, .int .i64 f.pl, .int .i64 f.cur, .int .i64 f.prev, .int .i64 f.slot, .int .i64 f.n, .slice none f.keys.length 0, .bool f.done, .int .i64 f.e], .int .i64 1] W fun e w' => Ret W w' e (adF M f) none 0 ∧ Has w' B lo (Up W (Foot B aS aH aF aL)) (adM 1 M f) ∧ Fine W w' (Foot B aS aH aF aL)) := fun W m' => ad_mine 1 M f B lo aS aH aF aL cS cH cF cL none 0 W m' hG.1 hG.2.1 hG.2.2.2 (krow_anyA W hG.2.2.1 (fun _ => rfl)) (fun ad h => by cases h)
  generalize adF M f = g at *
  generalize adM 1 M f = M' at *
  obtain ⟨of, hof⟩ : ∃ o : Obj, o = .cells #[.int .i64 f.c.kind, .int .i64 f.c.a, .int .i64 f.c.b, .int .i64 f.c.time, .int .i64 f.c.bk, .int .i64 f.c.slot, .int .i64 f.pl, .int .i64 f.cur, .int .i64 f.prev, .int .i64 f.slot, .int .i64 f.n, .slice none f.keys.length 0, .bool f.done, .int .i64 f.e] 51 := ⟨_, rfl⟩
  obtain ⟨oz, hoz⟩ : ∃ o : Obj, o = zeroFr := ⟨_, rfl⟩
  have HE : Hid (Lk w ((w.alloc of).alloc oz) B lo aS aH aF aL cS cH cF cL M f none 0) := Lk.first m f none 0 hof hoz
  obtain ⟨q0, q1, q2, q3, q4, -, -, -, -, -, qs⟩ := boxf HE.out.m.box
  obtain ⟨f0, f1, f2, f3, f4, f5, f6, f7, f8, f9, f10, f11, f12, f13, ff, fs⟩ := framef HE.out.fb
  unfold zeroFr at hoz
  clear m hz hG
  go_enter Try.func111, Try.ntmps111
  go_wp2_with fail
  rw [← hof, ← hoz]
  generalize (w.alloc of).alloc oz = W0 at *
  subst hof hoz
  clear q0 q1 q2 q3 q4 qs
  clear f0 f1 f2 f3 f4 f5 f6 f7 f8 f9 f10 f11 f12 f13 ff fs
  refine (HSt.out W0 HE.out.m).mono ?_
  rintro e w2 ⟨⟨a2, c2, rfl, -, -, hd2⟩, hh2, hf2⟩
  have HD2 : Hid (g.done = false → a2 = none ∧ c2 = 0) := hd2
  have HE2 : Hid (Lk2 w w2 (Foot B aS aH aF aL) B lo M' f none 0) := HE.out.after hh2 hf2
  clear HE hh2 hf2 hd2
  obtain ⟨g0, g1, g2, g3, g4, g5, g6, g7, g8, g9, g10, g11, g12, g13, gf, gs⟩ := framef HE2.out.zb
  go_wp2
  refine bodyPost_ret (v := .agg #[.int .i64 g.c.kind, .int .i64 g.c.a, .int .i64 g.c.b, .int .i64 g.c.time, .int .i64 g.c.bk, .int .i64 g.c.slot, .int .i64 g.pl, .int .i64 g.cur, .int .i64 g.prev, .int .i64 g.slot, .int .i64 g.n, .slice a2 g.keys.length c2, .bool g.done, .int .i64 g.e]) (by simp [results, Try.results111, go_sem, g0, g1, g2, g3, g4, g5, g6, g7, g8, g9, g10, g11, g12, g13]) rfl ⟨⟨a2, c2, rfl, HD2.out⟩, HE2.out.end14.1.mono (fun k _ h => h.imp (HZ.out k) id), HE2.out.end14.2.mono HZ.out⟩

set_option maxHeartbeats 1600000 in
theorem closA0 (M : Mm) (f : Fr) (B lo : Nat) (Z : Nat → Prop) (w : World) (hG : AdG M f) (h : Has w B lo Z M) :
    Calls Try.prog 55 #[.agg #[.int .i64 f.c.kind, .int .i64 f.c.a, .int .i64 f.c.b, .int .i64 f.c.time, .int .i64 f.c.bk, .int .i64 f.c.slot, .int .i64 f.pl, .int .i64 f.cur, .int .i64 f.prev, .int .i64 f.slot, .int .i64 f.n, .slice none f.keys.length 0, .bool f.done, .int .i64 f.e], .pointer (some ⟨B, 0, none⟩)] w fun e w' => (∃ a c, e = .returned (.agg #[.int .i64 (adF M f).c.kind, .int .i64 (adF M f).c.a, .int .i64 (adF M f).c.b, .int .i64 (adF M f).c.time, .int .i64 (adF M f).c.bk, .int .i64 (adF M f).c.slot, .int .i64 (adF M f).pl, .int .i64 (adF M f).cur, .int .i64 (adF M f).prev, .int .i64 (adF M f).slot, .int .i64 (adF M f).n, .slice a (adF M f).keys.length c, .bool (adF M f).done, .int .i64 (adF M f).e]) ∧ ((adF M f).done = false → a = none ∧ c = 0)) ∧ Has w' B lo (Up w Z) (adM 0 M f) ∧ Fine w w' Z := by
  obtain ⟨aS, aH, aF, aL, cS, cH, cF, cL, m, hz⟩ := h
  have HZ : Hid (∀ k, Foot B aS aH aF aL k → Z k) := hz
  have HSt : Hid (∀ W : World, Mine W B lo aS aH aF aL cS cH cF cL M → Calls Try.prog 51 #[.pointer (some ⟨B, 0, none⟩), .agg #[.int .i64 f.c.kind, .int .i64 f.c.a, .int .i64 f.c.b, .int .i64 f.c.time, .int .i64 f.c.bk, .int .i64 f.c.slot, .int .i64 f.pl, .int .i64 f.cur, .int .i64 f.prev, .int .i64 f.slot, .int .i64 f.n, .slice none f.keys.length 0, .bool f.done, .int .i64 f.e], .int .i64 0] W fun e w' => Ret W w' e (adF M f) none 0 ∧ Has w' B lo (Up W (Foot B aS aH aF aL)) (adM 0 M f) ∧ Fine W w' (Foot B aS aH aF aL)) := fun W m' => ad_mine 0 M f B lo aS aH aF aL cS cH cF cL none 0 W m' hG.1 hG.2.1 hG.2.2.2 (krow_anyA W hG.2.2.1 (fun _ => rfl)) (fun ad h => by cases h)
  generalize adF M f = g at *
  generalize adM 0 M f = M' at *
  obtain ⟨of, hof⟩ : ∃ o : Obj, o = .cells #[.int .i64 f.c.kind, .int .i64 f.c.a, .int .i64 f.c.b, .int .i64 f.c.time, .int .i64 f.c.bk, .int .i64 f.c.slot, .int .i64 f.pl, .int .i64 f.cur, .int .i64 f.prev, .int .i64 f.slot, .int .i64 f.n, .slice none f.keys.length 0, .bool f.done, .int .i64 f.e] 51 := ⟨_, rfl⟩
  obtain ⟨oz, hoz⟩ : ∃ o : Obj, o = zeroFr := ⟨_, rfl⟩
  have HE : Hid (Lk w ((w.alloc of).alloc oz) B lo aS aH aF aL cS cH cF cL M f none 0) := Lk.first m f none 0 hof hoz
  obtain ⟨q0, q1, q2, q3, q4, -, -, -, -, -, qs⟩ := boxf HE.out.m.box
  obtain ⟨f0, f1, f2, f3, f4, f5, f6, f7, f8, f9, f10, f11, f12, f13, ff, fs⟩ := framef HE.out.fb
  unfold zeroFr at hoz
  clear m hz hG
  go_enter Try.func55, Try.ntmps55
  go_wp2_with fail
  rw [← hof, ← hoz]
  generalize (w.alloc of).alloc oz = W0 at *
  subst hof hoz
  clear q0 q1 q2 q3 q4 qs
  clear f0 f1 f2 f3 f4 f5 f6 f7 f8 f9 f10 f11 f12 f13 ff fs
  refine (HSt.out W0 HE.out.m).mono ?_
  rintro e w2 ⟨⟨a2, c2, rfl, -, -, hd2⟩, hh2, hf2⟩
  have HD2 : Hid (g.done = false → a2 = none ∧ c2 = 0) := hd2
  have HE2 : Hid (Lk2 w w2 (Foot B aS aH aF aL) B lo M' f none 0) := HE.out.after hh2 hf2
  clear HE hh2 hf2 hd2
  obtain ⟨g0, g1, g2, g3, g4, g5, g6, g7, g8, g9, g10, g11, g12, g13, gf, gs⟩ := framef HE2.out.zb
  go_wp2
  refine bodyPost_ret (v := .agg #[.int .i64 g.c.kind, .int .i64 g.c.a, .int .i64 g.c.b, .int .i64 g.c.time, .int .i64 g.c.bk, .int .i64 g.c.slot, .int .i64 g.pl, .int .i64 g.cur, .int .i64 g.prev, .int .i64 g.slot, .int .i64 g.n, .slice a2 g.keys.length c2, .bool g.done, .int .i64 g.e]) (by simp [results, Try.results55, go_sem, g0, g1, g2, g3, g4, g5, g6, g7, g8, g9, g10, g11, g12, g13]) rfl ⟨⟨a2, c2, rfl, HD2.out⟩, HE2.out.end14.1.mono (fun k _ h => h.imp (HZ.out k) id), HE2.out.end14.2.mono HZ.out⟩

end Go.Proofs.Ytdbilofhcadmoab.mm

/- The contracts of cut, on memory of one's own, and of aheadOf. -/
namespace Go.Proofs.Ytdbilofhcadmoab.mm
open Go.ChangeShapes Go.WideShapes Go.ChangeAt Go.RowKit Go.Joins Go.Maps
set_option maxRecDepth 100000
set_option linter.unusedVariables false

set_option maxHeartbeats 800000 in
theorem cut_begin (w : World) (B gS gH nS nH j b cS cH : Nat) (fv lv nv : Value) (x nx ah : Int)
    (hB : w.heap[B]? = some (.cells #[.slice (some ⟨gS, 0, none⟩) nS cS, .slice (some ⟨gH, 0, none⟩) nH cH, fv, lv, nv] 25 (0, 0))) (hj : j < nS) (hb : b < nH) (hn : nS ≤ 12) (hh : nH ≤ 4) (ha : ah ≤ 0)
    (c5 : w.cell? ⟨gS, j * 6 + 5, none⟩ = some (.int .i64 nx)) (ch : w.cell? ⟨gH, b, none⟩ = some (.int .i64 x)) (fh : w.frozen? ⟨gH, b, none⟩ = false) :
    Calls Try.prog 141 #[.pointer (some ⟨B, 0, none⟩), .int .i64 b, .int .i64 ah, .int .i64 j] w fun e w' => e = .returned (.tuple #[]) ∧ w' = w.setCell ⟨gH, b, none⟩ (.int .i64 nx) := by
  obtain ⟨q0, q1, q2, q3, q4, -, -, -, -, -, qs⟩ := boxf hB
  clear hB
  go_enter Try.func141, Try.ntmps141
  go_wp2_with (go_at_call 144; refine (slotOf_no _ _ ha).mono ?_; rintro e w1 ⟨rfl, rfl⟩)
  go_end0
  exact ⟨rfl, rfl⟩

set_option maxHeartbeats 800000 in
theorem cut_mid (w : World) (B gS gH nS nH j b p cS cH : Nat) (fv lv nv : Value) (x nx px : Int)
    (hB : w.heap[B]? = some (.cells #[.slice (some ⟨gS, 0, none⟩) nS cS, .slice (some ⟨gH, 0, none⟩) nH cH, fv, lv, nv] 25 (0, 0))) (hj : j < nS) (hb : b < nH) (hn : nS ≤ 12) (hh : nH ≤ 4) (hp : p < nS)
    (c5 : w.cell? ⟨gS, j * 6 + 5, none⟩ = some (.int .i64 nx)) (d5 : w.cell? ⟨gS, p * 6 + 5, none⟩ = some (.int .i64 px)) (fz : w.frozen? ⟨gS, p * 6 + 5, none⟩ = false) (ch : w.cell? ⟨gH, b, none⟩ = some (.int .i64 x)) :
    Calls Try.prog 141 #[.pointer (some ⟨B, 0, none⟩), .int .i64 b, .int .i64 ((p : Int) + 1), .int .i64 j] w fun e w' => e = .returned (.tuple #[]) ∧ w' = w.setCell ⟨gS, p * 6 + 5, none⟩ (.int .i64 nx) := by
  obtain ⟨q0, q1, q2, q3, q4, -, -, -, -, -, qs⟩ := boxf hB
  clear hB
  go_enter Try.func141, Try.ntmps141
  go_wp2_with (go_at_call 144; refine (slotOf_is _ _ (by omega) (by omega)).mono ?_; rw [show (p : Int) + 1 - 1 = p by omega]; rintro e w1 ⟨rfl, rfl⟩)
  go_end0
  exact ⟨rfl, rfl⟩

theorem cut_now (M : Mm) (w : World) (B lo : Nat) (aS aH aF aL : Option Addr) (cS cH cF cL j b : Nat) (ah : Int) (m : Mine w B lo aS aH aF aL cS cH cF cL M) (hok : Ok M) (hj : j < M.slots.length) (hb : b < M.heads.length) (hah : ah ≤ M.slots.length) :
    Calls Try.prog 141 #[.pointer (some ⟨B, 0, none⟩), .int .i64 b, .int .i64 ah, .int .i64 j] w fun e w' => e = .returned (.tuple #[]) ∧ Now w w' B lo (cutM M b ah j) := by
  obtain ⟨gS, rfl, oS, lS, -, -⟩ := row_form m.c.s (by omega)
  obtain ⟨gH, rfl, oH, lH, -, -⟩ := row_form m.c.h (by omega)
  obtain ⟨c0, c1, c2, c3, c4, c5, fz⟩ := row_cells m.c.s hj
  obtain ⟨ch, fh⟩ := row_cell m.c.h hb
  have hs : slotAt M j = M.slots[j] := slotAt_lt hj
  by_cases ha : 0 < ah
  · obtain ⟨p, rfl⟩ : ∃ p : Nat, ah = (p : Int) + 1 := ⟨(ah - 1).toNat, by omega⟩
    have hp : p < M.slots.length := by omega
    obtain ⟨_, _, _, _, _, d5, _⟩ := row_cells m.c.s hp
    refine (cut_mid w B gS gH _ _ j b p cS cH _ _ _ _ _ _ m.box hj hb hok.ns hok.nh.2 hp c5 d5 (fz _) ch).mono ?_
    rintro e w' ⟨rfl, rfl⟩
    unfold cutM
    rw [if_pos ha, hs, show (p : Int) + 1 - 1 = p by omega, show slotAt M p = M.slots[p] from slotAt_lt hp, Int.toNat_natCast]
    exact ⟨rfl, _, _, _, _, _, _, _, _, m.setS _ _ _ (encS_set5 M.slots p hp _), (Kept.refl w B lo).setCell oS _⟩
  · refine (cut_begin w B gS gH _ _ j b cS cH _ _ _ _ _ _ m.box hj hb hok.ns hok.nh.2 (by omega) c5 ch fh).mono ?_
    rintro e w' ⟨rfl, rfl⟩
    unfold cutM
    rw [if_neg ha, hs]
    exact ⟨rfl, _, _, _, _, _, _, _, _, m.setH b _, (Kept.refl w B lo).setCell oH _⟩
theorem cut_any (M : Mm) (w : World) (B lo : Nat) (aS aH aF aL : Option Addr) (cS cH cF cL j b : Nat) (ah : Int) (m : Mine w B lo aS aH aF aL cS cH cF cL M) (hok : Ok M) (hj : j < M.slots.length) (hb : b < M.heads.length) (hah : ah ≤ M.slots.length) :
    Calls Try.prog 141 #[.pointer (some ⟨B, 0, none⟩), .int .i64 b, .int .i64 ah, .int .i64 j] w fun e w' => e = .returned (.tuple #[]) ∧ Done w w' B lo (cutM M b ah j) := by
  refine (cut_now M w B lo aS aH aF aL cS cH cF cL j b ah m hok hj hb hah).mono ?_
  rintro e w' ⟨rfl, h⟩
  exact ⟨rfl, h.done⟩

/- What is ahead: three variables that a function literal has caught. -/
structure Ahd (w0 : World) (P1 P2 P3 Y : Nat) (ob : Array Value) (W : World) (a la ah : Int) : Prop where
  p1 : W.heap[P1]? = some (.cells #[.int .i64 a] 3 (0, 0))
  p2 : W.heap[P2]? = some (.cells #[.int .i64 la] 3 (0, 0))
  p3 : W.heap[P3]? = some (.cells #[.int .i64 ah] 3 (0, 0))
  box : W.heap[Y]? = some (.cells ob 25 (0, 0))
  below : Below P1 w0 W

theorem Ahd.turn {w0 W : World} {P1 P2 P3 Y : Nat} {ob : Array Value} {a la ah la' : Int} (A : Ahd w0 P1 P2 P3 Y ob W a la ah) (d1 : P1 < P3) (d2 : P3 < P2) (d3 : P2 < Y) :
    Ahd w0 P1 P2 P3 Y ob (W.setCell ⟨P2, 0, none⟩ (.int .i64 la')) a la' ah := by
  refine ⟨(Below.heap_setCell _ _ _ _ (by dsimp only; omega)).trans A.p1, ?_, (Below.heap_setCell _ _ _ _ (by dsimp only; omega)).trans A.p3, (Below.heap_setCell _ _ _ _ (by dsimp only; omega)).trans A.box, A.below.setCell (by dsimp only; omega) _⟩
  have := block_setCell (i := 0) A.p2 (.int .i64 la')
  rw [this]; rfl
theorem Ahd.turn3 {w0 W : World} {P1 P2 P3 Y : Nat} {ob : Array Value} {a la ah ah' : Int} (A : Ahd w0 P1 P2 P3 Y ob W a la ah) (d1 : P1 < P3) (d2 : P3 < P2) (d3 : P2 < Y) :
    Ahd w0 P1 P2 P3 Y ob (W.setCell ⟨P3, 0, none⟩ (.int .i64 ah')) a la ah' := by
  refine ⟨(Below.heap_setCell _ _ _ _ (by dsimp only; omega)).trans A.p1, (Below.heap_setCell _ _ _ _ (by dsimp only; omega)).trans A.p2, ?_, (Below.heap_setCell _ _ _ _ (by dsimp only; omega)).trans A.box, A.below.setCell (by dsimp only; omega) _⟩
  have := block_setCell (i := 0) A.p3 (.int .i64 ah')
  rw [this]; rfl

theorem aheadF_snoc (a c : Int) : ∀ (l : List Int) (ah la : Int), aheadF a (l ++ [c]) ah la = if c == a then (match l.getLast? with | none => la | some p => p + 1) else aheadF a l ah la
  | [], ah, la => by simp [aheadF]
  | x :: l, ah, la => by
    simp only [List.cons_append, aheadF]
    rw [aheadF_snoc a c l]
    split
    · cases l with
      | nil => rfl
      | cons d l => simp [List.getLast?_cons]
    · rfl

theorem fn90 : ∀ args W, (callFunc 160 args).run Try.prog W = .ok (.enter 160 args) W := fun _ _ => by kernel_rfl

set_option maxHeartbeats 800000 in
theorem app90 (w0 W : World) (P1 P2 P3 Y : Nat) (ob : Array Value) (a : Int) (l : List Int) (j : Nat) (A : Ahd w0 P1 P2 P3 Y ob W a (lastN l) (aheadF a l 0 0)) (d1 : P1 < P3) (d2 : P3 < P2) (d3 : P2 < Y) (hj : j ≤ 12) :
    Calls Try.prog 160 #[.int .i64 j, .pointer (some ⟨P1, 0, none⟩), .pointer (some ⟨P2, 0, none⟩), .pointer (some ⟨P3, 0, none⟩)] W fun e W' => e = .returned (.tuple #[]) ∧ Ahd w0 P1 P2 P3 Y ob W' a (lastN (l ++ [(j : Int)])) (aheadF a (l ++ [(j : Int)]) 0 0) := by
  rw [lastN_snoc, aheadF_snoc]
  obtain ⟨c1, -, -⟩ := var_cell A.p1
  obtain ⟨c2, f2, z2⟩ := var_cell A.p2
  obtain ⟨c3, f3, z3⟩ := var_cell A.p3
  have HA : Hid _ := A
  clear A
  by_cases e : (j : Int) = a
  · rw [if_pos (by simpa using e)]
    have he : ((j : Int) == a) = true := by simpa using e
    have HE : Hid _ := (HA.out.turn3 (ah' := lastN l) d1 d2 d3).turn (la' := (j : Int) + 1) d1 d2 d3
    have HL : Hid ((match l.getLast? with | none => (0 : Int) | some p => p + 1) = lastN l) := rfl
    rw [HL.out]
    clear HA e HL
    generalize lastN l = ll at *
    go_enter Try.func160, Try.ntmps160
    go_wp2_with (go_at_call 148; refine (toSlot_any _ _ (by omega) (by omega)).mono ?_; rintro e w1 ⟨rfl, rfl⟩)
    go_end0
    exact ⟨rfl, HE.out⟩
  · rw [if_neg (by simpa using e)]
    have he : ((j : Int) == a) = false := by simpa using e
    have HE : Hid _ := HA.out.turn (la' := (j : Int) + 1) d1 d2 d3
    clear HA e
    go_enter Try.func160, Try.ntmps160
    go_wp2_with (go_at_call 148; refine (toSlot_any _ _ (by omega) (by omega)).mono ?_; rintro e w1 ⟨rfl, rfl⟩)
    go_end0
    exact ⟨rfl, HE.out⟩

set_option maxHeartbeats 1600000 in
theorem aheadOf_any (M : Mm) (aS aH aF aL : Option Addr) (cS cH cF cL b : Nat) (a : Int) (w : World) (A : At w aS aH aF aL cS cH cF cL M) (hok : Ok M) (hb : b < M.heads.length) :
    Calls Try.prog 142 #[.agg #[.slice aS M.slots.length cS, .slice aH M.heads.length cH, .slice aF M.free.length cF, .slice aL M.locks.length cL, .int .i64 M.now], .int .i64 b, .int .i64 a] w fun e w' => e = .returned (.int .i64 (aheadF a (chL M b) 0 0)) ∧ Below w.heap.size w w' := by
  obtain ⟨E0, hE0⟩ : ∃ E0, E0 = aheadF a (chL M b) 0 0 := ⟨_, rfl⟩
  rw [← hE0]
  have HE0 : Hid (E0 = aheadF a (chL M b) 0 0) := hE0
  clear hE0
  have n0 := hok.ns
  have hmf : ∀ (fn : Fn) (first cap : Array Value) (w : World), (Instr.makeFunc fn first cap).run Try.prog w = .ok (.func fn first cap) w := fun _ _ _ _ => rfl
  obtain ⟨o1, ho1⟩ : ∃ o : Obj, o = .cells #[.slice aS M.slots.length cS, .slice aH M.heads.length cH, .slice aF M.free.length cF, .slice aL M.locks.length cL, .int .i64 M.now] 25 := ⟨_, rfl⟩
  obtain ⟨o2, ho2⟩ : ∃ o : Obj, o = .cells #[.int .i64 a] 3 := ⟨_, rfl⟩
  obtain ⟨o3, ho3⟩ : ∃ o : Obj, o = .cells #[.int .i64 0] 3 := ⟨_, rfl⟩
  have b0 : Below w.heap.size w ((((w.alloc o1).alloc o2).alloc o3).alloc o3) := ((below_alloc2 w o1 o2).alloc (by simp; omega) o3).alloc (by simp; omega) o3
  have hP1 : ((((w.alloc o1).alloc o2).alloc o3).alloc o3).heap[w.heap.size + 1]? = some o2 := by
    rw [Below.heap_alloc _ _ _ (by simp), Below.heap_alloc _ _ _ (by simp)]
    have := heap_alloc_new (w.alloc o1) o2
    rwa [show (w.alloc o1).heap.size = w.heap.size + 1 by simp] at this
  have hP3 : ((((w.alloc o1).alloc o2).alloc o3).alloc o3).heap[w.heap.size + 2]? = some o3 := by
    rw [Below.heap_alloc _ _ _ (by simp)]
    have := heap_alloc_new ((w.alloc o1).alloc o2) o3
    rwa [show ((w.alloc o1).alloc o2).heap.size = w.heap.size + 2 by simp] at this
  have hP2 : ((((w.alloc o1).alloc o2).alloc o3).alloc o3).heap[w.heap.size + 3]? = some o3 := by
    have := heap_alloc_new (((w.alloc o1).alloc o2).alloc o3) o3
    rwa [show (((w.alloc o1).alloc o2).alloc o3).heap.size = w.heap.size + 3 by simp] at this
  have hZ : ((((w.alloc o1).alloc o2).alloc o3).alloc o3).heap.size = w.heap.size + 4 := by simp
  have HP1 : Hid _ := hP1
  have HP2 : Hid _ := hP2
  have HP3 : Hid _ := hP3
  have HZ : Hid _ := hZ
  clear hP1 hP2 hP3 hZ
  have HA : Hid (At w aS aH aF aL cS cH cF cL M) := A
  clear A
  go_enter Try.func142, Try.ntmps142
  go_wp2_with fail
  rw [← ho1, ← ho2, ← ho3]
  generalize (((w.alloc o1).alloc o2).alloc o3).alloc o3 = W0 at *
  subst ho1 ho2 ho3
  have z := HZ.out
  have hst : Ahd W0 (w.heap.size + 1) (w.heap.size + 3) (w.heap.size + 2) W0.heap.size #[.slice aS M.slots.length cS, .slice aH M.heads.length cH, .slice aF M.free.length cF, .slice aL M.locks.length cL, .int .i64 M.now] (W0.alloc (.cells #[.slice aS M.slots.length cS, .slice aH M.heads.length cH, .slice aF M.free.length cF, .slice aL M.locks.length cL, .int .i64 M.now] 25)) a (lastN []) (aheadF a [] 0 0) :=
    ⟨(Below.heap_alloc _ _ _ (by omega)).trans HP1.out, (Below.heap_alloc _ _ _ (by omega)).trans HP2.out, (Below.heap_alloc _ _ _ (by omega)).trans HP3.out, heap_alloc_new _ _, (Below.refl _ _).alloc (by omega) _⟩
  refine (walk_any 160 #[.pointer (some ⟨w.heap.size + 1, 0, none⟩), .pointer (some ⟨w.heap.size + 3, 0, none⟩), .pointer (some ⟨w.heap.size + 2, 0, none⟩)] M aS aH aF aL cS cH cF cL b W0 hok hb fn90 (fun l W => Ahd W0 (w.heap.size + 1) (w.heap.size + 3) (w.heap.size + 2) W0.heap.size #[.slice aS M.slots.length cS, .slice aH M.heads.length cH, .slice aF M.free.length cF, .slice aL M.locks.length cL, .int .i64 M.now] W a (lastN l) (aheadF a l 0 0)) hst (fun l W h => h.box) (fun l W h => HA.out.below (b0.trans (h.below.mono (by omega)))) ?_).mono ?_
  · intro l j W hL ha hl
    exact app90 _ _ _ _ _ _ _ _ _ j hL (by omega) (by omega) (by omega) (by omega)
  rintro e w1 ⟨rfl, hL1⟩
  have b1 : Below w.heap.size w w1 := b0.trans (hL1.below.mono (by omega))
  obtain ⟨c3, -, z3⟩ := var_cell hL1.p3
  rw [← HE0.out] at c3
  clear hL1 hst HP1 HP2 HP3 b0
  go_wp2
  go_ret
  exact ⟨rfl, b1⟩



end Go.Proofs.Ytdbilofhcadmoab.mm

/- The contract of chain.Linked where it can be linked: memory in rows that are one's own. -/
namespace Go.Proofs.Ytdbilofhcadmoab.mm
open Go.ChangeShapes Go.WideShapes Go.ChangeAt Go.RowKit Go.Joins Go.Maps
set_option maxRecDepth 100000
set_option linter.unusedVariables false

/- A value is memory, in rows that are one's own. -/
def AnsO (lo : Nat) (w : World) (v : Value) (M : Mm) : Prop :=
  ∃ aS aH aF aL cS cH cF cL, v = .agg #[.slice aS M.slots.length cS, .slice aH M.heads.length cH, .slice aF M.free.length cF, .slice aL M.locks.length cL, .int .i64 M.now] ∧ Rw w lo aS aH aF aL cS cH cF cL M

set_option maxHeartbeats 6400000 in
theorem linked_own (M : Mm) (aS aH aF aL : Option Addr) (cS cH cF cL : Nat) (a : Int) (w : World) (A : At w aS aH aF aL cS cH cF cL M) (h0 : linkE M a = 0) :
    Calls Try.prog 21 #[.agg #[.slice aS M.slots.length cS, .slice aH M.heads.length cH, .slice aF M.free.length cF, .slice aL M.locks.length cL, .int .i64 M.now], .int .i64 a] w fun e w' => ∃ v, e = .returned (.tuple #[v, .int .i64 0]) ∧ AnsO w.heap.size w' v (linkedM M a) ∧ Below w.heap.size w w' := by
  have m1 := A.s.max; have m2 := A.h.max; have m4 := A.l.max
  have n1 : M.slots.length ≤ 9223372036854775807 := by omega
  obtain ⟨E0, hE0⟩ : ∃ E0, E0 = linkE M a := ⟨_, rfl⟩
  obtain ⟨M1, hM1⟩ : ∃ M1, M1 = linkedM M a := ⟨_, rfl⟩
  rw [← hM1]
  have H0 : Hid (E0 = 0) := hE0.trans h0
  clear h0
  have HE0 : Hid (E0 = linkE M a) := hE0
  have HM1 : Hid (M1 = linkedM M a) := hM1
  clear hE0 hM1
  have bad : ∀ e : Int, e ≠ 0 → linkE M a = e → E0 = e ∧ M1 = m0 := fun e he h => ⟨HE0.out.trans h, HM1.out.trans (by unfold linkedM; rw [h, if_neg he])⟩
  have HBad : Hid _ := bad
  clear bad
  obtain ⟨o1, ho1⟩ : ∃ o : Obj, o = .cells #[.slice aS M.slots.length cS, .slice aH M.heads.length cH, .slice aF M.free.length cF, .slice aL M.locks.length cL, .int .i64 M.now] 25 := ⟨_, rfl⟩
  obtain ⟨o2, ho2⟩ : ∃ o : Obj, o = .cells #[.slice none 0 0, .slice none 0 0, .slice none 0 0, .slice none 0 0, .int .i64 0] 25 := ⟨_, rfl⟩
  have b0 : Below w.heap.size w ((w.alloc o1).alloc o2) := below_alloc2 w o1 o2
  have HB0 : Hid (((w.alloc o1).alloc o2).heap[w.heap.size]? = some o1) := by show _ = _; rw [Below.heap_alloc _ _ _ (by simp), heap_alloc_new]
  have HR0 : Hid (((w.alloc o1).alloc o2).heap[w.heap.size + 1]? = some o2) := by
    have := heap_alloc_new (w.alloc o1) o2
    rwa [show (w.alloc o1).heap.size = w.heap.size + 1 by simp] at this
  have HZ0 : Hid (((w.alloc o1).alloc o2).heap.size = w.heap.size + 2) := by show _ = _; simp
  have HA : Hid (At w aS aH aF aL cS cH cF cL M) := A
  have HA0 : Hid _ := A.below b0
  clear A
  go_enter Try.func21, Try.ntmps21
  go_wp2_with fail
  rw [← ho1, ← ho2]
  generalize (w.alloc o1).alloc o2 = W0 at *
  subst ho1 ho2
  refine (mapped_any M aS aH aF aL cS cH cF cL W0 HA0.out).mono ?_
  rintro e w1 ⟨vm, rfl, hmap, hb1⟩
  have b1 := b0.trans (hb1.mono b0.size)
  have HB1 : Hid (w1.heap[w.heap.size]? = _) := (hb1.block w.heap.size (lt_of_block HB0.out)).trans HB0.out
  have HR1 : Hid (w1.heap[w.heap.size + 1]? = _) := (hb1.block (w.heap.size + 1) (lt_of_block HR0.out)).trans HR0.out
  have HMap : Hid (MapIs M (chkC M) W0.heap.size w1 vm) := hmap
  clear hb1 b0 HB0 HR0 HA0 hmap
  by_cases hE : chkC M = 0
  rotate_left
  · have HV : Hid (E0 = chkC M ∧ M1 = m0) := HBad.out _ hE (by unfold linkE; rw [if_pos hE])
    exact absurd (HV.out.1.symm.trans H0.out) hE
  have HC : Hid (chkC M = 0) := hE
  have hokc := (chkC_zero M).1 hE
  have hok := hokc.ok
  have k0 := hok.ns
  have k1 := hok.nh
  obtain ⟨gm, rfl, hgm, hMA⟩ := HMap.out.2 hE
  have HMA : Hid (MapAt M w1 gm (allC M)) := hMA
  have lgm := hMA.lt
  rw [hE]
  clear hE hMA HMap
  obtain ⟨q0, q1, q2, q3, q4, f0, f1, f2, f3, f4, qs⟩ := boxf HB1.out
  clear f0 f1 f2 f3 f4
  go_wp2_with fail
  refine (isSlot_any aS aH aF aL _ _ _ _ cS cH cF cL _ _ w1 n1).mono ?_
  rintro e w2 ⟨rfl, hb2⟩
  have b2 := b1.trans (hb2.mono b1.size)
  have HB2 : Hid (w2.heap[w.heap.size]? = _) := (hb2.block w.heap.size qs).trans HB1.out
  have HR2 : Hid (w2.heap[w.heap.size + 1]? = _) := (hb2.block (w.heap.size + 1) (lt_of_block HR1.out)).trans HR1.out
  have HM2 : Hid (MapAt M w2 gm (allC M)) := MapAt.kept HMA.out (hb2.block gm lgm)
  clear hb2 b1 HB1 HR1 HMA q0 q1 q2 q3 q4 qs lgm
  cases hS : inB a 0 ((M.slots.length : Int) - 1)
  · have HV : Hid (E0 = 5 ∧ M1 = m0) := HBad.out 5 (by decide) (by unfold linkE; rw [if_neg (by simpa using HC.out), if_pos (show isSl M a = false from hS)])
    exact absurd (HV.out.1.symm.trans H0.out) (by decide)
  have HS : Hid (isSl M a = true) := hS
  obtain ⟨j, rfl, hj⟩ := (isSl_iff M a).1 hS
  clear hS
  have HA2 : Hid _ := HA.out.below b2
  rcases HA2.out.s.at_ with h0 | ⟨bs, os, rfl, hcs⟩
  · omega
  obtain ⟨s0, s1, s2, s3, s4, s5⟩ := hcs j hj
  have ls := cell_lt s0
  have hgood := slot_good (hok.slot _ (List.getElem_mem hj))
  have hsl : slotAt M j = M.slots[j] := slotAt_lt hj
  generalize hM : M.slots[j] = s at s0 s1 s2 s3 s4 s5 hsl hgood
  obtain ⟨r, ka, kb, u, i, nx⟩ := s
  dsimp only at s0 s1 s2 s3 s4 s5 hgood
  have HSL : Hid (slotAt M j = ⟨r, ka, kb, u, i, nx⟩) := hsl
  have HRf : Hid (refsM M j = r) := by show (slotAt M j).refs = r; rw [hsl]
  have HKy : Hid (keyAt M j = (ka, kb)) := by unfold keyAt; rw [hsl]; exact rfl
  have hkey := hgood.2.2.1
  have HK : Hid (keyB ka kb = true) := hkey
  clear hM hsl hcs hgood hkey
  obtain ⟨q0, q1, q2, q3, q4, f0, f1, f2, f3, f4, qs⟩ := boxf HB2.out
  obtain ⟨r0, r1, r2, r3, r4, g0, g1, g2, g3, g4, rs⟩ := boxf HR2.out
  clear f0 f1 f2 f3 f4
  by_cases hr : r = 0
  · subst hr
    have HV : Hid (E0 = 8 ∧ M1 = m0) := HBad.out 8 (by decide) (by unfold linkE; rw [if_neg (by simpa using HC.out), if_neg (by rw [HS.out]; simp), if_pos HRf.out])
    exact absurd (HV.out.1.symm.trans H0.out) (by decide)
  have hr' : (r == 0) = false := by simpa using hr
  have HRn : Hid (refsM M j ≠ 0) := by rw [HRf.out]; exact hr
  have b2s := b2.size
  have lgm2 := MapAt.lt HM2.out
  have hl := MapAt.look (MapAt.kept (w' := w2.alloc (.cells #[.int .i64 r, .int .i64 ka, .int .i64 kb, .int .i64 u, .bool i, .int .i64 nx] 39)) HM2.out (Below.heap_alloc _ _ _ lgm2)) HK.out
  cases hh : hasK M (allC M) (ka, kb)
  rotate_left
  · rw [hh] at hl
    have HV : Hid (E0 = 6 ∧ M1 = m0) := HBad.out 6 (by decide) (by unfold linkE; rw [if_neg (by simpa using HC.out), if_neg (by rw [HS.out]; simp), if_neg HRn.out, HKy.out, hh]; rfl)
    exact absurd (HV.out.1.symm.trans H0.out) (by decide)
  rw [hh] at hl
  have HV : Hid (E0 = 0 ∧ M1 = linkAt M j (ownB M j)) := by
    have : linkE M j = 0 := linkE_of hokc HS.out HRn.out (by rw [HKy.out]; exact hh)
    exact ⟨HE0.out.trans this, HM1.out.trans (by unfold linkedM; rw [this, if_pos rfl]; rfl)⟩
  have HBk : Hid (bucket ka kb M.heads.length = (ownB M j : Int)) := by
    show _ = _
    rw [ownB_eq hok j, HSL.out]
  have hob := ownB_lt hok j
  clear HE0 HM1 HBad hh HRn HKy HRf HSL
  obtain ⟨o5, ho5⟩ : ∃ o : Obj, o = .cells #[.int .i64 r, .int .i64 ka, .int .i64 kb, .int .i64 u, .bool i, .int .i64 nx] 39 := ⟨_, rfl⟩
  have b3 := b2.alloc b2.size o5
  have HB3 : Hid ((w2.alloc o5).heap[w.heap.size]? = _) := (Below.heap_alloc _ _ _ qs).trans HB2.out
  have HR3 : Hid ((w2.alloc o5).heap[w.heap.size + 1]? = _) := (Below.heap_alloc _ _ _ rs).trans HR2.out
  clear g0 g1 g2 g3 g4
  go_wp2_with fail
  rw [← ho5]
  rw [← ho5] at hl
  generalize w2.alloc o5 = W3 at *
  subst ho5
  clear hl HB2 HR2 HM2 b2 q0 q1 q2 q3 q4 r0 r1 r2 r3 r4 qs rs s0 s1 s2 s3 s4 s5
  refine (bucket_ok _ _ _ _ HK.out k1.1 k1.2).mono ?_
  rintro e w4 ⟨rfl, hb4⟩
  rw [HBk.out]
  have b4 := b3.trans (hb4.mono b3.size)
  have HB4 : Hid (w4.heap[w.heap.size]? = _) := (hb4.block w.heap.size (lt_of_block HB3.out)).trans HB3.out
  have HR4 : Hid (w4.heap[w.heap.size + 1]? = _) := (hb4.block (w.heap.size + 1) (lt_of_block HR3.out)).trans HR3.out
  have HA4 : Hid _ := HA.out.below b4
  clear hb4 b3 HB3 HR3
  generalize hcb : ownB M j = cb at *
  clear hcb
  obtain ⟨q0, q1, q2, q3, q4, f0, f1, f2, f3, f4, qs⟩ := boxf HB4.out
  go_wp2_with fail
  refine (copy_any M _ aH aF aL cS cH cF cL w4 HA4.out).mono ?_
  rintro e w5 ⟨gS, gH, gF, gL, kS, kH, kF, kL, rfl, c5, hb5⟩
  have b5 := b4.trans (hb5.mono b4.size)
  have HB5 : Hid (w5.heap[w.heap.size]? = _) := (hb5.block w.heap.size qs).trans HB4.out
  have HR5 : Hid (w5.heap[w.heap.size + 1]? = _) := (hb5.block (w.heap.size + 1) (lt_of_block HR4.out)).trans HR4.out
  have t4 := lt_of_block HR4.out
  have b4s := b4.size
  clear hb5 b4 HB4 HR4 HA4 q0 q1 q2 q3 q4 f0 f1 f2 f3 f4
  have m3 := hok.few
  have hMn : Mine (set5 w5 w.heap.size (.slice gS M.slots.length kS) (.slice gH M.heads.length kH) (.slice gF M.free.length kF) (.slice gL M.locks.length kL) (.int .i64 M.now)) w.heap.size w4.heap.size gS gH gF gL kS kH kF kL M :=
    ⟨set5_block HB5.out _ _ _ _ _, c5.set5 HB5.out _ _ _ _ _, m1, m2, by omega, m4⟩
  have b6 := b5.trans (set5_below w5 w.heap.size w.heap.size (.slice gS M.slots.length kS) (.slice gH M.heads.length kH) (.slice gF M.free.length kF) (.slice gL M.locks.length kL) (.int .i64 M.now) (Nat.le_refl _))
  have HR6 : Hid ((set5 w5 w.heap.size (.slice gS M.slots.length kS) (.slice gH M.heads.length kH) (.slice gF M.free.length kF) (.slice gL M.locks.length kL) (.int .i64 M.now)).heap[w.heap.size + 1]? = _) := (set5_other (by omega)).trans HR5.out
  have HMn : Hid _ := hMn
  obtain ⟨q0, q1, q2, q3, q4, f0, f1, f2, f3, f4, qs⟩ := boxf HB5.out
  clear hMn HB5 HR5 c5
  go_wp2_with fail
  rw [show ((((w5.setCell ⟨w.heap.size, 0, none⟩ (.slice gS M.slots.length kS)).setCell ⟨w.heap.size, 1, none⟩ (.slice gH M.heads.length kH)).setCell ⟨w.heap.size, 2, none⟩ (.slice gF M.free.length kF)).setCell ⟨w.heap.size, 3, none⟩ (.slice gL M.locks.length kL)).setCell ⟨w.heap.size, 4, none⟩ (.int .i64 M.now) = set5 w5 w.heap.size (.slice gS M.slots.length kS) (.slice gH M.heads.length kH) (.slice gF M.free.length kF) (.slice gL M.locks.length kL) (.int .i64 M.now) from rfl]
  clear q0 q1 q2 q3 q4 f0 f1 f2 f3 f4 qs b5
  generalize set5 w5 w.heap.size (.slice gS M.slots.length kS) (.slice gH M.heads.length kH) (.slice gF M.free.length kF) (.slice gL M.locks.length kL) (.int .i64 M.now) = W6 at *
  refine (link_now M W6 _ _ gS gH gF gL kS kH kF kL j cb HMn.out hok hj hob).mono ?_
  rintro e w7 ⟨rfl, aS', aH', aF', aL', cS', cH', cF', cL', m7, kept⟩
  have k7 := m7.box
  have HC7 : Hid (Rw w7 w4.heap.size aS' aH' aF' aL' cS' cH' cF' cL' (linkAt M j cb)) := m7.c
  clear m7
  have b7 : Below w.heap.size w w7 := b6.trans ⟨kept.os, kept.tape, kept.output, kept.size, fun k hk => kept.block k (by omega) (by omega)⟩
  have HR7 : Hid (w7.heap[w.heap.size + 1]? = _) := (kept.block (w.heap.size + 1) t4 (by omega)).trans HR6.out
  have HK7 : Hid _ := k7
  clear kept HR6 HMn b6 k7
  obtain ⟨r0, r1, r2, r3, r4, g0, g1, g2, g3, g4, rs⟩ := boxf HR7.out
  obtain ⟨q0, q1, q2, q3, q4, f0, f1, f2, f3, f4, qs⟩ := boxf HK7.out
  generalize hLM : linkAt M j cb = Mn at *
  clear hLM
  go_wp2
  refine bodyPost_ret (v := .tuple #[.agg #[.slice aS' Mn.slots.length cS', .slice aH' Mn.heads.length cH', .slice aF' Mn.free.length cF', .slice aL' Mn.locks.length cL', .int .i64 Mn.now], .int .i64 0]) (by simp [results, Try.results21, go_sem, r0, r1, r2, r3, r4]) rfl ⟨_, rfl, ?_, ?_⟩
  · rw [HV.out.2]
    obtain ⟨x1, x2, x3, x4, x5, x6, x7, x8⟩ := HC7.out.set5 HR7.out (.slice aS' Mn.slots.length cS') (.slice aH' Mn.heads.length cH') (.slice aF' Mn.free.length cF') (.slice aL' Mn.locks.length cL') (.int .i64 Mn.now)
    exact ⟨aS', aH', aF', aL', cS', cH', cF', cL', rfl, ⟨ownsRow_le x1 b4s, ownsRow_le x2 b4s, ownsRow_le x3 b4s, ownsRow_le x4 b4s, x5, x6, x7, Nat.le_trans b4s x8⟩⟩
  · exact b7.trans (set5_below w7 _ _ _ _ _ _ _ (by omega))



end Go.Proofs.Ytdbilofhcadmoab.mm

/- The contract of chain.Linked. -/
namespace Go.Proofs.Ytdbilofhcadmoab.mm
open Go.ChangeShapes Go.WideShapes Go.ChangeAt Go.RowKit Go.Joins Go.Maps
set_option maxRecDepth 100000
set_option linter.unusedVariables false

set_option maxHeartbeats 6400000 in
theorem linked_any (M : Mm) (aS aH aF aL : Option Addr) (cS cH cF cL : Nat) (a : Int) (w : World) (A : At w aS aH aF aL cS cH cF cL M) :
    Calls Try.prog 21 #[.agg #[.slice aS M.slots.length cS, .slice aH M.heads.length cH, .slice aF M.free.length cF, .slice aL M.locks.length cL, .int .i64 M.now], .int .i64 a] w fun e w' => ∃ v, e = .returned (.tuple #[v, .int .i64 (linkE M a)]) ∧ Ans w.heap.size w' v (linkedM M a) ∧ Below w.heap.size w w' := by
  have m1 := A.s.max; have m2 := A.h.max; have m4 := A.l.max
  have n1 : M.slots.length ≤ 9223372036854775807 := by omega
  obtain ⟨E0, hE0⟩ : ∃ E0, E0 = linkE M a := ⟨_, rfl⟩
  obtain ⟨M1, hM1⟩ : ∃ M1, M1 = linkedM M a := ⟨_, rfl⟩
  rw [← hE0, ← hM1]
  have HE0 : Hid (E0 = linkE M a) := hE0
  have HM1 : Hid (M1 = linkedM M a) := hM1
  clear hE0 hM1
  have bad : ∀ e : Int, e ≠ 0 → linkE M a = e → E0 = e ∧ M1 = m0 := fun e he h => ⟨HE0.out.trans h, HM1.out.trans (by unfold linkedM; rw [h, if_neg he])⟩
  have HBad : Hid _ := bad
  clear bad
  obtain ⟨o1, ho1⟩ : ∃ o : Obj, o = .cells #[.slice aS M.slots.length cS, .slice aH M.heads.length cH, .slice aF M.free.length cF, .slice aL M.locks.length cL, .int .i64 M.now] 25 := ⟨_, rfl⟩
  obtain ⟨o2, ho2⟩ : ∃ o : Obj, o = .cells #[.slice none 0 0, .slice none 0 0, .slice none 0 0, .slice none 0 0, .int .i64 0] 25 := ⟨_, rfl⟩
  have b0 : Below w.heap.size w ((w.alloc o1).alloc o2) := below_alloc2 w o1 o2
  have HB0 : Hid (((w.alloc o1).alloc o2).heap[w.heap.size]? = some o1) := by show _ = _; rw [Below.heap_alloc _ _ _ (by simp), heap_alloc_new]
  have HR0 : Hid (((w.alloc o1).alloc o2).heap[w.heap.size + 1]? = some o2) := by
    have := heap_alloc_new (w.alloc o1) o2
    rwa [show (w.alloc o1).heap.size = w.heap.size + 1 by simp] at this
  have HZ0 : Hid (((w.alloc o1).alloc o2).heap.size = w.heap.size + 2) := by show _ = _; simp
  have HA : Hid (At w aS aH aF aL cS cH cF cL M) := A
  have HA0 : Hid _ := A.below b0
  clear A
  go_enter Try.func21, Try.ntmps21
  go_wp2_with fail
  rw [← ho1, ← ho2]
  generalize (w.alloc o1).alloc o2 = W0 at *
  subst ho1 ho2
  refine (mapped_any M aS aH aF aL cS cH cF cL W0 HA0.out).mono ?_
  rintro e w1 ⟨vm, rfl, hmap, hb1⟩
  have b1 := b0.trans (hb1.mono b0.size)
  have HB1 : Hid (w1.heap[w.heap.size]? = _) := (hb1.block w.heap.size (lt_of_block HB0.out)).trans HB0.out
  have HR1 : Hid (w1.heap[w.heap.size + 1]? = _) := (hb1.block (w.heap.size + 1) (lt_of_block HR0.out)).trans HR0.out
  have HMap : Hid (MapIs M (chkC M) W0.heap.size w1 vm) := hmap
  clear hb1 b0 HB0 HR0 HA0 hmap
  by_cases hE : chkC M = 0
  rotate_left
  · have HV : Hid (E0 = chkC M ∧ M1 = m0) := HBad.out _ hE (by unfold linkE; rw [if_pos hE])
    have h' : (chkC M != 0) = true := by simpa using hE
    obtain ⟨r0, r1, r2, r3, r4, g0, g1, g2, g3, g4, rs⟩ := boxf HR1.out
    clear HB1 HR1 HMap
    generalize chkC M = E at *
    go_wp2
    refine bodyPost_ret (v := .tuple #[.agg #[.slice none 0 0, .slice none 0 0, .slice none 0 0, .slice none 0 0, .int .i64 0], .int .i64 E]) (by simp [results, Try.results21, go_sem, r0, r1, r2, r3, r4]) rfl ⟨_, by rw [HV.out.1], by rw [HV.out.2]; exact ans0 _ _, ?_⟩
    exact b1.trans (set5_below w1 _ _ _ _ _ _ _ (by omega))
  have HC : Hid (chkC M = 0) := hE
  have hokc := (chkC_zero M).1 hE
  have hok := hokc.ok
  have k0 := hok.ns
  have k1 := hok.nh
  obtain ⟨gm, rfl, hgm, hMA⟩ := HMap.out.2 hE
  have HMA : Hid (MapAt M w1 gm (allC M)) := hMA
  have lgm := hMA.lt
  rw [hE]
  clear hE hMA HMap
  obtain ⟨q0, q1, q2, q3, q4, f0, f1, f2, f3, f4, qs⟩ := boxf HB1.out
  clear f0 f1 f2 f3 f4
  go_wp2_with fail
  refine (isSlot_any aS aH aF aL _ _ _ _ cS cH cF cL _ _ w1 n1).mono ?_
  rintro e w2 ⟨rfl, hb2⟩
  have b2 := b1.trans (hb2.mono b1.size)
  have HB2 : Hid (w2.heap[w.heap.size]? = _) := (hb2.block w.heap.size qs).trans HB1.out
  have HR2 : Hid (w2.heap[w.heap.size + 1]? = _) := (hb2.block (w.heap.size + 1) (lt_of_block HR1.out)).trans HR1.out
  have HM2 : Hid (MapAt M w2 gm (allC M)) := MapAt.kept HMA.out (hb2.block gm lgm)
  clear hb2 b1 HB1 HR1 HMA q0 q1 q2 q3 q4 qs lgm
  cases hS : inB a 0 ((M.slots.length : Int) - 1)
  · have HV : Hid (E0 = 5 ∧ M1 = m0) := HBad.out 5 (by decide) (by unfold linkE; rw [if_neg (by simpa using HC.out), if_pos (show isSl M a = false from hS)])
    obtain ⟨r0, r1, r2, r3, r4, g0, g1, g2, g3, g4, rs⟩ := boxf HR2.out
    clear HB2 HR2 HM2
    go_wp2
    refine bodyPost_ret (v := .tuple #[.agg #[.slice none 0 0, .slice none 0 0, .slice none 0 0, .slice none 0 0, .int .i64 0], .int .i64 5]) (by simp [results, Try.results21, go_sem, r0, r1, r2, r3, r4]) rfl ⟨_, by rw [HV.out.1], by rw [HV.out.2]; exact ans0 _ _, ?_⟩
    exact b2.trans (set5_below w2 _ _ _ _ _ _ _ (by omega))
  have HS : Hid (isSl M a = true) := hS
  obtain ⟨j, rfl, hj⟩ := (isSl_iff M a).1 hS
  clear hS
  have HA2 : Hid _ := HA.out.below b2
  rcases HA2.out.s.at_ with h0 | ⟨bs, os, rfl, hcs⟩
  · omega
  obtain ⟨s0, s1, s2, s3, s4, s5⟩ := hcs j hj
  have ls := cell_lt s0
  have hgood := slot_good (hok.slot _ (List.getElem_mem hj))
  have hsl : slotAt M j = M.slots[j] := slotAt_lt hj
  generalize hM : M.slots[j] = s at s0 s1 s2 s3 s4 s5 hsl hgood
  obtain ⟨r, ka, kb, u, i, nx⟩ := s
  dsimp only at s0 s1 s2 s3 s4 s5 hgood
  have HSL : Hid (slotAt M j = ⟨r, ka, kb, u, i, nx⟩) := hsl
  have HRf : Hid (refsM M j = r) := by show (slotAt M j).refs = r; rw [hsl]
  have HKy : Hid (keyAt M j = (ka, kb)) := by unfold keyAt; rw [hsl]; exact rfl
  have hkey := hgood.2.2.1
  have HK : Hid (keyB ka kb = true) := hkey
  clear hM hsl hcs hgood hkey
  obtain ⟨q0, q1, q2, q3, q4, f0, f1, f2, f3, f4, qs⟩ := boxf HB2.out
  obtain ⟨r0, r1, r2, r3, r4, g0, g1, g2, g3, g4, rs⟩ := boxf HR2.out
  clear f0 f1 f2 f3 f4
  by_cases hr : r = 0
  · subst hr
    have HV : Hid (E0 = 8 ∧ M1 = m0) := HBad.out 8 (by decide) (by unfold linkE; rw [if_neg (by simpa using HC.out), if_neg (by rw [HS.out]; simp), if_pos HRf.out])
    clear HB2 HR2 HM2
    go_wp2
    refine bodyPost_ret (v := .tuple #[.agg #[.slice none 0 0, .slice none 0 0, .slice none 0 0, .slice none 0 0, .int .i64 0], .int .i64 8]) (by simp [results, Try.results21, go_sem, r0, r1, r2, r3, r4, rs]) rfl ⟨_, by rw [HV.out.1], by rw [HV.out.2]; exact ans0 _ _, ?_⟩
    exact (b2.trans (set5_below w2 _ _ _ _ _ _ _ (by omega))).alloc (by rw [set5_size]; exact b2.size) _
  have hr' : (r == 0) = false := by simpa using hr
  have HRn : Hid (refsM M j ≠ 0) := by rw [HRf.out]; exact hr
  have b2s := b2.size
  have lgm2 := MapAt.lt HM2.out
  have hl := MapAt.look (MapAt.kept (w' := w2.alloc (.cells #[.int .i64 r, .int .i64 ka, .int .i64 kb, .int .i64 u, .bool i, .int .i64 nx] 39)) HM2.out (Below.heap_alloc _ _ _ lgm2)) HK.out
  cases hh : hasK M (allC M) (ka, kb)
  rotate_left
  · rw [hh] at hl
    have HV : Hid (E0 = 6 ∧ M1 = m0) := HBad.out 6 (by decide) (by unfold linkE; rw [if_neg (by simpa using HC.out), if_neg (by rw [HS.out]; simp), if_neg HRn.out, HKy.out, hh]; rfl)
    clear HB2 HR2 HM2
    go_wp2
    refine bodyPost_ret (v := .tuple #[.agg #[.slice none 0 0, .slice none 0 0, .slice none 0 0, .slice none 0 0, .int .i64 0], .int .i64 6]) (by simp [results, Try.results21, go_sem, r0, r1, r2, r3, r4, rs]) rfl ⟨_, by rw [HV.out.1], by rw [HV.out.2]; exact ans0 _ _, ?_⟩
    exact (b2.trans (set5_below w2 _ _ _ _ _ _ _ (by omega))).alloc (by rw [set5_size]; exact b2.size) _
  rw [hh] at hl
  have HV : Hid (E0 = 0 ∧ M1 = linkAt M j (ownB M j)) := by
    have : linkE M j = 0 := linkE_of hokc HS.out HRn.out (by rw [HKy.out]; exact hh)
    exact ⟨HE0.out.trans this, HM1.out.trans (by unfold linkedM; rw [this, if_pos rfl]; rfl)⟩
  have HBk : Hid (bucket ka kb M.heads.length = (ownB M j : Int)) := by
    show _ = _
    rw [ownB_eq hok j, HSL.out]
  have hob := ownB_lt hok j
  clear HE0 HM1 HBad hh HRn HKy HRf HSL
  obtain ⟨o5, ho5⟩ : ∃ o : Obj, o = .cells #[.int .i64 r, .int .i64 ka, .int .i64 kb, .int .i64 u, .bool i, .int .i64 nx] 39 := ⟨_, rfl⟩
  have b3 := b2.alloc b2.size o5
  have HB3 : Hid ((w2.alloc o5).heap[w.heap.size]? = _) := (Below.heap_alloc _ _ _ qs).trans HB2.out
  have HR3 : Hid ((w2.alloc o5).heap[w.heap.size + 1]? = _) := (Below.heap_alloc _ _ _ rs).trans HR2.out
  clear g0 g1 g2 g3 g4
  go_wp2_with fail
  rw [← ho5]
  rw [← ho5] at hl
  generalize w2.alloc o5 = W3 at *
  subst ho5
  clear hl HB2 HR2 HM2 b2 q0 q1 q2 q3 q4 r0 r1 r2 r3 r4 qs rs s0 s1 s2 s3 s4 s5
  refine (bucket_ok _ _ _ _ HK.out k1.1 k1.2).mono ?_
  rintro e w4 ⟨rfl, hb4⟩
  rw [HBk.out]
  have b4 := b3.trans (hb4.mono b3.size)
  have HB4 : Hid (w4.heap[w.heap.size]? = _) := (hb4.block w.heap.size (lt_of_block HB3.out)).trans HB3.out
  have HR4 : Hid (w4.heap[w.heap.size + 1]? = _) := (hb4.block (w.heap.size + 1) (lt_of_block HR3.out)).trans HR3.out
  have HA4 : Hid _ := HA.out.below b4
  clear hb4 b3 HB3 HR3
  generalize hcb : ownB M j = cb at *
  clear hcb
  obtain ⟨q0, q1, q2, q3, q4, f0, f1, f2, f3, f4, qs⟩ := boxf HB4.out
  go_wp2_with fail
  refine (copy_any M _ aH aF aL cS cH cF cL w4 HA4.out).mono ?_
  rintro e w5 ⟨gS, gH, gF, gL, kS, kH, kF, kL, rfl, c5, hb5⟩
  have b5 := b4.trans (hb5.mono b4.size)
  have HB5 : Hid (w5.heap[w.heap.size]? = _) := (hb5.block w.heap.size qs).trans HB4.out
  have HR5 : Hid (w5.heap[w.heap.size + 1]? = _) := (hb5.block (w.heap.size + 1) (lt_of_block HR4.out)).trans HR4.out
  have t4 := lt_of_block HR4.out
  have b4s := b4.size
  clear hb5 b4 HB4 HR4 HA4 q0 q1 q2 q3 q4 f0 f1 f2 f3 f4
  have m3 := hok.few
  have hMn : Mine (set5 w5 w.heap.size (.slice gS M.slots.length kS) (.slice gH M.heads.length kH) (.slice gF M.free.length kF) (.slice gL M.locks.length kL) (.int .i64 M.now)) w.heap.size w4.heap.size gS gH gF gL kS kH kF kL M :=
    ⟨set5_block HB5.out _ _ _ _ _, c5.set5 HB5.out _ _ _ _ _, m1, m2, by omega, m4⟩
  have b6 := b5.trans (set5_below w5 w.heap.size w.heap.size (.slice gS M.slots.length kS) (.slice gH M.heads.length kH) (.slice gF M.free.length kF) (.slice gL M.locks.length kL) (.int .i64 M.now) (Nat.le_refl _))
  have HR6 : Hid ((set5 w5 w.heap.size (.slice gS M.slots.length kS) (.slice gH M.heads.length kH) (.slice gF M.free.length kF) (.slice gL M.locks.length kL) (.int .i64 M.now)).heap[w.heap.size + 1]? = _) := (set5_other (by omega)).trans HR5.out
  have HMn : Hid _ := hMn
  obtain ⟨q0, q1, q2, q3, q4, f0, f1, f2, f3, f4, qs⟩ := boxf HB5.out
  clear hMn HB5 HR5 c5
  go_wp2_with fail
  rw [show ((((w5.setCell ⟨w.heap.size, 0, none⟩ (.slice gS M.slots.length kS)).setCell ⟨w.heap.size, 1, none⟩ (.slice gH M.heads.length kH)).setCell ⟨w.heap.size, 2, none⟩ (.slice gF M.free.length kF)).setCell ⟨w.heap.size, 3, none⟩ (.slice gL M.locks.length kL)).setCell ⟨w.heap.size, 4, none⟩ (.int .i64 M.now) = set5 w5 w.heap.size (.slice gS M.slots.length kS) (.slice gH M.heads.length kH) (.slice gF M.free.length kF) (.slice gL M.locks.length kL) (.int .i64 M.now) from rfl]
  clear q0 q1 q2 q3 q4 f0 f1 f2 f3 f4 qs b5
  generalize set5 w5 w.heap.size (.slice gS M.slots.length kS) (.slice gH M.heads.length kH) (.slice gF M.free.length kF) (.slice gL M.locks.length kL) (.int .i64 M.now) = W6 at *
  refine (link_any M W6 _ _ gS gH gF gL kS kH kF kL j cb HMn.out hok hj hob).mono ?_
  rintro e w7 ⟨rfl, aS', aH', aF', aL', cS', cH', cF', cL', k7, A7, kept, hi7⟩
  have b7 : Below w.heap.size w w7 := b6.trans ⟨kept.os, kept.tape, kept.output, kept.size, fun k hk => kept.block k (by omega) (by omega)⟩
  have HR7 : Hid (w7.heap[w.heap.size + 1]? = _) := (kept.block (w.heap.size + 1) t4 (by omega)).trans HR6.out
  have HA7 : Hid _ := A7
  have HK7 : Hid _ := k7
  clear A7 kept HR6 HMn b6 k7
  obtain ⟨r0, r1, r2, r3, r4, g0, g1, g2, g3, g4, rs⟩ := boxf HR7.out
  obtain ⟨q0, q1, q2, q3, q4, f0, f1, f2, f3, f4, qs⟩ := boxf HK7.out
  generalize hLM : linkAt M j cb = Mn at *
  clear hLM
  go_wp2
  refine bodyPost_ret (v := .tuple #[.agg #[.slice aS' Mn.slots.length cS', .slice aH' Mn.heads.length cH', .slice aF' Mn.free.length cF', .slice aL' Mn.locks.length cL', .int .i64 Mn.now], .int .i64 0]) (by simp [results, Try.results21, go_sem, r0, r1, r2, r3, r4]) rfl ⟨_, by rw [HV.out.1], ?_, ?_⟩
  · rw [HV.out.2]
    have A8 := HA7.out.off hi7 t4 (fun k hk => set5_other (w := w7) (v0 := .slice aS' Mn.slots.length cS') (v1 := .slice aH' Mn.heads.length cH') (v2 := .slice aF' Mn.free.length cF') (v3 := .slice aL' Mn.locks.length cL') (v4 := .int .i64 Mn.now) hk)
    exact ⟨aS', aH', aF', aL', cS', cH', cF', cL', rfl, A8, hi7.mono b4s⟩
  · exact b7.trans (set5_below w7 _ _ _ _ _ _ _ (by omega))



end Go.Proofs.Ytdbilofhcadmoab.mm

/- The contract of chain.Without. -/
namespace Go.Proofs.Ytdbilofhcadmoab.mm
open Go.ChangeShapes Go.WideShapes Go.ChangeAt Go.RowKit Go.Joins Go.Maps
set_option maxRecDepth 100000
set_option linter.unusedVariables false

theorem aheadF_le {a N : Int} : ∀ (l : List Int) (ah la : Int), (∀ x ∈ l, x < N) → ah ≤ N → la ≤ N → aheadF a l ah la ≤ N
  | [], ah, la, _, h1, _ => h1
  | c :: l, ah, la, h, h1, h2 => by
    have hc := h c (by simp)
    simp only [aheadF]
    refine aheadF_le l _ _ (fun x hx => h x (by simp [hx])) ?_ (by omega)
    split
    · exact h2
    · exact h1

set_option maxHeartbeats 6400000 in
theorem without_any (M : Mm) (aS aH aF aL : Option Addr) (cS cH cF cL : Nat) (ka kb : Int) (w : World) (A : At w aS aH aF aL cS cH cF cL M) :
    Calls Try.prog 71 #[.agg #[.slice aS M.slots.length cS, .slice aH M.heads.length cH, .slice aF M.free.length cF, .slice aL M.locks.length cL, .int .i64 M.now], .agg #[.int .i64 ka, .int .i64 kb]] w fun e w' => ∃ v, e = .returned (.tuple #[v, .int .i64 (withoutN M ka kb), .int .i64 (withoutE M ka kb)]) ∧ Ans w.heap.size w' v (withoutM M ka kb) ∧ Below w.heap.size w w' := by
  have m1 := A.s.max; have m2 := A.h.max; have m4 := A.l.max
  obtain ⟨E0, hE0⟩ : ∃ E0, E0 = withoutE M ka kb := ⟨_, rfl⟩
  obtain ⟨N0, hN0⟩ : ∃ N0, N0 = withoutN M ka kb := ⟨_, rfl⟩
  obtain ⟨M1, hM1⟩ : ∃ M1, M1 = withoutM M ka kb := ⟨_, rfl⟩
  rw [← hE0, ← hM1, ← hN0]
  have HE0 : Hid (E0 = withoutE M ka kb) := hE0
  have HN0 : Hid (N0 = withoutN M ka kb) := hN0
  have HM1 : Hid (M1 = withoutM M ka kb) := hM1
  clear hE0 hM1 hN0
  have bad : ∀ e : Int, e ≠ 0 → withoutE M ka kb = e → E0 = e ∧ M1 = m0 ∧ N0 = 0 := fun e he h => ⟨HE0.out.trans h, HM1.out.trans (by unfold withoutM; rw [h, if_neg he]), HN0.out.trans (by unfold withoutN; rw [h, if_neg he])⟩
  have HBad : Hid _ := bad
  clear bad
  obtain ⟨o1, ho1⟩ : ∃ o : Obj, o = .cells #[.slice aS M.slots.length cS, .slice aH M.heads.length cH, .slice aF M.free.length cF, .slice aL M.locks.length cL, .int .i64 M.now] 25 := ⟨_, rfl⟩
  obtain ⟨o3, ho3⟩ : ∃ o : Obj, o = .cells #[.int .i64 ka, .int .i64 kb] 37 := ⟨_, rfl⟩
  obtain ⟨o2, ho2⟩ : ∃ o : Obj, o = .cells #[.slice none 0 0, .slice none 0 0, .slice none 0 0, .slice none 0 0, .int .i64 0] 25 := ⟨_, rfl⟩
  have b0 : Below w.heap.size w (((w.alloc o1).alloc o3).alloc o2) := (below_alloc2 w o1 o3).alloc (by simp; omega) o2
  have HB0 : Hid ((((w.alloc o1).alloc o3).alloc o2).heap[w.heap.size]? = some o1) := by show _ = _; rw [Below.heap_alloc _ _ _ (by simp; omega), Below.heap_alloc _ _ _ (by simp), heap_alloc_new]
  have HK0 : Hid ((((w.alloc o1).alloc o3).alloc o2).heap[w.heap.size + 1]? = some o3) := by
    show _ = _
    rw [Below.heap_alloc _ _ _ (by simp)]
    have := heap_alloc_new (w.alloc o1) o3
    rwa [show (w.alloc o1).heap.size = w.heap.size + 1 by simp] at this
  have HR0 : Hid ((((w.alloc o1).alloc o3).alloc o2).heap[w.heap.size + 2]? = some o2) := by
    have := heap_alloc_new ((w.alloc o1).alloc o3) o2
    rwa [show ((w.alloc o1).alloc o3).heap.size = w.heap.size + 2 by simp] at this
  have HZ0 : Hid ((((w.alloc o1).alloc o3).alloc o2).heap.size = w.heap.size + 3) := by show _ = _; simp
  have HA : Hid (At w aS aH aF aL cS cH cF cL M) := A
  have HA0 : Hid _ := A.below b0
  clear A
  go_enter Try.func71, Try.ntmps71
  go_wp2_with fail
  rw [← ho1, ← ho2, ← ho3]
  generalize ((w.alloc o1).alloc o3).alloc o2 = W0 at *
  subst ho1 ho2 ho3
  refine (mapped_any M aS aH aF aL cS cH cF cL W0 HA0.out).mono ?_
  rintro e w1 ⟨vm, rfl, hmap, hb1⟩
  have b1 := b0.trans (hb1.mono b0.size)
  have HB1 : Hid (w1.heap[w.heap.size]? = _) := (hb1.block w.heap.size (lt_of_block HB0.out)).trans HB0.out
  have HK1 : Hid (w1.heap[w.heap.size + 1]? = _) := (hb1.block (w.heap.size + 1) (lt_of_block HK0.out)).trans HK0.out
  have HR1 : Hid (w1.heap[w.heap.size + 2]? = _) := (hb1.block (w.heap.size + 2) (lt_of_block HR0.out)).trans HR0.out
  have HMap : Hid (MapIs M (chkC M) W0.heap.size w1 vm) := hmap
  clear hb1 b0 HB0 HR0 HA0 hmap HK0
  by_cases hE : chkC M = 0
  rotate_left
  · have HV : Hid (E0 = chkC M ∧ M1 = m0 ∧ N0 = 0) := HBad.out _ hE (by unfold withoutE; rw [if_pos hE])
    have h' : (chkC M != 0) = true := by simpa using hE
    obtain ⟨r0, r1, r2, r3, r4, g0, g1, g2, g3, g4, rs⟩ := boxf HR1.out
    clear HB1 HR1 HMap HK1
    generalize chkC M = E at *
    go_wp2
    refine bodyPost_ret (v := .tuple #[.agg #[.slice none 0 0, .slice none 0 0, .slice none 0 0, .slice none 0 0, .int .i64 0], .int .i64 0, .int .i64 E]) (by simp [results, Try.results71, go_sem, r0, r1, r2, r3, r4]) rfl ⟨_, by rw [HV.out.1, HV.out.2.2], by rw [HV.out.2.1]; exact ans0 _ _, ?_⟩
    exact b1.trans (set5_below w1 _ _ _ _ _ _ _ (by omega))
  have HC : Hid (chkC M = 0) := hE
  have hokc := (chkC_zero M).1 hE
  have hok := hokc.ok
  have n0 := hok.ns
  have n1 := hok.nh
  obtain ⟨gm, rfl, hgm, hMA⟩ := HMap.out.2 hE
  have HMA : Hid (MapAt M w1 gm (allC M)) := hMA
  have lgm := hMA.lt
  rw [hE]
  clear hE hMA HMap
  obtain ⟨q0, q1, q2, q3, q4, f0, f1, f2, f3, f4, qs⟩ := boxf HB1.out
  obtain ⟨p0, p1⟩ := keyf HK1.out
  clear f0 f1 f2 f3 f4
  cases hK : keyB ka kb
  · have HV : Hid (E0 = 3 ∧ M1 = m0 ∧ N0 = 0) := HBad.out 3 (by decide) (by unfold withoutE; rw [if_neg (by simpa using HC.out), if_pos hK])
    go_wp2_with fail
    refine (bucket_bad _ _ _ _ hK).mono ?_
    rintro e w2 ⟨rfl, hb2⟩
    have b2 := b1.trans (hb2.mono b1.size)
    have HR2 : Hid (w2.heap[w.heap.size + 2]? = _) := (hb2.block (w.heap.size + 2) (lt_of_block HR1.out)).trans HR1.out
    obtain ⟨r0, r1, r2, r3, r4, g0, g1, g2, g3, g4, rs⟩ := boxf HR2.out
    clear HB1 HR1 HR2 HMA HK1 q0 q1 q2 q3 q4 qs b1 hb2
    go_wp2
    refine bodyPost_ret (v := .tuple #[.agg #[.slice none 0 0, .slice none 0 0, .slice none 0 0, .slice none 0 0, .int .i64 0], .int .i64 0, .int .i64 3]) (by simp [results, Try.results71, go_sem, r0, r1, r2, r3, r4]) rfl ⟨_, by rw [HV.out.1, HV.out.2.2], by rw [HV.out.2.1]; exact ans0 _ _, ?_⟩
    exact b2.trans (set5_below w2 _ _ _ _ _ _ _ (by omega))
  have HK : Hid (keyB ka kb = true) := hK
  have hbi := bucket_in ka kb n1.1
  have HBk : Hid (bucket ka kb M.heads.length = (keyN M ka kb : Int)) := by
    show _ = _
    unfold keyN; omega
  have hob : keyN M ka kb < M.heads.length := by unfold keyN; omega
  clear hK hbi
  go_wp2_with fail
  refine (bucket_ok _ _ _ _ HK.out n1.1 n1.2).mono ?_
  rw [HBk.out]
  rintro e w2 ⟨rfl, hb2⟩
  have b2 := b1.trans (hb2.mono b1.size)
  have HB2 : Hid (w2.heap[w.heap.size]? = _) := (hb2.block w.heap.size qs).trans HB1.out
  have HK2 : Hid (w2.heap[w.heap.size + 1]? = _) := (hb2.block (w.heap.size + 1) (lt_of_block HK1.out)).trans HK1.out
  have HR2 : Hid (w2.heap[w.heap.size + 2]? = _) := (hb2.block (w.heap.size + 2) (lt_of_block HR1.out)).trans HR1.out
  have HM2 : Hid (MapAt M w2 gm (allC M)) := MapAt.kept HMA.out (hb2.block gm lgm)
  clear hb2 b1 HB1 HR1 HMA HK1 q0 q1 q2 q3 q4 qs lgm p0 p1
  obtain ⟨p0, p1⟩ := keyf HK2.out
  obtain ⟨r0, r1, r2, r3, r4, g0, g1, g2, g3, g4, rs⟩ := boxf HR2.out
  have hl := MapAt.look HM2.out HK.out
  cases hh : hasK M (allC M) (ka, kb)
  · rw [hh] at hl
    have HV : Hid (E0 = 5 ∧ M1 = m0 ∧ N0 = 0) := HBad.out 5 (by decide) (by unfold withoutE; rw [if_neg (by simpa using HC.out), if_neg (by rw [HK.out]; simp), if_pos hh])
    clear HB2 HR2 HM2 HK2
    generalize whoK M (allC M) (ka, kb) = wk at *
    go_wp2
    refine bodyPost_ret (v := .tuple #[.agg #[.slice none 0 0, .slice none 0 0, .slice none 0 0, .slice none 0 0, .int .i64 0], .int .i64 0, .int .i64 5]) (by simp [results, Try.results71, go_sem, r0, r1, r2, r3, r4]) rfl ⟨_, by rw [HV.out.1, HV.out.2.2], by rw [HV.out.2.1]; exact ans0 _ _, ?_⟩
    exact b2.trans (set5_below w2 _ _ _ _ _ _ _ (by omega))
  rw [hh] at hl
  have HV : Hid (E0 = 0 ∧ M1 = cutK M ka kb ∧ N0 = whoK M (allC M) (ka, kb)) := by
    have h : withoutE M ka kb = 0 := by unfold withoutE; rw [if_neg (by simpa using HC.out), if_neg (by rw [HK.out]; simp), if_neg (by rw [hh]; simp)]
    exact ⟨HE0.out.trans h, HM1.out.trans (by unfold withoutM; rw [h, if_pos rfl]), HN0.out.trans (by unfold withoutN; rw [h, if_pos rfl])⟩
  have hwho := hokc.allSlots _ (whoK_mem hh).1
  have hah : aheadF (whoK M (allC M) (ka, kb)) (chL M (keyN M ka kb)) 0 0 ≤ M.slots.length := aheadF_le _ _ _ (fun x hx => (hok.chIn hob x hx).2) (by omega) (by omega)
  have HCK : Hid (cutK M ka kb = cutM M (keyN M ka kb) (aheadF (whoK M (allC M) (ka, kb)) (chL M (keyN M ka kb)) 0 0) (whoK M (allC M) (ka, kb))) := rfl
  obtain ⟨j, hjw⟩ : ∃ j : Nat, whoK M (allC M) (ka, kb) = j := ⟨(whoK M (allC M) (ka, kb)).toNat, by omega⟩
  rw [hjw] at hl hwho hah HV HCK
  have hj : j < M.slots.length := by omega
  clear hjw HE0 HM1 HN0 HBad hh hwho
  generalize hcb : keyN M ka kb = cb at *
  clear hcb
  obtain ⟨q0, q1, q2, q3, q4, f0, f1, f2, f3, f4, qs⟩ := boxf HB2.out
  have HA2 : Hid _ := HA.out.below b2
  clear g0 g1 g2 g3 g4
  go_wp2_with fail
  clear hl HM2 p0 p1 r0 r1 r2 r3 r4
  refine (copy_any M aS aH aF aL cS cH cF cL w2 HA2.out).mono ?_
  rintro e w5 ⟨gS, gH, gF, gL, kS, kH, kF, kL, rfl, c5, hb5⟩
  have b5 := b2.trans (hb5.mono b2.size)
  have HB5 : Hid (w5.heap[w.heap.size]? = _) := (hb5.block w.heap.size qs).trans HB2.out
  have HR5 : Hid (w5.heap[w.heap.size + 2]? = _) := (hb5.block (w.heap.size + 2) rs).trans HR2.out
  have t2 := rs
  have b2s := b2.size
  clear hb5 b2 HB2 HR2 HA2 HK2 q0 q1 q2 q3 q4 f0 f1 f2 f3 f4 qs rs
  have m3 := hok.few
  have hMn : Mine (set5 w5 w.heap.size (.slice gS M.slots.length kS) (.slice gH M.heads.length kH) (.slice gF M.free.length kF) (.slice gL M.locks.length kL) (.int .i64 M.now)) w.heap.size w2.heap.size gS gH gF gL kS kH kF kL M :=
    ⟨set5_block HB5.out _ _ _ _ _, c5.set5 HB5.out _ _ _ _ _, m1, m2, by omega, m4⟩
  have b6 := b5.trans (set5_below w5 w.heap.size w.heap.size (.slice gS M.slots.length kS) (.slice gH M.heads.length kH) (.slice gF M.free.length kF) (.slice gL M.locks.length kL) (.int .i64 M.now) (Nat.le_refl _))
  have HR6 : Hid ((set5 w5 w.heap.size (.slice gS M.slots.length kS) (.slice gH M.heads.length kH) (.slice gF M.free.length kF) (.slice gL M.locks.length kL) (.int .i64 M.now)).heap[w.heap.size + 2]? = _) := (set5_other (by omega)).trans HR5.out
  have HMn : Hid _ := hMn
  obtain ⟨q0, q1, q2, q3, q4, f0, f1, f2, f3, f4, qs⟩ := boxf HB5.out
  clear hMn HB5 HR5 c5
  go_wp2_with fail
  rw [show ((((w5.setCell ⟨w.heap.size, 0, none⟩ (.slice gS M.slots.length kS)).setCell ⟨w.heap.size, 1, none⟩ (.slice gH M.heads.length kH)).setCell ⟨w.heap.size, 2, none⟩ (.slice gF M.free.length kF)).setCell ⟨w.heap.size, 3, none⟩ (.slice gL M.locks.length kL)).setCell ⟨w.heap.size, 4, none⟩ (.int .i64 M.now) = set5 w5 w.heap.size (.slice gS M.slots.length kS) (.slice gH M.heads.length kH) (.slice gF M.free.length kF) (.slice gL M.locks.length kL) (.int .i64 M.now) from rfl]
  clear q0 q1 q2 q3 q4 f0 f1 f2 f3 f4 qs b5
  generalize set5 w5 w.heap.size (.slice gS M.slots.length kS) (.slice gH M.heads.length kH) (.slice gF M.free.length kF) (.slice gL M.locks.length kL) (.int .i64 M.now) = W6 at *
  have A6 : At W6 gS gH gF gL kS kH kF kL M := HMn.out.at
  refine (aheadOf_any M _ _ _ _ _ _ _ _ cb j W6 A6 hok hob).mono ?_
  rintro e w7 ⟨rfl, hb7⟩
  have hMi : Mine w7 w.heap.size w2.heap.size gS gH gF gL kS kH kF kL M := HMn.out.below hb7
  have HMi : Hid _ := hMi
  have b7 := b6.trans (hb7.mono b6.size)
  have HR7 : Hid (w7.heap[w.heap.size + 2]? = _) := (hb7.block (w.heap.size + 2) (lt_of_block HR6.out)).trans HR6.out
  clear hMi hb7 b6 HR6 HMn A6
  generalize hag : aheadF (j : Int) (chL M cb) 0 0 = ag at *
  clear hag
  go_wp2_with fail
  refine (cut_any M w7 _ _ gS gH gF gL kS kH kF kL j cb ag HMi.out hok hj hob hah).mono ?_
  rw [← HCK.out]
  rintro e w8 ⟨rfl, aS', aH', aF', aL', cS', cH', cF', cL', k8, A8, kept, hi8⟩
  have b8 : Below w.heap.size w w8 := b7.trans ⟨kept.os, kept.tape, kept.output, kept.size, fun k hk => kept.block k (by omega) (by omega)⟩
  have HR8 : Hid (w8.heap[w.heap.size + 2]? = _) := (kept.block (w.heap.size + 2) t2 (by omega)).trans HR7.out
  have HA8 : Hid _ := A8
  have HK8 : Hid _ := k8
  clear A8 kept HR7 HMi b7 k8
  obtain ⟨r0, r1, r2, r3, r4, g0, g1, g2, g3, g4, rs⟩ := boxf HR8.out
  obtain ⟨q0, q1, q2, q3, q4, f0, f1, f2, f3, f4, qs⟩ := boxf HK8.out
  clear HCK
  generalize hLM : cutK M ka kb = Mn at *
  clear hLM
  go_wp2
  refine bodyPost_ret (v := .tuple #[.agg #[.slice aS' Mn.slots.length cS', .slice aH' Mn.heads.length cH', .slice aF' Mn.free.length cF', .slice aL' Mn.locks.length cL', .int .i64 Mn.now], .int .i64 j, .int .i64 0]) (by simp [results, Try.results71, go_sem, r0, r1, r2, r3, r4]) rfl ⟨_, by rw [HV.out.1, HV.out.2.2], ?_, ?_⟩
  · rw [HV.out.2.1]
    have A9 := HA8.out.off hi8 t2 (fun k hk => set5_other (w := w8) (v0 := .slice aS' Mn.slots.length cS') (v1 := .slice aH' Mn.heads.length cH') (v2 := .slice aF' Mn.free.length cF') (v3 := .slice aL' Mn.locks.length cL') (v4 := .int .i64 Mn.now) hk)
    exact ⟨aS', aH', aF', aL', cS', cH', cF', cL', rfl, A9, hi8.mono b2s⟩
  · exact b8.trans (set5_below w8 _ _ _ _ _ _ _ (by omega))



end Go.Proofs.Ytdbilofhcadmoab.mm

/- The closed fact of the statements on chains: one flow in a chain. -/
namespace Go.Proofs.Ytdbilofhcadmoab.mm
open Go.ChangeShapes Go.WideShapes Go.ChangeAt Go.RowKit Go.Joins Go.Maps
set_option maxRecDepth 100000
set_option linter.unusedVariables false

theorem linked_at {M M' : Mm} {E0 : Int} {a : Int} (hM : linkedM M a = M') (hE : linkE M a = E0) (v : Value) (w : World) (lo : Nat) (A : Ans lo w v M) :
    Calls Try.prog 21 #[v, .int .i64 a] w fun e w' => ∃ v, e = .returned (.tuple #[v, .int .i64 E0]) ∧ Ans w.heap.size w' v M' ∧ Below w.heap.size w w' := by
  subst hM hE
  obtain ⟨aS, aH, aF, aL, cS, cH, cF, cL, rfl, A, hi⟩ := A
  exact linked_any M _ _ _ _ _ _ _ _ a w A
theorem without_at {M M' : Mm} {N0 E0 : Int} {ka kb : Int} (hM : withoutM M ka kb = M') (hN : withoutN M ka kb = N0) (hE : withoutE M ka kb = E0) (v : Value) (w : World) (lo : Nat) (A : Ans lo w v M) :
    Calls Try.prog 71 #[v, .agg #[.int .i64 ka, .int .i64 kb]] w fun e w' => ∃ v, e = .returned (.tuple #[v, .int .i64 N0, .int .i64 E0]) ∧ Ans w.heap.size w' v M' ∧ Below w.heap.size w w' := by
  subst hM hE hN
  obtain ⟨aS, aH, aF, aL, cS, cH, cF, cL, rfl, A, hi⟩ := A
  exact without_any M _ _ _ _ _ _ _ _ ka kb w A
theorem flows_at {M : Mm} {L : List Fl} {E0 : Int} (hL : flowsM M = L) (hE : chkC M = E0) (v : Value) (w : World) (lo : Nat) (A : Ans lo w v M) :
    Calls Try.prog 17 #[v] w fun e w' => ∃ ao cap, e = .returned (.tuple #[.slice ao L.length cap, .int .i64 E0]) ∧ FRow w' ao cap L ∧ Below w.heap.size w w' := by
  subst hL hE
  obtain ⟨aS, aH, aF, aL, cS, cH, cF, cL, rfl, A, hi⟩ := A
  exact flows_any M _ _ _ _ _ _ _ _ w A
theorem slots_at {M : Mm} {L : List Int} {E0 b : Int} (hL : slotsCL M b = L) (hE : slotsCE M b = E0) (v : Value) (w : World) (lo : Nat) (A : Ans lo w v M) :
    Calls Try.prog 18 #[v, .int .i64 b] w fun e w' => ∃ ao cap, e = .returned (.tuple #[.slice ao L.length cap, .int .i64 E0]) ∧ IRow w' ao cap L ∧ Below w.heap.size w w' := by
  subst hL hE
  obtain ⟨aS, aH, aF, aL, cS, cH, cF, cL, rfl, A, hi⟩ := A
  exact chainSlots_any M _ _ _ _ _ _ _ _ b w A
theorem chainCheck_at {M : Mm} {E0 : Int} (hE : chkC M = E0) (v : Value) (w : World) (lo : Nat) (A : Ans lo w v M) :
    Calls Try.prog 16 #[v] w fun e w' => e = .returned (.int .i64 E0) ∧ Below w.heap.size w w' := by
  subst hE
  obtain ⟨aS, aH, aF, aL, cS, cH, cF, cL, rfl, A, hi⟩ := A
  exact chainCheck_any M _ _ _ _ _ _ _ _ w A

def cM1 : Mm := newM 2 2
def cM2 : Mm := takenM cM1 1 2 5
def cM3 : Mm := linkedM cM2 0
def cM5 : Mm := withoutM cM3 1 2
theorem cg2 : takenM cM1 1 2 5 = cM2 := rfl
theorem cg3 : linkedM cM2 0 = cM3 := rfl
theorem cg5 : withoutM cM3 1 2 = cM5 := rfl
theorem cf2 : takenN cM1 1 2 5 = 0 ∧ takenE cM1 1 2 5 = 0 := by decide
theorem cf3 : linkE cM2 0 = 0 := by decide
theorem cf4 : chkC cM3 = 0 := by decide
theorem cl4 : flowsM cM3 = [⟨1, 2, 0, 5⟩] := by
  unfold flowsM
  rw [if_pos cf4, show allC cM3 = [0] by decide]
  rfl
theorem cf5 : withoutN cM3 1 2 = 0 ∧ withoutE cM3 1 2 = 0 := by decide
theorem cf6 : slotsCE cM5 1 = 0 := by decide
theorem cl6 : slotsCL cM5 1 = [] := by decide
theorem cf5s : cM5.slots.length = 2 ∧ (cM5.slots.getD 0 sl0).inn = true ∧ (cM5.slots.getD 0 sl0).next = -2 := by decide

theorem new22 (w : World) : Calls Try.prog 69 #[.int .i64 2, .int .i64 2] w fun e w' => ∃ v, e = .returned (.tuple #[v, .int .i64 0]) ∧ Ans w.heap.size w' v cM1 ∧ Below w.heap.size w w' := new_ok 2 2 w (by decide) (by decide) (by decide)

set_option maxHeartbeats 6400000 in
theorem chained_any (w : World) : Calls Try.prog 15 #[] w fun e w' => e = .returned (.bool true) ∧ Below w.heap.size w w' := by
  go_enter Try.func15, Try.ntmps15
  go_wp2_with fail
  refine (new22 w).mono ?_
  rintro e w1 ⟨v1, rfl, ⟨aS1, aH1, aF1, aL1, cS1, cH1, cF1, cL1, rfl, A1, hi1⟩, b1⟩
  have HA1 : Hid (Ans w.heap.size (w1.alloc (.cells #[.slice aS1 cM1.slots.length cS1, .slice aH1 cM1.heads.length cH1, .slice aF1 cM1.free.length cF1, .slice aL1 cM1.locks.length cL1, .int .i64 cM1.now] 25)) (.agg #[.slice aS1 cM1.slots.length cS1, .slice aH1 cM1.heads.length cH1, .slice aF1 cM1.free.length cF1, .slice aL1 cM1.locks.length cL1, .int .i64 cM1.now]) cM1) := Ans.below ⟨aS1, aH1, aF1, aL1, cS1, cH1, cF1, cL1, rfl, A1, hi1⟩ (one_below _ _)
  have HB1 : Hid ((w1.alloc (.cells #[.slice aS1 cM1.slots.length cS1, .slice aH1 cM1.heads.length cH1, .slice aF1 cM1.free.length cF1, .slice aL1 cM1.locks.length cL1, .int .i64 cM1.now] 25)).heap[w1.heap.size]? = some (.cells #[.slice aS1 cM1.slots.length cS1, .slice aH1 cM1.heads.length cH1, .slice aF1 cM1.free.length cF1, .slice aL1 cM1.locks.length cL1, .int .i64 cM1.now] 25 (0, 0))) := heap_alloc_new _ _
  have HW1 : Hid (Below w.heap.size w (w1.alloc (.cells #[.slice aS1 cM1.slots.length cS1, .slice aH1 cM1.heads.length cH1, .slice aF1 cM1.free.length cF1, .slice aL1 cM1.locks.length cL1, .int .i64 cM1.now] 25))) := b1.alloc b1.size _
  have s1 := b1.size
  clear A1 hi1 b1
  go_wp2_with fail
  generalize hX1 : w1.alloc (.cells #[.slice aS1 cM1.slots.length cS1, .slice aH1 cM1.heads.length cH1, .slice aF1 cM1.free.length cF1, .slice aL1 cM1.locks.length cL1, .int .i64 cM1.now] 25) = X1 at *
  clear hX1
  refine (taken_at cg2 cf2.1 cf2.2 _ X1 _ HA1.out).mono ?_
  rintro e w2 ⟨v2, rfl, ⟨aS2, aH2, aF2, aL2, cS2, cH2, cF2, cL2, rfl, A2, hi2⟩, b2⟩
  have k2 := (b2.block w1.heap.size (lt_of_block HB1.out)).trans HB1.out
  have HA2 : Hid (Ans X1.heap.size (set5 w2 w1.heap.size (.slice aS2 cM2.slots.length cS2) (.slice aH2 cM2.heads.length cH2) (.slice aF2 cM2.free.length cF2) (.slice aL2 cM2.locks.length cL2) (.int .i64 cM2.now)) (.agg #[.slice aS2 cM2.slots.length cS2, .slice aH2 cM2.heads.length cH2, .slice aF2 cM2.free.length cF2, .slice aL2 cM2.locks.length cL2, .int .i64 cM2.now]) cM2) := Ans.off ⟨aS2, aH2, aF2, aL2, cS2, cH2, cF2, cL2, rfl, A2, hi2⟩ (lt_of_block HB1.out) (fun k hk => set5_other hk)
  have HB2 : Hid ((set5 w2 w1.heap.size (.slice aS2 cM2.slots.length cS2) (.slice aH2 cM2.heads.length cH2) (.slice aF2 cM2.free.length cF2) (.slice aL2 cM2.locks.length cL2) (.int .i64 cM2.now)).heap[w1.heap.size]? = some (.cells #[.slice aS2 cM2.slots.length cS2, .slice aH2 cM2.heads.length cH2, .slice aF2 cM2.free.length cF2, .slice aL2 cM2.locks.length cL2, .int .i64 cM2.now] 25 (0, 0))) := set5_block k2 _ _ _ _ _
  have HW2 : Hid (Below w.heap.size w (set5 w2 w1.heap.size (.slice aS2 cM2.slots.length cS2) (.slice aH2 cM2.heads.length cH2) (.slice aF2 cM2.free.length cF2) (.slice aL2 cM2.locks.length cL2) (.int .i64 cM2.now))) := (HW1.out.trans (b2.mono HW1.out.size)).trans (set5_below _ _ _ _ _ _ _ _ s1)
  obtain ⟨q0, q1, q2, q3, q4, f0, f1, f2, f3, f4, qs⟩ := boxf k2
  clear k2 A2 hi2 HA1 HB1 b2 HW1
  go_wp2_with fail
  rw [show ((((w2.setCell ⟨w1.heap.size, 0, none⟩ (.slice aS2 cM2.slots.length cS2)).setCell ⟨w1.heap.size, 1, none⟩ (.slice aH2 cM2.heads.length cH2)).setCell ⟨w1.heap.size, 2, none⟩ (.slice aF2 cM2.free.length cF2)).setCell ⟨w1.heap.size, 3, none⟩ (.slice aL2 cM2.locks.length cL2)).setCell ⟨w1.heap.size, 4, none⟩ (.int .i64 cM2.now) = set5 w2 w1.heap.size (.slice aS2 cM2.slots.length cS2) (.slice aH2 cM2.heads.length cH2) (.slice aF2 cM2.free.length cF2) (.slice aL2 cM2.locks.length cL2) (.int .i64 cM2.now) from rfl]
  generalize hX2 : set5 w2 w1.heap.size (.slice aS2 cM2.slots.length cS2) (.slice aH2 cM2.heads.length cH2) (.slice aF2 cM2.free.length cF2) (.slice aL2 cM2.locks.length cL2) (.int .i64 cM2.now) = X2 at *
  clear hX2 q0 q1 q2 q3 q4 f0 f1 f2 f3 f4 qs
  refine (linked_at cg3 cf3 _ X2 _ HA2.out).mono ?_
  rintro e w3 ⟨v3, rfl, ⟨aS3, aH3, aF3, aL3, cS3, cH3, cF3, cL3, rfl, A3, hi3⟩, b3⟩
  have k3 := (b3.block w1.heap.size (lt_of_block HB2.out)).trans HB2.out
  have HA3 : Hid (Ans X2.heap.size (set5 w3 w1.heap.size (.slice aS3 cM3.slots.length cS3) (.slice aH3 cM3.heads.length cH3) (.slice aF3 cM3.free.length cF3) (.slice aL3 cM3.locks.length cL3) (.int .i64 cM3.now)) (.agg #[.slice aS3 cM3.slots.length cS3, .slice aH3 cM3.heads.length cH3, .slice aF3 cM3.free.length cF3, .slice aL3 cM3.locks.length cL3, .int .i64 cM3.now]) cM3) := Ans.off ⟨aS3, aH3, aF3, aL3, cS3, cH3, cF3, cL3, rfl, A3, hi3⟩ (lt_of_block HB2.out) (fun k hk => set5_other hk)
  have HB3 : Hid ((set5 w3 w1.heap.size (.slice aS3 cM3.slots.length cS3) (.slice aH3 cM3.heads.length cH3) (.slice aF3 cM3.free.length cF3) (.slice aL3 cM3.locks.length cL3) (.int .i64 cM3.now)).heap[w1.heap.size]? = some (.cells #[.slice aS3 cM3.slots.length cS3, .slice aH3 cM3.heads.length cH3, .slice aF3 cM3.free.length cF3, .slice aL3 cM3.locks.length cL3, .int .i64 cM3.now] 25 (0, 0))) := set5_block k3 _ _ _ _ _
  have HW3 : Hid (Below w.heap.size w (set5 w3 w1.heap.size (.slice aS3 cM3.slots.length cS3) (.slice aH3 cM3.heads.length cH3) (.slice aF3 cM3.free.length cF3) (.slice aL3 cM3.locks.length cL3) (.int .i64 cM3.now))) := (HW2.out.trans (b3.mono HW2.out.size)).trans (set5_below _ _ _ _ _ _ _ _ s1)
  obtain ⟨q0, q1, q2, q3, q4, f0, f1, f2, f3, f4, qs⟩ := boxf k3
  clear k3 A3 hi3 HA2 HB2 b3 HW2
  go_wp2_with fail
  rw [show ((((w3.setCell ⟨w1.heap.size, 0, none⟩ (.slice aS3 cM3.slots.length cS3)).setCell ⟨w1.heap.size, 1, none⟩ (.slice aH3 cM3.heads.length cH3)).setCell ⟨w1.heap.size, 2, none⟩ (.slice aF3 cM3.free.length cF3)).setCell ⟨w1.heap.size, 3, none⟩ (.slice aL3 cM3.locks.length cL3)).setCell ⟨w1.heap.size, 4, none⟩ (.int .i64 cM3.now) = set5 w3 w1.heap.size (.slice aS3 cM3.slots.length cS3) (.slice aH3 cM3.heads.length cH3) (.slice aF3 cM3.free.length cF3) (.slice aL3 cM3.locks.length cL3) (.int .i64 cM3.now) from rfl]
  generalize hX3 : set5 w3 w1.heap.size (.slice aS3 cM3.slots.length cS3) (.slice aH3 cM3.heads.length cH3) (.slice aF3 cM3.free.length cF3) (.slice aL3 cM3.locks.length cL3) (.int .i64 cM3.now) = X3 at *
  clear hX3 q0 q1 q2 q3 q4 f0 f1 f2 f3 f4 qs
  refine (flows_at cl4 cf4 _ X3 _ HA3.out).mono ?_
  rintro e w4 ⟨ao4, cap4, rfl, hrow4, b4⟩
  have HF4 : Hid (FRow w4 ao4 cap4 [⟨1, 2, 0, 5⟩]) := hrow4
  have HA4 : Hid (Ans X2.heap.size w4 (.agg #[.slice aS3 cM3.slots.length cS3, .slice aH3 cM3.heads.length cH3, .slice aF3 cM3.free.length cF3, .slice aL3 cM3.locks.length cL3, .int .i64 cM3.now]) cM3) := Ans.below HA3.out b4
  have HB4 : Hid (w4.heap[w1.heap.size]? = some (.cells #[.slice aS3 cM3.slots.length cS3, .slice aH3 cM3.heads.length cH3, .slice aF3 cM3.free.length cF3, .slice aL3 cM3.locks.length cL3, .int .i64 cM3.now] 25 (0, 0))) := (b4.block w1.heap.size (lt_of_block HB3.out)).trans HB3.out
  have HW4 : Hid (Below w.heap.size w w4) := HW3.out.trans (b4.mono HW3.out.size)
  obtain ⟨q0, q1, q2, q3, q4, f0, f1, f2, f3, f4, qs⟩ := boxf HB4.out
  clear hrow4 b4 HA3 HB3 HW3 f0 f1 f2 f3 f4
  go_wp2_with fail
  refine (without_at cg5 cf5.1 cf5.2 _ w4 _ HA4.out).mono ?_
  rintro e w5 ⟨v5, rfl, ⟨aS5, aH5, aF5, aL5, cS5, cH5, cF5, cL5, rfl, A5, hi5⟩, b5⟩
  have HA5 : Hid (Ans w4.heap.size (w5.alloc (.cells #[.slice aS5 cM5.slots.length cS5, .slice aH5 cM5.heads.length cH5, .slice aF5 cM5.free.length cF5, .slice aL5 cM5.locks.length cL5, .int .i64 cM5.now] 25)) (.agg #[.slice aS5 cM5.slots.length cS5, .slice aH5 cM5.heads.length cH5, .slice aF5 cM5.free.length cF5, .slice aL5 cM5.locks.length cL5, .int .i64 cM5.now]) cM5) := Ans.below ⟨aS5, aH5, aF5, aL5, cS5, cH5, cF5, cL5, rfl, A5, hi5⟩ (one_below _ _)
  have HB5 : Hid ((w5.alloc (.cells #[.slice aS5 cM5.slots.length cS5, .slice aH5 cM5.heads.length cH5, .slice aF5 cM5.free.length cF5, .slice aL5 cM5.locks.length cL5, .int .i64 cM5.now] 25)).heap[w5.heap.size]? = some (.cells #[.slice aS5 cM5.slots.length cS5, .slice aH5 cM5.heads.length cH5, .slice aF5 cM5.free.length cF5, .slice aL5 cM5.locks.length cL5, .int .i64 cM5.now] 25 (0, 0))) := heap_alloc_new _ _
  have HW5 : Hid (Below w.heap.size w (w5.alloc (.cells #[.slice aS5 cM5.slots.length cS5, .slice aH5 cM5.heads.length cH5, .slice aF5 cM5.free.length cF5, .slice aL5 cM5.locks.length cL5, .int .i64 cM5.now] 25))) := (HW4.out.trans (b5.mono HW4.out.size)).alloc (Nat.le_trans HW4.out.size b5.size) _
  have HF5 : Hid (FRow (w5.alloc (.cells #[.slice aS5 cM5.slots.length cS5, .slice aH5 cM5.heads.length cH5, .slice aF5 cM5.free.length cF5, .slice aL5 cM5.locks.length cL5, .int .i64 cM5.now] 25)) ao4 cap4 [⟨1, 2, 0, 5⟩]) := (HF4.out.below b5).below (one_below _ _)
  clear A5 hi5 b5 HA4 HB4 HW4 HF4 q0 q1 q2 q3 q4 qs
  go_wp2_with fail
  generalize hX5 : w5.alloc (.cells #[.slice aS5 cM5.slots.length cS5, .slice aH5 cM5.heads.length cH5, .slice aF5 cM5.free.length cF5, .slice aL5 cM5.locks.length cL5, .int .i64 cM5.now] 25) = X5 at *
  clear hX5
  refine (slots_at cl6 cf6 _ X5 _ HA5.out).mono ?_
  rintro e w6 ⟨ao6, cap6, rfl, -, b6⟩
  have HF6 : Hid (FRow w6 ao4 cap4 [⟨1, 2, 0, 5⟩]) := HF5.out.below b6
  have HA6 : Hid (Ans w4.heap.size w6 (.agg #[.slice aS5 cM5.slots.length cS5, .slice aH5 cM5.heads.length cH5, .slice aF5 cM5.free.length cF5, .slice aL5 cM5.locks.length cL5, .int .i64 cM5.now]) cM5) := Ans.below HA5.out b6
  have HB6 : Hid (w6.heap[w5.heap.size]? = some (.cells #[.slice aS5 cM5.slots.length cS5, .slice aH5 cM5.heads.length cH5, .slice aF5 cM5.free.length cF5, .slice aL5 cM5.locks.length cL5, .int .i64 cM5.now] 25 (0, 0))) := (b6.block w5.heap.size (lt_of_block HB5.out)).trans HB5.out
  have HW6 : Hid (Below w.heap.size w w6) := HW5.out.trans (b6.mono HW5.out.size)
  clear b6 HA5 HB5 HW5 HF5
  have HN7 : Hid (FRow (w6.alloc (.cells #[.int .i64 1, .int .i64 2, .int .i64 0, .int .i64 5] 42)) (some ⟨w6.heap.size, 0, none⟩) 1 [⟨1, 2, 0, 5⟩]) := by
    refine .mk_cells (by decide) (by decide) fun j hj => ?_
    have hj4 : j < 4 := by simpa using hj
    match j, hj4 with
    | 0, _ => simp [encF, Fl.enc]
    | 1, _ => simp [encF, Fl.enc]
    | 2, _ => simp [encF, Fl.enc]
    | 3, _ => simp [encF, Fl.enc]
  have HF7 : Hid _ := HF6.out.below (one_below w6 (.cells #[.int .i64 1, .int .i64 2, .int .i64 0, .int .i64 5] 42))
  have HA7 : Hid (Ans w4.heap.size (w6.alloc (.cells #[.int .i64 1, .int .i64 2, .int .i64 0, .int .i64 5] 42)) (.agg #[.slice aS5 cM5.slots.length cS5, .slice aH5 cM5.heads.length cH5, .slice aF5 cM5.free.length cF5, .slice aL5 cM5.locks.length cL5, .int .i64 cM5.now]) cM5) := Ans.below HA6.out (one_below _ _)
  have HB7 : Hid ((w6.alloc (.cells #[.int .i64 1, .int .i64 2, .int .i64 0, .int .i64 5] 42)).heap[w5.heap.size]? = some (.cells #[.slice aS5 cM5.slots.length cS5, .slice aH5 cM5.heads.length cH5, .slice aF5 cM5.free.length cF5, .slice aL5 cM5.locks.length cL5, .int .i64 cM5.now] 25 (0, 0))) := (Below.heap_alloc _ _ _ (lt_of_block HB6.out)).trans HB6.out
  have HW7 : Hid (Below w.heap.size w (w6.alloc (.cells #[.int .i64 1, .int .i64 2, .int .i64 0, .int .i64 5] 42))) := HW6.out.alloc HW6.out.size _
  clear HA6 HB6 HW6 HF6
  go_wp2_with fail
  generalize hX7 : w6.alloc (.cells #[.int .i64 1, .int .i64 2, .int .i64 0, .int .i64 5] 42) = X7 at *
  clear hX7
  refine (equalF_any ao4 (some ⟨w6.heap.size, 0, none⟩) cap4 1 [⟨1, 2, 0, 5⟩] [⟨1, 2, 0, 5⟩] X7 HF7.out HN7.out).mono ?_
  rw [show eqF [⟨1, 2, 0, 5⟩] [⟨1, 2, 0, 5⟩] = true from (eqF_iff _ _).2 rfl]
  rintro e w8 ⟨rfl, b8⟩
  have HW8 : Hid (Below w.heap.size w w8) := HW7.out.trans (b8.mono HW7.out.size)
  have k8 := (b8.block w5.heap.size (lt_of_block HB7.out)).trans HB7.out
  obtain ⟨xS, xH, xF, xL, yS, yH, yF, yL, he8, A8, -⟩ := Ans.below HA7.out b8
  simp only [Value.agg.injEq, Array.mk.injEq, List.cons.injEq, Value.slice.injEq, true_and, and_true] at he8
  obtain ⟨⟨rfl, rfl⟩, -⟩ := he8
  obtain ⟨n5, e5, x5⟩ := cf5s
  rcases A8.s.at_ with h0 | ⟨bs, os, rfl, hcs⟩
  · omega
  obtain ⟨-, -, -, -, c4, c5⟩ := hcs 0 (by omega)
  rw [show cM5.slots[0].inn = true by rw [← e5]; rfl] at c4
  rw [show cM5.slots[0].next = -2 by rw [← x5]; rfl] at c5
  obtain ⟨q0, q1, q2, q3, q4, f0, f1, f2, f3, f4, qs⟩ := boxf k8
  clear k8 A8 hcs HA7 HB7 HW7 HF7 HN7 b8 f0 f1 f2 f3 f4 e5 x5
  have hz : (0 : Int) < (cM5.slots.length : Int) := by omega
  go_wp2
  go_ret
  exact ⟨rfl, HW8.out⟩




end Go.Proofs.Ytdbilofhcadmoab.mm
