/- The contracts of the laws' own steps: a Look's step in memory that they have caught. -/
import Derived.Test.YtaekgadokcmkfabC15
import Derived.Test.YtaekgadokcmkfabC17
import Derived.Test.YtaekgadokcmkfabC05
import Derived.Test.YtaekgadokcmkfabC02
import Derived.Test.YtaekgadokcmkfabC06
namespace Go.Proofs.Ytaekgadokcmkfab.mm
open Go.ChangeShapes Go.WideShapes Go.ChangeAt Go.RowKit Go.Joins
set_option maxRecDepth 100000
set_option linter.unusedVariables false

def LkG (M : Mm) (f : Fr) : Prop := Ok M ∧ Fit M f ∧ f.keys = []
theorem lkG_next {M : Mm} {f : Fr} (h : LkG M f) (hd : (lkF M f).done = false) : LkG (lkM M f) (lkF M f) :=
  ⟨lkM_ok h.1, lkF_fit h.1 h.2.1 hd, by rw [lkF_keys]; exact h.2.2⟩
theorem krow_any (w : World) {a : Option Addr} {c : Nat} {l : List (Int × Int)} (hl : l = []) (hn : a = none → c = 0) : KRow w a c l := by
  subst hl
  exact ⟨Nat.zero_le _, by simp, hn, .inl rfl⟩

set_option maxHeartbeats 1600000 in
theorem clos64 (M : Mm) (f : Fr) (B lo : Nat) (Z : Nat → Prop) (w : World) (hG : LkG M f) (h : Has w B lo Z M) :
    Calls Try.prog 64 #[.agg #[.int .i64 f.c.kind, .int .i64 f.c.a, .int .i64 f.c.b, .int .i64 f.c.time, .int .i64 f.c.bk, .int .i64 f.c.slot, .int .i64 f.pl, .int .i64 f.cur, .int .i64 f.prev, .int .i64 f.slot, .int .i64 f.n, .slice none f.keys.length 0, .bool f.done, .int .i64 f.e], .pointer (some ⟨B, 0, none⟩)] w fun e w' => (∃ a c, e = .returned (.agg #[.int .i64 (lkF M f).c.kind, .int .i64 (lkF M f).c.a, .int .i64 (lkF M f).c.b, .int .i64 (lkF M f).c.time, .int .i64 (lkF M f).c.bk, .int .i64 (lkF M f).c.slot, .int .i64 (lkF M f).pl, .int .i64 (lkF M f).cur, .int .i64 (lkF M f).prev, .int .i64 (lkF M f).slot, .int .i64 (lkF M f).n, .slice a (lkF M f).keys.length c, .bool (lkF M f).done, .int .i64 (lkF M f).e]) ∧ ((lkF M f).done = false → a = none ∧ c = 0)) ∧ Has w' B lo (Up w Z) (lkM M f) ∧ Fine w w' Z := by
  obtain ⟨aS, aH, aF, aL, cS, cH, cF, cL, m, hz⟩ := h
  have HZ : Hid (∀ k, Foot B aS aH aF aL k → Z k) := hz
  have HKy : Hid ((lkF M f).keys = []) := (lkF_keys M f).trans hG.2.2
  have HSt : Hid (∀ W : World, Mine W B lo aS aH aF aL cS cH cF cL M → Calls Try.prog 30 #[.pointer (some ⟨B, 0, none⟩), .agg #[.int .i64 f.c.kind, .int .i64 f.c.a, .int .i64 f.c.b, .int .i64 f.c.time, .int .i64 f.c.bk, .int .i64 f.c.slot, .int .i64 f.pl, .int .i64 f.cur, .int .i64 f.prev, .int .i64 f.slot, .int .i64 f.n, .slice none f.keys.length 0, .bool f.done, .int .i64 f.e]] W fun e w' => Ret W w' e (lkF M f) none 0 ∧ Has w' B lo (Up W (Foot B aS aH aF aL)) (lkM M f) ∧ Fine W w' (Foot B aS aH aF aL)) := fun W m' => step_mine M f B lo aS aH aF aL cS cH cF cL none 0 W m' hG.1 hG.2.1 (krow_any W hG.2.2 (fun _ => rfl)) (fun ad h => by cases h)
  generalize lkF M f = g at *
  generalize lkM M f = M' at *
  obtain ⟨of, hof⟩ : ∃ o : Obj, o = .cells #[.int .i64 f.c.kind, .int .i64 f.c.a, .int .i64 f.c.b, .int .i64 f.c.time, .int .i64 f.c.bk, .int .i64 f.c.slot, .int .i64 f.pl, .int .i64 f.cur, .int .i64 f.prev, .int .i64 f.slot, .int .i64 f.n, .slice none f.keys.length 0, .bool f.done, .int .i64 f.e] 51 := ⟨_, rfl⟩
  obtain ⟨oz, hoz⟩ : ∃ o : Obj, o = zeroFr := ⟨_, rfl⟩
  have HE : Hid (Lk w ((w.alloc of).alloc oz) B lo aS aH aF aL cS cH cF cL M f none 0) := Lk.first m f none 0 hof hoz
  obtain ⟨q0, q1, q2, q3, q4, -, -, -, -, -, qs⟩ := boxf HE.out.m.box
  obtain ⟨f0, f1, f2, f3, f4, f5, f6, f7, f8, f9, f10, f11, f12, f13, ff, fs⟩ := framef HE.out.fb
  unfold zeroFr at hoz
  clear m hG hz
  go_enter Try.func64, Try.ntmps64
  go_wp2_with fail
  rw [← hof, ← hoz]
  generalize (w.alloc of).alloc oz = W0 at *
  subst hof hoz
  clear q0 q1 q2 q3 q4 qs f0 f1 f2 f3 f4 f5 f6 f7 f8 f9 f10 f11 f12 f13 ff fs
  refine (HSt.out W0 HE.out.m).mono ?_
  rintro e w2 ⟨⟨a2, c2, rfl, -, -, hd2⟩, hh2, hf2⟩
  have HD2 : Hid (g.done = false → a2 = none ∧ c2 = 0) := hd2
  have HE2 : Hid (Lk2 w w2 (Foot B aS aH aF aL) B lo M' f none 0) := HE.out.after hh2 hf2
  clear HE hh2 hf2 hd2
  obtain ⟨g0, g1, g2, g3, g4, g5, g6, g7, g8, g9, g10, g11, g12, g13, gf, gs⟩ := framef HE2.out.zb
  go_wp2
  refine bodyPost_ret (v := .agg #[.int .i64 g.c.kind, .int .i64 g.c.a, .int .i64 g.c.b, .int .i64 g.c.time, .int .i64 g.c.bk, .int .i64 g.c.slot, .int .i64 g.pl, .int .i64 g.cur, .int .i64 g.prev, .int .i64 g.slot, .int .i64 g.n, .slice a2 g.keys.length c2, .bool g.done, .int .i64 g.e]) (by simp [results, Try.results64, go_sem, g0, g1, g2, g3, g4, g5, g6, g7, g8, g9, g10, g11, g12, g13]) rfl ⟨⟨a2, c2, rfl, HD2.out⟩, HE2.out.end14.1.mono (fun k _ h => h.imp (HZ.out k) id), HE2.out.end14.2.mono HZ.out⟩

set_option maxHeartbeats 1600000 in
theorem clos37 (M : Mm) (f : Fr) (B lo : Nat) (Z : Nat → Prop) (w : World) (hG : LkG M f) (h : Has w B lo Z M) :
    Calls Try.prog 37 #[.agg #[.int .i64 f.c.kind, .int .i64 f.c.a, .int .i64 f.c.b, .int .i64 f.c.time, .int .i64 f.c.bk, .int .i64 f.c.slot, .int .i64 f.pl, .int .i64 f.cur, .int .i64 f.prev, .int .i64 f.slot, .int .i64 f.n, .slice none f.keys.length 0, .bool f.done, .int .i64 f.e], .pointer (some ⟨B, 0, none⟩)] w fun e w' => (∃ a c, e = .returned (.agg #[.int .i64 (lkF M f).c.kind, .int .i64 (lkF M f).c.a, .int .i64 (lkF M f).c.b, .int .i64 (lkF M f).c.time, .int .i64 (lkF M f).c.bk, .int .i64 (lkF M f).c.slot, .int .i64 (lkF M f).pl, .int .i64 (lkF M f).cur, .int .i64 (lkF M f).prev, .int .i64 (lkF M f).slot, .int .i64 (lkF M f).n, .slice a (lkF M f).keys.length c, .bool (lkF M f).done, .int .i64 (lkF M f).e]) ∧ ((lkF M f).done = false → a = none ∧ c = 0)) ∧ Has w' B lo (Up w Z) (lkM M f) ∧ Fine w w' Z := by
  obtain ⟨aS, aH, aF, aL, cS, cH, cF, cL, m, hz⟩ := h
  have HZ : Hid (∀ k, Foot B aS aH aF aL k → Z k) := hz
  have HKy : Hid ((lkF M f).keys = []) := (lkF_keys M f).trans hG.2.2
  have HSt : Hid (∀ W : World, Mine W B lo aS aH aF aL cS cH cF cL M → Calls Try.prog 30 #[.pointer (some ⟨B, 0, none⟩), .agg #[.int .i64 f.c.kind, .int .i64 f.c.a, .int .i64 f.c.b, .int .i64 f.c.time, .int .i64 f.c.bk, .int .i64 f.c.slot, .int .i64 f.pl, .int .i64 f.cur, .int .i64 f.prev, .int .i64 f.slot, .int .i64 f.n, .slice none f.keys.length 0, .bool f.done, .int .i64 f.e]] W fun e w' => Ret W w' e (lkF M f) none 0 ∧ Has w' B lo (Up W (Foot B aS aH aF aL)) (lkM M f) ∧ Fine W w' (Foot B aS aH aF aL)) := fun W m' => step_mine M f B lo aS aH aF aL cS cH cF cL none 0 W m' hG.1 hG.2.1 (krow_any W hG.2.2 (fun _ => rfl)) (fun ad h => by cases h)
  generalize lkF M f = g at *
  generalize lkM M f = M' at *
  obtain ⟨of, hof⟩ : ∃ o : Obj, o = .cells #[.int .i64 f.c.kind, .int .i64 f.c.a, .int .i64 f.c.b, .int .i64 f.c.time, .int .i64 f.c.bk, .int .i64 f.c.slot, .int .i64 f.pl, .int .i64 f.cur, .int .i64 f.prev, .int .i64 f.slot, .int .i64 f.n, .slice none f.keys.length 0, .bool f.done, .int .i64 f.e] 51 := ⟨_, rfl⟩
  obtain ⟨oz, hoz⟩ : ∃ o : Obj, o = zeroFr := ⟨_, rfl⟩
  have HE : Hid (Lk w ((w.alloc of).alloc oz) B lo aS aH aF aL cS cH cF cL M f none 0) := Lk.first m f none 0 hof hoz
  obtain ⟨q0, q1, q2, q3, q4, -, -, -, -, -, qs⟩ := boxf HE.out.m.box
  obtain ⟨f0, f1, f2, f3, f4, f5, f6, f7, f8, f9, f10, f11, f12, f13, ff, fs⟩ := framef HE.out.fb
  unfold zeroFr at hoz
  clear m hG hz
  go_enter Try.func37, Try.ntmps37
  go_wp2_with fail
  rw [← hof, ← hoz]
  generalize (w.alloc of).alloc oz = W0 at *
  subst hof hoz
  clear q0 q1 q2 q3 q4 qs f0 f1 f2 f3 f4 f5 f6 f7 f8 f9 f10 f11 f12 f13 ff fs
  refine (HSt.out W0 HE.out.m).mono ?_
  rintro e w2 ⟨⟨a2, c2, rfl, -, -, hd2⟩, hh2, hf2⟩
  have HD2 : Hid (g.done = false → a2 = none ∧ c2 = 0) := hd2
  have HE2 : Hid (Lk2 w w2 (Foot B aS aH aF aL) B lo M' f none 0) := HE.out.after hh2 hf2
  clear HE hh2 hf2 hd2
  obtain ⟨g0, g1, g2, g3, g4, g5, g6, g7, g8, g9, g10, g11, g12, g13, gf, gs⟩ := framef HE2.out.zb
  go_wp2
  refine bodyPost_ret (v := .agg #[.int .i64 g.c.kind, .int .i64 g.c.a, .int .i64 g.c.b, .int .i64 g.c.time, .int .i64 g.c.bk, .int .i64 g.c.slot, .int .i64 g.pl, .int .i64 g.cur, .int .i64 g.prev, .int .i64 g.slot, .int .i64 g.n, .slice a2 g.keys.length c2, .bool g.done, .int .i64 g.e]) (by simp [results, Try.results37, go_sem, g0, g1, g2, g3, g4, g5, g6, g7, g8, g9, g10, g11, g12, g13]) rfl ⟨⟨a2, c2, rfl, HD2.out⟩, HE2.out.end14.1.mono (fun k _ h => h.imp (HZ.out k) id), HE2.out.end14.2.mono HZ.out⟩

end Go.Proofs.Ytaekgadokcmkfab.mm

/- The contract of walk: along a chain, whatever is called for each slot, by what that keeps. -/
namespace Go.Proofs.Ytaekgadokcmkfab.mm
open Go.ChangeShapes Go.WideShapes Go.ChangeAt Go.RowKit
set_option maxRecDepth 100000
set_option linter.unusedVariables false

theorem walk_stop {S : List Sl} {k : Nat} {x : Int} (h : x ≤ 0 ∨ k = 0) : walkL S k x = [] ∧ walkE S k x = x := by
  cases k with
  | zero => exact ⟨rfl, rfl⟩
  | succ k =>
    have : ¬ 0 < x := by omega
    simp [walkL, walkE, this]
theorem walk_go {S : List Sl} {k : Nat} {x : Int} (h : 0 < x) : walkL S (k + 1) x = (x - 1) :: walkL S k (nextN S x) ∧ walkE S (k + 1) x = walkE S k (nextN S x) := by
  simp [walkL, walkE, h]

set_option maxHeartbeats 3200000 in
theorem walk_any (F : Nat) (caps : Array Value) (M : Mm) (aS aH aF aL : Option Addr) (cS cH cF cL b : Nat) (w : World) (hok : Ok M) (hb : b < M.heads.length) (hF : ∀ args W, (callFunc F args).run Try.prog W = .ok (.enter F args) W) (I : List Int → World → Prop)
    (start : I [] (w.alloc (.cells #[.slice aS M.slots.length cS, .slice aH M.heads.length cH, .slice aF M.free.length cF, .slice aL M.locks.length cL, .int .i64 M.now] 25)))
    (box : ∀ l W, I l W → W.heap[w.heap.size]? = some (.cells #[.slice aS M.slots.length cS, .slice aH M.heads.length cH, .slice aF M.free.length cF, .slice aL M.locks.length cL, .int .i64 M.now] 25 (0, 0)))
    (at_ : ∀ l W, I l W → At W aS aH aF aL cS cH cF cL M)
    (step : ∀ l (a : Nat) W, I l W → a < M.slots.length → l.length < M.slots.length → Calls Try.prog F (#[.int .i64 a] ++ caps) W fun e W' => e = .returned (.tuple #[]) ∧ I (l ++ [(a : Int)]) W') :
    Calls Try.prog 49 #[.agg #[.slice aS M.slots.length cS, .slice aH M.heads.length cH, .slice aF M.free.length cF, .slice aL M.locks.length cL, .int .i64 M.now], .int .i64 b, .func (.func F) #[] caps] w fun e w' => e = .returned (.bool (chOk M b)) ∧ I (chL M b) w' := by
  have n0 := hok.ns
  have n1 := hok.nh
  obtain ⟨R, hR⟩ : ∃ R, R = chOk M b := ⟨_, rfl⟩
  rw [← hR]
  have HR : Hid (R = chOk M b) := hR
  clear hR
  obtain ⟨LL, hL⟩ : ∃ LL, LL = chL M b := ⟨_, rfl⟩
  rw [← hL]
  have HL : Hid (LL = chL M b) := hL
  clear hL
  have HB : Hid _ := box
  have HA : Hid _ := at_
  have HS : Hid _ := step
  have HI : Hid _ := start
  have HFn : Hid _ := hF
  have hA0 := HA.out _ _ HI.out
  rcases hA0.h.at_ with h0 | ⟨bh, oh, rfl, hch⟩
  · omega
  have d0 := hch b hb
  clear box at_ step start hA0 hch hF
  go_enter Try.func49, Try.ntmps49
  go_wp2
  go_loopw [18, 7] (fun i n wr => ∃ k : Nat, k ≤ M.slots.length ∧ i = .int .i64 k ∧ ∃ (l : List Int) (x : Int), n = .int .i64 x ∧ x ≤ M.slots.length ∧ l.length = k ∧ Hid (chL M b = l ++ walkL M.slots (M.slots.length - k) x ∧ chE M b = walkE M.slots (M.slots.length - k) x) ∧ Hid (I l wr))
    (fun i _ _ => M.slots.length - (intOf i).toNat)
  case atStart =>
    have hh := hok.headIn hb
    have he : headM M b = M.heads[b] := by simp [headM, List.getD_eq_getElem?_getD, hb]
    rw [he] at hh
    refine ⟨0, Nat.zero_le _, rfl, [], _, rfl, ((inB_iff _ _ _).1 hh.2).2, rfl, ?_, HI⟩
    rw [← he]
    exact ⟨rfl, rfl⟩
  case round =>
    obtain ⟨k, hk, rfl, l, x, rfl, hx, hl, HE, HW⟩ := hrel
    have hbx := HB.out _ _ HW.out
    obtain ⟨q0, q1, q2, q3, q4, f0, f1, f2, f3, f4, qs⟩ := boxf hbx
    clear hbx f0 f1 f2 f3 f4 d0
    have fin : (x ≤ 0 ∨ M.slots.length - k = 0) → R = (x == -1 - (b : Int)) ∧ LL = l := fun h => by
      have hs := walk_stop (S := M.slots) h
      have h1 := HE.out.1
      have h2 := HE.out.2
      rw [hs.1, List.append_nil] at h1
      rw [hs.2] at h2
      exact ⟨by rw [HR.out, chOk, h2], by rw [HL.out, h1]⟩
    have HF : Hid _ := fin
    clear fin
    by_cases hlt : k < M.slots.length
    · by_cases hx0 : x ≤ 0
      · go_wp2_with (first
          | (go_at_call 92; refine (slotOf_no _ _ hx0).mono ?_; rintro e w1 ⟨rfl, rfl⟩)
          | (go_at_call 87; refine (toEnd_any _ _ (by omega) (by omega)).mono ?_; rintro e w1 ⟨rfl, rfl⟩))
        go_ret
        obtain ⟨e1, e2⟩ := HF.out (.inl hx0)
        rw [e1, e2]
        exact ⟨rfl, HW.out⟩
      · obtain ⟨j, rfl⟩ : ∃ j : Nat, x = (j : Int) + 1 := ⟨(x - 1).toNat, by omega⟩
        have hj : j < M.slots.length := by omega
        have hj1 : (0 : Int) < (j : Int) + 1 := by omega
        have HE2 : Hid (chL M b = (l ++ [(j : Int)]) ++ walkL M.slots (M.slots.length - (k + 1)) M.slots[j].next ∧ chE M b = walkE M.slots (M.slots.length - (k + 1)) M.slots[j].next) := by
          have hg := walk_go (S := M.slots) (k := M.slots.length - (k + 1)) hj1
          rw [show M.slots.length - (k + 1) + 1 = M.slots.length - k by omega] at hg
          have hn : nextN M.slots ((j : Int) + 1) = M.slots[j].next := by
            unfold nextN
            rw [show ((j : Int) + 1 - 1).toNat = j by omega, getD_lt _ _ hj]
          rw [hn] at hg
          refine ⟨?_, by rw [HE.out.2, hg.2]⟩
          rw [HE.out.1, hg.1, List.append_assoc, show (j : Int) + 1 - 1 = j by omega]
          rfl
        have hnx := ((inB_iff _ _ _).1 (slot_good (hok.slot _ (List.getElem_mem hj))).2.2.2).2
        clear HE
        go_wp2_with (first
          | (go_at_call 92; refine (slotOf_is _ _ hj1 (by omega)).mono ?_; rw [show (j : Int) + 1 - 1 = j by omega]; rintro e w1 ⟨rfl, rfl⟩))
        rw [HFn.out]
        refine (HS.out l j wr HW.out hj (by omega)).mono ?_
        rintro e w2 ⟨rfl, hI2⟩
        have HW2 : Hid _ := hI2
        have hbx2 := HB.out _ _ hI2
        have hA2 := HA.out _ _ hI2
        clear q0 q1 q2 q3 q4 qs hI2
        obtain ⟨q0, q1, q2, q3, q4, f0, f1, f2, f3, f4, qs⟩ := boxf hbx2
        clear hbx2 f0 f1 f2 f3 f4
        rcases hA2.s.at_ with h0 | ⟨bs, os, rfl, hcs⟩
        · omega
        have c5 := (hcs j hj).2.2.2.2.2
        clear hA2 hcs
        go_wp2
        go_roundw
        case rel => exact ⟨k + 1, by omega, by go_num, _, _, rfl, hnx, by simp [hl], HE2, HW2⟩
        case measure => simp [intOf]; omega
    · go_wp2_with (first
        | (go_at_call 87; refine (toEnd_any _ _ (by omega) (by omega)).mono ?_; rintro e w1 ⟨rfl, rfl⟩))
      go_ret
      obtain ⟨e1, e2⟩ := HF.out (.inr (by omega))
      rw [e1, e2]
      exact ⟨rfl, HW.out⟩


end Go.Proofs.Ytaekgadokcmkfab.mm

/- A list that grows in a variable that a function literal has caught; the contract of slotsOf. -/
namespace Go.Proofs.Ytaekgadokcmkfab.mm
open Go.ChangeShapes Go.WideShapes Go.ChangeAt Go.RowKit Go.Joins
set_option maxRecDepth 100000
set_option linter.unusedVariables false

structure Lst (w0 : World) (B Y : Nat) (t e : TypeId) (size : Nat) (ob : Array Value) (W : World) (n : Nat) (xs : List Value) : Prop where
  var : ∃ v, W.heap[B]? = some (.cells #[v] t (0, 0)) ∧ W.ownsRow (B + 1) e size v n xs
  box : W.heap[Y]? = some (.cells ob 25 (0, 0))
  below : Below B w0 W
  ne : B ≠ Y

theorem var_cell {W : World} {B : Nat} {v : Value} {t : TypeId} (h : W.heap[B]? = some (.cells #[v] t (0, 0))) : W.cell? ⟨B, 0, none⟩ = some v ∧ W.frozen? ⟨B, 0, none⟩ = false ∧ B < W.heap.size :=
  ⟨by rw [cell_of_block h]; rfl, unfrozen_of_block h _, lt_of_block h⟩

theorem Lst.step {w0 W w1 : World} {B Y : Nat} {t e : TypeId} {size n m : Nat} {ob : Array Value} {xs news : List Value} {v v' : Value} {o1 : Obj} (hB : W.heap[B]? = some (.cells #[v] t (0, 0))) (ho : W.ownsRow (B + 1) e size v n xs)
    (hY : W.heap[Y]? = some (.cells ob 25 (0, 0))) (hb : Below B w0 W) (hne : B ≠ Y) (n1 : e ≠ t) (n2 : e ≠ 25) (hg : (W.alloc o1).grownBy w1 v.ownBlock) (ho' : w1.ownsRow (B + 1) e size v' (n + m) (xs ++ news)) :
    Lst w0 B Y t e size ob (w1.setCell ⟨B, 0, none⟩ v') (n + m) (xs ++ news) := by
  have lB := lt_of_block hB
  have lY := lt_of_block hY
  have hvB := own_ne ho hB n1
  have hvY := own_ne ho hY n2
  have kB : w1.heap[B]? = some (.cells #[v] t (0, 0)) := box_kept hB hg hvB
  have kY : w1.heap[Y]? = some (.cells ob 25 (0, 0)) := box_kept hY hg hvY
  have hu : ∀ k, v.ownBlock = some k → B ≤ k := fun k hk => by
    have := (ho.lt k hk).1
    omega
  refine ⟨⟨v', ?_, set1_own ho' (own_ne ho' kB n1)⟩, (Below.heap_setCell _ _ _ _ (by dsimp only; omega)).trans kY, ?_, hne⟩
  · have := block_setCell (i := 0) kB v'
    rw [this]; rfl
  · exact low_kept hb hg hu (by omega) (Nat.le_refl _)

set_option maxHeartbeats 800000 in
theorem app85 (w0 W : World) (B Y : Nat) (ob : Array Value) (l : List Int) (a : Int) (L : Lst w0 B Y 23 3 1 ob W l.length (encI l)) (hl : l.length ≤ 12) :
    Calls Try.prog 93 #[.int .i64 a, .pointer (some ⟨B, 0, none⟩)] W fun e W' => e = .returned (.tuple #[]) ∧ Lst w0 B Y 23 3 1 ob W' (l ++ [a]).length (encI (l ++ [a])) := by
  obtain ⟨i0, hi, hz0, hz1, hz2⟩ := info_parts iI
  obtain ⟨⟨v, hB, ho⟩, hY, hb, hne⟩ := L
  obtain ⟨ao, cap, rfl⟩ := own_shape ho
  obtain ⟨c0, f0, lB⟩ := var_cell hB
  have HB : Hid _ := hB
  have HY : Hid _ := hY
  clear hB hY
  go_enter Try.func93, Try.ntmps93
  go_wp2_with (at_builtin; refine wpList_append_own_at _ rfl (.tmp 3) (.tmp 5) 23 rfl (B + 1) 3 i0 (.int .i64 0) 1 8 Try.underlying23 hi hz0 hz1 hz2 rfl (by decide) _ _ _ rfl (ho.alloc _) ⟨W.heap.size, 0, none⟩ 1 1 [.int .i64 a] rfl rfl (cell_one_new _ _ _) (by intro u hu; simp at hu; subst hu; rfl) (by unfold maxLen; omega) (by omega) (by simp; omega) ?_; intro v2 w2 ho2 hg2 _ hloc2; obtain ⟨g2, cap2, rfl⟩ := ownsRow_form ho2 (by omega); have HL : Hid _ := Lst.step HB.out ho HY.out hb hne (by decide) (by decide) hg2 ho2; obtain ⟨d0, e0, lB2⟩ := var_cell (box_kept HB.out hg2 (own_ne ho HB.out (by decide))); clear c0 f0 lB ho2 hg2 hloc2)
  go_end0
  refine ⟨rfl, ?_⟩
  have := HL.out
  rw [show (l ++ [a]).length = l.length + 1 by simp, show encI (l ++ [a]) = encI l ++ [.int .i64 a] by simp [encI]]
  exact this

theorem fn85 : ∀ args W, (callFunc 93 args).run Try.prog W = .ok (.enter 93 args) W := fun _ _ => by kernel_rfl

theorem walkL_len (S : List Sl) : ∀ (k : Nat) (n : Int), (walkL S k n).length ≤ k
  | 0, _ => by simp [walkL]
  | k + 1, n => by
    simp only [walkL]
    split
    · have := walkL_len S k (nextN S n); simp; omega
    · simp

def slotsE (M : Mm) (b : Nat) : Int := if chOk M b then 0 else 4
def slotsL (M : Mm) (b : Nat) : List Int := if chOk M b then chL M b else []

set_option maxHeartbeats 1600000 in
theorem slotsOf_any (M : Mm) (aS aH aF aL : Option Addr) (cS cH cF cL b : Nat) (w : World) (A : At w aS aH aF aL cS cH cF cL M) (hok : Ok M) (hb : b < M.heads.length) :
    Calls Try.prog 52 #[.agg #[.slice aS M.slots.length cS, .slice aH M.heads.length cH, .slice aF M.free.length cF, .slice aL M.locks.length cL, .int .i64 M.now], .int .i64 b] w fun e w' =>
      ∃ ao cap, e = .returned (.tuple #[.slice ao (slotsL M b).length cap, .int .i64 (slotsE M b)]) ∧ IRow w' ao cap (slotsL M b) ∧ Below w.heap.size w w' := by
  obtain ⟨E0, hE0⟩ : ∃ E0, E0 = slotsE M b := ⟨_, rfl⟩
  obtain ⟨L0, hL0⟩ : ∃ L0, L0 = slotsL M b := ⟨_, rfl⟩
  rw [← hE0, ← hL0]
  have HE0 : Hid (E0 = slotsE M b) := hE0
  have HL0 : Hid (L0 = slotsL M b) := hL0
  clear hE0 hL0
  have n0 := hok.ns
  obtain ⟨o1, ho1⟩ : ∃ o : Obj, o = .cells #[.slice aS M.slots.length cS, .slice aH M.heads.length cH, .slice aF M.free.length cF, .slice aL M.locks.length cL, .int .i64 M.now] 25 := ⟨_, rfl⟩
  obtain ⟨o2, ho2⟩ : ∃ o : Obj, o = .cells #[.slice none 0 0] 23 := ⟨_, rfl⟩
  have b0 : Below w.heap.size w ((w.alloc o1).alloc o2) := below_alloc2 w o1 o2
  have HB0 : Hid (((w.alloc o1).alloc o2).heap[w.heap.size]? = some o1) := by show _ = _; rw [Below.heap_alloc _ _ _ (by simp), heap_alloc_new]
  have HV0 : Hid (((w.alloc o1).alloc o2).heap[w.heap.size + 1]? = some o2) := by
    have := heap_alloc_new (w.alloc o1) o2
    rwa [show (w.alloc o1).heap.size = w.heap.size + 1 by simp] at this
  have HZ0 : Hid (((w.alloc o1).alloc o2).heap.size = w.heap.size + 2) := by show _ = _; simp
  have HA0 : Hid _ := A.below b0
  have hmf : ∀ (fn : Fn) (first cap : Array Value) (w : World), (Instr.makeFunc fn first cap).run Try.prog w = .ok (.func fn first cap) w := fun _ _ _ _ => rfl
  go_enter Try.func52, Try.ntmps52
  go_wp2_with fail
  rw [← ho1, ← ho2]
  generalize (w.alloc o1).alloc o2 = W0 at *
  subst ho1 ho2
  have hstart : Lst W0 (w.heap.size + 1) W0.heap.size 23 3 1 #[.slice aS M.slots.length cS, .slice aH M.heads.length cH, .slice aF M.free.length cF, .slice aL M.locks.length cL, .int .i64 M.now] (W0.alloc (.cells #[.slice aS M.slots.length cS, .slice aH M.heads.length cH, .slice aF M.free.length cF, .slice aL M.locks.length cL, .int .i64 M.now] 25)) ([] : List Int).length (encI []) := by
    have z := HZ0.out
    refine ⟨⟨.slice none 0 0, ?_, World.ownsRow_nil _ _ _ _⟩, heap_alloc_new _ _, (Below.refl _ _).alloc (by omega) _, by omega⟩
    rw [Below.heap_alloc _ _ _ (by omega)]
    exact HV0.out
  have HAw : Hid _ := A
  clear A
  refine (walk_any 93 #[.pointer (some ⟨w.heap.size + 1, 0, none⟩)] M aS aH aF aL cS cH cF cL b W0 hok hb fn85 (fun l W => Lst W0 (w.heap.size + 1) W0.heap.size 23 3 1 #[.slice aS M.slots.length cS, .slice aH M.heads.length cH, .slice aF M.free.length cF, .slice aL M.locks.length cL, .int .i64 M.now] W l.length (encI l)) hstart (fun l W h => h.box) (fun l W h => HAw.out.below (b0.trans (h.below.mono (by omega)))) ?_).mono ?_
  · intro l a W hL ha hl
    exact app85 _ _ _ _ _ _ _ hL (by omega)
  rintro e w1 ⟨rfl, hL1⟩
  have HL1 : Hid _ := hL1
  have HB1 : Hid (Below w.heap.size w w1) := b0.trans (hL1.below.mono (by omega))
  obtain ⟨⟨v, hv, ho⟩, -, -, -⟩ := hL1
  have hm : (chL M b).length ≤ 12 := Nat.le_trans (walkL_len _ _ _) n0
  obtain ⟨ao, cap, rfl, hrow⟩ := IRow.of_own ho (by omega)
  obtain ⟨c0, f0, lB⟩ := var_cell hv
  have HRow : Hid _ := hrow
  clear hv ho hrow HL1 hstart HB0 HV0 HZ0 HA0 b0
  cases hc : chOk M b
  · have HV : Hid (E0 = 4 ∧ L0 = []) := ⟨HE0.out.trans (by unfold slotsE; rw [hc]; rfl), HL0.out.trans (by unfold slotsL; rw [hc]; rfl)⟩
    go_wp2
    go_ret2
    refine ⟨none, 0, ?_, ?_, HB1.out⟩
    · rw [HV.out.1, HV.out.2]; rfl
    · rw [HV.out.2]; exact ⟨by decide, by decide, fun _ => rfl, .inl rfl⟩
  · have HV : Hid (E0 = 0 ∧ L0 = chL M b) := ⟨HE0.out.trans (by unfold slotsE; rw [hc]; rfl), HL0.out.trans (by unfold slotsL; rw [hc]; rfl)⟩
    go_wp2
    go_ret2
    refine ⟨ao, cap, ?_, ?_, HB1.out⟩
    · rw [HV.out.1, HV.out.2]; rfl
    · rw [HV.out.2]; exact HRow.out


end Go.Proofs.Ytaekgadokcmkfab.mm

/- The contract of checkSlot. -/
namespace Go.Proofs.Ytaekgadokcmkfab.mm
open Go.ChangeShapes Go.WideShapes Go.ChangeAt Go.RowKit Go.Joins Go.Maps
set_option maxRecDepth 100000
set_option linter.unusedVariables false

theorem slotAt_lt {M : Mm} {j : Nat} (h : j < M.slots.length) : slotAt M j = M.slots[j] := by simp [slotAt, List.getD_eq_getElem?_getD, h]

set_option maxHeartbeats 1600000 in
theorem checkSlot_any (M : Mm) (aS aH aF aL : Option Addr) (cS cH cF cL b j g : Nat) (all : List Int) (w : World) (A : At w aS aH aF aL cS cH cF cL M) (hok : Ok M) (hb : b < M.heads.length) (hj : j < M.slots.length) (hm : MapAt M w g all) :
    Calls Try.prog 91 #[.agg #[.slice aS M.slots.length cS, .slice aH M.heads.length cH, .slice aF M.free.length cF, .slice aL M.locks.length cL, .int .i64 M.now], .int .i64 b, .int .i64 j, .map (some g)] w fun e w' => e = .returned (.int .i64 (slotC M b all j)) ∧ Below w.heap.size w w' := by
  obtain ⟨E0, hE0⟩ : ∃ E0, E0 = slotC M b all j := ⟨_, rfl⟩
  rw [← hE0]
  have HE0 : Hid (E0 = slotC M b all j) := hE0
  clear hE0
  have n0 := hok.ns
  have n1 := hok.nh
  have hgood := slot_good (hok.slot _ (List.getElem_mem hj))
  have hs : slotAt M j = M.slots[j] := slotAt_lt hj
  have HM : Hid (MapAt M w g all) := hm
  have gl := hm.lt
  clear hm
  rcases A.s.at_ with h0 | ⟨bs, os, rfl, hc⟩
  · omega
  obtain ⟨c0, c1, c2, c3, c4, c5⟩ := hc j hj
  have lt := cell_lt c0
  clear hc A
  generalize hsl : M.slots[j] = s at c0 c1 c2 c3 c4 c5
  rw [hsl] at hgood hs
  obtain ⟨r, ka, kb, u, i, nx⟩ := s
  dsimp only at c0 c1 c2 c3 c4 c5 hgood
  have HSL : Hid (slotAt M j = ⟨r, ka, kb, u, i, nx⟩) := hs
  clear hsl hs
  have hkey := hgood.2.2.1
  clear hgood
  have hbw : Below w.heap.size w ((w.alloc (.cells #[.slice (some ⟨bs, os, none⟩) M.slots.length cS, .slice aH M.heads.length cH, .slice aF M.free.length cF, .slice aL M.locks.length cL, .int .i64 M.now] 25)).alloc (.cells #[.int .i64 r, .int .i64 ka, .int .i64 kb, .int .i64 u, .bool i, .int .i64 nx] 39)) := below_alloc2 w _ _
  by_cases hr : r = 0
  · subst hr
    have HV : Hid (E0 = 5) := HE0.out.trans (by unfold slotC; rw [HSL.out, if_pos (.inl rfl)])
    go_enter Try.func91, Try.ntmps91
    go_wp2
    go_ret
    exact ⟨ret_int HV.out.symm, hbw⟩
  have hr' : (r == 0) = false := by simpa using hr
  cases i
  · have HV : Hid (E0 = 5) := HE0.out.trans (by unfold slotC; rw [HSL.out, if_pos (.inr rfl)])
    go_enter Try.func91, Try.ntmps91
    go_wp2
    go_ret
    exact ⟨ret_int HV.out.symm, hbw⟩
  have HC : Hid (E0 = if bucket ka kb M.heads.length ≠ b then 4 else if hasK M all (ka, kb) then 6 else 0) := HE0.out.trans (by
    have hk : keyAt M j = (ka, kb) := by unfold keyAt; rw [HSL.out]
    unfold slotC
    rw [hk, HSL.out]
    dsimp only
    rw [if_neg (by rintro (h | h); exact hr h; cases h)])
  have HK : Hid (keyB ka kb = true) := hkey
  clear hkey HE0
  go_enter Try.func91, Try.ntmps91
  go_wp2_with fail
  refine (bucket_ok _ _ _ _ HK.out n1.1 n1.2).mono ?_
  rintro e w1 ⟨rfl, hb1⟩
  have hbx : Below w.heap.size w w1 := hbw.trans (hb1.mono (by simp; omega))
  have s1 : w1.cell? ⟨w.heap.size + 1, 1, none⟩ = some (.int .i64 ka) := ((bcell hb1).1 _ _ (by simp)).trans (by simp)
  have s2 : w1.cell? ⟨w.heap.size + 1, 2, none⟩ = some (.int .i64 kb) := ((bcell hb1).1 _ _ (by simp)).trans (by simp)
  have hl := MapAt.look (MapAt.kept HM.out (hbx.block g gl)) HK.out
  clear hb1 hbw c0 c1 c2 c3 c4 c5
  by_cases hbb : bucket ka kb M.heads.length = b
  · have HD : Hid (E0 = if hasK M all (ka, kb) then 6 else 0) := HC.out.trans (by rw [if_neg (by simpa using hbb)])
    rw [hbb]
    have hbe : ((b : Int) != (b : Int)) = false := by simp
    cases hh : hasK M all (ka, kb)
    · rw [hh] at hl
      have HV : Hid (E0 = 0) := HD.out.trans (by rw [hh]; rfl)
      clear HC HD
      go_wp2
      go_ret
      exact ⟨ret_int HV.out.symm, hbx⟩
    · rw [hh] at hl
      have HV : Hid (E0 = 6) := HD.out.trans (by rw [hh]; rfl)
      clear HC HD
      go_wp2
      go_ret
      exact ⟨ret_int HV.out.symm, hbx⟩
  · have hbe : (bucket ka kb M.heads.length != (b : Int)) = true := by simpa using hbb
    have HV : Hid (E0 = 4) := HC.out.trans (by rw [if_pos hbb])
    clear HC
    generalize bucket ka kb M.heads.length = q at *
    go_wp2
    go_ret
    exact ⟨ret_int HV.out.symm, hbx⟩


end Go.Proofs.Ytaekgadokcmkfab.mm

/- The contract of mapped: what Check of chains finds, and the map from keys that are mapped to their slots. -/
namespace Go.Proofs.Ytaekgadokcmkfab.mm
open Go.ChangeShapes Go.WideShapes Go.ChangeAt Go.RowKit Go.Joins Go.Maps
set_option maxRecDepth 100000
set_option linter.unusedVariables false

theorem walkL_in {S : List Sl} {N : Nat} (hs : ∀ s ∈ S, s.next ≤ N) : ∀ (k : Nat) (n : Int), n ≤ N → ∀ a ∈ walkL S k n, 0 ≤ a ∧ a < N
  | 0, _, _, _, ha => by cases ha
  | k + 1, n, hn, a, ha => by
    simp only [walkL] at ha
    split at ha
    · rename_i h0
      rcases List.mem_cons.1 ha with rfl | ha
      · omega
      · refine walkL_in hs k (nextN S n) ?_ a ha
        unfold nextN
        by_cases hx : (n - 1).toNat < S.length
        · rw [getD_lt S _ hx]; exact hs _ (List.getElem_mem hx)
        · rw [List.getD_eq_getElem?_getD, List.getElem?_eq_none (by omega)]; show (0 : Int) ≤ N; omega
    · cases ha
theorem Ok.chIn {M : Mm} (h : Ok M) {b : Nat} (hb : b < M.heads.length) : ∀ a ∈ chL M b, 0 ≤ a ∧ a < M.slots.length :=
  walkL_in (fun s hs => ((inB_iff _ _ _).1 (slot_good (h.slot s hs)).2.2.2).2) _ _ ((inB_iff _ _ _).1 (h.headIn hb).2).2

theorem cell_map {w : World} {g o : Nat} {es : Array MapEntry} {clock : Nat} (h : w.heap[g]? = some (.map es clock)) : w.cell? ⟨g, o, none⟩ = none := by
  unfold World.cell?
  rw [h]
theorem IRow.turn {w w' : World} {ao : Option Addr} {cap g : Nat} {l : List Int} {es : Array MapEntry} {clock : Nat} (r : IRow w ao cap l) (hg : w.heap[g]? = some (.map es clock)) (h : ∀ k, k < w.heap.size → k ≠ g → w'.heap[k]? = w.heap[k]?) : IRow w' ao cap l := by
  refine ⟨r.le, r.max, r.nil, ?_⟩
  rcases r.at_ with h0 | ⟨b, o, e, hc⟩
  · exact .inl h0
  · refine .inr ⟨b, o, e, fun i hi => ?_⟩
    have hne : b ≠ g := by
      rintro rfl
      have := hc i hi
      rw [cell_map hg] at this
      cases this
    rw [World.cell?_of_block (a := ⟨b, o + i, none⟩) (h b (cell_lt (hc i hi)) hne)]
    exact hc i hi
theorem MapAt.blk {M : Mm} {w : World} {g : Nat} {l : List Int} (h : MapAt M w g l) : ∃ es clock, w.heap[g]? = some (.map es clock) := by
  obtain ⟨n, hn, D, ⟨es, clock, hg, F, hs, hD⟩, hat⟩ := h
  exact ⟨es, clock, hg⟩

theorem allTo_len (M : Mm) : ∀ b : Nat, (allTo M b).length ≤ b * M.slots.length
  | 0 => by simp [allTo]
  | b + 1 => by
    rw [allTo_succ, List.length_append, Nat.succ_mul]
    have := allTo_len M b
    have : (chL M b).length ≤ M.slots.length := walkL_len _ _ _
    omega

def MapIs (M : Mm) (Z : Int) (lo : Nat) (w : World) (v : Value) : Prop := (Z ≠ 0 → v = .map none) ∧ (Z = 0 → ∃ g, v = .map (some g) ∧ lo ≤ g ∧ MapAt M w g (allC M))

set_option maxHeartbeats 6400000 in
theorem mapped_any (M : Mm) (aS aH aF aL : Option Addr) (cS cH cF cL : Nat) (w : World) (A : At w aS aH aF aL cS cH cF cL M) :
    Calls Try.prog 48 #[.agg #[.slice aS M.slots.length cS, .slice aH M.heads.length cH, .slice aF M.free.length cF, .slice aL M.locks.length cL, .int .i64 M.now]] w fun e w' => ∃ v, e = .returned (.tuple #[v, .int .i64 (chkC M)]) ∧ MapIs M (chkC M) w.heap.size w' v ∧ Below w.heap.size w w' := by
  obtain ⟨Z, hZ⟩ : ∃ Z, Z = chkC M := ⟨_, rfl⟩
  rw [← hZ]
  have HZ : Hid (Z = chkC M) := hZ
  clear hZ
  obtain ⟨o1, ho1⟩ : ∃ o : Obj, o = .cells #[.slice aS M.slots.length cS, .slice aH M.heads.length cH, .slice aF M.free.length cF, .slice aL M.locks.length cL, .int .i64 M.now] 25 := ⟨_, rfl⟩
  have b0 : Below w.heap.size w (w.alloc o1) := one_below w o1
  have HB0 : Hid ((w.alloc o1).heap[w.heap.size]? = some o1) := heap_alloc_new _ _
  have HA : Hid (At w aS aH aF aL cS cH cF cL M) := A
  have HA0 : Hid _ := A.below b0
  clear A
  go_enter Try.func48, Try.ntmps48
  go_wp2_with fail
  rw [← ho1]
  generalize w.alloc o1 = W0 at *
  subst ho1
  refine (check_any M aS aH aF aL cS cH cF cL W0 HA0.out).mono ?_
  rintro e w1 ⟨rfl, hb1⟩
  have b1 := b0.trans (hb1.mono b0.size)
  have HB1 : Hid _ := (hb1.block w.heap.size (lt_of_block HB0.out)).trans HB0.out
  clear hb1 b0 HB0 HA0
  by_cases hE : chk M = 0
  rotate_left
  · have h' : (chk M != 0) = true := by simpa using hE
    have HV : Hid (Z = chk M) := HZ.out.trans (by unfold chkC; rw [if_pos hE])
    have HN : Hid (chk M ≠ 0) := hE
    clear HB1
    generalize chk M = E at *
    go_wp2
    go_ret2
    exact ⟨_, by rw [HV.out]; rfl, ⟨fun _ => rfl, fun h => absurd (HV.out ▸ h) HN.out⟩, b1⟩
  have hok := (chk_zero M).1 hE
  have n0 := hok.ns
  have n1 := hok.nh
  have HC : Hid (Z = chkB M M.heads.length 0 []) := HZ.out.trans (by unfold chkC; rw [if_neg (by simpa using hE)])
  rw [hE]
  clear hE HZ
  obtain ⟨q0, q1, q2, q3, q4, f0, f1, f2, f3, f4, qs⟩ := boxf HB1.out
  clear f0 f1 f2 f3 f4
  have HM1 : Hid (MapAt M (w1.alloc (.map #[] 0)) w1.heap.size []) := MapAt.made M w1
  have b2 := b1.alloc b1.size (.map #[] 0)
  have HB2 : Hid ((w1.alloc (.map #[] 0)).heap[w.heap.size]? = _) := (Below.heap_alloc _ _ _ qs).trans HB1.out
  have hmm := @run_makeMap Try.prog
  go_wp2
  clear q0 q1 q2 q3 q4 hmm
  go_loopw [21] (fun i wr => ∃ b : Nat, b ≤ M.heads.length ∧ i = .int .i64 b ∧ Hid (MapAt M wr w1.heap.size (allTo M b)) ∧ Below w.heap.size w wr ∧ Hid (wr.heap[w.heap.size]? = some (.cells #[.slice aS M.slots.length cS, .slice aH M.heads.length cH, .slice aF M.free.length cF, .slice aL M.locks.length cL, .int .i64 M.now] 25 (0, 0))) ∧ Hid (Z = chkB M (M.heads.length - b) b (allTo M b)))
    (fun i _ => M.heads.length - (intOf i).toNat)
  case atStart => exact ⟨0, Nat.zero_le _, rfl, HM1, b2, HB2, HC⟩
  case round =>
    obtain ⟨b, hb, rfl, HM, hbw, HB, HE⟩ := hrel
    clear HM1 HB2 b2 HC HB1 b1
    obtain ⟨q0, q1, q2, q3, q4, f0, f1, f2, f3, f4, qs'⟩ := boxf HB.out
    clear f0 f1 f2 f3 f4
    have gl := MapAt.lt HM.out
    by_cases hlt : b < M.heads.length
    · have HAr : Hid _ := HA.out.below hbw
      go_wp2_with fail
      refine (slotsOf_any M aS aH aF aL cS cH cF cL b wr HAr.out hok hlt).mono ?_
      rintro e w2 ⟨ao, cap, rfl, hrow, hb2⟩
      have hbx := hbw.trans (hb2.mono hbw.size)
      have HM2 : Hid (MapAt M w2 w1.heap.size (allTo M b)) := MapAt.kept HM.out (hb2.block _ gl)
      have HB2 : Hid (w2.heap[w.heap.size]? = _) := (hb2.block w.heap.size qs').trans HB.out
      have HS : Hid _ := chkB_step M b hlt
      clear HM HB HAr hbw hb2 q0 q1 q2 q3 q4
      cases hc : chOk M b
      · have HV : Hid (Z = 4) := HE.out.trans (HS.out.trans (by rw [hc]; rfl))
        have es : slotsE M b = 4 := by unfold slotsE; rw [hc]; rfl
        have el : slotsL M b = [] := by unfold slotsL; rw [hc]; rfl
        rw [es, el]
        clear hrow HS HE
        go_wp2
        go_ret2
        exact ⟨_, by rw [HV.out]; rfl, ⟨fun _ => rfl, fun h => by rw [HV.out] at h; cases h⟩, hbx⟩
      · have es : slotsE M b = 0 := by unfold slotsE; rw [hc]; rfl
        have el : slotsL M b = chL M b := by unfold slotsL; rw [hc]; rfl
        rw [es, el]
        rw [el] at hrow
        have HIn : Hid _ := hok.chIn hlt
        have HRow : Hid (IRow w2 ao cap (chL M b)) := hrow
        have hlen : (chL M b).length ≤ 12 := Nat.le_trans (walkL_len _ _ _) n0
        have HD : Hid (Z = if scanC M b (allTo M b) (chL M b) ≠ 0 then scanC M b (allTo M b) (chL M b) else chkB M (M.heads.length - (b + 1)) (b + 1) (allTo M (b + 1))) := HE.out.trans (HS.out.trans (by rw [hc]; rfl))
        have HSu : Hid (allTo M (b + 1) = allTo M b ++ chL M b) := allTo_succ M b
        clear hrow HS HE es el hc
        generalize chL M b = l at *
        go_wp2
        go_loopw [35] (fun i wr => ∃ k : Nat, k ≤ l.length ∧ i = .int .i64 k ∧ Hid (MapAt M wr w1.heap.size (allTo M b ++ l.take k)) ∧ Hid (IRow wr ao cap l) ∧ Below w.heap.size w wr ∧ Hid (wr.heap[w.heap.size]? = some (.cells #[.slice aS M.slots.length cS, .slice aH M.heads.length cH, .slice aF M.free.length cF, .slice aL M.locks.length cL, .int .i64 M.now] 25 (0, 0))) ∧ Hid (scanC M b (allTo M b) l = scanC M b (allTo M b ++ l.take k) (l.drop k)))
          (fun i _ => l.length - (intOf i).toNat)
        case atStart => exact ⟨0, Nat.zero_le _, rfl, by rw [List.take_zero, List.append_nil]; exact HM2, HRow, hbx, HB2, by rw [List.take_zero, List.append_nil, List.drop_zero]; exact rfl⟩
        case round =>
          obtain ⟨k, hk, rfl, HM3, HR3, hb3, HB3, HE3⟩ := hrel
          clear HM2 HRow hbx HB2
          obtain ⟨q0, q1, q2, q3, q4, f0, f1, f2, f3, f4, qs3⟩ := boxf HB3.out
          clear f0 f1 f2 f3 f4
          by_cases hlt3 : k < l.length
          · rcases HR3.out.at_ with h0 | ⟨bl, ol, rfl, hcl⟩
            · omega
            have d0 := hcl k hlt3
            clear hcl
            have hin := HIn.out l[k] (List.getElem_mem hlt3)
            obtain ⟨j, hj⟩ : ∃ j : Nat, l[k] = j := ⟨(l[k]).toNat, by omega⟩
            have HX : Hid (l[k] = j) := hj
            rw [hj] at d0 hin
            clear hj
            have hjs : j < M.slots.length := by omega
            have HA3 : Hid _ := HA.out.below hb3
            have HSt : Hid _ := scanC_drop M b (allTo M b) l k hlt3
            go_wp2_with fail
            refine (checkSlot_any M aS aH aF aL cS cH cF cL b j w1.heap.size (allTo M b ++ l.take k) wr HA3.out hok hlt hjs HM3.out).mono ?_
            rintro e w4 ⟨rfl, hb4⟩
            have hbx4 := hb3.trans (hb4.mono hb3.size)
            have HM4 : Hid (MapAt M w4 w1.heap.size (allTo M b ++ l.take k)) := MapAt.kept HM3.out (hb4.block _ (MapAt.lt HM3.out))
            have HB4 : Hid (w4.heap[w.heap.size]? = _) := (hb4.block w.heap.size qs3).trans HB3.out
            have HR4 : Hid _ := HR3.out.below hb4
            have HA4 : Hid _ := HA.out.below hbx4
            clear HM3 HB3 HR3 HA3 hb4 hb3 q0 q1 q2 q3 q4 d0
            by_cases hsc : slotC M b (allTo M b ++ l.take k) j = 0
            · rw [hsc]
              have HV : Hid (scanC M b (allTo M b) l = scanC M b (allTo M b ++ l.take (k + 1)) (l.drop (k + 1))) := HE3.out.trans (HSt.out.trans (by rw [HX.out, if_neg (by simpa using hsc)]))
              have hz := (slotC_zero M b _ _).1 hsc
              have hnk : hasK M (allTo M b ++ l.take k) (keyAt M j) = false := by
                cases hh : hasK M (allTo M b ++ l.take k) (keyAt M j)
                · rfl
                · exact absurd ((hasK_iff _ _ _).1 hh) hz.2
              have HNK : Hid _ := hnk
              clear hz hnk hsc HSt HE3
              obtain ⟨r0, r1, r2, r3, r4, g0, g1, g2, g3, g4, rs⟩ := boxf HB4.out
              clear g0 g1 g2 g3 g4
              have hgood := (slot_good (hok.slot _ (List.getElem_mem hjs))).2.2.1
              rcases HA4.out.s.at_ with h0 | ⟨bs, os, rfl, hcs⟩
              · omega
              obtain ⟨c0, c1, c2, c3, c4, c5⟩ := hcs j hjs
              clear hcs c0 c3 c4 c5
              have hsl : slotAt M j = M.slots[j] := slotAt_lt hjs
              have hkk : keyAt M j = (M.slots[j].a, M.slots[j].b) := by unfold keyAt; rw [hsl]
              have HKK : Hid (keyAt M j = (M.slots[j].a, M.slots[j].b)) := hkk
              have HSL : Hid (slotAt M j = M.slots[j]) := hsl
              clear hkk hsl
              obtain ⟨nn, hnn, D, ho, hat⟩ := HM4.out
              have HO : Hid (w4.ownsMap Try.prog 37 (plainElem Try.prog 3) w1.heap.size nn D) := ho
              have HAT : Hid _ := hat
              obtain ⟨es, clock, hgb⟩ := MapAt.blk HM4.out
              have HGB : Hid _ := hgb
              have hnn2 : nn < 140737488355328 := by
                have h1 := allTo_len M b
                have h2 : b * M.slots.length ≤ 4 * 12 := Nat.mul_le_mul (by omega) n0
                have h3 := hnn
                simp only [List.length_append, List.length_take] at h3
                omega
              clear ho hat hgb
              go_wp2_with (at_mapUpdate; (refine wpList_mapUpdate_own (H := Unit) _ rfl _ _ _ 80 rfl 37 3 law37 under80 (plainElem Try.prog 3) w1.heap.size nn D rfl HO.out (by unfold maxLen; omega) _ _ (kl (M.slots[j].a, M.slots[j].b)) rfl rfl (keyOf_kl (keyB_wf hgood).1 (keyB_wf hgood).2) (.lit (.int .i64 (j : Int))) [] (plainElem_int Try.underlying3 (wf64 (by omega) (by omega))) ?_; intro w5 ho5 hg5))
              have HM5 : Hid (MapAt M w5 w1.heap.size (allTo M b ++ l.take (k + 1))) := by
                have := MapAt.put (a := (j : Int)) hnn HO.out.isMap HAT.out (by rw [HSL.out]; exact hgood) HNK.out (by rw [HKK.out]; exact ho5)
                rw [List.take_succ_eq_append_getElem hlt3, ← List.append_assoc, HX.out]
                exact this
              have HB5 : Hid (w5.heap[w.heap.size]? = some (.cells #[.slice (some ⟨bs, os, none⟩) M.slots.length cS, .slice aH M.heads.length cH, .slice aF M.free.length cF, .slice aL M.locks.length cL, .int .i64 M.now] 25 (0, 0))) := (hg5.block w.heap.size rs (by simp; omega)).trans HB4.out
              have HR5 : Hid (IRow w5 (some ⟨bl, ol, none⟩) cap l) := HR4.out.turn HGB.out (fun k h1 h2 => hg5.block k h1 (by simpa using h2))
              have hb5 : Below w.heap.size w w5 := hbx4.grown hg5 hbx4.size (fun k h => by cases h; omega)
              go_roundw
              case rel => exact ⟨k + 1, by omega, by go_num, HM5, HR5, hb5, HB5, HV⟩
              case measure => simp [intOf]; omega
            · have h' : (slotC M b (allTo M b ++ l.take k) j != 0) = true := by simpa using hsc
              have HV : Hid (Z = slotC M b (allTo M b ++ l.take k) j) := by
                have h1 := HE3.out.trans (HSt.out.trans (by rw [HX.out, if_pos hsc]))
                have := HD.out
                rw [h1, if_pos hsc] at this
                exact this
              have HN : Hid (slotC M b (allTo M b ++ l.take k) j ≠ 0) := hsc
              clear HSt HE3 HD hsc HB4 HR4 HA4 HM4
              generalize slotC M b (allTo M b ++ l.take k) j = E at *
              go_wp2
              go_ret2
              exact ⟨_, by rw [HV.out]; rfl, ⟨fun _ => rfl, fun h => absurd (HV.out ▸ h) HN.out⟩, hbx4⟩
          · have hk' : k = l.length := by omega
            have HV : Hid (Z = chkB M (M.heads.length - (b + 1)) (b + 1) (allTo M (b + 1))) := by
              have h1 := HE3.out.trans (scanC_end M b (allTo M b) l k (by omega))
              have := HD.out
              rw [h1, if_neg (by simp)] at this
              exact this
            have HM6 : Hid (MapAt M wr w1.heap.size (allTo M (b + 1))) := by
              have := HM3.out
              rw [hk', List.take_length, ← HSu.out] at this
              exact this
            go_wp2
            go_roundw
            case rel => exact ⟨b + 1, by omega, by go_num, HM6, hb3, HB3, HV⟩
            case measure => simp [intOf]; omega
    · have hbe : b = M.heads.length := by omega
      have HV : Hid (Z = 0) := HE.out.trans (chkB_end M b (by omega) _)
      have HMf : Hid (MapAt M wr w1.heap.size (allC M)) := by
        have := HM.out
        rw [hbe] at this
        exact this
      go_wp2
      go_ret2
      exact ⟨_, by rw [HV.out]; rfl, ⟨fun h => absurd HV.out h, fun _ => ⟨w1.heap.size, rfl, by omega, HMf.out⟩⟩, hbw⟩


end Go.Proofs.Ytaekgadokcmkfab.mm

/- The contracts of chain.Check and chain.Slots. -/
namespace Go.Proofs.Ytaekgadokcmkfab.mm
open Go.ChangeShapes Go.WideShapes Go.ChangeAt Go.RowKit Go.Joins Go.Maps
set_option maxRecDepth 100000
set_option linter.unusedVariables false

set_option maxHeartbeats 800000 in
theorem chainCheck_any (M : Mm) (aS aH aF aL : Option Addr) (cS cH cF cL : Nat) (w : World) (A : At w aS aH aF aL cS cH cF cL M) :
    Calls Try.prog 10 #[.agg #[.slice aS M.slots.length cS, .slice aH M.heads.length cH, .slice aF M.free.length cF, .slice aL M.locks.length cL, .int .i64 M.now]] w fun e w' => e = .returned (.int .i64 (chkC M)) ∧ Below w.heap.size w w' := by
  have b0 : Below w.heap.size w (w.alloc (.cells #[.slice aS M.slots.length cS, .slice aH M.heads.length cH, .slice aF M.free.length cF, .slice aL M.locks.length cL, .int .i64 M.now] 25)) := one_below w _
  have HA0 : Hid _ := A.below b0
  clear A
  go_enter Try.func10, Try.ntmps10
  go_wp2_with fail
  refine (mapped_any M aS aH aF aL cS cH cF cL _ HA0.out).mono ?_
  rintro e w1 ⟨v, rfl, -, hb1⟩
  have b1 := b0.trans (hb1.mono b0.size)
  clear hb1 b0 HA0
  go_wp2
  go_ret
  exact ⟨rfl, b1⟩

def slotsCE (M : Mm) (b : Int) : Int := if chk M ≠ 0 then chk M else if inB b 0 ((M.heads.length : Int) - 1) = false then 5 else slotsE M b.toNat
def slotsCL (M : Mm) (b : Int) : List Int := if slotsCE M b = 0 then chL M b.toNat else []

theorem irow_nil (w : World) : IRow w none 0 [] := ⟨by decide, by decide, fun _ => rfl, .inl rfl⟩

set_option maxHeartbeats 1600000 in
theorem chainSlots_any (M : Mm) (aS aH aF aL : Option Addr) (cS cH cF cL : Nat) (b : Int) (w : World) (A : At w aS aH aF aL cS cH cF cL M) :
    Calls Try.prog 12 #[.agg #[.slice aS M.slots.length cS, .slice aH M.heads.length cH, .slice aF M.free.length cF, .slice aL M.locks.length cL, .int .i64 M.now], .int .i64 b] w fun e w' =>
      ∃ ao cap, e = .returned (.tuple #[.slice ao (slotsCL M b).length cap, .int .i64 (slotsCE M b)]) ∧ IRow w' ao cap (slotsCL M b) ∧ Below w.heap.size w w' := by
  obtain ⟨E0, hE0⟩ : ∃ E0, E0 = slotsCE M b := ⟨_, rfl⟩
  obtain ⟨L0, hL0⟩ : ∃ L0, L0 = slotsCL M b := ⟨_, rfl⟩
  rw [← hE0, ← hL0]
  have HE0 : Hid (E0 = slotsCE M b) := hE0
  have HL0 : Hid (L0 = slotsCL M b) := hL0
  clear hE0 hL0
  have m2 := A.h.max
  have n2 : M.heads.length ≤ 9223372036854775807 := by omega
  obtain ⟨o1, ho1⟩ : ∃ o : Obj, o = .cells #[.slice aS M.slots.length cS, .slice aH M.heads.length cH, .slice aF M.free.length cF, .slice aL M.locks.length cL, .int .i64 M.now] 25 := ⟨_, rfl⟩
  have b0 : Below w.heap.size w (w.alloc o1) := one_below w o1
  have HB0 : Hid ((w.alloc o1).heap[w.heap.size]? = some o1) := heap_alloc_new _ _
  have HA : Hid (At w aS aH aF aL cS cH cF cL M) := A
  have HA0 : Hid _ := A.below b0
  clear A
  go_enter Try.func12, Try.ntmps12
  go_wp2_with fail
  rw [← ho1]
  generalize w.alloc o1 = W0 at *
  subst ho1
  refine (check_any M aS aH aF aL cS cH cF cL W0 HA0.out).mono ?_
  rintro e w1 ⟨rfl, hb1⟩
  have b1 := b0.trans (hb1.mono b0.size)
  have HB1 : Hid _ := (hb1.block w.heap.size (lt_of_block HB0.out)).trans HB0.out
  clear hb1 b0 HB0 HA0
  by_cases hE : chk M = 0
  rotate_left
  · have h' : (chk M != 0) = true := by simpa using hE
    have HV : Hid (E0 = chk M ∧ L0 = []) := by
      have h : slotsCE M b = chk M := by unfold slotsCE; rw [if_pos hE]
      exact ⟨HE0.out.trans h, HL0.out.trans (by unfold slotsCL; rw [h, if_neg hE])⟩
    clear HB1
    generalize chk M = E at *
    go_wp2
    go_ret2
    exact ⟨none, 0, by rw [HV.out.1, HV.out.2]; rfl, by rw [HV.out.2]; exact irow_nil _, b1⟩
  have hok := (chk_zero M).1 hE
  have HC : Hid (chk M = 0) := hE
  rw [hE]
  clear hE
  obtain ⟨q0, q1, q2, q3, q4, f0, f1, f2, f3, f4, qs⟩ := boxf HB1.out
  clear f0 f1 f2 f3 f4
  go_wp2_with fail
  refine (hasChain_any aS aH aF aL _ _ _ _ cS cH cF cL _ _ w1 n2).mono ?_
  rintro e w2 ⟨rfl, hb2⟩
  have b2 := b1.trans (hb2.mono b1.size)
  have HB2 : Hid _ := (hb2.block w.heap.size qs).trans HB1.out
  clear hb2 b1 HB1 q0 q1 q2 q3 q4 qs
  cases hS : inB b 0 ((M.heads.length : Int) - 1)
  · have HV : Hid (E0 = 5 ∧ L0 = []) := by
      have h : slotsCE M b = 5 := by unfold slotsCE; rw [if_neg (by simpa using HC.out), if_pos hS]
      exact ⟨HE0.out.trans h, HL0.out.trans (by unfold slotsCL; rw [h, if_neg (by decide)])⟩
    go_wp2
    go_ret2
    exact ⟨none, 0, by rw [HV.out.1, HV.out.2]; rfl, by rw [HV.out.2]; exact irow_nil _, b2⟩
  have hbb := (inB_iff _ _ _).1 hS
  obtain ⟨c, rfl⟩ : ∃ c : Nat, b = c := ⟨b.toNat, by omega⟩
  have hc : c < M.heads.length := by omega
  have HV : Hid (E0 = slotsE M c ∧ L0 = slotsL M c) := by
    have h : slotsCE M c = slotsE M c := by unfold slotsCE; rw [if_neg (by simpa using HC.out), if_neg (by rw [hS]; simp)]; rfl
    refine ⟨HE0.out.trans h, HL0.out.trans ?_⟩
    unfold slotsCL
    rw [h]
    unfold slotsE slotsL
    cases chOk M c <;> simp
  obtain ⟨q0, q1, q2, q3, q4, f0, f1, f2, f3, f4, qs⟩ := boxf HB2.out
  clear f0 f1 f2 f3 f4 hS hbb
  have HA2 : Hid _ := HA.out.below b2
  go_wp2_with fail
  refine (slotsOf_any M aS aH aF aL cS cH cF cL c w2 HA2.out hok hc).mono ?_
  rintro e w3 ⟨ao, cap, rfl, hrow, hb3⟩
  have b3 := b2.trans (hb3.mono b2.size)
  have HR : Hid _ := hrow
  clear hrow hb3 b2 HB2 q0 q1 q2 q3 q4 qs HA2
  generalize slotsE M c = e1 at *
  generalize slotsL M c = l1 at *
  go_wp2
  go_ret2
  exact ⟨ao, cap, by rw [HV.out.1, HV.out.2]; rfl, by rw [HV.out.2]; exact HR.out, b3⟩


end Go.Proofs.Ytaekgadokcmkfab.mm
