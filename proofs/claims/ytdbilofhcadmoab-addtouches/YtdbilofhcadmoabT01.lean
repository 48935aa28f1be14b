/- The contract of the statements' own changed: how many slots are unlike. -/
import Derived.Test.YtdbilofhcadmoabC14
import Derived.Test.YtdbilofhcadmoabC15
import Derived.Test.YtdbilofhcadmoabC35
import Derived.Test.YtdbilofhcadmoabC13
import Derived.Test.YtdbilofhcadmoabC19
import Derived.Test.YtdbilofhcadmoabC30
import Derived.Test.YtdbilofhcadmoabC33
import Derived.Test.YtdbilofhcadmoabC34
import Derived.Deep.QuietTactic
import Derived.BigQuiet
import Derived.BigRegion
namespace Go.Proofs.Ytdbilofhcadmoab.mm
open Go.ChangeShapes Go.WideShapes Go.ChangeAt Go.RowKit Go.Joins Go.Deep
set_option maxRecDepth 100000
set_option linter.unusedVariables false

theorem changed_any (A B : Mm) (aS aH aF aL bS bH bF bL : Option Addr) (cS cH cF cL dS dH dF dL : Nat) (w : World) (r1 : SRow w aS cS A.slots) (r2 : SRow w bS dS B.slots) (hl : B.slots.length = A.slots.length) :
    Calls Try.prog 48 #[.agg #[.slice aS A.slots.length cS, .slice aH A.heads.length cH, .slice aF A.free.length cF, .slice aL A.locks.length cL, .int .i64 A.now], .agg #[.slice bS B.slots.length dS, .slice bH B.heads.length dH, .slice bF B.free.length dF, .slice bL B.locks.length dL, .int .i64 B.now]] w fun e w' => e = .returned (.int .i64 (dif A.slots B.slots A.slots.length : Nat)) ∧ Below w.heap.size w w' := by
  have m1 := r1.max; have m2 := r2.max
  have n1 : A.slots.length ≤ 9223372036854775807 := by omega
  have n2 : B.slots.length ≤ 9223372036854775807 := by omega
  obtain ⟨oa, hoa⟩ : ∃ o : Obj, o = .cells #[.slice aS A.slots.length cS, .slice aH A.heads.length cH, .slice aF A.free.length cF, .slice aL A.locks.length cL, .int .i64 A.now] 25 := ⟨_, rfl⟩
  obtain ⟨ob, hob⟩ : ∃ o : Obj, o = .cells #[.slice bS B.slots.length dS, .slice bH B.heads.length dH, .slice bF B.free.length dF, .slice bL B.locks.length dL, .int .i64 B.now] 25 := ⟨_, rfl⟩
  have HE0 : Hid (Env w ((w.alloc oa).alloc ob) [((w.alloc oa).heap.size, ob), (w.heap.size, oa)] []) := ((⟨Below.refl _ _, (fun p hp => by cases hp), (fun p hp => by cases hp)⟩ : Env w w [] []).alloc oa).alloc ob
  rw [show (w.alloc oa).heap.size = w.heap.size + 1 by simp] at HE0
  have HZ1 : Hid (∀ W : World, Below w.heap.size w W → SRow W aS cS A.slots) := fun W hb => r1.below hb
  have HZ2 : Hid (∀ W : World, Below w.heap.size w W → SRow W bS dS B.slots) := fun W hb => r2.below hb
  have HBk : Hid (∀ W : World, Env w W [(w.heap.size + 1, ob), (w.heap.size, oa)] [] → W.heap[w.heap.size]? = some (.cells #[.slice aS A.slots.length cS, .slice aH A.heads.length cH, .slice aF A.free.length cF, .slice aL A.locks.length cL, .int .i64 A.now] 25 (0, 0)) ∧ W.heap[w.heap.size + 1]? = some (.cells #[.slice bS B.slots.length dS, .slice bH B.heads.length dH, .slice bF B.free.length dF, .slice bL B.locks.length dL, .int .i64 B.now] 25 (0, 0))) := fun W E => ⟨hoa ▸ E.box _ (.tail _ (.head _)), hob ▸ E.box _ (.head _)⟩
  have HL : Hid (B.slots.length = A.slots.length) := hl
  clear r1 r2 hl
  go_enter Try.func48, Try.ntmps48
  obtain ⟨q0, q1, q2, q3, q4, -, -, -, -, -, qs⟩ := boxf (HBk.out _ HE0.out).1
  obtain ⟨p0, p1, p2, p3, p4, -, -, -, -, -, ps⟩ := boxf (HBk.out _ HE0.out).2
  go_wp2_with fail
  rw [← hoa, ← hob]
  generalize (w.alloc oa).alloc ob = W0 at *
  clear hoa hob HBk
  go_loopw [10, 5] (fun i n wr => ∃ k q : Nat, k ≤ A.slots.length ∧ i = .int .i64 k ∧ n = .int .i64 (dif A.slots B.slots k : Nat) ∧ wr = W0.drewN q) (fun i n _ => A.slots.length - (intOf i).toNat)
  case atStart => exact ⟨0, 0, Nat.zero_le _, rfl, rfl, rfl⟩
  case round =>
    obtain ⟨k, q, hk, rfl, rfl, rfl⟩ := hrel
    by_cases hlt : k < A.slots.length
    · have hlt2 : k < B.slots.length := by have := HL.out; omega
      rcases (HZ1.out _ HE0.out.bl).at_ with h0 | ⟨b1, o1, rfl, hc1⟩
      · omega
      rcases (HZ2.out _ HE0.out.bl).at_ with h0 | ⟨b2, o2, rfl, hc2⟩
      · omega
      obtain ⟨x0, x1, x2, x3, x4, x5⟩ := hc1 k hlt
      obtain ⟨y0, y1, y2, y3, y4, y5⟩ := hc2 k hlt2
      rw [← World.cell?_drewN (n := q)] at x0 x1 x2 x3 x4 x5 y0 y1 y2 y3 y4 y5 q0 q1 q2 q3 q4 p0 p1 p2 p3 p4
      clear hc1 hc2
      generalize hwq : W0.drewN q = wq at x0 x1 x2 x3 x4 x5 y0 y1 y2 y3 y4 y5 q0 q1 q2 q3 q4 p0 p1 p2 p3 p4 ⊢
      have HWQ : Hid _ := hwq
      clear hwq
      have hd0 := dif_le A.slots B.slots k
      have HD : Hid (dif A.slots B.slots (k + 1) = dif A.slots B.slots k + if slEq (A.slots[k]) (B.slots[k]) then 0 else 1) := by
        show dif A.slots B.slots k + _ = _
        rw [getD_lt _ _ hlt, getD_lt _ _ hlt2]
      generalize hx : A.slots[k] = x at x0 x1 x2 x3 x4 x5 HD
      generalize hy : B.slots[k] = y at y0 y1 y2 y3 y4 y5 HD
      generalize hdd : dif A.slots B.slots k = dd at hd0 HD ⊢
      have HDD : Hid _ := hdd
      clear hx hy hdd
      have hdm : dd ≤ 9223372036854775000 := by omega
      have se := sequal x y
      cases hxy : slEq x y
      · have HV : Hid (dif A.slots B.slots (k + 1) = dd + 1) := by have := HD.out; rw [hxy] at this; exact this
        go_wp2_with fail
        go_quiet (fail)
        go_wp2
        go_roundw
        case rel => exact ⟨k + 1, q + nq, by omega, by go_num, by rw [HV.out]; go_num, by rw [← HWQ.out, World.drewN_drewN]⟩
        case measure => simp [intOf]; omega
      · have HV : Hid (dif A.slots B.slots (k + 1) = dd) := by have := HD.out; rw [hxy] at this; exact this
        go_wp2_with fail
        go_quiet (fail)
        go_wp2
        go_roundw
        case rel => exact ⟨k + 1, q + nq, by omega, by go_num, by rw [HV.out], by rw [← HWQ.out, World.drewN_drewN]⟩
        case measure => simp [intOf]; omega
    · obtain rfl : k = A.slots.length := by omega
      go_wp2
      go_ret
      exact ⟨rfl, HE0.out.bl.trans ((drewN_below _ _).mono HE0.out.bl.size)⟩

end Go.Proofs.Ytdbilofhcadmoab.mm

/- Two memories of one's own, made in one row of the program, in whatever order its parts are reckoned. -/
namespace Go.Proofs.Ytdbilofhcadmoab.mm
open Go.ChangeShapes Go.WideShapes Go.ChangeAt Go.RowKit Go.Joins
set_option maxRecDepth 100000
set_option linter.unusedVariables false

def Rows4 (aS aH aF aL : Option Addr) (k : Nat) : Prop :=
  (∃ ad, aS = some ad ∧ ad.block = k) ∨ (∃ ad, aH = some ad ∧ ad.block = k) ∨ (∃ ad, aF = some ad ∧ ad.block = k) ∨ (∃ ad, aL = some ad ∧ ad.block = k)
theorem Rw.rows {w : World} {lo : Nat} {aS aH aF aL : Option Addr} {cS cH cF cL : Nat} {M : Mm} (r : Rw w lo aS aH aF aL cS cH cF cL M) : ∀ k, Rows4 aS aH aF aL k → lo ≤ k ∧ k < w.heap.size := by
  rintro k (⟨ad, rfl, rfl⟩ | ⟨ad, rfl, rfl⟩ | ⟨ad, rfl, rfl⟩ | ⟨ad, rfl, rfl⟩)
  · exact r.s.lt _ rfl
  · exact r.h.lt _ rfl
  · exact r.f.lt _ rfl
  · exact r.l.lt _ rfl
theorem Rw.low {w : World} {lo n : Nat} {aS aH aF aL : Option Addr} {cS cH cF cL : Nat} {M : Mm} (r : Rw w lo aS aH aF aL cS cH cF cL M) (h : n ≤ lo) : Rw w n aS aH aF aL cS cH cF cL M :=
  ⟨ownsRow_le r.s h, ownsRow_le r.h h, ownsRow_le r.f h, ownsRow_le r.l h, r.hf, r.hl, r.fl, Nat.le_trans h r.lz⟩

/- A value that is memory of one's own, its rows within Z. -/
def Got (W : World) (lo : Nat) (M : Mm) (Z : Nat → Prop) (v : Value) : Prop :=
  ∃ xS xH xF xL kS kH kF kL, v = .agg #[.slice xS M.slots.length kS, .slice xH M.heads.length kH, .slice xF M.free.length kF, .slice xL M.locks.length kL, .int .i64 M.now] ∧ Rw W lo xS xH xF xL kS kH kF kL M ∧ ∀ k, Rows4 xS xH xF xL k → Z k
theorem Got.below {W W' : World} {lo : Nat} {M : Mm} {Z : Nat → Prop} {v : Value} (g : Got W lo M Z v) (hb : Below W.heap.size W W') : Got W' lo M Z v := by
  obtain ⟨xS, xH, xF, xL, kS, kH, kF, kL, e, r, h⟩ := g
  exact ⟨xS, xH, xF, xL, kS, kH, kF, kL, e, r.below hb, h⟩
theorem Got.set5 {W : World} {lo B : Nat} {M : Mm} {Z : Nat → Prop} {v u0 u1 u2 u3 u4 : Value} (g : Got W lo M Z v) (hB : W.heap[B]? = some (.cells #[u0, u1, u2, u3, u4] 25 (0, 0))) (v0 v1 v2 v3 v4 : Value) : Got (set5 W B v0 v1 v2 v3 v4) lo M Z v := by
  obtain ⟨xS, xH, xF, xL, kS, kH, kF, kL, e, r, h⟩ := g
  exact ⟨xS, xH, xF, xL, kS, kH, kF, kL, e, r.set5 hB _ _ _ _ _, h⟩

def zeroTw : Obj := .cells #[.slice none 0 0, .slice none 0 0, .slice none 0 0, .slice none 0 0, .int .i64 0] 25 (0, 0)
def boxO (v : Value) : Obj := match v with
  | .agg cs => .cells cs 25 (0, 0)
  | _ => zeroTw
def updZ (Z : Nat → Nat → Prop) (i : Nat) (S : Nat → Prop) : Nat → Nat → Prop := fun j => if j = i then S else Z j
def New (W W' : World) (k : Nat) : Prop := W.heap.size ≤ k ∧ k < W'.heap.size

structure Tw (w2 : World) (M : Mm) (mv : Value) (L : Nat → Bool) (x : Nat → Value) (Z : Nat → Nat → Prop) (W : World) : Prop where
  bl : Below w2.heap.size w2 W
  rng : ∀ i k, Z i k → w2.heap.size ≤ k ∧ k < W.heap.size
  dj : ∀ i j k, Z i k → Z j k → i = j
  p0 : L 0 = true → x 18 = mv
  p2 : L 2 = true → x 20 = mv
  p1 : L 1 = true → Got W w2.heap.size M (Z 1) (x 19)
  p3 : L 3 = true → Got W w2.heap.size M (Z 3) (x 21)
  p4 : L 4 = true → ∃ B, x 5 = .pointer (some ⟨B, 0, none⟩) ∧ Z 4 B ∧ (L 6 = false → W.heap[B]? = some zeroTw) ∧ (L 6 = true → W.heap[B]? = some (boxO (x 19)))
  p5 : L 5 = true → ∃ B, x 6 = .pointer (some ⟨B, 0, none⟩) ∧ Z 5 B ∧ (L 7 = false → W.heap[B]? = some zeroTw) ∧ (L 7 = true → W.heap[B]? = some (boxO (x 21)))
  e6 : L 6 = true → L 1 = true ∧ L 4 = true
  e7 : L 7 = true → L 3 = true ∧ L 5 = true

section
variable {w2 W W' : World} {M : Mm} {mv v : Value} {L : Nat → Bool} {x : Nat → Value} {Z : Nat → Nat → Prop}

theorem Tw.start (hb : Below w2.heap.size w2 W) : Tw w2 M mv (fun _ => false) x (fun _ _ => False) W :=
  ⟨hb, (fun i k h => h.elim), (fun i j k h => h.elim), (fun h => by cases h), (fun h => by cases h), (fun h => by cases h), (fun h => by cases h), (fun h => by cases h), (fun h => by cases h), (fun h => by cases h), (fun h => by cases h)⟩

theorem box_below {B : Nat} {o : Obj} (h : W.heap[B]? = some o) (hb : Below W.heap.size W W') : W'.heap[B]? = some o := (hb.block B (lt_of_block h)).trans h

theorem tw_rng (T : Tw w2 M mv L x Z W) (hb : Below W.heap.size W W') (i : Nat) : ∀ j k, updZ Z i (New W W') j k → w2.heap.size ≤ k ∧ k < W'.heap.size := by
  intro j k h
  unfold updZ at h
  split at h
  · exact ⟨Nat.le_trans T.bl.size h.1, h.2⟩
  · exact ⟨(T.rng j k h).1, Nat.lt_of_lt_of_le (T.rng j k h).2 hb.size⟩
theorem tw_dj (T : Tw w2 M mv L x Z W) (i : Nat) : ∀ j l k, updZ Z i (New W W') j k → updZ Z i (New W W') l k → j = l := by
  intro j l k h1 h2
  unfold updZ at h1 h2
  split at h1 <;> split at h2
  · subst_vars; rfl
  · have := (T.rng l k h2).2; have := h1.1; omega
  · have := (T.rng j k h1).2; have := h2.1; omega
  · exact T.dj j l k h1 h2

theorem Tw.a0 (T : Tw w2 M mv L x Z W) : Tw w2 M mv (upd L 0) (updv x 18 mv) Z W :=
  ⟨T.bl, T.rng, T.dj, (fun _ => rfl), T.p2, T.p1, T.p3, T.p4, T.p5, T.e6, T.e7⟩
theorem Tw.a2 (T : Tw w2 M mv L x Z W) : Tw w2 M mv (upd L 2) (updv x 20 mv) Z W :=
  ⟨T.bl, T.rng, T.dj, T.p0, (fun _ => rfl), T.p1, T.p3, T.p4, T.p5, T.e6, T.e7⟩

theorem Tw.a1 (T : Tw w2 M mv L x Z W) (h1 : L 1 = false) (hb : Below W.heap.size W W') (g : Got W' W.heap.size M (fun _ => True) v) : Tw w2 M mv (upd L 1) (updv x 19 v) (updZ Z 1 (New W W')) W' := by
  have h6 : L 6 = false := by
    cases h : L 6
    · rfl
    · have := (T.e6 h).1; rw [h1] at this; cases this
  refine ⟨T.bl.trans (hb.mono T.bl.size), tw_rng T hb 1, tw_dj T 1, T.p0, T.p2, fun _ => ?_, fun h => (T.p3 h).below hb, fun h => ?_, fun h => ?_, (fun h => by have h' : L 6 = true := h; rw [h6] at h'; cases h'), T.e7⟩
  · obtain ⟨xS, xH, xF, xL, kS, kH, kF, kL, e, r, -⟩ := g
    exact ⟨xS, xH, xF, xL, kS, kH, kF, kL, e, r.low T.bl.size, fun k hk => r.rows k hk⟩
  · obtain ⟨B, e, hz, i1, i2⟩ := T.p4 h
    exact ⟨B, e, hz, (fun h' => box_below (i1 h') hb), fun h' => by have h'' : L 6 = true := h'; rw [h6] at h''; cases h''⟩
  · obtain ⟨B, e, hz, i1, i2⟩ := T.p5 h
    exact ⟨B, e, hz, (fun h' => box_below (i1 h') hb), fun h' => box_below (i2 h') hb⟩
theorem Tw.a3 (T : Tw w2 M mv L x Z W) (h3 : L 3 = false) (hb : Below W.heap.size W W') (g : Got W' W.heap.size M (fun _ => True) v) : Tw w2 M mv (upd L 3) (updv x 21 v) (updZ Z 3 (New W W')) W' := by
  have h7 : L 7 = false := by
    cases h : L 7
    · rfl
    · have := (T.e7 h).1; rw [h3] at this; cases this
  refine ⟨T.bl.trans (hb.mono T.bl.size), tw_rng T hb 3, tw_dj T 3, T.p0, T.p2, fun h => (T.p1 h).below hb, fun _ => ?_, fun h => ?_, fun h => ?_, T.e6, (fun h => by have h' : L 7 = true := h; rw [h7] at h'; cases h')⟩
  · obtain ⟨xS, xH, xF, xL, kS, kH, kF, kL, e, r, -⟩ := g
    exact ⟨xS, xH, xF, xL, kS, kH, kF, kL, e, r.low T.bl.size, fun k hk => r.rows k hk⟩
  · obtain ⟨B, e, hz, i1, i2⟩ := T.p4 h
    exact ⟨B, e, hz, (fun h' => box_below (i1 h') hb), fun h' => box_below (i2 h') hb⟩
  · obtain ⟨B, e, hz, i1, i2⟩ := T.p5 h
    exact ⟨B, e, hz, (fun h' => box_below (i1 h') hb), fun h' => by have h'' : L 7 = true := h'; rw [h7] at h''; cases h''⟩
theorem Tw.a4 (T : Tw w2 M mv L x Z W) (h4 : L 4 = false) : Tw w2 M mv (upd L 4) (updv x 5 (.pointer (some ⟨W.heap.size, 0, none⟩))) (updZ Z 4 (New W (W.alloc zeroTw))) (W.alloc zeroTw) := by
  have hb := one_below W zeroTw
  have h6 : L 6 = false := by
    cases h : L 6
    · rfl
    · have := (T.e6 h).2; rw [h4] at this; cases this
  refine ⟨T.bl.trans (hb.mono T.bl.size), tw_rng T hb 4, tw_dj T 4, T.p0, T.p2, fun h => (T.p1 h).below hb, fun h => (T.p3 h).below hb, fun _ => ?_, fun h => ?_, (fun h => by have h' : L 6 = true := h; rw [h6] at h'; cases h'), T.e7⟩
  · exact ⟨W.heap.size, rfl, ⟨Nat.le_refl _, lt_of_block (heap_alloc_new W zeroTw)⟩, (fun _ => heap_alloc_new W zeroTw), fun h' => by have h'' : L 6 = true := h'; rw [h6] at h''; cases h''⟩
  · obtain ⟨B, e, hz, i1, i2⟩ := T.p5 h
    exact ⟨B, e, hz, (fun h' => box_below (i1 h') hb), fun h' => box_below (i2 h') hb⟩
theorem Tw.a5 (T : Tw w2 M mv L x Z W) (h5 : L 5 = false) : Tw w2 M mv (upd L 5) (updv x 6 (.pointer (some ⟨W.heap.size, 0, none⟩))) (updZ Z 5 (New W (W.alloc zeroTw))) (W.alloc zeroTw) := by
  have hb := one_below W zeroTw
  have h7 : L 7 = false := by
    cases h : L 7
    · rfl
    · have := (T.e7 h).2; rw [h5] at this; cases this
  refine ⟨T.bl.trans (hb.mono T.bl.size), tw_rng T hb 5, tw_dj T 5, T.p0, T.p2, fun h => (T.p1 h).below hb, fun h => (T.p3 h).below hb, fun h => ?_, fun _ => ?_, T.e6, (fun h => by have h' : L 7 = true := h; rw [h7] at h'; cases h')⟩
  · obtain ⟨B, e, hz, i1, i2⟩ := T.p4 h
    exact ⟨B, e, hz, (fun h' => box_below (i1 h') hb), fun h' => box_below (i2 h') hb⟩
  · exact ⟨W.heap.size, rfl, ⟨Nat.le_refl _, lt_of_block (heap_alloc_new W zeroTw)⟩, (fun _ => heap_alloc_new W zeroTw), fun h' => by have h'' : L 7 = true := h'; rw [h7] at h''; cases h''⟩

theorem tw_other {B k : Nat} (h : k ≠ B) (v0 v1 v2 v3 v4 : Value) : (set5 W B v0 v1 v2 v3 v4).heap[k]? = W.heap[k]? := set5_other h
theorem tw_size {B : Nat} (v0 v1 v2 v3 v4 : Value) : (set5 W B v0 v1 v2 v3 v4).heap.size = W.heap.size := set5_size _ _ _ _ _ _ _
theorem tw_below {B n : Nat} (h : n ≤ B) (v0 v1 v2 v3 v4 : Value) : Below n W (set5 W B v0 v1 v2 v3 v4) := set5_below _ _ _ _ _ _ _ _ h

theorem Tw.a6 {B : Nat} {v0 v1 v2 v3 v4 : Value} (T : Tw w2 M mv L x Z W) (g1 : L 1 = true) (g4 : L 4 = true) (h6 : L 6 = false) (hB : x 5 = .pointer (some ⟨B, 0, none⟩)) (hv : x 19 = .agg #[v0, v1, v2, v3, v4]) : Tw w2 M mv (upd L 6) x Z (set5 W B v0 v1 v2 v3 v4) := by
  obtain ⟨B', e, hz, i1, -⟩ := T.p4 g4
  rw [hB] at e
  injection e with e; injection e with e; injection e with e
  subst e
  have hz0 := i1 h6
  refine ⟨T.bl.trans (tw_below (T.rng 4 B hz).1 _ _ _ _ _), fun i k h => by rw [tw_size]; exact T.rng i k h, T.dj, T.p0, T.p2, fun h => (T.p1 h).set5 hz0 _ _ _ _ _, fun h => (T.p3 h).set5 hz0 _ _ _ _ _, fun _ => ?_, fun h => ?_, fun _ => ⟨g1, g4⟩, T.e7⟩
  · refine ⟨B, hB, hz, (fun h => by cases h), fun _ => ?_⟩
    rw [hv]
    exact set5_block hz0 _ _ _ _ _
  · obtain ⟨B5, e5, hz5, j1, j2⟩ := T.p5 h
    have hne : B5 ≠ B := by rintro rfl; have := T.dj 4 5 _ hz hz5; omega
    exact ⟨B5, e5, hz5, (fun h' => (tw_other hne _ _ _ _ _).trans (j1 h')), fun h' => (tw_other hne _ _ _ _ _).trans (j2 h')⟩
theorem Tw.a7 {B : Nat} {v0 v1 v2 v3 v4 : Value} (T : Tw w2 M mv L x Z W) (g3 : L 3 = true) (g5 : L 5 = true) (h7 : L 7 = false) (hB : x 6 = .pointer (some ⟨B, 0, none⟩)) (hv : x 21 = .agg #[v0, v1, v2, v3, v4]) : Tw w2 M mv (upd L 7) x Z (set5 W B v0 v1 v2 v3 v4) := by
  obtain ⟨B', e, hz, i1, -⟩ := T.p5 g5
  rw [hB] at e
  injection e with e; injection e with e; injection e with e
  subst e
  have hz0 := i1 h7
  refine ⟨T.bl.trans (tw_below (T.rng 5 B hz).1 _ _ _ _ _), fun i k h => by rw [tw_size]; exact T.rng i k h, T.dj, T.p0, T.p2, fun h => (T.p1 h).set5 hz0 _ _ _ _ _, fun h => (T.p3 h).set5 hz0 _ _ _ _ _, fun h => ?_, fun _ => ?_, T.e6, fun _ => ⟨g3, g5⟩⟩
  · obtain ⟨B5, e5, hz5, j1, j2⟩ := T.p4 h
    have hne : B5 ≠ B := by rintro rfl; have := T.dj 4 5 _ hz5 hz; omega
    exact ⟨B5, e5, hz5, (fun h' => (tw_other hne _ _ _ _ _).trans (j1 h')), fun h' => (tw_other hne _ _ _ _ _).trans (j2 h')⟩
  · refine ⟨B, hB, hz, (fun h => by cases h), fun _ => ?_⟩
    rw [hv]
    exact set5_block hz0 _ _ _ _ _

/- In the end there are two boxes, with a memory of one's own in each, apart from each other. -/
theorem Tw.fin (T : Tw w2 M mv L x Z W) (g6 : L 6 = true) (g7 : L 7 = true)
    (m1 : M.slots.length * 48 ≤ 140737488351232) (m2 : M.heads.length * 8 ≤ 140737488351232) (m3 : M.free.length * 8 ≤ 140737488351000) (m4 : M.locks.length * 8 ≤ 140737488351232) :
    ∃ Bx By xS xH xF xL kS kH kF kL yS yH yF yL jS jH jF jL, x 5 = .pointer (some ⟨Bx, 0, none⟩) ∧ x 6 = .pointer (some ⟨By, 0, none⟩) ∧ Mine W Bx w2.heap.size xS xH xF xL kS kH kF kL M ∧ Mine W By w2.heap.size yS yH yF yL jS jH jF jL M ∧
      (∀ k, Foot Bx xS xH xF xL k → w2.heap.size ≤ k) ∧ (∀ k, Foot By yS yH yF yL k → w2.heap.size ≤ k ∧ ¬ Foot Bx xS xH xF xL k) := by
  obtain ⟨g1, g4⟩ := T.e6 g6
  obtain ⟨g3, g5⟩ := T.e7 g7
  obtain ⟨xS, xH, xF, xL, kS, kH, kF, kL, ex, rx, hx⟩ := T.p1 g1
  obtain ⟨yS, yH, yF, yL, jS, jH, jF, jL, ey, ry, hy⟩ := T.p3 g3
  obtain ⟨Bx, e5, z5, -, b5⟩ := T.p4 g4
  obtain ⟨By, e6, z6, -, b6⟩ := T.p5 g5
  have b5' := b5 g6
  have b6' := b6 g7
  rw [ex] at b5'
  rw [ey] at b6'
  have fx : ∀ k, Foot Bx xS xH xF xL k → Z 4 k ∨ Z 1 k := by
    rintro k (rfl | h)
    · exact .inl z5
    · exact .inr (hx k h)
  have fy : ∀ k, Foot By yS yH yF yL k → Z 5 k ∨ Z 3 k := by
    rintro k (rfl | h)
    · exact .inl z6
    · exact .inr (hy k h)
  refine ⟨Bx, By, xS, xH, xF, xL, kS, kH, kF, kL, yS, yH, yF, yL, jS, jH, jF, jL, e5, e6, ⟨b5', rx, m1, m2, m3, m4⟩, ⟨b6', ry, m1, m2, m3, m4⟩, fun k h => ?_, fun k h => ⟨?_, fun h' => ?_⟩⟩
  · rcases fx k h with h | h
    · exact (T.rng _ k h).1
    · exact (T.rng _ k h).1
  · rcases fy k h with h | h
    · exact (T.rng _ k h).1
    · exact (T.rng _ k h).1
  · rcases fy k h with h | h <;> rcases fx k h' with h' | h'
    · have := T.dj _ _ k h h'; omega
    · have := T.dj _ _ k h h'; omega
    · have := T.dj _ _ k h h'; omega
    · have := T.dj _ _ k h h'; omega
end

theorem wp_region_at {P : Program} {ops : Array Oper} {Q : Exit → Act → World → Prop} {id : Nat} {a : Act} {w : World} (hm : P.follows .mixedOrders = true) (mk : (Nat → Value) → Act) (ha : a = mk fun k => a.tmps.getD k undef) (J : (Nat → Value) → Array Bool → (Nat → Value) → World → Prop)
    (start : J (fun k => a.tmps.getD k undef) (Array.replicate ops.size false) (fun k => a.tmps.getD k undef) { w with drawn := w.drawn + 1 })
    (step : ∀ listed x W i, i ∈ Region.ready .any ops listed → J (fun k => a.tmps.getD k undef) listed x W → wpOp P ops Q i (fun a' W' => ∃ x', a' = mk x' ∧ J (fun k => a.tmps.getD k undef) (listed.setIfInBounds i true) x' W') (mk x) W)
    (fin : ∀ listed x W, Region.ready .any ops listed = [] → J (fun k => a.tmps.getD k undef) listed x W → Q .normal (mk x) W) : (Code.region id ops true).wp P Q a w :=
  wp_region_inv hm (fun l a' W => ∃ x, a' = mk x ∧ J (fun k => a.tmps.getD k undef) l x W) ⟨_, ha, start⟩ (by rintro l a' W i hi ⟨x, rfl, hJ⟩; exact step l x W i hi hJ) (by rintro l a' W hr ⟨x, rfl, hJ⟩; exact fin l x W hr hJ)

theorem wpOp_in {P : Program} {ops : Array Oper} {Q : Exit → Act → World → Prop} {i : Nat} {o : Oper} {a : Act} {w : World} {f : Nat} {args : Array Value} {K : Act → World → Prop} (hi : ops[i]? = some o) (hg : o.guard = none)
    (hr : (execOp a.eval o).run P w = .ok (.enter f args) w) (h : Calls P f args w fun e w' => ∃ v, e = .returned v ∧ K (a.put o.dst v) w') : wpOp P ops Q i K a w := by
  refine wpOp_step hi fun K' hK => ?_
  have hw : Region.wanted o (yielded ops a.tmps) = true := by unfold Region.wanted; rw [hg]
  rw [if_pos hw]
  unfold Oper.wp
  rw [hr]
  refine Calls.mono h ?_
  rintro e w' ⟨v, rfl, hv⟩
  exact hK _ _ hv

/- What a region's walk carries: what has come up, and what no operation changes. -/
def Jt (w2 : World) (M : Mm) (mv : Value) (b : Nat → Value) (listed : Array Bool) (x : Nat → Value) (W : World) : Prop :=
  listed.size = 8 ∧ (∀ k, k ∉ [5, 6, 18, 19, 20, 21] → x k = b k) ∧ ∃ Z, Tw w2 M mv (fun i => listed.getD i false) x Z W
theorem Jt.next {w2 W W' : World} {M : Mm} {mv : Value} {b : Nat → Value} {listed : Array Bool} {x x' : Nat → Value} {Z : Nat → Nat → Prop} (J : Jt w2 M mv b listed x W) (i : Nat) (hi : i < 8) (hx : ∀ k, k ∉ [5, 6, 18, 19, 20, 21] → x' k = x k) (T : Tw w2 M mv (upd (fun k => listed.getD k false) i) x' Z W') : Jt w2 M mv b (listed.setIfInBounds i true) x' W' := by
  refine ⟨by simpa using J.1, fun k hk => (hx k hk).trans (J.2.1 k hk), Z, ?_⟩
  have e : (fun k => (listed.setIfInBounds i true).getD k false) = upd (fun k => listed.getD k false) i := by
    funext k
    have := J.1
    by_cases hk : k = i
    · subst hk
      simp [upd, Array.getD_eq_getD_getElem?, J.1, hi]
    · have hk' : ¬ i = k := fun e => hk e.symm
      simp [upd, hk, Array.getD_eq_getD_getElem?, hk']
  rw [e]
  exact T
theorem updv_out {x : Nat → Value} {d : Nat} {v : Value} (hd : d ∈ [5, 6, 18, 19, 20, 21]) : ∀ k, k ∉ [5, 6, 18, 19, 20, 21] → updv x d v k = x k := by
  intro k hk
  unfold updv
  rw [if_neg]
  rintro rfl
  exact hk hd

end Go.Proofs.Ytdbilofhcadmoab.mm

/- Two memories of one's own, made in one row of the program, as in Two: in a law that is handed a number too. -/
namespace Go.Proofs.Ytdbilofhcadmoab.mm
open Go.ChangeShapes Go.WideShapes Go.ChangeAt Go.RowKit Go.Joins
set_option maxRecDepth 100000
set_option linter.unusedVariables false

structure TwT (w2 : World) (M : Mm) (mv : Value) (L : Nat → Bool) (x : Nat → Value) (Z : Nat → Nat → Prop) (W : World) : Prop where
  bl : Below w2.heap.size w2 W
  rng : ∀ i k, Z i k → w2.heap.size ≤ k ∧ k < W.heap.size
  dj : ∀ i j k, Z i k → Z j k → i = j
  p0 : L 0 = true → x 20 = mv
  p2 : L 2 = true → x 22 = mv
  p1 : L 1 = true → Got W w2.heap.size M (Z 1) (x 21)
  p3 : L 3 = true → Got W w2.heap.size M (Z 3) (x 23)
  p4 : L 4 = true → ∃ B, x 7 = .pointer (some ⟨B, 0, none⟩) ∧ Z 4 B ∧ (L 6 = false → W.heap[B]? = some zeroTw) ∧ (L 6 = true → W.heap[B]? = some (boxO (x 21)))
  p5 : L 5 = true → ∃ B, x 8 = .pointer (some ⟨B, 0, none⟩) ∧ Z 5 B ∧ (L 7 = false → W.heap[B]? = some zeroTw) ∧ (L 7 = true → W.heap[B]? = some (boxO (x 23)))
  e6 : L 6 = true → L 1 = true ∧ L 4 = true
  e7 : L 7 = true → L 3 = true ∧ L 5 = true

section
variable {w2 W W' : World} {M : Mm} {mv v : Value} {L : Nat → Bool} {x : Nat → Value} {Z : Nat → Nat → Prop}

theorem TwT.start (hb : Below w2.heap.size w2 W) : TwT w2 M mv (fun _ => false) x (fun _ _ => False) W :=
  ⟨hb, (fun i k h => h.elim), (fun i j k h => h.elim), (fun h => by cases h), (fun h => by cases h), (fun h => by cases h), (fun h => by cases h), (fun h => by cases h), (fun h => by cases h), (fun h => by cases h), (fun h => by cases h)⟩


theorem twT_rng (T : TwT w2 M mv L x Z W) (hb : Below W.heap.size W W') (i : Nat) : ∀ j k, updZ Z i (New W W') j k → w2.heap.size ≤ k ∧ k < W'.heap.size := by
  intro j k h
  unfold updZ at h
  split at h
  · exact ⟨Nat.le_trans T.bl.size h.1, h.2⟩
  · exact ⟨(T.rng j k h).1, Nat.lt_of_lt_of_le (T.rng j k h).2 hb.size⟩
theorem twT_dj (T : TwT w2 M mv L x Z W) (i : Nat) : ∀ j l k, updZ Z i (New W W') j k → updZ Z i (New W W') l k → j = l := by
  intro j l k h1 h2
  unfold updZ at h1 h2
  split at h1 <;> split at h2
  · subst_vars; rfl
  · have := (T.rng l k h2).2; have := h1.1; omega
  · have := (T.rng j k h1).2; have := h2.1; omega
  · exact T.dj j l k h1 h2

theorem TwT.a0 (T : TwT w2 M mv L x Z W) : TwT w2 M mv (upd L 0) (updv x 20 mv) Z W :=
  ⟨T.bl, T.rng, T.dj, (fun _ => rfl), T.p2, T.p1, T.p3, T.p4, T.p5, T.e6, T.e7⟩
theorem TwT.a2 (T : TwT w2 M mv L x Z W) : TwT w2 M mv (upd L 2) (updv x 22 mv) Z W :=
  ⟨T.bl, T.rng, T.dj, T.p0, (fun _ => rfl), T.p1, T.p3, T.p4, T.p5, T.e6, T.e7⟩

theorem TwT.a1 (T : TwT w2 M mv L x Z W) (h1 : L 1 = false) (hb : Below W.heap.size W W') (g : Got W' W.heap.size M (fun _ => True) v) : TwT w2 M mv (upd L 1) (updv x 21 v) (updZ Z 1 (New W W')) W' := by
  have h6 : L 6 = false := by
    cases h : L 6
    · rfl
    · have := (T.e6 h).1; rw [h1] at this; cases this
  refine ⟨T.bl.trans (hb.mono T.bl.size), twT_rng T hb 1, twT_dj T 1, T.p0, T.p2, fun _ => ?_, fun h => (T.p3 h).below hb, fun h => ?_, fun h => ?_, (fun h => by have h' : L 6 = true := h; rw [h6] at h'; cases h'), T.e7⟩
  · obtain ⟨xS, xH, xF, xL, kS, kH, kF, kL, e, r, -⟩ := g
    exact ⟨xS, xH, xF, xL, kS, kH, kF, kL, e, r.low T.bl.size, fun k hk => r.rows k hk⟩
  · obtain ⟨B, e, hz, i1, i2⟩ := T.p4 h
    exact ⟨B, e, hz, (fun h' => box_below (i1 h') hb), fun h' => by have h'' : L 6 = true := h'; rw [h6] at h''; cases h''⟩
  · obtain ⟨B, e, hz, i1, i2⟩ := T.p5 h
    exact ⟨B, e, hz, (fun h' => box_below (i1 h') hb), fun h' => box_below (i2 h') hb⟩
theorem TwT.a3 (T : TwT w2 M mv L x Z W) (h3 : L 3 = false) (hb : Below W.heap.size W W') (g : Got W' W.heap.size M (fun _ => True) v) : TwT w2 M mv (upd L 3) (updv x 23 v) (updZ Z 3 (New W W')) W' := by
  have h7 : L 7 = false := by
    cases h : L 7
    · rfl
    · have := (T.e7 h).1; rw [h3] at this; cases this
  refine ⟨T.bl.trans (hb.mono T.bl.size), twT_rng T hb 3, twT_dj T 3, T.p0, T.p2, fun h => (T.p1 h).below hb, fun _ => ?_, fun h => ?_, fun h => ?_, T.e6, (fun h => by have h' : L 7 = true := h; rw [h7] at h'; cases h')⟩
  · obtain ⟨xS, xH, xF, xL, kS, kH, kF, kL, e, r, -⟩ := g
    exact ⟨xS, xH, xF, xL, kS, kH, kF, kL, e, r.low T.bl.size, fun k hk => r.rows k hk⟩
  · obtain ⟨B, e, hz, i1, i2⟩ := T.p4 h
    exact ⟨B, e, hz, (fun h' => box_below (i1 h') hb), fun h' => box_below (i2 h') hb⟩
  · obtain ⟨B, e, hz, i1, i2⟩ := T.p5 h
    exact ⟨B, e, hz, (fun h' => box_below (i1 h') hb), fun h' => by have h'' : L 7 = true := h'; rw [h7] at h''; cases h''⟩
theorem TwT.a4 (T : TwT w2 M mv L x Z W) (h4 : L 4 = false) : TwT w2 M mv (upd L 4) (updv x 7 (.pointer (some ⟨W.heap.size, 0, none⟩))) (updZ Z 4 (New W (W.alloc zeroTw))) (W.alloc zeroTw) := by
  have hb := one_below W zeroTw
  have h6 : L 6 = false := by
    cases h : L 6
    · rfl
    · have := (T.e6 h).2; rw [h4] at this; cases this
  refine ⟨T.bl.trans (hb.mono T.bl.size), twT_rng T hb 4, twT_dj T 4, T.p0, T.p2, fun h => (T.p1 h).below hb, fun h => (T.p3 h).below hb, fun _ => ?_, fun h => ?_, (fun h => by have h' : L 6 = true := h; rw [h6] at h'; cases h'), T.e7⟩
  · exact ⟨W.heap.size, rfl, ⟨Nat.le_refl _, lt_of_block (heap_alloc_new W zeroTw)⟩, (fun _ => heap_alloc_new W zeroTw), fun h' => by have h'' : L 6 = true := h'; rw [h6] at h''; cases h''⟩
  · obtain ⟨B, e, hz, i1, i2⟩ := T.p5 h
    exact ⟨B, e, hz, (fun h' => box_below (i1 h') hb), fun h' => box_below (i2 h') hb⟩
theorem TwT.a5 (T : TwT w2 M mv L x Z W) (h5 : L 5 = false) : TwT w2 M mv (upd L 5) (updv x 8 (.pointer (some ⟨W.heap.size, 0, none⟩))) (updZ Z 5 (New W (W.alloc zeroTw))) (W.alloc zeroTw) := by
  have hb := one_below W zeroTw
  have h7 : L 7 = false := by
    cases h : L 7
    · rfl
    · have := (T.e7 h).2; rw [h5] at this; cases this
  refine ⟨T.bl.trans (hb.mono T.bl.size), twT_rng T hb 5, twT_dj T 5, T.p0, T.p2, fun h => (T.p1 h).below hb, fun h => (T.p3 h).below hb, fun h => ?_, fun _ => ?_, T.e6, (fun h => by have h' : L 7 = true := h; rw [h7] at h'; cases h')⟩
  · obtain ⟨B, e, hz, i1, i2⟩ := T.p4 h
    exact ⟨B, e, hz, (fun h' => box_below (i1 h') hb), fun h' => box_below (i2 h') hb⟩
  · exact ⟨W.heap.size, rfl, ⟨Nat.le_refl _, lt_of_block (heap_alloc_new W zeroTw)⟩, (fun _ => heap_alloc_new W zeroTw), fun h' => by have h'' : L 7 = true := h'; rw [h7] at h''; cases h''⟩


theorem TwT.a6 {B : Nat} {v0 v1 v2 v3 v4 : Value} (T : TwT w2 M mv L x Z W) (g1 : L 1 = true) (g4 : L 4 = true) (h6 : L 6 = false) (hB : x 7 = .pointer (some ⟨B, 0, none⟩)) (hv : x 21 = .agg #[v0, v1, v2, v3, v4]) : TwT w2 M mv (upd L 6) x Z (set5 W B v0 v1 v2 v3 v4) := by
  obtain ⟨B', e, hz, i1, -⟩ := T.p4 g4
  rw [hB] at e
  injection e with e; injection e with e; injection e with e
  subst e
  have hz0 := i1 h6
  refine ⟨T.bl.trans (tw_below (T.rng 4 B hz).1 _ _ _ _ _), fun i k h => by rw [tw_size]; exact T.rng i k h, T.dj, T.p0, T.p2, fun h => (T.p1 h).set5 hz0 _ _ _ _ _, fun h => (T.p3 h).set5 hz0 _ _ _ _ _, fun _ => ?_, fun h => ?_, fun _ => ⟨g1, g4⟩, T.e7⟩
  · refine ⟨B, hB, hz, (fun h => by cases h), fun _ => ?_⟩
    rw [hv]
    exact set5_block hz0 _ _ _ _ _
  · obtain ⟨B5, e5, hz5, j1, j2⟩ := T.p5 h
    have hne : B5 ≠ B := by rintro rfl; have := T.dj 4 5 _ hz hz5; omega
    exact ⟨B5, e5, hz5, (fun h' => (tw_other hne _ _ _ _ _).trans (j1 h')), fun h' => (tw_other hne _ _ _ _ _).trans (j2 h')⟩
theorem TwT.a7 {B : Nat} {v0 v1 v2 v3 v4 : Value} (T : TwT w2 M mv L x Z W) (g3 : L 3 = true) (g5 : L 5 = true) (h7 : L 7 = false) (hB : x 8 = .pointer (some ⟨B, 0, none⟩)) (hv : x 23 = .agg #[v0, v1, v2, v3, v4]) : TwT w2 M mv (upd L 7) x Z (set5 W B v0 v1 v2 v3 v4) := by
  obtain ⟨B', e, hz, i1, -⟩ := T.p5 g5
  rw [hB] at e
  injection e with e; injection e with e; injection e with e
  subst e
  have hz0 := i1 h7
  refine ⟨T.bl.trans (tw_below (T.rng 5 B hz).1 _ _ _ _ _), fun i k h => by rw [tw_size]; exact T.rng i k h, T.dj, T.p0, T.p2, fun h => (T.p1 h).set5 hz0 _ _ _ _ _, fun h => (T.p3 h).set5 hz0 _ _ _ _ _, fun h => ?_, fun _ => ?_, T.e6, fun _ => ⟨g3, g5⟩⟩
  · obtain ⟨B5, e5, hz5, j1, j2⟩ := T.p4 h
    have hne : B5 ≠ B := by rintro rfl; have := T.dj 4 5 _ hz5 hz; omega
    exact ⟨B5, e5, hz5, (fun h' => (tw_other hne _ _ _ _ _).trans (j1 h')), fun h' => (tw_other hne _ _ _ _ _).trans (j2 h')⟩
  · refine ⟨B, hB, hz, (fun h => by cases h), fun _ => ?_⟩
    rw [hv]
    exact set5_block hz0 _ _ _ _ _

/- In the end there are two boxes, with a memory of one's own in each, apart from each other. -/
theorem TwT.fin (T : TwT w2 M mv L x Z W) (g6 : L 6 = true) (g7 : L 7 = true)
    (m1 : M.slots.length * 48 ≤ 140737488351232) (m2 : M.heads.length * 8 ≤ 140737488351232) (m3 : M.free.length * 8 ≤ 140737488351000) (m4 : M.locks.length * 8 ≤ 140737488351232) :
    ∃ Bx By xS xH xF xL kS kH kF kL yS yH yF yL jS jH jF jL, x 7 = .pointer (some ⟨Bx, 0, none⟩) ∧ x 8 = .pointer (some ⟨By, 0, none⟩) ∧ Mine W Bx w2.heap.size xS xH xF xL kS kH kF kL M ∧ Mine W By w2.heap.size yS yH yF yL jS jH jF jL M ∧
      (∀ k, Foot Bx xS xH xF xL k → w2.heap.size ≤ k) ∧ (∀ k, Foot By yS yH yF yL k → w2.heap.size ≤ k ∧ ¬ Foot Bx xS xH xF xL k) := by
  obtain ⟨g1, g4⟩ := T.e6 g6
  obtain ⟨g3, g5⟩ := T.e7 g7
  obtain ⟨xS, xH, xF, xL, kS, kH, kF, kL, ex, rx, hx⟩ := T.p1 g1
  obtain ⟨yS, yH, yF, yL, jS, jH, jF, jL, ey, ry, hy⟩ := T.p3 g3
  obtain ⟨Bx, e5, z5, -, b5⟩ := T.p4 g4
  obtain ⟨By, e6, z6, -, b6⟩ := T.p5 g5
  have b5' := b5 g6
  have b6' := b6 g7
  rw [ex] at b5'
  rw [ey] at b6'
  have fx : ∀ k, Foot Bx xS xH xF xL k → Z 4 k ∨ Z 1 k := by
    rintro k (rfl | h)
    · exact .inl z5
    · exact .inr (hx k h)
  have fy : ∀ k, Foot By yS yH yF yL k → Z 5 k ∨ Z 3 k := by
    rintro k (rfl | h)
    · exact .inl z6
    · exact .inr (hy k h)
  refine ⟨Bx, By, xS, xH, xF, xL, kS, kH, kF, kL, yS, yH, yF, yL, jS, jH, jF, jL, e5, e6, ⟨b5', rx, m1, m2, m3, m4⟩, ⟨b6', ry, m1, m2, m3, m4⟩, fun k h => ?_, fun k h => ⟨?_, fun h' => ?_⟩⟩
  · rcases fx k h with h | h
    · exact (T.rng _ k h).1
    · exact (T.rng _ k h).1
  · rcases fy k h with h | h
    · exact (T.rng _ k h).1
    · exact (T.rng _ k h).1
  · rcases fy k h with h | h <;> rcases fx k h' with h' | h'
    · have := T.dj _ _ k h h'; omega
    · have := T.dj _ _ k h h'; omega
    · have := T.dj _ _ k h h'; omega
    · have := T.dj _ _ k h h'; omega
end

/- What a region's walk carries: what has come up, and what no operation changes. -/
def JtT (w2 : World) (M : Mm) (mv : Value) (b : Nat → Value) (listed : Array Bool) (x : Nat → Value) (W : World) : Prop :=
  listed.size = 8 ∧ (∀ k, k ∉ [7, 8, 20, 21, 22, 23] → x k = b k) ∧ ∃ Z, TwT w2 M mv (fun i => listed.getD i false) x Z W
theorem JtT.next {w2 W W' : World} {M : Mm} {mv : Value} {b : Nat → Value} {listed : Array Bool} {x x' : Nat → Value} {Z : Nat → Nat → Prop} (J : JtT w2 M mv b listed x W) (i : Nat) (hi : i < 8) (hx : ∀ k, k ∉ [7, 8, 20, 21, 22, 23] → x' k = x k) (T : TwT w2 M mv (upd (fun k => listed.getD k false) i) x' Z W') : JtT w2 M mv b (listed.setIfInBounds i true) x' W' := by
  refine ⟨by simpa using J.1, fun k hk => (hx k hk).trans (J.2.1 k hk), Z, ?_⟩
  have e : (fun k => (listed.setIfInBounds i true).getD k false) = upd (fun k => listed.getD k false) i := by
    funext k
    have := J.1
    by_cases hk : k = i
    · subst hk
      simp [upd, Array.getD_eq_getD_getElem?, J.1, hi]
    · have hk' : ¬ i = k := fun e => hk e.symm
      simp [upd, hk, Array.getD_eq_getD_getElem?, hk']
  rw [e]
  exact T
theorem updv_outT {x : Nat → Value} {d : Nat} {v : Value} (hd : d ∈ [7, 8, 20, 21, 22, 23]) : ∀ k, k ∉ [7, 8, 20, 21, 22, 23] → updv x d v k = x k := by
  intro k hk
  unfold updv
  rw [if_neg]
  rintro rfl
  exact hk hd

end Go.Proofs.Ytdbilofhcadmoab.mm

/- Two steps in one row of the program, one on each memory, and what they answer held against each other: in whatever order the parts are reckoned. -/
namespace Go.Proofs.Ytdbilofhcadmoab.mm
open Go.ChangeShapes Go.WideShapes Go.ChangeAt Go.RowKit Go.Joins
set_option maxRecDepth 100000
set_option linter.unusedVariables false

def fval (g : Fr) (a : Option Addr) (c : Nat) : Value := .agg #[.int .i64 g.c.kind, .int .i64 g.c.a, .int .i64 g.c.b, .int .i64 g.c.time, .int .i64 g.c.bk, .int .i64 g.c.slot, .int .i64 g.pl, .int .i64 g.cur, .int .i64 g.prev, .int .i64 g.slot, .int .i64 g.n, .slice a g.keys.length c, .bool g.done, .int .i64 g.e]

structure Ts (w : World) (Lb : List (Nat × Obj)) (fv : Value) (g : Fr) (M N : Mm) (Bx By lo : Nat) (L : Nat → Bool) (x : Nat → Value) (Zx Zy : Nat → Prop) (W : World) : Prop where
  ev : Env w W Lb []
  hx : Has W Bx lo Zx (if L 1 then N else M)
  hy : Has W By lo Zy (if L 3 then N else M)
  rx : ∀ k, Zx k → w.heap.size + 2 ≤ k ∧ k < W.heap.size
  ry : ∀ k, Zy k → w.heap.size + 2 ≤ k ∧ k < W.heap.size
  dj : ∀ k, Zx k → ¬ Zy k
  p0 : L 0 = true → x 22 = fv
  p2 : L 2 = true → x 24 = fv
  p1 : L 1 = true → ∃ a c, x 23 = fval g a c ∧ KRow W a c g.keys ∧ (L 3 = false → ∀ ad, a = some ad → ¬ Zy ad.block)
  p3 : L 3 = true → ∃ a c, x 25 = fval g a c ∧ KRow W a c g.keys
  p4 : L 4 = true → x 26 = .bool true
  p5 : L 5 = true → x 27 = .bool true
  p6 : L 6 = true → Ans 0 W (x 28) N
  p7 : L 7 = true → Ans 0 W (x 29) N
  p8 : L 8 = true → x 30 = .bool true
  p9 : L 9 = true → x 31 = .bool true
  p10 : L 10 = true → x 4 = .bool true
  e3 : L 3 = true → L 1 = true
  e4 : L 4 = true → L 3 = true
  e5 : L 5 = true → L 4 = true
  e6 : L 6 = true → L 5 = true
  e7 : L 7 = true → L 5 = true

section
variable {w W W' : World} {Lb : List (Nat × Obj)} {fv v : Value} {g : Fr} {M N : Mm} {Bx By lo : Nat} {L : Nat → Bool} {x : Nat → Value} {Zx Zy : Nat → Prop}

theorem Ts.start (E : Env w W Lb []) (hx : Has W Bx lo Zx M) (hy : Has W By lo Zy M) (rx : ∀ k, Zx k → w.heap.size + 2 ≤ k ∧ k < W.heap.size) (ry : ∀ k, Zy k → w.heap.size + 2 ≤ k ∧ k < W.heap.size) (dj : ∀ k, Zx k → ¬ Zy k) : Ts w Lb fv g M N Bx By lo (fun _ => false) x Zx Zy W :=
  ⟨E, hx, hy, rx, ry, dj, (fun h => by cases h), (fun h => by cases h), (fun h => by cases h), (fun h => by cases h), (fun h => by cases h), (fun h => by cases h), (fun h => by cases h), (fun h => by cases h), (fun h => by cases h), (fun h => by cases h), (fun h => by cases h), (fun h => by cases h), (fun h => by cases h), (fun h => by cases h), (fun h => by cases h), (fun h => by cases h)⟩

theorem Ts.below (T : Ts w Lb fv g M N Bx By lo L x Zx Zy W) (hb : Below W.heap.size W W') : Ts w Lb fv g M N Bx By lo L x Zx Zy W' :=
  ⟨T.ev.below hb, T.hx.below hb, T.hy.below hb, (fun k h => ⟨(T.rx k h).1, Nat.lt_of_lt_of_le (T.rx k h).2 hb.size⟩), (fun k h => ⟨(T.ry k h).1, Nat.lt_of_lt_of_le (T.ry k h).2 hb.size⟩), T.dj, T.p0, T.p2,
    (fun h => by obtain ⟨a, c, e, r, z⟩ := T.p1 h; exact ⟨a, c, e, r.below hb, z⟩), (fun h => by obtain ⟨a, c, e, r⟩ := T.p3 h; exact ⟨a, c, e, r.below hb⟩), T.p4, T.p5, (fun h => (T.p6 h).below hb), (fun h => (T.p7 h).below hb), T.p8, T.p9, T.p10, T.e3, T.e4, T.e5, T.e6, T.e7⟩

theorem Ts.b0 (T : Ts w Lb fv g M N Bx By lo L x Zx Zy W) : Ts w Lb fv g M N Bx By lo (upd L 0) (updv x 22 fv) Zx Zy W :=
  ⟨T.ev, T.hx, T.hy, T.rx, T.ry, T.dj, (fun _ => rfl), T.p2, T.p1, T.p3, T.p4, T.p5, T.p6, T.p7, T.p8, T.p9, T.p10, T.e3, T.e4, T.e5, T.e6, T.e7⟩
theorem Ts.b2 (T : Ts w Lb fv g M N Bx By lo L x Zx Zy W) : Ts w Lb fv g M N Bx By lo (upd L 2) (updv x 24 fv) Zx Zy W :=
  ⟨T.ev, T.hx, T.hy, T.rx, T.ry, T.dj, T.p0, (fun _ => rfl), T.p1, T.p3, T.p4, T.p5, T.p6, T.p7, T.p8, T.p9, T.p10, T.e3, T.e4, T.e5, T.e6, T.e7⟩
theorem Ts.b4 (T : Ts w Lb fv g M N Bx By lo L x Zx Zy W) (h3 : L 3 = true) : Ts w Lb fv g M N Bx By lo (upd L 4) (updv x 26 (.bool true)) Zx Zy W :=
  ⟨T.ev, T.hx, T.hy, T.rx, T.ry, T.dj, T.p0, T.p2, T.p1, T.p3, (fun _ => rfl), T.p5, T.p6, T.p7, T.p8, T.p9, T.p10, T.e3, (fun _ => h3), (fun _ => rfl), T.e6, T.e7⟩
theorem Ts.b5 (T : Ts w Lb fv g M N Bx By lo L x Zx Zy W) (h4 : L 4 = true) : Ts w Lb fv g M N Bx By lo (upd L 5) (updv x 27 (.bool true)) Zx Zy W :=
  ⟨T.ev, T.hx, T.hy, T.rx, T.ry, T.dj, T.p0, T.p2, T.p1, T.p3, T.p4, (fun _ => rfl), T.p6, T.p7, T.p8, T.p9, T.p10, T.e3, T.e4, (fun _ => h4), (fun _ => rfl), (fun _ => rfl)⟩
theorem Ts.b6 (T : Ts w Lb fv g M N Bx By lo L x Zx Zy W) (h5 : L 5 = true) (h : Ans 0 W v N) : Ts w Lb fv g M N Bx By lo (upd L 6) (updv x 28 v) Zx Zy W :=
  ⟨T.ev, T.hx, T.hy, T.rx, T.ry, T.dj, T.p0, T.p2, T.p1, T.p3, T.p4, T.p5, (fun _ => h), T.p7, T.p8, T.p9, T.p10, T.e3, T.e4, T.e5, (fun _ => h5), T.e7⟩
theorem Ts.b7 (T : Ts w Lb fv g M N Bx By lo L x Zx Zy W) (h5 : L 5 = true) (h : Ans 0 W v N) : Ts w Lb fv g M N Bx By lo (upd L 7) (updv x 29 v) Zx Zy W :=
  ⟨T.ev, T.hx, T.hy, T.rx, T.ry, T.dj, T.p0, T.p2, T.p1, T.p3, T.p4, T.p5, T.p6, (fun _ => h), T.p8, T.p9, T.p10, T.e3, T.e4, T.e5, T.e6, (fun _ => h5)⟩
theorem Ts.b8 (T : Ts w Lb fv g M N Bx By lo L x Zx Zy W) : Ts w Lb fv g M N Bx By lo (upd L 8) (updv x 30 (.bool true)) Zx Zy W :=
  ⟨T.ev, T.hx, T.hy, T.rx, T.ry, T.dj, T.p0, T.p2, T.p1, T.p3, T.p4, T.p5, T.p6, T.p7, (fun _ => rfl), T.p9, T.p10, T.e3, T.e4, T.e5, T.e6, T.e7⟩
theorem Ts.b9 (T : Ts w Lb fv g M N Bx By lo L x Zx Zy W) : Ts w Lb fv g M N Bx By lo (upd L 9) (updv x 31 (.bool true)) Zx Zy W :=
  ⟨T.ev, T.hx, T.hy, T.rx, T.ry, T.dj, T.p0, T.p2, T.p1, T.p3, T.p4, T.p5, T.p6, T.p7, T.p8, (fun _ => rfl), T.p10, T.e3, T.e4, T.e5, T.e6, T.e7⟩
theorem Ts.b10 (T : Ts w Lb fv g M N Bx By lo L x Zx Zy W) : Ts w Lb fv g M N Bx By lo (upd L 10) (updv x 4 (.bool true)) Zx Zy W :=
  ⟨T.ev, T.hx, T.hy, T.rx, T.ry, T.dj, T.p0, T.p2, T.p1, T.p3, T.p4, T.p5, T.p6, T.p7, T.p8, T.p9, (fun _ => rfl), T.e3, T.e4, T.e5, T.e6, T.e7⟩

def Zn (W W' : World) (Z : Nat → Prop) (k : Nat) : Prop := (Z k ∨ W.heap.size ≤ k) ∧ k < W'.heap.size

theorem Ts.b1 {aK a : Option Addr} {c : Nat} {F : Nat → Prop} (T : Ts w Lb fv g M N Bx By lo L x Zx Zy W) (h1 : L 1 = false) (hLb : ∀ p ∈ Lb, p.1 < w.heap.size + 2) (hlow : ∀ ad, aK = some ad → ad.block < w.heap.size)
    (hF : ∀ k, F k → Zx k) (kr : KRow W' a c g.keys) (hi : ∀ ad, a = some ad → aK = some ad ∨ W.heap.size ≤ ad.block) (hh : Has W' Bx lo (Up W F) N) (hf : Fine W W' F) :
    Ts w Lb fv g M N Bx By lo (upd L 1) (updv x 23 (fval g a c)) (Zn W W' Zx) Zy W' := by
  have hno : ∀ {k}, L k = true → L k = false → False := fun h h' => by rw [h] at h'; cases h'
  have h3 : L 3 = true → False := fun h => hno (T.e3 h) h1
  have h5 : L 5 = true → False := fun h => h3 (T.e4 (T.e5 h))
  have hf' : Fine W W' Zx := hf.mono hF
  have hwW : w.heap.size + 2 ≤ W.heap.size := by
    obtain ⟨_, _, _, _, _, _, _, _, m, hft⟩ := T.hx
    have := T.rx Bx (hft Bx (.inl rfl))
    omega
  refine ⟨T.ev.fine hf' (fun k h => by have := (T.rx k h).1; omega) (fun p hp h => by have := (T.rx _ h).1; have := hLb p hp; omega), ?_, T.hy.fine hf' (fun k _ h h' => T.dj k h' h), ?_, (fun k h => ⟨(T.ry k h).1, Nat.lt_of_lt_of_le (T.ry k h).2 hf.size⟩), ?_, T.p0, T.p2, (fun _ => ⟨a, c, rfl, kr, fun _ ad h h' => ?_⟩), (fun h => (h3 h).elim), T.p4, T.p5, (fun h => (h5 (T.e6 h)).elim), (fun h => (h5 (T.e7 h)).elim), T.p8, T.p9, T.p10, (fun h => rfl), T.e4, T.e5, T.e6, T.e7⟩
  · exact hh.mono fun k hk h => ⟨h.imp (hF k) id, hk⟩
  · rintro k ⟨h | h, h'⟩
    · exact ⟨(T.rx k h).1, h'⟩
    · exact ⟨by omega, h'⟩
  · rintro k ⟨h | h, -⟩ h'
    · exact T.dj k h h'
    · have := (T.ry k h').2; omega
  · rcases hi ad h with h | h
    · have := hlow ad h; have := (T.ry _ h').1; omega
    · have := (T.ry _ h').2; omega

theorem Ts.b3 {a : Option Addr} {c : Nat} {F : Nat → Prop} (T : Ts w Lb fv g M N Bx By lo L x Zx Zy W) (h3 : L 3 = false) (h1 : L 1 = true) (hLb : ∀ p ∈ Lb, p.1 < w.heap.size + 2)
    (hF : ∀ k, F k → Zy k) (kr : KRow W' a c g.keys) (hh : Has W' By lo (Up W F) N) (hf : Fine W W' F) :
    Ts w Lb fv g M N Bx By lo (upd L 3) (updv x 25 (fval g a c)) Zx (Zn W W' Zy) W' := by
  have hno : ∀ {k}, L k = true → L k = false → False := fun h h' => by rw [h] at h'; cases h'
  have h4 : L 4 = true → False := fun h => hno (T.e4 h) h3
  have h5 : L 5 = true → False := fun h => h4 (T.e5 h)
  have hf' : Fine W W' Zy := hf.mono hF
  have hwW : w.heap.size + 2 ≤ W.heap.size := by
    obtain ⟨_, _, _, _, _, _, _, _, m, hft⟩ := T.hx
    have := T.rx Bx (hft Bx (.inl rfl))
    omega
  refine ⟨T.ev.fine hf' (fun k h => by have := (T.ry k h).1; omega) (fun p hp h => by have := (T.ry _ h).1; have := hLb p hp; omega), T.hx.fine hf' (fun k _ h h' => T.dj k h h'), ?_, (fun k h => ⟨(T.rx k h).1, Nat.lt_of_lt_of_le (T.rx k h).2 hf.size⟩), ?_, ?_, T.p0, T.p2, (fun h => ?_), (fun _ => ⟨a, c, rfl, kr⟩), T.p4, T.p5, (fun h => (h5 (T.e6 h)).elim), (fun h => (h5 (T.e7 h)).elim), T.p8, T.p9, T.p10, (fun h => h1), (fun h => rfl), T.e5, T.e6, T.e7⟩
  · exact hh.mono fun k hk h => ⟨h.imp (hF k) id, hk⟩
  · rintro k ⟨h | h, h'⟩
    · exact ⟨(T.ry k h).1, h'⟩
    · exact ⟨by omega, h'⟩
  · rintro k h' ⟨h | h, -⟩
    · exact T.dj k h' h
    · have := (T.rx k h').2; omega
  · obtain ⟨a', c', e, r, z⟩ := T.p1 h
    exact ⟨a', c', e, r.fine hf' (z h3), fun h' => by cases h'⟩
theorem Ts.hx0 (T : Ts w Lb fv g M N Bx By lo L x Zx Zy W) (h : L 1 = false) : Has W Bx lo Zx M := by have := T.hx; rwa [h, if_neg (by simp)] at this
theorem Ts.hy0 (T : Ts w Lb fv g M N Bx By lo L x Zx Zy W) (h : L 3 = false) : Has W By lo Zy M := by have := T.hy; rwa [h, if_neg (by simp)] at this
theorem Ts.hx1 (T : Ts w Lb fv g M N Bx By lo L x Zx Zy W) (h : L 1 = true) : Has W Bx lo Zx N := by have := T.hx; rwa [h, if_pos rfl] at this
theorem Ts.hy1 (T : Ts w Lb fv g M N Bx By lo L x Zx Zy W) (h : L 3 = true) : Has W By lo Zy N := by have := T.hy; rwa [h, if_pos rfl] at this
end
def Js (w : World) (Lb : List (Nat × Obj)) (fv : Value) (g : Fr) (M N : Mm) (Bx By lo : Nat) (b : Nat → Value) (listed : Array Bool) (x : Nat → Value) (W : World) : Prop :=
  listed.size = 11 ∧ (∀ k, k ∉ [4, 22, 23, 24, 25, 26, 27, 28, 29, 30, 31] → x k = b k) ∧ ∃ Zx Zy, Ts w Lb fv g M N Bx By lo (fun i => listed.getD i false) x Zx Zy W
theorem Js.next {w W W' : World} {Lb : List (Nat × Obj)} {fv : Value} {g : Fr} {M N : Mm} {Bx By lo : Nat} {b : Nat → Value} {listed : Array Bool} {x x' : Nat → Value} {Zx Zy : Nat → Prop} (J : Js w Lb fv g M N Bx By lo b listed x W) (i : Nat) (hi : i < 11) (hx : ∀ k, k ∉ [4, 22, 23, 24, 25, 26, 27, 28, 29, 30, 31] → x' k = x k) (T : Ts w Lb fv g M N Bx By lo (upd (fun k => listed.getD k false) i) x' Zx Zy W') : Js w Lb fv g M N Bx By lo b (listed.setIfInBounds i true) x' W' := by
  refine ⟨by simpa using J.1, fun k hk => (hx k hk).trans (J.2.1 k hk), Zx, Zy, ?_⟩
  have e : (fun k => (listed.setIfInBounds i true).getD k false) = upd (fun k => listed.getD k false) i := by
    funext k
    have := J.1
    by_cases hk : k = i
    · subst hk
      simp [upd, Array.getD_eq_getD_getElem?, J.1, hi]
    · have hk' : ¬ i = k := fun e => hk e.symm
      simp [upd, hk, Array.getD_eq_getD_getElem?, hk']
  rw [e]
  exact T
theorem updv_outs {x : Nat → Value} {d : Nat} {v : Value} (hd : d ∈ [4, 22, 23, 24, 25, 26, 27, 28, 29, 30, 31]) : ∀ k, k ∉ [4, 22, 23, 24, 25, 26, 27, 28, 29, 30, 31] → updv x d v k = x k := by
  intro k hk
  unfold updv
  rw [if_neg]
  rintro rfl
  exact hk hd

theorem wpOp_vals {P : Program} {ops : Array Oper} {Q : Exit → Act → World → Prop} {i : Nat} {o : Oper} {a : Act} {w w' : World} {v : Value} {K : Act → World → Prop} (hi : ops[i]? = some o) (hw : Region.wanted o (yielded ops a.tmps) = true)
    (hr : (execOp a.eval o).run P w = .ok (.value v) w') (h : K (a.put o.dst v) w') : wpOp P ops Q i K a w := by
  refine wpOp_step hi fun K' hK => ?_
  rw [if_pos hw]
  unfold Oper.wp
  rw [hr]
  exact hK _ _ h
theorem wpOp_ins {P : Program} {ops : Array Oper} {Q : Exit → Act → World → Prop} {i : Nat} {o : Oper} {a : Act} {w : World} {f : Nat} {args : Array Value} {K : Act → World → Prop} (hi : ops[i]? = some o) (hw : Region.wanted o (yielded ops a.tmps) = true)
    (hr : (execOp a.eval o).run P w = .ok (.enter f args) w) (h : Calls P f args w fun e w' => ∃ v, e = .returned v ∧ K (a.put o.dst v) w') : wpOp P ops Q i K a w := by
  refine wpOp_step hi fun K' hK => ?_
  rw [if_pos hw]
  unfold Oper.wp
  rw [hr]
  refine Calls.mono h ?_
  rintro e w' ⟨v, rfl, hv⟩
  exact hK _ _ hv
theorem wants {o : Oper} {ops : Array Oper} {tmps : Array Value} {k d : Nat} {b : Bool} (h : o.guard = some (k, b)) (hk : (ops[k]?).bind (·.dst) = some d) (ht : tmps[d]? = some (.bool b)) : Region.wanted o (yielded ops tmps) = true := by
  unfold Region.wanted yielded
  rw [h]
  simp [hk, ht]

end Go.Proofs.Ytdbilofhcadmoab.mm

/- Two steps in one row of the program, one on each memory, as in Steps: steps of a task that has a number. -/
namespace Go.Proofs.Ytdbilofhcadmoab.mm
open Go.ChangeShapes Go.WideShapes Go.ChangeAt Go.RowKit Go.Joins
set_option maxRecDepth 100000
set_option linter.unusedVariables false

structure TsT (w : World) (Lb : List (Nat × Obj)) (fv : Value) (g : Fr) (M N : Mm) (Bx By lo : Nat) (L : Nat → Bool) (x : Nat → Value) (Zx Zy : Nat → Prop) (W : World) : Prop where
  ev : Env w W Lb []
  hx : Has W Bx lo Zx (if L 2 then N else M)
  hy : Has W By lo Zy (if L 5 then N else M)
  rx : ∀ k, Zx k → w.heap.size + 2 ≤ k ∧ k < W.heap.size
  ry : ∀ k, Zy k → w.heap.size + 2 ≤ k ∧ k < W.heap.size
  dj : ∀ k, Zx k → ¬ Zy k
  p0 : L 0 = true → x 24 = fv
  p2 : L 3 = true → x 27 = fv
  p1 : L 2 = true → ∃ a c, x 26 = fval g a c ∧ KRow W a c g.keys ∧ (L 5 = false → ∀ ad, a = some ad → ¬ Zy ad.block)
  p3 : L 5 = true → ∃ a c, x 29 = fval g a c ∧ KRow W a c g.keys
  p4 : L 6 = true → x 30 = .bool true
  p5 : L 7 = true → x 31 = .bool true
  p6 : L 8 = true → Ans 0 W (x 32) N
  p7 : L 9 = true → Ans 0 W (x 33) N
  p8 : L 10 = true → x 34 = .bool true
  p9 : L 11 = true → x 35 = .bool true
  p10 : L 12 = true → x 6 = .bool true
  e3 : L 5 = true → L 2 = true
  e4 : L 6 = true → L 5 = true
  e5 : L 7 = true → L 6 = true
  e6 : L 8 = true → L 7 = true
  e7 : L 9 = true → L 7 = true

section
variable {w W W' : World} {Lb : List (Nat × Obj)} {fv v : Value} {g : Fr} {M N : Mm} {Bx By lo : Nat} {L : Nat → Bool} {x : Nat → Value} {Zx Zy : Nat → Prop}

theorem TsT.start (E : Env w W Lb []) (hx : Has W Bx lo Zx M) (hy : Has W By lo Zy M) (rx : ∀ k, Zx k → w.heap.size + 2 ≤ k ∧ k < W.heap.size) (ry : ∀ k, Zy k → w.heap.size + 2 ≤ k ∧ k < W.heap.size) (dj : ∀ k, Zx k → ¬ Zy k) : TsT w Lb fv g M N Bx By lo (fun _ => false) x Zx Zy W :=
  ⟨E, hx, hy, rx, ry, dj, (fun h => by cases h), (fun h => by cases h), (fun h => by cases h), (fun h => by cases h), (fun h => by cases h), (fun h => by cases h), (fun h => by cases h), (fun h => by cases h), (fun h => by cases h), (fun h => by cases h), (fun h => by cases h), (fun h => by cases h), (fun h => by cases h), (fun h => by cases h), (fun h => by cases h), (fun h => by cases h)⟩

theorem TsT.below (T : TsT w Lb fv g M N Bx By lo L x Zx Zy W) (hb : Below W.heap.size W W') : TsT w Lb fv g M N Bx By lo L x Zx Zy W' :=
  ⟨T.ev.below hb, T.hx.below hb, T.hy.below hb, (fun k h => ⟨(T.rx k h).1, Nat.lt_of_lt_of_le (T.rx k h).2 hb.size⟩), (fun k h => ⟨(T.ry k h).1, Nat.lt_of_lt_of_le (T.ry k h).2 hb.size⟩), T.dj, T.p0, T.p2,
    (fun h => by obtain ⟨a, c, e, r, z⟩ := T.p1 h; exact ⟨a, c, e, r.below hb, z⟩), (fun h => by obtain ⟨a, c, e, r⟩ := T.p3 h; exact ⟨a, c, e, r.below hb⟩), T.p4, T.p5, (fun h => (T.p6 h).below hb), (fun h => (T.p7 h).below hb), T.p8, T.p9, T.p10, T.e3, T.e4, T.e5, T.e6, T.e7⟩

theorem TsT.b0 (T : TsT w Lb fv g M N Bx By lo L x Zx Zy W) : TsT w Lb fv g M N Bx By lo (upd L 0) (updv x 24 fv) Zx Zy W :=
  ⟨T.ev, T.hx, T.hy, T.rx, T.ry, T.dj, (fun _ => rfl), T.p2, T.p1, T.p3, T.p4, T.p5, T.p6, T.p7, T.p8, T.p9, T.p10, T.e3, T.e4, T.e5, T.e6, T.e7⟩
theorem TsT.b2 (T : TsT w Lb fv g M N Bx By lo L x Zx Zy W) : TsT w Lb fv g M N Bx By lo (upd L 3) (updv x 27 fv) Zx Zy W :=
  ⟨T.ev, T.hx, T.hy, T.rx, T.ry, T.dj, T.p0, (fun _ => rfl), T.p1, T.p3, T.p4, T.p5, T.p6, T.p7, T.p8, T.p9, T.p10, T.e3, T.e4, T.e5, T.e6, T.e7⟩
theorem TsT.b4 (T : TsT w Lb fv g M N Bx By lo L x Zx Zy W) (h3 : L 5 = true) : TsT w Lb fv g M N Bx By lo (upd L 6) (updv x 30 (.bool true)) Zx Zy W :=
  ⟨T.ev, T.hx, T.hy, T.rx, T.ry, T.dj, T.p0, T.p2, T.p1, T.p3, (fun _ => rfl), T.p5, T.p6, T.p7, T.p8, T.p9, T.p10, T.e3, (fun _ => h3), (fun _ => rfl), T.e6, T.e7⟩
theorem TsT.b5 (T : TsT w Lb fv g M N Bx By lo L x Zx Zy W) (h4 : L 6 = true) : TsT w Lb fv g M N Bx By lo (upd L 7) (updv x 31 (.bool true)) Zx Zy W :=
  ⟨T.ev, T.hx, T.hy, T.rx, T.ry, T.dj, T.p0, T.p2, T.p1, T.p3, T.p4, (fun _ => rfl), T.p6, T.p7, T.p8, T.p9, T.p10, T.e3, T.e4, (fun _ => h4), (fun _ => rfl), (fun _ => rfl)⟩
theorem TsT.b6 (T : TsT w Lb fv g M N Bx By lo L x Zx Zy W) (h5 : L 7 = true) (h : Ans 0 W v N) : TsT w Lb fv g M N Bx By lo (upd L 8) (updv x 32 v) Zx Zy W :=
  ⟨T.ev, T.hx, T.hy, T.rx, T.ry, T.dj, T.p0, T.p2, T.p1, T.p3, T.p4, T.p5, (fun _ => h), T.p7, T.p8, T.p9, T.p10, T.e3, T.e4, T.e5, (fun _ => h5), T.e7⟩
theorem TsT.b7 (T : TsT w Lb fv g M N Bx By lo L x Zx Zy W) (h5 : L 7 = true) (h : Ans 0 W v N) : TsT w Lb fv g M N Bx By lo (upd L 9) (updv x 33 v) Zx Zy W :=
  ⟨T.ev, T.hx, T.hy, T.rx, T.ry, T.dj, T.p0, T.p2, T.p1, T.p3, T.p4, T.p5, T.p6, (fun _ => h), T.p8, T.p9, T.p10, T.e3, T.e4, T.e5, T.e6, (fun _ => h5)⟩
theorem TsT.b8 (T : TsT w Lb fv g M N Bx By lo L x Zx Zy W) : TsT w Lb fv g M N Bx By lo (upd L 10) (updv x 34 (.bool true)) Zx Zy W :=
  ⟨T.ev, T.hx, T.hy, T.rx, T.ry, T.dj, T.p0, T.p2, T.p1, T.p3, T.p4, T.p5, T.p6, T.p7, (fun _ => rfl), T.p9, T.p10, T.e3, T.e4, T.e5, T.e6, T.e7⟩
theorem TsT.b9 (T : TsT w Lb fv g M N Bx By lo L x Zx Zy W) : TsT w Lb fv g M N Bx By lo (upd L 11) (updv x 35 (.bool true)) Zx Zy W :=
  ⟨T.ev, T.hx, T.hy, T.rx, T.ry, T.dj, T.p0, T.p2, T.p1, T.p3, T.p4, T.p5, T.p6, T.p7, T.p8, (fun _ => rfl), T.p10, T.e3, T.e4, T.e5, T.e6, T.e7⟩
theorem TsT.b10 (T : TsT w Lb fv g M N Bx By lo L x Zx Zy W) : TsT w Lb fv g M N Bx By lo (upd L 12) (updv x 6 (.bool true)) Zx Zy W :=
  ⟨T.ev, T.hx, T.hy, T.rx, T.ry, T.dj, T.p0, T.p2, T.p1, T.p3, T.p4, T.p5, T.p6, T.p7, T.p8, T.p9, (fun _ => rfl), T.e3, T.e4, T.e5, T.e6, T.e7⟩


theorem TsT.b1 {aK a : Option Addr} {c : Nat} {F : Nat → Prop} (T : TsT w Lb fv g M N Bx By lo L x Zx Zy W) (h1 : L 2 = false) (hLb : ∀ p ∈ Lb, p.1 < w.heap.size + 2) (hlow : ∀ ad, aK = some ad → ad.block < w.heap.size)
    (hF : ∀ k, F k → Zx k) (kr : KRow W' a c g.keys) (hi : ∀ ad, a = some ad → aK = some ad ∨ W.heap.size ≤ ad.block) (hh : Has W' Bx lo (Up W F) N) (hf : Fine W W' F) :
    TsT w Lb fv g M N Bx By lo (upd L 2) (updv x 26 (fval g a c)) (Zn W W' Zx) Zy W' := by
  have hno : ∀ {k}, L k = true → L k = false → False := fun h h' => by rw [h] at h'; cases h'
  have h3 : L 5 = true → False := fun h => hno (T.e3 h) h1
  have h5 : L 7 = true → False := fun h => h3 (T.e4 (T.e5 h))
  have hf' : Fine W W' Zx := hf.mono hF
  have hwW : w.heap.size + 2 ≤ W.heap.size := by
    obtain ⟨_, _, _, _, _, _, _, _, m, hft⟩ := T.hx
    have := T.rx Bx (hft Bx (.inl rfl))
    omega
  refine ⟨T.ev.fine hf' (fun k h => by have := (T.rx k h).1; omega) (fun p hp h => by have := (T.rx _ h).1; have := hLb p hp; omega), ?_, T.hy.fine hf' (fun k _ h h' => T.dj k h' h), ?_, (fun k h => ⟨(T.ry k h).1, Nat.lt_of_lt_of_le (T.ry k h).2 hf.size⟩), ?_, T.p0, T.p2, (fun _ => ⟨a, c, rfl, kr, fun _ ad h h' => ?_⟩), (fun h => (h3 h).elim), T.p4, T.p5, (fun h => (h5 (T.e6 h)).elim), (fun h => (h5 (T.e7 h)).elim), T.p8, T.p9, T.p10, (fun h => rfl), T.e4, T.e5, T.e6, T.e7⟩
  · exact hh.mono fun k hk h => ⟨h.imp (hF k) id, hk⟩
  · rintro k ⟨h | h, h'⟩
    · exact ⟨(T.rx k h).1, h'⟩
    · exact ⟨by omega, h'⟩
  · rintro k ⟨h | h, -⟩ h'
    · exact T.dj k h h'
    · have := (T.ry k h').2; omega
  · rcases hi ad h with h | h
    · have := hlow ad h; have := (T.ry _ h').1; omega
    · have := (T.ry _ h').2; omega

theorem TsT.b3 {a : Option Addr} {c : Nat} {F : Nat → Prop} (T : TsT w Lb fv g M N Bx By lo L x Zx Zy W) (h3 : L 5 = false) (h1 : L 2 = true) (hLb : ∀ p ∈ Lb, p.1 < w.heap.size + 2)
    (hF : ∀ k, F k → Zy k) (kr : KRow W' a c g.keys) (hh : Has W' By lo (Up W F) N) (hf : Fine W W' F) :
    TsT w Lb fv g M N Bx By lo (upd L 5) (updv x 29 (fval g a c)) Zx (Zn W W' Zy) W' := by
  have hno : ∀ {k}, L k = true → L k = false → False := fun h h' => by rw [h] at h'; cases h'
  have h4 : L 6 = true → False := fun h => hno (T.e4 h) h3
  have h5 : L 7 = true → False := fun h => h4 (T.e5 h)
  have hf' : Fine W W' Zy := hf.mono hF
  have hwW : w.heap.size + 2 ≤ W.heap.size := by
    obtain ⟨_, _, _, _, _, _, _, _, m, hft⟩ := T.hx
    have := T.rx Bx (hft Bx (.inl rfl))
    omega
  refine ⟨T.ev.fine hf' (fun k h => by have := (T.ry k h).1; omega) (fun p hp h => by have := (T.ry _ h).1; have := hLb p hp; omega), T.hx.fine hf' (fun k _ h h' => T.dj k h h'), ?_, (fun k h => ⟨(T.rx k h).1, Nat.lt_of_lt_of_le (T.rx k h).2 hf.size⟩), ?_, ?_, T.p0, T.p2, (fun h => ?_), (fun _ => ⟨a, c, rfl, kr⟩), T.p4, T.p5, (fun h => (h5 (T.e6 h)).elim), (fun h => (h5 (T.e7 h)).elim), T.p8, T.p9, T.p10, (fun h => h1), (fun h => rfl), T.e5, T.e6, T.e7⟩
  · exact hh.mono fun k hk h => ⟨h.imp (hF k) id, hk⟩
  · rintro k ⟨h | h, h'⟩
    · exact ⟨(T.ry k h).1, h'⟩
    · exact ⟨by omega, h'⟩
  · rintro k h' ⟨h | h, -⟩
    · exact T.dj k h' h
    · have := (T.rx k h').2; omega
  · obtain ⟨a', c', e, r, z⟩ := T.p1 h
    exact ⟨a', c', e, r.fine hf' (z h3), fun h' => by cases h'⟩
theorem TsT.hx0 (T : TsT w Lb fv g M N Bx By lo L x Zx Zy W) (h : L 2 = false) : Has W Bx lo Zx M := by have := T.hx; rwa [h, if_neg (by simp)] at this
theorem TsT.hy0 (T : TsT w Lb fv g M N Bx By lo L x Zx Zy W) (h : L 5 = false) : Has W By lo Zy M := by have := T.hy; rwa [h, if_neg (by simp)] at this
theorem TsT.hx1 (T : TsT w Lb fv g M N Bx By lo L x Zx Zy W) (h : L 2 = true) : Has W Bx lo Zx N := by have := T.hx; rwa [h, if_pos rfl] at this
theorem TsT.hy1 (T : TsT w Lb fv g M N Bx By lo L x Zx Zy W) (h : L 5 = true) : Has W By lo Zy N := by have := T.hy; rwa [h, if_pos rfl] at this
end
def JsT (w : World) (Lb : List (Nat × Obj)) (fv : Value) (t : Int) (g : Fr) (M N : Mm) (Bx By lo : Nat) (b : Nat → Value) (listed : Array Bool) (x : Nat → Value) (W : World) : Prop :=
  listed.size = 13 ∧ (∀ k, k ∉ [6, 24, 25, 26, 27, 28, 29, 30, 31, 32, 33, 34, 35] → x k = b k) ∧ (listed.getD 1 false = true → x 25 = .int .i64 t) ∧ (listed.getD 4 false = true → x 28 = .int .i64 t) ∧ ∃ Zx Zy, TsT w Lb fv g M N Bx By lo (fun i => listed.getD i false) x Zx Zy W
theorem listed_upd {listed : Array Bool} {i n : Nat} (hn : listed.size = n) (hi : i < n) : (fun k => (listed.setIfInBounds i true).getD k false) = upd (fun k => listed.getD k false) i := by
  funext k
  by_cases hk : k = i
  · subst hk
    simp [upd, Array.getD_eq_getD_getElem?, hn, hi]
  · have hk' : ¬ i = k := fun e => hk e.symm
    simp [upd, hk, Array.getD_eq_getD_getElem?, hk']
theorem JsT.next {w W W' : World} {Lb : List (Nat × Obj)} {fv : Value} {t : Int} {g : Fr} {M N : Mm} {Bx By lo : Nat} {b : Nat → Value} {listed : Array Bool} {x x' : Nat → Value} {Zx Zy : Nat → Prop} (J : JsT w Lb fv t g M N Bx By lo b listed x W) (i : Nat) (hi : i < 13) (hi1 : i ≠ 1) (hi4 : i ≠ 4)
    (hx : ∀ k, k ∉ [6, 24, 26, 27, 29, 30, 31, 32, 33, 34, 35] → x' k = x k) (T : TsT w Lb fv g M N Bx By lo (upd (fun k => listed.getD k false) i) x' Zx Zy W') : JsT w Lb fv t g M N Bx By lo b (listed.setIfInBounds i true) x' W' := by
  have e := listed_upd J.1 hi
  refine ⟨by simpa using J.1, fun k hk => (hx k (fun h => hk ?_)).trans (J.2.1 k hk), fun h => ?_, fun h => ?_, Zx, Zy, ?_⟩
  · simp only [List.mem_cons, List.not_mem_nil, or_false] at h ⊢
    omega
  · rw [hx 25 (by decide)]
    refine J.2.2.1 ?_
    have := congrFun e 1
    rw [h] at this
    simpa [upd, hi1.symm] using this.symm
  · rw [hx 28 (by decide)]
    refine J.2.2.2.1 ?_
    have := congrFun e 4
    rw [h] at this
    simpa [upd, hi4.symm] using this.symm
  · rw [e]
    exact T
theorem TsT.move {w W : World} {Lb : List (Nat × Obj)} {fv v : Value} {g : Fr} {M N : Mm} {Bx By lo : Nat} {L : Nat → Bool} {x : Nat → Value} {Zx Zy : Nat → Prop} (T : TsT w Lb fv g M N Bx By lo L x Zx Zy W) (i d : Nat) (hi : i = 1 ∧ d = 25 ∨ i = 4 ∧ d = 28) : TsT w Lb fv g M N Bx By lo (upd L i) (updv x d v) Zx Zy W := by
  have hL : ∀ k, k ≠ 1 → k ≠ 4 → upd L i k = L k := fun k h1 h4 => by
    unfold upd
    rw [if_neg (by omega)]
  have hx : ∀ k, k ≠ 25 → k ≠ 28 → updv x d v k = x k := fun k h1 h4 => by
    unfold updv
    rw [if_neg (by omega)]
  obtain ⟨ev, tx, ty, rx, ry, dj, p0, p2, p1, p3, p4, p5, p6, p7, p8, p9, p10, e3, e4, e5, e6, e7⟩ := T
  refine ⟨ev, ?_, ?_, rx, ry, dj, ?_, ?_, ?_, ?_, ?_, ?_, ?_, ?_, ?_, ?_, ?_, ?_, ?_, ?_, ?_, ?_⟩
  all_goals first
    | (rw [hL _ (by omega) (by omega)]; assumption)
    | (rw [hL _ (by omega) (by omega), hL _ (by omega) (by omega)]; assumption)
    | (rw [hL _ (by omega) (by omega), hx _ (by omega) (by omega)]; assumption)
    | (rw [hL _ (by omega) (by omega), hL _ (by omega) (by omega), hx _ (by omega) (by omega)]; assumption)
    | skip
theorem JsT.move {w W : World} {Lb : List (Nat × Obj)} {fv : Value} {t : Int} {g : Fr} {M N : Mm} {Bx By lo : Nat} {b : Nat → Value} {listed : Array Bool} {x : Nat → Value} (J : JsT w Lb fv t g M N Bx By lo b listed x W) (i d : Nat) (hi : i = 1 ∧ d = 25 ∨ i = 4 ∧ d = 28) : JsT w Lb fv t g M N Bx By lo b (listed.setIfInBounds i true) (updv x d (.int .i64 t)) W := by
  obtain ⟨h1, h2, h3, h4, Zx, Zy, T⟩ := J
  have e := listed_upd (i := i) h1 (by omega)
  refine ⟨by simpa using h1, fun k hk => ?_, fun h => ?_, fun h => ?_, Zx, Zy, ?_⟩
  · unfold updv
    rw [if_neg]
    · exact h2 k hk
    · rintro rfl
      rcases hi with ⟨-, rfl⟩ | ⟨-, rfl⟩ <;> exact hk (by decide)
  · rcases hi with ⟨rfl, rfl⟩ | ⟨rfl, rfl⟩
    · rfl
    · refine h3 ?_
      have := congrFun e 1
      rw [h] at this
      simpa [upd] using this.symm
  · rcases hi with ⟨rfl, rfl⟩ | ⟨rfl, rfl⟩
    · refine h4 ?_
      have := congrFun e 4
      rw [h] at this
      simpa [upd] using this.symm
    · rfl
  · rw [e]
    exact T.move i d hi
theorem updv_outsT {x : Nat → Value} {d : Nat} {v : Value} (hd : d ∈ [6, 24, 26, 27, 29, 30, 31, 32, 33, 34, 35]) : ∀ k, k ∉ [6, 24, 26, 27, 29, 30, 31, 32, 33, 34, 35] → updv x d v k = x k := by
  intro k hk
  unfold updv
  rw [if_neg]
  rintro rfl
  exact hk hd
end Go.Proofs.Ytdbilofhcadmoab.mm

/- A law's slots, where it is handed memory, a frame and a number. -/
namespace Go.Proofs.Ytdbilofhcadmoab.mm
open Go.ChangeShapes Go.WideShapes Go.ChangeAt Go.RowKit Go.Joins
def actT (x : Nat → Value) : Act := ⟨#[x 0, x 1, x 2, x 3, x 4, x 5, x 6, x 7, x 8, x 9, x 10, x 11, x 12, x 13, x 14, x 15, x 16, x 17, x 18, x 19, x 20, x 21, x 22, x 23, x 24, x 25, x 26, x 27, x 28, x 29, x 30, x 31, x 32, x 33, x 34, x 35], []⟩
theorem eqM_selfA (N : Mm) : eqM N N = true := by
  unfold eqM
  rw [(eqS_iff _ _).2 rfl, (eqI_iff _ _).2 rfl, (eqI_iff _ _).2 rfl, (eqI_iff _ _).2 rfl]
  simp
def addFr (f : Fr) : Fr := { f with c := { f.c with kind := 2 } }
end Go.Proofs.Ytdbilofhcadmoab.mm

/- AddTouches' walk: a step of an Add changes one slot at most, its own chain and its lock, and what is free. -/
namespace Go.Proofs.Ytdbilofhcadmoab.mm
open Go.ChangeShapes Go.WideShapes Go.ChangeAt Go.RowKit Go.Joins Go.Deep Go.Sort
set_option maxRecDepth 100000
set_option linter.unusedVariables false

set_option maxHeartbeats 12800000 in
theorem addTouches_any (M : Mm) (f : Fr) (t : Int) (v : Value) (aK : Option Addr) (cK : Nat) (w : World) (A0 : Ans 0 w v M) (r : KRow w aK cK f.keys) (hlow : ∀ ad, aK = some ad → ad.block < w.heap.size) :
    Calls Try.prog 11 #[v, .agg #[.int .i64 f.c.kind, .int .i64 f.c.a, .int .i64 f.c.b, .int .i64 f.c.time, .int .i64 f.c.bk, .int .i64 f.c.slot, .int .i64 f.pl, .int .i64 f.cur, .int .i64 f.prev, .int .i64 f.slot, .int .i64 f.n, .slice aK f.keys.length cK, .bool f.done, .int .i64 f.e], .int .i64 t] w fun e w' => e = .returned (.bool true) ∧ Below w.heap.size w w' := by
  have hkl : f.keys.length ≤ 9223372036854775807 := by have := r.max; omega
  have HFt : Hid (∀ W : World, Below w.heap.size w W → Calls Try.prog 34 #[v, .agg #[.int .i64 (addFr f).c.kind, .int .i64 (addFr f).c.a, .int .i64 (addFr f).c.b, .int .i64 (addFr f).c.time, .int .i64 (addFr f).c.bk, .int .i64 (addFr f).c.slot, .int .i64 (addFr f).pl, .int .i64 (addFr f).cur, .int .i64 (addFr f).prev, .int .i64 (addFr f).slot, .int .i64 (addFr f).n, .slice aK (addFr f).keys.length cK, .bool (addFr f).done, .int .i64 (addFr f).e]] W fun e w' => e = .returned (.bool (fitB M (addFr f))) ∧ Below W.heap.size W w') := fun W hb => fits_any M (addFr f) v aK cK W (A0.below hb) hkl
  have HA : Hid (Ans 0 w v M) := A0
  have HR : Hid (KRow w aK cK f.keys) := r
  have HLow : Hid (∀ ad, aK = some ad → ad.block < w.heap.size) := hlow
  obtain ⟨aS, aH, aF, aL, cS, cH, cF, cL, rfl⟩ := A0.form
  obtain ⟨om, hom⟩ : ∃ o : Obj, o = .cells #[.slice aS M.slots.length cS, .slice aH M.heads.length cH, .slice aF M.free.length cF, .slice aL M.locks.length cL, .int .i64 M.now] 25 := ⟨_, rfl⟩
  obtain ⟨of, hof⟩ : ∃ o : Obj, o = .cells #[.int .i64 2, .int .i64 f.c.a, .int .i64 f.c.b, .int .i64 f.c.time, .int .i64 f.c.bk, .int .i64 f.c.slot, .int .i64 f.pl, .int .i64 f.cur, .int .i64 f.prev, .int .i64 f.slot, .int .i64 f.n, .slice aK f.keys.length cK, .bool f.done, .int .i64 f.e] 51 := ⟨_, rfl⟩
  have HE0 : Hid (Env w ((w.alloc om).alloc of) [((w.alloc om).heap.size, of), (w.heap.size, om)] []) := ((⟨Below.refl _ _, (fun p hp => by cases hp), (fun p hp => by cases hp)⟩ : Env w w [] []).alloc om).alloc of
  rw [show (w.alloc om).heap.size = w.heap.size + 1 by simp] at HE0
  have HBm : Hid (∀ W : World, W.heap[w.heap.size]? = some om → W.heap[w.heap.size]? = some (.cells #[.slice aS M.slots.length cS, .slice aH M.heads.length cH, .slice aF M.free.length cF, .slice aL M.locks.length cL, .int .i64 M.now] 25 (0, 0))) := fun W E => hom ▸ E
  have HBf : Hid (∀ W : World, W.heap[w.heap.size + 1]? = some of → W.heap[w.heap.size + 1]? = some (.cells #[.int .i64 2, .int .i64 f.c.a, .int .i64 f.c.b, .int .i64 f.c.time, .int .i64 f.c.bk, .int .i64 f.c.slot, .int .i64 f.pl, .int .i64 f.cur, .int .i64 f.prev, .int .i64 f.slot, .int .i64 f.n, .slice aK f.keys.length cK, .bool f.done, .int .i64 f.e] 51 (0, 0))) := fun W E => hof ▸ E
  have HMx : Hid (M.slots.length * 48 ≤ 140737488351232 ∧ M.heads.length * 8 ≤ 140737488351232 ∧ M.free.length * 8 ≤ 140737488351232 ∧ M.locks.length * 8 ≤ 140737488351232) := ⟨A0.at_.s.max, A0.at_.h.max, A0.at_.f.max, A0.at_.l.max⟩
  clear A0 r hkl hlow
  go_enter Try.func11, Try.ntmps11
  go_wp2_with fail
  rw [← hom, ← hof]
  generalize (w.alloc om).alloc of = W0 at *
  clear hom hof
  refine (added_any W0).mono ?_
  rintro e w1 ⟨rfl, hb1⟩
  have HE1 : Hid (Env w w1 [(w.heap.size + 1, of), (w.heap.size, om)] []) := HE0.out.below hb1
  clear HE0 hb1
  obtain ⟨q0, q1, q2, q3, q4, -, -, -, -, -, qs⟩ := boxf (HBm.out _ (HE1.out.box _ (.tail _ (.head _))))
  obtain ⟨f0, f1, f2, f3, f4, f5, f6, f7, f8, f9, f10, f11, f12, f13, -, fs⟩ := framef (HBf.out _ (HE1.out.box _ (.head _)))
  go_wp2_with fail
  clear q0 q1 q2 q3 q4 qs f0 f1 f2 f3 f4 f5 f6 f7 f8 f9 f10 f11 f12 f13 fs
  refine (HFt.out w1 HE1.out.bl).mono ?_
  rintro e w2 ⟨rfl, hb2⟩
  have HE2 : Hid (Env w w2 [(w.heap.size + 1, of), (w.heap.size, om)] []) := HE1.out.below hb2
  clear HE1 hb2 HFt
  cases hfit : fitB M (addFr f)
  · obtain ⟨q0, q1, q2, q3, q4, -, -, -, -, -, qs⟩ := boxf (HBm.out _ (HE2.out.box _ (.tail _ (.head _))))
    obtain ⟨f0, f1, f2, f3, f4, f5, f6, f7, f8, f9, f10, f11, f12, f13, -, fs⟩ := framef (HBf.out _ (HE2.out.box _ (.head _)))
    go_wp2_with fail
    refine (added_any w2).mono ?_
    rintro e w3 ⟨rfl, hb3⟩
    have HE3 : Hid _ := HE2.out.below hb3
    go_wp2
    go_ret
    exact ⟨rfl, HE3.out.bl⟩
  obtain ⟨hOk, hFit⟩ := fitB_iff.1 hfit
  obtain ⟨N, hN⟩ : ∃ N, N = adM t M (addFr f) := ⟨_, rfl⟩
  obtain ⟨g, hg⟩ : ∃ g, g = adF M (addFr f) := ⟨_, rfl⟩
  obtain ⟨b0, b1⟩ := bkOf_in hOk hFit.call
  obtain ⟨b, hb⟩ : ∃ b : Nat, bkOf M.heads.length (addFr f).c = b := ⟨_, (Int.toNat_of_nonneg b0).symm⟩
  have hgc : g.c = ⟨2, f.c.a, f.c.b, f.c.time, f.c.bk, f.c.slot⟩ := hg ▸ adF_c M (addFr f)
  have hnear : Near M N b := by
    have := adM_near t M (addFr f)
    unfold bkN at this
    rw [hb] at this
    rw [hN]
    exact this
  have HFr : Hid (g.done = false → frE M.slots.length M.heads.length g = 0) := fun hd => by
    have h1 := hnear.ns
    have h2 := hnear.nh
    rw [← h1, ← h2]
    subst hN hg
    exact fit_iff.2 (adF_fit t hOk hFit hd)
  have HNl : Hid (M.locks.length = M.heads.length) := hOk.nl
  have hfree := free_few hOk
  have HBk : Hid (∀ W : World, Calls Try.prog 31 #[.agg #[.slice aS M.slots.length cS, .slice aH M.heads.length cH, .slice aF M.free.length cF, .slice aL M.locks.length cL, .int .i64 M.now], .agg #[.int .i64 2, .int .i64 f.c.a, .int .i64 f.c.b, .int .i64 f.c.time, .int .i64 f.c.bk, .int .i64 f.c.slot]] W fun e w' => e = .returned (.int .i64 (b : Int)) ∧ Below W.heap.size W w') := fun W => hb ▸ frBucket_any aS aH aF aL _ _ _ _ cS cH cF cL M.now (addFr f).c W (by have := HMx.out.2.1; omega)
  have HSt : Hid (∀ (W : World) (B lo : Nat) (xS xH xF xL : Option Addr) (kS kH kF kL : Nat), Mine W B lo xS xH xF xL kS kH kF kL M → KRow W aK cK f.keys → (∀ ad, aK = some ad → ¬ Foot B xS xH xF xL ad.block) →
      Calls Try.prog 51 #[.pointer (some ⟨B, 0, none⟩), .agg #[.int .i64 2, .int .i64 f.c.a, .int .i64 f.c.b, .int .i64 f.c.time, .int .i64 f.c.bk, .int .i64 f.c.slot, .int .i64 f.pl, .int .i64 f.cur, .int .i64 f.prev, .int .i64 f.slot, .int .i64 f.n, .slice aK f.keys.length cK, .bool f.done, .int .i64 f.e], .int .i64 t] W fun e w' => (∃ a c, e = .returned (.agg #[.int .i64 g.c.kind, .int .i64 g.c.a, .int .i64 g.c.b, .int .i64 g.c.time, .int .i64 g.c.bk, .int .i64 g.c.slot, .int .i64 g.pl, .int .i64 g.cur, .int .i64 g.prev, .int .i64 g.slot, .int .i64 g.n, .slice a g.keys.length c, .bool g.done, .int .i64 g.e]) ∧ g.keys.length * 16 ≤ 140737488351232) ∧ (∃ yS yH yF yL jS jH jF jL, Mine w' B lo yS yH yF yL jS jH jF jL N) ∧ Fine W w' (Foot B xS xH xF xL)) := fun W B lo xS xH xF xL kS kH kF kL m r hz => by
    subst hN hg
    refine (ad_mine t M (addFr f) B lo xS xH xF xL kS kH kF kL aK cK W m hOk hFit rfl r hz).mono ?_
    rintro e w' ⟨⟨a, c, rfl, kr, -, -⟩, ⟨yS, yH, yF, yL, jS, jH, jF, jL, m', -⟩, hf⟩
    exact ⟨⟨a, c, rfl, kr.max⟩, ⟨_, _, _, _, _, _, _, _, m'⟩, hf⟩
  clear hfit hOk hFit hN hg b0 b1 hb
  obtain ⟨gc, gpl, gcur, gprev, gslot, gn, gkeys, gdone, ge⟩ := g
  obtain ⟨nS, nH, nF, nL, nN⟩ := N
  have hgc' : gc = _ := hgc
  subst hgc'
  clear hgc
  have hnow' : nN = _ := hnear.now
  subst hnow'
  have HNr : Hid (Near M ⟨nS, nH, nF, nL, M.now⟩ b) := hnear
  have HLn : Hid (nS.length = M.slots.length) := hnear.ns
  have HLh : Hid (nH.length = M.heads.length) := hnear.nh
  have HLl : Hid (nL.length = M.locks.length) := hnear.nl
  dsimp only at HSt HFr
  have HFe : Hid (M.free.length ≤ 12) := hfree
  have HFn : Hid (nF.length ≤ M.free.length + 1 ∧ M.free.length ≤ nF.length + 1) := hnear.free
  clear hnear hfree
  obtain ⟨q0, q1, q2, q3, q4, -, -, -, -, -, qs⟩ := boxf (HBm.out _ (HE2.out.box _ (.tail _ (.head _))))
  obtain ⟨f0, f1, f2, f3, f4, f5, f6, f7, f8, f9, f10, f11, f12, f13, -, fs⟩ := framef (HBf.out _ (HE2.out.box _ (.head _)))
  go_wp2_with fail
  clear q0 q1 q2 q3 q4 qs f0 f1 f2 f3 f4 f5 f6 f7 f8 f9 f10 f11 f12 f13 fs
  refine (ownMem_any M aS aH aF aL cS cH cF cL w2 (HA.out.at_.below HE2.out.bl)).mono ?_
  rintro e w3 ⟨xS, xH, xF, xL, kS, kH, kF, kL, rfl, R3, hb3⟩
  have h2 : w.heap.size + 1 < w2.heap.size := HE2.out.lt (.head _)
  have h3 := hb3.size
  obtain ⟨ox, hox⟩ : ∃ o : Obj, o = .cells #[.slice xS M.slots.length kS, .slice xH M.heads.length kH, .slice xF M.free.length kF, .slice xL M.locks.length kL, .int .i64 M.now] 25 := ⟨_, rfl⟩
  have HM3 : Hid (Mine (w3.alloc ox) w3.heap.size w2.heap.size xS xH xF xL kS kH kF kL M) := by
    obtain ⟨x1, x2, x3, x4⟩ := HMx.out
    have := HFe.out
    rw [hox]
    exact Mine.made R3 (by omega) (by omega) (by omega) (by omega)
  have HE3 : Hid (Env w (w3.alloc ox) [(w.heap.size + 1, of), (w.heap.size, om)] []) := (HE2.out.below hb3).below (one_below _ _)
  have HF3 : Hid (∀ k, Foot w3.heap.size xS xH xF xL k → w.heap.size + 2 ≤ k) := HM3.out.foot (by omega) (by omega)
  have HG3 : Hid (w3.heap.size < (w3.alloc ox).heap.size) := lt_of_block HM3.out.box
  clear R3 hb3 HE2 h2 h3
  obtain ⟨f0, f1, f2, f3, f4, f5, f6, f7, f8, f9, f10, f11, f12, f13, -, fs⟩ := framef (HBf.out _ (HE3.out.box _ (.head _)))
  rw [hox] at f0 f1 f2 f3 f4 f5 f6 f7 f8 f9 f10 f11 f12 f13 fs
  go_wp2_with fail
  clear f0 f1 f2 f3 f4 f5 f6 f7 f8 f9 f10 f11 f12 f13 fs
  rw [← hox]
  generalize w3.alloc ox = W3 at *
  generalize w3.heap.size = B at *
  generalize w2.heap.size = lo at *
  clear hox
  refine (HSt.out W3 B lo xS xH xF xL kS kH kF kL HM3.out (HR.out.below HE3.out.bl) (fun ad h hF => by have := HLow.out ad h; have := HF3.out _ hF; omega)).mono ?_
  rintro e w4 ⟨⟨ga, gk, rfl, hgm⟩, ⟨yS, yH, yF, yL, jS, jH, jF, jL, m4⟩, hf4⟩
  obtain ⟨og, hog⟩ : ∃ o : Obj, o = .cells #[.int .i64 2, .int .i64 f.c.a, .int .i64 f.c.b, .int .i64 f.c.time, .int .i64 f.c.bk, .int .i64 f.c.slot, .int .i64 gpl, .int .i64 gcur, .int .i64 gprev, .int .i64 gslot, .int .i64 gn, .slice ga gkeys.length gk, .bool gdone, .int .i64 ge] 51 := ⟨_, rfl⟩
  have HE4 : Hid (Env w (w4.alloc og) [(w4.heap.size, og), (w.heap.size + 1, of), (w.heap.size, om)] []) := (HE3.out.fine hf4 (fun k h => by have := HF3.out k h; omega) (fun p hp => by
    rcases List.mem_cons.1 hp with rfl | hp
    · intro h; have := HF3.out _ h; dsimp only at this; omega
    rcases List.mem_cons.1 hp with rfl | hp
    · intro h; have := HF3.out _ h; dsimp only at this; omega
    cases hp)).alloc og
  have HM4 : Hid (Mine (w4.alloc og) B lo yS yH yF yL jS jH jF jL ⟨nS, nH, nF, nL, M.now⟩) := m4.below (one_below _ _)
  have HBg : Hid (∀ (W : World) (G : Nat), W.heap[G]? = some og → W.heap[G]? = some (.cells #[.int .i64 2, .int .i64 f.c.a, .int .i64 f.c.b, .int .i64 f.c.time, .int .i64 f.c.bk, .int .i64 f.c.slot, .int .i64 gpl, .int .i64 gcur, .int .i64 gprev, .int .i64 gslot, .int .i64 gn, .slice ga gkeys.length gk, .bool gdone, .int .i64 ge] 51 (0, 0))) := fun W G E => hog ▸ E
  have HBx : Hid (∀ W : World, Mine W B lo yS yH yF yL jS jH jF jL ⟨nS, nH, nF, nL, M.now⟩ → W.heap[B]? = some (.cells #[.slice yS M.slots.length jS, .slice yH M.heads.length jH, .slice yF nF.length jF, .slice yL M.locks.length jL, .int .i64 M.now] 25 (0, 0))) := fun W m => by have h := m.box; dsimp only at h; rwa [HLn.out, HLh.out, HLl.out] at h
  have HGm : Hid (gkeys.length * 16 ≤ 140737488351232) := hgm
  clear HM3 HE3 HF3 HG3 hf4 m4 hgm HSt HR HLow
  obtain ⟨q0, q1, q2, q3, q4, -, -, -, -, -, qs⟩ := boxf (HBm.out _ (HE4.out.box _ (.tail _ (.tail _ (.head _)))))
  obtain ⟨f0, f1, f2, f3, f4, f5, f6, f7, f8, f9, f10, f11, f12, f13, -, fs⟩ := framef (HBf.out _ (HE4.out.box _ (.tail _ (.head _))))
  obtain ⟨g0, g1, g2, g3, g4, g5, g6, g7, g8, g9, g10, g11, g12, g13, -, gs⟩ := framef (HBg.out _ _ (HE4.out.box _ (.head _)))
  obtain ⟨p0, p1, p2, p3, p4, -, -, -, -, -, ps⟩ := boxf (HBx.out _ HM4.out)
  rw [hog] at q0 q1 q2 q3 q4 qs f0 f1 f2 f3 f4 f5 f6 f7 f8 f9 f10 f11 f12 f13 fs g0 g1 g2 g3 g4 g5 g6 g7 g8 g9 g10 g11 g12 g13 gs p0 p1 p2 p3 p4 ps
  go_wp2_with fail
  clear q0 q1 q2 q3 q4 qs f0 f1 f2 f3 f4 f5 f6 f7 f8 f9 f10 f11 f12 f13 fs g0 g1 g2 g3 g4 g5 g6 g7 g8 g9 g10 g11 g12 g13 gs p0 p1 p2 p3 p4 ps
  rw [← hog]
  generalize w4.alloc og = W4 at *
  generalize w4.heap.size = G at *
  clear hog
  have HAt : Hid (∀ W : World, Below w.heap.size w W → At W aS aH aF aL cS cH cF cL M) := fun W hb => HA.out.at_.below hb
  refine (HBk.out W4).mono ?_
  rintro e w5 ⟨rfl, hb5⟩
  have HE5 : Hid (Env w w5 [(G, og), (w.heap.size + 1, of), (w.heap.size, om)] []) := HE4.out.below hb5
  have HM5 : Hid (Mine w5 B lo yS yH yF yL jS jH jF jL ⟨nS, nH, nF, nL, M.now⟩) := HM4.out.below hb5
  clear hb5 HE4 HM4
  obtain ⟨q0, q1, q2, q3, q4, -, -, -, -, -, qs⟩ := boxf (HBm.out _ (HE5.out.box _ (.tail _ (.tail _ (.head _)))))
  obtain ⟨f0, f1, f2, f3, f4, f5, f6, f7, f8, f9, f10, f11, f12, f13, -, fs⟩ := framef (HBf.out _ (HE5.out.box _ (.tail _ (.head _))))
  obtain ⟨g0, g1, g2, g3, g4, g5, g6, g7, g8, g9, g10, g11, g12, g13, -, gs⟩ := framef (HBg.out _ _ (HE5.out.box _ (.head _)))
  obtain ⟨p0, p1, p2, p3, p4, -, -, -, -, -, ps⟩ := boxf (HBx.out _ HM5.out)
  have hh1 : M.heads.length ≤ 9223372036854775807 := by have := HMx.out.2.1; omega
  go_wp2_with fail
  clear q0 q1 q2 q3 q4 qs f0 f1 f2 f3 f4 f5 f6 f7 f8 f9 f10 f11 f12 f13 fs g0 g1 g2 g3 g4 g5 g6 g7 g8 g9 g10 g11 g12 g13 gs p0 p1 p2 p3 p4 ps
  go_loopw [34] (fun i wr => ∃ k : Nat, k ≤ M.heads.length ∧ i = .int .i64 k ∧ Hid (Env w wr [(G, og), (w.heap.size + 1, of), (w.heap.size, om)] []) ∧ Hid (Mine wr B lo yS yH yF yL jS jH jF jL ⟨nS, nH, nF, nL, M.now⟩)) (fun i _ => M.heads.length - (intOf i).toNat)
  case atStart => exact ⟨0, Nat.zero_le _, rfl, HE5, HM5⟩
  case round =>
    clear HE5 HM5
    obtain ⟨k, hk, rfl, HE8, HM8⟩ := hrel
    by_cases hlt : k < M.heads.length
    · by_cases hkb0 : k = b
      · obtain ⟨q0, q1, q2, q3, q4, -, -, -, -, -, qs⟩ := boxf (HBm.out _ (HE8.out.box _ (.tail _ (.tail _ (.head _)))))
        obtain ⟨f0, f1, f2, f3, f4, f5, f6, f7, f8, f9, f10, f11, f12, f13, -, fs⟩ := framef (HBf.out _ (HE8.out.box _ (.tail _ (.head _))))
        obtain ⟨g0, g1, g2, g3, g4, g5, g6, g7, g8, g9, g10, g11, g12, g13, -, gs⟩ := framef (HBg.out _ _ (HE8.out.box _ (.head _)))
        obtain ⟨p0, p1, p2, p3, p4, -, -, -, -, -, ps⟩ := boxf (HBx.out _ HM8.out)
        have hkb : ((k : Int) == (b : Int)) = true := by simp [hkb0]
        go_wp2_with fail
        go_quiet (fail)
        go_wp2
        refine ⟨⟨k + 1, by omega, by go_num, HE8.out.below (drewN_below _ _), HM8.out.below (drewN_below _ _)⟩, ?_⟩
        simp [intOf]
        omega
      · obtain ⟨q0, q1, q2, q3, q4, -, -, -, -, -, qs⟩ := boxf (HBm.out _ (HE8.out.box _ (.tail _ (.tail _ (.head _)))))
        obtain ⟨f0, f1, f2, f3, f4, f5, f6, f7, f8, f9, f10, f11, f12, f13, -, fs⟩ := framef (HBf.out _ (HE8.out.box _ (.tail _ (.head _))))
        obtain ⟨g0, g1, g2, g3, g4, g5, g6, g7, g8, g9, g10, g11, g12, g13, -, gs⟩ := framef (HBg.out _ _ (HE8.out.box _ (.head _)))
        obtain ⟨p0, p1, p2, p3, p4, -, -, -, -, -, ps⟩ := boxf (HBx.out _ HM8.out)
        have hkb : ((k : Int) == (b : Int)) = false := by rw [beq_eq_false_iff_ne]; omega
        have hkn : ((k : Int) != (b : Int)) = true := by rw [bne, hkb]; rfl
        have hlh : k < nH.length := by have := HLh.out; omega
        have hll : k < nL.length := by have := HLl.out; have := HNl.out; omega
        have hll2 : k < M.locks.length := by have := HNl.out; omega
        rcases HM8.out.at.h.at_ with h0 | ⟨b1, o1, rfl, hc1⟩
        · have h0' : nH.length = 0 := h0
          omega
        rcases (HAt.out _ HE8.out.bl).h.at_ with h0 | ⟨b2, o2, rfl, hc2⟩
        · omega
        rcases HM8.out.at.l.at_ with h0 | ⟨b3, o3, rfl, hc3⟩
        · have h0' : nL.length = 0 := h0
          omega
        rcases (HAt.out _ HE8.out.bl).l.at_ with h0 | ⟨b4, o4, rfl, hc4⟩
        · omega
        have x1 := hc1 k hlh
        have x2 := hc2 k hlt
        have x3 := hc3 k hll
        have x4 := hc4 k hll2
        clear hc1 hc2 hc3 hc4
        have e1 : nH[k] = M.heads[k] := by
          have := HNr.out.heads k hkb0
          dsimp only at this
          rw [List.getElem?_eq_getElem hlh, List.getElem?_eq_getElem hlt] at this
          injection this
        have e2 : nL[k] = M.locks[k] := by
          have := HNr.out.locks k hkb0
          dsimp only at this
          rw [List.getElem?_eq_getElem hll, List.getElem?_eq_getElem hll2] at this
          injection this
        dsimp only at x1 x3
        rw [e1] at x1
        rw [e2] at x3
        generalize M.heads[k] = xh at x1 x2
        generalize M.locks[k] = xl at x3 x4
        have bl1 : b1 < wr.heap.size := cell_lt x1
        have bl2 : b2 < wr.heap.size := cell_lt x2
        have bl3 : b3 < wr.heap.size := cell_lt x3
        have bl4 : b4 < wr.heap.size := cell_lt x4
        clear e1 e2 hlh hll
        go_wp2_with fail
        go_quiet (fail)
        go_wp2
        refine ⟨⟨k + 1, by omega, by go_num, HE8.out.below (drewN_below _ _), HM8.out.below (drewN_below _ _)⟩, ?_⟩
        simp [intOf]
        omega
    · obtain rfl : k = M.heads.length := by omega
      obtain ⟨q0, q1, q2, q3, q4, -, -, -, -, -, qs⟩ := boxf (HBm.out _ (HE8.out.box _ (.tail _ (.tail _ (.head _)))))
      obtain ⟨f0, f1, f2, f3, f4, f5, f6, f7, f8, f9, f10, f11, f12, f13, -, fs⟩ := framef (HBf.out _ (HE8.out.box _ (.tail _ (.head _))))
      obtain ⟨g0, g1, g2, g3, g4, g5, g6, g7, g8, g9, g10, g11, g12, g13, -, gs⟩ := framef (HBg.out _ _ (HE8.out.box _ (.head _)))
      obtain ⟨p0, p1, p2, p3, p4, -, -, -, -, -, ps⟩ := boxf (HBx.out _ HM8.out)
      go_wp2_with fail
      clear q0 q1 q2 q3 q4 qs f0 f1 f2 f3 f4 f5 f6 f7 f8 f9 f10 f11 f12 f13 fs g0 g1 g2 g3 g4 g5 g6 g7 g8 g9 g10 g11 g12 g13 gs p0 p1 p2 p3 p4 ps
      have c1 := changed_any M ⟨nS, nH, nF, nL, M.now⟩ aS aH aF aL yS yH yF yL cS cH cF cL jS jH jF jL wr (HAt.out _ HE8.out.bl).s HM8.out.at.s HLn.out
      dsimp only at c1
      rw [HLn.out, HLh.out, HLl.out] at c1
      have hdif : dif M.slots nS M.slots.length ≤ 1 := HNr.out.dif _
      generalize dif M.slots nS M.slots.length = dd at c1 hdif
      refine c1.mono ?_
      clear c1
      rintro e w9 ⟨rfl, hb9⟩
      have HE9 : Hid (Env w w9 [(G, og), (w.heap.size + 1, of), (w.heap.size, om)] []) := HE8.out.below hb9
      have HM9 : Hid (Mine w9 B lo yS yH yF yL jS jH jF jL ⟨nS, nH, nF, nL, M.now⟩) := HM8.out.below hb9
      clear hb9 HE8 HM8
      have hd1 : (dd : Int) ≤ 1 := by omega
      have hm3 : M.free.length ≤ 1000 := by have := HFe.out; omega
      have hm4 : nF.length ≤ 1000 := by have := HFe.out; have := HFn.out; omega
      have hl1 : (nF.length : Int) ≤ (M.free.length : Int) + 1 := by have := HFn.out; omega
      have hl2 : (M.free.length : Int) ≤ (nF.length : Int) + 1 := by have := HFn.out; omega
      have se : ∀ W : World, (Op.equalIn 10000 48 (.agg #[.int .i64 2, .int .i64 f.c.a, .int .i64 f.c.b, .int .i64 f.c.time, .int .i64 f.c.bk, .int .i64 f.c.slot]) (.agg #[.int .i64 2, .int .i64 f.c.a, .int .i64 f.c.b, .int .i64 f.c.time, .int .i64 f.c.bk, .int .i64 f.c.slot])).run Try.prog W = .ok true W := fun W => cequal ⟨2, f.c.a, f.c.b, f.c.time, f.c.bk, f.c.slot⟩ W
      obtain ⟨q0, q1, q2, q3, q4, -, -, -, -, -, qs⟩ := boxf (HBm.out _ (HE9.out.box _ (.tail _ (.tail _ (.head _)))))
      obtain ⟨f0, f1, f2, f3, f4, f5, f6, f7, f8, f9, f10, f11, f12, f13, -, fs⟩ := framef (HBf.out _ (HE9.out.box _ (.tail _ (.head _))))
      obtain ⟨g0, g1, g2, g3, g4, g5, g6, g7, g8, g9, g10, g11, g12, g13, -, gs⟩ := framef (HBg.out _ _ (HE9.out.box _ (.head _)))
      obtain ⟨p0, p1, p2, p3, p4, -, -, -, -, -, ps⟩ := boxf (HBx.out _ HM9.out)
      cases gdone
      · go_wp2_with fail
        clear q0 q1 q2 q3 q4 qs f0 f1 f2 f3 f4 f5 f6 f7 f8 f9 f10 f11 f12 f13 fs g0 g1 g2 g3 g4 g5 g6 g7 g8 g9 g10 g11 g12 g13 gs p0 p1 p2 p3 p4 ps
        have c1 := frCheck_any yS yH yF yL M.slots.length M.heads.length nF.length M.locks.length jS jH jF jL M.now ⟨⟨2, f.c.a, f.c.b, f.c.time, f.c.bk, f.c.slot⟩, gpl, gcur, gprev, gslot, gn, gkeys, false, ge⟩ ga gk w9 (by have := HMx.out.1; omega) (by have := HMx.out.2.1; omega) (by have := HGm.out; dsimp only; omega)
        have hfr := HFr.out (by first | exact trivial | rfl)
        rw [hfr] at c1
        refine c1.mono ?_
        rintro e w10 ⟨rfl, hb10⟩
        clear c1 hfr
        have HE10 : Hid (Env w w10 [(G, og), (w.heap.size + 1, of), (w.heap.size, om)] []) := HE9.out.below hb10
        have HM10 : Hid (Mine w10 B lo yS yH yF yL jS jH jF jL ⟨nS, nH, nF, nL, M.now⟩) := HM9.out.below hb10
        clear hb10 HE9 HM9
        obtain ⟨q0, q1, q2, q3, q4, -, -, -, -, -, qs⟩ := boxf (HBm.out _ (HE10.out.box _ (.tail _ (.tail _ (.head _)))))
        obtain ⟨f0, f1, f2, f3, f4, f5, f6, f7, f8, f9, f10, f11, f12, f13, -, fs⟩ := framef (HBf.out _ (HE10.out.box _ (.tail _ (.head _))))
        obtain ⟨g0, g1, g2, g3, g4, g5, g6, g7, g8, g9, g10, g11, g12, g13, -, gs⟩ := framef (HBg.out _ _ (HE10.out.box _ (.head _)))
        obtain ⟨p0, p1, p2, p3, p4, -, -, -, -, -, ps⟩ := boxf (HBx.out _ HM10.out)
        go_wp2
        go_ret
        exact ⟨rfl, HE10.out.bl⟩
      · go_wp2
        go_ret
        exact ⟨rfl, HE9.out.bl⟩

end Go.Proofs.Ytdbilofhcadmoab.mm
