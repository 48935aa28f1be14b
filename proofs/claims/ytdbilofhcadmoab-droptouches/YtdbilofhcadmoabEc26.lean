/- What the walks of the statements on calls that go on alone share. -/
import Derived.Test.YtdbilofhcadmoabEc23
import Derived.Test.YtdbilofhcadmoabEc25
import Derived.Test.YtdbilofhcadmoabEc24
import Derived.Test.YtdbilofhcadmoabEc15
import Derived.Deep.QuietTactic
import Derived.BigQuiet
import Derived.Test.YtdbilofhcadmoabEc02
import Derived.Test.YtdbilofhcadmoabEc01
import Derived.Test.YtdbilofhcadmoabEc07
import Derived.Test.YtdbilofhcadmoabEc06
import Derived.Deep.RegionWith
import Derived.Test.YtdbilofhcadmoabEc04
import Derived.Test.YtdbilofhcadmoabEc12
import Derived.Laws.AppendOwnNone
import Derived.Deep.Slices
import Derived.SizedLaws
import Derived.Carry
import Derived.Test.YtdbilofhcadmoabEc08
namespace Go.Proofs.Ytdbilofhcadmoab.mm
open Go.ChangeShapes Go.WideShapes Go.ChangeAt Go.RowKit Go.Joins
set_option maxRecDepth 100000
set_option linter.unusedVariables false

theorem equalI_at2 (a1 a2 : Option Addr) (c1 c2 n1 n2 : Nat) (l1 l2 : List Int) (h1 : n1 = l1.length) (h2 : n2 = l2.length) (w : World) (r1 : IRow w a1 c1 l1) (r2 : IRow w a2 c2 l2) :
    Calls Try.prog 22 #[.slice a1 n1 c1, .slice a2 n2 c2] w fun e w' => e = .returned (.bool (eqI l1 l2)) ∧ Below w.heap.size w w' := by
  subst h1 h2
  exact equalI_any a1 a2 c1 c2 l1 l2 w r1 r2

structure AdE (w W : World) (B X Y lo : Nat) (aS aH aF aL : Option Addr) (cS cH cF cL : Nat) (M : Mm) (o1 o2 : Obj) : Prop where
  bl : Below w.heap.size w W
  m : Mine W B lo aS aH aF aL cS cH cF cL M
  x : W.heap[X]? = some o1
  y : W.heap[Y]? = some o2
theorem AdE.below {w W W2 : World} {B X Y lo : Nat} {aS aH aF aL : Option Addr} {cS cH cF cL : Nat} {M : Mm} {o1 o2 : Obj} (h : AdE w W B X Y lo aS aH aF aL cS cH cF cL M o1 o2) (hb : Below W.heap.size W W2) : AdE w W2 B X Y lo aS aH aF aL cS cH cF cL M o1 o2 :=
  ⟨h.bl.trans (hb.mono h.bl.size), h.m.below hb, (hb.block _ (lt_of_block h.x)).trans h.x, (hb.block _ (lt_of_block h.y)).trans h.y⟩

theorem eqM_own (N : Mm) : eqM N N = true := by
  unfold eqM
  rw [(eqS_iff _ _).2 rfl, (eqI_iff _ _).2 rfl, (eqI_iff _ _).2 rfl, (eqI_iff _ _).2 rfl]
  simp

theorem flows_few {M : Mm} (hM : Ok M) : (flowsOf M).length ≤ 1000 := by
  have hal := allTo_len M M.heads.length
  have hal2 : M.heads.length * M.slots.length ≤ 4 * 12 := Nat.mul_le_mul hM.nh.2 hM.ns
  unfold flowsOf
  rw [List.length_map]
  exact Nat.le_trans (Nat.le_trans hal hal2) (by omega)
theorem any_key {M : Mm} (ka kb : Int) : (flowsOf M).any (fun x => x.a == ka && x.b == kb) = hasK M (allC M) (ka, kb) := by
  unfold flowsOf hasK
  rw [Bool.eq_iff_iff, List.any_eq_true, List.contains_iff_mem, List.mem_map]
  constructor
  · rintro ⟨x, hx, h⟩
    obtain ⟨a, ha, rfl⟩ := List.mem_map.1 hx
    simp only [flowAt, Bool.and_eq_true, beq_iff_eq] at h
    exact ⟨a, ha, by unfold keyAt; rw [h.1, h.2]⟩
  · rintro ⟨a, ha, h⟩
    refine ⟨flowAt M a, List.mem_map_of_mem ha, ?_⟩
    unfold keyAt at h
    injection h with h1 h2
    simp [flowAt, h1, h2]
theorem flowsM_of {M : Mm} (h : OkC M) : flowsM M = flowsOf M := by unfold flowsM flowsOf; rw [if_pos ((chkC_zero M).2 h)]


end Go.Proofs.Ytdbilofhcadmoab.mm

/- The closed fact of the statements on Drops: what is mapped is dropped, what isn't can't be. -/
namespace Go.Proofs.Ytdbilofhcadmoab.mm
open Go.ChangeShapes Go.WideShapes Go.ChangeAt Go.RowKit Go.Joins Go.Deep
set_option maxRecDepth 100000
set_option linter.unusedVariables false

def dropFr (f : Fr) : Fr := { f with c := { f.c with kind := 3 } }
def dC : Cl := ⟨3, 3, 0, 0, 0, 0⟩
def dN1 : Mm := (run drF (drM 1) 40 sM3 (newF dC)).1
def dF1 : Fr := (run drF (drM 1) 40 sM3 (newF dC)).2.1
def dN2 : Mm := (run drF (drM 1) 40 dN1 (newF dC)).1
def dF2 : Fr := (run drF (drM 1) 40 dN1 (newF dC)).2.1
theorem d1_ok : (run drF (drM 1) 40 sM3 (newF dC)).2.2 = true := by decide
theorem d2_ok : (run drF (drM 1) 40 dN1 (newF dC)).2.2 = true := by decide
theorem d1_says : dF1.e = 0 := by decide
theorem d2_says : dF2.e = 5 := by decide
theorem d2_mem : dN2.free.length = 2 ∧ dN2.heads.length = 1 ∧ headM dN2 0 = -1 ∧ dN2.locks.length = 1 ∧ lockAt dN2 0 = -1 := by decide
theorem ds3_good : DrG 1 sM3 (newF dC) := by
  obtain ⟨X, g, h⟩ := goesB_goes (nf := drF) (nm := drM 1) (k := 40) (M := sM3) (f := newF dC) (by decide)
  exact ⟨⟨40, X, g, h⟩, fit_iff.1 (by decide), rfl, rfl⟩
theorem dn1_good : DrG 1 dN1 (newF dC) := by
  obtain ⟨X, g, h⟩ := goesB_goes (nf := drF) (nm := drM 1) (k := 40) (M := dN1) (f := newF dC) (by decide)
  exact ⟨⟨40, X, g, h⟩, fit_iff.1 (by decide), rfl, rfl⟩
theorem ds3_small : sM3.slots.length = 2 ∧ sM3.heads.length = 1 ∧ sM3.free.length = 1 ∧ sM3.locks.length = 1 := by decide

theorem drop_alone {B lo : Nat} {Z : Nat → Prop} {M N : Mm} {c : Cl} {g : Fr} (w : World) (n : Nat) (hn : n ≤ 1000) (hG : DrG 1 M (newF c)) (h1 : (run drF (drM 1) n M (newF c)).1 = N) (h2 : (run drF (drM 1) n M (newF c)).2.1 = g) (ok : Bool) (h3 : (run drF (drM 1) n M (newF c)).2.2 = ok) (hM : Has w B lo Z M) (hZ : ∀ k, Z k → k < w.heap.size) :
    Calls Try.prog 42 #[.agg #[.int .i64 c.kind, .int .i64 c.a, .int .i64 c.b, .int .i64 c.time, .int .i64 c.bk, .int .i64 c.slot], .int .i64 n, .func (.func 128) #[] #[.pointer (some ⟨B, 0, none⟩)]] w fun e w' =>
      (∃ a c', e = .returned (.tuple #[.agg #[.int .i64 g.c.kind, .int .i64 g.c.a, .int .i64 g.c.b, .int .i64 g.c.time, .int .i64 g.c.bk, .int .i64 g.c.slot, .int .i64 g.pl, .int .i64 g.cur, .int .i64 g.prev, .int .i64 g.slot, .int .i64 g.n, .slice a g.keys.length c', .bool g.done, .int .i64 g.e], .bool ok])) ∧ Has w' B lo (Up w Z) N ∧ Fine w w' Z := by
  subst h1 h2 h3
  exact alone_any 128 #[.pointer (some ⟨B, 0, none⟩)] drF (drM 1) (DrG 1) B lo Z M c n w (fun args W => by kernel_rfl) (fun M f W Z h h' => closD1 M f B lo Z W h h') (fun M f h hd => drG_next h hd) hM hZ hG hn

set_option maxHeartbeats 6400000 in
theorem dropped_any (w : World) : Calls Try.prog 61 #[] w fun e w' => e = .returned (.bool true) ∧ Below w.heap.size w w' := by
  go_enter Try.func61, Try.ntmps61
  go_wp2_with fail
  refine (single_any w).mono ?_
  rintro e w1 ⟨v1, rfl, ⟨aS1, aH1, aF1', aL1, cS1, cH1, cF1, cL1, rfl, R1⟩, b1⟩
  obtain ⟨z1, z2, z3, z4⟩ := ds3_small
  have m1 : Mine (w1.alloc (.cells #[.slice aS1 sM3.slots.length cS1, .slice aH1 sM3.heads.length cH1, .slice aF1' sM3.free.length cF1, .slice aL1 sM3.locks.length cL1, .int .i64 sM3.now] 25)) w1.heap.size w.heap.size aS1 aH1 aF1' aL1 cS1 cH1 cF1 cL1 sM3 := Mine.made R1 (by omega) (by omega) (by omega) (by omega)
  have HM1 : Hid _ := m1
  have HW1 : Hid (Below w.heap.size w (w1.alloc (.cells #[.slice aS1 sM3.slots.length cS1, .slice aH1 sM3.heads.length cH1, .slice aF1' sM3.free.length cF1, .slice aL1 sM3.locks.length cL1, .int .i64 sM3.now] 25))) := b1.alloc b1.size _
  have HS1 : Hid (w.heap.size ≤ w1.heap.size) := b1.size
  clear m1 R1 b1 z1 z2 z3 z4
  go_wp2_with fail
  generalize w1.alloc (.cells #[.slice aS1 sM3.slots.length cS1, .slice aH1 sM3.heads.length cH1, .slice aF1' sM3.free.length cF1, .slice aL1 sM3.locks.length cL1, .int .i64 sM3.now] 25) = W1 at *
  generalize w1.heap.size = B at *
  have HFt : Hid (∀ k, Foot B aS1 aH1 aF1' aL1 k → w.heap.size ≤ k) := by
    rintro k (rfl | ⟨ad, rfl, rfl⟩ | ⟨ad, rfl, rfl⟩ | ⟨ad, rfl, rfl⟩ | ⟨ad, rfl, rfl⟩)
    · exact HS1.out
    · exact (HM1.out.c.s.lt _ rfl).1
    · exact (HM1.out.c.h.lt _ rfl).1
    · exact (HM1.out.c.f.lt _ rfl).1
    · exact (HM1.out.c.l.lt _ rfl).1
  refine (drop_alone (c := dC) (N := dN1) (g := dF1) W1 40 (by omega) ds3_good rfl rfl true d1_ok ⟨_, _, _, _, _, _, _, _, HM1.out, fun _ h => h⟩ (foot_lt HM1.out)).mono ?_
  rintro e w2 ⟨⟨a2, c2, rfl⟩, hh2, hf2⟩
  have HW2 : Hid (Below w.heap.size w (w2.alloc (.cells #[.int .i64 dF1.c.kind, .int .i64 dF1.c.a, .int .i64 dF1.c.b, .int .i64 dF1.c.time, .int .i64 dF1.c.bk, .int .i64 dF1.c.slot, .int .i64 dF1.pl, .int .i64 dF1.cur, .int .i64 dF1.prev, .int .i64 dF1.slot, .int .i64 dF1.n, .slice a2 dF1.keys.length c2, .bool dF1.done, .int .i64 dF1.e] 51))) := (HW1.out.trans (hf2.down HW1.out.size HFt.out)).alloc (by have := HW1.out.size; have := hf2.size; omega) _
  have HH2 : Hid (Has (w2.alloc (.cells #[.int .i64 dF1.c.kind, .int .i64 dF1.c.a, .int .i64 dF1.c.b, .int .i64 dF1.c.time, .int .i64 dF1.c.bk, .int .i64 dF1.c.slot, .int .i64 dF1.pl, .int .i64 dF1.cur, .int .i64 dF1.prev, .int .i64 dF1.slot, .int .i64 dF1.n, .slice a2 dF1.keys.length c2, .bool dF1.done, .int .i64 dF1.e] 51)) B w.heap.size (fun k => w.heap.size ≤ k ∧ k < w2.heap.size) dN1) := (hh2.low.mono (fun k h1 h2 => ⟨h2.elim (fun h => h ▸ HS1.out) id, h1⟩)).below (one_below _ _)
  have HB2 : Hid ((w2.alloc (.cells #[.int .i64 dF1.c.kind, .int .i64 dF1.c.a, .int .i64 dF1.c.b, .int .i64 dF1.c.time, .int .i64 dF1.c.bk, .int .i64 dF1.c.slot, .int .i64 dF1.pl, .int .i64 dF1.cur, .int .i64 dF1.prev, .int .i64 dF1.slot, .int .i64 dF1.n, .slice a2 dF1.keys.length c2, .bool dF1.done, .int .i64 dF1.e] 51)).heap[w2.heap.size]? = some (.cells #[.int .i64 dF1.c.kind, .int .i64 dF1.c.a, .int .i64 dF1.c.b, .int .i64 dF1.c.time, .int .i64 dF1.c.bk, .int .i64 dF1.c.slot, .int .i64 dF1.pl, .int .i64 dF1.cur, .int .i64 dF1.prev, .int .i64 dF1.slot, .int .i64 dF1.n, .slice a2 dF1.keys.length c2, .bool dF1.done, .int .i64 dF1.e] 51 (0, 0))) := heap_alloc_new _ _
  clear hh2 hf2 HM1 HW1 HFt
  go_wp2_with fail
  generalize w2.alloc (.cells #[.int .i64 dF1.c.kind, .int .i64 dF1.c.a, .int .i64 dF1.c.b, .int .i64 dF1.c.time, .int .i64 dF1.c.bk, .int .i64 dF1.c.slot, .int .i64 dF1.pl, .int .i64 dF1.cur, .int .i64 dF1.prev, .int .i64 dF1.slot, .int .i64 dF1.n, .slice a2 dF1.keys.length c2, .bool dF1.done, .int .i64 dF1.e] 51) = W2 at *
  generalize w2.heap.size = X at *
  refine (drop_alone (c := dC) (N := dN2) (g := dF2) W2 40 (by omega) dn1_good rfl rfl true d2_ok HH2.out (fun k h => Nat.lt_trans h.2 (lt_of_block HB2.out))).mono ?_
  rintro e w3 ⟨⟨a3, c3, rfl⟩, hh3, hf3⟩
  have HW3 : Hid (Below w.heap.size w (w3.alloc (.cells #[.int .i64 dF2.c.kind, .int .i64 dF2.c.a, .int .i64 dF2.c.b, .int .i64 dF2.c.time, .int .i64 dF2.c.bk, .int .i64 dF2.c.slot, .int .i64 dF2.pl, .int .i64 dF2.cur, .int .i64 dF2.prev, .int .i64 dF2.slot, .int .i64 dF2.n, .slice a3 dF2.keys.length c3, .bool dF2.done, .int .i64 dF2.e] 51))) := (HW2.out.trans (hf3.down HW2.out.size (fun k h => h.1))).alloc (by have := HW2.out.size; have := hf3.size; omega) _
  obtain ⟨aS, aH, aF, aL, cS, cH, cF, cL, m, hft⟩ := hh3
  have hX3 : w3.heap[X]? = some (.cells #[.int .i64 dF1.c.kind, .int .i64 dF1.c.a, .int .i64 dF1.c.b, .int .i64 dF1.c.time, .int .i64 dF1.c.bk, .int .i64 dF1.c.slot, .int .i64 dF1.pl, .int .i64 dF1.cur, .int .i64 dF1.prev, .int .i64 dF1.slot, .int .i64 dF1.n, .slice a2 dF1.keys.length c2, .bool dF1.done, .int .i64 dF1.e] 51 (0, 0)) := (hf3.block X (lt_of_block HB2.out) (fun h => by have := h.2; omega)).trans HB2.out
  obtain ⟨f0, f1, f2, f3, f4, f5, f6, f7, f8, f9, f10, f11, f12, f13, -, fs⟩ := framef hX3
  rw [d1_says] at f13
  obtain ⟨n1, n2, n3, n4, n5⟩ := d2_mem
  obtain ⟨q0, q1, q2, q3, q4, -, -, -, -, -, qs⟩ := boxf m.box
  obtain ⟨gL, rfl, -, -, -, -⟩ := row_form m.c.l (by rw [n4]; omega)
  have hxl := (row_cell m.c.l (j := 0) (by rw [n4]; omega)).1
  rw [← lockAt_get (by rw [n4]; omega), n5] at hxl
  obtain ⟨gH, rfl, -, -, -, -⟩ := row_form m.c.h (by rw [n2]; omega)
  have hxh := (row_cell m.c.h (j := 0) (by rw [n2]; omega)).1
  have hh0 : dN2.heads[0]'(by rw [n2]; omega) = -1 := by rw [← n3]; simp [headM, List.getD_eq_getElem?_getD, n2]
  rw [hh0] at hxh
  have bl1 := cell_lt hxl
  have bl2 := cell_lt hxh
  rw [n4] at q3
  rw [n1] at q2
  rw [n2] at q1
  have he2 : dF2.e = 5 := d2_says
  clear hf3 hft HH2 HB2 HW2 m hX3 n1 n2 n3 n4 n5 hh0 f0 f1 f2 f3 f4 f5 f6 f7 f8 f9 f10 f11 f12
  go_wp2
  go_ret
  exact ⟨rfl, HW3.out⟩

end Go.Proofs.Ytdbilofhcadmoab.mm

/- The contract of the document's own CheckMem: it answers what Check answers. -/
namespace Go.Proofs.Ytdbilofhcadmoab.mm
open Go.ChangeShapes Go.WideShapes Go.ChangeAt Go.RowKit Go.Maps
set_option linter.unusedVariables false

theorem drewN_below' (w : World) (q : Nat) : Below w.heap.size w (w.drewN q) := ⟨rfl, rfl, rfl, Nat.le_refl _, fun _ _ => rfl⟩

set_option maxRecDepth 100000 in
set_option maxHeartbeats 1600000 in
theorem rc_many1 (S : List Sl) (H F L : List Int) (now : Int) (aS aH aF aL : Option Addr) (cS cH cF cL : Nat) (w : World) (n1 : S.length ≤ 9223372036854775807) (n2 : H.length ≤ 9223372036854775807) (n3 : L.length ≤ 9223372036854775807) (h : 12 < S.length) :
    Calls Try.prog 89 #[.agg #[.slice aS S.length cS, .slice aH H.length cH, .slice aF F.length cF, .slice aL L.length cL, .int .i64 now]] w fun e w' => e = .returned (.int .i64 2) ∧ Below w.heap.size w w' := by
  go_enter Try.func89, Try.ntmps89
  go_wp2_with fail
  go_quiet (fail)
  go_wp2
  go_ret
  exact ⟨rfl, (one_below _ _).trans ((drewN_below' _ _).mono (by simp))⟩

set_option maxRecDepth 100000 in
set_option maxHeartbeats 1600000 in
theorem rc_many2 (S : List Sl) (H F L : List Int) (now : Int) (aS aH aF aL : Option Addr) (cS cH cF cL : Nat) (w : World) (n1 : S.length ≤ 9223372036854775807) (n2 : H.length ≤ 9223372036854775807) (n3 : L.length ≤ 9223372036854775807) (h0 : S.length ≤ 12) (h : H.length < 1) :
    Calls Try.prog 89 #[.agg #[.slice aS S.length cS, .slice aH H.length cH, .slice aF F.length cF, .slice aL L.length cL, .int .i64 now]] w fun e w' => e = .returned (.int .i64 2) ∧ Below w.heap.size w w' := by
  go_enter Try.func89, Try.ntmps89
  go_wp2_with fail
  go_quiet (fail)
  go_wp2
  go_ret
  exact ⟨rfl, (one_below _ _).trans ((drewN_below' _ _).mono (by simp))⟩

set_option maxRecDepth 100000 in
set_option maxHeartbeats 1600000 in
theorem rc_many3 (S : List Sl) (H F L : List Int) (now : Int) (aS aH aF aL : Option Addr) (cS cH cF cL : Nat) (w : World) (n1 : S.length ≤ 9223372036854775807) (n2 : H.length ≤ 9223372036854775807) (n3 : L.length ≤ 9223372036854775807) (h0 : S.length ≤ 12) (h1 : 1 ≤ H.length) (h : 4 < H.length) :
    Calls Try.prog 89 #[.agg #[.slice aS S.length cS, .slice aH H.length cH, .slice aF F.length cF, .slice aL L.length cL, .int .i64 now]] w fun e w' => e = .returned (.int .i64 2) ∧ Below w.heap.size w w' := by
  go_enter Try.func89, Try.ntmps89
  go_wp2_with fail
  go_quiet (fail)
  go_wp2
  go_ret
  exact ⟨rfl, (one_below _ _).trans ((drewN_below' _ _).mono (by simp))⟩

set_option maxRecDepth 100000 in
set_option maxHeartbeats 1600000 in
theorem rc_form (S : List Sl) (H F L : List Int) (now : Int) (aS aH aF aL : Option Addr) (cS cH cF cL : Nat) (w : World) (n1 : S.length ≤ 9223372036854775807) (n2 : H.length ≤ 9223372036854775807) (n3 : L.length ≤ 9223372036854775807) (h0 : S.length ≤ 12) (h1 : 1 ≤ H.length) (h2 : H.length ≤ 4) (h : L.length ≠ H.length) :
    Calls Try.prog 89 #[.agg #[.slice aS S.length cS, .slice aH H.length cH, .slice aF F.length cF, .slice aL L.length cL, .int .i64 now]] w fun e w' => e = .returned (.int .i64 4) ∧ Below w.heap.size w w' := by
  have hb : ((L.length : Int) != (H.length : Int)) = true := by rw [bne_iff_ne]; omega
  go_enter Try.func89, Try.ntmps89
  go_wp2_with fail
  go_quiet (fail)
  go_wp2
  go_ret
  exact ⟨rfl, (one_below _ _).trans ((drewN_below' _ _).mono (by simp))⟩

set_option maxRecDepth 100000 in
set_option maxHeartbeats 1600000 in
theorem rc_now1 (S : List Sl) (H F L : List Int) (now : Int) (aS aH aF aL : Option Addr) (cS cH cF cL : Nat) (w : World) (n1 : S.length ≤ 9223372036854775807) (n2 : H.length ≤ 9223372036854775807) (n3 : L.length ≤ 9223372036854775807) (h0 : S.length ≤ 12) (h1 : 1 ≤ H.length) (h2 : H.length ≤ 4) (h3 : L.length = H.length) (h : now < 0) :
    Calls Try.prog 89 #[.agg #[.slice aS S.length cS, .slice aH H.length cH, .slice aF F.length cF, .slice aL L.length cL, .int .i64 now]] w fun e w' => e = .returned (.int .i64 3) ∧ Below w.heap.size w w' := by
  have hb : ((L.length : Int) != (H.length : Int)) = false := by rw [h3]; simp
  clear h3
  go_enter Try.func89, Try.ntmps89
  go_wp2_with fail
  go_quiet (fail)
  go_wp2
  go_ret
  exact ⟨rfl, (one_below _ _).trans ((drewN_below' _ _).mono (by simp))⟩

set_option maxRecDepth 100000 in
set_option maxHeartbeats 1600000 in
theorem rc_now2 (S : List Sl) (H F L : List Int) (now : Int) (aS aH aF aL : Option Addr) (cS cH cF cL : Nat) (w : World) (n1 : S.length ≤ 9223372036854775807) (n2 : H.length ≤ 9223372036854775807) (n3 : L.length ≤ 9223372036854775807) (h0 : S.length ≤ 12) (h1 : 1 ≤ H.length) (h2 : H.length ≤ 4) (h3 : L.length = H.length) (h4 : 0 ≤ now) (h : 1000000 < now) :
    Calls Try.prog 89 #[.agg #[.slice aS S.length cS, .slice aH H.length cH, .slice aF F.length cF, .slice aL L.length cL, .int .i64 now]] w fun e w' => e = .returned (.int .i64 3) ∧ Below w.heap.size w w' := by
  have hb : ((L.length : Int) != (H.length : Int)) = false := by rw [h3]; simp
  clear h3
  go_enter Try.func89, Try.ntmps89
  go_wp2_with fail
  go_quiet (fail)
  go_wp2
  go_ret
  exact ⟨rfl, (one_below _ _).trans ((drewN_below' _ _).mono (by simp))⟩

theorem inB_f1 {x lo hi : Int} (h : x < lo) : inB x lo hi = false := by
  rw [Bool.eq_false_iff]; intro hh; rw [inB_iff] at hh; omega
theorem inB_f2 {x lo hi : Int} (h : hi < x) : inB x lo hi = false := by
  rw [Bool.eq_false_iff]; intro hh; rw [inB_iff] at hh; omega
theorem inB_t {x lo hi : Int} (h0 : lo ≤ x) (h1 : x ≤ hi) : inB x lo hi = true := (inB_iff _ _ _).2 ⟨h0, h1⟩

set_option maxRecDepth 100000 in
set_option maxHeartbeats 6400000 in
theorem rc_main (S : List Sl) (H F L : List Int) (now : Int) (aS aH aF aL : Option Addr) (cS cH cF cL : Nat) (w : World) (A : At w aS aH aF aL cS cH cF cL ⟨S, H, F, L, now⟩)
    (h0 : S.length ≤ 12) (h1 : 1 ≤ H.length) (h2 : H.length ≤ 4) (h3 : L.length = H.length) (h4 : 0 ≤ now) (h5 : now ≤ 1000000) :
    Calls Try.prog 89 #[.agg #[.slice aS S.length cS, .slice aH H.length cH, .slice aF F.length cF, .slice aL L.length cL, .int .i64 now]] w fun e w' => e = .returned (.int .i64 (chk ⟨S, H, F, L, now⟩)) ∧ Below w.heap.size w w' := by
  obtain ⟨Z, hZ⟩ : ∃ Z : Int, Z = chk ⟨S, H, F, L, now⟩ := ⟨_, rfl⟩
  have HC : Hid (Z = (if firstE (slotErr H.length S.length) S ≠ 0 then firstE (slotErr H.length S.length) S
      else if firstE (chainErr H.length S.length) (H.zip L) ≠ 0 then firstE (chainErr H.length S.length) (H.zip L)
      else if freeErr S [] F ≠ 0 then freeErr S [] F
      else lostErr F 0 S)) := by
    show _ = _
    rw [hZ]
    unfold chk
    dsimp only
    rw [if_neg (by omega), if_neg (by simpa using h3), if_neg (by rw [inB_t h4 h5]; simp)]
  rw [← hZ]
  clear hZ
  have HRS : Hid _ := A.s
  have HRH : Hid _ := A.h
  have HRF : Hid _ := A.f
  have HRL : Hid _ := A.l
  have m3 := A.f.max
  have n3 : F.length ≤ 9223372036854775807 := by dsimp only at m3; omega
  clear m3
  have hb : ((L.length : Int) != (H.length : Int)) = false := by rw [h3]; simp
  have HLH : Hid (L.length = H.length) := h3
  clear A h3
  obtain ⟨f, hf⟩ : ∃ f, f = slotErr H.length S.length := ⟨_, rfl⟩
  have HF : Hid (f = slotErr H.length S.length) := hf
  clear hf
  go_enter Try.func89, Try.ntmps89
  go_wp2_with fail
  go_quiet (fail)
  go_wp2
  go_loopw [46] (fun i wr => ∃ k : Nat, k ≤ S.length ∧ i = .int .i64 k ∧ Below (w.heap.size + 1) (w.alloc (.cells #[.slice aS S.length cS, .slice aH H.length cH, .slice aF F.length cF, .slice aL L.length cL, .int .i64 now] 25)) wr ∧ Hid (firstE f S = firstE f (S.drop k)))
    (fun i _ => S.length - (intOf i).toNat)
  case atStart => exact ⟨0, Nat.zero_le _, rfl, (drewN_below' _ _).mono (by simp), by show _ = _; rw [List.drop_zero]⟩
  case round =>
    obtain ⟨k, hk, rfl, hb1, HE⟩ := hrel
    have hbw : Below w.heap.size w wr := (one_below w _).trans (hb1.mono (by omega))
    obtain ⟨q0, q1, q2, q3, q4, q5⟩ := box_cells hb1
    have q6 : w.heap.size < wr.heap.size := q5
    by_cases hlt : k < S.length
    · rcases HRS.out.at_ with h0' | ⟨b, o, rfl, hc⟩
      · omega
      obtain ⟨c0, c1, c2, c3, c4, c5⟩ := hc k hlt
      have lt := cell_lt c0
      rw [← (bcell hbw).1 _ _ lt] at c0 c1 c2 c3 c4 c5
      clear hc
      generalize hs : S[k] = s at c0 c1 c2 c3 c4 c5
      obtain ⟨r, a, bb, u, i, nx⟩ := s
      dsimp only at c0 c1 c2 c3 c4 c5
      have HS : Hid (S[k] = ⟨r, a, bb, u, i, nx⟩) := hs
      clear hs
      have hbx := hbw.alloc hbw.size (.cells #[.int .i64 r, .int .i64 a, .int .i64 bb, .int .i64 u, .bool i, .int .i64 nx] 39)
      have hby := hb1.alloc q5 (.cells #[.int .i64 r, .int .i64 a, .int .i64 bb, .int .i64 u, .bool i, .int .i64 nx] 39)
      have bad : ∀ e : Int, e ≠ 0 → slotErr H.length S.length ⟨r, a, bb, u, i, nx⟩ = e → Z = e := fun e he hh => by
        have h1 : firstE f S = e := step_err hlt (by rw [HS.out, HF.out]; exact hh) he HE.out
        rw [HF.out] at h1
        rw [HC.out, h1, if_pos he]
      have HBAD : Hid _ := bad
      clear bad
      by_cases g1 : r < 0
      · have HV : Hid (Z = 3) := HBAD.out 3 (by decide) (by simp [slotErr, inB_f1 g1])
        go_wp2
        go_ret
        exact ⟨ret_int HV.out.symm, hbx⟩
      have g1' : 0 ≤ r := by omega
      by_cases g2 : 1000 < r
      · have HV : Hid (Z = 3) := HBAD.out 3 (by decide) (by simp [slotErr, inB_f2 g2])
        go_wp2
        go_ret
        exact ⟨ret_int HV.out.symm, hbx⟩
      have g2' : r ≤ 1000 := by omega
      by_cases g3 : u < 0
      · have HV : Hid (Z = 3) := HBAD.out 3 (by decide) (by simp [slotErr, inB_f1 g3])
        go_wp2
        go_ret
        exact ⟨ret_int HV.out.symm, hbx⟩
      have g3' : 0 ≤ u := by omega
      by_cases g4 : 2000000 < u
      · have HV : Hid (Z = 3) := HBAD.out 3 (by decide) (by simp [slotErr, inB_f2 g4])
        go_wp2
        go_ret
        exact ⟨ret_int HV.out.symm, hbx⟩
      have g4' : u ≤ 2000000 := by omega
      go_wp2_with fail
      refine (isKey_any a bb _).mono ?_
      rintro e w1 ⟨rfl, hb2⟩
      have hbx2 := hbx.trans (hb2.mono (by have := hbw.size; simp; omega))
      have hby2 := hby.trans (hb2.mono (by simp; omega))
      have s5 : w1.cell? ⟨wr.heap.size, 5, none⟩ = some (.int .i64 nx) := ((bcell hb2).1 _ _ (by simp)).trans (by simp)
      clear hb2 hbx hby c0 c1 c2 c3 c4 c5 q0 q1 q2 q3 q4
      cases g5 : keyB a bb
      · have HV : Hid (Z = 3) := HBAD.out 3 (by decide) (by simp [slotErr, g5])
        go_wp2
        go_ret
        exact ⟨ret_int HV.out.symm, hbx2⟩
      by_cases g6 : (S.length : Int) < nx
      · have HV : Hid (Z = 5) := HBAD.out 5 (by decide) (by simp [slotErr, inB_t g1' g2', inB_t g3' g4', g5, inB_f2 g6])
        go_wp2
        go_ret
        exact ⟨ret_int HV.out.symm, hbx2⟩
      have g6' : nx ≤ (S.length : Int) := by omega
      by_cases g7 : nx < -(H.length : Int)
      · have HV : Hid (Z = 5) := HBAD.out 5 (by decide) (by simp [slotErr, inB_t g1' g2', inB_t g3' g4', g5, inB_f1 g7])
        go_wp2
        go_ret
        exact ⟨ret_int HV.out.symm, hbx2⟩
      have g7' : -(H.length : Int) ≤ nx := by omega
      have HV : Hid (firstE f S = firstE f (S.drop (k + 1))) := step_ok hlt (by rw [HS.out, HF.out]; simp [slotErr, inB_t g1' g2', inB_t g3' g4', g5, inB_t g7' g6']) HE.out
      go_wp2
      go_roundw
      case rel => exact ⟨k + 1, by omega, by go_num, hby2, HV⟩
      case measure => simp [intOf]; omega
    · have HC2 : Hid (Z = (if firstE (chainErr H.length S.length) (H.zip L) ≠ 0 then firstE (chainErr H.length S.length) (H.zip L)
          else if freeErr S [] F ≠ 0 then freeErr S [] F
          else lostErr F 0 S)) := by
        show _ = _
        have h1 : firstE f S = 0 := by rw [HE.out, firstE_end f S k (by omega)]
        rw [HF.out] at h1
        rw [HC.out, h1, if_neg (by simp)]
      have HGOOD : Hid (∀ j (hj : j < S.length), 0 ≤ S[j].refs) := fun j hj => by
        have h1 : firstE f S = 0 := by rw [HE.out, firstE_end f S k (by omega)]
        have h2 := (firstE_zero f S).1 h1 S[j] (List.getElem_mem hj)
        rw [HF.out] at h2
        have : inB S[j].refs 0 1000 = true := by
          cases hh : inB S[j].refs 0 1000
          · simp [slotErr, hh] at h2
          · rfl
        exact ((inB_iff _ _ _).1 this).1
      clear HC HE HF
      obtain ⟨f, hf⟩ : ∃ f, f = chainErr H.length S.length := ⟨_, rfl⟩
      have HF : Hid (f = chainErr H.length S.length) := hf
      clear hf
      have HZL : Hid ((H.zip L).length = H.length) := by show _ = _; rw [List.length_zip]; have := HLH.out; omega
      obtain ⟨ZZ, hZZ⟩ : ∃ ZZ, ZZ = H.zip L := ⟨_, rfl⟩
      have HZZ : Hid (ZZ = H.zip L) := hZZ
      clear hZZ
      go_wp2
      go_loopw [87] (fun i wr => ∃ k : Nat, k ≤ H.length ∧ i = .int .i64 k ∧ Below (w.heap.size + 1) (w.alloc (.cells #[.slice aS S.length cS, .slice aH H.length cH, .slice aF F.length cF, .slice aL L.length cL, .int .i64 now] 25)) wr ∧ Hid (firstE f ZZ = firstE f (ZZ.drop k)))
        (fun i _ => H.length - (intOf i).toNat)
      case atStart => exact ⟨0, Nat.zero_le _, rfl, hb1, by show _ = _; rw [List.drop_zero]⟩
      case round =>
        clear q0 q1 q2 q3 q4 q5 q6 hbw hb1
        obtain ⟨k2, hk2, rfl, hb1, HE⟩ := hrel
        have hbw : Below w.heap.size w wr := (one_below w _).trans (hb1.mono (by omega))
        obtain ⟨q0, q1, q2, q3, q4, q5⟩ := box_cells hb1
        by_cases hlt2 : k2 < H.length
        · have hltL : k2 < L.length := by have := HLH.out; omega
          have hltZ : k2 < ZZ.length := by have := HZL.out; rw [HZZ.out]; omega
          rcases HRH.out.at_ with h0' | ⟨b, o, rfl, hc⟩
          · omega
          rcases HRL.out.at_ with h0' | ⟨b2, o2, rfl, hc2⟩
          · omega
          have c0 := hc k2 hlt2
          have d0 := hc2 k2 hltL
          have lt := cell_lt c0
          have lt2 := cell_lt d0
          rw [← (bcell hbw).1 _ _ lt] at c0
          rw [← (bcell hbw).1 _ _ lt2] at d0
          clear hc hc2
          generalize hx : H[k2] = x at c0
          generalize hy : L[k2] = y at d0
          have HS : Hid (ZZ[k2] = (x, y)) := by
            show _ = _
            have e : ZZ[k2]? = some (x, y) := by rw [HZZ.out, List.getElem?_zip_eq_some]; exact ⟨by rw [List.getElem?_eq_getElem hlt2, hx], by rw [List.getElem?_eq_getElem hltL, hy]⟩
            rw [List.getElem?_eq_getElem hltZ] at e
            exact Option.some.inj e
          clear hx hy
          have jl : (k2 : Int) < (L.length : Int) := by omega
          have bad : ∀ e : Int, e ≠ 0 → chainErr H.length S.length (x, y) = e → Z = e := fun e he hh => by
            have h1 : firstE f ZZ = e := step_err hltZ (by rw [HS.out, HF.out]; exact hh) he HE.out
            rw [HF.out, HZZ.out] at h1
            rw [HC2.out, h1, if_pos he]
          have HBAD : Hid _ := bad
          clear bad
          by_cases g1 : x = 0
          · have HV : Hid (Z = 5) := HBAD.out 5 (by decide) (by simp [chainErr, g1])
            subst g1
            go_wp2
            go_ret
            exact ⟨ret_int HV.out.symm, hbw⟩
          have g1' : (x == 0) = false := by simpa using g1
          by_cases g2 : (S.length : Int) < x
          · have HV : Hid (Z = 5) := HBAD.out 5 (by decide) (by simp [chainErr, inB_f2 g2])
            go_wp2
            go_ret
            exact ⟨ret_int HV.out.symm, hbw⟩
          have g2' : x ≤ (S.length : Int) := by omega
          by_cases g3 : x < -(H.length : Int)
          · have HV : Hid (Z = 5) := HBAD.out 5 (by decide) (by simp [chainErr, inB_f1 g3])
            go_wp2
            go_ret
            exact ⟨ret_int HV.out.symm, hbw⟩
          have g3' : -(H.length : Int) ≤ x := by omega
          by_cases g4 : y < -1
          · have HV : Hid (Z = 3) := HBAD.out 3 (by decide) (by simp [chainErr, g1, inB_t g3' g2', inB_f1 g4])
            go_wp2
            go_ret
            exact ⟨ret_int HV.out.symm, hbw⟩
          have g4' : -1 ≤ y := by omega
          by_cases g5 : 4 < y
          · have HV : Hid (Z = 3) := HBAD.out 3 (by decide) (by simp [chainErr, g1, inB_t g3' g2', inB_f2 g5])
            go_wp2
            go_ret
            exact ⟨ret_int HV.out.symm, hbw⟩
          have g5' : y ≤ 4 := by omega
          have HV : Hid (firstE f ZZ = firstE f (ZZ.drop (k2 + 1))) := step_ok hltZ (by rw [HS.out, HF.out]; simp [chainErr, g1, inB_t g3' g2', inB_t g4' g5']) HE.out
          go_wp2
          go_roundw
          case rel => exact ⟨k2 + 1, by omega, by go_num, hb1, HV⟩
          case measure => simp [intOf]; omega
        · have HC3 : Hid (Z = (if freeErr S [] F ≠ 0 then freeErr S [] F else lostErr F 0 S)) := by
            show _ = _
            have h1 : firstE f ZZ = 0 := by rw [HE.out, firstE_end f ZZ k2 (by have := HZL.out; rw [HZZ.out]; omega)]
            rw [HF.out, HZZ.out] at h1
            rw [HC2.out, h1, if_neg (by simp)]
          clear HC2 HE HF HZL HZZ
          have hmm := @run_makeMap Try.prog
          have q6 : w.heap.size < wr.heap.size := q5
          go_wp2
          obtain ⟨G, hG⟩ : ∃ G, G = wr.heap.size := ⟨_, rfl⟩
          rw [← hG]
          have HST : Hid (SetAt (wr.alloc (.map #[] 0)) G []) := by rw [hG]; exact SetAt.made wr
          have hb2 := hb1.alloc q5 (.map #[] 0)
          have hGl : w.heap.size < G := by rw [hG]; exact q5
          clear hG hmm q0 q1 q2 q3 q4 q5 hbw hb1
          go_loopw [127] (fun i wr => ∃ k : Nat, k ≤ F.length ∧ i = .int .i64 k ∧ Below (w.heap.size + 1) (w.alloc (.cells #[.slice aS S.length cS, .slice aH H.length cH, .slice aF F.length cF, .slice aL L.length cL, .int .i64 now] 25)) wr ∧ SetAt wr G (F.take k) ∧ Hid (freeErr S [] F = freeErr S (F.take k) (F.drop k)))
            (fun i _ => F.length - (intOf i).toNat)
          case atStart => exact ⟨0, Nat.zero_le _, rfl, hb2, HST.out, by show _ = _; rw [List.drop_zero, List.take_zero]⟩
          case round =>
            obtain ⟨k3, hk3, rfl, hb1, hST, HE⟩ := hrel
            clear HST hb2
            have HST : Hid (SetAt wr G (F.take k3)) := hST
            clear hST
            have hbw : Below w.heap.size w wr := (one_below w _).trans (hb1.mono (by omega))
            obtain ⟨q0, q1, q2, q3, q4, q5⟩ := box_cells hb1
            by_cases hlt3 : k3 < F.length
            · rcases HRF.out.at_ with h0' | ⟨b, o, rfl, hc⟩
              · omega
              have c0 := hc k3 hlt3
              have lt := cell_lt c0
              rw [← (bcell hbw).1 _ _ lt] at c0
              clear hc
              generalize hx : F[k3] = x at c0
              have HX : Hid (F[k3] = x) := hx
              clear hx
              have bad5 : freeOk S x = false → Z = 5 := fun hh => by
                rw [HC3.out, ferr_step5 hlt3 (by rw [HX.out]; exact hh) HE.out]; rfl
              have HB5 : Hid _ := bad5
              clear bad5
              by_cases g1 : x < 0
              · have HV : Hid (Z = 5) := HB5.out (freeOk_no (inB_f1 g1))
                go_wp2
                go_ret
                exact ⟨ret_int HV.out.symm, hbw⟩
              have g1' : 0 ≤ x := by omega
              by_cases g2 : (S.length : Int) ≤ x
              · have HV : Hid (Z = 5) := HB5.out (freeOk_no (inB_f2 (by omega)))
                go_wp2
                go_ret
                exact ⟨ret_int HV.out.symm, hbw⟩
              have g2' : x < (S.length : Int) := by omega
              obtain ⟨j, rfl⟩ : ∃ j : Nat, x = j := ⟨x.toNat, by omega⟩
              have hj : j < S.length := by omega
              rcases HRS.out.at_ with h0' | ⟨b2, o2, rfl, hc2⟩
              · omega
              have d0 := (hc2 j hj).1
              have lt2 := cell_lt d0
              rw [← (bcell hbw).1 _ _ lt2] at d0
              clear hc2
              generalize hr : S[j].refs = r at d0
              have HOK : Hid (freeOk S (j : Int) = decide (r = 0)) := by
                show _ = _
                rw [freeOk_of hj rfl, hr]
              have HRP : Hid (0 ≤ r) := by
                have := HGOOD.out j hj
                show 0 ≤ r
                rw [← hr]; exact this
              clear hr
              by_cases g3 : 0 < r
              · have HV : Hid (Z = 5) := HB5.out (by rw [HOK.out]; simp; omega)
                go_wp2
                go_ret
                exact ⟨ret_int HV.out.symm, hbw⟩
              have g3' : r = 0 := by have := HRP.out; have : 0 ≤ r := this; omega
              subst g3'
              have hlk := HST.out.look (x := (j : Int)) (wf64 (by omega) (by omega))
              cases g4 : hasB (F.take k3) (j : Int)
              · rw [g4] at hlk
                have HV : Hid (freeErr S [] F = freeErr S (F.take (k3 + 1)) (F.drop (k3 + 1))) := ferr_step hlt3 (by rw [HX.out, HOK.out]; rfl) (by rw [HX.out]; exact g4) HE.out
                obtain ⟨nn, hnn, D, ho, hat⟩ := HST.out
                have HO : Hid (wr.ownsMap Try.prog 3 (plainElem Try.prog 4) G nn D) := ho
                have HAT : Hid _ := hat
                clear ho hat
                have HNN : Hid (nn ≤ (F.take k3).length) := hnn
                have hnl : nn ≤ k3 := by rw [List.length_take] at hnn; omega
                clear hnn
                go_wp2_with (at_mapUpdate; (refine wpList_mapUpdate_own (H := Unit) _ rfl _ _ _ 130 rfl 3 4 law3 under130 (plainElem Try.prog 4) G nn D rfl HO.out (by unfold maxLen; omega) _ _ (.int .i64 (j : Int)) rfl rfl (keyOf_int_mk Try.underlying3 (wf64 (by omega) (by omega))) (.lit (.bool true)) [] (plainElem_bool Try.underlying4 true) ?_; intro w9 ho9 hg9))
                go_roundw
                case rel => exact ⟨k3 + 1, by omega, by go_num, hb1.grown hg9 q5 (fun k h => by cases h; exact hGl), by rw [List.take_succ_eq_append_getElem hlt3, HX.out]; exact SetAt.put HNN.out HO.out HAT.out ho9, HV⟩
                case measure => simp [intOf]; omega
              · rw [g4] at hlk
                have HV : Hid (Z = 6) := by
                  show _ = _
                  rw [HC3.out, ferr_step6 hlt3 (by rw [HX.out, HOK.out]; rfl) (by rw [HX.out]; exact g4) HE.out]; rfl
                go_wp2
                go_ret
                exact ⟨ret_int HV.out.symm, hbw⟩
            · have HZ2 : Hid (Z = lostErr F 0 S) := by
                show _ = _
                rw [HC3.out, HE.out, freeErr_end S F k3 (by omega)]; rfl
              have HST2 : Hid (SetAt wr G F) := by
                have := HST.out
                rwa [List.take_of_length_le (by omega)] at this
              clear HC3 HE HST
              go_wp2
              go_loopw [156] (fun i wr => ∃ k : Nat, k ≤ S.length ∧ i = .int .i64 k ∧ Below (w.heap.size + 1) (w.alloc (.cells #[.slice aS S.length cS, .slice aH H.length cH, .slice aF F.length cF, .slice aL L.length cL, .int .i64 now] 25)) wr ∧ SetAt wr G F ∧ Hid (lostErr F 0 S = lostErr F k (S.drop k)))
                (fun i _ => S.length - (intOf i).toNat)
              case atStart => exact ⟨0, Nat.zero_le _, rfl, hb1, HST2.out, by show _ = _; rw [List.drop_zero]⟩
              case round =>
                clear q0 q1 q2 q3 q4 q5 hbw hb1 HST2
                obtain ⟨k4, hk4, rfl, hb1, hST, HE⟩ := hrel
                have HST : Hid (SetAt wr G F) := hST
                clear hST
                have hbw : Below w.heap.size w wr := (one_below w _).trans (hb1.mono (by omega))
                obtain ⟨q0, q1, q2, q3, q4, q5⟩ := box_cells hb1
                by_cases hlt4 : k4 < S.length
                · rcases HRS.out.at_ with h0' | ⟨b, o, rfl, hc⟩
                  · omega
                  obtain ⟨c0, c1, c2, c3, c4, c5⟩ := hc k4 hlt4
                  have lt := cell_lt c0
                  rw [← (bcell hbw).1 _ _ lt] at c0 c1 c2 c3 c4 c5
                  clear hc
                  generalize hs : S[k4] = s at c0 c1 c2 c3 c4 c5
                  obtain ⟨r, a, bb, u, i, nx⟩ := s
                  dsimp only at c0 c1 c2 c3 c4 c5
                  have HS : Hid (S[k4] = ⟨r, a, bb, u, i, nx⟩) := hs
                  clear hs
                  have hbx := hbw.alloc hbw.size (.cells #[.int .i64 r, .int .i64 a, .int .i64 bb, .int .i64 u, .bool i, .int .i64 nx] 39)
                  have hby := hb1.alloc q5 (.cells #[.int .i64 r, .int .i64 a, .int .i64 bb, .int .i64 u, .bool i, .int .i64 nx] 39)
                  have HST4 : Hid (SetAt (wr.alloc (.cells #[.int .i64 r, .int .i64 a, .int .i64 bb, .int .i64 u, .bool i, .int .i64 nx] 39)) G F) := HST.out.kept (Below.heap_alloc _ _ _ HST.out.lt)
                  have hlk := HST4.out.look (x := (k4 : Int)) (wf64 (by omega) (by omega))
                  by_cases g1 : r = 0
                  · subst g1
                    cases g2 : hasB F (k4 : Int)
                    · rw [g2] at hlk
                      have HV : Hid (Z = 4) := by
                        show _ = _
                        rw [HZ2.out, lost_step4 hlt4 (by rw [HS.out]) g2 HE.out]
                      go_wp2
                      go_ret
                      exact ⟨ret_int HV.out.symm, hbx⟩
                    · rw [g2] at hlk
                      have HV : Hid (lostErr F 0 S = lostErr F (k4 + 1) (S.drop (k4 + 1))) := lost_step hlt4 (.inr g2) HE.out
                      go_wp2
                      go_roundw
                      case rel => exact ⟨k4 + 1, by omega, by go_num, hby, HST4.out, HV⟩
                      case measure => simp [intOf]; omega
                  · have g1' : (r == 0) = false := by simpa using g1
                    have HV : Hid (lostErr F 0 S = lostErr F (k4 + 1) (S.drop (k4 + 1))) := lost_step hlt4 (.inl (by rw [HS.out]; exact g1)) HE.out
                    clear hlk
                    go_wp2
                    go_roundw
                    case rel => exact ⟨k4 + 1, by omega, by go_num, hby, HST4.out, HV⟩
                    case measure => simp [intOf]; omega
                · have HV : Hid (Z = 0) := by
                    show _ = _
                    rw [HZ2.out, HE.out, lostErr_end F S k4 (by omega)]
                  go_wp2
                  go_ret
                  exact ⟨ret_int HV.out.symm, hbw⟩

theorem rcheck_any (M : Mm) (v : Value) (w : World) (lo : Nat) (A : Ans lo w v M) :
    Calls Try.prog 89 #[v] w fun e w' => e = .returned (.int .i64 (chk M)) ∧ Below w.heap.size w w' := by
  obtain ⟨aS, aH, aF, aL, cS, cH, cF, cL, rfl, A, -⟩ := A
  obtain ⟨S, H, F, L, now⟩ := M
  have m1 := A.s.max; have m2 := A.h.max; have m4 := A.l.max
  dsimp only at m1 m2 m4
  have n1 : S.length ≤ 9223372036854775807 := by omega
  have n2 : H.length ≤ 9223372036854775807 := by omega
  have n3 : L.length ≤ 9223372036854775807 := by omega
  by_cases h0 : 12 < S.length
  · have e : chk ⟨S, H, F, L, now⟩ = 2 := by unfold chk; dsimp only; rw [if_pos (.inl h0)]
    rw [e]; exact rc_many1 S H F L now aS aH aF aL cS cH cF cL w n1 n2 n3 h0
  by_cases h1 : H.length < 1
  · have e : chk ⟨S, H, F, L, now⟩ = 2 := by unfold chk; dsimp only; rw [if_pos (.inr (.inl h1))]
    rw [e]; exact rc_many2 S H F L now aS aH aF aL cS cH cF cL w n1 n2 n3 (by omega) h1
  by_cases h2 : 4 < H.length
  · have e : chk ⟨S, H, F, L, now⟩ = 2 := by unfold chk; dsimp only; rw [if_pos (.inr (.inr h2))]
    rw [e]; exact rc_many3 S H F L now aS aH aF aL cS cH cF cL w n1 n2 n3 (by omega) (by omega) h2
  by_cases h3 : L.length = H.length
  rotate_left
  · have e : chk ⟨S, H, F, L, now⟩ = 4 := by unfold chk; dsimp only; rw [if_neg (by omega), if_pos h3]
    rw [e]; exact rc_form S H F L now aS aH aF aL cS cH cF cL w n1 n2 n3 (by omega) (by omega) (by omega) h3
  by_cases h4 : now < 0
  · have e : chk ⟨S, H, F, L, now⟩ = 3 := by unfold chk; dsimp only; rw [if_neg (by omega), if_neg (by simpa using h3), if_pos (inB_f1 h4)]
    rw [e]; exact rc_now1 S H F L now aS aH aF aL cS cH cF cL w n1 n2 n3 (by omega) (by omega) (by omega) h3 h4
  by_cases h5 : 1000000 < now
  · have e : chk ⟨S, H, F, L, now⟩ = 3 := by unfold chk; dsimp only; rw [if_neg (by omega), if_neg (by simpa using h3), if_pos (inB_f2 h5)]
    rw [e]; exact rc_now2 S H F L now aS aH aF aL cS cH cF cL w n1 n2 n3 (by omega) (by omega) (by omega) h3 (by omega) h5
  exact rc_main S H F L now aS aH aF aL cS cH cF cL w A (by omega) (by omega) (by omega) h3 (by omega) (by omega)





end Go.Proofs.Ytdbilofhcadmoab.mm

/- The contract of fits. -/
namespace Go.Proofs.Ytdbilofhcadmoab.mm
open Go.ChangeShapes Go.WideShapes Go.ChangeAt Go.RowKit Go.Joins Go.Deep
set_option maxRecDepth 100000
set_option linter.unusedVariables false

def fitB (M : Mm) (f : Fr) : Bool := chk M == 0 && frE M.slots.length M.heads.length f == 0
theorem fitB_iff {M : Mm} {f : Fr} : fitB M f = true ↔ Ok M ∧ Fit M f := by
  unfold fitB
  rw [Bool.and_eq_true, beq_iff_eq, beq_iff_eq, chk_zero, fit_iff]

set_option maxHeartbeats 1600000 in
theorem fits_any (M : Mm) (f : Fr) (v : Value) (aK : Option Addr) (cK : Nat) (w : World) (A : Ans 0 w v M) (hk : f.keys.length ≤ 9223372036854775807) :
    Calls Try.prog 34 #[v, .agg #[.int .i64 f.c.kind, .int .i64 f.c.a, .int .i64 f.c.b, .int .i64 f.c.time, .int .i64 f.c.bk, .int .i64 f.c.slot, .int .i64 f.pl, .int .i64 f.cur, .int .i64 f.prev, .int .i64 f.slot, .int .i64 f.n, .slice aK f.keys.length cK, .bool f.done, .int .i64 f.e]] w fun e w' => e = .returned (.bool (fitB M f)) ∧ Below w.heap.size w w' := by
  have HC : Hid (∀ W : World, Below w.heap.size w W → Calls Try.prog 89 #[v] W fun e w' => e = .returned (.int .i64 (chk M)) ∧ Below W.heap.size W w') := fun W hb => rcheck_any M v W 0 (A.below hb)
  obtain ⟨aS, aH, aF, aL, cS, cH, cF, cL, rfl⟩ := A.form
  have m1 := A.at_.s.max; have m2 := A.at_.h.max
  have HF : Hid (∀ W : World, Calls Try.prog 27 #[.agg #[.slice aS M.slots.length cS, .slice aH M.heads.length cH, .slice aF M.free.length cF, .slice aL M.locks.length cL, .int .i64 M.now], .agg #[.int .i64 f.c.kind, .int .i64 f.c.a, .int .i64 f.c.b, .int .i64 f.c.time, .int .i64 f.c.bk, .int .i64 f.c.slot, .int .i64 f.pl, .int .i64 f.cur, .int .i64 f.prev, .int .i64 f.slot, .int .i64 f.n, .slice aK f.keys.length cK, .bool f.done, .int .i64 f.e]] W fun e w' => e = .returned (.int .i64 (frE M.slots.length M.heads.length f)) ∧ Below W.heap.size W w') := fun W => rfrCheck_any aS aH aF aL _ _ _ _ cS cH cF cL M.now f aK cK W (by omega) (by omega) hk
  unfold fitB
  obtain ⟨om, hom⟩ : ∃ o : Obj, o = .cells #[.slice aS M.slots.length cS, .slice aH M.heads.length cH, .slice aF M.free.length cF, .slice aL M.locks.length cL, .int .i64 M.now] 25 := ⟨_, rfl⟩
  obtain ⟨of, hof⟩ : ∃ o : Obj, o = .cells #[.int .i64 f.c.kind, .int .i64 f.c.a, .int .i64 f.c.b, .int .i64 f.c.time, .int .i64 f.c.bk, .int .i64 f.c.slot, .int .i64 f.pl, .int .i64 f.cur, .int .i64 f.prev, .int .i64 f.slot, .int .i64 f.n, .slice aK f.keys.length cK, .bool f.done, .int .i64 f.e] 51 := ⟨_, rfl⟩
  have HE0 : Hid (Env w ((w.alloc om).alloc of) [((w.alloc om).heap.size, of), (w.heap.size, om)] []) := ((⟨Below.refl _ _, (fun p hp => by cases hp), (fun p hp => by cases hp)⟩ : Env w w [] []).alloc om).alloc of
  rw [show (w.alloc om).heap.size = w.heap.size + 1 by simp] at HE0
  clear A m1 m2 hk
  generalize frE M.slots.length M.heads.length f = E2 at *
  generalize chk M = E1 at *
  have HBk : Hid (∀ W : World, Env w W [(w.heap.size + 1, of), (w.heap.size, om)] [] → W.heap[w.heap.size]? = some (.cells #[.slice aS M.slots.length cS, .slice aH M.heads.length cH, .slice aF M.free.length cF, .slice aL M.locks.length cL, .int .i64 M.now] 25 (0, 0)) ∧ W.heap[w.heap.size + 1]? = some (.cells #[.int .i64 f.c.kind, .int .i64 f.c.a, .int .i64 f.c.b, .int .i64 f.c.time, .int .i64 f.c.bk, .int .i64 f.c.slot, .int .i64 f.pl, .int .i64 f.cur, .int .i64 f.prev, .int .i64 f.slot, .int .i64 f.n, .slice aK f.keys.length cK, .bool f.done, .int .i64 f.e] 51 (0, 0))) := fun W E => ⟨hom ▸ E.box _ (.tail _ (.head _)), hof ▸ E.box _ (.head _)⟩
  have HC0 : Hid (Calls Try.prog 89 #[.agg #[.slice aS M.slots.length cS, .slice aH M.heads.length cH, .slice aF M.free.length cF, .slice aL M.locks.length cL, .int .i64 M.now]] ((w.alloc om).alloc of) fun e w' => e = .returned (.int .i64 E1) ∧ Below ((w.alloc om).alloc of).heap.size ((w.alloc om).alloc of) w') := HC.out _ HE0.out.bl
  obtain ⟨q0, q1, q2, q3, q4, -, -, -, -, -, qs⟩ := boxf (HBk.out _ HE0.out).1
  obtain ⟨f0, f1, f2, f3, f4, f5, f6, f7, f8, f9, f10, f11, f12, f13, -, fs⟩ := framef (HBk.out _ HE0.out).2
  clear HC
  by_cases h1 : E1 = 0
  · subst h1
    have hres : ((0 : Int) == 0 && E2 == 0) = (E2 == 0) := by simp
    rw [hres]
    clear hres
    go_enter Try.func34, Try.ntmps34
    go_wp2_with fail
    rw [← hom, ← hof]
    generalize (w.alloc om).alloc of = W0 at *
    clear hom hof q0 q1 q2 q3 q4 qs f0 f1 f2 f3 f4 f5 f6 f7 f8 f9 f10 f11 f12 f13 fs
    refine HC0.out.mono ?_
    rintro e w1 ⟨rfl, hb1⟩
    have HE1 : Hid _ := HE0.out.below hb1
    clear HE0 hb1 HC0
    obtain ⟨q0, q1, q2, q3, q4, -, -, -, -, -, qs⟩ := boxf (HBk.out _ HE1.out).1
    obtain ⟨f0, f1, f2, f3, f4, f5, f6, f7, f8, f9, f10, f11, f12, f13, -, fs⟩ := framef (HBk.out _ HE1.out).2
    go_wp2_with fail
    clear q0 q1 q2 q3 q4 qs f0 f1 f2 f3 f4 f5 f6 f7 f8 f9 f10 f11 f12 f13 fs
    refine (HF.out w1).mono ?_
    rintro e w2 ⟨rfl, hb2⟩
    have HE2 : Hid _ := HE1.out.below hb2
    go_wp2
    go_ret
    exact ⟨rfl, HE2.out.bl⟩
  · have h1' : (E1 == 0) = false := by simpa using h1
    have hres : (E1 == 0 && E2 == 0) = false := by rw [h1']; rfl
    rw [hres]
    clear hres
    go_enter Try.func34, Try.ntmps34
    go_wp2_with fail
    rw [← hom, ← hof]
    generalize (w.alloc om).alloc of = W0 at *
    clear hom hof q0 q1 q2 q3 q4 qs f0 f1 f2 f3 f4 f5 f6 f7 f8 f9 f10 f11 f12 f13 fs
    refine HC0.out.mono ?_
    rintro e w1 ⟨rfl, hb1⟩
    have HE1 : Hid _ := HE0.out.below hb1
    clear HE0 hb1 HC0
    go_wp2
    go_ret
    exact ⟨rfl, HE1.out.bl⟩



end Go.Proofs.Ytdbilofhcadmoab.mm

/- The contract of the document's own OwnMem: a copy in memory of its own, whatever order its literal is reckoned in. -/
namespace Go.Proofs.Ytdbilofhcadmoab.mm
open Go.ChangeShapes Go.WideShapes Go.ChangeAt Go.RowKit Go.Joins Go.Maps
set_option maxRecDepth 100000
set_option linter.unusedVariables false

def upd (L : Nat → Bool) (i : Nat) : Nat → Bool := fun k => if k = i then true else L k
def updv (x : Nat → Value) (d : Nat) (v : Value) : Nat → Value := fun k => if k = d then v else x k

theorem dj_of {a b c d : Value} {p q : Bool} (h : Dj (if p then a else b) (if q then c else d)) (hp : p = false) (hq : q = false) : Dj b d := by
  subst hp hq; exact h
theorem dj_oftf {a b c d : Value} {p q : Bool} (h : Dj (if p then a else b) (if q then c else d)) (hp : p = true) (hq : q = false) : Dj a d := by
  subst hp hq; exact h
theorem dj_offt {a b c d : Value} {p q : Bool} (h : Dj (if p then a else b) (if q then c else d)) (hp : p = false) (hq : q = true) : Dj b c := by
  subst hp hq; exact h

/- What holds when these operations have come up. -/
structure Fx (w0 : World) (M : Mm) (aS aH aF aL : Option Addr) (cS cH cF cL : Nat) (L : Nat → Bool) (x : Nat → Value) (W : World) : Prop where
  box : W.heap[w0.heap.size]? = some (.cells #[.slice aS M.slots.length cS, .slice aH M.heads.length cH, .slice aF M.free.length cF, .slice aL M.locks.length cL, .int .i64 M.now] 25 (0, 0))
  zb : L 19 = false → W.heap[w0.heap.size + 1]? = some (.cells #[.slice none 0 0, .slice none 0 0, .slice none 0 0, .slice none 0 0, .int .i64 0] 25 (0, 0))
  fb : L 19 = true → W.heap[w0.heap.size + 1]? = some (.cells #[x 6, x 10, x 14, x 18, .int .i64 M.now] 25 (0, 0))
  below : Below w0.heap.size w0 W
  p1 : L 1 = true → x 4 = .pointer (some ⟨w0.heap.size, 0, none⟩)
  p2 : L 2 = true → x 5 = .slice aS M.slots.length cS
  p5 : L 5 = true → x 8 = .pointer (some ⟨w0.heap.size, 1, none⟩)
  p6 : L 6 = true → x 9 = .slice aH M.heads.length cH
  p9 : L 9 = true → x 12 = .pointer (some ⟨w0.heap.size, 2, none⟩)
  p10 : L 10 = true → x 13 = .slice aF M.free.length cF
  p13 : L 13 = true → x 16 = .pointer (some ⟨w0.heap.size, 3, none⟩)
  p14 : L 14 = true → x 17 = .slice aL M.locks.length cL
  p16 : L 16 = true → x 19 = .pointer (some ⟨w0.heap.size, 4, none⟩)
  p17 : L 17 = true → x 20 = .int .i64 M.now
  b18 : L 18 = true → x 21 = .agg #[x 6, x 10, x 14, x 18, .int .i64 M.now]
  r0 : L 0 = true → L 3 = false → W.ownsRow (w0.heap.size + 2) 39 6 (x 3) 0 []
  r3 : L 3 = true → W.ownsRow (w0.heap.size + 2) 39 6 (x 6) M.slots.length (encS M.slots)
  r4 : L 4 = true → L 7 = false → W.ownsRow (w0.heap.size + 2) 3 1 (x 7) 0 []
  r7 : L 7 = true → W.ownsRow (w0.heap.size + 2) 3 1 (x 10) M.heads.length (encI M.heads)
  r8 : L 8 = true → L 11 = false → W.ownsRow (w0.heap.size + 2) 3 1 (x 11) 0 []
  r11 : L 11 = true → W.ownsRow (w0.heap.size + 2) 3 1 (x 14) M.free.length (encI M.free)
  r12 : L 12 = true → L 15 = false → W.ownsRow (w0.heap.size + 2) 3 1 (x 15) 0 []
  r15 : L 15 = true → W.ownsRow (w0.heap.size + 2) 3 1 (x 18) M.locks.length (encI M.locks)
  d12 : L 4 = true → L 8 = true → Dj (if L 7 then x 10 else x 7) (if L 11 then x 14 else x 11)
  d13 : L 4 = true → L 12 = true → Dj (if L 7 then x 10 else x 7) (if L 15 then x 18 else x 15)
  d23 : L 8 = true → L 12 = true → Dj (if L 11 then x 14 else x 11) (if L 15 then x 18 else x 15)
  e3 : L 3 = true → L 0 = true
  e7 : L 7 = true → L 4 = true
  e11 : L 11 = true → L 8 = true
  e15 : L 15 = true → L 12 = true
  e18 : L 18 = true → L 3 = true ∧ L 7 = true ∧ L 11 = true ∧ L 15 = true
  e19 : L 19 = true → L 18 = true

theorem Fx.a1 {w0 : World} {M : Mm} {aS aH aF aL : Option Addr} {cS cH cF cL : Nat} {L : Nat → Bool} {x : Nat → Value} {W : World} (F : Fx w0 M aS aH aF aL cS cH cF cL L x W) : Fx w0 M aS aH aF aL cS cH cF cL (upd L 1) (updv x 4 (.pointer (some ⟨w0.heap.size, 0, none⟩))) W :=
  ⟨F.box, F.zb, F.fb, F.below, (fun _ => rfl), F.p2, F.p5, F.p6, F.p9, F.p10, F.p13, F.p14, F.p16, F.p17, F.b18, F.r0, F.r3, F.r4, F.r7, F.r8, F.r11, F.r12, F.r15, F.d12, F.d13, F.d23, F.e3, F.e7, F.e11, F.e15, F.e18, F.e19⟩
theorem Fx.a2 {w0 : World} {M : Mm} {aS aH aF aL : Option Addr} {cS cH cF cL : Nat} {L : Nat → Bool} {x : Nat → Value} {W : World} (F : Fx w0 M aS aH aF aL cS cH cF cL L x W) : Fx w0 M aS aH aF aL cS cH cF cL (upd L 2) (updv x 5 (.slice aS M.slots.length cS)) W :=
  ⟨F.box, F.zb, F.fb, F.below, F.p1, (fun _ => rfl), F.p5, F.p6, F.p9, F.p10, F.p13, F.p14, F.p16, F.p17, F.b18, F.r0, F.r3, F.r4, F.r7, F.r8, F.r11, F.r12, F.r15, F.d12, F.d13, F.d23, F.e3, F.e7, F.e11, F.e15, F.e18, F.e19⟩
theorem Fx.a5 {w0 : World} {M : Mm} {aS aH aF aL : Option Addr} {cS cH cF cL : Nat} {L : Nat → Bool} {x : Nat → Value} {W : World} (F : Fx w0 M aS aH aF aL cS cH cF cL L x W) : Fx w0 M aS aH aF aL cS cH cF cL (upd L 5) (updv x 8 (.pointer (some ⟨w0.heap.size, 1, none⟩))) W :=
  ⟨F.box, F.zb, F.fb, F.below, F.p1, F.p2, (fun _ => rfl), F.p6, F.p9, F.p10, F.p13, F.p14, F.p16, F.p17, F.b18, F.r0, F.r3, F.r4, F.r7, F.r8, F.r11, F.r12, F.r15, F.d12, F.d13, F.d23, F.e3, F.e7, F.e11, F.e15, F.e18, F.e19⟩
theorem Fx.a6 {w0 : World} {M : Mm} {aS aH aF aL : Option Addr} {cS cH cF cL : Nat} {L : Nat → Bool} {x : Nat → Value} {W : World} (F : Fx w0 M aS aH aF aL cS cH cF cL L x W) : Fx w0 M aS aH aF aL cS cH cF cL (upd L 6) (updv x 9 (.slice aH M.heads.length cH)) W :=
  ⟨F.box, F.zb, F.fb, F.below, F.p1, F.p2, F.p5, (fun _ => rfl), F.p9, F.p10, F.p13, F.p14, F.p16, F.p17, F.b18, F.r0, F.r3, F.r4, F.r7, F.r8, F.r11, F.r12, F.r15, F.d12, F.d13, F.d23, F.e3, F.e7, F.e11, F.e15, F.e18, F.e19⟩
theorem Fx.a9 {w0 : World} {M : Mm} {aS aH aF aL : Option Addr} {cS cH cF cL : Nat} {L : Nat → Bool} {x : Nat → Value} {W : World} (F : Fx w0 M aS aH aF aL cS cH cF cL L x W) : Fx w0 M aS aH aF aL cS cH cF cL (upd L 9) (updv x 12 (.pointer (some ⟨w0.heap.size, 2, none⟩))) W :=
  ⟨F.box, F.zb, F.fb, F.below, F.p1, F.p2, F.p5, F.p6, (fun _ => rfl), F.p10, F.p13, F.p14, F.p16, F.p17, F.b18, F.r0, F.r3, F.r4, F.r7, F.r8, F.r11, F.r12, F.r15, F.d12, F.d13, F.d23, F.e3, F.e7, F.e11, F.e15, F.e18, F.e19⟩
theorem Fx.a10 {w0 : World} {M : Mm} {aS aH aF aL : Option Addr} {cS cH cF cL : Nat} {L : Nat → Bool} {x : Nat → Value} {W : World} (F : Fx w0 M aS aH aF aL cS cH cF cL L x W) : Fx w0 M aS aH aF aL cS cH cF cL (upd L 10) (updv x 13 (.slice aF M.free.length cF)) W :=
  ⟨F.box, F.zb, F.fb, F.below, F.p1, F.p2, F.p5, F.p6, F.p9, (fun _ => rfl), F.p13, F.p14, F.p16, F.p17, F.b18, F.r0, F.r3, F.r4, F.r7, F.r8, F.r11, F.r12, F.r15, F.d12, F.d13, F.d23, F.e3, F.e7, F.e11, F.e15, F.e18, F.e19⟩
theorem Fx.a13 {w0 : World} {M : Mm} {aS aH aF aL : Option Addr} {cS cH cF cL : Nat} {L : Nat → Bool} {x : Nat → Value} {W : World} (F : Fx w0 M aS aH aF aL cS cH cF cL L x W) : Fx w0 M aS aH aF aL cS cH cF cL (upd L 13) (updv x 16 (.pointer (some ⟨w0.heap.size, 3, none⟩))) W :=
  ⟨F.box, F.zb, F.fb, F.below, F.p1, F.p2, F.p5, F.p6, F.p9, F.p10, (fun _ => rfl), F.p14, F.p16, F.p17, F.b18, F.r0, F.r3, F.r4, F.r7, F.r8, F.r11, F.r12, F.r15, F.d12, F.d13, F.d23, F.e3, F.e7, F.e11, F.e15, F.e18, F.e19⟩
theorem Fx.a14 {w0 : World} {M : Mm} {aS aH aF aL : Option Addr} {cS cH cF cL : Nat} {L : Nat → Bool} {x : Nat → Value} {W : World} (F : Fx w0 M aS aH aF aL cS cH cF cL L x W) : Fx w0 M aS aH aF aL cS cH cF cL (upd L 14) (updv x 17 (.slice aL M.locks.length cL)) W :=
  ⟨F.box, F.zb, F.fb, F.below, F.p1, F.p2, F.p5, F.p6, F.p9, F.p10, F.p13, (fun _ => rfl), F.p16, F.p17, F.b18, F.r0, F.r3, F.r4, F.r7, F.r8, F.r11, F.r12, F.r15, F.d12, F.d13, F.d23, F.e3, F.e7, F.e11, F.e15, F.e18, F.e19⟩
theorem Fx.a16 {w0 : World} {M : Mm} {aS aH aF aL : Option Addr} {cS cH cF cL : Nat} {L : Nat → Bool} {x : Nat → Value} {W : World} (F : Fx w0 M aS aH aF aL cS cH cF cL L x W) : Fx w0 M aS aH aF aL cS cH cF cL (upd L 16) (updv x 19 (.pointer (some ⟨w0.heap.size, 4, none⟩))) W :=
  ⟨F.box, F.zb, F.fb, F.below, F.p1, F.p2, F.p5, F.p6, F.p9, F.p10, F.p13, F.p14, (fun _ => rfl), F.p17, F.b18, F.r0, F.r3, F.r4, F.r7, F.r8, F.r11, F.r12, F.r15, F.d12, F.d13, F.d23, F.e3, F.e7, F.e11, F.e15, F.e18, F.e19⟩
theorem Fx.a17 {w0 : World} {M : Mm} {aS aH aF aL : Option Addr} {cS cH cF cL : Nat} {L : Nat → Bool} {x : Nat → Value} {W : World} (F : Fx w0 M aS aH aF aL cS cH cF cL L x W) : Fx w0 M aS aH aF aL cS cH cF cL (upd L 17) (updv x 20 (.int .i64 M.now)) W :=
  ⟨F.box, F.zb, F.fb, F.below, F.p1, F.p2, F.p5, F.p6, F.p9, F.p10, F.p13, F.p14, F.p16, (fun _ => rfl), F.b18, F.r0, F.r3, F.r4, F.r7, F.r8, F.r11, F.r12, F.r15, F.d12, F.d13, F.d23, F.e3, F.e7, F.e11, F.e15, F.e18, F.e19⟩

theorem Fx.lt {w0 : World} {M : Mm} {aS aH aF aL : Option Addr} {cS cH cF cL : Nat} {L : Nat → Bool} {x : Nat → Value} {W : World} (F : Fx w0 M aS aH aF aL cS cH cF cL L x W) : w0.heap.size + 1 < W.heap.size := by
  cases h : L 19
  · exact lt_of_block (F.zb h)
  · exact lt_of_block (F.fb h)
theorem own_lit (W : World) (e : TypeId) (size lo : Nat) (h : lo ≤ W.heap.size) : (W.alloc (.cells #[] e)).ownsRow lo e size (.slice (some ⟨W.heap.size, 0, none⟩) 0 0) 0 [] :=
  ⟨by simp, .inr ⟨W.heap.size, 0, #[], rfl, h, heap_alloc_new _ _, Nat.le_refl _, Nat.zero_le _, by simp, by simp⟩⟩
theorem Dj.fresh {W : World} {v : Value} (hv : ∀ g, v.ownBlock = some g → g < W.heap.size) : Dj v (.slice (some ⟨W.heap.size, 0, none⟩) 0 0) := fun g h e => by
  have h1 := hv g h
  have e' : some W.heap.size = some g := e
  injection e' with e'
  omega
theorem Fx.lt1 {w0 : World} {M : Mm} {aS aH aF aL : Option Addr} {cS cH cF cL : Nat} {L : Nat → Bool} {x : Nat → Value} {W : World} (F : Fx w0 M aS aH aF aL cS cH cF cL L x W) (h : L 4 = true) : ∀ g, (if L 7 then x 10 else x 7).ownBlock = some g → g < W.heap.size := by
  cases h3 : L 7
  · exact fun g hg => ((F.r4 h h3).lt g hg).2
  · exact fun g hg => ((F.r7 h3).lt g hg).2
theorem Fx.lt2 {w0 : World} {M : Mm} {aS aH aF aL : Option Addr} {cS cH cF cL : Nat} {L : Nat → Bool} {x : Nat → Value} {W : World} (F : Fx w0 M aS aH aF aL cS cH cF cL L x W) (h : L 8 = true) : ∀ g, (if L 11 then x 14 else x 11).ownBlock = some g → g < W.heap.size := by
  cases h3 : L 11
  · exact fun g hg => ((F.r8 h h3).lt g hg).2
  · exact fun g hg => ((F.r11 h3).lt g hg).2
theorem Fx.lt3 {w0 : World} {M : Mm} {aS aH aF aL : Option Addr} {cS cH cF cL : Nat} {L : Nat → Bool} {x : Nat → Value} {W : World} (F : Fx w0 M aS aH aF aL cS cH cF cL L x W) (h : L 12 = true) : ∀ g, (if L 15 then x 18 else x 15).ownBlock = some g → g < W.heap.size := by
  cases h3 : L 15
  · exact fun g hg => ((F.r12 h h3).lt g hg).2
  · exact fun g hg => ((F.r15 h3).lt g hg).2
theorem Fx.a18 {w0 : World} {M : Mm} {aS aH aF aL : Option Addr} {cS cH cF cL : Nat} {L : Nat → Bool} {x : Nat → Value} {W : World} (F : Fx w0 M aS aH aF aL cS cH cF cL L x W) (h3 : L 3 = true) (h7 : L 7 = true) (h11 : L 11 = true) (h15 : L 15 = true) : Fx w0 M aS aH aF aL cS cH cF cL (upd L 18) (updv x 21 (.agg #[x 6, x 10, x 14, x 18, .int .i64 M.now])) W :=
  ⟨F.box, F.zb, F.fb, F.below, F.p1, F.p2, F.p5, F.p6, F.p9, F.p10, F.p13, F.p14, F.p16, F.p17, (fun _ => rfl), F.r0, F.r3, F.r4, F.r7, F.r8, F.r11, F.r12, F.r15, F.d12, F.d13, F.d23, F.e3, F.e7, F.e11, F.e15, (fun _ => ⟨h3, h7, h11, h15⟩), (fun _ => rfl)⟩
theorem Fx.b0 {w0 : World} {M : Mm} {aS aH aF aL : Option Addr} {cS cH cF cL : Nat} {L : Nat → Bool} {x : Nat → Value} {W : World} (F : Fx w0 M aS aH aF aL cS cH cF cL L x W) (hn : L 0 = false) : Fx w0 M aS aH aF aL cS cH cF cL (upd L 0) (updv x 3 (.slice (some ⟨W.heap.size, 0, none⟩) 0 0)) (W.alloc (.cells #[] 39)) := by
  have hf : L 3 = false := by
    cases h : L 3
    · rfl
    · rw [F.e3 h] at hn; cases hn
  exact ⟨((Below.heap_alloc _ _ _ (lt_of_block F.box)).trans F.box), (fun h => (Below.heap_alloc _ _ _ (lt_of_block (F.zb h))).trans (F.zb h)), (fun h => (Below.heap_alloc _ _ _ (lt_of_block (F.fb h))).trans (F.fb h)), (F.below.alloc F.below.size _), F.p1, F.p2, F.p5, F.p6, F.p9, F.p10, F.p13, F.p14, F.p16, F.p17, F.b18, (fun _ _ => own_lit W 39 6 _ F.lt), (fun h => World.ownsRow.alloc (F.r3 h) _), (fun h h3 => World.ownsRow.alloc (F.r4 h h3) _), (fun h => World.ownsRow.alloc (F.r7 h) _), (fun h h3 => World.ownsRow.alloc (F.r8 h h3) _), (fun h => World.ownsRow.alloc (F.r11 h) _), (fun h h3 => World.ownsRow.alloc (F.r12 h h3) _), (fun h => World.ownsRow.alloc (F.r15 h) _), F.d12, F.d13, F.d23, (fun _ => rfl), F.e7, F.e11, F.e15, F.e18, F.e19⟩
theorem Fx.b4 {w0 : World} {M : Mm} {aS aH aF aL : Option Addr} {cS cH cF cL : Nat} {L : Nat → Bool} {x : Nat → Value} {W : World} (F : Fx w0 M aS aH aF aL cS cH cF cL L x W) (hn : L 4 = false) : Fx w0 M aS aH aF aL cS cH cF cL (upd L 4) (updv x 7 (.slice (some ⟨W.heap.size, 0, none⟩) 0 0)) (W.alloc (.cells #[] 3)) := by
  have hf : L 7 = false := by
    cases h : L 7
    · rfl
    · rw [F.e7 h] at hn; cases hn
  exact ⟨((Below.heap_alloc _ _ _ (lt_of_block F.box)).trans F.box), (fun h => (Below.heap_alloc _ _ _ (lt_of_block (F.zb h))).trans (F.zb h)), (fun h => (Below.heap_alloc _ _ _ (lt_of_block (F.fb h))).trans (F.fb h)), (F.below.alloc F.below.size _), F.p1, F.p2, F.p5, F.p6, F.p9, F.p10, F.p13, F.p14, F.p16, F.p17, F.b18, (fun h h3 => World.ownsRow.alloc (F.r0 h h3) _), (fun h => World.ownsRow.alloc (F.r3 h) _), (fun _ _ => own_lit W 3 1 _ F.lt), (fun h => World.ownsRow.alloc (F.r7 h) _), (fun h h3 => World.ownsRow.alloc (F.r8 h h3) _), (fun h => World.ownsRow.alloc (F.r11 h) _), (fun h h3 => World.ownsRow.alloc (F.r12 h h3) _), (fun h => World.ownsRow.alloc (F.r15 h) _), (fun _ hb => (by have := (Dj.fresh (F.lt2 hb)).symm; show Dj (if L 7 then _ else _) _; rw [hf]; exact this)), (fun _ hb => (by have := (Dj.fresh (F.lt3 hb)).symm; show Dj (if L 7 then _ else _) _; rw [hf]; exact this)), F.d23, F.e3, (fun _ => rfl), F.e11, F.e15, F.e18, F.e19⟩
theorem Fx.b8 {w0 : World} {M : Mm} {aS aH aF aL : Option Addr} {cS cH cF cL : Nat} {L : Nat → Bool} {x : Nat → Value} {W : World} (F : Fx w0 M aS aH aF aL cS cH cF cL L x W) (hn : L 8 = false) : Fx w0 M aS aH aF aL cS cH cF cL (upd L 8) (updv x 11 (.slice (some ⟨W.heap.size, 0, none⟩) 0 0)) (W.alloc (.cells #[] 3)) := by
  have hf : L 11 = false := by
    cases h : L 11
    · rfl
    · rw [F.e11 h] at hn; cases hn
  exact ⟨((Below.heap_alloc _ _ _ (lt_of_block F.box)).trans F.box), (fun h => (Below.heap_alloc _ _ _ (lt_of_block (F.zb h))).trans (F.zb h)), (fun h => (Below.heap_alloc _ _ _ (lt_of_block (F.fb h))).trans (F.fb h)), (F.below.alloc F.below.size _), F.p1, F.p2, F.p5, F.p6, F.p9, F.p10, F.p13, F.p14, F.p16, F.p17, F.b18, (fun h h3 => World.ownsRow.alloc (F.r0 h h3) _), (fun h => World.ownsRow.alloc (F.r3 h) _), (fun h h3 => World.ownsRow.alloc (F.r4 h h3) _), (fun h => World.ownsRow.alloc (F.r7 h) _), (fun _ _ => own_lit W 3 1 _ F.lt), (fun h => World.ownsRow.alloc (F.r11 h) _), (fun h h3 => World.ownsRow.alloc (F.r12 h h3) _), (fun h => World.ownsRow.alloc (F.r15 h) _), (fun ha _ => (by have := Dj.fresh (F.lt1 ha); show Dj _ (if L 11 then _ else _); rw [hf]; exact this)), F.d13, (fun _ hb => (by have := (Dj.fresh (F.lt3 hb)).symm; show Dj (if L 11 then _ else _) _; rw [hf]; exact this)), F.e3, F.e7, (fun _ => rfl), F.e15, F.e18, F.e19⟩
theorem Fx.b12 {w0 : World} {M : Mm} {aS aH aF aL : Option Addr} {cS cH cF cL : Nat} {L : Nat → Bool} {x : Nat → Value} {W : World} (F : Fx w0 M aS aH aF aL cS cH cF cL L x W) (hn : L 12 = false) : Fx w0 M aS aH aF aL cS cH cF cL (upd L 12) (updv x 15 (.slice (some ⟨W.heap.size, 0, none⟩) 0 0)) (W.alloc (.cells #[] 3)) := by
  have hf : L 15 = false := by
    cases h : L 15
    · rfl
    · rw [F.e15 h] at hn; cases hn
  exact ⟨((Below.heap_alloc _ _ _ (lt_of_block F.box)).trans F.box), (fun h => (Below.heap_alloc _ _ _ (lt_of_block (F.zb h))).trans (F.zb h)), (fun h => (Below.heap_alloc _ _ _ (lt_of_block (F.fb h))).trans (F.fb h)), (F.below.alloc F.below.size _), F.p1, F.p2, F.p5, F.p6, F.p9, F.p10, F.p13, F.p14, F.p16, F.p17, F.b18, (fun h h3 => World.ownsRow.alloc (F.r0 h h3) _), (fun h => World.ownsRow.alloc (F.r3 h) _), (fun h h3 => World.ownsRow.alloc (F.r4 h h3) _), (fun h => World.ownsRow.alloc (F.r7 h) _), (fun h h3 => World.ownsRow.alloc (F.r8 h h3) _), (fun h => World.ownsRow.alloc (F.r11 h) _), (fun _ _ => own_lit W 3 1 _ F.lt), (fun h => World.ownsRow.alloc (F.r15 h) _), F.d12, (fun ha _ => (by have := Dj.fresh (F.lt1 ha); show Dj _ (if L 15 then _ else _); rw [hf]; exact this)), (fun ha _ => (by have := Dj.fresh (F.lt2 ha); show Dj _ (if L 15 then _ else _); rw [hf]; exact this)), F.e3, F.e7, F.e11, (fun _ => rfl), F.e18, F.e19⟩
theorem Fx.c3 {w0 : World} {M : Mm} {aS aH aF aL : Option Addr} {cS cH cF cL : Nat} {L : Nat → Bool} {x : Nat → Value} {W : World} (F : Fx w0 M aS aH aF aL cS cH cF cL L x W) (hl : L 0 = true) (hf : L 3 = false) {v : Value} {W' : World} (ho2 : W'.ownsRow (w0.heap.size + 2) 39 6 v M.slots.length (encS M.slots)) (hg : W.grownBy W' (x 3).ownBlock) (hloc : v.ownBlock = (x 3).ownBlock ∨ v.ownBlock = some W.heap.size) : Fx w0 M aS aH aF aL cS cH cF cL (upd L 3) (updv x 6 v) W' := by
  have ho := F.r0 hl hf
  have h18 : L 18 = true → false = true := fun h => by
    obtain ⟨h3, h7, h11, h15⟩ := F.e18 h
    rw [← hf]; assumption
  exact ⟨((hg.block _ (lt_of_block F.box) (fun h => own_ne ho F.box (by decide) h.symm)).trans F.box), (fun h => (hg.block _ (lt_of_block (F.zb h)) (fun h1 => own_ne ho (F.zb h) (by decide) h1.symm)).trans (F.zb h)), (fun h => absurd (h18 (F.e19 h)) (by simp)), (F.below.grown hg F.below.size (fun k hk => by have := (ho.lt k hk).1; omega)), F.p1, F.p2, F.p5, F.p6, F.p9, F.p10, F.p13, F.p14, F.p16, F.p17, (fun h => absurd (h18 h) (by simp)), (fun _ h => by cases h), (fun _ => ho2), (fun h h3 => World.ownsRow.kept (F.r4 h h3) hg (own_dj (F.r4 h h3) ho (by decide)).ne), (fun h => World.ownsRow.kept (F.r7 h) hg (own_dj (F.r7 h) ho (by decide)).ne), (fun h h3 => World.ownsRow.kept (F.r8 h h3) hg (own_dj (F.r8 h h3) ho (by decide)).ne), (fun h => World.ownsRow.kept (F.r11 h) hg (own_dj (F.r11 h) ho (by decide)).ne), (fun h h3 => World.ownsRow.kept (F.r12 h h3) hg (own_dj (F.r12 h h3) ho (by decide)).ne), (fun h => World.ownsRow.kept (F.r15 h) hg (own_dj (F.r15 h) ho (by decide)).ne), F.d12, F.d13, F.d23, (fun _ => hl), F.e7, F.e11, F.e15, (fun h => absurd (h18 h) (by simp)), F.e19⟩
theorem Fx.c7 {w0 : World} {M : Mm} {aS aH aF aL : Option Addr} {cS cH cF cL : Nat} {L : Nat → Bool} {x : Nat → Value} {W : World} (F : Fx w0 M aS aH aF aL cS cH cF cL L x W) (hl : L 4 = true) (hf : L 7 = false) {v : Value} {W' : World} (ho2 : W'.ownsRow (w0.heap.size + 2) 3 1 v M.heads.length (encI M.heads)) (hg : W.grownBy W' (x 7).ownBlock) (hloc : v.ownBlock = (x 7).ownBlock ∨ v.ownBlock = some W.heap.size) : Fx w0 M aS aH aF aL cS cH cF cL (upd L 7) (updv x 10 v) W' := by
  have ho := F.r4 hl hf
  have h18 : L 18 = true → false = true := fun h => by
    obtain ⟨h3, h7, h11, h15⟩ := F.e18 h
    rw [← hf]; assumption
  exact ⟨((hg.block _ (lt_of_block F.box) (fun h => own_ne ho F.box (by decide) h.symm)).trans F.box), (fun h => (hg.block _ (lt_of_block (F.zb h)) (fun h1 => own_ne ho (F.zb h) (by decide) h1.symm)).trans (F.zb h)), (fun h => absurd (h18 (F.e19 h)) (by simp)), (F.below.grown hg F.below.size (fun k hk => by have := (ho.lt k hk).1; omega)), F.p1, F.p2, F.p5, F.p6, F.p9, F.p10, F.p13, F.p14, F.p16, F.p17, (fun h => absurd (h18 h) (by simp)), (fun h h3 => World.ownsRow.kept (F.r0 h h3) hg (own_dj (F.r0 h h3) ho (by decide)).ne), (fun h => World.ownsRow.kept (F.r3 h) hg (own_dj (F.r3 h) ho (by decide)).ne), (fun _ h => by cases h), (fun _ => ho2), (fun h h3 => World.ownsRow.kept (F.r8 h h3) hg (dj_of (F.d12 hl h) hf h3).symm.ne), (fun h => World.ownsRow.kept (F.r11 h) hg (dj_offt (F.d12 hl (F.e11 h)) hf h).symm.ne), (fun h h3 => World.ownsRow.kept (F.r12 h h3) hg (dj_of (F.d13 hl h) hf h3).symm.ne), (fun h => World.ownsRow.kept (F.r15 h) hg (dj_offt (F.d13 hl (F.e15 h)) hf h).symm.ne), (fun _ hb => (by have hd := (F.d12 hl hb).symm; rw [hf] at hd; exact (Dj.grown hd (F.lt2 hb) hloc).symm)), (fun _ hb => (by have hd := (F.d13 hl hb).symm; rw [hf] at hd; exact (Dj.grown hd (F.lt3 hb) hloc).symm)), F.d23, F.e3, (fun _ => hl), F.e11, F.e15, (fun h => absurd (h18 h) (by simp)), F.e19⟩
theorem Fx.c11 {w0 : World} {M : Mm} {aS aH aF aL : Option Addr} {cS cH cF cL : Nat} {L : Nat → Bool} {x : Nat → Value} {W : World} (F : Fx w0 M aS aH aF aL cS cH cF cL L x W) (hl : L 8 = true) (hf : L 11 = false) {v : Value} {W' : World} (ho2 : W'.ownsRow (w0.heap.size + 2) 3 1 v M.free.length (encI M.free)) (hg : W.grownBy W' (x 11).ownBlock) (hloc : v.ownBlock = (x 11).ownBlock ∨ v.ownBlock = some W.heap.size) : Fx w0 M aS aH aF aL cS cH cF cL (upd L 11) (updv x 14 v) W' := by
  have ho := F.r8 hl hf
  have h18 : L 18 = true → false = true := fun h => by
    obtain ⟨h3, h7, h11, h15⟩ := F.e18 h
    rw [← hf]; assumption
  exact ⟨((hg.block _ (lt_of_block F.box) (fun h => own_ne ho F.box (by decide) h.symm)).trans F.box), (fun h => (hg.block _ (lt_of_block (F.zb h)) (fun h1 => own_ne ho (F.zb h) (by decide) h1.symm)).trans (F.zb h)), (fun h => absurd (h18 (F.e19 h)) (by simp)), (F.below.grown hg F.below.size (fun k hk => by have := (ho.lt k hk).1; omega)), F.p1, F.p2, F.p5, F.p6, F.p9, F.p10, F.p13, F.p14, F.p16, F.p17, (fun h => absurd (h18 h) (by simp)), (fun h h3 => World.ownsRow.kept (F.r0 h h3) hg (own_dj (F.r0 h h3) ho (by decide)).ne), (fun h => World.ownsRow.kept (F.r3 h) hg (own_dj (F.r3 h) ho (by decide)).ne), (fun h h3 => World.ownsRow.kept (F.r4 h h3) hg (dj_of (F.d12 h hl) h3 hf).ne), (fun h => World.ownsRow.kept (F.r7 h) hg (dj_oftf (F.d12 (F.e7 h) hl) h hf).ne), (fun _ h => by cases h), (fun _ => ho2), (fun h h3 => World.ownsRow.kept (F.r12 h h3) hg (dj_of (F.d23 hl h) hf h3).symm.ne), (fun h => World.ownsRow.kept (F.r15 h) hg (dj_offt (F.d23 hl (F.e15 h)) hf h).symm.ne), (fun ha _ => (by have hd := F.d12 ha hl; rw [hf] at hd; exact Dj.grown hd (F.lt1 ha) hloc)), F.d13, (fun _ hb => (by have hd := (F.d23 hl hb).symm; rw [hf] at hd; exact (Dj.grown hd (F.lt3 hb) hloc).symm)), F.e3, F.e7, (fun _ => hl), F.e15, (fun h => absurd (h18 h) (by simp)), F.e19⟩
theorem Fx.c15 {w0 : World} {M : Mm} {aS aH aF aL : Option Addr} {cS cH cF cL : Nat} {L : Nat → Bool} {x : Nat → Value} {W : World} (F : Fx w0 M aS aH aF aL cS cH cF cL L x W) (hl : L 12 = true) (hf : L 15 = false) {v : Value} {W' : World} (ho2 : W'.ownsRow (w0.heap.size + 2) 3 1 v M.locks.length (encI M.locks)) (hg : W.grownBy W' (x 15).ownBlock) (hloc : v.ownBlock = (x 15).ownBlock ∨ v.ownBlock = some W.heap.size) : Fx w0 M aS aH aF aL cS cH cF cL (upd L 15) (updv x 18 v) W' := by
  have ho := F.r12 hl hf
  have h18 : L 18 = true → false = true := fun h => by
    obtain ⟨h3, h7, h11, h15⟩ := F.e18 h
    rw [← hf]; assumption
  exact ⟨((hg.block _ (lt_of_block F.box) (fun h => own_ne ho F.box (by decide) h.symm)).trans F.box), (fun h => (hg.block _ (lt_of_block (F.zb h)) (fun h1 => own_ne ho (F.zb h) (by decide) h1.symm)).trans (F.zb h)), (fun h => absurd (h18 (F.e19 h)) (by simp)), (F.below.grown hg F.below.size (fun k hk => by have := (ho.lt k hk).1; omega)), F.p1, F.p2, F.p5, F.p6, F.p9, F.p10, F.p13, F.p14, F.p16, F.p17, (fun h => absurd (h18 h) (by simp)), (fun h h3 => World.ownsRow.kept (F.r0 h h3) hg (own_dj (F.r0 h h3) ho (by decide)).ne), (fun h => World.ownsRow.kept (F.r3 h) hg (own_dj (F.r3 h) ho (by decide)).ne), (fun h h3 => World.ownsRow.kept (F.r4 h h3) hg (dj_of (F.d13 h hl) h3 hf).ne), (fun h => World.ownsRow.kept (F.r7 h) hg (dj_oftf (F.d13 (F.e7 h) hl) h hf).ne), (fun h h3 => World.ownsRow.kept (F.r8 h h3) hg (dj_of (F.d23 h hl) h3 hf).ne), (fun h => World.ownsRow.kept (F.r11 h) hg (dj_oftf (F.d23 (F.e11 h) hl) h hf).ne), (fun _ h => by cases h), (fun _ => ho2), F.d12, (fun ha _ => (by have hd := F.d13 ha hl; rw [hf] at hd; exact Dj.grown hd (F.lt1 ha) hloc)), (fun ha _ => (by have hd := F.d23 ha hl; rw [hf] at hd; exact Dj.grown hd (F.lt2 ha) hloc)), F.e3, F.e7, F.e11, (fun _ => hl), (fun h => absurd (h18 h) (by simp)), F.e19⟩
theorem Fx.s19 {w0 : World} {M : Mm} {aS aH aF aL : Option Addr} {cS cH cF cL : Nat} {L : Nat → Bool} {x : Nat → Value} {W : World} (F : Fx w0 M aS aH aF aL cS cH cF cL L x W) (hl : L 18 = true) (hf : L 19 = false) : Fx w0 M aS aH aF aL cS cH cF cL (upd L 19) x (set5 W (w0.heap.size + 1) (x 6) (x 10) (x 14) (x 18) (.int .i64 M.now)) :=
  ⟨((set5_other (by omega)).trans F.box), (fun h => by cases h), (fun _ => set5_block (F.zb hf) _ _ _ _ _), (F.below.trans (set5_below _ _ _ _ _ _ _ _ (by omega))), F.p1, F.p2, F.p5, F.p6, F.p9, F.p10, F.p13, F.p14, F.p16, F.p17, F.b18, (fun h h3 => own_set5 (F.r0 h h3) (own_ne (F.r0 h h3) (F.zb hf) (by decide)) _ _ _ _ _), (fun h => own_set5 (F.r3 h) (own_ne (F.r3 h) (F.zb hf) (by decide)) _ _ _ _ _), (fun h h3 => own_set5 (F.r4 h h3) (own_ne (F.r4 h h3) (F.zb hf) (by decide)) _ _ _ _ _), (fun h => own_set5 (F.r7 h) (own_ne (F.r7 h) (F.zb hf) (by decide)) _ _ _ _ _), (fun h h3 => own_set5 (F.r8 h h3) (own_ne (F.r8 h h3) (F.zb hf) (by decide)) _ _ _ _ _), (fun h => own_set5 (F.r11 h) (own_ne (F.r11 h) (F.zb hf) (by decide)) _ _ _ _ _), (fun h h3 => own_set5 (F.r12 h h3) (own_ne (F.r12 h h3) (F.zb hf) (by decide)) _ _ _ _ _), (fun h => own_set5 (F.r15 h) (own_ne (F.r15 h) (F.zb hf) (by decide)) _ _ _ _ _), F.d12, F.d13, F.d23, F.e3, F.e7, F.e11, F.e15, F.e18, (fun _ => hl)⟩





end Go.Proofs.Ytdbilofhcadmoab.mm

/- The contract of the document's own OwnMem: its walk. -/
namespace Go.Proofs.Ytdbilofhcadmoab.mm
open Go.ChangeShapes Go.WideShapes Go.ChangeAt Go.RowKit Go.Joins Go.Maps
set_option maxRecDepth 100000
set_option linter.unusedVariables false

theorem wpOp_val {P : Program} {ops : Array Oper} {Q : Exit → Act → World → Prop} {i : Nat} {o : Oper} {a : Act} {w w' : World} {v : Value} {K : Act → World → Prop} (hi : ops[i]? = some o) (hg : o.guard = none)
    (hr : (execOp a.eval o).run P w = .ok (.value v) w') (h : K (a.put o.dst v) w') : wpOp P ops Q i K a w := by
  refine wpOp_step hi fun K' hK => ?_
  have hw : Region.wanted o (yielded ops a.tmps) = true := by unfold Region.wanted; rw [hg]
  rw [if_pos hw]
  unfold Oper.wp
  rw [hr]
  exact hK _ _ h

theorem wpOp_skip {P : Program} {ops : Array Oper} {Q : Exit → Act → World → Prop} {i : Nat} {o : Oper} {a : Act} {w w' : World} {K : Act → World → Prop} (hi : ops[i]? = some o) (hg : o.guard = none)
    (hr : (execOp a.eval o).run P w = .ok .skip w') (h : K (a.put o.dst undef) w') : wpOp P ops Q i K a w := by
  refine wpOp_step hi fun K' hK => ?_
  have hw : Region.wanted o (yielded ops a.tmps) = true := by unfold Region.wanted; rw [hg]
  rw [if_pos hw]
  unfold Oper.wp
  rw [hr]
  exact hK _ _ h

theorem Fx.start {w0 W : World} {M : Mm} {aS aH aF aL : Option Addr} {cS cH cF cL : Nat} {x : Nat → Value} (hB : W.heap[w0.heap.size]? = some (.cells #[.slice aS M.slots.length cS, .slice aH M.heads.length cH, .slice aF M.free.length cF, .slice aL M.locks.length cL, .int .i64 M.now] 25 (0, 0)))
    (hR : W.heap[w0.heap.size + 1]? = some (.cells #[.slice none 0 0, .slice none 0 0, .slice none 0 0, .slice none 0 0, .int .i64 0] 25 (0, 0))) (hb : Below w0.heap.size w0 W) : Fx w0 M aS aH aF aL cS cH cF cL (fun _ => false) x W :=
  ⟨hB, fun _ => hR, (fun h => by cases h), hb, (fun h => by cases h), (fun h => by cases h), (fun h => by cases h), (fun h => by cases h), (fun h => by cases h), (fun h => by cases h), (fun h => by cases h), (fun h => by cases h), (fun h => by cases h), (fun h => by cases h), (fun h => by cases h), (fun h => by cases h), (fun h => by cases h), (fun h => by cases h), (fun h => by cases h), (fun h => by cases h), (fun h => by cases h), (fun h => by cases h), (fun h => by cases h), (fun h => by cases h), (fun h => by cases h), (fun h => by cases h), (fun h => by cases h), (fun h => by cases h), (fun h => by cases h), (fun h => by cases h), (fun h => by cases h), (fun h => by cases h)⟩

theorem getD_ft {l : Array Bool} {i : Nat} (h : l.getD i true = false) : l.getD i false = false := by
  by_cases hi : i < l.size
  · simpa [Array.getD_eq_getD_getElem?, hi] using h
  · simp [Array.getD_eq_getD_getElem?, hi]

theorem all_listed {md : Region.Mode} {ops : Array Oper} {listed : Array Bool} (hr : Region.ready md ops listed = []) (hs : listed.size = ops.size)
    (he : ((List.range ops.size).all fun i => ((ops[i]?).map fun o => o.after.all fun e => decide (e.on < i)).getD true) = true) : ∀ n i, i < n → i < ops.size → listed.getD i false = true
  | 0, i, h, _ => by omega
  | n + 1, i, h, hi => by
    cases hl : listed.getD i false with
    | true => rfl
    | false =>
      exfalso
      have hlt : listed.getD i true = false := by
        simpa [Array.getD_eq_getD_getElem?, hs, hi] using hl
      have hm : i ∈ Region.ready md ops listed := by
        unfold Region.ready
        rw [List.mem_filter]
        refine ⟨by simpa using hi, ?_⟩
        rw [hlt]
        have h1 := List.all_eq_true.1 he i (by simpa using hi)
        have ho : ops[i]? = some ops[i] := Array.getElem?_eq_getElem hi
        rw [ho] at h1 ⊢
        simp only [Option.map_some, Option.getD_some] at h1 ⊢
        simp only [Bool.not_false, Bool.true_and]
        rw [Array.all_eq_true'] at h1 ⊢
        intro e hm
        have h2 := h1 e hm
        have h3 : e.on < i := by simpa using h2
        rw [all_listed hr hs he n e.on (by omega) (by omega)]
        simp
      rw [hr] at hm
      cases hm

def actO (x : Nat → Value) : Act := ⟨#[x 0, x 1, x 2, x 3, x 4, x 5, x 6, x 7, x 8, x 9, x 10, x 11, x 12, x 13, x 14, x 15, x 16, x 17, x 18, x 19, x 20, x 21], []⟩

structure Jo (w0 : World) (M : Mm) (aS aH aF aL : Option Addr) (cS cH cF cL : Nat) (listed : Array Bool) (x : Nat → Value) (W : World) : Prop where
  n : listed.size = 20
  x1 : x 1 = .pointer (some ⟨w0.heap.size, 0, none⟩)
  x2 : x 2 = .pointer (some ⟨w0.heap.size + 1, 0, none⟩)
  f : Fx w0 M aS aH aF aL cS cH cF cL (fun i => listed.getD i false) x W

theorem Jo.next {w0 : World} {M : Mm} {aS aH aF aL : Option Addr} {cS cH cF cL : Nat} {listed : Array Bool} {x x' : Nat → Value} {W W' : World} (J : Jo w0 M aS aH aF aL cS cH cF cL listed x W) (i : Nat) (hi : i < 20) (h1 : x' 1 = x 1) (h2 : x' 2 = x 2)
    (F : Fx w0 M aS aH aF aL cS cH cF cL (upd (fun k => listed.getD k false) i) x' W') : Jo w0 M aS aH aF aL cS cH cF cL (listed.setIfInBounds i true) x' W' := by
  refine ⟨by simpa using J.n, h1.trans J.x1, h2.trans J.x2, ?_⟩
  have e : (fun k => (listed.setIfInBounds i true).getD k false) = upd (fun k => listed.getD k false) i := by
    funext k
    have := J.n
    by_cases hk : k = i
    · subst hk
      simp [upd, Array.getD_eq_getD_getElem?, J.n, hi]
    · have hk' : ¬ i = k := fun e => hk e.symm
      simp [upd, hk, Array.getD_eq_getD_getElem?, hk']
  rw [e]
  exact F

theorem app_some {W : World} (x : Nat → Value) (base : Nat) (t e : TypeId) (i : TypeInfo) (z : Value) (size bytes : Nat) (ht : Try.prog.underlying t = some (.slice e)) (hi : Try.prog.info? e = some i) (hz : i.zero = some z)
    (hsize : i.size = size) (hby : i.bytes = bytes) (hzs : z.cells.size = size) (hsz : 0 < size) (s y : Nat) (o : Oper) (ho : o.op = .call { callee := .builtin .append, args := #[.tmp s, .tmp y], argTypes := #[t, t] })
    (v : Value) (hs : (actO x).eval (.tmp s) = v) (hown : W.ownsRow base e size v 0 [])
    (ao : Option Addr) (m c : Nat) (news : List Value) (hx : (actO x).eval (.tmp y) = .slice ao m c) (hl : news.length = m * size) (hn : ao = none → m = 0 ∧ c = 0) (hnews : ∀ ad, ao = some ad → ∀ j u, news[j]? = some u → W.cell? (ad.add j) = some u) (h1 : ∀ u ∈ news, u.oneCell' = true)
    (h63 : m ≤ maxLen) (hbytes : m * bytes ≤ 140737488355328) (hbase : base ≤ W.heap.size) :
    ∃ v' W', (execOp (actO x).eval o).run Try.prog W = .ok (.value v') W' ∧ W'.ownsRow base e size v' m news ∧ W.grownBy W' v.ownBlock ∧ (v'.ownBlock = v.ownBlock ∨ v'.ownBlock = some W.heap.size) := by
  cases ao with
  | some ad =>
    obtain ⟨v', w', hr, h2, h3, h4, h5⟩ := run_append_own_at (P := Try.prog) W base t o.type e i z size bytes ht hi hz hsize hby hzs hsz v 0 [] hown ad m c news hl (hnews ad rfl) h1 (by omega) (by rw [Nat.zero_add]; exact hbytes) hbase
    rw [Nat.zero_add, List.nil_append] at h2
    refine ⟨v', w', ?_, h2, h3, h5⟩
    unfold execOp
    simp only [ho, resolve, invoke, builtin, Sem.run_bind, Sem.run_pure, Result.andThen_ok, List.map_toArray, List.map_cons, List.map_nil, hs, hx, hr]
  | none =>
    obtain ⟨rfl, rfl⟩ := hn rfl
    have hnil : news = [] := List.eq_nil_of_length_eq_zero (by rw [hl, Nat.zero_mul])
    subst hnil
    have hr := run_append_owned_none (P := Try.prog) W base t o.type e i size ht hi v 0 [] hown
    refine ⟨v, W, ?_, hown, ⟨rfl, rfl, rfl, Nat.le_refl _, fun _ _ _ => rfl⟩, .inl rfl⟩
    unfold execOp
    simp only [ho, resolve, invoke, builtin, Sem.run_bind, Sem.run_pure, Result.andThen_ok, List.map_toArray, List.map_cons, List.map_nil, hs, hx, hr]

theorem own_len {w : World} {lo size n : Nat} {e : TypeId} {v : Value} {xs : List Value} (h : w.ownsRow lo e size v n xs) : ∃ a c, v = .slice a n c := own_shape h

set_option maxHeartbeats 3200000 in
theorem ownMem_any (M : Mm) (aS aH aF aL : Option Addr) (cS cH cF cL : Nat) (w : World) (A : At w aS aH aF aL cS cH cF cL M) :
    Calls Try.prog 35 #[.agg #[.slice aS M.slots.length cS, .slice aH M.heads.length cH, .slice aF M.free.length cF, .slice aL M.locks.length cL, .int .i64 M.now]] w fun e w' => ∃ gS gH gF gL kS kH kF kL,
      e = .returned (.agg #[.slice gS M.slots.length kS, .slice gH M.heads.length kH, .slice gF M.free.length kF, .slice gL M.locks.length kL, .int .i64 M.now]) ∧
      Rw w' w.heap.size gS gH gF gL kS kH kF kL M ∧ Below w.heap.size w w' := by
  obtain ⟨iI0, hiI, hzI0, hzI1, hzI2⟩ := info_parts iI
  obtain ⟨iS0, hiS, hzS0, hzS1, hzS2⟩ := info_parts iS
  have m1 := A.s.max; have m2 := A.h.max; have m3 := A.f.max; have m4 := A.l.max
  have HA : Hid (At w aS aH aF aL cS cH cF cL M) := A
  clear A
  have b0 : Below w.heap.size w ((w.alloc (.cells #[.slice aS M.slots.length cS, .slice aH M.heads.length cH, .slice aF M.free.length cF, .slice aL M.locks.length cL, .int .i64 M.now] 25)).alloc (.cells #[.slice none 0 0, .slice none 0 0, .slice none 0 0, .slice none 0 0, .int .i64 0] 25)) := below_alloc2 w _ _
  have HB0 : Hid (((w.alloc (.cells #[.slice aS M.slots.length cS, .slice aH M.heads.length cH, .slice aF M.free.length cF, .slice aL M.locks.length cL, .int .i64 M.now] 25)).alloc (.cells #[.slice none 0 0, .slice none 0 0, .slice none 0 0, .slice none 0 0, .int .i64 0] 25)).heap[w.heap.size]? = some (.cells #[.slice aS M.slots.length cS, .slice aH M.heads.length cH, .slice aF M.free.length cF, .slice aL M.locks.length cL, .int .i64 M.now] 25 (0, 0))) := by
    show _ = _
    rw [Below.heap_alloc _ _ _ (by simp), heap_alloc_new]
  have HR0 : Hid (((w.alloc (.cells #[.slice aS M.slots.length cS, .slice aH M.heads.length cH, .slice aF M.free.length cF, .slice aL M.locks.length cL, .int .i64 M.now] 25)).alloc (.cells #[.slice none 0 0, .slice none 0 0, .slice none 0 0, .slice none 0 0, .int .i64 0] 25)).heap[w.heap.size + 1]? = some (.cells #[.slice none 0 0, .slice none 0 0, .slice none 0 0, .slice none 0 0, .int .i64 0] 25 (0, 0))) := by
    have := heap_alloc_new (w.alloc (.cells #[.slice aS M.slots.length cS, .slice aH M.heads.length cH, .slice aF M.free.length cF, .slice aL M.locks.length cL, .int .i64 M.now] 25)) (.cells #[.slice none 0 0, .slice none 0 0, .slice none 0 0, .slice none 0 0, .int .i64 0] 25)
    rwa [show (w.alloc (.cells #[.slice aS M.slots.length cS, .slice aH M.heads.length cH, .slice aF M.free.length cF, .slice aL M.locks.length cL, .int .i64 M.now] 25)).heap.size = w.heap.size + 1 by simp] at this
  go_enter Try.func35, Try.ntmps35
  go_wp2_with fail
  rename_i K0 hK0
  refine wp_region_inv (by kernel_rfl) (fun listed a W => ∃ x, a = actO x ∧ Jo w M aS aH aF aL cS cH cF cL listed x W) ?_ ?_ ?_
  · refine ⟨fun k => match k with | 0 => .agg #[.slice aS M.slots.length cS, .slice aH M.heads.length cH, .slice aF M.free.length cF, .slice aL M.locks.length cL, .int .i64 M.now] | 1 => .pointer (some ⟨w.heap.size, 0, none⟩) | 2 => .pointer (some ⟨w.heap.size + 1, 0, none⟩) | _ => undef, rfl, by simp, rfl, rfl, ?_⟩
    have e : (fun i => (Array.replicate 20 false).getD i false) = fun _ => false := by
      funext i
      by_cases h : i < 20 <;> simp [Array.getD_eq_getD_getElem?, h]
    show Fx w M aS aH aF aL cS cH cF cL (fun i => (Array.replicate 20 false).getD i false) _ _
    rw [e]
    exact Fx.start HB0.out HR0.out b0.drew
  · rintro listed a W i hi ⟨x, rfl, hJ⟩
    obtain ⟨hi1, hi2, o, ho, hpre⟩ := ready_spec hi
    clear hi
    have hi1' : i < 20 := hi1
    clear hi1
    have hA := HA.out.below hJ.f.below
    obtain ⟨q0, q1, q2, q3, q4, -, -, -, -, -, qs⟩ := boxf hJ.f.box
    have hx1 := hJ.x1
    have hlo : w.heap.size + 2 ≤ W.heap.size := hJ.f.lt
    obtain rfl | rfl | rfl | rfl | rfl | rfl | rfl | rfl | rfl | rfl | rfl | rfl | rfl | rfl | rfl | rfl | rfl | rfl | rfl | rfl : i = 0 ∨ i = 1 ∨ i = 2 ∨ i = 3 ∨ i = 4 ∨ i = 5 ∨ i = 6 ∨ i = 7 ∨ i = 8 ∨ i = 9 ∨ i = 10 ∨ i = 11 ∨ i = 12 ∨ i = 13 ∨ i = 14 ∨ i = 15 ∨ i = 16 ∨ i = 17 ∨ i = 18 ∨ i = 19 := by omega
    · refine wpOp_val rfl rfl (v := .slice (some ⟨W.heap.size, 0, none⟩) 0 0) (w' := W.alloc (.cells #[] 39)) (by simp only [execOp]; simp [go_sem]) ⟨updv x 3 _, rfl, hJ.next 0 (by omega) rfl rfl (hJ.f.b0 (getD_ft hi2))⟩
    · refine wpOp_val rfl rfl (v := .pointer (some ⟨w.heap.size, 0, none⟩)) (w' := W) (by simp [execOp, go_sem, (show (actO x).tmps[1]?.getD undef = .pointer (some ⟨w.heap.size, 0, none⟩) from hx1)]) ⟨updv x 4 _, rfl, hJ.next 1 (by omega) rfl rfl hJ.f.a1⟩
    · have g1 : listed.getD 1 false = true := hpre ⟨1, .data⟩ (by simp at ho; subst ho; simp) rfl
      have hx4 := hJ.f.p1 g1
      refine wpOp_val rfl rfl (v := .slice aS M.slots.length cS) (w' := W) (by simp [execOp, go_sem, (show (actO x).tmps[4]?.getD undef = .pointer (some ⟨w.heap.size, 0, none⟩) from hx4), q0]) ⟨updv x 5 _, rfl, hJ.next 2 (by omega) rfl rfl hJ.f.a2⟩
    · have hop : o.op = .call { callee := .builtin .append, args := #[.tmp 3, .tmp 5], argTypes := #[22, 22] } := by simp at ho; subst ho; rfl
      have hdst : o.dst = some 6 := by simp at ho; subst ho; rfl
      have hgd : o.guard = none := by simp at ho; subst ho; rfl
      have g0 : listed.getD 0 false = true := hpre ⟨0, .data⟩ (by simp at ho; subst ho; simp) rfl
      have g2 : listed.getD 2 false = true := hpre ⟨2, .data⟩ (by simp at ho; subst ho; simp) rfl
      have hs := hJ.f.r0 g0 (getD_ft hi2)
      have hy := hJ.f.p2 g2
      obtain ⟨v', W', hr, h2, h3, h5⟩ := app_some (W := W) x (w.heap.size + 2) 22 39 iS0 (.agg #[.int .i64 0, .int .i64 0, .int .i64 0, .int .i64 0, .bool false, .int .i64 0]) 6 48 Try.underlying22 hiS hzS0 hzS1 hzS2 rfl (by decide) 3 5 o hop (x 3) rfl hs aS M.slots.length cS (encS M.slots) hy (encS_len _) (fun h => ⟨by have := hA.s.nil h; have := hA.s.le; omega, hA.s.nil h⟩) hA.s.src (encS_one _) (by unfold maxLen; omega) (by omega) hlo
      exact wpOp_val ho hgd hr ⟨updv x 6 v', by rw [hdst]; rfl, hJ.next 3 (by omega) rfl rfl (hJ.f.c3 g0 (getD_ft hi2) h2 h3 h5)⟩
    · refine wpOp_val rfl rfl (v := .slice (some ⟨W.heap.size, 0, none⟩) 0 0) (w' := W.alloc (.cells #[] 3)) (by simp only [execOp]; simp [go_sem]) ⟨updv x 7 _, rfl, hJ.next 4 (by omega) rfl rfl (hJ.f.b4 (getD_ft hi2))⟩
    · refine wpOp_val rfl rfl (v := .pointer (some ⟨w.heap.size, 1, none⟩)) (w' := W) (by simp [execOp, go_sem, (show (actO x).tmps[1]?.getD undef = .pointer (some ⟨w.heap.size, 0, none⟩) from hx1)]) ⟨updv x 8 _, rfl, hJ.next 5 (by omega) rfl rfl hJ.f.a5⟩
    · have g5 : listed.getD 5 false = true := hpre ⟨5, .data⟩ (by simp at ho; subst ho; simp) rfl
      have hx4 := hJ.f.p5 g5
      refine wpOp_val rfl rfl (v := .slice aH M.heads.length cH) (w' := W) (by simp [execOp, go_sem, (show (actO x).tmps[8]?.getD undef = .pointer (some ⟨w.heap.size, 1, none⟩) from hx4), q1]) ⟨updv x 9 _, rfl, hJ.next 6 (by omega) rfl rfl hJ.f.a6⟩
    · have hop : o.op = .call { callee := .builtin .append, args := #[.tmp 7, .tmp 9], argTypes := #[23, 23] } := by simp at ho; subst ho; rfl
      have hdst : o.dst = some 10 := by simp at ho; subst ho; rfl
      have hgd : o.guard = none := by simp at ho; subst ho; rfl
      have g4 : listed.getD 4 false = true := hpre ⟨4, .data⟩ (by simp at ho; subst ho; simp) rfl
      have g6 : listed.getD 6 false = true := hpre ⟨6, .data⟩ (by simp at ho; subst ho; simp) rfl
      have hs := hJ.f.r4 g4 (getD_ft hi2)
      have hy := hJ.f.p6 g6
      obtain ⟨v', W', hr, h2, h3, h5⟩ := app_some (W := W) x (w.heap.size + 2) 23 3 iI0 (.int .i64 0) 1 8 Try.underlying23 hiI hzI0 hzI1 hzI2 rfl (by decide) 7 9 o hop (x 7) rfl hs aH M.heads.length cH (encI M.heads) hy ((encI_len _).trans (Nat.mul_one _).symm) (fun h => ⟨by have := hA.h.nil h; have := hA.h.le; omega, hA.h.nil h⟩) hA.h.src (encI_one _) (by unfold maxLen; omega) (by omega) hlo
      exact wpOp_val ho hgd hr ⟨updv x 10 v', by rw [hdst]; rfl, hJ.next 7 (by omega) rfl rfl (hJ.f.c7 g4 (getD_ft hi2) h2 h3 h5)⟩
    · refine wpOp_val rfl rfl (v := .slice (some ⟨W.heap.size, 0, none⟩) 0 0) (w' := W.alloc (.cells #[] 3)) (by simp only [execOp]; simp [go_sem]) ⟨updv x 11 _, rfl, hJ.next 8 (by omega) rfl rfl (hJ.f.b8 (getD_ft hi2))⟩
    · refine wpOp_val rfl rfl (v := .pointer (some ⟨w.heap.size, 2, none⟩)) (w' := W) (by simp [execOp, go_sem, (show (actO x).tmps[1]?.getD undef = .pointer (some ⟨w.heap.size, 0, none⟩) from hx1)]) ⟨updv x 12 _, rfl, hJ.next 9 (by omega) rfl rfl hJ.f.a9⟩
    · have g9 : listed.getD 9 false = true := hpre ⟨9, .data⟩ (by simp at ho; subst ho; simp) rfl
      have hx4 := hJ.f.p9 g9
      refine wpOp_val rfl rfl (v := .slice aF M.free.length cF) (w' := W) (by simp [execOp, go_sem, (show (actO x).tmps[12]?.getD undef = .pointer (some ⟨w.heap.size, 2, none⟩) from hx4), q2]) ⟨updv x 13 _, rfl, hJ.next 10 (by omega) rfl rfl hJ.f.a10⟩
    · have hop : o.op = .call { callee := .builtin .append, args := #[.tmp 11, .tmp 13], argTypes := #[23, 23] } := by simp at ho; subst ho; rfl
      have hdst : o.dst = some 14 := by simp at ho; subst ho; rfl
      have hgd : o.guard = none := by simp at ho; subst ho; rfl
      have g8 : listed.getD 8 false = true := hpre ⟨8, .data⟩ (by simp at ho; subst ho; simp) rfl
      have g10 : listed.getD 10 false = true := hpre ⟨10, .data⟩ (by simp at ho; subst ho; simp) rfl
      have hs := hJ.f.r8 g8 (getD_ft hi2)
      have hy := hJ.f.p10 g10
      obtain ⟨v', W', hr, h2, h3, h5⟩ := app_some (W := W) x (w.heap.size + 2) 23 3 iI0 (.int .i64 0) 1 8 Try.underlying23 hiI hzI0 hzI1 hzI2 rfl (by decide) 11 13 o hop (x 11) rfl hs aF M.free.length cF (encI M.free) hy ((encI_len _).trans (Nat.mul_one _).symm) (fun h => ⟨by have := hA.f.nil h; have := hA.f.le; omega, hA.f.nil h⟩) hA.f.src (encI_one _) (by unfold maxLen; omega) (by omega) hlo
      exact wpOp_val ho hgd hr ⟨updv x 14 v', by rw [hdst]; rfl, hJ.next 11 (by omega) rfl rfl (hJ.f.c11 g8 (getD_ft hi2) h2 h3 h5)⟩
    · refine wpOp_val rfl rfl (v := .slice (some ⟨W.heap.size, 0, none⟩) 0 0) (w' := W.alloc (.cells #[] 3)) (by simp only [execOp]; simp [go_sem]) ⟨updv x 15 _, rfl, hJ.next 12 (by omega) rfl rfl (hJ.f.b12 (getD_ft hi2))⟩
    · refine wpOp_val rfl rfl (v := .pointer (some ⟨w.heap.size, 3, none⟩)) (w' := W) (by simp [execOp, go_sem, (show (actO x).tmps[1]?.getD undef = .pointer (some ⟨w.heap.size, 0, none⟩) from hx1)]) ⟨updv x 16 _, rfl, hJ.next 13 (by omega) rfl rfl hJ.f.a13⟩
    · have g13 : listed.getD 13 false = true := hpre ⟨13, .data⟩ (by simp at ho; subst ho; simp) rfl
      have hx4 := hJ.f.p13 g13
      refine wpOp_val rfl rfl (v := .slice aL M.locks.length cL) (w' := W) (by simp [execOp, go_sem, (show (actO x).tmps[16]?.getD undef = .pointer (some ⟨w.heap.size, 3, none⟩) from hx4), q3]) ⟨updv x 17 _, rfl, hJ.next 14 (by omega) rfl rfl hJ.f.a14⟩
    · have hop : o.op = .call { callee := .builtin .append, args := #[.tmp 15, .tmp 17], argTypes := #[23, 23] } := by simp at ho; subst ho; rfl
      have hdst : o.dst = some 18 := by simp at ho; subst ho; rfl
      have hgd : o.guard = none := by simp at ho; subst ho; rfl
      have g12 : listed.getD 12 false = true := hpre ⟨12, .data⟩ (by simp at ho; subst ho; simp) rfl
      have g14 : listed.getD 14 false = true := hpre ⟨14, .data⟩ (by simp at ho; subst ho; simp) rfl
      have hs := hJ.f.r12 g12 (getD_ft hi2)
      have hy := hJ.f.p14 g14
      obtain ⟨v', W', hr, h2, h3, h5⟩ := app_some (W := W) x (w.heap.size + 2) 23 3 iI0 (.int .i64 0) 1 8 Try.underlying23 hiI hzI0 hzI1 hzI2 rfl (by decide) 15 17 o hop (x 15) rfl hs aL M.locks.length cL (encI M.locks) hy ((encI_len _).trans (Nat.mul_one _).symm) (fun h => ⟨by have := hA.l.nil h; have := hA.l.le; omega, hA.l.nil h⟩) hA.l.src (encI_one _) (by unfold maxLen; omega) (by omega) hlo
      exact wpOp_val ho hgd hr ⟨updv x 18 v', by rw [hdst]; rfl, hJ.next 15 (by omega) rfl rfl (hJ.f.c15 g12 (getD_ft hi2) h2 h3 h5)⟩
    · refine wpOp_val rfl rfl (v := .pointer (some ⟨w.heap.size, 4, none⟩)) (w' := W) (by simp [execOp, go_sem, (show (actO x).tmps[1]?.getD undef = .pointer (some ⟨w.heap.size, 0, none⟩) from hx1)]) ⟨updv x 19 _, rfl, hJ.next 16 (by omega) rfl rfl hJ.f.a16⟩
    · have g16 : listed.getD 16 false = true := hpre ⟨16, .data⟩ (by simp at ho; subst ho; simp) rfl
      have hx4 := hJ.f.p16 g16
      refine wpOp_val rfl rfl (v := .int .i64 M.now) (w' := W) (by simp [execOp, go_sem, (show (actO x).tmps[19]?.getD undef = .pointer (some ⟨w.heap.size, 4, none⟩) from hx4), q4]) ⟨updv x 20 _, rfl, hJ.next 17 (by omega) rfl rfl hJ.f.a17⟩
    · have g3 : listed.getD 3 false = true := hpre ⟨3, .data⟩ (by simp at ho; subst ho; simp) rfl
      have g7 : listed.getD 7 false = true := hpre ⟨7, .data⟩ (by simp at ho; subst ho; simp) rfl
      have g11 : listed.getD 11 false = true := hpre ⟨11, .data⟩ (by simp at ho; subst ho; simp) rfl
      have g15 : listed.getD 15 false = true := hpre ⟨15, .data⟩ (by simp at ho; subst ho; simp) rfl
      have g17 : listed.getD 17 false = true := hpre ⟨17, .data⟩ (by simp at ho; subst ho; simp) rfl
      have h20 := hJ.f.p17 g17
      obtain ⟨_, _, e6⟩ := own_shape (hJ.f.r3 g3)
      obtain ⟨_, _, e10⟩ := own_shape (hJ.f.r7 g7)
      obtain ⟨_, _, e14⟩ := own_shape (hJ.f.r11 g11)
      obtain ⟨_, _, e18⟩ := own_shape (hJ.f.r15 g15)
      refine wpOp_val rfl rfl (v := .agg #[x 6, x 10, x 14, x 18, .int .i64 M.now]) (w' := W) (by rw [e6, e10, e14, e18]; simp [execOp, go_sem, (show (actO x).tmps[20]?.getD undef = .int .i64 M.now from h20), (show (actO x).tmps[6]?.getD undef = _ from e6), (show (actO x).tmps[10]?.getD undef = _ from e10), (show (actO x).tmps[14]?.getD undef = _ from e14), (show (actO x).tmps[18]?.getD undef = _ from e18)]) ⟨updv x 21 _, rfl, hJ.next 18 (by omega) rfl rfl (hJ.f.a18 g3 g7 g11 g15)⟩
    · have g18 : listed.getD 18 false = true := hpre ⟨18, .data⟩ (by simp at ho; subst ho; simp) rfl
      have h21 := hJ.f.b18 g18
      have hx2 := hJ.x2
      obtain ⟨g3, g7, g11, g15⟩ := hJ.f.e18 g18
      obtain ⟨_, _, e6⟩ := own_shape (hJ.f.r3 g3)
      obtain ⟨_, _, e10⟩ := own_shape (hJ.f.r7 g7)
      obtain ⟨_, _, e14⟩ := own_shape (hJ.f.r11 g11)
      obtain ⟨_, _, e18⟩ := own_shape (hJ.f.r15 g15)
      obtain ⟨r0, r1, r2, r3, r4, z0, z1, z2, z3, z4, zs⟩ := boxf (hJ.f.zb (getD_ft hi2))
      refine wpOp_skip rfl rfl (w' := set5 W (w.heap.size + 1) (x 6) (x 10) (x 14) (x 18) (.int .i64 M.now)) (by
        rw [e6, e10, e14, e18] at h21 ⊢
        simp [execOp, go_sem, (show (actO x).tmps[2]?.getD undef = _ from hx2), (show (actO x).tmps[21]?.getD undef = _ from h21), r0, r1, r2, r3, r4, z0, z1, z2, z3, z4]
        rfl) ⟨x, rfl, hJ.next 19 (by omega) rfl rfl (hJ.f.s19 g18 (getD_ft hi2))⟩
  · rintro listed a W hr ⟨x, rfl, hJ⟩
    have hall := all_listed hr hJ.n (by kernel_rfl) 20
    have g3 : listed.getD 3 false = true := hall 3 (by omega) (by show 3 < 20; omega)
    have g7 : listed.getD 7 false = true := hall 7 (by omega) (by show 7 < 20; omega)
    have g11 : listed.getD 11 false = true := hall 11 (by omega) (by show 11 < 20; omega)
    have g15 : listed.getD 15 false = true := hall 15 (by omega) (by show 15 < 20; omega)
    have g19 : listed.getD 19 false = true := hall 19 (by omega) (by show 19 < 20; omega)
    have g4 := hJ.f.e7 g7
    have g8 := hJ.f.e11 g11
    have g12 := hJ.f.e15 g15
    clear hr hall
    have o3 := hJ.f.r3 g3
    have o7 := hJ.f.r7 g7
    have o11 := hJ.f.r11 g11
    have o15 := hJ.f.r15 g15
    have d12 : Dj (x 10) (x 14) := by have := hJ.f.d12 g4 g8; rwa [if_pos g7, if_pos g11] at this
    have d13 : Dj (x 10) (x 18) := by have := hJ.f.d13 g4 g12; rwa [if_pos g7, if_pos g15] at this
    have d23 : Dj (x 14) (x 18) := by have := hJ.f.d23 g8 g12; rwa [if_pos g11, if_pos g15] at this
    have fb := hJ.f.fb g19
    have lt := hJ.f.lt
    have bl := hJ.f.below
    obtain ⟨gS, kS, e6⟩ := own_shape o3
    obtain ⟨gH, kH, e10⟩ := own_shape o7
    obtain ⟨gF, kF, e14⟩ := own_shape o11
    obtain ⟨gL, kL, e18⟩ := own_shape o15
    rw [e6] at o3 fb
    rw [e10] at o7 d12 d13 fb
    rw [e14] at o11 d12 d23 fb
    rw [e18] at o15 d13 d23 fb
    have HF : Hid (Rw W w.heap.size gS gH gF gL kS kH kF kL M) := ⟨ownsRow_le o3 (by omega), ownsRow_le o7 (by omega), ownsRow_le o11 (by omega), ownsRow_le o15 (by omega), d12, d13, d23, by omega⟩
    obtain ⟨r0, r1, r2, r3, r4, g0, g1, g2, g3, g4, rs⟩ := boxf fb
    have hx2 := hJ.x2
    clear o3 o7 o11 o15 d12 d13 d23 fb
    refine hK0 _ _ ?_
    go_wp2
    refine bodyPost_ret (v := .agg #[.slice gS M.slots.length kS, .slice gH M.heads.length kH, .slice gF M.free.length kF, .slice gL M.locks.length kL, .int .i64 M.now]) (by simp [results, Try.results35, go_sem, actO, hx2, r0, r1, r2, r3, r4]) rfl ⟨_, _, _, _, _, _, _, _, rfl, HF.out, bl⟩





end Go.Proofs.Ytdbilofhcadmoab.mm

/- From what a row says of an argument to memory that lies in the world. -/
namespace Go.Proofs.Ytdbilofhcadmoab.mm
open Go.ChangeShapes Go.WideShapes Go.ChangeAt Go.RowKit Go.Joins Go.Deep
set_option maxRecDepth 100000
set_option linter.unusedVariables false

theorem own : ownKnob Try.prog.godebug = none := by kernel_rfl
theorem cells3 : Try.prog.cellsOf 3 = 1 := by kernel_rfl
theorem cells4 : Try.prog.cellsOf 4 = 1 := by kernel_rfl
theorem cells37 : Try.prog.cellsOf 37 = 2 := by kernel_rfl
theorem cells48 : Try.prog.cellsOf 39 = 6 := by kernel_rfl
theorem cells29 : Try.prog.cellsOf 25 = 5 := by kernel_rfl
theorem cells24 : Try.prog.cellsOf 23 = 1 := by kernel_rfl
theorem cells27 : Try.prog.cellsOf 22 = 1 := by kernel_rfl
theorem bytes3 : Try.prog.bytesOf 3 = 8 := by kernel_rfl
theorem bytes48 : Try.prog.bytesOf 39 = 48 := by kernel_rfl

variable {H : Type} {enc : TypeId × Value → H} {w : World}

theorem trod_struct5 {P : Program} {base : Nat} {spare : Nat → Bool} {held : Bool} {t : TypeId} {f0 f1 f2 f3 f4 : Field} {fuel : Nat} {cs : List Value} {x : DataW H × List MemPlace} (ht : P.underlying t = some (.struct #[f0, f1, f2, f3, f4])) (h : DataW.trod enc P w base spare held fuel t cs = some x) :
    ∃ y0 y1 y2 y3 y4 n, x.1 = .agg [y0.1, y1.1, y2.1, y3.1, y4.1] ∧ cs.length = P.cellsOf t ∧ DataW.trod enc P w base spare held n f0.type ((cs.drop f0.offset).take (P.cellsOf f0.type)) = some y0 ∧
      DataW.trod enc P w base spare held n f1.type ((cs.drop f1.offset).take (P.cellsOf f1.type)) = some y1 ∧ DataW.trod enc P w base spare held n f2.type ((cs.drop f2.offset).take (P.cellsOf f2.type)) = some y2 ∧
      DataW.trod enc P w base spare held n f3.type ((cs.drop f3.offset).take (P.cellsOf f3.type)) = some y3 ∧ DataW.trod enc P w base spare held n f4.type ((cs.drop f4.offset).take (P.cellsOf f4.type)) = some y4 := by
  obtain ⟨xs, n, _, rfl, hl, hlen, hf⟩ := DataW.trod_struct ht h
  match xs, hlen with
  | [y0, y1, y2, y3, y4], _ => exact ⟨y0, y1, y2, y3, y4, n, by simp, hl, by simpa using hf 0 f0 rfl, by simpa using hf 1 f1 rfl, by simpa using hf 2 f2 rfl, by simpa using hf 3 f3 rfl, by simpa using hf 4 f4 rfl⟩

theorem six {cs : List Value} (h : cs.length = 6) : ∃ c0 c1 c2 c3 c4 c5, cs = [c0, c1, c2, c3, c4, c5] := by
  match cs, h with
  | [c0, c1, c2, c3, c4, c5], _ => exact ⟨_, _, _, _, _, _, rfl⟩

theorem open_slot {fuel : Nat} {cs : List Value} {x : DataW H × List MemPlace} (h : DataW.trod enc Try.prog w 0 (fun _ => true) true fuel 39 cs = some x) : ∃ s : Sl, cs = s.enc := by
  obtain ⟨y0, y1, y2, y3, y4, n, _, hl, h0, h1, h2, h3, h4⟩ := trod_struct5 Try.underlying39 h
  rw [cells48] at hl
  obtain ⟨c0, c1, c2, c3, c4, c5, rfl⟩ := six hl
  simp only [cells3, cells4, cells37] at h0 h1 h2 h3 h4
  obtain ⟨r, e0, _⟩ := DataW.trod_int Try.underlying3 h0
  obtain ⟨z0, z1, m, _, _, k0, k1⟩ := trod_struct2 Try.underlying37 h1
  simp only [cells3] at k0 k1
  obtain ⟨a, e1, _⟩ := DataW.trod_int Try.underlying3 k0
  obtain ⟨b, e2, _⟩ := DataW.trod_int Try.underlying3 k1
  obtain ⟨u, e3, _⟩ := DataW.trod_int Try.underlying3 h2
  obtain ⟨i, e4, _⟩ := DataW.trod_bool Try.underlying4 h3
  obtain ⟨nx, e5, _⟩ := DataW.trod_int Try.underlying3 h4
  simp at e0 e1 e2 e3 e4 e5
  subst e0 e1 e2 e3 e4 e5
  exact ⟨⟨r, a, b, u, i, nx⟩, rfl⟩

theorem open_irow {fuel : Nat} {c : Value} {x : DataW H × List MemPlace} (h : DataW.trod enc Try.prog w 0 (fun _ => true) true fuel 23 [c] = some x) (hz : ∀ n ∈ x.1.weights Try.prog 23, n ≤ reachBytes) :
    ∃ l ao cap, c = .slice ao l.length cap ∧ IRow w ao cap l := by
  rcases open_ints Try.underlying23 Try.underlying3 cells3 h with ⟨e, -⟩ | ⟨a, len, cap, zs, e, hb, hl, hm, hlen, hx, hc, hwf⟩
  · simp at e
    exact ⟨[], none, 0, e, Nat.zero_le _, by decide, fun _ => rfl, .inl rfl⟩
  · simp at e hlen
    subst e
    have hlt : (zs.take len).length = len := by rw [List.length_take]; omega
    refine ⟨zs.take len, some a, cap, by rw [hlt], by omega, ?_, (fun h => by cases h), ?_⟩
    · rw [hx] at hz
      have := hz ((len + (cap - len)) * 8) (by simp [DataW.weights, Try.underlying23, bytes3, lits, hlen]; left; omega)
      unfold reachBytes at this
      rw [hlt]
      omega
    · by_cases h0 : len = 0
      · left; omega
      · right
        obtain ⟨b, off, spot⟩ := a
        have hspot : spot = none := by simpa [Addr.add] using World.cell?_spot (hc 0 (by omega))
        subst hspot
        refine ⟨b, off, rfl, fun i hi => ?_⟩
        have := hc i (by omega)
        rw [Addr.add_lit] at this
        rw [this]
        have hi' : i < zs.length := by omega
        simp [List.getD_eq_getElem?_getD, hi']

theorem open_srow {fuel : Nat} {c : Value} {x : DataW H × List MemPlace} (h : DataW.trod enc Try.prog w 0 (fun _ => true) true fuel 22 [c] = some x) (hz : ∀ n ∈ x.1.weights Try.prog 22, n ≤ reachBytes) :
    ∃ l ao cap, c = .slice ao l.length cap ∧ SRow w ao cap l := by
  rcases open_slice Try.underlying22 h with ⟨e, -⟩ | ⟨a, len, cap, m, n, D, Pl, e, hb, hl, hm, hmm, hx, hc⟩
  · simp at e
    exact ⟨[], none, 0, e, Nat.zero_le _, by decide, fun _ => rfl, .inl rfl⟩
  · simp at e hmm
    subst e hmm
    rw [cells48] at hc
    obtain ⟨S, hS⟩ := @choose_lt Sl ⟨sl0⟩ len (fun i s => w.cells? 0 (a.add (i * 6)) 6 = some s.enc) (fun i hi => by
      obtain ⟨cs', h1, h2⟩ := hc i (by omega)
      obtain ⟨s, rfl⟩ := open_slot h2
      exact ⟨s, h1⟩)
    have hlt : ((List.range len).map S).length = len := by simp
    refine ⟨(List.range len).map S, some a, m, by rw [hlt], by omega, ?_, (fun h => by cases h), ?_⟩
    · rw [hx] at hz
      have := hz ((len + (m - len)) * 48) (by simp [DataW.weights, Try.underlying22, bytes48])
      unfold reachBytes at this
      rw [hlt]
      omega
    · by_cases h0 : len = 0
      · left; omega
      · right
        obtain ⟨b, off, spot⟩ := a
        have hspot : spot = none := by
          have := (World.cells?_some (hS 0 (by omega))).2.2 0 (by omega)
          simpa [Addr.add] using World.cell?_spot this
        subst hspot
        refine ⟨b, off, rfl, fun i hi => ?_⟩
        have hi' : i < len := by simpa using hi
        have k : ∀ q, q < 6 → w.cell? ⟨b, off + i * 6 + q, none⟩ = ((S i).enc)[q]? := fun q hq => by
          have := (World.cells?_some (hS i hi')).2.2 q hq
          rwa [Addr.add_lit, Addr.add_lit] at this
        have e : ((List.range len).map S)[i] = S i := by simp
        rw [e]
        exact ⟨k 0 (by omega), k 1 (by omega), k 2 (by omega), k 3 (by omega), k 4 (by omega), k 5 (by omega)⟩

theorem open_mem {r : Reach} {b0 : Nat} {v : Value} {d : DataW H} {p : List MemPlace} (hv : Value.okWide Try.prog w r b0 25 v) (h : DataW.Trod enc Try.prog w 0 (fun _ => true) true 25 v d p) (hz : ∀ n ∈ d.weights Try.prog 25, n ≤ reachBytes) : ∃ M, Ans 0 w v M := by
  obtain ⟨cs, rfl, hsz⟩ := okWide_struct Try.underlying25 hv
  obtain ⟨l⟩ := cs
  rw [cells29] at hsz
  match l, hsz with
  | [c0, c1, c2, c3, c4], _ =>
    obtain ⟨fuel, hf⟩ := h
    obtain ⟨y0, y1, y2, y3, y4, n, hx, _, h0, h1, h2, h3, h4⟩ := trod_struct5 Try.underlying25 hf
    simp only [Value.cells, cells27, cells24, cells3] at h0 h1 h2 h3 h4
    have hd : d = .agg [y0.1, y1.1, y2.1, y3.1, y4.1] := hx
    subst hd
    have hz' : ∀ n, n ∈ y0.1.weights Try.prog 22 ∨ n ∈ y1.1.weights Try.prog 23 ∨ n ∈ y2.1.weights Try.prog 23 ∨ n ∈ y3.1.weights Try.prog 23 → n ≤ reachBytes := fun n hn => hz n (by
      simp only [DataW.weights, Try.underlying25, DataW.weightsEach, List.map_cons, List.mem_append]
      rcases hn with h | h | h | h
      · exact .inl h
      · exact .inr (.inl h)
      · exact .inr (.inr (.inl h))
      · exact .inr (.inr (.inr (.inl h))))
    obtain ⟨S, aS, cS, rfl, rS⟩ := open_srow h0 (fun n hn => hz' n (.inl hn))
    obtain ⟨H, aH, cH, rfl, rH⟩ := open_irow h1 (fun n hn => hz' n (.inr (.inl hn)))
    obtain ⟨F, aF, cF, rfl, rF⟩ := open_irow h2 (fun n hn => hz' n (.inr (.inr (.inl hn))))
    obtain ⟨L, aL, cL, rfl, rL⟩ := open_irow h3 (fun n hn => hz' n (.inr (.inr (.inr hn))))
    obtain ⟨now, e, _⟩ := DataW.trod_int Try.underlying3 h4
    simp at e
    subst e
    exact ⟨⟨S, H, F, L, now⟩, aS, aH, aF, aL, cS, cH, cF, cL, rfl, ⟨rS, rH, rF, rL⟩, ⟨fun _ _ => Nat.zero_le _, fun _ _ => Nat.zero_le _, fun _ _ => Nat.zero_le _, fun _ _ => Nat.zero_le _⟩⟩





end Go.Proofs.Ytdbilofhcadmoab.mm

/- From what a row says of an argument to calls and frames that lie in the world. -/
namespace Go.Proofs.Ytdbilofhcadmoab.mm
open Go.ChangeShapes Go.WideShapes Go.ChangeAt Go.RowKit Go.Joins Go.Deep
set_option maxRecDepth 100000
set_option linter.unusedVariables false

theorem cellsCall : Try.prog.cellsOf 48 = 6 := by kernel_rfl
theorem cellsFrame : Try.prog.cellsOf 51 = 14 := by kernel_rfl
theorem cellsErr : Try.prog.cellsOf 27 = 1 := by kernel_rfl
theorem cellsKeys : Try.prog.cellsOf 49 = 1 := by kernel_rfl
theorem bytesKey : Try.prog.bytesOf 37 = 16 := by kernel_rfl

variable {H : Type} {enc : TypeId × Value → H} {w : World}

theorem trod_call {fuel : Nat} {cs : List Value} {x : DataW H × List MemPlace} (h : DataW.trod enc Try.prog w 0 (fun _ => true) true fuel 48 cs = some x) :
    ∃ c : Cl, cs = [.int .i64 c.kind, .int .i64 c.a, .int .i64 c.b, .int .i64 c.time, .int .i64 c.bk, .int .i64 c.slot] := by
  obtain ⟨y0, y1, y2, y3, y4, n, _, hl, h0, h1, h2, h3, h4⟩ := trod_struct5 Try.underlying48 h
  rw [cellsCall] at hl
  obtain ⟨c0, c1, c2, c3, c4, c5, rfl⟩ := six hl
  simp only [cells3, cells37] at h0 h1 h2 h3 h4
  obtain ⟨r, e0, _⟩ := DataW.trod_int Try.underlying3 h0
  obtain ⟨z0, z1, m, _, _, k0, k1⟩ := trod_struct2 Try.underlying37 h1
  simp only [cells3] at k0 k1
  obtain ⟨a, e1, _⟩ := DataW.trod_int Try.underlying3 k0
  obtain ⟨b, e2, _⟩ := DataW.trod_int Try.underlying3 k1
  obtain ⟨u, e3, _⟩ := DataW.trod_int Try.underlying3 h2
  obtain ⟨i, e4, _⟩ := DataW.trod_int Try.underlying3 h3
  obtain ⟨nx, e5, _⟩ := DataW.trod_int Try.underlying3 h4
  simp at e0 e1 e2 e3 e4 e5
  subst e0 e1 e2 e3 e4 e5
  exact ⟨⟨r, a, b, u, i, nx⟩, rfl⟩

theorem open_call {r : Reach} {b0 : Nat} {v : Value} {d : DataW H} {p : List MemPlace} (hv : Value.okWide Try.prog w r b0 48 v) (h : DataW.Trod enc Try.prog w 0 (fun _ => true) true 48 v d p) :
    ∃ c : Cl, v = .agg #[.int .i64 c.kind, .int .i64 c.a, .int .i64 c.b, .int .i64 c.time, .int .i64 c.bk, .int .i64 c.slot] := by
  obtain ⟨cs, rfl, hsz⟩ := okWide_struct Try.underlying48 hv
  obtain ⟨fuel, hf⟩ := h
  obtain ⟨c, hc⟩ := trod_call hf
  refine ⟨c, ?_⟩
  obtain ⟨l⟩ := cs
  have hc' : l = _ := hc
  rw [hc']

theorem trod_struct9 {P : Program} {base : Nat} {spare : Nat → Bool} {held : Bool} {t : TypeId} {f0 f1 f2 f3 f4 f5 f6 f7 f8 : Field} {fuel : Nat} {cs : List Value} {x : DataW H × List MemPlace} (ht : P.underlying t = some (.struct #[f0, f1, f2, f3, f4, f5, f6, f7, f8])) (h : DataW.trod enc P w base spare held fuel t cs = some x) :
    ∃ y0 y1 y2 y3 y4 y5 y6 y7 y8 n, x.1 = .agg [y0.1, y1.1, y2.1, y3.1, y4.1, y5.1, y6.1, y7.1, y8.1] ∧ cs.length = P.cellsOf t ∧ DataW.trod enc P w base spare held n f0.type ((cs.drop f0.offset).take (P.cellsOf f0.type)) = some y0 ∧
      DataW.trod enc P w base spare held n f1.type ((cs.drop f1.offset).take (P.cellsOf f1.type)) = some y1 ∧ DataW.trod enc P w base spare held n f2.type ((cs.drop f2.offset).take (P.cellsOf f2.type)) = some y2 ∧
      DataW.trod enc P w base spare held n f3.type ((cs.drop f3.offset).take (P.cellsOf f3.type)) = some y3 ∧ DataW.trod enc P w base spare held n f4.type ((cs.drop f4.offset).take (P.cellsOf f4.type)) = some y4 ∧
      DataW.trod enc P w base spare held n f5.type ((cs.drop f5.offset).take (P.cellsOf f5.type)) = some y5 ∧ DataW.trod enc P w base spare held n f6.type ((cs.drop f6.offset).take (P.cellsOf f6.type)) = some y6 ∧
      DataW.trod enc P w base spare held n f7.type ((cs.drop f7.offset).take (P.cellsOf f7.type)) = some y7 ∧ DataW.trod enc P w base spare held n f8.type ((cs.drop f8.offset).take (P.cellsOf f8.type)) = some y8 := by
  obtain ⟨xs, n, _, rfl, hl, hlen, hf⟩ := DataW.trod_struct ht h
  match xs, hlen with
  | [y0, y1, y2, y3, y4, y5, y6, y7, y8], _ => exact ⟨y0, y1, y2, y3, y4, y5, y6, y7, y8, n, by simp, hl, by simpa using hf 0 f0 rfl, by simpa using hf 1 f1 rfl, by simpa using hf 2 f2 rfl, by simpa using hf 3 f3 rfl, by simpa using hf 4 f4 rfl, by simpa using hf 5 f5 rfl, by simpa using hf 6 f6 rfl, by simpa using hf 7 f7 rfl, by simpa using hf 8 f8 rfl⟩

theorem open_key2 {fuel : Nat} {cs : List Value} {x : DataW H × List MemPlace} (h : DataW.trod enc Try.prog w 0 (fun _ => true) true fuel 37 cs = some x) : ∃ p : Int × Int, cs = [.int .i64 p.1, .int .i64 p.2] := by
  obtain ⟨z0, z1, m, _, hl, k0, k1⟩ := trod_struct2 Try.underlying37 h
  rw [cells37] at hl
  match cs, hl with
  | [c0, c1], _ =>
    simp only [cells3] at k0 k1
    obtain ⟨a, e1, _⟩ := DataW.trod_int Try.underlying3 k0
    obtain ⟨b, e2, _⟩ := DataW.trod_int Try.underlying3 k1
    simp at e1 e2
    subst e1 e2
    exact ⟨(a, b), rfl⟩

theorem open_krow {fuel : Nat} {c : Value} {x : DataW H × List MemPlace} (h : DataW.trod enc Try.prog w 0 (fun _ => true) true fuel 49 [c] = some x) (hz : ∀ n ∈ x.1.weights Try.prog 49, n ≤ reachBytes) :
    ∃ l ao cap, c = .slice ao l.length cap ∧ KRow w ao cap l := by
  rcases open_slice Try.underlying49 h with ⟨e, -⟩ | ⟨a, len, cap, m, n, D, Pl, e, hb, hl, hm, hmm, hx, hc⟩
  · simp at e
    exact ⟨[], none, 0, e, Nat.zero_le _, by decide, fun _ => rfl, .inl rfl⟩
  · simp at e hmm
    subst e hmm
    rw [cells37] at hc
    obtain ⟨S, hS⟩ := @choose_lt (Int × Int) ⟨(0, 0)⟩ len (fun i s => w.cells? 0 (a.add (i * 2)) 2 = some [.int .i64 s.1, .int .i64 s.2]) (fun i hi => by
      obtain ⟨cs', h1, h2⟩ := hc i (by omega)
      obtain ⟨s, rfl⟩ := open_key2 h2
      exact ⟨s, h1⟩)
    have hlt : ((List.range len).map S).length = len := by simp
    refine ⟨(List.range len).map S, some a, m, by rw [hlt], by omega, ?_, (fun h => by cases h), ?_⟩
    · rw [hx] at hz
      have := hz ((len + (m - len)) * 16) (by simp [DataW.weights, Try.underlying49, bytesKey])
      unfold reachBytes at this
      rw [hlt]
      omega
    · by_cases h0 : len = 0
      · left; omega
      · right
        obtain ⟨b, off, spot⟩ := a
        have hspot : spot = none := by
          have := (World.cells?_some (hS 0 (by omega))).2.2 0 (by omega)
          simpa [Addr.add] using World.cell?_spot this
        subst hspot
        refine ⟨b, off, rfl, fun i hi => ?_⟩
        have hi' : i < len := by simpa using hi
        have k : ∀ q, q < 2 → w.cell? ⟨b, off + i * 2 + q, none⟩ = ([.int .i64 (S i).1, .int .i64 (S i).2] : List Value)[q]? := fun q hq => by
          have := (World.cells?_some (hS i hi')).2.2 q hq
          rwa [Addr.add_lit, Addr.add_lit] at this
        have e : ((List.range len).map S)[i] = S i := by simp
        rw [e]
        exact ⟨k 0 (by omega), k 1 (by omega)⟩

theorem fourteen {cs : List Value} (h : cs.length = 14) : ∃ c0 c1 c2 c3 c4 c5 c6 c7 c8 c9 c10 c11 c12 c13, cs = [c0, c1, c2, c3, c4, c5, c6, c7, c8, c9, c10, c11, c12, c13] := by
  match cs, h with
  | [c0, c1, c2, c3, c4, c5, c6, c7, c8, c9, c10, c11, c12, c13], _ => exact ⟨_, _, _, _, _, _, _, _, _, _, _, _, _, _, rfl⟩

theorem open_frame {r : Reach} {b0 : Nat} {v : Value} {d : DataW H} {p : List MemPlace} (hv : Value.okWide Try.prog w r b0 51 v) (h : DataW.Trod enc Try.prog w 0 (fun _ => true) true 51 v d p) (hz : ∀ n ∈ d.weights Try.prog 51, n ≤ reachBytes) :
    ∃ (f : Fr) (aK : Option Addr) (cK : Nat), v = .agg #[.int .i64 f.c.kind, .int .i64 f.c.a, .int .i64 f.c.b, .int .i64 f.c.time, .int .i64 f.c.bk, .int .i64 f.c.slot, .int .i64 f.pl, .int .i64 f.cur, .int .i64 f.prev, .int .i64 f.slot, .int .i64 f.n, .slice aK f.keys.length cK, .bool f.done, .int .i64 f.e] ∧ KRow w aK cK f.keys := by
  obtain ⟨cs, rfl, hsz⟩ := okWide_struct Try.underlying51 hv
  obtain ⟨l⟩ := cs
  rw [cellsFrame] at hsz
  obtain ⟨c0, c1, c2, c3, c4, c5, c6, c7, c8, c9, c10, c11, c12, c13, rfl⟩ := fourteen hsz
  obtain ⟨fuel, hf⟩ := h
  obtain ⟨y0, y1, y2, y3, y4, y5, y6, y7, y8, n, hx, _, h0, h1, h2, h3, h4, h5, h6, h7, h8⟩ := trod_struct9 Try.underlying51 hf
  simp only [Value.cells, cellsCall, cells3, cells4, cellsErr, cellsKeys] at h0 h1 h2 h3 h4 h5 h6 h7 h8
  have hd : d = .agg [y0.1, y1.1, y2.1, y3.1, y4.1, y5.1, y6.1, y7.1, y8.1] := hx
  subst hd
  have hz' : ∀ n, n ∈ y6.1.weights Try.prog 49 → n ≤ reachBytes := fun n hn => hz n (by
    simp only [DataW.weights, Try.underlying51, DataW.weightsEach, List.map_cons, List.mem_append]
    exact .inr (.inr (.inr (.inr (.inr (.inr (.inl hn)))))))
  obtain ⟨c, ec⟩ := trod_call h0
  obtain ⟨pl, e1, _⟩ := DataW.trod_int Try.underlying3 h1
  obtain ⟨cur, e2, _⟩ := DataW.trod_int Try.underlying3 h2
  obtain ⟨prev, e3, _⟩ := DataW.trod_int Try.underlying3 h3
  obtain ⟨slot, e4, _⟩ := DataW.trod_int Try.underlying3 h4
  obtain ⟨nn, e5, _⟩ := DataW.trod_int Try.underlying3 h5
  obtain ⟨K, aK, cK, e6, rK⟩ := open_krow h6 hz'
  obtain ⟨dn, e7, _⟩ := DataW.trod_bool Try.underlying4 h7
  obtain ⟨ee, e8, _⟩ := DataW.trod_int Try.underlying27 h8
  simp at ec e1 e2 e3 e4 e5 e7 e8
  obtain ⟨rfl, rfl, rfl, rfl, rfl, rfl⟩ := ec
  subst e1 e2 e3 e4 e5 e6 e7 e8
  exact ⟨⟨c, pl, cur, prev, slot, nn, K, dn, ee⟩, aK, cK, rfl, rK⟩




end Go.Proofs.Ytdbilofhcadmoab.mm

/- A frame that is handed in: its keys lie in what is there. A step's frame, and boxes beside a change. -/
namespace Go.Proofs.Ytdbilofhcadmoab.mm
open Go.ChangeShapes Go.WideShapes Go.ChangeAt Go.RowKit Go.Joins Go.Deep
set_option maxRecDepth 100000
set_option linter.unusedVariables false

/- The frame with a Look in it. -/
def lookFr (f : Fr) : Fr := { f with c := { f.c with kind := 1 } }

theorem frame_low {w : World} {r : Reach} {b0 : Nat} {v0 v1 v2 v3 v4 v5 v6 v7 v8 v9 v10 v12 v13 : Value} {aK : Option Addr} {n c : Nat} (hv : Value.okWide Try.prog w r b0 51 (.agg #[v0, v1, v2, v3, v4, v5, v6, v7, v8, v9, v10, .slice aK n c, v12, v13])) : ∀ ad, aK = some ad → ad.block < w.heap.size := by
  rintro ad rfl
  unfold Value.okWide at hv
  rw [Try.underlying51] at hv
  obtain ⟨cs, e, -, ts, hts, -, hall⟩ := hv
  injection e with e
  subst e
  have h11 : (Try.prog.cellTypes Try.prog.depth 51).map (fun ts => ts[11 % ts.length]?) = some (some 49) := by kernel_rfl
  rw [hts] at h11
  have h12 : ts[11 % ts.length]? = some 49 := by simpa using h11
  obtain ⟨u, hu, hc⟩ := hall 11 _ rfl
  rw [h12] at hu
  injection hu with hu
  subst hu
  unfold Cell.okWide at hc
  rw [Try.underlying49] at hc
  have hc' : Cell.ok Try.prog w r b0 49 (.slice (some ad) n c) := hc
  unfold Cell.ok at hc'
  rw [Try.underlying49] at hc'
  obtain ⟨_, _, _, _, row, cells, hs, _⟩ := hc'
  unfold World.shape? at hs
  by_cases h : ad.block < w.heap.size
  · exact h
  · rw [Array.getElem?_eq_none (by omega)] at hs
    simp at hs

theorem Env.fine {w0 w w' : World} {L : List (Nat × Obj)} {Z : Nat → Prop} (E : Env w0 w L []) (hf : Fine w w' Z) (hz : ∀ k, Z k → w0.heap.size ≤ k) (hL : ∀ p ∈ L, ¬ Z p.1) : Env w0 w' L [] :=
  ⟨E.bl.trans (hf.down E.bl.size hz), fun p hp => (hf.block p.1 (by
    have := E.box p hp
    exact (Array.getElem?_eq_some_iff.1 this).1) (hL p hp)).trans (E.box p hp), fun p hp => by cases hp⟩

theorem Mine.foot {w : World} {B lo n : Nat} {aS aH aF aL : Option Addr} {cS cH cF cL : Nat} {M : Mm} (m : Mine w B lo aS aH aF aL cS cH cF cL M) (h1 : n ≤ B) (h2 : n ≤ lo) : ∀ k, Foot B aS aH aF aL k → n ≤ k := by
  rintro k (rfl | ⟨ad, rfl, rfl⟩ | ⟨ad, rfl, rfl⟩ | ⟨ad, rfl, rfl⟩ | ⟨ad, rfl, rfl⟩)
  · exact h1
  · exact Nat.le_trans h2 (m.c.s.lt _ rfl).1
  · exact Nat.le_trans h2 (m.c.h.lt _ rfl).1
  · exact Nat.le_trans h2 (m.c.f.lt _ rfl).1
  · exact Nat.le_trans h2 (m.c.l.lt _ rfl).1



end Go.Proofs.Ytdbilofhcadmoab.mm

/- Two memories of one's own, made in one row of the program, in whatever order its parts are reckoned. -/
namespace Go.Proofs.Ytdbilofhcadmoab.mm
open Go.ChangeShapes Go.WideShapes Go.ChangeAt Go.RowKit Go.Joins
set_option maxRecDepth 100000
set_option linter.unusedVariables false

def Rows4 (aS aH aF aL : Option Addr) (k : Nat) : Prop :=
  (∃ ad, aS = some ad ∧ ad.block = k) ∨ (∃ ad, aH = some ad ∧ ad.block = k) ∨ (∃ ad, aF = some ad ∧ ad.block = k) ∨ (∃ ad, aL = some ad ∧ ad.block = k)
theorem Rw.rows {w : World} {lo : Nat} {aS aH aF aL : Option Addr} {cS cH cF cL : Nat} {M : Mm} (r : Rw w lo aS aH aF aL cS cH cF cL M) : ∀ k, Rows4 aS aH aF aL k → lo ≤ k ∧ k < w.heap.size := by
  rintro k (⟨ad, rfl, rfl⟩ | ⟨ad, rfl, rfl⟩ | ⟨ad, rfl, rfl⟩ | ⟨ad, rfl, rfl⟩)
  · exact r.s.lt _ rfl
  · exact r.h.lt _ rfl
  · exact r.f.lt _ rfl
  · exact r.l.lt _ rfl
theorem Rw.low {w : World} {lo n : Nat} {aS aH aF aL : Option Addr} {cS cH cF cL : Nat} {M : Mm} (r : Rw w lo aS aH aF aL cS cH cF cL M) (h : n ≤ lo) : Rw w n aS aH aF aL cS cH cF cL M :=
  ⟨ownsRow_le r.s h, ownsRow_le r.h h, ownsRow_le r.f h, ownsRow_le r.l h, r.hf, r.hl, r.fl, Nat.le_trans h r.lz⟩

/- A value that is memory of one's own, its rows within Z. -/
def Got (W : World) (lo : Nat) (M : Mm) (Z : Nat → Prop) (v : Value) : Prop :=
  ∃ xS xH xF xL kS kH kF kL, v = .agg #[.slice xS M.slots.length kS, .slice xH M.heads.length kH, .slice xF M.free.length kF, .slice xL M.locks.length kL, .int .i64 M.now] ∧ Rw W lo xS xH xF xL kS kH kF kL M ∧ ∀ k, Rows4 xS xH xF xL k → Z k
theorem Got.below {W W' : World} {lo : Nat} {M : Mm} {Z : Nat → Prop} {v : Value} (g : Got W lo M Z v) (hb : Below W.heap.size W W') : Got W' lo M Z v := by
  obtain ⟨xS, xH, xF, xL, kS, kH, kF, kL, e, r, h⟩ := g
  exact ⟨xS, xH, xF, xL, kS, kH, kF, kL, e, r.below hb, h⟩
theorem Got.set5 {W : World} {lo B : Nat} {M : Mm} {Z : Nat → Prop} {v u0 u1 u2 u3 u4 : Value} (g : Got W lo M Z v) (hB : W.heap[B]? = some (.cells #[u0, u1, u2, u3, u4] 25 (0, 0))) (v0 v1 v2 v3 v4 : Value) : Got (set5 W B v0 v1 v2 v3 v4) lo M Z v := by
  obtain ⟨xS, xH, xF, xL, kS, kH, kF, kL, e, r, h⟩ := g
  exact ⟨xS, xH, xF, xL, kS, kH, kF, kL, e, r.set5 hB _ _ _ _ _, h⟩

def zeroTw : Obj := .cells #[.slice none 0 0, .slice none 0 0, .slice none 0 0, .slice none 0 0, .int .i64 0] 25 (0, 0)
def boxO (v : Value) : Obj := match v with
  | .agg cs => .cells cs 25 (0, 0)
  | _ => zeroTw
def updZ (Z : Nat → Nat → Prop) (i : Nat) (S : Nat → Prop) : Nat → Nat → Prop := fun j => if j = i then S else Z j
def New (W W' : World) (k : Nat) : Prop := W.heap.size ≤ k ∧ k < W'.heap.size

structure Tw (w2 : World) (M : Mm) (mv : Value) (L : Nat → Bool) (x : Nat → Value) (Z : Nat → Nat → Prop) (W : World) : Prop where
  bl : Below w2.heap.size w2 W
  rng : ∀ i k, Z i k → w2.heap.size ≤ k ∧ k < W.heap.size
  dj : ∀ i j k, Z i k → Z j k → i = j
  p0 : L 0 = true → x 18 = mv
  p2 : L 2 = true → x 20 = mv
  p1 : L 1 = true → Got W w2.heap.size M (Z 1) (x 19)
  p3 : L 3 = true → Got W w2.heap.size M (Z 3) (x 21)
  p4 : L 4 = true → ∃ B, x 5 = .pointer (some ⟨B, 0, none⟩) ∧ Z 4 B ∧ (L 6 = false → W.heap[B]? = some zeroTw) ∧ (L 6 = true → W.heap[B]? = some (boxO (x 19)))
  p5 : L 5 = true → ∃ B, x 6 = .pointer (some ⟨B, 0, none⟩) ∧ Z 5 B ∧ (L 7 = false → W.heap[B]? = some zeroTw) ∧ (L 7 = true → W.heap[B]? = some (boxO (x 21)))
  e6 : L 6 = true → L 1 = true ∧ L 4 = true
  e7 : L 7 = true → L 3 = true ∧ L 5 = true

section
variable {w2 W W' : World} {M : Mm} {mv v : Value} {L : Nat → Bool} {x : Nat → Value} {Z : Nat → Nat → Prop}

theorem Tw.start (hb : Below w2.heap.size w2 W) : Tw w2 M mv (fun _ => false) x (fun _ _ => False) W :=
  ⟨hb, (fun i k h => h.elim), (fun i j k h => h.elim), (fun h => by cases h), (fun h => by cases h), (fun h => by cases h), (fun h => by cases h), (fun h => by cases h), (fun h => by cases h), (fun h => by cases h), (fun h => by cases h)⟩

theorem box_below {B : Nat} {o : Obj} (h : W.heap[B]? = some o) (hb : Below W.heap.size W W') : W'.heap[B]? = some o := (hb.block B (lt_of_block h)).trans h

theorem tw_rng (T : Tw w2 M mv L x Z W) (hb : Below W.heap.size W W') (i : Nat) : ∀ j k, updZ Z i (New W W') j k → w2.heap.size ≤ k ∧ k < W'.heap.size := by
  intro j k h
  unfold updZ at h
  split at h
  · exact ⟨Nat.le_trans T.bl.size h.1, h.2⟩
  · exact ⟨(T.rng j k h).1, Nat.lt_of_lt_of_le (T.rng j k h).2 hb.size⟩
theorem tw_dj (T : Tw w2 M mv L x Z W) (i : Nat) : ∀ j l k, updZ Z i (New W W') j k → updZ Z i (New W W') l k → j = l := by
  intro j l k h1 h2
  unfold updZ at h1 h2
  split at h1 <;> split at h2
  · subst_vars; rfl
  · have := (T.rng l k h2).2; have := h1.1; omega
  · have := (T.rng j k h1).2; have := h2.1; omega
  · exact T.dj j l k h1 h2

theorem Tw.a0 (T : Tw w2 M mv L x Z W) : Tw w2 M mv (upd L 0) (updv x 18 mv) Z W :=
  ⟨T.bl, T.rng, T.dj, (fun _ => rfl), T.p2, T.p1, T.p3, T.p4, T.p5, T.e6, T.e7⟩
theorem Tw.a2 (T : Tw w2 M mv L x Z W) : Tw w2 M mv (upd L 2) (updv x 20 mv) Z W :=
  ⟨T.bl, T.rng, T.dj, T.p0, (fun _ => rfl), T.p1, T.p3, T.p4, T.p5, T.e6, T.e7⟩

theorem Tw.a1 (T : Tw w2 M mv L x Z W) (h1 : L 1 = false) (hb : Below W.heap.size W W') (g : Got W' W.heap.size M (fun _ => True) v) : Tw w2 M mv (upd L 1) (updv x 19 v) (updZ Z 1 (New W W')) W' := by
  have h6 : L 6 = false := by
    cases h : L 6
    · rfl
    · have := (T.e6 h).1; rw [h1] at this; cases this
  refine ⟨T.bl.trans (hb.mono T.bl.size), tw_rng T hb 1, tw_dj T 1, T.p0, T.p2, fun _ => ?_, fun h => (T.p3 h).below hb, fun h => ?_, fun h => ?_, (fun h => by have h' : L 6 = true := h; rw [h6] at h'; cases h'), T.e7⟩
  · obtain ⟨xS, xH, xF, xL, kS, kH, kF, kL, e, r, -⟩ := g
    exact ⟨xS, xH, xF, xL, kS, kH, kF, kL, e, r.low T.bl.size, fun k hk => r.rows k hk⟩
  · obtain ⟨B, e, hz, i1, i2⟩ := T.p4 h
    exact ⟨B, e, hz, (fun h' => box_below (i1 h') hb), fun h' => by have h'' : L 6 = true := h'; rw [h6] at h''; cases h''⟩
  · obtain ⟨B, e, hz, i1, i2⟩ := T.p5 h
    exact ⟨B, e, hz, (fun h' => box_below (i1 h') hb), fun h' => box_below (i2 h') hb⟩
theorem Tw.a3 (T : Tw w2 M mv L x Z W) (h3 : L 3 = false) (hb : Below W.heap.size W W') (g : Got W' W.heap.size M (fun _ => True) v) : Tw w2 M mv (upd L 3) (updv x 21 v) (updZ Z 3 (New W W')) W' := by
  have h7 : L 7 = false := by
    cases h : L 7
    · rfl
    · have := (T.e7 h).1; rw [h3] at this; cases this
  refine ⟨T.bl.trans (hb.mono T.bl.size), tw_rng T hb 3, tw_dj T 3, T.p0, T.p2, fun h => (T.p1 h).below hb, fun _ => ?_, fun h => ?_, fun h => ?_, T.e6, (fun h => by have h' : L 7 = true := h; rw [h7] at h'; cases h')⟩
  · obtain ⟨xS, xH, xF, xL, kS, kH, kF, kL, e, r, -⟩ := g
    exact ⟨xS, xH, xF, xL, kS, kH, kF, kL, e, r.low T.bl.size, fun k hk => r.rows k hk⟩
  · obtain ⟨B, e, hz, i1, i2⟩ := T.p4 h
    exact ⟨B, e, hz, (fun h' => box_below (i1 h') hb), fun h' => box_below (i2 h') hb⟩
  · obtain ⟨B, e, hz, i1, i2⟩ := T.p5 h
    exact ⟨B, e, hz, (fun h' => box_below (i1 h') hb), fun h' => by have h'' : L 7 = true := h'; rw [h7] at h''; cases h''⟩
theorem Tw.a4 (T : Tw w2 M mv L x Z W) (h4 : L 4 = false) : Tw w2 M mv (upd L 4) (updv x 5 (.pointer (some ⟨W.heap.size, 0, none⟩))) (updZ Z 4 (New W (W.alloc zeroTw))) (W.alloc zeroTw) := by
  have hb := one_below W zeroTw
  have h6 : L 6 = false := by
    cases h : L 6
    · rfl
    · have := (T.e6 h).2; rw [h4] at this; cases this
  refine ⟨T.bl.trans (hb.mono T.bl.size), tw_rng T hb 4, tw_dj T 4, T.p0, T.p2, fun h => (T.p1 h).below hb, fun h => (T.p3 h).below hb, fun _ => ?_, fun h => ?_, (fun h => by have h' : L 6 = true := h; rw [h6] at h'; cases h'), T.e7⟩
  · exact ⟨W.heap.size, rfl, ⟨Nat.le_refl _, lt_of_block (heap_alloc_new W zeroTw)⟩, (fun _ => heap_alloc_new W zeroTw), fun h' => by have h'' : L 6 = true := h'; rw [h6] at h''; cases h''⟩
  · obtain ⟨B, e, hz, i1, i2⟩ := T.p5 h
    exact ⟨B, e, hz, (fun h' => box_below (i1 h') hb), fun h' => box_below (i2 h') hb⟩
theorem Tw.a5 (T : Tw w2 M mv L x Z W) (h5 : L 5 = false) : Tw w2 M mv (upd L 5) (updv x 6 (.pointer (some ⟨W.heap.size, 0, none⟩))) (updZ Z 5 (New W (W.alloc zeroTw))) (W.alloc zeroTw) := by
  have hb := one_below W zeroTw
  have h7 : L 7 = false := by
    cases h : L 7
    · rfl
    · have := (T.e7 h).2; rw [h5] at this; cases this
  refine ⟨T.bl.trans (hb.mono T.bl.size), tw_rng T hb 5, tw_dj T 5, T.p0, T.p2, fun h => (T.p1 h).below hb, fun h => (T.p3 h).below hb, fun h => ?_, fun _ => ?_, T.e6, (fun h => by have h' : L 7 = true := h; rw [h7] at h'; cases h')⟩
  · obtain ⟨B, e, hz, i1, i2⟩ := T.p4 h
    exact ⟨B, e, hz, (fun h' => box_below (i1 h') hb), fun h' => box_below (i2 h') hb⟩
  · exact ⟨W.heap.size, rfl, ⟨Nat.le_refl _, lt_of_block (heap_alloc_new W zeroTw)⟩, (fun _ => heap_alloc_new W zeroTw), fun h' => by have h'' : L 7 = true := h'; rw [h7] at h''; cases h''⟩

theorem tw_other {B k : Nat} (h : k ≠ B) (v0 v1 v2 v3 v4 : Value) : (set5 W B v0 v1 v2 v3 v4).heap[k]? = W.heap[k]? := set5_other h
theorem tw_size {B : Nat} (v0 v1 v2 v3 v4 : Value) : (set5 W B v0 v1 v2 v3 v4).heap.size = W.heap.size := set5_size _ _ _ _ _ _ _
theorem tw_below {B n : Nat} (h : n ≤ B) (v0 v1 v2 v3 v4 : Value) : Below n W (set5 W B v0 v1 v2 v3 v4) := set5_below _ _ _ _ _ _ _ _ h

theorem Tw.a6 {B : Nat} {v0 v1 v2 v3 v4 : Value} (T : Tw w2 M mv L x Z W) (g1 : L 1 = true) (g4 : L 4 = true) (h6 : L 6 = false) (hB : x 5 = .pointer (some ⟨B, 0, none⟩)) (hv : x 19 = .agg #[v0, v1, v2, v3, v4]) : Tw w2 M mv (upd L 6) x Z (set5 W B v0 v1 v2 v3 v4) := by
  obtain ⟨B', e, hz, i1, -⟩ := T.p4 g4
  rw [hB] at e
  injection e with e; injection e with e; injection e with e
  subst e
  have hz0 := i1 h6
  refine ⟨T.bl.trans (tw_below (T.rng 4 B hz).1 _ _ _ _ _), fun i k h => by rw [tw_size]; exact T.rng i k h, T.dj, T.p0, T.p2, fun h => (T.p1 h).set5 hz0 _ _ _ _ _, fun h => (T.p3 h).set5 hz0 _ _ _ _ _, fun _ => ?_, fun h => ?_, fun _ => ⟨g1, g4⟩, T.e7⟩
  · refine ⟨B, hB, hz, (fun h => by cases h), fun _ => ?_⟩
    rw [hv]
    exact set5_block hz0 _ _ _ _ _
  · obtain ⟨B5, e5, hz5, j1, j2⟩ := T.p5 h
    have hne : B5 ≠ B := by rintro rfl; have := T.dj 4 5 _ hz hz5; omega
    exact ⟨B5, e5, hz5, (fun h' => (tw_other hne _ _ _ _ _).trans (j1 h')), fun h' => (tw_other hne _ _ _ _ _).trans (j2 h')⟩
theorem Tw.a7 {B : Nat} {v0 v1 v2 v3 v4 : Value} (T : Tw w2 M mv L x Z W) (g3 : L 3 = true) (g5 : L 5 = true) (h7 : L 7 = false) (hB : x 6 = .pointer (some ⟨B, 0, none⟩)) (hv : x 21 = .agg #[v0, v1, v2, v3, v4]) : Tw w2 M mv (upd L 7) x Z (set5 W B v0 v1 v2 v3 v4) := by
  obtain ⟨B', e, hz, i1, -⟩ := T.p5 g5
  rw [hB] at e
  injection e with e; injection e with e; injection e with e
  subst e
  have hz0 := i1 h7
  refine ⟨T.bl.trans (tw_below (T.rng 5 B hz).1 _ _ _ _ _), fun i k h => by rw [tw_size]; exact T.rng i k h, T.dj, T.p0, T.p2, fun h => (T.p1 h).set5 hz0 _ _ _ _ _, fun h => (T.p3 h).set5 hz0 _ _ _ _ _, fun h => ?_, fun _ => ?_, T.e6, fun _ => ⟨g3, g5⟩⟩
  · obtain ⟨B5, e5, hz5, j1, j2⟩ := T.p4 h
    have hne : B5 ≠ B := by rintro rfl; have := T.dj 4 5 _ hz5 hz; omega
    exact ⟨B5, e5, hz5, (fun h' => (tw_other hne _ _ _ _ _).trans (j1 h')), fun h' => (tw_other hne _ _ _ _ _).trans (j2 h')⟩
  · refine ⟨B, hB, hz, (fun h => by cases h), fun _ => ?_⟩
    rw [hv]
    exact set5_block hz0 _ _ _ _ _

/- In the end there are two boxes, with a memory of one's own in each, apart from each other. -/
theorem Tw.fin (T : Tw w2 M mv L x Z W) (g6 : L 6 = true) (g7 : L 7 = true)
    (m1 : M.slots.length * 48 ≤ 140737488351232) (m2 : M.heads.length * 8 ≤ 140737488351232) (m3 : M.free.length * 8 ≤ 140737488351000) (m4 : M.locks.length * 8 ≤ 140737488351232) :
    ∃ Bx By xS xH xF xL kS kH kF kL yS yH yF yL jS jH jF jL, x 5 = .pointer (some ⟨Bx, 0, none⟩) ∧ x 6 = .pointer (some ⟨By, 0, none⟩) ∧ Mine W Bx w2.heap.size xS xH xF xL kS kH kF kL M ∧ Mine W By w2.heap.size yS yH yF yL jS jH jF jL M ∧
      (∀ k, Foot Bx xS xH xF xL k → w2.heap.size ≤ k) ∧ (∀ k, Foot By yS yH yF yL k → w2.heap.size ≤ k ∧ ¬ Foot Bx xS xH xF xL k) := by
  obtain ⟨g1, g4⟩ := T.e6 g6
  obtain ⟨g3, g5⟩ := T.e7 g7
  obtain ⟨xS, xH, xF, xL, kS, kH, kF, kL, ex, rx, hx⟩ := T.p1 g1
  obtain ⟨yS, yH, yF, yL, jS, jH, jF, jL, ey, ry, hy⟩ := T.p3 g3
  obtain ⟨Bx, e5, z5, -, b5⟩ := T.p4 g4
  obtain ⟨By, e6, z6, -, b6⟩ := T.p5 g5
  have b5' := b5 g6
  have b6' := b6 g7
  rw [ex] at b5'
  rw [ey] at b6'
  have fx : ∀ k, Foot Bx xS xH xF xL k → Z 4 k ∨ Z 1 k := by
    rintro k (rfl | h)
    · exact .inl z5
    · exact .inr (hx k h)
  have fy : ∀ k, Foot By yS yH yF yL k → Z 5 k ∨ Z 3 k := by
    rintro k (rfl | h)
    · exact .inl z6
    · exact .inr (hy k h)
  refine ⟨Bx, By, xS, xH, xF, xL, kS, kH, kF, kL, yS, yH, yF, yL, jS, jH, jF, jL, e5, e6, ⟨b5', rx, m1, m2, m3, m4⟩, ⟨b6', ry, m1, m2, m3, m4⟩, fun k h => ?_, fun k h => ⟨?_, fun h' => ?_⟩⟩
  · rcases fx k h with h | h
    · exact (T.rng _ k h).1
    · exact (T.rng _ k h).1
  · rcases fy k h with h | h
    · exact (T.rng _ k h).1
    · exact (T.rng _ k h).1
  · rcases fy k h with h | h <;> rcases fx k h' with h' | h'
    · have := T.dj _ _ k h h'; omega
    · have := T.dj _ _ k h h'; omega
    · have := T.dj _ _ k h h'; omega
    · have := T.dj _ _ k h h'; omega
end

theorem wp_region_at {P : Program} {ops : Array Oper} {Q : Exit → Act → World → Prop} {id : Nat} {a : Act} {w : World} (hm : P.follows .mixedOrders = true) (mk : (Nat → Value) → Act) (ha : a = mk fun k => a.tmps.getD k undef) (J : (Nat → Value) → Array Bool → (Nat → Value) → World → Prop)
    (start : J (fun k => a.tmps.getD k undef) (Array.replicate ops.size false) (fun k => a.tmps.getD k undef) { w with drawn := w.drawn + 1 })
    (step : ∀ listed x W i, i ∈ Region.ready .any ops listed → J (fun k => a.tmps.getD k undef) listed x W → wpOp P ops Q i (fun a' W' => ∃ x', a' = mk x' ∧ J (fun k => a.tmps.getD k undef) (listed.setIfInBounds i true) x' W') (mk x) W)
    (fin : ∀ listed x W, Region.ready .any ops listed = [] → J (fun k => a.tmps.getD k undef) listed x W → Q .normal (mk x) W) : (Code.region id ops true).wp P Q a w :=
  wp_region_inv hm (fun l a' W => ∃ x, a' = mk x ∧ J (fun k => a.tmps.getD k undef) l x W) ⟨_, ha, start⟩ (by rintro l a' W i hi ⟨x, rfl, hJ⟩; exact step l x W i hi hJ) (by rintro l a' W hr ⟨x, rfl, hJ⟩; exact fin l x W hr hJ)

theorem wpOp_in {P : Program} {ops : Array Oper} {Q : Exit → Act → World → Prop} {i : Nat} {o : Oper} {a : Act} {w : World} {f : Nat} {args : Array Value} {K : Act → World → Prop} (hi : ops[i]? = some o) (hg : o.guard = none)
    (hr : (execOp a.eval o).run P w = .ok (.enter f args) w) (h : Calls P f args w fun e w' => ∃ v, e = .returned v ∧ K (a.put o.dst v) w') : wpOp P ops Q i K a w := by
  refine wpOp_step hi fun K' hK => ?_
  have hw : Region.wanted o (yielded ops a.tmps) = true := by unfold Region.wanted; rw [hg]
  rw [if_pos hw]
  unfold Oper.wp
  rw [hr]
  refine Calls.mono h ?_
  rintro e w' ⟨v, rfl, hv⟩
  exact hK _ _ hv

/- What a region's walk carries: what has come up, and what no operation changes. -/
def Jt (w2 : World) (M : Mm) (mv : Value) (b : Nat → Value) (listed : Array Bool) (x : Nat → Value) (W : World) : Prop :=
  listed.size = 8 ∧ (∀ k, k ∉ [5, 6, 18, 19, 20, 21] → x k = b k) ∧ ∃ Z, Tw w2 M mv (fun i => listed.getD i false) x Z W
theorem Jt.next {w2 W W' : World} {M : Mm} {mv : Value} {b : Nat → Value} {listed : Array Bool} {x x' : Nat → Value} {Z : Nat → Nat → Prop} (J : Jt w2 M mv b listed x W) (i : Nat) (hi : i < 8) (hx : ∀ k, k ∉ [5, 6, 18, 19, 20, 21] → x' k = x k) (T : Tw w2 M mv (upd (fun k => listed.getD k false) i) x' Z W') : Jt w2 M mv b (listed.setIfInBounds i true) x' W' := by
  refine ⟨by simpa using J.1, fun k hk => (hx k hk).trans (J.2.1 k hk), Z, ?_⟩
  have e : (fun k => (listed.setIfInBounds i true).getD k false) = upd (fun k => listed.getD k false) i := by
    funext k
    have := J.1
    by_cases hk : k = i
    · subst hk
      simp [upd, Array.getD_eq_getD_getElem?, J.1, hi]
    · have hk' : ¬ i = k := fun e => hk e.symm
      simp [upd, hk, Array.getD_eq_getD_getElem?, hk']
  rw [e]
  exact T
theorem updv_out {x : Nat → Value} {d : Nat} {v : Value} (hd : d ∈ [5, 6, 18, 19, 20, 21]) : ∀ k, k ∉ [5, 6, 18, 19, 20, 21] → updv x d v k = x k := by
  intro k hk
  unfold updv
  rw [if_neg]
  rintro rfl
  exact hk hd



end Go.Proofs.Ytdbilofhcadmoab.mm
