/- The contract of the document's own SweepStep: a key is put behind the keys. -/
import Derived.Test.YtdbilofhcadmoacC07
import Derived.Test.YtdbilofhcadmoacC08
import Derived.Test.YtdbilofhcadmoacC15
import Derived.Test.YtdbilofhcadmoacC24
import Derived.Test.YtdbilofhcadmoacS01
import Derived.Deep.RegionLaw
import Derived.Laws.AppendOwnNone
import Derived.BigRegion
import Derived.Deep.QuietTactic
import Derived.BigQuiet
import Derived.Lib.QuietBelow
namespace Go.Proofs.Ytdbilofhcadmoac.mm
open Go.ChangeShapes Go.WideShapes Go.ChangeAt Go.RowKit Go.Joins Go.Deep Go.Sort
set_option maxRecDepth 100000
set_option linter.unusedVariables false

theorem step_append_keys {ops : Array Oper} {o : Oper} {a : Act} {w : World} {K : Act → World → Prop} {Q : Exit → Act → World → Prop} {E : Prop} (hgd : o.guard = none) (s x : Operand)
    (ho : o.op = .call { callee := .builtin .append, args := #[s, x], argTypes := #[30, 30] })
    (base : Nat) (v : Value) (n : Nat) (xs : List Value) (hs : a.eval s = v) (hown : w.ownsRow base 27 2 v n xs)
    (ao : Option Addr) (cap : Nat) (l : List (Int × Int)) (hx : a.eval x = .slice ao l.length cap) (hrow : KRow w ao cap l) (h63 : n + l.length ≤ 1000) (hbase : base ≤ w.heap.size)
    (h : ∀ v' w', w'.ownsRow base 27 2 v' (n + l.length) (xs ++ encK l) → w.grownBy w' v.ownBlock → (v'.ownBlock = v.ownBlock ∨ v'.ownBlock = some w.heap.size) → K (a.put o.dst v') w') :
    if Region.wanted o (yielded ops a.tmps) = true then Oper.wp Try.prog o a w K Q else E := by
  obtain ⟨i0, hi, hz0, hz1, hz2⟩ := info_parts iK
  have hw : Region.wanted o (yielded ops a.tmps) = true := by simp [Region.wanted, hgd]
  rw [if_pos hw]
  have hrun : ∃ v' w', (Builtin.append_ #[30, 30] o.type #[v, .slice ao l.length cap]).run Try.prog w = .ok v' w' ∧ w'.ownsRow base 27 2 v' (n + l.length) (xs ++ encK l) ∧ w.grownBy w' v.ownBlock ∧ (v'.ownBlock = v.ownBlock ∨ v'.ownBlock = some w.heap.size) := by
    cases ao with
    | none =>
      have hc := hrow.nil rfl
      have hl := hrow.le
      have hl0 : l.length = 0 := by omega
      have hn := List.eq_nil_of_length_eq_zero hl0
      subst hn hc
      exact ⟨v, w, run_append_owned_none w base 30 o.type 27 i0 2 Try.underlying30 hi v n xs hown, by simpa [encK] using hown, ⟨rfl, rfl, rfl, Nat.le_refl _, fun _ _ _ => rfl⟩, .inl rfl⟩
    | some ad =>
      obtain ⟨v', w', hr, h2, h3, -, h5⟩ := run_append_own_at (P := Try.prog) w base 30 o.type 27 i0 (.agg #[.int .i64 0, .int .i64 0]) 2 16 Try.underlying30 hi hz0 hz1 hz2 rfl (by decide) v n xs hown ad l.length cap (encK l) (by rw [encK_len]) (hrow.src ad rfl) (encK_one l) (by unfold maxLen; omega) (by omega) hbase
      exact ⟨v', w', hr, h2, h3, h5⟩
  obtain ⟨v', w', hr, h2, h3, h5⟩ := hrun
  unfold Oper.wp execOp
  simp only [ho, resolve, invoke, builtin, Sem.run_bind, Sem.run_pure, Result.andThen_ok, List.map_toArray, List.map_cons, List.map_nil, hs, hx, hr]
  exact h v' w' h2 h3 h5
theorem Lk.keys {w w1 : World} {B lo : Nat} {aS aH aF aL : Option Addr} {cS cH cF cL : Nat} {M : Mm} {f : Fr} {aK : Option Addr} {cK : Nat} (h : Lk w w1 B lo aS aH aF aL cS cH cF cL M f aK cK) (l : List (Int × Int)) (n : Nat) (hn : l.length = n) (a : Option Addr) (c : Nat) :
    Lk w (w1.setCell ⟨w.heap.size, 11, none⟩ (.slice a n c)) B lo aS aH aF aL cS cH cF cL M { f with keys := l } a c := by
  subst hn
  refine ⟨h.bl.setCell (by simp) _, h.m.same (by simp) (fun k _ hk => ?_), h.lt, ?_, by rw [Below.heap_setCell _ _ _ _ (by dsimp only; omega)]; exact h.zb⟩
  · have := h.lt k hk
    rw [Below.heap_setCell _ _ _ _ (by dsimp only; omega)]
  · rw [block_setCell h.fb]; rfl
def actL (x : Nat → Value) : Act := ⟨#[x 0, x 1, x 2, x 3, x 4, x 5, x 6, x 7, x 8, x 9, x 10, x 11, x 12, x 13, x 14, x 15, x 16, x 17, x 18, x 19, x 20, x 21, x 22, x 23, x 24, x 25, x 26, x 27, x 28, x 29, x 30, x 31, x 32, x 33, x 34, x 35, x 36, x 37, x 38, x 39, x 40, x 41, x 42, x 43, x 44, x 45, x 46, x 47, x 48, x 49, x 50, x 51, x 52, x 53, x 54, x 55, x 56, x 57, x 58, x 59, x 60, x 61, x 62, x 63, x 64, x 65, x 66, x 67, x 68, x 69, x 70, x 71, x 72, x 73, x 74, x 75, x 76, x 77, x 78, x 79, x 80, x 81, x 82, x 83, x 84, x 85, x 86, x 87, x 88, x 89, x 90, x 91, x 92, x 93, x 94, x 95, x 96, x 97, x 98, x 99, x 100, x 101, x 102, x 103, x 104, x 105, x 106, x 107, x 108, x 109, x 110, x 111, x 112, x 113, x 114, x 115, x 116, x 117, x 118, x 119, x 120, x 121, x 122, x 123, x 124, x 125, x 126, x 127, x 128, x 129, x 130, x 131, x 132, x 133, x 134, x 135, x 136, x 137, x 138, x 139, x 140, x 141, x 142, x 143, x 144, x 145, x 146, x 147, x 148, x 149, x 150, x 151, x 152, x 153, x 154, x 155, x 156, x 157, x 158, x 159, x 160, x 161, x 162, x 163, x 164, x 165, x 166, x 167, x 168, x 169, x 170, x 171, x 172, x 173, x 174, x 175, x 176, x 177, x 178, x 179, x 180, x 181, x 182, x 183, x 184, x 185, x 186, x 187, x 188, x 189], []⟩
/- A list of one key that was just built, and what came after it. -/
theorem one_key {W W' : World} {x y : Value} {t : TypeId} {A : Nat} (h : W.heap[A]? = some (.cells #[x, y] t (0, 0))) : ∀ j u, [x, y][j]? = some u → W.cell? ((⟨A, 0, none⟩ : Addr).add j) = some u := by
  intro j u hu
  rw [Addr.add_lit, cell_of_block h]
  simpa using hu
theorem lit_own {W : World} {base A : Nat} (h : W.heap[A]? = some (.cells #[] 27 (0, 0))) (hb : base ≤ A) : W.ownsRow base 27 2 (.slice (some ⟨A, 0, none⟩) 0 0) 0 [] :=
  ⟨rfl, .inr ⟨A, 0, #[], rfl, hb, h, Nat.le_refl _, Nat.zero_le _, rfl, rfl⟩⟩

set_option maxHeartbeats 3200000 in
theorem rsw2list (t : Int) (M : Mm) (c : Cl) (prev slot nn ee : Int) (keys : List (Int × Int)) (B lo : Nat) (aS aH aF aL : Option Addr) (cS cH cF cL : Nat) (aK : Option Addr) (cK : Nat) (w : World) (b : Nat)
    (m : Mine w B lo aS aH aF aL cS cH cF cL M) (HR : Hid (KRow w aK cK keys)) (HZ : Hid (∀ ad, aK = some ad → ¬ Foot B aS aH aF aL ad.block)) (j : Nat) (s : Sl) (hns : M.slots.length ≤ 12) (hj : j < M.slots.length) (hs : s = slotAt M j) (hk5 : (c.kind == 5) = true) (hkl : keys.length < 100) (kk : List (Int × Int)) (hkk : kk = keys ++ [(s.a, s.b)])
    (HBk : Hid (∀ W : World, Calls Try.prog 40 #[.agg #[.slice aS M.slots.length cS, .slice aH M.heads.length cH, .slice aF M.free.length cF, .slice aL M.locks.length cL, .int .i64 M.now], .agg #[.int .i64 c.kind, .int .i64 c.a, .int .i64 c.b, .int .i64 c.time, .int .i64 c.bk, .int .i64 c.slot]] W fun e w' => e = .returned (.int .i64 (b : Int)) ∧ Below W.heap.size W w')) :
    Calls Try.prog 11 #[.pointer (some ⟨B, 0, none⟩), .agg #[.int .i64 c.kind, .int .i64 c.a, .int .i64 c.b, .int .i64 c.time, .int .i64 c.bk, .int .i64 c.slot, .int .i64 2, .int .i64 ((j : Int) + 1), .int .i64 prev, .int .i64 slot, .int .i64 nn, .slice aK keys.length cK, .bool false, .int .i64 ee], .int .i64 t] w fun e w' => RetO w w' e (toF ⟨c, 2, (j : Int) + 1, prev, slot, nn, kk, false, ee⟩ 3) ∧ Has w' B lo (Up w (Foot B aS aH aF aL)) (M) ∧ Fine w w' (Foot B aS aH aF aL) := by
  have HKK : Hid (kk = keys ++ [(s.a, s.b)] ∧ keys.length < 100) := ⟨hkk, hkl⟩
  have hkl2 : (keys.length : Int) < 100 := by omega
  clear hkk hkl
  obtain ⟨gS, rfl, oS, lS, kS, -⟩ := row_form m.c.s (by omega)
  have HX : Hid (∀ W, Mine W B lo (some ⟨gS, 0, none⟩) aH aF aL cS cH cF cL M → W.cell? ⟨gS, j * 6, none⟩ = some (.int .i64 s.refs) ∧ W.cell? ⟨gS, j * 6 + 1, none⟩ = some (.int .i64 s.a) ∧ W.cell? ⟨gS, j * 6 + 2, none⟩ = some (.int .i64 s.b) ∧
    W.cell? ⟨gS, j * 6 + 3, none⟩ = some (.int .i64 s.unt) ∧ W.cell? ⟨gS, j * 6 + 4, none⟩ = some (.bool s.inn) ∧ W.cell? ⟨gS, j * 6 + 5, none⟩ = some (.int .i64 s.next) ∧ ∀ q, W.frozen? ⟨gS, q, none⟩ = false) := fun W m' => slotAt_cells m'.c.s hj hs
  clear hs
  have hw1 : IntKind.i64.wrap ((j : Int) + 1 - 1) = (j : Int) := by rw [IntKind.wrap_i64]; omega
  have hw2 : wrap64 ((j : Int) + 1 - 1) = (j : Int) := by unfold wrap64; omega
  have hw3 : (j : Int) + 1 - 1 = (j : Int) := by omega
  have HI : Hid (∀ W : World, Calls Try.prog 43 #[.int .i64 ((j : Int) + 1)] W fun e w' => e = .returned (.bool true) ∧ W = w') := fun W => isSlotEA _ W (by rw [decide_eq_true_iff]; omega)
  obtain ⟨of, hof⟩ : ∃ o : Obj, o = .cells #[.int .i64 c.kind, .int .i64 c.a, .int .i64 c.b, .int .i64 c.time, .int .i64 c.bk, .int .i64 c.slot, .int .i64 2, .int .i64 ((j : Int) + 1), .int .i64 prev, .int .i64 slot, .int .i64 nn, .slice aK keys.length cK, .bool false, .int .i64 ee] 33 := ⟨_, rfl⟩
  obtain ⟨oz, hoz⟩ : ∃ o : Obj, o = zeroFr := ⟨_, rfl⟩
  have HE : Hid (Lk w ((w.alloc of).alloc oz) B lo (some ⟨gS, 0, none⟩) aH aF aL cS cH cF cL M ⟨c, 2, (j : Int) + 1, prev, slot, nn, keys, false, ee⟩ aK cK) := Lk.first m ⟨c, 2, (j : Int) + 1, prev, slot, nn, keys, false, ee⟩ aK cK hof hoz
  obtain ⟨f0, f1, f2, f3, f4, f5, f6, f7, f8, f9, f10, f11, f12, f13, ff, fs⟩ := framef (show ((w.alloc of).alloc oz).heap[w.heap.size]? = some (.cells #[.int .i64 c.kind, .int .i64 c.a, .int .i64 c.b, .int .i64 c.time, .int .i64 c.bk, .int .i64 c.slot, .int .i64 2, .int .i64 ((j : Int) + 1), .int .i64 prev, .int .i64 slot, .int .i64 nn, .slice aK keys.length cK, .bool false, .int .i64 ee] 33 (0, 0)) from HE.out.fb)
  obtain ⟨q0, q1, q2, q3, q4, -, -, -, -, -, qs⟩ := boxf HE.out.m.box
  unfold zeroFr at hoz
  clear m
  go_enter Try.func11, Try.ntmps11
  go_wp2_with fail
  rw [← hof, ← hoz]
  generalize (w.alloc of).alloc oz = W0 at *
  subst hof hoz
  have cB : ∀ (d : Nat) (os : Array Obj), Calls Try.prog 40 #[.agg #[.slice (some ⟨gS, 0, none⟩) M.slots.length cS, .slice aH M.heads.length cH, .slice aF M.free.length cF, .slice aL M.locks.length cL, .int .i64 M.now], .agg #[.int .i64 c.kind, .int .i64 c.a, .int .i64 c.b, .int .i64 c.time, .int .i64 c.bk, .int .i64 c.slot]] (grow (redrawn W0 d) os) fun e w'' => e = .returned (.int .i64 (b : Int)) ∧ ∃ p : Regrown, w'' = grow (redrawn W0 p.d) p.os := fun d os => Calls.regrown_of (HBk.out _)
  have Xq0 := cell_regrown q0
  have Xq1 := cell_regrown q1
  have Xq2 := cell_regrown q2
  have Xq3 := cell_regrown q3
  have Xq4 := cell_regrown q4
  have Xf0 := cell_regrown f0
  have Xf1 := cell_regrown f1
  have Xf2 := cell_regrown f2
  have Xf3 := cell_regrown f3
  have Xf4 := cell_regrown f4
  have Xf5 := cell_regrown f5
  clear q0 q1 q2 q3 q4 qs
  clear f0 f1 f2 f3 f4 f5 f6 f7 f8 f9 f10 f11 f12 f13 ff fs
  refine wp_region_quiet_below (by kernel_rfl) (by kernel_rfl) ?_
  repeat (quiet_step (first | exact cB _ _))
  refine wpQuiet_nil ?_
  intro _ hw'
  obtain ⟨⟨dq, osq⟩, hw''⟩ := hw'
  subst hw''
  have HE1 : Hid (Lk w (grow (redrawn W0 dq) osq) B lo (some ⟨gS, 0, none⟩) aH aF aL cS cH cF cL M ⟨c, 2, (j : Int) + 1, prev, slot, nn, keys, false, ee⟩ aK cK) := HE.out.below (below_regrown W0 dq osq)
  generalize grow (redrawn W0 dq) osq = w1 at *
  clear Xq0 Xq1 Xq2 Xq3 Xq4 Xf0 Xf1 Xf2 Xf3 Xf4 Xf5 HE
  clear cB HBk
  obtain ⟨f0, f1, f2, f3, f4, f5, f6, f7, f8, f9, f10, f11, f12, f13, ff, fs⟩ := framef (show w1.heap[w.heap.size]? = some (.cells #[.int .i64 c.kind, .int .i64 c.a, .int .i64 c.b, .int .i64 c.time, .int .i64 c.bk, .int .i64 c.slot, .int .i64 2, .int .i64 ((j : Int) + 1), .int .i64 prev, .int .i64 slot, .int .i64 nn, .slice aK keys.length cK, .bool false, .int .i64 ee] 33 (0, 0)) from HE1.out.fb)
  obtain ⟨q0, q1, q2, q3, q4, -, -, -, -, -, qs⟩ := boxf HE1.out.m.box
  obtain ⟨x0, x1, x2, x3, x4, x5, xf⟩ := HX.out w1 HE1.out.m
  have xs : gS < w1.heap.size := cell_lt x0
  go_wp2_with (go_at_call 43; refine (HI.out _).mono ?_; rintro e w3 ⟨rfl, rfl⟩)
  go_region
  all_goals
    go_wp2_with fail
  have HE2 : Hid (Lk w (w1.alloc (.cells #[.int .i64 s.refs, .int .i64 s.a, .int .i64 s.b, .int .i64 s.unt, .bool s.inn, .int .i64 s.next] 53)).drew B lo (some ⟨gS, 0, none⟩) aH aF aL cS cH cF cL M ⟨c, 2, (j : Int) + 1, prev, slot, nn, keys, false, ee⟩ aK cK) := HE1.out.below (one_below w1 (.cells #[.int .i64 s.refs, .int .i64 s.a, .int .i64 s.b, .int .i64 s.unt, .bool s.inn, .int .i64 s.next] 53)).drew
  have SB : (w1.alloc (.cells #[.int .i64 s.refs, .int .i64 s.a, .int .i64 s.b, .int .i64 s.unt, .bool s.inn, .int .i64 s.next] 53)).drew.heap[w1.heap.size]? = some (.cells #[.int .i64 s.refs, .int .i64 s.a, .int .i64 s.b, .int .i64 s.unt, .bool s.inn, .int .i64 s.next] 53) := heap_alloc_new w1 (.cells #[.int .i64 s.refs, .int .i64 s.a, .int .i64 s.b, .int .i64 s.unt, .bool s.inn, .int .i64 s.next] 53)
  have s1 : (w1.alloc (.cells #[.int .i64 s.refs, .int .i64 s.a, .int .i64 s.b, .int .i64 s.unt, .bool s.inn, .int .i64 s.next] 53)).drew.cell? ⟨w1.heap.size, 1, none⟩ = some (.int .i64 s.a) := by rw [cell_of_block SB]; rfl
  have s2 : (w1.alloc (.cells #[.int .i64 s.refs, .int .i64 s.a, .int .i64 s.b, .int .i64 s.unt, .bool s.inn, .int .i64 s.next] 53)).drew.cell? ⟨w1.heap.size, 2, none⟩ = some (.int .i64 s.b) := by rw [cell_of_block SB]; rfl
  clear HE1 x0 x1 x2 x3 x4 x5 xf xs SB
  clear q0 q1 q2 q3 q4 qs f0 f1 f2 f3 f4 f5 f6 f7 f8 f9 f10 f11 f12 f13 ff fs
  generalize (w1.alloc (.cells #[.int .i64 s.refs, .int .i64 s.a, .int .i64 s.b, .int .i64 s.unt, .bool s.inn, .int .i64 s.next] 53)).drew = w2 at *
  generalize w1.heap.size = X at *
  have sl := cell_lt s1
  have HKr : Hid (∀ W : World, Below w2.heap.size w2 W → KRow W aK cK keys) := fun W hb => (HR.out.below HE2.out.bl).below hb
  obtain ⟨i0, hi, hz0, hz1, hz2⟩ := info_parts iK
  have hkl := HKK.out.2
  obtain ⟨f0, f1, f2, f3, f4, f5, f6, f7, f8, f9, f10, f11, f12, f13, ff, fs⟩ := framef (show w2.heap[w.heap.size]? = some (.cells #[.int .i64 c.kind, .int .i64 c.a, .int .i64 c.b, .int .i64 c.time, .int .i64 c.bk, .int .i64 c.slot, .int .i64 2, .int .i64 ((j : Int) + 1), .int .i64 prev, .int .i64 slot, .int .i64 nn, .slice aK keys.length cK, .bool false, .int .i64 ee] 33 (0, 0)) from HE2.out.fb)
  rename_i K0 hK0
  have tail : Hid (∀ (a : Act) (W : World) (g cap : Nat), a = actL (fun k => a.tmps.getD k undef) → a.tmps.getD 4 undef = .pointer (some ⟨w.heap.size, 0, none⟩) → a.tmps.getD 6 undef = .pointer (some ⟨w.heap.size + 1, 0, none⟩) → a.tmps.getD 8 undef = .func (.func 41) #[] #[.pointer (some ⟨w.heap.size, 0, none⟩)] → Lk w W B lo (some ⟨gS, 0, none⟩) aH aF aL cS cH cF cL M ⟨c, 2, (j : Int) + 1, prev, slot, nn, kk, false, ee⟩ (some ⟨g, 0, none⟩) cap → KOwn W (w.heap.size + 2) (some ⟨g, 0, none⟩) cap kk → K0 a W) := by
    intro a w4 g cap ha h4 h6 h8 hE4 hK5
    obtain ⟨x, hx⟩ : ∃ x : Nat → Value, x = fun k => a.tmps.getD k undef := ⟨_, rfl⟩
    have e4 : x 4 = .pointer (some ⟨w.heap.size, 0, none⟩) := by rw [hx]; exact h4
    have e6 : x 6 = .pointer (some ⟨w.heap.size + 1, 0, none⟩) := by rw [hx]; exact h6
    have e8 : x 8 = .func (.func 41) #[] #[.pointer (some ⟨w.heap.size, 0, none⟩)] := by rw [hx]; exact h8
    rw [← hx] at ha
    rw [ha]
    have HE4 : Hid (Lk w w4 B lo (some ⟨gS, 0, none⟩) aH aF aL cS cH cF cL M ⟨c, 2, (j : Int) + 1, prev, slot, nn, kk, false, ee⟩ (some ⟨g, 0, none⟩) cap) := hE4
    have HK5 : Hid (KOwn w4 (w.heap.size + 2) (some ⟨g, 0, none⟩) cap kk) := hK5
    clear ha h4 h6 h8 hE4 hK5 hx HE2 f0 f1 f2 f3 f4 f5 f6 f7 f8 f9 f10 f11 f12 f13 ff fs s1 s2 sl
    refine hK0 _ _ ?_
    clear hK0
    unfold actL
    rw [e4, e6, e8]
    clear e4 e6 e8
    go_wp2_with fail
    refine (swto_any ⟨c, 2, (j : Int) + 1, prev, slot, nn, kk, false, ee⟩ 3 w.heap.size (some ⟨g, 0, none⟩) cap _ HE4.out.fb).mono ?_
    rintro e w9 ⟨rfl, hf9, hx9⟩
    have HK9 : Hid (KOwn w9 (w.heap.size + 2) (some ⟨g, 0, none⟩) cap kk) := HK5.out.fine hf9 (fun ad e => by have := (HK5.out.lt ad e).1; omega)
    have HE9 : Hid (Lk2 w w9 (Foot B (some ⟨gS, 0, none⟩) aH aF aL) B lo M (toF ⟨c, 2, (j : Int) + 1, prev, slot, nn, kk, false, ee⟩ 3) (some ⟨g, 0, none⟩) cap) := HE4.out.two.toA hf9 hx9
    clear HE4 HK5 hf9 hx9
    obtain ⟨g0, g1, g2, g3, g4, g5, g6, g7, g8, g9, g10, g11, g12, g13, gf, gs⟩ := framef HE9.out.zb
    go_wp2
    refine bodyPost_ret (v := .agg #[.int .i64 (toF ⟨c, 2, (j : Int) + 1, prev, slot, nn, kk, false, ee⟩ 3).c.kind, .int .i64 (toF ⟨c, 2, (j : Int) + 1, prev, slot, nn, kk, false, ee⟩ 3).c.a, .int .i64 (toF ⟨c, 2, (j : Int) + 1, prev, slot, nn, kk, false, ee⟩ 3).c.b, .int .i64 (toF ⟨c, 2, (j : Int) + 1, prev, slot, nn, kk, false, ee⟩ 3).c.time, .int .i64 (toF ⟨c, 2, (j : Int) + 1, prev, slot, nn, kk, false, ee⟩ 3).c.bk, .int .i64 (toF ⟨c, 2, (j : Int) + 1, prev, slot, nn, kk, false, ee⟩ 3).c.slot, .int .i64 (toF ⟨c, 2, (j : Int) + 1, prev, slot, nn, kk, false, ee⟩ 3).pl, .int .i64 (toF ⟨c, 2, (j : Int) + 1, prev, slot, nn, kk, false, ee⟩ 3).cur, .int .i64 (toF ⟨c, 2, (j : Int) + 1, prev, slot, nn, kk, false, ee⟩ 3).prev, .int .i64 (toF ⟨c, 2, (j : Int) + 1, prev, slot, nn, kk, false, ee⟩ 3).slot, .int .i64 (toF ⟨c, 2, (j : Int) + 1, prev, slot, nn, kk, false, ee⟩ 3).n, .slice (some ⟨g, 0, none⟩) (toF ⟨c, 2, (j : Int) + 1, prev, slot, nn, kk, false, ee⟩ 3).keys.length cap, .bool (toF ⟨c, 2, (j : Int) + 1, prev, slot, nn, kk, false, ee⟩ 3).done, .int .i64 (toF ⟨c, 2, (j : Int) + 1, prev, slot, nn, kk, false, ee⟩ 3).e]) (by simp [results, Try.results11, go_sem, toF, g0, g1, g2, g3, g4, g5, g6, g7, g8, g9, g10, g11, g12, g13]) rfl ⟨⟨some ⟨g, 0, none⟩, cap, rfl, HK9.out.end14⟩, HE9.out.end14⟩
  have hsz := lt_of_block HE2.out.zb
  have hfin : Hid (∀ (u2 : World) (g cap : Nat), Below w2.heap.size w2 u2 → u2.ownsRow w2.heap.size 27 2 (.slice (some ⟨g, 0, none⟩) (keys.length + 1) cap) (keys.length + 1) (encK keys ++ [.int .i64 s.a, .int .i64 s.b]) →
      Lk w (u2.setCell ⟨w.heap.size, 11, none⟩ (.slice (some ⟨g, 0, none⟩) (keys.length + 1) cap)) B lo (some ⟨gS, 0, none⟩) aH aF aL cS cH cF cL M ⟨c, 2, (j : Int) + 1, prev, slot, nn, kk, false, ee⟩ (some ⟨g, 0, none⟩) cap ∧ KOwn (u2.setCell ⟨w.heap.size, 11, none⟩ (.slice (some ⟨g, 0, none⟩) (keys.length + 1) cap)) (w.heap.size + 2) (some ⟨g, 0, none⟩) cap kk) := by
    intro u2 g cap hb hO2
    have HK4 : KOwn u2 (w.heap.size + 2) (some ⟨g, 0, none⟩) cap kk := ⟨by
      rw [HKK.out.1, show (keys ++ [(s.a, s.b)]).length = keys.length + 1 by simp, show encK (keys ++ [(s.a, s.b)]) = encK keys ++ [.int .i64 s.a, .int .i64 s.b] by simp [encK]]
      exact ownsRow_le hO2 (by omega)⟩
    exact ⟨(HE2.out.below hb).keys kk (keys.length + 1) (by rw [HKK.out.1]; simp) (some ⟨g, 0, none⟩) cap, HK4.same (fun ad e => by have := (HK4.lt ad e).1; rw [Below.heap_setCell _ _ _ _ (by dsimp only; omega)])⟩
  go_region_law (first 
      | (refine step_append_keys rfl (.tmp 76) (.tmp 78) rfl w2.heap.size (.slice (some ⟨w2.heap.size, 0, none⟩) 0 0) 0 [] (by simp [Act.eval]) (lit_own (heap_alloc_new w2 (.cells #[] 27)) (Nat.le_refl _)) aK cK keys (by simp [Act.eval]) (HKr.out _ (by exact (one_below w2 (.cells #[] 27)).drew)) (by omega) (by simp [World.drew] <;> omega) ?_; intro v1 u1 hown1 hgrow1 hblk1; have HO1 : Hid (∀ W : World, Below u1.heap.size u1 W → W.ownsRow w2.heap.size 27 2 v1 keys.length (encK keys)) := (fun W hb => own_same (by simpa using hown1) (fun g hg => hb.block g (hown1.lt g hg).2)); have HB1 : Hid (Below w2.heap.size w2 u1) := ((one_below w2 (.cells #[] 27)).drew).grown hgrow1 (by simp [World.drew] <;> omega) (fun k h => by cases h; simp <;> omega); have s1u : u1.cell? ⟨X, 1, none⟩ = some (.int .i64 s.a) := ((bcell HB1.out).1 _ _ sl).trans s1; have s2u : u1.cell? ⟨X, 2, none⟩ = some (.int .i64 s.b) := ((bcell HB1.out).1 _ _ sl).trans s2; have slu := cell_lt s1u; clear hown1 hgrow1 hblk1)
      | (refine step_append_keys rfl (.tmp 76) (.tmp 78) rfl w2.heap.size (.slice (some ⟨w2.heap.size, 0, none⟩) 0 0) 0 [] (by simp [Act.eval]) (lit_own ((Below.heap_alloc (w2.alloc (.cells #[] 27)) (.cells #[.int .i64 s.a, .int .i64 s.b] 27) w2.heap.size (by simp)).trans (heap_alloc_new w2 (.cells #[] 27))) (Nat.le_refl _)) aK cK keys (by simp [Act.eval]) (HKr.out _ (by exact (below_alloc2 w2 (.cells #[] 27) (.cells #[.int .i64 s.a, .int .i64 s.b] 27)).drew)) (by omega) (by simp [World.drew] <;> omega) ?_; intro v1 u1 hown1 hgrow1 hblk1; have HO1 : Hid (∀ W : World, Below u1.heap.size u1 W → W.ownsRow w2.heap.size 27 2 v1 keys.length (encK keys)) := (fun W hb => own_same (by simpa using hown1) (fun g hg => hb.block g (hown1.lt g hg).2)); have HB1 : Hid (Below w2.heap.size w2 u1) := ((below_alloc2 w2 (.cells #[] 27) (.cells #[.int .i64 s.a, .int .i64 s.b] 27)).drew).grown hgrow1 (by simp [World.drew] <;> omega) (fun k h => by cases h; simp <;> omega); have s1u : u1.cell? ⟨X, 1, none⟩ = some (.int .i64 s.a) := ((bcell HB1.out).1 _ _ sl).trans s1; have s2u : u1.cell? ⟨X, 2, none⟩ = some (.int .i64 s.b) := ((bcell HB1.out).1 _ _ sl).trans s2; have slu := cell_lt s1u; have HS1 : Hid (u1.heap[w2.heap.size + 1]? = some (.cells #[.int .i64 s.a, .int .i64 s.b] 27)) := (hgrow1.block (w2.heap.size + 1) (by simp [World.drew] <;> omega) (by intro h; simp [Value.ownBlock] at h)).trans (show ((w2.alloc (.cells #[] 27)).alloc (.cells #[.int .i64 s.a, .int .i64 s.b] 27)).heap[w2.heap.size + 1]? = some (.cells #[.int .i64 s.a, .int .i64 s.b] 27) by simpa using heap_alloc_new (w2.alloc (.cells #[] 27)) (.cells #[.int .i64 s.a, .int .i64 s.b] 27)); obtain ⟨aX, haX⟩ : ∃ k, k = w2.heap.size + 1 := ⟨_, rfl⟩; rw [← haX] at HS1; clear hown1 hgrow1 hblk1)
      | (refine step_append_keys rfl (.tmp 76) (.tmp 78) rfl w2.heap.size (.slice (some ⟨w2.heap.size + 1, 0, none⟩) 0 0) 0 [] (by simp [Act.eval]) (lit_own (show ((w2.alloc (.cells #[.int .i64 s.a, .int .i64 s.b] 27)).alloc (.cells #[] 27)).heap[w2.heap.size + 1]? = some (.cells #[] 27) by simpa using heap_alloc_new (w2.alloc (.cells #[.int .i64 s.a, .int .i64 s.b] 27)) (.cells #[] 27)) (Nat.le_succ _)) aK cK keys (by simp [Act.eval]) (HKr.out _ (by exact (below_alloc2 w2 (.cells #[.int .i64 s.a, .int .i64 s.b] 27) (.cells #[] 27)).drew)) (by omega) (by simp [World.drew] <;> omega) ?_; intro v1 u1 hown1 hgrow1 hblk1; have HO1 : Hid (∀ W : World, Below u1.heap.size u1 W → W.ownsRow w2.heap.size 27 2 v1 keys.length (encK keys)) := (fun W hb => own_same (by simpa using hown1) (fun g hg => hb.block g (hown1.lt g hg).2)); have HB1 : Hid (Below w2.heap.size w2 u1) := ((below_alloc2 w2 (.cells #[.int .i64 s.a, .int .i64 s.b] 27) (.cells #[] 27)).drew).grown hgrow1 (by simp [World.drew] <;> omega) (fun k h => by cases h; simp <;> omega); have s1u : u1.cell? ⟨X, 1, none⟩ = some (.int .i64 s.a) := ((bcell HB1.out).1 _ _ sl).trans s1; have s2u : u1.cell? ⟨X, 2, none⟩ = some (.int .i64 s.b) := ((bcell HB1.out).1 _ _ sl).trans s2; have slu := cell_lt s1u; have HS1 : Hid (u1.heap[w2.heap.size]? = some (.cells #[.int .i64 s.a, .int .i64 s.b] 27)) := (hgrow1.block (w2.heap.size) (by simp [World.drew] <;> omega) (by intro h; simp [Value.ownBlock] at h)).trans ((Below.heap_alloc (w2.alloc (.cells #[.int .i64 s.a, .int .i64 s.b] 27)) (.cells #[] 27) w2.heap.size (by simp)).trans (heap_alloc_new w2 (.cells #[.int .i64 s.a, .int .i64 s.b] 27))); obtain ⟨aX, haX⟩ : ∃ k, k = w2.heap.size := ⟨_, rfl⟩; rw [← haX] at HS1; clear hown1 hgrow1 hblk1)
      | (have hS0 := HS1.out; refine step_append_own_at _ rfl (.tmp 79) (.tmp 82) 30 rfl w2.heap.size 27 i0 (.agg #[.int .i64 0, .int .i64 0]) 2 16 Try.underlying30 hi hz0 hz1 hz2 rfl (by decide) v1 keys.length (encK keys) (by simp [Act.eval]) (HO1.out _ (by exact Below.refl _ u1)) ⟨aX, 0, none⟩ 1 1 [.int .i64 s.a, .int .i64 s.b] (by simp [Act.eval, haX]) rfl (one_key (W' := w) (hS0)) (by intro u hu; simp at hu; rcases hu with rfl | rfl <;> rfl) (by unfold maxLen; omega) (by omega) (by have := HB1.out.size; simp <;> omega) ?_; intro v2 u2 hown2 hgrow2 hnil2 hblk2; obtain ⟨g, cap, rfl⟩ := ownsRow_form hown2 (by omega); have HB2 : Hid (Below w2.heap.size w2 u2) := (HB1.out.trans ((Below.refl _ u1).mono HB1.out.size)).grown hgrow2 (by have := HB1.out.size; simp <;> omega) (fun k h => by have := ((HO1.out _ (Below.refl _ u1)).lt k h).1; exact this); have HO2 : Hid (u2.ownsRow w2.heap.size 27 2 (.slice (some ⟨g, 0, none⟩) (keys.length + 1) cap) (keys.length + 1) (encK keys ++ [.int .i64 s.a, .int .i64 s.b])) := hown2; clear hown2 hgrow2 hnil2 hblk2 f0 f1 f2 f3 f4 f5 f6 f7 f8 f9 f10 f11 f12 f13 ff fs; have HE3 : Hid (Lk w u2 B lo (some ⟨gS, 0, none⟩) aH aF aL cS cH cF cL M ⟨c, 2, (j : Int) + 1, prev, slot, nn, keys, false, ee⟩ aK cK) := HE2.out.below HB2.out; obtain ⟨f0, f1, f2, f3, f4, f5, f6, f7, f8, f9, f10, f11, f12, f13, ff, fs⟩ := framef (show u2.heap[w.heap.size]? = some (.cells #[.int .i64 c.kind, .int .i64 c.a, .int .i64 c.b, .int .i64 c.time, .int .i64 c.bk, .int .i64 c.slot, .int .i64 2, .int .i64 ((j : Int) + 1), .int .i64 prev, .int .i64 slot, .int .i64 nn, .slice aK keys.length cK, .bool false, .int .i64 ee] 33 (0, 0)) from HE3.out.fb))
      | (refine step_append_own_at _ rfl (.tmp 79) (.tmp 82) 30 rfl w2.heap.size 27 i0 (.agg #[.int .i64 0, .int .i64 0]) 2 16 Try.underlying30 hi hz0 hz1 hz2 rfl (by decide) v1 keys.length (encK keys) (by simp [Act.eval]) (HO1.out _ (by exact one_below u1 (.cells #[.int .i64 s.a, .int .i64 s.b] 27))) ⟨u1.heap.size, 0, none⟩ 1 1 [.int .i64 s.a, .int .i64 s.b] (by simp [Act.eval]) rfl (one_key (W' := w) (heap_alloc_new u1 (.cells #[.int .i64 s.a, .int .i64 s.b] 27))) (by intro u hu; simp at hu; rcases hu with rfl | rfl <;> rfl) (by unfold maxLen; omega) (by omega) (by have := HB1.out.size; simp <;> omega) ?_; intro v2 u2 hown2 hgrow2 hnil2 hblk2; obtain ⟨g, cap, rfl⟩ := ownsRow_form hown2 (by omega); have HB2 : Hid (Below w2.heap.size w2 u2) := (HB1.out.trans ((one_below u1 (.cells #[.int .i64 s.a, .int .i64 s.b] 27)).mono HB1.out.size)).grown hgrow2 (by have := HB1.out.size; simp <;> omega) (fun k h => by have := ((HO1.out _ (one_below u1 (.cells #[.int .i64 s.a, .int .i64 s.b] 27))).lt k h).1; exact this); have HO2 : Hid (u2.ownsRow w2.heap.size 27 2 (.slice (some ⟨g, 0, none⟩) (keys.length + 1) cap) (keys.length + 1) (encK keys ++ [.int .i64 s.a, .int .i64 s.b])) := hown2; clear hown2 hgrow2 hnil2 hblk2 f0 f1 f2 f3 f4 f5 f6 f7 f8 f9 f10 f11 f12 f13 ff fs; have HE3 : Hid (Lk w u2 B lo (some ⟨gS, 0, none⟩) aH aF aL cS cH cF cL M ⟨c, 2, (j : Int) + 1, prev, slot, nn, keys, false, ee⟩ aK cK) := HE2.out.below HB2.out; obtain ⟨f0, f1, f2, f3, f4, f5, f6, f7, f8, f9, f10, f11, f12, f13, ff, fs⟩ := framef (show u2.heap[w.heap.size]? = some (.cells #[.int .i64 c.kind, .int .i64 c.a, .int .i64 c.b, .int .i64 c.time, .int .i64 c.bk, .int .i64 c.slot, .int .i64 2, .int .i64 ((j : Int) + 1), .int .i64 prev, .int .i64 slot, .int .i64 nn, .slice aK keys.length cK, .bool false, .int .i64 ee] 33 (0, 0)) from HE3.out.fb)))
  all_goals exact tail.out _ _ g cap rfl rfl rfl rfl (hfin.out u2 g cap HB2.out HO2.out).1 (hfin.out u2 g cap HB2.out HO2.out).2
end Go.Proofs.Ytdbilofhcadmoac.mm
