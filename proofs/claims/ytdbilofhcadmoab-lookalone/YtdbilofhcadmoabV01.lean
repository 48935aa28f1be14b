/- For any memory and key LookAlone returns true, and both read afterwards as they read before: where nobody else goes on a Look is done in two steps a slot and six, and finds just what is mapped and not over; it holds that, and changes nothing else. No condition. -/
import Derived.Test.YtdbilofhcadmoabC30
import Derived.Test.YtdbilofhcadmoabC11
import Derived.Test.YtdbilofhcadmoabC14
import Derived.Test.YtdbilofhcadmoabC15
import Derived.Test.YtdbilofhcadmoabC16
import Derived.Test.YtdbilofhcadmoabD03
import Derived.Test.YtdbilofhcadmoabC35
import Derived.Test.YtdbilofhcadmoabC32
import Derived.Deep.QuietTactic
import Derived.BigQuiet
import Derived.Lib.QuietBelow
/- What a Look finds that goes on alone, held against what is mapped. -/
namespace Go.Proofs.Ytdbilofhcadmoab.mm
set_option linter.unusedVariables false

def isF (a b now : Int) (f : Fl) : Bool := (f.a == a && f.b == b) && decide (now < f.unt)

theorem inj_nodup {α β : Type} (f : α → β) : ∀ (l : List α), (l.map f).Nodup → ∀ x ∈ l, ∀ y ∈ l, f x = f y → x = y
  | [], _, x, hx, _, _, _ => by cases hx
  | a :: l, h, x, hx, y, hy, e => by
    rw [List.map_cons, List.nodup_cons] at h
    rcases List.mem_cons.1 hx with h1 | h1
    · rcases List.mem_cons.1 hy with h2 | h2
      · rw [h1, h2]
      · rw [h1] at e
        exact (h.1 (List.mem_map.2 ⟨y, h2, e.symm⟩)).elim
    · rcases List.mem_cons.1 hy with h2 | h2
      · rw [h2] at e
        exact (h.1 (List.mem_map.2 ⟨x, h1, e⟩)).elim
      · exact inj_nodup f l h.2 x h1 y h2 e

theorem bk_look {M : Mm} (hM : Ok M) {c : Cl} (hk : c.kind = 1) (hkey : keyB c.a c.b = true) : bkOf M.heads.length c = bucket c.a c.b M.heads.length := by
  obtain ⟨n1, n2⟩ := hM.nh
  unfold bkOf
  rw [if_neg (by omega), if_pos hkey, if_pos ⟨n1, n2⟩]

theorem isF_iff {M : Mm} {a b : Int} {x : Int} : isF a b M.now (flowAt M x) = true ↔ keyAt M x = (a, b) ∧ M.now < (slotAt M x).unt := by
  unfold isF flowAt keyAt
  simp

theorem found_none {M : Mm} {c : Cl} {b : Nat} (hb : b < M.heads.length) {X : Mm} {g : Fr} (hF : Found M c (chL M b) X g) (hn : ∀ f ∈ (allC M).map (flowAt M), isF c.a c.b M.now f = false) : X = M ∧ g.e = 5 := by
  unfold Found at hF
  split at hF
  · exact hF
  · rename_i a ha
    have h1 := List.mem_of_find?_eq_some ha
    have h2 := List.find?_some ha
    have h3 : a ∈ allC M := mem_allC.2 ⟨b, hb, h1⟩
    have h4 := hn _ (List.mem_map.2 ⟨a, h3, rfl⟩)
    split at hF
    · rename_i hlt
      exfalso
      have : isF c.a c.b M.now (flowAt M a) = true := isF_iff.2 ⟨by simpa using h2, hlt⟩
      rw [h4] at this
      cases this
    · exact hF

theorem found_some {M : Mm} (hM : OkC M) {c : Cl} {b : Nat} (hb : b < M.heads.length) (hbk : bucket c.a c.b M.heads.length = b) {X : Mm} {g : Fr} (hF : Found M c (chL M b) X g) {f : Fl} (hf : f ∈ (allC M).map (flowAt M)) (hp : isF c.a c.b M.now f = true) :
    X = holdM M f.slot ∧ g.e = 0 ∧ g.slot = f.slot ∧ isSl M f.slot = true ∧ 0 < refsM M f.slot := by
  obtain ⟨a, ha, rfl⟩ := List.mem_map.1 hf
  obtain ⟨b', hb', hab⟩ := mem_allC.1 ha
  obtain ⟨r0, _, hbu⟩ := hM.held b' hb' a hab
  obtain ⟨hk, hlt⟩ := isF_iff.1 hp
  have hk1 : (slotAt M a).a = c.a ∧ (slotAt M a).b = c.b := by unfold keyAt at hk; simpa using hk
  rw [hk1.1, hk1.2, hbk] at hbu
  have hbb : b = b' := by omega
  subst hbb
  have hsl : isSl M a = true := isSl_in.2 (hM.allSlots a ha)
  have hrf : 0 < refsM M a := by
    have := (slot_refs hM.ok hsl).1
    have h2 : refsM M a ≠ 0 := r0
    omega
  unfold Found at hF
  split at hF
  · rename_i hnone
    have := List.find?_eq_none.1 hnone a hab
    rw [hk] at this
    simp at this
  · rename_i a2 ha2
    have h1 := List.mem_of_find?_eq_some ha2
    have h2 : keyAt M a2 = (c.a, c.b) := by simpa using List.find?_some ha2
    have e : a2 = a := inj_nodup (keyAt M) (allC M) hM.keys a2 (mem_allC.2 ⟨b, hb, h1⟩) a ha (h2.trans hk.symm)
    subst e
    rw [if_pos hlt] at hF
    exact ⟨hF.1, hF.2.1, hF.2.2, hsl, hrf⟩

theorem let_back {M : Mm} (hM : Ok M) {a : Int} (h : isSl M a = true) (h0 : 0 < refsM M a) (h1 : refsM M a ≠ 1000) : letE (holdM M a) a = 0 ∧ letM (holdM M a) a = M := by
  have hr := slot_refs hM h
  have ho := hold_ok hM h h0 (by omega)
  have hl : (holdM M a).slots.length = M.slots.length := by simp [holdM, setRefs]
  have hs : isSl (holdM M a) a = true := by rw [isSl_in] at h ⊢; rw [hl]; exact h
  have hrn : refsM (holdM M a) a = refsM M a + 1 := refs_hold h
  have e : letE (holdM M a) a = 0 := by
    unfold letE
    rw [if_neg (by rw [(chk_zero _).2 ho]; simp), hs, if_neg (by simp), if_neg (by omega)]
  refine ⟨e, ?_⟩
  unfold letM
  rw [if_pos e]
  have hp := putN_hold h h0
  unfold putN at hp
  rwa [if_neg (by omega)] at hp

end Go.Proofs.Ytdbilofhcadmoab.mm

/- The contracts of slices.ContainsFunc over slots and of slices.IndexFunc over flows, with the literals that LookAlone hands them. -/
namespace Go.Proofs.Ytdbilofhcadmoab.mm
open Go.ChangeShapes Go.WideShapes Go.ChangeAt Go.RowKit Go.Joins Go.Deep
set_option maxRecDepth 100000
set_option linter.unusedVariables false

theorem lit35 (s : Sl) (w : World) : Calls Try.prog 41 #[.agg #[.int .i64 s.refs, .int .i64 s.a, .int .i64 s.b, .int .i64 s.unt, .bool s.inn, .int .i64 s.next]] w fun e w' => e = .returned (.bool (s.refs == 1000)) ∧ Below w.heap.size w w' := by
  go_enter Try.func41, Try.ntmps41
  go_wp2
  go_ret
  exact ⟨rfl, one_below _ _⟩

theorem idx81 (aS : Option Addr) (cS : Nat) (l : List Sl) (w : World) (r : SRow w aS cS l) :
    Calls Try.prog 105 #[.slice aS l.length cS, .func (.func 41) #[] #[]] w fun e w' => ∃ i : Int, e = .returned (.int .i64 i) ∧ ((i = -1 ∧ ∀ s ∈ l, s.refs ≠ 1000) ∨ (0 ≤ i ∧ ∃ s ∈ l, s.refs = 1000)) ∧ Below w.heap.size w w' := by
  have m1 := r.max
  have n1 : l.length ≤ 9223372036854775807 := by omega
  have HR : Hid (∀ W : World, Below w.heap.size w W → SRow W aS cS l) := fun W hb => r.below hb
  clear r
  go_enter Try.func105, Try.ntmps105
  go_wp2_with fail
  go_loopw [8] (fun i wr => ∃ k : Nat, k ≤ l.length ∧ i = .int .i64 k ∧ Hid (Below w.heap.size w wr) ∧ Hid (∀ j (h : j < l.length), j < k → l[j].refs ≠ 1000)) (fun i _ => l.length - (intOf i).toNat)
  case atStart => exact ⟨0, Nat.zero_le _, rfl, Below.refl _ _, fun j _ h => absurd h (Nat.not_lt_zero _)⟩
  case round =>
    obtain ⟨k, hk, rfl, HB, HN⟩ := hrel
    by_cases hlt : k < l.length
    · have HM : Hid (l[k] ∈ l) := List.getElem_mem hlt
      rcases (HR.out _ HB.out).at_ with h0 | ⟨b1, o1, rfl, hc1⟩
      · omega
      obtain ⟨x0, x1, x2, x3, x4, x5⟩ := hc1 k hlt
      clear hc1
      have HK : Hid (∀ x, l[k] = x → x.refs ≠ 1000 → ∀ j (h : j < l.length), j < k + 1 → l[j].refs ≠ 1000) := fun x e hx j h hj => by
        by_cases ej : j = k
        · subst ej; rw [e]; exact hx
        · exact HN.out j h (by omega)
      generalize hx : l[k] = x at x0 x1 x2 x3 x4 x5 HM
      have HX : Hid (∀ j (h : j < l.length), j < k + 1 → x.refs ≠ 1000 → l[j].refs ≠ 1000) := fun j h hj hn => HK.out x hx hn j h hj
      clear hx HK
      go_wp2_with fail
      refine (lit35 x wr).mono ?_
      rintro e w1 ⟨rfl, hb1⟩
      have HB1 : Hid (Below w.heap.size w w1) := HB.out.trans (hb1.mono HB.out.size)
      clear hb1 x0 x1 x2 x3 x4 x5
      by_cases hr : x.refs = 1000
      · have hq : (x.refs == 1000) = true := by simp [hr]
        have HR2 : Hid (x.refs = 1000) := hr
        clear hr
        go_wp2
        go_ret
        exact ⟨k, rfl, .inr ⟨by omega, x, HM.out, HR2.out⟩, HB1.out⟩
      · have hq : (x.refs == 1000) = false := by simp [hr]
        have HR2 : Hid (x.refs ≠ 1000) := hr
        clear hr
        go_wp2
        go_roundw
        case rel => exact ⟨k + 1, by omega, by go_num, HB1, fun j h hj => HX.out j h hj HR2.out⟩
        case measure => simp [intOf]; omega
    · obtain rfl : k = l.length := by omega
      go_wp2
      go_ret
      refine ⟨-1, rfl, .inl ⟨rfl, fun s hs => ?_⟩, HB.out⟩
      obtain ⟨j, hj, rfl⟩ := List.getElem_of_mem hs
      exact HN.out j hj hj

theorem has34 (aS : Option Addr) (cS : Nat) (l : List Sl) (w : World) (r : SRow w aS cS l) :
    Calls Try.prog 40 #[.slice aS l.length cS, .func (.func 41) #[] #[]] w fun e w' => ∃ b : Bool, e = .returned (.bool b) ∧ (b = false → ∀ s ∈ l, s.refs ≠ 1000) ∧ Below w.heap.size w w' := by
  have HI : Hid (SRow w aS cS l) := r
  clear r
  go_enter Try.func40, Try.ntmps40
  go_wp2_with fail
  refine (idx81 aS cS l w HI.out).mono ?_
  rintro e w1 ⟨i, rfl, h, hb⟩
  rcases h with ⟨rfl, h⟩ | ⟨h, -⟩
  · have HH : Hid _ := h
    have HB : Hid _ := hb
    clear h hb
    go_wp2
    go_ret
    exact ⟨false, rfl, fun _ => HH.out, HB.out⟩
  · have HB : Hid _ := hb
    have hd : decide (0 ≤ i) = true := by simpa using h
    clear hb
    go_wp2
    go_ret
    exact ⟨true, by simp, (fun h => by cases h), HB.out⟩

theorem lit39 (f : Fl) (K B : Nat) (a b : Int) (v0 v1 v2 v3 : Value) (now : Int) (w : World) (hK : w.heap[K]? = some (.cells #[.int .i64 a, .int .i64 b] 37 (0, 0))) (hB : w.heap[B]? = some (.cells #[v0, v1, v2, v3, .int .i64 now] 25 (0, 0))) :
    Calls Try.prog 45 #[.agg #[.int .i64 f.a, .int .i64 f.b, .int .i64 f.slot, .int .i64 f.unt], .pointer (some ⟨K, 0, none⟩), .pointer (some ⟨B, 0, none⟩)] w fun e w' => e = .returned (.bool (isF a b now f)) ∧ Below w.heap.size w w' := by
  have k0 : w.cell? ⟨K, 0, none⟩ = some (.int .i64 a) := by rw [cell_of_block hK]; rfl
  have k1 : w.cell? ⟨K, 1, none⟩ = some (.int .i64 b) := by rw [cell_of_block hK]; rfl
  have ks : K < w.heap.size := lt_of_block hK
  obtain ⟨q0, q1, q2, q3, q4, -, -, -, -, -, qs⟩ := boxf hB
  have se := kequal f.a f.b a b
  clear hK hB
  cases hq : (f.a == a && f.b == b)
  · have hr : isF a b now f = false := by unfold isF; rw [hq]; rfl
    rw [hr]
    go_enter Try.func45, Try.ntmps45
    go_wp2
    go_ret
    exact ⟨rfl, one_below _ _⟩
  · by_cases hu : now < f.unt
    · have hr : isF a b now f = true := by unfold isF; rw [hq]; simp [hu]
      rw [hr]
      go_enter Try.func45, Try.ntmps45
      go_wp2
      go_ret
      exact ⟨rfl, one_below _ _⟩
    · have hr : isF a b now f = false := by unfold isF; rw [hq]; simp [hu]
      rw [hr]
      go_enter Try.func45, Try.ntmps45
      go_wp2
      go_ret
      exact ⟨rfl, one_below _ _⟩

theorem idx38 (ao : Option Addr) (cap : Nat) (l : List Fl) (K B : Nat) (a b : Int) (v0 v1 v2 v3 : Value) (now : Int) (w : World) (r : FRow w ao cap l) (hK : w.heap[K]? = some (.cells #[.int .i64 a, .int .i64 b] 37 (0, 0))) (hB : w.heap[B]? = some (.cells #[v0, v1, v2, v3, .int .i64 now] 25 (0, 0))) :
    Calls Try.prog 44 #[.slice ao l.length cap, .func (.func 45) #[] #[.pointer (some ⟨K, 0, none⟩), .pointer (some ⟨B, 0, none⟩)]] w fun e w' => ∃ i : Int, e = .returned (.int .i64 i) ∧ ((i = -1 ∧ ∀ f ∈ l, isF a b now f = false) ∨ ∃ (j : Nat) (h : j < l.length), i = j ∧ isF a b now l[j] = true) ∧ Below w.heap.size w w' := by
  have m1 := r.max
  have n1 : l.length ≤ 9223372036854775807 := by omega
  have HR : Hid (∀ W : World, Below w.heap.size w W → FRow W ao cap l) := fun W hb => r.below hb
  have HC : Hid (∀ (W : World) (f : Fl), Below w.heap.size w W → Calls Try.prog 45 #[.agg #[.int .i64 f.a, .int .i64 f.b, .int .i64 f.slot, .int .i64 f.unt], .pointer (some ⟨K, 0, none⟩), .pointer (some ⟨B, 0, none⟩)] W fun e w' => e = .returned (.bool (isF a b now f)) ∧ Below W.heap.size W w') := fun W f hb => lit39 f K B a b v0 v1 v2 v3 now W ((hb.block _ (lt_of_block hK)).trans hK) ((hb.block _ (lt_of_block hB)).trans hB)
  clear r hK hB
  go_enter Try.func44, Try.ntmps44
  go_wp2_with fail
  go_loopw [8] (fun i wr => ∃ k : Nat, k ≤ l.length ∧ i = .int .i64 k ∧ Hid (Below w.heap.size w wr) ∧ Hid (∀ j (h : j < l.length), j < k → isF a b now l[j] = false)) (fun i _ => l.length - (intOf i).toNat)
  case atStart => exact ⟨0, Nat.zero_le _, rfl, Below.refl _ _, fun j _ h => absurd h (Nat.not_lt_zero _)⟩
  case round =>
    obtain ⟨k, hk, rfl, HBl, HN⟩ := hrel
    by_cases hlt : k < l.length
    · rcases (HR.out _ HBl.out).at_ with h0 | ⟨b1, o1, rfl, hc1⟩
      · omega
      obtain ⟨x0, x1, x2, x3⟩ := hc1 k hlt
      clear hc1
      have HX : Hid (∀ x, l[k] = x → isF a b now x = false → ∀ j (h : j < l.length), j < k + 1 → isF a b now l[j] = false) := fun x e hx j h hj => by
        by_cases ej : j = k
        · subst ej; rw [e]; exact hx
        · exact HN.out j h (by omega)
      generalize hx : l[k] = x at x0 x1 x2 x3
      have HXk : Hid (∃ h : k < l.length, l[k] = x) := ⟨hlt, hx⟩
      clear hx
      go_wp2_with fail
      refine (HC.out wr x HBl.out).mono ?_
      rintro e w1 ⟨rfl, hb1⟩
      have HB1 : Hid (Below w.heap.size w w1) := HBl.out.trans (hb1.mono HBl.out.size)
      clear hb1 x0 x1 x2 x3
      cases hq : isF a b now x
      · have HQ : Hid (isF a b now x = false) := hq
        clear hq
        go_wp2
        go_roundw
        case rel => exact ⟨k + 1, by omega, by go_num, HB1, fun j h hj => HX.out x HXk.out.2 HQ.out j h hj⟩
        case measure => simp [intOf]; omega
      · have HQ : Hid (isF a b now x = true) := hq
        clear hq
        go_wp2
        go_ret
        exact ⟨k, rfl, .inr ⟨k, HXk.out.1, rfl, by rw [HXk.out.2]; exact HQ.out⟩, HB1.out⟩
    · obtain rfl : k = l.length := by omega
      go_wp2
      go_ret
      refine ⟨-1, rfl, .inl ⟨rfl, fun s hs => ?_⟩, HBl.out⟩
      obtain ⟨j, hj, rfl⟩ := List.getElem_of_mem hs
      exact HN.out j hj hj

end Go.Proofs.Ytdbilofhcadmoab.mm

/- LookAlone's walk: a Look that goes on alone is done in time, finds what is mapped and not over, and changes nothing else. -/
namespace Go.Proofs.Ytdbilofhcadmoab.mm
open Go.ChangeShapes Go.WideShapes Go.ChangeAt Go.RowKit Go.Joins Go.Deep Go.Sort
set_option maxRecDepth 100000
set_option linter.unusedVariables false

theorem eqM_same (N : Mm) : eqM N N = true := by
  unfold eqM
  rw [(eqS_iff _ _).2 rfl, (eqI_iff _ _).2 rfl, (eqI_iff _ _).2 rfl, (eqI_iff _ _).2 rfl]
  simp

theorem fit_look {M : Mm} (hM : Ok M) {ka kb : Int} (hk : keyB ka kb = true) : Fit M (newF ⟨1, ka, kb, 0, 0, 0⟩) := by
  refine ⟨?_, by simp [newF], (show inB 0 0 1000000 = true by decide), rfl, ?_, ?_, ?_, by simp [newF]⟩
  · show callE _ _ ⟨1, ka, kb, 0, 0, 0⟩ = 0
    rw [callE_key (.inl rfl), if_pos hk]
  · show _ ∧ _
    simp only [newF]
    omega
  · simp only [newF]
    omega
  · simp only [newF]
    omega

theorem alone37 {B lo : Nat} {Z : Nat → Prop} {M X : Mm} {c : Cl} {g : Fr} {most : Int} (w : World) (n : Nat) (hn : n ≤ 1000) (hm : most = (n : Int)) (hG : LkG M (newF c)) (h1 : lkRun n M (newF c) = (X, g, true)) (hM : Has w B lo Z M) (hZ : ∀ k, Z k → k < w.heap.size) :
    Calls Try.prog 42 #[.agg #[.int .i64 c.kind, .int .i64 c.a, .int .i64 c.b, .int .i64 c.time, .int .i64 c.bk, .int .i64 c.slot], .int .i64 most, .func (.func 43) #[] #[.pointer (some ⟨B, 0, none⟩)]] w fun e w' =>
      (∃ a c', e = .returned (.tuple #[.agg #[.int .i64 g.c.kind, .int .i64 g.c.a, .int .i64 g.c.b, .int .i64 g.c.time, .int .i64 g.c.bk, .int .i64 g.c.slot, .int .i64 g.pl, .int .i64 g.cur, .int .i64 g.prev, .int .i64 g.slot, .int .i64 g.n, .slice a g.keys.length c', .bool g.done, .int .i64 g.e], .bool true])) ∧ Has w' B lo (Up w Z) X ∧ Fine w w' Z := by
  subst hm
  have h := alone_any 43 #[.pointer (some ⟨B, 0, none⟩)] lkF lkM LkG B lo Z M c n w (fun args W => by kernel_rfl) (fun M f W Z h h' => clos37 M f B lo Z W h h') (fun M f h hd => lkG_next h hd) hM hZ hG hn
  rw [run_look, h1] at h
  exact h

set_option maxHeartbeats 6400000 in
theorem lookAlone_any (M : Mm) (ka kb : Int) (v : Value) (w : World) (A0 : Ans 0 w v M) :
    Calls Try.prog 7 #[v, .agg #[.int .i64 ka, .int .i64 kb]] w fun e w' => e = .returned (.bool true) ∧ Below w.heap.size w w' := by
  have HA : Hid (Ans 0 w v M) := A0
  obtain ⟨aS, aH, aF, aL, cS, cH, cF, cL, rfl⟩ := A0.form
  obtain ⟨om, hom⟩ : ∃ o : Obj, o = .cells #[.slice aS M.slots.length cS, .slice aH M.heads.length cH, .slice aF M.free.length cF, .slice aL M.locks.length cL, .int .i64 M.now] 25 := ⟨_, rfl⟩
  obtain ⟨ok, hok⟩ : ∃ o : Obj, o = .cells #[.int .i64 ka, .int .i64 kb] 37 := ⟨_, rfl⟩
  have HE0 : Hid (Env w ((w.alloc om).alloc ok) [((w.alloc om).heap.size, ok), (w.heap.size, om)] []) := ((⟨Below.refl _ _, (fun p hp => by cases hp), (fun p hp => by cases hp)⟩ : Env w w [] []).alloc om).alloc ok
  rw [show (w.alloc om).heap.size = w.heap.size + 1 by simp] at HE0
  have HBm : Hid (∀ W : World, W.heap[w.heap.size]? = some om → W.heap[w.heap.size]? = some (.cells #[.slice aS M.slots.length cS, .slice aH M.heads.length cH, .slice aF M.free.length cF, .slice aL M.locks.length cL, .int .i64 M.now] 25 (0, 0))) := fun W E => hom ▸ E
  have HBk : Hid (∀ W : World, W.heap[w.heap.size + 1]? = some ok → W.heap[w.heap.size + 1]? = some (.cells #[.int .i64 ka, .int .i64 kb] 37 (0, 0))) := fun W E => hok ▸ E
  have HMx : Hid (M.slots.length * 48 ≤ 140737488351232 ∧ M.heads.length * 8 ≤ 140737488351232 ∧ M.free.length * 8 ≤ 140737488351232 ∧ M.locks.length * 8 ≤ 140737488351232) := ⟨A0.at_.s.max, A0.at_.h.max, A0.at_.f.max, A0.at_.l.max⟩
  obtain ⟨L, hL⟩ : ∃ L, flowsM M = L := ⟨_, rfl⟩
  obtain ⟨E0, hE⟩ : ∃ E, chkC M = E := ⟨_, rfl⟩
  have HL : Hid (flowsM M = L) := hL
  have HE : Hid (chkC M = E0) := hE
  clear A0 hL hE
  go_enter Try.func7, Try.ntmps7
  obtain ⟨q0, q1, q2, q3, q4, -, -, -, -, -, qs⟩ := boxf (HBm.out _ (HE0.out.box _ (.tail _ (.head _))))
  rw [hom, hok] at q0 q1 q2 q3 q4 qs
  go_wp2_with fail
  clear q0 q1 q2 q3 q4 qs
  rw [← hom, ← hok]
  generalize (w.alloc om).alloc ok = W0 at *
  clear hom hok
  refine (flows_at HL.out HE.out _ W0 0 (HA.out.below HE0.out.bl)).mono ?_
  rintro e w1 ⟨ao, cap, rfl, fr, hb1⟩
  have HF : Hid (FRow w1 ao cap L) := fr
  have HE1' : Hid (Env w w1 [(w.heap.size + 1, ok), (w.heap.size, om)] []) := HE0.out.below hb1
  have HE1 : Hid (Env w1 w1 [(w.heap.size + 1, ok), (w.heap.size, om)] []) := ⟨Below.refl _ _, HE1'.out.box, fun p hp => by cases hp⟩
  have HW1 : Hid (Below w.heap.size w w1) := HE1'.out.bl
  have HKl : Hid (w.heap.size + 1 < w1.heap.size) := HE1'.out.lt (.head _)
  clear HE0 hb1 fr HE1'
  go_wp2_with fail
  refine (looked_any w1).mono ?_
  rintro e w2 ⟨rfl, hb2⟩
  have HE2 : Hid (Env w1 w2 [(w.heap.size + 1, ok), (w.heap.size, om)] []) := HE1.out.below hb2
  clear HE1 hb2
  by_cases hz : E0 = 0
  rotate_left
  · have hq : (E0 == 0) = false := by simpa using hz
    have hq2 : (E0 != 0) = true := by simpa using hz
    clear hz
    go_wp2_with fail
    refine (looked_any w2).mono ?_
    rintro e w3 ⟨rfl, hb3⟩
    have HE3 : Hid _ := HE2.out.below hb3
    go_wp2
    go_ret
    exact ⟨rfl, HW1.out.trans (HE3.out.bl.mono HW1.out.size)⟩
  subst hz
  have HOk : Hid (OkC M) := (chkC_zero M).1 HE.out
  have HL' : Hid (L = (allC M).map (flowAt M)) := by have h := HL.out; unfold flowsM at h; rw [if_pos HE.out] at h; exact h.symm
  clear HE HL
  have k0 : w2.cell? ⟨w.heap.size + 1, 0, none⟩ = some (.int .i64 ka) := by rw [cell_of_block (HBk.out _ (HE2.out.box _ (.head _)))]; rfl
  have k1 : w2.cell? ⟨w.heap.size + 1, 1, none⟩ = some (.int .i64 kb) := by rw [cell_of_block (HBk.out _ (HE2.out.box _ (.head _)))]; rfl
  go_wp2_with fail
  clear k0 k1
  refine (kcheck_any ka kb w2).mono ?_
  rintro e w3 ⟨rfl, hb3⟩
  have HE3 : Hid (Env w1 w3 [(w.heap.size + 1, ok), (w.heap.size, om)] []) := HE2.out.below hb3
  clear HE2 hb3
  cases hkey : keyB ka kb
  · simp only [Bool.false_eq_true, if_false]
    go_wp2_with fail
    refine (looked_any w3).mono ?_
    rintro e w4 ⟨rfl, hb4⟩
    have HE4 : Hid _ := HE3.out.below hb4
    go_wp2
    go_ret
    exact ⟨rfl, HW1.out.trans (HE4.out.bl.mono HW1.out.size)⟩
  have HKy : Hid (keyB ka kb = true) := hkey
  simp only [if_true]
  clear hkey
  have HAt : Hid (∀ W : World, Below w1.heap.size w1 W → At W aS aH aF aL cS cH cF cL M) := fun W hb => (HA.out.at_.below HW1.out).below hb
  obtain ⟨q0, q1, q2, q3, q4, -, -, -, -, -, qs⟩ := boxf (HBm.out _ (HE3.out.box _ (.tail _ (.head _))))
  go_wp2_with fail
  clear q0 q1 q2 q3 q4 qs
  refine (has34 aS cS M.slots w3 (HAt.out _ HE3.out.bl).s).mono ?_
  rintro e w4 ⟨bb, rfl, hbb, hb4⟩
  have HE4 : Hid (Env w1 w4 [(w.heap.size + 1, ok), (w.heap.size, om)] []) := HE3.out.below hb4
  clear HE3 hb4
  cases bb
  rotate_left
  · clear hbb
    go_wp2
    go_ret
    exact ⟨rfl, HW1.out.trans (HE4.out.bl.mono HW1.out.size)⟩
  have HRf : Hid (∀ i, isSl M i = true → refsM M i ≠ 1000) := fun i h => hbb rfl _ (slotAt_mem h)
  clear hbb
  obtain ⟨X, g, hrun, hfound⟩ := run_all HOk.out HRf.out (c := ⟨1, ka, kb, 0, 0, 0⟩) rfl HKy.out
  have hbk := bk_look HOk.out.ok (c := ⟨1, ka, kb, 0, 0, 0⟩) rfl HKy.out
  have hbin := bkOf_in HOk.out.ok (fit_look HOk.out.ok HKy.out).call
  have HRun : Hid (lkRun (2 * M.slots.length + 6) M (newF ⟨1, ka, kb, 0, 0, 0⟩) = (X, g, true)) := hrun
  have HNo : Hid ((∀ f ∈ L, isF ka kb M.now f = false) → X = M ∧ g.e = 5) := fun h => found_none (b := (bkOf M.heads.length ⟨1, ka, kb, 0, 0, 0⟩).toNat) (by have h2 : bkOf M.heads.length ⟨1, ka, kb, 0, 0, 0⟩ < _ := hbin.2; omega) hfound (by rw [← HL'.out]; exact h)
  have HYes : Hid (∀ f ∈ L, isF ka kb M.now f = true → X = holdM M f.slot ∧ g.e = 0 ∧ g.slot = f.slot ∧ isSl M f.slot = true ∧ 0 < refsM M f.slot) := fun f hf h => found_some HOk.out (b := (bkOf M.heads.length ⟨1, ka, kb, 0, 0, 0⟩).toNat) (by have h2 : bkOf M.heads.length ⟨1, ka, kb, 0, 0, 0⟩ < _ := hbin.2; omega) (by have h2 : 0 ≤ bkOf M.heads.length ⟨1, ka, kb, 0, 0, 0⟩ := hbin.1; rw [hbk] at h2 ⊢; omega) hfound (by rw [← HL'.out]; exact hf) h
  have HNs : Hid (M.slots.length ≤ 12 ∧ M.free.length ≤ 12) := ⟨HOk.out.ok.ns, free_few HOk.out.ok⟩
  have hns : M.slots.length ≤ 12 := HNs.out.1
  have HG : Hid (LkG M (newF ⟨1, ka, kb, 0, 0, 0⟩)) := ⟨HOk.out.ok, fit_look HOk.out.ok HKy.out, rfl⟩
  clear hrun hfound hbk hbin
  obtain ⟨q0, q1, q2, q3, q4, -, -, -, -, -, qs⟩ := boxf (HBm.out _ (HE4.out.box _ (.tail _ (.head _))))
  go_wp2_with fail
  clear q0 q1 q2 q3 q4 qs
  refine (ownMem_any M aS aH aF aL cS cH cF cL w4 (HAt.out _ HE4.out.bl)).mono ?_
  rintro e w5 ⟨xS, xH, xF, xL, kS, kH, kF, kL, rfl, R5, hb5⟩
  obtain ⟨ox, hox⟩ : ∃ o : Obj, o = .cells #[.slice xS M.slots.length kS, .slice xH M.heads.length kH, .slice xF M.free.length kF, .slice xL M.locks.length kL, .int .i64 M.now] 25 := ⟨_, rfl⟩
  have HM5 : Hid (Mine (w5.alloc ox) w5.heap.size w4.heap.size xS xH xF xL kS kH kF kL M) := by
    obtain ⟨x1, x2, x3, x4⟩ := HMx.out
    have := HNs.out
    rw [hox]
    exact Mine.made R5 (by omega) (by omega) (by omega) (by omega)
  have HE5 : Hid (Env w1 (w5.alloc ox) [(w.heap.size + 1, ok), (w.heap.size, om)] []) := (HE4.out.below hb5).below (one_below _ _)
  have HF5 : Hid (∀ k, Foot w5.heap.size xS xH xF xL k → w1.heap.size ≤ k) := HM5.out.foot (by have := hb5.size; have := HE4.out.bl.size; omega) HE4.out.bl.size
  clear R5 hb5 HE4
  obtain ⟨q0, q1, q2, q3, q4, -, -, -, -, -, qs⟩ := boxf (HBm.out _ (HE5.out.box _ (.tail _ (.head _))))
  have k0 : (w5.alloc ox).cell? ⟨w.heap.size + 1, 0, none⟩ = some (.int .i64 ka) := by rw [cell_of_block (HBk.out _ (HE5.out.box _ (.head _)))]; rfl
  have k1 : (w5.alloc ox).cell? ⟨w.heap.size + 1, 1, none⟩ = some (.int .i64 kb) := by rw [cell_of_block (HBk.out _ (HE5.out.box _ (.head _)))]; rfl
  rw [hox] at q0 q1 q2 q3 q4 qs k0 k1
  go_wp2_with fail
  clear q0 q1 q2 q3 q4 qs k0 k1
  rw [← hox]
  generalize w5.alloc ox = W5 at *
  generalize w5.heap.size = B at *
  generalize w4.heap.size = lo at *
  clear hox
  refine (alone37 (c := ⟨1, ka, kb, 0, 0, 0⟩) W5 (2 * M.slots.length + 6) (by omega) (by omega) HG.out HRun.out ⟨_, _, _, _, _, _, _, _, HM5.out, fun _ h => h⟩ (foot_lt HM5.out)).mono ?_
  rintro e w6 ⟨⟨ga, gk, rfl⟩, ⟨yS, yH, yF, yL, jS, jH, jF, jL, m6, -⟩, hf6⟩
  obtain ⟨og, hog⟩ : ∃ o : Obj, o = .cells #[.int .i64 g.c.kind, .int .i64 g.c.a, .int .i64 g.c.b, .int .i64 g.c.time, .int .i64 g.c.bk, .int .i64 g.c.slot, .int .i64 g.pl, .int .i64 g.cur, .int .i64 g.prev, .int .i64 g.slot, .int .i64 g.n, .slice ga g.keys.length gk, .bool g.done, .int .i64 g.e] 51 := ⟨_, rfl⟩
  have HE6 : Hid (Env w1 (w6.alloc og) [(w6.heap.size, og), (w.heap.size + 1, ok), (w.heap.size, om)] []) := (HE5.out.fine hf6 HF5.out (fun p hp => by
    have := HKl.out
    rcases List.mem_cons.1 hp with rfl | hp
    · intro h; have := HF5.out _ h; dsimp only at this; omega
    rcases List.mem_cons.1 hp with rfl | hp
    · intro h; have := HF5.out _ h; dsimp only at this; omega
    cases hp)).alloc og
  have HM6 : Hid (Mine (w6.alloc og) B lo yS yH yF yL jS jH jF jL X) := m6.below (one_below _ _)
  have HBg : Hid (∀ (W : World) (G : Nat), W.heap[G]? = some og → W.heap[G]? = some (.cells #[.int .i64 g.c.kind, .int .i64 g.c.a, .int .i64 g.c.b, .int .i64 g.c.time, .int .i64 g.c.bk, .int .i64 g.c.slot, .int .i64 g.pl, .int .i64 g.cur, .int .i64 g.prev, .int .i64 g.slot, .int .i64 g.n, .slice ga g.keys.length gk, .bool g.done, .int .i64 g.e] 51 (0, 0))) := fun W G E => hog ▸ E
  clear HM5 HE5 HF5 hf6 m6 HG HRun
  go_wp2_with fail
  rw [← hog]
  generalize w6.alloc og = W6 at *
  generalize w6.heap.size = G at *
  clear hog
  refine (idx38 ao cap L (w.heap.size + 1) w.heap.size ka kb _ _ _ _ M.now W6 (HF.out.below HE6.out.bl) (HBk.out _ (HE6.out.box _ (.tail _ (.head _)))) (HBm.out _ (HE6.out.box _ (.tail _ (.tail _ (.head _)))))).mono ?_
  rintro e w7 ⟨i, rfl, hi, hb7⟩
  have HE7 : Hid (Env w1 w7 [(G, og), (w.heap.size + 1, ok), (w.heap.size, om)] []) := HE6.out.below hb7
  have HM7 : Hid (Mine w7 B lo yS yH yF yL jS jH jF jL X) := HM6.out.below hb7
  clear HE6 HM6 hb7
  rcases hi with ⟨rfl, hno⟩ | ⟨j, hj, rfl, hyes⟩
  · obtain ⟨hX, hge⟩ := HNo.out hno
    subst hX
    clear hno HYes HNo
    have HMa : Hid (Ans 0 w7 (.agg #[.slice aS X.slots.length cS, .slice aH X.heads.length cH, .slice aF X.free.length cF, .slice aL X.locks.length cL, .int .i64 X.now]) X) := (HA.out.below HW1.out).below HE7.out.bl
    obtain ⟨q0, q1, q2, q3, q4, -, -, -, -, -, qs⟩ := boxf (HBm.out _ (HE7.out.box _ (.tail _ (.tail _ (.head _)))))
    obtain ⟨p0, p1, p2, p3, p4, -, -, -, -, -, ps⟩ := boxf HM7.out.box
    obtain ⟨g0, g1, g2, g3, g4, g5, g6, g7, g8, g9, g10, g11, g12, g13, -, gs⟩ := framef (HBg.out _ _ (HE7.out.box _ (.head _)))
    rw [hge] at g13
    go_wp2_with fail
    have c1 := same_any X X _ _ w7 lo 0 HM7.out.ans HMa.out
    rw [eqM_same] at c1
    refine c1.mono ?_
    rintro e w8 ⟨rfl, hb8⟩
    have HE8 : Hid _ := HE7.out.below hb8
    clear c1 hb8 q0 q1 q2 q3 q4 qs p0 p1 p2 p3 p4 ps g0 g1 g2 g3 g4 g5 g6 g7 g8 g9 g10 g11 g12 g13 gs
    go_wp2
    go_ret
    exact ⟨rfl, HW1.out.trans (HE8.out.bl.mono HW1.out.size)⟩
  · obtain ⟨hX, hge, hgs, hsl, hrp⟩ := HYes.out _ (List.getElem_mem hj) hyes
    have hlet := let_back HOk.out.ok hsl hrp (HRf.out _ hsl)
    rw [← hX, ← hgs] at hlet
    have HLt : Hid (∀ (W : World) (v : Value), Ans lo W v X → Calls Try.prog 47 #[v, .int .i64 g.slot] W fun e w' => ∃ v, e = .returned (.tuple #[v, .int .i64 0]) ∧ Ans W.heap.size w' v M ∧ Below W.heap.size W w') := fun W v a => by
      have h := let_any X v g.slot W lo a
      rw [hlet.1, hlet.2] at h
      exact h
    have HGs : Hid (g.slot = L[j].slot) := hgs
    clear hyes HYes HNo hX hlet hsl hrp hgs
    have hjl : (j : Int) < L.length := by omega
    obtain ⟨q0, q1, q2, q3, q4, -, -, -, -, -, qs⟩ := boxf (HBm.out _ (HE7.out.box _ (.tail _ (.tail _ (.head _)))))
    obtain ⟨p0, p1, p2, p3, p4, -, -, -, -, -, ps⟩ := boxf HM7.out.box
    obtain ⟨g0, g1, g2, g3, g4, g5, g6, g7, g8, g9, g10, g11, g12, g13, -, gs⟩ := framef (HBg.out _ _ (HE7.out.box _ (.head _)))
    rw [hge] at g13
    go_wp2_with fail
    clear q0 q1 q2 q3 q4 qs p0 p1 p2 p3 p4 ps g0 g1 g2 g3 g4 g5 g6 g7 g8 g9 g10 g11 g12 g13 gs
    refine (HLt.out w7 _ HM7.out.ans).mono ?_
    rintro e w8 ⟨vy, rfl, ay, hb8⟩
    obtain ⟨zS, zH, zF, zL, lS, lH, lF, lL, rfl⟩ := ay.form
    obtain ⟨oy, hoy⟩ : ∃ o : Obj, o = .cells #[.slice zS M.slots.length lS, .slice zH M.heads.length lH, .slice zF M.free.length lF, .slice zL M.locks.length lL, .int .i64 M.now] 25 := ⟨_, rfl⟩
    have HE8 : Hid (Env w1 (w8.alloc oy) [(w8.heap.size, oy), (G, og), (w.heap.size + 1, ok), (w.heap.size, om)] []) := (HE7.out.below hb8).alloc oy
    have HY8 : Hid (Ans 0 (w8.alloc oy) (.agg #[.slice zS M.slots.length lS, .slice zH M.heads.length lH, .slice zF M.free.length lF, .slice zL M.locks.length lL, .int .i64 M.now]) M) := (ay.mono (Nat.zero_le _)).below (one_below _ _)
    have HMa : Hid (Ans 0 (w8.alloc oy) (.agg #[.slice aS M.slots.length cS, .slice aH M.heads.length cH, .slice aF M.free.length cF, .slice aL M.locks.length cL, .int .i64 M.now]) M) := (HA.out.below HW1.out).below HE8.out.bl
    have hBy : (w8.alloc oy).heap[w8.heap.size]? = some (.cells #[.slice zS M.slots.length lS, .slice zH M.heads.length lH, .slice zF M.free.length lF, .slice zL M.locks.length lL, .int .i64 M.now] 25 (0, 0)) := hoy ▸ HE8.out.box _ (.head _)
    rcases (HF.out.below HE8.out.bl).at_ with h0 | ⟨b1, o1, rfl, hc1⟩
    · omega
    obtain ⟨-, -, x2, -⟩ := hc1 j hj
    rw [← HGs.out] at x2
    clear hc1 ay hb8 HE7 HM7 HLt
    obtain ⟨q0, q1, q2, q3, q4, -, -, -, -, -, qs⟩ := boxf (HBm.out _ (HE8.out.box _ (.tail _ (.tail _ (.tail _ (.head _))))))
    obtain ⟨p0, p1, p2, p3, p4, -, -, -, -, -, ps⟩ := boxf hBy
    obtain ⟨g0, g1, g2, g3, g4, g5, g6, g7, g8, g9, g10, g11, g12, g13, -, gs⟩ := framef (HBg.out _ _ (HE8.out.box _ (.tail _ (.head _))))
    rw [hge] at g13
    rw [hoy] at q0 q1 q2 q3 q4 qs p0 p1 p2 p3 p4 ps x2 g0 g1 g2 g3 g4 g5 g6 g7 g8 g9 g10 g11 g12 g13 gs
    clear hBy
    go_wp2_with fail
    rw [← hoy] at q0 q1 q2 q3 q4 qs p0 p1 p2 p3 p4 ps x2 g0 g1 g2 g3 g4 g5 g6 g7 g8 g9 g10 g11 g12 g13 gs ⊢
    generalize w8.alloc oy = W8 at *
    generalize w8.heap.size = Y at *
    clear hoy
    have cS : ∀ (d : Nat) (os : Array Obj), Calls Try.prog 46 #[.agg #[.slice zS M.slots.length lS, .slice zH M.heads.length lH, .slice zF M.free.length lF, .slice zL M.locks.length lL, .int .i64 M.now], .agg #[.slice aS M.slots.length cS, .slice aH M.heads.length cH, .slice aF M.free.length cF, .slice aL M.locks.length cL, .int .i64 M.now]] (grow (redrawn W8 d) os) fun e w'' => e = .returned (.bool true) ∧ ∃ p : Regrown, w'' = grow (redrawn W8 p.d) p.os := fun d os => Calls.regrown_of (by
      have h := same_any M M _ _ (grow (redrawn W8 d) os) 0 0 (HY8.out.below (below_regrown W8 d os)) (HMa.out.below (below_regrown W8 d os))
      rw [eqM_same] at h
      exact h)
    have Q0 := cell_regrown q0; have Q1 := cell_regrown q1; have Q2 := cell_regrown q2; have Q3 := cell_regrown q3; have Q4 := cell_regrown q4
    have P0 := cell_regrown p0; have P1 := cell_regrown p1; have P2 := cell_regrown p2; have P3 := cell_regrown p3; have P4 := cell_regrown p4
    have G9 := cell_regrown g9; have G13 := cell_regrown g13; have X2 := cell_regrown x2
    clear q0 q1 q2 q3 q4 qs p0 p1 p2 p3 p4 ps x2 g0 g1 g2 g3 g4 g5 g6 g7 g8 g9 g10 g11 g12 g13 gs
    refine wp_region_quiet_below (by kernel_rfl) (by kernel_rfl) ?_
    repeat (quiet_step (first | exact cS _ _))
    refine wpQuiet_nil ?_
    intro _ hw'
    obtain ⟨⟨dq, osq⟩, hw''⟩ := hw'
    subst hw''
    have HB9 : Hid (Below W8.heap.size W8 (grow (redrawn W8 dq) osq)) := below_regrown W8 dq osq
    generalize grow (redrawn W8 dq) osq = w9 at *
    clear cS Q0 Q1 Q2 Q3 Q4 P0 P1 P2 P3 P4 G9 G13 X2
    go_wp2
    go_ret
    exact ⟨rfl, HW1.out.trans ((HE8.out.bl.trans (HB9.out.mono HE8.out.bl.size)).mono HW1.out.size)⟩

end Go.Proofs.Ytdbilofhcadmoab.mm

namespace Go.Proofs.Ytdbilofhcadmoab.lookAlone
open Go.ChangeShapes Go.WideShapes Go.ChangeAt Go.RowKit Go.Joins
open Go.Proofs.Ytdbilofhcadmoab.mm
set_option linter.unusedVariables false

theorem laidOut : laidOutB Try.prog = true := by kernel_rfl

set_option maxRecDepth 100000 in
theorem lifted (os : Os) (started : os.Started) (H : Type) (enc : TypeId × Value → H) :
    ReturnsInHanded {} Try.checked os 7 .any (Rows.lookAloneSpec.pre6 enc Try.prog Try.f7 Rows.lookAloneRow.domain false) (Rows.lookAloneSpec.post enc Try.prog Try.f7 false true false false) := by
  refine returnsInHanded_of_change_sized (C := Try.checked) own started (by kernel_rfl) Try.func7
    (ChangeSpec.witness6 (enc := enc) (C := Try.checked) false ⟨#[], #[.agg #[.slice none 0 0, .slice none 0 0, .slice none 0 0, .slice none 0 0, .int .i64 0], .agg #[.int .i64 0, .int .i64 0]], []⟩ 8 (by kernel_rfl) (by kernel_rfl) (by kernel_rfl) (by kernel_rfl)) ?_
  intro W base args ds gs before hval0 hW _ hsz0 _
  have hsz : (DataW.weightsEach Try.prog (Try.f7.params.toList ++ Rows.lookAloneSpec.plain.varTypes Try.prog) (ds ++ gs)).all (· ≤ reachBytes) = true := hsz0
  have hval : ∀ (j : Nat) t v, Try.f7.params[j]? = some t → args[j]? = some v → Value.okWide Try.prog W .any base t v := hval0
  have hW' := hW
  obtain ⟨p, q, hA0, hV, rfl, _, _⟩ := hW
  have hA : DataW.TrodAll enc Try.prog W 0 (fun _ => true) true Try.f7.params.toList args.toList ds p := hA0
  rw [Try.params7] at hA hval hsz
  obtain ⟨v0, v1, d0, d1, p0, p1, rfl, rfl, rfl, h0, h1⟩ := trodAll_two hA
  obtain ⟨rfl, rfl⟩ := trodVars_none hV
  clear hA0 hval0 hsz0
  simp only [List.append_nil] at hW'
  have hlt : ∀ x ∈ p0 ++ p1, x.block < W.heap.size := fun x hx => by simpa using hW'.lt x hx
  obtain ⟨M0, A0⟩ := open_mem (hval 0 25 v0 rfl rfl) h0 (fun n hn => by
    have := List.all_eq_true.1 hsz n (DataW.weights_mem_each (j := 0) (t := 25) (d := d0) rfl rfl n hn)
    simpa using this)
  have h0k := h0
  have h1k := h1
  obtain ⟨c0, c1, y0, y1, m, rfl, hd1, hp1, hy0, hy1⟩ := open_agg2 Try.underlying37 (by kernel_rfl) cells37 (hval 1 37 v1 rfl rfl) h1
  obtain ⟨a1, e0, -⟩ := DataW.trod_int Try.underlying3 hy0
  obtain ⟨b1, e1, -⟩ := DataW.trod_int Try.underlying3 hy1
  simp only [List.cons.injEq, and_true] at e0 e1
  subst e0 e1
  refine (lookAlone_any M0 a1 b1 v0 W A0).mono fun e W' ⟨he, hnx⟩ => ?_
  subst he
  refine ⟨_, rfl, _, _, _, [], p0 ++ p1, [], hW', ?_, ?_, rfl, hnx.frame _, fun h => by cases h⟩
  · exact trodAll_mk1 (shut_bool Try.underlying4 _)
  · exact trodAll_mk2 (Below.trod laidOut (by kernel_rfl) (of_decide_eq_true (by kernel_rfl)) h0k hnx (fun x hx => hlt x (by simp [hx]))) (Below.trod laidOut (by kernel_rfl) (of_decide_eq_true (by kernel_rfl)) h1k hnx (fun x hx => hlt x (by simp [hx])))

theorem row_holds : Rows.LookAloneSaid :=
  OpenClaim.holds_of_wide 7 Try.f7 rfl rfl rfl rfl rfl rfl rfl ⟨rfl, rfl, rfl, rfl, rfl⟩ rfl rfl rfl rfl rfl (by kernel_rfl) Try.func7 (by kernel_rfl)
    (of_decide_eq_true (by kernel_rfl)) (by unfold Func.isWrapper; first | (rw [if_pos (by decide +kernel)]; kernel_rfl) | (rw [if_neg (by decide +kernel)]; exact ⟨rfl, rfl⟩))
    (fun os started H enc _ => lifted os started H enc)
#print axioms row_holds


end Go.Proofs.Ytdbilofhcadmoab.lookAlone
