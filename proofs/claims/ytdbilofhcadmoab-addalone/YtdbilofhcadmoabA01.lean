/- What a Look finds that goes on alone, held against what is mapped. -/
import Derived.Test.YtdbilofhcadmoabC30
import Derived.Test.YtdbilofhcadmoabC11
import Derived.Test.YtdbilofhcadmoabC14
import Derived.Test.YtdbilofhcadmoabC15
import Derived.Test.YtdbilofhcadmoabC16
import Derived.Test.YtdbilofhcadmoabC32
import Derived.Test.YtdbilofhcadmoabC31
import Derived.Test.YtdbilofhcadmoabC33
import Derived.Test.YtdbilofhcadmoabC35
import Derived.Deep.QuietTactic
import Derived.BigQuiet
import Derived.Lib.QuietBelow
namespace Go.Proofs.Ytdbilofhcadmoab.mm
set_option linter.unusedVariables false

def isF (a b now : Int) (f : Fl) : Bool := (f.a == a && f.b == b) && decide (now < f.unt)

theorem inj_nodup {α β : Type} (f : α → β) : ∀ (l : List α), (l.map f).Nodup → ∀ x ∈ l, ∀ y ∈ l, f x = f y → x = y
  | [], _, x, hx, _, _, _ => by cases hx
  | a :: l, h, x, hx, y, hy, e => by
    rw [List.map_cons, List.nodup_cons] at h
    rcases List.mem_cons.1 hx with h1 | h1
    · rcases List.mem_cons.1 hy with h2 | h2
      · rw [h1, h2]
      · rw [h1] at e
        exact (h.1 (List.mem_map.2 ⟨y, h2, e.symm⟩)).elim
    · rcases List.mem_cons.1 hy with h2 | h2
      · rw [h2] at e
        exact (h.1 (List.mem_map.2 ⟨x, h1, e⟩)).elim
      · exact inj_nodup f l h.2 x h1 y h2 e

theorem bk_look {M : Mm} (hM : Ok M) {c : Cl} (hk : c.kind = 1) (hkey : keyB c.a c.b = true) : bkOf M.heads.length c = bucket c.a c.b M.heads.length := by
  obtain ⟨n1, n2⟩ := hM.nh
  unfold bkOf
  rw [if_neg (by omega), if_pos hkey, if_pos ⟨n1, n2⟩]

theorem isF_iff {M : Mm} {a b : Int} {x : Int} : isF a b M.now (flowAt M x) = true ↔ keyAt M x = (a, b) ∧ M.now < (slotAt M x).unt := by
  unfold isF flowAt keyAt
  simp

theorem found_none {M : Mm} {c : Cl} {b : Nat} (hb : b < M.heads.length) {X : Mm} {g : Fr} (hF : Found M c (chL M b) X g) (hn : ∀ f ∈ (allC M).map (flowAt M), isF c.a c.b M.now f = false) : X = M ∧ g.e = 5 := by
  unfold Found at hF
  split at hF
  · exact hF
  · rename_i a ha
    have h1 := List.mem_of_find?_eq_some ha
    have h2 := List.find?_some ha
    have h3 : a ∈ allC M := mem_allC.2 ⟨b, hb, h1⟩
    have h4 := hn _ (List.mem_map.2 ⟨a, h3, rfl⟩)
    split at hF
    · rename_i hlt
      exfalso
      have : isF c.a c.b M.now (flowAt M a) = true := isF_iff.2 ⟨by simpa using h2, hlt⟩
      rw [h4] at this
      cases this
    · exact hF

theorem found_some {M : Mm} (hM : OkC M) {c : Cl} {b : Nat} (hb : b < M.heads.length) (hbk : bucket c.a c.b M.heads.length = b) {X : Mm} {g : Fr} (hF : Found M c (chL M b) X g) {f : Fl} (hf : f ∈ (allC M).map (flowAt M)) (hp : isF c.a c.b M.now f = true) :
    X = holdM M f.slot ∧ g.e = 0 ∧ g.slot = f.slot ∧ isSl M f.slot = true ∧ 0 < refsM M f.slot := by
  obtain ⟨a, ha, rfl⟩ := List.mem_map.1 hf
  obtain ⟨b', hb', hab⟩ := mem_allC.1 ha
  obtain ⟨r0, _, hbu⟩ := hM.held b' hb' a hab
  obtain ⟨hk, hlt⟩ := isF_iff.1 hp
  have hk1 : (slotAt M a).a = c.a ∧ (slotAt M a).b = c.b := by unfold keyAt at hk; simpa using hk
  rw [hk1.1, hk1.2, hbk] at hbu
  have hbb : b = b' := by omega
  subst hbb
  have hsl : isSl M a = true := isSl_in.2 (hM.allSlots a ha)
  have hrf : 0 < refsM M a := by
    have := (slot_refs hM.ok hsl).1
    have h2 : refsM M a ≠ 0 := r0
    omega
  unfold Found at hF
  split at hF
  · rename_i hnone
    have := List.find?_eq_none.1 hnone a hab
    rw [hk] at this
    simp at this
  · rename_i a2 ha2
    have h1 := List.mem_of_find?_eq_some ha2
    have h2 : keyAt M a2 = (c.a, c.b) := by simpa using List.find?_some ha2
    have e : a2 = a := inj_nodup (keyAt M) (allC M) hM.keys a2 (mem_allC.2 ⟨b, hb, h1⟩) a ha (h2.trans hk.symm)
    subst e
    rw [if_pos hlt] at hF
    exact ⟨hF.1, hF.2.1, hF.2.2, hsl, hrf⟩

theorem let_back {M : Mm} (hM : Ok M) {a : Int} (h : isSl M a = true) (h0 : 0 < refsM M a) (h1 : refsM M a ≠ 1000) : letE (holdM M a) a = 0 ∧ letM (holdM M a) a = M := by
  have hr := slot_refs hM h
  have ho := hold_ok hM h h0 (by omega)
  have hl : (holdM M a).slots.length = M.slots.length := by simp [holdM, setRefs]
  have hs : isSl (holdM M a) a = true := by rw [isSl_in] at h ⊢; rw [hl]; exact h
  have hrn : refsM (holdM M a) a = refsM M a + 1 := refs_hold h
  have e : letE (holdM M a) a = 0 := by
    unfold letE
    rw [if_neg (by rw [(chk_zero _).2 ho]; simp), hs, if_neg (by simp), if_neg (by omega)]
  refine ⟨e, ?_⟩
  unfold letM
  rw [if_pos e]
  have hp := putN_hold h h0
  unfold putN at hp
  rwa [if_neg (by omega)] at hp

end Go.Proofs.Ytdbilofhcadmoab.mm

/- The contracts of slices.ContainsFunc over slots and of slices.IndexFunc over flows, with the literals that LookAlone hands them. -/
namespace Go.Proofs.Ytdbilofhcadmoab.mm
open Go.ChangeShapes Go.WideShapes Go.ChangeAt Go.RowKit Go.Joins Go.Deep
set_option maxRecDepth 100000
set_option linter.unusedVariables false

theorem lit35 (s : Sl) (w : World) : Calls Try.prog 41 #[.agg #[.int .i64 s.refs, .int .i64 s.a, .int .i64 s.b, .int .i64 s.unt, .bool s.inn, .int .i64 s.next]] w fun e w' => e = .returned (.bool (s.refs == 1000)) ∧ Below w.heap.size w w' := by
  go_enter Try.func41, Try.ntmps41
  go_wp2
  go_ret
  exact ⟨rfl, one_below _ _⟩

theorem idx81 (aS : Option Addr) (cS : Nat) (l : List Sl) (w : World) (r : SRow w aS cS l) :
    Calls Try.prog 105 #[.slice aS l.length cS, .func (.func 41) #[] #[]] w fun e w' => ∃ i : Int, e = .returned (.int .i64 i) ∧ ((i = -1 ∧ ∀ s ∈ l, s.refs ≠ 1000) ∨ (0 ≤ i ∧ ∃ s ∈ l, s.refs = 1000)) ∧ Below w.heap.size w w' := by
  have m1 := r.max
  have n1 : l.length ≤ 9223372036854775807 := by omega
  have HR : Hid (∀ W : World, Below w.heap.size w W → SRow W aS cS l) := fun W hb => r.below hb
  clear r
  go_enter Try.func105, Try.ntmps105
  go_wp2_with fail
  go_loopw [8] (fun i wr => ∃ k : Nat, k ≤ l.length ∧ i = .int .i64 k ∧ Hid (Below w.heap.size w wr) ∧ Hid (∀ j (h : j < l.length), j < k → l[j].refs ≠ 1000)) (fun i _ => l.length - (intOf i).toNat)
  case atStart => exact ⟨0, Nat.zero_le _, rfl, Below.refl _ _, fun j _ h => absurd h (Nat.not_lt_zero _)⟩
  case round =>
    obtain ⟨k, hk, rfl, HB, HN⟩ := hrel
    by_cases hlt : k < l.length
    · have HM : Hid (l[k] ∈ l) := List.getElem_mem hlt
      rcases (HR.out _ HB.out).at_ with h0 | ⟨b1, o1, rfl, hc1⟩
      · omega
      obtain ⟨x0, x1, x2, x3, x4, x5⟩ := hc1 k hlt
      clear hc1
      have HK : Hid (∀ x, l[k] = x → x.refs ≠ 1000 → ∀ j (h : j < l.length), j < k + 1 → l[j].refs ≠ 1000) := fun x e hx j h hj => by
        by_cases ej : j = k
        · subst ej; rw [e]; exact hx
        · exact HN.out j h (by omega)
      generalize hx : l[k] = x at x0 x1 x2 x3 x4 x5 HM
      have HX : Hid (∀ j (h : j < l.length), j < k + 1 → x.refs ≠ 1000 → l[j].refs ≠ 1000) := fun j h hj hn => HK.out x hx hn j h hj
      clear hx HK
      go_wp2_with fail
      refine (lit35 x wr).mono ?_
      rintro e w1 ⟨rfl, hb1⟩
      have HB1 : Hid (Below w.heap.size w w1) := HB.out.trans (hb1.mono HB.out.size)
      clear hb1 x0 x1 x2 x3 x4 x5
      by_cases hr : x.refs = 1000
      · have hq : (x.refs == 1000) = true := by simp [hr]
        have HR2 : Hid (x.refs = 1000) := hr
        clear hr
        go_wp2
        go_ret
        exact ⟨k, rfl, .inr ⟨by omega, x, HM.out, HR2.out⟩, HB1.out⟩
      · have hq : (x.refs == 1000) = false := by simp [hr]
        have HR2 : Hid (x.refs ≠ 1000) := hr
        clear hr
        go_wp2
        go_roundw
        case rel => exact ⟨k + 1, by omega, by go_num, HB1, fun j h hj => HX.out j h hj HR2.out⟩
        case measure => simp [intOf]; omega
    · obtain rfl : k = l.length := by omega
      go_wp2
      go_ret
      refine ⟨-1, rfl, .inl ⟨rfl, fun s hs => ?_⟩, HB.out⟩
      obtain ⟨j, hj, rfl⟩ := List.getElem_of_mem hs
      exact HN.out j hj hj

theorem has34 (aS : Option Addr) (cS : Nat) (l : List Sl) (w : World) (r : SRow w aS cS l) :
    Calls Try.prog 40 #[.slice aS l.length cS, .func (.func 41) #[] #[]] w fun e w' => ∃ b : Bool, e = .returned (.bool b) ∧ (b = false → ∀ s ∈ l, s.refs ≠ 1000) ∧ Below w.heap.size w w' := by
  have HI : Hid (SRow w aS cS l) := r
  clear r
  go_enter Try.func40, Try.ntmps40
  go_wp2_with fail
  refine (idx81 aS cS l w HI.out).mono ?_
  rintro e w1 ⟨i, rfl, h, hb⟩
  rcases h with ⟨rfl, h⟩ | ⟨h, -⟩
  · have HH : Hid _ := h
    have HB : Hid _ := hb
    clear h hb
    go_wp2
    go_ret
    exact ⟨false, rfl, fun _ => HH.out, HB.out⟩
  · have HB : Hid _ := hb
    have hd : decide (0 ≤ i) = true := by simpa using h
    clear hb
    go_wp2
    go_ret
    exact ⟨true, by simp, (fun h => by cases h), HB.out⟩

theorem lit39 (f : Fl) (K B : Nat) (a b : Int) (v0 v1 v2 v3 : Value) (now : Int) (w : World) (hK : w.heap[K]? = some (.cells #[.int .i64 a, .int .i64 b] 37 (0, 0))) (hB : w.heap[B]? = some (.cells #[v0, v1, v2, v3, .int .i64 now] 25 (0, 0))) :
    Calls Try.prog 45 #[.agg #[.int .i64 f.a, .int .i64 f.b, .int .i64 f.slot, .int .i64 f.unt], .pointer (some ⟨K, 0, none⟩), .pointer (some ⟨B, 0, none⟩)] w fun e w' => e = .returned (.bool (isF a b now f)) ∧ Below w.heap.size w w' := by
  have k0 : w.cell? ⟨K, 0, none⟩ = some (.int .i64 a) := by rw [cell_of_block hK]; rfl
  have k1 : w.cell? ⟨K, 1, none⟩ = some (.int .i64 b) := by rw [cell_of_block hK]; rfl
  have ks : K < w.heap.size := lt_of_block hK
  obtain ⟨q0, q1, q2, q3, q4, -, -, -, -, -, qs⟩ := boxf hB
  have se := kequal f.a f.b a b
  clear hK hB
  cases hq : (f.a == a && f.b == b)
  · have hr : isF a b now f = false := by unfold isF; rw [hq]; rfl
    rw [hr]
    go_enter Try.func45, Try.ntmps45
    go_wp2
    go_ret
    exact ⟨rfl, one_below _ _⟩
  · by_cases hu : now < f.unt
    · have hr : isF a b now f = true := by unfold isF; rw [hq]; simp [hu]
      rw [hr]
      go_enter Try.func45, Try.ntmps45
      go_wp2
      go_ret
      exact ⟨rfl, one_below _ _⟩
    · have hr : isF a b now f = false := by unfold isF; rw [hq]; simp [hu]
      rw [hr]
      go_enter Try.func45, Try.ntmps45
      go_wp2
      go_ret
      exact ⟨rfl, one_below _ _⟩

theorem idx38 (ao : Option Addr) (cap : Nat) (l : List Fl) (K B : Nat) (a b : Int) (v0 v1 v2 v3 : Value) (now : Int) (w : World) (r : FRow w ao cap l) (hK : w.heap[K]? = some (.cells #[.int .i64 a, .int .i64 b] 37 (0, 0))) (hB : w.heap[B]? = some (.cells #[v0, v1, v2, v3, .int .i64 now] 25 (0, 0))) :
    Calls Try.prog 44 #[.slice ao l.length cap, .func (.func 45) #[] #[.pointer (some ⟨K, 0, none⟩), .pointer (some ⟨B, 0, none⟩)]] w fun e w' => ∃ i : Int, e = .returned (.int .i64 i) ∧ ((i = -1 ∧ ∀ f ∈ l, isF a b now f = false) ∨ ∃ (j : Nat) (h : j < l.length), i = j ∧ isF a b now l[j] = true) ∧ Below w.heap.size w w' := by
  have m1 := r.max
  have n1 : l.length ≤ 9223372036854775807 := by omega
  have HR : Hid (∀ W : World, Below w.heap.size w W → FRow W ao cap l) := fun W hb => r.below hb
  have HC : Hid (∀ (W : World) (f : Fl), Below w.heap.size w W → Calls Try.prog 45 #[.agg #[.int .i64 f.a, .int .i64 f.b, .int .i64 f.slot, .int .i64 f.unt], .pointer (some ⟨K, 0, none⟩), .pointer (some ⟨B, 0, none⟩)] W fun e w' => e = .returned (.bool (isF a b now f)) ∧ Below W.heap.size W w') := fun W f hb => lit39 f K B a b v0 v1 v2 v3 now W ((hb.block _ (lt_of_block hK)).trans hK) ((hb.block _ (lt_of_block hB)).trans hB)
  clear r hK hB
  go_enter Try.func44, Try.ntmps44
  go_wp2_with fail
  go_loopw [8] (fun i wr => ∃ k : Nat, k ≤ l.length ∧ i = .int .i64 k ∧ Hid (Below w.heap.size w wr) ∧ Hid (∀ j (h : j < l.length), j < k → isF a b now l[j] = false)) (fun i _ => l.length - (intOf i).toNat)
  case atStart => exact ⟨0, Nat.zero_le _, rfl, Below.refl _ _, fun j _ h => absurd h (Nat.not_lt_zero _)⟩
  case round =>
    obtain ⟨k, hk, rfl, HBl, HN⟩ := hrel
    by_cases hlt : k < l.length
    · rcases (HR.out _ HBl.out).at_ with h0 | ⟨b1, o1, rfl, hc1⟩
      · omega
      obtain ⟨x0, x1, x2, x3⟩ := hc1 k hlt
      clear hc1
      have HX : Hid (∀ x, l[k] = x → isF a b now x = false → ∀ j (h : j < l.length), j < k + 1 → isF a b now l[j] = false) := fun x e hx j h hj => by
        by_cases ej : j = k
        · subst ej; rw [e]; exact hx
        · exact HN.out j h (by omega)
      generalize hx : l[k] = x at x0 x1 x2 x3
      have HXk : Hid (∃ h : k < l.length, l[k] = x) := ⟨hlt, hx⟩
      clear hx
      go_wp2_with fail
      refine (HC.out wr x HBl.out).mono ?_
      rintro e w1 ⟨rfl, hb1⟩
      have HB1 : Hid (Below w.heap.size w w1) := HBl.out.trans (hb1.mono HBl.out.size)
      clear hb1 x0 x1 x2 x3
      cases hq : isF a b now x
      · have HQ : Hid (isF a b now x = false) := hq
        clear hq
        go_wp2
        go_roundw
        case rel => exact ⟨k + 1, by omega, by go_num, HB1, fun j h hj => HX.out x HXk.out.2 HQ.out j h hj⟩
        case measure => simp [intOf]; omega
      · have HQ : Hid (isF a b now x = true) := hq
        clear hq
        go_wp2
        go_ret
        exact ⟨k, rfl, .inr ⟨k, HXk.out.1, rfl, by rw [HXk.out.2]; exact HQ.out⟩, HB1.out⟩
    · obtain rfl : k = l.length := by omega
      go_wp2
      go_ret
      refine ⟨-1, rfl, .inl ⟨rfl, fun s hs => ?_⟩, HBl.out⟩
      obtain ⟨j, hj, rfl⟩ := List.getElem_of_mem hs
      exact HN.out j hj hj

end Go.Proofs.Ytdbilofhcadmoab.mm

/- Whether a list of numbers has one that is not -1. -/
namespace Go.Proofs.Ytdbilofhcadmoab.mm
open Go.ChangeShapes Go.WideShapes Go.ChangeAt Go.RowKit Go.Joins
set_option maxRecDepth 100000
set_option linter.unusedVariables false

theorem litI (F : Nat) (x : Int) (w : World) (h : ∀ W : World, Calls Try.prog F #[.int .i64 x] W fun e w' => e = .returned (.bool (x != -1)) ∧ W = w') : Calls Try.prog F #[.int .i64 x] w fun e w' => e = .returned (.bool (x != -1)) ∧ w = w' := h w

theorem litA1 (x : Int) (w : World) : Calls Try.prog 54 #[.int .i64 x] w fun e w' => e = .returned (.bool (x != -1)) ∧ w = w' := by
  go_enter Try.func54, Try.ntmps54
  go_wp2
  go_ret
  exact ⟨rfl, rfl⟩

theorem idxI (F : Nat) (hF : ∀ args W, (callFunc F args).run Try.prog W = .ok (.enter F args) W) (hp : ∀ (x : Int) (W : World), Calls Try.prog F #[.int .i64 x] W fun e w' => e = .returned (.bool (x != -1)) ∧ W = w') (aS : Option Addr) (cS : Nat) (l : List Int) (w : World) (r : IRow w aS cS l) :
    Calls Try.prog 126 #[.slice aS l.length cS, .func (.func F) #[] #[]] w fun e w' => ∃ i : Int, e = .returned (.int .i64 i) ∧ ((i = -1 ∧ ∀ s ∈ l, s = -1) ∨ (0 ≤ i ∧ ∃ s ∈ l, s ≠ -1)) ∧ Below w.heap.size w w' := by
  have m1 := r.max
  have n1 : l.length ≤ 9223372036854775807 := by omega
  have HR : Hid (∀ W : World, Below w.heap.size w W → IRow W aS cS l) := fun W hb => r.below hb
  have HP : Hid (∀ (x : Int) (W : World), Calls Try.prog F #[.int .i64 x] W fun e w' => e = .returned (.bool (x != -1)) ∧ W = w') := hp
  clear r hp
  go_enter Try.func126, Try.ntmps126
  go_wp2_with fail
  go_loopw [8] (fun i wr => ∃ k : Nat, k ≤ l.length ∧ i = .int .i64 k ∧ Hid (Below w.heap.size w wr) ∧ Hid (∀ j (h : j < l.length), j < k → l[j] = -1)) (fun i _ => l.length - (intOf i).toNat)
  case atStart => exact ⟨0, Nat.zero_le _, rfl, Below.refl _ _, fun j _ h => absurd h (Nat.not_lt_zero _)⟩
  case round =>
    obtain ⟨k, hk, rfl, HB, HN⟩ := hrel
    by_cases hlt : k < l.length
    · have HM : Hid (l[k] ∈ l) := List.getElem_mem hlt
      rcases (HR.out _ HB.out).at_ with h0 | ⟨b1, o1, rfl, hc1⟩
      · omega
      have x0 := hc1 k hlt
      clear hc1
      have HK : Hid (∀ x, l[k] = x → x = -1 → ∀ j (h : j < l.length), j < k + 1 → l[j] = -1) := fun x e hx j h hj => by
        by_cases ej : j = k
        · subst ej; rw [e]; exact hx
        · exact HN.out j h (by omega)
      generalize hx : l[k] = x at x0 HM
      have HX : Hid (∀ j (h : j < l.length), j < k + 1 → x = -1 → l[j] = -1) := fun j h hj hn => HK.out x hx hn j h hj
      clear hx HK
      go_wp2_with fail
      refine (HP.out x wr).mono ?_
      rintro e w1 ⟨rfl, rfl⟩
      clear x0
      by_cases hr : x = -1
      · have hq : (x != -1) = false := by simp [hr]
        have HR2 : Hid (x = -1) := hr
        clear hr
        go_wp2
        go_roundw
        case rel => exact ⟨k + 1, by omega, by go_num, HB, fun j h hj => HX.out j h hj HR2.out⟩
        case measure => simp [intOf]; omega
      · have hq : (x != -1) = true := by simpa using hr
        have HR2 : Hid (x ≠ -1) := hr
        clear hr
        go_wp2
        go_ret
        exact ⟨k, rfl, .inr ⟨by omega, x, HM.out, HR2.out⟩, HB.out⟩
    · obtain rfl : k = l.length := by omega
      go_wp2
      go_ret
      refine ⟨-1, rfl, .inl ⟨rfl, fun s hs => ?_⟩, HB.out⟩
      obtain ⟨j, hj, rfl⟩ := List.getElem_of_mem hs
      exact HN.out j hj hj

theorem hasI (F : Nat) (hF : ∀ args W, (callFunc F args).run Try.prog W = .ok (.enter F args) W) (hp : ∀ (x : Int) (W : World), Calls Try.prog F #[.int .i64 x] W fun e w' => e = .returned (.bool (x != -1)) ∧ W = w') (aS : Option Addr) (cS : Nat) (l : List Int) (w : World) (r : IRow w aS cS l) :
    Calls Try.prog 53 #[.slice aS l.length cS, .func (.func F) #[] #[]] w fun e w' => ∃ b : Bool, e = .returned (.bool b) ∧ (b = false → ∀ s ∈ l, s = -1) ∧ Below w.heap.size w w' := by
  have HI : Hid (Calls Try.prog 126 #[.slice aS l.length cS, .func (.func F) #[] #[]] w fun e w' => ∃ i : Int, e = .returned (.int .i64 i) ∧ ((i = -1 ∧ ∀ s ∈ l, s = -1) ∨ (0 ≤ i ∧ ∃ s ∈ l, s ≠ -1)) ∧ Below w.heap.size w w') := idxI F hF hp aS cS l w r
  clear r hp hF
  go_enter Try.func53, Try.ntmps53
  go_wp2_with fail
  refine HI.out.mono ?_
  rintro e w1 ⟨i, rfl, h, hb⟩
  rcases h with ⟨rfl, h⟩ | ⟨h, -⟩
  · have HH : Hid _ := h
    have HB : Hid _ := hb
    clear h hb
    go_wp2
    go_ret
    exact ⟨false, rfl, fun _ => HH.out, HB.out⟩
  · have HB : Hid _ := hb
    have hd : decide (0 ≤ i) = true := by simpa using h
    clear hb
    go_wp2
    go_ret
    exact ⟨true, by simp, (fun h => by cases h), HB.out⟩
end Go.Proofs.Ytdbilofhcadmoab.mm

/- Whether a flow is in a list, and whether one is of which something holds: Contains, ContainsFunc and what the statement hands to them. -/
namespace Go.Proofs.Ytdbilofhcadmoab.mm
open Go.ChangeShapes Go.WideShapes Go.ChangeAt Go.RowKit Go.Joins Go.Maps
set_option maxRecDepth 100000
set_option linter.unusedVariables false

theorem any_snoc {p : Fl → Bool} {l : List Fl} {k : Nat} (h : k < l.length) (h0 : (l.take k).any p = false) (hx : p l[k] = false) : (l.take (k + 1)).any p = false := by
  rw [List.take_succ_eq_append_getElem h, List.any_append, h0]
  simp [hx]
theorem any_hit {p : Fl → Bool} {l : List Fl} {k : Nat} (h : k < l.length) (hx : p l[k] = true) : l.any p = true :=
  List.any_eq_true.2 ⟨_, List.getElem_mem h, hx⟩

def hasF (l : List Fl) (x : Fl) : Bool := l.any (flEq x)
theorem hasF_iff (l : List Fl) (x : Fl) : hasF l x = true ↔ x ∈ l := by
  unfold hasF
  rw [List.any_eq_true]
  constructor
  · rintro ⟨y, hy, h⟩
    rw [flEq_iff] at h
    subst h; exact hy
  · intro h; exact ⟨x, h, flEq_refl x⟩

set_option maxHeartbeats 1600000 in
theorem indexF_any (ao : Option Addr) (cap : Nat) (l : List Fl) (x : Fl) (w : World) (hbig : l.length ≤ 1000) (hat : FRow w ao cap l) :
    Calls Try.prog 127 #[.slice ao l.length cap, .agg #[.int .i64 x.a, .int .i64 x.b, .int .i64 x.slot, .int .i64 x.unt]] w fun e w' => ∃ i : Int, e = .returned (.int .i64 i) ∧ decide (0 ≤ i) = hasF l x ∧ Below w.heap.size w w' := by
  have HAT : Hid (FRow w ao cap l) := hat
  clear hat
  have b0 : Below w.heap.size w (w.alloc (.cells #[.int .i64 x.a, .int .i64 x.b, .int .i64 x.slot, .int .i64 x.unt] 42)) := one_below _ _
  go_enter Try.func127, Try.ntmps127
  go_wp2
  go_loopw [8] (fun i wr => ∃ k q : Nat, k ≤ l.length ∧ i = .int .i64 k ∧ wr = (w.alloc (.cells #[.int .i64 x.a, .int .i64 x.b, .int .i64 x.slot, .int .i64 x.unt] 42)).drewN q ∧ Hid ((l.take k).any (flEq x) = false)) (fun i _ => l.length - (intOf i).toNat)
  case atStart => exact ⟨0, 0, Nat.zero_le _, rfl, rfl, by show _ = _; simp⟩
  case round =>
    obtain ⟨k, q, hk, rfl, rfl, HC⟩ := hrel
    have hbw : Below w.heap.size w ((w.alloc (.cells #[.int .i64 x.a, .int .i64 x.b, .int .i64 x.slot, .int .i64 x.unt] 42)).drewN q) := b0.trans ((drewN_below _ _).mono (by simp))
    by_cases hlt : k < l.length
    · rcases HAT.out.at_ with h0 | ⟨bk, ok, rfl, hc⟩
      · omega
      obtain ⟨c0, c1, c2, c3⟩ := hc k hlt
      have lt := cell_lt c0
      rw [← (bcell hbw).1 _ _ lt] at c0 c1 c2 c3
      clear hc
      have e0 : ((w.alloc (.cells #[.int .i64 x.a, .int .i64 x.b, .int .i64 x.slot, .int .i64 x.unt] 42)).drewN q).cell? ⟨w.heap.size, 0, none⟩ = some (.int .i64 x.a) := by rw [World.cell?_drewN]; simp
      have e1 : ((w.alloc (.cells #[.int .i64 x.a, .int .i64 x.b, .int .i64 x.slot, .int .i64 x.unt] 42)).drewN q).cell? ⟨w.heap.size, 1, none⟩ = some (.int .i64 x.b) := by rw [World.cell?_drewN]; simp
      have e2 : ((w.alloc (.cells #[.int .i64 x.a, .int .i64 x.b, .int .i64 x.slot, .int .i64 x.unt] 42)).drewN q).cell? ⟨w.heap.size, 2, none⟩ = some (.int .i64 x.slot) := by rw [World.cell?_drewN]; simp
      have e3 : ((w.alloc (.cells #[.int .i64 x.a, .int .i64 x.b, .int .i64 x.slot, .int .i64 x.unt] 42)).drewN q).cell? ⟨w.heap.size, 3, none⟩ = some (.int .i64 x.unt) := by rw [World.cell?_drewN]; simp
      generalize hwq : (w.alloc (.cells #[.int .i64 x.a, .int .i64 x.b, .int .i64 x.slot, .int .i64 x.unt] 42)).drewN q = wq at c0 c1 c2 c3 e0 e1 e2 e3 hbw ⊢
      have HWQ : Hid _ := hwq
      clear hwq
      generalize hy : l[k] = y at c0 c1 c2 c3
      have HX : Hid (l[k] = y) := hy
      clear hy
      have ke := fequal x y
      cases hh : flEq x y
      · have HH : Hid ((l.take (k + 1)).any (flEq x) = false) := any_snoc hlt HC.out (by rw [HX.out]; exact hh)
        rw [hh] at ke
        go_wp2_with fail
        go_quiet (fail)
        go_wp2
        go_roundw
        case rel => exact ⟨k + 1, q + nq, by omega, by go_num, by rw [← HWQ.out, World.drewN_drewN], HH⟩
        case measure => simp [intOf]; omega
      · have HH : Hid (hasF l x = true) := any_hit hlt (by rw [HX.out]; exact hh)
        rw [hh] at ke
        go_wp2_with fail
        go_quiet (fail)
        go_wp2
        go_ret
        exact ⟨k, rfl, by rw [HH.out]; simp, hbw.trans ((drewN_below _ _).mono hbw.size)⟩
    · have HH : Hid (hasF l x = false) := by
        have := HC.out
        rw [show k = l.length by omega, List.take_length] at this
        exact this
      go_wp2
      go_ret
      exact ⟨-1, rfl, by rw [HH.out]; rfl, hbw⟩

theorem containsF_any (ao : Option Addr) (cap : Nat) (l : List Fl) (x : Fl) (w : World) (hbig : l.length ≤ 1000) (hat : FRow w ao cap l) :
    Calls Try.prog 59 #[.slice ao l.length cap, .agg #[.int .i64 x.a, .int .i64 x.b, .int .i64 x.slot, .int .i64 x.unt]] w fun e w' => e = .returned (.bool (hasF l x)) ∧ Below w.heap.size w w' := by
  have b0 : Below w.heap.size w (w.alloc (.cells #[.int .i64 x.a, .int .i64 x.b, .int .i64 x.slot, .int .i64 x.unt] 42)) := one_below _ _
  have HAT2 : Hid (FRow (w.alloc (.cells #[.int .i64 x.a, .int .i64 x.b, .int .i64 x.slot, .int .i64 x.unt] 42)) ao cap l) := hat.below b0
  clear hat
  go_enter Try.func59, Try.ntmps59
  go_wp2_with fail
  refine (indexF_any _ _ l x _ hbig HAT2.out).mono ?_
  rintro e w1 ⟨i, rfl, hd, hb1⟩
  have b1 := b0.trans (hb1.mono b0.size)
  have HD : Hid _ := hd
  clear hd hb1 b0
  go_wp2
  go_ret
  refine ⟨?_, b1⟩
  rw [← HD.out]
  rfl

set_option maxHeartbeats 1600000 in
theorem indexFn_any (F : Nat) (caps : Array Value) (p : Fl → Bool) (ao : Option Addr) (cap : Nat) (l : List Fl) (w : World) (hbig : l.length ≤ 1000) (hat : FRow w ao cap l) (hF : ∀ args W, (callFunc F args).run Try.prog W = .ok (.enter F args) W)
    (hp : ∀ (x : Fl) W, Below w.heap.size w W → Calls Try.prog F (#[.agg #[.int .i64 x.a, .int .i64 x.b, .int .i64 x.slot, .int .i64 x.unt]] ++ caps) W fun e W' => e = .returned (.bool (p x)) ∧ Below W.heap.size W W') :
    Calls Try.prog 44 #[.slice ao l.length cap, .func (.func F) #[] caps] w fun e w' => ∃ i : Int, e = .returned (.int .i64 i) ∧ decide (0 ≤ i) = l.any p ∧ Below w.heap.size w w' := by
  have HAT : Hid (FRow w ao cap l) := hat
  have HP : Hid (∀ (x : Fl) W, Below w.heap.size w W → Calls Try.prog F (#[.agg #[.int .i64 x.a, .int .i64 x.b, .int .i64 x.slot, .int .i64 x.unt]] ++ caps) W fun e W' => e = .returned (.bool (p x)) ∧ Below W.heap.size W W') := hp
  have HFn : Hid (∀ args W, (callFunc F args).run Try.prog W = .ok (.enter F args) W) := hF
  clear hat hp hF
  go_enter Try.func44, Try.ntmps44
  go_wp2
  go_loopw [8] (fun i wr => ∃ k : Nat, k ≤ l.length ∧ i = .int .i64 k ∧ Hid (Below w.heap.size w wr) ∧ Hid ((l.take k).any p = false)) (fun i _ => l.length - (intOf i).toNat)
  case atStart => exact ⟨0, Nat.zero_le _, rfl, Below.refl _ _, by show _ = _; simp⟩
  case round =>
    obtain ⟨k, hk, rfl, HB, HC⟩ := hrel
    by_cases hlt : k < l.length
    · rcases (HAT.out.below HB.out).at_ with h0 | ⟨bk, ok, rfl, hc⟩
      · omega
      obtain ⟨c0, c1, c2, c3⟩ := hc k hlt
      clear hc
      generalize hy : l[k] = y at c0 c1 c2 c3
      have HX : Hid (l[k] = y) := hy
      clear hy
      go_wp2_with fail
      rw [HFn.out]
      refine (HP.out y wr HB.out).mono ?_
      rintro e w1 ⟨rfl, hb1⟩
      have HB1 : Hid (Below w.heap.size w w1) := HB.out.trans (hb1.mono HB.out.size)
      clear hb1 c0 c1 c2 c3
      cases hh : p y
      · have HH : Hid ((l.take (k + 1)).any p = false) := any_snoc hlt HC.out (by rw [HX.out]; exact hh)
        go_wp2
        go_roundw
        case rel => exact ⟨k + 1, by omega, by go_num, HB1, HH⟩
        case measure => simp [intOf]; omega
      · have HH : Hid (l.any p = true) := any_hit hlt (by rw [HX.out]; exact hh)
        go_wp2
        go_ret
        exact ⟨k, rfl, by rw [HH.out]; simp, HB1.out⟩
    · have HH : Hid (l.any p = false) := by
        have := HC.out
        rw [show k = l.length by omega, List.take_length] at this
        exact this
      go_wp2
      go_ret
      exact ⟨-1, rfl, by rw [HH.out]; rfl, HB.out⟩

theorem containsFn_any (F : Nat) (caps : Array Value) (p : Fl → Bool) (ao : Option Addr) (cap : Nat) (l : List Fl) (w : World) (hbig : l.length ≤ 1000) (hat : FRow w ao cap l) (hF : ∀ args W, (callFunc F args).run Try.prog W = .ok (.enter F args) W)
    (hp : ∀ (x : Fl) W, Below w.heap.size w W → Calls Try.prog F (#[.agg #[.int .i64 x.a, .int .i64 x.b, .int .i64 x.slot, .int .i64 x.unt]] ++ caps) W fun e W' => e = .returned (.bool (p x)) ∧ Below W.heap.size W W') :
    Calls Try.prog 56 #[.slice ao l.length cap, .func (.func F) #[] caps] w fun e w' => e = .returned (.bool (l.any p)) ∧ Below w.heap.size w w' := by
  have HAT : Hid (FRow w ao cap l) := hat
  have HP : Hid (∀ (x : Fl) W, Below w.heap.size w W → Calls Try.prog F (#[.agg #[.int .i64 x.a, .int .i64 x.b, .int .i64 x.slot, .int .i64 x.unt]] ++ caps) W fun e W' => e = .returned (.bool (p x)) ∧ Below W.heap.size W W') := hp
  have HFn : Hid (∀ args W, (callFunc F args).run Try.prog W = .ok (.enter F args) W) := hF
  clear hat hp hF
  go_enter Try.func56, Try.ntmps56
  go_wp2_with fail
  refine (indexFn_any F caps p ao cap l w hbig HAT.out HFn.out HP.out).mono ?_
  rintro e w1 ⟨i, rfl, hd, hb1⟩
  have HD : Hid _ := hd
  clear hd
  go_wp2
  go_ret
  refine ⟨?_, hb1⟩
  rw [← HD.out]
  rfl

/- of a key -/
theorem of_key (a b : Int) (B : Nat) (x : Fl) (W : World) (hB : W.heap[B]? = some (.cells #[.int .i64 a, .int .i64 b] 37 (0, 0))) :
    Calls Try.prog 57 (#[.agg #[.int .i64 x.a, .int .i64 x.b, .int .i64 x.slot, .int .i64 x.unt]] ++ #[.pointer (some ⟨B, 0, none⟩)]) W fun e W' => e = .returned (.bool (x.a == a && x.b == b)) ∧ Below W.heap.size W W' := by
  obtain ⟨c0, c1⟩ := keyf hB
  have lB := lt_of_block hB
  have ke := kequal x.a x.b a b
  have hb := one_below W (.cells #[.int .i64 x.a, .int .i64 x.b, .int .i64 x.slot, .int .i64 x.unt] 42)
  clear hB
  generalize (x.a == a && x.b == b) = r at *
  show Calls Try.prog 57 #[.agg #[.int .i64 x.a, .int .i64 x.b, .int .i64 x.slot, .int .i64 x.unt], .pointer (some ⟨B, 0, none⟩)] W _
  go_enter Try.func57, Try.ntmps57
  go_wp2
  go_ret
  exact ⟨rfl, hb⟩

theorem fn51 : ∀ args W, (callFunc 57 args).run Try.prog W = .ok (.enter 57 args) W := fun _ _ => by kernel_rfl

def hasKF (l : List Fl) (a b : Int) : Bool := l.any fun x => x.a == a && x.b == b
theorem not_in53 (ao : Option Addr) (cap : Nat) (l : List Fl) (B : Nat) (x : Fl) (W : World) (hbig : l.length ≤ 1000) (hB : W.heap[B]? = some (.cells #[.slice ao l.length cap] 29 (0, 0))) (hat : FRow W ao cap l) :
    Calls Try.prog 60 (#[.agg #[.int .i64 x.a, .int .i64 x.b, .int .i64 x.slot, .int .i64 x.unt]] ++ #[.pointer (some ⟨B, 0, none⟩)]) W fun e W' => e = .returned (.bool (!hasF l x)) ∧ Below W.heap.size W W' := by
  obtain ⟨c0, -, lB⟩ := var_cell hB
  have b0 : Below W.heap.size W (W.alloc (.cells #[.int .i64 x.a, .int .i64 x.b, .int .i64 x.slot, .int .i64 x.unt] 42)) := one_below _ _
  have HAT2 : Hid (FRow (W.alloc (.cells #[.int .i64 x.a, .int .i64 x.b, .int .i64 x.slot, .int .i64 x.unt] 42)) ao cap l) := hat.below b0
  clear hat hB
  show Calls Try.prog 60 #[.agg #[.int .i64 x.a, .int .i64 x.b, .int .i64 x.slot, .int .i64 x.unt], .pointer (some ⟨B, 0, none⟩)] W _
  go_enter Try.func60, Try.ntmps60
  go_wp2_with fail
  refine (containsF_any ao cap l x _ hbig HAT2.out).mono ?_
  rintro e w1 ⟨rfl, hb1⟩
  have b1 := b0.trans (hb1.mono b0.size)
  clear hb1 b0 HAT2
  go_wp2
  go_ret
  exact ⟨rfl, b1⟩
theorem fn53 : ∀ args W, (callFunc 60 args).run Try.prog W = .ok (.enter 60 args) W := fun _ _ => by kernel_rfl

end Go.Proofs.Ytdbilofhcadmoab.mm

/- An Add that goes on alone, as plain data: it maps its key, if that is not mapped and a slot is free. -/
namespace Go.Proofs.Ytdbilofhcadmoab.mm
set_option linter.unusedVariables false

def flowsOf (M : Mm) : List Fl := (allC M).map (flowAt M)

theorem run_go {nf : Mm → Fr → Fr} {nm : Mm → Fr → Mm} {k : Nat} {M : Mm} {f : Fr} (h : (nf M f).done = false) : run nf nm (k + 1) M f = run nf nm k (nm M f) (nf M f) := by
  show (if (nf M f).done then (nm M f, nf M f, true) else run nf nm k (nm M f) (nf M f)) = _
  rw [h]; rfl
theorem run_end {nf : Mm → Fr → Fr} {nm : Mm → Fr → Mm} {k : Nat} {M : Mm} {f : Fr} (h : (nf M f).done = true) : run nf nm (k + 1) M f = (nm M f, nf M f, true) := by
  show (if (nf M f).done then (nm M f, nf M f, true) else run nf nm k (nm M f) (nf M f)) = _
  rw [h]; rfl

theorem walk_same {S S' : List Sl} (h : ∀ n : Int, nextN S' n = nextN S n) : ∀ (k : Nat) (n : Int), walkL S' k n = walkL S k n ∧ walkE S' k n = walkE S k n
  | 0, n => ⟨rfl, rfl⟩
  | k + 1, n => by
    unfold walkL walkE
    rw [h n, (walk_same h k _).1, (walk_same h k _).2]
    exact ⟨rfl, rfl⟩

/- A change of a slot that is in no chain, and of what is free and locked. -/
theorem okc_off {M M' : Mm} {s : Int} (h : OkC M) (ho : Ok M') (hh : M'.heads = M.heads) (hn : M'.slots.length = M.slots.length) (hs : s ∉ allC M) (hs0 : 0 ≤ s)
    (hx : ∀ x : Int, x.toNat ≠ s.toNat → slotAt M' x = slotAt M x) (hnx : (slotAt M' s).next = (slotAt M s).next) :
    OkC M' ∧ (∀ b, chL M' b = chL M b) ∧ allC M' = allC M ∧ ∀ a ∈ allC M, slotAt M' a = slotAt M a := by
  have hnext : ∀ n : Int, nextN M'.slots n = nextN M.slots n := fun n => by
    by_cases e : (n - 1).toNat = s.toNat
    · have h1 : (slotAt M' s).next = (slotAt M s).next := hnx
      unfold slotAt at h1
      unfold nextN
      rw [e]; exact h1
    · have h1 := hx (n - 1) e
      unfold slotAt at h1
      unfold nextN
      rw [h1]
  have hL : ∀ b, chL M' b = chL M b := fun b => by unfold chL headM; rw [hn, hh]; exact (walk_same hnext _ _).1
  have hE : ∀ b, chE M' b = chE M b := fun b => by unfold chE headM; rw [hn, hh]; exact (walk_same hnext _ _).2
  have hA : allC M' = allC M := by unfold allC allTo; rw [hh]; exact flat_congr fun c _ => hL c
  have hat : ∀ a ∈ allC M, slotAt M' a = slotAt M a := fun a ha => hx a fun e => hs (by
    have := (h.allSlots a ha).1
    rw [show s = a by omega]; exact ha)
  refine ⟨⟨ho, fun b hb => ?_, fun b hb a ha => ?_, ?_⟩, hL, hA, hat⟩
  · rw [hh] at hb; rw [hE]; exact h.ends b hb
  · rw [hh] at hb
    rw [hL] at ha
    rw [hat a (mem_allC.2 ⟨b, hb, ha⟩), hh]
    exact h.held b hb a ha
  · rw [hA]
    have : (allC M).map (keyAt M') = (allC M).map (keyAt M) := List.map_congr_left fun a ha => by unfold keyAt; rw [hat a ha]
    rw [this]; exact h.keys

theorem flows_off {M M' : Mm} (hA : allC M' = allC M) (hat : ∀ a ∈ allC M, slotAt M' a = slotAt M a) : flowsOf M' = flowsOf M := by
  unfold flowsOf
  rw [hA]
  exact List.map_congr_left fun a ha => by unfold flowAt; rw [hat a ha]

theorem slotAt_setN {M : Mm} {S : List Sl} {F : List Int} {s : Int} {v : Sl} (hs : isSl M s = true) (hS : S = M.slots.set s.toNat v) (x : Int) : slotAt { M with slots := S, free := F } x = if x.toNat = s.toNat then v else slotAt M x := by
  obtain ⟨j, rfl, hj⟩ := (isSl_iff M s).1 hs
  subst hS
  unfold slotAt
  rw [List.getD_eq_getElem?_getD, List.getD_eq_getElem?_getD, Int.toNat_natCast, List.getElem?_set]
  by_cases e : j = x.toNat
  · subst e; simp [hj]
  · rw [if_neg e, if_neg (fun h => e h.symm)]

theorem free_off {M : Mm} (h : OkC M) {s : Int} (hr : refsM M s = 0) : s ∉ allC M := fun hm => by
  obtain ⟨b, hb, ha⟩ := mem_allC.1 hm
  exact (h.held b hb s ha).1 hr

theorem lock_okc {M : Mm} (h : OkC M) (b : Nat) {t : Int} (ht : -1 ≤ t ∧ t ≤ 4) : OkC (lockM M b t) := ⟨lock_ok h.ok b ht, h.ends, h.held, h.keys⟩

theorem chL_len {M : Mm} (h : OkC M) {b : Nat} (hb : b < M.heads.length) : (chL M b).length ≤ M.slots.length := by
  have h1 := few' M.slots.length (chL M b) (h.nodup hb) (h.slots hb)
  exact h1

theorem ad_walk {M : Mm} (hM : OkC M) {c : Cl} {b : Nat} (hb : b < M.heads.length) :
    ∀ (l : List Int) (k : Nat) (f : Fr), f.c = c → f.pl = 3 → f.done = false → Path M.slots f.cur l (-1 - (b : Int)) → (∀ a ∈ l, a ∈ chL M b) → 2 * l.length + 1 ≤ k →
      ∃ k' f', run adF (adM 0) k M f = run adF (adM 0) k' M f' ∧ k ≤ k' + (2 * l.length + 1) ∧ f'.c = c ∧ f'.done = false ∧ f'.slot = f.slot ∧ f'.pl = if l.any (fun a => keyAt M a == (c.a, c.b)) then 6 else 5 := by
  intro l
  induction l with
  | nil =>
    intro k f hc hp hd hpath hin hk
    obtain ⟨k, rfl⟩ : ∃ k0, k = k0 + 1 := ⟨k - 1, by omega⟩
    have hat : isAt M f = false := by
      have h1 : f.cur = -1 - (b : Int) := hpath.1
      cases h : isAt M f
      · rfl
      · rw [isAt_iff] at h; omega
    have e : adF M f = toF f 5 := by rw [adF3 hp]; unfold adSee; rw [hat]; rfl
    have em : adM 0 M f = M := adM_same (by omega)
    refine ⟨k, toF f 5, ?_, by simp, hc, hd, rfl, rfl⟩
    rw [run_go (by rw [e]; exact hd), e, em]
  | cons a l ih =>
    intro k f hc hp hd hpath hin hk
    obtain ⟨k, rfl⟩ : ∃ k0, k = k0 + 1 := ⟨k - 1, by omega⟩
    obtain ⟨h1, h2, h3⟩ := hpath
    have ha := hM.slots hb a (hin a (by simp))
    have hcur : f.cur - 1 = a := by omega
    have hat : isAt M f = true := isAt_iff.2 (by omega)
    have em : adM 0 M f = M := adM_same (by omega)
    have hkk : lkK (slotAt M a) f = (keyAt M a == (c.a, c.b)) := by
      unfold lkK keyAt
      rw [hc]
      rfl
    cases hkey : (keyAt M a == (c.a, c.b))
    · have e : adF M f = toF f 4 := by rw [adF3 hp]; unfold adSee; rw [hat, hcur, hkk, hkey]; rfl
      obtain ⟨k2, rfl⟩ : ∃ k2, k = k2 + 1 := ⟨k - 1, by simp only [List.length_cons] at hk; omega⟩
      have e2 : adF M (toF f 4) = curF (toF f 4) (slotAt M a).next 3 := by
        rw [adF4 rfl]; unfold adPass
        rw [if_pos (show isAt M (toF f 4) = true from hat)]
        show curF (toF f 4) (slotAt M (f.cur - 1)).next 3 = _
        rw [hcur]
      have em2 : adM 0 M (toF f 4) = M := adM_same (by simp [toF])
      obtain ⟨k', f', r1, r2, r3, r4, r5, r6⟩ := ih k2 (curF (toF f 4) (slotAt M a).next 3) hc rfl hd h3 (fun x hx => hin x (by simp [hx])) (by simp only [List.length_cons] at hk; omega)
      refine ⟨k', f', ?_, by simp only [List.length_cons]; omega, r3, r4, r5, ?_⟩
      · rw [run_go (by rw [e]; exact hd), e, em, run_go (by rw [e2]; exact hd), e2, em2]
        exact r1
      · rw [r6, List.any_cons, hkey]
        rfl
    · have e : adF M f = toF f 6 := by rw [adF3 hp]; unfold adSee; rw [hat, hcur, hkk, hkey]; rfl
      refine ⟨k, toF f 6, ?_, by simp only [List.length_cons]; omega, hc, hd, rfl, ?_⟩
      · rw [run_go (by rw [e]; exact hd), e, em]
      · rw [List.any_cons, hkey]
        rfl

def Added (M : Mm) (c : Cl) (X : Mm) (g : Fr) : Prop :=
  if M.free.length = 0 then X = M ∧ g.e = 7
  else if hasK M (allC M) (c.a, c.b) then g.e = 6 ∧ OkC X ∧ X.free = M.free ∧ X.locks = M.locks ∧ flowsOf X = flowsOf M
  else g.e = 0 ∧ OkC X ∧ X.locks = M.locks ∧ (flowsOf X).length = (flowsOf M).length + 1 ∧ (⟨c.a, c.b, g.slot, if 2000000 < M.now + c.time then 2000000 else M.now + c.time⟩ : Fl) ∈ flowsOf X ∧ ∀ f ∈ flowsOf M, f ∈ flowsOf X

theorem bk_of {M : Mm} (hM : Ok M) {c : Cl} (hk : ¬ (c.kind = 4 ∨ c.kind = 5)) (hkey : keyB c.a c.b = true) : bkOf M.heads.length c = bucket c.a c.b M.heads.length := by
  obtain ⟨n1, n2⟩ := hM.nh
  unfold bkOf
  rw [if_neg hk, if_pos hkey, if_pos ⟨n1, n2⟩]

theorem set_back {l : List Int} {b : Nat} {t : Int} (h : ∀ x ∈ l, x = -1) : (l.set b t).set b (-1) = l := by
  rw [List.set_set]
  apply List.ext_getElem?
  intro i
  rw [List.getElem?_set]
  by_cases e : b = i
  · subst e
    rw [if_pos rfl]
    by_cases hb : b < l.length
    · rw [if_pos hb, List.getElem?_eq_getElem hb, h _ (List.getElem_mem hb)]
    · rw [if_neg hb, List.getElem?_eq_none (by omega)]
  · rw [if_neg e]

theorem lockAt_set {M : Mm} {b : Nat} {t : Int} (hb : b < M.locks.length) : lockAt (lockM M b t) b = t := by
  unfold lockAt lockM
  simp [List.getD_eq_getElem?_getD, hb]

set_option maxHeartbeats 1600000 in
theorem ad_all {M : Mm} (hM : OkC M) (hlk : ∀ x ∈ M.locks, x = -1) {ka kb tm : Int} (hkey : keyB ka kb = true) (ht : 1 ≤ tm ∧ tm ≤ 1000000) :
    ∃ X g, run adF (adM 0) (2 * M.slots.length + 7) M (newF ⟨2, ka, kb, tm, 0, 0⟩) = (X, g, true) ∧ Added M ⟨2, ka, kb, tm, 0, 0⟩ X g := by
  obtain ⟨c, hc⟩ : ∃ c : Cl, c = ⟨2, ka, kb, tm, 0, 0⟩ := ⟨_, rfl⟩
  have hca : c.a = ka ∧ c.b = kb ∧ c.kind = 2 ∧ c.time = tm := by rw [hc]; exact ⟨rfl, rfl, rfl, rfl⟩
  rw [← hc]
  by_cases hF : M.free.length = 0
  · have e : adF M (newF c) = endF (newF c) 7 := by rw [adF0 rfl]; unfold adTake; rw [if_pos hF]
    have em : adM 0 M (newF c) = M := by rw [adM0 rfl]; unfold adTakeM; rw [if_pos hF]
    refine ⟨M, endF (newF c) 7, ?_, ?_⟩
    · rw [run_end (by rw [e]; rfl), e, em]
    · unfold Added; rw [if_pos hF]; exact ⟨rfl, rfl⟩
  have hF' : 0 < M.free.length := by omega
  obtain ⟨l0, l1, l2⟩ := last_ok hM.ok hF'
  have hfs := free_split hF'
  obtain ⟨s, hs⟩ : ∃ s, s = lastF M := ⟨_, rfl⟩
  rw [← hs] at l0 l1 l2 hfs
  obtain ⟨u, hu⟩ : ∃ u, u = untA M (newF c) := ⟨_, rfl⟩
  have hsl : isSl M s = true := isSl_in.2 ⟨l0, l1⟩
  have hoff : s ∉ allC M := free_off hM l2
  obtain ⟨M1, hM1⟩ : ∃ M1, M1 = takeM M ka kb u := ⟨_, rfl⟩
  have hs1 : ∀ x : Int, slotAt M1 x = if x.toNat = s.toNat then ⟨1, ka, kb, u, false, (slotAt M s).next⟩ else slotAt M x := fun x => by
    rw [hM1]; exact slotAt_setN hsl (by rw [hs]; rfl) x
  have ok1 : Ok M1 := by
    rw [hM1]
    refine take_ok hM.ok hkey ?_ hF'
    rw [hu]
    exact untA_in hM.ok (by show 1 ≤ c.time; rw [hca.2.2.2]; exact ht.1)
  have h1h : M1.heads = M.heads := by rw [hM1]; rfl
  have h1l : M1.locks = M.locks := by rw [hM1]; rfl
  have h1n : M1.slots.length = M.slots.length := by rw [hM1]; simp [takeM]
  have h1f : M1.free ++ [s] = M.free := by rw [hM1, hfs]; simp [takeM]
  obtain ⟨oc1, hL1, hA1, hat1⟩ := okc_off hM ok1 h1h h1n hoff l0 (fun x hx => by rw [hs1, if_neg hx]) (by rw [hs1, if_pos rfl])
  have hbk := bk_of hM.ok (c := c) (by rw [hca.2.2.1]; omega) (by rw [hca.1, hca.2.1]; exact hkey)
  have hbi := bucket_in c.a c.b hM.ok.nh.1
  obtain ⟨b, hb⟩ : ∃ b, b = bkN M (newF c) := ⟨_, rfl⟩
  have hbe : (b : Int) = bucket ka kb M.heads.length := by
    rw [hb]
    show ((bkOf M.heads.length c).toNat : Int) = _
    rw [hbk, Int.toNat_of_nonneg hbi.1, hca.1, hca.2.1]
  have hbl : b < M.heads.length := by rw [hca.1, hca.2.1] at hbi; omega
  have hbn : ∀ (N : Mm) (f : Fr), N.heads.length = M.heads.length → f.c = c → bkN N f = b := fun N f h1 h2 => by
    rw [hb]; unfold bkN; rw [h1, h2]; rfl
  have hbk1 : b < M1.locks.length := by rw [h1l, hM.ok.nl]; exact hbl
  obtain ⟨M2, hM2⟩ : ∃ M2, M2 = lockM M1 b 0 := ⟨_, rfl⟩
  have oc2 : OkC M2 := by rw [hM2]; exact lock_okc oc1 b (by omega)
  have h2s : M2.slots = M1.slots := by rw [hM2]; rfl
  have h2h : M2.heads = M1.heads := by rw [hM2]; rfl
  have h2f : M2.free = M1.free := by rw [hM2]; rfl
  have h2l : M2.locks = M1.locks.set b 0 := by rw [hM2]; rfl
  have hat2 : ∀ x, slotAt M2 x = slotAt M1 x := fun x => by unfold slotAt; rw [h2s]
  have hL2 : ∀ d, chL M2 d = chL M d := fun d => by rw [← hL1 d]; unfold chL headM; rw [h2s, h2h]
  have hA2 : allC M2 = allC M := by rw [← hA1]; unfold allC allTo; rw [h2h]; exact flat_congr fun d _ => by rw [hL2, hL1]
  have hn2 : M2.heads.length = M.heads.length := by rw [h2h, h1h]
  have hss2 : slotAt M2 s = ⟨1, ka, kb, u, false, (slotAt M s).next⟩ := by rw [hat2, hs1, if_pos rfl]
  have hsl2 : isSl M2 s = true := by rw [isSl_in, h2s, h1n]; exact ⟨l0, l1⟩
  have hat20 : ∀ a ∈ allC M, slotAt M2 a = slotAt M a := fun a ha => by rw [hat2]; exact hat1 a ha
  obtain ⟨f1, hf1⟩ : ∃ f, f = handF (newF c) s 1 := ⟨_, rfl⟩
  have c1 : f1.c = c := by rw [hf1]; rfl
  have p1 : f1.pl = 1 := by rw [hf1]; rfl
  have d1 : f1.done = false := by rw [hf1]; rfl
  have e0 : adF M (newF c) = f1 := by rw [adF0 rfl]; unfold adTake; rw [if_neg hF, hf1, hs]
  have em0 : adM 0 M (newF c) = M1 := by
    rw [adM0 rfl]; unfold adTakeM
    rw [if_neg hF, ← hu, hM1]
    show takeM M c.a c.b u = _
    rw [hca.1, hca.2.1]
  have hlock : lockAt M1 (bkN M1 f1) = -1 := by
    rw [hbn M1 f1 (by rw [h1h]) c1]
    unfold lockAt
    rw [List.getD_eq_getElem?_getD, List.getElem?_eq_getElem hbk1]
    exact hlk _ (by rw [← h1l]; exact List.getElem_mem _)
  have e1 : adF M1 f1 = toF f1 2 := by rw [adF1 p1]; unfold adLock; rw [if_pos hlock]
  have em1 : adM 0 M1 f1 = M2 := by rw [adM1 p1]; unfold adLockM; rw [if_pos hlock, hbn M1 f1 (by rw [h1h]) c1, hM2]
  obtain ⟨f3, hf3⟩ : ∃ f, f = curF (toF f1 2) (headM M2 b) 3 := ⟨_, rfl⟩
  have e2 : adF M2 (toF f1 2) = f3 := by rw [adF2 rfl, hbn M2 (toF f1 2) hn2 c1, hf3]
  have em2 : adM 0 M2 (toF f1 2) = M2 := adM_same (by simp [toF])
  have hlen := chL_len oc2 (b := b) (by rw [hn2]; exact hbl)
  rw [h2s, h1n] at hlen
  obtain ⟨k', f4, r1, r2, r3, r4, r5, r6⟩ := ad_walk oc2 (c := c) (b := b) (by rw [hn2]; exact hbl) (chL M2 b) (2 * M.slots.length + 4) f3 (by rw [hf3]; exact c1) (by rw [hf3]; rfl) (by rw [hf3]; exact d1)
    (by have := oc2.path (b := b) (by rw [hn2]; exact hbl); rw [hf3]; exact this) (fun a h => h) (by omega)
  have hs4 : f4.slot = s := by rw [r5, hf3, hf1]; rfl
  have hrun : run adF (adM 0) (2 * M.slots.length + 7) M (newF c) = run adF (adM 0) k' M2 f4 := by
    rw [show 2 * M.slots.length + 7 = (2 * M.slots.length + 6) + 1 by omega, run_go (by rw [e0]; exact d1), e0, em0,
      show 2 * M.slots.length + 6 = (2 * M.slots.length + 5) + 1 by omega, run_go (by rw [e1]; exact d1), e1, em1,
      show 2 * M.slots.length + 5 = (2 * M.slots.length + 4) + 1 by omega, run_go (by rw [e2, hf3]; exact d1), e2, em2]
    exact r1
  obtain ⟨k2, rfl⟩ : ∃ k2, k' = k2 + 2 := ⟨k' - 2, by omega⟩
  have hany : (chL M2 b).any (fun a => keyAt M2 a == (c.a, c.b)) = hasK M (allC M) (c.a, c.b) := by
    rw [Bool.eq_iff_iff, List.any_eq_true, hasK_iff, List.mem_map]
    constructor
    · rintro ⟨a, ha, he⟩
      rw [hL2] at ha
      have hm : a ∈ allC M := mem_allC.2 ⟨b, hbl, ha⟩
      refine ⟨a, hm, ?_⟩
      have : keyAt M2 a = (c.a, c.b) := by simpa using he
      rw [← this]; unfold keyAt; rw [hat20 a hm]
    · rintro ⟨a, hm, he⟩
      obtain ⟨b', hb', ha⟩ := mem_allC.1 hm
      have hbu := (hM.held b' hb' a ha).2.2
      have hk1 : (slotAt M a).a = c.a ∧ (slotAt M a).b = c.b := by unfold keyAt at he; simpa using he
      rw [hk1.1, hk1.2, hca.1, hca.2.1, ← hbe] at hbu
      have hbb : b = b' := by omega
      subst hbb
      refine ⟨a, by rw [hL2]; exact ha, ?_⟩
      have : keyAt M2 a = (c.a, c.b) := by rw [← he]; unfold keyAt; rw [hat20 a hm]
      rw [this]; exact beq_self_eq_true _
  rw [hany] at r6
  rw [hrun]
  cases hk : hasK M (allC M) (c.a, c.b)
  · rw [hk] at r6
    have p4 : f4.pl = 5 := by simpa using r6
    have hown : ownB M2 s = b := by unfold ownB; rw [hss2, hn2]; show (bucket ka kb M.heads.length).toNat = b; omega
    obtain ⟨M3, hM3⟩ : ∃ M3, M3 = linkM M2 s := ⟨_, rfl⟩
    have hr2 : refsM M2 s ≠ 0 := by show (slotAt M2 s).refs ≠ 0; rw [hss2]; simp
    have hk2 : hasK M2 (allC M2) (keyAt M2 s) = false := by
      rw [← hk]
      have e1 : keyAt M2 s = (c.a, c.b) := by unfold keyAt; rw [hss2, hca.1, hca.2.1]
      unfold hasK
      rw [e1, hA2]
      congr 1
      exact List.map_congr_left fun a ha => by unfold keyAt; rw [hat20 a ha]
    have L := link_ok oc2 hsl2 hr2 hk2
    rw [← hM3, hown] at L
    have hp := linked_perm (by rw [hn2]; exact hbl) L
    obtain ⟨f5, hf5⟩ : ∃ f : Fr, f = { f4 with e := 0, pl := 7 } := ⟨_, rfl⟩
    have e4 : adF M2 f4 = f5 := by rw [adF5 p4]; unfold adLink; rw [if_pos (by rw [hs4]; exact hsl2), hf5]
    have em4 : adM 0 M2 f4 = M3 := by
      rw [adM5 p4]; unfold adLinkM
      rw [hs4, if_pos hsl2, hbn M2 f4 hn2 r3, hM3]
      unfold linkM linkB
      rw [hown]
    have c5 : f5.c = c := by rw [hf5]; exact r3
    have h3h : M3.heads.length = M.heads.length := by rw [L.nh, hn2]
    have h3l : M3.locks = M1.locks.set b 0 := by rw [hM3, ← h2l]; rfl
    have e5 : adF M3 f5 = endF f5 0 := by rw [adF7 (by rw [hf5]), hf5]
    have hl3 : lockAt M3 b = 0 := by unfold lockAt; rw [h3l]; simp [List.getD_eq_getElem?_getD, hbk1]
    have em5 : adM 0 M3 f5 = lockM M3 b (-1) := by rw [adM7 (by rw [hf5])]; unfold adOpenM; rw [hbn M3 f5 h3h c5, if_pos hl3]
    refine ⟨lockM M3 b (-1), endF f5 0, ?_, ?_⟩
    · rw [run_go (by rw [e4, hf5]; exact r4), e4, em4, run_end (by rw [e5]; rfl), e5, em5]
    · unfold Added
      rw [if_neg hF, hk, if_neg (by simp)]
      have hflow : ∀ a ∈ allC M, flowAt (lockM M3 b (-1)) a = flowAt M a := fun a ha => by
        show flowAt M3 a = flowAt M a
        unfold flowAt
        have h1 := L.key a
        unfold keyAt at h1
        rw [hat20 a ha] at h1
        simp only [Prod.mk.injEq] at h1
        rw [h1.1, h1.2, L.unt, hat20 a ha]
      refine ⟨rfl, lock_okc L.okc b (by omega), ?_, ?_, ?_, ?_⟩
      · show M3.locks.set b (-1) = M.locks
        rw [h3l, h1l]; exact set_back hlk
      · show ((allC M3).map _).length = ((allC M).map _).length + 1
        rw [List.length_map, List.length_map, hp.length_eq, List.length_cons, hA2]
      · show _ ∈ (allC M3).map (flowAt (lockM M3 b (-1)))
        refine List.mem_map.2 ⟨s, hp.mem_iff.2 (by simp), ?_⟩
        show flowAt M3 s = _
        have g5 : (endF f5 0).slot = s := by rw [hf5]; exact hs4
        have h1 := L.key s
        unfold keyAt at h1
        rw [hss2] at h1
        simp only [Prod.mk.injEq] at h1
        unfold flowAt
        rw [h1.1, h1.2, L.unt, hss2, g5, hca.1, hca.2.1, hu]
        rfl
      · intro x hx
        obtain ⟨a, ha, rfl⟩ := List.mem_map.1 hx
        refine List.mem_map.2 ⟨a, ?_, hflow a ha⟩
        show a ∈ allC M3
        exact hp.mem_iff.2 (by rw [hA2]; simp [ha])
  · rw [hk] at r6
    have p4 : f4.pl = 6 := by simpa using r6
    have hr2 : refsM M2 s = 1 := by show (slotAt M2 s).refs = 1; rw [hss2]
    obtain ⟨M3, hM3⟩ : ∃ M3, M3 = putN M2 s := ⟨_, rfl⟩
    have ok3 : Ok M3 := by rw [hM3]; exact putN_ok oc2.ok hsl2
    have hM3' : M3 = { M2 with slots := setRefs M2 s 0, free := M2.free ++ [s] } := by
      rw [hM3]; unfold putN; rw [if_neg (by omega)]; unfold putM; rw [if_pos hr2, hr2]; rfl
    have hs3 : ∀ x : Int, slotAt M3 x = if x.toNat = s.toNat then { slotAt M2 s with refs := 0 } else slotAt M2 x := fun x => by
      rw [hM3']; exact slotAt_setN hsl2 rfl x
    have h3h : M3.heads = M2.heads := by rw [hM3']
    have h3l : M3.locks = M1.locks.set b 0 := by rw [hM3', ← h2l]
    obtain ⟨oc3, hL3, hA3, hat3⟩ := okc_off oc2 ok3 h3h (by rw [hM3']; simp [setRefs]) (by rw [hA2]; exact hoff) l0 (fun x hx => by rw [hs3, if_neg hx]) (by rw [hs3, if_pos rfl])
    obtain ⟨f5, hf5⟩ : ∃ f : Fr, f = { f4 with slot := -1, e := 6, pl := 7 } := ⟨_, rfl⟩
    have e4 : adF M2 f4 = f5 := by rw [adF6 p4]; unfold adPut; rw [hs4, if_pos hsl2, hf5]
    have em4 : adM 0 M2 f4 = M3 := by rw [adM6 p4]; unfold adPutM; rw [hs4, if_pos hsl2, hM3]
    have c5 : f5.c = c := by rw [hf5]; exact r3
    have e5 : adF M3 f5 = endF f5 6 := by rw [adF7 (by rw [hf5]), hf5]
    have hl3 : lockAt M3 b = 0 := by unfold lockAt; rw [h3l]; simp [List.getD_eq_getElem?_getD, hbk1]
    have em5 : adM 0 M3 f5 = lockM M3 b (-1) := by rw [adM7 (by rw [hf5])]; unfold adOpenM; rw [hbn M3 f5 (by rw [h3h, hn2]) c5, if_pos hl3]
    refine ⟨lockM M3 b (-1), endF f5 6, ?_, ?_⟩
    · rw [run_go (by rw [e4, hf5]; exact r4), e4, em4, run_end (by rw [e5]; rfl), e5, em5]
    · unfold Added
      rw [if_neg hF, hk, if_pos rfl]
      refine ⟨rfl, lock_okc oc3 b (by omega), ?_, ?_, ?_⟩
      · show M3.free = M.free
        rw [hM3']
        show M2.free ++ [s] = M.free
        rw [h2f]; exact h1f
      · show M3.locks.set b (-1) = M.locks
        rw [h3l, h1l]; exact set_back hlk
      · show flowsOf M3 = flowsOf M
        refine flows_off (by rw [hA3, hA2]) fun a ha => ?_
        rw [hat3 a (by rw [hA2]; exact ha), hat20 a ha]

end Go.Proofs.Ytdbilofhcadmoab.mm

/- AddAlone's walk: an Add that goes on alone is done in time, and adds its flow, where it is not there and a slot is free. -/
namespace Go.Proofs.Ytdbilofhcadmoab.mm
open Go.ChangeShapes Go.WideShapes Go.ChangeAt Go.RowKit Go.Joins Go.Deep Go.Sort
set_option maxRecDepth 100000
set_option linter.unusedVariables false

theorem eqM_own (N : Mm) : eqM N N = true := by
  unfold eqM
  rw [(eqS_iff _ _).2 rfl, (eqI_iff _ _).2 rfl, (eqI_iff _ _).2 rfl, (eqI_iff _ _).2 rfl]
  simp

theorem fit_add {M : Mm} (hM : Ok M) {ka kb tm : Int} (hk : keyB ka kb = true) (ht : 1 ≤ tm ∧ tm ≤ 1000000) : Fit M (newF ⟨2, ka, kb, tm, 0, 0⟩) := by
  refine ⟨?_, by simp [newF], (show inB 0 0 1000000 = true by decide), rfl, ?_, ?_, ?_, by simp [newF]⟩
  · show callE _ _ ⟨2, ka, kb, tm, 0, 0⟩ = 0
    rw [callE_add, if_pos]
    simp only [Bool.and_eq_true, inB_iff]
    exact ⟨ht, hk⟩
  · show _ ∧ _
    simp only [newF]
    omega
  · simp only [newF]
    omega
  · simp only [newF]
    omega

theorem aloneA {B lo : Nat} {Z : Nat → Prop} {M X : Mm} {c : Cl} {g : Fr} {most : Int} (w : World) (n : Nat) (hn : n ≤ 1000) (hm : most = (n : Int)) (hG : AdG M (newF c)) (h1 : run adF (adM 0) n M (newF c) = (X, g, true)) (hM : Has w B lo Z M) (hZ : ∀ k, Z k → k < w.heap.size) :
    Calls Try.prog 42 #[.agg #[.int .i64 c.kind, .int .i64 c.a, .int .i64 c.b, .int .i64 c.time, .int .i64 c.bk, .int .i64 c.slot], .int .i64 most, .func (.func 55) #[] #[.pointer (some ⟨B, 0, none⟩)]] w fun e w' =>
      (∃ a c', e = .returned (.tuple #[.agg #[.int .i64 g.c.kind, .int .i64 g.c.a, .int .i64 g.c.b, .int .i64 g.c.time, .int .i64 g.c.bk, .int .i64 g.c.slot, .int .i64 g.pl, .int .i64 g.cur, .int .i64 g.prev, .int .i64 g.slot, .int .i64 g.n, .slice a g.keys.length c', .bool g.done, .int .i64 g.e], .bool true])) ∧ Has w' B lo (Up w Z) X ∧ Fine w w' Z := by
  subst hm
  have h := alone_any 55 #[.pointer (some ⟨B, 0, none⟩)] adF (adM 0) AdG B lo Z M c n w (fun args W => by kernel_rfl) (fun M f W Z h h' => closA0 M f B lo Z W h h') (fun M f h hd => adG_next (by omega) h hd) hM hZ hG hn
  rw [h1] at h
  exact h

theorem flows_few {M : Mm} (hM : Ok M) : (flowsOf M).length ≤ 1000 := by
  have hal := allTo_len M M.heads.length
  have hal2 : M.heads.length * M.slots.length ≤ 4 * 12 := Nat.mul_le_mul hM.nh.2 hM.ns
  unfold flowsOf
  rw [List.length_map]
  exact Nat.le_trans (Nat.le_trans hal hal2) (by omega)
theorem any_key {M : Mm} (ka kb : Int) : (flowsOf M).any (fun x => x.a == ka && x.b == kb) = hasK M (allC M) (ka, kb) := by
  unfold flowsOf hasK
  rw [Bool.eq_iff_iff, List.any_eq_true, List.contains_iff_mem, List.mem_map]
  constructor
  · rintro ⟨x, hx, h⟩
    obtain ⟨a, ha, rfl⟩ := List.mem_map.1 hx
    simp only [flowAt, Bool.and_eq_true, beq_iff_eq] at h
    exact ⟨a, ha, by unfold keyAt; rw [h.1, h.2]⟩
  · rintro ⟨a, ha, h⟩
    refine ⟨flowAt M a, List.mem_map_of_mem ha, ?_⟩
    unfold keyAt at h
    injection h with h1 h2
    simp [flowAt, h1, h2]
theorem flowsM_of {M : Mm} (h : OkC M) : flowsM M = flowsOf M := by unfold flowsM flowsOf; rw [if_pos ((chkC_zero M).2 h)]

set_option maxHeartbeats 12800000 in
theorem addAlone_any (M : Mm) (ka kb tm : Int) (v : Value) (w : World) (A0 : Ans 0 w v M) :
    Calls Try.prog 10 #[v, .agg #[.int .i64 ka, .int .i64 kb], .int .i64 tm] w fun e w' => e = .returned (.bool true) ∧ Below w.heap.size w w' := by
  have HA : Hid (Ans 0 w v M) := A0
  obtain ⟨aS, aH, aF, aL, cS, cH, cF, cL, rfl⟩ := A0.form
  obtain ⟨om, hom⟩ : ∃ o : Obj, o = .cells #[.slice aS M.slots.length cS, .slice aH M.heads.length cH, .slice aF M.free.length cF, .slice aL M.locks.length cL, .int .i64 M.now] 25 := ⟨_, rfl⟩
  obtain ⟨ok, hok⟩ : ∃ o : Obj, o = .cells #[.int .i64 ka, .int .i64 kb] 37 := ⟨_, rfl⟩
  have HE0 : Hid (Env w ((w.alloc om).alloc ok) [((w.alloc om).heap.size, ok), (w.heap.size, om)] []) := ((⟨Below.refl _ _, (fun p hp => by cases hp), (fun p hp => by cases hp)⟩ : Env w w [] []).alloc om).alloc ok
  rw [show (w.alloc om).heap.size = w.heap.size + 1 by simp] at HE0
  have HBm : Hid (∀ W : World, W.heap[w.heap.size]? = some om → W.heap[w.heap.size]? = some (.cells #[.slice aS M.slots.length cS, .slice aH M.heads.length cH, .slice aF M.free.length cF, .slice aL M.locks.length cL, .int .i64 M.now] 25 (0, 0))) := fun W E => hom ▸ E
  have HBk : Hid (∀ W : World, W.heap[w.heap.size + 1]? = some ok → W.heap[w.heap.size + 1]? = some (.cells #[.int .i64 ka, .int .i64 kb] 37 (0, 0))) := fun W E => hok ▸ E
  have HMx : Hid (M.slots.length * 48 ≤ 140737488351232 ∧ M.heads.length * 8 ≤ 140737488351232 ∧ M.free.length * 8 ≤ 140737488351232 ∧ M.locks.length * 8 ≤ 140737488351232) := ⟨A0.at_.s.max, A0.at_.h.max, A0.at_.f.max, A0.at_.l.max⟩
  obtain ⟨L, hL⟩ : ∃ L, flowsM M = L := ⟨_, rfl⟩
  obtain ⟨E0, hE⟩ : ∃ E, chkC M = E := ⟨_, rfl⟩
  have HL : Hid (flowsM M = L) := hL
  have HE : Hid (chkC M = E0) := hE
  clear A0 hL hE
  go_enter Try.func10, Try.ntmps10
  obtain ⟨q0, q1, q2, q3, q4, -, -, -, -, -, qs⟩ := boxf (HBm.out _ (HE0.out.box _ (.tail _ (.head _))))
  rw [hom, hok] at q0 q1 q2 q3 q4 qs
  go_wp2_with fail
  clear q0 q1 q2 q3 q4 qs
  rw [← hom, ← hok]
  generalize (w.alloc om).alloc ok = W0 at *
  clear hom hok
  refine (flows_at HL.out HE.out _ W0 0 (HA.out.below HE0.out.bl)).mono ?_
  rintro e w1 ⟨ao, cap, rfl, fr, hb1⟩
  have HF : Hid (FRow w1 ao cap L) := fr
  have HE1' : Hid (Env w w1 [(w.heap.size + 1, ok), (w.heap.size, om)] []) := HE0.out.below hb1
  have HE1 : Hid (Env w1 w1 [(w.heap.size + 1, ok), (w.heap.size, om)] []) := ⟨Below.refl _ _, HE1'.out.box, fun p hp => by cases hp⟩
  have HW1 : Hid (Below w.heap.size w w1) := HE1'.out.bl
  have HKl : Hid (w.heap.size + 1 < w1.heap.size) := HE1'.out.lt (.head _)
  clear HE0 hb1 fr HE1'
  go_wp2_with fail
  refine (added_any w1).mono ?_
  rintro e w2 ⟨rfl, hb2⟩
  have HE2 : Hid (Env w1 w2 [(w.heap.size + 1, ok), (w.heap.size, om)] []) := HE1.out.below hb2
  clear HE1 hb2
  by_cases hz : E0 = 0
  rotate_left
  · have hq : (E0 == 0) = false := by simpa using hz
    have hq2 : (E0 != 0) = true := by simpa using hz
    clear hz
    go_wp2_with fail
    refine (added_any w2).mono ?_
    rintro e w9 ⟨rfl, hb9⟩
    have HE9 : Hid _ := HE2.out.below hb9
    go_wp2
    go_ret
    exact ⟨rfl, HW1.out.trans (HE9.out.bl.mono HW1.out.size)⟩
  subst hz
  have HOk : Hid (OkC M) := (chkC_zero M).1 HE.out
  have HL' : Hid (L = flowsOf M) := HL.out.symm.trans (flowsM_of HOk.out)
  clear HE HL
  have k0 : w2.cell? ⟨w.heap.size + 1, 0, none⟩ = some (.int .i64 ka) := by rw [cell_of_block (HBk.out _ (HE2.out.box _ (.head _)))]; rfl
  have k1 : w2.cell? ⟨w.heap.size + 1, 1, none⟩ = some (.int .i64 kb) := by rw [cell_of_block (HBk.out _ (HE2.out.box _ (.head _)))]; rfl
  go_wp2_with fail
  clear k0 k1
  refine (kcheck_any ka kb w2).mono ?_
  rintro e w3 ⟨rfl, hb3⟩
  have HE3 : Hid (Env w1 w3 [(w.heap.size + 1, ok), (w.heap.size, om)] []) := HE2.out.below hb3
  clear HE2 hb3
  cases hkey : keyB ka kb
  · simp only [Bool.false_eq_true, if_false]
    go_wp2_with fail
    refine (added_any w3).mono ?_
    rintro e w9 ⟨rfl, hb9⟩
    have HE9 : Hid _ := HE3.out.below hb9
    go_wp2
    go_ret
    exact ⟨rfl, HW1.out.trans (HE9.out.bl.mono HW1.out.size)⟩
  have HKy : Hid (keyB ka kb = true) := hkey
  simp only [if_true]
  clear hkey
  by_cases ht1 : tm < 1
  · go_wp2_with fail
    refine (added_any w3).mono ?_
    rintro e w9 ⟨rfl, hb9⟩
    have HE9 : Hid _ := HE3.out.below hb9
    go_wp2
    go_ret
    exact ⟨rfl, HW1.out.trans (HE9.out.bl.mono HW1.out.size)⟩
  by_cases ht2 : 1000000 < tm
  · go_wp2_with fail
    refine (added_any w3).mono ?_
    rintro e w9 ⟨rfl, hb9⟩
    have HE9 : Hid _ := HE3.out.below hb9
    go_wp2
    go_ret
    exact ⟨rfl, HW1.out.trans (HE9.out.bl.mono HW1.out.size)⟩
  have HT : Hid (1 ≤ tm ∧ tm ≤ 1000000) := ⟨by omega, by omega⟩
  have HAt : Hid (∀ W : World, Below w1.heap.size w1 W → At W aS aH aF aL cS cH cF cL M) := fun W hb => (HA.out.at_.below HW1.out).below hb
  obtain ⟨q0, q1, q2, q3, q4, -, -, -, -, -, qs⟩ := boxf (HBm.out _ (HE3.out.box _ (.tail _ (.head _))))
  go_wp2_with fail
  clear q0 q1 q2 q3 q4 qs ht1 ht2
  refine (hasI 54 (fun args W => by kernel_rfl) litA1 aL cL M.locks w3 (HAt.out _ HE3.out.bl).l).mono ?_
  rintro e w4 ⟨bb, rfl, hbb, hb4⟩
  have HE4 : Hid (Env w1 w4 [(w.heap.size + 1, ok), (w.heap.size, om)] []) := HE3.out.below hb4
  clear HE3 hb4
  cases bb
  rotate_left
  · clear hbb
    go_wp2
    go_ret
    exact ⟨rfl, HW1.out.trans (HE4.out.bl.mono HW1.out.size)⟩
  have HLo : Hid (∀ x ∈ M.locks, x = -1) := hbb rfl
  clear hbb
  obtain ⟨X, g, hrun, hadd⟩ := ad_all HOk.out HLo.out HKy.out HT.out
  have HRun : Hid (run adF (adM 0) (2 * M.slots.length + 7) M (newF ⟨2, ka, kb, tm, 0, 0⟩) = (X, g, true)) := hrun
  have HAd : Hid (Added M ⟨2, ka, kb, tm, 0, 0⟩ X g) := hadd
  have HXo : Hid (OkC X ∧ X.locks = M.locks) := by
    unfold Added at hadd
    by_cases h1 : M.free.length = 0
    · rw [if_pos h1] at hadd
      rw [hadd.1]
      exact ⟨HOk.out, rfl⟩
    · rw [if_neg h1] at hadd
      by_cases h2 : hasK M (allC M) (ka, kb) = true
      · rw [if_pos h2] at hadd
        exact ⟨hadd.2.1, hadd.2.2.2.1⟩
      · rw [if_neg h2] at hadd
        exact ⟨hadd.2.1, hadd.2.2.1⟩
  have HNs : Hid (M.slots.length ≤ 12 ∧ M.free.length ≤ 12) := ⟨HOk.out.ok.ns, free_few HOk.out.ok⟩
  have hns : M.slots.length ≤ 12 := HNs.out.1
  have HG : Hid (AdG M (newF ⟨2, ka, kb, tm, 0, 0⟩)) := ⟨HOk.out.ok, fit_add HOk.out.ok HKy.out HT.out, rfl, rfl⟩
  clear hrun hadd
  obtain ⟨q0, q1, q2, q3, q4, -, -, -, -, -, qs⟩ := boxf (HBm.out _ (HE4.out.box _ (.tail _ (.head _))))
  go_wp2_with fail
  clear q0 q1 q2 q3 q4 qs
  refine (ownMem_any M aS aH aF aL cS cH cF cL w4 (HAt.out _ HE4.out.bl)).mono ?_
  rintro e w5 ⟨xS, xH, xF, xL, kS, kH, kF, kL, rfl, R5, hb5⟩
  obtain ⟨ox, hox⟩ : ∃ o : Obj, o = .cells #[.slice xS M.slots.length kS, .slice xH M.heads.length kH, .slice xF M.free.length kF, .slice xL M.locks.length kL, .int .i64 M.now] 25 := ⟨_, rfl⟩
  have HM5 : Hid (Mine (w5.alloc ox) w5.heap.size w4.heap.size xS xH xF xL kS kH kF kL M) := by
    obtain ⟨x1, x2, x3, x4⟩ := HMx.out
    have := HNs.out
    rw [hox]
    exact Mine.made R5 (by omega) (by omega) (by omega) (by omega)
  have HE5 : Hid (Env w1 (w5.alloc ox) [(w.heap.size + 1, ok), (w.heap.size, om)] []) := (HE4.out.below hb5).below (one_below _ _)
  have HF5 : Hid (∀ k, Foot w5.heap.size xS xH xF xL k → w1.heap.size ≤ k) := HM5.out.foot (by have := hb5.size; have := HE4.out.bl.size; omega) HE4.out.bl.size
  clear R5 hb5 HE4
  obtain ⟨q0, q1, q2, q3, q4, -, -, -, -, -, qs⟩ := boxf (HBm.out _ (HE5.out.box _ (.tail _ (.head _))))
  have k0 : (w5.alloc ox).cell? ⟨w.heap.size + 1, 0, none⟩ = some (.int .i64 ka) := by rw [cell_of_block (HBk.out _ (HE5.out.box _ (.head _)))]; rfl
  have k1 : (w5.alloc ox).cell? ⟨w.heap.size + 1, 1, none⟩ = some (.int .i64 kb) := by rw [cell_of_block (HBk.out _ (HE5.out.box _ (.head _)))]; rfl
  rw [hox] at q0 q1 q2 q3 q4 qs k0 k1
  go_wp2_with fail
  clear q0 q1 q2 q3 q4 qs k0 k1
  rw [← hox]
  generalize w5.alloc ox = W5 at *
  generalize w5.heap.size = B at *
  generalize w4.heap.size = lo at *
  clear hox
  refine (aloneA (c := ⟨2, ka, kb, tm, 0, 0⟩) W5 (2 * M.slots.length + 7) (by omega) (by omega) HG.out HRun.out ⟨_, _, _, _, _, _, _, _, HM5.out, fun _ h => h⟩ (foot_lt HM5.out)).mono ?_
  rintro e w6 ⟨⟨ga, gk, rfl⟩, ⟨yS, yH, yF, yL, jS, jH, jF, jL, m6, -⟩, hf6⟩
  obtain ⟨og, hog⟩ : ∃ o : Obj, o = .cells #[.int .i64 g.c.kind, .int .i64 g.c.a, .int .i64 g.c.b, .int .i64 g.c.time, .int .i64 g.c.bk, .int .i64 g.c.slot, .int .i64 g.pl, .int .i64 g.cur, .int .i64 g.prev, .int .i64 g.slot, .int .i64 g.n, .slice ga g.keys.length gk, .bool g.done, .int .i64 g.e] 51 := ⟨_, rfl⟩
  have HE6 : Hid (Env w1 (w6.alloc og) [(w6.heap.size, og), (w.heap.size + 1, ok), (w.heap.size, om)] []) := (HE5.out.fine hf6 HF5.out (fun p hp => by
    have := HKl.out
    rcases List.mem_cons.1 hp with rfl | hp
    · intro h; have := HF5.out _ h; dsimp only at this; omega
    rcases List.mem_cons.1 hp with rfl | hp
    · intro h; have := HF5.out _ h; dsimp only at this; omega
    cases hp)).alloc og
  have HM6 : Hid (Mine (w6.alloc og) B lo yS yH yF yL jS jH jF jL X) := m6.below (one_below _ _)
  have HBg : Hid (∀ (W : World) (G : Nat), W.heap[G]? = some og → W.heap[G]? = some (.cells #[.int .i64 g.c.kind, .int .i64 g.c.a, .int .i64 g.c.b, .int .i64 g.c.time, .int .i64 g.c.bk, .int .i64 g.c.slot, .int .i64 g.pl, .int .i64 g.cur, .int .i64 g.prev, .int .i64 g.slot, .int .i64 g.n, .slice ga g.keys.length gk, .bool g.done, .int .i64 g.e] 51 (0, 0))) := fun W G E => hog ▸ E
  clear HM5 HE5 HF5 hf6 m6 HG HRun
  obtain ⟨p0, p1, p2, p3, p4, -, -, -, -, -, ps⟩ := boxf HM6.out.box
  rw [hog] at p0 p1 p2 p3 p4 ps
  go_wp2_with fail
  clear p0 p1 p2 p3 p4 ps
  rw [← hog]
  generalize w6.alloc og = W6 at *
  generalize w6.heap.size = G at *
  clear hog
  obtain ⟨L2, hL2⟩ : ∃ L2, flowsM X = L2 := ⟨_, rfl⟩
  have HL2 : Hid (L2 = flowsOf X) := hL2.symm.trans (flowsM_of HXo.out.1)
  refine (flows_at hL2 ((chkC_zero X).2 HXo.out.1) _ W6 lo HM6.out.ans).mono ?_
  clear hL2
  rintro e w7 ⟨ao2, cap2, rfl, fr2, hb7⟩
  obtain ⟨oy, hoy⟩ : ∃ o : Obj, o = .cells #[.slice ao2 L2.length cap2] 29 := ⟨_, rfl⟩
  have HE7 : Hid (Env w1 (w7.alloc oy) [(w7.heap.size, oy), (G, og), (w.heap.size + 1, ok), (w.heap.size, om)] []) := (HE6.out.below hb7).alloc oy
  have HM7 : Hid (Mine (w7.alloc oy) B lo yS yH yF yL jS jH jF jL X) := (HM6.out.below hb7).below (one_below _ _)
  have HF7 : Hid (FRow (w7.alloc oy) ao2 cap2 L2) := fr2.below (one_below _ _)
  have HBy : Hid (∀ (W : World) (G : Nat), W.heap[G]? = some oy → W.heap[G]? = some (.cells #[.slice ao2 L2.length cap2] 29 (0, 0))) := fun W G E => hoy ▸ E
  clear HE6 HM6 hb7 fr2
  obtain ⟨q0, q1, q2, q3, q4, -, -, -, -, -, qs⟩ := boxf (HBm.out _ (HE7.out.box _ (.tail _ (.tail _ (.tail _ (.head _))))))
  obtain ⟨p0, p1, p2, p3, p4, -, -, -, -, -, ps⟩ := boxf HM7.out.box
  rw [hoy] at q0 q1 q2 q3 q4 qs p0 p1 p2 p3 p4 ps
  go_wp2_with fail
  clear q0 q1 q2 q3 q4 qs p0 p1 p2 p3 p4 ps
  rw [← hoy]
  generalize w7.alloc oy = W7 at *
  generalize w7.heap.size = Y at *
  clear hoy
  have c1 := equalI_any yL aL jL cL X.locks M.locks W7 HM7.out.at.l (HAt.out _ HE7.out.bl).l
  rw [show eqI X.locks M.locks = true from (eqI_iff _ _).2 HXo.out.2] at c1
  refine c1.mono ?_
  clear c1
  rintro e w8 ⟨rfl, hb8⟩
  have HE8 : Hid (Env w1 w8 [(Y, oy), (G, og), (w.heap.size + 1, ok), (w.heap.size, om)] []) := HE7.out.below hb8
  have HM8 : Hid (Mine w8 B lo yS yH yF yL jS jH jF jL X) := HM7.out.below hb8
  have HF8 : Hid (FRow w8 ao2 cap2 L2) := HF7.out.below hb8
  have HFw : Hid (∀ W : World, Below w1.heap.size w1 W → FRow W ao cap L) := fun W hb => HF.out.below hb
  clear HE7 HM7 HF7 hb8 HF
  obtain ⟨q0, q1, q2, q3, q4, -, -, -, -, -, qs⟩ := boxf (HBm.out _ (HE8.out.box _ (.tail _ (.tail _ (.tail _ (.head _))))))
  obtain ⟨p0, p1, p2, p3, p4, -, -, -, -, -, ps⟩ := boxf HM8.out.box
  obtain ⟨g0, g1, g2, g3, g4, g5, g6, g7, g8, g9, g10, g11, g12, g13, -, gs⟩ := framef (HBg.out _ _ (HE8.out.box _ (.tail _ (.head _))))
  by_cases hfr : M.free.length = 0
  · have had : X = M ∧ g.e = 7 := by have h := HAd.out; unfold Added at h; rwa [if_pos hfr] at h
    obtain ⟨hX, hge⟩ := had
    subst hX
    rw [hge] at g13
    rw [hfr] at q2
    have HMa : Hid (Ans 0 w8 (.agg #[.slice aS X.slots.length cS, .slice aH X.heads.length cH, .slice aF X.free.length cF, .slice aL X.locks.length cL, .int .i64 X.now]) X) := (HA.out.below HW1.out).below HE8.out.bl
    have HF0 : Hid (X.free.length = 0) := hfr
    rw [hfr] at p2
    clear hge hfr
    go_wp2_with fail
    have c1 := same_any X X _ _ w8 lo 0 HM8.out.ans HMa.out
    rw [eqM_own, HF0.out] at c1
    refine c1.mono ?_
    clear c1
    rintro e w9 ⟨rfl, hb9⟩
    have HE9 : Hid _ := HE8.out.below hb9
    clear q0 q1 q2 q3 q4 qs p0 p1 p2 p3 p4 ps g0 g1 g2 g3 g4 g5 g6 g7 g8 g9 g10 g11 g12 g13 gs
    go_wp2
    go_ret
    exact ⟨rfl, HW1.out.trans (HE9.out.bl.mono HW1.out.size)⟩
  have hfr2 : ((M.free.length : Int) == 0) = false := by rw [beq_eq_false_iff_ne]; omega
  have HFr : Hid (¬ M.free.length = 0) := hfr
  have hL1 : L.length ≤ 1000 := by rw [HL'.out]; exact flows_few HOk.out.ok
  have HLn : Hid (L.length ≤ 1000) := hL1
  have HL2n : Hid (L2.length ≤ 1000) := by show _ ≤ _; rw [HL2.out]; exact flows_few HXo.out.1.ok
  clear hfr hL1
  go_wp2_with fail
  clear q0 q1 q2 q3 q4 qs p0 p1 p2 p3 p4 ps g0 g1 g2 g3 g4 g5 g6 g7 g8 g9 g10 g11 g12 g13 gs
  clear hfr2
  have c1 := containsFn_any 57 #[.pointer (some ⟨w.heap.size + 1, 0, none⟩)] (fun x => x.a == ka && x.b == kb) ao cap L w8 HLn.out (HFw.out _ HE8.out.bl) (fun args W => by kernel_rfl) (fun x W hb => of_key ka kb (w.heap.size + 1) x W ((hb.block _ (Nat.lt_of_lt_of_le HKl.out HE8.out.bl.size)).trans (HBk.out _ (HE8.out.box _ (.tail _ (.tail _ (.head _)))))))
  rw [show L.any (fun x => x.a == ka && x.b == kb) = hasK M (allC M) (ka, kb) by rw [HL'.out]; exact any_key ka kb] at c1
  refine c1.mono ?_
  clear c1
  rintro e w9 ⟨rfl, hb9⟩
  have HE9 : Hid (Env w1 w9 [(Y, oy), (G, og), (w.heap.size + 1, ok), (w.heap.size, om)] []) := HE8.out.below hb9
  have HM9 : Hid (Mine w9 B lo yS yH yF yL jS jH jF jL X) := HM8.out.below hb9
  have HF9 : Hid (FRow w9 ao2 cap2 L2) := HF8.out.below hb9
  clear HE8 HM8 HF8 hb9
  cases hk : hasK M (allC M) (ka, kb)
  rotate_left
  · have had : g.e = 6 ∧ OkC X ∧ X.free = M.free ∧ X.locks = M.locks ∧ flowsOf X = flowsOf M := by have h := HAd.out; unfold Added at h; rwa [if_neg HFr.out, if_pos (by exact hk)] at h
    obtain ⟨hge, -, hxf, -, hfl⟩ := had
    have HXf : Hid (X.free = M.free) := hxf
    have HXl : Hid (L2 = L) := by show _ = _; rw [HL2.out, HL'.out]; exact hfl
    clear hxf hfl hk
    obtain ⟨q0, q1, q2, q3, q4, -, -, -, -, -, qs⟩ := boxf (HBm.out _ (HE9.out.box _ (.tail _ (.tail _ (.tail _ (.head _))))))
    obtain ⟨p0, p1, p2, p3, p4, -, -, -, -, -, ps⟩ := boxf HM9.out.box
    obtain ⟨g0, g1, g2, g3, g4, g5, g6, g7, g8, g9, g10, g11, g12, g13, -, gs⟩ := framef (HBg.out _ _ (HE9.out.box _ (.tail _ (.head _))))
    rw [hge] at g13
    clear hge
    go_wp2_with fail
    clear q0 q1 q2 q3 q4 qs p0 p1 p2 p3 p4 ps g0 g1 g2 g3 g4 g5 g6 g7 g8 g9 g10 g11 g12 g13 gs
    have c1 := equalI_any yF aF jF cF X.free M.free w9 HM9.out.at.f (HAt.out _ HE9.out.bl).f
    rw [show eqI X.free M.free = true from (eqI_iff _ _).2 HXf.out] at c1
    refine c1.mono ?_
    clear c1
    rintro e w10 ⟨rfl, hb10⟩
    have HE10 : Hid (Env w1 w10 [(Y, oy), (G, og), (w.heap.size + 1, ok), (w.heap.size, om)] []) := HE9.out.below hb10
    have HM10 : Hid (Mine w10 B lo yS yH yF yL jS jH jF jL X) := HM9.out.below hb10
    have HF10 : Hid (FRow w10 ao2 cap2 L2) := HF9.out.below hb10
    clear HE9 HM9 HF9 hb10
    obtain ⟨y0, -, ys⟩ := var_cell (HBy.out _ _ (HE10.out.box _ (.head _)))
    go_wp2_with fail
    clear y0 ys
    have c1 := equalF_any ao2 ao cap2 cap L2 L w10 HF10.out (HFw.out _ HE10.out.bl)
    rw [show eqF L2 L = true from (eqF_iff _ _).2 HXl.out] at c1
    refine c1.mono ?_
    clear c1
    rintro e w11 ⟨rfl, hb11⟩
    have HE11 : Hid (Env w1 w11 [(Y, oy), (G, og), (w.heap.size + 1, ok), (w.heap.size, om)] []) := HE10.out.below hb11
    have HM11 : Hid (Mine w11 B lo yS yH yF yL jS jH jF jL X) := HM10.out.below hb11
    have HF11 : Hid (FRow w11 ao2 cap2 L2) := HF10.out.below hb11
    clear HE10 HM10 HF10 hb11
    go_wp2
    go_ret
    exact ⟨rfl, HW1.out.trans (HE11.out.bl.mono HW1.out.size)⟩
  have had : g.e = 0 ∧ OkC X ∧ X.locks = M.locks ∧ (flowsOf X).length = (flowsOf M).length + 1 ∧ (⟨ka, kb, g.slot, if 2000000 < M.now + tm then 2000000 else M.now + tm⟩ : Fl) ∈ flowsOf X ∧ ∀ f ∈ flowsOf M, f ∈ flowsOf X := by have h := HAd.out; unfold Added at h; rwa [if_neg HFr.out, if_neg (by rw [show hasK M (allC M) ((⟨2, ka, kb, tm, 0, 0⟩ : Cl).a, (⟨2, ka, kb, tm, 0, 0⟩ : Cl).b) = false from hk]; simp)] at h
  obtain ⟨hge, -, -, hln, hin, hall⟩ := had
  have hnow := HOk.out.ok.now
  have ht := HT.out
  have hmin : ¬ 2000000 < M.now + tm := by omega
  rw [if_neg hmin, ← HL2.out] at hin
  rw [← HL2.out, ← HL'.out] at hln
  have HIn : Hid (hasF L2 ⟨ka, kb, g.slot, M.now + tm⟩ = true) := (hasF_iff _ _).2 hin
  have HNo : Hid (L.any (fun x => !hasF L2 x) = false) := by
    show _ = _
    rw [List.any_eq_false]
    intro x hx
    rw [HL'.out] at hx
    have := hall x hx
    rw [← HL2.out] at this
    simp [(hasF_iff _ _).2 this]
  have hLi : (L2.length : Int) = (L.length : Int) + 1 := by omega
  have hl1 := HLn.out
  have hl2 := HL2n.out
  clear hin hall hk hln
  obtain ⟨q0, q1, q2, q3, q4, -, -, -, -, -, qs⟩ := boxf (HBm.out _ (HE9.out.box _ (.tail _ (.tail _ (.tail _ (.head _))))))
  obtain ⟨p0, p1, p2, p3, p4, -, -, -, -, -, ps⟩ := boxf HM9.out.box
  obtain ⟨g0, g1, g2, g3, g4, g5, g6, g7, g8, g9, g10, g11, g12, g13, -, gs⟩ := framef (HBg.out _ _ (HE9.out.box _ (.tail _ (.head _))))
  rw [hge] at g13
  clear hge
  obtain ⟨y0, -, ys⟩ := var_cell (HBy.out _ _ (HE9.out.box _ (.head _)))
  have k0 : w9.cell? ⟨w.heap.size + 1, 0, none⟩ = some (.int .i64 ka) := by rw [cell_of_block (HBk.out _ (HE9.out.box _ (.tail _ (.tail _ (.head _)))))]; rfl
  have k1 : w9.cell? ⟨w.heap.size + 1, 1, none⟩ = some (.int .i64 kb) := by rw [cell_of_block (HBk.out _ (HE9.out.box _ (.tail _ (.tail _ (.head _)))))]; rfl
  have ks := HE9.out.lt (.tail _ (.tail _ (.head _)))
  have hle : ((L2.length : Int) == (L.length : Int) + 1) = true := by rw [beq_iff_eq]; exact hLi
  obtain ⟨n1, n2⟩ := hnow
  obtain ⟨t1, t2⟩ := ht
  clear hLi
  go_wp2_with fail
  clear q0 q1 q2 q3 q4 qs p0 p1 p2 p3 p4 ps g0 g1 g2 g3 g4 g5 g6 g7 g8 g9 g10 g11 g12 g13 gs
  clear y0 ys k0 k1 ks hle n1 n2 t1 t2 hmin hl1 hl2
  have c1 := containsF_any ao2 cap2 L2 ⟨ka, kb, g.slot, M.now + tm⟩ w9 HL2n.out HF9.out
  rw [HIn.out] at c1
  refine c1.mono ?_
  clear c1
  rintro e w10 ⟨rfl, hb10⟩
  have HE10 : Hid (Env w1 w10 [(Y, oy), (G, og), (w.heap.size + 1, ok), (w.heap.size, om)] []) := HE9.out.below hb10
  have HM10 : Hid (Mine w10 B lo yS yH yF yL jS jH jF jL X) := HM9.out.below hb10
  have HF10 : Hid (FRow w10 ao2 cap2 L2) := HF9.out.below hb10
  clear HE9 HM9 HF9 hb10
  go_wp2_with fail
  have c1 := containsFn_any 60 #[.pointer (some ⟨Y, 0, none⟩)] (fun x => !hasF L2 x) ao cap L w10 HLn.out (HFw.out _ HE10.out.bl) (fun args W => by kernel_rfl) (fun x W hb => not_in53 ao2 cap2 L2 Y x W HL2n.out ((hb.block _ (HE10.out.lt (.head _))).trans (HBy.out _ _ (HE10.out.box _ (.head _)))) (HF10.out.below hb))
  rw [HNo.out] at c1
  refine c1.mono ?_
  clear c1
  rintro e w11 ⟨rfl, hb11⟩
  have HE11 : Hid (Env w1 w11 [(Y, oy), (G, og), (w.heap.size + 1, ok), (w.heap.size, om)] []) := HE10.out.below hb11
  have HM11 : Hid (Mine w11 B lo yS yH yF yL jS jH jF jL X) := HM10.out.below hb11
  have HF11 : Hid (FRow w11 ao2 cap2 L2) := HF10.out.below hb11
  clear HE10 HM10 HF10 hb11
  go_wp2
  go_ret
  exact ⟨rfl, HW1.out.trans (HE11.out.bl.mono HW1.out.size)⟩

end Go.Proofs.Ytdbilofhcadmoab.mm
