/- Whether a flow is in a list, and whether one is of which something holds: Contains, ContainsFunc and what the statement hands to them. -/
import Derived.Test.YtdbilofhcadmoacC21
import Derived.Test.YtdbilofhcadmoacC04
import Derived.Lib.SliceRun
import Derived.Laws.OwnMore
import Derived.Laws.IdiomCopy
import Derived.Test.YtdbilofhcadmoacC01
import Derived.Test.YtdbilofhcadmoacC20
import Derived.Test.YtdbilofhcadmoacC05
import Derived.Test.YtdbilofhcadmoacC07
import Derived.Test.YtdbilofhcadmoacC22
import Derived.Test.YtdbilofhcadmoacC24
import Derived.Test.YtdbilofhcadmoacC08
namespace Go.Proofs.Ytdbilofhcadmoac.mm
open Go.ChangeShapes Go.WideShapes Go.ChangeAt Go.RowKit Go.Joins Go.Maps
set_option maxRecDepth 100000
set_option linter.unusedVariables false

theorem any_snoc {p : Fl → Bool} {l : List Fl} {k : Nat} (h : k < l.length) (h0 : (l.take k).any p = false) (hx : p l[k] = false) : (l.take (k + 1)).any p = false := by
  rw [List.take_succ_eq_append_getElem h, List.any_append, h0]
  simp [hx]
theorem any_hit {p : Fl → Bool} {l : List Fl} {k : Nat} (h : k < l.length) (hx : p l[k] = true) : l.any p = true :=
  List.any_eq_true.2 ⟨_, List.getElem_mem h, hx⟩

def hasF (l : List Fl) (x : Fl) : Bool := l.any (flEq x)
theorem hasF_iff (l : List Fl) (x : Fl) : hasF l x = true ↔ x ∈ l := by
  unfold hasF
  rw [List.any_eq_true]
  constructor
  · rintro ⟨y, hy, h⟩
    rw [flEq_iff] at h
    subst h; exact hy
  · intro h; exact ⟨x, h, flEq_refl x⟩

set_option maxHeartbeats 1600000 in
theorem indexFn_any (F : Nat) (caps : Array Value) (p : Fl → Bool) (ao : Option Addr) (cap : Nat) (l : List Fl) (w : World) (hbig : l.length ≤ 1000) (hat : FRow w ao cap l) (hF : ∀ args W, (callFunc F args).run Try.prog W = .ok (.enter F args) W)
    (hp : ∀ (x : Fl) W, Below w.heap.size w W → Calls Try.prog F (#[.agg #[.int .i64 x.a, .int .i64 x.b, .int .i64 x.slot, .int .i64 x.unt]] ++ caps) W fun e W' => e = .returned (.bool (p x)) ∧ Below W.heap.size W W') :
    Calls Try.prog 58 #[.slice ao l.length cap, .func (.func F) #[] caps] w fun e w' => ∃ i : Int, e = .returned (.int .i64 i) ∧ decide (0 ≤ i) = l.any p ∧ Below w.heap.size w w' := by
  have HAT : Hid (FRow w ao cap l) := hat
  have HP : Hid (∀ (x : Fl) W, Below w.heap.size w W → Calls Try.prog F (#[.agg #[.int .i64 x.a, .int .i64 x.b, .int .i64 x.slot, .int .i64 x.unt]] ++ caps) W fun e W' => e = .returned (.bool (p x)) ∧ Below W.heap.size W W') := hp
  have HFn : Hid (∀ args W, (callFunc F args).run Try.prog W = .ok (.enter F args) W) := hF
  clear hat hp hF
  go_enter Try.func58, Try.ntmps58
  go_wp2
  go_loopw [8] (fun i wr => ∃ k : Nat, k ≤ l.length ∧ i = .int .i64 k ∧ Hid (Below w.heap.size w wr) ∧ Hid ((l.take k).any p = false)) (fun i _ => l.length - (intOf i).toNat)
  case atStart => exact ⟨0, Nat.zero_le _, rfl, Below.refl _ _, by show _ = _; simp⟩
  case round =>
    obtain ⟨k, hk, rfl, HB, HC⟩ := hrel
    by_cases hlt : k < l.length
    · rcases (HAT.out.below HB.out).at_ with h0 | ⟨bk, ok, rfl, hc⟩
      · omega
      obtain ⟨c0, c1, c2, c3⟩ := hc k hlt
      clear hc
      generalize hy : l[k] = y at c0 c1 c2 c3
      have HX : Hid (l[k] = y) := hy
      clear hy
      go_wp2_with fail
      rw [HFn.out]
      refine (HP.out y wr HB.out).mono ?_
      rintro e w1 ⟨rfl, hb1⟩
      have HB1 : Hid (Below w.heap.size w w1) := HB.out.trans (hb1.mono HB.out.size)
      clear hb1 c0 c1 c2 c3
      cases hh : p y
      · have HH : Hid ((l.take (k + 1)).any p = false) := any_snoc hlt HC.out (by rw [HX.out]; exact hh)
        go_wp2
        go_roundw
        case rel => exact ⟨k + 1, by omega, by go_num, HB1, HH⟩
        case measure => simp [intOf]; omega
      · have HH : Hid (l.any p = true) := any_hit hlt (by rw [HX.out]; exact hh)
        go_wp2
        go_ret
        exact ⟨k, rfl, by rw [HH.out]; simp, HB1.out⟩
    · have HH : Hid (l.any p = false) := by
        have := HC.out
        rw [show k = l.length by omega, List.take_length] at this
        exact this
      go_wp2
      go_ret
      exact ⟨-1, rfl, by rw [HH.out]; rfl, HB.out⟩

def hasKF (l : List Fl) (a b : Int) : Bool := l.any fun x => x.a == a && x.b == b
end Go.Proofs.Ytdbilofhcadmoac.mm

/- Lists of flows: those of a kind are left out, in place. -/
namespace Go.Proofs.Ytdbilofhcadmoac.mm
open Go.ChangeShapes Go.WideShapes Go.ChangeAt Go.RowKit Go.Joins Go.Deep Go.Sort
set_option maxRecDepth 100000
set_option linter.unusedVariables false

theorem any_snocD {l : List Fl} {p : Fl → Bool} {k : Nat} (hk : k < l.length) (h : (l.take k).any p = false) (h' : p l[k] = false) : (l.take (k + 1)).any p = false := by
  rw [List.take_succ_eq_append_getElem hk, List.any_append, h]
  simp [h']
set_option maxHeartbeats 1600000 in
theorem indexFn_first (F : Nat) (caps : Array Value) (p : Fl → Bool) (ao : Option Addr) (cap : Nat) (l : List Fl) (w : World) (hbig : l.length ≤ 1000) (hat : FRow w ao cap l) (hF : ∀ args W, (callFunc F args).run Try.prog W = .ok (.enter F args) W)
    (hp : ∀ (x : Fl) W, Below w.heap.size w W → Calls Try.prog F (#[.agg #[.int .i64 x.a, .int .i64 x.b, .int .i64 x.slot, .int .i64 x.unt]] ++ caps) W fun e W' => e = .returned (.bool (p x)) ∧ Below W.heap.size W W') :
    Calls Try.prog 58 #[.slice ao l.length cap, .func (.func F) #[] caps] w fun e w' => ∃ i : Int, e = .returned (.int .i64 i) ∧ ((i = -1 ∧ l.any p = false) ∨ ∃ k : Nat, i = (k : Int) ∧ k < l.length ∧ (l.take k).any p = false ∧ (∃ h : k < l.length, p l[k] = true)) ∧ Below w.heap.size w w' := by
  have HAT : Hid (FRow w ao cap l) := hat
  have HP : Hid (∀ (x : Fl) W, Below w.heap.size w W → Calls Try.prog F (#[.agg #[.int .i64 x.a, .int .i64 x.b, .int .i64 x.slot, .int .i64 x.unt]] ++ caps) W fun e W' => e = .returned (.bool (p x)) ∧ Below W.heap.size W W') := hp
  have HFn : Hid (∀ args W, (callFunc F args).run Try.prog W = .ok (.enter F args) W) := hF
  clear hat hp hF
  go_enter Try.func58, Try.ntmps58
  go_wp2
  go_loopw [8] (fun i wr => ∃ k : Nat, k ≤ l.length ∧ i = .int .i64 k ∧ Hid (Below w.heap.size w wr) ∧ Hid ((l.take k).any p = false)) (fun i _ => l.length - (intOf i).toNat)
  case atStart => exact ⟨0, Nat.zero_le _, rfl, Below.refl _ _, by show _ = _; simp⟩
  case round =>
    obtain ⟨k, hk, rfl, HB, HC⟩ := hrel
    by_cases hlt : k < l.length
    · rcases (HAT.out.below HB.out).at_ with h0 | ⟨bk, ok, rfl, hc⟩
      · omega
      obtain ⟨c0, c1, c2, c3⟩ := hc k hlt
      clear hc
      generalize hy : l[k] = y at c0 c1 c2 c3
      have HX : Hid (l[k] = y) := hy
      clear hy
      go_wp2_with fail
      rw [HFn.out]
      refine (HP.out y wr HB.out).mono ?_
      rintro e w1 ⟨rfl, hb1⟩
      have HB1 : Hid (Below w.heap.size w w1) := HB.out.trans (hb1.mono HB.out.size)
      clear hb1 c0 c1 c2 c3
      cases hh : p y
      · have HH : Hid ((l.take (k + 1)).any p = false) := any_snocD hlt HC.out (by rw [HX.out]; exact hh)
        go_wp2
        go_roundw
        case rel => exact ⟨k + 1, by omega, by go_num, HB1, HH⟩
        case measure => simp [intOf]; omega
      · have HH : Hid (p l[k] = true) := by
          show _ = _
          rw [HX.out]; exact hh
        go_wp2
        go_ret
        exact ⟨k, rfl, .inr ⟨k, rfl, hlt, HC.out, hlt, HH.out⟩, HB1.out⟩
    · have HH : Hid (l.any p = false) := by
        have := HC.out
        rw [show k = l.length by omega, List.take_length] at this
        exact this
      go_wp2
      go_ret
      exact ⟨-1, rfl, .inl ⟨rfl, HH.out⟩, HB.out⟩

theorem run_clear_flows (w : World) (b o n c : Nat) (hn : 0 < n) (hc : ∀ j, j < n * 4 → (w.cell? ⟨b, o + j, none⟩).isSome = true) (hf : ∀ j, j < n * 4 → w.frozen? ⟨b, o + j, none⟩ = false) :
    ∃ vs : List Value, vs.length = n * 4 ∧ ∀ ty, (Builtin.clear_ #[42] ty #[.slice (some ⟨b, o, none⟩) n c]).run Try.prog w = .ok (.tuple #[]) (w.setCells b o vs) := by
  have hv : ∀ w, (zeroValue 56).run Try.prog w = .ok (.agg #[.int .i64 0, .int .i64 0, .int .i64 0, .int .i64 0]) w := fun w => by kernel_rfl
  obtain ⟨vs, hvs⟩ : ∃ vs : List Value, (Builtin.zeroCells (Value.agg #[.int .i64 0, .int .i64 0, .int .i64 0, .int .i64 0]).cells n).toList = vs := ⟨_, rfl⟩
  have hlen : vs.length = n * 4 := by rw [← hvs, Array.length_toList, size_zeroCells]; rfl
  have hone : ∀ v ∈ vs, v.oneCell' = true := by
    intro v hv'
    rw [← hvs] at hv'
    simp only [Builtin.zeroCells, Array.toList_map, List.mem_map] at hv'
    obtain ⟨i, -, rfl⟩ := hv'
    have h4 : i % 4 = 0 ∨ i % 4 = 1 ∨ i % 4 = 2 ∨ i % 4 = 3 := by omega
    have e : (Value.agg #[.int .i64 0, .int .i64 0, .int .i64 0, .int .i64 0]).cells = #[.int .i64 0, .int .i64 0, .int .i64 0, .int .i64 0] := by kernel_rfl
    rw [e]
    show ((#[.int .i64 0, .int .i64 0, .int .i64 0, .int .i64 0] : Array Value)[i % 4]!).oneCell' = true
    rcases h4 with h | h | h | h <;> rw [h] <;> rfl
  have hst := run_storeCells_cells (P := Try.prog) b o vs 0 w (by simpa [hlen] using hc) (by simpa [hlen] using hf) hone
  simp only [Nat.add_zero] at hst
  obtain ⟨m, rfl⟩ : ∃ m, n = m + 1 := ⟨n - 1, by omega⟩
  exact ⟨vs, hlen, fun ty => by simp [Builtin.clear_, run_underlying Try.underlying42, hv, hvs, hst]⟩
theorem fine_setCells {g : Nat} : ∀ (vs : List Value) (o : Nat) (w w1 : World), Fine w w1 (fun k => k = g) → Fine w (w1.setCells g o vs) (fun k => k = g)
  | [], _, _, _, h => h
  | v :: r, o, w, w1, h => fine_setCells r (o + 1) w _ (h.set (.inl rfl) _ v)
theorem encF_set : ∀ (l : List Fl) (i : Nat) (h : i < l.length) (x : Fl), ((((encF l).set (i * 4) (.int .i64 x.a)).set (i * 4 + 1) (.int .i64 x.b)).set (i * 4 + 2) (.int .i64 x.slot)).set (i * 4 + 3) (.int .i64 x.unt) = encF (l.set i x)
  | [], i, h, x => by simp at h
  | s :: l, 0, h, x => by rw [List.set_cons_zero, encF_cons, encF_cons]; simp [Fl.enc]
  | s :: l, i + 1, h, x => by
    have ih := encF_set l i (by simpa using h) x
    rw [List.set_cons_succ, encF_cons, encF_cons, ← ih, show (i + 1) * 4 = i * 4 + 4 by omega]
    simp [Fl.enc]
theorem encF_take (l : List Fl) (i : Nat) : encF (l.take i) = (encF l).take (i * 4) := by
  induction l generalizing i with
  | nil => simp [encF]
  | cons s l ih =>
    cases i with
    | zero => simp [encF]
    | succ i =>
      rw [List.take_succ_cons, encF_cons, encF_cons, ih, List.take_append, show s.enc.length = 4 from rfl, List.take_of_length_le (l := s.enc) (by rw [show s.enc.length = 4 from rfl]; omega), show (i + 1) * 4 - 4 = i * 4 by omega]
theorem own4 {w : World} {lo g cap : Nat} {C : List Fl} (h : w.ownsRow lo 56 4 (.slice (some ⟨g, 0, none⟩) C.length cap) C.length (encF C)) (i : Nat) (hi : i < C.length) :
    w.cell? ⟨g, i * 4, none⟩ = some (.int .i64 C[i].a) ∧ w.cell? ⟨g, i * 4 + 1, none⟩ = some (.int .i64 C[i].b) ∧ w.cell? ⟨g, i * 4 + 2, none⟩ = some (.int .i64 C[i].slot) ∧ w.cell? ⟨g, i * 4 + 3, none⟩ = some (.int .i64 C[i].unt) ∧
      w.frozen? ⟨g, i * 4, none⟩ = false ∧ w.frozen? ⟨g, i * 4 + 1, none⟩ = false ∧ w.frozen? ⟨g, i * 4 + 2, none⟩ = false ∧ w.frozen? ⟨g, i * 4 + 3, none⟩ = false := by
  have e : ∀ q, q < 4 → w.cell? ⟨g, i * 4 + q, none⟩ = (C[i].enc)[q]? := fun q hq => by rw [h.cellAt _ (by omega), encF_get C i q hi hq]
  exact ⟨e 0 (by omega), e 1 (by omega), e 2 (by omega), e 3 (by omega), h.frozenAt _, h.frozenAt _, h.frozenAt _, h.frozenAt _⟩
theorem own_set4 {w : World} {lo g cap : Nat} {C : List Fl} (h : w.ownsRow lo 56 4 (.slice (some ⟨g, 0, none⟩) C.length cap) C.length (encF C)) (i : Nat) (hi : i < C.length) (x : Fl) :
    ((((w.setCell ⟨g, i * 4, none⟩ (.int .i64 x.a)).setCell ⟨g, i * 4 + 1, none⟩ (.int .i64 x.b)).setCell ⟨g, i * 4 + 2, none⟩ (.int .i64 x.slot)).setCell ⟨g, i * 4 + 3, none⟩ (.int .i64 x.unt)).ownsRow lo 56 4 (.slice (some ⟨g, 0, none⟩) (C.set i x).length cap) (C.set i x).length (encF (C.set i x)) := by
  rw [List.length_set, ← encF_set C i hi x]
  exact ((((h.stored _ _).1.stored _ _).1.stored _ _).1.stored _ _).1
theorem own_keep {w w' : World} {lo g cap : Nat} {C : List Fl} (h : w.ownsRow lo 56 4 (.slice (some ⟨g, 0, none⟩) C.length cap) C.length (encF C)) (hk : w'.heap[g]? = w.heap[g]?) : w'.ownsRow lo 56 4 (.slice (some ⟨g, 0, none⟩) C.length cap) C.length (encF C) :=
  own_same h fun k hk' => by cases hk'; exact hk
theorem filt_none {p : Fl → Bool} {l : List Fl} (h : l.any p = false) : l.filter (fun x => !p x) = l :=
  List.filter_eq_self.2 fun x hx => by
    have := List.any_eq_false.1 h x hx
    simpa using this

set_option maxHeartbeats 3200000 in
theorem deleteFn_any (F : Nat) (caps : Array Value) (p : Fl → Bool) (g cap lo : Nat) (L : List Fl) (w : World) (hown : w.ownsRow lo 56 4 (.slice (some ⟨g, 0, none⟩) L.length cap) L.length (encF L)) (hbig : L.length ≤ 1000) (hF : ∀ args W, (callFunc F args).run Try.prog W = .ok (.enter F args) W)
    (hp : ∀ (x : Fl) W, Fine w W (fun k => k = g) → Calls Try.prog F (#[.agg #[.int .i64 x.a, .int .i64 x.b, .int .i64 x.slot, .int .i64 x.unt]] ++ caps) W fun e W' => e = .returned (.bool (p x)) ∧ Below W.heap.size W W') :
    Calls Try.prog 21 #[.slice (some ⟨g, 0, none⟩) L.length cap, .func (.func F) #[] caps] w fun e w' => e = .returned (.slice (some ⟨g, 0, none⟩) (L.filter (fun x => !p x)).length cap) ∧ FRow w' (some ⟨g, 0, none⟩) cap (L.filter (fun x => !p x)) ∧ Fine w w' (fun k => k = g) := by
  obtain ⟨R, hR⟩ : ∃ R, R = L.filter (fun x => !p x) := ⟨_, rfl⟩
  rw [← hR]
  have HR : Hid (R = L.filter (fun x => !p x)) := hR
  have HO : Hid (w.ownsRow lo 56 4 (.slice (some ⟨g, 0, none⟩) L.length cap) L.length (encF L)) := hown
  have HP : Hid (∀ (x : Fl) W, Fine w W (fun k => k = g) → Calls Try.prog F (#[.agg #[.int .i64 x.a, .int .i64 x.b, .int .i64 x.slot, .int .i64 x.unt]] ++ caps) W fun e W' => e = .returned (.bool (p x)) ∧ Below W.heap.size W W') := hp
  have HFn : Hid (∀ args W, (callFunc F args).run Try.prog W = .ok (.enter F args) W) := hF
  have HCap : Hid (L.length ≤ cap) := by
    rcases hown.2 with ⟨hv, -⟩ | ⟨g', cap', cur, hv, -, -, hc, -⟩
    · cases hv
    · injection hv with _ _ h3
      subst h3
      exact hc
  have HRow : Hid (FRow w (some ⟨g, 0, none⟩) cap L) := FRow.mk_cells HCap.out (by omega) (fun j hj => hown.cellAt j hj)
  have HBig : Hid (L.length ≤ 1000) := hbig
  have HIx : Hid (Calls Try.prog 58 #[.slice (some ⟨g, 0, none⟩) L.length cap, .func (.func F) #[] caps] w fun e w' => ∃ i : Int, e = .returned (.int .i64 i) ∧ ((i = -1 ∧ L.any p = false) ∨ ∃ k : Nat, i = (k : Int) ∧ k < L.length ∧ (L.take k).any p = false ∧ (∃ h : k < L.length, p L[k] = true)) ∧ Below w.heap.size w w') := indexFn_first F caps p (some ⟨g, 0, none⟩) cap L w hbig HRow.out hF (fun x W hb => hp x W (Fine.of_below _ hb))
  clear hown hp hF hR
  go_enter Try.func21, Try.ntmps21
  go_wp2_with fail
  refine HIx.out.mono ?_
  rintro e w1 ⟨i, rfl, hi, hb1⟩
  have HB1 : Hid (Below w.heap.size w w1) := hb1
  clear HIx hb1
  rcases hi with ⟨rfl, hno⟩ | ⟨i, rfl, hil, hfirst, hpi⟩
  · have HRL : Hid (R = L) := HR.out.trans (filt_none hno)
    clear hno
    go_wp2
    go_ret
    refine ⟨?_, by rw [HRL.out]; exact HRow.out.below HB1.out, Fine.of_below _ HB1.out⟩
    rw [show R = L from HRL.out]
    rfl
  have HO1 : Hid (w1.ownsRow lo 56 4 (.slice (some ⟨g, 0, none⟩) L.length cap) L.length (encF L)) := own_keep HO.out (HB1.out.block g (HO.out.lt g rfl).2)
  have HT1 : Hid (L.take i = (L.take (i + 1)).filter (fun x => !p x)) := by
    obtain ⟨h, hpi⟩ := hpi
    show _ = _
    rw [List.take_succ_eq_append_getElem h, List.filter_append, filt_none hfirst]
    simp [hpi]
  clear hfirst hpi
  go_wp2_with fail
  go_loopw [5, 6] (fun vi vj wr => ∃ i j : Nat, vi = .int .i64 i ∧ vj = .int .i64 j ∧ i < j ∧ j ≤ L.length ∧ ∃ C : List Fl, Hid (C.length = L.length) ∧ Hid (wr.ownsRow lo 56 4 (.slice (some ⟨g, 0, none⟩) C.length cap) C.length (encF C)) ∧ Hid (C.take i = (L.take j).filter (fun x => !p x)) ∧ Hid (C.drop j = L.drop j) ∧ Hid (Fine w wr (fun k => k = g))) (fun _ vj _ => L.length - (intOf vj).toNat)
  case atStart => exact ⟨i, i + 1, rfl, by go_num, by omega, by omega, L, rfl, HO1.out, HT1.out, rfl, Fine.of_below _ HB1.out⟩
  case round =>
    obtain ⟨i, j, rfl, rfl, hij, hjn, C, HCL, HOC, HTC, HDC, HFC⟩ := hrel
    clear HO1 HT1 HB1
    have hgl := (HOC.out.lt g rfl).2
    by_cases hlt : j < L.length
    · have hjC : j < C.length := by rw [HCL.out]; exact hlt
      have hiC : i < C.length := by rw [HCL.out]; omega
      have hCj : C[j] = L[j] := by
        have := congrArg (fun l => l[0]?) HDC.out
        simpa [List.getElem?_drop, hjC, hlt] using this
      obtain ⟨c0, c1, c2, c3, -, -, -, -⟩ := own4 HOC.out j hjC
      obtain ⟨d0, d1, d2, d3, z0, z1, z2, z3⟩ := own4 HOC.out i hiC
      rw [hCj] at c0 c1 c2 c3
      generalize hy : L[j] = y at c0 c1 c2 c3
      have HY : Hid (L[j] = y) := hy
      clear hy hCj
      obtain ⟨ov, hov⟩ : ∃ o : Obj, o = .cells #[.int .i64 y.a, .int .i64 y.b, .int .i64 y.slot, .int .i64 y.unt] 56 := ⟨_, rfl⟩
      have HF2 : Hid (Fine w (wr.alloc ov) (fun k => k = g)) := HFC.out.below (one_below _ _)
      have HV : Hid ((wr.alloc ov).heap[wr.heap.size]? = some ov) := heap_alloc_new _ _
      have HO2 : Hid ((wr.alloc ov).ownsRow lo 56 4 (.slice (some ⟨g, 0, none⟩) C.length cap) C.length (encF C)) := own_keep HOC.out (Below.heap_alloc _ _ _ hgl)
      go_wp2_with fail
      rw [HFn.out, ← hov]
      clear c0 c1 c2 c3 d0 d1 d2 d3 z0 z1 z2 z3 HOC HFC
      have hXg : wr.heap.size ≠ g := by omega
      generalize wr.alloc ov = W2 at *
      generalize hXv : wr.heap.size = X at *
      subst hov
      refine (HP.out y W2 HF2.out).mono ?_
      rintro e w3 ⟨rfl, hb3⟩
      have HF3 : Hid (Fine w w3 (fun k => k = g)) := HF2.out.below hb3
      have hv3 := (hb3.block X (lt_of_block HV.out)).trans HV.out
      have HO3 : Hid (w3.ownsRow lo 56 4 (.slice (some ⟨g, 0, none⟩) C.length cap) C.length (encF C)) := own_keep HO2.out (hb3.block g (HO2.out.lt g rfl).2)
      have v0 : w3.cell? ⟨X, 0, none⟩ = some (.int .i64 y.a) := by rw [cell_of_block hv3]; rfl
      have v1 : w3.cell? ⟨X, 1, none⟩ = some (.int .i64 y.b) := by rw [cell_of_block hv3]; rfl
      have v2 : w3.cell? ⟨X, 2, none⟩ = some (.int .i64 y.slot) := by rw [cell_of_block hv3]; rfl
      have v3 : w3.cell? ⟨X, 3, none⟩ = some (.int .i64 y.unt) := by rw [cell_of_block hv3]; rfl
      clear hb3 hv3 HV HF2 HO2
      obtain ⟨d0, d1, d2, d3, z0, z1, z2, z3⟩ := own4 HO3.out i hiC
      cases hh : p y
      · have HT3 : Hid ((C.set i y).take (i + 1) = (L.take (j + 1)).filter (fun x => !p x)) := by
          show _ = _
          rw [List.take_succ_eq_append_getElem hlt, List.filter_append, ← HTC.out, List.take_succ_eq_append_getElem (by rw [List.length_set]; exact hiC)]
          rw [List.take_set_of_le (by omega)]
          simp [HY.out, hh]
        have HD3 : Hid ((C.set i y).drop (j + 1) = L.drop (j + 1)) := by
          show _ = _
          rw [List.drop_set_of_lt (by omega)]
          have := congrArg (List.drop 1) HDC.out
          simpa [List.drop_drop, Nat.add_comm] using this
        have HO4 : Hid _ := own_set4 HO3.out i hiC y
        have HF4 : Hid _ := (((HF3.out.set (k := g) (.inl rfl) (i * 4) (.int .i64 y.a)).set (k := g) (.inl rfl) (i * 4 + 1) (.int .i64 y.b)).set (k := g) (.inl rfl) (i * 4 + 2) (.int .i64 y.slot)).set (k := g) (.inl rfl) (i * 4 + 3) (.int .i64 y.unt)
        clear hh
        go_wp2
        go_roundw
        case rel => exact ⟨_, _, _, _, _, _, _, _, _, _, _, _, _, _, _, _, _, _, _, _, _, _, _, ⟨i + 1, j + 1, by go_num, by go_num, by omega, by omega, C.set i y, by show _ = _; rw [List.length_set]; exact HCL.out, HO4.out, HT3.out, HD3.out, HF4.out⟩, rfl⟩
        case measure => simp [intOf]; omega
      · have HT3 : Hid (C.take i = (L.take (j + 1)).filter (fun x => !p x)) := by
          show _ = _
          rw [List.take_succ_eq_append_getElem hlt, List.filter_append, ← HTC.out]
          simp [HY.out, hh]
        have HD3 : Hid (C.drop (j + 1) = L.drop (j + 1)) := by
          show _ = _
          have := congrArg (List.drop 1) HDC.out
          simpa [List.drop_drop, Nat.add_comm] using this
        clear hh
        go_wp2
        go_roundw
        case rel => exact ⟨_, _, _, _, _, _, _, _, _, _, _, _, _, _, _, _, _, _, _, _, _, _, _, ⟨i, j + 1, rfl, by go_num, by omega, by omega, C, HCL.out, HO3.out, HT3.out, HD3.out, HF3.out⟩, rfl⟩
        case measure => simp [intOf]; omega
    · obtain rfl : j = L.length := by omega
      have hRi : R = C.take i := by rw [HR.out, HTC.out, List.take_length]
      have hRl : R.length = i := by rw [hRi, List.length_take, HCL.out]; omega
      obtain ⟨vs, hvl, hcl⟩ := run_clear_flows wr g (i * 4) (L.length - i) (cap - i) (by omega) (fun t ht => by
        rw [HOC.out.cellAt _ (by rw [HCL.out]; omega), List.getElem?_eq_getElem (by rw [encF_len, HCL.out]; omega)]; rfl) (fun t ht => HOC.out.frozenAt _)
      have HEnd : Hid (FRow (wr.setCells g (i * 4) vs) (some ⟨g, 0, none⟩) cap R ∧ Fine w (wr.setCells g (i * 4) vs) (fun k => k = g)) := by
        refine ⟨FRow.mk_cells (by have := HCap.out; omega) (by omega) (fun t ht => ?_), fine_setCells _ _ _ _ HFC.out⟩
        rw [World.cell?_setCells_out g vs (i * 4) wr ⟨g, t, none⟩ (fun _ _ => .inl (by dsimp only; omega)), HOC.out.cellAt _ (by rw [HCL.out]; omega), hRi, encF_take, List.getElem?_take_of_lt (by omega)]
      have hic : i ≤ cap := by have := HCap.out; omega
      have hiL : i ≤ L.length := by omega
      have hci : ¬ cap = i := by have := HCap.out; omega
      have HRl : Hid (R.length = i) := hRl
      clear hRi hRl hvl HOC HTC HDC HFC HCL HRow
      go_wp2
      go_ret
      exact ⟨by rw [HRl.out]; rfl, HEnd.out.1, HEnd.out.2⟩
end Go.Proofs.Ytdbilofhcadmoac.mm

/- chain.Flows answers a row of its own. -/
namespace Go.Proofs.Ytdbilofhcadmoac.mm
open Go.ChangeShapes Go.WideShapes Go.ChangeAt Go.RowKit Go.Joins Go.Deep Go.Sort
set_option maxRecDepth 100000
set_option linter.unusedVariables false

set_option maxHeartbeats 3200000 in
theorem flows_own (M : Mm) (aS aH aF aL : Option Addr) (cS cH cF cL : Nat) (w : World) (A : At w aS aH aF aL cS cH cF cL M) :
    Calls Try.prog 13 #[.agg #[.slice aS M.slots.length cS, .slice aH M.heads.length cH, .slice aF M.free.length cF, .slice aL M.locks.length cL, .int .i64 M.now]] w fun e w' =>
      ∃ ao cap, e = .returned (.tuple #[.slice ao (flowsM M).length cap, .int .i64 (chkC M)]) ∧ w'.ownsRow w.heap.size 56 4 (.slice ao (flowsM M).length cap) (flowsM M).length (encF (flowsM M)) ∧ Below w.heap.size w w' := by
  obtain ⟨E0, hE0⟩ : ∃ E0, E0 = chkC M := ⟨_, rfl⟩
  obtain ⟨L0, hL0⟩ : ∃ L0, L0 = flowsM M := ⟨_, rfl⟩
  rw [← hE0, ← hL0]
  have HE0 : Hid (E0 = chkC M) := hE0
  have HL0 : Hid (L0 = flowsM M) := hL0
  clear hE0 hL0
  obtain ⟨o1, ho1⟩ : ∃ o : Obj, o = .cells #[.slice aS M.slots.length cS, .slice aH M.heads.length cH, .slice aF M.free.length cF, .slice aL M.locks.length cL, .int .i64 M.now] 25 := ⟨_, rfl⟩
  have b0 : Below w.heap.size w (w.alloc o1) := one_below w o1
  have HB0 : Hid ((w.alloc o1).heap[w.heap.size]? = some o1) := heap_alloc_new _ _
  have HA : Hid (At w aS aH aF aL cS cH cF cL M) := A
  have HA0 : Hid _ := A.below b0
  clear A
  have hmf : ∀ (fn : Fn) (first cap : Array Value) (w : World), (Instr.makeFunc fn first cap).run Try.prog w = .ok (.func fn first cap) w := fun _ _ _ _ => rfl
  go_enter Try.func13, Try.ntmps13
  go_wp2_with fail
  rw [← ho1]
  generalize w.alloc o1 = W0 at *
  subst ho1
  refine (chainCheck_any M aS aH aF aL cS cH cF cL W0 HA0.out).mono ?_
  rintro e w1 ⟨rfl, hb1⟩
  have b1 := b0.trans (hb1.mono b0.size)
  have HB1 : Hid (w1.heap[w.heap.size]? = _) := (hb1.block w.heap.size (lt_of_block HB0.out)).trans HB0.out
  clear hb1 b0 HB0 HA0
  by_cases hE : chkC M = 0
  rotate_left
  · have h' : (chkC M != 0) = true := by simpa using hE
    have HV : Hid (E0 = chkC M ∧ L0 = []) := ⟨HE0.out, HL0.out.trans (by unfold flowsM; rw [if_neg hE])⟩
    clear HB1
    generalize chkC M = E at *
    go_wp2
    go_ret2
    exact ⟨none, 0, by rw [HV.out.1, HV.out.2]; rfl, by rw [HV.out.2]; exact World.ownsRow_nil _ _ _ _, b1⟩
  have hokc := (chkC_zero M).1 hE
  have hok := hokc.ok
  have n0 := hok.ns
  have n1 := hok.nh
  have HV : Hid (E0 = 0 ∧ L0 = (allC M).map (flowAt M)) := ⟨HE0.out.trans hE, HL0.out.trans (by unfold flowsM; rw [if_pos hE])⟩
  rw [hE]
  clear hE HE0 HL0
  obtain ⟨q0, q1, q2, q3, q4, f0, f1, f2, f3, f4, qs⟩ := boxf HB1.out
  clear f0 f1 f2 f3 f4
  obtain ⟨B, hB⟩ : ∃ B, B = w1.heap.size := ⟨_, rfl⟩
  have HBe : Hid (B = w1.heap.size) := hB
  have HV1 : Hid ((w1.alloc (.cells #[.slice none 0 0] 42)).heap[B]? = some (.cells #[.slice none 0 0] 42)) := by rw [hB]; exact heap_alloc_new _ _
  have HX1 : Hid ((w1.alloc (.cells #[.slice none 0 0] 42)).heap[w.heap.size]? = some (.cells #[.slice aS M.slots.length cS, .slice aH M.heads.length cH, .slice aF M.free.length cF, .slice aL M.locks.length cL, .int .i64 M.now] 25 (0, 0))) := (Below.heap_alloc _ _ _ qs).trans HB1.out
  have b2 := b1.alloc b1.size (.cells #[.slice none 0 0] 42)
  have bX : w.heap.size < B := by rw [hB]; exact qs
  go_wp2
  rw [← hB]
  clear hB q0 q1 q2 q3 q4 HB1
  go_loopw [15] (fun i wr => ∃ b : Nat, b ≤ M.heads.length ∧ i = .int .i64 b ∧ (∃ v, Hid (wr.heap[B]? = some (.cells #[v] 42 (0, 0))) ∧ Hid (wr.ownsRow (B + 1) 56 4 v ((allTo M b).map (flowAt M)).length (encF ((allTo M b).map (flowAt M))))) ∧ Below w.heap.size w wr ∧ Hid (wr.heap[w.heap.size]? = some (.cells #[.slice aS M.slots.length cS, .slice aH M.heads.length cH, .slice aF M.free.length cF, .slice aL M.locks.length cL, .int .i64 M.now] 25 (0, 0))))
    (fun i _ => M.heads.length - (intOf i).toNat)
  case atStart => exact ⟨0, Nat.zero_le _, rfl, ⟨_, HV1, World.ownsRow_nil _ _ _ _⟩, b2, HX1⟩
  case round =>
    obtain ⟨b, hb, rfl, ⟨v, HVr, HOr⟩, hbw, HX⟩ := hrel
    clear HV1 HX1 b2 b1
    obtain ⟨q0, q1, q2, q3, q4, f0, f1, f2, f3, f4, qs'⟩ := boxf HX.out
    clear f0 f1 f2 f3 f4
    have lB := lt_of_block HVr.out
    by_cases hlt : b < M.heads.length
    · have hal := allTo_len M b
      have hal2 : b * M.slots.length ≤ 4 * 12 := Nat.mul_le_mul (by omega) n0
      go_wp2_with fail
      have hst : Lst wr B wr.heap.size 42 56 4 #[.slice aS M.slots.length cS, .slice aH M.heads.length cH, .slice aF M.free.length cF, .slice aL M.locks.length cL, .int .i64 M.now] (wr.alloc (.cells #[.slice aS M.slots.length cS, .slice aH M.heads.length cH, .slice aF M.free.length cF, .slice aL M.locks.length cL, .int .i64 M.now] 25)) ((allTo M b ++ []).map (flowAt M)).length (encF ((allTo M b ++ []).map (flowAt M))) := by
        rw [List.append_nil]
        refine ⟨⟨v, (Below.heap_alloc _ _ _ lB).trans HVr.out, World.ownsRow.alloc HOr.out _⟩, heap_alloc_new _ _, (Below.refl _ _).alloc (by omega) _, by omega⟩
      refine (walk_any 52 #[.pointer (some ⟨w.heap.size, 0, none⟩), .pointer (some ⟨B, 0, none⟩)] M aS aH aF aL cS cH cF cL b wr hok hlt fn72 (fun l W => Lst wr B wr.heap.size 42 56 4 #[.slice aS M.slots.length cS, .slice aH M.heads.length cH, .slice aF M.free.length cF, .slice aL M.locks.length cL, .int .i64 M.now] W ((allTo M b ++ l).map (flowAt M)).length (encF ((allTo M b ++ l).map (flowAt M)))) hst (fun l W h => h.box) (fun l W h => HA.out.below (hbw.trans (h.below.mono (by omega)))) ?_).mono ?_
      · intro l a W hL ha hl
        have := app72 M aS aH aF aL cS cH cF cL _ _ w.heap.size _ _ _ _ a hL (by rw [List.length_append]; omega) ((hL.below.block w.heap.size bX).trans HX.out) (HA.out.below (hbw.trans (hL.below.mono (by omega)))) ha n0
        rw [List.append_assoc] at this
        exact this
      rintro e w2 ⟨rfl, hL2⟩
      rw [← allTo_succ] at hL2
      obtain ⟨⟨v2, hv2, ho2⟩, -, hb2, -⟩ := hL2
      have HV2 : Hid (w2.heap[B]? = some (.cells #[v2] 42 (0, 0))) := hv2
      have HO2 : Hid (w2.ownsRow (B + 1) 56 4 v2 ((allTo M (b + 1)).map (flowAt M)).length (encF ((allTo M (b + 1)).map (flowAt M)))) := ho2
      have hbx : Below w.heap.size w w2 := hbw.trans (hb2.mono (by omega))
      have HX2 : Hid (w2.heap[w.heap.size]? = some (.cells #[.slice aS M.slots.length cS, .slice aH M.heads.length cH, .slice aF M.free.length cF, .slice aL M.locks.length cL, .int .i64 M.now] 25 (0, 0))) := (hb2.block w.heap.size bX).trans HX.out
      clear hv2 ho2 hb2 hst HVr HOr HX hbw q0 q1 q2 q3 q4
      go_wp2
      go_roundw
      case rel => exact ⟨b + 1, by omega, by go_num, ⟨v2, HV2, HO2⟩, hbx, HX2⟩
      case measure => simp [intOf]; omega
    · obtain rfl : b = M.heads.length := by omega
      have hlen := allTo_len M M.heads.length
      have hal2 : M.heads.length * M.slots.length ≤ 4 * 12 := Nat.mul_le_mul (by omega) n0
      obtain ⟨ao, cap, rfl, hrow⟩ := FRow.of_own HOr.out (by rw [List.length_map]; omega)
      have HR : Hid (wr.ownsRow w.heap.size 56 4 (.slice ao ((allC M).map (flowAt M)).length cap) ((allC M).map (flowAt M)).length (encF ((allC M).map (flowAt M)))) := ownsRow_le HOr.out (by omega)
      clear hrow
      obtain ⟨c0, -, lB'⟩ := var_cell HVr.out
      have hlm : ((allC M).map (flowAt M)).length = ((allTo M M.heads.length).map (flowAt M)).length := rfl
      clear HVr HOr
      go_wp2
      go_ret2
      refine ⟨ao, cap, ?_, ?_, hbw⟩
      · rw [HV.out.1, HV.out.2, hlm]
        simp
      · rw [HV.out.2]; exact HR.out





end Go.Proofs.Ytdbilofhcadmoac.mm

/- The contracts of slices.ContainsFunc over slots and of slices.IndexFunc over flows, with the literals that LookAlone hands them. -/
namespace Go.Proofs.Ytdbilofhcadmoac.mm
open Go.ChangeShapes Go.WideShapes Go.ChangeAt Go.RowKit Go.Joins Go.Deep
set_option maxRecDepth 100000
set_option linter.unusedVariables false

end Go.Proofs.Ytdbilofhcadmoac.mm

/- Whether a list of numbers has one that is not -1. -/
namespace Go.Proofs.Ytdbilofhcadmoac.mm
open Go.ChangeShapes Go.WideShapes Go.ChangeAt Go.RowKit Go.Joins
set_option maxRecDepth 100000
set_option linter.unusedVariables false

theorem litI (F : Nat) (x : Int) (w : World) (h : ∀ W : World, Calls Try.prog F #[.int .i64 x] W fun e w' => e = .returned (.bool (x != -1)) ∧ W = w') : Calls Try.prog F #[.int .i64 x] w fun e w' => e = .returned (.bool (x != -1)) ∧ w = w' := h w

theorem idxI (F : Nat) (hF : ∀ args W, (callFunc F args).run Try.prog W = .ok (.enter F args) W) (hp : ∀ (x : Int) (W : World), Calls Try.prog F #[.int .i64 x] W fun e w' => e = .returned (.bool (x != -1)) ∧ W = w') (aS : Option Addr) (cS : Nat) (l : List Int) (w : World) (r : IRow w aS cS l) :
    Calls Try.prog 56 #[.slice aS l.length cS, .func (.func F) #[] #[]] w fun e w' => ∃ i : Int, e = .returned (.int .i64 i) ∧ ((i = -1 ∧ ∀ s ∈ l, s = -1) ∨ (0 ≤ i ∧ ∃ s ∈ l, s ≠ -1)) ∧ Below w.heap.size w w' := by
  have m1 := r.max
  have n1 : l.length ≤ 9223372036854775807 := by omega
  have HR : Hid (∀ W : World, Below w.heap.size w W → IRow W aS cS l) := fun W hb => r.below hb
  have HP : Hid (∀ (x : Int) (W : World), Calls Try.prog F #[.int .i64 x] W fun e w' => e = .returned (.bool (x != -1)) ∧ W = w') := hp
  clear r hp
  go_enter Try.func56, Try.ntmps56
  go_wp2_with fail
  go_loopw [8] (fun i wr => ∃ k : Nat, k ≤ l.length ∧ i = .int .i64 k ∧ Hid (Below w.heap.size w wr) ∧ Hid (∀ j (h : j < l.length), j < k → l[j] = -1)) (fun i _ => l.length - (intOf i).toNat)
  case atStart => exact ⟨0, Nat.zero_le _, rfl, Below.refl _ _, fun j _ h => absurd h (Nat.not_lt_zero _)⟩
  case round =>
    obtain ⟨k, hk, rfl, HB, HN⟩ := hrel
    by_cases hlt : k < l.length
    · have HM : Hid (l[k] ∈ l) := List.getElem_mem hlt
      rcases (HR.out _ HB.out).at_ with h0 | ⟨b1, o1, rfl, hc1⟩
      · omega
      have x0 := hc1 k hlt
      clear hc1
      have HK : Hid (∀ x, l[k] = x → x = -1 → ∀ j (h : j < l.length), j < k + 1 → l[j] = -1) := fun x e hx j h hj => by
        by_cases ej : j = k
        · subst ej; rw [e]; exact hx
        · exact HN.out j h (by omega)
      generalize hx : l[k] = x at x0 HM
      have HX : Hid (∀ j (h : j < l.length), j < k + 1 → x = -1 → l[j] = -1) := fun j h hj hn => HK.out x hx hn j h hj
      clear hx HK
      go_wp2_with fail
      refine (HP.out x wr).mono ?_
      rintro e w1 ⟨rfl, rfl⟩
      clear x0
      by_cases hr : x = -1
      · have hq : (x != -1) = false := by simp [hr]
        have HR2 : Hid (x = -1) := hr
        clear hr
        go_wp2
        go_roundw
        case rel => exact ⟨k + 1, by omega, by go_num, HB, fun j h hj => HX.out j h hj HR2.out⟩
        case measure => simp [intOf]; omega
      · have hq : (x != -1) = true := by simpa using hr
        have HR2 : Hid (x ≠ -1) := hr
        clear hr
        go_wp2
        go_ret
        exact ⟨k, rfl, .inr ⟨by omega, x, HM.out, HR2.out⟩, HB.out⟩
    · obtain rfl : k = l.length := by omega
      go_wp2
      go_ret
      refine ⟨-1, rfl, .inl ⟨rfl, fun s hs => ?_⟩, HB.out⟩
      obtain ⟨j, hj, rfl⟩ := List.getElem_of_mem hs
      exact HN.out j hj hj

theorem hasI (F : Nat) (hF : ∀ args W, (callFunc F args).run Try.prog W = .ok (.enter F args) W) (hp : ∀ (x : Int) (W : World), Calls Try.prog F #[.int .i64 x] W fun e w' => e = .returned (.bool (x != -1)) ∧ W = w') (aS : Option Addr) (cS : Nat) (l : List Int) (w : World) (r : IRow w aS cS l) :
    Calls Try.prog 15 #[.slice aS l.length cS, .func (.func F) #[] #[]] w fun e w' => ∃ b : Bool, e = .returned (.bool b) ∧ (b = false → ∀ s ∈ l, s = -1) ∧ Below w.heap.size w w' := by
  have HI : Hid (Calls Try.prog 56 #[.slice aS l.length cS, .func (.func F) #[] #[]] w fun e w' => ∃ i : Int, e = .returned (.int .i64 i) ∧ ((i = -1 ∧ ∀ s ∈ l, s = -1) ∨ (0 ≤ i ∧ ∃ s ∈ l, s ≠ -1)) ∧ Below w.heap.size w w') := idxI F hF hp aS cS l w r
  clear r hp hF
  go_enter Try.func15, Try.ntmps15
  go_wp2_with fail
  refine HI.out.mono ?_
  rintro e w1 ⟨i, rfl, h, hb⟩
  rcases h with ⟨rfl, h⟩ | ⟨h, -⟩
  · have HH : Hid _ := h
    have HB : Hid _ := hb
    clear h hb
    go_wp2
    go_ret
    exact ⟨false, rfl, fun _ => HH.out, HB.out⟩
  · have HB : Hid _ := hb
    have hd : decide (0 ≤ i) = true := by simpa using h
    clear hb
    go_wp2
    go_ret
    exact ⟨true, by simp, (fun h => by cases h), HB.out⟩


end Go.Proofs.Ytdbilofhcadmoac.mm

/- What the walks of the statements on calls that go on alone share. -/
namespace Go.Proofs.Ytdbilofhcadmoac.mm
open Go.ChangeShapes Go.WideShapes Go.ChangeAt Go.RowKit Go.Joins
set_option maxRecDepth 100000
set_option linter.unusedVariables false

theorem equalI_at2 (a1 a2 : Option Addr) (c1 c2 n1 n2 : Nat) (l1 l2 : List Int) (h1 : n1 = l1.length) (h2 : n2 = l2.length) (w : World) (r1 : IRow w a1 c1 l1) (r2 : IRow w a2 c2 l2) :
    Calls Try.prog 49 #[.slice a1 n1 c1, .slice a2 n2 c2] w fun e w' => e = .returned (.bool (eqI l1 l2)) ∧ Below w.heap.size w w' := by
  subst h1 h2
  exact equalI_any a1 a2 c1 c2 l1 l2 w r1 r2

structure AdE (w W : World) (B X Y lo : Nat) (aS aH aF aL : Option Addr) (cS cH cF cL : Nat) (M : Mm) (o1 o2 : Obj) : Prop where
  bl : Below w.heap.size w W
  m : Mine W B lo aS aH aF aL cS cH cF cL M
  x : W.heap[X]? = some o1
  y : W.heap[Y]? = some o2
theorem AdE.below {w W W2 : World} {B X Y lo : Nat} {aS aH aF aL : Option Addr} {cS cH cF cL : Nat} {M : Mm} {o1 o2 : Obj} (h : AdE w W B X Y lo aS aH aF aL cS cH cF cL M o1 o2) (hb : Below W.heap.size W W2) : AdE w W2 B X Y lo aS aH aF aL cS cH cF cL M o1 o2 :=
  ⟨h.bl.trans (hb.mono h.bl.size), h.m.below hb, (hb.block _ (lt_of_block h.x)).trans h.x, (hb.block _ (lt_of_block h.y)).trans h.y⟩

theorem eqM_own (N : Mm) : eqM N N = true := by
  unfold eqM
  rw [(eqS_iff _ _).2 rfl, (eqI_iff _ _).2 rfl, (eqI_iff _ _).2 rfl, (eqI_iff _ _).2 rfl]
  simp

theorem flows_few {M : Mm} (hM : Ok M) : (flowsOf M).length ≤ 1000 := by
  have hal := allTo_len M M.heads.length
  have hal2 : M.heads.length * M.slots.length ≤ 4 * 12 := Nat.mul_le_mul hM.nh.2 hM.ns
  unfold flowsOf
  rw [List.length_map]
  exact Nat.le_trans (Nat.le_trans hal hal2) (by omega)
theorem any_key {M : Mm} (ka kb : Int) : (flowsOf M).any (fun x => x.a == ka && x.b == kb) = hasK M (allC M) (ka, kb) := by
  unfold flowsOf hasK
  rw [Bool.eq_iff_iff, List.any_eq_true, List.contains_iff_mem, List.mem_map]
  constructor
  · rintro ⟨x, hx, h⟩
    obtain ⟨a, ha, rfl⟩ := List.mem_map.1 hx
    simp only [flowAt, Bool.and_eq_true, beq_iff_eq] at h
    exact ⟨a, ha, by unfold keyAt; rw [h.1, h.2]⟩
  · rintro ⟨a, ha, h⟩
    refine ⟨flowAt M a, List.mem_map_of_mem ha, ?_⟩
    unfold keyAt at h
    injection h with h1 h2
    simp [flowAt, h1, h2]
theorem flowsM_of {M : Mm} (h : OkC M) : flowsM M = flowsOf M := by unfold flowsM flowsOf; rw [if_pos ((chkC_zero M).2 h)]


end Go.Proofs.Ytdbilofhcadmoac.mm

/- What SweepAlone's walk calls: its own literals, and both calls alone. -/
namespace Go.Proofs.Ytdbilofhcadmoac.mm
open Go.ChangeShapes Go.WideShapes Go.ChangeAt Go.RowKit Go.Joins Go.Deep Go.Sort
set_option maxRecDepth 100000
set_option linter.unusedVariables false

theorem litS1 (x : Int) (w : World) : Calls Try.prog 16 #[.int .i64 x] w fun e w' => e = .returned (.bool (x != -1)) ∧ w = w' := by
  go_enter Try.func16, Try.ntmps16
  go_wp2
  go_ret
  exact ⟨rfl, rfl⟩
theorem fit_sw {M : Mm} (hM : Ok M) {k : Int} (hk : k = 4 ∨ k = 5) {b : Nat} (hb : b < M.heads.length) : Fit M (newF ⟨k, 0, 0, 0, b, 0⟩) := by
  refine ⟨?_, by simp [newF], (show inB 0 0 1000000 = true by decide), rfl, ?_, ?_, ?_, by simp [newF]⟩
  · show callE _ _ ⟨k, 0, 0, 0, b, 0⟩ = 0
    rw [callE_bk hk, if_pos ((inB_iff _ _ _).2 (by omega))]
  · show _ ∧ _
    simp only [newF]
    omega
  · simp only [newF]
    omega
  · simp only [newF]
    omega
theorem aloneS {B lo : Nat} {Z : Nat → Prop} {M X : Mm} {c : Cl} {g : Fr} {most : Int} (w : World) (n : Nat) (hn : n ≤ 1000) (hm : most = (n : Int)) (hG : SwG 0 M (newF c)) (h1 : run swF (swM 0) n M (newF c) = (X, g, true)) (hM : Has w B lo Z M) (hZ : ∀ k, Z k → k < w.heap.size) :
    Calls Try.prog 17 #[.agg #[.int .i64 c.kind, .int .i64 c.a, .int .i64 c.b, .int .i64 c.time, .int .i64 c.bk, .int .i64 c.slot], .int .i64 most, .func (.func 18) #[] #[.pointer (some ⟨B, 0, none⟩)]] w fun e w' =>
      (∃ a c', e = .returned (.tuple #[.agg #[.int .i64 g.c.kind, .int .i64 g.c.a, .int .i64 g.c.b, .int .i64 g.c.time, .int .i64 g.c.bk, .int .i64 g.c.slot, .int .i64 g.pl, .int .i64 g.cur, .int .i64 g.prev, .int .i64 g.slot, .int .i64 g.n, .slice a g.keys.length c', .bool g.done, .int .i64 g.e], .bool true]) ∧ KOwn w' 0 a c' g.keys) ∧ Has w' B lo (Up w Z) X ∧ Fine w w' Z := by
  subst hm
  have h := aloneO_any 18 #[.pointer (some ⟨B, 0, none⟩)] swF (swM 0) (SwG 0) B lo Z M c n w (fun args W => by kernel_rfl) (fun M f W Z ka kc h h' ho => closS0 M f B lo Z W ka kc h h' ho) (fun M f h hd => swG_next h hd) hM hZ hG hn
  rw [h1] at h
  exact h
theorem aloneL {B lo : Nat} {Z : Nat → Prop} {M X : Mm} {c : Cl} {g : Fr} {most : Int} (w : World) (n : Nat) (hn : n ≤ 1000) (hm : most = (n : Int)) (hG : SwG 0 M (newF c)) (h1 : run swF (swM 0) n M (newF c) = (X, g, true)) (hM : Has w B lo Z M) (hZ : ∀ k, Z k → k < w.heap.size) :
    Calls Try.prog 17 #[.agg #[.int .i64 c.kind, .int .i64 c.a, .int .i64 c.b, .int .i64 c.time, .int .i64 c.bk, .int .i64 c.slot], .int .i64 most, .func (.func 19) #[] #[.pointer (some ⟨B, 0, none⟩)]] w fun e w' =>
      (∃ a c', e = .returned (.tuple #[.agg #[.int .i64 g.c.kind, .int .i64 g.c.a, .int .i64 g.c.b, .int .i64 g.c.time, .int .i64 g.c.bk, .int .i64 g.c.slot, .int .i64 g.pl, .int .i64 g.cur, .int .i64 g.prev, .int .i64 g.slot, .int .i64 g.n, .slice a g.keys.length c', .bool g.done, .int .i64 g.e], .bool true]) ∧ KOwn w' 0 a c' g.keys) ∧ Has w' B lo (Up w Z) X ∧ Fine w w' Z := by
  subst hm
  have h := aloneO_any 19 #[.pointer (some ⟨B, 0, none⟩)] swF (swM 0) (SwG 0) B lo Z M c n w (fun args W => by kernel_rfl) (fun M f W Z ka kc h h' ho => closL0 M f B lo Z W ka kc h h' ho) (fun M f h hd => swG_next h hd) hM hZ hG hn
  rw [h1] at h
  exact h
theorem litS4 (x : Fl) (P Q : Nat) (v0 v1 v2 v3 : Value) (now : Int) (ao : Option Addr) (cap : Nat) (l : List Int) (W : World) (hP : W.heap[P]? = some (.cells #[v0, v1, v2, v3, .int .i64 now] 25 (0, 0))) (hQ : W.heap[Q]? = some (.cells #[.slice ao l.length cap] 23 (0, 0))) (r : IRow W ao cap l) :
    Calls Try.prog 22 (#[.agg #[.int .i64 x.a, .int .i64 x.b, .int .i64 x.slot, .int .i64 x.unt]] ++ #[.pointer (some ⟨P, 0, none⟩), .pointer (some ⟨Q, 0, none⟩)]) W fun e W' => e = .returned (.bool (decide (x.unt ≤ now) && l.contains x.slot)) ∧ Below W.heap.size W W' := by
  obtain ⟨q0, q1, q2, q3, q4, -, -, -, -, -, qs⟩ := boxf hP
  obtain ⟨c0, -, cs⟩ := var_cell hQ
  have hb := one_below W (.cells #[.int .i64 x.a, .int .i64 x.b, .int .i64 x.slot, .int .i64 x.unt] 56)
  have HR : Hid (IRow (W.alloc (.cells #[.int .i64 x.a, .int .i64 x.b, .int .i64 x.slot, .int .i64 x.unt] 56)) ao cap l) := r.below hb
  have HB : Hid (Below W.heap.size W (W.alloc (.cells #[.int .i64 x.a, .int .i64 x.b, .int .i64 x.slot, .int .i64 x.unt] 56))) := hb
  clear hP hQ r hb
  show Calls Try.prog 22 #[.agg #[.int .i64 x.a, .int .i64 x.b, .int .i64 x.slot, .int .i64 x.unt], .pointer (some ⟨P, 0, none⟩), .pointer (some ⟨Q, 0, none⟩)] W _
  by_cases hu : x.unt ≤ now
  · rw [show (decide (x.unt ≤ now) && l.contains x.slot) = hasB l x.slot by rw [decide_eq_true hu]; rfl]
    go_enter Try.func22, Try.ntmps22
    go_wp2_with (go_at_call 23; refine (contains_all ao cap l x.slot _ HR.out).mono ?_; rintro e w1 ⟨rfl, rfl⟩)
    go_ret
    exact ⟨rfl, HB.out⟩
  · rw [show (decide (x.unt ≤ now) && l.contains x.slot) = false by rw [decide_eq_false hu]; rfl]
    go_enter Try.func22, Try.ntmps22
    go_wp2
    go_ret
    exact ⟨rfl, HB.out⟩
/- Where chain.Slots tells no error the chain is one there is, and its slots are told. -/
theorem slots_in {M : Mm} {b : Int} (h : slotsCE M b = 0) : ∃ n : Nat, b = n ∧ n < M.heads.length ∧ slotsCL M b = chL M n := by
  have h' := h
  unfold slotsCE at h
  split at h
  · contradiction
  split at h
  · cases h
  · rename_i h1 h2
    have h3 : inB b 0 ((M.heads.length : Int) - 1) = true := by simpa using h2
    rw [inB_iff] at h3
    refine ⟨b.toNat, by omega, by omega, ?_⟩
    unfold slotsCL
    rw [if_pos h']
theorem frow_own {w : World} {base cap : Nat} {ao : Option Addr} {S : List Fl} (h : w.ownsRow base 56 4 (.slice ao S.length cap) S.length (encF S)) (hm : S.length ≤ 1000) : FRow w ao cap S := by
  obtain ⟨ao', cap', e, r⟩ := FRow.of_own h (by omega)
  injection e with e1 _ e3
  subst e1 e3
  exact r
theorem deleteFn_nil (F : Nat) (caps : Array Value) (p : Fl → Bool) (w : World) (hF : ∀ args W, (callFunc F args).run Try.prog W = .ok (.enter F args) W) (hp : ∀ (x : Fl) W, Below w.heap.size w W → Calls Try.prog F (#[.agg #[.int .i64 x.a, .int .i64 x.b, .int .i64 x.slot, .int .i64 x.unt]] ++ caps) W fun e W' => e = .returned (.bool (p x)) ∧ Below W.heap.size W W') :
    Calls Try.prog 21 #[.slice none 0 0, .func (.func F) #[] caps] w fun e w' => e = .returned (.slice none 0 0) ∧ Below w.heap.size w w' := by
  have HIx : Hid (Calls Try.prog 58 #[.slice none 0 0, .func (.func F) #[] caps] w fun e w' => e = .returned (.int .i64 (-1)) ∧ Below w.heap.size w w') := by
    refine (indexFn_first F caps p none 0 [] w (by simp) (frow_nil w) hF hp).mono ?_
    rintro e w' ⟨i, rfl, h | ⟨k, -, h, -⟩, hb⟩
    · exact ⟨by rw [h.1], hb⟩
    · simp at h
  clear hF hp
  go_enter Try.func21, Try.ntmps21
  go_wp2_with fail
  refine HIx.out.mono ?_
  rintro e w1 ⟨rfl, hb1⟩
  go_wp2
  go_ret
  exact ⟨rfl, hb1⟩
theorem own_nilF {w : World} {lo n cap : Nat} {xs : List Value} (h : w.ownsRow lo 56 4 (.slice none n cap) n xs) : n = 0 ∧ cap = 0 := by
  rcases h.2 with ⟨hv, h0⟩ | ⟨g, cap', cur, hv, -⟩
  · injection hv with _ h2 h3
    exact ⟨h0, h3⟩
  · cases hv
end Go.Proofs.Ytdbilofhcadmoac.mm

/- chain.Slots answers a row that is new. -/
namespace Go.Proofs.Ytdbilofhcadmoac.mm
open Go.ChangeShapes Go.WideShapes Go.ChangeAt Go.RowKit Go.Joins Go.Maps
set_option maxRecDepth 100000
set_option linter.unusedVariables false

set_option maxHeartbeats 1600000 in
theorem slotsOf_hi (M : Mm) (aS aH aF aL : Option Addr) (cS cH cF cL b : Nat) (w : World) (A : At w aS aH aF aL cS cH cF cL M) (hok : Ok M) (hb : b < M.heads.length) :
    Calls Try.prog 55 #[.agg #[.slice aS M.slots.length cS, .slice aH M.heads.length cH, .slice aF M.free.length cF, .slice aL M.locks.length cL, .int .i64 M.now], .int .i64 b] w fun e w' =>
      ∃ ao cap, e = .returned (.tuple #[.slice ao (slotsL M b).length cap, .int .i64 (slotsE M b)]) ∧ IRow w' ao cap (slotsL M b) ∧ (∀ ad, ao = some ad → w.heap.size ≤ ad.block) ∧ Below w.heap.size w w' := by
  obtain ⟨E0, hE0⟩ : ∃ E0, E0 = slotsE M b := ⟨_, rfl⟩
  obtain ⟨L0, hL0⟩ : ∃ L0, L0 = slotsL M b := ⟨_, rfl⟩
  rw [← hE0, ← hL0]
  have HE0 : Hid (E0 = slotsE M b) := hE0
  have HL0 : Hid (L0 = slotsL M b) := hL0
  clear hE0 hL0
  have n0 := hok.ns
  obtain ⟨o1, ho1⟩ : ∃ o : Obj, o = .cells #[.slice aS M.slots.length cS, .slice aH M.heads.length cH, .slice aF M.free.length cF, .slice aL M.locks.length cL, .int .i64 M.now] 25 := ⟨_, rfl⟩
  obtain ⟨o2, ho2⟩ : ∃ o : Obj, o = .cells #[.slice none 0 0] 23 := ⟨_, rfl⟩
  have b0 : Below w.heap.size w ((w.alloc o1).alloc o2) := below_alloc2 w o1 o2
  have HB0 : Hid (((w.alloc o1).alloc o2).heap[w.heap.size]? = some o1) := by show _ = _; rw [Below.heap_alloc _ _ _ (by simp), heap_alloc_new]
  have HV0 : Hid (((w.alloc o1).alloc o2).heap[w.heap.size + 1]? = some o2) := by
    have := heap_alloc_new (w.alloc o1) o2
    rwa [show (w.alloc o1).heap.size = w.heap.size + 1 by simp] at this
  have HZ0 : Hid (((w.alloc o1).alloc o2).heap.size = w.heap.size + 2) := by show _ = _; simp
  have HA0 : Hid _ := A.below b0
  have hmf : ∀ (fn : Fn) (first cap : Array Value) (w : World), (Instr.makeFunc fn first cap).run Try.prog w = .ok (.func fn first cap) w := fun _ _ _ _ => rfl
  go_enter Try.func55, Try.ntmps55
  go_wp2_with fail
  rw [← ho1, ← ho2]
  generalize (w.alloc o1).alloc o2 = W0 at *
  subst ho1 ho2
  have hstart : Lst W0 (w.heap.size + 1) W0.heap.size 23 3 1 #[.slice aS M.slots.length cS, .slice aH M.heads.length cH, .slice aF M.free.length cF, .slice aL M.locks.length cL, .int .i64 M.now] (W0.alloc (.cells #[.slice aS M.slots.length cS, .slice aH M.heads.length cH, .slice aF M.free.length cF, .slice aL M.locks.length cL, .int .i64 M.now] 25)) ([] : List Int).length (encI []) := by
    have z := HZ0.out
    refine ⟨⟨.slice none 0 0, ?_, World.ownsRow_nil _ _ _ _⟩, heap_alloc_new _ _, (Below.refl _ _).alloc (by omega) _, by omega⟩
    rw [Below.heap_alloc _ _ _ (by omega)]
    exact HV0.out
  have HAw : Hid _ := A
  clear A
  refine (walk_any 86 #[.pointer (some ⟨w.heap.size + 1, 0, none⟩)] M aS aH aF aL cS cH cF cL b W0 hok hb fn85 (fun l W => Lst W0 (w.heap.size + 1) W0.heap.size 23 3 1 #[.slice aS M.slots.length cS, .slice aH M.heads.length cH, .slice aF M.free.length cF, .slice aL M.locks.length cL, .int .i64 M.now] W l.length (encI l)) hstart (fun l W h => h.box) (fun l W h => HAw.out.below (b0.trans (h.below.mono (by omega)))) ?_).mono ?_
  · intro l a W hL ha hl
    exact app85 _ _ _ _ _ _ _ hL (by omega)
  rintro e w1 ⟨rfl, hL1⟩
  have HL1 : Hid _ := hL1
  have HB1 : Hid (Below w.heap.size w w1) := b0.trans (hL1.below.mono (by omega))
  obtain ⟨⟨v, hv, ho⟩, -, -, -⟩ := hL1
  have hm : (chL M b).length ≤ 12 := Nat.le_trans (walkL_len _ _ _) n0
  obtain ⟨ao, cap, rfl, hrow⟩ := IRow.of_own ho (by omega)
  obtain ⟨c0, f0, lB⟩ := var_cell hv
  have HRow : Hid (IRow w1 ao cap (chL M b)) := hrow
  have HHi : Hid (∀ ad, ao = some ad → w.heap.size ≤ ad.block) := fun ad e => by
    subst e
    have := (ho.lt ad.block rfl).1
    omega
  clear hv ho hrow HL1 hstart HB0 HV0 HZ0 HA0 b0
  cases hc : chOk M b
  · have HV : Hid (E0 = 4 ∧ L0 = []) := ⟨HE0.out.trans (by unfold slotsE; rw [hc]; rfl), HL0.out.trans (by unfold slotsL; rw [hc]; rfl)⟩
    go_wp2
    go_ret2
    refine ⟨none, 0, ?_, ?_, (fun _ h => by cases h), HB1.out⟩
    · rw [HV.out.1, HV.out.2]; rfl
    · rw [HV.out.2]; exact ⟨by decide, by decide, fun _ => rfl, .inl rfl⟩
  · have HV : Hid (E0 = 0 ∧ L0 = chL M b) := ⟨HE0.out.trans (by unfold slotsE; rw [hc]; rfl), HL0.out.trans (by unfold slotsL; rw [hc]; rfl)⟩
    go_wp2
    go_ret2
    refine ⟨ao, cap, ?_, ?_, HHi.out, HB1.out⟩
    · rw [HV.out.1, HV.out.2]; rfl
    · rw [HV.out.2]; exact HRow.out





set_option maxHeartbeats 1600000 in
theorem chainSlots_hi (M : Mm) (aS aH aF aL : Option Addr) (cS cH cF cL : Nat) (b : Int) (w : World) (A : At w aS aH aF aL cS cH cF cL M) :
    Calls Try.prog 14 #[.agg #[.slice aS M.slots.length cS, .slice aH M.heads.length cH, .slice aF M.free.length cF, .slice aL M.locks.length cL, .int .i64 M.now], .int .i64 b] w fun e w' =>
      ∃ ao cap, e = .returned (.tuple #[.slice ao (slotsCL M b).length cap, .int .i64 (slotsCE M b)]) ∧ IRow w' ao cap (slotsCL M b) ∧ (∀ ad, ao = some ad → w.heap.size ≤ ad.block) ∧ Below w.heap.size w w' := by
  obtain ⟨E0, hE0⟩ : ∃ E0, E0 = slotsCE M b := ⟨_, rfl⟩
  obtain ⟨L0, hL0⟩ : ∃ L0, L0 = slotsCL M b := ⟨_, rfl⟩
  rw [← hE0, ← hL0]
  have HE0 : Hid (E0 = slotsCE M b) := hE0
  have HL0 : Hid (L0 = slotsCL M b) := hL0
  clear hE0 hL0
  have m2 := A.h.max
  have n2 : M.heads.length ≤ 9223372036854775807 := by omega
  obtain ⟨o1, ho1⟩ : ∃ o : Obj, o = .cells #[.slice aS M.slots.length cS, .slice aH M.heads.length cH, .slice aF M.free.length cF, .slice aL M.locks.length cL, .int .i64 M.now] 25 := ⟨_, rfl⟩
  have b0 : Below w.heap.size w (w.alloc o1) := one_below w o1
  have HB0 : Hid ((w.alloc o1).heap[w.heap.size]? = some o1) := heap_alloc_new _ _
  have HA : Hid (At w aS aH aF aL cS cH cF cL M) := A
  have HA0 : Hid _ := A.below b0
  clear A
  go_enter Try.func14, Try.ntmps14
  go_wp2_with fail
  rw [← ho1]
  generalize w.alloc o1 = W0 at *
  subst ho1
  refine (check_any M aS aH aF aL cS cH cF cL W0 HA0.out).mono ?_
  rintro e w1 ⟨rfl, hb1⟩
  have b1 := b0.trans (hb1.mono b0.size)
  have HB1 : Hid _ := (hb1.block w.heap.size (lt_of_block HB0.out)).trans HB0.out
  clear hb1 b0 HB0 HA0
  by_cases hE : chk M = 0
  rotate_left
  · have h' : (chk M != 0) = true := by simpa using hE
    have HV : Hid (E0 = chk M ∧ L0 = []) := by
      have h : slotsCE M b = chk M := by unfold slotsCE; rw [if_pos hE]
      exact ⟨HE0.out.trans h, HL0.out.trans (by unfold slotsCL; rw [h, if_neg hE])⟩
    clear HB1
    generalize chk M = E at *
    go_wp2
    go_ret2
    exact ⟨none, 0, by rw [HV.out.1, HV.out.2]; rfl, by rw [HV.out.2]; exact irow_nil _, (fun _ h => by cases h), b1⟩
  have hok := (chk_zero M).1 hE
  have HC : Hid (chk M = 0) := hE
  rw [hE]
  clear hE
  obtain ⟨q0, q1, q2, q3, q4, f0, f1, f2, f3, f4, qs⟩ := boxf HB1.out
  clear f0 f1 f2 f3 f4
  go_wp2_with fail
  refine (hasChain_any aS aH aF aL _ _ _ _ cS cH cF cL _ _ w1 n2).mono ?_
  rintro e w2 ⟨rfl, hb2⟩
  have b2 := b1.trans (hb2.mono b1.size)
  have HB2 : Hid _ := (hb2.block w.heap.size qs).trans HB1.out
  clear hb2 b1 HB1 q0 q1 q2 q3 q4 qs
  cases hS : inB b 0 ((M.heads.length : Int) - 1)
  · have HV : Hid (E0 = 5 ∧ L0 = []) := by
      have h : slotsCE M b = 5 := by unfold slotsCE; rw [if_neg (by simpa using HC.out), if_pos hS]
      exact ⟨HE0.out.trans h, HL0.out.trans (by unfold slotsCL; rw [h, if_neg (by decide)])⟩
    go_wp2
    go_ret2
    exact ⟨none, 0, by rw [HV.out.1, HV.out.2]; rfl, by rw [HV.out.2]; exact irow_nil _, (fun _ h => by cases h), b2⟩
  have hbb := (inB_iff _ _ _).1 hS
  obtain ⟨c, rfl⟩ : ∃ c : Nat, b = c := ⟨b.toNat, by omega⟩
  have hc : c < M.heads.length := by omega
  have HV : Hid (E0 = slotsE M c ∧ L0 = slotsL M c) := by
    have h : slotsCE M c = slotsE M c := by unfold slotsCE; rw [if_neg (by simpa using HC.out), if_neg (by rw [hS]; simp)]; rfl
    refine ⟨HE0.out.trans h, HL0.out.trans ?_⟩
    unfold slotsCL
    rw [h]
    unfold slotsE slotsL
    cases chOk M c <;> simp
  obtain ⟨q0, q1, q2, q3, q4, f0, f1, f2, f3, f4, qs⟩ := boxf HB2.out
  clear f0 f1 f2 f3 f4 hS hbb
  have HA2 : Hid _ := HA.out.below b2
  go_wp2_with fail
  refine (slotsOf_hi M aS aH aF aL cS cH cF cL c w2 HA2.out hok hc).mono ?_
  rintro e w3 ⟨ao, cap, rfl, hrow, hhi, hb3⟩
  have b3 := b2.trans (hb3.mono b2.size)
  have HR : Hid (IRow w3 ao cap (slotsL M c)) := hrow
  have HHi : Hid (∀ ad, ao = some ad → w.heap.size ≤ ad.block) := fun ad e => Nat.le_trans b2.size (hhi ad e)
  clear hrow hhi hb3 b2 HB2 q0 q1 q2 q3 q4 qs HA2
  generalize slotsE M c = e1 at *
  generalize slotsL M c = l1 at *
  go_wp2
  go_ret2
  exact ⟨ao, cap, by rw [HV.out.1, HV.out.2]; rfl, by rw [HV.out.2]; exact HR.out, HHi.out, b3⟩





end Go.Proofs.Ytdbilofhcadmoac.mm

/- Two memories of one's own, made in one row of the program, as in Two: in a law that is handed a number too. -/
namespace Go.Proofs.Ytdbilofhcadmoac.mm
open Go.ChangeShapes Go.WideShapes Go.ChangeAt Go.RowKit Go.Joins
set_option maxRecDepth 100000
set_option linter.unusedVariables false

structure TwV (w2 : World) (M : Mm) (mv : Value) (L : Nat → Bool) (x : Nat → Value) (Z : Nat → Nat → Prop) (W : World) : Prop where
  bl : Below w2.heap.size w2 W
  rng : ∀ i k, Z i k → w2.heap.size ≤ k ∧ k < W.heap.size
  dj : ∀ i j k, Z i k → Z j k → i = j
  p0 : L 0 = true → x 45 = mv
  p2 : L 2 = true → x 47 = mv
  p1 : L 1 = true → Got W w2.heap.size M (Z 1) (x 46)
  p3 : L 3 = true → Got W w2.heap.size M (Z 3) (x 48)
  p4 : L 4 = true → ∃ B, x 9 = .pointer (some ⟨B, 0, none⟩) ∧ Z 4 B ∧ (L 6 = false → W.heap[B]? = some zeroTw) ∧ (L 6 = true → W.heap[B]? = some (boxO (x 46)))
  p5 : L 5 = true → ∃ B, x 10 = .pointer (some ⟨B, 0, none⟩) ∧ Z 5 B ∧ (L 7 = false → W.heap[B]? = some zeroTw) ∧ (L 7 = true → W.heap[B]? = some (boxO (x 48)))
  e6 : L 6 = true → L 1 = true ∧ L 4 = true
  e7 : L 7 = true → L 3 = true ∧ L 5 = true

section
variable {w2 W W' : World} {M : Mm} {mv v : Value} {L : Nat → Bool} {x : Nat → Value} {Z : Nat → Nat → Prop}

theorem TwV.start (hb : Below w2.heap.size w2 W) : TwV w2 M mv (fun _ => false) x (fun _ _ => False) W :=
  ⟨hb, (fun i k h => h.elim), (fun i j k h => h.elim), (fun h => by cases h), (fun h => by cases h), (fun h => by cases h), (fun h => by cases h), (fun h => by cases h), (fun h => by cases h), (fun h => by cases h), (fun h => by cases h)⟩


theorem twV_rng (T : TwV w2 M mv L x Z W) (hb : Below W.heap.size W W') (i : Nat) : ∀ j k, updZ Z i (New W W') j k → w2.heap.size ≤ k ∧ k < W'.heap.size := by
  intro j k h
  unfold updZ at h
  split at h
  · exact ⟨Nat.le_trans T.bl.size h.1, h.2⟩
  · exact ⟨(T.rng j k h).1, Nat.lt_of_lt_of_le (T.rng j k h).2 hb.size⟩
theorem twV_dj (T : TwV w2 M mv L x Z W) (i : Nat) : ∀ j l k, updZ Z i (New W W') j k → updZ Z i (New W W') l k → j = l := by
  intro j l k h1 h2
  unfold updZ at h1 h2
  split at h1 <;> split at h2
  · subst_vars; rfl
  · have := (T.rng l k h2).2; have := h1.1; omega
  · have := (T.rng j k h1).2; have := h2.1; omega
  · exact T.dj j l k h1 h2

theorem TwV.a0 (T : TwV w2 M mv L x Z W) : TwV w2 M mv (upd L 0) (updv x 45 mv) Z W :=
  ⟨T.bl, T.rng, T.dj, (fun _ => rfl), T.p2, T.p1, T.p3, T.p4, T.p5, T.e6, T.e7⟩
theorem TwV.a2 (T : TwV w2 M mv L x Z W) : TwV w2 M mv (upd L 2) (updv x 47 mv) Z W :=
  ⟨T.bl, T.rng, T.dj, T.p0, (fun _ => rfl), T.p1, T.p3, T.p4, T.p5, T.e6, T.e7⟩

theorem TwV.a1 (T : TwV w2 M mv L x Z W) (h1 : L 1 = false) (hb : Below W.heap.size W W') (g : Got W' W.heap.size M (fun _ => True) v) : TwV w2 M mv (upd L 1) (updv x 46 v) (updZ Z 1 (New W W')) W' := by
  have h6 : L 6 = false := by
    cases h : L 6
    · rfl
    · have := (T.e6 h).1; rw [h1] at this; cases this
  refine ⟨T.bl.trans (hb.mono T.bl.size), twV_rng T hb 1, twV_dj T 1, T.p0, T.p2, fun _ => ?_, fun h => (T.p3 h).below hb, fun h => ?_, fun h => ?_, (fun h => by have h' : L 6 = true := h; rw [h6] at h'; cases h'), T.e7⟩
  · obtain ⟨xS, xH, xF, xL, kS, kH, kF, kL, e, r, -⟩ := g
    exact ⟨xS, xH, xF, xL, kS, kH, kF, kL, e, r.low T.bl.size, fun k hk => r.rows k hk⟩
  · obtain ⟨B, e, hz, i1, i2⟩ := T.p4 h
    exact ⟨B, e, hz, (fun h' => box_below (i1 h') hb), fun h' => by have h'' : L 6 = true := h'; rw [h6] at h''; cases h''⟩
  · obtain ⟨B, e, hz, i1, i2⟩ := T.p5 h
    exact ⟨B, e, hz, (fun h' => box_below (i1 h') hb), fun h' => box_below (i2 h') hb⟩
theorem TwV.a3 (T : TwV w2 M mv L x Z W) (h3 : L 3 = false) (hb : Below W.heap.size W W') (g : Got W' W.heap.size M (fun _ => True) v) : TwV w2 M mv (upd L 3) (updv x 48 v) (updZ Z 3 (New W W')) W' := by
  have h7 : L 7 = false := by
    cases h : L 7
    · rfl
    · have := (T.e7 h).1; rw [h3] at this; cases this
  refine ⟨T.bl.trans (hb.mono T.bl.size), twV_rng T hb 3, twV_dj T 3, T.p0, T.p2, fun h => (T.p1 h).below hb, fun _ => ?_, fun h => ?_, fun h => ?_, T.e6, (fun h => by have h' : L 7 = true := h; rw [h7] at h'; cases h')⟩
  · obtain ⟨xS, xH, xF, xL, kS, kH, kF, kL, e, r, -⟩ := g
    exact ⟨xS, xH, xF, xL, kS, kH, kF, kL, e, r.low T.bl.size, fun k hk => r.rows k hk⟩
  · obtain ⟨B, e, hz, i1, i2⟩ := T.p4 h
    exact ⟨B, e, hz, (fun h' => box_below (i1 h') hb), fun h' => box_below (i2 h') hb⟩
  · obtain ⟨B, e, hz, i1, i2⟩ := T.p5 h
    exact ⟨B, e, hz, (fun h' => box_below (i1 h') hb), fun h' => by have h'' : L 7 = true := h'; rw [h7] at h''; cases h''⟩
theorem TwV.a4 (T : TwV w2 M mv L x Z W) (h4 : L 4 = false) : TwV w2 M mv (upd L 4) (updv x 9 (.pointer (some ⟨W.heap.size, 0, none⟩))) (updZ Z 4 (New W (W.alloc zeroTw))) (W.alloc zeroTw) := by
  have hb := one_below W zeroTw
  have h6 : L 6 = false := by
    cases h : L 6
    · rfl
    · have := (T.e6 h).2; rw [h4] at this; cases this
  refine ⟨T.bl.trans (hb.mono T.bl.size), twV_rng T hb 4, twV_dj T 4, T.p0, T.p2, fun h => (T.p1 h).below hb, fun h => (T.p3 h).below hb, fun _ => ?_, fun h => ?_, (fun h => by have h' : L 6 = true := h; rw [h6] at h'; cases h'), T.e7⟩
  · exact ⟨W.heap.size, rfl, ⟨Nat.le_refl _, lt_of_block (heap_alloc_new W zeroTw)⟩, (fun _ => heap_alloc_new W zeroTw), fun h' => by have h'' : L 6 = true := h'; rw [h6] at h''; cases h''⟩
  · obtain ⟨B, e, hz, i1, i2⟩ := T.p5 h
    exact ⟨B, e, hz, (fun h' => box_below (i1 h') hb), fun h' => box_below (i2 h') hb⟩
theorem TwV.a5 (T : TwV w2 M mv L x Z W) (h5 : L 5 = false) : TwV w2 M mv (upd L 5) (updv x 10 (.pointer (some ⟨W.heap.size, 0, none⟩))) (updZ Z 5 (New W (W.alloc zeroTw))) (W.alloc zeroTw) := by
  have hb := one_below W zeroTw
  have h7 : L 7 = false := by
    cases h : L 7
    · rfl
    · have := (T.e7 h).2; rw [h5] at this; cases this
  refine ⟨T.bl.trans (hb.mono T.bl.size), twV_rng T hb 5, twV_dj T 5, T.p0, T.p2, fun h => (T.p1 h).below hb, fun h => (T.p3 h).below hb, fun h => ?_, fun _ => ?_, T.e6, (fun h => by have h' : L 7 = true := h; rw [h7] at h'; cases h')⟩
  · obtain ⟨B, e, hz, i1, i2⟩ := T.p4 h
    exact ⟨B, e, hz, (fun h' => box_below (i1 h') hb), fun h' => box_below (i2 h') hb⟩
  · exact ⟨W.heap.size, rfl, ⟨Nat.le_refl _, lt_of_block (heap_alloc_new W zeroTw)⟩, (fun _ => heap_alloc_new W zeroTw), fun h' => by have h'' : L 7 = true := h'; rw [h7] at h''; cases h''⟩


theorem TwV.a6 {B : Nat} {v0 v1 v2 v3 v4 : Value} (T : TwV w2 M mv L x Z W) (g1 : L 1 = true) (g4 : L 4 = true) (h6 : L 6 = false) (hB : x 9 = .pointer (some ⟨B, 0, none⟩)) (hv : x 46 = .agg #[v0, v1, v2, v3, v4]) : TwV w2 M mv (upd L 6) x Z (set5 W B v0 v1 v2 v3 v4) := by
  obtain ⟨B', e, hz, i1, -⟩ := T.p4 g4
  rw [hB] at e
  injection e with e; injection e with e; injection e with e
  subst e
  have hz0 := i1 h6
  refine ⟨T.bl.trans (tw_below (T.rng 4 B hz).1 _ _ _ _ _), fun i k h => by rw [tw_size]; exact T.rng i k h, T.dj, T.p0, T.p2, fun h => (T.p1 h).set5 hz0 _ _ _ _ _, fun h => (T.p3 h).set5 hz0 _ _ _ _ _, fun _ => ?_, fun h => ?_, fun _ => ⟨g1, g4⟩, T.e7⟩
  · refine ⟨B, hB, hz, (fun h => by cases h), fun _ => ?_⟩
    rw [hv]
    exact set5_block hz0 _ _ _ _ _
  · obtain ⟨B5, e5, hz5, j1, j2⟩ := T.p5 h
    have hne : B5 ≠ B := by rintro rfl; have := T.dj 4 5 _ hz hz5; omega
    exact ⟨B5, e5, hz5, (fun h' => (tw_other hne _ _ _ _ _).trans (j1 h')), fun h' => (tw_other hne _ _ _ _ _).trans (j2 h')⟩
theorem TwV.a7 {B : Nat} {v0 v1 v2 v3 v4 : Value} (T : TwV w2 M mv L x Z W) (g3 : L 3 = true) (g5 : L 5 = true) (h7 : L 7 = false) (hB : x 10 = .pointer (some ⟨B, 0, none⟩)) (hv : x 48 = .agg #[v0, v1, v2, v3, v4]) : TwV w2 M mv (upd L 7) x Z (set5 W B v0 v1 v2 v3 v4) := by
  obtain ⟨B', e, hz, i1, -⟩ := T.p5 g5
  rw [hB] at e
  injection e with e; injection e with e; injection e with e
  subst e
  have hz0 := i1 h7
  refine ⟨T.bl.trans (tw_below (T.rng 5 B hz).1 _ _ _ _ _), fun i k h => by rw [tw_size]; exact T.rng i k h, T.dj, T.p0, T.p2, fun h => (T.p1 h).set5 hz0 _ _ _ _ _, fun h => (T.p3 h).set5 hz0 _ _ _ _ _, fun h => ?_, fun _ => ?_, T.e6, fun _ => ⟨g3, g5⟩⟩
  · obtain ⟨B5, e5, hz5, j1, j2⟩ := T.p4 h
    have hne : B5 ≠ B := by rintro rfl; have := T.dj 4 5 _ hz5 hz; omega
    exact ⟨B5, e5, hz5, (fun h' => (tw_other hne _ _ _ _ _).trans (j1 h')), fun h' => (tw_other hne _ _ _ _ _).trans (j2 h')⟩
  · refine ⟨B, hB, hz, (fun h => by cases h), fun _ => ?_⟩
    rw [hv]
    exact set5_block hz0 _ _ _ _ _

/- In the end there are two boxes, with a memory of one's own in each, apart from each other. -/
theorem TwV.fin (T : TwV w2 M mv L x Z W) (g6 : L 6 = true) (g7 : L 7 = true)
    (m1 : M.slots.length * 48 ≤ 140737488351232) (m2 : M.heads.length * 8 ≤ 140737488351232) (m3 : M.free.length * 8 ≤ 140737488351000) (m4 : M.locks.length * 8 ≤ 140737488351232) :
    ∃ Bx By xS xH xF xL kS kH kF kL yS yH yF yL jS jH jF jL, x 9 = .pointer (some ⟨Bx, 0, none⟩) ∧ x 10 = .pointer (some ⟨By, 0, none⟩) ∧ Mine W Bx w2.heap.size xS xH xF xL kS kH kF kL M ∧ Mine W By w2.heap.size yS yH yF yL jS jH jF jL M ∧
      (∀ k, Foot Bx xS xH xF xL k → w2.heap.size ≤ k) ∧ (∀ k, Foot By yS yH yF yL k → w2.heap.size ≤ k ∧ ¬ Foot Bx xS xH xF xL k) := by
  obtain ⟨g1, g4⟩ := T.e6 g6
  obtain ⟨g3, g5⟩ := T.e7 g7
  obtain ⟨xS, xH, xF, xL, kS, kH, kF, kL, ex, rx, hx⟩ := T.p1 g1
  obtain ⟨yS, yH, yF, yL, jS, jH, jF, jL, ey, ry, hy⟩ := T.p3 g3
  obtain ⟨Bx, e5, z5, -, b5⟩ := T.p4 g4
  obtain ⟨By, e6, z6, -, b6⟩ := T.p5 g5
  have b5' := b5 g6
  have b6' := b6 g7
  rw [ex] at b5'
  rw [ey] at b6'
  have fx : ∀ k, Foot Bx xS xH xF xL k → Z 4 k ∨ Z 1 k := by
    rintro k (rfl | h)
    · exact .inl z5
    · exact .inr (hx k h)
  have fy : ∀ k, Foot By yS yH yF yL k → Z 5 k ∨ Z 3 k := by
    rintro k (rfl | h)
    · exact .inl z6
    · exact .inr (hy k h)
  refine ⟨Bx, By, xS, xH, xF, xL, kS, kH, kF, kL, yS, yH, yF, yL, jS, jH, jF, jL, e5, e6, ⟨b5', rx, m1, m2, m3, m4⟩, ⟨b6', ry, m1, m2, m3, m4⟩, fun k h => ?_, fun k h => ⟨?_, fun h' => ?_⟩⟩
  · rcases fx k h with h | h
    · exact (T.rng _ k h).1
    · exact (T.rng _ k h).1
  · rcases fy k h with h | h
    · exact (T.rng _ k h).1
    · exact (T.rng _ k h).1
  · rcases fy k h with h | h <;> rcases fx k h' with h' | h'
    · have := T.dj _ _ k h h'; omega
    · have := T.dj _ _ k h h'; omega
    · have := T.dj _ _ k h h'; omega
    · have := T.dj _ _ k h h'; omega
end

/- What a region's walk carries: what has come up, and what no operation changes. -/
def JtV (w2 : World) (M : Mm) (mv : Value) (b : Nat → Value) (listed : Array Bool) (x : Nat → Value) (W : World) : Prop :=
  listed.size = 8 ∧ (∀ k, k ∉ [9, 10, 45, 46, 47, 48] → x k = b k) ∧ ∃ Z, TwV w2 M mv (fun i => listed.getD i false) x Z W
theorem JtV.next {w2 W W' : World} {M : Mm} {mv : Value} {b : Nat → Value} {listed : Array Bool} {x x' : Nat → Value} {Z : Nat → Nat → Prop} (J : JtV w2 M mv b listed x W) (i : Nat) (hi : i < 8) (hx : ∀ k, k ∉ [9, 10, 45, 46, 47, 48] → x' k = x k) (T : TwV w2 M mv (upd (fun k => listed.getD k false) i) x' Z W') : JtV w2 M mv b (listed.setIfInBounds i true) x' W' := by
  refine ⟨by simpa using J.1, fun k hk => (hx k hk).trans (J.2.1 k hk), Z, ?_⟩
  have e : (fun k => (listed.setIfInBounds i true).getD k false) = upd (fun k => listed.getD k false) i := by
    funext k
    have := J.1
    by_cases hk : k = i
    · subst hk
      simp [upd, Array.getD_eq_getD_getElem?, J.1, hi]
    · have hk' : ¬ i = k := fun e => hk e.symm
      simp [upd, hk, Array.getD_eq_getD_getElem?, hk']
  rw [e]
  exact T
theorem updv_outV {x : Nat → Value} {d : Nat} {v : Value} (hd : d ∈ [9, 10, 45, 46, 47, 48]) : ∀ k, k ∉ [9, 10, 45, 46, 47, 48] → updv x d v k = x k := by
  intro k hk
  unfold updv
  rw [if_neg]
  rintro rfl
  exact hk hd



end Go.Proofs.Ytdbilofhcadmoac.mm
