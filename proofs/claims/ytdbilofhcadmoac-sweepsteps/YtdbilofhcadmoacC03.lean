/- The contract of key.Bucket; a map from keys to slots as a map of one's own. -/
import Derived.Test.YtdbilofhcadmoacC01
import Derived.Test.YtdbilofhcadmoacC02
import Derived.DeepKeys4
namespace Go.Proofs.Ytdbilofhcadmoac.mm
open Go.ChangeShapes Go.WideShapes Go.ChangeAt Go.RowKit Go.Maps
set_option maxRecDepth 100000
set_option linter.unusedVariables false

theorem bucket_ok (a b : Int) (n : Nat) (w : World) (hk : keyB a b = true) (n0 : 1 ≤ n) (n1 : n ≤ 4) :
    Calls Try.prog 91 #[.agg #[.int .i64 a, .int .i64 b], .int .i64 n] w fun e w' => e = .returned (.tuple #[.int .i64 (bucket a b n), .int .i64 0]) ∧ Below w.heap.size w w' := by
  obtain ⟨⟨h0, h1⟩, h2, h3⟩ := (keyB_iff a b).1 hk
  have hab0 : 0 ≤ a * b := Int.mul_nonneg h0 h2
  have hab1 : a * b ≤ 15 * 15 := Int.mul_le_mul h1 h3 h2 (by omega)
  have e1 : wrap64 (a * b) = a * b := by unfold wrap64; omega
  have e2 : wrap64 (7 * a + 3 * b + a * b) = 7 * a + 3 * b + a * b := by unfold wrap64; omega
  have e3 : (7 * a + 3 * b + a * b).tmod n = (7 * a + 3 * b + a * b) % n := Int.tmod_eq_emod_of_nonneg (by omega)
  have H1 : Hid ((wrap64 (7 * a + 3 * b + wrap64 (a * b))).tmod n = bucket a b n) := by rw [e1, e2, e3]; trivial
  clear e1 e2 e3 hab0 hab1
  have HK : Hid (keyB a b = true) := hk
  clear hk
  go_enter Try.func91, Try.ntmps91
  go_wp2_with fail
  refine (kcheck_t _ _ _ HK.out).mono ?_
  rintro e w1 ⟨rfl, hb1⟩
  have c0 : w1.cell? ⟨w.heap.size, 0, none⟩ = some (.int .i64 a) := (hb1.cell (p := ⟨w.heap.size, 0, none⟩) (by simp)).trans (by simp)
  have c1 : w1.cell? ⟨w.heap.size, 1, none⟩ = some (.int .i64 b) := (hb1.cell (p := ⟨w.heap.size, 1, none⟩) (by simp)).trans (by simp)
  go_wp2
  go_ret2
  refine ⟨?_, ((Below.refl _ _).alloc (Nat.le_refl _) _).trans (hb1.mono (by simp))⟩
  show Ending.returned (.tuple #[.int .i64 ((wrap64 (7 * a + 3 * b + wrap64 (a * b))).tmod n), .int .i64 0]) = _
  rw [H1.out]

theorem bucket_bad (a b : Int) (n : Int) (w : World) (h : keyB a b = false) :
    Calls Try.prog 91 #[.agg #[.int .i64 a, .int .i64 b], .int .i64 n] w fun e w' => e = .returned (.tuple #[.int .i64 0, .int .i64 3]) ∧ Below w.heap.size w w' := by
  go_enter Try.func91, Try.ntmps91
  go_wp2_with (first | (go_at_call 87; refine (kcheck_f _ _ _ h).mono ?_; rintro e w1 ⟨rfl, hb1⟩))
  go_ret2
  exact ⟨rfl, ((Below.refl _ _).alloc (Nat.le_refl _) _).trans (hb1.mono (by simp))⟩

theorem bucketOf_any (a b : Int) (n : Nat) (w : World) (hk : keyB a b = true) (n0 : 1 ≤ n) (n1 : n ≤ 4) :
    Calls Try.prog 78 #[.agg #[.int .i64 a, .int .i64 b], .int .i64 n] w fun e w' => e = .returned (.int .i64 (bucket a b n)) ∧ Below w.heap.size w w' := by
  obtain ⟨⟨h0, h1⟩, h2, h3⟩ := (keyB_iff a b).1 hk
  clear hk
  have hm : (a + 3) * (b + 7) = a * b + 7 * a + 3 * b + 21 := by rw [Int.add_mul, Int.mul_add, Int.mul_add]; omega
  have hab0 : 0 ≤ a * b := Int.mul_nonneg h0 h2
  have hab1 : a * b ≤ 15 * 15 := Int.mul_le_mul h1 h3 h2 (by omega)
  have e1 : wrap64 ((a + 3) * (b + 7)) = a * b + 7 * a + 3 * b + 21 := by rw [hm]; unfold wrap64; omega
  have e2 : wrap64 (a * b + 7 * a + 3 * b + 21 - 21) = 7 * a + 3 * b + a * b := by unfold wrap64; omega
  have e3 : (7 * a + 3 * b + a * b).tmod n = (7 * a + 3 * b + a * b) % n := Int.tmod_eq_emod_of_nonneg (by omega)
  have H1 : Hid (wrap64 (wrap64 ((a + 3) * (b + 7)) - 21) = 7 * a + 3 * b + a * b) := by rw [e1]; exact e2
  have H3 : Hid ((7 * a + 3 * b + a * b).tmod n = bucket a b n) := e3
  clear hm hab0 hab1 e1 e2 e3
  go_enter Try.func78, Try.ntmps78
  go_wp2
  go_ret
  refine ⟨?_, one_below _ _⟩
  show Ending.returned (.int .i64 ((wrap64 (wrap64 ((a + 3) * (b + 7)) - 21)).tmod n)) = _
  rw [H1.out, H3.out]

theorem laid : laidOutB Try.prog = true := by kernel_rfl
theorem row37 : (27 : TypeId) < Try.prog.types.size := of_decide_eq_true (by kernel_rfl)
theorem wide37 : (match Try.prog.underlying 27 with | some (.array _ _) | some (.struct _) => true | _ => false) = true := by rw [Try.underlying27]
theorem law37 : Keyed Try.prog 27 := Keyed.of_law (deep_law_laid laid (m := 3) (by omega) row37 (by kernel_rfl) wide37)
theorem under103 : Try.prog.underlying 103 = some (.map 27 3) := by kernel_rfl
theorem zero3 (w : World) : (zeroValue 3).run Try.prog w = .ok (.int .i64 0) w := by kernel_rfl
theorem keyType37 : Try.prog.keyType 27 = true := by kernel_rfl
theorem kcells37 : Try.prog.cellsOf 27 = 2 := by kernel_rfl
theorem kcells3 : Try.prog.cellsOf 3 = 1 := by kernel_rfl
theorem ksize : ∃ m, Try.prog.types.size = m + 1 := by
  have h : 0 < Try.prog.types.size := Nat.lt_of_le_of_lt (Nat.zero_le _) (show 27 < Try.prog.types.size from row37)
  exact ⟨Try.prog.types.size - 1, by omega⟩

def kl (k : Int × Int) : Lit := .string (keyBytes [.int .i64 k.1, .int .i64 k.2])
theorem keyOf_kl {a b : Int} (wa : (Lit.int .i64 a).wf = true) (wb : (Lit.int .i64 b).wf = true) : keyOf Try.prog 27 (.agg #[.int .i64 a, .int .i64 b]) = some (kl (a, b)) := by
  obtain ⟨m, hm⟩ := ksize
  unfold keyOf
  simp only [Try.underlying27]
  rw [if_pos (by simp [keyType37, Value.formed, Try.underlying27, kcells37]), hm]
  unfold Program.keyLits
  simp only [Try.underlying27, Value.cells]
  rw [if_pos (by rw [kcells37]; exact ⟨rfl, by kernel_rfl⟩)]
  simp [kcells3, Program.keyLits, Try.underlying3, wa, wb, kl]
theorem keyB_wf {a b : Int} (h : keyB a b = true) : (Lit.int .i64 a).wf = true ∧ (Lit.int .i64 b).wf = true := by
  obtain ⟨⟨h0, h1⟩, h2, h3⟩ := (keyB_iff a b).1 h
  exact ⟨wf64 (by omega) (by omega), wf64 (by omega) (by omega)⟩
theorem kl_inj {k k' : Int × Int} (h : keyB k.1 k.2 = true) (h' : keyB k'.1 k'.2 = true) (e : kl k = kl k') : k = k' := by
  have h1 := keyOf_kl (keyB_wf h).1 (keyB_wf h).2
  have h2 := keyOf_kl (keyB_wf h').1 (keyB_wf h').2
  have : (k.1, k.2) = k := rfl
  rw [this] at h1
  have : (k'.1, k'.2) = k' := rfl
  rw [this, ← e] at h2
  have := law37.inj h1 h2
  simp at this
  exact Prod.ext this.1 this.2

/- Block g is a map from the keys of these slots to them. -/
def MapAt (M : Mm) (w : World) (g : Nat) (all : List Int) : Prop :=
  ∃ n, n ≤ all.length ∧ ∃ D : DataW Unit, w.ownsMap Try.prog 27 (plainElem Try.prog 3) g n D ∧ ∀ k : Int × Int, keyB k.1 k.2 = true → D.atKey (kl k) (.lit (.int .i64 0)) = .lit (.int .i64 (whoK M all k)) ∧ Maps.has D (kl k) = hasK M all k

theorem MapAt.made (M : Mm) (w : World) : MapAt M (w.alloc (.map #[] 0)) w.heap.size [] :=
  ⟨0, Nat.le_refl _, _, World.ownsMap_made w Try.prog 27 _, fun k hk => ⟨by simp [whoK, DataW.atKey], by simp [hasK, Maps.has]⟩⟩
theorem MapAt.kept {M : Mm} {w w' : World} {g : Nat} {l : List Int} (h : MapAt M w g l) (hb : w'.heap[g]? = w.heap[g]?) : MapAt M w' g l := by
  obtain ⟨n, hn, D, ⟨es, clock, hg, F, hs, hD⟩, hat⟩ := h
  exact ⟨n, hn, D, ⟨es, clock, hb.trans hg, F, hs, hD⟩, hat⟩
theorem MapAt.lt {M : Mm} {w : World} {g : Nat} {l : List Int} (h : MapAt M w g l) : g < w.heap.size := by
  obtain ⟨n, hn, D, ⟨es, clock, hg, F, hs, hD⟩, hat⟩ := h
  exact lt_of_block hg
theorem MapAt.look {M : Mm} {w : World} {g : Nat} {l : List Int} (h : MapAt M w g l) {a b : Int} (hk : keyB a b = true) : (Instr.lookup 103 (.map (some g)) (.agg #[.int .i64 a, .int .i64 b]) true).run Try.prog w = .ok (.tuple #[.int .i64 (whoK M l (a, b)), .bool (hasK M l (a, b))]) w := by
  obtain ⟨n, hn, D, ho, hat⟩ := h
  have hw0 : (Lit.int .i64 0).wf = true := by decide
  obtain ⟨v, ps, hrun, hv⟩ := ho.look_ok law37 under103 (zero3 w) (plainElem_int Try.underlying3 hw0) (keyOf_kl (keyB_wf hk).1 (keyB_wf hk).2)
  rw [(hat (a, b) hk).1] at hv
  obtain ⟨c, rfl, hc, hwc⟩ := _root_.Go.plainElem_int_inv Try.underlying3 hv
  rw [hrun, (hat (a, b) hk).2]
  injection hc with h1 h2
  injection h1 with h1
  injection h1 with _ h1
  rw [h1]
theorem whoK_snoc {M : Mm} {l : List Int} {a : Int} {k : Int × Int} (h : hasK M l (keyAt M a) = false) : whoK M (l ++ [a]) k = if k = keyAt M a then a else whoK M l k := by
  unfold whoK
  rw [List.find?_append]
  by_cases e : k = keyAt M a
  · subst e
    rw [if_pos rfl]
    have : l.find? (fun x => keyAt M x == keyAt M a) = none := by
      rw [List.find?_eq_none]
      intro x hx hh
      rw [beq_iff_eq] at hh
      have := (hasK_iff M l (keyAt M a)).2 (by rw [← hh]; exact List.mem_map_of_mem hx)
      rw [h] at this
      cases this
    rw [this]
    simp
  · rw [if_neg e]
    have : [a].find? (fun x => keyAt M x == k) = none := by
      simp only [List.find?_cons, List.find?_nil]
      rw [show (keyAt M a == k) = false by simpa using fun hh => e (Eq.symm hh)]
    rw [this]
    simp
theorem hasK_snoc (M : Mm) (l : List Int) (a : Int) (k : Int × Int) : hasK M (l ++ [a]) k = (hasK M l k || decide (k = keyAt M a)) := by
  rw [Bool.eq_iff_iff, hasK_iff, List.map_append, List.mem_append, Bool.or_eq_true, hasK_iff]
  simp
theorem MapAt.put {M : Mm} {w' : World} {g n : Nat} {l : List Int} {D : DataW Unit} {a : Int} (hn : n ≤ l.length) (ht : IsMap D) (hat : ∀ k : Int × Int, keyB k.1 k.2 = true → D.atKey (kl k) (.lit (.int .i64 0)) = .lit (.int .i64 (whoK M l k)) ∧ Maps.has D (kl k) = hasK M l k)
    (hk : keyB (slotAt M a).a (slotAt M a).b = true) (h0 : hasK M l (keyAt M a) = false)
    (h : w'.ownsMap Try.prog 27 (plainElem Try.prog 3) g (n + 1) (D.put (kl (keyAt M a)) (.lit (.int .i64 a)))) : MapAt M w' g (l ++ [a]) := by
  refine ⟨n + 1, by simp; omega, _, h, fun k hk' => ?_⟩
  have hkl : WideAt.IsKeyLit (kl (keyAt M a)) := by simp [kl, WideAt.IsKeyLit]
  rw [whoK_snoc h0, hasK_snoc]
  by_cases e : k = keyAt M a
  · subst e
    rw [atKey_put_same ht hkl, has_put_same ht hkl]
    simp
  · have hne : kl k ≠ kl (keyAt M a) := fun hh => e (kl_inj hk' hk hh)
    rw [atKey_put_other hne, has_put_other hne, (hat k hk').1, (hat k hk').2]
    simp [e]





end Go.Proofs.Ytdbilofhcadmoac.mm
