/- Contracts of the functions on keys' texts: write, Print, read, Parse: each returns what the document says, and changes nothing that was there. -/
import Derived.Test.YtdbilofhcadmoaaDoorShelf
import Derived.Test.YtdbilofhcadmoaaDoorPure
import Derived.Test.YtdbilofhcadmoaaDoorKey
import Derived.Lib.QuietBelow
import Derived.Lib.AppendIntMem
import Derived.BigQuiet
import Derived.Deep.QuietTactic
namespace Go.Proofs.YtdbilofhcadmoaaDoor.key
open Go.ChangeShapes Go.WideShapes Go.ChangeAt Go.RowKit Go.Sort
open Go.Proofs.YtdbilofhcadmoaaDoor.pure
set_option linter.unusedVariables false

theorem gTab : Tryd.prog.globalNamed "internal/strconv.uint64pow10" = some 2 := by kernel_rfl
theorem gSyn : Tryd.prog.globalNamed "strconv.ErrSyntax" = some 0 := by kernel_rfl
theorem gRng : Tryd.prog.globalNamed "strconv.ErrRange" = some 1 := by kernel_rfl
theorem gMax : Tryd.prog.globalNamed "internal/bytealg.MaxLen" = some 3 := by kernel_rfl

/-- What the library's functions want of the variables that they read. -/
structure Env (w : World) : Prop where
  tab : Lib.TabIs Tryd.prog w "internal/strconv.uint64pow10" .u64 Lib.pow10Tab
  max : ∃ m, w.cell? ⟨3, 0, none⟩ = some (.int .i64 m)
  syn : ∃ tp p, w.var? Tryd.prog "strconv.ErrSyntax" = some #[.iface tp p]
  rng : ∃ tp p, w.var? Tryd.prog "strconv.ErrRange" = some #[.iface tp p]
  siz : 4 ≤ w.heap.size

theorem Env.below {w w' : World} (E : Env w) (h : Below w.heap.size w w') : Env w' :=
  have hs := E.siz
  ⟨var?_below h gTab (by omega) E.tab, by obtain ⟨m, hm⟩ := E.max; exact ⟨m, (h.cell (p := ⟨3, 0, none⟩) (by show 3 < w.heap.size; omega)).trans hm⟩,
   by obtain ⟨tp, p, hv⟩ := E.syn; exact ⟨tp, p, var?_below h gSyn (by omega) hv⟩, by obtain ⟨tp, p, hv⟩ := E.rng; exact ⟨tp, p, var?_below h gRng (by omega) hv⟩,
   Nat.le_trans E.siz h.size⟩

/-- An int's bounds, behind a name. -/
def I64 (n : Int) : Prop := -9223372036854775808 ≤ n ∧ n ≤ 9223372036854775807

theorem itoa_any (n : Int) (h : I64 n) (w : World) (E : Env w) :
    Calls Tryd.prog 20 #[.int .i64 n] w fun e w' => e = .returned (.string ⟨(Lib.itoa n).toArray⟩) ∧ Below w.heap.size w w' :=
  (Any.strconv_Itoa Tryd.laysM171 n h.1 h.2 w E.tab).mono fun e w' ⟨he, k, os, hw⟩ => ⟨he, by rw [hw]; exact Lib.below_grow _ _ (Nat.le_refl _) _ _⟩

theorem wr_bytes (a b : Int) : (⟨(Lib.itoa a).toArray⟩ : ByteArray) ++ ⟨#[62]⟩ ++ ⟨(Lib.itoa b).toArray⟩ = ⟨(wr a b).toArray⟩ := by
  unfold wr
  apply ByteArray.ext
  simp

set_option maxHeartbeats 400000 in
theorem write_any (a b : Int) (ha : I64 a) (hb : I64 b) (w : World) (E : Env w) :
    Calls Tryd.prog 16 #[.agg #[.int .i64 a, .int .i64 b]] w fun e w' => e = .returned (.string ⟨(wr a b).toArray⟩) ∧ Below w.heap.size w w' := by
  have bw : Below w.heap.size w (w.alloc (.cells #[.int .i64 a, .int .i64 b] 23)) := (Below.refl _ _).alloc (Nat.le_refl _) _
  have cN : ∀ n d os, I64 n → Calls Tryd.prog 20 #[.int .i64 n] (grow (redrawn (w.alloc (.cells #[.int .i64 a, .int .i64 b] 23)) d) os) fun e w'' => e = .returned (.string ⟨(Lib.itoa n).toArray⟩) ∧ ∃ p : Regrown, w'' = grow (redrawn (w.alloc (.cells #[.int .i64 a, .int .i64 b] 23)) p.d) p.os :=
    fun n d os hn => Calls.regrown_of (itoa_any n hn _ ((E.below bw).below (below_regrown _ d os)))
  have k0 := cell_regrown (w := w.alloc (.cells #[.int .i64 a, .int .i64 b] 23)) (a := ⟨w.heap.size, 0, none⟩) (v := .int .i64 a) (by simp)
  have k1 := cell_regrown (w := w.alloc (.cells #[.int .i64 a, .int .i64 b] 23)) (a := ⟨w.heap.size, 1, none⟩) (v := .int .i64 b) (by simp)
  have la := Lib.itoa_length_le a ha.1 ha.2
  have lb := Lib.itoa_length_le b hb.1 hb.2
  have n1 : ¬ 9223372036854775807 < (Lib.itoa a).length + 1 := by omega
  have n2 : ¬ 9223372036854775807 < (Lib.itoa a).length + 1 + (Lib.itoa b).length := by omega
  go_enter Tryd.func16, Tryd.ntmps16
  go_wp2
  refine wp_region_quiet_below (by kernel_rfl) (by kernel_rfl) ?_
  repeat (quiet_step (first | exact cN _ _ _ (by assumption)))
  refine wpQuiet_nil ?_
  intro _ hw'
  obtain ⟨⟨dq, osq⟩, hw''⟩ := hw'
  subst hw''
  go_wp2
  go_ret
  refine ⟨?_, bw.trans ((below_regrown _ dq osq).mono (by simp))⟩
  show Ending.returned (.string ((⟨(Lib.itoa a).toArray⟩ : ByteArray) ++ ⟨#[62]⟩ ++ ⟨(Lib.itoa b).toArray⟩)) = _
  rw [wr_bytes]
end Go.Proofs.YtdbilofhcadmoaaDoor.key
