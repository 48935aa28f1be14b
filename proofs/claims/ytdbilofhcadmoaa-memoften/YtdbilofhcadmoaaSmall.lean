/- Contracts of the numbers that stand behind slots: ToSlot, ToEnd, SlotOf, HasChain; append onto a row of one's own as one step of a region that draws. -/
import Derived.Test.YtdbilofhcadmoaaBase
import Derived.Test.YtdbilofhcadmoaaPureE
import Derived.Deep.RegionLaw
import Derived.Maps.AppendAt
namespace Go.Proofs.Ytdbilofhcadmoaa.mm
open Go.ChangeShapes Go.WideShapes Go.ChangeAt Go.RowKit
set_option linter.unusedVariables false

theorem toEnd_any (b : Int) (w : World) (h0 : 0 ≤ b) (h1 : b ≤ 1000) : Calls Try.prog 57 #[.int .i64 b] w fun e w' => e = .returned (.int .i64 (-1 - b)) ∧ w = w' := by
  go_enter Try.func57, Try.ntmps57
  go_wp2
  go_ret
  exact ⟨by go_num, rfl⟩
theorem toSlot_any (b : Int) (w : World) (h0 : 0 ≤ b) (h1 : b ≤ 1000) : Calls Try.prog 90 #[.int .i64 b] w fun e w' => e = .returned (.int .i64 (b + 1)) ∧ w = w' := by
  go_enter Try.func90, Try.ntmps90
  go_wp2
  go_ret
  exact ⟨by go_num, rfl⟩
theorem slotOf_no (n : Int) (w : World) (h : n ≤ 0) : Calls Try.prog 87 #[.int .i64 n] w fun e w' => e = .returned (.tuple #[.int .i64 0, .bool false]) ∧ w = w' := by
  go_enter Try.func87, Try.ntmps87
  go_wp2
  go_ret2
  exact ⟨rfl, rfl⟩
theorem slotOf_is (n : Int) (w : World) (h : 0 < n) (h1 : n ≤ 1000) : Calls Try.prog 87 #[.int .i64 n] w fun e w' => e = .returned (.tuple #[.int .i64 (n - 1), .bool true]) ∧ w = w' := by
  go_enter Try.func87, Try.ntmps87
  go_wp2
  go_ret2
  exact ⟨by go_num, rfl⟩
theorem hasChain_any (aS aH aF aL : Option Addr) (nS nH nF nL cS cH cF cL : Nat) (now a : Int) (w : World) (hn : nH ≤ 9223372036854775807) :
    Calls Try.prog 69 #[.agg #[.slice aS nS cS, .slice aH nH cH, .slice aF nF cF, .slice aL nL cL, .int .i64 now], .int .i64 a] w fun e w' => e = .returned (.bool (inB a 0 ((nH : Int) - 1))) ∧ Below w.heap.size w w' := by
  by_cases h : 0 ≤ a
  · by_cases h2 : a < nH
    · go_enter Try.func69, Try.ntmps69
      go_wp2
      go_ret
      refine ⟨?_, one_below _ _⟩
      rw [show inB a 0 ((nH : Int) - 1) = true from (inB_iff _ _ _).2 ⟨h, by omega⟩]; rfl
    · have h3 : (nH : Int) ≤ a := by omega
      go_enter Try.func69, Try.ntmps69
      go_wp2
      go_ret
      refine ⟨?_, one_below _ _⟩
      rw [show inB a 0 ((nH : Int) - 1) = false by simp [inB]; omega]; rfl
  · have h' : a < 0 := by omega
    go_enter Try.func69, Try.ntmps69
    go_wp2
    go_ret
    refine ⟨?_, one_below _ _⟩
    rw [show inB a 0 ((nH : Int) - 1) = false by simp [inB]; omega]; rfl

theorem step_append_own_at {P : Program} (w : World) {ops : Array Oper} {o : Oper} {a : Act} {K : Act → World → Prop} {Q : Exit → Act → World → Prop} {E : Prop} (hgd : o.guard = none) (s x : Operand) (t : TypeId)
    (ho : o.op = .call { callee := .builtin .append, args := #[s, x], argTypes := #[t, t] })
    (base : Nat) (e : TypeId) (i : TypeInfo) (z : Value) (size bytes : Nat) (ht : P.underlying t = some (.slice e)) (hi : P.info? e = some i) (hz : i.zero = some z)
    (hsize : i.size = size) (hby : i.bytes = bytes) (hzs : z.cells.size = size) (hsz : 0 < size)
    (v : Value) (n : Nat) (xs : List Value) (hs : a.eval s = v) (hown : w.ownsRow base e size v n xs)
    (ad : Addr) (m c : Nat) (news : List Value) (hx : a.eval x = .slice (some ad) m c) (hl : news.length = m * size) (hnews : ∀ j u, news[j]? = some u → w.cell? (ad.add j) = some u) (h1 : ∀ u ∈ news, u.oneCell' = true)
    (h63 : n + m ≤ maxLen) (hbytes : (n + m) * bytes ≤ 140737488355328) (hbase : base ≤ w.heap.size)
    (h : ∀ v' w', w'.ownsRow base e size v' (n + m) (xs ++ news) → w.grownBy w' v.ownBlock → (v' = .slice none 0 0 ↔ v = .slice none 0 0 ∧ m = 0) → (v'.ownBlock = v.ownBlock ∨ v'.ownBlock = some w.heap.size) → K (a.put o.dst v') w') :
    if Region.wanted o (yielded ops a.tmps) = true then Oper.wp P o a w K Q else E := by
  have hw : Region.wanted o (yielded ops a.tmps) = true := by simp [Region.wanted, hgd]
  rw [if_pos hw]
  obtain ⟨v', w', hr, h2, h3, h4, h5⟩ := run_append_own_at (P := P) w base t o.type e i z size bytes ht hi hz hsize hby hzs hsz v n xs hown ad m c news hl hnews h1 h63 hbytes hbase
  unfold Oper.wp execOp
  simp only [ho, resolve, invoke, builtin, Sem.run_bind, Sem.run_pure, Result.andThen_ok, List.map_toArray, List.map_cons, List.map_nil, hs, hx, hr]
  exact h v' w' h2 h3 h4 h5


end Go.Proofs.Ytdbilofhcadmoaa.mm
