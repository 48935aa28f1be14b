/- The contract of memory's Check. -/
import Derived.Test.YtdbilofhcadmoabC03
import Derived.Lib.SmallJoins
import Derived.Lib.BufferMore
namespace Go.Proofs.Ytdbilofhcadmoab.mm
open Go.ChangeShapes Go.WideShapes Go.ChangeAt Go.RowKit
set_option linter.unusedVariables false

set_option maxHeartbeats 1600000 in
theorem check_any (M : Mm) (aS aH aF aL : Option Addr) (cS cH cF cL : Nat) (w : World) (A : At w aS aH aF aL cS cH cF cL M) :
    Calls Try.prog 49 #[.agg #[.slice aS M.slots.length cS, .slice aH M.heads.length cH, .slice aF M.free.length cF, .slice aL M.locks.length cL, .int .i64 M.now]] w fun e w' =>
      e = .returned (.int .i64 (chk M)) ∧ Below w.heap.size w w' := by
  have m1 := A.s.max; have m2 := A.s.le; have m3 := A.h.max; have m4 := A.h.le; have m5 := A.l.max; have m6 := A.l.le
  have n1 : M.slots.length ≤ 9223372036854775807 := by omega
  have n2 : M.heads.length ≤ 9223372036854775807 := by omega
  have n3 : M.locks.length ≤ 9223372036854775807 := by omega
  clear m1 m2 m3 m4 m5 m6
  by_cases h1 : 12 < M.slots.length
  · have HV : Hid (chk M = 2) := by show _ = _; unfold chk; rw [if_pos (.inl h1)]
    go_enter Try.func49, Try.ntmps49
    go_wp2
    go_ret
    exact ⟨ret_int HV.out.symm, one_below _ _⟩
  cases h2 : inB (M.heads.length : Int) 1 4
  · have HV : Hid (chk M = 2) := by
      show _ = _; unfold chk
      have : ¬ (1 ≤ (M.heads.length : Int) ∧ (M.heads.length : Int) ≤ 4) := fun hh => by rw [(inB_iff _ _ _).2 hh] at h2; cases h2
      rw [if_pos (by omega)]
    go_enter Try.func49, Try.ntmps49
    go_wp2_with (go_at_call 81; refine (within_any _ _ _ _).mono ?_; rintro e w1 ⟨rfl, rfl⟩)
    go_ret
    exact ⟨ret_int HV.out.symm, one_below _ _⟩
  have h2' := (inB_iff _ _ _).1 h2
  by_cases h3 : M.locks.length = M.heads.length
  rotate_left
  · have HV : Hid (chk M = 4) := by
      show _ = _; unfold chk
      rw [if_neg (by omega), if_pos h3]
    have h3' : ((M.locks.length : Int) != (M.heads.length : Int)) = true := by rw [bne_iff_ne]; omega
    go_enter Try.func49, Try.ntmps49
    go_wp2_with (go_at_call 81; refine (within_any _ _ _ _).mono ?_; rintro e w1 ⟨rfl, rfl⟩)
    go_ret
    exact ⟨ret_int HV.out.symm, one_below _ _⟩
  have h3' : ((M.locks.length : Int) != (M.heads.length : Int)) = false := by rw [h3]; simp
  have H3 : Hid (M.locks.length = M.heads.length) := h3
  clear h3
  cases h4 : inB M.now 0 1000000
  · have HV : Hid (chk M = 3) := by
      show _ = _; unfold chk
      rw [if_neg (by omega), if_neg (by simpa using H3.out), if_pos h4]
    go_enter Try.func49, Try.ntmps49
    go_wp2_with (go_at_call 81; refine (within_any _ _ _ _).mono ?_; rintro e w1 ⟨rfl, rfl⟩)
    go_ret
    exact ⟨ret_int HV.out.symm, one_below _ _⟩
  have HC : Hid (chk M = (if firstE (slotErr M.heads.length M.slots.length) M.slots ≠ 0 then firstE (slotErr M.heads.length M.slots.length) M.slots
      else if firstE (chainErr M.heads.length M.slots.length) (M.heads.zip M.locks) ≠ 0 then firstE (chainErr M.heads.length M.slots.length) (M.heads.zip M.locks)
      else if freeErr M.slots [] M.free ≠ 0 then freeErr M.slots [] M.free
      else lostErr M.free 0 M.slots)) := by
    show _ = _
    unfold chk
    rw [if_neg (by omega), if_neg (by simpa using H3.out), if_neg (by rw [h4]; simp)]
  have A1 := A.below (one_below w (.cells #[.slice aS M.slots.length cS, .slice aH M.heads.length cH, .slice aF M.free.length cF, .slice aL M.locks.length cL, .int .i64 M.now] 25))
  have HA1 : Hid _ := A1
  clear A A1
  go_enter Try.func49, Try.ntmps49
  go_wp2_with (go_at_call 81; refine (within_any _ _ _ _).mono ?_; rintro e w1 ⟨rfl, rfl⟩)
  refine (checkSlots_any M aS aH aF aL cS cH cF cL _ HA1.out).mono ?_
  rintro e w1 ⟨rfl, hb1⟩
  have HA2 : Hid _ := HA1.out.below hb1
  have hx1 := (one_below w (.cells #[.slice aS M.slots.length cS, .slice aH M.heads.length cH, .slice aF M.free.length cF, .slice aL M.locks.length cL, .int .i64 M.now] 25)).trans (hb1.mono (by simp))
  have hy1 := hb1.mono (show w.heap.size + 1 ≤ _ by simp)
  clear hb1 HA1
  obtain ⟨q0, q1, q2, q3, q4, q5⟩ := box_cells hy1
  generalize hE1 : firstE (slotErr M.heads.length M.slots.length) M.slots = E1
  have HE1 : Hid _ := hE1
  clear hE1
  by_cases e1 : E1 = 0
  rotate_left
  · have e1' : (E1 != 0) = true := by simpa using e1
    have HV : Hid (chk M = E1) := by
      show _ = _
      rw [HC.out, HE1.out, if_pos e1]
    go_wp2
    go_ret
    exact ⟨ret_int HV.out.symm, hx1⟩
  subst e1
  go_wp2_with fail
  refine (checkChains_any M aS aH aF aL cS cH cF cL _ HA2.out H3.out).mono ?_
  rintro e w2 ⟨rfl, hb2⟩
  have HA3 : Hid _ := HA2.out.below hb2
  have hx2 := hx1.trans (hb2.mono hx1.size)
  have hy2 := hy1.trans (hb2.mono q5)
  clear hb2 HA2 q0 q1 q2 q3 q4 q5
  obtain ⟨q0, q1, q2, q3, q4, q5⟩ := box_cells hy2
  generalize hE2 : firstE (chainErr M.heads.length M.slots.length) (M.heads.zip M.locks) = E2
  have HE2 : Hid _ := hE2
  clear hE2
  by_cases e2 : E2 = 0
  rotate_left
  · have e2' : (E2 != 0) = true := by simpa using e2
    have HV : Hid (chk M = E2) := by
      show _ = _
      rw [HC.out, HE1.out, HE2.out, if_neg (by simp), if_pos e2]
    go_wp2
    go_ret
    exact ⟨ret_int HV.out.symm, hx2⟩
  subst e2
  go_wp2_with fail
  refine (checkFree_any M aS aH aF aL cS cH cF cL _ HA3.out).mono ?_
  rintro e w3 ⟨rfl, hb3⟩
  have hx3 := hx2.trans (hb3.mono hx2.size)
  generalize hE3 : (if freeErr M.slots [] M.free ≠ 0 then freeErr M.slots [] M.free else lostErr M.free 0 M.slots) = E3
  have HV : Hid (chk M = E3) := by
    show _ = _
    rw [HC.out, HE1.out, HE2.out, if_neg (by simp), if_neg (by simp), hE3]
  clear hE3
  go_wp2
  go_ret
  exact ⟨ret_int HV.out.symm, hx3⟩



end Go.Proofs.Ytdbilofhcadmoab.mm

/- Copies of lists: the contracts of listOf; blocks that are one's own. -/
namespace Go.Proofs.Ytdbilofhcadmoab.mm
open Go.ChangeShapes Go.WideShapes Go.ChangeAt Go.RowKit Go.Joins
set_option linter.unusedVariables false
set_option maxRecDepth 100000

def Sl.enc (s : Sl) : List Value := [.int .i64 s.refs, .int .i64 s.a, .int .i64 s.b, .int .i64 s.unt, .bool s.inn, .int .i64 s.next]
def encS (l : List Sl) : List Value := l.flatMap Sl.enc
def encI (l : List Int) : List Value := l.map (Value.int .i64)

theorem encS_cons (s : Sl) (l : List Sl) : encS (s :: l) = s.enc ++ encS l := by simp [encS]
theorem encS_len (l : List Sl) : (encS l).length = l.length * 6 := by
  induction l with
  | nil => rfl
  | cons s l ih => rw [encS_cons, List.length_append, ih]; simp [Sl.enc]; omega
theorem encI_len (l : List Int) : (encI l).length = l.length := by simp [encI]
theorem encS_get (l : List Sl) (i q : Nat) (h : i < l.length) (hq : q < 6) : (encS l)[i * 6 + q]? = (l[i].enc)[q]? := by
  induction l generalizing i with
  | nil => simp at h
  | cons s l ih =>
    rw [encS_cons]
    match i with
    | 0 =>
      rw [List.getElem?_append_left (by simp [Sl.enc]; omega)]
      simp
    | i + 1 =>
      rw [List.getElem?_append_right (by simp [Sl.enc]; omega)]
      have hl : s.enc.length = 6 := rfl
      rw [hl, show (i + 1) * 6 + q - 6 = i * 6 + q by omega, ih i (by simpa using h)]
      simp
theorem encS_one (l : List Sl) : ∀ u ∈ encS l, u.oneCell' = true := by
  intro u hu
  simp only [encS, List.mem_flatMap, Sl.enc, List.mem_cons, List.not_mem_nil, or_false] at hu
  obtain ⟨s, _, h | h | h | h | h | h⟩ := hu <;> (subst h; rfl)
theorem encI_one (l : List Int) : ∀ u ∈ encI l, u.oneCell' = true := by
  intro u hu
  simp only [encI, List.mem_map] at hu
  obtain ⟨s, _, rfl⟩ := hu; rfl

theorem SRow.flat {w : World} {b o cap : Nat} {S : List Sl} (r : SRow w (some ⟨b, o, none⟩) cap S) : ∀ j u, (encS S)[j]? = some u → w.cell? ((⟨b, o, none⟩ : Addr).add j) = some u := by
  intro j u hu
  have hj : j < S.length * 6 := by
    rw [← encS_len]
    exact (List.getElem?_eq_some_iff.1 hu).1
  rcases r.at_ with h0 | ⟨b', o', e, hc⟩
  · omega
  cases e
  have hi : j / 6 < S.length := by omega
  have e6 : j / 6 * 6 + j % 6 = j := by omega
  have hq : j % 6 < 6 := by omega
  obtain ⟨c0, c1, c2, c3, c4, c5⟩ := hc (j / 6) hi
  rw [← e6, encS_get S _ _ hi hq] at hu
  rw [Addr.add_lit, ← e6]
  generalize j / 6 = i at *
  generalize j % 6 = q at *
  rw [← Nat.add_assoc]
  simp only [Sl.enc] at hu
  match q, hq with
  | 0, _ => simp at hu; subst hu; exact c0
  | 1, _ => simp at hu; subst hu; exact c1
  | 2, _ => simp at hu; subst hu; exact c2
  | 3, _ => simp at hu; subst hu; exact c3
  | 4, _ => simp at hu; subst hu; exact c4
  | 5, _ => simp at hu; subst hu; exact c5

theorem IRow.flat {w : World} {b o cap : Nat} {l : List Int} (r : IRow w (some ⟨b, o, none⟩) cap l) : ∀ j u, (encI l)[j]? = some u → w.cell? ((⟨b, o, none⟩ : Addr).add j) = some u := by
  intro j u hu
  have hj : j < l.length := by
    rw [← encI_len]
    exact (List.getElem?_eq_some_iff.1 hu).1
  rcases r.at_ with h0 | ⟨b', o', e, hc⟩
  · omega
  cases e
  simp only [encI, List.getElem?_map, List.getElem?_eq_getElem hj, Option.map_some, Option.some.injEq] at hu
  subst hu
  rw [Addr.add_lit]
  exact hc j hj

theorem SRow.src {w : World} {ao : Option Addr} {cap : Nat} {S : List Sl} (r : SRow w ao cap S) : ∀ ad, ao = some ad → ∀ j u, (encS S)[j]? = some u → w.cell? (ad.add j) = some u := by
  rintro ad rfl j u hu
  rcases r.at_ with h0 | ⟨b, o, e, hc⟩
  · have := (List.getElem?_eq_some_iff.1 hu).1
    rw [encS_len] at this
    omega
  · cases e
    exact r.flat j u hu
theorem IRow.src {w : World} {ao : Option Addr} {cap : Nat} {l : List Int} (r : IRow w ao cap l) : ∀ ad, ao = some ad → ∀ j u, (encI l)[j]? = some u → w.cell? (ad.add j) = some u := by
  rintro ad rfl j u hu
  rcases r.at_ with h0 | ⟨b, o, e, hc⟩
  · have := (List.getElem?_eq_some_iff.1 hu).1
    rw [encI_len] at this
    omega
  · cases e
    exact r.flat j u hu

/- A row of cells, as a list of slots or of ints. -/
theorem SRow.mk_cells {w : World} {b cap : Nat} {S : List Sl} (hl : S.length ≤ cap) (hm : S.length * 48 ≤ 140737488351232) (hc : ∀ j, j < S.length * 6 → w.cell? ⟨b, j, none⟩ = (encS S)[j]?) : SRow w (some ⟨b, 0, none⟩) cap S := by
  refine ⟨hl, hm, (fun h => by cases h), .inr ⟨b, 0, rfl, fun i hi => ?_⟩⟩
  have e : ∀ q, q < 6 → w.cell? ⟨b, 0 + i * 6 + q, none⟩ = (S[i].enc)[q]? := fun q hq => by
    rw [Nat.zero_add, hc _ (by omega), encS_get S i q hi hq]
  exact ⟨e 0 (by omega), e 1 (by omega), e 2 (by omega), e 3 (by omega), e 4 (by omega), e 5 (by omega)⟩
theorem IRow.mk_cells {w : World} {b cap : Nat} {l : List Int} (hl : l.length ≤ cap) (hm : l.length * 8 ≤ 140737488351232) (hc : ∀ j, j < l.length → w.cell? ⟨b, j, none⟩ = (encI l)[j]?) : IRow w (some ⟨b, 0, none⟩) cap l := by
  refine ⟨hl, hm, (fun h => by cases h), .inr ⟨b, 0, rfl, fun i hi => ?_⟩⟩
  rw [Nat.zero_add, hc i hi]
  simp [encI, hi]
theorem SRow.of_block {w : World} {b : Nat} {S : List Sl} (hb : w.heap[b]? = some (.cells (encS S).toArray 39 (0, 0))) (hm : S.length * 48 ≤ 140737488351232) : SRow w (some ⟨b, 0, none⟩) S.length S :=
  .mk_cells (Nat.le_refl _) hm fun j hj => by rw [cell_of_block hb]; simp
theorem IRow.of_block {w : World} {b : Nat} {l : List Int} (hb : w.heap[b]? = some (.cells (encI l).toArray 3 (0, 0))) (hm : l.length * 8 ≤ 140737488351232) : IRow w (some ⟨b, 0, none⟩) l.length l :=
  .mk_cells (Nat.le_refl _) hm fun j hj => by rw [cell_of_block hb]; simp

theorem SRow.of_own {w : World} {base n : Nat} {v : Value} {S : List Sl} (h : w.ownsRow base 39 6 v n (encS S)) (hm : S.length * 48 ≤ 140737488351232) : ∃ ao cap, v = .slice ao S.length cap ∧ SRow w ao cap S := by
  have hl := h.1
  rw [encS_len] at hl
  have hn : S.length = n := by omega
  subst hn
  rcases h.2 with ⟨rfl, h0⟩ | ⟨g, cap, cur, rfl, hg, hb, hc, -, hs, ht⟩
  · exact ⟨none, 0, by rw [h0], by omega, hm, fun _ => rfl, .inl h0⟩
  · exact ⟨_, _, rfl, .mk_cells hc hm fun j hj => h.cellAt j hj⟩
theorem IRow.of_own {w : World} {base n : Nat} {v : Value} {l : List Int} (h : w.ownsRow base 3 1 v n (encI l)) (hm : l.length * 8 ≤ 140737488351232) : ∃ ao cap, v = .slice ao l.length cap ∧ IRow w ao cap l := by
  have hl := h.1
  rw [encI_len] at hl
  have hn : l.length = n := by omega
  subst hn
  rcases h.2 with ⟨rfl, h0⟩ | ⟨g, cap, cur, rfl, hg, hb, hc, -, hs, ht⟩
  · exact ⟨none, 0, by rw [h0], by omega, hm, fun _ => rfl, .inl h0⟩
  · exact ⟨_, _, rfl, .mk_cells hc hm fun j hj => h.cellAt j (by omega)⟩

theorem block_of_own {w : World} {base g n size : Nat} {e : TypeId} {xs : List Value} (h : w.ownsRow base e size (.slice (some ⟨g, 0, none⟩) n n) n xs) : w.heap[g]? = some (.cells xs.toArray e (0, 0)) := by
  rcases h.2 with ⟨h0, _⟩ | ⟨g', cap, cur, hv, hg, hb, hc, -, hs, ht⟩
  · cases h0
  · injection hv with h1 h2 h3
    injection h1 with h1
    injection h1 with h1
    subst h1 h3
    rw [hb]
    have : cur.toList = xs := by rw [← ht, List.take_of_length_le (by simp [hs])]
    rw [← this]

theorem iI : (Try.prog.info? 3).map (fun i => (i.zero, i.size, i.bytes)) = some (some (.int .i64 0), 1, 8) := by kernel_rfl
theorem iS : (Try.prog.info? 39).map (fun i => (i.zero, i.size, i.bytes)) = some (some (.agg #[.int .i64 0, .int .i64 0, .int .i64 0, .int .i64 0, .bool false, .int .i64 0]), 6, 48) := by kernel_rfl

theorem own_below {w w' : World} {lo size n : Nat} {e : TypeId} {v : Value} {xs : List Value} (h : w.ownsRow lo e size v n xs) (hb : Below w.heap.size w w') : w'.ownsRow lo e size v n xs :=
  h.kept (row := none) ⟨hb.os, hb.tape, hb.output, hb.size, fun k hk _ => hb.block k hk⟩ (by cases hv : v.ownBlock <;> simp)

set_option maxHeartbeats 800000 in
theorem listI_some (ad : Addr) (cap : Nat) (l : List Int) (w : World) (r : IRow w (some ad) cap l) :
    Calls Try.prog 147 #[.slice (some ad) l.length cap] w fun e w' => e = .returned (.slice (some ⟨w.heap.size, 0, none⟩) l.length l.length) ∧ w'.ownsRow w.heap.size 3 1 (.slice (some ⟨w.heap.size, 0, none⟩) l.length l.length) l.length (encI l) ∧ Below w.heap.size w w' := by
  obtain ⟨i0, hi, hz0, hz1, hz2⟩ := info_parts iI
  have m1 := r.max
  have m2 := r.le
  have HS : Hid _ := r.src
  have HN : Hid _ := r.nil
  clear r
  have q24 : ∀ (w : World) (a : Option Addr) (n c : Nat), (binOp .eql 23 (.slice a n c) (.slice none 0 0)).run Try.prog w = .ok (.bool a.isNone) w := fun w a n c => Lib.run_eql_slice_nil w _ _ a n c 0 0 Try.underlying23
  go_enter Try.func147, Try.ntmps147
  go_wp2_with (first
    | (at_make; refine wpList_make_own _ rfl _ _ 23 rfl w.heap.size 3 i0 (.int .i64 0) 1 Try.underlying23 hi hz0 hz1 .i64 .i64 _ l.length rfl rfl rfl (by rw [hz2]; omega) (by unfold maxLen; omega) (Nat.le_refl _) ?_; intro w1 hown hgrow)
    | (at_builtin; refine wpList_append_fits_any _ rfl _ _ 23 rfl w.heap.size 3 i0 1 Try.underlying23 hi hz1 w.heap.size 0 l.length _ rfl hown (some ad) l.length cap (encI l) rfl (by rw [encI_len]; omega) (fun h => by have := HN.out h; omega) (fun ad h j u hj => hgrow.cell (HS.out ad h j u hj) (by intro hh; cases hh)) (encI_one l) (by omega) ?_; intro w2 hown2 hgrow2))
  go_ret
  simp only [Nat.zero_add, List.nil_append] at hown2
  refine ⟨by simp, hown2, ?_⟩
  have := ((Below.refl w.heap.size w).grown hgrow (Nat.le_refl _) (fun k h => by cases h))
  exact this.grown hgrow2 hgrow.size (fun k h => by cases h; exact Nat.le_refl _)

set_option maxHeartbeats 800000 in
theorem listS_some (ad : Addr) (cap : Nat) (l : List Sl) (w : World) (r : SRow w (some ad) cap l) :
    Calls Try.prog 146 #[.slice (some ad) l.length cap] w fun e w' => e = .returned (.slice (some ⟨w.heap.size, 0, none⟩) l.length l.length) ∧ w'.ownsRow w.heap.size 39 6 (.slice (some ⟨w.heap.size, 0, none⟩) l.length l.length) l.length (encS l) ∧ Below w.heap.size w w' := by
  obtain ⟨i0, hi, hz0, hz1, hz2⟩ := info_parts iS
  have m1 := r.max
  have m2 := r.le
  have HS : Hid _ := r.src
  have HN : Hid _ := r.nil
  clear r
  have q27 : ∀ (w : World) (a : Option Addr) (n c : Nat), (binOp .eql 22 (.slice a n c) (.slice none 0 0)).run Try.prog w = .ok (.bool a.isNone) w := fun w a n c => Lib.run_eql_slice_nil w _ _ a n c 0 0 Try.underlying22
  go_enter Try.func146, Try.ntmps146
  go_wp2_with (first
    | (at_make; refine wpList_make_own _ rfl _ _ 22 rfl w.heap.size 39 i0 (.agg #[.int .i64 0, .int .i64 0, .int .i64 0, .int .i64 0, .bool false, .int .i64 0]) 6 Try.underlying22 hi hz0 hz1 .i64 .i64 _ l.length rfl rfl rfl (by rw [hz2]; omega) (by unfold maxLen; omega) (Nat.le_refl _) ?_; intro w1 hown hgrow)
    | (at_builtin; refine wpList_append_fits_any _ rfl _ _ 22 rfl w.heap.size 39 i0 6 Try.underlying22 hi hz1 w.heap.size 0 l.length _ rfl hown (some ad) l.length cap (encS l) rfl (encS_len l) (fun h => by have := HN.out h; omega) (fun ad h j u hj => hgrow.cell (HS.out ad h j u hj) (by intro hh; cases hh)) (encS_one l) (by omega) ?_; intro w2 hown2 hgrow2))
  go_ret
  simp only [Nat.zero_add, List.nil_append] at hown2
  refine ⟨by simp, hown2, ?_⟩
  have := ((Below.refl w.heap.size w).grown hgrow (Nat.le_refl _) (fun k h => by cases h))
  exact this.grown hgrow2 hgrow.size (fun k h => by cases h; exact Nat.le_refl _)

theorem listI_none (w : World) : Calls Try.prog 147 #[.slice none 0 0] w fun e w' => e = .returned (.slice none 0 0) ∧ w = w' := by
  have q24 : ∀ (w : World) (a : Option Addr) (n c : Nat), (binOp .eql 23 (.slice a n c) (.slice none 0 0)).run Try.prog w = .ok (.bool a.isNone) w := fun w a n c => Lib.run_eql_slice_nil w _ _ a n c 0 0 Try.underlying23
  go_enter Try.func147, Try.ntmps147
  go_wp2
  go_ret
  exact ⟨rfl, rfl⟩
theorem listS_none (w : World) : Calls Try.prog 146 #[.slice none 0 0] w fun e w' => e = .returned (.slice none 0 0) ∧ w = w' := by
  have q27 : ∀ (w : World) (a : Option Addr) (n c : Nat), (binOp .eql 22 (.slice a n c) (.slice none 0 0)).run Try.prog w = .ok (.bool a.isNone) w := fun w a n c => Lib.run_eql_slice_nil w _ _ a n c 0 0 Try.underlying22
  go_enter Try.func146, Try.ntmps146
  go_wp2
  go_ret
  exact ⟨rfl, rfl⟩

theorem listI_any (ao : Option Addr) (cap : Nat) (l : List Int) (w : World) (r : IRow w ao cap l) :
    Calls Try.prog 147 #[.slice ao l.length cap] w fun e w' => ∃ a c, e = .returned (.slice a l.length c) ∧ w'.ownsRow w.heap.size 3 1 (.slice a l.length c) l.length (encI l) ∧ Below w.heap.size w w' := by
  cases ao with
  | some ad =>
    refine (listI_some ad cap l w r).mono ?_
    rintro e w' ⟨rfl, h1, h2⟩
    exact ⟨_, _, rfl, h1, h2⟩
  | none =>
    have hc := r.nil rfl
    have hl : l = [] := List.eq_nil_of_length_eq_zero (by have := r.le; omega)
    subst hc hl
    refine (listI_none w).mono ?_
    rintro e w' ⟨rfl, rfl⟩
    exact ⟨_, _, rfl, World.ownsRow_nil _ _ _ _, Below.refl _ _⟩
theorem listS_any (ao : Option Addr) (cap : Nat) (l : List Sl) (w : World) (r : SRow w ao cap l) :
    Calls Try.prog 146 #[.slice ao l.length cap] w fun e w' => ∃ a c, e = .returned (.slice a l.length c) ∧ w'.ownsRow w.heap.size 39 6 (.slice a l.length c) l.length (encS l) ∧ Below w.heap.size w w' := by
  cases ao with
  | some ad =>
    refine (listS_some ad cap l w r).mono ?_
    rintro e w' ⟨rfl, h1, h2⟩
    exact ⟨_, _, rfl, h1, h2⟩
  | none =>
    have hc := r.nil rfl
    have hl : l = [] := List.eq_nil_of_length_eq_zero (by have := r.le; omega)
    subst hc hl
    refine (listS_none w).mono ?_
    rintro e w' ⟨rfl, rfl⟩
    exact ⟨_, _, rfl, World.ownsRow_nil _ _ _ _, Below.refl _ _⟩




end Go.Proofs.Ytdbilofhcadmoab.mm
