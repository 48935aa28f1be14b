/- Copies of lists: the contracts of listOf; blocks that are one's own. -/
import Derived.Test.YtdbilofhcadmoaaCheck
import Derived.Lib.SmallJoins
import Derived.Lib.BufferMore
namespace Go.Proofs.Ytdbilofhcadmoaa.mm
open Go.ChangeShapes Go.WideShapes Go.ChangeAt Go.RowKit Go.Joins
set_option linter.unusedVariables false
set_option maxRecDepth 100000

def Sl.enc (s : Sl) : List Value := [.int .i64 s.refs, .int .i64 s.a, .int .i64 s.b, .int .i64 s.unt, .bool s.inn, .int .i64 s.next]
def encS (l : List Sl) : List Value := l.flatMap Sl.enc
def encI (l : List Int) : List Value := l.map (Value.int .i64)

theorem encS_cons (s : Sl) (l : List Sl) : encS (s :: l) = s.enc ++ encS l := by simp [encS]
theorem encS_len (l : List Sl) : (encS l).length = l.length * 6 := by
  induction l with
  | nil => rfl
  | cons s l ih => rw [encS_cons, List.length_append, ih]; simp [Sl.enc]; omega
theorem encI_len (l : List Int) : (encI l).length = l.length := by simp [encI]
theorem encS_get (l : List Sl) (i q : Nat) (h : i < l.length) (hq : q < 6) : (encS l)[i * 6 + q]? = (l[i].enc)[q]? := by
  induction l generalizing i with
  | nil => simp at h
  | cons s l ih =>
    rw [encS_cons]
    match i with
    | 0 =>
      rw [List.getElem?_append_left (by simp [Sl.enc]; omega)]
      simp
    | i + 1 =>
      rw [List.getElem?_append_right (by simp [Sl.enc]; omega)]
      have hl : s.enc.length = 6 := rfl
      rw [hl, show (i + 1) * 6 + q - 6 = i * 6 + q by omega, ih i (by simpa using h)]
      simp
theorem encS_one (l : List Sl) : ∀ u ∈ encS l, u.oneCell' = true := by
  intro u hu
  simp only [encS, List.mem_flatMap, Sl.enc, List.mem_cons, List.not_mem_nil, or_false] at hu
  obtain ⟨s, _, h | h | h | h | h | h⟩ := hu <;> (subst h; rfl)
theorem encI_one (l : List Int) : ∀ u ∈ encI l, u.oneCell' = true := by
  intro u hu
  simp only [encI, List.mem_map] at hu
  obtain ⟨s, _, rfl⟩ := hu; rfl

theorem SRow.flat {w : World} {b o cap : Nat} {S : List Sl} (r : SRow w (some ⟨b, o, none⟩) cap S) : ∀ j u, (encS S)[j]? = some u → w.cell? ((⟨b, o, none⟩ : Addr).add j) = some u := by
  intro j u hu
  have hj : j < S.length * 6 := by
    rw [← encS_len]
    exact (List.getElem?_eq_some_iff.1 hu).1
  rcases r.at_ with h0 | ⟨b', o', e, hc⟩
  · omega
  cases e
  have hi : j / 6 < S.length := by omega
  have e6 : j / 6 * 6 + j % 6 = j := by omega
  have hq : j % 6 < 6 := by omega
  obtain ⟨c0, c1, c2, c3, c4, c5⟩ := hc (j / 6) hi
  rw [← e6, encS_get S _ _ hi hq] at hu
  rw [Addr.add_lit, ← e6]
  generalize j / 6 = i at *
  generalize j % 6 = q at *
  rw [← Nat.add_assoc]
  simp only [Sl.enc] at hu
  match q, hq with
  | 0, _ => simp at hu; subst hu; exact c0
  | 1, _ => simp at hu; subst hu; exact c1
  | 2, _ => simp at hu; subst hu; exact c2
  | 3, _ => simp at hu; subst hu; exact c3
  | 4, _ => simp at hu; subst hu; exact c4
  | 5, _ => simp at hu; subst hu; exact c5

theorem IRow.flat {w : World} {b o cap : Nat} {l : List Int} (r : IRow w (some ⟨b, o, none⟩) cap l) : ∀ j u, (encI l)[j]? = some u → w.cell? ((⟨b, o, none⟩ : Addr).add j) = some u := by
  intro j u hu
  have hj : j < l.length := by
    rw [← encI_len]
    exact (List.getElem?_eq_some_iff.1 hu).1
  rcases r.at_ with h0 | ⟨b', o', e, hc⟩
  · omega
  cases e
  simp only [encI, List.getElem?_map, List.getElem?_eq_getElem hj, Option.map_some, Option.some.injEq] at hu
  subst hu
  rw [Addr.add_lit]
  exact hc j hj

theorem SRow.src {w : World} {ao : Option Addr} {cap : Nat} {S : List Sl} (r : SRow w ao cap S) : ∀ ad, ao = some ad → ∀ j u, (encS S)[j]? = some u → w.cell? (ad.add j) = some u := by
  rintro ad rfl j u hu
  rcases r.at_ with h0 | ⟨b, o, e, hc⟩
  · have := (List.getElem?_eq_some_iff.1 hu).1
    rw [encS_len] at this
    omega
  · cases e
    exact r.flat j u hu
theorem IRow.src {w : World} {ao : Option Addr} {cap : Nat} {l : List Int} (r : IRow w ao cap l) : ∀ ad, ao = some ad → ∀ j u, (encI l)[j]? = some u → w.cell? (ad.add j) = some u := by
  rintro ad rfl j u hu
  rcases r.at_ with h0 | ⟨b, o, e, hc⟩
  · have := (List.getElem?_eq_some_iff.1 hu).1
    rw [encI_len] at this
    omega
  · cases e
    exact r.flat j u hu

/- A row of cells, as a list of slots or of ints. -/
theorem SRow.mk_cells {w : World} {b cap : Nat} {S : List Sl} (hl : S.length ≤ cap) (hm : S.length * 48 ≤ 140737488351232) (hc : ∀ j, j < S.length * 6 → w.cell? ⟨b, j, none⟩ = (encS S)[j]?) : SRow w (some ⟨b, 0, none⟩) cap S := by
  refine ⟨hl, hm, (fun h => by cases h), .inr ⟨b, 0, rfl, fun i hi => ?_⟩⟩
  have e : ∀ q, q < 6 → w.cell? ⟨b, 0 + i * 6 + q, none⟩ = (S[i].enc)[q]? := fun q hq => by
    rw [Nat.zero_add, hc _ (by omega), encS_get S i q hi hq]
  exact ⟨e 0 (by omega), e 1 (by omega), e 2 (by omega), e 3 (by omega), e 4 (by omega), e 5 (by omega)⟩
theorem IRow.mk_cells {w : World} {b cap : Nat} {l : List Int} (hl : l.length ≤ cap) (hm : l.length * 8 ≤ 140737488351232) (hc : ∀ j, j < l.length → w.cell? ⟨b, j, none⟩ = (encI l)[j]?) : IRow w (some ⟨b, 0, none⟩) cap l := by
  refine ⟨hl, hm, (fun h => by cases h), .inr ⟨b, 0, rfl, fun i hi => ?_⟩⟩
  rw [Nat.zero_add, hc i hi]
  simp [encI, hi]
theorem SRow.of_block {w : World} {b : Nat} {S : List Sl} (hb : w.heap[b]? = some (.cells (encS S).toArray 48 (0, 0))) (hm : S.length * 48 ≤ 140737488351232) : SRow w (some ⟨b, 0, none⟩) S.length S :=
  .mk_cells (Nat.le_refl _) hm fun j hj => by rw [cell_of_block hb]; simp
theorem IRow.of_block {w : World} {b : Nat} {l : List Int} (hb : w.heap[b]? = some (.cells (encI l).toArray 3 (0, 0))) (hm : l.length * 8 ≤ 140737488351232) : IRow w (some ⟨b, 0, none⟩) l.length l :=
  .mk_cells (Nat.le_refl _) hm fun j hj => by rw [cell_of_block hb]; simp

theorem SRow.of_own {w : World} {base n : Nat} {v : Value} {S : List Sl} (h : w.ownsRow base 48 6 v n (encS S)) (hm : S.length * 48 ≤ 140737488351232) : ∃ ao cap, v = .slice ao S.length cap ∧ SRow w ao cap S := by
  have hl := h.1
  rw [encS_len] at hl
  have hn : S.length = n := by omega
  subst hn
  rcases h.2 with ⟨rfl, h0⟩ | ⟨g, cap, cur, rfl, hg, hb, hc, -, hs, ht⟩
  · exact ⟨none, 0, by rw [h0], by omega, hm, fun _ => rfl, .inl h0⟩
  · exact ⟨_, _, rfl, .mk_cells hc hm fun j hj => h.cellAt j hj⟩
theorem IRow.of_own {w : World} {base n : Nat} {v : Value} {l : List Int} (h : w.ownsRow base 3 1 v n (encI l)) (hm : l.length * 8 ≤ 140737488351232) : ∃ ao cap, v = .slice ao l.length cap ∧ IRow w ao cap l := by
  have hl := h.1
  rw [encI_len] at hl
  have hn : l.length = n := by omega
  subst hn
  rcases h.2 with ⟨rfl, h0⟩ | ⟨g, cap, cur, rfl, hg, hb, hc, -, hs, ht⟩
  · exact ⟨none, 0, by rw [h0], by omega, hm, fun _ => rfl, .inl h0⟩
  · exact ⟨_, _, rfl, .mk_cells hc hm fun j hj => h.cellAt j (by omega)⟩

theorem block_of_own {w : World} {base g n size : Nat} {e : TypeId} {xs : List Value} (h : w.ownsRow base e size (.slice (some ⟨g, 0, none⟩) n n) n xs) : w.heap[g]? = some (.cells xs.toArray e (0, 0)) := by
  rcases h.2 with ⟨h0, _⟩ | ⟨g', cap, cur, hv, hg, hb, hc, -, hs, ht⟩
  · cases h0
  · injection hv with h1 h2 h3
    injection h1 with h1
    injection h1 with h1
    subst h1 h3
    rw [hb]
    have : cur.toList = xs := by rw [← ht, List.take_of_length_le (by simp [hs])]
    rw [← this]

theorem iI : (Try.prog.info? 3).map (fun i => (i.zero, i.size, i.bytes)) = some (some (.int .i64 0), 1, 8) := by kernel_rfl
theorem iS : (Try.prog.info? 48).map (fun i => (i.zero, i.size, i.bytes)) = some (some (.agg #[.int .i64 0, .int .i64 0, .int .i64 0, .int .i64 0, .bool false, .int .i64 0]), 6, 48) := by kernel_rfl

theorem own_below {w w' : World} {lo size n : Nat} {e : TypeId} {v : Value} {xs : List Value} (h : w.ownsRow lo e size v n xs) (hb : Below w.heap.size w w') : w'.ownsRow lo e size v n xs :=
  h.kept (row := none) ⟨hb.os, hb.tape, hb.output, hb.size, fun k hk _ => hb.block k hk⟩ (by cases hv : v.ownBlock <;> simp)

set_option maxHeartbeats 800000 in
theorem listI_some (ad : Addr) (cap : Nat) (l : List Int) (w : World) (r : IRow w (some ad) cap l) :
    Calls Try.prog 84 #[.slice (some ad) l.length cap] w fun e w' => e = .returned (.slice (some ⟨w.heap.size, 0, none⟩) l.length l.length) ∧ w'.ownsRow w.heap.size 3 1 (.slice (some ⟨w.heap.size, 0, none⟩) l.length l.length) l.length (encI l) ∧ Below w.heap.size w w' := by
  obtain ⟨i0, hi, hz0, hz1, hz2⟩ := info_parts iI
  have m1 := r.max
  have m2 := r.le
  have HS : Hid _ := r.src
  have HN : Hid _ := r.nil
  clear r
  have q24 : ∀ (w : World) (a : Option Addr) (n c : Nat), (binOp .eql 24 (.slice a n c) (.slice none 0 0)).run Try.prog w = .ok (.bool a.isNone) w := fun w a n c => Lib.run_eql_slice_nil w _ _ a n c 0 0 Try.underlying24
  go_enter Try.func84, Try.ntmps84
  go_wp2_with (first
    | (at_make; refine wpList_make_own _ rfl _ _ 24 rfl w.heap.size 3 i0 (.int .i64 0) 1 Try.underlying24 hi hz0 hz1 .i64 .i64 _ l.length rfl rfl rfl (by rw [hz2]; omega) (by unfold maxLen; omega) (Nat.le_refl _) ?_; intro w1 hown hgrow)
    | (at_builtin; refine wpList_append_fits_any _ rfl _ _ 24 rfl w.heap.size 3 i0 1 Try.underlying24 hi hz1 w.heap.size 0 l.length _ rfl hown (some ad) l.length cap (encI l) rfl (by rw [encI_len]; omega) (fun h => by have := HN.out h; omega) (fun ad h j u hj => hgrow.cell (HS.out ad h j u hj) (by intro hh; cases hh)) (encI_one l) (by omega) ?_; intro w2 hown2 hgrow2))
  go_ret
  simp only [Nat.zero_add, List.nil_append] at hown2
  refine ⟨by simp, hown2, ?_⟩
  have := ((Below.refl w.heap.size w).grown hgrow (Nat.le_refl _) (fun k h => by cases h))
  exact this.grown hgrow2 hgrow.size (fun k h => by cases h; exact Nat.le_refl _)

set_option maxHeartbeats 800000 in
theorem listS_some (ad : Addr) (cap : Nat) (l : List Sl) (w : World) (r : SRow w (some ad) cap l) :
    Calls Try.prog 83 #[.slice (some ad) l.length cap] w fun e w' => e = .returned (.slice (some ⟨w.heap.size, 0, none⟩) l.length l.length) ∧ w'.ownsRow w.heap.size 48 6 (.slice (some ⟨w.heap.size, 0, none⟩) l.length l.length) l.length (encS l) ∧ Below w.heap.size w w' := by
  obtain ⟨i0, hi, hz0, hz1, hz2⟩ := info_parts iS
  have m1 := r.max
  have m2 := r.le
  have HS : Hid _ := r.src
  have HN : Hid _ := r.nil
  clear r
  have q27 : ∀ (w : World) (a : Option Addr) (n c : Nat), (binOp .eql 27 (.slice a n c) (.slice none 0 0)).run Try.prog w = .ok (.bool a.isNone) w := fun w a n c => Lib.run_eql_slice_nil w _ _ a n c 0 0 Try.underlying27
  go_enter Try.func83, Try.ntmps83
  go_wp2_with (first
    | (at_make; refine wpList_make_own _ rfl _ _ 27 rfl w.heap.size 48 i0 (.agg #[.int .i64 0, .int .i64 0, .int .i64 0, .int .i64 0, .bool false, .int .i64 0]) 6 Try.underlying27 hi hz0 hz1 .i64 .i64 _ l.length rfl rfl rfl (by rw [hz2]; omega) (by unfold maxLen; omega) (Nat.le_refl _) ?_; intro w1 hown hgrow)
    | (at_builtin; refine wpList_append_fits_any _ rfl _ _ 27 rfl w.heap.size 48 i0 6 Try.underlying27 hi hz1 w.heap.size 0 l.length _ rfl hown (some ad) l.length cap (encS l) rfl (encS_len l) (fun h => by have := HN.out h; omega) (fun ad h j u hj => hgrow.cell (HS.out ad h j u hj) (by intro hh; cases hh)) (encS_one l) (by omega) ?_; intro w2 hown2 hgrow2))
  go_ret
  simp only [Nat.zero_add, List.nil_append] at hown2
  refine ⟨by simp, hown2, ?_⟩
  have := ((Below.refl w.heap.size w).grown hgrow (Nat.le_refl _) (fun k h => by cases h))
  exact this.grown hgrow2 hgrow.size (fun k h => by cases h; exact Nat.le_refl _)

theorem listI_none (w : World) : Calls Try.prog 84 #[.slice none 0 0] w fun e w' => e = .returned (.slice none 0 0) ∧ w = w' := by
  have q24 : ∀ (w : World) (a : Option Addr) (n c : Nat), (binOp .eql 24 (.slice a n c) (.slice none 0 0)).run Try.prog w = .ok (.bool a.isNone) w := fun w a n c => Lib.run_eql_slice_nil w _ _ a n c 0 0 Try.underlying24
  go_enter Try.func84, Try.ntmps84
  go_wp2
  go_ret
  exact ⟨rfl, rfl⟩
theorem listS_none (w : World) : Calls Try.prog 83 #[.slice none 0 0] w fun e w' => e = .returned (.slice none 0 0) ∧ w = w' := by
  have q27 : ∀ (w : World) (a : Option Addr) (n c : Nat), (binOp .eql 27 (.slice a n c) (.slice none 0 0)).run Try.prog w = .ok (.bool a.isNone) w := fun w a n c => Lib.run_eql_slice_nil w _ _ a n c 0 0 Try.underlying27
  go_enter Try.func83, Try.ntmps83
  go_wp2
  go_ret
  exact ⟨rfl, rfl⟩

theorem listI_any (ao : Option Addr) (cap : Nat) (l : List Int) (w : World) (r : IRow w ao cap l) :
    Calls Try.prog 84 #[.slice ao l.length cap] w fun e w' => ∃ a c, e = .returned (.slice a l.length c) ∧ w'.ownsRow w.heap.size 3 1 (.slice a l.length c) l.length (encI l) ∧ Below w.heap.size w w' := by
  cases ao with
  | some ad =>
    refine (listI_some ad cap l w r).mono ?_
    rintro e w' ⟨rfl, h1, h2⟩
    exact ⟨_, _, rfl, h1, h2⟩
  | none =>
    have hc := r.nil rfl
    have hl : l = [] := List.eq_nil_of_length_eq_zero (by have := r.le; omega)
    subst hc hl
    refine (listI_none w).mono ?_
    rintro e w' ⟨rfl, rfl⟩
    exact ⟨_, _, rfl, World.ownsRow_nil _ _ _ _, Below.refl _ _⟩
theorem listS_any (ao : Option Addr) (cap : Nat) (l : List Sl) (w : World) (r : SRow w ao cap l) :
    Calls Try.prog 83 #[.slice ao l.length cap] w fun e w' => ∃ a c, e = .returned (.slice a l.length c) ∧ w'.ownsRow w.heap.size 48 6 (.slice a l.length c) l.length (encS l) ∧ Below w.heap.size w w' := by
  cases ao with
  | some ad =>
    refine (listS_some ad cap l w r).mono ?_
    rintro e w' ⟨rfl, h1, h2⟩
    exact ⟨_, _, rfl, h1, h2⟩
  | none =>
    have hc := r.nil rfl
    have hl : l = [] := List.eq_nil_of_length_eq_zero (by have := r.le; omega)
    subst hc hl
    refine (listS_none w).mono ?_
    rintro e w' ⟨rfl, rfl⟩
    exact ⟨_, _, rfl, World.ownsRow_nil _ _ _ _, Below.refl _ _⟩


end Go.Proofs.Ytdbilofhcadmoaa.mm
