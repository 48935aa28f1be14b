/- Plain facts on cutting a key's text at its sign: of what is written there is just one, and cut there both numbers stand as they were written. No program in this text. -/
import Derived.Test.YtdbilofhcadmoaaDoorPure
import Derived.Lib.Split
import Derived.Lib.SplitLaws
import Derived.Lib.CountLaws
namespace Go.Proofs.YtdbilofhcadmoaaDoor.pure
open Go Go.Lib

theorem index_at : ∀ (p q : List UInt8), 62 ∉ p → index (p ++ 62 :: q) [62] = p.length
  | [], q, _ => by simp [index, List.isPrefixOf]
  | c :: p, q, h => by
    have hc : (62 == c) = false := by simp only [List.mem_cons, not_or] at h; simpa using h.1
    have ih := index_at p q (fun hm => h (List.mem_cons_of_mem _ hm))
    have hn : ((p.length : Int) == -1) = false := by rw [beq_eq_false_iff_ne]; omega
    simp [index, List.isPrefixOf, hc, ih, hn]

theorem index_absent : ∀ (q : List UInt8), 62 ∉ q → index q [62] = -1
  | [], _ => by simp [index]
  | c :: q, h => by
    have hc : (62 == c) = false := by simp only [List.mem_cons, not_or] at h; simpa using h.1
    have ih := index_absent q (fun hm => h (List.mem_cons_of_mem _ hm))
    simp [index, List.isPrefixOf, hc, ih]

theorem index_split : ∀ (l : List UInt8) (i : Nat), index l [62] = i → i < l.length ∧ l = l.take i ++ 62 :: l.drop (i + 1)
  | [], i, h => by simp [index] at h
  | c :: l, i, h => by
    by_cases hc : (62 == c) = true
    · have e : (62 : UInt8) = c := by simpa using hc
      have : index (c :: l) [62] = 0 := by simp [index, List.isPrefixOf, hc]
      obtain rfl : i = 0 := by omega
      subst e
      exact ⟨by simp, by simp⟩
    · have hc' : (62 == c) = false := by simpa using hc
      by_cases hm : index l [62] = -1
      · have : index (c :: l) [62] = -1 := by simp [index, List.isPrefixOf, hc', hm]
        omega
      · have hge := index_ge l [62]
        have hm' : (index l [62] == -1) = false := by rw [beq_eq_false_iff_ne]; exact hm
        have hx : index (c :: l) [62] = index l [62] + 1 := by simp [index, List.isPrefixOf, hc', hm']
        obtain ⟨j, hj⟩ : ∃ j : Nat, index l [62] = j := ⟨(index l [62]).toNat, by omega⟩
        obtain rfl : i = j + 1 := by omega
        obtain ⟨h1, h2⟩ := index_split l j hj
        refine ⟨by simp; omega, ?_⟩
        simp only [List.take_succ_cons, List.drop_succ_cons, List.cons_append]
        rw [← h2]

theorem dig_ne (u j : Nat) : dg u j ≠ 62 := by
  unfold dg
  intro h
  have := congrArg UInt8.toNat h
  simp at this
  omega

theorem itoa_no (n : Int) : 62 ∉ itoa n := by
  have hd : ∀ u, 62 ∉ decDigits u := fun u => by
    rw [decDigits_eq]
    intro h
    obtain ⟨t, _, ht⟩ := List.mem_map.1 h
    exact dig_ne _ _ ht
  unfold itoa
  split
  · intro h
    rcases List.mem_cons.1 h with h | h
    · exact absurd h (by decide)
    · exact hd _ h
  · exact hd _

theorem count_wr (a b : Int) : count (wr a b) [62] = 1 := by
  unfold wr
  have h := index_at (itoa a) (itoa b) (itoa_no a)
  rw [count_hit (by simp) h]
  have e : (itoa a ++ 62 :: itoa b).drop ((itoa a).length + ([62] : List UInt8).length) = itoa b := by simp
  rw [e, count_miss (index_absent _ (itoa_no b))]

theorem cut_wr (a b : Int) : cut (wr a b) [62] = (itoa a, itoa b, true) := by
  unfold wr cut
  have h := index_at (itoa a) (itoa b) (itoa_no a)
  rw [h, if_pos (by omega)]
  simp

/-- A text that is cut once is its two pieces and the sign between. -/
theorem once {l : List UInt8} (h : count l [62] = 1) : ∃ i : Nat, index l [62] = i ∧ i < l.length ∧ l = l.take i ++ 62 :: l.drop (i + 1) ∧ cut l [62] = (l.take i, l.drop (i + 1), true) := by
  have hge := index_ge l [62]
  by_cases hm : index l [62] = -1
  · rw [count_miss hm] at h; cases h
  · obtain ⟨i, hi⟩ : ∃ i : Nat, index l [62] = i := ⟨(index l [62]).toNat, by omega⟩
    obtain ⟨h1, h2⟩ := index_split l i hi
    refine ⟨i, hi, h1, h2, ?_⟩
    unfold cut
    rw [hi, if_pos (by omega)]
    simp

/-- What is read is cut once, and both pieces are written so. -/
theorem rd_once {l : List UInt8} {a b : Int} (h : rd l = some (a, b)) : count l [62] = 1 ∧ cut l [62] = (itoa a, itoa b, true) ∧ num (itoa a) = some a ∧ num (itoa b) = some b := by
  have hw := rd_some h
  have hc := cut_wr a b
  rw [hw] at hc
  refine ⟨by rw [← hw]; exact count_wr a b, hc, ?_⟩
  unfold rd at h
  rw [hc] at h
  simp only at h
  split at h
  · rename_i x y hx hy
    split at h
    · cases h; exact ⟨hx, hy⟩
    · cases h
  · cases h

theorem rd_of {l A B : List UInt8} {f : Bool} {a b : Int} (h1 : count l [62] = 1) (hcut : cut l [62] = (A, B, f)) (ha : num A = some a) (ia : itoa a = A) (hb : num B = some b) (ib : itoa b = B) : rd l = some (a, b) := by
  obtain ⟨i, _, _, hl, hc⟩ := once h1
  rw [hcut] at hc
  simp only [Prod.mk.injEq] at hc
  obtain ⟨rfl, rfl, rfl⟩ := hc
  unfold rd
  rw [hcut]
  simp only
  rw [ha, hb]
  simp only
  rw [if_pos (by unfold wr; rw [ia, ib]; exact hl.symm)]

/-- The two pieces, as the split has them. -/
theorem split_once (s : ByteArray) (h : count s.data.toList [62] = 1) : ∃ A B : ByteArray, splitB ⟨#[62]⟩ 0 1 s = [A, B] ∧ cut s.data.toList [62] = (A.data.toList, B.data.toList, true) ∧ A.size ≤ s.size ∧ B.size ≤ s.size := by
  obtain ⟨i, hi, hlt, hl, hc⟩ := once h
  refine ⟨s.extract 0 (i + 0), s.extract (i + 1) s.size, ?_, ?_, ?_, ?_⟩
  · rw [splitB_hit ⟨#[62]⟩ 0 0 s i hi, splitB_zero]; rfl
  · rw [hc, extract_from_zero, extract_to_end]; rfl
  · simp [ByteArray.size_extract]; omega
  · simp [ByteArray.size_extract]
end Go.Proofs.YtdbilofhcadmoaaDoor.pure
