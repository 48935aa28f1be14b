/- The contracts of read and Parse by what the text reads as: the key, or the error that the document tells; nothing that was there is changed. -/
import Derived.Test.YtdbilofhcadmoaaDoorRead
namespace Go.Proofs.YtdbilofhcadmoaaDoor.key
open Go.ChangeShapes Go.WideShapes Go.ChangeAt Go.RowKit Go.Sort
open Go.Proofs.YtdbilofhcadmoaaDoor.pure
set_option linter.unusedVariables false

theorem cut_len (l sep : List UInt8) : (Lib.cut l sep).1.length ≤ l.length ∧ (Lib.cut l sep).2.1.length ≤ l.length := by
  unfold Lib.cut
  split
  · exact ⟨by simp only [List.length_take]; omega, by simp only [List.length_drop]; omega⟩
  · exact ⟨Nat.le_refl _, Nat.zero_le _⟩

theorem read_rd (s : ByteArray) (hs : s.size ≤ 20) (w : World) (E : Env w) (a b : Int) (h : rd s.data.toList = some (a, b)) :
    Calls Tryd.prog 17 #[.string s] w fun e w' => e = .returned (.tuple #[.agg #[.int .i64 a, .int .i64 b], .bool true]) ∧ Below w.heap.size w w' := by
  have hw := rd_some h
  have hl := cut_len s.data.toList [62]
  have hn : s.data.toList.length = s.size := rfl
  have hx : num (Lib.cut s.data.toList [62]).1 = some a ∧ num (Lib.cut s.data.toList [62]).2.1 = some b := by
    unfold rd at h
    split at h
    · split at h
      · cases h; exact ⟨by assumption, by assumption⟩
      · cases h
    · cases h
  clear h
  generalize hcut : Lib.cut s.data.toList [62] = c at hl hx
  obtain ⟨A, B, f⟩ := c
  exact read_yes s hs w E A B f (Nat.le_trans hl.1 hs) (Nat.le_trans hl.2 hs) hcut a hx.1 b hx.2 true (by rw [hw, ByteArray.toList_eq]; simp)

theorem read_rd_no (s : ByteArray) (hs : s.size ≤ 20) (w : World) (E : Env w) (h : rd s.data.toList = none) :
    Calls Tryd.prog 17 #[.string s] w fun e w' => ∃ x y, e = .returned (.tuple #[.agg #[.int .i64 x, .int .i64 y], .bool false]) ∧ Below w.heap.size w w' := by
  have hl := cut_len s.data.toList [62]
  unfold rd at h
  generalize hcut : Lib.cut s.data.toList [62] = c at hl h
  obtain ⟨A, B, f⟩ := c
  simp only at hl h
  cases ha : num A with
  | none => exact (read_no1 s hs w E A B f (Nat.le_trans hl.1 hs) (Nat.le_trans hl.2 hs) hcut ha).mono fun e w' ⟨he, hb⟩ => ⟨0, 0, he, hb⟩
  | some a =>
    cases hb : num B with
    | none => exact (read_no2 s hs w E A B f (Nat.le_trans hl.1 hs) (Nat.le_trans hl.2 hs) hcut a ha hb).mono fun e w' ⟨he, hb⟩ => ⟨0, 0, he, hb⟩
    | some b =>
      have hw : ¬ wr a b = s.data.toList := by
        intro hw
        rw [ha, hb] at h
        simp only at h
        rw [if_pos hw] at h
        cases h
      exact (read_yes s hs w E A B f (Nat.le_trans hl.1 hs) (Nat.le_trans hl.2 hs) hcut a ha b hb false (by rw [ByteArray.toList_eq]; simpa using hw)).mono fun e w' ⟨he, hb⟩ => ⟨a, b, he, hb⟩

theorem parse_long (s : ByteArray) (hs : 20 < s.size) (hm : s.size ≤ 9223372036854775807) (w : World) :
    Calls Tryd.prog 8 #[.string s] w fun e w' => e = .returned (.tuple #[.agg #[.int .i64 0, .int .i64 0], .int .i64 2]) ∧ Below w.heap.size w w' := by
  go_enter Tryd.func8, Tryd.ntmps8
  go_wp2
  exact bodyPost_ret (v := .tuple #[.agg #[.int .i64 0, .int .i64 0], .int .i64 2]) (by simp [results, Tryd.results8, go_sem]) rfl ⟨rfl, (Below.refl _ _).alloc (Nat.le_refl _) _⟩

theorem parse_text (s : ByteArray) (hs : s.size ≤ 20) (w : World) (E : Env w) (h : rd s.data.toList = none) :
    Calls Tryd.prog 8 #[.string s] w fun e w' => e = .returned (.tuple #[.agg #[.int .i64 0, .int .i64 0], .int .i64 1]) ∧ Below w.heap.size w w' := by
  have bw : Below w.heap.size w (w.alloc (.cells #[.int .i64 0, .int .i64 0] 23)) := (Below.refl _ _).alloc (Nat.le_refl _) _
  have H : Hid (rd s.data.toList = none) := h
  clear h
  go_enter Tryd.func8, Tryd.ntmps8
  go_wp2_with fail
  refine (read_rd_no s hs _ (E.below bw) H.out).mono ?_
  rintro e w2 ⟨x, y, rfl, hb2⟩
  have b2 := bw.trans (hb2.mono bw.size)
  have s2 : w.heap.size < w2.heap.size := by have := hb2.size; simp only [World.size_alloc] at this; omega
  obtain ⟨hc, hf⟩ := bcell hb2
  have z0 : w2.cell? ⟨w.heap.size, 0, none⟩ = some (.int .i64 0) := by rw [hc _ _ (by simp)]; simp [go_sem]
  have z1 : w2.cell? ⟨w.heap.size, 1, none⟩ = some (.int .i64 0) := by rw [hc _ _ (by simp)]; simp [go_sem]
  have f0 : w2.frozen? ⟨w.heap.size, 0, none⟩ = false := by rw [hf _ _ (by simp)]; simp [go_sem]
  have f1 : w2.frozen? ⟨w.heap.size, 1, none⟩ = false := by rw [hf _ _ (by simp)]; simp [go_sem]
  obtain ⟨q0, q1⟩ := pair_set w2 w.heap.size _ _ z0 z1
  clear hc hf
  go_wp2
  refine bodyPost_ret (v := .tuple #[.agg #[.int .i64 0, .int .i64 0], .int .i64 1]) (by simp [results, Tryd.results8, go_sem, q0, q1, s2]) rfl ⟨rfl, ?_⟩
  exact ((b2.setCell (Nat.le_refl _) _).setCell (Nat.le_refl _) _).alloc (by simp only [World.size_setCell]; omega) _

theorem parse_range (s : ByteArray) (hs : s.size ≤ 20) (w : World) (E : Env w) (a b : Int) (h : rd s.data.toList = some (a, b)) (hk : okK a b = false) :
    Calls Tryd.prog 8 #[.string s] w fun e w' => e = .returned (.tuple #[.agg #[.int .i64 0, .int .i64 0], .int .i64 3]) ∧ Below w.heap.size w w' := by
  have bw : Below w.heap.size w (w.alloc (.cells #[.int .i64 0, .int .i64 0] 23)) := (Below.refl _ _).alloc (Nat.le_refl _) _
  have H : Hid (rd s.data.toList = some (a, b)) := h
  clear h
  go_enter Tryd.func8, Tryd.ntmps8
  go_wp2_with fail
  refine (read_rd s hs _ (E.below bw) a b H.out).mono ?_
  rintro e w2 ⟨rfl, hb2⟩
  have b2 := bw.trans (hb2.mono bw.size)
  have s2 : w.heap.size < w2.heap.size := by have := hb2.size; simp only [World.size_alloc] at this; omega
  obtain ⟨hc, hf⟩ := bcell hb2
  have z0 : w2.cell? ⟨w.heap.size, 0, none⟩ = some (.int .i64 0) := by rw [hc _ _ (by simp)]; simp [go_sem]
  have z1 : w2.cell? ⟨w.heap.size, 1, none⟩ = some (.int .i64 0) := by rw [hc _ _ (by simp)]; simp [go_sem]
  have f0 : w2.frozen? ⟨w.heap.size, 0, none⟩ = false := by rw [hf _ _ (by simp)]; simp [go_sem]
  have f1 : w2.frozen? ⟨w.heap.size, 1, none⟩ = false := by rw [hf _ _ (by simp)]; simp [go_sem]
  clear hc hf
  have b3 := b2.trans (((Below.refl w2.heap.size w2).alloc (Nat.le_refl _) (.cells #[.int .i64 a, .int .i64 b] 23)).mono b2.size)
  go_wp2_with fail
  refine (check_f a b _ hk).mono ?_
  rintro e w4 ⟨rfl, hb4⟩
  have b4 := b3.trans (hb4.mono b3.size)
  have s4 : w2.heap.size < w4.heap.size := by have := hb4.size; simp only [World.size_alloc] at this; omega
  obtain ⟨hc, hf⟩ := bcell hb4
  have y0 : w4.cell? ⟨w2.heap.size, 0, none⟩ = some (.int .i64 a) := by rw [hc _ _ (by simp)]; simp [go_sem]
  have y1 : w4.cell? ⟨w2.heap.size, 1, none⟩ = some (.int .i64 b) := by rw [hc _ _ (by simp)]; simp [go_sem]
  have x0 : w4.cell? ⟨w.heap.size, 0, none⟩ = some (.int .i64 0) := by rw [hc _ _ (by simp only [World.size_alloc]; omega)]; simp [go_sem, s2, z0]
  have x1 : w4.cell? ⟨w.heap.size, 1, none⟩ = some (.int .i64 0) := by rw [hc _ _ (by simp only [World.size_alloc]; omega)]; simp [go_sem, s2, z1]
  have e0 : w4.frozen? ⟨w.heap.size, 0, none⟩ = false := by rw [hf _ _ (by simp only [World.size_alloc]; omega)]; simp [go_sem, s2, f0]
  have e1 : w4.frozen? ⟨w.heap.size, 1, none⟩ = false := by rw [hf _ _ (by simp only [World.size_alloc]; omega)]; simp [go_sem, s2, f1]
  clear hc hf z0 z1 f0 f1
  obtain ⟨q0, q1⟩ := pair_set w4 w.heap.size _ _ x0 x1
  go_wp2
  refine bodyPost_ret (v := .tuple #[.agg #[.int .i64 0, .int .i64 0], .int .i64 3]) (by simp [results, Tryd.results8, go_sem, q0, q1]) rfl ⟨rfl, ?_⟩
  exact (b4.setCell (Nat.le_refl _) _).setCell (Nat.le_refl _) _

theorem parse_ok (s : ByteArray) (hs : s.size ≤ 20) (w : World) (E : Env w) (a b : Int) (h : rd s.data.toList = some (a, b)) (h0 : 0 ≤ a) (h1 : a ≤ 15) (h2 : 0 ≤ b) (h3 : b ≤ 15) :
    Calls Tryd.prog 8 #[.string s] w fun e w' => e = .returned (.tuple #[.agg #[.int .i64 a, .int .i64 b], .int .i64 0]) ∧ Below w.heap.size w w' := by
  have bw : Below w.heap.size w (w.alloc (.cells #[.int .i64 0, .int .i64 0] 23)) := (Below.refl _ _).alloc (Nat.le_refl _) _
  have H : Hid (rd s.data.toList = some (a, b)) := h
  clear h
  go_enter Tryd.func8, Tryd.ntmps8
  go_wp2_with fail
  refine (read_rd s hs _ (E.below bw) a b H.out).mono ?_
  rintro e w2 ⟨rfl, hb2⟩
  have b2 := bw.trans (hb2.mono bw.size)
  have s2 : w.heap.size < w2.heap.size := by have := hb2.size; simp only [World.size_alloc] at this; omega
  obtain ⟨hc, hf⟩ := bcell hb2
  have z0 : w2.cell? ⟨w.heap.size, 0, none⟩ = some (.int .i64 0) := by rw [hc _ _ (by simp)]; simp [go_sem]
  have z1 : w2.cell? ⟨w.heap.size, 1, none⟩ = some (.int .i64 0) := by rw [hc _ _ (by simp)]; simp [go_sem]
  have f0 : w2.frozen? ⟨w.heap.size, 0, none⟩ = false := by rw [hf _ _ (by simp)]; simp [go_sem]
  have f1 : w2.frozen? ⟨w.heap.size, 1, none⟩ = false := by rw [hf _ _ (by simp)]; simp [go_sem]
  clear hc hf
  have b3 := b2.trans (((Below.refl w2.heap.size w2).alloc (Nat.le_refl _) (.cells #[.int .i64 a, .int .i64 b] 23)).mono b2.size)
  go_wp2_with fail
  refine (check_t a b _ h0 h1 h2 h3).mono ?_
  rintro e w4 ⟨rfl, hb4⟩
  have b4 := b3.trans (hb4.mono b3.size)
  have s4 : w2.heap.size < w4.heap.size := by have := hb4.size; simp only [World.size_alloc] at this; omega
  obtain ⟨hc, hf⟩ := bcell hb4
  have y0 : w4.cell? ⟨w2.heap.size, 0, none⟩ = some (.int .i64 a) := by rw [hc _ _ (by simp)]; simp [go_sem]
  have y1 : w4.cell? ⟨w2.heap.size, 1, none⟩ = some (.int .i64 b) := by rw [hc _ _ (by simp)]; simp [go_sem]
  have x0 : w4.cell? ⟨w.heap.size, 0, none⟩ = some (.int .i64 0) := by rw [hc _ _ (by simp only [World.size_alloc]; omega)]; simp [go_sem, s2, z0]
  have x1 : w4.cell? ⟨w.heap.size, 1, none⟩ = some (.int .i64 0) := by rw [hc _ _ (by simp only [World.size_alloc]; omega)]; simp [go_sem, s2, z1]
  have e0 : w4.frozen? ⟨w.heap.size, 0, none⟩ = false := by rw [hf _ _ (by simp only [World.size_alloc]; omega)]; simp [go_sem, s2, f0]
  have e1 : w4.frozen? ⟨w.heap.size, 1, none⟩ = false := by rw [hf _ _ (by simp only [World.size_alloc]; omega)]; simp [go_sem, s2, f1]
  clear hc hf z0 z1 f0 f1
  obtain ⟨q0, q1⟩ := pair_set w4 w.heap.size _ _ x0 x1
  go_wp2
  refine bodyPost_ret (v := .tuple #[.agg #[.int .i64 a, .int .i64 b], .int .i64 0]) (by simp [results, Tryd.results8, go_sem, q0, q1]) rfl ⟨rfl, ?_⟩
  exact (b4.setCell (Nat.le_refl _) _).setCell (Nat.le_refl _) _
end Go.Proofs.YtdbilofhcadmoaaDoor.key
