/- What is linked and cut out, as plain data: chains stay right, and which slots are in them. -/
import Derived.Test.YtdbilofhcadmoaaPureC
namespace Go.Proofs.Ytdbilofhcadmoaa.mm
set_option linter.unusedVariables false

def ownB (M : Mm) (a : Int) : Nat := (bucket (slotAt M a).a (slotAt M a).b M.heads.length).toNat
def linkM (M : Mm) (a : Int) : Mm := { M with slots := M.slots.set a.toNat { slotAt M a with next := headM M (ownB M a), inn := true }, heads := M.heads.set (ownB M a) (a + 1) }
def linkE (M : Mm) (a : Int) : Int := if chkC M ≠ 0 then chkC M else if isSl M a = false then 5 else if refsM M a = 0 then 8 else if hasK M (allC M) (keyAt M a) then 6 else 0
def linkedM (M : Mm) (a : Int) : Mm := if linkE M a = 0 then linkM M a else m0

def aheadF (a : Int) : List Int → Int → Int → Int
  | [], ah, _ => ah
  | c :: l, ah, la => aheadF a l (if c == a then la else ah) (c + 1)
def prevF (a : Int) : List Int → Int → Int
  | [], p => p
  | c :: l, p => if c == a then p else prevF a l (c + 1)
def cutM (M : Mm) (b : Nat) (ahead a : Int) : Mm :=
  if 0 < ahead then { M with slots := M.slots.set (ahead - 1).toNat { slotAt M (ahead - 1) with next := (slotAt M a).next } } else { M with heads := M.heads.set b (slotAt M a).next }
def keyN (M : Mm) (ka kb : Int) : Nat := (bucket ka kb M.heads.length).toNat
def withoutE (M : Mm) (ka kb : Int) : Int := if chkC M ≠ 0 then chkC M else if keyB ka kb = false then 3 else if hasK M (allC M) (ka, kb) = false then 5 else 0
def withoutN (M : Mm) (ka kb : Int) : Int := if withoutE M ka kb = 0 then whoK M (allC M) (ka, kb) else 0
def cutK (M : Mm) (ka kb : Int) : Mm := cutM M (keyN M ka kb) (aheadF (whoK M (allC M) (ka, kb)) (chL M (keyN M ka kb)) 0 0) (whoK M (allC M) (ka, kb))
def withoutM (M : Mm) (ka kb : Int) : Mm := if withoutE M ka kb = 0 then cutK M ka kb else m0

/- A way from a number along slots to an end. -/
def Path (S : List Sl) : Int → List Int → Int → Prop
  | n, [], e => n = e ∧ n ≤ 0
  | n, a :: l, e => n = a + 1 ∧ 0 ≤ a ∧ Path S (S.getD a.toNat sl0).next l e

theorem walk_path (S : List Sl) : ∀ (k : Nat) (n : Int), walkE S k n ≤ 0 → Path S n (walkL S k n) (walkE S k n) ∧ (walkL S k n).length ≤ k
  | 0, n, h => ⟨⟨rfl, h⟩, by simp [walkL]⟩
  | k + 1, n, h => by
    simp only [walkE, walkL] at h ⊢
    by_cases hn : 0 < n
    · rw [if_pos hn] at h
      rw [if_pos hn, if_pos hn]
      have := walk_path S k _ h
      exact ⟨⟨by omega, by omega, this.1⟩, by simpa using this.2⟩
    · rw [if_neg hn] at h
      rw [if_neg hn, if_neg hn]
      exact ⟨⟨rfl, h⟩, by simp⟩
theorem path_walk (S : List Sl) : ∀ (k : Nat) (n : Int) (l : List Int) (e : Int), Path S n l e → l.length ≤ k → walkL S k n = l ∧ walkE S k n = e
  | k, n, [], e, h, hl => by
    obtain ⟨rfl, h⟩ := h
    cases k with
    | zero => exact ⟨rfl, rfl⟩
    | succ k => simp only [walkE, walkL]; rw [if_neg (by omega), if_neg (by omega)]; exact ⟨rfl, rfl⟩
  | 0, n, a :: l, e, h, hl => by simp at hl
  | k + 1, n, a :: l, e, h, hl => by
    obtain ⟨rfl, h0, h⟩ := h
    have := path_walk S k _ l e h (by simpa using hl)
    simp only [walkE, walkL, nextN]
    rw [if_pos (by omega), if_pos (by omega), show a + 1 - 1 = a by omega]
    rw [this.1, this.2]
    exact ⟨rfl, rfl⟩
theorem path_end {S : List Sl} : ∀ {n : Int} {l : List Int} {e : Int}, Path S n l e → e ≤ 0
  | _, [], _, h => by obtain ⟨rfl, h⟩ := h; exact h
  | _, _ :: _, _, h => path_end h.2.2
theorem path_congr {S S' : List Sl} : ∀ {n : Int} {l : List Int} {e : Int}, (∀ a ∈ l, (S'.getD a.toNat sl0).next = (S.getD a.toNat sl0).next) → Path S n l e → Path S' n l e
  | _, [], _, _, h => h
  | _, a :: l, _, hh, h => by
    refine ⟨h.1, h.2.1, ?_⟩
    rw [hh a (by simp)]
    exact path_congr (fun x hx => hh x (by simp [hx])) h.2.2
/- A way to a number. -/
def PathTo (S : List Sl) : Int → List Int → Int → Prop
  | n, [], e => n = e
  | n, a :: l, e => n = a + 1 ∧ 0 ≤ a ∧ PathTo S (S.getD a.toNat sl0).next l e
theorem path_app {S : List Sl} : ∀ {n : Int} {l1 l2 : List Int} {e : Int}, Path S n (l1 ++ l2) e ↔ ∃ m, PathTo S n l1 m ∧ Path S m l2 e
  | n, [], l2, e => by simp [PathTo]
  | n, a :: l1, l2, e => by
    simp only [List.cons_append, Path, PathTo, path_app (l1 := l1)]
    constructor
    · rintro ⟨h1, h2, m, h3, h4⟩; exact ⟨m, ⟨h1, h2, h3⟩, h4⟩
    · rintro ⟨m, ⟨h1, h2, h3⟩, h4⟩; exact ⟨h1, h2, m, h3, h4⟩
theorem pathTo_snoc {S : List Sl} : ∀ {n : Int} {l : List Int} {p e : Int}, PathTo S n (l ++ [p]) e ↔ PathTo S n l (p + 1) ∧ 0 ≤ p ∧ (S.getD p.toNat sl0).next = e
  | n, [], p, e => by simp [PathTo]
  | n, a :: l, p, e => by
    simp only [List.cons_append, PathTo, pathTo_snoc (l := l)]
    constructor
    · rintro ⟨h1, h2, h3, h4⟩; exact ⟨⟨h1, h2, h3⟩, h4⟩
    · rintro ⟨⟨h1, h2, h3⟩, h4⟩; exact ⟨h1, h2, h3, h4⟩
theorem pathTo_congr {S S' : List Sl} : ∀ {n : Int} {l : List Int} {e : Int}, (∀ a ∈ l, (S'.getD a.toNat sl0).next = (S.getD a.toNat sl0).next) → PathTo S n l e → PathTo S' n l e
  | _, [], _, _, h => h
  | _, a :: l, _, hh, h => by
    refine ⟨h.1, h.2.1, ?_⟩
    rw [hh a (by simp)]
    exact pathTo_congr (fun x hx => hh x (by simp [hx])) h.2.2
theorem path_nonneg {S : List Sl} : ∀ {n : Int} {l : List Int} {e : Int}, Path S n l e → ∀ a ∈ l, 0 ≤ a
  | _, [], _, _, _, ha => by cases ha
  | _, x :: l, _, h, a, ha => by
    rcases List.mem_cons.1 ha with rfl | ha
    · exact h.2.1
    · exact path_nonneg h.2.2 a ha
/- Where each number that stands is one that may stand, each slot of a way is one. -/
theorem path_lt {S : List Sl} {N : Nat} (hs : ∀ s ∈ S, s.next ≤ N) (h0 : (0 : Int) ≤ N) : ∀ {n : Int} {l : List Int} {e : Int}, n ≤ N → Path S n l e → ∀ a ∈ l, a < N
  | _, [], _, _, _, _, ha => by cases ha
  | n, x :: l, _, hn, h, a, ha => by
    rcases List.mem_cons.1 ha with rfl | ha
    · have := h.1; omega
    · refine path_lt hs h0 (n := (S.getD x.toNat sl0).next) ?_ h.2.2 a ha
      by_cases hx : x.toNat < S.length
      · rw [getD_lt S _ hx]; exact hs _ (List.getElem_mem hx)
      · rw [List.getD_eq_getElem?_getD, List.getElem?_eq_none (by omega)]; exact h0

theorem few' : ∀ (n : Nat) (l : List Int), l.Nodup → (∀ a ∈ l, 0 ≤ a ∧ a < n) → l.length ≤ n
  | 0, l, hn, h => by
    match l, h with
    | [], _ => simp
    | a :: _, h => have := h a (by simp); omega
  | n + 1, l, hn, h => by
    have h1 := few' n (l.erase (n : Int)) (hn.erase _) (fun a ha => by
      have h3 := (hn.mem_erase_iff).1 ha
      have h4 := h a h3.2
      have h5 := h3.1
      omega)
    rw [List.length_erase] at h1
    split at h1 <;> omega

theorem OkC.path {M : Mm} (h : OkC M) {b : Nat} (hb : b < M.heads.length) : Path M.slots (headM M b) (chL M b) (-1 - (b : Int)) := by
  have e := h.ends b hb
  have := (walk_path M.slots M.slots.length (headM M b) (by show chE M b ≤ 0; omega)).1
  rw [show walkE M.slots M.slots.length (headM M b) = -1 - (b : Int) from e] at this
  exact this
theorem Ok.headIn {M : Mm} (h : Ok M) {b : Nat} (hb : b < M.heads.length) : headM M b ≠ 0 ∧ inB (headM M b) (-(M.heads.length : Int)) M.slots.length = true := by
  have hl : b < M.locks.length := by have := h.nl; omega
  have hz : b < (M.heads.zip M.locks).length := by simp; omega
  have := h.chain _ (List.getElem_mem hz)
  simp only [List.getElem_zip, chainErr] at this
  have e : headM M b = M.heads[b] := by simp [headM, List.getD_eq_getElem?_getD, hb]
  rw [e]
  split at this
  · rename_i hh; exact hh
  · omega
theorem OkC.slots {M : Mm} (h : OkC M) {b : Nat} (hb : b < M.heads.length) : ∀ a ∈ chL M b, 0 ≤ a ∧ a < M.slots.length := by
  intro a ha
  have hp := h.path hb
  refine ⟨path_nonneg hp a ha, path_lt (fun s hs => ?_) (by omega) ?_ hp a ha⟩
  · have := (slot_good (h.ok.slot s hs)).2.2.2
    exact ((inB_iff _ _ _).1 this).2
  · exact ((inB_iff _ _ _).1 (h.ok.headIn hb).2).2
theorem mem_allTo {M : Mm} {n : Nat} {a : Int} : a ∈ allTo M n ↔ ∃ b, b < n ∧ a ∈ chL M b := by simp [allTo]
theorem mem_allC {M : Mm} {a : Int} : a ∈ allC M ↔ ∃ b, b < M.heads.length ∧ a ∈ chL M b := mem_allTo
theorem nodup_of_map {α β : Type} {f : α → β} : ∀ {l : List α}, (l.map f).Nodup → l.Nodup
  | [], _ => by simp
  | a :: l, h => by
    rw [List.map_cons, List.nodup_cons] at h
    rw [List.nodup_cons]
    exact ⟨fun hm => h.1 (List.mem_map_of_mem hm), nodup_of_map h.2⟩
theorem allC_split (M : Mm) {b : Nat} (hb : b < M.heads.length) : ∃ l2, allC M = allTo M b ++ chL M b ++ l2 ∧ l2 = ((List.range (M.heads.length - (b + 1))).map (· + (b + 1))).flatMap (chL M) := by
  refine ⟨_, ?_, rfl⟩
  rw [← allTo_succ]
  unfold allC allTo
  rw [← List.flatMap_append]
  congr 1
  rw [show M.heads.length = (b + 1) + (M.heads.length - (b + 1)) by omega, List.range_add]
  simp [Nat.add_comm]
theorem OkC.nodup {M : Mm} (h : OkC M) {b : Nat} (hb : b < M.heads.length) : (chL M b).Nodup := by
  obtain ⟨l2, e, _⟩ := allC_split M hb
  have := nodup_of_map h.keys
  rw [e, List.nodup_append, List.nodup_append] at this
  exact this.1.2.1
theorem OkC.allSlots {M : Mm} (h : OkC M) : ∀ a ∈ allC M, 0 ≤ a ∧ a < M.slots.length := by
  intro a ha
  obtain ⟨b, hb, hm⟩ := mem_allC.1 ha
  exact h.slots hb a hm


end Go.Proofs.Ytdbilofhcadmoaa.mm
