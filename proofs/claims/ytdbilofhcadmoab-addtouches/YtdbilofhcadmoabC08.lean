/- What is linked and cut out, as plain data: chains stay right, and which slots are in them. -/
import Derived.Test.YtdbilofhcadmoabC07
namespace Go.Proofs.Ytdbilofhcadmoab.mm
set_option linter.unusedVariables false

def ownB (M : Mm) (a : Int) : Nat := (bucket (slotAt M a).a (slotAt M a).b M.heads.length).toNat
def linkM (M : Mm) (a : Int) : Mm := { M with slots := M.slots.set a.toNat { slotAt M a with next := headM M (ownB M a), inn := true }, heads := M.heads.set (ownB M a) (a + 1) }
def linkE (M : Mm) (a : Int) : Int := if chkC M ≠ 0 then chkC M else if isSl M a = false then 5 else if refsM M a = 0 then 8 else if hasK M (allC M) (keyAt M a) then 6 else 0
def linkedM (M : Mm) (a : Int) : Mm := if linkE M a = 0 then linkM M a else m0

def aheadF (a : Int) : List Int → Int → Int → Int
  | [], ah, _ => ah
  | c :: l, ah, la => aheadF a l (if c == a then la else ah) (c + 1)
def prevF (a : Int) : List Int → Int → Int
  | [], p => p
  | c :: l, p => if c == a then p else prevF a l (c + 1)
def cutM (M : Mm) (b : Nat) (ahead a : Int) : Mm :=
  if 0 < ahead then { M with slots := M.slots.set (ahead - 1).toNat { slotAt M (ahead - 1) with next := (slotAt M a).next } } else { M with heads := M.heads.set b (slotAt M a).next }
def keyN (M : Mm) (ka kb : Int) : Nat := (bucket ka kb M.heads.length).toNat
def withoutE (M : Mm) (ka kb : Int) : Int := if chkC M ≠ 0 then chkC M else if keyB ka kb = false then 3 else if hasK M (allC M) (ka, kb) = false then 5 else 0
def withoutN (M : Mm) (ka kb : Int) : Int := if withoutE M ka kb = 0 then whoK M (allC M) (ka, kb) else 0
def cutK (M : Mm) (ka kb : Int) : Mm := cutM M (keyN M ka kb) (aheadF (whoK M (allC M) (ka, kb)) (chL M (keyN M ka kb)) 0 0) (whoK M (allC M) (ka, kb))
def withoutM (M : Mm) (ka kb : Int) : Mm := if withoutE M ka kb = 0 then cutK M ka kb else m0

/- A way from a number along slots to an end. -/
def Path (S : List Sl) : Int → List Int → Int → Prop
  | n, [], e => n = e ∧ n ≤ 0
  | n, a :: l, e => n = a + 1 ∧ 0 ≤ a ∧ Path S (S.getD a.toNat sl0).next l e

theorem walk_path (S : List Sl) : ∀ (k : Nat) (n : Int), walkE S k n ≤ 0 → Path S n (walkL S k n) (walkE S k n) ∧ (walkL S k n).length ≤ k
  | 0, n, h => ⟨⟨rfl, h⟩, by simp [walkL]⟩
  | k + 1, n, h => by
    simp only [walkE, walkL] at h ⊢
    by_cases hn : 0 < n
    · rw [if_pos hn] at h
      rw [if_pos hn, if_pos hn]
      have := walk_path S k _ h
      exact ⟨⟨by omega, by omega, this.1⟩, by simpa using this.2⟩
    · rw [if_neg hn] at h
      rw [if_neg hn, if_neg hn]
      exact ⟨⟨rfl, h⟩, by simp⟩
theorem path_walk (S : List Sl) : ∀ (k : Nat) (n : Int) (l : List Int) (e : Int), Path S n l e → l.length ≤ k → walkL S k n = l ∧ walkE S k n = e
  | k, n, [], e, h, hl => by
    obtain ⟨rfl, h⟩ := h
    cases k with
    | zero => exact ⟨rfl, rfl⟩
    | succ k => simp only [walkE, walkL]; rw [if_neg (by omega), if_neg (by omega)]; exact ⟨rfl, rfl⟩
  | 0, n, a :: l, e, h, hl => by simp at hl
  | k + 1, n, a :: l, e, h, hl => by
    obtain ⟨rfl, h0, h⟩ := h
    have := path_walk S k _ l e h (by simpa using hl)
    simp only [walkE, walkL, nextN]
    rw [if_pos (by omega), if_pos (by omega), show a + 1 - 1 = a by omega]
    rw [this.1, this.2]
    exact ⟨rfl, rfl⟩
theorem path_end {S : List Sl} : ∀ {n : Int} {l : List Int} {e : Int}, Path S n l e → e ≤ 0
  | _, [], _, h => by obtain ⟨rfl, h⟩ := h; exact h
  | _, _ :: _, _, h => path_end h.2.2
theorem path_congr {S S' : List Sl} : ∀ {n : Int} {l : List Int} {e : Int}, (∀ a ∈ l, (S'.getD a.toNat sl0).next = (S.getD a.toNat sl0).next) → Path S n l e → Path S' n l e
  | _, [], _, _, h => h
  | _, a :: l, _, hh, h => by
    refine ⟨h.1, h.2.1, ?_⟩
    rw [hh a (by simp)]
    exact path_congr (fun x hx => hh x (by simp [hx])) h.2.2
/- A way to a number. -/
def PathTo (S : List Sl) : Int → List Int → Int → Prop
  | n, [], e => n = e
  | n, a :: l, e => n = a + 1 ∧ 0 ≤ a ∧ PathTo S (S.getD a.toNat sl0).next l e
theorem path_app {S : List Sl} : ∀ {n : Int} {l1 l2 : List Int} {e : Int}, Path S n (l1 ++ l2) e ↔ ∃ m, PathTo S n l1 m ∧ Path S m l2 e
  | n, [], l2, e => by simp [PathTo]
  | n, a :: l1, l2, e => by
    simp only [List.cons_append, Path, PathTo, path_app (l1 := l1)]
    constructor
    · rintro ⟨h1, h2, m, h3, h4⟩; exact ⟨m, ⟨h1, h2, h3⟩, h4⟩
    · rintro ⟨m, ⟨h1, h2, h3⟩, h4⟩; exact ⟨h1, h2, m, h3, h4⟩
theorem pathTo_snoc {S : List Sl} : ∀ {n : Int} {l : List Int} {p e : Int}, PathTo S n (l ++ [p]) e ↔ PathTo S n l (p + 1) ∧ 0 ≤ p ∧ (S.getD p.toNat sl0).next = e
  | n, [], p, e => by simp [PathTo]
  | n, a :: l, p, e => by
    simp only [List.cons_append, PathTo, pathTo_snoc (l := l)]
    constructor
    · rintro ⟨h1, h2, h3, h4⟩; exact ⟨⟨h1, h2, h3⟩, h4⟩
    · rintro ⟨⟨h1, h2, h3⟩, h4⟩; exact ⟨h1, h2, h3, h4⟩
theorem pathTo_congr {S S' : List Sl} : ∀ {n : Int} {l : List Int} {e : Int}, (∀ a ∈ l, (S'.getD a.toNat sl0).next = (S.getD a.toNat sl0).next) → PathTo S n l e → PathTo S' n l e
  | _, [], _, _, h => h
  | _, a :: l, _, hh, h => by
    refine ⟨h.1, h.2.1, ?_⟩
    rw [hh a (by simp)]
    exact pathTo_congr (fun x hx => hh x (by simp [hx])) h.2.2
theorem path_nonneg {S : List Sl} : ∀ {n : Int} {l : List Int} {e : Int}, Path S n l e → ∀ a ∈ l, 0 ≤ a
  | _, [], _, _, _, ha => by cases ha
  | _, x :: l, _, h, a, ha => by
    rcases List.mem_cons.1 ha with rfl | ha
    · exact h.2.1
    · exact path_nonneg h.2.2 a ha
/- Where each number that stands is one that may stand, each slot of a way is one. -/
theorem path_lt {S : List Sl} {N : Nat} (hs : ∀ s ∈ S, s.next ≤ N) (h0 : (0 : Int) ≤ N) : ∀ {n : Int} {l : List Int} {e : Int}, n ≤ N → Path S n l e → ∀ a ∈ l, a < N
  | _, [], _, _, _, _, ha => by cases ha
  | n, x :: l, _, hn, h, a, ha => by
    rcases List.mem_cons.1 ha with rfl | ha
    · have := h.1; omega
    · refine path_lt hs h0 (n := (S.getD x.toNat sl0).next) ?_ h.2.2 a ha
      by_cases hx : x.toNat < S.length
      · rw [getD_lt S _ hx]; exact hs _ (List.getElem_mem hx)
      · rw [List.getD_eq_getElem?_getD, List.getElem?_eq_none (by omega)]; exact h0

theorem few' : ∀ (n : Nat) (l : List Int), l.Nodup → (∀ a ∈ l, 0 ≤ a ∧ a < n) → l.length ≤ n
  | 0, l, hn, h => by
    match l, h with
    | [], _ => simp
    | a :: _, h => have := h a (by simp); omega
  | n + 1, l, hn, h => by
    have h1 := few' n (l.erase (n : Int)) (hn.erase _) (fun a ha => by
      have h3 := (hn.mem_erase_iff).1 ha
      have h4 := h a h3.2
      have h5 := h3.1
      omega)
    rw [List.length_erase] at h1
    split at h1 <;> omega

theorem OkC.path {M : Mm} (h : OkC M) {b : Nat} (hb : b < M.heads.length) : Path M.slots (headM M b) (chL M b) (-1 - (b : Int)) := by
  have e := h.ends b hb
  have := (walk_path M.slots M.slots.length (headM M b) (by show chE M b ≤ 0; omega)).1
  rw [show walkE M.slots M.slots.length (headM M b) = -1 - (b : Int) from e] at this
  exact this
theorem Ok.headIn {M : Mm} (h : Ok M) {b : Nat} (hb : b < M.heads.length) : headM M b ≠ 0 ∧ inB (headM M b) (-(M.heads.length : Int)) M.slots.length = true := by
  have hl : b < M.locks.length := by have := h.nl; omega
  have hz : b < (M.heads.zip M.locks).length := by simp; omega
  have := h.chain _ (List.getElem_mem hz)
  simp only [List.getElem_zip, chainErr] at this
  have e : headM M b = M.heads[b] := by simp [headM, List.getD_eq_getElem?_getD, hb]
  rw [e]
  split at this
  · rename_i hh; exact hh
  · omega
theorem OkC.slots {M : Mm} (h : OkC M) {b : Nat} (hb : b < M.heads.length) : ∀ a ∈ chL M b, 0 ≤ a ∧ a < M.slots.length := by
  intro a ha
  have hp := h.path hb
  refine ⟨path_nonneg hp a ha, path_lt (fun s hs => ?_) (by omega) ?_ hp a ha⟩
  · have := (slot_good (h.ok.slot s hs)).2.2.2
    exact ((inB_iff _ _ _).1 this).2
  · exact ((inB_iff _ _ _).1 (h.ok.headIn hb).2).2
theorem mem_allTo {M : Mm} {n : Nat} {a : Int} : a ∈ allTo M n ↔ ∃ b, b < n ∧ a ∈ chL M b := by simp [allTo]
theorem mem_allC {M : Mm} {a : Int} : a ∈ allC M ↔ ∃ b, b < M.heads.length ∧ a ∈ chL M b := mem_allTo
theorem nodup_of_map {α β : Type} {f : α → β} : ∀ {l : List α}, (l.map f).Nodup → l.Nodup
  | [], _ => by simp
  | a :: l, h => by
    rw [List.map_cons, List.nodup_cons] at h
    rw [List.nodup_cons]
    exact ⟨fun hm => h.1 (List.mem_map_of_mem hm), nodup_of_map h.2⟩
theorem allC_split (M : Mm) {b : Nat} (hb : b < M.heads.length) : ∃ l2, allC M = allTo M b ++ chL M b ++ l2 ∧ l2 = ((List.range (M.heads.length - (b + 1))).map (· + (b + 1))).flatMap (chL M) := by
  refine ⟨_, ?_, rfl⟩
  rw [← allTo_succ]
  unfold allC allTo
  rw [← List.flatMap_append]
  congr 1
  rw [show M.heads.length = (b + 1) + (M.heads.length - (b + 1)) by omega, List.range_add]
  simp [Nat.add_comm]
theorem OkC.nodup {M : Mm} (h : OkC M) {b : Nat} (hb : b < M.heads.length) : (chL M b).Nodup := by
  obtain ⟨l2, e, _⟩ := allC_split M hb
  have := nodup_of_map h.keys
  rw [e, List.nodup_append, List.nodup_append] at this
  exact this.1.2.1
theorem OkC.allSlots {M : Mm} (h : OkC M) : ∀ a ∈ allC M, 0 ≤ a ∧ a < M.slots.length := by
  intro a ha
  obtain ⟨b, hb, hm⟩ := mem_allC.1 ha
  exact h.slots hb a hm



end Go.Proofs.Ytdbilofhcadmoab.mm

/- Where chains are right, what is linked or cut out leaves them right; all other flows stay. -/
namespace Go.Proofs.Ytdbilofhcadmoab.mm
set_option linter.unusedVariables false

theorem bucket_in (a b : Int) {n : Nat} (hn : 1 ≤ n) : 0 ≤ bucket a b n ∧ bucket a b n < n := ⟨Int.emod_nonneg _ (by omega), Int.emod_lt_of_pos _ (by omega)⟩
theorem ownB_lt {M : Mm} (h : Ok M) (a : Int) : ownB M a < M.heads.length := by
  have := bucket_in (slotAt M a).a (slotAt M a).b h.nh.1
  unfold ownB; omega
theorem ownB_eq {M : Mm} (h : Ok M) (a : Int) : (ownB M a : Int) = bucket (slotAt M a).a (slotAt M a).b M.heads.length := by
  have := bucket_in (slotAt M a).a (slotAt M a).b h.nh.1
  unfold ownB; omega

theorem flat_congr {f g : Nat → List Int} : ∀ {l : List Nat}, (∀ c ∈ l, f c = g c) → l.flatMap f = l.flatMap g
  | [], _ => rfl
  | c :: l, h => by
    rw [List.flatMap_cons, List.flatMap_cons, h c (by simp), flat_congr (fun x hx => h x (by simp [hx]))]

/- Memory in which one chain is another, and the rest as it was. -/
theorem allC_turn {M M' : Mm} {b : Nat} (hb : b < M.heads.length) (hl : M'.heads.length = M.heads.length) (h : ∀ c, c < M.heads.length → c ≠ b → chL M' c = chL M c) :
    ∃ l1 l2, allC M = l1 ++ chL M b ++ l2 ∧ allC M' = l1 ++ chL M' b ++ l2 := by
  obtain ⟨x, e, ex⟩ := allC_split M hb
  obtain ⟨y, e', ey⟩ := allC_split M' (b := b) (by omega)
  have h1 : allTo M' b = allTo M b := flat_congr fun c hc => by
    rw [List.mem_range] at hc
    exact h c (by omega) (by omega)
  have h2 : y = x := by
    rw [ex, ey, hl]
    refine flat_congr fun c hc => ?_
    simp only [List.mem_map, List.mem_range] at hc
    obtain ⟨d, hd, rfl⟩ := hc
    exact h _ (by omega) (by omega)
  exact ⟨allTo M b, x, e, by rw [e', h1, h2]⟩

theorem slotAt_set {M : Mm} {S : List Sl} {H : List Int} {j : Nat} {s : Sl} (hj : j < M.slots.length) (hS : S = M.slots.set j s) (x : Int) : slotAt { M with slots := S, heads := H } x = if x.toNat = j then s else slotAt M x := by
  subst hS
  unfold slotAt
  dsimp only
  by_cases e : x.toNat = j
  · rw [if_pos e, e, getD_set_same _ _ _ hj]
  · rw [if_neg e, getD_set_other _ _ _ _ (fun h => e h.symm)]
theorem headM_set {M : Mm} {S : List Sl} {b c : Nat} {n : Int} (hb : b < M.heads.length) : headM { M with slots := S, heads := M.heads.set b n } c = if c = b then n else headM M c := by
  unfold headM
  dsimp only
  by_cases e : c = b
  · subst e; rw [if_pos rfl]; simp [List.getD_eq_getElem?_getD, hb]
  · rw [if_neg e]; simp [List.getD_eq_getElem?_getD, List.getElem?_set_ne (fun h => e h.symm)]

/- The turn of one slot's Next and In, and of one begin. -/
theorem Ok.turn {M : Mm} (h : Ok M) {j b : Nat} (hj : j < M.slots.length) {nx hd : Int} {inn : Bool} (h1 : inB nx (-(M.heads.length : Int)) M.slots.length = true) (h2 : hd ≠ 0 ∧ inB hd (-(M.heads.length : Int)) M.slots.length = true) :
    Ok { M with slots := M.slots.set j { slotAt M j with next := nx, inn := inn }, heads := M.heads.set b hd } := by
  have hs : slotAt M j = M.slots[j] := by simp [slotAt, List.getD_eq_getElem?_getD, hj]
  have hgood := slot_good (h.slot _ (List.getElem_mem hj))
  have hr : ∀ i : Nat, ((M.slots.set j { slotAt M j with next := nx, inn := inn }).getD i sl0).refs = (M.slots.getD i sl0).refs := fun i => by
    by_cases e : j = i
    · subst e; rw [getD_set_same _ _ _ hj]; rfl
    · rw [getD_set_other _ _ _ _ e]
  refine ⟨by simpa using h.ns, by simpa using h.nh, by simpa using h.nl, h.now, ?_, ?_, ?_, h.nodup, ?_⟩
  · intro x hx
    dsimp only at hx ⊢
    rw [List.length_set, List.length_set]
    rcases List.mem_or_eq_of_mem_set hx with hx | rfl
    · exact h.slot x hx
    · rw [hs]
      exact good_slot hgood.1 hgood.2.1 hgood.2.2.1 h1
  · intro p hp
    dsimp only at hp ⊢
    rw [List.length_set, List.length_set]
    obtain ⟨i, hi, rfl⟩ := List.getElem_of_mem hp
    have hi' : i < (M.heads.zip M.locks).length := by simpa using hi
    have := h.chain _ (List.getElem_mem hi')
    rw [List.getElem_zip] at this ⊢
    rw [List.getElem_set]
    unfold chainErr at this ⊢
    dsimp only at this ⊢
    by_cases e : b = i
    · rw [if_pos e, if_pos h2]
      split at this
      · exact this
      · omega
    · rw [if_neg e]; exact this
  · intro a ha
    have := (freeOk_iff _ _).1 (h.free a ha)
    rw [freeOk_iff]
    refine ⟨this.1, by simpa using this.2.1, ?_⟩
    rw [hr]; exact this.2.2
  · intro i hi hr'
    dsimp only at hi hr'
    rw [hr] at hr'
    exact h.all i (by simpa using hi) hr'

structure Linked (M M' : Mm) (a : Int) (b : Nat) : Prop where
  okc : OkC M'
  nh : M'.heads.length = M.heads.length
  ns : M'.slots.length = M.slots.length
  at_ : chL M' b = a :: chL M b
  else_ : ∀ c, c < M.heads.length → c ≠ b → chL M' c = chL M c
  key : ∀ x, keyAt M' x = keyAt M x
  unt : ∀ x, (slotAt M' x).unt = (slotAt M x).unt
  refs : ∀ x, (slotAt M' x).refs = (slotAt M x).refs

theorem link_ok {M : Mm} (h : OkC M) {a : Int} (ha : isSl M a = true) (hr : refsM M a ≠ 0) (hk : hasK M (allC M) (keyAt M a) = false) : Linked M (linkM M a) a (ownB M a) := by
  obtain ⟨j, rfl, hj⟩ := (isSl_iff M a).1 ha
  have hb := ownB_lt h.ok j
  have hbe := ownB_eq h.ok j
  have hhd := h.ok.headIn hb
  have hnk : ¬ keyAt M j ∈ (allC M).map (keyAt M) := fun hm => by rw [(hasK_iff M _ _).2 hm] at hk; cases hk
  have hna : ¬ (j : Int) ∈ allC M := fun hm => hnk (List.mem_map_of_mem hm)
  have hok : Ok (linkM M j) := h.ok.turn (b := ownB M j) hj hhd.2 ⟨by omega, by rw [inB_iff]; omega⟩
  have hsl : ∀ x, slotAt (linkM M j) x = if x.toNat = j then { slotAt M j with next := headM M (ownB M j), inn := true } else slotAt M x := fun x => slotAt_set (j := j) hj rfl x
  have hsx : ∀ x : Int, x.toNat = j → slotAt M x = slotAt M j := fun x hx => by unfold slotAt; rw [hx, Int.toNat_natCast]
  have key : ∀ x, keyAt (linkM M j) x = keyAt M x := fun x => by
    unfold keyAt; rw [hsl]; split
    · rename_i e; rw [hsx x e]
    · rfl
  have unt : ∀ x, (slotAt (linkM M j) x).unt = (slotAt M x).unt := fun x => by
    rw [hsl]; split
    · rename_i e; rw [hsx x e]
    · rfl
  have refs : ∀ x, (slotAt (linkM M j) x).refs = (slotAt M x).refs := fun x => by
    rw [hsl]; split
    · rename_i e; rw [hsx x e]
    · rfl
  have hhead : ∀ c, headM (linkM M j) c = if c = ownB M j then (j : Int) + 1 else headM M c := fun c => headM_set hb
  have nh : (linkM M j).heads.length = M.heads.length := by simp [linkM]
  have ns : (linkM M j).slots.length = M.slots.length := by simp [linkM]
  have cong : ∀ c, c < M.heads.length → Path (linkM M j).slots (headM M c) (chL M c) (-1 - (c : Int)) := fun c hc => by
    refine path_congr (fun x hx => ?_) (h.path hc)
    have := hsl x
    have hx0 := h.slots hc x hx
    have hne : x.toNat ≠ j := fun e => hna (mem_allC.2 ⟨c, hc, by rw [show (j : Int) = x by omega]; exact hx⟩)
    rw [if_neg hne] at this
    unfold slotAt at this
    rw [this]
  have other : ∀ c, c < M.heads.length → c ≠ ownB M j → chL (linkM M j) c = chL M c ∧ chE (linkM M j) c = -1 - (c : Int) := fun c hc hne => by
    have hw := (walk_path M.slots M.slots.length (headM M c) (by show chE M c ≤ 0; have := h.ends c hc; omega)).2
    have := path_walk _ M.slots.length _ _ _ (cong c hc) hw
    unfold chL chE
    rw [hhead, if_neg hne, ns]
    exact this
  have own : chL (linkM M j) (ownB M j) = (j : Int) :: chL M (ownB M j) ∧ chE (linkM M j) (ownB M j) = -1 - (ownB M j : Int) := by
    have hp : Path (linkM M j).slots ((j : Int) + 1) ((j : Int) :: chL M (ownB M j)) (-1 - (ownB M j : Int)) := by
      refine ⟨rfl, by omega, ?_⟩
      have := hsl j
      rw [if_pos (Int.toNat_natCast j)] at this
      unfold slotAt at this
      rw [this]
      exact cong _ hb
    have hlen : ((j : Int) :: chL M (ownB M j)).length ≤ M.slots.length := by
      refine few' _ _ ?_ ?_
      · rw [List.nodup_cons]
        exact ⟨fun hm => hna (mem_allC.2 ⟨_, hb, hm⟩), h.nodup hb⟩
      · intro x hx
        rcases List.mem_cons.1 hx with rfl | hx
        · omega
        · exact h.slots hb x hx
    have := path_walk _ M.slots.length _ _ _ hp hlen
    unfold chL chE
    rw [hhead, if_pos rfl, ns]
    exact this
  obtain ⟨l1, l2, e1, e2⟩ := allC_turn hb nh (fun c hc hne => (other c hc hne).1)
  refine ⟨⟨hok, ?_, ?_, ?_⟩, nh, ns, own.1, fun c hc hne => (other c hc hne).1, key, unt, refs⟩
  · intro c hc
    rw [nh] at hc
    by_cases e : c = ownB M j
    · subst e; exact own.2
    · exact (other c hc e).2
  · intro c hc x hx
    rw [nh] at hc ⊢
    have inn : ∀ x, (slotAt M x).inn = true → (slotAt (linkM M j) x).inn = true := fun x hh => by
      rw [hsl]; split
      · rfl
      · exact hh
    have bk : ∀ x, bucket (slotAt (linkM M j) x).a (slotAt (linkM M j) x).b M.heads.length = bucket (slotAt M x).a (slotAt M x).b M.heads.length := fun x => by
      have := key x
      unfold keyAt at this
      injection this with t1 t2
      rw [t1, t2]
    by_cases e : c = ownB M j
    · subst e
      rw [own.1] at hx
      rcases List.mem_cons.1 hx with rfl | hx
      · refine ⟨by rw [refs]; exact hr, ?_, by rw [bk, ← hbe]⟩
        rw [hsl, if_pos (Int.toNat_natCast j)]
      · have := h.held _ hb x hx
        exact ⟨by rw [refs]; exact this.1, inn x this.2.1, by rw [bk]; exact this.2.2⟩
    · rw [(other c hc e).1] at hx
      have := h.held _ hc x hx
      exact ⟨by rw [refs]; exact this.1, inn x this.2.1, by rw [bk]; exact this.2.2⟩
  · rw [show keyAt (linkM M j) = keyAt M from funext key, e2, own.1]
    have hk2 := h.keys
    rw [e1] at hk2
    have hp : (l1 ++ (j : Int) :: chL M (ownB M j) ++ l2).Perm ((j : Int) :: (l1 ++ chL M (ownB M j) ++ l2)) := by
      simp only [List.append_assoc, List.cons_append]
      exact List.perm_middle
    rw [(hp.map _).nodup_iff, List.map_cons, List.nodup_cons]
    exact ⟨by rw [← e1]; exact hnk, hk2⟩

theorem linkE_zero {M : Mm} {a : Int} (h : linkE M a = 0) : OkC M ∧ isSl M a = true ∧ refsM M a ≠ 0 ∧ hasK M (allC M) (keyAt M a) = false := by
  unfold linkE at h
  by_cases h1 : chkC M = 0
  · rw [if_neg (by simpa using h1)] at h
    cases h2 : isSl M a
    · rw [h2] at h; simp at h
    rw [if_neg (by rw [h2]; simp)] at h
    by_cases h3 : refsM M a = 0
    · rw [if_pos h3] at h; omega
    rw [if_neg h3] at h
    cases h4 : hasK M (allC M) (keyAt M a)
    · exact ⟨(chkC_zero M).1 h1, rfl, h3, rfl⟩
    · rw [h4] at h; simp at h
  · rw [if_pos h1] at h; exact absurd h h1
theorem linkE_of {M : Mm} {a : Int} (h : OkC M) (h1 : isSl M a = true) (h2 : refsM M a ≠ 0) (h3 : hasK M (allC M) (keyAt M a) = false) : linkE M a = 0 := by
  unfold linkE
  rw [if_neg (by simpa using (chkC_zero M).2 h), if_neg (by rw [h1]; simp), if_neg h2, h3]; rfl

theorem linked_perm {M M' : Mm} {a : Int} {b : Nat} (hb : b < M.heads.length) (L : Linked M M' a b) : (allC M').Perm (a :: allC M) := by
  obtain ⟨l1, l2, e1, e2⟩ := allC_turn hb L.nh L.else_
  rw [e2, L.at_, e1]
  simp only [List.append_assoc, List.cons_append]
  exact List.perm_middle

/- What is ahead of one in a list. -/
def lastN (l : List Int) : Int := match l.getLast? with | none => 0 | some p => p + 1
theorem lastN_snoc (l : List Int) (c : Int) : lastN (l ++ [c]) = c + 1 := by simp [lastN]
theorem ahead_none {a : Int} : ∀ {l : List Int} {ah la : Int}, ¬ a ∈ l → aheadF a l ah la = ah
  | [], _, _, _ => rfl
  | c :: l, ah, la, h => by
    simp only [List.mem_cons, not_or] at h
    simp only [aheadF]
    rw [if_neg (by simpa using fun e => h.1 (Eq.symm e))]
    exact ahead_none h.2
theorem ahead_at {a : Int} : ∀ {l1 l2 : List Int} {ah la : Int}, ¬ a ∈ l1 → ¬ a ∈ l2 → aheadF a (l1 ++ a :: l2) ah la = match l1.getLast? with | none => la | some p => p + 1
  | [], l2, ah, la, _, h => by simp only [List.nil_append, aheadF]; rw [if_pos (by simp)]; exact ahead_none h
  | c :: l, l2, ah, la, h, h' => by
    simp only [List.mem_cons, not_or] at h
    simp only [List.cons_append, aheadF]
    rw [if_neg (by simpa using fun e => h.1 (Eq.symm e)), ahead_at h.2 h']
    cases l with
    | nil => rfl
    | cons d l => simp [List.getLast?_cons]
theorem prev_at {a : Int} : ∀ {l1 l2 : List Int} {p : Int}, ¬ a ∈ l1 → prevF a (l1 ++ a :: l2) p = match l1.getLast? with | none => p | some q => q + 1
  | [], l2, p, _ => by simp [prevF]
  | c :: l, l2, p, h => by
    simp only [List.mem_cons, not_or] at h
    simp only [List.cons_append, prevF]
    rw [if_neg (by simpa using fun e => h.1 (Eq.symm e)), prev_at h.2]
    cases l with
    | nil => rfl
    | cons d l => simp [List.getLast?_cons]

theorem whoK_mem {M : Mm} {all : List Int} {k : Int × Int} (h : hasK M all k = true) : whoK M all k ∈ all ∧ keyAt M (whoK M all k) = k := by
  rw [hasK_iff, List.mem_map] at h
  obtain ⟨a, ha, hk⟩ := h
  unfold whoK
  cases hf : all.find? fun a => keyAt M a == k with
  | none =>
    rw [List.find?_eq_none] at hf
    have := hf a ha
    simp [hk] at this
  | some x =>
    have h1 := List.mem_of_find?_eq_some hf
    have h2 := List.find?_some hf
    exact ⟨h1, by simpa using h2⟩

structure Cutted (M M' : Mm) (a : Int) (b : Nat) : Prop where
  okc : OkC M'
  nh : M'.heads.length = M.heads.length
  ns : M'.slots.length = M.slots.length
  at_ : ∃ l1 l2, chL M b = l1 ++ a :: l2 ∧ chL M' b = l1 ++ l2
  else_ : ∀ c, c < M.heads.length → c ≠ b → chL M' c = chL M c
  key : ∀ x, keyAt M' x = keyAt M x
  unt : ∀ x, (slotAt M' x).unt = (slotAt M x).unt
  refs : ∀ x, (slotAt M' x).refs = (slotAt M x).refs

theorem cut_ok {M : Mm} (h : OkC M) {b : Nat} (hb : b < M.heads.length) {a : Int} (ha : a ∈ chL M b) : Cutted M (cutM M b (aheadF a (chL M b) 0 0) a) a b := by
  obtain ⟨l1, l2, hl⟩ := List.append_of_mem ha
  have hnd := h.nodup hb
  rw [hl, List.nodup_append, List.nodup_cons] at hnd
  have na1 : ¬ a ∈ l1 := fun hm => hnd.2.2 a hm a (by simp) rfl
  have na2 := hnd.2.1.1
  have hah : aheadF a (chL M b) 0 0 = lastN l1 := by rw [hl, ahead_at na1 na2]; rfl
  have ha0 := h.slots hb a ha
  have hsa : slotAt M a = M.slots[a.toNat]'(by omega) := by simp [slotAt, List.getD_eq_getElem?_getD, show a.toNat < M.slots.length by omega]
  have hnx : inB (slotAt M a).next (-(M.heads.length : Int)) M.slots.length = true := by
    rw [hsa]; exact (slot_good (h.ok.slot _ (List.getElem_mem _))).2.2.2
  have hpath := h.path hb
  rw [hl, path_app] at hpath
  obtain ⟨m, hp1, hm, -, hp2⟩ := hpath
  have hp2' : Path M.slots (slotAt M a).next l2 (-1 - (b : Int)) := hp2
  have hlen : ∀ c, c < M.heads.length → (chL M c).length ≤ M.slots.length := fun c hc => (walk_path M.slots M.slots.length (headM M c) (by show chE M c ≤ 0; have := h.ends c hc; omega)).2
  have apart : ∀ c, c < M.heads.length → c ≠ b → ∀ x, x ∈ chL M b → ¬ x ∈ chL M c := fun c hc hne x hx hx' => by
    have := (h.held b hb x hx).2.2
    have := (h.held c hc x hx').2.2
    omega
  -- what is asked of a memory that is so changed
  have fin : ∀ M' : Mm, Ok M' → M'.heads.length = M.heads.length → M'.slots.length = M.slots.length → (∀ x, keyAt M' x = keyAt M x) → (∀ x, (slotAt M' x).unt = (slotAt M x).unt) → (∀ x, (slotAt M' x).refs = (slotAt M x).refs) → (∀ x, (slotAt M' x).inn = (slotAt M x).inn) →
      Path M'.slots (headM M' b) (l1 ++ l2) (-1 - (b : Int)) → (∀ c, c < M.heads.length → c ≠ b → Path M'.slots (headM M' c) (chL M c) (-1 - (c : Int))) → Cutted M M' a b := by
    intro M' hok nh ns key unt refs inn pb pc
    have own : chL M' b = l1 ++ l2 ∧ chE M' b = -1 - (b : Int) := by
      unfold chL chE
      rw [ns]
      refine path_walk _ _ _ _ _ pb ?_
      have := hlen b hb
      rw [hl] at this
      simp only [List.length_append, List.length_cons] at this ⊢
      omega
    have other : ∀ c, c < M.heads.length → c ≠ b → chL M' c = chL M c ∧ chE M' c = -1 - (c : Int) := fun c hc hne => by
      have := path_walk _ M.slots.length _ _ _ (pc c hc hne) (hlen c hc)
      unfold chL chE
      rw [ns]
      exact this
    obtain ⟨k1, k2, e1, e2⟩ := allC_turn hb nh (fun c hc hne => (other c hc hne).1)
    refine ⟨⟨hok, ?_, ?_, ?_⟩, nh, ns, ⟨l1, l2, hl, own.1⟩, fun c hc hne => (other c hc hne).1, key, unt, refs⟩
    · intro c hc
      rw [nh] at hc
      by_cases e : c = b
      · subst e; exact own.2
      · exact (other c hc e).2
    · intro c hc x hx
      rw [nh] at hc ⊢
      have hx' : x ∈ chL M c := by
        by_cases e : c = b
        · subst e
          rw [own.1] at hx
          rw [hl]
          rcases List.mem_append.1 hx with hx | hx
          · simp [hx]
          · simp [hx]
        · rw [← (other c hc e).1]; exact hx
      have := h.held _ hc x hx'
      have hk := key x
      unfold keyAt at hk
      injection hk with t1 t2
      exact ⟨by rw [refs]; exact this.1, by rw [inn]; exact this.2.1, by rw [t1, t2]; exact this.2.2⟩
    · rw [show keyAt M' = keyAt M from funext key, e2, own.1]
      have hk2 := h.keys
      rw [e1, hl] at hk2
      have hp : (k1 ++ (l1 ++ a :: l2) ++ k2).Perm (a :: (k1 ++ (l1 ++ l2) ++ k2)) := by
        have : k1 ++ (l1 ++ a :: l2) ++ k2 = (k1 ++ l1) ++ a :: (l2 ++ k2) := by simp
        rw [this]
        refine List.perm_middle.trans ?_
        simp
      rw [(hp.map _).nodup_iff, List.map_cons, List.nodup_cons] at hk2
      exact hk2.2
  rw [hah]
  rcases (show l1 = [] ∨ ∃ l' p, l1 = l' ++ [p] by
      rcases List.eq_nil_or_concat l1 with h1 | ⟨l', p, h1⟩
      · exact .inl h1
      · exact .inr ⟨l', p, by rw [h1, List.concat_eq_append]⟩) with rfl | ⟨l', p, rfl⟩
  · rw [show lastN [] = 0 from rfl]
    unfold cutM
    rw [if_neg (by omega)]
    have hq : headM M b = m := hp1
    refine fin _ ?_ (by simp) rfl (fun _ => rfl) (fun _ => rfl) (fun _ => rfl) (fun _ => rfl) ?_ ?_
    · have hn0 : (slotAt M a).next ≠ 0 := by
        intro h0
        rw [h0] at hp2'
        cases l2 with
        | nil => have := hp2'.1; omega
        | cons x l => have := hp2'.1; have := hp2'.2.1; omega
      have := h.ok.turn (j := a.toNat) (b := b) (inn := (slotAt M a).inn) (by omega) hnx ⟨hn0, hnx⟩
      have he : M.slots.set a.toNat { slotAt M (a.toNat : Int) with next := (slotAt M a).next, inn := (slotAt M a).inn } = M.slots := by
        rw [show ((a.toNat : Nat) : Int) = a by omega]
        show M.slots.set a.toNat (slotAt M a) = _
        rw [hsa, List.set_getElem_self]
      rw [he] at this
      exact this
    · have := headM_set (M := M) (S := M.slots) (b := b) (c := b) (n := (slotAt M a).next) hb
      rw [if_pos rfl] at this
      show Path M.slots (headM { M with heads := M.heads.set b (slotAt M a).next } b) _ _
      rw [show headM { M with heads := M.heads.set b (slotAt M a).next } b = (slotAt M a).next from this]
      exact hp2'
    · intro c hc hne
      have := headM_set (M := M) (S := M.slots) (b := b) (c := c) (n := (slotAt M a).next) hb
      rw [if_neg hne] at this
      show Path M.slots (headM { M with heads := M.heads.set b (slotAt M a).next } c) _ _
      rw [show headM { M with heads := M.heads.set b (slotAt M a).next } c = headM M c from this]
      exact h.path hc
  · rw [lastN_snoc]
    rw [pathTo_snoc] at hp1
    have hpm : p ∈ chL M b := by rw [hl]; simp
    have hp0 := h.slots hb p hpm
    unfold cutM
    rw [if_pos (by omega), show p + 1 - 1 = p by omega]
    have hjp : p.toNat < M.slots.length := by omega
    have hsl : ∀ x, slotAt { M with slots := M.slots.set p.toNat { slotAt M p with next := (slotAt M a).next } } x = if x.toNat = p.toNat then { slotAt M p with next := (slotAt M a).next } else slotAt M x := fun x => slotAt_set (H := M.heads) hjp rfl x
    have hsx : ∀ x : Int, x.toNat = p.toNat → slotAt M x = slotAt M p := fun x hx => by unfold slotAt; rw [hx]
    have hpn : ¬ p ∈ l' := by
      intro hm
      rw [List.nodup_append] at hnd
      exact hnd.1.2.2 p hm p (by simp) rfl
    have hpn2 : ¬ p ∈ l2 := fun hm => hnd.2.2 p (by simp) p (by simp [hm]) rfl
    have nxt : ∀ x, x ∈ chL M b ∨ (∃ c, c < M.heads.length ∧ c ≠ b ∧ x ∈ chL M c) → x ≠ p → ((M.slots.set p.toNat { slotAt M p with next := (slotAt M a).next }).getD x.toNat sl0).next = (M.slots.getD x.toNat sl0).next := fun x hx hne => by
      have hx0 : 0 ≤ x := by
        rcases hx with hx | ⟨c, hc, _, hx⟩
        · exact (h.slots hb x hx).1
        · exact (h.slots hc x hx).1
      rw [getD_set_other _ _ _ _ (by omega)]
    refine fin _ ?_ rfl (by simp) ?_ ?_ ?_ ?_ ?_ ?_
    · have hhd := h.ok.headIn hb
      have := h.ok.turn (j := p.toNat) (b := b) (hd := headM M b) (inn := (slotAt M p).inn) hjp hnx hhd
      rw [show ((p.toNat : Nat) : Int) = p by omega] at this
      have he : M.heads.set b (headM M b) = M.heads := by
        rw [show headM M b = M.heads[b] by simp [headM, List.getD_eq_getElem?_getD, hb], List.set_getElem_self]
      rw [he] at this
      exact this
    · intro x; unfold keyAt; rw [hsl]; split
      · rename_i e; rw [hsx x e]
      · rfl
    · intro x; rw [hsl]; split
      · rename_i e; rw [hsx x e]
      · rfl
    · intro x; rw [hsl]; split
      · rename_i e; rw [hsx x e]
      · rfl
    · intro x; rw [hsl]; split
      · rename_i e; rw [hsx x e]
      · rfl
    · show Path (M.slots.set p.toNat { slotAt M p with next := (slotAt M a).next }) (headM M b) (l' ++ [p] ++ l2) (-1 - (b : Int))
      rw [path_app]
      refine ⟨(slotAt M a).next, ?_, path_congr (fun x hx => nxt x (.inl (by rw [hl]; simp [hx])) (fun e => hpn2 (e ▸ hx))) hp2'⟩
      rw [pathTo_snoc]
      refine ⟨pathTo_congr (fun x hx => nxt x (.inl (by rw [hl]; simp [hx])) (fun e => hpn (e ▸ hx))) hp1.1, hp1.2.1, ?_⟩
      rw [getD_set_same _ _ _ hjp]
    · intro c hc hne
      exact path_congr (fun x hx => nxt x (.inr ⟨c, hc, hne, hx⟩) (fun e => apart c hc hne p hpm (e ▸ hx))) (h.path hc)




end Go.Proofs.Ytdbilofhcadmoab.mm
