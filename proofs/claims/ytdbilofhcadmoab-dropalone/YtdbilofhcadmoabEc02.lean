/- Where chains are right, what is linked or cut out leaves them right; all other flows stay. -/
import Derived.Test.YtdbilofhcadmoabEc01
import Derived.Deep.RegionLaw
import Derived.Maps.AppendAt
import Derived.Laws.AppendOwnNone
import Derived.Deep.QuietTactic
import Derived.BigQuiet
import Derived.BigRegion
import Derived.Maps.OwnOps
import Derived.Maps.OwnSet
namespace Go.Proofs.Ytdbilofhcadmoab.mm
set_option linter.unusedVariables false

theorem bucket_in (a b : Int) {n : Nat} (hn : 1 ≤ n) : 0 ≤ bucket a b n ∧ bucket a b n < n := ⟨Int.emod_nonneg _ (by omega), Int.emod_lt_of_pos _ (by omega)⟩
theorem ownB_lt {M : Mm} (h : Ok M) (a : Int) : ownB M a < M.heads.length := by
  have := bucket_in (slotAt M a).a (slotAt M a).b h.nh.1
  unfold ownB; omega
theorem ownB_eq {M : Mm} (h : Ok M) (a : Int) : (ownB M a : Int) = bucket (slotAt M a).a (slotAt M a).b M.heads.length := by
  have := bucket_in (slotAt M a).a (slotAt M a).b h.nh.1
  unfold ownB; omega

theorem flat_congr {f g : Nat → List Int} : ∀ {l : List Nat}, (∀ c ∈ l, f c = g c) → l.flatMap f = l.flatMap g
  | [], _ => rfl
  | c :: l, h => by
    rw [List.flatMap_cons, List.flatMap_cons, h c (by simp), flat_congr (fun x hx => h x (by simp [hx]))]

/- Memory in which one chain is another, and the rest as it was. -/
theorem allC_turn {M M' : Mm} {b : Nat} (hb : b < M.heads.length) (hl : M'.heads.length = M.heads.length) (h : ∀ c, c < M.heads.length → c ≠ b → chL M' c = chL M c) :
    ∃ l1 l2, allC M = l1 ++ chL M b ++ l2 ∧ allC M' = l1 ++ chL M' b ++ l2 := by
  obtain ⟨x, e, ex⟩ := allC_split M hb
  obtain ⟨y, e', ey⟩ := allC_split M' (b := b) (by omega)
  have h1 : allTo M' b = allTo M b := flat_congr fun c hc => by
    rw [List.mem_range] at hc
    exact h c (by omega) (by omega)
  have h2 : y = x := by
    rw [ex, ey, hl]
    refine flat_congr fun c hc => ?_
    simp only [List.mem_map, List.mem_range] at hc
    obtain ⟨d, hd, rfl⟩ := hc
    exact h _ (by omega) (by omega)
  exact ⟨allTo M b, x, e, by rw [e', h1, h2]⟩

theorem slotAt_set {M : Mm} {S : List Sl} {H : List Int} {j : Nat} {s : Sl} (hj : j < M.slots.length) (hS : S = M.slots.set j s) (x : Int) : slotAt { M with slots := S, heads := H } x = if x.toNat = j then s else slotAt M x := by
  subst hS
  unfold slotAt
  dsimp only
  by_cases e : x.toNat = j
  · rw [if_pos e, e, getD_set_same _ _ _ hj]
  · rw [if_neg e, getD_set_other _ _ _ _ (fun h => e h.symm)]
theorem headM_set {M : Mm} {S : List Sl} {b c : Nat} {n : Int} (hb : b < M.heads.length) : headM { M with slots := S, heads := M.heads.set b n } c = if c = b then n else headM M c := by
  unfold headM
  dsimp only
  by_cases e : c = b
  · subst e; rw [if_pos rfl]; simp [List.getD_eq_getElem?_getD, hb]
  · rw [if_neg e]; simp [List.getD_eq_getElem?_getD, List.getElem?_set_ne (fun h => e h.symm)]

/- The turn of one slot's Next and In, and of one begin. -/
theorem Ok.turn {M : Mm} (h : Ok M) {j b : Nat} (hj : j < M.slots.length) {nx hd : Int} {inn : Bool} (h1 : inB nx (-(M.heads.length : Int)) M.slots.length = true) (h2 : hd ≠ 0 ∧ inB hd (-(M.heads.length : Int)) M.slots.length = true) :
    Ok { M with slots := M.slots.set j { slotAt M j with next := nx, inn := inn }, heads := M.heads.set b hd } := by
  have hs : slotAt M j = M.slots[j] := by simp [slotAt, List.getD_eq_getElem?_getD, hj]
  have hgood := slot_good (h.slot _ (List.getElem_mem hj))
  have hr : ∀ i : Nat, ((M.slots.set j { slotAt M j with next := nx, inn := inn }).getD i sl0).refs = (M.slots.getD i sl0).refs := fun i => by
    by_cases e : j = i
    · subst e; rw [getD_set_same _ _ _ hj]; rfl
    · rw [getD_set_other _ _ _ _ e]
  refine ⟨by simpa using h.ns, by simpa using h.nh, by simpa using h.nl, h.now, ?_, ?_, ?_, h.nodup, ?_⟩
  · intro x hx
    dsimp only at hx ⊢
    rw [List.length_set, List.length_set]
    rcases List.mem_or_eq_of_mem_set hx with hx | rfl
    · exact h.slot x hx
    · rw [hs]
      exact good_slot hgood.1 hgood.2.1 hgood.2.2.1 h1
  · intro p hp
    dsimp only at hp ⊢
    rw [List.length_set, List.length_set]
    obtain ⟨i, hi, rfl⟩ := List.getElem_of_mem hp
    have hi' : i < (M.heads.zip M.locks).length := by simpa using hi
    have := h.chain _ (List.getElem_mem hi')
    rw [List.getElem_zip] at this ⊢
    rw [List.getElem_set]
    unfold chainErr at this ⊢
    dsimp only at this ⊢
    by_cases e : b = i
    · rw [if_pos e, if_pos h2]
      split at this
      · exact this
      · omega
    · rw [if_neg e]; exact this
  · intro a ha
    have := (freeOk_iff _ _).1 (h.free a ha)
    rw [freeOk_iff]
    refine ⟨this.1, by simpa using this.2.1, ?_⟩
    rw [hr]; exact this.2.2
  · intro i hi hr'
    dsimp only at hi hr'
    rw [hr] at hr'
    exact h.all i (by simpa using hi) hr'

structure Linked (M M' : Mm) (a : Int) (b : Nat) : Prop where
  okc : OkC M'
  nh : M'.heads.length = M.heads.length
  ns : M'.slots.length = M.slots.length
  at_ : chL M' b = a :: chL M b
  else_ : ∀ c, c < M.heads.length → c ≠ b → chL M' c = chL M c
  key : ∀ x, keyAt M' x = keyAt M x
  unt : ∀ x, (slotAt M' x).unt = (slotAt M x).unt
  refs : ∀ x, (slotAt M' x).refs = (slotAt M x).refs

theorem link_ok {M : Mm} (h : OkC M) {a : Int} (ha : isSl M a = true) (hr : refsM M a ≠ 0) (hk : hasK M (allC M) (keyAt M a) = false) : Linked M (linkM M a) a (ownB M a) := by
  obtain ⟨j, rfl, hj⟩ := (isSl_iff M a).1 ha
  have hb := ownB_lt h.ok j
  have hbe := ownB_eq h.ok j
  have hhd := h.ok.headIn hb
  have hnk : ¬ keyAt M j ∈ (allC M).map (keyAt M) := fun hm => by rw [(hasK_iff M _ _).2 hm] at hk; cases hk
  have hna : ¬ (j : Int) ∈ allC M := fun hm => hnk (List.mem_map_of_mem hm)
  have hok : Ok (linkM M j) := h.ok.turn (b := ownB M j) hj hhd.2 ⟨by omega, by rw [inB_iff]; omega⟩
  have hsl : ∀ x, slotAt (linkM M j) x = if x.toNat = j then { slotAt M j with next := headM M (ownB M j), inn := true } else slotAt M x := fun x => slotAt_set (j := j) hj rfl x
  have hsx : ∀ x : Int, x.toNat = j → slotAt M x = slotAt M j := fun x hx => by unfold slotAt; rw [hx, Int.toNat_natCast]
  have key : ∀ x, keyAt (linkM M j) x = keyAt M x := fun x => by
    unfold keyAt; rw [hsl]; split
    · rename_i e; rw [hsx x e]
    · rfl
  have unt : ∀ x, (slotAt (linkM M j) x).unt = (slotAt M x).unt := fun x => by
    rw [hsl]; split
    · rename_i e; rw [hsx x e]
    · rfl
  have refs : ∀ x, (slotAt (linkM M j) x).refs = (slotAt M x).refs := fun x => by
    rw [hsl]; split
    · rename_i e; rw [hsx x e]
    · rfl
  have hhead : ∀ c, headM (linkM M j) c = if c = ownB M j then (j : Int) + 1 else headM M c := fun c => headM_set hb
  have nh : (linkM M j).heads.length = M.heads.length := by simp [linkM]
  have ns : (linkM M j).slots.length = M.slots.length := by simp [linkM]
  have cong : ∀ c, c < M.heads.length → Path (linkM M j).slots (headM M c) (chL M c) (-1 - (c : Int)) := fun c hc => by
    refine path_congr (fun x hx => ?_) (h.path hc)
    have := hsl x
    have hx0 := h.slots hc x hx
    have hne : x.toNat ≠ j := fun e => hna (mem_allC.2 ⟨c, hc, by rw [show (j : Int) = x by omega]; exact hx⟩)
    rw [if_neg hne] at this
    unfold slotAt at this
    rw [this]
  have other : ∀ c, c < M.heads.length → c ≠ ownB M j → chL (linkM M j) c = chL M c ∧ chE (linkM M j) c = -1 - (c : Int) := fun c hc hne => by
    have hw := (walk_path M.slots M.slots.length (headM M c) (by show chE M c ≤ 0; have := h.ends c hc; omega)).2
    have := path_walk _ M.slots.length _ _ _ (cong c hc) hw
    unfold chL chE
    rw [hhead, if_neg hne, ns]
    exact this
  have own : chL (linkM M j) (ownB M j) = (j : Int) :: chL M (ownB M j) ∧ chE (linkM M j) (ownB M j) = -1 - (ownB M j : Int) := by
    have hp : Path (linkM M j).slots ((j : Int) + 1) ((j : Int) :: chL M (ownB M j)) (-1 - (ownB M j : Int)) := by
      refine ⟨rfl, by omega, ?_⟩
      have := hsl j
      rw [if_pos (Int.toNat_natCast j)] at this
      unfold slotAt at this
      rw [this]
      exact cong _ hb
    have hlen : ((j : Int) :: chL M (ownB M j)).length ≤ M.slots.length := by
      refine few' _ _ ?_ ?_
      · rw [List.nodup_cons]
        exact ⟨fun hm => hna (mem_allC.2 ⟨_, hb, hm⟩), h.nodup hb⟩
      · intro x hx
        rcases List.mem_cons.1 hx with rfl | hx
        · omega
        · exact h.slots hb x hx
    have := path_walk _ M.slots.length _ _ _ hp hlen
    unfold chL chE
    rw [hhead, if_pos rfl, ns]
    exact this
  obtain ⟨l1, l2, e1, e2⟩ := allC_turn hb nh (fun c hc hne => (other c hc hne).1)
  refine ⟨⟨hok, ?_, ?_, ?_⟩, nh, ns, own.1, fun c hc hne => (other c hc hne).1, key, unt, refs⟩
  · intro c hc
    rw [nh] at hc
    by_cases e : c = ownB M j
    · subst e; exact own.2
    · exact (other c hc e).2
  · intro c hc x hx
    rw [nh] at hc ⊢
    have inn : ∀ x, (slotAt M x).inn = true → (slotAt (linkM M j) x).inn = true := fun x hh => by
      rw [hsl]; split
      · rfl
      · exact hh
    have bk : ∀ x, bucket (slotAt (linkM M j) x).a (slotAt (linkM M j) x).b M.heads.length = bucket (slotAt M x).a (slotAt M x).b M.heads.length := fun x => by
      have := key x
      unfold keyAt at this
      injection this with t1 t2
      rw [t1, t2]
    by_cases e : c = ownB M j
    · subst e
      rw [own.1] at hx
      rcases List.mem_cons.1 hx with rfl | hx
      · refine ⟨by rw [refs]; exact hr, ?_, by rw [bk, ← hbe]⟩
        rw [hsl, if_pos (Int.toNat_natCast j)]
      · have := h.held _ hb x hx
        exact ⟨by rw [refs]; exact this.1, inn x this.2.1, by rw [bk]; exact this.2.2⟩
    · rw [(other c hc e).1] at hx
      have := h.held _ hc x hx
      exact ⟨by rw [refs]; exact this.1, inn x this.2.1, by rw [bk]; exact this.2.2⟩
  · rw [show keyAt (linkM M j) = keyAt M from funext key, e2, own.1]
    have hk2 := h.keys
    rw [e1] at hk2
    have hp : (l1 ++ (j : Int) :: chL M (ownB M j) ++ l2).Perm ((j : Int) :: (l1 ++ chL M (ownB M j) ++ l2)) := by
      simp only [List.append_assoc, List.cons_append]
      exact List.perm_middle
    rw [(hp.map _).nodup_iff, List.map_cons, List.nodup_cons]
    exact ⟨by rw [← e1]; exact hnk, hk2⟩

theorem linkE_zero {M : Mm} {a : Int} (h : linkE M a = 0) : OkC M ∧ isSl M a = true ∧ refsM M a ≠ 0 ∧ hasK M (allC M) (keyAt M a) = false := by
  unfold linkE at h
  by_cases h1 : chkC M = 0
  · rw [if_neg (by simpa using h1)] at h
    cases h2 : isSl M a
    · rw [h2] at h; simp at h
    rw [if_neg (by rw [h2]; simp)] at h
    by_cases h3 : refsM M a = 0
    · rw [if_pos h3] at h; omega
    rw [if_neg h3] at h
    cases h4 : hasK M (allC M) (keyAt M a)
    · exact ⟨(chkC_zero M).1 h1, rfl, h3, rfl⟩
    · rw [h4] at h; simp at h
  · rw [if_pos h1] at h; exact absurd h h1
theorem linkE_of {M : Mm} {a : Int} (h : OkC M) (h1 : isSl M a = true) (h2 : refsM M a ≠ 0) (h3 : hasK M (allC M) (keyAt M a) = false) : linkE M a = 0 := by
  unfold linkE
  rw [if_neg (by simpa using (chkC_zero M).2 h), if_neg (by rw [h1]; simp), if_neg h2, h3]; rfl

theorem linked_perm {M M' : Mm} {a : Int} {b : Nat} (hb : b < M.heads.length) (L : Linked M M' a b) : (allC M').Perm (a :: allC M) := by
  obtain ⟨l1, l2, e1, e2⟩ := allC_turn hb L.nh L.else_
  rw [e2, L.at_, e1]
  simp only [List.append_assoc, List.cons_append]
  exact List.perm_middle

/- What is ahead of one in a list. -/
def lastN (l : List Int) : Int := match l.getLast? with | none => 0 | some p => p + 1
theorem lastN_snoc (l : List Int) (c : Int) : lastN (l ++ [c]) = c + 1 := by simp [lastN]
theorem ahead_none {a : Int} : ∀ {l : List Int} {ah la : Int}, ¬ a ∈ l → aheadF a l ah la = ah
  | [], _, _, _ => rfl
  | c :: l, ah, la, h => by
    simp only [List.mem_cons, not_or] at h
    simp only [aheadF]
    rw [if_neg (by simpa using fun e => h.1 (Eq.symm e))]
    exact ahead_none h.2
theorem ahead_at {a : Int} : ∀ {l1 l2 : List Int} {ah la : Int}, ¬ a ∈ l1 → ¬ a ∈ l2 → aheadF a (l1 ++ a :: l2) ah la = match l1.getLast? with | none => la | some p => p + 1
  | [], l2, ah, la, _, h => by simp only [List.nil_append, aheadF]; rw [if_pos (by simp)]; exact ahead_none h
  | c :: l, l2, ah, la, h, h' => by
    simp only [List.mem_cons, not_or] at h
    simp only [List.cons_append, aheadF]
    rw [if_neg (by simpa using fun e => h.1 (Eq.symm e)), ahead_at h.2 h']
    cases l with
    | nil => rfl
    | cons d l => simp [List.getLast?_cons]
theorem prev_at {a : Int} : ∀ {l1 l2 : List Int} {p : Int}, ¬ a ∈ l1 → prevF a (l1 ++ a :: l2) p = match l1.getLast? with | none => p | some q => q + 1
  | [], l2, p, _ => by simp [prevF]
  | c :: l, l2, p, h => by
    simp only [List.mem_cons, not_or] at h
    simp only [List.cons_append, prevF]
    rw [if_neg (by simpa using fun e => h.1 (Eq.symm e)), prev_at h.2]
    cases l with
    | nil => rfl
    | cons d l => simp [List.getLast?_cons]

theorem whoK_mem {M : Mm} {all : List Int} {k : Int × Int} (h : hasK M all k = true) : whoK M all k ∈ all ∧ keyAt M (whoK M all k) = k := by
  rw [hasK_iff, List.mem_map] at h
  obtain ⟨a, ha, hk⟩ := h
  unfold whoK
  cases hf : all.find? fun a => keyAt M a == k with
  | none =>
    rw [List.find?_eq_none] at hf
    have := hf a ha
    simp [hk] at this
  | some x =>
    have h1 := List.mem_of_find?_eq_some hf
    have h2 := List.find?_some hf
    exact ⟨h1, by simpa using h2⟩

structure Cutted (M M' : Mm) (a : Int) (b : Nat) : Prop where
  okc : OkC M'
  nh : M'.heads.length = M.heads.length
  ns : M'.slots.length = M.slots.length
  at_ : ∃ l1 l2, chL M b = l1 ++ a :: l2 ∧ chL M' b = l1 ++ l2
  else_ : ∀ c, c < M.heads.length → c ≠ b → chL M' c = chL M c
  key : ∀ x, keyAt M' x = keyAt M x
  unt : ∀ x, (slotAt M' x).unt = (slotAt M x).unt
  refs : ∀ x, (slotAt M' x).refs = (slotAt M x).refs

theorem cut_ok {M : Mm} (h : OkC M) {b : Nat} (hb : b < M.heads.length) {a : Int} (ha : a ∈ chL M b) : Cutted M (cutM M b (aheadF a (chL M b) 0 0) a) a b := by
  obtain ⟨l1, l2, hl⟩ := List.append_of_mem ha
  have hnd := h.nodup hb
  rw [hl, List.nodup_append, List.nodup_cons] at hnd
  have na1 : ¬ a ∈ l1 := fun hm => hnd.2.2 a hm a (by simp) rfl
  have na2 := hnd.2.1.1
  have hah : aheadF a (chL M b) 0 0 = lastN l1 := by rw [hl, ahead_at na1 na2]; rfl
  have ha0 := h.slots hb a ha
  have hsa : slotAt M a = M.slots[a.toNat]'(by omega) := by simp [slotAt, List.getD_eq_getElem?_getD, show a.toNat < M.slots.length by omega]
  have hnx : inB (slotAt M a).next (-(M.heads.length : Int)) M.slots.length = true := by
    rw [hsa]; exact (slot_good (h.ok.slot _ (List.getElem_mem _))).2.2.2
  have hpath := h.path hb
  rw [hl, path_app] at hpath
  obtain ⟨m, hp1, hm, -, hp2⟩ := hpath
  have hp2' : Path M.slots (slotAt M a).next l2 (-1 - (b : Int)) := hp2
  have hlen : ∀ c, c < M.heads.length → (chL M c).length ≤ M.slots.length := fun c hc => (walk_path M.slots M.slots.length (headM M c) (by show chE M c ≤ 0; have := h.ends c hc; omega)).2
  have apart : ∀ c, c < M.heads.length → c ≠ b → ∀ x, x ∈ chL M b → ¬ x ∈ chL M c := fun c hc hne x hx hx' => by
    have := (h.held b hb x hx).2.2
    have := (h.held c hc x hx').2.2
    omega
  -- what is asked of a memory that is so changed
  have fin : ∀ M' : Mm, Ok M' → M'.heads.length = M.heads.length → M'.slots.length = M.slots.length → (∀ x, keyAt M' x = keyAt M x) → (∀ x, (slotAt M' x).unt = (slotAt M x).unt) → (∀ x, (slotAt M' x).refs = (slotAt M x).refs) → (∀ x, (slotAt M' x).inn = (slotAt M x).inn) →
      Path M'.slots (headM M' b) (l1 ++ l2) (-1 - (b : Int)) → (∀ c, c < M.heads.length → c ≠ b → Path M'.slots (headM M' c) (chL M c) (-1 - (c : Int))) → Cutted M M' a b := by
    intro M' hok nh ns key unt refs inn pb pc
    have own : chL M' b = l1 ++ l2 ∧ chE M' b = -1 - (b : Int) := by
      unfold chL chE
      rw [ns]
      refine path_walk _ _ _ _ _ pb ?_
      have := hlen b hb
      rw [hl] at this
      simp only [List.length_append, List.length_cons] at this ⊢
      omega
    have other : ∀ c, c < M.heads.length → c ≠ b → chL M' c = chL M c ∧ chE M' c = -1 - (c : Int) := fun c hc hne => by
      have := path_walk _ M.slots.length _ _ _ (pc c hc hne) (hlen c hc)
      unfold chL chE
      rw [ns]
      exact this
    obtain ⟨k1, k2, e1, e2⟩ := allC_turn hb nh (fun c hc hne => (other c hc hne).1)
    refine ⟨⟨hok, ?_, ?_, ?_⟩, nh, ns, ⟨l1, l2, hl, own.1⟩, fun c hc hne => (other c hc hne).1, key, unt, refs⟩
    · intro c hc
      rw [nh] at hc
      by_cases e : c = b
      · subst e; exact own.2
      · exact (other c hc e).2
    · intro c hc x hx
      rw [nh] at hc ⊢
      have hx' : x ∈ chL M c := by
        by_cases e : c = b
        · subst e
          rw [own.1] at hx
          rw [hl]
          rcases List.mem_append.1 hx with hx | hx
          · simp [hx]
          · simp [hx]
        · rw [← (other c hc e).1]; exact hx
      have := h.held _ hc x hx'
      have hk := key x
      unfold keyAt at hk
      injection hk with t1 t2
      exact ⟨by rw [refs]; exact this.1, by rw [inn]; exact this.2.1, by rw [t1, t2]; exact this.2.2⟩
    · rw [show keyAt M' = keyAt M from funext key, e2, own.1]
      have hk2 := h.keys
      rw [e1, hl] at hk2
      have hp : (k1 ++ (l1 ++ a :: l2) ++ k2).Perm (a :: (k1 ++ (l1 ++ l2) ++ k2)) := by
        have : k1 ++ (l1 ++ a :: l2) ++ k2 = (k1 ++ l1) ++ a :: (l2 ++ k2) := by simp
        rw [this]
        refine List.perm_middle.trans ?_
        simp
      rw [(hp.map _).nodup_iff, List.map_cons, List.nodup_cons] at hk2
      exact hk2.2
  rw [hah]
  rcases (show l1 = [] ∨ ∃ l' p, l1 = l' ++ [p] by
      rcases List.eq_nil_or_concat l1 with h1 | ⟨l', p, h1⟩
      · exact .inl h1
      · exact .inr ⟨l', p, by rw [h1, List.concat_eq_append]⟩) with rfl | ⟨l', p, rfl⟩
  · rw [show lastN [] = 0 from rfl]
    unfold cutM
    rw [if_neg (by omega)]
    have hq : headM M b = m := hp1
    refine fin _ ?_ (by simp) rfl (fun _ => rfl) (fun _ => rfl) (fun _ => rfl) (fun _ => rfl) ?_ ?_
    · have hn0 : (slotAt M a).next ≠ 0 := by
        intro h0
        rw [h0] at hp2'
        cases l2 with
        | nil => have := hp2'.1; omega
        | cons x l => have := hp2'.1; have := hp2'.2.1; omega
      have := h.ok.turn (j := a.toNat) (b := b) (inn := (slotAt M a).inn) (by omega) hnx ⟨hn0, hnx⟩
      have he : M.slots.set a.toNat { slotAt M (a.toNat : Int) with next := (slotAt M a).next, inn := (slotAt M a).inn } = M.slots := by
        rw [show ((a.toNat : Nat) : Int) = a by omega]
        show M.slots.set a.toNat (slotAt M a) = _
        rw [hsa, List.set_getElem_self]
      rw [he] at this
      exact this
    · have := headM_set (M := M) (S := M.slots) (b := b) (c := b) (n := (slotAt M a).next) hb
      rw [if_pos rfl] at this
      show Path M.slots (headM { M with heads := M.heads.set b (slotAt M a).next } b) _ _
      rw [show headM { M with heads := M.heads.set b (slotAt M a).next } b = (slotAt M a).next from this]
      exact hp2'
    · intro c hc hne
      have := headM_set (M := M) (S := M.slots) (b := b) (c := c) (n := (slotAt M a).next) hb
      rw [if_neg hne] at this
      show Path M.slots (headM { M with heads := M.heads.set b (slotAt M a).next } c) _ _
      rw [show headM { M with heads := M.heads.set b (slotAt M a).next } c = headM M c from this]
      exact h.path hc
  · rw [lastN_snoc]
    rw [pathTo_snoc] at hp1
    have hpm : p ∈ chL M b := by rw [hl]; simp
    have hp0 := h.slots hb p hpm
    unfold cutM
    rw [if_pos (by omega), show p + 1 - 1 = p by omega]
    have hjp : p.toNat < M.slots.length := by omega
    have hsl : ∀ x, slotAt { M with slots := M.slots.set p.toNat { slotAt M p with next := (slotAt M a).next } } x = if x.toNat = p.toNat then { slotAt M p with next := (slotAt M a).next } else slotAt M x := fun x => slotAt_set (H := M.heads) hjp rfl x
    have hsx : ∀ x : Int, x.toNat = p.toNat → slotAt M x = slotAt M p := fun x hx => by unfold slotAt; rw [hx]
    have hpn : ¬ p ∈ l' := by
      intro hm
      rw [List.nodup_append] at hnd
      exact hnd.1.2.2 p hm p (by simp) rfl
    have hpn2 : ¬ p ∈ l2 := fun hm => hnd.2.2 p (by simp) p (by simp [hm]) rfl
    have nxt : ∀ x, x ∈ chL M b ∨ (∃ c, c < M.heads.length ∧ c ≠ b ∧ x ∈ chL M c) → x ≠ p → ((M.slots.set p.toNat { slotAt M p with next := (slotAt M a).next }).getD x.toNat sl0).next = (M.slots.getD x.toNat sl0).next := fun x hx hne => by
      have hx0 : 0 ≤ x := by
        rcases hx with hx | ⟨c, hc, _, hx⟩
        · exact (h.slots hb x hx).1
        · exact (h.slots hc x hx).1
      rw [getD_set_other _ _ _ _ (by omega)]
    refine fin _ ?_ rfl (by simp) ?_ ?_ ?_ ?_ ?_ ?_
    · have hhd := h.ok.headIn hb
      have := h.ok.turn (j := p.toNat) (b := b) (hd := headM M b) (inn := (slotAt M p).inn) hjp hnx hhd
      rw [show ((p.toNat : Nat) : Int) = p by omega] at this
      have he : M.heads.set b (headM M b) = M.heads := by
        rw [show headM M b = M.heads[b] by simp [headM, List.getD_eq_getElem?_getD, hb], List.set_getElem_self]
      rw [he] at this
      exact this
    · intro x; unfold keyAt; rw [hsl]; split
      · rename_i e; rw [hsx x e]
      · rfl
    · intro x; rw [hsl]; split
      · rename_i e; rw [hsx x e]
      · rfl
    · intro x; rw [hsl]; split
      · rename_i e; rw [hsx x e]
      · rfl
    · intro x; rw [hsl]; split
      · rename_i e; rw [hsx x e]
      · rfl
    · show Path (M.slots.set p.toNat { slotAt M p with next := (slotAt M a).next }) (headM M b) (l' ++ [p] ++ l2) (-1 - (b : Int))
      rw [path_app]
      refine ⟨(slotAt M a).next, ?_, path_congr (fun x hx => nxt x (.inl (by rw [hl]; simp [hx])) (fun e => hpn2 (e ▸ hx))) hp2'⟩
      rw [pathTo_snoc]
      refine ⟨pathTo_congr (fun x hx => nxt x (.inl (by rw [hl]; simp [hx])) (fun e => hpn (e ▸ hx))) hp1.1, hp1.2.1, ?_⟩
      rw [getD_set_same _ _ _ hjp]
    · intro c hc hne
      exact path_congr (fun x hx => nxt x (.inr ⟨c, hc, hne, hx⟩) (fun e => apart c hc hne p hpm (e ▸ hx))) (h.path hc)





end Go.Proofs.Ytdbilofhcadmoab.mm

/- Contracts of the numbers that stand behind slots: ToSlot, ToEnd, SlotOf, HasChain; append onto a row of one's own as one step of a region that draws. -/
namespace Go.Proofs.Ytdbilofhcadmoab.mm
open Go.ChangeShapes Go.WideShapes Go.ChangeAt Go.RowKit
set_option linter.unusedVariables false

theorem toEnd_any (b : Int) (w : World) (h0 : 0 ≤ b) (h1 : b ≤ 1000) : Calls Try.prog 139 #[.int .i64 b] w fun e w' => e = .returned (.int .i64 (-1 - b)) ∧ w = w' := by
  go_enter Try.func139, Try.ntmps139
  go_wp2
  go_ret
  exact ⟨by go_num, rfl⟩
theorem toSlot_any (b : Int) (w : World) (h0 : 0 ≤ b) (h1 : b ≤ 1000) : Calls Try.prog 148 #[.int .i64 b] w fun e w' => e = .returned (.int .i64 (b + 1)) ∧ w = w' := by
  go_enter Try.func148, Try.ntmps148
  go_wp2
  go_ret
  exact ⟨by go_num, rfl⟩
theorem slotOf_no (n : Int) (w : World) (h : n ≤ 0) : Calls Try.prog 144 #[.int .i64 n] w fun e w' => e = .returned (.tuple #[.int .i64 0, .bool false]) ∧ w = w' := by
  go_enter Try.func144, Try.ntmps144
  go_wp2
  go_ret2
  exact ⟨rfl, rfl⟩
theorem slotOf_is (n : Int) (w : World) (h : 0 < n) (h1 : n ≤ 1000) : Calls Try.prog 144 #[.int .i64 n] w fun e w' => e = .returned (.tuple #[.int .i64 (n - 1), .bool true]) ∧ w = w' := by
  go_enter Try.func144, Try.ntmps144
  go_wp2
  go_ret2
  exact ⟨by go_num, rfl⟩
theorem hasChain_any (aS aH aF aL : Option Addr) (nS nH nF nL cS cH cF cL : Nat) (now a : Int) (w : World) (hn : nH ≤ 9223372036854775807) :
    Calls Try.prog 75 #[.agg #[.slice aS nS cS, .slice aH nH cH, .slice aF nF cF, .slice aL nL cL, .int .i64 now], .int .i64 a] w fun e w' => e = .returned (.bool (inB a 0 ((nH : Int) - 1))) ∧ Below w.heap.size w w' := by
  by_cases h : 0 ≤ a
  · by_cases h2 : a < nH
    · go_enter Try.func75, Try.ntmps75
      go_wp2
      go_ret
      refine ⟨?_, one_below _ _⟩
      rw [show inB a 0 ((nH : Int) - 1) = true from (inB_iff _ _ _).2 ⟨h, by omega⟩]; rfl
    · have h3 : (nH : Int) ≤ a := by omega
      go_enter Try.func75, Try.ntmps75
      go_wp2
      go_ret
      refine ⟨?_, one_below _ _⟩
      rw [show inB a 0 ((nH : Int) - 1) = false by simp [inB]; omega]; rfl
  · have h' : a < 0 := by omega
    go_enter Try.func75, Try.ntmps75
    go_wp2
    go_ret
    refine ⟨?_, one_below _ _⟩
    rw [show inB a 0 ((nH : Int) - 1) = false by simp [inB]; omega]; rfl

theorem step_append_own_at {P : Program} (w : World) {ops : Array Oper} {o : Oper} {a : Act} {K : Act → World → Prop} {Q : Exit → Act → World → Prop} {E : Prop} (hgd : o.guard = none) (s x : Operand) (t : TypeId)
    (ho : o.op = .call { callee := .builtin .append, args := #[s, x], argTypes := #[t, t] })
    (base : Nat) (e : TypeId) (i : TypeInfo) (z : Value) (size bytes : Nat) (ht : P.underlying t = some (.slice e)) (hi : P.info? e = some i) (hz : i.zero = some z)
    (hsize : i.size = size) (hby : i.bytes = bytes) (hzs : z.cells.size = size) (hsz : 0 < size)
    (v : Value) (n : Nat) (xs : List Value) (hs : a.eval s = v) (hown : w.ownsRow base e size v n xs)
    (ad : Addr) (m c : Nat) (news : List Value) (hx : a.eval x = .slice (some ad) m c) (hl : news.length = m * size) (hnews : ∀ j u, news[j]? = some u → w.cell? (ad.add j) = some u) (h1 : ∀ u ∈ news, u.oneCell' = true)
    (h63 : n + m ≤ maxLen) (hbytes : (n + m) * bytes ≤ 140737488355328) (hbase : base ≤ w.heap.size)
    (h : ∀ v' w', w'.ownsRow base e size v' (n + m) (xs ++ news) → w.grownBy w' v.ownBlock → (v' = .slice none 0 0 ↔ v = .slice none 0 0 ∧ m = 0) → (v'.ownBlock = v.ownBlock ∨ v'.ownBlock = some w.heap.size) → K (a.put o.dst v') w') :
    if Region.wanted o (yielded ops a.tmps) = true then Oper.wp P o a w K Q else E := by
  have hw : Region.wanted o (yielded ops a.tmps) = true := by simp [Region.wanted, hgd]
  rw [if_pos hw]
  obtain ⟨v', w', hr, h2, h3, h4, h5⟩ := run_append_own_at (P := P) w base t o.type e i z size bytes ht hi hz hsize hby hzs hsz v n xs hown ad m c news hl hnews h1 h63 hbytes hbase
  unfold Oper.wp execOp
  simp only [ho, resolve, invoke, builtin, Sem.run_bind, Sem.run_pure, Result.andThen_ok, List.map_toArray, List.map_cons, List.map_nil, hs, hx, hr]
  exact h v' w' h2 h3 h4 h5





end Go.Proofs.Ytdbilofhcadmoab.mm

/- The contracts of the document's own TakeIn, HoldIn, PutIn on memory of one's own. -/
namespace Go.Proofs.Ytdbilofhcadmoab.mm
open Go.ChangeShapes Go.WideShapes Go.ChangeAt Go.RowKit Go.Joins Go.Deep
set_option maxRecDepth 100000
set_option linter.unusedVariables false

theorem rhold_no (w : World) (B gS nS j cS : Nat) (hv fv lv nv : Value) (r : Int)
    (hB : w.heap[B]? = some (.cells #[.slice (some ⟨gS, 0, none⟩) nS cS, hv, fv, lv, nv] 25 (0, 0))) (hj : j < nS) (hS : nS ≤ 9223372036854775807) (c0 : w.cell? ⟨gS, j * 6, none⟩ = some (.int .i64 r)) (hr : r ≤ 0 ∨ 1000 ≤ r) :
    Calls Try.prog 101 #[.pointer (some ⟨B, 0, none⟩), .int .i64 j] w fun e w' => e = .returned (.bool false) ∧ w = w' := by
  obtain ⟨q0, q1, q2, q3, q4, f0, f1, f2, f3, f4, qs⟩ := boxf hB
  clear hB
  by_cases h0 : r ≤ 0
  · go_enter Try.func101, Try.ntmps101
    go_wp2
    go_ret
    exact ⟨rfl, rfl⟩
  · have h1 : 1000 ≤ r := by omega
    have h2 : 0 < r := by omega
    go_enter Try.func101, Try.ntmps101
    go_wp2
    go_ret
    exact ⟨rfl, rfl⟩

theorem rhold_yes (w : World) (B gS nS j cS : Nat) (hv fv lv nv : Value) (r : Int)
    (hB : w.heap[B]? = some (.cells #[.slice (some ⟨gS, 0, none⟩) nS cS, hv, fv, lv, nv] 25 (0, 0))) (hj : j < nS) (hS : nS ≤ 9223372036854775807) (c0 : w.cell? ⟨gS, j * 6, none⟩ = some (.int .i64 r)) (f0 : w.frozen? ⟨gS, j * 6, none⟩ = false) (h0 : 0 < r) (h1 : r < 1000) :
    Calls Try.prog 101 #[.pointer (some ⟨B, 0, none⟩), .int .i64 j] w fun e w' => e = .returned (.bool true) ∧ w.setCell ⟨gS, j * 6, none⟩ (.int .i64 (r + 1)) = w' := by
  obtain ⟨q0, q1, q2, q3, q4, -, -, -, -, -, qs⟩ := boxf hB
  clear hB
  go_enter Try.func101, Try.ntmps101
  go_wp2
  go_ret
  exact ⟨rfl, rfl⟩

theorem rhold_fail (M : Mm) (w : World) (B lo : Nat) (aS aH aF aL : Option Addr) (cS cH cF cL : Nat) (i : Int) (m : Mine w B lo aS aH aF aL cS cH cF cL M) (h0 : 0 ≤ i) (h1 : i < M.slots.length) (hr : refsM M i ≤ 0 ∨ 1000 ≤ refsM M i) :
    Calls Try.prog 101 #[.pointer (some ⟨B, 0, none⟩), .int .i64 i] w fun e w' => e = .returned (.bool false) ∧ w = w' := by
  obtain ⟨j, rfl⟩ : ∃ j : Nat, i = j := ⟨i.toNat, by omega⟩
  have hj : j < M.slots.length := by omega
  have m1 := m.m1
  obtain ⟨gS, rfl, -, -, -, -⟩ := row_form m.c.s (by omega)
  rw [refsM_at M j hj] at hr
  exact rhold_no w B gS _ j cS _ _ _ _ _ m.box hj (by omega) (row_cells m.c.s hj).1 hr

theorem rhold_now (M : Mm) (w : World) (B lo : Nat) (aS aH aF aL : Option Addr) (cS cH cF cL : Nat) (i : Int) (m : Mine w B lo aS aH aF aL cS cH cF cL M) (h0 : 0 ≤ i) (h1 : i < M.slots.length) (hr : 0 < refsM M i) (hr1 : refsM M i < 1000) :
    Calls Try.prog 101 #[.pointer (some ⟨B, 0, none⟩), .int .i64 i] w fun e w' => e = .returned (.bool true) ∧ Now w w' B lo (holdM M i) := by
  obtain ⟨j, rfl⟩ : ∃ j : Nat, i = j := ⟨i.toNat, by omega⟩
  have hj : j < M.slots.length := by omega
  have m1 := m.m1
  obtain ⟨gS, rfl, oS, -, -, -⟩ := row_form m.c.s (by omega)
  have hrr := refsM_at M j hj
  rw [hrr] at hr hr1
  obtain ⟨c0, -, -, -, -, -, fz⟩ := row_cells m.c.s hj
  refine (rhold_yes w B gS _ j cS _ _ _ _ _ m.box hj (by omega) c0 (fz _) hr hr1).mono ?_
  rintro e w' ⟨rfl, rfl⟩
  have mt := turned m hj (M.slots[j].refs + 1)
  rw [← hrr] at mt ⊢
  exact ⟨rfl, _, _, _, _, _, _, _, _, mt, (Kept.refl w B lo).setCell oS _⟩

theorem rput_none (w : World) (B gS nS j cS : Nat) (hv fv lv nv : Value)
    (hB : w.heap[B]? = some (.cells #[.slice (some ⟨gS, 0, none⟩) nS cS, hv, fv, lv, nv] 25 (0, 0))) (hj : j < nS) (hS : nS ≤ 9223372036854775807) (c0 : w.cell? ⟨gS, j * 6, none⟩ = some (.int .i64 0)) :
    Calls Try.prog 102 #[.pointer (some ⟨B, 0, none⟩), .int .i64 j] w fun e w' => e = .returned (.tuple #[]) ∧ w = w' := by
  obtain ⟨q0, q1, q2, q3, q4, f0, f1, f2, f3, f4, qs⟩ := boxf hB
  clear hB
  go_enter Try.func102, Try.ntmps102
  go_wp2
  go_end0
  exact ⟨rfl, rfl⟩

theorem rput_more (w : World) (B gS nS j cS : Nat) (hv fv lv nv : Value) (r : Int)
    (hB : w.heap[B]? = some (.cells #[.slice (some ⟨gS, 0, none⟩) nS cS, hv, fv, lv, nv] 25 (0, 0))) (hj : j < nS) (hS : nS ≤ 9223372036854775807) (c0 : w.cell? ⟨gS, j * 6, none⟩ = some (.int .i64 r)) (f0 : w.frozen? ⟨gS, j * 6, none⟩ = false) (h0 : 1 < r) (h1 : r ≤ 1000) :
    Calls Try.prog 102 #[.pointer (some ⟨B, 0, none⟩), .int .i64 j] w fun e w' => e = .returned (.tuple #[]) ∧ w.setCell ⟨gS, j * 6, none⟩ (.int .i64 (r - 1)) = w' := by
  obtain ⟨q0, q1, q2, q3, q4, -, -, -, -, -, qs⟩ := boxf hB
  clear hB
  have e0 : (r == 0) = false := by rw [beq_eq_false_iff_ne]; omega
  have e1 : (r == 1) = false := by rw [beq_eq_false_iff_ne]; omega
  go_enter Try.func102, Try.ntmps102
  go_wp2
  go_end0
  exact ⟨rfl, rfl⟩

/- append of a list, nil or not, onto a row of one's own. -/
theorem wpList_app {P : Program} (w : World) {ops : Array Oper} {rest : List Oper} {o : Oper} {a : Act} {Q : Exit → Act → World → Prop} (hgd : o.guard = none) (s x : Operand) (t : TypeId)
    (ho : o.op = .call { callee := .builtin .append, args := #[s, x], argTypes := #[t, t] })
    (base : Nat) (e : TypeId) (i : TypeInfo) (z : Value) (size bytes : Nat) (ht : P.underlying t = some (.slice e)) (hi : P.info? e = some i) (hz : i.zero = some z)
    (hsize : i.size = size) (hby : i.bytes = bytes) (hzs : z.cells.size = size) (hsz : 0 < size)
    (v : Value) (n : Nat) (xs : List Value) (hs : a.eval s = v) (hown : w.ownsRow base e size v n xs)
    (ao : Option Addr) (m c : Nat) (news : List Value) (hx : a.eval x = .slice ao m c) (hl : news.length = m * size) (hn : ao = none → m = 0 ∧ c = 0) (hnews : ∀ ad, ao = some ad → ∀ j u, news[j]? = some u → w.cell? (ad.add j) = some u) (h1 : ∀ u ∈ news, u.oneCell' = true)
    (h63 : n + m ≤ maxLen) (hbytes : (n + m) * bytes ≤ 140737488355328) (hbase : base ≤ w.heap.size)
    (h : ∀ v' w', w'.ownsRow base e size v' (n + m) (xs ++ news) → w.grownBy w' v.ownBlock → (v'.ownBlock = v.ownBlock ∨ v'.ownBlock = some w.heap.size) → wpList P ops Q rest (a.put o.dst v') w') :
    wpList P ops Q (o :: rest) a w := by
  cases ao with
  | some ad => exact wpList_append_own_at w hgd s x t ho base e i z size bytes ht hi hz hsize hby hzs hsz v n xs hs hown ad m c news hx hl (hnews ad rfl) h1 h63 hbytes hbase fun v' w' a1 a2 _ a4 => h v' w' a1 a2 a4
  | none =>
    obtain ⟨rfl, rfl⟩ := hn rfl
    have hnil : news = [] := List.eq_nil_of_length_eq_zero (by rw [hl, Nat.zero_mul])
    subst hnil
    have hr := run_append_owned_none (P := P) w base t o.type e i size ht hi v n xs hown
    refine wpList_plain hgd fun K hK => ?_
    unfold Oper.wp execOp
    simp only [ho, resolve, invoke, builtin, Sem.run_bind, Sem.run_pure, Result.andThen_ok, List.map_toArray, List.map_cons, List.map_nil, hs, hx, hr]
    refine hK _ _ (h v w ?_ ⟨rfl, rfl, rfl, Nat.le_refl _, fun _ _ _ => rfl⟩ (.inl rfl))
    rw [Nat.add_zero, List.append_nil]
    exact hown

theorem lit_row (w : World) (e : TypeId) (size lo n : Nat) (hn : n = w.heap.size) (h : lo ≤ w.heap.size) : (w.alloc (.cells #[] e)).ownsRow lo e size (.slice (some ⟨n, 0, none⟩) 0 0) 0 [] := by
  subst hn
  exact World.ownsRow_lit w #[] 0 h (Nat.zero_le _) (by simp)

set_option maxHeartbeats 1600000 in
theorem rput_last (w : World) (B gS nS j lo cS cF : Nat) (aF : Option Addr) (F : List Int) (hv lv nv : Value)
    (hB : w.heap[B]? = some (.cells #[.slice (some ⟨gS, 0, none⟩) nS cS, hv, .slice aF F.length cF, lv, nv] 25 (0, 0))) (hj : j < nS) (hS : nS ≤ 9223372036854775807) (c0 : w.cell? ⟨gS, j * 6, none⟩ = some (.int .i64 1)) (f0 : w.frozen? ⟨gS, j * 6, none⟩ = false)
    (hne : B ≠ gS) (hO : IRow (w.setCell ⟨gS, j * 6, none⟩ (.int .i64 0)) aF cF F) (hm : F.length * 8 ≤ 140737488350000) :
    Calls Try.prog 102 #[.pointer (some ⟨B, 0, none⟩), .int .i64 j] w fun e w' => e = .returned (.tuple #[]) ∧ ∃ a' c' w1, Below w.heap.size (w.setCell ⟨gS, j * 6, none⟩ (.int .i64 0)) w1 ∧
      w1.ownsRow w.heap.size 3 1 (.slice a' (F.length + 1) c') (F.length + 1) (encI (F ++ [(j : Int)])) ∧ w1.setCell ⟨B, 2, none⟩ (.slice a' (F.length + 1) c') = w' := by
  obtain ⟨q0, q1, q2, q3, q4, -, -, f2, -, -, qs⟩ := boxf hB
  obtain ⟨i0, hi, hz0, hz1, hz2⟩ := info_parts iI
  have hne' : (⟨gS, j * 6, none⟩ : Addr) ≠ ⟨B, 2, none⟩ := by intro h; injection h with h; omega
  have hBs : (w.setCell ⟨gS, j * 6, none⟩ (.int .i64 0)).heap[B]? = _ := (Below.heap_setCell _ _ _ _ (by dsimp only; exact hne)).trans hB
  have HO : Hid (IRow (w.setCell ⟨gS, j * 6, none⟩ (.int .i64 0)) aF cF F) := hO
  have HBs : Hid _ := hBs
  have hzw : (w.setCell ⟨gS, j * 6, none⟩ (.int .i64 0)).heap.size = w.heap.size := World.size_setCell ..
  have HZw : Hid _ := hzw
  have HB : Hid _ := hB
  clear hB hO hBs hzw
  have HN : Hid (aF = none → F.length = 0 ∧ cF = 0) := fun h => ⟨by have := HO.out.nil h; have := HO.out.le; omega, HO.out.nil h⟩
  have HSr : Hid (∀ ad, aF = some ad → ∀ j' u, (encI F)[j']? = some u → ((w.setCell ⟨gS, j * 6, none⟩ (.int .i64 0)).alloc (.cells #[] 3)).cell? (ad.add j') = some u) := (HO.out.below (one_below _ _)).src
  have HLt : Hid (((w.setCell ⟨gS, j * 6, none⟩ (.int .i64 0)).alloc (.cells #[] 3)).ownsRow w.heap.size 3 1 (.slice (some ⟨w.heap.size, 0, none⟩) 0 0) 0 []) := lit_row _ 3 1 w.heap.size _ HZw.out.symm (Nat.le_of_eq HZw.out.symm)
  have hL63 : 0 + F.length ≤ maxLen := by unfold maxLen; omega
  have HLB : Hid (w.heap.size ≤ ((w.setCell ⟨gS, j * 6, none⟩ (.int .i64 0)).alloc (.cells #[] 3)).heap.size) := by show _ ≤ _; simp
  have HE : Hid ((encI F).length = F.length * 1) := by show _ = _; rw [encI_len, Nat.mul_one]
  go_enter Try.func102, Try.ntmps102
  go_wp2_with (first
    | (at_builtin; (refine wpList_app _ rfl (.tmp 35) (.tmp 39) 23 rfl w.heap.size 3 i0 (.int .i64 0) 1 8 Try.underlying23 hi hz0 hz1 hz2 rfl (by decide) (.slice (some ⟨w.heap.size, 0, none⟩) 0 0) 0 [] rfl HLt.out aF F.length cF (encI F) rfl HE.out HN.out HSr.out (encI_one F) hL63 (by omega) HLB.out ?_; intro v1 w1 hown1 hgrow1 hloc1; rw [Nat.zero_add, List.nil_append] at hown1; obtain ⟨a1, c1, rfl⟩ := own_shape hown1; have HO1 : Hid (w1.ownsRow w.heap.size 3 1 (.slice a1 F.length c1) F.length (encI F)) := hown1; have HG1 : Hid (((w.setCell ⟨gS, j * 6, none⟩ (.int .i64 0)).alloc (.cells #[] 3)).grownBy w1 (some w.heap.size)) := hgrow1; clear hown1 hgrow1 hloc1; have HZ1 : Hid (w.heap.size + 1 ≤ w1.heap.size) := (by have := HG1.out.size; simp at this; exact this)))
    | (at_builtin; (refine wpList_append_own_at _ rfl (.tmp 40) (.tmp 42) 23 rfl w.heap.size 3 i0 (.int .i64 0) 1 8 Try.underlying23 hi hz0 hz1 hz2 rfl (by decide) (.slice a1 F.length c1) F.length (encI F) rfl (HO1.out.alloc _) ⟨w1.heap.size, 0, none⟩ 1 1 [.int .i64 j] rfl rfl (one_new _ _ _ _ rfl) (by intro u hu; simp at hu; subst hu; rfl) (by unfold maxLen; omega) (by omega) (by simp; have := HZ1.out; omega) ?_; intro v2 w2 hown2 hgrow2 _ hloc2; obtain ⟨g2, c2, rfl⟩ := ownsRow_form hown2 (by omega); have HO2 : Hid (w2.ownsRow w.heap.size 3 1 (.slice (some ⟨g2, 0, none⟩) (F.length + 1) c2) (F.length + 1) (encI F ++ [.int .i64 j])) := hown2; have HG2 : Hid ((w1.alloc (.cells #[.int .i64 j] 3)).grownBy w2 (Value.slice a1 F.length c1).ownBlock) := hgrow2; clear hown2 hgrow2 hloc2; have HK2 : Hid (Below w.heap.size (w.setCell ⟨gS, j * 6, none⟩ (.int .i64 0)) w2) := (((((Below.refl _ _).alloc (by rw [HZw.out]; exact Nat.le_refl _) _).grown HG1.out (by simp) (fun k h => by cases h; exact Nat.le_refl _)).alloc (by have := HZ1.out; omega) _).grown HG2.out (by simp; have := HZ1.out; omega) (fun k h => (HO1.out.lt k h).1)); obtain ⟨r2, r3⟩ : w2.cell? ⟨B, 2, none⟩ = some (.slice aF F.length cF) ∧ w2.frozen? ⟨B, 2, none⟩ = false := (by obtain ⟨-, -, k2, -, -, -, -, l2, -, -, -⟩ := boxf ((HK2.out.block B qs).trans HBs.out); exact ⟨k2, l2⟩))))
  go_end0
  refine ⟨rfl, _, _, w2, HK2.out, ?_, rfl⟩
  have := HO2.out
  rwa [show encI F ++ [.int .i64 (j : Int)] = encI (F ++ [(j : Int)]) by simp [encI]] at this

theorem rput_now (M : Mm) (w : World) (B lo : Nat) (aS aH aF aL : Option Addr) (cS cH cF cL : Nat) (i : Int) (m : Mine w B lo aS aH aF aL cS cH cF cL M) (h0 : 0 ≤ i) (h1 : i < M.slots.length) (hr : 0 < refsM M i) (hr1 : refsM M i ≤ 1000) (hm : M.free.length * 8 ≤ 140737488350000) :
    Calls Try.prog 102 #[.pointer (some ⟨B, 0, none⟩), .int .i64 i] w fun e w' => e = .returned (.tuple #[]) ∧ Now w w' B lo (putM M i) := by
  obtain ⟨j, rfl⟩ : ∃ j : Nat, i = j := ⟨i.toNat, by omega⟩
  have hj : j < M.slots.length := by omega
  have m1 := m.m1
  obtain ⟨gS, rfl, oS, -, -, -⟩ := row_form m.c.s (by omega)
  have hrr := refsM_at M j hj
  obtain ⟨c0, -, -, -, -, -, fz⟩ := row_cells m.c.s hj
  by_cases hl : refsM M j = 1
  · rw [← hrr, hl] at c0
    have mt := turned m hj 0
    refine (rput_last w B gS _ j lo cS cF aF M.free _ _ _ m.box hj (by omega) c0 (fz _) m.ne_s mt.at.f hm).mono ?_
    rintro e w' ⟨rfl, a', c', w1, hb, ho, rfl⟩
    have e1 : putM M j = { M with slots := setRefs M j 0, free := M.free ++ [(j : Int)] } := by simp [putM, hl]
    have hlen : (M.free ++ [(j : Int)]).length = M.free.length + 1 := by simp
    rw [e1]
    have hz : (w.setCell ⟨gS, j * 6, none⟩ (.int .i64 0)).heap.size = w.heap.size := World.size_setCell ..
    rw [← hz] at hb ho
    have mg := mt.newF (M.free ++ [(j : Int)]) (by rw [hlen]; omega) hb hlen ho
    refine ⟨rfl, _, _, _, _, _, _, _, _, mg, ?_⟩
    have k1 : Kept w _ B lo := ((Kept.refl w B lo).setCell (j := j * 6) oS (.int .i64 0)).below hb mt.c.lz
    exact k1.setBox _
  · have hr2 : 1 < M.slots[j].refs := by omega
    refine (rput_more w B gS _ j cS _ _ _ _ _ m.box hj (by omega) c0 (fz _) hr2 (by omega)).mono ?_
    rintro e w' ⟨rfl, rfl⟩
    have e1 : putM M j = { M with slots := setRefs M j (refsM M j - 1) } := by simp [putM, hl]
    rw [e1]
    have mt := turned m hj (M.slots[j].refs - 1)
    rw [← hrr] at mt ⊢
    exact ⟨rfl, _, _, _, _, _, _, _, _, mt, (Kept.refl w B lo).setCell oS _⟩

theorem take_mid {w W1 w2 : World} {ob : Obj} (hb : Below w.heap.size w W1) (hk : W1.heap[w.heap.size]? = some ob) (hz : W1.heap.size = w.heap.size + 1) (hg : ((W1.alloc (.cells #[] 3)).drew).grownBy w2 (some W1.heap.size)) :
    Below w.heap.size w w2 ∧ w.heap.size < w2.heap.size ∧ w2.heap[w.heap.size]? = some ob := by
  have h1 : Below W1.heap.size W1 w2 := ((one_below W1 (.cells #[] 3)).drew).grown hg (by simp) (fun k h => by cases h; exact Nat.le_refl _)
  refine ⟨hb.trans (h1.mono (by omega)), by have := h1.size; omega, (h1.block _ (by omega)).trans hk⟩
theorem take_cells {w w2 : World} {gS j : Nat} {r a b v nx : Int} {i : Bool} (hb : Below w.heap.size w w2) (l : gS < w.heap.size)
    (c0 : w.cell? ⟨gS, j * 6, none⟩ = some (.int .i64 r)) (c1 : w.cell? ⟨gS, j * 6 + 1, none⟩ = some (.int .i64 a)) (c2 : w.cell? ⟨gS, j * 6 + 2, none⟩ = some (.int .i64 b)) (c3 : w.cell? ⟨gS, j * 6 + 3, none⟩ = some (.int .i64 v)) (c4 : w.cell? ⟨gS, j * 6 + 4, none⟩ = some (.bool i)) (c5 : w.cell? ⟨gS, j * 6 + 5, none⟩ = some (.int .i64 nx))
    (hfz : ∀ q, w.frozen? ⟨gS, q, none⟩ = false) : w2.cell? ⟨gS, j * 6, none⟩ = some (.int .i64 r) ∧ w2.cell? ⟨gS, j * 6 + 1, none⟩ = some (.int .i64 a) ∧ w2.cell? ⟨gS, j * 6 + 2, none⟩ = some (.int .i64 b) ∧ w2.cell? ⟨gS, j * 6 + 3, none⟩ = some (.int .i64 v) ∧ w2.cell? ⟨gS, j * 6 + 4, none⟩ = some (.bool i) ∧ w2.cell? ⟨gS, j * 6 + 5, none⟩ = some (.int .i64 nx) ∧ ∀ q, w2.frozen? ⟨gS, q, none⟩ = false := by
  obtain ⟨q, f⟩ := bcell hb
  exact ⟨(q _ _ l).trans c0, (q _ _ l).trans c1, (q _ _ l).trans c2, (q _ _ l).trans c3, (q _ _ l).trans c4, (q _ _ l).trans c5, fun x => (f _ _ l).trans (hfz x)⟩




end Go.Proofs.Ytdbilofhcadmoab.mm

/- The contract of the document's own IsKey; a set of ints as a map of one's own. -/
namespace Go.Proofs.Ytdbilofhcadmoab.mm
open Go.ChangeShapes Go.WideShapes Go.ChangeAt Go.RowKit Go.Maps
set_option maxRecDepth 100000
set_option linter.unusedVariables false

theorem isKey_any (a b : Int) (w : World) :
    Calls Try.prog 82 #[.agg #[.int .i64 a, .int .i64 b]] w fun e w' => e = .returned (.bool (keyB a b)) ∧ Below w.heap.size w w' := by
  cases h : keyB a b
  · have hc : a < 0 ∨ (0 ≤ a ∧ 15 < a) ∨ (0 ≤ a ∧ a ≤ 15 ∧ b < 0) ∨ (0 ≤ a ∧ a ≤ 15 ∧ 0 ≤ b ∧ 15 < b) := by
      have : ¬ ((0 ≤ a ∧ a ≤ 15) ∧ (0 ≤ b ∧ b ≤ 15)) := fun hh => by rw [(keyB_iff a b).2 hh] at h; cases h
      omega
    clear h
    rcases hc with h | ⟨h1, h2⟩ | ⟨h1, h2, h3⟩ | ⟨h1, h2, h3, h4⟩
    rotate_left 3
    · have hd : decide (b ≤ 15) = false := by simp; omega
      go_enter Try.func82, Try.ntmps82
      go_wp2
      go_ret
      exact ⟨rfl, one_below _ _⟩
    all_goals
      go_enter Try.func82, Try.ntmps82
      go_wp2
      go_ret
      exact ⟨rfl, one_below _ _⟩
  · obtain ⟨⟨h0, h1⟩, h2, h3⟩ := (keyB_iff a b).1 h
    clear h
    go_enter Try.func82, Try.ntmps82
    go_wp2
    go_ret
    exact ⟨rfl, one_below _ _⟩

theorem law3 : Keyed Try.prog 3 := int_keyed Try.underlying3
theorem zero4 (w : World) : (zeroValue 4).run Try.prog w = .ok (.bool false) w := by kernel_rfl
theorem under130 : Try.prog.underlying 130 = some (.map 3 4) := by kernel_rfl

theorem plainElem_bool_inv {H : Type} {v : Value} {z : DataW H × List MemPlace} (h : plainElem Try.prog 4 v = some z) : ∃ x, v = .bool x ∧ z = (.lit (.bool x), []) := by
  unfold plainElem at h
  rw [Try.underlying4] at h
  cases v <;> simp at h
  exact ⟨_, rfl, h.symm⟩

/- Block g is a map whose keys that are true are these. -/
def SetAt (w : World) (g : Nat) (l : List Int) : Prop :=
  ∃ n, n ≤ l.length ∧ ∃ D : DataW Unit, w.ownsMap Try.prog 3 (plainElem Try.prog 4) g n D ∧ ∀ x : Int, D.atKey (.int .i64 x) (.lit (.bool false)) = .lit (.bool (hasB l x))

theorem SetAt.made (w : World) : SetAt (w.alloc (.map #[] 0)) w.heap.size [] :=
  ⟨0, Nat.le_refl _, _, World.ownsMap_made w Try.prog 3 _, fun x => by simp [hasB, DataW.atKey]⟩
theorem SetAt.kept {w w' : World} {g : Nat} {l : List Int} (h : SetAt w g l) (hb : w'.heap[g]? = w.heap[g]?) : SetAt w' g l := by
  obtain ⟨n, hn, D, ⟨es, clock, hg, F, hs, hD⟩, hat⟩ := h
  exact ⟨n, hn, D, ⟨es, clock, hb.trans hg, F, hs, hD⟩, hat⟩
theorem SetAt.lt {w : World} {g : Nat} {l : List Int} (h : SetAt w g l) : g < w.heap.size := by
  obtain ⟨n, hn, D, ⟨es, clock, hg, F, hs, hD⟩, hat⟩ := h
  exact lt_of_block hg
theorem SetAt.look {w : World} {g : Nat} {l : List Int} (h : SetAt w g l) {x : Int} (hx : (Lit.int .i64 x).wf = true) : (Instr.lookup 130 (.map (some g)) (.int .i64 x) false).run Try.prog w = .ok (.bool (hasB l x)) w := by
  obtain ⟨n, hn, D, ho, hat⟩ := h
  obtain ⟨v, ps, hrun, hv⟩ := ho.lookup law3 under130 (zero4 w) (plainElem_bool Try.underlying4 false) (keyOf_int_mk Try.underlying3 hx)
  rw [hat x] at hv
  obtain ⟨y, rfl, hz⟩ := plainElem_bool_inv hv
  rw [hrun]
  injection hz with h1 h2
  injection h1 with h1
  injection h1 with h1
  rw [h1]
theorem wf64 {x : Int} (h0 : -9223372036854775808 ≤ x) (h1 : x ≤ 9223372036854775807) : (Lit.int .i64 x).wf = true := by
  have e1 : IntKind.i64.min = -9223372036854775808 := by decide
  have e2 : IntKind.i64.max = 9223372036854775807 := by decide
  simp [Lit.wf, e1, e2]
  omega
theorem SetAt.put {w w' : World} {g n : Nat} {l : List Int} {D : DataW Unit} {x : Int} (hn : n ≤ l.length) (ho : w.ownsMap Try.prog 3 (plainElem Try.prog 4) g n D) (hat : ∀ x : Int, D.atKey (.int .i64 x) (.lit (.bool false)) = .lit (.bool (hasB l x)))
    (h : w'.ownsMap Try.prog 3 (plainElem Try.prog 4) g (n + 1) (D.put (.int .i64 x) (.lit (.bool true)))) : SetAt w' g (l ++ [x]) := by
  refine ⟨n + 1, by simp; omega, _, h, fun y => ?_⟩
  by_cases e : y = x
  · subst e
    rw [atKey_put_same (ho.tidy law3).isMap (by simp [WideAt.IsKeyLit])]
    simp [hasB]
  · rw [atKey_put_other (by intro hh; injection hh with _ hh; exact e hh), hat y]
    simp [hasB, e]





end Go.Proofs.Ytdbilofhcadmoab.mm
