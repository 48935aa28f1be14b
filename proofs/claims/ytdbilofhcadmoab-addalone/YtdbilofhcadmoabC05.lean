/- Memory of one's own: four rows in blocks of their own, whatever room they have; what stays where it is changed; memory as a value. -/
import Derived.Test.YtdbilofhcadmoabC04
import Derived.Maps.AppendAt
import Derived.WalkSmall
namespace Go.Proofs.Ytdbilofhcadmoab.mm
open Go.ChangeShapes Go.WideShapes Go.ChangeAt Go.RowKit Go.Joins
set_option linter.unusedVariables false

theorem boxf {w : World} {B : Nat} {v0 v1 v2 v3 v4 : Value} {t : TypeId} (h : w.heap[B]? = some (.cells #[v0, v1, v2, v3, v4] t (0, 0))) :
    w.cell? ⟨B, 0, none⟩ = some v0 ∧ w.cell? ⟨B, 1, none⟩ = some v1 ∧ w.cell? ⟨B, 2, none⟩ = some v2 ∧ w.cell? ⟨B, 3, none⟩ = some v3 ∧ w.cell? ⟨B, 4, none⟩ = some v4 ∧
    w.frozen? ⟨B, 0, none⟩ = false ∧ w.frozen? ⟨B, 1, none⟩ = false ∧ w.frozen? ⟨B, 2, none⟩ = false ∧ w.frozen? ⟨B, 3, none⟩ = false ∧ w.frozen? ⟨B, 4, none⟩ = false ∧ B < w.heap.size :=
  ⟨by rw [cell_of_block h]; rfl, by rw [cell_of_block h]; rfl, by rw [cell_of_block h]; rfl, by rw [cell_of_block h]; rfl, by rw [cell_of_block h]; rfl,
    unfrozen_of_block h _, unfrozen_of_block h _, unfrozen_of_block h _, unfrozen_of_block h _, unfrozen_of_block h _, lt_of_block h⟩

/- Two slices don't lie in one block. -/
def Dj (v v' : Value) : Prop := ∀ g, v.ownBlock = some g → v'.ownBlock ≠ some g

theorem Dj.symm {v v' : Value} (h : Dj v v') : Dj v' v := fun g e e' => h g e' e

theorem own_shape {w : World} {lo size n : Nat} {e : TypeId} {v : Value} {xs : List Value} (h : w.ownsRow lo e size v n xs) : ∃ ao cap, v = .slice ao n cap := by
  rcases ownsRow_forms h with ⟨rfl, rfl⟩ | ⟨g, cap, rfl⟩
  · exact ⟨_, _, rfl⟩
  · exact ⟨_, _, rfl⟩

theorem own_at {w : World} {lo size n g : Nat} {e : TypeId} {v : Value} {xs : List Value} (h : w.ownsRow lo e size v n xs) (hg : v.ownBlock = some g) : ∃ cur, w.heap[g]? = some (.cells cur e (0, 0)) := by
  rcases h.2 with ⟨rfl, _⟩ | ⟨g', cap, cur, rfl, _, hb, _⟩
  · cases hg
  · cases hg
    exact ⟨_, hb⟩

theorem own_ne {w : World} {lo size n B : Nat} {e t : TypeId} {v : Value} {xs : List Value} {cs : Array Value} (h : w.ownsRow lo e size v n xs) (hB : w.heap[B]? = some (.cells cs t (0, 0))) (ne : e ≠ t) : v.ownBlock ≠ some B := by
  intro hg
  obtain ⟨cur, hc⟩ := own_at h hg
  rw [hB] at hc
  injection hc with hc
  injection hc with _ hc
  exact ne hc.symm

theorem own_dj {w : World} {lo size n lo' size' n' : Nat} {e e' : TypeId} {v v' : Value} {xs xs' : List Value} (h : w.ownsRow lo e size v n xs) (h' : w.ownsRow lo' e' size' v' n' xs') (ne : e ≠ e') : Dj v v' := by
  intro g hg hg'
  obtain ⟨cur, hc⟩ := own_at h hg
  exact own_ne h' hc (Ne.symm ne) hg'

theorem Dj.grown {w : World} {v u u' : Value} (h : Dj v u) (hv : ∀ g, v.ownBlock = some g → g < w.heap.size) (hloc : u'.ownBlock = u.ownBlock ∨ u'.ownBlock = some w.heap.size) : Dj v u' := by
  intro g hg hg'
  rcases hloc with e | e
  · exact h g hg (e ▸ hg')
  · have := hv g hg
    rw [e] at hg'
    injection hg' with hg'
    omega

theorem Dj.ne {v u : Value} (h : Dj v u) : v.ownBlock = none ∨ v.ownBlock ≠ u.ownBlock := by
  cases hv : v.ownBlock with
  | none => exact .inl rfl
  | some g => exact .inr (fun e => h g hv e.symm)

theorem dj_len {a b : Option Addr} {n c m d n' c' m' d' : Nat} (h : Dj (.slice a n c) (.slice b m d)) : Dj (.slice a n' c') (.slice b m' d') := by
  cases a <;> cases b <;> exact h

/- Where four slices lie: at no block ahead of one. -/
structure Hi4 (lo : Nat) (aS aH aF aL : Option Addr) : Prop where
  s : ∀ ad, aS = some ad → lo ≤ ad.block
  h : ∀ ad, aH = some ad → lo ≤ ad.block
  f : ∀ ad, aF = some ad → lo ≤ ad.block
  l : ∀ ad, aL = some ad → lo ≤ ad.block

theorem hi_some {lo g : Nat} (h : lo ≤ g) : ∀ ad, (some ⟨g, 0, none⟩ : Option Addr) = some ad → lo ≤ ad.block := by
  rintro ad ⟨⟩
  exact h

/- A value is memory, and it lies so in the world. -/
def Ans (lo : Nat) (w : World) (v : Value) (M : Mm) : Prop :=
  ∃ aS aH aF aL cS cH cF cL, v = .agg #[.slice aS M.slots.length cS, .slice aH M.heads.length cH, .slice aF M.free.length cF, .slice aL M.locks.length cL, .int .i64 M.now] ∧ At w aS aH aF aL cS cH cF cL M ∧ Hi4 lo aS aH aF aL

theorem Hi4.mono {lo lo' : Nat} {aS aH aF aL : Option Addr} (h : Hi4 lo aS aH aF aL) (hl : lo' ≤ lo) : Hi4 lo' aS aH aF aL :=
  ⟨fun a e => Nat.le_trans hl (h.s a e), fun a e => Nat.le_trans hl (h.h a e), fun a e => Nat.le_trans hl (h.f a e), fun a e => Nat.le_trans hl (h.l a e)⟩

theorem Ans.below {lo : Nat} {w w' : World} {v : Value} {M : Mm} (h : Ans lo w v M) (hb : Below w.heap.size w w') : Ans lo w' v M := by
  obtain ⟨aS, aH, aF, aL, cS, cH, cF, cL, e, A, hi⟩ := h
  exact ⟨aS, aH, aF, aL, cS, cH, cF, cL, e, A.below hb, hi⟩

theorem Ans.mono {lo lo' : Nat} {w : World} {v : Value} {M : Mm} (h : Ans lo w v M) (hl : lo' ≤ lo) : Ans lo' w v M := by
  obtain ⟨aS, aH, aF, aL, cS, cH, cF, cL, e, A, hi⟩ := h
  exact ⟨aS, aH, aF, aL, cS, cH, cF, cL, e, A, hi.mono hl⟩

theorem ans0 (lo : Nat) (w : World) : Ans lo w (.agg #[.slice none 0 0, .slice none 0 0, .slice none 0 0, .slice none 0 0, .int .i64 0]) m0 :=
  ⟨none, none, none, none, 0, 0, 0, 0, rfl, ⟨⟨by decide, by decide, fun _ => rfl, .inl rfl⟩, ⟨by decide, by decide, fun _ => rfl, .inl rfl⟩, ⟨by decide, by decide, fun _ => rfl, .inl rfl⟩, ⟨by decide, by decide, fun _ => rfl, .inl rfl⟩⟩, ⟨(fun _ h => by cases h), (fun _ h => by cases h), (fun _ h => by cases h), (fun _ h => by cases h)⟩⟩

def set5 (w : World) (g : Nat) (v0 v1 v2 v3 v4 : Value) : World :=
  ((((w.setCell ⟨g, 0, none⟩ v0).setCell ⟨g, 1, none⟩ v1).setCell ⟨g, 2, none⟩ v2).setCell ⟨g, 3, none⟩ v3).setCell ⟨g, 4, none⟩ v4
theorem set5_block {w : World} {g : Nat} {u0 u1 u2 u3 u4 : Value} {t : TypeId} (h : w.heap[g]? = some (.cells #[u0, u1, u2, u3, u4] t (0, 0))) (v0 v1 v2 v3 v4 : Value) : (set5 w g v0 v1 v2 v3 v4).heap[g]? = some (.cells #[v0, v1, v2, v3, v4] t (0, 0)) := by
  have := block_setCell (i := 4) (block_setCell (i := 3) (block_setCell (i := 2) (block_setCell (i := 1) (block_setCell (i := 0) h v0) v1) v2) v3) v4
  rw [set5, this]
  simp
theorem set5_other {w : World} {g k : Nat} {v0 v1 v2 v3 v4 : Value} (h : k ≠ g) : (set5 w g v0 v1 v2 v3 v4).heap[k]? = w.heap[k]? := by
  unfold set5
  repeat rw [Below.heap_setCell _ _ _ _ (by dsimp only; exact h)]
theorem set5_below (w : World) (g B : Nat) (v0 v1 v2 v3 v4 : Value) (h : B ≤ g) : Below B w (set5 w g v0 v1 v2 v3 v4) := by
  unfold set5
  iterate 5 (refine Below.setCell ?_ (by dsimp only; exact h) _)
  exact Below.refl _ _
theorem set5_size (w : World) (g : Nat) (v0 v1 v2 v3 v4 : Value) : (set5 w g v0 v1 v2 v3 v4).heap.size = w.heap.size := by simp [set5]
theorem own_set5 {w : World} {lo size n g : Nat} {e : TypeId} {v : Value} {xs : List Value} (h : w.ownsRow lo e size v n xs) (hne : v.ownBlock ≠ some g) (v0 v1 v2 v3 v4 : Value) : (set5 w g v0 v1 v2 v3 v4).ownsRow lo e size v n xs := by
  unfold set5
  iterate 5 (refine ownsRow_setCell_other ?_ hne _)
  exact h

/- What is stored into a box of one's own changes no list that lies elsewhere. -/
theorem SRow.off {w w' : World} {ao : Option Addr} {cap : Nat} {l : List Sl} (r : SRow w ao cap l) (g : Nat) (hg : ∀ ad, ao = some ad → ad.block ≠ g) (h : ∀ k, k ≠ g → w'.heap[k]? = w.heap[k]?) : SRow w' ao cap l := by
  refine ⟨r.le, r.max, r.nil, ?_⟩
  rcases r.at_ with h0 | ⟨b, o, e, hc⟩
  · exact .inl h0
  · by_cases h0 : l.length = 0
    · exact .inl h0
    refine .inr ⟨b, o, e, fun i hi => ?_⟩
    have q : ∀ x, w'.cell? ⟨b, x, none⟩ = w.cell? ⟨b, x, none⟩ := fun x => World.cell?_of_block (a := ⟨b, x, none⟩) (h b (hg _ e))
    rw [q, q, q, q, q, q]
    exact hc i hi
theorem IRow.off {w w' : World} {ao : Option Addr} {cap : Nat} {l : List Int} (r : IRow w ao cap l) (g : Nat) (hg : ∀ ad, ao = some ad → ad.block ≠ g) (h : ∀ k, k ≠ g → w'.heap[k]? = w.heap[k]?) : IRow w' ao cap l := by
  refine ⟨r.le, r.max, r.nil, ?_⟩
  rcases r.at_ with h0 | ⟨b, o, e, hc⟩
  · exact .inl h0
  · by_cases h0 : l.length = 0
    · exact .inl h0
    refine .inr ⟨b, o, e, fun i hi => ?_⟩
    rw [World.cell?_of_block (a := ⟨b, o + i, none⟩) (h b (hg _ e))]
    exact hc i hi
theorem At.off {w w' : World} {aS aH aF aL : Option Addr} {cS cH cF cL lo g : Nat} {M : Mm} (A : At w aS aH aF aL cS cH cF cL M) (hi : Hi4 lo aS aH aF aL) (hg : g < lo) (h : ∀ k, k ≠ g → w'.heap[k]? = w.heap[k]?) : At w' aS aH aF aL cS cH cF cL M :=
  ⟨A.s.off g (fun ad e => by have := hi.s ad e; omega) h, A.h.off g (fun ad e => by have := hi.h ad e; omega) h, A.f.off g (fun ad e => by have := hi.f ad e; omega) h, A.l.off g (fun ad e => by have := hi.l ad e; omega) h⟩

/- Rows of one's own hold memory. -/
structure Rw (w : World) (lo : Nat) (aS aH aF aL : Option Addr) (cS cH cF cL : Nat) (M : Mm) : Prop where
  s : w.ownsRow lo 39 6 (.slice aS M.slots.length cS) M.slots.length (encS M.slots)
  h : w.ownsRow lo 3 1 (.slice aH M.heads.length cH) M.heads.length (encI M.heads)
  f : w.ownsRow lo 3 1 (.slice aF M.free.length cF) M.free.length (encI M.free)
  l : w.ownsRow lo 3 1 (.slice aL M.locks.length cL) M.locks.length (encI M.locks)
  hf : Dj (.slice aH M.heads.length cH) (.slice aF M.free.length cF)
  hl : Dj (.slice aH M.heads.length cH) (.slice aL M.locks.length cL)
  fl : Dj (.slice aF M.free.length cF) (.slice aL M.locks.length cL)
  lz : lo ≤ w.heap.size

theorem Rw.below {w w' : World} {lo : Nat} {aS aH aF aL : Option Addr} {cS cH cF cL : Nat} {M : Mm} (r : Rw w lo aS aH aF aL cS cH cF cL M) (hb : Below w.heap.size w w') : Rw w' lo aS aH aF aL cS cH cF cL M :=
  ⟨own_below r.s hb, own_below r.h hb, own_below r.f hb, own_below r.l hb, r.hf, r.hl, r.fl, Nat.le_trans r.lz hb.size⟩

theorem Rw.set5 {w : World} {lo B : Nat} {aS aH aF aL : Option Addr} {cS cH cF cL : Nat} {M : Mm} {cs : Array Value} (r : Rw w lo aS aH aF aL cS cH cF cL M) (hB : w.heap[B]? = some (.cells cs 25 (0, 0))) (v0 v1 v2 v3 v4 : Value) : Rw (mm.set5 w B v0 v1 v2 v3 v4) lo aS aH aF aL cS cH cF cL M :=
  ⟨own_set5 r.s (own_ne r.s hB (by decide)) _ _ _ _ _, own_set5 r.h (own_ne r.h hB (by decide)) _ _ _ _ _, own_set5 r.f (own_ne r.f hB (by decide)) _ _ _ _ _, own_set5 r.l (own_ne r.l hB (by decide)) _ _ _ _ _, r.hf, r.hl, r.fl, by rw [set5_size]; exact r.lz⟩

theorem SRow.own {w : World} {lo n cap : Nat} {ao : Option Addr} {S : List Sl} (h : w.ownsRow lo 39 6 (.slice ao n cap) n (encS S)) (hm : S.length * 48 ≤ 140737488351232) : SRow w ao cap S := by
  obtain ⟨a, c, e, r⟩ := SRow.of_own h hm
  injection e with e1 e2 e3
  subst e1 e3
  exact r
theorem IRow.own {w : World} {lo n cap : Nat} {ao : Option Addr} {l : List Int} (h : w.ownsRow lo 3 1 (.slice ao n cap) n (encI l)) (hm : l.length * 8 ≤ 140737488351232) : IRow w ao cap l := by
  obtain ⟨a, c, e, r⟩ := IRow.of_own h hm
  injection e with e1 e2 e3
  subst e1 e3
  exact r

theorem own_hi {w : World} {lo size n m cap : Nat} {ao : Option Addr} {e : TypeId} {xs : List Value} (h : w.ownsRow lo e size (.slice ao m cap) n xs) : ∀ ad, ao = some ad → lo ≤ ad.block := by
  rintro ad rfl
  exact (h.lt ad.block rfl).1

theorem Rw.hi {w : World} {lo : Nat} {aS aH aF aL : Option Addr} {cS cH cF cL : Nat} {M : Mm} (r : Rw w lo aS aH aF aL cS cH cF cL M) : Hi4 lo aS aH aF aL :=
  ⟨own_hi r.s, own_hi r.h, own_hi r.f, own_hi r.l⟩
theorem Rw.at {w : World} {lo : Nat} {aS aH aF aL : Option Addr} {cS cH cF cL : Nat} {M : Mm} (r : Rw w lo aS aH aF aL cS cH cF cL M)
    (m1 : M.slots.length * 48 ≤ 140737488351232) (m2 : M.heads.length * 8 ≤ 140737488351232) (m3 : M.free.length * 8 ≤ 140737488351232) (m4 : M.locks.length * 8 ≤ 140737488351232) : At w aS aH aF aL cS cH cF cL M :=
  ⟨.own r.s m1, .own r.h m2, .own r.f m3, .own r.l m4⟩

/- Memory of one's own, in a box. -/
structure Mine (w : World) (B lo : Nat) (aS aH aF aL : Option Addr) (cS cH cF cL : Nat) (M : Mm) : Prop where
  box : w.heap[B]? = some (.cells #[.slice aS M.slots.length cS, .slice aH M.heads.length cH, .slice aF M.free.length cF, .slice aL M.locks.length cL, .int .i64 M.now] 25 (0, 0))
  c : Rw w lo aS aH aF aL cS cH cF cL M
  m1 : M.slots.length * 48 ≤ 140737488351232
  m2 : M.heads.length * 8 ≤ 140737488351232
  m3 : M.free.length * 8 ≤ 140737488351000
  m4 : M.locks.length * 8 ≤ 140737488351232

theorem Mine.at {w : World} {B lo : Nat} {aS aH aF aL : Option Addr} {cS cH cF cL : Nat} {M : Mm} (m : Mine w B lo aS aH aF aL cS cH cF cL M) : At w aS aH aF aL cS cH cF cL M :=
  m.c.at m.m1 m.m2 (by have := m.m3; omega) m.m4
theorem Mine.below {w w' : World} {B lo : Nat} {aS aH aF aL : Option Addr} {cS cH cF cL : Nat} {M : Mm} (m : Mine w B lo aS aH aF aL cS cH cF cL M) (hb : Below w.heap.size w w') : Mine w' B lo aS aH aF aL cS cH cF cL M :=
  ⟨(hb.block _ (lt_of_block m.box)).trans m.box, m.c.below hb, m.m1, m.m2, m.m3, m.m4⟩

/- What stays where one's own memory is changed. -/
structure Kept (w w' : World) (B lo : Nat) : Prop where
  os : w'.os = w.os
  tape : w'.tape = w.tape
  output : w'.output = w.output
  size : w.heap.size ≤ w'.heap.size
  block : ∀ k, k < lo → k ≠ B → w'.heap[k]? = w.heap[k]?

theorem Kept.refl (w : World) (B lo : Nat) : Kept w w B lo := ⟨rfl, rfl, rfl, Nat.le_refl _, fun _ _ _ => rfl⟩
theorem Kept.trans {w w1 w2 : World} {B lo : Nat} (h : Kept w w1 B lo) (h' : Kept w1 w2 B lo) : Kept w w2 B lo :=
  ⟨h'.os.trans h.os, h'.tape.trans h.tape, h'.output.trans h.output, Nat.le_trans h.size h'.size, fun k h1 h2 => (h'.block k h1 h2).trans (h.block k h1 h2)⟩
theorem Kept.of_below {w w' : World} {B lo n : Nat} (hb : Below n w w') (h : lo ≤ n) : Kept w w' B lo := ⟨hb.os, hb.tape, hb.output, hb.size, fun k h1 h2 => hb.block k (by omega)⟩
theorem Kept.grown {w w1 w2 : World} {B lo : Nat} {row : Option Nat} (h : Kept w w1 B lo) (hg : w1.grownBy w2 row) (hr : ∀ k, row = some k → lo ≤ k) (hz : lo ≤ w1.heap.size) : Kept w w2 B lo :=
  h.trans ⟨hg.os, hg.tape, hg.output, hg.size, fun k h1 h2 => hg.block k (by omega) (fun e => by have := hr k e.symm; omega)⟩
theorem Kept.setBox {w w1 : World} {B lo j : Nat} (h : Kept w w1 B lo) (v : Value) : Kept w (w1.setCell ⟨B, j, none⟩ v) B lo :=
  h.trans ⟨rfl, rfl, rfl, by simp, fun k h1 h2 => Below.heap_setCell _ _ _ _ (by dsimp only; exact h2)⟩
theorem Kept.setCell {w w1 : World} {B lo g j : Nat} (h : Kept w w1 B lo) (hg : lo ≤ g) (v : Value) : Kept w (w1.setCell ⟨g, j, none⟩ v) B lo :=
  h.trans ⟨rfl, rfl, rfl, by simp, fun k h1 h2 => Below.heap_setCell _ _ _ _ (by dsimp only; omega)⟩
theorem Kept.below {w w1 w2 : World} {B lo : Nat} (h : Kept w w1 B lo) (hb : Below w1.heap.size w1 w2) (hz : lo ≤ w1.heap.size) : Kept w w2 B lo :=
  h.trans (.of_below hb hz)
theorem Kept.down {w w1 : World} {B lo : Nat} (h : Kept w w1 B lo) {n : Nat} (h1 : n ≤ lo) (h2 : n ≤ B) : Below n w w1 :=
  ⟨h.os, h.tape, h.output, h.size, fun k hk => h.block k (by omega) (by omega)⟩

/- Memory in a box is now this one; nothing else has turned. -/
def Now (w w' : World) (B lo : Nat) (M : Mm) : Prop := ∃ aS aH aF aL cS cH cF cL, Mine w' B lo aS aH aF aL cS cH cF cL M ∧ Kept w w' B lo

def Done (w w' : World) (B lo : Nat) (M : Mm) : Prop :=
  ∃ aS aH aF aL cS cH cF cL, w'.heap[B]? = some (.cells #[.slice aS M.slots.length cS, .slice aH M.heads.length cH, .slice aF M.free.length cF, .slice aL M.locks.length cL, .int .i64 M.now] 25 (0, 0)) ∧
    At w' aS aH aF aL cS cH cF cL M ∧ Kept w w' B lo ∧ Hi4 lo aS aH aF aL

theorem Now.done {w w' : World} {B lo : Nat} {M : Mm} (h : Now w w' B lo M) : Done w w' B lo M := by
  obtain ⟨aS, aH, aF, aL, cS, cH, cF, cL, m, k⟩ := h
  exact ⟨aS, aH, aF, aL, cS, cH, cF, cL, m.box, m.at, k, m.c.hi⟩

/- One cell of a row is stored. -/
theorem Mine.setS {w : World} {B lo g : Nat} {aH aF aL : Option Addr} {cS cH cF cL : Nat} {M : Mm} (m : Mine w B lo (some ⟨g, 0, none⟩) aH aF aL cS cH cF cL M) (j : Nat) (u : Value) (S' : List Sl) (hS : (encS M.slots).set j u = encS S') :
    Mine (w.setCell ⟨g, j, none⟩ u) B lo (some ⟨g, 0, none⟩) aH aF aL cS cH cF cL { M with slots := S' } := by
  have hl : S'.length = M.slots.length := by
    have := congrArg List.length hS
    rw [List.length_set, encS_len, encS_len] at this
    omega
  obtain ⟨hB, ⟨s, h, f, l, hf, hl', fl, lz⟩, m1, m2, m3, m4⟩ := m
  have hg : (Value.slice (some ⟨g, 0, none⟩) M.slots.length cS).ownBlock = some g := rfl
  have ne : ∀ {v : Value} {n : Nat} {xs : List Value}, w.ownsRow lo 3 1 v n xs → v.ownBlock ≠ some g := fun h e => own_dj h s (by decide) g e hg
  refine ⟨?_, ⟨?_, ownsRow_setCell_other h (ne h) u, ownsRow_setCell_other f (ne f) u, ownsRow_setCell_other l (ne l) u, hf, hl', fl, by rw [World.size_setCell]; exact lz⟩, by dsimp only; omega, m2, m3, m4⟩
  · dsimp only
    rw [Below.heap_setCell _ _ _ _ (by dsimp only; intro e; exact own_ne s hB (by decide) (by rw [hg, e])), hl]
    exact hB
  · dsimp only
    rw [hl, ← hS]
    exact (s.stored j u).1

theorem Mine.setH {w : World} {B lo g : Nat} {aS aF aL : Option Addr} {cS cH cF cL : Nat} {M : Mm} (m : Mine w B lo aS (some ⟨g, 0, none⟩) aF aL cS cH cF cL M) (j : Nat) (x : Int) :
    Mine (w.setCell ⟨g, j, none⟩ (.int .i64 x)) B lo aS (some ⟨g, 0, none⟩) aF aL cS cH cF cL { M with heads := M.heads.set j x } := by
  obtain ⟨hB, ⟨s, h, f, l, hf, hl, fl, lz⟩, m1, m2, m3, m4⟩ := m
  have hg : (Value.slice (some ⟨g, 0, none⟩) M.heads.length cH).ownBlock = some g := rfl
  have ns : (Value.slice aS M.slots.length cS).ownBlock ≠ some g := fun e => own_dj s h (by decide) g e hg
  refine ⟨?_, ⟨ownsRow_setCell_other s ns _, ?_, ownsRow_setCell_other f (fun e => hf g hg e) _, ownsRow_setCell_other l (fun e => hl g hg e) _, dj_len hf, dj_len hl, fl, by rw [World.size_setCell]; exact lz⟩, m1, by dsimp only; rw [List.length_set]; exact m2, m3, m4⟩
  · dsimp only
    rw [Below.heap_setCell _ _ _ _ (by dsimp only; intro e; exact own_ne h hB (by decide) (by rw [hg, e])), List.length_set]
    exact hB
  · dsimp only
    have e : encI (M.heads.set j x) = (encI M.heads).set j (.int .i64 x) := by simp [encI, List.map_set]
    rw [List.length_set, e]
    exact (h.stored j _).1

theorem Mine.setL {w : World} {B lo g : Nat} {aS aH aF : Option Addr} {cS cH cF cL : Nat} {M : Mm} (m : Mine w B lo aS aH aF (some ⟨g, 0, none⟩) cS cH cF cL M) (j : Nat) (x : Int) :
    Mine (w.setCell ⟨g, j, none⟩ (.int .i64 x)) B lo aS aH aF (some ⟨g, 0, none⟩) cS cH cF cL { M with locks := M.locks.set j x } := by
  obtain ⟨hB, ⟨s, h, f, l, hf, hl, fl, lz⟩, m1, m2, m3, m4⟩ := m
  have hg : (Value.slice (some ⟨g, 0, none⟩) M.locks.length cL).ownBlock = some g := rfl
  have ns : (Value.slice aS M.slots.length cS).ownBlock ≠ some g := fun e => own_dj s l (by decide) g e hg
  refine ⟨?_, ⟨ownsRow_setCell_other s ns _, ownsRow_setCell_other h (fun e => hl g e hg) _, ownsRow_setCell_other f (fun e => fl g e hg) _, ?_, hf, dj_len hl, dj_len fl, by rw [World.size_setCell]; exact lz⟩, m1, m2, m3, by dsimp only; rw [List.length_set]; exact m4⟩
  · dsimp only
    rw [Below.heap_setCell _ _ _ _ (by dsimp only; intro e; exact own_ne l hB (by decide) (by rw [hg, e])), List.length_set]
    exact hB
  · dsimp only
    have e : encI (M.locks.set j x) = (encI M.locks).set j (.int .i64 x) := by simp [encI, List.map_set]
    rw [List.length_set, e]
    exact (l.stored j _).1

/- The last of the free ones is struck off. -/
theorem Mine.pop {w : World} {B lo g n : Nat} {aS aH aL : Option Addr} {cS cH cF cL : Nat} {M : Mm} (m : Mine w B lo aS aH (some ⟨g, 0, none⟩) aL cS cH cF cL M) (hn : M.free.length = n + 1) :
    Mine (w.setCell ⟨B, 2, none⟩ (.slice (some ⟨g, 0, none⟩) n cF)) B lo aS aH (some ⟨g, 0, none⟩) aL cS cH cF cL { M with free := M.free.take n } := by
  obtain ⟨hB, ⟨s, h, f, l, hf, hl, fl, lz⟩, m1, m2, m3, m4⟩ := m
  have hlen : (M.free.take n).length = n := by rw [List.length_take]; omega
  refine ⟨?_, ⟨ownsRow_setCell_other s (own_ne s hB (by decide)) _, ownsRow_setCell_other h (own_ne h hB (by decide)) _, ?_, ownsRow_setCell_other l (own_ne l hB (by decide)) _, dj_len hf, hl, dj_len fl, by rw [World.size_setCell]; exact lz⟩, m1, m2, by dsimp only; omega, m4⟩
  · dsimp only
    rw [hlen]
    have := block_setCell (i := 2) hB (.slice (some ⟨g, 0, none⟩) n cF)
    simpa using this
  · dsimp only
    rw [hlen]
    have fn := own_ne f hB (by decide)
    refine ownsRow_setCell_other ?_ fn _
    rw [hn] at f
    refine ownsRow_pop (last := encI (M.free.drop n)) (by simp [encI]; omega) ?_
    rw [show encI (M.free.take n) ++ encI (M.free.drop n) = encI M.free by simp [encI]]
    exact f

/- The free ones have grown, in another world; its slice is stored. -/
theorem Mine.grow {w w1 : World} {B lo : Nat} {aS aH aF aL a' : Option Addr} {cS cH cF cL c' : Nat} {M : Mm} (m : Mine w B lo aS aH aF aL cS cH cF cL M) (F' : List Int) (hm : F'.length * 8 ≤ 140737488351000)
    (hg : w.grownBy w1 (Value.slice aF M.free.length cF).ownBlock) (ho : w1.ownsRow lo 3 1 (.slice a' F'.length c') F'.length (encI F'))
    (hloc : (Value.slice a' F'.length c').ownBlock = (Value.slice aF M.free.length cF).ownBlock ∨ (Value.slice a' F'.length c').ownBlock = some w.heap.size) :
    Mine (w1.setCell ⟨B, 2, none⟩ (.slice a' F'.length c')) B lo aS aH a' aL cS cH c' cL { M with free := F' } := by
  obtain ⟨hB, ⟨s, h, f, l, hf, hl, fl, lz⟩, m1, m2, m3, m4⟩ := m
  have hB1 : w1.heap[B]? = _ := (hg.block B (lt_of_block hB) (fun e => own_ne f hB (by decide) e.symm)).trans hB
  have s1 := s.kept hg (own_dj s f (by decide)).ne
  have h1 := h.kept hg hf.ne
  have l1 := l.kept hg fl.symm.ne
  refine ⟨?_, ⟨ownsRow_setCell_other s1 (own_ne s1 hB1 (by decide)) _, ownsRow_setCell_other h1 (own_ne h1 hB1 (by decide)) _, ownsRow_setCell_other ho (own_ne ho hB1 (by decide)) _, ownsRow_setCell_other l1 (own_ne l1 hB1 (by decide)) _, ?_, hl, ?_, ?_⟩, m1, m2, hm, m4⟩
  · have := block_setCell (i := 2) hB1 (.slice a' F'.length c')
    simpa using this
  · exact Dj.grown hf (fun g hg => (h.lt g hg).2) hloc
  · exact (Dj.grown fl.symm (fun g hg => (l.lt g hg).2) hloc).symm
  · rw [World.size_setCell]; exact Nat.le_trans lz hg.size



end Go.Proofs.Ytdbilofhcadmoab.mm

/- The contract of base.Copy: a copy of memory in memory of its own. -/
namespace Go.Proofs.Ytdbilofhcadmoab.mm
open Go.ChangeShapes Go.WideShapes Go.ChangeAt Go.RowKit Go.Joins
set_option linter.unusedVariables false

theorem own_box {w : World} {lo size n g j : Nat} {e : TypeId} {v : Value} {xs : List Value} {cs : Array Value} (h : w.ownsRow lo e size v n xs) (hB : w.heap[g]? = some (.cells cs 25 (0, 0))) (ne : e ≠ 25) (u : Value) : (w.setCell ⟨g, j, none⟩ u).ownsRow lo e size v n xs :=
  ownsRow_setCell_other h (own_ne h hB ne) u

theorem dj_new {w w1 : World} {lo lo1 size size1 n n1 : Nat} {e e1 : TypeId} {v v1 : Value} {xs xs1 : List Value} (h : w.ownsRow lo e size v n xs) (h1 : w1.ownsRow lo1 e1 size1 v1 n1 xs1) (hl : w.heap.size ≤ lo1) : Dj v v1 := by
  intro g hg hg1
  have := (h.lt g hg).2
  have := (h1.lt g hg1).1
  omega

set_option maxHeartbeats 1600000 in
theorem copy_any (M : Mm) (aS aH aF aL : Option Addr) (cS cH cF cL : Nat) (w : World) (A : At w aS aH aF aL cS cH cF cL M) :
    Calls Try.prog 79 #[.agg #[.slice aS M.slots.length cS, .slice aH M.heads.length cH, .slice aF M.free.length cF, .slice aL M.locks.length cL, .int .i64 M.now]] w fun e w' => ∃ gS gH gF gL kS kH kF kL,
      e = .returned (.agg #[.slice gS M.slots.length kS, .slice gH M.heads.length kH, .slice gF M.free.length kF, .slice gL M.locks.length kL, .int .i64 M.now]) ∧
      Rw w' w.heap.size gS gH gF gL kS kH kF kL M ∧ Below w.heap.size w w' := by
  obtain ⟨S, H, F, L, now⟩ := M
  dsimp only
  have m1 := A.s.max; have m2 := A.h.max; have m3 := A.f.max; have m4 := A.l.max
  dsimp only at m1 m2 m3 m4
  obtain ⟨o1, ho1⟩ : ∃ o : Obj, o = .cells #[.slice aS S.length cS, .slice aH H.length cH, .slice aF F.length cF, .slice aL L.length cL, .int .i64 now] 25 := ⟨_, rfl⟩
  obtain ⟨o2, ho2⟩ : ∃ o : Obj, o = .cells #[.slice none 0 0, .slice none 0 0, .slice none 0 0, .slice none 0 0, .int .i64 0] 25 := ⟨_, rfl⟩
  have B0 : Below w.heap.size w ((w.alloc o1).alloc o2) := below_alloc2 w o1 o2
  have HB0 : Hid (((w.alloc o1).alloc o2).heap[w.heap.size]? = some o1) := by show _ = _; rw [Below.heap_alloc _ _ _ (by simp), heap_alloc_new]
  have HR0 : Hid (((w.alloc o1).alloc o2).heap[w.heap.size + 1]? = some o2) := by
    have := heap_alloc_new (w.alloc o1) o2
    rwa [show (w.alloc o1).heap.size = w.heap.size + 1 by simp] at this
  have z0 : w.heap.size + 2 ≤ ((w.alloc o1).alloc o2).heap.size := by simp
  have HA : Hid (At w aS aH aF aL cS cH cF cL ⟨S, H, F, L, now⟩) := A
  clear A
  go_enter Try.func79, Try.ntmps79
  go_wp2_with fail
  rw [← ho1, ← ho2]
  generalize (w.alloc o1).alloc o2 = W0 at *
  subst ho1 ho2
  have HA0 : Hid _ := HA.out.below B0
  refine (listS_any aS cS S W0 HA0.out.s).mono ?_
  rintro e w1 ⟨gS, kS, rfl, ownS, hb1⟩
  have b1 := B0.trans (hb1.mono B0.size)
  have HBx1 : Hid (w1.heap[w.heap.size]? = _) := (hb1.block w.heap.size (lt_of_block HB0.out)).trans HB0.out
  have HRx1 : Hid (w1.heap[w.heap.size + 1]? = _) := (hb1.block (w.heap.size + 1) (lt_of_block HR0.out)).trans HR0.out
  have zx1 : w.heap.size + 2 ≤ w1.heap.size := Nat.le_trans z0 hb1.size
  have OSx1 : Hid (w1.ownsRow w.heap.size 39 6 (.slice gS S.length kS) S.length (encS S)) := ownsRow_le ownS (by omega)
  clear ownS hb1 HA0 HB0 HR0 
  obtain ⟨q0, q1, q2, q3, q4, f0, f1, f2, f3, f4, qs⟩ := boxf HBx1.out
  have B1 : Below w.heap.size w (w1.setCell ⟨w.heap.size, 0, none⟩ (.slice gS S.length kS)) := b1.setCell (Nat.le_refl _) _
  have HB1 : Hid ((w1.setCell ⟨w.heap.size, 0, none⟩ (.slice gS S.length kS)).heap[w.heap.size]? = some (.cells #[.slice gS S.length kS, .slice aH H.length cH, .slice aF F.length cF, .slice aL L.length cL, .int .i64 now] 25 (0, 0))) := by
    have := block_setCell (i := 0) HBx1.out (.slice gS S.length kS)
    show _ = _
    simpa using this
  have HR1 : Hid ((w1.setCell ⟨w.heap.size, 0, none⟩ (.slice gS S.length kS)).heap[w.heap.size + 1]? = _) := (Below.heap_setCell w1 ⟨w.heap.size, 0, none⟩ (.slice gS S.length kS) (w.heap.size + 1) (by show w.heap.size + 1 ≠ w.heap.size; omega)).trans HRx1.out
  have z1 : w.heap.size + 2 ≤ (w1.setCell ⟨w.heap.size, 0, none⟩ (.slice gS S.length kS)).heap.size := by rw [World.size_setCell]; exact zx1
  have OS1 : Hid ((w1.setCell ⟨w.heap.size, 0, none⟩ (.slice gS S.length kS)).ownsRow w.heap.size 39 6 (.slice gS S.length kS) S.length (encS S)) := own_box OSx1.out HBx1.out (by decide) _
  clear zx1 HRx1 OSx1 B0 b1 z0
  go_wp2_with fail
  generalize w1.setCell ⟨w.heap.size, 0, none⟩ (.slice gS S.length kS) = W1 at *
  clear q0 q1 q2 q3 q4 f0 f1 f2 f3 f4 qs HBx1
  have HA1 : Hid _ := HA.out.below B1
  refine (listI_any aH cH H W1 HA1.out.h).mono ?_
  rintro e w2 ⟨gH, kH, rfl, ownH, hb2⟩
  have b2 := B1.trans (hb2.mono B1.size)
  have HBx2 : Hid (w2.heap[w.heap.size]? = _) := (hb2.block w.heap.size (lt_of_block HB1.out)).trans HB1.out
  have HRx2 : Hid (w2.heap[w.heap.size + 1]? = _) := (hb2.block (w.heap.size + 1) (lt_of_block HR1.out)).trans HR1.out
  have zx2 : w.heap.size + 2 ≤ w2.heap.size := Nat.le_trans z1 hb2.size
  have OSx2 : Hid (w2.ownsRow w.heap.size 39 6 (.slice gS S.length kS) S.length (encS S)) := own_below OS1.out hb2
  have OHx2 : Hid (w2.ownsRow w.heap.size 3 1 (.slice gH H.length kH) H.length (encI H)) := ownsRow_le ownH (by omega)
  clear ownH hb2 HA1 HB1 HR1 OS1
  obtain ⟨q0, q1, q2, q3, q4, f0, f1, f2, f3, f4, qs⟩ := boxf HBx2.out
  have B2 : Below w.heap.size w (w2.setCell ⟨w.heap.size, 1, none⟩ (.slice gH H.length kH)) := b2.setCell (Nat.le_refl _) _
  have HB2 : Hid ((w2.setCell ⟨w.heap.size, 1, none⟩ (.slice gH H.length kH)).heap[w.heap.size]? = some (.cells #[.slice gS S.length kS, .slice gH H.length kH, .slice aF F.length cF, .slice aL L.length cL, .int .i64 now] 25 (0, 0))) := by
    have := block_setCell (i := 1) HBx2.out (.slice gH H.length kH)
    show _ = _
    simpa using this
  have HR2 : Hid ((w2.setCell ⟨w.heap.size, 1, none⟩ (.slice gH H.length kH)).heap[w.heap.size + 1]? = _) := (Below.heap_setCell w2 ⟨w.heap.size, 1, none⟩ (.slice gH H.length kH) (w.heap.size + 1) (by show w.heap.size + 1 ≠ w.heap.size; omega)).trans HRx2.out
  have z2 : w.heap.size + 2 ≤ (w2.setCell ⟨w.heap.size, 1, none⟩ (.slice gH H.length kH)).heap.size := by rw [World.size_setCell]; exact zx2
  have OS2 : Hid ((w2.setCell ⟨w.heap.size, 1, none⟩ (.slice gH H.length kH)).ownsRow w.heap.size 39 6 (.slice gS S.length kS) S.length (encS S)) := own_box OSx2.out HBx2.out (by decide) _
  have OH2 : Hid ((w2.setCell ⟨w.heap.size, 1, none⟩ (.slice gH H.length kH)).ownsRow w.heap.size 3 1 (.slice gH H.length kH) H.length (encI H)) := own_box OHx2.out HBx2.out (by decide) _
  clear zx2 HRx2 OSx2 OHx2 B1 b2 z1
  go_wp2_with fail
  generalize w2.setCell ⟨w.heap.size, 1, none⟩ (.slice gH H.length kH) = W2 at *
  clear q0 q1 q2 q3 q4 f0 f1 f2 f3 f4 qs HBx2
  have HA2 : Hid _ := HA.out.below B2
  refine (listI_any aF cF F W2 HA2.out.f).mono ?_
  rintro e w3 ⟨gF, kF, rfl, ownF, hb3⟩
  have b3 := B2.trans (hb3.mono B2.size)
  have HBx3 : Hid (w3.heap[w.heap.size]? = _) := (hb3.block w.heap.size (lt_of_block HB2.out)).trans HB2.out
  have HRx3 : Hid (w3.heap[w.heap.size + 1]? = _) := (hb3.block (w.heap.size + 1) (lt_of_block HR2.out)).trans HR2.out
  have zx3 : w.heap.size + 2 ≤ w3.heap.size := Nat.le_trans z2 hb3.size
  have OSx3 : Hid (w3.ownsRow w.heap.size 39 6 (.slice gS S.length kS) S.length (encS S)) := own_below OS2.out hb3
  have OHx3 : Hid (w3.ownsRow w.heap.size 3 1 (.slice gH H.length kH) H.length (encI H)) := own_below OH2.out hb3
  have OFx3 : Hid (w3.ownsRow w.heap.size 3 1 (.slice gF F.length kF) F.length (encI F)) := ownsRow_le ownF (by omega)
  have DHF : Dj (.slice gH H.length kH) (.slice gF F.length kF) := dj_new OH2.out ownF (Nat.le_refl _)
  clear ownF hb3 HA2 HB2 HR2 OS2 OH2
  obtain ⟨q0, q1, q2, q3, q4, f0, f1, f2, f3, f4, qs⟩ := boxf HBx3.out
  have B3 : Below w.heap.size w (w3.setCell ⟨w.heap.size, 2, none⟩ (.slice gF F.length kF)) := b3.setCell (Nat.le_refl _) _
  have HB3 : Hid ((w3.setCell ⟨w.heap.size, 2, none⟩ (.slice gF F.length kF)).heap[w.heap.size]? = some (.cells #[.slice gS S.length kS, .slice gH H.length kH, .slice gF F.length kF, .slice aL L.length cL, .int .i64 now] 25 (0, 0))) := by
    have := block_setCell (i := 2) HBx3.out (.slice gF F.length kF)
    show _ = _
    simpa using this
  have HR3 : Hid ((w3.setCell ⟨w.heap.size, 2, none⟩ (.slice gF F.length kF)).heap[w.heap.size + 1]? = _) := (Below.heap_setCell w3 ⟨w.heap.size, 2, none⟩ (.slice gF F.length kF) (w.heap.size + 1) (by show w.heap.size + 1 ≠ w.heap.size; omega)).trans HRx3.out
  have z3 : w.heap.size + 2 ≤ (w3.setCell ⟨w.heap.size, 2, none⟩ (.slice gF F.length kF)).heap.size := by rw [World.size_setCell]; exact zx3
  have OS3 : Hid ((w3.setCell ⟨w.heap.size, 2, none⟩ (.slice gF F.length kF)).ownsRow w.heap.size 39 6 (.slice gS S.length kS) S.length (encS S)) := own_box OSx3.out HBx3.out (by decide) _
  have OH3 : Hid ((w3.setCell ⟨w.heap.size, 2, none⟩ (.slice gF F.length kF)).ownsRow w.heap.size 3 1 (.slice gH H.length kH) H.length (encI H)) := own_box OHx3.out HBx3.out (by decide) _
  have OF3 : Hid ((w3.setCell ⟨w.heap.size, 2, none⟩ (.slice gF F.length kF)).ownsRow w.heap.size 3 1 (.slice gF F.length kF) F.length (encI F)) := own_box OFx3.out HBx3.out (by decide) _
  clear zx3 HRx3 OSx3 OHx3 OFx3 B2 b3 z2
  go_wp2_with fail
  generalize w3.setCell ⟨w.heap.size, 2, none⟩ (.slice gF F.length kF) = W3 at *
  clear q0 q1 q2 q3 q4 f0 f1 f2 f3 f4 qs HBx3
  have HA3 : Hid _ := HA.out.below B3
  refine (listI_any aL cL L W3 HA3.out.l).mono ?_
  rintro e w4 ⟨gL, kL, rfl, ownL, hb4⟩
  have b4 := B3.trans (hb4.mono B3.size)
  have HBx4 : Hid (w4.heap[w.heap.size]? = _) := (hb4.block w.heap.size (lt_of_block HB3.out)).trans HB3.out
  have HRx4 : Hid (w4.heap[w.heap.size + 1]? = _) := (hb4.block (w.heap.size + 1) (lt_of_block HR3.out)).trans HR3.out
  have zx4 : w.heap.size + 2 ≤ w4.heap.size := Nat.le_trans z3 hb4.size
  have OSx4 : Hid (w4.ownsRow w.heap.size 39 6 (.slice gS S.length kS) S.length (encS S)) := own_below OS3.out hb4
  have OHx4 : Hid (w4.ownsRow w.heap.size 3 1 (.slice gH H.length kH) H.length (encI H)) := own_below OH3.out hb4
  have OFx4 : Hid (w4.ownsRow w.heap.size 3 1 (.slice gF F.length kF) F.length (encI F)) := own_below OF3.out hb4
  have OLx4 : Hid (w4.ownsRow w.heap.size 3 1 (.slice gL L.length kL) L.length (encI L)) := ownsRow_le ownL (by omega)
  have DHL : Dj (.slice gH H.length kH) (.slice gL L.length kL) := dj_new OH3.out ownL (Nat.le_refl _)
  have DFL : Dj (.slice gF F.length kF) (.slice gL L.length kL) := dj_new OF3.out ownL (Nat.le_refl _)
  clear ownL hb4 HA3 HB3 HR3 OS3 OH3 OF3
  obtain ⟨q0, q1, q2, q3, q4, f0, f1, f2, f3, f4, qs⟩ := boxf HBx4.out
  obtain ⟨r0, r1, r2, r3, r4, g0, g1, g2, g3, g4, rs⟩ := boxf HRx4.out
  have rs0 : w.heap.size + 1 ≠ w.heap.size := by omega
  have HF : Hid (Rw (mm.set5 (w4.setCell ⟨w.heap.size, 3, none⟩ (.slice gL L.length kL)) (w.heap.size + 1) (.slice gS S.length kS) (.slice gH H.length kH) (.slice gF F.length kF) (.slice gL L.length kL) (.int .i64 now)) w.heap.size gS gH gF gL kS kH kF kL ⟨S, H, F, L, now⟩) := by
    have hR : (w4.setCell ⟨w.heap.size, 3, none⟩ (.slice gL L.length kL)).heap[w.heap.size + 1]? = _ := (Below.heap_setCell w4 ⟨w.heap.size, 3, none⟩ (.slice gL L.length kL) (w.heap.size + 1) (by show w.heap.size + 1 ≠ w.heap.size; omega)).trans HRx4.out
    have r : Rw (w4.setCell ⟨w.heap.size, 3, none⟩ (.slice gL L.length kL)) w.heap.size gS gH gF gL kS kH kF kL ⟨S, H, F, L, now⟩ :=
      ⟨own_box OSx4.out HBx4.out (by decide) _, own_box OHx4.out HBx4.out (by decide) _, own_box OFx4.out HBx4.out (by decide) _, own_box OLx4.out HBx4.out (by decide) _, DHF, DHL, DFL, by rw [World.size_setCell]; omega⟩
    exact r.set5 hR _ _ _ _ _
  clear OSx4 OHx4 OFx4 OLx4 HBx4 HRx4 z3
  go_wp2
  refine bodyPost_ret (v := .agg #[.slice gS S.length kS, .slice gH H.length kH, .slice gF F.length kF, .slice gL L.length kL, .int .i64 now]) (by simp [results, Try.results79, go_sem, r0, r1, r2, r3, r4]) rfl ⟨_, _, _, _, _, _, _, _, rfl, HF.out, ?_⟩
  exact (b4.setCell (Nat.le_refl _) _).trans (set5_below _ _ _ _ _ _ _ _ (by omega))




end Go.Proofs.Ytdbilofhcadmoab.mm
