/- Lists of keys; the contracts of frame.New, frame.End, of the document's own SameFrame where both are alike, of frame.Bucket and the document's own ChainFor. -/
import Derived.Test.YtdbilofhcadmoabC16
import Derived.Test.YtdbilofhcadmoabC10
import Derived.Test.YtdbilofhcadmoabC14
import Derived.Lib.BufferMore
import Derived.Deep.QuietTactic
import Derived.BigQuiet
import Derived.Test.YtdbilofhcadmoabC13
import Derived.Test.YtdbilofhcadmoabC15
namespace Go.Proofs.Ytdbilofhcadmoab.mm
open Go.ChangeShapes Go.WideShapes Go.ChangeAt Go.RowKit Go.Joins Go.Maps
set_option maxRecDepth 100000
set_option linter.unusedVariables false

/- A list of keys lies at a slice. -/
structure KRow (w : World) (ao : Option Addr) (cap : Nat) (l : List (Int × Int)) : Prop where
  le : l.length ≤ cap
  max : l.length * 16 ≤ 140737488351232
  nil : ao = none → cap = 0
  at_ : l.length = 0 ∨ ∃ b o, ao = some ⟨b, o, none⟩ ∧ ∀ i (h : i < l.length), w.cell? ⟨b, o + i * 2, none⟩ = some (.int .i64 l[i].1) ∧ w.cell? ⟨b, o + i * 2 + 1, none⟩ = some (.int .i64 l[i].2)

theorem KRow.below {w w' : World} {ao : Option Addr} {cap : Nat} {l : List (Int × Int)} (r : KRow w ao cap l) (hb : Below w.heap.size w w') : KRow w' ao cap l := by
  refine ⟨r.le, r.max, r.nil, ?_⟩
  rcases r.at_ with h | ⟨b, o, h, hc⟩
  · exact .inl h
  · refine .inr ⟨b, o, h, fun i hi => ?_⟩
    obtain ⟨c0, c1⟩ := hc i hi
    have lt := cell_lt c0
    obtain ⟨q, _⟩ := bcell hb
    exact ⟨(q _ _ lt).trans c0, (q _ _ lt).trans c1⟩
theorem krow_nil (w : World) : KRow w none 0 [] := ⟨by decide, by decide, fun _ => rfl, .inl rfl⟩

def encK (l : List (Int × Int)) : List Value := l.flatMap fun p => [.int .i64 p.1, .int .i64 p.2]
theorem encK_cons (p : Int × Int) (l : List (Int × Int)) : encK (p :: l) = [.int .i64 p.1, .int .i64 p.2] ++ encK l := by simp [encK]
theorem encK_len (l : List (Int × Int)) : (encK l).length = l.length * 2 := by
  induction l with
  | nil => rfl
  | cons s l ih => rw [encK_cons, List.length_append, ih]; simp; omega
theorem encK_get (l : List (Int × Int)) (i q : Nat) (h : i < l.length) (hq : q < 2) : (encK l)[i * 2 + q]? = ([.int .i64 l[i].1, .int .i64 l[i].2] : List Value)[q]? := by
  induction l generalizing i with
  | nil => simp at h
  | cons s l ih =>
    rw [encK_cons]
    match i with
    | 0 =>
      rw [List.getElem?_append_left (by simp; omega)]
      simp
    | i + 1 =>
      rw [List.getElem?_append_right (by simp; omega)]
      rw [show ([.int .i64 s.1, .int .i64 s.2] : List Value).length = 2 from rfl, show (i + 1) * 2 + q - 2 = i * 2 + q by omega, ih i (by simpa using h)]
      simp
theorem encK_one (l : List (Int × Int)) : ∀ u ∈ encK l, u.oneCell' = true := by
  intro u hu
  simp only [encK, List.mem_flatMap, List.mem_cons, List.not_mem_nil, or_false] at hu
  obtain ⟨s, _, h | h⟩ := hu <;> (subst h; rfl)
theorem KRow.src {w : World} {ao : Option Addr} {cap : Nat} {l : List (Int × Int)} (r : KRow w ao cap l) : ∀ ad, ao = some ad → ∀ j u, (encK l)[j]? = some u → w.cell? (ad.add j) = some u := by
  rintro ad rfl j u hu
  have hj : j < l.length * 2 := by
    rw [← encK_len]
    exact (List.getElem?_eq_some_iff.1 hu).1
  rcases r.at_ with h0 | ⟨b, o, e, hc⟩
  · omega
  cases e
  have hi : j / 2 < l.length := by omega
  have e2 : j / 2 * 2 + j % 2 = j := by omega
  have hq : j % 2 < 2 := by omega
  obtain ⟨c0, c1⟩ := hc (j / 2) hi
  rw [← e2, encK_get l _ _ hi hq] at hu
  rw [Addr.add_lit, ← e2]
  generalize j / 2 = i at *
  generalize j % 2 = q at *
  rw [← Nat.add_assoc]
  match q, hq with
  | 0, _ => simp at hu; subst hu; exact c0
  | 1, _ => simp at hu; subst hu; exact c1
theorem KRow.own {w : World} {lo n cap : Nat} {ao : Option Addr} {l : List (Int × Int)} (h : w.ownsRow lo 37 2 (.slice ao n cap) n (encK l)) (hm : l.length * 16 ≤ 140737488351232) : KRow w ao cap l := by
  have hl := h.1
  rw [encK_len] at hl
  have hn : l.length = n := by omega
  subst hn
  rcases h.2 with ⟨hv, h0⟩ | ⟨g, cap', cur, hv, hg, hb, hc, -, hs, ht⟩
  · injection hv with h1 _ h3
    subst h1 h3
    exact ⟨by omega, hm, fun _ => rfl, .inl h0⟩
  · injection hv with h1 _ h3
    subst h1 h3
    refine ⟨hc, hm, (fun h => by cases h), .inr ⟨g, 0, rfl, fun i hi => ?_⟩⟩
    have e : ∀ q, q < 2 → w.cell? ⟨g, 0 + i * 2 + q, none⟩ = ([.int .i64 l[i].1, .int .i64 l[i].2] : List Value)[q]? := fun q hq => by
      rw [Nat.zero_add, h.cellAt _ (by omega), encK_get l i q hi hq]
    exact ⟨e 0 (by omega), e 1 (by omega)⟩

theorem KRow.hi {w w' : World} {ao : Option Addr} {cap lo : Nat} {l : List (Int × Int)} (r : KRow w ao cap l) (hi : ∀ ad, ao = some ad → lo ≤ ad.block) (hk : ∀ k, lo ≤ k → w'.heap[k]? = w.heap[k]?) : KRow w' ao cap l := by
  refine ⟨r.le, r.max, r.nil, ?_⟩
  rcases r.at_ with h | ⟨b, o, h, hc⟩
  · exact .inl h
  · refine .inr ⟨b, o, h, fun i hi' => ?_⟩
    have hb := hk b (hi _ h)
    rw [World.cell?_of_block (a := ⟨b, o + i * 2, none⟩) hb, World.cell?_of_block (a := ⟨b, o + i * 2 + 1, none⟩) hb]
    exact hc i hi'

theorem iK : (Try.prog.info? 37).map (fun i => (i.zero, i.size, i.bytes)) = some (some (.agg #[.int .i64 0, .int .i64 0]), 2, 16) := by kernel_rfl

set_option maxHeartbeats 800000 in
theorem listK_some (ad : Addr) (cap : Nat) (l : List (Int × Int)) (w : World) (r : KRow w (some ad) cap l) :
    Calls Try.prog 85 #[.slice (some ad) l.length cap] w fun e w' => e = .returned (.slice (some ⟨w.heap.size, 0, none⟩) l.length l.length) ∧ w'.ownsRow w.heap.size 37 2 (.slice (some ⟨w.heap.size, 0, none⟩) l.length l.length) l.length (encK l) ∧ Below w.heap.size w w' := by
  obtain ⟨i0, hi, hz0, hz1, hz2⟩ := info_parts iK
  have m1 := r.max
  have m2 := r.le
  have HS : Hid _ := r.src
  have HN : Hid _ := r.nil
  clear r
  have q49 : ∀ (w : World) (a : Option Addr) (n c : Nat), (binOp .eql 49 (.slice a n c) (.slice none 0 0)).run Try.prog w = .ok (.bool a.isNone) w := fun w a n c => Lib.run_eql_slice_nil w _ _ a n c 0 0 Try.underlying49
  go_enter Try.func85, Try.ntmps85
  go_wp2_with (first
    | (at_make; refine wpList_make_own _ rfl _ _ 49 rfl w.heap.size 37 i0 (.agg #[.int .i64 0, .int .i64 0]) 2 Try.underlying49 hi hz0 hz1 .i64 .i64 _ l.length rfl rfl rfl (by rw [hz2]; omega) (by unfold maxLen; omega) (Nat.le_refl _) ?_; intro w1 hown hgrow)
    | (at_builtin; refine wpList_append_fits_any _ rfl _ _ 49 rfl w.heap.size 37 i0 2 Try.underlying49 hi hz1 w.heap.size 0 l.length _ rfl hown (some ad) l.length cap (encK l) rfl (encK_len l) (fun h => by have := HN.out h; omega) (fun ad h j u hj => hgrow.cell (HS.out ad h j u hj) (by intro hh; cases hh)) (encK_one l) (by omega) ?_; intro w2 hown2 hgrow2))
  go_ret
  simp only [Nat.zero_add, List.nil_append] at hown2
  refine ⟨by simp, hown2, ?_⟩
  have := ((Below.refl w.heap.size w).grown hgrow (Nat.le_refl _) (fun k h => by cases h))
  exact this.grown hgrow2 hgrow.size (fun k h => by cases h; exact Nat.le_refl _)
theorem listK_none (w : World) : Calls Try.prog 85 #[.slice none 0 0] w fun e w' => e = .returned (.slice none 0 0) ∧ w = w' := by
  have q49 : ∀ (w : World) (a : Option Addr) (n c : Nat), (binOp .eql 49 (.slice a n c) (.slice none 0 0)).run Try.prog w = .ok (.bool a.isNone) w := fun w a n c => Lib.run_eql_slice_nil w _ _ a n c 0 0 Try.underlying49
  go_enter Try.func85, Try.ntmps85
  go_wp2
  go_ret
  exact ⟨rfl, rfl⟩
theorem listK_any (ao : Option Addr) (cap : Nat) (l : List (Int × Int)) (w : World) (r : KRow w ao cap l) :
    Calls Try.prog 85 #[.slice ao l.length cap] w fun e w' => ∃ a c, e = .returned (.slice a l.length c) ∧ KRow w' a c l ∧ (∀ ad, a = some ad → w.heap.size ≤ ad.block) ∧ Below w.heap.size w w' := by
  cases ao with
  | some ad =>
    refine (listK_some ad cap l w r).mono ?_
    rintro e w' ⟨rfl, h1, h2⟩
    exact ⟨_, _, rfl, KRow.own h1 r.max, hi_some (Nat.le_refl _), h2⟩
  | none =>
    have hc := r.nil rfl
    have hl : l = [] := List.eq_nil_of_length_eq_zero (by have := r.le; omega)
    subst hc hl
    refine (listK_none w).mono ?_
    rintro e w' ⟨rfl, rfl⟩
    exact ⟨_, _, rfl, krow_nil _, (fun _ h => by cases h), Below.refl _ _⟩

theorem newFr_any (c : Cl) (w : World) : Calls Try.prog 29 #[.agg #[.int .i64 c.kind, .int .i64 c.a, .int .i64 c.b, .int .i64 c.time, .int .i64 c.bk, .int .i64 c.slot]] w fun e w' => e = .returned (.agg #[.int .i64 (newF c).c.kind, .int .i64 (newF c).c.a, .int .i64 (newF c).c.b, .int .i64 (newF c).c.time, .int .i64 (newF c).c.bk, .int .i64 (newF c).c.slot, .int .i64 (newF c).pl, .int .i64 (newF c).cur, .int .i64 (newF c).prev, .int .i64 (newF c).slot, .int .i64 (newF c).n, .slice none (newF c).keys.length 0, .bool (newF c).done, .int .i64 (newF c).e]) ∧ Below w.heap.size w w' := by
  go_enter Try.func29, Try.ntmps29
  go_wp2
  refine bodyPost_ret (v := .agg #[.int .i64 (newF c).c.kind, .int .i64 (newF c).c.a, .int .i64 (newF c).c.b, .int .i64 (newF c).c.time, .int .i64 (newF c).c.bk, .int .i64 (newF c).c.slot, .int .i64 (newF c).pl, .int .i64 (newF c).cur, .int .i64 (newF c).prev, .int .i64 (newF c).slot, .int .i64 (newF c).n, .slice none (newF c).keys.length 0, .bool (newF c).done, .int .i64 (newF c).e]) (by simp [results, Try.results29, go_sem, newF]) rfl ⟨rfl, ?_⟩
  repeat (first | exact Below.refl _ _ | refine Below.alloc ?_ (by simp <;> omega) _ | refine Below.setCell ?_ (by simp <;> omega) _)

set_option maxHeartbeats 3200000 in
theorem endFr_hi (f : Fr) (e0 : Int) (aK : Option Addr) (cK : Nat) (w : World) (r : KRow w aK cK f.keys) :
    Calls Try.prog 30 #[.agg #[.int .i64 f.c.kind, .int .i64 f.c.a, .int .i64 f.c.b, .int .i64 f.c.time, .int .i64 f.c.bk, .int .i64 f.c.slot, .int .i64 f.pl, .int .i64 f.cur, .int .i64 f.prev, .int .i64 f.slot, .int .i64 f.n, .slice aK f.keys.length cK, .bool f.done, .int .i64 f.e], .int .i64 e0] w fun e w' => ∃ a c, e = .returned (.agg #[.int .i64 (endF f e0).c.kind, .int .i64 (endF f e0).c.a, .int .i64 (endF f e0).c.b, .int .i64 (endF f e0).c.time, .int .i64 (endF f e0).c.bk, .int .i64 (endF f e0).c.slot, .int .i64 (endF f e0).pl, .int .i64 (endF f e0).cur, .int .i64 (endF f e0).prev, .int .i64 (endF f e0).slot, .int .i64 (endF f e0).n, .slice a (endF f e0).keys.length c, .bool (endF f e0).done, .int .i64 (endF f e0).e]) ∧ KRow w' a c f.keys ∧ (∀ ad, a = some ad → w.heap.size ≤ ad.block) ∧ Below w.heap.size w w' := by
  obtain ⟨of, hof⟩ : ∃ o : Obj, o = .cells #[.int .i64 f.c.kind, .int .i64 f.c.a, .int .i64 f.c.b, .int .i64 f.c.time, .int .i64 f.c.bk, .int .i64 f.c.slot, .int .i64 f.pl, .int .i64 f.cur, .int .i64 f.prev, .int .i64 f.slot, .int .i64 f.n, .slice aK f.keys.length cK, .bool f.done, .int .i64 f.e] 51 := ⟨_, rfl⟩
  obtain ⟨oz, hoz⟩ : ∃ o : Obj, o = .cells #[.int .i64 0, .int .i64 0, .int .i64 0, .int .i64 0, .int .i64 0, .int .i64 0, .int .i64 0, .int .i64 0, .int .i64 0, .int .i64 0, .int .i64 0, .slice none 0 0, .bool false, .int .i64 0] 51 := ⟨_, rfl⟩
  have HE0 : Hid (Env w ((w.alloc of).alloc oz) _ []) := ((⟨Below.refl _ _, (fun p hp => by cases hp), (fun p hp => by cases hp)⟩ : Env w w [] []).alloc of).alloc oz
  rw [show (w.alloc of).heap.size = w.heap.size + 1 by simp] at HE0
  have HR : Hid (KRow w aK cK f.keys) := r
  clear r
  go_enter Try.func30, Try.ntmps30
  go_wp2_with fail
  rw [← hof, ← hoz]
  generalize (w.alloc of).alloc oz = W0 at *
  subst hof hoz
  refine (listK_any aK cK f.keys W0 (HR.out.below HE0.out.bl)).mono ?_
  rintro e w1 ⟨a1, c1, rfl, hr1, hi1, hb1⟩
  have HE1 : Hid _ := HE0.out.below hb1
  have HR1 : Hid (KRow w1 a1 c1 f.keys) := hr1
  have HHi : Hid (∀ ad, a1 = some ad → w.heap.size + 2 ≤ ad.block) := fun ad h => Nat.le_trans (HE0.out.lt (.head _)) (hi1 ad h)
  clear HE0 hb1 hr1 hi1
  have hbz := HE1.out.box _ (.head _)
  have hbf := HE1.out.box _ (.tail _ (.head _))
  obtain ⟨f0, f1, f2, f3, f4, f5, f6, f7, f8, f9, f10, f11, f12, f13, ff, fs⟩ := framef hbf
  obtain ⟨g0, g1, g2, g3, g4, g5, g6, g7, g8, g9, g10, g11, g12, g13, gf, gs⟩ := framef hbz
  have hne : w.heap.size + 1 ≠ w.heap.size := by omega
  have HBl : Hid (Below w.heap.size w w1) := HE1.out.bl
  clear hbz hbf HE1
  go_wp2
  refine bodyPost_ret (v := .agg #[.int .i64 (endF f e0).c.kind, .int .i64 (endF f e0).c.a, .int .i64 (endF f e0).c.b, .int .i64 (endF f e0).c.time, .int .i64 (endF f e0).c.bk, .int .i64 (endF f e0).c.slot, .int .i64 (endF f e0).pl, .int .i64 (endF f e0).cur, .int .i64 (endF f e0).prev, .int .i64 (endF f e0).slot, .int .i64 (endF f e0).n, .slice a1 (endF f e0).keys.length c1, .bool (endF f e0).done, .int .i64 (endF f e0).e]) (by simp [results, Try.results30, go_sem, endF, g0, g1, g2, g3, g4, g5, g6, g7, g8, g9, g10, g11, g12, g13]) rfl ⟨a1, c1, rfl, HR1.out.hi HHi.out (fun k hk => ?_), (fun ad h => Nat.le_trans (Nat.le_add_right _ 2) (HHi.out ad h)), ?_⟩
  · repeat rw [Below.heap_setCell _ _ _ _ (by dsimp only; omega)]
  · iterate 17 (refine Below.setCell ?_ (by dsimp only; omega) _)
    exact HBl.out

theorem endFr_any (f : Fr) (e0 : Int) (aK : Option Addr) (cK : Nat) (w : World) (r : KRow w aK cK f.keys) :
    Calls Try.prog 30 #[.agg #[.int .i64 f.c.kind, .int .i64 f.c.a, .int .i64 f.c.b, .int .i64 f.c.time, .int .i64 f.c.bk, .int .i64 f.c.slot, .int .i64 f.pl, .int .i64 f.cur, .int .i64 f.prev, .int .i64 f.slot, .int .i64 f.n, .slice aK f.keys.length cK, .bool f.done, .int .i64 f.e], .int .i64 e0] w fun e w' => ∃ a c, e = .returned (.agg #[.int .i64 (endF f e0).c.kind, .int .i64 (endF f e0).c.a, .int .i64 (endF f e0).c.b, .int .i64 (endF f e0).c.time, .int .i64 (endF f e0).c.bk, .int .i64 (endF f e0).c.slot, .int .i64 (endF f e0).pl, .int .i64 (endF f e0).cur, .int .i64 (endF f e0).prev, .int .i64 (endF f e0).slot, .int .i64 (endF f e0).n, .slice a (endF f e0).keys.length c, .bool (endF f e0).done, .int .i64 (endF f e0).e]) ∧ KRow w' a c f.keys ∧ Below w.heap.size w w' := by
  refine (endFr_hi f e0 aK cK w r).mono ?_
  rintro e w' ⟨a, c, rfl, h1, -, h2⟩
  exact ⟨a, c, rfl, h1, h2⟩

set_option maxHeartbeats 1600000 in
theorem equalK_true (a1 a2 : Option Addr) (c1 c2 : Nat) (l : List (Int × Int)) (w : World) (r1 : KRow w a1 c1 l) (r2 : KRow w a2 c2 l) :
    Calls Try.prog 84 #[.slice a1 l.length c1, .slice a2 l.length c2] w fun e w' => e = .returned (.bool true) ∧ Below w.heap.size w w' := by
  have m1 := r1.max
  have n1 : l.length ≤ 9223372036854775807 := by omega
  have HZ1 : Hid _ := r1.at_
  have HZ2 : Hid _ := r2.at_
  clear r1 r2
  go_enter Try.func84, Try.ntmps84
  go_wp2
  go_loopw [13] (fun i wr => ∃ k q : Nat, k ≤ l.length ∧ i = .int .i64 k ∧ wr = w.drewN q) (fun i _ => l.length - (intOf i).toNat)
  case atStart => exact ⟨0, 0, Nat.zero_le _, rfl, rfl⟩
  case round =>
    obtain ⟨k, q, hk, rfl, rfl⟩ := hrel
    by_cases hlt : k < l.length
    · rcases HZ1.out with h0 | ⟨b1, o1, rfl, hc1⟩
      · omega
      rcases HZ2.out with h0 | ⟨b2, o2, rfl, hc2⟩
      · omega
      obtain ⟨x0, x1⟩ := hc1 k hlt
      obtain ⟨y0, y1⟩ := hc2 k hlt
      rw [← World.cell?_drewN (n := q)] at x0 x1 y0 y1
      clear hc1 hc2
      generalize hwq : w.drewN q = wq at x0 x1 y0 y1 ⊢
      have HWQ : Hid _ := hwq
      clear hwq
      generalize l[k].1 = xa at x0 y0
      generalize l[k].2 = xb at x1 y1
      have se : ∀ W : World, (Op.equalIn 10000 37 (.agg #[.int .i64 xa, .int .i64 xb]) (.agg #[.int .i64 xa, .int .i64 xb])).run Try.prog W = .ok true W := fun W => by rw [kequal]; simp
      go_wp2_with fail
      go_quiet (fail)
      go_wp2
      go_roundw
      case rel => exact ⟨k + 1, q + nq, by omega, by go_num, by rw [← HWQ.out, World.drewN_drewN]⟩
      case measure => simp [intOf]; omega
    · go_wp2
      go_ret
      exact ⟨rfl, below_draws _ _ _⟩

theorem cequal (c : Cl) (w : World) : (Op.equalIn 10000 48 (.agg #[.int .i64 c.kind, .int .i64 c.a, .int .i64 c.b, .int .i64 c.time, .int .i64 c.bk, .int .i64 c.slot]) (.agg #[.int .i64 c.kind, .int .i64 c.a, .int .i64 c.b, .int .i64 c.time, .int .i64 c.bk, .int .i64 c.slot])).run Try.prog w = .ok true w := by
  have u3 := Try.underlying3
  have a3 := Try.isAgg3
  have z3 := Try.sizeOf3
  have a37 := Try.isAgg37
  have z37 := Try.sizeOf37
  have k9 := kequal9
  have hS : Try.prog.underlying 48 = some (.struct (Try.prog.fieldsOf 48)) := by kernel_rfl
  have hp : Try.prog.stoodInHeld 48 = false := by kernel_rfl
  rw [show (10000 : Nat) = 9999 + 1 from rfl, run_equalIn_agg w 9999 48 _ _ hS hp]
  simp only [Program.fieldsOf, Try.underlying48]
  clear hS
  go_simp

set_option maxHeartbeats 1600000 in
theorem sameFr_true (f : Fr) (aK aK' : Option Addr) (cK cK' : Nat) (w : World) (r : KRow w aK cK f.keys) (r' : KRow w aK' cK' f.keys) :
    Calls Try.prog 28 #[.agg #[.int .i64 f.c.kind, .int .i64 f.c.a, .int .i64 f.c.b, .int .i64 f.c.time, .int .i64 f.c.bk, .int .i64 f.c.slot, .int .i64 f.pl, .int .i64 f.cur, .int .i64 f.prev, .int .i64 f.slot, .int .i64 f.n, .slice aK f.keys.length cK, .bool f.done, .int .i64 f.e], .agg #[.int .i64 f.c.kind, .int .i64 f.c.a, .int .i64 f.c.b, .int .i64 f.c.time, .int .i64 f.c.bk, .int .i64 f.c.slot, .int .i64 f.pl, .int .i64 f.cur, .int .i64 f.prev, .int .i64 f.slot, .int .i64 f.n, .slice aK' f.keys.length cK', .bool f.done, .int .i64 f.e]] w fun e w' => e = .returned (.bool true) ∧ Below w.heap.size w w' := by
  obtain ⟨of, hof⟩ : ∃ o : Obj, o = .cells #[.int .i64 f.c.kind, .int .i64 f.c.a, .int .i64 f.c.b, .int .i64 f.c.time, .int .i64 f.c.bk, .int .i64 f.c.slot, .int .i64 f.pl, .int .i64 f.cur, .int .i64 f.prev, .int .i64 f.slot, .int .i64 f.n, .slice aK f.keys.length cK, .bool f.done, .int .i64 f.e] 51 := ⟨_, rfl⟩
  obtain ⟨oz, hoz⟩ : ∃ o : Obj, o = .cells #[.int .i64 f.c.kind, .int .i64 f.c.a, .int .i64 f.c.b, .int .i64 f.c.time, .int .i64 f.c.bk, .int .i64 f.c.slot, .int .i64 f.pl, .int .i64 f.cur, .int .i64 f.prev, .int .i64 f.slot, .int .i64 f.n, .slice aK' f.keys.length cK', .bool f.done, .int .i64 f.e] 51 := ⟨_, rfl⟩
  have HE0 : Hid (Env w ((w.alloc of).alloc oz) _ []) := ((⟨Below.refl _ _, (fun p hp => by cases hp), (fun p hp => by cases hp)⟩ : Env w w [] []).alloc of).alloc oz
  rw [show (w.alloc of).heap.size = w.heap.size + 1 by simp] at HE0
  have HR : Hid (KRow w aK cK f.keys) := r
  have HR' : Hid (KRow w aK' cK' f.keys) := r'
  clear r r'
  have ce := cequal f.c
  go_enter Try.func28, Try.ntmps28
  go_wp2_with fail
  rw [← hof, ← hoz]
  generalize (w.alloc of).alloc oz = W0 at *
  subst hof hoz
  refine (equalK_true aK aK' cK cK' f.keys W0 (HR.out.below HE0.out.bl) (HR'.out.below HE0.out.bl)).mono ?_
  rintro e w1 ⟨rfl, hb1⟩
  have HE1 : Hid _ := HE0.out.below hb1
  clear HE0 hb1
  obtain ⟨f0, f1, f2, f3, f4, f5, f6, f7, f8, f9, f10, f11, f12, f13, -, fs⟩ := framef (HE1.out.box _ (.tail _ (.head _)))
  obtain ⟨g0, g1, g2, g3, g4, g5, g6, g7, g8, g9, g10, g11, g12, g13, -, gs⟩ := framef (HE1.out.box _ (.head _))
  go_wp2
  go_ret
  exact ⟨rfl, HE1.out.bl⟩

theorem bucket_many (a b : Int) (n : Nat) (w : World) (hk : keyB a b = true) (hn : n < 1 ∨ 4 < n) (hm : n ≤ 9223372036854775807) :
    Calls Try.prog 19 #[.agg #[.int .i64 a, .int .i64 b], .int .i64 n] w fun e w' => e = .returned (.tuple #[.int .i64 0, .int .i64 3]) ∧ Below w.heap.size w w' := by
  have HK : Hid (keyB a b = true) := hk
  clear hk
  rcases hn with h | h
  · obtain rfl : n = 0 := by omega
    go_enter Try.func19, Try.ntmps19
    go_wp2_with (first | (go_at_call 39; refine (kcheck_t _ _ _ HK.out).mono ?_; rintro e w1 ⟨rfl, hb1⟩))
    go_ret2
    exact ⟨rfl, ((Below.refl _ _).alloc (Nat.le_refl _) _).trans (hb1.mono (by simp))⟩
  · have h1 : (1 : Int) ≤ n := by omega
    have h4 : (4 : Int) < n := by omega
    go_enter Try.func19, Try.ntmps19
    go_wp2_with (first | (go_at_call 39; refine (kcheck_t _ _ _ HK.out).mono ?_; rintro e w1 ⟨rfl, hb1⟩))
    go_ret2
    exact ⟨rfl, ((Below.refl _ _).alloc (Nat.le_refl _) _).trans (hb1.mono (by simp))⟩

/- key.Bucket of whatever key and number, the first of what it answers. -/
def bkK (a b : Int) (n : Nat) : Int := if keyB a b then (if 1 ≤ n ∧ n ≤ 4 then bucket a b n else 0) else 0
theorem bucket_all (a b : Int) (n : Nat) (w : World) (hm : n ≤ 9223372036854775807) :
    Calls Try.prog 19 #[.agg #[.int .i64 a, .int .i64 b], .int .i64 n] w fun e w' => ∃ x : Int, e = .returned (.tuple #[.int .i64 (bkK a b n), .int .i64 x]) ∧ Below w.heap.size w w' := by
  cases hk : keyB a b
  · refine (bucket_bad a b n w hk).mono ?_
    rintro e w1 ⟨rfl, hb⟩
    exact ⟨3, by unfold bkK; rw [hk]; rfl, hb⟩
  · by_cases hn : 1 ≤ n ∧ n ≤ 4
    · refine (bucket_ok a b n w hk hn.1 hn.2).mono ?_
      rintro e w1 ⟨rfl, hb⟩
      exact ⟨0, by unfold bkK; rw [hk, if_pos rfl, if_pos hn], hb⟩
    · refine (bucket_many a b n w hk (by omega) hm).mono ?_
      rintro e w1 ⟨rfl, hb⟩
      exact ⟨3, by unfold bkK; rw [hk, if_pos rfl, if_neg hn], hb⟩
theorem bkOf_own {nH : Nat} {c : Cl} (h : c.kind = 4 ∨ c.kind = 5) : bkOf nH c = c.bk := by unfold bkOf; rw [if_pos h]
theorem bkOf_key {nH : Nat} {c : Cl} (h : ¬ (c.kind = 4 ∨ c.kind = 5)) : bkOf nH c = bkK c.a c.b nH := by unfold bkOf bkK; rw [if_neg h]

theorem frBucket_any (aS aH aF aL : Option Addr) (nS nH nF nL cS cH cF cL : Nat) (now : Int) (c : Cl) (w : World) (hh : nH ≤ 9223372036854775807) :
    Calls Try.prog 31 #[.agg #[.slice aS nS cS, .slice aH nH cH, .slice aF nF cF, .slice aL nL cL, .int .i64 now], .agg #[.int .i64 c.kind, .int .i64 c.a, .int .i64 c.b, .int .i64 c.time, .int .i64 c.bk, .int .i64 c.slot]] w fun e w' => e = .returned (.int .i64 (bkOf nH c)) ∧ Below w.heap.size w w' := by
  have b0 : Below w.heap.size w ((w.alloc (.cells #[.slice aS nS cS, .slice aH nH cH, .slice aF nF cF, .slice aL nL cL, .int .i64 now] 25)).alloc (.cells #[.int .i64 c.kind, .int .i64 c.a, .int .i64 c.b, .int .i64 c.time, .int .i64 c.bk, .int .i64 c.slot] 48)) := below_alloc2 w _ _
  have hc := fun W => bucket_all c.a c.b nH W hh
  obtain ⟨E0, hE0⟩ : ∃ x, x = bkOf nH c := ⟨_, rfl⟩
  rw [← hE0]
  have HE0 : Hid (E0 = bkOf nH c) := hE0
  clear hE0
  by_cases h4 : c.kind = 4
  · have HV : Hid (E0 = c.bk) := HE0.out.trans (bkOf_own (.inl h4))
    rw [h4] at b0 ⊢
    go_enter Try.func31, Try.ntmps31
    go_wp2
    go_ret
    exact ⟨by rw [HV.out]; rfl, b0⟩
  by_cases h5 : c.kind = 5
  · have HV : Hid (E0 = c.bk) := HE0.out.trans (bkOf_own (.inr h5))
    rw [h5] at b0 ⊢
    go_enter Try.func31, Try.ntmps31
    go_wp2
    go_ret
    exact ⟨by rw [HV.out]; rfl, b0⟩
  have e4 : (c.kind == 4) = false := by rw [beq_eq_false_iff_ne]; exact h4
  have e5 : (c.kind == 5) = false := by rw [beq_eq_false_iff_ne]; exact h5
  have HV : Hid (E0 = bkK c.a c.b nH) := HE0.out.trans (bkOf_key (by omega))
  generalize bkK c.a c.b nH = bv at *
  clear h4 h5 HE0
  go_enter Try.func31, Try.ntmps31
  go_wp2_with (go_at_call 19; refine (hc _).mono ?_; rintro e w1 ⟨x1, rfl, hb1⟩)
  go_ret
  exact ⟨by rw [HV.out]; rfl, b0.trans (hb1.mono b0.size)⟩

set_option maxHeartbeats 1600000 in
theorem chainFor_any (aS aH aF aL : Option Addr) (nS nH nF nL cS cH cF cL : Nat) (now : Int) (c : Cl) (w : World) (hh : nH ≤ 9223372036854775807) :
    Calls Try.prog 32 #[.agg #[.slice aS nS cS, .slice aH nH cH, .slice aF nF cF, .slice aL nL cL, .int .i64 now], .agg #[.int .i64 c.kind, .int .i64 c.a, .int .i64 c.b, .int .i64 c.time, .int .i64 c.bk, .int .i64 c.slot]] w fun e w' => e = .returned (.int .i64 (bkOf nH c)) ∧ Below w.heap.size w w' := by
  obtain ⟨om, hom⟩ : ∃ o : Obj, o = .cells #[.slice aS nS cS, .slice aH nH cH, .slice aF nF cF, .slice aL nL cL, .int .i64 now] 25 := ⟨_, rfl⟩
  obtain ⟨oc, hoc⟩ : ∃ o : Obj, o = .cells #[.int .i64 c.kind, .int .i64 c.a, .int .i64 c.b, .int .i64 c.time, .int .i64 c.bk, .int .i64 c.slot] 48 := ⟨_, rfl⟩
  have HE : Hid (Env w ((w.alloc om).alloc oc) _ []) := ((⟨Below.refl _ _, (fun p hp => by cases hp), (fun p hp => by cases hp)⟩ : Env w w [] []).alloc om).alloc oc
  rw [show (w.alloc om).heap.size = w.heap.size + 1 by simp] at HE
  obtain ⟨E0, hE0⟩ : ∃ x, x = bkOf nH c := ⟨_, rfl⟩
  rw [← hE0]
  have HE0 : Hid (E0 = bkOf nH c) := hE0
  clear hE0
  by_cases h4 : c.kind = 4
  · have HV : Hid (E0 = c.bk) := HE0.out.trans (bkOf_own (.inl h4))
    subst hom hoc
    rw [h4] at HE ⊢
    go_enter Try.func32, Try.ntmps32
    go_wp2
    go_ret
    exact ⟨by rw [HV.out]; rfl, HE.out.bl⟩
  by_cases h5 : c.kind = 5
  · have HV : Hid (E0 = c.bk) := HE0.out.trans (bkOf_own (.inr h5))
    subst hom hoc
    rw [h5] at HE ⊢
    go_enter Try.func32, Try.ntmps32
    go_wp2
    go_ret
    exact ⟨by rw [HV.out]; rfl, HE.out.bl⟩
  have e4 : (c.kind == 4) = false := by rw [beq_eq_false_iff_ne]; exact h4
  have e5 : (c.kind == 5) = false := by rw [beq_eq_false_iff_ne]; exact h5
  have HV : Hid (E0 = bkK c.a c.b nH) := HE0.out.trans (bkOf_key (by omega))
  clear h4 h5 HE0
  have hk : ∀ W : World, Calls Try.prog 82 #[.agg #[.int .i64 c.a, .int .i64 c.b]] W fun e w' => e = .returned (.bool (keyB c.a c.b)) ∧ Below W.heap.size W w' := fun W => isKey_any c.a c.b W
  cases hK : keyB c.a c.b
  · rw [hK] at hk
    have HV0 : Hid (E0 = 0) := HV.out.trans (by unfold bkK; rw [hK]; rfl)
    go_enter Try.func32, Try.ntmps32
    go_wp2_with fail
    rw [← hom, ← hoc]
    generalize (w.alloc om).alloc oc = W0 at *
    subst hom hoc
    refine (hk W0).mono ?_
    rintro e w1 ⟨rfl, hb1⟩
    have HE1 : Hid _ := HE.out.below hb1
    clear HE hb1
    go_wp2
    go_ret
    exact ⟨by rw [HV0.out]; rfl, HE1.out.bl⟩
  rw [hK] at hk
  go_enter Try.func32, Try.ntmps32
  go_wp2_with fail
  rw [← hom, ← hoc]
  generalize (w.alloc om).alloc oc = W0 at *
  subst hom hoc
  refine (hk W0).mono ?_
  rintro e w1 ⟨rfl, hb1⟩
  have HE1 : Hid _ := HE.out.below hb1
  clear HE hb1
  obtain ⟨q0, q1, q2, q3, q4, -, -, -, -, -, qs⟩ := boxf (HE1.out.box _ (.tail _ (.head _)))
  obtain ⟨c0, c1, c2, c3, c4, c5, cs⟩ := callf (HE1.out.box _ (.head _))
  by_cases hn1 : nH < 1
  · obtain rfl : nH = 0 := by omega
    have HV0 : Hid (E0 = 0) := HV.out.trans (by unfold bkK; rw [hK, if_pos rfl, if_neg (by omega)])
    go_wp2
    go_ret
    exact ⟨by rw [HV0.out]; rfl, HE1.out.bl⟩
  by_cases hn4 : 4 < nH
  · have i1 : (1 : Int) ≤ nH := by omega
    have i4 : (4 : Int) < nH := by omega
    have HV0 : Hid (E0 = 0) := HV.out.trans (by unfold bkK; rw [hK, if_pos rfl, if_neg (by omega)])
    go_wp2
    go_ret
    exact ⟨by rw [HV0.out]; rfl, HE1.out.bl⟩
  have i1 : (1 : Int) ≤ nH := by omega
  have i4 : (nH : Int) ≤ 4 := by omega
  have HV0 : Hid (E0 = bucket c.a c.b nH) := HV.out.trans (by unfold bkK; rw [hK, if_pos rfl, if_pos (by omega)])
  have hc := fun W => bucketOf_any c.a c.b nH W hK (by omega) (by omega)
  generalize bucket c.a c.b nH = bv at *
  go_wp2_with (go_at_call 86; refine (hc _).mono ?_; rintro e w2 ⟨rfl, hb2⟩)
  go_ret
  exact ⟨by rw [HV0.out]; rfl, HE1.out.bl.trans (hb2.mono HE1.out.bl.size)⟩


end Go.Proofs.Ytdbilofhcadmoab.mm

/- The contracts of look's parts: what they answer, for memory of one's own. -/
namespace Go.Proofs.Ytdbilofhcadmoab.mm
open Go.ChangeShapes Go.WideShapes Go.ChangeAt Go.RowKit Go.Joins
set_option maxRecDepth 100000
set_option linter.unusedVariables false

theorem KRow.fine {w w' : World} {Z : Nat → Prop} {ao : Option Addr} {cap : Nat} {l : List (Int × Int)} (r : KRow w ao cap l) (hf : Fine w w' Z) (hz : ∀ ad, ao = some ad → ¬ Z ad.block) : KRow w' ao cap l := by
  refine ⟨r.le, r.max, r.nil, ?_⟩
  rcases r.at_ with h | ⟨b, o, e, hc⟩
  · exact .inl h
  · refine .inr ⟨b, o, e, fun i hi => ?_⟩
    have hb : b < w.heap.size := by
      have := (hc i hi).1
      exact cell_lt this
    have q : ∀ x, w'.cell? ⟨b, x, none⟩ = w.cell? ⟨b, x, none⟩ := fun x => World.cell?_of_block (a := ⟨b, x, none⟩) (hf.block b hb (hz _ e))
    rw [q, q]
    exact hc i hi

theorem to_any (f : Fr) (n : Int) (aK : Option Addr) (cK : Nat) (w : World) :
    Calls Try.prog 97 #[.agg #[.int .i64 f.c.kind, .int .i64 f.c.a, .int .i64 f.c.b, .int .i64 f.c.time, .int .i64 f.c.bk, .int .i64 f.c.slot, .int .i64 f.pl, .int .i64 f.cur, .int .i64 f.prev, .int .i64 f.slot, .int .i64 f.n, .slice aK f.keys.length cK, .bool f.done, .int .i64 f.e], .int .i64 n] w fun e w' => e = .returned (.agg #[.int .i64 (toF f n).c.kind, .int .i64 (toF f n).c.a, .int .i64 (toF f n).c.b, .int .i64 (toF f n).c.time, .int .i64 (toF f n).c.bk, .int .i64 (toF f n).c.slot, .int .i64 (toF f n).pl, .int .i64 (toF f n).cur, .int .i64 (toF f n).prev, .int .i64 (toF f n).slot, .int .i64 (toF f n).n, .slice aK (toF f n).keys.length cK, .bool (toF f n).done, .int .i64 (toF f n).e]) ∧ Below w.heap.size w w' := by
  go_enter Try.func97, Try.ntmps97
  go_wp2
  refine bodyPost_ret (v := .agg #[.int .i64 (toF f n).c.kind, .int .i64 (toF f n).c.a, .int .i64 (toF f n).c.b, .int .i64 (toF f n).c.time, .int .i64 (toF f n).c.bk, .int .i64 (toF f n).c.slot, .int .i64 (toF f n).pl, .int .i64 (toF f n).cur, .int .i64 (toF f n).prev, .int .i64 (toF f n).slot, .int .i64 (toF f n).n, .slice aK (toF f n).keys.length cK, .bool (toF f n).done, .int .i64 (toF f n).e]) (by simp [results, Try.results97, go_sem, toF]) rfl ⟨rfl, ?_⟩
  repeat (first | exact Below.refl _ _ | refine Below.alloc ?_ (by simp <;> omega) _ | refine Below.setCell ?_ (by simp <;> omega) _)

def stN (f : Fr) : Int := if f.cur ≤ 0 then 0 else f.cur - 1

theorem standsAt_any (M : Mm) (f : Fr) (B : Nat) (aS aH aF aL : Option Addr) (cS cH cF cL : Nat) (aK : Option Addr) (cK : Nat) (w : World)
    (hB : w.heap[B]? = some (.cells #[.slice aS M.slots.length cS, .slice aH M.heads.length cH, .slice aF M.free.length cF, .slice aL M.locks.length cL, .int .i64 M.now] 25 (0, 0)))
    (hc : f.cur ≤ 1000) (hn : M.slots.length ≤ 1000) :
    Calls Try.prog 149 #[.pointer (some ⟨B, 0, none⟩), .agg #[.int .i64 f.c.kind, .int .i64 f.c.a, .int .i64 f.c.b, .int .i64 f.c.time, .int .i64 f.c.bk, .int .i64 f.c.slot, .int .i64 f.pl, .int .i64 f.cur, .int .i64 f.prev, .int .i64 f.slot, .int .i64 f.n, .slice aK f.keys.length cK, .bool f.done, .int .i64 f.e]] w fun e w' => e = .returned (.tuple #[.int .i64 (stN f), .bool (isAt M f)]) ∧ Below w.heap.size w w' := by
  obtain ⟨q0, q1, q2, q3, q4, -, -, -, -, -, qs⟩ := boxf hB
  clear hB
  by_cases h : f.cur ≤ 0
  · have e1 : stN f = 0 := by unfold stN; rw [if_pos h]
    have e2 : isAt M f = false := by
      cases hx : isAt M f
      · rfl
      · rw [isAt_iff] at hx; omega
    rw [e1, e2]
    go_enter Try.func149, Try.ntmps149
    go_wp2_with (go_at_call 144; refine (slotOf_no _ _ h).mono ?_; rintro e w1 ⟨rfl, rfl⟩)
    go_ret2
    exact ⟨rfl, one_below _ _⟩
  · have h' : 0 < f.cur := by omega
    have e1 : stN f = f.cur - 1 := by unfold stN; rw [if_neg h]
    have e2 : isAt M f = inB (f.cur - 1) 0 ((M.slots.length : Int) - 1) := by
      rw [Bool.eq_iff_iff, isAt_iff, inB_iff]
      omega
    rw [e1, e2]
    have HS : Hid (∀ W : World, Calls Try.prog 78 #[.agg #[.slice aS M.slots.length cS, .slice aH M.heads.length cH, .slice aF M.free.length cF, .slice aL M.locks.length cL, .int .i64 M.now], .int .i64 (f.cur - 1)] W fun e w' => e = .returned (.bool (inB (f.cur - 1) 0 ((M.slots.length : Int) - 1))) ∧ Below W.heap.size W w') := fun W => isSlot_any aS aH aF aL _ _ _ _ cS cH cF cL M.now (f.cur - 1) W (by omega)
    generalize inB (f.cur - 1) 0 ((M.slots.length : Int) - 1) = r at *
    clear e1 e2 hn
    go_enter Try.func149, Try.ntmps149
    go_wp2_with (first | (go_at_call 144; refine (slotOf_is _ _ h' hc).mono ?_; rintro e w1 ⟨rfl, rfl⟩) | (go_at_call 78; refine (HS.out _).mono ?_; rintro e w2 ⟨rfl, hb2⟩))
    go_ret2
    exact ⟨rfl, (one_below _ _).trans (hb2.mono (by simp))⟩


end Go.Proofs.Ytdbilofhcadmoab.mm
