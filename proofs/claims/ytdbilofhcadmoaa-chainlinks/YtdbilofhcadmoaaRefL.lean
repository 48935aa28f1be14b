/- The contracts of the document's own LinkIn and CutIn on memory of one's own; which flow has a key. -/
import Derived.Test.YtdbilofhcadmoaaRefT
import Derived.Test.YtdbilofhcadmoaaCut
import Derived.Test.YtdbilofhcadmoaaBackP
namespace Go.Proofs.Ytdbilofhcadmoaa.mm
open Go.ChangeShapes Go.WideShapes Go.ChangeAt Go.RowKit Go.Joins Go.Deep
set_option maxRecDepth 100000
set_option linter.unusedVariables false

set_option maxHeartbeats 1600000 in
theorem rlink_in (w : World) (B gS gH nS nH j b cS cH : Nat) (fv lv nv : Value) (r ka kb u nx x : Int) (i : Bool)
    (hB : w.heap[B]? = some (.cells #[.slice (some ⟨gS, 0, none⟩) nS cS, .slice (some ⟨gH, 0, none⟩) nH cH, fv, lv, nv] 29 (0, 0))) (hj : j < nS) (hb : b < nH) (hn : nS ≤ 12) (hh : nH ≤ 4) (d1 : B ≠ gS) (d2 : gS ≠ gH) (d3 : B ≠ gH) (l1 : gS < w.heap.size) (l2 : gH < w.heap.size)
    (c0 : w.cell? ⟨gS, j * 6, none⟩ = some (.int .i64 r)) (c1 : w.cell? ⟨gS, j * 6 + 1, none⟩ = some (.int .i64 ka)) (c2 : w.cell? ⟨gS, j * 6 + 2, none⟩ = some (.int .i64 kb)) (c3 : w.cell? ⟨gS, j * 6 + 3, none⟩ = some (.int .i64 u)) (c4 : w.cell? ⟨gS, j * 6 + 4, none⟩ = some (.bool i)) (c5 : w.cell? ⟨gS, j * 6 + 5, none⟩ = some (.int .i64 nx))
    (fz : ∀ q, w.frozen? ⟨gS, q, none⟩ = false) (ch : w.cell? ⟨gH, b, none⟩ = some (.int .i64 x)) (fh : w.frozen? ⟨gH, b, none⟩ = false) :
    Calls Try.prog 46 #[.pointer (some ⟨B, 0, none⟩), .int .i64 j, .int .i64 b] w fun e w' => e = .returned (.tuple #[]) ∧
      ∃ ob, w' = (((mm.set6 w gS (j * 6) ⟨r, ka, kb, u, true, x⟩).setCell ⟨gH, b, none⟩ (.int .i64 ((j : Int) + 1))).alloc ob).drew := by
  obtain ⟨q0, q1, q2, q3, q4, -, -, -, -, -, qs⟩ := boxf hB
  clear hB
  go_enter Try.func46, Try.ntmps46
  go_wp2
  go_region
  all_goals go_wp2
  all_goals go_end0
  all_goals exact ⟨rfl, _, rfl⟩

theorem rlink_now (M : Mm) (w : World) (B lo : Nat) (aS aH aF aL : Option Addr) (cS cH cF cL j b : Nat) (m : Mine w B lo aS aH aF aL cS cH cF cL M) (hok : Ok M) (hj : j < M.slots.length) (hb : b < M.heads.length) :
    Calls Try.prog 46 #[.pointer (some ⟨B, 0, none⟩), .int .i64 j, .int .i64 b] w fun e w' => e = .returned (.tuple #[]) ∧ Now w w' B lo (linkAt M j b) := by
  obtain ⟨gS, rfl, oS, lS, -, -⟩ := row_form m.c.s (by omega)
  obtain ⟨gH, rfl, oH, lH, -, -⟩ := row_form m.c.h (by omega)
  obtain ⟨c0, c1, c2, c3, c4, c5, fz⟩ := row_cells m.c.s hj
  obtain ⟨ch, fh⟩ := row_cell m.c.h hb
  have dj : gS ≠ gH := fun e => own_dj m.c.s m.c.h (by decide) gS rfl (by rw [e]; rfl)
  refine (rlink_in w B gS gH _ _ j b cS cH _ _ _ _ _ _ _ _ _ _ m.box hj hb hok.ns hok.nh.2 m.ne_s dj m.ne_h lS lH c0 c1 c2 c3 c4 c5 fz ch fh).mono ?_
  rintro e w' ⟨rfl, ob, rfl⟩
  have hs : slotAt M j = M.slots[j] := slotAt_lt hj
  have hhd : headM M b = M.heads[b] := by simp [headM, List.getD_eq_getElem?_getD, hb]
  unfold linkAt
  rw [hs, hhd]
  have m2 := (m.set6 (j := j) hj ⟨M.slots[j].refs, M.slots[j].a, M.slots[j].b, M.slots[j].unt, true, M.heads[b]⟩).setH b ((j : Int) + 1)
  have k2 : Kept w _ B lo := ((Kept.refl w B lo).set6 (o := j * 6) oS ⟨M.slots[j].refs, M.slots[j].a, M.slots[j].b, M.slots[j].unt, true, M.heads[b]⟩).setCell (j := b) oH (.int .i64 ((j : Int) + 1))
  generalize (mm.set6 w gS (j * 6) ⟨M.slots[j].refs, M.slots[j].a, M.slots[j].b, M.slots[j].unt, true, M.heads[b]⟩).setCell ⟨gH, b, none⟩ (.int .i64 ((j : Int) + 1)) = W at *
  have hbl : Below W.heap.size W ((W.alloc ob).drew) := (one_below W ob).drew
  exact ⟨rfl, _, _, _, _, _, _, _, _, m2.below hbl, k2.below hbl m2.c.lz⟩

theorem rcut_begin (w : World) (B gS gH nS nH j b cS cH : Nat) (fv lv nv : Value) (x nx : Int)
    (hB : w.heap[B]? = some (.cells #[.slice (some ⟨gS, 0, none⟩) nS cS, .slice (some ⟨gH, 0, none⟩) nH cH, fv, lv, nv] 29 (0, 0))) (hj : j < nS) (hb : b < nH) (hn : nS ≤ 12) (hh : nH ≤ 4)
    (c5 : w.cell? ⟨gS, j * 6 + 5, none⟩ = some (.int .i64 nx)) (ch : w.cell? ⟨gH, b, none⟩ = some (.int .i64 x)) (fh : w.frozen? ⟨gH, b, none⟩ = false) :
    Calls Try.prog 48 #[.pointer (some ⟨B, 0, none⟩), .int .i64 0, .int .i64 j, .int .i64 b] w fun e w' => e = .returned (.tuple #[]) ∧ w' = w.setCell ⟨gH, b, none⟩ (.int .i64 nx) := by
  obtain ⟨q0, q1, q2, q3, q4, -, -, -, -, -, qs⟩ := boxf hB
  clear hB
  go_enter Try.func48, Try.ntmps48
  go_wp2
  exact bodyPost_ret (v := .tuple #[]) (by simp [results, Try.results48]) rfl ⟨rfl, rfl⟩
theorem rcut_mid (w : World) (B gS gH nS nH j b p cS cH : Nat) (fv lv nv : Value) (nx px : Int)
    (hB : w.heap[B]? = some (.cells #[.slice (some ⟨gS, 0, none⟩) nS cS, .slice (some ⟨gH, 0, none⟩) nH cH, fv, lv, nv] 29 (0, 0))) (hj : j < nS) (hb : b < nH) (hn : nS ≤ 12) (hh : nH ≤ 4) (hp : p < nS)
    (c5 : w.cell? ⟨gS, j * 6 + 5, none⟩ = some (.int .i64 nx)) (d5 : w.cell? ⟨gS, p * 6 + 5, none⟩ = some (.int .i64 px)) (fz : w.frozen? ⟨gS, p * 6 + 5, none⟩ = false) :
    Calls Try.prog 48 #[.pointer (some ⟨B, 0, none⟩), .int .i64 ((p : Int) + 1), .int .i64 j, .int .i64 b] w fun e w' => e = .returned (.tuple #[]) ∧ w' = w.setCell ⟨gS, p * 6 + 5, none⟩ (.int .i64 nx) := by
  obtain ⟨q0, q1, q2, q3, q4, -, -, -, -, -, qs⟩ := boxf hB
  clear hB
  have e0 : ((p : Int) + 1 == 0) = false := by rw [beq_eq_false_iff_ne]; omega
  go_enter Try.func48, Try.ntmps48
  go_wp2
  go_end0
  exact ⟨rfl, rfl⟩
theorem rcut_now (M : Mm) (w : World) (B lo : Nat) (aS aH aF aL : Option Addr) (cS cH cF cL j b : Nat) (ah : Int) (m : Mine w B lo aS aH aF aL cS cH cF cL M) (hok : Ok M) (hj : j < M.slots.length) (hb : b < M.heads.length) (ha0 : 0 ≤ ah) (hah : ah ≤ M.slots.length) :
    Calls Try.prog 48 #[.pointer (some ⟨B, 0, none⟩), .int .i64 ah, .int .i64 j, .int .i64 b] w fun e w' => e = .returned (.tuple #[]) ∧ Now w w' B lo (cutM M b ah j) := by
  obtain ⟨gS, rfl, oS, lS, -, -⟩ := row_form m.c.s (by omega)
  obtain ⟨gH, rfl, oH, lH, -, -⟩ := row_form m.c.h (by omega)
  obtain ⟨c0, c1, c2, c3, c4, c5, fz⟩ := row_cells m.c.s hj
  obtain ⟨ch, fh⟩ := row_cell m.c.h hb
  have hs : slotAt M j = M.slots[j] := slotAt_lt hj
  by_cases ha : 0 < ah
  · obtain ⟨p, rfl⟩ : ∃ p : Nat, ah = (p : Int) + 1 := ⟨(ah - 1).toNat, by omega⟩
    have hp : p < M.slots.length := by omega
    obtain ⟨_, _, _, _, _, d5, _⟩ := row_cells m.c.s hp
    refine (rcut_mid w B gS gH _ _ j b p cS cH _ _ _ _ _ m.box hj hb hok.ns hok.nh.2 hp c5 d5 (fz _)).mono ?_
    rintro e w' ⟨rfl, rfl⟩
    unfold cutM
    rw [if_pos ha, hs, show (p : Int) + 1 - 1 = p by omega, show slotAt M p = M.slots[p] from slotAt_lt hp, Int.toNat_natCast]
    exact ⟨rfl, _, _, _, _, _, _, _, _, m.setS _ _ _ (encS_set5 M.slots p hp _), (Kept.refl w B lo).setCell oS _⟩
  · obtain rfl : ah = 0 := by omega
    refine (rcut_begin w B gS gH _ _ j b cS cH _ _ _ _ _ m.box hj hb hok.ns hok.nh.2 c5 ch fh).mono ?_
    rintro e w' ⟨rfl, rfl⟩
    unfold cutM
    rw [if_neg ha, hs]
    exact ⟨rfl, _, _, _, _, _, _, _, _, m.setH b _, (Kept.refl w B lo).setCell oH _⟩

/- Which flow it is. -/
def HitF (l : List Fl) (p : Fl → Bool) (i : Int) : Prop := (i = -1 ∧ l.any p = false) ∨ ∃ k : Nat, ∃ h : k < l.length, i = k ∧ p l[k] = true

set_option maxHeartbeats 1600000 in
theorem indexFn_ix (F : Nat) (caps : Array Value) (p : Fl → Bool) (ao : Option Addr) (cap : Nat) (l : List Fl) (w : World) (hbig : l.length ≤ 1000) (hat : FRow w ao cap l) (hF : ∀ args W, (callFunc F args).run Try.prog W = .ok (.enter F args) W)
    (hp : ∀ (x : Fl) W, Below w.heap.size w W → Calls Try.prog F (#[.agg #[.int .i64 x.a, .int .i64 x.b, .int .i64 x.slot, .int .i64 x.unt]] ++ caps) W fun e W' => e = .returned (.bool (p x)) ∧ Below W.heap.size W W') :
    Calls Try.prog 44 #[.slice ao l.length cap, .func (.func F) #[] caps] w fun e w' => ∃ i : Int, e = .returned (.int .i64 i) ∧ HitF l p i ∧ Below w.heap.size w w' := by
  have HAT : Hid (FRow w ao cap l) := hat
  have HP : Hid (∀ (x : Fl) W, Below w.heap.size w W → Calls Try.prog F (#[.agg #[.int .i64 x.a, .int .i64 x.b, .int .i64 x.slot, .int .i64 x.unt]] ++ caps) W fun e W' => e = .returned (.bool (p x)) ∧ Below W.heap.size W W') := hp
  have HFn : Hid (∀ args W, (callFunc F args).run Try.prog W = .ok (.enter F args) W) := hF
  clear hat hp hF
  go_enter Try.func44, Try.ntmps44
  go_wp2
  go_loopw [8] (fun i wr => ∃ k : Nat, k ≤ l.length ∧ i = .int .i64 k ∧ Hid (Below w.heap.size w wr) ∧ Hid ((l.take k).any p = false)) (fun i _ => l.length - (intOf i).toNat)
  case atStart => exact ⟨0, Nat.zero_le _, rfl, Below.refl _ _, by show _ = _; simp⟩
  case round =>
    obtain ⟨k, hk, rfl, HB, HC⟩ := hrel
    by_cases hlt : k < l.length
    · rcases (HAT.out.below HB.out).at_ with h0 | ⟨bk, ok, rfl, hc⟩
      · omega
      obtain ⟨c0, c1, c2, c3⟩ := hc k hlt
      clear hc
      generalize hy : l[k] = y at c0 c1 c2 c3
      have HX : Hid (l[k] = y) := hy
      clear hy
      go_wp2_with fail
      rw [HFn.out]
      refine (HP.out y wr HB.out).mono ?_
      rintro e w1 ⟨rfl, hb1⟩
      have HB1 : Hid (Below w.heap.size w w1) := HB.out.trans (hb1.mono HB.out.size)
      clear hb1 c0 c1 c2 c3
      cases hh : p y
      · have HH : Hid ((l.take (k + 1)).any p = false) := any_snoc hlt HC.out (by rw [HX.out]; exact hh)
        go_wp2
        go_roundw
        case rel => exact ⟨k + 1, by omega, by go_num, HB1, HH⟩
        case measure => simp [intOf]; omega
      · have HH : Hid (p l[k] = true) := by show _ = _; rw [HX.out]; exact hh
        go_wp2
        go_ret
        exact ⟨k, rfl, .inr ⟨k, hlt, rfl, HH.out⟩, HB1.out⟩
    · have HH : Hid (l.any p = false) := by
        have := HC.out
        rw [show k = l.length by omega, List.take_length] at this
        exact this
      go_wp2
      go_ret
      exact ⟨-1, rfl, .inl ⟨rfl, HH.out⟩, HB.out⟩

theorem of_key45 (a b : Int) (B : Nat) (x : Fl) (W : World) (hB : W.heap[B]? = some (.cells #[.int .i64 a, .int .i64 b] 37 (0, 0))) :
    Calls Try.prog 45 (#[.agg #[.int .i64 x.a, .int .i64 x.b, .int .i64 x.slot, .int .i64 x.unt]] ++ #[.pointer (some ⟨B, 0, none⟩)]) W fun e W' => e = .returned (.bool (x.a == a && x.b == b)) ∧ Below W.heap.size W W' := by
  obtain ⟨c0, c1⟩ := keyf hB
  have lB := lt_of_block hB
  have ke := kequal x.a x.b a b
  have hb := one_below W (.cells #[.int .i64 x.a, .int .i64 x.b, .int .i64 x.slot, .int .i64 x.unt] 65)
  clear hB
  generalize (x.a == a && x.b == b) = r at *
  show Calls Try.prog 45 #[.agg #[.int .i64 x.a, .int .i64 x.b, .int .i64 x.slot, .int .i64 x.unt], .pointer (some ⟨B, 0, none⟩)] W _
  go_enter Try.func45, Try.ntmps45
  go_wp2
  go_ret
  exact ⟨rfl, hb⟩
theorem fn45 : ∀ args W, (callFunc 45 args).run Try.prog W = .ok (.enter 45 args) W := fun _ _ => by kernel_rfl
theorem fn43 : ∀ args W, (callFunc 43 args).run Try.prog W = .ok (.enter 43 args) W := fun _ _ => by kernel_rfl

theorem of_any (ao : Option Addr) (cap : Nat) (l : List Fl) (V : Nat) (a b : Int) (w : World) (hbig : l.length ≤ 1000) (hV : w.heap[V]? = some (.cells #[.slice ao l.length cap] 60 (0, 0))) (hat : FRow w ao cap l) :
    Calls Try.prog 43 #[.agg #[.int .i64 a, .int .i64 b], .pointer (some ⟨V, 0, none⟩)] w fun e w' => ∃ i : Int, e = .returned (.int .i64 i) ∧ HitF l (fun x => x.a == a && x.b == b) i ∧ Below w.heap.size w w' := by
  have b0 : Below w.heap.size w (w.alloc (.cells #[.int .i64 a, .int .i64 b] 37)) := one_below _ _
  have HB0 : Hid ((w.alloc (.cells #[.int .i64 a, .int .i64 b] 37)).heap[w.heap.size]? = some (.cells #[.int .i64 a, .int .i64 b] 37)) := heap_alloc_new _ _
  have HAT2 : Hid (FRow (w.alloc (.cells #[.int .i64 a, .int .i64 b] 37)) ao cap l) := hat.below b0
  obtain ⟨v0, -, vs⟩ := var_cell hV
  clear hat hV
  have hmf : ∀ (fn : Fn) (first cap : Array Value) (w : World), (Instr.makeFunc fn first cap).run Try.prog w = .ok (.func fn first cap) w := fun _ _ _ _ => rfl
  go_enter Try.func43, Try.ntmps43
  go_wp2_with fail
  refine (indexFn_ix 45 #[.pointer (some ⟨w.heap.size, 0, none⟩)] (fun x => x.a == a && x.b == b) ao cap l _ hbig HAT2.out fn45 (fun x W hW => of_key45 a b w.heap.size x W ((hW.block w.heap.size (lt_of_block HB0.out)).trans HB0.out))).mono ?_
  rintro e w1 ⟨i1, rfl, hh, hb1⟩
  have b1 := b0.trans (hb1.mono b0.size)
  have HH : Hid (HitF l (fun x => x.a == a && x.b == b) i1) := hh
  clear hb1 b0 HB0 HAT2 hh
  go_wp2
  go_ret
  exact ⟨i1, rfl, HH.out, b1⟩

theorem hit_none {M : Mm} {a b i : Int} (h : HitF (flA M) (fun x => x.a == a && x.b == b) i) (hn : hasK M (allC M) (a, b) = false) : i = -1 := by
  rcases h with ⟨h, -⟩ | ⟨k, hk, -, hp⟩
  · exact h
  · have : hasKF (flA M) a b = true := by unfold hasKF; rw [List.any_eq_true]; exact ⟨_, List.getElem_mem hk, hp⟩
    unfold flA at this
    rw [hasKF_eq, hn] at this
    cases this
theorem hit_some {M : Mm} {a b i : Int} (hc : OkC M) (h : HitF (flA M) (fun x => x.a == a && x.b == b) i) (hn : hasK M (allC M) (a, b) = true) : ∃ k : Nat, ∃ hk : k < (flA M).length, i = k ∧ (flA M)[k].slot = whoK M (allC M) (a, b) := by
  rcases h with ⟨-, h⟩ | ⟨k, hk, rfl, hp⟩
  · have : hasKF (flA M) a b = false := h
    unfold flA at this
    rw [hasKF_eq, hn] at this
    cases this
  · refine ⟨k, hk, rfl, ?_⟩
    have hk' : k < (allC M).length := by rwa [flA_len] at hk
    have e : (flA M)[k] = flowAt M (allC M)[k] := by simp [flA]
    rw [e] at hp ⊢
    obtain ⟨h1, h2⟩ := whoK_mem hn
    have hkey : keyAt M (allC M)[k] = (a, b) := by
      simp only [flowAt, Bool.and_eq_true, beq_iff_eq] at hp
      unfold keyAt
      rw [hp.1, hp.2]
    show (allC M)[k] = _
    have hkeys := hc.keys
    obtain ⟨q, hq, hqe⟩ := List.mem_iff_getElem.1 h1
    have : ((allC M).map (keyAt M))[k]'(by simpa using hk') = ((allC M).map (keyAt M))[q]'(by simpa using hq) := by simp [hkey, hqe, h2]
    have := (List.getElem_inj hkeys).1 this
    subst this
    exact hqe
theorem prev_ahead {a : Int} {l : List Int} (hn : l.Nodup) (hm : a ∈ l) : prevF a l 0 = aheadF a l 0 0 := by
  obtain ⟨l1, l2, rfl⟩ := List.append_of_mem hm
  have h1 : ¬ a ∈ l1 := fun h => by
    rw [List.nodup_append] at hn
    exact hn.2.2 a h a (by simp) rfl
  have h2 : ¬ a ∈ l2 := fun h => by
    rw [List.nodup_append] at hn
    have := hn.2.1
    rw [List.nodup_cons] at this
    exact this.1 h
  rw [prev_at h1, ahead_at h1 h2]


end Go.Proofs.Ytdbilofhcadmoaa.mm
