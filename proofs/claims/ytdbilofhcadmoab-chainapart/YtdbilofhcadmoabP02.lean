/- ChainApart: where chains are right no slot is in two, each is in its key's; what was linked is the first of its chain. -/
import Derived.Test.YtdbilofhcadmoabP01
import Derived.Test.YtdbilofhcadmoabC32
import Derived.Deep.RegionWith
namespace Go.Proofs.Ytdbilofhcadmoab.mm
open Go.ChangeShapes Go.WideShapes Go.ChangeAt Go.RowKit Go.Joins Go.Maps
set_option maxRecDepth 100000
set_option linter.unusedVariables false

theorem irow_own {w : World} {base n cap : Nat} {ao : Option Addr} {l : List Int} (h : w.ownsRow base 3 1 (.slice ao n cap) n (encI l)) (hm : l.length * 8 ≤ 140737488351232) : IRow w ao cap l := by
  obtain ⟨ax, cx, hax, hir⟩ := IRow.of_own h hm
  simp only [Value.slice.injEq] at hax
  obtain ⟨rfl, -, rfl⟩ := hax
  exact hir

theorem frow_below {w w' : World} {ao : Option Addr} {cap : Nat} {l : List Fl} (r : FRow w ao cap l) (hb : Below w.heap.size w w') : FRow w' ao cap l := r.below hb

theorem equalI_at (a1 a2 : Option Addr) (c1 c2 n1 n2 : Nat) (l1 l2 : List Int) (h1 : n1 = l1.length) (h2 : n2 = l2.length) (w : World) (r1 : IRow w a1 c1 l1) (r2 : IRow w a2 c2 l2) :
    Calls Try.prog 22 #[.slice a1 n1 c1, .slice a2 n2 c2] w fun e w' => e = .returned (.bool (eqI l1 l2)) ∧ Below w.heap.size w w' := by
  subst h1 h2
  exact equalI_any a1 a2 c1 c2 l1 l2 w r1 r2

theorem slotsCE_ok {M : Mm} (h : OkC M) {b : Nat} (hb : b < M.heads.length) : slotsCE M b = 0 ∧ slotsCL M b = chL M b := by
  have hc : chOk M b = true := (chOk_iff M b).2 (h.ends b hb)
  have h1 : slotsCE M b = 0 := by
    unfold slotsCE
    rw [if_neg (by simpa using (chk_zero M).2 h.ok), if_neg (by rw [show inB (b : Int) 0 ((M.heads.length : Int) - 1) = true from (inB_iff _ _ _).2 ⟨by omega, by omega⟩]; simp), Int.toNat_natCast]
    unfold slotsE
    rw [hc]; rfl
  refine ⟨h1, ?_⟩
  unfold slotsCL
  rw [h1, if_pos rfl, Int.toNat_natCast]

theorem OkC.fresh {M : Mm} (h : OkC M) {b k : Nat} (hb : b < M.heads.length) (hk : k < (chL M b).length) : hasB (allTo M b ++ (chL M b).take k) (chL M b)[k] = false := by
  obtain ⟨l2, e, _⟩ := allC_split M hb
  have hn := nodup_of_map h.keys
  rw [e, List.nodup_append] at hn
  have h1 := hn.1
  have h2 : chL M b = (chL M b).take k ++ (chL M b)[k] :: (chL M b).drop (k + 1) := by
    rw [← List.drop_eq_getElem_cons hk, List.take_append_drop]
  rw [hasB_not]
  intro hm
  have h3 : (allTo M b ++ (chL M b).take k ++ (chL M b)[k] :: (chL M b).drop (k + 1)).Nodup := by
    rw [List.append_assoc, ← h2]; exact h1
  rw [List.nodup_append] at h3
  exact h3.2.2 _ hm _ List.mem_cons_self rfl

theorem own_block {w : World} {g : Nat} {F : List Int} (base : Nat) (h : w.heap[g]? = some (.cells (encI F).toArray 3 (0, 0))) (hb : base ≤ g) (hm : F.length ≤ 9223372036854775807) : w.ownsRow base 3 1 (.slice (some ⟨g, 0, none⟩) F.length F.length) F.length (encI F) :=
  ⟨by simp [encI], .inr ⟨g, F.length, _, rfl, hb, h, Nat.le_refl _, hm, by simp [encI], by rw [List.take_of_length_le (by simp [encI])]⟩⟩

set_option maxHeartbeats 6400000 in
theorem chapart_any (M : Mm) (v : Value) (a : Int) (w : World) (A : Ans 0 w v M) (ha : -9223372036854775808 ≤ a ∧ a ≤ 9223372036854775807) :
    Calls Try.prog 3 #[v, .int .i64 a] w fun e w' => e = .returned (.bool true) ∧ Below w.heap.size w w' := by
  obtain ⟨aS, aH, aF, aL, cS, cH, cF, cL, rfl, A, hi0⟩ := A
  have HAt : Hid (At w aS aH aF aL cS cH cF cL M) := A
  obtain ⟨i0, hi, hz0, hz1, hz2⟩ := info_parts iI
  obtain ⟨o1, ho1⟩ : ∃ o : Obj, o = .cells #[.slice aS M.slots.length cS, .slice aH M.heads.length cH, .slice aF M.free.length cF, .slice aL M.locks.length cL, .int .i64 M.now] 25 := ⟨_, rfl⟩
  have HW0 : Hid (Below w.heap.size w (w.alloc o1)) := one_below w o1
  have HX0 : Hid ((w.alloc o1).heap[w.heap.size]? = some o1) := heap_alloc_new _ _
  clear A hi0
  go_enter Try.func3, Try.ntmps3
  go_wp2_with fail
  rw [← ho1]
  generalize w.alloc o1 = W0 at *
  subst ho1
  refine (chained_any W0).mono ?_
  rintro e w1 ⟨rfl, hb1⟩
  have HW1 : Hid (Below w.heap.size w w1) := HW0.out.trans (hb1.mono HW0.out.size)
  have HX1 : Hid (w1.heap[w.heap.size]? = some (.cells #[.slice aS M.slots.length cS, .slice aH M.heads.length cH, .slice aF M.free.length cF, .slice aL M.locks.length cL, .int .i64 M.now] 25 (0, 0))) := (hb1.block w.heap.size (lt_of_block HX0.out)).trans HX0.out
  have HA1 : Hid _ := HAt.out.below HW1.out
  clear hb1 HW0 HX0
  obtain ⟨q0, q1, q2, q3, q4, f0, f1, f2, f3, f4, qs⟩ := boxf HX1.out
  clear f0 f1 f2 f3 f4
  go_wp2_with fail
  refine (chainCheck_any M aS aH aF aL cS cH cF cL w1 HA1.out).mono ?_
  rintro e w2 ⟨rfl, hb2⟩
  have HW2 : Hid (Below w.heap.size w w2) := HW1.out.trans (hb2.mono HW1.out.size)
  have HX2 : Hid (w2.heap[w.heap.size]? = some (.cells #[.slice aS M.slots.length cS, .slice aH M.heads.length cH, .slice aF M.free.length cF, .slice aL M.locks.length cL, .int .i64 M.now] 25 (0, 0))) := (hb2.block w.heap.size qs).trans HX1.out
  clear hb2 HW1 HX1 HA1 q0 q1 q2 q3 q4 qs
  by_cases hC : chkC M = 0
  rotate_left
  · have h2 : (chkC M != 0) = true := by simpa using hC
    generalize chkC M = EC at *
    go_wp2_with fail
    refine (chained_any w2).mono ?_
    rintro e w3 ⟨rfl, hb3⟩
    have HW3 : Hid (Below w.heap.size w w3) := HW2.out.trans (hb3.mono HW2.out.size)
    clear hb3 HW2 HX2
    go_wp2
    go_ret
    exact ⟨rfl, HW3.out⟩
  have hokc := (chkC_zero M).1 hC
  have hok := hokc.ok
  have n0 := hok.ns
  have n1 := hok.nh
  have HCC : Hid (chkC M = 0) := hC
  rw [hC]
  clear hC
  have HA2 : Hid _ := HAt.out.below HW2.out
  obtain ⟨q0, q1, q2, q3, q4, f0, f1, f2, f3, f4, qs⟩ := boxf HX2.out
  clear f0 f1 f2 f3 f4
  obtain ⟨fl, hfl⟩ : ∃ fl, fl = (allC M).map (flowAt M) := ⟨_, rfl⟩
  have HFe : Hid (flowsM M = fl) := by rw [hfl]; unfold flowsM; rw [if_pos HCC.out]; exact rfl
  have hal := allTo_len M M.heads.length
  have hal2 : M.heads.length * M.slots.length ≤ 4 * 12 := Nat.mul_le_mul (by omega) n0
  have HFL : Hid (fl = (allC M).map (flowAt M)) := hfl
  have hfn : fl.length = (allC M).length := by rw [hfl]; simp
  have hfle : fl.length ≤ 48 := by rw [hfn]; exact Nat.le_trans hal hal2
  clear hfl
  have HFN : Hid (fl.length = (allC M).length) := hfn
  clear hfn
  have HAn : Hid (Ans 0 w2 (.agg #[.slice aS M.slots.length cS, .slice aH M.heads.length cH, .slice aF M.free.length cF, .slice aL M.locks.length cL, .int .i64 M.now]) M) := ⟨aS, aH, aF, aL, cS, cH, cF, cL, rfl, HA2.out, ⟨fun _ _ => Nat.zero_le _, fun _ _ => Nat.zero_le _, fun _ _ => Nat.zero_le _, fun _ _ => Nat.zero_le _⟩⟩
  go_wp2_with fail
  refine (flows_at HFe.out HCC.out _ w2 0 HAn.out).mono ?_
  rintro e w3 ⟨ao3, cap3, rfl, hr3, hb3⟩
  have HW3 : Hid (Below w.heap.size w w3) := HW2.out.trans (hb3.mono HW2.out.size)
  have HX3 : Hid (w3.heap[w.heap.size]? = some (.cells #[.slice aS M.slots.length cS, .slice aH M.heads.length cH, .slice aF M.free.length cF, .slice aL M.locks.length cL, .int .i64 M.now] 25 (0, 0))) := (hb3.block w.heap.size qs).trans HX2.out
  have HF3 : Hid (FRow w3 ao3 cap3 fl) := hr3
  have lx3 := lt_of_block HX3.out
  clear hr3 hb3 HW2 HX2 HA2 HAn q0 q1 q2 q3 q4 qs
  obtain ⟨q0, q1, q2, q3, q4, f0, f1, f2, f3, f4, qs⟩ := boxf HX3.out
  clear f0 f1 f2 f3 f4
  go_wp2
  clear q0 q1 q2 q3 q4 qs
  go_loopw [41, 7] (fun i v wr => ∃ b : Nat, b ≤ M.heads.length ∧ i = .int .i64 b ∧ Hid (wr.ownsRow w3.heap.size 3 1 v (allTo M b).length (encI (allTo M b))) ∧ Hid (Below w3.heap.size w3 wr))
    (fun i _ _ => M.heads.length - (intOf i).toNat)
  case atStart => exact ⟨0, Nat.zero_le _, rfl, World.ownsRow_nil _ _ _ _, Below.refl _ _⟩
  case round =>
    obtain ⟨b, hb, rfl, HO, HBr⟩ := hrel
    have HWr : Hid (Below w.heap.size w wr) := HW3.out.trans (HBr.out.mono HW3.out.size)
    have HXr : Hid (wr.heap[w.heap.size]? = some (.cells #[.slice aS M.slots.length cS, .slice aH M.heads.length cH, .slice aF M.free.length cF, .slice aL M.locks.length cL, .int .i64 M.now] 25 (0, 0))) := (HBr.out.block w.heap.size lx3).trans HX3.out
    obtain ⟨q0, q1, q2, q3, q4, f0, f1, f2, f3, f4, qs⟩ := boxf HXr.out
    clear f0 f1 f2 f3 f4
    by_cases hlt : b < M.heads.length
    · have HAr : Hid _ := HAt.out.below HWr.out
      have hlen : (chL M b).length ≤ 12 := Nat.le_trans (walkL_len _ _ _) n0
      have halb := allTo_len M b
      have halb2 : b * M.slots.length ≤ 4 * 12 := Nat.mul_le_mul (by omega) n0
      have hs := slotsCE_ok hokc hlt
      go_wp2_with fail
      refine (chainSlots_hi M aS aH aF aL cS cH cF cL b wr HAr.out).mono ?_
      rw [hs.1, hs.2]
      rintro e w4 ⟨ao4, cap4, rfl, hr4, hhi4, hb4⟩
      have HR4 : Hid (IRow w4 ao4 cap4 (chL M b)) := hr4
      have HB4 : Hid (Below w3.heap.size w3 w4) := HBr.out.trans (hb4.mono HBr.out.size)
      have HO4 : Hid (w4.ownsRow w3.heap.size 3 1 u7 (allTo M b).length (encI (allTo M b))) := own_below HO.out hb4
      have HNe : Hid (∀ ad, ao4 = some ad → u7.ownBlock ≠ some ad.block) := fun ad h e => by
        have h1 := (World.ownsRow.lt HO.out _ e).2
        have h2 := hhi4 ad h
        omega
      have HIn : Hid _ := hok.chIn hlt
      have HSu : Hid (allTo M (b + 1) = allTo M b ++ chL M b) := allTo_succ M b
      have HFr : Hid (∀ k (hk : k < (chL M b).length), hasB (allTo M b ++ (chL M b).take k) (chL M b)[k] = false) := fun k hk => hokc.fresh hlt hk
      have HHd : Hid (∀ x ∈ chL M b, bucket (slotAt M x).a (slotAt M x).b M.heads.length = b) := fun x hx => (hokc.held b hlt x hx).2.2
      clear hr4 hhi4 hb4 hs HO HBr HWr HXr HAr q0 q1 q2 q3 q4 qs
      generalize chL M b = l at *
      go_wp2
      go_loopw [54, 7] (fun i v wr => ∃ k : Nat, k ≤ l.length ∧ i = .int .i64 k ∧ Hid (wr.ownsRow w3.heap.size 3 1 v (allTo M b ++ l.take k).length (encI (allTo M b ++ l.take k))) ∧ Hid (Below w3.heap.size w3 wr) ∧ Hid (IRow wr ao4 cap4 l) ∧ Hid (∀ ad, ao4 = some ad → v.ownBlock ≠ some ad.block))
        (fun i _ _ => l.length - (intOf i).toNat)
      case atStart => exact ⟨0, Nat.zero_le _, rfl, by rw [List.take_zero, List.append_nil]; exact HO4, HB4, HR4, HNe⟩
      case round =>
        obtain ⟨k, hk, rfl, HO5, HB5, HR5, HN5⟩ := hrel
        clear HO4 HB4 HR4 HNe
        have HW5 : Hid (Below w.heap.size w wr) := HW3.out.trans (HB5.out.mono HW3.out.size)
        have HX5 : Hid (wr.heap[w.heap.size]? = some (.cells #[.slice aS M.slots.length cS, .slice aH M.heads.length cH, .slice aF M.free.length cF, .slice aL M.locks.length cL, .int .i64 M.now] 25 (0, 0))) := (HB5.out.block w.heap.size lx3).trans HX3.out
        by_cases hlt5 : k < l.length
        · rcases HR5.out.at_ with h0 | ⟨bl, ol, rfl, hcl⟩
          · omega
          have d0 := hcl k hlt5
          have ld0 := cell_lt d0
          have hin := HIn.out l[k] (List.getElem_mem hlt5)
          have hfr := HFr.out k hlt5
          have hhd := HHd.out l[k] (List.getElem_mem hlt5)
          obtain ⟨j, hj⟩ : ∃ j : Nat, l[k] = j := ⟨(l[k]).toNat, by omega⟩
          have HX : Hid (l[k] = j) := hj
          rw [hj] at d0 hin hfr hhd
          clear hj hcl
          have hjs : j < M.slots.length := by omega
          have hA5 := HAt.out.below HW5.out
          rcases hA5.s.at_ with h0 | ⟨bs, os, rfl, hcs⟩
          · omega
          obtain ⟨s0, s1, s2, s3, s4, s5⟩ := hcs j hjs
          have ls := cell_lt s1
          have hgood := (slot_good (hok.slot _ (List.getElem_mem hjs))).2.2.1
          have hsl : slotAt M j = M.slots[j] := slotAt_lt hjs
          rw [hsl] at hhd
          generalize M.slots[j] = sj at s0 s1 s2 s3 s4 s5 hsl hgood hhd
          obtain ⟨r, ka, kb, u, ii, nx⟩ := sj
          dsimp only at s0 s1 s2 s3 s4 s5 hgood hhd
          have HK : Hid (keyB ka kb = true) := hgood
          have HBk : Hid (bucket ka kb M.heads.length = (b : Int)) := hhd
          have HFk : Hid (hasB (allTo M b ++ l.take k) j = false) := hfr
          clear hA5 hcs s0 s3 s4 s5 hsl hgood hhd hfr
          obtain ⟨q0, q1, q2, q3, q4, f0, f1, f2, f3, f4, qs⟩ := boxf HX5.out
          clear f0 f1 f2 f3 f4
          have hll : (allTo M b ++ l.take k).length ≤ 60 := by
            rw [List.length_append, List.length_take]; omega
          have HT : Hid (allTo M b ++ l.take (k + 1) = (allTo M b ++ l.take k) ++ [(j : Int)]) := by
            show _ = _
            rw [List.take_succ_eq_append_getElem hlt5, ← List.append_assoc, HX.out]
          generalize allTo M b ++ l.take k = al at *
          obtain ⟨vo, vc, hvv⟩ := own_shape HO5.out
          subst hvv
          have hbe : ((b : Int) != (b : Int)) = false := by simp
          go_wp2_with fail
          go_region_with (go_at_call 19; refine (bucket_ok ka kb _ _ HK.out n1.1 n1.2).mono ?_; rw [HBk.out]; rintro e w6 ⟨rfl, hb6⟩; have HB6 : Hid (Below wr.heap.size wr w6) := ⟨hb6.os, hb6.tape, hb6.output, hb6.size, hb6.block⟩; clear hb6)
          all_goals
            clear q0 q1 q2 q3 q4 qs d0 s1 s2 ls
            have HBx : Hid (Below w3.heap.size w3 w6) := HB5.out.trans (HB6.out.mono HB5.out.size)
            have HO6 : Hid (w6.ownsRow w3.heap.size 3 1 (.slice vo al.length vc) al.length (encI al)) := own_below HO5.out HB6.out
            have HR6 : Hid (IRow w6 (some ⟨bl, ol, none⟩) cap4 l) := HR5.out.below HB6.out
            have HI6 : Hid (IRow w6 vo vc al) := irow_own HO6.out (by omega)
            have s6 := HB6.out.size
            have s7 := HBx.out.size
            go_wp2_with (first
              | (go_at_call 20; refine (contains_all vo vc al j w6 HI6.out).mono ?_; rw [HFk.out]; rintro e w7 ⟨rfl, rfl⟩)
              | (at_builtin; refine wpList_append_own_at _ rfl (.tmp 83) (.tmp 85) 23 rfl w3.heap.size 3 i0 (.int .i64 0) 1 8 Try.underlying23 hi hz0 hz1 hz2 rfl (by decide) _ _ _ rfl (World.ownsRow.alloc HO6.out _) ⟨w6.heap.size, 0, none⟩ 1 1 [.int .i64 (j : Int)] rfl rfl (cell_one_new _ _ _) (by intro x hx; simp at hx; subst hx; rfl) (by unfold maxLen; omega) (by omega) (by simp; omega) ?_; intro v2 w8 ho8 hg8 _ hloc8; obtain ⟨g2, cap2, rfl⟩ := ownsRow_form ho8 (by omega); have HO8 : Hid (w8.ownsRow w3.heap.size 3 1 (.slice (some ⟨g2, 0, none⟩) (al.length + 1) cap2) (al.length + 1) (encI al ++ [.int .i64 (j : Int)])) := ho8; have HB8 : Hid (Below w3.heap.size w3 w8) := (HBx.out.alloc HBx.out.size _).grown hg8 (by simp; omega) (fun q hq => (World.ownsRow.lt HO6.out q hq).1); have HR8 : Hid (IRow w8 (some ⟨bl, ol, none⟩) cap4 l) := (HR6.out.below (one_below w6 (.cells #[.int .i64 (j : Int)] 3))).beside (fun k h1 h2 => hg8.block k h1 h2) HN5.out; have HN8 : Hid (∀ ad, (some ⟨bl, ol, none⟩ : Option Addr) = some ad → (Value.slice (some ⟨g2, 0, none⟩) (al.length + 1) cap2).ownBlock ≠ some ad.block) := (fun ad h e => by rcases hloc8 with h1 | h1; exact HN5.out ad h (h1.symm.trans e); rw [h1] at e; cases h; simp at e; omega); clear ho8 hg8 hloc8))
            go_roundw
            (case rel => exact ⟨k + 1, by omega, by go_num, by rw [HT.out, show (al ++ [(j : Int)]).length = al.length + 1 by simp, show encI (al ++ [(j : Int)]) = encI al ++ [.int .i64 (j : Int)] by simp [encI]]; exact HO8, HB8, HR8, HN8⟩)
            (case measure => simp [intOf]; omega)
        · have hk' : k = l.length := by omega
          have HO6 : Hid (wr.ownsRow w3.heap.size 3 1 u7 (allTo M (b + 1)).length (encI (allTo M (b + 1)))) := by
            have := HO5.out
            rw [hk', List.take_length, ← HSu.out] at this
            exact this
          go_wp2
          go_roundw
          case rel => exact ⟨b + 1, by omega, by go_num, HO6, HB5⟩
          case measure => simp [intOf]; omega
    · obtain rfl : b = M.heads.length := by omega
      obtain ⟨al, hal'⟩ : ∃ al, al = allC M := ⟨_, rfl⟩
      have HO1 : Hid (wr.ownsRow w3.heap.size 3 1 u7 al.length (encI al)) := by rw [hal']; exact HO
      have HAl : Hid (al = allC M) := hal'
      have hfn : fl.length = al.length := by rw [hal']; exact HFN.out
      have HFk : Hid (∀ k (h1 : k < fl.length) (h2 : k < al.length), fl[k] = flowAt M al[k]) := by
        intro k h1 h2
        have e := HFL.out
        rw [← hal'] at e
        subst e
        simp
      have HIn : Hid (∀ x ∈ al, 0 ≤ x ∧ x < M.slots.length) := by rw [hal']; exact hokc.allSlots
      clear hal' HO
      obtain ⟨vo, vc, hvv⟩ := own_shape HO1.out
      subst hvv
      have HI1 : Hid (IRow wr vo vc al) := irow_own HO1.out (by omega)
      have HF1 : Hid (FRow wr ao3 cap3 fl) := frow_below HF3.out HBr.out
      have HFn : Hid (fl.length = al.length) := hfn
      have hfi : ((fl.length : Int) != (al.length : Int)) = false := by rw [hfn]; simp
      have hae : al.length ≤ 48 := by omega
      clear hfn HO1
      generalize hw5 : wr = w5 at *
      clear hw5
      have s5 := HBr.out.size
      have HX5 : Hid (w5.heap[w.heap.size]? = some (.cells #[.slice aS M.slots.length cS, .slice aH M.heads.length cH, .slice aF M.free.length cF, .slice aL M.locks.length cL, .int .i64 M.now] 25 (0, 0))) := HXr.out
      have HW5 : Hid (Below w.heap.size w w5) := HWr.out
      have lx5 := lt_of_block HX5.out
      clear HXr HWr HBr HF3 HX3 HW3
      go_wp2
      clear q0 q1 q2 q3 q4 qs
      go_loopw [91] (fun i wq => ∃ k : Nat, k ≤ fl.length ∧ i = .int .i64 k ∧ Hid (Below w5.heap.size w5 wq))
        (fun i _ => fl.length - (intOf i).toNat)
      case atStart => exact ⟨0, Nat.zero_le _, rfl, Below.refl _ _⟩
      case round =>
        obtain ⟨k, hk, rfl, HBq⟩ := hrel
        have HXq : Hid (wr.heap[w.heap.size]? = some (.cells #[.slice aS M.slots.length cS, .slice aH M.heads.length cH, .slice aF M.free.length cF, .slice aL M.locks.length cL, .int .i64 M.now] 25 (0, 0))) := (HBq.out.block w.heap.size lx5).trans HX5.out
        have HWq : Hid (Below w.heap.size w wr) := HW5.out.trans (HBq.out.mono HW5.out.size)
        have sq := HBq.out.size
        by_cases hlt : k < fl.length
        · have hla : k < al.length := by have := HFn.out; omega
          have hli : ((k : Int) < (al.length : Int)) := by omega
          rcases (HF1.out.below HBq.out).at_ with h0 | ⟨bf, of, rfl, hcf⟩
          · omega
          rcases (HI1.out.below HBq.out).at_ with h0 | ⟨bl, ol, rfl, hcl⟩
          · omega
          obtain ⟨e0, e1, e2, e3⟩ := hcf k hlt
          have d0 := hcl k hla
          have le0 := cell_lt e0
          have ld0 := cell_lt d0
          have hfk := HFk.out k hlt hla
          have hin := HIn.out al[k] (List.getElem_mem hla)
          rw [hfk] at e0 e1 e2 e3
          obtain ⟨j, hj⟩ : ∃ j : Nat, al[k] = j := ⟨(al[k]).toNat, by omega⟩
          rw [hj] at d0 hin e0 e1 e2 e3
          clear hj hcl hcf hfk
          have hjs : j < M.slots.length := by omega
          rcases (HAt.out.below HWq.out).s.at_ with h0 | ⟨bs, os, rfl, hcs⟩
          · omega
          obtain ⟨s0, s1, s2, s3, s4, s5'⟩ := hcs j hjs
          have ls := cell_lt s1
          have hsl : slotAt M j = M.slots[j] := slotAt_lt hjs
          unfold flowAt at e0 e1 e2 e3
          rw [hsl] at e0 e1 e2 e3
          generalize M.slots[j] = sj at s0 s1 s2 s3 s4 s5' e0 e1 e2 e3 hsl
          obtain ⟨r, ka, kb, u, ii, nx⟩ := sj
          dsimp only at s0 s1 s2 s3 s4 s5' e0 e1 e2 e3
          clear hcs s0 s4 s5' hsl
          obtain ⟨q0, q1, q2, q3, q4, f0, f1, f2, f3, f4, qs⟩ := boxf HXq.out
          clear f0 f1 f2 f3 f4
          have ke := kequal ka kb ka kb
          rw [show (ka == ka && kb == kb) = true by simp] at ke
          have z1 : ((j : Int) != (j : Int)) = false := by simp
          have z2 : (u != u) = false := by simp
          have HB7 : Hid (Below w5.heap.size w5 (wr.alloc (.cells #[.int .i64 ka, .int .i64 kb, .int .i64 (j : Int), .int .i64 u] 42))) := HBq.out.alloc HBq.out.size _
          go_wp2_with fail
          go_quiet (fail)
          go_wp2
          go_roundw
          case rel => exact ⟨k + 1, by omega, by go_num, HB7.out.trans ((drewN_below _ _).mono HB7.out.size)⟩
          case measure => simp [intOf]; omega
        · have HAq : Hid _ := HAt.out.below HWq.out
          obtain ⟨q0, q1, q2, q3, q4, f0, f1, f2, f3, f4, qs⟩ := boxf HXq.out
          clear f0 f1 f2 f3 f4
          obtain ⟨Mx, hMx⟩ : ∃ Mx, Mx = linkedM M a := ⟨_, rfl⟩
          obtain ⟨E, hE⟩ : ∃ E, E = linkE M a := ⟨_, rfl⟩
          have HMx : Hid (Mx = linkedM M a) := hMx
          have HE : Hid (E = linkE M a) := hE
          have HLk : Hid (Ans 0 wr (.agg #[.slice aS M.slots.length cS, .slice aH M.heads.length cH, .slice aF M.free.length cF, .slice aL M.locks.length cL, .int .i64 M.now]) M) := ⟨aS, aH, aF, aL, cS, cH, cF, cL, rfl, HAq.out, ⟨fun _ _ => Nat.zero_le _, fun _ _ => Nat.zero_le _, fun _ _ => Nat.zero_le _, fun _ _ => Nat.zero_le _⟩⟩
          clear hMx hE
          go_wp2_with fail
          refine (linked_at HMx.out.symm HE.out.symm _ wr 0 HLk.out).mono ?_
          rintro e w6 ⟨v6, rfl, ⟨bS, bH, bF, bL, dS, dH, dF, dL, rfl, A6, hi6⟩, hb6⟩
          have HX6 : Hid (w6.heap[w.heap.size]? = some (.cells #[.slice aS M.slots.length cS, .slice aH M.heads.length cH, .slice aF M.free.length cF, .slice aL M.locks.length cL, .int .i64 M.now] 25 (0, 0))) := (hb6.block w.heap.size qs).trans HXq.out
          have HW6 : Hid (Below w.heap.size w w6) := HWq.out.trans (hb6.mono HWq.out.size)
          have HA6 : Hid (At w6 bS bH bF bL dS dH dF dL Mx) := A6
          have lx6 := lt_of_block HX6.out
          clear A6 hi6 hb6 HLk q0 q1 q2 q3 q4 qs HXq HWq HAq
          by_cases hE0 : E = 0
          rotate_left
          · have hE1 : (E != 0) = true := by simpa using hE0
            have HW7 : Hid (Below w.heap.size w (w6.alloc (.cells #[.slice bS Mx.slots.length dS, .slice bH Mx.heads.length dH, .slice bF Mx.free.length dF, .slice bL Mx.locks.length dL, .int .i64 Mx.now] 25))) := HW6.out.alloc HW6.out.size _
            go_wp2
            go_ret
            exact ⟨rfl, HW7.out⟩
          subst hE0
          obtain ⟨-, hsl, hrf, hky⟩ := linkE_zero HE.out.symm
          obtain ⟨j, rfl, hjs⟩ := (isSl_iff M a).1 hsl
          have LK := link_ok hokc hsl hrf hky
          have HMl : Hid (Mx = linkM M j) := HMx.out.trans (by unfold linkedM; rw [← HE.out, if_pos rfl])
          have hob := ownB_lt hok (j : Int)
          have hobe := ownB_eq hok (j : Int)
          have HS1 : Hid (slotsCE Mx (ownB M j : Int) = 0 ∧ slotsCL Mx (ownB M j : Int) = (j : Int) :: chL M (ownB M j)) := by
            rw [HMl.out]
            have := slotsCE_ok LK.okc (b := ownB M j) (by rw [LK.nh]; exact hob)
            rw [LK.at_] at this
            exact this
          have HS2 : Hid (slotsCE M (ownB M j : Int) = 0 ∧ slotsCL M (ownB M j : Int) = chL M (ownB M j)) := slotsCE_ok hokc hob
          have hlen : (chL M (ownB M j)).length ≤ 12 := Nat.le_trans (walkL_len _ _ _) n0
          have hslj : slotAt M j = M.slots[j] := slotAt_lt hjs
          have hgood := (slot_good (hok.slot _ (List.getElem_mem hjs))).2.2.1
          obtain ⟨o7, ho7⟩ : ∃ o : Obj, o = .cells #[.slice bS Mx.slots.length dS, .slice bH Mx.heads.length dH, .slice bF Mx.free.length dF, .slice bL Mx.locks.length dL, .int .i64 Mx.now] 25 := ⟨_, rfl⟩
          have HW7 : Hid (Below w.heap.size w (w6.alloc o7)) := HW6.out.alloc HW6.out.size _
          have HX7 : Hid ((w6.alloc o7).heap[w.heap.size]? = some (.cells #[.slice aS M.slots.length cS, .slice aH M.heads.length cH, .slice aF M.free.length cF, .slice aL M.locks.length cL, .int .i64 M.now] 25 (0, 0))) := (Below.heap_alloc _ _ _ lx6).trans HX6.out
          have HY7 : Hid ((w6.alloc o7).heap[w6.heap.size]? = some o7) := heap_alloc_new _ _
          have HA7 : Hid (At (w6.alloc o7) bS bH bF bL dS dH dF dL Mx) := HA6.out.below (one_below _ _)
          go_wp2_with fail
          rw [← ho7]
          generalize w6.alloc o7 = W7 at *
          subst ho7
          rw [hslj] at hobe
          rcases (HAt.out.below HW7.out).s.at_ with h0 | ⟨bs, os, rfl, hcs⟩
          · omega
          obtain ⟨s0, s1, s2, s3, s4, s5'⟩ := hcs j hjs
          have ls := cell_lt s1
          generalize M.slots[j] = sj at s0 s1 s2 s3 s4 s5' hgood hobe hslj
          obtain ⟨r, ka, kb, u, ii, nx⟩ := sj
          dsimp only at s0 s1 s2 s3 s4 s5' hgood hobe
          have HK : Hid (keyB ka kb = true) := hgood
          have HBk : Hid (bucket ka kb M.heads.length = (ownB M j : Int)) := hobe.symm
          clear hcs s0 s3 s4 s5' hgood hobe hslj LK hsl hrf hky HMl HMx HE HX6 HW6 HA6
          generalize ownB M j = cb at *
          generalize chL M cb = lw at *
          obtain ⟨q0, q1, q2, q3, q4, f0, f1, f2, f3, f4, qs⟩ := boxf HX7.out
          clear f0 f1 f2 f3 f4
          go_region_with (go_at_call 19; refine (bucket_ok ka kb _ _ HK.out n1.1 n1.2).mono ?_; rw [HBk.out]; rintro e w8 ⟨rfl, hb8⟩; have HB8 : Hid (Below W7.heap.size W7 w8) := ⟨hb8.os, hb8.tape, hb8.output, hb8.size, hb8.block⟩; clear hb8)
          all_goals
            clear q0 q1 q2 q3 q4 qs s1 s2 ls
            have HW8 : Hid (Below w.heap.size w w8) := HW7.out.trans (HB8.out.mono HW7.out.size)
            have HX8 : Hid (w8.heap[w.heap.size]? = some (.cells #[.slice (some ⟨bs, os, none⟩) M.slots.length cS, .slice aH M.heads.length cH, .slice aF M.free.length cF, .slice aL M.locks.length cL, .int .i64 M.now] 25 (0, 0))) := (HB8.out.block w.heap.size (lt_of_block HX7.out)).trans HX7.out
            have HY8 : Hid (w8.heap[w6.heap.size]? = some (.cells #[.slice bS Mx.slots.length dS, .slice bH Mx.heads.length dH, .slice bF Mx.free.length dF, .slice bL Mx.locks.length dL, .int .i64 Mx.now] 25 (0, 0))) := (HB8.out.block w6.heap.size (lt_of_block HY7.out)).trans HY7.out
            have HA8 : Hid (At w8 bS bH bF bL dS dH dF dL Mx) := HA7.out.below HB8.out
            obtain ⟨q0, q1, q2, q3, q4, f0, f1, f2, f3, f4, qs⟩ := boxf HY8.out
            clear f0 f1 f2 f3 f4
            go_wp2_with fail
            refine (chainSlots_hi Mx bS bH bF bL dS dH dF dL (cb : Int) w8 HA8.out).mono ?_
            rw [HS1.out.1, HS1.out.2]
            rintro e w9 ⟨ao9, cap9, rfl, hr9, -, hb9⟩
            have HW9 : Hid (Below w.heap.size w w9) := HW8.out.trans (hb9.mono HW8.out.size)
            have HX9 : Hid (w9.heap[w.heap.size]? = some (.cells #[.slice (some ⟨bs, os, none⟩) M.slots.length cS, .slice aH M.heads.length cH, .slice aF M.free.length cF, .slice aL M.locks.length cL, .int .i64 M.now] 25 (0, 0))) := (hb9.block w.heap.size (lt_of_block HX8.out)).trans HX8.out
            have HR9 : Hid (IRow w9 ao9 cap9 ((j : Int) :: lw)) := hr9
            have HA9 : Hid _ := HAt.out.below HW9.out
            clear hr9 hb9 HW8 HX8 HY8 HA8 q0 q1 q2 q3 q4 qs
            obtain ⟨q0, q1, q2, q3, q4, f0, f1, f2, f3, f4, qs⟩ := boxf HX9.out
            clear f0 f1 f2 f3 f4
            obtain ⟨l9, hl9⟩ : ∃ l9, l9 = (j : Int) :: lw := ⟨_, rfl⟩
            have HL9 : Hid (l9 = (j : Int) :: lw) := hl9
            rw [← hl9] at HR9 ⊢
            have HL9n : Hid (l9.length = lw.length + 1) := by rw [hl9]; exact rfl
            clear hl9
            go_wp2_with fail
            refine (chainSlots_hi M _ aH aF aL cS cH cF cL (cb : Int) w9 HA9.out).mono ?_
            rw [HS2.out.1, HS2.out.2]
            rintro e w10 ⟨ao10, cap10, rfl, hr10, -, hb10⟩
            have HW10 : Hid (Below w.heap.size w w10) := HW9.out.trans (hb10.mono HW9.out.size)
            have HR10 : Hid (IRow w10 ao9 cap9 l9) := HR9.out.below hb10
            have HS10 : Hid (IRow w10 ao10 cap10 lw) := hr10
            clear hr10 hb10 HW9 HX9 HR9 HA9 q0 q1 q2 q3 q4 qs
            have HO11 : Hid ((w10.alloc (.cells #[.int .i64 (j : Int)] 3)).ownsRow w10.heap.size 3 1 (.slice (some ⟨w10.heap.size, 0, none⟩) 1 1) 1 [.int .i64 (j : Int)]) := own_block (F := [(j : Int)]) w10.heap.size (by rw [heap_alloc_new]; rfl) (Nat.le_refl _) (by simp)
            have HS11 : Hid _ := HS10.out.below (one_below w10 (.cells #[.int .i64 (j : Int)] 3))
            have HR11 : Hid _ := HR10.out.below (one_below w10 (.cells #[.int .i64 (j : Int)] 3))
            have HW11 : Hid (Below w.heap.size w (w10.alloc (.cells #[.int .i64 (j : Int)] 3))) := HW10.out.alloc HW10.out.size _
            have s10 := HW10.out.size
            have hb9' : ∀ ad, ao9 = some ad → ad.block < w10.heap.size := fun ad h => by
              rcases HR10.out.at_ with h0 | ⟨bb, oo, he, hcc⟩
              · have := HL9n.out; omega
              · rw [he] at h; cases h
                exact cell_lt (hcc 0 (by have := HL9n.out; omega))
            go_wp2_with (first
              | (at_builtin; refine wpList_append_list (by kernel_rfl) (.tmp 185) (.tmp 186) rfl w10.heap.size _ 1 _ rfl HO11.out ao10 cap10 lw rfl HS11.out (by omega) (by simp) ?_; intro v12 w12 ho12 hg12; obtain ⟨g12, c12, rfl⟩ := ownsRow_form ho12 (by omega); have HR12 : Hid (IRow w12 (some ⟨g12, 0, none⟩) c12 l9) := (by rw [HL9.out]; exact irow_own (l := (j : Int) :: lw) ho12 (by rw [List.length_cons]; omega)); have HQ12 : Hid (IRow w12 ao9 cap9 l9) := HR11.out.beside (fun k h1 h2 => hg12.block k h1 h2) (fun ad h e => by have := hb9' ad h; have e' : some w10.heap.size = some ad.block := e; injection e' with e'; omega); have HW12 : Hid (Below w.heap.size w w12) := HW11.out.grown hg12 HW11.out.size (fun q hq => by have e' : some w10.heap.size = some q := hq; injection e' with e'; omega); clear ho12 hg12)
              | (go_at_call 22; refine (equalI_at ao9 (some ⟨g12, 0, none⟩) cap9 c12 l9.length (1 + lw.length) l9 l9 rfl (by have := HL9n.out; omega) w12 HQ12.out HR12.out).mono ?_; rw [show eqI l9 l9 = true from (eqI_iff _ _).2 rfl]; rintro e w13 ⟨rfl, hb13⟩; have HW13 : Hid (Below w.heap.size w w13) := HW12.out.trans (hb13.mono HW12.out.size); clear hb13))
            go_ret
            exact ⟨rfl, HW13.out⟩




end Go.Proofs.Ytdbilofhcadmoab.mm
