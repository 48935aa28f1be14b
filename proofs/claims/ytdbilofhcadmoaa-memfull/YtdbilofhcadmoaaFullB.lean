/- MemFull's walk: for every memory, key and time it answers true. -/
import Derived.Test.YtdbilofhcadmoaaFullA
namespace Go.Proofs.Ytdbilofhcadmoaa.mm
open Go.ChangeShapes Go.WideShapes Go.ChangeAt Go.RowKit Go.Joins
set_option linter.unusedVariables false

/- What stands while slots are taken one by one. -/
structure FullInv (w wr : World) (M : Mm) (aF' : Option Addr) (cF' : Nat) (ka kb : Int) (n : Nat) : Prop where
  le : n ≤ M.free.length
  ex : ∃ Mk aS aH aF aL cS cH cF cL, wr.heap[w.heap.size]? = some (.cells #[.slice aS Mk.slots.length cS, .slice aH Mk.heads.length cH, .slice aF Mk.free.length cF, .slice aL Mk.locks.length cL, .int .i64 Mk.now] 29 (0, 0)) ∧ At wr aS aH aF aL cS cH cF cL Mk ∧ Ok Mk ∧ Mk.free = M.free.take n
  key : wr.heap[w.heap.size + 1]? = some (.cells #[.int .i64 ka, .int .i64 kb] 37 (0, 0))
  row : IRow wr aF' cF' M.free
  below : Below w.heap.size w wr

theorem full_take {Mk : Mm} {F : List Int} {k : Nat} {ka kb u : Int} (ho : Ok Mk) (hk : keyB ka kb = true) (hu : inB u 0 2000000 = true) (hf : Mk.free = F.take (k + 1)) (hl : k < F.length) :
    takenE Mk ka kb u = 0 ∧ takenN Mk ka kb u = F[k] ∧ Ok (takenM Mk ka kb u) ∧ (takenM Mk ka kb u).free = F.take k := by
  have hlen : Mk.free.length = k + 1 := by rw [hf, List.length_take]; omega
  have e : takenE Mk ka kb u = 0 := by
    unfold takenE
    rw [if_neg (by simpa using (chk_zero Mk).2 ho), if_neg (by rw [hk]; simp), if_neg (by rw [hu]; simp), if_neg (by omega)]
  refine ⟨e, ?_, ?_, ?_⟩
  · unfold takenN
    rw [if_pos e]
    unfold lastF
    rw [hlen, hf, show k + 1 - 1 = k by omega]
    simp [List.getD_eq_getElem?_getD, hl]
  · unfold takenM
    rw [if_pos e]
    exact take_ok ho hk hu (by omega)
  · unfold takenM
    rw [if_pos e]
    show Mk.free.take (Mk.free.length - 1) = _
    rw [hlen, hf, List.take_take]
    congr 1
    omega

theorem full_end {Mk : Mm} {F : List Int} {ka kb u : Int} (ho : Ok Mk) (hk : keyB ka kb = true) (hu : inB u 0 2000000 = true) (hf : Mk.free = F.take 0) :
    takenE Mk ka kb u = 7 ∧ takenN Mk ka kb u = 0 ∧ takenM Mk ka kb u = m0 ∧ ∀ j (hj : j < Mk.slots.length), Mk.slots[j].refs ≠ 0 := by
  have hlen : Mk.free.length = 0 := by rw [hf]; simp
  have e : takenE Mk ka kb u = 7 := by
    unfold takenE
    rw [if_neg (by simpa using (chk_zero Mk).2 ho), if_neg (by rw [hk]; simp), if_neg (by rw [hu]; simp), if_pos hlen]
  refine ⟨e, ?_, ?_, ?_⟩
  · unfold takenN
    rw [e, if_neg (by decide)]
  · unfold takenM
    rw [e, if_neg (by decide)]
  · intro j hj hr
    have := ho.all j hj (by rw [getD_lt _ _ hj]; exact hr)
    rw [hf] at this
    simp at this

set_option maxHeartbeats 3200000 in
theorem full_any (M : Mm) (v : Value) (ka kb u : Int) (w : World) (A : Ans 0 w v M) (hu64 : -9223372036854775808 ≤ u ∧ u ≤ 9223372036854775807) :
    Calls Try.prog 7 #[v, .agg #[.int .i64 ka, .int .i64 kb], .int .i64 u] w fun e w' => e = .returned (.bool true) ∧ Below w.heap.size w w' := by
  obtain ⟨aS1, aH1, aF1, aL1, cS1, cH1, cF1, cL1, rfl, A, -⟩ := A
  obtain ⟨o1, ho1⟩ : ∃ o : Obj, o = .cells #[.slice aS1 M.slots.length cS1, .slice aH1 M.heads.length cH1, .slice aF1 M.free.length cF1, .slice aL1 M.locks.length cL1, .int .i64 M.now] 29 := ⟨_, rfl⟩
  obtain ⟨o3, ho3⟩ : ∃ o : Obj, o = .cells #[.int .i64 ka, .int .i64 kb] 37 := ⟨_, rfl⟩
  have b0 : Below w.heap.size w ((w.alloc o1).alloc o3) := below_alloc2 w o1 o3
  have HB0 : Hid (((w.alloc o1).alloc o3).heap[w.heap.size]? = some o1) := by show _ = _; rw [Below.heap_alloc _ _ _ (by simp), heap_alloc_new]
  have HK0 : Hid (((w.alloc o1).alloc o3).heap[w.heap.size + 1]? = some o3) := by
    have := heap_alloc_new (w.alloc o1) o3
    rwa [show (w.alloc o1).heap.size = w.heap.size + 1 by simp] at this
  have HA0 : Hid _ := A.below b0
  clear A
  go_enter Try.func7, Try.ntmps7
  go_wp2_with fail
  rw [← ho1, ← ho3]
  generalize (w.alloc o1).alloc o3 = W0 at *
  subst ho1 ho3
  refine (filled_any W0).mono ?_
  rintro e w1 ⟨rfl, hb1⟩
  have b1 := b0.trans (hb1.mono b0.size)
  have HB1 : Hid _ := (hb1.block w.heap.size (lt_of_block HB0.out)).trans HB0.out
  have HK1 : Hid _ := (hb1.block (w.heap.size + 1) (lt_of_block HK0.out)).trans HK0.out
  have HA1 : Hid _ := HA0.out.below hb1
  clear hb1 b0 HB0 HK0 HA0
  obtain ⟨q0, q1, q2, q3, q4, f0, f1, f2, f3, f4, qs⟩ := boxf HB1.out
  go_wp2_with fail
  refine (check_any M aS1 aH1 aF1 aL1 cS1 cH1 cF1 cL1 w1 HA1.out).mono ?_
  rintro e w2 ⟨rfl, hb2⟩
  have b2 := b1.trans (hb2.mono b1.size)
  have HB2 : Hid _ := (hb2.block w.heap.size (lt_of_block HB1.out)).trans HB1.out
  have HK2 : Hid _ := (hb2.block (w.heap.size + 1) (lt_of_block HK1.out)).trans HK1.out
  have HA2 : Hid _ := HA1.out.below hb2
  clear hb2 b1 HB1 HK1 HA1 q0 q1 q2 q3 q4 f0 f1 f2 f3 f4 qs
  by_cases hE : chk M = 0
  rotate_left
  · have h' : (chk M != 0) = true := by simpa using hE
    generalize chk M = E at *
    go_wp2_with (go_at_call 14; refine (filled_any _).mono ?_; rintro e w3 ⟨rfl, hb3⟩)
    go_ret
    exact ⟨rfl, b2.trans (hb3.mono b2.size)⟩
  have HC : Hid (chk M = 0) := hE
  rw [hE]
  clear hE
  obtain ⟨k0, k1⟩ := keyf HK2.out
  go_wp2_with fail
  refine (kcheck_any ka kb w2).mono ?_
  rintro e w3 ⟨rfl, hb3⟩
  have b3 := b2.trans (hb3.mono b2.size)
  have HB3 : Hid _ := (hb3.block w.heap.size (lt_of_block HB2.out)).trans HB2.out
  have HK3 : Hid _ := (hb3.block (w.heap.size + 1) (lt_of_block HK2.out)).trans HK2.out
  have HA3 : Hid _ := HA2.out.below hb3
  clear hb3 b2 HB2 HK2 HA2 k0 k1
  cases hK : keyB ka kb
  · go_wp2_with (go_at_call 14; refine (filled_any _).mono ?_; rintro e w4 ⟨rfl, hb4⟩)
    go_ret
    exact ⟨rfl, b3.trans (hb4.mono b3.size)⟩
  have HK : Hid (keyB ka kb = true) := hK
  clear hK
  rw [if_pos rfl]
  by_cases u0 : u < 0
  · go_wp2_with (go_at_call 14; refine (filled_any _).mono ?_; rintro e w4 ⟨rfl, hb4⟩)
    go_ret
    exact ⟨rfl, b3.trans (hb4.mono b3.size)⟩
  by_cases u1 : 2000000 < u
  · have u0' : 0 ≤ u := by omega
    go_wp2_with (go_at_call 14; refine (filled_any _).mono ?_; rintro e w4 ⟨rfl, hb4⟩)
    go_ret
    exact ⟨rfl, b3.trans (hb4.mono b3.size)⟩
  have HU : Hid (inB u 0 2000000 = true) := (inB_iff _ _ _).2 ⟨by omega, by omega⟩
  have u0' : 0 ≤ u := by omega
  have u1' : u ≤ 2000000 := by omega
  have hfm := HA3.out.f.max
  obtain ⟨q0, q1, q2, q3, q4, f0, f1, f2, f3, f4, qs⟩ := boxf HB3.out
  go_wp2_with fail
  refine (clone_any aF1 cF1 M.free w3 HA3.out.f).mono ?_
  rintro e w4 ⟨aF', cF', rfl, rF, hiF, hb4⟩
  have b4 := b3.trans (hb4.mono b3.size)
  have HI : Hid (FullInv w w4 M aF' cF' ka kb M.free.length) :=
    ⟨Nat.le_refl _, ⟨M, aS1, aH1, aF1, aL1, cS1, cH1, cF1, cL1, (hb4.block w.heap.size (lt_of_block HB3.out)).trans HB3.out, HA3.out.below hb4, (chk_zero M).1 HC.out, (List.take_length).symm⟩, (hb4.block (w.heap.size + 1) (lt_of_block HK3.out)).trans HK3.out, rF, b4⟩
  have HF : Hid (∀ ad, aF' = some ad → ad.block ≠ w.heap.size) := fun ad h => by have := hiF ad h; omega
  clear hb4 b4 b3 HB3 HK3 HA3 q0 q1 q2 q3 q4 f0 f1 f2 f3 f4 rF hiF qs
  go_wp2
  go_loopw [8] (fun i wr => ∃ n : Nat, i = .int .i64 ((n : Int) - 1) ∧ FullInv w wr M aF' cF' ka kb n) (fun i _ => (intOf i + 1).toNat)
  case atStart => exact ⟨M.free.length, rfl, HI.out⟩
  case round =>
    obtain ⟨n, rfl, I⟩ := hrel
    clear HI
    obtain ⟨hn, ⟨Mk, aS, aH, aF, aL, cS, cH, cF, cL, hB, Ak, ok, hfree⟩, hKey, rF, bW⟩ := I
    have HAk : Hid (Ans 0 wr (.agg #[.slice aS Mk.slots.length cS, .slice aH Mk.heads.length cH, .slice aF Mk.free.length cF, .slice aL Mk.locks.length cL, .int .i64 Mk.now]) Mk) := ⟨aS, aH, aF, aL, cS, cH, cF, cL, rfl, Ak, ⟨fun _ _ => Nat.zero_le _, fun _ _ => Nat.zero_le _, fun _ _ => Nat.zero_le _, fun _ _ => Nat.zero_le _⟩⟩
    obtain ⟨q0, q1, q2, q3, q4, f0, f1, f2, f3, f4, qs⟩ := boxf hB
    obtain ⟨k0, k1⟩ := keyf hKey
    have HB : Hid _ := hB
    have HKy : Hid _ := hKey
    have HRF : Hid _ := rF
    have HO : Hid _ := ok
    have HFr : Hid _ := hfree
    clear hB hKey rF ok hfree Ak
    match n with
    | 0 =>
      have hend := full_end HO.out HK.out HU.out HFr.out
      have HE : Hid _ := hend
      clear hend
      go_wp2_with fail
      refine (taken_at HE.out.2.2.1 HE.out.2.1 HE.out.1 _ wr 0 HAk.out).mono ?_
      rintro e w5 ⟨v5, rfl, ⟨aS5, aH5, aF5, aL5, cS5, cH5, cF5, cL5, rfl, A5, hi5⟩, hb5⟩
      have b5 := bW.trans (hb5.mono bW.size)
      have HB5 : Hid _ := (hb5.block w.heap.size (lt_of_block HB.out)).trans HB.out
      have HS5 : Hid (SRow (w5.alloc (.cells #[.slice aS5 m0.slots.length cS5, .slice aH5 m0.heads.length cH5, .slice aF5 m0.free.length cF5, .slice aL5 m0.locks.length cL5, .int .i64 m0.now] 29)) aS cS Mk.slots) := by
        obtain ⟨_, _, _, _, _, _, _, _, e, A, _⟩ := HAk.out.below (hb5.alloc (hb5.size) (.cells #[.slice aS5 m0.slots.length cS5, .slice aH5 m0.heads.length cH5, .slice aF5 m0.free.length cF5, .slice aL5 m0.locks.length cL5, .int .i64 m0.now] 29))
        injection e with e
        simp only [Array.mk.injEq, List.cons.injEq, Value.slice.injEq] at e
        obtain ⟨⟨rfl, -, rfl⟩, -⟩ := e
        exact A.s
      clear q0 q1 q2 q3 q4 f0 f1 f2 f3 f4 qs k0 k1 hb5 A5 hi5
      obtain ⟨q0, q1, q2, q3, q4, f0, f1, f2, f3, f4, qs⟩ := boxf HB5.out
      go_wp2_with fail
      refine (contFunc_no aS cS Mk.slots _ HS5.out HE.out.2.2.2).mono ?_
      rintro e w6 ⟨rfl, hb6⟩
      go_wp2
      go_ret
      exact ⟨rfl, (b5.alloc b5.size _).trans (hb6.mono (by have := b5.size; simp; omega))⟩
    | k + 1 =>
      have hk : k < M.free.length := by omega
      have ht := full_take HO.out HK.out HU.out HFr.out hk
      have HT : Hid _ := ht
      clear ht
      have ek : ((k + 1 : Nat) : Int) - 1 = k := by omega
      rw [ek]
      clear ek
      have k64 : k ≤ 9223372036854775807 := by omega
      go_wp2_with fail
      generalize hMn : takenM Mk ka kb u = Mn at *
      refine (taken_at hMn HT.out.2.1 HT.out.1 _ wr 0 HAk.out).mono ?_
      rintro e w5 ⟨v5, rfl, ⟨aS5, aH5, aF5, aL5, cS5, cH5, cF5, cL5, rfl, A5, hi5⟩, hb5⟩
      have HT2 : Hid (Ok Mn ∧ Mn.free = M.free.take k) := HT.out.2.2
      clear HT hMn
      have HMl : Hid (Mn.free.length = k) := by show _ = _; rw [HT2.out.2, List.length_take]; omega
      have hne : ((Mn.free.length : Int) != (k : Int)) = false := by rw [HMl.out]; simp
      have nM : Mn.free.length ≤ 9223372036854775807 := by rw [HMl.out]; exact k64
      have bX := bW.trans (hb5.mono bW.size)
      have k5 := (hb5.block w.heap.size (lt_of_block HB.out)).trans HB.out
      have tB := lt_of_block k5
      have HBx : Hid (((set5 w5 w.heap.size (.slice aS5 Mn.slots.length cS5) (.slice aH5 Mn.heads.length cH5) (.slice aF5 Mn.free.length cF5) (.slice aL5 Mn.locks.length cL5) (.int .i64 Mn.now)).alloc (.cells #[.slice aS5 Mn.slots.length cS5, .slice aH5 Mn.heads.length cH5, .slice aF5 Mn.free.length cF5, .slice aL5 Mn.locks.length cL5, .int .i64 Mn.now] 29)).heap[w.heap.size]? = some (.cells #[.slice aS5 Mn.slots.length cS5, .slice aH5 Mn.heads.length cH5, .slice aF5 Mn.free.length cF5, .slice aL5 Mn.locks.length cL5, .int .i64 Mn.now] 29 (0, 0))) := (Below.heap_alloc _ _ _ (by rw [set5_size]; exact tB)).trans (set5_block k5 _ _ _ _ _)
      have kk5 := (hb5.block (w.heap.size + 1) (lt_of_block HKy.out)).trans HKy.out
      have HKx : Hid (((set5 w5 w.heap.size (.slice aS5 Mn.slots.length cS5) (.slice aH5 Mn.heads.length cH5) (.slice aF5 Mn.free.length cF5) (.slice aL5 Mn.locks.length cL5) (.int .i64 Mn.now)).alloc (.cells #[.slice aS5 Mn.slots.length cS5, .slice aH5 Mn.heads.length cH5, .slice aF5 Mn.free.length cF5, .slice aL5 Mn.locks.length cL5, .int .i64 Mn.now] 29)).heap[w.heap.size + 1]? = _) := (Below.heap_alloc _ _ _ (by rw [set5_size]; exact lt_of_block kk5)).trans ((set5_other (by omega)).trans kk5)
      have HAx : Hid (At ((set5 w5 w.heap.size (.slice aS5 Mn.slots.length cS5) (.slice aH5 Mn.heads.length cH5) (.slice aF5 Mn.free.length cF5) (.slice aL5 Mn.locks.length cL5) (.int .i64 Mn.now)).alloc (.cells #[.slice aS5 Mn.slots.length cS5, .slice aH5 Mn.heads.length cH5, .slice aF5 Mn.free.length cF5, .slice aL5 Mn.locks.length cL5, .int .i64 Mn.now] 29)) aS5 aH5 aF5 aL5 cS5 cH5 cF5 cL5 Mn) := At.below (A5.off hi5 (lt_of_block HB.out) (fun k hk => set5_other hk)) (one_below _ _)
      have HRx : Hid (IRow ((set5 w5 w.heap.size (.slice aS5 Mn.slots.length cS5) (.slice aH5 Mn.heads.length cH5) (.slice aF5 Mn.free.length cF5) (.slice aL5 Mn.locks.length cL5) (.int .i64 Mn.now)).alloc (.cells #[.slice aS5 Mn.slots.length cS5, .slice aH5 Mn.heads.length cH5, .slice aF5 Mn.free.length cF5, .slice aL5 Mn.locks.length cL5, .int .i64 Mn.now] 29)) aF' cF' M.free) := IRow.below ((HRF.out.below hb5).off w.heap.size HF.out (fun k hk => set5_other hk)) (one_below _ _)
      have HYx : Hid (Below w.heap.size w ((set5 w5 w.heap.size (.slice aS5 Mn.slots.length cS5) (.slice aH5 Mn.heads.length cH5) (.slice aF5 Mn.free.length cF5) (.slice aL5 Mn.locks.length cL5) (.int .i64 Mn.now)).alloc (.cells #[.slice aS5 Mn.slots.length cS5, .slice aH5 Mn.heads.length cH5, .slice aF5 Mn.free.length cF5, .slice aL5 Mn.locks.length cL5, .int .i64 Mn.now] 29))) := (bX.trans (set5_below _ _ _ _ _ _ _ _ (Nat.le_refl _))).alloc (by rw [set5_size]; exact bX.size) _
      have HL : Hid (w.heap.size < wr.heap.size) := lt_of_block HB.out
      rcases (HRF.out.below hb5).at_ with h0 | ⟨b, o, rfl, hc⟩
      · omega
      have ck := hc k hk
      have ckl := cell_lt ck
      clear q0 q1 q2 q3 q4 f0 f1 f2 f3 f4 qs k0 k1 hb5 A5 hi5 bX hc HB HKy HRF kk5 bW
      obtain ⟨q0, q1, q2, q3, q4, f0, f1, f2, f3, f4, qs⟩ := boxf k5
      clear k5
      generalize M.free[k] = fk at ck ⊢
      go_wp2
      go_roundw
      case rel =>
        exact ⟨k, rfl, by omega, ⟨Mn, aS5, aH5, aF5, aL5, cS5, cH5, cF5, cL5, HBx.out, HAx.out, HT2.out.1, HT2.out.2⟩, HKx.out, HRx.out, HYx.out⟩
      case measure => simp [intOf]


end Go.Proofs.Ytdbilofhcadmoaa.mm
