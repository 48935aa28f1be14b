/- The contract of the document's own CheckChains: it answers what Check of chains answers. -/
import Derived.Test.YtdbilofhcadmoaaRefE
namespace Go.Proofs.Ytdbilofhcadmoaa.mm
open Go.ChangeShapes Go.WideShapes Go.ChangeAt Go.RowKit Go.Joins Go.Maps
set_option maxRecDepth 100000
set_option linter.unusedVariables false

theorem iK : (Try.prog.info? 37).map (fun i => (i.zero, i.size, i.bytes)) = some (some (.agg #[.int .i64 0, .int .i64 0]), 2, 16) := by kernel_rfl
theorem two_new (w : World) (a b : Int) : ∀ (j : Nat) (u : Value), [Value.int .i64 a, .int .i64 b][j]? = some u → (w.alloc (.cells #[.int .i64 a, .int .i64 b] 37)).cell? ((⟨w.heap.size, 0, none⟩ : Addr).add j) = some u := by
  intro j u hu
  rw [Addr.add_lit]
  match j, hu with
  | 0, hu => simp at hu; subst hu; simp
  | 1, hu => simp at hu; subst hu; simp
  | j + 2, hu => simp at hu
theorem hasK_con (M : Mm) (all : List Int) (k : Int × Int) : hasK M all k = (all.map (keyAt M)).contains k := rfl

set_option maxHeartbeats 6400000 in
theorem rcheckC_any (M : Mm) (aS aH aF aL : Option Addr) (cS cH cF cL : Nat) (w : World) (A : At w aS aH aF aL cS cH cF cL M) :
    Calls Try.prog 35 #[.agg #[.slice aS M.slots.length cS, .slice aH M.heads.length cH, .slice aF M.free.length cF, .slice aL M.locks.length cL, .int .i64 M.now]] w fun e w' => e = .returned (.int .i64 (chkC M)) ∧ Below w.heap.size w w' := by
  obtain ⟨i0, hi, hz0, hz1, hz2⟩ := info_parts iK
  obtain ⟨Z, hZ⟩ : ∃ Z, Z = chkC M := ⟨_, rfl⟩
  rw [← hZ]
  have HZ : Hid (Z = chkC M) := hZ
  clear hZ
  obtain ⟨o1, ho1⟩ : ∃ o : Obj, o = .cells #[.slice aS M.slots.length cS, .slice aH M.heads.length cH, .slice aF M.free.length cF, .slice aL M.locks.length cL, .int .i64 M.now] 29 := ⟨_, rfl⟩
  have b0 : Below w.heap.size w (w.alloc o1) := one_below w o1
  have HB0 : Hid ((w.alloc o1).heap[w.heap.size]? = some o1) := heap_alloc_new _ _
  have HA : Hid (At w aS aH aF aL cS cH cF cL M) := A
  have HA0 : Hid (Ans 0 (w.alloc o1) (.agg #[.slice aS M.slots.length cS, .slice aH M.heads.length cH, .slice aF M.free.length cF, .slice aL M.locks.length cL, .int .i64 M.now]) M) := ⟨aS, aH, aF, aL, cS, cH, cF, cL, rfl, A.below b0, ⟨fun _ _ => Nat.zero_le _, fun _ _ => Nat.zero_le _, fun _ _ => Nat.zero_le _, fun _ _ => Nat.zero_le _⟩⟩
  clear A
  go_enter Try.func35, Try.ntmps35
  go_wp2_with fail
  rw [← ho1]
  generalize w.alloc o1 = W0 at *
  subst ho1
  refine (rcheck_any M _ W0 0 HA0.out).mono ?_
  rintro e w1 ⟨rfl, hb1⟩
  have b1 := b0.trans (hb1.mono b0.size)
  have HB1 : Hid (w1.heap[w.heap.size]? = _) := (hb1.block w.heap.size (lt_of_block HB0.out)).trans HB0.out
  clear hb1 b0 HB0 HA0
  by_cases hE : chk M = 0
  rotate_left
  · have h' : (chk M != 0) = true := by simpa using hE
    have HV : Hid (Z = chk M) := HZ.out.trans (by unfold chkC; rw [if_pos hE])
    clear HB1
    generalize chk M = E at *
    go_wp2
    go_ret
    exact ⟨ret_int HV.out.symm, b1⟩
  have hok := (chk_zero M).1 hE
  have n0 := hok.ns
  have n1 := hok.nh
  have HC : Hid (Z = chkB M M.heads.length 0 []) := HZ.out.trans (by unfold chkC; rw [if_neg (by simpa using hE)])
  rw [hE]
  clear hE HZ
  obtain ⟨q0, q1, q2, q3, q4, f0, f1, f2, f3, f4, qs⟩ := boxf HB1.out
  clear f0 f1 f2 f3 f4
  go_wp2
  clear q0 q1 q2 q3 q4
  go_loopw [19, 4] (fun i v wr => ∃ b : Nat, b ≤ M.heads.length ∧ i = .int .i64 b ∧ Hid (wr.ownsRow (w.heap.size + 1) 37 2 v ((allTo M b).map (keyAt M)).length (encK ((allTo M b).map (keyAt M)))) ∧ Below w.heap.size w wr ∧ Hid (wr.heap[w.heap.size]? = some (.cells #[.slice aS M.slots.length cS, .slice aH M.heads.length cH, .slice aF M.free.length cF, .slice aL M.locks.length cL, .int .i64 M.now] 29 (0, 0))) ∧ Hid (Z = chkB M (M.heads.length - b) b (allTo M b)))
    (fun i _ _ => M.heads.length - (intOf i).toNat)
  case atStart => exact ⟨0, Nat.zero_le _, rfl, World.ownsRow_nil _ _ _ _, b1, HB1, HC⟩
  case round =>
    obtain ⟨b, hb, rfl, HO, hbw, HB, HE⟩ := hrel
    clear HC HB1 b1
    obtain ⟨q0, q1, q2, q3, q4, f0, f1, f2, f3, f4, qs'⟩ := boxf HB.out
    clear f0 f1 f2 f3 f4
    by_cases hlt : b < M.heads.length
    · have HAr : Hid _ := HA.out.below hbw
      have hal := allTo_len M b
      have hal2 : b * M.slots.length ≤ 4 * 12 := Nat.mul_le_mul (by omega) n0
      go_wp2_with fail
      refine (chainOf_any M aS aH aF aL cS cH cF cL b wr HAr.out hok hlt).mono ?_
      rintro e w2 ⟨ao, nn, cap, rfl, hr, hb2⟩
      have hbx := hbw.trans (hb2.mono hbw.size)
      have HO2 : Hid (w2.ownsRow (w.heap.size + 1) 37 2 u4 ((allTo M b).map (keyAt M)).length (encK ((allTo M b).map (keyAt M)))) := own_below HO.out hb2
      have HB2 : Hid (w2.heap[w.heap.size]? = _) := (hb2.block w.heap.size qs').trans HB.out
      have HS : Hid _ := chkB_step M b hlt
      clear HO HB HAr hbw hb2 q0 q1 q2 q3 q4
      cases hc : chOk M b
      · have HV : Hid (Z = 4) := HE.out.trans (HS.out.trans (by rw [hc]; rfl))
        clear hr HS HE
        go_wp2
        go_ret
        exact ⟨ret_int HV.out.symm, hbx⟩
      · obtain ⟨rfl, hrow⟩ := hr hc
        have HIn : Hid _ := hok.chIn hlt
        have HRow : Hid (w2.ownsRow (wr.heap.size + 1) 3 1 (.slice ao (chL M b).length cap) (chL M b).length (encI (chL M b))) := hrow
        have hlen : (chL M b).length ≤ 12 := Nat.le_trans (walkL_len _ _ _) n0
        have HD : Hid (Z = if scanC M b (allTo M b) (chL M b) ≠ 0 then scanC M b (allTo M b) (chL M b) else chkB M (M.heads.length - (b + 1)) (b + 1) (allTo M (b + 1))) := HE.out.trans (HS.out.trans (by rw [hc]; rfl))
        have HSu : Hid (allTo M (b + 1) = allTo M b ++ chL M b) := allTo_succ M b
        clear hrow HS HE hr hc
        generalize chL M b = l at *
        generalize hlw : wr.heap.size + 1 = lw at HRow
        clear hlw
        go_wp2
        go_loopw [32, 4] (fun i v wr => ∃ k : Nat, k ≤ l.length ∧ i = .int .i64 k ∧ Hid (wr.ownsRow (w.heap.size + 1) 37 2 v ((allTo M b ++ l.take k).map (keyAt M)).length (encK ((allTo M b ++ l.take k).map (keyAt M)))) ∧ Hid (wr.ownsRow lw 3 1 (.slice ao l.length cap) l.length (encI l)) ∧ Below w.heap.size w wr ∧ Hid (wr.heap[w.heap.size]? = some (.cells #[.slice aS M.slots.length cS, .slice aH M.heads.length cH, .slice aF M.free.length cF, .slice aL M.locks.length cL, .int .i64 M.now] 29 (0, 0))) ∧ Hid (scanC M b (allTo M b) l = scanC M b (allTo M b ++ l.take k) (l.drop k)))
          (fun i _ _ => l.length - (intOf i).toNat)
        case atStart => exact ⟨0, Nat.zero_le _, rfl, by rw [List.take_zero, List.append_nil]; exact HO2, HRow, hbx, HB2, by rw [List.take_zero, List.append_nil, List.drop_zero]; exact rfl⟩
        case round =>
          obtain ⟨k, hk, rfl, HO3, HR3, hb3, HB3, HE3⟩ := hrel
          clear HO2 HRow hbx HB2
          obtain ⟨q0, q1, q2, q3, q4, f0, f1, f2, f3, f4, qs3⟩ := boxf HB3.out
          clear f0 f1 f2 f3 f4
          by_cases hlt3 : k < l.length
          · obtain ⟨ax, cx, hax, hir⟩ := IRow.of_own HR3.out (by omega)
            simp only [Value.slice.injEq, true_and] at hax
            obtain ⟨rfl, rfl⟩ := hax
            rcases hir.at_ with h0 | ⟨bl, ol, rfl, hcl⟩
            · omega
            have d0 := hcl k hlt3
            have hin := HIn.out l[k] (List.getElem_mem hlt3)
            obtain ⟨j, hj⟩ : ∃ j : Nat, l[k] = j := ⟨(l[k]).toNat, by omega⟩
            have HX : Hid (l[k] = j) := hj
            rw [hj] at d0 hin
            clear hj hcl hir
            have hjs : j < M.slots.length := by omega
            have hA3 := HA.out.below hb3
            rcases hA3.s.at_ with h0 | ⟨bs, os, rfl, hcs⟩
            · omega
            obtain ⟨s0, s1, s2, s3, s4, s5⟩ := hcs j hjs
            clear hA3 hcs
            have hgood := slot_good (hok.slot _ (List.getElem_mem hjs))
            have hsl : slotAt M j = M.slots[j] := slotAt_lt hjs
            generalize hM : M.slots[j] = sj at s0 s1 s2 s3 s4 s5 hsl hgood
            obtain ⟨r, ka, kb, u, ii, nx⟩ := sj
            dsimp only at s0 s1 s2 s3 s4 s5 hgood
            have HSL : Hid (slotAt M j = ⟨r, ka, kb, u, ii, nx⟩) := hsl
            have hkey := hgood.2.2.1
            have HK : Hid (keyB ka kb = true) := hkey
            have HKy : Hid (keyAt M j = (ka, kb)) := by unfold keyAt; rw [hsl]; exact rfl
            clear hM hsl hgood hkey
            have HSt : Hid _ := scanC_drop M b (allTo M b) l k hlt3
            have bad : ∀ e : Int, e ≠ 0 → slotC M b (allTo M b ++ l.take k) j = e → Z = e := fun e he hh => by
              have h1 := HE3.out.trans (HSt.out.trans (by rw [HX.out, hh, if_pos he]))
              have := HD.out
              rw [h1, if_pos he] at this
              exact this
            have HBad : Hid _ := bad
            clear bad
            have hbx := hb3.alloc hb3.size (.cells #[.int .i64 r, .int .i64 ka, .int .i64 kb, .int .i64 u, .bool ii, .int .i64 nx] 48)
            by_cases hr0 : r = 0
            · subst hr0
              have HV : Hid (Z = 5) := HBad.out 5 (by decide) (by unfold slotC; rw [HSL.out, if_pos (.inl rfl)])
              go_wp2
              go_ret
              exact ⟨ret_int HV.out.symm, hbx⟩
            have hr' : (r == 0) = false := by simpa using hr0
            cases ii
            · have HV : Hid (Z = 5) := HBad.out 5 (by decide) (by unfold slotC; rw [HSL.out, if_pos (.inr rfl)])
              go_wp2
              go_ret
              exact ⟨ret_int HV.out.symm, hbx⟩
            have HC3 : Hid (slotC M b (allTo M b ++ l.take k) j = if bucket ka kb M.heads.length ≠ b then 4 else if hasK M (allTo M b ++ l.take k) (ka, kb) then 6 else 0) := by
              show _ = _
              unfold slotC
              rw [HKy.out, HSL.out]
              dsimp only
              rw [if_neg (by rintro (h | h); exact hr0 h; cases h)]
            obtain ⟨o5, ho5⟩ : ∃ o : Obj, o = .cells #[.int .i64 r, .int .i64 ka, .int .i64 kb, .int .i64 u, .bool true, .int .i64 nx] 48 := ⟨_, rfl⟩
            rw [← ho5] at hbx
            have HSL5 : Hid ((wr.alloc o5).heap[wr.heap.size]? = some o5) := heap_alloc_new _ _
            have HB5 : Hid ((wr.alloc o5).heap[w.heap.size]? = _) := (Below.heap_alloc _ _ _ qs3).trans HB3.out
            have HO5 : Hid ((wr.alloc o5).ownsRow (w.heap.size + 1) 37 2 u4 ((allTo M b ++ l.take k).map (keyAt M)).length (encK ((allTo M b ++ l.take k).map (keyAt M)))) := World.ownsRow.alloc HO3.out _
            have HR5 : Hid ((wr.alloc o5).ownsRow lw 3 1 (.slice (some ⟨bl, ol, none⟩) l.length cap) l.length (encI l)) := World.ownsRow.alloc HR3.out _
            go_wp2_with fail
            rw [← ho5]
            generalize wr.alloc o5 = W5 at *
            subst ho5
            clear HO3 HR3 HB3 hb3 q0 q1 q2 q3 q4 d0 s0 s1 s2 s3 s4 s5
            refine (bucketOf_any _ _ _ _ HK.out n1.1 n1.2).mono ?_
            rintro e w6 ⟨rfl, hb6⟩
            have hbx6 := hbx.trans (hb6.mono hbx.size)
            have hs6 : w6.heap[wr.heap.size]? = _ := (hb6.block wr.heap.size (lt_of_block HSL5.out)).trans HSL5.out
            have HS6 : Hid (w6.heap[wr.heap.size]? = some (.cells #[.int .i64 r, .int .i64 ka, .int .i64 kb, .int .i64 u, .bool true, .int .i64 nx] 48 (0, 0))) := hs6
            have HB6 : Hid (w6.heap[w.heap.size]? = _) := (hb6.block w.heap.size (lt_of_block HB5.out)).trans HB5.out
            have HO6 : Hid (w6.ownsRow (w.heap.size + 1) 37 2 u4 ((allTo M b ++ l.take k).map (keyAt M)).length (encK ((allTo M b ++ l.take k).map (keyAt M)))) := own_below HO5.out hb6
            have HR6 : Hid (w6.ownsRow lw 3 1 (.slice (some ⟨bl, ol, none⟩) l.length cap) l.length (encI l)) := own_below HR5.out hb6
            clear hs6 HSL5 HB5 HO5 HR5 hbx hb6
            have t1 : w6.cell? ⟨wr.heap.size, 1, none⟩ = some (.int .i64 ka) := by rw [cell_of_block HS6.out]; rfl
            have t2 : w6.cell? ⟨wr.heap.size, 2, none⟩ = some (.int .i64 kb) := by rw [cell_of_block HS6.out]; rfl
            by_cases hbb : bucket ka kb M.heads.length = b
            rotate_left
            · have hbe : (bucket ka kb M.heads.length != (b : Int)) = true := by simpa using hbb
              have HV : Hid (Z = 4) := HBad.out 4 (by decide) (HC3.out.trans (by rw [if_pos hbb]))
              clear HC3
              generalize bucket ka kb M.heads.length = q at *
              go_wp2
              go_ret
              exact ⟨ret_int HV.out.symm, hbx6⟩
            have HC4 : Hid (slotC M b (allTo M b ++ l.take k) j = if hasK M (allTo M b ++ l.take k) (ka, kb) then 6 else 0) := HC3.out.trans (by rw [if_neg (by simpa using hbb)])
            rw [hbb]
            have hbe : ((b : Int) != (b : Int)) = false := by simp
            have hlk : ((allTo M b ++ l.take k).map (keyAt M)).length ≤ 100 := by
              simp only [List.length_map, List.length_append, List.length_take]
              omega
            have HT : Hid ((allTo M b ++ l.take (k + 1)).map (keyAt M) = (allTo M b ++ l.take k).map (keyAt M) ++ [(ka, kb)]) := by
              show _ = _
              rw [List.take_succ_eq_append_getElem hlt3, ← List.append_assoc, List.map_append, HX.out]
              simp [HKy.out]
            rw [hasK_con] at HC4
            have HStep : Hid (slotC M b (allTo M b ++ l.take k) j = 0 → scanC M b (allTo M b) l = scanC M b (allTo M b ++ l.take (k + 1)) (l.drop (k + 1))) := fun hz => HE3.out.trans (HSt.out.trans (by rw [HX.out, if_neg (by simpa using hz)]))
            clear HC3 hbb HSt HE3
            obtain ⟨ko, kcap, hkv⟩ := own_shape HO6.out
            subst hkv
            generalize (allTo M b ++ l.take k).map (keyAt M) = kl at *
            have HKA : Hid (KAt w6 ko kl) := KAt.of_own HO6.out
            go_wp2_with fail
            refine (containsK_any ko kcap kl ka kb w6 (by omega) HKA.out).mono ?_
            rintro e w7 ⟨rfl, hb7⟩
            have hbx7 := hbx6.trans (hb7.mono hbx6.size)
            have HS7 : Hid (w7.heap[wr.heap.size]? = _) := (hb7.block wr.heap.size (lt_of_block HS6.out)).trans HS6.out
            have HB7 : Hid (w7.heap[w.heap.size]? = some (.cells #[.slice (some ⟨bs, os, none⟩) M.slots.length cS, .slice aH M.heads.length cH, .slice aF M.free.length cF, .slice aL M.locks.length cL, .int .i64 M.now] 29 (0, 0))) := (hb7.block w.heap.size (lt_of_block HB6.out)).trans HB6.out
            have HO7 : Hid (w7.ownsRow (w.heap.size + 1) 37 2 (.slice ko kl.length kcap) kl.length (encK kl)) := own_below HO6.out hb7
            have HR7 : Hid (w7.ownsRow lw 3 1 (.slice (some ⟨bl, ol, none⟩) l.length cap) l.length (encI l)) := own_below HR6.out hb7
            clear HS6 HB6 HO6 HR6 HKA hbx6 hb7 t1 t2
            have t1 : w7.cell? ⟨wr.heap.size, 1, none⟩ = some (.int .i64 ka) := by rw [cell_of_block HS7.out]; rfl
            have t2 : w7.cell? ⟨wr.heap.size, 2, none⟩ = some (.int .i64 kb) := by rw [cell_of_block HS7.out]; rfl
            have ls7 := lt_of_block HS7.out
            cases hh : kl.contains (ka, kb)
            rotate_left
            · have HV : Hid (Z = 6) := HBad.out 6 (by decide) (HC4.out.trans (by rw [hh]; rfl))
              clear HC4
              go_wp2
              go_ret
              exact ⟨ret_int HV.out.symm, hbx7⟩
            have HV : Hid _ := HStep.out (HC4.out.trans (by rw [hh]; rfl))
            clear HC4 hh HStep
            have hbs := hbx7.size
            go_wp2_with (at_builtin; refine wpList_append_own_at _ rfl (.tmp 64) (.tmp 67) 91 rfl (w.heap.size + 1) 37 i0 (.agg #[.int .i64 0, .int .i64 0]) 2 16 Try.underlying91 hi hz0 hz1 hz2 rfl (by decide) _ _ _ rfl (World.ownsRow.alloc HO7.out _) ⟨w7.heap.size, 0, none⟩ 1 1 [.int .i64 ka, .int .i64 kb] rfl rfl (two_new _ _ _) (by intro x hx; simp only [List.mem_cons, List.not_mem_nil, or_false] at hx; rcases hx with rfl | rfl <;> rfl) (by unfold maxLen; omega) (by omega) (by simp; omega) ?_; intro v2 w8 ho8 hg8 _ hloc8; obtain ⟨g2, cap2, rfl⟩ := ownsRow_form ho8 (by omega); have HO8 : Hid (w8.ownsRow (w.heap.size + 1) 37 2 (.slice (some ⟨g2, 0, none⟩) (kl.length + 1) cap2) (kl.length + 1) (encK kl ++ [.int .i64 ka, .int .i64 kb])) := ho8; have hb8 : Below w.heap.size w w8 := (hbx7.alloc hbx7.size _).grown hg8 (by simp; omega) (fun q hq => by have := (World.ownsRow.lt HO7.out q hq).1; omega); have HB8 : Hid (w8.heap[w.heap.size]? = some (.cells #[.slice (some ⟨bs, os, none⟩) M.slots.length cS, .slice aH M.heads.length cH, .slice aF M.free.length cF, .slice aL M.locks.length cL, .int .i64 M.now] 29 (0, 0))) := box_kept HB7.out hg8 (own_ne HO7.out HB7.out (by decide)); have HR8 : Hid (w8.ownsRow lw 3 1 (.slice (some ⟨bl, ol, none⟩) l.length cap) l.length (encI l)) := (World.ownsRow.alloc HR7.out _).kept hg8 (own_dj HR7.out HO7.out (by decide)).ne; clear ho8 hg8 hloc8)
            go_roundw
            case rel => exact ⟨k + 1, by omega, by go_num, by rw [HT.out, show (kl ++ [(ka, kb)]).length = kl.length + 1 by simp, show encK (kl ++ [(ka, kb)]) = encK kl ++ [.int .i64 ka, .int .i64 kb] by simp [encK]]; exact HO8, HR8, hb8, HB8, HV⟩
            case measure => simp [intOf]; omega
          · have hk' : k = l.length := by omega
            have HV : Hid (Z = chkB M (M.heads.length - (b + 1)) (b + 1) (allTo M (b + 1))) := by
              have h1 := HE3.out.trans (scanC_end M b (allTo M b) l k (by omega))
              have := HD.out
              rw [h1, if_neg (by simp)] at this
              exact this
            have HO6 : Hid (wr.ownsRow (w.heap.size + 1) 37 2 u4 ((allTo M (b + 1)).map (keyAt M)).length (encK ((allTo M (b + 1)).map (keyAt M)))) := by
              have := HO3.out
              rw [hk', List.take_length, ← HSu.out] at this
              exact this
            go_wp2
            go_roundw
            case rel => exact ⟨b + 1, by omega, by go_num, HO6, hb3, HB3, HV⟩
            case measure => simp [intOf]; omega
    · have HV : Hid (Z = 0) := HE.out.trans (chkB_end M b (by omega) _)
      go_wp2
      go_ret
      exact ⟨ret_int HV.out.symm, hbw⟩


end Go.Proofs.Ytdbilofhcadmoaa.mm
