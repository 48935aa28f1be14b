/- Lists of flows; the contract of chain.Flows. -/
import Derived.Test.YtdbilofhcadmoaaCh1
namespace Go.Proofs.Ytdbilofhcadmoaa.mm
open Go.ChangeShapes Go.WideShapes Go.ChangeAt Go.RowKit Go.Joins Go.Maps
set_option maxRecDepth 100000
set_option linter.unusedVariables false

structure Fl where
  a : Int
  b : Int
  slot : Int
  unt : Int

def Fl.enc (f : Fl) : List Value := [.int .i64 f.a, .int .i64 f.b, .int .i64 f.slot, .int .i64 f.unt]
def encF (l : List Fl) : List Value := l.flatMap Fl.enc
theorem encF_cons (s : Fl) (l : List Fl) : encF (s :: l) = s.enc ++ encF l := by simp [encF]
theorem encF_len (l : List Fl) : (encF l).length = l.length * 4 := by
  induction l with
  | nil => rfl
  | cons s l ih => rw [encF_cons, List.length_append, ih]; simp [Fl.enc]; omega
theorem encF_get (l : List Fl) (i q : Nat) (h : i < l.length) (hq : q < 4) : (encF l)[i * 4 + q]? = (l[i].enc)[q]? := by
  induction l generalizing i with
  | nil => simp at h
  | cons s l ih =>
    rw [encF_cons]
    match i with
    | 0 =>
      rw [List.getElem?_append_left (by simp [Fl.enc]; omega)]
      simp
    | i + 1 =>
      rw [List.getElem?_append_right (by simp [Fl.enc]; omega)]
      have hl : s.enc.length = 4 := rfl
      rw [hl, show (i + 1) * 4 + q - 4 = i * 4 + q by omega, ih i (by simpa using h)]
      simp

structure FRow (w : World) (ao : Option Addr) (cap : Nat) (l : List Fl) : Prop where
  le : l.length ≤ cap
  max : l.length * 32 ≤ 140737488351232
  nil : ao = none → cap = 0
  at_ : l.length = 0 ∨ ∃ b o, ao = some ⟨b, o, none⟩ ∧ ∀ i (h : i < l.length),
    w.cell? ⟨b, o + i * 4, none⟩ = some (.int .i64 l[i].a) ∧ w.cell? ⟨b, o + i * 4 + 1, none⟩ = some (.int .i64 l[i].b) ∧ w.cell? ⟨b, o + i * 4 + 2, none⟩ = some (.int .i64 l[i].slot) ∧ w.cell? ⟨b, o + i * 4 + 3, none⟩ = some (.int .i64 l[i].unt)

theorem FRow.below {w w' : World} {ao : Option Addr} {cap : Nat} {l : List Fl} (r : FRow w ao cap l) (hb : Below w.heap.size w w') : FRow w' ao cap l := by
  refine ⟨r.le, r.max, r.nil, ?_⟩
  rcases r.at_ with h | ⟨b, o, h, hc⟩
  · exact .inl h
  · refine .inr ⟨b, o, h, fun i hi => ?_⟩
    obtain ⟨c0, c1, c2, c3⟩ := hc i hi
    have lt := cell_lt c0
    obtain ⟨q, _⟩ := bcell hb
    exact ⟨(q _ _ lt).trans c0, (q _ _ lt).trans c1, (q _ _ lt).trans c2, (q _ _ lt).trans c3⟩
theorem FRow.mk_cells {w : World} {b cap : Nat} {S : List Fl} (hl : S.length ≤ cap) (hm : S.length * 32 ≤ 140737488351232) (hc : ∀ j, j < S.length * 4 → w.cell? ⟨b, j, none⟩ = (encF S)[j]?) : FRow w (some ⟨b, 0, none⟩) cap S := by
  refine ⟨hl, hm, (fun h => by cases h), .inr ⟨b, 0, rfl, fun i hi => ?_⟩⟩
  have e : ∀ q, q < 4 → w.cell? ⟨b, 0 + i * 4 + q, none⟩ = (S[i].enc)[q]? := fun q hq => by
    rw [Nat.zero_add, hc _ (by omega), encF_get S i q hi hq]
  exact ⟨e 0 (by omega), e 1 (by omega), e 2 (by omega), e 3 (by omega)⟩
theorem FRow.of_own {w : World} {base n : Nat} {v : Value} {S : List Fl} (h : w.ownsRow base 65 4 v n (encF S)) (hm : S.length * 32 ≤ 140737488351232) : ∃ ao cap, v = .slice ao S.length cap ∧ FRow w ao cap S := by
  have hl := h.1
  rw [encF_len] at hl
  have hn : S.length = n := by omega
  subst hn
  rcases h.2 with ⟨rfl, h0⟩ | ⟨g, cap, cur, rfl, hg, hb, hc, -, hs, ht⟩
  · exact ⟨none, 0, by rw [h0], by omega, hm, fun _ => rfl, .inl h0⟩
  · exact ⟨_, _, rfl, .mk_cells hc hm fun j hj => h.cellAt j hj⟩
theorem frow_nil (w : World) : FRow w none 0 [] := ⟨by decide, by decide, fun _ => rfl, .inl rfl⟩

theorem iF : (Try.prog.info? 65).map (fun i => (i.zero, i.size, i.bytes)) = some (some (.agg #[.int .i64 0, .int .i64 0, .int .i64 0, .int .i64 0]), 4, 32) := by kernel_rfl

def flowAt (M : Mm) (x : Int) : Fl := ⟨(slotAt M x).a, (slotAt M x).b, x, (slotAt M x).unt⟩
def flowsM (M : Mm) : List Fl := if chkC M = 0 then (allC M).map (flowAt M) else []

theorem four_new (w : World) (f : Fl) : ∀ (j : Nat) (u : Value), (f.enc)[j]? = some u → (w.alloc (.cells #[.int .i64 f.a, .int .i64 f.b, .int .i64 f.slot, .int .i64 f.unt] 65)).cell? ((⟨w.heap.size, 0, none⟩ : Addr).add j) = some u := by
  intro j u hu
  rw [Addr.add_lit]
  match j, hu with
  | 0, hu => simp [Fl.enc] at hu; subst hu; simp
  | 1, hu => simp [Fl.enc] at hu; subst hu; simp
  | 2, hu => simp [Fl.enc] at hu; subst hu; simp
  | 3, hu => simp [Fl.enc] at hu; subst hu; simp
  | j + 4, hu => simp [Fl.enc] at hu

set_option maxHeartbeats 1600000 in
theorem app72 (M : Mm) (aS aH aF aL : Option Addr) (cS cH cF cL : Nat) (w0 W : World) (X B Y : Nat) (ob : Array Value) (l : List Int) (j : Nat) (L : Lst w0 B Y 60 65 4 ob W (l.map (flowAt M)).length (encF (l.map (flowAt M)))) (hl : l.length ≤ 100)
    (hX : W.heap[X]? = some (.cells #[.slice aS M.slots.length cS, .slice aH M.heads.length cH, .slice aF M.free.length cF, .slice aL M.locks.length cL, .int .i64 M.now] 29 (0, 0))) (A : At W aS aH aF aL cS cH cF cL M) (hj : j < M.slots.length) (hns : M.slots.length ≤ 12) :
    Calls Try.prog 72 #[.int .i64 j, .pointer (some ⟨X, 0, none⟩), .pointer (some ⟨B, 0, none⟩)] W fun e W' => e = .returned (.tuple #[]) ∧ Lst w0 B Y 60 65 4 ob W' ((l ++ [(j : Int)]).map (flowAt M)).length (encF ((l ++ [(j : Int)]).map (flowAt M))) := by
  obtain ⟨i0, hi, hz0, hz1, hz2⟩ := info_parts iF
  obtain ⟨⟨v, hB, ho⟩, hY, hb, hne⟩ := L
  have hll : (l.map (flowAt M)).length = l.length := by simp
  rw [hll] at ho
  obtain ⟨ao, cap, rfl⟩ := own_shape ho
  obtain ⟨c0, f0, lB⟩ := var_cell hB
  obtain ⟨q0, q1, q2, q3, q4, -, -, -, -, -, qs⟩ := boxf hX
  rcases A.s.at_ with h0 | ⟨bs, os, rfl, hcs⟩
  · omega
  obtain ⟨s0, s1, s2, s3, s4, s5⟩ := hcs j hj
  have ls := cell_lt s0
  have hsl : slotAt M j = M.slots[j] := slotAt_lt hj
  generalize hM : M.slots[j] = s at s0 s1 s2 s3 s4 s5 hsl
  obtain ⟨r, ka, kb, u, i, nx⟩ := s
  dsimp only at s0 s1 s2 s3 s4 s5
  have HFl : Hid (flowAt M j = ⟨ka, kb, j, u⟩) := by unfold flowAt; rw [hsl]; rfl
  clear hM hsl hcs A hX
  have HB : Hid _ := hB
  have HY : Hid _ := hY
  have lY := lt_of_block hY
  clear hB hY
  have kB : (W.alloc (.cells #[.int .i64 r, .int .i64 ka, .int .i64 kb, .int .i64 u, .bool i, .int .i64 nx] 48)).heap[B]? = _ := (Below.heap_alloc W (.cells #[.int .i64 r, .int .i64 ka, .int .i64 kb, .int .i64 u, .bool i, .int .i64 nx] 48) B lB).trans HB.out
  have kY : (W.alloc (.cells #[.int .i64 r, .int .i64 ka, .int .i64 kb, .int .i64 u, .bool i, .int .i64 nx] 48)).heap[Y]? = _ := (Below.heap_alloc W (.cells #[.int .i64 r, .int .i64 ka, .int .i64 kb, .int .i64 u, .bool i, .int .i64 nx] 48) Y lY).trans HY.out
  have KB : Hid _ := kB
  have KY : Hid _ := kY
  clear kB kY
  have hb' := hb.alloc (Nat.le_of_lt lB) (.cells #[.int .i64 r, .int .i64 ka, .int .i64 kb, .int .i64 u, .bool i, .int .i64 nx] 48)
  have HN : Hid _ := four_new (W.alloc (.cells #[.int .i64 r, .int .i64 ka, .int .i64 kb, .int .i64 u, .bool i, .int .i64 nx] 48)) ⟨ka, kb, j, u⟩
  rw [show (W.alloc (.cells #[.int .i64 r, .int .i64 ka, .int .i64 kb, .int .i64 u, .bool i, .int .i64 nx] 48)).heap.size = W.heap.size + 1 by simp] at HN
  go_enter Try.func72, Try.ntmps72
  go_wp2_with (at_builtin; refine wpList_append_own_at _ rfl (.tmp 10) (.tmp 17) 60 rfl (B + 1) 65 i0 (.agg #[.int .i64 0, .int .i64 0, .int .i64 0, .int .i64 0]) 4 32 Try.underlying60 hi hz0 hz1 hz2 rfl (by decide) _ _ _ rfl ((ho.alloc _).alloc _) ⟨W.heap.size + 1, 0, none⟩ 1 1 (Fl.enc ⟨ka, kb, j, u⟩) rfl rfl HN.out (by intro x hx; simp only [Fl.enc, List.mem_cons, List.not_mem_nil, or_false] at hx; rcases hx with rfl | rfl | rfl | rfl <;> rfl) (by unfold maxLen; omega) (by omega) (by simp; omega) ?_; intro v2 w2 ho2 hg2 _ hloc2; obtain ⟨g2, cap2, rfl⟩ := ownsRow_form ho2 (by omega); have HL : Hid _ := Lst.step KB.out (ho.alloc _) KY.out hb' hne (by decide) (by decide) hg2 ho2; obtain ⟨d0, e0, lB2⟩ := var_cell (box_kept KB.out hg2 (own_ne (ho.alloc _) KB.out (by decide))); clear c0 f0 ho2 hg2 hloc2)
  go_end0
  refine ⟨rfl, ?_⟩
  have := HL.out
  rw [show encF (l.map (flowAt M) ++ [flowAt M (j : Int)]) = encF (l.map (flowAt M)) ++ Fl.enc ⟨ka, kb, j, u⟩ by simp [encF, HFl.out]]
  exact this

theorem fn72 : ∀ args W, (callFunc 72 args).run Try.prog W = .ok (.enter 72 args) W := fun _ _ => by kernel_rfl

set_option maxHeartbeats 3200000 in
theorem flows_any (M : Mm) (aS aH aF aL : Option Addr) (cS cH cF cL : Nat) (w : World) (A : At w aS aH aF aL cS cH cF cL M) :
    Calls Try.prog 34 #[.agg #[.slice aS M.slots.length cS, .slice aH M.heads.length cH, .slice aF M.free.length cF, .slice aL M.locks.length cL, .int .i64 M.now]] w fun e w' =>
      ∃ ao cap, e = .returned (.tuple #[.slice ao (flowsM M).length cap, .int .i64 (chkC M)]) ∧ FRow w' ao cap (flowsM M) ∧ Below w.heap.size w w' := by
  obtain ⟨E0, hE0⟩ : ∃ E0, E0 = chkC M := ⟨_, rfl⟩
  obtain ⟨L0, hL0⟩ : ∃ L0, L0 = flowsM M := ⟨_, rfl⟩
  rw [← hE0, ← hL0]
  have HE0 : Hid (E0 = chkC M) := hE0
  have HL0 : Hid (L0 = flowsM M) := hL0
  clear hE0 hL0
  obtain ⟨o1, ho1⟩ : ∃ o : Obj, o = .cells #[.slice aS M.slots.length cS, .slice aH M.heads.length cH, .slice aF M.free.length cF, .slice aL M.locks.length cL, .int .i64 M.now] 29 := ⟨_, rfl⟩
  have b0 : Below w.heap.size w (w.alloc o1) := one_below w o1
  have HB0 : Hid ((w.alloc o1).heap[w.heap.size]? = some o1) := heap_alloc_new _ _
  have HA : Hid (At w aS aH aF aL cS cH cF cL M) := A
  have HA0 : Hid _ := A.below b0
  clear A
  have hmf : ∀ (fn : Fn) (first cap : Array Value) (w : World), (Instr.makeFunc fn first cap).run Try.prog w = .ok (.func fn first cap) w := fun _ _ _ _ => rfl
  go_enter Try.func34, Try.ntmps34
  go_wp2_with fail
  rw [← ho1]
  generalize w.alloc o1 = W0 at *
  subst ho1
  refine (chainCheck_any M aS aH aF aL cS cH cF cL W0 HA0.out).mono ?_
  rintro e w1 ⟨rfl, hb1⟩
  have b1 := b0.trans (hb1.mono b0.size)
  have HB1 : Hid (w1.heap[w.heap.size]? = _) := (hb1.block w.heap.size (lt_of_block HB0.out)).trans HB0.out
  clear hb1 b0 HB0 HA0
  by_cases hE : chkC M = 0
  rotate_left
  · have h' : (chkC M != 0) = true := by simpa using hE
    have HV : Hid (E0 = chkC M ∧ L0 = []) := ⟨HE0.out, HL0.out.trans (by unfold flowsM; rw [if_neg hE])⟩
    clear HB1
    generalize chkC M = E at *
    go_wp2
    go_ret2
    exact ⟨none, 0, by rw [HV.out.1, HV.out.2]; rfl, by rw [HV.out.2]; exact frow_nil _, b1⟩
  have hokc := (chkC_zero M).1 hE
  have hok := hokc.ok
  have n0 := hok.ns
  have n1 := hok.nh
  have HV : Hid (E0 = 0 ∧ L0 = (allC M).map (flowAt M)) := ⟨HE0.out.trans hE, HL0.out.trans (by unfold flowsM; rw [if_pos hE])⟩
  rw [hE]
  clear hE HE0 HL0
  obtain ⟨q0, q1, q2, q3, q4, f0, f1, f2, f3, f4, qs⟩ := boxf HB1.out
  clear f0 f1 f2 f3 f4
  obtain ⟨B, hB⟩ : ∃ B, B = w1.heap.size := ⟨_, rfl⟩
  have HBe : Hid (B = w1.heap.size) := hB
  have HV1 : Hid ((w1.alloc (.cells #[.slice none 0 0] 60)).heap[B]? = some (.cells #[.slice none 0 0] 60)) := by rw [hB]; exact heap_alloc_new _ _
  have HX1 : Hid ((w1.alloc (.cells #[.slice none 0 0] 60)).heap[w.heap.size]? = some (.cells #[.slice aS M.slots.length cS, .slice aH M.heads.length cH, .slice aF M.free.length cF, .slice aL M.locks.length cL, .int .i64 M.now] 29 (0, 0))) := (Below.heap_alloc _ _ _ qs).trans HB1.out
  have b2 := b1.alloc b1.size (.cells #[.slice none 0 0] 60)
  have bX : w.heap.size < B := by rw [hB]; exact qs
  go_wp2
  rw [← hB]
  clear hB q0 q1 q2 q3 q4 HB1
  go_loopw [15] (fun i wr => ∃ b : Nat, b ≤ M.heads.length ∧ i = .int .i64 b ∧ (∃ v, Hid (wr.heap[B]? = some (.cells #[v] 60 (0, 0))) ∧ Hid (wr.ownsRow (B + 1) 65 4 v ((allTo M b).map (flowAt M)).length (encF ((allTo M b).map (flowAt M))))) ∧ Below w.heap.size w wr ∧ Hid (wr.heap[w.heap.size]? = some (.cells #[.slice aS M.slots.length cS, .slice aH M.heads.length cH, .slice aF M.free.length cF, .slice aL M.locks.length cL, .int .i64 M.now] 29 (0, 0))))
    (fun i _ => M.heads.length - (intOf i).toNat)
  case atStart => exact ⟨0, Nat.zero_le _, rfl, ⟨_, HV1, World.ownsRow_nil _ _ _ _⟩, b2, HX1⟩
  case round =>
    obtain ⟨b, hb, rfl, ⟨v, HVr, HOr⟩, hbw, HX⟩ := hrel
    clear HV1 HX1 b2 b1
    obtain ⟨q0, q1, q2, q3, q4, f0, f1, f2, f3, f4, qs'⟩ := boxf HX.out
    clear f0 f1 f2 f3 f4
    have lB := lt_of_block HVr.out
    by_cases hlt : b < M.heads.length
    · have hal := allTo_len M b
      have hal2 : b * M.slots.length ≤ 4 * 12 := Nat.mul_le_mul (by omega) n0
      go_wp2_with fail
      have hst : Lst wr B wr.heap.size 60 65 4 #[.slice aS M.slots.length cS, .slice aH M.heads.length cH, .slice aF M.free.length cF, .slice aL M.locks.length cL, .int .i64 M.now] (wr.alloc (.cells #[.slice aS M.slots.length cS, .slice aH M.heads.length cH, .slice aF M.free.length cF, .slice aL M.locks.length cL, .int .i64 M.now] 29)) ((allTo M b ++ []).map (flowAt M)).length (encF ((allTo M b ++ []).map (flowAt M))) := by
        rw [List.append_nil]
        refine ⟨⟨v, (Below.heap_alloc _ _ _ lB).trans HVr.out, World.ownsRow.alloc HOr.out _⟩, heap_alloc_new _ _, (Below.refl _ _).alloc (by omega) _, by omega⟩
      refine (walk_any 72 #[.pointer (some ⟨w.heap.size, 0, none⟩), .pointer (some ⟨B, 0, none⟩)] M aS aH aF aL cS cH cF cL b wr hok hlt fn72 (fun l W => Lst wr B wr.heap.size 60 65 4 #[.slice aS M.slots.length cS, .slice aH M.heads.length cH, .slice aF M.free.length cF, .slice aL M.locks.length cL, .int .i64 M.now] W ((allTo M b ++ l).map (flowAt M)).length (encF ((allTo M b ++ l).map (flowAt M)))) hst (fun l W h => h.box) (fun l W h => HA.out.below (hbw.trans (h.below.mono (by omega)))) ?_).mono ?_
      · intro l a W hL ha hl
        have := app72 M aS aH aF aL cS cH cF cL _ _ w.heap.size _ _ _ _ a hL (by rw [List.length_append]; omega) ((hL.below.block w.heap.size bX).trans HX.out) (HA.out.below (hbw.trans (hL.below.mono (by omega)))) ha n0
        rw [List.append_assoc] at this
        exact this
      rintro e w2 ⟨rfl, hL2⟩
      rw [← allTo_succ] at hL2
      obtain ⟨⟨v2, hv2, ho2⟩, -, hb2, -⟩ := hL2
      have HV2 : Hid (w2.heap[B]? = some (.cells #[v2] 60 (0, 0))) := hv2
      have HO2 : Hid (w2.ownsRow (B + 1) 65 4 v2 ((allTo M (b + 1)).map (flowAt M)).length (encF ((allTo M (b + 1)).map (flowAt M)))) := ho2
      have hbx : Below w.heap.size w w2 := hbw.trans (hb2.mono (by omega))
      have HX2 : Hid (w2.heap[w.heap.size]? = some (.cells #[.slice aS M.slots.length cS, .slice aH M.heads.length cH, .slice aF M.free.length cF, .slice aL M.locks.length cL, .int .i64 M.now] 29 (0, 0))) := (hb2.block w.heap.size bX).trans HX.out
      clear hv2 ho2 hb2 hst HVr HOr HX hbw q0 q1 q2 q3 q4
      go_wp2
      go_roundw
      case rel => exact ⟨b + 1, by omega, by go_num, ⟨v2, HV2, HO2⟩, hbx, HX2⟩
      case measure => simp [intOf]; omega
    · obtain rfl : b = M.heads.length := by omega
      have hlen := allTo_len M M.heads.length
      have hal2 : M.heads.length * M.slots.length ≤ 4 * 12 := Nat.mul_le_mul (by omega) n0
      obtain ⟨ao, cap, rfl, hrow⟩ := FRow.of_own HOr.out (by rw [List.length_map]; omega)
      have HR : Hid (FRow wr ao cap ((allC M).map (flowAt M))) := hrow
      clear hrow
      obtain ⟨c0, -, lB'⟩ := var_cell HVr.out
      have hlm : ((allC M).map (flowAt M)).length = ((allTo M M.heads.length).map (flowAt M)).length := rfl
      clear HVr HOr
      go_wp2
      go_ret2
      refine ⟨ao, cap, ?_, ?_, hbw⟩
      · rw [HV.out.1, HV.out.2, hlm]
        simp
      · rw [HV.out.2]; exact HR.out


end Go.Proofs.Ytdbilofhcadmoaa.mm
