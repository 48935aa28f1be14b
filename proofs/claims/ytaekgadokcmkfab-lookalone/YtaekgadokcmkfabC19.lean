/- Lists of flows; the contract of chain.Flows. -/
import Derived.Test.YtaekgadokcmkfabC18
import Derived.Test.YtaekgadokcmkfabC02
import Derived.Deep.RegionWith
import Derived.Lib.SmallJoins
import Derived.Test.YtaekgadokcmkfabC06
import Derived.Deep.QuietTactic
import Derived.BigQuiet
namespace Go.Proofs.Ytaekgadokcmkfab.mm
open Go.ChangeShapes Go.WideShapes Go.ChangeAt Go.RowKit Go.Joins Go.Maps
set_option maxRecDepth 100000
set_option linter.unusedVariables false

structure Fl where
  a : Int
  b : Int
  slot : Int
  unt : Int

def Fl.enc (f : Fl) : List Value := [.int .i64 f.a, .int .i64 f.b, .int .i64 f.slot, .int .i64 f.unt]
def encF (l : List Fl) : List Value := l.flatMap Fl.enc
theorem encF_cons (s : Fl) (l : List Fl) : encF (s :: l) = s.enc ++ encF l := by simp [encF]
theorem encF_len (l : List Fl) : (encF l).length = l.length * 4 := by
  induction l with
  | nil => rfl
  | cons s l ih => rw [encF_cons, List.length_append, ih]; simp [Fl.enc]; omega
theorem encF_get (l : List Fl) (i q : Nat) (h : i < l.length) (hq : q < 4) : (encF l)[i * 4 + q]? = (l[i].enc)[q]? := by
  induction l generalizing i with
  | nil => simp at h
  | cons s l ih =>
    rw [encF_cons]
    match i with
    | 0 =>
      rw [List.getElem?_append_left (by simp [Fl.enc]; omega)]
      simp
    | i + 1 =>
      rw [List.getElem?_append_right (by simp [Fl.enc]; omega)]
      have hl : s.enc.length = 4 := rfl
      rw [hl, show (i + 1) * 4 + q - 4 = i * 4 + q by omega, ih i (by simpa using h)]
      simp

structure FRow (w : World) (ao : Option Addr) (cap : Nat) (l : List Fl) : Prop where
  le : l.length ≤ cap
  max : l.length * 32 ≤ 140737488351232
  nil : ao = none → cap = 0
  at_ : l.length = 0 ∨ ∃ b o, ao = some ⟨b, o, none⟩ ∧ ∀ i (h : i < l.length),
    w.cell? ⟨b, o + i * 4, none⟩ = some (.int .i64 l[i].a) ∧ w.cell? ⟨b, o + i * 4 + 1, none⟩ = some (.int .i64 l[i].b) ∧ w.cell? ⟨b, o + i * 4 + 2, none⟩ = some (.int .i64 l[i].slot) ∧ w.cell? ⟨b, o + i * 4 + 3, none⟩ = some (.int .i64 l[i].unt)

theorem FRow.below {w w' : World} {ao : Option Addr} {cap : Nat} {l : List Fl} (r : FRow w ao cap l) (hb : Below w.heap.size w w') : FRow w' ao cap l := by
  refine ⟨r.le, r.max, r.nil, ?_⟩
  rcases r.at_ with h | ⟨b, o, h, hc⟩
  · exact .inl h
  · refine .inr ⟨b, o, h, fun i hi => ?_⟩
    obtain ⟨c0, c1, c2, c3⟩ := hc i hi
    have lt := cell_lt c0
    obtain ⟨q, _⟩ := bcell hb
    exact ⟨(q _ _ lt).trans c0, (q _ _ lt).trans c1, (q _ _ lt).trans c2, (q _ _ lt).trans c3⟩
theorem FRow.mk_cells {w : World} {b cap : Nat} {S : List Fl} (hl : S.length ≤ cap) (hm : S.length * 32 ≤ 140737488351232) (hc : ∀ j, j < S.length * 4 → w.cell? ⟨b, j, none⟩ = (encF S)[j]?) : FRow w (some ⟨b, 0, none⟩) cap S := by
  refine ⟨hl, hm, (fun h => by cases h), .inr ⟨b, 0, rfl, fun i hi => ?_⟩⟩
  have e : ∀ q, q < 4 → w.cell? ⟨b, 0 + i * 4 + q, none⟩ = (S[i].enc)[q]? := fun q hq => by
    rw [Nat.zero_add, hc _ (by omega), encF_get S i q hi hq]
  exact ⟨e 0 (by omega), e 1 (by omega), e 2 (by omega), e 3 (by omega)⟩
theorem FRow.of_own {w : World} {base n : Nat} {v : Value} {S : List Fl} (h : w.ownsRow base 42 4 v n (encF S)) (hm : S.length * 32 ≤ 140737488351232) : ∃ ao cap, v = .slice ao S.length cap ∧ FRow w ao cap S := by
  have hl := h.1
  rw [encF_len] at hl
  have hn : S.length = n := by omega
  subst hn
  rcases h.2 with ⟨rfl, h0⟩ | ⟨g, cap, cur, rfl, hg, hb, hc, -, hs, ht⟩
  · exact ⟨none, 0, by rw [h0], by omega, hm, fun _ => rfl, .inl h0⟩
  · exact ⟨_, _, rfl, .mk_cells hc hm fun j hj => h.cellAt j hj⟩
theorem frow_nil (w : World) : FRow w none 0 [] := ⟨by decide, by decide, fun _ => rfl, .inl rfl⟩

theorem iF : (Try.prog.info? 42).map (fun i => (i.zero, i.size, i.bytes)) = some (some (.agg #[.int .i64 0, .int .i64 0, .int .i64 0, .int .i64 0]), 4, 32) := by kernel_rfl

def flowAt (M : Mm) (x : Int) : Fl := ⟨(slotAt M x).a, (slotAt M x).b, x, (slotAt M x).unt⟩
def flowsM (M : Mm) : List Fl := if chkC M = 0 then (allC M).map (flowAt M) else []

theorem four_new (w : World) (f : Fl) : ∀ (j : Nat) (u : Value), (f.enc)[j]? = some u → (w.alloc (.cells #[.int .i64 f.a, .int .i64 f.b, .int .i64 f.slot, .int .i64 f.unt] 42)).cell? ((⟨w.heap.size, 0, none⟩ : Addr).add j) = some u := by
  intro j u hu
  rw [Addr.add_lit]
  match j, hu with
  | 0, hu => simp [Fl.enc] at hu; subst hu; simp
  | 1, hu => simp [Fl.enc] at hu; subst hu; simp
  | 2, hu => simp [Fl.enc] at hu; subst hu; simp
  | 3, hu => simp [Fl.enc] at hu; subst hu; simp
  | j + 4, hu => simp [Fl.enc] at hu

set_option maxHeartbeats 1600000 in
theorem app72 (M : Mm) (aS aH aF aL : Option Addr) (cS cH cF cL : Nat) (w0 W : World) (X B Y : Nat) (ob : Array Value) (l : List Int) (j : Nat) (L : Lst w0 B Y 29 42 4 ob W (l.map (flowAt M)).length (encF (l.map (flowAt M)))) (hl : l.length ≤ 100)
    (hX : W.heap[X]? = some (.cells #[.slice aS M.slots.length cS, .slice aH M.heads.length cH, .slice aF M.free.length cF, .slice aL M.locks.length cL, .int .i64 M.now] 25 (0, 0))) (A : At W aS aH aF aL cS cH cF cL M) (hj : j < M.slots.length) (hns : M.slots.length ≤ 12) :
    Calls Try.prog 50 #[.int .i64 j, .pointer (some ⟨X, 0, none⟩), .pointer (some ⟨B, 0, none⟩)] W fun e W' => e = .returned (.tuple #[]) ∧ Lst w0 B Y 29 42 4 ob W' ((l ++ [(j : Int)]).map (flowAt M)).length (encF ((l ++ [(j : Int)]).map (flowAt M))) := by
  obtain ⟨i0, hi, hz0, hz1, hz2⟩ := info_parts iF
  obtain ⟨⟨v, hB, ho⟩, hY, hb, hne⟩ := L
  have hll : (l.map (flowAt M)).length = l.length := by simp
  rw [hll] at ho
  obtain ⟨ao, cap, rfl⟩ := own_shape ho
  obtain ⟨c0, f0, lB⟩ := var_cell hB
  obtain ⟨q0, q1, q2, q3, q4, -, -, -, -, -, qs⟩ := boxf hX
  rcases A.s.at_ with h0 | ⟨bs, os, rfl, hcs⟩
  · omega
  obtain ⟨s0, s1, s2, s3, s4, s5⟩ := hcs j hj
  have ls := cell_lt s0
  have hsl : slotAt M j = M.slots[j] := slotAt_lt hj
  generalize hM : M.slots[j] = s at s0 s1 s2 s3 s4 s5 hsl
  obtain ⟨r, ka, kb, u, i, nx⟩ := s
  dsimp only at s0 s1 s2 s3 s4 s5
  have HFl : Hid (flowAt M j = ⟨ka, kb, j, u⟩) := by unfold flowAt; rw [hsl]; rfl
  clear hM hsl hcs A hX
  have HB : Hid _ := hB
  have HY : Hid _ := hY
  have lY := lt_of_block hY
  clear hB hY
  have kB : (W.alloc (.cells #[.int .i64 r, .int .i64 ka, .int .i64 kb, .int .i64 u, .bool i, .int .i64 nx] 39)).heap[B]? = _ := (Below.heap_alloc W (.cells #[.int .i64 r, .int .i64 ka, .int .i64 kb, .int .i64 u, .bool i, .int .i64 nx] 39) B lB).trans HB.out
  have kY : (W.alloc (.cells #[.int .i64 r, .int .i64 ka, .int .i64 kb, .int .i64 u, .bool i, .int .i64 nx] 39)).heap[Y]? = _ := (Below.heap_alloc W (.cells #[.int .i64 r, .int .i64 ka, .int .i64 kb, .int .i64 u, .bool i, .int .i64 nx] 39) Y lY).trans HY.out
  have KB : Hid _ := kB
  have KY : Hid _ := kY
  clear kB kY
  have hb' := hb.alloc (Nat.le_of_lt lB) (.cells #[.int .i64 r, .int .i64 ka, .int .i64 kb, .int .i64 u, .bool i, .int .i64 nx] 39)
  have HN : Hid _ := four_new (W.alloc (.cells #[.int .i64 r, .int .i64 ka, .int .i64 kb, .int .i64 u, .bool i, .int .i64 nx] 39)) ⟨ka, kb, j, u⟩
  rw [show (W.alloc (.cells #[.int .i64 r, .int .i64 ka, .int .i64 kb, .int .i64 u, .bool i, .int .i64 nx] 39)).heap.size = W.heap.size + 1 by simp] at HN
  go_enter Try.func50, Try.ntmps50
  go_wp2_with (at_builtin; refine wpList_append_own_at _ rfl (.tmp 10) (.tmp 17) 29 rfl (B + 1) 42 i0 (.agg #[.int .i64 0, .int .i64 0, .int .i64 0, .int .i64 0]) 4 32 Try.underlying29 hi hz0 hz1 hz2 rfl (by decide) _ _ _ rfl ((ho.alloc _).alloc _) ⟨W.heap.size + 1, 0, none⟩ 1 1 (Fl.enc ⟨ka, kb, j, u⟩) rfl rfl HN.out (by intro x hx; simp only [Fl.enc, List.mem_cons, List.not_mem_nil, or_false] at hx; rcases hx with rfl | rfl | rfl | rfl <;> rfl) (by unfold maxLen; omega) (by omega) (by simp; omega) ?_; intro v2 w2 ho2 hg2 _ hloc2; obtain ⟨g2, cap2, rfl⟩ := ownsRow_form ho2 (by omega); have HL : Hid _ := Lst.step KB.out (ho.alloc _) KY.out hb' hne (by decide) (by decide) hg2 ho2; obtain ⟨d0, e0, lB2⟩ := var_cell (box_kept KB.out hg2 (own_ne (ho.alloc _) KB.out (by decide))); clear c0 f0 ho2 hg2 hloc2)
  go_end0
  refine ⟨rfl, ?_⟩
  have := HL.out
  rw [show encF (l.map (flowAt M) ++ [flowAt M (j : Int)]) = encF (l.map (flowAt M)) ++ Fl.enc ⟨ka, kb, j, u⟩ by simp [encF, HFl.out]]
  exact this

theorem fn72 : ∀ args W, (callFunc 50 args).run Try.prog W = .ok (.enter 50 args) W := fun _ _ => by kernel_rfl

set_option maxHeartbeats 3200000 in
theorem flows_any (M : Mm) (aS aH aF aL : Option Addr) (cS cH cF cL : Nat) (w : World) (A : At w aS aH aF aL cS cH cF cL M) :
    Calls Try.prog 11 #[.agg #[.slice aS M.slots.length cS, .slice aH M.heads.length cH, .slice aF M.free.length cF, .slice aL M.locks.length cL, .int .i64 M.now]] w fun e w' =>
      ∃ ao cap, e = .returned (.tuple #[.slice ao (flowsM M).length cap, .int .i64 (chkC M)]) ∧ FRow w' ao cap (flowsM M) ∧ Below w.heap.size w w' := by
  obtain ⟨E0, hE0⟩ : ∃ E0, E0 = chkC M := ⟨_, rfl⟩
  obtain ⟨L0, hL0⟩ : ∃ L0, L0 = flowsM M := ⟨_, rfl⟩
  rw [← hE0, ← hL0]
  have HE0 : Hid (E0 = chkC M) := hE0
  have HL0 : Hid (L0 = flowsM M) := hL0
  clear hE0 hL0
  obtain ⟨o1, ho1⟩ : ∃ o : Obj, o = .cells #[.slice aS M.slots.length cS, .slice aH M.heads.length cH, .slice aF M.free.length cF, .slice aL M.locks.length cL, .int .i64 M.now] 25 := ⟨_, rfl⟩
  have b0 : Below w.heap.size w (w.alloc o1) := one_below w o1
  have HB0 : Hid ((w.alloc o1).heap[w.heap.size]? = some o1) := heap_alloc_new _ _
  have HA : Hid (At w aS aH aF aL cS cH cF cL M) := A
  have HA0 : Hid _ := A.below b0
  clear A
  have hmf : ∀ (fn : Fn) (first cap : Array Value) (w : World), (Instr.makeFunc fn first cap).run Try.prog w = .ok (.func fn first cap) w := fun _ _ _ _ => rfl
  go_enter Try.func11, Try.ntmps11
  go_wp2_with fail
  rw [← ho1]
  generalize w.alloc o1 = W0 at *
  subst ho1
  refine (chainCheck_any M aS aH aF aL cS cH cF cL W0 HA0.out).mono ?_
  rintro e w1 ⟨rfl, hb1⟩
  have b1 := b0.trans (hb1.mono b0.size)
  have HB1 : Hid (w1.heap[w.heap.size]? = _) := (hb1.block w.heap.size (lt_of_block HB0.out)).trans HB0.out
  clear hb1 b0 HB0 HA0
  by_cases hE : chkC M = 0
  rotate_left
  · have h' : (chkC M != 0) = true := by simpa using hE
    have HV : Hid (E0 = chkC M ∧ L0 = []) := ⟨HE0.out, HL0.out.trans (by unfold flowsM; rw [if_neg hE])⟩
    clear HB1
    generalize chkC M = E at *
    go_wp2
    go_ret2
    exact ⟨none, 0, by rw [HV.out.1, HV.out.2]; rfl, by rw [HV.out.2]; exact frow_nil _, b1⟩
  have hokc := (chkC_zero M).1 hE
  have hok := hokc.ok
  have n0 := hok.ns
  have n1 := hok.nh
  have HV : Hid (E0 = 0 ∧ L0 = (allC M).map (flowAt M)) := ⟨HE0.out.trans hE, HL0.out.trans (by unfold flowsM; rw [if_pos hE])⟩
  rw [hE]
  clear hE HE0 HL0
  obtain ⟨q0, q1, q2, q3, q4, f0, f1, f2, f3, f4, qs⟩ := boxf HB1.out
  clear f0 f1 f2 f3 f4
  obtain ⟨B, hB⟩ : ∃ B, B = w1.heap.size := ⟨_, rfl⟩
  have HBe : Hid (B = w1.heap.size) := hB
  have HV1 : Hid ((w1.alloc (.cells #[.slice none 0 0] 29)).heap[B]? = some (.cells #[.slice none 0 0] 29)) := by rw [hB]; exact heap_alloc_new _ _
  have HX1 : Hid ((w1.alloc (.cells #[.slice none 0 0] 29)).heap[w.heap.size]? = some (.cells #[.slice aS M.slots.length cS, .slice aH M.heads.length cH, .slice aF M.free.length cF, .slice aL M.locks.length cL, .int .i64 M.now] 25 (0, 0))) := (Below.heap_alloc _ _ _ qs).trans HB1.out
  have b2 := b1.alloc b1.size (.cells #[.slice none 0 0] 29)
  have bX : w.heap.size < B := by rw [hB]; exact qs
  go_wp2
  rw [← hB]
  clear hB q0 q1 q2 q3 q4 HB1
  go_loopw [15] (fun i wr => ∃ b : Nat, b ≤ M.heads.length ∧ i = .int .i64 b ∧ (∃ v, Hid (wr.heap[B]? = some (.cells #[v] 29 (0, 0))) ∧ Hid (wr.ownsRow (B + 1) 42 4 v ((allTo M b).map (flowAt M)).length (encF ((allTo M b).map (flowAt M))))) ∧ Below w.heap.size w wr ∧ Hid (wr.heap[w.heap.size]? = some (.cells #[.slice aS M.slots.length cS, .slice aH M.heads.length cH, .slice aF M.free.length cF, .slice aL M.locks.length cL, .int .i64 M.now] 25 (0, 0))))
    (fun i _ => M.heads.length - (intOf i).toNat)
  case atStart => exact ⟨0, Nat.zero_le _, rfl, ⟨_, HV1, World.ownsRow_nil _ _ _ _⟩, b2, HX1⟩
  case round =>
    obtain ⟨b, hb, rfl, ⟨v, HVr, HOr⟩, hbw, HX⟩ := hrel
    clear HV1 HX1 b2 b1
    obtain ⟨q0, q1, q2, q3, q4, f0, f1, f2, f3, f4, qs'⟩ := boxf HX.out
    clear f0 f1 f2 f3 f4
    have lB := lt_of_block HVr.out
    by_cases hlt : b < M.heads.length
    · have hal := allTo_len M b
      have hal2 : b * M.slots.length ≤ 4 * 12 := Nat.mul_le_mul (by omega) n0
      go_wp2_with fail
      have hst : Lst wr B wr.heap.size 29 42 4 #[.slice aS M.slots.length cS, .slice aH M.heads.length cH, .slice aF M.free.length cF, .slice aL M.locks.length cL, .int .i64 M.now] (wr.alloc (.cells #[.slice aS M.slots.length cS, .slice aH M.heads.length cH, .slice aF M.free.length cF, .slice aL M.locks.length cL, .int .i64 M.now] 25)) ((allTo M b ++ []).map (flowAt M)).length (encF ((allTo M b ++ []).map (flowAt M))) := by
        rw [List.append_nil]
        refine ⟨⟨v, (Below.heap_alloc _ _ _ lB).trans HVr.out, World.ownsRow.alloc HOr.out _⟩, heap_alloc_new _ _, (Below.refl _ _).alloc (by omega) _, by omega⟩
      refine (walk_any 50 #[.pointer (some ⟨w.heap.size, 0, none⟩), .pointer (some ⟨B, 0, none⟩)] M aS aH aF aL cS cH cF cL b wr hok hlt fn72 (fun l W => Lst wr B wr.heap.size 29 42 4 #[.slice aS M.slots.length cS, .slice aH M.heads.length cH, .slice aF M.free.length cF, .slice aL M.locks.length cL, .int .i64 M.now] W ((allTo M b ++ l).map (flowAt M)).length (encF ((allTo M b ++ l).map (flowAt M)))) hst (fun l W h => h.box) (fun l W h => HA.out.below (hbw.trans (h.below.mono (by omega)))) ?_).mono ?_
      · intro l a W hL ha hl
        have := app72 M aS aH aF aL cS cH cF cL _ _ w.heap.size _ _ _ _ a hL (by rw [List.length_append]; omega) ((hL.below.block w.heap.size bX).trans HX.out) (HA.out.below (hbw.trans (hL.below.mono (by omega)))) ha n0
        rw [List.append_assoc] at this
        exact this
      rintro e w2 ⟨rfl, hL2⟩
      rw [← allTo_succ] at hL2
      obtain ⟨⟨v2, hv2, ho2⟩, -, hb2, -⟩ := hL2
      have HV2 : Hid (w2.heap[B]? = some (.cells #[v2] 29 (0, 0))) := hv2
      have HO2 : Hid (w2.ownsRow (B + 1) 42 4 v2 ((allTo M (b + 1)).map (flowAt M)).length (encF ((allTo M (b + 1)).map (flowAt M)))) := ho2
      have hbx : Below w.heap.size w w2 := hbw.trans (hb2.mono (by omega))
      have HX2 : Hid (w2.heap[w.heap.size]? = some (.cells #[.slice aS M.slots.length cS, .slice aH M.heads.length cH, .slice aF M.free.length cF, .slice aL M.locks.length cL, .int .i64 M.now] 25 (0, 0))) := (hb2.block w.heap.size bX).trans HX.out
      clear hv2 ho2 hb2 hst HVr HOr HX hbw q0 q1 q2 q3 q4
      go_wp2
      go_roundw
      case rel => exact ⟨b + 1, by omega, by go_num, ⟨v2, HV2, HO2⟩, hbx, HX2⟩
      case measure => simp [intOf]; omega
    · obtain rfl : b = M.heads.length := by omega
      have hlen := allTo_len M M.heads.length
      have hal2 : M.heads.length * M.slots.length ≤ 4 * 12 := Nat.mul_le_mul (by omega) n0
      obtain ⟨ao, cap, rfl, hrow⟩ := FRow.of_own HOr.out (by rw [List.length_map]; omega)
      have HR : Hid (FRow wr ao cap ((allC M).map (flowAt M))) := hrow
      clear hrow
      obtain ⟨c0, -, lB'⟩ := var_cell HVr.out
      have hlm : ((allC M).map (flowAt M)).length = ((allTo M M.heads.length).map (flowAt M)).length := rfl
      clear HVr HOr
      go_wp2
      go_ret2
      refine ⟨ao, cap, ?_, ?_, hbw⟩
      · rw [HV.out.1, HV.out.2, hlm]
        simp
      · rw [HV.out.2]; exact HR.out


end Go.Proofs.Ytaekgadokcmkfab.mm

/- The contracts of link, cut and aheadOf, on memory of one's own. -/
namespace Go.Proofs.Ytaekgadokcmkfab.mm
open Go.ChangeShapes Go.WideShapes Go.ChangeAt Go.RowKit Go.Joins Go.Maps
set_option maxRecDepth 100000
set_option linter.unusedVariables false

def linkAt (M : Mm) (a : Nat) (b : Nat) : Mm := { M with slots := M.slots.set a { slotAt M a with next := headM M b, inn := true }, heads := M.heads.set b ((a : Int) + 1) }
theorem linkM_at (M : Mm) (a : Nat) : linkM M a = linkAt M a (ownB M a) := rfl

theorem encS_set2 (S : List Sl) (j : Nat) (h : j < S.length) (nx : Int) (i : Bool) : ((encS S).set (j * 6 + 5) (.int .i64 nx)).set (j * 6 + 4) (.bool i) = encS (S.set j { S[j] with next := nx, inn := i }) := by
  induction S generalizing j with
  | nil => simp at h
  | cons x S ih =>
    match j with
    | 0 => simp [encS_cons, Sl.enc]
    | j + 1 =>
      have := ih j (by simpa using h)
      rw [List.set_cons_succ, encS_cons, encS_cons, List.getElem_cons_succ, ← this]
      simp only [Sl.enc, List.cons_append, List.nil_append, show (j + 1) * 6 + 5 = j * 6 + 5 + 6 by omega, show (j + 1) * 6 + 4 = j * 6 + 4 + 6 by omega, List.set_cons_succ]
theorem encS_set5 (S : List Sl) (j : Nat) (h : j < S.length) (nx : Int) : (encS S).set (j * 6 + 5) (.int .i64 nx) = encS (S.set j { S[j] with next := nx }) := by
  induction S generalizing j with
  | nil => simp at h
  | cons x S ih =>
    match j with
    | 0 => simp [encS_cons, Sl.enc]
    | j + 1 =>
      have := ih j (by simpa using h)
      rw [List.set_cons_succ, encS_cons, encS_cons, List.getElem_cons_succ, ← this]
      simp only [Sl.enc, List.cons_append, List.nil_append, show (j + 1) * 6 + 5 = j * 6 + 5 + 6 by omega, List.set_cons_succ]
theorem encI_set (H : List Int) (b : Nat) (x : Int) : (encI H).set b (.int .i64 x) = encI (H.set b x) := by
  simp [encI, List.map_set]

set_option maxHeartbeats 1600000 in
theorem link_in (w : World) (B gS gH nS nH j b cS cH : Nat) (fv lv nv : Value) (x nx : Int) (i : Bool)
    (hB : w.heap[B]? = some (.cells #[.slice (some ⟨gS, 0, none⟩) nS cS, .slice (some ⟨gH, 0, none⟩) nH cH, fv, lv, nv] 25 (0, 0))) (hj : j < nS) (hb : b < nH) (hn : nS ≤ 12) (hh : nH ≤ 4) (d1 : B ≠ gS) (d2 : gS ≠ gH) (d3 : B ≠ gH) (l1 : gS < w.heap.size) (l2 : gH < w.heap.size)
    (c4 : w.cell? ⟨gS, j * 6 + 4, none⟩ = some (.bool i)) (c5 : w.cell? ⟨gS, j * 6 + 5, none⟩ = some (.int .i64 nx)) (fz : ∀ q, w.frozen? ⟨gS, q, none⟩ = false) (ch : w.cell? ⟨gH, b, none⟩ = some (.int .i64 x)) (fh : w.frozen? ⟨gH, b, none⟩ = false) :
    Calls Try.prog 56 #[.pointer (some ⟨B, 0, none⟩), .int .i64 b, .int .i64 j] w fun e w' => e = .returned (.tuple #[]) ∧
      w' = (((w.setCell ⟨gS, j * 6 + 5, none⟩ (.int .i64 x)).setCell ⟨gS, j * 6 + 4, none⟩ (.bool true)).setCell ⟨gH, b, none⟩ (.int .i64 ((j : Int) + 1))).drew := by
  obtain ⟨q0, q1, q2, q3, q4, -, -, -, -, -, qs⟩ := boxf hB
  clear hB
  go_enter Try.func56, Try.ntmps56
  go_wp2
  go_region_with (go_at_call 96; refine (toSlot_any _ _ (by omega) (by omega)).mono ?_; rintro e w1 ⟨rfl, rfl⟩)
  all_goals go_wp2
  all_goals go_end0
  all_goals exact ⟨rfl, rfl⟩

theorem link_now (M : Mm) (w : World) (B lo : Nat) (aS aH aF aL : Option Addr) (cS cH cF cL j b : Nat) (m : Mine w B lo aS aH aF aL cS cH cF cL M) (hok : Ok M) (hj : j < M.slots.length) (hb : b < M.heads.length) :
    Calls Try.prog 56 #[.pointer (some ⟨B, 0, none⟩), .int .i64 b, .int .i64 j] w fun e w' => e = .returned (.tuple #[]) ∧ Now w w' B lo (linkAt M j b) := by
  obtain ⟨gS, rfl, oS, lS, -, -⟩ := row_form m.c.s (by omega)
  obtain ⟨gH, rfl, oH, lH, -, -⟩ := row_form m.c.h (by omega)
  obtain ⟨c0, c1, c2, c3, c4, c5, fz⟩ := row_cells m.c.s hj
  obtain ⟨ch, fh⟩ := row_cell m.c.h hb
  have dj : gS ≠ gH := fun e => own_dj m.c.s m.c.h (by decide) gS rfl (by rw [e]; rfl)
  refine (link_in w B gS gH _ _ j b cS cH _ _ _ _ _ _ m.box hj hb hok.ns hok.nh.2 m.ne_s dj m.ne_h lS lH c4 c5 fz ch fh).mono ?_
  rintro e w' ⟨rfl, rfl⟩
  have hs : slotAt M j = M.slots[j] := slotAt_lt hj
  have hhd : headM M b = M.heads[b] := by simp [headM, List.getD_eq_getElem?_getD, hb]
  unfold linkAt
  rw [hs, hhd]
  have h5 := encS_set5 M.slots j hj M.heads[b]
  have h2 := encS_set2 M.slots j hj M.heads[b] true
  rw [h5] at h2
  have m2 := ((m.setS (j * 6 + 5) (.int .i64 M.heads[b]) _ h5).setS (j * 6 + 4) (.bool true) _ h2).setH b ((j : Int) + 1)
  have k2 : Kept w _ B lo := (((Kept.refl w B lo).setCell (j := j * 6 + 5) oS (.int .i64 M.heads[b])).setCell (j := j * 6 + 4) oS (.bool true)).setCell (j := b) oH (.int .i64 ((j : Int) + 1))
  generalize ((w.setCell ⟨gS, j * 6 + 5, none⟩ (.int .i64 M.heads[b])).setCell ⟨gS, j * 6 + 4, none⟩ (.bool true)).setCell ⟨gH, b, none⟩ (.int .i64 ((j : Int) + 1)) = W at *
  have hbl : Below W.heap.size W W.drew := (Below.refl _ _).drew
  exact ⟨rfl, _, _, _, _, _, _, _, _, m2.below hbl, k2.below hbl m2.c.lz⟩
theorem link_any (M : Mm) (w : World) (B lo : Nat) (aS aH aF aL : Option Addr) (cS cH cF cL j b : Nat) (m : Mine w B lo aS aH aF aL cS cH cF cL M) (hok : Ok M) (hj : j < M.slots.length) (hb : b < M.heads.length) :
    Calls Try.prog 56 #[.pointer (some ⟨B, 0, none⟩), .int .i64 b, .int .i64 j] w fun e w' => e = .returned (.tuple #[]) ∧ Done w w' B lo (linkAt M j b) := by
  refine (link_now M w B lo aS aH aF aL cS cH cF cL j b m hok hj hb).mono ?_
  rintro e w' ⟨rfl, h⟩
  exact ⟨rfl, h.done⟩


end Go.Proofs.Ytaekgadokcmkfab.mm

/- The contracts of cut, on memory of one's own, and of aheadOf. -/
namespace Go.Proofs.Ytaekgadokcmkfab.mm
open Go.ChangeShapes Go.WideShapes Go.ChangeAt Go.RowKit Go.Joins Go.Maps
set_option maxRecDepth 100000
set_option linter.unusedVariables false

set_option maxHeartbeats 800000 in
theorem cut_begin (w : World) (B gS gH nS nH j b cS cH : Nat) (fv lv nv : Value) (x nx ah : Int)
    (hB : w.heap[B]? = some (.cells #[.slice (some ⟨gS, 0, none⟩) nS cS, .slice (some ⟨gH, 0, none⟩) nH cH, fv, lv, nv] 25 (0, 0))) (hj : j < nS) (hb : b < nH) (hn : nS ≤ 12) (hh : nH ≤ 4) (ha : ah ≤ 0)
    (c5 : w.cell? ⟨gS, j * 6 + 5, none⟩ = some (.int .i64 nx)) (ch : w.cell? ⟨gH, b, none⟩ = some (.int .i64 x)) (fh : w.frozen? ⟨gH, b, none⟩ = false) :
    Calls Try.prog 89 #[.pointer (some ⟨B, 0, none⟩), .int .i64 b, .int .i64 ah, .int .i64 j] w fun e w' => e = .returned (.tuple #[]) ∧ w' = w.setCell ⟨gH, b, none⟩ (.int .i64 nx) := by
  obtain ⟨q0, q1, q2, q3, q4, -, -, -, -, -, qs⟩ := boxf hB
  clear hB
  go_enter Try.func89, Try.ntmps89
  go_wp2_with (go_at_call 92; refine (slotOf_no _ _ ha).mono ?_; rintro e w1 ⟨rfl, rfl⟩)
  go_end0
  exact ⟨rfl, rfl⟩

set_option maxHeartbeats 800000 in
theorem cut_mid (w : World) (B gS gH nS nH j b p cS cH : Nat) (fv lv nv : Value) (x nx px : Int)
    (hB : w.heap[B]? = some (.cells #[.slice (some ⟨gS, 0, none⟩) nS cS, .slice (some ⟨gH, 0, none⟩) nH cH, fv, lv, nv] 25 (0, 0))) (hj : j < nS) (hb : b < nH) (hn : nS ≤ 12) (hh : nH ≤ 4) (hp : p < nS)
    (c5 : w.cell? ⟨gS, j * 6 + 5, none⟩ = some (.int .i64 nx)) (d5 : w.cell? ⟨gS, p * 6 + 5, none⟩ = some (.int .i64 px)) (fz : w.frozen? ⟨gS, p * 6 + 5, none⟩ = false) (ch : w.cell? ⟨gH, b, none⟩ = some (.int .i64 x)) :
    Calls Try.prog 89 #[.pointer (some ⟨B, 0, none⟩), .int .i64 b, .int .i64 ((p : Int) + 1), .int .i64 j] w fun e w' => e = .returned (.tuple #[]) ∧ w' = w.setCell ⟨gS, p * 6 + 5, none⟩ (.int .i64 nx) := by
  obtain ⟨q0, q1, q2, q3, q4, -, -, -, -, -, qs⟩ := boxf hB
  clear hB
  go_enter Try.func89, Try.ntmps89
  go_wp2_with (go_at_call 92; refine (slotOf_is _ _ (by omega) (by omega)).mono ?_; rw [show (p : Int) + 1 - 1 = p by omega]; rintro e w1 ⟨rfl, rfl⟩)
  go_end0
  exact ⟨rfl, rfl⟩

theorem cut_now (M : Mm) (w : World) (B lo : Nat) (aS aH aF aL : Option Addr) (cS cH cF cL j b : Nat) (ah : Int) (m : Mine w B lo aS aH aF aL cS cH cF cL M) (hok : Ok M) (hj : j < M.slots.length) (hb : b < M.heads.length) (hah : ah ≤ M.slots.length) :
    Calls Try.prog 89 #[.pointer (some ⟨B, 0, none⟩), .int .i64 b, .int .i64 ah, .int .i64 j] w fun e w' => e = .returned (.tuple #[]) ∧ Now w w' B lo (cutM M b ah j) := by
  obtain ⟨gS, rfl, oS, lS, -, -⟩ := row_form m.c.s (by omega)
  obtain ⟨gH, rfl, oH, lH, -, -⟩ := row_form m.c.h (by omega)
  obtain ⟨c0, c1, c2, c3, c4, c5, fz⟩ := row_cells m.c.s hj
  obtain ⟨ch, fh⟩ := row_cell m.c.h hb
  have hs : slotAt M j = M.slots[j] := slotAt_lt hj
  by_cases ha : 0 < ah
  · obtain ⟨p, rfl⟩ : ∃ p : Nat, ah = (p : Int) + 1 := ⟨(ah - 1).toNat, by omega⟩
    have hp : p < M.slots.length := by omega
    obtain ⟨_, _, _, _, _, d5, _⟩ := row_cells m.c.s hp
    refine (cut_mid w B gS gH _ _ j b p cS cH _ _ _ _ _ _ m.box hj hb hok.ns hok.nh.2 hp c5 d5 (fz _) ch).mono ?_
    rintro e w' ⟨rfl, rfl⟩
    unfold cutM
    rw [if_pos ha, hs, show (p : Int) + 1 - 1 = p by omega, show slotAt M p = M.slots[p] from slotAt_lt hp, Int.toNat_natCast]
    exact ⟨rfl, _, _, _, _, _, _, _, _, m.setS _ _ _ (encS_set5 M.slots p hp _), (Kept.refl w B lo).setCell oS _⟩
  · refine (cut_begin w B gS gH _ _ j b cS cH _ _ _ _ _ _ m.box hj hb hok.ns hok.nh.2 (by omega) c5 ch fh).mono ?_
    rintro e w' ⟨rfl, rfl⟩
    unfold cutM
    rw [if_neg ha, hs]
    exact ⟨rfl, _, _, _, _, _, _, _, _, m.setH b _, (Kept.refl w B lo).setCell oH _⟩
theorem cut_any (M : Mm) (w : World) (B lo : Nat) (aS aH aF aL : Option Addr) (cS cH cF cL j b : Nat) (ah : Int) (m : Mine w B lo aS aH aF aL cS cH cF cL M) (hok : Ok M) (hj : j < M.slots.length) (hb : b < M.heads.length) (hah : ah ≤ M.slots.length) :
    Calls Try.prog 89 #[.pointer (some ⟨B, 0, none⟩), .int .i64 b, .int .i64 ah, .int .i64 j] w fun e w' => e = .returned (.tuple #[]) ∧ Done w w' B lo (cutM M b ah j) := by
  refine (cut_now M w B lo aS aH aF aL cS cH cF cL j b ah m hok hj hb hah).mono ?_
  rintro e w' ⟨rfl, h⟩
  exact ⟨rfl, h.done⟩

/- What is ahead: three variables that a function literal has caught. -/
structure Ahd (w0 : World) (P1 P2 P3 Y : Nat) (ob : Array Value) (W : World) (a la ah : Int) : Prop where
  p1 : W.heap[P1]? = some (.cells #[.int .i64 a] 3 (0, 0))
  p2 : W.heap[P2]? = some (.cells #[.int .i64 la] 3 (0, 0))
  p3 : W.heap[P3]? = some (.cells #[.int .i64 ah] 3 (0, 0))
  box : W.heap[Y]? = some (.cells ob 25 (0, 0))
  below : Below P1 w0 W

theorem Ahd.turn {w0 W : World} {P1 P2 P3 Y : Nat} {ob : Array Value} {a la ah la' : Int} (A : Ahd w0 P1 P2 P3 Y ob W a la ah) (d1 : P1 < P3) (d2 : P3 < P2) (d3 : P2 < Y) :
    Ahd w0 P1 P2 P3 Y ob (W.setCell ⟨P2, 0, none⟩ (.int .i64 la')) a la' ah := by
  refine ⟨(Below.heap_setCell _ _ _ _ (by dsimp only; omega)).trans A.p1, ?_, (Below.heap_setCell _ _ _ _ (by dsimp only; omega)).trans A.p3, (Below.heap_setCell _ _ _ _ (by dsimp only; omega)).trans A.box, A.below.setCell (by dsimp only; omega) _⟩
  have := block_setCell (i := 0) A.p2 (.int .i64 la')
  rw [this]; rfl
theorem Ahd.turn3 {w0 W : World} {P1 P2 P3 Y : Nat} {ob : Array Value} {a la ah ah' : Int} (A : Ahd w0 P1 P2 P3 Y ob W a la ah) (d1 : P1 < P3) (d2 : P3 < P2) (d3 : P2 < Y) :
    Ahd w0 P1 P2 P3 Y ob (W.setCell ⟨P3, 0, none⟩ (.int .i64 ah')) a la ah' := by
  refine ⟨(Below.heap_setCell _ _ _ _ (by dsimp only; omega)).trans A.p1, (Below.heap_setCell _ _ _ _ (by dsimp only; omega)).trans A.p2, ?_, (Below.heap_setCell _ _ _ _ (by dsimp only; omega)).trans A.box, A.below.setCell (by dsimp only; omega) _⟩
  have := block_setCell (i := 0) A.p3 (.int .i64 ah')
  rw [this]; rfl

theorem aheadF_snoc (a c : Int) : ∀ (l : List Int) (ah la : Int), aheadF a (l ++ [c]) ah la = if c == a then (match l.getLast? with | none => la | some p => p + 1) else aheadF a l ah la
  | [], ah, la => by simp [aheadF]
  | x :: l, ah, la => by
    simp only [List.cons_append, aheadF]
    rw [aheadF_snoc a c l]
    split
    · cases l with
      | nil => rfl
      | cons d l => simp [List.getLast?_cons]
    · rfl

theorem fn90 : ∀ args W, (callFunc 102 args).run Try.prog W = .ok (.enter 102 args) W := fun _ _ => by kernel_rfl

set_option maxHeartbeats 800000 in
theorem app90 (w0 W : World) (P1 P2 P3 Y : Nat) (ob : Array Value) (a : Int) (l : List Int) (j : Nat) (A : Ahd w0 P1 P2 P3 Y ob W a (lastN l) (aheadF a l 0 0)) (d1 : P1 < P3) (d2 : P3 < P2) (d3 : P2 < Y) (hj : j ≤ 12) :
    Calls Try.prog 102 #[.int .i64 j, .pointer (some ⟨P1, 0, none⟩), .pointer (some ⟨P2, 0, none⟩), .pointer (some ⟨P3, 0, none⟩)] W fun e W' => e = .returned (.tuple #[]) ∧ Ahd w0 P1 P2 P3 Y ob W' a (lastN (l ++ [(j : Int)])) (aheadF a (l ++ [(j : Int)]) 0 0) := by
  rw [lastN_snoc, aheadF_snoc]
  obtain ⟨c1, -, -⟩ := var_cell A.p1
  obtain ⟨c2, f2, z2⟩ := var_cell A.p2
  obtain ⟨c3, f3, z3⟩ := var_cell A.p3
  have HA : Hid _ := A
  clear A
  by_cases e : (j : Int) = a
  · rw [if_pos (by simpa using e)]
    have he : ((j : Int) == a) = true := by simpa using e
    have HE : Hid _ := (HA.out.turn3 (ah' := lastN l) d1 d2 d3).turn (la' := (j : Int) + 1) d1 d2 d3
    have HL : Hid ((match l.getLast? with | none => (0 : Int) | some p => p + 1) = lastN l) := rfl
    rw [HL.out]
    clear HA e HL
    generalize lastN l = ll at *
    go_enter Try.func102, Try.ntmps102
    go_wp2_with (go_at_call 96; refine (toSlot_any _ _ (by omega) (by omega)).mono ?_; rintro e w1 ⟨rfl, rfl⟩)
    go_end0
    exact ⟨rfl, HE.out⟩
  · rw [if_neg (by simpa using e)]
    have he : ((j : Int) == a) = false := by simpa using e
    have HE : Hid _ := HA.out.turn (la' := (j : Int) + 1) d1 d2 d3
    clear HA e
    go_enter Try.func102, Try.ntmps102
    go_wp2_with (go_at_call 96; refine (toSlot_any _ _ (by omega) (by omega)).mono ?_; rintro e w1 ⟨rfl, rfl⟩)
    go_end0
    exact ⟨rfl, HE.out⟩

set_option maxHeartbeats 1600000 in
theorem aheadOf_any (M : Mm) (aS aH aF aL : Option Addr) (cS cH cF cL b : Nat) (a : Int) (w : World) (A : At w aS aH aF aL cS cH cF cL M) (hok : Ok M) (hb : b < M.heads.length) :
    Calls Try.prog 90 #[.agg #[.slice aS M.slots.length cS, .slice aH M.heads.length cH, .slice aF M.free.length cF, .slice aL M.locks.length cL, .int .i64 M.now], .int .i64 b, .int .i64 a] w fun e w' => e = .returned (.int .i64 (aheadF a (chL M b) 0 0)) ∧ Below w.heap.size w w' := by
  obtain ⟨E0, hE0⟩ : ∃ E0, E0 = aheadF a (chL M b) 0 0 := ⟨_, rfl⟩
  rw [← hE0]
  have HE0 : Hid (E0 = aheadF a (chL M b) 0 0) := hE0
  clear hE0
  have n0 := hok.ns
  have hmf : ∀ (fn : Fn) (first cap : Array Value) (w : World), (Instr.makeFunc fn first cap).run Try.prog w = .ok (.func fn first cap) w := fun _ _ _ _ => rfl
  obtain ⟨o1, ho1⟩ : ∃ o : Obj, o = .cells #[.slice aS M.slots.length cS, .slice aH M.heads.length cH, .slice aF M.free.length cF, .slice aL M.locks.length cL, .int .i64 M.now] 25 := ⟨_, rfl⟩
  obtain ⟨o2, ho2⟩ : ∃ o : Obj, o = .cells #[.int .i64 a] 3 := ⟨_, rfl⟩
  obtain ⟨o3, ho3⟩ : ∃ o : Obj, o = .cells #[.int .i64 0] 3 := ⟨_, rfl⟩
  have b0 : Below w.heap.size w ((((w.alloc o1).alloc o2).alloc o3).alloc o3) := ((below_alloc2 w o1 o2).alloc (by simp; omega) o3).alloc (by simp; omega) o3
  have hP1 : ((((w.alloc o1).alloc o2).alloc o3).alloc o3).heap[w.heap.size + 1]? = some o2 := by
    rw [Below.heap_alloc _ _ _ (by simp), Below.heap_alloc _ _ _ (by simp)]
    have := heap_alloc_new (w.alloc o1) o2
    rwa [show (w.alloc o1).heap.size = w.heap.size + 1 by simp] at this
  have hP3 : ((((w.alloc o1).alloc o2).alloc o3).alloc o3).heap[w.heap.size + 2]? = some o3 := by
    rw [Below.heap_alloc _ _ _ (by simp)]
    have := heap_alloc_new ((w.alloc o1).alloc o2) o3
    rwa [show ((w.alloc o1).alloc o2).heap.size = w.heap.size + 2 by simp] at this
  have hP2 : ((((w.alloc o1).alloc o2).alloc o3).alloc o3).heap[w.heap.size + 3]? = some o3 := by
    have := heap_alloc_new (((w.alloc o1).alloc o2).alloc o3) o3
    rwa [show (((w.alloc o1).alloc o2).alloc o3).heap.size = w.heap.size + 3 by simp] at this
  have hZ : ((((w.alloc o1).alloc o2).alloc o3).alloc o3).heap.size = w.heap.size + 4 := by simp
  have HP1 : Hid _ := hP1
  have HP2 : Hid _ := hP2
  have HP3 : Hid _ := hP3
  have HZ : Hid _ := hZ
  clear hP1 hP2 hP3 hZ
  have HA : Hid (At w aS aH aF aL cS cH cF cL M) := A
  clear A
  go_enter Try.func90, Try.ntmps90
  go_wp2_with fail
  rw [← ho1, ← ho2, ← ho3]
  generalize (((w.alloc o1).alloc o2).alloc o3).alloc o3 = W0 at *
  subst ho1 ho2 ho3
  have z := HZ.out
  have hst : Ahd W0 (w.heap.size + 1) (w.heap.size + 3) (w.heap.size + 2) W0.heap.size #[.slice aS M.slots.length cS, .slice aH M.heads.length cH, .slice aF M.free.length cF, .slice aL M.locks.length cL, .int .i64 M.now] (W0.alloc (.cells #[.slice aS M.slots.length cS, .slice aH M.heads.length cH, .slice aF M.free.length cF, .slice aL M.locks.length cL, .int .i64 M.now] 25)) a (lastN []) (aheadF a [] 0 0) :=
    ⟨(Below.heap_alloc _ _ _ (by omega)).trans HP1.out, (Below.heap_alloc _ _ _ (by omega)).trans HP2.out, (Below.heap_alloc _ _ _ (by omega)).trans HP3.out, heap_alloc_new _ _, (Below.refl _ _).alloc (by omega) _⟩
  refine (walk_any 102 #[.pointer (some ⟨w.heap.size + 1, 0, none⟩), .pointer (some ⟨w.heap.size + 3, 0, none⟩), .pointer (some ⟨w.heap.size + 2, 0, none⟩)] M aS aH aF aL cS cH cF cL b W0 hok hb fn90 (fun l W => Ahd W0 (w.heap.size + 1) (w.heap.size + 3) (w.heap.size + 2) W0.heap.size #[.slice aS M.slots.length cS, .slice aH M.heads.length cH, .slice aF M.free.length cF, .slice aL M.locks.length cL, .int .i64 M.now] W a (lastN l) (aheadF a l 0 0)) hst (fun l W h => h.box) (fun l W h => HA.out.below (b0.trans (h.below.mono (by omega)))) ?_).mono ?_
  · intro l j W hL ha hl
    exact app90 _ _ _ _ _ _ _ _ _ j hL (by omega) (by omega) (by omega) (by omega)
  rintro e w1 ⟨rfl, hL1⟩
  have b1 : Below w.heap.size w w1 := b0.trans (hL1.below.mono (by omega))
  obtain ⟨c3, -, z3⟩ := var_cell hL1.p3
  rw [← HE0.out] at c3
  clear hL1 hst HP1 HP2 HP3 b0
  go_wp2
  go_ret
  exact ⟨rfl, b1⟩


end Go.Proofs.Ytaekgadokcmkfab.mm

/- The contract of chain.Linked where it can be linked: memory in rows that are one's own. -/
namespace Go.Proofs.Ytaekgadokcmkfab.mm
open Go.ChangeShapes Go.WideShapes Go.ChangeAt Go.RowKit Go.Joins Go.Maps
set_option maxRecDepth 100000
set_option linter.unusedVariables false

/- A value is memory, in rows that are one's own. -/
def AnsO (lo : Nat) (w : World) (v : Value) (M : Mm) : Prop :=
  ∃ aS aH aF aL cS cH cF cL, v = .agg #[.slice aS M.slots.length cS, .slice aH M.heads.length cH, .slice aF M.free.length cF, .slice aL M.locks.length cL, .int .i64 M.now] ∧ Rw w lo aS aH aF aL cS cH cF cL M

set_option maxHeartbeats 6400000 in
theorem linked_own (M : Mm) (aS aH aF aL : Option Addr) (cS cH cF cL : Nat) (a : Int) (w : World) (A : At w aS aH aF aL cS cH cF cL M) (h0 : linkE M a = 0) :
    Calls Try.prog 15 #[.agg #[.slice aS M.slots.length cS, .slice aH M.heads.length cH, .slice aF M.free.length cF, .slice aL M.locks.length cL, .int .i64 M.now], .int .i64 a] w fun e w' => ∃ v, e = .returned (.tuple #[v, .int .i64 0]) ∧ AnsO w.heap.size w' v (linkedM M a) ∧ Below w.heap.size w w' := by
  have m1 := A.s.max; have m2 := A.h.max; have m4 := A.l.max
  have n1 : M.slots.length ≤ 9223372036854775807 := by omega
  obtain ⟨E0, hE0⟩ : ∃ E0, E0 = linkE M a := ⟨_, rfl⟩
  obtain ⟨M1, hM1⟩ : ∃ M1, M1 = linkedM M a := ⟨_, rfl⟩
  rw [← hM1]
  have H0 : Hid (E0 = 0) := hE0.trans h0
  clear h0
  have HE0 : Hid (E0 = linkE M a) := hE0
  have HM1 : Hid (M1 = linkedM M a) := hM1
  clear hE0 hM1
  have bad : ∀ e : Int, e ≠ 0 → linkE M a = e → E0 = e ∧ M1 = m0 := fun e he h => ⟨HE0.out.trans h, HM1.out.trans (by unfold linkedM; rw [h, if_neg he])⟩
  have HBad : Hid _ := bad
  clear bad
  obtain ⟨o1, ho1⟩ : ∃ o : Obj, o = .cells #[.slice aS M.slots.length cS, .slice aH M.heads.length cH, .slice aF M.free.length cF, .slice aL M.locks.length cL, .int .i64 M.now] 25 := ⟨_, rfl⟩
  obtain ⟨o2, ho2⟩ : ∃ o : Obj, o = .cells #[.slice none 0 0, .slice none 0 0, .slice none 0 0, .slice none 0 0, .int .i64 0] 25 := ⟨_, rfl⟩
  have b0 : Below w.heap.size w ((w.alloc o1).alloc o2) := below_alloc2 w o1 o2
  have HB0 : Hid (((w.alloc o1).alloc o2).heap[w.heap.size]? = some o1) := by show _ = _; rw [Below.heap_alloc _ _ _ (by simp), heap_alloc_new]
  have HR0 : Hid (((w.alloc o1).alloc o2).heap[w.heap.size + 1]? = some o2) := by
    have := heap_alloc_new (w.alloc o1) o2
    rwa [show (w.alloc o1).heap.size = w.heap.size + 1 by simp] at this
  have HZ0 : Hid (((w.alloc o1).alloc o2).heap.size = w.heap.size + 2) := by show _ = _; simp
  have HA : Hid (At w aS aH aF aL cS cH cF cL M) := A
  have HA0 : Hid _ := A.below b0
  clear A
  go_enter Try.func15, Try.ntmps15
  go_wp2_with fail
  rw [← ho1, ← ho2]
  generalize (w.alloc o1).alloc o2 = W0 at *
  subst ho1 ho2
  refine (mapped_any M aS aH aF aL cS cH cF cL W0 HA0.out).mono ?_
  rintro e w1 ⟨vm, rfl, hmap, hb1⟩
  have b1 := b0.trans (hb1.mono b0.size)
  have HB1 : Hid (w1.heap[w.heap.size]? = _) := (hb1.block w.heap.size (lt_of_block HB0.out)).trans HB0.out
  have HR1 : Hid (w1.heap[w.heap.size + 1]? = _) := (hb1.block (w.heap.size + 1) (lt_of_block HR0.out)).trans HR0.out
  have HMap : Hid (MapIs M (chkC M) W0.heap.size w1 vm) := hmap
  clear hb1 b0 HB0 HR0 HA0 hmap
  by_cases hE : chkC M = 0
  rotate_left
  · have HV : Hid (E0 = chkC M ∧ M1 = m0) := HBad.out _ hE (by unfold linkE; rw [if_pos hE])
    exact absurd (HV.out.1.symm.trans H0.out) hE
  have HC : Hid (chkC M = 0) := hE
  have hokc := (chkC_zero M).1 hE
  have hok := hokc.ok
  have k0 := hok.ns
  have k1 := hok.nh
  obtain ⟨gm, rfl, hgm, hMA⟩ := HMap.out.2 hE
  have HMA : Hid (MapAt M w1 gm (allC M)) := hMA
  have lgm := hMA.lt
  rw [hE]
  clear hE hMA HMap
  obtain ⟨q0, q1, q2, q3, q4, f0, f1, f2, f3, f4, qs⟩ := boxf HB1.out
  clear f0 f1 f2 f3 f4
  go_wp2_with fail
  refine (isSlot_any aS aH aF aL _ _ _ _ cS cH cF cL _ _ w1 n1).mono ?_
  rintro e w2 ⟨rfl, hb2⟩
  have b2 := b1.trans (hb2.mono b1.size)
  have HB2 : Hid (w2.heap[w.heap.size]? = _) := (hb2.block w.heap.size qs).trans HB1.out
  have HR2 : Hid (w2.heap[w.heap.size + 1]? = _) := (hb2.block (w.heap.size + 1) (lt_of_block HR1.out)).trans HR1.out
  have HM2 : Hid (MapAt M w2 gm (allC M)) := MapAt.kept HMA.out (hb2.block gm lgm)
  clear hb2 b1 HB1 HR1 HMA q0 q1 q2 q3 q4 qs lgm
  cases hS : inB a 0 ((M.slots.length : Int) - 1)
  · have HV : Hid (E0 = 5 ∧ M1 = m0) := HBad.out 5 (by decide) (by unfold linkE; rw [if_neg (by simpa using HC.out), if_pos (show isSl M a = false from hS)])
    exact absurd (HV.out.1.symm.trans H0.out) (by decide)
  have HS : Hid (isSl M a = true) := hS
  obtain ⟨j, rfl, hj⟩ := (isSl_iff M a).1 hS
  clear hS
  have HA2 : Hid _ := HA.out.below b2
  rcases HA2.out.s.at_ with h0 | ⟨bs, os, rfl, hcs⟩
  · omega
  obtain ⟨s0, s1, s2, s3, s4, s5⟩ := hcs j hj
  have ls := cell_lt s0
  have hgood := slot_good (hok.slot _ (List.getElem_mem hj))
  have hsl : slotAt M j = M.slots[j] := slotAt_lt hj
  generalize hM : M.slots[j] = s at s0 s1 s2 s3 s4 s5 hsl hgood
  obtain ⟨r, ka, kb, u, i, nx⟩ := s
  dsimp only at s0 s1 s2 s3 s4 s5 hgood
  have HSL : Hid (slotAt M j = ⟨r, ka, kb, u, i, nx⟩) := hsl
  have HRf : Hid (refsM M j = r) := by show (slotAt M j).refs = r; rw [hsl]
  have HKy : Hid (keyAt M j = (ka, kb)) := by unfold keyAt; rw [hsl]; exact rfl
  have hkey := hgood.2.2.1
  have HK : Hid (keyB ka kb = true) := hkey
  clear hM hsl hcs hgood hkey
  obtain ⟨q0, q1, q2, q3, q4, f0, f1, f2, f3, f4, qs⟩ := boxf HB2.out
  obtain ⟨r0, r1, r2, r3, r4, g0, g1, g2, g3, g4, rs⟩ := boxf HR2.out
  clear f0 f1 f2 f3 f4
  by_cases hr : r = 0
  · subst hr
    have HV : Hid (E0 = 8 ∧ M1 = m0) := HBad.out 8 (by decide) (by unfold linkE; rw [if_neg (by simpa using HC.out), if_neg (by rw [HS.out]; simp), if_pos HRf.out])
    exact absurd (HV.out.1.symm.trans H0.out) (by decide)
  have hr' : (r == 0) = false := by simpa using hr
  have HRn : Hid (refsM M j ≠ 0) := by rw [HRf.out]; exact hr
  have b2s := b2.size
  have lgm2 := MapAt.lt HM2.out
  have hl := MapAt.look (MapAt.kept (w' := w2.alloc (.cells #[.int .i64 r, .int .i64 ka, .int .i64 kb, .int .i64 u, .bool i, .int .i64 nx] 39)) HM2.out (Below.heap_alloc _ _ _ lgm2)) HK.out
  cases hh : hasK M (allC M) (ka, kb)
  rotate_left
  · rw [hh] at hl
    have HV : Hid (E0 = 6 ∧ M1 = m0) := HBad.out 6 (by decide) (by unfold linkE; rw [if_neg (by simpa using HC.out), if_neg (by rw [HS.out]; simp), if_neg HRn.out, HKy.out, hh]; rfl)
    exact absurd (HV.out.1.symm.trans H0.out) (by decide)
  rw [hh] at hl
  have HV : Hid (E0 = 0 ∧ M1 = linkAt M j (ownB M j)) := by
    have : linkE M j = 0 := linkE_of hokc HS.out HRn.out (by rw [HKy.out]; exact hh)
    exact ⟨HE0.out.trans this, HM1.out.trans (by unfold linkedM; rw [this, if_pos rfl]; rfl)⟩
  have HBk : Hid (bucket ka kb M.heads.length = (ownB M j : Int)) := by
    show _ = _
    rw [ownB_eq hok j, HSL.out]
  have hob := ownB_lt hok j
  clear HE0 HM1 HBad hh HRn HKy HRf HSL
  obtain ⟨o5, ho5⟩ : ∃ o : Obj, o = .cells #[.int .i64 r, .int .i64 ka, .int .i64 kb, .int .i64 u, .bool i, .int .i64 nx] 39 := ⟨_, rfl⟩
  have b3 := b2.alloc b2.size o5
  have HB3 : Hid ((w2.alloc o5).heap[w.heap.size]? = _) := (Below.heap_alloc _ _ _ qs).trans HB2.out
  have HR3 : Hid ((w2.alloc o5).heap[w.heap.size + 1]? = _) := (Below.heap_alloc _ _ _ rs).trans HR2.out
  clear g0 g1 g2 g3 g4
  go_wp2_with fail
  rw [← ho5]
  rw [← ho5] at hl
  generalize w2.alloc o5 = W3 at *
  subst ho5
  clear hl HB2 HR2 HM2 b2 q0 q1 q2 q3 q4 r0 r1 r2 r3 r4 qs rs s0 s1 s2 s3 s4 s5
  refine (bucket_ok _ _ _ _ HK.out k1.1 k1.2).mono ?_
  rintro e w4 ⟨rfl, hb4⟩
  rw [HBk.out]
  have b4 := b3.trans (hb4.mono b3.size)
  have HB4 : Hid (w4.heap[w.heap.size]? = _) := (hb4.block w.heap.size (lt_of_block HB3.out)).trans HB3.out
  have HR4 : Hid (w4.heap[w.heap.size + 1]? = _) := (hb4.block (w.heap.size + 1) (lt_of_block HR3.out)).trans HR3.out
  have HA4 : Hid _ := HA.out.below b4
  clear hb4 b3 HB3 HR3
  generalize hcb : ownB M j = cb at *
  clear hcb
  obtain ⟨q0, q1, q2, q3, q4, f0, f1, f2, f3, f4, qs⟩ := boxf HB4.out
  go_wp2_with fail
  refine (copy_any M _ aH aF aL cS cH cF cL w4 HA4.out).mono ?_
  rintro e w5 ⟨gS, gH, gF, gL, kS, kH, kF, kL, rfl, c5, hb5⟩
  have b5 := b4.trans (hb5.mono b4.size)
  have HB5 : Hid (w5.heap[w.heap.size]? = _) := (hb5.block w.heap.size qs).trans HB4.out
  have HR5 : Hid (w5.heap[w.heap.size + 1]? = _) := (hb5.block (w.heap.size + 1) (lt_of_block HR4.out)).trans HR4.out
  have t4 := lt_of_block HR4.out
  have b4s := b4.size
  clear hb5 b4 HB4 HR4 HA4 q0 q1 q2 q3 q4 f0 f1 f2 f3 f4
  have m3 := hok.few
  have hMn : Mine (set5 w5 w.heap.size (.slice gS M.slots.length kS) (.slice gH M.heads.length kH) (.slice gF M.free.length kF) (.slice gL M.locks.length kL) (.int .i64 M.now)) w.heap.size w4.heap.size gS gH gF gL kS kH kF kL M :=
    ⟨set5_block HB5.out _ _ _ _ _, c5.set5 HB5.out _ _ _ _ _, m1, m2, by omega, m4⟩
  have b6 := b5.trans (set5_below w5 w.heap.size w.heap.size (.slice gS M.slots.length kS) (.slice gH M.heads.length kH) (.slice gF M.free.length kF) (.slice gL M.locks.length kL) (.int .i64 M.now) (Nat.le_refl _))
  have HR6 : Hid ((set5 w5 w.heap.size (.slice gS M.slots.length kS) (.slice gH M.heads.length kH) (.slice gF M.free.length kF) (.slice gL M.locks.length kL) (.int .i64 M.now)).heap[w.heap.size + 1]? = _) := (set5_other (by omega)).trans HR5.out
  have HMn : Hid _ := hMn
  obtain ⟨q0, q1, q2, q3, q4, f0, f1, f2, f3, f4, qs⟩ := boxf HB5.out
  clear hMn HB5 HR5 c5
  go_wp2_with fail
  rw [show ((((w5.setCell ⟨w.heap.size, 0, none⟩ (.slice gS M.slots.length kS)).setCell ⟨w.heap.size, 1, none⟩ (.slice gH M.heads.length kH)).setCell ⟨w.heap.size, 2, none⟩ (.slice gF M.free.length kF)).setCell ⟨w.heap.size, 3, none⟩ (.slice gL M.locks.length kL)).setCell ⟨w.heap.size, 4, none⟩ (.int .i64 M.now) = set5 w5 w.heap.size (.slice gS M.slots.length kS) (.slice gH M.heads.length kH) (.slice gF M.free.length kF) (.slice gL M.locks.length kL) (.int .i64 M.now) from rfl]
  clear q0 q1 q2 q3 q4 f0 f1 f2 f3 f4 qs b5
  generalize set5 w5 w.heap.size (.slice gS M.slots.length kS) (.slice gH M.heads.length kH) (.slice gF M.free.length kF) (.slice gL M.locks.length kL) (.int .i64 M.now) = W6 at *
  refine (link_now M W6 _ _ gS gH gF gL kS kH kF kL j cb HMn.out hok hj hob).mono ?_
  rintro e w7 ⟨rfl, aS', aH', aF', aL', cS', cH', cF', cL', m7, kept⟩
  have k7 := m7.box
  have HC7 : Hid (Rw w7 w4.heap.size aS' aH' aF' aL' cS' cH' cF' cL' (linkAt M j cb)) := m7.c
  clear m7
  have b7 : Below w.heap.size w w7 := b6.trans ⟨kept.os, kept.tape, kept.output, kept.size, fun k hk => kept.block k (by omega) (by omega)⟩
  have HR7 : Hid (w7.heap[w.heap.size + 1]? = _) := (kept.block (w.heap.size + 1) t4 (by omega)).trans HR6.out
  have HK7 : Hid _ := k7
  clear kept HR6 HMn b6 k7
  obtain ⟨r0, r1, r2, r3, r4, g0, g1, g2, g3, g4, rs⟩ := boxf HR7.out
  obtain ⟨q0, q1, q2, q3, q4, f0, f1, f2, f3, f4, qs⟩ := boxf HK7.out
  generalize hLM : linkAt M j cb = Mn at *
  clear hLM
  go_wp2
  refine bodyPost_ret (v := .tuple #[.agg #[.slice aS' Mn.slots.length cS', .slice aH' Mn.heads.length cH', .slice aF' Mn.free.length cF', .slice aL' Mn.locks.length cL', .int .i64 Mn.now], .int .i64 0]) (by simp [results, Try.results15, go_sem, r0, r1, r2, r3, r4]) rfl ⟨_, rfl, ?_, ?_⟩
  · rw [HV.out.2]
    obtain ⟨x1, x2, x3, x4, x5, x6, x7, x8⟩ := HC7.out.set5 HR7.out (.slice aS' Mn.slots.length cS') (.slice aH' Mn.heads.length cH') (.slice aF' Mn.free.length cF') (.slice aL' Mn.locks.length cL') (.int .i64 Mn.now)
    exact ⟨aS', aH', aF', aL', cS', cH', cF', cL', rfl, ⟨ownsRow_le x1 b4s, ownsRow_le x2 b4s, ownsRow_le x3 b4s, ownsRow_le x4 b4s, x5, x6, x7, Nat.le_trans b4s x8⟩⟩
  · exact b7.trans (set5_below w7 _ _ _ _ _ _ _ (by omega))


end Go.Proofs.Ytaekgadokcmkfab.mm

/- The contract of chain.Linked. -/
namespace Go.Proofs.Ytaekgadokcmkfab.mm
open Go.ChangeShapes Go.WideShapes Go.ChangeAt Go.RowKit Go.Joins Go.Maps
set_option maxRecDepth 100000
set_option linter.unusedVariables false

set_option maxHeartbeats 6400000 in
theorem linked_any (M : Mm) (aS aH aF aL : Option Addr) (cS cH cF cL : Nat) (a : Int) (w : World) (A : At w aS aH aF aL cS cH cF cL M) :
    Calls Try.prog 15 #[.agg #[.slice aS M.slots.length cS, .slice aH M.heads.length cH, .slice aF M.free.length cF, .slice aL M.locks.length cL, .int .i64 M.now], .int .i64 a] w fun e w' => ∃ v, e = .returned (.tuple #[v, .int .i64 (linkE M a)]) ∧ Ans w.heap.size w' v (linkedM M a) ∧ Below w.heap.size w w' := by
  have m1 := A.s.max; have m2 := A.h.max; have m4 := A.l.max
  have n1 : M.slots.length ≤ 9223372036854775807 := by omega
  obtain ⟨E0, hE0⟩ : ∃ E0, E0 = linkE M a := ⟨_, rfl⟩
  obtain ⟨M1, hM1⟩ : ∃ M1, M1 = linkedM M a := ⟨_, rfl⟩
  rw [← hE0, ← hM1]
  have HE0 : Hid (E0 = linkE M a) := hE0
  have HM1 : Hid (M1 = linkedM M a) := hM1
  clear hE0 hM1
  have bad : ∀ e : Int, e ≠ 0 → linkE M a = e → E0 = e ∧ M1 = m0 := fun e he h => ⟨HE0.out.trans h, HM1.out.trans (by unfold linkedM; rw [h, if_neg he])⟩
  have HBad : Hid _ := bad
  clear bad
  obtain ⟨o1, ho1⟩ : ∃ o : Obj, o = .cells #[.slice aS M.slots.length cS, .slice aH M.heads.length cH, .slice aF M.free.length cF, .slice aL M.locks.length cL, .int .i64 M.now] 25 := ⟨_, rfl⟩
  obtain ⟨o2, ho2⟩ : ∃ o : Obj, o = .cells #[.slice none 0 0, .slice none 0 0, .slice none 0 0, .slice none 0 0, .int .i64 0] 25 := ⟨_, rfl⟩
  have b0 : Below w.heap.size w ((w.alloc o1).alloc o2) := below_alloc2 w o1 o2
  have HB0 : Hid (((w.alloc o1).alloc o2).heap[w.heap.size]? = some o1) := by show _ = _; rw [Below.heap_alloc _ _ _ (by simp), heap_alloc_new]
  have HR0 : Hid (((w.alloc o1).alloc o2).heap[w.heap.size + 1]? = some o2) := by
    have := heap_alloc_new (w.alloc o1) o2
    rwa [show (w.alloc o1).heap.size = w.heap.size + 1 by simp] at this
  have HZ0 : Hid (((w.alloc o1).alloc o2).heap.size = w.heap.size + 2) := by show _ = _; simp
  have HA : Hid (At w aS aH aF aL cS cH cF cL M) := A
  have HA0 : Hid _ := A.below b0
  clear A
  go_enter Try.func15, Try.ntmps15
  go_wp2_with fail
  rw [← ho1, ← ho2]
  generalize (w.alloc o1).alloc o2 = W0 at *
  subst ho1 ho2
  refine (mapped_any M aS aH aF aL cS cH cF cL W0 HA0.out).mono ?_
  rintro e w1 ⟨vm, rfl, hmap, hb1⟩
  have b1 := b0.trans (hb1.mono b0.size)
  have HB1 : Hid (w1.heap[w.heap.size]? = _) := (hb1.block w.heap.size (lt_of_block HB0.out)).trans HB0.out
  have HR1 : Hid (w1.heap[w.heap.size + 1]? = _) := (hb1.block (w.heap.size + 1) (lt_of_block HR0.out)).trans HR0.out
  have HMap : Hid (MapIs M (chkC M) W0.heap.size w1 vm) := hmap
  clear hb1 b0 HB0 HR0 HA0 hmap
  by_cases hE : chkC M = 0
  rotate_left
  · have HV : Hid (E0 = chkC M ∧ M1 = m0) := HBad.out _ hE (by unfold linkE; rw [if_pos hE])
    have h' : (chkC M != 0) = true := by simpa using hE
    obtain ⟨r0, r1, r2, r3, r4, g0, g1, g2, g3, g4, rs⟩ := boxf HR1.out
    clear HB1 HR1 HMap
    generalize chkC M = E at *
    go_wp2
    refine bodyPost_ret (v := .tuple #[.agg #[.slice none 0 0, .slice none 0 0, .slice none 0 0, .slice none 0 0, .int .i64 0], .int .i64 E]) (by simp [results, Try.results15, go_sem, r0, r1, r2, r3, r4]) rfl ⟨_, by rw [HV.out.1], by rw [HV.out.2]; exact ans0 _ _, ?_⟩
    exact b1.trans (set5_below w1 _ _ _ _ _ _ _ (by omega))
  have HC : Hid (chkC M = 0) := hE
  have hokc := (chkC_zero M).1 hE
  have hok := hokc.ok
  have k0 := hok.ns
  have k1 := hok.nh
  obtain ⟨gm, rfl, hgm, hMA⟩ := HMap.out.2 hE
  have HMA : Hid (MapAt M w1 gm (allC M)) := hMA
  have lgm := hMA.lt
  rw [hE]
  clear hE hMA HMap
  obtain ⟨q0, q1, q2, q3, q4, f0, f1, f2, f3, f4, qs⟩ := boxf HB1.out
  clear f0 f1 f2 f3 f4
  go_wp2_with fail
  refine (isSlot_any aS aH aF aL _ _ _ _ cS cH cF cL _ _ w1 n1).mono ?_
  rintro e w2 ⟨rfl, hb2⟩
  have b2 := b1.trans (hb2.mono b1.size)
  have HB2 : Hid (w2.heap[w.heap.size]? = _) := (hb2.block w.heap.size qs).trans HB1.out
  have HR2 : Hid (w2.heap[w.heap.size + 1]? = _) := (hb2.block (w.heap.size + 1) (lt_of_block HR1.out)).trans HR1.out
  have HM2 : Hid (MapAt M w2 gm (allC M)) := MapAt.kept HMA.out (hb2.block gm lgm)
  clear hb2 b1 HB1 HR1 HMA q0 q1 q2 q3 q4 qs lgm
  cases hS : inB a 0 ((M.slots.length : Int) - 1)
  · have HV : Hid (E0 = 5 ∧ M1 = m0) := HBad.out 5 (by decide) (by unfold linkE; rw [if_neg (by simpa using HC.out), if_pos (show isSl M a = false from hS)])
    obtain ⟨r0, r1, r2, r3, r4, g0, g1, g2, g3, g4, rs⟩ := boxf HR2.out
    clear HB2 HR2 HM2
    go_wp2
    refine bodyPost_ret (v := .tuple #[.agg #[.slice none 0 0, .slice none 0 0, .slice none 0 0, .slice none 0 0, .int .i64 0], .int .i64 5]) (by simp [results, Try.results15, go_sem, r0, r1, r2, r3, r4]) rfl ⟨_, by rw [HV.out.1], by rw [HV.out.2]; exact ans0 _ _, ?_⟩
    exact b2.trans (set5_below w2 _ _ _ _ _ _ _ (by omega))
  have HS : Hid (isSl M a = true) := hS
  obtain ⟨j, rfl, hj⟩ := (isSl_iff M a).1 hS
  clear hS
  have HA2 : Hid _ := HA.out.below b2
  rcases HA2.out.s.at_ with h0 | ⟨bs, os, rfl, hcs⟩
  · omega
  obtain ⟨s0, s1, s2, s3, s4, s5⟩ := hcs j hj
  have ls := cell_lt s0
  have hgood := slot_good (hok.slot _ (List.getElem_mem hj))
  have hsl : slotAt M j = M.slots[j] := slotAt_lt hj
  generalize hM : M.slots[j] = s at s0 s1 s2 s3 s4 s5 hsl hgood
  obtain ⟨r, ka, kb, u, i, nx⟩ := s
  dsimp only at s0 s1 s2 s3 s4 s5 hgood
  have HSL : Hid (slotAt M j = ⟨r, ka, kb, u, i, nx⟩) := hsl
  have HRf : Hid (refsM M j = r) := by show (slotAt M j).refs = r; rw [hsl]
  have HKy : Hid (keyAt M j = (ka, kb)) := by unfold keyAt; rw [hsl]; exact rfl
  have hkey := hgood.2.2.1
  have HK : Hid (keyB ka kb = true) := hkey
  clear hM hsl hcs hgood hkey
  obtain ⟨q0, q1, q2, q3, q4, f0, f1, f2, f3, f4, qs⟩ := boxf HB2.out
  obtain ⟨r0, r1, r2, r3, r4, g0, g1, g2, g3, g4, rs⟩ := boxf HR2.out
  clear f0 f1 f2 f3 f4
  by_cases hr : r = 0
  · subst hr
    have HV : Hid (E0 = 8 ∧ M1 = m0) := HBad.out 8 (by decide) (by unfold linkE; rw [if_neg (by simpa using HC.out), if_neg (by rw [HS.out]; simp), if_pos HRf.out])
    clear HB2 HR2 HM2
    go_wp2
    refine bodyPost_ret (v := .tuple #[.agg #[.slice none 0 0, .slice none 0 0, .slice none 0 0, .slice none 0 0, .int .i64 0], .int .i64 8]) (by simp [results, Try.results15, go_sem, r0, r1, r2, r3, r4, rs]) rfl ⟨_, by rw [HV.out.1], by rw [HV.out.2]; exact ans0 _ _, ?_⟩
    exact (b2.trans (set5_below w2 _ _ _ _ _ _ _ (by omega))).alloc (by rw [set5_size]; exact b2.size) _
  have hr' : (r == 0) = false := by simpa using hr
  have HRn : Hid (refsM M j ≠ 0) := by rw [HRf.out]; exact hr
  have b2s := b2.size
  have lgm2 := MapAt.lt HM2.out
  have hl := MapAt.look (MapAt.kept (w' := w2.alloc (.cells #[.int .i64 r, .int .i64 ka, .int .i64 kb, .int .i64 u, .bool i, .int .i64 nx] 39)) HM2.out (Below.heap_alloc _ _ _ lgm2)) HK.out
  cases hh : hasK M (allC M) (ka, kb)
  rotate_left
  · rw [hh] at hl
    have HV : Hid (E0 = 6 ∧ M1 = m0) := HBad.out 6 (by decide) (by unfold linkE; rw [if_neg (by simpa using HC.out), if_neg (by rw [HS.out]; simp), if_neg HRn.out, HKy.out, hh]; rfl)
    clear HB2 HR2 HM2
    go_wp2
    refine bodyPost_ret (v := .tuple #[.agg #[.slice none 0 0, .slice none 0 0, .slice none 0 0, .slice none 0 0, .int .i64 0], .int .i64 6]) (by simp [results, Try.results15, go_sem, r0, r1, r2, r3, r4, rs]) rfl ⟨_, by rw [HV.out.1], by rw [HV.out.2]; exact ans0 _ _, ?_⟩
    exact (b2.trans (set5_below w2 _ _ _ _ _ _ _ (by omega))).alloc (by rw [set5_size]; exact b2.size) _
  rw [hh] at hl
  have HV : Hid (E0 = 0 ∧ M1 = linkAt M j (ownB M j)) := by
    have : linkE M j = 0 := linkE_of hokc HS.out HRn.out (by rw [HKy.out]; exact hh)
    exact ⟨HE0.out.trans this, HM1.out.trans (by unfold linkedM; rw [this, if_pos rfl]; rfl)⟩
  have HBk : Hid (bucket ka kb M.heads.length = (ownB M j : Int)) := by
    show _ = _
    rw [ownB_eq hok j, HSL.out]
  have hob := ownB_lt hok j
  clear HE0 HM1 HBad hh HRn HKy HRf HSL
  obtain ⟨o5, ho5⟩ : ∃ o : Obj, o = .cells #[.int .i64 r, .int .i64 ka, .int .i64 kb, .int .i64 u, .bool i, .int .i64 nx] 39 := ⟨_, rfl⟩
  have b3 := b2.alloc b2.size o5
  have HB3 : Hid ((w2.alloc o5).heap[w.heap.size]? = _) := (Below.heap_alloc _ _ _ qs).trans HB2.out
  have HR3 : Hid ((w2.alloc o5).heap[w.heap.size + 1]? = _) := (Below.heap_alloc _ _ _ rs).trans HR2.out
  clear g0 g1 g2 g3 g4
  go_wp2_with fail
  rw [← ho5]
  rw [← ho5] at hl
  generalize w2.alloc o5 = W3 at *
  subst ho5
  clear hl HB2 HR2 HM2 b2 q0 q1 q2 q3 q4 r0 r1 r2 r3 r4 qs rs s0 s1 s2 s3 s4 s5
  refine (bucket_ok _ _ _ _ HK.out k1.1 k1.2).mono ?_
  rintro e w4 ⟨rfl, hb4⟩
  rw [HBk.out]
  have b4 := b3.trans (hb4.mono b3.size)
  have HB4 : Hid (w4.heap[w.heap.size]? = _) := (hb4.block w.heap.size (lt_of_block HB3.out)).trans HB3.out
  have HR4 : Hid (w4.heap[w.heap.size + 1]? = _) := (hb4.block (w.heap.size + 1) (lt_of_block HR3.out)).trans HR3.out
  have HA4 : Hid _ := HA.out.below b4
  clear hb4 b3 HB3 HR3
  generalize hcb : ownB M j = cb at *
  clear hcb
  obtain ⟨q0, q1, q2, q3, q4, f0, f1, f2, f3, f4, qs⟩ := boxf HB4.out
  go_wp2_with fail
  refine (copy_any M _ aH aF aL cS cH cF cL w4 HA4.out).mono ?_
  rintro e w5 ⟨gS, gH, gF, gL, kS, kH, kF, kL, rfl, c5, hb5⟩
  have b5 := b4.trans (hb5.mono b4.size)
  have HB5 : Hid (w5.heap[w.heap.size]? = _) := (hb5.block w.heap.size qs).trans HB4.out
  have HR5 : Hid (w5.heap[w.heap.size + 1]? = _) := (hb5.block (w.heap.size + 1) (lt_of_block HR4.out)).trans HR4.out
  have t4 := lt_of_block HR4.out
  have b4s := b4.size
  clear hb5 b4 HB4 HR4 HA4 q0 q1 q2 q3 q4 f0 f1 f2 f3 f4
  have m3 := hok.few
  have hMn : Mine (set5 w5 w.heap.size (.slice gS M.slots.length kS) (.slice gH M.heads.length kH) (.slice gF M.free.length kF) (.slice gL M.locks.length kL) (.int .i64 M.now)) w.heap.size w4.heap.size gS gH gF gL kS kH kF kL M :=
    ⟨set5_block HB5.out _ _ _ _ _, c5.set5 HB5.out _ _ _ _ _, m1, m2, by omega, m4⟩
  have b6 := b5.trans (set5_below w5 w.heap.size w.heap.size (.slice gS M.slots.length kS) (.slice gH M.heads.length kH) (.slice gF M.free.length kF) (.slice gL M.locks.length kL) (.int .i64 M.now) (Nat.le_refl _))
  have HR6 : Hid ((set5 w5 w.heap.size (.slice gS M.slots.length kS) (.slice gH M.heads.length kH) (.slice gF M.free.length kF) (.slice gL M.locks.length kL) (.int .i64 M.now)).heap[w.heap.size + 1]? = _) := (set5_other (by omega)).trans HR5.out
  have HMn : Hid _ := hMn
  obtain ⟨q0, q1, q2, q3, q4, f0, f1, f2, f3, f4, qs⟩ := boxf HB5.out
  clear hMn HB5 HR5 c5
  go_wp2_with fail
  rw [show ((((w5.setCell ⟨w.heap.size, 0, none⟩ (.slice gS M.slots.length kS)).setCell ⟨w.heap.size, 1, none⟩ (.slice gH M.heads.length kH)).setCell ⟨w.heap.size, 2, none⟩ (.slice gF M.free.length kF)).setCell ⟨w.heap.size, 3, none⟩ (.slice gL M.locks.length kL)).setCell ⟨w.heap.size, 4, none⟩ (.int .i64 M.now) = set5 w5 w.heap.size (.slice gS M.slots.length kS) (.slice gH M.heads.length kH) (.slice gF M.free.length kF) (.slice gL M.locks.length kL) (.int .i64 M.now) from rfl]
  clear q0 q1 q2 q3 q4 f0 f1 f2 f3 f4 qs b5
  generalize set5 w5 w.heap.size (.slice gS M.slots.length kS) (.slice gH M.heads.length kH) (.slice gF M.free.length kF) (.slice gL M.locks.length kL) (.int .i64 M.now) = W6 at *
  refine (link_any M W6 _ _ gS gH gF gL kS kH kF kL j cb HMn.out hok hj hob).mono ?_
  rintro e w7 ⟨rfl, aS', aH', aF', aL', cS', cH', cF', cL', k7, A7, kept, hi7⟩
  have b7 : Below w.heap.size w w7 := b6.trans ⟨kept.os, kept.tape, kept.output, kept.size, fun k hk => kept.block k (by omega) (by omega)⟩
  have HR7 : Hid (w7.heap[w.heap.size + 1]? = _) := (kept.block (w.heap.size + 1) t4 (by omega)).trans HR6.out
  have HA7 : Hid _ := A7
  have HK7 : Hid _ := k7
  clear A7 kept HR6 HMn b6 k7
  obtain ⟨r0, r1, r2, r3, r4, g0, g1, g2, g3, g4, rs⟩ := boxf HR7.out
  obtain ⟨q0, q1, q2, q3, q4, f0, f1, f2, f3, f4, qs⟩ := boxf HK7.out
  generalize hLM : linkAt M j cb = Mn at *
  clear hLM
  go_wp2
  refine bodyPost_ret (v := .tuple #[.agg #[.slice aS' Mn.slots.length cS', .slice aH' Mn.heads.length cH', .slice aF' Mn.free.length cF', .slice aL' Mn.locks.length cL', .int .i64 Mn.now], .int .i64 0]) (by simp [results, Try.results15, go_sem, r0, r1, r2, r3, r4]) rfl ⟨_, by rw [HV.out.1], ?_, ?_⟩
  · rw [HV.out.2]
    have A8 := HA7.out.off hi7 t4 (fun k hk => set5_other (w := w7) (v0 := .slice aS' Mn.slots.length cS') (v1 := .slice aH' Mn.heads.length cH') (v2 := .slice aF' Mn.free.length cF') (v3 := .slice aL' Mn.locks.length cL') (v4 := .int .i64 Mn.now) hk)
    exact ⟨aS', aH', aF', aL', cS', cH', cF', cL', rfl, A8, hi7.mono b4s⟩
  · exact b7.trans (set5_below w7 _ _ _ _ _ _ _ (by omega))


end Go.Proofs.Ytaekgadokcmkfab.mm

/- The contract of chain.Without. -/
namespace Go.Proofs.Ytaekgadokcmkfab.mm
open Go.ChangeShapes Go.WideShapes Go.ChangeAt Go.RowKit Go.Joins Go.Maps
set_option maxRecDepth 100000
set_option linter.unusedVariables false

theorem aheadF_le {a N : Int} : ∀ (l : List Int) (ah la : Int), (∀ x ∈ l, x < N) → ah ≤ N → la ≤ N → aheadF a l ah la ≤ N
  | [], ah, la, _, h1, _ => h1
  | c :: l, ah, la, h, h1, h2 => by
    have hc := h c (by simp)
    simp only [aheadF]
    refine aheadF_le l _ _ (fun x hx => h x (by simp [hx])) ?_ (by omega)
    split
    · exact h2
    · exact h1

set_option maxHeartbeats 6400000 in
theorem without_any (M : Mm) (aS aH aF aL : Option Addr) (cS cH cF cL : Nat) (ka kb : Int) (w : World) (A : At w aS aH aF aL cS cH cF cL M) :
    Calls Try.prog 46 #[.agg #[.slice aS M.slots.length cS, .slice aH M.heads.length cH, .slice aF M.free.length cF, .slice aL M.locks.length cL, .int .i64 M.now], .agg #[.int .i64 ka, .int .i64 kb]] w fun e w' => ∃ v, e = .returned (.tuple #[v, .int .i64 (withoutN M ka kb), .int .i64 (withoutE M ka kb)]) ∧ Ans w.heap.size w' v (withoutM M ka kb) ∧ Below w.heap.size w w' := by
  have m1 := A.s.max; have m2 := A.h.max; have m4 := A.l.max
  obtain ⟨E0, hE0⟩ : ∃ E0, E0 = withoutE M ka kb := ⟨_, rfl⟩
  obtain ⟨N0, hN0⟩ : ∃ N0, N0 = withoutN M ka kb := ⟨_, rfl⟩
  obtain ⟨M1, hM1⟩ : ∃ M1, M1 = withoutM M ka kb := ⟨_, rfl⟩
  rw [← hE0, ← hM1, ← hN0]
  have HE0 : Hid (E0 = withoutE M ka kb) := hE0
  have HN0 : Hid (N0 = withoutN M ka kb) := hN0
  have HM1 : Hid (M1 = withoutM M ka kb) := hM1
  clear hE0 hM1 hN0
  have bad : ∀ e : Int, e ≠ 0 → withoutE M ka kb = e → E0 = e ∧ M1 = m0 ∧ N0 = 0 := fun e he h => ⟨HE0.out.trans h, HM1.out.trans (by unfold withoutM; rw [h, if_neg he]), HN0.out.trans (by unfold withoutN; rw [h, if_neg he])⟩
  have HBad : Hid _ := bad
  clear bad
  obtain ⟨o1, ho1⟩ : ∃ o : Obj, o = .cells #[.slice aS M.slots.length cS, .slice aH M.heads.length cH, .slice aF M.free.length cF, .slice aL M.locks.length cL, .int .i64 M.now] 25 := ⟨_, rfl⟩
  obtain ⟨o3, ho3⟩ : ∃ o : Obj, o = .cells #[.int .i64 ka, .int .i64 kb] 37 := ⟨_, rfl⟩
  obtain ⟨o2, ho2⟩ : ∃ o : Obj, o = .cells #[.slice none 0 0, .slice none 0 0, .slice none 0 0, .slice none 0 0, .int .i64 0] 25 := ⟨_, rfl⟩
  have b0 : Below w.heap.size w (((w.alloc o1).alloc o3).alloc o2) := (below_alloc2 w o1 o3).alloc (by simp; omega) o2
  have HB0 : Hid ((((w.alloc o1).alloc o3).alloc o2).heap[w.heap.size]? = some o1) := by show _ = _; rw [Below.heap_alloc _ _ _ (by simp; omega), Below.heap_alloc _ _ _ (by simp), heap_alloc_new]
  have HK0 : Hid ((((w.alloc o1).alloc o3).alloc o2).heap[w.heap.size + 1]? = some o3) := by
    show _ = _
    rw [Below.heap_alloc _ _ _ (by simp)]
    have := heap_alloc_new (w.alloc o1) o3
    rwa [show (w.alloc o1).heap.size = w.heap.size + 1 by simp] at this
  have HR0 : Hid ((((w.alloc o1).alloc o3).alloc o2).heap[w.heap.size + 2]? = some o2) := by
    have := heap_alloc_new ((w.alloc o1).alloc o3) o2
    rwa [show ((w.alloc o1).alloc o3).heap.size = w.heap.size + 2 by simp] at this
  have HZ0 : Hid ((((w.alloc o1).alloc o3).alloc o2).heap.size = w.heap.size + 3) := by show _ = _; simp
  have HA : Hid (At w aS aH aF aL cS cH cF cL M) := A
  have HA0 : Hid _ := A.below b0
  clear A
  go_enter Try.func46, Try.ntmps46
  go_wp2_with fail
  rw [← ho1, ← ho2, ← ho3]
  generalize ((w.alloc o1).alloc o3).alloc o2 = W0 at *
  subst ho1 ho2 ho3
  refine (mapped_any M aS aH aF aL cS cH cF cL W0 HA0.out).mono ?_
  rintro e w1 ⟨vm, rfl, hmap, hb1⟩
  have b1 := b0.trans (hb1.mono b0.size)
  have HB1 : Hid (w1.heap[w.heap.size]? = _) := (hb1.block w.heap.size (lt_of_block HB0.out)).trans HB0.out
  have HK1 : Hid (w1.heap[w.heap.size + 1]? = _) := (hb1.block (w.heap.size + 1) (lt_of_block HK0.out)).trans HK0.out
  have HR1 : Hid (w1.heap[w.heap.size + 2]? = _) := (hb1.block (w.heap.size + 2) (lt_of_block HR0.out)).trans HR0.out
  have HMap : Hid (MapIs M (chkC M) W0.heap.size w1 vm) := hmap
  clear hb1 b0 HB0 HR0 HA0 hmap HK0
  by_cases hE : chkC M = 0
  rotate_left
  · have HV : Hid (E0 = chkC M ∧ M1 = m0 ∧ N0 = 0) := HBad.out _ hE (by unfold withoutE; rw [if_pos hE])
    have h' : (chkC M != 0) = true := by simpa using hE
    obtain ⟨r0, r1, r2, r3, r4, g0, g1, g2, g3, g4, rs⟩ := boxf HR1.out
    clear HB1 HR1 HMap HK1
    generalize chkC M = E at *
    go_wp2
    refine bodyPost_ret (v := .tuple #[.agg #[.slice none 0 0, .slice none 0 0, .slice none 0 0, .slice none 0 0, .int .i64 0], .int .i64 0, .int .i64 E]) (by simp [results, Try.results46, go_sem, r0, r1, r2, r3, r4]) rfl ⟨_, by rw [HV.out.1, HV.out.2.2], by rw [HV.out.2.1]; exact ans0 _ _, ?_⟩
    exact b1.trans (set5_below w1 _ _ _ _ _ _ _ (by omega))
  have HC : Hid (chkC M = 0) := hE
  have hokc := (chkC_zero M).1 hE
  have hok := hokc.ok
  have n0 := hok.ns
  have n1 := hok.nh
  obtain ⟨gm, rfl, hgm, hMA⟩ := HMap.out.2 hE
  have HMA : Hid (MapAt M w1 gm (allC M)) := hMA
  have lgm := hMA.lt
  rw [hE]
  clear hE hMA HMap
  obtain ⟨q0, q1, q2, q3, q4, f0, f1, f2, f3, f4, qs⟩ := boxf HB1.out
  obtain ⟨p0, p1⟩ := keyf HK1.out
  clear f0 f1 f2 f3 f4
  cases hK : keyB ka kb
  · have HV : Hid (E0 = 3 ∧ M1 = m0 ∧ N0 = 0) := HBad.out 3 (by decide) (by unfold withoutE; rw [if_neg (by simpa using HC.out), if_pos hK])
    go_wp2_with fail
    refine (bucket_bad _ _ _ _ hK).mono ?_
    rintro e w2 ⟨rfl, hb2⟩
    have b2 := b1.trans (hb2.mono b1.size)
    have HR2 : Hid (w2.heap[w.heap.size + 2]? = _) := (hb2.block (w.heap.size + 2) (lt_of_block HR1.out)).trans HR1.out
    obtain ⟨r0, r1, r2, r3, r4, g0, g1, g2, g3, g4, rs⟩ := boxf HR2.out
    clear HB1 HR1 HR2 HMA HK1 q0 q1 q2 q3 q4 qs b1 hb2
    go_wp2
    refine bodyPost_ret (v := .tuple #[.agg #[.slice none 0 0, .slice none 0 0, .slice none 0 0, .slice none 0 0, .int .i64 0], .int .i64 0, .int .i64 3]) (by simp [results, Try.results46, go_sem, r0, r1, r2, r3, r4]) rfl ⟨_, by rw [HV.out.1, HV.out.2.2], by rw [HV.out.2.1]; exact ans0 _ _, ?_⟩
    exact b2.trans (set5_below w2 _ _ _ _ _ _ _ (by omega))
  have HK : Hid (keyB ka kb = true) := hK
  have hbi := bucket_in ka kb n1.1
  have HBk : Hid (bucket ka kb M.heads.length = (keyN M ka kb : Int)) := by
    show _ = _
    unfold keyN; omega
  have hob : keyN M ka kb < M.heads.length := by unfold keyN; omega
  clear hK hbi
  go_wp2_with fail
  refine (bucket_ok _ _ _ _ HK.out n1.1 n1.2).mono ?_
  rw [HBk.out]
  rintro e w2 ⟨rfl, hb2⟩
  have b2 := b1.trans (hb2.mono b1.size)
  have HB2 : Hid (w2.heap[w.heap.size]? = _) := (hb2.block w.heap.size qs).trans HB1.out
  have HK2 : Hid (w2.heap[w.heap.size + 1]? = _) := (hb2.block (w.heap.size + 1) (lt_of_block HK1.out)).trans HK1.out
  have HR2 : Hid (w2.heap[w.heap.size + 2]? = _) := (hb2.block (w.heap.size + 2) (lt_of_block HR1.out)).trans HR1.out
  have HM2 : Hid (MapAt M w2 gm (allC M)) := MapAt.kept HMA.out (hb2.block gm lgm)
  clear hb2 b1 HB1 HR1 HMA HK1 q0 q1 q2 q3 q4 qs lgm p0 p1
  obtain ⟨p0, p1⟩ := keyf HK2.out
  obtain ⟨r0, r1, r2, r3, r4, g0, g1, g2, g3, g4, rs⟩ := boxf HR2.out
  have hl := MapAt.look HM2.out HK.out
  cases hh : hasK M (allC M) (ka, kb)
  · rw [hh] at hl
    have HV : Hid (E0 = 5 ∧ M1 = m0 ∧ N0 = 0) := HBad.out 5 (by decide) (by unfold withoutE; rw [if_neg (by simpa using HC.out), if_neg (by rw [HK.out]; simp), if_pos hh])
    clear HB2 HR2 HM2 HK2
    generalize whoK M (allC M) (ka, kb) = wk at *
    go_wp2
    refine bodyPost_ret (v := .tuple #[.agg #[.slice none 0 0, .slice none 0 0, .slice none 0 0, .slice none 0 0, .int .i64 0], .int .i64 0, .int .i64 5]) (by simp [results, Try.results46, go_sem, r0, r1, r2, r3, r4]) rfl ⟨_, by rw [HV.out.1, HV.out.2.2], by rw [HV.out.2.1]; exact ans0 _ _, ?_⟩
    exact b2.trans (set5_below w2 _ _ _ _ _ _ _ (by omega))
  rw [hh] at hl
  have HV : Hid (E0 = 0 ∧ M1 = cutK M ka kb ∧ N0 = whoK M (allC M) (ka, kb)) := by
    have h : withoutE M ka kb = 0 := by unfold withoutE; rw [if_neg (by simpa using HC.out), if_neg (by rw [HK.out]; simp), if_neg (by rw [hh]; simp)]
    exact ⟨HE0.out.trans h, HM1.out.trans (by unfold withoutM; rw [h, if_pos rfl]), HN0.out.trans (by unfold withoutN; rw [h, if_pos rfl])⟩
  have hwho := hokc.allSlots _ (whoK_mem hh).1
  have hah : aheadF (whoK M (allC M) (ka, kb)) (chL M (keyN M ka kb)) 0 0 ≤ M.slots.length := aheadF_le _ _ _ (fun x hx => (hok.chIn hob x hx).2) (by omega) (by omega)
  have HCK : Hid (cutK M ka kb = cutM M (keyN M ka kb) (aheadF (whoK M (allC M) (ka, kb)) (chL M (keyN M ka kb)) 0 0) (whoK M (allC M) (ka, kb))) := rfl
  obtain ⟨j, hjw⟩ : ∃ j : Nat, whoK M (allC M) (ka, kb) = j := ⟨(whoK M (allC M) (ka, kb)).toNat, by omega⟩
  rw [hjw] at hl hwho hah HV HCK
  have hj : j < M.slots.length := by omega
  clear hjw HE0 HM1 HN0 HBad hh hwho
  generalize hcb : keyN M ka kb = cb at *
  clear hcb
  obtain ⟨q0, q1, q2, q3, q4, f0, f1, f2, f3, f4, qs⟩ := boxf HB2.out
  have HA2 : Hid _ := HA.out.below b2
  clear g0 g1 g2 g3 g4
  go_wp2_with fail
  clear hl HM2 p0 p1 r0 r1 r2 r3 r4
  refine (copy_any M aS aH aF aL cS cH cF cL w2 HA2.out).mono ?_
  rintro e w5 ⟨gS, gH, gF, gL, kS, kH, kF, kL, rfl, c5, hb5⟩
  have b5 := b2.trans (hb5.mono b2.size)
  have HB5 : Hid (w5.heap[w.heap.size]? = _) := (hb5.block w.heap.size qs).trans HB2.out
  have HR5 : Hid (w5.heap[w.heap.size + 2]? = _) := (hb5.block (w.heap.size + 2) rs).trans HR2.out
  have t2 := rs
  have b2s := b2.size
  clear hb5 b2 HB2 HR2 HA2 HK2 q0 q1 q2 q3 q4 f0 f1 f2 f3 f4 qs rs
  have m3 := hok.few
  have hMn : Mine (set5 w5 w.heap.size (.slice gS M.slots.length kS) (.slice gH M.heads.length kH) (.slice gF M.free.length kF) (.slice gL M.locks.length kL) (.int .i64 M.now)) w.heap.size w2.heap.size gS gH gF gL kS kH kF kL M :=
    ⟨set5_block HB5.out _ _ _ _ _, c5.set5 HB5.out _ _ _ _ _, m1, m2, by omega, m4⟩
  have b6 := b5.trans (set5_below w5 w.heap.size w.heap.size (.slice gS M.slots.length kS) (.slice gH M.heads.length kH) (.slice gF M.free.length kF) (.slice gL M.locks.length kL) (.int .i64 M.now) (Nat.le_refl _))
  have HR6 : Hid ((set5 w5 w.heap.size (.slice gS M.slots.length kS) (.slice gH M.heads.length kH) (.slice gF M.free.length kF) (.slice gL M.locks.length kL) (.int .i64 M.now)).heap[w.heap.size + 2]? = _) := (set5_other (by omega)).trans HR5.out
  have HMn : Hid _ := hMn
  obtain ⟨q0, q1, q2, q3, q4, f0, f1, f2, f3, f4, qs⟩ := boxf HB5.out
  clear hMn HB5 HR5 c5
  go_wp2_with fail
  rw [show ((((w5.setCell ⟨w.heap.size, 0, none⟩ (.slice gS M.slots.length kS)).setCell ⟨w.heap.size, 1, none⟩ (.slice gH M.heads.length kH)).setCell ⟨w.heap.size, 2, none⟩ (.slice gF M.free.length kF)).setCell ⟨w.heap.size, 3, none⟩ (.slice gL M.locks.length kL)).setCell ⟨w.heap.size, 4, none⟩ (.int .i64 M.now) = set5 w5 w.heap.size (.slice gS M.slots.length kS) (.slice gH M.heads.length kH) (.slice gF M.free.length kF) (.slice gL M.locks.length kL) (.int .i64 M.now) from rfl]
  clear q0 q1 q2 q3 q4 f0 f1 f2 f3 f4 qs b5
  generalize set5 w5 w.heap.size (.slice gS M.slots.length kS) (.slice gH M.heads.length kH) (.slice gF M.free.length kF) (.slice gL M.locks.length kL) (.int .i64 M.now) = W6 at *
  have A6 : At W6 gS gH gF gL kS kH kF kL M := HMn.out.at
  refine (aheadOf_any M _ _ _ _ _ _ _ _ cb j W6 A6 hok hob).mono ?_
  rintro e w7 ⟨rfl, hb7⟩
  have hMi : Mine w7 w.heap.size w2.heap.size gS gH gF gL kS kH kF kL M := HMn.out.below hb7
  have HMi : Hid _ := hMi
  have b7 := b6.trans (hb7.mono b6.size)
  have HR7 : Hid (w7.heap[w.heap.size + 2]? = _) := (hb7.block (w.heap.size + 2) (lt_of_block HR6.out)).trans HR6.out
  clear hMi hb7 b6 HR6 HMn A6
  generalize hag : aheadF (j : Int) (chL M cb) 0 0 = ag at *
  clear hag
  go_wp2_with fail
  refine (cut_any M w7 _ _ gS gH gF gL kS kH kF kL j cb ag HMi.out hok hj hob hah).mono ?_
  rw [← HCK.out]
  rintro e w8 ⟨rfl, aS', aH', aF', aL', cS', cH', cF', cL', k8, A8, kept, hi8⟩
  have b8 : Below w.heap.size w w8 := b7.trans ⟨kept.os, kept.tape, kept.output, kept.size, fun k hk => kept.block k (by omega) (by omega)⟩
  have HR8 : Hid (w8.heap[w.heap.size + 2]? = _) := (kept.block (w.heap.size + 2) t2 (by omega)).trans HR7.out
  have HA8 : Hid _ := A8
  have HK8 : Hid _ := k8
  clear A8 kept HR7 HMi b7 k8
  obtain ⟨r0, r1, r2, r3, r4, g0, g1, g2, g3, g4, rs⟩ := boxf HR8.out
  obtain ⟨q0, q1, q2, q3, q4, f0, f1, f2, f3, f4, qs⟩ := boxf HK8.out
  clear HCK
  generalize hLM : cutK M ka kb = Mn at *
  clear hLM
  go_wp2
  refine bodyPost_ret (v := .tuple #[.agg #[.slice aS' Mn.slots.length cS', .slice aH' Mn.heads.length cH', .slice aF' Mn.free.length cF', .slice aL' Mn.locks.length cL', .int .i64 Mn.now], .int .i64 j, .int .i64 0]) (by simp [results, Try.results46, go_sem, r0, r1, r2, r3, r4]) rfl ⟨_, by rw [HV.out.1, HV.out.2.2], ?_, ?_⟩
  · rw [HV.out.2.1]
    have A9 := HA8.out.off hi8 t2 (fun k hk => set5_other (w := w8) (v0 := .slice aS' Mn.slots.length cS') (v1 := .slice aH' Mn.heads.length cH') (v2 := .slice aF' Mn.free.length cF') (v3 := .slice aL' Mn.locks.length cL') (v4 := .int .i64 Mn.now) hk)
    exact ⟨aS', aH', aF', aL', cS', cH', cF', cL', rfl, A9, hi8.mono b2s⟩
  · exact b8.trans (set5_below w8 _ _ _ _ _ _ _ (by omega))


end Go.Proofs.Ytaekgadokcmkfab.mm

/- Lists of flows held against each other. -/
namespace Go.Proofs.Ytaekgadokcmkfab.mm
open Go.ChangeShapes Go.WideShapes Go.ChangeAt Go.RowKit
set_option maxRecDepth 100000
set_option linter.unusedVariables false

def flEq (x y : Fl) : Bool := x.a == y.a && (x.b == y.b && (x.slot == y.slot && x.unt == y.unt))
theorem flEq_iff (x y : Fl) : flEq x y = true ↔ x = y := by
  cases x; cases y; simp [flEq]
theorem flEq_refl (x : Fl) : flEq x x = true := (flEq_iff x x).2 rfl
def eqF (l1 l2 : List Fl) : Bool := l1.length == l2.length && (l1.zip l2).all fun p => flEq p.1 p.2
theorem eqF_iff (l1 l2 : List Fl) : eqF l1 l2 = true ↔ l1 = l2 := by
  induction l1 generalizing l2 with
  | nil => cases l2 <;> simp [eqF]
  | cons x l1 ih =>
    cases l2 with
    | nil => simp [eqF]
    | cons y l2 =>
      have := ih l2
      simp only [eqF, Bool.and_eq_true, beq_iff_eq] at this
      simp only [eqF, List.length_cons, List.zip_cons_cons, List.all_cons, Bool.and_eq_true, beq_iff_eq, flEq_iff, List.cons.injEq, ← this]
      constructor
      · rintro ⟨h1, h2, h3⟩; exact ⟨h2, by omega, h3⟩
      · rintro ⟨h1, h2, h3⟩; exact ⟨by omega, h1, h3⟩
theorem eqF_false {l1 l2 : List Fl} (h : l1 ≠ l2) : eqF l1 l2 = false := by
  rw [Bool.eq_false_iff]
  intro hh
  exact h ((eqF_iff _ _).1 hh)


theorem fequal (x y : Fl) (w : World) : (Op.equalIn 10000 42 (.agg #[.int .i64 x.a, .int .i64 x.b, .int .i64 x.slot, .int .i64 x.unt]) (.agg #[.int .i64 y.a, .int .i64 y.b, .int .i64 y.slot, .int .i64 y.unt])).run Try.prog w = .ok (flEq x y) w := by
  have u3 := Try.underlying3
  have a3 := Try.isAgg3
  have z3 := Try.sizeOf3
  have a37 := Try.isAgg37
  have z37 := Try.sizeOf37
  have k9 := kequal9
  have hS : Try.prog.underlying 42 = some (.struct (Try.prog.fieldsOf 42)) := by kernel_rfl
  have hp : Try.prog.stoodInHeld 42 = false := by kernel_rfl
  rw [show (10000 : Nat) = 9999 + 1 from rfl, run_equalIn_agg w 9999 42 _ _ hS hp]
  simp only [Program.fieldsOf, Try.underlying42]
  clear hS
  go_simp
  unfold flEq
  by_cases h1 : x.a = y.a <;> by_cases h2 : x.b = y.b <;> by_cases h3 : x.slot = y.slot <;> by_cases h4 : x.unt = y.unt <;> simp [h1, h2, h3, h4]

theorem eqF_ne {l1 l2 : List Fl} {k : Nat} (h1 : k < l1.length) (h2 : k < l2.length) (h : l1[k] ≠ l2[k]) : eqF l1 l2 = false :=
  eqF_false (by rintro rfl; exact h rfl)
theorem eqF_all {l1 l2 : List Fl} (hl : l1.length = l2.length) (h : ∀ j, j < l1.length → l1[j]? = l2[j]?) : eqF l1 l2 = true := by
  rw [eqF_iff]
  apply List.ext_getElem?
  intro j
  by_cases hj : j < l1.length
  · exact h j hj
  · rw [List.getElem?_eq_none (by omega), List.getElem?_eq_none (by omega)]

set_option maxHeartbeats 3200000 in
theorem equalF_any (a1 a2 : Option Addr) (c1 c2 : Nat) (l1 l2 : List Fl) (w : World) (r1 : FRow w a1 c1 l1) (r2 : FRow w a2 c2 l2) :
    Calls Try.prog 47 #[.slice a1 l1.length c1, .slice a2 l2.length c2] w fun e w' => e = .returned (.bool (eqF l1 l2)) ∧ Below w.heap.size w w' := by
  have m1 := r1.max; have m2 := r2.max
  have n1 : l1.length ≤ 9223372036854775807 := by omega
  have n2 : l2.length ≤ 9223372036854775807 := by omega
  by_cases hl : l1.length = l2.length
  rotate_left
  · have HV : Hid (eqF l1 l2 = false) := eqF_false (by rintro rfl; exact hl rfl)
    have hb : ((l1.length : Int) != (l2.length : Int)) = true := by rw [bne_iff_ne]; omega
    go_enter Try.func47, Try.ntmps47
    go_wp2
    go_ret
    exact ⟨ret_bool HV.out.symm, Below.refl _ _⟩
  · have HL : Hid (l1.length = l2.length) := hl
    have hb : ((l1.length : Int) != (l2.length : Int)) = false := by rw [hl]; simp
    clear hl
    have HZ1 : Hid _ := r1.at_
    have HZ2 : Hid _ := r2.at_
    clear r1 r2
    go_enter Try.func47, Try.ntmps47
    go_wp2
    go_loopw [13] (fun i wr => ∃ k q : Nat, k ≤ l1.length ∧ i = .int .i64 k ∧ wr = w.drewN q ∧ Hid (∀ j, j < k → l1[j]? = l2[j]?)) (fun i _ => l1.length - (intOf i).toNat)
    case atStart => exact ⟨0, 0, Nat.zero_le _, rfl, rfl, fun j hj => absurd hj (Nat.not_lt_zero _)⟩
    case round =>
      obtain ⟨k, q, hk, rfl, rfl, HE⟩ := hrel
      by_cases hlt : k < l1.length
      · have hlt2 : k < l2.length := by have := HL.out; omega
        rcases HZ1.out with h0 | ⟨b1, o1, rfl, hc1⟩
        · omega
        rcases HZ2.out with h0 | ⟨b2, o2, rfl, hc2⟩
        · omega
        obtain ⟨x0, x1, x2, x3⟩ := hc1 k hlt
        obtain ⟨y0, y1, y2, y3⟩ := hc2 k hlt2
        rw [← World.cell?_drewN (n := q)] at x0 x1 x2 x3 y0 y1 y2 y3
        clear hc1 hc2
        generalize hwq : w.drewN q = wq at x0 x1 x2 x3 y0 y1 y2 y3 ⊢
        have HWQ : Hid _ := hwq
        clear hwq
        generalize hx : l1[k] = x at x0 x1 x2 x3
        generalize hy : l2[k] = y at y0 y1 y2 y3
        have HX : Hid (l1[k] = x ∧ l2[k] = y) := ⟨hx, hy⟩
        clear hx hy
        have se := fequal x y
        cases hxy : flEq x y
        · have HV : Hid (eqF l1 l2 = false) := eqF_ne hlt hlt2 (by rw [HX.out.1, HX.out.2]; intro e; rw [e, flEq_refl] at hxy; cases hxy)
          go_wp2_with fail
          go_quiet (fail)
          go_wp2
          go_ret
          exact ⟨ret_bool HV.out.symm, by rw [← HWQ.out, World.drewN_drewN]; exact drewN_below _ _⟩
        · have HV : Hid (∀ j, j < k + 1 → l1[j]? = l2[j]?) := fun j hj => by
            by_cases e : j = k
            · subst e
              rw [List.getElem?_eq_getElem hlt, List.getElem?_eq_getElem hlt2, HX.out.1, HX.out.2, (flEq_iff x y).1 hxy]
            · exact HE.out j (by omega)
          go_wp2_with fail
          go_quiet (fail)
          go_wp2
          go_roundw
          case rel => exact ⟨k + 1, q + nq, by omega, by go_num, by rw [← HWQ.out, World.drewN_drewN], HV⟩
          case measure => simp [intOf]; omega
      · have HV : Hid (eqF l1 l2 = true) := eqF_all HL.out (fun j hj => HE.out j (by omega))
        go_wp2
        go_ret
        exact ⟨ret_bool HV.out.symm, drewN_below _ _⟩


end Go.Proofs.Ytaekgadokcmkfab.mm
