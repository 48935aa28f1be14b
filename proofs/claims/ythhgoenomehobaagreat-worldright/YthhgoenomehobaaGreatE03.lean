/- Parts. -/
import Derived.Test.YthhgoenomehobaaGreatE02
import Derived.BigRegion
import Derived.Deep.QuietTactic
import Derived.BigQuiet
import Derived.Lib.QuietBelow
import Derived.ArgAppend
import Derived.Maps.AppendAt
import Derived.Laws.AppendOwnNone
import Derived.Deep.RegionLaw
import Derived.Test.YthhgoenomehobaaGreatE01
namespace Go.Proofs.YthhgoenomehobaaGreat.mm
set_option maxRecDepth 100000
set_option linter.unusedVariables false
open Go.Value renaming int → Vi, slice → Vs
open Go.IntKind renaming i64 → Qi
section
open Go.ChangeShapes Go.WideShapes Go.ChangeAt Go.RowKit Go.Joins Go.Deep Go.Sort
variable {Xb : Ex}
def set6 (w : World) (g o : Nat) (s : Sl) : World :=
  (((((w.setCell ⟨g,o,none⟩ (Vi Qi s.refs)).setCell ⟨g,o + 1,none⟩ (Vi Qi s.a)).setCell ⟨g,o + 2,none⟩ (Vi Qi s.b)).setCell ⟨g,o + 3,none⟩ (Vi Qi s.unt)).setCell ⟨g,o + 4,none⟩ (.bool s.inn)).setCell ⟨g,o + 5,none⟩ (Vi Qi s.next)
theorem b9t (S : List Sl) (j : Nat) (h : j < S.length) (s : Sl) :
    ((((((encS S).set (j * 6) (Vi Qi s.refs)).set (j * 6 + 1) (Vi Qi s.a)).set (j * 6 + 2) (Vi Qi s.b)).set (j * 6 + 3) (Vi Qi s.unt)).set (j * 6 + 4) (.bool s.inn)).set (j * 6 + 5) (Vi Qi s.next) = encS (S.set j s):=by
  induction S generalizing j with
  | nil => simp at h
  | cons x S ih =>
    match j with
    | 0 => simp [a2g,Sl.enc]
    | j + 1 =>
      have:=ih j (by simpa using h)
      rw [List.set_cons_succ,a2g,a2g,<- this]
      simp only [Sl.enc,List.cons_append,List.nil_append,show (j + 1) * 6 = j * 6 + 6 by omega,show j * 6 + 6 + 1 = j * 6 + 1 + 6 by omega,show j * 6 + 6 + 2 = j * 6 + 2 + 6 by omega,show j * 6 + 6 + 3 = j * 6 + 3 + 6 by omega,show j * 6 + 6 + 4 = j * 6 + 4 + 6 by omega,show j * 6 + 6 + 5 = j * 6 + 5 + 6 by omega,List.set_cons_succ]
theorem b9r (S : List Sl) (j : Nat) (h : j < S.length) (r : Int) : (encS S).set (j * 6) (Vi Qi r) = encS (S.set j { S[j] with refs:=r }):=by
  induction S generalizing j with
  | nil => simp at h
  | cons x S ih =>
    match j with
    | 0 => simp [a2g,Sl.enc]
    | j + 1 =>
      have:=ih j (by simpa using h)
      rw [List.set_cons_succ,a2g,a2g,List.getElem_cons_succ,<- this]
      simp only [Sl.enc,List.cons_append,List.nil_append,show (j + 1) * 6 = j * 6 + 6 by omega,List.set_cons_succ]
theorem Mine.set6 {w : World} {B lo g j : Nat} {aH aF aL : Option Addr} {cS cH cF cL : Nat} {M : Mm} (m : Mine Xb w B lo (some ⟨g,0,none⟩) aH aF aL cS cH cF cL M) (h : j < M.slots.length) (s : Sl) :
    Mine Xb (mm.set6 w g (j * 6) s) B lo (some ⟨g,0,none⟩) aH aF aL cS cH cF cL { M with slots:=M.slots.set j s }:=by
  obtain ⟨hB,⟨hs,hh,f,l,hf,hl',fl,lz⟩,m1,m2,m3,m4⟩:=m
  have hg : (Value.slice (some ⟨g,0,none⟩) M.slots.length cS).ownBlock = some g:=rfl
  have ne : ∀ {v : Value} {n : Nat} {xs : List Value},w.ownsRow lo 3 1 v n xs->v.ownBlock ≠ some g:=fun h e => a4i h hs (by first | decide | exact Ex.ne _ _ (by decide)) g e hg
  have oth : ∀ {v : Value} {n : Nat} {xs : List Value},w.ownsRow lo 3 1 v n xs->(mm.set6 w g (j * 6) s).ownsRow lo 3 1 v n xs:=fun h => by
    have:=ne h
    unfold mm.set6
    iterate 6 (refine ownsRow_setCell_other ?_ this _)
    exact h
  have hne : B ≠ g:=fun e => own_ne hs hB (by first | decide | exact Ex.ne _ _ (by decide)) (by rw [hg,e])
  refine ⟨?_,⟨?_,oth hh,oth f,oth l,hf,hl',fl,by simp only [mm.set6,World.size_setCell]; exact lz⟩,by dsimp only; rw [List.length_set]; exact m1,m2,m3,m4⟩
  · dsimp only
    rw [List.length_set]
    unfold mm.set6
    repeat rw [Below.heap_setCell _ _ _ _ (by dsimp only; exact hne)]
    exact hB
  · dsimp only
    rw [List.length_set,<- b9t M.slots j h s]
    unfold mm.set6
    exact ((((((hs.stored _ _).1.stored _ _).1.stored _ _).1.stored _ _).1.stored _ _).1.stored _ _).1
theorem a3c {w : World} {lo g n cap : Nat} {S : List Sl} (h : w.ownsRow lo 64 6 (Vs (some ⟨g,0,none⟩) n cap) n (encS S)) {j : Nat} (hj : j < S.length) :
    w.cell? ⟨g,j * 6,none⟩ = some (Vi Qi S[j].refs)/\w.cell? ⟨g,j * 6 + 1,none⟩ = some (Vi Qi S[j].a)/\w.cell? ⟨g,j * 6 + 2,none⟩ = some (Vi Qi S[j].b) /\
    w.cell? ⟨g,j * 6 + 3,none⟩ = some (Vi Qi S[j].unt)/\w.cell? ⟨g,j * 6 + 4,none⟩ = some (.bool S[j].inn)/\w.cell? ⟨g,j * 6 + 5,none⟩ = some (Vi Qi S[j].next)/\∀ q,w.frozen? ⟨g,q,none⟩ = false:=by
  have hn : S.length * 6 = n * 6:=by rw [<- h.1,a4n]
  have e : ∀ q,q < 6->w.cell? ⟨g,j * 6 + q,none⟩ = (S[j].enc)[q]?:=fun q hq => by
    rw [h.cellAt _ (by omega),a9j S j q hj hq]
  exact ⟨e 0 (by omega),e 1 (by omega),e 2 (by omega),e 3 (by omega),e 4 (by omega),e 5 (by omega),fun q => h.frozenAt q⟩
theorem a4u {w : World} {lo g n cap : Nat} {l : List Int} (h : w.ownsRow lo 3 1 (Vs (some ⟨g,0,none⟩) n cap) n (encI l)) {j : Nat} (hj : j < l.length) :
    w.cell? ⟨g,j,none⟩ = some (Vi Qi l[j])/\w.frozen? ⟨g,j,none⟩ = false:=by
  have hn : l.length = n * 1:=by rw [<- h.1,a3u]
  exact ⟨by rw [h.cellAt _ (by omega)]; simp [encI,hj],h.frozenAt j⟩
theorem a1b {w : World} {lo size n cap : Nat} {ao : Option Addr} {e : TypeId} {xs : List Value} (h : w.ownsRow lo e size (Vs ao n cap) n xs) (hn : 0 < n) : ∃ g,ao = some ⟨g,0,none⟩/\lo<=g/\g < w.heap.size/\n<=cap/\cap<=9223372036854775807:=by
  rcases h.2 with ⟨_,h0⟩ | ⟨g,cap',cur,hv,hg,hb,hc,hm,_⟩
  · omega
  · injection hv with h1 _ h3
    subst h1 h3
    exact ⟨g,rfl,hg,lt_of_block hb,hc,by unfold maxLen at hm; exact hm⟩
set_option maxHeartbeats 1600000 in
theorem take_in (w : World) (B lo gS gF n j cS cH cF cL : Nat) (aH aL : Option Addr) (M : Mm) (ka kb u : Int)
    (m : Mine Xb w B lo (some ⟨gS,0,none⟩) aH (some ⟨gF,0,none⟩) aL cS cH cF cL M) (hF : M.free.length = n + 1) (hj : j < M.slots.length) (hx : M.free[n]'(by omega) = j) (hn : n + 1<=cF) (hc : cF<=9223372036854775807) :
    Calls Tryz.prog 203 #[.pointer (some ⟨B,0,none⟩),.agg #[Vi Qi ka,Vi Qi kb],Vi Qi u] w fun e w' => e = .returned (.tuple #[Vi Qi j,.bool true]) /\
      ∃ w1,Below w.heap.size w w1/\w' = (mm.set6 (w1.setCell ⟨B,2,none⟩ (Vs (some ⟨gF,0,none⟩) n cF)) gS (j * 6) ⟨1,ka,kb,u,false,M.slots[j].next⟩).drew:=by
  have hn' : n<=cF:=by omega
  have hS : M.slots.length<=9223372036854775807:=by have:=m.m1; omega
  have hv : inB (j : Int) 0 ((M.slots.length : Int) - 1) = true:=(a0h _ _ _).2 (by omega)
  have HHs : Hid (∀ W : World,Calls Tryz.prog 111 #[.agg #[Vs (some ⟨gS,0,none⟩) M.slots.length cS,Vs aH M.heads.length cH,Vs (some ⟨gF,0,none⟩) M.free.length cF,Vs aL M.a0b.length cL,Vi Qi M.now],Vi Qi j] W fun e w' => e = .returned (.bool true)/\Below W.heap.size W w'):=fun W => hv ▸ a2m _ aH _ aL _ _ _ _ cS cH cF cL M.now j W hS
  obtain ⟨s,hs⟩ : ∃ s,s = M.slots[j]:=⟨_,rfl⟩
  have HS : Hid (M.slots[j] = s):=hs.symm
  have HX : Hid (∀ W,Mine Xb W B lo (some ⟨gS,0,none⟩) aH (some ⟨gF,0,none⟩) aL cS cH cF cL M->(W.cell? ⟨gS,j * 6,none⟩ = some (Vi Qi s.refs)/\W.cell? ⟨gS,j * 6 + 1,none⟩ = some (Vi Qi s.a)/\W.cell? ⟨gS,j * 6 + 2,none⟩ = some (Vi Qi s.b)/\W.cell? ⟨gS,j * 6 + 3,none⟩ = some (Vi Qi s.unt)/\W.cell? ⟨gS,j * 6 + 4,none⟩ = some (.bool s.inn)/\W.cell? ⟨gS,j * 6 + 5,none⟩ = some (Vi Qi s.next)/\∀ q,W.frozen? ⟨gS,q,none⟩ = false)/\W.cell? ⟨gF,n,none⟩ = some (Vi Qi j)):=fun W m' => by
    have:=(a4u m'.c.f (j:=n) (by omega)).1
    rw [hx] at this
    rw [hs]
    exact ⟨a3c m'.c.s hj,this⟩
  have HD : Hid (∀ W,Mine Xb W B lo (some ⟨gS,0,none⟩) aH (some ⟨gF,0,none⟩) aL cS cH cF cL M->B ≠ gS/\B ≠ gF/\gS < W.heap.size/\gF < W.heap.size/\W.heap[B]? = some (.cells (List.toArray (Vs (some ⟨gS,0,none⟩) M.slots.length cS :: Vs aH M.heads.length cH :: Vs (some ⟨gF,0,none⟩) M.free.length cF :: Vs aL M.a0b.length cL :: Vi Qi M.now :: Xb.rs)) Xb.rt (0,0))):=fun W m' =>
    ⟨(fun e => own_ne m'.c.s m'.box (by first | decide | exact Ex.ne _ _ (by decide)) (by rw [e]; rfl)),(fun e => own_ne m'.c.f m'.box (by first | decide | exact Ex.ne _ _ (by decide)) (by rw [e]; rfl)),(m'.c.s.lt _ rfl).2,(m'.c.f.lt _ rfl).2,m'.box⟩
  obtain ⟨ok,hok⟩ : ∃ o : Obj,o = .cells #[Vi Qi ka,Vi Qi kb] 30:=⟨_,rfl⟩
  have HM : Hid (Mine Xb (w.alloc ok) B lo (some ⟨gS,0,none⟩) aH (some ⟨gF,0,none⟩) aL cS cH cF cL M):=m.below (a0c _ _)
  have HB : Hid (Below w.heap.size w (w.alloc ok)):=a0c _ _
  have HK : Hid ((w.alloc ok).heap[w.heap.size]? = some (.cells #[Vi Qi ka,Vi Qi kb] 30 (0,0))):=hok ▸ heap_alloc_new w ok
  obtain ⟨-,-,-,-,hB⟩:=HD.out _ m
  obtain ⟨-,-,q2,-,-,-,-,-,-,-,qs⟩:=boxf hB
  rw [hF] at q2
  have hnl : n < M.free.length:=by omega
  have HFl : Hid (M.free.length = n + 1):=hF
  have HQ : Hid (w.heap.size ≠ B):=by show _ ≠ _; omega
  clear m hx hv hB hs hF
  go_enter Tryz.func203,Tryz.ntmps203
  go_wp2_with fail
  rw [<- hok]
  clear q2 qs
  generalize w.alloc ok = W0 at *
  clear hok
  obtain ⟨d1,d2,l1,l2,hB⟩:=HD.out _ HM.out
  obtain ⟨q0,q1,q2,q3,q4,-,-,-,-,-,qs⟩:=boxf hB
  obtain ⟨-,cx⟩:=HX.out _ HM.out
  have cB : ∀ (d : Nat) (os : Array Obj),Calls Tryz.prog 111 #[.agg #[Vs (some ⟨gS,0,none⟩) M.slots.length cS,Vs aH M.heads.length cH,Vs (some ⟨gF,0,none⟩) M.free.length cF,Vs aL M.a0b.length cL,Vi Qi M.now],Vi Qi j] (grow (redrawn W0 d) os) fun e w'' => e = .returned (.bool true)/\∃ p : Regrown,w'' = grow (redrawn W0 p.d) p.os:=fun d os => Calls.regrown_of (HHs.out _)
  have Q0:=cell_regrown q0; have Q1:=cell_regrown q1; have Q2:=cell_regrown q2; have Q3:=cell_regrown q3; have Q4:=cell_regrown q4; have QX:=cell_regrown cx
  clear q0 q1 q2 q3 q4 qs cx hB
  refine wp_region_quiet_below (by kernel_rfl) (by kernel_rfl) ?_
  repeat (quiet_step (first | exact cB _ _))
  refine wpQuiet_nil ?_
  intro _ hw'
  obtain ⟨⟨dq,osq⟩,hw''⟩:=hw'
  subst hw''
  have HB1 : Hid _:=below_regrown W0 dq osq
  generalize grow (redrawn W0 dq) osq = w1 at *
  clear cB Q0 Q1 Q2 Q3 Q4 QX d1 d2 l1 l2 HHs
  have HM1 : Hid (Mine Xb w1 B lo (some ⟨gS,0,none⟩) aH (some ⟨gF,0,none⟩) aL cS cH cF cL M):=HM.out.below HB1.out
  have HK1 : Hid (w1.heap[w.heap.size]? = some (.cells #[Vi Qi ka,Vi Qi kb] 30 (0,0))):=(HB1.out.block _ (lt_of_block HK.out)).trans HK.out
  have HB2 : Hid (Below w.heap.size w w1):=HB.out.trans (HB1.out.mono HB.out.size)
  clear HB1 HM HK HB
  have HM2 : Hid (Mine Xb (w1.setCell ⟨B,2,none⟩ (Vs (some ⟨gF,0,none⟩) n cF)) B lo (some ⟨gS,0,none⟩) aH (some ⟨gF,0,none⟩) aL cS cH cF cL { M with free:=M.free.take n }):=HM1.out.pop HFl.out
  have HK2 : Hid ((w1.setCell ⟨B,2,none⟩ (Vs (some ⟨gF,0,none⟩) n cF)).heap[w.heap.size]? = some (.cells #[Vi Qi ka,Vi Qi kb] 30 (0,0))):=(Below.heap_setCell _ _ _ _ (by dsimp only; exact HQ.out)).trans HK1.out
  have HW : Hid (∃ w2,Below w.heap.size w w2/\w1.setCell ⟨B,2,none⟩ (Vs (some ⟨gF,0,none⟩) n cF) = w2.setCell ⟨B,2,none⟩ (Vs (some ⟨gF,0,none⟩) n cF)):=⟨w1,HB2.out,rfl⟩
  obtain ⟨d1,d2,l1,l2,hB⟩:=HD.out _ HM1.out
  obtain ⟨q0,q1,q2,q3,q4,f0,f1,f2,f3,f4,qs⟩:=boxf hB
  obtain ⟨-,cx⟩:=HX.out _ HM1.out
  clear hB HD HX HM1 HK1 HB2
  go_wp2
  clear q0 q1 q2 q3 q4 f0 f1 f2 f3 f4 qs cx l1 l2
  generalize w1.setCell ⟨B,2,none⟩ (Vs (some ⟨gF,0,none⟩) n cF) = w2 at *
  obtain ⟨q0,-,-,-,-,-,-,-,-,-,qs⟩:=boxf HM2.out.box
  have l1 : gS < w2.heap.size:=(HM2.out.c.s.lt _ rfl).2
  obtain ⟨c0,c1,c2,c3,c4,c5,hfz⟩:=a3c HM2.out.c.s (j:=j) hj
  dsimp only at q0 c0 c1 c2 c3 c4 c5
  rw [HS.out] at c0 c1 c2 c3 c4 c5
  have k0 : w2.cell? ⟨w.heap.size,0,none⟩ = some (Vi Qi ka):=by rw [cell_of_block HK2.out]; rfl
  have k1 : w2.cell? ⟨w.heap.size,1,none⟩ = some (Vi Qi kb):=by rw [cell_of_block HK2.out]; rfl
  have ks:=lt_of_block HK2.out
  clear HM2 HK2 HQ HFl
  go_region
  all_goals go_wp2
  all_goals go_ret2
  all_goals
    obtain ⟨w3,h3,h4⟩:=HW.out
    subst h4
    exact ⟨rfl,w3,h3,by rw [HS.out]; rfl⟩
theorem take_no (w : World) (B : Nat) (sv hv lv nv : Value) (aF : Option Addr) (cF : Nat) (ka kb u : Int)
    (hB : w.heap[B]? = some (.cells (List.toArray (sv :: hv :: Vs aF 0 cF :: lv :: nv :: Xb.rs)) Xb.rt (0,0))) :
    Calls Tryz.prog 203 #[.pointer (some ⟨B,0,none⟩),.agg #[Vi Qi ka,Vi Qi kb],Vi Qi u] w fun e w' => e = .returned (.tuple #[Vi Qi 0,.bool false])/\Below w.heap.size w w':=by
  obtain ⟨q0,q1,q2,q3,q4,f0,f1,f2,f3,f4,qs⟩:=boxf hB
  clear hB
  go_enter Tryz.func203,Tryz.ntmps203
  go_wp2_with fail
  go_quiet (fail)
  go_wp2
  go_ret2
  exact ⟨rfl,(a0c _ _).trans ⟨rfl,rfl,rfl,Nat.le_refl _,fun _ _ => rfl⟩⟩
theorem Mine.ne_s {w : World} {B lo g : Nat} {aH aF aL : Option Addr} {cS cH cF cL : Nat} {M : Mm} (m : Mine Xb w B lo (some ⟨g,0,none⟩) aH aF aL cS cH cF cL M) : B ≠ g :=
  fun e => own_ne m.c.s m.box (by first | decide | exact Ex.ne _ _ (by decide)) (by rw [e]; rfl)
theorem Mine.ne_h {w : World} {B lo g : Nat} {aS aF aL : Option Addr} {cS cH cF cL : Nat} {M : Mm} (m : Mine Xb w B lo aS (some ⟨g,0,none⟩) aF aL cS cH cF cL M) : B ≠ g :=
  fun e => own_ne m.c.h m.box (by first | decide | exact Ex.ne _ _ (by decide)) (by rw [e]; rfl)
end
section
open Go.ChangeShapes Go.WideShapes Go.ChangeAt Go.RowKit Go.Joins
variable {Xb : Ex}
theorem hold_no (w : World) (B gS nS j cS : Nat) (hv fv lv nv : Value) (r : Int)
    (hB : w.heap[B]? = some (.cells (List.toArray (Vs (some ⟨gS,0,none⟩) nS cS :: hv :: fv :: lv :: nv :: Xb.rs)) Xb.rt (0,0))) (hj : j < nS) (c0 : w.cell? ⟨gS,j * 6,none⟩ = some (Vi Qi r)) (hr : r = 0\/r = 1000) :
    Calls Tryz.prog 201 #[.pointer (some ⟨B,0,none⟩),Vi Qi j] w fun e w' => e = .returned (.bool false)/\w = w':=by
  obtain ⟨q0,q1,q2,q3,q4,f0,f1,f2,f3,f4,qs⟩:=boxf hB
  clear hB
  rcases hr with rfl | rfl
  all_goals
    go_enter Tryz.func201,Tryz.ntmps201
    go_wp2
    go_ret
    exact ⟨rfl,rfl⟩
theorem hold_yes (w : World) (B gS nS j cS : Nat) (hv fv lv nv : Value) (r : Int)
    (hB : w.heap[B]? = some (.cells (List.toArray (Vs (some ⟨gS,0,none⟩) nS cS :: hv :: fv :: lv :: nv :: Xb.rs)) Xb.rt (0,0))) (hj : j < nS) (c0 : w.cell? ⟨gS,j * 6,none⟩ = some (Vi Qi r)) (f0 : w.frozen? ⟨gS,j * 6,none⟩ = false) (h0 : 0 < r) (h1 : r < 1000) :
    Calls Tryz.prog 201 #[.pointer (some ⟨B,0,none⟩),Vi Qi j] w fun e w' => e = .returned (.bool true)/\w.setCell ⟨gS,j * 6,none⟩ (Vi Qi (r + 1)) = w':=by
  obtain ⟨q0,q1,q2,q3,q4,-,-,-,-,-,qs⟩:=boxf hB
  clear hB
  have e0 : (r == 0) = false:=by rw [beq_eq_false_iff_ne]; omega
  have e1 : (r == 1000) = false:=by rw [beq_eq_false_iff_ne]; omega
  go_enter Tryz.func201,Tryz.ntmps201
  go_wp2
  go_ret
  exact ⟨rfl,rfl⟩
theorem put_no (w : World) (B gS nS j cS : Nat) (hv fv lv nv : Value)
    (hB : w.heap[B]? = some (.cells (List.toArray (Vs (some ⟨gS,0,none⟩) nS cS :: hv :: fv :: lv :: nv :: Xb.rs)) Xb.rt (0,0))) (hj : j < nS) (c0 : w.cell? ⟨gS,j * 6,none⟩ = some (Vi Qi 0)) :
    Calls Tryz.prog 197 #[.pointer (some ⟨B,0,none⟩),Vi Qi j] w fun e w' => e = .returned (.bool false)/\w = w':=by
  obtain ⟨q0,q1,q2,q3,q4,f0,f1,f2,f3,f4,qs⟩:=boxf hB
  clear hB
  go_enter Tryz.func197,Tryz.ntmps197
  go_wp2
  go_ret
  exact ⟨rfl,rfl⟩
theorem put_more (w : World) (B gS nS j cS : Nat) (hv fv lv nv : Value) (r : Int)
    (hB : w.heap[B]? = some (.cells (List.toArray (Vs (some ⟨gS,0,none⟩) nS cS :: hv :: fv :: lv :: nv :: Xb.rs)) Xb.rt (0,0))) (hj : j < nS) (c0 : w.cell? ⟨gS,j * 6,none⟩ = some (Vi Qi r)) (f0 : w.frozen? ⟨gS,j * 6,none⟩ = false) (h0 : 1 < r) (h1 : r<=1000) :
    Calls Tryz.prog 197 #[.pointer (some ⟨B,0,none⟩),Vi Qi j] w fun e w' => e = .returned (.bool true)/\w.setCell ⟨gS,j * 6,none⟩ (Vi Qi (r - 1)) = w':=by
  obtain ⟨q0,q1,q2,q3,q4,-,-,-,-,-,qs⟩:=boxf hB
  clear hB
  have e0 : (r == 0) = false:=by rw [beq_eq_false_iff_ne]; omega
  have e1 : (r - 1 == 0) = false:=by rw [beq_eq_false_iff_ne]; omega
  go_enter Tryz.func197,Tryz.ntmps197
  go_wp2
  go_ret
  exact ⟨rfl,rfl⟩
theorem b5g (w : World) (v : Value) (t : TypeId) (n : Nat) (hn : n = w.heap.size) : ∀ (j : Nat) (u : Value),([v] : List Value)[j]? = some u->(w.alloc (.cells #[v] t)).cell? ((⟨n,0,none⟩ : Addr).add j) = some u:=by
  subst hn
  intro j u hj
  match j,hj with
  | 0,hj => simp at hj; subst hj; simp [Addr.add]
theorem b9d {w w1 : World} {B gS o : Nat} {row : Option Nat} {u v : Value} {ob : Obj} (hg : ((w.setCell ⟨gS,o,none⟩ u).alloc ob).grownBy w1 row) (q2 : w.cell? ⟨B,2,none⟩ = some v) (f2 : w.frozen? ⟨B,2,none⟩ = false) (h1 : B ≠ gS) (h2 : row ≠ some B) (hB : B < w.heap.size) :
    w1.cell? ⟨B,2,none⟩ = some v/\w1.frozen? ⟨B,2,none⟩ = false:=by
  have hk : w1.heap[B]? = w.heap[B]?:=by
    rw [hg.block B (by simp; omega) (fun e => h2 e.symm),Below.heap_alloc _ _ _ (by simp; omega),Below.heap_setCell _ _ _ _ (by dsimp only; exact h1)]
  exact ⟨(World.cell?_of_block (a:=⟨B,2,none⟩) hk).trans q2,(World.frozen?_of_block (a:=⟨B,2,none⟩) hk).trans f2⟩
theorem clip_at (ao : Option Addr) (n cap : Nat) (w : World) (h : n<=cap) (hnil : ao = none->n = 0/\cap = 0) :
    Calls Tryz.prog 212 #[Vs ao n cap] w fun e w' => e = .returned (Vs ao n n)/\w = w':=by
  cases ao with
  | none =>
    obtain ⟨rfl,rfl⟩:=hnil rfl
    go_enter Tryz.func212,Tryz.ntmps212
    go_wp2
    go_ret
    exact ⟨rfl,rfl⟩
  | some ad =>
    go_enter Tryz.func212,Tryz.ntmps212
    go_wp2
    go_ret
    exact ⟨rfl,rfl⟩
theorem Mine.newF {w w1 : World} {B lo n : Nat} {aS aH aF aL a' : Option Addr} {cS cH cF cL c' : Nat} {M : Mm} (m : Mine Xb w B lo aS aH aF aL cS cH cF cL M) (F' : List Int) (hm : F'.length * 8<=140737488351000)
    (hb : Below w.heap.size w w1) (hn : F'.length = n) (ho : w1.ownsRow w.heap.size 3 1 (Vs a' n c') n (encI F')) :
    Mine Xb (w1.setCell ⟨B,2,none⟩ (Vs a' n c')) B lo aS aH a' aL cS cH c' cL { M with free:=F' }:=by
  subst hn
  have dh:=b3t m.c.h ho (Nat.le_refl _)
  have dl:=b3t m.c.l ho (Nat.le_refl _)
  obtain ⟨hB,⟨s,h,f,l,hf,hl,fl,lz⟩,m1,m2,m3,m4⟩:=m.below hb
  refine ⟨?_,⟨a2q s hB (by first | decide | exact Ex.ne _ _ (by decide)) _,a2q h hB (by first | decide | exact Ex.ne _ _ (by decide)) _,a2q (ownsRow_le ho m.c.lz) hB (by first | decide | exact Ex.ne _ _ (by decide)) _,a2q l hB (by first | decide | exact Ex.ne _ _ (by decide)) _,dh,hl,dl.symm,by rw [World.size_setCell]; exact lz⟩,m1,m2,hm,m4⟩
  have:=block_setCell (i:=2) hB (Vs a' F'.length c')
  simpa using this
set_option maxHeartbeats 1600000 in
theorem put_last (w : World) (B gS nS j cS cF : Nat) (aF : Option Addr) (F : List Int) (hv lv nv : Value)
    (hB : w.heap[B]? = some (.cells (List.toArray (Vs (some ⟨gS,0,none⟩) nS cS :: hv :: Vs aF F.length cF :: lv :: nv :: Xb.rs)) Xb.rt (0,0))) (hj : j < nS) (c0 : w.cell? ⟨gS,j * 6,none⟩ = some (Vi Qi 1)) (f0 : w.frozen? ⟨gS,j * 6,none⟩ = false)
    (hne : B ≠ gS) (hO : IRow (w.setCell ⟨gS,j * 6,none⟩ (Vi Qi 0)) aF cF F) (hm : F.length * 8<=140737488350000) :
    Calls Tryz.prog 197 #[.pointer (some ⟨B,0,none⟩),Vi Qi j] w fun e w' => e = .returned (.bool true)/\∃ a' c' w1,Below w.heap.size (w.setCell ⟨gS,j * 6,none⟩ (Vi Qi 0)) w1 /\
      w1.ownsRow w.heap.size 3 1 (Vs a' (F.length + 1) c') (F.length + 1) (encI (F ++ [(j : Int)]))/\w1.setCell ⟨B,2,none⟩ (Vs a' (F.length + 1) c') = w':=by
  obtain ⟨q0,q1,q2,q3,q4,-,-,f2,-,-,qs⟩:=boxf hB
  obtain ⟨i0,hi,hz0,hz1,hz2⟩:=info_parts iI
  have hne' : (⟨gS,j * 6,none⟩ : Addr) ≠ ⟨B,2,none⟩:=by intro h; injection h with h; omega
  have HO : Hid (IRow (w.setCell ⟨gS,j * 6,none⟩ (Vi Qi 0)) aF cF F):=hO
  have HN : Hid (aF = none->F.length = 0/\cF = 0):=fun h => ⟨by have:=HO.out.nil h; have:=HO.out.le; omega,HO.out.nil h⟩
  have HN2 : Hid (aF = none->F.length = 0/\F.length = 0):=fun h => ⟨(HN.out h).1,(HN.out h).1⟩
  have HSr : Hid (∀ ad,aF = some ad->∀ j' u,(encI F)[j']? = some u->((w.setCell ⟨gS,j * 6,none⟩ (Vi Qi 0)).alloc (.cells #[Vi Qi j] 3)).cell? (ad.add j') = some u):=(HO.out.below (a0c _ _)).src
  have HE : Hid ((encI F).length = F.length * 1):=by show _ = _; rw [a3u,Nat.mul_one]
  have HLe : Hid (F.length<=cF):=HO.out.le
  have HMx : Hid (F.length<=9223372036854775807):=by show _<=_; omega
  clear hB hO
  go_enter Tryz.func197,Tryz.ntmps197
  go_wp2_with (first
    | (go_at_call 212; refine (clip_at aF F.length cF _ HLe.out HN.out).mono ?_; rintro e w' ⟨rfl,rfl⟩)
    | (at_builtin; (refine wpList_append_grows _ rfl _ _ 23 rfl 3 i0 (Vi Qi 0) 1 8 Tryz.underlying23 hi hz0 hz1 hz2 rfl (by first | decide | exact Ex.ne _ _ (by decide)) aF F.length F.length (encI F) rfl HN2.out HE.out HSr.out ⟨w.heap.size,0,none⟩ 1 1 [Vi Qi j] rfl rfl (b5g _ _ _ _ (World.size_setCell ..).symm) (by intro u hu; simp at hu; subst hu; rfl) (by omega) (by unfold maxLen; omega) (by omega) ?_; intro v w1 hown1 hgrow1; obtain ⟨g,cap,rfl⟩:=ownsRow_form hown1 (by omega); have HO1 : Hid (w1.ownsRow ((w.setCell ⟨gS,j * 6,none⟩ (Vi Qi 0)).alloc (.cells #[Vi Qi j] 3)).heap.size 3 1 (Vs (some ⟨g,0,none⟩) (F.length + 1) cap) (F.length + 1) (encI F ++ [Vi Qi j])):=hown1; have HG1 : Hid (((w.setCell ⟨gS,j * 6,none⟩ (Vi Qi 0)).alloc (.cells #[Vi Qi j] 3)).grownBy w1 none):=hgrow1; clear hown1 hgrow1; obtain ⟨r2,r3⟩:=b9d HG1.out q2 f2 hne (by simp) qs)))
  go_ret
  refine ⟨rfl,_,_,w1,?_,?_,rfl⟩
  · exact ((Below.refl _ _).alloc (by simp) _).grown HG1.out (by simp) (fun k h => by cases h)
  · have:=ownsRow_le (base':=w.heap.size) HO1.out (by simp)
    rwa [show encI F ++ [Vi Qi (j : Int)] = encI (F ++ [(j : Int)]) by simp [encI]] at this
theorem b8g (M : Mm) (j : Nat) (hj : j < M.slots.length) (r : Int) : a2r M j r = M.slots.set j { M.slots[j] with refs:=r }:=by
  simp [a2r,List.getD_eq_getElem?_getD,hj]
theorem a9t (M : Mm) (j : Nat) (hj : j < M.slots.length) : a0s M j = M.slots[j].refs:=by
  simp [a0s,List.getD_eq_getElem?_getD,hj]
theorem c0h (M : Mm) (w : World) (B lo : Nat) (aS aH aF aL : Option Addr) (cS cH cF cL : Nat) (i : Int) (m : Mine Xb w B lo aS aH aF aL cS cH cF cL M) (h0 : 0<=i) (h1 : i < M.slots.length) (hr : a0s M i = 0\/a0s M i = 1000) :
    Calls Tryz.prog 201 #[.pointer (some ⟨B,0,none⟩),Vi Qi i] w fun e w' => e = .returned (.bool false)/\w = w':=by
  obtain ⟨j,rfl⟩ : ∃ j : Nat,i = j:=⟨i.toNat,by omega⟩
  have hj : j < M.slots.length:=by omega
  obtain ⟨gS,rfl,-,-,-,-⟩:=a1b m.c.s (by omega)
  rw [a9t M j hj] at hr
  exact hold_no w B gS _ j cS _ _ _ _ _ m.box hj (a3c m.c.s hj).1 hr
theorem put_fail (M : Mm) (w : World) (B lo : Nat) (aS aH aF aL : Option Addr) (cS cH cF cL : Nat) (i : Int) (m : Mine Xb w B lo aS aH aF aL cS cH cF cL M) (h0 : 0<=i) (h1 : i < M.slots.length) (hr : a0s M i = 0) :
    Calls Tryz.prog 197 #[.pointer (some ⟨B,0,none⟩),Vi Qi i] w fun e w' => e = .returned (.bool false)/\w = w':=by
  obtain ⟨j,rfl⟩ : ∃ j : Nat,i = j:=⟨i.toNat,by omega⟩
  have hj : j < M.slots.length:=by omega
  obtain ⟨gS,rfl,-,-,-,-⟩:=a1b m.c.s (by omega)
  rw [a9t M j hj] at hr
  exact put_no w B gS _ j cS _ _ _ _ m.box hj (hr ▸ (a3c m.c.s hj).1)
theorem turned {M : Mm} {w : World} {B lo g j : Nat} {aH aF aL : Option Addr} {cS cH cF cL : Nat} (m : Mine Xb w B lo (some ⟨g,0,none⟩) aH aF aL cS cH cF cL M) (hj : j < M.slots.length) (r : Int) :
    Mine Xb (w.setCell ⟨g,j * 6,none⟩ (Vi Qi r)) B lo (some ⟨g,0,none⟩) aH aF aL cS cH cF cL { M with slots:=a2r M j r }:=by
  rw [b8g M j hj r]
  exact m.setS _ _ _ (b9r M.slots j hj r)
end
section
open Go.ChangeShapes Go.WideShapes Go.ChangeAt Go.RowKit Go.Joins
theorem few : ∀ (n : Nat) (l : List Int),l.Nodup->(∀ a ∈ l,0<=a/\a < n)->l.length<=n
  | 0,l,hn,h => by
    match l,h with
    | [],_ => simp
    | a :: _,h => have:=h a (by simp); omega
  | n + 1,l,hn,h => by
    have h1:=few n (l.erase (n : Int)) (hn.erase _) (fun a ha => by
      have h3:=(hn.mem_erase_iff).1 ha
      have h4:=h a h3.2
      have h5:=h3.1
      omega)
    rw [List.length_erase] at h1
    split at h1 <;> omega
end
section
open Go.ChangeShapes Go.WideShapes Go.ChangeAt Go.RowKit
theorem c2v {S : List Sl} {k : Nat} {x : Int} (h : x<=0\/k = 0) : a3r S k x = []/\a5f S k x = x:=by
  cases k with
  | zero => exact ⟨rfl,rfl⟩
  | succ k =>
    have : ¬ 0 < x:=by omega
    simp [a3r,a5f,this]
theorem walk_go {S : List Sl} {k : Nat} {x : Int} (h : 0 < x) : a3r S (k + 1) x = (x - 1) :: a3r S k (a5v S x)/\a5f S (k + 1) x = a5f S k (a5v S x):=by
  simp [a3r,a5f,h]
set_option maxHeartbeats 3200000 in
theorem b6z (F : Nat) (caps : Array Value) (M : Mm) (aS aH aF aL : Option Addr) (cS cH cF cL b : Nat) (w : World) (hok : Ok M) (hb : b < M.heads.length) (hF : ∀ args W,(callFunc F args).run Tryz.prog W = .ok (.enter F args) W) (I : List Int->World->Prop)
    (start : I [] (w.alloc (.cells #[Vs aS M.slots.length cS,Vs aH M.heads.length cH,Vs aF M.free.length cF,Vs aL M.a0b.length cL,Vi Qi M.now] 25)))
    (box : ∀ l W,I l W->W.heap[w.heap.size]? = some (.cells #[Vs aS M.slots.length cS,Vs aH M.heads.length cH,Vs aF M.free.length cF,Vs aL M.a0b.length cL,Vi Qi M.now] 25 (0,0)))
    (at_ : ∀ l W,I l W->At W aS aH aF aL cS cH cF cL M)
    (step : ∀ l (a : Nat) W,I l W->a < M.slots.length->l.length < M.slots.length->Calls Tryz.prog F (#[Vi Qi a] ++ caps) W fun e W' => e = .returned (.tuple #[])/\I (l ++ [(a : Int)]) W') :
    Calls Tryz.prog 99 #[.agg #[Vs aS M.slots.length cS,Vs aH M.heads.length cH,Vs aF M.free.length cF,Vs aL M.a0b.length cL,Vi Qi M.now],Vi Qi b,.func (.func F) #[] caps] w fun e w' => e = .returned (.bool (chOk M b))/\I (chL M b) w':=by
  have n0:=hok.ns
  have n1:=hok.nh
  obtain ⟨R,hR⟩ : ∃ R,R = chOk M b:=⟨_,rfl⟩
  rw [<- hR]
  have HR : Hid (R = chOk M b):=hR
  clear hR
  obtain ⟨LL,hL⟩ : ∃ LL,LL = chL M b:=⟨_,rfl⟩
  rw [<- hL]
  have HL : Hid (LL = chL M b):=hL
  clear hL
  have HB : Hid _:=box
  have HA : Hid _:=at_
  have HS : Hid _:=step
  have HI : Hid _:=start
  have HFn : Hid _:=hF
  have hA0:=HA.out _ _ HI.out
  rcases hA0.h.at_ with h0 | ⟨bh,oh,rfl,hch⟩
  · omega
  have d0:=hch b hb
  clear box at_ step start hA0 hch hF
  go_enter Tryz.func99,Tryz.ntmps99
  go_wp2
  go_loopw [18,7] (fun i n wr => ∃ k : Nat,k<=M.slots.length/\i = Vi Qi k/\∃ (l : List Int) (x : Int),n = Vi Qi x/\x<=M.slots.length/\l.length = k/\Hid (chL M b = l ++ a3r M.slots (M.slots.length - k) x/\chE M b = a5f M.slots (M.slots.length - k) x)/\Hid (I l wr))
    (fun i _ _ => M.slots.length - (intOf i).toNat)
  case atStart =>
    have hh:=hok.a7k hb
    have he : a0v M b = M.heads[b]:=by simp [a0v,List.getD_eq_getElem?_getD,hb]
    rw [he] at hh
    refine ⟨0,Nat.zero_le _,rfl,[],_,rfl,((a0h _ _ _).1 hh.2).2,rfl,?_,HI⟩
    rw [<- he]
    exact ⟨rfl,rfl⟩
  case round =>
    obtain ⟨k,hk,rfl,l,x,rfl,hx,hl,HE,HW⟩:=hrel
    have hbx:=HB.out _ _ HW.out
    obtain ⟨q0,q1,q2,q3,q4,f0,f1,f2,f3,f4,qs⟩:=boxf hbx
    clear hbx f0 f1 f2 f3 f4 d0
    have fin : (x<=0\/M.slots.length - k = 0)->R = (x == -1 - (b : Int))/\LL = l:=fun h => by
      have hs:=c2v (S:=M.slots) h
      have h1:=HE.out.1
      have h2:=HE.out.2
      rw [hs.1,List.append_nil] at h1
      rw [hs.2] at h2
      exact ⟨by rw [HR.out,chOk,h2],by rw [HL.out,h1]⟩
    have HF : Hid _:=fin
    clear fin
    by_cases hlt : k < M.slots.length
    · by_cases hx0 : x<=0
      · go_wp2_with (first
          | (go_at_call 140; refine (a7w _ _ hx0).mono ?_; rintro e w1 ⟨rfl,rfl⟩)
          | (go_at_call 108; refine (a4k _ _ (by omega) (by omega)).mono ?_; rintro e w1 ⟨rfl,rfl⟩))
        go_ret
        obtain ⟨e1,e2⟩:=HF.out (.inl hx0)
        rw [e1,e2]
        exact ⟨rfl,HW.out⟩
      · obtain ⟨j,rfl⟩ : ∃ j : Nat,x = (j : Int) + 1:=⟨(x - 1).toNat,by omega⟩
        have hj : j < M.slots.length:=by omega
        have hj1 : (0 : Int) < (j : Int) + 1:=by omega
        have HE2 : Hid (chL M b = (l ++ [(j : Int)]) ++ a3r M.slots (M.slots.length - (k + 1)) M.slots[j].next/\chE M b = a5f M.slots (M.slots.length - (k + 1)) M.slots[j].next):=by
          have hg:=walk_go (S:=M.slots) (k:=M.slots.length - (k + 1)) hj1
          rw [show M.slots.length - (k + 1) + 1 = M.slots.length - k by omega] at hg
          have hn : a5v M.slots ((j : Int) + 1) = M.slots[j].next:=by
            unfold a5v
            rw [show ((j : Int) + 1 - 1).toNat = j by omega,getD_lt _ _ hj]
          rw [hn] at hg
          refine ⟨?_,by rw [HE.out.2,hg.2]⟩
          rw [HE.out.1,hg.1,List.append_assoc,show (j : Int) + 1 - 1 = j by omega]
          rfl
        have hnx:=((a0h _ _ _).1 (a2t (hok.slot _ (List.getElem_mem hj))).2.2.2).2
        clear HE
        go_wp2_with (first
          | (go_at_call 140; refine (a7v _ _ hj1 (by omega)).mono ?_; rw [show (j : Int) + 1 - 1 = j by omega]; rintro e w1 ⟨rfl,rfl⟩))
        rw [HFn.out]
        refine (HS.out l j wr HW.out hj (by omega)).mono ?_
        rintro e w2 ⟨rfl,hI2⟩
        have HW2 : Hid _:=hI2
        have hbx2:=HB.out _ _ hI2
        have hA2:=HA.out _ _ hI2
        clear q0 q1 q2 q3 q4 qs hI2
        obtain ⟨q0,q1,q2,q3,q4,f0,f1,f2,f3,f4,qs⟩:=boxf hbx2
        clear hbx2 f0 f1 f2 f3 f4
        rcases hA2.s.at_ with h0 | ⟨bs,os,rfl,hcs⟩
        · omega
        have c5:=(hcs j hj).2.2.2.2.2
        clear hA2 hcs
        go_wp2
        go_roundw
        case rel => exact ⟨k + 1,by omega,by go_num,_,_,rfl,hnx,by simp [hl],HE2,HW2⟩
        case measure => simp [intOf]; omega
    · go_wp2_with (first
        | (go_at_call 108; refine (a4k _ _ (by omega) (by omega)).mono ?_; rintro e w1 ⟨rfl,rfl⟩))
      go_ret
      obtain ⟨e1,e2⟩:=HF.out (.inr (by omega))
      rw [e1,e2]
      exact ⟨rfl,HW.out⟩
end
section
open Go.ChangeShapes Go.WideShapes Go.ChangeAt Go.RowKit Go.Joins
structure Gr (w0 : World) (lo B : Nat) (w : World) (sv hv fv lv : Value) (S : List Sl) (H F L : List Int) : Prop where
  box : w.heap[B]? = some (.cells #[sv,hv,fv,lv,Vi Qi 0] 25 (0,0))
  s : w.ownsRow lo 64 6 sv S.length (encS S)
  h : w.ownsRow lo 3 1 hv H.length (encI H)
  f : w.ownsRow lo 3 1 fv F.length (encI F)
  l : w.ownsRow lo 3 1 lv L.length (encI L)
  hf : Dj hv fv
  hl : Dj hv lv
  fl : Dj fv lv
  at_ : lo<=B
  below : Below lo w0 w
theorem a3z {w w1 : World} {ob : Obj} {lo size n : Nat} {e : TypeId} {v u : Value} {xs : List Value} (h : w.ownsRow lo e size v n xs) (hg : (w.alloc ob).grownBy w1 u.ownBlock) (hd : Dj v u) {B j : Nat} {x : Value} (hne : v.ownBlock ≠ some B) : (w1.setCell ⟨B,j,none⟩ x).ownsRow lo e size v n xs :=
  ownsRow_setCell_other ((h.alloc ob).kept hg hd.ne) hne x
theorem a2e {w w1 : World} {ob : Obj} {B : Nat} {u : Value} {o : Obj} (hB : w.heap[B]? = some o) (hg : (w.alloc ob).grownBy w1 u.ownBlock) (hne : u.ownBlock ≠ some B) : w1.heap[B]? = some o:=by
  have:=lt_of_block hB
  rw [hg.block B (by simp; omega) (fun e => hne e.symm),Below.heap_alloc _ _ _ this,hB]
theorem a3y {w0 w w1 : World} {ob : Obj} {lo B j : Nat} {u x : Value} (hb : Below lo w0 w) (hg : (w.alloc ob).grownBy w1 u.ownBlock) (hu : ∀ k,u.ownBlock = some k->lo<=k) (hl : lo<=w.heap.size) (hB : lo<=B) : Below lo w0 (w1.setCell ⟨B,j,none⟩ x) :=
  ((hb.alloc hl ob).grown hg (by simp; omega) hu).setCell hB x
theorem a6q {w : World} {lo size n B j : Nat} {e : TypeId} {v x : Value} {xs : List Value} (h : w.ownsRow lo e size v n xs) (hne : v.ownBlock ≠ some B) : (w.setCell ⟨B,j,none⟩ x).ownsRow lo e size v n xs :=
  ownsRow_setCell_other h hne x
theorem Gr.h_step {w0 w w1 : World} {lo B : Nat} {sv hv fv lv v' : Value} {S : List Sl} {H F L : List Int} {ob : Obj} {x : Int} (G : Gr w0 lo B w sv hv fv lv S H F L)
    (ho : w1.ownsRow lo 3 1 v' (H.length + 1) (encI H ++ [Vi Qi x])) (hg : (w.alloc ob).grownBy w1 hv.ownBlock) (hloc : v'.ownBlock = hv.ownBlock\/v'.ownBlock = some (w.alloc ob).heap.size) :
    Gr w0 lo B (w1.setCell ⟨B,1,none⟩ v') sv v' fv lv S (H ++ [x]) F L:=by
  have hB:=a2e G.box hg (own_ne G.h G.box (by first | decide | exact Ex.ne _ _ (by decide)))
  have hne : v'.ownBlock ≠ some B:=own_ne ho hB (by first | decide | exact Ex.ne _ _ (by decide))
  have hlt : ∀ {u : Value} {n size : Nat} {e : TypeId} {xs : List Value},w.ownsRow lo e size u n xs->∀ g,u.ownBlock = some g->g < (w.alloc ob).heap.size:=fun h g hg => by have:=(h.lt g hg).2; simp; omega
  have hz : lo<=w.heap.size:=by have:=lt_of_block G.box; have:=G.at_; omega
  refine ⟨?_,?_,?_,?_,?_,?_,?_,?_,G.at_,a3y G.below hg (fun k hk => (G.h.lt k hk).1) hz G.at_⟩
  · have:=block_setCell (i:=1) hB v'
    simpa using this
  · exact a3z G.s hg (a4i G.s G.h (by first | decide | exact Ex.ne _ _ (by decide))) (own_ne G.s G.box (by first | decide | exact Ex.ne _ _ (by decide)))
  · have:=a6q (j:=1) (x:=v') ho hne
    rwa [show encI H ++ [Vi Qi x] = encI (H ++ [x]) by simp [encI],show H.length + 1 = (H ++ [x]).length by simp] at this
  · exact a3z G.f hg ((G.hf).symm) (own_ne G.f G.box (by first | decide | exact Ex.ne _ _ (by decide)))
  · exact a3z G.l hg ((G.hl).symm) (own_ne G.l G.box (by first | decide | exact Ex.ne _ _ (by decide)))
  · exact (Dj.grown (w:=w.alloc ob) ((G.hf).symm) (hlt G.f) hloc).symm
  · exact (Dj.grown (w:=w.alloc ob) ((G.hl).symm) (hlt G.l) hloc).symm
  · exact G.fl
theorem Gr.f_step {w0 w w1 : World} {lo B : Nat} {sv hv fv lv v' : Value} {S : List Sl} {H F L : List Int} {ob : Obj} {x : Int} (G : Gr w0 lo B w sv hv fv lv S H F L)
    (ho : w1.ownsRow lo 3 1 v' (F.length + 1) (encI F ++ [Vi Qi x])) (hg : (w.alloc ob).grownBy w1 fv.ownBlock) (hloc : v'.ownBlock = fv.ownBlock\/v'.ownBlock = some (w.alloc ob).heap.size) :
    Gr w0 lo B (w1.setCell ⟨B,2,none⟩ v') sv hv v' lv S H (F ++ [x]) L:=by
  have hB:=a2e G.box hg (own_ne G.f G.box (by first | decide | exact Ex.ne _ _ (by decide)))
  have hne : v'.ownBlock ≠ some B:=own_ne ho hB (by first | decide | exact Ex.ne _ _ (by decide))
  have hlt : ∀ {u : Value} {n size : Nat} {e : TypeId} {xs : List Value},w.ownsRow lo e size u n xs->∀ g,u.ownBlock = some g->g < (w.alloc ob).heap.size:=fun h g hg => by have:=(h.lt g hg).2; simp; omega
  have hz : lo<=w.heap.size:=by have:=lt_of_block G.box; have:=G.at_; omega
  refine ⟨?_,?_,?_,?_,?_,?_,?_,?_,G.at_,a3y G.below hg (fun k hk => (G.f.lt k hk).1) hz G.at_⟩
  · have:=block_setCell (i:=2) hB v'
    simpa using this
  · exact a3z G.s hg (a4i G.s G.f (by first | decide | exact Ex.ne _ _ (by decide))) (own_ne G.s G.box (by first | decide | exact Ex.ne _ _ (by decide)))
  · exact a3z G.h hg (G.hf) (own_ne G.h G.box (by first | decide | exact Ex.ne _ _ (by decide)))
  · have:=a6q (j:=2) (x:=v') ho hne
    rwa [show encI F ++ [Vi Qi x] = encI (F ++ [x]) by simp [encI],show F.length + 1 = (F ++ [x]).length by simp] at this
  · exact a3z G.l hg ((G.fl).symm) (own_ne G.l G.box (by first | decide | exact Ex.ne _ _ (by decide)))
  · exact Dj.grown (w:=w.alloc ob) (G.hf) (hlt G.h) hloc
  · exact G.hl
  · exact (Dj.grown (w:=w.alloc ob) ((G.fl).symm) (hlt G.l) hloc).symm
theorem Gr.l_step {w0 w w1 : World} {lo B : Nat} {sv hv fv lv v' : Value} {S : List Sl} {H F L : List Int} {ob : Obj} {x : Int} (G : Gr w0 lo B w sv hv fv lv S H F L)
    (ho : w1.ownsRow lo 3 1 v' (L.length + 1) (encI L ++ [Vi Qi x])) (hg : (w.alloc ob).grownBy w1 lv.ownBlock) (hloc : v'.ownBlock = lv.ownBlock\/v'.ownBlock = some (w.alloc ob).heap.size) :
    Gr w0 lo B (w1.setCell ⟨B,3,none⟩ v') sv hv fv v' S H F (L ++ [x]):=by
  have hB:=a2e G.box hg (own_ne G.l G.box (by first | decide | exact Ex.ne _ _ (by decide)))
  have hne : v'.ownBlock ≠ some B:=own_ne ho hB (by first | decide | exact Ex.ne _ _ (by decide))
  have hlt : ∀ {u : Value} {n size : Nat} {e : TypeId} {xs : List Value},w.ownsRow lo e size u n xs->∀ g,u.ownBlock = some g->g < (w.alloc ob).heap.size:=fun h g hg => by have:=(h.lt g hg).2; simp; omega
  have hz : lo<=w.heap.size:=by have:=lt_of_block G.box; have:=G.at_; omega
  refine ⟨?_,?_,?_,?_,?_,?_,?_,?_,G.at_,a3y G.below hg (fun k hk => (G.l.lt k hk).1) hz G.at_⟩
  · have:=block_setCell (i:=3) hB v'
    simpa using this
  · exact a3z G.s hg (a4i G.s G.l (by first | decide | exact Ex.ne _ _ (by decide))) (own_ne G.s G.box (by first | decide | exact Ex.ne _ _ (by decide)))
  · exact a3z G.h hg (G.hl) (own_ne G.h G.box (by first | decide | exact Ex.ne _ _ (by decide)))
  · exact a3z G.f hg (G.fl) (own_ne G.f G.box (by first | decide | exact Ex.ne _ _ (by decide)))
  · have:=a6q (j:=3) (x:=v') ho hne
    rwa [show encI L ++ [Vi Qi x] = encI (L ++ [x]) by simp [encI],show L.length + 1 = (L ++ [x]).length by simp] at this
  · exact G.hf
  · exact Dj.grown (w:=w.alloc ob) (G.hl) (hlt G.h) hloc
  · exact Dj.grown (w:=w.alloc ob) (G.fl) (hlt G.f) hloc
theorem Gr.ans {w0 w : World} {lo B : Nat} {sv hv fv lv : Value} {S : List Sl} {H F L : List Int} (G : Gr w0 lo B w sv hv fv lv S H F L) (h1 : S.length * 48<=140737488351232) (h2 : H.length * 8<=140737488351232) (h3 : F.length * 8<=140737488351232) (h4 : L.length * 8<=140737488351232) :
    Ans lo w (.agg #[sv,hv,fv,lv,Vi Qi 0]) ⟨S,H,F,L,0⟩:=by
  have ks:=G.s.lt; have kh:=G.h.lt; have kf:=G.f.lt; have kl:=G.l.lt
  obtain ⟨aS,cS,rfl,rs⟩:=SRow.a6h G.s h1
  obtain ⟨aH,cH,rfl,rh⟩:=IRow.a6h G.h h2
  obtain ⟨aF,cF,rfl,rf⟩:=IRow.a6h G.f h3
  obtain ⟨aL,cL,rfl,rl⟩:=IRow.a6h G.l h4
  refine ⟨aS,aH,aF,aL,cS,cH,cF,cL,rfl,⟨rs,rh,rf,rl⟩,⟨?_,?_,?_,?_⟩⟩
  · rintro ad rfl; exact (ks _ rfl).1
  · rintro ad rfl; exact (kh _ rfl).1
  · rintro ad rfl; exact (kf _ rfl).1
  · rintro ad rfl; exact (kl _ rfl).1
end
section
open Go.ChangeShapes Go.WideShapes Go.ChangeAt Go.RowKit Go.Joins
structure Lst (w0 : World) (B Y : Nat) (t e : TypeId) (size : Nat) (ob : Array Value) (W : World) (n : Nat) (xs : List Value) : Prop where
  var : ∃ v,W.heap[B]? = some (.cells #[v] t (0,0))/\W.ownsRow (B + 1) e size v n xs
  box : W.heap[Y]? = some (.cells ob 25 (0,0))
  below : Below B w0 W
  ne : B ≠ Y
theorem a0j {W : World} {B : Nat} {v : Value} {t : TypeId} (h : W.heap[B]? = some (.cells #[v] t (0,0))) : W.cell? ⟨B,0,none⟩ = some v/\W.frozen? ⟨B,0,none⟩ = false/\B < W.heap.size :=
  ⟨by rw [cell_of_block h]; rfl,unfrozen_of_block h _,lt_of_block h⟩
theorem Lst.step {w0 W w1 : World} {B Y : Nat} {t e : TypeId} {size n m : Nat} {ob : Array Value} {xs news : List Value} {v v' : Value} {o1 : Obj} (hB : W.heap[B]? = some (.cells #[v] t (0,0))) (ho : W.ownsRow (B + 1) e size v n xs)
    (hY : W.heap[Y]? = some (.cells ob 25 (0,0))) (hb : Below B w0 W) (hne : B ≠ Y) (n1 : e ≠ t) (n2 : e ≠ 25) (hg : (W.alloc o1).grownBy w1 v.ownBlock) (ho' : w1.ownsRow (B + 1) e size v' (n + m) (xs ++ news)) :
    Lst w0 B Y t e size ob (w1.setCell ⟨B,0,none⟩ v') (n + m) (xs ++ news):=by
  have lB:=lt_of_block hB
  have lY:=lt_of_block hY
  have hvB:=own_ne ho hB n1
  have hvY:=own_ne ho hY n2
  have kB : w1.heap[B]? = some (.cells #[v] t (0,0)):=a2e hB hg hvB
  have kY : w1.heap[Y]? = some (.cells ob 25 (0,0)):=a2e hY hg hvY
  have hu : ∀ k,v.ownBlock = some k->B<=k:=fun k hk => by
    have:=(ho.lt k hk).1
    omega
  refine ⟨⟨v',?_,a6q ho' (own_ne ho' kB n1)⟩,(Below.heap_setCell _ _ _ _ (by dsimp only; omega)).trans kY,?_,hne⟩
  · have:=block_setCell (i:=0) kB v'
    rw [this]; rfl
  · exact a3y hb hg hu (by omega) (Nat.le_refl _)
set_option maxHeartbeats 800000 in
theorem app85 (w0 W : World) (B Y : Nat) (ob : Array Value) (l : List Int) (a : Int) (L : Lst w0 B Y 23 3 1 ob W l.length (encI l)) (hl : l.length<=12) :
    Calls Tryz.prog 139 #[Vi Qi a,.pointer (some ⟨B,0,none⟩)] W fun e W' => e = .returned (.tuple #[])/\Lst w0 B Y 23 3 1 ob W' (l ++ [a]).length (encI (l ++ [a])):=by
  obtain ⟨i0,hi,hz0,hz1,hz2⟩:=info_parts iI
  obtain ⟨⟨v,hB,ho⟩,hY,hb,hne⟩:=L
  obtain ⟨ao,cap,rfl⟩:=a2c ho
  obtain ⟨c0,f0,lB⟩:=a0j hB
  have HB : Hid _:=hB
  have HY : Hid _:=hY
  clear hB hY
  go_enter Tryz.func139,Tryz.ntmps139
  go_wp2_with (at_builtin; refine wpList_append_own_at _ rfl (.tmp 3) (.tmp 5) 23 rfl (B + 1) 3 i0 (Vi Qi 0) 1 8 Tryz.underlying23 hi hz0 hz1 hz2 rfl (by first | decide | exact Ex.ne _ _ (by decide)) _ _ _ rfl (ho.alloc _) ⟨W.heap.size,0,none⟩ 1 1 [Vi Qi a] rfl rfl (cell_one_new _ _ _) (by intro u hu; simp at hu; subst hu; rfl) (by unfold maxLen; omega) (by omega) (by simp; omega) ?_; intro v2 w2 ho2 hg2 _ hloc2; obtain ⟨g2,cap2,rfl⟩:=ownsRow_form ho2 (by omega); have HL : Hid _:=Lst.step HB.out ho HY.out hb hne (by first | decide | exact Ex.ne _ _ (by decide)) (by first | decide | exact Ex.ne _ _ (by decide)) hg2 ho2; obtain ⟨d0,e0,lB2⟩:=a0j (a2e HB.out hg2 (own_ne ho HB.out (by first | decide | exact Ex.ne _ _ (by decide)))); clear c0 f0 lB ho2 hg2 hloc2)
  go_end0
  refine ⟨rfl,?_⟩
  have:=HL.out
  rw [show (l ++ [a]).length = l.length + 1 by simp,show encI (l ++ [a]) = encI l ++ [Vi Qi a] by simp [encI]]
  exact this
theorem fn85 : ∀ args W,(callFunc 139 args).run Tryz.prog W = .ok (.enter 139 args) W:=fun _ _ => by kernel_rfl
theorem a8b (S : List Sl) : ∀ (k : Nat) (n : Int),(a3r S k n).length<=k
  | 0,_ => by simp [a3r]
  | k + 1,n => by
    simp only [a3r]
    split
    · have:=a8b S k (a5v S n); simp; omega
    · simp
def a7y (M : Mm) (b : Nat) : Int:=if chOk M b then 0 else 4
def a6w (M : Mm) (b : Nat) : List Int:=if chOk M b then chL M b else []
set_option maxHeartbeats 1600000 in
theorem b5i (M : Mm) (aS aH aF aL : Option Addr) (cS cH cF cL b : Nat) (w : World) (A : At w aS aH aF aL cS cH cF cL M) (hok : Ok M) (hb : b < M.heads.length) :
    Calls Tryz.prog 98 #[.agg #[Vs aS M.slots.length cS,Vs aH M.heads.length cH,Vs aF M.free.length cF,Vs aL M.a0b.length cL,Vi Qi M.now],Vi Qi b] w fun e w' =>
      ∃ ao cap,e = .returned (.tuple #[Vs ao (a6w M b).length cap,Vi Qi (a7y M b)])/\IRow w' ao cap (a6w M b)/\Below w.heap.size w w':=by
  obtain ⟨E0,hE0⟩ : ∃ E0,E0 = a7y M b:=⟨_,rfl⟩
  obtain ⟨L0,hL0⟩ : ∃ L0,L0 = a6w M b:=⟨_,rfl⟩
  rw [<- hE0,<- hL0]
  have HE0 : Hid (E0 = a7y M b):=hE0
  have HL0 : Hid (L0 = a6w M b):=hL0
  clear hE0 hL0
  have n0:=hok.ns
  obtain ⟨o1,ho1⟩ : ∃ o : Obj,o = .cells #[Vs aS M.slots.length cS,Vs aH M.heads.length cH,Vs aF M.free.length cF,Vs aL M.a0b.length cL,Vi Qi M.now] 25:=⟨_,rfl⟩
  obtain ⟨o2,ho2⟩ : ∃ o : Obj,o = .cells #[Vs none 0 0] 23:=⟨_,rfl⟩
  have b0 : Below w.heap.size w ((w.alloc o1).alloc o2):=below_alloc2 w o1 o2
  have HB0 : Hid (((w.alloc o1).alloc o2).heap[w.heap.size]? = some o1):=by show _ = _; rw [Below.heap_alloc _ _ _ (by simp),heap_alloc_new]
  have HV0 : Hid (((w.alloc o1).alloc o2).heap[w.heap.size + 1]? = some o2):=by
    have:=heap_alloc_new (w.alloc o1) o2
    rwa [show (w.alloc o1).heap.size = w.heap.size + 1 by simp] at this
  have HZ0 : Hid (((w.alloc o1).alloc o2).heap.size = w.heap.size + 2):=by show _ = _; simp
  have HA0 : Hid _:=A.below b0
  have hmf : ∀ (fn : Fn) (first cap : Array Value) (w : World),(Instr.makeFunc fn first cap).run Tryz.prog w = .ok (.func fn first cap) w:=fun _ _ _ _ => rfl
  go_enter Tryz.func98,Tryz.ntmps98
  go_wp2_with fail
  rw [<- ho1,<- ho2]
  generalize (w.alloc o1).alloc o2 = W0 at *
  subst ho1 ho2
  have hstart : Lst W0 (w.heap.size + 1) W0.heap.size 23 3 1 #[Vs aS M.slots.length cS,Vs aH M.heads.length cH,Vs aF M.free.length cF,Vs aL M.a0b.length cL,Vi Qi M.now] (W0.alloc (.cells #[Vs aS M.slots.length cS,Vs aH M.heads.length cH,Vs aF M.free.length cF,Vs aL M.a0b.length cL,Vi Qi M.now] 25)) ([] : List Int).length (encI []):=by
    have z:=HZ0.out
    refine ⟨⟨Vs none 0 0,?_,World.ownsRow_nil _ _ _ _⟩,heap_alloc_new _ _,(Below.refl _ _).alloc (by omega) _,by omega⟩
    rw [Below.heap_alloc _ _ _ (by omega)]
    exact HV0.out
  have HAw : Hid _:=A
  clear A
  refine (b6z 139 #[.pointer (some ⟨w.heap.size + 1,0,none⟩)] M aS aH aF aL cS cH cF cL b W0 hok hb fn85 (fun l W => Lst W0 (w.heap.size + 1) W0.heap.size 23 3 1 #[Vs aS M.slots.length cS,Vs aH M.heads.length cH,Vs aF M.free.length cF,Vs aL M.a0b.length cL,Vi Qi M.now] W l.length (encI l)) hstart (fun l W h => h.box) (fun l W h => HAw.out.below (b0.trans (h.below.mono (by omega)))) ?_).mono ?_
  · intro l a W hL ha hl
    exact app85 _ _ _ _ _ _ _ hL (by omega)
  rintro e w1 ⟨rfl,hL1⟩
  have HL1 : Hid _:=hL1
  have HB1 : Hid (Below w.heap.size w w1):=b0.trans (hL1.below.mono (by omega))
  obtain ⟨⟨v,hv,ho⟩,-,-,-⟩:=hL1
  have hm : (chL M b).length<=12:=Nat.le_trans (a8b _ _ _) n0
  obtain ⟨ao,cap,rfl,hrow⟩:=IRow.a6h ho (by omega)
  obtain ⟨c0,f0,lB⟩:=a0j hv
  have HRow : Hid _:=hrow
  clear hv ho hrow HL1 hstart HB0 HV0 HZ0 HA0 b0
  cases hc : chOk M b
  · have HV : Hid (E0 = 4/\L0 = []):=⟨HE0.out.trans (by unfold a7y; rw [hc]; rfl),HL0.out.trans (by unfold a6w; rw [hc]; rfl)⟩
    go_wp2
    go_ret2
    refine ⟨none,0,?_,?_,HB1.out⟩
    · rw [HV.out.1,HV.out.2]; rfl
    · rw [HV.out.2]; exact ⟨by decide,by decide,fun _ => rfl,.inl rfl⟩
  · have HV : Hid (E0 = 0/\L0 = chL M b):=⟨HE0.out.trans (by unfold a7y; rw [hc]; rfl),HL0.out.trans (by unfold a6w; rw [hc]; rfl)⟩
    go_wp2
    go_ret2
    refine ⟨ao,cap,?_,?_,HB1.out⟩
    · rw [HV.out.1,HV.out.2]; rfl
    · rw [HV.out.2]; exact HRow.out
end
section
open Go.ChangeShapes Go.WideShapes Go.ChangeAt Go.RowKit Go.Joins Go.Maps
theorem a5c {M : Mm} {j : Nat} (h : j < M.slots.length) : a0d M j = M.slots[j]:=by simp [a0d,List.getD_eq_getElem?_getD,h]
set_option maxHeartbeats 1600000 in
theorem b2n (M : Mm) (aS aH aF aL : Option Addr) (cS cH cF cL b j g : Nat) (all : List Int) (w : World) (A : At w aS aH aF aL cS cH cF cL M) (hok : Ok M) (hb : b < M.heads.length) (hj : j < M.slots.length) (hm : MapAt M w g all) :
    Calls Tryz.prog 125 #[.agg #[Vs aS M.slots.length cS,Vs aH M.heads.length cH,Vs aF M.free.length cF,Vs aL M.a0b.length cL,Vi Qi M.now],Vi Qi b,Vi Qi j,.map (some g)] w fun e w' => e = .returned (Vi Qi (a5x M b all j))/\Below w.heap.size w w':=by
  obtain ⟨E0,hE0⟩ : ∃ E0,E0 = a5x M b all j:=⟨_,rfl⟩
  rw [<- hE0]
  have HE0 : Hid (E0 = a5x M b all j):=hE0
  clear hE0
  have n0:=hok.ns
  have n1:=hok.nh
  have hgood:=a2t (hok.slot _ (List.getElem_mem hj))
  have hs : a0d M j = M.slots[j]:=a5c hj
  have HM : Hid (MapAt M w g all):=hm
  have gl:=hm.lt
  clear hm
  rcases A.s.at_ with h0 | ⟨bs,os,rfl,hc⟩
  · omega
  obtain ⟨c0,c1,c2,c3,c4,c5⟩:=hc j hj
  have lt:=a0m c0
  clear hc A
  generalize hsl : M.slots[j] = s at c0 c1 c2 c3 c4 c5
  rw [hsl] at hgood hs
  obtain ⟨r,ka,kb,u,i,nx⟩:=s
  dsimp only at c0 c1 c2 c3 c4 c5 hgood
  have HSL : Hid (a0d M j = ⟨r,ka,kb,u,i,nx⟩):=hs
  clear hsl hs
  have hkey:=hgood.2.2.1
  clear hgood
  have hbw : Below w.heap.size w ((w.alloc (.cells #[Vs (some ⟨bs,os,none⟩) M.slots.length cS,Vs aH M.heads.length cH,Vs aF M.free.length cF,Vs aL M.a0b.length cL,Vi Qi M.now] 25)).alloc (.cells #[Vi Qi r,Vi Qi ka,Vi Qi kb,Vi Qi u,.bool i,Vi Qi nx] 64)):=below_alloc2 w _ _
  by_cases hr : r = 0
  · subst hr
    have HV : Hid (E0 = 5):=HE0.out.trans (by unfold a5x; rw [HSL.out,if_pos (.inl rfl)])
    go_enter Tryz.func125,Tryz.ntmps125
    go_wp2
    go_ret
    exact ⟨a1i HV.out.symm,hbw⟩
  have hr' : (r == 0) = false:=by simpa using hr
  cases i
  · have HV : Hid (E0 = 5):=HE0.out.trans (by unfold a5x; rw [HSL.out,if_pos (.inr rfl)])
    go_enter Tryz.func125,Tryz.ntmps125
    go_wp2
    go_ret
    exact ⟨a1i HV.out.symm,hbw⟩
  have HC : Hid (E0 = if a2z ka kb M.heads.length ≠ b then 4 else if hasK M all (ka,kb) then 6 else 0):=HE0.out.trans (by
    have hk : a0t M j = (ka,kb):=by unfold a0t; rw [HSL.out]
    unfold a5x
    rw [hk,HSL.out]
    dsimp only
    rw [if_neg (by rintro (h | h); exact hr h; cases h)])
  have HK : Hid (keyB ka kb = true):=hkey
  clear hkey HE0
  go_enter Tryz.func125,Tryz.ntmps125
  go_wp2_with fail
  refine (b3j _ _ _ _ HK.out n1.1 n1.2).mono ?_
  rintro e w1 ⟨rfl,hb1⟩
  have hbx : Below w.heap.size w w1:=hbw.trans (hb1.mono (by simp; omega))
  have s1 : w1.cell? ⟨w.heap.size + 1,1,none⟩ = some (Vi Qi ka):=((a1z hb1).1 _ _ (by simp)).trans (by simp)
  have s2 : w1.cell? ⟨w.heap.size + 1,2,none⟩ = some (Vi Qi kb):=((a1z hb1).1 _ _ (by simp)).trans (by simp)
  have hl:=MapAt.look (MapAt.kept HM.out (hbx.block g gl)) HK.out
  clear hb1 hbw c0 c1 c2 c3 c4 c5
  by_cases hbb : a2z ka kb M.heads.length = b
  · have HD : Hid (E0 = if hasK M all (ka,kb) then 6 else 0):=HC.out.trans (by rw [if_neg (by simpa using hbb)])
    rw [hbb]
    have hbe : ((b : Int) != (b : Int)) = false:=by simp
    cases hh : hasK M all (ka,kb)
    · rw [hh] at hl
      have HV : Hid (E0 = 0):=HD.out.trans (by rw [hh]; rfl)
      clear HC HD
      go_wp2
      go_ret
      exact ⟨a1i HV.out.symm,hbx⟩
    · rw [hh] at hl
      have HV : Hid (E0 = 6):=HD.out.trans (by rw [hh]; rfl)
      clear HC HD
      go_wp2
      go_ret
      exact ⟨a1i HV.out.symm,hbx⟩
  · have hbe : (a2z ka kb M.heads.length != (b : Int)) = true:=by simpa using hbb
    have HV : Hid (E0 = 4):=HC.out.trans (by rw [if_pos hbb])
    clear HC
    generalize a2z ka kb M.heads.length = q at *
    go_wp2
    go_ret
    exact ⟨a1i HV.out.symm,hbx⟩
end
section
open Go.ChangeShapes Go.WideShapes Go.ChangeAt Go.RowKit Go.Joins Go.Maps
theorem b6y {S : List Sl} {N : Nat} (hs : ∀ s ∈ S,s.next<=N) : ∀ (k : Nat) (n : Int),n<=N->∀ a ∈ a3r S k n,0<=a/\a < N
  | 0,_,_,_,ha => by cases ha
  | k + 1,n,hn,a,ha => by
    simp only [a3r] at ha
    split at ha
    · rename_i h0
      rcases List.mem_cons.1 ha with rfl | ha
      · omega
      · refine b6y hs k (a5v S n) ?_ a ha
        unfold a5v
        by_cases hx : (n - 1).toNat < S.length
        · rw [getD_lt S _ hx]; exact hs _ (List.getElem_mem hx)
        · rw [List.getD_eq_getElem?_getD,List.getElem?_eq_none (by omega)]; show (0 : Int)<=N; omega
    · cases ha
theorem Ok.chIn {M : Mm} (h : Ok M) {b : Nat} (hb : b < M.heads.length) : ∀ a ∈ chL M b,0<=a/\a < M.slots.length :=
  b6y (fun s hs => ((a0h _ _ _).1 (a2t (h.slot s hs)).2.2.2).2) _ _ ((a0h _ _ _).1 (h.a7k hb).2).2
theorem cell_map {w : World} {g o : Nat} {es : Array MapEntry} {clock : Nat} (h : w.heap[g]? = some (.map es clock)) : w.cell? ⟨g,o,none⟩ = none:=by
  unfold World.cell?
  rw [h]
theorem IRow.turn {w w' : World} {ao : Option Addr} {cap g : Nat} {l : List Int} {es : Array MapEntry} {clock : Nat} (r : IRow w ao cap l) (hg : w.heap[g]? = some (.map es clock)) (h : ∀ k,k < w.heap.size->k ≠ g->w'.heap[k]? = w.heap[k]?) : IRow w' ao cap l:=by
  refine ⟨r.le,r.max,r.nil,?_⟩
  rcases r.at_ with h0 | ⟨b,o,e,hc⟩
  · exact .inl h0
  · refine .inr ⟨b,o,e,fun i hi => ?_⟩
    have hne : b ≠ g:=by
      rintro rfl
      have:=hc i hi
      rw [cell_map hg] at this
      cases this
    rw [World.cell?_of_block (a:=⟨b,o + i,none⟩) (h b (a0m (hc i hi)) hne)]
    exact hc i hi
theorem MapAt.blk {M : Mm} {w : World} {g : Nat} {l : List Int} (h : MapAt M w g l) : ∃ es clock,w.heap[g]? = some (.map es clock):=by
  obtain ⟨n,hn,D,⟨es,clock,hg,F,hs,hD⟩,hat⟩:=h
  exact ⟨es,clock,hg⟩
theorem a7d (M : Mm) : ∀ b : Nat,(a1e M b).length<=b * M.slots.length
  | 0 => by simp [a1e]
  | b + 1 => by
    rw [a4a,List.length_append,Nat.succ_mul]
    have:=a7d M b
    have : (chL M b).length<=M.slots.length:=a8b _ _ _
    omega
def MapIs (M : Mm) (Z : Int) (lo : Nat) (w : World) (v : Value) : Prop:=(Z ≠ 0->v = .map none)/\(Z = 0->∃ g,v = .map (some g)/\lo<=g/\MapAt M w g (allC M))
set_option maxHeartbeats 6400000 in
theorem b7y (M : Mm) (aS aH aF aL : Option Addr) (cS cH cF cL : Nat) (w : World) (A : At w aS aH aF aL cS cH cF cL M) :
    Calls Tryz.prog 76 #[.agg #[.slice aS M.slots.length cS,.slice aH M.heads.length cH,.slice aF M.free.length cF,.slice aL M.a0b.length cL,.int .i64 M.now]] w fun e w' => ∃ v,e = .returned (.tuple #[v,.int .i64 (chkC M)])/\MapIs M (chkC M) w.heap.size w' v/\Below w.heap.size w w':=by
  obtain ⟨Z,hZ⟩ : ∃ Z,Z = chkC M:=⟨_,rfl⟩
  rw [<- hZ]
  have HZ : Hid (Z = chkC M):=hZ
  clear hZ
  obtain ⟨o1,ho1⟩ : ∃ o : Obj,o = .cells #[.slice aS M.slots.length cS,.slice aH M.heads.length cH,.slice aF M.free.length cF,.slice aL M.a0b.length cL,.int .i64 M.now] 25:=⟨_,rfl⟩
  have b0 : Below w.heap.size w (w.alloc o1):=a0c w o1
  have HB0 : Hid ((w.alloc o1).heap[w.heap.size]? = some o1):=heap_alloc_new _ _
  have HA : Hid (At w aS aH aF aL cS cH cF cL M):=A
  have HA0 : Hid _:=A.below b0
  clear A
  go_enter Tryz.func76,Tryz.ntmps76
  go_wp2_with fail
  rw [<- ho1]
  generalize w.alloc o1 = W0 at *
  subst ho1
  refine (b3o M aS aH aF aL cS cH cF cL W0 HA0.out).mono ?_
  rintro e w1 ⟨rfl,hb1⟩
  have b1:=b0.trans (hb1.mono b0.size)
  have HB1 : Hid _:=(hb1.block w.heap.size (lt_of_block HB0.out)).trans HB0.out
  clear hb1 b0 HB0 HA0
  by_cases hE : chk M = 0
  rotate_left
  · have h' : (chk M != 0) = true:=by simpa using hE
    have HV : Hid (Z = chk M):=HZ.out.trans (by unfold chkC; rw [if_pos hE])
    have HN : Hid (chk M ≠ 0):=hE
    clear HB1
    generalize chk M = E at *
    go_wp2
    go_ret2
    exact ⟨_,by rw [HV.out]; rfl,⟨fun _ => rfl,fun h => absurd (HV.out ▸ h) HN.out⟩,b1⟩
  have hok:=(a6k M).1 hE
  have n0:=hok.ns
  have n1:=hok.nh
  have HC : Hid (Z = chkB M M.heads.length 0 []):=HZ.out.trans (by unfold chkC; rw [if_neg (by simpa using hE)])
  rw [hE]
  clear hE HZ
  obtain ⟨q0,q1,q2,q3,q4,f0,f1,f2,f3,f4,qs⟩:=boxf HB1.out
  clear f0 f1 f2 f3 f4
  have HM1 : Hid (MapAt M (w1.alloc (.map #[] 0)) w1.heap.size []):=MapAt.made M w1
  have b2:=b1.alloc b1.size (.map #[] 0)
  have HB2 : Hid ((w1.alloc (.map #[] 0)).heap[w.heap.size]? = _):=(Below.heap_alloc _ _ _ qs).trans HB1.out
  have hmm:=@run_makeMap Tryz.prog
  go_wp2
  clear q0 q1 q2 q3 q4 hmm
  go_loopw [21] (fun i wr => ∃ b : Nat,b<=M.heads.length/\i = .int .i64 b/\Hid (MapAt M wr w1.heap.size (a1e M b))/\Below w.heap.size w wr/\Hid (wr.heap[w.heap.size]? = some (.cells #[.slice aS M.slots.length cS,.slice aH M.heads.length cH,.slice aF M.free.length cF,.slice aL M.a0b.length cL,.int .i64 M.now] 25 (0,0)))/\Hid (Z = chkB M (M.heads.length - b) b (a1e M b)))
    (fun i _ => M.heads.length - (intOf i).toNat)
  case atStart => exact ⟨0,Nat.zero_le _,rfl,HM1,b2,HB2,HC⟩
  case round =>
    obtain ⟨b,hb,rfl,HM,hbw,HB,HE⟩:=hrel
    clear HM1 HB2 b2 HC HB1 b1
    obtain ⟨q0,q1,q2,q3,q4,f0,f1,f2,f3,f4,qs'⟩:=boxf HB.out
    clear f0 f1 f2 f3 f4
    have gl:=MapAt.lt HM.out
    by_cases hlt : b < M.heads.length
    · have HAr : Hid _:=HA.out.below hbw
      go_wp2_with fail
      refine (b5i M aS aH aF aL cS cH cF cL b wr HAr.out hok hlt).mono ?_
      rintro e w2 ⟨ao,cap,rfl,hrow,hb2⟩
      have hbx:=hbw.trans (hb2.mono hbw.size)
      have HM2 : Hid (MapAt M w2 w1.heap.size (a1e M b)):=MapAt.kept HM.out (hb2.block _ gl)
      have HB2 : Hid (w2.heap[w.heap.size]? = _):=(hb2.block w.heap.size qs').trans HB.out
      have HS : Hid _:=b9g M b hlt
      clear HM HB HAr hbw hb2 q0 q1 q2 q3 q4
      cases hc : chOk M b
      · have HV : Hid (Z = 4):=HE.out.trans (HS.out.trans (by rw [hc]; rfl))
        have es : a7y M b = 4:=by unfold a7y; rw [hc]; rfl
        have el : a6w M b = []:=by unfold a6w; rw [hc]; rfl
        rw [es,el]
        clear hrow HS HE
        go_wp2
        go_ret2
        exact ⟨_,by rw [HV.out]; rfl,⟨fun _ => rfl,fun h => by rw [HV.out] at h; cases h⟩,hbx⟩
      · have es : a7y M b = 0:=by unfold a7y; rw [hc]; rfl
        have el : a6w M b = chL M b:=by unfold a6w; rw [hc]; rfl
        rw [es,el]
        rw [el] at hrow
        have HIn : Hid _:=hok.chIn hlt
        have HRow : Hid (IRow w2 ao cap (chL M b)):=hrow
        have hlen : (chL M b).length<=12:=Nat.le_trans (a8b _ _ _) n0
        have HD : Hid (Z = if a5w M b (a1e M b) (chL M b) ≠ 0 then a5w M b (a1e M b) (chL M b) else chkB M (M.heads.length - (b + 1)) (b + 1) (a1e M (b + 1))):=HE.out.trans (HS.out.trans (by rw [hc]; rfl))
        have HSu : Hid (a1e M (b + 1) = a1e M b ++ chL M b):=a4a M b
        clear hrow HS HE es el hc
        generalize chL M b = l at *
        go_wp2
        go_loopw [35] (fun i wr => ∃ k : Nat,k<=l.length/\i = .int .i64 k/\Hid (MapAt M wr w1.heap.size (a1e M b ++ l.take k))/\Hid (IRow wr ao cap l)/\Below w.heap.size w wr/\Hid (wr.heap[w.heap.size]? = some (.cells #[.slice aS M.slots.length cS,.slice aH M.heads.length cH,.slice aF M.free.length cF,.slice aL M.a0b.length cL,.int .i64 M.now] 25 (0,0)))/\Hid (a5w M b (a1e M b) l = a5w M b (a1e M b ++ l.take k) (l.drop k)))
          (fun i _ => l.length - (intOf i).toNat)
        case atStart => exact ⟨0,Nat.zero_le _,rfl,by rw [List.take_zero,List.append_nil]; exact HM2,HRow,hbx,HB2,by rw [List.take_zero,List.append_nil,List.drop_zero]; exact rfl⟩
        case round =>
          obtain ⟨k,hk,rfl,HM3,HR3,hb3,HB3,HE3⟩:=hrel
          clear HM2 HRow hbx HB2
          obtain ⟨q0,q1,q2,q3,q4,f0,f1,f2,f3,f4,qs3⟩:=boxf HB3.out
          clear f0 f1 f2 f3 f4
          by_cases hlt3 : k < l.length
          · rcases HR3.out.at_ with h0 | ⟨bl,ol,rfl,hcl⟩
            · omega
            have d0:=hcl k hlt3
            clear hcl
            have hin:=HIn.out l[k] (List.getElem_mem hlt3)
            obtain ⟨j,hj⟩ : ∃ j : Nat,l[k] = j:=⟨(l[k]).toNat,by omega⟩
            have HX : Hid (l[k] = j):=hj
            rw [hj] at d0 hin
            clear hj
            have hjs : j < M.slots.length:=by omega
            have HA3 : Hid _:=HA.out.below hb3
            have HSt : Hid _:=b8c M b (a1e M b) l k hlt3
            go_wp2_with fail
            refine (b2n M aS aH aF aL cS cH cF cL b j w1.heap.size (a1e M b ++ l.take k) wr HA3.out hok hlt hjs HM3.out).mono ?_
            rintro e w4 ⟨rfl,hb4⟩
            have hbx4:=hb3.trans (hb4.mono hb3.size)
            have HM4 : Hid (MapAt M w4 w1.heap.size (a1e M b ++ l.take k)):=MapAt.kept HM3.out (hb4.block _ (MapAt.lt HM3.out))
            have HB4 : Hid (w4.heap[w.heap.size]? = _):=(hb4.block w.heap.size qs3).trans HB3.out
            have HR4 : Hid _:=HR3.out.below hb4
            have HA4 : Hid _:=HA.out.below hbx4
            clear HM3 HB3 HR3 HA3 hb4 hb3 q0 q1 q2 q3 q4 d0
            by_cases hsc : a5x M b (a1e M b ++ l.take k) j = 0
            · rw [hsc]
              have HV : Hid (a5w M b (a1e M b) l = a5w M b (a1e M b ++ l.take (k + 1)) (l.drop (k + 1))):=HE3.out.trans (HSt.out.trans (by rw [HX.out,if_neg (by simpa using hsc)]))
              have hz:=(a8s M b _ _).1 hsc
              have hnk : hasK M (a1e M b ++ l.take k) (a0t M j) = false:=by
                cases hh : hasK M (a1e M b ++ l.take k) (a0t M j)
                · rfl
                · exact absurd ((a5l _ _ _).1 hh) hz.2
              have HNK : Hid _:=hnk
              clear hz hnk hsc HSt HE3
              obtain ⟨r0,r1,r2,r3,r4,g0,g1,g2,g3,g4,rs⟩:=boxf HB4.out
              clear g0 g1 g2 g3 g4
              have hgood:=(a2t (hok.slot _ (List.getElem_mem hjs))).2.2.1
              rcases HA4.out.s.at_ with h0 | ⟨bs,os,rfl,hcs⟩
              · omega
              obtain ⟨c0,c1,c2,c3,c4,c5⟩:=hcs j hjs
              clear hcs c0 c3 c4 c5
              have hsl : a0d M j = M.slots[j]:=a5c hjs
              have hkk : a0t M j = (M.slots[j].a,M.slots[j].b):=by unfold a0t; rw [hsl]
              have HKK : Hid (a0t M j = (M.slots[j].a,M.slots[j].b)):=hkk
              have HSL : Hid (a0d M j = M.slots[j]):=hsl
              clear hkk hsl
              obtain ⟨nn,hnn,D,ho,hat⟩:=HM4.out
              have HO : Hid (w4.ownsMap Tryz.prog 30 (plainElem Tryz.prog 3) w1.heap.size nn D):=ho
              have HAT : Hid _:=hat
              obtain ⟨es,clock,hgb⟩:=MapAt.blk HM4.out
              have HGB : Hid _:=hgb
              have hnn2 : nn < 140737488355328:=by
                have h1:=a7d M b
                have h2 : b * M.slots.length<=4 * 12:=Nat.mul_le_mul (by omega) n0
                have h3:=hnn
                simp only [List.length_append,List.length_take] at h3
                omega
              clear ho hat hgb
              go_wp2_with (at_mapUpdate; (refine wpList_mapUpdate_own (H:=Unit) _ rfl _ _ _ 121 rfl 30 3 law37 b6w (plainElem Tryz.prog 3) w1.heap.size nn D rfl HO.out (by unfold maxLen; omega) _ _ (kl (M.slots[j].a,M.slots[j].b)) rfl rfl (a9p (a6e hgood).1 (a6e hgood).2) (.lit (.int .i64 (j : Int))) [] (plainElem_int Tryz.underlying3 (wf64 (by omega) (by omega))) ?_; intro w5 ho5 hg5))
              have HM5 : Hid (MapAt M w5 w1.heap.size (a1e M b ++ l.take (k + 1))):=by
                have:=MapAt.put (a:=(j : Int)) hnn HO.out.isMap HAT.out (by rw [HSL.out]; exact hgood) HNK.out (by rw [HKK.out]; exact ho5)
                rw [List.take_succ_eq_append_getElem hlt3,<- List.append_assoc,HX.out]
                exact this
              have HB5 : Hid (w5.heap[w.heap.size]? = some (.cells #[.slice (some ⟨bs,os,none⟩) M.slots.length cS,.slice aH M.heads.length cH,.slice aF M.free.length cF,.slice aL M.a0b.length cL,.int .i64 M.now] 25 (0,0))):=(hg5.block w.heap.size rs (by simp; omega)).trans HB4.out
              have HR5 : Hid (IRow w5 (some ⟨bl,ol,none⟩) cap l):=HR4.out.turn HGB.out (fun k h1 h2 => hg5.block k h1 (by simpa using h2))
              have hb5 : Below w.heap.size w w5:=hbx4.grown hg5 hbx4.size (fun k h => by cases h; omega)
              go_roundw
              case rel => exact ⟨k + 1,by omega,by go_num,HM5,HR5,hb5,HB5,HV⟩
              case measure => simp [intOf]; omega
            · have h' : (a5x M b (a1e M b ++ l.take k) j != 0) = true:=by simpa using hsc
              have HV : Hid (Z = a5x M b (a1e M b ++ l.take k) j):=by
                have h1:=HE3.out.trans (HSt.out.trans (by rw [HX.out,if_pos hsc]))
                have:=HD.out
                rw [h1,if_pos hsc] at this
                exact this
              have HN : Hid (a5x M b (a1e M b ++ l.take k) j ≠ 0):=hsc
              clear HSt HE3 HD hsc HB4 HR4 HA4 HM4
              generalize a5x M b (a1e M b ++ l.take k) j = E at *
              go_wp2
              go_ret2
              exact ⟨_,by rw [HV.out]; rfl,⟨fun _ => rfl,fun h => absurd (HV.out ▸ h) HN.out⟩,hbx4⟩
          · have hk' : k = l.length:=by omega
            have HV : Hid (Z = chkB M (M.heads.length - (b + 1)) (b + 1) (a1e M (b + 1))):=by
              have h1:=HE3.out.trans (c1x M b (a1e M b) l k (by omega))
              have:=HD.out
              rw [h1,if_neg (by simp)] at this
              exact this
            have HM6 : Hid (MapAt M wr w1.heap.size (a1e M (b + 1))):=by
              have:=HM3.out
              rw [hk',List.take_length,<- HSu.out] at this
              exact this
            go_wp2
            go_roundw
            case rel => exact ⟨b + 1,by omega,by go_num,HM6,hb3,HB3,HV⟩
            case measure => simp [intOf]; omega
    · have hbe : b = M.heads.length:=by omega
      have HV : Hid (Z = 0):=HE.out.trans (chkB_end M b (by omega) _)
      have HMf : Hid (MapAt M wr w1.heap.size (allC M)):=by
        have:=HM.out
        rw [hbe] at this
        exact this
      go_wp2
      go_ret2
      exact ⟨_,by rw [HV.out]; rfl,⟨fun h => absurd HV.out h,fun _ => ⟨w1.heap.size,rfl,by omega,HMf.out⟩⟩,hbw⟩
end
section
open Go.ChangeShapes Go.WideShapes Go.ChangeAt Go.RowKit Go.Joins Go.Maps
set_option maxHeartbeats 800000 in
theorem a6v (M : Mm) (aS aH aF aL : Option Addr) (cS cH cF cL : Nat) (w : World) (A : At w aS aH aF aL cS cH cF cL M) :
    Calls Tryz.prog 29 #[.agg #[Vs aS M.slots.length cS,Vs aH M.heads.length cH,Vs aF M.free.length cF,Vs aL M.a0b.length cL,Vi Qi M.now]] w fun e w' => e = .returned (Vi Qi (chkC M))/\Below w.heap.size w w':=by
  have b0 : Below w.heap.size w (w.alloc (.cells #[Vs aS M.slots.length cS,Vs aH M.heads.length cH,Vs aF M.free.length cF,Vs aL M.a0b.length cL,Vi Qi M.now] 25)):=a0c w _
  have HA0 : Hid _:=A.below b0
  clear A
  go_enter Tryz.func29,Tryz.ntmps29
  go_wp2_with fail
  refine (b7y M aS aH aF aL cS cH cF cL _ HA0.out).mono ?_
  rintro e w1 ⟨v,rfl,-,hb1⟩
  have b1:=b0.trans (hb1.mono b0.size)
  clear hb1 b0 HA0
  go_wp2
  go_ret
  exact ⟨rfl,b1⟩
end
section
open Go.ChangeShapes Go.WideShapes Go.ChangeAt Go.RowKit Go.Joins Go.Maps
structure Fl where
  a : Int
  b : Int
  slot : Int
  unt : Int
def Fl.enc (f : Fl) : List Value:=[Vi Qi f.a,Vi Qi f.b,Vi Qi f.slot,Vi Qi f.unt]
def encF (l : List Fl) : List Value:=l.flatMap Fl.enc
theorem b3u (s : Fl) (l : List Fl) : encF (s :: l) = s.enc ++ encF l:=by simp [encF]
theorem encF_len (l : List Fl) : (encF l).length = l.length * 4:=by
  induction l with
  | nil => rfl
  | cons s l ih => rw [b3u,List.length_append,ih]; simp [Fl.enc]; omega
theorem b5z (l : List Fl) (i q : Nat) (h : i < l.length) (hq : q < 4) : (encF l)[i * 4 + q]? = (l[i].enc)[q]?:=by
  induction l generalizing i with
  | nil => simp at h
  | cons s l ih =>
    rw [b3u]
    match i with
    | 0 =>
      rw [List.getElem?_append_left (by simp [Fl.enc]; omega)]
      simp
    | i + 1 =>
      rw [List.getElem?_append_right (by simp [Fl.enc]; omega)]
      have hl : s.enc.length = 4:=rfl
      rw [hl,show (i + 1) * 4 + q - 4 = i * 4 + q by omega,ih i (by simpa using h)]
      simp
structure FRow (w : World) (ao : Option Addr) (cap : Nat) (l : List Fl) : Prop where
  le : l.length<=cap
  max : l.length * 32<=140737488351232
  nil : ao = none->cap = 0
  at_ : l.length = 0\/∃ b o,ao = some ⟨b,o,none⟩/\∀ i (h : i < l.length),
    w.cell? ⟨b,o + i * 4,none⟩ = some (Vi Qi l[i].a)/\w.cell? ⟨b,o + i * 4 + 1,none⟩ = some (Vi Qi l[i].b)/\w.cell? ⟨b,o + i * 4 + 2,none⟩ = some (Vi Qi l[i].slot)/\w.cell? ⟨b,o + i * 4 + 3,none⟩ = some (Vi Qi l[i].unt)
theorem FRow.below {w w' : World} {ao : Option Addr} {cap : Nat} {l : List Fl} (r : FRow w ao cap l) (hb : Below w.heap.size w w') : FRow w' ao cap l:=by
  refine ⟨r.le,r.max,r.nil,?_⟩
  rcases r.at_ with h | ⟨b,o,h,hc⟩
  · exact .inl h
  · refine .inr ⟨b,o,h,fun i hi => ?_⟩
    obtain ⟨c0,c1,c2,c3⟩:=hc i hi
    have lt:=a0m c0
    obtain ⟨q,_⟩:=a1z hb
    exact ⟨(q _ _ lt).trans c0,(q _ _ lt).trans c1,(q _ _ lt).trans c2,(q _ _ lt).trans c3⟩
theorem FRow.a7r {w : World} {b cap : Nat} {S : List Fl} (hl : S.length<=cap) (hm : S.length * 32<=140737488351232) (hc : ∀ j,j < S.length * 4->w.cell? ⟨b,j,none⟩ = (encF S)[j]?) : FRow w (some ⟨b,0,none⟩) cap S:=by
  refine ⟨hl,hm,(fun h => by cases h),.inr ⟨b,0,rfl,fun i hi => ?_⟩⟩
  have e : ∀ q,q < 4->w.cell? ⟨b,0 + i * 4 + q,none⟩ = (S[i].enc)[q]?:=fun q hq => by
    rw [Nat.zero_add,hc _ (by omega),b5z S i q hi hq]
  exact ⟨e 0 (by omega),e 1 (by omega),e 2 (by omega),e 3 (by omega)⟩
theorem FRow.a6h {w : World} {base n : Nat} {v : Value} {S : List Fl} (h : w.ownsRow base 61 4 v n (encF S)) (hm : S.length * 32<=140737488351232) : ∃ ao cap,v = Vs ao S.length cap/\FRow w ao cap S:=by
  have hl:=h.1
  rw [encF_len] at hl
  have hn : S.length = n:=by omega
  subst hn
  rcases h.2 with ⟨rfl,h0⟩ | ⟨g,cap,cur,rfl,hg,hb,hc,-,hs,ht⟩
  · exact ⟨none,0,by rw [h0],by omega,hm,fun _ => rfl,.inl h0⟩
  · exact ⟨_,_,rfl,.a7r hc hm fun j hj => h.cellAt j hj⟩
theorem iF : (Tryz.prog.info? 61).map (fun i => (i.zero,i.size,i.bytes)) = some (some (.agg #[Vi Qi 0,Vi Qi 0,Vi Qi 0,Vi Qi 0]),4,32):=by kernel_rfl
def a1q (M : Mm) (x : Int) : Fl:=⟨(a0d M x).a,(a0d M x).b,x,(a0d M x).unt⟩
def a2k (M : Mm) : List Fl:=if chkC M = 0 then (allC M).map (a1q M) else []
theorem four_new (w : World) (f : Fl) : ∀ (j : Nat) (u : Value),(f.enc)[j]? = some u->(w.alloc (.cells #[Vi Qi f.a,Vi Qi f.b,Vi Qi f.slot,Vi Qi f.unt] 61)).cell? ((⟨w.heap.size,0,none⟩ : Addr).add j) = some u:=by
  intro j u hu
  rw [Addr.add_lit]
  match j,hu with
  | 0,hu => simp [Fl.enc] at hu; subst hu; simp
  | 1,hu => simp [Fl.enc] at hu; subst hu; simp
  | 2,hu => simp [Fl.enc] at hu; subst hu; simp
  | 3,hu => simp [Fl.enc] at hu; subst hu; simp
  | j + 4,hu => simp [Fl.enc] at hu
set_option maxHeartbeats 1600000 in
theorem app72 (M : Mm) (aS aH aF aL : Option Addr) (cS cH cF cL : Nat) (w0 W : World) (X B Y : Nat) (ob : Array Value) (l : List Int) (j : Nat) (L : Lst w0 B Y 56 61 4 ob W (l.map (a1q M)).length (encF (l.map (a1q M)))) (hl : l.length<=100)
    (hX : W.heap[X]? = some (.cells #[Vs aS M.slots.length cS,Vs aH M.heads.length cH,Vs aF M.free.length cF,Vs aL M.a0b.length cL,Vi Qi M.now] 25 (0,0))) (A : At W aS aH aF aL cS cH cF cL M) (hj : j < M.slots.length) (hns : M.slots.length<=12) :
    Calls Tryz.prog 100 #[Vi Qi j,.pointer (some ⟨X,0,none⟩),.pointer (some ⟨B,0,none⟩)] W fun e W' => e = .returned (.tuple #[])/\Lst w0 B Y 56 61 4 ob W' ((l ++ [(j : Int)]).map (a1q M)).length (encF ((l ++ [(j : Int)]).map (a1q M))):=by
  obtain ⟨i0,hi,hz0,hz1,hz2⟩:=info_parts iF
  obtain ⟨⟨v,hB,ho⟩,hY,hb,hne⟩:=L
  have hll : (l.map (a1q M)).length = l.length:=by simp
  rw [hll] at ho
  obtain ⟨ao,cap,rfl⟩:=a2c ho
  obtain ⟨c0,f0,lB⟩:=a0j hB
  obtain ⟨q0,q1,q2,q3,q4,-,-,-,-,-,qs⟩:=boxf hX
  rcases A.s.at_ with h0 | ⟨bs,os,rfl,hcs⟩
  · omega
  obtain ⟨s0,s1,s2,s3,s4,s5⟩:=hcs j hj
  have ls:=a0m s0
  have hsl : a0d M j = M.slots[j]:=a5c hj
  generalize hM : M.slots[j] = s at s0 s1 s2 s3 s4 s5 hsl
  obtain ⟨r,ka,kb,u,i,nx⟩:=s
  dsimp only at s0 s1 s2 s3 s4 s5
  have HFl : Hid (a1q M j = ⟨ka,kb,j,u⟩):=by unfold a1q; rw [hsl]; rfl
  clear hM hsl hcs A hX
  have HB : Hid _:=hB
  have HY : Hid _:=hY
  have lY:=lt_of_block hY
  clear hB hY
  have kB : (W.alloc (.cells #[Vi Qi r,Vi Qi ka,Vi Qi kb,Vi Qi u,.bool i,Vi Qi nx] 64)).heap[B]? = _:=(Below.heap_alloc W (.cells #[Vi Qi r,Vi Qi ka,Vi Qi kb,Vi Qi u,.bool i,Vi Qi nx] 64) B lB).trans HB.out
  have kY : (W.alloc (.cells #[Vi Qi r,Vi Qi ka,Vi Qi kb,Vi Qi u,.bool i,Vi Qi nx] 64)).heap[Y]? = _:=(Below.heap_alloc W (.cells #[Vi Qi r,Vi Qi ka,Vi Qi kb,Vi Qi u,.bool i,Vi Qi nx] 64) Y lY).trans HY.out
  have KB : Hid _:=kB
  have KY : Hid _:=kY
  clear kB kY
  have hb':=hb.alloc (Nat.le_of_lt lB) (.cells #[Vi Qi r,Vi Qi ka,Vi Qi kb,Vi Qi u,.bool i,Vi Qi nx] 64)
  have HN : Hid _:=four_new (W.alloc (.cells #[Vi Qi r,Vi Qi ka,Vi Qi kb,Vi Qi u,.bool i,Vi Qi nx] 64)) ⟨ka,kb,j,u⟩
  rw [show (W.alloc (.cells #[Vi Qi r,Vi Qi ka,Vi Qi kb,Vi Qi u,.bool i,Vi Qi nx] 64)).heap.size = W.heap.size + 1 by simp] at HN
  go_enter Tryz.func100,Tryz.ntmps100
  go_wp2_with (at_builtin; refine wpList_append_own_at _ rfl (.tmp 10) (.tmp 17) 56 rfl (B + 1) 61 i0 (.agg #[Vi Qi 0,Vi Qi 0,Vi Qi 0,Vi Qi 0]) 4 32 Tryz.underlying56 hi hz0 hz1 hz2 rfl (by first | decide | exact Ex.ne _ _ (by decide)) _ _ _ rfl ((ho.alloc _).alloc _) ⟨W.heap.size + 1,0,none⟩ 1 1 (Fl.enc ⟨ka,kb,j,u⟩) rfl rfl HN.out (by intro x hx; simp only [Fl.enc,List.mem_cons,List.not_mem_nil,or_false] at hx; rcases hx with rfl | rfl | rfl | rfl <;> rfl) (by unfold maxLen; omega) (by omega) (by simp; omega) ?_; intro v2 w2 ho2 hg2 _ hloc2; obtain ⟨g2,cap2,rfl⟩:=ownsRow_form ho2 (by omega); have HL : Hid _:=Lst.step KB.out (ho.alloc _) KY.out hb' hne (by first | decide | exact Ex.ne _ _ (by decide)) (by first | decide | exact Ex.ne _ _ (by decide)) hg2 ho2; obtain ⟨d0,e0,lB2⟩:=a0j (a2e KB.out hg2 (own_ne (ho.alloc _) KB.out (by first | decide | exact Ex.ne _ _ (by decide)))); clear c0 f0 ho2 hg2 hloc2)
  go_end0
  refine ⟨rfl,?_⟩
  have:=HL.out
  rw [show encF (l.map (a1q M) ++ [a1q M (j : Int)]) = encF (l.map (a1q M)) ++ Fl.enc ⟨ka,kb,j,u⟩ by simp [encF,HFl.out]]
  exact this
theorem fn72 : ∀ args W,(callFunc 100 args).run Tryz.prog W = .ok (.enter 100 args) W:=fun _ _ => by kernel_rfl
end
section
open Go.ChangeShapes Go.WideShapes Go.ChangeAt Go.RowKit Go.Joins
variable {Xb : Ex}
def Foot (B : Nat) (aS aH aF aL : Option Addr) (k : Nat) : Prop :=
  k = B\/(∃ ad,aS = some ad/\ad.block = k)\/(∃ ad,aH = some ad/\ad.block = k)\/(∃ ad,aF = some ad/\ad.block = k)\/(∃ ad,aL = some ad/\ad.block = k)
structure Fine (w w' : World) (Z : Nat->Prop) : Prop where
  os : w'.os = w.os
  tape : w'.tape = w.tape
  output : w'.output = w.output
  size : w.heap.size<=w'.heap.size
  block : ∀ k,k < w.heap.size->¬ Z k->w'.heap[k]? = w.heap[k]?
def Up (w : World) (Z : Nat->Prop) (k : Nat) : Prop:=Z k\/w.heap.size<=k
theorem Fine.refl (w : World) (Z : Nat->Prop) : Fine w w Z:=⟨rfl,rfl,rfl,Nat.le_refl _,fun _ _ _ => rfl⟩
theorem Fine.of_below {w w' : World} (Z : Nat->Prop) (hb : Below w.heap.size w w') : Fine w w' Z:=⟨hb.os,hb.tape,hb.output,hb.size,fun k h _ => hb.block k h⟩
theorem Fine.trans {w w1 w2 : World} {Z Z' : Nat->Prop} (h : Fine w w1 Z) (h' : Fine w1 w2 Z') (hz : ∀ k,k < w.heap.size->Z' k->Z k) : Fine w w2 Z :=
  ⟨h'.os.trans h.os,h'.tape.trans h.tape,h'.output.trans h.output,Nat.le_trans h.size h'.size,fun k h1 h2 => (h'.block k (Nat.lt_of_lt_of_le h1 h.size) (fun h3 => h2 (hz k h1 h3))).trans (h.block k h1 h2)⟩
theorem Fine.go {w w1 w2 : World} {Z : Nat->Prop} (h : Fine w w1 Z) (h' : Fine w1 w2 (Up w Z)) : Fine w w2 Z :=
  h.trans h' fun k h1 h2 => h2.elim id (fun h3 => by omega)
theorem Fine.below {w w1 w2 : World} {Z : Nat->Prop} (h : Fine w w1 Z) (hb : Below w1.heap.size w1 w2) : Fine w w2 Z :=
  h.trans (.of_below Z hb) fun _ _ h => h
theorem Fine.set {w w1 : World} {Z : Nat->Prop} {k : Nat} (h : Fine w w1 Z) (hk : Z k\/w.heap.size<=k) (j : Nat) (v : Value) : Fine w (w1.setCell ⟨k,j,none⟩ v) Z :=
  ⟨h.os,h.tape,h.output,by rw [World.size_setCell]; exact h.size,fun i h1 h2 => by
    have hne : i ≠ k:=by rintro rfl; exact hk.elim h2 (fun h3 => by omega)
    rw [Below.heap_setCell _ _ _ _ (by dsimp only; exact hne)]
    exact h.block i h1 h2⟩
theorem Fine.mono {w w1 : World} {Z Z' : Nat->Prop} (h : Fine w w1 Z) (hz : ∀ k,Z k->Z' k) : Fine w w1 Z':=⟨h.os,h.tape,h.output,h.size,fun k h1 h2 => h.block k h1 (fun h3 => h2 (hz k h3))⟩
theorem a1u {w w' : World} {lo size n : Nat} {e : TypeId} {v : Value} {xs : List Value} (h : w.ownsRow lo e size v n xs) (hk : ∀ g,v.ownBlock = some g->w'.heap[g]? = w.heap[g]?) : w'.ownsRow lo e size v n xs:=by
  refine ⟨h.1,?_⟩
  rcases h.2 with h1 | ⟨g,cap,cur,rfl,hg,hb,rest⟩
  · exact .inl h1
  · exact .inr ⟨g,cap,cur,rfl,hg,(hk g rfl).trans hb,rest⟩
def Has (Xb : Ex) (w : World) (B lo : Nat) (Z : Nat->Prop) (M : Mm) : Prop :=
  ∃ aS aH aF aL cS cH cF cL,Mine Xb w B lo aS aH aF aL cS cH cF cL M/\∀ k,Foot B aS aH aF aL k->Z k
theorem a9l {aS : Option Addr} {n c g : Nat} (h : (Value.slice aS n c).ownBlock = some g) : ∃ ad,aS = some ad/\ad.block = g:=by
  cases aS with
  | none => cases h
  | some ad => exact ⟨ad,rfl,by injection h⟩
theorem Mine.same {w w' : World} {B lo : Nat} {aS aH aF aL : Option Addr} {cS cH cF cL : Nat} {M : Mm} (m : Mine Xb w B lo aS aH aF aL cS cH cF cL M) (hz : w.heap.size<=w'.heap.size)
    (hk : ∀ k,k < w.heap.size->Foot B aS aH aF aL k->w'.heap[k]? = w.heap[k]?) : Mine Xb w' B lo aS aH aF aL cS cH cF cL M:=by
  obtain ⟨hB,⟨s,h,f,l,hf,hl,fl,lz⟩,m1,m2,m3,m4⟩:=m
  refine ⟨(hk B (lt_of_block hB) (.inl rfl)).trans hB,⟨?_,?_,?_,?_,hf,hl,fl,Nat.le_trans lz hz⟩,m1,m2,m3,m4⟩
  · exact a1u s fun g hg => hk g (s.lt g hg).2 (.inr (.inl (a9l hg)))
  · exact a1u h fun g hg => hk g (h.lt g hg).2 (.inr (.inr (.inl (a9l hg))))
  · exact a1u f fun g hg => hk g (f.lt g hg).2 (.inr (.inr (.inr (.inl (a9l hg)))))
  · exact a1u l fun g hg => hk g (l.lt g hg).2 (.inr (.inr (.inr (.inr (a9l hg)))))
theorem Has.same {w w' : World} {B lo : Nat} {Z : Nat->Prop} {M : Mm} (h : Has Xb w B lo Z M) (hz : w.heap.size<=w'.heap.size) (hk : ∀ k,k < w.heap.size->Z k->w'.heap[k]? = w.heap[k]?) : Has Xb w' B lo Z M:=by
  obtain ⟨aS,aH,aF,aL,cS,cH,cF,cL,m,hf⟩:=h
  exact ⟨aS,aH,aF,aL,cS,cH,cF,cL,m.same hz (fun k h1 h2 => hk k h1 (hf k h2)),hf⟩
theorem Has.below {w w' : World} {B lo : Nat} {Z : Nat->Prop} {M : Mm} (h : Has Xb w B lo Z M) (hb : Below w.heap.size w w') : Has Xb w' B lo Z M:=h.same hb.size fun k h1 _ => hb.block k h1
theorem Has.fine {w w' : World} {B lo : Nat} {Z Z' : Nat->Prop} {M : Mm} (h : Has Xb w B lo Z M) (hf : Fine w w' Z') (hd : ∀ k,k < w.heap.size->Z k->¬ Z' k) : Has Xb w' B lo Z M:=h.same hf.size fun k h1 h2 => hf.block k h1 (hd k h1 h2)
theorem Has.mono {w : World} {B lo : Nat} {Z Z' : Nat->Prop} {M : Mm} (h : Has Xb w B lo Z M) (hz : ∀ k,k < w.heap.size->Z k->Z' k) : Has Xb w B lo Z' M:=by
  obtain ⟨aS,aH,aF,aL,cS,cH,cF,cL,m,hf⟩:=h
  refine ⟨aS,aH,aF,aL,cS,cH,cF,cL,m,fun k hk => hz k ?_ (hf k hk)⟩
  rcases hk with rfl | ⟨ad,rfl,rfl⟩ | ⟨ad,rfl,rfl⟩ | ⟨ad,rfl,rfl⟩ | ⟨ad,rfl,rfl⟩
  · exact lt_of_block m.box
  · exact (m.c.s.lt _ rfl).2
  · exact (m.c.h.lt _ rfl).2
  · exact (m.c.f.lt _ rfl).2
  · exact (m.c.l.lt _ rfl).2
theorem Has.up {w : World} {B lo : Nat} {Z : Nat->Prop} {M : Mm} (h : Has Xb w B lo Z M) : Has Xb w B lo (Up w Z) M:=h.mono fun _ _ h => .inl h
theorem b6g {M : Mm} (h : Ok M) : M.free.length<=12:=by
  have h1:=few' M.slots.length M.free h.nodup (fun a ha => by
    have:=(a2a _ _).1 (h.free a ha)
    exact ⟨this.1,this.2.1⟩)
  have:=h.ns
  omega
theorem b9y {B : Nat} {aS aH aF aL aF' : Option Addr} {Z : Nat->Prop} {n : Nat} (hf : ∀ k,Foot B aS aH aF aL k->Z k) (hn : ∀ ad,aF' = some ad->n<=ad.block) : ∀ k,Foot B aS aH aF' aL k->Z k\/n<=k:=by
  rintro k (rfl | h | h | ⟨ad,e,rfl⟩ | h)
  · exact .inl (hf _ (.inl rfl))
  · exact .inl (hf _ (.inr (.inl h)))
  · exact .inl (hf _ (.inr (.inr (.inl h))))
  · exact .inr (hn ad e)
  · exact .inl (hf _ (.inr (.inr (.inr (.inr h)))))
theorem c0i {M : Mm} {w : World} {B lo : Nat} {Z : Nat->Prop} {i : Int} (H : Has Xb w B lo Z M) (hM : Ok M) (hi : isSl M i = true) :
    Calls Tryz.prog 201 #[.pointer (some ⟨B,0,none⟩),Vi Qi i] w fun e w' => e = .returned (.bool (canH M i))/\Has Xb w' B lo (Up w Z) (a9d M i)/\Fine w w' Z:=by
  have hr:=a7x hM hi
  obtain ⟨i0,i1⟩:=a1a.1 hi
  have H':=H
  obtain ⟨aS,aH,aF,aL,cS,cH,cF,cL,m,hf⟩:=H
  by_cases hc : canH M i = true
  · have hc':=a9f.1 hc
    obtain ⟨j,rfl⟩ : ∃ j : Nat,i = j:=⟨i.toNat,by omega⟩
    have hj : j < M.slots.length:=by omega
    obtain ⟨gS,rfl,oS,-,-,-⟩:=a1b m.c.s (by omega)
    have hrr:=a9t M j hj
    rw [hrr] at hc'
    obtain ⟨c0,-,-,-,-,-,fz⟩:=a3c m.c.s hj
    refine (hold_yes w B gS _ j cS _ _ _ _ _ m.box hj c0 (fz _) hc'.1 hc'.2).mono ?_
    rintro e w' ⟨rfl,rfl⟩
    have mt:=turned m hj (M.slots[j].refs + 1)
    have e1 : a9d M j = b7i M j:=by unfold a9d; rw [if_pos hc]
    rw [e1,hc]
    rw [<- hrr] at mt ⊢
    exact ⟨rfl,⟨_,_,_,_,_,_,_,_,mt,fun k hk => .inl (hf k hk)⟩,(Fine.refl w Z).set (.inl (hf gS (.inr (.inl ⟨_,rfl,rfl⟩)))) _ _⟩
  · have hc0 : canH M i = false:=by simpa using hc
    have hn : ¬ (0 < a0s M i/\a0s M i < 1000):=fun h => hc (a9f.2 h)
    refine (c0h M w B lo aS aH aF aL cS cH cF cL i m i0 i1 (by omega)).mono ?_
    rintro e w' ⟨rfl,rfl⟩
    have e1 : a9d M i = M:=by unfold a9d; rw [if_neg hc]
    rw [e1,hc0]
    exact ⟨rfl,H'.up,.refl _ _⟩
theorem b6q {M : Mm} {w : World} {B lo : Nat} {Z : Nat->Prop} {i : Int} (H : Has Xb w B lo Z M) (hM : Ok M) (hi : isSl M i = true) :
    Calls Tryz.prog 197 #[.pointer (some ⟨B,0,none⟩),Vi Qi i] w fun e w' => e = .returned (.bool (decide (a0s M i ≠ 0)))/\Has Xb w' B lo (Up w Z) (putN M i)/\Fine w w' Z:=by
  have hr:=a7x hM hi
  have hfew:=b6g hM
  obtain ⟨i0,i1⟩:=a1a.1 hi
  have H':=H
  obtain ⟨aS,aH,aF,aL,cS,cH,cF,cL,m,hf⟩:=H
  by_cases h0 : a0s M i = 0
  · refine (put_fail M w B lo aS aH aF aL cS cH cF cL i m i0 i1 h0).mono ?_
    rintro e w' ⟨rfl,rfl⟩
    have e1 : putN M i = M:=by unfold putN; rw [if_pos h0]
    rw [e1]
    exact ⟨by simp [h0],H'.up,.refl _ _⟩
  have ed : decide (a0s M i ≠ 0) = true:=by simp [h0]
  have e0 : putN M i = putM M i:=by unfold putN; rw [if_neg h0]
  rw [ed,e0]
  obtain ⟨j,rfl⟩ : ∃ j : Nat,i = j:=⟨i.toNat,by omega⟩
  have hj : j < M.slots.length:=by omega
  obtain ⟨gS,rfl,oS,-,-,-⟩:=a1b m.c.s (by omega)
  have hZ : Z gS:=hf gS (.inr (.inl ⟨_,rfl,rfl⟩))
  have hrr:=a9t M j hj
  obtain ⟨c0,-,-,-,-,-,fz⟩:=a3c m.c.s hj
  by_cases hl : a0s M j = 1
  · rw [<- hrr,hl] at c0
    have mt:=turned m hj 0
    refine (put_last w B gS _ j cS cF aF M.free _ _ _ m.box hj c0 (fz _) m.ne_s mt.at.f (by omega)).mono ?_
    rintro e w' ⟨rfl,a',c',w1,hb,ho,rfl⟩
    have e1 : putM M j = { M with slots:=a2r M j 0,free:=M.free ++ [(j : Int)] }:=by simp [putM,hl]
    have hlen : (M.free ++ [(j : Int)]).length = M.free.length + 1:=by simp
    rw [e1]
    have hz : (w.setCell ⟨gS,j * 6,none⟩ (Vi Qi 0)).heap.size = w.heap.size:=World.size_setCell ..
    have hi':=b4i ho
    rw [<- hz] at hb ho
    have mg:=mt.newF (M.free ++ [(j : Int)]) (by rw [hlen]; omega) hb hlen ho
    refine ⟨rfl,⟨_,_,_,_,_,_,_,_,mg,b9y hf hi'⟩,?_⟩
    exact (((Fine.refl w Z).set (.inl hZ) (j * 6) (Vi Qi 0)).below hb).set (.inl (hf B (.inl rfl))) _ _
  · have hr2 : 1 < M.slots[j].refs:=by omega
    refine (put_more w B gS _ j cS _ _ _ _ _ m.box hj c0 (fz _) hr2 (by omega)).mono ?_
    rintro e w' ⟨rfl,rfl⟩
    have e1 : putM M j = { M with slots:=a2r M j (a0s M j - 1) }:=by simp [putM,hl]
    rw [e1]
    have mt:=turned m hj (M.slots[j].refs - 1)
    rw [<- hrr] at mt ⊢
    exact ⟨rfl,⟨_,_,_,_,_,_,_,_,mt,fun k hk => .inl (hf k hk)⟩,(Fine.refl w Z).set (.inl hZ) _ _⟩
end
end Go.Proofs.YthhgoenomehobaaGreat.mm
