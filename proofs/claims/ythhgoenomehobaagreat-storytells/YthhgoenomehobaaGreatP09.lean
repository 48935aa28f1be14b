/- Parts. -/
import Derived.Test.YthhgoenomehobaaGreatP06
import Derived.Test.YthhgoenomehobaaGreatP02
import Derived.Test.YthhgoenomehobaaGreatP08
namespace Go.Proofs.YthhgoenomehobaaGreat.mm
open Tryz renaming ntmps68 → fF, func68 → fG, underlying4 → fH, ntmps143 → fJ, func143 → fK, underlying36 → fM, prog → Pg
open Instr renaming index → fD, lookup → fE
open Joins renaming cell_of_block → dN
open Go renaming lt_of_block → fC, Value → dU, Calls → aI, rounds_succ → aJ, plainElem → bU, World → Wq
open Tryz
set_option maxRecDepth 100000
set_option linter.unusedVariables false
open Value renaming int → O, slice → Y
open IntKind renaming i64 → J
open ChangeShapes WideShapes ChangeAt RowKit Joins Maps
set_option maxHeartbeats 0
variable (x lo hi:Int)(aS aH aF aL:Option Addr)(nS nH nF nL cS cH cF cL:Nat)(je k:Int)(f:Fr)(aK:Option Addr)(cK:Nat)(a b t bk sl:Int)(w:Wq)
theorem Y4(hn:nS<=9223372036854775807)(hh:nH<=9223372036854775807) :
  aI Pg 143 #[.agg #[.slice aS nS cS,.slice aH nH cH,.slice aF nF cF,.slice aL nL cL,.int .i64 je],.agg #[.int .i64 k,.int .i64 a,.int .i64 b,.int .i64 t,.int .i64 bk,.int .i64 sl]] w fun e w'=>e=.returned (.int .i64 (Dh nS nH ⟨k,a,b,t,bk,sl⟩))/\Below w.heap.size w w':=by
 have b0:Below w.heap.size w ((w.alloc (.cells #[.slice aS nS cS,.slice aH nH cH,.slice aF nF cF,.slice aL nL cL,.int .i64 je] 25)).alloc (.cells #[.int .i64 k,.int .i64 a,.int .i64 b,.int .i64 t,.int .i64 bk,.int .i64 sl] 32)):=below_alloc2 w _ _
 have hk:∀ W:Wq,aI Pg 96 #[.agg #[.int .i64 a,.int .i64 b]] W fun e w'=>e=.returned (.int .i64 (if Ei a b then 0 else 3))/\Below W.heap.size W w':=fun W=>a3i a b W
 by_cases zt:k=1\/k=3
 ·rw[Yd zt]
  generalize (if Ei a b then (0:Int) else 3)=kv at *
  rcases zt with rfl|rfl
  all_goals
   go_enter fK,fJ
   go_wp2_with (go_at_call 96;refine(hk _).mono ?_;rintro e w1 ⟨rfl,bu⟩)
   go_ret
   exact⟨rfl,b0.trans (bu.mono b0.size)⟩
 by_cases h2:k=2
 ·subst h2
  clear zt
  rw[U5]
  cases hT:inB t 1 1000000
  ·rw[Bool.false_and,ae (by simp)]
   go_enter fK,fJ
   go_wp2_with (go_at_call 85;refine(Ci _ _ _ _).mono ?_;rintro e w1 ⟨rfl,rfl⟩)
   go_ret
   exact⟨rfl,b0⟩
  ·rw[Bool.true_and]
   generalize (if Ei a b then (0:Int) else 3)=kv at *
   go_enter fK,fJ
   go_wp2_with (first|(go_at_call 85;refine(Ci _ _ _ _).mono ?_;rintro e w1 ⟨rfl,rfl⟩)|(go_at_call 96;refine(hk _).mono ?_;rintro e w1 ⟨rfl,bu⟩))
   go_ret
   exact⟨rfl,b0.trans (bu.mono b0.size)⟩
 by_cases EZ:k=4\/k=5
 ·rw[a0p EZ]
  clear zt h2
  have hc:∀ W:Wq,aI Pg 97 #[.agg #[.slice aS nS cS,.slice aH nH cH,.slice aF nF cF,.slice aL nL cL,.int .i64 je],.int .i64 bk] W fun e w'=>e=.returned (.bool (inB bk 0 ((nH:Int) - 1)))/\Below W.heap.size W w':=fun W=>H7 aS aH aF aL nS nH nF nL cS cH cF cL je bk W hh
  cases hB:inB bk 0 ((nH:Int) - 1) <;> (rw[hB] at hc;rcases EZ with rfl|rfl)
  all_goals
   first|rw[af rfl] | rw[ae (by simp)]
   go_enter fK,fJ
   go_wp2_with (go_at_call 97;refine(hc _).mono ?_;rintro e w1 ⟨rfl,bu⟩)
   go_ret
   exact⟨rfl,b0.trans (bu.mono b0.size)⟩
 by_cases h6:k=6
 ·subst h6
  clear zt h2 EZ
  rw[Ur]
  have hc:∀ W:Wq,aI Pg 111 #[.agg #[.slice aS nS cS,.slice aH nH cH,.slice aF nF cF,.slice aL nL cL,.int .i64 je],.int .i64 sl] W fun e w'=>e=.returned (.bool (inB sl 0 ((nS:Int) - 1)))/\Below W.heap.size W w':=fun W=>Ep aS aH aF aL nS nH nF nL cS cH cF cL je sl W hn
  cases hB:inB sl 0 ((nS:Int) - 1) <;> rw[hB] at hc
  all_goals
   first|rw[af rfl] | rw[ae (by simp)]
   go_enter fK,fJ
   go_wp2_with (go_at_call 111;refine(hc _).mono ?_;rintro e w1 ⟨rfl,bu⟩)
   go_ret
   exact⟨rfl,b0.trans (bu.mono b0.size)⟩
 have UD:k<1\/6<k:=by omega
 rw[a0q UD]
 have e1:(k==1)=false:=by rw[beq_eq_false_iff_ne];omega
 have e2:(k==2)=false:=by rw[beq_eq_false_iff_ne];omega
 have e3:(k==3)=false:=by rw[beq_eq_false_iff_ne];omega
 have e4:(k==4)=false:=by rw[beq_eq_false_iff_ne];omega
 have e5:(k==5)=false:=by rw[beq_eq_false_iff_ne];omega
 have e6:(k==6)=false:=by rw[beq_eq_false_iff_ne];omega
 clear zt h2 EZ h6 UD
 go_enter fK,fJ
 go_wp2
 go_ret
 exact⟨rfl,b0⟩
theorem law4:Keyed Pg 4:=bool_keyed fH
theorem b6y:(zeroValue 36).run Pg w=.ok (.int .i64 0) w:=by kernel_rfl
theorem a2m:Pg.underlying 156=some (.map 4 36):=by kernel_rfl
theorem plainElem_int_inv{H:Type}{v:dU}{z:DataW H × List MemPlace}(h:bU Pg 36 v=some z):∃ x,v=.int .i64 x/\z=(.lit (.int .i64 x),[]):=by
 unfold bU at h
 rw[fM] at h
 cases v <;> simp at h
 obtain⟨⟨rfl,_⟩,h⟩:=h
 exact⟨_,rfl,h.symm⟩
def Jj(w:Wq)(g:Nat):Prop :=
 ∃ n,∃ D:DataW Unit,w.ownsMap Pg 4 (bU Pg 36) g n D/\∀ x:Bool,D.atKey (.bool x) (.lit (.int .i64 0))=.lit (.int .i64 (if x then 0 else 3))
theorem Jj.kept{w w':Wq}{g:Nat}(h:Jj w g)(hb:w'.heap[g]?=w.heap[g]?):Jj w' g:=by
 obtain⟨n,D,⟨es,qX,hg,F,hs,hD⟩,jc⟩:=h
 exact⟨n,D,⟨es,qX,hb.trans hg,F,hs,hD⟩,jc⟩
theorem Jj.lt{w:Wq}{g:Nat}(h:Jj w g):g<w.heap.size:=by
 obtain⟨n,D,⟨es,qX,hg,F,hs,hD⟩,jc⟩:=h
 exact fC hg
theorem Jj.look{w:Wq}{g:Nat}(h:Jj w g)(x:Bool):(fE 156 (.map (some g)) (.bool x) false).run Pg w=.ok (.int .i64 (if x then 0 else 3)) w:=by
 obtain⟨n,D,ho,jc⟩:=h
 obtain⟨v,ps,yf,hv⟩:=ho.lookup law4 a2m (b6y w) (plainElem_int fM (by first|decide|exact Ex.ne _ _ (by decide))) (keyOf_bool_mk fH x)
 rw[jc x] at hv
 obtain⟨y,rfl,hz⟩:=plainElem_int_inv hv
 rw[yf]
 injection hz with h1 h2
 injection h1 with h1
 injection h1 with _ h1
 rw[h1]
theorem Jj.put{w':Wq}{g n:Nat}(h:w'.ownsMap Pg 4 (bU Pg 36) g n ((DataW.map []:DataW Unit).put (.bool false) (.lit (.int .i64 3)))):Jj w' g:=by
 refine⟨n,_,h,fun x=>?_⟩
 cases x
 ·rw[atKey_put_same ⟨_,rfl⟩ (by simp[WideAt.IsKeyLit])];rfl
 ·rw[atKey_put_other (by intro hh;cases hh)];simp[DataW.atKey]
theorem b5g{w:Wq}{B:Nat}{v0 v1 v2 v3 v4 v5:dU}{t:TypeId}(h:w.heap[B]?=some (.cells #[v0,v1,v2,v3,v4,v5] t (0,0))) :
  w.cell? ⟨B,0,none⟩=some v0/\w.cell? ⟨B,1,none⟩=some v1/\w.cell? ⟨B,2,none⟩=some v2/\w.cell? ⟨B,3,none⟩=some v3/\w.cell? ⟨B,4,none⟩=some v4/\w.cell? ⟨B,5,none⟩=some v5/\B<w.heap.size :=
 ⟨by rw[dN h];rfl,by rw[dN h];rfl,by rw[dN h];rfl,by rw[dN h];rfl,by rw[dN h];rfl,by rw[dN h];rfl,fC h⟩
theorem Ro{w1 w2:Wq}{B:Nat}{v0 v1 v2 v3 v4 v5:dU}(hb:Below w1.heap.size w1 w2)(c0:w1.cell? ⟨B,0,none⟩=some v0)(c1:w1.cell? ⟨B,1,none⟩=some v1)(c2:w1.cell? ⟨B,2,none⟩=some v2)(c3:w1.cell? ⟨B,3,none⟩=some v3)(c4:w1.cell? ⟨B,4,none⟩=some v4)(c5:w1.cell? ⟨B,5,none⟩=some v5)(cs:B<w1.heap.size) :
  w2.cell? ⟨B,0,none⟩=some v0/\w2.cell? ⟨B,1,none⟩=some v1/\w2.cell? ⟨B,2,none⟩=some v2/\w2.cell? ⟨B,3,none⟩=some v3/\w2.cell? ⟨B,4,none⟩=some v4/\w2.cell? ⟨B,5,none⟩=some v5/\B<w2.heap.size:=by
 obtain⟨q,f⟩:=Ce hb
 exact⟨(q _ _ cs).trans c0,(q _ _ cs).trans c1,(q _ _ cs).trans c2,(q _ _ cs).trans c3,(q _ _ cs).trans c4,(q _ _ cs).trans c5,Nat.lt_of_lt_of_le cs hb.size⟩
theorem a1v{w W0 w1:Wq}{om oc o1 o2:Obj}(hB:W0.heap[w.heap.size]?=some om)(hC:W0.heap[w.heap.size+1]?=some oc)(hz:W0.heap.size=w.heap.size+2)(hb:Below w.heap.size w W0)(hd:Jj w1 (w.heap.size+1+1))(e1:om=o1)(e2:oc=o2)
  (hg:(W0.alloc (.map #[] 0)).grownBy w1 (some (w.heap.size+1+1))):Jj w1 (w.heap.size+1+1)/\Below w.heap.size w w1/\w1.heap[w.heap.size]?=some om/\w1.heap[w.heap.size+1]?=some oc:=by
 have h1:Below W0.heap.size W0 w1:=(A7 W0 (.map #[] 0)).grown hg (by simp) (fun k h=>by cases h;omega)
 exact⟨hd,hb.trans (h1.mono (by omega)),(h1.block _ (by omega)).trans hB,(h1.block _ (by omega)).trans hC⟩
theorem Xo(hn:nS<=9223372036854775807)(hh:nH<=9223372036854775807) :
  aI Pg 68 #[.agg #[.slice aS nS cS,.slice aH nH cH,.slice aF nF cF,.slice aL nL cL,.int .i64 je],.agg #[.int .i64 k,.int .i64 a,.int .i64 b,.int .i64 t,.int .i64 bk,.int .i64 sl]] w fun e w'=>e=.returned (.int .i64 (Dh nS nH ⟨k,a,b,t,bk,sl⟩))/\Below w.heap.size w w':=by
 obtain⟨om,vM⟩:∃ o:Obj,o=.cells #[.slice aS nS cS,.slice aH nH cH,.slice aF nF cF,.slice aL nL cL,.int .i64 je] 25:=⟨_,rfl⟩
 obtain⟨oc,IX⟩:∃ o:Obj,o=.cells #[.int .i64 k,.int .i64 a,.int .i64 b,.int .i64 t,.int .i64 bk,.int .i64 sl] 32:=⟨_,rfl⟩
 have b0:Below w.heap.size w ((w.alloc om).alloc oc):=below_alloc2 w _ _
 have tq:Qi (((w.alloc om).alloc oc).heap[w.heap.size]?=some om):=by show _=_;rw[Below.heap_alloc _ _ _ (by simp),heap_alloc_new]
 have ny:Qi (((w.alloc om).alloc oc).heap[w.heap.size+1]?=some oc):=by
  have:=heap_alloc_new (w.alloc om) oc
  rwa [show (w.alloc om).heap.size=w.heap.size+1 by simp] at this
 have rC:Qi (((w.alloc om).alloc oc).heap.size=w.heap.size+2):=by show _=_;simp
 have yG:=@run_makeMap Pg
 have XN:Qi (((((w.alloc (.cells #[.slice aS nS cS,.slice aH nH cH,.slice aF nF cF,.slice aL nL cL,.int .i64 je] 25)).alloc (.cells #[.int .i64 k,.int .i64 a,.int .i64 b,.int .i64 t,.int .i64 bk,.int .i64 sl] 32)).alloc (.map #[] 0))).ownsMap Pg 4 (bU Pg 36) (w.heap.size+1+1) 0 (.map []:DataW Unit)):=by
  have:=World.ownsMap_made (H:=Unit) ((w.alloc (.cells #[.slice aS nS cS,.slice aH nH cH,.slice aF nF cF,.slice aL nL cL,.int .i64 je] 25)).alloc (.cells #[.int .i64 k,.int .i64 a,.int .i64 b,.int .i64 t,.int .i64 bk,.int .i64 sl] 32)) Pg 4 (bU Pg 36)
  rwa [show ((w.alloc (.cells #[.slice aS nS cS,.slice aH nH cH,.slice aF nF cF,.slice aL nL cL,.int .i64 je] 25)).alloc (.cells #[.int .i64 k,.int .i64 a,.int .i64 b,.int .i64 t,.int .i64 bk,.int .i64 sl] 32)).heap.size=w.heap.size+1+1 by simp] at this
 have hk:∀ W:Wq,aI Pg 109 #[.agg #[.int .i64 a,.int .i64 b]] W fun e w'=>e=.returned (.bool (Ei a b))/\Below W.heap.size W w':=fun W=>Ug a b W
 obtain⟨E0,lh⟩:∃ x,x=Dh nS nH ⟨k,a,b,t,bk,sl⟩:=⟨_,rfl⟩
 rw[<- lh]
 have mr:Qi (E0=Dh nS nH ⟨k,a,b,t,bk,sl⟩):=lh
 clear lh
 obtain⟨w1,yf,vC,BD⟩:=XN.o.update law4 a2m (show 0<maxLen by decide) (keyOf_bool_mk fH false) (plainElem_int (H:=Unit) fM (q:=.i64) (a:=3) (by first|decide|exact Ex.ne _ _ (by decide)))
 have SH:Qi (Jj w1 (w.heap.size+1+1)/\Below w.heap.size w w1/\w1.heap[w.heap.size]?=some om/\w1.heap[w.heap.size+1]?=some oc):=by
  subst vM IX
  exact a1v tq.o ny.o rC.o b0 (Jj.put vC) rfl rfl BD
 clear vC BD tq ny rC XN b0
 subst vM IX
 obtain⟨q0,q1,q2,q3,q4,-,-,-,-,-,qs⟩:=Aj SH.o.2.2.1
 obtain⟨c0,c1,c2,c3,c4,c5,cs⟩:=b5g SH.o.2.2.2
 have look:∀ (W:Wq) (x:Bool),Below w1.heap.size w1 W->(fE 156 (.map (some (w.heap.size+1+1))) (.bool x) false).run Pg W=.ok (.int .i64 (if x then 0 else 3)) W:=fun W x hb=>Jj.look (Jj.kept SH.o.1 (hb.block _ (Jj.lt SH.o.1))) x
 have yz:Qi _:=look
 have iy:Qi (Below w.heap.size w w1):=SH.o.2.1
 clear look SH
 by_cases zt:k=1\/k=3
 ·have HV:Qi (E0=if Ei a b then 0 else 3):=mr.o.trans (Yd zt)
  clear mr
  rcases zt with rfl|rfl
  all_goals
   go_enter fG,fF
   go_wp2_with (go_at_call 109;refine(hk _).mono ?_;rintro e w2 ⟨rfl,dm⟩;have tJ:=yz.o w2 (Ei a b) dm;rw[<- HV.o] at tJ;clear q0 q1 q2 q3 q4 qs c0 c1 c2 c3 c4 c5 cs)
   go_ret
   exact⟨rfl,iy.o.trans (dm.mono iy.o.size)⟩
 by_cases h2:k=2
 ·subst h2
  clear zt
  have HV:Qi (E0=if inB t 1 1000000 && Ei a b then 0 else 3):=mr.o.trans U5
  clear mr
  cases hK:Ei a b
  ·rw[hK] at hk
   rw[hK,Bool.and_false,ae (by simp)] at HV
   go_enter fG,fF
   go_wp2_with (go_at_call 109;refine(hk _).mono ?_;rintro e w2 ⟨rfl,dm⟩;have tJ:=yz.o w2 false dm;clear q0 q1 q2 q3 q4 qs c0 c1 c2 c3 c4 c5 cs)
   go_ret
   exact⟨by rw[HV.o];rfl,iy.o.trans (dm.mono iy.o.size)⟩
  ·rw[hK] at hk
   rw[hK,Bool.and_true] at HV
   have hc:t<1\/(1<=t/\t<=1000000)\/(1<=t/\1000000<t):=by omega
   rcases hc with h|⟨h,h'⟩|⟨h,h'⟩
   ·rw[show inB t 1 1000000=false by simp[inB];omega] at HV
    go_enter fG,fF
    go_wp2_with (go_at_call 109;refine(hk _).mono ?_;rintro e w2 ⟨rfl,dm⟩;have tJ:=yz.o w2 false dm;clear q0 q1 q2 q3 q4 qs;obtain⟨c0,c1,c2,c3,c4,c5,cs⟩:=Ro dm c0 c1 c2 c3 c4 c5 cs)
    go_ret
    exact⟨by rw[HV.o];rfl,iy.o.trans (dm.mono iy.o.size)⟩
   ·rw[show inB t 1 1000000=true from (Ar _ _ _).2 ⟨h,h'⟩] at HV
    go_enter fG,fF
    go_wp2_with (go_at_call 109;refine(hk _).mono ?_;rintro e w2 ⟨rfl,dm⟩;have tJ:=yz.o w2 true dm;clear q0 q1 q2 q3 q4 qs;obtain⟨c0,c1,c2,c3,c4,c5,cs⟩:=Ro dm c0 c1 c2 c3 c4 c5 cs)
    go_ret
    exact⟨by rw[HV.o];rfl,iy.o.trans (dm.mono iy.o.size)⟩
   ·rw[show inB t 1 1000000=false by simp[inB];omega] at HV
    have hd:decide (t<=1000000)=false:=by simp;omega
    go_enter fG,fF
    go_wp2_with (go_at_call 109;refine(hk _).mono ?_;rintro e w2 ⟨rfl,dm⟩;have tJ:=yz.o w2 false dm;clear q0 q1 q2 q3 q4 qs;obtain⟨c0,c1,c2,c3,c4,c5,cs⟩:=Ro dm c0 c1 c2 c3 c4 c5 cs)
    go_ret
    exact⟨by rw[HV.o];rfl,iy.o.trans (dm.mono iy.o.size)⟩
 by_cases EZ:k=4\/k=5
 ·have HV:Qi (E0=if inB bk 0 ((nH:Int) - 1) then 0 else 5):=mr.o.trans (a0p EZ)
  clear mr zt h2
  have hc:bk<0\/(0<=bk/\bk<nH)\/(0<=bk/\(nH:Int)<=bk):=by omega
  rcases hc with h|⟨h,h'⟩|⟨h,h'⟩
  ·rw[show inB bk 0 ((nH:Int) - 1)=false by simp[inB];omega] at HV
   rcases EZ with rfl|rfl
   all_goals
    go_enter fG,fF
    go_wp2
    go_ret
    exact⟨by rw[HV.o];rfl,iy.o⟩
  ·rw[show inB bk 0 ((nH:Int) - 1)=true from (Ar _ _ _).2 ⟨h,by omega⟩] at HV
   rcases EZ with rfl|rfl
   all_goals
    go_enter fG,fF
    go_wp2
    go_ret
    exact⟨by rw[HV.o];rfl,iy.o⟩
  ·rw[show inB bk 0 ((nH:Int) - 1)=false by simp[inB];omega] at HV
   rcases EZ with rfl|rfl
   all_goals
    go_enter fG,fF
    go_wp2
    go_ret
    exact⟨by rw[HV.o];rfl,iy.o⟩
 by_cases h6:k=6
 ·subst h6
  have HV:Qi (E0=if inB sl 0 ((nS:Int) - 1) then 0 else 5):=mr.o.trans Ur
  clear mr zt h2 EZ
  have hc:sl<0\/(0<=sl/\sl<nS)\/(0<=sl/\(nS:Int)<=sl):=by omega
  rcases hc with h|⟨h,h'⟩|⟨h,h'⟩
  ·rw[show inB sl 0 ((nS:Int) - 1)=false by simp[inB];omega] at HV
   go_enter fG,fF
   go_wp2
   go_ret
   exact⟨by rw[HV.o];rfl,iy.o⟩
  ·rw[show inB sl 0 ((nS:Int) - 1)=true from (Ar _ _ _).2 ⟨h,by omega⟩] at HV
   go_enter fG,fF
   go_wp2
   go_ret
   exact⟨by rw[HV.o];rfl,iy.o⟩
  ·rw[show inB sl 0 ((nS:Int) - 1)=false by simp[inB];omega] at HV
   go_enter fG,fF
   go_wp2
   go_ret
   exact⟨by rw[HV.o];rfl,iy.o⟩
 have UD:k<1\/6<k:=by omega
 have HV:Qi (E0=4):=mr.o.trans (a0q UD)
 have e1:(k==1)=false:=by rw[beq_eq_false_iff_ne];omega
 have e2:(k==2)=false:=by rw[beq_eq_false_iff_ne];omega
 have e3:(k==3)=false:=by rw[beq_eq_false_iff_ne];omega
 have e4:(k==4)=false:=by rw[beq_eq_false_iff_ne];omega
 have e5:(k==5)=false:=by rw[beq_eq_false_iff_ne];omega
 have e6:(k==6)=false:=by rw[beq_eq_false_iff_ne];omega
 clear zt h2 EZ h6 UD mr
 go_enter fG,fF
 go_wp2
 go_ret
 exact⟨by rw[HV.o];rfl,iy.o⟩
theorem frObj:∃ o:Obj,o=.cells #[.int .i64 f.c.k,.int .i64 f.c.a,.int .i64 f.c.b,.int .i64 f.c.t,.int .i64 f.c.q,.int .i64 f.c.h,.int .i64 f.l,.int .i64 f.u,.int .i64 f.p,.int .i64 f.h,.int .i64 f.n,.slice aK f.t.length cK,.bool f.d,.int .i64 f.e] 47:=⟨_,rfl⟩
theorem A8{w:Wq}{B:Nat}{v0 v1 v2 v3 v4 v5 v6 v7 v8 v9 v10 v11 v12 v13:dU}{t:TypeId}(h:w.heap[B]?=some (.cells #[v0,v1,v2,v3,v4,v5,v6,v7,v8,v9,v10,v11,v12,v13] t (0,0))) :
  w.cell? ⟨B,0,none⟩=some v0/\w.cell? ⟨B,1,none⟩=some v1/\w.cell? ⟨B,2,none⟩=some v2/\w.cell? ⟨B,3,none⟩=some v3/\w.cell? ⟨B,4,none⟩=some v4/\w.cell? ⟨B,5,none⟩=some v5/\w.cell? ⟨B,6,none⟩=some v6/\w.cell? ⟨B,7,none⟩=some v7/\w.cell? ⟨B,8,none⟩=some v8/\w.cell? ⟨B,9,none⟩=some v9/\w.cell? ⟨B,10,none⟩=some v10/\w.cell? ⟨B,11,none⟩=some v11/\w.cell? ⟨B,12,none⟩=some v12/\w.cell? ⟨B,13,none⟩=some v13/\(∀ q,w.frozen? ⟨B,q,none⟩=false)/\B<w.heap.size :=
 ⟨by rw[dN h];rfl,by rw[dN h];rfl,by rw[dN h];rfl,by rw[dN h];rfl,by rw[dN h];rfl,by rw[dN h];rfl,by rw[dN h];rfl,by rw[dN h];rfl,by rw[dN h];rfl,by rw[dN h];rfl,by rw[dN h];rfl,by rw[dN h];rfl,by rw[dN h];rfl,by rw[dN h];rfl,fun q=>unfrozen_of_block h q,fC h⟩
theorem a7c:aI Pg 145 #[.agg #[O J x,O J lo,O J hi]] w fun e w'=>e=.returned (.bool (inB x lo hi))/\Below w.heap.size w w':=by
 go_enter func145,ntmps145
 go_wp2_with (go_at_call 85;refine(Ci _ _ _ _).mono ?_;rintro e w1 ⟨rfl,rfl⟩)
 go_ret
 exact⟨rfl,A7 _ _⟩
theorem a1e{nS nH:Nat}{f:Fr}(h:Dh nS nH f.c≠0):frE nS nH f=Dh nS nH f.c:=by unfold frE;rw[af h]
theorem I4{nS nH:Nat}{f:Fr}(h:Dh nS nH f.c=0)(h1:inB f.l 0 9=false\/inB f.n 0 1000000=false\/f.d=true):frE nS nH f=3:=by unfold frE;rw[ae (by simpa using h),af h1]
theorem Ih{nS nH:Nat}{f:Fr}(h:Dh nS nH f.c=0)(h1:inB f.l 0 9=true)(h2:inB f.n 0 1000000=true)(h3:f.d=false)(h4:inB f.u (-(nH:Int)) nS=false\/inB f.p 0 nS=false\/inB f.h (-1) ((nS:Int) - 1)=false):frE nS nH f=5:=by
 unfold frE;rw[ae (by simpa using h),ae (by rw[h1,h2,h3];simp),af h4]
theorem a1f{nS nH:Nat}{f:Fr}(h:Dh nS nH f.c=0)(h1:inB f.l 0 9=true)(h2:inB f.n 0 1000000=true)(h3:f.d=false)(h4:inB f.u (-(nH:Int)) nS=true)(h5:inB f.p 0 nS=true)(h6:inB f.h (-1) ((nS:Int) - 1)=true):frE nS nH f=if 100<f.t.length then 2 else 0:=by
 unfold frE;rw[ae (by simpa using h),ae (by rw[h1,h2,h3];simp),ae (by rw[h4,h5,h6];simp)]
theorem a0o{nS nH:Nat}{c:Cl}{E:Int}(h:E=Dh nS nH c)(aS aH aF aL:Option Addr)(nF nL cS cH cF cL:Nat)(je:Int)(w:Wq)(hn:nS<=9223372036854775807)(hh:nH<=9223372036854775807) :
  aI Pg 143 #[.agg #[Y aS nS cS,Y aH nH cH,Y aF nF cF,Y aL nL cL,O J je],Gj c] w fun e w'=>e=.returned (O J E)/\Below w.heap.size w w':=by
 unfold Gj
 subst h;exact Y4 aS aH aF aL nS nH nF nL cS cH cF cL je _ _ _ _ _ _ w hn hh
theorem Z4{nS nH:Nat}{c:Cl}{E:Int}(h:E=Dh nS nH c)(aS aH aF aL:Option Addr)(nF nL cS cH cF cL:Nat)(je:Int)(w:Wq)(hn:nS<=9223372036854775807)(hh:nH<=9223372036854775807) :
  aI Pg 68 #[.agg #[Y aS nS cS,Y aH nH cH,Y aF nF cF,Y aL nL cL,O J je],Gj c] w fun e w'=>e=.returned (O J E)/\Below w.heap.size w w':=by
 unfold Gj
 subst h;exact Xo aS aH aF aL nS nH nF nL cS cH cF cL je _ _ _ _ _ _ w hn hh
theorem Hm{x lo hi:Int}{r:Bool}(h:inB x lo hi=r)(w:Wq):aI Pg 145 #[.agg #[O J x,O J lo,O J hi]] w fun e w'=>e=.returned (.bool r)/\Below w.heap.size w w':=by
 subst h;exact a7c x lo hi w
theorem a1d(hn:nS<=9223372036854775000)(hh:nH<=9223372036854775000)(hk:f.t.length<=9223372036854775807) :
  aI Pg 112 #[.agg #[Y aS nS cS,Y aH nH cH,Y aF nF cF,Y aL nL cL,O J je],Ai f aK cK] w fun e w'=>e=.returned (O J (frE nS nH f))/\Below w.heap.size w w':=by
 unfold Ai
 obtain⟨om,vM⟩:∃ o:Obj,o=.cells #[Y aS nS cS,Y aH nH cH,Y aF nF cF,Y aL nL cL,O J je] 25:=⟨_,rfl⟩
 obtain⟨of,df⟩:=frObj f aK cK
 have mr:Qi (Env w ((w.alloc om).alloc of) _ []):=((⟨Below.refl _ _,(fun p hp=>by cases hp),(fun p hp=>by cases hp)⟩:Env w w [] []).alloc om).alloc of
 rw[show (w.alloc om).heap.size=w.heap.size+1 by simp] at mr
 obtain⟨C0,wY⟩:∃ x,x=Dh nS nH f.c:=⟨_,rfl⟩
 have ny:Qi (C0=Dh nS nH f.c):=wY
 obtain⟨E0,lh⟩:∃ x,x=frE nS nH f:=⟨_,rfl⟩
 rw[<- lh]
 have lq:Qi (E0=frE nS nH f):=lh
 clear wY lh
 have i0:∀ (a b c d e g:dU) w,(fD 183 (.agg #[a,b,c,d,e,g]) (O J 0)).run Pg w=.ok (.agg #[a,b,c]) w:=fun _ _ _ _ _ _ _=>by kernel_rfl
 have i1:∀ (a b c d e g:dU) w,(fD 183 (.agg #[a,b,c,d,e,g]) (O J 1)).run Pg w=.ok (.agg #[d,e,g]) w:=fun _ _ _ _ _ _ _=>by kernel_rfl
 have j0:∀ (a b c d e g h i j:dU) w,(fD 184 (.agg #[a,b,c,d,e,g,h,i,j]) (O J 0)).run Pg w=.ok (.agg #[a,b,c]) w:=fun _ _ _ _ _ _ _ _ _ _=>by kernel_rfl
 have j1:∀ (a b c d e g h i j:dU) w,(fD 184 (.agg #[a,b,c,d,e,g,h,i,j]) (O J 1)).run Pg w=.ok (.agg #[d,e,g]) w:=fun _ _ _ _ _ _ _ _ _ _=>by kernel_rfl
 have j2:∀ (a b c d e g h i j:dU) w,(fD 184 (.agg #[a,b,c,d,e,g,h,i,j]) (O J 2)).run Pg w=.ok (.agg #[h,i,j]) w:=fun _ _ _ _ _ _ _ _ _ _=>by kernel_rfl
 go_enter func112,ntmps112
 go_wp2_with fail
 rw[<- vM,<- df]
 generalize (w.alloc om).alloc of=W0 at *
 subst vM df
 refine(a0o ny.o aS aH aF aL nF nL cS cH cF cL je W0 (by omega) (by omega)).mono ?_
 rintro e w1 ⟨rfl,bu⟩
 have gp:Qi _:=mr.o.below bu
 clear mr bu
 by_cases hC:C0=0
 rotate_left
 ·have h':(C0 != 0)=true:=by simpa using hC
  have HV:Qi (E0=C0):=by rw[lq.o,ny.o];exact a1e (by rw[<- ny.o];exact hC)
  go_wp2
  go_ret
  exact⟨by rw[HV.o];rfl,gp.o.bl⟩
 subst hC
 have HC:Qi (Dh nS nH f.c=0):=ny.o.symm
 clear ny
 obtain⟨f0,f1,f2,f3,f4,f5,f6,f7,f8,f9,ay,au,aj,ak,-,fs⟩:=A8 (gp.o.box _ (.head _))
 obtain⟨q0,q1,q2,q3,q4,-,-,-,-,-,qs⟩:=Aj (gp.o.box _ (.tail _ (.head _)))
 go_wp2_with fail
 refine wp_loop_rounds 3 ?_
 rw[aJ]
 go_wp2_with fail
 clear f0 f1 f2 f3 f4 f5 f6 f7 f8 f9 ay au aj ak fs q0 q1 q2 q3 q4 qs
 have ug:Qi _:=gp.o.alloc (.cells #[O J f.l,O J 0,O J 9] 182)
 cases hA:inB f.l 0 9
 ·refine(Hm hA _).mono ?_
  rintro e w2 ⟨rfl,dm⟩
  have ai:Qi _:=ug.o.below dm
  have HV:Qi (E0=3):=lq.o.trans (I4 HC.o (.inl hA))
  clear ug dm
  go_wp2
  go_ret
  exact⟨by rw[HV.o];rfl,ai.o.bl⟩
 refine(Hm hA _).mono ?_
 rintro e w2 ⟨rfl,dm⟩
 have ai:Qi _:=ug.o.below dm
 have G1:Qi (inB f.l 0 9=true):=hA
 clear ug dm hA
 go_wp2_with fail
 rw[aJ]
 go_wp2_with fail
 have sZ:Qi _:=ai.o.alloc (.cells #[O J f.n,O J 0,O J 1000000] 182)
 cases hA:inB f.n 0 1000000
 ·refine(Hm hA _).mono ?_
  rintro e w3 ⟨rfl,gu⟩
  have di:Qi _:=sZ.o.below gu
  have HV:Qi (E0=3):=lq.o.trans (I4 HC.o (.inr (.inl hA)))
  clear sZ gu
  go_wp2
  go_ret
  exact⟨by rw[HV.o];rfl,di.o.bl⟩
 refine(Hm hA _).mono ?_
 rintro e w3 ⟨rfl,gu⟩
 have di:Qi _:=sZ.o.below gu
 have G2:Qi (inB f.n 0 1000000=true):=hA
 clear sZ gu hA
 go_wp2_with fail
 rw[aJ]
 obtain⟨f0,f1,f2,f3,f4,f5,f6,f7,f8,f9,ay,au,aj,ak,-,fs⟩:=A8 (di.o.box _ (.tail _ (.tail _ (.head _))))
 obtain⟨q0,q1,q2,q3,q4,-,-,-,-,-,qs⟩:=Aj (di.o.box _ (.tail _ (.tail _ (.tail _ (.head _)))))
 cases hD:f.d
 rotate_left
 ·have HV:Qi (E0=3):=lq.o.trans (I4 HC.o (.inr (.inr hD)))
  rw[hD] at aj
  go_wp2
  go_ret
  exact⟨by rw[HV.o];rfl,di.o.bl⟩
 rw[hD] at aj
 have HD:Qi (f.d=false):=hD
 clear hD
 go_wp2_with fail
 refine wp_loop_rounds 4 ?_
 rw[aJ]
 go_wp2_with fail
 clear f0 f1 f2 f3 f4 f5 f6 f7 f8 f9 ay au aj ak fs q0 q1 q2 q3 q4 qs
 have yO:Qi _:=di.o.alloc (.cells #[O J f.u,O J (-(nH:Int)),O J nS] 182)
 cases hA:inB f.u (-(nH:Int)) nS
 ·refine(Hm hA _).mono ?_
  rintro e w4 ⟨rfl,qK⟩
  have mf:Qi _:=yO.o.below qK
  have HV:Qi (E0=5):=lq.o.trans (Ih HC.o G1.o G2.o HD.o (.inl hA))
  clear yO qK
  go_wp2
  go_ret
  exact⟨by rw[HV.o];rfl,mf.o.bl⟩
 refine(Hm hA _).mono ?_
 rintro e w4 ⟨rfl,qK⟩
 have mf:Qi _:=yO.o.below qK
 have G3:Qi (inB f.u (-(nH:Int)) nS=true):=hA
 clear yO qK hA
 go_wp2_with fail
 rw[aJ]
 go_wp2_with fail
 have JY:Qi _:=mf.o.alloc (.cells #[O J f.p,O J 0,O J nS] 182)
 cases hA:inB f.p 0 nS
 ·refine(Hm hA _).mono ?_
  rintro e w5 ⟨rfl,tY⟩
  have HE5:Qi _:=JY.o.below tY
  have HV:Qi (E0=5):=lq.o.trans (Ih HC.o G1.o G2.o HD.o (.inr (.inl hA)))
  clear JY tY
  go_wp2
  go_ret
  exact⟨by rw[HV.o];rfl,HE5.o.bl⟩
 refine(Hm hA _).mono ?_
 rintro e w5 ⟨rfl,tY⟩
 have HE5:Qi _:=JY.o.below tY
 have G4:Qi (inB f.p 0 nS=true):=hA
 clear JY tY hA
 go_wp2_with fail
 rw[aJ]
 go_wp2_with fail
 have GX:Qi _:=HE5.o.alloc (.cells #[O J f.h,O J (-1),O J ((nS:Int) - 1)] 182)
 cases hA:inB f.h (-1) ((nS:Int) - 1)
 ·refine(Hm hA _).mono ?_
  rintro e w6 ⟨rfl,uD⟩
  have SE:Qi _:=GX.o.below uD
  have HV:Qi (E0=5):=lq.o.trans (Ih HC.o G1.o G2.o HD.o (.inr (.inr hA)))
  clear GX uD
  go_wp2
  go_ret
  exact⟨by rw[HV.o];rfl,SE.o.bl⟩
 refine(Hm hA _).mono ?_
 rintro e w6 ⟨rfl,uD⟩
 have SE:Qi _:=GX.o.below uD
 have G5:Qi (inB f.h (-1) ((nS:Int) - 1)=true):=hA
 clear GX uD hA
 go_wp2_with fail
 rw[aJ]
 obtain⟨f0,f1,f2,f3,f4,f5,f6,f7,f8,f9,ay,au,aj,ak,-,fs⟩:=A8 (SE.o.box _ (.tail _ (.tail _ (.tail _ (.tail _ (.tail _ (.head _)))))))
 obtain⟨q0,q1,q2,q3,q4,-,-,-,-,-,qs⟩:=Aj (SE.o.box _ (.tail _ (.tail _ (.tail _ (.tail _ (.tail _ (.tail _ (.head _))))))))
 have HV:Qi (E0=if 100<f.t.length then 2 else 0):=lq.o.trans (a1f HC.o G1.o G2.o HD.o G3.o G4.o G5.o)
 by_cases hK:100<f.t.length
 ·rw[af hK] at HV
  go_wp2
  go_ret
  exact⟨by rw[HV.o];rfl,SE.o.bl⟩
 ·rw[ae hK] at HV
  have hK':f.t.length<=100:=by omega
  go_wp2
  go_ret
  exact⟨by rw[HV.o];rfl,SE.o.bl⟩
theorem a0a(hn:nS<=9223372036854775000)(hh:nH<=9223372036854775000)(hk:f.t.length<=9223372036854775807) :
  aI Pg 62 #[.agg #[Y aS nS cS,Y aH nH cH,Y aF nF cF,Y aL nL cL,O J je],Ai f aK cK] w fun e w'=>e=.returned (O J (frE nS nH f))/\Below w.heap.size w w':=by
 unfold Ai
 obtain⟨om,vM⟩:∃ o:Obj,o=.cells #[Y aS nS cS,Y aH nH cH,Y aF nF cF,Y aL nL cL,O J je] 25:=⟨_,rfl⟩
 obtain⟨of,df⟩:=frObj f aK cK
 have mr:Qi (Env w ((w.alloc om).alloc of) _ []):=((⟨Below.refl _ _,(fun p hp=>by cases hp),(fun p hp=>by cases hp)⟩:Env w w [] []).alloc om).alloc of
 rw[show (w.alloc om).heap.size=w.heap.size+1 by simp] at mr
 obtain⟨C0,wY⟩:∃ x,x=Dh nS nH f.c:=⟨_,rfl⟩
 have ny:Qi (C0=Dh nS nH f.c):=wY
 obtain⟨E0,lh⟩:∃ x,x=frE nS nH f:=⟨_,rfl⟩
 rw[<- lh]
 have lq:Qi (E0=frE nS nH f):=lh
 clear wY lh
 go_enter func62,ntmps62
 go_wp2_with fail
 rw[<- vM,<- df]
 generalize (w.alloc om).alloc of=W0 at *
 subst vM df
 refine(Z4 ny.o aS aH aF aL nF nL cS cH cF cL je W0 (by omega) (by omega)).mono ?_
 rintro e w1 ⟨rfl,bu⟩
 have gp:Qi _:=mr.o.below bu
 clear mr bu
 by_cases hC:C0=0
 rotate_left
 ·have h':(C0 != 0)=true:=by simpa using hC
  have HV:Qi (E0=C0):=by rw[lq.o,ny.o];exact a1e (by rw[<- ny.o];exact hC)
  go_wp2
  go_ret
  exact⟨by rw[HV.o];rfl,gp.o.bl⟩
 subst hC
 have HC:Qi (Dh nS nH f.c=0):=ny.o.symm
 clear ny
 obtain⟨f0,f1,f2,f3,f4,f5,f6,f7,f8,f9,ay,au,aj,ak,-,fs⟩:=A8 (gp.o.box _ (.head _))
 obtain⟨q0,q1,q2,q3,q4,-,-,-,-,-,qs⟩:=Aj (gp.o.box _ (.tail _ (.head _)))
 by_cases hx:f.l<0
 ·have HV:Qi (E0=3):=lq.o.trans (I4 HC.o (.inl (by simp[inB];omega)))
  go_wp2
  go_ret
  exact⟨by rw[HV.o];rfl,gp.o.bl⟩
 have a0:0<=f.l:=by omega
 clear hx
 by_cases hx:9<f.l
 ·have HV:Qi (E0=3):=lq.o.trans (I4 HC.o (.inl (by simp[inB];omega)))
  go_wp2
  go_ret
  exact⟨by rw[HV.o];rfl,gp.o.bl⟩
 have a1:f.l<=9:=by omega
 clear hx
 by_cases hx:f.n<0
 ·have HV:Qi (E0=3):=lq.o.trans (I4 HC.o (.inr (.inl (by simp[inB];omega))))
  go_wp2
  go_ret
  exact⟨by rw[HV.o];rfl,gp.o.bl⟩
 have a2:0<=f.n:=by omega
 clear hx
 by_cases hx:1000000<f.n
 ·have HV:Qi (E0=3):=lq.o.trans (I4 HC.o (.inr (.inl (by simp[inB];omega))))
  go_wp2
  go_ret
  exact⟨by rw[HV.o];rfl,gp.o.bl⟩
 have a3:f.n<=1000000:=by omega
 clear hx
 have g1:Qi (inB f.l 0 9=true):=(Ar _ _ _).2 ⟨a0,a1⟩
 have g2:Qi (inB f.n 0 1000000=true):=(Ar _ _ _).2 ⟨a2,a3⟩
 cases hD:f.d
 rotate_left
 ·have HV:Qi (E0=3):=lq.o.trans (I4 HC.o (.inr (.inr hD)))
  rw[hD] at aj
  go_wp2
  go_ret
  exact⟨by rw[HV.o];rfl,gp.o.bl⟩
 rw[hD] at aj
 have HD:Qi (f.d=false):=hD
 clear hD
 by_cases hx:(nS:Int)<f.u
 ·have HV:Qi (E0=5):=lq.o.trans (Ih HC.o g1.o g2.o HD.o (.inl (by simp[inB];omega)))
  go_wp2
  go_ret
  exact⟨by rw[HV.o];rfl,gp.o.bl⟩
 have b0:f.u<=nS:=by omega
 clear hx
 by_cases hx:f.u < -(nH:Int)
 ·have HV:Qi (E0=5):=lq.o.trans (Ih HC.o g1.o g2.o HD.o (.inl (by simp[inB];omega)))
  go_wp2
  go_ret
  exact⟨by rw[HV.o];rfl,gp.o.bl⟩
 have b1:-(nH:Int)<=f.u:=by omega
 clear hx
 by_cases hx:f.p<0
 ·have HV:Qi (E0=5):=lq.o.trans (Ih HC.o g1.o g2.o HD.o (.inr (.inl (by simp[inB];omega))))
  go_wp2
  go_ret
  exact⟨by rw[HV.o];rfl,gp.o.bl⟩
 have b2:0<=f.p:=by omega
 clear hx
 by_cases hx:(nS:Int)<f.p
 ·have HV:Qi (E0=5):=lq.o.trans (Ih HC.o g1.o g2.o HD.o (.inr (.inl (by simp[inB];omega))))
  go_wp2
  go_ret
  exact⟨by rw[HV.o];rfl,gp.o.bl⟩
 have b3:f.p<=nS:=by omega
 clear hx
 by_cases hx:f.h < -1
 ·have HV:Qi (E0=5):=lq.o.trans (Ih HC.o g1.o g2.o HD.o (.inr (.inr (by simp[inB];omega))))
  go_wp2
  go_ret
  exact⟨by rw[HV.o];rfl,gp.o.bl⟩
 have b4:-1<=f.h:=by omega
 clear hx
 by_cases hx:(nS:Int)<=f.h
 ·have HV:Qi (E0=5):=lq.o.trans (Ih HC.o g1.o g2.o HD.o (.inr (.inr (by simp[inB];omega))))
  go_wp2
  go_ret
  exact⟨by rw[HV.o];rfl,gp.o.bl⟩
 have b5:f.h<nS:=by omega
 clear hx
 have HV:Qi (E0=if 100<f.t.length then 2 else 0):=lq.o.trans (a1f HC.o g1.o g2.o HD.o ((Ar _ _ _).2 ⟨b1,b0⟩) ((Ar _ _ _).2 ⟨b2,b3⟩) ((Ar _ _ _).2 ⟨b4,by omega⟩))
 by_cases hK:100<f.t.length
 ·rw[af hK] at HV
  go_wp2
  go_ret
  exact⟨by rw[HV.o];rfl,gp.o.bl⟩
 ·rw[ae hK] at HV
  have hK':f.t.length<=100:=by omega
  go_wp2
  go_ret
  exact⟨by rw[HV.o];rfl,gp.o.bl⟩
end Go.Proofs.YthhgoenomehobaaGreat.mm
