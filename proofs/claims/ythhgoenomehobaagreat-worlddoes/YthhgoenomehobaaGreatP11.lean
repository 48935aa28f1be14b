/- Parts. -/
import Derived.Test.YthhgoenomehobaaGreatP02
import Derived.Test.YthhgoenomehobaaGreatP07
import Derived.Test.YthhgoenomehobaaGreatP05
import Derived.Carry
namespace Go.Proofs.YthhgoenomehobaaGreat.mm
set_option maxRecDepth 100000
set_option linter.unusedVariables false
open Go.Value renaming int → O, slice → Y
open Go.IntKind renaming i64 → J
open Go.Proofs.Tryz renaming prog → Pg
open Go renaming World → Wq
open Go.ChangeShapes Go.WideShapes Go.ChangeAt Go.RowKit Go.Joins
set_option maxHeartbeats 6400000
section
open Go.Maps
theorem Wp(aS aH aF aL:Option Addr)(nS nH nF nL cS cH cF cL:Nat)(now k a b t bk sl:Int)(w:Wq)(hn:nS<=9223372036854775807)(hh:nH<=9223372036854775807) :
  Calls Pg 143 #[.agg #[.slice aS nS cS,.slice aH nH cH,.slice aF nF cF,.slice aL nL cL,.int .i64 now],.agg #[.int .i64 k,.int .i64 a,.int .i64 b,.int .i64 t,.int .i64 bk,.int .i64 sl]] w fun e w'=>e=.returned (.int .i64 (D5 nS nH ⟨k,a,b,t,bk,sl⟩))/\Below w.heap.size w w':=by
 have b0:Below w.heap.size w ((w.alloc (.cells #[.slice aS nS cS,.slice aH nH cH,.slice aF nF cF,.slice aL nL cL,.int .i64 now] 25)).alloc (.cells #[.int .i64 k,.int .i64 a,.int .i64 b,.int .i64 t,.int .i64 bk,.int .i64 sl] 32)):=below_alloc2 w _ _
 have hk:∀ W:Wq,Calls Pg 96 #[.agg #[.int .i64 a,.int .i64 b]] W fun e w'=>e=.returned (.int .i64 (if E5 a b then 0 else 3))/\Below W.heap.size W w':=fun W=>a0z a b W
 by_cases h13:k=1\/k=3
 ·rw[X8 h13]
  generalize (if E5 a b then (0:Int) else 3)=kv at *
  rcases h13 with rfl|rfl
  all_goals
   go_enter Tryz.func143,Tryz.ntmps143
   go_wp2_with (go_at_call 96;refine(hk _).mono ?_;rintro e w1 ⟨rfl,hb1⟩)
   go_ret
   exact⟨rfl,b0.trans (hb1.mono b0.size)⟩
 by_cases h2:k=2
 ·subst h2
  clear h13
  rw[Rn]
  cases hT:inB t 1 1000000
  ·rw[Bool.false_and,if_neg (by simp)]
   go_enter Tryz.func143,Tryz.ntmps143
   go_wp2_with (go_at_call 85;refine(Bq _ _ _ _).mono ?_;rintro e w1 ⟨rfl,rfl⟩)
   go_ret
   exact⟨rfl,b0⟩
  ·rw[Bool.true_and]
   generalize (if E5 a b then (0:Int) else 3)=kv at *
   go_enter Tryz.func143,Tryz.ntmps143
   go_wp2_with (first|(go_at_call 85;refine(Bq _ _ _ _).mono ?_;rintro e w1 ⟨rfl,rfl⟩)|(go_at_call 96;refine(hk _).mono ?_;rintro e w1 ⟨rfl,hb1⟩))
   go_ret
   exact⟨rfl,b0.trans (hb1.mono b0.size)⟩
 by_cases h45:k=4\/k=5
 ·rw[Yp h45]
  clear h13 h2
  have hc:∀ W:Wq,Calls Pg 97 #[.agg #[.slice aS nS cS,.slice aH nH cH,.slice aF nF cF,.slice aL nL cL,.int .i64 now],.int .i64 bk] W fun e w'=>e=.returned (.bool (inB bk 0 ((nH:Int) - 1)))/\Below W.heap.size W w':=fun W=>Gi aS aH aF aL nS nH nF nL cS cH cF cL now bk W hh
  cases hB:inB bk 0 ((nH:Int) - 1) <;> (rw[hB] at hc;rcases h45 with rfl|rfl)
  all_goals
   first|rw[if_pos rfl] | rw[if_neg (by simp)]
   go_enter Tryz.func143,Tryz.ntmps143
   go_wp2_with (go_at_call 97;refine(hc _).mono ?_;rintro e w1 ⟨rfl,hb1⟩)
   go_ret
   exact⟨rfl,b0.trans (hb1.mono b0.size)⟩
 by_cases h6:k=6
 ·subst h6
  clear h13 h2 h45
  rw[Tm]
  have hc:∀ W:Wq,Calls Pg 111 #[.agg #[.slice aS nS cS,.slice aH nH cH,.slice aF nF cF,.slice aL nL cL,.int .i64 now],.int .i64 sl] W fun e w'=>e=.returned (.bool (inB sl 0 ((nS:Int) - 1)))/\Below W.heap.size W w':=fun W=>Ed aS aH aF aL nS nH nF nL cS cH cF cL now sl W hn
  cases hB:inB sl 0 ((nS:Int) - 1) <;> rw[hB] at hc
  all_goals
   first|rw[if_pos rfl] | rw[if_neg (by simp)]
   go_enter Tryz.func143,Tryz.ntmps143
   go_wp2_with (go_at_call 111;refine(hc _).mono ?_;rintro e w1 ⟨rfl,hb1⟩)
   go_ret
   exact⟨rfl,b0.trans (hb1.mono b0.size)⟩
 have hno:k<1\/6<k:=by omega
 rw[Yr hno]
 have e1:(k==1)=false:=by rw[beq_eq_false_iff_ne];omega
 have e2:(k==2)=false:=by rw[beq_eq_false_iff_ne];omega
 have e3:(k==3)=false:=by rw[beq_eq_false_iff_ne];omega
 have e4:(k==4)=false:=by rw[beq_eq_false_iff_ne];omega
 have e5:(k==5)=false:=by rw[beq_eq_false_iff_ne];omega
 have e6:(k==6)=false:=by rw[beq_eq_false_iff_ne];omega
 clear h13 h2 h45 h6 hno
 go_enter Tryz.func143,Tryz.ntmps143
 go_wp2
 go_ret
 exact⟨rfl,b0⟩
theorem law4:Keyed Pg 4:=bool_keyed Tryz.underlying4
theorem b4j(w:Wq):(zeroValue 36).run Pg w=.ok (.int .i64 0) w:=by kernel_rfl
theorem a0h:Pg.underlying 156=some (.map 4 36):=by kernel_rfl
theorem plainElem_int_inv{H:Type}{v:Value}{z:DataW H × List MemPlace}(h:plainElem Pg 36 v=some z):∃ x,v=.int .i64 x/\z=(.lit (.int .i64 x),[]):=by
 unfold plainElem at h
 rw[Tryz.underlying36] at h
 cases v <;> simp at h
 obtain⟨⟨rfl,_⟩,h⟩:=h
 exact⟨_,rfl,h.symm⟩
def Iu(w:Wq)(g:Nat):Prop :=
 ∃ n,∃ D:DataW Unit,w.ownsMap Pg 4 (plainElem Pg 36) g n D/\∀ x:Bool,D.atKey (.bool x) (.lit (.int .i64 0))=.lit (.int .i64 (if x then 0 else 3))
theorem Iu.kept{w w':Wq}{g:Nat}(h:Iu w g)(hb:w'.heap[g]?=w.heap[g]?):Iu w' g:=by
 obtain⟨n,D,⟨es,clock,hg,F,hs,hD⟩,hat⟩:=h
 exact⟨n,D,⟨es,clock,hb.trans hg,F,hs,hD⟩,hat⟩
theorem Iu.lt{w:Wq}{g:Nat}(h:Iu w g):g<w.heap.size:=by
 obtain⟨n,D,⟨es,clock,hg,F,hs,hD⟩,hat⟩:=h
 exact lt_of_block hg
theorem Iu.look{w:Wq}{g:Nat}(h:Iu w g)(x:Bool):(Instr.lookup 156 (.map (some g)) (.bool x) false).run Pg w=.ok (.int .i64 (if x then 0 else 3)) w:=by
 obtain⟨n,D,ho,hat⟩:=h
 obtain⟨v,ps,hrun,hv⟩:=ho.lookup law4 a0h (b4j w) (plainElem_int Tryz.underlying36 (by first|decide|exact Ex.ne _ _ (by decide))) (keyOf_bool_mk Tryz.underlying4 x)
 rw[hat x] at hv
 obtain⟨y,rfl,hz⟩:=plainElem_int_inv hv
 rw[hrun]
 injection hz with h1 h2
 injection h1 with h1
 injection h1 with _ h1
 rw[h1]
theorem Iu.put{w':Wq}{g n:Nat}(h:w'.ownsMap Pg 4 (plainElem Pg 36) g n ((DataW.map []:DataW Unit).put (.bool false) (.lit (.int .i64 3)))):Iu w' g:=by
 refine⟨n,_,h,fun x=>?_⟩
 cases x
 ·rw[atKey_put_same ⟨_,rfl⟩ (by simp[WideAt.IsKeyLit])];rfl
 ·rw[atKey_put_other (by intro hh;cases hh)];simp[DataW.atKey]
theorem b2x{w:Wq}{B:Nat}{v0 v1 v2 v3 v4 v5:Value}{t:TypeId}(h:w.heap[B]?=some (.cells #[v0,v1,v2,v3,v4,v5] t (0,0))) :
  w.cell? ⟨B,0,none⟩=some v0/\w.cell? ⟨B,1,none⟩=some v1/\w.cell? ⟨B,2,none⟩=some v2/\w.cell? ⟨B,3,none⟩=some v3/\w.cell? ⟨B,4,none⟩=some v4/\w.cell? ⟨B,5,none⟩=some v5/\B<w.heap.size :=
 ⟨by rw[cell_of_block h];rfl,by rw[cell_of_block h];rfl,by rw[cell_of_block h];rfl,by rw[cell_of_block h];rfl,by rw[cell_of_block h];rfl,by rw[cell_of_block h];rfl,lt_of_block h⟩
theorem Q8{w1 w2:Wq}{B:Nat}{v0 v1 v2 v3 v4 v5:Value}(hb:Below w1.heap.size w1 w2)(c0:w1.cell? ⟨B,0,none⟩=some v0)(c1:w1.cell? ⟨B,1,none⟩=some v1)(c2:w1.cell? ⟨B,2,none⟩=some v2)(c3:w1.cell? ⟨B,3,none⟩=some v3)(c4:w1.cell? ⟨B,4,none⟩=some v4)(c5:w1.cell? ⟨B,5,none⟩=some v5)(cs:B<w1.heap.size) :
  w2.cell? ⟨B,0,none⟩=some v0/\w2.cell? ⟨B,1,none⟩=some v1/\w2.cell? ⟨B,2,none⟩=some v2/\w2.cell? ⟨B,3,none⟩=some v3/\w2.cell? ⟨B,4,none⟩=some v4/\w2.cell? ⟨B,5,none⟩=some v5/\B<w2.heap.size:=by
 obtain⟨q,f⟩:=Bv hb
 exact⟨(q _ _ cs).trans c0,(q _ _ cs).trans c1,(q _ _ cs).trans c2,(q _ _ cs).trans c3,(q _ _ cs).trans c4,(q _ _ cs).trans c5,Nat.lt_of_lt_of_le cs hb.size⟩
theorem Zo{w W0 w1:Wq}{om oc o1 o2:Obj}(hB:W0.heap[w.heap.size]?=some om)(hC:W0.heap[w.heap.size+1]?=some oc)(hz:W0.heap.size=w.heap.size+2)(hb:Below w.heap.size w W0)(hd:Iu w1 (w.heap.size+1+1))(e1:om=o1)(e2:oc=o2)
  (hg:(W0.alloc (.map #[] 0)).grownBy w1 (some (w.heap.size+1+1))):Iu w1 (w.heap.size+1+1)/\Below w.heap.size w w1/\w1.heap[w.heap.size]?=some om/\w1.heap[w.heap.size+1]?=some oc:=by
 have h1:Below W0.heap.size W0 w1:=(A7 W0 (.map #[] 0)).grown hg (by simp) (fun k h=>by cases h;omega)
 exact⟨hd,hb.trans (h1.mono (by omega)),(h1.block _ (by omega)).trans hB,(h1.block _ (by omega)).trans hC⟩
theorem Vr(aS aH aF aL:Option Addr)(nS nH nF nL cS cH cF cL:Nat)(now k a b t bk sl:Int)(w:Wq)(hn:nS<=9223372036854775807)(hh:nH<=9223372036854775807) :
  Calls Pg 68 #[.agg #[.slice aS nS cS,.slice aH nH cH,.slice aF nF cF,.slice aL nL cL,.int .i64 now],.agg #[.int .i64 k,.int .i64 a,.int .i64 b,.int .i64 t,.int .i64 bk,.int .i64 sl]] w fun e w'=>e=.returned (.int .i64 (D5 nS nH ⟨k,a,b,t,bk,sl⟩))/\Below w.heap.size w w':=by
 obtain⟨om,hom⟩:∃ o:Obj,o=.cells #[.slice aS nS cS,.slice aH nH cH,.slice aF nF cF,.slice aL nL cL,.int .i64 now] 25:=⟨_,rfl⟩
 obtain⟨oc,hoc⟩:∃ o:Obj,o=.cells #[.int .i64 k,.int .i64 a,.int .i64 b,.int .i64 t,.int .i64 bk,.int .i64 sl] 32:=⟨_,rfl⟩
 have b0:Below w.heap.size w ((w.alloc om).alloc oc):=below_alloc2 w _ _
 have HB0:Hid (((w.alloc om).alloc oc).heap[w.heap.size]?=some om):=by show _=_;rw[Below.heap_alloc _ _ _ (by simp),heap_alloc_new]
 have HC0:Hid (((w.alloc om).alloc oc).heap[w.heap.size+1]?=some oc):=by
  have:=heap_alloc_new (w.alloc om) oc
  rwa [show (w.alloc om).heap.size=w.heap.size+1 by simp] at this
 have HZ0:Hid (((w.alloc om).alloc oc).heap.size=w.heap.size+2):=by show _=_;simp
 have hmm:=@run_makeMap Pg
 have HMM:Hid (((((w.alloc (.cells #[.slice aS nS cS,.slice aH nH cH,.slice aF nF cF,.slice aL nL cL,.int .i64 now] 25)).alloc (.cells #[.int .i64 k,.int .i64 a,.int .i64 b,.int .i64 t,.int .i64 bk,.int .i64 sl] 32)).alloc (.map #[] 0))).ownsMap Pg 4 (plainElem Pg 36) (w.heap.size+1+1) 0 (.map []:DataW Unit)):=by
  have:=World.ownsMap_made (H:=Unit) ((w.alloc (.cells #[.slice aS nS cS,.slice aH nH cH,.slice aF nF cF,.slice aL nL cL,.int .i64 now] 25)).alloc (.cells #[.int .i64 k,.int .i64 a,.int .i64 b,.int .i64 t,.int .i64 bk,.int .i64 sl] 32)) Pg 4 (plainElem Pg 36)
  rwa [show ((w.alloc (.cells #[.slice aS nS cS,.slice aH nH cH,.slice aF nF cF,.slice aL nL cL,.int .i64 now] 25)).alloc (.cells #[.int .i64 k,.int .i64 a,.int .i64 b,.int .i64 t,.int .i64 bk,.int .i64 sl] 32)).heap.size=w.heap.size+1+1 by simp] at this
 have hk:∀ W:Wq,Calls Pg 109 #[.agg #[.int .i64 a,.int .i64 b]] W fun e w'=>e=.returned (.bool (E5 a b))/\Below W.heap.size W w':=fun W=>Su a b W
 obtain⟨E0,hE0⟩:∃ x,x=D5 nS nH ⟨k,a,b,t,bk,sl⟩:=⟨_,rfl⟩
 rw[<- hE0]
 have HE0:Hid (E0=D5 nS nH ⟨k,a,b,t,bk,sl⟩):=hE0
 clear hE0
 obtain⟨w1,hrun,ho1,hg1⟩:=HMM.out.update law4 a0h (show 0<maxLen by decide) (keyOf_bool_mk Tryz.underlying4 false) (plainElem_int (H:=Unit) Tryz.underlying36 (q:=.i64) (a:=3) (by first|decide|exact Ex.ne _ _ (by decide)))
 have HD1:Hid (Iu w1 (w.heap.size+1+1)/\Below w.heap.size w w1/\w1.heap[w.heap.size]?=some om/\w1.heap[w.heap.size+1]?=some oc):=by
  subst hom hoc
  exact Zo HB0.out HC0.out HZ0.out b0 (Iu.put ho1) rfl rfl hg1
 clear ho1 hg1 HB0 HC0 HZ0 HMM b0
 subst hom hoc
 obtain⟨q0,q1,q2,q3,q4,-,-,-,-,-,qs⟩:=Af HD1.out.2.2.1
 obtain⟨c0,c1,c2,c3,c4,c5,cs⟩:=b2x HD1.out.2.2.2
 have look:∀ (W:Wq) (x:Bool),Below w1.heap.size w1 W->(Instr.lookup 156 (.map (some (w.heap.size+1+1))) (.bool x) false).run Pg W=.ok (.int .i64 (if x then 0 else 3)) W:=fun W x hb=>Iu.look (Iu.kept HD1.out.1 (hb.block _ (Iu.lt HD1.out.1))) x
 have HLook:Hid _:=look
 have HB1:Hid (Below w.heap.size w w1):=HD1.out.2.1
 clear look HD1
 by_cases h13:k=1\/k=3
 ·have HV:Hid (E0=if E5 a b then 0 else 3):=HE0.out.trans (X8 h13)
  clear HE0
  rcases h13 with rfl|rfl
  all_goals
   go_enter Tryz.func68,Tryz.ntmps68
   go_wp2_with (go_at_call 109;refine(hk _).mono ?_;rintro e w2 ⟨rfl,hb2⟩;have hlk:=HLook.out w2 (E5 a b) hb2;rw[<- HV.out] at hlk;clear q0 q1 q2 q3 q4 qs c0 c1 c2 c3 c4 c5 cs)
   go_ret
   exact⟨rfl,HB1.out.trans (hb2.mono HB1.out.size)⟩
 by_cases h2:k=2
 ·subst h2
  clear h13
  have HV:Hid (E0=if inB t 1 1000000 && E5 a b then 0 else 3):=HE0.out.trans Rn
  clear HE0
  cases hK:E5 a b
  ·rw[hK] at hk
   rw[hK,Bool.and_false,if_neg (by simp)] at HV
   go_enter Tryz.func68,Tryz.ntmps68
   go_wp2_with (go_at_call 109;refine(hk _).mono ?_;rintro e w2 ⟨rfl,hb2⟩;have hlk:=HLook.out w2 false hb2;clear q0 q1 q2 q3 q4 qs c0 c1 c2 c3 c4 c5 cs)
   go_ret
   exact⟨by rw[HV.out];rfl,HB1.out.trans (hb2.mono HB1.out.size)⟩
  ·rw[hK] at hk
   rw[hK,Bool.and_true] at HV
   have hc:t<1\/(1<=t/\t<=1000000)\/(1<=t/\1000000<t):=by omega
   rcases hc with h|⟨h,h'⟩|⟨h,h'⟩
   ·rw[show inB t 1 1000000=false by simp[inB];omega] at HV
    go_enter Tryz.func68,Tryz.ntmps68
    go_wp2_with (go_at_call 109;refine(hk _).mono ?_;rintro e w2 ⟨rfl,hb2⟩;have hlk:=HLook.out w2 false hb2;clear q0 q1 q2 q3 q4 qs;obtain⟨c0,c1,c2,c3,c4,c5,cs⟩:=Q8 hb2 c0 c1 c2 c3 c4 c5 cs)
    go_ret
    exact⟨by rw[HV.out];rfl,HB1.out.trans (hb2.mono HB1.out.size)⟩
   ·rw[show inB t 1 1000000=true from (Aj _ _ _).2 ⟨h,h'⟩] at HV
    go_enter Tryz.func68,Tryz.ntmps68
    go_wp2_with (go_at_call 109;refine(hk _).mono ?_;rintro e w2 ⟨rfl,hb2⟩;have hlk:=HLook.out w2 true hb2;clear q0 q1 q2 q3 q4 qs;obtain⟨c0,c1,c2,c3,c4,c5,cs⟩:=Q8 hb2 c0 c1 c2 c3 c4 c5 cs)
    go_ret
    exact⟨by rw[HV.out];rfl,HB1.out.trans (hb2.mono HB1.out.size)⟩
   ·rw[show inB t 1 1000000=false by simp[inB];omega] at HV
    have hd:decide (t<=1000000)=false:=by simp;omega
    go_enter Tryz.func68,Tryz.ntmps68
    go_wp2_with (go_at_call 109;refine(hk _).mono ?_;rintro e w2 ⟨rfl,hb2⟩;have hlk:=HLook.out w2 false hb2;clear q0 q1 q2 q3 q4 qs;obtain⟨c0,c1,c2,c3,c4,c5,cs⟩:=Q8 hb2 c0 c1 c2 c3 c4 c5 cs)
    go_ret
    exact⟨by rw[HV.out];rfl,HB1.out.trans (hb2.mono HB1.out.size)⟩
 by_cases h45:k=4\/k=5
 ·have HV:Hid (E0=if inB bk 0 ((nH:Int) - 1) then 0 else 5):=HE0.out.trans (Yp h45)
  clear HE0 h13 h2
  have hc:bk<0\/(0<=bk/\bk<nH)\/(0<=bk/\(nH:Int)<=bk):=by omega
  rcases hc with h|⟨h,h'⟩|⟨h,h'⟩
  ·rw[show inB bk 0 ((nH:Int) - 1)=false by simp[inB];omega] at HV
   rcases h45 with rfl|rfl
   all_goals
    go_enter Tryz.func68,Tryz.ntmps68
    go_wp2
    go_ret
    exact⟨by rw[HV.out];rfl,HB1.out⟩
  ·rw[show inB bk 0 ((nH:Int) - 1)=true from (Aj _ _ _).2 ⟨h,by omega⟩] at HV
   rcases h45 with rfl|rfl
   all_goals
    go_enter Tryz.func68,Tryz.ntmps68
    go_wp2
    go_ret
    exact⟨by rw[HV.out];rfl,HB1.out⟩
  ·rw[show inB bk 0 ((nH:Int) - 1)=false by simp[inB];omega] at HV
   rcases h45 with rfl|rfl
   all_goals
    go_enter Tryz.func68,Tryz.ntmps68
    go_wp2
    go_ret
    exact⟨by rw[HV.out];rfl,HB1.out⟩
 by_cases h6:k=6
 ·subst h6
  have HV:Hid (E0=if inB sl 0 ((nS:Int) - 1) then 0 else 5):=HE0.out.trans Tm
  clear HE0 h13 h2 h45
  have hc:sl<0\/(0<=sl/\sl<nS)\/(0<=sl/\(nS:Int)<=sl):=by omega
  rcases hc with h|⟨h,h'⟩|⟨h,h'⟩
  ·rw[show inB sl 0 ((nS:Int) - 1)=false by simp[inB];omega] at HV
   go_enter Tryz.func68,Tryz.ntmps68
   go_wp2
   go_ret
   exact⟨by rw[HV.out];rfl,HB1.out⟩
  ·rw[show inB sl 0 ((nS:Int) - 1)=true from (Aj _ _ _).2 ⟨h,by omega⟩] at HV
   go_enter Tryz.func68,Tryz.ntmps68
   go_wp2
   go_ret
   exact⟨by rw[HV.out];rfl,HB1.out⟩
  ·rw[show inB sl 0 ((nS:Int) - 1)=false by simp[inB];omega] at HV
   go_enter Tryz.func68,Tryz.ntmps68
   go_wp2
   go_ret
   exact⟨by rw[HV.out];rfl,HB1.out⟩
 have hno:k<1\/6<k:=by omega
 have HV:Hid (E0=4):=HE0.out.trans (Yr hno)
 have e1:(k==1)=false:=by rw[beq_eq_false_iff_ne];omega
 have e2:(k==2)=false:=by rw[beq_eq_false_iff_ne];omega
 have e3:(k==3)=false:=by rw[beq_eq_false_iff_ne];omega
 have e4:(k==4)=false:=by rw[beq_eq_false_iff_ne];omega
 have e5:(k==5)=false:=by rw[beq_eq_false_iff_ne];omega
 have e6:(k==6)=false:=by rw[beq_eq_false_iff_ne];omega
 clear h13 h2 h45 h6 hno HE0
 go_enter Tryz.func68,Tryz.ntmps68
 go_wp2
 go_ret
 exact⟨by rw[HV.out];rfl,HB1.out⟩
theorem frObj(f:Fr)(aK:Option Addr)(cK:Nat):∃ o:Obj,o=.cells #[.int .i64 f.c.kind,.int .i64 f.c.a,.int .i64 f.c.b,.int .i64 f.c.time,.int .i64 f.c.bk,.int .i64 f.c.slot,.int .i64 f.pl,.int .i64 f.cur,.int .i64 f.prev,.int .i64 f.slot,.int .i64 f.n,.slice aK f.keys.length cK,.bool f.done,.int .i64 f.e] 47:=⟨_,rfl⟩
end
section
variable {Xb:Ex}
structure Env(w0 w:Wq)(L:List (Nat × Obj))(K:List (Value × Mm)):Prop where
 bl:Below w0.heap.size w0 w
 box:∀ p∈L,w.heap[p.1]?=some p.2
 mem:∀ p∈K,Ans 0 w p.1 p.2
theorem Env.below{w0 w w':Wq}{L:List (Nat × Obj)}{K:List (Value × Mm)}(E:Env w0 w L K)(hb:Below w.heap.size w w'):Env w0 w' L K :=
 ⟨E.bl.trans (hb.mono E.bl.size),fun p hp=>(hb.block p.1 (by
  have:=E.box p hp
  exact(Array.getElem?_eq_some_iff.1 this).1)).trans (E.box p hp),fun p hp=>(E.mem p hp).below hb⟩
theorem Env.alloc{w0 w:Wq}{L:List (Nat × Obj)}{K:List (Value × Mm)}(E:Env w0 w L K)(o:Obj):Env w0 (w.alloc o) ((w.heap.size,o) :: L) K:=by
 have h:=E.below (A7 w o)
 refine⟨h.bl,fun p hp=>?_,h.mem⟩
 rcases List.mem_cons.1 hp with rfl|hp
 ·exact heap_alloc_new w o
 ·exact h.box p hp
theorem Env.add{w0 w:Wq}{L:List (Nat × Obj)}{K:List (Value × Mm)}(E:Env w0 w L K){v:Value}{M:Mm}{lo:Nat}(h:Ans lo w v M):Env w0 w L ((v,M) :: K) :=
 ⟨E.bl,E.box,fun p hp=>by
  rcases List.mem_cons.1 hp with rfl|hp
  ·exact h.mono (Nat.zero_le _)
  ·exact E.mem p hp⟩
theorem Env.at{w0 w:Wq}{L:List (Nat × Obj)}{K:List (Value × Mm)}(E:Env w0 w L K){B:Nat}{o:Obj}(h:(B,o)∈L):w.heap[B]?=some o:=E.box _ h
theorem Env.ans{w0 w:Wq}{L:List (Nat × Obj)}{K:List (Value × Mm)}(E:Env w0 w L K){v:Value}{M:Mm}(h:(v,M)∈K):Ans 0 w v M:=E.mem _ h
theorem Env.lt{w0 w:Wq}{L:List (Nat × Obj)}{K:List (Value × Mm)}(E:Env w0 w L K){B:Nat}{o:Obj}(h:(B,o)∈L):B<w.heap.size:=(Array.getElem?_eq_some_iff.1 (E.box _ h)).1
theorem Rw.ans{w:Wq}{lo:Nat}{aS aH aF aL:Option Addr}{cS cH cF cL:Nat}{M:Mm}(r:Rw w lo aS aH aF aL cS cH cF cL M)
  (m1:M.slots.length*48<=140737488351232) (m2:M.heads.length*8<=140737488351232) (m3:M.free.length*8<=140737488351232) (m4:M.locks.length*8<=140737488351232) :
  Ans lo w (.agg #[Y aS M.slots.length cS,Y aH M.heads.length cH,Y aF M.free.length cF,Y aL M.locks.length cL,O J M.now]) M :=
 ⟨aS,aH,aF,aL,cS,cH,cF,cL,rfl,r.at m1 m2 m3 m4,r.hi⟩
theorem Ans.at_{lo:Nat}{w:Wq}{aS aH aF aL:Option Addr}{cS cH cF cL:Nat}{M:Mm}(h:Ans lo w (.agg #[Y aS M.slots.length cS,Y aH M.heads.length cH,Y aF M.free.length cF,Y aL M.locks.length cL,O J M.now]) M):At w aS aH aF aL cS cH cF cL M:=by
 obtain⟨aS',aH',aF',aL',cS',cH',cF',cL',e,A,-⟩:=h
 simp only[Value.agg.injEq,Array.mk.injEq,List.cons.injEq,Value.slice.injEq,true_and,and_true] at e
 obtain⟨⟨rfl,rfl⟩,⟨rfl,rfl⟩,⟨rfl,rfl⟩,rfl,rfl⟩:=e
 exact A
theorem Rw.alloc{w:Wq}{lo:Nat}{aS aH aF aL:Option Addr}{cS cH cF cL:Nat}{M:Mm}(r:Rw w lo aS aH aF aL cS cH cF cL M)(o:Obj):Rw (w.alloc o) lo aS aH aF aL cS cH cF cL M:=r.below (A7 w o)
theorem Mine.made{w:Wq}{lo:Nat}{aS aH aF aL:Option Addr}{cS cH cF cL:Nat}{M:Mm}(r:Rw w lo aS aH aF aL cS cH cF cL M)
  (m1:M.slots.length*48<=140737488351232) (m2:M.heads.length*8<=140737488351232) (m3:M.free.length*8<=140737488351000) (m4:M.locks.length*8<=140737488351232) :
  Mine X0 (w.alloc (.cells #[Y aS M.slots.length cS,Y aH M.heads.length cH,Y aF M.free.length cF,Y aL M.locks.length cL,O J M.now] 25)) w.heap.size lo aS aH aF aL cS cH cF cL M :=
 ⟨heap_alloc_new _ _,r.alloc _,m1,m2,m3,m4⟩
theorem Mine.stored{w:Wq}{lo B:Nat}{aS aH aF aL:Option Addr}{cS cH cF cL:Nat}{M:Mm}{u0 u1 u2 u3 u4:Value}(r:Rw w lo aS aH aF aL cS cH cF cL M)(hB:w.heap[B]?=some (.cells (List.toArray (u0 :: u1 :: u2 :: u3 :: u4 :: Xb.rs)) Xb.rt (0,0)))
  (m1:M.slots.length*48<=140737488351232) (m2:M.heads.length*8<=140737488351232) (m3:M.free.length*8<=140737488351000) (m4:M.locks.length*8<=140737488351232) :
  Mine Xb (Hu w B (Y aS M.slots.length cS) (Y aH M.heads.length cH) (Y aF M.free.length cF) (Y aL M.locks.length cL) (O J M.now)) B lo aS aH aF aL cS cH cF cL M :=
 ⟨Qa hB _ _ _ _ _,r.Hu hB _ _ _ _ _,m1,m2,m3,m4⟩
theorem Mine.ans{w:Wq}{B lo:Nat}{aS aH aF aL:Option Addr}{cS cH cF cL:Nat}{M:Mm}(m:Mine Xb w B lo aS aH aF aL cS cH cF cL M) :
  Ans lo w (.agg #[Y aS M.slots.length cS,Y aH M.heads.length cH,Y aF M.free.length cF,Y aL M.locks.length cL,O J M.now]) M :=
 m.c.ans m.m1 m.m2 (by have:=m.m3;omega) m.m4
end
section
open Go.Maps
theorem A8{w:Wq}{B:Nat}{v0 v1 v2 v3 v4 v5 v6 v7 v8 v9 v10 v11 v12 v13:Value}{t:TypeId}(h:w.heap[B]?=some (.cells #[v0,v1,v2,v3,v4,v5,v6,v7,v8,v9,v10,v11,v12,v13] t (0,0))) :
  w.cell? ⟨B,0,none⟩=some v0/\w.cell? ⟨B,1,none⟩=some v1/\w.cell? ⟨B,2,none⟩=some v2/\w.cell? ⟨B,3,none⟩=some v3/\w.cell? ⟨B,4,none⟩=some v4/\w.cell? ⟨B,5,none⟩=some v5/\w.cell? ⟨B,6,none⟩=some v6/\w.cell? ⟨B,7,none⟩=some v7/\w.cell? ⟨B,8,none⟩=some v8/\w.cell? ⟨B,9,none⟩=some v9/\w.cell? ⟨B,10,none⟩=some v10/\w.cell? ⟨B,11,none⟩=some v11/\w.cell? ⟨B,12,none⟩=some v12/\w.cell? ⟨B,13,none⟩=some v13/\(∀ q,w.frozen? ⟨B,q,none⟩=false)/\B<w.heap.size :=
 ⟨by rw[cell_of_block h];rfl,by rw[cell_of_block h];rfl,by rw[cell_of_block h];rfl,by rw[cell_of_block h];rfl,by rw[cell_of_block h];rfl,by rw[cell_of_block h];rfl,by rw[cell_of_block h];rfl,by rw[cell_of_block h];rfl,by rw[cell_of_block h];rfl,by rw[cell_of_block h];rfl,by rw[cell_of_block h];rfl,by rw[cell_of_block h];rfl,by rw[cell_of_block h];rfl,by rw[cell_of_block h];rfl,fun q=>unfrozen_of_block h q,lt_of_block h⟩
theorem a4r(x lo hi:Int)(w:Wq):Calls Pg 145 #[.agg #[O J x,O J lo,O J hi]] w fun e w'=>e=.returned (.bool (inB x lo hi))/\Below w.heap.size w w':=by
 go_enter Tryz.func145,Tryz.ntmps145
 go_wp2_with (go_at_call 85;refine(Bq _ _ _ _).mono ?_;rintro e w1 ⟨rfl,rfl⟩)
 go_ret
 exact⟨rfl,A7 _ _⟩
theorem Z9{nS nH:Nat}{f:Fr}(h:D5 nS nH f.c≠0):frE nS nH f=D5 nS nH f.c:=by unfold frE;rw[if_pos h]
theorem H8{nS nH:Nat}{f:Fr}(h:D5 nS nH f.c=0)(h1:inB f.pl 0 9=false\/inB f.n 0 1000000=false\/f.done=true):frE nS nH f=3:=by unfold frE;rw[if_neg (by simpa using h),if_pos h1]
theorem Hq{nS nH:Nat}{f:Fr}(h:D5 nS nH f.c=0)(h1:inB f.pl 0 9=true)(h2:inB f.n 0 1000000=true)(h3:f.done=false)(h4:inB f.cur (-(nH:Int)) nS=false\/inB f.prev 0 nS=false\/inB f.slot (-1) ((nS:Int) - 1)=false):frE nS nH f=5:=by
 unfold frE;rw[if_neg (by simpa using h),if_neg (by rw[h1,h2,h3];simp),if_pos h4]
theorem Za{nS nH:Nat}{f:Fr}(h:D5 nS nH f.c=0)(h1:inB f.pl 0 9=true)(h2:inB f.n 0 1000000=true)(h3:f.done=false)(h4:inB f.cur (-(nH:Int)) nS=true)(h5:inB f.prev 0 nS=true)(h6:inB f.slot (-1) ((nS:Int) - 1)=true):frE nS nH f=if 100<f.keys.length then 2 else 0:=by
 unfold frE;rw[if_neg (by simpa using h),if_neg (by rw[h1,h2,h3];simp),if_neg (by rw[h4,h5,h6];simp)]
theorem Yo{nS nH:Nat}{c:Cl}{E:Int}(h:E=D5 nS nH c)(aS aH aF aL:Option Addr)(nF nL cS cH cF cL:Nat)(now:Int)(w:Wq)(hn:nS<=9223372036854775807)(hh:nH<=9223372036854775807) :
  Calls Pg 143 #[.agg #[Y aS nS cS,Y aH nH cH,Y aF nF cF,Y aL nL cL,O J now],.agg #[O J c.kind,O J c.a,O J c.b,O J c.time,O J c.bk,O J c.slot]] w fun e w'=>e=.returned (O J E)/\Below w.heap.size w w':=by
 subst h;exact Wp aS aH aF aL nS nH nF nL cS cH cF cL now _ _ _ _ _ _ w hn hh
theorem Xo{nS nH:Nat}{c:Cl}{E:Int}(h:E=D5 nS nH c)(aS aH aF aL:Option Addr)(nF nL cS cH cF cL:Nat)(now:Int)(w:Wq)(hn:nS<=9223372036854775807)(hh:nH<=9223372036854775807) :
  Calls Pg 68 #[.agg #[Y aS nS cS,Y aH nH cH,Y aF nF cF,Y aL nL cL,O J now],.agg #[O J c.kind,O J c.a,O J c.b,O J c.time,O J c.bk,O J c.slot]] w fun e w'=>e=.returned (O J E)/\Below w.heap.size w w':=by
 subst h;exact Vr aS aH aF aL nS nH nF nL cS cH cF cL now _ _ _ _ _ _ w hn hh
theorem Gq{x lo hi:Int}{r:Bool}(h:inB x lo hi=r)(w:Wq):Calls Pg 145 #[.agg #[O J x,O J lo,O J hi]] w fun e w'=>e=.returned (.bool r)/\Below w.heap.size w w':=by
 subst h;exact a4r x lo hi w
theorem Z8(aS aH aF aL:Option Addr)(nS nH nF nL cS cH cF cL:Nat)(now:Int)(f:Fr)(aK:Option Addr)(cK:Nat)(w:Wq)(hn:nS<=9223372036854775000)(hh:nH<=9223372036854775000)(hk:f.keys.length<=9223372036854775807) :
  Calls Pg 112 #[.agg #[Y aS nS cS,Y aH nH cH,Y aF nF cF,Y aL nL cL,O J now],.agg #[O J f.c.kind,O J f.c.a,O J f.c.b,O J f.c.time,O J f.c.bk,O J f.c.slot,O J f.pl,O J f.cur,O J f.prev,O J f.slot,O J f.n,Y aK f.keys.length cK,.bool f.done,O J f.e]] w fun e w'=>e=.returned (O J (frE nS nH f))/\Below w.heap.size w w':=by
 obtain⟨om,hom⟩:∃ o:Obj,o=.cells #[Y aS nS cS,Y aH nH cH,Y aF nF cF,Y aL nL cL,O J now] 25:=⟨_,rfl⟩
 obtain⟨of,hof⟩:=frObj f aK cK
 have HE0:Hid (Env w ((w.alloc om).alloc of) _ []):=((⟨Below.refl _ _,(fun p hp=>by cases hp),(fun p hp=>by cases hp)⟩:Env w w [] []).alloc om).alloc of
 rw[show (w.alloc om).heap.size=w.heap.size+1 by simp] at HE0
 obtain⟨C0,hC0⟩:∃ x,x=D5 nS nH f.c:=⟨_,rfl⟩
 have HC0:Hid (C0=D5 nS nH f.c):=hC0
 obtain⟨E0,hE0⟩:∃ x,x=frE nS nH f:=⟨_,rfl⟩
 rw[<- hE0]
 have HV0:Hid (E0=frE nS nH f):=hE0
 clear hC0 hE0
 have i0:∀ (a b c d e g:Value) w,(Instr.index 183 (.agg #[a,b,c,d,e,g]) (O J 0)).run Pg w=.ok (.agg #[a,b,c]) w:=fun _ _ _ _ _ _ _=>by kernel_rfl
 have i1:∀ (a b c d e g:Value) w,(Instr.index 183 (.agg #[a,b,c,d,e,g]) (O J 1)).run Pg w=.ok (.agg #[d,e,g]) w:=fun _ _ _ _ _ _ _=>by kernel_rfl
 have j0:∀ (a b c d e g h i j:Value) w,(Instr.index 184 (.agg #[a,b,c,d,e,g,h,i,j]) (O J 0)).run Pg w=.ok (.agg #[a,b,c]) w:=fun _ _ _ _ _ _ _ _ _ _=>by kernel_rfl
 have j1:∀ (a b c d e g h i j:Value) w,(Instr.index 184 (.agg #[a,b,c,d,e,g,h,i,j]) (O J 1)).run Pg w=.ok (.agg #[d,e,g]) w:=fun _ _ _ _ _ _ _ _ _ _=>by kernel_rfl
 have j2:∀ (a b c d e g h i j:Value) w,(Instr.index 184 (.agg #[a,b,c,d,e,g,h,i,j]) (O J 2)).run Pg w=.ok (.agg #[h,i,j]) w:=fun _ _ _ _ _ _ _ _ _ _=>by kernel_rfl
 go_enter Tryz.func112,Tryz.ntmps112
 go_wp2_with fail
 rw[<- hom,<- hof]
 generalize (w.alloc om).alloc of=W0 at *
 subst hom hof
 refine(Yo HC0.out aS aH aF aL nF nL cS cH cF cL now W0 (by omega) (by omega)).mono ?_
 rintro e w1 ⟨rfl,hb1⟩
 have HE1:Hid _:=HE0.out.below hb1
 clear HE0 hb1
 by_cases hC:C0=0
 rotate_left
 ·have h':(C0 != 0)=true:=by simpa using hC
  have HV:Hid (E0=C0):=by rw[HV0.out,HC0.out];exact Z9 (by rw[<- HC0.out];exact hC)
  go_wp2
  go_ret
  exact⟨by rw[HV.out];rfl,HE1.out.bl⟩
 subst hC
 have HC:Hid (D5 nS nH f.c=0):=HC0.out.symm
 clear HC0
 obtain⟨f0,f1,f2,f3,f4,f5,f6,f7,f8,f9,f10,f11,f12,f13,-,fs⟩:=A8 (HE1.out.box _ (.head _))
 obtain⟨q0,q1,q2,q3,q4,-,-,-,-,-,qs⟩:=Af (HE1.out.box _ (.tail _ (.head _)))
 go_wp2_with fail
 refine wp_loop_rounds 3 ?_
 rw[rounds_succ]
 go_wp2_with fail
 clear f0 f1 f2 f3 f4 f5 f6 f7 f8 f9 f10 f11 f12 f13 fs q0 q1 q2 q3 q4 qs
 have HX1:Hid _:=HE1.out.alloc (.cells #[O J f.pl,O J 0,O J 9] 182)
 cases hA:inB f.pl 0 9
 ·refine(Gq hA _).mono ?_
  rintro e w2 ⟨rfl,hb2⟩
  have HE2:Hid _:=HX1.out.below hb2
  have HV:Hid (E0=3):=HV0.out.trans (H8 HC.out (.inl hA))
  clear HX1 hb2
  go_wp2
  go_ret
  exact⟨by rw[HV.out];rfl,HE2.out.bl⟩
 refine(Gq hA _).mono ?_
 rintro e w2 ⟨rfl,hb2⟩
 have HE2:Hid _:=HX1.out.below hb2
 have G1:Hid (inB f.pl 0 9=true):=hA
 clear HX1 hb2 hA
 go_wp2_with fail
 rw[rounds_succ]
 go_wp2_with fail
 have HX2:Hid _:=HE2.out.alloc (.cells #[O J f.n,O J 0,O J 1000000] 182)
 cases hA:inB f.n 0 1000000
 ·refine(Gq hA _).mono ?_
  rintro e w3 ⟨rfl,hb3⟩
  have HE3:Hid _:=HX2.out.below hb3
  have HV:Hid (E0=3):=HV0.out.trans (H8 HC.out (.inr (.inl hA)))
  clear HX2 hb3
  go_wp2
  go_ret
  exact⟨by rw[HV.out];rfl,HE3.out.bl⟩
 refine(Gq hA _).mono ?_
 rintro e w3 ⟨rfl,hb3⟩
 have HE3:Hid _:=HX2.out.below hb3
 have G2:Hid (inB f.n 0 1000000=true):=hA
 clear HX2 hb3 hA
 go_wp2_with fail
 rw[rounds_succ]
 obtain⟨f0,f1,f2,f3,f4,f5,f6,f7,f8,f9,f10,f11,f12,f13,-,fs⟩:=A8 (HE3.out.box _ (.tail _ (.tail _ (.head _))))
 obtain⟨q0,q1,q2,q3,q4,-,-,-,-,-,qs⟩:=Af (HE3.out.box _ (.tail _ (.tail _ (.tail _ (.head _)))))
 cases hD:f.done
 rotate_left
 ·have HV:Hid (E0=3):=HV0.out.trans (H8 HC.out (.inr (.inr hD)))
  rw[hD] at f12
  go_wp2
  go_ret
  exact⟨by rw[HV.out];rfl,HE3.out.bl⟩
 rw[hD] at f12
 have HD:Hid (f.done=false):=hD
 clear hD
 go_wp2_with fail
 refine wp_loop_rounds 4 ?_
 rw[rounds_succ]
 go_wp2_with fail
 clear f0 f1 f2 f3 f4 f5 f6 f7 f8 f9 f10 f11 f12 f13 fs q0 q1 q2 q3 q4 qs
 have HX3:Hid _:=HE3.out.alloc (.cells #[O J f.cur,O J (-(nH:Int)),O J nS] 182)
 cases hA:inB f.cur (-(nH:Int)) nS
 ·refine(Gq hA _).mono ?_
  rintro e w4 ⟨rfl,hb4⟩
  have HE4:Hid _:=HX3.out.below hb4
  have HV:Hid (E0=5):=HV0.out.trans (Hq HC.out G1.out G2.out HD.out (.inl hA))
  clear HX3 hb4
  go_wp2
  go_ret
  exact⟨by rw[HV.out];rfl,HE4.out.bl⟩
 refine(Gq hA _).mono ?_
 rintro e w4 ⟨rfl,hb4⟩
 have HE4:Hid _:=HX3.out.below hb4
 have G3:Hid (inB f.cur (-(nH:Int)) nS=true):=hA
 clear HX3 hb4 hA
 go_wp2_with fail
 rw[rounds_succ]
 go_wp2_with fail
 have HX4:Hid _:=HE4.out.alloc (.cells #[O J f.prev,O J 0,O J nS] 182)
 cases hA:inB f.prev 0 nS
 ·refine(Gq hA _).mono ?_
  rintro e w5 ⟨rfl,hb5⟩
  have HE5:Hid _:=HX4.out.below hb5
  have HV:Hid (E0=5):=HV0.out.trans (Hq HC.out G1.out G2.out HD.out (.inr (.inl hA)))
  clear HX4 hb5
  go_wp2
  go_ret
  exact⟨by rw[HV.out];rfl,HE5.out.bl⟩
 refine(Gq hA _).mono ?_
 rintro e w5 ⟨rfl,hb5⟩
 have HE5:Hid _:=HX4.out.below hb5
 have G4:Hid (inB f.prev 0 nS=true):=hA
 clear HX4 hb5 hA
 go_wp2_with fail
 rw[rounds_succ]
 go_wp2_with fail
 have HX5:Hid _:=HE5.out.alloc (.cells #[O J f.slot,O J (-1),O J ((nS:Int) - 1)] 182)
 cases hA:inB f.slot (-1) ((nS:Int) - 1)
 ·refine(Gq hA _).mono ?_
  rintro e w6 ⟨rfl,hb6⟩
  have HE6:Hid _:=HX5.out.below hb6
  have HV:Hid (E0=5):=HV0.out.trans (Hq HC.out G1.out G2.out HD.out (.inr (.inr hA)))
  clear HX5 hb6
  go_wp2
  go_ret
  exact⟨by rw[HV.out];rfl,HE6.out.bl⟩
 refine(Gq hA _).mono ?_
 rintro e w6 ⟨rfl,hb6⟩
 have HE6:Hid _:=HX5.out.below hb6
 have G5:Hid (inB f.slot (-1) ((nS:Int) - 1)=true):=hA
 clear HX5 hb6 hA
 go_wp2_with fail
 rw[rounds_succ]
 obtain⟨f0,f1,f2,f3,f4,f5,f6,f7,f8,f9,f10,f11,f12,f13,-,fs⟩:=A8 (HE6.out.box _ (.tail _ (.tail _ (.tail _ (.tail _ (.tail _ (.head _)))))))
 obtain⟨q0,q1,q2,q3,q4,-,-,-,-,-,qs⟩:=Af (HE6.out.box _ (.tail _ (.tail _ (.tail _ (.tail _ (.tail _ (.tail _ (.head _))))))))
 have HV:Hid (E0=if 100<f.keys.length then 2 else 0):=HV0.out.trans (Za HC.out G1.out G2.out HD.out G3.out G4.out G5.out)
 by_cases hK:100<f.keys.length
 ·rw[if_pos hK] at HV
  go_wp2
  go_ret
  exact⟨by rw[HV.out];rfl,HE6.out.bl⟩
 ·rw[if_neg hK] at HV
  have hK':f.keys.length<=100:=by omega
  go_wp2
  go_ret
  exact⟨by rw[HV.out];rfl,HE6.out.bl⟩
theorem Yb(aS aH aF aL:Option Addr)(nS nH nF nL cS cH cF cL:Nat)(now:Int)(f:Fr)(aK:Option Addr)(cK:Nat)(w:Wq)(hn:nS<=9223372036854775000)(hh:nH<=9223372036854775000)(hk:f.keys.length<=9223372036854775807) :
  Calls Pg 62 #[.agg #[Y aS nS cS,Y aH nH cH,Y aF nF cF,Y aL nL cL,O J now],.agg #[O J f.c.kind,O J f.c.a,O J f.c.b,O J f.c.time,O J f.c.bk,O J f.c.slot,O J f.pl,O J f.cur,O J f.prev,O J f.slot,O J f.n,Y aK f.keys.length cK,.bool f.done,O J f.e]] w fun e w'=>e=.returned (O J (frE nS nH f))/\Below w.heap.size w w':=by
 obtain⟨om,hom⟩:∃ o:Obj,o=.cells #[Y aS nS cS,Y aH nH cH,Y aF nF cF,Y aL nL cL,O J now] 25:=⟨_,rfl⟩
 obtain⟨of,hof⟩:=frObj f aK cK
 have HE0:Hid (Env w ((w.alloc om).alloc of) _ []):=((⟨Below.refl _ _,(fun p hp=>by cases hp),(fun p hp=>by cases hp)⟩:Env w w [] []).alloc om).alloc of
 rw[show (w.alloc om).heap.size=w.heap.size+1 by simp] at HE0
 obtain⟨C0,hC0⟩:∃ x,x=D5 nS nH f.c:=⟨_,rfl⟩
 have HC0:Hid (C0=D5 nS nH f.c):=hC0
 obtain⟨E0,hE0⟩:∃ x,x=frE nS nH f:=⟨_,rfl⟩
 rw[<- hE0]
 have HV0:Hid (E0=frE nS nH f):=hE0
 clear hC0 hE0
 go_enter Tryz.func62,Tryz.ntmps62
 go_wp2_with fail
 rw[<- hom,<- hof]
 generalize (w.alloc om).alloc of=W0 at *
 subst hom hof
 refine(Xo HC0.out aS aH aF aL nF nL cS cH cF cL now W0 (by omega) (by omega)).mono ?_
 rintro e w1 ⟨rfl,hb1⟩
 have HE1:Hid _:=HE0.out.below hb1
 clear HE0 hb1
 by_cases hC:C0=0
 rotate_left
 ·have h':(C0 != 0)=true:=by simpa using hC
  have HV:Hid (E0=C0):=by rw[HV0.out,HC0.out];exact Z9 (by rw[<- HC0.out];exact hC)
  go_wp2
  go_ret
  exact⟨by rw[HV.out];rfl,HE1.out.bl⟩
 subst hC
 have HC:Hid (D5 nS nH f.c=0):=HC0.out.symm
 clear HC0
 obtain⟨f0,f1,f2,f3,f4,f5,f6,f7,f8,f9,f10,f11,f12,f13,-,fs⟩:=A8 (HE1.out.box _ (.head _))
 obtain⟨q0,q1,q2,q3,q4,-,-,-,-,-,qs⟩:=Af (HE1.out.box _ (.tail _ (.head _)))
 by_cases hx:f.pl<0
 ·have HV:Hid (E0=3):=HV0.out.trans (H8 HC.out (.inl (by simp[inB];omega)))
  go_wp2
  go_ret
  exact⟨by rw[HV.out];rfl,HE1.out.bl⟩
 have a0:0<=f.pl:=by omega
 clear hx
 by_cases hx:9<f.pl
 ·have HV:Hid (E0=3):=HV0.out.trans (H8 HC.out (.inl (by simp[inB];omega)))
  go_wp2
  go_ret
  exact⟨by rw[HV.out];rfl,HE1.out.bl⟩
 have a1:f.pl<=9:=by omega
 clear hx
 by_cases hx:f.n<0
 ·have HV:Hid (E0=3):=HV0.out.trans (H8 HC.out (.inr (.inl (by simp[inB];omega))))
  go_wp2
  go_ret
  exact⟨by rw[HV.out];rfl,HE1.out.bl⟩
 have a2:0<=f.n:=by omega
 clear hx
 by_cases hx:1000000<f.n
 ·have HV:Hid (E0=3):=HV0.out.trans (H8 HC.out (.inr (.inl (by simp[inB];omega))))
  go_wp2
  go_ret
  exact⟨by rw[HV.out];rfl,HE1.out.bl⟩
 have a3:f.n<=1000000:=by omega
 clear hx
 have g1:Hid (inB f.pl 0 9=true):=(Aj _ _ _).2 ⟨a0,a1⟩
 have g2:Hid (inB f.n 0 1000000=true):=(Aj _ _ _).2 ⟨a2,a3⟩
 cases hD:f.done
 rotate_left
 ·have HV:Hid (E0=3):=HV0.out.trans (H8 HC.out (.inr (.inr hD)))
  rw[hD] at f12
  go_wp2
  go_ret
  exact⟨by rw[HV.out];rfl,HE1.out.bl⟩
 rw[hD] at f12
 have HD:Hid (f.done=false):=hD
 clear hD
 by_cases hx:(nS:Int)<f.cur
 ·have HV:Hid (E0=5):=HV0.out.trans (Hq HC.out g1.out g2.out HD.out (.inl (by simp[inB];omega)))
  go_wp2
  go_ret
  exact⟨by rw[HV.out];rfl,HE1.out.bl⟩
 have b0:f.cur<=nS:=by omega
 clear hx
 by_cases hx:f.cur < -(nH:Int)
 ·have HV:Hid (E0=5):=HV0.out.trans (Hq HC.out g1.out g2.out HD.out (.inl (by simp[inB];omega)))
  go_wp2
  go_ret
  exact⟨by rw[HV.out];rfl,HE1.out.bl⟩
 have b1:-(nH:Int)<=f.cur:=by omega
 clear hx
 by_cases hx:f.prev<0
 ·have HV:Hid (E0=5):=HV0.out.trans (Hq HC.out g1.out g2.out HD.out (.inr (.inl (by simp[inB];omega))))
  go_wp2
  go_ret
  exact⟨by rw[HV.out];rfl,HE1.out.bl⟩
 have b2:0<=f.prev:=by omega
 clear hx
 by_cases hx:(nS:Int)<f.prev
 ·have HV:Hid (E0=5):=HV0.out.trans (Hq HC.out g1.out g2.out HD.out (.inr (.inl (by simp[inB];omega))))
  go_wp2
  go_ret
  exact⟨by rw[HV.out];rfl,HE1.out.bl⟩
 have b3:f.prev<=nS:=by omega
 clear hx
 by_cases hx:f.slot < -1
 ·have HV:Hid (E0=5):=HV0.out.trans (Hq HC.out g1.out g2.out HD.out (.inr (.inr (by simp[inB];omega))))
  go_wp2
  go_ret
  exact⟨by rw[HV.out];rfl,HE1.out.bl⟩
 have b4:-1<=f.slot:=by omega
 clear hx
 by_cases hx:(nS:Int)<=f.slot
 ·have HV:Hid (E0=5):=HV0.out.trans (Hq HC.out g1.out g2.out HD.out (.inr (.inr (by simp[inB];omega))))
  go_wp2
  go_ret
  exact⟨by rw[HV.out];rfl,HE1.out.bl⟩
 have b5:f.slot<nS:=by omega
 clear hx
 have HV:Hid (E0=if 100<f.keys.length then 2 else 0):=HV0.out.trans (Za HC.out g1.out g2.out HD.out ((Aj _ _ _).2 ⟨b1,b0⟩) ((Aj _ _ _).2 ⟨b2,b3⟩) ((Aj _ _ _).2 ⟨b4,by omega⟩))
 by_cases hK:100<f.keys.length
 ·rw[if_pos hK] at HV
  go_wp2
  go_ret
  exact⟨by rw[HV.out];rfl,HE1.out.bl⟩
 ·rw[if_neg hK] at HV
  have hK':f.keys.length<=100:=by omega
  go_wp2
  go_ret
  exact⟨by rw[HV.out];rfl,HE1.out.bl⟩
end
end Go.Proofs.YthhgoenomehobaaGreat.mm
