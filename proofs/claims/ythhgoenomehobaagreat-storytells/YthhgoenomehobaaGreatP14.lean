/- Parts. -/
import Derived.Test.YthhgoenomehobaaGreatP07
import Derived.Test.YthhgoenomehobaaGreatP10
namespace Go.Proofs.YthhgoenomehobaaGreat.mm
open List renaming getElem_mem → bJ, length_append → gU, mem_cons → aZ, append_assoc → bD, append_nil → gV, take_zero → gX
open RowKit.Below renaming heap_alloc → fU
open Go renaming lt_of_block → fC, heap_alloc_new → fP, Value → dU, Calls → aI, wpList_append_own_at → gB, World → Wq
open Tryz
set_option maxRecDepth 100000
set_option linter.unusedVariables false
open Value renaming int → O, slice → Y
open IntKind renaming i64 → J
open Tryz renaming prog → Pg
set_option maxHeartbeats 0
variable {nS nH:Nat}{c:Cl}{S:List Sl}{k:Nat}{x:Int}(F:Nat)(qy:Array dU)(M:Mm)(aS aH aF aL:Option Addr)(cS cH cF cL:Nat)(w0 W:Wq)(X b B Yq:Nat)(ob:Array dU)(l:List Int)(j g:Nat)(all:List Int)(a:Int)
section
open ChangeShapes WideShapes ChangeAt RowKit
theorem Zh(h:x<=0\/k=0):I7 S k x=[]/\Jk S k x=x:=by
 cases k with
 | zero=>exact⟨rfl,rfl⟩
 | succ k =>
  have:¬ 0<x:=by omega
  simp[I7,Jk,this]
theorem walk_go(h:0<x):I7 S (k+1) x=(x - 1) :: I7 S k (Pe S x)/\Jk S (k+1) x=Jk S k (Pe S x):=by
 simp[I7,Jk,h]
theorem walk_any(w:Wq)(qh:Ok M)(hb:b<M.h.length)(hF:∀ args W,(callFunc F args).run Pg W=.ok (.enter F args) W)(I:List Int->Wq->Prop)(start:I [] (w.alloc (.cells #[Y aS M.s.length cS,Y aH M.h.length cH,Y aF M.f.length cF,Y aL M.l.length cL,O J M.w] 25)))(box:∀ l W,I l W->W.heap[w.heap.size]?=some (.cells #[Y aS M.s.length cS,Y aH M.h.length cH,Y aF M.f.length cF,Y aL M.l.length cL,O J M.w] 25 (0,0)))(at_:∀ l W,I l W->At W aS aH aF aL cS cH cF cL M)(step:∀ l (a:Nat) W,I l W->a<M.s.length->l.length<M.s.length->aI Pg F (#[O J a] ++ qy) W fun e W'=>e=.returned (.tuple #[])/\I (l ++ [(a:Int)]) W') :
  aI Pg 99 #[Cm aS aH aF aL cS cH cF cL M,O J b,.func (.func F) #[] qy] w fun e w'=>e=.returned (.bool (Kw M b))/\I (chL M b) w':=by
 unfold Cm
 have n0:=qh.ns
 have n1:=qh.nh
 obtain⟨R,hR⟩:∃ R,R=Kw M b:=⟨_,rfl⟩
 rw[<- hR]
 have HR:Qi (R=Kw M b):=hR
 clear hR
 obtain⟨LL,hL⟩:∃ LL,LL=chL M b:=⟨_,rfl⟩
 rw[<- hL]
 have HL:Qi (LL=chL M b):=hL
 clear hL
 have HB:Qi _:=box
 have HA:Qi _:=at_
 have HS:Qi _:=step
 have HI:Qi _:=start
 have DT:Qi _:=hF
 have ML:=HA.o _ _ HI.o
 rcases ML.h.at_ with h0|⟨bh,oh,rfl,BJ⟩
 ·omega
 have d0:=BJ b hb
 clear box at_ step start ML BJ hF
 go_enter func99,ntmps99
 go_wp2
 go_loopw [18,7] (fun i n wr=>∃ k:Nat,k<=M.s.length/\i=O J k/\∃ (l:List Int) (x:Int),n=O J x/\x<=M.s.length/\l.length=k/\Qi (chL M b=l++I7 M.s (M.s.length - k) x/\chE M b=Jk M.s (M.s.length - k) x)/\Qi (I l wr))
  (fun i _ _=>M.s.length - (intOf i).toNat)
 case atStart =>
  have hh:=qh.Zp hb
  have he:Bq M b=M.h[b]:=by simp[Bq,List.getD_eq_getElem?_getD,hb]
  rw[he] at hh
  refine⟨0,Nat.zero_le _,rfl,[],_,rfl,((Ar _ _ _).1 hh.2).2,rfl,?_,HI⟩
  rw[<- he]
  exact⟨rfl,rfl⟩
 case round =>
  obtain⟨k,hk,rfl,l,x,rfl,hx,hl,HE,HW⟩:=hrel
  have qW:=HB.o _ _ HW.o
  obtain⟨q0,q1,q2,q3,q4,f0,f1,f2,f3,f4,qs⟩:=Aj qW
  clear qW f0 f1 f2 f3 f4 d0
  have um:(x<=0\/M.s.length - k=0)->R=(x == -1 - (b:Int))/\LL=l:=fun h=>by
   have hs:=Zh (S:=M.s) h
   have h1:=HE.o.1
   have h2:=HE.o.2
   rw[hs.1,gV] at h1
   rw[hs.2] at h2
   exact⟨by rw[HR.o,Kw,h2],by rw[HL.o,h1]⟩
  have HF:Qi _:=um
  clear um
  by_cases gm:k<M.s.length
  ·by_cases zN:x<=0
   ·go_wp2_with (first
     | (go_at_call 140;refine(Qb _ _ zN).mono ?_;rintro e w1 ⟨rfl,rfl⟩)
     | (go_at_call 108;refine(Qd _ _ (by omega) (by omega)).mono ?_;rintro e w1 ⟨rfl,rfl⟩))
    go_ret
    obtain⟨e1,e2⟩:=HF.o (.inl zN)
    rw[e1,e2]
    exact⟨rfl,HW.o⟩
   ·obtain⟨j,rfl⟩:∃ j:Nat,x=(j:Int)+1:=⟨(x - 1).toNat,by omega⟩
    have hj:j<M.s.length:=by omega
    have CJ:(0:Int)<(j:Int)+1:=by omega
    have ai:Qi (chL M b=(l ++ [(j:Int)])++I7 M.s (M.s.length - (k+1)) M.s[j].next/\chE M b=Jk M.s (M.s.length - (k+1)) M.s[j].next):=by
     have hg:=walk_go (S:=M.s) (k:=M.s.length - (k+1)) CJ
     rw[show M.s.length - (k+1)+1=M.s.length - k by omega] at hg
     have hn:Pe M.s ((j:Int)+1)=M.s[j].next:=by
      unfold Pe
      rw[show ((j:Int)+1 - 1).toNat=j by omega,getD_lt _ _ hj]
     rw[hn] at hg
     refine⟨?_,by rw[HE.o.2,hg.2]⟩
     rw[HE.o.1,hg.1,bD,show (j:Int)+1 - 1=j by omega]
     rfl
    have wS:=((Ar _ _ _).1 (I5 (qh.h _ (bJ hj))).2.2.2).2
    clear HE
    go_wp2_with (first
     | (go_at_call 140;refine(Qa _ _ CJ (by omega)).mono ?_;rw[show (j:Int)+1 - 1=j by omega];rintro e w1 ⟨rfl,rfl⟩))
    rw[DT.o]
    refine(HS.o l j wr HW.o hj (by omega)).mono ?_
    rintro e w2 ⟨rfl,ZL⟩
    have uY:Qi _:=ZL
    have BK:=HB.o _ _ ZL
    have VN:=HA.o _ _ ZL
    clear q0 q1 q2 q3 q4 qs ZL
    obtain⟨q0,q1,q2,q3,q4,f0,f1,f2,f3,f4,qs⟩:=Aj BK
    clear BK f0 f1 f2 f3 f4
    rcases VN.s.at_ with h0|⟨bs,os,rfl,qV⟩
    ·omega
    have c5:=(qV j hj).2.2.2.2.2
    clear VN qV
    go_wp2
    go_roundw
    case rel=>exact⟨k+1,by omega,by go_num,_,_,rfl,wS,by simp[hl],ai,uY⟩
    case measure=>simp[intOf];omega
  ·go_wp2_with (first
    | (go_at_call 108;refine(Qd _ _ (by omega) (by omega)).mono ?_;rintro e w1 ⟨rfl,rfl⟩))
   go_ret
   obtain⟨e1,e2⟩:=HF.o (.inr (by omega))
   rw[e1,e2]
   exact⟨rfl,HW.o⟩
end
section
open ChangeShapes WideShapes ChangeAt RowKit Joins
structure Lst(w0:Wq)(B Yq:Nat)(t e:TypeId)(size:Nat)(ob:Array dU)(W:Wq)(n:Nat)(xs:List dU):Prop where
 var:∃ v,W.heap[B]?=some (.cells #[v] t (0,0))/\W.ownsRow (B+1) e size v n xs
 box:W.heap[Yq]?=some (.cells ob 25 (0,0))
 below:Below B w0 W
 ne:B≠Yq
theorem Aw{W:Wq}{B:Nat}{v:dU}{t:TypeId}(h:W.heap[B]?=some (.cells #[v] t (0,0))):W.cell? ⟨B,0,none⟩=some v/\W.frozen? ⟨B,0,none⟩=false/\B<W.heap.size :=
 ⟨by rw[cell_of_block h];rfl,unfrozen_of_block h _,fC h⟩
theorem Lst.step{w0 W w1:Wq}{B Yq:Nat}{t e:TypeId}{size n m:Nat}{ob:Array dU}{xs jw:List dU}{v v':dU}{o1:Obj}(hB:W.heap[B]?=some (.cells #[v] t (0,0)))(ho:W.ownsRow (B+1) e size v n xs)
  (hY:W.heap[Yq]?=some (.cells ob 25 (0,0))) (hb:Below B w0 W) (iw:B≠Yq) (n1:e≠t) (n2:e≠25) (hg:(W.alloc o1).grownBy w1 v.ownBlock) (LU:w1.ownsRow (B+1) e size v' (n+m) (xs++jw)) :
  Lst w0 B Yq t e size ob (w1.setCell ⟨B,0,none⟩ v') (n+m) (xs++jw):=by
 have lB:=fC hB
 have lY:=fC hY
 have hvB:=own_ne ho hB n1
 have hvY:=own_ne ho hY n2
 have kB:w1.heap[B]?=some (.cells #[v] t (0,0)):=Dt hB hg hvB
 have kY:w1.heap[Yq]?=some (.cells ob 25 (0,0)):=Dt hY hg hvY
 have hu:∀ k,v.ownBlock=some k->B<=k:=fun k hk=>by
  have:=(ho.lt k hk).1
  omega
 refine⟨⟨v',?_,Np LU (own_ne LU kB n1)⟩,(Below.heap_setCell _ _ _ _ (by dsimp only;omega)).trans kY,?_,iw⟩
 ·have:=block_setCell (i:=0) kB v'
  rw[this];rfl
 ·exact Ii hb hg hu (by omega) (Nat.le_refl _)
theorem app85(L:Lst w0 B Yq 23 3 1 ob W l.length (encI l))(hl:l.length<=12) :
  aI Pg 139 #[O J a,Ae B] W fun e W'=>e=.returned (.tuple #[])/\Lst w0 B Yq 23 3 1 ob W' (l ++ [a]).length (encI (l ++ [a])):=by
 unfold Ae
 obtain⟨i0,hi,ng,qj,pq⟩:=info_parts iI
 obtain⟨⟨v,hB,ho⟩,hY,hb,iw⟩:=L
 obtain⟨ao,bg,rfl⟩:=Bg ho
 obtain⟨c0,f0,lB⟩:=Aw hB
 have HB:Qi _:=hB
 have HY:Qi _:=hY
 clear hB hY
 go_enter func139,ntmps139
 go_wp2_with (at_builtin;refine gB _ rfl (.tmp 3) (.tmp 5) 23 rfl (B+1) 3 i0 (O J 0) 1 8 underlying23 hi ng qj pq rfl (by first|decide|exact Ex.ne _ _ (by decide)) _ _ _ rfl (ho.alloc _) ⟨W.heap.size,0,none⟩ 1 1 [O J a] rfl rfl (cell_one_new _ _ _) (by intro u hu;simp at hu;subst hu;rfl) (by unfold maxLen;omega) (by omega) (by simp;omega) ?_;intro v2 w2 jk lg _ ji;obtain⟨g2,eu,rfl⟩:=ownsRow_form jk (by omega);have HL:Qi _:=Lst.step HB.o ho HY.o hb iw (by first|decide|exact Ex.ne _ _ (by decide)) (by first|decide|exact Ex.ne _ _ (by decide)) lg jk;obtain⟨d0,e0,NJ⟩:=Aw (Dt HB.o lg (own_ne ho HB.o (by first|decide|exact Ex.ne _ _ (by decide))));clear c0 f0 lB jk lg ji)
 go_end0
 refine⟨rfl,?_⟩
 have:=HL.o
 rw[show (l ++ [a]).length=l.length+1 by simp,show encI (l ++ [a])=encI l ++ [O J a] by simp[encI]]
 exact this
theorem fn85:∀ args W,(callFunc 139 args).run Pg W=.ok (.enter 139 args) W:=fun _ _=>by kernel_rfl
theorem Kr(S:List Sl):∀ (k:Nat) (n:Int),(I7 S k n).length<=k
 | 0,_=>by simp[I7]
 | k+1,n=>by
  simp only[I7]
  split
  ·have:=Kr S k (Pe S n);simp;omega
  ·simp
def Oa(M:Mm)(b:Nat):Int:=if Kw M b then 0 else 4
def N8(M:Mm)(b:Nat):List Int:=if Kw M b then chL M b else []
theorem a2b(w:Wq)(A:At w aS aH aF aL cS cH cF cL M)(qh:Ok M)(hb:b<M.h.length) :
  aI Pg 98 #[Cm aS aH aF aL cS cH cF cL M,O J b] w fun e w' =>
   ∃ ao bg,e=.returned (.tuple #[Y ao (N8 M b).length bg,O J (Oa M b)])/\Dk w' ao bg (N8 M b)/\Below w.heap.size w w':=by
 unfold Cm
 obtain⟨E0,lh⟩:∃ E0,E0=Oa M b:=⟨_,rfl⟩
 obtain⟨L0,OU⟩:∃ L0,L0=N8 M b:=⟨_,rfl⟩
 rw[<- lh,<- OU]
 have mr:Qi (E0=Oa M b):=lh
 have RZ:Qi (L0=N8 M b):=OU
 clear lh OU
 have n0:=qh.ns
 obtain⟨o1,vC⟩:∃ o:Obj,o=.cells #[Y aS M.s.length cS,Y aH M.h.length cH,Y aF M.f.length cF,Y aL M.l.length cL,O J M.w] 25:=⟨_,rfl⟩
 obtain⟨o2,jk⟩:∃ o:Obj,o=.cells #[Y none 0 0] 23:=⟨_,rfl⟩
 have b0:Below w.heap.size w ((w.alloc o1).alloc o2):=below_alloc2 w o1 o2
 have tq:Qi (((w.alloc o1).alloc o2).heap[w.heap.size]?=some o1):=by show _=_;rw[fU _ _ _ (by simp),fP]
 have lq:Qi (((w.alloc o1).alloc o2).heap[w.heap.size+1]?=some o2):=by
  have:=fP (w.alloc o1) o2
  rwa [show (w.alloc o1).heap.size=w.heap.size+1 by simp] at this
 have rC:Qi (((w.alloc o1).alloc o2).heap.size=w.heap.size+2):=by show _=_;simp
 have ul:Qi _:=A.below b0
 have hmf:∀ (fn:Fn) (first bg:Array dU) (w:Wq),(Instr.makeFunc fn first bg).run Pg w=.ok (.func fn first bg) w:=fun _ _ _ _=>rfl
 go_enter func98,ntmps98
 go_wp2_with fail
 rw[<- vC,<- jk]
 generalize (w.alloc o1).alloc o2=W0 at *
 subst vC jk
 have EF:Lst W0 (w.heap.size+1) W0.heap.size 23 3 1 #[Y aS M.s.length cS,Y aH M.h.length cH,Y aF M.f.length cF,Y aL M.l.length cL,O J M.w] (W0.alloc (.cells #[Y aS M.s.length cS,Y aH M.h.length cH,Y aF M.f.length cF,Y aL M.l.length cL,O J M.w] 25)) ([]:List Int).length (encI []):=by
  have z:=rC.o
  refine⟨⟨Y none 0 0,?_,World.ownsRow_nil _ _ _ _⟩,fP _ _,(Below.refl _ _).alloc (by omega) _,by omega⟩
  rw[fU _ _ _ (by omega)]
  exact lq.o
 have HAw:Qi _:=A
 clear A
 refine(walk_any 139 #[.pointer (some ⟨w.heap.size+1,0,none⟩)] M aS aH aF aL cS cH cF cL b W0 qh hb fn85 (fun l W=>Lst W0 (w.heap.size+1) W0.heap.size 23 3 1 #[Y aS M.s.length cS,Y aH M.h.length cH,Y aF M.f.length cF,Y aL M.l.length cL,O J M.w] W l.length (encI l)) EF (fun l W h=>h.box) (fun l W h=>HAw.o.below (b0.trans (h.below.mono (by omega)))) ?_).mono ?_
 ·intro l a W hL ha hl
  exact app85 _ _ _ _ _ _ _ hL (by omega)
 rintro e w1 ⟨rfl,hL1⟩
 have HL1:Qi _:=hL1
 have iy:Qi (Below w.heap.size w w1):=b0.trans (hL1.below.mono (by omega))
 obtain⟨⟨v,hv,ho⟩,-,-,-⟩:=hL1
 have hm:(chL M b).length<=12:=Nat.le_trans (Kr _ _ _) n0
 obtain⟨ao,bg,rfl,qp⟩:=Dk.He ho (by omega)
 obtain⟨c0,f0,lB⟩:=Aw hv
 have uA:Qi _:=qp
 clear hv ho qp HL1 EF tq lq rC ul b0
 cases hc:Kw M b
 ·have HV:Qi (E0=4/\L0=[]):=⟨mr.o.trans (by unfold Oa;rw[hc];rfl),RZ.o.trans (by unfold N8;rw[hc];rfl)⟩
  go_wp2
  go_ret2
  refine⟨none,0,?_,?_,iy.o⟩
  ·rw[HV.o.1,HV.o.2];rfl
  ·rw[HV.o.2];exact⟨by decide,by decide,fun _=>rfl,.inl rfl⟩
 ·have HV:Qi (E0=0/\L0=chL M b):=⟨mr.o.trans (by unfold Oa;rw[hc];rfl),RZ.o.trans (by unfold N8;rw[hc];rfl)⟩
  go_wp2
  go_ret2
  refine⟨ao,bg,?_,?_,iy.o⟩
  ·rw[HV.o.1,HV.o.2];rfl
  ·rw[HV.o.2];exact uA.o
end
section
open ChangeShapes WideShapes ChangeAt RowKit Joins Maps
theorem Fj{M:Mm}{j:Nat}(h:j<M.s.length):Aa M j=M.s[j]:=by simp[Aa,List.getD_eq_getElem?_getD,h]
theorem Y6(w:Wq)(A:At w aS aH aF aL cS cH cF cL M)(qh:Ok M)(hb:b<M.h.length)(hj:j<M.s.length)(hm:MapAt M w g all) :
  aI Pg 125 #[Cm aS aH aF aL cS cH cF cL M,O J b,O J j,.map (some g)] w fun e w'=>e=.returned (O J (Gg M b all j))/\Below w.heap.size w w':=by
 unfold Cm
 obtain⟨E0,lh⟩:∃ E0,E0=Gg M b all j:=⟨_,rfl⟩
 rw[<- lh]
 have mr:Qi (E0=Gg M b all j):=lh
 clear lh
 have n0:=qh.ns
 have n1:=qh.nh
 have sS:=I5 (qh.h _ (bJ hj))
 have hs:Aa M j=M.s[j]:=Fj hj
 have HM:Qi (MapAt M w g all):=hm
 have gl:=hm.lt
 clear hm
 rcases A.s.at_ with h0|⟨bs,os,rfl,hc⟩
 ·omega
 obtain⟨c0,c1,c2,c3,c4,c5⟩:=hc j hj
 have lt:=cell_lt c0
 clear hc A
 generalize hsl:M.s[j]=s at c0 c1 c2 c3 c4 c5
 rw[hsl] at sS hs
 obtain⟨r,ka,kb,u,i,nx⟩:=s
 dsimp only at c0 c1 c2 c3 c4 c5 sS
 have IA:Qi (Aa M j=⟨r,ka,kb,u,i,nx⟩):=hs
 clear hsl hs
 have EO:=sS.2.2.1
 clear sS
 have jd:Below w.heap.size w ((w.alloc (.cells #[Y (some ⟨bs,os,none⟩) M.s.length cS,Y aH M.h.length cH,Y aF M.f.length cF,Y aL M.l.length cL,O J M.w] 25)).alloc (.cells #[O J r,O J ka,O J kb,O J u,.bool i,O J nx] 64)):=below_alloc2 w _ _
 by_cases hr:r=0
 ·subst hr
  have HV:Qi (E0=5):=mr.o.trans (by unfold Gg;rw[IA.o,af (.inl rfl)])
  go_enter func125,ntmps125
  go_wp2
  go_ret
  exact⟨Bf HV.o.symm,jd⟩
 have TY:(r==0)=false:=by simpa using hr
 cases i
 ·have HV:Qi (E0=5):=mr.o.trans (by unfold Gg;rw[IA.o,af (.inr rfl)])
  go_enter func125,ntmps125
  go_wp2
  go_ret
  exact⟨Bf HV.o.symm,jd⟩
 have HC:Qi (E0=if Eh ka kb M.h.length≠b then 4 else if hasK M all (ka,kb) then 6 else 0):=mr.o.trans (by
  have hk:keyAt M j=(ka,kb):=by unfold keyAt;rw[IA.o]
  unfold Gg
  rw[hk,IA.o]
  dsimp only
  rw[ae (by rintro (h|h);exact hr h;cases h)])
 have HK:Qi (Ei ka kb=true):=EO
 clear EO mr
 go_enter func125,ntmps125
 go_wp2_with fail
 refine(Yc _ _ _ _ HK.o n1.1 n1.2).mono ?_
 rintro e w1 ⟨rfl,bu⟩
 have qW:Below w.heap.size w w1:=jd.trans (bu.mono (by simp;omega))
 have s1:w1.cell? ⟨w.heap.size+1,1,none⟩=some (O J ka):=((Ce bu).1 _ _ (by simp)).trans (by simp)
 have s2:w1.cell? ⟨w.heap.size+1,2,none⟩=some (O J kb):=((Ce bu).1 _ _ (by simp)).trans (by simp)
 have hl:=MapAt.look (MapAt.kept HM.o (qW.block g gl)) HK.o
 clear bu jd c0 c1 c2 c3 c4 c5
 by_cases CQ:Eh ka kb M.h.length=b
 ·have HD:Qi (E0=if hasK M all (ka,kb) then 6 else 0):=HC.o.trans (by rw[ae (by simpa using CQ)])
  rw[CQ]
  have Vs:((b:Int) != (b:Int))=false:=by simp
  cases hh:hasK M all (ka,kb)
  ·rw[hh] at hl
   have HV:Qi (E0=0):=HD.o.trans (by rw[hh];rfl)
   clear HC HD
   go_wp2
   go_ret
   exact⟨Bf HV.o.symm,qW⟩
  ·rw[hh] at hl
   have HV:Qi (E0=6):=HD.o.trans (by rw[hh];rfl)
   clear HC HD
   go_wp2
   go_ret
   exact⟨Bf HV.o.symm,qW⟩
 ·have Vs:(Eh ka kb M.h.length != (b:Int))=true:=by simpa using CQ
  have HV:Qi (E0=4):=HC.o.trans (by rw[af CQ])
  clear HC
  generalize Eh ka kb M.h.length=q at *
  go_wp2
  go_ret
  exact⟨Bf HV.o.symm,qW⟩
end
section
open ChangeShapes WideShapes ChangeAt RowKit Joins Maps
theorem a2n{S:List Sl}{N:Nat}(hs:∀ s∈S,s.next<=N):∀ (k:Nat) (n:Int),n<=N->∀ a∈I7 S k n,0<=a/\a<N
 | 0,_,_,_,ha=>by cases ha
 | k+1,n,hn,a,ha=>by
  simp only[I7] at ha
  split at ha
  ·rename_i h0
   rcases aZ.1 ha with rfl|ha
   ·omega
   ·refine a2n hs k (Pe S n) ?_ a ha
    unfold Pe
    by_cases hx:(n - 1).toNat<S.length
    ·rw[getD_lt S _ hx];exact hs _ (bJ hx)
    ·rw[List.getD_eq_getElem?_getD,List.getElem?_eq_none (by omega)];show (0:Int)<=N;omega
  ·cases ha
theorem Ok.b5m{M:Mm}(h:Ok M){b:Nat}(hb:b<M.h.length):∀ a∈chL M b,0<=a/\a<M.s.length :=
 a2n (fun s hs=>((Ar _ _ _).1 (I5 (h.h s hs)).2.2.2).2) _ _ ((Ar _ _ _).1 (h.Zp hb).2).2
theorem a9k{w:Wq}{g o:Nat}{es:Array MapEntry}{qX:Nat}(h:w.heap[g]?=some (.map es qX)):w.cell? ⟨g,o,none⟩=none:=by
 unfold World.cell?
 rw[h]
theorem Dk.turn{w w':Wq}{ao:Option Addr}{bg g:Nat}{l:List Int}{es:Array MapEntry}{qX:Nat}(r:Dk w ao bg l)(hg:w.heap[g]?=some (.map es qX))(h:∀ k,k<w.heap.size->k≠g->w'.heap[k]?=w.heap[k]?):Dk w' ao bg l:=by
 refine⟨r.le,r.max,r.nil,?_⟩
 rcases r.at_ with h0|⟨b,o,e,hc⟩
 ·exact .inl h0
 ·refine .inr ⟨b,o,e,fun i hi=>?_⟩
  have iw:b≠g:=by
   rintro rfl
   have:=hc i hi
   rw[a9k hg] at this
   cases this
  rw[World.cell?_of_block (a:=⟨b,o+i,none⟩) (h b (cell_lt (hc i hi)) iw)]
  exact hc i hi
theorem MapAt.blk{M:Mm}{w:Wq}{g:Nat}{l:List Int}(h:MapAt M w g l):∃ es qX,w.heap[g]?=some (.map es qX):=by
 obtain⟨n,hn,D,⟨es,qX,hg,F,hs,hD⟩,jc⟩:=h
 exact⟨es,qX,hg⟩
theorem Iy(M:Mm):∀ b:Nat,(Bc M b).length<=b*M.s.length
 | 0=>by simp[Bc]
 | b+1=>by
  rw[Hq,gU,Nat.succ_mul]
  have:=Iy M b
  have:(chL M b).length<=M.s.length:=Kr _ _ _
  omega
def MapIs(M:Mm)(Z:Int)(lo:Nat)(w:Wq)(v:dU):Prop:=(Z≠0->v=.map none)/\(Z=0->∃ g,v=.map (some g)/\lo<=g/\MapAt M w g (Nb M))
theorem a3q(w:Wq)(A:At w aS aH aF aL cS cH cF cL M) :
  aI Pg 76 #[Cm aS aH aF aL cS cH cF cL M] w fun e w'=>∃ v,e=.returned (.tuple #[v,.int .i64 (Gu M)])/\MapIs M (Gu M) w.heap.size w' v/\Below w.heap.size w w':=by
 unfold Cm
 obtain⟨Z,hZ⟩:∃ Z,Z=Gu M:=⟨_,rfl⟩
 rw[<- hZ]
 have HZ:Qi (Z=Gu M):=hZ
 clear hZ
 obtain⟨o1,vC⟩:∃ o:Obj,o=.cells #[.slice aS M.s.length cS,.slice aH M.h.length cH,.slice aF M.f.length cF,.slice aL M.l.length cL,.int .i64 M.w] 25:=⟨_,rfl⟩
 have b0:Below w.heap.size w (w.alloc o1):=A7 w o1
 have tq:Qi ((w.alloc o1).heap[w.heap.size]?=some o1):=fP _ _
 have HA:Qi (At w aS aH aF aL cS cH cF cL M):=A
 have ul:Qi _:=A.below b0
 clear A
 go_enter func76,ntmps76
 go_wp2_with fail
 rw[<- vC]
 generalize w.alloc o1=W0 at *
 subst vC
 refine(check_any M aS aH aF aL cS cH cF cL W0 ul.o).mono ?_
 rintro e w1 ⟨rfl,bu⟩
 have b1:=b0.trans (bu.mono b0.size)
 have iy:Qi _:=(bu.block w.heap.size (fC tq.o)).trans tq.o
 clear bu b0 tq ul
 by_cases hE:chk M=0
 rotate_left
 ·have h':(chk M != 0)=true:=by simpa using hE
  have HV:Qi (Z=chk M):=HZ.o.trans (by unfold Gu;rw[af hE])
  have HN:Qi (chk M≠0):=hE
  clear iy
  generalize chk M=E at *
  go_wp2
  go_ret2
  exact⟨_,by rw[HV.o];rfl,⟨fun _=>rfl,fun h=>absurd (HV.o ▸ h) HN.o⟩,b1⟩
 have qh:=(Ky M).1 hE
 have n0:=qh.ns
 have n1:=qh.nh
 have HC:Qi (Z=Qe M M.h.length 0 []):=HZ.o.trans (by unfold Gu;rw[ae (by simpa using hE)])
 rw[hE]
 clear hE HZ
 obtain⟨q0,q1,q2,q3,q4,f0,f1,f2,f3,f4,qs⟩:=Aj iy.o
 clear f0 f1 f2 f3 f4
 have PS:Qi (MapAt M (w1.alloc (.map #[] 0)) w1.heap.size []):=MapAt.made M w1
 have b2:=b1.alloc b1.size (.map #[] 0)
 have rJ:Qi ((w1.alloc (.map #[] 0)).heap[w.heap.size]?=_):=(fU _ _ _ qs).trans iy.o
 have yG:=@run_makeMap Pg
 go_wp2
 clear q0 q1 q2 q3 q4 yG
 go_loopw [21] (fun i wr=>∃ b:Nat,b<=M.h.length/\i=.int .i64 b/\Qi (MapAt M wr w1.heap.size (Bc M b))/\Below w.heap.size w wr/\Qi (wr.heap[w.heap.size]?=some (.cells #[.slice aS M.s.length cS,.slice aH M.h.length cH,.slice aF M.f.length cF,.slice aL M.l.length cL,.int .i64 M.w] 25 (0,0)))/\Qi (Z=Qe M (M.h.length - b) b (Bc M b)))
  (fun i _=>M.h.length - (intOf i).toNat)
 case atStart=>exact⟨0,Nat.zero_le _,rfl,PS,b2,rJ,HC⟩
 case round =>
  obtain⟨b,hb,rfl,HM,jd,HB,HE⟩:=hrel
  clear PS rJ b2 HC iy b1
  obtain⟨q0,q1,q2,q3,q4,f0,f1,f2,f3,f4,NF⟩:=Aj HB.o
  clear f0 f1 f2 f3 f4
  have gl:=MapAt.lt HM.o
  by_cases gm:b<M.h.length
  ·have YD:Qi _:=HA.o.below jd
   go_wp2_with fail
   refine(a2b M aS aH aF aL cS cH cF cL b wr YD.o qh gm).mono ?_
   rintro e w2 ⟨ao,bg,rfl,qp,dm⟩
   have qW:=jd.trans (dm.mono jd.size)
   have DN:Qi (MapAt M w2 w1.heap.size (Bc M b)):=MapAt.kept HM.o (dm.block _ gl)
   have rJ:Qi (w2.heap[w.heap.size]?=_):=(dm.block w.heap.size NF).trans HB.o
   have HS:Qi _:=Yi M b gm
   clear HM HB YD jd dm q0 q1 q2 q3 q4
   cases hc:Kw M b
   ·have HV:Qi (Z=4):=HE.o.trans (HS.o.trans (by rw[hc];rfl))
    have es:Oa M b=4:=by unfold Oa;rw[hc];rfl
    have el:N8 M b=[]:=by unfold N8;rw[hc];rfl
    rw[es,el]
    clear qp HS HE
    go_wp2
    go_ret2
    exact⟨_,by rw[HV.o];rfl,⟨fun _=>rfl,fun h=>by rw[HV.o] at h;cases h⟩,qW⟩
   ·have es:Oa M b=0:=by unfold Oa;rw[hc];rfl
    have el:N8 M b=chL M b:=by unfold N8;rw[hc];rfl
    rw[es,el]
    rw[el] at qp
    have xX:Qi _:=qh.b5m gm
    have uA:Qi (Dk w2 ao bg (chL M b)):=qp
    have jb:(chL M b).length<=12:=Nat.le_trans (Kr _ _ _) n0
    have HD:Qi (Z=if Gs M b (Bc M b) (chL M b)≠0 then Gs M b (Bc M b) (chL M b) else Qe M (M.h.length - (b+1)) (b+1) (Bc M (b+1))):=HE.o.trans (HS.o.trans (by rw[hc];rfl))
    have WY:Qi (Bc M (b+1)=Bc M b++chL M b):=Hq M b
    clear qp HS HE es el hc
    generalize chL M b=l at *
    go_wp2
    go_loopw [35] (fun i wr=>∃ k:Nat,k<=l.length/\i=.int .i64 k/\Qi (MapAt M wr w1.heap.size (Bc M b++l.take k))/\Qi (Dk wr ao bg l)/\Below w.heap.size w wr/\Qi (wr.heap[w.heap.size]?=some (.cells #[.slice aS M.s.length cS,.slice aH M.h.length cH,.slice aF M.f.length cF,.slice aL M.l.length cL,.int .i64 M.w] 25 (0,0)))/\Qi (Gs M b (Bc M b) l=Gs M b (Bc M b++l.take k) (l.drop k)))
     (fun i _=>l.length - (intOf i).toNat)
    case atStart=>exact⟨0,Nat.zero_le _,rfl,by rw[gX,gV];exact DN,uA,qW,rJ,by rw[gX,gV,List.drop_zero];exact rfl⟩
    case round =>
     obtain⟨k,hk,rfl,MV,zC,gu,tH,di⟩:=hrel
     clear DN uA qW rJ
     obtain⟨q0,q1,q2,q3,q4,f0,f1,f2,f3,f4,YO⟩:=Aj tH.o
     clear f0 f1 f2 f3 f4
     by_cases rU:k<l.length
     ·rcases zC.o.at_ with h0|⟨bl,ol,rfl,ES⟩
      ·omega
      have d0:=ES k rU
      clear ES
      have vw:=xX.o l[k] (bJ rU)
      obtain⟨j,hj⟩:∃ j:Nat,l[k]=j:=⟨(l[k]).toNat,by omega⟩
      have HX:Qi (l[k]=j):=hj
      rw[hj] at d0 vw
      clear hj
      have EQ:j<M.s.length:=by omega
      have QB:Qi _:=HA.o.below gu
      have uZ:Qi _:=Xr M b (Bc M b) l k rU
      go_wp2_with fail
      refine(Y6 M aS aH aF aL cS cH cF cL b j w1.heap.size (Bc M b++l.take k) wr QB.o qh gm EQ MV.o).mono ?_
      rintro e w4 ⟨rfl,qK⟩
      have JK:=gu.trans (qK.mono gu.size)
      have HM4:Qi (MapAt M w4 w1.heap.size (Bc M b++l.take k)):=MapAt.kept MV.o (qK.block _ (MapAt.lt MV.o))
      have vK:Qi (w4.heap[w.heap.size]?=_):=(qK.block w.heap.size YO).trans tH.o
      have HR4:Qi _:=zC.o.below qK
      have BX:Qi _:=HA.o.below JK
      clear MV tH zC QB qK gu q0 q1 q2 q3 q4 d0
      by_cases IU:Gg M b (Bc M b++l.take k) j=0
      ·rw[IU]
       have HV:Qi (Gs M b (Bc M b) l=Gs M b (Bc M b++l.take (k+1)) (l.drop (k+1))):=di.o.trans (uZ.o.trans (by rw[HX.o,ae (by simpa using IU)]))
       have hz:=(Ru M b _ _).1 IU
       have hnk:hasK M (Bc M b++l.take k) (keyAt M j)=false:=by
        cases hh:hasK M (Bc M b++l.take k) (keyAt M j)
        ·rfl
        ·exact absurd ((P5 _ _ _).1 hh) hz.2
       have HNK:Qi _:=hnk
       clear hz hnk IU uZ di
       obtain⟨r0,r1,r2,r3,r4,g0,g1,g2,g3,g4,rs⟩:=Aj vK.o
       clear g0 g1 g2 g3 g4
       have sS:=(I5 (qh.h _ (bJ EQ))).2.2.1
       rcases BX.o.s.at_ with h0|⟨bs,os,rfl,qV⟩
       ·omega
       obtain⟨c0,c1,c2,c3,c4,c5⟩:=qV j EQ
       clear qV c0 c3 c4 c5
       have hsl:Aa M j=M.s[j]:=Fj EQ
       have UL:keyAt M j=(M.s[j].a,M.s[j].b):=by unfold keyAt;rw[hsl]
       have XQ:Qi (keyAt M j=(M.s[j].a,M.s[j].b)):=UL
       have IA:Qi (Aa M j=M.s[j]):=hsl
       clear UL hsl
       obtain⟨nn,QJ,D,ho,jc⟩:=HM4.o
       have HO:Qi (w4.ownsMap Pg 30 (plainElem Pg 3) w1.heap.size nn D):=ho
       have wQ:Qi _:=jc
       obtain⟨es,qX,ZE⟩:=MapAt.blk HM4.o
       have HGB:Qi _:=ZE
       have hnn2:nn<140737488355328:=by
        have h1:=Iy M b
        have h2:b*M.s.length<=4*12:=Nat.mul_le_mul (by omega) n0
        have h3:=QJ
        simp only[gU,List.length_take] at h3
        omega
       clear ho jc ZE
       go_wp2_with (at_mapUpdate;(refine wpList_mapUpdate_own (H:=Unit) _ rfl _ _ _ 121 rfl 30 3 b0f a2k (plainElem Pg 3) w1.heap.size nn D rfl HO.o (by unfold maxLen;omega) _ _ (kl (M.s[j].a,M.s[j].b)) rfl rfl (Tj (Ls sS).1 (Ls sS).2) (.lit (.int .i64 (j:Int))) [] (plainElem_int underlying3 (wf64 (by omega) (by omega))) ?_;intro w5 uQ OE))
       have HM5:Qi (MapAt M w5 w1.heap.size (Bc M b++l.take (k+1))):=by
        have:=MapAt.put (a:=(j:Int)) QJ HO.o.isMap wQ.o (by rw[IA.o];exact sS) HNK.o (by rw[XQ.o];exact uQ)
        rw[List.take_succ_eq_append_getElem rU,<- bD,HX.o]
        exact this
       have yC:Qi (w5.heap[w.heap.size]?=some (.cells #[.slice (some ⟨bs,os,none⟩) M.s.length cS,.slice aH M.h.length cH,.slice aF M.f.length cF,.slice aL M.l.length cL,.int .i64 M.w] 25 (0,0))):=(OE.block w.heap.size rs (by simp;omega)).trans vK.o
       have DK:Qi (Dk w5 (some ⟨bl,ol,none⟩) bg l):=HR4.o.turn HGB.o (fun k h1 h2=>OE.block k h1 (by simpa using h2))
       have tY:Below w.heap.size w w5:=JK.grown OE JK.size (fun k h=>by cases h;omega)
       go_roundw
       case rel=>exact⟨k+1,by omega,by go_num,HM5,DK,tY,yC,HV⟩
       case measure=>simp[intOf];omega
      ·have h':(Gg M b (Bc M b++l.take k) j != 0)=true:=by simpa using IU
       have HV:Qi (Z=Gg M b (Bc M b++l.take k) j):=by
        have h1:=di.o.trans (uZ.o.trans (by rw[HX.o,af IU]))
        have:=HD.o
        rw[h1,af IU] at this
        exact this
       have HN:Qi (Gg M b (Bc M b++l.take k) j≠0):=IU
       clear uZ di HD IU vK HR4 BX HM4
       generalize Gg M b (Bc M b++l.take k) j=E at *
       go_wp2
       go_ret2
       exact⟨_,by rw[HV.o];rfl,⟨fun _=>rfl,fun h=>absurd (HV.o ▸ h) HN.o⟩,JK⟩
     ·have rO:k=l.length:=by omega
      have HV:Qi (Z=Qe M (M.h.length - (b+1)) (b+1) (Bc M (b+1))):=by
       have h1:=di.o.trans (Zb M b (Bc M b) l k (by omega))
       have:=HD.o
       rw[h1,ae (by simp)] at this
       exact this
      have HM6:Qi (MapAt M wr w1.heap.size (Bc M (b+1))):=by
       have:=MV.o
       rw[rO,List.take_length,<- WY.o] at this
       exact this
      go_wp2
      go_roundw
      case rel=>exact⟨b+1,by omega,by go_num,HM6,gu,tH,HV⟩
      case measure=>simp[intOf];omega
  ·have Vs:b=M.h.length:=by omega
   have HV:Qi (Z=0):=HE.o.trans (a0t M b (by omega) _)
   have HMf:Qi (MapAt M wr w1.heap.size (Nb M)):=by
    have:=HM.o
    rw[Vs] at this
    exact this
   go_wp2
   go_ret2
   exact⟨_,by rw[HV.o];rfl,⟨fun h=>absurd HV.o h,fun _=>⟨w1.heap.size,rfl,by omega,HMf.o⟩⟩,jd⟩
end
section
open ChangeShapes WideShapes ChangeAt RowKit Joins Maps
theorem Wl(w:Wq)(A:At w aS aH aF aL cS cH cF cL M) :
  aI Pg 29 #[Cm aS aH aF aL cS cH cF cL M] w fun e w'=>e=.returned (O J (Gu M))/\Below w.heap.size w w':=by
 unfold Cm
 have b0:Below w.heap.size w (w.alloc (.cells #[Y aS M.s.length cS,Y aH M.h.length cH,Y aF M.f.length cF,Y aL M.l.length cL,O J M.w] 25)):=A7 w _
 have ul:Qi _:=A.below b0
 clear A
 go_enter func29,ntmps29
 go_wp2_with fail
 refine(a3q M aS aH aF aL cS cH cF cL _ ul.o).mono ?_
 rintro e w1 ⟨v,rfl,-,bu⟩
 have b1:=b0.trans (bu.mono b0.size)
 clear bu b0 ul
 go_wp2
 go_ret
 exact⟨rfl,b1⟩
end
section
open ChangeShapes WideShapes ChangeAt RowKit Joins Maps
structure Fl where
 a:Int
 b:Int
 h:Int
 unt:Int
def Fl.enc(f:Fl):List dU:=[O J f.a,O J f.b,O J f.h,O J f.unt]
def Hr(l:List Fl):List dU:=l.flatMap Fl.enc
theorem Ym(s:Fl)(l:List Fl):Hr (s :: l)=s.enc++Hr l:=by simp[Hr]
theorem a9r(l:List Fl):(Hr l).length=l.length*4:=by
 induction l with
 | nil=>rfl
 | cons s l ih=>rw[Ym,gU,ih];simp[Fl.enc];omega
theorem a9q(l:List Fl)(i q:Nat)(h:i<l.length)(hq:q<4):(Hr l)[i*4+q]?=(l[i].enc)[q]?:=by
 induction l generalizing i with
 | nil=>simp at h
 | cons s l ih =>
  rw[Ym]
  match i with
  | 0 =>
   rw[List.getElem?_append_left (by simp[Fl.enc];omega)]
   simp
  | i+1 =>
   rw[List.getElem?_append_right (by simp[Fl.enc];omega)]
   have hl:s.enc.length=4:=rfl
   rw[hl,show (i+1)*4+q - 4=i*4+q by omega,ih i (by simpa using h)]
   simp
structure Ho(w:Wq)(ao:Option Addr)(bg:Nat)(l:List Fl):Prop where
 le:l.length<=bg
 max:l.length*32<=140737488351232
 nil:ao=none->bg=0
 at_:l.length=0\/∃ b o,ao=some ⟨b,o,none⟩/\∀ i (h:i<l.length),
  w.cell? ⟨b,o+i*4,none⟩=some (O J l[i].a)/\w.cell? ⟨b,o+i*4+1,none⟩=some (O J l[i].b)/\w.cell? ⟨b,o+i*4+2,none⟩=some (O J l[i].h)/\w.cell? ⟨b,o+i*4+3,none⟩=some (O J l[i].unt)
theorem Ho.below{w w':Wq}{ao:Option Addr}{bg:Nat}{l:List Fl}(r:Ho w ao bg l)(hb:Below w.heap.size w w'):Ho w' ao bg l:=by
 refine⟨r.le,r.max,r.nil,?_⟩
 rcases r.at_ with h|⟨b,o,h,hc⟩
 ·exact .inl h
 ·refine .inr ⟨b,o,h,fun i hi=>?_⟩
  obtain⟨c0,c1,c2,c3⟩:=hc i hi
  have lt:=cell_lt c0
  obtain⟨q,_⟩:=Ce hb
  exact⟨(q _ _ lt).trans c0,(q _ _ lt).trans c1,(q _ _ lt).trans c2,(q _ _ lt).trans c3⟩
theorem Ho.P9{w:Wq}{b bg:Nat}{S:List Fl}(hl:S.length<=bg)(hm:S.length*32<=140737488351232)(hc:∀ j,j<S.length*4->w.cell? ⟨b,j,none⟩=(Hr S)[j]?):Ho w (some ⟨b,0,none⟩) bg S:=by
 refine⟨hl,hm,(fun h=>by cases h),.inr ⟨b,0,rfl,fun i hi=>?_⟩⟩
 have e:∀ q,q<4->w.cell? ⟨b,0+i*4+q,none⟩=(S[i].enc)[q]?:=fun q hq=>by
  rw[Nat.zero_add,hc _ (by omega),a9q S i q hi hq]
 exact⟨e 0 (by omega),e 1 (by omega),e 2 (by omega),e 3 (by omega)⟩
theorem Ho.He{w:Wq}{base n:Nat}{v:dU}{S:List Fl}(h:w.ownsRow base 61 4 v n (Hr S))(hm:S.length*32<=140737488351232):∃ ao bg,v=Y ao S.length bg/\Ho w ao bg S:=by
 have hl:=h.1
 rw[a9r] at hl
 have hn:S.length=n:=by omega
 subst hn
 rcases h.2 with ⟨rfl,h0⟩|⟨g,bg,sU,rfl,hg,hb,hc,-,hs,ht⟩
 ·exact⟨none,0,by rw[h0],by omega,hm,fun _=>rfl,.inl h0⟩
 ·exact⟨_,_,rfl,.P9 hc hm fun j hj=>h.cellAt j hj⟩
theorem iF:(Pg.info? 61).map (fun i=>(i.zero,i.size,i.bytes))=some (some (.agg #[O J 0,O J 0,O J 0,O J 0]),4,32):=by kernel_rfl
def Bv(M:Mm)(x:Int):Fl:=⟨(Aa M x).a,(Aa M x).b,x,(Aa M x).unt⟩
def Gn(M:Mm):List Fl:=if Gu M=0 then (Nb M).map (Bv M) else []
theorem a1c(w:Wq)(f:Fl):∀ (j:Nat) (u:dU),(f.enc)[j]?=some u->(w.alloc (.cells #[O J f.a,O J f.b,O J f.h,O J f.unt] 61)).cell? ((⟨w.heap.size,0,none⟩:Addr).add j)=some u:=by
 intro j u hu
 rw[Addr.add_lit]
 match j,hu with
 | 0,hu=>simp[Fl.enc] at hu;subst hu;simp
 | 1,hu=>simp[Fl.enc] at hu;subst hu;simp
 | 2,hu=>simp[Fl.enc] at hu;subst hu;simp
 | 3,hu=>simp[Fl.enc] at hu;subst hu;simp
 | j+4,hu=>simp[Fl.enc] at hu
theorem app72(L:Lst w0 B Yq 56 61 4 ob W (l.map (Bv M)).length (Hr (l.map (Bv M))))(hl:l.length<=100)(hX:W.heap[X]?=some (.cells #[Y aS M.s.length cS,Y aH M.h.length cH,Y aF M.f.length cF,Y aL M.l.length cL,O J M.w] 25 (0,0)))(A:At W aS aH aF aL cS cH cF cL M)(hj:j<M.s.length)(ig:M.s.length<=12) :
  aI Pg 100 #[O J j,Ae X,Ae B] W fun e W'=>e=.returned (.tuple #[])/\Lst w0 B Yq 56 61 4 ob W' ((l ++ [(j:Int)]).map (Bv M)).length (Hr ((l ++ [(j:Int)]).map (Bv M))):=by
 unfold Ae
 obtain⟨i0,hi,ng,qj,pq⟩:=info_parts iF
 obtain⟨⟨v,hB,ho⟩,hY,hb,iw⟩:=L
 have hll:(l.map (Bv M)).length=l.length:=by simp
 rw[hll] at ho
 obtain⟨ao,bg,rfl⟩:=Bg ho
 obtain⟨c0,f0,lB⟩:=Aw hB
 obtain⟨q0,q1,q2,q3,q4,-,-,-,-,-,qs⟩:=Aj hX
 rcases A.s.at_ with h0|⟨bs,os,rfl,qV⟩
 ·omega
 obtain⟨s0,s1,s2,s3,s4,s5⟩:=qV j hj
 have ls:=cell_lt s0
 have hsl:Aa M j=M.s[j]:=Fj hj
 generalize hM:M.s[j]=s at s0 s1 s2 s3 s4 s5 hsl
 obtain⟨r,ka,kb,u,i,nx⟩:=s
 dsimp only at s0 s1 s2 s3 s4 s5
 have FP:Qi (Bv M j=⟨ka,kb,j,u⟩):=by unfold Bv;rw[hsl];rfl
 clear hM hsl qV A hX
 have HB:Qi _:=hB
 have HY:Qi _:=hY
 have lY:=fC hY
 clear hB hY
 have kB:(W.alloc (.cells #[O J r,O J ka,O J kb,O J u,.bool i,O J nx] 64)).heap[B]?=_:=(fU W (.cells #[O J r,O J ka,O J kb,O J u,.bool i,O J nx] 64) B lB).trans HB.o
 have kY:(W.alloc (.cells #[O J r,O J ka,O J kb,O J u,.bool i,O J nx] 64)).heap[Yq]?=_:=(fU W (.cells #[O J r,O J ka,O J kb,O J u,.bool i,O J nx] 64) Yq lY).trans HY.o
 have KB:Qi _:=kB
 have KY:Qi _:=kY
 clear kB kY
 have wW:=hb.alloc (Nat.le_of_lt lB) (.cells #[O J r,O J ka,O J kb,O J u,.bool i,O J nx] 64)
 have HN:Qi _:=a1c (W.alloc (.cells #[O J r,O J ka,O J kb,O J u,.bool i,O J nx] 64)) ⟨ka,kb,j,u⟩
 rw[show (W.alloc (.cells #[O J r,O J ka,O J kb,O J u,.bool i,O J nx] 64)).heap.size=W.heap.size+1 by simp] at HN
 go_enter func100,ntmps100
 go_wp2_with (at_builtin;refine gB _ rfl (.tmp 10) (.tmp 17) 56 rfl (B+1) 61 i0 (.agg #[O J 0,O J 0,O J 0,O J 0]) 4 32 underlying56 hi ng qj pq rfl (by first|decide|exact Ex.ne _ _ (by decide)) _ _ _ rfl ((ho.alloc _).alloc _) ⟨W.heap.size+1,0,none⟩ 1 1 (Fl.enc ⟨ka,kb,j,u⟩) rfl rfl HN.o (by intro x hx;simp only[Fl.enc,aZ,List.not_mem_nil,or_false] at hx;rcases hx with rfl|rfl|rfl|rfl <;> rfl) (by unfold maxLen;omega) (by omega) (by simp;omega) ?_;intro v2 w2 jk lg _ ji;obtain⟨g2,eu,rfl⟩:=ownsRow_form jk (by omega);have HL:Qi _:=Lst.step KB.o (ho.alloc _) KY.o wW iw (by first|decide|exact Ex.ne _ _ (by decide)) (by first|decide|exact Ex.ne _ _ (by decide)) lg jk;obtain⟨d0,e0,NJ⟩:=Aw (Dt KB.o lg (own_ne (ho.alloc _) KB.o (by first|decide|exact Ex.ne _ _ (by decide))));clear c0 f0 jk lg ji)
 go_end0
 refine⟨rfl,?_⟩
 have:=HL.o
 rw[show Hr (l.map (Bv M) ++ [Bv M (j:Int)])=Hr (l.map (Bv M))++Fl.enc ⟨ka,kb,j,u⟩ by simp[Hr,FP.o]]
 exact this
theorem fn72:∀ args W,(callFunc 100 args).run Pg W=.ok (.enter 100 args) W:=fun _ _=>by kernel_rfl
end
def Eb(M:Mm):List Fl:=(Nb M).map (Bv M)
section
variable {Xb:Ex}
structure Tk where
 b:Bool
 f:Fr
 u:List Int
structure Wd where
 m:Mm
 t:List Tk
end
section
def a4s(m:Mm)(t:Tk):Tk:=⟨!(lkF m t.f).d,lkF m t.f,if (lkF m t.f).d && (lkF m t.f).e==0 then t.u ++ [(lkF m t.f).h] else t.u⟩
def b4w(t:Tk):Tk:=⟨false,Ak t.f 0,t.u.erase t.f.c.h⟩
section
variable {w:Wd} {i:Nat} {t:Tk}
end
end
section
section
variable {w:Wd} {i:Nat} {t t':Tk}
def a4t(g:Fr)(t:Tk):Tk:=⟨!g.d,g,t.u⟩
end
end
section
structure Pk where
 s:Int
 step:Bool
 tick:Bool
 c:Cl
def stepT(m:Mm)(i:Nat)(t:Tk):Mm × Tk :=
 if t.f.c.k=1 then (lkM m t.f,a4s m t) else if t.f.c.k=2 then (adM i m t.f,a4t (adF m t.f) t) else if t.f.c.k=3 then (drM i m t.f,a4t (drF m t.f) t)
 else if t.f.c.k=6 then (if t.f.c.h∈t.u then Ff m t.f.c.h else m,b4w t) else (swM i m t.f,a4t (swF m t.f) t)
def idle:Tk:=⟨false,⟨⟨0,0,0,0,0,0⟩,0,0,0,0,0,[],false,0⟩,[]⟩
def Gt(w:Wd)(x:Pk):Tk:=w.t.getD x.s.toNat idle
def Zl(w:Wd)(x:Pk):Int :=
 if (Gt w x).b then 8 else if Dh w.m.s.length w.m.h.length x.c≠0 then Dh w.m.s.length w.m.h.length x.c
 else if x.c.k=1/\(Gt w x).u.length=100 then 7 else if x.c.k=6/\x.c.h ∉ (Gt w x).u then 6 else 0
def doE(w:Wd)(x:Pk):Int :=
 if x.tick then (if w.m.w=1000000 then 7 else 0) else if ¬ (0<=x.s/\x.s<w.t.length) then 5
 else if x.step then (if (Gt w x).b then 0 else 8) else Zl w x
def doW(w:Wd)(x:Pk):Wd :=
 if x.tick then ⟨{ w.m with w:=w.m.w+1 },w.t⟩
 else if x.step then ⟨(stepT w.m x.s.toNat (Gt w x)).1,w.t.set x.s.toNat (stepT w.m x.s.toNat (Gt w x)).2⟩
 else ⟨w.m,w.t.set x.s.toNat ⟨true,Df x.c,(Gt w x).u⟩⟩
section
variable {w:Wd} {i:Nat} {t:Tk}
theorem Ye(h:Dh nS nH c=0):1<=c.k/\c.k<=6:=by
 unfold Dh at h
 by_cases h1:c.k=1\/c.k=3
 ·omega
 rw[ae h1] at h
 by_cases h2:c.k=2
 ·omega
 rw[ae h2] at h
 by_cases h3:c.k=4\/c.k=5
 ·omega
 rw[ae h3] at h
 by_cases h4:c.k=6
 ·omega
 rw[ae h4] at h
 omega
end
end
end Go.Proofs.YthhgoenomehobaaGreat.mm
