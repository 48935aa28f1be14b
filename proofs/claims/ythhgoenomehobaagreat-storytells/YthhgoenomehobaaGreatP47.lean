/- Parts. -/
import Derived.Test.YthhgoenomehobaaGreatP45
namespace Go.Proofs.YthhgoenomehobaaGreat.mm
open Joins renaming cell_of_block → dN, below_alloc2 → oO
open Go renaming lt_of_block → fC, heap_alloc_new → fP, callFunc → jI, World → Wq
open Tryz
set_option maxRecDepth 100000
set_option linter.unusedVariables false
open Value renaming int → O, slice → Y
open IntKind renaming i64 → J
open Tryz renaming prog → Pg
open ChangeShapes WideShapes ChangeAt RowKit Joins Deep Maps
set_option maxHeartbeats 0
def Oy(p:Pst)(g:Mo->Mo->Bool)(f:Int)(i:Nat)(x y:Mo):Int:=if f=-1/\p.fro<=i/\g x y=true then i else f
def a9a(w:Wq)(B:Nat)(f:Int)(e:Ending)(w':Wq):Prop:=e=.returned (.tuple #[])/\w'.heap[B]?=some (.cells #[O J f] 3 (0,0))/\Fine w w' (fun j=>j=B)
theorem lit92(p:Pst)(aK:Option Addr)(cK B1 B2 B3:Nat)(f:Int)(i:Nat)(x y:Mo)(g:Mo->Mo->Bool)(v:Value)(w w0:Wq)(h1:w.heap[B1]?=some (.cells #[O J f] 3 (0,0)))(h2:w.heap[B2]?=some (.cells #[O J p.s,O J p.c.k,O J p.c.a,O J p.c.b,O J p.c.t,O J p.c.q,O J p.c.h,O J p.fro,O J p.to,O J p.e,O J p.h,O J p.n,Y aK p.t.length cK] 78 (0,0)))(h3:w.heap[B3]?=some (.cells #[v] 135 (0,0)))(hv:RuF w0 v g)(hw:Below w0.heap.size w0 w) :
  Calls Pg 92 (#[O J i,.agg #[.bool x.on,O J x.fl.a,O J x.fl.b,O J x.fl.h,O J x.fl.unt,O J x.w],.agg #[.bool y.on,O J y.fl.a,O J y.fl.b,O J y.fl.h,O J y.fl.unt,O J y.w]] ++ #[.pointer (some ⟨B1,0,none⟩),.pointer (some ⟨B2,0,none⟩),.pointer (some ⟨B3,0,none⟩)]) w (a9a w B1 (Oy p g f i x y)):=by
 obtain⟨F,qy,rfl,ER,ik⟩:=hv.ex
 have DT:Qi (∀ args W,(jI F args).run Pg W=.ok (.enter F args) W):=ER
 have HP:Qi (∀ W,Below w.heap.size w W->∀ x y:Mo,Calls Pg F (#[.agg #[.bool x.on,O J x.fl.a,O J x.fl.b,O J x.fl.h,O J x.fl.unt,O J x.w],.agg #[.bool y.on,O J y.fl.a,O J y.fl.b,O J y.fl.h,O J y.fl.unt,O J y.w]] ++ qy) W fun e W'=>e=.returned (.bool (g x y))/\Below W.heap.size W W'):=fun W hW=>ik W (hw.trans (hW.mono hw.size))
 obtain⟨R,hR⟩:∃ R,R=Oy p g f i x y:=⟨_,rfl⟩
 rw[<- hR]
 obtain⟨ox,jq⟩:∃ o:Obj,o=.cells #[.bool x.on,O J x.fl.a,O J x.fl.b,O J x.fl.h,O J x.fl.unt,O J x.w] 139:=⟨_,rfl⟩
 obtain⟨oy,uM⟩:∃ o:Obj,o=.cells #[.bool y.on,O J y.fl.a,O J y.fl.b,O J y.fl.h,O J y.fl.unt,O J y.w] 139:=⟨_,rfl⟩
 have Hb:Qi (Below w.heap.size w ((w.alloc ox).alloc oy)):=oO _ _ _
 have H1:Qi (w.heap[B1]?=some (.cells #[O J f] 3 (0,0))):=h1
 obtain⟨c1,-,yj⟩:=Aw h1
 obtain⟨-,c2,-,-,-,LY⟩:=Q8 h2
 obtain⟨c3,-,hl3⟩:=Aw h3
 clear hv hw ER ik h1 h2 h3
 by_cases hf:f=-1
 rotate_left
 ·have hf':(f == -1)=false:=by simpa using hf
  have yJ:R=f:=by rw[hR];unfold Oy;rw[ae (fun h=>hf h.1)]
  subst yJ
  have HE:Qi (a9a w B1 R (.returned (.tuple #[])) ((w.alloc ox).alloc oy)):=⟨rfl,(Hb.o.block _ yj).trans H1.o,Fine.of_below _ Hb.o⟩
  clear hf hR
  go_enter func92,ntmps92
  go_wp2
  go_end0
  rw[<- jq,<- uM]
  exact HE.o
 subst hf
 by_cases hi:p.fro<=i
 rotate_left
 ·have uN:¬ ((p.fro:Int)<=(i:Int)):=by omega
  have yJ:R=-1:=by rw[hR];unfold Oy;rw[ae (fun h=>hi h.2.1)]
  subst yJ
  have HE:Qi (a9a w B1 (-1) (.returned (.tuple #[])) ((w.alloc ox).alloc oy)):=⟨rfl,(Hb.o.block _ yj).trans H1.o,Fine.of_below _ Hb.o⟩
  clear hi hR
  go_enter func92,ntmps92
  go_wp2
  go_end0
  rw[<- jq,<- uM]
  exact HE.o
 have uN:(p.fro:Int)<=(i:Int):=by omega
 have HR:Qi (R=if g x y=true then (i:Int) else -1):=by
  show _=_
  rw[hR];unfold Oy
  by_cases hg:g x y=true
  ·rw[af ⟨rfl,hi,hg⟩,af hg]
  ·rw[ae (fun h=>hg h.2.2),ae hg]
 clear hi hR
 go_enter func92,ntmps92
 go_wp2_with fail
 rw[<- jq,<- uM]
 generalize (w.alloc ox).alloc oy=V at *
 rw[DT.o]
 refine(HP.o V Hb.o x y).mono ?_
 rintro e w1 ⟨rfl,bu⟩
 have qZ:Qi (Below w.heap.size w w1):=Hb.o.trans (bu.mono Hb.o.size)
 have h1:w1.heap[B1]?=some (.cells #[O J (-1)] 3 (0,0)):=(qZ.o.block _ yj).trans H1.o
 clear bu Hb H1 c1 c2 c3
 cases hg:g x y
 ·have yJ:R=-1:=by rw[HR.o,hg];rfl
  subst yJ
  have HE:Qi (a9a w B1 (-1) (.returned (.tuple #[])) w1):=⟨rfl,h1,Fine.of_below _ qZ.o⟩
  clear HR h1 qZ hg
  go_wp2
  go_end0
  exact HE.o
 ·have yJ:R=i:=by rw[HR.o,hg];rfl
  subst yJ
  have HE:Qi (a9a w B1 i (.returned (.tuple #[])) (w1.setCell ⟨B1,0,none⟩ (O J i))):=⟨rfl,by rw[block_setCell (i:=0) h1];rfl,(Fine.of_below (fun j=>j=B1) qZ.o).set (.inl rfl) _ _⟩
  obtain⟨d1,d2,d3⟩:=Aw h1
  clear HR h1 qZ hg
  go_wp2
  go_end0
  exact HE.o
theorem fn92:∀ args W,(jI 92 args).run Pg W=.ok (.enter 92 args) W:=fun _ _=>by kernel_rfl
def wit(W0:Wd)(l:List Pk)(p:Pst):Nat->Int
 | 0=>-1
 | k+1=>Oy p (Ph p) (wit W0 l p k) k (N7 (I9 W0 (l.take k)).m p.c.a p.c.b) (N7 (I9 W0 (l.take (k+1))).m p.c.a p.c.b)
theorem a6b(W0:Wd)(l:List Pk)(p:Pst)(k:Nat):wit W0 l p (k+1)=if wit W0 l p k=-1/\p.fro<=k/\U4 p (I9 W0 (l.take k)).m (I9 W0 (l.take (k+1))).m=true then (k:Int) else wit W0 l p k:=by
 show Oy _ _ _ _ _ _=_
 unfold Oy
 rw[a8j]
theorem a4y(W0:Wd)(l:List Pk)(p:Pst):∀ k,wit W0 l p k=-1\/(p.fro:Int)<=wit W0 l p k/\wit W0 l p k<k
 | 0=>.inl rfl
 | k+1=>by
  rw[a6b]
  by_cases h:wit W0 l p k=-1/\p.fro<=k/\U4 p (I9 W0 (l.take k)).m (I9 W0 (l.take (k+1))).m=true
  ·rw[af h];exact .inr ⟨by omega,by omega⟩
  ·rw[ae h]
   rcases a4y W0 l p k with h1|h1
   ·exact .inl h1
   ·exact .inr ⟨h1.1,by omega⟩
theorem a2c(F:Nat)(qy:Array Value)(hF:∀ args W,(jI F args).run Pg W=.ok (.enter F args) W)(B:Nat)(Jq:Nat->Wq->Prop){W0:Wd}(l:List Pk)(aP:Option Addr)(cP:Nat)(ka kb:Int)(a0 b0:Nat)(aS aH aF aL:Option Addr)(cS cH cF cL:Nat)(aT:Option Addr)(cT:Nat)(w:Wq)
  (hv:WIn a0 b0 w (.agg #[Y aS W0.m.s.length cS,Y aH W0.m.h.length cH,Y aF W0.m.f.length cF,Y aL W0.m.l.length cL,O J W0.m.w,Y aT W0.t.length cT]) W0) (OJ:b0<=w.heap.size) (yM:¬ (a0<=B/\B<b0)) (hB:B<w.heap.size) (hr:H8 w aP cP l) (uK:0<l.length->∀ ad,aP=some ad->ad.block≠B) (hl:l.length<=300)
  (hJ:Jq 0 w) (hJk:∀ k W W',Jq k W->Fine W W' (fun j=>w.heap.size<=j)->Jq k W')
  (step:∀ (k:Nat) (x y:Mo) W,Jq k W->k<l.length->x=N7 (I9 W0 (l.take k)).m ka kb->y=N7 (I9 W0 (l.take (k+1))).m ka kb->Calls Pg F (#[O J k,.agg #[.bool x.on,O J x.fl.a,O J x.fl.b,O J x.fl.h,O J x.fl.unt,O J x.w],.agg #[.bool y.on,O J y.fl.a,O J y.fl.b,O J y.fl.h,O J y.fl.unt,O J y.w]] ++ qy) W fun e W'=>e=.returned (.tuple #[])/\Jq (k+1) W'/\Fine W W' (fun j=>j=B)) :
  Calls Pg 91 #[Ew aS aH aF aL cS cH cF cL aT cT W0,Y aP l.length cP,.agg #[O J ka,O J kb],.func (.func F) #[] qy] w fun e w'=>e=.returned (O J (inE W0 l))/\(inE W0 l=0->Jq l.length w')/\Fine w w' (fun j=>j=B):=by
 unfold Ew
 obtain⟨RE,GL⟩:∃ R,R=inE W0 l:=⟨_,rfl⟩
 rw[<- GL]
 have KG:Qi (RE=inE W0 l):=GL
 clear GL
 have m1:=hr.max
 have m2:=hr.le
 have DT:Qi (∀ args W,(jI F args).run Pg W=.ok (.enter F args) W):=hF
 have HR:Qi (H8 w aP cP l):=hr
 have RU:Qi (0<l.length->∀ ad,aP=some ad->ad.block≠B/\ad.block<w.heap.size):=fun h0 ad e=>⟨uK h0 ad e,by
  rcases hr.at_ with h|⟨b,o,e',hc⟩
  ·omega
  ·rw[e'] at e;cases e;exact cell_lt (hc 0 h0 0 _ rfl)⟩
 have PU:Qi (∀ k W W',Jq k W->Fine W W' (fun j=>w.heap.size<=j)->Jq k W'):=hJk
 have uZ:Qi (∀ (k:Nat) (x y:Mo) W,Jq k W->k<l.length->x=N7 (I9 W0 (l.take k)).m ka kb->y=N7 (I9 W0 (l.take (k+1))).m ka kb->Calls Pg F (#[O J k,.agg #[.bool x.on,O J x.fl.a,O J x.fl.b,O J x.fl.h,O J x.fl.unt,O J x.w],.agg #[.bool y.on,O J y.fl.a,O J y.fl.b,O J y.fl.h,O J y.fl.unt,O J y.w]] ++ qy) W fun e W'=>e=.returned (.tuple #[])/\Jq (k+1) W'/\Fine W W' (fun j=>j=B)):=step
 obtain⟨ox,jq⟩:∃ o:Obj,o=.cells #[Y aS W0.m.s.length cS,Y aH W0.m.h.length cH,Y aF W0.m.f.length cF,Y aL W0.m.l.length cL,O J W0.m.w,Y aT W0.t.length cT] 28:=⟨_,rfl⟩
 obtain⟨ok,qh⟩:∃ o:Obj,o=.cells #[O J ka,O J kb] 30:=⟨_,rfl⟩
 have b0':Below w.heap.size w ((w.alloc ox).alloc ok):=oO w ox ok
 have ni:Qi (((w.alloc ox).alloc ok).heap[w.heap.size]?=some ox):=by show _=_;rw[Below.heap_alloc _ _ _ (by simp),fP]
 have IC:Qi (((w.alloc ox).alloc ok).heap[w.heap.size+1]?=some ok):=by
  have:=fP (w.alloc ox) ok
  rwa [show (w.alloc ox).heap.size=w.heap.size+1 by simp] at this
 have uG:Qi (WIn a0 b0 ((w.alloc ox).alloc ok) (.agg #[Y aS W0.m.s.length cS,Y aH W0.m.h.length cH,Y aF W0.m.f.length cF,Y aL W0.m.l.length cL,O J W0.m.w,Y aT W0.t.length cT]) W0):=hv.same fun j h1 h2=>b0'.block j (by omega)
 have uu:Qi (Below w.heap.size w ((w.alloc ox).alloc ok)):=b0'
 have HJ0:Qi (Jq 0 w):=hJ
 have HO:Qi (b0<=w.heap.size/\¬ (a0<=B/\B<b0)/\B<w.heap.size):=⟨OJ,yM,hB⟩
 have l6:Qi (((w.alloc (.cells #[Y aS W0.m.s.length cS,Y aH W0.m.h.length cH,Y aF W0.m.f.length cF,Y aL W0.m.l.length cL,O J W0.m.w,Y aT W0.t.length cT] 28)).alloc (.cells #[O J ka,O J kb] 30)).rangeAt w.heap.size 0 [Y aS W0.m.s.length cS,Y aH W0.m.h.length cH,Y aF W0.m.f.length cF,Y aL W0.m.l.length cL,O J W0.m.w,Y aT W0.t.length cT]):=by subst jq qh;exact Aq ni.o rfl
 clear hF hr uK hJk step hv hJ OJ yM hB b0'
 go_enter func91,ntmps91
 go_wp2_with (refine F8 rfl _ rfl rfl l6.o ?_)
 rw[<- jq,<- qh]
 rw[<- jq,<- qh] at l6
 clear l6
 generalize (w.alloc ox).alloc ok=V0 at *
 subst jq qh
 by_cases ng:wEr W0=0
 rotate_left
 ·refine(Xj ng ka kb (uG.o V0 (fun _ _ _=>rfl))).mono ?_
  have VI:RE=wEr W0:=by rw[KG.o];unfold inE;rw[af ng]
  rw[<- VI] at ng ⊢
  rintro e w1 ⟨rfl,bu⟩
  have HF9:Qi (∀ o,Fine w (w1.alloc o) (fun j=>j=B)):=fun o=>Fine.of_below _ (uu.o.trans ((bu.alloc bu.size o).mono uu.o.size))
  clear VI bu ni IC uG uu HJ0 HO KG
  go_wp2
  go_ret
  exact⟨rfl,fun h=>absurd h ng,HF9.o _⟩
 have HI:Qi (wEr W0=0):=ng
 have FI:Qi (Md W0 (l.drop 0)=RE):=by show _=_;rw[KG.o];unfold inE;rw[ae (by simpa using ng)];rfl
 clear ng KG
 refine(a1r (Pv.1 HI.o) ka kb (uG.o V0 (fun _ _ _=>rfl))).mono ?_
 rintro e w1 ⟨rfl,bu⟩
 obtain⟨x0,zN⟩:∃ x,x=N7 W0.m ka kb:=⟨_,rfl⟩
 rw[<- zN]
 have HXm:Qi (x0=N7 (I9 W0 (l.take 0)).m ka kb):=zN
 obtain⟨oa,hoa⟩:∃ o:Obj,o=.cells #[.bool x0.on,O J x0.fl.a,O J x0.fl.b,O J x0.fl.h,O J x0.fl.unt,O J x0.w] 139:=⟨_,rfl⟩
 have HT:Qi (Tn w (w1.alloc oa) B w1.heap.size a0 b0 ka kb W0 x0 #[Y aS W0.m.s.length cS,Y aH W0.m.h.length cH,Y aF W0.m.f.length cF,Y aL W0.m.l.length cL,O J W0.m.w,Y aT W0.t.length cT]):=by
  have hb:Below V0.heap.size V0 (w1.alloc oa):=bu.alloc bu.size oa
  have h1:=uu.o.size
  have h2:=bu.size
  have h3:=fC IC.o
  have h4:=HO.o
  refine⟨(hb.block _ (fC ni.o)).trans ni.o,uG.o.same fun j h5 h6=>hb.block j (by omega),(hb.block _ h3).trans IC.o,?_,Fine.of_below _ (uu.o.trans (hb.mono h1)),⟨h4.2.1,by omega,by omega,by simp;omega⟩,⟨by omega,h4.2.2⟩⟩
  rw[hoa];exact fP _ _
 have HJ1:Qi (Jq 0 (w1.alloc oa)):=PU.o 0 w _ HJ0.o (Fine.mono (Fine.of_below (fun _=>False) (uu.o.trans ((bu.alloc bu.size oa).mono uu.o.size))) (fun _ h=>h.elim))
 clear zN bu ni IC uG uu HJ0 HO
 go_wp2_with fail
 rw[<- hoa]
 generalize w1.heap.size=A at *
 generalize w1.alloc oa=V1 at *
 go_loopw [28] (fun i wr=>∃ (k:Nat) (W:Wd) (x:Mo) (a b:Nat) (aS aH aF aL:Option Addr) (cS cH cF cL:Nat) (aT:Option Addr) (cT:Nat),k<=l.length/\i=O J k/\Qi (W=I9 W0 (l.take k))/\Qi (x=N7 (I9 W0 (l.take k)).m ka kb)/\Qi (wEr W=0)/\Qi (Md W (l.drop k)=RE)/\Qi (Tn w wr B A a b ka kb W x #[Y aS W.m.s.length cS,Y aH W.m.h.length cH,Y aF W.m.f.length cF,Y aL W.m.l.length cL,O J W.m.w,Y aT W.t.length cT])/\Qi (Jq k wr)) (fun i _=>l.length - (intOf i).toNat)
 case atStart=>exact⟨0,W0,x0,a0,b0,aS,aH,aF,aL,cS,cH,cF,cL,aT,cT,Nat.zero_le _,rfl,rfl,HXm,HI,FI,HT,HJ1⟩
 case round =>
  clear HXm HI FI HT HJ1
  obtain⟨k,W,x0,a,b,aS,aH,aF,aL,cS,cH,cF,cL,aT,cT,hk,rfl,PL,Hx0,HI,zy,HT,HJ⟩:=hrel
  by_cases gm:k<l.length
  ·rcases HR.o.at_ with h0|⟨bP,oP,rfl,hx⟩
   ·omega
   obtain⟨hbB,jd⟩:=RU.o (by omega) _ rfl
   have lX:Qi (wr.rangeAt bP (oP+k*9) [O J (l[k]).s,.bool (l[k]).step,.bool (l[k]).tick,O J (l[k]).c.k,O J (l[k]).c.a,O J (l[k]).c.b,O J (l[k]).c.t,O J (l[k]).c.q,O J (l[k]).c.h]):=V9 (hx k gm) (HT.o.fine.block bP jd hbB)
   clear hx hbB jd
   obtain⟨x,hx⟩:∃ x,x=l[k]:=⟨_,rfl⟩
   rw[<- hx] at lX
   have Hx:Qi (x=l[k]):=hx
   clear hx
   obtain⟨op,qU⟩:∃ o:Obj,o=.cells #[O J x.s,.bool x.step,.bool x.tick,O J x.c.k,O J x.c.a,O J x.c.b,O J x.c.t,O J x.c.q,O J x.c.h] 34:=⟨_,rfl⟩
   have IB:Qi ((wr.alloc op).heap[wr.heap.size]?=some op):=fP _ _
   have qY:Qi (Tn w (wr.alloc op) B A a b ka kb W x0 #[Y aS W.m.s.length cS,Y aH W.m.h.length cH,Y aF W.m.f.length cF,Y aL W.m.l.length cL,O J W.m.w,Y aT W.t.length cT]):=HT.o.below (A7 _ _)
   have HJ2:Qi (Jq k (wr.alloc op)):=PU.o k wr _ HJ.o (Fine.of_below _ (A7 _ _))
   subst qU
   have l6:Qi ((wr.alloc (.cells #[O J x.s,.bool x.step,.bool x.tick,O J x.c.k,O J x.c.a,O J x.c.b,O J x.c.t,O J x.c.q,O J x.c.h] 34)).rangeAt w.heap.size 0 [Y aS W.m.s.length cS,Y aH W.m.h.length cH,Y aF W.m.f.length cF,Y aL W.m.l.length cL,O J W.m.w,Y aT W.t.length cT]):=Aq qY.o.bx rfl
   have LJ:Qi ((wr.alloc (.cells #[O J x.s,.bool x.step,.bool x.tick,O J x.c.k,O J x.c.a,O J x.c.b,O J x.c.t,O J x.c.q,O J x.c.h] 34)).rangeAt wr.heap.size 0 [O J x.s,.bool x.step,.bool x.tick,O J x.c.k,O J x.c.a,O J x.c.b,O J x.c.t,O J x.c.q,O J x.c.h]):=Aq IB.o rfl
   clear HT HJ
   go_wp2_with (first|refine Vl rfl _ rfl rfl lX.o ?_|refine F8 rfl _ rfl rfl l6.o ?_|refine Vl rfl _ rfl rfl LJ.o ?_)
   clear l6 LJ lX IB
   generalize World.alloc wr _=W2 at *
   refine(do_E (Pv.1 HI.o).1 (x:=x) (qY.o.wi W2 (fun _ _ _=>rfl))).mono ?_
   rintro e w3 ⟨v3,rfl,uB,gu⟩
   obtain⟨E,hE⟩:∃ E,E=doE W x:=⟨_,rfl⟩
   rw[<- hE] at uB ⊢
   have HE:Qi (E=doE W x):=hE
   have KL:Qi (I9 W0 (l.take (k+1))=Et W x):=by
    show _=_
    rw[Za gm,<- PL.o,<- Hx.o]
   have BO:Qi ((if wEr (Et W x)≠0 then wEr (Et W x) else Md (Et W x) (l.drop (k+1)))=RE):=by
    have h1:=zy.o
    rw[List.drop_eq_getElem_cons gm,<- Hx.o] at h1
    exact h1
   have QE:=gu.size
   clear hE Hx PL
   by_cases lh:E=0
   focus
    rw[af lh] at uB
    obtain⟨Wn,MG⟩:∃ Wn,Wn=doW W x:=⟨_,rfl⟩
    rw[<- MG] at uB
    have wM:Qi ((if wEr Wn≠0 then wEr Wn else Md Wn (l.drop (k+1)))=RE):=by have h:=BO.o;rw[show Et W x=Wn by unfold Et;rw[<- HE.o,af lh,MG]] at h;exact h
    have AB:Qi (Wn=I9 W0 (l.take (k+1))):=by show _=_;rw[KL.o];unfold Et;rw[<- HE.o,af lh,MG]
    obtain⟨sH,sK,sN,sJ,rZ,sD,sG,su,sW,sV,lt3,rfl,-⟩:=id uB
    obtain⟨on,uX⟩:∃ o:Obj,o=.cells #[Y sH Wn.m.s.length rZ,Y sK Wn.m.h.length sD,Y sN Wn.m.f.length sG,Y sJ Wn.m.l.length su,O J Wn.m.w,Y sW Wn.t.length sV] 28:=⟨_,rfl⟩
    have qK:Below W2.heap.size W2 (w3.alloc on):=gu.alloc gu.size on
    have XM:Qi ((w3.alloc on).heap[w3.heap.size]?=some on):=fP _ _
    have rX:Qi (Tn w (w3.alloc on) B A a b ka kb W x0 #[Y aS W.m.s.length cS,Y aH W.m.h.length cH,Y aF W.m.f.length cF,Y aL W.m.l.length cL,O J W.m.w,Y aT W.t.length cT]):=qY.o.below qK
    have HJ4:Qi (Jq k (w3.alloc on)):=PU.o k W2 _ HJ2.o (Fine.of_below _ qK)
    have t6:Qi ((w3.alloc on).there w.heap.size 0 6):=Be rX.o.bx (by simp)
    obtain⟨W4,tK⟩:∃ W4,W4=(w3.alloc on).setCells w.heap.size 0 [Y sH Wn.m.s.length rZ,Y sK Wn.m.h.length sD,Y sN Wn.m.f.length sG,Y sJ Wn.m.l.length su,O J Wn.m.w,Y sW Wn.t.length sV]:=⟨_,rfl⟩
    have wG:∀ j,j≠w.heap.size->W4.heap[j]?=(w3.alloc on).heap[j]?:=fun j hj=>by rw[tK];exact Af hj _ _ _
    have hs4:W4.heap.size=(w3.alloc on).heap.size:=by rw[tK];exact setCells_size _ _ _
    have zA:Qi (Tn w W4 B A W2.heap.size w3.heap.size ka kb Wn x0 #[Y sH Wn.m.s.length rZ,Y sK Wn.m.h.length sD,Y sN Wn.m.f.length sG,Y sJ Wn.m.l.length su,O J Wn.m.w,Y sW Wn.t.length sV]):=by
     have h1:=rX.o.ab
     have h2:=fC qY.o.m
     have h3:=fC qY.o.bx
     have h4:(w3.alloc on).heap.size=w3.heap.size+1:=by simp
     refine⟨by rw[tK];exact Bi rX.o.bx rfl,uB.wIn.same fun j h5 h6=>(wG j (by omega)).trans ((A7 _ _).block j h6),(wG _ (by omega)).trans rX.o.k,(wG _ (by omega)).trans rX.o.m,by rw[tK];exact Lp rX.o.fine (.inr (Nat.le_refl _)),⟨by omega,by omega,by omega,by omega⟩,h1⟩
    have HJ5:Qi (Jq k W4):=PU.o k _ W4 HJ4.o (by rw[tK];exact Lp (Fine.refl _ _) (.inl (Nat.le_refl _)))
    have l6:Qi (W4.rangeAt w.heap.size 0 [Y sH Wn.m.s.length rZ,Y sK Wn.m.h.length sD,Y sN Wn.m.f.length sG,Y sJ Wn.m.l.length su,O J Wn.m.w,Y sW Wn.t.length sV]):=Aq zA.o.bx rfl
    have zT:W4.cell? ⟨w.heap.size+1,0,none⟩=some (O J ka):=by rw[dN zA.o.k];rfl
    have ry:W4.cell? ⟨w.heap.size+1,1,none⟩=some (O J kb):=by rw[dN zA.o.k];rfl
    subst uX
    have l7:Qi ((w3.alloc (.cells #[Y sH Wn.m.s.length rZ,Y sK Wn.m.h.length sD,Y sN Wn.m.f.length sG,Y sJ Wn.m.l.length su,O J Wn.m.w,Y sW Wn.t.length sV] 28)).rangeAt w3.heap.size 0 [Y sH Wn.m.s.length rZ,Y sK Wn.m.h.length sD,Y sN Wn.m.f.length sG,Y sJ Wn.m.l.length su,O J Wn.m.w,Y sW Wn.t.length sV]):=Aq XM.o rfl
    clear uB gu qK qY HJ2 XM rX HJ4 wG hs4 MG HE KL HI BO zy
    subst lh
    go_wp2_with (first|refine F8 rfl _ rfl rfl l7.o ?_|(refine Iu rfl _ _ rfl rfl rfl t6.o (by kernel_rfl) ?_;rw[<- tK];clear tK t6)|refine F8 rfl _ rfl rfl l6.o ?_)
    clear l6 l7 zT ry
   rotate_left
   focus
    rw[ae lh] at uB
    obtain⟨aSq,aHq,aFq,aLq,cSq,cHq,cFq,cLq,aTq,cTq,_,rfl,-⟩:=uB
    have h':(E==0)=false:=by simpa using lh
    obtain⟨sH,rfl⟩:∃ y,y=aS:=⟨_,rfl⟩
    obtain⟨sK,rfl⟩:∃ y,y=aH:=⟨_,rfl⟩
    obtain⟨sN,rfl⟩:∃ y,y=aF:=⟨_,rfl⟩
    obtain⟨sJ,rfl⟩:∃ y,y=aL:=⟨_,rfl⟩
    obtain⟨rZ,rfl⟩:∃ y,y=cS:=⟨_,rfl⟩
    obtain⟨sD,rfl⟩:∃ y,y=cH:=⟨_,rfl⟩
    obtain⟨sG,rfl⟩:∃ y,y=cF:=⟨_,rfl⟩
    obtain⟨su,rfl⟩:∃ y,y=cL:=⟨_,rfl⟩
    obtain⟨sW,rfl⟩:∃ y,y=aT:=⟨_,rfl⟩
    obtain⟨sV,rfl⟩:∃ y,y=cT:=⟨_,rfl⟩
    obtain⟨Wn,rfl⟩:∃ y,y=W:=⟨_,rfl⟩
    have wM:Qi ((if wEr Wn≠0 then wEr Wn else Md Wn (l.drop (k+1)))=RE):=by have h:=BO.o;rw[show Et Wn x=Wn by unfold Et;rw[<- HE.o,ae lh]] at h;exact h
    have AB:Qi (Wn=I9 W0 (l.take (k+1))):=by show _=_;rw[KL.o];unfold Et;rw[<- HE.o,ae lh]
    obtain⟨on,uX⟩:∃ o:Obj,o=.cells #[Y aSq w0W.m.s.length cSq,Y aHq w0W.m.h.length cHq,Y aFq w0W.m.f.length cFq,Y aLq w0W.m.l.length cLq,O J w0W.m.w,Y aTq w0W.t.length cTq] 28:=⟨_,rfl⟩
    have zA:Qi (Tn w (w3.alloc on) B A a b ka kb Wn x0 #[Y sH Wn.m.s.length rZ,Y sK Wn.m.h.length sD,Y sN Wn.m.f.length sG,Y sJ Wn.m.l.length su,O J Wn.m.w,Y sW Wn.t.length sV]):=qY.o.below (gu.alloc gu.size on)
    have HJ5:Qi (Jq k (w3.alloc on)):=PU.o k W2 _ HJ2.o (Fine.of_below _ (gu.alloc gu.size on))
    have l6:Qi ((w3.alloc on).rangeAt w.heap.size 0 [Y sH Wn.m.s.length rZ,Y sK Wn.m.h.length sD,Y sN Wn.m.f.length sG,Y sJ Wn.m.l.length su,O J Wn.m.w,Y sW Wn.t.length sV]):=Aq zA.o.bx rfl
    have zT:(w3.alloc on).cell? ⟨w.heap.size+1,0,none⟩=some (O J ka):=by rw[dN zA.o.k];rfl
    have ry:(w3.alloc on).cell? ⟨w.heap.size+1,1,none⟩=some (O J kb):=by rw[dN zA.o.k];rfl
    rw[uX] at l6 zT ry
    clear gu qY HJ2 HE KL HI lh BO zy
    go_wp2_with (refine F8 rfl _ rfl rfl l6.o ?_)
    clear l6 zT ry
    rw[<- uX]
    generalize w3.alloc on=W4 at *
    clear uX h'
   all_goals
    obtain⟨a4,b4,FM⟩:∃ a4 b4,Qi (Tn w W4 B A a4 b4 ka kb Wn x0 #[Y sH Wn.m.s.length rZ,Y sK Wn.m.h.length sD,Y sN Wn.m.f.length sG,Y sJ Wn.m.l.length su,O J Wn.m.w,Y sW Wn.t.length sV]):=⟨_,_,zA⟩
    clear zA
    by_cases NL:wEr Wn=0
    rotate_left
    ·refine(Xj NL ka kb (FM.o.wi W4 (fun _ _ _=>rfl))).mono ?_
     have VI:wEr Wn=RE:=by have h:=wM.o;rw[af NL] at h;exact h
     rw[VI] at NL ⊢
     rintro e w5 ⟨rfl,tY⟩
     have HF9:Qi (∀ o,Fine w (w5.alloc o) (fun j=>j=B)):=fun o=>FM.o.fine.trans (Fine.of_below (fun j=>j=B) (tY.alloc tY.size o)) (fun _ _ h=>h)
     clear VI tY FM HJ5 wM
     go_wp2
     go_ret
     exact⟨rfl,fun h=>absurd h NL,HF9.o _⟩
    have xX:Qi (wEr Wn=0):=NL
    have zy:Qi (Md Wn (l.drop (k+1))=RE):=by have h:=wM.o;rw[ae (by simpa using NL)] at h;exact h
    clear NL wM
    refine(a1r (Pv.1 xX.o) ka kb (FM.o.wi W4 (fun _ _ _=>rfl))).mono ?_
    rintro e w5 ⟨rfl,tY⟩
    obtain⟨y,hy⟩:∃ y,y=N7 Wn.m ka kb:=⟨_,rfl⟩
    rw[<- hy]
    have Hy:Qi (y=N7 (I9 W0 (l.take (k+1))).m ka kb):=by show _=_;rw[<- AB.o];exact hy
    obtain⟨ob,hob⟩:∃ o:Obj,o=.cells #[.bool y.on,O J y.fl.a,O J y.fl.b,O J y.fl.h,O J y.fl.unt,O J y.w] 139:=⟨_,rfl⟩
    have uD:Below W4.heap.size W4 (w5.alloc ob):=tY.alloc tY.size ob
    have FK:Qi (Tn w (w5.alloc ob) B A a4 b4 ka kb Wn x0 #[Y sH Wn.m.s.length rZ,Y sK Wn.m.h.length sD,Y sN Wn.m.f.length sG,Y sJ Wn.m.l.length su,O J Wn.m.w,Y sW Wn.t.length sV]):=FM.o.below uD
    have HJ7:Qi (Jq k (w5.alloc ob)):=PU.o k W4 _ HJ5.o (Fine.of_below _ uD)
    have KZ:Qi ((w5.alloc ob).heap[w5.heap.size]?=some ob):=fP _ _
    have HBz:Qi (w.heap.size<w5.heap.size):=Nat.lt_of_lt_of_le (fC FM.o.bx) tY.size
    subst hob
    have lA:Qi ((w5.alloc (.cells #[.bool y.on,O J y.fl.a,O J y.fl.b,O J y.fl.h,O J y.fl.unt,O J y.w] 139)).rangeAt A 0 [.bool x0.on,O J x0.fl.a,O J x0.fl.b,O J x0.fl.h,O J x0.fl.unt,O J x0.w]):=Aq FK.o.m rfl
    have lB:Qi ((w5.alloc (.cells #[.bool y.on,O J y.fl.a,O J y.fl.b,O J y.fl.h,O J y.fl.unt,O J y.w] 139)).rangeAt w5.heap.size 0 [.bool y.on,O J y.fl.a,O J y.fl.b,O J y.fl.h,O J y.fl.unt,O J y.w]):=Aq KZ.o rfl
    clear tY uD hy FM HJ5
    go_wp2_with (first|refine a6c rfl _ rfl rfl lA.o ?_|refine a6c rfl _ rfl rfl lB.o ?_)
    clear lA lB
    generalize World.alloc w5 _=W7 at *
    generalize w5.heap.size=BB at *
    rw[DT.o]
    refine(uZ.o k x0 y W7 HJ7.o gm Hx0.o Hy.o).mono ?_
    rintro e w8 ⟨rfl,hJ8,hf8⟩
    have wO:Qi (Tn w w8 B A a4 b4 ka kb Wn x0 #[Y sH Wn.m.s.length rZ,Y sK Wn.m.h.length sD,Y sN Wn.m.f.length sG,Y sJ Wn.m.l.length su,O J Wn.m.w,Y sW Wn.t.length sV]):=FK.o.step hf8 (fun j h=>.inl h)
    have hB8:w8.heap[BB]?=some (.cells #[.bool y.on,O J y.fl.a,O J y.fl.b,O J y.fl.h,O J y.fl.unt,O J y.w] 139 (0,0)):=(hf8.block BB (fC KZ.o) (by have:=FK.o.ab.2;have:=HBz.o;omega)).trans KZ.o
    have lB:Qi (w8.rangeAt BB 0 [.bool y.on,O J y.fl.a,O J y.fl.b,O J y.fl.h,O J y.fl.unt,O J y.w]):=Aq hB8 rfl
    have t6:Qi (w8.there A 0 6):=Be wO.o.m (by simp)
    obtain⟨W9,zV⟩:∃ W9,W9=w8.setCells A 0 [.bool y.on,O J y.fl.a,O J y.fl.b,O J y.fl.h,O J y.fl.unt,O J y.w]:=⟨_,rfl⟩
    have IY:∀ j,j≠A->W9.heap[j]?=w8.heap[j]?:=fun j hj=>by rw[zV];exact Af hj _ _ _
    have RS:Qi (Tn w W9 B A a4 b4 ka kb Wn y #[Y sH Wn.m.s.length rZ,Y sK Wn.m.h.length sD,Y sN Wn.m.f.length sG,Y sJ Wn.m.l.length su,O J Wn.m.w,Y sW Wn.t.length sV]):=by
     have h1:=wO.o.ab
     have h2:=wO.o.o
     refine⟨(IY _ (by omega)).trans wO.o.bx,wO.o.wi.same fun j h3 h4=>IY j (fun e=>h2.2.2.1 ⟨by omega,by omega⟩),(IY _ (by omega)).trans wO.o.k,by rw[zV];exact Bi wO.o.m rfl,by rw[zV];exact Lp wO.o.fine (.inr (by omega)),⟨h2.1,h2.2.1,h2.2.2.1,by rw[zV,setCells_size];exact h2.2.2.2⟩,h1⟩
    have HJ9:Qi (Jq (k+1) W9):=PU.o (k+1) w8 W9 hJ8 (by rw[zV];exact Lp (Fine.refl _ _) (.inl (by have:=wO.o.ab;omega)))
    clear hJ8 hf8 FK HJ7 KZ HBz wO hB8 IY
    go_wp2_with (first|refine a6c rfl _ rfl rfl lB.o ?_|(refine a6d rfl _ _ rfl rfl rfl t6.o (by kernel_rfl) ?_;rw[<- zV];clear zV t6))
    go_roundw
    case rel=>exact⟨k+1,Wn,y,a4,b4,sH,sK,sN,sJ,rZ,sD,sG,su,sW,sV,by omega,by go_num,AB,Hy,xX,zy,RS,HJ9⟩
    case measure=>simp[intOf];omega
  ·have QL:k=l.length:=by omega
   have HJe:Qi (Jq l.length wr):=by rw[<- QL];exact HJ
   have xh:Qi (RE=0):=by have h:=zy.o;rw[QL,List.drop_length] at h;exact h.symm
   go_wp2
   go_ret
   exact⟨by rw[xh.o];rfl,fun _=>HJe.o,HT.o.fine⟩
def Gy(W:Wd)(n:Nat)(a b:Int):Int:=if wE W≠0 then wE W else if 300<n then 2 else if a<0\/b<a\/(n:Int)<=b then 3 else 0
theorem Pn(W:Wd)(n:Nat)(a b:Int):(wE W≠0/\Gy W n a b=wE W)\/wE W=0/\((300:Int)<n/\Gy W n a b=2\/¬ (300:Int)<n/\(a<0/\Gy W n a b=3\/¬ a<0/\(b<a/\Gy W n a b=3\/¬ b<a/\((n:Int)<=b/\Gy W n a b=3\/¬ (n:Int)<=b/\Gy W n a b=0)))):=by
 unfold Gy
 by_cases h0:wE W=0
 ·refine .inr ⟨h0,?_⟩
  rw[ae (by simpa using h0)]
  by_cases h1:300<n
  ·exact .inl ⟨by omega,af h1⟩
  ·refine .inr ⟨by omega,?_⟩
   rw[ae h1]
   by_cases h2:a<0
   ·exact .inl ⟨h2,af (.inl h2)⟩
   ·refine .inr ⟨h2,?_⟩
    by_cases h3:b<a
    ·exact .inl ⟨h3,af (.inr (.inl h3))⟩
    ·refine .inr ⟨h3,?_⟩
     by_cases h4:(n:Int)<=b
     ·exact .inl ⟨h4,af (.inr (.inr h4))⟩
     ·exact .inr ⟨h4,ae (by omega)⟩
 ·exact .inl ⟨h0,af h0⟩
theorem Wp{W:Wd}{lo:Nat}{w:Wq}{aS aH aF aL:Option Addr}{cS cH cF cL:Nat}{aT:Option Addr}{cT:Nat}(h:Di lo w (.agg #[Y aS W.m.s.length cS,Y aH W.m.h.length cH,Y aF W.m.f.length cF,Y aL W.m.l.length cL,O J W.m.w,Y aT W.t.length cT]) W)(aP:Option Addr)(cP n:Nat)(hn:(n:Int)<=4611686018427387904)(p:Pst)(a b:Int)(aK:Option Addr)(cK:Nat) :
  Calls Pg 89 #[Ew aS aH aF aL cS cH cF cL aT cT W,Y aP n cP,.agg #[O J p.s,O J p.c.k,O J p.c.a,O J p.c.b,O J p.c.t,O J p.c.q,O J p.c.h,O J a,O J b,O J p.e,O J p.h,O J p.n,Y aK p.t.length cK]] w fun e w'=>e=.returned (O J (Gy W n a b))/\Below w.heap.size w w':=by
 unfold Ew
 obtain⟨RE,GL⟩:∃ R,R=Gy W n a b:=⟨_,rfl⟩
 have qV:=Pn W n a b
 rw[<- GL] at qV ⊢
 clear GL
 obtain⟨ox,jq⟩:∃ o:Obj,o=.cells #[Y aS W.m.s.length cS,Y aH W.m.h.length cH,Y aF W.m.f.length cF,Y aL W.m.l.length cL,O J W.m.w,Y aT W.t.length cT] 28:=⟨_,rfl⟩
 obtain⟨op,qU⟩:∃ o:Obj,o=.cells #[O J p.s,O J p.c.k,O J p.c.a,O J p.c.b,O J p.c.t,O J p.c.q,O J p.c.h,O J a,O J b,O J p.e,O J p.h,O J p.n,Y aK p.t.length cK] 78:=⟨_,rfl⟩
 have b0:Below w.heap.size w ((w.alloc ox).alloc op):=oO _ _ _
 have ni:Qi (((w.alloc ox).alloc op).heap[w.heap.size]?=some ox):=by show _=_;rw[Below.heap_alloc _ _ _ (by simp),fP]
 have yQ:Qi (((w.alloc ox).alloc op).heap[w.heap.size+1]?=some op):=by
  have:=fP (w.alloc ox) op
  rwa [show (w.alloc ox).heap.size=w.heap.size+1 by simp] at this
 have lq:Qi (Di lo ((w.alloc ox).alloc op) (.agg #[Y aS W.m.s.length cS,Y aH W.m.h.length cH,Y aF W.m.f.length cF,Y aL W.m.l.length cL,O J W.m.w,Y aT W.t.length cT]) W):=h.below b0
 have uu:Qi (Below w.heap.size w ((w.alloc ox).alloc op)):=b0
 have l6:Qi (((w.alloc (.cells #[Y aS W.m.s.length cS,Y aH W.m.h.length cH,Y aF W.m.f.length cF,Y aL W.m.l.length cL,O J W.m.w,Y aT W.t.length cT] 28)).alloc (.cells #[O J p.s,O J p.c.k,O J p.c.a,O J p.c.b,O J p.c.t,O J p.c.q,O J p.c.h,O J a,O J b,O J p.e,O J p.h,O J p.n,Y aK p.t.length cK] 78)).rangeAt w.heap.size 0 [Y aS W.m.s.length cS,Y aH W.m.h.length cH,Y aF W.m.f.length cF,Y aL W.m.l.length cL,O J W.m.w,Y aT W.t.length cT]):=by
  have h:=ni.o
  rw[jq,qU] at h
  exact Aq h rfl
 have xU:Qi _:=qV
 clear h b0 qV
 go_enter func89,ntmps89
 go_wp2_with (refine F8 rfl _ rfl rfl l6.o ?_)
 rw[<- jq,<- qU]
 rw[<- jq,<- qU] at l6
 clear l6
 generalize (w.alloc ox).alloc op=V0 at *
 subst jq qU
 refine(a0s lq.o).mono ?_
 rintro e w1 ⟨rfl,bu⟩
 have hP1:=(bu.block _ (fC yQ.o)).trans yQ.o
 have c7:w1.cell? ⟨w.heap.size+1,7,none⟩=some (O J a):=by rw[dN hP1];rfl
 have c8:w1.cell? ⟨w.heap.size+1,8,none⟩=some (O J b):=by rw[dN hP1];rfl
 have qZ:Qi (Below w.heap.size w w1):=uu.o.trans (bu.mono uu.o.size)
 have qV:=xU.o
 clear bu ni yQ lq uu hP1 xU
 rcases qV with ⟨h0,hR⟩|⟨h0,⟨h1,hR⟩|⟨h1,⟨h2,hR⟩|⟨h2,⟨h3,hR⟩|⟨h3,⟨h4,hR⟩|⟨h4,hR⟩⟩⟩⟩⟩
 all_goals
  have HR:Qi _:=hR
  clear hR
  first|rw[h0] | (rw[<- HR.o] at h0 ⊢)
  go_wp2
  go_ret
  exact⟨by first|rw[HR.o];rfl|rfl,qZ.o⟩
end Go.Proofs.YthhgoenomehobaaGreat.mm
