/- Parts. -/
import Derived.Test.YthhgoenomehobaaGreatP49
import Derived.Test.YthhgoenomehobaaGreatP48
import Derived.Test.YthhgoenomehobaaGreatP44
namespace Go.Proofs.YthhgoenomehobaaGreat.mm
open List renaming set_cons_succ → fV, setIfInBounds_toArray → qB, set_cons_zero → qE, foldl_cons → qF, foldl_nil → qG
open World renaming alloc → nV
open RowKit.Below renaming heap_alloc → fU
open Joins renaming cell_of_block → dN, below_alloc2 → oO
open Go renaming lt_of_block → fC, heap_alloc_new → fP, Value → dU, Calls → aI, World → Wq
open Tryz
set_option maxRecDepth 100000
set_option linter.unusedVariables false
open Value renaming int → O, slice → Y
open IntKind renaming i64 → J
open Tryz renaming prog → Pg
open ChangeShapes WideShapes ChangeAt RowKit Joins Deep Maps
set_option maxHeartbeats 0
variable {w wr w':Wq}{bn:Array Oper}{nz:List Oper}{op:Oper}{W0 W:Wd}{lo:Nat}(l:List Pk)(aP:Option Addr)(cP:Nat)(p:Pst)(a b:Int)(aK:Option Addr)(cK n:Nat){V:Wq}{aS aH aF aL:Option Addr}{cS cH cF cL:Nat}{aT:Option Addr}{cT:Nat}{V':Wq}{B:Nat}{M:Mm}
structure Tw(w wr:Wq)(a b:Nat)(p:Pst)(aK:Option Addr)(cK:Nat)(W:Wd)(v:Array dU):Prop where
 bx:wr.heap[w.heap.size]?=some (.cells v 28 (0,0))
 wi:WIn a b wr (.agg v) W
 pb:wr.heap[w.heap.size+1]?=some (.cells #[O J p.s,O J p.c.k,O J p.c.a,O J p.c.b,O J p.c.t,O J p.c.q,O J p.c.h,O J p.fro,O J p.to,O J p.e,O J p.h,O J p.n,Y aK p.t.length cK] 78 (0,0))
 bl:Below w.heap.size w wr
 o:¬ (a<=w.heap.size/\w.heap.size<b)/\b<=wr.heap.size
theorem Tw.below{a b:Nat}{p:Pst}{aK:Option Addr}{cK:Nat}{W:Wd}{v:Array dU}(h:Tw w wr a b p aK cK W v)(hb:Below wr.heap.size wr w'):Tw w w' a b p aK cK W v :=
 ⟨(hb.block _ (fC h.bx)).trans h.bx,h.wi.same fun j _ h2=>hb.block j (Nat.lt_of_lt_of_le h2 h.o.2),(hb.block _ (fC h.pb)).trans h.pb,h.bl.trans (hb.mono h.bl.size),h.o.1,Nat.le_trans h.o.2 hb.size⟩
structure Was(V:Wq)(B:Nat)(M:Mm):Prop where
 ex:∃ (aS aH aF aL:Option Addr) (cS cH cF cL:Nat) (v5:dU),V.heap[B]?=some (.cells #[Y aS M.s.length cS,Y aH M.h.length cH,Y aF M.f.length cF,Y aL M.l.length cL,O J M.w,v5] 28 (0,0))/\At V aS aH aF aL cS cH cF cL M
theorem Was.below(h:Was V B M)(hb:Below V.heap.size V V'):Was V' B M:=by
 obtain⟨aS,aH,aF,aL,cS,cH,cF,cL,v5,h1,h2⟩:=h.ex
 exact⟨aS,aH,aF,aL,cS,cH,cF,cL,v5,(hb.block _ (fC h1)).trans h1,h2.below hb⟩
theorem Z7(h:Di lo V (.agg #[Y aS W.m.s.length cS,Y aH W.m.h.length cH,Y aF W.m.f.length cF,Y aL W.m.l.length cL,O J W.m.w,Y aT W.t.length cT]) W) :
  aI Pg 17 #[Ew aS aH aF aL cS cH cF cL aT cT W] V fun e V'=>e=.returned (O J (wE W))/\Below V.heap.size V V':=by
 unfold Ew
 obtain⟨lt,A,hi,tC,hT,wK⟩:=h.parts
 have h:=a1x W.m lt aS aH aF aL cS cH cF cL aT cT V A hT
 have xw:lt.length=W.t.length:=by rw[tC,List.length_map]
 rw[<- tC,xw] at h
 exact h
theorem Z5(h:Di lo V (.agg #[Y aS W.m.s.length cS,Y aH W.m.h.length cH,Y aF W.m.f.length cF,Y aL W.m.l.length cL,O J W.m.w,Y aT W.t.length cT]) W) :
  aI Pg 93 #[Cm aS aH aF aL cS cH cF cL W.m] V fun e V'=>e=.returned (O J (Gu W.m))/\Below V.heap.size V V':=by
 unfold Cm
 obtain⟨lt,A,hi,tC,hT,wK⟩:=h.parts
 exact a1w W.m aS aH aF aL cS cH cF cL V A
theorem a2q(I:wE W0=0)(l:List Pk)(aP:Option Addr)(cP:Nat)(p:Pst)(aK:Option Addr)(cK:Nat){aS aH aF aL:Option Addr}{cS cH cF cL:Nat}{aT:Option Addr}{cT:Nat}(w:Wq)(hv:Di 0 w (.agg #[Y aS W0.m.s.length cS,Y aH W0.m.h.length cH,Y aF W0.m.f.length cF,Y aL W0.m.l.length cL,O J W0.m.w,Y aT W0.t.length cT]) W0)(hr:H8 w aP cP l)(hl:l.length<=300)(h1:p.fro<=p.to)(h2:p.to<l.length) :
  aI Pg 42 #[Ew aS aH aF aL cS cH cF cL aT cT W0,Y aP l.length cP,Oo p aK cK] w fun e w'=>e=.returned (.tuple #[O J (Je W0 l p).1,O J (Je W0 l p).2])/\Below w.heap.size w w':=by
 unfold Ew Oo
 have qV:=Vb W0 l p
 obtain⟨N9,QT⟩:∃ n,n=(Je W0 l p).1:=⟨_,rfl⟩
 obtain⟨E9,QW⟩:∃ n,n=(Je W0 l p).2:=⟨_,rfl⟩
 rw[<- QT,<- QW] at qV ⊢
 clear QT QW
 have hrt:H8 w aP cP (l.take (p.to+1)):=hr.take (by omega)
 have gm:(l.take (p.to+1)).length=p.to+1:=by rw[List.length_take];omega
 have m1:=hr.max
 have m2:=hr.le
 obtain⟨bP,oP,rfl,-⟩:∃ b o,aP=some ⟨b,o,none⟩/\True:=by
  rcases hr.at_ with h0|⟨bP,oP,e,hx⟩
  ·omega
  ·exact⟨bP,oP,e,trivial⟩
 obtain⟨L,hL⟩:∃ L,L=l.take (p.to+1):=⟨_,rfl⟩
 rw[<- hL] at qV hrt gm
 obtain⟨RE,GL⟩:∃ E,E=inE W0 L:=⟨_,rfl⟩
 rw[<- GL] at qV
 obtain⟨tn,htn⟩:∃ n,n=p.to:=⟨_,rfl⟩
 have Htn:Qi (tn=p.to):=htn
 have xU:Qi ((RE≠0/\N9=0/\E9=RE)\/(RE=0/\wit W0 L p (p.to+1)=-1/\N9=0/\E9=5)\/(RE=0/\wit W0 L p (p.to+1) ≠ -1/\N9=wit W0 L p (p.to+1)/\E9=0)):=qV
 have KG:Qi (RE=inE W0 L):=GL
 have zG:Qi (∀ e,e≠0->RE=e->N9=0/\E9=e):=fun e h0 h1=>by
  rcases xU.o with ⟨_,h3,h4⟩|⟨h3,_⟩|⟨h3,_⟩
  ·exact⟨h3,h4.trans h1⟩
  ·exact absurd (h1.symm.trans h3) h0
  ·exact absurd (h1.symm.trans h3) h0
 have HL:Qi (H8 w (some ⟨bP,oP,none⟩) cP L):=hrt
 have KN:Qi (L.length=p.to+1):=gm
 have HI:Qi (wE W0=0):=I
 have hto:p.to<300:=by omega
 have htc:p.to+1<=cP:=by omega
 clear qV GL hL hrt gm I hl h1 h2 htn
 obtain⟨ox,jq⟩:∃ o:Obj,o=.cells #[Y aS W0.m.s.length cS,Y aH W0.m.h.length cH,Y aF W0.m.f.length cF,Y aL W0.m.l.length cL,O J W0.m.w,Y aT W0.t.length cT] 28:=⟨_,rfl⟩
 obtain⟨op,qU⟩:∃ o:Obj,o=.cells #[O J p.s,O J p.c.k,O J p.c.a,O J p.c.b,O J p.c.t,O J p.c.q,O J p.c.h,O J p.fro,O J p.to,O J p.e,O J p.h,O J p.n,Y aK p.t.length cK] 78:=⟨_,rfl⟩
 have wu:Qi (Tw w ((w.alloc ox).alloc op) 0 w.heap.size p aK cK W0 #[Y aS W0.m.s.length cS,Y aH W0.m.h.length cH,Y aF W0.m.f.length cF,Y aL W0.m.l.length cL,O J W0.m.w,Y aT W0.t.length cT]):=by
  have b0:Below w.heap.size w ((w.alloc ox).alloc op):=oO _ _ _
  refine⟨?_,hv.wIn.same fun j _ h=>b0.block j h,?_,b0,by omega,b0.size⟩
  ·rw[fU _ _ _ (by simp),fP,jq]
  ·have:=fP (w.alloc ox) op
   rw[show (w.alloc ox).heap.size=w.heap.size+1 by simp] at this
   rw[this,qU]
 have l5:Qi (((w.alloc (.cells #[Y aS W0.m.s.length cS,Y aH W0.m.h.length cH,Y aF W0.m.f.length cF,Y aL W0.m.l.length cL,O J W0.m.w,Y aT W0.t.length cT] 28)).alloc (.cells #[O J p.s,O J p.c.k,O J p.c.a,O J p.c.b,O J p.c.t,O J p.c.q,O J p.c.h,O J p.fro,O J p.to,O J p.e,O J p.h,O J p.n,Y aK p.t.length cK] 78)).rangeAt w.heap.size 0 [Y aS W0.m.s.length cS,Y aH W0.m.h.length cH,Y aF W0.m.f.length cF,Y aL W0.m.l.length cL,O J W0.m.w]):=by
  have h:=wu.o.bx
  rw[jq,qU] at h
  exact Aq h rfl
 clear hv hr
 go_enter func42,ntmps42
 go_wp2_with (have h9:=l5.o;refine a4z rfl _ rfl rfl h9 ?_;clear h9 l5)
 rw[<- jq,<- qU]
 generalize (w.alloc ox).alloc op=V0 at *
 clear jq qU
 refine(Z5 (wu.o.wi V0 (fun _ _ _=>rfl))).mono ?_
 obtain⟨C0,wY⟩:∃ C,C=Gu W0.m:=⟨_,rfl⟩
 rw[<- wY]
 have ny:Qi (wEr W0=C0):=by show _=_;unfold wEr;rw[ae (by simpa using HI.o),wY]
 rintro e w1 ⟨rfl,bu⟩
 have vP:Qi (Tw w w1 0 w.heap.size p aK cK W0 #[Y aS W0.m.s.length cS,Y aH W0.m.h.length cH,Y aF W0.m.f.length cF,Y aL W0.m.l.length cL,O J W0.m.w,Y aT W0.t.length cT]):=wu.o.below bu
 clear wY bu wu
 by_cases ng:C0=0
 rotate_left
 ·have HN:Qi (N9=0/\E9=C0):=zG.o C0 ng (by rw[KG.o];unfold inE;rw[ny.o,af ng])
  have HB:Qi (Below w.heap.size w w1):=vP.o.bl
  clear vP zG KG ny xU HL KN HI
  go_wp2
  go_ret2
  exact⟨by rw[HN.o.1,HN.o.2];rfl,HB.o⟩
 subst ng
 have FI:Qi (Md W0 (L.drop 0)=RE):=by show _=_;rw[KG.o];unfold inE;rw[ny.o,ae (by simp)];rfl
 have AY:=vP.o.pb
 have c8:w1.cell? ⟨w.heap.size+1,8,none⟩=some (O J p.to):=by rw[dN AY];rfl
 have c8l:w.heap.size+1<w1.heap.size:=fC AY
 have TS:wrap64 ((p.to:Int)+1)=((p.to+1:Nat):Int):=by unfold wrap64;omega
 have TR:IntKind.i64.wrap ((p.to:Int)+1)=((p.to+1:Nat):Int):=by rw[IntKind.wrap_i64];omega
 clear AY
 go_wp2_with fail
 clear c8 c8l TS TR
 go_loopw [8,29] (fun f i wr=>∃ (k:Nat) (F:Int) (W:Wd) (a b:Nat) (aS aH aF aL:Option Addr) (cS cH cF cL:Nat) (aT:Option Addr) (cT:Nat),k<=p.to+1/\i=O J k/\f=O J F/\Qi (F=wit W0 L p k)/\Qi (W=I9 W0 (L.take k))/\Qi (wEr W=0)/\Qi (Md W (L.drop k)=RE)/\Qi (Tw w wr a b p aK cK W #[Y aS W.m.s.length cS,Y aH W.m.h.length cH,Y aF W.m.f.length cF,Y aL W.m.l.length cL,O J W.m.w,Y aT W.t.length cT])) (fun _ i _=>p.to+1 - (intOf i).toNat)
 case atStart=>exact⟨0,-1,W0,0,w.heap.size,aS,aH,aF,aL,cS,cH,cF,cL,aT,cT,Nat.zero_le _,rfl,rfl,rfl,rfl,ny,FI,vP⟩
 case round =>
  clear FI vP ny HI KG
  obtain⟨k,F,W,a,b,aS,aH,aF,aL,cS,cH,cF,cL,aT,cT,hk,rfl,rfl,HF,PL,HI,zy,HT⟩:=hrel
  by_cases gm:k<p.to+1
  ·rcases HL.o.at_ with h0|⟨bP',oP',e',hx⟩
   ·have:=KN.o;omega
   cases e'
   have UM:k<L.length:=by rw[KN.o];exact gm
   have jd:bP<w.heap.size:=cell_lt (hx k UM 0 _ rfl)
   obtain⟨x,hxk⟩:∃ x,x=L[k]:=⟨_,rfl⟩
   have Hx:Qi (x=L[k]):=hxk
   have lX:Qi (wr.rangeAt bP (oP+k*9) [O J x.s,.bool x.step,.bool x.tick,O J x.c.k,O J x.c.a,O J x.c.b,O J x.c.t,O J x.c.q,O J x.c.h]):=by rw[hxk];exact V9 (hx k UM) (HT.o.bl.block bP jd)
   have KL:Qi (I9 W0 (L.take (k+1))=Et W x):=by
    show _=_
    rw[Za UM,<- PL.o,<- Hx.o]
   have BO:Qi ((if wEr (Et W x)≠0 then wEr (Et W x) else Md (Et W x) (L.drop (k+1)))=RE):=by
    have h1:=zy.o
    rw[List.drop_eq_getElem_cons UM,<- Hx.o] at h1
    exact h1
   have HFk:Qi (∀ M,M=(I9 W0 (L.take (k+1))).m->wit W0 L p (k+1)=if F=-1/\p.fro<=k/\U4 p W.m M=true then (k:Int) else F):=fun M hM=>by
    rw[a6b,<- PL.o,<- HF.o,hM]
   have AO:Qi (F=-1\/¬ F<0):=by
    rcases a4y W0 L p k with h6|⟨h6,_⟩
    ·exact .inl (HF.o.trans h6)
    ·exact .inr (by rw[HF.o];omega)
   clear hx hxk UM jd zy PL HF Hx
   have JD:(k:Int)<((p.to+1:Nat):Int):=by omega
   have wI:(k:Int)<(p.to:Int)+1:=by omega
   have rU:k<=p.to:=by omega
   obtain⟨oq,hoq⟩:∃ o:Obj,o=.cells #[O J x.s,.bool x.step,.bool x.tick,O J x.c.k,O J x.c.a,O J x.c.b,O J x.c.t,O J x.c.q,O J x.c.h] 34:=⟨_,rfl⟩
   obtain⟨ow,how⟩:∃ o:Obj,o=.cells #[Y aS W.m.s.length cS,Y aH W.m.h.length cH,Y aF W.m.f.length cF,Y aL W.m.l.length cL,O J W.m.w,Y aT W.t.length cT] 28:=⟨_,rfl⟩
   have KE:Qi (Tw w (wr.alloc oq) a b p aK cK W #[Y aS W.m.s.length cS,Y aH W.m.h.length cH,Y aF W.m.f.length cF,Y aL W.m.l.length cL,O J W.m.w,Y aT W.t.length cT]):=HT.o.below (A7 _ _)
   have qY:Qi (Tw w ((wr.alloc oq).alloc ow) a b p aK cK W #[Y aS W.m.s.length cS,Y aH W.m.h.length cH,Y aF W.m.f.length cF,Y aL W.m.l.length cL,O J W.m.w,Y aT W.t.length cT]):=HT.o.below (oO _ _ _)
   have HQ2:Qi (((wr.alloc oq).alloc ow).heap[wr.heap.size]?=some oq):=by show _=_;rw[fU _ _ _ (by simp),fP]
   have uY:Qi (((wr.alloc oq).alloc ow).heap[wr.heap.size+1]?=some ow):=by
    have:=fP (wr.alloc oq) ow
    rwa [show (wr.alloc oq).heap.size=wr.heap.size+1 by simp] at this
   have Hzb:Qi (w.heap.size<wr.heap.size+1):=Nat.lt_succ_of_lt (fC HT.o.bx)
   subst hoq how
   have l6a:Qi ((wr.alloc (.cells #[O J x.s,.bool x.step,.bool x.tick,O J x.c.k,O J x.c.a,O J x.c.b,O J x.c.t,O J x.c.q,O J x.c.h] 34)).rangeAt w.heap.size 0 [Y aS W.m.s.length cS,Y aH W.m.h.length cH,Y aF W.m.f.length cF,Y aL W.m.l.length cL,O J W.m.w,Y aT W.t.length cT]):=Aq KE.o.bx rfl
   have l6b:Qi (((wr.alloc (.cells #[O J x.s,.bool x.step,.bool x.tick,O J x.c.k,O J x.c.a,O J x.c.b,O J x.c.t,O J x.c.q,O J x.c.h] 34)).alloc (.cells #[Y aS W.m.s.length cS,Y aH W.m.h.length cH,Y aF W.m.f.length cF,Y aL W.m.l.length cL,O J W.m.w,Y aT W.t.length cT] 28)).rangeAt w.heap.size 0 [Y aS W.m.s.length cS,Y aH W.m.h.length cH,Y aF W.m.f.length cF,Y aL W.m.l.length cL,O J W.m.w,Y aT W.t.length cT]):=Aq qY.o.bx rfl
   have LJ:Qi (((wr.alloc (.cells #[O J x.s,.bool x.step,.bool x.tick,O J x.c.k,O J x.c.a,O J x.c.b,O J x.c.t,O J x.c.q,O J x.c.h] 34)).alloc (.cells #[Y aS W.m.s.length cS,Y aH W.m.h.length cH,Y aF W.m.f.length cF,Y aL W.m.l.length cL,O J W.m.w,Y aT W.t.length cT] 28)).rangeAt wr.heap.size 0 [O J x.s,.bool x.step,.bool x.tick,O J x.c.k,O J x.c.a,O J x.c.b,O J x.c.t,O J x.c.q,O J x.c.h]):=Aq HQ2.o rfl
   clear HT KE HQ2
   go_wp2_with (first|(have h9:=lX.o;refine Vl rfl _ rfl rfl h9 ?_;clear h9 lX)|((fail_if_success (have:=lX.o));have h9:=l6a.o;refine F8 rfl (.tmp 3) rfl rfl h9 ?_;clear h9 l6a)|((fail_if_success (have:=l6a.o));have h9:=l6b.o;refine F8 rfl (.tmp 3) rfl rfl h9 ?_;clear h9 l6b)|((fail_if_success (have:=l6b.o));have h9:=LJ.o;refine Vl rfl (.tmp 11) rfl rfl h9 ?_;clear h9 LJ))
   generalize nV (nV wr _) _=W2 at *
   generalize wr.heap.size+1=Bw at *
   clear JD wI rU
   refine(a3v x aS aH aF aL cS cH cF cL aT cT W2 ((qY.o.wi W2 (fun _ _ _=>rfl)).mono (Nat.zero_le _)) (Pv.1 HI.o).1).mono ?_
   rintro e w3 ⟨v3,rfl,uB,gu⟩
   obtain⟨E,hE⟩:∃ E,E=doE W x:=⟨_,rfl⟩
   rw[<- hE] at uB ⊢
   have HE:Qi (E=doE W x):=hE
   obtain⟨Mw,QU⟩:∃ M,M=W.m:=⟨_,rfl⟩
   rw[<- QU] at HFk
   have HMo:Qi (OkC Mw):=by show OkC Mw;rw[QU];exact(Kq _).1 (Pv.1 HI.o).2
   have QE:=gu.size
   clear hE
   by_cases lh:E=0
   focus
    rw[af lh] at uB
    obtain⟨Wn,MG⟩:∃ Wn,Wn=doW W x:=⟨_,rfl⟩
    rw[<- MG] at uB
    have wS:Et W x=Wn:=by unfold Et;rw[<- HE.o,af lh,MG]
    have wM:Qi ((if wEr Wn≠0 then wEr Wn else Md Wn (L.drop (k+1)))=RE):=by have h:=BO.o;rw[wS] at h;exact h
    have AB:Qi (Wn=I9 W0 (L.take (k+1))):=by show _=_;rw[KL.o,wS]
    obtain⟨sH,sK,sN,sJ,rZ,sD,sG,su,sW,sV,lt3,rfl,-⟩:=id uB
    obtain⟨on,uX⟩:∃ o:Obj,o=.cells #[Y sH Wn.m.s.length rZ,Y sK Wn.m.h.length sD,Y sN Wn.m.f.length sG,Y sJ Wn.m.l.length su,O J Wn.m.w,Y sW Wn.t.length sV] 28:=⟨_,rfl⟩
    have qK:Below W2.heap.size W2 (w3.alloc on):=gu.alloc gu.size on
    have XM:Qi ((w3.alloc on).heap[w3.heap.size]?=some on):=fP _ _
    have rX:Qi (Tw w (w3.alloc on) a b p aK cK W #[Y aS W.m.s.length cS,Y aH W.m.h.length cH,Y aF W.m.f.length cF,Y aL W.m.l.length cL,O J W.m.w,Y aT W.t.length cT]):=qY.o.below qK
    have t6:Qi ((w3.alloc on).there w.heap.size 0 6):=Be rX.o.bx (by simp)
    obtain⟨W4,tK⟩:∃ W4,W4=(w3.alloc on).setCells w.heap.size 0 [Y sH Wn.m.s.length rZ,Y sK Wn.m.h.length sD,Y sN Wn.m.f.length sG,Y sJ Wn.m.l.length su,O J Wn.m.w,Y sW Wn.t.length sV]:=⟨_,rfl⟩
    have wG:∀ j,j≠w.heap.size->W4.heap[j]?=(w3.alloc on).heap[j]?:=fun j hj=>by rw[tK];exact Af hj _ _ _
    have hs4:W4.heap.size=(w3.alloc on).heap.size:=by rw[tK];exact setCells_size _ _ _
    have hzW:w.heap.size<W2.heap.size:=fC qY.o.bx
    have hzP:w.heap.size+1<W2.heap.size:=fC qY.o.pb
    have h4:(w3.alloc on).heap.size=w3.heap.size+1:=by simp
    have zA:Qi (Tw w W4 W2.heap.size w3.heap.size p aK cK Wn #[Y sH Wn.m.s.length rZ,Y sK Wn.m.h.length sD,Y sN Wn.m.f.length sG,Y sJ Wn.m.l.length su,O J Wn.m.w,Y sW Wn.t.length sV]):=by
     refine⟨by rw[tK];exact Bi rX.o.bx rfl,uB.wIn.same fun j h5 h6=>(wG j (by omega)).trans ((A7 _ _).block j h6),(wG _ (by omega)).trans rX.o.pb,by rw[tK];exact Bd rX.o.bl (Nat.le_refl _),by omega,by omega⟩
    have HWs:Qi (Was W4 Bw Mw):=by
     have h5:=qY.o.o
     have h6:=fC uY.o
     have h7:=Hzb.o
     have h8:=(qY.o.wi W4 (fun j h1 h2=>(wG j (fun e=>h5.1 ⟨by omega,by omega⟩)).trans (qK.block j (by omega)))).parts
     obtain⟨lt,A,-,-,-,-⟩:=h8
     rw[QU]
     exact⟨aS,aH,aF,aL,cS,cH,cF,cL,_,(wG Bw (by omega)).trans ((qK.block Bw h6).trans uY.o),A⟩
    have l6:Qi (W4.rangeAt w.heap.size 0 [Y sH Wn.m.s.length rZ,Y sK Wn.m.h.length sD,Y sN Wn.m.f.length sG,Y sJ Wn.m.l.length su,O J Wn.m.w,Y sW Wn.t.length sV]):=Aq zA.o.bx rfl
    subst uX
    have l7:Qi ((w3.alloc (.cells #[Y sH Wn.m.s.length rZ,Y sK Wn.m.h.length sD,Y sN Wn.m.f.length sG,Y sJ Wn.m.l.length su,O J Wn.m.w,Y sW Wn.t.length sV] 28)).rangeAt w3.heap.size 0 [Y sH Wn.m.s.length rZ,Y sK Wn.m.h.length sD,Y sN Wn.m.f.length sG,Y sJ Wn.m.l.length su,O J Wn.m.w,Y sW Wn.t.length sV]):=Aq XM.o rfl
    clear uB gu qK qY XM rX wG hs4 MG HE KL HI BO wS hzW hzP h4 uY Hzb QU
    subst lh
    go_wp2_with (first|(have h9:=l7.o;refine F8 rfl (.tmp 13) rfl rfl h9 ?_;clear h9 l7)|((fail_if_success (have:=l7.o));refine Iu rfl (.tmp 3) (.tmp 43) rfl rfl rfl t6.o (by kernel_rfl) ?_;rw[<- tK];clear tK t6)|((fail_if_success (have:=t6.o));have h9:=l6.o;refine F8 rfl (.tmp 3) rfl rfl h9 ?_;clear h9 l6))
   rotate_left
   focus
    rw[ae lh] at uB
    obtain⟨aSq,aHq,aFq,aLq,cSq,cHq,cFq,cLq,aTq,cTq,_,rfl,-⟩:=uB
    have h':(E==0)=false:=by simpa using lh
    have WT:Qi (Was w3 Bw Mw):=by
     obtain⟨lt,A,-,-,-,-⟩:=(qY.o.wi W2 (fun _ _ _=>rfl)).parts
     refine Was.below (V:=W2) ?_ gu
     rw[QU]
     exact⟨aS,aH,aF,aL,cS,cH,cF,cL,_,uY.o,A⟩
    have wS:Et W x=W:=by unfold Et;rw[<- HE.o,ae lh]
    have wM:Qi ((if wEr W≠0 then wEr W else Md W (L.drop (k+1)))=RE):=by have h:=BO.o;rw[wS] at h;exact h
    have AB:Qi (W=I9 W0 (L.take (k+1))):=by show _=_;rw[KL.o,wS]
    clear QU wS uY Hzb BO KL HE lh HI
    obtain⟨sH,rfl⟩:∃ y,y=aS:=⟨_,rfl⟩
    obtain⟨sK,rfl⟩:∃ y,y=aH:=⟨_,rfl⟩
    obtain⟨sN,rfl⟩:∃ y,y=aF:=⟨_,rfl⟩
    obtain⟨sJ,rfl⟩:∃ y,y=aL:=⟨_,rfl⟩
    obtain⟨rZ,rfl⟩:∃ y,y=cS:=⟨_,rfl⟩
    obtain⟨sD,rfl⟩:∃ y,y=cH:=⟨_,rfl⟩
    obtain⟨sG,rfl⟩:∃ y,y=cF:=⟨_,rfl⟩
    obtain⟨su,rfl⟩:∃ y,y=cL:=⟨_,rfl⟩
    obtain⟨sW,rfl⟩:∃ y,y=aT:=⟨_,rfl⟩
    obtain⟨sV,rfl⟩:∃ y,y=cT:=⟨_,rfl⟩
    obtain⟨Wn,rfl⟩:∃ y,y=W:=⟨_,rfl⟩
    obtain⟨on,uX⟩:∃ o:Obj,o=.cells #[Y aSq w0W.m.s.length cSq,Y aHq w0W.m.h.length cHq,Y aFq w0W.m.f.length cFq,Y aLq w0W.m.l.length cLq,O J w0W.m.w,Y aTq w0W.t.length cTq] 28:=⟨_,rfl⟩
    have zA:Qi (Tw w (w3.alloc on) a b p aK cK Wn #[Y sH Wn.m.s.length rZ,Y sK Wn.m.h.length sD,Y sN Wn.m.f.length sG,Y sJ Wn.m.l.length su,O J Wn.m.w,Y sW Wn.t.length sV]):=qY.o.below (gu.alloc gu.size on)
    have HWs:Qi (Was (w3.alloc on) Bw Mw):=WT.o.below (A7 _ _)
    have l6:Qi ((w3.alloc on).rangeAt w.heap.size 0 [Y sH Wn.m.s.length rZ,Y sK Wn.m.h.length sD,Y sN Wn.m.f.length sG,Y sJ Wn.m.l.length su,O J Wn.m.w,Y sW Wn.t.length sV]):=Aq zA.o.bx rfl
    rw[uX] at l6
    clear gu qY WT
    go_wp2_with (have h9:=l6.o;refine F8 rfl (.tmp 3) rfl rfl h9 ?_;clear h9 l6)
    rw[<- uX]
    generalize w3.alloc on=W4 at *
    clear uX h'
   all_goals
    obtain⟨a4,b4,FM⟩:∃ a4 b4,Qi (Tw w W4 a4 b4 p aK cK Wn #[Y sH Wn.m.s.length rZ,Y sK Wn.m.h.length sD,Y sN Wn.m.f.length sG,Y sJ Wn.m.l.length su,O J Wn.m.w,Y sW Wn.t.length sV]):=⟨_,_,zA⟩
    clear zA
    refine(Z7 (FM.o.wi W4 (fun _ _ _=>rfl))).mono ?_
    obtain⟨C1,hC1⟩:∃ C,C=wE Wn:=⟨_,rfl⟩
    rw[<- hC1]
    have tX:Qi (C1=wE Wn):=hC1
    rintro e w5 ⟨rfl,tY⟩
    have FK:Qi (Tw w w5 a4 b4 p aK cK Wn #[Y sH Wn.m.s.length rZ,Y sK Wn.m.h.length sD,Y sN Wn.m.f.length sG,Y sJ Wn.m.l.length su,O J Wn.m.w,Y sW Wn.t.length sV]):=FM.o.below tY
    have PK:Qi (Was w5 Bw Mw):=HWs.o.below tY
    clear hC1 tY FM HWs
    by_cases qj:C1=0
    rotate_left
    ·have HN:Qi (N9=0/\E9=C1):=zG.o C1 qj (by
      have h:=wM.o
      have h1:wEr Wn=C1:=by unfold wEr;rw[<- tX.o,af qj]
      rw[h1,af qj] at h
      exact h.symm)
     have HB:Qi (Below w.heap.size w w5):=FK.o.bl
     clear FK PK wM tX zG
     go_wp2
     go_ret2
     exact⟨by rw[HN.o.1,HN.o.2];rfl,HB.o⟩
    subst qj
    have l5:Qi (w5.rangeAt w.heap.size 0 [Y sH Wn.m.s.length rZ,Y sK Wn.m.h.length sD,Y sN Wn.m.f.length sG,Y sJ Wn.m.l.length su,O J Wn.m.w]):=Aq FK.o.bx rfl
    go_wp2_with (have h9:=l5.o;refine a4z rfl _ rfl rfl h9 ?_;clear h9 l5)
    refine(Z5 (FK.o.wi w5 (fun _ _ _=>rfl))).mono ?_
    obtain⟨C2,ZQ⟩:∃ C,C=Gu Wn.m:=⟨_,rfl⟩
    rw[<- ZQ]
    have sO:Qi (wEr Wn=C2):=by show _=_;unfold wEr;rw[<- tX.o,ae (by simp),ZQ]
    have HCc:Qi (C2=Gu Wn.m):=ZQ
    rintro e w6 ⟨rfl,uD⟩
    have wO:Qi (Tw w w6 a4 b4 p aK cK Wn #[Y sH Wn.m.s.length rZ,Y sK Wn.m.h.length sD,Y sN Wn.m.f.length sG,Y sJ Wn.m.l.length su,O J Wn.m.w,Y sW Wn.t.length sV]):=FK.o.below uD
    have JZ:Qi (Was w6 Bw Mw):=PK.o.below uD
    clear ZQ uD FK PK tX
    by_cases pq:C2=0
    rotate_left
    ·have HN:Qi (N9=0/\E9=C2):=zG.o C2 pq (by
      have h:=wM.o
      rw[sO.o,af pq] at h
      exact h.symm)
     have HB:Qi (Below w.heap.size w w6):=wO.o.bl
     clear wO JZ wM sO zG HCc
     go_wp2
     go_ret2
     exact⟨by rw[HN.o.1,HN.o.2];rfl,HB.o⟩
    subst pq
    have HNo:Qi (OkC Wn.m):=(Kq _).1 HCc.o.symm
    have zy:Qi (Md Wn (L.drop (k+1))=RE):=by have h:=wM.o;rw[sO.o,ae (by simp)] at h;exact h
    have hFk:=HFk.o Wn.m (by rw[<- AB.o])
    have FP:Qi (wit W0 L p (k+1)=if F=-1/\p.fro<=k/\U4 p Mw Wn.m=true then (k:Int) else F):=hFk
    clear hFk HFk wM HCc
    by_cases wU:F=-1/\p.fro<=k
    ·obtain⟨rfl,OG⟩:=wU
     have Hfk:Qi (p.fro<=k):=OG
     obtain⟨acc,OM⟩:∃ b,b=U4 p Mw Wn.m:=⟨_,rfl⟩
     have KR:Qi (wit W0 L p (k+1)=if acc=true then (k:Int) else -1):=by
      show _=_
      rw[FP.o,<- OM]
      cases acc <;> simp[Hfk.o]
     have WO:Qi (acc=U4 p Mw Wn.m):=OM
     clear OG OM FP AO
     go_wp2_with fail
     obtain⟨xS,xH,xF,xL,yS,yH,yF,yL,x5,hwx,hwA⟩:=JZ.o.ex
     obtain⟨lt,An,-,-,-,-⟩:=(wO.o.wi w6 (fun _ _ _=>rfl)).parts
     refine b4l rfl rfl rfl rfl rfl rfl Hfk.o wO.o.pb hwx wO.o.bx hwA An HMo.o HNo.o fun y w9 qM QY=>?_
     rw[<- WO.o] at QY
     simp only[mkA,dW,qF,qG,Act.put,qB,fV,qE,QY]
     have RS:Qi (Tw w w9 a4 b4 p aK cK Wn #[Y sH Wn.m.s.length rZ,Y sK Wn.m.h.length sD,Y sN Wn.m.f.length sG,Y sJ Wn.m.l.length su,O J Wn.m.w,Y sW Wn.t.length sV]):=wO.o.below qM
     clear QY qM hwx hwA An JZ wO WO
     cases acc
     ·go_wp2
      go_roundw
      case rel=>exact⟨k+1,-1,Wn,a4,b4,sH,sK,sN,sJ,rZ,sD,sG,su,sW,sV,by omega,by go_num,rfl,KR.o.symm,AB,sO,zy,RS⟩
      case measure=>simp[intOf];omega
     ·go_wp2
      go_roundw
      case rel=>exact⟨k+1,k,Wn,a4,b4,sH,sK,sN,sJ,rZ,sD,sG,su,sW,sV,by omega,by go_num,rfl,KR.o.symm,AB,sO,zy,RS⟩
      case measure=>simp[intOf];omega
    ·have KR:Qi (wit W0 L p (k+1)=F):=by
      show _=_
      rw[FP.o,ae (fun h=>wU ⟨h.1,h.2.1⟩)]
     have Hcn:Qi (decide (F<0)=true->k<p.fro):=fun h=>by
      have h1:F<0:=of_decide_eq_true h
      rcases AO.o with h2|h2
      ·exact Nat.lt_of_not_le fun h3=>wU ⟨h2,h3⟩
      ·omega
     clear wU FP AO
     go_wp2_with fail
     refine b6t rfl rfl rfl rfl rfl Hcn.o wO.o.pb fun y w9 qM QY=>?_
     simp only[mkA,dW,qF,qG,Act.put,qB,fV,qE,QY]
     have RS:Qi (Tw w w9 a4 b4 p aK cK Wn #[Y sH Wn.m.s.length rZ,Y sK Wn.m.h.length sD,Y sN Wn.m.f.length sG,Y sJ Wn.m.l.length su,O J Wn.m.w,Y sW Wn.t.length sV]):=wO.o.below qM
     clear QY qM JZ wO Hcn
     go_wp2
     go_roundw
     case rel=>exact⟨k+1,F,Wn,a4,b4,sH,sK,sN,sJ,rZ,sD,sG,su,sW,sV,by omega,by go_num,rfl,KR.o.symm,AB,sO,zy,RS⟩
     case measure=>simp[intOf];omega
  ·have ry:k=p.to+1:=by omega
   have mr:Qi (RE=0):=by
    have h:=zy.o
    rw[ry,List.drop_eq_nil_of_le (by rw[KN.o];exact Nat.le_refl _)] at h
    exact h.symm
   have MX:Qi (F=wit W0 L p (p.to+1)):=by show _=_;rw[HF.o,ry]
   have HB:Qi (Below w.heap.size w wr):=HT.o.bl
   have yt:¬ (k:Int)<((p.to+1:Nat):Int):=by omega
   have hw:F=-1/\N9=0/\E9=5\/¬ F<0/\N9=F/\E9=0:=by
    rcases xU.o with ⟨h3,_⟩|⟨_,h3,h4,h5⟩|⟨_,h3,h4,h5⟩
    ·exact absurd mr.o h3
    ·exact .inl ⟨MX.o.trans h3,h4,h5⟩
    ·refine .inr ⟨?_,h4.trans MX.o.symm,h5⟩
     rcases a4y W0 L p (p.to+1) with h6|⟨h6,_⟩
     ·exact absurd h6 h3
     ·rw[MX.o];omega
   clear HF PL HI zy HT mr MX ry xU zG HL KN
   rcases hw with ⟨rfl,rfl,rfl⟩|⟨hF0,rfl,rfl⟩
   ·go_wp2
    go_ret2
    exact⟨rfl,HB.o⟩
   ·go_wp2
    go_ret2
    exact⟨rfl,HB.o⟩
theorem b2r{a:Act}{w:Wq}{Q:Exit->Act->Wq->Prop}{v0 v1 v2 v3 v4 v5 v6 v7 v8 v9 v10 v11 v12:dU}{B o:Nat}(rY:op.guard=none)(x:Operand)(ho:op.op=.load 78 x)(hx:a.eval x=.pointer (some ⟨B,o,none⟩))(h:w.rangeAt B o [v0,v1,v2,v3,v4,v5,v6,v7,v8,v9,v10,v11,v12])(K:wpList Pg bn Q nz (a.put op.dst (.agg #[v0,v1,v2,v3,v4,v5,v6,v7,v8,v9,v10,v11,v12])) w):wpList Pg bn Q (op :: nz) a w :=
 wpList_load_mid rY 78 x ho B o hx [v0,v1,v2,v3,v4,v5,v6,v7,v8,v9,v10,v11,v12] _ h underlying78 rfl (by kernel_rfl) K
theorem a2p(hn:(n:Int)<=4611686018427387904)(p:Pst)(a b:Int)(iw:Gy W n a b≠0)(aK:Option Addr)(cK:Nat){aS aH aF aL:Option Addr}{cS cH cF cL:Nat}{aT:Option Addr}{cT:Nat}(w:Wq)(hv:Di 0 w (.agg #[Y aS W.m.s.length cS,Y aH W.m.h.length cH,Y aF W.m.f.length cF,Y aL W.m.l.length cL,O J W.m.w,Y aT W.t.length cT]) W) :
  aI Pg 41 #[Ew aS aH aF aL cS cH cF cL aT cT W,Y aP n cP,.agg #[O J p.s,O J p.c.k,O J p.c.a,O J p.c.b,O J p.c.t,O J p.c.q,O J p.c.h,O J a,O J b,O J p.e,O J p.h,O J p.n,Y aK p.t.length cK]] w fun e w'=>e=.returned (.tuple #[O J 0,O J (Gy W n a b)])/\Below w.heap.size w w':=by
 unfold Ew
 obtain⟨ox,jq⟩:∃ o:Obj,o=.cells #[Y aS W.m.s.length cS,Y aH W.m.h.length cH,Y aF W.m.f.length cF,Y aL W.m.l.length cL,O J W.m.w,Y aT W.t.length cT] 28:=⟨_,rfl⟩
 obtain⟨op,qU⟩:∃ o:Obj,o=.cells #[O J p.s,O J p.c.k,O J p.c.a,O J p.c.b,O J p.c.t,O J p.c.q,O J p.c.h,O J a,O J b,O J p.e,O J p.h,O J p.n,Y aK p.t.length cK] 78:=⟨_,rfl⟩
 have b0:Below w.heap.size w ((w.alloc ox).alloc op):=oO _ _ _
 have ni:Qi (((w.alloc ox).alloc op).heap[w.heap.size]?=some ox):=by show _=_;rw[fU _ _ _ (by simp),fP]
 have yQ:Qi (((w.alloc ox).alloc op).heap[w.heap.size+1]?=some op):=by
  have:=fP (w.alloc ox) op
  rwa [show (w.alloc ox).heap.size=w.heap.size+1 by simp] at this
 have lq:Qi (Di 0 ((w.alloc ox).alloc op) (.agg #[Y aS W.m.s.length cS,Y aH W.m.h.length cH,Y aF W.m.f.length cF,Y aL W.m.l.length cL,O J W.m.w,Y aT W.t.length cT]) W):=hv.below b0
 have uu:Qi (Below w.heap.size w ((w.alloc ox).alloc op)):=b0
 subst jq qU
 have l6:Qi (((w.alloc (.cells #[Y aS W.m.s.length cS,Y aH W.m.h.length cH,Y aF W.m.f.length cF,Y aL W.m.l.length cL,O J W.m.w,Y aT W.t.length cT] 28)).alloc (.cells #[O J p.s,O J p.c.k,O J p.c.a,O J p.c.b,O J p.c.t,O J p.c.q,O J p.c.h,O J a,O J b,O J p.e,O J p.h,O J p.n,Y aK p.t.length cK] 78)).rangeAt w.heap.size 0 [Y aS W.m.s.length cS,Y aH W.m.h.length cH,Y aF W.m.f.length cF,Y aL W.m.l.length cL,O J W.m.w,Y aT W.t.length cT]):=Aq ni.o rfl
 have lP:Qi (((w.alloc (.cells #[Y aS W.m.s.length cS,Y aH W.m.h.length cH,Y aF W.m.f.length cF,Y aL W.m.l.length cL,O J W.m.w,Y aT W.t.length cT] 28)).alloc (.cells #[O J p.s,O J p.c.k,O J p.c.a,O J p.c.b,O J p.c.t,O J p.c.q,O J p.c.h,O J a,O J b,O J p.e,O J p.h,O J p.n,Y aK p.t.length cK] 78)).rangeAt (w.heap.size+1) 0 [O J p.s,O J p.c.k,O J p.c.a,O J p.c.b,O J p.c.t,O J p.c.q,O J p.c.h,O J a,O J b,O J p.e,O J p.h,O J p.n,Y aK p.t.length cK]):=Aq yQ.o rfl
 obtain⟨E,hE⟩:∃ E,E=Gy W n a b:=⟨_,rfl⟩
 have BI:=fun V (h:Di 0 V (.agg #[Y aS W.m.s.length cS,Y aH W.m.h.length cH,Y aF W.m.f.length cF,Y aL W.m.l.length cL,O J W.m.w,Y aT W.t.length cT]) W)=>Wp h aP cP n hn p a b aK cK
 rw[<- hE] at BI iw ⊢
 have HCk:Qi (∀ V,Di 0 V (.agg #[Y aS W.m.s.length cS,Y aH W.m.h.length cH,Y aF W.m.f.length cF,Y aL W.m.l.length cL,O J W.m.w,Y aT W.t.length cT]) W->aI Pg 89 #[Ew aS aH aF aL cS cH cF cL aT cT W,Y aP n cP,.agg #[O J p.s,O J p.c.k,O J p.c.a,O J p.c.b,O J p.c.t,O J p.c.q,O J p.c.h,O J a,O J b,O J p.e,O J p.h,O J p.n,Y aK p.t.length cK]] V fun e w'=>e=.returned (O J E)/\Below V.heap.size V w'):=BI
 clear hv b0 ni yQ BI hE
 go_enter func41,ntmps41
 go_wp2_with (first|(have h9:=l6.o;refine F8 rfl _ rfl rfl h9 ?_;clear h9 l6)|((fail_if_success (have:=l6.o));have h9:=lP.o;refine b2r rfl _ rfl rfl h9 ?_;clear h9 lP))
 generalize nV (nV w _) _=V0 at *
 refine(HCk.o V0 lq.o).mono ?_
 rintro e w1 ⟨rfl,bu⟩
 have qZ:Qi (Below w.heap.size w w1):=uu.o.trans (bu.mono uu.o.size)
 clear bu lq uu HCk
 go_wp2
 go_ret2
 exact⟨rfl,qZ.o⟩
structure Ts(w V:Wq)(W:Wd)(v:Array dU)(q:Array dU):Prop where
 b:Below w.heap.size w V
 bx:V.heap[w.heap.size]?=some (.cells v 28 (0,0))
 bq:V.heap[w.heap.size+1]?=some (.cells q 78 (0,0))
 a:Di 0 V (.agg v) W
theorem Ts.go{W:Wd}{v q:Array dU}(h:Ts w V W v q)(hb:Below V.heap.size V V'):Ts w V' W v q :=
 ⟨h.b.trans (hb.mono h.b.size),(hb.block _ (fC h.bx)).trans h.bx,(hb.block _ (fC h.bq)).trans h.bq,h.a.below hb⟩
theorem Ze(hn:(n:Int)<=4611686018427387904)(p:Pst)(a b N E:Int)(aK:Option Addr)(cK:Nat){aS aH aF aL:Option Addr}{cS cH cF cL:Nat}{aT:Option Addr}{cT:Nat}(w:Wq)(hv:Di 0 w (.agg #[Y aS W.m.s.length cS,Y aH W.m.h.length cH,Y aF W.m.f.length cF,Y aL W.m.l.length cL,O J W.m.w,Y aT W.t.length cT]) W)(hW:∀ V,Below w.heap.size w V->aI Pg 41 #[Ew aS aH aF aL cS cH cF cL aT cT W,Y aP n cP,.agg #[O J p.s,O J p.c.k,O J p.c.a,O J p.c.b,O J p.c.t,O J p.c.q,O J p.c.h,O J a,O J b,O J p.e,O J p.h,O J p.n,Y aK p.t.length cK]] V fun e w'=>e=.returned (.tuple #[O J N,O J E])/\Below V.heap.size V w')(iw:Gy W n a b≠0->N=0/\E=Gy W n a b)(hR:Gy W n a b=0->∀ V,Below w.heap.size w V->aI Pg 42 #[Ew aS aH aF aL cS cH cF cL aT cT W,Y aP n cP,.agg #[O J p.s,O J p.c.k,O J p.c.a,O J p.c.b,O J p.c.t,O J p.c.q,O J p.c.h,O J a,O J b,O J p.e,O J p.h,O J p.n,Y aK p.t.length cK]] V fun e w'=>e=.returned (.tuple #[O J N,O J E])/\Below V.heap.size V w') :
  aI Pg 10 #[Ew aS aH aF aL cS cH cF cL aT cT W,Y aP n cP,.agg #[O J p.s,O J p.c.k,O J p.c.a,O J p.c.b,O J p.c.t,O J p.c.q,O J p.c.h,O J a,O J b,O J p.e,O J p.h,O J p.n,Y aK p.t.length cK]] w fun e w'=>e=.returned (.bool true)/\Below w.heap.size w w':=by
 unfold Ew
 have qV:=Pn W n a b
 have HW:Qi (∀ V,Below w.heap.size w V->aI Pg 41 #[Ew aS aH aF aL cS cH cF cL aT cT W,Y aP n cP,.agg #[O J p.s,O J p.c.k,O J p.c.a,O J p.c.b,O J p.c.t,O J p.c.q,O J p.c.h,O J a,O J b,O J p.e,O J p.h,O J p.n,Y aK p.t.length cK]] V fun e w'=>e=.returned (.tuple #[O J N,O J E])/\Below V.heap.size V w'):=hW
 have HR:Qi (Gy W n a b=0->∀ V,Below w.heap.size w V->aI Pg 42 #[Ew aS aH aF aL cS cH cF cL aT cT W,Y aP n cP,.agg #[O J p.s,O J p.c.k,O J p.c.a,O J p.c.b,O J p.c.t,O J p.c.q,O J p.c.h,O J a,O J b,O J p.e,O J p.h,O J p.n,Y aK p.t.length cK]] V fun e w'=>e=.returned (.tuple #[O J N,O J E])/\Below V.heap.size V w'):=hR
 have HK:Qi (∀ V,Di 0 V (.agg #[Y aS W.m.s.length cS,Y aH W.m.h.length cH,Y aF W.m.f.length cF,Y aL W.m.l.length cL,O J W.m.w,Y aT W.t.length cT]) W->aI Pg 17 #[Ew aS aH aF aL cS cH cF cL aT cT W] V fun e w'=>e=.returned (O J (wE W))/\Below V.heap.size V w'):=fun V h=>Z7 h
 have Hne:Qi (Gy W n a b≠0->N=0/\E=Gy W n a b):=iw
 have xU:Qi _:=qV
 obtain⟨ox,jq⟩:∃ o:Obj,o=.cells #[Y aS W.m.s.length cS,Y aH W.m.h.length cH,Y aF W.m.f.length cF,Y aL W.m.l.length cL,O J W.m.w,Y aT W.t.length cT] 28:=⟨_,rfl⟩
 obtain⟨op,qU⟩:∃ o:Obj,o=.cells #[O J p.s,O J p.c.k,O J p.c.a,O J p.c.b,O J p.c.t,O J p.c.q,O J p.c.h,O J a,O J b,O J p.e,O J p.h,O J p.n,Y aK p.t.length cK] 78:=⟨_,rfl⟩
 have H0:Qi (Ts w ((w.alloc ox).alloc op) W #[Y aS W.m.s.length cS,Y aH W.m.h.length cH,Y aF W.m.f.length cF,Y aL W.m.l.length cL,O J W.m.w,Y aT W.t.length cT] #[O J p.s,O J p.c.k,O J p.c.a,O J p.c.b,O J p.c.t,O J p.c.q,O J p.c.h,O J a,O J b,O J p.e,O J p.h,O J p.n,Y aK p.t.length cK]):=by
  have b0:Below w.heap.size w ((w.alloc ox).alloc op):=oO _ _ _
  refine⟨b0,?_,?_,hv.below b0⟩
  ·rw[fU _ _ _ (by simp),fP,jq]
  ·have:=fP (w.alloc ox) op
   rw[show (w.alloc ox).heap.size=w.heap.size+1 by simp] at this
   rw[this,qU]
 subst jq qU
 have l6:Qi (((w.alloc (.cells #[Y aS W.m.s.length cS,Y aH W.m.h.length cH,Y aF W.m.f.length cF,Y aL W.m.l.length cL,O J W.m.w,Y aT W.t.length cT] 28)).alloc (.cells #[O J p.s,O J p.c.k,O J p.c.a,O J p.c.b,O J p.c.t,O J p.c.q,O J p.c.h,O J a,O J b,O J p.e,O J p.h,O J p.n,Y aK p.t.length cK] 78)).rangeAt w.heap.size 0 [Y aS W.m.s.length cS,Y aH W.m.h.length cH,Y aF W.m.f.length cF,Y aL W.m.l.length cL,O J W.m.w,Y aT W.t.length cT]):=Aq H0.o.bx rfl
 have lP:Qi (((w.alloc (.cells #[Y aS W.m.s.length cS,Y aH W.m.h.length cH,Y aF W.m.f.length cF,Y aL W.m.l.length cL,O J W.m.w,Y aT W.t.length cT] 28)).alloc (.cells #[O J p.s,O J p.c.k,O J p.c.a,O J p.c.b,O J p.c.t,O J p.c.q,O J p.c.h,O J a,O J b,O J p.e,O J p.h,O J p.n,Y aK p.t.length cK] 78)).rangeAt (w.heap.size+1) 0 [O J p.s,O J p.c.k,O J p.c.a,O J p.c.b,O J p.c.t,O J p.c.q,O J p.c.h,O J a,O J b,O J p.e,O J p.h,O J p.n,Y aK p.t.length cK]):=Aq H0.o.bq rfl
 clear hv qV hW hR iw
 go_enter func10,ntmps10
 go_wp2_with (first|(have h9:=l6.o;refine F8 rfl _ rfl rfl h9 ?_;clear h9 l6)|((fail_if_success (have:=l6.o));have h9:=lP.o;refine b2r rfl _ rfl rfl h9 ?_;clear h9 lP))
 generalize nV (nV w _) _=V0 at *
 refine(HW.o V0 H0.o.b).mono ?_
 rintro e w1 ⟨rfl,bu⟩
 have H1:Qi _:=H0.o.go bu
 have l6:Qi _:=Aq (o:=0) (vs:=[Y aS W.m.s.length cS,Y aH W.m.h.length cH,Y aF W.m.f.length cF,Y aL W.m.l.length cL,O J W.m.w,Y aT W.t.length cT]) H1.o.bx rfl
 clear bu H0 HW
 go_wp2_with (have h9:=l6.o;refine F8 rfl _ rfl rfl h9 ?_;clear h9 l6)
 refine(HK.o w1 H1.o.a).mono ?_
 rintro e w2 ⟨rfl,dm⟩
 have H2:Qi _:=H1.o.go dm
 clear dm H1 HK
 have hq:=H2.o.bq
 have c7:w2.cell? ⟨w.heap.size+1,7,none⟩=some (O J a):=by rw[dN hq];rfl
 have c8:w2.cell? ⟨w.heap.size+1,8,none⟩=some (O J b):=by rw[dN hq];rfl
 have cl:w.heap.size+1<w2.heap.size:=fC hq
 have qV:=xU.o
 clear hq xU
 by_cases hT:Gy W n a b=0
 ·have AC:Qi _:=HR.o hT
  rcases qV with ⟨h0,hR⟩|⟨h0,⟨h1,hR⟩|⟨h1,⟨h2,hR⟩|⟨h2,⟨h3,hR⟩|⟨h3,⟨h4,hR⟩|⟨h4,hR⟩⟩⟩⟩⟩
  ·exact absurd (hR.symm.trans hT) h0
  ·exact absurd (hR.symm.trans hT) (by decide)
  ·exact absurd (hR.symm.trans hT) (by decide)
  ·exact absurd (hR.symm.trans hT) (by decide)
  ·exact absurd (hR.symm.trans hT) (by decide)
  rw[h0]
  clear h0 hR hT HR Hne
  go_wp2_with fail
  refine(Rl w2).mono ?_
  rintro e w3 ⟨rfl,gu⟩
  have H3:Qi _:=H2.o.go gu
  have l6:Qi _:=Aq (o:=0) (vs:=[Y aS W.m.s.length cS,Y aH W.m.h.length cH,Y aF W.m.f.length cF,Y aL W.m.l.length cL,O J W.m.w,Y aT W.t.length cT]) H3.o.bx rfl
  have lP:Qi _:=Aq (o:=0) (vs:=[O J p.s,O J p.c.k,O J p.c.a,O J p.c.b,O J p.c.t,O J p.c.q,O J p.c.h,O J a,O J b,O J p.e,O J p.h,O J p.n,Y aK p.t.length cK]) H3.o.bq rfl
  clear gu H2 c7 c8 cl
  go_wp2_with (first|(have h9:=l6.o;refine F8 rfl _ rfl rfl h9 ?_;clear h9 l6)|((fail_if_success (have:=l6.o));have h9:=lP.o;refine b2r rfl _ rfl rfl h9 ?_;clear h9 lP))
  refine(AC.o w3 H3.o.b).mono ?_
  rintro e w4 ⟨rfl,qK⟩
  have HB:Qi (Below w.heap.size w w4):=(H3.o.go qK).b
  clear qK H3 AC
  have CQ:(E==E)=true:=by simp
  have qJ:(N==N)=true:=by simp
  go_wp2
  go_ret
  exact⟨rfl,HB.o⟩
 ·obtain⟨rfl,hE⟩:=Hne.o hT
  have HT:Qi (E≠0):=by rw[hE];exact hT
  rw[<- hE] at qV
  clear hE hT Hne HR
  rcases qV with ⟨h0,hR⟩|⟨h0,⟨h1,hR⟩|⟨h1,⟨h2,hR⟩|⟨h2,⟨h3,hR⟩|⟨h3,⟨h4,hR⟩|⟨h4,hR⟩⟩⟩⟩⟩
  rotate_right
  ·exact absurd hR HT.o
  all_goals
   first|rw[h0] | (rw[<- hR] at h0 ⊢;clear hR)
   try subst hR
   clear HT
   try (have CQ:(E==E)=true:=by simp)
   go_wp2_with fail
   refine(Rl w2).mono ?_
   rintro e w3 ⟨rfl,gu⟩
   have H3:Qi _:=H2.o.go gu
   clear gu H2 c7 c8 cl
   go_wp2_with fail
   refine(Rl w3).mono ?_
   rintro e w4 ⟨rfl,qK⟩
   have HB:Qi (Below w.heap.size w w4):=(H3.o.go qK).b
   clear qK H3
   go_wp2
   go_ret
   exact⟨rfl,HB.o⟩
theorem b2h(aS aH aF aL:Option Addr)(cS cH cF cL:Nat)(aT:Option Addr)(cT:Nat)(w:Wq)(hv:Di 0 w (.agg #[Y aS W.m.s.length cS,Y aH W.m.h.length cH,Y aF W.m.f.length cF,Y aL W.m.l.length cL,O J W.m.w,Y aT W.t.length cT]) W)(hr:H8 w aP cP l) :
  aI Pg 10 #[Ew aS aH aF aL cS cH cF cL aT cT W,Y aP l.length cP,.agg #[O J p.s,O J p.c.k,O J p.c.a,O J p.c.b,O J p.c.t,O J p.c.q,O J p.c.h,O J a,O J b,O J p.e,O J p.h,O J p.n,Y aK p.t.length cK]] w fun e w'=>e=.returned (.bool true)/\Below w.heap.size w w':=by
 unfold Ew
 have hn:(l.length:Int)<=4611686018427387904:=by have:=hr.max;omega
 by_cases hT:Gy W l.length a b=0
 ·have qV:=Pn W l.length a b
  rcases qV with ⟨h0,hR⟩|⟨h0,⟨h1,hR⟩|⟨h1,⟨h2,hR⟩|⟨h2,⟨h3,hR⟩|⟨h3,⟨h4,hR⟩|⟨h4,hR⟩⟩⟩⟩⟩
  ·exact absurd (hR.symm.trans hT) h0
  ·exact absurd (hR.symm.trans hT) (by decide)
  ·exact absurd (hR.symm.trans hT) (by decide)
  ·exact absurd (hR.symm.trans hT) (by decide)
  ·exact absurd (hR.symm.trans hT) (by decide)
  obtain⟨f,rfl⟩:∃ f:Nat,a=f:=⟨a.toNat,by omega⟩
  obtain⟨t,rfl⟩:∃ t:Nat,b=t:=⟨b.toNat,by omega⟩
  exact Ze aP cP l.length hn p f t (Je W l ⟨p.s,p.c,f,t,p.e,p.h,p.n,p.t⟩).1 (Je W l ⟨p.s,p.c,f,t,p.e,p.h,p.n,p.t⟩).2 aK cK w hv
   (fun V hb=>a8u h0 l aP cP ⟨p.s,p.c,f,t,p.e,p.h,p.n,p.t⟩ aK cK V (hv.below hb) (hr.below hb) (by omega) (by show f<=t;omega) (by show t<l.length;omega)) (fun h=>absurd hT h)
   (fun _ V hb=>a2q h0 l aP cP ⟨p.s,p.c,f,t,p.e,p.h,p.n,p.t⟩ aK cK V (hv.below hb) (hr.below hb) (by omega) (by show f<=t;omega) (by show t<l.length;omega))
 ·exact Ze aP cP l.length hn p a b 0 (Gy W l.length a b) aK cK w hv (fun V hb=>a2p aP cP l.length hn p a b hT aK cK V (hv.below hb)) (fun _=>⟨rfl,rfl⟩) (fun h=>absurd h hT)
end Go.Proofs.YthhgoenomehobaaGreat.mm
