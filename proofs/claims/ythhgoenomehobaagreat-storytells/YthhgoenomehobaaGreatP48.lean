/- Parts. -/
import Derived.Test.YthhgoenomehobaaGreatP47
import Derived.Test.YthhgoenomehobaaGreatP46
import Derived.Laws.EntriesVeiled
namespace Go.Proofs.YthhgoenomehobaaGreat.mm
open Go renaming lt_of_block → fC, heap_alloc_new → fP, World → Wq
set_option maxRecDepth 100000
set_option linter.unusedVariables false
open Value renaming int → O, slice → Y
open IntKind renaming i64 → J
open Tryz renaming prog → Pg
open ChangeShapes WideShapes ChangeAt RowKit Joins Deep Maps
set_option maxHeartbeats 0
def Je(W:Wd)(l:List Pk)(p:Pst):Int × Int :=
 if inE W (l.take (p.to+1))≠0 then (0,inE W (l.take (p.to+1))) else if wit W (l.take (p.to+1)) p (p.to+1)=-1 then (0,5) else (wit W (l.take (p.to+1)) p (p.to+1),0)
theorem Vb(W:Wd)(l:List Pk)(p:Pst):(inE W (l.take (p.to+1))≠0/\(Je W l p).1=0/\(Je W l p).2=inE W (l.take (p.to+1))) \/
  (inE W (l.take (p.to+1))=0/\wit W (l.take (p.to+1)) p (p.to+1)=-1/\(Je W l p).1=0/\(Je W l p).2=5)\/(inE W (l.take (p.to+1))=0/\wit W (l.take (p.to+1)) p (p.to+1) ≠ -1/\(Je W l p).1=wit W (l.take (p.to+1)) p (p.to+1)/\(Je W l p).2=0):=by
 unfold Je
 by_cases h0:inE W (l.take (p.to+1))=0
 ·rw[ae (by simpa using h0)]
  by_cases h1:wit W (l.take (p.to+1)) p (p.to+1)=-1
  ·rw[af h1];exact .inr (.inl ⟨h0,h1,rfl,rfl⟩)
  ·rw[ae h1];exact .inr (.inr ⟨h0,h1,rfl,rfl⟩)
 ·rw[af h0];exact .inl ⟨h0,rfl,rfl⟩
theorem a8u{W0:Wd}(I:wE W0=0)(l:List Pk)(aP:Option Addr)(cP:Nat)(p:Pst)(aK:Option Addr)(cK:Nat){aS aH aF aL:Option Addr}{cS cH cF cL:Nat}{aT:Option Addr}{cT:Nat}(w:Wq)(hv:Di 0 w (.agg #[Y aS W0.m.s.length cS,Y aH W0.m.h.length cH,Y aF W0.m.f.length cF,Y aL W0.m.l.length cL,O J W0.m.w,Y aT W0.t.length cT]) W0)(hr:H8 w aP cP l)(hl:l.length<=300)(h1:p.fro<=p.to)(h2:p.to<l.length) :
  Calls Pg 41 #[Ew aS aH aF aL cS cH cF cL aT cT W0,Y aP l.length cP,Oo p aK cK] w fun e w'=>e=.returned (.tuple #[O J (Je W0 l p).1,O J (Je W0 l p).2])/\Below w.heap.size w w':=by
 unfold Ew Oo
 have qV:=Vb W0 l p
 obtain⟨N9,QT⟩:∃ n,n=(Je W0 l p).1:=⟨_,rfl⟩
 obtain⟨E9,QW⟩:∃ n,n=(Je W0 l p).2:=⟨_,rfl⟩
 obtain⟨R,hR⟩:∃ R,R=wit W0 (l.take (p.to+1)) p (p.to+1):=⟨_,rfl⟩
 obtain⟨E,hE⟩:∃ E,E=inE W0 (l.take (p.to+1)):=⟨_,rfl⟩
 rw[<- QT,<- QW,<- hR,<- hE] at qV
 rw[<- QT,<- QW]
 have xU:Qi _:=qV
 have HEe:Qi (E=inE W0 (l.take (p.to+1))):=hE
 clear qV QT QW hE
 have ht:Gy W0 l.length p.fro p.to=0:=by unfold Gy;rw[ae (by simpa using I),ae (by omega),ae (by omega)]
 have HL:Qi (H8 w aP cP (l.take (p.to+1))):=hr.take (by omega)
 have KN:Qi ((l.take (p.to+1)).length=p.to+1):=by show _=_;rw[List.length_take];omega
 have HN:Qi (aP=none->cP=0):=hr.nil
 have m1:=hr.max
 have m2:=hr.le
 have xg:Qi (R=wit W0 (l.take (p.to+1)) p (p.to+1)):=hR
 have Hh:Qi (p.fro<=p.to/\p.to<l.length/\l.length<=300):=⟨h1,h2,hl⟩
 have hto:p.to<300:=by omega
 have htc:p.to+1<=cP:=by omega
 obtain⟨ox,jq⟩:∃ o:Obj,o=.cells #[Y aS W0.m.s.length cS,Y aH W0.m.h.length cH,Y aF W0.m.f.length cF,Y aL W0.m.l.length cL,O J W0.m.w,Y aT W0.t.length cT] 28:=⟨_,rfl⟩
 obtain⟨op,qU⟩:∃ o:Obj,o=.cells #[O J p.s,O J p.c.k,O J p.c.a,O J p.c.b,O J p.c.t,O J p.c.q,O J p.c.h,O J p.fro,O J p.to,O J p.e,O J p.h,O J p.n,Y aK p.t.length cK] 78:=⟨_,rfl⟩
 have b0:Below w.heap.size w ((w.alloc ox).alloc op):=below_alloc2 _ _ _
 have ni:Qi (((w.alloc ox).alloc op).heap[w.heap.size]?=some ox):=by show _=_;rw[Below.heap_alloc _ _ _ (by simp),fP]
 have yQ:Qi (((w.alloc ox).alloc op).heap[w.heap.size+1]?=some op):=by
  have:=fP (w.alloc ox) op
  rwa [show (w.alloc ox).heap.size=w.heap.size+1 by simp] at this
 have lq:Qi (Di 0 ((w.alloc ox).alloc op) (.agg #[Y aS W0.m.s.length cS,Y aH W0.m.h.length cH,Y aF W0.m.f.length cF,Y aL W0.m.l.length cL,O J W0.m.w,Y aT W0.t.length cT]) W0):=hv.below b0
 have WU:Qi (WIn 0 w.heap.size w (.agg #[Y aS W0.m.s.length cS,Y aH W0.m.h.length cH,Y aF W0.m.f.length cF,Y aL W0.m.l.length cL,O J W0.m.w,Y aT W0.t.length cT]) W0):=hv.wIn
 have uu:Qi (Below w.heap.size w ((w.alloc ox).alloc op)):=b0
 have l6:Qi (((w.alloc (.cells #[Y aS W0.m.s.length cS,Y aH W0.m.h.length cH,Y aF W0.m.f.length cF,Y aL W0.m.l.length cL,O J W0.m.w,Y aT W0.t.length cT] 28)).alloc (.cells #[O J p.s,O J p.c.k,O J p.c.a,O J p.c.b,O J p.c.t,O J p.c.q,O J p.c.h,O J p.fro,O J p.to,O J p.e,O J p.h,O J p.n,Y aK p.t.length cK] 78)).rangeAt w.heap.size 0 [Y aS W0.m.s.length cS,Y aH W0.m.h.length cH,Y aF W0.m.f.length cF,Y aL W0.m.l.length cL,O J W0.m.w,Y aT W0.t.length cT]):=by subst jq qU;exact Aq ni.o rfl
 have lP:Qi (((w.alloc (.cells #[Y aS W0.m.s.length cS,Y aH W0.m.h.length cH,Y aF W0.m.f.length cF,Y aL W0.m.l.length cL,O J W0.m.w,Y aT W0.t.length cT] 28)).alloc (.cells #[O J p.s,O J p.c.k,O J p.c.a,O J p.c.b,O J p.c.t,O J p.c.q,O J p.c.h,O J p.fro,O J p.to,O J p.e,O J p.h,O J p.n,Y aK p.t.length cK] 78)).rangeAt (w.heap.size+1) 0 (p.enc aK cK)):=by subst jq qU;exact Aq yQ.o rfl
 have Ht:Qi _:=ht
 clear I hv hr hl h1 h2 hR b0 ht
 go_enter Tryz.func41,Tryz.ntmps41
 go_wp2_with (first|refine F8 rfl _ rfl rfl l6.o ?_|refine a8v rfl _ rfl rfl lP.o ?_)
 rw[<- jq,<- qU]
 rw[<- jq,<- qU] at l6 lP
 clear l6 lP
 generalize (w.alloc ox).alloc op=V0 at *
 subst jq qU
 have BI:=Wp lq.o aP cP l.length (by have:=Hh.o;omega) p p.fro p.to aK cK
 rw[Ht.o] at BI
 refine BI.mono ?_
 clear BI Ht
 rintro e w1 ⟨rfl,bu⟩
 have ug:Qi (w1.heap[w.heap.size]?=some (.cells #[Y aS W0.m.s.length cS,Y aH W0.m.h.length cH,Y aF W0.m.f.length cF,Y aL W0.m.l.length cL,O J W0.m.w,Y aT W0.t.length cT] 28 (0,0))):=(bu.block _ (fC ni.o)).trans ni.o
 have KI:Qi (w1.heap[w.heap.size+1]?=some (.cells #[O J p.s,O J p.c.k,O J p.c.a,O J p.c.b,O J p.c.t,O J p.c.q,O J p.c.h,O J p.fro,O J p.to,O J p.e,O J p.h,O J p.n,Y aK p.t.length cK] 78 (0,0))):=(bu.block _ (fC yQ.o)).trans yQ.o
 have qZ:Qi (Below w.heap.size w w1):=uu.o.trans (bu.mono uu.o.size)
 clear bu ni yQ lq uu
 have lP:Qi (w1.rangeAt (w.heap.size+1) 0 (p.enc aK cK)):=Aq KI.o rfl
 go_wp2_with (refine a8v rfl _ rfl rfl lP.o ?_)
 refine(b1z p aK cK w1).mono ?_
 rintro e w2 ⟨v2,rfl,FX,dm⟩
 obtain⟨F2,FB,rfl,-,-⟩:=id FX.ex
 have GY:Qi (RuF w2 (.func (.func F2) #[] FB) (Ph p)):=FX
 have sZ:Qi (w2.heap[w.heap.size]?=_):=(dm.block _ (fC ug.o)).trans ug.o
 have IB:Qi (w2.heap[w.heap.size+1]?=_):=(dm.block _ (fC KI.o)).trans KI.o
 have uo:Qi (Below w.heap.size w w2):=qZ.o.trans (dm.mono qZ.o.size)
 clear FX dm ug KI qZ lP
 obtain⟨o1,vC⟩:∃ o:Obj,o=.cells #[O J (-1)] 3:=⟨_,rfl⟩
 obtain⟨o2,jk⟩:∃ o:Obj,o=.cells #[.func (.func F2) #[] FB] 135:=⟨_,rfl⟩
 have gu:Below w2.heap.size w2 ((w2.alloc o1).alloc o2):=below_alloc2 _ _ _
 have yO:Qi (((w2.alloc o1).alloc o2).heap[w.heap.size]?=some (.cells #[Y aS W0.m.s.length cS,Y aH W0.m.h.length cH,Y aF W0.m.f.length cF,Y aL W0.m.l.length cL,O J W0.m.w,Y aT W0.t.length cT] 28 (0,0))):=(gu.block _ (fC sZ.o)).trans sZ.o
 have KH:Qi (((w2.alloc o1).alloc o2).heap[w.heap.size+1]?=some (.cells #[O J p.s,O J p.c.k,O J p.c.a,O J p.c.b,O J p.c.t,O J p.c.q,O J p.c.h,O J p.fro,O J p.to,O J p.e,O J p.h,O J p.n,Y aK p.t.length cK] 78 (0,0))):=(gu.block _ (fC IB.o)).trans IB.o
 have H13:Qi (((w2.alloc o1).alloc o2).heap[w2.heap.size]?=some o1):=by show _=_;rw[Below.heap_alloc _ _ _ (by simp),fP]
 have H23:Qi (((w2.alloc o1).alloc o2).heap[w2.heap.size+1]?=some o2):=by
  have:=fP (w2.alloc o1) o2
  rwa [show (w2.alloc o1).heap.size=w2.heap.size+1 by simp] at this
 have PG:Qi (Below w2.heap.size w2 ((w2.alloc o1).alloc o2)):=gu
 have vH:Qi (Below w.heap.size w ((w2.alloc o1).alloc o2)):=uo.o.trans (gu.mono uo.o.size)
 have pq:w.heap.size+1<w2.heap.size:=fC IB.o
 clear sZ IB uo gu
 go_wp2_with fail
 rw[<- vC,<- jk]
 generalize (w2.alloc o1).alloc o2=V3 at *
 subst vC jk
 have HT:Qi (∀ V,Below V3.heap.size V3 V->Calls Pg 91 #[Ew aS aH aF aL cS cH cF cL aT cT W0,Y aP (p.to+1) cP,.agg #[O J p.c.a,O J p.c.b],.func (.func 92) #[] #[.pointer (some ⟨w2.heap.size,0,none⟩),.pointer (some ⟨w.heap.size+1,0,none⟩),.pointer (some ⟨w2.heap.size+1,0,none⟩)]] V fun e w'=>e=.returned (O J E)/\(E=0->w'.heap[w2.heap.size]?=some (.cells #[O J R] 3 (0,0)))/\Below w.heap.size w w'):=fun V hb=>by
  have QE:=fC H13.o
  have hz4:=fC H23.o
  have hz5:=hb.size
  have EX:Below w.heap.size w V:=vH.o.trans (hb.mono vH.o.size)
  obtain⟨Jq,hJ⟩:∃ Jq:Nat->Wq->Prop,Jq=fun k W=>W.heap[w2.heap.size]?=some (.cells #[O J (wit W0 (l.take (p.to+1)) p k)] 3 (0,0))/\W.heap[w.heap.size+1]?=some (.cells #[O J p.s,O J p.c.k,O J p.c.a,O J p.c.b,O J p.c.t,O J p.c.q,O J p.c.h,O J p.fro,O J p.to,O J p.e,O J p.h,O J p.n,Y aK p.t.length cK] 78 (0,0))/\W.heap[w2.heap.size+1]?=some (.cells #[.func (.func F2) #[] FB] 135 (0,0))/\Below w2.heap.size w2 W:=⟨_,rfl⟩
  have h:=a2c (W0:=W0) 92 #[.pointer (some ⟨w2.heap.size,0,none⟩),.pointer (some ⟨w.heap.size+1,0,none⟩),.pointer (some ⟨w2.heap.size+1,0,none⟩)] fn92 w2.heap.size Jq (l.take (p.to+1)) aP cP p.c.a p.c.b 0 w.heap.size aS aH aF aL cS cH cF cL aT cT V (WU.o.same fun j _ h=>EX.block j h) EX.size (by omega) (by omega) (HL.o.below EX) (fun h0 ad e=>by
    rcases HL.o.at_ with h1|⟨b,o,e',hc⟩
    ·omega
    ·rw[e'] at e;cases e
     have:=cell_lt (hc 0 h0 0 _ rfl)
     dsimp only at this ⊢
     omega) (by rw[KN.o];omega)
   (by rw[hJ];exact⟨(hb.block _ QE).trans H13.o,(hb.block _ (fC KH.o)).trans KH.o,(hb.block _ hz4).trans H23.o,PG.o.trans (hb.mono PG.o.size)⟩)
   (fun k W W' hj hf=>by
    rw[hJ] at hj ⊢
    obtain⟨j1,j2,j3,j4⟩:=hj
    exact⟨(hf.block _ (fC j1) (by omega)).trans j1,(hf.block _ (fC j2) (by omega)).trans j2,(hf.block _ (fC j3) (by omega)).trans j3,j4.trans (hf.down j4.size (fun k hk=>by omega))⟩)
   (fun k x y W hj hk hx hy=>by
    rw[hJ] at hj
    obtain⟨j1,j2,j3,j4⟩:=hj
    refine(lit92 p aK cK w2.heap.size (w.heap.size+1) (w2.heap.size+1) _ k x y (Ph p) _ W w2 j1 j2 j3 GY.o j4).mono ?_
    rintro e W' ⟨h1,h2,h3⟩
    refine⟨h1,?_,h3⟩
    rw[hJ]
    subst hx hy
    exact⟨h2,(h3.block _ (fC j2) (by omega)).trans j2,(h3.block _ (fC j3) (by omega)).trans j3,j4.trans (h3.down j4.size (fun k hk=>by omega))⟩)
  rw[KN.o] at h
  refine h.mono ?_
  rintro e W' ⟨h1,h2,h3⟩
  rw[<- HEe.o] at h1 h2
  rw[hJ] at h2
  refine⟨h1,fun h0=>by rw[xg.o];exact(h2 h0).1,EX.trans (h3.down EX.size (fun k hk=>by omega))⟩
 obtain⟨y0,y1,y2,y3,y4,y5,ys⟩:=Bh yO.o
 have c8:=(Q8 KH.o).2.2.1
 have k2:V3.cell? ⟨w.heap.size+1,2,none⟩=some (O J p.c.a):=by rw[cell_of_block KH.o];rfl
 have k3:V3.cell? ⟨w.heap.size+1,3,none⟩=some (O J p.c.b):=by rw[cell_of_block KH.o];rfl
 have TS:wrap64 ((p.to:Int)+1)=((p.to+1:Nat):Int):=by unfold wrap64;omega
 have TR:IntKind.i64.wrap ((p.to:Int)+1)=((p.to+1:Nat):Int):=by rw[IntKind.wrap_i64];omega
 clear yO KH H13 H23 vH PG GY WU HL KN xg
 go_region_with (go_at_call 91;refine(HT.o _ (by exact⟨rfl,rfl,rfl,Nat.le_refl _,fun _ _=>rfl⟩)).mono ?_;rintro e w5 ⟨rfl,h5,tY⟩)
 all_goals
  have JX:Qi (Below w.heap.size w w5):=tY
  clear tY HT y0 y1 y2 y3 y4 y5 ys c8 k2 k3 HEe
  rcases xU.o with ⟨q0,q1,q2⟩|⟨q0,q1,q2,q3⟩|⟨q0,q1,q2,q3⟩
  ·subst q1 q2
   clear h5 xU
   go_wp2
   go_ret2
   exact⟨rfl,JX.o⟩
  ·obtain⟨d0,-,dl⟩:=Aw (h5 q0)
   rw[q1] at d0
   subst q0 q2 q3
   clear h5 xU
   go_wp2
   go_ret2
   exact⟨rfl,JX.o⟩
  ·obtain⟨d0,-,dl⟩:=Aw (h5 q0)
   have q1':(R == -1)=false:=by simpa using q1
   subst q0 q2 q3
   clear h5 xU
   go_wp2
   go_ret2
   exact⟨rfl,JX.o⟩
end Go.Proofs.YthhgoenomehobaaGreat.mm
