/- Parts. -/
import Derived.Test.YthhgoenomehobaaGreatS39
import Derived.Test.YthhgoenomehobaaGreatS03
import Derived.Test.YthhgoenomehobaaGreatS02
namespace Go.Proofs.YthhgoenomehobaaGreat.mm
set_option maxRecDepth 100000
set_option linter.unusedVariables false
open Go.Value renaming int → O, slice → Y
open Go.IntKind renaming i64 → J
section
open Go.ChangeShapes Go.WideShapes Go.ChangeAt Go.RowKit Go.Joins Go.Deep Go.Maps
theorem Zk{W:Wd}(I:Bi W){x:Pk}{lo:Nat}{V:World}{aS aH aF aL:Option Addr}{cS cH cF cL:Nat}{aT:Option Addr}{cT:Nat}(h:Gh lo V (.agg #[Y aS W.m.slots.length cS,Y aH W.m.heads.length cH,Y aF W.m.free.length cF,Y aL W.m.locks.length cL,O J W.m.now,Y aT W.ts.length cT]) W) :
  Calls Tryz.prog 15 #[.agg #[Y aS W.m.slots.length cS,Y aH W.m.heads.length cH,Y aF W.m.free.length cF,Y aL W.m.locks.length cL,O J W.m.now,Y aT W.ts.length cT],.agg #[O J x.Bc,.bool x.step,.bool x.tick,O J x.c.kind,O J x.c.a,O J x.c.b,O J x.c.time,O J x.c.bk,O J x.c.slot]] V fun e V'=>∃ v,e=.returned (.tuple #[v,O J (doE W x)])/\Gh V.heap.size V' v (if doE W x=0 then doW W x else w0W)/\Below V.heap.size V V':=by
 obtain⟨bS,bH,bF,bL,dS,dH,dF,dL,bT,dT,lt,e,A,hi,hts,hT,hTh⟩:=h
 have e1:=Value.agg.inj e
 simp only[Array.mk.injEq,List.cons.injEq,Value.slice.injEq,true_and,and_true] at e1
 obtain⟨⟨rfl,rfl⟩,⟨rfl,rfl⟩,⟨rfl,rfl⟩,⟨rfl,rfl⟩,rfl,rfl⟩:=e1
 have h:=b8e W.m lt x aS aH aF aL cS cH cF cL aT cT V A hT
 have hts':lt.length=W.ts.length:=by rw[hts,List.length_map]
 rw[<- hts,hts'] at h
 refine h.mono ?_
 rintro e w' ⟨v,rfl,h1,h2⟩
 rw[I.DoE] at h1 ⊢
 exact⟨v,rfl,h1,h2⟩
theorem b6d{W:Wd}(I:Bi W){lo:Nat}{V:World}{aS aH aF aL:Option Addr}{cS cH cF cL:Nat}{aT:Option Addr}{cT:Nat}(h:Gh lo V (.agg #[Y aS W.m.slots.length cS,Y aH W.m.heads.length cH,Y aF W.m.free.length cF,Y aL W.m.locks.length cL,O J W.m.now,Y aT W.ts.length cT]) W) :
  Calls Tryz.prog 57 #[.agg #[Y aS W.m.slots.length cS,Y aH W.m.heads.length cH,Y aF W.m.free.length cF,Y aL W.m.locks.length cL,O J W.m.now,Y aT W.ts.length cT]] V fun e V'=>∃ v,e=.returned v/\Gh V.heap.size V' v W/\Below V.heap.size V V':=by
 obtain⟨bS,bH,bF,bL,dS,dH,dF,dL,bT,dT,lt,e,A,hi,hts,hT,hTh⟩:=h
 have e1:=Value.agg.inj e
 simp only[Array.mk.injEq,List.cons.injEq,Value.slice.injEq,true_and,and_true] at e1
 obtain⟨⟨rfl,rfl⟩,⟨rfl,rfl⟩,⟨rfl,rfl⟩,⟨rfl,rfl⟩,rfl,rfl⟩:=e1
 have hts':lt.length=W.ts.length:=by rw[hts,List.length_map]
 have h:=a5c W.m lt aS aH aF aL cS cH cF cL aT cT V A hT (by have:=I.nt.1;omega) (by have:=I.nt.2;omega) (fun p hp=>by
  have:=(I.held p.1 (by rw[hts];exact List.mem_map_of_mem hp)).1
  omega)
 rw[<- hts,hts'] at h
 refine h.mono ?_
 intro e w' h
 exact h.wans A.s.max A.h.max A.f.max A.l.max
theorem b8f{W:Wd}{x:Pk}(h:doE W x=0):(doW W x).ts.length=W.ts.length/\(x.tick=false->0<=x.Bc/\x.Bc<W.ts.length):=by
 rcases a8b h with ⟨ht,-,e⟩|⟨ht,-,hr,-,-,e⟩|⟨ht,-,hr,-,-,-,-,-,e⟩
 ·rw[e,ht];exact⟨rfl,fun h=>by cases h⟩
 ·rw[e];exact⟨by simp,fun _=>hr⟩
 ·rw[e];exact⟨by simp,fun _=>hr⟩
theorem Na.low{w w':World}{lo:Nat}{ao:Option Addr}{cap:Nat}{l:List Pk}(r:Na w ao cap l)(hb:Below lo w w')(hl:∀ ad,ao=some ad->ad.block<lo):Na w' ao cap l:=by
 refine⟨r.le,r.max,r.nil,?_⟩
 rcases r.at_ with h|⟨b,o,h,hc⟩
 ·exact .inl h
 ·exact .inr ⟨b,o,h,fun i hi=>Fq (hc i hi) hb (hl _ h)⟩
theorem a1b(x:Pk)(e:Int)(i:Nat)(beg:List Nat):(Ux x e i beg).length=beg.length:=by
 unfold Ux
 repeat' split
 all_goals simp
theorem a1c(x:Pk)(e:Int)(i:Nat)(beg:List Nat)(W:Wd)(past:List Pst):(Uy x e i beg W past).length<=past.length+1:=by
 unfold Uy
 repeat' split
 all_goals simp
set_option maxHeartbeats 4000000 in
theorem a2y(lo:Nat)(w:World)(B1 B2 B3 B4 g:Nat)(aP:Option Addr)(cP:Nat)(l:List Pk)(v1 v4:Value)(beg:List Nat)(Zx:List (Nat × Array Value))(W0:Wd)(v:Value)
  (hI:Bi W0) (hv:Gh 0 w v W0) (h:Cs lo 0 0 w B1 B2 B3 B4 g v1 (Y aP l.length cP) v4 [] [] beg Zx) (hr:Na w aP cP l) (hrl:0<l.length->∀ ad,aP=some ad->ad.block<lo) (hl:l.length<=300) (hbl:beg.length=W0.ts.length) (hlo:lo<=w.heap.size) :
  Calls Tryz.prog 79 #[v,Y aP l.length cP,.func (.func 80) #[] #[.pointer (some ⟨B1,0,none⟩),.pointer (some ⟨B2,0,none⟩),.pointer (some ⟨B3,0,none⟩),.pointer (some ⟨B4,0,none⟩)]] w (TurnP lo w.heap.size w B1 B2 B3 B4 g (Y aP l.length cP) (Qv 0 ⟨W0,[],[],beg⟩ l) Zx):=by
 have m1:=hr.max
 have m2:=hr.le
 have HR:Hid (Na w aP cP l):=hr
 have HRl:Hid (0<l.length->∀ ad,aP=some ad->ad.block<lo):=hrl
 have HI0:Hid (Bi W0):=hI
 have Hlo:Hid (lo<=w.heap.size):=hlo
 have Hl:Hid (l.length<=300):=hl
 obtain⟨s0,hs0⟩:∃ s0:Rs,s0=⟨W0,[],[],beg⟩:=⟨_,rfl⟩
 rw[<- hs0]
 obtain⟨sE,hsE⟩:∃ sE:Rs,sE=Qv 0 s0 l:=⟨_,rfl⟩
 rw[<- hsE]
 have HsE:Hid (Qv 0 s0 (l.drop 0)=sE):=by show _=_;rw[hsE];rfl
 have Hs0:Hid (s0=⟨W0,[],[],beg⟩):=hs0
 have HC0:Hid (Cs lo 0 0 w B1 B2 B3 B4 g v1 (Y aP l.length cP) v4 [] [] beg Zx):=h
 have HZx:Hid (∀ q∈Zx,q.1<w.heap.size):=fun q hq=>lt_of_block (h.z q hq)
 have HBl:Hid (beg.length=W0.ts.length):=hbl
 obtain⟨aS,aH,aF,aL,cS,cH,cF,cL,aT,cT,lt,rfl,-⟩:=id hv
 obtain⟨ox,hox⟩:∃ o:Obj,o=.cells #[Y aS W0.m.slots.length cS,Y aH W0.m.heads.length cH,Y aF W0.m.free.length cF,Y aL W0.m.locks.length cL,O J W0.m.now,Y aT W0.ts.length cT] 28:=⟨_,rfl⟩
 obtain⟨oy,hoy⟩:∃ o:Obj,o=.cells #[Y none 0 0,Y none 0 0,Y none 0 0,Y none 0 0,O J 0,Y none 0 0] 28:=⟨_,rfl⟩
 have b0:Below w.heap.size w ((w.alloc ox).alloc oy):=below_alloc2 w ox oy
 have HX0:Hid (((w.alloc ox).alloc oy).heap[w.heap.size]?=some ox):=by show _=_;rw[Below.heap_alloc _ _ _ (by simp),heap_alloc_new]
 have HY0:Hid (((w.alloc ox).alloc oy).heap[w.heap.size+1]?=some oy):=by
  have:=heap_alloc_new (w.alloc ox) oy
  rwa [show (w.alloc ox).heap.size=w.heap.size+1 by simp] at this
 have HV0:Hid (Gh 0 ((w.alloc ox).alloc oy) (.agg #[Y aS W0.m.slots.length cS,Y aH W0.m.heads.length cH,Y aF W0.m.free.length cF,Y aL W0.m.locks.length cL,O J W0.m.now,Y aT W0.ts.length cT]) W0):=hv.below b0
 have Hb0:Hid (Below w.heap.size w ((w.alloc ox).alloc oy)):=b0
 have hz0:w.heap.size+2=((w.alloc ox).alloc oy).heap.size:=by simp
 clear hI hv h hr hrl hbl hs0 hsE hlo b0
 go_enter Tryz.func79,Tryz.ntmps79
 have l6:Hid (((w.alloc (.cells #[Y aS W0.m.slots.length cS,Y aH W0.m.heads.length cH,Y aF W0.m.free.length cF,Y aL W0.m.locks.length cL,O J W0.m.now,Y aT W0.ts.length cT] 28)).alloc (.cells #[Y none 0 0,Y none 0 0,Y none 0 0,Y none 0 0,O J 0,Y none 0 0] 28)).rangeAt w.heap.size 0 [Y aS W0.m.slots.length cS,Y aH W0.m.heads.length cH,Y aF W0.m.free.length cF,Y aL W0.m.locks.length cL,O J W0.m.now,Y aT W0.ts.length cT]):=by subst hox hoy;exact Bz HX0.out rfl
 go_wp2_with (refine Ky rfl _ rfl rfl l6.out ?_)
 rw[<- hox,<- hoy]
 rw[<- hox,<- hoy] at l6
 clear l6
 generalize (w.alloc ox).alloc oy=W1 at *
 subst hox hoy
 refine(b6d HI0.out HV0.out).mono ?_
 rintro e w2 ⟨v2,rfl,hv2,hb2⟩
 obtain⟨aS2,aH2,aF2,aL2,cS2,cH2,cF2,cL2,aT2,cT2,lt2,rfl,-⟩:=id hv2
 have HX2:Hid (w2.heap[w.heap.size]?=_):=(hb2.block _ (lt_of_block HX0.out)).trans HX0.out
 have HY2:Hid (w2.heap[w.heap.size+1]?=_):=(hb2.block _ (lt_of_block HY0.out)).trans HY0.out
 have t6:Hid (w2.there w.heap.size 0 6):=Dn HX2.out (by simp)
 have hz2:=hb2.size
 have Hb2:Hid (Below w.heap.size w w2):=Hb0.out.trans (hb2.mono Hb0.out.size)
 obtain⟨W3,hW3⟩:∃ W3,W3=w2.setCells w.heap.size 0 [Y aS2 W0.m.slots.length cS2,Y aH2 W0.m.heads.length cH2,Y aF2 W0.m.free.length cF2,Y aL2 W0.m.locks.length cL2,O J W0.m.now,Y aT2 W0.ts.length cT2]:=⟨_,rfl⟩
 have ho3:∀ k,k≠w.heap.size->W3.heap[k]?=w2.heap[k]?:=fun k hk=>by rw[hW3];exact Ae hk _ _ _
 have hX3:W3.heap[w.heap.size]?=some (.cells #[Y aS2 W0.m.slots.length cS2,Y aH2 W0.m.heads.length cH2,Y aF2 W0.m.free.length cF2,Y aL2 W0.m.locks.length cL2,O J W0.m.now,Y aT2 W0.ts.length cT2] 28 (0,0)):=by rw[hW3];exact D5 HX2.out rfl
 have hY3:W3.heap[w.heap.size+1]?=some (.cells #[Y none 0 0,Y none 0 0,Y none 0 0,Y none 0 0,O J 0,Y none 0 0] 28 (0,0)):=(ho3 _ (by omega)).trans HY2.out
 have hsz3:W3.heap.size=w2.heap.size:=by rw[hW3];exact setCells_size _ _ _
 have HWi:Hid (WIn W1.heap.size w2.heap.size W3 (.agg #[Y aS2 W0.m.slots.length cS2,Y aH2 W0.m.heads.length cH2,Y aF2 W0.m.free.length cF2,Y aL2 W0.m.locks.length cL2,O J W0.m.now,Y aT2 W0.ts.length cT2]) W0):=hv2.wIn.same fun k h1 h2=>ho3 k (by omega)
 have Hb3:Hid (Below lo w W3):=by
  have h1:Below w.heap.size w W3:=by rw[hW3];exact Bq Hb2.out (Nat.le_refl _)
  exact h1.mono Hlo.out
 have HC3:Hid (Cs lo W1.heap.size w2.heap.size W3 B1 B2 B3 B4 g v1 (Y aP l.length cP) v4 [] [] beg ((w.heap.size,#[Y aS2 W0.m.slots.length cS2,Y aH2 W0.m.heads.length cH2,Y aF2 W0.m.free.length cF2,Y aL2 W0.m.locks.length cL2,O J W0.m.now,Y aT2 W0.ts.length cT2]) :: (w.heap.size+1,#[Y none 0 0,Y none 0 0,Y none 0 0,Y none 0 0,O J 0,Y none 0 0]) :: Zx)):=by
  have h1:Cs lo W1.heap.size w2.heap.size W1 B1 B2 B3 B4 g v1 (Y aP l.length cP) v4 [] [] beg Zx:=(HC0.out.below Hb0.out).turn _
  have h2:=(h1.below hb2).off HX2.out ho3 (fun q hq=>by have:=HZx.out q hq;omega)
  refine h2.more fun q hq=>?_
  simp only[List.mem_cons] at hq
  rcases hq with rfl|rfl|hq
  ·exact hX3
  ·exact hY3
  ·exact h2.z q hq
 clear ho3 hX3 hY3 HX0 HY0 HV0 Hb0 HX2 HY2 hv2 hb2 Hb2 HC0
 go_wp2_with (refine Qd rfl _ _ rfl rfl rfl t6.out (by kernel_rfl) ?_;rw[<- hW3];clear t6 hW3)
 have HZ3:Hid (w.heap.size+1<W1.heap.size/\w2.heap.size<=W3.heap.size):=⟨by omega,by omega⟩
 go_loopw [15] (fun i wr=>∃ (k:Nat) (s:Rs) (a b:Nat) (v1 v4:Value) (pl:List (Pst × Option Addr × Nat)) (aS aH aF aL:Option Addr) (cS cH cF cL:Nat) (aT:Option Addr) (cT:Nat),k<=l.length/\i=O J k/\Hid (Qv k s (l.drop k)=sE)/\Hid (Bi s.w)/\Hid (Cs lo a b wr B1 B2 B3 B4 g v1 (Y aP l.length cP) v4 s.said pl s.beg ((w.heap.size,#[Y aS s.w.m.slots.length cS,Y aH s.w.m.heads.length cH,Y aF s.w.m.free.length cF,Y aL s.w.m.locks.length cL,O J s.w.m.now,Y aT s.w.ts.length cT]) :: (w.heap.size+1,#[Y none 0 0,Y none 0 0,Y none 0 0,Y none 0 0,O J 0,Y none 0 0]) :: Zx))/\Hid (pl.map (·.1)=s.past)/\Hid (WIn a b wr (.agg #[Y aS s.w.m.slots.length cS,Y aH s.w.m.heads.length cH,Y aF s.w.m.free.length cF,Y aL s.w.m.locks.length cL,O J s.w.m.now,Y aT s.w.ts.length cT]) s.w)/\Hid (Below lo w wr)/\Hid (w.heap.size+1<a/\b<=wr.heap.size)/\Hid (s.said.length=k/\pl.length<=k/\s.beg.length=s.w.ts.length)) (fun i _=>l.length - (intOf i).toNat)
 case atStart=>exact⟨0,s0,W1.heap.size,w2.heap.size,v1,v4,[],aS2,aH2,aF2,aL2,cS2,cH2,cF2,cL2,aT2,cT2,Nat.zero_le _,rfl,HsE,by rw[Hs0.out];exact HI0,by rw[Hs0.out];exact HC3,by rw[Hs0.out];exact rfl,by rw[Hs0.out];exact HWi,Hb3,HZ3,by rw[Hs0.out];exact⟨rfl,Nat.le_refl _,HBl.out⟩⟩
 case round =>
  obtain⟨k,s,a,b,v1,v4,pl,aS,aH,aF,aL,cS,cH,cF,cL,aT,cT,hk,rfl,HrE,HIw,HC,HPl,HWi',Hb,HZ,HN⟩:=hrel
  clear HC3 HWi Hb3 HZ3 HsE Hs0 HI0 HBl
  have HXb:Hid (wr.heap[w.heap.size]?=some (.cells #[Y aS s.w.m.slots.length cS,Y aH s.w.m.heads.length cH,Y aF s.w.m.free.length cF,Y aL s.w.m.locks.length cL,O J s.w.m.now,Y aT s.w.ts.length cT] 28 (0,0))):=HC.out.z _ (.head _)
  have HYb:Hid (wr.heap[w.heap.size+1]?=some (.cells #[Y none 0 0,Y none 0 0,Y none 0 0,Y none 0 0,O J 0,Y none 0 0] 28 (0,0))):=HC.out.z _ (.tail _ (.head _))
  by_cases hlt:k<l.length
  ·have HRk:Hid (∀ ad,aP=some ad->ad.block<lo):=HRl.out (by omega)
   clear HRl
   rcases HR.out.at_ with h0|⟨bP,oP,rfl,hx⟩
   ·omega
   have hbP:bP<lo:=HRk.out _ rfl
   have lX:Hid (wr.rangeAt bP (oP+k*9) [O J (l[k]).Bc,.bool (l[k]).step,.bool (l[k]).tick,O J ((l[k]).c).kind,O J ((l[k]).c).a,O J ((l[k]).c).b,O J ((l[k]).c).time,O J ((l[k]).c).bk,O J ((l[k]).c).slot]):=Fq (hx k hlt) Hb.out hbP
   clear hx
   obtain⟨x,hx⟩:∃ x,x=l[k]:=⟨_,rfl⟩
   rw[<- hx] at lX
   have Hx:Hid (x=l[k]):=hx
   clear hx
   have hzw:lo<=wr.heap.size:=by have:=Hlo.out;have:=Hb.out.size;omega
   obtain⟨op,hop⟩:∃ o:Obj,o=.cells #[O J x.Bc,.bool x.step,.bool x.tick,O J x.c.kind,O J x.c.a,O J x.c.b,O J x.c.time,O J x.c.bk,O J x.c.slot] 34:=⟨_,rfl⟩
   have b2:Below wr.heap.size wr (wr.alloc op):=Ad _ _
   have HX2:Hid ((wr.alloc op).heap[w.heap.size]?=some (.cells #[Y aS s.w.m.slots.length cS,Y aH s.w.m.heads.length cH,Y aF s.w.m.free.length cF,Y aL s.w.m.locks.length cL,O J s.w.m.now,Y aT s.w.ts.length cT] 28 (0,0))):=(b2.block _ (lt_of_block HXb.out)).trans HXb.out
   have HP2:Hid ((wr.alloc op).heap[wr.heap.size]?=some op):=heap_alloc_new _ _
   have HC2:Hid (Cs lo a b (wr.alloc op) B1 B2 B3 B4 g v1 (Y (some ⟨bP,oP,none⟩) l.length cP) v4 s.said pl s.beg ((w.heap.size,#[Y aS s.w.m.slots.length cS,Y aH s.w.m.heads.length cH,Y aF s.w.m.free.length cF,Y aL s.w.m.locks.length cL,O J s.w.m.now,Y aT s.w.ts.length cT]) :: (w.heap.size+1,#[Y none 0 0,Y none 0 0,Y none 0 0,Y none 0 0,O J 0,Y none 0 0]) :: Zx)):=HC.out.below b2
   have HW2:Hid (WIn a b (wr.alloc op) (.agg #[Y aS s.w.m.slots.length cS,Y aH s.w.m.heads.length cH,Y aF s.w.m.free.length cF,Y aL s.w.m.locks.length cL,O J s.w.m.now,Y aT s.w.ts.length cT]) s.w):=HWi'.out.same fun j h1 h2=>b2.block j (by have:=HZ.out.2;omega)
   have Hb2:Hid (Below lo w (wr.alloc op)):=Hb.out.alloc hzw op
   have HZ2:Hid (w.heap.size+1<a/\b<=(wr.alloc op).heap.size/\w.heap.size+1<(wr.alloc op).heap.size):=⟨HZ.out.1,by have:=HZ.out.2;simp;omega,by have:=lt_of_block HYb.out;simp;omega⟩
   subst hop
   have l6:Hid ((wr.alloc (.cells #[O J x.Bc,.bool x.step,.bool x.tick,O J x.c.kind,O J x.c.a,O J x.c.b,O J x.c.time,O J x.c.bk,O J x.c.slot] 34)).rangeAt w.heap.size 0 [Y aS s.w.m.slots.length cS,Y aH s.w.m.heads.length cH,Y aF s.w.m.free.length cF,Y aL s.w.m.locks.length cL,O J s.w.m.now,Y aT s.w.ts.length cT]):=Bz HX2.out rfl
   have lX2:Hid ((wr.alloc (.cells #[O J x.Bc,.bool x.step,.bool x.tick,O J x.c.kind,O J x.c.a,O J x.c.b,O J x.c.time,O J x.c.bk,O J x.c.slot] 34)).rangeAt wr.heap.size 0 [O J x.Bc,.bool x.step,.bool x.tick,O J x.c.kind,O J x.c.a,O J x.c.b,O J x.c.time,O J x.c.bk,O J x.c.slot]):=Bz HP2.out rfl
   have hzz:wr.heap.size<(wr.alloc (.cells #[O J x.Bc,.bool x.step,.bool x.tick,O J x.c.kind,O J x.c.a,O J x.c.b,O J x.c.time,O J x.c.bk,O J x.c.slot] 34)).heap.size:=by simp
   clear HXb HYb b2 HC HWi' Hb HZ
   go_wp2_with (first|refine a2e rfl _ rfl rfl lX.out ?_|refine Ky rfl _ rfl rfl l6.out ?_|refine a2e rfl _ rfl rfl lX2.out ?_)
   clear l6 lX2 lX HP2
   generalize World.alloc wr _=W2 at *
   refine(Zk HIw.out (x:=x) (HW2.out W2 (fun _ _ _=>rfl))).mono ?_
   rintro e w3 ⟨v3,rfl,hv3,hb3⟩
   obtain⟨E,hE⟩:∃ E,E=doE s.w x:=⟨_,rfl⟩
   rw[<- hE] at hv3 ⊢
   have HE:Hid (E=doE s.w x):=hE
   have Hst:=b2s k s x
   rw[<- hE] at Hst
   have HrE':Hid (Qv (k+1) (Pi k s x) (l.drop (k+1))=sE):=by
    have h1:=HrE.out
    rw[List.drop_eq_getElem_cons hlt,<- Hx.out] at h1
    exact h1
   have hz3:=hb3.size
   have Hb3:Hid (Below lo w w3):=Hb2.out.trans (hb3.mono (by have:=Hb2.out.size;have:=Hlo.out;omega))
   have hl300:=Hl.out
   have hN1:=HN.out.1;have hN2:=HN.out.2.1;have hN3:=HN.out.2.2
   clear HrE hE
   by_cases hE0:E=0
   rotate_left
   ·have h':(E==0)=false:=by simpa using hE0
    obtain⟨_,_,_,_,_,_,_,_,_,_,_,rfl,-⟩:=hv3
    have H4:Hid (∀ o:Obj,Cs lo a b (w3.alloc o) B1 B2 B3 B4 g v1 (Y (some ⟨bP,oP,none⟩) l.length cP) v4 s.said pl s.beg ((w.heap.size,#[Y aS s.w.m.slots.length cS,Y aH s.w.m.heads.length cH,Y aF s.w.m.free.length cF,Y aL s.w.m.locks.length cL,O J s.w.m.now,Y aT s.w.ts.length cT]) :: (w.heap.size+1,#[Y none 0 0,Y none 0 0,Y none 0 0,Y none 0 0,O J 0,Y none 0 0]) :: Zx)/\WIn a b (w3.alloc o) (.agg #[Y aS s.w.m.slots.length cS,Y aH s.w.m.heads.length cH,Y aF s.w.m.free.length cF,Y aL s.w.m.locks.length cL,O J s.w.m.now,Y aT s.w.ts.length cT]) s.w/\Below lo w (w3.alloc o)/\(w3.alloc o).rangeAt w.heap.size 0 [Y aS s.w.m.slots.length cS,Y aH s.w.m.heads.length cH,Y aF s.w.m.free.length cF,Y aL s.w.m.locks.length cL,O J s.w.m.now,Y aT s.w.ts.length cT]/\b<=(w3.alloc o).heap.size/\Na (w3.alloc o) (some ⟨bP,oP,none⟩) cP l):=fun o =>
     have b4:Below W2.heap.size W2 (w3.alloc o):=hb3.alloc hb3.size o
     have b5:Below lo w (w3.alloc o):=Hb3.out.alloc (by have:=Hb3.out.size;have:=Hlo.out;omega) o
     ⟨HC2.out.below b4,HW2.out.same fun j h1 h2=>b4.block j (by have:=HZ2.out.2.1;omega),b5,Bz ((b4.block _ (lt_of_block HX2.out)).trans HX2.out) rfl,by have:=HZ2.out.2.1;simp;omega,HR.out.low b5 HRk.out⟩
    rw[show Tj s.w x=s.w by unfold Tj;rw[<- HE.out,if_neg hE0]] at Hst
    have Hst':Hid (Pi k s x=_):=Hst
    have HE0:Hid (E≠0):=hE0
    clear HC2 HW2 HX2 Hb2 Hb3 hb3 Hst hE0
    go_wp2_with (refine Ky rfl _ rfl rfl (H4.out _).2.2.2.1 ?_)
    refine(a4y lo a b _ B1 B2 B3 B4 g (some ⟨bP,oP,none⟩) cP l v1 v4 s.said pl s.beg _ s.w _ k E (H4.out _).1 (H4.out _).2.2.2.2.1 (H4.out _).2.2.2.2.2 HRk.out hlt (by omega) (by omega) (H4.out _).2.1 (fun h=>(HE0.out h).elim) hN3).mono ?_
    rintro e w5 ⟨v15,v45,pl5,rfl,hC5,hpl5,hb5,hw5⟩
    rw[<- Hx.out] at hC5 hpl5
    have HRel:Hid (WIn a b w5 (.agg #[Y aS s.w.m.slots.length cS,Y aH s.w.m.heads.length cH,Y aF s.w.m.free.length cF,Y aL s.w.m.locks.length cL,O J s.w.m.now,Y aT s.w.ts.length cT]) s.w/\Below lo w w5/\b<=w5.heap.size):=⟨(H4.out _).2.1.same hw5,(H4.out _).2.2.1.trans hb5,by have:=(H4.out (.cells #[] 0)).2.2.2.2.1;have:=hb5.size;simp at *;omega⟩
    have HC5:Hid (Cs lo a b w5 B1 B2 B3 B4 g v15 (Y (some ⟨bP,oP,none⟩) l.length cP) v45 (s.said ++ [E]) pl5 (Ux x E k s.beg) ((w.heap.size,#[Y aS s.w.m.slots.length cS,Y aH s.w.m.heads.length cH,Y aF s.w.m.free.length cF,Y aL s.w.m.locks.length cL,O J s.w.m.now,Y aT s.w.ts.length cT]) :: (w.heap.size+1,#[Y none 0 0,Y none 0 0,Y none 0 0,Y none 0 0,O J 0,Y none 0 0]) :: Zx)):=hC5
    have HP5:Hid (pl5.map (·.1)=Uy x E k s.beg s.w (pl.map (·.1))):=hpl5
    clear hC5 hpl5 hb5 hw5 H4
    go_wp2
    go_roundw
    case rel=>exact⟨k+1,Pi k s x,a,b,v15,v45,pl5,aS,aH,aF,aL,cS,cH,cF,cL,aT,cT,by omega,by go_num,HrE',by rw[Hst'.out];exact HIw,by rw[Hst'.out];exact HC5,by rw[Hst'.out];exact(HP5.out.trans (by rw[HPl.out])),by rw[Hst'.out];exact HRel.out.1,HRel.out.2.1,⟨HZ2.out.1,HRel.out.2.2⟩,by rw[Hst'.out];exact⟨by simp[hN1],by have:=congrArg List.length HP5.out;rw[List.length_map] at this;have:=a1c x E k s.beg s.w (pl.map (·.1));rw[List.length_map] at this;omega,(a1b x E k s.beg).trans hN3⟩⟩
    case measure=>simp[intOf];omega
   ·have HdE:Hid (doE s.w x=0):=HE.out.symm.trans hE0
    rw[if_pos hE0] at hv3
    obtain⟨W',hW'⟩:∃ W',W'=doW s.w x:=⟨_,rfl⟩
    rw[<- hW'] at hv3
    rw[show Tj s.w x=W' by unfold Tj;rw[HdE.out,if_pos rfl,hW']] at Hst
    have HW':Hid (W'=doW s.w x):=hW'
    have HIn:Hid (Bi W'):=by show Bi W';rw[hW'];exact Nw HIw.out HdE.out
    have HLn:Hid (W'.ts.length=s.w.ts.length/\(x.tick=false->0<=x.Bc/\x.Bc<s.w.ts.length)):=by have:=b8f HdE.out;rw[<- hW'] at this;exact this
    have Hst':Hid (Pi k s x=_):=Hst
    clear hW' Hst
    subst hE0
    obtain⟨aS1,aH1,aF1,aL1,cS1,cH1,cF1,cL1,aT1,cT1,lt1,rfl,-⟩:=id hv3
    obtain⟨oq,hoq⟩:∃ o:Obj,o=.cells #[Y aS1 W'.m.slots.length cS1,Y aH1 W'.m.heads.length cH1,Y aF1 W'.m.free.length cF1,Y aL1 W'.m.locks.length cL1,O J W'.m.now,Y aT1 W'.ts.length cT1] 28:=⟨_,rfl⟩
    have b4:Below W2.heap.size W2 (w3.alloc oq):=hb3.alloc hb3.size oq
    have HY4:Hid ((w3.alloc oq).heap[w3.heap.size]?=some oq):=heap_alloc_new _ _
    have hX4:(w3.alloc oq).heap[w.heap.size]?=some (.cells #[Y aS s.w.m.slots.length cS,Y aH s.w.m.heads.length cH,Y aF s.w.m.free.length cF,Y aL s.w.m.locks.length cL,O J s.w.m.now,Y aT s.w.ts.length cT] 28 (0,0)):=(b4.block _ (lt_of_block HX2.out)).trans HX2.out
    have hC4:Cs lo W2.heap.size w3.heap.size (w3.alloc oq) B1 B2 B3 B4 g v1 (Y (some ⟨bP,oP,none⟩) l.length cP) v4 s.said pl s.beg ((w.heap.size,#[Y aS s.w.m.slots.length cS,Y aH s.w.m.heads.length cH,Y aF s.w.m.free.length cF,Y aL s.w.m.locks.length cL,O J s.w.m.now,Y aT s.w.ts.length cT]) :: (w.heap.size+1,#[Y none 0 0,Y none 0 0,Y none 0 0,Y none 0 0,O J 0,Y none 0 0]) :: Zx):=((HC2.out.turn w3.heap.size).below b4)
    have hW4:WIn W2.heap.size w3.heap.size (w3.alloc oq) (.agg #[Y aS1 W'.m.slots.length cS1,Y aH1 W'.m.heads.length cH1,Y aF1 W'.m.free.length cF1,Y aL1 W'.m.locks.length cL1,O J W'.m.now,Y aT1 W'.ts.length cT1]) W':=hv3.wIn.same fun j h1 h2=>(Ad _ _).block j h2
    have Hb4:Hid (Below lo w (w3.alloc oq)):=Hb3.out.alloc (by have:=Hb3.out.size;have:=Hlo.out;omega) oq
    have t8:Hid ((w3.alloc oq).there w.heap.size 0 6):=Dn hX4 (by simp)
    obtain⟨W5,hW5⟩:∃ W5,W5=(w3.alloc oq).setCells w.heap.size 0 [Y aS1 W'.m.slots.length cS1,Y aH1 W'.m.heads.length cH1,Y aF1 W'.m.free.length cF1,Y aL1 W'.m.locks.length cL1,O J W'.m.now,Y aT1 W'.ts.length cT1]:=⟨_,rfl⟩
    have ho5:∀ j,j≠w.heap.size->W5.heap[j]?=(w3.alloc oq).heap[j]?:=fun j hj=>by rw[hW5];exact Ae hj _ _ _
    have hX5:W5.heap[w.heap.size]?=some (.cells #[Y aS1 W'.m.slots.length cS1,Y aH1 W'.m.heads.length cH1,Y aF1 W'.m.free.length cF1,Y aL1 W'.m.locks.length cL1,O J W'.m.now,Y aT1 W'.ts.length cT1] 28 (0,0)):=by rw[hW5];exact D5 hX4 rfl
    have hs5:W5.heap.size=w3.heap.size+1:=by rw[hW5,setCells_size];simp
    have HC5:Hid (Cs lo W2.heap.size w3.heap.size W5 B1 B2 B3 B4 g v1 (Y (some ⟨bP,oP,none⟩) l.length cP) v4 s.said pl s.beg ((w.heap.size,#[Y aS1 W'.m.slots.length cS1,Y aH1 W'.m.heads.length cH1,Y aF1 W'.m.free.length cF1,Y aL1 W'.m.locks.length cL1,O J W'.m.now,Y aT1 W'.ts.length cT1]) :: (w.heap.size+1,#[Y none 0 0,Y none 0 0,Y none 0 0,Y none 0 0,O J 0,Y none 0 0]) :: Zx)):=by
     have hY4:=hC4.z (w.heap.size+1,#[Y none 0 0,Y none 0 0,Y none 0 0,Y none 0 0,O J 0,Y none 0 0]) (.tail _ (.head _))
     have h2:=(hC4.more (Z':=Zx) (fun q hq=>hC4.z q (.tail _ (.tail _ hq)))).off hX4 ho5 (fun q hq=>by have:=HZx.out q hq;omega)
     refine h2.more fun q hq=>?_
     simp only[List.mem_cons] at hq
     rcases hq with rfl|rfl|hq
     ·exact hX5
     ·exact(ho5 _ (by omega)).trans hY4
     ·exact h2.z q hq
    have hzx:=HZ2.out.2.2
    have HW5:Hid (WIn W2.heap.size w3.heap.size W5 (.agg #[Y aS1 W'.m.slots.length cS1,Y aH1 W'.m.heads.length cH1,Y aF1 W'.m.free.length cF1,Y aL1 W'.m.locks.length cL1,O J W'.m.now,Y aT1 W'.ts.length cT1]) W'):=hW4.same fun j h1 h2=>ho5 j (by omega)
    have Hb5:Hid (Below lo w W5):=by show Below lo w W5;rw[hW5];exact Bq Hb4.out Hlo.out
    have l9:Hid (W5.rangeAt w.heap.size 0 [Y aS1 W'.m.slots.length cS1,Y aH1 W'.m.heads.length cH1,Y aF1 W'.m.free.length cF1,Y aL1 W'.m.locks.length cL1,O J W'.m.now,Y aT1 W'.ts.length cT1]):=Bz hX5 rfl
    have HR5:Hid (Na W5 (some ⟨bP,oP,none⟩) cP l):=HR.out.low Hb5.out HRk.out
    have HZ5:Hid (w.heap.size+1<W2.heap.size/\w3.heap.size<=W5.heap.size):=⟨hzx,by omega⟩
    subst hoq
    have l7:Hid ((w3.alloc (.cells #[Y aS1 W'.m.slots.length cS1,Y aH1 W'.m.heads.length cH1,Y aF1 W'.m.free.length cF1,Y aL1 W'.m.locks.length cL1,O J W'.m.now,Y aT1 W'.ts.length cT1] 28)).rangeAt w3.heap.size 0 [Y aS1 W'.m.slots.length cS1,Y aH1 W'.m.heads.length cH1,Y aF1 W'.m.free.length cF1,Y aL1 W'.m.locks.length cL1,O J W'.m.now,Y aT1 W'.ts.length cT1]):=Bz HY4.out rfl
    clear HC2 HW2 HX2 Hb2 Hb3 hb3 hX4 hC4 hW4 Hb4 ho5 hX5 HY4 hv3 b4
    go_wp2_with (first|refine Ky rfl _ rfl rfl l7.out ?_|(refine Qd rfl _ _ rfl rfl rfl t8.out (by kernel_rfl) ?_;rw[<- hW5];clear hW5 t8 l7)|refine Ky rfl _ rfl rfl l9.out ?_)
    refine(a4y lo W2.heap.size w3.heap.size W5 B1 B2 B3 B4 g (some ⟨bP,oP,none⟩) cP l v1 v4 s.said pl s.beg _ W' _ k 0 HC5.out HZ5.out.2 HR5.out HRk.out hlt (by omega) (by omega) HW5.out (fun _ h=>by rw[<- Hx.out] at h ⊢;rw[HLn.out.1];exact HLn.out.2 h) (hN3.trans HLn.out.1.symm)).mono ?_
    rintro e w6 ⟨v15,v45,pl5,rfl,hC5,hpl5,hb5,hw5⟩
    rw[<- Hx.out] at hC5 hpl5
    have HRel:Hid (WIn W2.heap.size w3.heap.size w6 (.agg #[Y aS1 W'.m.slots.length cS1,Y aH1 W'.m.heads.length cH1,Y aF1 W'.m.free.length cF1,Y aL1 W'.m.locks.length cL1,O J W'.m.now,Y aT1 W'.ts.length cT1]) W'/\Below lo w w6/\w3.heap.size<=w6.heap.size):=⟨HW5.out.same hw5,Hb5.out.trans hb5,by have:=HZ5.out.2;have:=hb5.size;omega⟩
    have HC6:Hid (Cs lo W2.heap.size w3.heap.size w6 B1 B2 B3 B4 g v15 (Y (some ⟨bP,oP,none⟩) l.length cP) v45 (s.said ++ [0]) pl5 (Ux x 0 k s.beg) ((w.heap.size,#[Y aS1 W'.m.slots.length cS1,Y aH1 W'.m.heads.length cH1,Y aF1 W'.m.free.length cF1,Y aL1 W'.m.locks.length cL1,O J W'.m.now,Y aT1 W'.ts.length cT1]) :: (w.heap.size+1,#[Y none 0 0,Y none 0 0,Y none 0 0,Y none 0 0,O J 0,Y none 0 0]) :: Zx)):=hC5
    have HP5:Hid (pl5.map (·.1)=Uy x 0 k s.beg W' (pl.map (·.1))):=hpl5
    clear hC5 hpl5 hb5 hw5 HC5 HW5 Hb5 l9 HR5
    go_wp2
    go_roundw
    case rel=>exact⟨k+1,Pi k s x,W2.heap.size,w3.heap.size,v15,v45,pl5,aS1,aH1,aF1,aL1,cS1,cH1,cF1,cL1,aT1,cT1,by omega,by go_num,HrE',by rw[Hst'.out];exact HIn,by rw[Hst'.out];exact HC6,by rw[Hst'.out];exact(HP5.out.trans (by rw[HPl.out])),by rw[Hst'.out];exact HRel.out.1,HRel.out.2.1,⟨HZ5.out.1,HRel.out.2.2⟩,by rw[Hst'.out];exact⟨by simp[hN1],by have:=congrArg List.length HP5.out;rw[List.length_map] at this;have:=a1c x 0 k s.beg W' (pl.map (·.1));rw[List.length_map] at this;omega,(a1b x 0 k s.beg).trans (hN3.trans HLn.out.1.symm)⟩⟩
    case measure=>simp[intOf];omega
  ·have hkE:k=l.length:=by omega
   have HsE:Hid (s=sE):=by
    have h1:=HrE.out
    rw[hkE,List.drop_length] at h1
    exact h1
   have l6:Hid (wr.rangeAt w.heap.size 0 [Y aS s.w.m.slots.length cS,Y aH s.w.m.heads.length cH,Y aF s.w.m.free.length cF,Y aL s.w.m.locks.length cL,O J s.w.m.now,Y aT s.w.ts.length cT]):=Bz HXb.out rfl
   have t6:Hid (wr.there (w.heap.size+1) 0 6):=Dn HYb.out (by simp)
   obtain⟨W5,hW5⟩:∃ W5,W5=wr.setCells (w.heap.size+1) 0 [Y aS s.w.m.slots.length cS,Y aH s.w.m.heads.length cH,Y aF s.w.m.free.length cF,Y aL s.w.m.locks.length cL,O J s.w.m.now,Y aT s.w.ts.length cT]:=⟨_,rfl⟩
   have ho5:∀ j,j≠w.heap.size+1->W5.heap[j]?=wr.heap[j]?:=fun j hj=>by rw[hW5];exact Ae hj _ _ _
   have HX5:Hid (W5.heap[w.heap.size+1]?=some (.cells #[Y aS s.w.m.slots.length cS,Y aH s.w.m.heads.length cH,Y aF s.w.m.free.length cF,Y aL s.w.m.locks.length cL,O J s.w.m.now,Y aT s.w.ts.length cT] 28 (0,0))):=by show _=_;rw[hW5];exact D5 HYb.out rfl
   have HC5:Hid (Cs lo 0 0 W5 B1 B2 B3 B4 g v1 (Y aP l.length cP) v4 s.said pl s.beg Zx):=(HC.out.wide.more (Z':=Zx) (fun q hq=>HC.out.z q (.tail _ (.tail _ hq)))).off HYb.out ho5 (fun q hq=>by have:=HZx.out q hq;omega)
   have HW5:Hid (Gh w.heap.size W5 (.agg #[Y aS s.w.m.slots.length cS,Y aH s.w.m.heads.length cH,Y aF s.w.m.free.length cF,Y aL s.w.m.locks.length cL,O J s.w.m.now,Y aT s.w.ts.length cT]) s.w):=(HWi'.out W5 fun j h1 h2=>ho5 j (by have:=HZ.out.1;omega)).mono (by have:=HZ.out.1;omega)
   have Hb5:Hid (Below lo w W5):=by show Below lo w W5;rw[hW5];exact Bq Hb.out (by have:=Hlo.out;omega)
   clear ho5 HC HWi' Hb HXb HYb HrE
   go_wp2_with (first|refine Ky rfl _ rfl rfl l6.out ?_|(refine Qd rfl _ _ rfl rfl rfl t6.out (by kernel_rfl) ?_;rw[<- hW5];clear hW5 t6 l6))
   exact bodyPost_ret (results_cell_row Tryz.results79 _ _ (w.heap.size+1) 28 _ (0,0) _ rfl HX5.out Tryz.underlying28 rfl (by kernel_rfl)) rfl ⟨_,v1,v4,pl,rfl,by rw[<- HsE.out];exact HC5.out,by rw[<- HsE.out];exact HPl.out,by rw[<- HsE.out];exact HW5.out,Hb5.out⟩
end
section
open Go.ChangeShapes Go.WideShapes Go.ChangeAt Go.RowKit Go.Joins Go.Deep Go.Sort
set_option maxHeartbeats 3200000 in
theorem a6r(M:Mm)(aS aH aF aL:Option Addr)(cS cH cF cL:Nat)(w:World)(A:At w aS aH aF aL cS cH cF cL M) :
  Calls Tryz.prog 55 #[.agg #[Y aS M.slots.length cS,Y aH M.heads.length cH,Y aF M.free.length cF,Y aL M.locks.length cL,O J M.now]] w fun e w' =>
   ∃ ao cap,e=.returned (.tuple #[Y ao (Gx M).length cap,O J (O4 M)])/\w'.ownsRow w.heap.size 61 4 (Y ao (Gx M).length cap) (Gx M).length (Nh (Gx M))/\Below w.heap.size w w':=by
 obtain⟨E0,hE0⟩:∃ E0,E0=O4 M:=⟨_,rfl⟩
 obtain⟨L0,hL0⟩:∃ L0,L0=Gx M:=⟨_,rfl⟩
 rw[<- hE0,<- hL0]
 have HE0:Hid (E0=O4 M):=hE0
 have HL0:Hid (L0=Gx M):=hL0
 clear hE0 hL0
 obtain⟨o1,ho1⟩:∃ o:Obj,o=.cells #[Y aS M.slots.length cS,Y aH M.heads.length cH,Y aF M.free.length cF,Y aL M.locks.length cL,O J M.now] 25:=⟨_,rfl⟩
 have b0:Below w.heap.size w (w.alloc o1):=Ad w o1
 have HB0:Hid ((w.alloc o1).heap[w.heap.size]?=some o1):=heap_alloc_new _ _
 have HA:Hid (At w aS aH aF aL cS cH cF cL M):=A
 have HA0:Hid _:=A.below b0
 clear A
 have hmf:∀ (fn:Fn) (first cap:Array Value) (w:World),(Instr.makeFunc fn first cap).run Tryz.prog w=.ok (.func fn first cap) w:=fun _ _ _ _=>rfl
 go_enter Tryz.func55,Tryz.ntmps55
 go_wp2_with fail
 rw[<- ho1]
 generalize w.alloc o1=W0 at *
 subst ho1
 refine(Vq M aS aH aF aL cS cH cF cL W0 HA0.out).mono ?_
 rintro e w1 ⟨rfl,hb1⟩
 have b1:=b0.trans (hb1.mono b0.size)
 have HB1:Hid (w1.heap[w.heap.size]?=_):=(hb1.block w.heap.size (lt_of_block HB0.out)).trans HB0.out
 clear hb1 b0 HB0 HA0
 by_cases hE:O4 M=0
 rotate_left
 ·have h':(O4 M != 0)=true:=by simpa using hE
  have HV:Hid (E0=O4 M/\L0=[]):=⟨HE0.out,HL0.out.trans (by unfold Gx;rw[if_neg hE])⟩
  clear HB1
  generalize O4 M=E at *
  go_wp2
  go_ret2
  exact⟨none,0,by rw[HV.out.1,HV.out.2];rfl,by rw[HV.out.2];exact World.ownsRow_nil _ _ _ _,b1⟩
 have hokc:=(U4 M).1 hE
 have hok:=hokc.ok
 have n0:=hok.ns
 have n1:=hok.nh
 have HV:Hid (E0=0/\L0=(Ba M).map (Bj M)):=⟨HE0.out.trans hE,HL0.out.trans (by unfold Gx;rw[if_pos hE])⟩
 rw[hE]
 clear hE HE0 HL0
 obtain⟨q0,q1,q2,q3,q4,f0,f1,f2,f3,f4,qs⟩:=Aj HB1.out
 clear f0 f1 f2 f3 f4
 obtain⟨B,hB⟩:∃ B,B=w1.heap.size:=⟨_,rfl⟩
 have HBe:Hid (B=w1.heap.size):=hB
 have HV1:Hid ((w1.alloc (.cells #[Y none 0 0] 56)).heap[B]?=some (.cells #[Y none 0 0] 56)):=by rw[hB];exact heap_alloc_new _ _
 have HX1:Hid ((w1.alloc (.cells #[Y none 0 0] 56)).heap[w.heap.size]?=some (.cells #[Y aS M.slots.length cS,Y aH M.heads.length cH,Y aF M.free.length cF,Y aL M.locks.length cL,O J M.now] 25 (0,0))):=(Below.heap_alloc _ _ _ qs).trans HB1.out
 have b2:=b1.alloc b1.size (.cells #[Y none 0 0] 56)
 have bX:w.heap.size<B:=by rw[hB];exact qs
 go_wp2
 rw[<- hB]
 clear hB q0 q1 q2 q3 q4 HB1
 go_loopw [15] (fun i wr=>∃ b:Nat,b<=M.heads.length/\i=O J b/\(∃ v,Hid (wr.heap[B]?=some (.cells #[v] 56 (0,0)))/\Hid (wr.ownsRow (B+1) 61 4 v ((Bg M b).map (Bj M)).length (Nh ((Bg M b).map (Bj M)))))/\Below w.heap.size w wr/\Hid (wr.heap[w.heap.size]?=some (.cells #[Y aS M.slots.length cS,Y aH M.heads.length cH,Y aF M.free.length cF,Y aL M.locks.length cL,O J M.now] 25 (0,0))))
  (fun i _=>M.heads.length - (intOf i).toNat)
 case atStart=>exact⟨0,Nat.zero_le _,rfl,⟨_,HV1,World.ownsRow_nil _ _ _ _⟩,b2,HX1⟩
 case round =>
  obtain⟨b,hb,rfl,⟨v,HVr,HOr⟩,hbw,HX⟩:=hrel
  clear HV1 HX1 b2 b1
  obtain⟨q0,q1,q2,q3,q4,f0,f1,f2,f3,f4,qs'⟩:=Aj HX.out
  clear f0 f1 f2 f3 f4
  have lB:=lt_of_block HVr.out
  by_cases hlt:b<M.heads.length
  ·have hal:=Pn M b
   have hal2:b*M.slots.length<=4*12:=Nat.mul_le_mul (by omega) n0
   go_wp2_with fail
   have hst:Lst wr B wr.heap.size 56 61 4 #[Y aS M.slots.length cS,Y aH M.heads.length cH,Y aF M.free.length cF,Y aL M.locks.length cL,O J M.now] (wr.alloc (.cells #[Y aS M.slots.length cS,Y aH M.heads.length cH,Y aF M.free.length cF,Y aL M.locks.length cL,O J M.now] 25)) ((Bg M b ++ []).map (Bj M)).length (Nh ((Bg M b ++ []).map (Bj M))):=by
    rw[List.append_nil]
    refine⟨⟨v,(Below.heap_alloc _ _ _ lB).trans HVr.out,World.ownsRow.alloc HOr.out _⟩,heap_alloc_new _ _,(Below.refl _ _).alloc (by omega) _,by omega⟩
   refine(walk_any 100 #[.pointer (some ⟨w.heap.size,0,none⟩),.pointer (some ⟨B,0,none⟩)] M aS aH aF aL cS cH cF cL b wr hok hlt fn72 (fun l W=>Lst wr B wr.heap.size 56 61 4 #[Y aS M.slots.length cS,Y aH M.heads.length cH,Y aF M.free.length cF,Y aL M.locks.length cL,O J M.now] W ((Bg M b++l).map (Bj M)).length (Nh ((Bg M b++l).map (Bj M)))) hst (fun l W h=>h.box) (fun l W h=>HA.out.below (hbw.trans (h.below.mono (by omega)))) ?_).mono ?_
   ·intro l a W hL ha hl
    have:=app72 M aS aH aF aL cS cH cF cL _ _ w.heap.size _ _ _ _ a hL (by rw[List.length_append];omega) ((hL.below.block w.heap.size bX).trans HX.out) (HA.out.below (hbw.trans (hL.below.mono (by omega)))) ha n0
    rw[List.append_assoc] at this
    exact this
   rintro e w2 ⟨rfl,hL2⟩
   rw[<- Jb] at hL2
   obtain⟨⟨v2,hv2,ho2⟩,-,hb2,-⟩:=hL2
   have HV2:Hid (w2.heap[B]?=some (.cells #[v2] 56 (0,0))):=hv2
   have HO2:Hid (w2.ownsRow (B+1) 61 4 v2 ((Bg M (b+1)).map (Bj M)).length (Nh ((Bg M (b+1)).map (Bj M)))):=ho2
   have hbx:Below w.heap.size w w2:=hbw.trans (hb2.mono (by omega))
   have HX2:Hid (w2.heap[w.heap.size]?=some (.cells #[Y aS M.slots.length cS,Y aH M.heads.length cH,Y aF M.free.length cF,Y aL M.locks.length cL,O J M.now] 25 (0,0))):=(hb2.block w.heap.size bX).trans HX.out
   clear hv2 ho2 hb2 hst HVr HOr HX hbw q0 q1 q2 q3 q4
   go_wp2
   go_roundw
   case rel=>exact⟨b+1,by omega,by go_num,⟨v2,HV2,HO2⟩,hbx,HX2⟩
   case measure=>simp[intOf];omega
  ·obtain rfl:b=M.heads.length:=by omega
   have hlen:=Pn M M.heads.length
   have hal2:M.heads.length*M.slots.length<=4*12:=Nat.mul_le_mul (by omega) n0
   obtain⟨ao,cap,rfl,hrow⟩:=Qb.Lj HOr.out (by rw[List.length_map];omega)
   have HR:Hid (wr.ownsRow w.heap.size 61 4 (Y ao ((Ba M).map (Bj M)).length cap) ((Ba M).map (Bj M)).length (Nh ((Ba M).map (Bj M)))):=ownsRow_le HOr.out (by omega)
   clear hrow
   obtain⟨c0,-,lB'⟩:=Aq HVr.out
   have hlm:((Ba M).map (Bj M)).length=((Bg M M.heads.length).map (Bj M)).length:=rfl
   clear HVr HOr
   go_wp2
   go_ret2
   refine⟨ao,cap,?_,?_,hbw⟩
   ·rw[HV.out.1,HV.out.2,hlm]
    simp
   ·rw[HV.out.2];exact HR.out
end
end Go.Proofs.YthhgoenomehobaaGreat.mm
