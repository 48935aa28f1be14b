/- Parts. -/
import Derived.Test.YthhgoenomehobaaGreatP37
import Derived.Test.YthhgoenomehobaaGreatP11
import Derived.Test.YthhgoenomehobaaGreatP41
import Derived.Test.YthhgoenomehobaaGreatP15
import Derived.Test.YthhgoenomehobaaGreatP19
namespace Go.Proofs.YthhgoenomehobaaGreat.mm
set_option maxRecDepth 100000
set_option linter.unusedVariables false
open Go.Value renaming int → O, slice → Y
open Go.IntKind renaming i64 → J
open Go.Proofs.Tryz renaming prog → Pg
open Go renaming undef → Uz, World → Wq
open Go.ChangeShapes Go.WideShapes Go.ChangeAt Go.RowKit Go.Joins Go.Deep Go.Maps
set_option maxHeartbeats 4000000
section
theorem a3h(lo a b:Nat)(w:Wq)(B1 B2 B3 B4 g:Nat)(aP:Option Addr)(cP:Nat)(l:List Pk)(v1 v4:Value)(said:List Int)(pl:List (Pst × Option Addr × Nat))(beg:List Nat)(Z:List (Nat × Array Value))(W:Wd)(v:Value)(i:Nat)(E:Int)
  (h:Cs lo a b w B1 B2 B3 B4 g v1 (Y aP l.length cP) v4 said pl beg Z) (hz:b<=w.heap.size) (hr:Jz w aP cP l) (hrl:∀ ad,aP=some ad->ad.block<lo) (hi:i<l.length) (hs:said.length<=300) (hps:pl.length<=300) (hW:WIn a b w v W)
  (hx:E=0->(l[i]'hi).tick=false->0<=(l[i]'hi).task/\(l[i]'hi).task<W.ts.length) (hbl:beg.length=W.ts.length) :
  Calls Pg 80 #[O J i,v,O J E,.pointer (some ⟨B1,0,none⟩),.pointer (some ⟨B2,0,none⟩),.pointer (some ⟨B3,0,none⟩),.pointer (some ⟨B4,0,none⟩)] w (a3s lo a b w B1 B2 B3 B4 g (Y aP l.length cP) (said ++ [E]) (Ua (l[i]'hi) E i beg W (pl.map (·.1))) (U9 (l[i]'hi) E i beg) Z):=by
 by_cases h0:E=0
 rotate_left
 ·have h1:=b1h lo a b w B1 B2 B3 B4 g aP cP l v1 v4 said pl beg Z W v i E h hz hr hrl hi hs hps hW h0
  unfold Ua U9
  rw[if_pos (.inl h0),if_pos (.inl h0)]
  exact h1
 cases hT:(l[i]'hi).tick
 rotate_left
 ·have h1:=a8c lo a b w B1 B2 B3 B4 g aP cP l v1 v4 said pl beg Z W v i E h hz hr hrl hi hs hps hW h0 hT
  unfold Ua U9
  rw[if_pos (.inr hT),if_pos (.inr hT)]
  exact h1
 have hk:=hx h0 hT
 have hn:¬ (E≠0\/(l[i]'hi).tick=true):=by rw[hT];simp[h0]
 cases hS:(l[i]'hi).step
 ·have h1:=a4y lo a b w B1 B2 B3 B4 g aP cP l v1 v4 said pl beg Z W v i E h hz hr hrl hi hs hps hW h0 hT hS (by rw[hbl];exact hk)
  unfold Ua U9
  rw[if_neg hn,if_neg hn,if_neg (by rw[hS];simp),if_neg (by rw[hS];simp)]
  exact h1
 cases hB:(W.ts.getD (l[i]'hi).task.toNat idle).busy
 ·have h1:=a8b lo a b w B1 B2 B3 B4 g aP cP l v1 v4 said pl beg Z W v i E h hz hr hrl hi hs hps hW h0 hT hS hk hB hbl
  unfold Ua U9
  rw[if_neg hn,if_neg hn,if_pos hS,if_pos hS,if_neg (by rw[hB];simp)]
  exact h1
 ·have h1:=a8a lo a b w B1 B2 B3 B4 g aP cP l v1 v4 said pl beg Z W v i E h hz hr hrl hi hs hps hW h0 hT hS hk hB
  unfold Ua U9
  rw[if_neg hn,if_neg hn,if_pos hS,if_pos hS,if_pos hB]
  exact h1
theorem a9q(n:Nat)(s:Rs)(x:Pk):U4 n s x=⟨Vl s.w x,s.said ++ [doE s.w x],Ua x (doE s.w x) n s.beg (Vl s.w x) s.past,U9 x (doE s.w x) n s.beg⟩:=by
 unfold U4 Vl Ua U9
 by_cases h:doE s.w x=0
 ·rw[if_pos h,if_pos h,h]
  cases hT:x.tick
  ·cases hS:x.step
   ·simp
   ·simp
    split <;> simp_all
  ·simp
 ·rw[if_neg h,if_neg h,if_pos (.inl h),if_pos (.inl h)]
section
variable {lo a b:Nat} {w w':Wq} {B1 B2 B3 B4 g:Nat} {v1 v2 v4:Value} {said:List Int} {pl:List (Pst × Option Addr × Nat)} {beg:List Nat} {Z:List (Nat × Array Value)}
theorem Cs.wide(h:Cs lo a b w B1 B2 B3 B4 g v1 v2 v4 said pl beg Z):Cs lo 0 0 w B1 B2 B3 B4 g v1 v2 v4 said pl beg Z :=
 have hz:∀ k,Out 0 0 k:=fun k hx=>by have:=hx.2;omega
 ⟨h.s,h.so,fun k _=>hz k,h.f,h.fo,hz _,h.p,h.po,fun k _=>hz k,fun q hq=>⟨(h.pk q hq).1,fun ad _=>hz _⟩,⟨h.o1.1,hz _⟩,⟨h.o3.1,hz _⟩,⟨h.o4.1,hz _⟩,h.og,h.x,⟨h.ox.1,hz _⟩,h.z⟩
theorem Cs.off(h:Cs lo a b w B1 B2 B3 B4 g v1 v2 v4 said pl beg Z){X:Nat}{c:Array Value}(hX:w.heap[X]?=some (.cells c 28 (0,0)))(hk:∀ k,k≠X->w'.heap[k]?=w.heap[k]?)(hZ:∀ q∈Z,q.1≠X):Cs lo a b w' B1 B2 B3 B4 g v1 v2 v4 said pl beg Z:=by
 have nb:∀ {Yq:Nat} {cs:Array Value} {t':TypeId},w.heap[Yq]?=some (.cells cs t' (0,0))->t'≠28->w'.heap[Yq]?=some (.cells cs t' (0,0)):=fun hY n2=>by
  refine(hk _ ?_).trans hY
  rintro rfl
  rw[hX] at hY
  injection hY with hY
  injection hY with _ hY
  exact n2 hY.symm
 have nr:∀ {lo' size n':Nat} {t':TypeId} {u:Value} {xs:List Value},w.ownsRow lo' t' size u n' xs->t'≠28->w'.ownsRow lo' t' size u n' xs:=fun hu n2=>by
  refine Bj hu fun k hu'=>hk k ?_
  rintro rfl
  exact own_ne hu hX n2 hu'
 exact⟨nb h.s (by decide),nr h.so (by decide),h.sx,nb h.f (by decide),nb h.fo (by decide),h.fx,nb h.p (by decide),nr h.po (by decide),h.px,fun q hq=>⟨⟨nr (h.pk q hq).1.own (by decide)⟩,(h.pk q hq).2⟩,h.o1,h.o3,h.o4,h.og,nb h.x (by decide),h.ox,fun q hq=>(hk _ (hZ q hq)).trans (h.z q hq)⟩
theorem Cs.more(h:Cs lo a b w B1 B2 B3 B4 g v1 v2 v4 said pl beg Z){Z':List (Nat × Array Value)}(hZ:∀ q∈Z',w.heap[q.1]?=some (.cells q.2 28 (0,0))):Cs lo a b w B1 B2 B3 B4 g v1 v2 v4 said pl beg Z' :=
 ⟨h.s,h.so,h.sx,h.f,h.fo,h.fx,h.p,h.po,h.px,h.pk,h.o1,h.o3,h.o4,h.og,h.x,h.ox,hZ⟩
end
theorem THi.le{lo lo':Nat}{ao:Option Addr}{l:List (Tk × TkV)}(h:THi lo ao l)(hl:lo'<=lo):THi lo' ao l:=⟨fun ad e=>Nat.le_trans hl (h.row ad e),fun p hp ad e=>Nat.le_trans hl (h.keys p hp ad e),fun p hp ad e=>Nat.le_trans hl (h.held p hp ad e)⟩
theorem b0l.wans{w:Wq}{M:Mm}{ts:List Tk}{e:Ending}{w':Wq}(h:b0l w M ts e w')(m1:M.slots.length*48<=140737488351232)(m2:M.heads.length*8<=140737488351232)(m3:M.free.length*8<=140737488351232)(m4:M.locks.length*8<=140737488351232):∃ v,e=.returned v/\D8 w.heap.size w' v ⟨M,ts⟩/\Below w.heap.size w w':=by
 obtain⟨gS,gH,gF,gL,kS,kH,kF,kL,gg,c,l',lo2,rfl,R,L,T,-,hts,hlo,hb⟩:=h
 refine⟨_,rfl,⟨gS,gH,gF,gL,kS,kH,kF,kL,some ⟨gg,0,none⟩,c,l',?_,R.at m1 m2 m3 m4,R.hi,hts.symm,T.a0d,T.thi.le hlo⟩,hb⟩
 subst hts
 simp only[List.length_map]
def TurnP(lo X:Nat)(w:Wq)(B1 B2 B3 B4 g:Nat)(v2:Value)(s:Rs)(Z:List (Nat × Array Value))(e:Ending)(w':Wq):Prop :=
 ∃ v v1 v4 pl,e=.returned v/\Cs lo 0 0 w' B1 B2 B3 B4 g v1 v2 v4 s.said pl s.beg Z/\pl.map (·.1)=s.past/\D8 X w' v s.w/\Below lo w w'
end
section
theorem do_E{W:Wd}(hE:wE W=0){x:Pk}{lo:Nat}{V:Wq}{aS aH aF aL:Option Addr}{cS cH cF cL:Nat}{aT:Option Addr}{cT:Nat}(h:D8 lo V (.agg #[Y aS W.m.slots.length cS,Y aH W.m.heads.length cH,Y aF W.m.free.length cF,Y aL W.m.locks.length cL,O J W.m.now,Y aT W.ts.length cT]) W) :
  Calls Pg 15 #[.agg #[Y aS W.m.slots.length cS,Y aH W.m.heads.length cH,Y aF W.m.free.length cF,Y aL W.m.locks.length cL,O J W.m.now,Y aT W.ts.length cT],.agg #[O J x.task,.bool x.step,.bool x.tick,O J x.c.kind,O J x.c.a,O J x.c.b,O J x.c.time,O J x.c.bk,O J x.c.slot]] V fun e V'=>∃ v,e=.returned (.tuple #[v,O J (doE W x)])/\D8 V.heap.size V' v (if doE W x=0 then doW W x else w0W)/\Below V.heap.size V V':=by
 obtain⟨bS,bH,bF,bL,dS,dH,dF,dL,bT,dT,lt,e,A,hi,hts,hT,hTh⟩:=h
 have e1:=Value.agg.inj e
 simp only[Array.mk.injEq,List.cons.injEq,Value.slice.injEq,true_and,and_true] at e1
 obtain⟨⟨rfl,rfl⟩,⟨rfl,rfl⟩,⟨rfl,rfl⟩,⟨rfl,rfl⟩,rfl,rfl⟩:=e1
 have h:=a7e W.m lt x aS aH aF aL cS cH cF cL aT cT V A hT
 have hts':lt.length=W.ts.length:=by rw[hts,List.length_map]
 rw[<- hts,hts'] at h
 refine h.mono ?_
 rintro e w' ⟨v,rfl,h1,h2⟩
 rw[show DoE W x=doE W x by unfold DoE;rw[hE,if_neg (by simp)]] at h1 ⊢
 exact⟨v,rfl,h1,h2⟩
theorem own_E{W:Wd}(hE:wE W=0){lo:Nat}{V:Wq}{aS aH aF aL:Option Addr}{cS cH cF cL:Nat}{aT:Option Addr}{cT:Nat}(h:D8 lo V (.agg #[Y aS W.m.slots.length cS,Y aH W.m.heads.length cH,Y aF W.m.free.length cF,Y aL W.m.locks.length cL,O J W.m.now,Y aT W.ts.length cT]) W) :
  Calls Pg 57 #[.agg #[Y aS W.m.slots.length cS,Y aH W.m.heads.length cH,Y aF W.m.free.length cF,Y aL W.m.locks.length cL,O J W.m.now,Y aT W.ts.length cT]] V fun e V'=>∃ v,e=.returned v/\D8 V.heap.size V' v W/\Below V.heap.size V V':=by
 obtain⟨bS,bH,bF,bL,dS,dH,dF,dL,bT,dT,lt,e,A,hi,hts,hT,hTh⟩:=h
 have e1:=Value.agg.inj e
 simp only[Array.mk.injEq,List.cons.injEq,Value.slice.injEq,true_and,and_true] at e1
 obtain⟨⟨rfl,rfl⟩,⟨rfl,rfl⟩,⟨rfl,rfl⟩,⟨rfl,rfl⟩,rfl,rfl⟩:=e1
 have hts':lt.length=W.ts.length:=by rw[hts,List.length_map]
 have h:=a3l W.m lt aS aH aF aL cS cH cF cL aT cT V A hT (by have:=(Jd.1 hE).2.1;omega) (by have:=(Jd.1 hE).2.2.1;omega) (fun p hp=>by
  have:=(Oc.1 ((Jd.1 hE).2.2.2 p.1 (by rw[hts];exact List.mem_map_of_mem hp))).1
  omega)
 rw[<- hts,hts'] at h
 refine h.mono ?_
 intro e w' h
 exact h.wans A.s.max A.h.max A.f.max A.l.max
def okB:List Pk->Wd->Bool
 | [],W=>wE W==0
 | x :: l,W=>wE W==0 && okB l (if doE W x=0 then doW W x else W)
theorem Zl{l:List Pk}{W:Wd}(h:okB l W=true):wE W=0:=by
 cases l with
 | nil=>simpa [okB] using h
 | cons x l=>simp only[okB,Bool.and_eq_true,beq_iff_eq] at h;exact h.1
theorem a8j{x:Pk}{l:List Pk}{W:Wd}(h:okB (x :: l) W=true):okB l (if doE W x=0 then doW W x else W)=true:=by
 simp only[okB,Bool.and_eq_true,beq_iff_eq] at h;exact h.2
theorem b3f{W:Wd}{x:Pk}(h:doE W x=0):(doW W x).ts.length=W.ts.length/\(x.tick=false->0<=x.task/\x.task<W.ts.length):=by
 rcases a5o h with ⟨ht,-,e⟩|⟨ht,-,hr,-,-,e⟩|⟨ht,-,hr,-,-,-,-,-,e⟩
 ·rw[e,ht];exact⟨rfl,fun h=>by cases h⟩
 ·rw[e];exact⟨by simp,fun _=>hr⟩
 ·rw[e];exact⟨by simp,fun _=>hr⟩
theorem Jz.low{w w':Wq}{lo:Nat}{ao:Option Addr}{cap:Nat}{l:List Pk}(r:Jz w ao cap l)(hb:Below lo w w')(hl:∀ ad,ao=some ad->ad.block<lo):Jz w' ao cap l:=by
 refine⟨r.le,r.max,r.nil,?_⟩
 rcases r.at_ with h|⟨b,o,h,hc⟩
 ·exact .inl h
 ·exact .inr ⟨b,o,h,fun i hi=>Dp (hc i hi) hb (hl _ h)⟩
theorem Zf(x:Pk)(e:Int)(i:Nat)(beg:List Nat):(U9 x e i beg).length=beg.length:=by
 unfold U9
 repeat' split
 all_goals simp
theorem Zg(x:Pk)(e:Int)(i:Nat)(beg:List Nat)(W:Wd)(past:List Pst):(Ua x e i beg W past).length<=past.length+1:=by
 unfold Ua
 repeat' split
 all_goals simp
theorem a0y(lo:Nat)(w:Wq)(B1 B2 B3 B4 g:Nat)(aP:Option Addr)(cP:Nat)(l:List Pk)(v1 v4:Value)(beg:List Nat)(Zx:List (Nat × Array Value))(W0:Wd)(v:Value)
  (hI:okB l W0=true) (hv:D8 0 w v W0) (h:Cs lo 0 0 w B1 B2 B3 B4 g v1 (Y aP l.length cP) v4 [] [] beg Zx) (hr:Jz w aP cP l) (hrl:0<l.length->∀ ad,aP=some ad->ad.block<lo) (hl:l.length<=300) (hbl:beg.length=W0.ts.length) (hlo:lo<=w.heap.size) :
  Calls Pg 79 #[v,Y aP l.length cP,.func (.func 80) #[] #[.pointer (some ⟨B1,0,none⟩),.pointer (some ⟨B2,0,none⟩),.pointer (some ⟨B3,0,none⟩),.pointer (some ⟨B4,0,none⟩)]] w (TurnP lo w.heap.size w B1 B2 B3 B4 g (Y aP l.length cP) (Uc 0 ⟨W0,[],[],beg⟩ l) Zx):=by
 have m1:=hr.max
 have m2:=hr.le
 have HR:Hid (Jz w aP cP l):=hr
 have HRl:Hid (0<l.length->∀ ad,aP=some ad->ad.block<lo):=hrl
 have HI0:Hid (okB l W0=true):=hI
 have Hlo:Hid (lo<=w.heap.size):=hlo
 have Hl:Hid (l.length<=300):=hl
 obtain⟨s0,hs0⟩:∃ s0:Rs,s0=⟨W0,[],[],beg⟩:=⟨_,rfl⟩
 rw[<- hs0]
 obtain⟨sE,hsE⟩:∃ sE:Rs,sE=Uc 0 s0 l:=⟨_,rfl⟩
 rw[<- hsE]
 have HsE:Hid (Uc 0 s0 (l.drop 0)=sE):=by show _=_;rw[hsE];rfl
 have Hs0:Hid (s0=⟨W0,[],[],beg⟩):=hs0
 have HC0:Hid (Cs lo 0 0 w B1 B2 B3 B4 g v1 (Y aP l.length cP) v4 [] [] beg Zx):=h
 have HZx:Hid (∀ q∈Zx,q.1<w.heap.size):=fun q hq=>lt_of_block (h.z q hq)
 have HBl:Hid (beg.length=W0.ts.length):=hbl
 obtain⟨aS,aH,aF,aL,cS,cH,cF,cL,aT,cT,lt,rfl,-⟩:=id hv
 obtain⟨ox,hox⟩:∃ o:Obj,o=.cells #[Y aS W0.m.slots.length cS,Y aH W0.m.heads.length cH,Y aF W0.m.free.length cF,Y aL W0.m.locks.length cL,O J W0.m.now,Y aT W0.ts.length cT] 28:=⟨_,rfl⟩
 obtain⟨oy,hoy⟩:∃ o:Obj,o=.cells #[Y none 0 0,Y none 0 0,Y none 0 0,Y none 0 0,O J 0,Y none 0 0] 28:=⟨_,rfl⟩
 have b0:Below w.heap.size w ((w.alloc ox).alloc oy):=below_alloc2 w ox oy
 have HX0:Hid (((w.alloc ox).alloc oy).heap[w.heap.size]?=some ox):=by show _=_;rw[Below.heap_alloc _ _ _ (by simp),heap_alloc_new]
 have HY0:Hid (((w.alloc ox).alloc oy).heap[w.heap.size+1]?=some oy):=by
  have:=heap_alloc_new (w.alloc ox) oy
  rwa [show (w.alloc ox).heap.size=w.heap.size+1 by simp] at this
 have HV0:Hid (D8 0 ((w.alloc ox).alloc oy) (.agg #[Y aS W0.m.slots.length cS,Y aH W0.m.heads.length cH,Y aF W0.m.free.length cF,Y aL W0.m.locks.length cL,O J W0.m.now,Y aT W0.ts.length cT]) W0):=hv.below b0
 have Hb0:Hid (Below w.heap.size w ((w.alloc ox).alloc oy)):=b0
 have hz0:w.heap.size+2=((w.alloc ox).alloc oy).heap.size:=by simp
 clear hI hv h hr hrl hbl hs0 hsE hlo b0
 go_enter Tryz.func79,Tryz.ntmps79
 have l6:Hid (((w.alloc (.cells #[Y aS W0.m.slots.length cS,Y aH W0.m.heads.length cH,Y aF W0.m.free.length cF,Y aL W0.m.locks.length cL,O J W0.m.now,Y aT W0.ts.length cT] 28)).alloc (.cells #[Y none 0 0,Y none 0 0,Y none 0 0,Y none 0 0,O J 0,Y none 0 0] 28)).rangeAt w.heap.size 0 [Y aS W0.m.slots.length cS,Y aH W0.m.heads.length cH,Y aF W0.m.free.length cF,Y aL W0.m.locks.length cL,O J W0.m.now,Y aT W0.ts.length cT]):=by subst hox hoy;exact Au HX0.out rfl
 go_wp2_with (refine Ha rfl _ rfl rfl l6.out ?_)
 rw[<- hox,<- hoy]
 rw[<- hox,<- hoy] at l6
 clear l6
 generalize (w.alloc ox).alloc oy=W1 at *
 subst hox hoy
 refine(own_E (Zl HI0.out) HV0.out).mono ?_
 rintro e w2 ⟨v2,rfl,hv2,hb2⟩
 obtain⟨aS2,aH2,aF2,aL2,cS2,cH2,cF2,cL2,aT2,cT2,lt2,rfl,-⟩:=id hv2
 have HX2:Hid (w2.heap[w.heap.size]?=_):=(hb2.block _ (lt_of_block HX0.out)).trans HX0.out
 have HY2:Hid (w2.heap[w.heap.size+1]?=_):=(hb2.block _ (lt_of_block HY0.out)).trans HY0.out
 have t6:Hid (w2.there w.heap.size 0 6):=Az HX2.out (by simp)
 have hz2:=hb2.size
 have Hb2:Hid (Below w.heap.size w w2):=Hb0.out.trans (hb2.mono Hb0.out.size)
 obtain⟨W3,hW3⟩:∃ W3,W3=w2.setCells w.heap.size 0 [Y aS2 W0.m.slots.length cS2,Y aH2 W0.m.heads.length cH2,Y aF2 W0.m.free.length cF2,Y aL2 W0.m.locks.length cL2,O J W0.m.now,Y aT2 W0.ts.length cT2]:=⟨_,rfl⟩
 have ho3:∀ k,k≠w.heap.size->W3.heap[k]?=w2.heap[k]?:=fun k hk=>by rw[hW3];exact Ad hk _ _ _
 have hX3:W3.heap[w.heap.size]?=some (.cells #[Y aS2 W0.m.slots.length cS2,Y aH2 W0.m.heads.length cH2,Y aF2 W0.m.free.length cF2,Y aL2 W0.m.locks.length cL2,O J W0.m.now,Y aT2 W0.ts.length cT2] 28 (0,0)):=by rw[hW3];exact Bi HX2.out rfl
 have hY3:W3.heap[w.heap.size+1]?=some (.cells #[Y none 0 0,Y none 0 0,Y none 0 0,Y none 0 0,O J 0,Y none 0 0] 28 (0,0)):=(ho3 _ (by omega)).trans HY2.out
 have hsz3:W3.heap.size=w2.heap.size:=by rw[hW3];exact setCells_size _ _ _
 have HWi:Hid (WIn W1.heap.size w2.heap.size W3 (.agg #[Y aS2 W0.m.slots.length cS2,Y aH2 W0.m.heads.length cH2,Y aF2 W0.m.free.length cF2,Y aL2 W0.m.locks.length cL2,O J W0.m.now,Y aT2 W0.ts.length cT2]) W0):=hv2.wIn.same fun k h1 h2=>ho3 k (by omega)
 have Hb3:Hid (Below lo w W3):=by
  have h1:Below w.heap.size w W3:=by rw[hW3];exact Aw Hb2.out (Nat.le_refl _)
  exact h1.mono Hlo.out
 have HC3:Hid (Cs lo W1.heap.size w2.heap.size W3 B1 B2 B3 B4 g v1 (Y aP l.length cP) v4 [] [] beg ((w.heap.size,#[Y aS2 W0.m.slots.length cS2,Y aH2 W0.m.heads.length cH2,Y aF2 W0.m.free.length cF2,Y aL2 W0.m.locks.length cL2,O J W0.m.now,Y aT2 W0.ts.length cT2]) :: (w.heap.size+1,#[Y none 0 0,Y none 0 0,Y none 0 0,Y none 0 0,O J 0,Y none 0 0]) :: Zx)):=by
  have h1:Cs lo W1.heap.size w2.heap.size W1 B1 B2 B3 B4 g v1 (Y aP l.length cP) v4 [] [] beg Zx:=(HC0.out.below Hb0.out).turn _
  have h2:=(h1.below hb2).off HX2.out ho3 (fun q hq=>by have:=HZx.out q hq;omega)
  refine h2.more fun q hq=>?_
  simp only[List.mem_cons] at hq
  rcases hq with rfl|rfl|hq
  ·exact hX3
  ·exact hY3
  ·exact h2.z q hq
 clear ho3 hX3 hY3 HX0 HY0 HV0 Hb0 HX2 HY2 hv2 hb2 Hb2 HC0
 go_wp2_with (refine Gz rfl _ _ rfl rfl rfl t6.out (by kernel_rfl) ?_;rw[<- hW3];clear t6 hW3)
 have HZ3:Hid (w.heap.size+1<W1.heap.size/\w2.heap.size<=W3.heap.size):=⟨by omega,by omega⟩
 go_loopw [15] (fun i wr=>∃ (k:Nat) (s:Rs) (a b:Nat) (v1 v4:Value) (pl:List (Pst × Option Addr × Nat)) (aS aH aF aL:Option Addr) (cS cH cF cL:Nat) (aT:Option Addr) (cT:Nat),k<=l.length/\i=O J k/\Hid (Uc k s (l.drop k)=sE)/\Hid (okB (l.drop k) s.w=true)/\Hid (Cs lo a b wr B1 B2 B3 B4 g v1 (Y aP l.length cP) v4 s.said pl s.beg ((w.heap.size,#[Y aS s.w.m.slots.length cS,Y aH s.w.m.heads.length cH,Y aF s.w.m.free.length cF,Y aL s.w.m.locks.length cL,O J s.w.m.now,Y aT s.w.ts.length cT]) :: (w.heap.size+1,#[Y none 0 0,Y none 0 0,Y none 0 0,Y none 0 0,O J 0,Y none 0 0]) :: Zx))/\Hid (pl.map (·.1)=s.past)/\Hid (WIn a b wr (.agg #[Y aS s.w.m.slots.length cS,Y aH s.w.m.heads.length cH,Y aF s.w.m.free.length cF,Y aL s.w.m.locks.length cL,O J s.w.m.now,Y aT s.w.ts.length cT]) s.w)/\Hid (Below lo w wr)/\Hid (w.heap.size+1<a/\b<=wr.heap.size)/\Hid (s.said.length=k/\pl.length<=k/\s.beg.length=s.w.ts.length)) (fun i _=>l.length - (intOf i).toNat)
 case atStart=>exact⟨0,s0,W1.heap.size,w2.heap.size,v1,v4,[],aS2,aH2,aF2,aL2,cS2,cH2,cF2,cL2,aT2,cT2,Nat.zero_le _,rfl,HsE,by rw[Hs0.out];exact HI0,by rw[Hs0.out];exact HC3,by rw[Hs0.out];exact rfl,by rw[Hs0.out];exact HWi,Hb3,HZ3,by rw[Hs0.out];exact⟨rfl,Nat.le_refl _,HBl.out⟩⟩
 case round =>
  obtain⟨k,s,a,b,v1,v4,pl,aS,aH,aF,aL,cS,cH,cF,cL,aT,cT,hk,rfl,HrE,HIw,HC,HPl,HWi',Hb,HZ,HN⟩:=hrel
  clear HC3 HWi Hb3 HZ3 HsE Hs0 HI0 HBl
  have HXb:Hid (wr.heap[w.heap.size]?=some (.cells #[Y aS s.w.m.slots.length cS,Y aH s.w.m.heads.length cH,Y aF s.w.m.free.length cF,Y aL s.w.m.locks.length cL,O J s.w.m.now,Y aT s.w.ts.length cT] 28 (0,0))):=HC.out.z _ (.head _)
  have HYb:Hid (wr.heap[w.heap.size+1]?=some (.cells #[Y none 0 0,Y none 0 0,Y none 0 0,Y none 0 0,O J 0,Y none 0 0] 28 (0,0))):=HC.out.z _ (.tail _ (.head _))
  by_cases hlt:k<l.length
  ·have HRk:Hid (∀ ad,aP=some ad->ad.block<lo):=HRl.out (by omega)
   clear HRl
   rcases HR.out.at_ with h0|⟨bP,oP,rfl,hx⟩
   ·omega
   have hbP:bP<lo:=HRk.out _ rfl
   have lX:Hid (wr.rangeAt bP (oP+k*9) [O J (l[k]).task,.bool (l[k]).step,.bool (l[k]).tick,O J ((l[k]).c).kind,O J ((l[k]).c).a,O J ((l[k]).c).b,O J ((l[k]).c).time,O J ((l[k]).c).bk,O J ((l[k]).c).slot]):=Dp (hx k hlt) Hb.out hbP
   clear hx
   obtain⟨x,hx⟩:∃ x,x=l[k]:=⟨_,rfl⟩
   rw[<- hx] at lX
   have Hx:Hid (x=l[k]):=hx
   clear hx
   have hzw:lo<=wr.heap.size:=by have:=Hlo.out;have:=Hb.out.size;omega
   obtain⟨op,hop⟩:∃ o:Obj,o=.cells #[O J x.task,.bool x.step,.bool x.tick,O J x.c.kind,O J x.c.a,O J x.c.b,O J x.c.time,O J x.c.bk,O J x.c.slot] 34:=⟨_,rfl⟩
   have b2:Below wr.heap.size wr (wr.alloc op):=A7 _ _
   have HX2:Hid ((wr.alloc op).heap[w.heap.size]?=some (.cells #[Y aS s.w.m.slots.length cS,Y aH s.w.m.heads.length cH,Y aF s.w.m.free.length cF,Y aL s.w.m.locks.length cL,O J s.w.m.now,Y aT s.w.ts.length cT] 28 (0,0))):=(b2.block _ (lt_of_block HXb.out)).trans HXb.out
   have HP2:Hid ((wr.alloc op).heap[wr.heap.size]?=some op):=heap_alloc_new _ _
   have HC2:Hid (Cs lo a b (wr.alloc op) B1 B2 B3 B4 g v1 (Y (some ⟨bP,oP,none⟩) l.length cP) v4 s.said pl s.beg ((w.heap.size,#[Y aS s.w.m.slots.length cS,Y aH s.w.m.heads.length cH,Y aF s.w.m.free.length cF,Y aL s.w.m.locks.length cL,O J s.w.m.now,Y aT s.w.ts.length cT]) :: (w.heap.size+1,#[Y none 0 0,Y none 0 0,Y none 0 0,Y none 0 0,O J 0,Y none 0 0]) :: Zx)):=HC.out.below b2
   have HW2:Hid (WIn a b (wr.alloc op) (.agg #[Y aS s.w.m.slots.length cS,Y aH s.w.m.heads.length cH,Y aF s.w.m.free.length cF,Y aL s.w.m.locks.length cL,O J s.w.m.now,Y aT s.w.ts.length cT]) s.w):=HWi'.out.same fun j h1 h2=>b2.block j (by have:=HZ.out.2;omega)
   have Hb2:Hid (Below lo w (wr.alloc op)):=Hb.out.alloc hzw op
   have HZ2:Hid (w.heap.size+1<a/\b<=(wr.alloc op).heap.size/\w.heap.size+1<(wr.alloc op).heap.size):=⟨HZ.out.1,by have:=HZ.out.2;simp;omega,by have:=lt_of_block HYb.out;simp;omega⟩
   subst hop
   have l6:Hid ((wr.alloc (.cells #[O J x.task,.bool x.step,.bool x.tick,O J x.c.kind,O J x.c.a,O J x.c.b,O J x.c.time,O J x.c.bk,O J x.c.slot] 34)).rangeAt w.heap.size 0 [Y aS s.w.m.slots.length cS,Y aH s.w.m.heads.length cH,Y aF s.w.m.free.length cF,Y aL s.w.m.locks.length cL,O J s.w.m.now,Y aT s.w.ts.length cT]):=Au HX2.out rfl
   have lX2:Hid ((wr.alloc (.cells #[O J x.task,.bool x.step,.bool x.tick,O J x.c.kind,O J x.c.a,O J x.c.b,O J x.c.time,O J x.c.bk,O J x.c.slot] 34)).rangeAt wr.heap.size 0 [O J x.task,.bool x.step,.bool x.tick,O J x.c.kind,O J x.c.a,O J x.c.b,O J x.c.time,O J x.c.bk,O J x.c.slot]):=Au HP2.out rfl
   have hzz:wr.heap.size<(wr.alloc (.cells #[O J x.task,.bool x.step,.bool x.tick,O J x.c.kind,O J x.c.a,O J x.c.b,O J x.c.time,O J x.c.bk,O J x.c.slot] 34)).heap.size:=by simp
   clear HXb HYb b2 HC HWi' Hb HZ
   go_wp2_with (first|refine Wh rfl _ rfl rfl lX.out ?_|refine Ha rfl _ rfl rfl l6.out ?_|refine Wh rfl _ rfl rfl lX2.out ?_)
   clear l6 lX2 lX HP2
   generalize World.alloc wr _=W2 at *
   refine(do_E (Zl HIw.out) (x:=x) (HW2.out W2 (fun _ _ _=>rfl))).mono ?_
   rintro e w3 ⟨v3,rfl,hv3,hb3⟩
   obtain⟨E,hE⟩:∃ E,E=doE s.w x:=⟨_,rfl⟩
   rw[<- hE] at hv3 ⊢
   have HE:Hid (E=doE s.w x):=hE
   have Hst:=a9q k s x
   rw[<- hE] at Hst
   have HIx:Hid (okB (l.drop (k+1)) (if doE s.w x=0 then doW s.w x else s.w)=true):=by
    have h1:=HIw.out
    rw[List.drop_eq_getElem_cons hlt,<- Hx.out] at h1
    exact a8j h1
   have HrE':Hid (Uc (k+1) (U4 k s x) (l.drop (k+1))=sE):=by
    have h1:=HrE.out
    rw[List.drop_eq_getElem_cons hlt,<- Hx.out] at h1
    exact h1
   have hz3:=hb3.size
   have Hb3:Hid (Below lo w w3):=Hb2.out.trans (hb3.mono (by have:=Hb2.out.size;have:=Hlo.out;omega))
   have hl300:=Hl.out
   have hN1:=HN.out.1;have hN2:=HN.out.2.1;have hN3:=HN.out.2.2
   clear HrE hE
   by_cases hE0:E=0
   rotate_left
   ·have h':(E==0)=false:=by simpa using hE0
    obtain⟨_,_,_,_,_,_,_,_,_,_,_,rfl,-⟩:=hv3
    have H4:Hid (∀ o:Obj,Cs lo a b (w3.alloc o) B1 B2 B3 B4 g v1 (Y (some ⟨bP,oP,none⟩) l.length cP) v4 s.said pl s.beg ((w.heap.size,#[Y aS s.w.m.slots.length cS,Y aH s.w.m.heads.length cH,Y aF s.w.m.free.length cF,Y aL s.w.m.locks.length cL,O J s.w.m.now,Y aT s.w.ts.length cT]) :: (w.heap.size+1,#[Y none 0 0,Y none 0 0,Y none 0 0,Y none 0 0,O J 0,Y none 0 0]) :: Zx)/\WIn a b (w3.alloc o) (.agg #[Y aS s.w.m.slots.length cS,Y aH s.w.m.heads.length cH,Y aF s.w.m.free.length cF,Y aL s.w.m.locks.length cL,O J s.w.m.now,Y aT s.w.ts.length cT]) s.w/\Below lo w (w3.alloc o)/\(w3.alloc o).rangeAt w.heap.size 0 [Y aS s.w.m.slots.length cS,Y aH s.w.m.heads.length cH,Y aF s.w.m.free.length cF,Y aL s.w.m.locks.length cL,O J s.w.m.now,Y aT s.w.ts.length cT]/\b<=(w3.alloc o).heap.size/\Jz (w3.alloc o) (some ⟨bP,oP,none⟩) cP l):=fun o =>
     have b4:Below W2.heap.size W2 (w3.alloc o):=hb3.alloc hb3.size o
     have b5:Below lo w (w3.alloc o):=Hb3.out.alloc (by have:=Hb3.out.size;have:=Hlo.out;omega) o
     ⟨HC2.out.below b4,HW2.out.same fun j h1 h2=>b4.block j (by have:=HZ2.out.2.1;omega),b5,Au ((b4.block _ (lt_of_block HX2.out)).trans HX2.out) rfl,by have:=HZ2.out.2.1;simp;omega,HR.out.low b5 HRk.out⟩
    have HIy:Hid (okB (l.drop (k+1)) s.w=true):=by have h1:=HIx.out;rw[<- HE.out,if_neg hE0] at h1;exact h1
    rw[show Vl s.w x=s.w by unfold Vl;rw[<- HE.out,if_neg hE0]] at Hst
    have Hst':Hid (U4 k s x=_):=Hst
    have HE0:Hid (E≠0):=hE0
    clear HC2 HW2 HX2 Hb2 Hb3 hb3 Hst hE0
    go_wp2_with (refine Ha rfl _ rfl rfl (H4.out _).2.2.2.1 ?_)
    refine(a3h lo a b _ B1 B2 B3 B4 g (some ⟨bP,oP,none⟩) cP l v1 v4 s.said pl s.beg _ s.w _ k E (H4.out _).1 (H4.out _).2.2.2.2.1 (H4.out _).2.2.2.2.2 HRk.out hlt (by omega) (by omega) (H4.out _).2.1 (fun h=>(HE0.out h).elim) hN3).mono ?_
    rintro e w5 ⟨v15,v45,pl5,rfl,hC5,hpl5,hb5,hw5⟩
    rw[<- Hx.out] at hC5 hpl5
    have HRel:Hid (WIn a b w5 (.agg #[Y aS s.w.m.slots.length cS,Y aH s.w.m.heads.length cH,Y aF s.w.m.free.length cF,Y aL s.w.m.locks.length cL,O J s.w.m.now,Y aT s.w.ts.length cT]) s.w/\Below lo w w5/\b<=w5.heap.size):=⟨(H4.out _).2.1.same hw5,(H4.out _).2.2.1.trans hb5,by have:=(H4.out (.cells #[] 0)).2.2.2.2.1;have:=hb5.size;simp at *;omega⟩
    have HC5:Hid (Cs lo a b w5 B1 B2 B3 B4 g v15 (Y (some ⟨bP,oP,none⟩) l.length cP) v45 (s.said ++ [E]) pl5 (U9 x E k s.beg) ((w.heap.size,#[Y aS s.w.m.slots.length cS,Y aH s.w.m.heads.length cH,Y aF s.w.m.free.length cF,Y aL s.w.m.locks.length cL,O J s.w.m.now,Y aT s.w.ts.length cT]) :: (w.heap.size+1,#[Y none 0 0,Y none 0 0,Y none 0 0,Y none 0 0,O J 0,Y none 0 0]) :: Zx)):=hC5
    have HP5:Hid (pl5.map (·.1)=Ua x E k s.beg s.w (pl.map (·.1))):=hpl5
    clear hC5 hpl5 hb5 hw5 H4
    go_wp2
    go_roundw
    case rel=>exact⟨k+1,U4 k s x,a,b,v15,v45,pl5,aS,aH,aF,aL,cS,cH,cF,cL,aT,cT,by omega,by go_num,HrE',by rw[Hst'.out];exact HIy,by rw[Hst'.out];exact HC5,by rw[Hst'.out];exact(HP5.out.trans (by rw[HPl.out])),by rw[Hst'.out];exact HRel.out.1,HRel.out.2.1,⟨HZ2.out.1,HRel.out.2.2⟩,by rw[Hst'.out];exact⟨by simp[hN1],by have:=congrArg List.length HP5.out;rw[List.length_map] at this;have:=Zg x E k s.beg s.w (pl.map (·.1));rw[List.length_map] at this;omega,(Zf x E k s.beg).trans hN3⟩⟩
    case measure=>simp[intOf];omega
   ·have HdE:Hid (doE s.w x=0):=HE.out.symm.trans hE0
    rw[if_pos hE0] at hv3
    obtain⟨W',hW'⟩:∃ W',W'=doW s.w x:=⟨_,rfl⟩
    rw[<- hW'] at hv3
    rw[show Vl s.w x=W' by unfold Vl;rw[HdE.out,if_pos rfl,hW']] at Hst
    have HW':Hid (W'=doW s.w x):=hW'
    have HIn:Hid (okB (l.drop (k+1)) W'=true):=by have h1:=HIx.out;rw[if_pos HdE.out] at h1;show _=_;rw[hW'];exact h1
    have HLn:Hid (W'.ts.length=s.w.ts.length/\(x.tick=false->0<=x.task/\x.task<s.w.ts.length)):=by have:=b3f HdE.out;rw[<- hW'] at this;exact this
    have Hst':Hid (U4 k s x=_):=Hst
    clear hW' Hst
    subst hE0
    obtain⟨aS1,aH1,aF1,aL1,cS1,cH1,cF1,cL1,aT1,cT1,lt1,rfl,-⟩:=id hv3
    obtain⟨oq,hoq⟩:∃ o:Obj,o=.cells #[Y aS1 W'.m.slots.length cS1,Y aH1 W'.m.heads.length cH1,Y aF1 W'.m.free.length cF1,Y aL1 W'.m.locks.length cL1,O J W'.m.now,Y aT1 W'.ts.length cT1] 28:=⟨_,rfl⟩
    have b4:Below W2.heap.size W2 (w3.alloc oq):=hb3.alloc hb3.size oq
    have HY4:Hid ((w3.alloc oq).heap[w3.heap.size]?=some oq):=heap_alloc_new _ _
    have hX4:(w3.alloc oq).heap[w.heap.size]?=some (.cells #[Y aS s.w.m.slots.length cS,Y aH s.w.m.heads.length cH,Y aF s.w.m.free.length cF,Y aL s.w.m.locks.length cL,O J s.w.m.now,Y aT s.w.ts.length cT] 28 (0,0)):=(b4.block _ (lt_of_block HX2.out)).trans HX2.out
    have hC4:Cs lo W2.heap.size w3.heap.size (w3.alloc oq) B1 B2 B3 B4 g v1 (Y (some ⟨bP,oP,none⟩) l.length cP) v4 s.said pl s.beg ((w.heap.size,#[Y aS s.w.m.slots.length cS,Y aH s.w.m.heads.length cH,Y aF s.w.m.free.length cF,Y aL s.w.m.locks.length cL,O J s.w.m.now,Y aT s.w.ts.length cT]) :: (w.heap.size+1,#[Y none 0 0,Y none 0 0,Y none 0 0,Y none 0 0,O J 0,Y none 0 0]) :: Zx):=((HC2.out.turn w3.heap.size).below b4)
    have hW4:WIn W2.heap.size w3.heap.size (w3.alloc oq) (.agg #[Y aS1 W'.m.slots.length cS1,Y aH1 W'.m.heads.length cH1,Y aF1 W'.m.free.length cF1,Y aL1 W'.m.locks.length cL1,O J W'.m.now,Y aT1 W'.ts.length cT1]) W':=hv3.wIn.same fun j h1 h2=>(A7 _ _).block j h2
    have Hb4:Hid (Below lo w (w3.alloc oq)):=Hb3.out.alloc (by have:=Hb3.out.size;have:=Hlo.out;omega) oq
    have t8:Hid ((w3.alloc oq).there w.heap.size 0 6):=Az hX4 (by simp)
    obtain⟨W5,hW5⟩:∃ W5,W5=(w3.alloc oq).setCells w.heap.size 0 [Y aS1 W'.m.slots.length cS1,Y aH1 W'.m.heads.length cH1,Y aF1 W'.m.free.length cF1,Y aL1 W'.m.locks.length cL1,O J W'.m.now,Y aT1 W'.ts.length cT1]:=⟨_,rfl⟩
    have ho5:∀ j,j≠w.heap.size->W5.heap[j]?=(w3.alloc oq).heap[j]?:=fun j hj=>by rw[hW5];exact Ad hj _ _ _
    have hX5:W5.heap[w.heap.size]?=some (.cells #[Y aS1 W'.m.slots.length cS1,Y aH1 W'.m.heads.length cH1,Y aF1 W'.m.free.length cF1,Y aL1 W'.m.locks.length cL1,O J W'.m.now,Y aT1 W'.ts.length cT1] 28 (0,0)):=by rw[hW5];exact Bi hX4 rfl
    have hs5:W5.heap.size=w3.heap.size+1:=by rw[hW5,setCells_size];simp
    have HC5:Hid (Cs lo W2.heap.size w3.heap.size W5 B1 B2 B3 B4 g v1 (Y (some ⟨bP,oP,none⟩) l.length cP) v4 s.said pl s.beg ((w.heap.size,#[Y aS1 W'.m.slots.length cS1,Y aH1 W'.m.heads.length cH1,Y aF1 W'.m.free.length cF1,Y aL1 W'.m.locks.length cL1,O J W'.m.now,Y aT1 W'.ts.length cT1]) :: (w.heap.size+1,#[Y none 0 0,Y none 0 0,Y none 0 0,Y none 0 0,O J 0,Y none 0 0]) :: Zx)):=by
     have hY4:=hC4.z (w.heap.size+1,#[Y none 0 0,Y none 0 0,Y none 0 0,Y none 0 0,O J 0,Y none 0 0]) (.tail _ (.head _))
     have h2:=(hC4.more (Z':=Zx) (fun q hq=>hC4.z q (.tail _ (.tail _ hq)))).off hX4 ho5 (fun q hq=>by have:=HZx.out q hq;omega)
     refine h2.more fun q hq=>?_
     simp only[List.mem_cons] at hq
     rcases hq with rfl|rfl|hq
     ·exact hX5
     ·exact(ho5 _ (by omega)).trans hY4
     ·exact h2.z q hq
    have hzx:=HZ2.out.2.2
    have HW5:Hid (WIn W2.heap.size w3.heap.size W5 (.agg #[Y aS1 W'.m.slots.length cS1,Y aH1 W'.m.heads.length cH1,Y aF1 W'.m.free.length cF1,Y aL1 W'.m.locks.length cL1,O J W'.m.now,Y aT1 W'.ts.length cT1]) W'):=hW4.same fun j h1 h2=>ho5 j (by omega)
    have Hb5:Hid (Below lo w W5):=by show Below lo w W5;rw[hW5];exact Aw Hb4.out Hlo.out
    have l9:Hid (W5.rangeAt w.heap.size 0 [Y aS1 W'.m.slots.length cS1,Y aH1 W'.m.heads.length cH1,Y aF1 W'.m.free.length cF1,Y aL1 W'.m.locks.length cL1,O J W'.m.now,Y aT1 W'.ts.length cT1]):=Au hX5 rfl
    have HR5:Hid (Jz W5 (some ⟨bP,oP,none⟩) cP l):=HR.out.low Hb5.out HRk.out
    have HZ5:Hid (w.heap.size+1<W2.heap.size/\w3.heap.size<=W5.heap.size):=⟨hzx,by omega⟩
    subst hoq
    have l7:Hid ((w3.alloc (.cells #[Y aS1 W'.m.slots.length cS1,Y aH1 W'.m.heads.length cH1,Y aF1 W'.m.free.length cF1,Y aL1 W'.m.locks.length cL1,O J W'.m.now,Y aT1 W'.ts.length cT1] 28)).rangeAt w3.heap.size 0 [Y aS1 W'.m.slots.length cS1,Y aH1 W'.m.heads.length cH1,Y aF1 W'.m.free.length cF1,Y aL1 W'.m.locks.length cL1,O J W'.m.now,Y aT1 W'.ts.length cT1]):=Au HY4.out rfl
    clear HC2 HW2 HX2 Hb2 Hb3 hb3 hX4 hC4 hW4 Hb4 ho5 hX5 HY4 hv3 b4
    go_wp2_with (first|refine Ha rfl _ rfl rfl l7.out ?_|(refine Gz rfl _ _ rfl rfl rfl t8.out (by kernel_rfl) ?_;rw[<- hW5];clear hW5 t8 l7)|refine Ha rfl _ rfl rfl l9.out ?_)
    refine(a3h lo W2.heap.size w3.heap.size W5 B1 B2 B3 B4 g (some ⟨bP,oP,none⟩) cP l v1 v4 s.said pl s.beg _ W' _ k 0 HC5.out HZ5.out.2 HR5.out HRk.out hlt (by omega) (by omega) HW5.out (fun _ h=>by rw[<- Hx.out] at h ⊢;rw[HLn.out.1];exact HLn.out.2 h) (hN3.trans HLn.out.1.symm)).mono ?_
    rintro e w6 ⟨v15,v45,pl5,rfl,hC5,hpl5,hb5,hw5⟩
    rw[<- Hx.out] at hC5 hpl5
    have HRel:Hid (WIn W2.heap.size w3.heap.size w6 (.agg #[Y aS1 W'.m.slots.length cS1,Y aH1 W'.m.heads.length cH1,Y aF1 W'.m.free.length cF1,Y aL1 W'.m.locks.length cL1,O J W'.m.now,Y aT1 W'.ts.length cT1]) W'/\Below lo w w6/\w3.heap.size<=w6.heap.size):=⟨HW5.out.same hw5,Hb5.out.trans hb5,by have:=HZ5.out.2;have:=hb5.size;omega⟩
    have HC6:Hid (Cs lo W2.heap.size w3.heap.size w6 B1 B2 B3 B4 g v15 (Y (some ⟨bP,oP,none⟩) l.length cP) v45 (s.said ++ [0]) pl5 (U9 x 0 k s.beg) ((w.heap.size,#[Y aS1 W'.m.slots.length cS1,Y aH1 W'.m.heads.length cH1,Y aF1 W'.m.free.length cF1,Y aL1 W'.m.locks.length cL1,O J W'.m.now,Y aT1 W'.ts.length cT1]) :: (w.heap.size+1,#[Y none 0 0,Y none 0 0,Y none 0 0,Y none 0 0,O J 0,Y none 0 0]) :: Zx)):=hC5
    have HP5:Hid (pl5.map (·.1)=Ua x 0 k s.beg W' (pl.map (·.1))):=hpl5
    clear hC5 hpl5 hb5 hw5 HC5 HW5 Hb5 l9 HR5
    go_wp2
    go_roundw
    case rel=>exact⟨k+1,U4 k s x,W2.heap.size,w3.heap.size,v15,v45,pl5,aS1,aH1,aF1,aL1,cS1,cH1,cF1,cL1,aT1,cT1,by omega,by go_num,HrE',by rw[Hst'.out];exact HIn,by rw[Hst'.out];exact HC6,by rw[Hst'.out];exact(HP5.out.trans (by rw[HPl.out])),by rw[Hst'.out];exact HRel.out.1,HRel.out.2.1,⟨HZ5.out.1,HRel.out.2.2⟩,by rw[Hst'.out];exact⟨by simp[hN1],by have:=congrArg List.length HP5.out;rw[List.length_map] at this;have:=Zg x 0 k s.beg W' (pl.map (·.1));rw[List.length_map] at this;omega,(Zf x 0 k s.beg).trans (hN3.trans HLn.out.1.symm)⟩⟩
    case measure=>simp[intOf];omega
  ·have hkE:k=l.length:=by omega
   have HsE:Hid (s=sE):=by
    have h1:=HrE.out
    rw[hkE,List.drop_length] at h1
    exact h1
   have l6:Hid (wr.rangeAt w.heap.size 0 [Y aS s.w.m.slots.length cS,Y aH s.w.m.heads.length cH,Y aF s.w.m.free.length cF,Y aL s.w.m.locks.length cL,O J s.w.m.now,Y aT s.w.ts.length cT]):=Au HXb.out rfl
   have t6:Hid (wr.there (w.heap.size+1) 0 6):=Az HYb.out (by simp)
   obtain⟨W5,hW5⟩:∃ W5,W5=wr.setCells (w.heap.size+1) 0 [Y aS s.w.m.slots.length cS,Y aH s.w.m.heads.length cH,Y aF s.w.m.free.length cF,Y aL s.w.m.locks.length cL,O J s.w.m.now,Y aT s.w.ts.length cT]:=⟨_,rfl⟩
   have ho5:∀ j,j≠w.heap.size+1->W5.heap[j]?=wr.heap[j]?:=fun j hj=>by rw[hW5];exact Ad hj _ _ _
   have HX5:Hid (W5.heap[w.heap.size+1]?=some (.cells #[Y aS s.w.m.slots.length cS,Y aH s.w.m.heads.length cH,Y aF s.w.m.free.length cF,Y aL s.w.m.locks.length cL,O J s.w.m.now,Y aT s.w.ts.length cT] 28 (0,0))):=by show _=_;rw[hW5];exact Bi HYb.out rfl
   have HC5:Hid (Cs lo 0 0 W5 B1 B2 B3 B4 g v1 (Y aP l.length cP) v4 s.said pl s.beg Zx):=(HC.out.wide.more (Z':=Zx) (fun q hq=>HC.out.z q (.tail _ (.tail _ hq)))).off HYb.out ho5 (fun q hq=>by have:=HZx.out q hq;omega)
   have HW5:Hid (D8 w.heap.size W5 (.agg #[Y aS s.w.m.slots.length cS,Y aH s.w.m.heads.length cH,Y aF s.w.m.free.length cF,Y aL s.w.m.locks.length cL,O J s.w.m.now,Y aT s.w.ts.length cT]) s.w):=(HWi'.out W5 fun j h1 h2=>ho5 j (by have:=HZ.out.1;omega)).mono (by have:=HZ.out.1;omega)
   have Hb5:Hid (Below lo w W5):=by show Below lo w W5;rw[hW5];exact Aw Hb.out (by have:=Hlo.out;omega)
   clear ho5 HC HWi' Hb HXb HYb HrE
   go_wp2_with (first|refine Ha rfl _ rfl rfl l6.out ?_|(refine Gz rfl _ _ rfl rfl rfl t6.out (by kernel_rfl) ?_;rw[<- hW5];clear hW5 t6 l6))
   exact bodyPost_ret (results_cell_row Tryz.results79 _ _ (w.heap.size+1) 28 _ (0,0) _ rfl HX5.out Tryz.underlying28 rfl (by kernel_rfl)) rfl ⟨_,v1,v4,pl,rfl,by rw[<- HsE.out];exact HC5.out,by rw[<- HsE.out];exact HPl.out,by rw[<- HsE.out];exact HW5.out,Hb5.out⟩
end
section
theorem a4z(n:Nat):(madeCells (Value.int .i64 0).cells (n*1))=(encI ((List.replicate n 0).map Int.ofNat)).toArray:=by
 apply Array.ext'
 rw[Nat.mul_one]
 apply List.ext_getElem?
 intro j
 by_cases hj:j<n
 ·simp[madeCells,encI,hj,Value.cells,Nat.mod_one]
 ·rw[List.getElem?_eq_none (by simp[madeCells];omega),List.getElem?_eq_none (by simp[encI];omega)]
theorem P9{W:Wq}{n B i:Nat}{cs:Array Value}{t:TypeId}{v:Value}(h:W.heap[B]?=some (.cells cs t (0,0)))(hv:cs[i]?=some v):Below n W (W.setCell ⟨B,i,none⟩ v):=by
 have h1:(W.setCell ⟨B,i,none⟩ v).heap[B]?=W.heap[B]?:=by
  rw[block_setCell (i:=i) h,h]
  congr 2
  apply Array.ext'
  have hi:=(Array.getElem?_eq_some_iff.1 hv).1
  have he:=(Array.getElem?_eq_some_iff.1 hv).2
  apply List.ext_getElem?
  intro j
  by_cases e:i=j
  ·subst e;simp[hi,he]
  ·simp[e]
 have h2:Below 0 W (W.setCell ⟨B,i,none⟩ v):=(Below.refl 0 W).setCell (Nat.zero_le _) v
 refine⟨h2.os,h2.tape,h2.output,h2.size,fun k _=>?_⟩
 by_cases e:k=B
 ·subst e;exact h1
 ·exact Below.heap_setCell _ _ _ _ (by dsimp only;exact e)
theorem Na{B:Nat}{t:TypeId}{cs:Array Value}{n:Nat}:∀ (vs:List Value) (o:Nat) (W:Wq),W.heap[B]?=some (.cells cs t (0,0))->(∀ j,j<vs.length->cs[o+j]?=vs[j]?)->Below n W (W.setCells B o vs)
 | [],o,W,_,_=>Below.refl _ _
 | v :: vs,o,W,h,hv=>by
  have h1:∀ m,Below m W (W.setCell ⟨B,o,none⟩ v):=fun m=>P9 h (by have:=hv 0 (by simp);simpa using this)
  have h2:(W.setCell ⟨B,o,none⟩ v).heap[B]?=some (.cells cs t (0,0)):=((h1 W.heap.size).block _ (lt_of_block h)).trans h
  have h3:=Na (n:=n) vs (o+1) (W.setCell ⟨B,o,none⟩ v) h2 (fun j hj=>by have:=hv (j+1) (by simp;omega);rw[show o+1+j=o+(j+1) by omega];simpa using this)
  exact(h1 n).trans h3
theorem Un{B:Nat}{t:TypeId}{vs:List Value}{cs:Array Value}{n:Nat}{W:Wq}(h:W.heap[B]?=some (.cells cs t (0,0)))(e:cs=vs.toArray):Below n W (W.setCells B 0 vs) :=
 Na vs 0 W h fun j _=>by rw[e];simp
def Uk(x:Nat->Value):Act:=⟨#[x 0,x 1,x 2,x 3,x 4,x 5,x 6,x 7,x 8,x 9,x 10,x 11,x 12,x 13,x 14,x 15,x 16,x 17,x 18,x 19,x 20,x 21,x 22,x 23,x 24,x 25,x 26,x 27,x 28,x 29,x 30],[]⟩
def RunP(w:Wq)(s:Rs)(e:Ending)(w':Wq):Prop :=
 ∃ v v1 v4 pl,e=.returned (.tuple #[v,v1,v4,O J 0])/\D8 w.heap.size w' v s.w/\w'.ownsRow w.heap.size 36 1 v1 s.said.length (encI s.said)/\w'.ownsRow w.heap.size 78 13 v4 pl.length (a4g pl)/\(∀ q∈pl,Dk w' w.heap.size q.2.1 q.2.2 q.1.keys)/\pl.map (·.1)=s.past/\Below w.heap.size w w'
theorem b4d{W:Wd}(v:Value)(aP:Option Addr)(cP:Nat)(l:List Pk)(w:Wq)(hv:D8 0 w v W)(hr:Jz w aP cP l)(hl:l.length<=300)(I:okB l W=true) :
  Calls Pg 35 #[v,Y aP l.length cP] w (RunP w (Uc 0 (rs0 W) l)):=by
 have m1:=hr.max
 have hnt:1<=W.ts.length/\W.ts.length<=5:=⟨(Jd.1 (Zl I)).2.1,(Jd.1 (Zl I)).2.2.1⟩
 have hrl:0<l.length->∀ ad,aP=some ad->ad.block<w.heap.size:=fun h0 ad e=>by
  rcases hr.at_ with h|⟨b,o,rfl,hc⟩
  ·omega
  ·cases e
   exact cell_lt (hc 0 h0 0 _ rfl)
 have HI:Hid (okB l W=true):=I
 have HV:Hid (D8 0 w v W):=hv
 have HR:Hid (Jz w aP cP l):=hr
 have HRl:Hid (0<l.length->∀ ad,aP=some ad->ad.block<w.heap.size):=hrl
 obtain⟨sE,hsE⟩:∃ sE:Rs,sE=Uc 0 (rs0 W) l:=⟨_,rfl⟩
 rw[<- hsE]
 have HsE:Hid (sE=Uc 0 (rs0 W) l):=hsE
 obtain⟨aS,aH,aF,aL,cS,cH,cF,cL,aT,cT,lt,rfl,-⟩:=id hv
 obtain⟨o0,ho0⟩:∃ o:Obj,o=.cells #[Y aS W.m.slots.length cS,Y aH W.m.heads.length cH,Y aF W.m.free.length cF,Y aL W.m.locks.length cL,O J W.m.now,Y aT W.ts.length cT] 28:=⟨_,rfl⟩
 obtain⟨o1,ho1⟩:∃ o:Obj,o=.cells #[Y aP l.length cP] 54:=⟨_,rfl⟩
 obtain⟨o2,ho2⟩:∃ o:Obj,o=.cells #[Y none 0 0,Y none 0 0,Y none 0 0,Y none 0 0,O J 0,Y none 0 0] 28:=⟨_,rfl⟩
 obtain⟨o3,ho3⟩:∃ o:Obj,o=.cells #[Y none 0 0] 68:=⟨_,rfl⟩
 obtain⟨o4,ho4⟩:∃ o:Obj,o=.cells #[Y none 0 0] 69:=⟨_,rfl⟩
 have HE0:Hid (Env w (((((w.alloc o0).alloc o1).alloc o2).alloc o3).alloc o4) [(w.heap.size+4,o4),(w.heap.size+3,o3),(w.heap.size+2,o2),(w.heap.size+1,o1),(w.heap.size,o0)] []):=by
  have h:=(((((⟨Below.refl _ _,(fun p hp=>by cases hp),(fun p hp=>by cases hp)⟩:Env w w [] []).alloc o0).alloc o1).alloc o2).alloc o3).alloc o4
  rw[show (w.alloc o0).heap.size=w.heap.size+1 by simp,show ((w.alloc o0).alloc o1).heap.size=w.heap.size+2 by simp,show (((w.alloc o0).alloc o1).alloc o2).heap.size=w.heap.size+3 by simp,show ((((w.alloc o0).alloc o1).alloc o2).alloc o3).heap.size=w.heap.size+4 by simp] at h
  exact h
 clear I hv hr hrl hsE
 go_enter Tryz.func35,Tryz.ntmps35
 have l6:Hid ((((((w.alloc (.cells #[Y aS W.m.slots.length cS,Y aH W.m.heads.length cH,Y aF W.m.free.length cF,Y aL W.m.locks.length cL,O J W.m.now,Y aT W.ts.length cT] 28)).alloc (.cells #[Y aP l.length cP] 54)).alloc (.cells #[Y none 0 0,Y none 0 0,Y none 0 0,Y none 0 0,O J 0,Y none 0 0] 28)).alloc (.cells #[Y none 0 0] 68)).alloc (.cells #[Y none 0 0] 69)).rangeAt w.heap.size 0 [Y aS W.m.slots.length cS,Y aH W.m.heads.length cH,Y aF W.m.free.length cF,Y aL W.m.locks.length cL,O J W.m.now,Y aT W.ts.length cT]):=by subst ho0 ho1 ho2 ho3 ho4;exact Au (HE0.out.box _ (.tail _ (.tail _ (.tail _ (.tail _ (.head _)))))) rfl
 go_wp2_with (refine Ha rfl _ rfl rfl l6.out ?_)
 rw[<- ho0,<- ho1,<- ho2,<- ho3,<- ho4]
 rw[<- ho0,<- ho1,<- ho2,<- ho3,<- ho4] at l6
 clear l6
 generalize ((((w.alloc o0).alloc o1).alloc o2).alloc o3).alloc o4=W0 at *
 refine(a2y (Zl HI.out) (HV.out.below HE0.out.bl)).mono ?_
 rintro e w1 ⟨rfl,hb1⟩
 have HE1:Hid (Env w w1 [(w.heap.size+4,o4),(w.heap.size+3,o3),(w.heap.size+2,o2),(w.heap.size+1,o1),(w.heap.size,o0)] []):=HE0.out.below hb1
 clear HE0 hb1
 subst ho0 ho1 ho2 ho3 ho4
 obtain⟨n,hn⟩:∃ n,n=W.ts.length:=⟨_,rfl⟩
 have Hn:Hid (n=W.ts.length):=hn
 obtain⟨G,hG⟩:∃ G:Array Value,G=(encI ((List.replicate n 0).map Int.ofNat)).toArray:=⟨_,rfl⟩
 obtain⟨i0,hi0,hz0,hz1,hz2⟩:=info_parts iI
 have hmk:∀ V:Wq,(Instr.makeSlice 23 (O J (W.ts.length:Int)) (O J (W.ts.length:Int))).run Pg V=.ok (Y (some ⟨V.heap.size,0,none⟩) W.ts.length W.ts.length) (V.alloc (.cells G 3)):=fun V=>by
  have h:=run_make (P:=Pg) V 23 3 i0 _ Tryz.underlying23 hi0 hz0 .i64 .i64 (W.ts.length:Int) (W.ts.length:Int) (by omega) (Int.le_refl _) (by rw[hz2];omega) (by omega)
  simp only[Int.toNat_natCast,hz1] at h
  rw[hG,hn,<- a4z];exact h
 have HG:Hid (G=(encI ((List.replicate n 0).map Int.ofNat)).toArray):=hG
 have Hb0:=HE1.out.box (w.heap.size,_) (.tail _ (.tail _ (.tail _ (.tail _ (.head _)))))
 obtain⟨q1,f1,s1⟩:=Ar (HE1.out.box (w.heap.size+1,_) (.tail _ (.tail _ (.tail _ (.head _)))))
 obtain⟨z0,z1,z2,z3,z4,z5,zs⟩:=Bc Hb0
 obtain⟨oB,hoB⟩:∃ o:Obj,o=.cells #[Y (some ⟨w1.heap.size,0,none⟩) W.ts.length W.ts.length] 23:=⟨_,rfl⟩
 have HE2:Hid (Env w ((w1.alloc (.cells G 3)).alloc oB) [(w1.heap.size+1,oB),(w1.heap.size,.cells G 3),(w.heap.size+4,.cells #[Y none 0 0] 69),(w.heap.size+3,.cells #[Y none 0 0] 68),(w.heap.size+2,.cells #[Y none 0 0,Y none 0 0,Y none 0 0,Y none 0 0,O J 0,Y none 0 0] 28),(w.heap.size+1,.cells #[Y aP l.length cP] 54),(w.heap.size,.cells #[Y aS W.m.slots.length cS,Y aH W.m.heads.length cH,Y aF W.m.free.length cF,Y aL W.m.locks.length cL,O J W.m.now,Y aT W.ts.length cT] 28)] []):=by
  have h:=(HE1.out.alloc (.cells G 3)).alloc oB
  rw[show (w1.alloc (.cells G 3)).heap.size=w1.heap.size+1 by simp] at h
  exact h
 obtain⟨W2,hW2⟩:∃ W2,W2=(w1.alloc (.cells G 3)).alloc oB:=⟨_,rfl⟩
 rw[<- hW2] at HE2
 rw[hoB] at hW2 HE2
 have hz1':w.heap.size<=w1.heap.size:=HE1.out.bl.size
 have l6:Hid (W2.rangeAt w.heap.size 0 [Y aS W.m.slots.length cS,Y aH W.m.heads.length cH,Y aF W.m.free.length cF,Y aL W.m.locks.length cL,O J W.m.now,Y aT W.ts.length cT]):=Au (HE2.out.box (w.heap.size,_) (.tail _ (.tail _ (.tail _ (.tail _ (.tail _ (.tail _ (.head _)))))))) rfl
 have q1':=(Ar (HE2.out.box (w.heap.size+1,_) (.tail _ (.tail _ (.tail _ (.tail _ (.tail _ (.head _)))))))).1
 have HC2:Hid (Cs w.heap.size 0 0 W2 (w.heap.size+3) (w.heap.size+1) (w1.heap.size+1) (w.heap.size+4) w1.heap.size (Y none 0 0) (Y aP l.length cP) (Y none 0 0) [] [] (List.replicate W.ts.length 0) [(w.heap.size+2,#[Y none 0 0,Y none 0 0,Y none 0 0,Y none 0 0,O J 0,Y none 0 0])]):=by
  have hz:∀ k,Out 0 0 k:=fun k hx=>by have:=hx.2;omega
  refine⟨HE2.out.box (w.heap.size+3,_) (.tail _ (.tail _ (.tail _ (.head _)))),World.ownsRow_nil _ _ _ _,fun k _=>hz k,?_,?_,hz _,HE2.out.box (w.heap.size+4,_) (.tail _ (.tail _ (.head _))),World.ownsRow_nil _ _ _ _,fun k _=>hz k,fun q hq=>(by cases hq),⟨by omega,hz _⟩,⟨by omega,hz _⟩,⟨by omega,hz _⟩,by omega,HE2.out.box (w.heap.size+1,_) (.tail _ (.tail _ (.tail _ (.tail _ (.tail _ (.head _)))))),⟨by omega,hz _⟩,?_⟩
  ·rw[List.length_replicate];exact HE2.out.box (w1.heap.size+1,_) (.head _)
  ·rw[<- Hn.out,<- HG.out];exact HE2.out.box (w1.heap.size,_) (.tail _ (.head _))
  ·intro q hq
   rw[List.mem_singleton] at hq
   subst hq
   exact HE2.out.box (w.heap.size+2,_) (.tail _ (.tail _ (.tail _ (.tail _ (.head _)))))
 have Hb2:Hid (Below w.heap.size w W2):=HE2.out.bl
 clear hoB hG hn hi0 hz0 hz1 hz2 HE1 HE2 Hb0 Hn HG
 have hl':(l.length:Int)<=300:=by omega
 go_wp2_with (first|(rw[<- hW2];refine Ha rfl _ rfl rfl l6.out ?_)|refine Ha rfl _ rfl rfl l6.out ?_)
 rw[<- hW2]
 clear hW2 l6 hmk z0 z1 z2 z3 z4 z5 zs q1 f1 s1 q1'
 refine(a0y w.heap.size W2 (w.heap.size+3) (w.heap.size+1) (w1.heap.size+1) (w.heap.size+4) w1.heap.size aP cP l _ _ (List.replicate W.ts.length 0) _ W _ HI.out (HV.out.below Hb2.out) HC2.out (HR.out.below Hb2.out) HRl.out hl (by simp) Hb2.out.size).mono ?_
 rintro e w3 ⟨v3,v1,v4,pl,rfl,hC3,hpl,hv3,hb3⟩
 rw[show Uc 0 ⟨W,[],[],List.replicate W.ts.length 0⟩ l=sE from HsE.out.symm] at hC3 hpl hv3
 obtain⟨aS3,aH3,aF3,aL3,cS3,cH3,cF3,cL3,aT3,cT3,lt3,rfl,-⟩:=id hv3
 have hO3:=hC3.z (w.heap.size+2,#[Y none 0 0,Y none 0 0,Y none 0 0,Y none 0 0,O J 0,Y none 0 0]) (.head _)
 have t6:Hid (w3.there (w.heap.size+2) 0 6):=Az hO3 (by simp)
 have hz4:w.heap.size+4<W2.heap.size:=lt_of_block HC2.out.p
 have b3:Below w.heap.size w w3:=Hb2.out.trans hb3
 obtain⟨W4,hW4⟩:∃ W4,W4=w3.setCells (w.heap.size+2) 0 [Y aS3 sE.w.m.slots.length cS3,Y aH3 sE.w.m.heads.length cH3,Y aF3 sE.w.m.free.length cF3,Y aL3 sE.w.m.locks.length cL3,O J sE.w.m.now,Y aT3 sE.w.ts.length cT3]:=⟨_,rfl⟩
 have ho4:∀ j,j≠w.heap.size+2->W4.heap[j]?=w3.heap[j]?:=fun j hj=>by rw[hW4];exact Ad hj _ _ _
 have HX4:Hid (W4.heap[w.heap.size+2]?=some (.cells #[Y aS3 sE.w.m.slots.length cS3,Y aH3 sE.w.m.heads.length cH3,Y aF3 sE.w.m.free.length cF3,Y aL3 sE.w.m.locks.length cL3,O J sE.w.m.now,Y aT3 sE.w.ts.length cT3] 28 (0,0))):=by show _=_;rw[hW4];exact Bi hO3 rfl
 have HC4:Hid (Cs w.heap.size 0 0 W4 (w.heap.size+3) (w.heap.size+1) (w1.heap.size+1) (w.heap.size+4) w1.heap.size v1 (Y aP l.length cP) v4 sE.said pl sE.beg []):=(hC3.more (Z':=[]) (fun q hq=>by cases hq)).off hO3 ho4 (fun q hq=>by cases hq)
 obtain⟨a1,k1,rfl⟩:=Aq HC4.out.so
 obtain⟨a4,k4,rfl⟩:=Aq HC4.out.po
 have HV4:Hid (D8 W2.heap.size W4 (.agg #[Y aS3 sE.w.m.slots.length cS3,Y aH3 sE.w.m.heads.length cH3,Y aF3 sE.w.m.free.length cF3,Y aL3 sE.w.m.locks.length cL3,O J sE.w.m.now,Y aT3 sE.w.ts.length cT3]) sE.w):=hv3.win fun k h1 h2=>ho4 k (by omega)
 have Hb4:Hid (Below w.heap.size w W4):=by show Below w.heap.size w W4;rw[hW4];exact Aw b3 (by omega)
 have HPl:Hid (pl.map (·.1)=sE.past):=hpl
 clear hC3 hpl hv3 hb3 b3 ho4 hO3 HC2 Hb2 HV HR
 go_wp2_with (refine Gz rfl _ _ rfl rfl rfl t6.out (by kernel_rfl) ?_;rw[<- hW4];clear hW4 t6)
 rename_i K0 hK0
 refine Wj (by kernel_rfl) Uk rfl [28,29,30,100,101,102,7] (by decide) rfl (by kernel_rfl) (fun i v _=>(i=0->v=.agg #[Y aS3 sE.w.m.slots.length cS3,Y aH3 sE.w.m.heads.length cH3,Y aF3 sE.w.m.free.length cF3,Y aL3 sE.w.m.locks.length cL3,O J sE.w.m.now,Y aT3 sE.w.ts.length cT3])/\(i=1->v=Y a1 sE.said.length k1)/\(i=2->v=Y a4 pl.length k4)/\(i=6->v=O J 0)) (fun i v w w' h _=>h) ?_ ?_
 ·intro i hi x V hb hout hpre
  have hi':i<7:=hi
  clear hi
  have hXv:=(hb.block _ (lt_of_block HX4.out)).trans HX4.out
  have HCv:=HC4.out.below hb
  obtain⟨y0,y1,y2,y3,y4,y5,ys⟩:=Bc hXv
  obtain⟨c1,d1,-⟩:=Ar HCv.s
  obtain⟨c4,d4,-⟩:=Ar HCv.p
  have x4:x 4=.pointer (some ⟨w.heap.size+2,0,none⟩):=hout 4 (by decide)
  have x5:x 5=.pointer (some ⟨w.heap.size+3,0,none⟩):=hout 5 (by decide)
  have x6:x 6=.pointer (some ⟨w.heap.size+4,0,none⟩):=hout 6 (by decide)
  obtain rfl|rfl|rfl|rfl|rfl|rfl|rfl:i=0\/i=1\/i=2\/i=3\/i=4\/i=5\/i=6:=by omega
  ·exact Ak rfl (Ai rfl) (v:=.agg #[Y aS3 sE.w.m.slots.length cS3,Y aH3 sE.w.m.heads.length cH3,Y aF3 sE.w.m.free.length cF3,Y aL3 sE.w.m.locks.length cL3,O J sE.w.m.now,Y aT3 sE.w.ts.length cT3]) (w':=V) (by simp[execOp,go_sem,(show (Uk x).tmps[4]?.getD Uz=_ from x4),y0,y1,y2,y3,y4,y5]) ⟨_,rfl,⟨fun _=>rfl,(fun h=>absurd h (by decide)),(fun h=>absurd h (by decide)),(fun h=>absurd h (by decide))⟩,Below.refl _ _⟩
  ·exact Ak rfl (Ai rfl) (v:=Y a1 sE.said.length k1) (w':=V) (by simp[execOp,go_sem,(show (Uk x).tmps[5]?.getD Uz=_ from x5),c1]) ⟨_,rfl,⟨(fun h=>absurd h (by decide)),fun _=>rfl,(fun h=>absurd h (by decide)),(fun h=>absurd h (by decide))⟩,Below.refl _ _⟩
  ·exact Ak rfl (Ai rfl) (v:=Y a4 pl.length k4) (w':=V) (by simp[execOp,go_sem,(show (Uk x).tmps[6]?.getD Uz=_ from x6),c4]) ⟨_,rfl,⟨(fun h=>absurd h (by decide)),(fun h=>absurd h (by decide)),fun _=>rfl,(fun h=>absurd h (by decide))⟩,Below.refl _ _⟩
  ·have p0:x 28=_:=(hpre 0 (by kernel_rfl)).1 rfl
   have f0:=fun j=>unfrozen_of_block hXv j
   exact Je rfl (Ai rfl) (w':=V.setCells (w.heap.size+2) 0 [Y aS3 sE.w.m.slots.length cS3,Y aH3 sE.w.m.heads.length cH3,Y aF3 sE.w.m.free.length cF3,Y aL3 sE.w.m.locks.length cL3,O J sE.w.m.now,Y aT3 sE.w.ts.length cT3]) (by simp[execOp,go_sem,World.setCells,(show (Uk x).tmps[4]?.getD Uz=_ from x4),(show (Uk x).tmps[28]?.getD Uz=_ from p0),y0,y1,y2,y3,y4,y5,f0]) ⟨Uz,rfl,⟨(fun h=>absurd h (by decide)),(fun h=>absurd h (by decide)),(fun h=>absurd h (by decide)),(fun h=>absurd h (by decide))⟩,Un hXv rfl⟩
  ·have p0:x 29=_:=(hpre 1 (by kernel_rfl)).2.1 rfl
   exact Je rfl (Ai rfl) (w':=V.setCell ⟨w.heap.size+3,0,none⟩ (Y a1 sE.said.length k1)) (by simp[execOp,go_sem,(show (Uk x).tmps[5]?.getD Uz=_ from x5),(show (Uk x).tmps[29]?.getD Uz=_ from p0),c1,d1]) ⟨Uz,rfl,⟨(fun h=>absurd h (by decide)),(fun h=>absurd h (by decide)),(fun h=>absurd h (by decide)),(fun h=>absurd h (by decide))⟩,P9 HCv.s rfl⟩
  ·have p0:x 30=_:=(hpre 2 (by kernel_rfl)).2.2.1 rfl
   exact Je rfl (Ai rfl) (w':=V.setCell ⟨w.heap.size+4,0,none⟩ (Y a4 pl.length k4)) (by simp[execOp,go_sem,(show (Uk x).tmps[6]?.getD Uz=_ from x6),(show (Uk x).tmps[30]?.getD Uz=_ from p0),c4,d4]) ⟨Uz,rfl,⟨(fun h=>absurd h (by decide)),(fun h=>absurd h (by decide)),(fun h=>absurd h (by decide)),(fun h=>absurd h (by decide))⟩,P9 HCv.p rfl⟩
  ·exact Ak rfl (Ai rfl) (v:=O J 0) (w':=V) (by simp[execOp,go_sem]) ⟨_,rfl,⟨(fun h=>absurd h (by decide)),(fun h=>absurd h (by decide)),(fun h=>absurd h (by decide)),fun _=>rfl⟩,Below.refl _ _⟩
 ·intro x V hb hout hφ
  have p7:x 7=O J 0:=(hφ 6 (by decide)).2.2.2 rfl
  have x4:x 4=.pointer (some ⟨w.heap.size+2,0,none⟩):=hout 4 (by decide)
  have x5:x 5=.pointer (some ⟨w.heap.size+3,0,none⟩):=hout 5 (by decide)
  have x6:x 6=.pointer (some ⟨w.heap.size+4,0,none⟩):=hout 6 (by decide)
  have hXv:=(hb.block _ (lt_of_block HX4.out)).trans HX4.out
  have HCv:Hid _:=HC4.out.below hb
  have HVv:Hid (D8 w.heap.size V (.agg #[Y aS3 sE.w.m.slots.length cS3,Y aH3 sE.w.m.heads.length cH3,Y aF3 sE.w.m.free.length cF3,Y aL3 sE.w.m.locks.length cL3,O J sE.w.m.now,Y aT3 sE.w.ts.length cT3]) sE.w):=(HV4.out.below hb).mono (by omega)
  have Hbv:Hid (Below w.heap.size w V):=Hb4.out.trans (hb.mono Hb4.out.size)
  obtain⟨y0,y1,y2,y3,y4,y5,ys⟩:=Bc hXv
  obtain⟨c1,d1,-⟩:=Ar HCv.out.s
  obtain⟨c4,d4,-⟩:=Ar HCv.out.p
  refine hK0 _ _ ?_
  unfold Uk
  rw[x4,x5,x6,p7]
  go_wp2
  refine bodyPost_ret (v:=.tuple #[.agg #[Y aS3 sE.w.m.slots.length cS3,Y aH3 sE.w.m.heads.length cH3,Y aF3 sE.w.m.free.length cF3,Y aL3 sE.w.m.locks.length cL3,O J sE.w.m.now,Y aT3 sE.w.ts.length cT3],Y a1 sE.said.length k1,Y a4 pl.length k4,O J 0]) (by simp[results,Tryz.results35,go_sem,y0,y1,y2,y3,y4,y5,c1,c4]) rfl ?_
  exact⟨_,_,_,pl,rfl,HVv.out,HCv.out.so,HCv.out.po,fun q hq=>(HCv.out.pk q hq).1,HPl.out,Hbv.out⟩
end
section
def Pk.enc(x:Pk):List Value:=[O J x.task,.bool x.step,.bool x.tick,O J x.c.kind,O J x.c.a,O J x.c.b,O J x.c.time,O J x.c.bk,O J x.c.slot]
def Nl(l:List Pk):List Value:=l.flatMap Pk.enc
theorem Xh(s:Pk)(l:List Pk):Nl (s :: l)=s.enc++Nl l:=by simp[Nl]
theorem Yy(l l':List Pk):Nl (l++l')=Nl l++Nl l':=by simp[Nl]
theorem Yz:∀ (l:List Pk) (i q:Nat) (h:i<l.length) (hq:q<9),(Nl l)[i*9+q]?=(l[i].enc)[q]?
 | [],i,q,h,_=>by simp at h
 | s :: l,0,q,h,hq=>by
  rw[Xh,Nat.zero_mul,Nat.zero_add,List.getElem?_append_left (by simp[Pk.enc];omega)];rfl
 | s :: l,i+1,q,h,hq=>by
  rw[Xh,List.getElem?_append_right (by simp[Pk.enc];omega),show (i+1)*9+q - s.enc.length=i*9+q by simp[Pk.enc];omega]
  exact Yz l i q (by simpa using h) hq
theorem Y8{w:Wq}{lo size n c:Nat}{e:TypeId}{a:Option Addr}{xs:List Value}(h:w.ownsRow lo e size (Y a n c) n xs)(h0:0<n):∃ g,a=some ⟨g,0,none⟩/\n<=c/\lo<=g/\g<w.heap.size/\∀ j,j<n*size->w.cell? ⟨g,j,none⟩=xs[j]?:=by
 obtain⟨h1,h2⟩:=h
 rcases h2 with ⟨-,h3⟩|⟨g,cap,cur,hv,hg,hb,hn,-,hs,hc⟩
 ·omega
 ·cases hv
  refine⟨g,rfl,hn,hg,lt_of_block hb,fun j hj=>?_⟩
  rw[cell_of_block hb,<- hc,List.getElem?_take_of_lt hj]
  simp
theorem Jz.own{w:Wq}{lo c:Nat}{a:Option Addr}{l:List Pk}(h:w.ownsRow lo 34 9 (Y a l.length c) l.length (Nl l))(hm:l.length*64<=140737488355328):Jz w a c l:=by
 by_cases h0:l.length=0
 ·obtain⟨-,h2⟩:=h
  rcases h2 with ⟨hv,-⟩|⟨g,cap,cur,hv,-,-,hn,-⟩
  ·injection hv with e1 e2 e3
   subst e1 e3
   exact⟨by omega,hm,fun _=>rfl,.inl h0⟩
  ·injection hv with e1 e2 e3
   subst e1 e3
   exact⟨hn,hm,(fun e=>by cases e),.inl h0⟩
 ·obtain⟨g,rfl,hn,-,-,hc⟩:=Y8 h (by omega)
  refine⟨hn,hm,(fun e=>by cases e),.inr ⟨g,0,rfl,fun i hi j v hv=>?_⟩⟩
  have hj:j<9:=by have:=(List.getElem?_eq_some_iff.1 hv).1;simpa using this
  rw[Nat.zero_add,hc (i*9+j) (by omega),Yz l i j hi hj]
  exact hv
theorem b1m(W:Wq)(e:TypeId)(size n lo:Nat)(cs:List Value)(hl:cs.length=n*size)(hn:n<=maxLen)(h:lo<=W.heap.size):(W.alloc (.cells cs.toArray e)).ownsRow lo e size (Y (some ⟨W.heap.size,0,none⟩) n n) n cs :=
 ⟨hl,.inr ⟨W.heap.size,n,cs.toArray,rfl,h,heap_alloc_new _ _,Nat.le_refl _,hn,by simpa using hl,by rw[<- hl];simp⟩⟩
theorem iX:(Pg.info? 34).map (fun i=>(i.zero,i.size,i.bytes))=some (some (.agg #[O J 0,.bool false,.bool false,O J 0,O J 0,O J 0,O J 0,O J 0,O J 0]),9,64):=by kernel_rfl
def pk1:Pk:=⟨0,false,false,⟨2,3,0,5,0,0⟩⟩
def pk2:Pk:=⟨1,false,false,⟨1,3,0,0,0,0⟩⟩
def pk3:Pk:=⟨1,true,false,⟨0,0,0,0,0,0⟩⟩
def pk0:Pk:=⟨0,true,false,⟨0,0,0,0,0,0⟩⟩
def pkT:Pk:=⟨0,false,true,⟨0,0,0,0,0,0⟩⟩
def plS(k:Nat):List Pk:=[pk1,pk2,pk3] ++ List.replicate k pk0
def plE:Rs:=Uc 0 (rs0 (Px 2 1 2)) (plS 6 ++ [pk3,pk3,pkT])
theorem a8r:plE.said=[0,0,0,0,0,0,0,0,0,0,8,0]:=by decide +kernel
theorem a8q:plE.past.map (fun p=>(p.e,p.task,p.to))=[(0,0,8),(5,1,9)]:=by decide +kernel
theorem b1s:plE.w.m.now=1:=by decide +kernel
theorem a5s:(Gm plE.w.m).length=1:=by decide +kernel
theorem a8s(k:Nat):plS (k+1)=plS k ++ [pk0]:=by unfold plS;rw[List.append_assoc,List.replicate_succ']
theorem b4g{α:Type}:∀ {l:List α},l.length=2->∃ a b,l=[a,b]
 | [a,b],_=>⟨a,b,rfl⟩
 | [],h=>by cases h
 | [_],h=>by cases h
 | _ :: _ :: _ :: _,h=>by simp at h
theorem a1m:b3c:=by
 intro w
 have HN:=Zk 2 1 2 w
 obtain⟨i0,hi0,hz0,hz1,hz2⟩:=info_parts iX
 go_enter Tryz.func18,Tryz.ntmps18
 go_wp2_with fail
 refine HN.mono ?_
 rintro e w1 ⟨v,rfl,hv,hb1⟩
 rw[show Nj 2 1 2=0 by decide,if_pos rfl,show Px (2:Int).toNat (1:Int).toNat (2:Int).toNat=Px 2 1 2 from rfl] at *
 have HI:Hid (okB (plS 6 ++ [pk3,pk3,pkT]) (Px 2 1 2)=true):=(by decide +kernel:okB (plS 6 ++ [pk3,pk3,pkT]) (Px 2 1 2)=true)
 have HsE:Hid (plE=Uc 0 (rs0 (Px 2 1 2)) (plS 6 ++ [pk3,pk3,pkT])):=rfl
 generalize Px 2 1 2=W0 at *
 obtain⟨aS,aH,aF,aL,cS,cH,cF,cL,aT,cT,lt,rfl,-⟩:=id hv
 clear HN
 have HV1:Hid (D8 w.heap.size w1 (.agg #[Y aS W0.m.slots.length cS,Y aH W0.m.heads.length cH,Y aF W0.m.free.length cF,Y aL W0.m.locks.length cL,O J W0.m.now,Y aT W0.ts.length cT]) W0):=hv
 have Hb1:Hid (Below w.heap.size w w1):=hb1
 have hz:w.heap.size<=w1.heap.size:=hb1.size
 clear hv hb1
 have HRun:Hid (∀ (V:Wq) (v:Value) (a:Option Addr) (c lo:Nat),V.ownsRow lo 34 9 (Y a 12 c) 12 (Nl (plS 6 ++ [pk3,pk3,pkT]))->D8 0 V v W0->Calls Pg 35 #[v,Y a 12 c] V (RunP V plE)):=fun V v a c lo h hv=>by
  rw[HsE.out]
  exact b4d v a c (plS 6 ++ [pk3,pk3,pkT]) V hv (Jz.own h (by decide)) (by decide) HI.out
 have HIe:Hid (wE plE.w=0/\Kq plE.w.m=0):=(by decide +kernel:wE plE.w=0/\Kq plE.w.m=0)
 go_wp2_with fail
 obtain⟨W2,hW2⟩:∃ W2,W2=(w1.alloc (.cells #[Y aS W0.m.slots.length cS,Y aH W0.m.heads.length cH,Y aF W0.m.free.length cF,Y aL W0.m.locks.length cL,O J W0.m.now,Y aT W0.ts.length cT] 28)).alloc (.cells #[O J 3,O J 0] 30):=⟨_,rfl⟩
 have b2:Below w1.heap.size w1 W2:=by rw[hW2];exact below_alloc2 _ _ _
 have HX2:Hid (W2.heap[w1.heap.size]?=some (.cells #[Y aS W0.m.slots.length cS,Y aH W0.m.heads.length cH,Y aF W0.m.free.length cF,Y aL W0.m.locks.length cL,O J W0.m.now,Y aT W0.ts.length cT] 28 (0,0))):=by show _=_;rw[hW2,Below.heap_alloc _ _ _ (by simp),heap_alloc_new]
 have HZ2:Hid (W2.heap.size=w1.heap.size+2):=by show _=_;rw[hW2];simp
 have HV2:Hid (D8 w.heap.size W2 (.agg #[Y aS W0.m.slots.length cS,Y aH W0.m.heads.length cH,Y aF W0.m.free.length cF,Y aL W0.m.locks.length cL,O J W0.m.now,Y aT W0.ts.length cT]) W0):=HV1.out.below b2
 have Hb2:Hid (Below w.heap.size w W2):=Hb1.out.trans (b2.mono hz)
 rw[<- hW2]
 clear hW2 b2 HV1 Hb1
 have HO3:Hid ((W2.alloc (.cells (Nl (plS 0)).toArray 34)).ownsRow (w1.heap.size+2) 34 9 (Y (some ⟨w1.heap.size+2,0,none⟩) 3 3) 3 (Nl (plS 0))):=by
  have h:=b1m W2 34 9 3 (w1.heap.size+2) (Nl (plS 0)) rfl (by decide) (by have:=HZ2.out;omega)
  rw[HZ2.out] at h
  exact h
 have Hb3:Hid (Below (w1.heap.size+2) W2 (W2.alloc (.cells (Nl (plS 0)).toArray 34))):=(Below.refl _ _).alloc (by have:=HZ2.out;omega) _
 go_loopw [4,23] (fun s i wr=>∃ (k:Nat) (a:Option Addr) (c:Nat),k<=6/\i=O J k/\s=Y a (3+k) c/\Hid (wr.ownsRow (w1.heap.size+2) 34 9 (Y a (3+k) c) (3+k) (Nl (plS k)))/\Hid (Below (w1.heap.size+2) W2 wr)) (fun _ i _=>6 - (intOf i).toNat)
 case atStart=>exact⟨0,some ⟨w1.heap.size+2,0,none⟩,3,by omega,rfl,rfl,HO3,Hb3⟩
 case round =>
  obtain⟨k,a,c,hk,rfl,rfl,HO,Hb⟩:=hrel
  clear HO3 Hb3
  by_cases hlt:k<6
  ·have hlt':(k:Int)<6:=by omega
   have HC:Hid (∀ j u,[O J 0,.bool true,.bool false,O J 0,O J 0,O J 0,O J 0,O J 0,O J 0][j]?=some u->(wr.alloc (.cells #[O J 0,.bool true,.bool false,O J 0,O J 0,O J 0,O J 0,O J 0,O J 0] 34)).cell? ((⟨wr.heap.size,0,none⟩:Addr).add j)=some u):=Pe (vs:=[O J 0,.bool true,.bool false,O J 0,O J 0,O J 0,O J 0,O J 0,O J 0]) (heap_alloc_new _ _)
   have HS:Hid (w1.heap.size+2<=wr.heap.size):=by have:=Hb.out.size;have:=HZ2.out;show _<=_;omega
   have HBw:Hid (∀ w2:Wq,(wr.alloc (.cells #[O J 0,.bool true,.bool false,O J 0,O J 0,O J 0,O J 0,O J 0,O J 0] 34)).grownBy w2 (Value.slice a (3+k) c).ownBlock->Below (w1.heap.size+2) W2 w2):=fun w2 hg=>(Hb.out.alloc HS.out _).grown hg (by have:=HS.out;simp;omega) (fun q hq=>(HO.out.lt q hq).1)
   go_wp2_with (at_builtin;refine wpList_append_own_at _ rfl (.tmp 25) (.tmp 27) 54 rfl (w1.heap.size+2) 34 i0 (.agg #[O J 0,.bool false,.bool false,O J 0,O J 0,O J 0,O J 0,O J 0,O J 0]) 9 64 Tryz.underlying54 hi0 hz0 hz1 hz2 rfl (by decide) _ _ _ rfl (HO.out.alloc _) ⟨wr.heap.size,0,none⟩ 1 1 [O J 0,.bool true,.bool false,O J 0,O J 0,O J 0,O J 0,O J 0,O J 0] rfl rfl HC.out (by intro u hu;simp only[List.mem_cons,List.not_mem_nil,or_false] at hu;rcases hu with rfl|rfl|rfl|rfl|rfl|rfl|rfl|rfl|rfl <;> rfl) (by unfold maxLen;omega) (by omega) (by have:=HS.out;simp;omega) ?_;intro v2 w2 ho2 hg2 _ _;obtain⟨g2,cap2,rfl⟩:=ownsRow_form ho2 (by omega);have HO2:Hid (w2.ownsRow (w1.heap.size+2) 34 9 (Y (some ⟨g2,0,none⟩) (3+k+1) cap2) (3+k+1) (Nl (plS k) ++ [O J 0,.bool true,.bool false,O J 0,O J 0,O J 0,O J 0,O J 0,O J 0])):=ho2;have Hb2':Hid (Below (w1.heap.size+2) W2 w2):=HBw.out w2 hg2;clear ho2 hg2)
   go_roundw
   case rel=>exact⟨k+1,some ⟨g2,0,none⟩,cap2,by omega,by go_num,rfl,by rw[a8s,Yy];exact HO2,Hb2'⟩
   case measure=>simp[intOf];omega
  ·have hk6:k=6:=by omega
   subst hk6
   have HO9:Hid (wr.ownsRow (w1.heap.size+2) 34 9 (Y a 9 c) 9 (Nl (plS 6))):=HO.out
   have HC:Hid (∀ j u,[O J 1,.bool true,.bool false,O J 0,O J 0,O J 0,O J 0,O J 0,O J 0,O J 1,.bool true,.bool false,O J 0,O J 0,O J 0,O J 0,O J 0,O J 0,O J 0,.bool false,.bool true,O J 0,O J 0,O J 0,O J 0,O J 0,O J 0][j]?=some u->(wr.alloc (.cells #[O J 1,.bool true,.bool false,O J 0,O J 0,O J 0,O J 0,O J 0,O J 0,O J 1,.bool true,.bool false,O J 0,O J 0,O J 0,O J 0,O J 0,O J 0,O J 0,.bool false,.bool true,O J 0,O J 0,O J 0,O J 0,O J 0,O J 0] 34)).cell? ((⟨wr.heap.size,0,none⟩:Addr).add j)=some u):=Pe (vs:=[O J 1,.bool true,.bool false,O J 0,O J 0,O J 0,O J 0,O J 0,O J 0,O J 1,.bool true,.bool false,O J 0,O J 0,O J 0,O J 0,O J 0,O J 0,O J 0,.bool false,.bool true,O J 0,O J 0,O J 0,O J 0,O J 0,O J 0]) (heap_alloc_new _ _)
   have HS:Hid (w1.heap.size+2<=wr.heap.size):=by have:=Hb.out.size;have:=HZ2.out;show _<=_;omega
   have HBw:Hid (∀ w2:Wq,(wr.alloc (.cells #[O J 1,.bool true,.bool false,O J 0,O J 0,O J 0,O J 0,O J 0,O J 0,O J 1,.bool true,.bool false,O J 0,O J 0,O J 0,O J 0,O J 0,O J 0,O J 0,.bool false,.bool true,O J 0,O J 0,O J 0,O J 0,O J 0,O J 0] 34)).grownBy w2 (Value.slice a 9 c).ownBlock->Below (w1.heap.size+2) W2 w2):=fun w2 hg=>(Hb.out.alloc HS.out _).grown hg (by have:=HS.out;simp;omega) (fun q hq=>(HO9.out.lt q hq).1)
   go_wp2_with (first|(at_builtin;refine wpList_append_own_at _ rfl (.tmp 30) (.tmp 34) 54 rfl (w1.heap.size+2) 34 i0 (.agg #[O J 0,.bool false,.bool false,O J 0,O J 0,O J 0,O J 0,O J 0,O J 0]) 9 64 Tryz.underlying54 hi0 hz0 hz1 hz2 rfl (by decide) _ _ _ rfl (HO9.out.alloc _) ⟨wr.heap.size,0,none⟩ 3 3 [O J 1,.bool true,.bool false,O J 0,O J 0,O J 0,O J 0,O J 0,O J 0,O J 1,.bool true,.bool false,O J 0,O J 0,O J 0,O J 0,O J 0,O J 0,O J 0,.bool false,.bool true,O J 0,O J 0,O J 0,O J 0,O J 0,O J 0] rfl rfl HC.out (by intro u hu;simp only[List.mem_cons,List.not_mem_nil,or_false] at hu;rcases hu with rfl|rfl|rfl|rfl|rfl|rfl|rfl|rfl|rfl|rfl|rfl|rfl|rfl|rfl|rfl|rfl|rfl|rfl|rfl|rfl|rfl|rfl|rfl|rfl|rfl|rfl|rfl <;> rfl) (by unfold maxLen;omega) (by omega) (by have:=HS.out;simp;omega) ?_;intro v2 w2 ho2 hg2 _ _;obtain⟨g2,cap2,rfl⟩:=ownsRow_form ho2 (by omega);have HO2:Hid (w2.ownsRow (w1.heap.size+2) 34 9 (Y (some ⟨g2,0,none⟩) 12 cap2) 12 (Nl (plS 6 ++ [pk3,pk3,pkT]))):=(by show World.ownsRow _ _ _ _ _ _ _;rw[Yy];exact ho2);have Hb3:Hid (Below W2.heap.size W2 w2):=(by show Below _ _ _;rw[HZ2.out];exact HBw.out w2 hg2);have l6:Hid (w2.rangeAt w1.heap.size 0 [Y aS W0.m.slots.length cS,Y aH W0.m.heads.length cH,Y aF W0.m.free.length cF,Y aL W0.m.locks.length cL,O J W0.m.now,Y aT W0.ts.length cT]):=Au ((Hb3.out.block _ (lt_of_block HX2.out)).trans HX2.out) rfl;clear ho2 hg2)|refine Ha rfl _ rfl rfl l6.out ?_)
   have HX3:Hid (w2.heap[w1.heap.size]?=_):=(Hb3.out.block _ (lt_of_block HX2.out)).trans HX2.out
   have Hb4:Hid (Below w.heap.size w w2):=Hb2.out.trans (Hb3.out.mono (by have:=HZ2.out;omega))
   refine(HRun.out w2 _ (some ⟨g2,0,none⟩) cap2 _ HO2.out ((HV2.out.below Hb3.out).mono (Nat.zero_le _))).mono ?_
   rintro e w5 ⟨v5,v15,v45,pl,rfl,hv5,ho15,ho45,-,hpl5,hb5⟩
   rw[a8r] at ho15
   have hpl2:pl.map (fun q=>(q.1.e,q.1.task,q.1.to))=[(0,0,8),(5,1,9)]:=by
    have h:=a8q
    rw[<- hpl5,List.map_map] at h
    exact h
   have hnow:Hid (plE.w.m.now=1):=b1s
   have hfl:Hid ((Gm plE.w.m).length=1):=a5s
   have HX5:Hid (w5.heap[w1.heap.size]?=_):=(hb5.block _ (lt_of_block HX3.out)).trans HX3.out
   have hxz:w1.heap.size<w2.heap.size:=lt_of_block HX3.out
   generalize plE=sE at *
   clear hpl5 HsE HRun HO9 HC HBw HO HO2 HX3 HX2 HV2 Hb3 l6 Hb HS Hb2
   obtain⟨a1,k1,rfl⟩:=Aq ho15
   obtain⟨g1,rfl,hk1,hg1,-,hc1⟩:=Y8 ho15 (by decide)
   obtain⟨q0,q1,rfl⟩:∃ q0 q1,pl=[q0,q1]:=b4g (by have h:=congrArg List.length hpl2;rw[List.length_map] at h;exact h)
   simp only[List.map_cons,List.map_nil,List.cons.injEq,Prod.mk.injEq,and_true] at hpl2
   obtain⟨⟨e0,e1,-⟩,e2,-,e3⟩:=hpl2
   obtain⟨a4,k4,rfl⟩:=Aq ho45
   obtain⟨g4,rfl,hk4,hg4,-,hc4⟩:=Y8 ho45 (by simp)
   have c10:w5.cell? ⟨g1,10,none⟩=some (O J 8):=hc1 10 (by decide)
   have d0:w5.cell? ⟨g4,0,none⟩=some (O J 0):=by rw[hc4 0 (by simp),<- e1];rfl
   have d9:w5.cell? ⟨g4,9,none⟩=some (O J 0):=by rw[hc4 9 (by simp),<- e0];rfl
   have d22:w5.cell? ⟨g4,22,none⟩=some (O J 5):=by rw[hc4 22 (by simp),<- e2];rfl
   have d21:w5.cell? ⟨g4,21,none⟩=some (O J 9):=by rw[hc4 21 (by simp),show (9:Int)=((q1.1.to:Nat):Int) by rw[e3];rfl];rfl
   obtain⟨aS5,aH5,aF5,aL5,cS5,cH5,cF5,cL5,aT5,cT5,lt5,rfl,-⟩:=id hv5
   obtain⟨W6,hW6⟩:∃ W6,W6=w5.setCells w1.heap.size 0 [Y aS5 sE.w.m.slots.length cS5,Y aH5 sE.w.m.heads.length cH5,Y aF5 sE.w.m.free.length cF5,Y aL5 sE.w.m.locks.length cL5,O J sE.w.m.now,Y aT5 sE.w.ts.length cT5]:=⟨_,rfl⟩
   have ho6:∀ k,k≠w1.heap.size->W6.heap[k]?=w5.heap[k]?:=fun k hk=>by rw[hW6];exact Ad hk _ _ _
   have HX6:Hid (W6.heap[w1.heap.size]?=some (.cells #[Y aS5 sE.w.m.slots.length cS5,Y aH5 sE.w.m.heads.length cH5,Y aF5 sE.w.m.free.length cF5,Y aL5 sE.w.m.locks.length cL5,O J sE.w.m.now,Y aT5 sE.w.ts.length cT5] 28 (0,0))):=by show _=_;rw[hW6];exact Bi HX5.out rfl
   have HV6:Hid (D8 w2.heap.size W6 (.agg #[Y aS5 sE.w.m.slots.length cS5,Y aH5 sE.w.m.heads.length cH5,Y aF5 sE.w.m.free.length cF5,Y aL5 sE.w.m.locks.length cL5,O J sE.w.m.now,Y aT5 sE.w.ts.length cT5]) sE.w):=hv5.win fun k h1 h2=>ho6 k (by omega)
   have Hb6:Hid (Below w.heap.size w W6):=by show Below w.heap.size w W6;rw[hW6];exact Aw (Hb4.out.trans (hb5.mono Hb4.out.size)) hz
   have t6:Hid (w5.there w1.heap.size 0 6):=Az HX5.out (by simp)
   have l6:Hid (W6.rangeAt w1.heap.size 0 [Y aS5 sE.w.m.slots.length cS5,Y aH5 sE.w.m.heads.length cH5,Y aF5 sE.w.m.free.length cF5,Y aL5 sE.w.m.locks.length cL5,O J sE.w.m.now,Y aT5 sE.w.ts.length cT5]):=Au HX6.out rfl
   have hc6:∀ g j,w2.heap.size<=g->W6.cell? ⟨g,j,none⟩=w5.cell? ⟨g,j,none⟩:=fun g j hg=>World.cell?_of_block (ho6 g (by omega))
   have C10:Hid (W6.cell? ⟨g1,10,none⟩=some (O J 8)/\W6.cell? ⟨g4,0,none⟩=some (O J 0)/\W6.cell? ⟨g4,9,none⟩=some (O J 0)/\W6.cell? ⟨g4,22,none⟩=some (O J 5)/\W6.cell? ⟨g4,21,none⟩=some (O J 9)):=⟨(hc6 _ _ hg1).trans c10,(hc6 _ _ hg4).trans d0,(hc6 _ _ hg4).trans d9,(hc6 _ _ hg4).trans d22,(hc6 _ _ hg4).trans d21⟩
   clear hc1 hc4 c10 d0 d9 d22 d21 e0 e1 e2 e3 ho15 ho45 hv5 hb5 ho6 hc6 HX5 Hb4
   go_wp2_with (first|(refine Gz rfl _ _ rfl rfl rfl t6.out (by kernel_rfl) ?_;rw[<- hW6];clear hW6 t6)|refine Ha rfl _ rfl rfl l6.out ?_)
   refine(b0y HIe.out.1 HIe.out.2 HV6.out).mono ?_
   rw[hfl.out]
   rintro e w7 ⟨ao,cap,rfl,-,hb7⟩
   have hX7:=(hb7.block _ (lt_of_block HX6.out)).trans HX6.out
   obtain⟨y0,y1,y2,y3,y4,y5,ys⟩:=Bc hX7
   rw[hnow.out] at y4
   have g10:=(Bv hb7).1 g1 10 (cell_lt C10.out.1)
   have f0:=((Bv hb7).1 g4 0 (cell_lt C10.out.2.1)).trans C10.out.2.1
   have f9:=((Bv hb7).1 g4 9 (cell_lt C10.out.2.1)).trans C10.out.2.2.1
   have f22:=((Bv hb7).1 g4 22 (cell_lt C10.out.2.1)).trans C10.out.2.2.2.1
   have f21:=((Bv hb7).1 g4 21 (cell_lt C10.out.2.1)).trans C10.out.2.2.2.2
   rw[C10.out.1] at g10
   have Hb7:Hid (Below w.heap.size w w7):=Hb6.out.trans (hb7.mono Hb6.out.size)
   clear hb7 hX7 l6 HX6 HV6 Hb6 C10 hnow hfl y0 y1 y2 y3 y5 hg1 hg4
   go_wp2
   go_ret
   exact⟨rfl,Hb7.out⟩
end
section
theorem b3e{W:Wd}{x:Pk}{lo:Nat}{V:Wq}{aS aH aF aL:Option Addr}{cS cH cF cL:Nat}{aT:Option Addr}{cT:Nat}(h:D8 lo V (.agg #[Y aS W.m.slots.length cS,Y aH W.m.heads.length cH,Y aF W.m.free.length cF,Y aL W.m.locks.length cL,O J W.m.now,Y aT W.ts.length cT]) W) :
  Calls Pg 15 #[.agg #[Y aS W.m.slots.length cS,Y aH W.m.heads.length cH,Y aF W.m.free.length cF,Y aL W.m.locks.length cL,O J W.m.now,Y aT W.ts.length cT],.agg #[O J x.task,.bool x.step,.bool x.tick,O J x.c.kind,O J x.c.a,O J x.c.b,O J x.c.time,O J x.c.bk,O J x.c.slot]] V (DoP V W x):=by
 obtain⟨lt,A,hi,hts,hT,hTh⟩:=h.parts
 have h:=a7e W.m lt x aS aH aF aL cS cH cF cL aT cT V A hT
 have hts':lt.length=W.ts.length:=by rw[hts,List.length_map]
 rw[<- hts,hts'] at h
 exact h
end
end Go.Proofs.YthhgoenomehobaaGreat.mm
