/- Parts. -/
import Derived.Test.YthhgoenomehobaaGreatP36
namespace Go.Proofs.YthhgoenomehobaaGreat.mm
open Tryz renaming underlying68 → oD, ntmps80 → oG, func80 → oI, prog → Pg
open List renaming getD_cons_zero → nZ, getD_cons_succ → oC
open Value renaming slice → eX, int → nY, int → O, slice → Y
open World renaming alloc → nV, setCell → nX
open Joins renaming cell_of_block → dN, block_setCell → dO, ownsRow_form → kK
open RowKit.Below renaming refl → dK, heap_setCell → dM, mono → nU
open Go renaming lt_of_block → fC, heap_alloc_new → fP, Value → dU, execOp → kD, wpList_append_own_at → gB, TypeId → dX, info_parts → gG, cell_one_new → nP, results_none → nR, maxLen → gJ, bodyPost_end → nT, undef → Uz, World → Wq
open Tryz
set_option maxRecDepth 100000
set_option linter.unusedVariables false
open IntKind renaming i64 → J
open ChangeShapes WideShapes ChangeAt RowKit Joins Deep Maps
set_option maxHeartbeats 0
section
theorem Ti{w w':Wq}{a:Option Addr}{c lo:Nat}{l:List Int}(r:Dk w a c l)(hi:∀ ad,a=some ad->lo<=ad.block)(h:∀ k,lo<=k->k<w.heap.size->w'.heap[k]?=w.heap[k]?):Dk w' a c l:=by
 refine⟨r.le,r.max,r.nil,?_⟩
 rcases r.at_ with h0|⟨b,o,e,hc⟩
 ·exact .inl h0
 ·refine .inr ⟨b,o,e,fun i hn=>?_⟩
  have hb:=h b (hi _ e) (cell_lt (hc i hn))
  rw[World.cell?_of_block (a:=⟨b,o+i,none⟩) hb]
  exact hc i hn
theorem b2e{w w':Wq}{a:Option Addr}{c lo:Nat}{l:List Sl}(r:Jf w a c l)(hi:∀ ad,a=some ad->lo<=ad.block)(h:∀ k,lo<=k->k<w.heap.size->w'.heap[k]?=w.heap[k]?):Jf w' a c l:=by
 refine⟨r.le,r.max,r.nil,?_⟩
 rcases r.at_ with h0|⟨b,o,e,hc⟩
 ·exact .inl h0
 ·refine .inr ⟨b,o,e,fun i hn=>?_⟩
  have hb:=h b (hi _ e) (cell_lt (hc i hn).1)
  obtain⟨c0,c1,c2,c3,c4,c5⟩:=hc i hn
  exact⟨(World.cell?_of_block (a:=⟨b,o+i*6,none⟩) hb).trans c0,(World.cell?_of_block (a:=⟨b,o+i*6+1,none⟩) hb).trans c1,(World.cell?_of_block (a:=⟨b,o+i*6+2,none⟩) hb).trans c2,(World.cell?_of_block (a:=⟨b,o+i*6+3,none⟩) hb).trans c3,(World.cell?_of_block (a:=⟨b,o+i*6+4,none⟩) hb).trans c4,(World.cell?_of_block (a:=⟨b,o+i*6+5,none⟩) hb).trans c5⟩
theorem Di.win{lo:Nat}{w w':Wq}{v:dU}{W:Wd}(h:Di lo w v W)(hk:∀ k,lo<=k->k<w.heap.size->w'.heap[k]?=w.heap[k]?):Di lo w' v W:=by
 obtain⟨aS,aH,aF,aL,cS,cH,cF,cL,aT,cT,l,e,A,hi,el,r,th⟩:=h
 refine⟨aS,aH,aF,aL,cS,cH,cF,cL,aT,cT,l,e,⟨b2e A.s hi.s hk,Ti A.h hi.h hk,Ti A.f hi.f hk,Ti A.l hi.l hk⟩,hi,el,⟨r.le,r.max,r.nil,?_,fun p hp=>Eo (r.t p hp) fun _ ad e hl=>hk _ (th.t p hp ad e) hl,fun p hp=>Ti (r.u p hp) (th.u p hp) hk⟩,th⟩
 rcases r.at_ with h0|⟨b,o,e,hc⟩
 ·exact .inl h0
 ·refine .inr ⟨b,o,e,fun i hi q hq=>?_⟩
  obtain⟨v,hv⟩:=Sv l[i].1 l[i].2 hq
  exact(World.cell?_of_block (a:=⟨b,o+i*16+q,none⟩) (hk b (th.row _ e) (cell_lt ((hc i hi q hq).trans hv)))).trans (hc i hi q hq)
def Pst.enc(p:Pst)(a:Option Addr)(c:Nat):List dU :=
 [O J p.s,O J p.c.k,O J p.c.a,O J p.c.b,O J p.c.t,O J p.c.q,O J p.c.h,O J p.fro,O J p.to,O J p.e,O J p.h,O J p.n,Y a p.t.length c]
def a6s(l:List (Pst × Option Addr × Nat)):List dU:=l.flatMap fun q=>q.1.enc q.2.1 q.2.2
def Out(a b:Nat)(k:Nat):Prop:=¬ (a<=k/\k<b)
structure Cs(lo a b:Nat)(w:Wq)(B1 B2 B3 B4 g:Nat)(v1 v2 v4:dU)(said:List Int)(pl:List (Pst × Option Addr × Nat))(beg:List Nat)(Z:List (Nat × Array dU)):Prop where
 s:w.heap[B1]?=some (.cells #[v1] 68 (0,0))
 so:w.ownsRow lo 36 1 v1 said.length (encI said)
 sx:∀ k,v1.ownBlock=some k->Out a b k
 f:w.heap[B3]?=some (.cells #[Y (some ⟨g,0,none⟩) beg.length beg.length] 23 (0,0))
 fo:w.heap[g]?=some (.cells (encI (beg.map Int.ofNat)).toArray 3 (0,0))
 fx:Out a b g
 p:w.heap[B4]?=some (.cells #[v4] 69 (0,0))
 po:w.ownsRow lo 78 13 v4 pl.length (a6s pl)
 px:∀ k,v4.ownBlock=some k->Out a b k
 pk:∀ q∈pl,Ea w lo q.2.1 q.2.2 q.1.t/\∀ ad,q.2.1=some ad->Out a b ad.block
 o1:lo<=B1/\Out a b B1
 o3:lo<=B3/\Out a b B3
 o4:lo<=B4/\Out a b B4
 og:lo<=g
 x:w.heap[B2]?=some (.cells #[v2] 54 (0,0))
 ox:lo<=B2/\Out a b B2
 z:∀ q∈Z,w.heap[q.1]?=some (.cells q.2 28 (0,0))
section
variable {lo a b:Nat} {w w':Wq} {B1 B2 B3 B4 g:Nat} {v1 v2 v4:dU} {said:List Int} {pl:List (Pst × Option Addr × Nat)} {beg:List Nat} {Z:List (Nat × Array dU)}
theorem Cs.below(h:Cs lo a b w B1 B2 B3 B4 g v1 v2 v4 said pl beg Z)(hb:Below w.heap.size w w'):Cs lo a b w' B1 B2 B3 B4 g v1 v2 v4 said pl beg Z :=
 ⟨(hb.block _ (fC h.s)).trans h.s,Cb h.so fun k hk=>hb.block _ (h.so.lt k hk).2,h.sx,(hb.block _ (fC h.f)).trans h.f,(hb.block _ (fC h.fo)).trans h.fo,h.fx,(hb.block _ (fC h.p)).trans h.p,Cb h.po fun k hk=>hb.block _ (h.po.lt k hk).2,h.px,fun q hq=>⟨(h.pk q hq).1.below hb,(h.pk q hq).2⟩,h.o1,h.o3,h.o4,h.og,(hb.block _ (fC h.x)).trans h.x,h.ox,fun q hq=>(hb.block _ (fC (h.z q hq))).trans (h.z q hq)⟩
theorem Cs.turn(h:Cs lo a b w B1 B2 B3 B4 g v1 v2 v4 said pl beg Z)(b':Nat):Cs lo w.heap.size b' w B1 B2 B3 B4 g v1 v2 v4 said pl beg Z :=
 have hz:∀ k,k<w.heap.size->Out w.heap.size b' k:=fun k hk hx=>by have:=hx.1;omega
 ⟨h.s,h.so,fun k hk=>hz k (h.so.lt k hk).2,h.f,h.fo,hz _ (fC h.fo),h.p,h.po,fun k hk=>hz k (h.po.lt k hk).2,fun q hq=>⟨(h.pk q hq).1,fun ad e=>hz _ ((h.pk q hq).1.lt ad e).2⟩,⟨h.o1.1,hz _ (fC h.s)⟩,⟨h.o3.1,hz _ (fC h.f)⟩,⟨h.o4.1,hz _ (fC h.p)⟩,h.og,h.x,⟨h.ox.1,hz _ (fC h.x)⟩,h.z⟩
theorem Cs.say(h:Cs lo a b w B1 B2 B3 B4 g v1 v2 v4 said pl beg Z)(hz:b<=w.heap.size){ob:Obj}{w1:Wq}{v':dU}{e:Int}(hg:(w.alloc ob).grownBy w1 v1.ownBlock)(ho:w1.ownsRow lo 36 1 v' (said.length+1) (encI said ++ [O J e]))(hl:v'.ownBlock=v1.ownBlock\/v'.ownBlock=some (w.alloc ob).heap.size) :
  Cs lo a b (w1.setCell ⟨B1,0,none⟩ v') B1 B2 B3 B4 g v' v2 v4 (said ++ [e]) pl beg Z/\∀ k,a<=k->k<b->(w1.setCell ⟨B1,0,none⟩ v').heap[k]?=w.heap[k]?:=by
 have ry:∀ k,k<w.heap.size->v1.ownBlock≠some k->w1.heap[k]?=w.heap[k]?:=fun k hk hn=>by
  rw[hg.block k (by simp;omega) (fun e=>hn e.symm),Below.heap_alloc _ _ _ hk]
 have hk:∀ k,k<w.heap.size->v1.ownBlock≠some k->k≠B1->(w1.setCell ⟨B1,0,none⟩ v').heap[k]?=w.heap[k]?:=fun k hk hn hB=>by
  rw[dM _ _ _ _ (by dsimp only;exact hB)]
  exact ry k hk hn
 have s1:w1.heap[B1]?=some (.cells #[v1] 68 (0,0)):=(ry B1 (fC h.s) (own_ne h.so h.s (by decide))).trans h.s
 have nb:∀ {X:Nat} {cs:Array dU} {t:dX},w.heap[X]?=some (.cells cs t (0,0))->t≠36->t≠68->(w1.setCell ⟨B1,0,none⟩ v').heap[X]?=some (.cells cs t (0,0)):=fun hX n1 n2=>by
  refine(hk _ (fC hX) (own_ne h.so hX (Ne.symm n1)) ?_).trans hX
  rintro rfl
  rw[h.s] at hX
  injection hX with hX
  injection hX with _ hX
  exact n2 hX.symm
 have nr:∀ {uP size n:Nat} {t:dX} {u:dU} {xs:List dU},w.ownsRow uP t size u n xs->t≠36->t≠68->(w1.setCell ⟨B1,0,none⟩ v').ownsRow uP t size u n xs:=fun hu n1 n2=>by
  refine Cb hu fun k EC=>hk k (hu.lt k EC).2 (fun hv=>D9 h.so hu (Ne.symm n1) k hv EC) ?_
  rintro rfl
  exact own_ne hu h.s n2 EC
 refine⟨⟨?_,?_,?_,nb h.f (by decide) (by decide),nb h.fo (by decide) (by decide),h.fx,nb h.p (by decide) (by decide),nr h.po (by decide) (by decide),h.px,fun q hq=>⟨⟨nr (h.pk q hq).1.own (by decide) (by decide)⟩,(h.pk q hq).2⟩,h.o1,h.o3,h.o4,h.og,nb h.x (by decide) (by decide),h.ox,fun q hq=>nb (h.z q hq) (by decide) (by decide)⟩,?_⟩
 ·have:=dO (i:=0) s1 v'
  rw[this];rfl
 ·have:=Np (j:=0) (x:=v') ho (own_ne ho s1 (by decide))
  rwa [show encI said ++ [O J e]=encI (said ++ [e]) by simp[encI],show said.length+1=(said ++ [e]).length by simp] at this
 ·intro k rO
  rcases hl with hl|hl
  ·exact h.sx k (hl ▸ rO)
  ·rw[hl] at rO
   injection rO with rO
   intro hx
   have:=hx.2
   simp at rO
   omega
 ·intro k h1 h2
  exact hk k (by omega) (fun e=>h.sx k e ⟨h1,h2⟩) (fun e=>h.o1.2 (e ▸ ⟨h1,h2⟩))
theorem Cs.start(h:Cs lo a b w B1 B2 B3 B4 g v1 v2 v4 said pl beg Z)(t n:Nat)(ht:t<beg.length) :
  Cs lo a b (w.setCell ⟨g,t,none⟩ (O J n)) B1 B2 B3 B4 g v1 v2 v4 said pl (beg.set t n) Z/\∀ k,a<=k->k<b->(w.setCell ⟨g,t,none⟩ (O J n)).heap[k]?=w.heap[k]?:=by
 have hk:∀ k,k≠g->(w.setCell ⟨g,t,none⟩ (O J n)).heap[k]?=w.heap[k]?:=fun k hB=>dM _ _ _ _ (by dsimp only;exact hB)
 have nb:∀ {X:Nat} {cs:Array dU} {t':dX},w.heap[X]?=some (.cells cs t' (0,0))->t'≠3->(w.setCell ⟨g,t,none⟩ (O J n)).heap[X]?=some (.cells cs t' (0,0)):=fun hX n2=>by
  refine(hk _ ?_).trans hX
  rintro rfl
  rw[h.fo] at hX
  injection hX with hX
  injection hX with _ hX
  exact n2 hX.symm
 have nr:∀ {uP size n':Nat} {t':dX} {u:dU} {xs:List dU},w.ownsRow uP t' size u n' xs->t'≠3->(w.setCell ⟨g,t,none⟩ (O J n)).ownsRow uP t' size u n' xs:=fun hu n2=>by
  refine Cb hu fun k EC=>hk k ?_
  rintro rfl
  exact own_ne hu h.fo n2 EC
 refine⟨⟨nb h.s (by decide),nr h.so (by decide),h.sx,?_,?_,h.fx,nb h.p (by decide),nr h.po (by decide),h.px,fun q hq=>⟨⟨nr (h.pk q hq).1.own (by decide)⟩,(h.pk q hq).2⟩,h.o1,h.o3,h.o4,h.og,nb h.x (by decide),h.ox,fun q hq=>nb (h.z q hq) (by decide)⟩,fun k h1 h2=>hk k (fun e=>h.fx (e ▸ ⟨h1,h2⟩))⟩
 ·rw[List.length_set];exact nb h.f (by decide)
 ·rw[dO (i:=t) h.fo]
  congr 1
  congr 1
  apply Array.ext'
  simp[encI,List.map_set]
end
end
def WIn(a b:Nat)(w:Wq)(v:dU)(W:Wd):Prop:=∀ w',(∀ k,a<=k->k<b->w'.heap[k]?=w.heap[k]?)->Di a w' v W
theorem Di.wIn{a:Nat}{w:Wq}{v:dU}{W:Wd}(h:Di a w v W):WIn a w.heap.size w v W:=fun w' hk=>h.win hk
theorem WIn.same{a b:Nat}{w w':Wq}{v:dU}{W:Wd}(h:WIn a b w v W)(hk:∀ k,a<=k->k<b->w'.heap[k]?=w.heap[k]?):WIn a b w' v W:=fun w2 h2=>h w2 fun k h3 h4=>(h2 k h3 h4).trans (hk k h3 h4)
def Vf(x:Pk)(e:Int)(i:Nat)(beg:List Nat):List Nat:=if e≠0\/x.tick=true then beg else if x.step then beg else beg.set x.s.toNat i
def Vg(x:Pk)(e:Int)(i:Nat)(beg:List Nat)(W:Wd)(past:List Pst):List Pst :=
 if e≠0\/x.tick=true then past else if x.step then (if (W.t.getD x.s.toNat idle).b then past else past ++ [b0w i x (beg.getD x.s.toNat 0) (W.t.getD x.s.toNat idle)]) else past
def a6e(lo a b:Nat)(w:Wq)(B1 B2 B3 B4 g:Nat)(v2:dU)(said:List Int)(past:List Pst)(beg:List Nat)(Z:List (Nat × Array dU))(e:Ending)(w':Wq):Prop :=
 ∃ v1 v4 pl,e=.returned (.tuple #[])/\Cs lo a b w' B1 B2 B3 B4 g v1 v2 v4 said pl beg Z/\pl.map (·.1)=past/\Below lo w w'/\∀ k,a<=k->k<b->w'.heap[k]?=w.heap[k]?
theorem iE:(Pg.info? 36).map (fun i=>(i.zero,i.size,i.bytes))=some (some (O J 0),1,8):=by kernel_rfl
theorem iP:(Pg.info? 78).map (fun i=>(i.zero,i.size,i.bytes))=some (some (.agg #[O J 0,O J 0,O J 0,O J 0,O J 0,O J 0,O J 0,O J 0,O J 0,O J 0,O J 0,O J 0,Y none 0 0]),13,120):=by kernel_rfl
theorem Cs.fat{lo a b:Nat}{w:Wq}{B1 B2 B3 B4 g:Nat}{v1 v2 v4:dU}{said:List Int}{pl:List (Pst × Option Addr × Nat)}{beg:List Nat}{Z:List (Nat × Array dU)}(h:Cs lo a b w B1 B2 B3 B4 g v1 v2 v4 said pl beg Z){t:Nat}(ht:t<beg.length):w.cell? ⟨g,t,none⟩=some (O J (beg.getD t 0:Nat)):=by
 rw[dN h.fo]
 simp[encI,ht]
theorem b3t(lo a b:Nat)(w:Wq)(B1 B2 B3 B4 g:Nat)(aP:Option Addr)(cP:Nat)(l:List Pk)(v1 v4:dU)(said:List Int)(pl:List (Pst × Option Addr × Nat))(beg:List Nat)(Z:List (Nat × Array dU))(W:Wd)(v:dU)(i:Nat)(E:Int)
  (h:Cs lo a b w B1 B2 B3 B4 g v1 (Y aP l.length cP) v4 said pl beg Z) (hz:b<=w.heap.size) (hr:H8 w aP cP l) (uK:∀ ad,aP=some ad->ad.block<lo) (hi:i<l.length) (hs:said.length<=300) (GG:pl.length<=300) (hW:WIn a b w v W) (hT:E≠0) :
  Calls Pg 80 #[O J i,v,O J E,Ae B1,Ae B2,Ae B3,Ae B4] w (a6e lo a b w B1 B2 B3 B4 g (Y aP l.length cP) (said ++ [E]) (pl.map (·.1)) beg Z):=by
 unfold Ae
 obtain⟨aS,aH,aF,aL,cS,cH,cF,cL,aT,cT,lt,rfl,-⟩:=hW w (fun _ _ _=>rfl)
 have b0:Below w.heap.size w (w.alloc (.cells #[Y aS W.m.s.length cS,Y aH W.m.h.length cH,Y aF W.m.f.length cF,Y aL W.m.l.length cL,O J W.m.w,Y aT W.t.length cT] 28)):=A7 _ _
 have ny:Qi (Cs lo a b (w.alloc (.cells #[Y aS W.m.s.length cS,Y aH W.m.h.length cH,Y aF W.m.f.length cF,Y aL W.m.l.length cL,O J W.m.w,Y aT W.t.length cT] 28)) B1 B2 B3 B4 g v1 (Y aP l.length cP) v4 said pl beg Z):=h.below b0
 have tV:Qi ((w.alloc (.cells #[Y aS W.m.s.length cS,Y aH W.m.h.length cH,Y aF W.m.f.length cF,Y aL W.m.l.length cL,O J W.m.w,Y aT W.t.length cT] 28)).heap[w.heap.size]?=some (.cells #[Y aS W.m.s.length cS,Y aH W.m.h.length cH,Y aF W.m.f.length cF,Y aL W.m.l.length cL,O J W.m.w,Y aT W.t.length cT] 28 (0,0))):=fP _ _
 have uT:Qi (lo<=w.heap.size):=by have:=h.o1.1;have:=fC h.s;show _<=_;omega
 have uG:Qi (WIn a b w (.agg #[Y aS W.m.s.length cS,Y aH W.m.h.length cH,Y aF W.m.f.length cF,Y aL W.m.l.length cL,O J W.m.w,Y aT W.t.length cT]) W):=hW
 have Hz:Qi (b<=w.heap.size):=hz
 rcases hr.at_ with hn|⟨bP,oP,rfl,hx⟩
 ·omega
 have gy:bP<lo:=uK _ rfl
 have yN:Qi (w.rangeAt bP (oP+i*9) [O J (l[i]).s,.bool (l[i]).step,.bool (l[i]).tick,O J ((l[i]).c).k,O J ((l[i]).c).a,O J ((l[i]).c).b,O J ((l[i]).c).t,O J ((l[i]).c).q,O J ((l[i]).c).h]):=hx i hi
 have JB:=hr.max
 have QK:=hr.le
 obtain⟨x,xu⟩:∃ x,x=l[i]:=⟨_,rfl⟩
 have Hxe:Qi (x=l[i]):=xu
 rw[<- xu] at yN
 have uy:Qi (∀ j u,[nY .i64 E][j]?=some u->(((w.alloc (.cells #[Y aS W.m.s.length cS,Y aH W.m.h.length cH,Y aF W.m.f.length cF,Y aL W.m.l.length cL,O J W.m.w,Y aT W.t.length cT] 28))).alloc (.cells #[O J E] 36)).cell? ((⟨w.heap.size+1,0,none⟩:Addr).add j)=some u):=fun j u hu=>by
  have h1:=nP (w.alloc (.cells #[Y aS W.m.s.length cS,Y aH W.m.h.length cH,Y aF W.m.f.length cF,Y aL W.m.l.length cL,O J W.m.w,Y aT W.t.length cT] 28)) (O J E) 36 j u hu
  rwa [show (w.alloc (.cells #[Y aS W.m.s.length cS,Y aH W.m.h.length cH,Y aF W.m.f.length cF,Y aL W.m.l.length cL,O J W.m.w,Y aT W.t.length cT] 28)).heap.size=w.heap.size+1 by simp] at h1
 obtain⟨i0,uS,FZ,xx,yZ⟩:=gG iE
 obtain⟨a1,k1,rfl⟩:=Bg ny.o.so
 have HO:Qi ((w.alloc (.cells #[Y aS W.m.s.length cS,Y aH W.m.h.length cH,Y aF W.m.f.length cF,Y aL W.m.l.length cL,O J W.m.w,Y aT W.t.length cT] 28)).ownsRow lo 36 1 (Y a1 said.length k1) said.length (encI said)):=ny.o.so
 have xP:Qi (∀ (w2:Wq) (o:Obj) (v':dU),((w.alloc (.cells #[Y aS W.m.s.length cS,Y aH W.m.h.length cH,Y aF W.m.f.length cF,Y aL W.m.l.length cL,O J W.m.w,Y aT W.t.length cT] 28)).alloc o).grownBy w2 (eX a1 said.length k1).ownBlock->Below lo w (w2.setCell ⟨B1,0,none⟩ v')):=fun w2 o v' hg=>Ii ((nU (A7 w _) uT.o)) hg (fun k hk=>(HO.o.lt k hk).1) (by have:=uT.o;simp;omega) ny.o.o1.1
 obtain⟨c1,f1,l1⟩:=Aw ny.o.s
 clear h hW hr b0 uK hx hz xu
 go_enter oI,oG
 go_wp2_with (first|(at_builtin;refine gB _ rfl (.tmp 12) (.tmp 14) 68 rfl lo 36 i0 (O J 0) 1 8 oD uS FZ xx yZ rfl (by decide) _ _ _ rfl (HO.o.alloc _) ⟨w.heap.size+1,0,none⟩ 1 1 [O J E] rfl rfl uy.o (by intro u hu;simp at hu;subst hu;rfl) (by unfold gJ;omega) (by omega) (by have:=uT.o;simp;omega) ?_;intro v2 w2 jk lg _ ji;obtain⟨g2,eu,rfl⟩:=kK jk (by omega);have tX:Qi _:=Cs.say ny.o (by have:=Hz.o;simp;omega) lg jk ji;obtain⟨d1,e1,NJ⟩:=Aw (Dt ny.o.s lg (own_ne HO.o ny.o.s (by decide)));have iy:Qi _:=xP.o _ _ (Y (some ⟨g2,0,none⟩) (said.length+1) eu) lg;obtain⟨d2,e2,TM⟩:=Aw tX.o.1.x;have wL:Qi _:=Ed yN.o iy.o gy;have sO:=fun o:Obj=>tX.o.1.below (A7 _ o);have d3:=fun o:Obj=>(Aw (sO o).f).1;have e3:=fun o:Obj=>(Aw (sO o).f).2.1;have d4:=fun o:Obj=>(Aw (sO o).p).1;have e4:=fun o:Obj=>(Aw (sO o).p).2.1; clear sO c1 f1 l1 jk lg ji ny HO xP)|refine Vl rfl _ rfl rfl wL.o ?_)
 refine bodyPost_ret (nR rfl _ _ _) rfl ?_
 have hq:∀ o:Obj,Below lo w (nV _ o):=fun o=>iy.o.alloc (by have:=iy.o.size;have:=uT.o;omega) o
 exact⟨_,v4,pl,rfl,tX.o.1.below (A7 _ _),rfl,hq _,fun k h1 h2=>((A7 _ _).block k (by have:=iy.o.size;have:=Hz.o;omega)).trans ((tX.o.2 k h1 h2).trans ((A7 _ _).block k (by have:=Hz.o;omega)))⟩
theorem b0i(lo a b:Nat)(w:Wq)(B1 B2 B3 B4 g:Nat)(aP:Option Addr)(cP:Nat)(l:List Pk)(v1 v4:dU)(said:List Int)(pl:List (Pst × Option Addr × Nat))(beg:List Nat)(Z:List (Nat × Array dU))(W:Wd)(v:dU)(i:Nat)(E:Int)
  (h:Cs lo a b w B1 B2 B3 B4 g v1 (Y aP l.length cP) v4 said pl beg Z) (hz:b<=w.heap.size) (hr:H8 w aP cP l) (uK:∀ ad,aP=some ad->ad.block<lo) (hi:i<l.length) (hs:said.length<=300) (GG:pl.length<=300) (hW:WIn a b w v W) (hE:E=0) (hT:(l[i]'hi).tick=true) :
  Calls Pg 80 #[O J i,v,O J E,Ae B1,Ae B2,Ae B3,Ae B4] w (a6e lo a b w B1 B2 B3 B4 g (Y aP l.length cP) (said ++ [E]) (pl.map (·.1)) beg Z):=by
 unfold Ae
 obtain⟨aS,aH,aF,aL,cS,cH,cF,cL,aT,cT,lt,rfl,-⟩:=hW w (fun _ _ _=>rfl)
 subst hE
 have b0:Below w.heap.size w (w.alloc (.cells #[Y aS W.m.s.length cS,Y aH W.m.h.length cH,Y aF W.m.f.length cF,Y aL W.m.l.length cL,O J W.m.w,Y aT W.t.length cT] 28)):=A7 _ _
 have ny:Qi (Cs lo a b (w.alloc (.cells #[Y aS W.m.s.length cS,Y aH W.m.h.length cH,Y aF W.m.f.length cF,Y aL W.m.l.length cL,O J W.m.w,Y aT W.t.length cT] 28)) B1 B2 B3 B4 g v1 (Y aP l.length cP) v4 said pl beg Z):=h.below b0
 have tV:Qi ((w.alloc (.cells #[Y aS W.m.s.length cS,Y aH W.m.h.length cH,Y aF W.m.f.length cF,Y aL W.m.l.length cL,O J W.m.w,Y aT W.t.length cT] 28)).heap[w.heap.size]?=some (.cells #[Y aS W.m.s.length cS,Y aH W.m.h.length cH,Y aF W.m.f.length cF,Y aL W.m.l.length cL,O J W.m.w,Y aT W.t.length cT] 28 (0,0))):=fP _ _
 have uT:Qi (lo<=w.heap.size):=by have:=h.o1.1;have:=fC h.s;show _<=_;omega
 have uG:Qi (WIn a b w (.agg #[Y aS W.m.s.length cS,Y aH W.m.h.length cH,Y aF W.m.f.length cF,Y aL W.m.l.length cL,O J W.m.w,Y aT W.t.length cT]) W):=hW
 have Hz:Qi (b<=w.heap.size):=hz
 rcases hr.at_ with hn|⟨bP,oP,rfl,hx⟩
 ·omega
 have gy:bP<lo:=uK _ rfl
 have yN:Qi (w.rangeAt bP (oP+i*9) [O J (l[i]).s,.bool (l[i]).step,.bool (l[i]).tick,O J ((l[i]).c).k,O J ((l[i]).c).a,O J ((l[i]).c).b,O J ((l[i]).c).t,O J ((l[i]).c).q,O J ((l[i]).c).h]):=hx i hi
 have JB:=hr.max
 have QK:=hr.le
 obtain⟨x,xu⟩:∃ x,x=l[i]:=⟨_,rfl⟩
 have Hxe:Qi (x=l[i]):=xu
 rw[<- xu] at yN hT
 have uy:Qi (∀ j u,[nY .i64 0][j]?=some u->(((w.alloc (.cells #[Y aS W.m.s.length cS,Y aH W.m.h.length cH,Y aF W.m.f.length cF,Y aL W.m.l.length cL,O J W.m.w,Y aT W.t.length cT] 28))).alloc (.cells #[O J 0] 36)).cell? ((⟨w.heap.size+1,0,none⟩:Addr).add j)=some u):=fun j u hu=>by
  have h1:=nP (w.alloc (.cells #[Y aS W.m.s.length cS,Y aH W.m.h.length cH,Y aF W.m.f.length cF,Y aL W.m.l.length cL,O J W.m.w,Y aT W.t.length cT] 28)) (O J 0) 36 j u hu
  rwa [show (w.alloc (.cells #[Y aS W.m.s.length cS,Y aH W.m.h.length cH,Y aF W.m.f.length cF,Y aL W.m.l.length cL,O J W.m.w,Y aT W.t.length cT] 28)).heap.size=w.heap.size+1 by simp] at h1
 obtain⟨i0,uS,FZ,xx,yZ⟩:=gG iE
 obtain⟨a1,k1,rfl⟩:=Bg ny.o.so
 have HO:Qi ((w.alloc (.cells #[Y aS W.m.s.length cS,Y aH W.m.h.length cH,Y aF W.m.f.length cF,Y aL W.m.l.length cL,O J W.m.w,Y aT W.t.length cT] 28)).ownsRow lo 36 1 (Y a1 said.length k1) said.length (encI said)):=ny.o.so
 have xP:Qi (∀ (w2:Wq) (o:Obj) (v':dU),((w.alloc (.cells #[Y aS W.m.s.length cS,Y aH W.m.h.length cH,Y aF W.m.f.length cF,Y aL W.m.l.length cL,O J W.m.w,Y aT W.t.length cT] 28)).alloc o).grownBy w2 (eX a1 said.length k1).ownBlock->Below lo w (w2.setCell ⟨B1,0,none⟩ v')):=fun w2 o v' hg=>Ii ((nU (A7 w _) uT.o)) hg (fun k hk=>(HO.o.lt k hk).1) (by have:=uT.o;simp;omega) ny.o.o1.1
 obtain⟨c1,f1,l1⟩:=Aw ny.o.s
 clear h hW hr b0 uK hx hz xu
 go_enter oI,oG
 go_wp2_with (first|(at_builtin;refine gB _ rfl (.tmp 12) (.tmp 14) 68 rfl lo 36 i0 (O J 0) 1 8 oD uS FZ xx yZ rfl (by decide) _ _ _ rfl (HO.o.alloc _) ⟨w.heap.size+1,0,none⟩ 1 1 [O J 0] rfl rfl uy.o (by intro u hu;simp at hu;subst hu;rfl) (by unfold gJ;omega) (by omega) (by have:=uT.o;simp;omega) ?_;intro v2 w2 jk lg _ ji;obtain⟨g2,eu,rfl⟩:=kK jk (by omega);have tX:Qi _:=Cs.say ny.o (by have:=Hz.o;simp;omega) lg jk ji;obtain⟨d1,e1,NJ⟩:=Aw (Dt ny.o.s lg (own_ne HO.o ny.o.s (by decide)));have iy:Qi _:=xP.o _ _ (Y (some ⟨g2,0,none⟩) (said.length+1) eu) lg;obtain⟨d2,e2,TM⟩:=Aw tX.o.1.x;have wL:Qi _:=Ed yN.o iy.o gy;have sO:=fun o:Obj=>tX.o.1.below (A7 _ o);have d3:=fun o:Obj=>(Aw (sO o).f).1;have e3:=fun o:Obj=>(Aw (sO o).f).2.1;have d4:=fun o:Obj=>(Aw (sO o).p).1;have e4:=fun o:Obj=>(Aw (sO o).p).2.1; clear sO c1 f1 l1 jk lg ji ny HO xP)|refine Vl rfl _ rfl rfl wL.o ?_)
 refine bodyPost_ret (nR rfl _ _ _) rfl ?_
 have hq:∀ o:Obj,Below lo w (nV _ o):=fun o=>iy.o.alloc (by have:=iy.o.size;have:=uT.o;omega) o
 exact⟨_,v4,pl,rfl,tX.o.1.below (A7 _ _),rfl,hq _,fun k h1 h2=>((A7 _ _).block k (by have:=iy.o.size;have:=Hz.o;omega)).trans ((tX.o.2 k h1 h2).trans ((A7 _ _).block k (by have:=Hz.o;omega)))⟩
theorem a7k(lo a b:Nat)(w:Wq)(B1 B2 B3 B4 g:Nat)(aP:Option Addr)(cP:Nat)(l:List Pk)(v1 v4:dU)(said:List Int)(pl:List (Pst × Option Addr × Nat))(beg:List Nat)(Z:List (Nat × Array dU))(W:Wd)(v:dU)(i:Nat)(E:Int)
  (h:Cs lo a b w B1 B2 B3 B4 g v1 (Y aP l.length cP) v4 said pl beg Z) (hz:b<=w.heap.size) (hr:H8 w aP cP l) (uK:∀ ad,aP=some ad->ad.block<lo) (hi:i<l.length) (hs:said.length<=300) (GG:pl.length<=300) (hW:WIn a b w v W) (hE:E=0) (hT:(l[i]'hi).tick=false) (hS:(l[i]'hi).step=false) (hk:0<=(l[i]'hi).s/\(l[i]'hi).s<beg.length) :
  Calls Pg 80 #[O J i,v,O J E,Ae B1,Ae B2,Ae B3,Ae B4] w (a6e lo a b w B1 B2 B3 B4 g (Y aP l.length cP) (said ++ [E]) (pl.map (·.1)) (beg.set (l[i]'hi).s.toNat i) Z):=by
 unfold Ae
 obtain⟨aS,aH,aF,aL,cS,cH,cF,cL,aT,cT,lt,rfl,-⟩:=hW w (fun _ _ _=>rfl)
 subst hE
 have b0:Below w.heap.size w (w.alloc (.cells #[Y aS W.m.s.length cS,Y aH W.m.h.length cH,Y aF W.m.f.length cF,Y aL W.m.l.length cL,O J W.m.w,Y aT W.t.length cT] 28)):=A7 _ _
 have ny:Qi (Cs lo a b (w.alloc (.cells #[Y aS W.m.s.length cS,Y aH W.m.h.length cH,Y aF W.m.f.length cF,Y aL W.m.l.length cL,O J W.m.w,Y aT W.t.length cT] 28)) B1 B2 B3 B4 g v1 (Y aP l.length cP) v4 said pl beg Z):=h.below b0
 have tV:Qi ((w.alloc (.cells #[Y aS W.m.s.length cS,Y aH W.m.h.length cH,Y aF W.m.f.length cF,Y aL W.m.l.length cL,O J W.m.w,Y aT W.t.length cT] 28)).heap[w.heap.size]?=some (.cells #[Y aS W.m.s.length cS,Y aH W.m.h.length cH,Y aF W.m.f.length cF,Y aL W.m.l.length cL,O J W.m.w,Y aT W.t.length cT] 28 (0,0))):=fP _ _
 have uT:Qi (lo<=w.heap.size):=by have:=h.o1.1;have:=fC h.s;show _<=_;omega
 have uG:Qi (WIn a b w (.agg #[Y aS W.m.s.length cS,Y aH W.m.h.length cH,Y aF W.m.f.length cF,Y aL W.m.l.length cL,O J W.m.w,Y aT W.t.length cT]) W):=hW
 have Hz:Qi (b<=w.heap.size):=hz
 rcases hr.at_ with hn|⟨bP,oP,rfl,hx⟩
 ·omega
 have gy:bP<lo:=uK _ rfl
 have yN:Qi (w.rangeAt bP (oP+i*9) [O J (l[i]).s,.bool (l[i]).step,.bool (l[i]).tick,O J ((l[i]).c).k,O J ((l[i]).c).a,O J ((l[i]).c).b,O J ((l[i]).c).t,O J ((l[i]).c).q,O J ((l[i]).c).h]):=hx i hi
 have JB:=hr.max
 have QK:=hr.le
 obtain⟨x,xu⟩:∃ x,x=l[i]:=⟨_,rfl⟩
 have Hxe:Qi (x=l[i]):=xu
 rw[<- xu] at yN hT hS hk ⊢
 have uy:Qi (∀ j u,[nY .i64 0][j]?=some u->(((w.alloc (.cells #[Y aS W.m.s.length cS,Y aH W.m.h.length cH,Y aF W.m.f.length cF,Y aL W.m.l.length cL,O J W.m.w,Y aT W.t.length cT] 28))).alloc (.cells #[O J 0] 36)).cell? ((⟨w.heap.size+1,0,none⟩:Addr).add j)=some u):=fun j u hu=>by
  have h1:=nP (w.alloc (.cells #[Y aS W.m.s.length cS,Y aH W.m.h.length cH,Y aF W.m.f.length cF,Y aL W.m.l.length cL,O J W.m.w,Y aT W.t.length cT] 28)) (O J 0) 36 j u hu
  rwa [show (w.alloc (.cells #[Y aS W.m.s.length cS,Y aH W.m.h.length cH,Y aF W.m.f.length cF,Y aL W.m.l.length cL,O J W.m.w,Y aT W.t.length cT] 28)).heap.size=w.heap.size+1 by simp] at h1
 obtain⟨i0,uS,FZ,xx,yZ⟩:=gG iE
 obtain⟨a1,k1,rfl⟩:=Bg ny.o.so
 have HO:Qi ((w.alloc (.cells #[Y aS W.m.s.length cS,Y aH W.m.h.length cH,Y aF W.m.f.length cF,Y aL W.m.l.length cL,O J W.m.w,Y aT W.t.length cT] 28)).ownsRow lo 36 1 (Y a1 said.length k1) said.length (encI said)):=ny.o.so
 have xP:Qi (∀ (w2:Wq) (o:Obj) (v':dU),((w.alloc (.cells #[Y aS W.m.s.length cS,Y aH W.m.h.length cH,Y aF W.m.f.length cF,Y aL W.m.l.length cL,O J W.m.w,Y aT W.t.length cT] 28)).alloc o).grownBy w2 (eX a1 said.length k1).ownBlock->Below lo w (w2.setCell ⟨B1,0,none⟩ v')):=fun w2 o v' hg=>Ii ((nU (A7 w _) uT.o)) hg (fun k hk=>(HO.o.lt k hk).1) (by have:=uT.o;simp;omega) ny.o.o1.1
 obtain⟨c1,f1,l1⟩:=Aw ny.o.s
 clear h hW hr b0 uK hx hz xu
 go_enter oI,oG
 go_wp2_with (first|(at_builtin;refine gB _ rfl (.tmp 12) (.tmp 14) 68 rfl lo 36 i0 (O J 0) 1 8 oD uS FZ xx yZ rfl (by decide) _ _ _ rfl (HO.o.alloc _) ⟨w.heap.size+1,0,none⟩ 1 1 [O J 0] rfl rfl uy.o (by intro u hu;simp at hu;subst hu;rfl) (by unfold gJ;omega) (by omega) (by have:=uT.o;simp;omega) ?_;intro v2 w2 jk lg _ ji;obtain⟨g2,eu,rfl⟩:=kK jk (by omega);have tX:Qi _:=Cs.say ny.o (by have:=Hz.o;simp;omega) lg jk ji;obtain⟨d1,e1,NJ⟩:=Aw (Dt ny.o.s lg (own_ne HO.o ny.o.s (by decide)));have iy:Qi _:=xP.o _ _ (Y (some ⟨g2,0,none⟩) (said.length+1) eu) lg;obtain⟨d2,e2,TM⟩:=Aw tX.o.1.x;have wL:Qi _:=Ed yN.o iy.o gy;have sO:=fun o:Obj=>tX.o.1.below (A7 _ o);have d3:=fun o:Obj=>(Aw (sO o).f).1;have e3:=fun o:Obj=>(Aw (sO o).f).2.1;have d4:=fun o:Obj=>(Aw (sO o).p).1;have e4:=fun o:Obj=>(Aw (sO o).p).2.1;have ry:=hk.1;have yt:=hk.2;have e5:=fun o:Obj=>unfrozen_of_block (sO o).fo x.s.toNat;have d5:=fun o:Obj=>Cs.fat (sO o) (t:=x.s.toNat) (by omega);clear sO c1 f1 l1 jk lg ji ny HO xP)|refine Vl rfl _ rfl rfl wL.o ?_)
 refine nT (nR rfl _ _ _) rfl ?_
 have hq:∀ o:Obj,Below lo w (nV _ o):=fun o=>iy.o.alloc (by have:=iy.o.size;have:=uT.o;omega) o
 have QG:=fun o:Obj=>Cs.start (tX.o.1.below (A7 _ o)) x.s.toNat i (by omega)
 exact⟨_,v4,pl,rfl,(QG _).1,rfl,(hq _).setCell tX.o.1.og _,fun k h1 h2=>((QG _).2 k h1 h2).trans (((A7 _ _).block k (by have:=iy.o.size;have:=Hz.o;omega)).trans ((tX.o.2 k h1 h2).trans ((A7 _ _).block k (by have:=Hz.o;omega))))⟩
theorem a0i{a:Nat}{w:Wq}{aS aH aF aL:Option Addr}{cS cH cF cL:Nat}{aT:Option Addr}{cT:Nat}{W:Wd}(h:Di a w (.agg #[Y aS W.m.s.length cS,Y aH W.m.h.length cH,Y aF W.m.f.length cF,Y aL W.m.l.length cL,O J W.m.w,Y aT W.t.length cT]) W){t:Nat}(ht:t<W.t.length) :
  ∃ lt:TkV,Qi (Az w lt.aK lt.cK (W.t.getD t idle).f.t)/\W.t.length<=cT/\∃ p q,aT=some ⟨p,q,none⟩/\Qi (w.rangeAt p (q+t*16) ((W.t.getD t idle).enc lt)):=by
 obtain⟨bS,bH,bF,bL,dS,dH,dF,dL,bT,dT,lt,e,A,hi,tC,hT,wK⟩:=h
 have e1:=Value.agg.inj e
 simp only[Array.mk.injEq,List.cons.injEq,Value.slice.injEq,true_and,and_true] at e1
 obtain⟨-,-,-,-,rfl,rfl⟩:=e1
 have hl:W.t.length=lt.length:=by rw[tC,List.length_map]
 have hg:W.t.getD t idle=lt[t].1:=by rw[List.getD_eq_getElem?_getD,tC];simp[show t<lt.length by omega]
 obtain⟨p,q,rfl⟩:=hT.addr (by omega)
 refine⟨lt[t].2,?_,by have:=hT.le;omega,p,q,rfl,?_⟩
 ·rw[hg];exact hT.t _ (List.getElem_mem _)
 ·rw[hg];exact hT.range (by omega)
theorem b0g(lo a b:Nat)(w:Wq)(B1 B2 B3 B4 g:Nat)(aP:Option Addr)(cP:Nat)(l:List Pk)(v1 v4:dU)(said:List Int)(pl:List (Pst × Option Addr × Nat))(beg:List Nat)(Z:List (Nat × Array dU))(W:Wd)(v:dU)(i:Nat)(E:Int)
  (h:Cs lo a b w B1 B2 B3 B4 g v1 (Y aP l.length cP) v4 said pl beg Z) (hz:b<=w.heap.size) (hr:H8 w aP cP l) (uK:∀ ad,aP=some ad->ad.block<lo) (hi:i<l.length) (hs:said.length<=300) (GG:pl.length<=300) (hW:WIn a b w v W) (hE:E=0) (hT:(l[i]'hi).tick=false) (hS:(l[i]'hi).step=true) (hk:0<=(l[i]'hi).s/\(l[i]'hi).s<W.t.length) (hB:(W.t.getD (l[i]'hi).s.toNat idle).b=true) :
  Calls Pg 80 #[O J i,v,O J E,Ae B1,Ae B2,Ae B3,Ae B4] w (a6e lo a b w B1 B2 B3 B4 g (Y aP l.length cP) (said ++ [E]) (pl.map (·.1)) beg Z):=by
 unfold Ae
 obtain⟨aS,aH,aF,aL,cS,cH,cF,cL,aT,cT,lt,rfl,-⟩:=hW w (fun _ _ _=>rfl)
 subst hE
 have zT:(l[i]'hi).s.toNat<W.t.length:=by omega
 obtain⟨-,-,hcT,pT,qT,rfl,-⟩:=a0i (hW w fun _ _ _=>rfl) zT
 clear zT
 have b0:Below w.heap.size w (w.alloc (.cells #[Y aS W.m.s.length cS,Y aH W.m.h.length cH,Y aF W.m.f.length cF,Y aL W.m.l.length cL,O J W.m.w,Y (some ⟨pT,qT,none⟩) W.t.length cT] 28)):=A7 _ _
 have ny:Qi (Cs lo a b (w.alloc (.cells #[Y aS W.m.s.length cS,Y aH W.m.h.length cH,Y aF W.m.f.length cF,Y aL W.m.l.length cL,O J W.m.w,Y (some ⟨pT,qT,none⟩) W.t.length cT] 28)) B1 B2 B3 B4 g v1 (Y aP l.length cP) v4 said pl beg Z):=h.below b0
 have tV:Qi ((w.alloc (.cells #[Y aS W.m.s.length cS,Y aH W.m.h.length cH,Y aF W.m.f.length cF,Y aL W.m.l.length cL,O J W.m.w,Y (some ⟨pT,qT,none⟩) W.t.length cT] 28)).heap[w.heap.size]?=some (.cells #[Y aS W.m.s.length cS,Y aH W.m.h.length cH,Y aF W.m.f.length cF,Y aL W.m.l.length cL,O J W.m.w,Y (some ⟨pT,qT,none⟩) W.t.length cT] 28 (0,0))):=fP _ _
 have uT:Qi (lo<=w.heap.size):=by have:=h.o1.1;have:=fC h.s;show _<=_;omega
 have uG:Qi (WIn a b w (.agg #[Y aS W.m.s.length cS,Y aH W.m.h.length cH,Y aF W.m.f.length cF,Y aL W.m.l.length cL,O J W.m.w,Y (some ⟨pT,qT,none⟩) W.t.length cT]) W):=hW
 have Hz:Qi (b<=w.heap.size):=hz
 rcases hr.at_ with hn|⟨bP,oP,rfl,hx⟩
 ·omega
 have gy:bP<lo:=uK _ rfl
 have yN:Qi (w.rangeAt bP (oP+i*9) [O J (l[i]).s,.bool (l[i]).step,.bool (l[i]).tick,O J ((l[i]).c).k,O J ((l[i]).c).a,O J ((l[i]).c).b,O J ((l[i]).c).t,O J ((l[i]).c).q,O J ((l[i]).c).h]):=hx i hi
 have JB:=hr.max
 have QK:=hr.le
 obtain⟨x,xu⟩:∃ x,x=l[i]:=⟨_,rfl⟩
 have Hxe:Qi (x=l[i]):=xu
 rw[<- xu] at yN hT hS hk hB 
 obtain⟨xt,xs,xk,xc⟩:=x
 dsimp only at yN hT hS hk hB 
 subst hT hS
 obtain⟨tk,rfl⟩:∃ tk:Nat,xt=tk:=⟨xt.toNat,by omega⟩
 rw[Int.toNat_natCast] at hB 
 have yt:tk<W.t.length:=by omega
 have l1w:B1<w.heap.size:=fC h.s
 obtain⟨t,NQ⟩:∃ t,t=W.t.getD tk idle:=⟨_,rfl⟩
 have Hte:Qi (t=W.t.getD tk idle):=NQ
 rw[<- NQ] at hB 
 clear NQ
 have uy:Qi (∀ j u,[nY .i64 0][j]?=some u->(((w.alloc (.cells #[Y aS W.m.s.length cS,Y aH W.m.h.length cH,Y aF W.m.f.length cF,Y aL W.m.l.length cL,O J W.m.w,Y (some ⟨pT,qT,none⟩) W.t.length cT] 28))).alloc (.cells #[O J 0] 36)).cell? ((⟨w.heap.size+1,0,none⟩:Addr).add j)=some u):=fun j u hu=>by
  have h1:=nP (w.alloc (.cells #[Y aS W.m.s.length cS,Y aH W.m.h.length cH,Y aF W.m.f.length cF,Y aL W.m.l.length cL,O J W.m.w,Y (some ⟨pT,qT,none⟩) W.t.length cT] 28)) (O J 0) 36 j u hu
  rwa [show (w.alloc (.cells #[Y aS W.m.s.length cS,Y aH W.m.h.length cH,Y aF W.m.f.length cF,Y aL W.m.l.length cL,O J W.m.w,Y (some ⟨pT,qT,none⟩) W.t.length cT] 28)).heap.size=w.heap.size+1 by simp] at h1
 obtain⟨i0,uS,FZ,xx,yZ⟩:=gG iE
 obtain⟨a1,k1,rfl⟩:=Bg ny.o.so
 have HO:Qi ((w.alloc (.cells #[Y aS W.m.s.length cS,Y aH W.m.h.length cH,Y aF W.m.f.length cF,Y aL W.m.l.length cL,O J W.m.w,Y (some ⟨pT,qT,none⟩) W.t.length cT] 28)).ownsRow lo 36 1 (Y a1 said.length k1) said.length (encI said)):=ny.o.so
 have xP:Qi (∀ (w2:Wq) (o:Obj) (v':dU),((w.alloc (.cells #[Y aS W.m.s.length cS,Y aH W.m.h.length cH,Y aF W.m.f.length cF,Y aL W.m.l.length cL,O J W.m.w,Y (some ⟨pT,qT,none⟩) W.t.length cT] 28)).alloc o).grownBy w2 (eX a1 said.length k1).ownBlock->Below lo w (w2.setCell ⟨B1,0,none⟩ v')):=fun w2 o v' hg=>Ii ((nU (A7 w _) uT.o)) hg (fun k hk=>(HO.o.lt k hk).1) (by have:=uT.o;simp;omega) ny.o.o1.1
 obtain⟨c1,f1,l1⟩:=Aw ny.o.s
 clear h hW hr b0 uK hx hz xu
 go_enter oI,oG
 go_wp2_with (first|(at_builtin;go_loud (refine gB _ rfl (.tmp 12) (.tmp 14) 68 rfl lo 36 i0 (O J 0) 1 8 oD uS FZ xx yZ rfl (by decide) _ _ _ rfl (HO.o.alloc _) ⟨w.heap.size+1,0,none⟩ 1 1 [O J 0] rfl rfl uy.o (by intro u hu;simp at hu;subst hu;rfl) (by unfold gJ;omega) (by omega) (by have:=uT.o;simp;omega) ?_;intro v2 w2 jk lg _ ji;obtain⟨g2,eu,rfl⟩:=kK jk (by omega);have tX:Qi _:=Cs.say ny.o (by have:=Hz.o;simp;omega) lg jk ji;obtain⟨d1,e1,NJ⟩:=Aw (Dt ny.o.s lg (own_ne HO.o ny.o.s (by decide)));have iy:Qi _:=xP.o _ _ (Y (some ⟨g2,0,none⟩) (said.length+1) eu) lg;obtain⟨d2,e2,TM⟩:=Aw tX.o.1.x;have wL:Qi _:=Ed yN.o iy.o gy;have rG:Qi _:=Dt tV.o lg (own_ne HO.o tV.o (by decide));have pq:=fC rG.o;have uF:Qi ((World.heap (nV (nX w2 ⟨B1,0,none⟩ (Y (some ⟨g2,0,none⟩) (said.length+1) eu)) (.cells #[O J tk,.bool true,.bool false,O J xc.k,O J xc.a,O J xc.b,O J xc.t,O J xc.q,O J xc.h] 34)))[w.heap.size]?=some (.cells #[Y aS W.m.s.length cS,Y aH W.m.h.length cH,Y aF W.m.f.length cF,Y aL W.m.l.length cL,O J W.m.w,Y (some ⟨pT,qT,none⟩) W.t.length cT] 28 (0,0))):=((A7 _ _).block _ (by first|(simp;done)|(simp;omega)|(have:=iy.o.size;omega))).trans ((dM _ _ _ _ (by dsimp only;omega)).trans rG.o);obtain⟨z0,z1,z2,z3,z4,z5,zs⟩:=Bh uF.o;have AB:Qi _:=uG.o (nV (nX w2 ⟨B1,0,none⟩ (Y (some ⟨g2,0,none⟩) (said.length+1) eu)) (.cells #[O J tk,.bool true,.bool false,O J xc.k,O J xc.a,O J xc.b,O J xc.t,O J xc.q,O J xc.h] 34)) (fun k h1 h2=>((A7 _ _).block k (by have:=iy.o.size;have:=Hz.o;omega)).trans ((tX.o.2 k h1 h2).trans ((A7 _ _).block k (by have:=Hz.o;omega))));obtain⟨lt2,ED,ht2,p2,q2,hpT,RJ⟩:=a0i AB.o yt;cases hpT;rw[<- Hte.o] at RJ ED;clear c1 f1 l1 jk lg ji ny HO xP))|refine Vl (x0:=⟨(tk:Int),true,false,xc⟩) rfl _ rfl rfl wL.o ?_|refine a2r rfl _ rfl rfl RJ.o ?_)
 refine nT (nR rfl _ _ _) rfl ?_
 have hq:∀ o:Obj,Below lo w (nV _ o):=fun o=>iy.o.alloc (by have:=iy.o.size;have:=uT.o;omega) o
 have yZ:∀ o o2:Obj,Below lo w (nV (nV _ o) o2):=fun o o2=>(hq o).alloc (by have:=(hq o).size;have:=uT.o;omega) o2
 exact⟨_,v4,pl,rfl,(tX.o.1.below (A7 _ _)).below (A7 _ _),rfl,yZ _ _,fun k h1 h2=>((A7 _ _).block k (by have:=(hq (.cells #[] 0)).size;have:=iy.o.size;have:=Hz.o;simp;omega)).trans (((A7 _ _).block k (by have:=iy.o.size;have:=Hz.o;omega)).trans ((tX.o.2 k h1 h2).trans ((A7 _ _).block k (by have:=Hz.o;omega))))⟩
section
section
variable {lo a b:Nat} {w w':Wq} {B1 B2 B3 B4 g:Nat} {v1 v2 v4:dU} {said:List Int} {pl:List (Pst × Option Addr × Nat)} {beg:List Nat} {Z:List (Nat × Array dU)}
theorem Cs.tellW(h:Cs lo a b w B1 B2 B3 B4 g v1 v2 v4 said pl beg Z)(hz:b<=w.heap.size){w1:Wq}{v':dU}{q:Pst × Option Addr × Nat}(hq:Ea w lo q.2.1 q.2.2 q.1.t)(hqx:∀ ad,q.2.1=some ad->Out a b ad.block)(hg:w.grownBy w1 v4.ownBlock)(ho:w1.ownsRow lo 78 13 v' (pl.length+1) (a6s pl++q.1.enc q.2.1 q.2.2))(hl:v'.ownBlock=v4.ownBlock\/v'.ownBlock=some w.heap.size) :
  Cs lo a b (w1.setCell ⟨B4,0,none⟩ v') B1 B2 B3 B4 g v1 v2 v' said (pl ++ [q]) beg Z/\∀ k,a<=k->k<b->(w1.setCell ⟨B4,0,none⟩ v').heap[k]?=w.heap[k]?:=by
 have ry:∀ k,k<w.heap.size->v4.ownBlock≠some k->w1.heap[k]?=w.heap[k]?:=fun k hk hn=>by
  exact hg.block k hk (fun e=>hn e.symm)
 have hk:∀ k,k<w.heap.size->v4.ownBlock≠some k->k≠B4->(w1.setCell ⟨B4,0,none⟩ v').heap[k]?=w.heap[k]?:=fun k hk hn hB=>by
  rw[dM _ _ _ _ (by dsimp only;exact hB)]
  exact ry k hk hn
 have s1:w1.heap[B4]?=some (.cells #[v4] 69 (0,0)):=(ry B4 (fC h.p) (own_ne h.po h.p (by decide))).trans h.p
 have nb:∀ {X:Nat} {cs:Array dU} {t:dX},w.heap[X]?=some (.cells cs t (0,0))->t≠78->t≠69->(w1.setCell ⟨B4,0,none⟩ v').heap[X]?=some (.cells cs t (0,0)):=fun hX n1 n2=>by
  refine(hk _ (fC hX) (own_ne h.po hX (Ne.symm n1)) ?_).trans hX
  rintro rfl
  rw[h.p] at hX
  injection hX with hX
  injection hX with _ hX
  exact n2 hX.symm
 have nr:∀ {uP size n:Nat} {t:dX} {u:dU} {xs:List dU},w.ownsRow uP t size u n xs->t≠78->t≠69->(w1.setCell ⟨B4,0,none⟩ v').ownsRow uP t size u n xs:=fun hu n1 n2=>by
  refine Cb hu fun k EC=>hk k (hu.lt k EC).2 (fun hv=>D9 h.po hu (Ne.symm n1) k hv EC) ?_
  rintro rfl
  exact own_ne hu h.p n2 EC
 refine⟨⟨nb h.s (by decide) (by decide),nr h.so (by decide) (by decide),h.sx,nb h.f (by decide) (by decide),nb h.fo (by decide) (by decide),h.fx,?_,?_,?_,?_,h.o1,h.o3,h.o4,h.og,nb h.x (by decide) (by decide),h.ox,fun q hq=>nb (h.z q hq) (by decide) (by decide)⟩,?_⟩
 ·have:=dO (i:=0) s1 v'
  rw[this];rfl
 ·have:=Np (j:=0) (x:=v') ho (own_ne ho s1 (by decide))
  rwa [show a6s pl++q.1.enc q.2.1 q.2.2=a6s (pl ++ [q]) by simp[a6s],show pl.length+1=(pl ++ [q]).length by simp] at this
 ·intro k rO
  rcases hl with hl|hl
  ·exact h.px k (hl ▸ rO)
  ·rw[hl] at rO
   injection rO with rO
   intro hx
   have:=hx.2
   omega
 ·intro q' AX
  rcases List.mem_append.1 AX with AX|AX
  ·exact⟨⟨nr (h.pk q' AX).1.own (by decide) (by decide)⟩,(h.pk q' AX).2⟩
  ·rw[List.mem_singleton] at AX
   subst AX
   exact⟨⟨nr hq.own (by decide) (by decide)⟩,hqx⟩
 ·intro k h1 h2
  exact hk k (by omega) (fun e=>h.px k e ⟨h1,h2⟩) (fun e=>h.o4.2 (e ▸ ⟨h1,h2⟩))
end
theorem Kt{P:Program}{bn:Array Oper}{Q:Exit->Act->Wq->Prop}{i:Nat}{o:Oper}{a:Act}{w w':Wq}{K:Act->Wq->Prop}(hi:bn[i]?=some o)(hw:Region.wanted o (yielded bn a.tmps)=true)
  (hr:(kD a.eval o).run P w=.ok .skip w') (h:K (a.put o.dst Uz) w'):wpOp P bn Q i K a w:=by
 refine wpOp_step hi fun K' hK=>?_
 rw[af hw]
 unfold Oper.wp
 rw[hr]
 exact hK _ _ h
def Ns(x:Nat->dU):Act:=⟨#[x 0,x 1,x 2,x 3,x 4,x 5,x 6,x 7,x 8,x 9,x 10,x 11,x 12,x 13,x 14,x 15,x 16,x 17,x 18,x 19,x 20,x 21,x 22,x 23,x 24,x 25,x 26,x 27,x 28,x 29,x 30,x 31,x 32,x 33,x 34,x 35,x 36,x 37,x 38,x 39,x 40,x 41,x 42,x 43,x 44,x 45,x 46,x 47,x 48,x 49,x 50,x 51,x 52,x 53,x 54,x 55,x 56],[]⟩
def Gz(X B g tk i:Nat)(v4 gs:dU)(f:Fr)(aK:Option Addr)(cK:Nat):Nat->dU
 | 0=>v4
 | 1=>.pointer (some ⟨X+1,1,none⟩)
 | 2=>.agg #[O J f.c.k,O J f.c.a,O J f.c.b,O J f.c.t,O J f.c.q,O J f.c.h,O J f.l,O J f.u,O J f.p,O J f.h,O J f.n,Y aK f.t.length cK,.bool f.d,O J f.e]
 | 3=>.pointer (some ⟨X,0,none⟩)
 | 4=>O J tk
 | 5=>gs
 | 6=>.pointer (some ⟨X,0,none⟩)
 | 7=>O J tk
 | 8=>.pointer (some ⟨g,tk,none⟩)
 | 9=>O J B
 | _=>O J i
def b4a(X B g tk i:Nat)(v4 gs:dU)(f:Fr)(aK:Option Addr)(cK base:Nat)(n:Nat)(v:dU)(W:Wq):Prop :=
 (n≠11->n≠12->v=Gz X B g tk i v4 gs f aK cK n) /\
 (n=11->∃ a2 c2,v=.agg #[O J tk,O J f.c.k,O J f.c.a,O J f.c.b,O J f.c.t,O J f.c.q,O J f.c.h,O J B,O J i,O J f.e,O J f.h,O J f.n,Y a2 f.t.length c2]/\Ea W base a2 c2 f.t) /\
 (n=12->∃ a2 c2 p,v=Y (some ⟨p,0,none⟩) 1 1/\W.heap[p]?=some (.cells #[O J tk,O J f.c.k,O J f.c.a,O J f.c.b,O J f.c.t,O J f.c.q,O J f.c.h,O J B,O J i,O J f.e,O J f.h,O J f.n,Y a2 f.t.length c2] 78 (0,0))/\Ea W base a2 c2 f.t)
theorem a7x{X B g tk i:Nat}{v4 gs:dU}{f:Fr}{aK:Option Addr}{cK base:Nat}:∀ n v w w',b4a X B g tk i v4 gs f aK cK base n v w->Below w.heap.size w w'->b4a X B g tk i v4 gs f aK cK base n v w':=by
 rintro n v w w' ⟨h1,h2,h3⟩ hb
 refine⟨h1,fun h=>?_,fun h=>?_⟩
 ·obtain⟨a,k,e,r⟩:=h2 h
  exact⟨a,k,e,r.below hb⟩
 ·obtain⟨a,k,p,e,r,s⟩:=h3 h
  exact⟨a,k,p,e,(hb.block _ (fC r)).trans r,s.below hb⟩
theorem Gx{X B g tk i:Nat}{v4 gs:dU}{f:Fr}{aK:Option Addr}{cK base n:Nat}{W:Wq}(h1:n≠11)(h2:n≠12):b4a X B g tk i v4 gs f aK cK base n (Gz X B g tk i v4 gs f aK cK n) W:=⟨fun _ _=>rfl,fun h=>(h1 h).elim,fun h=>(h2 h).elim⟩
theorem Qq{w:Wq}{p:Nat}{vs:List dU}{t:dX}(h:w.heap[p]?=some (.cells vs.toArray t (0,0))):∀ j u,vs[j]?=some u->w.cell? ((⟨p,0,none⟩:Addr).add j)=some u:=by
 intro j u hj
 rw[show ((⟨p,0,none⟩:Addr).add j)=⟨p,j,none⟩ by simp[Addr.add];omega,dN h]
 simpa using hj
theorem b0h(lo a b:Nat)(w:Wq)(B1 B2 B3 B4 g:Nat)(aP:Option Addr)(cP:Nat)(l:List Pk)(v1 v4:dU)(said:List Int)(pl:List (Pst × Option Addr × Nat))(beg:List Nat)(Z:List (Nat × Array dU))(W:Wd)(v:dU)(i:Nat)(E:Int)
  (h:Cs lo a b w B1 B2 B3 B4 g v1 (Y aP l.length cP) v4 said pl beg Z) (hz:b<=w.heap.size) (hr:H8 w aP cP l) (uK:∀ ad,aP=some ad->ad.block<lo) (hi:i<l.length) (hs:said.length<=300) (GG:pl.length<=300) (hW:WIn a b w v W) (hE:E=0) (hT:(l[i]'hi).tick=false) (hS:(l[i]'hi).step=true) (hk:0<=(l[i]'hi).s/\(l[i]'hi).s<W.t.length) (hB:(W.t.getD (l[i]'hi).s.toNat idle).b=false) (gy:beg.length=W.t.length) :
  Calls Pg 80 #[O J i,v,O J E,Ae B1,Ae B2,Ae B3,Ae B4] w (a6e lo a b w B1 B2 B3 B4 g (Y aP l.length cP) (said ++ [E]) ((pl.map (·.1)) ++ [b0w i (l[i]'hi) (beg.getD (l[i]'hi).s.toNat 0) (W.t.getD (l[i]'hi).s.toNat idle)]) beg Z):=by
 unfold Ae
 obtain⟨aS,aH,aF,aL,cS,cH,cF,cL,aT,cT,lt,rfl,-⟩:=hW w (fun _ _ _=>rfl)
 subst hE
 have zT:(l[i]'hi).s.toNat<W.t.length:=by omega
 obtain⟨-,-,hcT,pT,qT,rfl,-⟩:=a0i (hW w fun _ _ _=>rfl) zT
 clear zT
 have b0:Below w.heap.size w (w.alloc (.cells #[Y aS W.m.s.length cS,Y aH W.m.h.length cH,Y aF W.m.f.length cF,Y aL W.m.l.length cL,O J W.m.w,Y (some ⟨pT,qT,none⟩) W.t.length cT] 28)):=A7 _ _
 have ny:Qi (Cs lo a b (w.alloc (.cells #[Y aS W.m.s.length cS,Y aH W.m.h.length cH,Y aF W.m.f.length cF,Y aL W.m.l.length cL,O J W.m.w,Y (some ⟨pT,qT,none⟩) W.t.length cT] 28)) B1 B2 B3 B4 g v1 (Y aP l.length cP) v4 said pl beg Z):=h.below b0
 have tV:Qi ((w.alloc (.cells #[Y aS W.m.s.length cS,Y aH W.m.h.length cH,Y aF W.m.f.length cF,Y aL W.m.l.length cL,O J W.m.w,Y (some ⟨pT,qT,none⟩) W.t.length cT] 28)).heap[w.heap.size]?=some (.cells #[Y aS W.m.s.length cS,Y aH W.m.h.length cH,Y aF W.m.f.length cF,Y aL W.m.l.length cL,O J W.m.w,Y (some ⟨pT,qT,none⟩) W.t.length cT] 28 (0,0))):=fP _ _
 have uT:Qi (lo<=w.heap.size):=by have:=h.o1.1;have:=fC h.s;show _<=_;omega
 have uG:Qi (WIn a b w (.agg #[Y aS W.m.s.length cS,Y aH W.m.h.length cH,Y aF W.m.f.length cF,Y aL W.m.l.length cL,O J W.m.w,Y (some ⟨pT,qT,none⟩) W.t.length cT]) W):=hW
 have Hz:Qi (b<=w.heap.size):=hz
 rcases hr.at_ with hn|⟨bP,oP,rfl,hx⟩
 ·omega
 have gy:bP<lo:=uK _ rfl
 have yN:Qi (w.rangeAt bP (oP+i*9) [O J (l[i]).s,.bool (l[i]).step,.bool (l[i]).tick,O J ((l[i]).c).k,O J ((l[i]).c).a,O J ((l[i]).c).b,O J ((l[i]).c).t,O J ((l[i]).c).q,O J ((l[i]).c).h]):=hx i hi
 have JB:=hr.max
 have QK:=hr.le
 obtain⟨x,xu⟩:∃ x,x=l[i]:=⟨_,rfl⟩
 have Hxe:Qi (x=l[i]):=xu
 rw[<- xu] at yN hT hS hk hB ⊢
 obtain⟨xt,xs,xk,xc⟩:=x
 dsimp only at yN hT hS hk hB ⊢
 subst hT hS
 obtain⟨tk,rfl⟩:∃ tk:Nat,xt=tk:=⟨xt.toNat,by omega⟩
 rw[Int.toNat_natCast] at hB ⊢
 have yt:tk<W.t.length:=by omega
 have l1w:B1<w.heap.size:=fC h.s
 obtain⟨t,NQ⟩:∃ t,t=W.t.getD tk idle:=⟨_,rfl⟩
 have Hte:Qi (t=W.t.getD tk idle):=NQ
 rw[<- NQ] at hB ⊢
 clear NQ
 have uy:Qi (∀ j u,[nY .i64 0][j]?=some u->(((w.alloc (.cells #[Y aS W.m.s.length cS,Y aH W.m.h.length cH,Y aF W.m.f.length cF,Y aL W.m.l.length cL,O J W.m.w,Y (some ⟨pT,qT,none⟩) W.t.length cT] 28))).alloc (.cells #[O J 0] 36)).cell? ((⟨w.heap.size+1,0,none⟩:Addr).add j)=some u):=fun j u hu=>by
  have h1:=nP (w.alloc (.cells #[Y aS W.m.s.length cS,Y aH W.m.h.length cH,Y aF W.m.f.length cF,Y aL W.m.l.length cL,O J W.m.w,Y (some ⟨pT,qT,none⟩) W.t.length cT] 28)) (O J 0) 36 j u hu
  rwa [show (w.alloc (.cells #[Y aS W.m.s.length cS,Y aH W.m.h.length cH,Y aF W.m.f.length cF,Y aL W.m.l.length cL,O J W.m.w,Y (some ⟨pT,qT,none⟩) W.t.length cT] 28)).heap.size=w.heap.size+1 by simp] at h1
 obtain⟨i0,uS,FZ,xx,yZ⟩:=gG iE
 obtain⟨a1,k1,rfl⟩:=Bg ny.o.so
 have HO:Qi ((w.alloc (.cells #[Y aS W.m.s.length cS,Y aH W.m.h.length cH,Y aF W.m.f.length cF,Y aL W.m.l.length cL,O J W.m.w,Y (some ⟨pT,qT,none⟩) W.t.length cT] 28)).ownsRow lo 36 1 (Y a1 said.length k1) said.length (encI said)):=ny.o.so
 have xP:Qi (∀ (w2:Wq) (o:Obj) (v':dU),((w.alloc (.cells #[Y aS W.m.s.length cS,Y aH W.m.h.length cH,Y aF W.m.f.length cF,Y aL W.m.l.length cL,O J W.m.w,Y (some ⟨pT,qT,none⟩) W.t.length cT] 28)).alloc o).grownBy w2 (eX a1 said.length k1).ownBlock->Below lo w (w2.setCell ⟨B1,0,none⟩ v')):=fun w2 o v' hg=>Ii ((nU (A7 w _) uT.o)) hg (fun k hk=>(HO.o.lt k hk).1) (by have:=uT.o;simp;omega) ny.o.o1.1
 obtain⟨c1,f1,l1⟩:=Aw ny.o.s
 clear h hW hr b0 uK hx hz xu
 go_enter oI,oG
 go_wp2_with (first|(at_builtin;go_loud (refine gB _ rfl (.tmp 12) (.tmp 14) 68 rfl lo 36 i0 (O J 0) 1 8 oD uS FZ xx yZ rfl (by decide) _ _ _ rfl (HO.o.alloc _) ⟨w.heap.size+1,0,none⟩ 1 1 [O J 0] rfl rfl uy.o (by intro u hu;simp at hu;subst hu;rfl) (by unfold gJ;omega) (by omega) (by have:=uT.o;simp;omega) ?_;intro v2 w2 jk lg _ ji;obtain⟨g2,eu,rfl⟩:=kK jk (by omega);have tX:Qi _:=Cs.say ny.o (by have:=Hz.o;simp;omega) lg jk ji;obtain⟨d1,e1,NJ⟩:=Aw (Dt ny.o.s lg (own_ne HO.o ny.o.s (by decide)));have iy:Qi _:=xP.o _ _ (Y (some ⟨g2,0,none⟩) (said.length+1) eu) lg;obtain⟨d2,e2,TM⟩:=Aw tX.o.1.x;have wL:Qi _:=Ed yN.o iy.o gy;have rG:Qi _:=Dt tV.o lg (own_ne HO.o tV.o (by decide));have pq:=fC rG.o;have uF:Qi ((World.heap (nV (nX w2 ⟨B1,0,none⟩ (Y (some ⟨g2,0,none⟩) (said.length+1) eu)) (.cells #[O J tk,.bool true,.bool false,O J xc.k,O J xc.a,O J xc.b,O J xc.t,O J xc.q,O J xc.h] 34)))[w.heap.size]?=some (.cells #[Y aS W.m.s.length cS,Y aH W.m.h.length cH,Y aF W.m.f.length cF,Y aL W.m.l.length cL,O J W.m.w,Y (some ⟨pT,qT,none⟩) W.t.length cT] 28 (0,0))):=((A7 _ _).block _ (by first|(simp;done)|(simp;omega)|(have:=iy.o.size;omega))).trans ((dM _ _ _ _ (by dsimp only;omega)).trans rG.o);obtain⟨z0,z1,z2,z3,z4,z5,zs⟩:=Bh uF.o;have AB:Qi _:=uG.o (nV (nX w2 ⟨B1,0,none⟩ (Y (some ⟨g2,0,none⟩) (said.length+1) eu)) (.cells #[O J tk,.bool true,.bool false,O J xc.k,O J xc.a,O J xc.b,O J xc.t,O J xc.q,O J xc.h] 34)) (fun k h1 h2=>((A7 _ _).block k (by have:=iy.o.size;have:=Hz.o;omega)).trans ((tX.o.2 k h1 h2).trans ((A7 _ _).block k (by have:=Hz.o;omega))));obtain⟨lt2,ED,ht2,p2,q2,hpT,RJ⟩:=a0i AB.o yt;cases hpT;rw[<- Hte.o] at RJ ED;clear c1 f1 l1 jk lg ji ny HO xP))|refine Vl (x0:=⟨(tk:Int),true,false,xc⟩) rfl _ rfl rfl wL.o ?_|refine a2r rfl _ rfl rfl RJ.o ?_)
 have wu:=fP (nV (nX w2 ⟨B1,0,none⟩ (Y (some ⟨g2,0,none⟩) (said.length+1) eu)) (.cells #[O J tk,.bool true,.bool false,O J xc.k,O J xc.a,O J xc.b,O J xc.t,O J xc.q,O J xc.h] 34)) (.cells #[.bool false,O J t.f.c.k,O J t.f.c.a,O J t.f.c.b,O J t.f.c.t,O J t.f.c.q,O J t.f.c.h,O J t.f.l,O J t.f.u,O J t.f.p,O J t.f.h,O J t.f.n,Y lt2.aK t.f.t.length lt2.cK,.bool t.f.d,O J t.f.e,Y lt2.aH t.u.length lt2.cH] 49)
 rw[show (nV (nX w2 ⟨B1,0,none⟩ (Y (some ⟨g2,0,none⟩) (said.length+1) eu)) (.cells #[O J tk,.bool true,.bool false,O J xc.k,O J xc.a,O J xc.b,O J xc.t,O J xc.q,O J xc.h] 34)).heap.size=w2.heap.size+1 by simp] at wu
 have uj:Qi ((nV (nV (nX w2 ⟨B1,0,none⟩ (Y (some ⟨g2,0,none⟩) (said.length+1) eu)) (.cells #[O J tk,.bool true,.bool false,O J xc.k,O J xc.a,O J xc.b,O J xc.t,O J xc.q,O J xc.h] 34)) (.cells #[.bool false,O J t.f.c.k,O J t.f.c.a,O J t.f.c.b,O J t.f.c.t,O J t.f.c.q,O J t.f.c.h,O J t.f.l,O J t.f.u,O J t.f.p,O J t.f.h,O J t.f.n,Y lt2.aK t.f.t.length lt2.cK,.bool t.f.d,O J t.f.e,Y lt2.aH t.u.length lt2.cH] 49)).heap[w2.heap.size+1]?=some (.cells #[.bool false,O J t.f.c.k,O J t.f.c.a,O J t.f.c.b,O J t.f.c.t,O J t.f.c.q,O J t.f.c.h,O J t.f.l,O J t.f.u,O J t.f.p,O J t.f.h,O J t.f.n,Y lt2.aK t.f.t.length lt2.cK,.bool t.f.d,O J t.f.e,Y lt2.aH t.u.length lt2.cH] 49 (0,0))):=wu
 have ni:=fP (nX w2 ⟨B1,0,none⟩ (Y (some ⟨g2,0,none⟩) (said.length+1) eu)) (.cells #[O J tk,.bool true,.bool false,O J xc.k,O J xc.a,O J xc.b,O J xc.t,O J xc.q,O J xc.h] 34)
 rw[show (nX w2 ⟨B1,0,none⟩ (Y (some ⟨g2,0,none⟩) (said.length+1) eu)).heap.size=w2.heap.size by simp] at ni
 have yO:Qi ((nV (nV (nX w2 ⟨B1,0,none⟩ (Y (some ⟨g2,0,none⟩) (said.length+1) eu)) (.cells #[O J tk,.bool true,.bool false,O J xc.k,O J xc.a,O J xc.b,O J xc.t,O J xc.q,O J xc.h] 34)) (.cells #[.bool false,O J t.f.c.k,O J t.f.c.a,O J t.f.c.b,O J t.f.c.t,O J t.f.c.q,O J t.f.c.h,O J t.f.l,O J t.f.u,O J t.f.p,O J t.f.h,O J t.f.n,Y lt2.aK t.f.t.length lt2.cK,.bool t.f.d,O J t.f.e,Y lt2.aH t.u.length lt2.cH] 49)).heap[w2.heap.size]?=some (.cells #[O J tk,.bool true,.bool false,O J xc.k,O J xc.a,O J xc.b,O J xc.t,O J xc.q,O J xc.h] 34 (0,0))):=((A7 _ _).block _ (fC ni)).trans ni
 have wz:Qi (Cs lo a b (nV (nV (nX w2 ⟨B1,0,none⟩ (Y (some ⟨g2,0,none⟩) (said.length+1) eu)) (.cells #[O J tk,.bool true,.bool false,O J xc.k,O J xc.a,O J xc.b,O J xc.t,O J xc.q,O J xc.h] 34)) (.cells #[.bool false,O J t.f.c.k,O J t.f.c.a,O J t.f.c.b,O J t.f.c.t,O J t.f.c.q,O J t.f.c.h,O J t.f.l,O J t.f.u,O J t.f.p,O J t.f.h,O J t.f.n,Y lt2.aK t.f.t.length lt2.cK,.bool t.f.d,O J t.f.e,Y lt2.aH t.u.length lt2.cH] 49)) B1 B2 B3 B4 g (Y (some ⟨g2,0,none⟩) (said.length+1) eu) (Y (some ⟨bP,oP,none⟩) l.length cP) v4 (said ++ [0]) pl beg Z):=(tX.o.1.below (A7 _ _)).below (A7 _ _)
 have SC:Qi (Az (nV (nV (nX w2 ⟨B1,0,none⟩ (Y (some ⟨g2,0,none⟩) (said.length+1) eu)) (.cells #[O J tk,.bool true,.bool false,O J xc.k,O J xc.a,O J xc.b,O J xc.t,O J xc.q,O J xc.h] 34)) (.cells #[.bool false,O J t.f.c.k,O J t.f.c.a,O J t.f.c.b,O J t.f.c.t,O J t.f.c.q,O J t.f.c.h,O J t.f.l,O J t.f.u,O J t.f.p,O J t.f.h,O J t.f.n,Y lt2.aK t.f.t.length lt2.cK,.bool t.f.d,O J t.f.e,Y lt2.aH t.u.length lt2.cH] 49)) lt2.aK lt2.cK t.f.t):=ED.o.below (A7 _ _)
 have hq:∀ o:Obj,Below lo w (nV _ o):=fun o=>iy.o.alloc (by have:=iy.o.size;have:=uT.o;omega) o
 have KW:Qi (Below lo w (nV (nV (nX w2 ⟨B1,0,none⟩ (Y (some ⟨g2,0,none⟩) (said.length+1) eu)) (.cells #[O J tk,.bool true,.bool false,O J xc.k,O J xc.a,O J xc.b,O J xc.t,O J xc.q,O J xc.h] 34)) (.cells #[.bool false,O J t.f.c.k,O J t.f.c.a,O J t.f.c.b,O J t.f.c.t,O J t.f.c.q,O J t.f.c.h,O J t.f.l,O J t.f.u,O J t.f.p,O J t.f.h,O J t.f.n,Y lt2.aK t.f.t.length lt2.cK,.bool t.f.d,O J t.f.e,Y lt2.aH t.u.length lt2.cH] 49))):=(hq _).alloc (by have:=(hq (.cells #[O J tk,.bool true,.bool false,O J xc.k,O J xc.a,O J xc.b,O J xc.t,O J xc.q,O J xc.h] 34)).size;have:=uT.o;omega) _
 have WI:Qi (∀ k,a<=k->k<b->(nV (nV (nX w2 ⟨B1,0,none⟩ (Y (some ⟨g2,0,none⟩) (said.length+1) eu)) (.cells #[O J tk,.bool true,.bool false,O J xc.k,O J xc.a,O J xc.b,O J xc.t,O J xc.q,O J xc.h] 34)) (.cells #[.bool false,O J t.f.c.k,O J t.f.c.a,O J t.f.c.b,O J t.f.c.t,O J t.f.c.q,O J t.f.c.h,O J t.f.l,O J t.f.u,O J t.f.p,O J t.f.h,O J t.f.n,Y lt2.aK t.f.t.length lt2.cK,.bool t.f.d,O J t.f.e,Y lt2.aH t.u.length lt2.cH] 49)).heap[k]?=w.heap[k]?):=fun k h1 h2=>((A7 _ _).block k (by have:=iy.o.size;have:=Hz.o;simp at *;omega)).trans (((A7 _ _).block k (by have:=iy.o.size;have:=Hz.o;omega)).trans ((tX.o.2 k h1 h2).trans ((A7 _ _).block k (by have:=Hz.o;omega))))
 clear wu ni hq tX RJ wL AB uF rG z0 z1 z2 z3 z4 z5 zs ED d1 e1 d2 e2 NJ TM iy
 clear uy tV uG
 generalize nV (nV (nX w2 ⟨B1,0,none⟩ (Y (some ⟨g2,0,none⟩) (said.length+1) eu)) (.cells #[O J tk,.bool true,.bool false,O J xc.k,O J xc.a,O J xc.b,O J xc.t,O J xc.q,O J xc.h] 34)) (.cells #[.bool false,O J t.f.c.k,O J t.f.c.a,O J t.f.c.b,O J t.f.c.t,O J t.f.c.q,O J t.f.c.h,O J t.f.l,O J t.f.u,O J t.f.p,O J t.f.h,O J t.f.n,Y lt2.aK t.f.t.length lt2.cK,.bool t.f.d,O J t.f.e,Y lt2.aH t.u.length lt2.cH] 49)=W3 at *
 generalize w2.heap.size=X at *
 obtain⟨t0,t1,t2,t3,t4,t5,t6,t7,t8,t9,SX,SV,ND,SS,SQ,DW,ts⟩:=a2g uj.o
 have x0:W3.cell? ⟨X,0,none⟩=some (O J tk):=by rw[dN yO.o];rfl
 have d3:=(Aw wz.o.f).1
 have d4:=(Aw wz.o.p).1
 have yc:tk<beg.length:=by omega
 have d5:=Cs.fat wz.o yc
 obtain⟨a4,k4,rfl⟩:=Bg wz.o.po
 obtain⟨j0,hj0,xQ,IV,FY⟩:=gG iP
 have HTo:Qi (∀ V:Wq,Below W3.heap.size W3 V->Calls Pg 81 #[Ai t.f lt2.aK lt2.cK,O J tk,O J (beg.getD tk 0:Nat),O J i] V (b5e V t.f tk (beg.getD tk 0:Nat) i)):=fun V hb=>b2o t.f tk _ _ lt2.aK lt2.cK V (SC.o.below hb)
 clear DW t0
 refine Xz (by kernel_rfl) Ns rfl [43,44,45,46,47,48,49,50,51,52,53,54,55] (by decide) 13 rfl rfl (by kernel_rfl) (by kernel_rfl) (by kernel_rfl) (b4a X (beg.getD tk 0) g tk i (Y a4 pl.length k4) (Y (some ⟨g,0,none⟩) beg.length beg.length) t.f lt2.aK lt2.cK W3.heap.size) a7x ?_ ?_
 ·intro k rO x W hb ku az
  have DV:=wz.o.below hb
  have HTw:=(hb.block _ (fC uj.o)).trans uj.o
  have HXw:=(hb.block _ (fC yO.o)).trans yO.o
  have x0':x 0=O J i:=ku 0 (by decide)
  have x5:x 5=.pointer (some ⟨B3,0,none⟩):=ku 5 (by decide)
  have x6:x 6=.pointer (some ⟨B4,0,none⟩):=ku 6 (by decide)
  have x10:x 10=.pointer (some ⟨X,0,none⟩):=ku 10 (by decide)
  have x11:x 11=.pointer (some ⟨X+1,0,none⟩):=ku 11 (by decide)
  have q4:=(Aw DV.p).1
  have q3:=(Aw DV.f).1
  have q5:=Cs.fat DV yc
  have qx:W.cell? ⟨X,0,none⟩=some (O J tk):=by rw[dN HXw];rfl
  obtain⟨u0,u1,u2,u3,u4,u5,u6,u7,u8,u9,u10,u11,u12,u13,u14,u15,us⟩:=a2g HTw
  obtain rfl|rfl|rfl|rfl|rfl|rfl|rfl|rfl|rfl|rfl|rfl|rfl|rfl:k=0\/k=1\/k=2\/k=3\/k=4\/k=5\/k=6\/k=7\/k=8\/k=9\/k=10\/k=11\/k=12:=by omega
  ·exact Ad rfl (Ag rfl) (v:=Gz X (beg.getD tk 0) g tk i (Y a4 pl.length k4) (Y (some ⟨g,0,none⟩) beg.length beg.length) t.f lt2.aK lt2.cK 0) (w':=W) (by simp[kD,go_sem,Gz,(show (Ns x).tmps[6]?.getD Uz=_ from x6),q4]) ⟨_,rfl,Gx (by decide) (by decide),dK _ _⟩
  ·exact Ad rfl (Ag rfl) (v:=Gz X (beg.getD tk 0) g tk i (Y a4 pl.length k4) (Y (some ⟨g,0,none⟩) beg.length beg.length) t.f lt2.aK lt2.cK 1) (w':=W) (by simp[kD,go_sem,Gz,(show (Ns x).tmps[11]?.getD Uz=_ from x11),Addr.add]) ⟨_,rfl,Gx (by decide) (by decide),dK _ _⟩
  ·have p1:=(az 1 (by omega) (by kernel_rfl)).1 (by decide) (by decide);simp only[Gz,nZ,oC] at p1;exact Ad rfl (Ag rfl) (v:=Gz X (beg.getD tk 0) g tk i (Y a4 pl.length k4) (Y (some ⟨g,0,none⟩) beg.length beg.length) t.f lt2.aK lt2.cK 2) (w':=W) (by simp[kD,go_sem,Gz,(show (Ns x).tmps[44]?.getD Uz=_ from p1),u1,u2,u3,u4,u5,u6,u7,u8,u9,u10,u11,u12,u13,u14]) ⟨_,rfl,Gx (by decide) (by decide),dK _ _⟩
  ·exact Ad rfl (Ag rfl) (v:=Gz X (beg.getD tk 0) g tk i (Y a4 pl.length k4) (Y (some ⟨g,0,none⟩) beg.length beg.length) t.f lt2.aK lt2.cK 3) (w':=W) (by simp[kD,go_sem,Gz,(show (Ns x).tmps[10]?.getD Uz=_ from x10),Addr.add]) ⟨_,rfl,Gx (by decide) (by decide),dK _ _⟩
  ·have p3:=(az 3 (by omega) (by kernel_rfl)).1 (by decide) (by decide);simp only[Gz,nZ,oC] at p3;exact Ad rfl (Ag rfl) (v:=Gz X (beg.getD tk 0) g tk i (Y a4 pl.length k4) (Y (some ⟨g,0,none⟩) beg.length beg.length) t.f lt2.aK lt2.cK 4) (w':=W) (by simp[kD,go_sem,Gz,(show (Ns x).tmps[46]?.getD Uz=_ from p3),qx]) ⟨_,rfl,Gx (by decide) (by decide),dK _ _⟩
  ·exact Ad rfl (Ag rfl) (v:=Gz X (beg.getD tk 0) g tk i (Y a4 pl.length k4) (Y (some ⟨g,0,none⟩) beg.length beg.length) t.f lt2.aK lt2.cK 5) (w':=W) (by simp[kD,go_sem,Gz,(show (Ns x).tmps[5]?.getD Uz=_ from x5),q3]) ⟨_,rfl,Gx (by decide) (by decide),dK _ _⟩
  ·exact Ad rfl (Ag rfl) (v:=Gz X (beg.getD tk 0) g tk i (Y a4 pl.length k4) (Y (some ⟨g,0,none⟩) beg.length beg.length) t.f lt2.aK lt2.cK 6) (w':=W) (by simp[kD,go_sem,Gz,(show (Ns x).tmps[10]?.getD Uz=_ from x10),Addr.add]) ⟨_,rfl,Gx (by decide) (by decide),dK _ _⟩
  ·have p6:=(az 6 (by omega) (by kernel_rfl)).1 (by decide) (by decide);simp only[Gz,nZ,oC] at p6;exact Ad rfl (Ag rfl) (v:=Gz X (beg.getD tk 0) g tk i (Y a4 pl.length k4) (Y (some ⟨g,0,none⟩) beg.length beg.length) t.f lt2.aK lt2.cK 7) (w':=W) (by simp[kD,go_sem,Gz,(show (Ns x).tmps[49]?.getD Uz=_ from p6),qx]) ⟨_,rfl,Gx (by decide) (by decide),dK _ _⟩
  ·have p5:=(az 5 (by omega) (by kernel_rfl)).1 (by decide) (by decide);simp only[Gz,nZ,oC] at p5;have p7:=(az 7 (by omega) (by kernel_rfl)).1 (by decide) (by decide);simp only[Gz,nZ,oC] at p7;exact Ad rfl (Ag rfl) (v:=Gz X (beg.getD tk 0) g tk i (Y a4 pl.length k4) (Y (some ⟨g,0,none⟩) beg.length beg.length) t.f lt2.aK lt2.cK 8) (w':=W) (by simp[kD,go_sem,Gz,(show (Ns x).tmps[48]?.getD Uz=_ from p5),(show (Ns x).tmps[50]?.getD Uz=_ from p7),yc,Addr.add];omega) ⟨_,rfl,Gx (by decide) (by decide),dK _ _⟩
  ·have p8:=(az 8 (by omega) (by kernel_rfl)).1 (by decide) (by decide);simp only[Gz,nZ,oC] at p8;exact Ad rfl (Ag rfl) (v:=Gz X (beg.getD tk 0) g tk i (Y a4 pl.length k4) (Y (some ⟨g,0,none⟩) beg.length beg.length) t.f lt2.aK lt2.cK 9) (w':=W) (by simp[kD,go_sem,Gz,(show (Ns x).tmps[51]?.getD Uz=_ from p8),q5]) ⟨_,rfl,Gx (by decide) (by decide),dK _ _⟩
  ·exact Ad rfl (Ag rfl) (v:=Gz X (beg.getD tk 0) g tk i (Y a4 pl.length k4) (Y (some ⟨g,0,none⟩) beg.length beg.length) t.f lt2.aK lt2.cK 10) (w':=W) (by simp[kD,go_sem,Gz,(show (Ns x).tmps[0]?.getD Uz=_ from x0')]) ⟨_,rfl,Gx (by decide) (by decide),dK _ _⟩
  ·have p2:=(az 2 (by omega) (by kernel_rfl)).1 (by decide) (by decide);simp only[Gz,nZ,oC] at p2;have p4:=(az 4 (by omega) (by kernel_rfl)).1 (by decide) (by decide);simp only[Gz,nZ,oC] at p4;have p9:=(az 9 (by omega) (by kernel_rfl)).1 (by decide) (by decide);simp only[Gz,nZ,oC] at p9;have p10:=(az 10 (by omega) (by kernel_rfl)).1 (by decide) (by decide);simp only[Gz,nZ,oC] at p10; 
   refine J6 rfl (Ag rfl) (f:=81) (args:=#[.agg #[O J t.f.c.k,O J t.f.c.a,O J t.f.c.b,O J t.f.c.t,O J t.f.c.q,O J t.f.c.h,O J t.f.l,O J t.f.u,O J t.f.p,O J t.f.h,O J t.f.n,Y lt2.aK t.f.t.length lt2.cK,.bool t.f.d,O J t.f.e],O J tk,O J (beg.getD tk 0:Nat),O J i]) (by simp[kD,go_sem,(show (Ns x).tmps[45]?.getD Uz=_ from p2),(show (Ns x).tmps[47]?.getD Uz=_ from p4),(show (Ns x).tmps[52]?.getD Uz=_ from p9),(show (Ns x).tmps[53]?.getD Uz=_ from p10)]) ((HTo.o W hb).mono ?_)
   rintro e w4 ⟨a2,c2,rfl,wG,qK⟩
   exact⟨_,rfl,_,rfl,⟨fun h=>(h rfl).elim,fun _=>⟨a2,c2,rfl,wG.le hb.size⟩,fun h=>absurd h (by decide)⟩,qK⟩
  ·obtain⟨a2,c2,e11,NZ⟩:=(az 11 (by omega) (by kernel_rfl)).2.1 rfl
   simp only[nZ,oC] at e11
   refine Ad rfl (Ag rfl) (v:=Y (some ⟨W.heap.size,0,none⟩) 1 1) (w':=W.alloc (.cells #[O J tk,O J t.f.c.k,O J t.f.c.a,O J t.f.c.b,O J t.f.c.t,O J t.f.c.q,O J t.f.c.h,O J (beg.getD tk 0:Nat),O J i,O J t.f.e,O J t.f.h,O J t.f.n,Y a2 t.f.t.length c2] 78)) (by simp[kD,go_sem,(show (Ns x).tmps[54]?.getD Uz=_ from e11)]) ⟨_,rfl,⟨fun _ h=>(h rfl).elim,fun h=>absurd h (by decide),fun _=>⟨a2,c2,W.heap.size,rfl,fP _ _,NZ.below (A7 _ _)⟩⟩,A7 _ _⟩
 ·intro x W hb ku hφ
  have DV:Qi _:=wz.o.below hb
  have x6:x 6=.pointer (some ⟨B4,0,none⟩):=ku 6 (by decide)
  have p0:=(hφ 0 (by omega)).1 (by decide) (by decide)
  obtain⟨a2,c2,p,RH,zU,NZ⟩:=(hφ 12 (by omega)).2.2 rfl
  simp only[Gz,nZ,oC] at p0 RH
  refine wpOp_step rfl fun K' hK=>?_
  refine Dq W rfl (.tmp 43) (.tmp 55) 69 rfl lo 78 j0 (.agg #[O J 0,O J 0,O J 0,O J 0,O J 0,O J 0,O J 0,O J 0,O J 0,O J 0,O J 0,O J 0,Y none 0 0]) 13 120 underlying69 hj0 xQ IV FY rfl (by decide) (Y a4 pl.length k4) _ _ (show x 43=_ from p0) DV.o.po ⟨p,0,none⟩ 1 1 [O J tk,O J t.f.c.k,O J t.f.c.a,O J t.f.c.b,O J t.f.c.t,O J t.f.c.q,O J t.f.c.h,O J (beg.getD tk 0:Nat),O J i,O J t.f.e,O J t.f.h,O J t.f.n,Y a2 t.f.t.length c2] (show x 55=_ from RH) rfl (Qq zU) (by intro u hu;simp only[List.mem_cons,List.not_mem_nil,or_false] at hu;rcases hu with rfl|rfl|rfl|rfl|rfl|rfl|rfl|rfl|rfl|rfl|rfl|rfl|rfl <;> rfl) (by unfold gJ;omega) (by omega) (by have:=uT.o;have:=KW.o.size;have:=hb.size;omega) ?_
  intro v5 w5 uQ OE _ UI
  refine hK _ _ ?_
  obtain⟨g5,OZ,rfl⟩:=kK uQ (by omega)
  have yC:w5.heap[B4]?=_:=(OE.block _ (fC DV.o.p) (fun e=>own_ne DV.o.po DV.o.p (by decide) e.symm)).trans DV.o.p
  obtain⟨n1,n2,n3⟩:=Aw yC
  have UF:lo<=W3.heap.size:=by have:=uT.o;have:=KW.o.size;omega
  have GI:b<=W3.heap.size:=by have:=Hz.o;have:=KW.o.size;omega
  have HT:=Cs.tellW DV.o (by have:=hb.size;omega) (v':=Y (some ⟨g5,0,none⟩) (pl.length+1) OZ) (q:=(⟨(tk:Int),t.f.c,beg.getD tk 0,i,t.f.e,t.f.h,t.f.n,t.f.t⟩,a2,c2)) (NZ.le UF) (fun ad e hx=>by have:=(NZ.lt ad e).1;have:=hx.2;omega) OE uQ UI
  have HBf:Below lo w (w5.setCell ⟨B4,0,none⟩ (Y (some ⟨g5,0,none⟩) (pl.length+1) OZ)):=((KW.o.trans (hb.mono UF)).grown OE (by have:=hb.size;omega) (fun k hk=>(DV.o.po.lt k hk).1)).setCell DV.o.o4.1 _
  refine Kt rfl (Ag rfl) (w':=w5.setCell ⟨B4,0,none⟩ (Y (some ⟨g5,0,none⟩) (pl.length+1) OZ)) (by simp[kD,go_sem,Act.put,Ns,x6,n1,n2]) ?_
  refine nT (nR rfl _ _ _) rfl ?_
  refine⟨_,_,_,rfl,HT.1,?_,HBf,fun k h1 h2=>(HT.2 k h1 h2).trans ((hb.block k (by omega)).trans (WI.o k h1 h2))⟩
  rw[List.map_append]
  rfl
end
end Go.Proofs.YthhgoenomehobaaGreat.mm
