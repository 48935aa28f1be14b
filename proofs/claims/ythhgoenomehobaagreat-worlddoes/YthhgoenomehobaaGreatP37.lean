/- Parts. -/
import Derived.Test.YthhgoenomehobaaGreatP36
import Derived.Test.YthhgoenomehobaaGreatP15
namespace Go.Proofs.YthhgoenomehobaaGreat.mm
set_option maxRecDepth 100000
set_option linter.unusedVariables false
open Go.Value renaming int → O, slice → Y
open Go.IntKind renaming i64 → J
open Go.Proofs.Tryz renaming prog → Pg
open Go renaming undef → Uz, World → Wq
open Go.ChangeShapes Go.WideShapes Go.ChangeAt Go.RowKit Go.Joins Go.Deep Go.Maps
set_option maxHeartbeats 4000000
section
theorem Qv{w w':Wq}{a:Option Addr}{c lo:Nat}{l:List Int}(r:Cj w a c l)(hi:∀ ad,a=some ad->lo<=ad.block)(h:∀ k,lo<=k->k<w.heap.size->w'.heap[k]?=w.heap[k]?):Cj w' a c l:=by
 refine⟨r.le,r.max,r.nil,?_⟩
 rcases r.at_ with h0|⟨b,o,e,hc⟩
 ·exact .inl h0
 ·refine .inr ⟨b,o,e,fun i hn=>?_⟩
  have hb:=h b (hi _ e) (cell_lt (hc i hn))
  rw[World.cell?_of_block (a:=⟨b,o+i,none⟩) hb]
  exact hc i hn
theorem a9p{w w':Wq}{a:Option Addr}{c lo:Nat}{l:List Sl}(r:Ic w a c l)(hi:∀ ad,a=some ad->lo<=ad.block)(h:∀ k,lo<=k->k<w.heap.size->w'.heap[k]?=w.heap[k]?):Ic w' a c l:=by
 refine⟨r.le,r.max,r.nil,?_⟩
 rcases r.at_ with h0|⟨b,o,e,hc⟩
 ·exact .inl h0
 ·refine .inr ⟨b,o,e,fun i hn=>?_⟩
  have hb:=h b (hi _ e) (cell_lt (hc i hn).1)
  obtain⟨c0,c1,c2,c3,c4,c5⟩:=hc i hn
  exact⟨(World.cell?_of_block (a:=⟨b,o+i*6,none⟩) hb).trans c0,(World.cell?_of_block (a:=⟨b,o+i*6+1,none⟩) hb).trans c1,(World.cell?_of_block (a:=⟨b,o+i*6+2,none⟩) hb).trans c2,(World.cell?_of_block (a:=⟨b,o+i*6+3,none⟩) hb).trans c3,(World.cell?_of_block (a:=⟨b,o+i*6+4,none⟩) hb).trans c4,(World.cell?_of_block (a:=⟨b,o+i*6+5,none⟩) hb).trans c5⟩
theorem D8.win{lo:Nat}{w w':Wq}{v:Value}{W:Wd}(h:D8 lo w v W)(hk:∀ k,lo<=k->k<w.heap.size->w'.heap[k]?=w.heap[k]?):D8 lo w' v W:=by
 obtain⟨aS,aH,aF,aL,cS,cH,cF,cL,aT,cT,l,e,A,hi,el,r,th⟩:=h
 refine⟨aS,aH,aF,aL,cS,cH,cF,cL,aT,cT,l,e,⟨a9p A.s hi.s hk,Qv A.h hi.h hk,Qv A.f hi.f hk,Qv A.l hi.l hk⟩,hi,el,⟨r.le,r.max,r.nil,?_,fun p hp=>Ec (r.keys p hp) fun _ ad e hl=>hk _ (th.keys p hp ad e) hl,fun p hp=>Qv (r.held p hp) (th.held p hp) hk⟩,th⟩
 rcases r.at_ with h0|⟨b,o,e,hc⟩
 ·exact .inl h0
 ·refine .inr ⟨b,o,e,fun i hi q hq=>?_⟩
  obtain⟨v,hv⟩:=Qp l[i].1 l[i].2 hq
  exact(World.cell?_of_block (a:=⟨b,o+i*16+q,none⟩) (hk b (th.row _ e) (cell_lt ((hc i hi q hq).trans hv)))).trans (hc i hi q hq)
def Pst.enc(p:Pst)(a:Option Addr)(c:Nat):List Value :=
 [O J p.task,O J p.c.kind,O J p.c.a,O J p.c.b,O J p.c.time,O J p.c.bk,O J p.c.slot,O J p.fro,O J p.to,O J p.e,O J p.slot,O J p.n,Y a p.keys.length c]
def a4g(l:List (Pst × Option Addr × Nat)):List Value:=l.flatMap fun q=>q.1.enc q.2.1 q.2.2
def Out(a b:Nat)(k:Nat):Prop:=¬ (a<=k/\k<b)
structure Cs(lo a b:Nat)(w:Wq)(B1 B2 B3 B4 g:Nat)(v1 v2 v4:Value)(said:List Int)(pl:List (Pst × Option Addr × Nat))(beg:List Nat)(Z:List (Nat × Array Value)):Prop where
 s:w.heap[B1]?=some (.cells #[v1] 68 (0,0))
 so:w.ownsRow lo 36 1 v1 said.length (encI said)
 sx:∀ k,v1.ownBlock=some k->Out a b k
 f:w.heap[B3]?=some (.cells #[Y (some ⟨g,0,none⟩) beg.length beg.length] 23 (0,0))
 fo:w.heap[g]?=some (.cells (encI (beg.map Int.ofNat)).toArray 3 (0,0))
 fx:Out a b g
 p:w.heap[B4]?=some (.cells #[v4] 69 (0,0))
 po:w.ownsRow lo 78 13 v4 pl.length (a4g pl)
 px:∀ k,v4.ownBlock=some k->Out a b k
 pk:∀ q∈pl,Dk w lo q.2.1 q.2.2 q.1.keys/\∀ ad,q.2.1=some ad->Out a b ad.block
 o1:lo<=B1/\Out a b B1
 o3:lo<=B3/\Out a b B3
 o4:lo<=B4/\Out a b B4
 og:lo<=g
 x:w.heap[B2]?=some (.cells #[v2] 54 (0,0))
 ox:lo<=B2/\Out a b B2
 z:∀ q∈Z,w.heap[q.1]?=some (.cells q.2 28 (0,0))
section
variable {lo a b:Nat} {w w':Wq} {B1 B2 B3 B4 g:Nat} {v1 v2 v4:Value} {said:List Int} {pl:List (Pst × Option Addr × Nat)} {beg:List Nat} {Z:List (Nat × Array Value)}
theorem Cs.below(h:Cs lo a b w B1 B2 B3 B4 g v1 v2 v4 said pl beg Z)(hb:Below w.heap.size w w'):Cs lo a b w' B1 B2 B3 B4 g v1 v2 v4 said pl beg Z :=
 ⟨(hb.block _ (lt_of_block h.s)).trans h.s,Bj h.so fun k hk=>hb.block _ (h.so.lt k hk).2,h.sx,(hb.block _ (lt_of_block h.f)).trans h.f,(hb.block _ (lt_of_block h.fo)).trans h.fo,h.fx,(hb.block _ (lt_of_block h.p)).trans h.p,Bj h.po fun k hk=>hb.block _ (h.po.lt k hk).2,h.px,fun q hq=>⟨(h.pk q hq).1.below hb,(h.pk q hq).2⟩,h.o1,h.o3,h.o4,h.og,(hb.block _ (lt_of_block h.x)).trans h.x,h.ox,fun q hq=>(hb.block _ (lt_of_block (h.z q hq))).trans (h.z q hq)⟩
theorem Cs.turn(h:Cs lo a b w B1 B2 B3 B4 g v1 v2 v4 said pl beg Z)(b':Nat):Cs lo w.heap.size b' w B1 B2 B3 B4 g v1 v2 v4 said pl beg Z :=
 have hz:∀ k,k<w.heap.size->Out w.heap.size b' k:=fun k hk hx=>by have:=hx.1;omega
 ⟨h.s,h.so,fun k hk=>hz k (h.so.lt k hk).2,h.f,h.fo,hz _ (lt_of_block h.fo),h.p,h.po,fun k hk=>hz k (h.po.lt k hk).2,fun q hq=>⟨(h.pk q hq).1,fun ad e=>hz _ ((h.pk q hq).1.lt ad e).2⟩,⟨h.o1.1,hz _ (lt_of_block h.s)⟩,⟨h.o3.1,hz _ (lt_of_block h.f)⟩,⟨h.o4.1,hz _ (lt_of_block h.p)⟩,h.og,h.x,⟨h.ox.1,hz _ (lt_of_block h.x)⟩,h.z⟩
theorem Cs.say(h:Cs lo a b w B1 B2 B3 B4 g v1 v2 v4 said pl beg Z)(hz:b<=w.heap.size){ob:Obj}{w1:Wq}{v':Value}{e:Int}(hg:(w.alloc ob).grownBy w1 v1.ownBlock)(ho:w1.ownsRow lo 36 1 v' (said.length+1) (encI said ++ [O J e]))(hl:v'.ownBlock=v1.ownBlock\/v'.ownBlock=some (w.alloc ob).heap.size) :
  Cs lo a b (w1.setCell ⟨B1,0,none⟩ v') B1 B2 B3 B4 g v' v2 v4 (said ++ [e]) pl beg Z/\∀ k,a<=k->k<b->(w1.setCell ⟨B1,0,none⟩ v').heap[k]?=w.heap[k]?:=by
 have hk1:∀ k,k<w.heap.size->v1.ownBlock≠some k->w1.heap[k]?=w.heap[k]?:=fun k hk hn=>by
  rw[hg.block k (by simp;omega) (fun e=>hn e.symm),Below.heap_alloc _ _ _ hk]
 have hk:∀ k,k<w.heap.size->v1.ownBlock≠some k->k≠B1->(w1.setCell ⟨B1,0,none⟩ v').heap[k]?=w.heap[k]?:=fun k hk hn hB=>by
  rw[Below.heap_setCell _ _ _ _ (by dsimp only;exact hB)]
  exact hk1 k hk hn
 have s1:w1.heap[B1]?=some (.cells #[v1] 68 (0,0)):=(hk1 B1 (lt_of_block h.s) (own_ne h.so h.s (by decide))).trans h.s
 have nb:∀ {X:Nat} {cs:Array Value} {t:TypeId},w.heap[X]?=some (.cells cs t (0,0))->t≠36->t≠68->(w1.setCell ⟨B1,0,none⟩ v').heap[X]?=some (.cells cs t (0,0)):=fun hX n1 n2=>by
  refine(hk _ (lt_of_block hX) (own_ne h.so hX (Ne.symm n1)) ?_).trans hX
  rintro rfl
  rw[h.s] at hX
  injection hX with hX
  injection hX with _ hX
  exact n2 hX.symm
 have nr:∀ {lo' size n:Nat} {t:TypeId} {u:Value} {xs:List Value},w.ownsRow lo' t size u n xs->t≠36->t≠68->(w1.setCell ⟨B1,0,none⟩ v').ownsRow lo' t size u n xs:=fun hu n1 n2=>by
  refine Bj hu fun k hu'=>hk k (hu.lt k hu').2 (fun hv=>Cf h.so hu (Ne.symm n1) k hv hu') ?_
  rintro rfl
  exact own_ne hu h.s n2 hu'
 refine⟨⟨?_,?_,?_,nb h.f (by decide) (by decide),nb h.fo (by decide) (by decide),h.fx,nb h.p (by decide) (by decide),nr h.po (by decide) (by decide),h.px,fun q hq=>⟨⟨nr (h.pk q hq).1.own (by decide) (by decide)⟩,(h.pk q hq).2⟩,h.o1,h.o3,h.o4,h.og,nb h.x (by decide) (by decide),h.ox,fun q hq=>nb (h.z q hq) (by decide) (by decide)⟩,?_⟩
 ·have:=block_setCell (i:=0) s1 v'
  rw[this];rfl
 ·have:=Jk (j:=0) (x:=v') ho (own_ne ho s1 (by decide))
  rwa [show encI said ++ [O J e]=encI (said ++ [e]) by simp[encI],show said.length+1=(said ++ [e]).length by simp] at this
 ·intro k hk'
  rcases hl with hl|hl
  ·exact h.sx k (hl ▸ hk')
  ·rw[hl] at hk'
   injection hk' with hk'
   intro hx
   have:=hx.2
   simp at hk'
   omega
 ·intro k h1 h2
  exact hk k (by omega) (fun e=>h.sx k e ⟨h1,h2⟩) (fun e=>h.o1.2 (e ▸ ⟨h1,h2⟩))
theorem Cs.start(h:Cs lo a b w B1 B2 B3 B4 g v1 v2 v4 said pl beg Z)(t n:Nat)(ht:t<beg.length) :
  Cs lo a b (w.setCell ⟨g,t,none⟩ (O J n)) B1 B2 B3 B4 g v1 v2 v4 said pl (beg.set t n) Z/\∀ k,a<=k->k<b->(w.setCell ⟨g,t,none⟩ (O J n)).heap[k]?=w.heap[k]?:=by
 have hk:∀ k,k≠g->(w.setCell ⟨g,t,none⟩ (O J n)).heap[k]?=w.heap[k]?:=fun k hB=>Below.heap_setCell _ _ _ _ (by dsimp only;exact hB)
 have nb:∀ {X:Nat} {cs:Array Value} {t':TypeId},w.heap[X]?=some (.cells cs t' (0,0))->t'≠3->(w.setCell ⟨g,t,none⟩ (O J n)).heap[X]?=some (.cells cs t' (0,0)):=fun hX n2=>by
  refine(hk _ ?_).trans hX
  rintro rfl
  rw[h.fo] at hX
  injection hX with hX
  injection hX with _ hX
  exact n2 hX.symm
 have nr:∀ {lo' size n':Nat} {t':TypeId} {u:Value} {xs:List Value},w.ownsRow lo' t' size u n' xs->t'≠3->(w.setCell ⟨g,t,none⟩ (O J n)).ownsRow lo' t' size u n' xs:=fun hu n2=>by
  refine Bj hu fun k hu'=>hk k ?_
  rintro rfl
  exact own_ne hu h.fo n2 hu'
 refine⟨⟨nb h.s (by decide),nr h.so (by decide),h.sx,?_,?_,h.fx,nb h.p (by decide),nr h.po (by decide),h.px,fun q hq=>⟨⟨nr (h.pk q hq).1.own (by decide)⟩,(h.pk q hq).2⟩,h.o1,h.o3,h.o4,h.og,nb h.x (by decide),h.ox,fun q hq=>nb (h.z q hq) (by decide)⟩,fun k h1 h2=>hk k (fun e=>h.fx (e ▸ ⟨h1,h2⟩))⟩
 ·rw[List.length_set];exact nb h.f (by decide)
 ·rw[block_setCell (i:=t) h.fo]
  congr 1
  congr 1
  apply Array.ext'
  simp[encI,List.map_set]
end
end
section
def WIn(a b:Nat)(w:Wq)(v:Value)(W:Wd):Prop:=∀ w',(∀ k,a<=k->k<b->w'.heap[k]?=w.heap[k]?)->D8 a w' v W
theorem D8.wIn{a:Nat}{w:Wq}{v:Value}{W:Wd}(h:D8 a w v W):WIn a w.heap.size w v W:=fun w' hk=>h.win hk
theorem WIn.same{a b:Nat}{w w':Wq}{v:Value}{W:Wd}(h:WIn a b w v W)(hk:∀ k,a<=k->k<b->w'.heap[k]?=w.heap[k]?):WIn a b w' v W:=fun w2 h2=>h w2 fun k h3 h4=>(h2 k h3 h4).trans (hk k h3 h4)
def U9(x:Pk)(e:Int)(i:Nat)(beg:List Nat):List Nat:=if e≠0\/x.tick=true then beg else if x.step then beg else beg.set x.task.toNat i
def Ua(x:Pk)(e:Int)(i:Nat)(beg:List Nat)(W:Wd)(past:List Pst):List Pst :=
 if e≠0\/x.tick=true then past else if x.step then (if (W.ts.getD x.task.toNat idle).busy then past else past ++ [a8k i x (beg.getD x.task.toNat 0) (W.ts.getD x.task.toNat idle)]) else past
def a3s(lo a b:Nat)(w:Wq)(B1 B2 B3 B4 g:Nat)(v2:Value)(said:List Int)(past:List Pst)(beg:List Nat)(Z:List (Nat × Array Value))(e:Ending)(w':Wq):Prop :=
 ∃ v1 v4 pl,e=.returned (.tuple #[])/\Cs lo a b w' B1 B2 B3 B4 g v1 v2 v4 said pl beg Z/\pl.map (·.1)=past/\Below lo w w'/\∀ k,a<=k->k<b->w'.heap[k]?=w.heap[k]?
theorem iE:(Pg.info? 36).map (fun i=>(i.zero,i.size,i.bytes))=some (some (O J 0),1,8):=by kernel_rfl
theorem iP:(Pg.info? 78).map (fun i=>(i.zero,i.size,i.bytes))=some (some (.agg #[O J 0,O J 0,O J 0,O J 0,O J 0,O J 0,O J 0,O J 0,O J 0,O J 0,O J 0,O J 0,Y none 0 0]),13,120):=by kernel_rfl
theorem Cs.fat{lo a b:Nat}{w:Wq}{B1 B2 B3 B4 g:Nat}{v1 v2 v4:Value}{said:List Int}{pl:List (Pst × Option Addr × Nat)}{beg:List Nat}{Z:List (Nat × Array Value)}(h:Cs lo a b w B1 B2 B3 B4 g v1 v2 v4 said pl beg Z){t:Nat}(ht:t<beg.length):w.cell? ⟨g,t,none⟩=some (O J (beg.getD t 0:Nat)):=by
 rw[cell_of_block h.fo]
 simp[encI,ht]
theorem b1h(lo a b:Nat)(w:Wq)(B1 B2 B3 B4 g:Nat)(aP:Option Addr)(cP:Nat)(l:List Pk)(v1 v4:Value)(said:List Int)(pl:List (Pst × Option Addr × Nat))(beg:List Nat)(Z:List (Nat × Array Value))(W:Wd)(v:Value)(i:Nat)(E:Int)
  (h:Cs lo a b w B1 B2 B3 B4 g v1 (Y aP l.length cP) v4 said pl beg Z) (hz:b<=w.heap.size) (hr:Jz w aP cP l) (hrl:∀ ad,aP=some ad->ad.block<lo) (hi:i<l.length) (hs:said.length<=300) (hps:pl.length<=300) (hW:WIn a b w v W) (hT:E≠0) :
  Calls Pg 80 #[O J i,v,O J E,.pointer (some ⟨B1,0,none⟩),.pointer (some ⟨B2,0,none⟩),.pointer (some ⟨B3,0,none⟩),.pointer (some ⟨B4,0,none⟩)] w (a3s lo a b w B1 B2 B3 B4 g (Y aP l.length cP) (said ++ [E]) (pl.map (·.1)) beg Z):=by
 obtain⟨aS,aH,aF,aL,cS,cH,cF,cL,aT,cT,lt,rfl,-⟩:=hW w (fun _ _ _=>rfl)
 have b0:Below w.heap.size w (w.alloc (.cells #[Y aS W.m.slots.length cS,Y aH W.m.heads.length cH,Y aF W.m.free.length cF,Y aL W.m.locks.length cL,O J W.m.now,Y aT W.ts.length cT] 28)):=A7 _ _
 have HC0:Hid (Cs lo a b (w.alloc (.cells #[Y aS W.m.slots.length cS,Y aH W.m.heads.length cH,Y aF W.m.free.length cF,Y aL W.m.locks.length cL,O J W.m.now,Y aT W.ts.length cT] 28)) B1 B2 B3 B4 g v1 (Y aP l.length cP) v4 said pl beg Z):=h.below b0
 have HY0:Hid ((w.alloc (.cells #[Y aS W.m.slots.length cS,Y aH W.m.heads.length cH,Y aF W.m.free.length cF,Y aL W.m.locks.length cL,O J W.m.now,Y aT W.ts.length cT] 28)).heap[w.heap.size]?=some (.cells #[Y aS W.m.slots.length cS,Y aH W.m.heads.length cH,Y aF W.m.free.length cF,Y aL W.m.locks.length cL,O J W.m.now,Y aT W.ts.length cT] 28 (0,0))):=heap_alloc_new _ _
 have Hlz:Hid (lo<=w.heap.size):=by have:=h.o1.1;have:=lt_of_block h.s;show _<=_;omega
 have HW0:Hid (WIn a b w (.agg #[Y aS W.m.slots.length cS,Y aH W.m.heads.length cH,Y aF W.m.free.length cF,Y aL W.m.locks.length cL,O J W.m.now,Y aT W.ts.length cT]) W):=hW
 have Hz:Hid (b<=w.heap.size):=hz
 rcases hr.at_ with hn|⟨bP,oP,rfl,hx⟩
 ·omega
 have hbl:bP<lo:=hrl _ rfl
 have Hrx:Hid (w.rangeAt bP (oP+i*9) [O J (l[i]).task,.bool (l[i]).step,.bool (l[i]).tick,O J ((l[i]).c).kind,O J ((l[i]).c).a,O J ((l[i]).c).b,O J ((l[i]).c).time,O J ((l[i]).c).bk,O J ((l[i]).c).slot]):=hx i hi
 have hmax:=hr.max
 have hle:=hr.le
 obtain⟨x,hxe⟩:∃ x,x=l[i]:=⟨_,rfl⟩
 have Hxe:Hid (x=l[i]):=hxe
 rw[<- hxe] at Hrx
 have HCell:Hid (∀ j u,[Value.int .i64 E][j]?=some u->(((w.alloc (.cells #[Y aS W.m.slots.length cS,Y aH W.m.heads.length cH,Y aF W.m.free.length cF,Y aL W.m.locks.length cL,O J W.m.now,Y aT W.ts.length cT] 28))).alloc (.cells #[O J E] 36)).cell? ((⟨w.heap.size+1,0,none⟩:Addr).add j)=some u):=fun j u hu=>by
  have h1:=cell_one_new (w.alloc (.cells #[Y aS W.m.slots.length cS,Y aH W.m.heads.length cH,Y aF W.m.free.length cF,Y aL W.m.locks.length cL,O J W.m.now,Y aT W.ts.length cT] 28)) (O J E) 36 j u hu
  rwa [show (w.alloc (.cells #[Y aS W.m.slots.length cS,Y aH W.m.heads.length cH,Y aF W.m.free.length cF,Y aL W.m.locks.length cL,O J W.m.now,Y aT W.ts.length cT] 28)).heap.size=w.heap.size+1 by simp] at h1
 obtain⟨i0,hi0,hq0,hq1,hq2⟩:=info_parts iE
 obtain⟨a1,k1,rfl⟩:=Aq HC0.out.so
 have HO:Hid ((w.alloc (.cells #[Y aS W.m.slots.length cS,Y aH W.m.heads.length cH,Y aF W.m.free.length cF,Y aL W.m.locks.length cL,O J W.m.now,Y aT W.ts.length cT] 28)).ownsRow lo 36 1 (Y a1 said.length k1) said.length (encI said)):=HC0.out.so
 have HBw:Hid (∀ (w2:Wq) (o:Obj) (v':Value),((w.alloc (.cells #[Y aS W.m.slots.length cS,Y aH W.m.heads.length cH,Y aF W.m.free.length cF,Y aL W.m.locks.length cL,O J W.m.now,Y aT W.ts.length cT] 28)).alloc o).grownBy w2 (Value.slice a1 said.length k1).ownBlock->Below lo w (w2.setCell ⟨B1,0,none⟩ v')):=fun w2 o v' hg=>Gs ((Below.mono (A7 w _) Hlz.out)) hg (fun k hk=>(HO.out.lt k hk).1) (by have:=Hlz.out;simp;omega) HC0.out.o1.1
 obtain⟨c1,f1,l1⟩:=Ar HC0.out.s
 clear h hW hr b0 hrl hx hz hxe
 go_enter Tryz.func80,Tryz.ntmps80
 go_wp2_with (first|(at_builtin;refine wpList_append_own_at _ rfl (.tmp 12) (.tmp 14) 68 rfl lo 36 i0 (O J 0) 1 8 Tryz.underlying68 hi0 hq0 hq1 hq2 rfl (by decide) _ _ _ rfl (HO.out.alloc _) ⟨w.heap.size+1,0,none⟩ 1 1 [O J E] rfl rfl HCell.out (by intro u hu;simp at hu;subst hu;rfl) (by unfold maxLen;omega) (by omega) (by have:=Hlz.out;simp;omega) ?_;intro v2 w2 ho2 hg2 _ hloc2;obtain⟨g2,cap2,rfl⟩:=ownsRow_form ho2 (by omega);have HC1:Hid _:=Cs.say HC0.out (by have:=Hz.out;simp;omega) hg2 ho2 hloc2;obtain⟨d1,e1,lB2⟩:=Ar (D6 HC0.out.s hg2 (own_ne HO.out HC0.out.s (by decide)));have HB1:Hid _:=HBw.out _ _ (Y (some ⟨g2,0,none⟩) (said.length+1) cap2) hg2;obtain⟨d2,e2,lB3⟩:=Ar HC1.out.1.x;have Hrx1:Hid _:=Dp Hrx.out HB1.out hbl;have HC2:=fun o:Obj=>HC1.out.1.below (A7 _ o);have d3:=fun o:Obj=>(Ar (HC2 o).f).1;have e3:=fun o:Obj=>(Ar (HC2 o).f).2.1;have d4:=fun o:Obj=>(Ar (HC2 o).p).1;have e4:=fun o:Obj=>(Ar (HC2 o).p).2.1; clear HC2 c1 f1 l1 ho2 hg2 hloc2 HC0 HO HBw)|refine Wh rfl _ rfl rfl Hrx1.out ?_)
 refine bodyPost_ret (results_none rfl _ _ _) rfl ?_
 have hq:∀ o:Obj,Below lo w (World.alloc _ o):=fun o=>HB1.out.alloc (by have:=HB1.out.size;have:=Hlz.out;omega) o
 exact⟨_,v4,pl,rfl,HC1.out.1.below (A7 _ _),rfl,hq _,fun k h1 h2=>((A7 _ _).block k (by have:=HB1.out.size;have:=Hz.out;omega)).trans ((HC1.out.2 k h1 h2).trans ((A7 _ _).block k (by have:=Hz.out;omega)))⟩
theorem a8c(lo a b:Nat)(w:Wq)(B1 B2 B3 B4 g:Nat)(aP:Option Addr)(cP:Nat)(l:List Pk)(v1 v4:Value)(said:List Int)(pl:List (Pst × Option Addr × Nat))(beg:List Nat)(Z:List (Nat × Array Value))(W:Wd)(v:Value)(i:Nat)(E:Int)
  (h:Cs lo a b w B1 B2 B3 B4 g v1 (Y aP l.length cP) v4 said pl beg Z) (hz:b<=w.heap.size) (hr:Jz w aP cP l) (hrl:∀ ad,aP=some ad->ad.block<lo) (hi:i<l.length) (hs:said.length<=300) (hps:pl.length<=300) (hW:WIn a b w v W) (hE:E=0) (hT:(l[i]'hi).tick=true) :
  Calls Pg 80 #[O J i,v,O J E,.pointer (some ⟨B1,0,none⟩),.pointer (some ⟨B2,0,none⟩),.pointer (some ⟨B3,0,none⟩),.pointer (some ⟨B4,0,none⟩)] w (a3s lo a b w B1 B2 B3 B4 g (Y aP l.length cP) (said ++ [E]) (pl.map (·.1)) beg Z):=by
 obtain⟨aS,aH,aF,aL,cS,cH,cF,cL,aT,cT,lt,rfl,-⟩:=hW w (fun _ _ _=>rfl)
 subst hE
 have b0:Below w.heap.size w (w.alloc (.cells #[Y aS W.m.slots.length cS,Y aH W.m.heads.length cH,Y aF W.m.free.length cF,Y aL W.m.locks.length cL,O J W.m.now,Y aT W.ts.length cT] 28)):=A7 _ _
 have HC0:Hid (Cs lo a b (w.alloc (.cells #[Y aS W.m.slots.length cS,Y aH W.m.heads.length cH,Y aF W.m.free.length cF,Y aL W.m.locks.length cL,O J W.m.now,Y aT W.ts.length cT] 28)) B1 B2 B3 B4 g v1 (Y aP l.length cP) v4 said pl beg Z):=h.below b0
 have HY0:Hid ((w.alloc (.cells #[Y aS W.m.slots.length cS,Y aH W.m.heads.length cH,Y aF W.m.free.length cF,Y aL W.m.locks.length cL,O J W.m.now,Y aT W.ts.length cT] 28)).heap[w.heap.size]?=some (.cells #[Y aS W.m.slots.length cS,Y aH W.m.heads.length cH,Y aF W.m.free.length cF,Y aL W.m.locks.length cL,O J W.m.now,Y aT W.ts.length cT] 28 (0,0))):=heap_alloc_new _ _
 have Hlz:Hid (lo<=w.heap.size):=by have:=h.o1.1;have:=lt_of_block h.s;show _<=_;omega
 have HW0:Hid (WIn a b w (.agg #[Y aS W.m.slots.length cS,Y aH W.m.heads.length cH,Y aF W.m.free.length cF,Y aL W.m.locks.length cL,O J W.m.now,Y aT W.ts.length cT]) W):=hW
 have Hz:Hid (b<=w.heap.size):=hz
 rcases hr.at_ with hn|⟨bP,oP,rfl,hx⟩
 ·omega
 have hbl:bP<lo:=hrl _ rfl
 have Hrx:Hid (w.rangeAt bP (oP+i*9) [O J (l[i]).task,.bool (l[i]).step,.bool (l[i]).tick,O J ((l[i]).c).kind,O J ((l[i]).c).a,O J ((l[i]).c).b,O J ((l[i]).c).time,O J ((l[i]).c).bk,O J ((l[i]).c).slot]):=hx i hi
 have hmax:=hr.max
 have hle:=hr.le
 obtain⟨x,hxe⟩:∃ x,x=l[i]:=⟨_,rfl⟩
 have Hxe:Hid (x=l[i]):=hxe
 rw[<- hxe] at Hrx hT
 have HCell:Hid (∀ j u,[Value.int .i64 0][j]?=some u->(((w.alloc (.cells #[Y aS W.m.slots.length cS,Y aH W.m.heads.length cH,Y aF W.m.free.length cF,Y aL W.m.locks.length cL,O J W.m.now,Y aT W.ts.length cT] 28))).alloc (.cells #[O J 0] 36)).cell? ((⟨w.heap.size+1,0,none⟩:Addr).add j)=some u):=fun j u hu=>by
  have h1:=cell_one_new (w.alloc (.cells #[Y aS W.m.slots.length cS,Y aH W.m.heads.length cH,Y aF W.m.free.length cF,Y aL W.m.locks.length cL,O J W.m.now,Y aT W.ts.length cT] 28)) (O J 0) 36 j u hu
  rwa [show (w.alloc (.cells #[Y aS W.m.slots.length cS,Y aH W.m.heads.length cH,Y aF W.m.free.length cF,Y aL W.m.locks.length cL,O J W.m.now,Y aT W.ts.length cT] 28)).heap.size=w.heap.size+1 by simp] at h1
 obtain⟨i0,hi0,hq0,hq1,hq2⟩:=info_parts iE
 obtain⟨a1,k1,rfl⟩:=Aq HC0.out.so
 have HO:Hid ((w.alloc (.cells #[Y aS W.m.slots.length cS,Y aH W.m.heads.length cH,Y aF W.m.free.length cF,Y aL W.m.locks.length cL,O J W.m.now,Y aT W.ts.length cT] 28)).ownsRow lo 36 1 (Y a1 said.length k1) said.length (encI said)):=HC0.out.so
 have HBw:Hid (∀ (w2:Wq) (o:Obj) (v':Value),((w.alloc (.cells #[Y aS W.m.slots.length cS,Y aH W.m.heads.length cH,Y aF W.m.free.length cF,Y aL W.m.locks.length cL,O J W.m.now,Y aT W.ts.length cT] 28)).alloc o).grownBy w2 (Value.slice a1 said.length k1).ownBlock->Below lo w (w2.setCell ⟨B1,0,none⟩ v')):=fun w2 o v' hg=>Gs ((Below.mono (A7 w _) Hlz.out)) hg (fun k hk=>(HO.out.lt k hk).1) (by have:=Hlz.out;simp;omega) HC0.out.o1.1
 obtain⟨c1,f1,l1⟩:=Ar HC0.out.s
 clear h hW hr b0 hrl hx hz hxe
 go_enter Tryz.func80,Tryz.ntmps80
 go_wp2_with (first|(at_builtin;refine wpList_append_own_at _ rfl (.tmp 12) (.tmp 14) 68 rfl lo 36 i0 (O J 0) 1 8 Tryz.underlying68 hi0 hq0 hq1 hq2 rfl (by decide) _ _ _ rfl (HO.out.alloc _) ⟨w.heap.size+1,0,none⟩ 1 1 [O J 0] rfl rfl HCell.out (by intro u hu;simp at hu;subst hu;rfl) (by unfold maxLen;omega) (by omega) (by have:=Hlz.out;simp;omega) ?_;intro v2 w2 ho2 hg2 _ hloc2;obtain⟨g2,cap2,rfl⟩:=ownsRow_form ho2 (by omega);have HC1:Hid _:=Cs.say HC0.out (by have:=Hz.out;simp;omega) hg2 ho2 hloc2;obtain⟨d1,e1,lB2⟩:=Ar (D6 HC0.out.s hg2 (own_ne HO.out HC0.out.s (by decide)));have HB1:Hid _:=HBw.out _ _ (Y (some ⟨g2,0,none⟩) (said.length+1) cap2) hg2;obtain⟨d2,e2,lB3⟩:=Ar HC1.out.1.x;have Hrx1:Hid _:=Dp Hrx.out HB1.out hbl;have HC2:=fun o:Obj=>HC1.out.1.below (A7 _ o);have d3:=fun o:Obj=>(Ar (HC2 o).f).1;have e3:=fun o:Obj=>(Ar (HC2 o).f).2.1;have d4:=fun o:Obj=>(Ar (HC2 o).p).1;have e4:=fun o:Obj=>(Ar (HC2 o).p).2.1; clear HC2 c1 f1 l1 ho2 hg2 hloc2 HC0 HO HBw)|refine Wh rfl _ rfl rfl Hrx1.out ?_)
 refine bodyPost_ret (results_none rfl _ _ _) rfl ?_
 have hq:∀ o:Obj,Below lo w (World.alloc _ o):=fun o=>HB1.out.alloc (by have:=HB1.out.size;have:=Hlz.out;omega) o
 exact⟨_,v4,pl,rfl,HC1.out.1.below (A7 _ _),rfl,hq _,fun k h1 h2=>((A7 _ _).block k (by have:=HB1.out.size;have:=Hz.out;omega)).trans ((HC1.out.2 k h1 h2).trans ((A7 _ _).block k (by have:=Hz.out;omega)))⟩
theorem a4y(lo a b:Nat)(w:Wq)(B1 B2 B3 B4 g:Nat)(aP:Option Addr)(cP:Nat)(l:List Pk)(v1 v4:Value)(said:List Int)(pl:List (Pst × Option Addr × Nat))(beg:List Nat)(Z:List (Nat × Array Value))(W:Wd)(v:Value)(i:Nat)(E:Int)
  (h:Cs lo a b w B1 B2 B3 B4 g v1 (Y aP l.length cP) v4 said pl beg Z) (hz:b<=w.heap.size) (hr:Jz w aP cP l) (hrl:∀ ad,aP=some ad->ad.block<lo) (hi:i<l.length) (hs:said.length<=300) (hps:pl.length<=300) (hW:WIn a b w v W) (hE:E=0) (hT:(l[i]'hi).tick=false) (hS:(l[i]'hi).step=false) (hk:0<=(l[i]'hi).task/\(l[i]'hi).task<beg.length) :
  Calls Pg 80 #[O J i,v,O J E,.pointer (some ⟨B1,0,none⟩),.pointer (some ⟨B2,0,none⟩),.pointer (some ⟨B3,0,none⟩),.pointer (some ⟨B4,0,none⟩)] w (a3s lo a b w B1 B2 B3 B4 g (Y aP l.length cP) (said ++ [E]) (pl.map (·.1)) (beg.set (l[i]'hi).task.toNat i) Z):=by
 obtain⟨aS,aH,aF,aL,cS,cH,cF,cL,aT,cT,lt,rfl,-⟩:=hW w (fun _ _ _=>rfl)
 subst hE
 have b0:Below w.heap.size w (w.alloc (.cells #[Y aS W.m.slots.length cS,Y aH W.m.heads.length cH,Y aF W.m.free.length cF,Y aL W.m.locks.length cL,O J W.m.now,Y aT W.ts.length cT] 28)):=A7 _ _
 have HC0:Hid (Cs lo a b (w.alloc (.cells #[Y aS W.m.slots.length cS,Y aH W.m.heads.length cH,Y aF W.m.free.length cF,Y aL W.m.locks.length cL,O J W.m.now,Y aT W.ts.length cT] 28)) B1 B2 B3 B4 g v1 (Y aP l.length cP) v4 said pl beg Z):=h.below b0
 have HY0:Hid ((w.alloc (.cells #[Y aS W.m.slots.length cS,Y aH W.m.heads.length cH,Y aF W.m.free.length cF,Y aL W.m.locks.length cL,O J W.m.now,Y aT W.ts.length cT] 28)).heap[w.heap.size]?=some (.cells #[Y aS W.m.slots.length cS,Y aH W.m.heads.length cH,Y aF W.m.free.length cF,Y aL W.m.locks.length cL,O J W.m.now,Y aT W.ts.length cT] 28 (0,0))):=heap_alloc_new _ _
 have Hlz:Hid (lo<=w.heap.size):=by have:=h.o1.1;have:=lt_of_block h.s;show _<=_;omega
 have HW0:Hid (WIn a b w (.agg #[Y aS W.m.slots.length cS,Y aH W.m.heads.length cH,Y aF W.m.free.length cF,Y aL W.m.locks.length cL,O J W.m.now,Y aT W.ts.length cT]) W):=hW
 have Hz:Hid (b<=w.heap.size):=hz
 rcases hr.at_ with hn|⟨bP,oP,rfl,hx⟩
 ·omega
 have hbl:bP<lo:=hrl _ rfl
 have Hrx:Hid (w.rangeAt bP (oP+i*9) [O J (l[i]).task,.bool (l[i]).step,.bool (l[i]).tick,O J ((l[i]).c).kind,O J ((l[i]).c).a,O J ((l[i]).c).b,O J ((l[i]).c).time,O J ((l[i]).c).bk,O J ((l[i]).c).slot]):=hx i hi
 have hmax:=hr.max
 have hle:=hr.le
 obtain⟨x,hxe⟩:∃ x,x=l[i]:=⟨_,rfl⟩
 have Hxe:Hid (x=l[i]):=hxe
 rw[<- hxe] at Hrx hT hS hk ⊢
 have HCell:Hid (∀ j u,[Value.int .i64 0][j]?=some u->(((w.alloc (.cells #[Y aS W.m.slots.length cS,Y aH W.m.heads.length cH,Y aF W.m.free.length cF,Y aL W.m.locks.length cL,O J W.m.now,Y aT W.ts.length cT] 28))).alloc (.cells #[O J 0] 36)).cell? ((⟨w.heap.size+1,0,none⟩:Addr).add j)=some u):=fun j u hu=>by
  have h1:=cell_one_new (w.alloc (.cells #[Y aS W.m.slots.length cS,Y aH W.m.heads.length cH,Y aF W.m.free.length cF,Y aL W.m.locks.length cL,O J W.m.now,Y aT W.ts.length cT] 28)) (O J 0) 36 j u hu
  rwa [show (w.alloc (.cells #[Y aS W.m.slots.length cS,Y aH W.m.heads.length cH,Y aF W.m.free.length cF,Y aL W.m.locks.length cL,O J W.m.now,Y aT W.ts.length cT] 28)).heap.size=w.heap.size+1 by simp] at h1
 obtain⟨i0,hi0,hq0,hq1,hq2⟩:=info_parts iE
 obtain⟨a1,k1,rfl⟩:=Aq HC0.out.so
 have HO:Hid ((w.alloc (.cells #[Y aS W.m.slots.length cS,Y aH W.m.heads.length cH,Y aF W.m.free.length cF,Y aL W.m.locks.length cL,O J W.m.now,Y aT W.ts.length cT] 28)).ownsRow lo 36 1 (Y a1 said.length k1) said.length (encI said)):=HC0.out.so
 have HBw:Hid (∀ (w2:Wq) (o:Obj) (v':Value),((w.alloc (.cells #[Y aS W.m.slots.length cS,Y aH W.m.heads.length cH,Y aF W.m.free.length cF,Y aL W.m.locks.length cL,O J W.m.now,Y aT W.ts.length cT] 28)).alloc o).grownBy w2 (Value.slice a1 said.length k1).ownBlock->Below lo w (w2.setCell ⟨B1,0,none⟩ v')):=fun w2 o v' hg=>Gs ((Below.mono (A7 w _) Hlz.out)) hg (fun k hk=>(HO.out.lt k hk).1) (by have:=Hlz.out;simp;omega) HC0.out.o1.1
 obtain⟨c1,f1,l1⟩:=Ar HC0.out.s
 clear h hW hr b0 hrl hx hz hxe
 go_enter Tryz.func80,Tryz.ntmps80
 go_wp2_with (first|(at_builtin;refine wpList_append_own_at _ rfl (.tmp 12) (.tmp 14) 68 rfl lo 36 i0 (O J 0) 1 8 Tryz.underlying68 hi0 hq0 hq1 hq2 rfl (by decide) _ _ _ rfl (HO.out.alloc _) ⟨w.heap.size+1,0,none⟩ 1 1 [O J 0] rfl rfl HCell.out (by intro u hu;simp at hu;subst hu;rfl) (by unfold maxLen;omega) (by omega) (by have:=Hlz.out;simp;omega) ?_;intro v2 w2 ho2 hg2 _ hloc2;obtain⟨g2,cap2,rfl⟩:=ownsRow_form ho2 (by omega);have HC1:Hid _:=Cs.say HC0.out (by have:=Hz.out;simp;omega) hg2 ho2 hloc2;obtain⟨d1,e1,lB2⟩:=Ar (D6 HC0.out.s hg2 (own_ne HO.out HC0.out.s (by decide)));have HB1:Hid _:=HBw.out _ _ (Y (some ⟨g2,0,none⟩) (said.length+1) cap2) hg2;obtain⟨d2,e2,lB3⟩:=Ar HC1.out.1.x;have Hrx1:Hid _:=Dp Hrx.out HB1.out hbl;have HC2:=fun o:Obj=>HC1.out.1.below (A7 _ o);have d3:=fun o:Obj=>(Ar (HC2 o).f).1;have e3:=fun o:Obj=>(Ar (HC2 o).f).2.1;have d4:=fun o:Obj=>(Ar (HC2 o).p).1;have e4:=fun o:Obj=>(Ar (HC2 o).p).2.1;have hk1:=hk.1;have hk2:=hk.2;have e5:=fun o:Obj=>unfrozen_of_block (HC2 o).fo x.task.toNat;have d5:=fun o:Obj=>Cs.fat (HC2 o) (t:=x.task.toNat) (by omega);clear HC2 c1 f1 l1 ho2 hg2 hloc2 HC0 HO HBw)|refine Wh rfl _ rfl rfl Hrx1.out ?_)
 refine bodyPost_end (results_none rfl _ _ _) rfl ?_
 have hq:∀ o:Obj,Below lo w (World.alloc _ o):=fun o=>HB1.out.alloc (by have:=HB1.out.size;have:=Hlz.out;omega) o
 have hs2:=fun o:Obj=>Cs.start (HC1.out.1.below (A7 _ o)) x.task.toNat i (by omega)
 exact⟨_,v4,pl,rfl,(hs2 _).1,rfl,(hq _).setCell HC1.out.1.og _,fun k h1 h2=>((hs2 _).2 k h1 h2).trans (((A7 _ _).block k (by have:=HB1.out.size;have:=Hz.out;omega)).trans ((HC1.out.2 k h1 h2).trans ((A7 _ _).block k (by have:=Hz.out;omega))))⟩
end
section
theorem Yi{a:Nat}{w:Wq}{aS aH aF aL:Option Addr}{cS cH cF cL:Nat}{aT:Option Addr}{cT:Nat}{W:Wd}(h:D8 a w (.agg #[Y aS W.m.slots.length cS,Y aH W.m.heads.length cH,Y aF W.m.free.length cF,Y aL W.m.locks.length cL,O J W.m.now,Y aT W.ts.length cT]) W){t:Nat}(ht:t<W.ts.length) :
  ∃ lt:TkV,Hid (Am w lt.aK lt.cK (W.ts.getD t idle).f.keys)/\W.ts.length<=cT/\∃ p q,aT=some ⟨p,q,none⟩/\Hid (w.rangeAt p (q+t*16) ((W.ts.getD t idle).enc lt)):=by
 obtain⟨bS,bH,bF,bL,dS,dH,dF,dL,bT,dT,lt,e,A,hi,hts,hT,hTh⟩:=h
 have e1:=Value.agg.inj e
 simp only[Array.mk.injEq,List.cons.injEq,Value.slice.injEq,true_and,and_true] at e1
 obtain⟨-,-,-,-,rfl,rfl⟩:=e1
 have hl:W.ts.length=lt.length:=by rw[hts,List.length_map]
 have hg:W.ts.getD t idle=lt[t].1:=by rw[List.getD_eq_getElem?_getD,hts];simp[show t<lt.length by omega]
 obtain⟨p,q,rfl⟩:=hT.addr (by omega)
 refine⟨lt[t].2,?_,by have:=hT.le;omega,p,q,rfl,?_⟩
 ·rw[hg];exact hT.keys _ (List.getElem_mem _)
 ·rw[hg];exact hT.range (by omega)
theorem a8a(lo a b:Nat)(w:Wq)(B1 B2 B3 B4 g:Nat)(aP:Option Addr)(cP:Nat)(l:List Pk)(v1 v4:Value)(said:List Int)(pl:List (Pst × Option Addr × Nat))(beg:List Nat)(Z:List (Nat × Array Value))(W:Wd)(v:Value)(i:Nat)(E:Int)
  (h:Cs lo a b w B1 B2 B3 B4 g v1 (Y aP l.length cP) v4 said pl beg Z) (hz:b<=w.heap.size) (hr:Jz w aP cP l) (hrl:∀ ad,aP=some ad->ad.block<lo) (hi:i<l.length) (hs:said.length<=300) (hps:pl.length<=300) (hW:WIn a b w v W) (hE:E=0) (hT:(l[i]'hi).tick=false) (hS:(l[i]'hi).step=true) (hk:0<=(l[i]'hi).task/\(l[i]'hi).task<W.ts.length) (hB:(W.ts.getD (l[i]'hi).task.toNat idle).busy=true) :
  Calls Pg 80 #[O J i,v,O J E,.pointer (some ⟨B1,0,none⟩),.pointer (some ⟨B2,0,none⟩),.pointer (some ⟨B3,0,none⟩),.pointer (some ⟨B4,0,none⟩)] w (a3s lo a b w B1 B2 B3 B4 g (Y aP l.length cP) (said ++ [E]) (pl.map (·.1)) beg Z):=by
 obtain⟨aS,aH,aF,aL,cS,cH,cF,cL,aT,cT,lt,rfl,-⟩:=hW w (fun _ _ _=>rfl)
 subst hE
 have hk0:(l[i]'hi).task.toNat<W.ts.length:=by omega
 obtain⟨-,-,hcT,pT,qT,rfl,-⟩:=Yi (hW w fun _ _ _=>rfl) hk0
 clear hk0
 have b0:Below w.heap.size w (w.alloc (.cells #[Y aS W.m.slots.length cS,Y aH W.m.heads.length cH,Y aF W.m.free.length cF,Y aL W.m.locks.length cL,O J W.m.now,Y (some ⟨pT,qT,none⟩) W.ts.length cT] 28)):=A7 _ _
 have HC0:Hid (Cs lo a b (w.alloc (.cells #[Y aS W.m.slots.length cS,Y aH W.m.heads.length cH,Y aF W.m.free.length cF,Y aL W.m.locks.length cL,O J W.m.now,Y (some ⟨pT,qT,none⟩) W.ts.length cT] 28)) B1 B2 B3 B4 g v1 (Y aP l.length cP) v4 said pl beg Z):=h.below b0
 have HY0:Hid ((w.alloc (.cells #[Y aS W.m.slots.length cS,Y aH W.m.heads.length cH,Y aF W.m.free.length cF,Y aL W.m.locks.length cL,O J W.m.now,Y (some ⟨pT,qT,none⟩) W.ts.length cT] 28)).heap[w.heap.size]?=some (.cells #[Y aS W.m.slots.length cS,Y aH W.m.heads.length cH,Y aF W.m.free.length cF,Y aL W.m.locks.length cL,O J W.m.now,Y (some ⟨pT,qT,none⟩) W.ts.length cT] 28 (0,0))):=heap_alloc_new _ _
 have Hlz:Hid (lo<=w.heap.size):=by have:=h.o1.1;have:=lt_of_block h.s;show _<=_;omega
 have HW0:Hid (WIn a b w (.agg #[Y aS W.m.slots.length cS,Y aH W.m.heads.length cH,Y aF W.m.free.length cF,Y aL W.m.locks.length cL,O J W.m.now,Y (some ⟨pT,qT,none⟩) W.ts.length cT]) W):=hW
 have Hz:Hid (b<=w.heap.size):=hz
 rcases hr.at_ with hn|⟨bP,oP,rfl,hx⟩
 ·omega
 have hbl:bP<lo:=hrl _ rfl
 have Hrx:Hid (w.rangeAt bP (oP+i*9) [O J (l[i]).task,.bool (l[i]).step,.bool (l[i]).tick,O J ((l[i]).c).kind,O J ((l[i]).c).a,O J ((l[i]).c).b,O J ((l[i]).c).time,O J ((l[i]).c).bk,O J ((l[i]).c).slot]):=hx i hi
 have hmax:=hr.max
 have hle:=hr.le
 obtain⟨x,hxe⟩:∃ x,x=l[i]:=⟨_,rfl⟩
 have Hxe:Hid (x=l[i]):=hxe
 rw[<- hxe] at Hrx hT hS hk hB 
 obtain⟨xt,xs,xk,xc⟩:=x
 dsimp only at Hrx hT hS hk hB 
 subst hT hS
 obtain⟨tk,rfl⟩:∃ tk:Nat,xt=tk:=⟨xt.toNat,by omega⟩
 rw[Int.toNat_natCast] at hB 
 have hk2:tk<W.ts.length:=by omega
 have l1w:B1<w.heap.size:=lt_of_block h.s
 obtain⟨t,hte⟩:∃ t,t=W.ts.getD tk idle:=⟨_,rfl⟩
 have Hte:Hid (t=W.ts.getD tk idle):=hte
 rw[<- hte] at hB 
 clear hte
 have HCell:Hid (∀ j u,[Value.int .i64 0][j]?=some u->(((w.alloc (.cells #[Y aS W.m.slots.length cS,Y aH W.m.heads.length cH,Y aF W.m.free.length cF,Y aL W.m.locks.length cL,O J W.m.now,Y (some ⟨pT,qT,none⟩) W.ts.length cT] 28))).alloc (.cells #[O J 0] 36)).cell? ((⟨w.heap.size+1,0,none⟩:Addr).add j)=some u):=fun j u hu=>by
  have h1:=cell_one_new (w.alloc (.cells #[Y aS W.m.slots.length cS,Y aH W.m.heads.length cH,Y aF W.m.free.length cF,Y aL W.m.locks.length cL,O J W.m.now,Y (some ⟨pT,qT,none⟩) W.ts.length cT] 28)) (O J 0) 36 j u hu
  rwa [show (w.alloc (.cells #[Y aS W.m.slots.length cS,Y aH W.m.heads.length cH,Y aF W.m.free.length cF,Y aL W.m.locks.length cL,O J W.m.now,Y (some ⟨pT,qT,none⟩) W.ts.length cT] 28)).heap.size=w.heap.size+1 by simp] at h1
 obtain⟨i0,hi0,hq0,hq1,hq2⟩:=info_parts iE
 obtain⟨a1,k1,rfl⟩:=Aq HC0.out.so
 have HO:Hid ((w.alloc (.cells #[Y aS W.m.slots.length cS,Y aH W.m.heads.length cH,Y aF W.m.free.length cF,Y aL W.m.locks.length cL,O J W.m.now,Y (some ⟨pT,qT,none⟩) W.ts.length cT] 28)).ownsRow lo 36 1 (Y a1 said.length k1) said.length (encI said)):=HC0.out.so
 have HBw:Hid (∀ (w2:Wq) (o:Obj) (v':Value),((w.alloc (.cells #[Y aS W.m.slots.length cS,Y aH W.m.heads.length cH,Y aF W.m.free.length cF,Y aL W.m.locks.length cL,O J W.m.now,Y (some ⟨pT,qT,none⟩) W.ts.length cT] 28)).alloc o).grownBy w2 (Value.slice a1 said.length k1).ownBlock->Below lo w (w2.setCell ⟨B1,0,none⟩ v')):=fun w2 o v' hg=>Gs ((Below.mono (A7 w _) Hlz.out)) hg (fun k hk=>(HO.out.lt k hk).1) (by have:=Hlz.out;simp;omega) HC0.out.o1.1
 obtain⟨c1,f1,l1⟩:=Ar HC0.out.s
 clear h hW hr b0 hrl hx hz hxe
 go_enter Tryz.func80,Tryz.ntmps80
 go_wp2_with (first|(at_builtin;go_loud (refine wpList_append_own_at _ rfl (.tmp 12) (.tmp 14) 68 rfl lo 36 i0 (O J 0) 1 8 Tryz.underlying68 hi0 hq0 hq1 hq2 rfl (by decide) _ _ _ rfl (HO.out.alloc _) ⟨w.heap.size+1,0,none⟩ 1 1 [O J 0] rfl rfl HCell.out (by intro u hu;simp at hu;subst hu;rfl) (by unfold maxLen;omega) (by omega) (by have:=Hlz.out;simp;omega) ?_;intro v2 w2 ho2 hg2 _ hloc2;obtain⟨g2,cap2,rfl⟩:=ownsRow_form ho2 (by omega);have HC1:Hid _:=Cs.say HC0.out (by have:=Hz.out;simp;omega) hg2 ho2 hloc2;obtain⟨d1,e1,lB2⟩:=Ar (D6 HC0.out.s hg2 (own_ne HO.out HC0.out.s (by decide)));have HB1:Hid _:=HBw.out _ _ (Y (some ⟨g2,0,none⟩) (said.length+1) cap2) hg2;obtain⟨d2,e2,lB3⟩:=Ar HC1.out.1.x;have Hrx1:Hid _:=Dp Hrx.out HB1.out hbl;have HZ2:Hid _:=D6 HY0.out hg2 (own_ne HO.out HY0.out (by decide));have hz2:=lt_of_block HZ2.out;have HZ3:Hid ((World.heap (World.alloc (World.setCell w2 ⟨B1,0,none⟩ (Y (some ⟨g2,0,none⟩) (said.length+1) cap2)) (.cells #[O J tk,.bool true,.bool false,O J xc.kind,O J xc.a,O J xc.b,O J xc.time,O J xc.bk,O J xc.slot] 34)))[w.heap.size]?=some (.cells #[Y aS W.m.slots.length cS,Y aH W.m.heads.length cH,Y aF W.m.free.length cF,Y aL W.m.locks.length cL,O J W.m.now,Y (some ⟨pT,qT,none⟩) W.ts.length cT] 28 (0,0))):=((A7 _ _).block _ (by first|(simp;done)|(simp;omega)|(have:=HB1.out.size;omega))).trans ((Below.heap_setCell _ _ _ _ (by dsimp only;omega)).trans HZ2.out);obtain⟨z0,z1,z2,z3,z4,z5,zs⟩:=Bc HZ3.out;have HWn:Hid _:=HW0.out (World.alloc (World.setCell w2 ⟨B1,0,none⟩ (Y (some ⟨g2,0,none⟩) (said.length+1) cap2)) (.cells #[O J tk,.bool true,.bool false,O J xc.kind,O J xc.a,O J xc.b,O J xc.time,O J xc.bk,O J xc.slot] 34)) (fun k h1 h2=>((A7 _ _).block k (by have:=HB1.out.size;have:=Hz.out;omega)).trans ((HC1.out.2 k h1 h2).trans ((A7 _ _).block k (by have:=Hz.out;omega))));obtain⟨lt2,hts2,ht2,p2,q2,hpT,Hrt⟩:=Yi HWn.out hk2;cases hpT;rw[<- Hte.out] at Hrt hts2;clear c1 f1 l1 ho2 hg2 hloc2 HC0 HO HBw))|refine Wh (x0:=⟨(tk:Int),true,false,xc⟩) rfl _ rfl rfl Hrx1.out ?_|refine Ud rfl _ rfl rfl Hrt.out ?_)
 refine bodyPost_end (results_none rfl _ _ _) rfl ?_
 have hq:∀ o:Obj,Below lo w (World.alloc _ o):=fun o=>HB1.out.alloc (by have:=HB1.out.size;have:=Hlz.out;omega) o
 have hq2:∀ o o2:Obj,Below lo w (World.alloc (World.alloc _ o) o2):=fun o o2=>(hq o).alloc (by have:=(hq o).size;have:=Hlz.out;omega) o2
 exact⟨_,v4,pl,rfl,(HC1.out.1.below (A7 _ _)).below (A7 _ _),rfl,hq2 _ _,fun k h1 h2=>((A7 _ _).block k (by have:=(hq (.cells #[] 0)).size;have:=HB1.out.size;have:=Hz.out;simp;omega)).trans (((A7 _ _).block k (by have:=HB1.out.size;have:=Hz.out;omega)).trans ((HC1.out.2 k h1 h2).trans ((A7 _ _).block k (by have:=Hz.out;omega))))⟩
end
section
section
variable {lo a b:Nat} {w w':Wq} {B1 B2 B3 B4 g:Nat} {v1 v2 v4:Value} {said:List Int} {pl:List (Pst × Option Addr × Nat)} {beg:List Nat} {Z:List (Nat × Array Value)}
theorem Cs.tellW(h:Cs lo a b w B1 B2 B3 B4 g v1 v2 v4 said pl beg Z)(hz:b<=w.heap.size){w1:Wq}{v':Value}{q:Pst × Option Addr × Nat}(hq:Dk w lo q.2.1 q.2.2 q.1.keys)(hqx:∀ ad,q.2.1=some ad->Out a b ad.block)(hg:w.grownBy w1 v4.ownBlock)(ho:w1.ownsRow lo 78 13 v' (pl.length+1) (a4g pl++q.1.enc q.2.1 q.2.2))(hl:v'.ownBlock=v4.ownBlock\/v'.ownBlock=some w.heap.size) :
  Cs lo a b (w1.setCell ⟨B4,0,none⟩ v') B1 B2 B3 B4 g v1 v2 v' said (pl ++ [q]) beg Z/\∀ k,a<=k->k<b->(w1.setCell ⟨B4,0,none⟩ v').heap[k]?=w.heap[k]?:=by
 have hk1:∀ k,k<w.heap.size->v4.ownBlock≠some k->w1.heap[k]?=w.heap[k]?:=fun k hk hn=>by
  exact hg.block k hk (fun e=>hn e.symm)
 have hk:∀ k,k<w.heap.size->v4.ownBlock≠some k->k≠B4->(w1.setCell ⟨B4,0,none⟩ v').heap[k]?=w.heap[k]?:=fun k hk hn hB=>by
  rw[Below.heap_setCell _ _ _ _ (by dsimp only;exact hB)]
  exact hk1 k hk hn
 have s1:w1.heap[B4]?=some (.cells #[v4] 69 (0,0)):=(hk1 B4 (lt_of_block h.p) (own_ne h.po h.p (by decide))).trans h.p
 have nb:∀ {X:Nat} {cs:Array Value} {t:TypeId},w.heap[X]?=some (.cells cs t (0,0))->t≠78->t≠69->(w1.setCell ⟨B4,0,none⟩ v').heap[X]?=some (.cells cs t (0,0)):=fun hX n1 n2=>by
  refine(hk _ (lt_of_block hX) (own_ne h.po hX (Ne.symm n1)) ?_).trans hX
  rintro rfl
  rw[h.p] at hX
  injection hX with hX
  injection hX with _ hX
  exact n2 hX.symm
 have nr:∀ {lo' size n:Nat} {t:TypeId} {u:Value} {xs:List Value},w.ownsRow lo' t size u n xs->t≠78->t≠69->(w1.setCell ⟨B4,0,none⟩ v').ownsRow lo' t size u n xs:=fun hu n1 n2=>by
  refine Bj hu fun k hu'=>hk k (hu.lt k hu').2 (fun hv=>Cf h.po hu (Ne.symm n1) k hv hu') ?_
  rintro rfl
  exact own_ne hu h.p n2 hu'
 refine⟨⟨nb h.s (by decide) (by decide),nr h.so (by decide) (by decide),h.sx,nb h.f (by decide) (by decide),nb h.fo (by decide) (by decide),h.fx,?_,?_,?_,?_,h.o1,h.o3,h.o4,h.og,nb h.x (by decide) (by decide),h.ox,fun q hq=>nb (h.z q hq) (by decide) (by decide)⟩,?_⟩
 ·have:=block_setCell (i:=0) s1 v'
  rw[this];rfl
 ·have:=Jk (j:=0) (x:=v') ho (own_ne ho s1 (by decide))
  rwa [show a4g pl++q.1.enc q.2.1 q.2.2=a4g (pl ++ [q]) by simp[a4g],show pl.length+1=(pl ++ [q]).length by simp] at this
 ·intro k hk'
  rcases hl with hl|hl
  ·exact h.px k (hl ▸ hk')
  ·rw[hl] at hk'
   injection hk' with hk'
   intro hx
   have:=hx.2
   omega
 ·intro q' hq'
  rcases List.mem_append.1 hq' with hq'|hq'
  ·exact⟨⟨nr (h.pk q' hq').1.own (by decide) (by decide)⟩,(h.pk q' hq').2⟩
  ·rw[List.mem_singleton] at hq'
   subst hq'
   exact⟨⟨nr hq.own (by decide) (by decide)⟩,hqx⟩
 ·intro k h1 h2
  exact hk k (by omega) (fun e=>h.px k e ⟨h1,h2⟩) (fun e=>h.o4.2 (e ▸ ⟨h1,h2⟩))
end
theorem Je{P:Program}{ops:Array Oper}{Q:Exit->Act->Wq->Prop}{i:Nat}{o:Oper}{a:Act}{w w':Wq}{K:Act->Wq->Prop}(hi:ops[i]?=some o)(hw:Region.wanted o (yielded ops a.tmps)=true)
  (hr:(execOp a.eval o).run P w=.ok .skip w') (h:K (a.put o.dst Uz) w'):wpOp P ops Q i K a w:=by
 refine wpOp_step hi fun K' hK=>?_
 rw[if_pos hw]
 unfold Oper.wp
 rw[hr]
 exact hK _ _ h
def Le(x:Nat->Value):Act:=⟨#[x 0,x 1,x 2,x 3,x 4,x 5,x 6,x 7,x 8,x 9,x 10,x 11,x 12,x 13,x 14,x 15,x 16,x 17,x 18,x 19,x 20,x 21,x 22,x 23,x 24,x 25,x 26,x 27,x 28,x 29,x 30,x 31,x 32,x 33,x 34,x 35,x 36,x 37,x 38,x 39,x 40,x 41,x 42,x 43,x 44,x 45,x 46,x 47,x 48,x 49,x 50,x 51,x 52,x 53,x 54,x 55,x 56],[]⟩
def Gh(X B g tk i:Nat)(v4 gs:Value)(f:Fr)(aK:Option Addr)(cK:Nat):Nat->Value
 | 0=>v4
 | 1=>.pointer (some ⟨X+1,1,none⟩)
 | 2=>.agg #[O J f.c.kind,O J f.c.a,O J f.c.b,O J f.c.time,O J f.c.bk,O J f.c.slot,O J f.pl,O J f.cur,O J f.prev,O J f.slot,O J f.n,Y aK f.keys.length cK,.bool f.done,O J f.e]
 | 3=>.pointer (some ⟨X,0,none⟩)
 | 4=>O J tk
 | 5=>gs
 | 6=>.pointer (some ⟨X,0,none⟩)
 | 7=>O J tk
 | 8=>.pointer (some ⟨g,tk,none⟩)
 | 9=>O J B
 | _=>O J i
def b1n(X B g tk i:Nat)(v4 gs:Value)(f:Fr)(aK:Option Addr)(cK base:Nat)(n:Nat)(v:Value)(W:Wq):Prop :=
 (n≠11->n≠12->v=Gh X B g tk i v4 gs f aK cK n) /\
 (n=11->∃ a2 c2,v=.agg #[O J tk,O J f.c.kind,O J f.c.a,O J f.c.b,O J f.c.time,O J f.c.bk,O J f.c.slot,O J B,O J i,O J f.e,O J f.slot,O J f.n,Y a2 f.keys.length c2]/\Dk W base a2 c2 f.keys) /\
 (n=12->∃ a2 c2 p,v=Y (some ⟨p,0,none⟩) 1 1/\W.heap[p]?=some (.cells #[O J tk,O J f.c.kind,O J f.c.a,O J f.c.b,O J f.c.time,O J f.c.bk,O J f.c.slot,O J B,O J i,O J f.e,O J f.slot,O J f.n,Y a2 f.keys.length c2] 78 (0,0))/\Dk W base a2 c2 f.keys)
theorem a5l{X B g tk i:Nat}{v4 gs:Value}{f:Fr}{aK:Option Addr}{cK base:Nat}:∀ n v w w',b1n X B g tk i v4 gs f aK cK base n v w->Below w.heap.size w w'->b1n X B g tk i v4 gs f aK cK base n v w':=by
 rintro n v w w' ⟨h1,h2,h3⟩ hb
 refine⟨h1,fun h=>?_,fun h=>?_⟩
 ·obtain⟨a,k,e,r⟩:=h2 h
  exact⟨a,k,e,r.below hb⟩
 ·obtain⟨a,k,p,e,r,s⟩:=h3 h
  exact⟨a,k,p,e,(hb.block _ (lt_of_block r)).trans r,s.below hb⟩
theorem Gf{X B g tk i:Nat}{v4 gs:Value}{f:Fr}{aK:Option Addr}{cK base n:Nat}{W:Wq}(h1:n≠11)(h2:n≠12):b1n X B g tk i v4 gs f aK cK base n (Gh X B g tk i v4 gs f aK cK n) W:=⟨fun _ _=>rfl,fun h=>(h1 h).elim,fun h=>(h2 h).elim⟩
theorem Pe{w:Wq}{p:Nat}{vs:List Value}{t:TypeId}(h:w.heap[p]?=some (.cells vs.toArray t (0,0))):∀ j u,vs[j]?=some u->w.cell? ((⟨p,0,none⟩:Addr).add j)=some u:=by
 intro j u hj
 rw[show ((⟨p,0,none⟩:Addr).add j)=⟨p,j,none⟩ by simp[Addr.add];omega,cell_of_block h]
 simpa using hj
theorem a8b(lo a b:Nat)(w:Wq)(B1 B2 B3 B4 g:Nat)(aP:Option Addr)(cP:Nat)(l:List Pk)(v1 v4:Value)(said:List Int)(pl:List (Pst × Option Addr × Nat))(beg:List Nat)(Z:List (Nat × Array Value))(W:Wd)(v:Value)(i:Nat)(E:Int)
  (h:Cs lo a b w B1 B2 B3 B4 g v1 (Y aP l.length cP) v4 said pl beg Z) (hz:b<=w.heap.size) (hr:Jz w aP cP l) (hrl:∀ ad,aP=some ad->ad.block<lo) (hi:i<l.length) (hs:said.length<=300) (hps:pl.length<=300) (hW:WIn a b w v W) (hE:E=0) (hT:(l[i]'hi).tick=false) (hS:(l[i]'hi).step=true) (hk:0<=(l[i]'hi).task/\(l[i]'hi).task<W.ts.length) (hB:(W.ts.getD (l[i]'hi).task.toNat idle).busy=false) (hbl:beg.length=W.ts.length) :
  Calls Pg 80 #[O J i,v,O J E,.pointer (some ⟨B1,0,none⟩),.pointer (some ⟨B2,0,none⟩),.pointer (some ⟨B3,0,none⟩),.pointer (some ⟨B4,0,none⟩)] w (a3s lo a b w B1 B2 B3 B4 g (Y aP l.length cP) (said ++ [E]) ((pl.map (·.1)) ++ [a8k i (l[i]'hi) (beg.getD (l[i]'hi).task.toNat 0) (W.ts.getD (l[i]'hi).task.toNat idle)]) beg Z):=by
 obtain⟨aS,aH,aF,aL,cS,cH,cF,cL,aT,cT,lt,rfl,-⟩:=hW w (fun _ _ _=>rfl)
 subst hE
 have hk0:(l[i]'hi).task.toNat<W.ts.length:=by omega
 obtain⟨-,-,hcT,pT,qT,rfl,-⟩:=Yi (hW w fun _ _ _=>rfl) hk0
 clear hk0
 have b0:Below w.heap.size w (w.alloc (.cells #[Y aS W.m.slots.length cS,Y aH W.m.heads.length cH,Y aF W.m.free.length cF,Y aL W.m.locks.length cL,O J W.m.now,Y (some ⟨pT,qT,none⟩) W.ts.length cT] 28)):=A7 _ _
 have HC0:Hid (Cs lo a b (w.alloc (.cells #[Y aS W.m.slots.length cS,Y aH W.m.heads.length cH,Y aF W.m.free.length cF,Y aL W.m.locks.length cL,O J W.m.now,Y (some ⟨pT,qT,none⟩) W.ts.length cT] 28)) B1 B2 B3 B4 g v1 (Y aP l.length cP) v4 said pl beg Z):=h.below b0
 have HY0:Hid ((w.alloc (.cells #[Y aS W.m.slots.length cS,Y aH W.m.heads.length cH,Y aF W.m.free.length cF,Y aL W.m.locks.length cL,O J W.m.now,Y (some ⟨pT,qT,none⟩) W.ts.length cT] 28)).heap[w.heap.size]?=some (.cells #[Y aS W.m.slots.length cS,Y aH W.m.heads.length cH,Y aF W.m.free.length cF,Y aL W.m.locks.length cL,O J W.m.now,Y (some ⟨pT,qT,none⟩) W.ts.length cT] 28 (0,0))):=heap_alloc_new _ _
 have Hlz:Hid (lo<=w.heap.size):=by have:=h.o1.1;have:=lt_of_block h.s;show _<=_;omega
 have HW0:Hid (WIn a b w (.agg #[Y aS W.m.slots.length cS,Y aH W.m.heads.length cH,Y aF W.m.free.length cF,Y aL W.m.locks.length cL,O J W.m.now,Y (some ⟨pT,qT,none⟩) W.ts.length cT]) W):=hW
 have Hz:Hid (b<=w.heap.size):=hz
 rcases hr.at_ with hn|⟨bP,oP,rfl,hx⟩
 ·omega
 have hbl:bP<lo:=hrl _ rfl
 have Hrx:Hid (w.rangeAt bP (oP+i*9) [O J (l[i]).task,.bool (l[i]).step,.bool (l[i]).tick,O J ((l[i]).c).kind,O J ((l[i]).c).a,O J ((l[i]).c).b,O J ((l[i]).c).time,O J ((l[i]).c).bk,O J ((l[i]).c).slot]):=hx i hi
 have hmax:=hr.max
 have hle:=hr.le
 obtain⟨x,hxe⟩:∃ x,x=l[i]:=⟨_,rfl⟩
 have Hxe:Hid (x=l[i]):=hxe
 rw[<- hxe] at Hrx hT hS hk hB ⊢
 obtain⟨xt,xs,xk,xc⟩:=x
 dsimp only at Hrx hT hS hk hB ⊢
 subst hT hS
 obtain⟨tk,rfl⟩:∃ tk:Nat,xt=tk:=⟨xt.toNat,by omega⟩
 rw[Int.toNat_natCast] at hB ⊢
 have hk2:tk<W.ts.length:=by omega
 have l1w:B1<w.heap.size:=lt_of_block h.s
 obtain⟨t,hte⟩:∃ t,t=W.ts.getD tk idle:=⟨_,rfl⟩
 have Hte:Hid (t=W.ts.getD tk idle):=hte
 rw[<- hte] at hB ⊢
 clear hte
 have HCell:Hid (∀ j u,[Value.int .i64 0][j]?=some u->(((w.alloc (.cells #[Y aS W.m.slots.length cS,Y aH W.m.heads.length cH,Y aF W.m.free.length cF,Y aL W.m.locks.length cL,O J W.m.now,Y (some ⟨pT,qT,none⟩) W.ts.length cT] 28))).alloc (.cells #[O J 0] 36)).cell? ((⟨w.heap.size+1,0,none⟩:Addr).add j)=some u):=fun j u hu=>by
  have h1:=cell_one_new (w.alloc (.cells #[Y aS W.m.slots.length cS,Y aH W.m.heads.length cH,Y aF W.m.free.length cF,Y aL W.m.locks.length cL,O J W.m.now,Y (some ⟨pT,qT,none⟩) W.ts.length cT] 28)) (O J 0) 36 j u hu
  rwa [show (w.alloc (.cells #[Y aS W.m.slots.length cS,Y aH W.m.heads.length cH,Y aF W.m.free.length cF,Y aL W.m.locks.length cL,O J W.m.now,Y (some ⟨pT,qT,none⟩) W.ts.length cT] 28)).heap.size=w.heap.size+1 by simp] at h1
 obtain⟨i0,hi0,hq0,hq1,hq2⟩:=info_parts iE
 obtain⟨a1,k1,rfl⟩:=Aq HC0.out.so
 have HO:Hid ((w.alloc (.cells #[Y aS W.m.slots.length cS,Y aH W.m.heads.length cH,Y aF W.m.free.length cF,Y aL W.m.locks.length cL,O J W.m.now,Y (some ⟨pT,qT,none⟩) W.ts.length cT] 28)).ownsRow lo 36 1 (Y a1 said.length k1) said.length (encI said)):=HC0.out.so
 have HBw:Hid (∀ (w2:Wq) (o:Obj) (v':Value),((w.alloc (.cells #[Y aS W.m.slots.length cS,Y aH W.m.heads.length cH,Y aF W.m.free.length cF,Y aL W.m.locks.length cL,O J W.m.now,Y (some ⟨pT,qT,none⟩) W.ts.length cT] 28)).alloc o).grownBy w2 (Value.slice a1 said.length k1).ownBlock->Below lo w (w2.setCell ⟨B1,0,none⟩ v')):=fun w2 o v' hg=>Gs ((Below.mono (A7 w _) Hlz.out)) hg (fun k hk=>(HO.out.lt k hk).1) (by have:=Hlz.out;simp;omega) HC0.out.o1.1
 obtain⟨c1,f1,l1⟩:=Ar HC0.out.s
 clear h hW hr b0 hrl hx hz hxe
 go_enter Tryz.func80,Tryz.ntmps80
 go_wp2_with (first|(at_builtin;go_loud (refine wpList_append_own_at _ rfl (.tmp 12) (.tmp 14) 68 rfl lo 36 i0 (O J 0) 1 8 Tryz.underlying68 hi0 hq0 hq1 hq2 rfl (by decide) _ _ _ rfl (HO.out.alloc _) ⟨w.heap.size+1,0,none⟩ 1 1 [O J 0] rfl rfl HCell.out (by intro u hu;simp at hu;subst hu;rfl) (by unfold maxLen;omega) (by omega) (by have:=Hlz.out;simp;omega) ?_;intro v2 w2 ho2 hg2 _ hloc2;obtain⟨g2,cap2,rfl⟩:=ownsRow_form ho2 (by omega);have HC1:Hid _:=Cs.say HC0.out (by have:=Hz.out;simp;omega) hg2 ho2 hloc2;obtain⟨d1,e1,lB2⟩:=Ar (D6 HC0.out.s hg2 (own_ne HO.out HC0.out.s (by decide)));have HB1:Hid _:=HBw.out _ _ (Y (some ⟨g2,0,none⟩) (said.length+1) cap2) hg2;obtain⟨d2,e2,lB3⟩:=Ar HC1.out.1.x;have Hrx1:Hid _:=Dp Hrx.out HB1.out hbl;have HZ2:Hid _:=D6 HY0.out hg2 (own_ne HO.out HY0.out (by decide));have hz2:=lt_of_block HZ2.out;have HZ3:Hid ((World.heap (World.alloc (World.setCell w2 ⟨B1,0,none⟩ (Y (some ⟨g2,0,none⟩) (said.length+1) cap2)) (.cells #[O J tk,.bool true,.bool false,O J xc.kind,O J xc.a,O J xc.b,O J xc.time,O J xc.bk,O J xc.slot] 34)))[w.heap.size]?=some (.cells #[Y aS W.m.slots.length cS,Y aH W.m.heads.length cH,Y aF W.m.free.length cF,Y aL W.m.locks.length cL,O J W.m.now,Y (some ⟨pT,qT,none⟩) W.ts.length cT] 28 (0,0))):=((A7 _ _).block _ (by first|(simp;done)|(simp;omega)|(have:=HB1.out.size;omega))).trans ((Below.heap_setCell _ _ _ _ (by dsimp only;omega)).trans HZ2.out);obtain⟨z0,z1,z2,z3,z4,z5,zs⟩:=Bc HZ3.out;have HWn:Hid _:=HW0.out (World.alloc (World.setCell w2 ⟨B1,0,none⟩ (Y (some ⟨g2,0,none⟩) (said.length+1) cap2)) (.cells #[O J tk,.bool true,.bool false,O J xc.kind,O J xc.a,O J xc.b,O J xc.time,O J xc.bk,O J xc.slot] 34)) (fun k h1 h2=>((A7 _ _).block k (by have:=HB1.out.size;have:=Hz.out;omega)).trans ((HC1.out.2 k h1 h2).trans ((A7 _ _).block k (by have:=Hz.out;omega))));obtain⟨lt2,hts2,ht2,p2,q2,hpT,Hrt⟩:=Yi HWn.out hk2;cases hpT;rw[<- Hte.out] at Hrt hts2;clear c1 f1 l1 ho2 hg2 hloc2 HC0 HO HBw))|refine Wh (x0:=⟨(tk:Int),true,false,xc⟩) rfl _ rfl rfl Hrx1.out ?_|refine Ud rfl _ rfl rfl Hrt.out ?_)
 have HT0:=heap_alloc_new (World.alloc (World.setCell w2 ⟨B1,0,none⟩ (Y (some ⟨g2,0,none⟩) (said.length+1) cap2)) (.cells #[O J tk,.bool true,.bool false,O J xc.kind,O J xc.a,O J xc.b,O J xc.time,O J xc.bk,O J xc.slot] 34)) (.cells #[.bool false,O J t.f.c.kind,O J t.f.c.a,O J t.f.c.b,O J t.f.c.time,O J t.f.c.bk,O J t.f.c.slot,O J t.f.pl,O J t.f.cur,O J t.f.prev,O J t.f.slot,O J t.f.n,Y lt2.aK t.f.keys.length lt2.cK,.bool t.f.done,O J t.f.e,Y lt2.aH t.held.length lt2.cH] 49)
 rw[show (World.alloc (World.setCell w2 ⟨B1,0,none⟩ (Y (some ⟨g2,0,none⟩) (said.length+1) cap2)) (.cells #[O J tk,.bool true,.bool false,O J xc.kind,O J xc.a,O J xc.b,O J xc.time,O J xc.bk,O J xc.slot] 34)).heap.size=w2.heap.size+1 by simp] at HT0
 have HT3:Hid ((World.alloc (World.alloc (World.setCell w2 ⟨B1,0,none⟩ (Y (some ⟨g2,0,none⟩) (said.length+1) cap2)) (.cells #[O J tk,.bool true,.bool false,O J xc.kind,O J xc.a,O J xc.b,O J xc.time,O J xc.bk,O J xc.slot] 34)) (.cells #[.bool false,O J t.f.c.kind,O J t.f.c.a,O J t.f.c.b,O J t.f.c.time,O J t.f.c.bk,O J t.f.c.slot,O J t.f.pl,O J t.f.cur,O J t.f.prev,O J t.f.slot,O J t.f.n,Y lt2.aK t.f.keys.length lt2.cK,.bool t.f.done,O J t.f.e,Y lt2.aH t.held.length lt2.cH] 49)).heap[w2.heap.size+1]?=some (.cells #[.bool false,O J t.f.c.kind,O J t.f.c.a,O J t.f.c.b,O J t.f.c.time,O J t.f.c.bk,O J t.f.c.slot,O J t.f.pl,O J t.f.cur,O J t.f.prev,O J t.f.slot,O J t.f.n,Y lt2.aK t.f.keys.length lt2.cK,.bool t.f.done,O J t.f.e,Y lt2.aH t.held.length lt2.cH] 49 (0,0))):=HT0
 have HX0:=heap_alloc_new (World.setCell w2 ⟨B1,0,none⟩ (Y (some ⟨g2,0,none⟩) (said.length+1) cap2)) (.cells #[O J tk,.bool true,.bool false,O J xc.kind,O J xc.a,O J xc.b,O J xc.time,O J xc.bk,O J xc.slot] 34)
 rw[show (World.setCell w2 ⟨B1,0,none⟩ (Y (some ⟨g2,0,none⟩) (said.length+1) cap2)).heap.size=w2.heap.size by simp] at HX0
 have HX3:Hid ((World.alloc (World.alloc (World.setCell w2 ⟨B1,0,none⟩ (Y (some ⟨g2,0,none⟩) (said.length+1) cap2)) (.cells #[O J tk,.bool true,.bool false,O J xc.kind,O J xc.a,O J xc.b,O J xc.time,O J xc.bk,O J xc.slot] 34)) (.cells #[.bool false,O J t.f.c.kind,O J t.f.c.a,O J t.f.c.b,O J t.f.c.time,O J t.f.c.bk,O J t.f.c.slot,O J t.f.pl,O J t.f.cur,O J t.f.prev,O J t.f.slot,O J t.f.n,Y lt2.aK t.f.keys.length lt2.cK,.bool t.f.done,O J t.f.e,Y lt2.aH t.held.length lt2.cH] 49)).heap[w2.heap.size]?=some (.cells #[O J tk,.bool true,.bool false,O J xc.kind,O J xc.a,O J xc.b,O J xc.time,O J xc.bk,O J xc.slot] 34 (0,0))):=((A7 _ _).block _ (lt_of_block HX0)).trans HX0
 have HC3:Hid (Cs lo a b (World.alloc (World.alloc (World.setCell w2 ⟨B1,0,none⟩ (Y (some ⟨g2,0,none⟩) (said.length+1) cap2)) (.cells #[O J tk,.bool true,.bool false,O J xc.kind,O J xc.a,O J xc.b,O J xc.time,O J xc.bk,O J xc.slot] 34)) (.cells #[.bool false,O J t.f.c.kind,O J t.f.c.a,O J t.f.c.b,O J t.f.c.time,O J t.f.c.bk,O J t.f.c.slot,O J t.f.pl,O J t.f.cur,O J t.f.prev,O J t.f.slot,O J t.f.n,Y lt2.aK t.f.keys.length lt2.cK,.bool t.f.done,O J t.f.e,Y lt2.aH t.held.length lt2.cH] 49)) B1 B2 B3 B4 g (Y (some ⟨g2,0,none⟩) (said.length+1) cap2) (Y (some ⟨bP,oP,none⟩) l.length cP) v4 (said ++ [0]) pl beg Z):=(HC1.out.1.below (A7 _ _)).below (A7 _ _)
 have HK3:Hid (Am (World.alloc (World.alloc (World.setCell w2 ⟨B1,0,none⟩ (Y (some ⟨g2,0,none⟩) (said.length+1) cap2)) (.cells #[O J tk,.bool true,.bool false,O J xc.kind,O J xc.a,O J xc.b,O J xc.time,O J xc.bk,O J xc.slot] 34)) (.cells #[.bool false,O J t.f.c.kind,O J t.f.c.a,O J t.f.c.b,O J t.f.c.time,O J t.f.c.bk,O J t.f.c.slot,O J t.f.pl,O J t.f.cur,O J t.f.prev,O J t.f.slot,O J t.f.n,Y lt2.aK t.f.keys.length lt2.cK,.bool t.f.done,O J t.f.e,Y lt2.aH t.held.length lt2.cH] 49)) lt2.aK lt2.cK t.f.keys):=hts2.out.below (A7 _ _)
 have hq:∀ o:Obj,Below lo w (World.alloc _ o):=fun o=>HB1.out.alloc (by have:=HB1.out.size;have:=Hlz.out;omega) o
 have HBl3:Hid (Below lo w (World.alloc (World.alloc (World.setCell w2 ⟨B1,0,none⟩ (Y (some ⟨g2,0,none⟩) (said.length+1) cap2)) (.cells #[O J tk,.bool true,.bool false,O J xc.kind,O J xc.a,O J xc.b,O J xc.time,O J xc.bk,O J xc.slot] 34)) (.cells #[.bool false,O J t.f.c.kind,O J t.f.c.a,O J t.f.c.b,O J t.f.c.time,O J t.f.c.bk,O J t.f.c.slot,O J t.f.pl,O J t.f.cur,O J t.f.prev,O J t.f.slot,O J t.f.n,Y lt2.aK t.f.keys.length lt2.cK,.bool t.f.done,O J t.f.e,Y lt2.aH t.held.length lt2.cH] 49))):=(hq _).alloc (by have:=(hq (.cells #[O J tk,.bool true,.bool false,O J xc.kind,O J xc.a,O J xc.b,O J xc.time,O J xc.bk,O J xc.slot] 34)).size;have:=Hlz.out;omega) _
 have Hwin3:Hid (∀ k,a<=k->k<b->(World.alloc (World.alloc (World.setCell w2 ⟨B1,0,none⟩ (Y (some ⟨g2,0,none⟩) (said.length+1) cap2)) (.cells #[O J tk,.bool true,.bool false,O J xc.kind,O J xc.a,O J xc.b,O J xc.time,O J xc.bk,O J xc.slot] 34)) (.cells #[.bool false,O J t.f.c.kind,O J t.f.c.a,O J t.f.c.b,O J t.f.c.time,O J t.f.c.bk,O J t.f.c.slot,O J t.f.pl,O J t.f.cur,O J t.f.prev,O J t.f.slot,O J t.f.n,Y lt2.aK t.f.keys.length lt2.cK,.bool t.f.done,O J t.f.e,Y lt2.aH t.held.length lt2.cH] 49)).heap[k]?=w.heap[k]?):=fun k h1 h2=>((A7 _ _).block k (by have:=HB1.out.size;have:=Hz.out;simp at *;omega)).trans (((A7 _ _).block k (by have:=HB1.out.size;have:=Hz.out;omega)).trans ((HC1.out.2 k h1 h2).trans ((A7 _ _).block k (by have:=Hz.out;omega))))
 clear HT0 HX0 hq HC1 Hrt Hrx1 HWn HZ3 HZ2 z0 z1 z2 z3 z4 z5 zs hts2 d1 e1 d2 e2 lB2 lB3 HB1
 clear HCell HY0 HW0
 generalize World.alloc (World.alloc (World.setCell w2 ⟨B1,0,none⟩ (Y (some ⟨g2,0,none⟩) (said.length+1) cap2)) (.cells #[O J tk,.bool true,.bool false,O J xc.kind,O J xc.a,O J xc.b,O J xc.time,O J xc.bk,O J xc.slot] 34)) (.cells #[.bool false,O J t.f.c.kind,O J t.f.c.a,O J t.f.c.b,O J t.f.c.time,O J t.f.c.bk,O J t.f.c.slot,O J t.f.pl,O J t.f.cur,O J t.f.prev,O J t.f.slot,O J t.f.n,Y lt2.aK t.f.keys.length lt2.cK,.bool t.f.done,O J t.f.e,Y lt2.aH t.held.length lt2.cH] 49)=W3 at *
 generalize w2.heap.size=X at *
 obtain⟨t0,t1,t2,t3,t4,t5,t6,t7,t8,t9,t10,t11,t12,t13,t14,t15,ts⟩:=a0a HT3.out
 have x0:W3.cell? ⟨X,0,none⟩=some (O J tk):=by rw[cell_of_block HX3.out];rfl
 have d3:=(Ar HC3.out.f).1
 have d4:=(Ar HC3.out.p).1
 have htb:tk<beg.length:=by omega
 have d5:=Cs.fat HC3.out htb
 obtain⟨a4,k4,rfl⟩:=Aq HC3.out.po
 obtain⟨j0,hj0,hr0,hr1,hr2⟩:=info_parts iP
 have HTo:Hid (∀ V:Wq,Below W3.heap.size W3 V->Calls Pg 81 #[.agg #[O J t.f.c.kind,O J t.f.c.a,O J t.f.c.b,O J t.f.c.time,O J t.f.c.bk,O J t.f.c.slot,O J t.f.pl,O J t.f.cur,O J t.f.prev,O J t.f.slot,O J t.f.n,Y lt2.aK t.f.keys.length lt2.cK,.bool t.f.done,O J t.f.e],O J tk,O J (beg.getD tk 0:Nat),O J i] V (b2v V t.f tk (beg.getD tk 0:Nat) i)):=fun V hb=>a9y t.f tk _ _ lt2.aK lt2.cK V (HK3.out.below hb)
 clear t15 t0
 refine Wi (by kernel_rfl) Le rfl [43,44,45,46,47,48,49,50,51,52,53,54,55] (by decide) 13 rfl rfl (by kernel_rfl) (by kernel_rfl) (by kernel_rfl) (b1n X (beg.getD tk 0) g tk i (Y a4 pl.length k4) (Y (some ⟨g,0,none⟩) beg.length beg.length) t.f lt2.aK lt2.cK W3.heap.size) a5l ?_ ?_
 ·intro k hk' x W hb hout hpre
  have HCw:=HC3.out.below hb
  have HTw:=(hb.block _ (lt_of_block HT3.out)).trans HT3.out
  have HXw:=(hb.block _ (lt_of_block HX3.out)).trans HX3.out
  have x0':x 0=O J i:=hout 0 (by decide)
  have x5:x 5=.pointer (some ⟨B3,0,none⟩):=hout 5 (by decide)
  have x6:x 6=.pointer (some ⟨B4,0,none⟩):=hout 6 (by decide)
  have x10:x 10=.pointer (some ⟨X,0,none⟩):=hout 10 (by decide)
  have x11:x 11=.pointer (some ⟨X+1,0,none⟩):=hout 11 (by decide)
  have q4:=(Ar HCw.p).1
  have q3:=(Ar HCw.f).1
  have q5:=Cs.fat HCw htb
  have qx:W.cell? ⟨X,0,none⟩=some (O J tk):=by rw[cell_of_block HXw];rfl
  obtain⟨u0,u1,u2,u3,u4,u5,u6,u7,u8,u9,u10,u11,u12,u13,u14,u15,us⟩:=a0a HTw
  obtain rfl|rfl|rfl|rfl|rfl|rfl|rfl|rfl|rfl|rfl|rfl|rfl|rfl:k=0\/k=1\/k=2\/k=3\/k=4\/k=5\/k=6\/k=7\/k=8\/k=9\/k=10\/k=11\/k=12:=by omega
  ·exact Ak rfl (Ai rfl) (v:=Gh X (beg.getD tk 0) g tk i (Y a4 pl.length k4) (Y (some ⟨g,0,none⟩) beg.length beg.length) t.f lt2.aK lt2.cK 0) (w':=W) (by simp[execOp,go_sem,Gh,(show (Le x).tmps[6]?.getD Uz=_ from x6),q4]) ⟨_,rfl,Gf (by decide) (by decide),Below.refl _ _⟩
  ·exact Ak rfl (Ai rfl) (v:=Gh X (beg.getD tk 0) g tk i (Y a4 pl.length k4) (Y (some ⟨g,0,none⟩) beg.length beg.length) t.f lt2.aK lt2.cK 1) (w':=W) (by simp[execOp,go_sem,Gh,(show (Le x).tmps[11]?.getD Uz=_ from x11),Addr.add]) ⟨_,rfl,Gf (by decide) (by decide),Below.refl _ _⟩
  ·have p1:=(hpre 1 (by omega) (by kernel_rfl)).1 (by decide) (by decide);simp only[Gh,List.getD_cons_zero,List.getD_cons_succ] at p1;exact Ak rfl (Ai rfl) (v:=Gh X (beg.getD tk 0) g tk i (Y a4 pl.length k4) (Y (some ⟨g,0,none⟩) beg.length beg.length) t.f lt2.aK lt2.cK 2) (w':=W) (by simp[execOp,go_sem,Gh,(show (Le x).tmps[44]?.getD Uz=_ from p1),u1,u2,u3,u4,u5,u6,u7,u8,u9,u10,u11,u12,u13,u14]) ⟨_,rfl,Gf (by decide) (by decide),Below.refl _ _⟩
  ·exact Ak rfl (Ai rfl) (v:=Gh X (beg.getD tk 0) g tk i (Y a4 pl.length k4) (Y (some ⟨g,0,none⟩) beg.length beg.length) t.f lt2.aK lt2.cK 3) (w':=W) (by simp[execOp,go_sem,Gh,(show (Le x).tmps[10]?.getD Uz=_ from x10),Addr.add]) ⟨_,rfl,Gf (by decide) (by decide),Below.refl _ _⟩
  ·have p3:=(hpre 3 (by omega) (by kernel_rfl)).1 (by decide) (by decide);simp only[Gh,List.getD_cons_zero,List.getD_cons_succ] at p3;exact Ak rfl (Ai rfl) (v:=Gh X (beg.getD tk 0) g tk i (Y a4 pl.length k4) (Y (some ⟨g,0,none⟩) beg.length beg.length) t.f lt2.aK lt2.cK 4) (w':=W) (by simp[execOp,go_sem,Gh,(show (Le x).tmps[46]?.getD Uz=_ from p3),qx]) ⟨_,rfl,Gf (by decide) (by decide),Below.refl _ _⟩
  ·exact Ak rfl (Ai rfl) (v:=Gh X (beg.getD tk 0) g tk i (Y a4 pl.length k4) (Y (some ⟨g,0,none⟩) beg.length beg.length) t.f lt2.aK lt2.cK 5) (w':=W) (by simp[execOp,go_sem,Gh,(show (Le x).tmps[5]?.getD Uz=_ from x5),q3]) ⟨_,rfl,Gf (by decide) (by decide),Below.refl _ _⟩
  ·exact Ak rfl (Ai rfl) (v:=Gh X (beg.getD tk 0) g tk i (Y a4 pl.length k4) (Y (some ⟨g,0,none⟩) beg.length beg.length) t.f lt2.aK lt2.cK 6) (w':=W) (by simp[execOp,go_sem,Gh,(show (Le x).tmps[10]?.getD Uz=_ from x10),Addr.add]) ⟨_,rfl,Gf (by decide) (by decide),Below.refl _ _⟩
  ·have p6:=(hpre 6 (by omega) (by kernel_rfl)).1 (by decide) (by decide);simp only[Gh,List.getD_cons_zero,List.getD_cons_succ] at p6;exact Ak rfl (Ai rfl) (v:=Gh X (beg.getD tk 0) g tk i (Y a4 pl.length k4) (Y (some ⟨g,0,none⟩) beg.length beg.length) t.f lt2.aK lt2.cK 7) (w':=W) (by simp[execOp,go_sem,Gh,(show (Le x).tmps[49]?.getD Uz=_ from p6),qx]) ⟨_,rfl,Gf (by decide) (by decide),Below.refl _ _⟩
  ·have p5:=(hpre 5 (by omega) (by kernel_rfl)).1 (by decide) (by decide);simp only[Gh,List.getD_cons_zero,List.getD_cons_succ] at p5;have p7:=(hpre 7 (by omega) (by kernel_rfl)).1 (by decide) (by decide);simp only[Gh,List.getD_cons_zero,List.getD_cons_succ] at p7;exact Ak rfl (Ai rfl) (v:=Gh X (beg.getD tk 0) g tk i (Y a4 pl.length k4) (Y (some ⟨g,0,none⟩) beg.length beg.length) t.f lt2.aK lt2.cK 8) (w':=W) (by simp[execOp,go_sem,Gh,(show (Le x).tmps[48]?.getD Uz=_ from p5),(show (Le x).tmps[50]?.getD Uz=_ from p7),htb,Addr.add];omega) ⟨_,rfl,Gf (by decide) (by decide),Below.refl _ _⟩
  ·have p8:=(hpre 8 (by omega) (by kernel_rfl)).1 (by decide) (by decide);simp only[Gh,List.getD_cons_zero,List.getD_cons_succ] at p8;exact Ak rfl (Ai rfl) (v:=Gh X (beg.getD tk 0) g tk i (Y a4 pl.length k4) (Y (some ⟨g,0,none⟩) beg.length beg.length) t.f lt2.aK lt2.cK 9) (w':=W) (by simp[execOp,go_sem,Gh,(show (Le x).tmps[51]?.getD Uz=_ from p8),q5]) ⟨_,rfl,Gf (by decide) (by decide),Below.refl _ _⟩
  ·exact Ak rfl (Ai rfl) (v:=Gh X (beg.getD tk 0) g tk i (Y a4 pl.length k4) (Y (some ⟨g,0,none⟩) beg.length beg.length) t.f lt2.aK lt2.cK 10) (w':=W) (by simp[execOp,go_sem,Gh,(show (Le x).tmps[0]?.getD Uz=_ from x0')]) ⟨_,rfl,Gf (by decide) (by decide),Below.refl _ _⟩
  ·have p2:=(hpre 2 (by omega) (by kernel_rfl)).1 (by decide) (by decide);simp only[Gh,List.getD_cons_zero,List.getD_cons_succ] at p2;have p4:=(hpre 4 (by omega) (by kernel_rfl)).1 (by decide) (by decide);simp only[Gh,List.getD_cons_zero,List.getD_cons_succ] at p4;have p9:=(hpre 9 (by omega) (by kernel_rfl)).1 (by decide) (by decide);simp only[Gh,List.getD_cons_zero,List.getD_cons_succ] at p9;have p10:=(hpre 10 (by omega) (by kernel_rfl)).1 (by decide) (by decide);simp only[Gh,List.getD_cons_zero,List.getD_cons_succ] at p10; 
   refine Qe rfl (Ai rfl) (f:=81) (args:=#[.agg #[O J t.f.c.kind,O J t.f.c.a,O J t.f.c.b,O J t.f.c.time,O J t.f.c.bk,O J t.f.c.slot,O J t.f.pl,O J t.f.cur,O J t.f.prev,O J t.f.slot,O J t.f.n,Y lt2.aK t.f.keys.length lt2.cK,.bool t.f.done,O J t.f.e],O J tk,O J (beg.getD tk 0:Nat),O J i]) (by simp[execOp,go_sem,(show (Le x).tmps[45]?.getD Uz=_ from p2),(show (Le x).tmps[47]?.getD Uz=_ from p4),(show (Le x).tmps[52]?.getD Uz=_ from p9),(show (Le x).tmps[53]?.getD Uz=_ from p10)]) ((HTo.out W hb).mono ?_)
   rintro e w4 ⟨a2,c2,rfl,ho4,hb4⟩
   exact⟨_,rfl,_,rfl,⟨fun h=>(h rfl).elim,fun _=>⟨a2,c2,rfl,ho4.le hb.size⟩,fun h=>absurd h (by decide)⟩,hb4⟩
  ·obtain⟨a2,c2,e11,hko⟩:=(hpre 11 (by omega) (by kernel_rfl)).2.1 rfl
   simp only[List.getD_cons_zero,List.getD_cons_succ] at e11
   refine Ak rfl (Ai rfl) (v:=Y (some ⟨W.heap.size,0,none⟩) 1 1) (w':=W.alloc (.cells #[O J tk,O J t.f.c.kind,O J t.f.c.a,O J t.f.c.b,O J t.f.c.time,O J t.f.c.bk,O J t.f.c.slot,O J (beg.getD tk 0:Nat),O J i,O J t.f.e,O J t.f.slot,O J t.f.n,Y a2 t.f.keys.length c2] 78)) (by simp[execOp,go_sem,(show (Le x).tmps[54]?.getD Uz=_ from e11)]) ⟨_,rfl,⟨fun _ h=>(h rfl).elim,fun h=>absurd h (by decide),fun _=>⟨a2,c2,W.heap.size,rfl,heap_alloc_new _ _,hko.below (A7 _ _)⟩⟩,A7 _ _⟩
 ·intro x W hb hout hφ
  have HCw:Hid _:=HC3.out.below hb
  have x6:x 6=.pointer (some ⟨B4,0,none⟩):=hout 6 (by decide)
  have p0:=(hφ 0 (by omega)).1 (by decide) (by decide)
  obtain⟨a2,c2,p,e12,hbk,hko⟩:=(hφ 12 (by omega)).2.2 rfl
  simp only[Gh,List.getD_cons_zero,List.getD_cons_succ] at p0 e12
  refine wpOp_step rfl fun K' hK=>?_
  refine Dt W rfl (.tmp 43) (.tmp 55) 69 rfl lo 78 j0 (.agg #[O J 0,O J 0,O J 0,O J 0,O J 0,O J 0,O J 0,O J 0,O J 0,O J 0,O J 0,O J 0,Y none 0 0]) 13 120 Tryz.underlying69 hj0 hr0 hr1 hr2 rfl (by decide) (Y a4 pl.length k4) _ _ (show x 43=_ from p0) HCw.out.po ⟨p,0,none⟩ 1 1 [O J tk,O J t.f.c.kind,O J t.f.c.a,O J t.f.c.b,O J t.f.c.time,O J t.f.c.bk,O J t.f.c.slot,O J (beg.getD tk 0:Nat),O J i,O J t.f.e,O J t.f.slot,O J t.f.n,Y a2 t.f.keys.length c2] (show x 55=_ from e12) rfl (Pe hbk) (by intro u hu;simp only[List.mem_cons,List.not_mem_nil,or_false] at hu;rcases hu with rfl|rfl|rfl|rfl|rfl|rfl|rfl|rfl|rfl|rfl|rfl|rfl|rfl <;> rfl) (by unfold maxLen;omega) (by omega) (by have:=Hlz.out;have:=HBl3.out.size;have:=hb.size;omega) ?_
  intro v5 w5 ho5 hg5 _ hloc5
  refine hK _ _ ?_
  obtain⟨g5,cap5,rfl⟩:=ownsRow_form ho5 (by omega)
  have HB5:w5.heap[B4]?=_:=(hg5.block _ (lt_of_block HCw.out.p) (fun e=>own_ne HCw.out.po HCw.out.p (by decide) e.symm)).trans HCw.out.p
  obtain⟨n1,n2,n3⟩:=Ar HB5
  have hlz3:lo<=W3.heap.size:=by have:=Hlz.out;have:=HBl3.out.size;omega
  have hbz:b<=W3.heap.size:=by have:=Hz.out;have:=HBl3.out.size;omega
  have HT:=Cs.tellW HCw.out (by have:=hb.size;omega) (v':=Y (some ⟨g5,0,none⟩) (pl.length+1) cap5) (q:=(⟨(tk:Int),t.f.c,beg.getD tk 0,i,t.f.e,t.f.slot,t.f.n,t.f.keys⟩,a2,c2)) (hko.le hlz3) (fun ad e hx=>by have:=(hko.lt ad e).1;have:=hx.2;omega) hg5 ho5 hloc5
  have HBf:Below lo w (w5.setCell ⟨B4,0,none⟩ (Y (some ⟨g5,0,none⟩) (pl.length+1) cap5)):=((HBl3.out.trans (hb.mono hlz3)).grown hg5 (by have:=hb.size;omega) (fun k hk=>(HCw.out.po.lt k hk).1)).setCell HCw.out.o4.1 _
  refine Je rfl (Ai rfl) (w':=w5.setCell ⟨B4,0,none⟩ (Y (some ⟨g5,0,none⟩) (pl.length+1) cap5)) (by simp[execOp,go_sem,Act.put,Le,x6,n1,n2]) ?_
  refine bodyPost_end (results_none rfl _ _ _) rfl ?_
  refine⟨_,_,_,rfl,HT.1,?_,HBf,fun k h1 h2=>(HT.2 k h1 h2).trans ((hb.block k (by omega)).trans (Hwin3.out k h1 h2))⟩
  rw[List.map_append]
  rfl
end
end Go.Proofs.YthhgoenomehobaaGreat.mm
