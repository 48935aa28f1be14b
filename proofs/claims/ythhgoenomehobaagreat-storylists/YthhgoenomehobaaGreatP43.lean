/- Parts. -/
import Derived.Test.YthhgoenomehobaaGreatP40
import Derived.Test.YthhgoenomehobaaGreatP04
import Derived.Test.YthhgoenomehobaaGreatP41
namespace Go.Proofs.YthhgoenomehobaaGreat.mm
set_option maxRecDepth 100000
set_option linter.unusedVariables false
open Go.Value renaming int → O, slice → Y
open Go.IntKind renaming i64 → J
section
open Go.ChangeShapes Go.WideShapes Go.ChangeAt Go.RowKit Go.Joins Go.Deep Go.Maps
section
variable {lo a b:Nat} {w w':World} {B1 B2 B3 B4 g:Nat} {v1 v2 v4:Value} {said:List Int} {pl:List (Pst × Option Addr × Nat)} {beg:List Nat} {Z:List (Nat × Array Value)}
theorem Cs.tellW(h:Cs lo a b w B1 B2 B3 B4 g v1 v2 v4 said pl beg Z)(hz:b<=w.heap.size){w1:World}{v':Value}{q:Pst × Option Addr × Nat}(hq:KOwn w lo q.2.1 q.2.2 q.1.keys)(hqx:∀ ad,q.2.1=some ad->Out a b ad.block)(hg:w.grownBy w1 v4.ownBlock)(ho:w1.ownsRow lo 78 13 v' (pl.length+1) (encP pl++q.1.enc q.2.1 q.2.2))(hl:v'.ownBlock=v4.ownBlock\/v'.ownBlock=some w.heap.size) :
  Cs lo a b (w1.setCell ⟨B4,0,none⟩ v') B1 B2 B3 B4 g v1 v2 v' said (pl ++ [q]) beg Z/\∀ k,a<=k->k<b->(w1.setCell ⟨B4,0,none⟩ v').heap[k]?=w.heap[k]?:=by
 have hk1:∀ k,k<w.heap.size->v4.ownBlock≠some k->w1.heap[k]?=w.heap[k]?:=fun k hk hn=>by
  exact hg.block k hk (fun e=>hn e.symm)
 have hk:∀ k,k<w.heap.size->v4.ownBlock≠some k->k≠B4->(w1.setCell ⟨B4,0,none⟩ v').heap[k]?=w.heap[k]?:=fun k hk hn hB=>by
  rw[Below.heap_setCell _ _ _ _ (by dsimp only;exact hB)]
  exact hk1 k hk hn
 have s1:w1.heap[B4]?=some (.cells #[v4] 69 (0,0)):=(hk1 B4 (lt_of_block h.p) (own_ne h.po h.p (by decide))).trans h.p
 have nb:∀ {X:Nat} {cs:Array Value} {t:TypeId},w.heap[X]?=some (.cells cs t (0,0))->t≠78->t≠69->(w1.setCell ⟨B4,0,none⟩ v').heap[X]?=some (.cells cs t (0,0)):=fun hX n1 n2=>by
  refine(hk _ (lt_of_block hX) (own_ne h.po hX (Ne.symm n1)) ?_).trans hX
  rintro rfl
  rw[h.p] at hX
  injection hX with hX
  injection hX with _ hX
  exact n2 hX.symm
 have nr:∀ {lo' size n:Nat} {t:TypeId} {u:Value} {xs:List Value},w.ownsRow lo' t size u n xs->t≠78->t≠69->(w1.setCell ⟨B4,0,none⟩ v').ownsRow lo' t size u n xs:=fun hu n1 n2=>by
  refine Cf hu fun k hu'=>hk k (hu.lt k hu').2 (fun hv=>H7 h.po hu (Ne.symm n1) k hv hu') ?_
  rintro rfl
  exact own_ne hu h.p n2 hu'
 refine⟨⟨nb h.s (by decide) (by decide),nr h.so (by decide) (by decide),h.sx,nb h.f (by decide) (by decide),nb h.fo (by decide) (by decide),h.fx,?_,?_,?_,?_,h.o1,h.o3,h.o4,h.og,nb h.x (by decide) (by decide),h.ox,fun q hq=>nb (h.z q hq) (by decide) (by decide)⟩,?_⟩
 ·have:=block_setCell (i:=0) s1 v'
  rw[this];rfl
 ·have:=Kq (j:=0) (x:=v') ho (own_ne ho s1 (by decide))
  rwa [show encP pl++q.1.enc q.2.1 q.2.2=encP (pl ++ [q]) by simp[encP],show pl.length+1=(pl ++ [q]).length by simp] at this
 ·intro k hk'
  rcases hl with hl|hl
  ·exact h.px k (hl ▸ hk')
  ·rw[hl] at hk'
   injection hk' with hk'
   intro hx
   have:=hx.2
   omega
 ·intro q' hq'
  rcases List.mem_append.1 hq' with hq'|hq'
  ·exact⟨⟨nr (h.pk q' hq').1.own (by decide) (by decide)⟩,(h.pk q' hq').2⟩
  ·rw[List.mem_singleton] at hq'
   subst hq'
   exact⟨⟨nr hq.own (by decide) (by decide)⟩,hqx⟩
 ·intro k h1 h2
  exact hk k (by omega) (fun e=>h.px k e ⟨h1,h2⟩) (fun e=>h.o4.2 (e ▸ ⟨h1,h2⟩))
end
theorem Nr{P:Program}{ops:Array Oper}{Q:Exit->Act->World->Prop}{i:Nat}{o:Oper}{a:Act}{w w':World}{K:Act->World->Prop}(hi:ops[i]?=some o)(hw:Region.wanted o (yielded ops a.tmps)=true)
  (hr:(execOp a.eval o).run P w=.ok .skip w') (h:K (a.put o.dst undef) w'):wpOp P ops Q i K a w:=by
 refine wpOp_step hi fun K' hK=>?_
 rw[if_pos hw]
 unfold Oper.wp
 rw[hr]
 exact hK _ _ h
def actL(x:Nat->Value):Act:=⟨#[x 0,x 1,x 2,x 3,x 4,x 5,x 6,x 7,x 8,x 9,x 10,x 11,x 12,x 13,x 14,x 15,x 16,x 17,x 18,x 19,x 20,x 21,x 22,x 23,x 24,x 25,x 26,x 27,x 28,x 29,x 30,x 31,x 32,x 33,x 34,x 35,x 36,x 37,x 38,x 39,x 40,x 41,x 42,x 43,x 44,x 45,x 46,x 47,x 48,x 49,x 50,x 51,x 52,x 53,x 54,x 55,x 56],[]⟩
def valL(X B g tk i:Nat)(v4 gs:Value)(f:Fr)(aK:Option Addr)(cK:Nat):Nat->Value
 | 0=>v4
 | 1=>.pointer (some ⟨X+1,1,none⟩)
 | 2=>.agg #[O J f.c.kind,O J f.c.a,O J f.c.b,O J f.c.time,O J f.c.bk,O J f.c.slot,O J f.pl,O J f.cur,O J f.prev,O J f.slot,O J f.n,Y aK f.keys.length cK,.bool f.done,O J f.e]
 | 3=>.pointer (some ⟨X,0,none⟩)
 | 4=>O J tk
 | 5=>gs
 | 6=>.pointer (some ⟨X,0,none⟩)
 | 7=>O J tk
 | 8=>.pointer (some ⟨g,tk,none⟩)
 | 9=>O J B
 | _=>O J i
def phiL(X B g tk i:Nat)(v4 gs:Value)(f:Fr)(aK:Option Addr)(cK base:Nat)(n:Nat)(v:Value)(W:World):Prop :=
 (n≠11->n≠12->v=valL X B g tk i v4 gs f aK cK n) /\
 (n=11->∃ a2 c2,v=.agg #[O J tk,O J f.c.kind,O J f.c.a,O J f.c.b,O J f.c.time,O J f.c.bk,O J f.c.slot,O J B,O J i,O J f.e,O J f.slot,O J f.n,Y a2 f.keys.length c2]/\KOwn W base a2 c2 f.keys) /\
 (n=12->∃ a2 c2 p,v=Y (some ⟨p,0,none⟩) 1 1/\W.heap[p]?=some (.cells #[O J tk,O J f.c.kind,O J f.c.a,O J f.c.b,O J f.c.time,O J f.c.bk,O J f.c.slot,O J B,O J i,O J f.e,O J f.slot,O J f.n,Y a2 f.keys.length c2] 78 (0,0))/\KOwn W base a2 c2 f.keys)
theorem a4a{X B g tk i:Nat}{v4 gs:Value}{f:Fr}{aK:Option Addr}{cK base:Nat}:∀ n v w w',phiL X B g tk i v4 gs f aK cK base n v w->Below w.heap.size w w'->phiL X B g tk i v4 gs f aK cK base n v w':=by
 rintro n v w w' ⟨h1,h2,h3⟩ hb
 refine⟨h1,fun h=>?_,fun h=>?_⟩
 ·obtain⟨a,k,e,r⟩:=h2 h
  exact⟨a,k,e,r.below hb⟩
 ·obtain⟨a,k,p,e,r,s⟩:=h3 h
  exact⟨a,k,p,e,(hb.block _ (lt_of_block r)).trans r,s.below hb⟩
theorem Ez{X B g tk i:Nat}{v4 gs:Value}{f:Fr}{aK:Option Addr}{cK base n:Nat}{W:World}(h1:n≠11)(h2:n≠12):phiL X B g tk i v4 gs f aK cK base n (valL X B g tk i v4 gs f aK cK n) W:=⟨fun _ _=>rfl,fun h=>(h1 h).elim,fun h=>(h2 h).elim⟩
theorem Ny{w:World}{p:Nat}{vs:List Value}{t:TypeId}(h:w.heap[p]?=some (.cells vs.toArray t (0,0))):∀ j u,vs[j]?=some u->w.cell? ((⟨p,0,none⟩:Addr).add j)=some u:=by
 intro j u hj
 rw[show ((⟨p,0,none⟩:Addr).add j)=⟨p,j,none⟩ by simp[Addr.add];omega,cell_of_block h]
 simpa using hj
set_option maxHeartbeats 4000000 in
theorem lit_over(lo a b:Nat)(w:World)(B1 B2 B3 B4 g:Nat)(aP:Option Addr)(cP:Nat)(l:List Pk)(v1 v4:Value)(said:List Int)(pl:List (Pst × Option Addr × Nat))(beg:List Nat)(Z:List (Nat × Array Value))(W:Wd)(v:Value)(i:Nat)(E:Int)
  (h:Cs lo a b w B1 B2 B3 B4 g v1 (Y aP l.length cP) v4 said pl beg Z) (hz:b<=w.heap.size) (hr:PRow w aP cP l) (hrl:∀ ad,aP=some ad->ad.block<lo) (hi:i<l.length) (hs:said.length<=300) (hps:pl.length<=300) (hW:WIn a b w v W) (hE:E=0) (hT:(l[i]'hi).tick=false) (hS:(l[i]'hi).step=true) (hk:0<=(l[i]'hi).task/\(l[i]'hi).task<W.ts.length) (hB:(W.ts.getD (l[i]'hi).task.toNat idle).busy=false) (hbl:beg.length=W.ts.length) :
  Calls Tryz.prog 80 #[O J i,v,O J E,.pointer (some ⟨B1,0,none⟩),.pointer (some ⟨B2,0,none⟩),.pointer (some ⟨B3,0,none⟩),.pointer (some ⟨B4,0,none⟩)] w (LitP lo a b w B1 B2 B3 B4 g (Y aP l.length cP) (said ++ [E]) ((pl.map (·.1)) ++ [overP i (l[i]'hi) (beg.getD (l[i]'hi).task.toNat 0) (W.ts.getD (l[i]'hi).task.toNat idle)]) beg Z):=by
 obtain⟨aS,aH,aF,aL,cS,cH,cF,cL,aT,cT,lt,rfl,-⟩:=hW w (fun _ _ _=>rfl)
 subst hE
 have hk0:(l[i]'hi).task.toNat<W.ts.length:=by omega
 obtain⟨-,-,hcT,pT,qT,rfl,-⟩:=Z5 (hW w fun _ _ _=>rfl) hk0
 clear hk0
 have b0:Below w.heap.size w (w.alloc (.cells #[Y aS W.m.slots.length cS,Y aH W.m.heads.length cH,Y aF W.m.free.length cF,Y aL W.m.locks.length cL,O J W.m.now,Y (some ⟨pT,qT,none⟩) W.ts.length cT] 28)):=Aa _ _
 have HC0:Hid (Cs lo a b (w.alloc (.cells #[Y aS W.m.slots.length cS,Y aH W.m.heads.length cH,Y aF W.m.free.length cF,Y aL W.m.locks.length cL,O J W.m.now,Y (some ⟨pT,qT,none⟩) W.ts.length cT] 28)) B1 B2 B3 B4 g v1 (Y aP l.length cP) v4 said pl beg Z):=h.below b0
 have HY0:Hid ((w.alloc (.cells #[Y aS W.m.slots.length cS,Y aH W.m.heads.length cH,Y aF W.m.free.length cF,Y aL W.m.locks.length cL,O J W.m.now,Y (some ⟨pT,qT,none⟩) W.ts.length cT] 28)).heap[w.heap.size]?=some (.cells #[Y aS W.m.slots.length cS,Y aH W.m.heads.length cH,Y aF W.m.free.length cF,Y aL W.m.locks.length cL,O J W.m.now,Y (some ⟨pT,qT,none⟩) W.ts.length cT] 28 (0,0))):=heap_alloc_new _ _
 have Hlz:Hid (lo<=w.heap.size):=by have:=h.o1.1;have:=lt_of_block h.s;show _<=_;omega
 have HW0:Hid (WIn a b w (.agg #[Y aS W.m.slots.length cS,Y aH W.m.heads.length cH,Y aF W.m.free.length cF,Y aL W.m.locks.length cL,O J W.m.now,Y (some ⟨pT,qT,none⟩) W.ts.length cT]) W):=hW
 have Hz:Hid (b<=w.heap.size):=hz
 rcases hr.at_ with hn|⟨bP,oP,rfl,hx⟩
 ·omega
 have hbl:bP<lo:=hrl _ rfl
 have Hrx:Hid (w.rangeAt bP (oP+i*9) [O J (l[i]).task,.bool (l[i]).step,.bool (l[i]).tick,O J ((l[i]).c).kind,O J ((l[i]).c).a,O J ((l[i]).c).b,O J ((l[i]).c).time,O J ((l[i]).c).bk,O J ((l[i]).c).slot]):=hx i hi
 have hmax:=hr.max
 have hle:=hr.le
 obtain⟨x,hxe⟩:∃ x,x=l[i]:=⟨_,rfl⟩
 have Hxe:Hid (x=l[i]):=hxe
 rw[<- hxe] at Hrx hT hS hk hB ⊢
 obtain⟨xt,xs,xk,xc⟩:=x
 dsimp only at Hrx hT hS hk hB ⊢
 subst hT hS
 obtain⟨tk,rfl⟩:∃ tk:Nat,xt=tk:=⟨xt.toNat,by omega⟩
 rw[Int.toNat_natCast] at hB ⊢
 have hk2:tk<W.ts.length:=by omega
 have l1w:B1<w.heap.size:=lt_of_block h.s
 obtain⟨t,hte⟩:∃ t,t=W.ts.getD tk idle:=⟨_,rfl⟩
 have Hte:Hid (t=W.ts.getD tk idle):=hte
 rw[<- hte] at hB ⊢
 clear hte
 have HCell:Hid (∀ j u,[Value.int .i64 0][j]?=some u->(((w.alloc (.cells #[Y aS W.m.slots.length cS,Y aH W.m.heads.length cH,Y aF W.m.free.length cF,Y aL W.m.locks.length cL,O J W.m.now,Y (some ⟨pT,qT,none⟩) W.ts.length cT] 28))).alloc (.cells #[O J 0] 36)).cell? ((⟨w.heap.size+1,0,none⟩:Addr).add j)=some u):=fun j u hu=>by
  have h1:=cell_one_new (w.alloc (.cells #[Y aS W.m.slots.length cS,Y aH W.m.heads.length cH,Y aF W.m.free.length cF,Y aL W.m.locks.length cL,O J W.m.now,Y (some ⟨pT,qT,none⟩) W.ts.length cT] 28)) (O J 0) 36 j u hu
  rwa [show (w.alloc (.cells #[Y aS W.m.slots.length cS,Y aH W.m.heads.length cH,Y aF W.m.free.length cF,Y aL W.m.locks.length cL,O J W.m.now,Y (some ⟨pT,qT,none⟩) W.ts.length cT] 28)).heap.size=w.heap.size+1 by simp] at h1
 obtain⟨i0,hi0,hq0,hq1,hq2⟩:=info_parts iE
 obtain⟨a1,k1,rfl⟩:=Cb HC0.out.so
 have HO:Hid ((w.alloc (.cells #[Y aS W.m.slots.length cS,Y aH W.m.heads.length cH,Y aF W.m.free.length cF,Y aL W.m.locks.length cL,O J W.m.now,Y (some ⟨pT,qT,none⟩) W.ts.length cT] 28)).ownsRow lo 36 1 (Y a1 said.length k1) said.length (encI said)):=HC0.out.so
 have HBw:Hid (∀ (w2:World) (o:Obj) (v':Value),((w.alloc (.cells #[Y aS W.m.slots.length cS,Y aH W.m.heads.length cH,Y aF W.m.free.length cF,Y aL W.m.locks.length cL,O J W.m.now,Y (some ⟨pT,qT,none⟩) W.ts.length cT] 28)).alloc o).grownBy w2 (Value.slice a1 said.length k1).ownBlock->Below lo w (w2.setCell ⟨B1,0,none⟩ v')):=fun w2 o v' hg=>Gn ((Below.mono (Aa w _) Hlz.out)) hg (fun k hk=>(HO.out.lt k hk).1) (by have:=Hlz.out;simp;omega) HC0.out.o1.1
 obtain⟨c1,f1,l1⟩:=Aj HC0.out.s
 clear h hW hr b0 hrl hx hz hxe
 go_enter Tryz.func80,Tryz.ntmps80
 go_wp2_with (first|(at_builtin;go_loud (refine wpList_append_own_at _ rfl (.tmp 12) (.tmp 14) 68 rfl lo 36 i0 (O J 0) 1 8 Tryz.underlying68 hi0 hq0 hq1 hq2 rfl (by decide) _ _ _ rfl (HO.out.alloc _) ⟨w.heap.size+1,0,none⟩ 1 1 [O J 0] rfl rfl HCell.out (by intro u hu;simp at hu;subst hu;rfl) (by unfold maxLen;omega) (by omega) (by have:=Hlz.out;simp;omega) ?_;intro v2 w2 ho2 hg2 _ hloc2;obtain⟨g2,cap2,rfl⟩:=ownsRow_form ho2 (by omega);have HC1:Hid _:=Cs.say HC0.out (by have:=Hz.out;simp;omega) hg2 ho2 hloc2;obtain⟨d1,e1,lB2⟩:=Aj (Dn HC0.out.s hg2 (own_ne HO.out HC0.out.s (by decide)));have HB1:Hid _:=HBw.out _ _ (Y (some ⟨g2,0,none⟩) (said.length+1) cap2) hg2;obtain⟨d2,e2,lB3⟩:=Aj HC1.out.1.x;have Hrx1:Hid _:=Dc Hrx.out HB1.out hbl;have HZ2:Hid _:=Dn HY0.out hg2 (own_ne HO.out HY0.out (by decide));have hz2:=lt_of_block HZ2.out;have HZ3:Hid ((World.heap (World.alloc (World.setCell w2 ⟨B1,0,none⟩ (Y (some ⟨g2,0,none⟩) (said.length+1) cap2)) (.cells #[O J tk,.bool true,.bool false,O J xc.kind,O J xc.a,O J xc.b,O J xc.time,O J xc.bk,O J xc.slot] 34)))[w.heap.size]?=some (.cells #[Y aS W.m.slots.length cS,Y aH W.m.heads.length cH,Y aF W.m.free.length cF,Y aL W.m.locks.length cL,O J W.m.now,Y (some ⟨pT,qT,none⟩) W.ts.length cT] 28 (0,0))):=((Aa _ _).block _ (by first|(simp;done)|(simp;omega)|(have:=HB1.out.size;omega))).trans ((Below.heap_setCell _ _ _ _ (by dsimp only;omega)).trans HZ2.out);obtain⟨z0,z1,z2,z3,z4,z5,zs⟩:=Df HZ3.out;have HWn:Hid _:=HW0.out (World.alloc (World.setCell w2 ⟨B1,0,none⟩ (Y (some ⟨g2,0,none⟩) (said.length+1) cap2)) (.cells #[O J tk,.bool true,.bool false,O J xc.kind,O J xc.a,O J xc.b,O J xc.time,O J xc.bk,O J xc.slot] 34)) (fun k h1 h2=>((Aa _ _).block k (by have:=HB1.out.size;have:=Hz.out;omega)).trans ((HC1.out.2 k h1 h2).trans ((Aa _ _).block k (by have:=Hz.out;omega))));obtain⟨lt2,hts2,ht2,p2,q2,hpT,Hrt⟩:=Z5 HWn.out hk2;cases hpT;rw[<- Hte.out] at Hrt hts2;clear c1 f1 l1 ho2 hg2 hloc2 HC0 HO HBw))|refine wl_X (x0:=⟨(tk:Int),true,false,xc⟩) rfl _ rfl rfl Hrx1.out ?_|refine wl_T rfl _ rfl rfl Hrt.out ?_)
 have HT0:=heap_alloc_new (World.alloc (World.setCell w2 ⟨B1,0,none⟩ (Y (some ⟨g2,0,none⟩) (said.length+1) cap2)) (.cells #[O J tk,.bool true,.bool false,O J xc.kind,O J xc.a,O J xc.b,O J xc.time,O J xc.bk,O J xc.slot] 34)) (.cells #[.bool false,O J t.f.c.kind,O J t.f.c.a,O J t.f.c.b,O J t.f.c.time,O J t.f.c.bk,O J t.f.c.slot,O J t.f.pl,O J t.f.cur,O J t.f.prev,O J t.f.slot,O J t.f.n,Y lt2.aK t.f.keys.length lt2.cK,.bool t.f.done,O J t.f.e,Y lt2.aH t.held.length lt2.cH] 49)
 rw[show (World.alloc (World.setCell w2 ⟨B1,0,none⟩ (Y (some ⟨g2,0,none⟩) (said.length+1) cap2)) (.cells #[O J tk,.bool true,.bool false,O J xc.kind,O J xc.a,O J xc.b,O J xc.time,O J xc.bk,O J xc.slot] 34)).heap.size=w2.heap.size+1 by simp] at HT0
 have HT3:Hid ((World.alloc (World.alloc (World.setCell w2 ⟨B1,0,none⟩ (Y (some ⟨g2,0,none⟩) (said.length+1) cap2)) (.cells #[O J tk,.bool true,.bool false,O J xc.kind,O J xc.a,O J xc.b,O J xc.time,O J xc.bk,O J xc.slot] 34)) (.cells #[.bool false,O J t.f.c.kind,O J t.f.c.a,O J t.f.c.b,O J t.f.c.time,O J t.f.c.bk,O J t.f.c.slot,O J t.f.pl,O J t.f.cur,O J t.f.prev,O J t.f.slot,O J t.f.n,Y lt2.aK t.f.keys.length lt2.cK,.bool t.f.done,O J t.f.e,Y lt2.aH t.held.length lt2.cH] 49)).heap[w2.heap.size+1]?=some (.cells #[.bool false,O J t.f.c.kind,O J t.f.c.a,O J t.f.c.b,O J t.f.c.time,O J t.f.c.bk,O J t.f.c.slot,O J t.f.pl,O J t.f.cur,O J t.f.prev,O J t.f.slot,O J t.f.n,Y lt2.aK t.f.keys.length lt2.cK,.bool t.f.done,O J t.f.e,Y lt2.aH t.held.length lt2.cH] 49 (0,0))):=HT0
 have HX0:=heap_alloc_new (World.setCell w2 ⟨B1,0,none⟩ (Y (some ⟨g2,0,none⟩) (said.length+1) cap2)) (.cells #[O J tk,.bool true,.bool false,O J xc.kind,O J xc.a,O J xc.b,O J xc.time,O J xc.bk,O J xc.slot] 34)
 rw[show (World.setCell w2 ⟨B1,0,none⟩ (Y (some ⟨g2,0,none⟩) (said.length+1) cap2)).heap.size=w2.heap.size by simp] at HX0
 have HX3:Hid ((World.alloc (World.alloc (World.setCell w2 ⟨B1,0,none⟩ (Y (some ⟨g2,0,none⟩) (said.length+1) cap2)) (.cells #[O J tk,.bool true,.bool false,O J xc.kind,O J xc.a,O J xc.b,O J xc.time,O J xc.bk,O J xc.slot] 34)) (.cells #[.bool false,O J t.f.c.kind,O J t.f.c.a,O J t.f.c.b,O J t.f.c.time,O J t.f.c.bk,O J t.f.c.slot,O J t.f.pl,O J t.f.cur,O J t.f.prev,O J t.f.slot,O J t.f.n,Y lt2.aK t.f.keys.length lt2.cK,.bool t.f.done,O J t.f.e,Y lt2.aH t.held.length lt2.cH] 49)).heap[w2.heap.size]?=some (.cells #[O J tk,.bool true,.bool false,O J xc.kind,O J xc.a,O J xc.b,O J xc.time,O J xc.bk,O J xc.slot] 34 (0,0))):=((Aa _ _).block _ (lt_of_block HX0)).trans HX0
 have HC3:Hid (Cs lo a b (World.alloc (World.alloc (World.setCell w2 ⟨B1,0,none⟩ (Y (some ⟨g2,0,none⟩) (said.length+1) cap2)) (.cells #[O J tk,.bool true,.bool false,O J xc.kind,O J xc.a,O J xc.b,O J xc.time,O J xc.bk,O J xc.slot] 34)) (.cells #[.bool false,O J t.f.c.kind,O J t.f.c.a,O J t.f.c.b,O J t.f.c.time,O J t.f.c.bk,O J t.f.c.slot,O J t.f.pl,O J t.f.cur,O J t.f.prev,O J t.f.slot,O J t.f.n,Y lt2.aK t.f.keys.length lt2.cK,.bool t.f.done,O J t.f.e,Y lt2.aH t.held.length lt2.cH] 49)) B1 B2 B3 B4 g (Y (some ⟨g2,0,none⟩) (said.length+1) cap2) (Y (some ⟨bP,oP,none⟩) l.length cP) v4 (said ++ [0]) pl beg Z):=(HC1.out.1.below (Aa _ _)).below (Aa _ _)
 have HK3:Hid (KRow (World.alloc (World.alloc (World.setCell w2 ⟨B1,0,none⟩ (Y (some ⟨g2,0,none⟩) (said.length+1) cap2)) (.cells #[O J tk,.bool true,.bool false,O J xc.kind,O J xc.a,O J xc.b,O J xc.time,O J xc.bk,O J xc.slot] 34)) (.cells #[.bool false,O J t.f.c.kind,O J t.f.c.a,O J t.f.c.b,O J t.f.c.time,O J t.f.c.bk,O J t.f.c.slot,O J t.f.pl,O J t.f.cur,O J t.f.prev,O J t.f.slot,O J t.f.n,Y lt2.aK t.f.keys.length lt2.cK,.bool t.f.done,O J t.f.e,Y lt2.aH t.held.length lt2.cH] 49)) lt2.aK lt2.cK t.f.keys):=hts2.out.below (Aa _ _)
 have hq:∀ o:Obj,Below lo w (World.alloc _ o):=fun o=>HB1.out.alloc (by have:=HB1.out.size;have:=Hlz.out;omega) o
 have HBl3:Hid (Below lo w (World.alloc (World.alloc (World.setCell w2 ⟨B1,0,none⟩ (Y (some ⟨g2,0,none⟩) (said.length+1) cap2)) (.cells #[O J tk,.bool true,.bool false,O J xc.kind,O J xc.a,O J xc.b,O J xc.time,O J xc.bk,O J xc.slot] 34)) (.cells #[.bool false,O J t.f.c.kind,O J t.f.c.a,O J t.f.c.b,O J t.f.c.time,O J t.f.c.bk,O J t.f.c.slot,O J t.f.pl,O J t.f.cur,O J t.f.prev,O J t.f.slot,O J t.f.n,Y lt2.aK t.f.keys.length lt2.cK,.bool t.f.done,O J t.f.e,Y lt2.aH t.held.length lt2.cH] 49))):=(hq _).alloc (by have:=(hq (.cells #[O J tk,.bool true,.bool false,O J xc.kind,O J xc.a,O J xc.b,O J xc.time,O J xc.bk,O J xc.slot] 34)).size;have:=Hlz.out;omega) _
 have Hwin3:Hid (∀ k,a<=k->k<b->(World.alloc (World.alloc (World.setCell w2 ⟨B1,0,none⟩ (Y (some ⟨g2,0,none⟩) (said.length+1) cap2)) (.cells #[O J tk,.bool true,.bool false,O J xc.kind,O J xc.a,O J xc.b,O J xc.time,O J xc.bk,O J xc.slot] 34)) (.cells #[.bool false,O J t.f.c.kind,O J t.f.c.a,O J t.f.c.b,O J t.f.c.time,O J t.f.c.bk,O J t.f.c.slot,O J t.f.pl,O J t.f.cur,O J t.f.prev,O J t.f.slot,O J t.f.n,Y lt2.aK t.f.keys.length lt2.cK,.bool t.f.done,O J t.f.e,Y lt2.aH t.held.length lt2.cH] 49)).heap[k]?=w.heap[k]?):=fun k h1 h2=>((Aa _ _).block k (by have:=HB1.out.size;have:=Hz.out;simp at *;omega)).trans (((Aa _ _).block k (by have:=HB1.out.size;have:=Hz.out;omega)).trans ((HC1.out.2 k h1 h2).trans ((Aa _ _).block k (by have:=Hz.out;omega))))
 clear HT0 HX0 hq HC1 Hrt Hrx1 HWn HZ3 HZ2 z0 z1 z2 z3 z4 z5 zs hts2 d1 e1 d2 e2 lB2 lB3 HB1
 clear HCell HY0 HW0
 generalize World.alloc (World.alloc (World.setCell w2 ⟨B1,0,none⟩ (Y (some ⟨g2,0,none⟩) (said.length+1) cap2)) (.cells #[O J tk,.bool true,.bool false,O J xc.kind,O J xc.a,O J xc.b,O J xc.time,O J xc.bk,O J xc.slot] 34)) (.cells #[.bool false,O J t.f.c.kind,O J t.f.c.a,O J t.f.c.b,O J t.f.c.time,O J t.f.c.bk,O J t.f.c.slot,O J t.f.pl,O J t.f.cur,O J t.f.prev,O J t.f.slot,O J t.f.n,Y lt2.aK t.f.keys.length lt2.cK,.bool t.f.done,O J t.f.e,Y lt2.aH t.held.length lt2.cH] 49)=W3 at *
 generalize w2.heap.size=X at *
 obtain⟨t0,t1,t2,t3,t4,t5,t6,t7,t8,t9,t10,t11,t12,t13,t14,t15,ts⟩:=taskf HT3.out
 have x0:W3.cell? ⟨X,0,none⟩=some (O J tk):=by rw[cell_of_block HX3.out];rfl
 have d3:=(Aj HC3.out.f).1
 have d4:=(Aj HC3.out.p).1
 have htb:tk<beg.length:=by omega
 have d5:=Cs.fat HC3.out htb
 obtain⟨a4,k4,rfl⟩:=Cb HC3.out.po
 obtain⟨j0,hj0,hr0,hr1,hr2⟩:=info_parts iP
 have HTo:Hid (∀ V:World,Below W3.heap.size W3 V->Calls Tryz.prog 81 #[.agg #[O J t.f.c.kind,O J t.f.c.a,O J t.f.c.b,O J t.f.c.time,O J t.f.c.bk,O J t.f.c.slot,O J t.f.pl,O J t.f.cur,O J t.f.prev,O J t.f.slot,O J t.f.n,Y lt2.aK t.f.keys.length lt2.cK,.bool t.f.done,O J t.f.e],O J tk,O J (beg.getD tk 0:Nat),O J i] V (ToldP V t.f tk (beg.getD tk 0:Nat) i)):=fun V hb=>told_any t.f tk _ _ lt2.aK lt2.cK V (HK3.out.below hb)
 clear t15 t0
 refine Rz (by kernel_rfl) actL rfl [43,44,45,46,47,48,49,50,51,52,53,54,55] (by decide) 13 rfl rfl (by kernel_rfl) (by kernel_rfl) (by kernel_rfl) (phiL X (beg.getD tk 0) g tk i (Y a4 pl.length k4) (Y (some ⟨g,0,none⟩) beg.length beg.length) t.f lt2.aK lt2.cK W3.heap.size) a4a ?_ ?_
 ·intro k hk' x W hb hout hpre
  have HCw:=HC3.out.below hb
  have HTw:=(hb.block _ (lt_of_block HT3.out)).trans HT3.out
  have HXw:=(hb.block _ (lt_of_block HX3.out)).trans HX3.out
  have x0':x 0=O J i:=hout 0 (by decide)
  have x5:x 5=.pointer (some ⟨B3,0,none⟩):=hout 5 (by decide)
  have x6:x 6=.pointer (some ⟨B4,0,none⟩):=hout 6 (by decide)
  have x10:x 10=.pointer (some ⟨X,0,none⟩):=hout 10 (by decide)
  have x11:x 11=.pointer (some ⟨X+1,0,none⟩):=hout 11 (by decide)
  have q4:=(Aj HCw.p).1
  have q3:=(Aj HCw.f).1
  have q5:=Cs.fat HCw htb
  have qx:W.cell? ⟨X,0,none⟩=some (O J tk):=by rw[cell_of_block HXw];rfl
  obtain⟨u0,u1,u2,u3,u4,u5,u6,u7,u8,u9,u10,u11,u12,u13,u14,u15,us⟩:=taskf HTw
  obtain rfl|rfl|rfl|rfl|rfl|rfl|rfl|rfl|rfl|rfl|rfl|rfl|rfl:k=0\/k=1\/k=2\/k=3\/k=4\/k=5\/k=6\/k=7\/k=8\/k=9\/k=10\/k=11\/k=12:=by omega
  ·exact Ap rfl (Ae rfl) (v:=valL X (beg.getD tk 0) g tk i (Y a4 pl.length k4) (Y (some ⟨g,0,none⟩) beg.length beg.length) t.f lt2.aK lt2.cK 0) (w':=W) (by simp[execOp,go_sem,valL,(show (actL x).tmps[6]?.getD undef=_ from x6),q4]) ⟨_,rfl,Ez (by decide) (by decide),Below.refl _ _⟩
  ·exact Ap rfl (Ae rfl) (v:=valL X (beg.getD tk 0) g tk i (Y a4 pl.length k4) (Y (some ⟨g,0,none⟩) beg.length beg.length) t.f lt2.aK lt2.cK 1) (w':=W) (by simp[execOp,go_sem,valL,(show (actL x).tmps[11]?.getD undef=_ from x11),Addr.add]) ⟨_,rfl,Ez (by decide) (by decide),Below.refl _ _⟩
  ·have p1:=(hpre 1 (by omega) (by kernel_rfl)).1 (by decide) (by decide);simp only[valL,List.getD_cons_zero,List.getD_cons_succ] at p1;exact Ap rfl (Ae rfl) (v:=valL X (beg.getD tk 0) g tk i (Y a4 pl.length k4) (Y (some ⟨g,0,none⟩) beg.length beg.length) t.f lt2.aK lt2.cK 2) (w':=W) (by simp[execOp,go_sem,valL,(show (actL x).tmps[44]?.getD undef=_ from p1),u1,u2,u3,u4,u5,u6,u7,u8,u9,u10,u11,u12,u13,u14]) ⟨_,rfl,Ez (by decide) (by decide),Below.refl _ _⟩
  ·exact Ap rfl (Ae rfl) (v:=valL X (beg.getD tk 0) g tk i (Y a4 pl.length k4) (Y (some ⟨g,0,none⟩) beg.length beg.length) t.f lt2.aK lt2.cK 3) (w':=W) (by simp[execOp,go_sem,valL,(show (actL x).tmps[10]?.getD undef=_ from x10),Addr.add]) ⟨_,rfl,Ez (by decide) (by decide),Below.refl _ _⟩
  ·have p3:=(hpre 3 (by omega) (by kernel_rfl)).1 (by decide) (by decide);simp only[valL,List.getD_cons_zero,List.getD_cons_succ] at p3;exact Ap rfl (Ae rfl) (v:=valL X (beg.getD tk 0) g tk i (Y a4 pl.length k4) (Y (some ⟨g,0,none⟩) beg.length beg.length) t.f lt2.aK lt2.cK 4) (w':=W) (by simp[execOp,go_sem,valL,(show (actL x).tmps[46]?.getD undef=_ from p3),qx]) ⟨_,rfl,Ez (by decide) (by decide),Below.refl _ _⟩
  ·exact Ap rfl (Ae rfl) (v:=valL X (beg.getD tk 0) g tk i (Y a4 pl.length k4) (Y (some ⟨g,0,none⟩) beg.length beg.length) t.f lt2.aK lt2.cK 5) (w':=W) (by simp[execOp,go_sem,valL,(show (actL x).tmps[5]?.getD undef=_ from x5),q3]) ⟨_,rfl,Ez (by decide) (by decide),Below.refl _ _⟩
  ·exact Ap rfl (Ae rfl) (v:=valL X (beg.getD tk 0) g tk i (Y a4 pl.length k4) (Y (some ⟨g,0,none⟩) beg.length beg.length) t.f lt2.aK lt2.cK 6) (w':=W) (by simp[execOp,go_sem,valL,(show (actL x).tmps[10]?.getD undef=_ from x10),Addr.add]) ⟨_,rfl,Ez (by decide) (by decide),Below.refl _ _⟩
  ·have p6:=(hpre 6 (by omega) (by kernel_rfl)).1 (by decide) (by decide);simp only[valL,List.getD_cons_zero,List.getD_cons_succ] at p6;exact Ap rfl (Ae rfl) (v:=valL X (beg.getD tk 0) g tk i (Y a4 pl.length k4) (Y (some ⟨g,0,none⟩) beg.length beg.length) t.f lt2.aK lt2.cK 7) (w':=W) (by simp[execOp,go_sem,valL,(show (actL x).tmps[49]?.getD undef=_ from p6),qx]) ⟨_,rfl,Ez (by decide) (by decide),Below.refl _ _⟩
  ·have p5:=(hpre 5 (by omega) (by kernel_rfl)).1 (by decide) (by decide);simp only[valL,List.getD_cons_zero,List.getD_cons_succ] at p5;have p7:=(hpre 7 (by omega) (by kernel_rfl)).1 (by decide) (by decide);simp only[valL,List.getD_cons_zero,List.getD_cons_succ] at p7;exact Ap rfl (Ae rfl) (v:=valL X (beg.getD tk 0) g tk i (Y a4 pl.length k4) (Y (some ⟨g,0,none⟩) beg.length beg.length) t.f lt2.aK lt2.cK 8) (w':=W) (by simp[execOp,go_sem,valL,(show (actL x).tmps[48]?.getD undef=_ from p5),(show (actL x).tmps[50]?.getD undef=_ from p7),htb,Addr.add];omega) ⟨_,rfl,Ez (by decide) (by decide),Below.refl _ _⟩
  ·have p8:=(hpre 8 (by omega) (by kernel_rfl)).1 (by decide) (by decide);simp only[valL,List.getD_cons_zero,List.getD_cons_succ] at p8;exact Ap rfl (Ae rfl) (v:=valL X (beg.getD tk 0) g tk i (Y a4 pl.length k4) (Y (some ⟨g,0,none⟩) beg.length beg.length) t.f lt2.aK lt2.cK 9) (w':=W) (by simp[execOp,go_sem,valL,(show (actL x).tmps[51]?.getD undef=_ from p8),q5]) ⟨_,rfl,Ez (by decide) (by decide),Below.refl _ _⟩
  ·exact Ap rfl (Ae rfl) (v:=valL X (beg.getD tk 0) g tk i (Y a4 pl.length k4) (Y (some ⟨g,0,none⟩) beg.length beg.length) t.f lt2.aK lt2.cK 10) (w':=W) (by simp[execOp,go_sem,valL,(show (actL x).tmps[0]?.getD undef=_ from x0')]) ⟨_,rfl,Ez (by decide) (by decide),Below.refl _ _⟩
  ·have p2:=(hpre 2 (by omega) (by kernel_rfl)).1 (by decide) (by decide);simp only[valL,List.getD_cons_zero,List.getD_cons_succ] at p2;have p4:=(hpre 4 (by omega) (by kernel_rfl)).1 (by decide) (by decide);simp only[valL,List.getD_cons_zero,List.getD_cons_succ] at p4;have p9:=(hpre 9 (by omega) (by kernel_rfl)).1 (by decide) (by decide);simp only[valL,List.getD_cons_zero,List.getD_cons_succ] at p9;have p10:=(hpre 10 (by omega) (by kernel_rfl)).1 (by decide) (by decide);simp only[valL,List.getD_cons_zero,List.getD_cons_succ] at p10; 
   refine a0x rfl (Ae rfl) (f:=81) (args:=#[.agg #[O J t.f.c.kind,O J t.f.c.a,O J t.f.c.b,O J t.f.c.time,O J t.f.c.bk,O J t.f.c.slot,O J t.f.pl,O J t.f.cur,O J t.f.prev,O J t.f.slot,O J t.f.n,Y lt2.aK t.f.keys.length lt2.cK,.bool t.f.done,O J t.f.e],O J tk,O J (beg.getD tk 0:Nat),O J i]) (by simp[execOp,go_sem,(show (actL x).tmps[45]?.getD undef=_ from p2),(show (actL x).tmps[47]?.getD undef=_ from p4),(show (actL x).tmps[52]?.getD undef=_ from p9),(show (actL x).tmps[53]?.getD undef=_ from p10)]) ((HTo.out W hb).mono ?_)
   rintro e w4 ⟨a2,c2,rfl,ho4,hb4⟩
   exact⟨_,rfl,_,rfl,⟨fun h=>(h rfl).elim,fun _=>⟨a2,c2,rfl,ho4.le hb.size⟩,fun h=>absurd h (by decide)⟩,hb4⟩
  ·obtain⟨a2,c2,e11,hko⟩:=(hpre 11 (by omega) (by kernel_rfl)).2.1 rfl
   simp only[List.getD_cons_zero,List.getD_cons_succ] at e11
   refine Ap rfl (Ae rfl) (v:=Y (some ⟨W.heap.size,0,none⟩) 1 1) (w':=W.alloc (.cells #[O J tk,O J t.f.c.kind,O J t.f.c.a,O J t.f.c.b,O J t.f.c.time,O J t.f.c.bk,O J t.f.c.slot,O J (beg.getD tk 0:Nat),O J i,O J t.f.e,O J t.f.slot,O J t.f.n,Y a2 t.f.keys.length c2] 78)) (by simp[execOp,go_sem,(show (actL x).tmps[54]?.getD undef=_ from e11)]) ⟨_,rfl,⟨fun _ h=>(h rfl).elim,fun h=>absurd h (by decide),fun _=>⟨a2,c2,W.heap.size,rfl,heap_alloc_new _ _,hko.below (Aa _ _)⟩⟩,Aa _ _⟩
 ·intro x W hb hout hφ
  have HCw:Hid _:=HC3.out.below hb
  have x6:x 6=.pointer (some ⟨B4,0,none⟩):=hout 6 (by decide)
  have p0:=(hφ 0 (by omega)).1 (by decide) (by decide)
  obtain⟨a2,c2,p,e12,hbk,hko⟩:=(hφ 12 (by omega)).2.2 rfl
  simp only[valL,List.getD_cons_zero,List.getD_cons_succ] at p0 e12
  refine wpOp_step rfl fun K' hK=>?_
  refine Fb W rfl (.tmp 43) (.tmp 55) 69 rfl lo 78 j0 (.agg #[O J 0,O J 0,O J 0,O J 0,O J 0,O J 0,O J 0,O J 0,O J 0,O J 0,O J 0,O J 0,Y none 0 0]) 13 120 Tryz.underlying69 hj0 hr0 hr1 hr2 rfl (by decide) (Y a4 pl.length k4) _ _ (show x 43=_ from p0) HCw.out.po ⟨p,0,none⟩ 1 1 [O J tk,O J t.f.c.kind,O J t.f.c.a,O J t.f.c.b,O J t.f.c.time,O J t.f.c.bk,O J t.f.c.slot,O J (beg.getD tk 0:Nat),O J i,O J t.f.e,O J t.f.slot,O J t.f.n,Y a2 t.f.keys.length c2] (show x 55=_ from e12) rfl (Ny hbk) (by intro u hu;simp only[List.mem_cons,List.not_mem_nil,or_false] at hu;rcases hu with rfl|rfl|rfl|rfl|rfl|rfl|rfl|rfl|rfl|rfl|rfl|rfl|rfl <;> rfl) (by unfold maxLen;omega) (by omega) (by have:=Hlz.out;have:=HBl3.out.size;have:=hb.size;omega) ?_
  intro v5 w5 ho5 hg5 _ hloc5
  refine hK _ _ ?_
  obtain⟨g5,cap5,rfl⟩:=ownsRow_form ho5 (by omega)
  have HB5:w5.heap[B4]?=_:=(hg5.block _ (lt_of_block HCw.out.p) (fun e=>own_ne HCw.out.po HCw.out.p (by decide) e.symm)).trans HCw.out.p
  obtain⟨n1,n2,n3⟩:=Aj HB5
  have hlz3:lo<=W3.heap.size:=by have:=Hlz.out;have:=HBl3.out.size;omega
  have hbz:b<=W3.heap.size:=by have:=Hz.out;have:=HBl3.out.size;omega
  have HT:=Cs.tellW HCw.out (by have:=hb.size;omega) (v':=Y (some ⟨g5,0,none⟩) (pl.length+1) cap5) (q:=(⟨(tk:Int),t.f.c,beg.getD tk 0,i,t.f.e,t.f.slot,t.f.n,t.f.keys⟩,a2,c2)) (hko.le hlz3) (fun ad e hx=>by have:=(hko.lt ad e).1;have:=hx.2;omega) hg5 ho5 hloc5
  have HBf:Below lo w (w5.setCell ⟨B4,0,none⟩ (Y (some ⟨g5,0,none⟩) (pl.length+1) cap5)):=((HBl3.out.trans (hb.mono hlz3)).grown hg5 (by have:=hb.size;omega) (fun k hk=>(HCw.out.po.lt k hk).1)).setCell HCw.out.o4.1 _
  refine Nr rfl (Ae rfl) (w':=w5.setCell ⟨B4,0,none⟩ (Y (some ⟨g5,0,none⟩) (pl.length+1) cap5)) (by simp[execOp,go_sem,Act.put,actL,x6,n1,n2]) ?_
  refine bodyPost_end (results_none rfl _ _ _) rfl ?_
  refine⟨_,_,_,rfl,HT.1,?_,HBf,fun k h1 h2=>(HT.2 k h1 h2).trans ((hb.block k (by omega)).trans (Hwin3.out k h1 h2))⟩
  rw[List.map_append]
  rfl
end
section
open Go.ChangeShapes Go.WideShapes Go.ChangeAt Go.RowKit Go.Joins Go.Deep Go.Maps
theorem a3a(lo a b:Nat)(w:World)(B1 B2 B3 B4 g:Nat)(aP:Option Addr)(cP:Nat)(l:List Pk)(v1 v4:Value)(said:List Int)(pl:List (Pst × Option Addr × Nat))(beg:List Nat)(Z:List (Nat × Array Value))(W:Wd)(v:Value)(i:Nat)(E:Int)
  (h:Cs lo a b w B1 B2 B3 B4 g v1 (Y aP l.length cP) v4 said pl beg Z) (hz:b<=w.heap.size) (hr:PRow w aP cP l) (hrl:∀ ad,aP=some ad->ad.block<lo) (hi:i<l.length) (hs:said.length<=300) (hps:pl.length<=300) (hW:WIn a b w v W)
  (hx:E=0->(l[i]'hi).tick=false->0<=(l[i]'hi).task/\(l[i]'hi).task<W.ts.length) (hbl:beg.length=W.ts.length) :
  Calls Tryz.prog 80 #[O J i,v,O J E,.pointer (some ⟨B1,0,none⟩),.pointer (some ⟨B2,0,none⟩),.pointer (some ⟨B3,0,none⟩),.pointer (some ⟨B4,0,none⟩)] w (LitP lo a b w B1 B2 B3 B4 g (Y aP l.length cP) (said ++ [E]) (litP (l[i]'hi) E i beg W (pl.map (·.1))) (litB (l[i]'hi) E i beg) Z):=by
 by_cases h0:E=0
 rotate_left
 ·have h1:=lit_err lo a b w B1 B2 B3 B4 g aP cP l v1 v4 said pl beg Z W v i E h hz hr hrl hi hs hps hW h0
  unfold litP litB
  rw[if_pos (.inl h0),if_pos (.inl h0)]
  exact h1
 cases hT:(l[i]'hi).tick
 rotate_left
 ·have h1:=lit_tick lo a b w B1 B2 B3 B4 g aP cP l v1 v4 said pl beg Z W v i E h hz hr hrl hi hs hps hW h0 hT
  unfold litP litB
  rw[if_pos (.inr hT),if_pos (.inr hT)]
  exact h1
 have hk:=hx h0 hT
 have hn:¬ (E≠0\/(l[i]'hi).tick=true):=by rw[hT];simp[h0]
 cases hS:(l[i]'hi).step
 ·have h1:=a3b lo a b w B1 B2 B3 B4 g aP cP l v1 v4 said pl beg Z W v i E h hz hr hrl hi hs hps hW h0 hT hS (by rw[hbl];exact hk)
  unfold litP litB
  rw[if_neg hn,if_neg hn,if_neg (by rw[hS];simp),if_neg (by rw[hS];simp)]
  exact h1
 cases hB:(W.ts.getD (l[i]'hi).task.toNat idle).busy
 ·have h1:=lit_over lo a b w B1 B2 B3 B4 g aP cP l v1 v4 said pl beg Z W v i E h hz hr hrl hi hs hps hW h0 hT hS hk hB hbl
  unfold litP litB
  rw[if_neg hn,if_neg hn,if_pos hS,if_pos hS,if_neg (by rw[hB];simp)]
  exact h1
 ·have h1:=lit_busy lo a b w B1 B2 B3 B4 g aP cP l v1 v4 said pl beg Z W v i E h hz hr hrl hi hs hps hW h0 hT hS hk hB
  unfold litP litB
  rw[if_neg hn,if_neg hn,if_pos hS,if_pos hS,if_pos hB]
  exact h1
theorem Yx(n:Nat)(s:Rs)(x:Pk):Ew n s x=⟨Ib s.w x,s.said ++ [doE s.w x],litP x (doE s.w x) n s.beg (Ib s.w x) s.past,litB x (doE s.w x) n s.beg⟩:=by
 unfold Ew Ib litP litB
 by_cases h:doE s.w x=0
 ·rw[if_pos h,if_pos h,h]
  cases hT:x.tick
  ·cases hS:x.step
   ·simp
   ·simp
    split <;> simp_all
  ·simp
 ·rw[if_neg h,if_neg h,if_pos (.inl h),if_pos (.inl h)]
section
variable {lo a b:Nat} {w w':World} {B1 B2 B3 B4 g:Nat} {v1 v2 v4:Value} {said:List Int} {pl:List (Pst × Option Addr × Nat)} {beg:List Nat} {Z:List (Nat × Array Value)}
theorem Cs.wide(h:Cs lo a b w B1 B2 B3 B4 g v1 v2 v4 said pl beg Z):Cs lo 0 0 w B1 B2 B3 B4 g v1 v2 v4 said pl beg Z :=
 have hz:∀ k,Out 0 0 k:=fun k hx=>by have:=hx.2;omega
 ⟨h.s,h.so,fun k _=>hz k,h.f,h.fo,hz _,h.p,h.po,fun k _=>hz k,fun q hq=>⟨(h.pk q hq).1,fun ad _=>hz _⟩,⟨h.o1.1,hz _⟩,⟨h.o3.1,hz _⟩,⟨h.o4.1,hz _⟩,h.og,h.x,⟨h.ox.1,hz _⟩,h.z⟩
theorem Cs.off(h:Cs lo a b w B1 B2 B3 B4 g v1 v2 v4 said pl beg Z){X:Nat}{c:Array Value}(hX:w.heap[X]?=some (.cells c 28 (0,0)))(hk:∀ k,k≠X->w'.heap[k]?=w.heap[k]?)(hZ:∀ q∈Z,q.1≠X):Cs lo a b w' B1 B2 B3 B4 g v1 v2 v4 said pl beg Z:=by
 have nb:∀ {Yq:Nat} {cs:Array Value} {t':TypeId},w.heap[Yq]?=some (.cells cs t' (0,0))->t'≠28->w'.heap[Yq]?=some (.cells cs t' (0,0)):=fun hY n2=>by
  refine(hk _ ?_).trans hY
  rintro rfl
  rw[hX] at hY
  injection hY with hY
  injection hY with _ hY
  exact n2 hY.symm
 have nr:∀ {lo' size n':Nat} {t':TypeId} {u:Value} {xs:List Value},w.ownsRow lo' t' size u n' xs->t'≠28->w'.ownsRow lo' t' size u n' xs:=fun hu n2=>by
  refine Cf hu fun k hu'=>hk k ?_
  rintro rfl
  exact own_ne hu hX n2 hu'
 exact⟨nb h.s (by decide),nr h.so (by decide),h.sx,nb h.f (by decide),nb h.fo (by decide),h.fx,nb h.p (by decide),nr h.po (by decide),h.px,fun q hq=>⟨⟨nr (h.pk q hq).1.own (by decide)⟩,(h.pk q hq).2⟩,h.o1,h.o3,h.o4,h.og,nb h.x (by decide),h.ox,fun q hq=>(hk _ (hZ q hq)).trans (h.z q hq)⟩
theorem Cs.more(h:Cs lo a b w B1 B2 B3 B4 g v1 v2 v4 said pl beg Z){Z':List (Nat × Array Value)}(hZ:∀ q∈Z',w.heap[q.1]?=some (.cells q.2 28 (0,0))):Cs lo a b w B1 B2 B3 B4 g v1 v2 v4 said pl beg Z' :=
 ⟨h.s,h.so,h.sx,h.f,h.fo,h.fx,h.p,h.po,h.px,h.pk,h.o1,h.o3,h.o4,h.og,h.x,h.ox,hZ⟩
end
theorem THi.le{lo lo':Nat}{ao:Option Addr}{l:List (Tk × TkV)}(h:THi lo ao l)(hl:lo'<=lo):THi lo' ao l:=⟨fun ad e=>Nat.le_trans hl (h.row ad e),fun p hp ad e=>Nat.le_trans hl (h.keys p hp ad e),fun p hp ad e=>Nat.le_trans hl (h.held p hp ad e)⟩
theorem OwnP.wans{w:World}{M:Mm}{ts:List Tk}{e:Ending}{w':World}(h:OwnP w M ts e w')(m1:M.slots.length*48<=140737488351232)(m2:M.heads.length*8<=140737488351232)(m3:M.free.length*8<=140737488351232)(m4:M.locks.length*8<=140737488351232):∃ v,e=.returned v/\WAns w.heap.size w' v ⟨M,ts⟩/\Below w.heap.size w w':=by
 obtain⟨gS,gH,gF,gL,kS,kH,kF,kL,gg,c,l',lo2,rfl,R,L,T,-,hts,hlo,hb⟩:=h
 refine⟨_,rfl,⟨gS,gH,gF,gL,kS,kH,kF,kL,some ⟨gg,0,none⟩,c,l',?_,R.at m1 m2 m3 m4,R.hi,hts.symm,T.trow,T.thi.le hlo⟩,hb⟩
 subst hts
 simp only[List.length_map]
def TurnP(lo X:Nat)(w:World)(B1 B2 B3 B4 g:Nat)(v2:Value)(s:Rs)(Z:List (Nat × Array Value))(e:Ending)(w':World):Prop :=
 ∃ v v1 v4 pl,e=.returned v/\Cs lo 0 0 w' B1 B2 B3 B4 g v1 v2 v4 s.said pl s.beg Z/\pl.map (·.1)=s.past/\WAns X w' v s.w/\Below lo w w'
end
section
open Go.ChangeShapes Go.WideShapes Go.ChangeAt Go.RowKit Go.Joins Go.Deep Go.Maps
theorem do_inv{W:Wd}(I:WInv W){x:Pk}{lo:Nat}{V:World}{aS aH aF aL:Option Addr}{cS cH cF cL:Nat}{aT:Option Addr}{cT:Nat}(h:WAns lo V (.agg #[Y aS W.m.slots.length cS,Y aH W.m.heads.length cH,Y aF W.m.free.length cF,Y aL W.m.locks.length cL,O J W.m.now,Y aT W.ts.length cT]) W) :
  Calls Tryz.prog 15 #[.agg #[Y aS W.m.slots.length cS,Y aH W.m.heads.length cH,Y aF W.m.free.length cF,Y aL W.m.locks.length cL,O J W.m.now,Y aT W.ts.length cT],.agg #[O J x.task,.bool x.step,.bool x.tick,O J x.c.kind,O J x.c.a,O J x.c.b,O J x.c.time,O J x.c.bk,O J x.c.slot]] V fun e V'=>∃ v,e=.returned (.tuple #[v,O J (doE W x)])/\WAns V.heap.size V' v (if doE W x=0 then doW W x else w0W)/\Below V.heap.size V V':=by
 obtain⟨bS,bH,bF,bL,dS,dH,dF,dL,bT,dT,lt,e,A,hi,hts,hT,hTh⟩:=h
 have e1:=Value.agg.inj e
 simp only[Array.mk.injEq,List.cons.injEq,Value.slice.injEq,true_and,and_true] at e1
 obtain⟨⟨rfl,rfl⟩,⟨rfl,rfl⟩,⟨rfl,rfl⟩,⟨rfl,rfl⟩,rfl,rfl⟩:=e1
 have h:=do_any W.m lt x aS aH aF aL cS cH cF cL aT cT V A hT
 have hts':lt.length=W.ts.length:=by rw[hts,List.length_map]
 rw[<- hts,hts'] at h
 refine h.mono ?_
 rintro e w' ⟨v,rfl,h1,h2⟩
 rw[I.DoE] at h1 ⊢
 exact⟨v,rfl,h1,h2⟩
theorem own_inv{W:Wd}(I:WInv W){lo:Nat}{V:World}{aS aH aF aL:Option Addr}{cS cH cF cL:Nat}{aT:Option Addr}{cT:Nat}(h:WAns lo V (.agg #[Y aS W.m.slots.length cS,Y aH W.m.heads.length cH,Y aF W.m.free.length cF,Y aL W.m.locks.length cL,O J W.m.now,Y aT W.ts.length cT]) W) :
  Calls Tryz.prog 57 #[.agg #[Y aS W.m.slots.length cS,Y aH W.m.heads.length cH,Y aF W.m.free.length cF,Y aL W.m.locks.length cL,O J W.m.now,Y aT W.ts.length cT]] V fun e V'=>∃ v,e=.returned v/\WAns V.heap.size V' v W/\Below V.heap.size V V':=by
 obtain⟨bS,bH,bF,bL,dS,dH,dF,dL,bT,dT,lt,e,A,hi,hts,hT,hTh⟩:=h
 have e1:=Value.agg.inj e
 simp only[Array.mk.injEq,List.cons.injEq,Value.slice.injEq,true_and,and_true] at e1
 obtain⟨⟨rfl,rfl⟩,⟨rfl,rfl⟩,⟨rfl,rfl⟩,⟨rfl,rfl⟩,rfl,rfl⟩:=e1
 have hts':lt.length=W.ts.length:=by rw[hts,List.length_map]
 have h:=a3x W.m lt aS aH aF aL cS cH cF cL aT cT V A hT (by have:=I.nt.1;omega) (by have:=I.nt.2;omega) (fun p hp=>by
  have:=(I.held p.1 (by rw[hts];exact List.mem_map_of_mem hp)).1
  omega)
 rw[<- hts,hts'] at h
 refine h.mono ?_
 intro e w' h
 exact h.wans A.s.max A.h.max A.f.max A.l.max
theorem do_len{W:Wd}{x:Pk}(h:doE W x=0):(doW W x).ts.length=W.ts.length/\(x.tick=false->0<=x.task/\x.task<W.ts.length):=by
 rcases Jo h with ⟨ht,-,e⟩|⟨ht,-,hr,-,-,e⟩|⟨ht,-,hr,-,-,-,-,-,e⟩
 ·rw[e,ht];exact⟨rfl,fun h=>by cases h⟩
 ·rw[e];exact⟨by simp,fun _=>hr⟩
 ·rw[e];exact⟨by simp,fun _=>hr⟩
theorem PRow.low{w w':World}{lo:Nat}{ao:Option Addr}{cap:Nat}{l:List Pk}(r:PRow w ao cap l)(hb:Below lo w w')(hl:∀ ad,ao=some ad->ad.block<lo):PRow w' ao cap l:=by
 refine⟨r.le,r.max,r.nil,?_⟩
 rcases r.at_ with h|⟨b,o,h,hc⟩
 ·exact .inl h
 ·exact .inr ⟨b,o,h,fun i hi=>Dc (hc i hi) hb (hl _ h)⟩
theorem Yk(x:Pk)(e:Int)(i:Nat)(beg:List Nat):(litB x e i beg).length=beg.length:=by
 unfold litB
 repeat' split
 all_goals simp
theorem Ur(x:Pk)(e:Int)(i:Nat)(beg:List Nat)(W:Wd)(past:List Pst):(litP x e i beg W past).length<=past.length+1:=by
 unfold litP
 repeat' split
 all_goals simp
set_option maxHeartbeats 4000000 in
theorem Zo(lo:Nat)(w:World)(B1 B2 B3 B4 g:Nat)(aP:Option Addr)(cP:Nat)(l:List Pk)(v1 v4:Value)(beg:List Nat)(Zx:List (Nat × Array Value))(W0:Wd)(v:Value)
  (hI:WInv W0) (hv:WAns 0 w v W0) (h:Cs lo 0 0 w B1 B2 B3 B4 g v1 (Y aP l.length cP) v4 [] [] beg Zx) (hr:PRow w aP cP l) (hrl:0<l.length->∀ ad,aP=some ad->ad.block<lo) (hl:l.length<=300) (hbl:beg.length=W0.ts.length) (hlo:lo<=w.heap.size) :
  Calls Tryz.prog 79 #[v,Y aP l.length cP,.func (.func 80) #[] #[.pointer (some ⟨B1,0,none⟩),.pointer (some ⟨B2,0,none⟩),.pointer (some ⟨B3,0,none⟩),.pointer (some ⟨B4,0,none⟩)]] w (TurnP lo w.heap.size w B1 B2 B3 B4 g (Y aP l.length cP) (runR 0 ⟨W0,[],[],beg⟩ l) Zx):=by
 have m1:=hr.max
 have m2:=hr.le
 have HR:Hid (PRow w aP cP l):=hr
 have HRl:Hid (0<l.length->∀ ad,aP=some ad->ad.block<lo):=hrl
 have HI0:Hid (WInv W0):=hI
 have Hlo:Hid (lo<=w.heap.size):=hlo
 have Hl:Hid (l.length<=300):=hl
 obtain⟨s0,hs0⟩:∃ s0:Rs,s0=⟨W0,[],[],beg⟩:=⟨_,rfl⟩
 rw[<- hs0]
 obtain⟨sE,hsE⟩:∃ sE:Rs,sE=runR 0 s0 l:=⟨_,rfl⟩
 rw[<- hsE]
 have HsE:Hid (runR 0 s0 (l.drop 0)=sE):=by show _=_;rw[hsE];rfl
 have Hs0:Hid (s0=⟨W0,[],[],beg⟩):=hs0
 have HC0:Hid (Cs lo 0 0 w B1 B2 B3 B4 g v1 (Y aP l.length cP) v4 [] [] beg Zx):=h
 have HZx:Hid (∀ q∈Zx,q.1<w.heap.size):=fun q hq=>lt_of_block (h.z q hq)
 have HBl:Hid (beg.length=W0.ts.length):=hbl
 obtain⟨aS,aH,aF,aL,cS,cH,cF,cL,aT,cT,lt,rfl,-⟩:=id hv
 obtain⟨ox,hox⟩:∃ o:Obj,o=.cells #[Y aS W0.m.slots.length cS,Y aH W0.m.heads.length cH,Y aF W0.m.free.length cF,Y aL W0.m.locks.length cL,O J W0.m.now,Y aT W0.ts.length cT] 28:=⟨_,rfl⟩
 obtain⟨oy,hoy⟩:∃ o:Obj,o=.cells #[Y none 0 0,Y none 0 0,Y none 0 0,Y none 0 0,O J 0,Y none 0 0] 28:=⟨_,rfl⟩
 have b0:Below w.heap.size w ((w.alloc ox).alloc oy):=below_alloc2 w ox oy
 have HX0:Hid (((w.alloc ox).alloc oy).heap[w.heap.size]?=some ox):=by show _=_;rw[Below.heap_alloc _ _ _ (by simp),heap_alloc_new]
 have HY0:Hid (((w.alloc ox).alloc oy).heap[w.heap.size+1]?=some oy):=by
  have:=heap_alloc_new (w.alloc ox) oy
  rwa [show (w.alloc ox).heap.size=w.heap.size+1 by simp] at this
 have HV0:Hid (WAns 0 ((w.alloc ox).alloc oy) (.agg #[Y aS W0.m.slots.length cS,Y aH W0.m.heads.length cH,Y aF W0.m.free.length cF,Y aL W0.m.locks.length cL,O J W0.m.now,Y aT W0.ts.length cT]) W0):=hv.below b0
 have Hb0:Hid (Below w.heap.size w ((w.alloc ox).alloc oy)):=b0
 have hz0:w.heap.size+2=((w.alloc ox).alloc oy).heap.size:=by simp
 clear hI hv h hr hrl hbl hs0 hsE hlo b0
 go_enter Tryz.func79,Tryz.ntmps79
 have l6:Hid (((w.alloc (.cells #[Y aS W0.m.slots.length cS,Y aH W0.m.heads.length cH,Y aF W0.m.free.length cF,Y aL W0.m.locks.length cL,O J W0.m.now,Y aT W0.ts.length cT] 28)).alloc (.cells #[Y none 0 0,Y none 0 0,Y none 0 0,Y none 0 0,O J 0,Y none 0 0] 28)).rangeAt w.heap.size 0 [Y aS W0.m.slots.length cS,Y aH W0.m.heads.length cH,Y aF W0.m.free.length cF,Y aL W0.m.locks.length cL,O J W0.m.now,Y aT W0.ts.length cT]):=by subst hox hoy;exact Aw HX0.out rfl
 go_wp2_with (refine wl_6 rfl _ rfl rfl l6.out ?_)
 rw[<- hox,<- hoy]
 rw[<- hox,<- hoy] at l6
 clear l6
 generalize (w.alloc ox).alloc oy=W1 at *
 subst hox hoy
 refine(own_inv HI0.out HV0.out).mono ?_
 rintro e w2 ⟨v2,rfl,hv2,hb2⟩
 obtain⟨aS2,aH2,aF2,aL2,cS2,cH2,cF2,cL2,aT2,cT2,lt2,rfl,-⟩:=id hv2
 have HX2:Hid (w2.heap[w.heap.size]?=_):=(hb2.block _ (lt_of_block HX0.out)).trans HX0.out
 have HY2:Hid (w2.heap[w.heap.size+1]?=_):=(hb2.block _ (lt_of_block HY0.out)).trans HY0.out
 have t6:Hid (w2.there w.heap.size 0 6):=Bz HX2.out (by simp)
 have hz2:=hb2.size
 have Hb2:Hid (Below w.heap.size w w2):=Hb0.out.trans (hb2.mono Hb0.out.size)
 obtain⟨W3,hW3⟩:∃ W3,W3=w2.setCells w.heap.size 0 [Y aS2 W0.m.slots.length cS2,Y aH2 W0.m.heads.length cH2,Y aF2 W0.m.free.length cF2,Y aL2 W0.m.locks.length cL2,O J W0.m.now,Y aT2 W0.ts.length cT2]:=⟨_,rfl⟩
 have ho3:∀ k,k≠w.heap.size->W3.heap[k]?=w2.heap[k]?:=fun k hk=>by rw[hW3];exact Ad hk _ _ _
 have hX3:W3.heap[w.heap.size]?=some (.cells #[Y aS2 W0.m.slots.length cS2,Y aH2 W0.m.heads.length cH2,Y aF2 W0.m.free.length cF2,Y aL2 W0.m.locks.length cL2,O J W0.m.now,Y aT2 W0.ts.length cT2] 28 (0,0)):=by rw[hW3];exact Bg HX2.out rfl
 have hY3:W3.heap[w.heap.size+1]?=some (.cells #[Y none 0 0,Y none 0 0,Y none 0 0,Y none 0 0,O J 0,Y none 0 0] 28 (0,0)):=(ho3 _ (by omega)).trans HY2.out
 have hsz3:W3.heap.size=w2.heap.size:=by rw[hW3];exact setCells_size _ _ _
 have HWi:Hid (WIn W1.heap.size w2.heap.size W3 (.agg #[Y aS2 W0.m.slots.length cS2,Y aH2 W0.m.heads.length cH2,Y aF2 W0.m.free.length cF2,Y aL2 W0.m.locks.length cL2,O J W0.m.now,Y aT2 W0.ts.length cT2]) W0):=hv2.wIn.same fun k h1 h2=>ho3 k (by omega)
 have Hb3:Hid (Below lo w W3):=by
  have h1:Below w.heap.size w W3:=by rw[hW3];exact Ba Hb2.out (Nat.le_refl _)
  exact h1.mono Hlo.out
 have HC3:Hid (Cs lo W1.heap.size w2.heap.size W3 B1 B2 B3 B4 g v1 (Y aP l.length cP) v4 [] [] beg ((w.heap.size,#[Y aS2 W0.m.slots.length cS2,Y aH2 W0.m.heads.length cH2,Y aF2 W0.m.free.length cF2,Y aL2 W0.m.locks.length cL2,O J W0.m.now,Y aT2 W0.ts.length cT2]) :: (w.heap.size+1,#[Y none 0 0,Y none 0 0,Y none 0 0,Y none 0 0,O J 0,Y none 0 0]) :: Zx)):=by
  have h1:Cs lo W1.heap.size w2.heap.size W1 B1 B2 B3 B4 g v1 (Y aP l.length cP) v4 [] [] beg Zx:=(HC0.out.below Hb0.out).turn _
  have h2:=(h1.below hb2).off HX2.out ho3 (fun q hq=>by have:=HZx.out q hq;omega)
  refine h2.more fun q hq=>?_
  simp only[List.mem_cons] at hq
  rcases hq with rfl|rfl|hq
  ·exact hX3
  ·exact hY3
  ·exact h2.z q hq
 clear ho3 hX3 hY3 HX0 HY0 HV0 Hb0 HX2 HY2 hv2 hb2 Hb2 HC0
 go_wp2_with (refine ws_6 rfl _ _ rfl rfl rfl t6.out (by kernel_rfl) ?_;rw[<- hW3];clear t6 hW3)
 have HZ3:Hid (w.heap.size+1<W1.heap.size/\w2.heap.size<=W3.heap.size):=⟨by omega,by omega⟩
 go_loopw [15] (fun i wr=>∃ (k:Nat) (s:Rs) (a b:Nat) (v1 v4:Value) (pl:List (Pst × Option Addr × Nat)) (aS aH aF aL:Option Addr) (cS cH cF cL:Nat) (aT:Option Addr) (cT:Nat),k<=l.length/\i=O J k/\Hid (runR k s (l.drop k)=sE)/\Hid (WInv s.w)/\Hid (Cs lo a b wr B1 B2 B3 B4 g v1 (Y aP l.length cP) v4 s.said pl s.beg ((w.heap.size,#[Y aS s.w.m.slots.length cS,Y aH s.w.m.heads.length cH,Y aF s.w.m.free.length cF,Y aL s.w.m.locks.length cL,O J s.w.m.now,Y aT s.w.ts.length cT]) :: (w.heap.size+1,#[Y none 0 0,Y none 0 0,Y none 0 0,Y none 0 0,O J 0,Y none 0 0]) :: Zx))/\Hid (pl.map (·.1)=s.past)/\Hid (WIn a b wr (.agg #[Y aS s.w.m.slots.length cS,Y aH s.w.m.heads.length cH,Y aF s.w.m.free.length cF,Y aL s.w.m.locks.length cL,O J s.w.m.now,Y aT s.w.ts.length cT]) s.w)/\Hid (Below lo w wr)/\Hid (w.heap.size+1<a/\b<=wr.heap.size)/\Hid (s.said.length=k/\pl.length<=k/\s.beg.length=s.w.ts.length)) (fun i _=>l.length - (intOf i).toNat)
 case atStart=>exact⟨0,s0,W1.heap.size,w2.heap.size,v1,v4,[],aS2,aH2,aF2,aL2,cS2,cH2,cF2,cL2,aT2,cT2,Nat.zero_le _,rfl,HsE,by rw[Hs0.out];exact HI0,by rw[Hs0.out];exact HC3,by rw[Hs0.out];exact rfl,by rw[Hs0.out];exact HWi,Hb3,HZ3,by rw[Hs0.out];exact⟨rfl,Nat.le_refl _,HBl.out⟩⟩
 case round =>
  obtain⟨k,s,a,b,v1,v4,pl,aS,aH,aF,aL,cS,cH,cF,cL,aT,cT,hk,rfl,HrE,HIw,HC,HPl,HWi',Hb,HZ,HN⟩:=hrel
  clear HC3 HWi Hb3 HZ3 HsE Hs0 HI0 HBl
  have HXb:Hid (wr.heap[w.heap.size]?=some (.cells #[Y aS s.w.m.slots.length cS,Y aH s.w.m.heads.length cH,Y aF s.w.m.free.length cF,Y aL s.w.m.locks.length cL,O J s.w.m.now,Y aT s.w.ts.length cT] 28 (0,0))):=HC.out.z _ (.head _)
  have HYb:Hid (wr.heap[w.heap.size+1]?=some (.cells #[Y none 0 0,Y none 0 0,Y none 0 0,Y none 0 0,O J 0,Y none 0 0] 28 (0,0))):=HC.out.z _ (.tail _ (.head _))
  by_cases hlt:k<l.length
  ·have HRk:Hid (∀ ad,aP=some ad->ad.block<lo):=HRl.out (by omega)
   clear HRl
   rcases HR.out.at_ with h0|⟨bP,oP,rfl,hx⟩
   ·omega
   have hbP:bP<lo:=HRk.out _ rfl
   have lX:Hid (wr.rangeAt bP (oP+k*9) [O J (l[k]).task,.bool (l[k]).step,.bool (l[k]).tick,O J ((l[k]).c).kind,O J ((l[k]).c).a,O J ((l[k]).c).b,O J ((l[k]).c).time,O J ((l[k]).c).bk,O J ((l[k]).c).slot]):=Dc (hx k hlt) Hb.out hbP
   clear hx
   obtain⟨x,hx⟩:∃ x,x=l[k]:=⟨_,rfl⟩
   rw[<- hx] at lX
   have Hx:Hid (x=l[k]):=hx
   clear hx
   have hzw:lo<=wr.heap.size:=by have:=Hlo.out;have:=Hb.out.size;omega
   obtain⟨op,hop⟩:∃ o:Obj,o=.cells #[O J x.task,.bool x.step,.bool x.tick,O J x.c.kind,O J x.c.a,O J x.c.b,O J x.c.time,O J x.c.bk,O J x.c.slot] 34:=⟨_,rfl⟩
   have b2:Below wr.heap.size wr (wr.alloc op):=Aa _ _
   have HX2:Hid ((wr.alloc op).heap[w.heap.size]?=some (.cells #[Y aS s.w.m.slots.length cS,Y aH s.w.m.heads.length cH,Y aF s.w.m.free.length cF,Y aL s.w.m.locks.length cL,O J s.w.m.now,Y aT s.w.ts.length cT] 28 (0,0))):=(b2.block _ (lt_of_block HXb.out)).trans HXb.out
   have HP2:Hid ((wr.alloc op).heap[wr.heap.size]?=some op):=heap_alloc_new _ _
   have HC2:Hid (Cs lo a b (wr.alloc op) B1 B2 B3 B4 g v1 (Y (some ⟨bP,oP,none⟩) l.length cP) v4 s.said pl s.beg ((w.heap.size,#[Y aS s.w.m.slots.length cS,Y aH s.w.m.heads.length cH,Y aF s.w.m.free.length cF,Y aL s.w.m.locks.length cL,O J s.w.m.now,Y aT s.w.ts.length cT]) :: (w.heap.size+1,#[Y none 0 0,Y none 0 0,Y none 0 0,Y none 0 0,O J 0,Y none 0 0]) :: Zx)):=HC.out.below b2
   have HW2:Hid (WIn a b (wr.alloc op) (.agg #[Y aS s.w.m.slots.length cS,Y aH s.w.m.heads.length cH,Y aF s.w.m.free.length cF,Y aL s.w.m.locks.length cL,O J s.w.m.now,Y aT s.w.ts.length cT]) s.w):=HWi'.out.same fun j h1 h2=>b2.block j (by have:=HZ.out.2;omega)
   have Hb2:Hid (Below lo w (wr.alloc op)):=Hb.out.alloc hzw op
   have HZ2:Hid (w.heap.size+1<a/\b<=(wr.alloc op).heap.size/\w.heap.size+1<(wr.alloc op).heap.size):=⟨HZ.out.1,by have:=HZ.out.2;simp;omega,by have:=lt_of_block HYb.out;simp;omega⟩
   subst hop
   have l6:Hid ((wr.alloc (.cells #[O J x.task,.bool x.step,.bool x.tick,O J x.c.kind,O J x.c.a,O J x.c.b,O J x.c.time,O J x.c.bk,O J x.c.slot] 34)).rangeAt w.heap.size 0 [Y aS s.w.m.slots.length cS,Y aH s.w.m.heads.length cH,Y aF s.w.m.free.length cF,Y aL s.w.m.locks.length cL,O J s.w.m.now,Y aT s.w.ts.length cT]):=Aw HX2.out rfl
   have lX2:Hid ((wr.alloc (.cells #[O J x.task,.bool x.step,.bool x.tick,O J x.c.kind,O J x.c.a,O J x.c.b,O J x.c.time,O J x.c.bk,O J x.c.slot] 34)).rangeAt wr.heap.size 0 [O J x.task,.bool x.step,.bool x.tick,O J x.c.kind,O J x.c.a,O J x.c.b,O J x.c.time,O J x.c.bk,O J x.c.slot]):=Aw HP2.out rfl
   have hzz:wr.heap.size<(wr.alloc (.cells #[O J x.task,.bool x.step,.bool x.tick,O J x.c.kind,O J x.c.a,O J x.c.b,O J x.c.time,O J x.c.bk,O J x.c.slot] 34)).heap.size:=by simp
   clear HXb HYb b2 HC HWi' Hb HZ
   go_wp2_with (first|refine wl_X rfl _ rfl rfl lX.out ?_|refine wl_6 rfl _ rfl rfl l6.out ?_|refine wl_X rfl _ rfl rfl lX2.out ?_)
   clear l6 lX2 lX HP2
   generalize World.alloc wr _=W2 at *
   refine(do_inv HIw.out (x:=x) (HW2.out W2 (fun _ _ _=>rfl))).mono ?_
   rintro e w3 ⟨v3,rfl,hv3,hb3⟩
   obtain⟨E,hE⟩:∃ E,E=doE s.w x:=⟨_,rfl⟩
   rw[<- hE] at hv3 ⊢
   have HE:Hid (E=doE s.w x):=hE
   have Hst:=Yx k s x
   rw[<- hE] at Hst
   have HrE':Hid (runR (k+1) (Ew k s x) (l.drop (k+1))=sE):=by
    have h1:=HrE.out
    rw[List.drop_eq_getElem_cons hlt,<- Hx.out] at h1
    exact h1
   have hz3:=hb3.size
   have Hb3:Hid (Below lo w w3):=Hb2.out.trans (hb3.mono (by have:=Hb2.out.size;have:=Hlo.out;omega))
   have hl300:=Hl.out
   have hN1:=HN.out.1;have hN2:=HN.out.2.1;have hN3:=HN.out.2.2
   clear HrE hE
   by_cases hE0:E=0
   rotate_left
   ·have h':(E==0)=false:=by simpa using hE0
    obtain⟨_,_,_,_,_,_,_,_,_,_,_,rfl,-⟩:=hv3
    have H4:Hid (∀ o:Obj,Cs lo a b (w3.alloc o) B1 B2 B3 B4 g v1 (Y (some ⟨bP,oP,none⟩) l.length cP) v4 s.said pl s.beg ((w.heap.size,#[Y aS s.w.m.slots.length cS,Y aH s.w.m.heads.length cH,Y aF s.w.m.free.length cF,Y aL s.w.m.locks.length cL,O J s.w.m.now,Y aT s.w.ts.length cT]) :: (w.heap.size+1,#[Y none 0 0,Y none 0 0,Y none 0 0,Y none 0 0,O J 0,Y none 0 0]) :: Zx)/\WIn a b (w3.alloc o) (.agg #[Y aS s.w.m.slots.length cS,Y aH s.w.m.heads.length cH,Y aF s.w.m.free.length cF,Y aL s.w.m.locks.length cL,O J s.w.m.now,Y aT s.w.ts.length cT]) s.w/\Below lo w (w3.alloc o)/\(w3.alloc o).rangeAt w.heap.size 0 [Y aS s.w.m.slots.length cS,Y aH s.w.m.heads.length cH,Y aF s.w.m.free.length cF,Y aL s.w.m.locks.length cL,O J s.w.m.now,Y aT s.w.ts.length cT]/\b<=(w3.alloc o).heap.size/\PRow (w3.alloc o) (some ⟨bP,oP,none⟩) cP l):=fun o =>
     have b4:Below W2.heap.size W2 (w3.alloc o):=hb3.alloc hb3.size o
     have b5:Below lo w (w3.alloc o):=Hb3.out.alloc (by have:=Hb3.out.size;have:=Hlo.out;omega) o
     ⟨HC2.out.below b4,HW2.out.same fun j h1 h2=>b4.block j (by have:=HZ2.out.2.1;omega),b5,Aw ((b4.block _ (lt_of_block HX2.out)).trans HX2.out) rfl,by have:=HZ2.out.2.1;simp;omega,HR.out.low b5 HRk.out⟩
    rw[show Ib s.w x=s.w by unfold Ib;rw[<- HE.out,if_neg hE0]] at Hst
    have Hst':Hid (Ew k s x=_):=Hst
    have HE0:Hid (E≠0):=hE0
    clear HC2 HW2 HX2 Hb2 Hb3 hb3 Hst hE0
    go_wp2_with (refine wl_6 rfl _ rfl rfl (H4.out _).2.2.2.1 ?_)
    refine(a3a lo a b _ B1 B2 B3 B4 g (some ⟨bP,oP,none⟩) cP l v1 v4 s.said pl s.beg _ s.w _ k E (H4.out _).1 (H4.out _).2.2.2.2.1 (H4.out _).2.2.2.2.2 HRk.out hlt (by omega) (by omega) (H4.out _).2.1 (fun h=>(HE0.out h).elim) hN3).mono ?_
    rintro e w5 ⟨v15,v45,pl5,rfl,hC5,hpl5,hb5,hw5⟩
    rw[<- Hx.out] at hC5 hpl5
    have HRel:Hid (WIn a b w5 (.agg #[Y aS s.w.m.slots.length cS,Y aH s.w.m.heads.length cH,Y aF s.w.m.free.length cF,Y aL s.w.m.locks.length cL,O J s.w.m.now,Y aT s.w.ts.length cT]) s.w/\Below lo w w5/\b<=w5.heap.size):=⟨(H4.out _).2.1.same hw5,(H4.out _).2.2.1.trans hb5,by have:=(H4.out (.cells #[] 0)).2.2.2.2.1;have:=hb5.size;simp at *;omega⟩
    have HC5:Hid (Cs lo a b w5 B1 B2 B3 B4 g v15 (Y (some ⟨bP,oP,none⟩) l.length cP) v45 (s.said ++ [E]) pl5 (litB x E k s.beg) ((w.heap.size,#[Y aS s.w.m.slots.length cS,Y aH s.w.m.heads.length cH,Y aF s.w.m.free.length cF,Y aL s.w.m.locks.length cL,O J s.w.m.now,Y aT s.w.ts.length cT]) :: (w.heap.size+1,#[Y none 0 0,Y none 0 0,Y none 0 0,Y none 0 0,O J 0,Y none 0 0]) :: Zx)):=hC5
    have HP5:Hid (pl5.map (·.1)=litP x E k s.beg s.w (pl.map (·.1))):=hpl5
    clear hC5 hpl5 hb5 hw5 H4
    go_wp2
    go_roundw
    case rel=>exact⟨k+1,Ew k s x,a,b,v15,v45,pl5,aS,aH,aF,aL,cS,cH,cF,cL,aT,cT,by omega,by go_num,HrE',by rw[Hst'.out];exact HIw,by rw[Hst'.out];exact HC5,by rw[Hst'.out];exact(HP5.out.trans (by rw[HPl.out])),by rw[Hst'.out];exact HRel.out.1,HRel.out.2.1,⟨HZ2.out.1,HRel.out.2.2⟩,by rw[Hst'.out];exact⟨by simp[hN1],by have:=congrArg List.length HP5.out;rw[List.length_map] at this;have:=Ur x E k s.beg s.w (pl.map (·.1));rw[List.length_map] at this;omega,(Yk x E k s.beg).trans hN3⟩⟩
    case measure=>simp[intOf];omega
   ·have HdE:Hid (doE s.w x=0):=HE.out.symm.trans hE0
    rw[if_pos hE0] at hv3
    obtain⟨W',hW'⟩:∃ W',W'=doW s.w x:=⟨_,rfl⟩
    rw[<- hW'] at hv3
    rw[show Ib s.w x=W' by unfold Ib;rw[HdE.out,if_pos rfl,hW']] at Hst
    have HW':Hid (W'=doW s.w x):=hW'
    have HIn:Hid (WInv W'):=by show WInv W';rw[hW'];exact Nb HIw.out HdE.out
    have HLn:Hid (W'.ts.length=s.w.ts.length/\(x.tick=false->0<=x.task/\x.task<s.w.ts.length)):=by have:=do_len HdE.out;rw[<- hW'] at this;exact this
    have Hst':Hid (Ew k s x=_):=Hst
    clear hW' Hst
    subst hE0
    obtain⟨aS1,aH1,aF1,aL1,cS1,cH1,cF1,cL1,aT1,cT1,lt1,rfl,-⟩:=id hv3
    obtain⟨oq,hoq⟩:∃ o:Obj,o=.cells #[Y aS1 W'.m.slots.length cS1,Y aH1 W'.m.heads.length cH1,Y aF1 W'.m.free.length cF1,Y aL1 W'.m.locks.length cL1,O J W'.m.now,Y aT1 W'.ts.length cT1] 28:=⟨_,rfl⟩
    have b4:Below W2.heap.size W2 (w3.alloc oq):=hb3.alloc hb3.size oq
    have HY4:Hid ((w3.alloc oq).heap[w3.heap.size]?=some oq):=heap_alloc_new _ _
    have hX4:(w3.alloc oq).heap[w.heap.size]?=some (.cells #[Y aS s.w.m.slots.length cS,Y aH s.w.m.heads.length cH,Y aF s.w.m.free.length cF,Y aL s.w.m.locks.length cL,O J s.w.m.now,Y aT s.w.ts.length cT] 28 (0,0)):=(b4.block _ (lt_of_block HX2.out)).trans HX2.out
    have hC4:Cs lo W2.heap.size w3.heap.size (w3.alloc oq) B1 B2 B3 B4 g v1 (Y (some ⟨bP,oP,none⟩) l.length cP) v4 s.said pl s.beg ((w.heap.size,#[Y aS s.w.m.slots.length cS,Y aH s.w.m.heads.length cH,Y aF s.w.m.free.length cF,Y aL s.w.m.locks.length cL,O J s.w.m.now,Y aT s.w.ts.length cT]) :: (w.heap.size+1,#[Y none 0 0,Y none 0 0,Y none 0 0,Y none 0 0,O J 0,Y none 0 0]) :: Zx):=((HC2.out.turn w3.heap.size).below b4)
    have hW4:WIn W2.heap.size w3.heap.size (w3.alloc oq) (.agg #[Y aS1 W'.m.slots.length cS1,Y aH1 W'.m.heads.length cH1,Y aF1 W'.m.free.length cF1,Y aL1 W'.m.locks.length cL1,O J W'.m.now,Y aT1 W'.ts.length cT1]) W':=hv3.wIn.same fun j h1 h2=>(Aa _ _).block j h2
    have Hb4:Hid (Below lo w (w3.alloc oq)):=Hb3.out.alloc (by have:=Hb3.out.size;have:=Hlo.out;omega) oq
    have t8:Hid ((w3.alloc oq).there w.heap.size 0 6):=Bz hX4 (by simp)
    obtain⟨W5,hW5⟩:∃ W5,W5=(w3.alloc oq).setCells w.heap.size 0 [Y aS1 W'.m.slots.length cS1,Y aH1 W'.m.heads.length cH1,Y aF1 W'.m.free.length cF1,Y aL1 W'.m.locks.length cL1,O J W'.m.now,Y aT1 W'.ts.length cT1]:=⟨_,rfl⟩
    have ho5:∀ j,j≠w.heap.size->W5.heap[j]?=(w3.alloc oq).heap[j]?:=fun j hj=>by rw[hW5];exact Ad hj _ _ _
    have hX5:W5.heap[w.heap.size]?=some (.cells #[Y aS1 W'.m.slots.length cS1,Y aH1 W'.m.heads.length cH1,Y aF1 W'.m.free.length cF1,Y aL1 W'.m.locks.length cL1,O J W'.m.now,Y aT1 W'.ts.length cT1] 28 (0,0)):=by rw[hW5];exact Bg hX4 rfl
    have hs5:W5.heap.size=w3.heap.size+1:=by rw[hW5,setCells_size];simp
    have HC5:Hid (Cs lo W2.heap.size w3.heap.size W5 B1 B2 B3 B4 g v1 (Y (some ⟨bP,oP,none⟩) l.length cP) v4 s.said pl s.beg ((w.heap.size,#[Y aS1 W'.m.slots.length cS1,Y aH1 W'.m.heads.length cH1,Y aF1 W'.m.free.length cF1,Y aL1 W'.m.locks.length cL1,O J W'.m.now,Y aT1 W'.ts.length cT1]) :: (w.heap.size+1,#[Y none 0 0,Y none 0 0,Y none 0 0,Y none 0 0,O J 0,Y none 0 0]) :: Zx)):=by
     have hY4:=hC4.z (w.heap.size+1,#[Y none 0 0,Y none 0 0,Y none 0 0,Y none 0 0,O J 0,Y none 0 0]) (.tail _ (.head _))
     have h2:=(hC4.more (Z':=Zx) (fun q hq=>hC4.z q (.tail _ (.tail _ hq)))).off hX4 ho5 (fun q hq=>by have:=HZx.out q hq;omega)
     refine h2.more fun q hq=>?_
     simp only[List.mem_cons] at hq
     rcases hq with rfl|rfl|hq
     ·exact hX5
     ·exact(ho5 _ (by omega)).trans hY4
     ·exact h2.z q hq
    have hzx:=HZ2.out.2.2
    have HW5:Hid (WIn W2.heap.size w3.heap.size W5 (.agg #[Y aS1 W'.m.slots.length cS1,Y aH1 W'.m.heads.length cH1,Y aF1 W'.m.free.length cF1,Y aL1 W'.m.locks.length cL1,O J W'.m.now,Y aT1 W'.ts.length cT1]) W'):=hW4.same fun j h1 h2=>ho5 j (by omega)
    have Hb5:Hid (Below lo w W5):=by show Below lo w W5;rw[hW5];exact Ba Hb4.out Hlo.out
    have l9:Hid (W5.rangeAt w.heap.size 0 [Y aS1 W'.m.slots.length cS1,Y aH1 W'.m.heads.length cH1,Y aF1 W'.m.free.length cF1,Y aL1 W'.m.locks.length cL1,O J W'.m.now,Y aT1 W'.ts.length cT1]):=Aw hX5 rfl
    have HR5:Hid (PRow W5 (some ⟨bP,oP,none⟩) cP l):=HR.out.low Hb5.out HRk.out
    have HZ5:Hid (w.heap.size+1<W2.heap.size/\w3.heap.size<=W5.heap.size):=⟨hzx,by omega⟩
    subst hoq
    have l7:Hid ((w3.alloc (.cells #[Y aS1 W'.m.slots.length cS1,Y aH1 W'.m.heads.length cH1,Y aF1 W'.m.free.length cF1,Y aL1 W'.m.locks.length cL1,O J W'.m.now,Y aT1 W'.ts.length cT1] 28)).rangeAt w3.heap.size 0 [Y aS1 W'.m.slots.length cS1,Y aH1 W'.m.heads.length cH1,Y aF1 W'.m.free.length cF1,Y aL1 W'.m.locks.length cL1,O J W'.m.now,Y aT1 W'.ts.length cT1]):=Aw HY4.out rfl
    clear HC2 HW2 HX2 Hb2 Hb3 hb3 hX4 hC4 hW4 Hb4 ho5 hX5 HY4 hv3 b4
    go_wp2_with (first|refine wl_6 rfl _ rfl rfl l7.out ?_|(refine ws_6 rfl _ _ rfl rfl rfl t8.out (by kernel_rfl) ?_;rw[<- hW5];clear hW5 t8 l7)|refine wl_6 rfl _ rfl rfl l9.out ?_)
    refine(a3a lo W2.heap.size w3.heap.size W5 B1 B2 B3 B4 g (some ⟨bP,oP,none⟩) cP l v1 v4 s.said pl s.beg _ W' _ k 0 HC5.out HZ5.out.2 HR5.out HRk.out hlt (by omega) (by omega) HW5.out (fun _ h=>by rw[<- Hx.out] at h ⊢;rw[HLn.out.1];exact HLn.out.2 h) (hN3.trans HLn.out.1.symm)).mono ?_
    rintro e w6 ⟨v15,v45,pl5,rfl,hC5,hpl5,hb5,hw5⟩
    rw[<- Hx.out] at hC5 hpl5
    have HRel:Hid (WIn W2.heap.size w3.heap.size w6 (.agg #[Y aS1 W'.m.slots.length cS1,Y aH1 W'.m.heads.length cH1,Y aF1 W'.m.free.length cF1,Y aL1 W'.m.locks.length cL1,O J W'.m.now,Y aT1 W'.ts.length cT1]) W'/\Below lo w w6/\w3.heap.size<=w6.heap.size):=⟨HW5.out.same hw5,Hb5.out.trans hb5,by have:=HZ5.out.2;have:=hb5.size;omega⟩
    have HC6:Hid (Cs lo W2.heap.size w3.heap.size w6 B1 B2 B3 B4 g v15 (Y (some ⟨bP,oP,none⟩) l.length cP) v45 (s.said ++ [0]) pl5 (litB x 0 k s.beg) ((w.heap.size,#[Y aS1 W'.m.slots.length cS1,Y aH1 W'.m.heads.length cH1,Y aF1 W'.m.free.length cF1,Y aL1 W'.m.locks.length cL1,O J W'.m.now,Y aT1 W'.ts.length cT1]) :: (w.heap.size+1,#[Y none 0 0,Y none 0 0,Y none 0 0,Y none 0 0,O J 0,Y none 0 0]) :: Zx)):=hC5
    have HP5:Hid (pl5.map (·.1)=litP x 0 k s.beg W' (pl.map (·.1))):=hpl5
    clear hC5 hpl5 hb5 hw5 HC5 HW5 Hb5 l9 HR5
    go_wp2
    go_roundw
    case rel=>exact⟨k+1,Ew k s x,W2.heap.size,w3.heap.size,v15,v45,pl5,aS1,aH1,aF1,aL1,cS1,cH1,cF1,cL1,aT1,cT1,by omega,by go_num,HrE',by rw[Hst'.out];exact HIn,by rw[Hst'.out];exact HC6,by rw[Hst'.out];exact(HP5.out.trans (by rw[HPl.out])),by rw[Hst'.out];exact HRel.out.1,HRel.out.2.1,⟨HZ5.out.1,HRel.out.2.2⟩,by rw[Hst'.out];exact⟨by simp[hN1],by have:=congrArg List.length HP5.out;rw[List.length_map] at this;have:=Ur x 0 k s.beg W' (pl.map (·.1));rw[List.length_map] at this;omega,(Yk x 0 k s.beg).trans (hN3.trans HLn.out.1.symm)⟩⟩
    case measure=>simp[intOf];omega
  ·have hkE:k=l.length:=by omega
   have HsE:Hid (s=sE):=by
    have h1:=HrE.out
    rw[hkE,List.drop_length] at h1
    exact h1
   have l6:Hid (wr.rangeAt w.heap.size 0 [Y aS s.w.m.slots.length cS,Y aH s.w.m.heads.length cH,Y aF s.w.m.free.length cF,Y aL s.w.m.locks.length cL,O J s.w.m.now,Y aT s.w.ts.length cT]):=Aw HXb.out rfl
   have t6:Hid (wr.there (w.heap.size+1) 0 6):=Bz HYb.out (by simp)
   obtain⟨W5,hW5⟩:∃ W5,W5=wr.setCells (w.heap.size+1) 0 [Y aS s.w.m.slots.length cS,Y aH s.w.m.heads.length cH,Y aF s.w.m.free.length cF,Y aL s.w.m.locks.length cL,O J s.w.m.now,Y aT s.w.ts.length cT]:=⟨_,rfl⟩
   have ho5:∀ j,j≠w.heap.size+1->W5.heap[j]?=wr.heap[j]?:=fun j hj=>by rw[hW5];exact Ad hj _ _ _
   have HX5:Hid (W5.heap[w.heap.size+1]?=some (.cells #[Y aS s.w.m.slots.length cS,Y aH s.w.m.heads.length cH,Y aF s.w.m.free.length cF,Y aL s.w.m.locks.length cL,O J s.w.m.now,Y aT s.w.ts.length cT] 28 (0,0))):=by show _=_;rw[hW5];exact Bg HYb.out rfl
   have HC5:Hid (Cs lo 0 0 W5 B1 B2 B3 B4 g v1 (Y aP l.length cP) v4 s.said pl s.beg Zx):=(HC.out.wide.more (Z':=Zx) (fun q hq=>HC.out.z q (.tail _ (.tail _ hq)))).off HYb.out ho5 (fun q hq=>by have:=HZx.out q hq;omega)
   have HW5:Hid (WAns w.heap.size W5 (.agg #[Y aS s.w.m.slots.length cS,Y aH s.w.m.heads.length cH,Y aF s.w.m.free.length cF,Y aL s.w.m.locks.length cL,O J s.w.m.now,Y aT s.w.ts.length cT]) s.w):=(HWi'.out W5 fun j h1 h2=>ho5 j (by have:=HZ.out.1;omega)).mono (by have:=HZ.out.1;omega)
   have Hb5:Hid (Below lo w W5):=by show Below lo w W5;rw[hW5];exact Ba Hb.out (by have:=Hlo.out;omega)
   clear ho5 HC HWi' Hb HXb HYb HrE
   go_wp2_with (first|refine wl_6 rfl _ rfl rfl l6.out ?_|(refine ws_6 rfl _ _ rfl rfl rfl t6.out (by kernel_rfl) ?_;rw[<- hW5];clear hW5 t6 l6))
   exact bodyPost_ret (results_cell_row Tryz.results79 _ _ (w.heap.size+1) 28 _ (0,0) _ rfl HX5.out Tryz.underlying28 rfl (by kernel_rfl)) rfl ⟨_,v1,v4,pl,rfl,by rw[<- HsE.out];exact HC5.out,by rw[<- HsE.out];exact HPl.out,by rw[<- HsE.out];exact HW5.out,Hb5.out⟩
end
section
open Go.ChangeShapes Go.WideShapes Go.ChangeAt Go.RowKit Go.Joins Go.Deep Go.Maps
theorem a3e(n:Nat):(madeCells (Value.int .i64 0).cells (n*1))=(encI ((List.replicate n 0).map Int.ofNat)).toArray:=by
 apply Array.ext'
 rw[Nat.mul_one]
 apply List.ext_getElem?
 intro j
 by_cases hj:j<n
 ·simp[madeCells,encI,hj,Value.cells,Nat.mod_one]
 ·rw[List.getElem?_eq_none (by simp[madeCells];omega),List.getElem?_eq_none (by simp[encI];omega)]
theorem Nw{W:World}{n B i:Nat}{cs:Array Value}{t:TypeId}{v:Value}(h:W.heap[B]?=some (.cells cs t (0,0)))(hv:cs[i]?=some v):Below n W (W.setCell ⟨B,i,none⟩ v):=by
 have h1:(W.setCell ⟨B,i,none⟩ v).heap[B]?=W.heap[B]?:=by
  rw[block_setCell (i:=i) h,h]
  congr 2
  apply Array.ext'
  have hi:=(Array.getElem?_eq_some_iff.1 hv).1
  have he:=(Array.getElem?_eq_some_iff.1 hv).2
  apply List.ext_getElem?
  intro j
  by_cases e:i=j
  ·subst e;simp[hi,he]
  ·simp[e]
 have h2:Below 0 W (W.setCell ⟨B,i,none⟩ v):=(Below.refl 0 W).setCell (Nat.zero_le _) v
 refine⟨h2.os,h2.tape,h2.output,h2.size,fun k _=>?_⟩
 by_cases e:k=B
 ·subst e;exact h1
 ·exact Below.heap_setCell _ _ _ _ (by dsimp only;exact e)
theorem Jf{B:Nat}{t:TypeId}{cs:Array Value}{n:Nat}:∀ (vs:List Value) (o:Nat) (W:World),W.heap[B]?=some (.cells cs t (0,0))->(∀ j,j<vs.length->cs[o+j]?=vs[j]?)->Below n W (W.setCells B o vs)
 | [],o,W,_,_=>Below.refl _ _
 | v :: vs,o,W,h,hv=>by
  have h1:∀ m,Below m W (W.setCell ⟨B,o,none⟩ v):=fun m=>Nw h (by have:=hv 0 (by simp);simpa using this)
  have h2:(W.setCell ⟨B,o,none⟩ v).heap[B]?=some (.cells cs t (0,0)):=((h1 W.heap.size).block _ (lt_of_block h)).trans h
  have h3:=Jf (n:=n) vs (o+1) (W.setCell ⟨B,o,none⟩ v) h2 (fun j hj=>by have:=hv (j+1) (by simp;omega);rw[show o+1+j=o+(j+1) by omega];simpa using this)
  exact(h1 n).trans h3
theorem Rq{B:Nat}{t:TypeId}{vs:List Value}{cs:Array Value}{n:Nat}{W:World}(h:W.heap[B]?=some (.cells cs t (0,0)))(e:cs=vs.toArray):Below n W (W.setCells B 0 vs) :=
 Jf vs 0 W h fun j _=>by rw[e];simp
def actR(x:Nat->Value):Act:=⟨#[x 0,x 1,x 2,x 3,x 4,x 5,x 6,x 7,x 8,x 9,x 10,x 11,x 12,x 13,x 14,x 15,x 16,x 17,x 18,x 19,x 20,x 21,x 22,x 23,x 24,x 25,x 26,x 27,x 28,x 29,x 30],[]⟩
def RunP(w:World)(s:Rs)(e:Ending)(w':World):Prop :=
 ∃ v v1 v4 pl,e=.returned (.tuple #[v,v1,v4,O J 0])/\WAns w.heap.size w' v s.w/\w'.ownsRow w.heap.size 36 1 v1 s.said.length (encI s.said)/\w'.ownsRow w.heap.size 78 13 v4 pl.length (encP pl)/\(∀ q∈pl,KOwn w' w.heap.size q.2.1 q.2.2 q.1.keys)/\pl.map (·.1)=s.past/\Below w.heap.size w w'
set_option maxHeartbeats 4000000 in
theorem run_any{W:Wd}(I:WInv W)(v:Value)(aP:Option Addr)(cP:Nat)(l:List Pk)(w:World)(hv:WAns 0 w v W)(hr:PRow w aP cP l)(hl:l.length<=300) :
  Calls Tryz.prog 35 #[v,Y aP l.length cP] w (RunP w (runR 0 (rs0 W) l)):=by
 have m1:=hr.max
 have hnt:=I.nt
 have hrl:0<l.length->∀ ad,aP=some ad->ad.block<w.heap.size:=fun h0 ad e=>by
  rcases hr.at_ with h|⟨b,o,rfl,hc⟩
  ·omega
  ·cases e
   exact cell_lt (hc 0 h0 0 _ rfl)
 have HI:Hid (WInv W):=I
 have HV:Hid (WAns 0 w v W):=hv
 have HR:Hid (PRow w aP cP l):=hr
 have HRl:Hid (0<l.length->∀ ad,aP=some ad->ad.block<w.heap.size):=hrl
 obtain⟨sE,hsE⟩:∃ sE:Rs,sE=runR 0 (rs0 W) l:=⟨_,rfl⟩
 rw[<- hsE]
 have HsE:Hid (sE=runR 0 (rs0 W) l):=hsE
 obtain⟨aS,aH,aF,aL,cS,cH,cF,cL,aT,cT,lt,rfl,-⟩:=id hv
 obtain⟨o0,ho0⟩:∃ o:Obj,o=.cells #[Y aS W.m.slots.length cS,Y aH W.m.heads.length cH,Y aF W.m.free.length cF,Y aL W.m.locks.length cL,O J W.m.now,Y aT W.ts.length cT] 28:=⟨_,rfl⟩
 obtain⟨o1,ho1⟩:∃ o:Obj,o=.cells #[Y aP l.length cP] 54:=⟨_,rfl⟩
 obtain⟨o2,ho2⟩:∃ o:Obj,o=.cells #[Y none 0 0,Y none 0 0,Y none 0 0,Y none 0 0,O J 0,Y none 0 0] 28:=⟨_,rfl⟩
 obtain⟨o3,ho3⟩:∃ o:Obj,o=.cells #[Y none 0 0] 68:=⟨_,rfl⟩
 obtain⟨o4,ho4⟩:∃ o:Obj,o=.cells #[Y none 0 0] 69:=⟨_,rfl⟩
 have HE0:Hid (Env w (((((w.alloc o0).alloc o1).alloc o2).alloc o3).alloc o4) [(w.heap.size+4,o4),(w.heap.size+3,o3),(w.heap.size+2,o2),(w.heap.size+1,o1),(w.heap.size,o0)] []):=by
  have h:=(((((⟨Below.refl _ _,(fun p hp=>by cases hp),(fun p hp=>by cases hp)⟩:Env w w [] []).alloc o0).alloc o1).alloc o2).alloc o3).alloc o4
  rw[show (w.alloc o0).heap.size=w.heap.size+1 by simp,show ((w.alloc o0).alloc o1).heap.size=w.heap.size+2 by simp,show (((w.alloc o0).alloc o1).alloc o2).heap.size=w.heap.size+3 by simp,show ((((w.alloc o0).alloc o1).alloc o2).alloc o3).heap.size=w.heap.size+4 by simp] at h
  exact h
 clear I hv hr hrl hsE
 go_enter Tryz.func35,Tryz.ntmps35
 have l6:Hid ((((((w.alloc (.cells #[Y aS W.m.slots.length cS,Y aH W.m.heads.length cH,Y aF W.m.free.length cF,Y aL W.m.locks.length cL,O J W.m.now,Y aT W.ts.length cT] 28)).alloc (.cells #[Y aP l.length cP] 54)).alloc (.cells #[Y none 0 0,Y none 0 0,Y none 0 0,Y none 0 0,O J 0,Y none 0 0] 28)).alloc (.cells #[Y none 0 0] 68)).alloc (.cells #[Y none 0 0] 69)).rangeAt w.heap.size 0 [Y aS W.m.slots.length cS,Y aH W.m.heads.length cH,Y aF W.m.free.length cF,Y aL W.m.locks.length cL,O J W.m.now,Y aT W.ts.length cT]):=by subst ho0 ho1 ho2 ho3 ho4;exact Aw (HE0.out.box _ (.tail _ (.tail _ (.tail _ (.tail _ (.head _)))))) rfl
 go_wp2_with (refine wl_6 rfl _ rfl rfl l6.out ?_)
 rw[<- ho0,<- ho1,<- ho2,<- ho3,<- ho4]
 rw[<- ho0,<- ho1,<- ho2,<- ho3,<- ho4] at l6
 clear l6
 generalize ((((w.alloc o0).alloc o1).alloc o2).alloc o3).alloc o4=W0 at *
 refine(Ve HI.out (HV.out.below HE0.out.bl)).mono ?_
 rintro e w1 ⟨rfl,hb1⟩
 have HE1:Hid (Env w w1 [(w.heap.size+4,o4),(w.heap.size+3,o3),(w.heap.size+2,o2),(w.heap.size+1,o1),(w.heap.size,o0)] []):=HE0.out.below hb1
 clear HE0 hb1
 subst ho0 ho1 ho2 ho3 ho4
 obtain⟨n,hn⟩:∃ n,n=W.ts.length:=⟨_,rfl⟩
 have Hn:Hid (n=W.ts.length):=hn
 obtain⟨G,hG⟩:∃ G:Array Value,G=(encI ((List.replicate n 0).map Int.ofNat)).toArray:=⟨_,rfl⟩
 obtain⟨i0,hi0,hz0,hz1,hz2⟩:=info_parts iI
 have hmk:∀ V:World,(Instr.makeSlice 23 (O J (W.ts.length:Int)) (O J (W.ts.length:Int))).run Tryz.prog V=.ok (Y (some ⟨V.heap.size,0,none⟩) W.ts.length W.ts.length) (V.alloc (.cells G 3)):=fun V=>by
  have h:=run_make (P:=Tryz.prog) V 23 3 i0 _ Tryz.underlying23 hi0 hz0 .i64 .i64 (W.ts.length:Int) (W.ts.length:Int) (by omega) (Int.le_refl _) (by rw[hz2];omega) (by omega)
  simp only[Int.toNat_natCast,hz1] at h
  rw[hG,hn,<- a3e];exact h
 have HG:Hid (G=(encI ((List.replicate n 0).map Int.ofNat)).toArray):=hG
 have Hb0:=HE1.out.box (w.heap.size,_) (.tail _ (.tail _ (.tail _ (.tail _ (.head _)))))
 obtain⟨q1,f1,s1⟩:=Aj (HE1.out.box (w.heap.size+1,_) (.tail _ (.tail _ (.tail _ (.head _)))))
 obtain⟨z0,z1,z2,z3,z4,z5,zs⟩:=Df Hb0
 obtain⟨oB,hoB⟩:∃ o:Obj,o=.cells #[Y (some ⟨w1.heap.size,0,none⟩) W.ts.length W.ts.length] 23:=⟨_,rfl⟩
 have HE2:Hid (Env w ((w1.alloc (.cells G 3)).alloc oB) [(w1.heap.size+1,oB),(w1.heap.size,.cells G 3),(w.heap.size+4,.cells #[Y none 0 0] 69),(w.heap.size+3,.cells #[Y none 0 0] 68),(w.heap.size+2,.cells #[Y none 0 0,Y none 0 0,Y none 0 0,Y none 0 0,O J 0,Y none 0 0] 28),(w.heap.size+1,.cells #[Y aP l.length cP] 54),(w.heap.size,.cells #[Y aS W.m.slots.length cS,Y aH W.m.heads.length cH,Y aF W.m.free.length cF,Y aL W.m.locks.length cL,O J W.m.now,Y aT W.ts.length cT] 28)] []):=by
  have h:=(HE1.out.alloc (.cells G 3)).alloc oB
  rw[show (w1.alloc (.cells G 3)).heap.size=w1.heap.size+1 by simp] at h
  exact h
 obtain⟨W2,hW2⟩:∃ W2,W2=(w1.alloc (.cells G 3)).alloc oB:=⟨_,rfl⟩
 rw[<- hW2] at HE2
 rw[hoB] at hW2 HE2
 have hz1':w.heap.size<=w1.heap.size:=HE1.out.bl.size
 have l6:Hid (W2.rangeAt w.heap.size 0 [Y aS W.m.slots.length cS,Y aH W.m.heads.length cH,Y aF W.m.free.length cF,Y aL W.m.locks.length cL,O J W.m.now,Y aT W.ts.length cT]):=Aw (HE2.out.box (w.heap.size,_) (.tail _ (.tail _ (.tail _ (.tail _ (.tail _ (.tail _ (.head _)))))))) rfl
 have q1':=(Aj (HE2.out.box (w.heap.size+1,_) (.tail _ (.tail _ (.tail _ (.tail _ (.tail _ (.head _)))))))).1
 have HC2:Hid (Cs w.heap.size 0 0 W2 (w.heap.size+3) (w.heap.size+1) (w1.heap.size+1) (w.heap.size+4) w1.heap.size (Y none 0 0) (Y aP l.length cP) (Y none 0 0) [] [] (List.replicate W.ts.length 0) [(w.heap.size+2,#[Y none 0 0,Y none 0 0,Y none 0 0,Y none 0 0,O J 0,Y none 0 0])]):=by
  have hz:∀ k,Out 0 0 k:=fun k hx=>by have:=hx.2;omega
  refine⟨HE2.out.box (w.heap.size+3,_) (.tail _ (.tail _ (.tail _ (.head _)))),World.ownsRow_nil _ _ _ _,fun k _=>hz k,?_,?_,hz _,HE2.out.box (w.heap.size+4,_) (.tail _ (.tail _ (.head _))),World.ownsRow_nil _ _ _ _,fun k _=>hz k,fun q hq=>(by cases hq),⟨by omega,hz _⟩,⟨by omega,hz _⟩,⟨by omega,hz _⟩,by omega,HE2.out.box (w.heap.size+1,_) (.tail _ (.tail _ (.tail _ (.tail _ (.tail _ (.head _)))))),⟨by omega,hz _⟩,?_⟩
  ·rw[List.length_replicate];exact HE2.out.box (w1.heap.size+1,_) (.head _)
  ·rw[<- Hn.out,<- HG.out];exact HE2.out.box (w1.heap.size,_) (.tail _ (.head _))
  ·intro q hq
   rw[List.mem_singleton] at hq
   subst hq
   exact HE2.out.box (w.heap.size+2,_) (.tail _ (.tail _ (.tail _ (.tail _ (.head _)))))
 have Hb2:Hid (Below w.heap.size w W2):=HE2.out.bl
 clear hoB hG hn hi0 hz0 hz1 hz2 HE1 HE2 Hb0 Hn HG
 have hl':(l.length:Int)<=300:=by omega
 go_wp2_with (first|(rw[<- hW2];refine wl_6 rfl _ rfl rfl l6.out ?_)|refine wl_6 rfl _ rfl rfl l6.out ?_)
 rw[<- hW2]
 clear hW2 l6 hmk z0 z1 z2 z3 z4 z5 zs q1 f1 s1 q1'
 refine(Zo w.heap.size W2 (w.heap.size+3) (w.heap.size+1) (w1.heap.size+1) (w.heap.size+4) w1.heap.size aP cP l _ _ (List.replicate W.ts.length 0) _ W _ HI.out (HV.out.below Hb2.out) HC2.out (HR.out.below Hb2.out) HRl.out hl (by simp) Hb2.out.size).mono ?_
 rintro e w3 ⟨v3,v1,v4,pl,rfl,hC3,hpl,hv3,hb3⟩
 rw[show runR 0 ⟨W,[],[],List.replicate W.ts.length 0⟩ l=sE from HsE.out.symm] at hC3 hpl hv3
 obtain⟨aS3,aH3,aF3,aL3,cS3,cH3,cF3,cL3,aT3,cT3,lt3,rfl,-⟩:=id hv3
 have hO3:=hC3.z (w.heap.size+2,#[Y none 0 0,Y none 0 0,Y none 0 0,Y none 0 0,O J 0,Y none 0 0]) (.head _)
 have t6:Hid (w3.there (w.heap.size+2) 0 6):=Bz hO3 (by simp)
 have hz4:w.heap.size+4<W2.heap.size:=lt_of_block HC2.out.p
 have b3:Below w.heap.size w w3:=Hb2.out.trans hb3
 obtain⟨W4,hW4⟩:∃ W4,W4=w3.setCells (w.heap.size+2) 0 [Y aS3 sE.w.m.slots.length cS3,Y aH3 sE.w.m.heads.length cH3,Y aF3 sE.w.m.free.length cF3,Y aL3 sE.w.m.locks.length cL3,O J sE.w.m.now,Y aT3 sE.w.ts.length cT3]:=⟨_,rfl⟩
 have ho4:∀ j,j≠w.heap.size+2->W4.heap[j]?=w3.heap[j]?:=fun j hj=>by rw[hW4];exact Ad hj _ _ _
 have HX4:Hid (W4.heap[w.heap.size+2]?=some (.cells #[Y aS3 sE.w.m.slots.length cS3,Y aH3 sE.w.m.heads.length cH3,Y aF3 sE.w.m.free.length cF3,Y aL3 sE.w.m.locks.length cL3,O J sE.w.m.now,Y aT3 sE.w.ts.length cT3] 28 (0,0))):=by show _=_;rw[hW4];exact Bg hO3 rfl
 have HC4:Hid (Cs w.heap.size 0 0 W4 (w.heap.size+3) (w.heap.size+1) (w1.heap.size+1) (w.heap.size+4) w1.heap.size v1 (Y aP l.length cP) v4 sE.said pl sE.beg []):=(hC3.more (Z':=[]) (fun q hq=>by cases hq)).off hO3 ho4 (fun q hq=>by cases hq)
 obtain⟨a1,k1,rfl⟩:=Cb HC4.out.so
 obtain⟨a4,k4,rfl⟩:=Cb HC4.out.po
 have HV4:Hid (WAns W2.heap.size W4 (.agg #[Y aS3 sE.w.m.slots.length cS3,Y aH3 sE.w.m.heads.length cH3,Y aF3 sE.w.m.free.length cF3,Y aL3 sE.w.m.locks.length cL3,O J sE.w.m.now,Y aT3 sE.w.ts.length cT3]) sE.w):=hv3.win fun k h1 h2=>ho4 k (by omega)
 have Hb4:Hid (Below w.heap.size w W4):=by show Below w.heap.size w W4;rw[hW4];exact Ba b3 (by omega)
 have HPl:Hid (pl.map (·.1)=sE.past):=hpl
 clear hC3 hpl hv3 hb3 b3 ho4 hO3 HC2 Hb2 HV HR
 go_wp2_with (refine ws_6 rfl _ _ rfl rfl rfl t6.out (by kernel_rfl) ?_;rw[<- hW4];clear hW4 t6)
 rename_i K0 hK0
 refine S9 (by kernel_rfl) actR rfl [28,29,30,100,101,102,7] (by decide) rfl (by kernel_rfl) (fun i v _=>(i=0->v=.agg #[Y aS3 sE.w.m.slots.length cS3,Y aH3 sE.w.m.heads.length cH3,Y aF3 sE.w.m.free.length cF3,Y aL3 sE.w.m.locks.length cL3,O J sE.w.m.now,Y aT3 sE.w.ts.length cT3])/\(i=1->v=Y a1 sE.said.length k1)/\(i=2->v=Y a4 pl.length k4)/\(i=6->v=O J 0)) (fun i v w w' h _=>h) ?_ ?_
 ·intro i hi x V hb hout hpre
  have hi':i<7:=hi
  clear hi
  have hXv:=(hb.block _ (lt_of_block HX4.out)).trans HX4.out
  have HCv:=HC4.out.below hb
  obtain⟨y0,y1,y2,y3,y4,y5,ys⟩:=Df hXv
  obtain⟨c1,d1,-⟩:=Aj HCv.s
  obtain⟨c4,d4,-⟩:=Aj HCv.p
  have x4:x 4=.pointer (some ⟨w.heap.size+2,0,none⟩):=hout 4 (by decide)
  have x5:x 5=.pointer (some ⟨w.heap.size+3,0,none⟩):=hout 5 (by decide)
  have x6:x 6=.pointer (some ⟨w.heap.size+4,0,none⟩):=hout 6 (by decide)
  obtain rfl|rfl|rfl|rfl|rfl|rfl|rfl:i=0\/i=1\/i=2\/i=3\/i=4\/i=5\/i=6:=by omega
  ·exact Ap rfl (Ae rfl) (v:=.agg #[Y aS3 sE.w.m.slots.length cS3,Y aH3 sE.w.m.heads.length cH3,Y aF3 sE.w.m.free.length cF3,Y aL3 sE.w.m.locks.length cL3,O J sE.w.m.now,Y aT3 sE.w.ts.length cT3]) (w':=V) (by simp[execOp,go_sem,(show (actR x).tmps[4]?.getD undef=_ from x4),y0,y1,y2,y3,y4,y5]) ⟨_,rfl,⟨fun _=>rfl,(fun h=>absurd h (by decide)),(fun h=>absurd h (by decide)),(fun h=>absurd h (by decide))⟩,Below.refl _ _⟩
  ·exact Ap rfl (Ae rfl) (v:=Y a1 sE.said.length k1) (w':=V) (by simp[execOp,go_sem,(show (actR x).tmps[5]?.getD undef=_ from x5),c1]) ⟨_,rfl,⟨(fun h=>absurd h (by decide)),fun _=>rfl,(fun h=>absurd h (by decide)),(fun h=>absurd h (by decide))⟩,Below.refl _ _⟩
  ·exact Ap rfl (Ae rfl) (v:=Y a4 pl.length k4) (w':=V) (by simp[execOp,go_sem,(show (actR x).tmps[6]?.getD undef=_ from x6),c4]) ⟨_,rfl,⟨(fun h=>absurd h (by decide)),(fun h=>absurd h (by decide)),fun _=>rfl,(fun h=>absurd h (by decide))⟩,Below.refl _ _⟩
  ·have p0:x 28=_:=(hpre 0 (by kernel_rfl)).1 rfl
   have f0:=fun j=>unfrozen_of_block hXv j
   exact Nr rfl (Ae rfl) (w':=V.setCells (w.heap.size+2) 0 [Y aS3 sE.w.m.slots.length cS3,Y aH3 sE.w.m.heads.length cH3,Y aF3 sE.w.m.free.length cF3,Y aL3 sE.w.m.locks.length cL3,O J sE.w.m.now,Y aT3 sE.w.ts.length cT3]) (by simp[execOp,go_sem,World.setCells,(show (actR x).tmps[4]?.getD undef=_ from x4),(show (actR x).tmps[28]?.getD undef=_ from p0),y0,y1,y2,y3,y4,y5,f0]) ⟨undef,rfl,⟨(fun h=>absurd h (by decide)),(fun h=>absurd h (by decide)),(fun h=>absurd h (by decide)),(fun h=>absurd h (by decide))⟩,Rq hXv rfl⟩
  ·have p0:x 29=_:=(hpre 1 (by kernel_rfl)).2.1 rfl
   exact Nr rfl (Ae rfl) (w':=V.setCell ⟨w.heap.size+3,0,none⟩ (Y a1 sE.said.length k1)) (by simp[execOp,go_sem,(show (actR x).tmps[5]?.getD undef=_ from x5),(show (actR x).tmps[29]?.getD undef=_ from p0),c1,d1]) ⟨undef,rfl,⟨(fun h=>absurd h (by decide)),(fun h=>absurd h (by decide)),(fun h=>absurd h (by decide)),(fun h=>absurd h (by decide))⟩,Nw HCv.s rfl⟩
  ·have p0:x 30=_:=(hpre 2 (by kernel_rfl)).2.2.1 rfl
   exact Nr rfl (Ae rfl) (w':=V.setCell ⟨w.heap.size+4,0,none⟩ (Y a4 pl.length k4)) (by simp[execOp,go_sem,(show (actR x).tmps[6]?.getD undef=_ from x6),(show (actR x).tmps[30]?.getD undef=_ from p0),c4,d4]) ⟨undef,rfl,⟨(fun h=>absurd h (by decide)),(fun h=>absurd h (by decide)),(fun h=>absurd h (by decide)),(fun h=>absurd h (by decide))⟩,Nw HCv.p rfl⟩
  ·exact Ap rfl (Ae rfl) (v:=O J 0) (w':=V) (by simp[execOp,go_sem]) ⟨_,rfl,⟨(fun h=>absurd h (by decide)),(fun h=>absurd h (by decide)),(fun h=>absurd h (by decide)),fun _=>rfl⟩,Below.refl _ _⟩
 ·intro x V hb hout hφ
  have p7:x 7=O J 0:=(hφ 6 (by decide)).2.2.2 rfl
  have x4:x 4=.pointer (some ⟨w.heap.size+2,0,none⟩):=hout 4 (by decide)
  have x5:x 5=.pointer (some ⟨w.heap.size+3,0,none⟩):=hout 5 (by decide)
  have x6:x 6=.pointer (some ⟨w.heap.size+4,0,none⟩):=hout 6 (by decide)
  have hXv:=(hb.block _ (lt_of_block HX4.out)).trans HX4.out
  have HCv:Hid _:=HC4.out.below hb
  have HVv:Hid (WAns w.heap.size V (.agg #[Y aS3 sE.w.m.slots.length cS3,Y aH3 sE.w.m.heads.length cH3,Y aF3 sE.w.m.free.length cF3,Y aL3 sE.w.m.locks.length cL3,O J sE.w.m.now,Y aT3 sE.w.ts.length cT3]) sE.w):=(HV4.out.below hb).mono (by omega)
  have Hbv:Hid (Below w.heap.size w V):=Hb4.out.trans (hb.mono Hb4.out.size)
  obtain⟨y0,y1,y2,y3,y4,y5,ys⟩:=Df hXv
  obtain⟨c1,d1,-⟩:=Aj HCv.out.s
  obtain⟨c4,d4,-⟩:=Aj HCv.out.p
  refine hK0 _ _ ?_
  unfold actR
  rw[x4,x5,x6,p7]
  go_wp2
  refine bodyPost_ret (v:=.tuple #[.agg #[Y aS3 sE.w.m.slots.length cS3,Y aH3 sE.w.m.heads.length cH3,Y aF3 sE.w.m.free.length cF3,Y aL3 sE.w.m.locks.length cL3,O J sE.w.m.now,Y aT3 sE.w.ts.length cT3],Y a1 sE.said.length k1,Y a4 pl.length k4,O J 0]) (by simp[results,Tryz.results35,go_sem,y0,y1,y2,y3,y4,y5,c1,c4]) rfl ?_
  exact⟨_,_,_,pl,rfl,HVv.out,HCv.out.so,HCv.out.po,fun q hq=>(HCv.out.pk q hq).1,HPl.out,Hbv.out⟩
end
section
open Go.ChangeShapes Go.WideShapes Go.ChangeAt Go.RowKit Go.Joins Go.Deep Go.Maps
def Pk.enc(x:Pk):List Value:=[O J x.task,.bool x.step,.bool x.tick,O J x.c.kind,O J x.c.a,O J x.c.b,O J x.c.time,O J x.c.bk,O J x.c.slot]
def encX(l:List Pk):List Value:=l.flatMap Pk.enc
theorem Vp(s:Pk)(l:List Pk):encX (s :: l)=s.enc++encX l:=by simp[encX]
theorem Yc(l l':List Pk):encX (l++l')=encX l++encX l':=by simp[encX]
theorem Yd:∀ (l:List Pk) (i q:Nat) (h:i<l.length) (hq:q<9),(encX l)[i*9+q]?=(l[i].enc)[q]?
 | [],i,q,h,_=>by simp at h
 | s :: l,0,q,h,hq=>by
  rw[Vp,Nat.zero_mul,Nat.zero_add,List.getElem?_append_left (by simp[Pk.enc];omega)];rfl
 | s :: l,i+1,q,h,hq=>by
  rw[Vp,List.getElem?_append_right (by simp[Pk.enc];omega),show (i+1)*9+q - s.enc.length=i*9+q by simp[Pk.enc];omega]
  exact Yd l i q (by simpa using h) hq
theorem Xm{w:World}{lo size n c:Nat}{e:TypeId}{a:Option Addr}{xs:List Value}(h:w.ownsRow lo e size (Y a n c) n xs)(h0:0<n):∃ g,a=some ⟨g,0,none⟩/\n<=c/\lo<=g/\g<w.heap.size/\∀ j,j<n*size->w.cell? ⟨g,j,none⟩=xs[j]?:=by
 obtain⟨h1,h2⟩:=h
 rcases h2 with ⟨-,h3⟩|⟨g,cap,cur,hv,hg,hb,hn,-,hs,hc⟩
 ·omega
 ·cases hv
  refine⟨g,rfl,hn,hg,lt_of_block hb,fun j hj=>?_⟩
  rw[cell_of_block hb,<- hc,List.getElem?_take_of_lt hj]
  simp
theorem PRow.own{w:World}{lo c:Nat}{a:Option Addr}{l:List Pk}(h:w.ownsRow lo 34 9 (Y a l.length c) l.length (encX l))(hm:l.length*64<=140737488355328):PRow w a c l:=by
 by_cases h0:l.length=0
 ·obtain⟨-,h2⟩:=h
  rcases h2 with ⟨hv,-⟩|⟨g,cap,cur,hv,-,-,hn,-⟩
  ·injection hv with e1 e2 e3
   subst e1 e3
   exact⟨by omega,hm,fun _=>rfl,.inl h0⟩
  ·injection hv with e1 e2 e3
   subst e1 e3
   exact⟨hn,hm,(fun e=>by cases e),.inl h0⟩
 ·obtain⟨g,rfl,hn,-,-,hc⟩:=Xm h (by omega)
  refine⟨hn,hm,(fun e=>by cases e),.inr ⟨g,0,rfl,fun i hi j v hv=>?_⟩⟩
  have hj:j<9:=by have:=(List.getElem?_eq_some_iff.1 hv).1;simpa using this
  rw[Nat.zero_add,hc (i*9+j) (by omega),Yd l i j hi hj]
  exact hv
theorem own_new(W:World)(e:TypeId)(size n lo:Nat)(cs:List Value)(hl:cs.length=n*size)(hn:n<=maxLen)(h:lo<=W.heap.size):(W.alloc (.cells cs.toArray e)).ownsRow lo e size (Y (some ⟨W.heap.size,0,none⟩) n n) n cs :=
 ⟨hl,.inr ⟨W.heap.size,n,cs.toArray,rfl,h,heap_alloc_new _ _,Nat.le_refl _,hn,by simpa using hl,by rw[<- hl];simp⟩⟩
theorem iX:(Tryz.prog.info? 34).map (fun i=>(i.zero,i.size,i.bytes))=some (some (.agg #[O J 0,.bool false,.bool false,O J 0,O J 0,O J 0,O J 0,O J 0,O J 0]),9,64):=by kernel_rfl
def pk1:Pk:=⟨0,false,false,⟨2,3,0,5,0,0⟩⟩
def pk2:Pk:=⟨1,false,false,⟨1,3,0,0,0,0⟩⟩
def pk3:Pk:=⟨1,true,false,⟨0,0,0,0,0,0⟩⟩
def pk0:Pk:=⟨0,true,false,⟨0,0,0,0,0,0⟩⟩
def pkT:Pk:=⟨0,false,true,⟨0,0,0,0,0,0⟩⟩
def plS(k:Nat):List Pk:=[pk1,pk2,pk3] ++ List.replicate k pk0
def plE:Rs:=runR 0 (rs0 (newW 2 1 2)) (plS 6 ++ [pk3,pk3,pkT])
theorem plE_said:plE.said=[0,0,0,0,0,0,0,0,0,0,8,0]:=by decide +kernel
theorem plE_past:plE.past.map (fun p=>(p.e,p.task,p.to))=[(0,0,8),(5,1,9)]:=by decide +kernel
theorem plE_now:plE.w.m.now=1:=by decide +kernel
theorem a4e:(Eu plE.w.m).length=1:=by decide +kernel
theorem runR_w:∀ (l:List Pk) (n:Nat) (s:Rs),(runR n s l).w=runW s.w l
 | [],_,_=>rfl
 | x :: l,n,s=>by show (runR (n+1) (Ew n s x) l).w=_;rw[runR_w l,Xp];rfl
theorem runR_inv{W:Wd}(I:WInv W)(l:List Pk):WInv (runR 0 (rs0 W) l).w:=by rw[runR_w];exact O7 l I
theorem plS_step(k:Nat):plS (k+1)=plS k ++ [pk0]:=by unfold plS;rw[List.append_assoc,List.replicate_succ']
theorem two_of{α:Type}:∀ {l:List α},l.length=2->∃ a b,l=[a,b]
 | [a,b],_=>⟨a,b,rfl⟩
 | [],h=>by cases h
 | [_],h=>by cases h
 | _ :: _ :: _ :: _,h=>by simp at h
set_option maxHeartbeats 1000000 in
theorem Tv:Played:=by
 intro w
 have HN:=Ym 2 1 2 w
 obtain⟨i0,hi0,hz0,hz1,hz2⟩:=info_parts iX
 go_enter Tryz.func18,Tryz.ntmps18
 go_wp2_with fail
 refine HN.mono ?_
 rintro e w1 ⟨v,rfl,hv,hb1⟩
 rw[show Oo 2 1 2=0 by decide,if_pos rfl,show newW (2:Int).toNat (1:Int).toNat (2:Int).toNat=newW 2 1 2 from rfl] at *
 have HI:Hid (WInv (newW 2 1 2)):=a3k (by omega) (by omega) (by omega)
 have HsE:Hid (plE=runR 0 (rs0 (newW 2 1 2)) (plS 6 ++ [pk3,pk3,pkT])):=rfl
 generalize newW 2 1 2=W0 at *
 obtain⟨aS,aH,aF,aL,cS,cH,cF,cL,aT,cT,lt,rfl,-⟩:=id hv
 clear HN
 have HV1:Hid (WAns w.heap.size w1 (.agg #[Y aS W0.m.slots.length cS,Y aH W0.m.heads.length cH,Y aF W0.m.free.length cF,Y aL W0.m.locks.length cL,O J W0.m.now,Y aT W0.ts.length cT]) W0):=hv
 have Hb1:Hid (Below w.heap.size w w1):=hb1
 have hz:w.heap.size<=w1.heap.size:=hb1.size
 clear hv hb1
 have HRun:Hid (∀ (V:World) (v:Value) (a:Option Addr) (c lo:Nat),V.ownsRow lo 34 9 (Y a 12 c) 12 (encX (plS 6 ++ [pk3,pk3,pkT]))->WAns 0 V v W0->Calls Tryz.prog 35 #[v,Y a 12 c] V (RunP V plE)):=fun V v a c lo h hv=>by
  rw[HsE.out]
  exact run_any HI.out v a c (plS 6 ++ [pk3,pk3,pkT]) V hv (PRow.own h (by decide)) (by decide)
 have HIe:Hid (WInv plE.w):=by show WInv plE.w;rw[HsE.out];exact runR_inv HI.out _
 go_wp2_with fail
 obtain⟨W2,hW2⟩:∃ W2,W2=(w1.alloc (.cells #[Y aS W0.m.slots.length cS,Y aH W0.m.heads.length cH,Y aF W0.m.free.length cF,Y aL W0.m.locks.length cL,O J W0.m.now,Y aT W0.ts.length cT] 28)).alloc (.cells #[O J 3,O J 0] 30):=⟨_,rfl⟩
 have b2:Below w1.heap.size w1 W2:=by rw[hW2];exact below_alloc2 _ _ _
 have HX2:Hid (W2.heap[w1.heap.size]?=some (.cells #[Y aS W0.m.slots.length cS,Y aH W0.m.heads.length cH,Y aF W0.m.free.length cF,Y aL W0.m.locks.length cL,O J W0.m.now,Y aT W0.ts.length cT] 28 (0,0))):=by show _=_;rw[hW2,Below.heap_alloc _ _ _ (by simp),heap_alloc_new]
 have HZ2:Hid (W2.heap.size=w1.heap.size+2):=by show _=_;rw[hW2];simp
 have HV2:Hid (WAns w.heap.size W2 (.agg #[Y aS W0.m.slots.length cS,Y aH W0.m.heads.length cH,Y aF W0.m.free.length cF,Y aL W0.m.locks.length cL,O J W0.m.now,Y aT W0.ts.length cT]) W0):=HV1.out.below b2
 have Hb2:Hid (Below w.heap.size w W2):=Hb1.out.trans (b2.mono hz)
 rw[<- hW2]
 clear hW2 b2 HV1 Hb1
 have HO3:Hid ((W2.alloc (.cells (encX (plS 0)).toArray 34)).ownsRow (w1.heap.size+2) 34 9 (Y (some ⟨w1.heap.size+2,0,none⟩) 3 3) 3 (encX (plS 0))):=by
  have h:=own_new W2 34 9 3 (w1.heap.size+2) (encX (plS 0)) rfl (by decide) (by have:=HZ2.out;omega)
  rw[HZ2.out] at h
  exact h
 have Hb3:Hid (Below (w1.heap.size+2) W2 (W2.alloc (.cells (encX (plS 0)).toArray 34))):=(Below.refl _ _).alloc (by have:=HZ2.out;omega) _
 go_loopw [4,23] (fun s i wr=>∃ (k:Nat) (a:Option Addr) (c:Nat),k<=6/\i=O J k/\s=Y a (3+k) c/\Hid (wr.ownsRow (w1.heap.size+2) 34 9 (Y a (3+k) c) (3+k) (encX (plS k)))/\Hid (Below (w1.heap.size+2) W2 wr)) (fun _ i _=>6 - (intOf i).toNat)
 case atStart=>exact⟨0,some ⟨w1.heap.size+2,0,none⟩,3,by omega,rfl,rfl,HO3,Hb3⟩
 case round =>
  obtain⟨k,a,c,hk,rfl,rfl,HO,Hb⟩:=hrel
  clear HO3 Hb3
  by_cases hlt:k<6
  ·have hlt':(k:Int)<6:=by omega
   have HC:Hid (∀ j u,[O J 0,.bool true,.bool false,O J 0,O J 0,O J 0,O J 0,O J 0,O J 0][j]?=some u->(wr.alloc (.cells #[O J 0,.bool true,.bool false,O J 0,O J 0,O J 0,O J 0,O J 0,O J 0] 34)).cell? ((⟨wr.heap.size,0,none⟩:Addr).add j)=some u):=Ny (vs:=[O J 0,.bool true,.bool false,O J 0,O J 0,O J 0,O J 0,O J 0,O J 0]) (heap_alloc_new _ _)
   have HS:Hid (w1.heap.size+2<=wr.heap.size):=by have:=Hb.out.size;have:=HZ2.out;show _<=_;omega
   have HBw:Hid (∀ w2:World,(wr.alloc (.cells #[O J 0,.bool true,.bool false,O J 0,O J 0,O J 0,O J 0,O J 0,O J 0] 34)).grownBy w2 (Value.slice a (3+k) c).ownBlock->Below (w1.heap.size+2) W2 w2):=fun w2 hg=>(Hb.out.alloc HS.out _).grown hg (by have:=HS.out;simp;omega) (fun q hq=>(HO.out.lt q hq).1)
   go_wp2_with (at_builtin;refine wpList_append_own_at _ rfl (.tmp 25) (.tmp 27) 54 rfl (w1.heap.size+2) 34 i0 (.agg #[O J 0,.bool false,.bool false,O J 0,O J 0,O J 0,O J 0,O J 0,O J 0]) 9 64 Tryz.underlying54 hi0 hz0 hz1 hz2 rfl (by decide) _ _ _ rfl (HO.out.alloc _) ⟨wr.heap.size,0,none⟩ 1 1 [O J 0,.bool true,.bool false,O J 0,O J 0,O J 0,O J 0,O J 0,O J 0] rfl rfl HC.out (by intro u hu;simp only[List.mem_cons,List.not_mem_nil,or_false] at hu;rcases hu with rfl|rfl|rfl|rfl|rfl|rfl|rfl|rfl|rfl <;> rfl) (by unfold maxLen;omega) (by omega) (by have:=HS.out;simp;omega) ?_;intro v2 w2 ho2 hg2 _ _;obtain⟨g2,cap2,rfl⟩:=ownsRow_form ho2 (by omega);have HO2:Hid (w2.ownsRow (w1.heap.size+2) 34 9 (Y (some ⟨g2,0,none⟩) (3+k+1) cap2) (3+k+1) (encX (plS k) ++ [O J 0,.bool true,.bool false,O J 0,O J 0,O J 0,O J 0,O J 0,O J 0])):=ho2;have Hb2':Hid (Below (w1.heap.size+2) W2 w2):=HBw.out w2 hg2;clear ho2 hg2)
   go_roundw
   case rel=>exact⟨k+1,some ⟨g2,0,none⟩,cap2,by omega,by go_num,rfl,by rw[plS_step,Yc];exact HO2,Hb2'⟩
   case measure=>simp[intOf];omega
  ·have hk6:k=6:=by omega
   subst hk6
   have HO9:Hid (wr.ownsRow (w1.heap.size+2) 34 9 (Y a 9 c) 9 (encX (plS 6))):=HO.out
   have HC:Hid (∀ j u,[O J 1,.bool true,.bool false,O J 0,O J 0,O J 0,O J 0,O J 0,O J 0,O J 1,.bool true,.bool false,O J 0,O J 0,O J 0,O J 0,O J 0,O J 0,O J 0,.bool false,.bool true,O J 0,O J 0,O J 0,O J 0,O J 0,O J 0][j]?=some u->(wr.alloc (.cells #[O J 1,.bool true,.bool false,O J 0,O J 0,O J 0,O J 0,O J 0,O J 0,O J 1,.bool true,.bool false,O J 0,O J 0,O J 0,O J 0,O J 0,O J 0,O J 0,.bool false,.bool true,O J 0,O J 0,O J 0,O J 0,O J 0,O J 0] 34)).cell? ((⟨wr.heap.size,0,none⟩:Addr).add j)=some u):=Ny (vs:=[O J 1,.bool true,.bool false,O J 0,O J 0,O J 0,O J 0,O J 0,O J 0,O J 1,.bool true,.bool false,O J 0,O J 0,O J 0,O J 0,O J 0,O J 0,O J 0,.bool false,.bool true,O J 0,O J 0,O J 0,O J 0,O J 0,O J 0]) (heap_alloc_new _ _)
   have HS:Hid (w1.heap.size+2<=wr.heap.size):=by have:=Hb.out.size;have:=HZ2.out;show _<=_;omega
   have HBw:Hid (∀ w2:World,(wr.alloc (.cells #[O J 1,.bool true,.bool false,O J 0,O J 0,O J 0,O J 0,O J 0,O J 0,O J 1,.bool true,.bool false,O J 0,O J 0,O J 0,O J 0,O J 0,O J 0,O J 0,.bool false,.bool true,O J 0,O J 0,O J 0,O J 0,O J 0,O J 0] 34)).grownBy w2 (Value.slice a 9 c).ownBlock->Below (w1.heap.size+2) W2 w2):=fun w2 hg=>(Hb.out.alloc HS.out _).grown hg (by have:=HS.out;simp;omega) (fun q hq=>(HO9.out.lt q hq).1)
   go_wp2_with (first|(at_builtin;refine wpList_append_own_at _ rfl (.tmp 30) (.tmp 34) 54 rfl (w1.heap.size+2) 34 i0 (.agg #[O J 0,.bool false,.bool false,O J 0,O J 0,O J 0,O J 0,O J 0,O J 0]) 9 64 Tryz.underlying54 hi0 hz0 hz1 hz2 rfl (by decide) _ _ _ rfl (HO9.out.alloc _) ⟨wr.heap.size,0,none⟩ 3 3 [O J 1,.bool true,.bool false,O J 0,O J 0,O J 0,O J 0,O J 0,O J 0,O J 1,.bool true,.bool false,O J 0,O J 0,O J 0,O J 0,O J 0,O J 0,O J 0,.bool false,.bool true,O J 0,O J 0,O J 0,O J 0,O J 0,O J 0] rfl rfl HC.out (by intro u hu;simp only[List.mem_cons,List.not_mem_nil,or_false] at hu;rcases hu with rfl|rfl|rfl|rfl|rfl|rfl|rfl|rfl|rfl|rfl|rfl|rfl|rfl|rfl|rfl|rfl|rfl|rfl|rfl|rfl|rfl|rfl|rfl|rfl|rfl|rfl|rfl <;> rfl) (by unfold maxLen;omega) (by omega) (by have:=HS.out;simp;omega) ?_;intro v2 w2 ho2 hg2 _ _;obtain⟨g2,cap2,rfl⟩:=ownsRow_form ho2 (by omega);have HO2:Hid (w2.ownsRow (w1.heap.size+2) 34 9 (Y (some ⟨g2,0,none⟩) 12 cap2) 12 (encX (plS 6 ++ [pk3,pk3,pkT]))):=(by show World.ownsRow _ _ _ _ _ _ _;rw[Yc];exact ho2);have Hb3:Hid (Below W2.heap.size W2 w2):=(by show Below _ _ _;rw[HZ2.out];exact HBw.out w2 hg2);have l6:Hid (w2.rangeAt w1.heap.size 0 [Y aS W0.m.slots.length cS,Y aH W0.m.heads.length cH,Y aF W0.m.free.length cF,Y aL W0.m.locks.length cL,O J W0.m.now,Y aT W0.ts.length cT]):=Aw ((Hb3.out.block _ (lt_of_block HX2.out)).trans HX2.out) rfl;clear ho2 hg2)|refine wl_6 rfl _ rfl rfl l6.out ?_)
   have HX3:Hid (w2.heap[w1.heap.size]?=_):=(Hb3.out.block _ (lt_of_block HX2.out)).trans HX2.out
   have Hb4:Hid (Below w.heap.size w w2):=Hb2.out.trans (Hb3.out.mono (by have:=HZ2.out;omega))
   refine(HRun.out w2 _ (some ⟨g2,0,none⟩) cap2 _ HO2.out ((HV2.out.below Hb3.out).mono (Nat.zero_le _))).mono ?_
   rintro e w5 ⟨v5,v15,v45,pl,rfl,hv5,ho15,ho45,-,hpl5,hb5⟩
   rw[plE_said] at ho15
   have hpl2:pl.map (fun q=>(q.1.e,q.1.task,q.1.to))=[(0,0,8),(5,1,9)]:=by
    have h:=plE_past
    rw[<- hpl5,List.map_map] at h
    exact h
   have hnow:Hid (plE.w.m.now=1):=plE_now
   have hfl:Hid ((Eu plE.w.m).length=1):=a4e
   have HX5:Hid (w5.heap[w1.heap.size]?=_):=(hb5.block _ (lt_of_block HX3.out)).trans HX3.out
   have hxz:w1.heap.size<w2.heap.size:=lt_of_block HX3.out
   generalize plE=sE at *
   clear hpl5 HsE HRun HO9 HC HBw HO HO2 HX3 HX2 HV2 Hb3 l6 Hb HS Hb2
   obtain⟨a1,k1,rfl⟩:=Cb ho15
   obtain⟨g1,rfl,hk1,hg1,-,hc1⟩:=Xm ho15 (by decide)
   obtain⟨q0,q1,rfl⟩:∃ q0 q1,pl=[q0,q1]:=two_of (by have h:=congrArg List.length hpl2;rw[List.length_map] at h;exact h)
   simp only[List.map_cons,List.map_nil,List.cons.injEq,Prod.mk.injEq,and_true] at hpl2
   obtain⟨⟨e0,e1,-⟩,e2,-,e3⟩:=hpl2
   obtain⟨a4,k4,rfl⟩:=Cb ho45
   obtain⟨g4,rfl,hk4,hg4,-,hc4⟩:=Xm ho45 (by simp)
   have c10:w5.cell? ⟨g1,10,none⟩=some (O J 8):=hc1 10 (by decide)
   have d0:w5.cell? ⟨g4,0,none⟩=some (O J 0):=by rw[hc4 0 (by simp),<- e1];rfl
   have d9:w5.cell? ⟨g4,9,none⟩=some (O J 0):=by rw[hc4 9 (by simp),<- e0];rfl
   have d22:w5.cell? ⟨g4,22,none⟩=some (O J 5):=by rw[hc4 22 (by simp),<- e2];rfl
   have d21:w5.cell? ⟨g4,21,none⟩=some (O J 9):=by rw[hc4 21 (by simp),show (9:Int)=((q1.1.to:Nat):Int) by rw[e3];rfl];rfl
   obtain⟨aS5,aH5,aF5,aL5,cS5,cH5,cF5,cL5,aT5,cT5,lt5,rfl,-⟩:=id hv5
   obtain⟨W6,hW6⟩:∃ W6,W6=w5.setCells w1.heap.size 0 [Y aS5 sE.w.m.slots.length cS5,Y aH5 sE.w.m.heads.length cH5,Y aF5 sE.w.m.free.length cF5,Y aL5 sE.w.m.locks.length cL5,O J sE.w.m.now,Y aT5 sE.w.ts.length cT5]:=⟨_,rfl⟩
   have ho6:∀ k,k≠w1.heap.size->W6.heap[k]?=w5.heap[k]?:=fun k hk=>by rw[hW6];exact Ad hk _ _ _
   have HX6:Hid (W6.heap[w1.heap.size]?=some (.cells #[Y aS5 sE.w.m.slots.length cS5,Y aH5 sE.w.m.heads.length cH5,Y aF5 sE.w.m.free.length cF5,Y aL5 sE.w.m.locks.length cL5,O J sE.w.m.now,Y aT5 sE.w.ts.length cT5] 28 (0,0))):=by show _=_;rw[hW6];exact Bg HX5.out rfl
   have HV6:Hid (WAns w2.heap.size W6 (.agg #[Y aS5 sE.w.m.slots.length cS5,Y aH5 sE.w.m.heads.length cH5,Y aF5 sE.w.m.free.length cF5,Y aL5 sE.w.m.locks.length cL5,O J sE.w.m.now,Y aT5 sE.w.ts.length cT5]) sE.w):=hv5.win fun k h1 h2=>ho6 k (by omega)
   have Hb6:Hid (Below w.heap.size w W6):=by show Below w.heap.size w W6;rw[hW6];exact Ba (Hb4.out.trans (hb5.mono Hb4.out.size)) hz
   have t6:Hid (w5.there w1.heap.size 0 6):=Bz HX5.out (by simp)
   have l6:Hid (W6.rangeAt w1.heap.size 0 [Y aS5 sE.w.m.slots.length cS5,Y aH5 sE.w.m.heads.length cH5,Y aF5 sE.w.m.free.length cF5,Y aL5 sE.w.m.locks.length cL5,O J sE.w.m.now,Y aT5 sE.w.ts.length cT5]):=Aw HX6.out rfl
   have hc6:∀ g j,w2.heap.size<=g->W6.cell? ⟨g,j,none⟩=w5.cell? ⟨g,j,none⟩:=fun g j hg=>World.cell?_of_block (ho6 g (by omega))
   have C10:Hid (W6.cell? ⟨g1,10,none⟩=some (O J 8)/\W6.cell? ⟨g4,0,none⟩=some (O J 0)/\W6.cell? ⟨g4,9,none⟩=some (O J 0)/\W6.cell? ⟨g4,22,none⟩=some (O J 5)/\W6.cell? ⟨g4,21,none⟩=some (O J 9)):=⟨(hc6 _ _ hg1).trans c10,(hc6 _ _ hg4).trans d0,(hc6 _ _ hg4).trans d9,(hc6 _ _ hg4).trans d22,(hc6 _ _ hg4).trans d21⟩
   clear hc1 hc4 c10 d0 d9 d22 d21 e0 e1 e2 e3 ho15 ho45 hv5 hb5 ho6 hc6 HX5 Hb4
   go_wp2_with (first|(refine ws_6 rfl _ _ rfl rfl rfl t6.out (by kernel_rfl) ?_;rw[<- hW6];clear hW6 t6)|refine wl_6 rfl _ rfl rfl l6.out ?_)
   refine(a2b HIe.out HV6.out).mono ?_
   rw[hfl.out]
   rintro e w7 ⟨ao,cap,rfl,-,hb7⟩
   have hX7:=(hb7.block _ (lt_of_block HX6.out)).trans HX6.out
   obtain⟨y0,y1,y2,y3,y4,y5,ys⟩:=Df hX7
   rw[hnow.out] at y4
   have g10:=(Ee hb7).1 g1 10 (cell_lt C10.out.1)
   have f0:=((Ee hb7).1 g4 0 (cell_lt C10.out.2.1)).trans C10.out.2.1
   have f9:=((Ee hb7).1 g4 9 (cell_lt C10.out.2.1)).trans C10.out.2.2.1
   have f22:=((Ee hb7).1 g4 22 (cell_lt C10.out.2.1)).trans C10.out.2.2.2.1
   have f21:=((Ee hb7).1 g4 21 (cell_lt C10.out.2.1)).trans C10.out.2.2.2.2
   rw[C10.out.1] at g10
   have Hb7:Hid (Below w.heap.size w w7):=Hb6.out.trans (hb7.mono Hb6.out.size)
   clear hb7 hX7 l6 HX6 HV6 Hb6 C10 hnow hfl y0 y1 y2 y3 y5 hg1 hg4
   go_wp2
   go_ret
   exact⟨rfl,Hb7.out⟩
end
section
open Go.ChangeShapes Go.WideShapes Go.ChangeAt Go.RowKit Go.Joins Go.Deep Go.Maps
theorem PRow.take{w:World}{ao:Option Addr}{cap:Nat}{l:List Pk}(r:PRow w ao cap l){m:Nat}(hm:m<=l.length):PRow w ao cap (l.take m):=by
 have hl:(l.take m).length=m:=by rw[List.length_take];omega
 refine⟨by rw[hl];exact Nat.le_trans hm r.le,by rw[hl];exact Nat.le_trans (Nat.mul_le_mul_right 64 hm) r.max,r.nil,?_⟩
 rcases r.at_ with h|⟨b,o,h,hc⟩
 ·left;omega
 ·refine .inr ⟨b,o,h,fun i hi=>?_⟩
  have:=hc i (by omega)
  rwa [List.getElem_take]
theorem a3i{many buckets tasks:Int}(h2:Oo many buckets tasks=0):(many.toNat<=12)/\(1<=buckets.toNat/\buckets.toNat<=4)/\(1<=tasks.toNat/\tasks.toNat<=5):=by
 unfold Oo at h2
 by_cases hn:newE many buckets=0
 ·rw[hn,if_neg (by simp)] at h2
  have h3:inB tasks 1 5=true:=by
   cases hb:inB tasks 1 5
   ·rw[hb] at h2;simp at h2
   ·rfl
  have h4:inB many 0 12=true/\inB buckets 1 4=true:=by
   unfold newE at hn
   cases h1:inB many 0 12 <;> cases h2:inB buckets 1 4 <;> simp[h1,h2] at hn ⊢
  rw[Ag] at h3
  rw[Ag,Ag] at h4
  omega
 ·rw[if_pos hn] at h2;cases h2
end
end Go.Proofs.YthhgoenomehobaaGreat.mm
