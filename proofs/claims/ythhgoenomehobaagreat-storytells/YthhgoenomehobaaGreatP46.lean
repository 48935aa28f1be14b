/- Parts. -/
import Derived.Test.YthhgoenomehobaaGreatP45
namespace Go.Proofs.YthhgoenomehobaaGreat.mm
open Go renaming lt_of_block → fC, heap_alloc_new → fP, wpList_append_own_at → gB, World → Wq
set_option maxRecDepth 100000
set_option linter.unusedVariables false
open Value renaming int → O, slice → Y
open IntKind renaming i64 → J
open Tryz renaming prog → Pg
open ChangeShapes WideShapes ChangeAt RowKit Joins Deep Maps
set_option maxHeartbeats 0
variable {α:Type}{w:Wq}(s:Pk){lo size n:Nat}(k:Nat){c:Nat}{e:TypeId}{ao:Option Addr}{bg:Nat}{a:Option Addr}{xs:List Value}{l:List Pk}(W:Wq)
def Pk.enc(x:Pk):List Value:=[O J x.s,.bool x.step,.bool x.tick,O J x.c.k,O J x.c.a,O J x.c.b,O J x.c.t,O J x.c.q,O J x.c.h]
def Ol(l:List Pk):List Value:=l.flatMap Pk.enc
theorem Yo(l:List Pk):Ol (s :: l)=s.enc++Ol l:=by simp[Ol]
theorem a0y(l l':List Pk):Ol (l++l')=Ol l++Ol l':=by simp[Ol]
theorem a0z:∀ (l:List Pk) (i q:Nat) (h:i<l.length) (hq:q<9),(Ol l)[i*9+q]?=(l[i].enc)[q]?
 | [],i,q,h,_=>by simp at h
 | s :: l,0,q,h,hq=>by
  rw[Yo,Nat.zero_mul,Nat.zero_add,List.getElem?_append_left (by simp[Pk.enc];omega)];rfl
 | s :: l,i+1,q,h,hq=>by
  rw[Yo,List.getElem?_append_right (by simp[Pk.enc];omega),show (i+1)*9+q - s.enc.length=i*9+q by simp[Pk.enc];omega]
  exact a0z l i q (by simpa using h) hq
theorem Zw(h:w.ownsRow lo e size (Y a n c) n xs)(h0:0<n):∃ g,a=some ⟨g,0,none⟩/\n<=c/\lo<=g/\g<w.heap.size/\∀ j,j<n*size->w.cell? ⟨g,j,none⟩=xs[j]?:=by
 obtain⟨h1,h2⟩:=h
 rcases h2 with ⟨-,h3⟩|⟨g,bg,sU,hv,hg,hb,hn,-,hs,hc⟩
 ·omega
 ·cases hv
  refine⟨g,rfl,hn,hg,fC hb,fun j hj=>?_⟩
  rw[cell_of_block hb,<- hc,List.getElem?_take_of_lt hj]
  simp
theorem H8.own(h:w.ownsRow lo 34 9 (Y a l.length c) l.length (Ol l))(hm:l.length*64<=140737488355328):H8 w a c l:=by
 by_cases h0:l.length=0
 ·obtain⟨-,h2⟩:=h
  rcases h2 with ⟨hv,-⟩|⟨g,bg,sU,hv,-,-,hn,-⟩
  ·injection hv with e1 e2 e3
   subst e1 e3
   exact⟨by omega,hm,fun _=>rfl,.inl h0⟩
  ·injection hv with e1 e2 e3
   subst e1 e3
   exact⟨hn,hm,(fun e=>by cases e),.inl h0⟩
 ·obtain⟨g,rfl,hn,-,-,hc⟩:=Zw h (by omega)
  refine⟨hn,hm,(fun e=>by cases e),.inr ⟨g,0,rfl,fun i hi j v hv=>?_⟩⟩
  have hj:j<9:=by have:=(List.getElem?_eq_some_iff.1 hv).1;simpa using this
  rw[Nat.zero_add,hc (i*9+j) (by omega),a0z l i j hi hj]
  exact hv
theorem b3z(e:TypeId)(size n lo:Nat)(cs:List Value)(hl:cs.length=n*size)(hn:n<=maxLen)(h:lo<=W.heap.size):(W.alloc (.cells cs.toArray e)).ownsRow lo e size (Y (some ⟨W.heap.size,0,none⟩) n n) n cs :=
 ⟨hl,.inr ⟨W.heap.size,n,cs.toArray,rfl,h,fP _ _,Nat.le_refl _,hn,by simpa using hl,by rw[<- hl];simp⟩⟩
theorem iX:(Pg.info? 34).map (fun i=>(i.zero,i.size,i.bytes))=some (some (.agg #[O J 0,.bool false,.bool false,O J 0,O J 0,O J 0,O J 0,O J 0,O J 0]),9,64):=by kernel_rfl
def pk1:Pk:=⟨0,false,false,⟨2,3,0,5,0,0⟩⟩
def pk2:Pk:=⟨1,false,false,⟨1,3,0,0,0,0⟩⟩
def pk3:Pk:=⟨1,true,false,⟨0,0,0,0,0,0⟩⟩
def pk0:Pk:=⟨0,true,false,⟨0,0,0,0,0,0⟩⟩
def pkT:Pk:=⟨0,false,true,⟨0,0,0,0,0,0⟩⟩
def plS(k:Nat):List Pk:=[pk1,pk2,pk3] ++ List.replicate k pk0
def plE:Rs:=Vk 0 (rs0 (Zu 2 1 2)) (plS 6 ++ [pk3,pk3,pkT])
theorem b1c:plE.said=[0,0,0,0,0,0,0,0,0,0,8,0]:=by decide +kernel
theorem b1b:plE.past.map (fun p=>(p.e,p.s,p.to))=[(0,0,8),(5,1,9)]:=by decide +kernel
theorem b4f:plE.w.m.w=1:=by decide +kernel
theorem a8d:(Gn plE.w.m).length=1:=by decide +kernel
theorem b1d:plS (k+1)=plS k ++ [pk0]:=by unfold plS;rw[List.append_assoc,List.replicate_succ']
theorem b6v:∀ {l:List α},l.length=2->∃ a b,l=[a,b]
 | [a,b],_=>⟨a,b,rfl⟩
 | [],h=>by cases h
 | [_],h=>by cases h
 | _ :: _ :: _ :: _,h=>by simp at h
theorem Rl:b5l:=by
 intro w
 have HN:=b0q 2 1 2 w
 obtain⟨i0,uS,ng,qj,pq⟩:=info_parts iX
 go_enter Tryz.func18,Tryz.ntmps18
 go_wp2_with fail
 refine HN.mono ?_
 rintro e w1 ⟨v,rfl,hv,bu⟩
 rw[show Tz 2 1 2=0 by decide,af rfl,show Zu (2:Int).toNat (1:Int).toNat (2:Int).toNat=Zu 2 1 2 from rfl] at *
 have HI:Qi (okB (plS 6 ++ [pk3,pk3,pkT]) (Zu 2 1 2)=true):=(by decide +kernel:okB (plS 6 ++ [pk3,pk3,pkT]) (Zu 2 1 2)=true)
 have FD:Qi (plE=Vk 0 (rs0 (Zu 2 1 2)) (plS 6 ++ [pk3,pk3,pkT])):=rfl
 generalize Zu 2 1 2=W0 at *
 obtain⟨aS,aH,aF,aL,cS,cH,cF,cL,aT,cT,lt,rfl,-⟩:=id hv
 clear HN
 have rW:Qi (Di w.heap.size w1 (.agg #[Y aS W0.m.s.length cS,Y aH W0.m.h.length cH,Y aF W0.m.f.length cF,Y aL W0.m.l.length cL,O J W0.m.w,Y aT W0.t.length cT]) W0):=hv
 have qZ:Qi (Below w.heap.size w w1):=bu
 have hz:w.heap.size<=w1.heap.size:=bu.size
 clear hv bu
 have XF:Qi (∀ (V:Wq) (v:Value) (a:Option Addr) (c lo:Nat),V.ownsRow lo 34 9 (Y a 12 c) 12 (Ol (plS 6 ++ [pk3,pk3,pkT]))->Di 0 V v W0->Calls Pg 35 #[v,Y a 12 c] V (RunP V plE)):=fun V v a c lo h hv=>by
  rw[FD.o]
  exact b6u v a c (plS 6 ++ [pk3,pk3,pkT]) V hv (H8.own h (by decide)) (by decide) HI.o
 have HIe:Qi (wE plE.w=0/\Gu plE.w.m=0):=(by decide +kernel:wE plE.w=0/\Gu plE.w.m=0)
 go_wp2_with fail
 obtain⟨W2,tu⟩:∃ W2,W2=(w1.alloc (.cells #[Y aS W0.m.s.length cS,Y aH W0.m.h.length cH,Y aF W0.m.f.length cF,Y aL W0.m.l.length cL,O J W0.m.w,Y aT W0.t.length cT] 28)).alloc (.cells #[O J 3,O J 0] 30):=⟨_,rfl⟩
 have b2:Below w1.heap.size w1 W2:=by rw[tu];exact below_alloc2 _ _ _
 have sZ:Qi (W2.heap[w1.heap.size]?=some (.cells #[Y aS W0.m.s.length cS,Y aH W0.m.h.length cH,Y aF W0.m.f.length cF,Y aL W0.m.l.length cL,O J W0.m.w,Y aT W0.t.length cT] 28 (0,0))):=by show _=_;rw[tu,Below.heap_alloc _ _ _ (by simp),fP]
 have rG:Qi (W2.heap.size=w1.heap.size+2):=by show _=_;rw[tu];simp
 have GY:Qi (Di w.heap.size W2 (.agg #[Y aS W0.m.s.length cS,Y aH W0.m.h.length cH,Y aF W0.m.f.length cF,Y aL W0.m.l.length cL,O J W0.m.w,Y aT W0.t.length cT]) W0):=rW.o.below b2
 have uo:Qi (Below w.heap.size w W2):=qZ.o.trans (b2.mono hz)
 rw[<- tu]
 clear tu b2 rW qZ
 have yR:Qi ((W2.alloc (.cells (Ol (plS 0)).toArray 34)).ownsRow (w1.heap.size+2) 34 9 (Y (some ⟨w1.heap.size+2,0,none⟩) 3 3) 3 (Ol (plS 0))):=by
  have h:=b3z W2 34 9 3 (w1.heap.size+2) (Ol (plS 0)) rfl (by decide) (by have:=rG.o;omega)
  rw[rG.o] at h
  exact h
 have vH:Qi (Below (w1.heap.size+2) W2 (W2.alloc (.cells (Ol (plS 0)).toArray 34))):=(Below.refl _ _).alloc (by have:=rG.o;omega) _
 go_loopw [4,23] (fun s i wr=>∃ (k:Nat) (a:Option Addr) (c:Nat),k<=6/\i=O J k/\s=Y a (3+k) c/\Qi (wr.ownsRow (w1.heap.size+2) 34 9 (Y a (3+k) c) (3+k) (Ol (plS k)))/\Qi (Below (w1.heap.size+2) W2 wr)) (fun _ i _=>6 - (intOf i).toNat)
 case atStart=>exact⟨0,some ⟨w1.heap.size+2,0,none⟩,3,by omega,rfl,rfl,yR,vH⟩
 case round =>
  obtain⟨k,a,c,hk,rfl,rfl,HO,Hb⟩:=hrel
  clear yR vH
  by_cases gm:k<6
  ·have hlt':(k:Int)<6:=by omega
   have HC:Qi (∀ j u,[O J 0,.bool true,.bool false,O J 0,O J 0,O J 0,O J 0,O J 0,O J 0][j]?=some u->(wr.alloc (.cells #[O J 0,.bool true,.bool false,O J 0,O J 0,O J 0,O J 0,O J 0,O J 0] 34)).cell? ((⟨wr.heap.size,0,none⟩:Addr).add j)=some u):=Qq (vs:=[O J 0,.bool true,.bool false,O J 0,O J 0,O J 0,O J 0,O J 0,O J 0]) (fP _ _)
   have HS:Qi (w1.heap.size+2<=wr.heap.size):=by have:=Hb.o.size;have:=rG.o;show _<=_;omega
   have xP:Qi (∀ w2:Wq,(wr.alloc (.cells #[O J 0,.bool true,.bool false,O J 0,O J 0,O J 0,O J 0,O J 0,O J 0] 34)).grownBy w2 (Value.slice a (3+k) c).ownBlock->Below (w1.heap.size+2) W2 w2):=fun w2 hg=>(Hb.o.alloc HS.o _).grown hg (by have:=HS.o;simp;omega) (fun q hq=>(HO.o.lt q hq).1)
   go_wp2_with (at_builtin;refine gB _ rfl (.tmp 25) (.tmp 27) 54 rfl (w1.heap.size+2) 34 i0 (.agg #[O J 0,.bool false,.bool false,O J 0,O J 0,O J 0,O J 0,O J 0,O J 0]) 9 64 Tryz.underlying54 uS ng qj pq rfl (by decide) _ _ _ rfl (HO.o.alloc _) ⟨wr.heap.size,0,none⟩ 1 1 [O J 0,.bool true,.bool false,O J 0,O J 0,O J 0,O J 0,O J 0,O J 0] rfl rfl HC.o (by intro u hu;simp only[List.mem_cons,List.not_mem_nil,or_false] at hu;rcases hu with rfl|rfl|rfl|rfl|rfl|rfl|rfl|rfl|rfl <;> rfl) (by unfold maxLen;omega) (by omega) (by have:=HS.o;simp;omega) ?_;intro v2 w2 jk lg _ _;obtain⟨g2,eu,rfl⟩:=ownsRow_form jk (by omega);have uw:Qi (w2.ownsRow (w1.heap.size+2) 34 9 (Y (some ⟨g2,0,none⟩) (3+k+1) eu) (3+k+1) (Ol (plS k) ++ [O J 0,.bool true,.bool false,O J 0,O J 0,O J 0,O J 0,O J 0,O J 0])):=jk;have Hb2':Qi (Below (w1.heap.size+2) W2 w2):=xP.o w2 lg;clear jk lg)
   go_roundw
   case rel=>exact⟨k+1,some ⟨g2,0,none⟩,eu,by omega,by go_num,rfl,by rw[b1d,a0y];exact uw,Hb2'⟩
   case measure=>simp[intOf];omega
  ·have EP:k=6:=by omega
   subst EP
   have HO9:Qi (wr.ownsRow (w1.heap.size+2) 34 9 (Y a 9 c) 9 (Ol (plS 6))):=HO.o
   have HC:Qi (∀ j u,[O J 1,.bool true,.bool false,O J 0,O J 0,O J 0,O J 0,O J 0,O J 0,O J 1,.bool true,.bool false,O J 0,O J 0,O J 0,O J 0,O J 0,O J 0,O J 0,.bool false,.bool true,O J 0,O J 0,O J 0,O J 0,O J 0,O J 0][j]?=some u->(wr.alloc (.cells #[O J 1,.bool true,.bool false,O J 0,O J 0,O J 0,O J 0,O J 0,O J 0,O J 1,.bool true,.bool false,O J 0,O J 0,O J 0,O J 0,O J 0,O J 0,O J 0,.bool false,.bool true,O J 0,O J 0,O J 0,O J 0,O J 0,O J 0] 34)).cell? ((⟨wr.heap.size,0,none⟩:Addr).add j)=some u):=Qq (vs:=[O J 1,.bool true,.bool false,O J 0,O J 0,O J 0,O J 0,O J 0,O J 0,O J 1,.bool true,.bool false,O J 0,O J 0,O J 0,O J 0,O J 0,O J 0,O J 0,.bool false,.bool true,O J 0,O J 0,O J 0,O J 0,O J 0,O J 0]) (fP _ _)
   have HS:Qi (w1.heap.size+2<=wr.heap.size):=by have:=Hb.o.size;have:=rG.o;show _<=_;omega
   have xP:Qi (∀ w2:Wq,(wr.alloc (.cells #[O J 1,.bool true,.bool false,O J 0,O J 0,O J 0,O J 0,O J 0,O J 0,O J 1,.bool true,.bool false,O J 0,O J 0,O J 0,O J 0,O J 0,O J 0,O J 0,.bool false,.bool true,O J 0,O J 0,O J 0,O J 0,O J 0,O J 0] 34)).grownBy w2 (Value.slice a 9 c).ownBlock->Below (w1.heap.size+2) W2 w2):=fun w2 hg=>(Hb.o.alloc HS.o _).grown hg (by have:=HS.o;simp;omega) (fun q hq=>(HO9.o.lt q hq).1)
   go_wp2_with (first|(at_builtin;refine gB _ rfl (.tmp 30) (.tmp 34) 54 rfl (w1.heap.size+2) 34 i0 (.agg #[O J 0,.bool false,.bool false,O J 0,O J 0,O J 0,O J 0,O J 0,O J 0]) 9 64 Tryz.underlying54 uS ng qj pq rfl (by decide) _ _ _ rfl (HO9.o.alloc _) ⟨wr.heap.size,0,none⟩ 3 3 [O J 1,.bool true,.bool false,O J 0,O J 0,O J 0,O J 0,O J 0,O J 0,O J 1,.bool true,.bool false,O J 0,O J 0,O J 0,O J 0,O J 0,O J 0,O J 0,.bool false,.bool true,O J 0,O J 0,O J 0,O J 0,O J 0,O J 0] rfl rfl HC.o (by intro u hu;simp only[List.mem_cons,List.not_mem_nil,or_false] at hu;rcases hu with rfl|rfl|rfl|rfl|rfl|rfl|rfl|rfl|rfl|rfl|rfl|rfl|rfl|rfl|rfl|rfl|rfl|rfl|rfl|rfl|rfl|rfl|rfl|rfl|rfl|rfl|rfl <;> rfl) (by unfold maxLen;omega) (by omega) (by have:=HS.o;simp;omega) ?_;intro v2 w2 jk lg _ _;obtain⟨g2,eu,rfl⟩:=ownsRow_form jk (by omega);have uw:Qi (w2.ownsRow (w1.heap.size+2) 34 9 (Y (some ⟨g2,0,none⟩) 12 eu) 12 (Ol (plS 6 ++ [pk3,pk3,pkT]))):=(by show World.ownsRow _ _ _ _ _ _ _;rw[a0y];exact jk);have vH:Qi (Below W2.heap.size W2 w2):=(by show Below _ _ _;rw[rG.o];exact xP.o w2 lg);have l6:Qi (w2.rangeAt w1.heap.size 0 [Y aS W0.m.s.length cS,Y aH W0.m.h.length cH,Y aF W0.m.f.length cF,Y aL W0.m.l.length cL,O J W0.m.w,Y aT W0.t.length cT]):=Aq ((vH.o.block _ (fC sZ.o)).trans sZ.o) rfl;clear jk lg)|refine F8 rfl _ rfl rfl l6.o ?_)
   have yO:Qi (w2.heap[w1.heap.size]?=_):=(vH.o.block _ (fC sZ.o)).trans sZ.o
   have FH:Qi (Below w.heap.size w w2):=uo.o.trans (vH.o.mono (by have:=rG.o;omega))
   refine(XF.o w2 _ (some ⟨g2,0,none⟩) eu _ uw.o ((GY.o.below vH.o).mono (Nat.zero_le _))).mono ?_
   rintro e w5 ⟨v5,xY,QD,pl,rfl,hv5,IZ,NV,-,wF,tY⟩
   rw[b1c] at IZ
   have NT:pl.map (fun q=>(q.1.e,q.1.s,q.1.to))=[(0,0,8),(5,1,9)]:=by
    have h:=b1b
    rw[<- wF,List.map_map] at h
    exact h
   have wH:Qi (plE.w.m.w=1):=b4f
   have hfl:Qi ((Gn plE.w.m).length=1):=a8d
   have GX:Qi (w5.heap[w1.heap.size]?=_):=(tY.block _ (fC yO.o)).trans yO.o
   have hxz:w1.heap.size<w2.heap.size:=fC yO.o
   generalize plE=sE at *
   clear wF FD XF HO9 HC xP HO uw yO sZ GY vH l6 Hb HS uo
   obtain⟨a1,k1,rfl⟩:=Bg IZ
   obtain⟨g1,rfl,ry,BD,-,qQ⟩:=Zw IZ (by decide)
   obtain⟨q0,q1,rfl⟩:∃ q0 q1,pl=[q0,q1]:=b6v (by have h:=congrArg List.length NT;rw[List.length_map] at h;exact h)
   simp only[List.map_cons,List.map_nil,List.cons.injEq,Prod.mk.injEq,and_true] at NT
   obtain⟨⟨e0,e1,-⟩,e2,-,e3⟩:=NT
   obtain⟨a4,k4,rfl⟩:=Bg NV
   obtain⟨g4,rfl,OB,UR,-,UZ⟩:=Zw NV (by simp)
   have c10:w5.cell? ⟨g1,10,none⟩=some (O J 8):=qQ 10 (by decide)
   have d0:w5.cell? ⟨g4,0,none⟩=some (O J 0):=by rw[UZ 0 (by simp),<- e1];rfl
   have d9:w5.cell? ⟨g4,9,none⟩=some (O J 0):=by rw[UZ 9 (by simp),<- e0];rfl
   have d22:w5.cell? ⟨g4,22,none⟩=some (O J 5):=by rw[UZ 22 (by simp),<- e2];rfl
   have d21:w5.cell? ⟨g4,21,none⟩=some (O J 9):=by rw[UZ 21 (by simp),show (9:Int)=((q1.1.to:Nat):Int) by rw[e3];rfl];rfl
   obtain⟨aS5,aH5,aF5,aL5,ZU,ZX,ZY,ZV,aT5,ZT,lt5,rfl,-⟩:=id hv5
   obtain⟨W6,VE⟩:∃ W6,W6=w5.setCells w1.heap.size 0 [Y aS5 sE.w.m.s.length ZU,Y aH5 sE.w.m.h.length ZX,Y aF5 sE.w.m.f.length ZY,Y aL5 sE.w.m.l.length ZV,O J sE.w.m.w,Y aT5 sE.w.t.length ZT]:=⟨_,rfl⟩
   have NU:∀ k,k≠w1.heap.size->W6.heap[k]?=w5.heap[k]?:=fun k hk=>by rw[VE];exact Af hk _ _ _
   have HX6:Qi (W6.heap[w1.heap.size]?=some (.cells #[Y aS5 sE.w.m.s.length ZU,Y aH5 sE.w.m.h.length ZX,Y aF5 sE.w.m.f.length ZY,Y aL5 sE.w.m.l.length ZV,O J sE.w.m.w,Y aT5 sE.w.t.length ZT] 28 (0,0))):=by show _=_;rw[VE];exact Bi GX.o rfl
   have HV6:Qi (Di w2.heap.size W6 (.agg #[Y aS5 sE.w.m.s.length ZU,Y aH5 sE.w.m.h.length ZX,Y aF5 sE.w.m.f.length ZY,Y aL5 sE.w.m.l.length ZV,O J sE.w.m.w,Y aT5 sE.w.t.length ZT]) sE.w):=hv5.win fun k h1 h2=>NU k (by omega)
   have Hb6:Qi (Below w.heap.size w W6):=by show Below w.heap.size w W6;rw[VE];exact Bd (FH.o.trans (tY.mono FH.o.size)) hz
   have t6:Qi (w5.there w1.heap.size 0 6):=Be GX.o (by simp)
   have l6:Qi (W6.rangeAt w1.heap.size 0 [Y aS5 sE.w.m.s.length ZU,Y aH5 sE.w.m.h.length ZX,Y aF5 sE.w.m.f.length ZY,Y aL5 sE.w.m.l.length ZV,O J sE.w.m.w,Y aT5 sE.w.t.length ZT]):=Aq HX6.o rfl
   have QQ:∀ g j,w2.heap.size<=g->W6.cell? ⟨g,j,none⟩=w5.cell? ⟨g,j,none⟩:=fun g j hg=>World.cell?_of_block (NU g (by omega))
   have AP:Qi (W6.cell? ⟨g1,10,none⟩=some (O J 8)/\W6.cell? ⟨g4,0,none⟩=some (O J 0)/\W6.cell? ⟨g4,9,none⟩=some (O J 0)/\W6.cell? ⟨g4,22,none⟩=some (O J 5)/\W6.cell? ⟨g4,21,none⟩=some (O J 9)):=⟨(QQ _ _ BD).trans c10,(QQ _ _ UR).trans d0,(QQ _ _ UR).trans d9,(QQ _ _ UR).trans d22,(QQ _ _ UR).trans d21⟩
   clear qQ UZ c10 d0 d9 d22 d21 e0 e1 e2 e3 IZ NV hv5 tY NU QQ GX FH
   go_wp2_with (first|(refine Iu rfl _ _ rfl rfl rfl t6.o (by kernel_rfl) ?_;rw[<- VE];clear VE t6)|refine F8 rfl _ rfl rfl l6.o ?_)
   refine(a5l HIe.o.1 HIe.o.2 HV6.o).mono ?_
   rw[hfl.o]
   rintro e w7 ⟨ao,bg,rfl,-,zn⟩
   have hX7:=(zn.block _ (fC HX6.o)).trans HX6.o
   obtain⟨y0,y1,y2,y3,y4,y5,ys⟩:=Bh hX7
   rw[wH.o] at y4
   have qm:=(Ce zn).1 g1 10 (cell_lt AP.o.1)
   have f0:=((Ce zn).1 g4 0 (cell_lt AP.o.2.1)).trans AP.o.2.1
   have f9:=((Ce zn).1 g4 9 (cell_lt AP.o.2.1)).trans AP.o.2.2.1
   have f22:=((Ce zn).1 g4 22 (cell_lt AP.o.2.1)).trans AP.o.2.2.2.1
   have f21:=((Ce zn).1 g4 21 (cell_lt AP.o.2.1)).trans AP.o.2.2.2.2
   rw[AP.o.1] at qm
   have Hb7:Qi (Below w.heap.size w w7):=Hb6.o.trans (zn.mono Hb6.o.size)
   clear zn hX7 l6 HX6 HV6 Hb6 AP wH hfl y0 y1 y2 y3 y5 BD UR
   go_wp2
   go_ret
   exact⟨rfl,Hb7.o⟩
theorem H8.take(r:H8 w ao bg l){m:Nat}(hm:m<=l.length):H8 w ao bg (l.take m):=by
 have hl:(l.take m).length=m:=by rw[List.length_take];omega
 refine⟨by rw[hl];exact Nat.le_trans hm r.le,by rw[hl];exact Nat.le_trans (Nat.mul_le_mul_right 64 hm) r.max,r.nil,?_⟩
 rcases r.at_ with h|⟨b,o,h,hc⟩
 ·left;omega
 ·refine .inr ⟨b,o,h,fun i hi=>?_⟩
  have:=hc i (by omega)
  rwa [List.getElem_take]
end Go.Proofs.YthhgoenomehobaaGreat.mm
