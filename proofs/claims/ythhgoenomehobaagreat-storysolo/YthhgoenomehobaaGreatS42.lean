/- Parts. -/
import Derived.Test.YthhgoenomehobaaGreatS40
import Derived.Test.YthhgoenomehobaaGreatS04
import Derived.Test.YthhgoenomehobaaGreatS41
import Derived.Test.YthhgoenomehobaaGreatS39
import Derived.Test.YthhgoenomehobaaGreatS06
namespace Go.Proofs.YthhgoenomehobaaGreat.mm
set_option maxRecDepth 100000
set_option linter.unusedVariables false
open Go.Value renaming int → O, slice → Y
open Go.IntKind renaming i64 → J
section
open Go.ChangeShapes Go.WideShapes Go.ChangeAt Go.RowKit Go.Joins Go.Deep Go.Maps
theorem a7s(n:Nat):(madeCells (Value.int .i64 0).cells (n*1))=(encI ((List.replicate n 0).map Int.ofNat)).toArray:=by
 apply Array.ext'
 rw[Nat.mul_one]
 apply List.ext_getElem?
 intro j
 by_cases hj:j<n
 ·simp[madeCells,encI,hj,Value.cells,Nat.mod_one]
 ·rw[List.getElem?_eq_none (by simp[madeCells];omega),List.getElem?_eq_none (by simp[encI];omega)]
theorem Qk{W:World}{n B i:Nat}{cs:Array Value}{t:TypeId}{v:Value}(h:W.heap[B]?=some (.cells cs t (0,0)))(hv:cs[i]?=some v):Below n W (W.setCell ⟨B,i,none⟩ v):=by
 have h1:(W.setCell ⟨B,i,none⟩ v).heap[B]?=W.heap[B]?:=by
  rw[block_setCell (i:=i) h,h]
  congr 2
  apply Array.ext'
  have hi:=(Array.getElem?_eq_some_iff.1 hv).1
  have he:=(Array.getElem?_eq_some_iff.1 hv).2
  apply List.ext_getElem?
  intro j
  by_cases e:i=j
  ·subst e;simp[hi,he]
  ·simp[e]
 have h2:Below 0 W (W.setCell ⟨B,i,none⟩ v):=(Below.refl 0 W).setCell (Nat.zero_le _) v
 refine⟨h2.os,h2.tape,h2.output,h2.size,fun k _=>?_⟩
 by_cases e:k=B
 ·subst e;exact h1
 ·exact Below.heap_setCell _ _ _ _ (by dsimp only;exact e)
theorem Oo{B:Nat}{t:TypeId}{cs:Array Value}{n:Nat}:∀ (vs:List Value) (o:Nat) (W:World),W.heap[B]?=some (.cells cs t (0,0))->(∀ j,j<vs.length->cs[o+j]?=vs[j]?)->Below n W (W.setCells B o vs)
 | [],o,W,_,_=>Below.refl _ _
 | v :: vs,o,W,h,hv=>by
  have h1:∀ m,Below m W (W.setCell ⟨B,o,none⟩ v):=fun m=>Qk h (by have:=hv 0 (by simp);simpa using this)
  have h2:(W.setCell ⟨B,o,none⟩ v).heap[B]?=some (.cells cs t (0,0)):=((h1 W.heap.size).block _ (lt_of_block h)).trans h
  have h3:=Oo (n:=n) vs (o+1) (W.setCell ⟨B,o,none⟩ v) h2 (fun j hj=>by have:=hv (j+1) (by simp;omega);rw[show o+1+j=o+(j+1) by omega];simpa using this)
  exact(h1 n).trans h3
theorem Vp{B:Nat}{t:TypeId}{vs:List Value}{cs:Array Value}{n:Nat}{W:World}(h:W.heap[B]?=some (.cells cs t (0,0)))(e:cs=vs.toArray):Below n W (W.setCells B 0 vs) :=
 Oo vs 0 W h fun j _=>by rw[e];simp
def Vk(x:Nat->Value):Act:=⟨#[x 0,x 1,x 2,x 3,x 4,x 5,x 6,x 7,x 8,x 9,x 10,x 11,x 12,x 13,x 14,x 15,x 16,x 17,x 18,x 19,x 20,x 21,x 22,x 23,x 24,x 25,x 26,x 27,x 28,x 29,x 30],[]⟩
def RunP(w:World)(s:Rs)(e:Ending)(w':World):Prop :=
 ∃ v v1 v4 pl,e=.returned (.tuple #[v,v1,v4,O J 0])/\Gh w.heap.size w' v s.w/\w'.ownsRow w.heap.size 36 1 v1 s.said.length (encI s.said)/\w'.ownsRow w.heap.size 78 13 v4 pl.length (a6l pl)/\(∀ q∈pl,Gg w' w.heap.size q.2.1 q.2.2 q.1.keys)/\pl.map (·.1)=s.past/\Below w.heap.size w w'
set_option maxHeartbeats 4000000 in
theorem run_any{W:Wd}(I:Bi W)(v:Value)(aP:Option Addr)(cP:Nat)(l:List Pk)(w:World)(hv:Gh 0 w v W)(hr:Na w aP cP l)(hl:l.length<=300) :
  Calls Tryz.prog 35 #[v,Y aP l.length cP] w (RunP w (Qv 0 (rs0 W) l)):=by
 have m1:=hr.max
 have hnt:=I.nt
 have hrl:0<l.length->∀ ad,aP=some ad->ad.block<w.heap.size:=fun h0 ad e=>by
  rcases hr.at_ with h|⟨b,o,rfl,hc⟩
  ·omega
  ·cases e
   exact cell_lt (hc 0 h0 0 _ rfl)
 have HI:Hid (Bi W):=I
 have HV:Hid (Gh 0 w v W):=hv
 have HR:Hid (Na w aP cP l):=hr
 have HRl:Hid (0<l.length->∀ ad,aP=some ad->ad.block<w.heap.size):=hrl
 obtain⟨sE,hsE⟩:∃ sE:Rs,sE=Qv 0 (rs0 W) l:=⟨_,rfl⟩
 rw[<- hsE]
 have HsE:Hid (sE=Qv 0 (rs0 W) l):=hsE
 obtain⟨aS,aH,aF,aL,cS,cH,cF,cL,aT,cT,lt,rfl,-⟩:=id hv
 obtain⟨o0,ho0⟩:∃ o:Obj,o=.cells #[Y aS W.m.slots.length cS,Y aH W.m.heads.length cH,Y aF W.m.free.length cF,Y aL W.m.locks.length cL,O J W.m.now,Y aT W.ts.length cT] 28:=⟨_,rfl⟩
 obtain⟨o1,ho1⟩:∃ o:Obj,o=.cells #[Y aP l.length cP] 54:=⟨_,rfl⟩
 obtain⟨o2,ho2⟩:∃ o:Obj,o=.cells #[Y none 0 0,Y none 0 0,Y none 0 0,Y none 0 0,O J 0,Y none 0 0] 28:=⟨_,rfl⟩
 obtain⟨o3,ho3⟩:∃ o:Obj,o=.cells #[Y none 0 0] 68:=⟨_,rfl⟩
 obtain⟨o4,ho4⟩:∃ o:Obj,o=.cells #[Y none 0 0] 69:=⟨_,rfl⟩
 have HE0:Hid (Env w (((((w.alloc o0).alloc o1).alloc o2).alloc o3).alloc o4) [(w.heap.size+4,o4),(w.heap.size+3,o3),(w.heap.size+2,o2),(w.heap.size+1,o1),(w.heap.size,o0)] []):=by
  have h:=(((((⟨Below.refl _ _,(fun p hp=>by cases hp),(fun p hp=>by cases hp)⟩:Env w w [] []).alloc o0).alloc o1).alloc o2).alloc o3).alloc o4
  rw[show (w.alloc o0).heap.size=w.heap.size+1 by simp,show ((w.alloc o0).alloc o1).heap.size=w.heap.size+2 by simp,show (((w.alloc o0).alloc o1).alloc o2).heap.size=w.heap.size+3 by simp,show ((((w.alloc o0).alloc o1).alloc o2).alloc o3).heap.size=w.heap.size+4 by simp] at h
  exact h
 clear I hv hr hrl hsE
 go_enter Tryz.func35,Tryz.ntmps35
 have l6:Hid ((((((w.alloc (.cells #[Y aS W.m.slots.length cS,Y aH W.m.heads.length cH,Y aF W.m.free.length cF,Y aL W.m.locks.length cL,O J W.m.now,Y aT W.ts.length cT] 28)).alloc (.cells #[Y aP l.length cP] 54)).alloc (.cells #[Y none 0 0,Y none 0 0,Y none 0 0,Y none 0 0,O J 0,Y none 0 0] 28)).alloc (.cells #[Y none 0 0] 68)).alloc (.cells #[Y none 0 0] 69)).rangeAt w.heap.size 0 [Y aS W.m.slots.length cS,Y aH W.m.heads.length cH,Y aF W.m.free.length cF,Y aL W.m.locks.length cL,O J W.m.now,Y aT W.ts.length cT]):=by subst ho0 ho1 ho2 ho3 ho4;exact Bz (HE0.out.box _ (.tail _ (.tail _ (.tail _ (.tail _ (.head _)))))) rfl
 go_wp2_with (refine Ky rfl _ rfl rfl l6.out ?_)
 rw[<- ho0,<- ho1,<- ho2,<- ho3,<- ho4]
 rw[<- ho0,<- ho1,<- ho2,<- ho3,<- ho4] at l6
 clear l6
 generalize ((((w.alloc o0).alloc o1).alloc o2).alloc o3).alloc o4=W0 at *
 refine(Yf HI.out (HV.out.below HE0.out.bl)).mono ?_
 rintro e w1 ⟨rfl,hb1⟩
 have HE1:Hid (Env w w1 [(w.heap.size+4,o4),(w.heap.size+3,o3),(w.heap.size+2,o2),(w.heap.size+1,o1),(w.heap.size,o0)] []):=HE0.out.below hb1
 clear HE0 hb1
 subst ho0 ho1 ho2 ho3 ho4
 obtain⟨n,hn⟩:∃ n,n=W.ts.length:=⟨_,rfl⟩
 have Hn:Hid (n=W.ts.length):=hn
 obtain⟨G,hG⟩:∃ G:Array Value,G=(encI ((List.replicate n 0).map Int.ofNat)).toArray:=⟨_,rfl⟩
 obtain⟨i0,hi0,hz0,hz1,hz2⟩:=info_parts iI
 have hmk:∀ V:World,(Instr.makeSlice 23 (O J (W.ts.length:Int)) (O J (W.ts.length:Int))).run Tryz.prog V=.ok (Y (some ⟨V.heap.size,0,none⟩) W.ts.length W.ts.length) (V.alloc (.cells G 3)):=fun V=>by
  have h:=run_make (P:=Tryz.prog) V 23 3 i0 _ Tryz.underlying23 hi0 hz0 .i64 .i64 (W.ts.length:Int) (W.ts.length:Int) (by omega) (Int.le_refl _) (by rw[hz2];omega) (by omega)
  simp only[Int.toNat_natCast,hz1] at h
  rw[hG,hn,<- a7s];exact h
 have HG:Hid (G=(encI ((List.replicate n 0).map Int.ofNat)).toArray):=hG
 have Hb0:=HE1.out.box (w.heap.size,_) (.tail _ (.tail _ (.tail _ (.tail _ (.head _)))))
 obtain⟨q1,f1,s1⟩:=Aq (HE1.out.box (w.heap.size+1,_) (.tail _ (.tail _ (.tail _ (.head _)))))
 obtain⟨z0,z1,z2,z3,z4,z5,zs⟩:=Ew Hb0
 obtain⟨oB,hoB⟩:∃ o:Obj,o=.cells #[Y (some ⟨w1.heap.size,0,none⟩) W.ts.length W.ts.length] 23:=⟨_,rfl⟩
 have HE2:Hid (Env w ((w1.alloc (.cells G 3)).alloc oB) [(w1.heap.size+1,oB),(w1.heap.size,.cells G 3),(w.heap.size+4,.cells #[Y none 0 0] 69),(w.heap.size+3,.cells #[Y none 0 0] 68),(w.heap.size+2,.cells #[Y none 0 0,Y none 0 0,Y none 0 0,Y none 0 0,O J 0,Y none 0 0] 28),(w.heap.size+1,.cells #[Y aP l.length cP] 54),(w.heap.size,.cells #[Y aS W.m.slots.length cS,Y aH W.m.heads.length cH,Y aF W.m.free.length cF,Y aL W.m.locks.length cL,O J W.m.now,Y aT W.ts.length cT] 28)] []):=by
  have h:=(HE1.out.alloc (.cells G 3)).alloc oB
  rw[show (w1.alloc (.cells G 3)).heap.size=w1.heap.size+1 by simp] at h
  exact h
 obtain⟨W2,hW2⟩:∃ W2,W2=(w1.alloc (.cells G 3)).alloc oB:=⟨_,rfl⟩
 rw[<- hW2] at HE2
 rw[hoB] at hW2 HE2
 have hz1':w.heap.size<=w1.heap.size:=HE1.out.bl.size
 have l6:Hid (W2.rangeAt w.heap.size 0 [Y aS W.m.slots.length cS,Y aH W.m.heads.length cH,Y aF W.m.free.length cF,Y aL W.m.locks.length cL,O J W.m.now,Y aT W.ts.length cT]):=Bz (HE2.out.box (w.heap.size,_) (.tail _ (.tail _ (.tail _ (.tail _ (.tail _ (.tail _ (.head _)))))))) rfl
 have q1':=(Aq (HE2.out.box (w.heap.size+1,_) (.tail _ (.tail _ (.tail _ (.tail _ (.tail _ (.head _)))))))).1
 have HC2:Hid (Cs w.heap.size 0 0 W2 (w.heap.size+3) (w.heap.size+1) (w1.heap.size+1) (w.heap.size+4) w1.heap.size (Y none 0 0) (Y aP l.length cP) (Y none 0 0) [] [] (List.replicate W.ts.length 0) [(w.heap.size+2,#[Y none 0 0,Y none 0 0,Y none 0 0,Y none 0 0,O J 0,Y none 0 0])]):=by
  have hz:∀ k,Out 0 0 k:=fun k hx=>by have:=hx.2;omega
  refine⟨HE2.out.box (w.heap.size+3,_) (.tail _ (.tail _ (.tail _ (.head _)))),World.ownsRow_nil _ _ _ _,fun k _=>hz k,?_,?_,hz _,HE2.out.box (w.heap.size+4,_) (.tail _ (.tail _ (.head _))),World.ownsRow_nil _ _ _ _,fun k _=>hz k,fun q hq=>(by cases hq),⟨by omega,hz _⟩,⟨by omega,hz _⟩,⟨by omega,hz _⟩,by omega,HE2.out.box (w.heap.size+1,_) (.tail _ (.tail _ (.tail _ (.tail _ (.tail _ (.head _)))))),⟨by omega,hz _⟩,?_⟩
  ·rw[List.length_replicate];exact HE2.out.box (w1.heap.size+1,_) (.head _)
  ·rw[<- Hn.out,<- HG.out];exact HE2.out.box (w1.heap.size,_) (.tail _ (.head _))
  ·intro q hq
   rw[List.mem_singleton] at hq
   subst hq
   exact HE2.out.box (w.heap.size+2,_) (.tail _ (.tail _ (.tail _ (.tail _ (.head _)))))
 have Hb2:Hid (Below w.heap.size w W2):=HE2.out.bl
 clear hoB hG hn hi0 hz0 hz1 hz2 HE1 HE2 Hb0 Hn HG
 have hl':(l.length:Int)<=300:=by omega
 go_wp2_with (first|(rw[<- hW2];refine Ky rfl _ rfl rfl l6.out ?_)|refine Ky rfl _ rfl rfl l6.out ?_)
 rw[<- hW2]
 clear hW2 l6 hmk z0 z1 z2 z3 z4 z5 zs q1 f1 s1 q1'
 refine(a2y w.heap.size W2 (w.heap.size+3) (w.heap.size+1) (w1.heap.size+1) (w.heap.size+4) w1.heap.size aP cP l _ _ (List.replicate W.ts.length 0) _ W _ HI.out (HV.out.below Hb2.out) HC2.out (HR.out.below Hb2.out) HRl.out hl (by simp) Hb2.out.size).mono ?_
 rintro e w3 ⟨v3,v1,v4,pl,rfl,hC3,hpl,hv3,hb3⟩
 rw[show Qv 0 ⟨W,[],[],List.replicate W.ts.length 0⟩ l=sE from HsE.out.symm] at hC3 hpl hv3
 obtain⟨aS3,aH3,aF3,aL3,cS3,cH3,cF3,cL3,aT3,cT3,lt3,rfl,-⟩:=id hv3
 have hO3:=hC3.z (w.heap.size+2,#[Y none 0 0,Y none 0 0,Y none 0 0,Y none 0 0,O J 0,Y none 0 0]) (.head _)
 have t6:Hid (w3.there (w.heap.size+2) 0 6):=Dn hO3 (by simp)
 have hz4:w.heap.size+4<W2.heap.size:=lt_of_block HC2.out.p
 have b3:Below w.heap.size w w3:=Hb2.out.trans hb3
 obtain⟨W4,hW4⟩:∃ W4,W4=w3.setCells (w.heap.size+2) 0 [Y aS3 sE.w.m.slots.length cS3,Y aH3 sE.w.m.heads.length cH3,Y aF3 sE.w.m.free.length cF3,Y aL3 sE.w.m.locks.length cL3,O J sE.w.m.now,Y aT3 sE.w.ts.length cT3]:=⟨_,rfl⟩
 have ho4:∀ j,j≠w.heap.size+2->W4.heap[j]?=w3.heap[j]?:=fun j hj=>by rw[hW4];exact Ae hj _ _ _
 have HX4:Hid (W4.heap[w.heap.size+2]?=some (.cells #[Y aS3 sE.w.m.slots.length cS3,Y aH3 sE.w.m.heads.length cH3,Y aF3 sE.w.m.free.length cF3,Y aL3 sE.w.m.locks.length cL3,O J sE.w.m.now,Y aT3 sE.w.ts.length cT3] 28 (0,0))):=by show _=_;rw[hW4];exact D5 hO3 rfl
 have HC4:Hid (Cs w.heap.size 0 0 W4 (w.heap.size+3) (w.heap.size+1) (w1.heap.size+1) (w.heap.size+4) w1.heap.size v1 (Y aP l.length cP) v4 sE.said pl sE.beg []):=(hC3.more (Z':=[]) (fun q hq=>by cases hq)).off hO3 ho4 (fun q hq=>by cases hq)
 obtain⟨a1,k1,rfl⟩:=D9 HC4.out.so
 obtain⟨a4,k4,rfl⟩:=D9 HC4.out.po
 have HV4:Hid (Gh W2.heap.size W4 (.agg #[Y aS3 sE.w.m.slots.length cS3,Y aH3 sE.w.m.heads.length cH3,Y aF3 sE.w.m.free.length cF3,Y aL3 sE.w.m.locks.length cL3,O J sE.w.m.now,Y aT3 sE.w.ts.length cT3]) sE.w):=hv3.win fun k h1 h2=>ho4 k (by omega)
 have Hb4:Hid (Below w.heap.size w W4):=by show Below w.heap.size w W4;rw[hW4];exact Bq b3 (by omega)
 have HPl:Hid (pl.map (·.1)=sE.past):=hpl
 clear hC3 hpl hv3 hb3 b3 ho4 hO3 HC2 Hb2 HV HR
 go_wp2_with (refine Qd rfl _ _ rfl rfl rfl t6.out (by kernel_rfl) ?_;rw[<- hW4];clear hW4 t6)
 rename_i K0 hK0
 refine Y2 (by kernel_rfl) Vk rfl [28,29,30,100,101,102,7] (by decide) rfl (by kernel_rfl) (fun i v _=>(i=0->v=.agg #[Y aS3 sE.w.m.slots.length cS3,Y aH3 sE.w.m.heads.length cH3,Y aF3 sE.w.m.free.length cF3,Y aL3 sE.w.m.locks.length cL3,O J sE.w.m.now,Y aT3 sE.w.ts.length cT3])/\(i=1->v=Y a1 sE.said.length k1)/\(i=2->v=Y a4 pl.length k4)/\(i=6->v=O J 0)) (fun i v w w' h _=>h) ?_ ?_
 ·intro i hi x V hb hout hpre
  have hi':i<7:=hi
  clear hi
  have hXv:=(hb.block _ (lt_of_block HX4.out)).trans HX4.out
  have HCv:=HC4.out.below hb
  obtain⟨y0,y1,y2,y3,y4,y5,ys⟩:=Ew hXv
  obtain⟨c1,d1,-⟩:=Aq HCv.s
  obtain⟨c4,d4,-⟩:=Aq HCv.p
  have x4:x 4=.pointer (some ⟨w.heap.size+2,0,none⟩):=hout 4 (by decide)
  have x5:x 5=.pointer (some ⟨w.heap.size+3,0,none⟩):=hout 5 (by decide)
  have x6:x 6=.pointer (some ⟨w.heap.size+4,0,none⟩):=hout 6 (by decide)
  obtain rfl|rfl|rfl|rfl|rfl|rfl|rfl:i=0\/i=1\/i=2\/i=3\/i=4\/i=5\/i=6:=by omega
  ·exact Dy rfl (C9 rfl) (v:=.agg #[Y aS3 sE.w.m.slots.length cS3,Y aH3 sE.w.m.heads.length cH3,Y aF3 sE.w.m.free.length cF3,Y aL3 sE.w.m.locks.length cL3,O J sE.w.m.now,Y aT3 sE.w.ts.length cT3]) (w':=V) (by simp[execOp,go_sem,(show (Vk x).tmps[4]?.getD undef=_ from x4),y0,y1,y2,y3,y4,y5]) ⟨_,rfl,⟨fun _=>rfl,(fun h=>absurd h (by decide)),(fun h=>absurd h (by decide)),(fun h=>absurd h (by decide))⟩,Below.refl _ _⟩
  ·exact Dy rfl (C9 rfl) (v:=Y a1 sE.said.length k1) (w':=V) (by simp[execOp,go_sem,(show (Vk x).tmps[5]?.getD undef=_ from x5),c1]) ⟨_,rfl,⟨(fun h=>absurd h (by decide)),fun _=>rfl,(fun h=>absurd h (by decide)),(fun h=>absurd h (by decide))⟩,Below.refl _ _⟩
  ·exact Dy rfl (C9 rfl) (v:=Y a4 pl.length k4) (w':=V) (by simp[execOp,go_sem,(show (Vk x).tmps[6]?.getD undef=_ from x6),c4]) ⟨_,rfl,⟨(fun h=>absurd h (by decide)),(fun h=>absurd h (by decide)),fun _=>rfl,(fun h=>absurd h (by decide))⟩,Below.refl _ _⟩
  ·have p0:x 28=_:=(hpre 0 (by kernel_rfl)).1 rfl
   have f0:=fun j=>unfrozen_of_block hXv j
   exact Qa rfl (C9 rfl) (w':=V.setCells (w.heap.size+2) 0 [Y aS3 sE.w.m.slots.length cS3,Y aH3 sE.w.m.heads.length cH3,Y aF3 sE.w.m.free.length cF3,Y aL3 sE.w.m.locks.length cL3,O J sE.w.m.now,Y aT3 sE.w.ts.length cT3]) (by simp[execOp,go_sem,World.setCells,(show (Vk x).tmps[4]?.getD undef=_ from x4),(show (Vk x).tmps[28]?.getD undef=_ from p0),y0,y1,y2,y3,y4,y5,f0]) ⟨undef,rfl,⟨(fun h=>absurd h (by decide)),(fun h=>absurd h (by decide)),(fun h=>absurd h (by decide)),(fun h=>absurd h (by decide))⟩,Vp hXv rfl⟩
  ·have p0:x 29=_:=(hpre 1 (by kernel_rfl)).2.1 rfl
   exact Qa rfl (C9 rfl) (w':=V.setCell ⟨w.heap.size+3,0,none⟩ (Y a1 sE.said.length k1)) (by simp[execOp,go_sem,(show (Vk x).tmps[5]?.getD undef=_ from x5),(show (Vk x).tmps[29]?.getD undef=_ from p0),c1,d1]) ⟨undef,rfl,⟨(fun h=>absurd h (by decide)),(fun h=>absurd h (by decide)),(fun h=>absurd h (by decide)),(fun h=>absurd h (by decide))⟩,Qk HCv.s rfl⟩
  ·have p0:x 30=_:=(hpre 2 (by kernel_rfl)).2.2.1 rfl
   exact Qa rfl (C9 rfl) (w':=V.setCell ⟨w.heap.size+4,0,none⟩ (Y a4 pl.length k4)) (by simp[execOp,go_sem,(show (Vk x).tmps[6]?.getD undef=_ from x6),(show (Vk x).tmps[30]?.getD undef=_ from p0),c4,d4]) ⟨undef,rfl,⟨(fun h=>absurd h (by decide)),(fun h=>absurd h (by decide)),(fun h=>absurd h (by decide)),(fun h=>absurd h (by decide))⟩,Qk HCv.p rfl⟩
  ·exact Dy rfl (C9 rfl) (v:=O J 0) (w':=V) (by simp[execOp,go_sem]) ⟨_,rfl,⟨(fun h=>absurd h (by decide)),(fun h=>absurd h (by decide)),(fun h=>absurd h (by decide)),fun _=>rfl⟩,Below.refl _ _⟩
 ·intro x V hb hout hφ
  have p7:x 7=O J 0:=(hφ 6 (by decide)).2.2.2 rfl
  have x4:x 4=.pointer (some ⟨w.heap.size+2,0,none⟩):=hout 4 (by decide)
  have x5:x 5=.pointer (some ⟨w.heap.size+3,0,none⟩):=hout 5 (by decide)
  have x6:x 6=.pointer (some ⟨w.heap.size+4,0,none⟩):=hout 6 (by decide)
  have hXv:=(hb.block _ (lt_of_block HX4.out)).trans HX4.out
  have HCv:Hid _:=HC4.out.below hb
  have HVv:Hid (Gh w.heap.size V (.agg #[Y aS3 sE.w.m.slots.length cS3,Y aH3 sE.w.m.heads.length cH3,Y aF3 sE.w.m.free.length cF3,Y aL3 sE.w.m.locks.length cL3,O J sE.w.m.now,Y aT3 sE.w.ts.length cT3]) sE.w):=(HV4.out.below hb).mono (by omega)
  have Hbv:Hid (Below w.heap.size w V):=Hb4.out.trans (hb.mono Hb4.out.size)
  obtain⟨y0,y1,y2,y3,y4,y5,ys⟩:=Ew hXv
  obtain⟨c1,d1,-⟩:=Aq HCv.out.s
  obtain⟨c4,d4,-⟩:=Aq HCv.out.p
  refine hK0 _ _ ?_
  unfold Vk
  rw[x4,x5,x6,p7]
  go_wp2
  refine bodyPost_ret (v:=.tuple #[.agg #[Y aS3 sE.w.m.slots.length cS3,Y aH3 sE.w.m.heads.length cH3,Y aF3 sE.w.m.free.length cF3,Y aL3 sE.w.m.locks.length cL3,O J sE.w.m.now,Y aT3 sE.w.ts.length cT3],Y a1 sE.said.length k1,Y a4 pl.length k4,O J 0]) (by simp[results,Tryz.results35,go_sem,y0,y1,y2,y3,y4,y5,c1,c4]) rfl ?_
  exact⟨_,_,_,pl,rfl,HVv.out,HCv.out.so,HCv.out.po,fun q hq=>(HCv.out.pk q hq).1,HPl.out,Hbv.out⟩
end
section
open Go.ChangeShapes Go.WideShapes Go.ChangeAt Go.RowKit Go.Joins Go.Deep
def b7t:Prop:=∀ w:World,Calls Tryz.prog 18 #[] w fun e w'=>e=.returned (.bool true)/\Below w.heap.size w w'
end
section
open Go.ChangeShapes Go.WideShapes Go.ChangeAt Go.RowKit Go.Joins Go.Deep Go.Maps
def Pk.enc(x:Pk):List Value:=[O J x.Bc,.bool x.step,.bool x.tick,O J x.c.kind,O J x.c.a,O J x.c.b,O J x.c.time,O J x.c.bk,O J x.c.slot]
def Ot(l:List Pk):List Value:=l.flatMap Pk.enc
theorem Yn(s:Pk)(l:List Pk):Ot (s :: l)=s.enc++Ot l:=by simp[Ot]
theorem a0l(l l':List Pk):Ot (l++l')=Ot l++Ot l':=by simp[Ot]
theorem a0m:∀ (l:List Pk) (i q:Nat) (h:i<l.length) (hq:q<9),(Ot l)[i*9+q]?=(l[i].enc)[q]?
 | [],i,q,h,_=>by simp at h
 | s :: l,0,q,h,hq=>by
  rw[Yn,Nat.zero_mul,Nat.zero_add,List.getElem?_append_left (by simp[Pk.enc];omega)];rfl
 | s :: l,i+1,q,h,hq=>by
  rw[Yn,List.getElem?_append_right (by simp[Pk.enc];omega),show (i+1)*9+q - s.enc.length=i*9+q by simp[Pk.enc];omega]
  exact a0m l i q (by simpa using h) hq
theorem Zo{w:World}{lo size n c:Nat}{e:TypeId}{a:Option Addr}{xs:List Value}(h:w.ownsRow lo e size (Y a n c) n xs)(h0:0<n):∃ g,a=some ⟨g,0,none⟩/\n<=c/\lo<=g/\g<w.heap.size/\∀ j,j<n*size->w.cell? ⟨g,j,none⟩=xs[j]?:=by
 obtain⟨h1,h2⟩:=h
 rcases h2 with ⟨-,h3⟩|⟨g,cap,cur,hv,hg,hb,hn,-,hs,hc⟩
 ·omega
 ·cases hv
  refine⟨g,rfl,hn,hg,lt_of_block hb,fun j hj=>?_⟩
  rw[cell_of_block hb,<- hc,List.getElem?_take_of_lt hj]
  simp
theorem Na.own{w:World}{lo c:Nat}{a:Option Addr}{l:List Pk}(h:w.ownsRow lo 34 9 (Y a l.length c) l.length (Ot l))(hm:l.length*64<=140737488355328):Na w a c l:=by
 by_cases h0:l.length=0
 ·obtain⟨-,h2⟩:=h
  rcases h2 with ⟨hv,-⟩|⟨g,cap,cur,hv,-,-,hn,-⟩
  ·injection hv with e1 e2 e3
   subst e1 e3
   exact⟨by omega,hm,fun _=>rfl,.inl h0⟩
  ·injection hv with e1 e2 e3
   subst e1 e3
   exact⟨hn,hm,(fun e=>by cases e),.inl h0⟩
 ·obtain⟨g,rfl,hn,-,-,hc⟩:=Zo h (by omega)
  refine⟨hn,hm,(fun e=>by cases e),.inr ⟨g,0,rfl,fun i hi j v hv=>?_⟩⟩
  have hj:j<9:=by have:=(List.getElem?_eq_some_iff.1 hv).1;simpa using this
  rw[Nat.zero_add,hc (i*9+j) (by omega),a0m l i j hi hj]
  exact hv
theorem b6e(W:World)(e:TypeId)(size n lo:Nat)(cs:List Value)(hl:cs.length=n*size)(hn:n<=maxLen)(h:lo<=W.heap.size):(W.alloc (.cells cs.toArray e)).ownsRow lo e size (Y (some ⟨W.heap.size,0,none⟩) n n) n cs :=
 ⟨hl,.inr ⟨W.heap.size,n,cs.toArray,rfl,h,heap_alloc_new _ _,Nat.le_refl _,hn,by simpa using hl,by rw[<- hl];simp⟩⟩
theorem iX:(Tryz.prog.info? 34).map (fun i=>(i.zero,i.size,i.bytes))=some (some (.agg #[O J 0,.bool false,.bool false,O J 0,O J 0,O J 0,O J 0,O J 0,O J 0]),9,64):=by kernel_rfl
def pk1:Pk:=⟨0,false,false,⟨2,3,0,5,0,0⟩⟩
def pk2:Pk:=⟨1,false,false,⟨1,3,0,0,0,0⟩⟩
def pk3:Pk:=⟨1,true,false,⟨0,0,0,0,0,0⟩⟩
def pk0:Pk:=⟨0,true,false,⟨0,0,0,0,0,0⟩⟩
def pkT:Pk:=⟨0,false,true,⟨0,0,0,0,0,0⟩⟩
def plS(k:Nat):List Pk:=[pk1,pk2,pk3] ++ List.replicate k pk0
def plE:Rs:=Qv 0 (rs0 (Js 2 1 2)) (plS 6 ++ [pk3,pk3,pkT])
theorem b1y:plE.said=[0,0,0,0,0,0,0,0,0,0,8,0]:=by decide +kernel
theorem b1x:plE.past.map (fun p=>(p.e,p.Bc,p.to))=[(0,0,8),(5,1,9)]:=by decide +kernel
theorem b6g:plE.w.m.now=1:=by decide +kernel
theorem a8f:(Gx plE.w.m).length=1:=by decide +kernel
theorem b2h:∀ (l:List Pk) (n:Nat) (s:Rs),(Qv n s l).w=b6h s.w l
 | [],_,_=>rfl
 | x :: l,n,s=>by show (Qv (n+1) (Pi n s x) l).w=_;rw[b2h l,b6n];rfl
theorem b2g{W:Wd}(I:Bi W)(l:List Pk):Bi (Qv 0 (rs0 W) l).w:=by rw[b2h];exact a5f l I
theorem b1z(k:Nat):plS (k+1)=plS k ++ [pk0]:=by unfold plS;rw[List.append_assoc,List.replicate_succ']
theorem b9t{α:Type}:∀ {l:List α},l.length=2->∃ a b,l=[a,b]
 | [a,b],_=>⟨a,b,rfl⟩
 | [],h=>by cases h
 | [_],h=>by cases h
 | _ :: _ :: _ :: _,h=>by simp at h
set_option maxHeartbeats 1000000 in
theorem a3n:b7t:=by
 intro w
 have HN:=a1i 2 1 2 w
 obtain⟨i0,hi0,hz0,hz1,hz2⟩:=info_parts iX
 go_enter Tryz.func18,Tryz.ntmps18
 go_wp2_with fail
 refine HN.mono ?_
 rintro e w1 ⟨v,rfl,hv,hb1⟩
 rw[show Nu 2 1 2=0 by decide,if_pos rfl,show Js (2:Int).toNat (1:Int).toNat (2:Int).toNat=Js 2 1 2 from rfl] at *
 have HI:Hid (Bi (Js 2 1 2)):=a5b (by omega) (by omega) (by omega)
 have HsE:Hid (plE=Qv 0 (rs0 (Js 2 1 2)) (plS 6 ++ [pk3,pk3,pkT])):=rfl
 generalize Js 2 1 2=W0 at *
 obtain⟨aS,aH,aF,aL,cS,cH,cF,cL,aT,cT,lt,rfl,-⟩:=id hv
 clear HN
 have HV1:Hid (Gh w.heap.size w1 (.agg #[Y aS W0.m.slots.length cS,Y aH W0.m.heads.length cH,Y aF W0.m.free.length cF,Y aL W0.m.locks.length cL,O J W0.m.now,Y aT W0.ts.length cT]) W0):=hv
 have Hb1:Hid (Below w.heap.size w w1):=hb1
 have hz:w.heap.size<=w1.heap.size:=hb1.size
 clear hv hb1
 have HRun:Hid (∀ (V:World) (v:Value) (a:Option Addr) (c lo:Nat),V.ownsRow lo 34 9 (Y a 12 c) 12 (Ot (plS 6 ++ [pk3,pk3,pkT]))->Gh 0 V v W0->Calls Tryz.prog 35 #[v,Y a 12 c] V (RunP V plE)):=fun V v a c lo h hv=>by
  rw[HsE.out]
  exact run_any HI.out v a c (plS 6 ++ [pk3,pk3,pkT]) V hv (Na.own h (by decide)) (by decide)
 have HIe:Hid (Bi plE.w):=by show Bi plE.w;rw[HsE.out];exact b2g HI.out _
 go_wp2_with fail
 obtain⟨W2,hW2⟩:∃ W2,W2=(w1.alloc (.cells #[Y aS W0.m.slots.length cS,Y aH W0.m.heads.length cH,Y aF W0.m.free.length cF,Y aL W0.m.locks.length cL,O J W0.m.now,Y aT W0.ts.length cT] 28)).alloc (.cells #[O J 3,O J 0] 30):=⟨_,rfl⟩
 have b2:Below w1.heap.size w1 W2:=by rw[hW2];exact below_alloc2 _ _ _
 have HX2:Hid (W2.heap[w1.heap.size]?=some (.cells #[Y aS W0.m.slots.length cS,Y aH W0.m.heads.length cH,Y aF W0.m.free.length cF,Y aL W0.m.locks.length cL,O J W0.m.now,Y aT W0.ts.length cT] 28 (0,0))):=by show _=_;rw[hW2,Below.heap_alloc _ _ _ (by simp),heap_alloc_new]
 have HZ2:Hid (W2.heap.size=w1.heap.size+2):=by show _=_;rw[hW2];simp
 have HV2:Hid (Gh w.heap.size W2 (.agg #[Y aS W0.m.slots.length cS,Y aH W0.m.heads.length cH,Y aF W0.m.free.length cF,Y aL W0.m.locks.length cL,O J W0.m.now,Y aT W0.ts.length cT]) W0):=HV1.out.below b2
 have Hb2:Hid (Below w.heap.size w W2):=Hb1.out.trans (b2.mono hz)
 rw[<- hW2]
 clear hW2 b2 HV1 Hb1
 have HO3:Hid ((W2.alloc (.cells (Ot (plS 0)).toArray 34)).ownsRow (w1.heap.size+2) 34 9 (Y (some ⟨w1.heap.size+2,0,none⟩) 3 3) 3 (Ot (plS 0))):=by
  have h:=b6e W2 34 9 3 (w1.heap.size+2) (Ot (plS 0)) rfl (by decide) (by have:=HZ2.out;omega)
  rw[HZ2.out] at h
  exact h
 have Hb3:Hid (Below (w1.heap.size+2) W2 (W2.alloc (.cells (Ot (plS 0)).toArray 34))):=(Below.refl _ _).alloc (by have:=HZ2.out;omega) _
 go_loopw [4,23] (fun s i wr=>∃ (k:Nat) (a:Option Addr) (c:Nat),k<=6/\i=O J k/\s=Y a (3+k) c/\Hid (wr.ownsRow (w1.heap.size+2) 34 9 (Y a (3+k) c) (3+k) (Ot (plS k)))/\Hid (Below (w1.heap.size+2) W2 wr)) (fun _ i _=>6 - (intOf i).toNat)
 case atStart=>exact⟨0,some ⟨w1.heap.size+2,0,none⟩,3,by omega,rfl,rfl,HO3,Hb3⟩
 case round =>
  obtain⟨k,a,c,hk,rfl,rfl,HO,Hb⟩:=hrel
  clear HO3 Hb3
  by_cases hlt:k<6
  ·have hlt':(k:Int)<6:=by omega
   have HC:Hid (∀ j u,[O J 0,.bool true,.bool false,O J 0,O J 0,O J 0,O J 0,O J 0,O J 0][j]?=some u->(wr.alloc (.cells #[O J 0,.bool true,.bool false,O J 0,O J 0,O J 0,O J 0,O J 0,O J 0] 34)).cell? ((⟨wr.heap.size,0,none⟩:Addr).add j)=some u):=Ql (vs:=[O J 0,.bool true,.bool false,O J 0,O J 0,O J 0,O J 0,O J 0,O J 0]) (heap_alloc_new _ _)
   have HS:Hid (w1.heap.size+2<=wr.heap.size):=by have:=Hb.out.size;have:=HZ2.out;show _<=_;omega
   have HBw:Hid (∀ w2:World,(wr.alloc (.cells #[O J 0,.bool true,.bool false,O J 0,O J 0,O J 0,O J 0,O J 0,O J 0] 34)).grownBy w2 (Value.slice a (3+k) c).ownBlock->Below (w1.heap.size+2) W2 w2):=fun w2 hg=>(Hb.out.alloc HS.out _).grown hg (by have:=HS.out;simp;omega) (fun q hq=>(HO.out.lt q hq).1)
   go_wp2_with (at_builtin;refine wpList_append_own_at _ rfl (.tmp 25) (.tmp 27) 54 rfl (w1.heap.size+2) 34 i0 (.agg #[O J 0,.bool false,.bool false,O J 0,O J 0,O J 0,O J 0,O J 0,O J 0]) 9 64 Tryz.underlying54 hi0 hz0 hz1 hz2 rfl (by decide) _ _ _ rfl (HO.out.alloc _) ⟨wr.heap.size,0,none⟩ 1 1 [O J 0,.bool true,.bool false,O J 0,O J 0,O J 0,O J 0,O J 0,O J 0] rfl rfl HC.out (by intro u hu;simp only[List.mem_cons,List.not_mem_nil,or_false] at hu;rcases hu with rfl|rfl|rfl|rfl|rfl|rfl|rfl|rfl|rfl <;> rfl) (by unfold maxLen;omega) (by omega) (by have:=HS.out;simp;omega) ?_;intro v2 w2 ho2 hg2 _ _;obtain⟨g2,cap2,rfl⟩:=ownsRow_form ho2 (by omega);have HO2:Hid (w2.ownsRow (w1.heap.size+2) 34 9 (Y (some ⟨g2,0,none⟩) (3+k+1) cap2) (3+k+1) (Ot (plS k) ++ [O J 0,.bool true,.bool false,O J 0,O J 0,O J 0,O J 0,O J 0,O J 0])):=ho2;have Hb2':Hid (Below (w1.heap.size+2) W2 w2):=HBw.out w2 hg2;clear ho2 hg2)
   go_roundw
   case rel=>exact⟨k+1,some ⟨g2,0,none⟩,cap2,by omega,by go_num,rfl,by rw[b1z,a0l];exact HO2,Hb2'⟩
   case measure=>simp[intOf];omega
  ·have hk6:k=6:=by omega
   subst hk6
   have HO9:Hid (wr.ownsRow (w1.heap.size+2) 34 9 (Y a 9 c) 9 (Ot (plS 6))):=HO.out
   have HC:Hid (∀ j u,[O J 1,.bool true,.bool false,O J 0,O J 0,O J 0,O J 0,O J 0,O J 0,O J 1,.bool true,.bool false,O J 0,O J 0,O J 0,O J 0,O J 0,O J 0,O J 0,.bool false,.bool true,O J 0,O J 0,O J 0,O J 0,O J 0,O J 0][j]?=some u->(wr.alloc (.cells #[O J 1,.bool true,.bool false,O J 0,O J 0,O J 0,O J 0,O J 0,O J 0,O J 1,.bool true,.bool false,O J 0,O J 0,O J 0,O J 0,O J 0,O J 0,O J 0,.bool false,.bool true,O J 0,O J 0,O J 0,O J 0,O J 0,O J 0] 34)).cell? ((⟨wr.heap.size,0,none⟩:Addr).add j)=some u):=Ql (vs:=[O J 1,.bool true,.bool false,O J 0,O J 0,O J 0,O J 0,O J 0,O J 0,O J 1,.bool true,.bool false,O J 0,O J 0,O J 0,O J 0,O J 0,O J 0,O J 0,.bool false,.bool true,O J 0,O J 0,O J 0,O J 0,O J 0,O J 0]) (heap_alloc_new _ _)
   have HS:Hid (w1.heap.size+2<=wr.heap.size):=by have:=Hb.out.size;have:=HZ2.out;show _<=_;omega
   have HBw:Hid (∀ w2:World,(wr.alloc (.cells #[O J 1,.bool true,.bool false,O J 0,O J 0,O J 0,O J 0,O J 0,O J 0,O J 1,.bool true,.bool false,O J 0,O J 0,O J 0,O J 0,O J 0,O J 0,O J 0,.bool false,.bool true,O J 0,O J 0,O J 0,O J 0,O J 0,O J 0] 34)).grownBy w2 (Value.slice a 9 c).ownBlock->Below (w1.heap.size+2) W2 w2):=fun w2 hg=>(Hb.out.alloc HS.out _).grown hg (by have:=HS.out;simp;omega) (fun q hq=>(HO9.out.lt q hq).1)
   go_wp2_with (first|(at_builtin;refine wpList_append_own_at _ rfl (.tmp 30) (.tmp 34) 54 rfl (w1.heap.size+2) 34 i0 (.agg #[O J 0,.bool false,.bool false,O J 0,O J 0,O J 0,O J 0,O J 0,O J 0]) 9 64 Tryz.underlying54 hi0 hz0 hz1 hz2 rfl (by decide) _ _ _ rfl (HO9.out.alloc _) ⟨wr.heap.size,0,none⟩ 3 3 [O J 1,.bool true,.bool false,O J 0,O J 0,O J 0,O J 0,O J 0,O J 0,O J 1,.bool true,.bool false,O J 0,O J 0,O J 0,O J 0,O J 0,O J 0,O J 0,.bool false,.bool true,O J 0,O J 0,O J 0,O J 0,O J 0,O J 0] rfl rfl HC.out (by intro u hu;simp only[List.mem_cons,List.not_mem_nil,or_false] at hu;rcases hu with rfl|rfl|rfl|rfl|rfl|rfl|rfl|rfl|rfl|rfl|rfl|rfl|rfl|rfl|rfl|rfl|rfl|rfl|rfl|rfl|rfl|rfl|rfl|rfl|rfl|rfl|rfl <;> rfl) (by unfold maxLen;omega) (by omega) (by have:=HS.out;simp;omega) ?_;intro v2 w2 ho2 hg2 _ _;obtain⟨g2,cap2,rfl⟩:=ownsRow_form ho2 (by omega);have HO2:Hid (w2.ownsRow (w1.heap.size+2) 34 9 (Y (some ⟨g2,0,none⟩) 12 cap2) 12 (Ot (plS 6 ++ [pk3,pk3,pkT]))):=(by show World.ownsRow _ _ _ _ _ _ _;rw[a0l];exact ho2);have Hb3:Hid (Below W2.heap.size W2 w2):=(by show Below _ _ _;rw[HZ2.out];exact HBw.out w2 hg2);have l6:Hid (w2.rangeAt w1.heap.size 0 [Y aS W0.m.slots.length cS,Y aH W0.m.heads.length cH,Y aF W0.m.free.length cF,Y aL W0.m.locks.length cL,O J W0.m.now,Y aT W0.ts.length cT]):=Bz ((Hb3.out.block _ (lt_of_block HX2.out)).trans HX2.out) rfl;clear ho2 hg2)|refine Ky rfl _ rfl rfl l6.out ?_)
   have HX3:Hid (w2.heap[w1.heap.size]?=_):=(Hb3.out.block _ (lt_of_block HX2.out)).trans HX2.out
   have Hb4:Hid (Below w.heap.size w w2):=Hb2.out.trans (Hb3.out.mono (by have:=HZ2.out;omega))
   refine(HRun.out w2 _ (some ⟨g2,0,none⟩) cap2 _ HO2.out ((HV2.out.below Hb3.out).mono (Nat.zero_le _))).mono ?_
   rintro e w5 ⟨v5,v15,v45,pl,rfl,hv5,ho15,ho45,-,hpl5,hb5⟩
   rw[b1y] at ho15
   have hpl2:pl.map (fun q=>(q.1.e,q.1.Bc,q.1.to))=[(0,0,8),(5,1,9)]:=by
    have h:=b1x
    rw[<- hpl5,List.map_map] at h
    exact h
   have hnow:Hid (plE.w.m.now=1):=b6g
   have hfl:Hid ((Gx plE.w.m).length=1):=a8f
   have HX5:Hid (w5.heap[w1.heap.size]?=_):=(hb5.block _ (lt_of_block HX3.out)).trans HX3.out
   have hxz:w1.heap.size<w2.heap.size:=lt_of_block HX3.out
   generalize plE=sE at *
   clear hpl5 HsE HRun HO9 HC HBw HO HO2 HX3 HX2 HV2 Hb3 l6 Hb HS Hb2
   obtain⟨a1,k1,rfl⟩:=D9 ho15
   obtain⟨g1,rfl,hk1,hg1,-,hc1⟩:=Zo ho15 (by decide)
   obtain⟨q0,q1,rfl⟩:∃ q0 q1,pl=[q0,q1]:=b9t (by have h:=congrArg List.length hpl2;rw[List.length_map] at h;exact h)
   simp only[List.map_cons,List.map_nil,List.cons.injEq,Prod.mk.injEq,and_true] at hpl2
   obtain⟨⟨e0,e1,-⟩,e2,-,e3⟩:=hpl2
   obtain⟨a4,k4,rfl⟩:=D9 ho45
   obtain⟨g4,rfl,hk4,hg4,-,hc4⟩:=Zo ho45 (by simp)
   have c10:w5.cell? ⟨g1,10,none⟩=some (O J 8):=hc1 10 (by decide)
   have d0:w5.cell? ⟨g4,0,none⟩=some (O J 0):=by rw[hc4 0 (by simp),<- e1];rfl
   have d9:w5.cell? ⟨g4,9,none⟩=some (O J 0):=by rw[hc4 9 (by simp),<- e0];rfl
   have d22:w5.cell? ⟨g4,22,none⟩=some (O J 5):=by rw[hc4 22 (by simp),<- e2];rfl
   have d21:w5.cell? ⟨g4,21,none⟩=some (O J 9):=by rw[hc4 21 (by simp),show (9:Int)=((q1.1.to:Nat):Int) by rw[e3];rfl];rfl
   obtain⟨aS5,aH5,aF5,aL5,cS5,cH5,cF5,cL5,aT5,cT5,lt5,rfl,-⟩:=id hv5
   obtain⟨W6,hW6⟩:∃ W6,W6=w5.setCells w1.heap.size 0 [Y aS5 sE.w.m.slots.length cS5,Y aH5 sE.w.m.heads.length cH5,Y aF5 sE.w.m.free.length cF5,Y aL5 sE.w.m.locks.length cL5,O J sE.w.m.now,Y aT5 sE.w.ts.length cT5]:=⟨_,rfl⟩
   have ho6:∀ k,k≠w1.heap.size->W6.heap[k]?=w5.heap[k]?:=fun k hk=>by rw[hW6];exact Ae hk _ _ _
   have HX6:Hid (W6.heap[w1.heap.size]?=some (.cells #[Y aS5 sE.w.m.slots.length cS5,Y aH5 sE.w.m.heads.length cH5,Y aF5 sE.w.m.free.length cF5,Y aL5 sE.w.m.locks.length cL5,O J sE.w.m.now,Y aT5 sE.w.ts.length cT5] 28 (0,0))):=by show _=_;rw[hW6];exact D5 HX5.out rfl
   have HV6:Hid (Gh w2.heap.size W6 (.agg #[Y aS5 sE.w.m.slots.length cS5,Y aH5 sE.w.m.heads.length cH5,Y aF5 sE.w.m.free.length cF5,Y aL5 sE.w.m.locks.length cL5,O J sE.w.m.now,Y aT5 sE.w.ts.length cT5]) sE.w):=hv5.win fun k h1 h2=>ho6 k (by omega)
   have Hb6:Hid (Below w.heap.size w W6):=by show Below w.heap.size w W6;rw[hW6];exact Bq (Hb4.out.trans (hb5.mono Hb4.out.size)) hz
   have t6:Hid (w5.there w1.heap.size 0 6):=Dn HX5.out (by simp)
   have l6:Hid (W6.rangeAt w1.heap.size 0 [Y aS5 sE.w.m.slots.length cS5,Y aH5 sE.w.m.heads.length cH5,Y aF5 sE.w.m.free.length cF5,Y aL5 sE.w.m.locks.length cL5,O J sE.w.m.now,Y aT5 sE.w.ts.length cT5]):=Bz HX6.out rfl
   have hc6:∀ g j,w2.heap.size<=g->W6.cell? ⟨g,j,none⟩=w5.cell? ⟨g,j,none⟩:=fun g j hg=>World.cell?_of_block (ho6 g (by omega))
   have C10:Hid (W6.cell? ⟨g1,10,none⟩=some (O J 8)/\W6.cell? ⟨g4,0,none⟩=some (O J 0)/\W6.cell? ⟨g4,9,none⟩=some (O J 0)/\W6.cell? ⟨g4,22,none⟩=some (O J 5)/\W6.cell? ⟨g4,21,none⟩=some (O J 9)):=⟨(hc6 _ _ hg1).trans c10,(hc6 _ _ hg4).trans d0,(hc6 _ _ hg4).trans d9,(hc6 _ _ hg4).trans d22,(hc6 _ _ hg4).trans d21⟩
   clear hc1 hc4 c10 d0 d9 d22 d21 e0 e1 e2 e3 ho15 ho45 hv5 hb5 ho6 hc6 HX5 Hb4
   go_wp2_with (first|(refine Qd rfl _ _ rfl rfl rfl t6.out (by kernel_rfl) ?_;rw[<- hW6];clear hW6 t6)|refine Ky rfl _ rfl rfl l6.out ?_)
   refine(Yo HIe.out HV6.out).mono ?_
   rw[hfl.out]
   rintro e w7 ⟨ao,cap,rfl,-,hb7⟩
   have hX7:=(hb7.block _ (lt_of_block HX6.out)).trans HX6.out
   obtain⟨y0,y1,y2,y3,y4,y5,ys⟩:=Ew hX7
   rw[hnow.out] at y4
   have g10:=(Eg hb7).1 g1 10 (cell_lt C10.out.1)
   have f0:=((Eg hb7).1 g4 0 (cell_lt C10.out.2.1)).trans C10.out.2.1
   have f9:=((Eg hb7).1 g4 9 (cell_lt C10.out.2.1)).trans C10.out.2.2.1
   have f22:=((Eg hb7).1 g4 22 (cell_lt C10.out.2.1)).trans C10.out.2.2.2.1
   have f21:=((Eg hb7).1 g4 21 (cell_lt C10.out.2.1)).trans C10.out.2.2.2.2
   rw[C10.out.1] at g10
   have Hb7:Hid (Below w.heap.size w w7):=Hb6.out.trans (hb7.mono Hb6.out.size)
   clear hb7 hX7 l6 HX6 HV6 Hb6 C10 hnow hfl y0 y1 y2 y3 y5 hg1 hg4
   go_wp2
   go_ret
   exact⟨rfl,Hb7.out⟩
end
section
open Go.ChangeShapes Go.WideShapes Go.ChangeAt Go.RowKit Go.Joins Go.Deep Go.Maps
theorem Yw{many buckets tasks:Int}(h2:Nu many buckets tasks=0):(many.toNat<=12)/\(1<=buckets.toNat/\buckets.toNat<=4)/\(1<=tasks.toNat/\tasks.toNat<=5):=by
 unfold Nu at h2
 by_cases hn:Xe many buckets=0
 ·rw[hn,if_neg (by simp)] at h2
  have h3:inB tasks 1 5=true:=by
   cases hb:inB tasks 1 5
   ·rw[hb] at h2;simp at h2
   ·rfl
  have h4:inB many 0 12=true/\inB buckets 1 4=true:=by
   unfold Xe at hn
   cases h1:inB many 0 12 <;> cases h2:inB buckets 1 4 <;> simp[h1,h2] at hn ⊢
  rw[Ai] at h3
  rw[Ai,Ai] at h4
  omega
 ·rw[if_pos hn] at h2;cases h2
end
end Go.Proofs.YthhgoenomehobaaGreat.mm
