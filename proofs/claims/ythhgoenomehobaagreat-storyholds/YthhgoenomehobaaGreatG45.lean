/- Parts. -/
import Derived.Test.YthhgoenomehobaaGreatG42
import Derived.Test.YthhgoenomehobaaGreatG04
import Derived.Test.YthhgoenomehobaaGreatG43
import Derived.Test.YthhgoenomehobaaGreatG41
import Derived.Test.YthhgoenomehobaaGreatG07
namespace Go.Proofs.YthhgoenomehobaaGreat.mm
set_option maxRecDepth 100000
set_option linter.unusedVariables false
open Go.Value renaming int → O, slice → Y
open Go.IntKind renaming i64 → J
section
open Go.ChangeShapes Go.WideShapes Go.ChangeAt Go.RowKit Go.Joins Go.Deep Go.Maps
theorem a6c(n:Nat):(madeCells (Value.int .i64 0).cells (n*1))=(encI ((List.replicate n 0).map Int.ofNat)).toArray:=by
 apply Array.ext'
 rw[Nat.mul_one]
 apply List.ext_getElem?
 intro j
 by_cases hj:j<n
 ·simp[madeCells,encI,hj,Value.cells,Nat.mod_one]
 ·rw[List.getElem?_eq_none (by simp[madeCells];omega),List.getElem?_eq_none (by simp[encI];omega)]
theorem P7{W:World}{n B i:Nat}{cs:Array Value}{t:TypeId}{v:Value}(h:W.heap[B]?=some (.cells cs t (0,0)))(hv:cs[i]?=some v):Below n W (W.setCell ⟨B,i,none⟩ v):=by
 have h1:(W.setCell ⟨B,i,none⟩ v).heap[B]?=W.heap[B]?:=by
  rw[block_setCell (i:=i) h,h]
  congr 2
  apply Array.ext'
  have hi:=(Array.getElem?_eq_some_iff.1 hv).1
  have he:=(Array.getElem?_eq_some_iff.1 hv).2
  apply List.ext_getElem?
  intro j
  by_cases e:i=j
  ·subst e;simp[hi,he]
  ·simp[e]
 have h2:Below 0 W (W.setCell ⟨B,i,none⟩ v):=(Below.refl 0 W).setCell (Nat.zero_le _) v
 refine⟨h2.os,h2.tape,h2.output,h2.size,fun k _=>?_⟩
 by_cases e:k=B
 ·subst e;exact h1
 ·exact Below.heap_setCell _ _ _ _ (by dsimp only;exact e)
theorem Kq{B:Nat}{t:TypeId}{cs:Array Value}{n:Nat}:∀ (vs:List Value) (o:Nat) (W:World),W.heap[B]?=some (.cells cs t (0,0))->(∀ j,j<vs.length->cs[o+j]?=vs[j]?)->Below n W (W.setCells B o vs)
 | [],o,W,_,_=>Below.refl _ _
 | v :: vs,o,W,h,hv=>by
  have h1:∀ m,Below m W (W.setCell ⟨B,o,none⟩ v):=fun m=>P7 h (by have:=hv 0 (by simp);simpa using this)
  have h2:(W.setCell ⟨B,o,none⟩ v).heap[B]?=some (.cells cs t (0,0)):=((h1 W.heap.size).block _ (lt_of_block h)).trans h
  have h3:=Kq (n:=n) vs (o+1) (W.setCell ⟨B,o,none⟩ v) h2 (fun j hj=>by have:=hv (j+1) (by simp;omega);rw[show o+1+j=o+(j+1) by omega];simpa using this)
  exact(h1 n).trans h3
theorem Ue{B:Nat}{t:TypeId}{vs:List Value}{cs:Array Value}{n:Nat}{W:World}(h:W.heap[B]?=some (.cells cs t (0,0)))(e:cs=vs.toArray):Below n W (W.setCells B 0 vs) :=
 Kq vs 0 W h fun j _=>by rw[e];simp
def actR(x:Nat->Value):Act:=⟨#[x 0,x 1,x 2,x 3,x 4,x 5,x 6,x 7,x 8,x 9,x 10,x 11,x 12,x 13,x 14,x 15,x 16,x 17,x 18,x 19,x 20,x 21,x 22,x 23,x 24,x 25,x 26,x 27,x 28,x 29,x 30],[]⟩
def RunP(w:World)(s:Rs)(e:Ending)(w':World):Prop :=
 ∃ v v1 v4 pl,e=.returned (.tuple #[v,v1,v4,O J 0])/\WAns w.heap.size w' v s.w/\w'.ownsRow w.heap.size 36 1 v1 s.said.length (encI s.said)/\w'.ownsRow w.heap.size 78 13 v4 pl.length (encP pl)/\(∀ q∈pl,KOwn w' w.heap.size q.2.1 q.2.2 q.1.keys)/\pl.map (·.1)=s.past/\Below w.heap.size w w'
set_option maxHeartbeats 4000000 in
theorem run_any{W:Wd}(I:WInv W)(v:Value)(aP:Option Addr)(cP:Nat)(l:List Pk)(w:World)(hv:WAns 0 w v W)(hr:PRow w aP cP l)(hl:l.length<=300) :
  Calls Tryz.prog 35 #[v,Y aP l.length cP] w (RunP w (runR 0 (rs0 W) l)):=by
 have m1:=hr.max
 have hnt:=I.nt
 have hrl:0<l.length->∀ ad,aP=some ad->ad.block<w.heap.size:=fun h0 ad e=>by
  rcases hr.at_ with h|⟨b,o,rfl,hc⟩
  ·omega
  ·cases e
   exact cell_lt (hc 0 h0 0 _ rfl)
 have HI:Hid (WInv W):=I
 have HV:Hid (WAns 0 w v W):=hv
 have HR:Hid (PRow w aP cP l):=hr
 have HRl:Hid (0<l.length->∀ ad,aP=some ad->ad.block<w.heap.size):=hrl
 obtain⟨sE,hsE⟩:∃ sE:Rs,sE=runR 0 (rs0 W) l:=⟨_,rfl⟩
 rw[<- hsE]
 have HsE:Hid (sE=runR 0 (rs0 W) l):=hsE
 obtain⟨aS,aH,aF,aL,cS,cH,cF,cL,aT,cT,lt,rfl,-⟩:=id hv
 obtain⟨o0,ho0⟩:∃ o:Obj,o=.cells #[Y aS W.m.slots.length cS,Y aH W.m.heads.length cH,Y aF W.m.free.length cF,Y aL W.m.locks.length cL,O J W.m.now,Y aT W.ts.length cT] 28:=⟨_,rfl⟩
 obtain⟨o1,ho1⟩:∃ o:Obj,o=.cells #[Y aP l.length cP] 54:=⟨_,rfl⟩
 obtain⟨o2,ho2⟩:∃ o:Obj,o=.cells #[Y none 0 0,Y none 0 0,Y none 0 0,Y none 0 0,O J 0,Y none 0 0] 28:=⟨_,rfl⟩
 obtain⟨o3,ho3⟩:∃ o:Obj,o=.cells #[Y none 0 0] 68:=⟨_,rfl⟩
 obtain⟨o4,ho4⟩:∃ o:Obj,o=.cells #[Y none 0 0] 69:=⟨_,rfl⟩
 have HE0:Hid (Env w (((((w.alloc o0).alloc o1).alloc o2).alloc o3).alloc o4) [(w.heap.size+4,o4),(w.heap.size+3,o3),(w.heap.size+2,o2),(w.heap.size+1,o1),(w.heap.size,o0)] []):=by
  have h:=(((((⟨Below.refl _ _,(fun p hp=>by cases hp),(fun p hp=>by cases hp)⟩:Env w w [] []).alloc o0).alloc o1).alloc o2).alloc o3).alloc o4
  rw[show (w.alloc o0).heap.size=w.heap.size+1 by simp,show ((w.alloc o0).alloc o1).heap.size=w.heap.size+2 by simp,show (((w.alloc o0).alloc o1).alloc o2).heap.size=w.heap.size+3 by simp,show ((((w.alloc o0).alloc o1).alloc o2).alloc o3).heap.size=w.heap.size+4 by simp] at h
  exact h
 clear I hv hr hrl hsE
 go_enter Tryz.func35,Tryz.ntmps35
 have l6:Hid ((((((w.alloc (.cells #[Y aS W.m.slots.length cS,Y aH W.m.heads.length cH,Y aF W.m.free.length cF,Y aL W.m.locks.length cL,O J W.m.now,Y aT W.ts.length cT] 28)).alloc (.cells #[Y aP l.length cP] 54)).alloc (.cells #[Y none 0 0,Y none 0 0,Y none 0 0,Y none 0 0,O J 0,Y none 0 0] 28)).alloc (.cells #[Y none 0 0] 68)).alloc (.cells #[Y none 0 0] 69)).rangeAt w.heap.size 0 [Y aS W.m.slots.length cS,Y aH W.m.heads.length cH,Y aF W.m.free.length cF,Y aL W.m.locks.length cL,O J W.m.now,Y aT W.ts.length cT]):=by subst ho0 ho1 ho2 ho3 ho4;exact Ag (HE0.out.box _ (.tail _ (.tail _ (.tail _ (.tail _ (.head _)))))) rfl
 go_wp2_with (refine wl_6 rfl _ rfl rfl l6.out ?_)
 rw[<- ho0,<- ho1,<- ho2,<- ho3,<- ho4]
 rw[<- ho0,<- ho1,<- ho2,<- ho3,<- ho4] at l6
 clear l6
 generalize ((((w.alloc o0).alloc o1).alloc o2).alloc o3).alloc o4=W0 at *
 refine(Si HI.out (HV.out.below HE0.out.bl)).mono ?_
 rintro e w1 ⟨rfl,hb1⟩
 have HE1:Hid (Env w w1 [(w.heap.size+4,o4),(w.heap.size+3,o3),(w.heap.size+2,o2),(w.heap.size+1,o1),(w.heap.size,o0)] []):=HE0.out.below hb1
 clear HE0 hb1
 subst ho0 ho1 ho2 ho3 ho4
 obtain⟨n,hn⟩:∃ n,n=W.ts.length:=⟨_,rfl⟩
 have Hn:Hid (n=W.ts.length):=hn
 obtain⟨G,hG⟩:∃ G:Array Value,G=(encI ((List.replicate n 0).map Int.ofNat)).toArray:=⟨_,rfl⟩
 obtain⟨i0,hi0,hz0,hz1,hz2⟩:=info_parts iI
 have hmk:∀ V:World,(Instr.makeSlice 23 (O J (W.ts.length:Int)) (O J (W.ts.length:Int))).run Tryz.prog V=.ok (Y (some ⟨V.heap.size,0,none⟩) W.ts.length W.ts.length) (V.alloc (.cells G 3)):=fun V=>by
  have h:=run_make (P:=Tryz.prog) V 23 3 i0 _ Tryz.underlying23 hi0 hz0 .i64 .i64 (W.ts.length:Int) (W.ts.length:Int) (by omega) (Int.le_refl _) (by rw[hz2];omega) (by omega)
  simp only[Int.toNat_natCast,hz1] at h
  rw[hG,hn,<- a6c];exact h
 have HG:Hid (G=(encI ((List.replicate n 0).map Int.ofNat)).toArray):=hG
 have Hb0:=HE1.out.box (w.heap.size,_) (.tail _ (.tail _ (.tail _ (.tail _ (.head _)))))
 obtain⟨q1,f1,s1⟩:=Af (HE1.out.box (w.heap.size+1,_) (.tail _ (.tail _ (.tail _ (.head _)))))
 obtain⟨z0,z1,z2,z3,z4,z5,zs⟩:=D5 Hb0
 obtain⟨oB,hoB⟩:∃ o:Obj,o=.cells #[Y (some ⟨w1.heap.size,0,none⟩) W.ts.length W.ts.length] 23:=⟨_,rfl⟩
 have HE2:Hid (Env w ((w1.alloc (.cells G 3)).alloc oB) [(w1.heap.size+1,oB),(w1.heap.size,.cells G 3),(w.heap.size+4,.cells #[Y none 0 0] 69),(w.heap.size+3,.cells #[Y none 0 0] 68),(w.heap.size+2,.cells #[Y none 0 0,Y none 0 0,Y none 0 0,Y none 0 0,O J 0,Y none 0 0] 28),(w.heap.size+1,.cells #[Y aP l.length cP] 54),(w.heap.size,.cells #[Y aS W.m.slots.length cS,Y aH W.m.heads.length cH,Y aF W.m.free.length cF,Y aL W.m.locks.length cL,O J W.m.now,Y aT W.ts.length cT] 28)] []):=by
  have h:=(HE1.out.alloc (.cells G 3)).alloc oB
  rw[show (w1.alloc (.cells G 3)).heap.size=w1.heap.size+1 by simp] at h
  exact h
 obtain⟨W2,hW2⟩:∃ W2,W2=(w1.alloc (.cells G 3)).alloc oB:=⟨_,rfl⟩
 rw[<- hW2] at HE2
 rw[hoB] at hW2 HE2
 have hz1':w.heap.size<=w1.heap.size:=HE1.out.bl.size
 have l6:Hid (W2.rangeAt w.heap.size 0 [Y aS W.m.slots.length cS,Y aH W.m.heads.length cH,Y aF W.m.free.length cF,Y aL W.m.locks.length cL,O J W.m.now,Y aT W.ts.length cT]):=Ag (HE2.out.box (w.heap.size,_) (.tail _ (.tail _ (.tail _ (.tail _ (.tail _ (.tail _ (.head _)))))))) rfl
 have q1':=(Af (HE2.out.box (w.heap.size+1,_) (.tail _ (.tail _ (.tail _ (.tail _ (.tail _ (.head _)))))))).1
 have HC2:Hid (Cs w.heap.size 0 0 W2 (w.heap.size+3) (w.heap.size+1) (w1.heap.size+1) (w.heap.size+4) w1.heap.size (Y none 0 0) (Y aP l.length cP) (Y none 0 0) [] [] (List.replicate W.ts.length 0) [(w.heap.size+2,#[Y none 0 0,Y none 0 0,Y none 0 0,Y none 0 0,O J 0,Y none 0 0])]):=by
  have hz:∀ k,Out 0 0 k:=fun k hx=>by have:=hx.2;omega
  refine⟨HE2.out.box (w.heap.size+3,_) (.tail _ (.tail _ (.tail _ (.head _)))),World.ownsRow_nil _ _ _ _,fun k _=>hz k,?_,?_,hz _,HE2.out.box (w.heap.size+4,_) (.tail _ (.tail _ (.head _))),World.ownsRow_nil _ _ _ _,fun k _=>hz k,fun q hq=>(by cases hq),⟨by omega,hz _⟩,⟨by omega,hz _⟩,⟨by omega,hz _⟩,by omega,HE2.out.box (w.heap.size+1,_) (.tail _ (.tail _ (.tail _ (.tail _ (.tail _ (.head _)))))),⟨by omega,hz _⟩,?_⟩
  ·rw[List.length_replicate];exact HE2.out.box (w1.heap.size+1,_) (.head _)
  ·rw[<- Hn.out,<- HG.out];exact HE2.out.box (w1.heap.size,_) (.tail _ (.head _))
  ·intro q hq
   rw[List.mem_singleton] at hq
   subst hq
   exact HE2.out.box (w.heap.size+2,_) (.tail _ (.tail _ (.tail _ (.tail _ (.head _)))))
 have Hb2:Hid (Below w.heap.size w W2):=HE2.out.bl
 clear hoB hG hn hi0 hz0 hz1 hz2 HE1 HE2 Hb0 Hn HG
 have hl':(l.length:Int)<=300:=by omega
 go_wp2_with (first|(rw[<- hW2];refine wl_6 rfl _ rfl rfl l6.out ?_)|refine wl_6 rfl _ rfl rfl l6.out ?_)
 rw[<- hW2]
 clear hW2 l6 hmk z0 z1 z2 z3 z4 z5 zs q1 f1 s1 q1'
 refine(a2k w.heap.size W2 (w.heap.size+3) (w.heap.size+1) (w1.heap.size+1) (w.heap.size+4) w1.heap.size aP cP l _ _ (List.replicate W.ts.length 0) _ W _ HI.out (HV.out.below Hb2.out) HC2.out (HR.out.below Hb2.out) HRl.out hl (by simp) Hb2.out.size).mono ?_
 rintro e w3 ⟨v3,v1,v4,pl,rfl,hC3,hpl,hv3,hb3⟩
 rw[show runR 0 ⟨W,[],[],List.replicate W.ts.length 0⟩ l=sE from HsE.out.symm] at hC3 hpl hv3
 obtain⟨aS3,aH3,aF3,aL3,cS3,cH3,cF3,cL3,aT3,cT3,lt3,rfl,-⟩:=id hv3
 have hO3:=hC3.z (w.heap.size+2,#[Y none 0 0,Y none 0 0,Y none 0 0,Y none 0 0,O J 0,Y none 0 0]) (.head _)
 have t6:Hid (w3.there (w.heap.size+2) 0 6):=Bo hO3 (by simp)
 have hz4:w.heap.size+4<W2.heap.size:=lt_of_block HC2.out.p
 have b3:Below w.heap.size w w3:=Hb2.out.trans hb3
 obtain⟨W4,hW4⟩:∃ W4,W4=w3.setCells (w.heap.size+2) 0 [Y aS3 sE.w.m.slots.length cS3,Y aH3 sE.w.m.heads.length cH3,Y aF3 sE.w.m.free.length cF3,Y aL3 sE.w.m.locks.length cL3,O J sE.w.m.now,Y aT3 sE.w.ts.length cT3]:=⟨_,rfl⟩
 have ho4:∀ j,j≠w.heap.size+2->W4.heap[j]?=w3.heap[j]?:=fun j hj=>by rw[hW4];exact Ad hj _ _ _
 have HX4:Hid (W4.heap[w.heap.size+2]?=some (.cells #[Y aS3 sE.w.m.slots.length cS3,Y aH3 sE.w.m.heads.length cH3,Y aF3 sE.w.m.free.length cF3,Y aL3 sE.w.m.locks.length cL3,O J sE.w.m.now,Y aT3 sE.w.ts.length cT3] 28 (0,0))):=by show _=_;rw[hW4];exact Bc hO3 rfl
 have HC4:Hid (Cs w.heap.size 0 0 W4 (w.heap.size+3) (w.heap.size+1) (w1.heap.size+1) (w.heap.size+4) w1.heap.size v1 (Y aP l.length cP) v4 sE.said pl sE.beg []):=(hC3.more (Z':=[]) (fun q hq=>by cases hq)).off hO3 ho4 (fun q hq=>by cases hq)
 obtain⟨a1,k1,rfl⟩:=Dl HC4.out.so
 obtain⟨a4,k4,rfl⟩:=Dl HC4.out.po
 have HV4:Hid (WAns W2.heap.size W4 (.agg #[Y aS3 sE.w.m.slots.length cS3,Y aH3 sE.w.m.heads.length cH3,Y aF3 sE.w.m.free.length cF3,Y aL3 sE.w.m.locks.length cL3,O J sE.w.m.now,Y aT3 sE.w.ts.length cT3]) sE.w):=hv3.win fun k h1 h2=>ho4 k (by omega)
 have Hb4:Hid (Below w.heap.size w W4):=by show Below w.heap.size w W4;rw[hW4];exact Ap b3 (by omega)
 have HPl:Hid (pl.map (·.1)=sE.past):=hpl
 clear hC3 hpl hv3 hb3 b3 ho4 hO3 HC2 Hb2 HV HR
 go_wp2_with (refine ws_6 rfl _ _ rfl rfl rfl t6.out (by kernel_rfl) ?_;rw[<- hW4];clear hW4 t6)
 rename_i K0 hK0
 refine Uk (by kernel_rfl) actR rfl [28,29,30,100,101,102,7] (by decide) rfl (by kernel_rfl) (fun i v _=>(i=0->v=.agg #[Y aS3 sE.w.m.slots.length cS3,Y aH3 sE.w.m.heads.length cH3,Y aF3 sE.w.m.free.length cF3,Y aL3 sE.w.m.locks.length cL3,O J sE.w.m.now,Y aT3 sE.w.ts.length cT3])/\(i=1->v=Y a1 sE.said.length k1)/\(i=2->v=Y a4 pl.length k4)/\(i=6->v=O J 0)) (fun i v w w' h _=>h) ?_ ?_
 ·intro i hi x V hb hout hpre
  have hi':i<7:=hi
  clear hi
  have hXv:=(hb.block _ (lt_of_block HX4.out)).trans HX4.out
  have HCv:=HC4.out.below hb
  obtain⟨y0,y1,y2,y3,y4,y5,ys⟩:=D5 hXv
  obtain⟨c1,d1,-⟩:=Af HCv.s
  obtain⟨c4,d4,-⟩:=Af HCv.p
  have x4:x 4=.pointer (some ⟨w.heap.size+2,0,none⟩):=hout 4 (by decide)
  have x5:x 5=.pointer (some ⟨w.heap.size+3,0,none⟩):=hout 5 (by decide)
  have x6:x 6=.pointer (some ⟨w.heap.size+4,0,none⟩):=hout 6 (by decide)
  obtain rfl|rfl|rfl|rfl|rfl|rfl|rfl:i=0\/i=1\/i=2\/i=3\/i=4\/i=5\/i=6:=by omega
  ·exact Dc rfl (Bf rfl) (v:=.agg #[Y aS3 sE.w.m.slots.length cS3,Y aH3 sE.w.m.heads.length cH3,Y aF3 sE.w.m.free.length cF3,Y aL3 sE.w.m.locks.length cL3,O J sE.w.m.now,Y aT3 sE.w.ts.length cT3]) (w':=V) (by simp[execOp,go_sem,(show (actR x).tmps[4]?.getD undef=_ from x4),y0,y1,y2,y3,y4,y5]) ⟨_,rfl,⟨fun _=>rfl,(fun h=>absurd h (by decide)),(fun h=>absurd h (by decide)),(fun h=>absurd h (by decide))⟩,Below.refl _ _⟩
  ·exact Dc rfl (Bf rfl) (v:=Y a1 sE.said.length k1) (w':=V) (by simp[execOp,go_sem,(show (actR x).tmps[5]?.getD undef=_ from x5),c1]) ⟨_,rfl,⟨(fun h=>absurd h (by decide)),fun _=>rfl,(fun h=>absurd h (by decide)),(fun h=>absurd h (by decide))⟩,Below.refl _ _⟩
  ·exact Dc rfl (Bf rfl) (v:=Y a4 pl.length k4) (w':=V) (by simp[execOp,go_sem,(show (actR x).tmps[6]?.getD undef=_ from x6),c4]) ⟨_,rfl,⟨(fun h=>absurd h (by decide)),(fun h=>absurd h (by decide)),fun _=>rfl,(fun h=>absurd h (by decide))⟩,Below.refl _ _⟩
  ·have p0:x 28=_:=(hpre 0 (by kernel_rfl)).1 rfl
   have f0:=fun j=>unfrozen_of_block hXv j
   exact Oz rfl (Bf rfl) (w':=V.setCells (w.heap.size+2) 0 [Y aS3 sE.w.m.slots.length cS3,Y aH3 sE.w.m.heads.length cH3,Y aF3 sE.w.m.free.length cF3,Y aL3 sE.w.m.locks.length cL3,O J sE.w.m.now,Y aT3 sE.w.ts.length cT3]) (by simp[execOp,go_sem,World.setCells,(show (actR x).tmps[4]?.getD undef=_ from x4),(show (actR x).tmps[28]?.getD undef=_ from p0),y0,y1,y2,y3,y4,y5,f0]) ⟨undef,rfl,⟨(fun h=>absurd h (by decide)),(fun h=>absurd h (by decide)),(fun h=>absurd h (by decide)),(fun h=>absurd h (by decide))⟩,Ue hXv rfl⟩
  ·have p0:x 29=_:=(hpre 1 (by kernel_rfl)).2.1 rfl
   exact Oz rfl (Bf rfl) (w':=V.setCell ⟨w.heap.size+3,0,none⟩ (Y a1 sE.said.length k1)) (by simp[execOp,go_sem,(show (actR x).tmps[5]?.getD undef=_ from x5),(show (actR x).tmps[29]?.getD undef=_ from p0),c1,d1]) ⟨undef,rfl,⟨(fun h=>absurd h (by decide)),(fun h=>absurd h (by decide)),(fun h=>absurd h (by decide)),(fun h=>absurd h (by decide))⟩,P7 HCv.s rfl⟩
  ·have p0:x 30=_:=(hpre 2 (by kernel_rfl)).2.2.1 rfl
   exact Oz rfl (Bf rfl) (w':=V.setCell ⟨w.heap.size+4,0,none⟩ (Y a4 pl.length k4)) (by simp[execOp,go_sem,(show (actR x).tmps[6]?.getD undef=_ from x6),(show (actR x).tmps[30]?.getD undef=_ from p0),c4,d4]) ⟨undef,rfl,⟨(fun h=>absurd h (by decide)),(fun h=>absurd h (by decide)),(fun h=>absurd h (by decide)),(fun h=>absurd h (by decide))⟩,P7 HCv.p rfl⟩
  ·exact Dc rfl (Bf rfl) (v:=O J 0) (w':=V) (by simp[execOp,go_sem]) ⟨_,rfl,⟨(fun h=>absurd h (by decide)),(fun h=>absurd h (by decide)),(fun h=>absurd h (by decide)),fun _=>rfl⟩,Below.refl _ _⟩
 ·intro x V hb hout hφ
  have p7:x 7=O J 0:=(hφ 6 (by decide)).2.2.2 rfl
  have x4:x 4=.pointer (some ⟨w.heap.size+2,0,none⟩):=hout 4 (by decide)
  have x5:x 5=.pointer (some ⟨w.heap.size+3,0,none⟩):=hout 5 (by decide)
  have x6:x 6=.pointer (some ⟨w.heap.size+4,0,none⟩):=hout 6 (by decide)
  have hXv:=(hb.block _ (lt_of_block HX4.out)).trans HX4.out
  have HCv:Hid _:=HC4.out.below hb
  have HVv:Hid (WAns w.heap.size V (.agg #[Y aS3 sE.w.m.slots.length cS3,Y aH3 sE.w.m.heads.length cH3,Y aF3 sE.w.m.free.length cF3,Y aL3 sE.w.m.locks.length cL3,O J sE.w.m.now,Y aT3 sE.w.ts.length cT3]) sE.w):=(HV4.out.below hb).mono (by omega)
  have Hbv:Hid (Below w.heap.size w V):=Hb4.out.trans (hb.mono Hb4.out.size)
  obtain⟨y0,y1,y2,y3,y4,y5,ys⟩:=D5 hXv
  obtain⟨c1,d1,-⟩:=Af HCv.out.s
  obtain⟨c4,d4,-⟩:=Af HCv.out.p
  refine hK0 _ _ ?_
  unfold actR
  rw[x4,x5,x6,p7]
  go_wp2
  refine bodyPost_ret (v:=.tuple #[.agg #[Y aS3 sE.w.m.slots.length cS3,Y aH3 sE.w.m.heads.length cH3,Y aF3 sE.w.m.free.length cF3,Y aL3 sE.w.m.locks.length cL3,O J sE.w.m.now,Y aT3 sE.w.ts.length cT3],Y a1 sE.said.length k1,Y a4 pl.length k4,O J 0]) (by simp[results,Tryz.results35,go_sem,y0,y1,y2,y3,y4,y5,c1,c4]) rfl ?_
  exact⟨_,_,_,pl,rfl,HVv.out,HCv.out.so,HCv.out.po,fun q hq=>(HCv.out.pk q hq).1,HPl.out,Hbv.out⟩
end
section
open Go.ChangeShapes Go.WideShapes Go.ChangeAt Go.RowKit Go.Joins Go.Deep
theorem Xh:Tryz.prog.cellsOf 34=9:=by kernel_rfl
theorem a4h:Tryz.prog.bytesOf 34=64:=by kernel_rfl
variable {H:Type} {enc:TypeId × Value->H} {w:World}
theorem trod_struct4{P:Program}{base:Nat}{spare:Nat->Bool}{held:Bool}{t:TypeId}{f0 f1 f2 f3:Field}{fuel:Nat}{cs:List Value}{x:DataW H × List MemPlace}(ht:P.underlying t=some (.struct #[f0,f1,f2,f3]))(h:DataW.trod enc P w base spare held fuel t cs=some x) :
  ∃ y0 y1 y2 y3 n,x.1=.agg [y0.1,y1.1,y2.1,y3.1]/\cs.length=P.cellsOf t/\DataW.trod enc P w base spare held n f0.type ((cs.drop f0.offset).take (P.cellsOf f0.type))=some y0 /\
   DataW.trod enc P w base spare held n f1.type ((cs.drop f1.offset).take (P.cellsOf f1.type))=some y1/\DataW.trod enc P w base spare held n f2.type ((cs.drop f2.offset).take (P.cellsOf f2.type))=some y2 /\
   DataW.trod enc P w base spare held n f3.type ((cs.drop f3.offset).take (P.cellsOf f3.type))=some y3:=by
 obtain⟨xs,n,_,rfl,hl,hlen,hf⟩:=DataW.trod_struct ht h
 match xs,hlen with
 | [y0,y1,y2,y3],_=>exact⟨y0,y1,y2,y3,n,by simp,hl,by simpa using hf 0 f0 rfl,by simpa using hf 1 f1 rfl,by simpa using hf 2 f2 rfl,by simpa using hf 3 f3 rfl⟩
theorem nine{cs:List Value}(h:cs.length=9):∃ c0 c1 c2 c3 c4 c5 c6 c7 c8,cs=[c0,c1,c2,c3,c4,c5,c6,c7,c8]:=by
 match cs,h with
 | [c0,c1,c2,c3,c4,c5,c6,c7,c8],_=>exact⟨_,_,_,_,_,_,_,_,_,rfl⟩
theorem a6i{fuel:Nat}{cs:List Value}{x:DataW H × List MemPlace}(h:DataW.trod enc Tryz.prog w 0 (fun _=>true) true fuel 34 cs=some x):∃ p:Pk,cs=[.int .i64 p.task,.bool p.step,.bool p.tick,.int .i64 p.c.kind,.int .i64 p.c.a,.int .i64 p.c.b,.int .i64 p.c.time,.int .i64 p.c.bk,.int .i64 p.c.slot]:=by
 obtain⟨y0,y1,y2,y3,n,_,hl,h0,h1,h2,h3⟩:=trod_struct4 Tryz.underlying34 h
 rw[Xh] at hl
 obtain⟨c0,c1,c2,c3,c4,c5,c6,c7,c8,rfl⟩:=nine hl
 simp only[Xg,cells3,cells4] at h0 h1 h2 h3
 obtain⟨a,e0,_⟩:=DataW.trod_int Tryz.underlying3 h0
 obtain⟨s,e1,_⟩:=DataW.trod_bool Tryz.underlying4 h1
 obtain⟨t,e2,_⟩:=DataW.trod_bool Tryz.underlying4 h2
 obtain⟨c,ec⟩:=a7t h3
 simp at e0 e1 e2 ec
 obtain⟨rfl,rfl,rfl,rfl,rfl,rfl⟩:=ec
 subst e0 e1 e2
 exact⟨⟨a,s,t,c⟩,rfl⟩
theorem open_prow{fuel:Nat}{c:Value}{x:DataW H × List MemPlace}(h:DataW.trod enc Tryz.prog w 0 (fun _=>true) true fuel 54 [c]=some x)(hz:∀ n∈x.1.weights Tryz.prog 54,n<=reachBytes) :
  ∃ l ao cap,c=.slice ao l.length cap/\PRow w ao cap l:=by
 rcases open_slice Tryz.underlying54 h with ⟨e,-⟩|⟨a,len,cap,m,n,D,Pl,e,hb,hl,hm,hmm,hx,hc⟩
 ·simp at e
  exact⟨[],none,0,e,Nat.zero_le _,by decide,fun _=>rfl,.inl rfl⟩
 ·simp at e hmm
  subst e hmm
  rw[Xh] at hc
  obtain⟨S,hS⟩:=@choose_lt Pk ⟨⟨0,false,false,⟨0,0,0,0,0,0⟩⟩⟩ len (fun i s=>w.cells? 0 (a.add (i*9)) 9=some [.int .i64 s.task,.bool s.step,.bool s.tick,.int .i64 s.c.kind,.int .i64 s.c.a,.int .i64 s.c.b,.int .i64 s.c.time,.int .i64 s.c.bk,.int .i64 s.c.slot]) (fun i hi=>by
   obtain⟨cs',h1,h2⟩:=hc i (by omega)
   obtain⟨s,rfl⟩:=a6i h2
   exact⟨s,h1⟩)
  have hlt:((List.range len).map S).length=len:=by simp
  refine⟨(List.range len).map S,some a,m,by rw[hlt],by omega,?_,(fun h=>by cases h),?_⟩
  ·rw[hx] at hz
   have:=hz ((len+(m - len))*64) (by simp[DataW.weights,Tryz.underlying54,a4h])
   unfold reachBytes at this
   rw[hlt]
   omega
  ·by_cases h0:len=0
   ·left;omega
   ·right
    obtain⟨b,off,spot⟩:=a
    have hspot:spot=none:=by
     have:=(World.cells?_some (hS 0 (by omega))).2.2 0 (by omega)
     simpa [Addr.add] using World.cell?_spot this
    subst hspot
    refine⟨b,off,rfl,fun i hi=>?_⟩
    have hi':i<len:=by simpa using hi
    have e:((List.range len).map S)[i]=S i:=by simp
    rw[e]
    intro q v hv
    have hq:q<9:=by simpa using (List.getElem?_eq_some_iff.1 hv).1
    have:=(World.cells?_some (hS i hi')).2.2 q hq
    rw[Addr.add_lit,Addr.add_lit] at this
    rw[this];exact hv
end
section
open Go.ChangeShapes Go.WideShapes Go.ChangeAt Go.RowKit Go.Joins Go.Deep
def Played:Prop:=∀ w:World,Calls Tryz.prog 18 #[] w fun e w'=>e=.returned (.bool true)/\Below w.heap.size w w'
end
section
open Go.ChangeShapes Go.WideShapes Go.ChangeAt Go.RowKit Go.Joins Go.Deep Go.Maps
def Pk.enc(x:Pk):List Value:=[O J x.task,.bool x.step,.bool x.tick,O J x.c.kind,O J x.c.a,O J x.c.b,O J x.c.time,O J x.c.bk,O J x.c.slot]
def encX(l:List Pk):List Value:=l.flatMap Pk.enc
theorem Xp(s:Pk)(l:List Pk):encX (s :: l)=s.enc++encX l:=by simp[encX]
theorem a0i(l l':List Pk):encX (l++l')=encX l++encX l':=by simp[encX]
theorem a0j:∀ (l:List Pk) (i q:Nat) (h:i<l.length) (hq:q<9),(encX l)[i*9+q]?=(l[i].enc)[q]?
 | [],i,q,h,_=>by simp at h
 | s :: l,0,q,h,hq=>by
  rw[Xp,Nat.zero_mul,Nat.zero_add,List.getElem?_append_left (by simp[Pk.enc];omega)];rfl
 | s :: l,i+1,q,h,hq=>by
  rw[Xp,List.getElem?_append_right (by simp[Pk.enc];omega),show (i+1)*9+q - s.enc.length=i*9+q by simp[Pk.enc];omega]
  exact a0j l i q (by simpa using h) hq
theorem Ze{w:World}{lo size n c:Nat}{e:TypeId}{a:Option Addr}{xs:List Value}(h:w.ownsRow lo e size (Y a n c) n xs)(h0:0<n):∃ g,a=some ⟨g,0,none⟩/\n<=c/\lo<=g/\g<w.heap.size/\∀ j,j<n*size->w.cell? ⟨g,j,none⟩=xs[j]?:=by
 obtain⟨h1,h2⟩:=h
 rcases h2 with ⟨-,h3⟩|⟨g,cap,cur,hv,hg,hb,hn,-,hs,hc⟩
 ·omega
 ·cases hv
  refine⟨g,rfl,hn,hg,lt_of_block hb,fun j hj=>?_⟩
  rw[cell_of_block hb,<- hc,List.getElem?_take_of_lt hj]
  simp
theorem PRow.own{w:World}{lo c:Nat}{a:Option Addr}{l:List Pk}(h:w.ownsRow lo 34 9 (Y a l.length c) l.length (encX l))(hm:l.length*64<=140737488355328):PRow w a c l:=by
 by_cases h0:l.length=0
 ·obtain⟨-,h2⟩:=h
  rcases h2 with ⟨hv,-⟩|⟨g,cap,cur,hv,-,-,hn,-⟩
  ·injection hv with e1 e2 e3
   subst e1 e3
   exact⟨by omega,hm,fun _=>rfl,.inl h0⟩
  ·injection hv with e1 e2 e3
   subst e1 e3
   exact⟨hn,hm,(fun e=>by cases e),.inl h0⟩
 ·obtain⟨g,rfl,hn,-,-,hc⟩:=Ze h (by omega)
  refine⟨hn,hm,(fun e=>by cases e),.inr ⟨g,0,rfl,fun i hi j v hv=>?_⟩⟩
  have hj:j<9:=by have:=(List.getElem?_eq_some_iff.1 hv).1;simpa using this
  rw[Nat.zero_add,hc (i*9+j) (by omega),a0j l i j hi hj]
  exact hv
theorem own_new(W:World)(e:TypeId)(size n lo:Nat)(cs:List Value)(hl:cs.length=n*size)(hn:n<=maxLen)(h:lo<=W.heap.size):(W.alloc (.cells cs.toArray e)).ownsRow lo e size (Y (some ⟨W.heap.size,0,none⟩) n n) n cs :=
 ⟨hl,.inr ⟨W.heap.size,n,cs.toArray,rfl,h,heap_alloc_new _ _,Nat.le_refl _,hn,by simpa using hl,by rw[<- hl];simp⟩⟩
theorem iX:(Tryz.prog.info? 34).map (fun i=>(i.zero,i.size,i.bytes))=some (some (.agg #[O J 0,.bool false,.bool false,O J 0,O J 0,O J 0,O J 0,O J 0,O J 0]),9,64):=by kernel_rfl
def pk1:Pk:=⟨0,false,false,⟨2,3,0,5,0,0⟩⟩
def pk2:Pk:=⟨1,false,false,⟨1,3,0,0,0,0⟩⟩
def pk3:Pk:=⟨1,true,false,⟨0,0,0,0,0,0⟩⟩
def pk0:Pk:=⟨0,true,false,⟨0,0,0,0,0,0⟩⟩
def pkT:Pk:=⟨0,false,true,⟨0,0,0,0,0,0⟩⟩
def plS(k:Nat):List Pk:=[pk1,pk2,pk3] ++ List.replicate k pk0
def plE:Rs:=runR 0 (rs0 (newW 2 1 2)) (plS 6 ++ [pk3,pk3,pkT])
theorem plE_said:plE.said=[0,0,0,0,0,0,0,0,0,0,8,0]:=by decide +kernel
theorem plE_past:plE.past.map (fun p=>(p.e,p.task,p.to))=[(0,0,8),(5,1,9)]:=by decide +kernel
theorem plE_now:plE.w.m.now=1:=by decide +kernel
theorem a6s:(Fh plE.w.m).length=1:=by decide +kernel
theorem a6x:∀ (l:List Pk) (n:Nat) (s:Rs),(runR n s l).w=runW s.w l
 | [],_,_=>rfl
 | x :: l,n,s=>by show (runR (n+1) (Gy n s x) l).w=_;rw[a6x l,stepR_w];rfl
theorem a1g{W:Wd}(I:WInv W)(l:List Pk):WInv (runR 0 (rs0 W) l).w:=by rw[a6x];exact X6 l I
theorem plS_step(k:Nat):plS (k+1)=plS k ++ [pk0]:=by unfold plS;rw[List.append_assoc,List.replicate_succ']
theorem two_of{α:Type}:∀ {l:List α},l.length=2->∃ a b,l=[a,b]
 | [a,b],_=>⟨a,b,rfl⟩
 | [],h=>by cases h
 | [_],h=>by cases h
 | _ :: _ :: _ :: _,h=>by simp at h
set_option maxHeartbeats 1000000 in
theorem Vh:Played:=by
 intro w
 have HN:=X4 2 1 2 w
 obtain⟨i0,hi0,hz0,hz1,hz2⟩:=info_parts iX
 go_enter Tryz.func18,Tryz.ntmps18
 go_wp2_with fail
 refine HN.mono ?_
 rintro e w1 ⟨v,rfl,hv,hb1⟩
 rw[show Py 2 1 2=0 by decide,if_pos rfl,show newW (2:Int).toNat (1:Int).toNat (2:Int).toNat=newW 2 1 2 from rfl] at *
 have HI:Hid (WInv (newW 2 1 2)):=U2 (by omega) (by omega) (by omega)
 have HsE:Hid (plE=runR 0 (rs0 (newW 2 1 2)) (plS 6 ++ [pk3,pk3,pkT])):=rfl
 generalize newW 2 1 2=W0 at *
 obtain⟨aS,aH,aF,aL,cS,cH,cF,cL,aT,cT,lt,rfl,-⟩:=id hv
 clear HN
 have HV1:Hid (WAns w.heap.size w1 (.agg #[Y aS W0.m.slots.length cS,Y aH W0.m.heads.length cH,Y aF W0.m.free.length cF,Y aL W0.m.locks.length cL,O J W0.m.now,Y aT W0.ts.length cT]) W0):=hv
 have Hb1:Hid (Below w.heap.size w w1):=hb1
 have hz:w.heap.size<=w1.heap.size:=hb1.size
 clear hv hb1
 have HRun:Hid (∀ (V:World) (v:Value) (a:Option Addr) (c lo:Nat),V.ownsRow lo 34 9 (Y a 12 c) 12 (encX (plS 6 ++ [pk3,pk3,pkT]))->WAns 0 V v W0->Calls Tryz.prog 35 #[v,Y a 12 c] V (RunP V plE)):=fun V v a c lo h hv=>by
  rw[HsE.out]
  exact run_any HI.out v a c (plS 6 ++ [pk3,pk3,pkT]) V hv (PRow.own h (by decide)) (by decide)
 have HIe:Hid (WInv plE.w):=by show WInv plE.w;rw[HsE.out];exact a1g HI.out _
 go_wp2_with fail
 obtain⟨W2,hW2⟩:∃ W2,W2=(w1.alloc (.cells #[Y aS W0.m.slots.length cS,Y aH W0.m.heads.length cH,Y aF W0.m.free.length cF,Y aL W0.m.locks.length cL,O J W0.m.now,Y aT W0.ts.length cT] 28)).alloc (.cells #[O J 3,O J 0] 30):=⟨_,rfl⟩
 have b2:Below w1.heap.size w1 W2:=by rw[hW2];exact below_alloc2 _ _ _
 have HX2:Hid (W2.heap[w1.heap.size]?=some (.cells #[Y aS W0.m.slots.length cS,Y aH W0.m.heads.length cH,Y aF W0.m.free.length cF,Y aL W0.m.locks.length cL,O J W0.m.now,Y aT W0.ts.length cT] 28 (0,0))):=by show _=_;rw[hW2,Below.heap_alloc _ _ _ (by simp),heap_alloc_new]
 have HZ2:Hid (W2.heap.size=w1.heap.size+2):=by show _=_;rw[hW2];simp
 have HV2:Hid (WAns w.heap.size W2 (.agg #[Y aS W0.m.slots.length cS,Y aH W0.m.heads.length cH,Y aF W0.m.free.length cF,Y aL W0.m.locks.length cL,O J W0.m.now,Y aT W0.ts.length cT]) W0):=HV1.out.below b2
 have Hb2:Hid (Below w.heap.size w W2):=Hb1.out.trans (b2.mono hz)
 rw[<- hW2]
 clear hW2 b2 HV1 Hb1
 have HO3:Hid ((W2.alloc (.cells (encX (plS 0)).toArray 34)).ownsRow (w1.heap.size+2) 34 9 (Y (some ⟨w1.heap.size+2,0,none⟩) 3 3) 3 (encX (plS 0))):=by
  have h:=own_new W2 34 9 3 (w1.heap.size+2) (encX (plS 0)) rfl (by decide) (by have:=HZ2.out;omega)
  rw[HZ2.out] at h
  exact h
 have Hb3:Hid (Below (w1.heap.size+2) W2 (W2.alloc (.cells (encX (plS 0)).toArray 34))):=(Below.refl _ _).alloc (by have:=HZ2.out;omega) _
 go_loopw [4,23] (fun s i wr=>∃ (k:Nat) (a:Option Addr) (c:Nat),k<=6/\i=O J k/\s=Y a (3+k) c/\Hid (wr.ownsRow (w1.heap.size+2) 34 9 (Y a (3+k) c) (3+k) (encX (plS k)))/\Hid (Below (w1.heap.size+2) W2 wr)) (fun _ i _=>6 - (intOf i).toNat)
 case atStart=>exact⟨0,some ⟨w1.heap.size+2,0,none⟩,3,by omega,rfl,rfl,HO3,Hb3⟩
 case round =>
  obtain⟨k,a,c,hk,rfl,rfl,HO,Hb⟩:=hrel
  clear HO3 Hb3
  by_cases hlt:k<6
  ·have hlt':(k:Int)<6:=by omega
   have HC:Hid (∀ j u,[O J 0,.bool true,.bool false,O J 0,O J 0,O J 0,O J 0,O J 0,O J 0][j]?=some u->(wr.alloc (.cells #[O J 0,.bool true,.bool false,O J 0,O J 0,O J 0,O J 0,O J 0,O J 0] 34)).cell? ((⟨wr.heap.size,0,none⟩:Addr).add j)=some u):=P8 (vs:=[O J 0,.bool true,.bool false,O J 0,O J 0,O J 0,O J 0,O J 0,O J 0]) (heap_alloc_new _ _)
   have HS:Hid (w1.heap.size+2<=wr.heap.size):=by have:=Hb.out.size;have:=HZ2.out;show _<=_;omega
   have HBw:Hid (∀ w2:World,(wr.alloc (.cells #[O J 0,.bool true,.bool false,O J 0,O J 0,O J 0,O J 0,O J 0,O J 0] 34)).grownBy w2 (Value.slice a (3+k) c).ownBlock->Below (w1.heap.size+2) W2 w2):=fun w2 hg=>(Hb.out.alloc HS.out _).grown hg (by have:=HS.out;simp;omega) (fun q hq=>(HO.out.lt q hq).1)
   go_wp2_with (at_builtin;refine wpList_append_own_at _ rfl (.tmp 25) (.tmp 27) 54 rfl (w1.heap.size+2) 34 i0 (.agg #[O J 0,.bool false,.bool false,O J 0,O J 0,O J 0,O J 0,O J 0,O J 0]) 9 64 Tryz.underlying54 hi0 hz0 hz1 hz2 rfl (by decide) _ _ _ rfl (HO.out.alloc _) ⟨wr.heap.size,0,none⟩ 1 1 [O J 0,.bool true,.bool false,O J 0,O J 0,O J 0,O J 0,O J 0,O J 0] rfl rfl HC.out (by intro u hu;simp only[List.mem_cons,List.not_mem_nil,or_false] at hu;rcases hu with rfl|rfl|rfl|rfl|rfl|rfl|rfl|rfl|rfl <;> rfl) (by unfold maxLen;omega) (by omega) (by have:=HS.out;simp;omega) ?_;intro v2 w2 ho2 hg2 _ _;obtain⟨g2,cap2,rfl⟩:=ownsRow_form ho2 (by omega);have HO2:Hid (w2.ownsRow (w1.heap.size+2) 34 9 (Y (some ⟨g2,0,none⟩) (3+k+1) cap2) (3+k+1) (encX (plS k) ++ [O J 0,.bool true,.bool false,O J 0,O J 0,O J 0,O J 0,O J 0,O J 0])):=ho2;have Hb2':Hid (Below (w1.heap.size+2) W2 w2):=HBw.out w2 hg2;clear ho2 hg2)
   go_roundw
   case rel=>exact⟨k+1,some ⟨g2,0,none⟩,cap2,by omega,by go_num,rfl,by rw[plS_step,a0i];exact HO2,Hb2'⟩
   case measure=>simp[intOf];omega
  ·have hk6:k=6:=by omega
   subst hk6
   have HO9:Hid (wr.ownsRow (w1.heap.size+2) 34 9 (Y a 9 c) 9 (encX (plS 6))):=HO.out
   have HC:Hid (∀ j u,[O J 1,.bool true,.bool false,O J 0,O J 0,O J 0,O J 0,O J 0,O J 0,O J 1,.bool true,.bool false,O J 0,O J 0,O J 0,O J 0,O J 0,O J 0,O J 0,.bool false,.bool true,O J 0,O J 0,O J 0,O J 0,O J 0,O J 0][j]?=some u->(wr.alloc (.cells #[O J 1,.bool true,.bool false,O J 0,O J 0,O J 0,O J 0,O J 0,O J 0,O J 1,.bool true,.bool false,O J 0,O J 0,O J 0,O J 0,O J 0,O J 0,O J 0,.bool false,.bool true,O J 0,O J 0,O J 0,O J 0,O J 0,O J 0] 34)).cell? ((⟨wr.heap.size,0,none⟩:Addr).add j)=some u):=P8 (vs:=[O J 1,.bool true,.bool false,O J 0,O J 0,O J 0,O J 0,O J 0,O J 0,O J 1,.bool true,.bool false,O J 0,O J 0,O J 0,O J 0,O J 0,O J 0,O J 0,.bool false,.bool true,O J 0,O J 0,O J 0,O J 0,O J 0,O J 0]) (heap_alloc_new _ _)
   have HS:Hid (w1.heap.size+2<=wr.heap.size):=by have:=Hb.out.size;have:=HZ2.out;show _<=_;omega
   have HBw:Hid (∀ w2:World,(wr.alloc (.cells #[O J 1,.bool true,.bool false,O J 0,O J 0,O J 0,O J 0,O J 0,O J 0,O J 1,.bool true,.bool false,O J 0,O J 0,O J 0,O J 0,O J 0,O J 0,O J 0,.bool false,.bool true,O J 0,O J 0,O J 0,O J 0,O J 0,O J 0] 34)).grownBy w2 (Value.slice a 9 c).ownBlock->Below (w1.heap.size+2) W2 w2):=fun w2 hg=>(Hb.out.alloc HS.out _).grown hg (by have:=HS.out;simp;omega) (fun q hq=>(HO9.out.lt q hq).1)
   go_wp2_with (first|(at_builtin;refine wpList_append_own_at _ rfl (.tmp 30) (.tmp 34) 54 rfl (w1.heap.size+2) 34 i0 (.agg #[O J 0,.bool false,.bool false,O J 0,O J 0,O J 0,O J 0,O J 0,O J 0]) 9 64 Tryz.underlying54 hi0 hz0 hz1 hz2 rfl (by decide) _ _ _ rfl (HO9.out.alloc _) ⟨wr.heap.size,0,none⟩ 3 3 [O J 1,.bool true,.bool false,O J 0,O J 0,O J 0,O J 0,O J 0,O J 0,O J 1,.bool true,.bool false,O J 0,O J 0,O J 0,O J 0,O J 0,O J 0,O J 0,.bool false,.bool true,O J 0,O J 0,O J 0,O J 0,O J 0,O J 0] rfl rfl HC.out (by intro u hu;simp only[List.mem_cons,List.not_mem_nil,or_false] at hu;rcases hu with rfl|rfl|rfl|rfl|rfl|rfl|rfl|rfl|rfl|rfl|rfl|rfl|rfl|rfl|rfl|rfl|rfl|rfl|rfl|rfl|rfl|rfl|rfl|rfl|rfl|rfl|rfl <;> rfl) (by unfold maxLen;omega) (by omega) (by have:=HS.out;simp;omega) ?_;intro v2 w2 ho2 hg2 _ _;obtain⟨g2,cap2,rfl⟩:=ownsRow_form ho2 (by omega);have HO2:Hid (w2.ownsRow (w1.heap.size+2) 34 9 (Y (some ⟨g2,0,none⟩) 12 cap2) 12 (encX (plS 6 ++ [pk3,pk3,pkT]))):=(by show World.ownsRow _ _ _ _ _ _ _;rw[a0i];exact ho2);have Hb3:Hid (Below W2.heap.size W2 w2):=(by show Below _ _ _;rw[HZ2.out];exact HBw.out w2 hg2);have l6:Hid (w2.rangeAt w1.heap.size 0 [Y aS W0.m.slots.length cS,Y aH W0.m.heads.length cH,Y aF W0.m.free.length cF,Y aL W0.m.locks.length cL,O J W0.m.now,Y aT W0.ts.length cT]):=Ag ((Hb3.out.block _ (lt_of_block HX2.out)).trans HX2.out) rfl;clear ho2 hg2)|refine wl_6 rfl _ rfl rfl l6.out ?_)
   have HX3:Hid (w2.heap[w1.heap.size]?=_):=(Hb3.out.block _ (lt_of_block HX2.out)).trans HX2.out
   have Hb4:Hid (Below w.heap.size w w2):=Hb2.out.trans (Hb3.out.mono (by have:=HZ2.out;omega))
   refine(HRun.out w2 _ (some ⟨g2,0,none⟩) cap2 _ HO2.out ((HV2.out.below Hb3.out).mono (Nat.zero_le _))).mono ?_
   rintro e w5 ⟨v5,v15,v45,pl,rfl,hv5,ho15,ho45,-,hpl5,hb5⟩
   rw[plE_said] at ho15
   have hpl2:pl.map (fun q=>(q.1.e,q.1.task,q.1.to))=[(0,0,8),(5,1,9)]:=by
    have h:=plE_past
    rw[<- hpl5,List.map_map] at h
    exact h
   have hnow:Hid (plE.w.m.now=1):=plE_now
   have hfl:Hid ((Fh plE.w.m).length=1):=a6s
   have HX5:Hid (w5.heap[w1.heap.size]?=_):=(hb5.block _ (lt_of_block HX3.out)).trans HX3.out
   have hxz:w1.heap.size<w2.heap.size:=lt_of_block HX3.out
   generalize plE=sE at *
   clear hpl5 HsE HRun HO9 HC HBw HO HO2 HX3 HX2 HV2 Hb3 l6 Hb HS Hb2
   obtain⟨a1,k1,rfl⟩:=Dl ho15
   obtain⟨g1,rfl,hk1,hg1,-,hc1⟩:=Ze ho15 (by decide)
   obtain⟨q0,q1,rfl⟩:∃ q0 q1,pl=[q0,q1]:=two_of (by have h:=congrArg List.length hpl2;rw[List.length_map] at h;exact h)
   simp only[List.map_cons,List.map_nil,List.cons.injEq,Prod.mk.injEq,and_true] at hpl2
   obtain⟨⟨e0,e1,-⟩,e2,-,e3⟩:=hpl2
   obtain⟨a4,k4,rfl⟩:=Dl ho45
   obtain⟨g4,rfl,hk4,hg4,-,hc4⟩:=Ze ho45 (by simp)
   have c10:w5.cell? ⟨g1,10,none⟩=some (O J 8):=hc1 10 (by decide)
   have d0:w5.cell? ⟨g4,0,none⟩=some (O J 0):=by rw[hc4 0 (by simp),<- e1];rfl
   have d9:w5.cell? ⟨g4,9,none⟩=some (O J 0):=by rw[hc4 9 (by simp),<- e0];rfl
   have d22:w5.cell? ⟨g4,22,none⟩=some (O J 5):=by rw[hc4 22 (by simp),<- e2];rfl
   have d21:w5.cell? ⟨g4,21,none⟩=some (O J 9):=by rw[hc4 21 (by simp),show (9:Int)=((q1.1.to:Nat):Int) by rw[e3];rfl];rfl
   obtain⟨aS5,aH5,aF5,aL5,cS5,cH5,cF5,cL5,aT5,cT5,lt5,rfl,-⟩:=id hv5
   obtain⟨W6,hW6⟩:∃ W6,W6=w5.setCells w1.heap.size 0 [Y aS5 sE.w.m.slots.length cS5,Y aH5 sE.w.m.heads.length cH5,Y aF5 sE.w.m.free.length cF5,Y aL5 sE.w.m.locks.length cL5,O J sE.w.m.now,Y aT5 sE.w.ts.length cT5]:=⟨_,rfl⟩
   have ho6:∀ k,k≠w1.heap.size->W6.heap[k]?=w5.heap[k]?:=fun k hk=>by rw[hW6];exact Ad hk _ _ _
   have HX6:Hid (W6.heap[w1.heap.size]?=some (.cells #[Y aS5 sE.w.m.slots.length cS5,Y aH5 sE.w.m.heads.length cH5,Y aF5 sE.w.m.free.length cF5,Y aL5 sE.w.m.locks.length cL5,O J sE.w.m.now,Y aT5 sE.w.ts.length cT5] 28 (0,0))):=by show _=_;rw[hW6];exact Bc HX5.out rfl
   have HV6:Hid (WAns w2.heap.size W6 (.agg #[Y aS5 sE.w.m.slots.length cS5,Y aH5 sE.w.m.heads.length cH5,Y aF5 sE.w.m.free.length cF5,Y aL5 sE.w.m.locks.length cL5,O J sE.w.m.now,Y aT5 sE.w.ts.length cT5]) sE.w):=hv5.win fun k h1 h2=>ho6 k (by omega)
   have Hb6:Hid (Below w.heap.size w W6):=by show Below w.heap.size w W6;rw[hW6];exact Ap (Hb4.out.trans (hb5.mono Hb4.out.size)) hz
   have t6:Hid (w5.there w1.heap.size 0 6):=Bo HX5.out (by simp)
   have l6:Hid (W6.rangeAt w1.heap.size 0 [Y aS5 sE.w.m.slots.length cS5,Y aH5 sE.w.m.heads.length cH5,Y aF5 sE.w.m.free.length cF5,Y aL5 sE.w.m.locks.length cL5,O J sE.w.m.now,Y aT5 sE.w.ts.length cT5]):=Ag HX6.out rfl
   have hc6:∀ g j,w2.heap.size<=g->W6.cell? ⟨g,j,none⟩=w5.cell? ⟨g,j,none⟩:=fun g j hg=>World.cell?_of_block (ho6 g (by omega))
   have C10:Hid (W6.cell? ⟨g1,10,none⟩=some (O J 8)/\W6.cell? ⟨g4,0,none⟩=some (O J 0)/\W6.cell? ⟨g4,9,none⟩=some (O J 0)/\W6.cell? ⟨g4,22,none⟩=some (O J 5)/\W6.cell? ⟨g4,21,none⟩=some (O J 9)):=⟨(hc6 _ _ hg1).trans c10,(hc6 _ _ hg4).trans d0,(hc6 _ _ hg4).trans d9,(hc6 _ _ hg4).trans d22,(hc6 _ _ hg4).trans d21⟩
   clear hc1 hc4 c10 d0 d9 d22 d21 e0 e1 e2 e3 ho15 ho45 hv5 hb5 ho6 hc6 HX5 Hb4
   go_wp2_with (first|(refine ws_6 rfl _ _ rfl rfl rfl t6.out (by kernel_rfl) ?_;rw[<- hW6];clear hW6 t6)|refine wl_6 rfl _ rfl rfl l6.out ?_)
   refine(Su HIe.out HV6.out).mono ?_
   rw[hfl.out]
   rintro e w7 ⟨ao,cap,rfl,-,hb7⟩
   have hX7:=(hb7.block _ (lt_of_block HX6.out)).trans HX6.out
   obtain⟨y0,y1,y2,y3,y4,y5,ys⟩:=D5 hX7
   rw[hnow.out] at y4
   have g10:=(Ez hb7).1 g1 10 (cell_lt C10.out.1)
   have f0:=((Ez hb7).1 g4 0 (cell_lt C10.out.2.1)).trans C10.out.2.1
   have f9:=((Ez hb7).1 g4 9 (cell_lt C10.out.2.1)).trans C10.out.2.2.1
   have f22:=((Ez hb7).1 g4 22 (cell_lt C10.out.2.1)).trans C10.out.2.2.2.1
   have f21:=((Ez hb7).1 g4 21 (cell_lt C10.out.2.1)).trans C10.out.2.2.2.2
   rw[C10.out.1] at g10
   have Hb7:Hid (Below w.heap.size w w7):=Hb6.out.trans (hb7.mono Hb6.out.size)
   clear hb7 hX7 l6 HX6 HV6 Hb6 C10 hnow hfl y0 y1 y2 y3 y5 hg1 hg4
   go_wp2
   go_ret
   exact⟨rfl,Hb7.out⟩
end
section
open Go.ChangeShapes Go.WideShapes Go.ChangeAt Go.RowKit Go.Joins Go.Deep Go.Maps
theorem PRow.take{w:World}{ao:Option Addr}{cap:Nat}{l:List Pk}(r:PRow w ao cap l){m:Nat}(hm:m<=l.length):PRow w ao cap (l.take m):=by
 have hl:(l.take m).length=m:=by rw[List.length_take];omega
 refine⟨by rw[hl];exact Nat.le_trans hm r.le,by rw[hl];exact Nat.le_trans (Nat.mul_le_mul_right 64 hm) r.max,r.nil,?_⟩
 rcases r.at_ with h|⟨b,o,h,hc⟩
 ·left;omega
 ·refine .inr ⟨b,o,h,fun i hi=>?_⟩
  have:=hc i (by omega)
  rwa [List.getElem_take]
theorem Y1{many buckets tasks:Int}(h2:Py many buckets tasks=0):(many.toNat<=12)/\(1<=buckets.toNat/\buckets.toNat<=4)/\(1<=tasks.toNat/\tasks.toNat<=5):=by
 unfold Py at h2
 by_cases hn:newE many buckets=0
 ·rw[hn,if_neg (by simp)] at h2
  have h3:inB tasks 1 5=true:=by
   cases hb:inB tasks 1 5
   ·rw[hb] at h2;simp at h2
   ·rfl
  have h4:inB many 0 12=true/\inB buckets 1 4=true:=by
   unfold newE at hn
   cases h1:inB many 0 12 <;> cases h2:inB buckets 1 4 <;> simp[h1,h2] at hn ⊢
  rw[Ah] at h3
  rw[Ah,Ah] at h4
  omega
 ·rw[if_pos hn] at h2;cases h2
end
end Go.Proofs.YthhgoenomehobaaGreat.mm
