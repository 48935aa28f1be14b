/- Parts. -/
import Derived.Test.YthhgoenomehobaaGreatP14
import Derived.Test.YthhgoenomehobaaGreatP11
namespace Go.Proofs.YthhgoenomehobaaGreat.mm
open List renaming toArray → eG, set_cons_succ → fV, nil_append → eP, cons_append → fZ, getElem_cons_succ → gY
open Go renaming Calls → aI, World → Wq
open Tryz
set_option maxRecDepth 100000
set_option linter.unusedVariables false
open Value renaming int → O, slice → Y
open IntKind renaming i64 → J
open Tryz renaming prog → Pg
open ChangeShapes WideShapes ChangeAt RowKit Joins
set_option maxHeartbeats 0
variable (w:Wq)(S:List Sl){M:Mm}(B gS gH gF nS nH n j gL nL b cS cH cF cL:Nat)(sv hv fv lv nv:Value)(x t ka kb u nx r a:Int)(i:Bool)(aF:Option Addr)
section
open Maps
variable {Xb:Ex}
def a3j(M:Mm)(a:Nat)(b:Nat):Mm:={ M with s:=M.s.set a { Aa M a with next:=Bq M b,inn:=true },h:=M.h.set b ((a:Int)+1) }
theorem a6u(h:j<S.length)(nx:Int)(i:Bool):((encS S).set (j*6+5) (O J nx)).set (j*6+4) (.bool i)=encS (S.set j { S[j] with next:=nx,inn:=i }):=by
 induction S generalizing j with
 | nil=>simp at h
 | cons x S ih =>
  match j with
  | 0=>simp[Ee,Sl.enc]
  | j+1 =>
   have:=ih j (by simpa using h)
   rw[fV,Ee,Ee,gY,<- this]
   simp only[Sl.enc,fZ,eP,show (j+1)*6+5=j*6+5+6 by omega,show (j+1)*6+4=j*6+4+6 by omega,fV]
theorem U9(h:j<S.length)(nx:Int):(encS S).set (j*6+5) (O J nx)=encS (S.set j { S[j] with next:=nx }):=by
 induction S generalizing j with
 | nil=>simp at h
 | cons x S ih =>
  match j with
  | 0=>simp[Ee,Sl.enc]
  | j+1 =>
   have:=ih j (by simpa using h)
   rw[fV,Ee,Ee,gY,<- this]
   simp only[Sl.enc,fZ,eP,show (j+1)*6+5=j*6+5+6 by omega,fV]
theorem b3s(hB:w.heap[B]?=some (.cells (eG (Y (some ⟨gS,0,none⟩) nS cS :: Y (some ⟨gH,0,none⟩) nH cH :: fv :: lv :: nv :: Xb.rs)) Xb.rt (0,0)))(hj:j<nS)(hb:b<nH)(hn:nS<=12)(hh:nH<=4)(d1:B≠gS)(d2:gS≠gH)(d3:B≠gH)(l1:gS<w.heap.size)(l2:gH<w.heap.size)(c4:w.cell? ⟨gS,j*6+4,none⟩=some (.bool i))(c5:w.cell? ⟨gS,j*6+5,none⟩=some (O J nx))(fz:∀ q,w.frozen? ⟨gS,q,none⟩=false)(ch:w.cell? ⟨gH,b,none⟩=some (O J x))(fh:w.frozen? ⟨gH,b,none⟩=false) :
  aI Pg 206 #[Ae B,O J b,O J j] w fun e w'=>e=.returned (.tuple #[]) /\
   w'=(((w.setCell ⟨gS,j*6+5,none⟩ (O J x)).setCell ⟨gS,j*6+4,none⟩ (.bool true)).setCell ⟨gH,b,none⟩ (O J ((j:Int)+1))).drew:=by
 unfold Ae
 obtain⟨q0,q1,q2,q3,q4,-,-,-,-,-,qs⟩:=Aj hB
 clear hB
 go_enter func206,ntmps206
 go_wp2
 go_region_with (go_at_call 214;refine(a4u _ _ (by omega) (by omega)).mono ?_;rintro e w1 ⟨rfl,rfl⟩)
 all_goals go_wp2
 all_goals go_end0
 all_goals exact⟨rfl,rfl⟩
end
section
open Deep
variable {Xb:Ex}
theorem b1y(cF:Nat)(ka kb u:Int)(hB:w.heap[B]?=some (.cells (eG (sv :: hv :: Y aF 0 cF :: lv :: nv :: Xb.rs)) Xb.rt (0,0))) :
  aI Pg 118 #[Ae B,.agg #[O J ka,O J kb],O J u] w fun e w'=>e=.returned (.tuple #[O J 0,.bool false])/\Below w.heap.size w w':=by
 unfold Ae
 obtain⟨q0,q1,q2,q3,q4,f0,f1,f2,f3,f4,qs⟩:=Aj hB
 clear hB
 go_enter func118,ntmps118
 go_wp2
 go_ret2
 exact⟨rfl,A7 _ _⟩
theorem b1x(b v:Int)(i:Bool)(F:List Int)(hB:w.heap[B]?=some (.cells (eG (Y (some ⟨gS,0,none⟩) nS cS :: hv :: Y (some ⟨gF,0,none⟩) (n+1) cF :: lv :: nv :: Xb.rs)) Xb.rt (0,0)))(hn:n+1<=cF)(hc:cF<=9223372036854775807)(hS:nS<=9223372036854775807)(hj:j<nS)(hm:n*8<=140737488350000)(d1:B≠gS)(d2:B≠gF)(l1:gS<w.heap.size)(l2:gF<w.heap.size)(hF:F.length=n)(cx:w.cell? ⟨gF,n,none⟩=some (O J j))(ZM:∀ q u,(encI F)[q]?=some u->w.cell? ⟨gF,q,none⟩=some u)(c0:w.cell? ⟨gS,j*6,none⟩=some (O J r))(c1:w.cell? ⟨gS,j*6+1,none⟩=some (O J a))(c2':w.cell? ⟨gS,j*6+2,none⟩=some (O J b))(c3:w.cell? ⟨gS,j*6+3,none⟩=some (O J v))(c4:w.cell? ⟨gS,j*6+4,none⟩=some (.bool i))(c5:w.cell? ⟨gS,j*6+5,none⟩=some (O J nx))(xR:∀ q,w.frozen? ⟨gS,q,none⟩=false) :
  aI Pg 118 #[Ae B,.agg #[O J ka,O J kb],O J u] w fun e w'=>e=.returned (.tuple #[O J j,.bool true])/\∃ a' c' w1,Below w.heap.size w w1/\w1.ownsRow w.heap.size 3 1 (Y a' n c') n (encI F) /\
   ∃ k,w'=(mm.Lh (w1.setCell ⟨B,2,none⟩ (Y a' n c')) gS (j*6) ⟨1,ka,kb,u,false,nx⟩).drewN k:=by
 unfold Ae
 have UE:n<=cF:=by omega
 have HB:Qi _:=hB
 obtain⟨q0,q1,q2,q3,q4,f0,f1,f2,f3,f4,qs⟩:=Aj hB
 obtain⟨i0,hi,ng,qj,pq⟩:=info_parts iI
 have HFc:Qi _:=ZM
 clear hB ZM
 go_enter func118,ntmps118
 go_wp2_with fail
 go_quiet (fail)
 go_wp2_with fail
 have OJ:Below w.heap.size w ((w.alloc (.cells #[O J ka,O J kb] 30)).drewN nq):=(A7 w _).trans (below_draws _ _ nq)
 have zT:((w.alloc (.cells #[O J ka,O J kb] 30)).drewN nq).heap[w.heap.size]?=some (.cells #[O J ka,O J kb] 30 (0,0)):=heap_alloc_new _ _
 have NM:((w.alloc (.cells #[O J ka,O J kb] 30)).drewN nq).heap.size=w.heap.size+1:=by simp
 clear q0 q1 q2 q3 q4 f0 f1 f2 f3 f4
 generalize (w.alloc (.cells #[O J ka,O J kb] 30)).drewN nq=W1 at *
 have iy:Qi (W1.heap[B]?=_):=(OJ.block B qs).trans HB.o
 obtain⟨q0,q1,q2,q3,q4,f0,f1,f2,f3,f4,LG⟩:=Aj iy.o
 have HFc1:Qi (∀ q u,(encI F)[q]?=some u->((W1.alloc (.cells #[] 3)).drew).cell? ((⟨gF,0,none⟩:Addr).add q)=some u):=fun q u h=>by
  rw[Addr.add_lit,Nat.zero_add]
  exact((((OJ.trans ((A7 W1 (.cells #[] 3)).mono (by omega))).drew).cell (p:=⟨gF,q,none⟩) l2)).trans (HFc.o q u h)
 have MW:Qi (((W1.alloc (.cells #[] 3)).drew).ownsRow w.heap.size 3 1 (Y (some ⟨W1.heap.size,0,none⟩) 0 0) 0 []):=(a5q W1 3 1 w.heap.size _ rfl (by omega):(W1.alloc (.cells #[] 3)).ownsRow w.heap.size 3 1 (Y (some ⟨W1.heap.size,0,none⟩) 0 0) 0 [])
 have YV:IntKind.i64.wrap (n:Int)=(n:Int):=by rw[IntKind.wrap_i64] <;> omega
 have hn2:(n:Int)<=(cF:Int):=by omega
 have hn3:(0:Int)<=(n:Int):=by omega
 have hE:(encI F).length=n*1:=by rw[Dz,Nat.mul_one,hF]
 have hz1':w.heap.size+1=W1.heap.size:=NM.symm
 have IC:Qi _:=zT
 have rC:Qi _:=NM
 have tq:Qi _:=OJ
 clear zT NM OJ
 go_region_law (first
  | (refine Dq _ rfl (.tmp 28) (.tmp 39) 23 rfl w.heap.size 3 i0 (O J 0) 1 8 underlying23 hi ng qj pq rfl (by first|decide|exact Ex.ne _ _ (by decide)) (Y (some ⟨W1.heap.size,0,none⟩) 0 0) 0 [] rfl MW.o ⟨gF,0,none⟩ n cF (encI F) rfl hE HFc1.o (Hg F) (by unfold maxLen;omega) (by omega) (by simp;omega) ?_;intro v2 w2 jk lg _ ji;rw[Nat.zero_add,eP] at jk;obtain⟨a2,c2,rfl⟩:=Bg jk;have uw:Qi (w2.ownsRow w.heap.size 3 1 (Y a2 n c2) n (encI F)):=jk;have vI:Qi (Below w.heap.size w w2/\w.heap.size<w2.heap.size/\w2.heap[w.heap.size]?=some (.cells #[O J ka,O J kb] 30 (0,0))):=b2l tq.o IC.o rC.o lg;clear jk lg ji q0 q1 q2 q3 q4 f0 f1 f2 f3 f4 LG;obtain⟨q0,q1,q2,q3,q4,f0,f1,f2,f3,f4,qs2⟩:=Aj ((vI.o.1.block B qs).trans HB.o);obtain⟨k0,k1⟩:=keyf vI.o.2.2;obtain⟨e0,e1,e2,e3,e4,e5,ez⟩:=a4r vI.o.1 l1 c0 c1 c2' c3 c4 c5 xR;have l3:w.heap.size<w2.heap.size:=vI.o.2.1;have l4:gS<w2.heap.size:=(by omega)))
 all_goals (clear c0 c1 c2' c3 c4 c5 xR cx)
 all_goals go_wp2_with fail
 all_goals go_region
 all_goals go_wp2
 all_goals go_ret2
 all_goals exact⟨rfl,a2,c2,w2,vI.o.1,uw.o,1,rfl⟩
theorem b1s(ka kb u nx x:Int)(i:Bool)(hB:w.heap[B]?=some (.cells (eG (Y (some ⟨gS,0,none⟩) nS cS :: Y (some ⟨gH,0,none⟩) nH cH :: fv :: lv :: nv :: Xb.rs)) Xb.rt (0,0)))(hj:j<nS)(hb:b<nH)(hn:nS<=12)(hh:nH<=4)(d1:B≠gS)(d2:gS≠gH)(d3:B≠gH)(l1:gS<w.heap.size)(l2:gH<w.heap.size)(c0:w.cell? ⟨gS,j*6,none⟩=some (O J r))(c1:w.cell? ⟨gS,j*6+1,none⟩=some (O J ka))(c2:w.cell? ⟨gS,j*6+2,none⟩=some (O J kb))(c3:w.cell? ⟨gS,j*6+3,none⟩=some (O J u))(c4:w.cell? ⟨gS,j*6+4,none⟩=some (.bool i))(c5:w.cell? ⟨gS,j*6+5,none⟩=some (O J nx))(fz:∀ q,w.frozen? ⟨gS,q,none⟩=false)(ch:w.cell? ⟨gH,b,none⟩=some (O J x))(fh:w.frozen? ⟨gH,b,none⟩=false) :
  aI Pg 120 #[Ae B,O J j,O J b] w fun e w'=>e=.returned (.tuple #[]) /\
   ∃ ob,w'=(((mm.Lh w gS (j*6) ⟨r,ka,kb,u,true,x⟩).setCell ⟨gH,b,none⟩ (O J ((j:Int)+1))).alloc ob).drew:=by
 unfold Ae
 obtain⟨q0,q1,q2,q3,q4,-,-,-,-,-,qs⟩:=Aj hB
 clear hB
 go_enter func120,ntmps120
 go_wp2
 go_region
 all_goals go_wp2
 all_goals go_end0
 all_goals exact⟨rfl,_,rfl⟩
end
section
variable {Xb:Ex}
theorem Fine.Lh{w w1:Wq}{Z:Nat->Prop}{g:Nat}(h:Fine w w1 Z)(hk:Z g\/w.heap.size<=g)(o:Nat)(s:Sl):Fine w (mm.Lh w1 g o s) Z:=by
 unfold mm.Lh
 exact(((((h.set hk _ _).set hk _ _).set hk _ _).set hk _ _).set hk _ _).set hk _ _
theorem Yu(hM:Ok M)(hF:0<M.f.length)(ka kb u:Int):∃ n j:Nat,∃ hn:M.f.length=n+1,∃ hj:j<M.s.length,M.f[n]'(by omega)=j/\Gw M=j/\Pj M ka kb u = { M with s:=M.s.set j ⟨1,ka,kb,u,false,M.s[j].next⟩,f:=M.f.take n }:=by
 have hl:=b3r hM (by omega)
 obtain⟨n,hn⟩:∃ n,M.f.length=n+1:=⟨M.f.length - 1,by omega⟩
 have hnF:n<M.f.length:=by omega
 have UK:Gw M=M.f[n]:=by
  show M.f.getD (M.f.length - 1) 0=_
  rw[show M.f.length - 1=n by omega]
  simp[List.getD_eq_getElem?_getD,hnF]
 obtain⟨j,hj⟩:∃ j:Nat,Gw M=j:=⟨(Gw M).toNat,by omega⟩
 have JG:j<M.s.length:=by omega
 refine⟨n,j,hn,JG,UK.symm.trans hj,hj,?_⟩
 unfold Pj
 rw[hj,show M.f.length - 1=n by omega]
 simp[List.getD_eq_getElem?_getD,JG]
theorem a8n{w:Wq}{B lo:Nat}{Z:Nat->Prop}{ka kb u:Int}(H:Has Xb w B lo Z M)(hM:Ok M)(hF:0<M.f.length) :
  aI Pg 203 #[Ae B,.agg #[O J ka,O J kb],O J u] w fun e w'=>e=.returned (.tuple #[O J (Gw M),.bool true])/\Has Xb w' B lo (Up w Z) (Pj M ka kb u)/\Fine w w' Z:=by
 unfold Ae
 obtain⟨aS,aH,aF,aL,cS,cH,cF,cL,m,hf⟩:=H
 obtain⟨n,j,hn,JG,hFj,hj,hT⟩:=Yu hM hF ka kb u
 obtain⟨gS,rfl,oS,lS,-,-⟩:=C9 m.c.s (by omega)
 obtain⟨gF,rfl,oF,lF,kF,kF2⟩:=C9 m.c.f hF
 rw[hT,hj]
 refine(b4t w B lo gS gF n j cS cH cF cL aH aL M ka kb u m hn JG hFj (by omega) kF2).mono ?_
 rintro e w' ⟨rfl,w1,bu,rfl⟩
 have mp:=((m.below bu).pop hn).Lh (j:=j) JG ⟨1,ka,kb,u,false,M.s[j].next⟩
 have kp:Fine w _ Z:=(((Fine.of_below Z bu).set (k:=B) (.inl (hf _ (.inl rfl))) 2 (Y (some ⟨gF,0,none⟩) n cF))).Lh (.inl (hf gS (.inr (.inl ⟨_,rfl,rfl⟩)))) (j*6) ⟨1,ka,kb,u,false,M.s[j].next⟩
 generalize mm.Lh (w1.setCell ⟨B,2,none⟩ (Y (some ⟨gF,0,none⟩) n cF)) gS (j*6) ⟨1,ka,kb,u,false,M.s[j].next⟩=W at *
 have hb:Below W.heap.size W W.drew:=(Below.refl _ _).drew
 exact⟨rfl,⟨_,_,_,_,_,_,_,_,mp.below hb,fun k hk=>.inl (hf k hk)⟩,kp.below hb⟩
theorem a8o{w:Wq}{B lo:Nat}{Z:Nat->Prop}{ka kb u:Int}(H:Has Xb w B lo Z M)(hF:M.f.length=0) :
  aI Pg 203 #[Ae B,.agg #[O J ka,O J kb],O J u] w fun e w'=>e=.returned (.tuple #[O J 0,.bool false])/\Below w.heap.size w w':=by
 unfold Ae
 obtain⟨aS,aH,aF,aL,cS,cH,cF,cL,m,hf⟩:=H
 have hB:=m.box
 rw[hF] at hB
 exact b4u w B _ _ _ _ aF cF ka kb u hB
theorem a4e{w:Wq}{B lo:Nat}{Z:Nat->Prop}{ka kb u:Int}(H:Has Xb w B lo Z M)(hM:Ok M)(hF:0<M.f.length) :
  aI Pg 118 #[Ae B,.agg #[O J ka,O J kb],O J u] w fun e w'=>e=.returned (.tuple #[O J (Gw M),.bool true])/\Has Xb w' B lo (Up w Z) (Pj M ka kb u)/\Fine w w' Z:=by
 unfold Ae
 have BG:=Tf hM
 obtain⟨aS,aH,aF,aL,cS,cH,cF,cL,m,hf⟩:=H
 obtain⟨n,j,hn,JG,hFj,hj,hT⟩:=Yu hM hF ka kb u
 obtain⟨gS,rfl,oS,lS,-,-⟩:=C9 m.c.s (by omega)
 obtain⟨gF,rfl,oF,lF,kF,kF2⟩:=C9 m.c.f hF
 rw[hT,hj]
 have hnF:n<M.f.length:=by omega
 obtain⟨c0,c1,c2,c3,c4,c5,fz⟩:=Du m.c.s JG
 have cx:=(Gf m.c.f hnF).1
 rw[hFj] at cx
 have hB:=m.box
 rw[hn] at hB
 have m1:=m.m1
 have jb:(M.f.take n).length=n:=by rw[List.length_take];omega
 have ZM:∀ q u,(encI (M.f.take n))[q]?=some u->w.cell? ⟨gF,q,none⟩=some u:=fun q u h=>by
  have hq:q<n:=by
   have:=(List.getElem?_eq_some_iff.1 h).1
   rwa [Dz,jb] at this
  rw[m.c.f.cellAt q (by omega),<- h]
  simp[encI,List.getElem?_take_of_lt hq]
 refine(b1x w B gS gF _ n j cS cF _ _ _ ka kb u _ _ _ _ _ _ (M.f.take n) hB (by omega) kF2 (by omega) JG (by omega) m.b0p m.ne_f lS lF jb cx ZM c0 c1 c2 c3 c4 c5 fz).mono ?_
 rintro e w' ⟨rfl,a',c',w1,hb,ho,k,rfl⟩
 have uN:=Ri ho
 have mp:=(m.Df (M.f.take n) (by rw[jb];omega) hb jb ho).Lh (j:=j) JG ⟨1,ka,kb,u,false,M.s[j].next⟩
 have kp:Fine w _ Z:=(((Fine.of_below Z hb).set (k:=B) (.inl (hf _ (.inl rfl))) 2 (Y a' n c'))).Lh (.inl (hf gS (.inr (.inl ⟨_,rfl,rfl⟩)))) (j*6) ⟨1,ka,kb,u,false,M.s[j].next⟩
 generalize mm.Lh (w1.setCell ⟨B,2,none⟩ (Y a' n c')) gS (j*6) ⟨1,ka,kb,u,false,M.s[j].next⟩=W at *
 have gy:Below W.heap.size W (W.drewN k):=below_draws _ _ k
 exact⟨rfl,⟨_,_,_,_,_,_,_,_,mp.below gy,Ud hf uN⟩,kp.below gy⟩
theorem a4f{w:Wq}{B lo:Nat}{Z:Nat->Prop}{ka kb u:Int}(H:Has Xb w B lo Z M)(hF:M.f.length=0) :
  aI Pg 118 #[Ae B,.agg #[O J ka,O J kb],O J u] w fun e w'=>e=.returned (.tuple #[O J 0,.bool false])/\Below w.heap.size w w':=by
 unfold Ae
 obtain⟨aS,aH,aF,aL,cS,cH,cF,cL,m,hf⟩:=H
 have hB:=m.box
 rw[hF] at hB
 exact b1y w B _ _ _ _ aF cF ka kb u hB
theorem a1l(M:Mm)(j b:Nat):Tm M j b=a3j M j b:=rfl
theorem a7h{w:Wq}{B lo:Nat}{Z:Nat->Prop}{j b:Nat}(H:Has Xb w B lo Z M)(hM:Ok M)(hj:j<M.s.length)(hb:b<M.h.length) :
  aI Pg 206 #[Ae B,O J b,O J j] w fun e w'=>e=.returned (.tuple #[])/\Has Xb w' B lo (Up w Z) (Tm M j b)/\Fine w w' Z:=by
 unfold Ae
 obtain⟨aS,aH,aF,aL,cS,cH,cF,cL,m,hf⟩:=H
 obtain⟨gS,rfl,oS,lS,-,-⟩:=C9 m.c.s (by omega)
 obtain⟨gH,rfl,oH,lH,-,-⟩:=C9 m.c.h (by omega)
 obtain⟨c0,c1,c2,c3,c4,c5,fz⟩:=Du m.c.s hj
 obtain⟨ch,fh⟩:=Gf m.c.h hb
 have dj:gS≠gH:=fun e=>D9 m.c.s m.c.h (by first|decide|exact Ex.ne _ _ (by decide)) gS rfl (by rw[e];rfl)
 refine(b3s w B gS gH _ _ j b cS cH _ _ _ _ _ _ m.box hj hb hM.ns hM.nh.2 m.b0p dj m.ne_h lS lH c4 c5 fz ch fh).mono ?_
 rintro e w' ⟨rfl,rfl⟩
 have hs:Aa M j=M.s[j]:=Fj hj
 have xA:Bq M b=M.h[b]:=by simp[Bq,List.getD_eq_getElem?_getD,hb]
 rw[a1l]
 unfold a3j
 rw[hs,xA]
 have h5:=U9 M.s j hj M.h[b]
 have h2:=a6u M.s j hj M.h[b] true
 rw[h5] at h2
 have m2:=((m.U2 (j*6+5) (O J M.h[b]) _ h5).U2 (j*6+4) (.bool true) _ h2).setH b ((j:Int)+1)
 have zS:Z gS\/w.heap.size<=gS:=.inl (hf gS (.inr (.inl ⟨_,rfl,rfl⟩)))
 have zH:Z gH\/w.heap.size<=gH:=.inl (hf gH (.inr (.inr (.inl ⟨_,rfl,rfl⟩))))
 have k2:Fine w _ Z:=(((Fine.refl w Z).set zS (j*6+5) (O J M.h[b])).set zS (j*6+4) (.bool true)).set zH b (O J ((j:Int)+1))
 generalize ((w.setCell ⟨gS,j*6+5,none⟩ (O J M.h[b])).setCell ⟨gS,j*6+4,none⟩ (.bool true)).setCell ⟨gH,b,none⟩ (O J ((j:Int)+1))=W at *
 have gy:Below W.heap.size W W.drew:=(Below.refl _ _).drew
 exact⟨rfl,⟨_,_,_,_,_,_,_,_,m2.below gy,fun k hk=>.inl (hf k hk)⟩,k2.below gy⟩
theorem a4a{w:Wq}{B lo:Nat}{Z:Nat->Prop}{j b:Nat}(H:Has Xb w B lo Z M)(hM:Ok M)(hj:j<M.s.length)(hb:b<M.h.length) :
  aI Pg 120 #[Ae B,O J j,O J b] w fun e w'=>e=.returned (.tuple #[])/\Has Xb w' B lo (Up w Z) (Tm M j b)/\Fine w w' Z:=by
 unfold Ae
 obtain⟨aS,aH,aF,aL,cS,cH,cF,cL,m,hf⟩:=H
 obtain⟨gS,rfl,oS,lS,-,-⟩:=C9 m.c.s (by omega)
 obtain⟨gH,rfl,oH,lH,-,-⟩:=C9 m.c.h (by omega)
 obtain⟨c0,c1,c2,c3,c4,c5,fz⟩:=Du m.c.s hj
 obtain⟨ch,fh⟩:=Gf m.c.h hb
 have dj:gS≠gH:=fun e=>D9 m.c.s m.c.h (by first|decide|exact Ex.ne _ _ (by decide)) gS rfl (by rw[e];rfl)
 refine(b1s w B gS gH _ _ j b cS cH _ _ _ _ _ _ _ _ _ _ m.box hj hb hM.ns hM.nh.2 m.b0p dj m.ne_h lS lH c0 c1 c2 c3 c4 c5 fz ch fh).mono ?_
 rintro e w' ⟨rfl,ob,rfl⟩
 have hs:Aa M j=M.s[j]:=Fj hj
 have xA:Bq M b=M.h[b]:=by simp[Bq,List.getD_eq_getElem?_getD,hb]
 rw[a1l]
 unfold a3j
 rw[hs,xA]
 have m2:=(m.Lh (j:=j) hj ⟨M.s[j].refs,M.s[j].a,M.s[j].b,M.s[j].unt,true,M.h[b]⟩).setH b ((j:Int)+1)
 have zS:Z gS\/w.heap.size<=gS:=.inl (hf gS (.inr (.inl ⟨_,rfl,rfl⟩)))
 have zH:Z gH\/w.heap.size<=gH:=.inl (hf gH (.inr (.inr (.inl ⟨_,rfl,rfl⟩))))
 have k2:Fine w _ Z:=((Fine.refl w Z).Lh zS (j*6) ⟨M.s[j].refs,M.s[j].a,M.s[j].b,M.s[j].unt,true,M.h[b]⟩).set zH b (O J ((j:Int)+1))
 generalize (mm.Lh w gS (j*6) ⟨M.s[j].refs,M.s[j].a,M.s[j].b,M.s[j].unt,true,M.h[b]⟩).setCell ⟨gH,b,none⟩ (O J ((j:Int)+1))=W at *
 have gy:Below W.heap.size W ((W.alloc ob).drew):=(A7 W ob).drew
 exact⟨rfl,⟨_,_,_,_,_,_,_,_,m2.below gy,fun k hk=>.inl (hf k hk)⟩,k2.below gy⟩
theorem Jn(hB:w.heap[B]?=some (.cells (eG (sv :: hv :: fv :: Y (some ⟨gL,0,none⟩) nL cL :: nv :: Xb.rs)) Xb.rt (0,0)))(hb:b<nL)(hn:nL<=1000)(c:w.cell? ⟨gL,b,none⟩=some (O J x)) :
  aI Pg 213 #[Ae B,O J b,O J t] w fun e w'=>e=.returned (.bool (x==t))/\w=w':=by
 unfold Ae
 obtain⟨q0,q1,q2,q3,q4,-,-,-,-,-,qs⟩:=Aj hB
 have hw:inB (b:Int) 0 ((nL:Int) - 1)=true:=(Ar _ _ _).2 (by omega)
 have HW:Qi (∀ W:Wq,aI Pg 85 #[O J (b:Int),O J 0,O J ((nL:Int) - 1)] W fun e w'=>e=.returned (.bool true)/\W=w'):=fun W=>hw ▸ Ci _ _ _ W
 clear hB hw
 go_enter func213,ntmps213
 go_wp2_with (go_at_call 85;refine(HW.o _).mono ?_;rintro e w1 ⟨rfl,rfl⟩)
 go_ret
 exact⟨rfl,rfl⟩
theorem b0k(hB:w.heap[B]?=some (.cells (eG (sv :: hv :: fv :: Y (some ⟨gL,0,none⟩) nL cL :: nv :: Xb.rs)) Xb.rt (0,0)))(hb:b<nL)(hn:nL<=1000)(c:w.cell? ⟨gL,b,none⟩=some (O J (-1)))(fz:w.frozen? ⟨gL,b,none⟩=false) :
  aI Pg 205 #[Ae B,O J b,O J t] w fun e w'=>e=.returned (.bool true)/\w.setCell ⟨gL,b,none⟩ (O J t)=w':=by
 unfold Ae
 have HW:Qi (aI Pg 213 #[Ae B,O J b,O J (-1)] w fun e w'=>e=.returned (.bool true)/\w=w'):=Jn w B gL nL b cL sv hv fv nv (-1) (-1) hB hb hn c
 obtain⟨q0,q1,q2,q3,q4,-,-,-,-,-,qs⟩:=Aj hB
 clear hB
 go_enter func205,ntmps205
 go_wp2_with (go_at_call 213;refine HW.o.mono ?_;rintro e w1 ⟨rfl,rfl⟩)
 go_ret
 exact⟨rfl,rfl⟩
theorem b3u(hB:w.heap[B]?=some (.cells (eG (sv :: hv :: fv :: Y (some ⟨gL,0,none⟩) nL cL :: nv :: Xb.rs)) Xb.rt (0,0)))(hb:b<nL)(hn:nL<=1000)(c:w.cell? ⟨gL,b,none⟩=some (O J x))(hx:(x == -1)=false) :
  aI Pg 205 #[Ae B,O J b,O J t] w fun e w'=>e=.returned (.bool false)/\w=w':=by
 unfold Ae
 have HW:Qi (aI Pg 213 #[Ae B,O J b,O J (-1)] w fun e w'=>e=.returned (.bool false)/\w=w'):=hx ▸ Jn w B gL nL b cL sv hv fv nv x (-1) hB hb hn c
 obtain⟨q0,q1,q2,q3,q4,-,-,-,-,-,qs⟩:=Aj hB
 clear hB hx
 go_enter func205,ntmps205
 go_wp2_with (go_at_call 213;refine HW.o.mono ?_;rintro e w1 ⟨rfl,rfl⟩)
 go_ret
 exact⟨rfl,rfl⟩
theorem a4w(hB:w.heap[B]?=some (.cells (eG (sv :: hv :: fv :: Y (some ⟨gL,0,none⟩) nL cL :: nv :: Xb.rs)) Xb.rt (0,0)))(hb:b<nL)(hn:nL<=1000)(c:w.cell? ⟨gL,b,none⟩=some (O J t))(fz:w.frozen? ⟨gL,b,none⟩=false) :
  aI Pg 207 #[Ae B,O J b,O J t] w fun e w'=>e=.returned (.tuple #[])/\w.setCell ⟨gL,b,none⟩ (O J (-1))=w':=by
 unfold Ae
 have HW:Qi (aI Pg 213 #[Ae B,O J b,O J t] w fun e w'=>e=.returned (.bool true)/\w=w'):=(show (t==t)=true by simp) ▸ Jn w B gL nL b cL sv hv fv nv t t hB hb hn c
 obtain⟨q0,q1,q2,q3,q4,-,-,-,-,-,qs⟩:=Aj hB
 clear hB
 go_enter func207,ntmps207
 go_wp2_with (go_at_call 213;refine HW.o.mono ?_;rintro e w1 ⟨rfl,rfl⟩)
 go_end0
 exact⟨rfl,rfl⟩
theorem a8r(hB:w.heap[B]?=some (.cells (eG (sv :: hv :: fv :: Y (some ⟨gL,0,none⟩) nL cL :: nv :: Xb.rs)) Xb.rt (0,0)))(hb:b<nL)(hn:nL<=1000)(c:w.cell? ⟨gL,b,none⟩=some (O J x))(hx:(x==t)=false) :
  aI Pg 207 #[Ae B,O J b,O J t] w fun e w'=>e=.returned (.tuple #[])/\w=w':=by
 unfold Ae
 have HW:Qi (aI Pg 213 #[Ae B,O J b,O J t] w fun e w'=>e=.returned (.bool false)/\w=w'):=hx ▸ Jn w B gL nL b cL sv hv fv nv x t hB hb hn c
 obtain⟨q0,q1,q2,q3,q4,-,-,-,-,-,qs⟩:=Aj hB
 clear hB hx
 go_enter func207,ntmps207
 go_wp2_with (go_at_call 213;refine HW.o.mono ?_;rintro e w1 ⟨rfl,rfl⟩)
 go_end0
 exact⟨rfl,rfl⟩
theorem a4b(hB:w.heap[B]?=some (.cells (eG (sv :: hv :: fv :: Y (some ⟨gL,0,none⟩) nL cL :: nv :: Xb.rs)) Xb.rt (0,0)))(hb:b<nL)(hn:nL<=1000)(c:w.cell? ⟨gL,b,none⟩=some (O J (-1)))(fz:w.frozen? ⟨gL,b,none⟩=false) :
  aI Pg 119 #[Ae B,O J b,O J t] w fun e w'=>e=.returned (.bool true)/\w.setCell ⟨gL,b,none⟩ (O J t)=w':=by
 unfold Ae
 obtain⟨q0,q1,q2,q3,q4,-,-,-,-,-,qs⟩:=Aj hB
 clear hB
 go_enter func119,ntmps119
 go_wp2
 go_ret
 exact⟨rfl,rfl⟩
theorem a8f(hB:w.heap[B]?=some (.cells (eG (sv :: hv :: fv :: Y (some ⟨gL,0,none⟩) nL cL :: nv :: Xb.rs)) Xb.rt (0,0)))(hb:b<nL)(hn:nL<=1000)(c:w.cell? ⟨gL,b,none⟩=some (O J x))(hx:(x == -1)=false) :
  aI Pg 119 #[Ae B,O J b,O J t] w fun e w'=>e=.returned (.bool false)/\w=w':=by
 unfold Ae
 obtain⟨q0,q1,q2,q3,q4,-,-,-,-,-,qs⟩:=Aj hB
 clear hB
 go_enter func119,ntmps119
 go_wp2
 go_ret
 exact⟨rfl,rfl⟩
theorem a0b(hB:w.heap[B]?=some (.cells (eG (sv :: hv :: fv :: Y (some ⟨gL,0,none⟩) nL cL :: nv :: Xb.rs)) Xb.rt (0,0)))(hb:b<nL)(hn:nL<=1000)(c:w.cell? ⟨gL,b,none⟩=some (O J t))(fz:w.frozen? ⟨gL,b,none⟩=false) :
  aI Pg 121 #[Ae B,O J b,O J t] w fun e w'=>e=.returned (.tuple #[])/\w.setCell ⟨gL,b,none⟩ (O J (-1))=w':=by
 unfold Ae
 obtain⟨q0,q1,q2,q3,q4,-,-,-,-,-,qs⟩:=Aj hB
 clear hB
 have ht:(t==t)=true:=by simp
 go_enter func121,ntmps121
 go_wp2
 go_end0
 exact⟨rfl,rfl⟩
theorem a1z(hB:w.heap[B]?=some (.cells (eG (sv :: hv :: fv :: Y (some ⟨gL,0,none⟩) nL cL :: nv :: Xb.rs)) Xb.rt (0,0)))(hb:b<nL)(hn:nL<=1000)(c:w.cell? ⟨gL,b,none⟩=some (O J x))(hx:(x==t)=false) :
  aI Pg 121 #[Ae B,O J b,O J t] w fun e w'=>e=.returned (.tuple #[])/\w=w':=by
 unfold Ae
 obtain⟨q0,q1,q2,q3,q4,-,-,-,-,-,qs⟩:=Aj hB
 clear hB
 go_enter func121,ntmps121
 go_wp2
 go_end0
 exact⟨rfl,rfl⟩
def Nj(M:Mm)(b:Nat)(t:Int):Mm:=if D6 M b=-1 then a1o M b t else M
def Nk(M:Mm)(b:Nat)(t:Int):Mm:=if D6 M b=t then a1o M b (-1) else M
theorem O5{b:Nat}(hb:b<M.l.length):D6 M b=M.l[b]:=by simp[D6,List.getD_eq_getElem?_getD,hb]
theorem Pz{w:Wq}{B lo b:Nat}{Z:Nat->Prop}{aS aH aF:Option Addr}{gL cS cH cF cL:Nat}{t:Int}(m:Mine Xb w B lo aS aH aF (some ⟨gL,0,none⟩) cS cH cF cL M)(hf:∀ k,Ac B aS aH aF (some ⟨gL,0,none⟩) k->Z k) :
  Has Xb (w.setCell ⟨gL,b,none⟩ (O J t)) B lo (Up w Z) (a1o M b t)/\Fine w (w.setCell ⟨gL,b,none⟩ (O J t)) Z :=
 ⟨⟨_,_,_,_,_,_,_,_,m.Nq b t,fun k hk=>.inl (hf k hk)⟩,(Fine.refl w Z).set (.inl (hf gL (.inr (.inr (.inr (.inr ⟨_,rfl,rfl⟩)))))) _ _⟩
theorem Ui{w:Wq}{B lo b:Nat}{Z:Nat->Prop}(t:Int)(H:Has Xb w B lo Z M)(hM:Ok M)(hb:b<M.h.length) :
  aI Pg 205 #[Ae B,O J b,O J t] w fun e w'=>e=.returned (.bool (D6 M b == -1))/\Has Xb w' B lo (Up w Z) (Nj M b t)/\Fine w w' Z:=by
 unfold Ae
 have hl:=hM.nl
 have hh:=hM.nh.2
 have H':=H
 obtain⟨aS,aH,aF,aL,cS,cH,cF,cL,m,hf⟩:=H
 obtain⟨gL,rfl,oL,lL,-,-⟩:=C9 m.c.l (by omega)
 obtain⟨c,fz⟩:=Gf m.c.l (j:=b) (by omega)
 rw[<- O5 (by omega)] at c
 unfold Nj
 by_cases h:D6 M b=-1
 ·rw[h] at c ⊢
  refine(b0k w B gL _ b cL _ _ _ _ t m.box (by omega) (by omega) c fz).mono ?_
  rintro e w' ⟨rfl,rfl⟩
  rw[af rfl]
  exact⟨rfl,Pz m hf⟩
 ·have hx:(D6 M b == -1)=false:=by simpa using h
  rw[hx,ae h]
  refine(b3u w B gL _ b cL _ _ _ _ _ t m.box (by omega) (by omega) c hx).mono ?_
  rintro e w' ⟨rfl,rfl⟩
  exact⟨rfl,H'.up,.refl _ _⟩
theorem Rq{w:Wq}{B lo b:Nat}{Z:Nat->Prop}(t:Int)(H:Has Xb w B lo Z M)(hM:Ok M)(hb:b<M.h.length) :
  aI Pg 119 #[Ae B,O J b,O J t] w fun e w'=>e=.returned (.bool (D6 M b == -1))/\Has Xb w' B lo (Up w Z) (Nj M b t)/\Fine w w' Z:=by
 unfold Ae
 have hl:=hM.nl
 have hh:=hM.nh.2
 have H':=H
 obtain⟨aS,aH,aF,aL,cS,cH,cF,cL,m,hf⟩:=H
 obtain⟨gL,rfl,oL,lL,-,-⟩:=C9 m.c.l (by omega)
 obtain⟨c,fz⟩:=Gf m.c.l (j:=b) (by omega)
 rw[<- O5 (by omega)] at c
 unfold Nj
 by_cases h:D6 M b=-1
 ·rw[h] at c ⊢
  refine(a4b w B gL _ b cL _ _ _ _ t m.box (by omega) (by omega) c fz).mono ?_
  rintro e w' ⟨rfl,rfl⟩
  rw[af rfl]
  exact⟨rfl,Pz m hf⟩
 ·have hx:(D6 M b == -1)=false:=by simpa using h
  rw[hx,ae h]
  refine(a8f w B gL _ b cL _ _ _ _ _ t m.box (by omega) (by omega) c hx).mono ?_
  rintro e w' ⟨rfl,rfl⟩
  exact⟨rfl,H'.up,.refl _ _⟩
theorem Pq{w:Wq}{B lo b:Nat}{Z:Nat->Prop}(t:Int)(H:Has Xb w B lo Z M)(hM:Ok M)(hb:b<M.h.length) :
  aI Pg 207 #[Ae B,O J b,O J t] w fun e w'=>e=.returned (.tuple #[])/\Has Xb w' B lo (Up w Z) (Nk M b t)/\Fine w w' Z:=by
 unfold Ae
 have hl:=hM.nl
 have hh:=hM.nh.2
 have H':=H
 obtain⟨aS,aH,aF,aL,cS,cH,cF,cL,m,hf⟩:=H
 obtain⟨gL,rfl,oL,lL,-,-⟩:=C9 m.c.l (by omega)
 obtain⟨c,fz⟩:=Gf m.c.l (j:=b) (by omega)
 rw[<- O5 (by omega)] at c
 unfold Nk
 by_cases h:D6 M b=t
 ·rw[h] at c
  refine(a4w w B gL _ b cL _ _ _ _ t m.box (by omega) (by omega) c fz).mono ?_
  rintro e w' ⟨rfl,rfl⟩
  rw[af h]
  exact⟨rfl,Pz m hf⟩
 ·have hx:(D6 M b==t)=false:=by simpa using h
  rw[ae h]
  refine(a8r w B gL _ b cL _ _ _ _ _ t m.box (by omega) (by omega) c hx).mono ?_
  rintro e w' ⟨rfl,rfl⟩
  exact⟨rfl,H'.up,.refl _ _⟩
theorem O7{w:Wq}{B lo b:Nat}{Z:Nat->Prop}(t:Int)(H:Has Xb w B lo Z M)(hM:Ok M)(hb:b<M.h.length) :
  aI Pg 121 #[Ae B,O J b,O J t] w fun e w'=>e=.returned (.tuple #[])/\Has Xb w' B lo (Up w Z) (Nk M b t)/\Fine w w' Z:=by
 unfold Ae
 have hl:=hM.nl
 have hh:=hM.nh.2
 have H':=H
 obtain⟨aS,aH,aF,aL,cS,cH,cF,cL,m,hf⟩:=H
 obtain⟨gL,rfl,oL,lL,-,-⟩:=C9 m.c.l (by omega)
 obtain⟨c,fz⟩:=Gf m.c.l (j:=b) (by omega)
 rw[<- O5 (by omega)] at c
 unfold Nk
 by_cases h:D6 M b=t
 ·rw[h] at c
  refine(a0b w B gL _ b cL _ _ _ _ t m.box (by omega) (by omega) c fz).mono ?_
  rintro e w' ⟨rfl,rfl⟩
  rw[af h]
  exact⟨rfl,Pz m hf⟩
 ·have hx:(D6 M b==t)=false:=by simpa using h
  rw[ae h]
  refine(a1z w B gL _ b cL _ _ _ _ _ t m.box (by omega) (by omega) c hx).mono ?_
  rintro e w' ⟨rfl,rfl⟩
  exact⟨rfl,H'.up,.refl _ _⟩
end
end Go.Proofs.YthhgoenomehobaaGreat.mm
