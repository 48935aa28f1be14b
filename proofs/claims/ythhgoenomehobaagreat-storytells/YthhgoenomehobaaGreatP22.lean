/- Parts. -/
import Derived.Test.YthhgoenomehobaaGreatP16
namespace Go.Proofs.YthhgoenomehobaaGreat.mm
open List renaming toArray → eG
open Go renaming Calls → aI, World → Wq
open Tryz
set_option maxRecDepth 100000
set_option linter.unusedVariables false
open Value renaming int → O, slice → Y
open IntKind renaming i64 → J
open Tryz renaming prog → Pg
open ChangeShapes WideShapes ChangeAt RowKit Joins
set_option maxHeartbeats 0
variable (M:Mm)(f:Fr)(b B lo:Nat)(aS aH aF aL:Option Addr)(cS cH cF cL:Nat)(p:Int)(aK:Option Addr)(cK:Nat)(w:Wq)
section
open Deep Go.Sort
theorem Rx :
  aI Pg 196 #[Ai f aK cK] w fun e w'=>e=.returned (.agg #[O J (toF f 6).c.k,O J (toF f 6).c.a,O J (toF f 6).c.b,O J (toF f 6).c.t,O J (toF f 6).c.q,O J (toF f 6).c.h,O J (toF f 6).l,O J (toF f 6).u,O J (toF f 6).p,O J (toF f 6).h,O J (toF f 6).n,Y aK (toF f 6).t.length cK,.bool (toF f 6).d,O J (toF f 6).e])/\Below w.heap.size w w':=by
 unfold Ai
 go_enter func196,ntmps196
 go_wp2_with fail
 refine(Hf f 6 aK cK _).mono ?_
 rintro e w9 ⟨rfl,qM⟩
 have qo:Qi (Below w.heap.size w w9/\w9.heap[w.heap.size+1]?=some Ah):=a0j qM
 clear qM
 obtain⟨g0,g1,g2,g3,g4,g5,g6,g7,g8,g9,qm,pz,qi,qw,gf,gs⟩:=A8 qo.o.2
 go_wp2
 refine bodyPost_ret (v:=.agg #[O J (toF f 6).c.k,O J (toF f 6).c.a,O J (toF f 6).c.b,O J (toF f 6).c.t,O J (toF f 6).c.q,O J (toF f 6).c.h,O J (toF f 6).l,O J (toF f 6).u,O J (toF f 6).p,O J (toF f 6).h,O J (toF f 6).n,Y aK (toF f 6).t.length cK,.bool (toF f 6).d,O J (toF f 6).e]) (by simp[results,results196,go_sem,toF,g0,g1,g2,g3,g4,g5,g6,g7,g8,g9,qm,pz,qi,qw]) rfl ⟨rfl,a2a qo.o.1⟩
end
section
open Deep Go.Sort
theorem Qu :
  aI Pg 188 #[Ai f aK cK] w fun e w'=>e=.returned (.agg #[O J (Ec f 8 5).c.k,O J (Ec f 8 5).c.a,O J (Ec f 8 5).c.b,O J (Ec f 8 5).c.t,O J (Ec f 8 5).c.q,O J (Ec f 8 5).c.h,O J (Ec f 8 5).l,O J (Ec f 8 5).u,O J (Ec f 8 5).p,O J (Ec f 8 5).h,O J (Ec f 8 5).n,Y aK (Ec f 8 5).t.length cK,.bool (Ec f 8 5).d,O J (Ec f 8 5).e])/\Below w.heap.size w w':=by
 unfold Ai
 go_enter func188,ntmps188
 go_wp2_with fail
 refine(Hf { f with e:=8 } 5 aK cK _).mono ?_
 rintro e w9 ⟨rfl,qM⟩
 have qo:Qi (Below w.heap.size w w9/\w9.heap[w.heap.size+1]?=some Ah):=a0j qM
 clear qM
 obtain⟨g0,g1,g2,g3,g4,g5,g6,g7,g8,g9,qm,pz,qi,qw,gf,gs⟩:=A8 qo.o.2
 go_wp2
 refine bodyPost_ret (v:=.agg #[O J (Ec f 8 5).c.k,O J (Ec f 8 5).c.a,O J (Ec f 8 5).c.b,O J (Ec f 8 5).c.t,O J (Ec f 8 5).c.q,O J (Ec f 8 5).c.h,O J (Ec f 8 5).l,O J (Ec f 8 5).u,O J (Ec f 8 5).p,O J (Ec f 8 5).h,O J (Ec f 8 5).n,Y aK (Ec f 8 5).t.length cK,.bool (Ec f 8 5).d,O J (Ec f 8 5).e]) (by simp[results,results188,go_sem,Ec,toF,g0,g1,g2,g3,g4,g5,g6,g7,g8,g9,qm,pz,qi,qw]) rfl ⟨rfl,a2a qo.o.1⟩
end
section
open Maps
variable {Xb:Ex}
theorem a6o(B gS gH nS nH j b cS cH:Nat)(fv lv nv:Value)(x nx ah:Int)(hB:w.heap[B]?=some (.cells (eG (Y (some ⟨gS,0,none⟩) nS cS :: Y (some ⟨gH,0,none⟩) nH cH :: fv :: lv :: nv :: Xb.rs)) Xb.rt (0,0)))(hj:j<nS)(hb:b<nH)(hn:nS<=12)(hh:nH<=4)(ha:ah<=0)(c5:w.cell? ⟨gS,j*6+5,none⟩=some (O J nx))(ch:w.cell? ⟨gH,b,none⟩=some (O J x))(fh:w.frozen? ⟨gH,b,none⟩=false) :
  aI Pg 216 #[Ae B,O J b,O J ah,O J j] w fun e w'=>e=.returned (.tuple #[])/\w'=w.setCell ⟨gH,b,none⟩ (O J nx):=by
 unfold Ae
 obtain⟨q0,q1,q2,q3,q4,-,-,-,-,-,qs⟩:=Aj hB
 clear hB
 go_enter func216,ntmps216
 go_wp2_with (go_at_call 140;refine(Qb _ _ ha).mono ?_;rintro e w1 ⟨rfl,rfl⟩)
 go_end0
 exact⟨rfl,rfl⟩
theorem b3h(B gS gH nS nH j b p cS cH:Nat)(fv lv nv:Value)(x nx px:Int)(hB:w.heap[B]?=some (.cells (eG (Y (some ⟨gS,0,none⟩) nS cS :: Y (some ⟨gH,0,none⟩) nH cH :: fv :: lv :: nv :: Xb.rs)) Xb.rt (0,0)))(hj:j<nS)(hb:b<nH)(hn:nS<=12)(hh:nH<=4)(hp:p<nS)(c5:w.cell? ⟨gS,j*6+5,none⟩=some (O J nx))(d5:w.cell? ⟨gS,p*6+5,none⟩=some (O J px))(fz:w.frozen? ⟨gS,p*6+5,none⟩=false)(ch:w.cell? ⟨gH,b,none⟩=some (O J x)) :
  aI Pg 216 #[Ae B,O J b,O J ((p:Int)+1),O J j] w fun e w'=>e=.returned (.tuple #[])/\w'=w.setCell ⟨gS,p*6+5,none⟩ (O J nx):=by
 unfold Ae
 obtain⟨q0,q1,q2,q3,q4,-,-,-,-,-,qs⟩:=Aj hB
 clear hB
 go_enter func216,ntmps216
 go_wp2_with (go_at_call 140;refine(Qa _ _ (by omega) (by omega)).mono ?_;rw[show (p:Int)+1 - 1=p by omega];rintro e w1 ⟨rfl,rfl⟩)
 go_end0
 exact⟨rfl,rfl⟩
end
section
variable {Xb:Ex}
theorem a9n{M:Mm}{w:Wq}{B lo:Nat}{Z:Nat->Prop}{j b:Nat}{ah:Int}(H:Has Xb w B lo Z M)(hM:Ok M)(hj:j<M.s.length)(hb:b<M.h.length)(hah:ah<=M.s.length) :
  aI Pg 216 #[Ae B,O J b,O J ah,O J j] w fun e w'=>e=.returned (.tuple #[])/\Has Xb w' B lo (Up w Z) (Ir M b ah j)/\Fine w w' Z:=by
 unfold Ae
 obtain⟨aS,aH,aF,aL,cS,cH,cF,cL,m,hf⟩:=H
 obtain⟨gS,rfl,oS,lS,-,-⟩:=C9 m.c.s (by omega)
 obtain⟨gH,rfl,oH,lH,-,-⟩:=C9 m.c.h (by omega)
 obtain⟨c0,c1,c2,c3,c4,c5,fz⟩:=Du m.c.s hj
 obtain⟨ch,fh⟩:=Gf m.c.h hb
 have zS:Z gS\/w.heap.size<=gS:=.inl (hf gS (.inr (.inl ⟨_,rfl,rfl⟩)))
 have zH:Z gH\/w.heap.size<=gH:=.inl (hf gH (.inr (.inr (.inl ⟨_,rfl,rfl⟩))))
 have hs:Aa M j=M.s[j]:=Fj hj
 by_cases ha:0<ah
 ·obtain⟨p,rfl⟩:∃ p:Nat,ah=(p:Int)+1:=⟨(ah - 1).toNat,by omega⟩
  have hp:p<M.s.length:=by omega
  obtain⟨_,_,_,_,_,d5,_⟩:=Du m.c.s hp
  refine(b3h w B gS gH _ _ j b p cS cH _ _ _ _ _ _ m.box hj hb hM.ns hM.nh.2 hp c5 d5 (fz _) ch).mono ?_
  rintro e w' ⟨rfl,rfl⟩
  unfold Ir
  rw[af ha,hs,show (p:Int)+1 - 1=p by omega,show Aa M p=M.s[p] from Fj hp,Int.toNat_natCast]
  exact⟨rfl,⟨_,_,_,_,_,_,_,_,m.U2 _ _ _ (U9 M.s p hp _),fun k hk=>.inl (hf k hk)⟩,(Fine.refl w Z).set zS _ _⟩
 ·refine(a6o w B gS gH _ _ j b cS cH _ _ _ _ _ _ m.box hj hb hM.ns hM.nh.2 (by omega) c5 ch fh).mono ?_
  rintro e w' ⟨rfl,rfl⟩
  unfold Ir
  rw[ae ha,hs]
  exact⟨rfl,⟨_,_,_,_,_,_,_,_,m.setH b _,fun k hk=>.inl (hf k hk)⟩,(Fine.refl w Z).set zH _ _⟩
end
section
open Deep Go.Sort
variable {Xb:Ex}
theorem a6f(hB:w.heap[B]?=some (.cells (eG (Y aS M.s.length cS :: Y aH M.h.length cH :: Y aF M.f.length cF :: Y aL M.l.length cL :: O J M.w :: Xb.rs)) Xb.rt (0,0)))(h0:0<=p)(h1:p<=M.s.length)(hn:M.s.length<=1000) :
  aI Pg 215 #[Ae B,O J p] w fun e w'=>e=.returned (.bool true)/\Below w.heap.size w w':=by
 unfold Ae
 obtain⟨q0,q1,q2,q3,q4,-,-,-,-,-,qs⟩:=Aj hB
 clear hB
 by_cases h:p<=0
 ·obtain rfl:p=0:=by omega
  go_enter func215,ntmps215
  go_wp2_with (go_at_call 140;refine(Qb _ _ h).mono ?_;rintro e w1 ⟨rfl,rfl⟩)
  go_ret
  exact⟨rfl,Below.refl _ _⟩
 ·have h':0<p:=by omega
  have hc:p<=1000:=by omega
  have e0:(p==0)=false:=by rw[beq_eq_false_iff_ne];omega
  have HS:Qi (∀ W:Wq,aI Pg 111 #[Cm aS aH aF aL cS cH cF cL M,O J (p - 1)] W fun e w'=>e=.returned (.bool true)/\Below W.heap.size W w'):=fun W=>(show inB (p - 1) 0 ((M.s.length:Int) - 1)=true from (Ar _ _ _).2 (by omega)) ▸ Ep aS aH aF aL _ _ _ _ cS cH cF cL M.w (p - 1) W (by omega)
  clear hn h1 h0
  go_enter func215,ntmps215
  go_wp2_with (first|(go_at_call 140;refine(Qa _ _ h' hc).mono ?_;rintro e w1 ⟨rfl,rfl⟩)|(go_at_call 111;refine(HS.o _).mono ?_;rintro e w2 ⟨rfl,dm⟩))
  go_ret
  exact⟨rfl,dm⟩
structure Lf(Xb:Ex)(w w1:Wq)(B lo:Nat)(aS aH aF aL:Option Addr)(cS cH cF cL:Nat)(M:Mm)(f:Fr)(aK:Option Addr)(cK:Nat):Prop where
 bl:Below w.heap.size w w1
 m:Mine Xb w1 B lo aS aH aF aL cS cH cF cL M
 fb:w1.heap[w.heap.size]?=some (.cells #[O J f.c.k,O J f.c.a,O J f.c.b,O J f.c.t,O J f.c.q,O J f.c.h,O J f.l,O J f.u,O J f.p,O J f.h,O J f.n,Y aK f.t.length cK,.bool f.d,O J f.e] 47 (0,0))
theorem Lf.below{w w1 w2:Wq}{B lo:Nat}{aS aH aF aL:Option Addr}{cS cH cF cL:Nat}{M:Mm}{f:Fr}{aK:Option Addr}{cK:Nat}(h:Lf Xb w w1 B lo aS aH aF aL cS cH cF cL M f aK cK)(hb:Below w1.heap.size w1 w2):Lf Xb w w2 B lo aS aH aF aL cS cH cF cL M f aK cK :=
 ⟨h.bl.trans (hb.mono h.bl.size),h.m.below hb,(hb.block _ (lt_of_block h.fb)).trans h.fb⟩
theorem Lf.after{w w1 w2:Wq}{B lo:Nat}{aS aH aF aL:Option Addr}{cS cH cF cL:Nat}{M M':Mm}{f:Fr}{aK:Option Addr}{cK:Nat}(h:Lf Xb w w1 B lo aS aH aF aL cS cH cF cL M f aK cK)(hh:Has Xb w2 B lo (Up w1 (Ac B aS aH aF aL)) M')(hf:Fine w1 w2 (Ac B aS aH aF aL)):Has Xb w2 B lo (Up w (Ac B aS aH aF aL)) M'/\Fine w w2 (Ac B aS aH aF aL) :=
 ⟨hh.mono (fun k _ hk=>hk.imp id (fun h'=>Nat.le_trans h.bl.size h')),(Fine.of_below _ h.bl).trans hf (fun _ _ h=>h)⟩
theorem Lf.first{w:Wq}{B lo:Nat}{aS aH aF aL:Option Addr}{cS cH cF cL:Nat}{M:Mm}(m:Mine Xb w B lo aS aH aF aL cS cH cF cL M)(f:Fr)(aK:Option Addr)(cK:Nat){o:Obj}(ho:o=.cells #[O J f.c.k,O J f.c.a,O J f.c.b,O J f.c.t,O J f.c.q,O J f.c.h,O J f.l,O J f.u,O J f.p,O J f.h,O J f.n,Y aK f.t.length cK,.bool f.d,O J f.e] 47):Lf Xb w (w.alloc o) B lo aS aH aF aL cS cH cF cL M f aK cK:=by
 subst ho
 exact⟨A7 _ _,m.below (A7 _ _),heap_alloc_new _ _⟩
theorem Yk(m:Mine Xb w B lo aS aH aF aL cS cH cF cL M)(hM:Ok M)(hf:Fit M f)(gy:b<M.h.length)(jc:Fe M f=false) :
  aI Pg 210 #[Ae B,O J (b:Int),Ai f aK cK] w fun e w'=>e=.returned (.tuple #[O J 0,.bool false])/\Below w.heap.size w w':=by
 unfold Ae Ai
 have ig:=hM.ns
 have jf:=hM.nh.2
 have o9:=hf.u.2
 have qQ:f.u<=1000:=by omega
 have rE:M.s.length<=1000:=by omega
 obtain⟨YY,AY⟩:=hf.p
 have uZ:Qi (∀ (W:Wq),Lf Xb w W B lo aS aH aF aL cS cH cF cL M f aK cK->aI Pg 200 #[Ae B,Ai f aK cK] W fun e w'=>e=.returned (.tuple #[O J (stN f),.bool false])/\Lf Xb w w' B lo aS aH aF aL cS cH cF cL M f aK cK):=fun W h=>by
  have:=Em M f B _ _ _ _ cS cH cF cL aK cK W h.m.box qQ rE
  rw[jc] at this
  exact this.mono (fun e w' h'=>⟨h'.1,h.below h'.2⟩)
 obtain⟨of,df⟩:=frObj f aK cK
 have HE:Qi (Lf Xb w (w.alloc of) B lo aS aH aF aL cS cH cF cL M f aK cK):=Lf.first m f aK cK df
 obtain⟨f0,f1,f2,f3,f4,f5,f6,f7,f8,f9,ay,au,aj,ak,ff,fs⟩:=A8 HE.o.fb
 clear m hM hf ig jf o9 qQ rE YY AY jc
 go_enter func210,ntmps210
 go_wp2_with fail
 rw[<- df]
 generalize w.alloc of=W0 at *
 subst df
 clear f0 f1 f2 f3 f4 f5 f6 f7 f8 f9 ay au aj ak ff fs
 refine(uZ.o _ (by exact HE.o)).mono ?_
 rintro e w1 ⟨rfl,h9⟩
 have gp:Qi (Lf Xb w w1 B lo aS aH aF aL cS cH cF cL M f aK cK):=h9
 clear HE h9
 obtain⟨q0,q1,q2,q3,q4,-,-,-,-,-,qs⟩:=Aj gp.o.m.box
 obtain⟨f0,f1,f2,f3,f4,f5,f6,f7,f8,f9,ay,au,aj,ak,ff,fs⟩:=A8 gp.o.fb
 go_wp2
 go_ret2
 exact⟨rfl,gp.o.bl⟩
theorem Wv(m:Mine Xb w B lo aS aH aF aL cS cH cF cL M)(hM:Ok M)(hf:Fit M f)(gy:b<M.h.length)(j:Nat)(hj:f.u=(j:Int)+1)(uC:j<M.s.length) :
  aI Pg 210 #[Ae B,O J (b:Int),Ai f aK cK] w fun e w'=>e=.returned (.tuple #[O J (j:Int),.bool true])/\Has Xb w' B lo (Up w (Ac B aS aH aF aL)) (Ir M b f.p (j:Int))/\Fine w w' (Ac B aS aH aF aL):=by
 unfold Ae Ai
 have ig:=hM.ns
 have jf:=hM.nh.2
 have o9:=hf.u.2
 have qQ:f.u<=1000:=by omega
 have rE:M.s.length<=1000:=by omega
 obtain⟨YY,AY⟩:=hf.p
 have jc:Fe M f=true:=Fh.2 (by omega)
 have wC:stN f=j:=by unfold stN;rw[ae (by omega)];omega
 have uZ:Qi (∀ (W:Wq),Lf Xb w W B lo aS aH aF aL cS cH cF cL M f aK cK->aI Pg 200 #[Ae B,Ai f aK cK] W fun e w'=>e=.returned (.tuple #[O J ((j:Int)),.bool true])/\Lf Xb w w' B lo aS aH aF aL cS cH cF cL M f aK cK):=fun W h=>by
  have:=Em M f B _ _ _ _ cS cH cF cL aK cK W h.m.box qQ rE
  rw[wC,jc] at this
  exact this.mono (fun e w' h'=>⟨h'.1,h.below h'.2⟩)
 have PZ:Qi (∀ W:Wq,aI Pg 97 #[Cm aS aH aF aL cS cH cF cL M,O J (b:Int)] W fun e w'=>e=.returned (.bool true)/\Below W.heap.size W w'):=fun W=>(show inB (b:Int) 0 ((M.h.length:Int) - 1)=true from (Ar _ _ _).2 (by omega)) ▸ H7 _ _ _ _ _ _ _ _ cS cH cF cL M.w (b:Int) W (by omega)
 have HAh:Qi (∀ W:Wq,W.heap[B]?=some (.cells (eG (Y aS M.s.length cS :: Y aH M.h.length cH :: Y aF M.f.length cF :: Y aL M.l.length cL :: O J M.w :: Xb.rs)) Xb.rt (0,0))->aI Pg 215 #[Ae B,O J f.p] W fun e w'=>e=.returned (.bool true)/\Below W.heap.size W w'):=fun W hB=>a6f M B aS aH aF aL cS cH cF cL f.p W hB YY AY rE
 have wP:Qi (∀ W:Wq,Lf Xb w W B lo aS aH aF aL cS cH cF cL M f aK cK->aI Pg 216 #[Ae B,O J (b:Int),O J f.p,O J (j:Int)] W fun e w'=>e=.returned (.tuple #[])/\Has Xb w' B lo (Up w (Ac B aS aH aF aL)) (Ir M b f.p (j:Int))/\Fine w w' (Ac B aS aH aF aL)):=fun W h=>(a9n (Z:=Ac B aS aH aF aL) ⟨_,_,_,_,_,_,_,_,h.m,fun _ h=>h⟩ hM uC gy AY).mono (fun e w' h'=>⟨h'.1,h.after h'.2.1 h'.2.2⟩)
 generalize Ir M b f.p (j:Int)=M' at *
 obtain⟨of,df⟩:=frObj f aK cK
 have HE:Qi (Lf Xb w (w.alloc of) B lo aS aH aF aL cS cH cF cL M f aK cK):=Lf.first m f aK cK df
 obtain⟨f0,f1,f2,f3,f4,f5,f6,f7,f8,f9,ay,au,aj,ak,ff,fs⟩:=A8 HE.o.fb
 clear m hM hf ig jf o9 qQ rE YY AY jc wC hj
 go_enter func210,ntmps210
 go_wp2_with fail
 rw[<- df]
 generalize w.alloc of=W0 at *
 subst df
 clear f0 f1 f2 f3 f4 f5 f6 f7 f8 f9 ay au aj ak ff fs
 refine(uZ.o _ (by exact HE.o)).mono ?_
 rintro e w1 ⟨rfl,h9⟩
 have gp:Qi (Lf Xb w w1 B lo aS aH aF aL cS cH cF cL M f aK cK):=h9
 clear HE h9
 obtain⟨q0,q1,q2,q3,q4,-,-,-,-,-,qs⟩:=Aj gp.o.m.box
 obtain⟨f0,f1,f2,f3,f4,f5,f6,f7,f8,f9,ay,au,aj,ak,ff,fs⟩:=A8 gp.o.fb
 go_wp2_with fail
 clear q0 q1 q2 q3 q4 qs f0 f1 f2 f3 f4 f5 f6 f7 f8 f9 ay au aj ak ff fs
 refine(PZ.o w1).mono ?_
 rintro e w2 ⟨rfl,dm⟩
 have ai:Qi (Lf Xb w w2 B lo aS aH aF aL cS cH cF cL M f aK cK):=gp.o.below dm
 clear gp dm
 obtain⟨q0,q1,q2,q3,q4,-,-,-,-,-,qs⟩:=Aj ai.o.m.box
 obtain⟨f0,f1,f2,f3,f4,f5,f6,f7,f8,f9,ay,au,aj,ak,ff,fs⟩:=A8 ai.o.fb
 go_wp2_with fail
 clear q0 q1 q2 q3 q4 qs f0 f1 f2 f3 f4 f5 f6 f7 f8 f9 ay au aj ak ff fs
 refine(HAh.o w2 ai.o.m.box).mono ?_
 rintro e w3 ⟨rfl,gu⟩
 have di:Qi (Lf Xb w w3 B lo aS aH aF aL cS cH cF cL M f aK cK):=ai.o.below gu
 clear ai gu
 obtain⟨q0,q1,q2,q3,q4,-,-,-,-,-,qs⟩:=Aj di.o.m.box
 obtain⟨f0,f1,f2,f3,f4,f5,f6,f7,f8,f9,ay,au,aj,ak,ff,fs⟩:=A8 di.o.fb
 go_wp2_with fail
 clear q0 q1 q2 q3 q4 qs f0 f1 f2 f3 f4 f5 f6 f7 f8 f9 ay au aj ak ff fs
 refine(wP.o w3 di.o).mono ?_
 rintro e w4 ⟨rfl,hh4,hf4⟩
 have DU:Qi (Has Xb w4 B lo (Up w (Ac B aS aH aF aL)) M'/\Fine w w4 (Ac B aS aH aF aL)):=⟨hh4,hf4⟩
 clear hh4 hf4 di
 go_wp2
 go_ret2
 exact⟨rfl,DU.o⟩
end
end Go.Proofs.YthhgoenomehobaaGreat.mm
