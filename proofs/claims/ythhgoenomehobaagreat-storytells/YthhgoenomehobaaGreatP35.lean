/- Parts. -/
import Derived.Test.YthhgoenomehobaaGreatP22
import Derived.Test.YthhgoenomehobaaGreatP34
namespace Go.Proofs.YthhgoenomehobaaGreat.mm
open Tryz renaming results191 → mQ, ntmps191 → mV, func191 → mW, prog → Pg
open Go renaming bodyPost_ret → gZ, Calls → aI, results → iH, World → Wq
open Nat renaming le_refl → aC
open Tryz
set_option maxRecDepth 100000
set_option linter.unusedVariables false
open Value renaming int → O, slice → Y
open IntKind renaming i64 → J
open ChangeShapes WideShapes ChangeAt RowKit Joins Deep Go.Sort
set_option maxHeartbeats 0
variable (M:Mm)(f:Fr)(B lo:Nat)(aS aH aF aL:Option Addr)(cS cH cF cL:Nat)(aK:Option Addr)(cK:Nat)(w:Wq)
section
variable {Xb:Ex}
theorem a8m(m:Mine Xb w B lo aS aH aF aL cS cH cF cL M)(hM:Ok M)(hf:Fit M f)(r:Az w aK cK f.t)(hz:∀ ad,aK=some ad->¬ Ac B aS aH aF aL ad.block)(OB:f.c.k=4\/f.c.k=5)(jc:¬ Fe M f=true) :
  aI Pg 191 #[Ae B,Ai f aK cK] w fun e w'=>Ret w w' e (F6 M f) aK cK/\Has Xb w' B lo (Up w (Ac B aS aH aF aL)) (M)/\Fine w w' (Ac B aS aH aF aL):=by
 unfold Ae Ai
 have ig:=hM.ns
 have jf:=hM.nh.2
 have o9:=hf.u.2
 have qQ:f.u<=1000:=by omega
 have rE:M.s.length<=1000:=by omega
 have xW:Qi (Ok M):=hM
 have HR:Qi (Az w aK cK f.t):=r
 have vX:Fe M f=false:=by simpa using jc
 have jm:F6 M f=toF f 6:=by unfold F6;rw[ae jc]
 rw[jm]
 have uZ:Qi (∀ (W:Wq),Lk Xb w W B lo aS aH aF aL cS cH cF cL M f aK cK->aI Pg 200 #[Ae B,Ai f aK cK] W fun e w'=>e=.returned (.tuple #[O J (stN f),.bool false])/\Lk Xb w w' B lo aS aH aF aL cS cH cF cL M f aK cK):=fun W h=>by
  have:=Em M f B _ _ _ _ cS cH cF cL aK cK W h.m.box qQ rE
  rw[vX] at this
  exact this.mono (fun e w' h'=>⟨h'.1,h.below h'.2⟩)
 have HZ:Qi (∀ ad,aK=some ad->¬ (Ac B aS aH aF aL) ad.block):=hz
 obtain⟨of,df⟩:=frObj f aK cK
 obtain⟨oz,bi⟩:∃ o:Obj,o=Ah:=⟨_,rfl⟩
 have HE:Qi (Lk Xb w ((w.alloc of).alloc oz) B lo aS aH aF aL cS cH cF cL M f aK cK):=Lk.first m f aK cK df bi
 obtain⟨q0,q1,q2,q3,q4,-,-,-,-,-,qs⟩:=Aj HE.o.m.box
 obtain⟨f0,f1,f2,f3,f4,f5,f6,f7,f8,f9,ay,au,aj,ak,ff,fs⟩:=A8 HE.o.fb
 unfold Ah at bi
 clear m qQ rE o9 ig jf hM hf r hz jm jc vX OB
 go_enter mW,mV
 go_wp2_with fail
 rw[<- df,<- bi]
 generalize (w.alloc of).alloc oz=W0 at *
 subst df bi
 clear q0 q1 q2 q3 q4 qs
 clear f0 f1 f2 f3 f4 f5 f6 f7 f8 f9 ay au aj ak ff fs
 refine(uZ.o _ (by exact HE.o.below ⟨rfl,rfl,rfl,aC _,fun _ _=>rfl⟩)).mono ?_
 rintro e w1 ⟨rfl,h9⟩
 have gp:Qi (Lk Xb w w1 B lo aS aH aF aL cS cH cF cL M f aK cK):=h9
 clear HE h9
 obtain⟨q0,q1,q2,q3,q4,-,-,-,-,-,qs⟩:=Aj gp.o.m.box
 obtain⟨f0,f1,f2,f3,f4,f5,f6,f7,f8,f9,ay,au,aj,ak,ff,fs⟩:=A8 gp.o.fb
 go_wp2_with fail
 have ai:Qi (Lk2 Xb w _ (Ac B aS aH aF aL) B lo M f aK cK):=gp.o.two
 clear gp
 clear q0 q1 q2 q3 q4 qs
 refine(Hf f 6 aK cK _).mono ?_
 rintro e w9 ⟨rfl,qM⟩
 have qo:Qi (Lk2 Xb w w9 (Ac B aS aH aF aL) B lo M f aK cK):=ai.o.below qM
 clear ai qM
 clear f0 f1 f2 f3 f4 f5 f6 f7 f8 f9 ay au aj ak ff fs
 obtain⟨g0,g1,g2,g3,g4,g5,g6,g7,g8,g9,qm,pz,qi,qw,gf,gs⟩:=A8 qo.o.zb
 go_wp2
 refine gZ (v:=.agg #[O J (toF f 6).c.k,O J (toF f 6).c.a,O J (toF f 6).c.b,O J (toF f 6).c.t,O J (toF f 6).c.q,O J (toF f 6).c.h,O J (toF f 6).l,O J (toF f 6).u,O J (toF f 6).p,O J (toF f 6).h,O J (toF f 6).n,Y aK (toF f 6).t.length cK,.bool (toF f 6).d,O J (toF f 6).e]) (by simp[iH,mQ,go_sem,toF,g0,g1,g2,g3,g4,g5,g6,g7,g8,g9,qm,pz,qi,qw]) rfl ⟨⟨aK,cK,rfl,HR.o.fine qo.o.Dl.2 HZ.o,(fun ad h=>.inl h),fun _=>⟨rfl,rfl⟩⟩,qo.o.Dl⟩
theorem a2d(m:Mine Xb w B lo aS aH aF aL cS cH cF cL M)(hM:Ok M)(hf:Fit M f)(r:Az w aK cK f.t)(hz:∀ ad,aK=some ad->¬ Ac B aS aH aF aL ad.block)(OB:f.c.k=4)(jc:Fe M f=true) :
  aI Pg 191 #[Ae B,Ai f aK cK] w fun e w'=>Ret w w' e (F6 M f) aK cK/\Has Xb w' B lo (Up w (Ac B aS aH aF aL)) (M)/\Fine w w' (Ac B aS aH aF aL):=by
 unfold Ae Ai
 have ig:=hM.ns
 have jf:=hM.nh.2
 have o9:=hf.u.2
 have qQ:f.u<=1000:=by omega
 have rE:M.s.length<=1000:=by omega
 have xW:Qi (Ok M):=hM
 have HR:Qi (Az w aK cK f.t):=r
 have h1:=Fh.1 jc
 obtain⟨j,hj⟩:∃ j:Nat,f.u - 1=j:=⟨(f.u - 1).toNat,by omega⟩
 have uC:j<M.s.length:=by omega
 obtain⟨gS,rfl,oS,lS,kS,-⟩:=C9 m.c.s (by omega)
 obtain⟨s,hs⟩:∃ s,s=Aa M (j:Int):=⟨_,rfl⟩
 have wC:stN f=j:=by unfold stN;rw[ae (by omega)];exact hj
 have HX:Qi (∀ W,Mine Xb W B lo (some ⟨gS,0,none⟩) aH aF aL cS cH cF cL M->W.cell? ⟨gS,j*6+1,none⟩=some (O J s.a)/\W.cell? ⟨gS,j*6+2,none⟩=some (O J s.b)/\W.cell? ⟨gS,j*6+3,none⟩=some (O J s.unt)):=fun W m'=>⟨(D7 m'.c.s uC hs).2.1,(D7 m'.c.s uC hs).2.2.1,(D7 m'.c.s uC hs).2.2.2.1⟩
 have uZ:Qi (∀ (W:Wq),Lk Xb w W B lo (some ⟨gS,0,none⟩) aH aF aL cS cH cF cL M f aK cK->aI Pg 200 #[Ae B,Ai f aK cK] W fun e w'=>e=.returned (.tuple #[O J ((j:Int)),.bool true])/\Lk Xb w w' B lo (some ⟨gS,0,none⟩) aH aF aL cS cH cF cL M f aK cK):=fun W h=>by
  have:=Em M f B _ _ _ _ cS cH cF cL aK cK W h.m.box qQ rE
  rw[wC,jc] at this
  exact this.mono (fun e w' h'=>⟨h'.1,h.below h'.2⟩)
 have e5:(f.c.k==5)=false:=by rw[beq_eq_false_iff_ne];omega
 have e4:(f.c.k==4)=true:=by rw[beq_iff_eq];exact OB
 have BA:¬ f.c.k=5:=by omega
 by_cases hu:M.w<s.unt
 ·have jm:F6 M f=toF f 3:=by unfold F6;rw[af jc,ae BA,hj,<- hs,af hu]
  have QK:¬ s.unt<=M.w:=by omega
  rw[jm]
  have HZ:Qi (∀ ad,aK=some ad->¬ (Ac B (some ⟨gS,0,none⟩) aH aF aL) ad.block):=hz
  obtain⟨of,df⟩:=frObj f aK cK
  obtain⟨oz,bi⟩:∃ o:Obj,o=Ah:=⟨_,rfl⟩
  have HE:Qi (Lk Xb w ((w.alloc of).alloc oz) B lo (some ⟨gS,0,none⟩) aH aF aL cS cH cF cL M f aK cK):=Lk.first m f aK cK df bi
  obtain⟨q0,q1,q2,q3,q4,-,-,-,-,-,qs⟩:=Aj HE.o.m.box
  obtain⟨f0,f1,f2,f3,f4,f5,f6,f7,f8,f9,ay,au,aj,ak,ff,fs⟩:=A8 HE.o.fb
  unfold Ah at bi
  clear m qQ rE o9 ig jf hM hf r hz jm hs wC jc h1 OB BA hu hj
  go_enter mW,mV
  go_wp2_with fail
  rw[<- df,<- bi]
  generalize (w.alloc of).alloc oz=W0 at *
  subst df bi
  clear q0 q1 q2 q3 q4 qs
  clear f0 f1 f2 f3 f4 f5 f6 f7 f8 f9 ay au aj ak ff fs
  refine(uZ.o _ (by exact HE.o.below ⟨rfl,rfl,rfl,aC _,fun _ _=>rfl⟩)).mono ?_
  rintro e w1 ⟨rfl,h9⟩
  have gp:Qi (Lk Xb w w1 B lo (some ⟨gS,0,none⟩) aH aF aL cS cH cF cL M f aK cK):=h9
  clear HE h9
  obtain⟨q0,q1,q2,q3,q4,-,-,-,-,-,qs⟩:=Aj gp.o.m.box
  obtain⟨f0,f1,f2,f3,f4,f5,f6,f7,f8,f9,ay,au,aj,ak,ff,fs⟩:=A8 gp.o.fb
  obtain⟨x1,x2,x3⟩:=HX.o w1 gp.o.m
  go_wp2_with fail
  go_quiet (fail)
  go_wp2_with fail
  have ai:Qi (Lk2 Xb w (w1.drewN nq) (Ac B (some ⟨gS,0,none⟩) aH aF aL) B lo M f aK cK):=(gp.o.below (w2:=w1.drewN nq) ⟨rfl,rfl,rfl,aC _,fun _ _=>rfl⟩).two
  clear gp x1 x2 x3
  clear q0 q1 q2 q3 q4 qs
  refine(Hf f 3 aK cK _).mono ?_
  rintro e w9 ⟨rfl,qM⟩
  have qo:Qi (Lk2 Xb w w9 (Ac B (some ⟨gS,0,none⟩) aH aF aL) B lo M f aK cK):=ai.o.below qM
  clear ai qM
  clear f0 f1 f2 f3 f4 f5 f6 f7 f8 f9 ay au aj ak ff fs
  obtain⟨g0,g1,g2,g3,g4,g5,g6,g7,g8,g9,qm,pz,qi,qw,gf,gs⟩:=A8 qo.o.zb
  go_wp2
  refine gZ (v:=.agg #[O J (toF f 3).c.k,O J (toF f 3).c.a,O J (toF f 3).c.b,O J (toF f 3).c.t,O J (toF f 3).c.q,O J (toF f 3).c.h,O J (toF f 3).l,O J (toF f 3).u,O J (toF f 3).p,O J (toF f 3).h,O J (toF f 3).n,Y aK (toF f 3).t.length cK,.bool (toF f 3).d,O J (toF f 3).e]) (by simp[iH,mQ,go_sem,toF,g0,g1,g2,g3,g4,g5,g6,g7,g8,g9,qm,pz,qi,qw]) rfl ⟨⟨aK,cK,rfl,HR.o.fine qo.o.Dl.2 HZ.o,(fun ad h=>.inl h),fun _=>⟨rfl,rfl⟩⟩,qo.o.Dl⟩
 ·have jm:F6 M f=toF f 4:=by unfold F6;rw[af jc,ae BA,hj,<- hs,ae hu]
  have QK:s.unt<=M.w:=by omega
  rw[jm]
  have HZ:Qi (∀ ad,aK=some ad->¬ (Ac B (some ⟨gS,0,none⟩) aH aF aL) ad.block):=hz
  obtain⟨of,df⟩:=frObj f aK cK
  obtain⟨oz,bi⟩:∃ o:Obj,o=Ah:=⟨_,rfl⟩
  have HE:Qi (Lk Xb w ((w.alloc of).alloc oz) B lo (some ⟨gS,0,none⟩) aH aF aL cS cH cF cL M f aK cK):=Lk.first m f aK cK df bi
  obtain⟨q0,q1,q2,q3,q4,-,-,-,-,-,qs⟩:=Aj HE.o.m.box
  obtain⟨f0,f1,f2,f3,f4,f5,f6,f7,f8,f9,ay,au,aj,ak,ff,fs⟩:=A8 HE.o.fb
  unfold Ah at bi
  clear m qQ rE o9 ig jf hM hf r hz jm hs wC jc h1 OB BA hu hj
  go_enter mW,mV
  go_wp2_with fail
  rw[<- df,<- bi]
  generalize (w.alloc of).alloc oz=W0 at *
  subst df bi
  clear q0 q1 q2 q3 q4 qs
  clear f0 f1 f2 f3 f4 f5 f6 f7 f8 f9 ay au aj ak ff fs
  refine(uZ.o _ (by exact HE.o.below ⟨rfl,rfl,rfl,aC _,fun _ _=>rfl⟩)).mono ?_
  rintro e w1 ⟨rfl,h9⟩
  have gp:Qi (Lk Xb w w1 B lo (some ⟨gS,0,none⟩) aH aF aL cS cH cF cL M f aK cK):=h9
  clear HE h9
  obtain⟨q0,q1,q2,q3,q4,-,-,-,-,-,qs⟩:=Aj gp.o.m.box
  obtain⟨f0,f1,f2,f3,f4,f5,f6,f7,f8,f9,ay,au,aj,ak,ff,fs⟩:=A8 gp.o.fb
  obtain⟨x1,x2,x3⟩:=HX.o w1 gp.o.m
  go_wp2_with fail
  go_quiet (fail)
  go_wp2_with fail
  have ai:Qi (Lk2 Xb w (w1.drewN nq) (Ac B (some ⟨gS,0,none⟩) aH aF aL) B lo M f aK cK):=(gp.o.below (w2:=w1.drewN nq) ⟨rfl,rfl,rfl,aC _,fun _ _=>rfl⟩).two
  clear gp x1 x2 x3
  clear q0 q1 q2 q3 q4 qs
  refine(Hf f 4 aK cK _).mono ?_
  rintro e w9 ⟨rfl,qM⟩
  have qo:Qi (Lk2 Xb w w9 (Ac B (some ⟨gS,0,none⟩) aH aF aL) B lo M f aK cK):=ai.o.below qM
  clear ai qM
  clear f0 f1 f2 f3 f4 f5 f6 f7 f8 f9 ay au aj ak ff fs
  obtain⟨g0,g1,g2,g3,g4,g5,g6,g7,g8,g9,qm,pz,qi,qw,gf,gs⟩:=A8 qo.o.zb
  go_wp2
  refine gZ (v:=.agg #[O J (toF f 4).c.k,O J (toF f 4).c.a,O J (toF f 4).c.b,O J (toF f 4).c.t,O J (toF f 4).c.q,O J (toF f 4).c.h,O J (toF f 4).l,O J (toF f 4).u,O J (toF f 4).p,O J (toF f 4).h,O J (toF f 4).n,Y aK (toF f 4).t.length cK,.bool (toF f 4).d,O J (toF f 4).e]) (by simp[iH,mQ,go_sem,toF,g0,g1,g2,g3,g4,g5,g6,g7,g8,g9,qm,pz,qi,qw]) rfl ⟨⟨aK,cK,rfl,HR.o.fine qo.o.Dl.2 HZ.o,(fun ad h=>.inl h),fun _=>⟨rfl,rfl⟩⟩,qo.o.Dl⟩
theorem a2e(m:Mine Xb w B lo aS aH aF aL cS cH cF cL M)(hM:Ok M)(hf:Fit M f)(r:Az w aK cK f.t)(hz:∀ ad,aK=some ad->¬ Ac B aS aH aF aL ad.block)(BA:f.c.k=5)(jc:Fe M f=true)(ut:¬ f.t.length<100) :
  aI Pg 191 #[Ae B,Ai f aK cK] w fun e w'=>Ret w w' e (F6 M f) aK cK/\Has Xb w' B lo (Up w (Ac B aS aH aF aL)) (M)/\Fine w w' (Ac B aS aH aF aL):=by
 unfold Ae Ai
 have ig:=hM.ns
 have jf:=hM.nh.2
 have o9:=hf.u.2
 have qQ:f.u<=1000:=by omega
 have rE:M.s.length<=1000:=by omega
 have xW:Qi (Ok M):=hM
 have HR:Qi (Az w aK cK f.t):=r
 have h1:=Fh.1 jc
 obtain⟨j,hj⟩:∃ j:Nat,f.u - 1=j:=⟨(f.u - 1).toNat,by omega⟩
 have uC:j<M.s.length:=by omega
 obtain⟨gS,rfl,oS,lS,kS,-⟩:=C9 m.c.s (by omega)
 obtain⟨s,hs⟩:∃ s,s=Aa M (j:Int):=⟨_,rfl⟩
 have wC:stN f=j:=by unfold stN;rw[ae (by omega)];exact hj
 have jm:F6 M f=toF f 3:=by unfold F6;rw[af jc,af BA];unfold Ob;rw[ae ut];rfl
 rw[jm]
 have HNt:Qi (∀ W:Wq,Lk Xb w W B lo (some ⟨gS,0,none⟩) aH aF aL cS cH cF cL M f aK cK->aI Pg 211 #[Ai f aK cK,.agg #[O J s.a,O J s.b]] W fun e w'=>e=.returned (.agg #[O J f.c.k,O J f.c.a,O J f.c.b,O J f.c.t,O J f.c.q,O J f.c.h,O J f.l,O J f.u,O J f.p,O J f.h,O J f.n,Y aK f.t.length cK,.bool f.d,O J f.e])/\Lk Xb w w' B lo (some ⟨gS,0,none⟩) aH aF aL cS cH cF cL M f aK cK):=fun W h=>(a7o f s.a s.b aK cK W ut).mono (fun e w' h'=>⟨h'.1,h.below h'.2⟩)
 have HX:Qi (∀ W,Mine Xb W B lo (some ⟨gS,0,none⟩) aH aF aL cS cH cF cL M->W.cell? ⟨gS,j*6+1,none⟩=some (O J s.a)/\W.cell? ⟨gS,j*6+2,none⟩=some (O J s.b)/\W.cell? ⟨gS,j*6+3,none⟩=some (O J s.unt)):=fun W m'=>⟨(D7 m'.c.s uC hs).2.1,(D7 m'.c.s uC hs).2.2.1,(D7 m'.c.s uC hs).2.2.2.1⟩
 have uZ:Qi (∀ (W:Wq),Lk Xb w W B lo (some ⟨gS,0,none⟩) aH aF aL cS cH cF cL M f aK cK->aI Pg 200 #[Ae B,Ai f aK cK] W fun e w'=>e=.returned (.tuple #[O J ((j:Int)),.bool true])/\Lk Xb w w' B lo (some ⟨gS,0,none⟩) aH aF aL cS cH cF cL M f aK cK):=fun W h=>by
  have:=Em M f B _ _ _ _ cS cH cF cL aK cK W h.m.box qQ rE
  rw[wC,jc] at this
  exact this.mono (fun e w' h'=>⟨h'.1,h.below h'.2⟩)
 have e5:(f.c.k==5)=true:=by rw[beq_iff_eq];exact BA
 have HZ:Qi (∀ ad,aK=some ad->¬ (Ac B (some ⟨gS,0,none⟩) aH aF aL) ad.block):=hz
 obtain⟨of,df⟩:=frObj f aK cK
 obtain⟨oz,bi⟩:∃ o:Obj,o=Ah:=⟨_,rfl⟩
 have HE:Qi (Lk Xb w ((w.alloc of).alloc oz) B lo (some ⟨gS,0,none⟩) aH aF aL cS cH cF cL M f aK cK):=Lk.first m f aK cK df bi
 obtain⟨q0,q1,q2,q3,q4,-,-,-,-,-,qs⟩:=Aj HE.o.m.box
 obtain⟨f0,f1,f2,f3,f4,f5,f6,f7,f8,f9,ay,au,aj,ak,ff,fs⟩:=A8 HE.o.fb
 unfold Ah at bi
 clear m qQ rE o9 ig jf hM hf r hz jm hs wC jc h1 BA hj ut
 go_enter mW,mV
 go_wp2_with fail
 rw[<- df,<- bi]
 generalize (w.alloc of).alloc oz=W0 at *
 subst df bi
 clear q0 q1 q2 q3 q4 qs
 clear f0 f1 f2 f3 f4 f5 f6 f7 f8 f9 ay au aj ak ff fs
 refine(uZ.o _ (by exact HE.o.below ⟨rfl,rfl,rfl,aC _,fun _ _=>rfl⟩)).mono ?_
 rintro e w1 ⟨rfl,h9⟩
 have gp:Qi (Lk Xb w w1 B lo (some ⟨gS,0,none⟩) aH aF aL cS cH cF cL M f aK cK):=h9
 clear HE h9
 obtain⟨q0,q1,q2,q3,q4,-,-,-,-,-,qs⟩:=Aj gp.o.m.box
 obtain⟨f0,f1,f2,f3,f4,f5,f6,f7,f8,f9,ay,au,aj,ak,ff,fs⟩:=A8 gp.o.fb
 obtain⟨x1,x2,x3⟩:=HX.o w1 gp.o.m
 go_wp2_with fail
 go_region_with (first|(go_at_call 211;refine(HNt.o _ (by exact gp.o.below ⟨rfl,rfl,rfl,aC _,fun _ _=>rfl⟩)).mono ?_;rintro e w2 ⟨rfl,h9⟩;have ai:Qi (Lk Xb w w2 B lo (some ⟨gS,0,none⟩) aH aF aL cS cH cF cL M f aK cK):=h9;clear h9)|(go_at_call 171;refine(Hf f 3 aK cK _).mono ?_;rintro e w3 ⟨rfl,gu⟩;have di:Qi (Lk Xb w w3 B lo (some ⟨gS,0,none⟩) aH aF aL cS cH cF cL M f aK cK):=ai.o.below gu;clear gu;obtain⟨g0,g1,g2,g3,g4,g5,g6,g7,g8,g9,qm,pz,qi,qw,gf,gs⟩:=A8 di.o.zb))
 all_goals
  clear q0 q1 q2 q3 q4 qs
  clear f0 f1 f2 f3 f4 f5 f6 f7 f8 f9 ay au aj ak ff fs
  go_wp2
  refine gZ (v:=.agg #[O J (toF f 3).c.k,O J (toF f 3).c.a,O J (toF f 3).c.b,O J (toF f 3).c.t,O J (toF f 3).c.q,O J (toF f 3).c.h,O J (toF f 3).l,O J (toF f 3).u,O J (toF f 3).p,O J (toF f 3).h,O J (toF f 3).n,Y aK (toF f 3).t.length cK,.bool (toF f 3).d,O J (toF f 3).e]) (by simp[iH,mQ,go_sem,toF,g0,g1,g2,g3,g4,g5,g6,g7,g8,g9,qm,pz,qi,qw]) rfl ⟨⟨aK,cK,rfl,HR.o.fine di.o.two.Dl.2 HZ.o,(fun ad h=>.inl h),fun _=>⟨rfl,rfl⟩⟩,di.o.two.Dl⟩
theorem a2f(m:Mine Xb w B lo aS aH aF aL cS cH cF cL M)(hM:Ok M)(hf:Fit M f)(r:Az w aK cK f.t)(hz:∀ ad,aK=some ad->¬ Ac B aS aH aF aL ad.block)(BA:f.c.k=5)(jc:Fe M f=true)(ut:f.t.length<100) :
  aI Pg 191 #[Ae B,Ai f aK cK] w fun e w'=>a2s w w' e (F6 M f)/\Has Xb w' B lo (Up w (Ac B aS aH aF aL)) (M)/\Fine w w' (Ac B aS aH aF aL):=by
 unfold Ae Ai
 have ig:=hM.ns
 have jf:=hM.nh.2
 have o9:=hf.u.2
 have qQ:f.u<=1000:=by omega
 have rE:M.s.length<=1000:=by omega
 have xW:Qi (Ok M):=hM
 have HR:Qi (Az w aK cK f.t):=r
 have h1:=Fh.1 jc
 obtain⟨j,hj⟩:∃ j:Nat,f.u - 1=j:=⟨(f.u - 1).toNat,by omega⟩
 have uC:j<M.s.length:=by omega
 obtain⟨gS,rfl,oS,lS,kS,-⟩:=C9 m.c.s (by omega)
 obtain⟨s,hs⟩:∃ s,s=Aa M (j:Int):=⟨_,rfl⟩
 have wC:stN f=j:=by unfold stN;rw[ae (by omega)];exact hj
 obtain⟨fk,OG⟩:∃ fk:Fr,fk = { f with t:=f.t ++ [(s.a,s.b)] }:=⟨_,rfl⟩
 have jm:F6 M f=toF fk 3:=by unfold F6;rw[af jc,af BA];unfold Ob;rw[af ut,hj,OG,hs];rfl
 rw[jm]
 have HNt:Qi (∀ W:Wq,Lk Xb w W B lo (some ⟨gS,0,none⟩) aH aF aL cS cH cF cL M f aK cK->aI Pg 211 #[Ai f aK cK,.agg #[O J s.a,O J s.b]] W fun e w'=>∃ a c,e=.returned (.agg #[O J fk.c.k,O J fk.c.a,O J fk.c.b,O J fk.c.t,O J fk.c.q,O J fk.c.h,O J fk.l,O J fk.u,O J fk.p,O J fk.h,O J fk.n,Y a fk.t.length c,.bool fk.d,O J fk.e])/\Ea w' (w.heap.size+2) a c fk.t/\Lk Xb w w' B lo (some ⟨gS,0,none⟩) aH aF aL cS cH cF cL M f aK cK):=fun W h=>by
  have:=a7p f s.a s.b aK cK W (HR.o.below h.bl) ut
  rw[<- OG] at this
  refine this.mono ?_
  rintro e w' ⟨a,c,h1,h2,h3⟩
  refine⟨a,c,h1,?_,h.below h3⟩
  rw[OG]
  exact h2.le (lt_of_block h.zb)
 have HX:Qi (∀ W,Mine Xb W B lo (some ⟨gS,0,none⟩) aH aF aL cS cH cF cL M->W.cell? ⟨gS,j*6+1,none⟩=some (O J s.a)/\W.cell? ⟨gS,j*6+2,none⟩=some (O J s.b)/\W.cell? ⟨gS,j*6+3,none⟩=some (O J s.unt)):=fun W m'=>⟨(D7 m'.c.s uC hs).2.1,(D7 m'.c.s uC hs).2.2.1,(D7 m'.c.s uC hs).2.2.2.1⟩
 have uZ:Qi (∀ (W:Wq),Lk Xb w W B lo (some ⟨gS,0,none⟩) aH aF aL cS cH cF cL M f aK cK->aI Pg 200 #[Ae B,Ai f aK cK] W fun e w'=>e=.returned (.tuple #[O J ((j:Int)),.bool true])/\Lk Xb w w' B lo (some ⟨gS,0,none⟩) aH aF aL cS cH cF cL M f aK cK):=fun W h=>by
  have:=Em M f B _ _ _ _ cS cH cF cL aK cK W h.m.box qQ rE
  rw[wC,jc] at this
  exact this.mono (fun e w' h'=>⟨h'.1,h.below h'.2⟩)
 have e5:(f.c.k==5)=true:=by rw[beq_iff_eq];exact BA
 have HZ:Qi (∀ ad,aK=some ad->¬ (Ac B (some ⟨gS,0,none⟩) aH aF aL) ad.block):=hz
 obtain⟨of,df⟩:=frObj f aK cK
 obtain⟨oz,bi⟩:∃ o:Obj,o=Ah:=⟨_,rfl⟩
 have HE:Qi (Lk Xb w ((w.alloc of).alloc oz) B lo (some ⟨gS,0,none⟩) aH aF aL cS cH cF cL M f aK cK):=Lk.first m f aK cK df bi
 obtain⟨q0,q1,q2,q3,q4,-,-,-,-,-,qs⟩:=Aj HE.o.m.box
 obtain⟨f0,f1,f2,f3,f4,f5,f6,f7,f8,f9,ay,au,aj,ak,ff,fs⟩:=A8 HE.o.fb
 unfold Ah at bi
 clear m qQ rE o9 ig jf hM hf r hz jm hs wC jc h1 BA hj ut OG
 go_enter mW,mV
 go_wp2_with fail
 rw[<- df,<- bi]
 generalize (w.alloc of).alloc oz=W0 at *
 subst df bi
 clear q0 q1 q2 q3 q4 qs
 clear f0 f1 f2 f3 f4 f5 f6 f7 f8 f9 ay au aj ak ff fs
 refine(uZ.o _ (by exact HE.o.below ⟨rfl,rfl,rfl,aC _,fun _ _=>rfl⟩)).mono ?_
 rintro e w1 ⟨rfl,h9⟩
 have gp:Qi (Lk Xb w w1 B lo (some ⟨gS,0,none⟩) aH aF aL cS cH cF cL M f aK cK):=h9
 clear HE h9
 obtain⟨q0,q1,q2,q3,q4,-,-,-,-,-,qs⟩:=Aj gp.o.m.box
 obtain⟨f0,f1,f2,f3,f4,f5,f6,f7,f8,f9,ay,au,aj,ak,ff,fs⟩:=A8 gp.o.fb
 obtain⟨x1,x2,x3⟩:=HX.o w1 gp.o.m
 go_wp2_with fail
 go_region_with (first|(go_at_call 211;refine(HNt.o _ (by exact gp.o.below ⟨rfl,rfl,rfl,aC _,fun _ _=>rfl⟩)).mono ?_;rintro e w2 ⟨a2,c2,rfl,yt,h9⟩;have ai:Qi (Lk Xb w w2 B lo (some ⟨gS,0,none⟩) aH aF aL cS cH cF cL M f aK cK):=h9;have vI:Qi (Ea w2 (w.heap.size+2) a2 c2 fk.t):=yt;clear h9 yt)|(go_at_call 171;refine(Hf fk 3 a2 c2 _).mono ?_;rintro e w3 ⟨rfl,gu⟩;have di:Qi (Lk Xb w w3 B lo (some ⟨gS,0,none⟩) aH aF aL cS cH cF cL M f aK cK):=ai.o.below gu;have SC:Qi (Ea w3 (w.heap.size+2) a2 c2 fk.t):=vI.o.below gu;clear gu;obtain⟨g0,g1,g2,g3,g4,g5,g6,g7,g8,g9,qm,pz,qi,qw,gf,gs⟩:=A8 di.o.zb))
 all_goals
  clear q0 q1 q2 q3 q4 qs
  clear f0 f1 f2 f3 f4 f5 f6 f7 f8 f9 ay au aj ak ff fs
  go_wp2
  refine gZ (v:=.agg #[O J (toF fk 3).c.k,O J (toF fk 3).c.a,O J (toF fk 3).c.b,O J (toF fk 3).c.t,O J (toF fk 3).c.q,O J (toF fk 3).c.h,O J (toF fk 3).l,O J (toF fk 3).u,O J (toF fk 3).p,O J (toF fk 3).h,O J (toF fk 3).n,Y a2 (toF fk 3).t.length c2,.bool (toF fk 3).d,O J (toF fk 3).e]) (by simp[iH,mQ,go_sem,toF,g0,g1,g2,g3,g4,g5,g6,g7,g8,g9,qm,pz,qi,qw]) rfl ⟨⟨a2,c2,rfl,SC.o.Dl⟩,di.o.two.Dl⟩
theorem a4q(hM:Ok M)(hf:Fit M f)(hk:f.c.k=4\/f.c.k=5)(hz:∀ ad,aK=some ad->¬ Ac B aS aH aF aL ad.block) :
  ((F6 M f).t=f.t/\∀ W:Wq,Mine Xb W B lo aS aH aF aL cS cH cF cL M->Az W aK cK f.t->aI Pg 191 #[Ae B,Ai f aK cK] W fun e w'=>Ret W w' e (F6 M f) aK cK/\Has Xb w' B lo (Up W (Ac B aS aH aF aL)) M/\Fine W w' (Ac B aS aH aF aL))\/(∀ W:Wq,Mine Xb W B lo aS aH aF aL cS cH cF cL M->Az W aK cK f.t->aI Pg 191 #[Ae B,Ai f aK cK] W fun e w'=>a2s W w' e (F6 M f)/\Has Xb w' B lo (Up W (Ac B aS aH aF aL)) M/\Fine W w' (Ac B aS aH aF aL)):=by
 unfold Ae Ai
 by_cases jc:Fe M f=true
 ·rcases hk with hk|hk
  ·refine .inl ⟨?_,fun W m r=>a2d M f B lo aS aH aF aL cS cH cF cL aK cK W m hM hf r hz hk jc⟩
   unfold F6
   rw[af jc,ae (by omega)]
   split <;> rfl
  ·by_cases ut:f.t.length<100
   ·exact .inr fun W m r=>a2f M f B lo aS aH aF aL cS cH cF cL aK cK W m hM hf r hz hk jc ut
   ·refine .inl ⟨?_,fun W m r=>a2e M f B lo aS aH aF aL cS cH cF cL aK cK W m hM hf r hz hk jc ut⟩
    unfold F6 Ob
    rw[af jc,af hk,ae ut]
 ·refine .inl ⟨?_,fun W m r=>a8m M f B lo aS aH aF aL cS cH cF cL aK cK W m hM hf r hz hk jc⟩
  unfold F6
  rw[ae jc]
  rfl
end
end Go.Proofs.YthhgoenomehobaaGreat.mm
