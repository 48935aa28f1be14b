/- Parts. -/
import Derived.Test.YthhgoenomehobaaGreatP22
import Derived.Test.YthhgoenomehobaaGreatP17
namespace Go.Proofs.YthhgoenomehobaaGreat.mm
open Nat renaming le_refl → aC
open Tryz
set_option maxRecDepth 100000
set_option linter.unusedVariables false
open Value renaming int → O, slice → Y
open IntKind renaming i64 → J
open Tryz renaming prog → Pg
open Go renaming World → Wq
open ChangeShapes WideShapes ChangeAt RowKit Joins Deep Go.Sort
set_option maxHeartbeats 0
section
variable {Xb:Ex}
theorem Wu{M:Mm}{b:Nat}{p:Int}{j:Nat}(hj:j<M.s.length):j<(Ir M b p (j:Int)).s.length/\(Ir M b p (j:Int)).s.length=M.s.length/\(Aa (Ir M b p (j:Int)) (j:Int)).next=(Aa M (j:Int)).next:=by
 have e:(Ir M b p (j:Int)).s.length=M.s.length:=by unfold Ir;split <;> simp
 refine⟨by omega,e,?_⟩
 unfold Ir
 split
 ·unfold Aa
  dsimp only
  rw[a9v]
  split
  ·rfl
  ·rfl
 ·rfl
theorem b4s(M:Mm)(f:Fr)(B lo:Nat)(aS aH aF aL:Option Addr)(cS cH cF cL:Nat)(aK:Option Addr)(cK:Nat)(w:Wq)
  (m:Mine Xb w B lo aS aH aF aL cS cH cF cL M) (hM:Ok M) (hf:Fit M f) (r:Az w aK cK f.t) (hz:∀ ad,aK=some ad->¬ Ac B aS aH aF aL ad.block) :
  Calls Pg 193 #[Ae B,Ai f aK cK] w fun e w'=>Ret w w' e (Mc M f) aK cK/\Has Xb w' B lo (Up w (Ac B aS aH aF aL)) (H9 M f)/\Fine w w' (Ac B aS aH aF aL):=by
 unfold Ae Ai
 have ig:=hM.ns
 have jf:=hM.nh.2
 have o9:=hf.u.2
 have qQ:f.u<=1000:=by omega
 have rE:M.s.length<=1000:=by omega
 have xW:Qi (Ok M):=hM
 have HR:Qi (Az w aK cK f.t):=r
 obtain⟨b0,b1⟩:=Ia hM hf.call
 obtain⟨b,hb⟩:∃ b:Nat,Fz M.h.length f.c=b:=⟨_,(Int.toNat_of_nonneg b0).symm⟩
 have gy:b<M.h.length:=by omega
 have qJ:bkN M f=b:=by unfold bkN;rw[hb];rfl
 have ve:Qi (∀ W:Wq,Lk Xb w W B lo aS aH aF aL cS cH cF cL M f aK cK->Calls Pg 34 #[Cm aS aH aF aL cS cH cF cL M,Gj f.c] W fun e w'=>e=.returned (O J (b:Int))/\Lk Xb w w' B lo aS aH aF aL cS cH cF cL M f aK cK):=fun W h=>(hb ▸ G8 _ _ _ _ _ _ _ _ cS cH cF cL M.w f.c W (by omega):Calls Pg 34 _ W fun e w'=>e=.returned (O J (b:Int))/\Below W.heap.size W w').mono (fun e w' h'=>⟨h'.1,h.below h'.2⟩)
 by_cases jc:Fe M f=true
 ·have h1:=Fh.1 jc
  obtain⟨j,hj⟩:∃ j:Nat,f.u=(j:Int)+1:=⟨(f.u - 1).toNat,by omega⟩
  have uC:j<M.s.length:=by omega
  have CJ:f.u - 1=(j:Int):=by omega
  obtain⟨nx,wS⟩:∃ nx,nx=(Aa M (j:Int)).next:=⟨_,rfl⟩
  have jm:Mc M f=toF { f with h:=(j:Int),u:=nx } 5:=by unfold Mc;rw[af jc,CJ,wS];rfl
  have jr:H9 M f=Ir M b f.p (j:Int):=by unfold H9;rw[af jc,CJ,qJ]
  rw[jm,jr]
  have wP:Qi (∀ W:Wq,Lk Xb w W B lo aS aH aF aL cS cH cF cL M f aK cK->Calls Pg 210 #[Ae B,O J (b:Int),Ai f aK cK] W fun e w'=>e=.returned (.tuple #[O J (j:Int),.bool true])/\Lk2 Xb w w' (Ac B aS aH aF aL) B lo (Ir M b f.p (j:Int)) f aK cK):=fun W h=>(Wv M f b B lo aS aH aF aL cS cH cF cL aK cK W h.m xW.o hf gy j hj uC).mono (fun e w' h'=>⟨h'.1,h.after h'.2.1 h'.2.2⟩)
  have DN:Qi (j<(Ir M b f.p (j:Int)).s.length/\(Ir M b f.p (j:Int)).s.length<=12/\(Aa (Ir M b f.p (j:Int)) (j:Int)).next=nx):=⟨(Wu uC).1,by rw[(Wu uC).2.1];exact ig,by rw[(Wu uC).2.2];exact wS.symm⟩
  generalize Ir M b f.p (j:Int)=M' at *
  have HZ:Qi (∀ ad,aK=some ad->¬ (Ac B aS aH aF aL) ad.block):=hz
  obtain⟨of,df⟩:=frObj f aK cK
  obtain⟨oz,bi⟩:∃ o:Obj,o=Ah:=⟨_,rfl⟩
  have HE:Qi (Lk Xb w ((w.alloc of).alloc oz) B lo aS aH aF aL cS cH cF cL M f aK cK):=Lk.first m f aK cK df bi
  obtain⟨q0,q1,q2,q3,q4,-,-,-,-,-,qs⟩:=Aj HE.o.m.box
  obtain⟨f0,f1,f2,f3,f4,f5,f6,f7,f8,f9,ay,au,aj,ak,ff,fs⟩:=A8 HE.o.fb
  unfold Ah at bi
  clear m qQ rE o9 ig jf hM hf r hz jm jr jc h1 hj CJ qJ hb b0 b1 wS
  go_enter func193,ntmps193
  go_wp2_with fail
  rw[<- df,<- bi]
  generalize (w.alloc of).alloc oz=W0 at *
  subst df bi
  rename_i K0 qO
  apply Ey (R:=fun a=>∀ W2:Wq,Lk2 Xb w W2 (Ac B aS aH aF aL) B lo M' f aK cK->K0 a W2)
  ·intro gq
   have pg:Qi _:=gq
   clear gq
   go_region_with (first|(go_at_call 34;refine(ve.o _ (by exact HE.o.below ⟨rfl,rfl,rfl,aC _,fun _ _=>rfl⟩)).mono ?_;rintro e w1 ⟨rfl,h9⟩;have gp:Qi (Lk Xb w w1 B lo aS aH aF aL cS cH cF cL M f aK cK):=h9;clear h9;obtain⟨f0,f1,f2,f3,f4,f5,f6,f7,f8,f9,ay,au,aj,ak,ff,fs⟩:=A8 gp.o.fb;obtain⟨q0,q1,q2,q3,q4,-,-,-,-,-,qs⟩:=Aj gp.o.m.box)|(go_at_call 210;refine(wP.o _ (by exact gp.o.below ⟨rfl,rfl,rfl,aC _,fun _ _=>rfl⟩)).mono ?_;rintro e w2 ⟨rfl,h9⟩;have ai:Qi (Lk2 Xb w w2 (Ac B aS aH aF aL) B lo M' f aK cK):=h9;clear h9))
   all_goals exact pg.o _ ai.o
  ·intro w2 h2
   refine qO _ _ ?_
   have ai:Qi (Lk2 Xb w w2 (Ac B aS aH aF aL) B lo M' f aK cK):=h2
   clear h2 HE qO
   clear q0 q1 q2 q3 q4 qs
   clear f0 f1 f2 f3 f4 f5 f6 f7 f8 f9 ay au aj ak ff fs
   obtain⟨f0,f1,f2,f3,f4,f5,f6,f7,f8,f9,ay,au,aj,ak,ff,fs⟩:=A8 ai.o.fb
   obtain⟨bS,bH,bF,bL,dS,dH,dF,dL,m2,pq⟩:=ai.o.mine
   obtain⟨hj2,hn2,FU⟩:=DN.o
   obtain⟨gS,rfl,oS,lS,kS,-⟩:=C9 m2.c.s (by omega)
   obtain⟨q0,q1,q2,q3,q4,-,-,-,-,-,qs⟩:=Aj m2.box
   have x5:w2.cell? ⟨gS,j*6+5,none⟩=some (O J nx):=FU ▸ (D7 m2.c.s hj2 rfl).2.2.2.2.2.1
   have yK:B≠w.heap.size:=fun e=>by
    rcases pq B (.inl rfl) with h|h
    ·have:=ai.o.zl _ h;omega
    ·omega
   have yI:gS≠w.heap.size:=fun e=>by
    rcases pq gS (.inr (.inl ⟨_,rfl,rfl⟩)) with h|h
    ·have:=ai.o.zl _ h;omega
    ·omega
   have zq:w.heap.size≠B:=fun e=>yK e.symm
   have zh:w.heap.size≠gS:=fun e=>yI e.symm
   clear m2 pq FU oS lS kS
   go_wp2_with fail
   rename_i K1 JM
   apply Ey (R:=fun a=>∀ W2:Wq,Lk2 Xb w W2 (Ac B aS aH aF aL) B lo M' { f with h:=(j:Int),u:=nx } aK cK->K1 a W2)
   ·intro gq
    have pg:Qi _:=gq
    clear gq
    go_region
    all_goals exact pg.o _ (((ai.o.store 9 (O J (j:Int)) { f with h:=(j:Int) } rfl).store 7 (O J nx) { f with h:=(j:Int),u:=nx } rfl).below ⟨rfl,rfl,rfl,aC _,fun _ _=>rfl⟩)
   ·intro w3 h3
    have di:Qi (Lk2 Xb w w3 (Ac B aS aH aF aL) B lo M' { f with h:=(j:Int),u:=nx } aK cK):=h3
    refine JM _ _ ?_
    clear h3 JM ai x5 yK yI zq zh hj2 hn2 q0 q1 q2 q3 q4 qs
    clear f0 f1 f2 f3 f4 f5 f6 f7 f8 f9 ay au aj ak ff fs
    obtain⟨f0,f1,f2,f3,f4,f5,f6,f7,f8,f9,ay,au,aj,ak,ff,fs⟩:=A8 di.o.fb
    go_wp2_with fail
    refine(Hf { f with h:=(j:Int),u:=nx } 5 aK cK _).mono ?_
    rintro e w9 ⟨rfl,qM⟩
    have qo:Qi (Lk2 Xb w w9 (Ac B aS aH aF aL) B lo M' { f with h:=(j:Int),u:=nx } aK cK):=di.o.below qM
    clear di qM
    clear f0 f1 f2 f3 f4 f5 f6 f7 f8 f9 ay au aj ak ff fs
    obtain⟨g0,g1,g2,g3,g4,g5,g6,g7,g8,g9,qm,pz,qi,qw,gf,gs⟩:=A8 qo.o.zb
    go_wp2
    refine bodyPost_ret (v:=.agg #[O J (toF { f with h:=(j:Int),u:=nx } 5).c.k,O J (toF { f with h:=(j:Int),u:=nx } 5).c.a,O J (toF { f with h:=(j:Int),u:=nx } 5).c.b,O J (toF { f with h:=(j:Int),u:=nx } 5).c.t,O J (toF { f with h:=(j:Int),u:=nx } 5).c.q,O J (toF { f with h:=(j:Int),u:=nx } 5).c.h,O J (toF { f with h:=(j:Int),u:=nx } 5).l,O J (toF { f with h:=(j:Int),u:=nx } 5).u,O J (toF { f with h:=(j:Int),u:=nx } 5).p,O J (toF { f with h:=(j:Int),u:=nx } 5).h,O J (toF { f with h:=(j:Int),u:=nx } 5).n,Y aK (toF { f with h:=(j:Int),u:=nx } 5).t.length cK,.bool (toF { f with h:=(j:Int),u:=nx } 5).d,O J (toF { f with h:=(j:Int),u:=nx } 5).e]) (by simp[results,results193,go_sem,toF,g0,g1,g2,g3,g4,g5,g6,g7,g8,g9,qm,pz,qi,qw]) rfl ⟨⟨aK,cK,rfl,HR.o.fine qo.o.Dl.2 HZ.o,(fun ad h=>.inl h),fun _=>⟨rfl,rfl⟩⟩,qo.o.Dl⟩
 ·have vX:Fe M f=false:=by simpa using jc
  have jm:Mc M f=toF f 6:=by unfold Mc;rw[ae jc]
  have jr:H9 M f=M:=by unfold H9;rw[ae jc]
  rw[jm,jr]
  have wP:Qi (∀ W:Wq,Lk Xb w W B lo aS aH aF aL cS cH cF cL M f aK cK->Calls Pg 210 #[Ae B,O J (b:Int),Ai f aK cK] W fun e w'=>e=.returned (.tuple #[O J 0,.bool false])/\Lk2 Xb w w' (Ac B aS aH aF aL) B lo M f aK cK):=fun W h=>(Yk M f b B lo aS aH aF aL cS cH cF cL aK cK W h.m xW.o hf gy vX).mono (fun e w' h'=>⟨h'.1,(h.below h'.2).two⟩)
  have HZ:Qi (∀ ad,aK=some ad->¬ (Ac B aS aH aF aL) ad.block):=hz
  obtain⟨of,df⟩:=frObj f aK cK
  obtain⟨oz,bi⟩:∃ o:Obj,o=Ah:=⟨_,rfl⟩
  have HE:Qi (Lk Xb w ((w.alloc of).alloc oz) B lo aS aH aF aL cS cH cF cL M f aK cK):=Lk.first m f aK cK df bi
  obtain⟨q0,q1,q2,q3,q4,-,-,-,-,-,qs⟩:=Aj HE.o.m.box
  obtain⟨f0,f1,f2,f3,f4,f5,f6,f7,f8,f9,ay,au,aj,ak,ff,fs⟩:=A8 HE.o.fb
  unfold Ah at bi
  clear m qQ rE o9 ig jf hM hf r hz jm jr jc vX qJ hb b0 b1
  go_enter func193,ntmps193
  go_wp2_with fail
  rw[<- df,<- bi]
  generalize (w.alloc of).alloc oz=W0 at *
  subst df bi
  rename_i K0 qO
  apply Ey (R:=fun a=>∀ W2:Wq,Lk2 Xb w W2 (Ac B aS aH aF aL) B lo M f aK cK->K0 a W2)
  ·intro gq
   have pg:Qi _:=gq
   clear gq
   go_region_with (first|(go_at_call 34;refine(ve.o _ (by exact HE.o.below ⟨rfl,rfl,rfl,aC _,fun _ _=>rfl⟩)).mono ?_;rintro e w1 ⟨rfl,h9⟩;have gp:Qi (Lk Xb w w1 B lo aS aH aF aL cS cH cF cL M f aK cK):=h9;clear h9;obtain⟨f0,f1,f2,f3,f4,f5,f6,f7,f8,f9,ay,au,aj,ak,ff,fs⟩:=A8 gp.o.fb;obtain⟨q0,q1,q2,q3,q4,-,-,-,-,-,qs⟩:=Aj gp.o.m.box)|(go_at_call 210;refine(wP.o _ (by exact gp.o.below ⟨rfl,rfl,rfl,aC _,fun _ _=>rfl⟩)).mono ?_;rintro e w2 ⟨rfl,h9⟩;have ai:Qi (Lk2 Xb w w2 (Ac B aS aH aF aL) B lo M f aK cK):=h9;clear h9))
   all_goals exact pg.o _ ai.o
  ·intro w2 h2
   refine qO _ _ ?_
   have ai:Qi (Lk2 Xb w w2 (Ac B aS aH aF aL) B lo M f aK cK):=h2
   clear h2 HE qO
   clear q0 q1 q2 q3 q4 qs
   clear f0 f1 f2 f3 f4 f5 f6 f7 f8 f9 ay au aj ak ff fs
   obtain⟨f0,f1,f2,f3,f4,f5,f6,f7,f8,f9,ay,au,aj,ak,ff,fs⟩:=A8 ai.o.fb
   go_wp2_with fail
   refine(Rx f aK cK _).mono ?_
   rintro e w9 ⟨rfl,qM⟩
   have qo:Qi (Lk2 Xb w w9 (Ac B aS aH aF aL) B lo M f aK cK):=ai.o.below qM
   clear ai qM
   clear f0 f1 f2 f3 f4 f5 f6 f7 f8 f9 ay au aj ak ff fs
   obtain⟨g0,g1,g2,g3,g4,g5,g6,g7,g8,g9,qm,pz,qi,qw,gf,gs⟩:=A8 qo.o.zb
   go_wp2
   refine bodyPost_ret (v:=.agg #[O J (toF f 6).c.k,O J (toF f 6).c.a,O J (toF f 6).c.b,O J (toF f 6).c.t,O J (toF f 6).c.q,O J (toF f 6).c.h,O J (toF f 6).l,O J (toF f 6).u,O J (toF f 6).p,O J (toF f 6).h,O J (toF f 6).n,Y aK (toF f 6).t.length cK,.bool (toF f 6).d,O J (toF f 6).e]) (by simp[results,results193,go_sem,toF,g0,g1,g2,g3,g4,g5,g6,g7,g8,g9,qm,pz,qi,qw]) rfl ⟨⟨aK,cK,rfl,HR.o.fine qo.o.Dl.2 HZ.o,(fun ad h=>.inl h),fun _=>⟨rfl,rfl⟩⟩,qo.o.Dl⟩
end
end Go.Proofs.YthhgoenomehobaaGreat.mm
