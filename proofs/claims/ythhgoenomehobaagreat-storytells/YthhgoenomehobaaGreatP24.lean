/- Parts. -/
import Derived.Test.YthhgoenomehobaaGreatP22
import Derived.Test.YthhgoenomehobaaGreatP17
namespace Go.Proofs.YthhgoenomehobaaGreat.mm
open Nat renaming le_refl → aC
open Tryz
set_option maxRecDepth 100000
set_option linter.unusedVariables false
open Value renaming int → O, slice → Y
open IntKind renaming i64 → J
open Tryz renaming prog → Pg
open Go renaming World → Wq
open ChangeShapes WideShapes ChangeAt RowKit Joins Deep Go.Sort
set_option maxHeartbeats 0
section
variable {Xb:Ex}
theorem b5p(M:Mm)(f:Fr)(B lo:Nat)(aS aH aF aL:Option Addr)(cS cH cF cL:Nat)(aK:Option Addr)(cK:Nat)(w:Wq)
  (m:Mine Xb w B lo aS aH aF aL cS cH cF cL M) (hM:Ok M) (hf:Fit M f) (r:Az w aK cK f.t) (hz:∀ ad,aK=some ad->¬ Ac B aS aH aF aL ad.block) :
  Calls Pg 185 #[Ae B,Ai f aK cK] w fun e w'=>Ret w w' e (Qj M f) aK cK/\Has Xb w' B lo (Up w (Ac B aS aH aF aL)) (H9 M f)/\Fine w w' (Ac B aS aH aF aL):=by
 unfold Ae Ai
 have ig:=hM.ns
 have jf:=hM.nh.2
 have o9:=hf.u.2
 have qQ:f.u<=1000:=by omega
 have rE:M.s.length<=1000:=by omega
 have xW:Qi (Ok M):=hM
 have HR:Qi (Az w aK cK f.t):=r
 obtain⟨b0,b1⟩:=Ia hM hf.call
 obtain⟨b,hb⟩:∃ b:Nat,Fz M.h.length f.c=b:=⟨_,(Int.toNat_of_nonneg b0).symm⟩
 have gy:b<M.h.length:=by omega
 have qJ:bkN M f=b:=by unfold bkN;rw[hb];rfl
 have ve:Qi (∀ W:Wq,Lk Xb w W B lo aS aH aF aL cS cH cF cL M f aK cK->Calls Pg 34 #[Cm aS aH aF aL cS cH cF cL M,Gj f.c] W fun e w'=>e=.returned (O J (b:Int))/\Lk Xb w w' B lo aS aH aF aL cS cH cF cL M f aK cK):=fun W h=>(hb ▸ G8 _ _ _ _ _ _ _ _ cS cH cF cL M.w f.c W (by omega):Calls Pg 34 _ W fun e w'=>e=.returned (O J (b:Int))/\Below W.heap.size W w').mono (fun e w' h'=>⟨h'.1,h.below h'.2⟩)
 by_cases jc:Fe M f=true
 ·have h1:=Fh.1 jc
  obtain⟨j,hj⟩:∃ j:Nat,f.u=(j:Int)+1:=⟨(f.u - 1).toNat,by omega⟩
  have uC:j<M.s.length:=by omega
  have CJ:f.u - 1=(j:Int):=by omega
  have jm:Qj M f = { f with h:=(j:Int),e:=0,l:=5 }:=by unfold Qj;rw[af jc,CJ]
  have jr:H9 M f=Ir M b f.p (j:Int):=by unfold H9;rw[af jc,CJ,qJ]
  rw[jm,jr]
  have wP:Qi (∀ W:Wq,Lk Xb w W B lo aS aH aF aL cS cH cF cL M f aK cK->Calls Pg 210 #[Ae B,O J (b:Int),Ai f aK cK] W fun e w'=>e=.returned (.tuple #[O J (j:Int),.bool true])/\Lk2 Xb w w' (Ac B aS aH aF aL) B lo (Ir M b f.p (j:Int)) f aK cK):=fun W h=>(Wv M f b B lo aS aH aF aL cS cH cF cL aK cK W h.m xW.o hf gy j hj uC).mono (fun e w' h'=>⟨h'.1,h.after h'.2.1 h'.2.2⟩)
  generalize Ir M b f.p (j:Int)=M' at *
  have HZ:Qi (∀ ad,aK=some ad->¬ (Ac B aS aH aF aL) ad.block):=hz
  obtain⟨of,df⟩:=frObj f aK cK
  obtain⟨oz,bi⟩:∃ o:Obj,o=Ah:=⟨_,rfl⟩
  have HE:Qi (Lk Xb w ((w.alloc of).alloc oz) B lo aS aH aF aL cS cH cF cL M f aK cK):=Lk.first m f aK cK df bi
  obtain⟨q0,q1,q2,q3,q4,-,-,-,-,-,qs⟩:=Aj HE.o.m.box
  obtain⟨f0,f1,f2,f3,f4,f5,f6,f7,f8,f9,ay,au,aj,ak,ff,fs⟩:=A8 HE.o.fb
  unfold Ah at bi
  clear m qQ rE o9 ig jf hM hf r hz jm jr jc h1 hj CJ qJ hb b0 b1
  go_enter func185,ntmps185
  go_wp2_with fail
  rw[<- df,<- bi]
  generalize (w.alloc of).alloc oz=W0 at *
  subst df bi
  rename_i K0 qO
  apply Ey (R:=fun a=>∀ W2:Wq,Lk2 Xb w W2 (Ac B aS aH aF aL) B lo M' f aK cK->K0 a W2)
  ·intro gq
   have pg:Qi _:=gq
   clear gq
   go_region_with (first|(go_at_call 34;refine(ve.o _ (by exact HE.o.below ⟨rfl,rfl,rfl,aC _,fun _ _=>rfl⟩)).mono ?_;rintro e w1 ⟨rfl,h9⟩;have gp:Qi (Lk Xb w w1 B lo aS aH aF aL cS cH cF cL M f aK cK):=h9;clear h9;obtain⟨f0,f1,f2,f3,f4,f5,f6,f7,f8,f9,ay,au,aj,ak,ff,fs⟩:=A8 gp.o.fb;obtain⟨q0,q1,q2,q3,q4,-,-,-,-,-,qs⟩:=Aj gp.o.m.box)|(go_at_call 210;refine(wP.o _ (by exact gp.o.below ⟨rfl,rfl,rfl,aC _,fun _ _=>rfl⟩)).mono ?_;rintro e w2 ⟨rfl,h9⟩;have ai:Qi (Lk2 Xb w w2 (Ac B aS aH aF aL) B lo M' f aK cK):=h9;clear h9))
   all_goals exact pg.o _ ai.o
  ·intro w2 h2
   refine qO _ _ ?_
   have ai:Qi (Lk2 Xb w w2 (Ac B aS aH aF aL) B lo M' f aK cK):=h2
   clear h2 HE qO
   clear q0 q1 q2 q3 q4 qs
   clear f0 f1 f2 f3 f4 f5 f6 f7 f8 f9 ay au aj ak ff fs
   obtain⟨f0,f1,f2,f3,f4,f5,f6,f7,f8,f9,ay,au,aj,ak,ff,fs⟩:=A8 ai.o.fb
   go_wp2_with fail
   have di:Qi (Lk2 Xb w _ (Ac B aS aH aF aL) B lo M' { f with h:=(j:Int),e:=0 } aK cK):=(ai.o.store 9 (O J (j:Int)) { f with h:=(j:Int) } rfl).store 13 (O J 0) { f with h:=(j:Int),e:=0 } rfl
   clear ai
   refine(Hf { f with h:=(j:Int),e:=0 } 5 aK cK _).mono ?_
   rintro e w9 ⟨rfl,qM⟩
   have qo:Qi (Lk2 Xb w w9 (Ac B aS aH aF aL) B lo M' { f with h:=(j:Int),e:=0 } aK cK):=di.o.below qM
   clear di qM
   clear f0 f1 f2 f3 f4 f5 f6 f7 f8 f9 ay au aj ak ff fs
   obtain⟨g0,g1,g2,g3,g4,g5,g6,g7,g8,g9,qm,pz,qi,qw,gf,gs⟩:=A8 qo.o.zb
   go_wp2
   refine bodyPost_ret (v:=.agg #[O J ({ f with h:=(j:Int),e:=0,l:=5 }).c.k,O J ({ f with h:=(j:Int),e:=0,l:=5 }).c.a,O J ({ f with h:=(j:Int),e:=0,l:=5 }).c.b,O J ({ f with h:=(j:Int),e:=0,l:=5 }).c.t,O J ({ f with h:=(j:Int),e:=0,l:=5 }).c.q,O J ({ f with h:=(j:Int),e:=0,l:=5 }).c.h,O J ({ f with h:=(j:Int),e:=0,l:=5 }).l,O J ({ f with h:=(j:Int),e:=0,l:=5 }).u,O J ({ f with h:=(j:Int),e:=0,l:=5 }).p,O J ({ f with h:=(j:Int),e:=0,l:=5 }).h,O J ({ f with h:=(j:Int),e:=0,l:=5 }).n,Y aK ({ f with h:=(j:Int),e:=0,l:=5 }).t.length cK,.bool ({ f with h:=(j:Int),e:=0,l:=5 }).d,O J ({ f with h:=(j:Int),e:=0,l:=5 }).e]) (by simp[results,results185,go_sem,toF,g0,g1,g2,g3,g4,g5,g6,g7,g8,g9,qm,pz,qi,qw]) rfl ⟨⟨aK,cK,rfl,HR.o.fine qo.o.Dl.2 HZ.o,(fun ad h=>.inl h),fun _=>⟨rfl,rfl⟩⟩,qo.o.Dl⟩
 ·have vX:Fe M f=false:=by simpa using jc
  have jm:Qj M f=Ec f 8 5:=by unfold Qj;rw[ae jc]
  have jr:H9 M f=M:=by unfold H9;rw[ae jc]
  rw[jm,jr]
  have wP:Qi (∀ W:Wq,Lk Xb w W B lo aS aH aF aL cS cH cF cL M f aK cK->Calls Pg 210 #[Ae B,O J (b:Int),Ai f aK cK] W fun e w'=>e=.returned (.tuple #[O J 0,.bool false])/\Lk2 Xb w w' (Ac B aS aH aF aL) B lo M f aK cK):=fun W h=>(Yk M f b B lo aS aH aF aL cS cH cF cL aK cK W h.m xW.o hf gy vX).mono (fun e w' h'=>⟨h'.1,(h.below h'.2).two⟩)
  have HZ:Qi (∀ ad,aK=some ad->¬ (Ac B aS aH aF aL) ad.block):=hz
  obtain⟨of,df⟩:=frObj f aK cK
  obtain⟨oz,bi⟩:∃ o:Obj,o=Ah:=⟨_,rfl⟩
  have HE:Qi (Lk Xb w ((w.alloc of).alloc oz) B lo aS aH aF aL cS cH cF cL M f aK cK):=Lk.first m f aK cK df bi
  obtain⟨q0,q1,q2,q3,q4,-,-,-,-,-,qs⟩:=Aj HE.o.m.box
  obtain⟨f0,f1,f2,f3,f4,f5,f6,f7,f8,f9,ay,au,aj,ak,ff,fs⟩:=A8 HE.o.fb
  unfold Ah at bi
  clear m qQ rE o9 ig jf hM hf r hz jm jr jc vX qJ hb b0 b1
  go_enter func185,ntmps185
  go_wp2_with fail
  rw[<- df,<- bi]
  generalize (w.alloc of).alloc oz=W0 at *
  subst df bi
  rename_i K0 qO
  apply Ey (R:=fun a=>∀ W2:Wq,Lk2 Xb w W2 (Ac B aS aH aF aL) B lo M f aK cK->K0 a W2)
  ·intro gq
   have pg:Qi _:=gq
   clear gq
   go_region_with (first|(go_at_call 34;refine(ve.o _ (by exact HE.o.below ⟨rfl,rfl,rfl,aC _,fun _ _=>rfl⟩)).mono ?_;rintro e w1 ⟨rfl,h9⟩;have gp:Qi (Lk Xb w w1 B lo aS aH aF aL cS cH cF cL M f aK cK):=h9;clear h9;obtain⟨f0,f1,f2,f3,f4,f5,f6,f7,f8,f9,ay,au,aj,ak,ff,fs⟩:=A8 gp.o.fb;obtain⟨q0,q1,q2,q3,q4,-,-,-,-,-,qs⟩:=Aj gp.o.m.box)|(go_at_call 210;refine(wP.o _ (by exact gp.o.below ⟨rfl,rfl,rfl,aC _,fun _ _=>rfl⟩)).mono ?_;rintro e w2 ⟨rfl,h9⟩;have ai:Qi (Lk2 Xb w w2 (Ac B aS aH aF aL) B lo M f aK cK):=h9;clear h9))
   all_goals exact pg.o _ ai.o
  ·intro w2 h2
   refine qO _ _ ?_
   have ai:Qi (Lk2 Xb w w2 (Ac B aS aH aF aL) B lo M f aK cK):=h2
   clear h2 HE qO
   clear q0 q1 q2 q3 q4 qs
   clear f0 f1 f2 f3 f4 f5 f6 f7 f8 f9 ay au aj ak ff fs
   obtain⟨f0,f1,f2,f3,f4,f5,f6,f7,f8,f9,ay,au,aj,ak,ff,fs⟩:=A8 ai.o.fb
   go_wp2_with fail
   refine(Qu f aK cK _).mono ?_
   rintro e w9 ⟨rfl,qM⟩
   have qo:Qi (Lk2 Xb w w9 (Ac B aS aH aF aL) B lo M f aK cK):=ai.o.below qM
   clear ai qM
   clear f0 f1 f2 f3 f4 f5 f6 f7 f8 f9 ay au aj ak ff fs
   obtain⟨g0,g1,g2,g3,g4,g5,g6,g7,g8,g9,qm,pz,qi,qw,gf,gs⟩:=A8 qo.o.zb
   go_wp2
   refine bodyPost_ret (v:=.agg #[O J (Ec f 8 5).c.k,O J (Ec f 8 5).c.a,O J (Ec f 8 5).c.b,O J (Ec f 8 5).c.t,O J (Ec f 8 5).c.q,O J (Ec f 8 5).c.h,O J (Ec f 8 5).l,O J (Ec f 8 5).u,O J (Ec f 8 5).p,O J (Ec f 8 5).h,O J (Ec f 8 5).n,Y aK (Ec f 8 5).t.length cK,.bool (Ec f 8 5).d,O J (Ec f 8 5).e]) (by simp[results,results185,go_sem,Ec,g0,g1,g2,g3,g4,g5,g6,g7,g8,g9,qm,pz,qi,qw]) rfl ⟨⟨aK,cK,rfl,HR.o.fine qo.o.Dl.2 HZ.o,(fun ad h=>.inl h),fun _=>⟨rfl,rfl⟩⟩,qo.o.Dl⟩
end
end Go.Proofs.YthhgoenomehobaaGreat.mm
