/- Parts. -/
import Derived.Test.YthhgoenomehobaaGreatP16
import Derived.Test.YthhgoenomehobaaGreatP17
namespace Go.Proofs.YthhgoenomehobaaGreat.mm
open Tryz
set_option maxRecDepth 100000
set_option linter.unusedVariables false
open Value renaming int → O, slice → Y
open IntKind renaming i64 → J
open Tryz renaming prog → Pg
open Go renaming World → Wq
open ChangeShapes WideShapes ChangeAt RowKit Joins Deep Go.Sort
set_option maxHeartbeats 0
variable (M:Mm)(f:Fr)(B lo:Nat)(aS aH aF aL:Option Addr)(cS cH cF cL:Nat)(aK:Option Addr)(cK:Nat)(w:Wq)
section
variable {Xb:Ex}
theorem a9e(m:Mine Xb w B lo aS aH aF aL cS cH cF cL M)(hM:Ok M)(hf:Fit M f)(r:Az w aK cK f.t)(hz:∀ ad,aK=some ad->¬ Ac B aS aH aF aL ad.block)(hk:f.c.k=2)(hF:M.f.length=0) :
  Calls Pg 172 #[Ae B,Ai f aK cK] w fun e w'=>Ret w w' e (Kv M f) aK cK/\Has Xb w' B lo (Up w (Ac B aS aH aF aL)) (Jl M f)/\Fine w w' (Ac B aS aH aF aL):=by
 unfold Ae Ai
 have ig:=hM.ns
 have jf:=hM.nh.2
 have o9:=hf.u.2
 have qQ:f.u<=1000:=by omega
 have rE:M.s.length<=1000:=by omega
 have xW:Qi (Ok M):=hM
 have HR:Qi (Az w aK cK f.t):=r
 obtain⟨k1,k2,k3⟩:=Vo hk hf.call
 have wH:=hM.w
 have YW:a8s M f=M.w+f.c.t:=by unfold a8s;rw[ae (by omega)]
 have HUn:Qi (∀ W:Wq,Calls Pg 204 #[O J M.w,O J f.c.t] W fun e w'=>e=.returned (O J (M.w+f.c.t))/\W=w'):=fun W=>Zf _ _ W wH.1 wH.2 k2 k3
 have jm:Kv M f=Ak f 7:=by unfold Kv;rw[af hF]
 have jr:Jl M f=M:=by unfold Jl;rw[af hF]
 rw[jm,jr]
 have KD:Qi (∀ W:Wq,Lk Xb w W B lo aS aH aF aL cS cH cF cL M f aK cK->Calls Pg 203 #[Ae B,.agg #[O J f.c.a,O J f.c.b],O J (M.w+f.c.t)] W fun e w'=>e=.returned (.tuple #[O J 0,.bool false])/\Lk2 Xb w w' (Ac B aS aH aF aL) B lo M f aK cK):=fun W h=>(a8o (Z:=Ac B aS aH aF aL) (lo:=lo) (M:=M) ⟨_,_,_,_,_,_,_,_,h.m,fun _ h=>h⟩ hF).mono (fun e w' h'=>⟨h'.1,(h.below h'.2).two⟩)
 have HZ:Qi (∀ ad,aK=some ad->¬ (Ac B aS aH aF aL) ad.block):=hz
 obtain⟨of,df⟩:=frObj f aK cK
 obtain⟨oz,bi⟩:∃ o:Obj,o=Ah:=⟨_,rfl⟩
 have HE:Qi (Lk Xb w ((w.alloc of).alloc oz) B lo aS aH aF aL cS cH cF cL M f aK cK):=Lk.first m f aK cK df bi
 obtain⟨q0,q1,q2,q3,q4,-,-,-,-,-,qs⟩:=Aj HE.o.m.box
 obtain⟨f0,f1,f2,f3,f4,f5,f6,f7,f8,f9,ay,au,aj,ak,ff,fs⟩:=A8 HE.o.fb
 unfold Ah at bi
 clear m qQ rE o9 ig jf hM hf r hz jm jr hF YW wH k1 k2 k3 hk
 go_enter func172,ntmps172
 go_wp2_with fail
 rw[<- df,<- bi]
 generalize (w.alloc of).alloc oz=W0 at *
 subst df bi
 rename_i K0 qO
 apply Ey (R:=fun a=>∀ W2:Wq,Lk2 Xb w W2 (Ac B aS aH aF aL) B lo M f aK cK->K0 a W2)
 ·intro gq
  have pg:Qi _:=gq
  clear gq
  go_region_with (first|(go_at_call 204;refine(HUn.o _).mono ?_;rintro e w3 ⟨rfl,rfl⟩)|(go_at_call 203;refine(KD.o _ (by exact HE.o.below ⟨rfl,rfl,rfl,Nat.le_refl _,fun _ _=>rfl⟩)).mono ?_;rintro e w2 ⟨rfl,h9⟩;have ai:Qi (Lk2 Xb w w2 (Ac B aS aH aF aL) B lo M f aK cK):=h9;clear h9))
  all_goals exact pg.o _ ai.o
 ·intro w2 h2
  refine qO _ _ ?_
  have ai:Qi (Lk2 Xb w w2 (Ac B aS aH aF aL) B lo M f aK cK):=h2
  clear h2 HE qO
  clear q0 q1 q2 q3 q4 qs
  clear f0 f1 f2 f3 f4 f5 f6 f7 f8 f9 ay au aj ak ff fs
  obtain⟨f0,f1,f2,f3,f4,f5,f6,f7,f8,f9,ay,au,aj,ak,ff,fs⟩:=A8 ai.o.fb
  go_wp2_with fail
  refine(a9t f 7 aK cK _ (HR.o.fine ai.o.fine HZ.o)).mono ?_
  rintro e w9 ⟨a9,c9,rfl,hr9,hi9,qM⟩
  have XR:Qi (Az w9 a9 c9 f.t/\∀ ad,a9=some ad->w.heap.size+2<=ad.block):=⟨hr9,fun ad h=>Nat.le_trans (lt_of_block ai.o.zb) (hi9 ad h)⟩
  have qo:Qi (Lk2 Xb w w9 (Ac B aS aH aF aL) B lo M f aK cK):=ai.o.below qM
  clear ai qM hr9 hi9
  clear f0 f1 f2 f3 f4 f5 f6 f7 f8 f9 ay au aj ak ff fs
  obtain⟨g0,g1,g2,g3,g4,g5,g6,g7,g8,g9,qm,pz,qi,qw,gf,gs⟩:=A8 qo.o.zb
  go_wp2
  refine bodyPost_ret (v:=.agg #[O J (Ak f 7).c.k,O J (Ak f 7).c.a,O J (Ak f 7).c.b,O J (Ak f 7).c.t,O J (Ak f 7).c.q,O J (Ak f 7).c.h,O J (Ak f 7).l,O J (Ak f 7).u,O J (Ak f 7).p,O J (Ak f 7).h,O J (Ak f 7).n,Y a9 (Ak f 7).t.length c9,.bool (Ak f 7).d,O J (Ak f 7).e]) (by simp[results,results172,go_sem,Ak,g0,g1,g2,g3,g4,g5,g6,g7,g8,g9,qm,pz,qi,qw]) rfl ⟨⟨a9,c9,rfl,b5x XR.o.1 XR.o.2,(fun ad h=>.inr (by have:=XR.o.2 ad h;omega)),fun h=>by cases h⟩,qo.o.Dl⟩
end
section
variable {Xb:Ex}
theorem a9f(m:Mine Xb w B lo aS aH aF aL cS cH cF cL M)(hM:Ok M)(hf:Fit M f)(r:Az w aK cK f.t)(hz:∀ ad,aK=some ad->¬ Ac B aS aH aF aL ad.block)(hk:f.c.k=2)(hF:¬ M.f.length=0) :
  Calls Pg 172 #[Ae B,Ai f aK cK] w fun e w'=>Ret w w' e (Kv M f) aK cK/\Has Xb w' B lo (Up w (Ac B aS aH aF aL)) (Jl M f)/\Fine w w' (Ac B aS aH aF aL):=by
 unfold Ae Ai
 have ig:=hM.ns
 have jf:=hM.nh.2
 have o9:=hf.u.2
 have qQ:f.u<=1000:=by omega
 have rE:M.s.length<=1000:=by omega
 have xW:Qi (Ok M):=hM
 have HR:Qi (Az w aK cK f.t):=r
 obtain⟨k1,k2,k3⟩:=Vo hk hf.call
 have wH:=hM.w
 have YW:a8s M f=M.w+f.c.t:=by unfold a8s;rw[ae (by omega)]
 have HUn:Qi (∀ W:Wq,Calls Pg 204 #[O J M.w,O J f.c.t] W fun e w'=>e=.returned (O J (M.w+f.c.t))/\W=w'):=fun W=>Zf _ _ W wH.1 wH.2 k2 k3
 have MK:0<M.f.length:=by omega
 have jm:Kv M f=Gq f (Gw M) 1:=by unfold Kv;rw[ae hF]
 have jr:Jl M f=Pj M f.c.a f.c.b (M.w+f.c.t):=by unfold Jl;rw[ae hF,YW]
 rw[jm,jr]
 have KD:Qi (∀ W:Wq,Lk Xb w W B lo aS aH aF aL cS cH cF cL M f aK cK->Calls Pg 203 #[Ae B,.agg #[O J f.c.a,O J f.c.b],O J (M.w+f.c.t)] W fun e w'=>e=.returned (.tuple #[O J (Gw M),.bool true])/\Lk2 Xb w w' (Ac B aS aH aF aL) B lo (Pj M f.c.a f.c.b (M.w+f.c.t)) f aK cK):=fun W h=>(a8n ⟨_,_,_,_,_,_,_,_,h.m,fun _ h=>h⟩ xW.o MK).mono (fun e w' h'=>⟨h'.1,h.after h'.2.1 h'.2.2⟩)
 generalize Pj M f.c.a f.c.b (M.w+f.c.t)=M' at *
 generalize Gw M=la at *
 have HZ:Qi (∀ ad,aK=some ad->¬ (Ac B aS aH aF aL) ad.block):=hz
 obtain⟨of,df⟩:=frObj f aK cK
 obtain⟨oz,bi⟩:∃ o:Obj,o=Ah:=⟨_,rfl⟩
 have HE:Qi (Lk Xb w ((w.alloc of).alloc oz) B lo aS aH aF aL cS cH cF cL M f aK cK):=Lk.first m f aK cK df bi
 obtain⟨q0,q1,q2,q3,q4,-,-,-,-,-,qs⟩:=Aj HE.o.m.box
 obtain⟨f0,f1,f2,f3,f4,f5,f6,f7,f8,f9,ay,au,aj,ak,ff,fs⟩:=A8 HE.o.fb
 unfold Ah at bi
 clear m qQ rE o9 ig jf hM hf r hz jm jr hF MK YW wH k1 k2 k3 hk
 go_enter func172,ntmps172
 go_wp2_with fail
 rw[<- df,<- bi]
 generalize (w.alloc of).alloc oz=W0 at *
 subst df bi
 rename_i K0 qO
 apply Ey (R:=fun a=>∀ W2:Wq,Lk2 Xb w W2 (Ac B aS aH aF aL) B lo M' f aK cK->K0 a W2)
 ·intro gq
  have pg:Qi _:=gq
  clear gq
  go_region_with (first|(go_at_call 204;refine(HUn.o _).mono ?_;rintro e w3 ⟨rfl,rfl⟩)|(go_at_call 203;refine(KD.o _ (by exact HE.o.below ⟨rfl,rfl,rfl,Nat.le_refl _,fun _ _=>rfl⟩)).mono ?_;rintro e w2 ⟨rfl,h9⟩;have ai:Qi (Lk2 Xb w w2 (Ac B aS aH aF aL) B lo M' f aK cK):=h9;clear h9))
  all_goals exact pg.o _ ai.o
 ·intro w2 h2
  refine qO _ _ ?_
  have ai:Qi (Lk2 Xb w w2 (Ac B aS aH aF aL) B lo M' f aK cK):=h2
  clear h2 HE qO
  clear q0 q1 q2 q3 q4 qs
  clear f0 f1 f2 f3 f4 f5 f6 f7 f8 f9 ay au aj ak ff fs
  obtain⟨f0,f1,f2,f3,f4,f5,f6,f7,f8,f9,ay,au,aj,ak,ff,fs⟩:=A8 ai.o.fb
  go_wp2_with fail
  have di:Qi (Lk2 Xb w _ (Ac B aS aH aF aL) B lo M' { f with h:=la } aK cK):=ai.o.store 9 (O J la) { f with h:=la } rfl
  clear ai
  refine(Hf { f with h:=la } 1 aK cK _).mono ?_
  rintro e w9 ⟨rfl,qM⟩
  have qo:Qi (Lk2 Xb w w9 (Ac B aS aH aF aL) B lo M' { f with h:=la } aK cK):=di.o.below qM
  clear di qM
  clear f0 f1 f2 f3 f4 f5 f6 f7 f8 f9 ay au aj ak ff fs
  obtain⟨g0,g1,g2,g3,g4,g5,g6,g7,g8,g9,qm,pz,qi,qw,gf,gs⟩:=A8 qo.o.zb
  go_wp2
  refine bodyPost_ret (v:=.agg #[O J (Gq f la 1).c.k,O J (Gq f la 1).c.a,O J (Gq f la 1).c.b,O J (Gq f la 1).c.t,O J (Gq f la 1).c.q,O J (Gq f la 1).c.h,O J (Gq f la 1).l,O J (Gq f la 1).u,O J (Gq f la 1).p,O J (Gq f la 1).h,O J (Gq f la 1).n,Y aK (Gq f la 1).t.length cK,.bool (Gq f la 1).d,O J (Gq f la 1).e]) (by simp[results,results172,go_sem,Gq,toF,g0,g1,g2,g3,g4,g5,g6,g7,g8,g9,qm,pz,qi,qw]) rfl ⟨⟨aK,cK,rfl,HR.o.fine qo.o.Dl.2 HZ.o,(fun ad h=>.inl h),fun _=>⟨rfl,rfl⟩⟩,qo.o.Dl⟩
end
end Go.Proofs.YthhgoenomehobaaGreat.mm
