/- Parts. -/
import Derived.Test.YthhgoenomehobaaGreatP25
import Derived.Test.YthhgoenomehobaaGreatP21
namespace Go.Proofs.YthhgoenomehobaaGreat.mm
open RowKit renaming wrap64 → dE
open IntKind renaming wrap_i64 → nI, i64 → J
open Tryz renaming underlying47 → mO, results70 → nN, results71 → nO, prog → Pg
open Nat renaming le_refl → aC
open Go renaming cell_regrown → fO, results_cell_row → lV, bodyPost_ret → gZ, wp_region_quiet_below → iD, undef → Uz, World → Wq
open Tryz
set_option maxRecDepth 100000
set_option linter.unusedVariables false
open Value renaming int → O, slice → Y
open ChangeShapes WideShapes ChangeAt RowKit Joins Deep Go.Sort
set_option maxHeartbeats 0
variable (t:Int)
section
variable {Xb:Ex}
def X7(t:Int)(B H b:Nat)(v1 v12 v13 zK xY v16 v17:Value):Act:=⟨#[.pointer (some ⟨B,0,none⟩),v1,O J t,Uz,.pointer (some ⟨H,0,none⟩),Uz,.pointer (some ⟨H+1,0,none⟩),O J (b:Int),Uz,Uz,Uz,Uz,v12,v13,zK,xY,v16,v17,Uz,Uz,Uz,Uz,Uz,Uz,Uz,Uz,Uz,Uz,Uz,Uz,Uz,Uz,Uz,Uz,Uz,Uz,Uz,Uz,Uz,Uz,Uz,Uz,Uz,Uz,Uz,Uz,Uz,Uz,Uz,Uz,Uz,Uz,Uz,Uz,Uz,Uz,Uz,Uz,Uz,Uz,Uz,Uz,Uz,Uz,Uz,Uz,Uz,Uz,Uz,Uz,Uz,Uz,Uz,Uz,Uz,Uz,Uz,Uz,Uz,Uz,Uz,Uz,Uz,Uz,Uz,Uz,Uz,Uz,Uz,Uz,Uz,Uz,Uz,Uz,Uz,Uz,Uz,Uz,Uz,Uz,Uz,Uz,Uz,Uz,Uz,Uz,Uz,Uz,Uz,Uz,Uz,Uz,Uz,Uz,Uz,Uz,Uz,Uz,Uz,Uz,Uz,Uz,Uz,Uz,Uz,Uz,Uz,Uz,Uz,Uz,Uz,Uz,Uz,Uz,Uz,Uz,Uz,Uz,Uz,Uz,Uz,Uz,Uz,Uz,Uz,Uz,Uz,Uz,Uz,Uz,Uz,Uz,Uz,Uz,Uz,Uz,Uz,Uz,Uz,Uz,Uz,Uz,Uz,Uz,Uz,Uz,Uz,Uz,Uz,Uz,Uz,Uz,Uz,Uz,Uz,Uz,Uz,Uz,Uz,Uz],[]⟩
def W70(t:Int)(w w1:Wq)(B b:Nat)(R:Ending->Wq->Prop):Prop :=
 ∀ C,C=a0u (a0u (Tryz.f70.body.getD .skip))->∀ v1 v12 v13 zK xY v16 v17,Code.wp Pg C (bodyPost Pg Tryz.f70 R) (X7 t B w.heap.size b v1 v12 v13 zK xY v16 v17) w1
theorem b1h(M:Mm)(f:Fr)(B lo:Nat)(aS aH aF aL:Option Addr)(cS cH cF cL:Nat)(aK:Option Addr)(cK:Nat)(w:Wq)(m:Mine Xb w B lo aS aH aF aL cS cH cF cL M)(hM:Ok M)(hf:Fit M f)(r:Az w aK cK f.t)(hz:∀ ad,aK=some ad->¬ Ac B aS aH aF aL ad.block){R:Ending->Wq->Prop}(HR:Qi (∀ (w1:Wq) (b:Nat),LH Xb w w1 B lo aS aH aF aL cS cH cF cL M f aK cK b->W70 t w w1 B b R)) :
  Calls Pg 70 #[Ae B,Ai f aK cK,O J t] w R:=by
 unfold Ae Ai
 have ig:=hM.ns
 have jf:=hM.nh
 obtain⟨b0,b1⟩:0<=Fz M.h.length f.c/\Fz M.h.length f.c<M.h.length:=Ia hM hf.call
 obtain⟨b,hb⟩:∃ b:Nat,Fz M.h.length f.c=b:=⟨_,(Int.toNat_of_nonneg b0).symm⟩
 have gy:b<M.h.length:=by omega
 have ve:Qi (∀ W:Wq,Calls Pg 113 #[Cm aS aH aF aL cS cH cF cL M,Gj f.c] W fun e w'=>e=.returned (O J (b:Int))/\Below W.heap.size W w'):=fun W=>hb ▸ Ib aS aH aF aL _ _ _ _ cS cH cF cL M.w f.c W (by omega)
 obtain⟨of,df⟩:=frObj f aK cK
 obtain⟨oz,bi⟩:∃ o:Obj,o=Ah:=⟨_,rfl⟩
 have HE:Qi (Lk Xb w ((w.alloc of).alloc oz) B lo aS aH aF aL cS cH cF cL M f aK cK):=Lk.first m f aK cK df bi
 have HL:Qi (∀ w1,Lk Xb w w1 B lo aS aH aF aL cS cH cF cL M f aK cK->W70 t w w1 B b R):=fun w1 h=>HR.o w1 b ⟨h,r,hz,hM,hf,gy,hb,ig,jf.2⟩
 obtain⟨f0,f1,f2,f3,f4,f5,f6,f7,f8,f9,ay,au,aj,ak,ff,fs⟩:=A8 HE.o.fb
 obtain⟨q0,q1,q2,q3,q4,-,-,-,-,-,qs⟩:=Aj HE.o.m.box
 unfold Ah at bi
 clear m ig jf hM hf r hz b0 b1 hb gy HR
 go_enter func70,ntmps70
 go_wp2_with fail
 rw[<- df,<- bi]
 generalize (w.alloc of).alloc oz=W0 at *
 subst df bi
 have cB:∀ (d:Nat) (os:Array Obj),Calls Pg 113 #[Cm aS aH aF aL cS cH cF cL M,Gj f.c] (grow (redrawn W0 d) os) fun e uh=>e=.returned (O J (b:Int))/\∃ p:Regrown,uh=grow (redrawn W0 p.d) p.os:=fun d os=>Calls.regrown_of (ve.o _)
 have Q0:=fO q0;have Q1:=fO q1;have Q2:=fO q2;have Q3:=fO q3;have Q4:=fO q4
 have F0:=fO f0;have F1:=fO f1;have F2:=fO f2;have F3:=fO f3;have F4:=fO f4;have F5:=fO f5
 clear q0 q1 q2 q3 q4 qs f0 f1 f2 f3 f4 f5 f6 f7 f8 f9 ay au aj ak ff fs
 refine iD (by kernel_rfl) (by kernel_rfl) ?_
 repeat (quiet_step (first|exact cB _ _))
 refine wpQuiet_nil ?_
 intro _ rq
 obtain⟨⟨dq,rD⟩,ql⟩:=rq
 subst ql
 rename_i K hK
 exact hK _ _ (HL.o _ (HE.o.below (below_regrown W0 dq rD)) _ (by kernel_rfl) _ _ _ _ _ _ _)
end
section
variable {Xb:Ex}
section
variable {w w1:Wq} {B lo:Nat} {aS aH aF aL:Option Addr} {cS cH cF cL:Nat} {M:Mm} {f:Fr} {aK:Option Addr} {cK b:Nat}
theorem rad0(H:LH Xb w w1 B lo aS aH aF aL cS cH cF cL M f aK cK b){G:Fr}{N:Mm}(hp:f.l=0)(hk:f.c.k=2)(hF:M.f.length=0/\Ak f 7=G/\M=N\/¬ M.f.length=0/\Gq f (Gw M) 1=G/\Pj M f.c.a f.c.b (M.w+f.c.t)=N):W70 t w w1 B b (RQ Xb w (Ac B aS aH aF aL) B lo aK cK N G):=by
 have ig:=H.ns
 have gy:=H.bl
 have jf:=H.nh
 obtain⟨f0,f1,f2,f3,f4,f5,f6,f7,f8,f9,ay,au,aj,ak,ff,fs⟩:=A8 H.e.o.fb
 obtain⟨q0,q1,q2,q3,q4,-,-,-,-,-,qs⟩:=Aj H.e.o.m.box
 rintro C rfl v1 v8 v9 v10 v11 v12 v13
 conv=>arg 2;whnf
 unfold X7
 rw[hp] at f6
 clear hp
 obtain⟨-,k2,k3⟩:Ei f.c.a f.c.b=true/\1<=f.c.t/\f.c.t<=1000000:=Vo hk H.fit.o.call
 obtain⟨h0,h1⟩:=H.ok.o.w
 have hns2:¬ 2000000<M.w+f.c.t:=by omega
 clear hk
 have HF:Qi _:=hF
 clear hF
 go_wp2_with fail
 go_quiet (fail)
 go_wp2_with fail
 have gp:Qi (Lk Xb w (w1.drewN nq) B lo aS aH aF aL cS cH cF cL M f aK cK):=H.e.o.below (w2:=w1.drewN nq) ⟨rfl,rfl,rfl,aC _,fun _ _=>rfl⟩
 rcases HF.o with ⟨hF,hG,rfl⟩|⟨hF,hG,rfl⟩
 ·have HG:Qi _:=hG
  refine(a4f ⟨_,_,_,_,_,_,_,_,gp.o.m,fun _ h=>h⟩ hF).mono ?_
  rintro e w2 ⟨rfl,dm⟩
  have ai:Qi _:=(gp.o.below dm).two
  clear dm hG hF HF gp f0 f1 f2 f3 f4 f5 f6 f7 f8 f9 ay au aj ak ff fs
  obtain⟨f0,f1,f2,f3,f4,f5,f6,f7,f8,f9,ay,au,aj,ak,ff,fs⟩:=A8 ai.o.fb
  go_wp2_with fail
  first|(go_at_call 117;refine(Dx 117 (.inr (.inl rfl)) _ ai.o HG.o H.r.o H.z.o).mono ?_)|(go_at_call 73;refine(Bz _ ai.o HG.o H.r.o H.z.o).mono ?_)
  rintro e w9 ⟨g,a,c,rfl,t9,b9,hQ⟩
  clear ai H HG f0 f1 f2 f3 f4 f5 f6 f7 f8 f9 ay au aj ak ff fs q0 q1 q2 q3 q4 qs
  go_wp2_with (refine Bl (f:=g) rfl (.tmp 6) _ rfl rfl rfl t9.o ?_)
  generalize w9.setCells (w.heap.size+1) 0 (g.enc a c)=W9 at *
  exact gZ (lV nN _ W9 (w.heap.size+1) 47 _ (0,0) _ rfl b9.o mO rfl (by kernel_rfl)) rfl hQ.o
 ·have HG:Qi _:=hG
  have MK:0<M.f.length:=by omega
  refine(a4e ⟨_,_,_,_,_,_,_,_,gp.o.m,fun _ h=>h⟩ H.ok.o MK).mono ?_
  rintro e w2 ⟨rfl,ja,ik⟩
  have di:Qi _:=gp.o.after ja ik
  clear ja ik f0 f1 f2 f3 f4 f5 f6 f7 f8 f9 ay au aj ak ff fs
  obtain⟨f0,f1,f2,f3,f4,f5,f6,f7,f8,f9,ay,au,aj,ak,ff,fs⟩:=A8 di.o.fb
  clear hG hF HF gp MK
  have ai:Qi (Lk2 Xb w (w2.setCell ⟨w.heap.size,9,none⟩ (O J (Gw M))) (Ac B aS aH aF aL) B lo (Pj M f.c.a f.c.b (M.w+f.c.t)) ({ f with h:=Gw M }) aK cK):=di.o.store 9 _ _ rfl
  clear di
  go_wp2_with fail
  first|(go_at_call 117;refine(Dx 117 (.inr (.inl rfl)) _ ai.o HG.o H.r.o H.z.o).mono ?_)|(go_at_call 73;refine(Bz _ ai.o HG.o H.r.o H.z.o).mono ?_)
  rintro e w9 ⟨g,a,c,rfl,t9,b9,hQ⟩
  clear ai H HG f0 f1 f2 f3 f4 f5 f6 f7 f8 f9 ay au aj ak ff fs q0 q1 q2 q3 q4 qs
  go_wp2_with (refine Bl (f:=g) rfl (.tmp 6) _ rfl rfl rfl t9.o ?_)
  generalize w9.setCells (w.heap.size+1) 0 (g.enc a c)=W9 at *
  exact gZ (lV nN _ W9 (w.heap.size+1) 47 _ (0,0) _ rfl b9.o mO rfl (by kernel_rfl)) rfl hQ.o
theorem rad1(H:LH Xb w w1 B lo aS aH aF aL cS cH cF cL M f aK cK b)(hp:f.l=1){G:Fr}(HG:Qi ((if D6 M b=-1 then toF f 2 else f)=G)):W70 t w w1 B b (RQ Xb w (Ac B aS aH aF aL) B lo aK cK (Nj M b t) G):=by
 have ig:=H.ns
 have gy:=H.bl
 have jf:=H.nh
 obtain⟨f0,f1,f2,f3,f4,f5,f6,f7,f8,f9,ay,au,aj,ak,ff,fs⟩:=A8 H.e.o.fb
 obtain⟨q0,q1,q2,q3,q4,-,-,-,-,-,qs⟩:=Aj H.e.o.m.box
 rintro C rfl v1 v8 v9 v10 v11 v12 v13
 conv=>arg 2;whnf
 unfold X7
 rw[hp] at f6
 clear hp
 go_wp2_with fail
 refine(Rq t ⟨_,_,_,_,_,_,_,_,H.e.o.m,fun _ h=>h⟩ H.ok.o gy).mono ?_
 rintro e w2 ⟨rfl,ja,ik⟩
 have di:Qi _:=H.e.o.after ja ik
 clear ja ik f0 f1 f2 f3 f4 f5 f6 f7 f8 f9 ay au aj ak ff fs
 obtain⟨f0,f1,f2,f3,f4,f5,f6,f7,f8,f9,ay,au,aj,ak,ff,fs⟩:=A8 di.o.fb
 have ai:=di
 clear di
 cases hq:(D6 M b == -1)
 ·have h:¬ D6 M b=-1:=by simpa using hq
  rw[ae h] at HG
  clear h hq
  have hG:=HG.o
  clear HG
  subst hG
  obtain⟨l9,t9,b9,hQ⟩:=Vq ai.o H.r.o H.z.o
  clear ai H f0 f1 f2 f3 f4 f5 f6 f7 f8 f9 ay au aj ak ff fs q0 q1 q2 q3 q4 qs
  go_wp2_with (first|(have h9:=l9.o;refine Xy rfl (.tmp 4) rfl rfl h9 ?_;clear h9 l9)|refine Bl (f:=f) rfl (.tmp 6) _ rfl rfl rfl t9.o ?_)
  generalize World.setCells _ (w.heap.size+1) 0 (f.enc aK cK)=W9 at *
  exact gZ (lV nN _ W9 (w.heap.size+1) 47 _ (0,0) _ rfl b9.o mO rfl (by kernel_rfl)) rfl hQ.o
 ·have h:D6 M b=-1:=by simpa using hq
  rw[af h] at HG
  clear h hq
  go_wp2_with fail
  first|(go_at_call 117;refine(Dx 117 (.inr (.inl rfl)) _ ai.o HG.o H.r.o H.z.o).mono ?_)|(go_at_call 73;refine(Bz _ ai.o HG.o H.r.o H.z.o).mono ?_)
  rintro e w9 ⟨g,a,c,rfl,t9,b9,hQ⟩
  clear ai H HG f0 f1 f2 f3 f4 f5 f6 f7 f8 f9 ay au aj ak ff fs q0 q1 q2 q3 q4 qs
  go_wp2_with (refine Bl (f:=g) rfl (.tmp 6) _ rfl rfl rfl t9.o ?_)
  generalize w9.setCells (w.heap.size+1) 0 (g.enc a c)=W9 at *
  exact gZ (lV nN _ W9 (w.heap.size+1) 47 _ (0,0) _ rfl b9.o mO rfl (by kernel_rfl)) rfl hQ.o
theorem rad2(H:LH Xb w w1 B lo aS aH aF aL cS cH cF cL M f aK cK b)(hp:f.l=2){G:Fr}(HG:Qi (U6 f (Bq M b) 3=G)):W70 t w w1 B b (RQ Xb w (Ac B aS aH aF aL) B lo aK cK M G):=by
 have ig:=H.ns
 have gy:=H.bl
 have jf:=H.nh
 obtain⟨f0,f1,f2,f3,f4,f5,f6,f7,f8,f9,ay,au,aj,ak,ff,fs⟩:=A8 H.e.o.fb
 obtain⟨q0,q1,q2,q3,q4,-,-,-,-,-,qs⟩:=Aj H.e.o.m.box
 rintro C rfl v1 v8 v9 v10 v11 v12 v13
 conv=>arg 2;whnf
 unfold X7
 rw[hp] at f6
 clear hp
 obtain⟨gH,hH,hc⟩:=H.head
 rw[hH] at q1
 have ai:Qi (Lk2 Xb w (w1.setCell ⟨w.heap.size,7,none⟩ (O J (Bq M b))) (Ac B aS aH aF aL) B lo M ({ f with u:=Bq M b }) aK cK):=H.e.o.two.store 7 _ _ rfl
 go_wp2_with fail
 first|(go_at_call 117;refine(Dx 117 (.inr (.inl rfl)) _ ai.o HG.o H.r.o H.z.o).mono ?_)|(go_at_call 73;refine(Bz _ ai.o HG.o H.r.o H.z.o).mono ?_)
 rintro e w9 ⟨g,a,c,rfl,t9,b9,hQ⟩
 clear ai H HG f0 f1 f2 f3 f4 f5 f6 f7 f8 f9 ay au aj ak ff fs q0 q1 q2 q3 q4 qs
 go_wp2_with (refine Bl (f:=g) rfl (.tmp 6) _ rfl rfl rfl t9.o ?_)
 generalize w9.setCells (w.heap.size+1) 0 (g.enc a c)=W9 at *
 exact gZ (lV nN _ W9 (w.heap.size+1) 47 _ (0,0) _ rfl b9.o mO rfl (by kernel_rfl)) rfl hQ.o
theorem rad3(H:LH Xb w w1 B lo aS aH aF aL cS cH cF cL M f aK cK b)(hp:f.l=3)(hc:f.u<=0){G:Fr}(HG:Qi (toF f 5=G)):W70 t w w1 B b (RQ Xb w (Ac B aS aH aF aL) B lo aK cK M G):=by
 have ig:=H.ns
 have gy:=H.bl
 have jf:=H.nh
 obtain⟨f0,f1,f2,f3,f4,f5,f6,f7,f8,f9,ay,au,aj,ak,ff,fs⟩:=A8 H.e.o.fb
 obtain⟨q0,q1,q2,q3,q4,-,-,-,-,-,qs⟩:=Aj H.e.o.m.box
 rintro C rfl v1 v8 v9 v10 v11 v12 v13
 conv=>arg 2;whnf
 unfold X7
 rw[hp] at f6
 clear hp
 have hI:decide (0<f.u)=false:=by rw[decide_eq_false_iff_not];omega
 have ai:Qi (Lk2 Xb w (w1) (Ac B aS aH aF aL) B lo M (f) aK cK):=H.e.o.two
 go_wp2_with (go_at_call 115;refine(Ef _ _ hI).mono ?_;rintro e w3 ⟨rfl,rfl⟩)
 first|(go_at_call 117;refine(Dx 117 (.inr (.inl rfl)) _ ai.o HG.o H.r.o H.z.o).mono ?_)|(go_at_call 73;refine(Bz _ ai.o HG.o H.r.o H.z.o).mono ?_)
 rintro e w9 ⟨g,a,c,rfl,t9,b9,hQ⟩
 clear ai H HG f0 f1 f2 f3 f4 f5 f6 f7 f8 f9 ay au aj ak ff fs q0 q1 q2 q3 q4 qs
 go_wp2_with (refine Bl (f:=g) rfl (.tmp 6) _ rfl rfl rfl t9.o ?_)
 generalize w9.setCells (w.heap.size+1) 0 (g.enc a c)=W9 at *
 exact gZ (lV nN _ W9 (w.heap.size+1) 47 _ (0,0) _ rfl b9.o mO rfl (by kernel_rfl)) rfl hQ.o
theorem rad3b(H:LH Xb w w1 B lo aS aH aF aL cS cH cF cL M f aK cK b)(hp:f.l=3){j:Nat}(hj:f.u=(j:Int)+1)(hl:j<M.s.length){G:Fr}(HG:Qi (toF f (if lkK (Aa M j) f then 6 else 4)=G)):W70 t w w1 B b (RQ Xb w (Ac B aS aH aF aL) B lo aK cK M G):=by
 have ig:=H.ns
 have gy:=H.bl
 have jf:=H.nh
 obtain⟨f0,f1,f2,f3,f4,f5,f6,f7,f8,f9,ay,au,aj,ak,ff,fs⟩:=A8 H.e.o.fb
 obtain⟨q0,q1,q2,q3,q4,-,-,-,-,-,qs⟩:=Aj H.e.o.m.box
 rintro C rfl v1 v8 v9 v10 v11 v12 v13
 conv=>arg 2;whnf
 unfold X7
 rw[hp] at f6
 clear hp
 obtain⟨gS,hS,xs,x0,x1,x2,x3,x4,x5⟩:=H.e.o.Jd ig hl
 rw[hS] at q0
 have vF:(j:Int)<(M.s.length:Int):=by omega
 rw[hj] at f7
 have hI:decide (0<(j:Int)+1)=true:=by rw[decide_eq_true_iff];omega
 have yY:IntKind.i64.wrap ((j:Int)+1 - 1)=(j:Int):=by rw[nI];omega
 have BZ:dE ((j:Int)+1 - 1)=(j:Int):=by unfold dE;omega
 have zO:(j:Int)+1 - 1=(j:Int):=by omega
 have se:=LH.seq (Aa M j) f
 cases hk:lkK (Aa M j) f
 all_goals
  rw[hk] at se HG
  clear hk
  go_wp2_with (go_at_call 115;refine(Ef _ _ hI).mono ?_;rintro e w3 ⟨rfl,rfl⟩)
  go_quiet (fail)
  go_wp2_with fail
  have ai:Qi (Lk2 Xb w (w1.drewN nq) (Ac B aS aH aF aL) B lo M (f) aK cK):=(H.e.o.below (w2:=w1.drewN nq) ⟨rfl,rfl,rfl,aC _,fun _ _=>rfl⟩).two
  first|(go_at_call 117;refine(Dx 117 (.inr (.inl rfl)) _ ai.o HG.o H.r.o H.z.o).mono ?_)|(go_at_call 73;refine(Bz _ ai.o HG.o H.r.o H.z.o).mono ?_)
  rintro e w9 ⟨g,a,c,rfl,t9,b9,hQ⟩
  clear ai H HG f0 f1 f2 f3 f4 f5 f6 f7 f8 f9 ay au aj ak ff fs q0 q1 q2 q3 q4 qs
  go_wp2_with (refine Bl (f:=g) rfl (.tmp 6) _ rfl rfl rfl t9.o ?_)
  generalize w9.setCells (w.heap.size+1) 0 (g.enc a c)=W9 at *
  exact gZ (lV nN _ W9 (w.heap.size+1) 47 _ (0,0) _ rfl b9.o mO rfl (by kernel_rfl)) rfl hQ.o
theorem rad4(H:LH Xb w w1 B lo aS aH aF aL cS cH cF cL M f aK cK b)(hp:f.l=4){j:Nat}(hj:f.u=(j:Int)+1)(hl:j<M.s.length){G:Fr}(HG:Qi (U6 f (Aa M j).next 3=G)):W70 t w w1 B b (RQ Xb w (Ac B aS aH aF aL) B lo aK cK M G):=by
 have ig:=H.ns
 have gy:=H.bl
 have jf:=H.nh
 obtain⟨f0,f1,f2,f3,f4,f5,f6,f7,f8,f9,ay,au,aj,ak,ff,fs⟩:=A8 H.e.o.fb
 obtain⟨q0,q1,q2,q3,q4,-,-,-,-,-,qs⟩:=Aj H.e.o.m.box
 rintro C rfl v1 v8 v9 v10 v11 v12 v13
 conv=>arg 2;whnf
 unfold X7
 rw[hp] at f6
 clear hp
 obtain⟨gS,hS,xs,x0,x1,x2,x3,x4,x5⟩:=H.e.o.Jd ig hl
 rw[hS] at q0
 have vF:(j:Int)<(M.s.length:Int):=by omega
 rw[hj] at f7
 have hI:decide (0<(j:Int)+1)=true:=by rw[decide_eq_true_iff];omega
 have yY:IntKind.i64.wrap ((j:Int)+1 - 1)=(j:Int):=by rw[nI];omega
 have BZ:dE ((j:Int)+1 - 1)=(j:Int):=by unfold dE;omega
 have zO:(j:Int)+1 - 1=(j:Int):=by omega
 go_wp2_with (go_at_call 115;refine(Ef _ _ hI).mono ?_;rintro e w3 ⟨rfl,rfl⟩)
 go_region
 all_goals
  go_wp2_with fail
  have ai:Qi (Lk2 Xb w ((w1.setCell ⟨w.heap.size,7,none⟩ (O J (Aa M j).next)).drew) (Ac B aS aH aF aL) B lo M ({ f with u:=(Aa M j).next }) aK cK):=(H.e.o.two.store 7 _ { f with u:=(Aa M j).next } rfl).below ⟨rfl,rfl,rfl,aC _,fun _ _=>rfl⟩
  first|(go_at_call 117;refine(Dx 117 (.inr (.inl rfl)) _ ai.o HG.o H.r.o H.z.o).mono ?_)|(go_at_call 73;refine(Bz _ ai.o HG.o H.r.o H.z.o).mono ?_)
  rintro e w9 ⟨g,a,c,rfl,t9,b9,hQ⟩
  clear ai H HG f0 f1 f2 f3 f4 f5 f6 f7 f8 f9 ay au aj ak ff fs q0 q1 q2 q3 q4 qs
  go_wp2_with (refine Bl (f:=g) rfl (.tmp 6) _ rfl rfl rfl t9.o ?_)
  generalize w9.setCells (w.heap.size+1) 0 (g.enc a c)=W9 at *
  exact gZ (lV nN _ W9 (w.heap.size+1) 47 _ (0,0) _ rfl b9.o mO rfl (by kernel_rfl)) rfl hQ.o
theorem rad5(H:LH Xb w w1 B lo aS aH aF aL cS cH cF cL M f aK cK b)(hp:f.l=5){j:Nat}(hj:f.h=j)(hl:j<M.s.length){G:Fr}(HG:Qi ({ f with e:=0,l:=7 } = G)):W70 t w w1 B b (RQ Xb w (Ac B aS aH aF aL) B lo aK cK (Tm M j b) G):=by
 have ig:=H.ns
 have gy:=H.bl
 have jf:=H.nh
 obtain⟨f0,f1,f2,f3,f4,f5,f6,f7,f8,f9,ay,au,aj,ak,ff,fs⟩:=A8 H.e.o.fb
 obtain⟨q0,q1,q2,q3,q4,-,-,-,-,-,qs⟩:=Aj H.e.o.m.box
 rintro C rfl v1 v8 v9 v10 v11 v12 v13
 conv=>arg 2;whnf
 unfold X7
 rw[hp] at f6
 clear hp
 rw[hj] at f9
 have AU:(0:Int)<=(j:Int):=by omega
 go_wp2_with fail
 refine(a4a ⟨_,_,_,_,_,_,_,_,H.e.o.m,fun _ h=>h⟩ H.ok.o hl gy).mono ?_
 rintro e w2 ⟨rfl,ja,ik⟩
 have di:Qi _:=H.e.o.after ja ik
 clear ja ik f0 f1 f2 f3 f4 f5 f6 f7 f8 f9 ay au aj ak ff fs
 obtain⟨f0,f1,f2,f3,f4,f5,f6,f7,f8,f9,ay,au,aj,ak,ff,fs⟩:=A8 di.o.fb
 have ai:Qi (Lk2 Xb w (w2.setCell ⟨w.heap.size,13,none⟩ (O J 0)) (Ac B aS aH aF aL) B lo (Tm M j b) ({ f with e:=0 }) aK cK):=di.o.store 13 _ _ rfl
 clear di
 go_wp2_with fail
 first|(go_at_call 117;refine(Dx 117 (.inr (.inl rfl)) _ ai.o HG.o H.r.o H.z.o).mono ?_)|(go_at_call 73;refine(Bz _ ai.o HG.o H.r.o H.z.o).mono ?_)
 rintro e w9 ⟨g,a,c,rfl,t9,b9,hQ⟩
 clear ai H HG f0 f1 f2 f3 f4 f5 f6 f7 f8 f9 ay au aj ak ff fs q0 q1 q2 q3 q4 qs
 go_wp2_with (refine Bl (f:=g) rfl (.tmp 6) _ rfl rfl rfl t9.o ?_)
 generalize w9.setCells (w.heap.size+1) 0 (g.enc a c)=W9 at *
 exact gZ (lV nN _ W9 (w.heap.size+1) 47 _ (0,0) _ rfl b9.o mO rfl (by kernel_rfl)) rfl hQ.o
theorem rad6(H:LH Xb w w1 B lo aS aH aF aL cS cH cF cL M f aK cK b)(hp:f.l=6){j:Nat}(hj:f.h=j)(hl:j<M.s.length){G:Fr}(HG:Qi ({ f with h:=-1,e:=6,l:=7 } = G)):W70 t w w1 B b (RQ Xb w (Ac B aS aH aF aL) B lo aK cK (Ff M j) G):=by
 have ig:=H.ns
 have gy:=H.bl
 have jf:=H.nh
 obtain⟨f0,f1,f2,f3,f4,f5,f6,f7,f8,f9,ay,au,aj,ak,ff,fs⟩:=A8 H.e.o.fb
 obtain⟨q0,q1,q2,q3,q4,-,-,-,-,-,qs⟩:=Aj H.e.o.m.box
 rintro C rfl v1 v8 v9 v10 v11 v12 v13
 conv=>arg 2;whnf
 unfold X7
 rw[hp] at f6
 clear hp
 rw[hj] at f9
 have AU:(0:Int)<=(j:Int):=by omega
 have hS:Dp M (j:Int)=true:=Ez.2 (by omega)
 go_wp2_with fail
 refine(Nl ⟨_,_,_,_,_,_,_,_,H.e.o.m,fun _ h=>h⟩ H.ok.o hS).mono ?_
 rintro e w2 ⟨rfl,ja,ik⟩
 have di:Qi _:=H.e.o.after ja ik
 clear ja ik f0 f1 f2 f3 f4 f5 f6 f7 f8 f9 ay au aj ak ff fs
 obtain⟨f0,f1,f2,f3,f4,f5,f6,f7,f8,f9,ay,au,aj,ak,ff,fs⟩:=A8 di.o.fb
 have ai:Qi (Lk2 Xb w ((w2.setCell ⟨w.heap.size,9,none⟩ (O J (-1))).setCell ⟨w.heap.size,13,none⟩ (O J 6)) (Ac B aS aH aF aL) B lo (Ff M j) ({ f with h:=-1,e:=6 }) aK cK):=(di.o.store 9 _ { f with h:=-1 } rfl).store 13 _ _ rfl
 clear di
 go_wp2_with fail
 first|(go_at_call 117;refine(Dx 117 (.inr (.inl rfl)) _ ai.o HG.o H.r.o H.z.o).mono ?_)|(go_at_call 73;refine(Bz _ ai.o HG.o H.r.o H.z.o).mono ?_)
 rintro e w9 ⟨g,a,c,rfl,t9,b9,hQ⟩
 clear ai H HG f0 f1 f2 f3 f4 f5 f6 f7 f8 f9 ay au aj ak ff fs q0 q1 q2 q3 q4 qs
 go_wp2_with (refine Bl (f:=g) rfl (.tmp 6) _ rfl rfl rfl t9.o ?_)
 generalize w9.setCells (w.heap.size+1) 0 (g.enc a c)=W9 at *
 exact gZ (lV nN _ W9 (w.heap.size+1) 47 _ (0,0) _ rfl b9.o mO rfl (by kernel_rfl)) rfl hQ.o
theorem rad7(H:LH Xb w w1 B lo aS aH aF aL cS cH cF cL M f aK cK b)(hp:f.l=7){G:Fr}(HG:Qi (Ak f f.e=G)):W70 t w w1 B b (RQ Xb w (Ac B aS aH aF aL) B lo aK cK (Nk M b t) G):=by
 have ig:=H.ns
 have gy:=H.bl
 have jf:=H.nh
 obtain⟨f0,f1,f2,f3,f4,f5,f6,f7,f8,f9,ay,au,aj,ak,ff,fs⟩:=A8 H.e.o.fb
 obtain⟨q0,q1,q2,q3,q4,-,-,-,-,-,qs⟩:=Aj H.e.o.m.box
 rintro C rfl v1 v8 v9 v10 v11 v12 v13
 conv=>arg 2;whnf
 unfold X7
 rw[hp] at f6
 clear hp
 go_wp2_with fail
 refine(O7 t ⟨_,_,_,_,_,_,_,_,H.e.o.m,fun _ h=>h⟩ H.ok.o gy).mono ?_
 rintro e w2 ⟨rfl,ja,ik⟩
 have di:Qi _:=H.e.o.after ja ik
 clear ja ik f0 f1 f2 f3 f4 f5 f6 f7 f8 f9 ay au aj ak ff fs
 obtain⟨f0,f1,f2,f3,f4,f5,f6,f7,f8,f9,ay,au,aj,ak,ff,fs⟩:=A8 di.o.fb
 have ai:=di
 clear di
 go_wp2_with fail
 first|(go_at_call 117;refine(Dx 117 (.inr (.inl rfl)) _ ai.o HG.o H.r.o H.z.o).mono ?_)|(go_at_call 73;refine(Bz _ ai.o HG.o H.r.o H.z.o).mono ?_)
 rintro e w9 ⟨g,a,c,rfl,t9,b9,hQ⟩
 clear ai H HG f0 f1 f2 f3 f4 f5 f6 f7 f8 f9 ay au aj ak ff fs q0 q1 q2 q3 q4 qs
 go_wp2_with (refine Bl (f:=g) rfl (.tmp 6) _ rfl rfl rfl t9.o ?_)
 generalize w9.setCells (w.heap.size+1) 0 (g.enc a c)=W9 at *
 exact gZ (lV nN _ W9 (w.heap.size+1) 47 _ (0,0) _ rfl b9.o mO rfl (by kernel_rfl)) rfl hQ.o
theorem b4g(H:LH Xb w w1 B lo aS aH aF aL cS cH cF cL M f aK cK b)(EJ:(f.l=4)/\f.u<=0\/(f.l=5\/f.l=6)/\f.h<0\/8<=f.l){G:Fr}(HG:Qi (D5 f=G)):W70 t w w1 B b (RQ Xb w (Ac B aS aH aF aL) B lo aK cK M G):=by
 have ig:=H.ns
 have gy:=H.bl
 have jf:=H.nh
 obtain⟨f0,f1,f2,f3,f4,f5,f6,f7,f8,f9,ay,au,aj,ak,ff,fs⟩:=A8 H.e.o.fb
 obtain⟨q0,q1,q2,q3,q4,-,-,-,-,-,qs⟩:=Aj H.e.o.m.box
 rintro C rfl v1 v8 v9 v10 v11 v12 v13
 conv=>arg 2;whnf
 unfold X7
 have ai:Qi (Lk2 Xb w (w1.setCell ⟨w.heap.size,13,none⟩ (O J 8)) (Ac B aS aH aF aL) B lo M ({ f with e:=8 }) aK cK):=H.e.o.two.store 13 _ _ rfl
 have hA:∀ n:Int,n<8->8<=f.l->(f.l==n)=false:=fun n h h'=>by rw[beq_eq_false_iff_ne];omega
 rcases EJ with ⟨hp,hc⟩|⟨hp|hp,hc⟩|hp
 all_goals
  first
  | rw[hp] at f6
    try have hI:decide (0<f.u)=false:=by rw[decide_eq_false_iff_not];omega
    try have AU:¬ f.h ≥ 0:=by omega
  | have p0:=hA 0 (by decide) hp
    have p1:=hA 1 (by decide) hp
    have p2:=hA 2 (by decide) hp
    have p3:=hA 3 (by decide) hp
    have p4:=hA 4 (by decide) hp
    have p5:=hA 5 (by decide) hp
    have p6:=hA 6 (by decide) hp
    have p7:=hA 7 (by decide) hp
  clear hA
  go_wp2_with (go_at_call 115;refine(Ef _ _ (by assumption)).mono ?_;rintro e w3 ⟨rfl,rfl⟩)
  first|(go_at_call 117;refine(Dx 117 (.inr (.inl rfl)) _ ai.o HG.o H.r.o H.z.o).mono ?_)|(go_at_call 73;refine(Bz _ ai.o HG.o H.r.o H.z.o).mono ?_)
  rintro e w9 ⟨g,a,c,rfl,t9,b9,hQ⟩
  clear ai H HG f0 f1 f2 f3 f4 f5 f6 f7 f8 f9 ay au aj ak ff fs q0 q1 q2 q3 q4 qs
  go_wp2_with (refine Bl (f:=g) rfl (.tmp 6) _ rfl rfl rfl t9.o ?_)
  generalize w9.setCells (w.heap.size+1) 0 (g.enc a c)=W9 at *
  exact gZ (lV nN _ W9 (w.heap.size+1) 47 _ (0,0) _ rfl b9.o mO rfl (by kernel_rfl)) rfl hQ.o
end
end
section
variable {Xb:Ex}
def X8(t:Int)(B H b:Nat)(v1 v9 v10 v11 v12 v13 zK:Value):Act:=⟨#[.pointer (some ⟨B,0,none⟩),v1,O J t,Uz,.pointer (some ⟨H,0,none⟩),Uz,.pointer (some ⟨H+1,0,none⟩),O J (b:Int),Uz,v9,v10,v11,v12,v13,zK,Uz,Uz,Uz,Uz,Uz,Uz,Uz,Uz,Uz,Uz,Uz,Uz,Uz,Uz,Uz,Uz,Uz,Uz,Uz,Uz,Uz,Uz,Uz,Uz,Uz,Uz,Uz,Uz,Uz,Uz,Uz,Uz,Uz,Uz,Uz,Uz,Uz,Uz,Uz,Uz,Uz,Uz,Uz,Uz,Uz,Uz,Uz,Uz,Uz,Uz,Uz,Uz,Uz,Uz,Uz,Uz,Uz,Uz,Uz,Uz,Uz,Uz,Uz,Uz,Uz,Uz,Uz,Uz,Uz,Uz,Uz,Uz,Uz,Uz,Uz,Uz,Uz,Uz,Uz,Uz,Uz,Uz,Uz,Uz,Uz,Uz,Uz,Uz,Uz,Uz,Uz,Uz,Uz,Uz,Uz,Uz,Uz,Uz,Uz,Uz,Uz,Uz,Uz,Uz,Uz,Uz,Uz,Uz,Uz,Uz,Uz,Uz,Uz,Uz,Uz,Uz,Uz,Uz,Uz,Uz,Uz,Uz,Uz,Uz,Uz,Uz,Uz,Uz,Uz,Uz,Uz,Uz,Uz,Uz,Uz,Uz,Uz,Uz,Uz,Uz],[]⟩
def W71(t:Int)(w w1:Wq)(B b:Nat)(R:Ending->Wq->Prop):Prop :=
 ∀ C,C=a0u (a0u (Tryz.f71.body.getD .skip))->∀ v1 v9 v10 v11 v12 v13 zK,Code.wp Pg C (bodyPost Pg Tryz.f71 R) (X8 t B w.heap.size b v1 v9 v10 v11 v12 v13 zK) w1
theorem b1n(M:Mm)(f:Fr)(B lo:Nat)(aS aH aF aL:Option Addr)(cS cH cF cL:Nat)(aK:Option Addr)(cK:Nat)(w:Wq)(m:Mine Xb w B lo aS aH aF aL cS cH cF cL M)(hM:Ok M)(hf:Fit M f)(r:Az w aK cK f.t)(hz:∀ ad,aK=some ad->¬ Ac B aS aH aF aL ad.block){R:Ending->Wq->Prop}(HR:Qi (∀ (w1:Wq) (b:Nat),LH Xb w w1 B lo aS aH aF aL cS cH cF cL M f aK cK b->W71 t w w1 B b R)) :
  Calls Pg 71 #[Ae B,Ai f aK cK,O J t] w R:=by
 unfold Ae Ai
 have ig:=hM.ns
 have jf:=hM.nh
 obtain⟨b0,b1⟩:0<=Fz M.h.length f.c/\Fz M.h.length f.c<M.h.length:=Ia hM hf.call
 obtain⟨b,hb⟩:∃ b:Nat,Fz M.h.length f.c=b:=⟨_,(Int.toNat_of_nonneg b0).symm⟩
 have gy:b<M.h.length:=by omega
 have ve:Qi (∀ W:Wq,Calls Pg 113 #[Cm aS aH aF aL cS cH cF cL M,Gj f.c] W fun e w'=>e=.returned (O J (b:Int))/\Below W.heap.size W w'):=fun W=>hb ▸ Ib aS aH aF aL _ _ _ _ cS cH cF cL M.w f.c W (by omega)
 obtain⟨of,df⟩:=frObj f aK cK
 obtain⟨oz,bi⟩:∃ o:Obj,o=Ah:=⟨_,rfl⟩
 have HE:Qi (Lk Xb w ((w.alloc of).alloc oz) B lo aS aH aF aL cS cH cF cL M f aK cK):=Lk.first m f aK cK df bi
 have HL:Qi (∀ w1,Lk Xb w w1 B lo aS aH aF aL cS cH cF cL M f aK cK->W71 t w w1 B b R):=fun w1 h=>HR.o w1 b ⟨h,r,hz,hM,hf,gy,hb,ig,jf.2⟩
 obtain⟨f0,f1,f2,f3,f4,f5,f6,f7,f8,f9,ay,au,aj,ak,ff,fs⟩:=A8 HE.o.fb
 obtain⟨q0,q1,q2,q3,q4,-,-,-,-,-,qs⟩:=Aj HE.o.m.box
 unfold Ah at bi
 clear m ig jf hM hf r hz b0 b1 hb gy HR
 go_enter func71,ntmps71
 go_wp2_with fail
 rw[<- df,<- bi]
 generalize (w.alloc of).alloc oz=W0 at *
 subst df bi
 have cB:∀ (d:Nat) (os:Array Obj),Calls Pg 113 #[Cm aS aH aF aL cS cH cF cL M,Gj f.c] (grow (redrawn W0 d) os) fun e uh=>e=.returned (O J (b:Int))/\∃ p:Regrown,uh=grow (redrawn W0 p.d) p.os:=fun d os=>Calls.regrown_of (ve.o _)
 have Q0:=fO q0;have Q1:=fO q1;have Q2:=fO q2;have Q3:=fO q3;have Q4:=fO q4
 have F0:=fO f0;have F1:=fO f1;have F2:=fO f2;have F3:=fO f3;have F4:=fO f4;have F5:=fO f5
 clear q0 q1 q2 q3 q4 qs f0 f1 f2 f3 f4 f5 f6 f7 f8 f9 ay au aj ak ff fs
 refine iD (by kernel_rfl) (by kernel_rfl) ?_
 repeat (quiet_step (first|exact cB _ _))
 refine wpQuiet_nil ?_
 intro _ rq
 obtain⟨⟨dq,rD⟩,ql⟩:=rq
 subst ql
 rename_i K hK
 exact hK _ _ (HL.o _ (HE.o.below (below_regrown W0 dq rD)) _ (by kernel_rfl) _ _ _ _ _ _ _)
end
section
variable {Xb:Ex}
section
variable {w w1:Wq} {B lo:Nat} {aS aH aF aL:Option Addr} {cS cH cF cL:Nat} {M:Mm} {f:Fr} {aK:Option Addr} {cK b:Nat}
theorem rdr0(H:LH Xb w w1 B lo aS aH aF aL cS cH cF cL M f aK cK b)(hp:f.l=0){G:Fr}(HG:Qi ((if D6 M b=-1 then toF f 1 else f)=G)):W71 t w w1 B b (RQ Xb w (Ac B aS aH aF aL) B lo aK cK (Nj M b t) G):=by
 have ig:=H.ns
 have gy:=H.bl
 have jf:=H.nh
 obtain⟨f0,f1,f2,f3,f4,f5,f6,f7,f8,f9,ay,au,aj,ak,ff,fs⟩:=A8 H.e.o.fb
 obtain⟨q0,q1,q2,q3,q4,-,-,-,-,-,qs⟩:=Aj H.e.o.m.box
 rintro C rfl v1 v8 v9 v10 v11 v12 v13
 conv=>arg 2;whnf
 unfold X8
 rw[hp] at f6
 clear hp
 go_wp2_with fail
 refine(Rq t ⟨_,_,_,_,_,_,_,_,H.e.o.m,fun _ h=>h⟩ H.ok.o gy).mono ?_
 rintro e w2 ⟨rfl,ja,ik⟩
 have di:Qi _:=H.e.o.after ja ik
 clear ja ik f0 f1 f2 f3 f4 f5 f6 f7 f8 f9 ay au aj ak ff fs
 obtain⟨f0,f1,f2,f3,f4,f5,f6,f7,f8,f9,ay,au,aj,ak,ff,fs⟩:=A8 di.o.fb
 have ai:=di
 clear di
 cases hq:(D6 M b == -1)
 ·have h:¬ D6 M b=-1:=by simpa using hq
  rw[ae h] at HG
  clear h hq
  have hG:=HG.o
  clear HG
  subst hG
  obtain⟨l9,t9,b9,hQ⟩:=Vq ai.o H.r.o H.z.o
  clear ai H f0 f1 f2 f3 f4 f5 f6 f7 f8 f9 ay au aj ak ff fs q0 q1 q2 q3 q4 qs
  go_wp2_with (first|(have h9:=l9.o;refine Xy rfl (.tmp 4) rfl rfl h9 ?_;clear h9 l9)|refine Bl (f:=f) rfl (.tmp 6) _ rfl rfl rfl t9.o ?_)
  generalize World.setCells _ (w.heap.size+1) 0 (f.enc aK cK)=W9 at *
  exact gZ (lV nO _ W9 (w.heap.size+1) 47 _ (0,0) _ rfl b9.o mO rfl (by kernel_rfl)) rfl hQ.o
 ·have h:D6 M b=-1:=by simpa using hq
  rw[af h] at HG
  clear h hq
  go_wp2_with fail
  first|(go_at_call 122;refine(Dx 122 (.inr (.inr (.inl rfl))) _ ai.o HG.o H.r.o H.z.o).mono ?_)|(go_at_call 73;refine(Bz _ ai.o HG.o H.r.o H.z.o).mono ?_)
  rintro e w9 ⟨g,a,c,rfl,t9,b9,hQ⟩
  clear ai H HG f0 f1 f2 f3 f4 f5 f6 f7 f8 f9 ay au aj ak ff fs q0 q1 q2 q3 q4 qs
  go_wp2_with (refine Bl (f:=g) rfl (.tmp 6) _ rfl rfl rfl t9.o ?_)
  generalize w9.setCells (w.heap.size+1) 0 (g.enc a c)=W9 at *
  exact gZ (lV nO _ W9 (w.heap.size+1) 47 _ (0,0) _ rfl b9.o mO rfl (by kernel_rfl)) rfl hQ.o
theorem rdr1(H:LH Xb w w1 B lo aS aH aF aL cS cH cF cL M f aK cK b)(hp:f.l=1){G:Fr}(HG:Qi (Ij f 0 (Bq M b) 2=G)):W71 t w w1 B b (RQ Xb w (Ac B aS aH aF aL) B lo aK cK M G):=by
 have ig:=H.ns
 have gy:=H.bl
 have jf:=H.nh
 obtain⟨f0,f1,f2,f3,f4,f5,f6,f7,f8,f9,ay,au,aj,ak,ff,fs⟩:=A8 H.e.o.fb
 obtain⟨q0,q1,q2,q3,q4,-,-,-,-,-,qs⟩:=Aj H.e.o.m.box
 rintro C rfl v1 v8 v9 v10 v11 v12 v13
 conv=>arg 2;whnf
 unfold X8
 rw[hp] at f6
 clear hp
 obtain⟨gH,hH,hc⟩:=H.head
 rw[hH] at q1
 go_wp2_with fail
 have yM:B<w.heap.size:=H.e.o.lt B (.inl rfl)
 have BF:gH<w.heap.size:=H.e.o.lt gH (.inr (.inr (.inl ⟨_,hH,rfl⟩)))
 have yK:B≠w.heap.size:=by omega
 have yI:gH≠w.heap.size:=by omega
 have zq:w.heap.size≠B:=by omega
 have zh:w.heap.size≠gH:=by omega
 rename_i K0 qO
 apply Ey (R:=fun a=>∀ W2:Wq,Lk2 Xb w W2 (Ac B aS aH aF aL) B lo M ({ f with p:=0,u:=Bq M b }) aK cK->K0 a W2)
 ·intro gq
  have pg:Qi _:=gq
  clear gq
  go_region
  all_goals exact pg.o _ (((H.e.o.store 8 (O J 0) { f with p:=0 } rfl).store 7 (O J (Bq M b)) { f with p:=0,u:=Bq M b } rfl).two.below ⟨rfl,rfl,rfl,aC _,fun _ _=>rfl⟩)
 intro w2 h3
 have ai:Qi _:=h3
 refine qO _ _ ?_
 clear h3 qO yM BF yK yI zq zh f0 f1 f2 f3 f4 f5 f6 f7 f8 f9 ay au aj ak ff fs
 obtain⟨f0,f1,f2,f3,f4,f5,f6,f7,f8,f9,ay,au,aj,ak,ff,fs⟩:=A8 ai.o.fb
 go_wp2_with fail
 first|(go_at_call 122;refine(Dx 122 (.inr (.inr (.inl rfl))) _ ai.o HG.o H.r.o H.z.o).mono ?_)|(go_at_call 73;refine(Bz _ ai.o HG.o H.r.o H.z.o).mono ?_)
 rintro e w9 ⟨g,a,c,rfl,t9,b9,hQ⟩
 clear ai H HG f0 f1 f2 f3 f4 f5 f6 f7 f8 f9 ay au aj ak ff fs q0 q1 q2 q3 q4 qs
 go_wp2_with (refine Bl (f:=g) rfl (.tmp 6) _ rfl rfl rfl t9.o ?_)
 generalize w9.setCells (w.heap.size+1) 0 (g.enc a c)=W9 at *
 exact gZ (lV nO _ W9 (w.heap.size+1) 47 _ (0,0) _ rfl b9.o mO rfl (by kernel_rfl)) rfl hQ.o
theorem rdr2(H:LH Xb w w1 B lo aS aH aF aL cS cH cF cL M f aK cK b)(hp:f.l=2)(hc:f.u<=0){G:Fr}(HG:Qi (Ec f 5 5=G)):W71 t w w1 B b (RQ Xb w (Ac B aS aH aF aL) B lo aK cK M G):=by
 have ig:=H.ns
 have gy:=H.bl
 have jf:=H.nh
 obtain⟨f0,f1,f2,f3,f4,f5,f6,f7,f8,f9,ay,au,aj,ak,ff,fs⟩:=A8 H.e.o.fb
 obtain⟨q0,q1,q2,q3,q4,-,-,-,-,-,qs⟩:=Aj H.e.o.m.box
 rintro C rfl v1 v8 v9 v10 v11 v12 v13
 conv=>arg 2;whnf
 unfold X8
 rw[hp] at f6
 clear hp
 have hI:decide (0<f.u)=false:=by rw[decide_eq_false_iff_not];omega
 have ai:Qi (Lk2 Xb w (w1.setCell ⟨w.heap.size,13,none⟩ (O J 5)) (Ac B aS aH aF aL) B lo M ({ f with e:=5 }) aK cK):=H.e.o.two.store 13 _ _ rfl
 go_wp2_with (go_at_call 115;refine(Ef _ _ hI).mono ?_;rintro e w3 ⟨rfl,rfl⟩)
 first|(go_at_call 122;refine(Dx 122 (.inr (.inr (.inl rfl))) _ ai.o HG.o H.r.o H.z.o).mono ?_)|(go_at_call 73;refine(Bz _ ai.o HG.o H.r.o H.z.o).mono ?_)
 rintro e w9 ⟨g,a,c,rfl,t9,b9,hQ⟩
 clear ai H HG f0 f1 f2 f3 f4 f5 f6 f7 f8 f9 ay au aj ak ff fs q0 q1 q2 q3 q4 qs
 go_wp2_with (refine Bl (f:=g) rfl (.tmp 6) _ rfl rfl rfl t9.o ?_)
 generalize w9.setCells (w.heap.size+1) 0 (g.enc a c)=W9 at *
 exact gZ (lV nO _ W9 (w.heap.size+1) 47 _ (0,0) _ rfl b9.o mO rfl (by kernel_rfl)) rfl hQ.o
theorem rdr2b(H:LH Xb w w1 B lo aS aH aF aL cS cH cF cL M f aK cK b)(hp:f.l=2){j:Nat}(hj:f.u=(j:Int)+1)(hl:j<M.s.length){G:Fr}(HG:Qi (toF f (if lkK (Aa M j) f then 4 else 3)=G)):W71 t w w1 B b (RQ Xb w (Ac B aS aH aF aL) B lo aK cK M G):=by
 have ig:=H.ns
 have gy:=H.bl
 have jf:=H.nh
 obtain⟨f0,f1,f2,f3,f4,f5,f6,f7,f8,f9,ay,au,aj,ak,ff,fs⟩:=A8 H.e.o.fb
 obtain⟨q0,q1,q2,q3,q4,-,-,-,-,-,qs⟩:=Aj H.e.o.m.box
 rintro C rfl v1 v8 v9 v10 v11 v12 v13
 conv=>arg 2;whnf
 unfold X8
 rw[hp] at f6
 clear hp
 obtain⟨gS,hS,xs,x0,x1,x2,x3,x4,x5⟩:=H.e.o.Jd ig hl
 rw[hS] at q0
 have vF:(j:Int)<(M.s.length:Int):=by omega
 rw[hj] at f7
 have hI:decide (0<(j:Int)+1)=true:=by rw[decide_eq_true_iff];omega
 have yY:IntKind.i64.wrap ((j:Int)+1 - 1)=(j:Int):=by rw[nI];omega
 have BZ:dE ((j:Int)+1 - 1)=(j:Int):=by unfold dE;omega
 have zO:(j:Int)+1 - 1=(j:Int):=by omega
 have se:=LH.seq (Aa M j) f
 cases hk:lkK (Aa M j) f
 all_goals
  rw[hk] at se HG
  clear hk
  go_wp2_with (go_at_call 115;refine(Ef _ _ hI).mono ?_;rintro e w3 ⟨rfl,rfl⟩)
  go_quiet (fail)
  go_wp2_with fail
  have ai:Qi (Lk2 Xb w (w1.drewN nq) (Ac B aS aH aF aL) B lo M (f) aK cK):=(H.e.o.below (w2:=w1.drewN nq) ⟨rfl,rfl,rfl,aC _,fun _ _=>rfl⟩).two
  first|(go_at_call 122;refine(Dx 122 (.inr (.inr (.inl rfl))) _ ai.o HG.o H.r.o H.z.o).mono ?_)|(go_at_call 73;refine(Bz _ ai.o HG.o H.r.o H.z.o).mono ?_)
  rintro e w9 ⟨g,a,c,rfl,t9,b9,hQ⟩
  clear ai H HG f0 f1 f2 f3 f4 f5 f6 f7 f8 f9 ay au aj ak ff fs q0 q1 q2 q3 q4 qs
  go_wp2_with (refine Bl (f:=g) rfl (.tmp 6) _ rfl rfl rfl t9.o ?_)
  generalize w9.setCells (w.heap.size+1) 0 (g.enc a c)=W9 at *
  exact gZ (lV nO _ W9 (w.heap.size+1) 47 _ (0,0) _ rfl b9.o mO rfl (by kernel_rfl)) rfl hQ.o
theorem rdr3(H:LH Xb w w1 B lo aS aH aF aL cS cH cF cL M f aK cK b)(hp:f.l=3){j:Nat}(hj:f.u=(j:Int)+1)(hl:j<M.s.length){G:Fr}(HG:Qi (Ij f ((j:Int)+1) (Aa M j).next 2=G)):W71 t w w1 B b (RQ Xb w (Ac B aS aH aF aL) B lo aK cK M G):=by
 have ig:=H.ns
 have gy:=H.bl
 have jf:=H.nh
 obtain⟨f0,f1,f2,f3,f4,f5,f6,f7,f8,f9,ay,au,aj,ak,ff,fs⟩:=A8 H.e.o.fb
 obtain⟨q0,q1,q2,q3,q4,-,-,-,-,-,qs⟩:=Aj H.e.o.m.box
 rintro C rfl v1 v8 v9 v10 v11 v12 v13
 conv=>arg 2;whnf
 unfold X8
 rw[hp] at f6
 clear hp
 obtain⟨gS,hS,xs,x0,x1,x2,x3,x4,x5⟩:=H.e.o.Jd ig hl
 rw[hS] at q0
 have vF:(j:Int)<(M.s.length:Int):=by omega
 rw[hj] at f7
 have hI:decide (0<(j:Int)+1)=true:=by rw[decide_eq_true_iff];omega
 have yY:IntKind.i64.wrap ((j:Int)+1 - 1)=(j:Int):=by rw[nI];omega
 have BZ:dE ((j:Int)+1 - 1)=(j:Int):=by unfold dE;omega
 have zO:(j:Int)+1 - 1=(j:Int):=by omega
 go_wp2_with (go_at_call 115;refine(Ef _ _ hI).mono ?_;rintro e w3 ⟨rfl,rfl⟩)
 have yM:B<w.heap.size:=H.e.o.lt B (.inl rfl)
 have BF:gS<w.heap.size:=H.e.o.lt gS (.inr (.inl ⟨_,hS,rfl⟩))
 have yK:B≠w.heap.size:=by omega
 have yI:gS≠w.heap.size:=by omega
 have zq:w.heap.size≠B:=by omega
 have zh:w.heap.size≠gS:=by omega
 rename_i K0 qO
 apply Ey (R:=fun a=>∀ W2:Wq,Lk2 Xb w W2 (Ac B aS aH aF aL) B lo M ({ f with p:=(j:Int)+1,u:=(Aa M j).next }) aK cK->K0 a W2)
 ·intro gq
  have pg:Qi _:=gq
  clear gq
  go_region
  all_goals exact pg.o _ (((H.e.o.store 8 (O J ((j:Int)+1)) { f with p:=(j:Int)+1 } rfl).store 7 (O J (Aa M j).next) { f with p:=(j:Int)+1,u:=(Aa M j).next } rfl).two.below ⟨rfl,rfl,rfl,aC _,fun _ _=>rfl⟩)
 intro w2 h3
 have ai:Qi _:=h3
 refine qO _ _ ?_
 clear h3 qO yM BF yK yI zq zh x0 x1 x2 x3 x4 x5 xs f0 f1 f2 f3 f4 f5 f6 f7 f8 f9 ay au aj ak ff fs
 obtain⟨f0,f1,f2,f3,f4,f5,f6,f7,f8,f9,ay,au,aj,ak,ff,fs⟩:=A8 ai.o.fb
 go_wp2_with fail
 first|(go_at_call 122;refine(Dx 122 (.inr (.inr (.inl rfl))) _ ai.o HG.o H.r.o H.z.o).mono ?_)|(go_at_call 73;refine(Bz _ ai.o HG.o H.r.o H.z.o).mono ?_)
 rintro e w9 ⟨g,a,c,rfl,t9,b9,hQ⟩
 clear ai H HG f0 f1 f2 f3 f4 f5 f6 f7 f8 f9 ay au aj ak ff fs q0 q1 q2 q3 q4 qs
 go_wp2_with (refine Bl (f:=g) rfl (.tmp 6) _ rfl rfl rfl t9.o ?_)
 generalize w9.setCells (w.heap.size+1) 0 (g.enc a c)=W9 at *
 exact gZ (lV nO _ W9 (w.heap.size+1) 47 _ (0,0) _ rfl b9.o mO rfl (by kernel_rfl)) rfl hQ.o
theorem rdr4(H:LH Xb w w1 B lo aS aH aF aL cS cH cF cL M f aK cK b)(hp:f.l=4){j:Nat}(hj:f.u=(j:Int)+1)(hl:j<M.s.length){G:Fr}(HG:Qi ({ f with h:=(j:Int),e:=0,l:=5 } = G)):W71 t w w1 B b (RQ Xb w (Ac B aS aH aF aL) B lo aK cK (Ir M b f.p j) G):=by
 have ig:=H.ns
 have gy:=H.bl
 have jf:=H.nh
 obtain⟨f0,f1,f2,f3,f4,f5,f6,f7,f8,f9,ay,au,aj,ak,ff,fs⟩:=A8 H.e.o.fb
 obtain⟨q0,q1,q2,q3,q4,-,-,-,-,-,qs⟩:=Aj H.e.o.m.box
 rintro C rfl v1 v8 v9 v10 v11 v12 v13
 conv=>arg 2;whnf
 unfold X8
 rw[hp] at f6
 clear hp
 rw[hj] at f7
 have hI:decide (0<(j:Int)+1)=true:=by rw[decide_eq_true_iff];omega
 have yY:IntKind.i64.wrap ((j:Int)+1 - 1)=(j:Int):=by rw[nI];omega
 have BZ:dE ((j:Int)+1 - 1)=(j:Int):=by unfold dE;omega
 have zO:(j:Int)+1 - 1=(j:Int):=by omega
 have TZ:=H.fit.o.p
 go_wp2_with (go_at_call 115;refine(Ef _ _ hI).mono ?_;rintro e w3 ⟨rfl,rfl⟩)
 refine(Z8 ⟨_,_,_,_,_,_,_,_,H.e.o.m,fun _ h=>h⟩ H.ok.o hl gy TZ.1 TZ.2).mono ?_
 rintro e w2 ⟨rfl,ja,ik⟩
 have di:Qi _:=H.e.o.after ja ik
 clear ja ik f0 f1 f2 f3 f4 f5 f6 f7 f8 f9 ay au aj ak ff fs
 obtain⟨f0,f1,f2,f3,f4,f5,f6,f7,f8,f9,ay,au,aj,ak,ff,fs⟩:=A8 di.o.fb
 rw[hj] at f7
 have ai:Qi (Lk2 Xb w ((w2.setCell ⟨w.heap.size,9,none⟩ (O J (j:Int))).setCell ⟨w.heap.size,13,none⟩ (O J 0)) (Ac B aS aH aF aL) B lo (Ir M b f.p j) ({ f with h:=(j:Int),e:=0 }) aK cK):=(di.o.store 9 _ { f with h:=(j:Int) } rfl).store 13 _ _ rfl
 clear di
 go_wp2_with fail
 first|(go_at_call 122;refine(Dx 122 (.inr (.inr (.inl rfl))) _ ai.o HG.o H.r.o H.z.o).mono ?_)|(go_at_call 73;refine(Bz _ ai.o HG.o H.r.o H.z.o).mono ?_)
 rintro e w9 ⟨g,a,c,rfl,t9,b9,hQ⟩
 clear ai H HG f0 f1 f2 f3 f4 f5 f6 f7 f8 f9 ay au aj ak ff fs q0 q1 q2 q3 q4 qs
 go_wp2_with (refine Bl (f:=g) rfl (.tmp 6) _ rfl rfl rfl t9.o ?_)
 generalize w9.setCells (w.heap.size+1) 0 (g.enc a c)=W9 at *
 exact gZ (lV nO _ W9 (w.heap.size+1) 47 _ (0,0) _ rfl b9.o mO rfl (by kernel_rfl)) rfl hQ.o
theorem rdr5(H:LH Xb w w1 B lo aS aH aF aL cS cH cF cL M f aK cK b)(hp:f.l=5){G:Fr}(HG:Qi (toF f 6=G)):W71 t w w1 B b (RQ Xb w (Ac B aS aH aF aL) B lo aK cK (Nk M b t) G):=by
 have ig:=H.ns
 have gy:=H.bl
 have jf:=H.nh
 obtain⟨f0,f1,f2,f3,f4,f5,f6,f7,f8,f9,ay,au,aj,ak,ff,fs⟩:=A8 H.e.o.fb
 obtain⟨q0,q1,q2,q3,q4,-,-,-,-,-,qs⟩:=Aj H.e.o.m.box
 rintro C rfl v1 v8 v9 v10 v11 v12 v13
 conv=>arg 2;whnf
 unfold X8
 rw[hp] at f6
 clear hp
 go_wp2_with fail
 refine(O7 t ⟨_,_,_,_,_,_,_,_,H.e.o.m,fun _ h=>h⟩ H.ok.o gy).mono ?_
 rintro e w2 ⟨rfl,ja,ik⟩
 have di:Qi _:=H.e.o.after ja ik
 clear ja ik f0 f1 f2 f3 f4 f5 f6 f7 f8 f9 ay au aj ak ff fs
 obtain⟨f0,f1,f2,f3,f4,f5,f6,f7,f8,f9,ay,au,aj,ak,ff,fs⟩:=A8 di.o.fb
 have ai:=di
 clear di
 go_wp2_with fail
 first|(go_at_call 122;refine(Dx 122 (.inr (.inr (.inl rfl))) _ ai.o HG.o H.r.o H.z.o).mono ?_)|(go_at_call 73;refine(Bz _ ai.o HG.o H.r.o H.z.o).mono ?_)
 rintro e w9 ⟨g,a,c,rfl,t9,b9,hQ⟩
 clear ai H HG f0 f1 f2 f3 f4 f5 f6 f7 f8 f9 ay au aj ak ff fs q0 q1 q2 q3 q4 qs
 go_wp2_with (refine Bl (f:=g) rfl (.tmp 6) _ rfl rfl rfl t9.o ?_)
 generalize w9.setCells (w.heap.size+1) 0 (g.enc a c)=W9 at *
 exact gZ (lV nO _ W9 (w.heap.size+1) 47 _ (0,0) _ rfl b9.o mO rfl (by kernel_rfl)) rfl hQ.o
theorem rdr6(H:LH Xb w w1 B lo aS aH aF aL cS cH cF cL M f aK cK b)(hp:f.l=6){j:Nat}(hj:f.h=j)(hl:j<M.s.length){G:Fr}(HG:Qi (Ak { f with h:=-1 } f.e=G)):W71 t w w1 B b (RQ Xb w (Ac B aS aH aF aL) B lo aK cK (Ff M j) G):=by
 have ig:=H.ns
 have gy:=H.bl
 have jf:=H.nh
 obtain⟨f0,f1,f2,f3,f4,f5,f6,f7,f8,f9,ay,au,aj,ak,ff,fs⟩:=A8 H.e.o.fb
 obtain⟨q0,q1,q2,q3,q4,-,-,-,-,-,qs⟩:=Aj H.e.o.m.box
 rintro C rfl v1 v8 v9 v10 v11 v12 v13
 conv=>arg 2;whnf
 unfold X8
 rw[hp] at f6
 clear hp
 rw[hj] at f9
 have AU:¬ (j:Int)=-1:=by omega
 have hS:Dp M (j:Int)=true:=Ez.2 (by omega)
 go_wp2_with fail
 refine(Nl ⟨_,_,_,_,_,_,_,_,H.e.o.m,fun _ h=>h⟩ H.ok.o hS).mono ?_
 rintro e w2 ⟨rfl,ja,ik⟩
 have di:Qi _:=H.e.o.after ja ik
 clear ja ik f0 f1 f2 f3 f4 f5 f6 f7 f8 f9 ay au aj ak ff fs
 obtain⟨f0,f1,f2,f3,f4,f5,f6,f7,f8,f9,ay,au,aj,ak,ff,fs⟩:=A8 di.o.fb
 have ai:Qi (Lk2 Xb w (w2.setCell ⟨w.heap.size,9,none⟩ (O J (-1))) (Ac B aS aH aF aL) B lo (Ff M j) ({ f with h:=-1 }) aK cK):=di.o.store 9 _ _ rfl
 clear di
 go_wp2_with fail
 first|(go_at_call 122;refine(Dx 122 (.inr (.inr (.inl rfl))) _ ai.o HG.o H.r.o H.z.o).mono ?_)|(go_at_call 73;refine(Bz _ ai.o HG.o H.r.o H.z.o).mono ?_)
 rintro e w9 ⟨g,a,c,rfl,t9,b9,hQ⟩
 clear ai H HG f0 f1 f2 f3 f4 f5 f6 f7 f8 f9 ay au aj ak ff fs q0 q1 q2 q3 q4 qs
 go_wp2_with (refine Bl (f:=g) rfl (.tmp 6) _ rfl rfl rfl t9.o ?_)
 generalize w9.setCells (w.heap.size+1) 0 (g.enc a c)=W9 at *
 exact gZ (lV nO _ W9 (w.heap.size+1) 47 _ (0,0) _ rfl b9.o mO rfl (by kernel_rfl)) rfl hQ.o
theorem rdr6b(H:LH Xb w w1 B lo aS aH aF aL cS cH cF cL M f aK cK b)(hp:f.l=6)(hs:f.h=-1){G:Fr}(HG:Qi (Ak { f with h:=-1 } f.e=G)):W71 t w w1 B b (RQ Xb w (Ac B aS aH aF aL) B lo aK cK M G):=by
 have ig:=H.ns
 have gy:=H.bl
 have jf:=H.nh
 obtain⟨f0,f1,f2,f3,f4,f5,f6,f7,f8,f9,ay,au,aj,ak,ff,fs⟩:=A8 H.e.o.fb
 obtain⟨q0,q1,q2,q3,q4,-,-,-,-,-,qs⟩:=Aj H.e.o.m.box
 rintro C rfl v1 v8 v9 v10 v11 v12 v13
 conv=>arg 2;whnf
 unfold X8
 rw[hp] at f6
 rw[hs] at f9
 have HF:Qi ({ f with h:=-1,l:=6 } = { f with h:=-1 }):=by cases f;simp_all [Qi]
 clear hp hs
 have ai:Qi (Lk2 Xb w (w1.setCell ⟨w.heap.size,9,none⟩ (O J (-1))) (Ac B aS aH aF aL) B lo M ({ f with h:=-1,l:=6 }) aK cK):=HF.o.symm ▸ H.e.o.two.store 9 (O J (-1)) { f with h:=-1 } rfl
 rw[<- HF.o] at HG
 clear HF
 go_wp2_with fail
 first|(go_at_call 122;refine(Dx 122 (.inr (.inr (.inl rfl))) _ ai.o HG.o H.r.o H.z.o).mono ?_)|(go_at_call 73;refine(Bz _ ai.o HG.o H.r.o H.z.o).mono ?_)
 rintro e w9 ⟨g,a,c,rfl,t9,b9,hQ⟩
 clear ai H HG f0 f1 f2 f3 f4 f5 f6 f7 f8 f9 ay au aj ak ff fs q0 q1 q2 q3 q4 qs
 go_wp2_with (refine Bl (f:=g) rfl (.tmp 6) _ rfl rfl rfl t9.o ?_)
 generalize w9.setCells (w.heap.size+1) 0 (g.enc a c)=W9 at *
 exact gZ (lV nO _ W9 (w.heap.size+1) 47 _ (0,0) _ rfl b9.o mO rfl (by kernel_rfl)) rfl hQ.o
theorem b6s(H:LH Xb w w1 B lo aS aH aF aL cS cH cF cL M f aK cK b)(EJ:(f.l=3\/f.l=4)/\f.u<=0\/7<=f.l){G:Fr}(HG:Qi (Ec f 8 5=G)):W71 t w w1 B b (RQ Xb w (Ac B aS aH aF aL) B lo aK cK M G):=by
 have ig:=H.ns
 have gy:=H.bl
 have jf:=H.nh
 obtain⟨f0,f1,f2,f3,f4,f5,f6,f7,f8,f9,ay,au,aj,ak,ff,fs⟩:=A8 H.e.o.fb
 obtain⟨q0,q1,q2,q3,q4,-,-,-,-,-,qs⟩:=Aj H.e.o.m.box
 rintro C rfl v1 v8 v9 v10 v11 v12 v13
 conv=>arg 2;whnf
 unfold X8
 have ai:Qi (Lk2 Xb w (w1.setCell ⟨w.heap.size,13,none⟩ (O J 8)) (Ac B aS aH aF aL) B lo M ({ f with e:=8 }) aK cK):=H.e.o.two.store 13 _ _ rfl
 have hA:∀ n:Int,n<7->7<=f.l->(f.l==n)=false:=fun n h h'=>by rw[beq_eq_false_iff_ne];omega
 rcases EJ with ⟨hp|hp,hc⟩|hp
 all_goals
  first
  | rw[hp] at f6
    try have hI:decide (0<f.u)=false:=by rw[decide_eq_false_iff_not];omega
    try have AU:¬ f.h ≥ 0:=by omega
  | have p0:=hA 0 (by decide) hp
    have p1:=hA 1 (by decide) hp
    have p2:=hA 2 (by decide) hp
    have p3:=hA 3 (by decide) hp
    have p4:=hA 4 (by decide) hp
    have p5:=hA 5 (by decide) hp
    have p6:=hA 6 (by decide) hp
  clear hA
  go_wp2_with (go_at_call 115;refine(Ef _ _ (by assumption)).mono ?_;rintro e w3 ⟨rfl,rfl⟩)
  first|(go_at_call 122;refine(Dx 122 (.inr (.inr (.inl rfl))) _ ai.o HG.o H.r.o H.z.o).mono ?_)|(go_at_call 73;refine(Bz _ ai.o HG.o H.r.o H.z.o).mono ?_)
  rintro e w9 ⟨g,a,c,rfl,t9,b9,hQ⟩
  clear ai H HG f0 f1 f2 f3 f4 f5 f6 f7 f8 f9 ay au aj ak ff fs q0 q1 q2 q3 q4 qs
  go_wp2_with (refine Bl (f:=g) rfl (.tmp 6) _ rfl rfl rfl t9.o ?_)
  generalize w9.setCells (w.heap.size+1) 0 (g.enc a c)=W9 at *
  exact gZ (lV nO _ W9 (w.heap.size+1) 47 _ (0,0) _ rfl b9.o mO rfl (by kernel_rfl)) rfl hQ.o
end
end
end Go.Proofs.YthhgoenomehobaaGreat.mm
