/- Parts. -/
import Derived.Test.YthhgoenomehobaaGreatP25
import Derived.Test.YthhgoenomehobaaGreatP21
namespace Go.Proofs.YthhgoenomehobaaGreat.mm
open IntKind renaming wrap_i64 → nI, i64 → J
open Tryz renaming underlying47 → mO, results74 → oJ, prog → Pg
open Nat renaming le_refl → aC
open Go renaming cell_regrown → fO, results_cell_row → lV, bodyPost_ret → gZ, undef → Uz, World → Wq
open Tryz
set_option maxRecDepth 100000
set_option linter.unusedVariables false
open Value renaming int → O, slice → Y
open ChangeShapes WideShapes ChangeAt RowKit Joins Deep Go.Sort
set_option maxHeartbeats 0
variable (t:Int)
section
variable {Xb:Ex}
def X9(t:Int)(B H b:Nat)(v1 v10 v11 v12 v13 zK xY:Value):Act:=⟨#[.pointer (some ⟨B,0,none⟩),v1,O J t,Uz,.pointer (some ⟨H,0,none⟩),Uz,.pointer (some ⟨H+1,0,none⟩),O J (b:Int),Uz,Uz,v10,v11,v12,v13,zK,xY,Uz,Uz,Uz,Uz,Uz,Uz,Uz,Uz,Uz,Uz,Uz,Uz,Uz,Uz,Uz,Uz,Uz,Uz,Uz,Uz,Uz,Uz,Uz,Uz,Uz,Uz,Uz,Uz,Uz,Uz,Uz,Uz,Uz,Uz,Uz,Uz,Uz,Uz,Uz,Uz,Uz,Uz,Uz,Uz,Uz,Uz,Uz,Uz,Uz,Uz,Uz,Uz,Uz,Uz,Uz,Uz,Uz,Uz,Uz,Uz,Uz,Uz,Uz,Uz,Uz,Uz,Uz,Uz,Uz,Uz,Uz,Uz,Uz,Uz,Uz,Uz,Uz,Uz,Uz,Uz,Uz,Uz,Uz,Uz,Uz,Uz,Uz,Uz,Uz,Uz,Uz,Uz,Uz,Uz,Uz,Uz,Uz,Uz,Uz,Uz,Uz,Uz,Uz,Uz,Uz,Uz,Uz,Uz,Uz,Uz,Uz,Uz,Uz,Uz,Uz,Uz,Uz,Uz,Uz,Uz,Uz,Uz,Uz,Uz,Uz,Uz,Uz,Uz,Uz,Uz,Uz,Uz,Uz,Uz,Uz,Uz,Uz,Uz,Uz,Uz,Uz,Uz,Uz,Uz,Uz,Uz,Uz,Uz,Uz,Uz,Uz,Uz,Uz,Uz,Uz,Uz,Uz,Uz,Uz,Uz,Uz,Uz,Uz,Uz,Uz,Uz,Uz,Uz,Uz,Uz,Uz,Uz,Uz,Uz],[]⟩
def W74(t:Int)(w w1:Wq)(B b:Nat)(R:Ending->Wq->Prop):Prop :=
 ∀ C,C=a0u (a0u (Tryz.f74.body.getD .skip))->∀ v1 v10 v11 v12 v13 zK xY,Code.wp Pg C (bodyPost Pg Tryz.f74 R) (X9 t B w.heap.size b v1 v10 v11 v12 v13 zK xY) w1
theorem b1v(M:Mm)(f:Fr)(B lo:Nat)(aS aH aF aL:Option Addr)(cS cH cF cL:Nat)(aK:Option Addr)(cK:Nat)(w:Wq)(m:Mine Xb w B lo aS aH aF aL cS cH cF cL M)(hM:Ok M)(hf:Fit M f)(r:Az w aK cK f.t)(hz:∀ ad,aK=some ad->¬ Ac B aS aH aF aL ad.block){R:Ending->Wq->Prop}(HR:Qi (∀ (w1:Wq) (b:Nat),LH Xb w w1 B lo aS aH aF aL cS cH cF cL M f aK cK b->W74 t w w1 B b R)) :
  Calls Pg 74 #[Ae B,Ai f aK cK,O J t] w R:=by
 unfold Ae Ai
 have ig:=hM.ns
 have jf:=hM.nh
 obtain⟨b0,b1⟩:0<=Fz M.h.length f.c/\Fz M.h.length f.c<M.h.length:=Ia hM hf.call
 obtain⟨b,hb⟩:∃ b:Nat,Fz M.h.length f.c=b:=⟨_,(Int.toNat_of_nonneg b0).symm⟩
 have gy:b<M.h.length:=by omega
 have ve:Qi (∀ W:Wq,Calls Pg 113 #[Cm aS aH aF aL cS cH cF cL M,Gj f.c] W fun e w'=>e=.returned (O J (b:Int))/\Below W.heap.size W w'):=fun W=>hb ▸ Ib aS aH aF aL _ _ _ _ cS cH cF cL M.w f.c W (by omega)
 obtain⟨of,df⟩:=frObj f aK cK
 obtain⟨oz,bi⟩:∃ o:Obj,o=Ah:=⟨_,rfl⟩
 have HE:Qi (Lk Xb w ((w.alloc of).alloc oz) B lo aS aH aF aL cS cH cF cL M f aK cK):=Lk.first m f aK cK df bi
 have HL:Qi (∀ w1,Lk Xb w w1 B lo aS aH aF aL cS cH cF cL M f aK cK->W74 t w w1 B b R):=fun w1 h=>HR.o w1 b ⟨h,r,hz,hM,hf,gy,hb,ig,jf.2⟩
 obtain⟨f0,f1,f2,f3,f4,f5,f6,f7,f8,f9,ay,au,aj,ak,ff,fs⟩:=A8 HE.o.fb
 obtain⟨q0,q1,q2,q3,q4,-,-,-,-,-,qs⟩:=Aj HE.o.m.box
 unfold Ah at bi
 clear m ig jf hM hf r hz b0 b1 hb gy HR
 go_enter func74,ntmps74
 go_wp2_with fail
 rw[<- df,<- bi]
 generalize (w.alloc of).alloc oz=W0 at *
 subst df bi
 have cB:∀ (d:Nat) (os:Array Obj),Calls Pg 113 #[Cm aS aH aF aL cS cH cF cL M,Gj f.c] (grow (redrawn W0 d) os) fun e uh=>e=.returned (O J (b:Int))/\∃ p:Regrown,uh=grow (redrawn W0 p.d) p.os:=fun d os=>Calls.regrown_of (ve.o _)
 have Q0:=fO q0;have Q1:=fO q1;have Q2:=fO q2;have Q3:=fO q3;have Q4:=fO q4
 have F0:=fO f0;have F1:=fO f1;have F2:=fO f2;have F3:=fO f3;have F4:=fO f4;have F5:=fO f5
 clear q0 q1 q2 q3 q4 qs f0 f1 f2 f3 f4 f5 f6 f7 f8 f9 ay au aj ak ff fs
 refine wp_region_quiet_below (by kernel_rfl) (by kernel_rfl) ?_
 repeat (quiet_step (first|exact cB _ _))
 refine wpQuiet_nil ?_
 intro _ rq
 obtain⟨⟨dq,rD⟩,ql⟩:=rq
 subst ql
 rename_i K hK
 exact hK _ _ (HL.o _ (HE.o.below (below_regrown W0 dq rD)) _ (by kernel_rfl) _ _ _ _ _ _ _)
end
section
variable {Xb:Ex}
section
variable {w w1:Wq} {B lo:Nat} {aS aH aF aL:Option Addr} {cS cH cF cL:Nat} {M:Mm} {f:Fr} {aK:Option Addr} {cK b:Nat}
theorem rsw0(H:LH Xb w w1 B lo aS aH aF aL cS cH cF cL M f aK cK b)(hp:f.l=0){G:Fr}(HG:Qi ((if D6 M b=-1 then toF f 1 else f)=G)):W74 t w w1 B b (RQ Xb w (Ac B aS aH aF aL) B lo aK cK (Nj M b t) G):=by
 have ig:=H.ns
 have gy:=H.bl
 have jf:=H.nh
 obtain⟨f0,f1,f2,f3,f4,f5,f6,f7,f8,f9,ay,au,aj,ak,ff,fs⟩:=A8 H.e.o.fb
 obtain⟨q0,q1,q2,q3,q4,-,-,-,-,-,qs⟩:=Aj H.e.o.m.box
 rintro C rfl v1 v8 v9 v10 v11 v12 v13
 conv=>arg 2;whnf
 unfold X9
 rw[hp] at f6
 clear hp
 go_wp2_with fail
 refine(Rq t ⟨_,_,_,_,_,_,_,_,H.e.o.m,fun _ h=>h⟩ H.ok.o gy).mono ?_
 rintro e w2 ⟨rfl,ja,ik⟩
 have di:Qi _:=H.e.o.after ja ik
 clear ja ik f0 f1 f2 f3 f4 f5 f6 f7 f8 f9 ay au aj ak ff fs
 obtain⟨f0,f1,f2,f3,f4,f5,f6,f7,f8,f9,ay,au,aj,ak,ff,fs⟩:=A8 di.o.fb
 have ai:=di
 clear di
 cases hq:(D6 M b == -1)
 ·have h:¬ D6 M b=-1:=by simpa using hq
  rw[ae h] at HG
  clear h hq
  have hG:=HG.o
  clear HG
  subst hG
  obtain⟨l9,t9,b9,hQ⟩:=Vq ai.o H.r.o H.z.o
  clear ai H f0 f1 f2 f3 f4 f5 f6 f7 f8 f9 ay au aj ak ff fs q0 q1 q2 q3 q4 qs
  go_wp2_with (first|(have h9:=l9.o;refine Xy rfl (.tmp 4) rfl rfl h9 ?_;clear h9 l9)|refine Bl (f:=f) rfl (.tmp 6) _ rfl rfl rfl t9.o ?_)
  generalize World.setCells _ (w.heap.size+1) 0 (f.enc aK cK)=W9 at *
  exact gZ (lV oJ _ W9 (w.heap.size+1) 47 _ (0,0) _ rfl b9.o mO rfl (by kernel_rfl)) rfl hQ.o
 ·have h:D6 M b=-1:=by simpa using hq
  rw[af h] at HG
  clear h hq
  go_wp2_with fail
  first|(go_at_call 124;refine(Dx 124 (.inr (.inr (.inr rfl))) _ ai.o HG.o H.r.o H.z.o).mono ?_)|(go_at_call 73;refine(Bz _ ai.o HG.o H.r.o H.z.o).mono ?_)
  rintro e w9 ⟨g,a,c,rfl,t9,b9,hQ⟩
  clear ai H HG f0 f1 f2 f3 f4 f5 f6 f7 f8 f9 ay au aj ak ff fs q0 q1 q2 q3 q4 qs
  go_wp2_with (refine Bl (f:=g) rfl (.tmp 6) _ rfl rfl rfl t9.o ?_)
  generalize w9.setCells (w.heap.size+1) 0 (g.enc a c)=W9 at *
  exact gZ (lV oJ _ W9 (w.heap.size+1) 47 _ (0,0) _ rfl b9.o mO rfl (by kernel_rfl)) rfl hQ.o
theorem rsw1(H:LH Xb w w1 B lo aS aH aF aL cS cH cF cL M f aK cK b)(hp:f.l=1){G:Fr}(HG:Qi (Ij f 0 (Bq M b) 2=G)):W74 t w w1 B b (RQ Xb w (Ac B aS aH aF aL) B lo aK cK M G):=by
 have ig:=H.ns
 have gy:=H.bl
 have jf:=H.nh
 obtain⟨f0,f1,f2,f3,f4,f5,f6,f7,f8,f9,ay,au,aj,ak,ff,fs⟩:=A8 H.e.o.fb
 obtain⟨q0,q1,q2,q3,q4,-,-,-,-,-,qs⟩:=Aj H.e.o.m.box
 rintro C rfl v1 v8 v9 v10 v11 v12 v13
 conv=>arg 2;whnf
 unfold X9
 rw[hp] at f6
 clear hp
 obtain⟨gH,hH,hc⟩:=H.head
 rw[hH] at q1
 go_wp2_with fail
 have yM:B<w.heap.size:=H.e.o.lt B (.inl rfl)
 have BF:gH<w.heap.size:=H.e.o.lt gH (.inr (.inr (.inl ⟨_,hH,rfl⟩)))
 have yK:B≠w.heap.size:=by omega
 have yI:gH≠w.heap.size:=by omega
 have zq:w.heap.size≠B:=by omega
 have zh:w.heap.size≠gH:=by omega
 rename_i K0 qO
 apply Ey (R:=fun a=>∀ W2:Wq,Lk2 Xb w W2 (Ac B aS aH aF aL) B lo M ({ f with p:=0,u:=Bq M b }) aK cK->K0 a W2)
 ·intro gq
  have pg:Qi _:=gq
  clear gq
  go_region
  all_goals exact pg.o _ (((H.e.o.store 8 (O J 0) { f with p:=0 } rfl).store 7 (O J (Bq M b)) { f with p:=0,u:=Bq M b } rfl).two.below ⟨rfl,rfl,rfl,aC _,fun _ _=>rfl⟩)
 intro w2 h3
 have ai:Qi _:=h3
 refine qO _ _ ?_
 clear h3 qO yM BF yK yI zq zh f0 f1 f2 f3 f4 f5 f6 f7 f8 f9 ay au aj ak ff fs
 obtain⟨f0,f1,f2,f3,f4,f5,f6,f7,f8,f9,ay,au,aj,ak,ff,fs⟩:=A8 ai.o.fb
 go_wp2_with fail
 first|(go_at_call 124;refine(Dx 124 (.inr (.inr (.inr rfl))) _ ai.o HG.o H.r.o H.z.o).mono ?_)|(go_at_call 73;refine(Bz _ ai.o HG.o H.r.o H.z.o).mono ?_)
 rintro e w9 ⟨g,a,c,rfl,t9,b9,hQ⟩
 clear ai H HG f0 f1 f2 f3 f4 f5 f6 f7 f8 f9 ay au aj ak ff fs q0 q1 q2 q3 q4 qs
 go_wp2_with (refine Bl (f:=g) rfl (.tmp 6) _ rfl rfl rfl t9.o ?_)
 generalize w9.setCells (w.heap.size+1) 0 (g.enc a c)=W9 at *
 exact gZ (lV oJ _ W9 (w.heap.size+1) 47 _ (0,0) _ rfl b9.o mO rfl (by kernel_rfl)) rfl hQ.o
theorem rsw2(H:LH Xb w w1 B lo aS aH aF aL cS cH cF cL M f aK cK b)(hp:f.l=2)(hc:f.u<=0){G:Fr}(HG:Qi (toF f 6=G)):W74 t w w1 B b (RQ Xb w (Ac B aS aH aF aL) B lo aK cK M G):=by
 have ig:=H.ns
 have gy:=H.bl
 have jf:=H.nh
 obtain⟨f0,f1,f2,f3,f4,f5,f6,f7,f8,f9,ay,au,aj,ak,ff,fs⟩:=A8 H.e.o.fb
 obtain⟨q0,q1,q2,q3,q4,-,-,-,-,-,qs⟩:=Aj H.e.o.m.box
 rintro C rfl v1 v8 v9 v10 v11 v12 v13
 conv=>arg 2;whnf
 unfold X9
 rw[hp] at f6
 clear hp
 have hI:decide (0<f.u)=false:=by rw[decide_eq_false_iff_not];omega
 have ai:Qi (Lk2 Xb w (w1) (Ac B aS aH aF aL) B lo M (f) aK cK):=H.e.o.two
 go_wp2_with (go_at_call 115;refine(Ef _ _ hI).mono ?_;rintro e w3 ⟨rfl,rfl⟩)
 first|(go_at_call 124;refine(Dx 124 (.inr (.inr (.inr rfl))) _ ai.o HG.o H.r.o H.z.o).mono ?_)|(go_at_call 73;refine(Bz _ ai.o HG.o H.r.o H.z.o).mono ?_)
 rintro e w9 ⟨g,a,c,rfl,t9,b9,hQ⟩
 clear ai H HG f0 f1 f2 f3 f4 f5 f6 f7 f8 f9 ay au aj ak ff fs q0 q1 q2 q3 q4 qs
 go_wp2_with (refine Bl (f:=g) rfl (.tmp 6) _ rfl rfl rfl t9.o ?_)
 generalize w9.setCells (w.heap.size+1) 0 (g.enc a c)=W9 at *
 exact gZ (lV oJ _ W9 (w.heap.size+1) 47 _ (0,0) _ rfl b9.o mO rfl (by kernel_rfl)) rfl hQ.o
theorem rsw2b(H:LH Xb w w1 B lo aS aH aF aL cS cH cF cL M f aK cK b)(hp:f.l=2){j:Nat}(hj:f.u=(j:Int)+1)(hl:j<M.s.length)(h5:(f.c.k==5)=true)(ut:¬ ((f.t.length:Int)<100)){G:Fr}(HG:Qi (toF f 3=G)):W74 t w w1 B b (RQ Xb w (Ac B aS aH aF aL) B lo aK cK M G):=by
 have ig:=H.ns
 have gy:=H.bl
 have jf:=H.nh
 obtain⟨f0,f1,f2,f3,f4,f5,f6,f7,f8,f9,ay,au,aj,ak,ff,fs⟩:=A8 H.e.o.fb
 obtain⟨q0,q1,q2,q3,q4,-,-,-,-,-,qs⟩:=Aj H.e.o.m.box
 rintro C rfl v1 v8 v9 v10 v11 v12 v13
 conv=>arg 2;whnf
 unfold X9
 rw[hp] at f6
 clear hp
 obtain⟨gS,hS,xs,x0,x1,x2,x3,x4,x5⟩:=H.e.o.Jd ig hl
 rw[hS] at q0
 have vF:(j:Int)<(M.s.length:Int):=by omega
 rw[hj] at f7
 have hI:decide (0<(j:Int)+1)=true:=by rw[decide_eq_true_iff];omega
 have yY:IntKind.i64.wrap ((j:Int)+1 - 1)=(j:Int):=by rw[nI];omega
 have BZ:wrap64 ((j:Int)+1 - 1)=(j:Int):=by unfold wrap64;omega
 have zO:(j:Int)+1 - 1=(j:Int):=by omega
 have JF:f.t.length<=100:=H.fit.o.t
 have gu:=A7 w1 (.cells #[O J (Aa M j).refs,O J (Aa M j).a,O J (Aa M j).b,O J (Aa M j).unt,.bool (Aa M j).inn,O J (Aa M j).next] 64)
 have tH:Qi _:=gu
 clear gu
 go_wp2_with (go_at_call 115;refine(Ef _ _ hI).mono ?_;rintro e w3 ⟨rfl,rfl⟩)
 go_region
 all_goals
  have ai:Qi _:=(H.e.o.below tH.o).two.below (w2:=(w1.alloc _).drew) ⟨rfl,rfl,rfl,aC _,fun _ _=>rfl⟩
  clear tH
  go_wp2_with fail
  first|(go_at_call 124;refine(Dx 124 (.inr (.inr (.inr rfl))) _ ai.o HG.o H.r.o H.z.o).mono ?_)|(go_at_call 73;refine(Bz _ ai.o HG.o H.r.o H.z.o).mono ?_)
  rintro e w9 ⟨g,a,c,rfl,t9,b9,hQ⟩
  clear ai H HG f0 f1 f2 f3 f4 f5 f6 f7 f8 f9 ay au aj ak ff fs q0 q1 q2 q3 q4 qs
  go_wp2_with (refine Bl (f:=g) rfl (.tmp 6) _ rfl rfl rfl t9.o ?_)
  generalize w9.setCells (w.heap.size+1) 0 (g.enc a c)=W9 at *
  exact gZ (lV oJ _ W9 (w.heap.size+1) 47 _ (0,0) _ rfl b9.o mO rfl (by kernel_rfl)) rfl hQ.o
theorem rsw2c(H:LH Xb w w1 B lo aS aH aF aL cS cH cF cL M f aK cK b)(hp:f.l=2){j:Nat}(hj:f.u=(j:Int)+1)(hl:j<M.s.length)(h5:(f.c.k==5)=false){G:Fr}(HG:Qi (toF f (if M.w<(Aa M j).unt then 3 else 4)=G)):W74 t w w1 B b (RQ Xb w (Ac B aS aH aF aL) B lo aK cK M G):=by
 have ig:=H.ns
 have gy:=H.bl
 have jf:=H.nh
 obtain⟨f0,f1,f2,f3,f4,f5,f6,f7,f8,f9,ay,au,aj,ak,ff,fs⟩:=A8 H.e.o.fb
 obtain⟨q0,q1,q2,q3,q4,-,-,-,-,-,qs⟩:=Aj H.e.o.m.box
 rintro C rfl v1 v8 v9 v10 v11 v12 v13
 conv=>arg 2;whnf
 unfold X9
 rw[hp] at f6
 clear hp
 obtain⟨gS,hS,xs,x0,x1,x2,x3,x4,x5⟩:=H.e.o.Jd ig hl
 rw[hS] at q0
 have vF:(j:Int)<(M.s.length:Int):=by omega
 rw[hj] at f7
 have hI:decide (0<(j:Int)+1)=true:=by rw[decide_eq_true_iff];omega
 have yY:IntKind.i64.wrap ((j:Int)+1 - 1)=(j:Int):=by rw[nI];omega
 have BZ:wrap64 ((j:Int)+1 - 1)=(j:Int):=by unfold wrap64;omega
 have zO:(j:Int)+1 - 1=(j:Int):=by omega
 have gu:=A7 w1 (.cells #[O J (Aa M j).refs,O J (Aa M j).a,O J (Aa M j).b,O J (Aa M j).unt,.bool (Aa M j).inn,O J (Aa M j).next] 64)
 have tH:Qi _:=gu
 clear gu
 have hq:M.w<(Aa M j).unt/\decide (M.w<(Aa M j).unt)=true\/¬ M.w<(Aa M j).unt/\decide (M.w<(Aa M j).unt)=false:=by
  by_cases h:M.w<(Aa M j).unt <;> simp[h]
 rcases hq with ⟨h,hq⟩|⟨h,hq⟩
 all_goals
  first|rw[af h] at HG|rw[ae h] at HG
  go_wp2_with (go_at_call 115;refine(Ef _ _ hI).mono ?_;rintro e w3 ⟨rfl,rfl⟩)
  go_region
  go_wp2_with fail
  go_quiet (fail)
  have ai:Qi _:=(H.e.o.below tH.o).two.below (w2:=(w1.alloc _).drewN (1+nq)) ⟨rfl,rfl,rfl,aC _,fun _ _=>rfl⟩
  clear tH h
  go_wp2_with fail
  first|(go_at_call 124;refine(Dx 124 (.inr (.inr (.inr rfl))) _ ai.o HG.o H.r.o H.z.o).mono ?_)|(go_at_call 73;refine(Bz _ ai.o HG.o H.r.o H.z.o).mono ?_)
  rintro e w9 ⟨g,a,c,rfl,t9,b9,hQ⟩
  clear ai H HG f0 f1 f2 f3 f4 f5 f6 f7 f8 f9 ay au aj ak ff fs q0 q1 q2 q3 q4 qs
  go_wp2_with (refine Bl (f:=g) rfl (.tmp 6) _ rfl rfl rfl t9.o ?_)
  generalize w9.setCells (w.heap.size+1) 0 (g.enc a c)=W9 at *
  exact gZ (lV oJ _ W9 (w.heap.size+1) 47 _ (0,0) _ rfl b9.o mO rfl (by kernel_rfl)) rfl hQ.o
theorem rsw3(H:LH Xb w w1 B lo aS aH aF aL cS cH cF cL M f aK cK b)(hp:f.l=3){j:Nat}(hj:f.u=(j:Int)+1)(hl:j<M.s.length){G:Fr}(HG:Qi (Ij f ((j:Int)+1) (Aa M j).next 2=G)):W74 t w w1 B b (RQ Xb w (Ac B aS aH aF aL) B lo aK cK M G):=by
 have ig:=H.ns
 have gy:=H.bl
 have jf:=H.nh
 obtain⟨f0,f1,f2,f3,f4,f5,f6,f7,f8,f9,ay,au,aj,ak,ff,fs⟩:=A8 H.e.o.fb
 obtain⟨q0,q1,q2,q3,q4,-,-,-,-,-,qs⟩:=Aj H.e.o.m.box
 rintro C rfl v1 v8 v9 v10 v11 v12 v13
 conv=>arg 2;whnf
 unfold X9
 rw[hp] at f6
 clear hp
 obtain⟨gS,hS,xs,x0,x1,x2,x3,x4,x5⟩:=H.e.o.Jd ig hl
 rw[hS] at q0
 have vF:(j:Int)<(M.s.length:Int):=by omega
 rw[hj] at f7
 have hI:decide (0<(j:Int)+1)=true:=by rw[decide_eq_true_iff];omega
 have yY:IntKind.i64.wrap ((j:Int)+1 - 1)=(j:Int):=by rw[nI];omega
 have BZ:wrap64 ((j:Int)+1 - 1)=(j:Int):=by unfold wrap64;omega
 have zO:(j:Int)+1 - 1=(j:Int):=by omega
 go_wp2_with (go_at_call 115;refine(Ef _ _ hI).mono ?_;rintro e w3 ⟨rfl,rfl⟩)
 have yM:B<w.heap.size:=H.e.o.lt B (.inl rfl)
 have BF:gS<w.heap.size:=H.e.o.lt gS (.inr (.inl ⟨_,hS,rfl⟩))
 have yK:B≠w.heap.size:=by omega
 have yI:gS≠w.heap.size:=by omega
 have zq:w.heap.size≠B:=by omega
 have zh:w.heap.size≠gS:=by omega
 rename_i K0 qO
 apply Ey (R:=fun a=>∀ W2:Wq,Lk2 Xb w W2 (Ac B aS aH aF aL) B lo M ({ f with p:=(j:Int)+1,u:=(Aa M j).next }) aK cK->K0 a W2)
 ·intro gq
  have pg:Qi _:=gq
  clear gq
  go_region
  all_goals exact pg.o _ (((H.e.o.store 8 (O J ((j:Int)+1)) { f with p:=(j:Int)+1 } rfl).store 7 (O J (Aa M j).next) { f with p:=(j:Int)+1,u:=(Aa M j).next } rfl).two.below ⟨rfl,rfl,rfl,aC _,fun _ _=>rfl⟩)
 intro w2 h3
 have ai:Qi _:=h3
 refine qO _ _ ?_
 clear h3 qO yM BF yK yI zq zh x0 x1 x2 x3 x4 x5 xs f0 f1 f2 f3 f4 f5 f6 f7 f8 f9 ay au aj ak ff fs
 obtain⟨f0,f1,f2,f3,f4,f5,f6,f7,f8,f9,ay,au,aj,ak,ff,fs⟩:=A8 ai.o.fb
 go_wp2_with fail
 first|(go_at_call 124;refine(Dx 124 (.inr (.inr (.inr rfl))) _ ai.o HG.o H.r.o H.z.o).mono ?_)|(go_at_call 73;refine(Bz _ ai.o HG.o H.r.o H.z.o).mono ?_)
 rintro e w9 ⟨g,a,c,rfl,t9,b9,hQ⟩
 clear ai H HG f0 f1 f2 f3 f4 f5 f6 f7 f8 f9 ay au aj ak ff fs q0 q1 q2 q3 q4 qs
 go_wp2_with (refine Bl (f:=g) rfl (.tmp 6) _ rfl rfl rfl t9.o ?_)
 generalize w9.setCells (w.heap.size+1) 0 (g.enc a c)=W9 at *
 exact gZ (lV oJ _ W9 (w.heap.size+1) 47 _ (0,0) _ rfl b9.o mO rfl (by kernel_rfl)) rfl hQ.o
theorem rsw4(H:LH Xb w w1 B lo aS aH aF aL cS cH cF cL M f aK cK b)(hp:f.l=4){j:Nat}(hj:f.u=(j:Int)+1)(hl:j<M.s.length){G:Fr}(HG:Qi ({ f with h:=(j:Int),u:=(Aa M j).next,l:=5 } = G)):W74 t w w1 B b (RQ Xb w (Ac B aS aH aF aL) B lo aK cK (Ir M b f.p j) G):=by
 have ig:=H.ns
 have gy:=H.bl
 have jf:=H.nh
 obtain⟨f0,f1,f2,f3,f4,f5,f6,f7,f8,f9,ay,au,aj,ak,ff,fs⟩:=A8 H.e.o.fb
 obtain⟨q0,q1,q2,q3,q4,-,-,-,-,-,qs⟩:=Aj H.e.o.m.box
 rintro C rfl v1 v8 v9 v10 v11 v12 v13
 conv=>arg 2;whnf
 unfold X9
 rw[hp] at f6
 clear hp
 rw[hj] at f7
 have hI:decide (0<(j:Int)+1)=true:=by rw[decide_eq_true_iff];omega
 have yY:IntKind.i64.wrap ((j:Int)+1 - 1)=(j:Int):=by rw[nI];omega
 have BZ:wrap64 ((j:Int)+1 - 1)=(j:Int):=by unfold wrap64;omega
 have zO:(j:Int)+1 - 1=(j:Int):=by omega
 have TZ:=H.fit.o.p
 go_wp2_with (go_at_call 115;refine(Ef _ _ hI).mono ?_;rintro e w3 ⟨rfl,rfl⟩)
 have PX:Qi _:=H.e.o.store 9 (O J (j:Int)) { f with h:=(j:Int) } rfl
 clear f0 f1 f2 f3 f4 f5 f6 f7 f8 f9 ay au aj ak ff fs q0 q1 q2 q3 q4 qs
 generalize w1.setCell ⟨w.heap.size,9,none⟩ (O J (j:Int))=w2 at *
 obtain⟨f0,f1,f2,f3,f4,f5,f6,f7,f8,f9,ay,au,aj,ak,ff,fs⟩:=A8 PX.o.fb
 obtain⟨q0,q1,q2,q3,q4,-,-,-,-,-,qs⟩:=Aj PX.o.m.box
 obtain⟨gS,hS,xs,x0,x1,x2,x3,x4,x5⟩:=PX.o.Jd ig hl
 rw[hS] at q0
 have vF:(j:Int)<(M.s.length:Int):=by omega
 have yM:B<w.heap.size:=PX.o.lt B (.inl rfl)
 have BF:gS<w.heap.size:=PX.o.lt gS (.inr (.inl ⟨_,hS,rfl⟩))
 have yK:B≠w.heap.size:=by omega
 have yI:gS≠w.heap.size:=by omega
 have zq:w.heap.size≠B:=by omega
 have zh:w.heap.size≠gS:=by omega
 rename_i K0 qO
 apply Ey (R:=fun a=>∀ W2:Wq,Lk Xb w W2 B lo aS aH aF aL cS cH cF cL M ({ f with h:=(j:Int),u:=(Aa M j).next }) aK cK->K0 a W2)
 ·intro gq
  have pg:Qi _:=gq
  clear gq
  go_region
  all_goals exact pg.o _ ((PX.o.store 7 (O J (Aa M j).next) { f with h:=(j:Int),u:=(Aa M j).next } rfl).below ⟨rfl,rfl,rfl,aC _,fun _ _=>rfl⟩)
 intro w3 h3
 have ai:Qi _:=h3
 refine qO _ _ ?_
 clear h3 qO yM BF yK yI zq zh PX x0 x1 x2 x3 x4 x5 xs q0 q1 q2 q3 q4 qs f0 f1 f2 f3 f4 f5 f6 f7 f8 f9 ay au aj ak ff fs
 obtain⟨f0,f1,f2,f3,f4,f5,f6,f7,f8,f9,ay,au,aj,ak,ff,fs⟩:=A8 ai.o.fb
 obtain⟨q0,q1,q2,q3,q4,-,-,-,-,-,qs⟩:=Aj ai.o.m.box
 go_wp2_with fail
 refine(Z8 ⟨_,_,_,_,_,_,_,_,ai.o.m,fun _ h=>h⟩ H.ok.o hl gy TZ.1 TZ.2).mono ?_
 rintro e w4 ⟨rfl,ja,ik⟩
 have di:Qi _:=ai.o.after ja ik
 clear ja ik ai f0 f1 f2 f3 f4 f5 f6 f7 f8 f9 ay au aj ak ff fs
 obtain⟨f0,f1,f2,f3,f4,f5,f6,f7,f8,f9,ay,au,aj,ak,ff,fs⟩:=A8 di.o.fb
 have ai:=di
 clear di
 go_wp2_with fail
 first|(go_at_call 124;refine(Dx 124 (.inr (.inr (.inr rfl))) _ ai.o HG.o H.r.o H.z.o).mono ?_)|(go_at_call 73;refine(Bz _ ai.o HG.o H.r.o H.z.o).mono ?_)
 rintro e w9 ⟨g,a,c,rfl,t9,b9,hQ⟩
 clear ai H HG f0 f1 f2 f3 f4 f5 f6 f7 f8 f9 ay au aj ak ff fs q0 q1 q2 q3 q4 qs
 go_wp2_with (refine Bl (f:=g) rfl (.tmp 6) _ rfl rfl rfl t9.o ?_)
 generalize w9.setCells (w.heap.size+1) 0 (g.enc a c)=W9 at *
 exact gZ (lV oJ _ W9 (w.heap.size+1) 47 _ (0,0) _ rfl b9.o mO rfl (by kernel_rfl)) rfl hQ.o
theorem rsw5(H:LH Xb w w1 B lo aS aH aF aL cS cH cF cL M f aK cK b)(hp:f.l=5){j:Nat}(hj:f.h=j)(hl:j<M.s.length){G:Fr}(HG:Qi ({ f with h:=-1,n:=if f.n<1000000 then f.n+1 else f.n,l:=2 } = G)):W74 t w w1 B b (RQ Xb w (Ac B aS aH aF aL) B lo aK cK (Ff M j) G):=by
 have ig:=H.ns
 have gy:=H.bl
 have jf:=H.nh
 obtain⟨f0,f1,f2,f3,f4,f5,f6,f7,f8,f9,ay,au,aj,ak,ff,fs⟩:=A8 H.e.o.fb
 obtain⟨q0,q1,q2,q3,q4,-,-,-,-,-,qs⟩:=Aj H.e.o.m.box
 rintro C rfl v1 v8 v9 v10 v11 v12 v13
 conv=>arg 2;whnf
 unfold X9
 rw[hp] at f6
 clear hp
 rw[hj] at f9
 have AU:(0:Int)<=(j:Int):=by omega
 have hS:Dp M (j:Int)=true:=Ez.2 (by omega)
 have hn:=H.fit.o.n
 rw[Ar] at hn
 have hw:IntKind.i64.wrap (f.n+1)=f.n+1:=by rw[nI];omega
 go_wp2_with fail
 refine(Nl ⟨_,_,_,_,_,_,_,_,H.e.o.m,fun _ h=>h⟩ H.ok.o hS).mono ?_
 rintro e w2 ⟨rfl,ja,ik⟩
 have di:Qi _:=H.e.o.after ja ik
 clear ja ik f0 f1 f2 f3 f4 f5 f6 f7 f8 f9 ay au aj ak ff fs
 obtain⟨f0,f1,f2,f3,f4,f5,f6,f7,f8,f9,ay,au,aj,ak,ff,fs⟩:=A8 di.o.fb
 by_cases hq:f.n<1000000
 focus
  rw[af hq] at HG
  have ai:Qi (Lk2 Xb w ((w2.setCell ⟨w.heap.size,9,none⟩ (O J (-1))).setCell ⟨w.heap.size,10,none⟩ (O J (f.n+1))) (Ac B aS aH aF aL) B lo (Ff M j) ({ f with h:=-1,n:=f.n+1 }) aK cK):=(di.o.store 9 _ { f with h:=-1 } rfl).store 10 _ _ rfl
  clear di
  go_wp2_with fail
 rotate_left
 focus
  rw[ae hq] at HG
  have ai:Qi (Lk2 Xb w (w2.setCell ⟨w.heap.size,9,none⟩ (O J (-1))) (Ac B aS aH aF aL) B lo (Ff M j) ({ f with h:=-1 }) aK cK):=di.o.store 9 _ _ rfl
  clear di
  go_wp2_with fail
 all_goals
  first|(go_at_call 124;refine(Dx 124 (.inr (.inr (.inr rfl))) _ ai.o HG.o H.r.o H.z.o).mono ?_)|(go_at_call 73;refine(Bz _ ai.o HG.o H.r.o H.z.o).mono ?_)
  rintro e w9 ⟨g,a,c,rfl,t9,b9,hQ⟩
  clear ai H HG f0 f1 f2 f3 f4 f5 f6 f7 f8 f9 ay au aj ak ff fs q0 q1 q2 q3 q4 qs
  go_wp2_with (refine Bl (f:=g) rfl (.tmp 6) _ rfl rfl rfl t9.o ?_)
  generalize w9.setCells (w.heap.size+1) 0 (g.enc a c)=W9 at *
  exact gZ (lV oJ _ W9 (w.heap.size+1) 47 _ (0,0) _ rfl b9.o mO rfl (by kernel_rfl)) rfl hQ.o
theorem rsw6(H:LH Xb w w1 B lo aS aH aF aL cS cH cF cL M f aK cK b)(hp:f.l=6){G:Fr}(HG:Qi (Ak f 0=G)):W74 t w w1 B b (RQ Xb w (Ac B aS aH aF aL) B lo aK cK (Nk M b t) G):=by
 have ig:=H.ns
 have gy:=H.bl
 have jf:=H.nh
 obtain⟨f0,f1,f2,f3,f4,f5,f6,f7,f8,f9,ay,au,aj,ak,ff,fs⟩:=A8 H.e.o.fb
 obtain⟨q0,q1,q2,q3,q4,-,-,-,-,-,qs⟩:=Aj H.e.o.m.box
 rintro C rfl v1 v8 v9 v10 v11 v12 v13
 conv=>arg 2;whnf
 unfold X9
 rw[hp] at f6
 clear hp
 go_wp2_with fail
 refine(O7 t ⟨_,_,_,_,_,_,_,_,H.e.o.m,fun _ h=>h⟩ H.ok.o gy).mono ?_
 rintro e w2 ⟨rfl,ja,ik⟩
 have di:Qi _:=H.e.o.after ja ik
 clear ja ik f0 f1 f2 f3 f4 f5 f6 f7 f8 f9 ay au aj ak ff fs
 obtain⟨f0,f1,f2,f3,f4,f5,f6,f7,f8,f9,ay,au,aj,ak,ff,fs⟩:=A8 di.o.fb
 have ai:=di
 clear di
 go_wp2_with fail
 first|(go_at_call 124;refine(Dx 124 (.inr (.inr (.inr rfl))) _ ai.o HG.o H.r.o H.z.o).mono ?_)|(go_at_call 73;refine(Bz _ ai.o HG.o H.r.o H.z.o).mono ?_)
 rintro e w9 ⟨g,a,c,rfl,t9,b9,hQ⟩
 clear ai H HG f0 f1 f2 f3 f4 f5 f6 f7 f8 f9 ay au aj ak ff fs q0 q1 q2 q3 q4 qs
 go_wp2_with (refine Bl (f:=g) rfl (.tmp 6) _ rfl rfl rfl t9.o ?_)
 generalize w9.setCells (w.heap.size+1) 0 (g.enc a c)=W9 at *
 exact gZ (lV oJ _ W9 (w.heap.size+1) 47 _ (0,0) _ rfl b9.o mO rfl (by kernel_rfl)) rfl hQ.o
theorem b4p(H:LH Xb w w1 B lo aS aH aF aL cS cH cF cL M f aK cK b)(EJ:(f.l=3\/f.l=4)/\f.u<=0\/(f.l=5)/\f.h<0\/7<=f.l){G:Fr}(HG:Qi (toF f 6=G)):W74 t w w1 B b (RQ Xb w (Ac B aS aH aF aL) B lo aK cK M G):=by
 have ig:=H.ns
 have gy:=H.bl
 have jf:=H.nh
 obtain⟨f0,f1,f2,f3,f4,f5,f6,f7,f8,f9,ay,au,aj,ak,ff,fs⟩:=A8 H.e.o.fb
 obtain⟨q0,q1,q2,q3,q4,-,-,-,-,-,qs⟩:=Aj H.e.o.m.box
 rintro C rfl v1 v8 v9 v10 v11 v12 v13
 conv=>arg 2;whnf
 unfold X9
 have ai:Qi (Lk2 Xb w (w1) (Ac B aS aH aF aL) B lo M (f) aK cK):=H.e.o.two
 have hA:∀ n:Int,n<7->7<=f.l->(f.l==n)=false:=fun n h h'=>by rw[beq_eq_false_iff_ne];omega
 rcases EJ with ⟨hp|hp,hc⟩|⟨hp,hc⟩|hp
 all_goals
  first
  | rw[hp] at f6
    try have hI:decide (0<f.u)=false:=by rw[decide_eq_false_iff_not];omega
    try have AU:¬ f.h ≥ 0:=by omega
  | have p0:=hA 0 (by decide) hp
    have p1:=hA 1 (by decide) hp
    have p2:=hA 2 (by decide) hp
    have p3:=hA 3 (by decide) hp
    have p4:=hA 4 (by decide) hp
    have p5:=hA 5 (by decide) hp
    have p6:=hA 6 (by decide) hp
  clear hA
  go_wp2_with (go_at_call 115;refine(Ef _ _ (by assumption)).mono ?_;rintro e w3 ⟨rfl,rfl⟩)
  first|(go_at_call 124;refine(Dx 124 (.inr (.inr (.inr rfl))) _ ai.o HG.o H.r.o H.z.o).mono ?_)|(go_at_call 73;refine(Bz _ ai.o HG.o H.r.o H.z.o).mono ?_)
  rintro e w9 ⟨g,a,c,rfl,t9,b9,hQ⟩
  clear ai H HG f0 f1 f2 f3 f4 f5 f6 f7 f8 f9 ay au aj ak ff fs q0 q1 q2 q3 q4 qs
  go_wp2_with (refine Bl (f:=g) rfl (.tmp 6) _ rfl rfl rfl t9.o ?_)
  generalize w9.setCells (w.heap.size+1) 0 (g.enc a c)=W9 at *
  exact gZ (lV oJ _ W9 (w.heap.size+1) 47 _ (0,0) _ rfl b9.o mO rfl (by kernel_rfl)) rfl hQ.o
end
end
end Go.Proofs.YthhgoenomehobaaGreat.mm
