/- Parts. -/
import Derived.Test.YthhgoenomehobaaGreatP25
namespace Go.Proofs.YthhgoenomehobaaGreat.mm
open IntKind renaming wrap_i64 → nI, i64 → J
open Tryz renaming underlying47 → mO, results69 → oN, prog → Pg
open Nat renaming le_refl → aC
open Go renaming cell_regrown → fO, results_cell_row → lV, bodyPost_ret → gZ, undef → Uz, World → Wq
open Tryz
set_option maxRecDepth 100000
set_option linter.unusedVariables false
open Value renaming int → O, slice → Y
open ChangeShapes WideShapes ChangeAt RowKit Joins Deep Go.Sort
set_option maxHeartbeats 0
section
variable {Xb:Ex}
def Zo(B H b:Nat)(v1 v8 v9 v10 v11 v12 v13:Value):Act:=⟨#[.pointer (some ⟨B,0,none⟩),v1,Uz,.pointer (some ⟨H,0,none⟩),.pointer (some ⟨H+1,0,none⟩),O J (b:Int),Uz,Uz,v8,v9,v10,v11,v12,v13,Uz,Uz,Uz,Uz,Uz,Uz,Uz,Uz,Uz,Uz,Uz,Uz,Uz,Uz,Uz,Uz,Uz,Uz,Uz,Uz,Uz,Uz,Uz,Uz,Uz,Uz,Uz,Uz,Uz,Uz,Uz,Uz,Uz,Uz,Uz,Uz,Uz,Uz,Uz,Uz,Uz,Uz,Uz,Uz,Uz,Uz,Uz,Uz,Uz,Uz,Uz,Uz,Uz,Uz,Uz,Uz,Uz,Uz,Uz,Uz,Uz,Uz,Uz,Uz,Uz,Uz,Uz,Uz,Uz,Uz,Uz,Uz,Uz,Uz,Uz,Uz,Uz,Uz,Uz,Uz,Uz,Uz,Uz,Uz,Uz,Uz,Uz,Uz,Uz,Uz,Uz,Uz,Uz,Uz,Uz,Uz,Uz,Uz,Uz,Uz,Uz,Uz,Uz,Uz,Uz,Uz,Uz,Uz,Uz,Uz,Uz,Uz,Uz,Uz,Uz,Uz,Uz,Uz,Uz,Uz,Uz,Uz,Uz,Uz,Uz,Uz,Uz,Uz,Uz,Uz,Uz,Uz,Uz,Uz,Uz,Uz,Uz,Uz,Uz,Uz,Uz,Uz,Uz,Uz,Uz,Uz,Uz,Uz,Uz,Uz,Uz,Uz,Uz,Uz,Uz,Uz,Uz,Uz,Uz,Uz,Uz,Uz,Uz,Uz,Uz,Uz,Uz,Uz,Uz,Uz,Uz,Uz,Uz,Uz,Uz,Uz],[]⟩
def W69(w w1:Wq)(B b:Nat)(R:Ending->Wq->Prop):Prop :=
 ∀ C,C=a0u (a0u (Tryz.f69.body.getD .skip))->∀ v1 v8 v9 v10 v11 v12 v13,Code.wp Pg C (bodyPost Pg Tryz.f69 R) (Zo B w.heap.size b v1 v8 v9 v10 v11 v12 v13) w1
theorem b1t(M:Mm)(f:Fr)(B lo:Nat)(aS aH aF aL:Option Addr)(cS cH cF cL:Nat)(aK:Option Addr)(cK:Nat)(w:Wq)
  (m:Mine Xb w B lo aS aH aF aL cS cH cF cL M) (hM:Ok M) (hf:Fit M f) (r:Az w aK cK f.t) (hz:∀ ad,aK=some ad->¬ Ac B aS aH aF aL ad.block) {R:Ending->Wq->Prop}
  (HR:Qi (∀ (w1:Wq) (b:Nat),LH Xb w w1 B lo aS aH aF aL cS cH cF cL M f aK cK b->W69 w w1 B b R)) :
  Calls Pg 69 #[Ae B,Ai f aK cK] w R:=by
 unfold Ae Ai
 have ig:=hM.ns
 have jf:=hM.nh
 obtain⟨b0,b1⟩:0<=Fz M.h.length f.c/\Fz M.h.length f.c<M.h.length:=Ia hM hf.call
 obtain⟨b,hb⟩:∃ b:Nat,Fz M.h.length f.c=b:=⟨_,(Int.toNat_of_nonneg b0).symm⟩
 have gy:b<M.h.length:=by omega
 have ve:Qi (∀ W:Wq,Calls Pg 113 #[Cm aS aH aF aL cS cH cF cL M,Gj f.c] W fun e w'=>e=.returned (O J (b:Int))/\Below W.heap.size W w'):=fun W=>hb ▸ Ib aS aH aF aL _ _ _ _ cS cH cF cL M.w f.c W (by omega)
 obtain⟨of,df⟩:=frObj f aK cK
 obtain⟨oz,bi⟩:∃ o:Obj,o=Ah:=⟨_,rfl⟩
 have HE:Qi (Lk Xb w ((w.alloc of).alloc oz) B lo aS aH aF aL cS cH cF cL M f aK cK):=Lk.first m f aK cK df bi
 have HL:Qi (∀ w1,Lk Xb w w1 B lo aS aH aF aL cS cH cF cL M f aK cK->W69 w w1 B b R):=fun w1 h=>HR.o w1 b ⟨h,r,hz,hM,hf,gy,hb,ig,jf.2⟩
 obtain⟨f0,f1,f2,f3,f4,f5,f6,f7,f8,f9,ay,au,aj,ak,ff,fs⟩:=A8 HE.o.fb
 obtain⟨q0,q1,q2,q3,q4,-,-,-,-,-,qs⟩:=Aj HE.o.m.box
 unfold Ah at bi
 clear m ig jf hM hf r hz b0 b1 hb gy HR
 go_enter func69,ntmps69
 go_wp2_with fail
 rw[<- df,<- bi]
 generalize (w.alloc of).alloc oz=W0 at *
 subst df bi
 have cB:∀ (d:Nat) (os:Array Obj),Calls Pg 113 #[Cm aS aH aF aL cS cH cF cL M,Gj f.c] (grow (redrawn W0 d) os) fun e uh=>e=.returned (O J (b:Int))/\∃ p:Regrown,uh=grow (redrawn W0 p.d) p.os:=fun d os=>Calls.regrown_of (ve.o _)
 have Q0:=fO q0;have Q1:=fO q1;have Q2:=fO q2;have Q3:=fO q3;have Q4:=fO q4
 have F0:=fO f0;have F1:=fO f1;have F2:=fO f2;have F3:=fO f3;have F4:=fO f4;have F5:=fO f5
 clear q0 q1 q2 q3 q4 qs f0 f1 f2 f3 f4 f5 f6 f7 f8 f9 ay au aj ak ff fs
 refine wp_region_quiet_below (by kernel_rfl) (by kernel_rfl) ?_
 repeat (quiet_step (first|exact cB _ _))
 refine wpQuiet_nil ?_
 intro _ rq
 obtain⟨⟨dq,rD⟩,ql⟩:=rq
 subst ql
 rename_i K hK
 exact hK _ _ (HL.o _ (HE.o.below (below_regrown W0 dq rD)) _ (by kernel_rfl) _ _ _ _ _ _ _)
end
section
variable {Xb:Ex}
section
variable {w w1:Wq} {B lo:Nat} {aS aH aF aL:Option Addr} {cS cH cF cL:Nat} {M:Mm} {f:Fr} {aK:Option Addr} {cK b:Nat}
theorem rlk0(H:LH Xb w w1 B lo aS aH aF aL cS cH cF cL M f aK cK b)(hp:f.l=0){G:Fr}(HG:Qi (U6 f (Bq M b) 1=G)):W69 w w1 B b (RQ Xb w (Ac B aS aH aF aL) B lo aK cK M G):=by
 have ig:=H.ns
 have gy:=H.bl
 have jf:=H.nh
 obtain⟨f0,f1,f2,f3,f4,f5,f6,f7,f8,f9,ay,au,aj,ak,ff,fs⟩:=A8 H.e.o.fb
 obtain⟨q0,q1,q2,q3,q4,-,-,-,-,-,qs⟩:=Aj H.e.o.m.box
 rintro C rfl v1 v8 v9 v10 v11 v12 v13
 conv=>arg 2;whnf
 unfold Zo
 rw[hp] at f6
 obtain⟨gH,hH,hc⟩:=H.head
 rw[hH] at q1
 have ai:Qi (Lk2 Xb w (w1.setCell ⟨w.heap.size,7,none⟩ (O J (Bq M b))) (Ac B aS aH aF aL) B lo M ({ f with u:=Bq M b }) aK cK):=H.e.o.two.store 7 _ _ rfl
 go_wp2_with fail
 first|(go_at_call 114;refine(Dx 114 (.inl rfl) _ ai.o HG.o H.r.o H.z.o).mono ?_)|(go_at_call 73;refine(Bz _ ai.o HG.o H.r.o H.z.o).mono ?_)
 rintro e w9 ⟨g,a,c,rfl,t9,b9,hQ⟩
 clear ai H HG f0 f1 f2 f3 f4 f5 f6 f7 f8 f9 ay au aj ak ff fs q0 q1 q2 q3 q4 qs
 go_wp2_with (refine Bl (f:=g) rfl (.tmp 4) _ rfl rfl rfl t9.o ?_)
 generalize w9.setCells (w.heap.size+1) 0 (g.enc a c)=W9 at *
 exact gZ (lV oN _ W9 (w.heap.size+1) 47 _ (0,0) _ rfl b9.o mO rfl (by kernel_rfl)) rfl hQ.o
theorem rlk1(H:LH Xb w w1 B lo aS aH aF aL cS cH cF cL M f aK cK b)(hp:f.l=1){j:Nat}(hj:f.u=(j:Int)+1)(hl:j<M.s.length){G:Fr}(HG:Qi (toF f (if lkK (Aa M j) f then 3 else 2)=G)):W69 w w1 B b (RQ Xb w (Ac B aS aH aF aL) B lo aK cK M G):=by
 have ig:=H.ns
 have gy:=H.bl
 have jf:=H.nh
 obtain⟨f0,f1,f2,f3,f4,f5,f6,f7,f8,f9,ay,au,aj,ak,ff,fs⟩:=A8 H.e.o.fb
 obtain⟨q0,q1,q2,q3,q4,-,-,-,-,-,qs⟩:=Aj H.e.o.m.box
 rintro C rfl v1 v8 v9 v10 v11 v12 v13
 conv=>arg 2;whnf
 unfold Zo
 rw[hp] at f6
 obtain⟨gS,hS,xs,x0,x1,x2,x3,x4,x5⟩:=H.e.o.Jd ig hl
 rw[hS] at q0
 have vF:(j:Int)<(M.s.length:Int):=by omega
 rw[hj] at f7
 have hI:decide (0<(j:Int)+1)=true:=by rw[decide_eq_true_iff];omega
 have yY:IntKind.i64.wrap ((j:Int)+1 - 1)=(j:Int):=by rw[nI];omega
 have BZ:wrap64 ((j:Int)+1 - 1)=(j:Int):=by unfold wrap64;omega
 have zO:(j:Int)+1 - 1=(j:Int):=by omega
 have se:=LH.seq (Aa M j) f
 cases hk:lkK (Aa M j) f
 all_goals
  rw[hk] at se HG
  clear hk
  go_wp2_with (go_at_call 115;refine(Ef _ _ hI).mono ?_;rintro e w3 ⟨rfl,rfl⟩)
  go_quiet (fail)
  go_wp2_with fail
  have ai:Qi (Lk2 Xb w (w1.drewN nq) (Ac B aS aH aF aL) B lo M (f) aK cK):=(H.e.o.below (w2:=w1.drewN nq) ⟨rfl,rfl,rfl,aC _,fun _ _=>rfl⟩).two
  first|(go_at_call 114;refine(Dx 114 (.inl rfl) _ ai.o HG.o H.r.o H.z.o).mono ?_)|(go_at_call 73;refine(Bz _ ai.o HG.o H.r.o H.z.o).mono ?_)
  rintro e w9 ⟨g,a,c,rfl,t9,b9,hQ⟩
  clear ai H HG f0 f1 f2 f3 f4 f5 f6 f7 f8 f9 ay au aj ak ff fs q0 q1 q2 q3 q4 qs
  go_wp2_with (refine Bl (f:=g) rfl (.tmp 4) _ rfl rfl rfl t9.o ?_)
  generalize w9.setCells (w.heap.size+1) 0 (g.enc a c)=W9 at *
  exact gZ (lV oN _ W9 (w.heap.size+1) 47 _ (0,0) _ rfl b9.o mO rfl (by kernel_rfl)) rfl hQ.o
theorem rlk2(H:LH Xb w w1 B lo aS aH aF aL cS cH cF cL M f aK cK b)(hp:f.l=1)(hc:f.u<=0){G:Fr}(HG:Qi ((if f.u=-1 - (b:Int) then Ak f 5 else toF f 0)=G)):W69 w w1 B b (RQ Xb w (Ac B aS aH aF aL) B lo aK cK M G):=by
 have ig:=H.ns
 have gy:=H.bl
 have jf:=H.nh
 obtain⟨f0,f1,f2,f3,f4,f5,f6,f7,f8,f9,ay,au,aj,ak,ff,fs⟩:=A8 H.e.o.fb
 obtain⟨q0,q1,q2,q3,q4,-,-,-,-,-,qs⟩:=Aj H.e.o.m.box
 rintro C rfl v1 v8 v9 v10 v11 v12 v13
 conv=>arg 2;whnf
 unfold Zo
 rw[hp] at f6
 have hI:decide (0<f.u)=false:=by rw[decide_eq_false_iff_not];omega
 have HF:Qi ({ f with l:=1 } = f):=by cases f;simp_all [Qi]
 have ai:Qi (Lk2 Xb w (w1) (Ac B aS aH aF aL) B lo M ({ f with l:=1 }) aK cK):=HF.o.symm ▸ H.e.o.two
 have hq:f.u=-1 - (b:Int)/\(f.u == -((b:Int)+1))=true\/¬ f.u=-1 - (b:Int)/\(f.u == -((b:Int)+1))=false:=by
  by_cases h:f.u=-1 - (b:Int)
  ·exact .inl ⟨h,by simp;omega⟩
  ·exact .inr ⟨h,by simp;omega⟩
 rcases hq with ⟨h,hq⟩|⟨h,hq⟩
 all_goals
  first|rw[af h] at HG|rw[ae h] at HG
  rw[<- HF.o] at HG
  clear h HF
  go_wp2_with (go_at_call 115;refine(Ef _ _ hI).mono ?_;rintro e w3 ⟨rfl,rfl⟩)
  first|(go_at_call 114;refine(Dx 114 (.inl rfl) _ ai.o HG.o H.r.o H.z.o).mono ?_)|(go_at_call 73;refine(Bz _ ai.o HG.o H.r.o H.z.o).mono ?_)
  rintro e w9 ⟨g,a,c,rfl,t9,b9,hQ⟩
  clear ai H HG f0 f1 f2 f3 f4 f5 f6 f7 f8 f9 ay au aj ak ff fs q0 q1 q2 q3 q4 qs
  go_wp2_with (refine Bl (f:=g) rfl (.tmp 4) _ rfl rfl rfl t9.o ?_)
  generalize w9.setCells (w.heap.size+1) 0 (g.enc a c)=W9 at *
  exact gZ (lV oN _ W9 (w.heap.size+1) 47 _ (0,0) _ rfl b9.o mO rfl (by kernel_rfl)) rfl hQ.o
theorem rlk3(H:LH Xb w w1 B lo aS aH aF aL cS cH cF cL M f aK cK b)(hp:f.l=2){j:Nat}(hj:f.u=(j:Int)+1)(hl:j<M.s.length){G:Fr}(HG:Qi (U6 f (Aa M j).next 1=G)):W69 w w1 B b (RQ Xb w (Ac B aS aH aF aL) B lo aK cK M G):=by
 have ig:=H.ns
 have gy:=H.bl
 have jf:=H.nh
 obtain⟨f0,f1,f2,f3,f4,f5,f6,f7,f8,f9,ay,au,aj,ak,ff,fs⟩:=A8 H.e.o.fb
 obtain⟨q0,q1,q2,q3,q4,-,-,-,-,-,qs⟩:=Aj H.e.o.m.box
 rintro C rfl v1 v8 v9 v10 v11 v12 v13
 conv=>arg 2;whnf
 unfold Zo
 rw[hp] at f6
 obtain⟨gS,hS,xs,x0,x1,x2,x3,x4,x5⟩:=H.e.o.Jd ig hl
 rw[hS] at q0
 have vF:(j:Int)<(M.s.length:Int):=by omega
 rw[hj] at f7
 have hI:decide (0<(j:Int)+1)=true:=by rw[decide_eq_true_iff];omega
 have yY:IntKind.i64.wrap ((j:Int)+1 - 1)=(j:Int):=by rw[nI];omega
 have BZ:wrap64 ((j:Int)+1 - 1)=(j:Int):=by unfold wrap64;omega
 have zO:(j:Int)+1 - 1=(j:Int):=by omega
 go_wp2_with (go_at_call 115;refine(Ef _ _ hI).mono ?_;rintro e w3 ⟨rfl,rfl⟩)
 go_region
 all_goals
  go_wp2_with fail
  have ai:Qi (Lk2 Xb w ((w1.setCell ⟨w.heap.size,7,none⟩ (O J (Aa M j).next)).drew) (Ac B aS aH aF aL) B lo M ({ f with u:=(Aa M j).next }) aK cK):=(H.e.o.two.store 7 _ { f with u:=(Aa M j).next } rfl).below ⟨rfl,rfl,rfl,aC _,fun _ _=>rfl⟩
  first|(go_at_call 114;refine(Dx 114 (.inl rfl) _ ai.o HG.o H.r.o H.z.o).mono ?_)|(go_at_call 73;refine(Bz _ ai.o HG.o H.r.o H.z.o).mono ?_)
  rintro e w9 ⟨g,a,c,rfl,t9,b9,hQ⟩
  clear ai H HG f0 f1 f2 f3 f4 f5 f6 f7 f8 f9 ay au aj ak ff fs q0 q1 q2 q3 q4 qs
  go_wp2_with (refine Bl (f:=g) rfl (.tmp 4) _ rfl rfl rfl t9.o ?_)
  generalize w9.setCells (w.heap.size+1) 0 (g.enc a c)=W9 at *
  exact gZ (lV oN _ W9 (w.heap.size+1) 47 _ (0,0) _ rfl b9.o mO rfl (by kernel_rfl)) rfl hQ.o
theorem rlk4(H:LH Xb w w1 B lo aS aH aF aL cS cH cF cL M f aK cK b)(hp:f.l=3){j:Nat}(hj:f.u=(j:Int)+1)(hl:j<M.s.length){G:Fr}(HG:Qi ((if Si M j then Gq f j 4 else toF f 0)=G)):W69 w w1 B b (RQ Xb w (Ac B aS aH aF aL) B lo aK cK (holdN M j) G):=by
 have ig:=H.ns
 have gy:=H.bl
 have jf:=H.nh
 obtain⟨f0,f1,f2,f3,f4,f5,f6,f7,f8,f9,ay,au,aj,ak,ff,fs⟩:=A8 H.e.o.fb
 obtain⟨q0,q1,q2,q3,q4,-,-,-,-,-,qs⟩:=Aj H.e.o.m.box
 rintro C rfl v1 v8 v9 v10 v11 v12 v13
 conv=>arg 2;whnf
 unfold Zo
 rw[hp] at f6
 rw[hj] at f7
 have hI:decide (0<(j:Int)+1)=true:=by rw[decide_eq_true_iff];omega
 have yY:IntKind.i64.wrap ((j:Int)+1 - 1)=(j:Int):=by rw[nI];omega
 have BZ:wrap64 ((j:Int)+1 - 1)=(j:Int):=by unfold wrap64;omega
 have zO:(j:Int)+1 - 1=(j:Int):=by omega
 have hS:Dp M (j:Int)=true:=Ez.2 (by omega)
 go_wp2_with (go_at_call 115;refine(Ef _ _ hI).mono ?_;rintro e w3 ⟨rfl,rfl⟩)
 refine(a3z ⟨_,_,_,_,_,_,_,_,H.e.o.m,fun _ h=>h⟩ H.ok.o hS).mono ?_
 rintro e w2 ⟨rfl,ja,ik⟩
 have di:Qi _:=H.e.o.after ja ik
 clear ja ik f0 f1 f2 f3 f4 f5 f6 f7 f8 f9 ay au aj ak ff fs
 obtain⟨f0,f1,f2,f3,f4,f5,f6,f7,f8,f9,ay,au,aj,ak,ff,fs⟩:=A8 di.o.fb
 rw[hj] at f7
 cases hk:Si M j
 all_goals
  rw[hk] at HG
  clear hk
 focus
  have ai:=di
  go_wp2_with fail
 rotate_left
 focus
  have ai:Qi (Lk2 Xb w (w2.setCell ⟨w.heap.size,9,none⟩ (O J (j:Int))) (Ac B aS aH aF aL) B lo (holdN M j) ({ f with h:=(j:Int) }) aK cK):=di.o.store 9 _ _ rfl
  go_wp2_with fail
 all_goals
  clear di
  first|(go_at_call 114;refine(Dx 114 (.inl rfl) _ ai.o HG.o H.r.o H.z.o).mono ?_)|(go_at_call 73;refine(Bz _ ai.o HG.o H.r.o H.z.o).mono ?_)
  rintro e w9 ⟨g,a,c,rfl,t9,b9,hQ⟩
  clear ai H HG f0 f1 f2 f3 f4 f5 f6 f7 f8 f9 ay au aj ak ff fs q0 q1 q2 q3 q4 qs
  go_wp2_with (refine Bl (f:=g) rfl (.tmp 4) _ rfl rfl rfl t9.o ?_)
  generalize w9.setCells (w.heap.size+1) 0 (g.enc a c)=W9 at *
  exact gZ (lV oN _ W9 (w.heap.size+1) 47 _ (0,0) _ rfl b9.o mO rfl (by kernel_rfl)) rfl hQ.o
theorem rlk5(H:LH Xb w w1 B lo aS aH aF aL cS cH cF cL M f aK cK b)(hp:f.l=4){j:Nat}(hj:f.h=j)(hl:j<M.s.length){G:Fr}(HG:Qi ((if lkK (Aa M j) f && (Aa M j).inn then (if M.w<(Aa M j).unt then Ak f 0 else toF f 6) else toF f 5)=G)):W69 w w1 B b (RQ Xb w (Ac B aS aH aF aL) B lo aK cK M G):=by
 have ig:=H.ns
 have gy:=H.bl
 have jf:=H.nh
 obtain⟨f0,f1,f2,f3,f4,f5,f6,f7,f8,f9,ay,au,aj,ak,ff,fs⟩:=A8 H.e.o.fb
 obtain⟨q0,q1,q2,q3,q4,-,-,-,-,-,qs⟩:=Aj H.e.o.m.box
 rintro C rfl v1 v8 v9 v10 v11 v12 v13
 conv=>arg 2;whnf
 unfold Zo
 rw[hp] at f6
 rw[hj] at f9
 obtain⟨gS,hS,xs,x0,x1,x2,x3,x4,x5⟩:=H.e.o.Jd ig hl
 rw[hS] at q0
 have vF:(j:Int)<(M.s.length:Int):=by omega
 have se:=LH.seq (Aa M j) f
 have AU:(0:Int)<=(j:Int):=by omega
 have HF:Qi ({ f with l:=4,h:=(j:Int) } = f):=by cases f;simp_all [Qi]
 have gu:=A7 w1 (.cells #[O J (Aa M j).refs,O J (Aa M j).a,O J (Aa M j).b,O J (Aa M j).unt,.bool (Aa M j).inn,O J (Aa M j).next] 64)
 have tH:Qi _:=gu
 clear gu
 cases hi:(Aa M j).inn
 all_goals
  cases hk:lkK (Aa M j) f
  all_goals
   rw[hi,hk] at HG
   rw[hk] at se
   rw[hi] at tH x4
   clear hi hk
   simp only[Bool.and_self,Bool.and_true,Bool.and_false,Bool.false_eq_true,if_true,if_false] at HG
   rw[<- HF.o] at HG
   go_wp2_with fail
   go_region
   have mf:Qi _:=(H.e.o.below tH.o).two.below (w2:=(w1.alloc _).drew) ⟨rfl,rfl,rfl,aC _,fun _ _=>rfl⟩
   rw[<- HF.o] at mf
   clear HF tH
   go_wp2_with fail
 rotate_left 3
 focus
  have hq:M.w<(Aa M j).unt/\decide (M.w<(Aa M j).unt)=true\/¬ M.w<(Aa M j).unt/\decide (M.w<(Aa M j).unt)=false:=by
   by_cases h:M.w<(Aa M j).unt <;> simp[h]
  rcases hq with ⟨h,hq⟩|⟨h,hq⟩
  all_goals
   first|rw[af h] at HG|rw[ae h] at HG
   clear h
   go_quiet (fail)
   have ai:Qi _:=mf.o.below (w2:=(w1.alloc _).drewN (1+nq)) ⟨rfl,rfl,rfl,aC _,fun _ _=>rfl⟩
   clear mf
   go_wp2_with fail
 rotate_left 2
 all_goals
  try (have ai:=mf;clear mf)
  first|(go_at_call 114;refine(Dx 114 (.inl rfl) _ ai.o HG.o H.r.o H.z.o).mono ?_)|(go_at_call 73;refine(Bz _ ai.o HG.o H.r.o H.z.o).mono ?_)
  rintro e w9 ⟨g,a,c,rfl,t9,b9,hQ⟩
  clear ai H HG f0 f1 f2 f3 f4 f5 f6 f7 f8 f9 ay au aj ak ff fs q0 q1 q2 q3 q4 qs
  go_wp2_with (refine Bl (f:=g) rfl (.tmp 4) _ rfl rfl rfl t9.o ?_)
  generalize w9.setCells (w.heap.size+1) 0 (g.enc a c)=W9 at *
  exact gZ (lV oN _ W9 (w.heap.size+1) 47 _ (0,0) _ rfl b9.o mO rfl (by kernel_rfl)) rfl hQ.o
theorem rlk6(H:LH Xb w w1 B lo aS aH aF aL cS cH cF cL M f aK cK b){G:Fr}(hp:f.l=5/\Gq f (-1) 0=G\/f.l=6/\Ak { f with h:=-1 } 5=G){j:Nat}(hj:f.h=j)(hl:j<M.s.length):W69 w w1 B b (RQ Xb w (Ac B aS aH aF aL) B lo aK cK (Ff M j) G):=by
 have ig:=H.ns
 have gy:=H.bl
 have jf:=H.nh
 obtain⟨f0,f1,f2,f3,f4,f5,f6,f7,f8,f9,ay,au,aj,ak,ff,fs⟩:=A8 H.e.o.fb
 obtain⟨q0,q1,q2,q3,q4,-,-,-,-,-,qs⟩:=Aj H.e.o.m.box
 rintro C rfl v1 v8 v9 v10 v11 v12 v13
 conv=>arg 2;whnf
 unfold Zo
 rw[hj] at f9
 have hS:Dp M (j:Int)=true:=Ez.2 (by omega)
 have AU:(0:Int)<=(j:Int):=by omega
 rcases hp with ⟨hp,hG⟩|⟨hp,hG⟩
 all_goals
  rw[hp] at f6
  have HG:Qi _:=hG
  clear hp hG
  go_wp2_with fail
  refine(Nl ⟨_,_,_,_,_,_,_,_,H.e.o.m,fun _ h=>h⟩ H.ok.o hS).mono ?_
  rintro e w2 ⟨rfl,ja,ik⟩
  have di:Qi _:=H.e.o.after ja ik
  clear ja ik f0 f1 f2 f3 f4 f5 f6 f7 f8 f9 ay au aj ak ff fs
  obtain⟨f0,f1,f2,f3,f4,f5,f6,f7,f8,f9,ay,au,aj,ak,ff,fs⟩:=A8 di.o.fb
  have ai:Qi (Lk2 Xb w (w2.setCell ⟨w.heap.size,9,none⟩ (O J (-1))) (Ac B aS aH aF aL) B lo (Ff M j) ({ f with h:=-1 }) aK cK):=di.o.store 9 _ _ rfl
  clear di
  go_wp2_with fail
  first|(go_at_call 114;refine(Dx 114 (.inl rfl) _ ai.o HG.o H.r.o H.z.o).mono ?_)|(go_at_call 73;refine(Bz _ ai.o HG.o H.r.o H.z.o).mono ?_)
  rintro e w9 ⟨g,a,c,rfl,t9,b9,hQ⟩
  clear ai H HG f0 f1 f2 f3 f4 f5 f6 f7 f8 f9 ay au aj ak ff fs q0 q1 q2 q3 q4 qs
  go_wp2_with (refine Bl (f:=g) rfl (.tmp 4) _ rfl rfl rfl t9.o ?_)
  generalize w9.setCells (w.heap.size+1) 0 (g.enc a c)=W9 at *
  exact gZ (lV oN _ W9 (w.heap.size+1) 47 _ (0,0) _ rfl b9.o mO rfl (by kernel_rfl)) rfl hQ.o
theorem rlk8(H:LH Xb w w1 B lo aS aH aF aL cS cH cF cL M f aK cK b)(EJ:(f.l=2\/f.l=3)/\f.u<=0\/(f.l=4\/f.l=5\/f.l=6)/\f.h<0\/7<=f.l){G:Fr}(HG:Qi (toF f 0=G)):W69 w w1 B b (RQ Xb w (Ac B aS aH aF aL) B lo aK cK M G):=by
 have ig:=H.ns
 have gy:=H.bl
 have jf:=H.nh
 obtain⟨f0,f1,f2,f3,f4,f5,f6,f7,f8,f9,ay,au,aj,ak,ff,fs⟩:=A8 H.e.o.fb
 obtain⟨q0,q1,q2,q3,q4,-,-,-,-,-,qs⟩:=Aj H.e.o.m.box
 rintro C rfl v1 v8 v9 v10 v11 v12 v13
 conv=>arg 2;whnf
 unfold Zo
 have ai:Qi (Lk2 Xb w (w1) (Ac B aS aH aF aL) B lo M (f) aK cK):=H.e.o.two
 have hA:∀ n:Int,n<7->7<=f.l->(f.l==n)=false:=fun n h h'=>by rw[beq_eq_false_iff_ne];omega
 rcases EJ with ⟨hp|hp,hc⟩|⟨hp|hp|hp,hc⟩|hp
 all_goals
  first
  | rw[hp] at f6
    try have hI:decide (0<f.u)=false:=by rw[decide_eq_false_iff_not];omega
    try have AU:¬ f.h ≥ 0:=by omega
  | have p0:=hA 0 (by decide) hp
    have p1:=hA 1 (by decide) hp
    have p2:=hA 2 (by decide) hp
    have p3:=hA 3 (by decide) hp
    have p4:=hA 4 (by decide) hp
    have p5:=hA 5 (by decide) hp
    have p6:=hA 6 (by decide) hp
  clear hA
  go_wp2_with (go_at_call 115;refine(Ef _ _ (by assumption)).mono ?_;rintro e w3 ⟨rfl,rfl⟩)
  first|(go_at_call 114;refine(Dx 114 (.inl rfl) _ ai.o HG.o H.r.o H.z.o).mono ?_)|(go_at_call 73;refine(Bz _ ai.o HG.o H.r.o H.z.o).mono ?_)
  rintro e w9 ⟨g,a,c,rfl,t9,b9,hQ⟩
  clear ai H HG f0 f1 f2 f3 f4 f5 f6 f7 f8 f9 ay au aj ak ff fs q0 q1 q2 q3 q4 qs
  go_wp2_with (refine Bl (f:=g) rfl (.tmp 4) _ rfl rfl rfl t9.o ?_)
  generalize w9.setCells (w.heap.size+1) 0 (g.enc a c)=W9 at *
  exact gZ (lV oN _ W9 (w.heap.size+1) 47 _ (0,0) _ rfl b9.o mO rfl (by kernel_rfl)) rfl hQ.o
end
end
section
variable {Xb:Ex}
theorem a1q{M:Mm}{f:Fr}{b:Nat}(hb:Fz M.h.length f.c=b)(YX:0<=f.l/\f.l<=9)(hcu:f.u<=M.s.length)(hsl:f.h<M.s.length) :
  (f.l=0/\lkF M f=U6 f (Bq M b) 1/\lkM M f=M) \/
  (f.l=1/\∃ j:Nat,f.u=(j:Int)+1/\j<M.s.length/\lkF M f=toF f (if lkK (Aa M j) f then 3 else 2)/\lkM M f=M) \/
  (f.l=1/\f.u<=0/\lkF M f=(if f.u=-1 - (b:Int) then Ak f 5 else toF f 0)/\lkM M f=M) \/
  (f.l=2/\∃ j:Nat,f.u=(j:Int)+1/\j<M.s.length/\lkF M f=U6 f (Aa M j).next 1/\lkM M f=M) \/
  (f.l=3/\∃ j:Nat,f.u=(j:Int)+1/\j<M.s.length/\lkF M f=(if Si M j then Gq f j 4 else toF f 0)/\lkM M f=holdN M j) \/
  (∃ j:Nat,f.h=j/\j<M.s.length/\((f.l=4/\lkF M f=(if lkK (Aa M j) f && (Aa M j).inn then (if M.w<(Aa M j).unt then Ak f 0 else toF f 6) else toF f 5)/\lkM M f=M)\/(f.l=5/\lkF M f=Gq f (-1) 0/\lkM M f=Ff M j)\/(f.l=6/\lkF M f=Ak { f with h:=-1 } 5/\lkM M f=Ff M j))) \/
  (((f.l=2\/f.l=3)/\f.u<=0\/(f.l=4\/f.l=5\/f.l=6)/\f.h<0\/7<=f.l)/\lkF M f=toF f 0/\lkM M f=M):=by
 have hA:∀ j:Nat,f.u=(j:Int)+1->j<M.s.length->Fe M f=true/\f.u - 1=j:=fun j e h=>⟨Fh.2 (by omega),by omega⟩
 have hA':f.u<=0->Fe M f=false:=fun h=>by
  cases hx:Fe M f
  ·rfl
  ·have:=Fh.1 hx;omega
 have hS:∀ j:Nat,f.h=j->j<M.s.length->Dp M f.h=true:=fun j e h=>Ez.2 (by omega)
 have hS':f.h<0->Dp M f.h=false:=fun h=>by
  cases hx:Dp M f.h
  ·rfl
  ·have:=Ez.1 hx;omega
 have hc:f.u<=0\/∃ j:Nat,f.u=(j:Int)+1/\j<M.s.length:=by
  by_cases h:f.u<=0
  ·exact .inl h
  ·exact .inr ⟨(f.u - 1).toNat,by omega,by omega⟩
 have hs:f.h<0\/∃ j:Nat,f.h=j/\j<M.s.length:=by
  by_cases h:f.h<0
  ·exact .inl h
  ·exact .inr ⟨f.h.toNat,by omega,by omega⟩
 have h7:f.l=0\/f.l=1\/f.l=2\/f.l=3\/f.l=4\/f.l=5\/f.l=6\/7<=f.l:=by omega
 unfold lkF lkM
 rcases h7 with h|h|h|h|h|h|h|h
 ·simp[h,Tq,hb]
 ·rcases hc with hc|⟨j,hj,hl⟩
  ·simp[h,V6,hb,hA' hc,hc]
  ·obtain⟨a1,a2⟩:=hA j hj hl
   refine .inr (.inl ⟨h,j,hj,hl,?_,by simp[h]⟩)
   have:¬ f.u=-1 - (b:Int):=by omega
   simp[h,V6,hb,a1,a2,this]
 ·rcases hc with hc|⟨j,hj,hl⟩
  ·simp[h,O4,hA' hc,hc]
  ·obtain⟨a1,a2⟩:=hA j hj hl
   exact .inr (.inr (.inr (.inl ⟨h,j,hj,hl,by simp[h,O4,a1,a2],by simp[h]⟩)))
 ·rcases hc with hc|⟨j,hj,hl⟩
  ·simp[h,Nz,O0,hA' hc,hc]
  ·obtain⟨a1,a2⟩:=hA j hj hl
   exact .inr (.inr (.inr (.inr (.inl ⟨h,j,hj,hl,by simp[h,Nz,a1,a2],by simp[h,O0,a1,a2]⟩))))
 ·rcases hs with hs|⟨j,hj,hl⟩
  ·simp[h,Lt,hS' hs,hs]
  ·have a1:=hS j hj hl
   exact .inr (.inr (.inr (.inr (.inr (.inl ⟨j,hj,hl,.inl ⟨h,by simp[h,Lt,hj ▸ a1,hj],by simp[h]⟩⟩)))))
 ·rcases hs with hs|⟨j,hj,hl⟩
  ·simp[h,Jp,Es,hS' hs,hs]
  ·have a1:=hS j hj hl
   exact .inr (.inr (.inr (.inr (.inr (.inl ⟨j,hj,hl,.inr (.inl ⟨h,by simp[h,Jp,a1],by simp[h,Es,hj ▸ a1,hj]⟩)⟩)))))
 ·rcases hs with hs|⟨j,hj,hl⟩
  ·simp[h,O1,Es,hS' hs,hs]
  ·have a1:=hS j hj hl
   exact .inr (.inr (.inr (.inr (.inr (.inl ⟨j,hj,hl,.inr (.inr ⟨h,by simp[h,O1,a1],by simp[h,Es,hj ▸ a1,hj]⟩)⟩)))))
 ·refine .inr (.inr (.inr (.inr (.inr (.inr ⟨.inr (.inr h),?_,?_⟩)))))
  ·rw[ae (by omega),ae (by omega),ae (by omega),ae (by omega),ae (by omega),ae (by omega),ae (by omega)]
  ·rw[ae (by omega),ae (by omega),ae (by omega)]
theorem a4d(M:Mm)(f:Fr)(B lo:Nat)(aS aH aF aL:Option Addr)(cS cH cF cL:Nat)(aK:Option Addr)(cK:Nat)(w:Wq)
  (m:Mine Xb w B lo aS aH aF aL cS cH cF cL M) (hM:Ok M) (hf:Fit M f) (r:Az w aK cK f.t) (hz:∀ ad,aK=some ad->¬ Ac B aS aH aF aL ad.block) :
  Calls Pg 69 #[Ae B,Ai f aK cK] w fun e w'=>Ret w w' e (lkF M f) aK cK/\Has Xb w' B lo (Up w (Ac B aS aH aF aL)) (lkM M f)/\Fine w w' (Ac B aS aH aF aL):=by
 unfold Ae Ai
 refine(b1t (R:=RQ Xb w (Ac B aS aH aF aL) B lo aK cK (lkM M f) (lkF M f)) M f B lo aS aH aF aL cS cH cF cL aK cK w m hM hf r hz fun w1 b H=>?_).mono fun e w' h=>⟨⟨aK,cK,h.1.1,h.1.2,fun _ h=>.inl h,fun _=>⟨rfl,rfl⟩⟩,h.2⟩
 rcases a1q H.bb.o hf.l hf.u.2 hf.h.2 with ⟨hp,hG,hN⟩|⟨hp,j,hj,hl,hG,hN⟩|⟨hp,hc,hG,hN⟩|⟨hp,j,hj,hl,hG,hN⟩|⟨hp,j,hj,hl,hG,hN⟩|⟨j,hj,hl,⟨hp,hG,hN⟩|⟨hp,hG,hN⟩|⟨hp,hG,hN⟩⟩|⟨EJ,hG,hN⟩
 all_goals rw[hN]
 ·exact rlk0 H hp hG.symm
 ·exact rlk1 H hp hj hl hG.symm
 ·exact rlk2 H hp hc hG.symm
 ·exact rlk3 H hp hj hl hG.symm
 ·exact rlk4 H hp hj hl hG.symm
 ·exact rlk5 H hp hj hl hG.symm
 ·exact rlk6 H (.inl ⟨hp,hG.symm⟩) hj hl
 ·exact rlk6 H (.inr ⟨hp,hG.symm⟩) hj hl
 ·exact rlk8 H EJ hG.symm
end
end Go.Proofs.YthhgoenomehobaaGreat.mm
