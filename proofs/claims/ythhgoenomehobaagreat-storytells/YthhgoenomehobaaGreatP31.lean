/- Parts. -/
import Derived.Test.YthhgoenomehobaaGreatP26
namespace Go.Proofs.YthhgoenomehobaaGreat.mm
open Calls renaming regrown_of → jE
open Tryz renaming underlying47 → mO, prog → Pg
open Nat renaming le_refl → aC
open Go renaming cell_regrown → fO, results_cell_row → lV, bodyPost_ret → gZ, Calls → aI, redrawn → iC, wp_region_quiet_below → iD, below_regrown → iG, wpQuiet_nil → iL, World → Wq
open Tryz
set_option maxRecDepth 100000
set_option linter.unusedVariables false
open Value renaming int → O, slice → Y
open IntKind renaming i64 → J
open ChangeShapes WideShapes ChangeAt RowKit Joins Deep Go.Sort
set_option maxHeartbeats 0
variable (t:Int)(M:Mm)(f:Fr)(B lo:Nat)(aS aH aF aL:Option Addr)(cS cH cF cL:Nat)(aK:Option Addr)(cK:Nat)(w:Wq)
section
variable {Xb:Ex}
theorem a8y(m:Mine Xb w B lo aS aH aF aL cS cH cF cL M)(hM:Ok M)(hf:Fit M f)(r:Az w aK cK f.t)(hz:∀ ad,aK=some ad->¬ Ac B aS aH aF aL ad.block){G:Fr}(HG:Qi (Lt M f=G)) :
  aI Pg 168 #[Ae B,Ai f aK cK] w (Iw Xb w (Ac B aS aH aF aL) B lo aK cK M G):=by
 unfold Ae Ai
 obtain⟨of,df⟩:=frO f aK cK
 obtain⟨oz,bi⟩:∃ o:Obj,o=Ah:=⟨_,rfl⟩
 obtain⟨b,H,qJ⟩:=LH.first m hM hf r hz df bi
 have ig:=H.ns
 have gy:=H.bl
 have jf:=H.nh
 obtain⟨f0,f1,f2,f3,f4,f5,f6,f7,f8,f9,ay,au,aj,ak,ff,fs⟩:=A8 H.e.o.fb
 obtain⟨q0,q1,q2,q3,q4,-,-,-,-,-,qs⟩:=Aj H.e.o.m.box
 unfold Ah at bi
 clear m hM hf r hz
 go_enter func168,ntmps168
 go_wp2_with fail
 rw[<- df,<- bi]
 generalize (w.alloc of).alloc oz=W0 at *
 subst df bi
 have cS:∀ (d:Nat) (os:Array Obj),aI Pg 111 #[Cm aS aH aF aL cS cH cF cL M,O J f.h] (grow (iC W0 d) os) fun e uh=>e=.returned (.bool (Dp M f.h))/\∃ p:Regrown,uh=grow (iC W0 p.d) p.os:=fun d os=>jE (H.sl _)
 have Q0:=fO q0;have Q1:=fO q1;have Q2:=fO q2;have Q3:=fO q3;have Q4:=fO q4
 have F9:=fO f9
 clear q0 q1 q2 q3 q4 qs f0 f1 f2 f3 f4 f5 f6 f7 f8 f9 ay au aj ak ff fs
 refine iD (by kernel_rfl) (by kernel_rfl) ?_
 repeat (quiet_step (first|exact cS _ _))
 refine iL ?_
 intro _ rq
 obtain⟨⟨dq,rD⟩,ql⟩:=rq
 subst ql
 have H1:=H.below (iG W0 dq rD)
 clear H cS Q0 Q1 Q2 Q3 Q4 F9
 have H:=H1
 clear H1
 generalize grow (iC W0 dq) rD=w1 at *
 obtain⟨f0,f1,f2,f3,f4,f5,f6,f7,f8,f9,ay,au,aj,ak,ff,fs⟩:=A8 H.e.o.fb
 obtain⟨q0,q1,q2,q3,q4,-,-,-,-,-,qs⟩:=Aj H.e.o.m.box
 unfold Lt at HG
 rcases Qm H.fit.o with ⟨hs,h'⟩|⟨j,hj,hl,h'⟩
 ·rw[h'] at HG ⊢
  have ai:Qi _:=H.e.o.two
  go_wp2_with fail
  refine(Fp _ ai.o HG.o H.r.o H.z.o).mono ?_
  rintro e w9 ⟨g,a,c,rfl,t9,b9,hQ⟩
  clear ai H HG f0 f1 f2 f3 f4 f5 f6 f7 f8 f9 ay au aj ak ff fs q0 q1 q2 q3 q4 qs
  go_wp2_with (refine Bl (f:=g) rfl (.tmp 4) _ rfl rfl rfl t9.o ?_)
  generalize w9.setCells (w.heap.size+1) 0 (g.enc a c)=W9 at *
  exact gZ (lV results168 _ W9 (w.heap.size+1) 47 _ (0,0) _ rfl b9.o mO rfl (by kernel_rfl)) rfl hQ.o
 ·rw[h'] at HG ⊢
  rw[af rfl] at HG
  have HF:Qi ({ f with h:=(j:Int) } = f):=by rw[<- hj];exact rfl
  rw[hj] at HG f9
  obtain⟨gS,hS,xs,x0,x1,x2,x3,x4,x5⟩:=H.e.o.Jd ig hl
  rw[hS] at q0
  have vF:(j:Int)<(M.s.length:Int):=by omega
  have se:=LH.seq (Aa M j) f
  have gu:=A7 w1 (.cells #[O J (Aa M j).refs,O J (Aa M j).a,O J (Aa M j).b,O J (Aa M j).unt,.bool (Aa M j).inn,O J (Aa M j).next] 64)
  have tH:Qi _:=gu
  clear gu h' hj
  cases hi:(Aa M j).inn
  all_goals
   cases hk:lkK (Aa M j) f
   all_goals
    rw[hi,hk] at HG
    rw[hk] at se
    rw[hi] at tH x4
    clear hi hk
    simp only[Bool.and_self,Bool.and_true,Bool.and_false,Bool.false_eq_true,if_true,if_false] at HG
    rw[<- HF.o] at HG
    go_wp2_with fail
    go_region
    have mf:Qi _:=(H.e.o.below tH.o).two.below (w2:=(w1.alloc _).drew) ⟨rfl,rfl,rfl,aC _,fun _ _=>rfl⟩
    rw[<- HF.o] at mf
    clear HF tH
    go_wp2_with fail
  rotate_left 3
  focus
   have hq:M.w<(Aa M j).unt/\decide ((Aa M j).unt<=M.w)=false\/¬ M.w<(Aa M j).unt/\decide ((Aa M j).unt<=M.w)=true:=by
    by_cases h:M.w<(Aa M j).unt
    ·exact .inl ⟨h,by rw[decide_eq_false_iff_not];omega⟩
    ·exact .inr ⟨h,by rw[decide_eq_true_iff];omega⟩
   rcases hq with ⟨h,hq⟩|⟨h,hq⟩
   all_goals
    first|rw[af h] at HG|rw[ae h] at HG
    clear h
    go_quiet (fail)
    have ai:Qi _:=mf.o.below (w2:=(w1.alloc _).drewN (1+nq)) ⟨rfl,rfl,rfl,aC _,fun _ _=>rfl⟩
    clear mf
    go_wp2_with fail
  rotate_left 2
  all_goals
   try (have ai:=mf;clear mf)
   first|(go_at_call 171;refine(Fp _ ai.o HG.o H.r.o H.z.o).mono ?_)|(go_at_call 199;refine(Ub _ ai.o HG.o H.r.o H.z.o H.fit.o.t).mono ?_)
   rintro e w9 ⟨g,a,c,rfl,t9,b9,hQ⟩
   clear ai H HG f0 f1 f2 f3 f4 f5 f6 f7 f8 f9 ay au aj ak ff fs q0 q1 q2 q3 q4 qs
   go_wp2_with (refine Bl (f:=g) rfl (.tmp 4) _ rfl rfl rfl t9.o ?_)
   generalize w9.setCells (w.heap.size+1) 0 (g.enc a c)=W9 at *
   exact gZ (lV results168 _ W9 (w.heap.size+1) 47 _ (0,0) _ rfl b9.o mO rfl (by kernel_rfl)) rfl hQ.o
theorem a8x(m:Mine Xb w B lo aS aH aF aL cS cH cF cL M)(hM:Ok M)(hf:Fit M f)(r:Az w aK cK f.t)(hz:∀ ad,aK=some ad->¬ Ac B aS aH aF aL ad.block){G:Fr}(HG:Qi (U6 f (Bq M (bkN M f)) 1=G)) :
  aI Pg 164 #[Ae B,Ai f aK cK] w (Iw Xb w (Ac B aS aH aF aL) B lo aK cK M G):=by
 unfold Ae Ai
 obtain⟨of,df⟩:=frO f aK cK
 obtain⟨oz,bi⟩:∃ o:Obj,o=Ah:=⟨_,rfl⟩
 obtain⟨b,H,qJ⟩:=LH.first m hM hf r hz df bi
 have ig:=H.ns
 have gy:=H.bl
 have jf:=H.nh
 obtain⟨f0,f1,f2,f3,f4,f5,f6,f7,f8,f9,ay,au,aj,ak,ff,fs⟩:=A8 H.e.o.fb
 obtain⟨q0,q1,q2,q3,q4,-,-,-,-,-,qs⟩:=Aj H.e.o.m.box
 unfold Ah at bi
 clear m hM hf r hz
 rw[qJ] at HG
 clear qJ
 go_enter func164,ntmps164
 go_wp2_with fail
 rw[<- df,<- bi]
 generalize (w.alloc of).alloc oz=W0 at *
 subst df bi
 have cB:∀ (d:Nat) (os:Array Obj),aI Pg 34 #[Cm aS aH aF aL cS cH cF cL M,Gj f.c] (grow (iC W0 d) os) fun e uh=>e=.returned (O J (b:Int))/\∃ p:Regrown,uh=grow (iC W0 p.d) p.os:=fun d os=>jE (H.below (iG W0 d os)).q
 have Q0:=fO q0;have Q1:=fO q1;have Q2:=fO q2;have Q3:=fO q3;have Q4:=fO q4
 have F0:=fO f0;have F1:=fO f1;have F2:=fO f2;have F3:=fO f3;have F4:=fO f4;have F5:=fO f5
 clear q0 q1 q2 q3 q4 qs f0 f1 f2 f3 f4 f5 f6 f7 f8 f9 ay au aj ak ff fs
 refine iD (by kernel_rfl) (by kernel_rfl) ?_
 repeat (quiet_step (first|exact cB _ _))
 refine iL ?_
 intro _ rq
 obtain⟨⟨dq,rD⟩,ql⟩:=rq
 subst ql
 have H1:=H.below (iG W0 dq rD)
 clear H cB Q0 Q1 Q2 Q3 Q4 F0 F1 F2 F3 F4 F5
 have H:=H1
 clear H1
 generalize grow (iC W0 dq) rD=w1 at *
 obtain⟨f0,f1,f2,f3,f4,f5,f6,f7,f8,f9,ay,au,aj,ak,ff,fs⟩:=A8 H.e.o.fb
 obtain⟨q0,q1,q2,q3,q4,-,-,-,-,-,qs⟩:=Aj H.e.o.m.box
 go_wp2_with fail
 refine(H7 aS _ aF aL _ _ _ _ cS cH cF cL M.w (b:Int) w1 (by omega)).mono ?_
 rw[show inB (b:Int) 0 ((M.h.length:Int) - 1)=true from (Ar _ _ _).2 (by omega)]
 rintro e w2 ⟨rfl,dm⟩
 have H2:=H.below dm
 clear H dm f0 f1 f2 f3 f4 f5 f6 f7 f8 f9 ay au aj ak ff fs q0 q1 q2 q3 q4 qs
 have H:=H2
 clear H2
 obtain⟨f0,f1,f2,f3,f4,f5,f6,f7,f8,f9,ay,au,aj,ak,ff,fs⟩:=A8 H.e.o.fb
 obtain⟨q0,q1,q2,q3,q4,-,-,-,-,-,qs⟩:=Aj H.e.o.m.box
 obtain⟨gH,hH,hc⟩:=H.head
 rw[hH] at q1
 have ai:Qi _:=H.e.o.two.store 7 (O J (Bq M b)) { f with u:=Bq M b } rfl
 go_wp2_with fail
 refine(Fp _ ai.o HG.o H.r.o H.z.o).mono ?_
 rintro e w9 ⟨g,a,c,rfl,t9,b9,hQ⟩
 clear ai H HG f0 f1 f2 f3 f4 f5 f6 f7 f8 f9 ay au aj ak ff fs q0 q1 q2 q3 q4 qs
 go_wp2_with (refine Bl (f:=g) rfl (.tmp 4) _ rfl rfl rfl t9.o ?_)
 generalize w9.setCells (w.heap.size+1) 0 (g.enc a c)=W9 at *
 exact gZ (lV results164 _ W9 (w.heap.size+1) 47 _ (0,0) _ rfl b9.o mO rfl (by kernel_rfl)) rfl hQ.o
theorem a8w(m:Mine Xb w B lo aS aH aF aL cS cH cF cL M)(hM:Ok M)(hf:Fit M f)(r:Az w aK cK f.t)(hz:∀ ad,aK=some ad->¬ Ac B aS aH aF aL ad.block){G:Fr}(HG:Qi (U6 f (Bq M (bkN M f)) 3=G)) :
  aI Pg 174 #[Ae B,Ai f aK cK] w (Iw Xb w (Ac B aS aH aF aL) B lo aK cK M G):=by
 unfold Ae Ai
 obtain⟨of,df⟩:=frO f aK cK
 obtain⟨oz,bi⟩:∃ o:Obj,o=Ah:=⟨_,rfl⟩
 obtain⟨b,H,qJ⟩:=LH.first m hM hf r hz df bi
 have ig:=H.ns
 have gy:=H.bl
 have jf:=H.nh
 obtain⟨f0,f1,f2,f3,f4,f5,f6,f7,f8,f9,ay,au,aj,ak,ff,fs⟩:=A8 H.e.o.fb
 obtain⟨q0,q1,q2,q3,q4,-,-,-,-,-,qs⟩:=Aj H.e.o.m.box
 unfold Ah at bi
 clear m hM hf r hz
 rw[qJ] at HG
 clear qJ
 go_enter func174,ntmps174
 go_wp2_with fail
 rw[<- df,<- bi]
 generalize (w.alloc of).alloc oz=W0 at *
 subst df bi
 have cB:∀ (d:Nat) (os:Array Obj),aI Pg 34 #[Cm aS aH aF aL cS cH cF cL M,Gj f.c] (grow (iC W0 d) os) fun e uh=>e=.returned (O J (b:Int))/\∃ p:Regrown,uh=grow (iC W0 p.d) p.os:=fun d os=>jE (H.below (iG W0 d os)).q
 have Q0:=fO q0;have Q1:=fO q1;have Q2:=fO q2;have Q3:=fO q3;have Q4:=fO q4
 have F0:=fO f0;have F1:=fO f1;have F2:=fO f2;have F3:=fO f3;have F4:=fO f4;have F5:=fO f5
 clear q0 q1 q2 q3 q4 qs f0 f1 f2 f3 f4 f5 f6 f7 f8 f9 ay au aj ak ff fs
 refine iD (by kernel_rfl) (by kernel_rfl) ?_
 repeat (quiet_step (first|exact cB _ _))
 refine iL ?_
 intro _ rq
 obtain⟨⟨dq,rD⟩,ql⟩:=rq
 subst ql
 have H1:=H.below (iG W0 dq rD)
 clear H cB Q0 Q1 Q2 Q3 Q4 F0 F1 F2 F3 F4 F5
 have H:=H1
 clear H1
 generalize grow (iC W0 dq) rD=w1 at *
 obtain⟨f0,f1,f2,f3,f4,f5,f6,f7,f8,f9,ay,au,aj,ak,ff,fs⟩:=A8 H.e.o.fb
 obtain⟨q0,q1,q2,q3,q4,-,-,-,-,-,qs⟩:=Aj H.e.o.m.box
 go_wp2_with fail
 refine(H7 aS _ aF aL _ _ _ _ cS cH cF cL M.w (b:Int) w1 (by omega)).mono ?_
 rw[show inB (b:Int) 0 ((M.h.length:Int) - 1)=true from (Ar _ _ _).2 (by omega)]
 rintro e w2 ⟨rfl,dm⟩
 have H2:=H.below dm
 clear H dm f0 f1 f2 f3 f4 f5 f6 f7 f8 f9 ay au aj ak ff fs q0 q1 q2 q3 q4 qs
 have H:=H2
 clear H2
 obtain⟨f0,f1,f2,f3,f4,f5,f6,f7,f8,f9,ay,au,aj,ak,ff,fs⟩:=A8 H.e.o.fb
 obtain⟨q0,q1,q2,q3,q4,-,-,-,-,-,qs⟩:=Aj H.e.o.m.box
 obtain⟨gH,hH,hc⟩:=H.head
 rw[hH] at q1
 have ai:Qi _:=H.e.o.two.store 7 (O J (Bq M b)) { f with u:=Bq M b } rfl
 go_wp2_with fail
 refine(Fp _ ai.o HG.o H.r.o H.z.o).mono ?_
 rintro e w9 ⟨g,a,c,rfl,t9,b9,hQ⟩
 clear ai H HG f0 f1 f2 f3 f4 f5 f6 f7 f8 f9 ay au aj ak ff fs q0 q1 q2 q3 q4 qs
 go_wp2_with (refine Bl (f:=g) rfl (.tmp 4) _ rfl rfl rfl t9.o ?_)
 generalize w9.setCells (w.heap.size+1) 0 (g.enc a c)=W9 at *
 exact gZ (lV results174 _ W9 (w.heap.size+1) 47 _ (0,0) _ rfl b9.o mO rfl (by kernel_rfl)) rfl hQ.o
end
section
variable {Xb:Ex}
theorem a5d(m:Mine Xb w B lo aS aH aF aL cS cH cF cL M)(hM:Ok M)(hf:Fit M f)(r:Az w aK cK f.t)(hz:∀ ad,aK=some ad->¬ Ac B aS aH aF aL ad.block){N:Mm}(HN:Qi (Fv M f t=N)){G:Fr}(HG:Qi (Ak f f.e=G)) :
  aI Pg 179 #[Ae B,Ai f aK cK,O J t] w (Iw Xb w (Ac B aS aH aF aL) B lo aK cK N G):=by
 unfold Ae Ai
 obtain⟨of,df⟩:=frO f aK cK
 obtain⟨oz,bi⟩:∃ o:Obj,o=Ah:=⟨_,rfl⟩
 obtain⟨b,H,qJ⟩:=LH.first m hM hf r hz df bi
 have ig:=H.ns
 have gy:=H.bl
 have jf:=H.nh
 obtain⟨f0,f1,f2,f3,f4,f5,f6,f7,f8,f9,ay,au,aj,ak,ff,fs⟩:=A8 H.e.o.fb
 obtain⟨q0,q1,q2,q3,q4,-,-,-,-,-,qs⟩:=Aj H.e.o.m.box
 unfold Ah at bi
 clear m hM hf r hz
 have hN:Nk M b t=N:=by rw[<- HN.o];unfold Fv Nk;rw[qJ]
 subst hN
 clear HN qJ
 go_enter func179,ntmps179
 go_wp2_with fail
 rw[<- df,<- bi]
 generalize (w.alloc of).alloc oz=W0 at *
 subst df bi
 go_region_with (first|(go_at_call 34;refine(H.below (by exact⟨rfl,rfl,rfl,aC _,fun _ _=>rfl⟩)).q.mono ?_;rintro e w1 ⟨rfl,h9⟩;have H1:=H.below (W':=w1) ⟨h9.os,h9.tape,h9.output,h9.size,h9.block⟩;clear H h9)|(go_at_call 207;refine(Pq t ⟨_,_,_,_,_,_,_,_,(H1.e.o.below (by exact⟨rfl,rfl,rfl,aC _,fun _ _=>rfl⟩)).m,fun _ h=>h⟩ H1.ok.o gy).mono ?_;rintro e w2 ⟨rfl,ja,ik⟩;have ai:Qi _:=(H1.e.o.below (by exact⟨rfl,rfl,rfl,aC _,fun _ _=>rfl⟩)).after ja ik;clear ja ik))
 all_goals
  have H:=H1
  clear H1 f0 f1 f2 f3 f4 f5 f6 f7 f8 f9 ay au aj ak ff fs q0 q1 q2 q3 q4 qs
  obtain⟨f0,f1,f2,f3,f4,f5,f6,f7,f8,f9,ay,au,aj,ak,ff,fs⟩:=A8 ai.o.fb
  go_wp2_with fail
  refine(Ub _ ai.o HG.o H.r.o H.z.o H.fit.o.t).mono ?_
  rintro e w9 ⟨g,a,c,rfl,t9,b9,hQ⟩
  clear ai H HG f0 f1 f2 f3 f4 f5 f6 f7 f8 f9 ay au aj ak ff fs
  go_wp2_with (refine Bl (f:=g) rfl (.tmp 6) _ rfl rfl rfl t9.o ?_)
  generalize w9.setCells (w.heap.size+1) 0 (g.enc a c)=W9 at *
  exact gZ (lV results179 _ W9 (w.heap.size+1) 47 _ (0,0) _ rfl b9.o mO rfl (by kernel_rfl)) rfl hQ.o
theorem a5e(m:Mine Xb w B lo aS aH aF aL cS cH cF cL M)(hM:Ok M)(hf:Fit M f)(r:Az w aK cK f.t)(hz:∀ ad,aK=some ad->¬ Ac B aS aH aF aL ad.block){N:Mm}(HN:Qi (Fv M f t=N)){G:Fr}(HG:Qi (toF f 6=G)) :
  aI Pg 186 #[Ae B,Ai f aK cK,O J t] w (Iw Xb w (Ac B aS aH aF aL) B lo aK cK N G):=by
 unfold Ae Ai
 obtain⟨of,df⟩:=frO f aK cK
 obtain⟨oz,bi⟩:∃ o:Obj,o=Ah:=⟨_,rfl⟩
 obtain⟨b,H,qJ⟩:=LH.first m hM hf r hz df bi
 have ig:=H.ns
 have gy:=H.bl
 have jf:=H.nh
 obtain⟨f0,f1,f2,f3,f4,f5,f6,f7,f8,f9,ay,au,aj,ak,ff,fs⟩:=A8 H.e.o.fb
 obtain⟨q0,q1,q2,q3,q4,-,-,-,-,-,qs⟩:=Aj H.e.o.m.box
 unfold Ah at bi
 clear m hM hf r hz
 have hN:Nk M b t=N:=by rw[<- HN.o];unfold Fv Nk;rw[qJ]
 subst hN
 clear HN qJ
 go_enter func186,ntmps186
 go_wp2_with fail
 rw[<- df,<- bi]
 generalize (w.alloc of).alloc oz=W0 at *
 subst df bi
 go_region_with (first|(go_at_call 34;refine(H.below (by exact⟨rfl,rfl,rfl,aC _,fun _ _=>rfl⟩)).q.mono ?_;rintro e w1 ⟨rfl,h9⟩;have H1:=H.below (W':=w1) ⟨h9.os,h9.tape,h9.output,h9.size,h9.block⟩;clear H h9)|(go_at_call 207;refine(Pq t ⟨_,_,_,_,_,_,_,_,(H1.e.o.below (by exact⟨rfl,rfl,rfl,aC _,fun _ _=>rfl⟩)).m,fun _ h=>h⟩ H1.ok.o gy).mono ?_;rintro e w2 ⟨rfl,ja,ik⟩;have ai:Qi _:=(H1.e.o.below (by exact⟨rfl,rfl,rfl,aC _,fun _ _=>rfl⟩)).after ja ik;clear ja ik))
 all_goals
  have H:=H1
  clear H1 f0 f1 f2 f3 f4 f5 f6 f7 f8 f9 ay au aj ak ff fs q0 q1 q2 q3 q4 qs
  obtain⟨f0,f1,f2,f3,f4,f5,f6,f7,f8,f9,ay,au,aj,ak,ff,fs⟩:=A8 ai.o.fb
  go_wp2_with fail
  refine(Fp _ ai.o HG.o H.r.o H.z.o).mono ?_
  rintro e w9 ⟨g,a,c,rfl,t9,b9,hQ⟩
  clear ai H HG f0 f1 f2 f3 f4 f5 f6 f7 f8 f9 ay au aj ak ff fs
  go_wp2_with (refine Bl (f:=g) rfl (.tmp 6) _ rfl rfl rfl t9.o ?_)
  generalize w9.setCells (w.heap.size+1) 0 (g.enc a c)=W9 at *
  exact gZ (lV results186 _ W9 (w.heap.size+1) 47 _ (0,0) _ rfl b9.o mO rfl (by kernel_rfl)) rfl hQ.o
theorem a5f(m:Mine Xb w B lo aS aH aF aL cS cH cF cL M)(hM:Ok M)(hf:Fit M f)(r:Az w aK cK f.t)(hz:∀ ad,aK=some ad->¬ Ac B aS aH aF aL ad.block){N:Mm}(HN:Qi (Fv M f t=N)){G:Fr}(HG:Qi (Ak f 0=G)) :
  aI Pg 195 #[Ae B,Ai f aK cK,O J t] w (RetN Xb w (Ac B aS aH aF aL) B lo N G):=by
 unfold Ae Ai
 obtain⟨of,df⟩:=frO f aK cK
 obtain⟨oz,bi⟩:∃ o:Obj,o=Ah:=⟨_,rfl⟩
 obtain⟨b,H,qJ⟩:=LH.first m hM hf r hz df bi
 have ig:=H.ns
 have gy:=H.bl
 have jf:=H.nh
 obtain⟨f0,f1,f2,f3,f4,f5,f6,f7,f8,f9,ay,au,aj,ak,ff,fs⟩:=A8 H.e.o.fb
 obtain⟨q0,q1,q2,q3,q4,-,-,-,-,-,qs⟩:=Aj H.e.o.m.box
 unfold Ah at bi
 clear m hM hf r hz
 have hN:Nk M b t=N:=by rw[<- HN.o];unfold Fv Nk;rw[qJ]
 subst hN
 clear HN qJ
 go_enter func195,ntmps195
 go_wp2_with fail
 rw[<- df,<- bi]
 generalize (w.alloc of).alloc oz=W0 at *
 subst df bi
 go_region_with (first|(go_at_call 34;refine(H.below (by exact⟨rfl,rfl,rfl,aC _,fun _ _=>rfl⟩)).q.mono ?_;rintro e w1 ⟨rfl,h9⟩;have H1:=H.below (W':=w1) ⟨h9.os,h9.tape,h9.output,h9.size,h9.block⟩;clear H h9)|(go_at_call 207;refine(Pq t ⟨_,_,_,_,_,_,_,_,(H1.e.o.below (by exact⟨rfl,rfl,rfl,aC _,fun _ _=>rfl⟩)).m,fun _ h=>h⟩ H1.ok.o gy).mono ?_;rintro e w2 ⟨rfl,ja,ik⟩;have ai:Qi _:=(H1.e.o.below (by exact⟨rfl,rfl,rfl,aC _,fun _ _=>rfl⟩)).after ja ik;clear ja ik))
 all_goals
  have H:=H1
  clear H1 f0 f1 f2 f3 f4 f5 f6 f7 f8 f9 ay au aj ak ff fs q0 q1 q2 q3 q4 qs
  obtain⟨f0,f1,f2,f3,f4,f5,f6,f7,f8,f9,ay,au,aj,ak,ff,fs⟩:=A8 ai.o.fb
  go_wp2_with fail
  refine(a5h _ ai.o HG.o H.r.o H.z.o).mono ?_
  rintro e w9 ⟨g,a,c,rfl,t9,b9,hQ⟩
  clear ai H HG f0 f1 f2 f3 f4 f5 f6 f7 f8 f9 ay au aj ak ff fs
  go_wp2_with (refine Bl (f:=g) rfl (.tmp 6) _ rfl rfl rfl t9.o ?_)
  generalize w9.setCells (w.heap.size+1) 0 (g.enc a c)=W9 at *
  exact gZ (lV results195 _ W9 (w.heap.size+1) 47 _ (0,0) _ rfl b9.o mO rfl (by kernel_rfl)) rfl hQ.o
end
end Go.Proofs.YthhgoenomehobaaGreat.mm
