/- Parts. -/
import Derived.Test.YthhgoenomehobaaGreatP26
namespace Go.Proofs.YthhgoenomehobaaGreat.mm
open Tryz renaming underlying47 → mO, results165 → mP, prog → Pg
open Go renaming cell_regrown → fO, results_cell_row → lV, bodyPost_ret → gZ, Calls → aI, redrawn → iC, World → Wq
open Tryz
set_option maxRecDepth 100000
set_option linter.unusedVariables false
open Value renaming int → O, slice → Y
open IntKind renaming i64 → J
open ChangeShapes WideShapes ChangeAt RowKit Joins Deep Go.Sort
set_option maxHeartbeats 0
variable (M:Mm)(f:Fr)(B lo:Nat)(aS aH aF aL:Option Addr)(cS cH cF cL:Nat)(aK:Option Addr)(cK:Nat)(w:Wq)
section
variable {Xb:Ex}
theorem b4z(m:Mine Xb w B lo aS aH aF aL cS cH cF cL M)(hM:Ok M)(hf:Fit M f)(r:Az w aK cK f.t)(hz:∀ ad,aK=some ad->¬ Ac B aS aH aF aL ad.block){G:Fr}(HG:Qi (Un M f=G)) :
  aI Pg 175 #[Ae B,Ai f aK cK] w (Iw Xb w (Ac B aS aH aF aL) B lo aK cK M G):=by
 unfold Ae Ai
 obtain⟨of,df⟩:=frO f aK cK
 obtain⟨oz,bi⟩:∃ o:Obj,o=Ah:=⟨_,rfl⟩
 obtain⟨b,H,qJ⟩:=LH.first m hM hf r hz df bi
 have ig:=H.ns
 have gy:=H.bl
 have jf:=H.nh
 obtain⟨f0,f1,f2,f3,f4,f5,f6,f7,f8,f9,ay,au,aj,ak,ff,fs⟩:=A8 H.e.o.fb
 obtain⟨q0,q1,q2,q3,q4,-,-,-,-,-,qs⟩:=Aj H.e.o.m.box
 unfold Ah at bi
 clear m hM hf r hz
 go_enter func175,ntmps175
 go_wp2_with fail
 rw[<- df,<- bi]
 generalize (w.alloc of).alloc oz=W0 at *
 subst df bi
 refine H.stands.mono ?_
 clear H
 rintro e w1 ⟨rfl,H⟩
 clear f0 f1 f2 f3 f4 f5 f6 f7 f8 f9 ay au aj ak ff fs q0 q1 q2 q3 q4 qs
 obtain⟨f0,f1,f2,f3,f4,f5,f6,f7,f8,f9,ay,au,aj,ak,ff,fs⟩:=A8 H.e.o.fb
 obtain⟨q0,q1,q2,q3,q4,-,-,-,-,-,qs⟩:=Aj H.e.o.m.box
 rcases J9 H.fit.o with ⟨hc,ha,hw⟩|⟨j,hj,hl,ha,rq,hw⟩
 ·unfold Un at HG
  rw[ha] at HG
  rw[ha,hw]
  have ai:Qi _:=H.e.o.two
  go_wp2_with fail
  refine(Fp _ ai.o HG.o H.r.o H.z.o).mono ?_
  rintro e w9 ⟨g,a,c,rfl,t9,b9,hQ⟩
  clear ai H HG f0 f1 f2 f3 f4 f5 f6 f7 f8 f9 ay au aj ak ff fs q0 q1 q2 q3 q4 qs
  go_wp2_with (refine Bl (f:=g) rfl (.tmp 4) _ rfl rfl rfl t9.o ?_)
  generalize w9.setCells (w.heap.size+1) 0 (g.enc a c)=W9 at *
  exact gZ (lV results175 _ W9 (w.heap.size+1) 47 _ (0,0) _ rfl b9.o mO rfl (by kernel_rfl)) rfl hQ.o
 ·unfold Un at HG
  rw[ha,rq] at HG
  rw[ha,hw]
  clear ha hw rq hj
  have se:=LH.seq (Aa M j) f
  obtain⟨gS,hS,xs,x0,x1,x2,x3,x4,x5⟩:=H.e.o.Jd ig hl
  rw[hS] at q0
  have vF:(j:Int)<(M.s.length:Int):=by omega
  cases hk:lkK (Aa M j) f
  all_goals
   rw[hk] at se HG
   clear hk
   go_wp2_with fail
   go_quiet (fail)
   go_wp2_with fail
   have ai:Qi (Lk2 Xb w (w1.drewN nq) (Ac B aS aH aF aL) B lo M (f) aK cK):=(H.e.o.below (w2:=w1.drewN nq) ⟨rfl,rfl,rfl,Nat.le_refl _,fun _ _=>rfl⟩).two
   refine(Fp _ ai.o HG.o H.r.o H.z.o).mono ?_
   rintro e w9 ⟨g,a,c,rfl,t9,b9,hQ⟩
   clear ai H HG f0 f1 f2 f3 f4 f5 f6 f7 f8 f9 ay au aj ak ff fs q0 q1 q2 q3 q4 qs
   go_wp2_with (refine Bl (f:=g) rfl (.tmp 4) _ rfl rfl rfl t9.o ?_)
   generalize w9.setCells (w.heap.size+1) 0 (g.enc a c)=W9 at *
   exact gZ (lV results175 _ W9 (w.heap.size+1) 47 _ (0,0) _ rfl b9.o mO rfl (by kernel_rfl)) rfl hQ.o
theorem b5b(m:Mine Xb w B lo aS aH aF aL cS cH cF cL M)(hM:Ok M)(hf:Fit M f)(r:Az w aK cK f.t)(hz:∀ ad,aK=some ad->¬ Ac B aS aH aF aL ad.block){G:Fr}(HG:Qi (Ut M f=G)) :
  aI Pg 183 #[Ae B,Ai f aK cK] w (Iw Xb w (Ac B aS aH aF aL) B lo aK cK M G):=by
 unfold Ae Ai
 obtain⟨of,df⟩:=frO f aK cK
 obtain⟨oz,bi⟩:∃ o:Obj,o=Ah:=⟨_,rfl⟩
 obtain⟨b,H,qJ⟩:=LH.first m hM hf r hz df bi
 have ig:=H.ns
 have gy:=H.bl
 have jf:=H.nh
 obtain⟨f0,f1,f2,f3,f4,f5,f6,f7,f8,f9,ay,au,aj,ak,ff,fs⟩:=A8 H.e.o.fb
 obtain⟨q0,q1,q2,q3,q4,-,-,-,-,-,qs⟩:=Aj H.e.o.m.box
 unfold Ah at bi
 clear m hM hf r hz
 go_enter func183,ntmps183
 go_wp2_with fail
 rw[<- df,<- bi]
 generalize (w.alloc of).alloc oz=W0 at *
 subst df bi
 refine H.stands.mono ?_
 clear H
 rintro e w1 ⟨rfl,H⟩
 clear f0 f1 f2 f3 f4 f5 f6 f7 f8 f9 ay au aj ak ff fs q0 q1 q2 q3 q4 qs
 obtain⟨f0,f1,f2,f3,f4,f5,f6,f7,f8,f9,ay,au,aj,ak,ff,fs⟩:=A8 H.e.o.fb
 obtain⟨q0,q1,q2,q3,q4,-,-,-,-,-,qs⟩:=Aj H.e.o.m.box
 rcases J9 H.fit.o with ⟨hc,ha,hw⟩|⟨j,hj,hl,ha,rq,hw⟩
 ·unfold Ut at HG
  rw[ha] at HG
  rw[ha,hw]
  have ai:Qi _:=H.e.o.two.store 13 (O J 5) { f with e:=5 } rfl
  go_wp2_with fail
  refine(Fp _ ai.o HG.o H.r.o H.z.o).mono ?_
  rintro e w9 ⟨g,a,c,rfl,t9,b9,hQ⟩
  clear ai H HG f0 f1 f2 f3 f4 f5 f6 f7 f8 f9 ay au aj ak ff fs q0 q1 q2 q3 q4 qs
  go_wp2_with (refine Bl (f:=g) rfl (.tmp 4) _ rfl rfl rfl t9.o ?_)
  generalize w9.setCells (w.heap.size+1) 0 (g.enc a c)=W9 at *
  exact gZ (lV results183 _ W9 (w.heap.size+1) 47 _ (0,0) _ rfl b9.o mO rfl (by kernel_rfl)) rfl hQ.o
 ·unfold Ut at HG
  rw[ha,rq] at HG
  rw[ha,hw]
  clear ha hw rq hj
  have se:=LH.seq (Aa M j) f
  obtain⟨gS,hS,xs,x0,x1,x2,x3,x4,x5⟩:=H.e.o.Jd ig hl
  rw[hS] at q0
  have vF:(j:Int)<(M.s.length:Int):=by omega
  cases hk:lkK (Aa M j) f
  all_goals
   rw[hk] at se HG
   clear hk
   go_wp2_with fail
   go_quiet (fail)
   go_wp2_with fail
   have ai:Qi (Lk2 Xb w (w1.drewN nq) (Ac B aS aH aF aL) B lo M (f) aK cK):=(H.e.o.below (w2:=w1.drewN nq) ⟨rfl,rfl,rfl,Nat.le_refl _,fun _ _=>rfl⟩).two
   refine(Fp _ ai.o HG.o H.r.o H.z.o).mono ?_
   rintro e w9 ⟨g,a,c,rfl,t9,b9,hQ⟩
   clear ai H HG f0 f1 f2 f3 f4 f5 f6 f7 f8 f9 ay au aj ak ff fs q0 q1 q2 q3 q4 qs
   go_wp2_with (refine Bl (f:=g) rfl (.tmp 4) _ rfl rfl rfl t9.o ?_)
   generalize w9.setCells (w.heap.size+1) 0 (g.enc a c)=W9 at *
   exact gZ (lV results183 _ W9 (w.heap.size+1) 47 _ (0,0) _ rfl b9.o mO rfl (by kernel_rfl)) rfl hQ.o
theorem b2z(m:Mine Xb w B lo aS aH aF aL cS cH cF cL M)(hM:Ok M)(hf:Fit M f)(r:Az w aK cK f.t)(hz:∀ ad,aK=some ad->¬ Ac B aS aH aF aL ad.block){G:Fr}(HG:Qi (O4 M f=G)) :
  aI Pg 166 #[Ae B,Ai f aK cK] w (Iw Xb w (Ac B aS aH aF aL) B lo aK cK M G):=by
 unfold Ae Ai
 obtain⟨of,df⟩:=frO f aK cK
 obtain⟨oz,bi⟩:∃ o:Obj,o=Ah:=⟨_,rfl⟩
 obtain⟨b,H,qJ⟩:=LH.first m hM hf r hz df bi
 have ig:=H.ns
 have gy:=H.bl
 have jf:=H.nh
 obtain⟨f0,f1,f2,f3,f4,f5,f6,f7,f8,f9,ay,au,aj,ak,ff,fs⟩:=A8 H.e.o.fb
 obtain⟨q0,q1,q2,q3,q4,-,-,-,-,-,qs⟩:=Aj H.e.o.m.box
 unfold Ah at bi
 clear m hM hf r hz
 go_enter func166,ntmps166
 go_wp2_with fail
 rw[<- df,<- bi]
 generalize (w.alloc of).alloc oz=W0 at *
 subst df bi
 refine H.stands.mono ?_
 clear H
 rintro e w1 ⟨rfl,H⟩
 clear f0 f1 f2 f3 f4 f5 f6 f7 f8 f9 ay au aj ak ff fs q0 q1 q2 q3 q4 qs
 obtain⟨f0,f1,f2,f3,f4,f5,f6,f7,f8,f9,ay,au,aj,ak,ff,fs⟩:=A8 H.e.o.fb
 obtain⟨q0,q1,q2,q3,q4,-,-,-,-,-,qs⟩:=Aj H.e.o.m.box
 rcases J9 H.fit.o with ⟨hc,ha,hw⟩|⟨j,hj,hl,ha,rq,hw⟩
 ·unfold O4 at HG
  rw[ha] at HG
  rw[ha,hw]
  have ai:Qi _:=H.e.o.two
  go_wp2_with fail
  refine(Fp _ ai.o HG.o H.r.o H.z.o).mono ?_
  rintro e w9 ⟨g,a,c,rfl,t9,b9,hQ⟩
  clear ai H HG f0 f1 f2 f3 f4 f5 f6 f7 f8 f9 ay au aj ak ff fs q0 q1 q2 q3 q4 qs
  go_wp2_with (refine Bl (f:=g) rfl (.tmp 4) _ rfl rfl rfl t9.o ?_)
  generalize w9.setCells (w.heap.size+1) 0 (g.enc a c)=W9 at *
  exact gZ (lV results166 _ W9 (w.heap.size+1) 47 _ (0,0) _ rfl b9.o mO rfl (by kernel_rfl)) rfl hQ.o
 ·unfold O4 at HG
  rw[ha,rq] at HG
  rw[ha,hw]
  clear ha hw rq hj
  obtain⟨gS,hS,xs,x0,x1,x2,x3,x4,x5⟩:=H.e.o.Jd ig hl
  rw[hS] at q0
  have vF:(j:Int)<(M.s.length:Int):=by omega
  have ai:Qi _:=H.e.o.two.store 7 (O J (Aa M j).next) { f with u:=(Aa M j).next } rfl
  go_wp2_with fail
  refine(Fp _ ai.o HG.o H.r.o H.z.o).mono ?_
  rintro e w9 ⟨g,a,c,rfl,t9,b9,hQ⟩
  clear ai H HG f0 f1 f2 f3 f4 f5 f6 f7 f8 f9 ay au aj ak ff fs q0 q1 q2 q3 q4 qs
  go_wp2_with (refine Bl (f:=g) rfl (.tmp 4) _ rfl rfl rfl t9.o ?_)
  generalize w9.setCells (w.heap.size+1) 0 (g.enc a c)=W9 at *
  exact gZ (lV results166 _ W9 (w.heap.size+1) 47 _ (0,0) _ rfl b9.o mO rfl (by kernel_rfl)) rfl hQ.o
theorem b2u(m:Mine Xb w B lo aS aH aF aL cS cH cF cL M)(hM:Ok M)(hf:Fit M f)(r:Az w aK cK f.t)(hz:∀ ad,aK=some ad->¬ Ac B aS aH aF aL ad.block){G:Fr}(HG:Qi (Oq M f=G)) :
  aI Pg 176 #[Ae B,Ai f aK cK] w (Iw Xb w (Ac B aS aH aF aL) B lo aK cK M G):=by
 unfold Ae Ai
 obtain⟨of,df⟩:=frO f aK cK
 obtain⟨oz,bi⟩:∃ o:Obj,o=Ah:=⟨_,rfl⟩
 obtain⟨b,H,qJ⟩:=LH.first m hM hf r hz df bi
 have ig:=H.ns
 have gy:=H.bl
 have jf:=H.nh
 obtain⟨f0,f1,f2,f3,f4,f5,f6,f7,f8,f9,ay,au,aj,ak,ff,fs⟩:=A8 H.e.o.fb
 obtain⟨q0,q1,q2,q3,q4,-,-,-,-,-,qs⟩:=Aj H.e.o.m.box
 unfold Ah at bi
 clear m hM hf r hz
 go_enter func176,ntmps176
 go_wp2_with fail
 rw[<- df,<- bi]
 generalize (w.alloc of).alloc oz=W0 at *
 subst df bi
 refine H.stands.mono ?_
 clear H
 rintro e w1 ⟨rfl,H⟩
 clear f0 f1 f2 f3 f4 f5 f6 f7 f8 f9 ay au aj ak ff fs q0 q1 q2 q3 q4 qs
 obtain⟨f0,f1,f2,f3,f4,f5,f6,f7,f8,f9,ay,au,aj,ak,ff,fs⟩:=A8 H.e.o.fb
 obtain⟨q0,q1,q2,q3,q4,-,-,-,-,-,qs⟩:=Aj H.e.o.m.box
 rcases J9 H.fit.o with ⟨hc,ha,hw⟩|⟨j,hj,hl,ha,rq,hw⟩
 ·unfold Oq at HG
  rw[ha] at HG
  rw[ha,hw]
  have ai:Qi _:=H.e.o.two
  go_wp2_with fail
  refine(a5o ai.o HG.o H.r.o H.z.o).mono ?_
  rintro e w9 ⟨g,a,c,rfl,t9,b9,hQ⟩
  clear ai H HG f0 f1 f2 f3 f4 f5 f6 f7 f8 f9 ay au aj ak ff fs q0 q1 q2 q3 q4 qs
  go_wp2_with (refine Bl (f:=g) rfl (.tmp 4) _ rfl rfl rfl t9.o ?_)
  generalize w9.setCells (w.heap.size+1) 0 (g.enc a c)=W9 at *
  exact gZ (lV results176 _ W9 (w.heap.size+1) 47 _ (0,0) _ rfl b9.o mO rfl (by kernel_rfl)) rfl hQ.o
 ·unfold Oq at HG
  rw[ha,rq] at HG
  rw[ha,hw]
  clear ha hw rq hj
  obtain⟨gS,hS,xs,x0,x1,x2,x3,x4,x5⟩:=H.e.o.Jd ig hl
  rw[hS] at q0
  have vF:(j:Int)<(M.s.length:Int):=by omega
  have ai:Qi _:=H.e.o.two.store 7 (O J (Aa M j).next) { f with u:=(Aa M j).next } rfl
  go_wp2_with fail
  refine(Fp _ ai.o HG.o H.r.o H.z.o).mono ?_
  rintro e w9 ⟨g,a,c,rfl,t9,b9,hQ⟩
  clear ai H HG f0 f1 f2 f3 f4 f5 f6 f7 f8 f9 ay au aj ak ff fs q0 q1 q2 q3 q4 qs
  go_wp2_with (refine Bl (f:=g) rfl (.tmp 4) _ rfl rfl rfl t9.o ?_)
  generalize w9.setCells (w.heap.size+1) 0 (g.enc a c)=W9 at *
  exact gZ (lV results176 _ W9 (w.heap.size+1) 47 _ (0,0) _ rfl b9.o mO rfl (by kernel_rfl)) rfl hQ.o
theorem b2x(m:Mine Xb w B lo aS aH aF aL cS cH cF cL M)(hM:Ok M)(hf:Fit M f)(r:Az w aK cK f.t)(hz:∀ ad,aK=some ad->¬ Ac B aS aH aF aL ad.block){N:Mm}(HN:Qi (O0 M f=N)){G:Fr}(HG:Qi (Nz M f=G)) :
  aI Pg 167 #[Ae B,Ai f aK cK] w (Iw Xb w (Ac B aS aH aF aL) B lo aK cK N G):=by
 unfold Ae Ai
 obtain⟨of,df⟩:=frO f aK cK
 obtain⟨oz,bi⟩:∃ o:Obj,o=Ah:=⟨_,rfl⟩
 obtain⟨b,H,qJ⟩:=LH.first m hM hf r hz df bi
 have ig:=H.ns
 have gy:=H.bl
 have jf:=H.nh
 obtain⟨f0,f1,f2,f3,f4,f5,f6,f7,f8,f9,ay,au,aj,ak,ff,fs⟩:=A8 H.e.o.fb
 obtain⟨q0,q1,q2,q3,q4,-,-,-,-,-,qs⟩:=Aj H.e.o.m.box
 unfold Ah at bi
 clear m hM hf r hz
 go_enter func167,ntmps167
 go_wp2_with fail
 rw[<- df,<- bi]
 generalize (w.alloc of).alloc oz=W0 at *
 subst df bi
 refine H.stands.mono ?_
 clear H
 rintro e w1 ⟨rfl,H⟩
 clear f0 f1 f2 f3 f4 f5 f6 f7 f8 f9 ay au aj ak ff fs q0 q1 q2 q3 q4 qs
 obtain⟨f0,f1,f2,f3,f4,f5,f6,f7,f8,f9,ay,au,aj,ak,ff,fs⟩:=A8 H.e.o.fb
 obtain⟨q0,q1,q2,q3,q4,-,-,-,-,-,qs⟩:=Aj H.e.o.m.box
 rcases J9 H.fit.o with ⟨hc,ha,hw⟩|⟨j,hj,hl,ha,rq,hw⟩
 ·unfold Nz at HG
  rw[ha] at HG
  have hN:M=N:=by rw[<- HN.o];unfold O0;rw[ha];rfl
  subst hN
  rw[ha,hw]
  have ai:Qi _:=H.e.o.two
  go_wp2_with fail
  refine(Fp _ ai.o HG.o H.r.o H.z.o).mono ?_
  rintro e w9 ⟨g,a,c,rfl,t9,b9,hQ⟩
  clear ai H HG f0 f1 f2 f3 f4 f5 f6 f7 f8 f9 ay au aj ak ff fs q0 q1 q2 q3 q4 qs
  go_wp2_with (refine Bl (f:=g) rfl (.tmp 4) _ rfl rfl rfl t9.o ?_)
  generalize w9.setCells (w.heap.size+1) 0 (g.enc a c)=W9 at *
  exact gZ (lV results167 _ W9 (w.heap.size+1) 47 _ (0,0) _ rfl b9.o mO rfl (by kernel_rfl)) rfl hQ.o
 ·unfold Nz at HG
  rw[ha,rq] at HG
  have hN:holdN M j=N:=by rw[<- HN.o];unfold O0;rw[ha,rq];rfl
  subst hN
  rw[ha,hw]
  clear ha hw rq hj HN
  have hS:Dp M (j:Int)=true:=Ez.2 (by omega)
  go_wp2_with fail
  refine(a7b ⟨_,_,_,_,_,_,_,_,H.e.o.m,fun _ h=>h⟩ H.ok.o hS).mono ?_
  rintro e w2 ⟨rfl,ja,ik⟩
  have di:Qi _:=H.e.o.after ja ik
  clear ja ik f0 f1 f2 f3 f4 f5 f6 f7 f8 f9 ay au aj ak ff fs q0 q1 q2 q3 q4 qs
  obtain⟨f0,f1,f2,f3,f4,f5,f6,f7,f8,f9,ay,au,aj,ak,ff,fs⟩:=A8 di.o.fb
  rw[Bool.true_and] at HG
  cases hk:Si M j
  all_goals
   rw[hk] at HG
   clear hk
  focus
   have ai:=di
   go_wp2_with fail
  rotate_left
  focus
   have ai:Qi (Lk2 Xb w (w2.setCell ⟨w.heap.size,9,none⟩ (O J (j:Int))) (Ac B aS aH aF aL) B lo (holdN M j) ({ f with h:=(j:Int) }) aK cK):=di.o.store 9 _ _ rfl
   go_wp2_with fail
  all_goals
   clear di
   refine(Fp _ ai.o HG.o H.r.o H.z.o).mono ?_
   rintro e w9 ⟨g,a,c,rfl,t9,b9,hQ⟩
   clear ai H HG f0 f1 f2 f3 f4 f5 f6 f7 f8 f9 ay au aj ak ff fs
   go_wp2_with (refine Bl (f:=g) rfl (.tmp 4) _ rfl rfl rfl t9.o ?_)
   generalize w9.setCells (w.heap.size+1) 0 (g.enc a c)=W9 at *
   exact gZ (lV results167 _ W9 (w.heap.size+1) 47 _ (0,0) _ rfl b9.o mO rfl (by kernel_rfl)) rfl hQ.o
theorem b5c(m:Mine Xb w B lo aS aH aF aL cS cH cF cL M)(hM:Ok M)(hf:Fit M f)(r:Az w aK cK f.t)(hz:∀ ad,aK=some ad->¬ Ac B aS aH aF aL ad.block){G:Fr}(HG:Qi (V6 M f=G)) :
  aI Pg 165 #[Ae B,Ai f aK cK] w (Iw Xb w (Ac B aS aH aF aL) B lo aK cK M G):=by
 unfold Ae Ai
 obtain⟨of,df⟩:=frO f aK cK
 obtain⟨oz,bi⟩:∃ o:Obj,o=Ah:=⟨_,rfl⟩
 obtain⟨b,H,qJ⟩:=LH.first m hM hf r hz df bi
 have ig:=H.ns
 have gy:=H.bl
 have jf:=H.nh
 obtain⟨f0,f1,f2,f3,f4,f5,f6,f7,f8,f9,ay,au,aj,ak,ff,fs⟩:=A8 H.e.o.fb
 obtain⟨q0,q1,q2,q3,q4,-,-,-,-,-,qs⟩:=Aj H.e.o.m.box
 unfold Ah at bi
 clear m hM hf r hz
 go_enter func165,ntmps165
 go_wp2_with fail
 rw[<- df,<- bi]
 generalize (w.alloc of).alloc oz=W0 at *
 subst df bi
 have cB:∀ (d:Nat) (os:Array Obj),aI Pg 34 #[Cm aS aH aF aL cS cH cF cL M,Gj f.c] (grow (iC W0 d) os) fun e uh=>e=.returned (O J (b:Int))/\∃ p:Regrown,uh=grow (iC W0 p.d) p.os:=fun d os=>Calls.regrown_of (H.below (below_regrown W0 d os)).q
 have cT:∀ (d:Nat) (os:Array Obj),aI Pg 108 #[O J (b:Int)] (grow (iC W0 d) os) fun e uh=>e=.returned (O J (-1 - (b:Int)))/\∃ p:Regrown,uh=grow (iC W0 p.d) p.os:=fun d os=>Calls.regrown_of ((Qd _ _ (by omega) (by omega)).mono (by rintro e w' ⟨rfl,rfl⟩;exact⟨rfl,Below.refl _ _⟩))
 have Q0:=fO q0;have Q1:=fO q1;have Q2:=fO q2;have Q3:=fO q3;have Q4:=fO q4
 have F0:=fO f0;have F1:=fO f1;have F2:=fO f2;have F3:=fO f3;have F4:=fO f4;have F5:=fO f5;have F7:=fO f7
 clear q0 q1 q2 q3 q4 qs f0 f1 f2 f3 f4 f5 f6 f7 f8 f9 ay au aj ak ff fs
 refine wp_region_quiet_below (by kernel_rfl) (by kernel_rfl) ?_
 repeat (quiet_step (first|exact cB _ _|exact cT _ _))
 refine wpQuiet_nil ?_
 intro _ rq
 obtain⟨⟨dq,rD⟩,ql⟩:=rq
 subst ql
 have H1:=H.below (below_regrown W0 dq rD)
 clear H cB cT Q0 Q1 Q2 Q3 Q4 F0 F1 F2 F3 F4 F5 F7
 have H:=H1
 clear H1
 generalize grow (iC W0 dq) rD=w1 at *
 obtain⟨f0,f1,f2,f3,f4,f5,f6,f7,f8,f9,ay,au,aj,ak,ff,fs⟩:=A8 H.e.o.fb
 obtain⟨q0,q1,q2,q3,q4,-,-,-,-,-,qs⟩:=Aj H.e.o.m.box
 have wW:Fz M.h.length f.c=b:=H.bb.o
 unfold V6 at HG
 rw[wW] at HG
 clear wW qJ
 have hq:f.u=-1 - (b:Int)/\(f.u == -1 - (b:Int))=true\/¬ f.u=-1 - (b:Int)/\(f.u == -1 - (b:Int))=false:=by
  by_cases h:f.u=-1 - (b:Int) <;> simp[h]
 rcases hq with ⟨h,hq⟩|⟨h,hq⟩
 ·rw[af h] at HG
  clear h
  have ai:Qi _:=H.e.o.two
  go_wp2_with fail
  refine(Ub _ ai.o HG.o H.r.o H.z.o H.fit.o.t).mono ?_
  rintro e w9 ⟨g,a,c,rfl,t9,b9,hQ⟩
  clear ai H HG f0 f1 f2 f3 f4 f5 f6 f7 f8 f9 ay au aj ak ff fs q0 q1 q2 q3 q4 qs
  go_wp2_with (refine Bl (f:=g) rfl (.tmp 4) _ rfl rfl rfl t9.o ?_)
  generalize w9.setCells (w.heap.size+1) 0 (g.enc a c)=W9 at *
  exact gZ (lV mP _ W9 (w.heap.size+1) 47 _ (0,0) _ rfl b9.o mO rfl (by kernel_rfl)) rfl hQ.o
 ·rw[ae h] at HG
  clear h
  go_wp2_with fail
  refine H.stands.mono ?_
  clear H
  rintro e w2 ⟨rfl,H⟩
  clear f0 f1 f2 f3 f4 f5 f6 f7 f8 f9 ay au aj ak ff fs q0 q1 q2 q3 q4 qs
  obtain⟨f0,f1,f2,f3,f4,f5,f6,f7,f8,f9,ay,au,aj,ak,ff,fs⟩:=A8 H.e.o.fb
  obtain⟨q0,q1,q2,q3,q4,-,-,-,-,-,qs⟩:=Aj H.e.o.m.box
  rcases J9 H.fit.o with ⟨hc,ha,hw⟩|⟨j,hj,hl,ha,rq,hw⟩
  ·rw[ha] at HG
   rw[ha,hw]
   have ai:Qi _:=H.e.o.two
   go_wp2_with fail
   refine(Fp _ ai.o HG.o H.r.o H.z.o).mono ?_
   rintro e w9 ⟨g,a,c,rfl,t9,b9,hQ⟩
   clear ai H HG f0 f1 f2 f3 f4 f5 f6 f7 f8 f9 ay au aj ak ff fs q0 q1 q2 q3 q4 qs
   go_wp2_with (refine Bl (f:=g) rfl (.tmp 4) _ rfl rfl rfl t9.o ?_)
   generalize w9.setCells (w.heap.size+1) 0 (g.enc a c)=W9 at *
   exact gZ (lV mP _ W9 (w.heap.size+1) 47 _ (0,0) _ rfl b9.o mO rfl (by kernel_rfl)) rfl hQ.o
  ·rw[ha,rq] at HG
   rw[ha,hw]
   clear ha hw rq hj hq
   have se:=LH.seq (Aa M j) f
   obtain⟨gS,hS,xs,x0,x1,x2,x3,x4,x5⟩:=H.e.o.Jd ig hl
   rw[hS] at q0
   have vF:(j:Int)<(M.s.length:Int):=by omega
   cases hk:lkK (Aa M j) f
   all_goals
    rw[hk] at se HG
    clear hk
    go_wp2_with fail
    go_quiet (fail)
    go_wp2_with fail
    have ai:Qi (Lk2 Xb w (w2.drewN nq) (Ac B aS aH aF aL) B lo M (f) aK cK):=(H.e.o.below (w2:=w2.drewN nq) ⟨rfl,rfl,rfl,Nat.le_refl _,fun _ _=>rfl⟩).two
    refine(Fp _ ai.o HG.o H.r.o H.z.o).mono ?_
    rintro e w9 ⟨g,a,c,rfl,t9,b9,hQ⟩
    clear ai H HG f0 f1 f2 f3 f4 f5 f6 f7 f8 f9 ay au aj ak ff fs q0 q1 q2 q3 q4 qs
    go_wp2_with (refine Bl (f:=g) rfl (.tmp 4) _ rfl rfl rfl t9.o ?_)
    generalize w9.setCells (w.heap.size+1) 0 (g.enc a c)=W9 at *
    exact gZ (lV mP _ W9 (w.heap.size+1) 47 _ (0,0) _ rfl b9.o mO rfl (by kernel_rfl)) rfl hQ.o
end
end Go.Proofs.YthhgoenomehobaaGreat.mm
