/- Parts. -/
import Derived.Test.YthhgoenomehobaaGreatP26
namespace Go.Proofs.YthhgoenomehobaaGreat.mm
open Go renaming results_cell_row → lV, bodyPost_ret → gZ, World → Wq
open Nat renaming le_refl → aC
open Tryz
set_option maxRecDepth 100000
set_option linter.unusedVariables false
open Value renaming int → O, slice → Y
open IntKind renaming i64 → J
open Tryz renaming prog → Pg
open ChangeShapes WideShapes ChangeAt RowKit Joins Deep Go.Sort
set_option maxHeartbeats 0
variable (t:Int)(M:Mm)(f:Fr)(B lo:Nat)(aS aH aF aL:Option Addr)(cS cH cF cL:Nat)(aK:Option Addr)(cK:Nat)(w:Wq)
section
variable {Xb:Ex}
theorem b2t(m:Mine Xb w B lo aS aH aF aL cS cH cF cL M)(hM:Ok M)(hf:Fit M f)(r:Az w aK cK f.t)(hz:∀ ad,aK=some ad->¬ Ac B aS aH aF aL ad.block){N:Mm}(HN:Qi (Fq M f t=N)){G:Fr}(HG:Qi (Qo M f=G)) :
  Calls Pg 173 #[Ae B,Ai f aK cK,O J t] w (Iw Xb w (Ac B aS aH aF aL) B lo aK cK N G):=by
 unfold Ae Ai
 obtain⟨of,df⟩:=frO f aK cK
 obtain⟨oz,bi⟩:∃ o:Obj,o=Ah:=⟨_,rfl⟩
 obtain⟨b,H,qJ⟩:=LH.first m hM hf r hz df bi
 have ig:=H.ns
 have gy:=H.bl
 have jf:=H.nh
 obtain⟨f0,f1,f2,f3,f4,f5,f6,f7,f8,f9,ay,au,aj,ak,ff,fs⟩:=A8 H.e.o.fb
 obtain⟨q0,q1,q2,q3,q4,-,-,-,-,-,qs⟩:=Aj H.e.o.m.box
 unfold Ah at bi
 clear m hM hf r hz
 have hN:Nj M b t=N:=by rw[<- HN.o];unfold Fq Nj;rw[qJ]
 subst hN
 unfold Qo at HG
 rw[qJ] at HG
 clear HN qJ
 go_enter func173,ntmps173
 go_wp2_with fail
 rw[<- df,<- bi]
 generalize (w.alloc of).alloc oz=W0 at *
 subst df bi
 go_region_with (first|(go_at_call 34;refine(H.below (by exact⟨rfl,rfl,rfl,aC _,fun _ _=>rfl⟩)).q.mono ?_;rintro e w1 ⟨rfl,h9⟩;have H1:=H.below (W':=w1) ⟨h9.os,h9.tape,h9.output,h9.size,h9.block⟩;clear H h9)|(go_at_call 205;refine(Ui t ⟨_,_,_,_,_,_,_,_,(H1.e.o.below (by exact⟨rfl,rfl,rfl,aC _,fun _ _=>rfl⟩)).m,fun _ h=>h⟩ H1.ok.o gy).mono ?_;rintro e w2 ⟨rfl,ja,ik⟩;have ai:Qi _:=(H1.e.o.below (by exact⟨rfl,rfl,rfl,aC _,fun _ _=>rfl⟩)).after ja ik;clear ja ik))
 all_goals
  have H:=H1
  clear H1 f0 f1 f2 f3 f4 f5 f6 f7 f8 f9 ay au aj ak ff fs q0 q1 q2 q3 q4 qs
  obtain⟨f0,f1,f2,f3,f4,f5,f6,f7,f8,f9,ay,au,aj,ak,ff,fs⟩:=A8 ai.o.fb
  cases hq:(D6 M b == -1)
  ·have h:¬ D6 M b=-1:=by simpa using hq
   rw[ae h] at HG
   clear h hq
   have hG:=HG.o
   clear HG
   subst hG
   obtain⟨g0,g1,g2,g3,g4,g5,g6,g7,g8,g9,qm,pz,qi,qw,gf,gs⟩:=A8 ai.o.zb
   go_wp2
   exact gZ (v:=.agg #[O J f.c.k,O J f.c.a,O J f.c.b,O J f.c.t,O J f.c.q,O J f.c.h,O J f.l,O J f.u,O J f.p,O J f.h,O J f.n,Y aK f.t.length cK,.bool f.d,O J f.e]) (by simp[results,results173,go_sem,g0,g1,g2,g3,g4,g5,g6,g7,g8,g9,qm,pz,qi,qw]) rfl ⟨⟨aK,cK,rfl,H.r.o.fine ai.o.Dl.2 H.z.o,(fun ad h=>.inl h),fun _=>⟨rfl,rfl⟩⟩,ai.o.Dl⟩
  ·have h:D6 M b=-1:=by simpa using hq
   rw[af h] at HG
   clear h hq
   go_wp2_with fail
   refine(Fp _ ai.o HG.o H.r.o H.z.o).mono ?_
   rintro e w9 ⟨g,a,c,rfl,t9,b9,hQ⟩
   clear ai H HG f0 f1 f2 f3 f4 f5 f6 f7 f8 f9 ay au aj ak ff fs
   go_wp2_with (refine Bl (f:=g) rfl (.tmp 6) _ rfl rfl rfl t9.o ?_)
   generalize w9.setCells (w.heap.size+1) 0 (g.enc a c)=W9 at *
   exact gZ (lV results173 _ W9 (w.heap.size+1) 47 _ (0,0) _ rfl b9.o underlying47 rfl (by kernel_rfl)) rfl hQ.o
theorem b2v(m:Mine Xb w B lo aS aH aF aL cS cH cF cL M)(hM:Ok M)(hf:Fit M f)(r:Az w aK cK f.t)(hz:∀ ad,aK=some ad->¬ Ac B aS aH aF aL ad.block){N:Mm}(HN:Qi (Fq M f t=N)){G:Fr}(HG:Qi (Gm M f=G)) :
  Calls Pg 181 #[Ae B,Ai f aK cK,O J t] w (Iw Xb w (Ac B aS aH aF aL) B lo aK cK N G):=by
 unfold Ae Ai
 obtain⟨of,df⟩:=frO f aK cK
 obtain⟨oz,bi⟩:∃ o:Obj,o=Ah:=⟨_,rfl⟩
 obtain⟨b,H,qJ⟩:=LH.first m hM hf r hz df bi
 have ig:=H.ns
 have gy:=H.bl
 have jf:=H.nh
 obtain⟨f0,f1,f2,f3,f4,f5,f6,f7,f8,f9,ay,au,aj,ak,ff,fs⟩:=A8 H.e.o.fb
 obtain⟨q0,q1,q2,q3,q4,-,-,-,-,-,qs⟩:=Aj H.e.o.m.box
 unfold Ah at bi
 clear m hM hf r hz
 have hN:Nj M b t=N:=by rw[<- HN.o];unfold Fq Nj;rw[qJ]
 subst hN
 unfold Gm at HG
 rw[qJ] at HG
 clear HN qJ
 go_enter func181,ntmps181
 go_wp2_with fail
 rw[<- df,<- bi]
 generalize (w.alloc of).alloc oz=W0 at *
 subst df bi
 go_region_with (first|(go_at_call 34;refine(H.below (by exact⟨rfl,rfl,rfl,aC _,fun _ _=>rfl⟩)).q.mono ?_;rintro e w1 ⟨rfl,h9⟩;have H1:=H.below (W':=w1) ⟨h9.os,h9.tape,h9.output,h9.size,h9.block⟩;clear H h9)|(go_at_call 205;refine(Ui t ⟨_,_,_,_,_,_,_,_,(H1.e.o.below (by exact⟨rfl,rfl,rfl,aC _,fun _ _=>rfl⟩)).m,fun _ h=>h⟩ H1.ok.o gy).mono ?_;rintro e w2 ⟨rfl,ja,ik⟩;have ai:Qi _:=(H1.e.o.below (by exact⟨rfl,rfl,rfl,aC _,fun _ _=>rfl⟩)).after ja ik;clear ja ik))
 all_goals
  have H:=H1
  clear H1 f0 f1 f2 f3 f4 f5 f6 f7 f8 f9 ay au aj ak ff fs q0 q1 q2 q3 q4 qs
  obtain⟨f0,f1,f2,f3,f4,f5,f6,f7,f8,f9,ay,au,aj,ak,ff,fs⟩:=A8 ai.o.fb
  cases hq:(D6 M b == -1)
  ·have h:¬ D6 M b=-1:=by simpa using hq
   rw[ae h] at HG
   clear h hq
   have hG:=HG.o
   clear HG
   subst hG
   obtain⟨g0,g1,g2,g3,g4,g5,g6,g7,g8,g9,qm,pz,qi,qw,gf,gs⟩:=A8 ai.o.zb
   go_wp2
   exact gZ (v:=.agg #[O J f.c.k,O J f.c.a,O J f.c.b,O J f.c.t,O J f.c.q,O J f.c.h,O J f.l,O J f.u,O J f.p,O J f.h,O J f.n,Y aK f.t.length cK,.bool f.d,O J f.e]) (by simp[results,results181,go_sem,g0,g1,g2,g3,g4,g5,g6,g7,g8,g9,qm,pz,qi,qw]) rfl ⟨⟨aK,cK,rfl,H.r.o.fine ai.o.Dl.2 H.z.o,(fun ad h=>.inl h),fun _=>⟨rfl,rfl⟩⟩,ai.o.Dl⟩
  ·have h:D6 M b=-1:=by simpa using hq
   rw[af h] at HG
   clear h hq
   go_wp2_with fail
   refine(Fp _ ai.o HG.o H.r.o H.z.o).mono ?_
   rintro e w9 ⟨g,a,c,rfl,t9,b9,hQ⟩
   clear ai H HG f0 f1 f2 f3 f4 f5 f6 f7 f8 f9 ay au aj ak ff fs
   go_wp2_with (refine Bl (f:=g) rfl (.tmp 6) _ rfl rfl rfl t9.o ?_)
   generalize w9.setCells (w.heap.size+1) 0 (g.enc a c)=W9 at *
   exact gZ (lV results181 _ W9 (w.heap.size+1) 47 _ (0,0) _ rfl b9.o underlying47 rfl (by kernel_rfl)) rfl hQ.o
theorem b3a(m:Mine Xb w B lo aS aH aF aL cS cH cF cL M)(hM:Ok M)(hf:Fit M f)(r:Az w aK cK f.t)(hz:∀ ad,aK=some ad->¬ Ac B aS aH aF aL ad.block){N:Mm}(HN:Qi (Fq M f t=N)){G:Fr}(HG:Qi (Gm M f=G)) :
  Calls Pg 189 #[Ae B,Ai f aK cK,O J t] w (Iw Xb w (Ac B aS aH aF aL) B lo aK cK N G):=by
 unfold Ae Ai
 obtain⟨of,df⟩:=frO f aK cK
 obtain⟨oz,bi⟩:∃ o:Obj,o=Ah:=⟨_,rfl⟩
 obtain⟨b,H,qJ⟩:=LH.first m hM hf r hz df bi
 have ig:=H.ns
 have gy:=H.bl
 have jf:=H.nh
 obtain⟨f0,f1,f2,f3,f4,f5,f6,f7,f8,f9,ay,au,aj,ak,ff,fs⟩:=A8 H.e.o.fb
 obtain⟨q0,q1,q2,q3,q4,-,-,-,-,-,qs⟩:=Aj H.e.o.m.box
 unfold Ah at bi
 clear m hM hf r hz
 have hN:Nj M b t=N:=by rw[<- HN.o];unfold Fq Nj;rw[qJ]
 subst hN
 unfold Gm at HG
 rw[qJ] at HG
 clear HN qJ
 go_enter func189,ntmps189
 go_wp2_with fail
 rw[<- df,<- bi]
 generalize (w.alloc of).alloc oz=W0 at *
 subst df bi
 go_region_with (first|(go_at_call 34;refine(H.below (by exact⟨rfl,rfl,rfl,aC _,fun _ _=>rfl⟩)).q.mono ?_;rintro e w1 ⟨rfl,h9⟩;have H1:=H.below (W':=w1) ⟨h9.os,h9.tape,h9.output,h9.size,h9.block⟩;clear H h9)|(go_at_call 205;refine(Ui t ⟨_,_,_,_,_,_,_,_,(H1.e.o.below (by exact⟨rfl,rfl,rfl,aC _,fun _ _=>rfl⟩)).m,fun _ h=>h⟩ H1.ok.o gy).mono ?_;rintro e w2 ⟨rfl,ja,ik⟩;have ai:Qi _:=(H1.e.o.below (by exact⟨rfl,rfl,rfl,aC _,fun _ _=>rfl⟩)).after ja ik;clear ja ik))
 all_goals
  have H:=H1
  clear H1 f0 f1 f2 f3 f4 f5 f6 f7 f8 f9 ay au aj ak ff fs q0 q1 q2 q3 q4 qs
  obtain⟨f0,f1,f2,f3,f4,f5,f6,f7,f8,f9,ay,au,aj,ak,ff,fs⟩:=A8 ai.o.fb
  cases hq:(D6 M b == -1)
  ·have h:¬ D6 M b=-1:=by simpa using hq
   rw[ae h] at HG
   clear h hq
   have hG:=HG.o
   clear HG
   subst hG
   obtain⟨g0,g1,g2,g3,g4,g5,g6,g7,g8,g9,qm,pz,qi,qw,gf,gs⟩:=A8 ai.o.zb
   go_wp2
   exact gZ (v:=.agg #[O J f.c.k,O J f.c.a,O J f.c.b,O J f.c.t,O J f.c.q,O J f.c.h,O J f.l,O J f.u,O J f.p,O J f.h,O J f.n,Y aK f.t.length cK,.bool f.d,O J f.e]) (by simp[results,results189,go_sem,g0,g1,g2,g3,g4,g5,g6,g7,g8,g9,qm,pz,qi,qw]) rfl ⟨⟨aK,cK,rfl,H.r.o.fine ai.o.Dl.2 H.z.o,(fun ad h=>.inl h),fun _=>⟨rfl,rfl⟩⟩,ai.o.Dl⟩
  ·have h:D6 M b=-1:=by simpa using hq
   rw[af h] at HG
   clear h hq
   go_wp2_with fail
   refine(Fp _ ai.o HG.o H.r.o H.z.o).mono ?_
   rintro e w9 ⟨g,a,c,rfl,t9,b9,hQ⟩
   clear ai H HG f0 f1 f2 f3 f4 f5 f6 f7 f8 f9 ay au aj ak ff fs
   go_wp2_with (refine Bl (f:=g) rfl (.tmp 6) _ rfl rfl rfl t9.o ?_)
   generalize w9.setCells (w.heap.size+1) 0 (g.enc a c)=W9 at *
   exact gZ (lV results189 _ W9 (w.heap.size+1) 47 _ (0,0) _ rfl b9.o underlying47 rfl (by kernel_rfl)) rfl hQ.o
end
end Go.Proofs.YthhgoenomehobaaGreat.mm
