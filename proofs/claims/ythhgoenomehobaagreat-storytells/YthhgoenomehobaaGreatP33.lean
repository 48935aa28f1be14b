/- Parts. -/
import Derived.Test.YthhgoenomehobaaGreatP26
import Derived.Test.YthhgoenomehobaaGreatP18
namespace Go.Proofs.YthhgoenomehobaaGreat.mm
open Tryz renaming underlying47 → mO, prog → Pg
open Go renaming results_cell_row → lV, bodyPost_ret → gZ, World → Wq
open Tryz
set_option maxRecDepth 100000
set_option linter.unusedVariables false
open Value renaming int → O, slice → Y
open IntKind renaming i64 → J
open ChangeShapes WideShapes ChangeAt RowKit Joins Deep Go.Sort
set_option maxHeartbeats 0
variable (t:Int)(M:Mm)(f:Fr)(B lo:Nat)(aS aH aF aL:Option Addr)(cS cH cF cL:Nat)(aK:Option Addr)(cK:Nat)(w:Wq)
section
variable {Xb:Ex}
theorem Lm(m:Mine Xb w B lo aS aH aF aL cS cH cF cL M)(hd:f.d=false){R:Ending->Wq->Prop}{n:Nat}{ar:Array Value}(hn:f.l=0/\n=181/\ar=#[Ae B,Ai f aK cK,O J t]\/f.l=1/\n=182/\ar=#[Ae B,Ai f aK cK]\/f.l=2/\n=183/\ar=#[Ae B,Ai f aK cK]\/f.l=3/\n=184/\ar=#[Ae B,Ai f aK cK]\/f.l=4/\n=185/\ar=#[Ae B,Ai f aK cK]\/f.l=5/\n=186/\ar=#[Ae B,Ai f aK cK,O J t]\/f.l=6/\n=187/\ar=#[Ae B,Ai f aK cK]\/7<=f.l/\n=188/\ar=#[Ai f aK cK])(HP:Qi (∀ W,Lk Xb w W B lo aS aH aF aL cS cH cF cL M f aK cK->Calls Pg n ar W (StQ w R))) :
  Calls Pg 160 #[Ae B,Ai f aK cK,O J t] w R:=by
 unfold Ae Ai
 obtain⟨c,pl,sU,jh,jg,nn,gz,done,ee⟩:=f
 dsimp only at hd hn ⊢
 subst hd
 obtain⟨of,df⟩:∃ o:Obj,o=.cells #[O J c.k,O J c.a,O J c.b,O J c.t,O J c.q,O J c.h,O J pl,O J sU,O J jh,O J jg,O J nn,Y aK gz.length cK,.bool false,O J ee] 47:=⟨_,rfl⟩
 obtain⟨oz,bi⟩:∃ o:Obj,o=Ah:=⟨_,rfl⟩
 have HE:Qi (Lk Xb w ((w.alloc of).alloc oz) B lo aS aH aF aL cS cH cF cL M ⟨c,pl,sU,jh,jg,nn,gz,false,ee⟩ aK cK):=Lk.first m ⟨c,pl,sU,jh,jg,nn,gz,false,ee⟩ aK cK df bi
 unfold Ah at bi
 have hA:∀ k:Int,k<7->7<=pl->(pl==k)=false:=fun n h h'=>by rw[beq_eq_false_iff_ne];omega
 clear m
 rcases hn with ⟨rfl,rfl,rfl⟩|⟨rfl,rfl,rfl⟩|⟨rfl,rfl,rfl⟩|⟨rfl,rfl,rfl⟩|⟨rfl,rfl,rfl⟩|⟨rfl,rfl,rfl⟩|⟨rfl,rfl,rfl⟩|⟨h7,rfl,rfl⟩
 all_goals
  try (
   have p0:=hA 0 (by decide) h7
   have p1:=hA 1 (by decide) h7
   have p2:=hA 2 (by decide) h7
   have p3:=hA 3 (by decide) h7
   have p4:=hA 4 (by decide) h7
   have p5:=hA 5 (by decide) h7
   have p6:=hA 6 (by decide) h7
   clear h7)
  clear hA
  go_enter func160,ntmps160
  go_wp2_with fail
  rw[<- df,<- bi]
  generalize (w.alloc of).alloc oz=W0 at *
  subst df bi
  refine(HP.o _ HE.o).mono ?_
  rintro e w9 ⟨g,a,c9,rfl,t9,b9,hQ⟩
  clear HE HP
  go_wp2_with (refine Bl (f:=g) rfl (.tmp 6) _ rfl rfl rfl t9.o ?_)
  generalize w9.setCells (w.heap.size+1) 0 (g.enc a c9)=W9 at *
  exact gZ (lV results160 _ W9 (w.heap.size+1) 47 _ (0,0) _ rfl b9.o mO rfl (by kernel_rfl)) rfl hQ.o
theorem Jz(m:Mine Xb w B lo aS aH aF aL cS cH cF cL M)(hd:f.d=false){R:Ending->Wq->Prop}{n:Nat}{ar:Array Value}(hn:f.l=0/\n=189/\ar=#[Ae B,Ai f aK cK,O J t]\/f.l=1/\n=190/\ar=#[Ae B,Ai f aK cK]\/f.l=2/\n=191/\ar=#[Ae B,Ai f aK cK]\/f.l=3/\n=192/\ar=#[Ae B,Ai f aK cK]\/f.l=4/\n=193/\ar=#[Ae B,Ai f aK cK]\/f.l=5/\n=194/\ar=#[Ae B,Ai f aK cK]\/f.l=6/\n=195/\ar=#[Ae B,Ai f aK cK,O J t]\/7<=f.l/\n=196/\ar=#[Ai f aK cK])(HP:Qi (∀ W,Lk Xb w W B lo aS aH aF aL cS cH cF cL M f aK cK->Calls Pg n ar W (StQ w R))) :
  Calls Pg 161 #[Ae B,Ai f aK cK,O J t] w R:=by
 unfold Ae Ai
 obtain⟨c,pl,sU,jh,jg,nn,gz,done,ee⟩:=f
 dsimp only at hd hn ⊢
 subst hd
 obtain⟨of,df⟩:∃ o:Obj,o=.cells #[O J c.k,O J c.a,O J c.b,O J c.t,O J c.q,O J c.h,O J pl,O J sU,O J jh,O J jg,O J nn,Y aK gz.length cK,.bool false,O J ee] 47:=⟨_,rfl⟩
 obtain⟨oz,bi⟩:∃ o:Obj,o=Ah:=⟨_,rfl⟩
 have HE:Qi (Lk Xb w ((w.alloc of).alloc oz) B lo aS aH aF aL cS cH cF cL M ⟨c,pl,sU,jh,jg,nn,gz,false,ee⟩ aK cK):=Lk.first m ⟨c,pl,sU,jh,jg,nn,gz,false,ee⟩ aK cK df bi
 unfold Ah at bi
 have hA:∀ k:Int,k<7->7<=pl->(pl==k)=false:=fun n h h'=>by rw[beq_eq_false_iff_ne];omega
 clear m
 rcases hn with ⟨rfl,rfl,rfl⟩|⟨rfl,rfl,rfl⟩|⟨rfl,rfl,rfl⟩|⟨rfl,rfl,rfl⟩|⟨rfl,rfl,rfl⟩|⟨rfl,rfl,rfl⟩|⟨rfl,rfl,rfl⟩|⟨h7,rfl,rfl⟩
 all_goals
  try (
   have p0:=hA 0 (by decide) h7
   have p1:=hA 1 (by decide) h7
   have p2:=hA 2 (by decide) h7
   have p3:=hA 3 (by decide) h7
   have p4:=hA 4 (by decide) h7
   have p5:=hA 5 (by decide) h7
   have p6:=hA 6 (by decide) h7
   clear h7)
  clear hA
  go_enter func161,ntmps161
  go_wp2_with fail
  rw[<- df,<- bi]
  generalize (w.alloc of).alloc oz=W0 at *
  subst df bi
  refine(HP.o _ HE.o).mono ?_
  rintro e w9 ⟨g,a,c9,rfl,t9,b9,hQ⟩
  clear HE HP
  go_wp2_with (refine Bl (f:=g) rfl (.tmp 6) _ rfl rfl rfl t9.o ?_)
  generalize w9.setCells (w.heap.size+1) 0 (g.enc a c9)=W9 at *
  exact gZ (lV results161 _ W9 (w.heap.size+1) 47 _ (0,0) _ rfl b9.o mO rfl (by kernel_rfl)) rfl hQ.o
end
section
variable {Xb:Ex}
theorem b2w(m:Mine Xb w B lo aS aH aF aL cS cH cF cL M)(hM:Ok M)(hf:Fit M f)(r:Az w aK cK f.t)(hz:∀ ad,aK=some ad->¬ Ac B aS aH aF aL ad.block){G:Fr}(HG:Qi (Qs M f=G)) :
  Calls Pg 184 #[Ae B,Ai f aK cK] w (Iw Xb w (Ac B aS aH aF aL) B lo aK cK M G):=by
 unfold Ae Ai
 obtain⟨of,df⟩:=frO f aK cK
 obtain⟨oz,bi⟩:∃ o:Obj,o=Ah:=⟨_,rfl⟩
 obtain⟨b,H,qJ⟩:=LH.first m hM hf r hz df bi
 have ig:=H.ns
 have gy:=H.bl
 have jf:=H.nh
 obtain⟨f0,f1,f2,f3,f4,f5,f6,f7,f8,f9,ay,au,aj,ak,ff,fs⟩:=A8 H.e.o.fb
 obtain⟨q0,q1,q2,q3,q4,-,-,-,-,-,qs⟩:=Aj H.e.o.m.box
 unfold Ah at bi
 clear m hM hf r hz
 go_enter func184,ntmps184
 go_wp2_with fail
 rw[<- df,<- bi]
 generalize (w.alloc of).alloc oz=W0 at *
 subst df bi
 unfold Qs at HG
 rcases J9 H.fit.o with ⟨hc,ha,-⟩|⟨j,hj,hl,ha,-⟩
 ·rw[ha] at HG
  have qN:=Yy M f B lo aS aH aF aL cS cH cF cL aK cK W0 H.e.o.m H.ok.o H.fit.o ha
  clear hc ha
  refine qN.mono ?_
  rintro e w2 ⟨rfl,ja,ik⟩
  have di:Qi _:=H.e.o.after ja ik
  have t3:Qi (w2.there w.heap.size 0 14):=Be di.o.fb (by simp)
  have mf:Qi _:=di.o.put f
  clear qN ja ik di f0 f1 f2 f3 f4 f5 f6 f7 f8 f9 ay au aj ak ff fs q0 q1 q2 q3 q4 qs
  obtain⟨f0,f1,f2,f3,f4,f5,f6,f7,f8,f9,ay,au,aj,ak,ff,fs⟩:=A8 mf.o.fb
  go_wp2_with (refine Bl (f:=f) rfl (.tmp 3) _ rfl rfl rfl t3.o ?_;clear t3;generalize w2.setCells w.heap.size 0 (f.enc aK cK)=w3 at *)
  have ai:=mf
  clear mf
  refine(a6p ai.o HG.o H.r.o H.z.o).mono ?_
  rintro e w9 ⟨g,a,c,rfl,t9,b9,hQ⟩
  clear ai H HG f0 f1 f2 f3 f4 f5 f6 f7 f8 f9 ay au aj ak ff fs
  go_wp2_with (refine Bl (f:=g) rfl (.tmp 4) _ rfl rfl rfl t9.o ?_)
  generalize w9.setCells (w.heap.size+1) 0 (g.enc a c)=W9 at *
  exact gZ (lV results184 _ W9 (w.heap.size+1) 47 _ (0,0) _ rfl b9.o mO rfl (by kernel_rfl)) rfl hQ.o
 ·rw[ha] at HG
  have qN:=Xk M f B lo aS aH aF aL cS cH cF cL aK cK W0 H.e.o.m H.ok.o H.fit.o ha
  obtain⟨g0,hg⟩:∃ g:Fr,{ f with p:=f.u,u:=(Aa M (f.u - 1)).next } = g:=⟨_,rfl⟩
  have uH:Qi (Az w aK cK g0.t):=by rw[<- hg];exact H.r.o
  have rM:Qi (toF g0 2=G):=by rw[<- hg];exact HG.o
  rw[hg] at qN
  clear HG hg hj hl ha
  have HG:=rM
  clear rM
  refine qN.mono ?_
  rintro e w2 ⟨rfl,ja,ik⟩
  have di:Qi _:=H.e.o.after ja ik
  have t3:Qi (w2.there w.heap.size 0 14):=Be di.o.fb (by simp)
  have mf:Qi _:=di.o.put g0
  clear qN ja ik di f0 f1 f2 f3 f4 f5 f6 f7 f8 f9 ay au aj ak ff fs q0 q1 q2 q3 q4 qs
  obtain⟨f0,f1,f2,f3,f4,f5,f6,f7,f8,f9,ay,au,aj,ak,ff,fs⟩:=A8 mf.o.fb
  go_wp2_with (refine Bl (f:=g0) rfl (.tmp 3) _ rfl rfl rfl t3.o ?_;clear t3;generalize w2.setCells w.heap.size 0 (g0.enc aK cK)=w3 at *)
  have ai:=mf
  clear mf
  refine(Fp _ ai.o HG.o uH.o H.z.o).mono ?_
  rintro e w9 ⟨g,a,c,rfl,t9,b9,hQ⟩
  clear ai H HG uH f0 f1 f2 f3 f4 f5 f6 f7 f8 f9 ay au aj ak ff fs
  go_wp2_with (refine Bl (f:=g) rfl (.tmp 4) _ rfl rfl rfl t9.o ?_)
  generalize w9.setCells (w.heap.size+1) 0 (g.enc a c)=W9 at *
  exact gZ (lV results184 _ W9 (w.heap.size+1) 47 _ (0,0) _ rfl b9.o mO rfl (by kernel_rfl)) rfl hQ.o
theorem b3b(m:Mine Xb w B lo aS aH aF aL cS cH cF cL M)(hM:Ok M)(hf:Fit M f)(r:Az w aK cK f.t)(hz:∀ ad,aK=some ad->¬ Ac B aS aH aF aL ad.block){G:Fr}(HG:Qi (Lc M f=G)) :
  Calls Pg 192 #[Ae B,Ai f aK cK] w (Iw Xb w (Ac B aS aH aF aL) B lo aK cK M G):=by
 unfold Ae Ai
 obtain⟨of,df⟩:=frO f aK cK
 obtain⟨oz,bi⟩:∃ o:Obj,o=Ah:=⟨_,rfl⟩
 obtain⟨b,H,qJ⟩:=LH.first m hM hf r hz df bi
 have ig:=H.ns
 have gy:=H.bl
 have jf:=H.nh
 obtain⟨f0,f1,f2,f3,f4,f5,f6,f7,f8,f9,ay,au,aj,ak,ff,fs⟩:=A8 H.e.o.fb
 obtain⟨q0,q1,q2,q3,q4,-,-,-,-,-,qs⟩:=Aj H.e.o.m.box
 unfold Ah at bi
 clear m hM hf r hz
 go_enter func192,ntmps192
 go_wp2_with fail
 rw[<- df,<- bi]
 generalize (w.alloc of).alloc oz=W0 at *
 subst df bi
 unfold Lc at HG
 rcases J9 H.fit.o with ⟨hc,ha,-⟩|⟨j,hj,hl,ha,-⟩
 ·rw[ha] at HG
  have qN:=Yy M f B lo aS aH aF aL cS cH cF cL aK cK W0 H.e.o.m H.ok.o H.fit.o ha
  clear hc ha
  refine qN.mono ?_
  rintro e w2 ⟨rfl,ja,ik⟩
  have di:Qi _:=H.e.o.after ja ik
  have t3:Qi (w2.there w.heap.size 0 14):=Be di.o.fb (by simp)
  have mf:Qi _:=di.o.put f
  clear qN ja ik di f0 f1 f2 f3 f4 f5 f6 f7 f8 f9 ay au aj ak ff fs q0 q1 q2 q3 q4 qs
  obtain⟨f0,f1,f2,f3,f4,f5,f6,f7,f8,f9,ay,au,aj,ak,ff,fs⟩:=A8 mf.o.fb
  go_wp2_with (refine Bl (f:=f) rfl (.tmp 3) _ rfl rfl rfl t3.o ?_;clear t3;generalize w2.setCells w.heap.size 0 (f.enc aK cK)=w3 at *)
  have ai:=mf
  clear mf
  refine(Zd ai.o HG.o H.r.o H.z.o).mono ?_
  rintro e w9 ⟨g,a,c,rfl,t9,b9,hQ⟩
  clear ai H HG f0 f1 f2 f3 f4 f5 f6 f7 f8 f9 ay au aj ak ff fs
  go_wp2_with (refine Bl (f:=g) rfl (.tmp 4) _ rfl rfl rfl t9.o ?_)
  generalize w9.setCells (w.heap.size+1) 0 (g.enc a c)=W9 at *
  exact gZ (lV results192 _ W9 (w.heap.size+1) 47 _ (0,0) _ rfl b9.o mO rfl (by kernel_rfl)) rfl hQ.o
 ·rw[ha] at HG
  have qN:=Xk M f B lo aS aH aF aL cS cH cF cL aK cK W0 H.e.o.m H.ok.o H.fit.o ha
  obtain⟨g0,hg⟩:∃ g:Fr,{ f with p:=f.u,u:=(Aa M (f.u - 1)).next } = g:=⟨_,rfl⟩
  have uH:Qi (Az w aK cK g0.t):=by rw[<- hg];exact H.r.o
  have rM:Qi (toF g0 2=G):=by rw[<- hg];exact HG.o
  rw[hg] at qN
  clear HG hg hj hl ha
  have HG:=rM
  clear rM
  refine qN.mono ?_
  rintro e w2 ⟨rfl,ja,ik⟩
  have di:Qi _:=H.e.o.after ja ik
  have t3:Qi (w2.there w.heap.size 0 14):=Be di.o.fb (by simp)
  have mf:Qi _:=di.o.put g0
  clear qN ja ik di f0 f1 f2 f3 f4 f5 f6 f7 f8 f9 ay au aj ak ff fs q0 q1 q2 q3 q4 qs
  obtain⟨f0,f1,f2,f3,f4,f5,f6,f7,f8,f9,ay,au,aj,ak,ff,fs⟩:=A8 mf.o.fb
  go_wp2_with (refine Bl (f:=g0) rfl (.tmp 3) _ rfl rfl rfl t3.o ?_;clear t3;generalize w2.setCells w.heap.size 0 (g0.enc aK cK)=w3 at *)
  have ai:=mf
  clear mf
  refine(Fp _ ai.o HG.o uH.o H.z.o).mono ?_
  rintro e w9 ⟨g,a,c,rfl,t9,b9,hQ⟩
  clear ai H HG uH f0 f1 f2 f3 f4 f5 f6 f7 f8 f9 ay au aj ak ff fs
  go_wp2_with (refine Bl (f:=g) rfl (.tmp 4) _ rfl rfl rfl t9.o ?_)
  generalize w9.setCells (w.heap.size+1) 0 (g.enc a c)=W9 at *
  exact gZ (lV results192 _ W9 (w.heap.size+1) 47 _ (0,0) _ rfl b9.o mO rfl (by kernel_rfl)) rfl hQ.o
end
end Go.Proofs.YthhgoenomehobaaGreat.mm
