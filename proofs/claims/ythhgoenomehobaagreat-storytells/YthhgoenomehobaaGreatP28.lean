/- Parts. -/
import Derived.Test.YthhgoenomehobaaGreatP26
namespace Go.Proofs.YthhgoenomehobaaGreat.mm
open Tryz renaming underlying47 → mO, prog → Pg
open Go renaming results_cell_row → lV, bodyPost_ret → gZ, World → Wq
open Tryz
set_option maxRecDepth 100000
set_option linter.unusedVariables false
open Value renaming int → O, slice → Y
open IntKind renaming i64 → J
open ChangeShapes WideShapes ChangeAt RowKit Joins Deep Go.Sort
set_option maxHeartbeats 0
variable (M:Mm)(f:Fr)(B lo:Nat)(aS aH aF aL:Option Addr)(cS cH cF cL:Nat)(aK:Option Addr)(cK:Nat)(w:Wq)
section
variable {Xb:Ex}
theorem a8z(m:Mine Xb w B lo aS aH aF aL cS cH cF cL M)(hM:Ok M)(hf:Fit M f)(r:Az w aK cK f.t)(hz:∀ ad,aK=some ad->¬ Ac B aS aH aF aL ad.block){N:Mm}(HN:Qi (Es M f=N)){G:Fr}(HG:Qi (Jp M f=G)) :
  Calls Pg 169 #[Ae B,Ai f aK cK] w (Iw Xb w (Ac B aS aH aF aL) B lo aK cK N G):=by
 unfold Ae Ai
 obtain⟨of,df⟩:=frO f aK cK
 obtain⟨oz,bi⟩:∃ o:Obj,o=Ah:=⟨_,rfl⟩
 obtain⟨b,H,qJ⟩:=LH.first m hM hf r hz df bi
 have ig:=H.ns
 have gy:=H.bl
 have jf:=H.nh
 obtain⟨f0,f1,f2,f3,f4,f5,f6,f7,f8,f9,ay,au,aj,ak,ff,fs⟩:=A8 H.e.o.fb
 obtain⟨q0,q1,q2,q3,q4,-,-,-,-,-,qs⟩:=Aj H.e.o.m.box
 unfold Ah at bi
 clear m hM hf r hz
 go_enter func169,ntmps169
 go_wp2_with fail
 rw[<- df,<- bi]
 generalize (w.alloc of).alloc oz=W0 at *
 subst df bi
 obtain⟨g0,hg⟩:∃ g,Fa M f=g:=⟨_,rfl⟩
 have qN:=P7 M f B lo aS aH aF aL cS cH cF cL aK cK W0 H.e.o.m H.ok.o
 rw[hg] at qN
 have vN:g0.t=f.t:=by rw[<- hg];unfold Fa;split <;> rfl
 have uH:Qi (Az w aK cK g0.t):=vN ▸ H.r.o
 have yA:Qi (g0.t.length<=100):=vN ▸ H.fit.o.t
 have zD:Qi (0<=g0.n/\g0.n<=1000000):=by
  have h:=H.fit.o.n
  rw[Ar] at h
  show _/\_
  rw[show g0.n=f.n by rw[<- hg];unfold Fa;split <;> rfl]
  exact h
 have AL:Qi (Es M f=N):=HN
 rw[AL.o] at qN
 have ZG:=H.fit.o.h.1
 clear vN HN AL
 rcases Qm H.fit.o with ⟨hs,h'⟩|⟨j,hj,hl,h'⟩
 ·have rM:Qi (toF g0 0=G):=by
   rw[<- HG.o,<- hg]
   unfold Fa Jp
   rw[h'];rfl
  rw[h'] at qN
  clear HG hg h' hs
  have HG:=rM
  clear rM
  refine qN.mono ?_
  rintro e w2 ⟨rfl,ja,ik⟩
  have di:Qi _:=H.e.o.after ja ik
  have t3:Qi (w2.there w.heap.size 0 14):=Be di.o.fb (by simp)
  have mf:Qi _:=di.o.put g0
  clear qN ja ik di f0 f1 f2 f3 f4 f5 f6 f7 f8 f9 ay au aj ak ff fs q0 q1 q2 q3 q4 qs
  obtain⟨f0,f1,f2,f3,f4,f5,f6,f7,f8,f9,ay,au,aj,ak,ff,fs⟩:=A8 mf.o.fb
  go_wp2_with (refine Bl (f:=g0) rfl (.tmp 3) _ rfl rfl rfl t3.o ?_;clear t3;generalize w2.setCells w.heap.size 0 (g0.enc aK cK)=w3 at *)
  have ai:=mf
  clear mf
  refine(Fp _ ai.o HG.o uH.o H.z.o).mono ?_
  rintro e w9 ⟨g,a,c,rfl,t9,b9,hQ⟩
  clear ai H HG uH yA zD f0 f1 f2 f3 f4 f5 f6 f7 f8 f9 ay au aj ak ff fs
  go_wp2_with (refine Bl (f:=g) rfl (.tmp 4) _ rfl rfl rfl t9.o ?_)
  generalize w9.setCells (w.heap.size+1) 0 (g.enc a c)=W9 at *
  exact gZ (lV results169 _ W9 (w.heap.size+1) 47 _ (0,0) _ rfl b9.o mO rfl (by kernel_rfl)) rfl hQ.o
 ·have rM:Qi (toF g0 0=G):=by
   rw[<- HG.o,<- hg]
   unfold Fa Jp
   rw[h'];rfl
  rw[h'] at qN
  clear HG hg h' hj hl
  have HG:=rM
  clear rM
  refine qN.mono ?_
  rintro e w2 ⟨rfl,ja,ik⟩
  have di:Qi _:=H.e.o.after ja ik
  have t3:Qi (w2.there w.heap.size 0 14):=Be di.o.fb (by simp)
  have mf:Qi _:=di.o.put g0
  clear qN ja ik di f0 f1 f2 f3 f4 f5 f6 f7 f8 f9 ay au aj ak ff fs q0 q1 q2 q3 q4 qs
  obtain⟨f0,f1,f2,f3,f4,f5,f6,f7,f8,f9,ay,au,aj,ak,ff,fs⟩:=A8 mf.o.fb
  go_wp2_with (refine Bl (f:=g0) rfl (.tmp 3) _ rfl rfl rfl t3.o ?_;clear t3;generalize w2.setCells w.heap.size 0 (g0.enc aK cK)=w3 at *)
  have ai:=mf
  clear mf
  refine(Fp _ ai.o HG.o uH.o H.z.o).mono ?_
  rintro e w9 ⟨g,a,c,rfl,t9,b9,hQ⟩
  clear ai H HG uH yA zD f0 f1 f2 f3 f4 f5 f6 f7 f8 f9 ay au aj ak ff fs
  go_wp2_with (refine Bl (f:=g) rfl (.tmp 4) _ rfl rfl rfl t9.o ?_)
  generalize w9.setCells (w.heap.size+1) 0 (g.enc a c)=W9 at *
  exact gZ (lV results169 _ W9 (w.heap.size+1) 47 _ (0,0) _ rfl b9.o mO rfl (by kernel_rfl)) rfl hQ.o
theorem b2y(m:Mine Xb w B lo aS aH aF aL cS cH cF cL M)(hM:Ok M)(hf:Fit M f)(r:Az w aK cK f.t)(hz:∀ ad,aK=some ad->¬ Ac B aS aH aF aL ad.block){N:Mm}(HN:Qi (Es M f=N)){G:Fr}(HG:Qi (O1 M f=G)) :
  Calls Pg 170 #[Ae B,Ai f aK cK] w (Iw Xb w (Ac B aS aH aF aL) B lo aK cK N G):=by
 unfold Ae Ai
 obtain⟨of,df⟩:=frO f aK cK
 obtain⟨oz,bi⟩:∃ o:Obj,o=Ah:=⟨_,rfl⟩
 obtain⟨b,H,qJ⟩:=LH.first m hM hf r hz df bi
 have ig:=H.ns
 have gy:=H.bl
 have jf:=H.nh
 obtain⟨f0,f1,f2,f3,f4,f5,f6,f7,f8,f9,ay,au,aj,ak,ff,fs⟩:=A8 H.e.o.fb
 obtain⟨q0,q1,q2,q3,q4,-,-,-,-,-,qs⟩:=Aj H.e.o.m.box
 unfold Ah at bi
 clear m hM hf r hz
 go_enter func170,ntmps170
 go_wp2_with fail
 rw[<- df,<- bi]
 generalize (w.alloc of).alloc oz=W0 at *
 subst df bi
 obtain⟨g0,hg⟩:∃ g,Fa M f=g:=⟨_,rfl⟩
 have qN:=P7 M f B lo aS aH aF aL cS cH cF cL aK cK W0 H.e.o.m H.ok.o
 rw[hg] at qN
 have vN:g0.t=f.t:=by rw[<- hg];unfold Fa;split <;> rfl
 have uH:Qi (Az w aK cK g0.t):=vN ▸ H.r.o
 have yA:Qi (g0.t.length<=100):=vN ▸ H.fit.o.t
 have zD:Qi (0<=g0.n/\g0.n<=1000000):=by
  have h:=H.fit.o.n
  rw[Ar] at h
  show _/\_
  rw[show g0.n=f.n by rw[<- hg];unfold Fa;split <;> rfl]
  exact h
 have AL:Qi (Es M f=N):=HN
 rw[AL.o] at qN
 have ZG:=H.fit.o.h.1
 clear vN HN AL
 rcases Qm H.fit.o with ⟨hs,h'⟩|⟨j,hj,hl,h'⟩
 ·have rM:Qi (toF g0 0=G):=by
   rw[<- HG.o,<- hg]
   unfold Fa O1
   rw[h'];rfl
  rw[h'] at qN
  clear HG hg h' hs
  have HG:=rM
  clear rM
  refine qN.mono ?_
  rintro e w2 ⟨rfl,ja,ik⟩
  have di:Qi _:=H.e.o.after ja ik
  have t3:Qi (w2.there w.heap.size 0 14):=Be di.o.fb (by simp)
  have mf:Qi _:=di.o.put g0
  clear qN ja ik di f0 f1 f2 f3 f4 f5 f6 f7 f8 f9 ay au aj ak ff fs q0 q1 q2 q3 q4 qs
  obtain⟨f0,f1,f2,f3,f4,f5,f6,f7,f8,f9,ay,au,aj,ak,ff,fs⟩:=A8 mf.o.fb
  go_wp2_with (refine Bl (f:=g0) rfl (.tmp 3) _ rfl rfl rfl t3.o ?_;clear t3;generalize w2.setCells w.heap.size 0 (g0.enc aK cK)=w3 at *)
  have ai:=mf
  clear mf
  refine(Fp _ ai.o HG.o uH.o H.z.o).mono ?_
  rintro e w9 ⟨g,a,c,rfl,t9,b9,hQ⟩
  clear ai H HG uH yA zD f0 f1 f2 f3 f4 f5 f6 f7 f8 f9 ay au aj ak ff fs
  go_wp2_with (refine Bl (f:=g) rfl (.tmp 4) _ rfl rfl rfl t9.o ?_)
  generalize w9.setCells (w.heap.size+1) 0 (g.enc a c)=W9 at *
  exact gZ (lV results170 _ W9 (w.heap.size+1) 47 _ (0,0) _ rfl b9.o mO rfl (by kernel_rfl)) rfl hQ.o
 ·have rM:Qi (Ak g0 5=G):=by
   rw[<- HG.o,<- hg]
   unfold Fa O1
   rw[h'];rfl
  rw[h'] at qN
  clear HG hg h' hj hl
  have HG:=rM
  clear rM
  refine qN.mono ?_
  rintro e w2 ⟨rfl,ja,ik⟩
  have di:Qi _:=H.e.o.after ja ik
  have t3:Qi (w2.there w.heap.size 0 14):=Be di.o.fb (by simp)
  have mf:Qi _:=di.o.put g0
  clear qN ja ik di f0 f1 f2 f3 f4 f5 f6 f7 f8 f9 ay au aj ak ff fs q0 q1 q2 q3 q4 qs
  obtain⟨f0,f1,f2,f3,f4,f5,f6,f7,f8,f9,ay,au,aj,ak,ff,fs⟩:=A8 mf.o.fb
  go_wp2_with (refine Bl (f:=g0) rfl (.tmp 3) _ rfl rfl rfl t3.o ?_;clear t3;generalize w2.setCells w.heap.size 0 (g0.enc aK cK)=w3 at *)
  have ai:=mf
  clear mf
  refine(Ub _ ai.o HG.o uH.o H.z.o yA.o).mono ?_
  rintro e w9 ⟨g,a,c,rfl,t9,b9,hQ⟩
  clear ai H HG uH yA zD f0 f1 f2 f3 f4 f5 f6 f7 f8 f9 ay au aj ak ff fs
  go_wp2_with (refine Bl (f:=g) rfl (.tmp 4) _ rfl rfl rfl t9.o ?_)
  generalize w9.setCells (w.heap.size+1) 0 (g.enc a c)=W9 at *
  exact gZ (lV results170 _ W9 (w.heap.size+1) 47 _ (0,0) _ rfl b9.o mO rfl (by kernel_rfl)) rfl hQ.o
theorem a5c(m:Mine Xb w B lo aS aH aF aL cS cH cF cL M)(hM:Ok M)(hf:Fit M f)(r:Az w aK cK f.t)(hz:∀ ad,aK=some ad->¬ Ac B aS aH aF aL ad.block){N:Mm}(HN:Qi (Es M f=N)){G:Fr}(HG:Qi (Um M f=G)) :
  Calls Pg 178 #[Ae B,Ai f aK cK] w (Iw Xb w (Ac B aS aH aF aL) B lo aK cK N G):=by
 unfold Ae Ai
 obtain⟨of,df⟩:=frO f aK cK
 obtain⟨oz,bi⟩:∃ o:Obj,o=Ah:=⟨_,rfl⟩
 obtain⟨b,H,qJ⟩:=LH.first m hM hf r hz df bi
 have ig:=H.ns
 have gy:=H.bl
 have jf:=H.nh
 obtain⟨f0,f1,f2,f3,f4,f5,f6,f7,f8,f9,ay,au,aj,ak,ff,fs⟩:=A8 H.e.o.fb
 obtain⟨q0,q1,q2,q3,q4,-,-,-,-,-,qs⟩:=Aj H.e.o.m.box
 unfold Ah at bi
 clear m hM hf r hz
 go_enter func178,ntmps178
 go_wp2_with fail
 rw[<- df,<- bi]
 generalize (w.alloc of).alloc oz=W0 at *
 subst df bi
 obtain⟨g0,hg⟩:∃ g,Fa M f=g:=⟨_,rfl⟩
 have qN:=P7 M f B lo aS aH aF aL cS cH cF cL aK cK W0 H.e.o.m H.ok.o
 rw[hg] at qN
 have vN:g0.t=f.t:=by rw[<- hg];unfold Fa;split <;> rfl
 have uH:Qi (Az w aK cK g0.t):=vN ▸ H.r.o
 have yA:Qi (g0.t.length<=100):=vN ▸ H.fit.o.t
 have zD:Qi (0<=g0.n/\g0.n<=1000000):=by
  have h:=H.fit.o.n
  rw[Ar] at h
  show _/\_
  rw[show g0.n=f.n by rw[<- hg];unfold Fa;split <;> rfl]
  exact h
 have AL:Qi (Es M f=N):=HN
 rw[AL.o] at qN
 have ZG:=H.fit.o.h.1
 clear vN HN AL
 rcases Qm H.fit.o with ⟨hs,h'⟩|⟨j,hj,hl,h'⟩
 ·have rM:Qi (D5 g0=G):=by
   rw[<- HG.o,<- hg]
   unfold Fa Um
   rw[h'];rfl
  rw[h'] at qN
  clear HG hg h' hs
  have HG:=rM
  clear rM
  refine qN.mono ?_
  rintro e w2 ⟨rfl,ja,ik⟩
  have di:Qi _:=H.e.o.after ja ik
  have t3:Qi (w2.there w.heap.size 0 14):=Be di.o.fb (by simp)
  have mf:Qi _:=di.o.put g0
  clear qN ja ik di f0 f1 f2 f3 f4 f5 f6 f7 f8 f9 ay au aj ak ff fs q0 q1 q2 q3 q4 qs
  obtain⟨f0,f1,f2,f3,f4,f5,f6,f7,f8,f9,ay,au,aj,ak,ff,fs⟩:=A8 mf.o.fb
  go_wp2_with (refine Bl (f:=g0) rfl (.tmp 3) _ rfl rfl rfl t3.o ?_;clear t3;generalize w2.setCells w.heap.size 0 (g0.enc aK cK)=w3 at *)
  have ai:=mf
  clear mf
  refine(a5o ai.o HG.o uH.o H.z.o).mono ?_
  rintro e w9 ⟨g,a,c,rfl,t9,b9,hQ⟩
  clear ai H HG uH yA zD f0 f1 f2 f3 f4 f5 f6 f7 f8 f9 ay au aj ak ff fs
  go_wp2_with (refine Bl (f:=g) rfl (.tmp 4) _ rfl rfl rfl t9.o ?_)
  generalize w9.setCells (w.heap.size+1) 0 (g.enc a c)=W9 at *
  exact gZ (lV results178 _ W9 (w.heap.size+1) 47 _ (0,0) _ rfl b9.o mO rfl (by kernel_rfl)) rfl hQ.o
 ·have rM:Qi (toF { g0 with e:=6 } 7=G):=by
   rw[<- HG.o,<- hg]
   unfold Fa Um
   rw[h'];rfl
  rw[h'] at qN
  clear HG hg h' hj hl
  have HG:=rM
  clear rM
  refine qN.mono ?_
  rintro e w2 ⟨rfl,ja,ik⟩
  have di:Qi _:=H.e.o.after ja ik
  have t3:Qi (w2.there w.heap.size 0 14):=Be di.o.fb (by simp)
  have mf:Qi _:=di.o.put g0
  clear qN ja ik di f0 f1 f2 f3 f4 f5 f6 f7 f8 f9 ay au aj ak ff fs q0 q1 q2 q3 q4 qs
  obtain⟨f0,f1,f2,f3,f4,f5,f6,f7,f8,f9,ay,au,aj,ak,ff,fs⟩:=A8 mf.o.fb
  go_wp2_with (refine Bl (f:=g0) rfl (.tmp 3) _ rfl rfl rfl t3.o ?_;clear t3;generalize w2.setCells w.heap.size 0 (g0.enc aK cK)=w3 at *)
  have ai:Qi _:=mf.o.store 13 (O J 6) { g0 with e:=6 } rfl
  clear mf
  go_wp2_with fail
  refine(Fp _ ai.o HG.o uH.o H.z.o).mono ?_
  rintro e w9 ⟨g,a,c,rfl,t9,b9,hQ⟩
  clear ai H HG uH yA zD f0 f1 f2 f3 f4 f5 f6 f7 f8 f9 ay au aj ak ff fs
  go_wp2_with (refine Bl (f:=g) rfl (.tmp 4) _ rfl rfl rfl t9.o ?_)
  generalize w9.setCells (w.heap.size+1) 0 (g.enc a c)=W9 at *
  exact gZ (lV results178 _ W9 (w.heap.size+1) 47 _ (0,0) _ rfl b9.o mO rfl (by kernel_rfl)) rfl hQ.o
theorem b5a(m:Mine Xb w B lo aS aH aF aL cS cH cF cL M)(hM:Ok M)(hf:Fit M f)(r:Az w aK cK f.t)(hz:∀ ad,aK=some ad->¬ Ac B aS aH aF aL ad.block){N:Mm}(HN:Qi (Es M f=N)){G:Fr}(HG:Qi (Ak { f with h:=-1 } f.e=G)) :
  Calls Pg 187 #[Ae B,Ai f aK cK] w (Iw Xb w (Ac B aS aH aF aL) B lo aK cK N G):=by
 unfold Ae Ai
 obtain⟨of,df⟩:=frO f aK cK
 obtain⟨oz,bi⟩:∃ o:Obj,o=Ah:=⟨_,rfl⟩
 obtain⟨b,H,qJ⟩:=LH.first m hM hf r hz df bi
 have ig:=H.ns
 have gy:=H.bl
 have jf:=H.nh
 obtain⟨f0,f1,f2,f3,f4,f5,f6,f7,f8,f9,ay,au,aj,ak,ff,fs⟩:=A8 H.e.o.fb
 obtain⟨q0,q1,q2,q3,q4,-,-,-,-,-,qs⟩:=Aj H.e.o.m.box
 unfold Ah at bi
 clear m hM hf r hz
 go_enter func187,ntmps187
 go_wp2_with fail
 rw[<- df,<- bi]
 generalize (w.alloc of).alloc oz=W0 at *
 subst df bi
 obtain⟨g0,hg⟩:∃ g,Fa M f=g:=⟨_,rfl⟩
 have qN:=P7 M f B lo aS aH aF aL cS cH cF cL aK cK W0 H.e.o.m H.ok.o
 rw[hg] at qN
 have vN:g0.t=f.t:=by rw[<- hg];unfold Fa;split <;> rfl
 have uH:Qi (Az w aK cK g0.t):=vN ▸ H.r.o
 have yA:Qi (g0.t.length<=100):=vN ▸ H.fit.o.t
 have zD:Qi (0<=g0.n/\g0.n<=1000000):=by
  have h:=H.fit.o.n
  rw[Ar] at h
  show _/\_
  rw[show g0.n=f.n by rw[<- hg];unfold Fa;split <;> rfl]
  exact h
 have AL:Qi (Es M f=N):=HN
 rw[AL.o] at qN
 have ZG:=H.fit.o.h.1
 clear vN HN AL
 rcases Qm H.fit.o with ⟨hs,h'⟩|⟨j,hj,hl,h'⟩
 ·have rM:Qi (Ak { g0 with h:=-1 } g0.e=G):=by
   rw[<- HG.o,<- hg]
   unfold Fa
   rw[h'];rfl
  rw[h'] at qN
  clear HG hg h' hs
  have HG:=rM
  clear rM
  refine qN.mono ?_
  rintro e w2 ⟨rfl,ja,ik⟩
  have di:Qi _:=H.e.o.after ja ik
  have t3:Qi (w2.there w.heap.size 0 14):=Be di.o.fb (by simp)
  have mf:Qi _:=di.o.put g0
  clear qN ja ik di f0 f1 f2 f3 f4 f5 f6 f7 f8 f9 ay au aj ak ff fs q0 q1 q2 q3 q4 qs
  obtain⟨f0,f1,f2,f3,f4,f5,f6,f7,f8,f9,ay,au,aj,ak,ff,fs⟩:=A8 mf.o.fb
  go_wp2_with (refine Bl (f:=g0) rfl (.tmp 3) _ rfl rfl rfl t3.o ?_;clear t3;generalize w2.setCells w.heap.size 0 (g0.enc aK cK)=w3 at *)
  have ai:Qi _:=mf.o.store 9 (O J (-1)) { g0 with h:=-1 } rfl
  clear mf
  refine(Ub _ ai.o HG.o uH.o H.z.o yA.o).mono ?_
  rintro e w9 ⟨g,a,c,rfl,t9,b9,hQ⟩
  clear ai H HG uH yA zD f0 f1 f2 f3 f4 f5 f6 f7 f8 f9 ay au aj ak ff fs
  go_wp2_with (refine Bl (f:=g) rfl (.tmp 4) _ rfl rfl rfl t9.o ?_)
  generalize w9.setCells (w.heap.size+1) 0 (g.enc a c)=W9 at *
  exact gZ (lV results187 _ W9 (w.heap.size+1) 47 _ (0,0) _ rfl b9.o mO rfl (by kernel_rfl)) rfl hQ.o
 ·have rM:Qi (Ak { g0 with h:=-1 } g0.e=G):=by
   rw[<- HG.o,<- hg]
   unfold Fa
   rw[h'];rfl
  rw[h'] at qN
  clear HG hg h' hj hl
  have HG:=rM
  clear rM
  refine qN.mono ?_
  rintro e w2 ⟨rfl,ja,ik⟩
  have di:Qi _:=H.e.o.after ja ik
  have t3:Qi (w2.there w.heap.size 0 14):=Be di.o.fb (by simp)
  have mf:Qi _:=di.o.put g0
  clear qN ja ik di f0 f1 f2 f3 f4 f5 f6 f7 f8 f9 ay au aj ak ff fs q0 q1 q2 q3 q4 qs
  obtain⟨f0,f1,f2,f3,f4,f5,f6,f7,f8,f9,ay,au,aj,ak,ff,fs⟩:=A8 mf.o.fb
  go_wp2_with (refine Bl (f:=g0) rfl (.tmp 3) _ rfl rfl rfl t3.o ?_;clear t3;generalize w2.setCells w.heap.size 0 (g0.enc aK cK)=w3 at *)
  have ai:Qi _:=mf.o.store 9 (O J (-1)) { g0 with h:=-1 } rfl
  clear mf
  refine(Ub _ ai.o HG.o uH.o H.z.o yA.o).mono ?_
  rintro e w9 ⟨g,a,c,rfl,t9,b9,hQ⟩
  clear ai H HG uH yA zD f0 f1 f2 f3 f4 f5 f6 f7 f8 f9 ay au aj ak ff fs
  go_wp2_with (refine Bl (f:=g) rfl (.tmp 4) _ rfl rfl rfl t9.o ?_)
  generalize w9.setCells (w.heap.size+1) 0 (g.enc a c)=W9 at *
  exact gZ (lV results187 _ W9 (w.heap.size+1) 47 _ (0,0) _ rfl b9.o mO rfl (by kernel_rfl)) rfl hQ.o
theorem b5d(m:Mine Xb w B lo aS aH aF aL cS cH cF cL M)(hM:Ok M)(hf:Fit M f)(r:Az w aK cK f.t)(hz:∀ ad,aK=some ad->¬ Ac B aS aH aF aL ad.block){N:Mm}(HN:Qi (Es M f=N)){G:Fr}(HG:Qi (Oj M f=G)) :
  Calls Pg 194 #[Ae B,Ai f aK cK] w (Iw Xb w (Ac B aS aH aF aL) B lo aK cK N G):=by
 unfold Ae Ai
 obtain⟨of,df⟩:=frO f aK cK
 obtain⟨oz,bi⟩:∃ o:Obj,o=Ah:=⟨_,rfl⟩
 obtain⟨b,H,qJ⟩:=LH.first m hM hf r hz df bi
 have ig:=H.ns
 have gy:=H.bl
 have jf:=H.nh
 obtain⟨f0,f1,f2,f3,f4,f5,f6,f7,f8,f9,ay,au,aj,ak,ff,fs⟩:=A8 H.e.o.fb
 obtain⟨q0,q1,q2,q3,q4,-,-,-,-,-,qs⟩:=Aj H.e.o.m.box
 unfold Ah at bi
 clear m hM hf r hz
 go_enter func194,ntmps194
 go_wp2_with fail
 rw[<- df,<- bi]
 generalize (w.alloc of).alloc oz=W0 at *
 subst df bi
 obtain⟨g0,hg⟩:∃ g,Fa M f=g:=⟨_,rfl⟩
 have qN:=P7 M f B lo aS aH aF aL cS cH cF cL aK cK W0 H.e.o.m H.ok.o
 rw[hg] at qN
 have vN:g0.t=f.t:=by rw[<- hg];unfold Fa;split <;> rfl
 have uH:Qi (Az w aK cK g0.t):=vN ▸ H.r.o
 have yA:Qi (g0.t.length<=100):=vN ▸ H.fit.o.t
 have zD:Qi (0<=g0.n/\g0.n<=1000000):=by
  have h:=H.fit.o.n
  rw[Ar] at h
  show _/\_
  rw[show g0.n=f.n by rw[<- hg];unfold Fa;split <;> rfl]
  exact h
 have AL:Qi (Es M f=N):=HN
 rw[AL.o] at qN
 have ZG:=H.fit.o.h.1
 clear vN HN AL
 rcases Qm H.fit.o with ⟨hs,h'⟩|⟨j,hj,hl,h'⟩
 ·have rM:Qi (toF g0 6=G):=by
   rw[<- HG.o,<- hg]
   unfold Fa Oj
   rw[h'];rfl
  rw[h'] at qN
  clear HG hg h' hs
  have HG:=rM
  clear rM
  refine qN.mono ?_
  rintro e w2 ⟨rfl,ja,ik⟩
  have di:Qi _:=H.e.o.after ja ik
  have t3:Qi (w2.there w.heap.size 0 14):=Be di.o.fb (by simp)
  have mf:Qi _:=di.o.put g0
  clear qN ja ik di f0 f1 f2 f3 f4 f5 f6 f7 f8 f9 ay au aj ak ff fs q0 q1 q2 q3 q4 qs
  obtain⟨f0,f1,f2,f3,f4,f5,f6,f7,f8,f9,ay,au,aj,ak,ff,fs⟩:=A8 mf.o.fb
  go_wp2_with (refine Bl (f:=g0) rfl (.tmp 3) _ rfl rfl rfl t3.o ?_;clear t3;generalize w2.setCells w.heap.size 0 (g0.enc aK cK)=w3 at *)
  have ai:=mf
  clear mf
  refine(Zd ai.o HG.o uH.o H.z.o).mono ?_
  rintro e w9 ⟨g,a,c,rfl,t9,b9,hQ⟩
  clear ai H HG uH yA zD f0 f1 f2 f3 f4 f5 f6 f7 f8 f9 ay au aj ak ff fs
  go_wp2_with (refine Bl (f:=g) rfl (.tmp 4) _ rfl rfl rfl t9.o ?_)
  generalize w9.setCells (w.heap.size+1) 0 (g.enc a c)=W9 at *
  exact gZ (lV results194 _ W9 (w.heap.size+1) 47 _ (0,0) _ rfl b9.o mO rfl (by kernel_rfl)) rfl hQ.o
 ·have rM:Qi (toF { g0 with n:=if g0.n<1000000 then g0.n+1 else g0.n } 2=G):=by
   rw[<- HG.o,<- hg]
   unfold Fa Oj
   rw[h'];rfl
  rw[h'] at qN
  clear HG hg h' hj hl
  have HG:=rM
  clear rM
  refine qN.mono ?_
  rintro e w2 ⟨rfl,ja,ik⟩
  have di:Qi _:=H.e.o.after ja ik
  have t3:Qi (w2.there w.heap.size 0 14):=Be di.o.fb (by simp)
  have mf:Qi _:=di.o.put g0
  clear qN ja ik di f0 f1 f2 f3 f4 f5 f6 f7 f8 f9 ay au aj ak ff fs q0 q1 q2 q3 q4 qs
  obtain⟨f0,f1,f2,f3,f4,f5,f6,f7,f8,f9,ay,au,aj,ak,ff,fs⟩:=A8 mf.o.fb
  have hn:0<=g0.n/\g0.n<=1000000:=zD.o
  have hw9:IntKind.i64.wrap (g0.n+1)=g0.n+1:=by rw[IntKind.wrap_i64];omega
  go_wp2_with (refine Bl (f:=g0) rfl (.tmp 3) _ rfl rfl rfl t3.o ?_;clear t3;generalize w2.setCells w.heap.size 0 (g0.enc aK cK)=w3 at *)
  all_goals
   first
   | rw[af (show g0.n<1000000 by omega)] at HG
     have ai:Qi _:=mf.o.store 10 (O J (g0.n+1)) { g0 with n:=g0.n+1 } rfl
     clear mf
   | rw[show (if g0.n<1000000 then g0.n+1 else g0.n)=1000000 by split <;> omega] at HG
     have ai:Qi _:=mf.o.store 10 (O J 1000000) { g0 with n:=1000000 } rfl
     clear mf
   refine(Fp _ ai.o HG.o uH.o H.z.o).mono ?_
   rintro e w9 ⟨g,a,c,rfl,t9,b9,hQ⟩
   clear ai H HG uH yA zD f0 f1 f2 f3 f4 f5 f6 f7 f8 f9 ay au aj ak ff fs
   go_wp2_with (refine Bl (f:=g) rfl (.tmp 4) _ rfl rfl rfl t9.o ?_)
   generalize w9.setCells (w.heap.size+1) 0 (g.enc a c)=W9 at *
   exact gZ (lV results194 _ W9 (w.heap.size+1) 47 _ (0,0) _ rfl b9.o mO rfl (by kernel_rfl)) rfl hQ.o
end
end Go.Proofs.YthhgoenomehobaaGreat.mm
