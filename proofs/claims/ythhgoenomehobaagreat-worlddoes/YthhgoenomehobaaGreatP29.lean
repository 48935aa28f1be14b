/- Parts. -/
import Derived.Test.YthhgoenomehobaaGreatP24
namespace Go.Proofs.YthhgoenomehobaaGreat.mm
set_option maxRecDepth 100000
set_option linter.unusedVariables false
open Go.Value renaming int → O, slice → Y
open Go.IntKind renaming i64 → J
open Go.Proofs.Tryz renaming prog → Pg
open Go renaming World → Wq
open Go.ChangeShapes Go.WideShapes Go.ChangeAt Go.RowKit Go.Joins Go.Deep Go.Sort
set_option maxHeartbeats 3200000
section
variable {Xb:Ex}
theorem b2q(M:Mm)(f:Fr)(B lo:Nat)(aS aH aF aL:Option Addr)(cS cH cF cL:Nat)(aK:Option Addr)(cK:Nat)(w:Wq)
  (m:Mine Xb w B lo aS aH aF aL cS cH cF cL M) (hM:Ok M) (hf:Fit M f) (r:Am w aK cK f.keys) (hz:∀ ad,aK=some ad->¬ Ac B aS aH aF aL ad.block) {G:Fr} (HG:Hid (Ti M f=G)) :
  Calls Pg 175 #[.pointer (some ⟨B,0,none⟩),.agg #[O J f.c.kind,O J f.c.a,O J f.c.b,O J f.c.time,O J f.c.bk,O J f.c.slot,O J f.pl,O J f.cur,O J f.prev,O J f.slot,O J f.n,Y aK f.keys.length cK,.bool f.done,O J f.e]] w (Ib Xb w (Ac B aS aH aF aL) B lo aK cK M G):=by
 obtain⟨of,hof⟩:=frO f aK cK
 obtain⟨oz,hoz⟩:∃ o:Obj,o=Ae:=⟨_,rfl⟩
 obtain⟨b,H,hbn⟩:=LH.first m hM hf r hz hof hoz
 have hns:=H.ns
 have hbl:=H.bl
 have hnh:=H.nh
 obtain⟨f0,f1,f2,f3,f4,f5,f6,f7,f8,f9,f10,f11,f12,f13,ff,fs⟩:=A8 H.e.out.fb
 obtain⟨q0,q1,q2,q3,q4,-,-,-,-,-,qs⟩:=Af H.e.out.m.box
 unfold Ae at hoz
 clear m hM hf r hz
 go_enter Tryz.func175,Tryz.ntmps175
 go_wp2_with fail
 rw[<- hof,<- hoz]
 generalize (w.alloc of).alloc oz=W0 at *
 subst hof hoz
 refine H.stands.mono ?_
 clear H
 rintro e w1 ⟨rfl,H⟩
 clear f0 f1 f2 f3 f4 f5 f6 f7 f8 f9 f10 f11 f12 f13 ff fs q0 q1 q2 q3 q4 qs
 obtain⟨f0,f1,f2,f3,f4,f5,f6,f7,f8,f9,f10,f11,f12,f13,ff,fs⟩:=A8 H.e.out.fb
 obtain⟨q0,q1,q2,q3,q4,-,-,-,-,-,qs⟩:=Af H.e.out.m.box
 rcases Io H.fit.out with ⟨hc,ha,hw⟩|⟨j,hj,hl,ha,hw',hw⟩
 ·unfold Ti at HG
  rw[ha] at HG
  rw[ha,hw]
  have HE2:Hid _:=H.e.out.two
  go_wp2_with fail
  refine(Et _ HE2.out HG.out H.r.out H.z.out).mono ?_
  rintro e w9 ⟨g,a,c,rfl,t9,b9,hQ⟩
  clear HE2 H HG f0 f1 f2 f3 f4 f5 f6 f7 f8 f9 f10 f11 f12 f13 ff fs q0 q1 q2 q3 q4 qs
  go_wp2_with (refine Bd (f:=g) rfl (.tmp 4) _ rfl rfl rfl t9.out ?_)
  generalize w9.setCells (w.heap.size+1) 0 (g.enc a c)=W9 at *
  exact bodyPost_ret (results_cell_row Tryz.results175 _ W9 (w.heap.size+1) 47 _ (0,0) _ rfl b9.out Tryz.underlying47 rfl (by kernel_rfl)) rfl hQ.out
 ·unfold Ti at HG
  rw[ha,hw'] at HG
  rw[ha,hw]
  clear ha hw hw' hj
  have se:=LH.seq (Aa M j) f
  obtain⟨gS,hS,xs,x0,x1,x2,x3,x4,x5⟩:=H.e.out.Iq hns hl
  rw[hS] at q0
  have hl':(j:Int)<(M.slots.length:Int):=by omega
  cases hk:lkK (Aa M j) f
  all_goals
   rw[hk] at se HG
   clear hk
   go_wp2_with fail
   go_quiet (fail)
   go_wp2_with fail
   have HE2:Hid (Lk2 Xb w (w1.drewN nq) (Ac B aS aH aF aL) B lo M (f) aK cK):=(H.e.out.below (w2:=w1.drewN nq) ⟨rfl,rfl,rfl,Nat.le_refl _,fun _ _=>rfl⟩).two
   refine(Et _ HE2.out HG.out H.r.out H.z.out).mono ?_
   rintro e w9 ⟨g,a,c,rfl,t9,b9,hQ⟩
   clear HE2 H HG f0 f1 f2 f3 f4 f5 f6 f7 f8 f9 f10 f11 f12 f13 ff fs q0 q1 q2 q3 q4 qs
   go_wp2_with (refine Bd (f:=g) rfl (.tmp 4) _ rfl rfl rfl t9.out ?_)
   generalize w9.setCells (w.heap.size+1) 0 (g.enc a c)=W9 at *
   exact bodyPost_ret (results_cell_row Tryz.results175 _ W9 (w.heap.size+1) 47 _ (0,0) _ rfl b9.out Tryz.underlying47 rfl (by kernel_rfl)) rfl hQ.out
theorem b2s(M:Mm)(f:Fr)(B lo:Nat)(aS aH aF aL:Option Addr)(cS cH cF cL:Nat)(aK:Option Addr)(cK:Nat)(w:Wq)
  (m:Mine Xb w B lo aS aH aF aL cS cH cF cL M) (hM:Ok M) (hf:Fit M f) (r:Am w aK cK f.keys) (hz:∀ ad,aK=some ad->¬ Ac B aS aH aF aL ad.block) {G:Fr} (HG:Hid (Tn M f=G)) :
  Calls Pg 183 #[.pointer (some ⟨B,0,none⟩),.agg #[O J f.c.kind,O J f.c.a,O J f.c.b,O J f.c.time,O J f.c.bk,O J f.c.slot,O J f.pl,O J f.cur,O J f.prev,O J f.slot,O J f.n,Y aK f.keys.length cK,.bool f.done,O J f.e]] w (Ib Xb w (Ac B aS aH aF aL) B lo aK cK M G):=by
 obtain⟨of,hof⟩:=frO f aK cK
 obtain⟨oz,hoz⟩:∃ o:Obj,o=Ae:=⟨_,rfl⟩
 obtain⟨b,H,hbn⟩:=LH.first m hM hf r hz hof hoz
 have hns:=H.ns
 have hbl:=H.bl
 have hnh:=H.nh
 obtain⟨f0,f1,f2,f3,f4,f5,f6,f7,f8,f9,f10,f11,f12,f13,ff,fs⟩:=A8 H.e.out.fb
 obtain⟨q0,q1,q2,q3,q4,-,-,-,-,-,qs⟩:=Af H.e.out.m.box
 unfold Ae at hoz
 clear m hM hf r hz
 go_enter Tryz.func183,Tryz.ntmps183
 go_wp2_with fail
 rw[<- hof,<- hoz]
 generalize (w.alloc of).alloc oz=W0 at *
 subst hof hoz
 refine H.stands.mono ?_
 clear H
 rintro e w1 ⟨rfl,H⟩
 clear f0 f1 f2 f3 f4 f5 f6 f7 f8 f9 f10 f11 f12 f13 ff fs q0 q1 q2 q3 q4 qs
 obtain⟨f0,f1,f2,f3,f4,f5,f6,f7,f8,f9,f10,f11,f12,f13,ff,fs⟩:=A8 H.e.out.fb
 obtain⟨q0,q1,q2,q3,q4,-,-,-,-,-,qs⟩:=Af H.e.out.m.box
 rcases Io H.fit.out with ⟨hc,ha,hw⟩|⟨j,hj,hl,ha,hw',hw⟩
 ·unfold Tn at HG
  rw[ha] at HG
  rw[ha,hw]
  have HE2:Hid _:=H.e.out.two.store 13 (O J 5) { f with e:=5 } rfl
  go_wp2_with fail
  refine(Et _ HE2.out HG.out H.r.out H.z.out).mono ?_
  rintro e w9 ⟨g,a,c,rfl,t9,b9,hQ⟩
  clear HE2 H HG f0 f1 f2 f3 f4 f5 f6 f7 f8 f9 f10 f11 f12 f13 ff fs q0 q1 q2 q3 q4 qs
  go_wp2_with (refine Bd (f:=g) rfl (.tmp 4) _ rfl rfl rfl t9.out ?_)
  generalize w9.setCells (w.heap.size+1) 0 (g.enc a c)=W9 at *
  exact bodyPost_ret (results_cell_row Tryz.results183 _ W9 (w.heap.size+1) 47 _ (0,0) _ rfl b9.out Tryz.underlying47 rfl (by kernel_rfl)) rfl hQ.out
 ·unfold Tn at HG
  rw[ha,hw'] at HG
  rw[ha,hw]
  clear ha hw hw' hj
  have se:=LH.seq (Aa M j) f
  obtain⟨gS,hS,xs,x0,x1,x2,x3,x4,x5⟩:=H.e.out.Iq hns hl
  rw[hS] at q0
  have hl':(j:Int)<(M.slots.length:Int):=by omega
  cases hk:lkK (Aa M j) f
  all_goals
   rw[hk] at se HG
   clear hk
   go_wp2_with fail
   go_quiet (fail)
   go_wp2_with fail
   have HE2:Hid (Lk2 Xb w (w1.drewN nq) (Ac B aS aH aF aL) B lo M (f) aK cK):=(H.e.out.below (w2:=w1.drewN nq) ⟨rfl,rfl,rfl,Nat.le_refl _,fun _ _=>rfl⟩).two
   refine(Et _ HE2.out HG.out H.r.out H.z.out).mono ?_
   rintro e w9 ⟨g,a,c,rfl,t9,b9,hQ⟩
   clear HE2 H HG f0 f1 f2 f3 f4 f5 f6 f7 f8 f9 f10 f11 f12 f13 ff fs q0 q1 q2 q3 q4 qs
   go_wp2_with (refine Bd (f:=g) rfl (.tmp 4) _ rfl rfl rfl t9.out ?_)
   generalize w9.setCells (w.heap.size+1) 0 (g.enc a c)=W9 at *
   exact bodyPost_ret (results_cell_row Tryz.results183 _ W9 (w.heap.size+1) 47 _ (0,0) _ rfl b9.out Tryz.underlying47 rfl (by kernel_rfl)) rfl hQ.out
theorem b0h(M:Mm)(f:Fr)(B lo:Nat)(aS aH aF aL:Option Addr)(cS cH cF cL:Nat)(aK:Option Addr)(cK:Nat)(w:Wq)
  (m:Mine Xb w B lo aS aH aF aL cS cH cF cL M) (hM:Ok M) (hf:Fit M f) (r:Am w aK cK f.keys) (hz:∀ ad,aK=some ad->¬ Ac B aS aH aF aL ad.block) {G:Fr} (HG:Hid (Lr M f=G)) :
  Calls Pg 166 #[.pointer (some ⟨B,0,none⟩),.agg #[O J f.c.kind,O J f.c.a,O J f.c.b,O J f.c.time,O J f.c.bk,O J f.c.slot,O J f.pl,O J f.cur,O J f.prev,O J f.slot,O J f.n,Y aK f.keys.length cK,.bool f.done,O J f.e]] w (Ib Xb w (Ac B aS aH aF aL) B lo aK cK M G):=by
 obtain⟨of,hof⟩:=frO f aK cK
 obtain⟨oz,hoz⟩:∃ o:Obj,o=Ae:=⟨_,rfl⟩
 obtain⟨b,H,hbn⟩:=LH.first m hM hf r hz hof hoz
 have hns:=H.ns
 have hbl:=H.bl
 have hnh:=H.nh
 obtain⟨f0,f1,f2,f3,f4,f5,f6,f7,f8,f9,f10,f11,f12,f13,ff,fs⟩:=A8 H.e.out.fb
 obtain⟨q0,q1,q2,q3,q4,-,-,-,-,-,qs⟩:=Af H.e.out.m.box
 unfold Ae at hoz
 clear m hM hf r hz
 go_enter Tryz.func166,Tryz.ntmps166
 go_wp2_with fail
 rw[<- hof,<- hoz]
 generalize (w.alloc of).alloc oz=W0 at *
 subst hof hoz
 refine H.stands.mono ?_
 clear H
 rintro e w1 ⟨rfl,H⟩
 clear f0 f1 f2 f3 f4 f5 f6 f7 f8 f9 f10 f11 f12 f13 ff fs q0 q1 q2 q3 q4 qs
 obtain⟨f0,f1,f2,f3,f4,f5,f6,f7,f8,f9,f10,f11,f12,f13,ff,fs⟩:=A8 H.e.out.fb
 obtain⟨q0,q1,q2,q3,q4,-,-,-,-,-,qs⟩:=Af H.e.out.m.box
 rcases Io H.fit.out with ⟨hc,ha,hw⟩|⟨j,hj,hl,ha,hw',hw⟩
 ·unfold Lr at HG
  rw[ha] at HG
  rw[ha,hw]
  have HE2:Hid _:=H.e.out.two
  go_wp2_with fail
  refine(Et _ HE2.out HG.out H.r.out H.z.out).mono ?_
  rintro e w9 ⟨g,a,c,rfl,t9,b9,hQ⟩
  clear HE2 H HG f0 f1 f2 f3 f4 f5 f6 f7 f8 f9 f10 f11 f12 f13 ff fs q0 q1 q2 q3 q4 qs
  go_wp2_with (refine Bd (f:=g) rfl (.tmp 4) _ rfl rfl rfl t9.out ?_)
  generalize w9.setCells (w.heap.size+1) 0 (g.enc a c)=W9 at *
  exact bodyPost_ret (results_cell_row Tryz.results166 _ W9 (w.heap.size+1) 47 _ (0,0) _ rfl b9.out Tryz.underlying47 rfl (by kernel_rfl)) rfl hQ.out
 ·unfold Lr at HG
  rw[ha,hw'] at HG
  rw[ha,hw]
  clear ha hw hw' hj
  obtain⟨gS,hS,xs,x0,x1,x2,x3,x4,x5⟩:=H.e.out.Iq hns hl
  rw[hS] at q0
  have hl':(j:Int)<(M.slots.length:Int):=by omega
  have HE2:Hid _:=H.e.out.two.store 7 (O J (Aa M j).next) { f with cur:=(Aa M j).next } rfl
  go_wp2_with fail
  refine(Et _ HE2.out HG.out H.r.out H.z.out).mono ?_
  rintro e w9 ⟨g,a,c,rfl,t9,b9,hQ⟩
  clear HE2 H HG f0 f1 f2 f3 f4 f5 f6 f7 f8 f9 f10 f11 f12 f13 ff fs q0 q1 q2 q3 q4 qs
  go_wp2_with (refine Bd (f:=g) rfl (.tmp 4) _ rfl rfl rfl t9.out ?_)
  generalize w9.setCells (w.heap.size+1) 0 (g.enc a c)=W9 at *
  exact bodyPost_ret (results_cell_row Tryz.results166 _ W9 (w.heap.size+1) 47 _ (0,0) _ rfl b9.out Tryz.underlying47 rfl (by kernel_rfl)) rfl hQ.out
theorem b0c(M:Mm)(f:Fr)(B lo:Nat)(aS aH aF aL:Option Addr)(cS cH cF cL:Nat)(aK:Option Addr)(cK:Nat)(w:Wq)
  (m:Mine Xb w B lo aS aH aF aL cS cH cF cL M) (hM:Ok M) (hf:Fit M f) (r:Am w aK cK f.keys) (hz:∀ ad,aK=some ad->¬ Ac B aS aH aF aL ad.block) {G:Fr} (HG:Hid (Nq M f=G)) :
  Calls Pg 176 #[.pointer (some ⟨B,0,none⟩),.agg #[O J f.c.kind,O J f.c.a,O J f.c.b,O J f.c.time,O J f.c.bk,O J f.c.slot,O J f.pl,O J f.cur,O J f.prev,O J f.slot,O J f.n,Y aK f.keys.length cK,.bool f.done,O J f.e]] w (Ib Xb w (Ac B aS aH aF aL) B lo aK cK M G):=by
 obtain⟨of,hof⟩:=frO f aK cK
 obtain⟨oz,hoz⟩:∃ o:Obj,o=Ae:=⟨_,rfl⟩
 obtain⟨b,H,hbn⟩:=LH.first m hM hf r hz hof hoz
 have hns:=H.ns
 have hbl:=H.bl
 have hnh:=H.nh
 obtain⟨f0,f1,f2,f3,f4,f5,f6,f7,f8,f9,f10,f11,f12,f13,ff,fs⟩:=A8 H.e.out.fb
 obtain⟨q0,q1,q2,q3,q4,-,-,-,-,-,qs⟩:=Af H.e.out.m.box
 unfold Ae at hoz
 clear m hM hf r hz
 go_enter Tryz.func176,Tryz.ntmps176
 go_wp2_with fail
 rw[<- hof,<- hoz]
 generalize (w.alloc of).alloc oz=W0 at *
 subst hof hoz
 refine H.stands.mono ?_
 clear H
 rintro e w1 ⟨rfl,H⟩
 clear f0 f1 f2 f3 f4 f5 f6 f7 f8 f9 f10 f11 f12 f13 ff fs q0 q1 q2 q3 q4 qs
 obtain⟨f0,f1,f2,f3,f4,f5,f6,f7,f8,f9,f10,f11,f12,f13,ff,fs⟩:=A8 H.e.out.fb
 obtain⟨q0,q1,q2,q3,q4,-,-,-,-,-,qs⟩:=Af H.e.out.m.box
 rcases Io H.fit.out with ⟨hc,ha,hw⟩|⟨j,hj,hl,ha,hw',hw⟩
 ·unfold Nq at HG
  rw[ha] at HG
  rw[ha,hw]
  have HE2:Hid _:=H.e.out.two
  go_wp2_with fail
  refine(a3g HE2.out HG.out H.r.out H.z.out).mono ?_
  rintro e w9 ⟨g,a,c,rfl,t9,b9,hQ⟩
  clear HE2 H HG f0 f1 f2 f3 f4 f5 f6 f7 f8 f9 f10 f11 f12 f13 ff fs q0 q1 q2 q3 q4 qs
  go_wp2_with (refine Bd (f:=g) rfl (.tmp 4) _ rfl rfl rfl t9.out ?_)
  generalize w9.setCells (w.heap.size+1) 0 (g.enc a c)=W9 at *
  exact bodyPost_ret (results_cell_row Tryz.results176 _ W9 (w.heap.size+1) 47 _ (0,0) _ rfl b9.out Tryz.underlying47 rfl (by kernel_rfl)) rfl hQ.out
 ·unfold Nq at HG
  rw[ha,hw'] at HG
  rw[ha,hw]
  clear ha hw hw' hj
  obtain⟨gS,hS,xs,x0,x1,x2,x3,x4,x5⟩:=H.e.out.Iq hns hl
  rw[hS] at q0
  have hl':(j:Int)<(M.slots.length:Int):=by omega
  have HE2:Hid _:=H.e.out.two.store 7 (O J (Aa M j).next) { f with cur:=(Aa M j).next } rfl
  go_wp2_with fail
  refine(Et _ HE2.out HG.out H.r.out H.z.out).mono ?_
  rintro e w9 ⟨g,a,c,rfl,t9,b9,hQ⟩
  clear HE2 H HG f0 f1 f2 f3 f4 f5 f6 f7 f8 f9 f10 f11 f12 f13 ff fs q0 q1 q2 q3 q4 qs
  go_wp2_with (refine Bd (f:=g) rfl (.tmp 4) _ rfl rfl rfl t9.out ?_)
  generalize w9.setCells (w.heap.size+1) 0 (g.enc a c)=W9 at *
  exact bodyPost_ret (results_cell_row Tryz.results176 _ W9 (w.heap.size+1) 47 _ (0,0) _ rfl b9.out Tryz.underlying47 rfl (by kernel_rfl)) rfl hQ.out
theorem b0f(M:Mm)(f:Fr)(B lo:Nat)(aS aH aF aL:Option Addr)(cS cH cF cL:Nat)(aK:Option Addr)(cK:Nat)(w:Wq)
  (m:Mine Xb w B lo aS aH aF aL cS cH cF cL M) (hM:Ok M) (hf:Fit M f) (r:Am w aK cK f.keys) (hz:∀ ad,aK=some ad->¬ Ac B aS aH aF aL ad.block) {N:Mm} (HN:Hid (Lm M f=N)) {G:Fr} (HG:Hid (Ll M f=G)) :
  Calls Pg 167 #[.pointer (some ⟨B,0,none⟩),.agg #[O J f.c.kind,O J f.c.a,O J f.c.b,O J f.c.time,O J f.c.bk,O J f.c.slot,O J f.pl,O J f.cur,O J f.prev,O J f.slot,O J f.n,Y aK f.keys.length cK,.bool f.done,O J f.e]] w (Ib Xb w (Ac B aS aH aF aL) B lo aK cK N G):=by
 obtain⟨of,hof⟩:=frO f aK cK
 obtain⟨oz,hoz⟩:∃ o:Obj,o=Ae:=⟨_,rfl⟩
 obtain⟨b,H,hbn⟩:=LH.first m hM hf r hz hof hoz
 have hns:=H.ns
 have hbl:=H.bl
 have hnh:=H.nh
 obtain⟨f0,f1,f2,f3,f4,f5,f6,f7,f8,f9,f10,f11,f12,f13,ff,fs⟩:=A8 H.e.out.fb
 obtain⟨q0,q1,q2,q3,q4,-,-,-,-,-,qs⟩:=Af H.e.out.m.box
 unfold Ae at hoz
 clear m hM hf r hz
 go_enter Tryz.func167,Tryz.ntmps167
 go_wp2_with fail
 rw[<- hof,<- hoz]
 generalize (w.alloc of).alloc oz=W0 at *
 subst hof hoz
 refine H.stands.mono ?_
 clear H
 rintro e w1 ⟨rfl,H⟩
 clear f0 f1 f2 f3 f4 f5 f6 f7 f8 f9 f10 f11 f12 f13 ff fs q0 q1 q2 q3 q4 qs
 obtain⟨f0,f1,f2,f3,f4,f5,f6,f7,f8,f9,f10,f11,f12,f13,ff,fs⟩:=A8 H.e.out.fb
 obtain⟨q0,q1,q2,q3,q4,-,-,-,-,-,qs⟩:=Af H.e.out.m.box
 rcases Io H.fit.out with ⟨hc,ha,hw⟩|⟨j,hj,hl,ha,hw',hw⟩
 ·unfold Ll at HG
  rw[ha] at HG
  have hN:M=N:=by rw[<- HN.out];unfold Lm;rw[ha];rfl
  subst hN
  rw[ha,hw]
  have HE2:Hid _:=H.e.out.two
  go_wp2_with fail
  refine(Et _ HE2.out HG.out H.r.out H.z.out).mono ?_
  rintro e w9 ⟨g,a,c,rfl,t9,b9,hQ⟩
  clear HE2 H HG f0 f1 f2 f3 f4 f5 f6 f7 f8 f9 f10 f11 f12 f13 ff fs q0 q1 q2 q3 q4 qs
  go_wp2_with (refine Bd (f:=g) rfl (.tmp 4) _ rfl rfl rfl t9.out ?_)
  generalize w9.setCells (w.heap.size+1) 0 (g.enc a c)=W9 at *
  exact bodyPost_ret (results_cell_row Tryz.results167 _ W9 (w.heap.size+1) 47 _ (0,0) _ rfl b9.out Tryz.underlying47 rfl (by kernel_rfl)) rfl hQ.out
 ·unfold Ll at HG
  rw[ha,hw'] at HG
  have hN:holdN M j=N:=by rw[<- HN.out];unfold Lm;rw[ha,hw'];rfl
  subst hN
  rw[ha,hw]
  clear ha hw hw' hj HN
  have hS:Dc M (j:Int)=true:=Eg.2 (by omega)
  go_wp2_with fail
  refine(a4q ⟨_,_,_,_,_,_,_,_,H.e.out.m,fun _ h=>h⟩ H.ok.out hS).mono ?_
  rintro e w2 ⟨rfl,hh2,hf2⟩
  have HE3:Hid _:=H.e.out.after hh2 hf2
  clear hh2 hf2 f0 f1 f2 f3 f4 f5 f6 f7 f8 f9 f10 f11 f12 f13 ff fs q0 q1 q2 q3 q4 qs
  obtain⟨f0,f1,f2,f3,f4,f5,f6,f7,f8,f9,f10,f11,f12,f13,ff,fs⟩:=A8 HE3.out.fb
  rw[Bool.true_and] at HG
  cases hk:Qk M j
  all_goals
   rw[hk] at HG
   clear hk
  focus
   have HE2:=HE3
   go_wp2_with fail
  rotate_left
  focus
   have HE2:Hid (Lk2 Xb w (w2.setCell ⟨w.heap.size,9,none⟩ (O J (j:Int))) (Ac B aS aH aF aL) B lo (holdN M j) ({ f with slot:=(j:Int) }) aK cK):=HE3.out.store 9 _ _ rfl
   go_wp2_with fail
  all_goals
   clear HE3
   refine(Et _ HE2.out HG.out H.r.out H.z.out).mono ?_
   rintro e w9 ⟨g,a,c,rfl,t9,b9,hQ⟩
   clear HE2 H HG f0 f1 f2 f3 f4 f5 f6 f7 f8 f9 f10 f11 f12 f13 ff fs
   go_wp2_with (refine Bd (f:=g) rfl (.tmp 4) _ rfl rfl rfl t9.out ?_)
   generalize w9.setCells (w.heap.size+1) 0 (g.enc a c)=W9 at *
   exact bodyPost_ret (results_cell_row Tryz.results167 _ W9 (w.heap.size+1) 47 _ (0,0) _ rfl b9.out Tryz.underlying47 rfl (by kernel_rfl)) rfl hQ.out
theorem b2t(M:Mm)(f:Fr)(B lo:Nat)(aS aH aF aL:Option Addr)(cS cH cF cL:Nat)(aK:Option Addr)(cK:Nat)(w:Wq)
  (m:Mine Xb w B lo aS aH aF aL cS cH cF cL M) (hM:Ok M) (hf:Fit M f) (r:Am w aK cK f.keys) (hz:∀ ad,aK=some ad->¬ Ac B aS aH aF aL ad.block) {G:Fr} (HG:Hid (U0 M f=G)) :
  Calls Pg 165 #[.pointer (some ⟨B,0,none⟩),.agg #[O J f.c.kind,O J f.c.a,O J f.c.b,O J f.c.time,O J f.c.bk,O J f.c.slot,O J f.pl,O J f.cur,O J f.prev,O J f.slot,O J f.n,Y aK f.keys.length cK,.bool f.done,O J f.e]] w (Ib Xb w (Ac B aS aH aF aL) B lo aK cK M G):=by
 obtain⟨of,hof⟩:=frO f aK cK
 obtain⟨oz,hoz⟩:∃ o:Obj,o=Ae:=⟨_,rfl⟩
 obtain⟨b,H,hbn⟩:=LH.first m hM hf r hz hof hoz
 have hns:=H.ns
 have hbl:=H.bl
 have hnh:=H.nh
 obtain⟨f0,f1,f2,f3,f4,f5,f6,f7,f8,f9,f10,f11,f12,f13,ff,fs⟩:=A8 H.e.out.fb
 obtain⟨q0,q1,q2,q3,q4,-,-,-,-,-,qs⟩:=Af H.e.out.m.box
 unfold Ae at hoz
 clear m hM hf r hz
 go_enter Tryz.func165,Tryz.ntmps165
 go_wp2_with fail
 rw[<- hof,<- hoz]
 generalize (w.alloc of).alloc oz=W0 at *
 subst hof hoz
 have cB:∀ (d:Nat) (os:Array Obj),Calls Pg 34 #[.agg #[Y aS M.slots.length cS,Y aH M.heads.length cH,Y aF M.free.length cF,Y aL M.locks.length cL,O J M.now],.agg #[O J f.c.kind,O J f.c.a,O J f.c.b,O J f.c.time,O J f.c.bk,O J f.c.slot]] (grow (redrawn W0 d) os) fun e w''=>e=.returned (O J (b:Int))/\∃ p:Regrown,w''=grow (redrawn W0 p.d) p.os:=fun d os=>Calls.regrown_of (H.below (below_regrown W0 d os)).bk
 have cT:∀ (d:Nat) (os:Array Obj),Calls Pg 108 #[O J (b:Int)] (grow (redrawn W0 d) os) fun e w''=>e=.returned (O J (-1 - (b:Int)))/\∃ p:Regrown,w''=grow (redrawn W0 p.d) p.os:=fun d os=>Calls.regrown_of ((Ov _ _ (by omega) (by omega)).mono (by rintro e w' ⟨rfl,rfl⟩;exact⟨rfl,Below.refl _ _⟩))
 have Q0:=cell_regrown q0;have Q1:=cell_regrown q1;have Q2:=cell_regrown q2;have Q3:=cell_regrown q3;have Q4:=cell_regrown q4
 have F0:=cell_regrown f0;have F1:=cell_regrown f1;have F2:=cell_regrown f2;have F3:=cell_regrown f3;have F4:=cell_regrown f4;have F5:=cell_regrown f5;have F7:=cell_regrown f7
 clear q0 q1 q2 q3 q4 qs f0 f1 f2 f3 f4 f5 f6 f7 f8 f9 f10 f11 f12 f13 ff fs
 refine wp_region_quiet_below (by kernel_rfl) (by kernel_rfl) ?_
 repeat (quiet_step (first|exact cB _ _|exact cT _ _))
 refine wpQuiet_nil ?_
 intro _ hw'
 obtain⟨⟨dq,osq⟩,hw''⟩:=hw'
 subst hw''
 have H1:=H.below (below_regrown W0 dq osq)
 clear H cB cT Q0 Q1 Q2 Q3 Q4 F0 F1 F2 F3 F4 F5 F7
 have H:=H1
 clear H1
 generalize grow (redrawn W0 dq) osq=w1 at *
 obtain⟨f0,f1,f2,f3,f4,f5,f6,f7,f8,f9,f10,f11,f12,f13,ff,fs⟩:=A8 H.e.out.fb
 obtain⟨q0,q1,q2,q3,q4,-,-,-,-,-,qs⟩:=Af H.e.out.m.box
 have hb':Ey M.heads.length f.c=b:=H.bb.out
 unfold U0 at HG
 rw[hb'] at HG
 clear hb' hbn
 have hq:f.cur=-1 - (b:Int)/\(f.cur == -1 - (b:Int))=true\/¬ f.cur=-1 - (b:Int)/\(f.cur == -1 - (b:Int))=false:=by
  by_cases h:f.cur=-1 - (b:Int) <;> simp[h]
 rcases hq with ⟨h,hq⟩|⟨h,hq⟩
 ·rw[if_pos h] at HG
  clear h
  have HE2:Hid _:=H.e.out.two
  go_wp2_with fail
  refine(S9 _ HE2.out HG.out H.r.out H.z.out H.fit.out.keys).mono ?_
  rintro e w9 ⟨g,a,c,rfl,t9,b9,hQ⟩
  clear HE2 H HG f0 f1 f2 f3 f4 f5 f6 f7 f8 f9 f10 f11 f12 f13 ff fs q0 q1 q2 q3 q4 qs
  go_wp2_with (refine Bd (f:=g) rfl (.tmp 4) _ rfl rfl rfl t9.out ?_)
  generalize w9.setCells (w.heap.size+1) 0 (g.enc a c)=W9 at *
  exact bodyPost_ret (results_cell_row Tryz.results165 _ W9 (w.heap.size+1) 47 _ (0,0) _ rfl b9.out Tryz.underlying47 rfl (by kernel_rfl)) rfl hQ.out
 ·rw[if_neg h] at HG
  clear h
  go_wp2_with fail
  refine H.stands.mono ?_
  clear H
  rintro e w2 ⟨rfl,H⟩
  clear f0 f1 f2 f3 f4 f5 f6 f7 f8 f9 f10 f11 f12 f13 ff fs q0 q1 q2 q3 q4 qs
  obtain⟨f0,f1,f2,f3,f4,f5,f6,f7,f8,f9,f10,f11,f12,f13,ff,fs⟩:=A8 H.e.out.fb
  obtain⟨q0,q1,q2,q3,q4,-,-,-,-,-,qs⟩:=Af H.e.out.m.box
  rcases Io H.fit.out with ⟨hc,ha,hw⟩|⟨j,hj,hl,ha,hw',hw⟩
  ·rw[ha] at HG
   rw[ha,hw]
   have HE2:Hid _:=H.e.out.two
   go_wp2_with fail
   refine(Et _ HE2.out HG.out H.r.out H.z.out).mono ?_
   rintro e w9 ⟨g,a,c,rfl,t9,b9,hQ⟩
   clear HE2 H HG f0 f1 f2 f3 f4 f5 f6 f7 f8 f9 f10 f11 f12 f13 ff fs q0 q1 q2 q3 q4 qs
   go_wp2_with (refine Bd (f:=g) rfl (.tmp 4) _ rfl rfl rfl t9.out ?_)
   generalize w9.setCells (w.heap.size+1) 0 (g.enc a c)=W9 at *
   exact bodyPost_ret (results_cell_row Tryz.results165 _ W9 (w.heap.size+1) 47 _ (0,0) _ rfl b9.out Tryz.underlying47 rfl (by kernel_rfl)) rfl hQ.out
  ·rw[ha,hw'] at HG
   rw[ha,hw]
   clear ha hw hw' hj hq
   have se:=LH.seq (Aa M j) f
   obtain⟨gS,hS,xs,x0,x1,x2,x3,x4,x5⟩:=H.e.out.Iq hns hl
   rw[hS] at q0
   have hl':(j:Int)<(M.slots.length:Int):=by omega
   cases hk:lkK (Aa M j) f
   all_goals
    rw[hk] at se HG
    clear hk
    go_wp2_with fail
    go_quiet (fail)
    go_wp2_with fail
    have HE2:Hid (Lk2 Xb w (w2.drewN nq) (Ac B aS aH aF aL) B lo M (f) aK cK):=(H.e.out.below (w2:=w2.drewN nq) ⟨rfl,rfl,rfl,Nat.le_refl _,fun _ _=>rfl⟩).two
    refine(Et _ HE2.out HG.out H.r.out H.z.out).mono ?_
    rintro e w9 ⟨g,a,c,rfl,t9,b9,hQ⟩
    clear HE2 H HG f0 f1 f2 f3 f4 f5 f6 f7 f8 f9 f10 f11 f12 f13 ff fs q0 q1 q2 q3 q4 qs
    go_wp2_with (refine Bd (f:=g) rfl (.tmp 4) _ rfl rfl rfl t9.out ?_)
    generalize w9.setCells (w.heap.size+1) 0 (g.enc a c)=W9 at *
    exact bodyPost_ret (results_cell_row Tryz.results165 _ W9 (w.heap.size+1) 47 _ (0,0) _ rfl b9.out Tryz.underlying47 rfl (by kernel_rfl)) rfl hQ.out
end
end Go.Proofs.YthhgoenomehobaaGreat.mm
