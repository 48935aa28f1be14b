/- Parts. -/
import Derived.Test.YthhgoenomehobaaGreatP24
import Derived.Test.YthhgoenomehobaaGreatP13
namespace Go.Proofs.YthhgoenomehobaaGreat.mm
set_option maxRecDepth 100000
set_option linter.unusedVariables false
open Go.Value renaming int → O, slice → Y
open Go.IntKind renaming i64 → J
open Go.Proofs.Tryz renaming prog → Pg
open Go renaming World → Wq
open Go.ChangeShapes Go.WideShapes Go.ChangeAt Go.RowKit Go.Joins Go.Deep Go.Sort
set_option maxHeartbeats 3200000
section
variable {Xb:Ex}
theorem a6p(M:Mm)(f:Fr)(B lo:Nat)(aS aH aF aL:Option Addr)(cS cH cF cL:Nat)(aK:Option Addr)(cK:Nat)(w:Wq)
  (m:Mine Xb w B lo aS aH aF aL cS cH cF cL M) (hM:Ok M) (hf:Fit M f) (r:Am w aK cK f.keys) (hz:∀ ad,aK=some ad->¬ Ac B aS aH aF aL ad.block) {N:Mm} (HN:Hid (Ee M f=N)) {G:Fr} (HG:Hid (J4 M f=G)) :
  Calls Pg 169 #[.pointer (some ⟨B,0,none⟩),.agg #[O J f.c.kind,O J f.c.a,O J f.c.b,O J f.c.time,O J f.c.bk,O J f.c.slot,O J f.pl,O J f.cur,O J f.prev,O J f.slot,O J f.n,Y aK f.keys.length cK,.bool f.done,O J f.e]] w (Ib Xb w (Ac B aS aH aF aL) B lo aK cK N G):=by
 obtain⟨of,hof⟩:=frO f aK cK
 obtain⟨oz,hoz⟩:∃ o:Obj,o=Ae:=⟨_,rfl⟩
 obtain⟨b,H,hbn⟩:=LH.first m hM hf r hz hof hoz
 have hns:=H.ns
 have hbl:=H.bl
 have hnh:=H.nh
 obtain⟨f0,f1,f2,f3,f4,f5,f6,f7,f8,f9,f10,f11,f12,f13,ff,fs⟩:=A8 H.e.out.fb
 obtain⟨q0,q1,q2,q3,q4,-,-,-,-,-,qs⟩:=Af H.e.out.m.box
 unfold Ae at hoz
 clear m hM hf r hz
 go_enter Tryz.func169,Tryz.ntmps169
 go_wp2_with fail
 rw[<- hof,<- hoz]
 generalize (w.alloc of).alloc oz=W0 at *
 subst hof hoz
 obtain⟨g0,hg⟩:∃ g,Ei M f=g:=⟨_,rfl⟩
 have hLt:=O4 M f B lo aS aH aF aL cS cH cF cL aK cK W0 H.e.out.m H.ok.out
 rw[hg] at hLt
 have hky:g0.keys=f.keys:=by rw[<- hg];unfold Ei;split <;> rfl
 have HRg:Hid (Am w aK cK g0.keys):=hky ▸ H.r.out
 have HKg:Hid (g0.keys.length<=100):=hky ▸ H.fit.out.keys
 have HNn:Hid (0<=g0.n/\g0.n<=1000000):=by
  have h:=H.fit.out.n
  rw[Aj] at h
  show _/\_
  rw[show g0.n=f.n by rw[<- hg];unfold Ei;split <;> rfl]
  exact h
 have HN':Hid (Ee M f=N):=HN
 rw[HN'.out] at hLt
 have hfs:=H.fit.out.slot.1
 clear hky HN HN'
 rcases P7 H.fit.out with ⟨hs,h'⟩|⟨j,hj,hl,h'⟩
 ·have HG2:Hid (toF g0 0=G):=by
   rw[<- HG.out,<- hg]
   unfold Ei J4
   rw[h'];rfl
  rw[h'] at hLt
  clear HG hg h' hs
  have HG:=HG2
  clear HG2
  refine hLt.mono ?_
  rintro e w2 ⟨rfl,hh2,hf2⟩
  have HE3:Hid _:=H.e.out.after hh2 hf2
  have t3:Hid (w2.there w.heap.size 0 14):=Az HE3.out.fb (by simp)
  have HE4:Hid _:=HE3.out.put g0
  clear hLt hh2 hf2 HE3 f0 f1 f2 f3 f4 f5 f6 f7 f8 f9 f10 f11 f12 f13 ff fs q0 q1 q2 q3 q4 qs
  obtain⟨f0,f1,f2,f3,f4,f5,f6,f7,f8,f9,f10,f11,f12,f13,ff,fs⟩:=A8 HE4.out.fb
  go_wp2_with (refine Bd (f:=g0) rfl (.tmp 3) _ rfl rfl rfl t3.out ?_;clear t3;generalize w2.setCells w.heap.size 0 (g0.enc aK cK)=w3 at *)
  have HE2:=HE4
  clear HE4
  refine(Et _ HE2.out HG.out HRg.out H.z.out).mono ?_
  rintro e w9 ⟨g,a,c,rfl,t9,b9,hQ⟩
  clear HE2 H HG HRg HKg HNn f0 f1 f2 f3 f4 f5 f6 f7 f8 f9 f10 f11 f12 f13 ff fs
  go_wp2_with (refine Bd (f:=g) rfl (.tmp 4) _ rfl rfl rfl t9.out ?_)
  generalize w9.setCells (w.heap.size+1) 0 (g.enc a c)=W9 at *
  exact bodyPost_ret (results_cell_row Tryz.results169 _ W9 (w.heap.size+1) 47 _ (0,0) _ rfl b9.out Tryz.underlying47 rfl (by kernel_rfl)) rfl hQ.out
 ·have HG2:Hid (toF g0 0=G):=by
   rw[<- HG.out,<- hg]
   unfold Ei J4
   rw[h'];rfl
  rw[h'] at hLt
  clear HG hg h' hj hl
  have HG:=HG2
  clear HG2
  refine hLt.mono ?_
  rintro e w2 ⟨rfl,hh2,hf2⟩
  have HE3:Hid _:=H.e.out.after hh2 hf2
  have t3:Hid (w2.there w.heap.size 0 14):=Az HE3.out.fb (by simp)
  have HE4:Hid _:=HE3.out.put g0
  clear hLt hh2 hf2 HE3 f0 f1 f2 f3 f4 f5 f6 f7 f8 f9 f10 f11 f12 f13 ff fs q0 q1 q2 q3 q4 qs
  obtain⟨f0,f1,f2,f3,f4,f5,f6,f7,f8,f9,f10,f11,f12,f13,ff,fs⟩:=A8 HE4.out.fb
  go_wp2_with (refine Bd (f:=g0) rfl (.tmp 3) _ rfl rfl rfl t3.out ?_;clear t3;generalize w2.setCells w.heap.size 0 (g0.enc aK cK)=w3 at *)
  have HE2:=HE4
  clear HE4
  refine(Et _ HE2.out HG.out HRg.out H.z.out).mono ?_
  rintro e w9 ⟨g,a,c,rfl,t9,b9,hQ⟩
  clear HE2 H HG HRg HKg HNn f0 f1 f2 f3 f4 f5 f6 f7 f8 f9 f10 f11 f12 f13 ff fs
  go_wp2_with (refine Bd (f:=g) rfl (.tmp 4) _ rfl rfl rfl t9.out ?_)
  generalize w9.setCells (w.heap.size+1) 0 (g.enc a c)=W9 at *
  exact bodyPost_ret (results_cell_row Tryz.results169 _ W9 (w.heap.size+1) 47 _ (0,0) _ rfl b9.out Tryz.underlying47 rfl (by kernel_rfl)) rfl hQ.out
theorem b0g(M:Mm)(f:Fr)(B lo:Nat)(aS aH aF aL:Option Addr)(cS cH cF cL:Nat)(aK:Option Addr)(cK:Nat)(w:Wq)
  (m:Mine Xb w B lo aS aH aF aL cS cH cF cL M) (hM:Ok M) (hf:Fit M f) (r:Am w aK cK f.keys) (hz:∀ ad,aK=some ad->¬ Ac B aS aH aF aL ad.block) {N:Mm} (HN:Hid (Ee M f=N)) {G:Fr} (HG:Hid (Lp M f=G)) :
  Calls Pg 170 #[.pointer (some ⟨B,0,none⟩),.agg #[O J f.c.kind,O J f.c.a,O J f.c.b,O J f.c.time,O J f.c.bk,O J f.c.slot,O J f.pl,O J f.cur,O J f.prev,O J f.slot,O J f.n,Y aK f.keys.length cK,.bool f.done,O J f.e]] w (Ib Xb w (Ac B aS aH aF aL) B lo aK cK N G):=by
 obtain⟨of,hof⟩:=frO f aK cK
 obtain⟨oz,hoz⟩:∃ o:Obj,o=Ae:=⟨_,rfl⟩
 obtain⟨b,H,hbn⟩:=LH.first m hM hf r hz hof hoz
 have hns:=H.ns
 have hbl:=H.bl
 have hnh:=H.nh
 obtain⟨f0,f1,f2,f3,f4,f5,f6,f7,f8,f9,f10,f11,f12,f13,ff,fs⟩:=A8 H.e.out.fb
 obtain⟨q0,q1,q2,q3,q4,-,-,-,-,-,qs⟩:=Af H.e.out.m.box
 unfold Ae at hoz
 clear m hM hf r hz
 go_enter Tryz.func170,Tryz.ntmps170
 go_wp2_with fail
 rw[<- hof,<- hoz]
 generalize (w.alloc of).alloc oz=W0 at *
 subst hof hoz
 obtain⟨g0,hg⟩:∃ g,Ei M f=g:=⟨_,rfl⟩
 have hLt:=O4 M f B lo aS aH aF aL cS cH cF cL aK cK W0 H.e.out.m H.ok.out
 rw[hg] at hLt
 have hky:g0.keys=f.keys:=by rw[<- hg];unfold Ei;split <;> rfl
 have HRg:Hid (Am w aK cK g0.keys):=hky ▸ H.r.out
 have HKg:Hid (g0.keys.length<=100):=hky ▸ H.fit.out.keys
 have HNn:Hid (0<=g0.n/\g0.n<=1000000):=by
  have h:=H.fit.out.n
  rw[Aj] at h
  show _/\_
  rw[show g0.n=f.n by rw[<- hg];unfold Ei;split <;> rfl]
  exact h
 have HN':Hid (Ee M f=N):=HN
 rw[HN'.out] at hLt
 have hfs:=H.fit.out.slot.1
 clear hky HN HN'
 rcases P7 H.fit.out with ⟨hs,h'⟩|⟨j,hj,hl,h'⟩
 ·have HG2:Hid (toF g0 0=G):=by
   rw[<- HG.out,<- hg]
   unfold Ei Lp
   rw[h'];rfl
  rw[h'] at hLt
  clear HG hg h' hs
  have HG:=HG2
  clear HG2
  refine hLt.mono ?_
  rintro e w2 ⟨rfl,hh2,hf2⟩
  have HE3:Hid _:=H.e.out.after hh2 hf2
  have t3:Hid (w2.there w.heap.size 0 14):=Az HE3.out.fb (by simp)
  have HE4:Hid _:=HE3.out.put g0
  clear hLt hh2 hf2 HE3 f0 f1 f2 f3 f4 f5 f6 f7 f8 f9 f10 f11 f12 f13 ff fs q0 q1 q2 q3 q4 qs
  obtain⟨f0,f1,f2,f3,f4,f5,f6,f7,f8,f9,f10,f11,f12,f13,ff,fs⟩:=A8 HE4.out.fb
  go_wp2_with (refine Bd (f:=g0) rfl (.tmp 3) _ rfl rfl rfl t3.out ?_;clear t3;generalize w2.setCells w.heap.size 0 (g0.enc aK cK)=w3 at *)
  have HE2:=HE4
  clear HE4
  refine(Et _ HE2.out HG.out HRg.out H.z.out).mono ?_
  rintro e w9 ⟨g,a,c,rfl,t9,b9,hQ⟩
  clear HE2 H HG HRg HKg HNn f0 f1 f2 f3 f4 f5 f6 f7 f8 f9 f10 f11 f12 f13 ff fs
  go_wp2_with (refine Bd (f:=g) rfl (.tmp 4) _ rfl rfl rfl t9.out ?_)
  generalize w9.setCells (w.heap.size+1) 0 (g.enc a c)=W9 at *
  exact bodyPost_ret (results_cell_row Tryz.results170 _ W9 (w.heap.size+1) 47 _ (0,0) _ rfl b9.out Tryz.underlying47 rfl (by kernel_rfl)) rfl hQ.out
 ·have HG2:Hid (Ag g0 5=G):=by
   rw[<- HG.out,<- hg]
   unfold Ei Lp
   rw[h'];rfl
  rw[h'] at hLt
  clear HG hg h' hj hl
  have HG:=HG2
  clear HG2
  refine hLt.mono ?_
  rintro e w2 ⟨rfl,hh2,hf2⟩
  have HE3:Hid _:=H.e.out.after hh2 hf2
  have t3:Hid (w2.there w.heap.size 0 14):=Az HE3.out.fb (by simp)
  have HE4:Hid _:=HE3.out.put g0
  clear hLt hh2 hf2 HE3 f0 f1 f2 f3 f4 f5 f6 f7 f8 f9 f10 f11 f12 f13 ff fs q0 q1 q2 q3 q4 qs
  obtain⟨f0,f1,f2,f3,f4,f5,f6,f7,f8,f9,f10,f11,f12,f13,ff,fs⟩:=A8 HE4.out.fb
  go_wp2_with (refine Bd (f:=g0) rfl (.tmp 3) _ rfl rfl rfl t3.out ?_;clear t3;generalize w2.setCells w.heap.size 0 (g0.enc aK cK)=w3 at *)
  have HE2:=HE4
  clear HE4
  refine(S9 _ HE2.out HG.out HRg.out H.z.out HKg.out).mono ?_
  rintro e w9 ⟨g,a,c,rfl,t9,b9,hQ⟩
  clear HE2 H HG HRg HKg HNn f0 f1 f2 f3 f4 f5 f6 f7 f8 f9 f10 f11 f12 f13 ff fs
  go_wp2_with (refine Bd (f:=g) rfl (.tmp 4) _ rfl rfl rfl t9.out ?_)
  generalize w9.setCells (w.heap.size+1) 0 (g.enc a c)=W9 at *
  exact bodyPost_ret (results_cell_row Tryz.results170 _ W9 (w.heap.size+1) 47 _ (0,0) _ rfl b9.out Tryz.underlying47 rfl (by kernel_rfl)) rfl hQ.out
theorem a2u(M:Mm)(f:Fr)(B lo:Nat)(aS aH aF aL:Option Addr)(cS cH cF cL:Nat)(aK:Option Addr)(cK:Nat)(w:Wq)
  (m:Mine Xb w B lo aS aH aF aL cS cH cF cL M) (hM:Ok M) (hf:Fit M f) (r:Am w aK cK f.keys) (hz:∀ ad,aK=some ad->¬ Ac B aS aH aF aL ad.block) {N:Mm} (HN:Hid (Ee M f=N)) {G:Fr} (HG:Hid (Tf M f=G)) :
  Calls Pg 178 #[.pointer (some ⟨B,0,none⟩),.agg #[O J f.c.kind,O J f.c.a,O J f.c.b,O J f.c.time,O J f.c.bk,O J f.c.slot,O J f.pl,O J f.cur,O J f.prev,O J f.slot,O J f.n,Y aK f.keys.length cK,.bool f.done,O J f.e]] w (Ib Xb w (Ac B aS aH aF aL) B lo aK cK N G):=by
 obtain⟨of,hof⟩:=frO f aK cK
 obtain⟨oz,hoz⟩:∃ o:Obj,o=Ae:=⟨_,rfl⟩
 obtain⟨b,H,hbn⟩:=LH.first m hM hf r hz hof hoz
 have hns:=H.ns
 have hbl:=H.bl
 have hnh:=H.nh
 obtain⟨f0,f1,f2,f3,f4,f5,f6,f7,f8,f9,f10,f11,f12,f13,ff,fs⟩:=A8 H.e.out.fb
 obtain⟨q0,q1,q2,q3,q4,-,-,-,-,-,qs⟩:=Af H.e.out.m.box
 unfold Ae at hoz
 clear m hM hf r hz
 go_enter Tryz.func178,Tryz.ntmps178
 go_wp2_with fail
 rw[<- hof,<- hoz]
 generalize (w.alloc of).alloc oz=W0 at *
 subst hof hoz
 obtain⟨g0,hg⟩:∃ g,Ei M f=g:=⟨_,rfl⟩
 have hLt:=O4 M f B lo aS aH aF aL cS cH cF cL aK cK W0 H.e.out.m H.ok.out
 rw[hg] at hLt
 have hky:g0.keys=f.keys:=by rw[<- hg];unfold Ei;split <;> rfl
 have HRg:Hid (Am w aK cK g0.keys):=hky ▸ H.r.out
 have HKg:Hid (g0.keys.length<=100):=hky ▸ H.fit.out.keys
 have HNn:Hid (0<=g0.n/\g0.n<=1000000):=by
  have h:=H.fit.out.n
  rw[Aj] at h
  show _/\_
  rw[show g0.n=f.n by rw[<- hg];unfold Ei;split <;> rfl]
  exact h
 have HN':Hid (Ee M f=N):=HN
 rw[HN'.out] at hLt
 have hfs:=H.fit.out.slot.1
 clear hky HN HN'
 rcases P7 H.fit.out with ⟨hs,h'⟩|⟨j,hj,hl,h'⟩
 ·have HG2:Hid (Cc g0=G):=by
   rw[<- HG.out,<- hg]
   unfold Ei Tf
   rw[h'];rfl
  rw[h'] at hLt
  clear HG hg h' hs
  have HG:=HG2
  clear HG2
  refine hLt.mono ?_
  rintro e w2 ⟨rfl,hh2,hf2⟩
  have HE3:Hid _:=H.e.out.after hh2 hf2
  have t3:Hid (w2.there w.heap.size 0 14):=Az HE3.out.fb (by simp)
  have HE4:Hid _:=HE3.out.put g0
  clear hLt hh2 hf2 HE3 f0 f1 f2 f3 f4 f5 f6 f7 f8 f9 f10 f11 f12 f13 ff fs q0 q1 q2 q3 q4 qs
  obtain⟨f0,f1,f2,f3,f4,f5,f6,f7,f8,f9,f10,f11,f12,f13,ff,fs⟩:=A8 HE4.out.fb
  go_wp2_with (refine Bd (f:=g0) rfl (.tmp 3) _ rfl rfl rfl t3.out ?_;clear t3;generalize w2.setCells w.heap.size 0 (g0.enc aK cK)=w3 at *)
  have HE2:=HE4
  clear HE4
  refine(a3g HE2.out HG.out HRg.out H.z.out).mono ?_
  rintro e w9 ⟨g,a,c,rfl,t9,b9,hQ⟩
  clear HE2 H HG HRg HKg HNn f0 f1 f2 f3 f4 f5 f6 f7 f8 f9 f10 f11 f12 f13 ff fs
  go_wp2_with (refine Bd (f:=g) rfl (.tmp 4) _ rfl rfl rfl t9.out ?_)
  generalize w9.setCells (w.heap.size+1) 0 (g.enc a c)=W9 at *
  exact bodyPost_ret (results_cell_row Tryz.results178 _ W9 (w.heap.size+1) 47 _ (0,0) _ rfl b9.out Tryz.underlying47 rfl (by kernel_rfl)) rfl hQ.out
 ·have HG2:Hid (toF { g0 with e:=6 } 7=G):=by
   rw[<- HG.out,<- hg]
   unfold Ei Tf
   rw[h'];rfl
  rw[h'] at hLt
  clear HG hg h' hj hl
  have HG:=HG2
  clear HG2
  refine hLt.mono ?_
  rintro e w2 ⟨rfl,hh2,hf2⟩
  have HE3:Hid _:=H.e.out.after hh2 hf2
  have t3:Hid (w2.there w.heap.size 0 14):=Az HE3.out.fb (by simp)
  have HE4:Hid _:=HE3.out.put g0
  clear hLt hh2 hf2 HE3 f0 f1 f2 f3 f4 f5 f6 f7 f8 f9 f10 f11 f12 f13 ff fs q0 q1 q2 q3 q4 qs
  obtain⟨f0,f1,f2,f3,f4,f5,f6,f7,f8,f9,f10,f11,f12,f13,ff,fs⟩:=A8 HE4.out.fb
  go_wp2_with (refine Bd (f:=g0) rfl (.tmp 3) _ rfl rfl rfl t3.out ?_;clear t3;generalize w2.setCells w.heap.size 0 (g0.enc aK cK)=w3 at *)
  have HE2:Hid _:=HE4.out.store 13 (O J 6) { g0 with e:=6 } rfl
  clear HE4
  go_wp2_with fail
  refine(Et _ HE2.out HG.out HRg.out H.z.out).mono ?_
  rintro e w9 ⟨g,a,c,rfl,t9,b9,hQ⟩
  clear HE2 H HG HRg HKg HNn f0 f1 f2 f3 f4 f5 f6 f7 f8 f9 f10 f11 f12 f13 ff fs
  go_wp2_with (refine Bd (f:=g) rfl (.tmp 4) _ rfl rfl rfl t9.out ?_)
  generalize w9.setCells (w.heap.size+1) 0 (g.enc a c)=W9 at *
  exact bodyPost_ret (results_cell_row Tryz.results178 _ W9 (w.heap.size+1) 47 _ (0,0) _ rfl b9.out Tryz.underlying47 rfl (by kernel_rfl)) rfl hQ.out
theorem b2r(M:Mm)(f:Fr)(B lo:Nat)(aS aH aF aL:Option Addr)(cS cH cF cL:Nat)(aK:Option Addr)(cK:Nat)(w:Wq)
  (m:Mine Xb w B lo aS aH aF aL cS cH cF cL M) (hM:Ok M) (hf:Fit M f) (r:Am w aK cK f.keys) (hz:∀ ad,aK=some ad->¬ Ac B aS aH aF aL ad.block) {N:Mm} (HN:Hid (Ee M f=N)) {G:Fr} (HG:Hid (Ag { f with slot:=-1 } f.e=G)) :
  Calls Pg 187 #[.pointer (some ⟨B,0,none⟩),.agg #[O J f.c.kind,O J f.c.a,O J f.c.b,O J f.c.time,O J f.c.bk,O J f.c.slot,O J f.pl,O J f.cur,O J f.prev,O J f.slot,O J f.n,Y aK f.keys.length cK,.bool f.done,O J f.e]] w (Ib Xb w (Ac B aS aH aF aL) B lo aK cK N G):=by
 obtain⟨of,hof⟩:=frO f aK cK
 obtain⟨oz,hoz⟩:∃ o:Obj,o=Ae:=⟨_,rfl⟩
 obtain⟨b,H,hbn⟩:=LH.first m hM hf r hz hof hoz
 have hns:=H.ns
 have hbl:=H.bl
 have hnh:=H.nh
 obtain⟨f0,f1,f2,f3,f4,f5,f6,f7,f8,f9,f10,f11,f12,f13,ff,fs⟩:=A8 H.e.out.fb
 obtain⟨q0,q1,q2,q3,q4,-,-,-,-,-,qs⟩:=Af H.e.out.m.box
 unfold Ae at hoz
 clear m hM hf r hz
 go_enter Tryz.func187,Tryz.ntmps187
 go_wp2_with fail
 rw[<- hof,<- hoz]
 generalize (w.alloc of).alloc oz=W0 at *
 subst hof hoz
 obtain⟨g0,hg⟩:∃ g,Ei M f=g:=⟨_,rfl⟩
 have hLt:=O4 M f B lo aS aH aF aL cS cH cF cL aK cK W0 H.e.out.m H.ok.out
 rw[hg] at hLt
 have hky:g0.keys=f.keys:=by rw[<- hg];unfold Ei;split <;> rfl
 have HRg:Hid (Am w aK cK g0.keys):=hky ▸ H.r.out
 have HKg:Hid (g0.keys.length<=100):=hky ▸ H.fit.out.keys
 have HNn:Hid (0<=g0.n/\g0.n<=1000000):=by
  have h:=H.fit.out.n
  rw[Aj] at h
  show _/\_
  rw[show g0.n=f.n by rw[<- hg];unfold Ei;split <;> rfl]
  exact h
 have HN':Hid (Ee M f=N):=HN
 rw[HN'.out] at hLt
 have hfs:=H.fit.out.slot.1
 clear hky HN HN'
 rcases P7 H.fit.out with ⟨hs,h'⟩|⟨j,hj,hl,h'⟩
 ·have HG2:Hid (Ag { g0 with slot:=-1 } g0.e=G):=by
   rw[<- HG.out,<- hg]
   unfold Ei
   rw[h'];rfl
  rw[h'] at hLt
  clear HG hg h' hs
  have HG:=HG2
  clear HG2
  refine hLt.mono ?_
  rintro e w2 ⟨rfl,hh2,hf2⟩
  have HE3:Hid _:=H.e.out.after hh2 hf2
  have t3:Hid (w2.there w.heap.size 0 14):=Az HE3.out.fb (by simp)
  have HE4:Hid _:=HE3.out.put g0
  clear hLt hh2 hf2 HE3 f0 f1 f2 f3 f4 f5 f6 f7 f8 f9 f10 f11 f12 f13 ff fs q0 q1 q2 q3 q4 qs
  obtain⟨f0,f1,f2,f3,f4,f5,f6,f7,f8,f9,f10,f11,f12,f13,ff,fs⟩:=A8 HE4.out.fb
  go_wp2_with (refine Bd (f:=g0) rfl (.tmp 3) _ rfl rfl rfl t3.out ?_;clear t3;generalize w2.setCells w.heap.size 0 (g0.enc aK cK)=w3 at *)
  have HE2:Hid _:=HE4.out.store 9 (O J (-1)) { g0 with slot:=-1 } rfl
  clear HE4
  refine(S9 _ HE2.out HG.out HRg.out H.z.out HKg.out).mono ?_
  rintro e w9 ⟨g,a,c,rfl,t9,b9,hQ⟩
  clear HE2 H HG HRg HKg HNn f0 f1 f2 f3 f4 f5 f6 f7 f8 f9 f10 f11 f12 f13 ff fs
  go_wp2_with (refine Bd (f:=g) rfl (.tmp 4) _ rfl rfl rfl t9.out ?_)
  generalize w9.setCells (w.heap.size+1) 0 (g.enc a c)=W9 at *
  exact bodyPost_ret (results_cell_row Tryz.results187 _ W9 (w.heap.size+1) 47 _ (0,0) _ rfl b9.out Tryz.underlying47 rfl (by kernel_rfl)) rfl hQ.out
 ·have HG2:Hid (Ag { g0 with slot:=-1 } g0.e=G):=by
   rw[<- HG.out,<- hg]
   unfold Ei
   rw[h'];rfl
  rw[h'] at hLt
  clear HG hg h' hj hl
  have HG:=HG2
  clear HG2
  refine hLt.mono ?_
  rintro e w2 ⟨rfl,hh2,hf2⟩
  have HE3:Hid _:=H.e.out.after hh2 hf2
  have t3:Hid (w2.there w.heap.size 0 14):=Az HE3.out.fb (by simp)
  have HE4:Hid _:=HE3.out.put g0
  clear hLt hh2 hf2 HE3 f0 f1 f2 f3 f4 f5 f6 f7 f8 f9 f10 f11 f12 f13 ff fs q0 q1 q2 q3 q4 qs
  obtain⟨f0,f1,f2,f3,f4,f5,f6,f7,f8,f9,f10,f11,f12,f13,ff,fs⟩:=A8 HE4.out.fb
  go_wp2_with (refine Bd (f:=g0) rfl (.tmp 3) _ rfl rfl rfl t3.out ?_;clear t3;generalize w2.setCells w.heap.size 0 (g0.enc aK cK)=w3 at *)
  have HE2:Hid _:=HE4.out.store 9 (O J (-1)) { g0 with slot:=-1 } rfl
  clear HE4
  refine(S9 _ HE2.out HG.out HRg.out H.z.out HKg.out).mono ?_
  rintro e w9 ⟨g,a,c,rfl,t9,b9,hQ⟩
  clear HE2 H HG HRg HKg HNn f0 f1 f2 f3 f4 f5 f6 f7 f8 f9 f10 f11 f12 f13 ff fs
  go_wp2_with (refine Bd (f:=g) rfl (.tmp 4) _ rfl rfl rfl t9.out ?_)
  generalize w9.setCells (w.heap.size+1) 0 (g.enc a c)=W9 at *
  exact bodyPost_ret (results_cell_row Tryz.results187 _ W9 (w.heap.size+1) 47 _ (0,0) _ rfl b9.out Tryz.underlying47 rfl (by kernel_rfl)) rfl hQ.out
theorem b2u(M:Mm)(f:Fr)(B lo:Nat)(aS aH aF aL:Option Addr)(cS cH cF cL:Nat)(aK:Option Addr)(cK:Nat)(w:Wq)
  (m:Mine Xb w B lo aS aH aF aL cS cH cF cL M) (hM:Ok M) (hf:Fit M f) (r:Am w aK cK f.keys) (hz:∀ ad,aK=some ad->¬ Ac B aS aH aF aL ad.block) {N:Mm} (HN:Hid (Ee M f=N)) {G:Fr} (HG:Hid (Nk M f=G)) :
  Calls Pg 194 #[.pointer (some ⟨B,0,none⟩),.agg #[O J f.c.kind,O J f.c.a,O J f.c.b,O J f.c.time,O J f.c.bk,O J f.c.slot,O J f.pl,O J f.cur,O J f.prev,O J f.slot,O J f.n,Y aK f.keys.length cK,.bool f.done,O J f.e]] w (Ib Xb w (Ac B aS aH aF aL) B lo aK cK N G):=by
 obtain⟨of,hof⟩:=frO f aK cK
 obtain⟨oz,hoz⟩:∃ o:Obj,o=Ae:=⟨_,rfl⟩
 obtain⟨b,H,hbn⟩:=LH.first m hM hf r hz hof hoz
 have hns:=H.ns
 have hbl:=H.bl
 have hnh:=H.nh
 obtain⟨f0,f1,f2,f3,f4,f5,f6,f7,f8,f9,f10,f11,f12,f13,ff,fs⟩:=A8 H.e.out.fb
 obtain⟨q0,q1,q2,q3,q4,-,-,-,-,-,qs⟩:=Af H.e.out.m.box
 unfold Ae at hoz
 clear m hM hf r hz
 go_enter Tryz.func194,Tryz.ntmps194
 go_wp2_with fail
 rw[<- hof,<- hoz]
 generalize (w.alloc of).alloc oz=W0 at *
 subst hof hoz
 obtain⟨g0,hg⟩:∃ g,Ei M f=g:=⟨_,rfl⟩
 have hLt:=O4 M f B lo aS aH aF aL cS cH cF cL aK cK W0 H.e.out.m H.ok.out
 rw[hg] at hLt
 have hky:g0.keys=f.keys:=by rw[<- hg];unfold Ei;split <;> rfl
 have HRg:Hid (Am w aK cK g0.keys):=hky ▸ H.r.out
 have HKg:Hid (g0.keys.length<=100):=hky ▸ H.fit.out.keys
 have HNn:Hid (0<=g0.n/\g0.n<=1000000):=by
  have h:=H.fit.out.n
  rw[Aj] at h
  show _/\_
  rw[show g0.n=f.n by rw[<- hg];unfold Ei;split <;> rfl]
  exact h
 have HN':Hid (Ee M f=N):=HN
 rw[HN'.out] at hLt
 have hfs:=H.fit.out.slot.1
 clear hky HN HN'
 rcases P7 H.fit.out with ⟨hs,h'⟩|⟨j,hj,hl,h'⟩
 ·have HG2:Hid (toF g0 6=G):=by
   rw[<- HG.out,<- hg]
   unfold Ei Nk
   rw[h'];rfl
  rw[h'] at hLt
  clear HG hg h' hs
  have HG:=HG2
  clear HG2
  refine hLt.mono ?_
  rintro e w2 ⟨rfl,hh2,hf2⟩
  have HE3:Hid _:=H.e.out.after hh2 hf2
  have t3:Hid (w2.there w.heap.size 0 14):=Az HE3.out.fb (by simp)
  have HE4:Hid _:=HE3.out.put g0
  clear hLt hh2 hf2 HE3 f0 f1 f2 f3 f4 f5 f6 f7 f8 f9 f10 f11 f12 f13 ff fs q0 q1 q2 q3 q4 qs
  obtain⟨f0,f1,f2,f3,f4,f5,f6,f7,f8,f9,f10,f11,f12,f13,ff,fs⟩:=A8 HE4.out.fb
  go_wp2_with (refine Bd (f:=g0) rfl (.tmp 3) _ rfl rfl rfl t3.out ?_;clear t3;generalize w2.setCells w.heap.size 0 (g0.enc aK cK)=w3 at *)
  have HE2:=HE4
  clear HE4
  refine(Xr HE2.out HG.out HRg.out H.z.out).mono ?_
  rintro e w9 ⟨g,a,c,rfl,t9,b9,hQ⟩
  clear HE2 H HG HRg HKg HNn f0 f1 f2 f3 f4 f5 f6 f7 f8 f9 f10 f11 f12 f13 ff fs
  go_wp2_with (refine Bd (f:=g) rfl (.tmp 4) _ rfl rfl rfl t9.out ?_)
  generalize w9.setCells (w.heap.size+1) 0 (g.enc a c)=W9 at *
  exact bodyPost_ret (results_cell_row Tryz.results194 _ W9 (w.heap.size+1) 47 _ (0,0) _ rfl b9.out Tryz.underlying47 rfl (by kernel_rfl)) rfl hQ.out
 ·have HG2:Hid (toF { g0 with n:=if g0.n<1000000 then g0.n+1 else g0.n } 2=G):=by
   rw[<- HG.out,<- hg]
   unfold Ei Nk
   rw[h'];rfl
  rw[h'] at hLt
  clear HG hg h' hj hl
  have HG:=HG2
  clear HG2
  refine hLt.mono ?_
  rintro e w2 ⟨rfl,hh2,hf2⟩
  have HE3:Hid _:=H.e.out.after hh2 hf2
  have t3:Hid (w2.there w.heap.size 0 14):=Az HE3.out.fb (by simp)
  have HE4:Hid _:=HE3.out.put g0
  clear hLt hh2 hf2 HE3 f0 f1 f2 f3 f4 f5 f6 f7 f8 f9 f10 f11 f12 f13 ff fs q0 q1 q2 q3 q4 qs
  obtain⟨f0,f1,f2,f3,f4,f5,f6,f7,f8,f9,f10,f11,f12,f13,ff,fs⟩:=A8 HE4.out.fb
  have hn:0<=g0.n/\g0.n<=1000000:=HNn.out
  have hw9:IntKind.i64.wrap (g0.n+1)=g0.n+1:=by rw[IntKind.wrap_i64];omega
  go_wp2_with (refine Bd (f:=g0) rfl (.tmp 3) _ rfl rfl rfl t3.out ?_;clear t3;generalize w2.setCells w.heap.size 0 (g0.enc aK cK)=w3 at *)
  all_goals
   first
   | rw[if_pos (show g0.n<1000000 by omega)] at HG
     have HE2:Hid _:=HE4.out.store 10 (O J (g0.n+1)) { g0 with n:=g0.n+1 } rfl
     clear HE4
   | rw[show (if g0.n<1000000 then g0.n+1 else g0.n)=1000000 by split <;> omega] at HG
     have HE2:Hid _:=HE4.out.store 10 (O J 1000000) { g0 with n:=1000000 } rfl
     clear HE4
   refine(Et _ HE2.out HG.out HRg.out H.z.out).mono ?_
   rintro e w9 ⟨g,a,c,rfl,t9,b9,hQ⟩
   clear HE2 H HG HRg HKg HNn f0 f1 f2 f3 f4 f5 f6 f7 f8 f9 f10 f11 f12 f13 ff fs
   go_wp2_with (refine Bd (f:=g) rfl (.tmp 4) _ rfl rfl rfl t9.out ?_)
   generalize w9.setCells (w.heap.size+1) 0 (g.enc a c)=W9 at *
   exact bodyPost_ret (results_cell_row Tryz.results194 _ W9 (w.heap.size+1) 47 _ (0,0) _ rfl b9.out Tryz.underlying47 rfl (by kernel_rfl)) rfl hQ.out
end
end Go.Proofs.YthhgoenomehobaaGreat.mm
