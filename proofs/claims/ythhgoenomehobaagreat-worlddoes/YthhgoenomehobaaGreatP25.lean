/- Parts. -/
import Derived.Test.YthhgoenomehobaaGreatP24
import Derived.Test.YthhgoenomehobaaGreatP10
namespace Go.Proofs.YthhgoenomehobaaGreat.mm
set_option maxRecDepth 100000
set_option linter.unusedVariables false
open Go.Value renaming int → O, slice → Y
open Go.IntKind renaming i64 → J
open Go.Proofs.Tryz renaming prog → Pg
open Go renaming World → Wq
open Go.ChangeShapes Go.WideShapes Go.ChangeAt Go.RowKit Go.Joins Go.Deep Go.Sort
set_option maxHeartbeats 3200000
section
variable {Xb:Ex}
theorem a2v(t:Int)(M:Mm)(f:Fr)(B lo:Nat)(aS aH aF aL:Option Addr)(cS cH cF cL:Nat)(aK:Option Addr)(cK:Nat)(w:Wq)
  (m:Mine Xb w B lo aS aH aF aL cS cH cF cL M) (hM:Ok M) (hf:Fit M f) (r:Am w aK cK f.keys) (hz:∀ ad,aK=some ad->¬ Ac B aS aH aF aL ad.block) {N:Mm} (HN:Hid (Ew M f t=N)) {G:Fr} (HG:Hid (Ag f f.e=G)) :
  Calls Pg 179 #[.pointer (some ⟨B,0,none⟩),.agg #[O J f.c.kind,O J f.c.a,O J f.c.b,O J f.c.time,O J f.c.bk,O J f.c.slot,O J f.pl,O J f.cur,O J f.prev,O J f.slot,O J f.n,Y aK f.keys.length cK,.bool f.done,O J f.e],O J t] w (Ib Xb w (Ac B aS aH aF aL) B lo aK cK N G):=by
 obtain⟨of,hof⟩:=frO f aK cK
 obtain⟨oz,hoz⟩:∃ o:Obj,o=Ae:=⟨_,rfl⟩
 obtain⟨b,H,hbn⟩:=LH.first m hM hf r hz hof hoz
 have hns:=H.ns
 have hbl:=H.bl
 have hnh:=H.nh
 obtain⟨f0,f1,f2,f3,f4,f5,f6,f7,f8,f9,f10,f11,f12,f13,ff,fs⟩:=A8 H.e.out.fb
 obtain⟨q0,q1,q2,q3,q4,-,-,-,-,-,qs⟩:=Af H.e.out.m.box
 unfold Ae at hoz
 clear m hM hf r hz
 have hN:L8 M b t=N:=by rw[<- HN.out];unfold Ew L8;rw[hbn]
 subst hN
 clear HN hbn
 go_enter Tryz.func179,Tryz.ntmps179
 go_wp2_with fail
 rw[<- hof,<- hoz]
 generalize (w.alloc of).alloc oz=W0 at *
 subst hof hoz
 go_region_with (first|(go_at_call 34;refine(H.below (by exact⟨rfl,rfl,rfl,Nat.le_refl _,fun _ _=>rfl⟩)).bk.mono ?_;rintro e w1 ⟨rfl,h9⟩;have H1:=H.below (W':=w1) ⟨h9.os,h9.tape,h9.output,h9.size,h9.block⟩;clear H h9)|(go_at_call 207;refine(Oe t ⟨_,_,_,_,_,_,_,_,(H1.e.out.below (by exact⟨rfl,rfl,rfl,Nat.le_refl _,fun _ _=>rfl⟩)).m,fun _ h=>h⟩ H1.ok.out hbl).mono ?_;rintro e w2 ⟨rfl,hh2,hf2⟩;have HE2:Hid _:=(H1.e.out.below (by exact⟨rfl,rfl,rfl,Nat.le_refl _,fun _ _=>rfl⟩)).after hh2 hf2;clear hh2 hf2))
 all_goals
  have H:=H1
  clear H1 f0 f1 f2 f3 f4 f5 f6 f7 f8 f9 f10 f11 f12 f13 ff fs q0 q1 q2 q3 q4 qs
  obtain⟨f0,f1,f2,f3,f4,f5,f6,f7,f8,f9,f10,f11,f12,f13,ff,fs⟩:=A8 HE2.out.fb
  go_wp2_with fail
  refine(S9 _ HE2.out HG.out H.r.out H.z.out H.fit.out.keys).mono ?_
  rintro e w9 ⟨g,a,c,rfl,t9,b9,hQ⟩
  clear HE2 H HG f0 f1 f2 f3 f4 f5 f6 f7 f8 f9 f10 f11 f12 f13 ff fs
  go_wp2_with (refine Bd (f:=g) rfl (.tmp 6) _ rfl rfl rfl t9.out ?_)
  generalize w9.setCells (w.heap.size+1) 0 (g.enc a c)=W9 at *
  exact bodyPost_ret (results_cell_row Tryz.results179 _ W9 (w.heap.size+1) 47 _ (0,0) _ rfl b9.out Tryz.underlying47 rfl (by kernel_rfl)) rfl hQ.out
theorem a2w(t:Int)(M:Mm)(f:Fr)(B lo:Nat)(aS aH aF aL:Option Addr)(cS cH cF cL:Nat)(aK:Option Addr)(cK:Nat)(w:Wq)
  (m:Mine Xb w B lo aS aH aF aL cS cH cF cL M) (hM:Ok M) (hf:Fit M f) (r:Am w aK cK f.keys) (hz:∀ ad,aK=some ad->¬ Ac B aS aH aF aL ad.block) {N:Mm} (HN:Hid (Ew M f t=N)) {G:Fr} (HG:Hid (toF f 6=G)) :
  Calls Pg 186 #[.pointer (some ⟨B,0,none⟩),.agg #[O J f.c.kind,O J f.c.a,O J f.c.b,O J f.c.time,O J f.c.bk,O J f.c.slot,O J f.pl,O J f.cur,O J f.prev,O J f.slot,O J f.n,Y aK f.keys.length cK,.bool f.done,O J f.e],O J t] w (Ib Xb w (Ac B aS aH aF aL) B lo aK cK N G):=by
 obtain⟨of,hof⟩:=frO f aK cK
 obtain⟨oz,hoz⟩:∃ o:Obj,o=Ae:=⟨_,rfl⟩
 obtain⟨b,H,hbn⟩:=LH.first m hM hf r hz hof hoz
 have hns:=H.ns
 have hbl:=H.bl
 have hnh:=H.nh
 obtain⟨f0,f1,f2,f3,f4,f5,f6,f7,f8,f9,f10,f11,f12,f13,ff,fs⟩:=A8 H.e.out.fb
 obtain⟨q0,q1,q2,q3,q4,-,-,-,-,-,qs⟩:=Af H.e.out.m.box
 unfold Ae at hoz
 clear m hM hf r hz
 have hN:L8 M b t=N:=by rw[<- HN.out];unfold Ew L8;rw[hbn]
 subst hN
 clear HN hbn
 go_enter Tryz.func186,Tryz.ntmps186
 go_wp2_with fail
 rw[<- hof,<- hoz]
 generalize (w.alloc of).alloc oz=W0 at *
 subst hof hoz
 go_region_with (first|(go_at_call 34;refine(H.below (by exact⟨rfl,rfl,rfl,Nat.le_refl _,fun _ _=>rfl⟩)).bk.mono ?_;rintro e w1 ⟨rfl,h9⟩;have H1:=H.below (W':=w1) ⟨h9.os,h9.tape,h9.output,h9.size,h9.block⟩;clear H h9)|(go_at_call 207;refine(Oe t ⟨_,_,_,_,_,_,_,_,(H1.e.out.below (by exact⟨rfl,rfl,rfl,Nat.le_refl _,fun _ _=>rfl⟩)).m,fun _ h=>h⟩ H1.ok.out hbl).mono ?_;rintro e w2 ⟨rfl,hh2,hf2⟩;have HE2:Hid _:=(H1.e.out.below (by exact⟨rfl,rfl,rfl,Nat.le_refl _,fun _ _=>rfl⟩)).after hh2 hf2;clear hh2 hf2))
 all_goals
  have H:=H1
  clear H1 f0 f1 f2 f3 f4 f5 f6 f7 f8 f9 f10 f11 f12 f13 ff fs q0 q1 q2 q3 q4 qs
  obtain⟨f0,f1,f2,f3,f4,f5,f6,f7,f8,f9,f10,f11,f12,f13,ff,fs⟩:=A8 HE2.out.fb
  go_wp2_with fail
  refine(Et _ HE2.out HG.out H.r.out H.z.out).mono ?_
  rintro e w9 ⟨g,a,c,rfl,t9,b9,hQ⟩
  clear HE2 H HG f0 f1 f2 f3 f4 f5 f6 f7 f8 f9 f10 f11 f12 f13 ff fs
  go_wp2_with (refine Bd (f:=g) rfl (.tmp 6) _ rfl rfl rfl t9.out ?_)
  generalize w9.setCells (w.heap.size+1) 0 (g.enc a c)=W9 at *
  exact bodyPost_ret (results_cell_row Tryz.results186 _ W9 (w.heap.size+1) 47 _ (0,0) _ rfl b9.out Tryz.underlying47 rfl (by kernel_rfl)) rfl hQ.out
theorem a2x(t:Int)(M:Mm)(f:Fr)(B lo:Nat)(aS aH aF aL:Option Addr)(cS cH cF cL:Nat)(aK:Option Addr)(cK:Nat)(w:Wq)
  (m:Mine Xb w B lo aS aH aF aL cS cH cF cL M) (hM:Ok M) (hf:Fit M f) (r:Am w aK cK f.keys) (hz:∀ ad,aK=some ad->¬ Ac B aS aH aF aL ad.block) {N:Mm} (HN:Hid (Ew M f t=N)) {G:Fr} (HG:Hid (Ag f 0=G)) :
  Calls Pg 195 #[.pointer (some ⟨B,0,none⟩),.agg #[O J f.c.kind,O J f.c.a,O J f.c.b,O J f.c.time,O J f.c.bk,O J f.c.slot,O J f.pl,O J f.cur,O J f.prev,O J f.slot,O J f.n,Y aK f.keys.length cK,.bool f.done,O J f.e],O J t] w (RetN Xb w (Ac B aS aH aF aL) B lo N G):=by
 obtain⟨of,hof⟩:=frO f aK cK
 obtain⟨oz,hoz⟩:∃ o:Obj,o=Ae:=⟨_,rfl⟩
 obtain⟨b,H,hbn⟩:=LH.first m hM hf r hz hof hoz
 have hns:=H.ns
 have hbl:=H.bl
 have hnh:=H.nh
 obtain⟨f0,f1,f2,f3,f4,f5,f6,f7,f8,f9,f10,f11,f12,f13,ff,fs⟩:=A8 H.e.out.fb
 obtain⟨q0,q1,q2,q3,q4,-,-,-,-,-,qs⟩:=Af H.e.out.m.box
 unfold Ae at hoz
 clear m hM hf r hz
 have hN:L8 M b t=N:=by rw[<- HN.out];unfold Ew L8;rw[hbn]
 subst hN
 clear HN hbn
 go_enter Tryz.func195,Tryz.ntmps195
 go_wp2_with fail
 rw[<- hof,<- hoz]
 generalize (w.alloc of).alloc oz=W0 at *
 subst hof hoz
 go_region_with (first|(go_at_call 34;refine(H.below (by exact⟨rfl,rfl,rfl,Nat.le_refl _,fun _ _=>rfl⟩)).bk.mono ?_;rintro e w1 ⟨rfl,h9⟩;have H1:=H.below (W':=w1) ⟨h9.os,h9.tape,h9.output,h9.size,h9.block⟩;clear H h9)|(go_at_call 207;refine(Oe t ⟨_,_,_,_,_,_,_,_,(H1.e.out.below (by exact⟨rfl,rfl,rfl,Nat.le_refl _,fun _ _=>rfl⟩)).m,fun _ h=>h⟩ H1.ok.out hbl).mono ?_;rintro e w2 ⟨rfl,hh2,hf2⟩;have HE2:Hid _:=(H1.e.out.below (by exact⟨rfl,rfl,rfl,Nat.le_refl _,fun _ _=>rfl⟩)).after hh2 hf2;clear hh2 hf2))
 all_goals
  have H:=H1
  clear H1 f0 f1 f2 f3 f4 f5 f6 f7 f8 f9 f10 f11 f12 f13 ff fs q0 q1 q2 q3 q4 qs
  obtain⟨f0,f1,f2,f3,f4,f5,f6,f7,f8,f9,f10,f11,f12,f13,ff,fs⟩:=A8 HE2.out.fb
  go_wp2_with fail
  refine(a2z _ HE2.out HG.out H.r.out H.z.out).mono ?_
  rintro e w9 ⟨g,a,c,rfl,t9,b9,hQ⟩
  clear HE2 H HG f0 f1 f2 f3 f4 f5 f6 f7 f8 f9 f10 f11 f12 f13 ff fs
  go_wp2_with (refine Bd (f:=g) rfl (.tmp 6) _ rfl rfl rfl t9.out ?_)
  generalize w9.setCells (w.heap.size+1) 0 (g.enc a c)=W9 at *
  exact bodyPost_ret (results_cell_row Tryz.results195 _ W9 (w.heap.size+1) 47 _ (0,0) _ rfl b9.out Tryz.underlying47 rfl (by kernel_rfl)) rfl hQ.out
end
end Go.Proofs.YthhgoenomehobaaGreat.mm
