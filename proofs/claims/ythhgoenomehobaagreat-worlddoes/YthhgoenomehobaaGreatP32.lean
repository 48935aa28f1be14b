/- Parts. -/
import Derived.Test.YthhgoenomehobaaGreatP17
import Derived.Test.YthhgoenomehobaaGreatP22
import Derived.Test.YthhgoenomehobaaGreatP31
import Derived.Test.YthhgoenomehobaaGreatP08
import Derived.Deep.QuietTactic
import Derived.BigQuiet
import Derived.BigRegion
import Derived.Lib.QuietBelow
namespace Go.Proofs.YthhgoenomehobaaGreat.mm
set_option maxRecDepth 100000
set_option linter.unusedVariables false
open Go.Value renaming int → O, slice → Y
open Go.IntKind renaming i64 → J
open Go.Proofs.Tryz renaming prog → Pg
open Go renaming World → Wq
open Go.ChangeShapes Go.WideShapes Go.ChangeAt Go.RowKit Go.Joins Go.Deep Go.Sort
set_option maxHeartbeats 3200000
section
variable {Xb:Ex}
theorem a6d(M:Mm)(f:Fr)(B lo:Nat)(aS aH aF aL:Option Addr)(cS cH cF cL:Nat)(aK:Option Addr)(cK:Nat)(w:Wq)
  (m:Mine Xb w B lo aS aH aF aL cS cH cF cL M) (hM:Ok M) (hf:Fit M f) (r:Am w aK cK f.keys) (hz:∀ ad,aK=some ad->¬ Ac B aS aH aF aL ad.block) (hk4:f.c.kind=4\/f.c.kind=5) (hat:¬ Ej M f=true) :
  Calls Pg 191 #[.pointer (some ⟨B,0,none⟩),.agg #[O J f.c.kind,O J f.c.a,O J f.c.b,O J f.c.time,O J f.c.bk,O J f.c.slot,O J f.pl,O J f.cur,O J f.prev,O J f.slot,O J f.n,Y aK f.keys.length cK,.bool f.done,O J f.e]] w fun e w'=>Ret w w' e (Eh M f) aK cK/\Has Xb w' B lo (Up w (Ac B aS aH aF aL)) (M)/\Fine w w' (Ac B aS aH aF aL):=by
 have hns:=hM.ns
 have hnh:=hM.nh.2
 have hcur:=hf.cur.2
 have hc1:f.cur<=1000:=by omega
 have hn1:M.slots.length<=1000:=by omega
 have HOk:Hid (Ok M):=hM
 have HR:Hid (Am w aK cK f.keys):=r
 have hat0:Ej M f=false:=by simpa using hat
 have hres:Eh M f=toF f 6:=by unfold Eh;rw[if_neg hat]
 rw[hres]
 have HSt:Hid (∀ (W:Wq),Lk Xb w W B lo aS aH aF aL cS cH cF cL M f aK cK->Calls Pg 200 #[.pointer (some ⟨B,0,none⟩),.agg #[O J f.c.kind,O J f.c.a,O J f.c.b,O J f.c.time,O J f.c.bk,O J f.c.slot,O J f.pl,O J f.cur,O J f.prev,O J f.slot,O J f.n,Y aK f.keys.length cK,.bool f.done,O J f.e]] W fun e w'=>e=.returned (.tuple #[O J (stN f),.bool false])/\Lk Xb w w' B lo aS aH aF aL cS cH cF cL M f aK cK):=fun W h=>by
  have:=Ea M f B _ _ _ _ cS cH cF cL aK cK W h.m.box hc1 hn1
  rw[hat0] at this
  exact this.mono (fun e w' h'=>⟨h'.1,h.below h'.2⟩)
 have HZ:Hid (∀ ad,aK=some ad->¬ (Ac B aS aH aF aL) ad.block):=hz
 obtain⟨of,hof⟩:=frObj f aK cK
 obtain⟨oz,hoz⟩:∃ o:Obj,o=Ae:=⟨_,rfl⟩
 have HE:Hid (Lk Xb w ((w.alloc of).alloc oz) B lo aS aH aF aL cS cH cF cL M f aK cK):=Lk.first m f aK cK hof hoz
 obtain⟨q0,q1,q2,q3,q4,-,-,-,-,-,qs⟩:=Af HE.out.m.box
 obtain⟨f0,f1,f2,f3,f4,f5,f6,f7,f8,f9,f10,f11,f12,f13,ff,fs⟩:=A8 HE.out.fb
 unfold Ae at hoz
 clear m hc1 hn1 hcur hns hnh hM hf r hz hres hat hat0 hk4
 go_enter Tryz.func191,Tryz.ntmps191
 go_wp2_with fail
 rw[<- hof,<- hoz]
 generalize (w.alloc of).alloc oz=W0 at *
 subst hof hoz
 clear q0 q1 q2 q3 q4 qs
 clear f0 f1 f2 f3 f4 f5 f6 f7 f8 f9 f10 f11 f12 f13 ff fs
 refine(HSt.out _ (by exact HE.out.below ⟨rfl,rfl,rfl,Nat.le_refl _,fun _ _=>rfl⟩)).mono ?_
 rintro e w1 ⟨rfl,h9⟩
 have HE1:Hid (Lk Xb w w1 B lo aS aH aF aL cS cH cF cL M f aK cK):=h9
 clear HE h9
 obtain⟨q0,q1,q2,q3,q4,-,-,-,-,-,qs⟩:=Af HE1.out.m.box
 obtain⟨f0,f1,f2,f3,f4,f5,f6,f7,f8,f9,f10,f11,f12,f13,ff,fs⟩:=A8 HE1.out.fb
 go_wp2_with fail
 have HE2:Hid (Lk2 Xb w _ (Ac B aS aH aF aL) B lo M f aK cK):=HE1.out.two
 clear HE1
 clear q0 q1 q2 q3 q4 qs
 refine(Gn f 6 aK cK _).mono ?_
 rintro e w9 ⟨rfl,hb9⟩
 have HE9:Hid (Lk2 Xb w w9 (Ac B aS aH aF aL) B lo M f aK cK):=HE2.out.below hb9
 clear HE2 hb9
 clear f0 f1 f2 f3 f4 f5 f6 f7 f8 f9 f10 f11 f12 f13 ff fs
 obtain⟨g0,g1,g2,g3,g4,g5,g6,g7,g8,g9,g10,g11,g12,g13,gf,gs⟩:=A8 HE9.out.zb
 go_wp2
 refine bodyPost_ret (v:=.agg #[O J (toF f 6).c.kind,O J (toF f 6).c.a,O J (toF f 6).c.b,O J (toF f 6).c.time,O J (toF f 6).c.bk,O J (toF f 6).c.slot,O J (toF f 6).pl,O J (toF f 6).cur,O J (toF f 6).prev,O J (toF f 6).slot,O J (toF f 6).n,Y aK (toF f 6).keys.length cK,.bool (toF f 6).done,O J (toF f 6).e]) (by simp[results,Tryz.results191,go_sem,toF,g0,g1,g2,g3,g4,g5,g6,g7,g8,g9,g10,g11,g12,g13]) rfl ⟨⟨aK,cK,rfl,HR.out.fine HE9.out.D7.2 HZ.out,(fun ad h=>.inl h),fun _=>⟨rfl,rfl⟩⟩,HE9.out.D7⟩
theorem Zw(M:Mm)(f:Fr)(B lo:Nat)(aS aH aF aL:Option Addr)(cS cH cF cL:Nat)(aK:Option Addr)(cK:Nat)(w:Wq)
  (m:Mine Xb w B lo aS aH aF aL cS cH cF cL M) (hM:Ok M) (hf:Fit M f) (r:Am w aK cK f.keys) (hz:∀ ad,aK=some ad->¬ Ac B aS aH aF aL ad.block) (hk4:f.c.kind=4) (hat:Ej M f=true) :
  Calls Pg 191 #[.pointer (some ⟨B,0,none⟩),.agg #[O J f.c.kind,O J f.c.a,O J f.c.b,O J f.c.time,O J f.c.bk,O J f.c.slot,O J f.pl,O J f.cur,O J f.prev,O J f.slot,O J f.n,Y aK f.keys.length cK,.bool f.done,O J f.e]] w fun e w'=>Ret w w' e (Eh M f) aK cK/\Has Xb w' B lo (Up w (Ac B aS aH aF aL)) (M)/\Fine w w' (Ac B aS aH aF aL):=by
 have hns:=hM.ns
 have hnh:=hM.nh.2
 have hcur:=hf.cur.2
 have hc1:f.cur<=1000:=by omega
 have hn1:M.slots.length<=1000:=by omega
 have HOk:Hid (Ok M):=hM
 have HR:Hid (Am w aK cK f.keys):=r
 have h1:=Es.1 hat
 obtain⟨j,hj⟩:∃ j:Nat,f.cur - 1=j:=⟨(f.cur - 1).toNat,by omega⟩
 have hjl:j<M.slots.length:=by omega
 obtain⟨gS,rfl,oS,lS,kS,-⟩:=Bh m.c.s (by omega)
 obtain⟨s,hs⟩:∃ s,s=Aa M (j:Int):=⟨_,rfl⟩
 have hst:stN f=j:=by unfold stN;rw[if_neg (by omega)];exact hj
 have HX:Hid (∀ W,Mine Xb W B lo (some ⟨gS,0,none⟩) aH aF aL cS cH cF cL M->W.cell? ⟨gS,j*6+1,none⟩=some (O J s.a)/\W.cell? ⟨gS,j*6+2,none⟩=some (O J s.b)/\W.cell? ⟨gS,j*6+3,none⟩=some (O J s.unt)):=fun W m'=>⟨(Ci m'.c.s hjl hs).2.1,(Ci m'.c.s hjl hs).2.2.1,(Ci m'.c.s hjl hs).2.2.2.1⟩
 have HSt:Hid (∀ (W:Wq),Lk Xb w W B lo (some ⟨gS,0,none⟩) aH aF aL cS cH cF cL M f aK cK->Calls Pg 200 #[.pointer (some ⟨B,0,none⟩),.agg #[O J f.c.kind,O J f.c.a,O J f.c.b,O J f.c.time,O J f.c.bk,O J f.c.slot,O J f.pl,O J f.cur,O J f.prev,O J f.slot,O J f.n,Y aK f.keys.length cK,.bool f.done,O J f.e]] W fun e w'=>e=.returned (.tuple #[O J ((j:Int)),.bool true])/\Lk Xb w w' B lo (some ⟨gS,0,none⟩) aH aF aL cS cH cF cL M f aK cK):=fun W h=>by
  have:=Ea M f B _ _ _ _ cS cH cF cL aK cK W h.m.box hc1 hn1
  rw[hst,hat] at this
  exact this.mono (fun e w' h'=>⟨h'.1,h.below h'.2⟩)
 have e5:(f.c.kind==5)=false:=by rw[beq_eq_false_iff_ne];omega
 have e4:(f.c.kind==4)=true:=by rw[beq_iff_eq];exact hk4
 have hk5:¬ f.c.kind=5:=by omega
 by_cases hu:M.now<s.unt
 ·have hres:Eh M f=toF f 3:=by unfold Eh;rw[if_pos hat,if_neg hk5,hj,<- hs,if_pos hu]
  have hle:¬ s.unt<=M.now:=by omega
  rw[hres]
  have HZ:Hid (∀ ad,aK=some ad->¬ (Ac B (some ⟨gS,0,none⟩) aH aF aL) ad.block):=hz
  obtain⟨of,hof⟩:=frObj f aK cK
  obtain⟨oz,hoz⟩:∃ o:Obj,o=Ae:=⟨_,rfl⟩
  have HE:Hid (Lk Xb w ((w.alloc of).alloc oz) B lo (some ⟨gS,0,none⟩) aH aF aL cS cH cF cL M f aK cK):=Lk.first m f aK cK hof hoz
  obtain⟨q0,q1,q2,q3,q4,-,-,-,-,-,qs⟩:=Af HE.out.m.box
  obtain⟨f0,f1,f2,f3,f4,f5,f6,f7,f8,f9,f10,f11,f12,f13,ff,fs⟩:=A8 HE.out.fb
  unfold Ae at hoz
  clear m hc1 hn1 hcur hns hnh hM hf r hz hres hs hst hat h1 hk4 hk5 hu hj
  go_enter Tryz.func191,Tryz.ntmps191
  go_wp2_with fail
  rw[<- hof,<- hoz]
  generalize (w.alloc of).alloc oz=W0 at *
  subst hof hoz
  clear q0 q1 q2 q3 q4 qs
  clear f0 f1 f2 f3 f4 f5 f6 f7 f8 f9 f10 f11 f12 f13 ff fs
  refine(HSt.out _ (by exact HE.out.below ⟨rfl,rfl,rfl,Nat.le_refl _,fun _ _=>rfl⟩)).mono ?_
  rintro e w1 ⟨rfl,h9⟩
  have HE1:Hid (Lk Xb w w1 B lo (some ⟨gS,0,none⟩) aH aF aL cS cH cF cL M f aK cK):=h9
  clear HE h9
  obtain⟨q0,q1,q2,q3,q4,-,-,-,-,-,qs⟩:=Af HE1.out.m.box
  obtain⟨f0,f1,f2,f3,f4,f5,f6,f7,f8,f9,f10,f11,f12,f13,ff,fs⟩:=A8 HE1.out.fb
  obtain⟨x1,x2,x3⟩:=HX.out w1 HE1.out.m
  go_wp2_with fail
  go_quiet (fail)
  go_wp2_with fail
  have HE2:Hid (Lk2 Xb w (w1.drewN nq) (Ac B (some ⟨gS,0,none⟩) aH aF aL) B lo M f aK cK):=(HE1.out.below (w2:=w1.drewN nq) ⟨rfl,rfl,rfl,Nat.le_refl _,fun _ _=>rfl⟩).two
  clear HE1 x1 x2 x3
  clear q0 q1 q2 q3 q4 qs
  refine(Gn f 3 aK cK _).mono ?_
  rintro e w9 ⟨rfl,hb9⟩
  have HE9:Hid (Lk2 Xb w w9 (Ac B (some ⟨gS,0,none⟩) aH aF aL) B lo M f aK cK):=HE2.out.below hb9
  clear HE2 hb9
  clear f0 f1 f2 f3 f4 f5 f6 f7 f8 f9 f10 f11 f12 f13 ff fs
  obtain⟨g0,g1,g2,g3,g4,g5,g6,g7,g8,g9,g10,g11,g12,g13,gf,gs⟩:=A8 HE9.out.zb
  go_wp2
  refine bodyPost_ret (v:=.agg #[O J (toF f 3).c.kind,O J (toF f 3).c.a,O J (toF f 3).c.b,O J (toF f 3).c.time,O J (toF f 3).c.bk,O J (toF f 3).c.slot,O J (toF f 3).pl,O J (toF f 3).cur,O J (toF f 3).prev,O J (toF f 3).slot,O J (toF f 3).n,Y aK (toF f 3).keys.length cK,.bool (toF f 3).done,O J (toF f 3).e]) (by simp[results,Tryz.results191,go_sem,toF,g0,g1,g2,g3,g4,g5,g6,g7,g8,g9,g10,g11,g12,g13]) rfl ⟨⟨aK,cK,rfl,HR.out.fine HE9.out.D7.2 HZ.out,(fun ad h=>.inl h),fun _=>⟨rfl,rfl⟩⟩,HE9.out.D7⟩
 ·have hres:Eh M f=toF f 4:=by unfold Eh;rw[if_pos hat,if_neg hk5,hj,<- hs,if_neg hu]
  have hle:s.unt<=M.now:=by omega
  rw[hres]
  have HZ:Hid (∀ ad,aK=some ad->¬ (Ac B (some ⟨gS,0,none⟩) aH aF aL) ad.block):=hz
  obtain⟨of,hof⟩:=frObj f aK cK
  obtain⟨oz,hoz⟩:∃ o:Obj,o=Ae:=⟨_,rfl⟩
  have HE:Hid (Lk Xb w ((w.alloc of).alloc oz) B lo (some ⟨gS,0,none⟩) aH aF aL cS cH cF cL M f aK cK):=Lk.first m f aK cK hof hoz
  obtain⟨q0,q1,q2,q3,q4,-,-,-,-,-,qs⟩:=Af HE.out.m.box
  obtain⟨f0,f1,f2,f3,f4,f5,f6,f7,f8,f9,f10,f11,f12,f13,ff,fs⟩:=A8 HE.out.fb
  unfold Ae at hoz
  clear m hc1 hn1 hcur hns hnh hM hf r hz hres hs hst hat h1 hk4 hk5 hu hj
  go_enter Tryz.func191,Tryz.ntmps191
  go_wp2_with fail
  rw[<- hof,<- hoz]
  generalize (w.alloc of).alloc oz=W0 at *
  subst hof hoz
  clear q0 q1 q2 q3 q4 qs
  clear f0 f1 f2 f3 f4 f5 f6 f7 f8 f9 f10 f11 f12 f13 ff fs
  refine(HSt.out _ (by exact HE.out.below ⟨rfl,rfl,rfl,Nat.le_refl _,fun _ _=>rfl⟩)).mono ?_
  rintro e w1 ⟨rfl,h9⟩
  have HE1:Hid (Lk Xb w w1 B lo (some ⟨gS,0,none⟩) aH aF aL cS cH cF cL M f aK cK):=h9
  clear HE h9
  obtain⟨q0,q1,q2,q3,q4,-,-,-,-,-,qs⟩:=Af HE1.out.m.box
  obtain⟨f0,f1,f2,f3,f4,f5,f6,f7,f8,f9,f10,f11,f12,f13,ff,fs⟩:=A8 HE1.out.fb
  obtain⟨x1,x2,x3⟩:=HX.out w1 HE1.out.m
  go_wp2_with fail
  go_quiet (fail)
  go_wp2_with fail
  have HE2:Hid (Lk2 Xb w (w1.drewN nq) (Ac B (some ⟨gS,0,none⟩) aH aF aL) B lo M f aK cK):=(HE1.out.below (w2:=w1.drewN nq) ⟨rfl,rfl,rfl,Nat.le_refl _,fun _ _=>rfl⟩).two
  clear HE1 x1 x2 x3
  clear q0 q1 q2 q3 q4 qs
  refine(Gn f 4 aK cK _).mono ?_
  rintro e w9 ⟨rfl,hb9⟩
  have HE9:Hid (Lk2 Xb w w9 (Ac B (some ⟨gS,0,none⟩) aH aF aL) B lo M f aK cK):=HE2.out.below hb9
  clear HE2 hb9
  clear f0 f1 f2 f3 f4 f5 f6 f7 f8 f9 f10 f11 f12 f13 ff fs
  obtain⟨g0,g1,g2,g3,g4,g5,g6,g7,g8,g9,g10,g11,g12,g13,gf,gs⟩:=A8 HE9.out.zb
  go_wp2
  refine bodyPost_ret (v:=.agg #[O J (toF f 4).c.kind,O J (toF f 4).c.a,O J (toF f 4).c.b,O J (toF f 4).c.time,O J (toF f 4).c.bk,O J (toF f 4).c.slot,O J (toF f 4).pl,O J (toF f 4).cur,O J (toF f 4).prev,O J (toF f 4).slot,O J (toF f 4).n,Y aK (toF f 4).keys.length cK,.bool (toF f 4).done,O J (toF f 4).e]) (by simp[results,Tryz.results191,go_sem,toF,g0,g1,g2,g3,g4,g5,g6,g7,g8,g9,g10,g11,g12,g13]) rfl ⟨⟨aK,cK,rfl,HR.out.fine HE9.out.D7.2 HZ.out,(fun ad h=>.inl h),fun _=>⟨rfl,rfl⟩⟩,HE9.out.D7⟩
theorem Zy(M:Mm)(f:Fr)(B lo:Nat)(aS aH aF aL:Option Addr)(cS cH cF cL:Nat)(aK:Option Addr)(cK:Nat)(w:Wq)
  (m:Mine Xb w B lo aS aH aF aL cS cH cF cL M) (hM:Ok M) (hf:Fit M f) (r:Am w aK cK f.keys) (hz:∀ ad,aK=some ad->¬ Ac B aS aH aF aL ad.block) (hk5:f.c.kind=5) (hat:Ej M f=true) (hkl:¬ f.keys.length<100) :
  Calls Pg 191 #[.pointer (some ⟨B,0,none⟩),.agg #[O J f.c.kind,O J f.c.a,O J f.c.b,O J f.c.time,O J f.c.bk,O J f.c.slot,O J f.pl,O J f.cur,O J f.prev,O J f.slot,O J f.n,Y aK f.keys.length cK,.bool f.done,O J f.e]] w fun e w'=>Ret w w' e (Eh M f) aK cK/\Has Xb w' B lo (Up w (Ac B aS aH aF aL)) (M)/\Fine w w' (Ac B aS aH aF aL):=by
 have hns:=hM.ns
 have hnh:=hM.nh.2
 have hcur:=hf.cur.2
 have hc1:f.cur<=1000:=by omega
 have hn1:M.slots.length<=1000:=by omega
 have HOk:Hid (Ok M):=hM
 have HR:Hid (Am w aK cK f.keys):=r
 have h1:=Es.1 hat
 obtain⟨j,hj⟩:∃ j:Nat,f.cur - 1=j:=⟨(f.cur - 1).toNat,by omega⟩
 have hjl:j<M.slots.length:=by omega
 obtain⟨gS,rfl,oS,lS,kS,-⟩:=Bh m.c.s (by omega)
 obtain⟨s,hs⟩:∃ s,s=Aa M (j:Int):=⟨_,rfl⟩
 have hst:stN f=j:=by unfold stN;rw[if_neg (by omega)];exact hj
 have hres:Eh M f=toF f 3:=by unfold Eh;rw[if_pos hat,if_pos hk5];unfold N7;rw[if_neg hkl];rfl
 rw[hres]
 have HNt:Hid (∀ W:Wq,Lk Xb w W B lo (some ⟨gS,0,none⟩) aH aF aL cS cH cF cL M f aK cK->Calls Pg 211 #[.agg #[O J f.c.kind,O J f.c.a,O J f.c.b,O J f.c.time,O J f.c.bk,O J f.c.slot,O J f.pl,O J f.cur,O J f.prev,O J f.slot,O J f.n,Y aK f.keys.length cK,.bool f.done,O J f.e],.agg #[O J s.a,O J s.b]] W fun e w'=>e=.returned (.agg #[O J f.c.kind,O J f.c.a,O J f.c.b,O J f.c.time,O J f.c.bk,O J f.c.slot,O J f.pl,O J f.cur,O J f.prev,O J f.slot,O J f.n,Y aK f.keys.length cK,.bool f.done,O J f.e])/\Lk Xb w w' B lo (some ⟨gS,0,none⟩) aH aF aL cS cH cF cL M f aK cK):=fun W h=>(a5b f s.a s.b aK cK W hkl).mono (fun e w' h'=>⟨h'.1,h.below h'.2⟩)
 have HX:Hid (∀ W,Mine Xb W B lo (some ⟨gS,0,none⟩) aH aF aL cS cH cF cL M->W.cell? ⟨gS,j*6+1,none⟩=some (O J s.a)/\W.cell? ⟨gS,j*6+2,none⟩=some (O J s.b)/\W.cell? ⟨gS,j*6+3,none⟩=some (O J s.unt)):=fun W m'=>⟨(Ci m'.c.s hjl hs).2.1,(Ci m'.c.s hjl hs).2.2.1,(Ci m'.c.s hjl hs).2.2.2.1⟩
 have HSt:Hid (∀ (W:Wq),Lk Xb w W B lo (some ⟨gS,0,none⟩) aH aF aL cS cH cF cL M f aK cK->Calls Pg 200 #[.pointer (some ⟨B,0,none⟩),.agg #[O J f.c.kind,O J f.c.a,O J f.c.b,O J f.c.time,O J f.c.bk,O J f.c.slot,O J f.pl,O J f.cur,O J f.prev,O J f.slot,O J f.n,Y aK f.keys.length cK,.bool f.done,O J f.e]] W fun e w'=>e=.returned (.tuple #[O J ((j:Int)),.bool true])/\Lk Xb w w' B lo (some ⟨gS,0,none⟩) aH aF aL cS cH cF cL M f aK cK):=fun W h=>by
  have:=Ea M f B _ _ _ _ cS cH cF cL aK cK W h.m.box hc1 hn1
  rw[hst,hat] at this
  exact this.mono (fun e w' h'=>⟨h'.1,h.below h'.2⟩)
 have e5:(f.c.kind==5)=true:=by rw[beq_iff_eq];exact hk5
 have HZ:Hid (∀ ad,aK=some ad->¬ (Ac B (some ⟨gS,0,none⟩) aH aF aL) ad.block):=hz
 obtain⟨of,hof⟩:=frObj f aK cK
 obtain⟨oz,hoz⟩:∃ o:Obj,o=Ae:=⟨_,rfl⟩
 have HE:Hid (Lk Xb w ((w.alloc of).alloc oz) B lo (some ⟨gS,0,none⟩) aH aF aL cS cH cF cL M f aK cK):=Lk.first m f aK cK hof hoz
 obtain⟨q0,q1,q2,q3,q4,-,-,-,-,-,qs⟩:=Af HE.out.m.box
 obtain⟨f0,f1,f2,f3,f4,f5,f6,f7,f8,f9,f10,f11,f12,f13,ff,fs⟩:=A8 HE.out.fb
 unfold Ae at hoz
 clear m hc1 hn1 hcur hns hnh hM hf r hz hres hs hst hat h1 hk5 hj hkl
 go_enter Tryz.func191,Tryz.ntmps191
 go_wp2_with fail
 rw[<- hof,<- hoz]
 generalize (w.alloc of).alloc oz=W0 at *
 subst hof hoz
 clear q0 q1 q2 q3 q4 qs
 clear f0 f1 f2 f3 f4 f5 f6 f7 f8 f9 f10 f11 f12 f13 ff fs
 refine(HSt.out _ (by exact HE.out.below ⟨rfl,rfl,rfl,Nat.le_refl _,fun _ _=>rfl⟩)).mono ?_
 rintro e w1 ⟨rfl,h9⟩
 have HE1:Hid (Lk Xb w w1 B lo (some ⟨gS,0,none⟩) aH aF aL cS cH cF cL M f aK cK):=h9
 clear HE h9
 obtain⟨q0,q1,q2,q3,q4,-,-,-,-,-,qs⟩:=Af HE1.out.m.box
 obtain⟨f0,f1,f2,f3,f4,f5,f6,f7,f8,f9,f10,f11,f12,f13,ff,fs⟩:=A8 HE1.out.fb
 obtain⟨x1,x2,x3⟩:=HX.out w1 HE1.out.m
 go_wp2_with fail
 go_region_with (first|(go_at_call 211;refine(HNt.out _ (by exact HE1.out.below ⟨rfl,rfl,rfl,Nat.le_refl _,fun _ _=>rfl⟩)).mono ?_;rintro e w2 ⟨rfl,h9⟩;have HE2:Hid (Lk Xb w w2 B lo (some ⟨gS,0,none⟩) aH aF aL cS cH cF cL M f aK cK):=h9;clear h9)|(go_at_call 171;refine(Gn f 3 aK cK _).mono ?_;rintro e w3 ⟨rfl,hb3⟩;have HE3:Hid (Lk Xb w w3 B lo (some ⟨gS,0,none⟩) aH aF aL cS cH cF cL M f aK cK):=HE2.out.below hb3;clear hb3;obtain⟨g0,g1,g2,g3,g4,g5,g6,g7,g8,g9,g10,g11,g12,g13,gf,gs⟩:=A8 HE3.out.zb))
 all_goals
  clear q0 q1 q2 q3 q4 qs
  clear f0 f1 f2 f3 f4 f5 f6 f7 f8 f9 f10 f11 f12 f13 ff fs
  go_wp2
  refine bodyPost_ret (v:=.agg #[O J (toF f 3).c.kind,O J (toF f 3).c.a,O J (toF f 3).c.b,O J (toF f 3).c.time,O J (toF f 3).c.bk,O J (toF f 3).c.slot,O J (toF f 3).pl,O J (toF f 3).cur,O J (toF f 3).prev,O J (toF f 3).slot,O J (toF f 3).n,Y aK (toF f 3).keys.length cK,.bool (toF f 3).done,O J (toF f 3).e]) (by simp[results,Tryz.results191,go_sem,toF,g0,g1,g2,g3,g4,g5,g6,g7,g8,g9,g10,g11,g12,g13]) rfl ⟨⟨aK,cK,rfl,HR.out.fine HE3.out.two.D7.2 HZ.out,(fun ad h=>.inl h),fun _=>⟨rfl,rfl⟩⟩,HE3.out.two.D7⟩
theorem Zz(M:Mm)(f:Fr)(B lo:Nat)(aS aH aF aL:Option Addr)(cS cH cF cL:Nat)(aK:Option Addr)(cK:Nat)(w:Wq)
  (m:Mine Xb w B lo aS aH aF aL cS cH cF cL M) (hM:Ok M) (hf:Fit M f) (r:Am w aK cK f.keys) (hz:∀ ad,aK=some ad->¬ Ac B aS aH aF aL ad.block) (hk5:f.c.kind=5) (hat:Ej M f=true) (hkl:f.keys.length<100) :
  Calls Pg 191 #[.pointer (some ⟨B,0,none⟩),.agg #[O J f.c.kind,O J f.c.a,O J f.c.b,O J f.c.time,O J f.c.bk,O J f.c.slot,O J f.pl,O J f.cur,O J f.prev,O J f.slot,O J f.n,Y aK f.keys.length cK,.bool f.done,O J f.e]] w fun e w'=>a0k w w' e (Eh M f)/\Has Xb w' B lo (Up w (Ac B aS aH aF aL)) (M)/\Fine w w' (Ac B aS aH aF aL):=by
 have hns:=hM.ns
 have hnh:=hM.nh.2
 have hcur:=hf.cur.2
 have hc1:f.cur<=1000:=by omega
 have hn1:M.slots.length<=1000:=by omega
 have HOk:Hid (Ok M):=hM
 have HR:Hid (Am w aK cK f.keys):=r
 have h1:=Es.1 hat
 obtain⟨j,hj⟩:∃ j:Nat,f.cur - 1=j:=⟨(f.cur - 1).toNat,by omega⟩
 have hjl:j<M.slots.length:=by omega
 obtain⟨gS,rfl,oS,lS,kS,-⟩:=Bh m.c.s (by omega)
 obtain⟨s,hs⟩:∃ s,s=Aa M (j:Int):=⟨_,rfl⟩
 have hst:stN f=j:=by unfold stN;rw[if_neg (by omega)];exact hj
 obtain⟨fk,hfk⟩:∃ fk:Fr,fk = { f with keys:=f.keys ++ [(s.a,s.b)] }:=⟨_,rfl⟩
 have hres:Eh M f=toF fk 3:=by unfold Eh;rw[if_pos hat,if_pos hk5];unfold N7;rw[if_pos hkl,hj,hfk,hs];rfl
 rw[hres]
 have HNt:Hid (∀ W:Wq,Lk Xb w W B lo (some ⟨gS,0,none⟩) aH aF aL cS cH cF cL M f aK cK->Calls Pg 211 #[.agg #[O J f.c.kind,O J f.c.a,O J f.c.b,O J f.c.time,O J f.c.bk,O J f.c.slot,O J f.pl,O J f.cur,O J f.prev,O J f.slot,O J f.n,Y aK f.keys.length cK,.bool f.done,O J f.e],.agg #[O J s.a,O J s.b]] W fun e w'=>∃ a c,e=.returned (.agg #[O J fk.c.kind,O J fk.c.a,O J fk.c.b,O J fk.c.time,O J fk.c.bk,O J fk.c.slot,O J fk.pl,O J fk.cur,O J fk.prev,O J fk.slot,O J fk.n,Y a fk.keys.length c,.bool fk.done,O J fk.e])/\Dk w' (w.heap.size+2) a c fk.keys/\Lk Xb w w' B lo (some ⟨gS,0,none⟩) aH aF aL cS cH cF cL M f aK cK):=fun W h=>by
  have:=a5c f s.a s.b aK cK W (HR.out.below h.bl) hkl
  rw[<- hfk] at this
  refine this.mono ?_
  rintro e w' ⟨a,c,h1,h2,h3⟩
  refine⟨a,c,h1,?_,h.below h3⟩
  rw[hfk]
  exact h2.le (lt_of_block h.zb)
 have HX:Hid (∀ W,Mine Xb W B lo (some ⟨gS,0,none⟩) aH aF aL cS cH cF cL M->W.cell? ⟨gS,j*6+1,none⟩=some (O J s.a)/\W.cell? ⟨gS,j*6+2,none⟩=some (O J s.b)/\W.cell? ⟨gS,j*6+3,none⟩=some (O J s.unt)):=fun W m'=>⟨(Ci m'.c.s hjl hs).2.1,(Ci m'.c.s hjl hs).2.2.1,(Ci m'.c.s hjl hs).2.2.2.1⟩
 have HSt:Hid (∀ (W:Wq),Lk Xb w W B lo (some ⟨gS,0,none⟩) aH aF aL cS cH cF cL M f aK cK->Calls Pg 200 #[.pointer (some ⟨B,0,none⟩),.agg #[O J f.c.kind,O J f.c.a,O J f.c.b,O J f.c.time,O J f.c.bk,O J f.c.slot,O J f.pl,O J f.cur,O J f.prev,O J f.slot,O J f.n,Y aK f.keys.length cK,.bool f.done,O J f.e]] W fun e w'=>e=.returned (.tuple #[O J ((j:Int)),.bool true])/\Lk Xb w w' B lo (some ⟨gS,0,none⟩) aH aF aL cS cH cF cL M f aK cK):=fun W h=>by
  have:=Ea M f B _ _ _ _ cS cH cF cL aK cK W h.m.box hc1 hn1
  rw[hst,hat] at this
  exact this.mono (fun e w' h'=>⟨h'.1,h.below h'.2⟩)
 have e5:(f.c.kind==5)=true:=by rw[beq_iff_eq];exact hk5
 have HZ:Hid (∀ ad,aK=some ad->¬ (Ac B (some ⟨gS,0,none⟩) aH aF aL) ad.block):=hz
 obtain⟨of,hof⟩:=frObj f aK cK
 obtain⟨oz,hoz⟩:∃ o:Obj,o=Ae:=⟨_,rfl⟩
 have HE:Hid (Lk Xb w ((w.alloc of).alloc oz) B lo (some ⟨gS,0,none⟩) aH aF aL cS cH cF cL M f aK cK):=Lk.first m f aK cK hof hoz
 obtain⟨q0,q1,q2,q3,q4,-,-,-,-,-,qs⟩:=Af HE.out.m.box
 obtain⟨f0,f1,f2,f3,f4,f5,f6,f7,f8,f9,f10,f11,f12,f13,ff,fs⟩:=A8 HE.out.fb
 unfold Ae at hoz
 clear m hc1 hn1 hcur hns hnh hM hf r hz hres hs hst hat h1 hk5 hj hkl hfk
 go_enter Tryz.func191,Tryz.ntmps191
 go_wp2_with fail
 rw[<- hof,<- hoz]
 generalize (w.alloc of).alloc oz=W0 at *
 subst hof hoz
 clear q0 q1 q2 q3 q4 qs
 clear f0 f1 f2 f3 f4 f5 f6 f7 f8 f9 f10 f11 f12 f13 ff fs
 refine(HSt.out _ (by exact HE.out.below ⟨rfl,rfl,rfl,Nat.le_refl _,fun _ _=>rfl⟩)).mono ?_
 rintro e w1 ⟨rfl,h9⟩
 have HE1:Hid (Lk Xb w w1 B lo (some ⟨gS,0,none⟩) aH aF aL cS cH cF cL M f aK cK):=h9
 clear HE h9
 obtain⟨q0,q1,q2,q3,q4,-,-,-,-,-,qs⟩:=Af HE1.out.m.box
 obtain⟨f0,f1,f2,f3,f4,f5,f6,f7,f8,f9,f10,f11,f12,f13,ff,fs⟩:=A8 HE1.out.fb
 obtain⟨x1,x2,x3⟩:=HX.out w1 HE1.out.m
 go_wp2_with fail
 go_region_with (first|(go_at_call 211;refine(HNt.out _ (by exact HE1.out.below ⟨rfl,rfl,rfl,Nat.le_refl _,fun _ _=>rfl⟩)).mono ?_;rintro e w2 ⟨a2,c2,rfl,hk2,h9⟩;have HE2:Hid (Lk Xb w w2 B lo (some ⟨gS,0,none⟩) aH aF aL cS cH cF cL M f aK cK):=h9;have HK2:Hid (Dk w2 (w.heap.size+2) a2 c2 fk.keys):=hk2;clear h9 hk2)|(go_at_call 171;refine(Gn fk 3 a2 c2 _).mono ?_;rintro e w3 ⟨rfl,hb3⟩;have HE3:Hid (Lk Xb w w3 B lo (some ⟨gS,0,none⟩) aH aF aL cS cH cF cL M f aK cK):=HE2.out.below hb3;have HK3:Hid (Dk w3 (w.heap.size+2) a2 c2 fk.keys):=HK2.out.below hb3;clear hb3;obtain⟨g0,g1,g2,g3,g4,g5,g6,g7,g8,g9,g10,g11,g12,g13,gf,gs⟩:=A8 HE3.out.zb))
 all_goals
  clear q0 q1 q2 q3 q4 qs
  clear f0 f1 f2 f3 f4 f5 f6 f7 f8 f9 f10 f11 f12 f13 ff fs
  go_wp2
  refine bodyPost_ret (v:=.agg #[O J (toF fk 3).c.kind,O J (toF fk 3).c.a,O J (toF fk 3).c.b,O J (toF fk 3).c.time,O J (toF fk 3).c.bk,O J (toF fk 3).c.slot,O J (toF fk 3).pl,O J (toF fk 3).cur,O J (toF fk 3).prev,O J (toF fk 3).slot,O J (toF fk 3).n,Y a2 (toF fk 3).keys.length c2,.bool (toF fk 3).done,O J (toF fk 3).e]) (by simp[results,Tryz.results191,go_sem,toF,g0,g1,g2,g3,g4,g5,g6,g7,g8,g9,g10,g11,g12,g13]) rfl ⟨⟨a2,c2,rfl,HK3.out.D7⟩,HE3.out.two.D7⟩
theorem a2k(M:Mm)(f:Fr)(B lo:Nat)(aS aH aF aL:Option Addr)(cS cH cF cL:Nat)(aK:Option Addr)(cK:Nat)(hM:Ok M)(hf:Fit M f)(hk:f.c.kind=4\/f.c.kind=5)(hz:∀ ad,aK=some ad->¬ Ac B aS aH aF aL ad.block) :
  ((Eh M f).keys=f.keys/\∀ W:Wq,Mine Xb W B lo aS aH aF aL cS cH cF cL M->Am W aK cK f.keys->Calls Pg 191 #[.pointer (some ⟨B,0,none⟩),.agg #[O J f.c.kind,O J f.c.a,O J f.c.b,O J f.c.time,O J f.c.bk,O J f.c.slot,O J f.pl,O J f.cur,O J f.prev,O J f.slot,O J f.n,Y aK f.keys.length cK,.bool f.done,O J f.e]] W fun e w'=>Ret W w' e (Eh M f) aK cK/\Has Xb w' B lo (Up W (Ac B aS aH aF aL)) M/\Fine W w' (Ac B aS aH aF aL))\/(∀ W:Wq,Mine Xb W B lo aS aH aF aL cS cH cF cL M->Am W aK cK f.keys->Calls Pg 191 #[.pointer (some ⟨B,0,none⟩),.agg #[O J f.c.kind,O J f.c.a,O J f.c.b,O J f.c.time,O J f.c.bk,O J f.c.slot,O J f.pl,O J f.cur,O J f.prev,O J f.slot,O J f.n,Y aK f.keys.length cK,.bool f.done,O J f.e]] W fun e w'=>a0k W w' e (Eh M f)/\Has Xb w' B lo (Up W (Ac B aS aH aF aL)) M/\Fine W w' (Ac B aS aH aF aL)):=by
 by_cases hat:Ej M f=true
 ·rcases hk with hk|hk
  ·refine .inl ⟨?_,fun W m r=>Zw M f B lo aS aH aF aL cS cH cF cL aK cK W m hM hf r hz hk hat⟩
   unfold Eh
   rw[if_pos hat,if_neg (by omega)]
   split <;> rfl
  ·by_cases hkl:f.keys.length<100
   ·exact .inr fun W m r=>Zz M f B lo aS aH aF aL cS cH cF cL aK cK W m hM hf r hz hk hat hkl
   ·refine .inl ⟨?_,fun W m r=>Zy M f B lo aS aH aF aL cS cH cF cL aK cK W m hM hf r hz hk hat hkl⟩
    unfold Eh N7
    rw[if_pos hat,if_pos hk,if_neg hkl]
 ·refine .inl ⟨?_,fun W m r=>a6d M f B lo aS aH aF aL cS cH cF cL aK cK W m hM hf r hz hk hat⟩
  unfold Eh
  rw[if_neg hat]
  rfl
end
end Go.Proofs.YthhgoenomehobaaGreat.mm
