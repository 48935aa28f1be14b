/- Parts. -/
import Derived.Test.YthhgoenomehobaaGreatP17
import Derived.Test.YthhgoenomehobaaGreatP13
import Derived.Test.YthhgoenomehobaaGreatP08
namespace Go.Proofs.YthhgoenomehobaaGreat.mm
set_option maxRecDepth 100000
set_option linter.unusedVariables false
open Go.Value renaming int → O, slice → Y
open Go.IntKind renaming i64 → J
open Go.Proofs.Tryz renaming prog → Pg
open Go renaming World → Wq
open Go.ChangeShapes Go.WideShapes Go.ChangeAt Go.RowKit Go.Joins Go.Deep Go.Sort
set_option maxHeartbeats 3200000
section
variable {Xb:Ex}
theorem b3g(M:Mm)(f:Fr)(B lo:Nat)(aS aH aF aL:Option Addr)(cS cH cF cL:Nat)(aK:Option Addr)(cK:Nat)(w:Wq)
  (m:Mine Xb w B lo aS aH aF aL cS cH cF cL M) (hM:Ok M) (hf:Fit M f) (r:Am w aK cK f.keys) (hz:∀ ad,aK=some ad->¬ Ac B aS aH aF aL ad.block) :
  Calls Pg 185 #[.pointer (some ⟨B,0,none⟩),.agg #[O J f.c.kind,O J f.c.a,O J f.c.b,O J f.c.time,O J f.c.bk,O J f.c.slot,O J f.pl,O J f.cur,O J f.prev,O J f.slot,O J f.n,Y aK f.keys.length cK,.bool f.done,O J f.e]] w fun e w'=>Ret w w' e (Oz M f) aK cK/\Has Xb w' B lo (Up w (Ac B aS aH aF aL)) (Gl M f)/\Fine w w' (Ac B aS aH aF aL):=by
 have hns:=hM.ns
 have hnh:=hM.nh.2
 have hcur:=hf.cur.2
 have hc1:f.cur<=1000:=by omega
 have hn1:M.slots.length<=1000:=by omega
 have HOk:Hid (Ok M):=hM
 have HR:Hid (Am w aK cK f.keys):=r
 obtain⟨b0,b1⟩:=He hM hf.call
 obtain⟨b,hb⟩:∃ b:Nat,Ey M.heads.length f.c=b:=⟨_,(Int.toNat_of_nonneg b0).symm⟩
 have hbl:b<M.heads.length:=by omega
 have hbn:bkN M f=b:=by unfold bkN;rw[hb];rfl
 have HBk:Hid (∀ W:Wq,Lk Xb w W B lo aS aH aF aL cS cH cF cL M f aK cK->Calls Pg 34 #[.agg #[Y aS M.slots.length cS,Y aH M.heads.length cH,Y aF M.free.length cF,Y aL M.locks.length cL,O J M.now],.agg #[O J f.c.kind,O J f.c.a,O J f.c.b,O J f.c.time,O J f.c.bk,O J f.c.slot]] W fun e w'=>e=.returned (O J (b:Int))/\Lk Xb w w' B lo aS aH aF aL cS cH cF cL M f aK cK):=fun W h=>(hb ▸ F8 _ _ _ _ _ _ _ _ cS cH cF cL M.now f.c W (by omega):Calls Pg 34 _ W fun e w'=>e=.returned (O J (b:Int))/\Below W.heap.size W w').mono (fun e w' h'=>⟨h'.1,h.below h'.2⟩)
 by_cases hat:Ej M f=true
 ·have h1:=Es.1 hat
  obtain⟨j,hj⟩:∃ j:Nat,f.cur=(j:Int)+1:=⟨(f.cur - 1).toNat,by omega⟩
  have hjl:j<M.slots.length:=by omega
  have hj1:f.cur - 1=(j:Int):=by omega
  have hres:Oz M f = { f with slot:=(j:Int),e:=0,pl:=5 }:=by unfold Oz;rw[if_pos hat,hj1]
  have hresM:Gl M f=I7 M b f.prev (j:Int):=by unfold Gl;rw[if_pos hat,hj1,hbn]
  rw[hres,hresM]
  have HCt:Hid (∀ W:Wq,Lk Xb w W B lo aS aH aF aL cS cH cF cL M f aK cK->Calls Pg 210 #[.pointer (some ⟨B,0,none⟩),O J (b:Int),.agg #[O J f.c.kind,O J f.c.a,O J f.c.b,O J f.c.time,O J f.c.bk,O J f.c.slot,O J f.pl,O J f.cur,O J f.prev,O J f.slot,O J f.n,Y aK f.keys.length cK,.bool f.done,O J f.e]] W fun e w'=>e=.returned (.tuple #[O J (j:Int),.bool true])/\Lk2 Xb w w' (Ac B aS aH aF aL) B lo (I7 M b f.prev (j:Int)) f aK cK):=fun W h=>(Uu M f b B lo aS aH aF aL cS cH cF cL aK cK W h.m HOk.out hf hbl j hj hjl).mono (fun e w' h'=>⟨h'.1,h.after h'.2.1 h'.2.2⟩)
  generalize I7 M b f.prev (j:Int)=M' at *
  have HZ:Hid (∀ ad,aK=some ad->¬ (Ac B aS aH aF aL) ad.block):=hz
  obtain⟨of,hof⟩:=frObj f aK cK
  obtain⟨oz,hoz⟩:∃ o:Obj,o=Ae:=⟨_,rfl⟩
  have HE:Hid (Lk Xb w ((w.alloc of).alloc oz) B lo aS aH aF aL cS cH cF cL M f aK cK):=Lk.first m f aK cK hof hoz
  obtain⟨q0,q1,q2,q3,q4,-,-,-,-,-,qs⟩:=Af HE.out.m.box
  obtain⟨f0,f1,f2,f3,f4,f5,f6,f7,f8,f9,f10,f11,f12,f13,ff,fs⟩:=A8 HE.out.fb
  unfold Ae at hoz
  clear m hc1 hn1 hcur hns hnh hM hf r hz hres hresM hat h1 hj hj1 hbn hb b0 b1
  go_enter Tryz.func185,Tryz.ntmps185
  go_wp2_with fail
  rw[<- hof,<- hoz]
  generalize (w.alloc of).alloc oz=W0 at *
  subst hof hoz
  rename_i K0 hK0
  apply En (R:=fun a=>∀ W2:Wq,Lk2 Xb w W2 (Ac B aS aH aF aL) B lo M' f aK cK->K0 a W2)
  ·intro tail0
   have tail:Hid _:=tail0
   clear tail0
   go_region_with (first|(go_at_call 34;refine(HBk.out _ (by exact HE.out.below ⟨rfl,rfl,rfl,Nat.le_refl _,fun _ _=>rfl⟩)).mono ?_;rintro e w1 ⟨rfl,h9⟩;have HE1:Hid (Lk Xb w w1 B lo aS aH aF aL cS cH cF cL M f aK cK):=h9;clear h9;obtain⟨f0,f1,f2,f3,f4,f5,f6,f7,f8,f9,f10,f11,f12,f13,ff,fs⟩:=A8 HE1.out.fb;obtain⟨q0,q1,q2,q3,q4,-,-,-,-,-,qs⟩:=Af HE1.out.m.box)|(go_at_call 210;refine(HCt.out _ (by exact HE1.out.below ⟨rfl,rfl,rfl,Nat.le_refl _,fun _ _=>rfl⟩)).mono ?_;rintro e w2 ⟨rfl,h9⟩;have HE2:Hid (Lk2 Xb w w2 (Ac B aS aH aF aL) B lo M' f aK cK):=h9;clear h9))
   all_goals exact tail.out _ HE2.out
  ·intro w2 h2
   refine hK0 _ _ ?_
   have HE2:Hid (Lk2 Xb w w2 (Ac B aS aH aF aL) B lo M' f aK cK):=h2
   clear h2 HE hK0
   clear q0 q1 q2 q3 q4 qs
   clear f0 f1 f2 f3 f4 f5 f6 f7 f8 f9 f10 f11 f12 f13 ff fs
   obtain⟨f0,f1,f2,f3,f4,f5,f6,f7,f8,f9,f10,f11,f12,f13,ff,fs⟩:=A8 HE2.out.fb
   go_wp2_with fail
   have HE3:Hid (Lk2 Xb w _ (Ac B aS aH aF aL) B lo M' { f with slot:=(j:Int),e:=0 } aK cK):=(HE2.out.store 9 (O J (j:Int)) { f with slot:=(j:Int) } rfl).store 13 (O J 0) { f with slot:=(j:Int),e:=0 } rfl
   clear HE2
   refine(Gn { f with slot:=(j:Int),e:=0 } 5 aK cK _).mono ?_
   rintro e w9 ⟨rfl,hb9⟩
   have HE9:Hid (Lk2 Xb w w9 (Ac B aS aH aF aL) B lo M' { f with slot:=(j:Int),e:=0 } aK cK):=HE3.out.below hb9
   clear HE3 hb9
   clear f0 f1 f2 f3 f4 f5 f6 f7 f8 f9 f10 f11 f12 f13 ff fs
   obtain⟨g0,g1,g2,g3,g4,g5,g6,g7,g8,g9,g10,g11,g12,g13,gf,gs⟩:=A8 HE9.out.zb
   go_wp2
   refine bodyPost_ret (v:=.agg #[O J ({ f with slot:=(j:Int),e:=0,pl:=5 }).c.kind,O J ({ f with slot:=(j:Int),e:=0,pl:=5 }).c.a,O J ({ f with slot:=(j:Int),e:=0,pl:=5 }).c.b,O J ({ f with slot:=(j:Int),e:=0,pl:=5 }).c.time,O J ({ f with slot:=(j:Int),e:=0,pl:=5 }).c.bk,O J ({ f with slot:=(j:Int),e:=0,pl:=5 }).c.slot,O J ({ f with slot:=(j:Int),e:=0,pl:=5 }).pl,O J ({ f with slot:=(j:Int),e:=0,pl:=5 }).cur,O J ({ f with slot:=(j:Int),e:=0,pl:=5 }).prev,O J ({ f with slot:=(j:Int),e:=0,pl:=5 }).slot,O J ({ f with slot:=(j:Int),e:=0,pl:=5 }).n,Y aK ({ f with slot:=(j:Int),e:=0,pl:=5 }).keys.length cK,.bool ({ f with slot:=(j:Int),e:=0,pl:=5 }).done,O J ({ f with slot:=(j:Int),e:=0,pl:=5 }).e]) (by simp[results,Tryz.results185,go_sem,toF,g0,g1,g2,g3,g4,g5,g6,g7,g8,g9,g10,g11,g12,g13]) rfl ⟨⟨aK,cK,rfl,HR.out.fine HE9.out.D7.2 HZ.out,(fun ad h=>.inl h),fun _=>⟨rfl,rfl⟩⟩,HE9.out.D7⟩
 ·have hat0:Ej M f=false:=by simpa using hat
  have hres:Oz M f=Du f 8 5:=by unfold Oz;rw[if_neg hat]
  have hresM:Gl M f=M:=by unfold Gl;rw[if_neg hat]
  rw[hres,hresM]
  have HCt:Hid (∀ W:Wq,Lk Xb w W B lo aS aH aF aL cS cH cF cL M f aK cK->Calls Pg 210 #[.pointer (some ⟨B,0,none⟩),O J (b:Int),.agg #[O J f.c.kind,O J f.c.a,O J f.c.b,O J f.c.time,O J f.c.bk,O J f.c.slot,O J f.pl,O J f.cur,O J f.prev,O J f.slot,O J f.n,Y aK f.keys.length cK,.bool f.done,O J f.e]] W fun e w'=>e=.returned (.tuple #[O J 0,.bool false])/\Lk2 Xb w w' (Ac B aS aH aF aL) B lo M f aK cK):=fun W h=>(Xd M f b B lo aS aH aF aL cS cH cF cL aK cK W h.m HOk.out hf hbl hat0).mono (fun e w' h'=>⟨h'.1,(h.below h'.2).two⟩)
  have HZ:Hid (∀ ad,aK=some ad->¬ (Ac B aS aH aF aL) ad.block):=hz
  obtain⟨of,hof⟩:=frObj f aK cK
  obtain⟨oz,hoz⟩:∃ o:Obj,o=Ae:=⟨_,rfl⟩
  have HE:Hid (Lk Xb w ((w.alloc of).alloc oz) B lo aS aH aF aL cS cH cF cL M f aK cK):=Lk.first m f aK cK hof hoz
  obtain⟨q0,q1,q2,q3,q4,-,-,-,-,-,qs⟩:=Af HE.out.m.box
  obtain⟨f0,f1,f2,f3,f4,f5,f6,f7,f8,f9,f10,f11,f12,f13,ff,fs⟩:=A8 HE.out.fb
  unfold Ae at hoz
  clear m hc1 hn1 hcur hns hnh hM hf r hz hres hresM hat hat0 hbn hb b0 b1
  go_enter Tryz.func185,Tryz.ntmps185
  go_wp2_with fail
  rw[<- hof,<- hoz]
  generalize (w.alloc of).alloc oz=W0 at *
  subst hof hoz
  rename_i K0 hK0
  apply En (R:=fun a=>∀ W2:Wq,Lk2 Xb w W2 (Ac B aS aH aF aL) B lo M f aK cK->K0 a W2)
  ·intro tail0
   have tail:Hid _:=tail0
   clear tail0
   go_region_with (first|(go_at_call 34;refine(HBk.out _ (by exact HE.out.below ⟨rfl,rfl,rfl,Nat.le_refl _,fun _ _=>rfl⟩)).mono ?_;rintro e w1 ⟨rfl,h9⟩;have HE1:Hid (Lk Xb w w1 B lo aS aH aF aL cS cH cF cL M f aK cK):=h9;clear h9;obtain⟨f0,f1,f2,f3,f4,f5,f6,f7,f8,f9,f10,f11,f12,f13,ff,fs⟩:=A8 HE1.out.fb;obtain⟨q0,q1,q2,q3,q4,-,-,-,-,-,qs⟩:=Af HE1.out.m.box)|(go_at_call 210;refine(HCt.out _ (by exact HE1.out.below ⟨rfl,rfl,rfl,Nat.le_refl _,fun _ _=>rfl⟩)).mono ?_;rintro e w2 ⟨rfl,h9⟩;have HE2:Hid (Lk2 Xb w w2 (Ac B aS aH aF aL) B lo M f aK cK):=h9;clear h9))
   all_goals exact tail.out _ HE2.out
  ·intro w2 h2
   refine hK0 _ _ ?_
   have HE2:Hid (Lk2 Xb w w2 (Ac B aS aH aF aL) B lo M f aK cK):=h2
   clear h2 HE hK0
   clear q0 q1 q2 q3 q4 qs
   clear f0 f1 f2 f3 f4 f5 f6 f7 f8 f9 f10 f11 f12 f13 ff fs
   obtain⟨f0,f1,f2,f3,f4,f5,f6,f7,f8,f9,f10,f11,f12,f13,ff,fs⟩:=A8 HE2.out.fb
   go_wp2_with fail
   refine(Pj f aK cK _).mono ?_
   rintro e w9 ⟨rfl,hb9⟩
   have HE9:Hid (Lk2 Xb w w9 (Ac B aS aH aF aL) B lo M f aK cK):=HE2.out.below hb9
   clear HE2 hb9
   clear f0 f1 f2 f3 f4 f5 f6 f7 f8 f9 f10 f11 f12 f13 ff fs
   obtain⟨g0,g1,g2,g3,g4,g5,g6,g7,g8,g9,g10,g11,g12,g13,gf,gs⟩:=A8 HE9.out.zb
   go_wp2
   refine bodyPost_ret (v:=.agg #[O J (Du f 8 5).c.kind,O J (Du f 8 5).c.a,O J (Du f 8 5).c.b,O J (Du f 8 5).c.time,O J (Du f 8 5).c.bk,O J (Du f 8 5).c.slot,O J (Du f 8 5).pl,O J (Du f 8 5).cur,O J (Du f 8 5).prev,O J (Du f 8 5).slot,O J (Du f 8 5).n,Y aK (Du f 8 5).keys.length cK,.bool (Du f 8 5).done,O J (Du f 8 5).e]) (by simp[results,Tryz.results185,go_sem,Du,g0,g1,g2,g3,g4,g5,g6,g7,g8,g9,g10,g11,g12,g13]) rfl ⟨⟨aK,cK,rfl,HR.out.fine HE9.out.D7.2 HZ.out,(fun ad h=>.inl h),fun _=>⟨rfl,rfl⟩⟩,HE9.out.D7⟩
end
end Go.Proofs.YthhgoenomehobaaGreat.mm
