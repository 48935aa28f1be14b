/- Parts. -/
import Derived.Test.YthhgoenomehobaaGreatS17
import Derived.Test.YthhgoenomehobaaGreatS10
import Derived.Test.YthhgoenomehobaaGreatS06
namespace Go.Proofs.YthhgoenomehobaaGreat.mm
set_option maxRecDepth 100000
set_option linter.unusedVariables false
open Go.Value renaming int → O, slice → Y
open Go.IntKind renaming i64 → J
section
open Go.ChangeShapes Go.WideShapes Go.ChangeAt Go.RowKit Go.Joins Go.Deep Go.Sort
variable {Xb:Ex}
set_option maxHeartbeats 3200000 in
theorem b4t(M:Mm)(f:Fr)(t:Int)(B lo:Nat)(aS aH aF aL:Option Addr)(cS cH cF cL:Nat)(aK:Option Addr)(cK:Nat)(w:World)
  (m:Mine Xb w B lo aS aH aF aL cS cH cF cL M) (hM:Ok M) (hf:Fit M f) (r:Ag w aK cK f.keys) (hz:∀ ad,aK=some ad->¬ A8 B aS aH aF aL ad.block) :
  Calls Tryz.prog 181 #[.pointer (some ⟨B,0,none⟩),.agg #[O J f.c.kind,O J f.c.a,O J f.c.b,O J f.c.time,O J f.c.bk,O J f.c.slot,O J f.pl,O J f.cur,O J f.prev,O J f.slot,O J f.n,Y aK f.keys.length cK,.bool f.done,O J f.e],O J t] w fun e w'=>Ret w w' e (Fh M f) aK cK/\Has Xb w' B lo (Up w (A8 B aS aH aF aL)) (Dz M f t)/\Fine w w' (A8 B aS aH aF aL):=by
 have hns:=hM.ns
 have hnh:=hM.nh.2
 have hcur:=hf.cur.2
 have hc1:f.cur<=1000:=by omega
 have hn1:M.slots.length<=1000:=by omega
 have HOk:Hid (Ok M):=hM
 have HR:Hid (Ag w aK cK f.keys):=r
 obtain⟨b0,b1⟩:=Ej hM hf.call
 obtain⟨b,hb⟩:∃ b:Nat,G7 M.heads.length f.c=b:=⟨_,(Int.toNat_of_nonneg b0).symm⟩
 have hbl:b<M.heads.length:=by omega
 have hbn:bkN M f=b:=by unfold bkN;rw[hb];rfl
 have HBk:Hid (∀ W:World,Lk Xb w W B lo aS aH aF aL cS cH cF cL M f aK cK->Calls Tryz.prog 34 #[.agg #[Y aS M.slots.length cS,Y aH M.heads.length cH,Y aF M.free.length cF,Y aL M.locks.length cL,O J M.now],.agg #[O J f.c.kind,O J f.c.a,O J f.c.b,O J f.c.time,O J f.c.bk,O J f.c.slot]] W fun e w'=>e=.returned (O J (b:Int))/\Lk Xb w w' B lo aS aH aF aL cS cH cF cL M f aK cK):=fun W h=>(hb ▸ Dk _ _ _ _ _ _ _ _ cS cH cF cL M.now f.c W (by omega):Calls Tryz.prog 34 _ W fun e w'=>e=.returned (O J (b:Int))/\Below W.heap.size W w').mono (fun e w' h'=>⟨h'.1,h.below h'.2⟩)
 have HLk:Hid (∀ W:World,Lk Xb w W B lo aS aH aF aL cS cH cF cL M f aK cK->Calls Tryz.prog 205 #[.pointer (some ⟨B,0,none⟩),O J (b:Int),O J t] W fun e w'=>e=.returned (.bool (Ak M b == -1))/\Lk2 Xb w w' (A8 B aS aH aF aL) B lo (N8 M b t) f aK cK):=fun W h=>(Uc t ⟨_,_,_,_,_,_,_,_,h.m,fun _ h=>h⟩ HOk.out hbl).mono (fun e w' h'=>⟨h'.1,h.after h'.2.1 h'.2.2⟩)
 have hres:Fh M f=if Ak M b=-1 then toF f 1 else f:=by unfold Fh;rw[hbn]
 have hresM:Dz M f t=N8 M b t:=by unfold Dz N8;rw[hbn]
 rw[hres,hresM]
 generalize N8 M b t=M' at *
 cases hl:(Ak M b == -1)
 ·rw[if_neg (by simpa using hl)]
  rw[hl] at HLk
  have HZ:Hid (∀ ad,aK=some ad->¬ (A8 B aS aH aF aL) ad.block):=hz
  obtain⟨of,hof⟩:=frObj f aK cK
  obtain⟨oz,hoz⟩:∃ o:Obj,o=Ac:=⟨_,rfl⟩
  have HE:Hid (Lk Xb w ((w.alloc of).alloc oz) B lo aS aH aF aL cS cH cF cL M f aK cK):=Lk.first m f aK cK hof hoz
  obtain⟨q0,q1,q2,q3,q4,-,-,-,-,-,qs⟩:=Aj HE.out.m.box
  obtain⟨f0,f1,f2,f3,f4,f5,f6,f7,f8,f9,f10,f11,f12,f13,ff,fs⟩:=Aa HE.out.fb
  unfold Ac at hoz
  clear m hc1 hn1 hcur hns hnh hM hf r hz hl hres hresM hbn hb b0 b1
  go_enter Tryz.func181,Tryz.ntmps181
  go_wp2_with fail
  rw[<- hof,<- hoz]
  generalize (w.alloc of).alloc oz=W0 at *
  subst hof hoz
  go_region_with (first|(go_at_call 34;refine(HBk.out _ (by exact HE.out.below ⟨rfl,rfl,rfl,Nat.le_refl _,fun _ _=>rfl⟩)).mono ?_;rintro e w1 ⟨rfl,h9⟩;have HE1:Hid (Lk Xb w w1 B lo aS aH aF aL cS cH cF cL M f aK cK):=h9;clear HE h9)|(go_at_call 205;refine(HLk.out _ (by exact HE1.out.below ⟨rfl,rfl,rfl,Nat.le_refl _,fun _ _=>rfl⟩)).mono ?_;rintro e w2 ⟨rfl,h9⟩;have HE2:Hid (Lk2 Xb w w2 (A8 B aS aH aF aL) B lo M' f aK cK):=h9;clear HE1 h9))
  all_goals
   clear q0 q1 q2 q3 q4 qs
   clear f0 f1 f2 f3 f4 f5 f6 f7 f8 f9 f10 f11 f12 f13 ff fs
   obtain⟨f0,f1,f2,f3,f4,f5,f6,f7,f8,f9,f10,f11,f12,f13,ff,fs⟩:=Aa HE2.out.fb
   obtain⟨g0,g1,g2,g3,g4,g5,g6,g7,g8,g9,g10,g11,g12,g13,gf,gs⟩:=Aa HE2.out.zb
   go_wp2
   refine bodyPost_ret (v:=.agg #[O J f.c.kind,O J f.c.a,O J f.c.b,O J f.c.time,O J f.c.bk,O J f.c.slot,O J f.pl,O J f.cur,O J f.prev,O J f.slot,O J f.n,Y aK f.keys.length cK,.bool f.done,O J f.e]) (by simp[results,Tryz.results181,go_sem,g0,g1,g2,g3,g4,g5,g6,g7,g8,g9,g10,g11,g12,g13]) rfl ⟨⟨aK,cK,rfl,HR.out.fine HE2.out.Ah.2 HZ.out,(fun ad h=>.inl h),fun _=>⟨rfl,rfl⟩⟩,HE2.out.Ah⟩
 ·rw[if_pos (by simpa using hl)]
  rw[hl] at HLk
  have HZ:Hid (∀ ad,aK=some ad->¬ (A8 B aS aH aF aL) ad.block):=hz
  obtain⟨of,hof⟩:=frObj f aK cK
  obtain⟨oz,hoz⟩:∃ o:Obj,o=Ac:=⟨_,rfl⟩
  have HE:Hid (Lk Xb w ((w.alloc of).alloc oz) B lo aS aH aF aL cS cH cF cL M f aK cK):=Lk.first m f aK cK hof hoz
  obtain⟨q0,q1,q2,q3,q4,-,-,-,-,-,qs⟩:=Aj HE.out.m.box
  obtain⟨f0,f1,f2,f3,f4,f5,f6,f7,f8,f9,f10,f11,f12,f13,ff,fs⟩:=Aa HE.out.fb
  unfold Ac at hoz
  clear m hc1 hn1 hcur hns hnh hM hf r hz hl hres hresM hbn hb b0 b1
  go_enter Tryz.func181,Tryz.ntmps181
  go_wp2_with fail
  rw[<- hof,<- hoz]
  generalize (w.alloc of).alloc oz=W0 at *
  subst hof hoz
  go_region_with (first|(go_at_call 34;refine(HBk.out _ (by exact HE.out.below ⟨rfl,rfl,rfl,Nat.le_refl _,fun _ _=>rfl⟩)).mono ?_;rintro e w1 ⟨rfl,h9⟩;have HE1:Hid (Lk Xb w w1 B lo aS aH aF aL cS cH cF cL M f aK cK):=h9;clear HE h9)|(go_at_call 205;refine(HLk.out _ (by exact HE1.out.below ⟨rfl,rfl,rfl,Nat.le_refl _,fun _ _=>rfl⟩)).mono ?_;rintro e w2 ⟨rfl,h9⟩;have HE2:Hid (Lk2 Xb w w2 (A8 B aS aH aF aL) B lo M' f aK cK):=h9;clear HE1 h9))
  all_goals
   clear q0 q1 q2 q3 q4 qs
   clear f0 f1 f2 f3 f4 f5 f6 f7 f8 f9 f10 f11 f12 f13 ff fs
   obtain⟨f0,f1,f2,f3,f4,f5,f6,f7,f8,f9,f10,f11,f12,f13,ff,fs⟩:=Aa HE2.out.fb
   go_wp2_with fail
   refine(Cc f 1 aK cK _).mono ?_
   rintro e w9 ⟨rfl,hb9⟩
   have HE9:Hid (Lk2 Xb w w9 (A8 B aS aH aF aL) B lo M' f aK cK):=HE2.out.below hb9
   clear HE2 hb9
   clear f0 f1 f2 f3 f4 f5 f6 f7 f8 f9 f10 f11 f12 f13 ff fs
   obtain⟨g0,g1,g2,g3,g4,g5,g6,g7,g8,g9,g10,g11,g12,g13,gf,gs⟩:=Aa HE9.out.zb
   go_wp2
   refine bodyPost_ret (v:=.agg #[O J (toF f 1).c.kind,O J (toF f 1).c.a,O J (toF f 1).c.b,O J (toF f 1).c.time,O J (toF f 1).c.bk,O J (toF f 1).c.slot,O J (toF f 1).pl,O J (toF f 1).cur,O J (toF f 1).prev,O J (toF f 1).slot,O J (toF f 1).n,Y aK (toF f 1).keys.length cK,.bool (toF f 1).done,O J (toF f 1).e]) (by simp[results,Tryz.results181,go_sem,toF,g0,g1,g2,g3,g4,g5,g6,g7,g8,g9,g10,g11,g12,g13]) rfl ⟨⟨aK,cK,rfl,HR.out.fine HE9.out.Ah.2 HZ.out,(fun ad h=>.inl h),fun _=>⟨rfl,rfl⟩⟩,HE9.out.Ah⟩
set_option maxHeartbeats 3200000 in
theorem a6i(M:Mm)(f:Fr)(t:Int)(B lo:Nat)(aS aH aF aL:Option Addr)(cS cH cF cL:Nat)(aK:Option Addr)(cK:Nat)(w:World)
  (m:Mine Xb w B lo aS aH aF aL cS cH cF cL M) (hM:Ok M) (hf:Fit M f) (r:Ag w aK cK f.keys) (hz:∀ ad,aK=some ad->¬ A8 B aS aH aF aL ad.block) :
  Calls Tryz.prog 186 #[.pointer (some ⟨B,0,none⟩),.agg #[O J f.c.kind,O J f.c.a,O J f.c.b,O J f.c.time,O J f.c.bk,O J f.c.slot,O J f.pl,O J f.cur,O J f.prev,O J f.slot,O J f.n,Y aK f.keys.length cK,.bool f.done,O J f.e],O J t] w fun e w'=>Ret w w' e (toF f 6) aK cK/\Has Xb w' B lo (Up w (A8 B aS aH aF aL)) (Du M f t)/\Fine w w' (A8 B aS aH aF aL):=by
 have hns:=hM.ns
 have hnh:=hM.nh.2
 have hcur:=hf.cur.2
 have hc1:f.cur<=1000:=by omega
 have hn1:M.slots.length<=1000:=by omega
 have HOk:Hid (Ok M):=hM
 have HR:Hid (Ag w aK cK f.keys):=r
 obtain⟨b0,b1⟩:=Ej hM hf.call
 obtain⟨b,hb⟩:∃ b:Nat,G7 M.heads.length f.c=b:=⟨_,(Int.toNat_of_nonneg b0).symm⟩
 have hbl:b<M.heads.length:=by omega
 have hbn:bkN M f=b:=by unfold bkN;rw[hb];rfl
 have HBk:Hid (∀ W:World,Lk Xb w W B lo aS aH aF aL cS cH cF cL M f aK cK->Calls Tryz.prog 34 #[.agg #[Y aS M.slots.length cS,Y aH M.heads.length cH,Y aF M.free.length cF,Y aL M.locks.length cL,O J M.now],.agg #[O J f.c.kind,O J f.c.a,O J f.c.b,O J f.c.time,O J f.c.bk,O J f.c.slot]] W fun e w'=>e=.returned (O J (b:Int))/\Lk Xb w w' B lo aS aH aF aL cS cH cF cL M f aK cK):=fun W h=>(hb ▸ Dk _ _ _ _ _ _ _ _ cS cH cF cL M.now f.c W (by omega):Calls Tryz.prog 34 _ W fun e w'=>e=.returned (O J (b:Int))/\Below W.heap.size W w').mono (fun e w' h'=>⟨h'.1,h.below h'.2⟩)
 have HLk:Hid (∀ W:World,Lk Xb w W B lo aS aH aF aL cS cH cF cL M f aK cK->Calls Tryz.prog 207 #[.pointer (some ⟨B,0,none⟩),O J (b:Int),O J t] W fun e w'=>e=.returned (.tuple #[])/\Lk2 Xb w w' (A8 B aS aH aF aL) B lo (N9 M b t) f aK cK):=fun W h=>(Pm t ⟨_,_,_,_,_,_,_,_,h.m,fun _ h=>h⟩ HOk.out hbl).mono (fun e w' h'=>⟨h'.1,h.after h'.2.1 h'.2.2⟩)
 have hresM:Du M f t=N9 M b t:=by unfold Du N9;rw[hbn]
 rw[hresM]
 generalize N9 M b t=M' at *
 have HZ:Hid (∀ ad,aK=some ad->¬ (A8 B aS aH aF aL) ad.block):=hz
 obtain⟨of,hof⟩:=frObj f aK cK
 obtain⟨oz,hoz⟩:∃ o:Obj,o=Ac:=⟨_,rfl⟩
 have HE:Hid (Lk Xb w ((w.alloc of).alloc oz) B lo aS aH aF aL cS cH cF cL M f aK cK):=Lk.first m f aK cK hof hoz
 obtain⟨q0,q1,q2,q3,q4,-,-,-,-,-,qs⟩:=Aj HE.out.m.box
 obtain⟨f0,f1,f2,f3,f4,f5,f6,f7,f8,f9,f10,f11,f12,f13,ff,fs⟩:=Aa HE.out.fb
 unfold Ac at hoz
 clear m hc1 hn1 hcur hns hnh hM hf r hz hresM hbn hb b0 b1
 go_enter Tryz.func186,Tryz.ntmps186
 go_wp2_with fail
 rw[<- hof,<- hoz]
 generalize (w.alloc of).alloc oz=W0 at *
 subst hof hoz
 go_region_with (first|(go_at_call 34;refine(HBk.out _ (by exact HE.out.below ⟨rfl,rfl,rfl,Nat.le_refl _,fun _ _=>rfl⟩)).mono ?_;rintro e w1 ⟨rfl,h9⟩;have HE1:Hid (Lk Xb w w1 B lo aS aH aF aL cS cH cF cL M f aK cK):=h9;clear HE h9)|(go_at_call 207;refine(HLk.out _ (by exact HE1.out.below ⟨rfl,rfl,rfl,Nat.le_refl _,fun _ _=>rfl⟩)).mono ?_;rintro e w2 ⟨rfl,h9⟩;have HE2:Hid (Lk2 Xb w w2 (A8 B aS aH aF aL) B lo M' f aK cK):=h9;clear HE1 h9))
 all_goals
  clear q0 q1 q2 q3 q4 qs
  clear f0 f1 f2 f3 f4 f5 f6 f7 f8 f9 f10 f11 f12 f13 ff fs
  obtain⟨f0,f1,f2,f3,f4,f5,f6,f7,f8,f9,f10,f11,f12,f13,ff,fs⟩:=Aa HE2.out.fb
  go_wp2_with fail
  refine(Cc f 6 aK cK _).mono ?_
  rintro e w9 ⟨rfl,hb9⟩
  have HE9:Hid (Lk2 Xb w w9 (A8 B aS aH aF aL) B lo M' f aK cK):=HE2.out.below hb9
  clear HE2 hb9
  clear f0 f1 f2 f3 f4 f5 f6 f7 f8 f9 f10 f11 f12 f13 ff fs
  obtain⟨g0,g1,g2,g3,g4,g5,g6,g7,g8,g9,g10,g11,g12,g13,gf,gs⟩:=Aa HE9.out.zb
  go_wp2
  refine bodyPost_ret (v:=.agg #[O J (toF f 6).c.kind,O J (toF f 6).c.a,O J (toF f 6).c.b,O J (toF f 6).c.time,O J (toF f 6).c.bk,O J (toF f 6).c.slot,O J (toF f 6).pl,O J (toF f 6).cur,O J (toF f 6).prev,O J (toF f 6).slot,O J (toF f 6).n,Y aK (toF f 6).keys.length cK,.bool (toF f 6).done,O J (toF f 6).e]) (by simp[results,Tryz.results186,go_sem,toF,g0,g1,g2,g3,g4,g5,g6,g7,g8,g9,g10,g11,g12,g13]) rfl ⟨⟨aK,cK,rfl,HR.out.fine HE9.out.Ah.2 HZ.out,(fun ad h=>.inl h),fun _=>⟨rfl,rfl⟩⟩,HE9.out.Ah⟩
end
end Go.Proofs.YthhgoenomehobaaGreat.mm
