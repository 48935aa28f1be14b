/- Parts. -/
import Derived.Test.YthhgoenomehobaaGreatP14
import Derived.Test.YthhgoenomehobaaGreatP13
import Derived.Test.YthhgoenomehobaaGreatP08
namespace Go.Proofs.YthhgoenomehobaaGreat.mm
set_option maxRecDepth 100000
set_option linter.unusedVariables false
open Go.Value renaming int → O, slice → Y
open Go.IntKind renaming i64 → J
open Go.Proofs.Tryz renaming prog → Pg
open Go renaming World → Wq
open Go.ChangeShapes Go.WideShapes Go.ChangeAt Go.RowKit Go.Joins Go.Deep Go.Sort
set_option maxHeartbeats 3200000
section
variable {Xb:Ex}
theorem a6s(M:Mm)(f:Fr)(B lo:Nat)(aS aH aF aL:Option Addr)(cS cH cF cL:Nat)(aK:Option Addr)(cK:Nat)(w:Wq)
  (m:Mine Xb w B lo aS aH aF aL cS cH cF cL M) (hM:Ok M) (hf:Fit M f) (r:Am w aK cK f.keys) (hz:∀ ad,aK=some ad->¬ Ac B aS aH aF aL ad.block) (hk:f.c.kind=2) (hF:M.free.length=0) :
  Calls Pg 172 #[.pointer (some ⟨B,0,none⟩),.agg #[O J f.c.kind,O J f.c.a,O J f.c.b,O J f.c.time,O J f.c.bk,O J f.c.slot,O J f.pl,O J f.cur,O J f.prev,O J f.slot,O J f.n,Y aK f.keys.length cK,.bool f.done,O J f.e]] w fun e w'=>Ret w w' e (Jf M f) aK cK/\Has Xb w' B lo (Up w (Ac B aS aH aF aL)) (Iy M f)/\Fine w w' (Ac B aS aH aF aL):=by
 have hns:=hM.ns
 have hnh:=hM.nh.2
 have hcur:=hf.cur.2
 have hc1:f.cur<=1000:=by omega
 have hn1:M.slots.length<=1000:=by omega
 have HOk:Hid (Ok M):=hM
 have HR:Hid (Am w aK cK f.keys):=r
 obtain⟨k1,k2,k3⟩:=Uf hk hf.call
 have hnow:=hM.now
 have hun:a6j M f=M.now+f.c.time:=by unfold a6j;rw[if_neg (by omega)]
 have HUn:Hid (∀ W:Wq,Calls Pg 204 #[O J M.now,O J f.c.time] W fun e w'=>e=.returned (O J (M.now+f.c.time))/\W=w'):=fun W=>Xu _ _ W hnow.1 hnow.2 k2 k3
 have hres:Jf M f=Ag f 7:=by unfold Jf;rw[if_pos hF]
 have hresM:Iy M f=M:=by unfold Iy;rw[if_pos hF]
 rw[hres,hresM]
 have HTk:Hid (∀ W:Wq,Lk Xb w W B lo aS aH aF aL cS cH cF cL M f aK cK->Calls Pg 203 #[.pointer (some ⟨B,0,none⟩),.agg #[O J f.c.a,O J f.c.b],O J (M.now+f.c.time)] W fun e w'=>e=.returned (.tuple #[O J 0,.bool false])/\Lk2 Xb w w' (Ac B aS aH aF aL) B lo M f aK cK):=fun W h=>(a6f (Z:=Ac B aS aH aF aL) (lo:=lo) (M:=M) ⟨_,_,_,_,_,_,_,_,h.m,fun _ h=>h⟩ hF).mono (fun e w' h'=>⟨h'.1,(h.below h'.2).two⟩)
 have HZ:Hid (∀ ad,aK=some ad->¬ (Ac B aS aH aF aL) ad.block):=hz
 obtain⟨of,hof⟩:=frObj f aK cK
 obtain⟨oz,hoz⟩:∃ o:Obj,o=Ae:=⟨_,rfl⟩
 have HE:Hid (Lk Xb w ((w.alloc of).alloc oz) B lo aS aH aF aL cS cH cF cL M f aK cK):=Lk.first m f aK cK hof hoz
 obtain⟨q0,q1,q2,q3,q4,-,-,-,-,-,qs⟩:=Af HE.out.m.box
 obtain⟨f0,f1,f2,f3,f4,f5,f6,f7,f8,f9,f10,f11,f12,f13,ff,fs⟩:=A8 HE.out.fb
 unfold Ae at hoz
 clear m hc1 hn1 hcur hns hnh hM hf r hz hres hresM hF hun hnow k1 k2 k3 hk
 go_enter Tryz.func172,Tryz.ntmps172
 go_wp2_with fail
 rw[<- hof,<- hoz]
 generalize (w.alloc of).alloc oz=W0 at *
 subst hof hoz
 rename_i K0 hK0
 apply En (R:=fun a=>∀ W2:Wq,Lk2 Xb w W2 (Ac B aS aH aF aL) B lo M f aK cK->K0 a W2)
 ·intro tail0
  have tail:Hid _:=tail0
  clear tail0
  go_region_with (first|(go_at_call 204;refine(HUn.out _).mono ?_;rintro e w3 ⟨rfl,rfl⟩)|(go_at_call 203;refine(HTk.out _ (by exact HE.out.below ⟨rfl,rfl,rfl,Nat.le_refl _,fun _ _=>rfl⟩)).mono ?_;rintro e w2 ⟨rfl,h9⟩;have HE2:Hid (Lk2 Xb w w2 (Ac B aS aH aF aL) B lo M f aK cK):=h9;clear h9))
  all_goals exact tail.out _ HE2.out
 ·intro w2 h2
  refine hK0 _ _ ?_
  have HE2:Hid (Lk2 Xb w w2 (Ac B aS aH aF aL) B lo M f aK cK):=h2
  clear h2 HE hK0
  clear q0 q1 q2 q3 q4 qs
  clear f0 f1 f2 f3 f4 f5 f6 f7 f8 f9 f10 f11 f12 f13 ff fs
  obtain⟨f0,f1,f2,f3,f4,f5,f6,f7,f8,f9,f10,f11,f12,f13,ff,fs⟩:=A8 HE2.out.fb
  go_wp2_with fail
  refine(a7k f 7 aK cK _ (HR.out.fine HE2.out.fine HZ.out)).mono ?_
  rintro e w9 ⟨a9,c9,rfl,hr9,hi9,hb9⟩
  have HK9:Hid (Am w9 a9 c9 f.keys/\∀ ad,a9=some ad->w.heap.size+2<=ad.block):=⟨hr9,fun ad h=>Nat.le_trans (lt_of_block HE2.out.zb) (hi9 ad h)⟩
  have HE9:Hid (Lk2 Xb w w9 (Ac B aS aH aF aL) B lo M f aK cK):=HE2.out.below hb9
  clear HE2 hb9 hr9 hi9
  clear f0 f1 f2 f3 f4 f5 f6 f7 f8 f9 f10 f11 f12 f13 ff fs
  obtain⟨g0,g1,g2,g3,g4,g5,g6,g7,g8,g9,g10,g11,g12,g13,gf,gs⟩:=A8 HE9.out.zb
  go_wp2
  refine bodyPost_ret (v:=.agg #[O J (Ag f 7).c.kind,O J (Ag f 7).c.a,O J (Ag f 7).c.b,O J (Ag f 7).c.time,O J (Ag f 7).c.bk,O J (Ag f 7).c.slot,O J (Ag f 7).pl,O J (Ag f 7).cur,O J (Ag f 7).prev,O J (Ag f 7).slot,O J (Ag f 7).n,Y a9 (Ag f 7).keys.length c9,.bool (Ag f 7).done,O J (Ag f 7).e]) (by simp[results,Tryz.results172,go_sem,Ag,g0,g1,g2,g3,g4,g5,g6,g7,g8,g9,g10,g11,g12,g13]) rfl ⟨⟨a9,c9,rfl,b3n HK9.out.1 HK9.out.2,(fun ad h=>.inr (by have:=HK9.out.2 ad h;omega)),fun h=>by cases h⟩,HE9.out.D7⟩
end
section
variable {Xb:Ex}
theorem a6t(M:Mm)(f:Fr)(B lo:Nat)(aS aH aF aL:Option Addr)(cS cH cF cL:Nat)(aK:Option Addr)(cK:Nat)(w:Wq)
  (m:Mine Xb w B lo aS aH aF aL cS cH cF cL M) (hM:Ok M) (hf:Fit M f) (r:Am w aK cK f.keys) (hz:∀ ad,aK=some ad->¬ Ac B aS aH aF aL ad.block) (hk:f.c.kind=2) (hF:¬ M.free.length=0) :
  Calls Pg 172 #[.pointer (some ⟨B,0,none⟩),.agg #[O J f.c.kind,O J f.c.a,O J f.c.b,O J f.c.time,O J f.c.bk,O J f.c.slot,O J f.pl,O J f.cur,O J f.prev,O J f.slot,O J f.n,Y aK f.keys.length cK,.bool f.done,O J f.e]] w fun e w'=>Ret w w' e (Jf M f) aK cK/\Has Xb w' B lo (Up w (Ac B aS aH aF aL)) (Iy M f)/\Fine w w' (Ac B aS aH aF aL):=by
 have hns:=hM.ns
 have hnh:=hM.nh.2
 have hcur:=hf.cur.2
 have hc1:f.cur<=1000:=by omega
 have hn1:M.slots.length<=1000:=by omega
 have HOk:Hid (Ok M):=hM
 have HR:Hid (Am w aK cK f.keys):=r
 obtain⟨k1,k2,k3⟩:=Uf hk hf.call
 have hnow:=hM.now
 have hun:a6j M f=M.now+f.c.time:=by unfold a6j;rw[if_neg (by omega)]
 have HUn:Hid (∀ W:Wq,Calls Pg 204 #[O J M.now,O J f.c.time] W fun e w'=>e=.returned (O J (M.now+f.c.time))/\W=w'):=fun W=>Xu _ _ W hnow.1 hnow.2 k2 k3
 have hF':0<M.free.length:=by omega
 have hres:Jf M f=Fp f (G8 M) 1:=by unfold Jf;rw[if_neg hF]
 have hresM:Iy M f=Oa M f.c.a f.c.b (M.now+f.c.time):=by unfold Iy;rw[if_neg hF,hun]
 rw[hres,hresM]
 have HTk:Hid (∀ W:Wq,Lk Xb w W B lo aS aH aF aL cS cH cF cL M f aK cK->Calls Pg 203 #[.pointer (some ⟨B,0,none⟩),.agg #[O J f.c.a,O J f.c.b],O J (M.now+f.c.time)] W fun e w'=>e=.returned (.tuple #[O J (G8 M),.bool true])/\Lk2 Xb w w' (Ac B aS aH aF aL) B lo (Oa M f.c.a f.c.b (M.now+f.c.time)) f aK cK):=fun W h=>(a6e ⟨_,_,_,_,_,_,_,_,h.m,fun _ h=>h⟩ HOk.out hF').mono (fun e w' h'=>⟨h'.1,h.after h'.2.1 h'.2.2⟩)
 generalize Oa M f.c.a f.c.b (M.now+f.c.time)=M' at *
 generalize G8 M=la at *
 have HZ:Hid (∀ ad,aK=some ad->¬ (Ac B aS aH aF aL) ad.block):=hz
 obtain⟨of,hof⟩:=frObj f aK cK
 obtain⟨oz,hoz⟩:∃ o:Obj,o=Ae:=⟨_,rfl⟩
 have HE:Hid (Lk Xb w ((w.alloc of).alloc oz) B lo aS aH aF aL cS cH cF cL M f aK cK):=Lk.first m f aK cK hof hoz
 obtain⟨q0,q1,q2,q3,q4,-,-,-,-,-,qs⟩:=Af HE.out.m.box
 obtain⟨f0,f1,f2,f3,f4,f5,f6,f7,f8,f9,f10,f11,f12,f13,ff,fs⟩:=A8 HE.out.fb
 unfold Ae at hoz
 clear m hc1 hn1 hcur hns hnh hM hf r hz hres hresM hF hF' hun hnow k1 k2 k3 hk
 go_enter Tryz.func172,Tryz.ntmps172
 go_wp2_with fail
 rw[<- hof,<- hoz]
 generalize (w.alloc of).alloc oz=W0 at *
 subst hof hoz
 rename_i K0 hK0
 apply En (R:=fun a=>∀ W2:Wq,Lk2 Xb w W2 (Ac B aS aH aF aL) B lo M' f aK cK->K0 a W2)
 ·intro tail0
  have tail:Hid _:=tail0
  clear tail0
  go_region_with (first|(go_at_call 204;refine(HUn.out _).mono ?_;rintro e w3 ⟨rfl,rfl⟩)|(go_at_call 203;refine(HTk.out _ (by exact HE.out.below ⟨rfl,rfl,rfl,Nat.le_refl _,fun _ _=>rfl⟩)).mono ?_;rintro e w2 ⟨rfl,h9⟩;have HE2:Hid (Lk2 Xb w w2 (Ac B aS aH aF aL) B lo M' f aK cK):=h9;clear h9))
  all_goals exact tail.out _ HE2.out
 ·intro w2 h2
  refine hK0 _ _ ?_
  have HE2:Hid (Lk2 Xb w w2 (Ac B aS aH aF aL) B lo M' f aK cK):=h2
  clear h2 HE hK0
  clear q0 q1 q2 q3 q4 qs
  clear f0 f1 f2 f3 f4 f5 f6 f7 f8 f9 f10 f11 f12 f13 ff fs
  obtain⟨f0,f1,f2,f3,f4,f5,f6,f7,f8,f9,f10,f11,f12,f13,ff,fs⟩:=A8 HE2.out.fb
  go_wp2_with fail
  have HE3:Hid (Lk2 Xb w _ (Ac B aS aH aF aL) B lo M' { f with slot:=la } aK cK):=HE2.out.store 9 (O J la) { f with slot:=la } rfl
  clear HE2
  refine(Gn { f with slot:=la } 1 aK cK _).mono ?_
  rintro e w9 ⟨rfl,hb9⟩
  have HE9:Hid (Lk2 Xb w w9 (Ac B aS aH aF aL) B lo M' { f with slot:=la } aK cK):=HE3.out.below hb9
  clear HE3 hb9
  clear f0 f1 f2 f3 f4 f5 f6 f7 f8 f9 f10 f11 f12 f13 ff fs
  obtain⟨g0,g1,g2,g3,g4,g5,g6,g7,g8,g9,g10,g11,g12,g13,gf,gs⟩:=A8 HE9.out.zb
  go_wp2
  refine bodyPost_ret (v:=.agg #[O J (Fp f la 1).c.kind,O J (Fp f la 1).c.a,O J (Fp f la 1).c.b,O J (Fp f la 1).c.time,O J (Fp f la 1).c.bk,O J (Fp f la 1).c.slot,O J (Fp f la 1).pl,O J (Fp f la 1).cur,O J (Fp f la 1).prev,O J (Fp f la 1).slot,O J (Fp f la 1).n,Y aK (Fp f la 1).keys.length cK,.bool (Fp f la 1).done,O J (Fp f la 1).e]) (by simp[results,Tryz.results172,go_sem,Fp,toF,g0,g1,g2,g3,g4,g5,g6,g7,g8,g9,g10,g11,g12,g13]) rfl ⟨⟨aK,cK,rfl,HR.out.fine HE9.out.D7.2 HZ.out,(fun ad h=>.inl h),fun _=>⟨rfl,rfl⟩⟩,HE9.out.D7⟩
end
end Go.Proofs.YthhgoenomehobaaGreat.mm
