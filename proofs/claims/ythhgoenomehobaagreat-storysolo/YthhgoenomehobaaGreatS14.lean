/- Parts. -/
import Derived.Test.YthhgoenomehobaaGreatS09
import Derived.Test.YthhgoenomehobaaGreatS10
import Derived.Test.YthhgoenomehobaaGreatS06
namespace Go.Proofs.YthhgoenomehobaaGreat.mm
set_option maxRecDepth 100000
set_option linter.unusedVariables false
open Go.Value renaming int → O, slice → Y
open Go.IntKind renaming i64 → J
section
open Go.ChangeShapes Go.WideShapes Go.ChangeAt Go.RowKit Go.Joins Go.Deep Go.Sort
variable {Xb:Ex}
set_option maxHeartbeats 3200000 in
theorem a9s(M:Mm)(f:Fr)(B lo:Nat)(aS aH aF aL:Option Addr)(cS cH cF cL:Nat)(aK:Option Addr)(cK:Nat)(w:World)
  (m:Mine Xb w B lo aS aH aF aL cS cH cF cL M) (hM:Ok M) (hf:Fit M f) (r:Ag w aK cK f.keys) (hz:∀ ad,aK=some ad->¬ A8 B aS aH aF aL ad.block) (hk:f.c.kind=2) (hF:¬ M.free.length=0) :
  Calls Tryz.prog 172 #[.pointer (some ⟨B,0,none⟩),.agg #[O J f.c.kind,O J f.c.a,O J f.c.b,O J f.c.time,O J f.c.bk,O J f.c.slot,O J f.pl,O J f.cur,O J f.prev,O J f.slot,O J f.n,Y aK f.keys.length cK,.bool f.done,O J f.e]] w fun e w'=>Ret w w' e (Ih M f) aK cK/\Has Xb w' B lo (Up w (A8 B aS aH aF aL)) (Hm M f)/\Fine w w' (A8 B aS aH aF aL):=by
 have hns:=hM.ns
 have hnh:=hM.nh.2
 have hcur:=hf.cur.2
 have hc1:f.cur<=1000:=by omega
 have hn1:M.slots.length<=1000:=by omega
 have HOk:Hid (Ok M):=hM
 have HR:Hid (Ag w aK cK f.keys):=r
 obtain⟨k1,k2,k3⟩:=Zg hk hf.call
 have hnow:=hM.now
 have hun:Zw M f=M.now+f.c.time:=by unfold Zw;rw[if_neg (by omega)]
 have HUn:Hid (∀ W:World,Calls Tryz.prog 204 #[O J M.now,O J f.c.time] W fun e w'=>e=.returned (O J (M.now+f.c.time))/\W=w'):=fun W=>Zb _ _ W hnow.1 hnow.2 k2 k3
 have hF':0<M.free.length:=by omega
 have hres:Ih M f=Ci f (Eo M) 1:=by unfold Ih;rw[if_neg hF]
 have hresM:Hm M f=Hf M f.c.a f.c.b (M.now+f.c.time):=by unfold Hm;rw[if_neg hF,hun]
 rw[hres,hresM]
 have HTk:Hid (∀ W:World,Lk Xb w W B lo aS aH aF aL cS cH cF cL M f aK cK->Calls Tryz.prog 203 #[.pointer (some ⟨B,0,none⟩),.agg #[O J f.c.a,O J f.c.b],O J (M.now+f.c.time)] W fun e w'=>e=.returned (.tuple #[O J (Eo M),.bool true])/\Lk2 Xb w w' (A8 B aS aH aF aL) B lo (Hf M f.c.a f.c.b (M.now+f.c.time)) f aK cK):=fun W h=>(a9b ⟨_,_,_,_,_,_,_,_,h.m,fun _ h=>h⟩ HOk.out hF').mono (fun e w' h'=>⟨h'.1,h.after h'.2.1 h'.2.2⟩)
 generalize Hf M f.c.a f.c.b (M.now+f.c.time)=M' at *
 generalize Eo M=la at *
 have HZ:Hid (∀ ad,aK=some ad->¬ (A8 B aS aH aF aL) ad.block):=hz
 obtain⟨of,hof⟩:=frObj f aK cK
 obtain⟨oz,hoz⟩:∃ o:Obj,o=Ac:=⟨_,rfl⟩
 have HE:Hid (Lk Xb w ((w.alloc of).alloc oz) B lo aS aH aF aL cS cH cF cL M f aK cK):=Lk.first m f aK cK hof hoz
 obtain⟨q0,q1,q2,q3,q4,-,-,-,-,-,qs⟩:=Aj HE.out.m.box
 obtain⟨f0,f1,f2,f3,f4,f5,f6,f7,f8,f9,f10,f11,f12,f13,ff,fs⟩:=Aa HE.out.fb
 unfold Ac at hoz
 clear m hc1 hn1 hcur hns hnh hM hf r hz hres hresM hF hF' hun hnow k1 k2 k3 hk
 go_enter Tryz.func172,Tryz.ntmps172
 go_wp2_with fail
 rw[<- hof,<- hoz]
 generalize (w.alloc of).alloc oz=W0 at *
 subst hof hoz
 rename_i K0 hK0
 apply Ii (R:=fun a=>∀ W2:World,Lk2 Xb w W2 (A8 B aS aH aF aL) B lo M' f aK cK->K0 a W2)
 ·intro tail0
  have tail:Hid _:=tail0
  clear tail0
  go_region_with (first|(go_at_call 204;refine(HUn.out _).mono ?_;rintro e w3 ⟨rfl,rfl⟩)|(go_at_call 203;refine(HTk.out _ (by exact HE.out.below ⟨rfl,rfl,rfl,Nat.le_refl _,fun _ _=>rfl⟩)).mono ?_;rintro e w2 ⟨rfl,h9⟩;have HE2:Hid (Lk2 Xb w w2 (A8 B aS aH aF aL) B lo M' f aK cK):=h9;clear h9))
  all_goals exact tail.out _ HE2.out
 ·intro w2 h2
  refine hK0 _ _ ?_
  have HE2:Hid (Lk2 Xb w w2 (A8 B aS aH aF aL) B lo M' f aK cK):=h2
  clear h2 HE hK0
  clear q0 q1 q2 q3 q4 qs
  clear f0 f1 f2 f3 f4 f5 f6 f7 f8 f9 f10 f11 f12 f13 ff fs
  obtain⟨f0,f1,f2,f3,f4,f5,f6,f7,f8,f9,f10,f11,f12,f13,ff,fs⟩:=Aa HE2.out.fb
  go_wp2_with fail
  have HE3:Hid (Lk2 Xb w _ (A8 B aS aH aF aL) B lo M' { f with slot:=la } aK cK):=HE2.out.store 9 (O J la) { f with slot:=la } rfl
  clear HE2
  refine(Cc { f with slot:=la } 1 aK cK _).mono ?_
  rintro e w9 ⟨rfl,hb9⟩
  have HE9:Hid (Lk2 Xb w w9 (A8 B aS aH aF aL) B lo M' { f with slot:=la } aK cK):=HE3.out.below hb9
  clear HE3 hb9
  clear f0 f1 f2 f3 f4 f5 f6 f7 f8 f9 f10 f11 f12 f13 ff fs
  obtain⟨g0,g1,g2,g3,g4,g5,g6,g7,g8,g9,g10,g11,g12,g13,gf,gs⟩:=Aa HE9.out.zb
  go_wp2
  refine bodyPost_ret (v:=.agg #[O J (Ci f la 1).c.kind,O J (Ci f la 1).c.a,O J (Ci f la 1).c.b,O J (Ci f la 1).c.time,O J (Ci f la 1).c.bk,O J (Ci f la 1).c.slot,O J (Ci f la 1).pl,O J (Ci f la 1).cur,O J (Ci f la 1).prev,O J (Ci f la 1).slot,O J (Ci f la 1).n,Y aK (Ci f la 1).keys.length cK,.bool (Ci f la 1).done,O J (Ci f la 1).e]) (by simp[results,Tryz.results172,go_sem,Ci,toF,g0,g1,g2,g3,g4,g5,g6,g7,g8,g9,g10,g11,g12,g13]) rfl ⟨⟨aK,cK,rfl,HR.out.fine HE9.out.Ah.2 HZ.out,(fun ad h=>.inl h),fun _=>⟨rfl,rfl⟩⟩,HE9.out.Ah⟩
end
end Go.Proofs.YthhgoenomehobaaGreat.mm
