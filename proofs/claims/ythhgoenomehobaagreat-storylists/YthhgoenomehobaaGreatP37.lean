/- Parts. -/
import Derived.Test.YthhgoenomehobaaGreatP26
import Derived.Test.YthhgoenomehobaaGreatP11
import Derived.Test.YthhgoenomehobaaGreatP07
import Derived.Deep.QuietTactic
import Derived.BigQuiet
import Derived.BigRegion
import Derived.Lib.QuietBelow
import Derived.Test.YthhgoenomehobaaGreatP30
import Derived.Test.YthhgoenomehobaaGreatP31
import Derived.Test.YthhgoenomehobaaGreatP32
import Derived.Test.YthhgoenomehobaaGreatP33
import Derived.Test.YthhgoenomehobaaGreatP35
import Derived.Test.YthhgoenomehobaaGreatP36
namespace Go.Proofs.YthhgoenomehobaaGreat.mm
set_option maxRecDepth 100000
set_option linter.unusedVariables false
open Go.Value renaming int → O, slice → Y
open Go.IntKind renaming i64 → J
section
open Go.ChangeShapes Go.WideShapes Go.ChangeAt Go.RowKit Go.Joins Go.Deep Go.Sort
variable {Xb:Ex}
set_option maxHeartbeats 3200000 in
theorem sw_put(M:Mm)(f:Fr)(B lo:Nat)(aS aH aF aL:Option Addr)(cS cH cF cL:Nat)(aK:Option Addr)(cK:Nat)(w:World)
  (m:Mine Xb w B lo aS aH aF aL cS cH cF cL M) (hM:Ok M) (hf:Fit M f) (r:KRow w aK cK f.keys) (hz:∀ ad,aK=some ad->¬ Foot B aS aH aF aL ad.block) :
  Calls Tryz.prog 194 #[.pointer (some ⟨B,0,none⟩),.agg #[O J f.c.kind,O J f.c.a,O J f.c.b,O J f.c.time,O J f.c.bk,O J f.c.slot,O J f.pl,O J f.cur,O J f.prev,O J f.slot,O J f.n,Y aK f.keys.length cK,.bool f.done,O J f.e]] w fun e w'=>Ret w w' e (Ii M f) aK cK/\Has Xb w' B lo (Up w (Foot B aS aH aF aL)) (Et M f)/\Fine w w' (Foot B aS aH aF aL):=by
 have hns:=hM.ns
 have hnh:=hM.nh.2
 have hcur:=hf.cur.2
 have hc1:f.cur<=1000:=by omega
 have hn1:M.slots.length<=1000:=by omega
 have HOk:Hid (Ok M):=hM
 have HR:Hid (KRow w aK cK f.keys):=r
 have hnn:0<=f.n/\f.n<=1000000:=by have:=hf.n;rwa [Ag] at this
 cases hsl:isSl M f.slot
 ·obtain⟨g,hg⟩:∃ g,g=letF M f:=⟨_,rfl⟩
  have hlet:letF M f=g:=hg.symm
  have hgf:g=f:=by rw[hg];unfold letF;rw[hsl];rfl
  have hres:Ii M f=toF g 6:=by unfold Ii;rw[hsl,hgf];rfl
  have hkeys:g.keys=f.keys:=by rw[hgf]
  have hresM:Et M f=Bq M f:=rfl
  rw[hres,hresM]
  have HLt:Hid (∀ (W:World),Lk Xb w W B lo aS aH aF aL cS cH cF cL M f aK cK->Calls Tryz.prog 202 #[.pointer (some ⟨B,0,none⟩),.agg #[O J f.c.kind,O J f.c.a,O J f.c.b,O J f.c.time,O J f.c.bk,O J f.c.slot,O J f.pl,O J f.cur,O J f.prev,O J f.slot,O J f.n,Y aK f.keys.length cK,.bool f.done,O J f.e]] W fun e w'=>e=.returned (.tuple #[.agg #[O J g.c.kind,O J g.c.a,O J g.c.b,O J g.c.time,O J g.c.bk,O J g.c.slot,O J g.pl,O J g.cur,O J g.prev,O J g.slot,O J g.n,Y aK g.keys.length cK,.bool g.done,O J g.e],.bool false])/\Lk2 Xb w w' (Foot B aS aH aF aL) B lo (Bq M f) f aK cK):=fun W h=>by
   have:=Gm M f B lo aS aH aF aL cS cH cF cL aK cK W h.m HOk.out
   rw[hlet,hsl] at this
   exact this.mono (fun e w' h'=>⟨h'.1,h.after h'.2.1 h'.2.2⟩)
  generalize Bq M f=M' at *
  rw[<- hkeys] at HR
  have HZ:Hid (∀ ad,aK=some ad->¬ (Foot B aS aH aF aL) ad.block):=hz
  obtain⟨of,hof⟩:=frObj f aK cK
  obtain⟨oz,hoz⟩:∃ o:Obj,o=Ac:=⟨_,rfl⟩
  have HE:Hid (Lk Xb w ((w.alloc of).alloc oz) B lo aS aH aF aL cS cH cF cL M f aK cK):=Lk.first m f aK cK hof hoz
  obtain⟨q0,q1,q2,q3,q4,-,-,-,-,-,qs⟩:=boxf HE.out.m.box
  obtain⟨f0,f1,f2,f3,f4,f5,f6,f7,f8,f9,f10,f11,f12,f13,ff,fs⟩:=A7 HE.out.fb
  unfold Ac at hoz
  clear m hc1 hn1 hcur hns hnh hM hf r hz hresM hlet hg hgf hkeys hsl hnn hres
  go_enter Tryz.func194,Tryz.ntmps194
  go_wp2_with fail
  rw[<- hof,<- hoz]
  generalize (w.alloc of).alloc oz=W0 at *
  subst hof hoz
  clear q0 q1 q2 q3 q4 qs
  clear f0 f1 f2 f3 f4 f5 f6 f7 f8 f9 f10 f11 f12 f13 ff fs
  rename_i K1 hK1 K0 hK0
  have HK1:Hid _:=hK1
  clear hK1
  refine(HLt.out _ (by exact HE.out.below ⟨rfl,rfl,rfl,Nat.le_refl _,fun _ _=>rfl⟩)).mono ?_
  rintro e w2 ⟨rfl,h9⟩
  have HE2:Hid (Lk2 Xb w w2 (Foot B aS aH aF aL) B lo M' f aK cK):=h9
  clear HE h9
  obtain⟨f0,f1,f2,f3,f4,f5,f6,f7,f8,f9,f10,f11,f12,f13,ff,fs⟩:=A7 HE2.out.fb
  go_wp2_with fail
  refine(fun (H:∀ W3:World,Lk2 Xb w W3 (Foot B aS aH aF aL) B lo M' g aK cK->K1 _ W3)=>H _ (HE2.out.all g)) ?_
  clear HE2
  clear f0 f1 f2 f3 f4 f5 f6 f7 f8 f9 f10 f11 f12 f13 ff fs
  intro w3 h3
  have HE3:Hid (Lk2 Xb w w3 (Foot B aS aH aF aL) B lo M' g aK cK):=h3
  clear h3
  refine HK1.out _ _ ?_
  clear HK1
  obtain⟨f0,f1,f2,f3,f4,f5,f6,f7,f8,f9,f10,f11,f12,f13,ff,fs⟩:=A7 HE3.out.fb
  go_wp2_with fail
  refine(Kr g aK cK _).mono ?_
  rintro e w9 ⟨rfl,hb9⟩
  have HE9:Hid (Lk2 Xb w w9 (Foot B aS aH aF aL) B lo M' g aK cK):=HE3.out.below hb9
  clear HE3 hb9
  clear f0 f1 f2 f3 f4 f5 f6 f7 f8 f9 f10 f11 f12 f13 ff fs
  obtain⟨g0,g1,g2,g3,g4,g5,g6,g7,g8,g9,g10,g11,g12,g13,gf,gs⟩:=A7 HE9.out.zb
  go_wp2
  refine bodyPost_ret (v:=.agg #[O J (toF g 6).c.kind,O J (toF g 6).c.a,O J (toF g 6).c.b,O J (toF g 6).c.time,O J (toF g 6).c.bk,O J (toF g 6).c.slot,O J (toF g 6).pl,O J (toF g 6).cur,O J (toF g 6).prev,O J (toF g 6).slot,O J (toF g 6).n,Y aK (toF g 6).keys.length cK,.bool (toF g 6).done,O J (toF g 6).e]) (by simp[results,Tryz.results194,go_sem,toF,g0,g1,g2,g3,g4,g5,g6,g7,g8,g9,g10,g11,g12,g13]) rfl ⟨⟨aK,cK,rfl,HR.out.fine HE9.out.Af.2 HZ.out,(fun ad h=>.inl h),fun _=>⟨rfl,rfl⟩⟩,HE9.out.Af⟩
 ·obtain hA|hA|hA:f.n<999999\/f.n=999999\/f.n=1000000:=by omega
  ·obtain⟨g,hg⟩:∃ g,g=letF M f:=⟨_,rfl⟩
   have hlet:letF M f=g:=hg.symm
   have hgf:g = { f with slot:=-1 }:=by rw[hg];unfold letF;rw[hsl];rfl
   have hkeys:g.keys=f.keys:=by rw[hgf]
   have hgn:g.n=f.n:=by rw[hgf]
   have hres:Ii M f=toF { g with n:=g.n+1 } 2:=by unfold Ii;rw[hsl,if_pos rfl,show (if f.n<1000000 then f.n+1 else f.n)=f.n+1 by split <;> omega];rw[hgn];rw[hgf];rfl
   have hresM:Et M f=Bq M f:=rfl
   rw[hres,hresM]
   have HLt:Hid (∀ (W:World),Lk Xb w W B lo aS aH aF aL cS cH cF cL M f aK cK->Calls Tryz.prog 202 #[.pointer (some ⟨B,0,none⟩),.agg #[O J f.c.kind,O J f.c.a,O J f.c.b,O J f.c.time,O J f.c.bk,O J f.c.slot,O J f.pl,O J f.cur,O J f.prev,O J f.slot,O J f.n,Y aK f.keys.length cK,.bool f.done,O J f.e]] W fun e w'=>e=.returned (.tuple #[.agg #[O J g.c.kind,O J g.c.a,O J g.c.b,O J g.c.time,O J g.c.bk,O J g.c.slot,O J g.pl,O J g.cur,O J g.prev,O J g.slot,O J g.n,Y aK g.keys.length cK,.bool g.done,O J g.e],.bool true])/\Lk2 Xb w w' (Foot B aS aH aF aL) B lo (Bq M f) f aK cK):=fun W h=>by
    have:=Gm M f B lo aS aH aF aL cS cH cF cL aK cK W h.m HOk.out
    rw[hlet,hsl] at this
    exact this.mono (fun e w' h'=>⟨h'.1,h.after h'.2.1 h'.2.2⟩)
   generalize Bq M f=M' at *
   rw[<- hkeys] at HR
   have HG:Hid (0<=g.n/\g.n<999999):=by rw[hgn];exact⟨hnn.1,hA⟩
   have HZ:Hid (∀ ad,aK=some ad->¬ (Foot B aS aH aF aL) ad.block):=hz
   obtain⟨of,hof⟩:=frObj f aK cK
   obtain⟨oz,hoz⟩:∃ o:Obj,o=Ac:=⟨_,rfl⟩
   have HE:Hid (Lk Xb w ((w.alloc of).alloc oz) B lo aS aH aF aL cS cH cF cL M f aK cK):=Lk.first m f aK cK hof hoz
   obtain⟨q0,q1,q2,q3,q4,-,-,-,-,-,qs⟩:=boxf HE.out.m.box
   obtain⟨f0,f1,f2,f3,f4,f5,f6,f7,f8,f9,f10,f11,f12,f13,ff,fs⟩:=A7 HE.out.fb
   unfold Ac at hoz
   clear m hc1 hn1 hcur hns hnh hM hf r hz hresM hlet hg hgf hkeys hsl hnn hres hgn hA
   go_enter Tryz.func194,Tryz.ntmps194
   go_wp2_with fail
   rw[<- hof,<- hoz]
   generalize (w.alloc of).alloc oz=W0 at *
   subst hof hoz
   clear q0 q1 q2 q3 q4 qs
   clear f0 f1 f2 f3 f4 f5 f6 f7 f8 f9 f10 f11 f12 f13 ff fs
   rename_i K1 hK1 K0 hK0
   have HK1:Hid _:=hK1
   clear hK1
   refine(HLt.out _ (by exact HE.out.below ⟨rfl,rfl,rfl,Nat.le_refl _,fun _ _=>rfl⟩)).mono ?_
   rintro e w2 ⟨rfl,h9⟩
   have HE2:Hid (Lk2 Xb w w2 (Foot B aS aH aF aL) B lo M' f aK cK):=h9
   clear HE h9
   obtain⟨f0,f1,f2,f3,f4,f5,f6,f7,f8,f9,f10,f11,f12,f13,ff,fs⟩:=A7 HE2.out.fb
   go_wp2_with fail
   refine(fun (H:∀ W3:World,Lk2 Xb w W3 (Foot B aS aH aF aL) B lo M' g aK cK->K1 _ W3)=>H _ (HE2.out.all g)) ?_
   clear HE2
   clear f0 f1 f2 f3 f4 f5 f6 f7 f8 f9 f10 f11 f12 f13 ff fs
   intro w3 h3
   have HE3:Hid (Lk2 Xb w w3 (Foot B aS aH aF aL) B lo M' g aK cK):=h3
   clear h3
   refine HK1.out _ _ ?_
   clear HK1
   obtain⟨f0,f1,f2,f3,f4,f5,f6,f7,f8,f9,f10,f11,f12,f13,ff,fs⟩:=A7 HE3.out.fb
   obtain⟨hn0,hn1⟩:=HG.out
   have hn2:¬ 999999<g.n:=by omega
   have hn3:¬ 999999<=g.n:=by omega
   have hn4:g.n<=999999:=by omega
   have hw:IntKind.i64.wrap (g.n+1)=g.n+1:=by rw[IntKind.wrap_i64];omega
   go_wp2_with fail
   have HE4:Hid (Lk2 Xb w _ (Foot B aS aH aF aL) B lo M' { g with n:=g.n+1 } aK cK):=HE3.out.store 10 (O J (g.n+1)) { g with n:=g.n+1 } rfl
   clear HE3
   refine(Bf { g with n:=g.n+1 } 2 aK cK _).mono ?_
   rintro e w9 ⟨rfl,hb9⟩
   have HE9:Hid (Lk2 Xb w w9 (Foot B aS aH aF aL) B lo M' { g with n:=g.n+1 } aK cK):=HE4.out.below hb9
   clear HE4 hb9
   clear f0 f1 f2 f3 f4 f5 f6 f7 f8 f9 f10 f11 f12 f13 ff fs
   obtain⟨g0,g1,g2,g3,g4,g5,g6,g7,g8,g9,g10,g11,g12,g13,gf,gs⟩:=A7 HE9.out.zb
   go_wp2
   refine bodyPost_ret (v:=.agg #[O J (toF { g with n:=g.n+1 } 2).c.kind,O J (toF { g with n:=g.n+1 } 2).c.a,O J (toF { g with n:=g.n+1 } 2).c.b,O J (toF { g with n:=g.n+1 } 2).c.time,O J (toF { g with n:=g.n+1 } 2).c.bk,O J (toF { g with n:=g.n+1 } 2).c.slot,O J (toF { g with n:=g.n+1 } 2).pl,O J (toF { g with n:=g.n+1 } 2).cur,O J (toF { g with n:=g.n+1 } 2).prev,O J (toF { g with n:=g.n+1 } 2).slot,O J (toF { g with n:=g.n+1 } 2).n,Y aK (toF { g with n:=g.n+1 } 2).keys.length cK,.bool (toF { g with n:=g.n+1 } 2).done,O J (toF { g with n:=g.n+1 } 2).e]) (by simp[results,Tryz.results194,go_sem,toF,g0,g1,g2,g3,g4,g5,g6,g7,g8,g9,g10,g11,g12,g13]) rfl ⟨⟨aK,cK,rfl,HR.out.fine HE9.out.Af.2 HZ.out,(fun ad h=>.inl h),fun _=>⟨rfl,rfl⟩⟩,HE9.out.Af⟩
  ·obtain⟨g,hg⟩:∃ g,g=letF M f:=⟨_,rfl⟩
   have hlet:letF M f=g:=hg.symm
   have hgf:g = { f with slot:=-1 }:=by rw[hg];unfold letF;rw[hsl];rfl
   have hkeys:g.keys=f.keys:=by rw[hgf]
   have hgn:g.n=f.n:=by rw[hgf]
   have hres:Ii M f=toF { g with n:=1000000 } 2:=by unfold Ii;rw[hsl,if_pos rfl,show (if f.n<1000000 then f.n+1 else f.n)=1000000 by split <;> omega];rw[hgf];rfl
   have hresM:Et M f=Bq M f:=rfl
   rw[hres,hresM]
   have HLt:Hid (∀ (W:World),Lk Xb w W B lo aS aH aF aL cS cH cF cL M f aK cK->Calls Tryz.prog 202 #[.pointer (some ⟨B,0,none⟩),.agg #[O J f.c.kind,O J f.c.a,O J f.c.b,O J f.c.time,O J f.c.bk,O J f.c.slot,O J f.pl,O J f.cur,O J f.prev,O J f.slot,O J f.n,Y aK f.keys.length cK,.bool f.done,O J f.e]] W fun e w'=>e=.returned (.tuple #[.agg #[O J g.c.kind,O J g.c.a,O J g.c.b,O J g.c.time,O J g.c.bk,O J g.c.slot,O J g.pl,O J g.cur,O J g.prev,O J g.slot,O J g.n,Y aK g.keys.length cK,.bool g.done,O J g.e],.bool true])/\Lk2 Xb w w' (Foot B aS aH aF aL) B lo (Bq M f) f aK cK):=fun W h=>by
    have:=Gm M f B lo aS aH aF aL cS cH cF cL aK cK W h.m HOk.out
    rw[hlet,hsl] at this
    exact this.mono (fun e w' h'=>⟨h'.1,h.after h'.2.1 h'.2.2⟩)
   generalize Bq M f=M' at *
   rw[<- hkeys] at HR
   have HG:Hid (0<=g.n/\g.n=999999):=by rw[hgn];exact⟨hnn.1,hA⟩
   have HZ:Hid (∀ ad,aK=some ad->¬ (Foot B aS aH aF aL) ad.block):=hz
   obtain⟨of,hof⟩:=frObj f aK cK
   obtain⟨oz,hoz⟩:∃ o:Obj,o=Ac:=⟨_,rfl⟩
   have HE:Hid (Lk Xb w ((w.alloc of).alloc oz) B lo aS aH aF aL cS cH cF cL M f aK cK):=Lk.first m f aK cK hof hoz
   obtain⟨q0,q1,q2,q3,q4,-,-,-,-,-,qs⟩:=boxf HE.out.m.box
   obtain⟨f0,f1,f2,f3,f4,f5,f6,f7,f8,f9,f10,f11,f12,f13,ff,fs⟩:=A7 HE.out.fb
   unfold Ac at hoz
   clear m hc1 hn1 hcur hns hnh hM hf r hz hresM hlet hg hgf hkeys hsl hnn hres hgn hA
   go_enter Tryz.func194,Tryz.ntmps194
   go_wp2_with fail
   rw[<- hof,<- hoz]
   generalize (w.alloc of).alloc oz=W0 at *
   subst hof hoz
   clear q0 q1 q2 q3 q4 qs
   clear f0 f1 f2 f3 f4 f5 f6 f7 f8 f9 f10 f11 f12 f13 ff fs
   rename_i K1 hK1 K0 hK0
   have HK1:Hid _:=hK1
   clear hK1
   refine(HLt.out _ (by exact HE.out.below ⟨rfl,rfl,rfl,Nat.le_refl _,fun _ _=>rfl⟩)).mono ?_
   rintro e w2 ⟨rfl,h9⟩
   have HE2:Hid (Lk2 Xb w w2 (Foot B aS aH aF aL) B lo M' f aK cK):=h9
   clear HE h9
   obtain⟨f0,f1,f2,f3,f4,f5,f6,f7,f8,f9,f10,f11,f12,f13,ff,fs⟩:=A7 HE2.out.fb
   go_wp2_with fail
   refine(fun (H:∀ W3:World,Lk2 Xb w W3 (Foot B aS aH aF aL) B lo M' g aK cK->K1 _ W3)=>H _ (HE2.out.all g)) ?_
   clear HE2
   clear f0 f1 f2 f3 f4 f5 f6 f7 f8 f9 f10 f11 f12 f13 ff fs
   intro w3 h3
   have HE3:Hid (Lk2 Xb w w3 (Foot B aS aH aF aL) B lo M' g aK cK):=h3
   clear h3
   refine HK1.out _ _ ?_
   clear HK1
   obtain⟨f0,f1,f2,f3,f4,f5,f6,f7,f8,f9,f10,f11,f12,f13,ff,fs⟩:=A7 HE3.out.fb
   rw[HG.out.2] at f10
   go_wp2_with fail
   have HE4:Hid (Lk2 Xb w _ (Foot B aS aH aF aL) B lo M' { g with n:=1000000 } aK cK):=HE3.out.store 10 (O J (1000000)) { g with n:=1000000 } rfl
   clear HE3
   refine(Bf { g with n:=1000000 } 2 aK cK _).mono ?_
   rintro e w9 ⟨rfl,hb9⟩
   have HE9:Hid (Lk2 Xb w w9 (Foot B aS aH aF aL) B lo M' { g with n:=1000000 } aK cK):=HE4.out.below hb9
   clear HE4 hb9
   clear f0 f1 f2 f3 f4 f5 f6 f7 f8 f9 f10 f11 f12 f13 ff fs
   obtain⟨g0,g1,g2,g3,g4,g5,g6,g7,g8,g9,g10,g11,g12,g13,gf,gs⟩:=A7 HE9.out.zb
   go_wp2
   refine bodyPost_ret (v:=.agg #[O J (toF { g with n:=1000000 } 2).c.kind,O J (toF { g with n:=1000000 } 2).c.a,O J (toF { g with n:=1000000 } 2).c.b,O J (toF { g with n:=1000000 } 2).c.time,O J (toF { g with n:=1000000 } 2).c.bk,O J (toF { g with n:=1000000 } 2).c.slot,O J (toF { g with n:=1000000 } 2).pl,O J (toF { g with n:=1000000 } 2).cur,O J (toF { g with n:=1000000 } 2).prev,O J (toF { g with n:=1000000 } 2).slot,O J (toF { g with n:=1000000 } 2).n,Y aK (toF { g with n:=1000000 } 2).keys.length cK,.bool (toF { g with n:=1000000 } 2).done,O J (toF { g with n:=1000000 } 2).e]) (by simp[results,Tryz.results194,go_sem,toF,g0,g1,g2,g3,g4,g5,g6,g7,g8,g9,g10,g11,g12,g13]) rfl ⟨⟨aK,cK,rfl,HR.out.fine HE9.out.Af.2 HZ.out,(fun ad h=>.inl h),fun _=>⟨rfl,rfl⟩⟩,HE9.out.Af⟩
  ·obtain⟨g,hg⟩:∃ g,g=letF M f:=⟨_,rfl⟩
   have hlet:letF M f=g:=hg.symm
   have hgf:g = { f with slot:=-1 }:=by rw[hg];unfold letF;rw[hsl];rfl
   have hkeys:g.keys=f.keys:=by rw[hgf]
   have hgn:g.n=f.n:=by rw[hgf]
   have hres:Ii M f=toF { g with n:=1000000 } 2:=by unfold Ii;rw[hsl,if_pos rfl,show (if f.n<1000000 then f.n+1 else f.n)=1000000 by split <;> omega];rw[hgf];rfl
   have hresM:Et M f=Bq M f:=rfl
   rw[hres,hresM]
   have HLt:Hid (∀ (W:World),Lk Xb w W B lo aS aH aF aL cS cH cF cL M f aK cK->Calls Tryz.prog 202 #[.pointer (some ⟨B,0,none⟩),.agg #[O J f.c.kind,O J f.c.a,O J f.c.b,O J f.c.time,O J f.c.bk,O J f.c.slot,O J f.pl,O J f.cur,O J f.prev,O J f.slot,O J f.n,Y aK f.keys.length cK,.bool f.done,O J f.e]] W fun e w'=>e=.returned (.tuple #[.agg #[O J g.c.kind,O J g.c.a,O J g.c.b,O J g.c.time,O J g.c.bk,O J g.c.slot,O J g.pl,O J g.cur,O J g.prev,O J g.slot,O J g.n,Y aK g.keys.length cK,.bool g.done,O J g.e],.bool true])/\Lk2 Xb w w' (Foot B aS aH aF aL) B lo (Bq M f) f aK cK):=fun W h=>by
    have:=Gm M f B lo aS aH aF aL cS cH cF cL aK cK W h.m HOk.out
    rw[hlet,hsl] at this
    exact this.mono (fun e w' h'=>⟨h'.1,h.after h'.2.1 h'.2.2⟩)
   generalize Bq M f=M' at *
   rw[<- hkeys] at HR
   have HG:Hid (0<=g.n/\g.n=1000000):=by rw[hgn];exact⟨hnn.1,hA⟩
   have HZ:Hid (∀ ad,aK=some ad->¬ (Foot B aS aH aF aL) ad.block):=hz
   obtain⟨of,hof⟩:=frObj f aK cK
   obtain⟨oz,hoz⟩:∃ o:Obj,o=Ac:=⟨_,rfl⟩
   have HE:Hid (Lk Xb w ((w.alloc of).alloc oz) B lo aS aH aF aL cS cH cF cL M f aK cK):=Lk.first m f aK cK hof hoz
   obtain⟨q0,q1,q2,q3,q4,-,-,-,-,-,qs⟩:=boxf HE.out.m.box
   obtain⟨f0,f1,f2,f3,f4,f5,f6,f7,f8,f9,f10,f11,f12,f13,ff,fs⟩:=A7 HE.out.fb
   unfold Ac at hoz
   clear m hc1 hn1 hcur hns hnh hM hf r hz hresM hlet hg hgf hkeys hsl hnn hres hgn hA
   go_enter Tryz.func194,Tryz.ntmps194
   go_wp2_with fail
   rw[<- hof,<- hoz]
   generalize (w.alloc of).alloc oz=W0 at *
   subst hof hoz
   clear q0 q1 q2 q3 q4 qs
   clear f0 f1 f2 f3 f4 f5 f6 f7 f8 f9 f10 f11 f12 f13 ff fs
   rename_i K1 hK1 K0 hK0
   have HK1:Hid _:=hK1
   clear hK1
   refine(HLt.out _ (by exact HE.out.below ⟨rfl,rfl,rfl,Nat.le_refl _,fun _ _=>rfl⟩)).mono ?_
   rintro e w2 ⟨rfl,h9⟩
   have HE2:Hid (Lk2 Xb w w2 (Foot B aS aH aF aL) B lo M' f aK cK):=h9
   clear HE h9
   obtain⟨f0,f1,f2,f3,f4,f5,f6,f7,f8,f9,f10,f11,f12,f13,ff,fs⟩:=A7 HE2.out.fb
   go_wp2_with fail
   refine(fun (H:∀ W3:World,Lk2 Xb w W3 (Foot B aS aH aF aL) B lo M' g aK cK->K1 _ W3)=>H _ (HE2.out.all g)) ?_
   clear HE2
   clear f0 f1 f2 f3 f4 f5 f6 f7 f8 f9 f10 f11 f12 f13 ff fs
   intro w3 h3
   have HE3:Hid (Lk2 Xb w w3 (Foot B aS aH aF aL) B lo M' g aK cK):=h3
   clear h3
   refine HK1.out _ _ ?_
   clear HK1
   obtain⟨f0,f1,f2,f3,f4,f5,f6,f7,f8,f9,f10,f11,f12,f13,ff,fs⟩:=A7 HE3.out.fb
   rw[HG.out.2] at f10
   go_wp2_with fail
   have HE4:Hid (Lk2 Xb w _ (Foot B aS aH aF aL) B lo M' { g with n:=1000000 } aK cK):=HE3.out.store 10 (O J (1000000)) { g with n:=1000000 } rfl
   clear HE3
   refine(Bf { g with n:=1000000 } 2 aK cK _).mono ?_
   rintro e w9 ⟨rfl,hb9⟩
   have HE9:Hid (Lk2 Xb w w9 (Foot B aS aH aF aL) B lo M' { g with n:=1000000 } aK cK):=HE4.out.below hb9
   clear HE4 hb9
   clear f0 f1 f2 f3 f4 f5 f6 f7 f8 f9 f10 f11 f12 f13 ff fs
   obtain⟨g0,g1,g2,g3,g4,g5,g6,g7,g8,g9,g10,g11,g12,g13,gf,gs⟩:=A7 HE9.out.zb
   go_wp2
   refine bodyPost_ret (v:=.agg #[O J (toF { g with n:=1000000 } 2).c.kind,O J (toF { g with n:=1000000 } 2).c.a,O J (toF { g with n:=1000000 } 2).c.b,O J (toF { g with n:=1000000 } 2).c.time,O J (toF { g with n:=1000000 } 2).c.bk,O J (toF { g with n:=1000000 } 2).c.slot,O J (toF { g with n:=1000000 } 2).pl,O J (toF { g with n:=1000000 } 2).cur,O J (toF { g with n:=1000000 } 2).prev,O J (toF { g with n:=1000000 } 2).slot,O J (toF { g with n:=1000000 } 2).n,Y aK (toF { g with n:=1000000 } 2).keys.length cK,.bool (toF { g with n:=1000000 } 2).done,O J (toF { g with n:=1000000 } 2).e]) (by simp[results,Tryz.results194,go_sem,toF,g0,g1,g2,g3,g4,g5,g6,g7,g8,g9,g10,g11,g12,g13]) rfl ⟨⟨aK,cK,rfl,HR.out.fine HE9.out.Af.2 HZ.out,(fun ad h=>.inl h),fun _=>⟨rfl,rfl⟩⟩,HE9.out.Af⟩
end
section
open Go.ChangeShapes Go.WideShapes Go.ChangeAt Go.RowKit Go.Joins Go.Deep Go.Sort
variable {Xb:Ex}
theorem a0q(M:Mm)(f:Fr):(Es M f).done=f.done:=by
 unfold Es
 split
 ·split
  ·rfl
  ·split <;> rfl
 ·rfl
theorem a4t(t:Int)(M:Mm)(f:Fr)(B lo:Nat)(aS aH aF aL:Option Addr)(cS cH cF cL:Nat)(aK:Option Addr)(cK:Nat)(w:World)
  (m:Mine Xb w B lo aS aH aF aL cS cH cF cL M) (hM:Ok M) (hf:Fit M f) (hk:f.c.kind=4\/f.c.kind=5) (r:KRow w aK cK f.keys) (hz:∀ ad,aK=some ad->¬ Foot B aS aH aF aL ad.block) :
  Calls Tryz.prog 161 #[.pointer (some ⟨B,0,none⟩),.agg #[O J f.c.kind,O J f.c.a,O J f.c.b,O J f.c.time,O J f.c.bk,O J f.c.slot,O J f.pl,O J f.cur,O J f.prev,O J f.slot,O J f.n,Y aK f.keys.length cK,.bool f.done,O J f.e],O J t] w fun e w'=>RetS w w' e (swF M f) aK cK f.keys/\Has Xb w' B lo (Up w (Foot B aS aH aF aL)) (swM t M f)/\Fine w w' (Foot B aS aH aF aL):=by
 obtain⟨c,pl,cur,prev,slot,nn,keys,done,ee⟩:=f
 have hd:done=false:=hf.done
 subst hd
 have hpl:0<=pl/\pl<=9:=hf.pl
 have toS:∀ {g:Fr} {M':Mm} {e:Ending} {w':World},g.done=false->g.keys=keys->(Ret w w' e g aK cK/\Has Xb w' B lo (Up w (Foot B aS aH aF aL)) M'/\Fine w w' (Foot B aS aH aF aL))->RetS w w' e g aK cK keys/\Has Xb w' B lo (Up w (Foot B aS aH aF aL)) M'/\Fine w w' (Foot B aS aH aF aL):=fun hd hl h=>⟨h.1.s hd hl,h.2⟩
 have toO:∀ {g:Fr} {M':Mm} {e:Ending} {w':World},(RetO w w' e g/\Has Xb w' B lo (Up w (Foot B aS aH aF aL)) M'/\Fine w w' (Foot B aS aH aF aL))->RetS w w' e g aK cK keys/\Has Xb w' B lo (Up w (Foot B aS aH aF aL)) M'/\Fine w w' (Foot B aS aH aF aL):=fun h=>⟨.inr h.1,h.2⟩
 by_cases h7:7<=pl
 ·rw[swF7 (f:=⟨c,pl,cur,prev,slot,nn,keys,false,ee⟩) h7,Dz (f:=⟨c,pl,cur,prev,slot,nn,keys,false,ee⟩) (by show pl≠0/\pl≠4/\pl≠5/\pl≠6;omega)]
  exact(a0u t M c pl cur prev slot nn ee keys B lo aS aH aF aL cS cH cF cL aK cK w m r h7).mono (fun _ _ h=>toS rfl rfl h)
 ·obtain rfl|rfl|rfl|rfl|rfl|rfl|rfl:pl=0\/pl=1\/pl=2\/pl=3\/pl=4\/pl=5\/pl=6:=by omega
  ·exact(swstep0 t M _ _ c cur prev slot nn ee keys B lo aS aH aF aL cS cH cF cL aK cK w m r (by rw[swF0 rfl];unfold Eh;split <;> rfl) (fun W m' r'=>by
   rw[swF0 rfl,swM0 rfl]
   exact sw_lock M ⟨c,0,cur,prev,slot,nn,keys,false,ee⟩ t B lo aS aH aF aL cS cH cF cL aK cK W m' hM hf r' hz)).mono (fun _ _ h=>toS (by rw[swF0 rfl];unfold Eh;split <;> rfl) (by rw[swF0 rfl];unfold Eh;split <;> rfl) h)
  ·exact(swstep1 t M _ _ c cur prev slot nn ee keys B lo aS aH aF aL cS cH cF cL aK cK w m r (by rw[swF1 rfl];rfl) (fun W m' r'=>by
   rw[swF1 rfl,Dz (by show (1:Int)≠0/\(1:Int)≠4/\(1:Int)≠5/\(1:Int)≠6;omega)]
   exact sw_begin M ⟨c,1,cur,prev,slot,nn,keys,false,ee⟩ B lo aS aH aF aL cS cH cF cL aK cK W m' hM hf r' hz)).mono (fun _ _ h=>toS (by rw[swF1 rfl];rfl) (by rw[swF1 rfl];rfl) h)
  ·have hms:swM t M ⟨c,2,cur,prev,slot,nn,keys,false,ee⟩=M:=Dz (by show (2:Int)≠0/\(2:Int)≠4/\(2:Int)≠5/\(2:Int)≠6;omega)
   rw[hms]
   have hkl:keys.length<=100:=hf.keys
   rcases a0r M ⟨c,2,cur,prev,slot,nn,keys,false,ee⟩ B lo aS aH aF aL cS cH cF cL aK cK hM hf hk hz with ⟨hky,hp⟩|hp
   ·exact(swstep2 t M _ _ c cur prev slot nn ee keys B lo aS aH aF aL cS cH cF cL aK cK w m r (by rw[swF2 rfl];exact hky) (fun W m' r'=>by rw[swF2 rfl];exact hp W m' r')).mono (fun _ _ h=>toS (by rw[swF2 rfl];exact a0q _ _) (by rw[swF2 rfl];exact hky) h)
   ·exact(swstep2O t M _ _ c cur prev slot nn ee keys B lo aS aH aF aL cS cH cF cL aK cK w m r (fun W m' r'=>by rw[swF2 rfl];exact hp W m' r')).mono (fun _ _ h=>toO h)
  ·exact(swstep3 t M _ _ c cur prev slot nn ee keys B lo aS aH aF aL cS cH cF cL aK cK w m r (by rw[swF3 rfl];unfold Fq;split <;> rfl) (fun W m' r'=>by
   rw[swF3 rfl,Dz (by show (3:Int)≠0/\(3:Int)≠4/\(3:Int)≠5/\(3:Int)≠6;omega)]
   exact sw_pass M ⟨c,3,cur,prev,slot,nn,keys,false,ee⟩ B lo aS aH aF aL cS cH cF cL aK cK W m' hM hf r' hz)).mono (fun _ _ h=>toS (by rw[swF3 rfl];unfold Fq;split <;> rfl) (by rw[swF3 rfl];unfold Fq;split <;> rfl) h)
  ·exact(swstep4 t M _ _ c cur prev slot nn ee keys B lo aS aH aF aL cS cH cF cL aK cK w m r (by rw[swF4 rfl];unfold Kv;split <;> rfl) (fun W m' r'=>by
   rw[swF4 rfl,swM4 rfl]
   exact sw_cutP M ⟨c,4,cur,prev,slot,nn,keys,false,ee⟩ B lo aS aH aF aL cS cH cF cL aK cK W m' hM hf r' hz)).mono (fun _ _ h=>toS (by rw[swF4 rfl];unfold Kv;split <;> rfl) (by rw[swF4 rfl];unfold Kv;split <;> rfl) h)
  ·exact(swstep5 t M _ _ c cur prev slot nn ee keys B lo aS aH aF aL cS cH cF cL aK cK w m r (by rw[swF5 rfl];unfold Ii;split <;> rfl) (fun W m' r'=>by
   rw[swF5 rfl,swM5 rfl]
   exact sw_put M ⟨c,5,cur,prev,slot,nn,keys,false,ee⟩ B lo aS aH aF aL cS cH cF cL aK cK W m' hM hf r' hz)).mono (fun _ _ h=>toS (by rw[swF5 rfl];unfold Ii;split <;> rfl) (by rw[swF5 rfl];unfold Ii;split <;> rfl) h)
  ·exact(swstep6O t M _ _ c cur prev slot nn ee keys B lo aS aH aF aL cS cH cF cL aK cK w m r (fun W m' r'=>by
   rw[swF6 rfl,swM6 rfl]
   exact a4v M ⟨c,6,cur,prev,slot,nn,keys,false,ee⟩ t B lo aS aH aF aL cS cH cF cL aK cK W m' hM hf r' hz)).mono (fun _ _ h=>toO h)
end
end Go.Proofs.YthhgoenomehobaaGreat.mm
