/- Parts. -/
import Derived.Test.YthhgoenomehobaaGreatS25
import Derived.Test.YthhgoenomehobaaGreatS10
import Derived.Test.YthhgoenomehobaaGreatS06
import Derived.Deep.QuietTactic
import Derived.BigQuiet
import Derived.BigRegion
import Derived.Lib.QuietBelow
import Derived.Test.YthhgoenomehobaaGreatS29
import Derived.Test.YthhgoenomehobaaGreatS30
import Derived.Test.YthhgoenomehobaaGreatS31
import Derived.Test.YthhgoenomehobaaGreatS32
import Derived.Test.YthhgoenomehobaaGreatS34
import Derived.Test.YthhgoenomehobaaGreatS35
namespace Go.Proofs.YthhgoenomehobaaGreat.mm
set_option maxRecDepth 100000
set_option linter.unusedVariables false
open Go.Value renaming int → O, slice → Y
open Go.IntKind renaming i64 → J
section
open Go.ChangeShapes Go.WideShapes Go.ChangeAt Go.RowKit Go.Joins Go.Deep Go.Sort
variable {Xb:Ex}
set_option maxHeartbeats 3200000 in
theorem b9r(M:Mm)(f:Fr)(B lo:Nat)(aS aH aF aL:Option Addr)(cS cH cF cL:Nat)(aK:Option Addr)(cK:Nat)(w:World)
  (m:Mine Xb w B lo aS aH aF aL cS cH cF cL M) (hM:Ok M) (hf:Fit M f) (r:Ag w aK cK f.keys) (hz:∀ ad,aK=some ad->¬ A8 B aS aH aF aL ad.block) :
  Calls Tryz.prog 194 #[.pointer (some ⟨B,0,none⟩),.agg #[O J f.c.kind,O J f.c.a,O J f.c.b,O J f.c.time,O J f.c.bk,O J f.c.slot,O J f.pl,O J f.cur,O J f.prev,O J f.slot,O J f.n,Y aK f.keys.length cK,.bool f.done,O J f.e]] w fun e w'=>Ret w w' e (J5 M f) aK cK/\Has Xb w' B lo (Up w (A8 B aS aH aF aL)) (Gv M f)/\Fine w w' (A8 B aS aH aF aL):=by
 have hns:=hM.ns
 have hnh:=hM.nh.2
 have hcur:=hf.cur.2
 have hc1:f.cur<=1000:=by omega
 have hn1:M.slots.length<=1000:=by omega
 have HOk:Hid (Ok M):=hM
 have HR:Hid (Ag w aK cK f.keys):=r
 have hnn:0<=f.n/\f.n<=1000000:=by have:=hf.n;rwa [Ai] at this
 cases hsl:Be M f.slot
 ·obtain⟨g,hg⟩:∃ g,g=Dh M f:=⟨_,rfl⟩
  have hlet:Dh M f=g:=hg.symm
  have hgf:g=f:=by rw[hg];unfold Dh;rw[hsl];rfl
  have hres:J5 M f=toF g 6:=by unfold J5;rw[hsl,hgf];rfl
  have hkeys:g.keys=f.keys:=by rw[hgf]
  have hresM:Gv M f=D8 M f:=rfl
  rw[hres,hresM]
  have HLt:Hid (∀ (W:World),Lk Xb w W B lo aS aH aF aL cS cH cF cL M f aK cK->Calls Tryz.prog 202 #[.pointer (some ⟨B,0,none⟩),.agg #[O J f.c.kind,O J f.c.a,O J f.c.b,O J f.c.time,O J f.c.bk,O J f.c.slot,O J f.pl,O J f.cur,O J f.prev,O J f.slot,O J f.n,Y aK f.keys.length cK,.bool f.done,O J f.e]] W fun e w'=>e=.returned (.tuple #[.agg #[O J g.c.kind,O J g.c.a,O J g.c.b,O J g.c.time,O J g.c.bk,O J g.c.slot,O J g.pl,O J g.cur,O J g.prev,O J g.slot,O J g.n,Y aK g.keys.length cK,.bool g.done,O J g.e],.bool false])/\Lk2 Xb w w' (A8 B aS aH aF aL) B lo (D8 M f) f aK cK):=fun W h=>by
   have:=Ir M f B lo aS aH aF aL cS cH cF cL aK cK W h.m HOk.out
   rw[hlet,hsl] at this
   exact this.mono (fun e w' h'=>⟨h'.1,h.after h'.2.1 h'.2.2⟩)
  generalize D8 M f=M' at *
  rw[<- hkeys] at HR
  have HZ:Hid (∀ ad,aK=some ad->¬ (A8 B aS aH aF aL) ad.block):=hz
  obtain⟨of,hof⟩:=frObj f aK cK
  obtain⟨oz,hoz⟩:∃ o:Obj,o=Ac:=⟨_,rfl⟩
  have HE:Hid (Lk Xb w ((w.alloc of).alloc oz) B lo aS aH aF aL cS cH cF cL M f aK cK):=Lk.first m f aK cK hof hoz
  obtain⟨q0,q1,q2,q3,q4,-,-,-,-,-,qs⟩:=Aj HE.out.m.box
  obtain⟨f0,f1,f2,f3,f4,f5,f6,f7,f8,f9,f10,f11,f12,f13,ff,fs⟩:=Aa HE.out.fb
  unfold Ac at hoz
  clear m hc1 hn1 hcur hns hnh hM hf r hz hresM hlet hg hgf hkeys hsl hnn hres
  go_enter Tryz.func194,Tryz.ntmps194
  go_wp2_with fail
  rw[<- hof,<- hoz]
  generalize (w.alloc of).alloc oz=W0 at *
  subst hof hoz
  clear q0 q1 q2 q3 q4 qs
  clear f0 f1 f2 f3 f4 f5 f6 f7 f8 f9 f10 f11 f12 f13 ff fs
  rename_i K1 hK1 K0 hK0
  have HK1:Hid _:=hK1
  clear hK1
  refine(HLt.out _ (by exact HE.out.below ⟨rfl,rfl,rfl,Nat.le_refl _,fun _ _=>rfl⟩)).mono ?_
  rintro e w2 ⟨rfl,h9⟩
  have HE2:Hid (Lk2 Xb w w2 (A8 B aS aH aF aL) B lo M' f aK cK):=h9
  clear HE h9
  obtain⟨f0,f1,f2,f3,f4,f5,f6,f7,f8,f9,f10,f11,f12,f13,ff,fs⟩:=Aa HE2.out.fb
  go_wp2_with fail
  refine(fun (H:∀ W3:World,Lk2 Xb w W3 (A8 B aS aH aF aL) B lo M' g aK cK->K1 _ W3)=>H _ (HE2.out.all g)) ?_
  clear HE2
  clear f0 f1 f2 f3 f4 f5 f6 f7 f8 f9 f10 f11 f12 f13 ff fs
  intro w3 h3
  have HE3:Hid (Lk2 Xb w w3 (A8 B aS aH aF aL) B lo M' g aK cK):=h3
  clear h3
  refine HK1.out _ _ ?_
  clear HK1
  obtain⟨f0,f1,f2,f3,f4,f5,f6,f7,f8,f9,f10,f11,f12,f13,ff,fs⟩:=Aa HE3.out.fb
  go_wp2_with fail
  refine(Ol g aK cK _).mono ?_
  rintro e w9 ⟨rfl,hb9⟩
  have HE9:Hid (Lk2 Xb w w9 (A8 B aS aH aF aL) B lo M' g aK cK):=HE3.out.below hb9
  clear HE3 hb9
  clear f0 f1 f2 f3 f4 f5 f6 f7 f8 f9 f10 f11 f12 f13 ff fs
  obtain⟨g0,g1,g2,g3,g4,g5,g6,g7,g8,g9,g10,g11,g12,g13,gf,gs⟩:=Aa HE9.out.zb
  go_wp2
  refine bodyPost_ret (v:=.agg #[O J (toF g 6).c.kind,O J (toF g 6).c.a,O J (toF g 6).c.b,O J (toF g 6).c.time,O J (toF g 6).c.bk,O J (toF g 6).c.slot,O J (toF g 6).pl,O J (toF g 6).cur,O J (toF g 6).prev,O J (toF g 6).slot,O J (toF g 6).n,Y aK (toF g 6).keys.length cK,.bool (toF g 6).done,O J (toF g 6).e]) (by simp[results,Tryz.results194,go_sem,toF,g0,g1,g2,g3,g4,g5,g6,g7,g8,g9,g10,g11,g12,g13]) rfl ⟨⟨aK,cK,rfl,HR.out.fine HE9.out.Ah.2 HZ.out,(fun ad h=>.inl h),fun _=>⟨rfl,rfl⟩⟩,HE9.out.Ah⟩
 ·obtain hA|hA|hA:f.n<999999\/f.n=999999\/f.n=1000000:=by omega
  ·obtain⟨g,hg⟩:∃ g,g=Dh M f:=⟨_,rfl⟩
   have hlet:Dh M f=g:=hg.symm
   have hgf:g = { f with slot:=-1 }:=by rw[hg];unfold Dh;rw[hsl];rfl
   have hkeys:g.keys=f.keys:=by rw[hgf]
   have hgn:g.n=f.n:=by rw[hgf]
   have hres:J5 M f=toF { g with n:=g.n+1 } 2:=by unfold J5;rw[hsl,if_pos rfl,show (if f.n<1000000 then f.n+1 else f.n)=f.n+1 by split <;> omega];rw[hgn];rw[hgf];rfl
   have hresM:Gv M f=D8 M f:=rfl
   rw[hres,hresM]
   have HLt:Hid (∀ (W:World),Lk Xb w W B lo aS aH aF aL cS cH cF cL M f aK cK->Calls Tryz.prog 202 #[.pointer (some ⟨B,0,none⟩),.agg #[O J f.c.kind,O J f.c.a,O J f.c.b,O J f.c.time,O J f.c.bk,O J f.c.slot,O J f.pl,O J f.cur,O J f.prev,O J f.slot,O J f.n,Y aK f.keys.length cK,.bool f.done,O J f.e]] W fun e w'=>e=.returned (.tuple #[.agg #[O J g.c.kind,O J g.c.a,O J g.c.b,O J g.c.time,O J g.c.bk,O J g.c.slot,O J g.pl,O J g.cur,O J g.prev,O J g.slot,O J g.n,Y aK g.keys.length cK,.bool g.done,O J g.e],.bool true])/\Lk2 Xb w w' (A8 B aS aH aF aL) B lo (D8 M f) f aK cK):=fun W h=>by
    have:=Ir M f B lo aS aH aF aL cS cH cF cL aK cK W h.m HOk.out
    rw[hlet,hsl] at this
    exact this.mono (fun e w' h'=>⟨h'.1,h.after h'.2.1 h'.2.2⟩)
   generalize D8 M f=M' at *
   rw[<- hkeys] at HR
   have HG:Hid (0<=g.n/\g.n<999999):=by rw[hgn];exact⟨hnn.1,hA⟩
   have HZ:Hid (∀ ad,aK=some ad->¬ (A8 B aS aH aF aL) ad.block):=hz
   obtain⟨of,hof⟩:=frObj f aK cK
   obtain⟨oz,hoz⟩:∃ o:Obj,o=Ac:=⟨_,rfl⟩
   have HE:Hid (Lk Xb w ((w.alloc of).alloc oz) B lo aS aH aF aL cS cH cF cL M f aK cK):=Lk.first m f aK cK hof hoz
   obtain⟨q0,q1,q2,q3,q4,-,-,-,-,-,qs⟩:=Aj HE.out.m.box
   obtain⟨f0,f1,f2,f3,f4,f5,f6,f7,f8,f9,f10,f11,f12,f13,ff,fs⟩:=Aa HE.out.fb
   unfold Ac at hoz
   clear m hc1 hn1 hcur hns hnh hM hf r hz hresM hlet hg hgf hkeys hsl hnn hres hgn hA
   go_enter Tryz.func194,Tryz.ntmps194
   go_wp2_with fail
   rw[<- hof,<- hoz]
   generalize (w.alloc of).alloc oz=W0 at *
   subst hof hoz
   clear q0 q1 q2 q3 q4 qs
   clear f0 f1 f2 f3 f4 f5 f6 f7 f8 f9 f10 f11 f12 f13 ff fs
   rename_i K1 hK1 K0 hK0
   have HK1:Hid _:=hK1
   clear hK1
   refine(HLt.out _ (by exact HE.out.below ⟨rfl,rfl,rfl,Nat.le_refl _,fun _ _=>rfl⟩)).mono ?_
   rintro e w2 ⟨rfl,h9⟩
   have HE2:Hid (Lk2 Xb w w2 (A8 B aS aH aF aL) B lo M' f aK cK):=h9
   clear HE h9
   obtain⟨f0,f1,f2,f3,f4,f5,f6,f7,f8,f9,f10,f11,f12,f13,ff,fs⟩:=Aa HE2.out.fb
   go_wp2_with fail
   refine(fun (H:∀ W3:World,Lk2 Xb w W3 (A8 B aS aH aF aL) B lo M' g aK cK->K1 _ W3)=>H _ (HE2.out.all g)) ?_
   clear HE2
   clear f0 f1 f2 f3 f4 f5 f6 f7 f8 f9 f10 f11 f12 f13 ff fs
   intro w3 h3
   have HE3:Hid (Lk2 Xb w w3 (A8 B aS aH aF aL) B lo M' g aK cK):=h3
   clear h3
   refine HK1.out _ _ ?_
   clear HK1
   obtain⟨f0,f1,f2,f3,f4,f5,f6,f7,f8,f9,f10,f11,f12,f13,ff,fs⟩:=Aa HE3.out.fb
   obtain⟨hn0,hn1⟩:=HG.out
   have hn2:¬ 999999<g.n:=by omega
   have hn3:¬ 999999<=g.n:=by omega
   have hn4:g.n<=999999:=by omega
   have hw:IntKind.i64.wrap (g.n+1)=g.n+1:=by rw[IntKind.wrap_i64];omega
   go_wp2_with fail
   have HE4:Hid (Lk2 Xb w _ (A8 B aS aH aF aL) B lo M' { g with n:=g.n+1 } aK cK):=HE3.out.store 10 (O J (g.n+1)) { g with n:=g.n+1 } rfl
   clear HE3
   refine(Cc { g with n:=g.n+1 } 2 aK cK _).mono ?_
   rintro e w9 ⟨rfl,hb9⟩
   have HE9:Hid (Lk2 Xb w w9 (A8 B aS aH aF aL) B lo M' { g with n:=g.n+1 } aK cK):=HE4.out.below hb9
   clear HE4 hb9
   clear f0 f1 f2 f3 f4 f5 f6 f7 f8 f9 f10 f11 f12 f13 ff fs
   obtain⟨g0,g1,g2,g3,g4,g5,g6,g7,g8,g9,g10,g11,g12,g13,gf,gs⟩:=Aa HE9.out.zb
   go_wp2
   refine bodyPost_ret (v:=.agg #[O J (toF { g with n:=g.n+1 } 2).c.kind,O J (toF { g with n:=g.n+1 } 2).c.a,O J (toF { g with n:=g.n+1 } 2).c.b,O J (toF { g with n:=g.n+1 } 2).c.time,O J (toF { g with n:=g.n+1 } 2).c.bk,O J (toF { g with n:=g.n+1 } 2).c.slot,O J (toF { g with n:=g.n+1 } 2).pl,O J (toF { g with n:=g.n+1 } 2).cur,O J (toF { g with n:=g.n+1 } 2).prev,O J (toF { g with n:=g.n+1 } 2).slot,O J (toF { g with n:=g.n+1 } 2).n,Y aK (toF { g with n:=g.n+1 } 2).keys.length cK,.bool (toF { g with n:=g.n+1 } 2).done,O J (toF { g with n:=g.n+1 } 2).e]) (by simp[results,Tryz.results194,go_sem,toF,g0,g1,g2,g3,g4,g5,g6,g7,g8,g9,g10,g11,g12,g13]) rfl ⟨⟨aK,cK,rfl,HR.out.fine HE9.out.Ah.2 HZ.out,(fun ad h=>.inl h),fun _=>⟨rfl,rfl⟩⟩,HE9.out.Ah⟩
  ·obtain⟨g,hg⟩:∃ g,g=Dh M f:=⟨_,rfl⟩
   have hlet:Dh M f=g:=hg.symm
   have hgf:g = { f with slot:=-1 }:=by rw[hg];unfold Dh;rw[hsl];rfl
   have hkeys:g.keys=f.keys:=by rw[hgf]
   have hgn:g.n=f.n:=by rw[hgf]
   have hres:J5 M f=toF { g with n:=1000000 } 2:=by unfold J5;rw[hsl,if_pos rfl,show (if f.n<1000000 then f.n+1 else f.n)=1000000 by split <;> omega];rw[hgf];rfl
   have hresM:Gv M f=D8 M f:=rfl
   rw[hres,hresM]
   have HLt:Hid (∀ (W:World),Lk Xb w W B lo aS aH aF aL cS cH cF cL M f aK cK->Calls Tryz.prog 202 #[.pointer (some ⟨B,0,none⟩),.agg #[O J f.c.kind,O J f.c.a,O J f.c.b,O J f.c.time,O J f.c.bk,O J f.c.slot,O J f.pl,O J f.cur,O J f.prev,O J f.slot,O J f.n,Y aK f.keys.length cK,.bool f.done,O J f.e]] W fun e w'=>e=.returned (.tuple #[.agg #[O J g.c.kind,O J g.c.a,O J g.c.b,O J g.c.time,O J g.c.bk,O J g.c.slot,O J g.pl,O J g.cur,O J g.prev,O J g.slot,O J g.n,Y aK g.keys.length cK,.bool g.done,O J g.e],.bool true])/\Lk2 Xb w w' (A8 B aS aH aF aL) B lo (D8 M f) f aK cK):=fun W h=>by
    have:=Ir M f B lo aS aH aF aL cS cH cF cL aK cK W h.m HOk.out
    rw[hlet,hsl] at this
    exact this.mono (fun e w' h'=>⟨h'.1,h.after h'.2.1 h'.2.2⟩)
   generalize D8 M f=M' at *
   rw[<- hkeys] at HR
   have HG:Hid (0<=g.n/\g.n=999999):=by rw[hgn];exact⟨hnn.1,hA⟩
   have HZ:Hid (∀ ad,aK=some ad->¬ (A8 B aS aH aF aL) ad.block):=hz
   obtain⟨of,hof⟩:=frObj f aK cK
   obtain⟨oz,hoz⟩:∃ o:Obj,o=Ac:=⟨_,rfl⟩
   have HE:Hid (Lk Xb w ((w.alloc of).alloc oz) B lo aS aH aF aL cS cH cF cL M f aK cK):=Lk.first m f aK cK hof hoz
   obtain⟨q0,q1,q2,q3,q4,-,-,-,-,-,qs⟩:=Aj HE.out.m.box
   obtain⟨f0,f1,f2,f3,f4,f5,f6,f7,f8,f9,f10,f11,f12,f13,ff,fs⟩:=Aa HE.out.fb
   unfold Ac at hoz
   clear m hc1 hn1 hcur hns hnh hM hf r hz hresM hlet hg hgf hkeys hsl hnn hres hgn hA
   go_enter Tryz.func194,Tryz.ntmps194
   go_wp2_with fail
   rw[<- hof,<- hoz]
   generalize (w.alloc of).alloc oz=W0 at *
   subst hof hoz
   clear q0 q1 q2 q3 q4 qs
   clear f0 f1 f2 f3 f4 f5 f6 f7 f8 f9 f10 f11 f12 f13 ff fs
   rename_i K1 hK1 K0 hK0
   have HK1:Hid _:=hK1
   clear hK1
   refine(HLt.out _ (by exact HE.out.below ⟨rfl,rfl,rfl,Nat.le_refl _,fun _ _=>rfl⟩)).mono ?_
   rintro e w2 ⟨rfl,h9⟩
   have HE2:Hid (Lk2 Xb w w2 (A8 B aS aH aF aL) B lo M' f aK cK):=h9
   clear HE h9
   obtain⟨f0,f1,f2,f3,f4,f5,f6,f7,f8,f9,f10,f11,f12,f13,ff,fs⟩:=Aa HE2.out.fb
   go_wp2_with fail
   refine(fun (H:∀ W3:World,Lk2 Xb w W3 (A8 B aS aH aF aL) B lo M' g aK cK->K1 _ W3)=>H _ (HE2.out.all g)) ?_
   clear HE2
   clear f0 f1 f2 f3 f4 f5 f6 f7 f8 f9 f10 f11 f12 f13 ff fs
   intro w3 h3
   have HE3:Hid (Lk2 Xb w w3 (A8 B aS aH aF aL) B lo M' g aK cK):=h3
   clear h3
   refine HK1.out _ _ ?_
   clear HK1
   obtain⟨f0,f1,f2,f3,f4,f5,f6,f7,f8,f9,f10,f11,f12,f13,ff,fs⟩:=Aa HE3.out.fb
   rw[HG.out.2] at f10
   go_wp2_with fail
   have HE4:Hid (Lk2 Xb w _ (A8 B aS aH aF aL) B lo M' { g with n:=1000000 } aK cK):=HE3.out.store 10 (O J (1000000)) { g with n:=1000000 } rfl
   clear HE3
   refine(Cc { g with n:=1000000 } 2 aK cK _).mono ?_
   rintro e w9 ⟨rfl,hb9⟩
   have HE9:Hid (Lk2 Xb w w9 (A8 B aS aH aF aL) B lo M' { g with n:=1000000 } aK cK):=HE4.out.below hb9
   clear HE4 hb9
   clear f0 f1 f2 f3 f4 f5 f6 f7 f8 f9 f10 f11 f12 f13 ff fs
   obtain⟨g0,g1,g2,g3,g4,g5,g6,g7,g8,g9,g10,g11,g12,g13,gf,gs⟩:=Aa HE9.out.zb
   go_wp2
   refine bodyPost_ret (v:=.agg #[O J (toF { g with n:=1000000 } 2).c.kind,O J (toF { g with n:=1000000 } 2).c.a,O J (toF { g with n:=1000000 } 2).c.b,O J (toF { g with n:=1000000 } 2).c.time,O J (toF { g with n:=1000000 } 2).c.bk,O J (toF { g with n:=1000000 } 2).c.slot,O J (toF { g with n:=1000000 } 2).pl,O J (toF { g with n:=1000000 } 2).cur,O J (toF { g with n:=1000000 } 2).prev,O J (toF { g with n:=1000000 } 2).slot,O J (toF { g with n:=1000000 } 2).n,Y aK (toF { g with n:=1000000 } 2).keys.length cK,.bool (toF { g with n:=1000000 } 2).done,O J (toF { g with n:=1000000 } 2).e]) (by simp[results,Tryz.results194,go_sem,toF,g0,g1,g2,g3,g4,g5,g6,g7,g8,g9,g10,g11,g12,g13]) rfl ⟨⟨aK,cK,rfl,HR.out.fine HE9.out.Ah.2 HZ.out,(fun ad h=>.inl h),fun _=>⟨rfl,rfl⟩⟩,HE9.out.Ah⟩
  ·obtain⟨g,hg⟩:∃ g,g=Dh M f:=⟨_,rfl⟩
   have hlet:Dh M f=g:=hg.symm
   have hgf:g = { f with slot:=-1 }:=by rw[hg];unfold Dh;rw[hsl];rfl
   have hkeys:g.keys=f.keys:=by rw[hgf]
   have hgn:g.n=f.n:=by rw[hgf]
   have hres:J5 M f=toF { g with n:=1000000 } 2:=by unfold J5;rw[hsl,if_pos rfl,show (if f.n<1000000 then f.n+1 else f.n)=1000000 by split <;> omega];rw[hgf];rfl
   have hresM:Gv M f=D8 M f:=rfl
   rw[hres,hresM]
   have HLt:Hid (∀ (W:World),Lk Xb w W B lo aS aH aF aL cS cH cF cL M f aK cK->Calls Tryz.prog 202 #[.pointer (some ⟨B,0,none⟩),.agg #[O J f.c.kind,O J f.c.a,O J f.c.b,O J f.c.time,O J f.c.bk,O J f.c.slot,O J f.pl,O J f.cur,O J f.prev,O J f.slot,O J f.n,Y aK f.keys.length cK,.bool f.done,O J f.e]] W fun e w'=>e=.returned (.tuple #[.agg #[O J g.c.kind,O J g.c.a,O J g.c.b,O J g.c.time,O J g.c.bk,O J g.c.slot,O J g.pl,O J g.cur,O J g.prev,O J g.slot,O J g.n,Y aK g.keys.length cK,.bool g.done,O J g.e],.bool true])/\Lk2 Xb w w' (A8 B aS aH aF aL) B lo (D8 M f) f aK cK):=fun W h=>by
    have:=Ir M f B lo aS aH aF aL cS cH cF cL aK cK W h.m HOk.out
    rw[hlet,hsl] at this
    exact this.mono (fun e w' h'=>⟨h'.1,h.after h'.2.1 h'.2.2⟩)
   generalize D8 M f=M' at *
   rw[<- hkeys] at HR
   have HG:Hid (0<=g.n/\g.n=1000000):=by rw[hgn];exact⟨hnn.1,hA⟩
   have HZ:Hid (∀ ad,aK=some ad->¬ (A8 B aS aH aF aL) ad.block):=hz
   obtain⟨of,hof⟩:=frObj f aK cK
   obtain⟨oz,hoz⟩:∃ o:Obj,o=Ac:=⟨_,rfl⟩
   have HE:Hid (Lk Xb w ((w.alloc of).alloc oz) B lo aS aH aF aL cS cH cF cL M f aK cK):=Lk.first m f aK cK hof hoz
   obtain⟨q0,q1,q2,q3,q4,-,-,-,-,-,qs⟩:=Aj HE.out.m.box
   obtain⟨f0,f1,f2,f3,f4,f5,f6,f7,f8,f9,f10,f11,f12,f13,ff,fs⟩:=Aa HE.out.fb
   unfold Ac at hoz
   clear m hc1 hn1 hcur hns hnh hM hf r hz hresM hlet hg hgf hkeys hsl hnn hres hgn hA
   go_enter Tryz.func194,Tryz.ntmps194
   go_wp2_with fail
   rw[<- hof,<- hoz]
   generalize (w.alloc of).alloc oz=W0 at *
   subst hof hoz
   clear q0 q1 q2 q3 q4 qs
   clear f0 f1 f2 f3 f4 f5 f6 f7 f8 f9 f10 f11 f12 f13 ff fs
   rename_i K1 hK1 K0 hK0
   have HK1:Hid _:=hK1
   clear hK1
   refine(HLt.out _ (by exact HE.out.below ⟨rfl,rfl,rfl,Nat.le_refl _,fun _ _=>rfl⟩)).mono ?_
   rintro e w2 ⟨rfl,h9⟩
   have HE2:Hid (Lk2 Xb w w2 (A8 B aS aH aF aL) B lo M' f aK cK):=h9
   clear HE h9
   obtain⟨f0,f1,f2,f3,f4,f5,f6,f7,f8,f9,f10,f11,f12,f13,ff,fs⟩:=Aa HE2.out.fb
   go_wp2_with fail
   refine(fun (H:∀ W3:World,Lk2 Xb w W3 (A8 B aS aH aF aL) B lo M' g aK cK->K1 _ W3)=>H _ (HE2.out.all g)) ?_
   clear HE2
   clear f0 f1 f2 f3 f4 f5 f6 f7 f8 f9 f10 f11 f12 f13 ff fs
   intro w3 h3
   have HE3:Hid (Lk2 Xb w w3 (A8 B aS aH aF aL) B lo M' g aK cK):=h3
   clear h3
   refine HK1.out _ _ ?_
   clear HK1
   obtain⟨f0,f1,f2,f3,f4,f5,f6,f7,f8,f9,f10,f11,f12,f13,ff,fs⟩:=Aa HE3.out.fb
   rw[HG.out.2] at f10
   go_wp2_with fail
   have HE4:Hid (Lk2 Xb w _ (A8 B aS aH aF aL) B lo M' { g with n:=1000000 } aK cK):=HE3.out.store 10 (O J (1000000)) { g with n:=1000000 } rfl
   clear HE3
   refine(Cc { g with n:=1000000 } 2 aK cK _).mono ?_
   rintro e w9 ⟨rfl,hb9⟩
   have HE9:Hid (Lk2 Xb w w9 (A8 B aS aH aF aL) B lo M' { g with n:=1000000 } aK cK):=HE4.out.below hb9
   clear HE4 hb9
   clear f0 f1 f2 f3 f4 f5 f6 f7 f8 f9 f10 f11 f12 f13 ff fs
   obtain⟨g0,g1,g2,g3,g4,g5,g6,g7,g8,g9,g10,g11,g12,g13,gf,gs⟩:=Aa HE9.out.zb
   go_wp2
   refine bodyPost_ret (v:=.agg #[O J (toF { g with n:=1000000 } 2).c.kind,O J (toF { g with n:=1000000 } 2).c.a,O J (toF { g with n:=1000000 } 2).c.b,O J (toF { g with n:=1000000 } 2).c.time,O J (toF { g with n:=1000000 } 2).c.bk,O J (toF { g with n:=1000000 } 2).c.slot,O J (toF { g with n:=1000000 } 2).pl,O J (toF { g with n:=1000000 } 2).cur,O J (toF { g with n:=1000000 } 2).prev,O J (toF { g with n:=1000000 } 2).slot,O J (toF { g with n:=1000000 } 2).n,Y aK (toF { g with n:=1000000 } 2).keys.length cK,.bool (toF { g with n:=1000000 } 2).done,O J (toF { g with n:=1000000 } 2).e]) (by simp[results,Tryz.results194,go_sem,toF,g0,g1,g2,g3,g4,g5,g6,g7,g8,g9,g10,g11,g12,g13]) rfl ⟨⟨aK,cK,rfl,HR.out.fine HE9.out.Ah.2 HZ.out,(fun ad h=>.inl h),fun _=>⟨rfl,rfl⟩⟩,HE9.out.Ah⟩
end
section
open Go.ChangeShapes Go.WideShapes Go.ChangeAt Go.RowKit Go.Joins Go.Deep Go.Sort
variable {Xb:Ex}
theorem a4h(M:Mm)(f:Fr):(Fg M f).done=f.done:=by
 unfold Fg
 split
 ·split
  ·rfl
  ·split <;> rfl
 ·rfl
theorem a5k(t:Int)(M:Mm)(f:Fr)(B lo:Nat)(aS aH aF aL:Option Addr)(cS cH cF cL:Nat)(aK:Option Addr)(cK:Nat)(w:World)
  (m:Mine Xb w B lo aS aH aF aL cS cH cF cL M) (hM:Ok M) (hf:Fit M f) (hk:f.c.kind=4\/f.c.kind=5) (r:Ag w aK cK f.keys) (hz:∀ ad,aK=some ad->¬ A8 B aS aH aF aL ad.block) :
  Calls Tryz.prog 161 #[.pointer (some ⟨B,0,none⟩),.agg #[O J f.c.kind,O J f.c.a,O J f.c.b,O J f.c.time,O J f.c.bk,O J f.c.slot,O J f.pl,O J f.cur,O J f.prev,O J f.slot,O J f.n,Y aK f.keys.length cK,.bool f.done,O J f.e],O J t] w fun e w'=>b3n w w' e (swF M f) aK cK f.keys/\Has Xb w' B lo (Up w (A8 B aS aH aF aL)) (swM t M f)/\Fine w w' (A8 B aS aH aF aL):=by
 obtain⟨c,pl,cur,prev,slot,nn,keys,done,ee⟩:=f
 have hd:done=false:=hf.done
 subst hd
 have hpl:0<=pl/\pl<=9:=hf.pl
 have toS:∀ {g:Fr} {M':Mm} {e:Ending} {w':World},g.done=false->g.keys=keys->(Ret w w' e g aK cK/\Has Xb w' B lo (Up w (A8 B aS aH aF aL)) M'/\Fine w w' (A8 B aS aH aF aL))->b3n w w' e g aK cK keys/\Has Xb w' B lo (Up w (A8 B aS aH aF aL)) M'/\Fine w w' (A8 B aS aH aF aL):=fun hd hl h=>⟨h.1.s hd hl,h.2⟩
 have toO:∀ {g:Fr} {M':Mm} {e:Ending} {w':World},(Ze w w' e g/\Has Xb w' B lo (Up w (A8 B aS aH aF aL)) M'/\Fine w w' (A8 B aS aH aF aL))->b3n w w' e g aK cK keys/\Has Xb w' B lo (Up w (A8 B aS aH aF aL)) M'/\Fine w w' (A8 B aS aH aF aL):=fun h=>⟨.inr h.1,h.2⟩
 by_cases h7:7<=pl
 ·rw[swF7 (f:=⟨c,pl,cur,prev,slot,nn,keys,false,ee⟩) h7,Ep (f:=⟨c,pl,cur,prev,slot,nn,keys,false,ee⟩) (by show pl≠0/\pl≠4/\pl≠5/\pl≠6;omega)]
  exact(a4k t M c pl cur prev slot nn ee keys B lo aS aH aF aL cS cH cF cL aK cK w m r h7).mono (fun _ _ h=>toS rfl rfl h)
 ·obtain rfl|rfl|rfl|rfl|rfl|rfl|rfl:pl=0\/pl=1\/pl=2\/pl=3\/pl=4\/pl=5\/pl=6:=by omega
  ·exact(b6x t M _ _ c cur prev slot nn ee keys B lo aS aH aF aL cS cH cF cL aK cK w m r (by rw[a4e rfl];unfold Fh;split <;> rfl) (fun W m' r'=>by
   rw[a4e rfl,b6q rfl]
   exact b6u M ⟨c,0,cur,prev,slot,nn,keys,false,ee⟩ t B lo aS aH aF aL cS cH cF cL aK cK W m' hM hf r' hz)).mono (fun _ _ h=>toS (by rw[a4e rfl];unfold Fh;split <;> rfl) (by rw[a4e rfl];unfold Fh;split <;> rfl) h)
  ·exact(b6y t M _ _ c cur prev slot nn ee keys B lo aS aH aF aL cS cH cF cL aK cK w m r (by rw[a4f rfl];rfl) (fun W m' r'=>by
   rw[a4f rfl,Ep (by show (1:Int)≠0/\(1:Int)≠4/\(1:Int)≠5/\(1:Int)≠6;omega)]
   exact b2y M ⟨c,1,cur,prev,slot,nn,keys,false,ee⟩ B lo aS aH aF aL cS cH cF cL aK cK W m' hM hf r' hz)).mono (fun _ _ h=>toS (by rw[a4f rfl];rfl) (by rw[a4f rfl];rfl) h)
  ·have hms:swM t M ⟨c,2,cur,prev,slot,nn,keys,false,ee⟩=M:=Ep (by show (2:Int)≠0/\(2:Int)≠4/\(2:Int)≠5/\(2:Int)≠6;omega)
   rw[hms]
   have hkl:keys.length<=100:=hf.keys
   rcases a4i M ⟨c,2,cur,prev,slot,nn,keys,false,ee⟩ B lo aS aH aF aL cS cH cF cL aK cK hM hf hk hz with ⟨hky,hp⟩|hp
   ·exact(b6z t M _ _ c cur prev slot nn ee keys B lo aS aH aF aL cS cH cF cL aK cK w m r (by rw[Xx rfl];exact hky) (fun W m' r'=>by rw[Xx rfl];exact hp W m' r')).mono (fun _ _ h=>toS (by rw[Xx rfl];exact a4h _ _) (by rw[Xx rfl];exact hky) h)
   ·exact(b3a t M _ _ c cur prev slot nn ee keys B lo aS aH aF aL cS cH cF cL aK cK w m r (fun W m' r'=>by rw[Xx rfl];exact hp W m' r')).mono (fun _ _ h=>toO h)
  ·exact(b7a t M _ _ c cur prev slot nn ee keys B lo aS aH aF aL cS cH cF cL aK cK w m r (by rw[a4g rfl];unfold Hr;split <;> rfl) (fun W m' r'=>by
   rw[a4g rfl,Ep (by show (3:Int)≠0/\(3:Int)≠4/\(3:Int)≠5/\(3:Int)≠6;omega)]
   exact b6v M ⟨c,3,cur,prev,slot,nn,keys,false,ee⟩ B lo aS aH aF aL cS cH cF cL aK cK W m' hM hf r' hz)).mono (fun _ _ h=>toS (by rw[a4g rfl];unfold Hr;split <;> rfl) (by rw[a4g rfl];unfold Hr;split <;> rfl) h)
  ·exact(b7b t M _ _ c cur prev slot nn ee keys B lo aS aH aF aL cS cH cF cL aK cK w m r (by rw[a8x rfl];unfold Ls;split <;> rfl) (fun W m' r'=>by
   rw[a8x rfl,b9o rfl]
   exact b6t M ⟨c,4,cur,prev,slot,nn,keys,false,ee⟩ B lo aS aH aF aL cS cH cF cL aK cK W m' hM hf r' hz)).mono (fun _ _ h=>toS (by rw[a8x rfl];unfold Ls;split <;> rfl) (by rw[a8x rfl];unfold Ls;split <;> rfl) h)
  ·exact(b7c t M _ _ c cur prev slot nn ee keys B lo aS aH aF aL cS cH cF cL aK cK w m r (by rw[a8y rfl];unfold J5;split <;> rfl) (fun W m' r'=>by
   rw[a8y rfl,b9p rfl]
   exact b9r M ⟨c,5,cur,prev,slot,nn,keys,false,ee⟩ B lo aS aH aF aL cS cH cF cL aK cK W m' hM hf r' hz)).mono (fun _ _ h=>toS (by rw[a8y rfl];unfold J5;split <;> rfl) (by rw[a8y rfl];unfold J5;split <;> rfl) h)
  ·exact(b3b t M _ _ c cur prev slot nn ee keys B lo aS aH aF aL cS cH cF cL aK cK w m r (fun W m' r'=>by
   rw[b6o rfl,b6r rfl]
   exact a9a M ⟨c,6,cur,prev,slot,nn,keys,false,ee⟩ t B lo aS aH aF aL cS cH cF cL aK cK W m' hM hf r' hz)).mono (fun _ _ h=>toO h)
end
end Go.Proofs.YthhgoenomehobaaGreat.mm
