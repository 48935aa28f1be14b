/- Parts. -/
import Derived.Test.YthhgoenomehobaaGreatS17
import Derived.Test.YthhgoenomehobaaGreatS06
import Derived.Deep.QuietTactic
import Derived.BigQuiet
import Derived.BigRegion
import Derived.Lib.QuietBelow
import Derived.Test.YthhgoenomehobaaGreatS18
namespace Go.Proofs.YthhgoenomehobaaGreat.mm
set_option maxRecDepth 100000
set_option linter.unusedVariables false
open Go.Value renaming int → O, slice → Y
open Go.IntKind renaming i64 → J
section
open Go.ChangeShapes Go.WideShapes Go.ChangeAt Go.RowKit Go.Joins Go.Deep Go.Sort
variable {Xb:Ex}
set_option maxHeartbeats 3200000 in
theorem b8o(M:Mm)(f:Fr)(B lo:Nat)(aS aH aF aL:Option Addr)(cS cH cF cL:Nat)(aK:Option Addr)(cK:Nat)(w:World)
  (m:Mine Xb w B lo aS aH aF aL cS cH cF cL M) (hM:Ok M) (hf:Fit M f) (r:Ag w aK cK f.keys) (hz:∀ ad,aK=some ad->¬ A8 B aS aH aF aL ad.block) :
  Calls Tryz.prog 183 #[.pointer (some ⟨B,0,none⟩),.agg #[O J f.c.kind,O J f.c.a,O J f.c.b,O J f.c.time,O J f.c.bk,O J f.c.slot,O J f.pl,O J f.cur,O J f.prev,O J f.slot,O J f.n,Y aK f.keys.length cK,.bool f.done,O J f.e]] w fun e w'=>Ret w w' e (Mc M f) aK cK/\Has Xb w' B lo (Up w (A8 B aS aH aF aL)) (M)/\Fine w w' (A8 B aS aH aF aL):=by
 have hns:=hM.ns
 have hnh:=hM.nh.2
 have hcur:=hf.cur.2
 have hc1:f.cur<=1000:=by omega
 have hn1:M.slots.length<=1000:=by omega
 have HOk:Hid (Ok M):=hM
 have HR:Hid (Ag w aK cK f.keys):=r
 by_cases hat:D7 M f=true
 ·have h1:=Bv.1 hat
  obtain⟨j,hj⟩:∃ j:Nat,f.cur - 1=j:=⟨(f.cur - 1).toNat,by omega⟩
  have hjl:j<M.slots.length:=by omega
  obtain⟨gS,rfl,oS,lS,kS,-⟩:=Dc m.c.s (by omega)
  obtain⟨s,hs⟩:∃ s,s=A7 M (j:Int):=⟨_,rfl⟩
  have hst:stN f=j:=by unfold stN;rw[if_neg (by omega)];exact hj
  have hres:Mc M f=toF f (if lkK s f then 4 else 3):=by unfold Mc;rw[if_pos hat,hj,<- hs]
  rw[hres]
  have HSt:Hid (∀ (W:World),Lk Xb w W B lo (some ⟨gS,0,none⟩) aH aF aL cS cH cF cL M f aK cK->Calls Tryz.prog 200 #[.pointer (some ⟨B,0,none⟩),.agg #[O J f.c.kind,O J f.c.a,O J f.c.b,O J f.c.time,O J f.c.bk,O J f.c.slot,O J f.pl,O J f.cur,O J f.prev,O J f.slot,O J f.n,Y aK f.keys.length cK,.bool f.done,O J f.e]] W fun e w'=>e=.returned (.tuple #[O J ((j:Int)),.bool true])/\Lk Xb w w' B lo (some ⟨gS,0,none⟩) aH aF aL cS cH cF cL M f aK cK):=fun W h=>by
   have:=Bo M f B _ _ _ _ cS cH cF cL aK cK W h.m.box hc1 hn1
   rw[hst,hat] at this
   exact this.mono (fun e w' h'=>⟨h'.1,h.below h'.2⟩)
  have HX:Hid (∀ W,Mine Xb W B lo (some ⟨gS,0,none⟩) aH aF aL cS cH cF cL M->W.cell? ⟨gS,j*6+1,none⟩=some (O J s.a)/\W.cell? ⟨gS,j*6+2,none⟩=some (O J s.b)/\W.cell? ⟨gS,j*6+5,none⟩=some (O J s.next)):=fun W m'=>⟨(Bd m'.c.s hjl hs).2.1,(Bd m'.c.s hjl hs).2.2.1,(Bd m'.c.s hjl hs).2.2.2.2.2.1⟩
  cases hk:lkK s f
  ·show Calls Tryz.prog 183 _ w fun e w'=>Ret w w' e (toF f 3) aK cK/\Has Xb w' B lo (Up w (A8 B (some ⟨gS,0,none⟩) aH aF aL)) (M)/\Fine w w' (A8 B (some ⟨gS,0,none⟩) aH aF aL)
   have se:∀ W:World,(Op.equalIn 10000 30 (.agg #[O J s.a,O J s.b]) (.agg #[O J f.c.a,O J f.c.b])).run Tryz.prog W=.ok false W:=fun W=>by rw[P6];exact congrArg (fun b=>Result.ok b W) hk
   have HZ:Hid (∀ ad,aK=some ad->¬ (A8 B (some ⟨gS,0,none⟩) aH aF aL) ad.block):=hz
   obtain⟨of,hof⟩:=frObj f aK cK
   obtain⟨oz,hoz⟩:∃ o:Obj,o=Ac:=⟨_,rfl⟩
   have HE:Hid (Lk Xb w ((w.alloc of).alloc oz) B lo (some ⟨gS,0,none⟩) aH aF aL cS cH cF cL M f aK cK):=Lk.first m f aK cK hof hoz
   obtain⟨q0,q1,q2,q3,q4,-,-,-,-,-,qs⟩:=Aj HE.out.m.box
   obtain⟨f0,f1,f2,f3,f4,f5,f6,f7,f8,f9,f10,f11,f12,f13,ff,fs⟩:=Aa HE.out.fb
   unfold Ac at hoz
   clear m hc1 hn1 hcur hns hnh hM hf r hz hk hres hs hst hat h1
   go_enter Tryz.func183,Tryz.ntmps183
   go_wp2_with fail
   rw[<- hof,<- hoz]
   generalize (w.alloc of).alloc oz=W0 at *
   subst hof hoz
   clear q0 q1 q2 q3 q4 qs
   clear f0 f1 f2 f3 f4 f5 f6 f7 f8 f9 f10 f11 f12 f13 ff fs
   refine(HSt.out _ (by exact HE.out.below ⟨rfl,rfl,rfl,Nat.le_refl _,fun _ _=>rfl⟩)).mono ?_
   rintro e w1 ⟨rfl,h9⟩
   have HE1:Hid (Lk Xb w w1 B lo (some ⟨gS,0,none⟩) aH aF aL cS cH cF cL M f aK cK):=h9
   clear HE h9
   obtain⟨q0,q1,q2,q3,q4,-,-,-,-,-,qs⟩:=Aj HE1.out.m.box
   obtain⟨f0,f1,f2,f3,f4,f5,f6,f7,f8,f9,f10,f11,f12,f13,ff,fs⟩:=Aa HE1.out.fb
   obtain⟨x1,x2,x5⟩:=HX.out w1 HE1.out.m
   go_wp2_with fail
   go_quiet (fail)
   go_wp2_with fail
   have HE2:Hid (Lk2 Xb w (w1.drewN nq) (A8 B (some ⟨gS,0,none⟩) aH aF aL) B lo M f aK cK):=(HE1.out.below (w2:=w1.drewN nq) ⟨rfl,rfl,rfl,Nat.le_refl _,fun _ _=>rfl⟩).two
   clear HE1 x1 x2 x5
   clear q0 q1 q2 q3 q4 qs
   refine(Cc f 3 aK cK _).mono ?_
   rintro e w9 ⟨rfl,hb9⟩
   have HE9:Hid (Lk2 Xb w w9 (A8 B (some ⟨gS,0,none⟩) aH aF aL) B lo M f aK cK):=HE2.out.below hb9
   clear HE2 hb9
   clear f0 f1 f2 f3 f4 f5 f6 f7 f8 f9 f10 f11 f12 f13 ff fs
   obtain⟨g0,g1,g2,g3,g4,g5,g6,g7,g8,g9,g10,g11,g12,g13,gf,gs⟩:=Aa HE9.out.zb
   go_wp2
   refine bodyPost_ret (v:=.agg #[O J (toF f 3).c.kind,O J (toF f 3).c.a,O J (toF f 3).c.b,O J (toF f 3).c.time,O J (toF f 3).c.bk,O J (toF f 3).c.slot,O J (toF f 3).pl,O J (toF f 3).cur,O J (toF f 3).prev,O J (toF f 3).slot,O J (toF f 3).n,Y aK (toF f 3).keys.length cK,.bool (toF f 3).done,O J (toF f 3).e]) (by simp[results,Tryz.results183,go_sem,toF,g0,g1,g2,g3,g4,g5,g6,g7,g8,g9,g10,g11,g12,g13]) rfl ⟨⟨aK,cK,rfl,HR.out.fine HE9.out.Ah.2 HZ.out,(fun ad h=>.inl h),fun _=>⟨rfl,rfl⟩⟩,HE9.out.Ah⟩
  ·show Calls Tryz.prog 183 _ w fun e w'=>Ret w w' e (toF f 4) aK cK/\Has Xb w' B lo (Up w (A8 B (some ⟨gS,0,none⟩) aH aF aL)) (M)/\Fine w w' (A8 B (some ⟨gS,0,none⟩) aH aF aL)
   have se:∀ W:World,(Op.equalIn 10000 30 (.agg #[O J s.a,O J s.b]) (.agg #[O J f.c.a,O J f.c.b])).run Tryz.prog W=.ok true W:=fun W=>by rw[P6];exact congrArg (fun b=>Result.ok b W) hk
   have HZ:Hid (∀ ad,aK=some ad->¬ (A8 B (some ⟨gS,0,none⟩) aH aF aL) ad.block):=hz
   obtain⟨of,hof⟩:=frObj f aK cK
   obtain⟨oz,hoz⟩:∃ o:Obj,o=Ac:=⟨_,rfl⟩
   have HE:Hid (Lk Xb w ((w.alloc of).alloc oz) B lo (some ⟨gS,0,none⟩) aH aF aL cS cH cF cL M f aK cK):=Lk.first m f aK cK hof hoz
   obtain⟨q0,q1,q2,q3,q4,-,-,-,-,-,qs⟩:=Aj HE.out.m.box
   obtain⟨f0,f1,f2,f3,f4,f5,f6,f7,f8,f9,f10,f11,f12,f13,ff,fs⟩:=Aa HE.out.fb
   unfold Ac at hoz
   clear m hc1 hn1 hcur hns hnh hM hf r hz hk hres hs hst hat h1
   go_enter Tryz.func183,Tryz.ntmps183
   go_wp2_with fail
   rw[<- hof,<- hoz]
   generalize (w.alloc of).alloc oz=W0 at *
   subst hof hoz
   clear q0 q1 q2 q3 q4 qs
   clear f0 f1 f2 f3 f4 f5 f6 f7 f8 f9 f10 f11 f12 f13 ff fs
   refine(HSt.out _ (by exact HE.out.below ⟨rfl,rfl,rfl,Nat.le_refl _,fun _ _=>rfl⟩)).mono ?_
   rintro e w1 ⟨rfl,h9⟩
   have HE1:Hid (Lk Xb w w1 B lo (some ⟨gS,0,none⟩) aH aF aL cS cH cF cL M f aK cK):=h9
   clear HE h9
   obtain⟨q0,q1,q2,q3,q4,-,-,-,-,-,qs⟩:=Aj HE1.out.m.box
   obtain⟨f0,f1,f2,f3,f4,f5,f6,f7,f8,f9,f10,f11,f12,f13,ff,fs⟩:=Aa HE1.out.fb
   obtain⟨x1,x2,x5⟩:=HX.out w1 HE1.out.m
   go_wp2_with fail
   go_quiet (fail)
   go_wp2_with fail
   have HE2:Hid (Lk2 Xb w (w1.drewN nq) (A8 B (some ⟨gS,0,none⟩) aH aF aL) B lo M f aK cK):=(HE1.out.below (w2:=w1.drewN nq) ⟨rfl,rfl,rfl,Nat.le_refl _,fun _ _=>rfl⟩).two
   clear HE1 x1 x2 x5
   clear q0 q1 q2 q3 q4 qs
   refine(Cc f 4 aK cK _).mono ?_
   rintro e w9 ⟨rfl,hb9⟩
   have HE9:Hid (Lk2 Xb w w9 (A8 B (some ⟨gS,0,none⟩) aH aF aL) B lo M f aK cK):=HE2.out.below hb9
   clear HE2 hb9
   clear f0 f1 f2 f3 f4 f5 f6 f7 f8 f9 f10 f11 f12 f13 ff fs
   obtain⟨g0,g1,g2,g3,g4,g5,g6,g7,g8,g9,g10,g11,g12,g13,gf,gs⟩:=Aa HE9.out.zb
   go_wp2
   refine bodyPost_ret (v:=.agg #[O J (toF f 4).c.kind,O J (toF f 4).c.a,O J (toF f 4).c.b,O J (toF f 4).c.time,O J (toF f 4).c.bk,O J (toF f 4).c.slot,O J (toF f 4).pl,O J (toF f 4).cur,O J (toF f 4).prev,O J (toF f 4).slot,O J (toF f 4).n,Y aK (toF f 4).keys.length cK,.bool (toF f 4).done,O J (toF f 4).e]) (by simp[results,Tryz.results183,go_sem,toF,g0,g1,g2,g3,g4,g5,g6,g7,g8,g9,g10,g11,g12,g13]) rfl ⟨⟨aK,cK,rfl,HR.out.fine HE9.out.Ah.2 HZ.out,(fun ad h=>.inl h),fun _=>⟨rfl,rfl⟩⟩,HE9.out.Ah⟩
 ·have hat0:D7 M f=false:=by simpa using hat
  have hres:Mc M f=Cf f 5 5:=by unfold Mc;rw[if_neg hat]
  rw[hres]
  have HSt:Hid (∀ (W:World),Lk Xb w W B lo aS aH aF aL cS cH cF cL M f aK cK->Calls Tryz.prog 200 #[.pointer (some ⟨B,0,none⟩),.agg #[O J f.c.kind,O J f.c.a,O J f.c.b,O J f.c.time,O J f.c.bk,O J f.c.slot,O J f.pl,O J f.cur,O J f.prev,O J f.slot,O J f.n,Y aK f.keys.length cK,.bool f.done,O J f.e]] W fun e w'=>e=.returned (.tuple #[O J (stN f),.bool false])/\Lk Xb w w' B lo aS aH aF aL cS cH cF cL M f aK cK):=fun W h=>by
   have:=Bo M f B _ _ _ _ cS cH cF cL aK cK W h.m.box hc1 hn1
   rw[hat0] at this
   exact this.mono (fun e w' h'=>⟨h'.1,h.below h'.2⟩)
  have HZ:Hid (∀ ad,aK=some ad->¬ (A8 B aS aH aF aL) ad.block):=hz
  obtain⟨of,hof⟩:=frObj f aK cK
  obtain⟨oz,hoz⟩:∃ o:Obj,o=Ac:=⟨_,rfl⟩
  have HE:Hid (Lk Xb w ((w.alloc of).alloc oz) B lo aS aH aF aL cS cH cF cL M f aK cK):=Lk.first m f aK cK hof hoz
  obtain⟨q0,q1,q2,q3,q4,-,-,-,-,-,qs⟩:=Aj HE.out.m.box
  obtain⟨f0,f1,f2,f3,f4,f5,f6,f7,f8,f9,f10,f11,f12,f13,ff,fs⟩:=Aa HE.out.fb
  unfold Ac at hoz
  clear m hc1 hn1 hcur hns hnh hM hf r hz hres hat hat0
  go_enter Tryz.func183,Tryz.ntmps183
  go_wp2_with fail
  rw[<- hof,<- hoz]
  generalize (w.alloc of).alloc oz=W0 at *
  subst hof hoz
  clear q0 q1 q2 q3 q4 qs
  clear f0 f1 f2 f3 f4 f5 f6 f7 f8 f9 f10 f11 f12 f13 ff fs
  refine(HSt.out _ (by exact HE.out.below ⟨rfl,rfl,rfl,Nat.le_refl _,fun _ _=>rfl⟩)).mono ?_
  rintro e w1 ⟨rfl,h9⟩
  have HE1:Hid (Lk Xb w w1 B lo aS aH aF aL cS cH cF cL M f aK cK):=h9
  clear HE h9
  obtain⟨q0,q1,q2,q3,q4,-,-,-,-,-,qs⟩:=Aj HE1.out.m.box
  obtain⟨f0,f1,f2,f3,f4,f5,f6,f7,f8,f9,f10,f11,f12,f13,ff,fs⟩:=Aa HE1.out.fb
  go_wp2_with fail
  have HE2:Hid (Lk2 Xb w _ (A8 B aS aH aF aL) B lo M { f with e:=5 } aK cK):=(HE1.out.store 13 (O J 5) { f with e:=5 } rfl).two
  clear HE1
  clear q0 q1 q2 q3 q4 qs
  refine(Cc { f with e:=5 } 5 aK cK _).mono ?_
  rintro e w9 ⟨rfl,hb9⟩
  have HE9:Hid (Lk2 Xb w w9 (A8 B aS aH aF aL) B lo M { f with e:=5 } aK cK):=HE2.out.below hb9
  clear HE2 hb9
  clear f0 f1 f2 f3 f4 f5 f6 f7 f8 f9 f10 f11 f12 f13 ff fs
  obtain⟨g0,g1,g2,g3,g4,g5,g6,g7,g8,g9,g10,g11,g12,g13,gf,gs⟩:=Aa HE9.out.zb
  go_wp2
  refine bodyPost_ret (v:=.agg #[O J (Cf f 5 5).c.kind,O J (Cf f 5 5).c.a,O J (Cf f 5 5).c.b,O J (Cf f 5 5).c.time,O J (Cf f 5 5).c.bk,O J (Cf f 5 5).c.slot,O J (Cf f 5 5).pl,O J (Cf f 5 5).cur,O J (Cf f 5 5).prev,O J (Cf f 5 5).slot,O J (Cf f 5 5).n,Y aK (Cf f 5 5).keys.length cK,.bool (Cf f 5 5).done,O J (Cf f 5 5).e]) (by simp[results,Tryz.results183,go_sem,Cf,toF,g0,g1,g2,g3,g4,g5,g6,g7,g8,g9,g10,g11,g12,g13]) rfl ⟨⟨aK,cK,rfl,HR.out.fine HE9.out.Ah.2 HZ.out,(fun ad h=>.inl h),fun _=>⟨rfl,rfl⟩⟩,HE9.out.Ah⟩
end
section
open Go.ChangeShapes Go.WideShapes Go.ChangeAt Go.RowKit Go.Joins Go.Deep Go.Sort
variable {Xb:Ex}
set_option maxHeartbeats 3200000 in
theorem b4v(M:Mm)(f:Fr)(B lo:Nat)(aS aH aF aL:Option Addr)(cS cH cF cL:Nat)(aK:Option Addr)(cK:Nat)(w:World)
  (m:Mine Xb w B lo aS aH aF aL cS cH cF cL M) (hM:Ok M) (hf:Fit M f) (r:Ag w aK cK f.keys) (hz:∀ ad,aK=some ad->¬ A8 B aS aH aF aL ad.block) :
  Calls Tryz.prog 184 #[.pointer (some ⟨B,0,none⟩),.agg #[O J f.c.kind,O J f.c.a,O J f.c.b,O J f.c.time,O J f.c.bk,O J f.c.slot,O J f.pl,O J f.cur,O J f.prev,O J f.slot,O J f.n,Y aK f.keys.length cK,.bool f.done,O J f.e]] w fun e w'=>Ret w w' e (Jo M f) aK cK/\Has Xb w' B lo (Up w (A8 B aS aH aF aL)) (M)/\Fine w w' (A8 B aS aH aF aL):=by
 have hns:=hM.ns
 have hnh:=hM.nh.2
 have hcur:=hf.cur.2
 have hc1:f.cur<=1000:=by omega
 have hn1:M.slots.length<=1000:=by omega
 have HOk:Hid (Ok M):=hM
 have HR:Hid (Ag w aK cK f.keys):=r
 by_cases hat:D7 M f=true
 ·obtain⟨g,hg⟩:∃ g:Fr,g = { f with prev:=f.cur,cur:=(A7 M (f.cur - 1)).next }:=⟨_,rfl⟩
  have hres:Jo M f=toF g 2:=by unfold Jo;rw[if_pos hat,hg];rfl
  have hkeys:g.keys=f.keys:=by rw[hg]
  rw[hres]
  have HOn:Hid (∀ W:World,Lk Xb w W B lo aS aH aF aL cS cH cF cL M f aK cK->Calls Tryz.prog 209 #[.pointer (some ⟨B,0,none⟩),.agg #[O J f.c.kind,O J f.c.a,O J f.c.b,O J f.c.time,O J f.c.bk,O J f.c.slot,O J f.pl,O J f.cur,O J f.prev,O J f.slot,O J f.n,Y aK f.keys.length cK,.bool f.done,O J f.e]] W fun e w'=>e=.returned (.tuple #[.agg #[O J g.c.kind,O J g.c.a,O J g.c.b,O J g.c.time,O J g.c.bk,O J g.c.slot,O J g.pl,O J g.cur,O J g.prev,O J g.slot,O J g.n,Y aK g.keys.length cK,.bool g.done,O J g.e],.bool true])/\Lk2 Xb w w' (A8 B aS aH aF aL) B lo M f aK cK):=fun W h=>by
   have:=Xf M f B lo aS aH aF aL cS cH cF cL aK cK W h.m HOk.out hf hat
   rw[<- hg] at this
   exact this.mono (fun e w' h'=>⟨h'.1,h.after h'.2.1 h'.2.2⟩)
  rw[<- hkeys] at HR
  have HZ:Hid (∀ ad,aK=some ad->¬ (A8 B aS aH aF aL) ad.block):=hz
  obtain⟨of,hof⟩:=frObj f aK cK
  obtain⟨oz,hoz⟩:∃ o:Obj,o=Ac:=⟨_,rfl⟩
  have HE:Hid (Lk Xb w ((w.alloc of).alloc oz) B lo aS aH aF aL cS cH cF cL M f aK cK):=Lk.first m f aK cK hof hoz
  obtain⟨q0,q1,q2,q3,q4,-,-,-,-,-,qs⟩:=Aj HE.out.m.box
  obtain⟨f0,f1,f2,f3,f4,f5,f6,f7,f8,f9,f10,f11,f12,f13,ff,fs⟩:=Aa HE.out.fb
  unfold Ac at hoz
  clear m hc1 hn1 hcur hns hnh hM hf r hz hres hg hkeys hat
  go_enter Tryz.func184,Tryz.ntmps184
  go_wp2_with fail
  rw[<- hof,<- hoz]
  generalize (w.alloc of).alloc oz=W0 at *
  subst hof hoz
  clear q0 q1 q2 q3 q4 qs
  clear f0 f1 f2 f3 f4 f5 f6 f7 f8 f9 f10 f11 f12 f13 ff fs
  rename_i K1 hK1 K0 hK0
  have HK1:Hid _:=hK1
  clear hK1
  refine(HOn.out _ (by exact HE.out.below ⟨rfl,rfl,rfl,Nat.le_refl _,fun _ _=>rfl⟩)).mono ?_
  rintro e w2 ⟨rfl,h9⟩
  have HE2:Hid (Lk2 Xb w w2 (A8 B aS aH aF aL) B lo M f aK cK):=h9
  clear HE h9
  obtain⟨f0,f1,f2,f3,f4,f5,f6,f7,f8,f9,f10,f11,f12,f13,ff,fs⟩:=Aa HE2.out.fb
  go_wp2_with fail
  refine(fun (H:∀ W3:World,Lk2 Xb w W3 (A8 B aS aH aF aL) B lo M g aK cK->K1 _ W3)=>H _ (HE2.out.all g)) ?_
  clear HE2
  clear f0 f1 f2 f3 f4 f5 f6 f7 f8 f9 f10 f11 f12 f13 ff fs
  intro w3 h3
  have HE3:Hid (Lk2 Xb w w3 (A8 B aS aH aF aL) B lo M g aK cK):=h3
  clear h3
  refine HK1.out _ _ ?_
  clear HK1
  obtain⟨f0,f1,f2,f3,f4,f5,f6,f7,f8,f9,f10,f11,f12,f13,ff,fs⟩:=Aa HE3.out.fb
  go_wp2_with fail
  refine(Cc g 2 aK cK _).mono ?_
  rintro e w9 ⟨rfl,hb9⟩
  have HE9:Hid (Lk2 Xb w w9 (A8 B aS aH aF aL) B lo M g aK cK):=HE3.out.below hb9
  clear HE3 hb9
  clear f0 f1 f2 f3 f4 f5 f6 f7 f8 f9 f10 f11 f12 f13 ff fs
  obtain⟨g0,g1,g2,g3,g4,g5,g6,g7,g8,g9,g10,g11,g12,g13,gf,gs⟩:=Aa HE9.out.zb
  go_wp2
  refine bodyPost_ret (v:=.agg #[O J (toF g 2).c.kind,O J (toF g 2).c.a,O J (toF g 2).c.b,O J (toF g 2).c.time,O J (toF g 2).c.bk,O J (toF g 2).c.slot,O J (toF g 2).pl,O J (toF g 2).cur,O J (toF g 2).prev,O J (toF g 2).slot,O J (toF g 2).n,Y aK (toF g 2).keys.length cK,.bool (toF g 2).done,O J (toF g 2).e]) (by simp[results,Tryz.results184,go_sem,toF,g0,g1,g2,g3,g4,g5,g6,g7,g8,g9,g10,g11,g12,g13]) rfl ⟨⟨aK,cK,rfl,HR.out.fine HE9.out.Ah.2 HZ.out,(fun ad h=>.inl h),fun _=>⟨rfl,rfl⟩⟩,HE9.out.Ah⟩
 ·have hat0:D7 M f=false:=by simpa using hat
  obtain⟨g,hg⟩:∃ g:Fr,g=f:=⟨_,rfl⟩
  have hres:Jo M f=Cf g 8 5:=by unfold Jo;rw[if_neg hat,hg]
  have hkeys:g.keys=f.keys:=by rw[hg]
  rw[hres]
  have HOn:Hid (∀ W:World,Lk Xb w W B lo aS aH aF aL cS cH cF cL M f aK cK->Calls Tryz.prog 209 #[.pointer (some ⟨B,0,none⟩),.agg #[O J f.c.kind,O J f.c.a,O J f.c.b,O J f.c.time,O J f.c.bk,O J f.c.slot,O J f.pl,O J f.cur,O J f.prev,O J f.slot,O J f.n,Y aK f.keys.length cK,.bool f.done,O J f.e]] W fun e w'=>e=.returned (.tuple #[.agg #[O J g.c.kind,O J g.c.a,O J g.c.b,O J g.c.time,O J g.c.bk,O J g.c.slot,O J g.pl,O J g.cur,O J g.prev,O J g.slot,O J g.n,Y aK g.keys.length cK,.bool g.done,O J g.e],.bool false])/\Lk2 Xb w w' (A8 B aS aH aF aL) B lo M f aK cK):=fun W h=>by
   have:=Yx M f B lo aS aH aF aL cS cH cF cL aK cK W h.m HOk.out hf hat0
   rw[hg]
   exact this.mono (fun e w' h'=>⟨h'.1,h.after h'.2.1 h'.2.2⟩)
  rw[<- hkeys] at HR
  have HZ:Hid (∀ ad,aK=some ad->¬ (A8 B aS aH aF aL) ad.block):=hz
  obtain⟨of,hof⟩:=frObj f aK cK
  obtain⟨oz,hoz⟩:∃ o:Obj,o=Ac:=⟨_,rfl⟩
  have HE:Hid (Lk Xb w ((w.alloc of).alloc oz) B lo aS aH aF aL cS cH cF cL M f aK cK):=Lk.first m f aK cK hof hoz
  obtain⟨q0,q1,q2,q3,q4,-,-,-,-,-,qs⟩:=Aj HE.out.m.box
  obtain⟨f0,f1,f2,f3,f4,f5,f6,f7,f8,f9,f10,f11,f12,f13,ff,fs⟩:=Aa HE.out.fb
  unfold Ac at hoz
  clear m hc1 hn1 hcur hns hnh hM hf r hz hres hg hkeys hat hat0
  go_enter Tryz.func184,Tryz.ntmps184
  go_wp2_with fail
  rw[<- hof,<- hoz]
  generalize (w.alloc of).alloc oz=W0 at *
  subst hof hoz
  clear q0 q1 q2 q3 q4 qs
  clear f0 f1 f2 f3 f4 f5 f6 f7 f8 f9 f10 f11 f12 f13 ff fs
  rename_i K1 hK1 K0 hK0
  have HK1:Hid _:=hK1
  clear hK1
  refine(HOn.out _ (by exact HE.out.below ⟨rfl,rfl,rfl,Nat.le_refl _,fun _ _=>rfl⟩)).mono ?_
  rintro e w2 ⟨rfl,h9⟩
  have HE2:Hid (Lk2 Xb w w2 (A8 B aS aH aF aL) B lo M f aK cK):=h9
  clear HE h9
  obtain⟨f0,f1,f2,f3,f4,f5,f6,f7,f8,f9,f10,f11,f12,f13,ff,fs⟩:=Aa HE2.out.fb
  go_wp2_with fail
  refine(fun (H:∀ W3:World,Lk2 Xb w W3 (A8 B aS aH aF aL) B lo M g aK cK->K1 _ W3)=>H _ (HE2.out.all g)) ?_
  clear HE2
  clear f0 f1 f2 f3 f4 f5 f6 f7 f8 f9 f10 f11 f12 f13 ff fs
  intro w3 h3
  have HE3:Hid (Lk2 Xb w w3 (A8 B aS aH aF aL) B lo M g aK cK):=h3
  clear h3
  refine HK1.out _ _ ?_
  clear HK1
  obtain⟨f0,f1,f2,f3,f4,f5,f6,f7,f8,f9,f10,f11,f12,f13,ff,fs⟩:=Aa HE3.out.fb
  go_wp2_with fail
  refine(Qm g aK cK _).mono ?_
  rintro e w9 ⟨rfl,hb9⟩
  have HE9:Hid (Lk2 Xb w w9 (A8 B aS aH aF aL) B lo M g aK cK):=HE3.out.below hb9
  clear HE3 hb9
  clear f0 f1 f2 f3 f4 f5 f6 f7 f8 f9 f10 f11 f12 f13 ff fs
  obtain⟨g0,g1,g2,g3,g4,g5,g6,g7,g8,g9,g10,g11,g12,g13,gf,gs⟩:=Aa HE9.out.zb
  go_wp2
  refine bodyPost_ret (v:=.agg #[O J (Cf g 8 5).c.kind,O J (Cf g 8 5).c.a,O J (Cf g 8 5).c.b,O J (Cf g 8 5).c.time,O J (Cf g 8 5).c.bk,O J (Cf g 8 5).c.slot,O J (Cf g 8 5).pl,O J (Cf g 8 5).cur,O J (Cf g 8 5).prev,O J (Cf g 8 5).slot,O J (Cf g 8 5).n,Y aK (Cf g 8 5).keys.length cK,.bool (Cf g 8 5).done,O J (Cf g 8 5).e]) (by simp[results,Tryz.results184,go_sem,Cf,g0,g1,g2,g3,g4,g5,g6,g7,g8,g9,g10,g11,g12,g13]) rfl ⟨⟨aK,cK,rfl,HR.out.fine HE9.out.Ah.2 HZ.out,(fun ad h=>.inl h),fun _=>⟨rfl,rfl⟩⟩,HE9.out.Ah⟩
end
end Go.Proofs.YthhgoenomehobaaGreat.mm
