/- Parts. -/
import Derived.Test.YthhgoenomehobaaGreatP14
import Derived.Test.YthhgoenomehobaaGreatP13
import Derived.Test.YthhgoenomehobaaGreatP10
import Derived.Test.YthhgoenomehobaaGreatP09
import Derived.Test.YthhgoenomehobaaGreatP06
import Derived.Test.YthhgoenomehobaaGreatP08
import Derived.Laws.AppendOwnNone
import Derived.Test.YthhgoenomehobaaGreatP01
import Derived.Test.YthhgoenomehobaaGreatP05
namespace Go.Proofs.YthhgoenomehobaaGreat.mm
set_option maxRecDepth 100000
set_option linter.unusedVariables false
open Go.Value renaming int → O, slice → Y
open Go.IntKind renaming i64 → J
open Go.Proofs.Tryz renaming prog → Pg
open Go renaming undef → Uz, World → Wq
set_option maxHeartbeats 3200000
section
open Go.ChangeShapes Go.WideShapes Go.ChangeAt Go.RowKit Go.Joins Go.Deep Go.Sort
variable {Xb:Ex}
theorem b0m(M:Mm)(f:Fr)(B lo:Nat)(aS aH aF aL:Option Addr)(cS cH cF cL:Nat)(aK:Option Addr)(cK:Nat)(w:Wq)
  (m:Mine Xb w B lo aS aH aF aL cS cH cF cL M) (hM:Ok M) (hf:Fit M f) (r:Am w aK cK f.keys) (hz:∀ ad,aK=some ad->¬ Ac B aS aH aF aL ad.block) :
  Calls Pg 177 #[.pointer (some ⟨B,0,none⟩),.agg #[O J f.c.kind,O J f.c.a,O J f.c.b,O J f.c.time,O J f.c.bk,O J f.c.slot,O J f.pl,O J f.cur,O J f.prev,O J f.slot,O J f.n,Y aK f.keys.length cK,.bool f.done,O J f.e]] w fun e w'=>Ret w w' e (Ko M f) aK cK/\Has Xb w' B lo (Up w (Ac B aS aH aF aL)) (Jp M f)/\Fine w w' (Ac B aS aH aF aL):=by
 have hns:=hM.ns
 have hnh:=hM.nh.2
 have hcur:=hf.cur.2
 have hc1:f.cur<=1000:=by omega
 have hn1:M.slots.length<=1000:=by omega
 have HOk:Hid (Ok M):=hM
 have HR:Hid (Am w aK cK f.keys):=r
 obtain⟨b0,b1⟩:=He hM hf.call
 obtain⟨b,hb⟩:∃ b:Nat,Ey M.heads.length f.c=b:=⟨_,(Int.toNat_of_nonneg b0).symm⟩
 have hbl:b<M.heads.length:=by omega
 have hbn:bkN M f=b:=by unfold bkN;rw[hb];rfl
 cases hsl:Dc M f.slot
 ·have hres:Ko M f=Cc f:=by unfold Ko;rw[hsl];rfl
  have hresM:Jp M f=M:=by unfold Jp;rw[hsl];rfl
  rw[hres,hresM]
  have hsl':inB f.slot 0 ((M.slots.length:Int) - 1)=false:=hsl
  have HBk:Hid (∀ W:Wq,Calls Pg 34 #[.agg #[Y aS M.slots.length cS,Y aH M.heads.length cH,Y aF M.free.length cF,Y aL M.locks.length cL,O J M.now],.agg #[O J f.c.kind,O J f.c.a,O J f.c.b,O J f.c.time,O J f.c.bk,O J f.c.slot]] W fun e w'=>e=.returned (O J (b:Int))/\Below W.heap.size W w'):=fun W=>hb ▸ F8 _ _ _ _ _ _ _ _ cS cH cF cL M.now f.c W (by omega)
  have HHs:Hid (∀ W:Wq,Calls Pg 111 #[.agg #[Y aS M.slots.length cS,Y aH M.heads.length cH,Y aF M.free.length cF,Y aL M.locks.length cL,O J M.now],O J f.slot] W fun e w'=>e=.returned (.bool false)/\Below W.heap.size W w'):=fun W=>hsl' ▸ Ed _ _ _ _ _ _ _ _ cS cH cF cL M.now _ W (by omega)
  have HZ:Hid (∀ ad,aK=some ad->¬ (Ac B aS aH aF aL) ad.block):=hz
  obtain⟨of,hof⟩:=frObj f aK cK
  obtain⟨oz,hoz⟩:∃ o:Obj,o=Ae:=⟨_,rfl⟩
  have HE:Hid (Lk Xb w ((w.alloc of).alloc oz) B lo aS aH aF aL cS cH cF cL M f aK cK):=Lk.first m f aK cK hof hoz
  obtain⟨q0,q1,q2,q3,q4,-,-,-,-,-,qs⟩:=Af HE.out.m.box
  obtain⟨f0,f1,f2,f3,f4,f5,f6,f7,f8,f9,f10,f11,f12,f13,ff,fs⟩:=A8 HE.out.fb
  unfold Ae at hoz
  clear m hc1 hn1 hcur hns hnh hM hf r hz hsl hsl' hres hresM hbn hb b0 b1
  go_enter Tryz.func177,Tryz.ntmps177
  go_wp2_with fail
  rw[<- hof,<- hoz]
  generalize (w.alloc of).alloc oz=W0 at *
  subst hof hoz
  have cB:∀ (d:Nat) (os:Array Obj),Calls Pg 34 #[.agg #[Y aS M.slots.length cS,Y aH M.heads.length cH,Y aF M.free.length cF,Y aL M.locks.length cL,O J M.now],.agg #[O J f.c.kind,O J f.c.a,O J f.c.b,O J f.c.time,O J f.c.bk,O J f.c.slot]] (grow (redrawn W0 d) os) fun e w''=>e=.returned (O J (b:Int))/\∃ p:Regrown,w''=grow (redrawn W0 p.d) p.os:=fun d os=>Calls.regrown_of (HBk.out _)
  have Xq0:=cell_regrown q0
  have Xq1:=cell_regrown q1
  have Xq2:=cell_regrown q2
  have Xq3:=cell_regrown q3
  have Xq4:=cell_regrown q4
  have Xf0:=cell_regrown f0
  have Xf1:=cell_regrown f1
  have Xf2:=cell_regrown f2
  have Xf3:=cell_regrown f3
  have Xf4:=cell_regrown f4
  have Xf5:=cell_regrown f5
  clear q0 q1 q2 q3 q4 qs
  clear f0 f1 f2 f3 f4 f5 f6 f7 f8 f9 f10 f11 f12 f13 ff fs
  refine wp_region_quiet_below (by kernel_rfl) (by kernel_rfl) ?_
  repeat (quiet_step (first|exact cB _ _))
  refine wpQuiet_nil ?_
  intro _ hw'
  obtain⟨⟨dq,osq⟩,hw''⟩:=hw'
  subst hw''
  have HE1:Hid (Lk Xb w (grow (redrawn W0 dq) osq) B lo aS aH aF aL cS cH cF cL M f aK cK):=HE.out.below (below_regrown W0 dq osq)
  generalize grow (redrawn W0 dq) osq=w1 at *
  clear Xq0 Xq1 Xq2 Xq3 Xq4 Xf0 Xf1 Xf2 Xf3 Xf4 Xf5 HE
  clear cB
  obtain⟨q0,q1,q2,q3,q4,-,-,-,-,-,qs⟩:=Af HE1.out.m.box
  obtain⟨f0,f1,f2,f3,f4,f5,f6,f7,f8,f9,f10,f11,f12,f13,ff,fs⟩:=A8 HE1.out.fb
  go_wp2_with fail
  have kH:∀ (d:Nat) (os:Array Obj),Calls Pg 111 #[.agg #[Y aS M.slots.length cS,Y aH M.heads.length cH,Y aF M.free.length cF,Y aL M.locks.length cL,O J M.now],O J f.slot] (grow (redrawn w1 d) os) fun e w''=>e=.returned (.bool false)/\∃ p:Regrown,w''=grow (redrawn w1 p.d) p.os:=fun d os=>Calls.regrown_of (HHs.out _)
  have Xq0:=cell_regrown q0
  have Xq1:=cell_regrown q1
  have Xq2:=cell_regrown q2
  have Xq3:=cell_regrown q3
  have Xq4:=cell_regrown q4
  have Xf9:=cell_regrown f9
  clear q0 q1 q2 q3 q4 qs
  clear f0 f1 f2 f3 f4 f5 f6 f7 f8 f9 f10 f11 f12 f13 ff fs
  refine wp_region_quiet_below (by kernel_rfl) (by kernel_rfl) ?_
  repeat (quiet_step (first|exact kH _ _))
  refine wpQuiet_nil ?_
  intro _ hw'
  obtain⟨⟨dq,osq⟩,hw''⟩:=hw'
  subst hw''
  have HE2:Hid (Lk Xb w (grow (redrawn w1 dq) osq) B lo aS aH aF aL cS cH cF cL M f aK cK):=HE1.out.below (below_regrown w1 dq osq)
  generalize grow (redrawn w1 dq) osq=w2 at *
  clear Xq0 Xq1 Xq2 Xq3 Xq4 Xf9 HE1
  clear kH
  obtain⟨q0,q1,q2,q3,q4,-,-,-,-,-,qs⟩:=Af HE2.out.m.box
  obtain⟨f0,f1,f2,f3,f4,f5,f6,f7,f8,f9,f10,f11,f12,f13,ff,fs⟩:=A8 HE2.out.fb
  go_wp2_with fail
  clear q0 q1 q2 q3 q4 qs
  have HE3:Hid (Lk2 Xb w _ (Ac B aS aH aF aL) B lo M f aK cK):=HE2.out.two
  clear HE2
  refine(Vf f aK cK _).mono ?_
  rintro e w9 ⟨rfl,hb9⟩
  have HE9:Hid (Lk2 Xb w w9 (Ac B aS aH aF aL) B lo M f aK cK):=HE3.out.below hb9
  clear HE3 hb9
  clear f0 f1 f2 f3 f4 f5 f6 f7 f8 f9 f10 f11 f12 f13 ff fs
  obtain⟨g0,g1,g2,g3,g4,g5,g6,g7,g8,g9,g10,g11,g12,g13,gf,gs⟩:=A8 HE9.out.zb
  go_wp2
  refine bodyPost_ret (v:=.agg #[O J (Cc f).c.kind,O J (Cc f).c.a,O J (Cc f).c.b,O J (Cc f).c.time,O J (Cc f).c.bk,O J (Cc f).c.slot,O J (Cc f).pl,O J (Cc f).cur,O J (Cc f).prev,O J (Cc f).slot,O J (Cc f).n,Y aK (Cc f).keys.length cK,.bool (Cc f).done,O J (Cc f).e]) (by simp[results,Tryz.results177,go_sem,Cc,g0,g1,g2,g3,g4,g5,g6,g7,g8,g9,g10,g11,g12,g13]) rfl ⟨⟨aK,cK,rfl,HR.out.fine HE9.out.D7.2 HZ.out,(fun ad h=>.inl h),fun _=>⟨rfl,rfl⟩⟩,HE9.out.D7⟩
 ·obtain⟨j,hj,hjl⟩:=(Zc M f.slot).1 hsl
  have hres:Ko M f = { f with e:=0,pl:=7 }:=by unfold Ko;rw[hsl];rfl
  have hresM:Jp M f=Qx M j b:=by unfold Jp;rw[hsl,hbn,hj];rfl
  rw[hres,hresM]
  have hsl':inB (j:Int) 0 ((M.slots.length:Int) - 1)=true:=(Aj _ _ _).2 (by omega)
  have HJ:Hid (f.slot=j):=hj
  have HBk:Hid (∀ W:Wq,Calls Pg 34 #[.agg #[Y aS M.slots.length cS,Y aH M.heads.length cH,Y aF M.free.length cF,Y aL M.locks.length cL,O J M.now],.agg #[O J f.c.kind,O J f.c.a,O J f.c.b,O J f.c.time,O J f.c.bk,O J f.c.slot]] W fun e w'=>e=.returned (O J (b:Int))/\Below W.heap.size W w'):=fun W=>hb ▸ F8 _ _ _ _ _ _ _ _ cS cH cF cL M.now f.c W (by omega)
  have HCh:Hid (∀ W:Wq,Calls Pg 97 #[.agg #[Y aS M.slots.length cS,Y aH M.heads.length cH,Y aF M.free.length cF,Y aL M.locks.length cL,O J M.now],O J (b:Int)] W fun e w'=>e=.returned (.bool true)/\Below W.heap.size W w'):=fun W=>(show inB (b:Int) 0 ((M.heads.length:Int) - 1)=true from (Aj _ _ _).2 (by omega)) ▸ Gi _ _ _ _ _ _ _ _ cS cH cF cL M.now (b:Int) W (by omega)
  have HHs:Hid (∀ W:Wq,Calls Pg 111 #[.agg #[Y aS M.slots.length cS,Y aH M.heads.length cH,Y aF M.free.length cF,Y aL M.locks.length cL,O J M.now],O J (j:Int)] W fun e w'=>e=.returned (.bool true)/\Below W.heap.size W w'):=fun W=>hsl' ▸ Ed _ _ _ _ _ _ _ _ cS cH cF cL M.now _ W (by omega)
  have HLk:Hid (∀ W:Wq,Lk Xb w W B lo aS aH aF aL cS cH cF cL M f aK cK->Calls Pg 206 #[.pointer (some ⟨B,0,none⟩),O J (b:Int),O J (j:Int)] W fun e w'=>e=.returned (.tuple #[])/\Lk2 Xb w w' (Ac B aS aH aF aL) B lo (Qx M j b) f aK cK):=fun W h=>(a4v ⟨_,_,_,_,_,_,_,_,h.m,fun _ h=>h⟩ HOk.out hjl hbl).mono (fun e w' h'=>⟨h'.1,h.after h'.2.1 h'.2.2⟩)
  generalize Qx M j b=M' at *
  have HZ:Hid (∀ ad,aK=some ad->¬ (Ac B aS aH aF aL) ad.block):=hz
  obtain⟨of,hof⟩:=frObj f aK cK
  obtain⟨oz,hoz⟩:∃ o:Obj,o=Ae:=⟨_,rfl⟩
  have HE:Hid (Lk Xb w ((w.alloc of).alloc oz) B lo aS aH aF aL cS cH cF cL M f aK cK):=Lk.first m f aK cK hof hoz
  obtain⟨q0,q1,q2,q3,q4,-,-,-,-,-,qs⟩:=Af HE.out.m.box
  obtain⟨f0,f1,f2,f3,f4,f5,f6,f7,f8,f9,f10,f11,f12,f13,ff,fs⟩:=A8 HE.out.fb
  unfold Ae at hoz
  clear m hc1 hn1 hcur hns hnh hM hf r hz hsl hsl' hres hresM hbn hb b0 b1 hj
  go_enter Tryz.func177,Tryz.ntmps177
  go_wp2_with fail
  rw[<- hof,<- hoz]
  generalize (w.alloc of).alloc oz=W0 at *
  subst hof hoz
  have cB:∀ (d:Nat) (os:Array Obj),Calls Pg 34 #[.agg #[Y aS M.slots.length cS,Y aH M.heads.length cH,Y aF M.free.length cF,Y aL M.locks.length cL,O J M.now],.agg #[O J f.c.kind,O J f.c.a,O J f.c.b,O J f.c.time,O J f.c.bk,O J f.c.slot]] (grow (redrawn W0 d) os) fun e w''=>e=.returned (O J (b:Int))/\∃ p:Regrown,w''=grow (redrawn W0 p.d) p.os:=fun d os=>Calls.regrown_of (HBk.out _)
  have Xq0:=cell_regrown q0
  have Xq1:=cell_regrown q1
  have Xq2:=cell_regrown q2
  have Xq3:=cell_regrown q3
  have Xq4:=cell_regrown q4
  have Xf0:=cell_regrown f0
  have Xf1:=cell_regrown f1
  have Xf2:=cell_regrown f2
  have Xf3:=cell_regrown f3
  have Xf4:=cell_regrown f4
  have Xf5:=cell_regrown f5
  clear q0 q1 q2 q3 q4 qs
  clear f0 f1 f2 f3 f4 f5 f6 f7 f8 f9 f10 f11 f12 f13 ff fs
  refine wp_region_quiet_below (by kernel_rfl) (by kernel_rfl) ?_
  repeat (quiet_step (first|exact cB _ _))
  refine wpQuiet_nil ?_
  intro _ hw'
  obtain⟨⟨dq,osq⟩,hw''⟩:=hw'
  subst hw''
  have HE1:Hid (Lk Xb w (grow (redrawn W0 dq) osq) B lo aS aH aF aL cS cH cF cL M f aK cK):=HE.out.below (below_regrown W0 dq osq)
  generalize grow (redrawn W0 dq) osq=w1 at *
  clear Xq0 Xq1 Xq2 Xq3 Xq4 Xf0 Xf1 Xf2 Xf3 Xf4 Xf5 HE
  clear cB
  obtain⟨q0,q1,q2,q3,q4,-,-,-,-,-,qs⟩:=Af HE1.out.m.box
  obtain⟨f0,f1,f2,f3,f4,f5,f6,f7,f8,f9,f10,f11,f12,f13,ff,fs⟩:=A8 HE1.out.fb
  go_wp2_with fail
  rw[HJ.out] at f9
  have kH:∀ (d:Nat) (os:Array Obj),Calls Pg 111 #[.agg #[Y aS M.slots.length cS,Y aH M.heads.length cH,Y aF M.free.length cF,Y aL M.locks.length cL,O J M.now],O J (j:Int)] (grow (redrawn w1 d) os) fun e w''=>e=.returned (.bool true)/\∃ p:Regrown,w''=grow (redrawn w1 p.d) p.os:=fun d os=>Calls.regrown_of (HHs.out _)
  have kC:∀ (d:Nat) (os:Array Obj),Calls Pg 97 #[.agg #[Y aS M.slots.length cS,Y aH M.heads.length cH,Y aF M.free.length cF,Y aL M.locks.length cL,O J M.now],O J (b:Int)] (grow (redrawn w1 d) os) fun e w''=>e=.returned (.bool true)/\∃ p:Regrown,w''=grow (redrawn w1 p.d) p.os:=fun d os=>Calls.regrown_of (HCh.out _)
  have Xq0:=cell_regrown q0
  have Xq1:=cell_regrown q1
  have Xq2:=cell_regrown q2
  have Xq3:=cell_regrown q3
  have Xq4:=cell_regrown q4
  have Xf9:=cell_regrown f9
  clear q0 q1 q2 q3 q4 qs
  clear f0 f1 f2 f3 f4 f5 f6 f7 f8 f9 f10 f11 f12 f13 ff fs
  refine wp_region_quiet_below (by kernel_rfl) (by kernel_rfl) ?_
  repeat (quiet_step (first|exact kH _ _|exact kC _ _))
  refine wpQuiet_nil ?_
  intro _ hw'
  obtain⟨⟨dq,osq⟩,hw''⟩:=hw'
  subst hw''
  have HE2:Hid (Lk Xb w (grow (redrawn w1 dq) osq) B lo aS aH aF aL cS cH cF cL M f aK cK):=HE1.out.below (below_regrown w1 dq osq)
  generalize grow (redrawn w1 dq) osq=w2 at *
  clear Xq0 Xq1 Xq2 Xq3 Xq4 Xf9 HE1
  clear kH kC
  obtain⟨q0,q1,q2,q3,q4,-,-,-,-,-,qs⟩:=Af HE2.out.m.box
  obtain⟨f0,f1,f2,f3,f4,f5,f6,f7,f8,f9,f10,f11,f12,f13,ff,fs⟩:=A8 HE2.out.fb
  rw[HJ.out] at f9
  go_wp2_with fail
  clear q0 q1 q2 q3 q4 qs
  clear f0 f1 f2 f3 f4 f5 f6 f7 f8 f9 f10 f11 f12 f13 ff fs
  refine(HLk.out _ (by exact HE2.out.below ⟨rfl,rfl,rfl,Nat.le_refl _,fun _ _=>rfl⟩)).mono ?_
  rintro e w3 ⟨rfl,h9⟩
  have HE3:Hid (Lk2 Xb w w3 (Ac B aS aH aF aL) B lo M' f aK cK):=h9
  clear HE2 h9
  obtain⟨f0,f1,f2,f3,f4,f5,f6,f7,f8,f9,f10,f11,f12,f13,ff,fs⟩:=A8 HE3.out.fb
  go_wp2_with fail
  have HE4:Hid (Lk2 Xb w _ (Ac B aS aH aF aL) B lo M' { f with e:=0 } aK cK):=HE3.out.store 13 (O J 0) { f with e:=0 } rfl
  clear HE3
  refine(Gn { f with e:=0 } 7 aK cK _).mono ?_
  rintro e w9 ⟨rfl,hb9⟩
  have HE9:Hid (Lk2 Xb w w9 (Ac B aS aH aF aL) B lo M' { f with e:=0 } aK cK):=HE4.out.below hb9
  clear HE4 hb9
  clear f0 f1 f2 f3 f4 f5 f6 f7 f8 f9 f10 f11 f12 f13 ff fs
  obtain⟨g0,g1,g2,g3,g4,g5,g6,g7,g8,g9,g10,g11,g12,g13,gf,gs⟩:=A8 HE9.out.zb
  go_wp2
  refine bodyPost_ret (v:=.agg #[O J ({ f with e:=0,pl:=7 }).c.kind,O J ({ f with e:=0,pl:=7 }).c.a,O J ({ f with e:=0,pl:=7 }).c.b,O J ({ f with e:=0,pl:=7 }).c.time,O J ({ f with e:=0,pl:=7 }).c.bk,O J ({ f with e:=0,pl:=7 }).c.slot,O J ({ f with e:=0,pl:=7 }).pl,O J ({ f with e:=0,pl:=7 }).cur,O J ({ f with e:=0,pl:=7 }).prev,O J ({ f with e:=0,pl:=7 }).slot,O J ({ f with e:=0,pl:=7 }).n,Y aK ({ f with e:=0,pl:=7 }).keys.length cK,.bool ({ f with e:=0,pl:=7 }).done,O J ({ f with e:=0,pl:=7 }).e]) (by simp[results,Tryz.results177,go_sem,toF,g0,g1,g2,g3,g4,g5,g6,g7,g8,g9,g10,g11,g12,g13]) rfl ⟨⟨aK,cK,rfl,HR.out.fine HE9.out.D7.2 HZ.out,(fun ad h=>.inl h),fun _=>⟨rfl,rfl⟩⟩,HE9.out.D7⟩
end
section
open Go.ChangeShapes Go.WideShapes Go.ChangeAt Go.RowKit Go.Joins
variable {Xb:Ex}
theorem a1o(w:Wq)(B gS gH nS nH j b cS cH:Nat)(fv lv nv:Value)(x nx:Int)
  (hB:w.heap[B]?=some (.cells (List.toArray (Y (some ⟨gS,0,none⟩) nS cS :: Y (some ⟨gH,0,none⟩) nH cH :: fv :: lv :: nv :: Xb.rs)) Xb.rt (0,0))) (hj:j<nS) (hb:b<nH) (hn:nS<=12) (hh:nH<=4)
  (c5:w.cell? ⟨gS,j*6+5,none⟩=some (O J nx)) (ch:w.cell? ⟨gH,b,none⟩=some (O J x)) (fh:w.frozen? ⟨gH,b,none⟩=false) :
  Calls Pg 123 #[.pointer (some ⟨B,0,none⟩),O J 0,O J j,O J b] w fun e w'=>e=.returned (.tuple #[])/\w'=w.setCell ⟨gH,b,none⟩ (O J nx):=by
 obtain⟨q0,q1,q2,q3,q4,-,-,-,-,-,qs⟩:=Af hB
 clear hB
 go_enter Tryz.func123,Tryz.ntmps123
 go_wp2
 exact bodyPost_ret (v:=.tuple #[]) (by simp[results,Tryz.results123]) rfl ⟨rfl,rfl⟩
theorem a9b(w:Wq)(B gS gH nS nH j b p cS cH:Nat)(fv lv nv:Value)(nx px:Int)
  (hB:w.heap[B]?=some (.cells (List.toArray (Y (some ⟨gS,0,none⟩) nS cS :: Y (some ⟨gH,0,none⟩) nH cH :: fv :: lv :: nv :: Xb.rs)) Xb.rt (0,0))) (hj:j<nS) (hb:b<nH) (hn:nS<=12) (hh:nH<=4) (hp:p<nS)
  (c5:w.cell? ⟨gS,j*6+5,none⟩=some (O J nx)) (d5:w.cell? ⟨gS,p*6+5,none⟩=some (O J px)) (fz:w.frozen? ⟨gS,p*6+5,none⟩=false) :
  Calls Pg 123 #[.pointer (some ⟨B,0,none⟩),O J ((p:Int)+1),O J j,O J b] w fun e w'=>e=.returned (.tuple #[])/\w'=w.setCell ⟨gS,p*6+5,none⟩ (O J nx):=by
 obtain⟨q0,q1,q2,q3,q4,-,-,-,-,-,qs⟩:=Af hB
 clear hB
 have e0:((p:Int)+1==0)=false:=by rw[beq_eq_false_iff_ne];omega
 go_enter Tryz.func123,Tryz.ntmps123
 go_wp2
 go_end0
 exact⟨rfl,rfl⟩
theorem Xp{M:Mm}{w:Wq}{B lo:Nat}{Z:Nat->Prop}{j b:Nat}{ah:Int}(H:Has Xb w B lo Z M)(hM:Ok M)(hj:j<M.slots.length)(hb:b<M.heads.length)(ha0:0<=ah)(hah:ah<=M.slots.length) :
  Calls Pg 123 #[.pointer (some ⟨B,0,none⟩),O J ah,O J j,O J b] w fun e w'=>e=.returned (.tuple #[])/\Has Xb w' B lo (Up w Z) (I7 M b ah j)/\Fine w w' Z:=by
 obtain⟨aS,aH,aF,aL,cS,cH,cF,cL,m,hf⟩:=H
 obtain⟨gS,rfl,oS,lS,-,-⟩:=Bh m.c.s (by omega)
 obtain⟨gH,rfl,oH,lH,-,-⟩:=Bh m.c.h (by omega)
 obtain⟨c0,c1,c2,c3,c4,c5,fz⟩:=Df m.c.s hj
 obtain⟨ch,fh⟩:=Fe m.c.h hb
 have zS:Z gS\/w.heap.size<=gS:=.inl (hf gS (.inr (.inl ⟨_,rfl,rfl⟩)))
 have zH:Z gH\/w.heap.size<=gH:=.inl (hf gH (.inr (.inr (.inl ⟨_,rfl,rfl⟩))))
 have hs:Aa M j=M.slots[j]:=Gj hj
 by_cases ha:0<ah
 ·obtain⟨p,rfl⟩:∃ p:Nat,ah=(p:Int)+1:=⟨(ah - 1).toNat,by omega⟩
  have hp:p<M.slots.length:=by omega
  obtain⟨_,_,_,_,_,d5,_⟩:=Df m.c.s hp
  refine(a9b w B gS gH _ _ j b p cS cH _ _ _ _ _ m.box hj hb hM.ns hM.nh.2 hp c5 d5 (fz _)).mono ?_
  rintro e w' ⟨rfl,rfl⟩
  unfold I7
  rw[if_pos ha,hs,show (p:Int)+1 - 1=p by omega,show Aa M p=M.slots[p] from Gj hp,Int.toNat_natCast]
  exact⟨rfl,⟨_,_,_,_,_,_,_,_,m.Rl _ _ _ (Ry M.slots p hp _),fun k hk=>.inl (hf k hk)⟩,(Fine.refl w Z).set zS _ _⟩
 ·obtain rfl:ah=0:=by omega
  refine(a1o w B gS gH _ _ j b cS cH _ _ _ _ _ m.box hj hb hM.ns hM.nh.2 c5 ch fh).mono ?_
  rintro e w' ⟨rfl,rfl⟩
  unfold I7
  rw[if_neg ha,hs]
  exact⟨rfl,⟨_,_,_,_,_,_,_,_,m.setH b _,fun k hk=>.inl (hf k hk)⟩,(Fine.refl w Z).set zH _ _⟩
end
section
open Go.ChangeShapes Go.WideShapes Go.ChangeAt Go.RowKit Go.Joins Go.Maps
def upd(L:Nat->Bool)(i:Nat):Nat->Bool:=fun k=>if k=i then true else L k
def Fg(x:Nat->Value)(d:Nat)(v:Value):Nat->Value:=fun k=>if k=d then v else x k
theorem Xe{a b c d:Value}{p q:Bool}(h:Dj (if p then a else b) (if q then c else d))(hp:p=false)(hq:q=false):Dj b d:=by
 subst hp hq;exact h
theorem Y3{a b c d:Value}{p q:Bool}(h:Dj (if p then a else b) (if q then c else d))(hp:p=true)(hq:q=false):Dj a d:=by
 subst hp hq;exact h
theorem Y2{a b c d:Value}{p q:Bool}(h:Dj (if p then a else b) (if q then c else d))(hp:p=false)(hq:q=true):Dj b c:=by
 subst hp hq;exact h
structure Fx(w0:Wq)(M:Mm)(aS aH aF aL:Option Addr)(cS cH cF cL:Nat)(L:Nat->Bool)(x:Nat->Value)(W:Wq):Prop where
 box:W.heap[w0.heap.size]?=some (.cells #[Y aS M.slots.length cS,Y aH M.heads.length cH,Y aF M.free.length cF,Y aL M.locks.length cL,O J M.now] 25 (0,0))
 zb:L 19=false->W.heap[w0.heap.size+1]?=some (.cells #[Y none 0 0,Y none 0 0,Y none 0 0,Y none 0 0,O J 0] 25 (0,0))
 fb:L 19=true->W.heap[w0.heap.size+1]?=some (.cells #[x 6,x 10,x 14,x 18,O J M.now] 25 (0,0))
 below:Below w0.heap.size w0 W
 p1:L 1=true->x 4=.pointer (some ⟨w0.heap.size,0,none⟩)
 p2:L 2=true->x 5=Y aS M.slots.length cS
 p5:L 5=true->x 8=.pointer (some ⟨w0.heap.size,1,none⟩)
 p6:L 6=true->x 9=Y aH M.heads.length cH
 p9:L 9=true->x 12=.pointer (some ⟨w0.heap.size,2,none⟩)
 p10:L 10=true->x 13=Y aF M.free.length cF
 p13:L 13=true->x 16=.pointer (some ⟨w0.heap.size,3,none⟩)
 p14:L 14=true->x 17=Y aL M.locks.length cL
 p16:L 16=true->x 19=.pointer (some ⟨w0.heap.size,4,none⟩)
 p17:L 17=true->x 20=O J M.now
 b18:L 18=true->x 21=.agg #[x 6,x 10,x 14,x 18,O J M.now]
 r0:L 0=true->L 3=false->W.ownsRow (w0.heap.size+2) 64 6 (x 3) 0 []
 r3:L 3=true->W.ownsRow (w0.heap.size+2) 64 6 (x 6) M.slots.length (encS M.slots)
 r4:L 4=true->L 7=false->W.ownsRow (w0.heap.size+2) 3 1 (x 7) 0 []
 r7:L 7=true->W.ownsRow (w0.heap.size+2) 3 1 (x 10) M.heads.length (encI M.heads)
 r8:L 8=true->L 11=false->W.ownsRow (w0.heap.size+2) 3 1 (x 11) 0 []
 r11:L 11=true->W.ownsRow (w0.heap.size+2) 3 1 (x 14) M.free.length (encI M.free)
 r12:L 12=true->L 15=false->W.ownsRow (w0.heap.size+2) 3 1 (x 15) 0 []
 r15:L 15=true->W.ownsRow (w0.heap.size+2) 3 1 (x 18) M.locks.length (encI M.locks)
 d12:L 4=true->L 8=true->Dj (if L 7 then x 10 else x 7) (if L 11 then x 14 else x 11)
 d13:L 4=true->L 12=true->Dj (if L 7 then x 10 else x 7) (if L 15 then x 18 else x 15)
 d23:L 8=true->L 12=true->Dj (if L 11 then x 14 else x 11) (if L 15 then x 18 else x 15)
 e3:L 3=true->L 0=true
 e7:L 7=true->L 4=true
 e11:L 11=true->L 8=true
 e15:L 15=true->L 12=true
 e18:L 18=true->L 3=true/\L 7=true/\L 11=true/\L 15=true
 e19:L 19=true->L 18=true
theorem Fx.a1{w0:Wq}{M:Mm}{aS aH aF aL:Option Addr}{cS cH cF cL:Nat}{L:Nat->Bool}{x:Nat->Value}{W:Wq}(F:Fx w0 M aS aH aF aL cS cH cF cL L x W):Fx w0 M aS aH aF aL cS cH cF cL (upd L 1) (Fg x 4 (.pointer (some ⟨w0.heap.size,0,none⟩))) W :=
 ⟨F.box,F.zb,F.fb,F.below,(fun _=>rfl),F.p2,F.p5,F.p6,F.p9,F.p10,F.p13,F.p14,F.p16,F.p17,F.b18,F.r0,F.r3,F.r4,F.r7,F.r8,F.r11,F.r12,F.r15,F.d12,F.d13,F.d23,F.e3,F.e7,F.e11,F.e15,F.e18,F.e19⟩
theorem Fx.a2{w0:Wq}{M:Mm}{aS aH aF aL:Option Addr}{cS cH cF cL:Nat}{L:Nat->Bool}{x:Nat->Value}{W:Wq}(F:Fx w0 M aS aH aF aL cS cH cF cL L x W):Fx w0 M aS aH aF aL cS cH cF cL (upd L 2) (Fg x 5 (Y aS M.slots.length cS)) W :=
 ⟨F.box,F.zb,F.fb,F.below,F.p1,(fun _=>rfl),F.p5,F.p6,F.p9,F.p10,F.p13,F.p14,F.p16,F.p17,F.b18,F.r0,F.r3,F.r4,F.r7,F.r8,F.r11,F.r12,F.r15,F.d12,F.d13,F.d23,F.e3,F.e7,F.e11,F.e15,F.e18,F.e19⟩
theorem Fx.a5{w0:Wq}{M:Mm}{aS aH aF aL:Option Addr}{cS cH cF cL:Nat}{L:Nat->Bool}{x:Nat->Value}{W:Wq}(F:Fx w0 M aS aH aF aL cS cH cF cL L x W):Fx w0 M aS aH aF aL cS cH cF cL (upd L 5) (Fg x 8 (.pointer (some ⟨w0.heap.size,1,none⟩))) W :=
 ⟨F.box,F.zb,F.fb,F.below,F.p1,F.p2,(fun _=>rfl),F.p6,F.p9,F.p10,F.p13,F.p14,F.p16,F.p17,F.b18,F.r0,F.r3,F.r4,F.r7,F.r8,F.r11,F.r12,F.r15,F.d12,F.d13,F.d23,F.e3,F.e7,F.e11,F.e15,F.e18,F.e19⟩
theorem Fx.a6{w0:Wq}{M:Mm}{aS aH aF aL:Option Addr}{cS cH cF cL:Nat}{L:Nat->Bool}{x:Nat->Value}{W:Wq}(F:Fx w0 M aS aH aF aL cS cH cF cL L x W):Fx w0 M aS aH aF aL cS cH cF cL (upd L 6) (Fg x 9 (Y aH M.heads.length cH)) W :=
 ⟨F.box,F.zb,F.fb,F.below,F.p1,F.p2,F.p5,(fun _=>rfl),F.p9,F.p10,F.p13,F.p14,F.p16,F.p17,F.b18,F.r0,F.r3,F.r4,F.r7,F.r8,F.r11,F.r12,F.r15,F.d12,F.d13,F.d23,F.e3,F.e7,F.e11,F.e15,F.e18,F.e19⟩
theorem Fx.a9{w0:Wq}{M:Mm}{aS aH aF aL:Option Addr}{cS cH cF cL:Nat}{L:Nat->Bool}{x:Nat->Value}{W:Wq}(F:Fx w0 M aS aH aF aL cS cH cF cL L x W):Fx w0 M aS aH aF aL cS cH cF cL (upd L 9) (Fg x 12 (.pointer (some ⟨w0.heap.size,2,none⟩))) W :=
 ⟨F.box,F.zb,F.fb,F.below,F.p1,F.p2,F.p5,F.p6,(fun _=>rfl),F.p10,F.p13,F.p14,F.p16,F.p17,F.b18,F.r0,F.r3,F.r4,F.r7,F.r8,F.r11,F.r12,F.r15,F.d12,F.d13,F.d23,F.e3,F.e7,F.e11,F.e15,F.e18,F.e19⟩
theorem Fx.a10{w0:Wq}{M:Mm}{aS aH aF aL:Option Addr}{cS cH cF cL:Nat}{L:Nat->Bool}{x:Nat->Value}{W:Wq}(F:Fx w0 M aS aH aF aL cS cH cF cL L x W):Fx w0 M aS aH aF aL cS cH cF cL (upd L 10) (Fg x 13 (Y aF M.free.length cF)) W :=
 ⟨F.box,F.zb,F.fb,F.below,F.p1,F.p2,F.p5,F.p6,F.p9,(fun _=>rfl),F.p13,F.p14,F.p16,F.p17,F.b18,F.r0,F.r3,F.r4,F.r7,F.r8,F.r11,F.r12,F.r15,F.d12,F.d13,F.d23,F.e3,F.e7,F.e11,F.e15,F.e18,F.e19⟩
theorem Fx.a13{w0:Wq}{M:Mm}{aS aH aF aL:Option Addr}{cS cH cF cL:Nat}{L:Nat->Bool}{x:Nat->Value}{W:Wq}(F:Fx w0 M aS aH aF aL cS cH cF cL L x W):Fx w0 M aS aH aF aL cS cH cF cL (upd L 13) (Fg x 16 (.pointer (some ⟨w0.heap.size,3,none⟩))) W :=
 ⟨F.box,F.zb,F.fb,F.below,F.p1,F.p2,F.p5,F.p6,F.p9,F.p10,(fun _=>rfl),F.p14,F.p16,F.p17,F.b18,F.r0,F.r3,F.r4,F.r7,F.r8,F.r11,F.r12,F.r15,F.d12,F.d13,F.d23,F.e3,F.e7,F.e11,F.e15,F.e18,F.e19⟩
theorem Fx.a14{w0:Wq}{M:Mm}{aS aH aF aL:Option Addr}{cS cH cF cL:Nat}{L:Nat->Bool}{x:Nat->Value}{W:Wq}(F:Fx w0 M aS aH aF aL cS cH cF cL L x W):Fx w0 M aS aH aF aL cS cH cF cL (upd L 14) (Fg x 17 (Y aL M.locks.length cL)) W :=
 ⟨F.box,F.zb,F.fb,F.below,F.p1,F.p2,F.p5,F.p6,F.p9,F.p10,F.p13,(fun _=>rfl),F.p16,F.p17,F.b18,F.r0,F.r3,F.r4,F.r7,F.r8,F.r11,F.r12,F.r15,F.d12,F.d13,F.d23,F.e3,F.e7,F.e11,F.e15,F.e18,F.e19⟩
theorem Fx.a16{w0:Wq}{M:Mm}{aS aH aF aL:Option Addr}{cS cH cF cL:Nat}{L:Nat->Bool}{x:Nat->Value}{W:Wq}(F:Fx w0 M aS aH aF aL cS cH cF cL L x W):Fx w0 M aS aH aF aL cS cH cF cL (upd L 16) (Fg x 19 (.pointer (some ⟨w0.heap.size,4,none⟩))) W :=
 ⟨F.box,F.zb,F.fb,F.below,F.p1,F.p2,F.p5,F.p6,F.p9,F.p10,F.p13,F.p14,(fun _=>rfl),F.p17,F.b18,F.r0,F.r3,F.r4,F.r7,F.r8,F.r11,F.r12,F.r15,F.d12,F.d13,F.d23,F.e3,F.e7,F.e11,F.e15,F.e18,F.e19⟩
theorem Fx.a17{w0:Wq}{M:Mm}{aS aH aF aL:Option Addr}{cS cH cF cL:Nat}{L:Nat->Bool}{x:Nat->Value}{W:Wq}(F:Fx w0 M aS aH aF aL cS cH cF cL L x W):Fx w0 M aS aH aF aL cS cH cF cL (upd L 17) (Fg x 20 (O J M.now)) W :=
 ⟨F.box,F.zb,F.fb,F.below,F.p1,F.p2,F.p5,F.p6,F.p9,F.p10,F.p13,F.p14,F.p16,(fun _=>rfl),F.b18,F.r0,F.r3,F.r4,F.r7,F.r8,F.r11,F.r12,F.r15,F.d12,F.d13,F.d23,F.e3,F.e7,F.e11,F.e15,F.e18,F.e19⟩
theorem Fx.lt{w0:Wq}{M:Mm}{aS aH aF aL:Option Addr}{cS cH cF cL:Nat}{L:Nat->Bool}{x:Nat->Value}{W:Wq}(F:Fx w0 M aS aH aF aL cS cH cF cL L x W):w0.heap.size+1<W.heap.size:=by
 cases h:L 19
 ·exact lt_of_block (F.zb h)
 ·exact lt_of_block (F.fb h)
theorem Ui(W:Wq)(e:TypeId)(size lo:Nat)(h:lo<=W.heap.size):(W.alloc (.cells #[] e)).ownsRow lo e size (Y (some ⟨W.heap.size,0,none⟩) 0 0) 0 [] :=
 ⟨by simp,.inr ⟨W.heap.size,0,#[],rfl,h,heap_alloc_new _ _,Nat.le_refl _,Nat.zero_le _,by simp,by simp⟩⟩
theorem Dj.fresh{W:Wq}{v:Value}(hv:∀ g,v.ownBlock=some g->g<W.heap.size):Dj v (Y (some ⟨W.heap.size,0,none⟩) 0 0):=fun g h e=>by
 have h1:=hv g h
 have e':some W.heap.size=some g:=e
 injection e' with e'
 omega
theorem Fx.lt1{w0:Wq}{M:Mm}{aS aH aF aL:Option Addr}{cS cH cF cL:Nat}{L:Nat->Bool}{x:Nat->Value}{W:Wq}(F:Fx w0 M aS aH aF aL cS cH cF cL L x W)(h:L 4=true):∀ g,(if L 7 then x 10 else x 7).ownBlock=some g->g<W.heap.size:=by
 cases h3:L 7
 ·exact fun g hg=>((F.r4 h h3).lt g hg).2
 ·exact fun g hg=>((F.r7 h3).lt g hg).2
theorem Fx.lt2{w0:Wq}{M:Mm}{aS aH aF aL:Option Addr}{cS cH cF cL:Nat}{L:Nat->Bool}{x:Nat->Value}{W:Wq}(F:Fx w0 M aS aH aF aL cS cH cF cL L x W)(h:L 8=true):∀ g,(if L 11 then x 14 else x 11).ownBlock=some g->g<W.heap.size:=by
 cases h3:L 11
 ·exact fun g hg=>((F.r8 h h3).lt g hg).2
 ·exact fun g hg=>((F.r11 h3).lt g hg).2
theorem Fx.lt3{w0:Wq}{M:Mm}{aS aH aF aL:Option Addr}{cS cH cF cL:Nat}{L:Nat->Bool}{x:Nat->Value}{W:Wq}(F:Fx w0 M aS aH aF aL cS cH cF cL L x W)(h:L 12=true):∀ g,(if L 15 then x 18 else x 15).ownBlock=some g->g<W.heap.size:=by
 cases h3:L 15
 ·exact fun g hg=>((F.r12 h h3).lt g hg).2
 ·exact fun g hg=>((F.r15 h3).lt g hg).2
theorem Fx.a18{w0:Wq}{M:Mm}{aS aH aF aL:Option Addr}{cS cH cF cL:Nat}{L:Nat->Bool}{x:Nat->Value}{W:Wq}(F:Fx w0 M aS aH aF aL cS cH cF cL L x W)(h3:L 3=true)(h7:L 7=true)(h11:L 11=true)(h15:L 15=true):Fx w0 M aS aH aF aL cS cH cF cL (upd L 18) (Fg x 21 (.agg #[x 6,x 10,x 14,x 18,O J M.now])) W :=
 ⟨F.box,F.zb,F.fb,F.below,F.p1,F.p2,F.p5,F.p6,F.p9,F.p10,F.p13,F.p14,F.p16,F.p17,(fun _=>rfl),F.r0,F.r3,F.r4,F.r7,F.r8,F.r11,F.r12,F.r15,F.d12,F.d13,F.d23,F.e3,F.e7,F.e11,F.e15,(fun _=>⟨h3,h7,h11,h15⟩),(fun _=>rfl)⟩
theorem Fx.b0{w0:Wq}{M:Mm}{aS aH aF aL:Option Addr}{cS cH cF cL:Nat}{L:Nat->Bool}{x:Nat->Value}{W:Wq}(F:Fx w0 M aS aH aF aL cS cH cF cL L x W)(hn:L 0=false):Fx w0 M aS aH aF aL cS cH cF cL (upd L 0) (Fg x 3 (Y (some ⟨W.heap.size,0,none⟩) 0 0)) (W.alloc (.cells #[] 64)):=by
 have hf:L 3=false:=by
  cases h:L 3
  ·rfl
  ·rw[F.e3 h] at hn;cases hn
 exact⟨((Below.heap_alloc _ _ _ (lt_of_block F.box)).trans F.box),(fun h=>(Below.heap_alloc _ _ _ (lt_of_block (F.zb h))).trans (F.zb h)),(fun h=>(Below.heap_alloc _ _ _ (lt_of_block (F.fb h))).trans (F.fb h)),(F.below.alloc F.below.size _),F.p1,F.p2,F.p5,F.p6,F.p9,F.p10,F.p13,F.p14,F.p16,F.p17,F.b18,(fun _ _=>Ui W 64 6 _ F.lt),(fun h=>World.ownsRow.alloc (F.r3 h) _),(fun h h3=>World.ownsRow.alloc (F.r4 h h3) _),(fun h=>World.ownsRow.alloc (F.r7 h) _),(fun h h3=>World.ownsRow.alloc (F.r8 h h3) _),(fun h=>World.ownsRow.alloc (F.r11 h) _),(fun h h3=>World.ownsRow.alloc (F.r12 h h3) _),(fun h=>World.ownsRow.alloc (F.r15 h) _),F.d12,F.d13,F.d23,(fun _=>rfl),F.e7,F.e11,F.e15,F.e18,F.e19⟩
theorem Fx.b4{w0:Wq}{M:Mm}{aS aH aF aL:Option Addr}{cS cH cF cL:Nat}{L:Nat->Bool}{x:Nat->Value}{W:Wq}(F:Fx w0 M aS aH aF aL cS cH cF cL L x W)(hn:L 4=false):Fx w0 M aS aH aF aL cS cH cF cL (upd L 4) (Fg x 7 (Y (some ⟨W.heap.size,0,none⟩) 0 0)) (W.alloc (.cells #[] 3)):=by
 have hf:L 7=false:=by
  cases h:L 7
  ·rfl
  ·rw[F.e7 h] at hn;cases hn
 exact⟨((Below.heap_alloc _ _ _ (lt_of_block F.box)).trans F.box),(fun h=>(Below.heap_alloc _ _ _ (lt_of_block (F.zb h))).trans (F.zb h)),(fun h=>(Below.heap_alloc _ _ _ (lt_of_block (F.fb h))).trans (F.fb h)),(F.below.alloc F.below.size _),F.p1,F.p2,F.p5,F.p6,F.p9,F.p10,F.p13,F.p14,F.p16,F.p17,F.b18,(fun h h3=>World.ownsRow.alloc (F.r0 h h3) _),(fun h=>World.ownsRow.alloc (F.r3 h) _),(fun _ _=>Ui W 3 1 _ F.lt),(fun h=>World.ownsRow.alloc (F.r7 h) _),(fun h h3=>World.ownsRow.alloc (F.r8 h h3) _),(fun h=>World.ownsRow.alloc (F.r11 h) _),(fun h h3=>World.ownsRow.alloc (F.r12 h h3) _),(fun h=>World.ownsRow.alloc (F.r15 h) _),(fun _ hb=>(by have:=(Dj.fresh (F.lt2 hb)).symm;show Dj (if L 7 then _ else _) _;rw[hf];exact this)),(fun _ hb=>(by have:=(Dj.fresh (F.lt3 hb)).symm;show Dj (if L 7 then _ else _) _;rw[hf];exact this)),F.d23,F.e3,(fun _=>rfl),F.e11,F.e15,F.e18,F.e19⟩
theorem Fx.b8{w0:Wq}{M:Mm}{aS aH aF aL:Option Addr}{cS cH cF cL:Nat}{L:Nat->Bool}{x:Nat->Value}{W:Wq}(F:Fx w0 M aS aH aF aL cS cH cF cL L x W)(hn:L 8=false):Fx w0 M aS aH aF aL cS cH cF cL (upd L 8) (Fg x 11 (Y (some ⟨W.heap.size,0,none⟩) 0 0)) (W.alloc (.cells #[] 3)):=by
 have hf:L 11=false:=by
  cases h:L 11
  ·rfl
  ·rw[F.e11 h] at hn;cases hn
 exact⟨((Below.heap_alloc _ _ _ (lt_of_block F.box)).trans F.box),(fun h=>(Below.heap_alloc _ _ _ (lt_of_block (F.zb h))).trans (F.zb h)),(fun h=>(Below.heap_alloc _ _ _ (lt_of_block (F.fb h))).trans (F.fb h)),(F.below.alloc F.below.size _),F.p1,F.p2,F.p5,F.p6,F.p9,F.p10,F.p13,F.p14,F.p16,F.p17,F.b18,(fun h h3=>World.ownsRow.alloc (F.r0 h h3) _),(fun h=>World.ownsRow.alloc (F.r3 h) _),(fun h h3=>World.ownsRow.alloc (F.r4 h h3) _),(fun h=>World.ownsRow.alloc (F.r7 h) _),(fun _ _=>Ui W 3 1 _ F.lt),(fun h=>World.ownsRow.alloc (F.r11 h) _),(fun h h3=>World.ownsRow.alloc (F.r12 h h3) _),(fun h=>World.ownsRow.alloc (F.r15 h) _),(fun ha _=>(by have:=Dj.fresh (F.lt1 ha);show Dj _ (if L 11 then _ else _);rw[hf];exact this)),F.d13,(fun _ hb=>(by have:=(Dj.fresh (F.lt3 hb)).symm;show Dj (if L 11 then _ else _) _;rw[hf];exact this)),F.e3,F.e7,(fun _=>rfl),F.e15,F.e18,F.e19⟩
theorem Fx.b12{w0:Wq}{M:Mm}{aS aH aF aL:Option Addr}{cS cH cF cL:Nat}{L:Nat->Bool}{x:Nat->Value}{W:Wq}(F:Fx w0 M aS aH aF aL cS cH cF cL L x W)(hn:L 12=false):Fx w0 M aS aH aF aL cS cH cF cL (upd L 12) (Fg x 15 (Y (some ⟨W.heap.size,0,none⟩) 0 0)) (W.alloc (.cells #[] 3)):=by
 have hf:L 15=false:=by
  cases h:L 15
  ·rfl
  ·rw[F.e15 h] at hn;cases hn
 exact⟨((Below.heap_alloc _ _ _ (lt_of_block F.box)).trans F.box),(fun h=>(Below.heap_alloc _ _ _ (lt_of_block (F.zb h))).trans (F.zb h)),(fun h=>(Below.heap_alloc _ _ _ (lt_of_block (F.fb h))).trans (F.fb h)),(F.below.alloc F.below.size _),F.p1,F.p2,F.p5,F.p6,F.p9,F.p10,F.p13,F.p14,F.p16,F.p17,F.b18,(fun h h3=>World.ownsRow.alloc (F.r0 h h3) _),(fun h=>World.ownsRow.alloc (F.r3 h) _),(fun h h3=>World.ownsRow.alloc (F.r4 h h3) _),(fun h=>World.ownsRow.alloc (F.r7 h) _),(fun h h3=>World.ownsRow.alloc (F.r8 h h3) _),(fun h=>World.ownsRow.alloc (F.r11 h) _),(fun _ _=>Ui W 3 1 _ F.lt),(fun h=>World.ownsRow.alloc (F.r15 h) _),F.d12,(fun ha _=>(by have:=Dj.fresh (F.lt1 ha);show Dj _ (if L 15 then _ else _);rw[hf];exact this)),(fun ha _=>(by have:=Dj.fresh (F.lt2 ha);show Dj _ (if L 15 then _ else _);rw[hf];exact this)),F.e3,F.e7,F.e11,(fun _=>rfl),F.e18,F.e19⟩
theorem Fx.c3{w0:Wq}{M:Mm}{aS aH aF aL:Option Addr}{cS cH cF cL:Nat}{L:Nat->Bool}{x:Nat->Value}{W:Wq}(F:Fx w0 M aS aH aF aL cS cH cF cL L x W)(hl:L 0=true)(hf:L 3=false){v:Value}{W':Wq}(ho2:W'.ownsRow (w0.heap.size+2) 64 6 v M.slots.length (encS M.slots))(hg:W.grownBy W' (x 3).ownBlock)(hloc:v.ownBlock=(x 3).ownBlock\/v.ownBlock=some W.heap.size):Fx w0 M aS aH aF aL cS cH cF cL (upd L 3) (Fg x 6 v) W':=by
 have ho:=F.r0 hl hf
 have h18:L 18=true->false=true:=fun h=>by
  obtain⟨h3,h7,h11,h15⟩:=F.e18 h
  rw[<- hf];assumption
 exact⟨((hg.block _ (lt_of_block F.box) (fun h=>own_ne ho F.box (by first|decide|exact Ex.ne _ _ (by decide)) h.symm)).trans F.box),(fun h=>(hg.block _ (lt_of_block (F.zb h)) (fun h1=>own_ne ho (F.zb h) (by first|decide|exact Ex.ne _ _ (by decide)) h1.symm)).trans (F.zb h)),(fun h=>absurd (h18 (F.e19 h)) (by simp)),(F.below.grown hg F.below.size (fun k hk=>by have:=(ho.lt k hk).1;omega)),F.p1,F.p2,F.p5,F.p6,F.p9,F.p10,F.p13,F.p14,F.p16,F.p17,(fun h=>absurd (h18 h) (by simp)),(fun _ h=>by cases h),(fun _=>ho2),(fun h h3=>World.ownsRow.kept (F.r4 h h3) hg (Cf (F.r4 h h3) ho (by first|decide|exact Ex.ne _ _ (by decide))).ne),(fun h=>World.ownsRow.kept (F.r7 h) hg (Cf (F.r7 h) ho (by first|decide|exact Ex.ne _ _ (by decide))).ne),(fun h h3=>World.ownsRow.kept (F.r8 h h3) hg (Cf (F.r8 h h3) ho (by first|decide|exact Ex.ne _ _ (by decide))).ne),(fun h=>World.ownsRow.kept (F.r11 h) hg (Cf (F.r11 h) ho (by first|decide|exact Ex.ne _ _ (by decide))).ne),(fun h h3=>World.ownsRow.kept (F.r12 h h3) hg (Cf (F.r12 h h3) ho (by first|decide|exact Ex.ne _ _ (by decide))).ne),(fun h=>World.ownsRow.kept (F.r15 h) hg (Cf (F.r15 h) ho (by first|decide|exact Ex.ne _ _ (by decide))).ne),F.d12,F.d13,F.d23,(fun _=>hl),F.e7,F.e11,F.e15,(fun h=>absurd (h18 h) (by simp)),F.e19⟩
theorem Fx.c7{w0:Wq}{M:Mm}{aS aH aF aL:Option Addr}{cS cH cF cL:Nat}{L:Nat->Bool}{x:Nat->Value}{W:Wq}(F:Fx w0 M aS aH aF aL cS cH cF cL L x W)(hl:L 4=true)(hf:L 7=false){v:Value}{W':Wq}(ho2:W'.ownsRow (w0.heap.size+2) 3 1 v M.heads.length (encI M.heads))(hg:W.grownBy W' (x 7).ownBlock)(hloc:v.ownBlock=(x 7).ownBlock\/v.ownBlock=some W.heap.size):Fx w0 M aS aH aF aL cS cH cF cL (upd L 7) (Fg x 10 v) W':=by
 have ho:=F.r4 hl hf
 have h18:L 18=true->false=true:=fun h=>by
  obtain⟨h3,h7,h11,h15⟩:=F.e18 h
  rw[<- hf];assumption
 exact⟨((hg.block _ (lt_of_block F.box) (fun h=>own_ne ho F.box (by first|decide|exact Ex.ne _ _ (by decide)) h.symm)).trans F.box),(fun h=>(hg.block _ (lt_of_block (F.zb h)) (fun h1=>own_ne ho (F.zb h) (by first|decide|exact Ex.ne _ _ (by decide)) h1.symm)).trans (F.zb h)),(fun h=>absurd (h18 (F.e19 h)) (by simp)),(F.below.grown hg F.below.size (fun k hk=>by have:=(ho.lt k hk).1;omega)),F.p1,F.p2,F.p5,F.p6,F.p9,F.p10,F.p13,F.p14,F.p16,F.p17,(fun h=>absurd (h18 h) (by simp)),(fun h h3=>World.ownsRow.kept (F.r0 h h3) hg (Cf (F.r0 h h3) ho (by first|decide|exact Ex.ne _ _ (by decide))).ne),(fun h=>World.ownsRow.kept (F.r3 h) hg (Cf (F.r3 h) ho (by first|decide|exact Ex.ne _ _ (by decide))).ne),(fun _ h=>by cases h),(fun _=>ho2),(fun h h3=>World.ownsRow.kept (F.r8 h h3) hg (Xe (F.d12 hl h) hf h3).symm.ne),(fun h=>World.ownsRow.kept (F.r11 h) hg (Y2 (F.d12 hl (F.e11 h)) hf h).symm.ne),(fun h h3=>World.ownsRow.kept (F.r12 h h3) hg (Xe (F.d13 hl h) hf h3).symm.ne),(fun h=>World.ownsRow.kept (F.r15 h) hg (Y2 (F.d13 hl (F.e15 h)) hf h).symm.ne),(fun _ hb=>(by have hd:=(F.d12 hl hb).symm;rw[hf] at hd;exact(Dj.grown hd (F.lt2 hb) hloc).symm)),(fun _ hb=>(by have hd:=(F.d13 hl hb).symm;rw[hf] at hd;exact(Dj.grown hd (F.lt3 hb) hloc).symm)),F.d23,F.e3,(fun _=>hl),F.e11,F.e15,(fun h=>absurd (h18 h) (by simp)),F.e19⟩
theorem Fx.c11{w0:Wq}{M:Mm}{aS aH aF aL:Option Addr}{cS cH cF cL:Nat}{L:Nat->Bool}{x:Nat->Value}{W:Wq}(F:Fx w0 M aS aH aF aL cS cH cF cL L x W)(hl:L 8=true)(hf:L 11=false){v:Value}{W':Wq}(ho2:W'.ownsRow (w0.heap.size+2) 3 1 v M.free.length (encI M.free))(hg:W.grownBy W' (x 11).ownBlock)(hloc:v.ownBlock=(x 11).ownBlock\/v.ownBlock=some W.heap.size):Fx w0 M aS aH aF aL cS cH cF cL (upd L 11) (Fg x 14 v) W':=by
 have ho:=F.r8 hl hf
 have h18:L 18=true->false=true:=fun h=>by
  obtain⟨h3,h7,h11,h15⟩:=F.e18 h
  rw[<- hf];assumption
 exact⟨((hg.block _ (lt_of_block F.box) (fun h=>own_ne ho F.box (by first|decide|exact Ex.ne _ _ (by decide)) h.symm)).trans F.box),(fun h=>(hg.block _ (lt_of_block (F.zb h)) (fun h1=>own_ne ho (F.zb h) (by first|decide|exact Ex.ne _ _ (by decide)) h1.symm)).trans (F.zb h)),(fun h=>absurd (h18 (F.e19 h)) (by simp)),(F.below.grown hg F.below.size (fun k hk=>by have:=(ho.lt k hk).1;omega)),F.p1,F.p2,F.p5,F.p6,F.p9,F.p10,F.p13,F.p14,F.p16,F.p17,(fun h=>absurd (h18 h) (by simp)),(fun h h3=>World.ownsRow.kept (F.r0 h h3) hg (Cf (F.r0 h h3) ho (by first|decide|exact Ex.ne _ _ (by decide))).ne),(fun h=>World.ownsRow.kept (F.r3 h) hg (Cf (F.r3 h) ho (by first|decide|exact Ex.ne _ _ (by decide))).ne),(fun h h3=>World.ownsRow.kept (F.r4 h h3) hg (Xe (F.d12 h hl) h3 hf).ne),(fun h=>World.ownsRow.kept (F.r7 h) hg (Y3 (F.d12 (F.e7 h) hl) h hf).ne),(fun _ h=>by cases h),(fun _=>ho2),(fun h h3=>World.ownsRow.kept (F.r12 h h3) hg (Xe (F.d23 hl h) hf h3).symm.ne),(fun h=>World.ownsRow.kept (F.r15 h) hg (Y2 (F.d23 hl (F.e15 h)) hf h).symm.ne),(fun ha _=>(by have hd:=F.d12 ha hl;rw[hf] at hd;exact Dj.grown hd (F.lt1 ha) hloc)),F.d13,(fun _ hb=>(by have hd:=(F.d23 hl hb).symm;rw[hf] at hd;exact(Dj.grown hd (F.lt3 hb) hloc).symm)),F.e3,F.e7,(fun _=>hl),F.e15,(fun h=>absurd (h18 h) (by simp)),F.e19⟩
theorem Fx.c15{w0:Wq}{M:Mm}{aS aH aF aL:Option Addr}{cS cH cF cL:Nat}{L:Nat->Bool}{x:Nat->Value}{W:Wq}(F:Fx w0 M aS aH aF aL cS cH cF cL L x W)(hl:L 12=true)(hf:L 15=false){v:Value}{W':Wq}(ho2:W'.ownsRow (w0.heap.size+2) 3 1 v M.locks.length (encI M.locks))(hg:W.grownBy W' (x 15).ownBlock)(hloc:v.ownBlock=(x 15).ownBlock\/v.ownBlock=some W.heap.size):Fx w0 M aS aH aF aL cS cH cF cL (upd L 15) (Fg x 18 v) W':=by
 have ho:=F.r12 hl hf
 have h18:L 18=true->false=true:=fun h=>by
  obtain⟨h3,h7,h11,h15⟩:=F.e18 h
  rw[<- hf];assumption
 exact⟨((hg.block _ (lt_of_block F.box) (fun h=>own_ne ho F.box (by first|decide|exact Ex.ne _ _ (by decide)) h.symm)).trans F.box),(fun h=>(hg.block _ (lt_of_block (F.zb h)) (fun h1=>own_ne ho (F.zb h) (by first|decide|exact Ex.ne _ _ (by decide)) h1.symm)).trans (F.zb h)),(fun h=>absurd (h18 (F.e19 h)) (by simp)),(F.below.grown hg F.below.size (fun k hk=>by have:=(ho.lt k hk).1;omega)),F.p1,F.p2,F.p5,F.p6,F.p9,F.p10,F.p13,F.p14,F.p16,F.p17,(fun h=>absurd (h18 h) (by simp)),(fun h h3=>World.ownsRow.kept (F.r0 h h3) hg (Cf (F.r0 h h3) ho (by first|decide|exact Ex.ne _ _ (by decide))).ne),(fun h=>World.ownsRow.kept (F.r3 h) hg (Cf (F.r3 h) ho (by first|decide|exact Ex.ne _ _ (by decide))).ne),(fun h h3=>World.ownsRow.kept (F.r4 h h3) hg (Xe (F.d13 h hl) h3 hf).ne),(fun h=>World.ownsRow.kept (F.r7 h) hg (Y3 (F.d13 (F.e7 h) hl) h hf).ne),(fun h h3=>World.ownsRow.kept (F.r8 h h3) hg (Xe (F.d23 h hl) h3 hf).ne),(fun h=>World.ownsRow.kept (F.r11 h) hg (Y3 (F.d23 (F.e11 h) hl) h hf).ne),(fun _ h=>by cases h),(fun _=>ho2),F.d12,(fun ha _=>(by have hd:=F.d13 ha hl;rw[hf] at hd;exact Dj.grown hd (F.lt1 ha) hloc)),(fun ha _=>(by have hd:=F.d23 ha hl;rw[hf] at hd;exact Dj.grown hd (F.lt2 ha) hloc)),F.e3,F.e7,F.e11,(fun _=>hl),(fun h=>absurd (h18 h) (by simp)),F.e19⟩
theorem Fx.s19{w0:Wq}{M:Mm}{aS aH aF aL:Option Addr}{cS cH cF cL:Nat}{L:Nat->Bool}{x:Nat->Value}{W:Wq}(F:Fx w0 M aS aH aF aL cS cH cF cL L x W)(hl:L 18=true)(hf:L 19=false):Fx w0 M aS aH aF aL cS cH cF cL (upd L 19) x (Hu W (w0.heap.size+1) (x 6) (x 10) (x 14) (x 18) (O J M.now)) :=
 ⟨((Mc (by omega)).trans F.box),(fun h=>by cases h),(fun _=>Qa (F.zb hf) _ _ _ _ _),(F.below.trans (Jl _ _ _ _ _ _ _ _ (by omega))),F.p1,F.p2,F.p5,F.p6,F.p9,F.p10,F.p13,F.p14,F.p16,F.p17,F.b18,(fun h h3=>Fb (F.r0 h h3) (own_ne (F.r0 h h3) (F.zb hf) (by first|decide|exact Ex.ne _ _ (by decide))) _ _ _ _ _),(fun h=>Fb (F.r3 h) (own_ne (F.r3 h) (F.zb hf) (by first|decide|exact Ex.ne _ _ (by decide))) _ _ _ _ _),(fun h h3=>Fb (F.r4 h h3) (own_ne (F.r4 h h3) (F.zb hf) (by first|decide|exact Ex.ne _ _ (by decide))) _ _ _ _ _),(fun h=>Fb (F.r7 h) (own_ne (F.r7 h) (F.zb hf) (by first|decide|exact Ex.ne _ _ (by decide))) _ _ _ _ _),(fun h h3=>Fb (F.r8 h h3) (own_ne (F.r8 h h3) (F.zb hf) (by first|decide|exact Ex.ne _ _ (by decide))) _ _ _ _ _),(fun h=>Fb (F.r11 h) (own_ne (F.r11 h) (F.zb hf) (by first|decide|exact Ex.ne _ _ (by decide))) _ _ _ _ _),(fun h h3=>Fb (F.r12 h h3) (own_ne (F.r12 h h3) (F.zb hf) (by first|decide|exact Ex.ne _ _ (by decide))) _ _ _ _ _),(fun h=>Fb (F.r15 h) (own_ne (F.r15 h) (F.zb hf) (by first|decide|exact Ex.ne _ _ (by decide))) _ _ _ _ _),F.d12,F.d13,F.d23,F.e3,F.e7,F.e11,F.e15,F.e18,(fun _=>hl)⟩
end
section
open Go.ChangeShapes Go.WideShapes Go.ChangeAt Go.RowKit Go.Joins Go.Maps
theorem Dn{P:Program}{ops:Array Oper}{Q:Exit->Act->Wq->Prop}{i:Nat}{o:Oper}{a:Act}{w w':Wq}{v:Value}{K:Act->Wq->Prop}(hi:ops[i]?=some o)(hg:o.guard=none)
  (hr:(execOp a.eval o).run P w=.ok (.value v) w') (h:K (a.put o.dst v) w'):wpOp P ops Q i K a w:=by
 refine wpOp_step hi fun K' hK=>?_
 have hw:Region.wanted o (yielded ops a.tmps)=true:=by unfold Region.wanted;rw[hg]
 rw[if_pos hw]
 unfold Oper.wp
 rw[hr]
 exact hK _ _ h
theorem a2t{P:Program}{ops:Array Oper}{Q:Exit->Act->Wq->Prop}{i:Nat}{o:Oper}{a:Act}{w w':Wq}{K:Act->Wq->Prop}(hi:ops[i]?=some o)(hg:o.guard=none)
  (hr:(execOp a.eval o).run P w=.ok .skip w') (h:K (a.put o.dst Uz) w'):wpOp P ops Q i K a w:=by
 refine wpOp_step hi fun K' hK=>?_
 have hw:Region.wanted o (yielded ops a.tmps)=true:=by unfold Region.wanted;rw[hg]
 rw[if_pos hw]
 unfold Oper.wp
 rw[hr]
 exact hK _ _ h
theorem Fx.start{w0 W:Wq}{M:Mm}{aS aH aF aL:Option Addr}{cS cH cF cL:Nat}{x:Nat->Value}(hB:W.heap[w0.heap.size]?=some (.cells #[Y aS M.slots.length cS,Y aH M.heads.length cH,Y aF M.free.length cF,Y aL M.locks.length cL,O J M.now] 25 (0,0)))
  (hR:W.heap[w0.heap.size+1]?=some (.cells #[Y none 0 0,Y none 0 0,Y none 0 0,Y none 0 0,O J 0] 25 (0,0))) (hb:Below w0.heap.size w0 W):Fx w0 M aS aH aF aL cS cH cF cL (fun _=>false) x W :=
 ⟨hB,fun _=>hR,(fun h=>by cases h),hb,(fun h=>by cases h),(fun h=>by cases h),(fun h=>by cases h),(fun h=>by cases h),(fun h=>by cases h),(fun h=>by cases h),(fun h=>by cases h),(fun h=>by cases h),(fun h=>by cases h),(fun h=>by cases h),(fun h=>by cases h),(fun h=>by cases h),(fun h=>by cases h),(fun h=>by cases h),(fun h=>by cases h),(fun h=>by cases h),(fun h=>by cases h),(fun h=>by cases h),(fun h=>by cases h),(fun h=>by cases h),(fun h=>by cases h),(fun h=>by cases h),(fun h=>by cases h),(fun h=>by cases h),(fun h=>by cases h),(fun h=>by cases h),(fun h=>by cases h),(fun h=>by cases h)⟩
theorem Fj{l:Array Bool}{i:Nat}(h:l.getD i true=false):l.getD i false=false:=by
 by_cases hi:i<l.size
 ·simpa [Array.getD_eq_getD_getElem?,hi] using h
 ·simp[Array.getD_eq_getD_getElem?,hi]
theorem Ul{md:Region.Mode}{ops:Array Oper}{listed:Array Bool}(hr:Region.ready md ops listed=[])(hs:listed.size=ops.size)
  (he:((List.range ops.size).all fun i=>((ops[i]?).map fun o=>o.after.all fun e=>decide (e.on<i)).getD true)=true):∀ n i,i<n->i<ops.size->listed.getD i false=true
 | 0,i,h,_=>by omega
 | n+1,i,h,hi=>by
  cases hl:listed.getD i false with
  | true=>rfl
  | false =>
   exfalso
   have hlt:listed.getD i true=false:=by
    simpa [Array.getD_eq_getD_getElem?,hs,hi] using hl
   have hm:i∈Region.ready md ops listed:=by
    unfold Region.ready
    rw[List.mem_filter]
    refine⟨by simpa using hi,?_⟩
    rw[hlt]
    have h1:=List.all_eq_true.1 he i (by simpa using hi)
    have ho:ops[i]?=some ops[i]:=Array.getElem?_eq_getElem hi
    rw[ho] at h1 ⊢
    simp only[Option.map_some,Option.getD_some] at h1 ⊢
    simp only[Bool.not_false,Bool.true_and]
    rw[Array.all_eq_true'] at h1 ⊢
    intro e hm
    have h2:=h1 e hm
    have h3:e.on<i:=by simpa using h2
    rw[Ul hr hs he n e.on (by omega) (by omega)]
    simp
   rw[hr] at hm
   cases hm
def Jn(x:Nat->Value):Act:=⟨#[x 0,x 1,x 2,x 3,x 4,x 5,x 6,x 7,x 8,x 9,x 10,x 11,x 12,x 13,x 14,x 15,x 16,x 17,x 18,x 19,x 20,x 21],[]⟩
structure Jo(w0:Wq)(M:Mm)(aS aH aF aL:Option Addr)(cS cH cF cL:Nat)(listed:Array Bool)(x:Nat->Value)(W:Wq):Prop where
 n:listed.size=20
 x1:x 1=.pointer (some ⟨w0.heap.size,0,none⟩)
 x2:x 2=.pointer (some ⟨w0.heap.size+1,0,none⟩)
 f:Fx w0 M aS aH aF aL cS cH cF cL (fun i=>listed.getD i false) x W
theorem Jo.next{w0:Wq}{M:Mm}{aS aH aF aL:Option Addr}{cS cH cF cL:Nat}{listed:Array Bool}{x x':Nat->Value}{W W':Wq}(Jq:Jo w0 M aS aH aF aL cS cH cF cL listed x W)(i:Nat)(hi:i<20)(h1:x' 1=x 1)(h2:x' 2=x 2)
  (F:Fx w0 M aS aH aF aL cS cH cF cL (upd (fun k=>listed.getD k false) i) x' W'):Jo w0 M aS aH aF aL cS cH cF cL (listed.setIfInBounds i true) x' W':=by
 refine⟨by simpa using Jq.n,h1.trans Jq.x1,h2.trans Jq.x2,?_⟩
 have e:(fun k=>(listed.setIfInBounds i true).getD k false)=upd (fun k=>listed.getD k false) i:=by
  funext k
  have:=Jq.n
  by_cases hk:k=i
  ·subst hk
   simp[upd,Array.getD_eq_getD_getElem?,Jq.n,hi]
  ·have hk':¬ i=k:=fun e=>hk e.symm
   simp[upd,hk,Array.getD_eq_getD_getElem?,hk']
 rw[e]
 exact F
theorem Qh{W:Wq}(x:Nat->Value)(base:Nat)(t e:TypeId)(i:TypeInfo)(z:Value)(size bytes:Nat)(ht:Pg.underlying t=some (.slice e))(hi:Pg.info? e=some i)(hz:i.zero=some z)
  (hsize:i.size=size) (hby:i.bytes=bytes) (hzs:z.cells.size=size) (hsz:0<size) (s y:Nat) (o:Oper) (ho:o.op=.call { callee:=.builtin .append,args:=#[.tmp s,.tmp y],argTypes:=#[t,t] })
  (v:Value) (hs:(Jn x).eval (.tmp s)=v) (hown:W.ownsRow base e size v 0 [])
  (ao:Option Addr) (m c:Nat) (news:List Value) (hx:(Jn x).eval (.tmp y)=Y ao m c) (hl:news.length=m*size) (hn:ao=none->m=0/\c=0) (hnews:∀ ad,ao=some ad->∀ j u,news[j]?=some u->W.cell? (ad.add j)=some u) (h1:∀ u∈news,u.oneCell'=true)
  (h63:m<=maxLen) (hbytes:m*bytes<=140737488355328) (hbase:base<=W.heap.size) :
  ∃ v' W',(execOp (Jn x).eval o).run Pg W=.ok (.value v') W'/\W'.ownsRow base e size v' m news/\W.grownBy W' v.ownBlock/\(v'.ownBlock=v.ownBlock\/v'.ownBlock=some W.heap.size):=by
 cases ao with
 | some ad =>
  obtain⟨v',w',hr,h2,h3,h4,h5⟩:=run_append_own_at (P:=Pg) W base t o.type e i z size bytes ht hi hz hsize hby hzs hsz v 0 [] hown ad m c news hl (hnews ad rfl) h1 (by omega) (by rw[Nat.zero_add];exact hbytes) hbase
  rw[Nat.zero_add,List.nil_append] at h2
  refine⟨v',w',?_,h2,h3,h5⟩
  unfold execOp
  simp only[ho,resolve,invoke,builtin,Sem.run_bind,Sem.run_pure,Result.andThen_ok,List.map_toArray,List.map_cons,List.map_nil,hs,hx,hr]
 | none =>
  obtain⟨rfl,rfl⟩:=hn rfl
  have hnil:news=[]:=List.eq_nil_of_length_eq_zero (by rw[hl,Nat.zero_mul])
  subst hnil
  have hr:=run_append_owned_none (P:=Pg) W base t o.type e i size ht hi v 0 [] hown
  refine⟨v,W,?_,hown,⟨rfl,rfl,rfl,Nat.le_refl _,fun _ _ _=>rfl⟩,.inl rfl⟩
  unfold execOp
  simp only[ho,resolve,invoke,builtin,Sem.run_bind,Sem.run_pure,Result.andThen_ok,List.map_toArray,List.map_cons,List.map_nil,hs,hx,hr]
theorem a1h(M:Mm)(aS aH aF aL:Option Addr)(cS cH cF cL:Nat)(w:Wq)(A:At w aS aH aF aL cS cH cF cL M) :
  Calls Pg 56 #[.agg #[Y aS M.slots.length cS,Y aH M.heads.length cH,Y aF M.free.length cF,Y aL M.locks.length cL,O J M.now]] w fun e w'=>∃ gS gH gF gL kS kH kF kL,
   e=.returned (.agg #[Y gS M.slots.length kS,Y gH M.heads.length kH,Y gF M.free.length kF,Y gL M.locks.length kL,O J M.now]) /\
   Rw w' w.heap.size gS gH gF gL kS kH kF kL M/\Below w.heap.size w w':=by
 obtain⟨iI0,hiI,hzI0,hzI1,hzI2⟩:=info_parts iI
 obtain⟨iS0,hiS,hzS0,hzS1,hzS2⟩:=info_parts iS
 have m1:=A.s.max;have m2:=A.h.max;have m3:=A.f.max;have m4:=A.l.max
 have HA:Hid (At w aS aH aF aL cS cH cF cL M):=A
 clear A
 have b0:Below w.heap.size w ((w.alloc (.cells #[Y aS M.slots.length cS,Y aH M.heads.length cH,Y aF M.free.length cF,Y aL M.locks.length cL,O J M.now] 25)).alloc (.cells #[Y none 0 0,Y none 0 0,Y none 0 0,Y none 0 0,O J 0] 25)):=below_alloc2 w _ _
 have HB0:Hid (((w.alloc (.cells #[Y aS M.slots.length cS,Y aH M.heads.length cH,Y aF M.free.length cF,Y aL M.locks.length cL,O J M.now] 25)).alloc (.cells #[Y none 0 0,Y none 0 0,Y none 0 0,Y none 0 0,O J 0] 25)).heap[w.heap.size]?=some (.cells #[Y aS M.slots.length cS,Y aH M.heads.length cH,Y aF M.free.length cF,Y aL M.locks.length cL,O J M.now] 25 (0,0))):=by
  show _=_
  rw[Below.heap_alloc _ _ _ (by simp),heap_alloc_new]
 have HR0:Hid (((w.alloc (.cells #[Y aS M.slots.length cS,Y aH M.heads.length cH,Y aF M.free.length cF,Y aL M.locks.length cL,O J M.now] 25)).alloc (.cells #[Y none 0 0,Y none 0 0,Y none 0 0,Y none 0 0,O J 0] 25)).heap[w.heap.size+1]?=some (.cells #[Y none 0 0,Y none 0 0,Y none 0 0,Y none 0 0,O J 0] 25 (0,0))):=by
  have:=heap_alloc_new (w.alloc (.cells #[Y aS M.slots.length cS,Y aH M.heads.length cH,Y aF M.free.length cF,Y aL M.locks.length cL,O J M.now] 25)) (.cells #[Y none 0 0,Y none 0 0,Y none 0 0,Y none 0 0,O J 0] 25)
  rwa [show (w.alloc (.cells #[Y aS M.slots.length cS,Y aH M.heads.length cH,Y aF M.free.length cF,Y aL M.locks.length cL,O J M.now] 25)).heap.size=w.heap.size+1 by simp] at this
 go_enter Tryz.func56,Tryz.ntmps56
 go_wp2_with fail
 rename_i K0 hK0
 refine Gu (by kernel_rfl) (fun listed a W=>∃ x,a=Jn x/\Jo w M aS aH aF aL cS cH cF cL listed x W) ?_ ?_ ?_
 ·refine⟨fun k=>match k with|0=>.agg #[Y aS M.slots.length cS,Y aH M.heads.length cH,Y aF M.free.length cF,Y aL M.locks.length cL,O J M.now] | 1=>.pointer (some ⟨w.heap.size,0,none⟩)|2=>.pointer (some ⟨w.heap.size+1,0,none⟩)|_=>Uz,rfl,by simp,rfl,rfl,?_⟩
  have e:(fun i=>(Array.replicate 20 false).getD i false)=fun _=>false:=by
   funext i
   by_cases h:i<20 <;> simp[Array.getD_eq_getD_getElem?,h]
  show Fx w M aS aH aF aL cS cH cF cL (fun i=>(Array.replicate 20 false).getD i false) _ _
  rw[e]
  exact Fx.start HB0.out HR0.out b0.drew
 ·rintro listed a W i hi ⟨x,rfl,hJ⟩
  obtain⟨hi1,hi2,o,ho,hpre⟩:=Fa hi
  clear hi
  have hi1':i<20:=hi1
  clear hi1
  have hA:=HA.out.below hJ.f.below
  obtain⟨q0,q1,q2,q3,q4,-,-,-,-,-,qs⟩:=Af hJ.f.box
  have hx1:=hJ.x1
  have hlo:w.heap.size+2<=W.heap.size:=hJ.f.lt
  obtain rfl|rfl|rfl|rfl|rfl|rfl|rfl|rfl|rfl|rfl|rfl|rfl|rfl|rfl|rfl|rfl|rfl|rfl|rfl|rfl:i=0\/i=1\/i=2\/i=3\/i=4\/i=5\/i=6\/i=7\/i=8\/i=9\/i=10\/i=11\/i=12\/i=13\/i=14\/i=15\/i=16\/i=17\/i=18\/i=19:=by omega
  ·refine Dn rfl rfl (v:=Y (some ⟨W.heap.size,0,none⟩) 0 0) (w':=W.alloc (.cells #[] 64)) (by simp only[execOp];simp[go_sem]) ⟨Fg x 3 _,rfl,hJ.next 0 (by omega) rfl rfl (hJ.f.b0 (Fj hi2))⟩
  ·refine Dn rfl rfl (v:=.pointer (some ⟨w.heap.size,0,none⟩)) (w':=W) (by simp[execOp,go_sem,(show (Jn x).tmps[1]?.getD Uz=.pointer (some ⟨w.heap.size,0,none⟩) from hx1)]) ⟨Fg x 4 _,rfl,hJ.next 1 (by omega) rfl rfl hJ.f.a1⟩
  ·have g1:listed.getD 1 false=true:=hpre ⟨1,.data⟩ (by simp at ho;subst ho;simp) rfl
   have hx4:=hJ.f.p1 g1
   refine Dn rfl rfl (v:=Y aS M.slots.length cS) (w':=W) (by simp[execOp,go_sem,(show (Jn x).tmps[4]?.getD Uz=.pointer (some ⟨w.heap.size,0,none⟩) from hx4),q0]) ⟨Fg x 5 _,rfl,hJ.next 2 (by omega) rfl rfl hJ.f.a2⟩
  ·have hop:o.op=.call { callee:=.builtin .append,args:=#[.tmp 3,.tmp 5],argTypes:=#[22,22] }:=by simp at ho;subst ho;rfl
   have hdst:o.dst=some 6:=by simp at ho;subst ho;rfl
   have hgd:o.guard=none:=by simp at ho;subst ho;rfl
   have g0:listed.getD 0 false=true:=hpre ⟨0,.data⟩ (by simp at ho;subst ho;simp) rfl
   have g2:listed.getD 2 false=true:=hpre ⟨2,.data⟩ (by simp at ho;subst ho;simp) rfl
   have hs:=hJ.f.r0 g0 (Fj hi2)
   have hy:=hJ.f.p2 g2
   obtain⟨v',W',hr,h2,h3,h5⟩:=Qh (W:=W) x (w.heap.size+2) 22 64 iS0 (.agg #[O J 0,O J 0,O J 0,O J 0,.bool false,O J 0]) 6 48 Tryz.underlying22 hiS hzS0 hzS1 hzS2 rfl (by first|decide|exact Ex.ne _ _ (by decide)) 3 5 o hop (x 3) rfl hs aS M.slots.length cS (encS M.slots) hy (Hm _) (fun h=>⟨by have:=hA.s.nil h;have:=hA.s.le;omega,hA.s.nil h⟩) hA.s.src (Yw _) (by unfold maxLen;omega) (by omega) hlo
   exact Dn ho hgd hr ⟨Fg x 6 v',by rw[hdst];rfl,hJ.next 3 (by omega) rfl rfl (hJ.f.c3 g0 (Fj hi2) h2 h3 h5)⟩
  ·refine Dn rfl rfl (v:=Y (some ⟨W.heap.size,0,none⟩) 0 0) (w':=W.alloc (.cells #[] 3)) (by simp only[execOp];simp[go_sem]) ⟨Fg x 7 _,rfl,hJ.next 4 (by omega) rfl rfl (hJ.f.b4 (Fj hi2))⟩
  ·refine Dn rfl rfl (v:=.pointer (some ⟨w.heap.size,1,none⟩)) (w':=W) (by simp[execOp,go_sem,(show (Jn x).tmps[1]?.getD Uz=.pointer (some ⟨w.heap.size,0,none⟩) from hx1)]) ⟨Fg x 8 _,rfl,hJ.next 5 (by omega) rfl rfl hJ.f.a5⟩
  ·have g5:listed.getD 5 false=true:=hpre ⟨5,.data⟩ (by simp at ho;subst ho;simp) rfl
   have hx4:=hJ.f.p5 g5
   refine Dn rfl rfl (v:=Y aH M.heads.length cH) (w':=W) (by simp[execOp,go_sem,(show (Jn x).tmps[8]?.getD Uz=.pointer (some ⟨w.heap.size,1,none⟩) from hx4),q1]) ⟨Fg x 9 _,rfl,hJ.next 6 (by omega) rfl rfl hJ.f.a6⟩
  ·have hop:o.op=.call { callee:=.builtin .append,args:=#[.tmp 7,.tmp 9],argTypes:=#[23,23] }:=by simp at ho;subst ho;rfl
   have hdst:o.dst=some 10:=by simp at ho;subst ho;rfl
   have hgd:o.guard=none:=by simp at ho;subst ho;rfl
   have g4:listed.getD 4 false=true:=hpre ⟨4,.data⟩ (by simp at ho;subst ho;simp) rfl
   have g6:listed.getD 6 false=true:=hpre ⟨6,.data⟩ (by simp at ho;subst ho;simp) rfl
   have hs:=hJ.f.r4 g4 (Fj hi2)
   have hy:=hJ.f.p6 g6
   obtain⟨v',W',hr,h2,h3,h5⟩:=Qh (W:=W) x (w.heap.size+2) 23 3 iI0 (O J 0) 1 8 Tryz.underlying23 hiI hzI0 hzI1 hzI2 rfl (by first|decide|exact Ex.ne _ _ (by decide)) 7 9 o hop (x 7) rfl hs aH M.heads.length cH (encI M.heads) hy ((Dq _).trans (Nat.mul_one _).symm) (fun h=>⟨by have:=hA.h.nil h;have:=hA.h.le;omega,hA.h.nil h⟩) hA.h.src (Gp _) (by unfold maxLen;omega) (by omega) hlo
   exact Dn ho hgd hr ⟨Fg x 10 v',by rw[hdst];rfl,hJ.next 7 (by omega) rfl rfl (hJ.f.c7 g4 (Fj hi2) h2 h3 h5)⟩
  ·refine Dn rfl rfl (v:=Y (some ⟨W.heap.size,0,none⟩) 0 0) (w':=W.alloc (.cells #[] 3)) (by simp only[execOp];simp[go_sem]) ⟨Fg x 11 _,rfl,hJ.next 8 (by omega) rfl rfl (hJ.f.b8 (Fj hi2))⟩
  ·refine Dn rfl rfl (v:=.pointer (some ⟨w.heap.size,2,none⟩)) (w':=W) (by simp[execOp,go_sem,(show (Jn x).tmps[1]?.getD Uz=.pointer (some ⟨w.heap.size,0,none⟩) from hx1)]) ⟨Fg x 12 _,rfl,hJ.next 9 (by omega) rfl rfl hJ.f.a9⟩
  ·have g9:listed.getD 9 false=true:=hpre ⟨9,.data⟩ (by simp at ho;subst ho;simp) rfl
   have hx4:=hJ.f.p9 g9
   refine Dn rfl rfl (v:=Y aF M.free.length cF) (w':=W) (by simp[execOp,go_sem,(show (Jn x).tmps[12]?.getD Uz=.pointer (some ⟨w.heap.size,2,none⟩) from hx4),q2]) ⟨Fg x 13 _,rfl,hJ.next 10 (by omega) rfl rfl hJ.f.a10⟩
  ·have hop:o.op=.call { callee:=.builtin .append,args:=#[.tmp 11,.tmp 13],argTypes:=#[23,23] }:=by simp at ho;subst ho;rfl
   have hdst:o.dst=some 14:=by simp at ho;subst ho;rfl
   have hgd:o.guard=none:=by simp at ho;subst ho;rfl
   have g8:listed.getD 8 false=true:=hpre ⟨8,.data⟩ (by simp at ho;subst ho;simp) rfl
   have g10:listed.getD 10 false=true:=hpre ⟨10,.data⟩ (by simp at ho;subst ho;simp) rfl
   have hs:=hJ.f.r8 g8 (Fj hi2)
   have hy:=hJ.f.p10 g10
   obtain⟨v',W',hr,h2,h3,h5⟩:=Qh (W:=W) x (w.heap.size+2) 23 3 iI0 (O J 0) 1 8 Tryz.underlying23 hiI hzI0 hzI1 hzI2 rfl (by first|decide|exact Ex.ne _ _ (by decide)) 11 13 o hop (x 11) rfl hs aF M.free.length cF (encI M.free) hy ((Dq _).trans (Nat.mul_one _).symm) (fun h=>⟨by have:=hA.f.nil h;have:=hA.f.le;omega,hA.f.nil h⟩) hA.f.src (Gp _) (by unfold maxLen;omega) (by omega) hlo
   exact Dn ho hgd hr ⟨Fg x 14 v',by rw[hdst];rfl,hJ.next 11 (by omega) rfl rfl (hJ.f.c11 g8 (Fj hi2) h2 h3 h5)⟩
  ·refine Dn rfl rfl (v:=Y (some ⟨W.heap.size,0,none⟩) 0 0) (w':=W.alloc (.cells #[] 3)) (by simp only[execOp];simp[go_sem]) ⟨Fg x 15 _,rfl,hJ.next 12 (by omega) rfl rfl (hJ.f.b12 (Fj hi2))⟩
  ·refine Dn rfl rfl (v:=.pointer (some ⟨w.heap.size,3,none⟩)) (w':=W) (by simp[execOp,go_sem,(show (Jn x).tmps[1]?.getD Uz=.pointer (some ⟨w.heap.size,0,none⟩) from hx1)]) ⟨Fg x 16 _,rfl,hJ.next 13 (by omega) rfl rfl hJ.f.a13⟩
  ·have g13:listed.getD 13 false=true:=hpre ⟨13,.data⟩ (by simp at ho;subst ho;simp) rfl
   have hx4:=hJ.f.p13 g13
   refine Dn rfl rfl (v:=Y aL M.locks.length cL) (w':=W) (by simp[execOp,go_sem,(show (Jn x).tmps[16]?.getD Uz=.pointer (some ⟨w.heap.size,3,none⟩) from hx4),q3]) ⟨Fg x 17 _,rfl,hJ.next 14 (by omega) rfl rfl hJ.f.a14⟩
  ·have hop:o.op=.call { callee:=.builtin .append,args:=#[.tmp 15,.tmp 17],argTypes:=#[23,23] }:=by simp at ho;subst ho;rfl
   have hdst:o.dst=some 18:=by simp at ho;subst ho;rfl
   have hgd:o.guard=none:=by simp at ho;subst ho;rfl
   have g12:listed.getD 12 false=true:=hpre ⟨12,.data⟩ (by simp at ho;subst ho;simp) rfl
   have g14:listed.getD 14 false=true:=hpre ⟨14,.data⟩ (by simp at ho;subst ho;simp) rfl
   have hs:=hJ.f.r12 g12 (Fj hi2)
   have hy:=hJ.f.p14 g14
   obtain⟨v',W',hr,h2,h3,h5⟩:=Qh (W:=W) x (w.heap.size+2) 23 3 iI0 (O J 0) 1 8 Tryz.underlying23 hiI hzI0 hzI1 hzI2 rfl (by first|decide|exact Ex.ne _ _ (by decide)) 15 17 o hop (x 15) rfl hs aL M.locks.length cL (encI M.locks) hy ((Dq _).trans (Nat.mul_one _).symm) (fun h=>⟨by have:=hA.l.nil h;have:=hA.l.le;omega,hA.l.nil h⟩) hA.l.src (Gp _) (by unfold maxLen;omega) (by omega) hlo
   exact Dn ho hgd hr ⟨Fg x 18 v',by rw[hdst];rfl,hJ.next 15 (by omega) rfl rfl (hJ.f.c15 g12 (Fj hi2) h2 h3 h5)⟩
  ·refine Dn rfl rfl (v:=.pointer (some ⟨w.heap.size,4,none⟩)) (w':=W) (by simp[execOp,go_sem,(show (Jn x).tmps[1]?.getD Uz=.pointer (some ⟨w.heap.size,0,none⟩) from hx1)]) ⟨Fg x 19 _,rfl,hJ.next 16 (by omega) rfl rfl hJ.f.a16⟩
  ·have g16:listed.getD 16 false=true:=hpre ⟨16,.data⟩ (by simp at ho;subst ho;simp) rfl
   have hx4:=hJ.f.p16 g16
   refine Dn rfl rfl (v:=O J M.now) (w':=W) (by simp[execOp,go_sem,(show (Jn x).tmps[19]?.getD Uz=.pointer (some ⟨w.heap.size,4,none⟩) from hx4),q4]) ⟨Fg x 20 _,rfl,hJ.next 17 (by omega) rfl rfl hJ.f.a17⟩
  ·have g3:listed.getD 3 false=true:=hpre ⟨3,.data⟩ (by simp at ho;subst ho;simp) rfl
   have g7:listed.getD 7 false=true:=hpre ⟨7,.data⟩ (by simp at ho;subst ho;simp) rfl
   have g11:listed.getD 11 false=true:=hpre ⟨11,.data⟩ (by simp at ho;subst ho;simp) rfl
   have g15:listed.getD 15 false=true:=hpre ⟨15,.data⟩ (by simp at ho;subst ho;simp) rfl
   have g17:listed.getD 17 false=true:=hpre ⟨17,.data⟩ (by simp at ho;subst ho;simp) rfl
   have h20:=hJ.f.p17 g17
   obtain⟨_,_,e6⟩:=Aq (hJ.f.r3 g3)
   obtain⟨_,_,e10⟩:=Aq (hJ.f.r7 g7)
   obtain⟨_,_,e14⟩:=Aq (hJ.f.r11 g11)
   obtain⟨_,_,e18⟩:=Aq (hJ.f.r15 g15)
   refine Dn rfl rfl (v:=.agg #[x 6,x 10,x 14,x 18,O J M.now]) (w':=W) (by rw[e6,e10,e14,e18];simp[execOp,go_sem,(show (Jn x).tmps[20]?.getD Uz=O J M.now from h20),(show (Jn x).tmps[6]?.getD Uz=_ from e6),(show (Jn x).tmps[10]?.getD Uz=_ from e10),(show (Jn x).tmps[14]?.getD Uz=_ from e14),(show (Jn x).tmps[18]?.getD Uz=_ from e18)]) ⟨Fg x 21 _,rfl,hJ.next 18 (by omega) rfl rfl (hJ.f.a18 g3 g7 g11 g15)⟩
  ·have g18:listed.getD 18 false=true:=hpre ⟨18,.data⟩ (by simp at ho;subst ho;simp) rfl
   have h21:=hJ.f.b18 g18
   have hx2:=hJ.x2
   obtain⟨g3,g7,g11,g15⟩:=hJ.f.e18 g18
   obtain⟨_,_,e6⟩:=Aq (hJ.f.r3 g3)
   obtain⟨_,_,e10⟩:=Aq (hJ.f.r7 g7)
   obtain⟨_,_,e14⟩:=Aq (hJ.f.r11 g11)
   obtain⟨_,_,e18⟩:=Aq (hJ.f.r15 g15)
   obtain⟨r0,r1,r2,r3,r4,z0,z1,z2,z3,z4,zs⟩:=Af (hJ.f.zb (Fj hi2))
   refine a2t rfl rfl (w':=Hu W (w.heap.size+1) (x 6) (x 10) (x 14) (x 18) (O J M.now)) (by
    rw[e6,e10,e14,e18] at h21 ⊢
    simp[execOp,go_sem,(show (Jn x).tmps[2]?.getD Uz=_ from hx2),(show (Jn x).tmps[21]?.getD Uz=_ from h21),r0,r1,r2,r3,r4,z0,z1,z2,z3,z4]
    rfl) ⟨x,rfl,hJ.next 19 (by omega) rfl rfl (hJ.f.s19 g18 (Fj hi2))⟩
 ·rintro listed a W hr ⟨x,rfl,hJ⟩
  have hall:=Ul hr hJ.n (by kernel_rfl) 20
  have g3:listed.getD 3 false=true:=hall 3 (by omega) (by show 3<20;omega)
  have g7:listed.getD 7 false=true:=hall 7 (by omega) (by show 7<20;omega)
  have g11:listed.getD 11 false=true:=hall 11 (by omega) (by show 11<20;omega)
  have g15:listed.getD 15 false=true:=hall 15 (by omega) (by show 15<20;omega)
  have g19:listed.getD 19 false=true:=hall 19 (by omega) (by show 19<20;omega)
  have g4:=hJ.f.e7 g7
  have g8:=hJ.f.e11 g11
  have g12:=hJ.f.e15 g15
  clear hr hall
  have o3:=hJ.f.r3 g3
  have o7:=hJ.f.r7 g7
  have o11:=hJ.f.r11 g11
  have o15:=hJ.f.r15 g15
  have d12:Dj (x 10) (x 14):=by have:=hJ.f.d12 g4 g8;rwa [if_pos g7,if_pos g11] at this
  have d13:Dj (x 10) (x 18):=by have:=hJ.f.d13 g4 g12;rwa [if_pos g7,if_pos g15] at this
  have d23:Dj (x 14) (x 18):=by have:=hJ.f.d23 g8 g12;rwa [if_pos g11,if_pos g15] at this
  have fb:=hJ.f.fb g19
  have lt:=hJ.f.lt
  have bl:=hJ.f.below
  obtain⟨gS,kS,e6⟩:=Aq o3
  obtain⟨gH,kH,e10⟩:=Aq o7
  obtain⟨gF,kF,e14⟩:=Aq o11
  obtain⟨gL,kL,e18⟩:=Aq o15
  rw[e6] at o3 fb
  rw[e10] at o7 d12 d13 fb
  rw[e14] at o11 d12 d23 fb
  rw[e18] at o15 d13 d23 fb
  have HF:Hid (Rw W w.heap.size gS gH gF gL kS kH kF kL M):=⟨ownsRow_le o3 (by omega),ownsRow_le o7 (by omega),ownsRow_le o11 (by omega),ownsRow_le o15 (by omega),d12,d13,d23,by omega⟩
  obtain⟨r0,r1,r2,r3,r4,g0,g1,g2,g3,g4,rs⟩:=Af fb
  have hx2:=hJ.x2
  clear o3 o7 o11 o15 d12 d13 d23 fb
  refine hK0 _ _ ?_
  go_wp2
  refine bodyPost_ret (v:=.agg #[Y gS M.slots.length kS,Y gH M.heads.length kH,Y gF M.free.length kF,Y gL M.locks.length kL,O J M.now]) (by simp[results,Tryz.results56,go_sem,Jn,hx2,r0,r1,r2,r3,r4]) rfl ⟨_,_,_,_,_,_,_,_,rfl,HF.out,bl⟩
end
section
open Go Go.RowKit
def Di(x:Nat->Value)(d:Nat)(v:Value):Nat->Value:=fun k=>if k=d then v else x k
theorem Ak{P:Program}{ops:Array Oper}{Q:Exit->Act->Wq->Prop}{i:Nat}{o:Oper}{a:Act}{w w':Wq}{v:Value}{K:Act->Wq->Prop}(hi:ops[i]?=some o)(hw:Region.wanted o (yielded ops a.tmps)=true)
  (hr:(execOp a.eval o).run P w=.ok (.value v) w') (h:K (a.put o.dst v) w'):wpOp P ops Q i K a w:=by
 refine wpOp_step hi fun K' hK=>?_
 rw[if_pos hw]
 unfold Oper.wp
 rw[hr]
 exact hK _ _ h
theorem Qe{P:Program}{ops:Array Oper}{Q:Exit->Act->Wq->Prop}{i:Nat}{o:Oper}{a:Act}{w:Wq}{f:Nat}{args:Array Value}{K:Act->Wq->Prop}(hi:ops[i]?=some o)(hw:Region.wanted o (yielded ops a.tmps)=true)
  (hr:(execOp a.eval o).run P w=.ok (.enter f args) w) (h:Calls P f args w fun e w'=>∃ v,e=.returned v/\K (a.put o.dst v) w'):wpOp P ops Q i K a w:=by
 refine wpOp_step hi fun K' hK=>?_
 rw[if_pos hw]
 unfold Oper.wp
 rw[hr]
 refine Calls.mono h ?_
 rintro e w' ⟨v,rfl,hv⟩
 exact hK _ _ hv
theorem Ai{o:Oper}{f:Nat->Option Bool}(h:o.guard=none):Region.wanted o f=true:=by unfold Region.wanted;rw[h]
theorem Ns{md:Region.Mode}{ops:Array Oper}{listed:Array Bool}(hr:Region.ready md ops listed=[])(hs:listed.size=ops.size)
  (he:((List.range ops.size).all fun i=>((ops[i]?).map fun o=>o.after.all fun e=>decide (e.on<i)).getD true)=true):∀ n i,i<n->i<ops.size->listed.getD i false=true
 | 0,i,h,_=>by omega
 | n+1,i,h,hi=>by
  cases hl:listed.getD i false with
  | true=>rfl
  | false =>
   exfalso
   have hlt:listed.getD i true=false:=by
    simpa [Array.getD_eq_getD_getElem?,hs,hi] using hl
   have hm:i∈Region.ready md ops listed:=by
    unfold Region.ready
    rw[List.mem_filter]
    refine⟨by simpa using hi,?_⟩
    rw[hlt]
    have h1:=List.all_eq_true.1 he i (by simpa using hi)
    have ho:ops[i]?=some ops[i]:=Array.getElem?_eq_getElem hi
    rw[ho] at h1 ⊢
    simp only[Option.map_some,Option.getD_some] at h1 ⊢
    simp only[Bool.not_false,Bool.true_and]
    rw[Array.all_eq_true'] at h1 ⊢
    intro e hm
    have h2:=h1 e hm
    have h3:e.on<i:=by simpa using h2
    rw[Ns hr hs he n e.on (by omega) (by omega)]
    simp
   rw[hr] at hm
   cases hm
theorem Nr{md:Region.Mode}{ops:Array Oper}{listed:Array Bool}(hr:Region.ready md ops listed=[])(hs:listed.size=ops.size)
  (he:((List.range ops.size).all fun i=>((ops[i]?).map fun o=>o.after.all fun e=>decide (e.on<i) || !Region.binds md e).getD true)=true):∀ n i,i<n->i<ops.size->listed.getD i false=true
 | 0,i,h,_=>by omega
 | n+1,i,h,hi=>by
  cases hl:listed.getD i false with
  | true=>rfl
  | false =>
   exfalso
   have hlt:listed.getD i true=false:=by
    simpa [Array.getD_eq_getD_getElem?,hs,hi] using hl
   have hm:i∈Region.ready md ops listed:=by
    unfold Region.ready
    rw[List.mem_filter]
    refine⟨by simpa using hi,?_⟩
    rw[hlt]
    have h1:=List.all_eq_true.1 he i (by simpa using hi)
    have ho:ops[i]?=some ops[i]:=Array.getElem?_eq_getElem hi
    rw[ho] at h1 ⊢
    simp only[Option.map_some,Option.getD_some] at h1 ⊢
    simp only[Bool.not_false,Bool.true_and]
    rw[Array.all_eq_true'] at h1 ⊢
    intro e hm
    have h2:=h1 e hm
    cases hb:Region.binds md e with
    | false=>simp
    | true =>
     rw[hb] at h2
     have h3:e.on<i:=by simpa using h2
     rw[Nr hr hs he n e.on (by omega) (by omega)]
     simp
   rw[hr] at hm
   cases hm
theorem Wj{P:Program}{ops:Array Oper}{Q:Exit->Act->Wq->Prop}{id:Nat}{a:Act}{w0:Wq}(hm:P.follows .mixedOrders=true)(mk:(Nat->Value)->Act)(ha:a=mk fun k=>a.tmps.getD k Uz)(D:List Nat)(hN:D.Nodup)(hD:D.length=ops.size)
  (he:((List.range ops.size).all fun i=>((ops[i]?).map fun o=>o.after.all fun e=>decide (e.on<i) || !Region.binds .any e).getD true)=true)
  (φ:Nat->Value->Wq->Prop) (mono:∀ i v w w',φ i v w->Below w.heap.size w w'->φ i v w')
  (step:∀ i,i<ops.size->∀ x W,Below w0.heap.size w0 W->(∀ d,d ∉ D->x d=a.tmps.getD d Uz) ->
   (∀ k,(((ops[i]?).map fun o=>o.after.any fun e=>e.on==k && Region.binds .any e).getD false)=true->φ k (x (D.getD k 0)) W) ->
   wpOp P ops Q i (fun a' W'=>∃ v,a'=mk (Di x (D.getD i 0) v)/\φ i v W'/\Below W.heap.size W W') (mk x) W)
  (fin:∀ x W,Below w0.heap.size w0 W->(∀ d,d ∉ D->x d=a.tmps.getD d Uz)->(∀ i,i<ops.size->φ i (x (D.getD i 0)) W)->Q .normal (mk x) W):(Code.region id ops true).wp P Q a w0:=by
 refine Gu hm (fun listed a' W=>∃ x,a'=mk x/\listed.size=ops.size/\Below w0.heap.size w0 W/\(∀ d,d ∉ D->x d=a.tmps.getD d Uz)/\∀ i,i<ops.size->listed.getD i false=true->φ i (x (D.getD i 0)) W) ?_ ?_ ?_
 ·refine⟨_,ha,by simp,(Below.refl _ _).drew,fun d _=>rfl,fun i hi h=>?_⟩
  have:(Array.replicate ops.size false).getD i false=false:=by simp[Array.getD_eq_getD_getElem?,hi]
  rw[this] at h
  cases h
 ·rintro listed a' W i hi ⟨x,rfl,hs,hb,hout,hφ⟩
  obtain⟨h1,h2,o,ho,hpre⟩:=Fa hi
  refine wpOp_mono ?_ (step i h1 x W hb hout fun k hk=>?_)
  ·rintro a'' W' ⟨v,rfl,hv,hb'⟩
   refine⟨_,rfl,by simpa using hs,hb.trans (hb'.mono hb.size),fun d hd=>?_,fun j hj hl=>?_⟩
   ·have:d≠D.getD i 0:=by
     rintro rfl
     refine hd ?_
     rw[List.getD_eq_getElem?_getD,List.getElem?_eq_getElem (by omega)]
     exact List.getElem_mem _
    simp only[Di,if_neg this]
    exact hout d hd
   ·by_cases e:j=i
    ·subst e
     simp only[Di,if_pos]
     exact hv
    ·have hne:D.getD j 0≠D.getD i 0:=by
      rw[List.getD_eq_getElem?_getD,List.getD_eq_getElem?_getD,List.getElem?_eq_getElem (by omega),List.getElem?_eq_getElem (by omega)]
      simp only[Option.getD_some]
      intro hh
      exact e ((List.getElem_inj hN).1 hh)
     simp only[Di,if_neg hne]
     have e':¬ i=j:=fun h=>e h.symm
     have hl':listed.getD j false=true:=by
      simpa [Array.getD_eq_getD_getElem?,e'] using hl
     exact mono _ _ _ _ (hφ j hj hl') hb'
  ·rw[ho] at hk
   simp only[Option.map_some,Option.getD_some] at hk
   rw[Array.any_eq_true'] at hk
   obtain⟨e,hem,hek⟩:=hk
   rw[Bool.and_eq_true] at hek
   have hon:e.on=k:=by simpa using hek.1
   have hl:=hpre e hem hek.2
   rw[hon] at hl
   refine hφ k ?_ hl
   refine Nat.lt_of_not_le fun hge=>?_
   have:listed.getD k false=false:=by simp[Array.getD_eq_getD_getElem?,hs,Nat.not_lt.2 hge]
   rw[this] at hl
   cases hl
 ·rintro listed a' W hr ⟨x,rfl,hs,hb,hout,hφ⟩
  exact fin x W hb hout fun i hi=>hφ i hi (Nr hr hs he (i+1) i (by omega) hi)
theorem La{listed:Array Bool}{i j:Nat}(h:i≠j)(b:Bool):(listed.setIfInBounds i true).getD j b=listed.getD j b:=by
 simp[Array.getD_eq_getD_getElem?,h]
theorem Rl{listed:Array Bool}{i:Nat}(h:i<listed.size):(listed.setIfInBounds i true).getD i false=true:=by
 simp[Array.getD_eq_getD_getElem?,h]
theorem a2p{listed:Array Bool}{i:Nat}(h:i<listed.size):listed.getD i true=listed.getD i false:=by
 simp[Array.getD_eq_getD_getElem?,h]
theorem Wi{P:Program}{ops:Array Oper}{Q:Exit->Act->Wq->Prop}{id:Nat}{a:Act}{w0:Wq}(hm:P.follows .mixedOrders=true)(mk:(Nat->Value)->Act)(ha:a=mk fun k=>a.tmps.getD k Uz)(D:List Nat)(hN:D.Nodup)(n:Nat)(hD:D.length=n)(hn:ops.size=n+2)
  (hA:((List.range ops.size).all fun i=>((ops[i]?).map fun o=>o.after.all fun e=>decide (e.on<i)).getD true)=true)
  (he:((List.range n).all fun i=>(List.range (n+1)).any fun j=>decide (i<j) && ((ops[j]?).map fun o=>o.after.any fun e=>e.on==i && Region.binds .any e).getD false)=true)
  (he2:((ops[n+1]?).map fun o=>o.after.any fun e=>e.on==n && Region.binds .any e).getD false=true)
  (φ:Nat->Value->Wq->Prop) (mono:∀ i v w w',φ i v w->Below w.heap.size w w'->φ i v w')
  (step:∀ i,i<n->∀ x W,Below w0.heap.size w0 W->(∀ d,d ∉ D->x d=a.tmps.getD d Uz) ->
   (∀ k,k<n->(((ops[i]?).map fun o=>o.after.any fun e=>e.on==k && Region.binds .any e).getD false)=true->φ k (x (D.getD k 0)) W) ->
   wpOp P ops Q i (fun a' W'=>∃ v,a'=mk (Di x (D.getD i 0) v)/\φ i v W'/\Below W.heap.size W W') (mk x) W)
  (fin:∀ x W,Below w0.heap.size w0 W->(∀ d,d ∉ D->x d=a.tmps.getD d Uz)->(∀ i,i<n->φ i (x (D.getD i 0)) W)->wpOp P ops Q n (fun a' W'=>wpOp P ops Q (n+1) (fun a'' W''=>Q .normal a'' W'') a' W') (mk x) W):(Code.region id ops true).wp P Q a w0:=by
 -- whatever waits for what has not come up has not come up,and can't
 have wait:∀ (listed:Array Bool),(∀ j o,ops[j]?=some o->listed.getD j false=true->∀ e∈o.after,Region.binds .any e=true->listed.getD e.on false=true)->∀ i j,j<n+2->(((ops[j]?).map fun o=>o.after.any fun e=>e.on==i && Region.binds .any e).getD false)=true->listed.getD i false=false->listed.getD j false=false/\j ∉ Region.ready .any ops listed:=by
  intro listed hc i j hj h3 hl
  have ho:ops[j]?=some (ops[j]'(by omega)):=Array.getElem?_eq_getElem (by omega)
  rw[ho] at h3
  simp only[Option.map_some,Option.getD_some] at h3
  rw[Array.any_eq_true'] at h3
  obtain⟨e,hem,hek⟩:=h3
  rw[Bool.and_eq_true] at hek
  have hon:e.on=i:=by simpa using hek.1
  refine⟨?_,fun hr=>?_⟩
  ·cases hlj:listed.getD j false with
   | false=>rfl
   | true =>
    have:=hc j _ ho hlj e hem hek.2
    rw[hon,hl] at this
    cases this
  ·obtain⟨-,-,o,ho',hpre⟩:=Fa hr
   rw[ho] at ho'
   cases ho'
   have:=hpre e hem hek.2
   rw[hon,hl] at this
   cases this
 have wn:∀ (listed:Array Bool),(∀ j o,ops[j]?=some o->listed.getD j false=true->∀ e∈o.after,Region.binds .any e=true->listed.getD e.on false=true)->∀ m i,n - i<=m->i<n->listed.getD i false=false->listed.getD n false=false/\n ∉ Region.ready .any ops listed:=by
  intro listed hc m
  induction m with
  | zero=>intro i h1 h2;omega
  | succ m ih =>
   intro i h1 h2 hl
   have h3:=List.all_eq_true.1 he i (by simpa using h2)
   obtain⟨j,hj,h4⟩:=List.any_eq_true.1 h3
   rw[Bool.and_eq_true] at h4
   have hij:i<j:=by simpa using h4.1
   have hjn:j<n+1:=by simpa using hj
   have h5:=wait listed hc i j (by omega) h4.2 hl
   by_cases e:j=n
   ·subst e;exact h5
   ·exact ih j (by omega) (by omega) h5.1
 refine Gu hm (fun listed a' W=>(listed.size=ops.size/\∀ j o,ops[j]?=some o->listed.getD j false=true->∀ e∈o.after,Region.binds .any e=true->listed.getD e.on false=true) /\
  ((listed.getD n false=false/\∃ x,a'=mk x/\Below w0.heap.size w0 W/\(∀ d,d ∉ D->x d=a.tmps.getD d Uz)/\∀ i,i<n->listed.getD i false=true->φ i (x (D.getD i 0)) W) \/
   (listed.getD n false=true/\listed.getD (n+1) false=false/\wpOp P ops Q (n+1) (fun a'' W''=>Q .normal a'' W'') a' W) \/
   (listed.getD (n+1) false=true/\Q .normal a' W))) ?_ ?_ ?_
 ·have hz:∀ i,(Array.replicate ops.size false).getD i false=false:=fun i=>by
   by_cases hi:i<ops.size <;> simp[Array.getD_eq_getD_getElem?,hi]
  refine⟨⟨by simp,fun j o _ hj=>?_⟩,.inl ⟨hz n,_,ha,(Below.refl _ _).drew,fun d _=>rfl,fun i hi h=>?_⟩⟩
  ·rw[hz] at hj;cases hj
  ·rw[hz] at h;cases h
 ·rintro listed a' W i hi ⟨⟨hs,hc⟩,hJ⟩
  obtain⟨h1,h2,o,ho,hpre⟩:=Fa hi
  rw[a2p (by omega)] at h2
  have hc':∀ j o,ops[j]?=some o->(listed.setIfInBounds i true).getD j false=true->∀ e∈o.after,Region.binds .any e=true->(listed.setIfInBounds i true).getD e.on false=true:=by
   intro j o' hj hl e hem heb
   have h3:listed.getD e.on false=true:=by
    by_cases ej:i=j
    ·subst ej
     rw[ho] at hj
     cases hj
     exact hpre e hem heb
    ·rw[La ej] at hl
     exact hc j o' hj hl e hem heb
   by_cases ee:i=e.on
   ·rw[<- ee];exact Rl (by omega)
   ·rw[La ee];exact h3
  have hs':(listed.setIfInBounds i true).size=ops.size:=by simpa using hs
  rcases hJ with ⟨hl,x,rfl,hb,hout,hφ⟩|⟨hl,hl1,hw⟩|⟨hl1,hw⟩
  ·have hl1:=wait listed hc n (n+1) (by omega) he2 hl
   by_cases hin:i<n
   ·refine wpOp_mono ?_ (step i hin x W hb hout fun k hkn hk=>?_)
    ·rintro a'' W' ⟨v,rfl,hv,hb'⟩
     refine⟨⟨hs',hc'⟩,.inl ⟨by rw[La (by omega)];exact hl,_,rfl,hb.trans (hb'.mono hb.size),fun d hd=>?_,fun j hj hlj=>?_⟩⟩
     ·have:d≠D.getD i 0:=by
       rintro rfl
       refine hd ?_
       rw[List.getD_eq_getElem?_getD,List.getElem?_eq_getElem (by omega)]
       exact List.getElem_mem _
      simp only[Di,if_neg this]
      exact hout d hd
     ·by_cases e:j=i
      ·subst e
       simp only[Di,if_pos]
       exact hv
      ·have hne:D.getD j 0≠D.getD i 0:=by
        rw[List.getD_eq_getElem?_getD,List.getD_eq_getElem?_getD,List.getElem?_eq_getElem (by omega),List.getElem?_eq_getElem (by omega)]
        simp only[Option.getD_some]
        intro hh
        exact e ((List.getElem_inj hN).1 hh)
       simp only[Di,if_neg hne]
       rw[La (fun h=>e h.symm)] at hlj
       exact mono _ _ _ _ (hφ j hj hlj) hb'
    ·rw[ho] at hk
     simp only[Option.map_some,Option.getD_some] at hk
     rw[Array.any_eq_true'] at hk
     obtain⟨e,hem,hek⟩:=hk
     rw[Bool.and_eq_true] at hek
     have hon:e.on=k:=by simpa using hek.1
     have hlk:=hpre e hem hek.2
     rw[hon] at hlk
     exact hφ k hkn hlk
   ·by_cases hin2:i=n
    ·subst hin2
     have hall:∀ k,k<i->listed.getD k false=true:=fun k hk=>by
      cases hlk:listed.getD k false with
      | true=>rfl
      | false=>exact absurd hi (wn listed hc _ k (Nat.le_refl _) hk hlk).2
     refine wpOp_mono ?_ (fin x W hb hout fun k hk=>hφ k hk (hall k hk))
     intro a'' W' hw
     exact⟨⟨hs',hc'⟩,.inr (.inl ⟨Rl (by omega),by rw[La (by omega)];exact hl1.1,hw⟩)⟩
    ·have:i=n+1:=by omega
     subst this
     exact absurd hi hl1.2
  ·have:i=n+1:=by
    by_cases hin:i<n
    ·have:=(wn listed hc _ i (Nat.le_refl _) hin h2).1
     rw[hl] at this
     cases this
    ·by_cases hin2:i=n
     ·subst hin2
      rw[hl] at h2
      cases h2
     ·omega
   subst this
   refine wpOp_mono ?_ hw
   intro a'' W' hq
   exact⟨⟨hs',hc'⟩,.inr (.inr ⟨Rl (by omega),hq⟩)⟩
  ·exfalso
   have hl:listed.getD n false=true:=by
    cases hl:listed.getD n false with
    | true=>rfl
    | false =>
     have:=(wait listed hc n (n+1) (by omega) he2 hl).1
     rw[hl1] at this
     cases this
   by_cases hin:i<n
   ·have:=(wn listed hc _ i (Nat.le_refl _) hin h2).1
    rw[hl] at this
    cases this
   ·by_cases hin2:i=n
    ·subst hin2
     rw[hl] at h2
     cases h2
    ·have:i=n+1:=by omega
     subst this
     rw[hl1] at h2
     cases h2
 ·rintro listed a' W hr ⟨⟨hs,hc⟩,hJ⟩
  have all:=Ns hr hs hA
  rcases hJ with ⟨hl,-⟩|⟨-,hl,-⟩|⟨-,hw⟩
  ·rw[all (n+1) n (by omega) (by omega)] at hl;cases hl
  ·rw[all (n+2) (n+1) (by omega) (by omega)] at hl;cases hl
  ·exact hw
end
section
open Go Go.RowKit
def a1x(P:Program)(ops:Array Oper)(Q:Exit->Act->Wq->Prop)(K:Act->Wq->Prop):Nat->Nat->Act->Wq->Prop
 | 0,_=>K
 | c+1,i=>wpOp P ops Q i (a1x P ops Q K c (i+1))
theorem Og{P:Program}{ops:Array Oper}{Q:Exit->Act->Wq->Prop}{id:Nat}{a:Act}{w0:Wq}(hm:P.follows .mixedOrders=true)(mk:(Nat->Value)->Act)(ha:a=mk fun k=>a.tmps.getD k Uz)(D:List Nat)(hN:D.Nodup)(n m:Nat)(hD:D.length=n)(hn:ops.size=n+m+1)
  (hA:((List.range ops.size).all fun i=>((ops[i]?).map fun o=>o.after.all fun e=>decide (e.on<i)).getD true)=true)
  (he:((List.range n).all fun i=>(List.range (n+1)).any fun j=>decide (i<j) && ((ops[j]?).map fun o=>o.after.any fun e=>e.on==i && Region.binds .any e).getD false)=true)
  (he2:((List.range m).all fun k=>((ops[n+k+1]?).map fun o=>o.after.any fun e=>e.on==n+k && Region.binds .any e).getD false)=true)
  (φ:Nat->Value->Wq->Prop) (mono:∀ i v w w',φ i v w->Below w.heap.size w w'->φ i v w')
  (step:∀ i,i<n->∀ x W,Below w0.heap.size w0 W->(∀ d,d ∉ D->x d=a.tmps.getD d Uz) ->
   (∀ k,k<n->(((ops[i]?).map fun o=>o.after.any fun e=>e.on==k && Region.binds .any e).getD false)=true->φ k (x (D.getD k 0)) W) ->
   wpOp P ops Q i (fun a' W'=>∃ v,a'=mk (Di x (D.getD i 0) v)/\φ i v W'/\Below W.heap.size W W') (mk x) W)
  (fin:∀ x W,Below w0.heap.size w0 W->(∀ d,d ∉ D->x d=a.tmps.getD d Uz)->(∀ i,i<n->φ i (x (D.getD i 0)) W)->a1x P ops Q (fun a' W'=>Q .normal a' W') (m+1) n (mk x) W):(Code.region id ops true).wp P Q a w0:=by
 have wait:∀ (listed:Array Bool),(∀ j o,ops[j]?=some o->listed.getD j false=true->∀ e∈o.after,Region.binds .any e=true->listed.getD e.on false=true)->∀ i j,j<n+m+1->(((ops[j]?).map fun o=>o.after.any fun e=>e.on==i && Region.binds .any e).getD false)=true->listed.getD i false=false->listed.getD j false=false/\j ∉ Region.ready .any ops listed:=by
  intro listed hc i j hj h3 hl
  have ho:ops[j]?=some (ops[j]'(by omega)):=Array.getElem?_eq_getElem (by omega)
  rw[ho] at h3
  simp only[Option.map_some,Option.getD_some] at h3
  rw[Array.any_eq_true'] at h3
  obtain⟨e,hem,hek⟩:=h3
  rw[Bool.and_eq_true] at hek
  have hon:e.on=i:=by simpa using hek.1
  refine⟨?_,fun hr=>?_⟩
  ·cases hlj:listed.getD j false with
   | false=>rfl
   | true =>
    have:=hc j _ ho hlj e hem hek.2
    rw[hon,hl] at this
    cases this
  ·obtain⟨-,-,o,ho',hpre⟩:=Fa hr
   rw[ho] at ho'
   cases ho'
   have:=hpre e hem hek.2
   rw[hon,hl] at this
   cases this
 have wn:∀ (listed:Array Bool),(∀ j o,ops[j]?=some o->listed.getD j false=true->∀ e∈o.after,Region.binds .any e=true->listed.getD e.on false=true)->∀ c i,n - i<=c->i<n->listed.getD i false=false->listed.getD n false=false/\n ∉ Region.ready .any ops listed:=by
  intro listed hc c
  induction c with
  | zero=>intro i h1 h2;omega
  | succ c ih =>
   intro i h1 h2 hl
   have h3:=List.all_eq_true.1 he i (by simpa using h2)
   obtain⟨j,hj,h4⟩:=List.any_eq_true.1 h3
   rw[Bool.and_eq_true] at h4
   have hij:i<j:=by simpa using h4.1
   have hjn:j<n+1:=by simpa using hj
   have h5:=wait listed hc i j (by omega) h4.2 hl
   by_cases e:j=n
   ·subst e;exact h5
   ·exact ih j (by omega) (by omega) h5.1
 -- behind one that has not come up,none of the last has
 have wt:∀ (listed:Array Bool),(∀ j o,ops[j]?=some o->listed.getD j false=true->∀ e∈o.after,Region.binds .any e=true->listed.getD e.on false=true)->∀ k c,k+c<m->listed.getD (n+k) false=false->listed.getD (n+k+c+1) false=false/\n+k+c+1 ∉ Region.ready .any ops listed:=by
  intro listed hc k c
  induction c with
  | zero =>
   intro h1 hl
   exact wait listed hc (n+k) (n+k+1) (by omega) (List.all_eq_true.1 he2 k (by simpa using h1)) hl
  | succ c ih =>
   intro h1 hl
   have h2:=ih (by omega) hl
   have h3:=List.all_eq_true.1 he2 (k+(c+1)) (by simpa using h1)
   rw[show n+(k+(c+1))+1=n+k+(c+1)+1 by omega,show n+(k+(c+1))=n+k+c+1 by omega] at h3
   exact wait listed hc (n+k+c+1) (n+k+(c+1)+1) (by omega) h3 h2.1
 refine Gu hm (fun listed a' W=>(listed.size=ops.size/\∀ j o,ops[j]?=some o->listed.getD j false=true->∀ e∈o.after,Region.binds .any e=true->listed.getD e.on false=true) /\
  ((listed.getD n false=false/\∃ x,a'=mk x/\Below w0.heap.size w0 W/\(∀ d,d ∉ D->x d=a.tmps.getD d Uz)/\∀ i,i<n->listed.getD i false=true->φ i (x (D.getD i 0)) W) \/
   (∃ k,k<=m/\(∀ j,j<=k->listed.getD (n+j) false=true)/\(k<m->listed.getD (n+k+1) false=false)/\a1x P ops Q (fun a' W'=>Q .normal a' W') (m - k) (n+k+1) a' W))) ?_ ?_ ?_
 ·have hz:∀ i,(Array.replicate ops.size false).getD i false=false:=fun i=>by
   by_cases hi:i<ops.size <;> simp[Array.getD_eq_getD_getElem?,hi]
  refine⟨⟨by simp,fun j o _ hj=>?_⟩,.inl ⟨hz n,_,ha,(Below.refl _ _).drew,fun d _=>rfl,fun i hi h=>?_⟩⟩
  ·rw[hz] at hj;cases hj
  ·rw[hz] at h;cases h
 ·rintro listed a' W i hi ⟨⟨hs,hc⟩,hJ⟩
  obtain⟨h1,h2,o,ho,hpre⟩:=Fa hi
  rw[a2p (by omega)] at h2
  have hc':∀ j o,ops[j]?=some o->(listed.setIfInBounds i true).getD j false=true->∀ e∈o.after,Region.binds .any e=true->(listed.setIfInBounds i true).getD e.on false=true:=by
   intro j o' hj hl e hem heb
   have h3:listed.getD e.on false=true:=by
    by_cases ej:i=j
    ·subst ej
     rw[ho] at hj
     cases hj
     exact hpre e hem heb
    ·rw[La ej] at hl
     exact hc j o' hj hl e hem heb
   by_cases ee:i=e.on
   ·rw[<- ee];exact Rl (by omega)
   ·rw[La ee];exact h3
  have hs':(listed.setIfInBounds i true).size=ops.size:=by simpa using hs
  rcases hJ with ⟨hl,x,rfl,hb,hout,hφ⟩|⟨k,hk,hl,hl1,hw⟩
  ·by_cases hin:i<n
   ·refine wpOp_mono ?_ (step i hin x W hb hout fun k hkn hk=>?_)
    ·rintro a'' W' ⟨v,rfl,hv,hb'⟩
     refine⟨⟨hs',hc'⟩,.inl ⟨by rw[La (by omega)];exact hl,_,rfl,hb.trans (hb'.mono hb.size),fun d hd=>?_,fun j hj hlj=>?_⟩⟩
     ·have:d≠D.getD i 0:=by
       rintro rfl
       refine hd ?_
       rw[List.getD_eq_getElem?_getD,List.getElem?_eq_getElem (by omega)]
       exact List.getElem_mem _
      simp only[Di,if_neg this]
      exact hout d hd
     ·by_cases e:j=i
      ·subst e
       simp only[Di,if_pos]
       exact hv
      ·have hne:D.getD j 0≠D.getD i 0:=by
        rw[List.getD_eq_getElem?_getD,List.getD_eq_getElem?_getD,List.getElem?_eq_getElem (by omega),List.getElem?_eq_getElem (by omega)]
        simp only[Option.getD_some]
        intro hh
        exact e ((List.getElem_inj hN).1 hh)
       simp only[Di,if_neg hne]
       rw[La (fun h=>e h.symm)] at hlj
       exact mono _ _ _ _ (hφ j hj hlj) hb'
    ·rw[ho] at hk
     simp only[Option.map_some,Option.getD_some] at hk
     rw[Array.any_eq_true'] at hk
     obtain⟨e,hem,hek⟩:=hk
     rw[Bool.and_eq_true] at hek
     have hon:e.on=k:=by simpa using hek.1
     have hlk:=hpre e hem hek.2
     rw[hon] at hlk
     exact hφ k hkn hlk
   ·by_cases hin2:i=n
    ·subst hin2
     have hall:∀ k,k<i->listed.getD k false=true:=fun k hk=>by
      cases hlk:listed.getD k false with
      | true=>rfl
      | false=>exact absurd hi (wn listed hc _ k (Nat.le_refl _) hk hlk).2
     refine wpOp_mono ?_ (fin x W hb hout fun k hk=>hφ k hk (hall k hk))
     intro a'' W' hw
     refine⟨⟨hs',hc'⟩,.inr ⟨0,Nat.zero_le _,fun j hj=>?_,fun hm0=>?_,hw⟩⟩
     ·obtain rfl:j=0:=by omega
      exact Rl (by omega)
     ·rw[La (by omega)]
      exact(wt listed hc 0 0 (by omega) hl).1
    ·have h3:=wt listed hc 0 (i - n - 1) (by omega) hl
     rw[show n+0+(i - n - 1)+1=i by omega] at h3
     exact absurd hi h3.2
  ·have hn0:listed.getD n false=true:=hl 0 (Nat.zero_le _)
   have hk1:k<m/\i=n+k+1:=by
    by_cases hin:i<n
    ·have:=(wn listed hc _ i (Nat.le_refl _) hin h2).1
     rw[hn0] at this
     cases this
    ·by_cases hik:i<=n+k
     ·have:=hl (i - n) (by omega)
      rw[show n+(i - n)=i by omega,h2] at this
      cases this
     ·by_cases e:i=n+k+1
      ·exact⟨by omega,e⟩
      ·have h3:=wt listed hc (k+1) (i - n - k - 2) (by omega) (hl1 (by omega))
       rw[show n+(k+1)+(i - n - k - 2)+1=i by omega] at h3
       exact absurd hi h3.2
   obtain⟨hkm,rfl⟩:=hk1
   rw[show m - k=(m - (k+1))+1 by omega] at hw
   refine wpOp_mono ?_ hw
   intro a'' W' hq
   refine⟨⟨hs',hc'⟩,.inr ⟨k+1,hkm,fun j hj=>?_,fun hm0=>?_,hq⟩⟩
   ·by_cases e:j=k+1
    ·subst e;exact Rl (by omega)
    ·rw[La (by omega)];exact hl j (by omega)
   ·rw[La (by omega)]
    exact(wt listed hc (k+1) 0 (by omega) (hl1 hkm)).1
 ·rintro listed a' W hr ⟨⟨hs,hc⟩,hJ⟩
  have all:=Ns hr hs hA
  rcases hJ with ⟨hl,-⟩|⟨k,hk,-,hl,hw⟩
  ·rw[all (n+1) n (by omega) (by omega)] at hl;cases hl
  ·by_cases e:k=m
   ·subst e
    rw[Nat.sub_self] at hw
    exact hw
   ·have:=hl (by omega)
    rw[all (n+k+2) (n+k+1) (by omega) (by omega)] at this
    cases this
end
section
def Px(many buckets tasks:Nat):Wd:=⟨L6 many buckets,List.replicate tasks idle⟩
end
section
def nx(m:Mm)(y:Int):Int:=(Aa m y).next
end
section
section
variable {w:Wd} {G:List (List Mm)} {i:Nat} {t:Tk}
theorem a2h(m:Mm)(i:Nat)(t:Tk):(stepT m i t).2.f.c=t.f.c:=by
 unfold stepT
 split
 ·exact lkF_c _ _
 split
 ·exact adF_c _ _
 split
 ·exact drF_c _ _
 split
 ·rfl
 ·exact swF_c _ _
end
end
section
structure Pst where
 task:Int
 c:Cl
 fro:Nat
 to:Nat
 e:Int
 slot:Int
 n:Int
 keys:List (Int × Int)
def Vl(w:Wd)(x:Pk):Wd:=if doE w x=0 then doW w x else w
def Kd(w:Wd)(x:Pk):Prop :=
 (x.tick=true/\w.m.now≠1000000/\doW w x=⟨{ w.m with now:=w.m.now+1 },w.ts⟩) \/
 (x.tick=false/\x.step=true/\(0<=x.task/\x.task<w.ts.length)/\w.ts[x.task.toNat]?=some (Fq w x)/\(Fq w x).busy=true/\doW w x=⟨(stepT w.m x.task.toNat (Fq w x)).1,w.ts.set x.task.toNat (stepT w.m x.task.toNat (Fq w x)).2⟩) \/
 (x.tick=false/\x.step=false/\(0<=x.task/\x.task<w.ts.length)/\w.ts[x.task.toNat]?=some (Fq w x)/\(Fq w x).busy=false/\D5 w.m.slots.length w.m.heads.length x.c=0/\(x.c.kind=1->(Fq w x).held.length≠100)/\(x.c.kind=6->x.c.slot∈(Fq w x).held)/\doW w x=⟨w.m,w.ts.set x.task.toNat ⟨true,Cm x.c,(Fq w x).held⟩⟩)
theorem Kd.tick{w:Wd}{x:Pk}(h:x.tick=true)(hn:w.m.now≠1000000)(e:doW w x=⟨{ w.m with now:=w.m.now+1 },w.ts⟩):Kd w x:=.inl ⟨h,hn,e⟩
theorem Kd.step{w:Wd}{x:Pk}(h:x.tick=false)(hs:x.step=true)(hr:0<=x.task/\x.task<w.ts.length)(hi:w.ts[x.task.toNat]?=some (Fq w x))(hb:(Fq w x).busy=true)(e:doW w x=⟨(stepT w.m x.task.toNat (Fq w x)).1,w.ts.set x.task.toNat (stepT w.m x.task.toNat (Fq w x)).2⟩):Kd w x:=.inr (.inl ⟨h,hs,hr,hi,hb,e⟩)
theorem Kd.begin{w:Wd}{x:Pk}(h:x.tick=false)(hs:x.step=false)(hr:0<=x.task/\x.task<w.ts.length)(hi:w.ts[x.task.toNat]?=some (Fq w x))(hb:(Fq w x).busy=false)(hc:D5 w.m.slots.length w.m.heads.length x.c=0)(h1:x.c.kind=1->(Fq w x).held.length≠100)(h6:x.c.kind=6->x.c.slot∈(Fq w x).held)(e:doW w x=⟨w.m,w.ts.set x.task.toNat ⟨true,Cm x.c,(Fq w x).held⟩⟩):Kd w x:=.inr (.inr ⟨h,hs,hr,hi,hb,hc,h1,h6,e⟩)
theorem a5o{w:Wd}{x:Pk}(h:doE w x=0):Kd w x:=by
 unfold doE at h
 by_cases ht:x.tick=true
 ·rw[if_pos ht] at h
  by_cases hn:w.m.now=1000000
  ·rw[if_pos hn] at h;omega
  ·exact .tick ht hn (by unfold doW;rw[if_pos ht])
 rw[if_neg ht] at h
 have ht':x.tick=false:=by simpa using ht
 by_cases hr:0<=x.task/\x.task<w.ts.length
 ·rw[if_neg (by simpa using hr)] at h
  have hi:w.ts[x.task.toNat]?=some (Fq w x):=by
   unfold Fq
   have:x.task.toNat<w.ts.length:=by omega
   rw[List.getD_eq_getElem?_getD,List.getElem?_eq_getElem this]
   rfl
  by_cases hs:x.step=true
  ·rw[if_pos hs] at h
   by_cases hb:(Fq w x).busy=true
   ·exact .step ht' hs hr hi hb (by unfold doW;rw[if_neg ht,if_pos hs])
   ·rw[if_neg hb] at h;omega
  ·rw[if_neg hs] at h
   unfold Y0 at h
   by_cases hb:(Fq w x).busy=true
   ·rw[if_pos hb] at h;omega
   rw[if_neg hb] at h
   by_cases hc:D5 w.m.slots.length w.m.heads.length x.c=0
   ·rw[if_neg (by simpa using hc)] at h
    by_cases h1:x.c.kind=1/\(Fq w x).held.length=100
    ·rw[if_pos h1] at h;omega
    rw[if_neg h1] at h
    by_cases h6:x.c.kind=6/\x.c.slot ∉ (Fq w x).held
    ·rw[if_pos h6] at h;omega
    refine .begin ht' (by simpa using hs) hr hi (by simpa using hb) hc (fun h=>fun e=>h1 ⟨h,e⟩) (fun h=>?_) (by unfold doW;rw[if_neg ht,if_neg hs])
    by_cases hm:x.c.slot∈(Fq w x).held
    ·exact hm
    ·exact(h6 ⟨h,hm⟩).elim
   ·rw[if_pos hc] at h;exact(hc h).elim
 ·rw[if_pos (by simpa using hr)] at h;omega
structure Rs where
 w:Wd
 said:List Int
 past:List Pst
 beg:List Nat
def a8k(n:Nat)(x:Pk)(b:Nat)(t:Tk):Pst:=⟨x.task,t.f.c,b,n,t.f.e,t.f.slot,t.f.n,t.f.keys⟩
def U4(n:Nat)(s:Rs)(x:Pk):Rs :=
 if doE s.w x=0 then
  (if x.tick then ⟨doW s.w x,s.said ++ [0],s.past,s.beg⟩
   else if x.step then
    (if ((doW s.w x).ts.getD x.task.toNat idle).busy then ⟨doW s.w x,s.said ++ [0],s.past,s.beg⟩
    else ⟨doW s.w x,s.said ++ [0],s.past ++ [a8k n x (s.beg.getD x.task.toNat 0) ((doW s.w x).ts.getD x.task.toNat idle)],s.beg⟩)
   else ⟨doW s.w x,s.said ++ [0],s.past,s.beg.set x.task.toNat n⟩)
 else ⟨s.w,s.said ++ [doE s.w x],s.past,s.beg⟩
def Uc:Nat->Rs->List Pk->Rs
 | _,s,[]=>s
 | n,s,x :: l=>Uc (n+1) (U4 n s x) l
def rs0(w:Wd):Rs:=⟨w,[],[],List.replicate w.ts.length 0⟩
end
section
open Go.ChangeShapes Go.WideShapes Go.ChangeAt Go.RowKit Go.Joins Go.Deep Go.Sort
theorem a4k(M:Mm)(aS aH aF aL:Option Addr)(cS cH cF cL:Nat)(w:Wq)(A:At w aS aH aF aL cS cH cF cL M) :
  Calls Pg 55 #[.agg #[Y aS M.slots.length cS,Y aH M.heads.length cH,Y aF M.free.length cF,Y aL M.locks.length cL,O J M.now]] w fun e w' =>
   ∃ ao cap,e=.returned (.tuple #[Y ao (Gm M).length cap,O J (Kq M)])/\w'.ownsRow w.heap.size 61 4 (Y ao (Gm M).length cap) (Gm M).length (Kv (Gm M))/\Below w.heap.size w w':=by
 obtain⟨E0,hE0⟩:∃ E0,E0=Kq M:=⟨_,rfl⟩
 obtain⟨L0,hL0⟩:∃ L0,L0=Gm M:=⟨_,rfl⟩
 rw[<- hE0,<- hL0]
 have HE0:Hid (E0=Kq M):=hE0
 have HL0:Hid (L0=Gm M):=hL0
 clear hE0 hL0
 obtain⟨o1,ho1⟩:∃ o:Obj,o=.cells #[Y aS M.slots.length cS,Y aH M.heads.length cH,Y aF M.free.length cF,Y aL M.locks.length cL,O J M.now] 25:=⟨_,rfl⟩
 have b0:Below w.heap.size w (w.alloc o1):=A7 w o1
 have HB0:Hid ((w.alloc o1).heap[w.heap.size]?=some o1):=heap_alloc_new _ _
 have HA:Hid (At w aS aH aF aL cS cH cF cL M):=A
 have HA0:Hid _:=A.below b0
 clear A
 have hmf:∀ (fn:Fn) (first cap:Array Value) (w:Wq),(Instr.makeFunc fn first cap).run Pg w=.ok (.func fn first cap) w:=fun _ _ _ _=>rfl
 go_enter Tryz.func55,Tryz.ntmps55
 go_wp2_with fail
 rw[<- ho1]
 generalize w.alloc o1=W0 at *
 subst ho1
 refine(Ur M aS aH aF aL cS cH cF cL W0 HA0.out).mono ?_
 rintro e w1 ⟨rfl,hb1⟩
 have b1:=b0.trans (hb1.mono b0.size)
 have HB1:Hid (w1.heap[w.heap.size]?=_):=(hb1.block w.heap.size (lt_of_block HB0.out)).trans HB0.out
 clear hb1 b0 HB0 HA0
 by_cases hE:Kq M=0
 rotate_left
 ·have h':(Kq M != 0)=true:=by simpa using hE
  have HV:Hid (E0=Kq M/\L0=[]):=⟨HE0.out,HL0.out.trans (by unfold Gm;rw[if_neg hE])⟩
  clear HB1
  generalize Kq M=E at *
  go_wp2
  go_ret2
  exact⟨none,0,by rw[HV.out.1,HV.out.2];rfl,by rw[HV.out.2];exact World.ownsRow_nil _ _ _ _,b1⟩
 have hokc:=(a4c M).1 hE
 have hok:=hokc.ok
 have n0:=hok.ns
 have n1:=hok.nh
 have HV:Hid (E0=0/\L0=(Qg M).map (Dz M)):=⟨HE0.out.trans hE,HL0.out.trans (by unfold Gm;rw[if_pos hE])⟩
 rw[hE]
 clear hE HE0 HL0
 obtain⟨q0,q1,q2,q3,q4,f0,f1,f2,f3,f4,qs⟩:=Af HB1.out
 clear f0 f1 f2 f3 f4
 obtain⟨B,hB⟩:∃ B,B=w1.heap.size:=⟨_,rfl⟩
 have HBe:Hid (B=w1.heap.size):=hB
 have HV1:Hid ((w1.alloc (.cells #[Y none 0 0] 56)).heap[B]?=some (.cells #[Y none 0 0] 56)):=by rw[hB];exact heap_alloc_new _ _
 have HX1:Hid ((w1.alloc (.cells #[Y none 0 0] 56)).heap[w.heap.size]?=some (.cells #[Y aS M.slots.length cS,Y aH M.heads.length cH,Y aF M.free.length cF,Y aL M.locks.length cL,O J M.now] 25 (0,0))):=(Below.heap_alloc _ _ _ qs).trans HB1.out
 have b2:=b1.alloc b1.size (.cells #[Y none 0 0] 56)
 have bX:w.heap.size<B:=by rw[hB];exact qs
 go_wp2
 rw[<- hB]
 clear hB q0 q1 q2 q3 q4 HB1
 go_loopw [15] (fun i wr=>∃ b:Nat,b<=M.heads.length/\i=O J b/\(∃ v,Hid (wr.heap[B]?=some (.cells #[v] 56 (0,0)))/\Hid (wr.ownsRow (B+1) 61 4 v ((C9 M b).map (Dz M)).length (Kv ((C9 M b).map (Dz M)))))/\Below w.heap.size w wr/\Hid (wr.heap[w.heap.size]?=some (.cells #[Y aS M.slots.length cS,Y aH M.heads.length cH,Y aF M.free.length cF,Y aL M.locks.length cL,O J M.now] 25 (0,0))))
  (fun i _=>M.heads.length - (intOf i).toNat)
 case atStart=>exact⟨0,Nat.zero_le _,rfl,⟨_,HV1,World.ownsRow_nil _ _ _ _⟩,b2,HX1⟩
 case round =>
  obtain⟨b,hb,rfl,⟨v,HVr,HOr⟩,hbw,HX⟩:=hrel
  clear HV1 HX1 b2 b1
  obtain⟨q0,q1,q2,q3,q4,f0,f1,f2,f3,f4,qs'⟩:=Af HX.out
  clear f0 f1 f2 f3 f4
  have lB:=lt_of_block HVr.out
  by_cases hlt:b<M.heads.length
  ·have hal:=Oh M b
   have hal2:b*M.slots.length<=4*12:=Nat.mul_le_mul (by omega) n0
   go_wp2_with fail
   have hst:Lst wr B wr.heap.size 56 61 4 #[Y aS M.slots.length cS,Y aH M.heads.length cH,Y aF M.free.length cF,Y aL M.locks.length cL,O J M.now] (wr.alloc (.cells #[Y aS M.slots.length cS,Y aH M.heads.length cH,Y aF M.free.length cF,Y aL M.locks.length cL,O J M.now] 25)) ((C9 M b ++ []).map (Dz M)).length (Kv ((C9 M b ++ []).map (Dz M))):=by
    rw[List.append_nil]
    refine⟨⟨v,(Below.heap_alloc _ _ _ lB).trans HVr.out,World.ownsRow.alloc HOr.out _⟩,heap_alloc_new _ _,(Below.refl _ _).alloc (by omega) _,by omega⟩
   refine(walk_any 100 #[.pointer (some ⟨w.heap.size,0,none⟩),.pointer (some ⟨B,0,none⟩)] M aS aH aF aL cS cH cF cL b wr hok hlt fn72 (fun l W=>Lst wr B wr.heap.size 56 61 4 #[Y aS M.slots.length cS,Y aH M.heads.length cH,Y aF M.free.length cF,Y aL M.locks.length cL,O J M.now] W ((C9 M b++l).map (Dz M)).length (Kv ((C9 M b++l).map (Dz M)))) hst (fun l W h=>h.box) (fun l W h=>HA.out.below (hbw.trans (h.below.mono (by omega)))) ?_).mono ?_
   ·intro l a W hL ha hl
    have:=app72 M aS aH aF aL cS cH cF cL _ _ w.heap.size _ _ _ _ a hL (by rw[List.length_append];omega) ((hL.below.block w.heap.size bX).trans HX.out) (HA.out.below (hbw.trans (hL.below.mono (by omega)))) ha n0
    rw[List.append_assoc] at this
    exact this
   rintro e w2 ⟨rfl,hL2⟩
   rw[<- Ie] at hL2
   obtain⟨⟨v2,hv2,ho2⟩,-,hb2,-⟩:=hL2
   have HV2:Hid (w2.heap[B]?=some (.cells #[v2] 56 (0,0))):=hv2
   have HO2:Hid (w2.ownsRow (B+1) 61 4 v2 ((C9 M (b+1)).map (Dz M)).length (Kv ((C9 M (b+1)).map (Dz M)))):=ho2
   have hbx:Below w.heap.size w w2:=hbw.trans (hb2.mono (by omega))
   have HX2:Hid (w2.heap[w.heap.size]?=some (.cells #[Y aS M.slots.length cS,Y aH M.heads.length cH,Y aF M.free.length cF,Y aL M.locks.length cL,O J M.now] 25 (0,0))):=(hb2.block w.heap.size bX).trans HX.out
   clear hv2 ho2 hb2 hst HVr HOr HX hbw q0 q1 q2 q3 q4
   go_wp2
   go_roundw
   case rel=>exact⟨b+1,by omega,by go_num,⟨v2,HV2,HO2⟩,hbx,HX2⟩
   case measure=>simp[intOf];omega
  ·obtain rfl:b=M.heads.length:=by omega
   have hlen:=Oh M M.heads.length
   have hal2:M.heads.length*M.slots.length<=4*12:=Nat.mul_le_mul (by omega) n0
   obtain⟨ao,cap,rfl,hrow⟩:=Yk.Kr HOr.out (by rw[List.length_map];omega)
   have HR:Hid (wr.ownsRow w.heap.size 61 4 (Y ao ((Qg M).map (Dz M)).length cap) ((Qg M).map (Dz M)).length (Kv ((Qg M).map (Dz M)))):=ownsRow_le HOr.out (by omega)
   clear hrow
   obtain⟨c0,-,lB'⟩:=Ar HVr.out
   have hlm:((Qg M).map (Dz M)).length=((C9 M M.heads.length).map (Dz M)).length:=rfl
   clear HVr HOr
   go_wp2
   go_ret2
   refine⟨ao,cap,?_,?_,hbw⟩
   ·rw[HV.out.1,HV.out.2,hlm]
    simp
   ·rw[HV.out.2];exact HR.out
end
end Go.Proofs.YthhgoenomehobaaGreat.mm
