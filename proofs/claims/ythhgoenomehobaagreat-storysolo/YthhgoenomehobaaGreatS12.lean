/- Parts. -/
import Derived.Test.YthhgoenomehobaaGreatS09
import Derived.Test.YthhgoenomehobaaGreatS10
namespace Go.Proofs.YthhgoenomehobaaGreat.mm
set_option maxRecDepth 100000
set_option linter.unusedVariables false
open Go.Value renaming int → O, slice → Y
open Go.IntKind renaming i64 → J
section
open Go.ChangeShapes Go.WideShapes Go.ChangeAt Go.RowKit Go.Joins Go.Deep Go.Sort
variable {Xb:Ex}
set_option maxHeartbeats 3200000 in
theorem b3u(M:Mm)(f:Fr)(B lo:Nat)(aS aH aF aL:Option Addr)(cS cH cF cL:Nat)(aK:Option Addr)(cK:Nat)(w:World)
  (m:Mine Xb w B lo aS aH aF aL cS cH cF cL M) (hM:Ok M) (hf:Fit M f) (r:Ag w aK cK f.keys) (hz:∀ ad,aK=some ad->¬ A8 B aS aH aF aL ad.block) :
  Calls Tryz.prog 177 #[.pointer (some ⟨B,0,none⟩),.agg #[O J f.c.kind,O J f.c.a,O J f.c.b,O J f.c.time,O J f.c.bk,O J f.c.slot,O J f.pl,O J f.cur,O J f.prev,O J f.slot,O J f.n,Y aK f.keys.length cK,.bool f.done,O J f.e]] w fun e w'=>Ret w w' e (Jl M f) aK cK/\Has Xb w' B lo (Up w (A8 B aS aH aF aL)) (Ig M f)/\Fine w w' (A8 B aS aH aF aL):=by
 have hns:=hM.ns
 have hnh:=hM.nh.2
 have hcur:=hf.cur.2
 have hc1:f.cur<=1000:=by omega
 have hn1:M.slots.length<=1000:=by omega
 have HOk:Hid (Ok M):=hM
 have HR:Hid (Ag w aK cK f.keys):=r
 obtain⟨b0,b1⟩:=Ej hM hf.call
 obtain⟨b,hb⟩:∃ b:Nat,G7 M.heads.length f.c=b:=⟨_,(Int.toNat_of_nonneg b0).symm⟩
 have hbl:b<M.heads.length:=by omega
 have hbn:bkN M f=b:=by unfold bkN;rw[hb];rfl
 cases hsl:Be M f.slot
 ·have hres:Jl M f=Am f:=by unfold Jl;rw[hsl];rfl
  have hresM:Ig M f=M:=by unfold Ig;rw[hsl];rfl
  rw[hres,hresM]
  have hsl':inB f.slot 0 ((M.slots.length:Int) - 1)=false:=hsl
  have HBk:Hid (∀ W:World,Calls Tryz.prog 34 #[.agg #[Y aS M.slots.length cS,Y aH M.heads.length cH,Y aF M.free.length cF,Y aL M.locks.length cL,O J M.now],.agg #[O J f.c.kind,O J f.c.a,O J f.c.b,O J f.c.time,O J f.c.bk,O J f.c.slot]] W fun e w'=>e=.returned (O J (b:Int))/\Below W.heap.size W w'):=fun W=>hb ▸ Dk _ _ _ _ _ _ _ _ cS cH cF cL M.now f.c W (by omega)
  have HHs:Hid (∀ W:World,Calls Tryz.prog 111 #[.agg #[Y aS M.slots.length cS,Y aH M.heads.length cH,Y aF M.free.length cF,Y aL M.locks.length cL,O J M.now],O J f.slot] W fun e w'=>e=.returned (.bool false)/\Below W.heap.size W w'):=fun W=>hsl' ▸ Fz _ _ _ _ _ _ _ _ cS cH cF cL M.now _ W (by omega)
  have HZ:Hid (∀ ad,aK=some ad->¬ (A8 B aS aH aF aL) ad.block):=hz
  obtain⟨of,hof⟩:=frObj f aK cK
  obtain⟨oz,hoz⟩:∃ o:Obj,o=Ac:=⟨_,rfl⟩
  have HE:Hid (Lk Xb w ((w.alloc of).alloc oz) B lo aS aH aF aL cS cH cF cL M f aK cK):=Lk.first m f aK cK hof hoz
  obtain⟨q0,q1,q2,q3,q4,-,-,-,-,-,qs⟩:=Aj HE.out.m.box
  obtain⟨f0,f1,f2,f3,f4,f5,f6,f7,f8,f9,f10,f11,f12,f13,ff,fs⟩:=Aa HE.out.fb
  unfold Ac at hoz
  clear m hc1 hn1 hcur hns hnh hM hf r hz hsl hsl' hres hresM hbn hb b0 b1
  go_enter Tryz.func177,Tryz.ntmps177
  go_wp2_with fail
  rw[<- hof,<- hoz]
  generalize (w.alloc of).alloc oz=W0 at *
  subst hof hoz
  have cB:∀ (d:Nat) (os:Array Obj),Calls Tryz.prog 34 #[.agg #[Y aS M.slots.length cS,Y aH M.heads.length cH,Y aF M.free.length cF,Y aL M.locks.length cL,O J M.now],.agg #[O J f.c.kind,O J f.c.a,O J f.c.b,O J f.c.time,O J f.c.bk,O J f.c.slot]] (grow (redrawn W0 d) os) fun e w''=>e=.returned (O J (b:Int))/\∃ p:Regrown,w''=grow (redrawn W0 p.d) p.os:=fun d os=>Calls.regrown_of (HBk.out _)
  have Xq0:=cell_regrown q0
  have Xq1:=cell_regrown q1
  have Xq2:=cell_regrown q2
  have Xq3:=cell_regrown q3
  have Xq4:=cell_regrown q4
  have Xf0:=cell_regrown f0
  have Xf1:=cell_regrown f1
  have Xf2:=cell_regrown f2
  have Xf3:=cell_regrown f3
  have Xf4:=cell_regrown f4
  have Xf5:=cell_regrown f5
  clear q0 q1 q2 q3 q4 qs
  clear f0 f1 f2 f3 f4 f5 f6 f7 f8 f9 f10 f11 f12 f13 ff fs
  refine wp_region_quiet_below (by kernel_rfl) (by kernel_rfl) ?_
  repeat (quiet_step (first|exact cB _ _))
  refine wpQuiet_nil ?_
  intro _ hw'
  obtain⟨⟨dq,osq⟩,hw''⟩:=hw'
  subst hw''
  have HE1:Hid (Lk Xb w (grow (redrawn W0 dq) osq) B lo aS aH aF aL cS cH cF cL M f aK cK):=HE.out.below (below_regrown W0 dq osq)
  generalize grow (redrawn W0 dq) osq=w1 at *
  clear Xq0 Xq1 Xq2 Xq3 Xq4 Xf0 Xf1 Xf2 Xf3 Xf4 Xf5 HE
  clear cB
  obtain⟨q0,q1,q2,q3,q4,-,-,-,-,-,qs⟩:=Aj HE1.out.m.box
  obtain⟨f0,f1,f2,f3,f4,f5,f6,f7,f8,f9,f10,f11,f12,f13,ff,fs⟩:=Aa HE1.out.fb
  go_wp2_with fail
  have kH:∀ (d:Nat) (os:Array Obj),Calls Tryz.prog 111 #[.agg #[Y aS M.slots.length cS,Y aH M.heads.length cH,Y aF M.free.length cF,Y aL M.locks.length cL,O J M.now],O J f.slot] (grow (redrawn w1 d) os) fun e w''=>e=.returned (.bool false)/\∃ p:Regrown,w''=grow (redrawn w1 p.d) p.os:=fun d os=>Calls.regrown_of (HHs.out _)
  have Xq0:=cell_regrown q0
  have Xq1:=cell_regrown q1
  have Xq2:=cell_regrown q2
  have Xq3:=cell_regrown q3
  have Xq4:=cell_regrown q4
  have Xf9:=cell_regrown f9
  clear q0 q1 q2 q3 q4 qs
  clear f0 f1 f2 f3 f4 f5 f6 f7 f8 f9 f10 f11 f12 f13 ff fs
  refine wp_region_quiet_below (by kernel_rfl) (by kernel_rfl) ?_
  repeat (quiet_step (first|exact kH _ _))
  refine wpQuiet_nil ?_
  intro _ hw'
  obtain⟨⟨dq,osq⟩,hw''⟩:=hw'
  subst hw''
  have HE2:Hid (Lk Xb w (grow (redrawn w1 dq) osq) B lo aS aH aF aL cS cH cF cL M f aK cK):=HE1.out.below (below_regrown w1 dq osq)
  generalize grow (redrawn w1 dq) osq=w2 at *
  clear Xq0 Xq1 Xq2 Xq3 Xq4 Xf9 HE1
  clear kH
  obtain⟨q0,q1,q2,q3,q4,-,-,-,-,-,qs⟩:=Aj HE2.out.m.box
  obtain⟨f0,f1,f2,f3,f4,f5,f6,f7,f8,f9,f10,f11,f12,f13,ff,fs⟩:=Aa HE2.out.fb
  go_wp2_with fail
  clear q0 q1 q2 q3 q4 qs
  have HE3:Hid (Lk2 Xb w _ (A8 B aS aH aF aL) B lo M f aK cK):=HE2.out.two
  clear HE2
  refine(Tc f aK cK _).mono ?_
  rintro e w9 ⟨rfl,hb9⟩
  have HE9:Hid (Lk2 Xb w w9 (A8 B aS aH aF aL) B lo M f aK cK):=HE3.out.below hb9
  clear HE3 hb9
  clear f0 f1 f2 f3 f4 f5 f6 f7 f8 f9 f10 f11 f12 f13 ff fs
  obtain⟨g0,g1,g2,g3,g4,g5,g6,g7,g8,g9,g10,g11,g12,g13,gf,gs⟩:=Aa HE9.out.zb
  go_wp2
  refine bodyPost_ret (v:=.agg #[O J (Am f).c.kind,O J (Am f).c.a,O J (Am f).c.b,O J (Am f).c.time,O J (Am f).c.bk,O J (Am f).c.slot,O J (Am f).pl,O J (Am f).cur,O J (Am f).prev,O J (Am f).slot,O J (Am f).n,Y aK (Am f).keys.length cK,.bool (Am f).done,O J (Am f).e]) (by simp[results,Tryz.results177,go_sem,Am,g0,g1,g2,g3,g4,g5,g6,g7,g8,g9,g10,g11,g12,g13]) rfl ⟨⟨aK,cK,rfl,HR.out.fine HE9.out.Ah.2 HZ.out,(fun ad h=>.inl h),fun _=>⟨rfl,rfl⟩⟩,HE9.out.Ah⟩
 ·obtain⟨j,hj,hjl⟩:=(Fv M f.slot).1 hsl
  have hres:Jl M f = { f with e:=0,pl:=7 }:=by unfold Jl;rw[hsl];rfl
  have hresM:Ig M f=J7 M j b:=by unfold Ig;rw[hsl,hbn,hj];rfl
  rw[hres,hresM]
  have hsl':inB (j:Int) 0 ((M.slots.length:Int) - 1)=true:=(Ai _ _ _).2 (by omega)
  have HJ:Hid (f.slot=j):=hj
  have HBk:Hid (∀ W:World,Calls Tryz.prog 34 #[.agg #[Y aS M.slots.length cS,Y aH M.heads.length cH,Y aF M.free.length cF,Y aL M.locks.length cL,O J M.now],.agg #[O J f.c.kind,O J f.c.a,O J f.c.b,O J f.c.time,O J f.c.bk,O J f.c.slot]] W fun e w'=>e=.returned (O J (b:Int))/\Below W.heap.size W w'):=fun W=>hb ▸ Dk _ _ _ _ _ _ _ _ cS cH cF cL M.now f.c W (by omega)
  have HCh:Hid (∀ W:World,Calls Tryz.prog 97 #[.agg #[Y aS M.slots.length cS,Y aH M.heads.length cH,Y aF M.free.length cF,Y aL M.locks.length cL,O J M.now],O J (b:Int)] W fun e w'=>e=.returned (.bool true)/\Below W.heap.size W w'):=fun W=>(show inB (b:Int) 0 ((M.heads.length:Int) - 1)=true from (Ai _ _ _).2 (by omega)) ▸ Hq _ _ _ _ _ _ _ _ cS cH cF cL M.now (b:Int) W (by omega)
  have HHs:Hid (∀ W:World,Calls Tryz.prog 111 #[.agg #[Y aS M.slots.length cS,Y aH M.heads.length cH,Y aF M.free.length cF,Y aL M.locks.length cL,O J M.now],O J (j:Int)] W fun e w'=>e=.returned (.bool true)/\Below W.heap.size W w'):=fun W=>hsl' ▸ Fz _ _ _ _ _ _ _ _ cS cH cF cL M.now _ W (by omega)
  have HLk:Hid (∀ W:World,Lk Xb w W B lo aS aH aF aL cS cH cF cL M f aK cK->Calls Tryz.prog 206 #[.pointer (some ⟨B,0,none⟩),O J (b:Int),O J (j:Int)] W fun e w'=>e=.returned (.tuple #[])/\Lk2 Xb w w' (A8 B aS aH aF aL) B lo (J7 M j b) f aK cK):=fun W h=>(a7l ⟨_,_,_,_,_,_,_,_,h.m,fun _ h=>h⟩ HOk.out hjl hbl).mono (fun e w' h'=>⟨h'.1,h.after h'.2.1 h'.2.2⟩)
  generalize J7 M j b=M' at *
  have HZ:Hid (∀ ad,aK=some ad->¬ (A8 B aS aH aF aL) ad.block):=hz
  obtain⟨of,hof⟩:=frObj f aK cK
  obtain⟨oz,hoz⟩:∃ o:Obj,o=Ac:=⟨_,rfl⟩
  have HE:Hid (Lk Xb w ((w.alloc of).alloc oz) B lo aS aH aF aL cS cH cF cL M f aK cK):=Lk.first m f aK cK hof hoz
  obtain⟨q0,q1,q2,q3,q4,-,-,-,-,-,qs⟩:=Aj HE.out.m.box
  obtain⟨f0,f1,f2,f3,f4,f5,f6,f7,f8,f9,f10,f11,f12,f13,ff,fs⟩:=Aa HE.out.fb
  unfold Ac at hoz
  clear m hc1 hn1 hcur hns hnh hM hf r hz hsl hsl' hres hresM hbn hb b0 b1 hj
  go_enter Tryz.func177,Tryz.ntmps177
  go_wp2_with fail
  rw[<- hof,<- hoz]
  generalize (w.alloc of).alloc oz=W0 at *
  subst hof hoz
  have cB:∀ (d:Nat) (os:Array Obj),Calls Tryz.prog 34 #[.agg #[Y aS M.slots.length cS,Y aH M.heads.length cH,Y aF M.free.length cF,Y aL M.locks.length cL,O J M.now],.agg #[O J f.c.kind,O J f.c.a,O J f.c.b,O J f.c.time,O J f.c.bk,O J f.c.slot]] (grow (redrawn W0 d) os) fun e w''=>e=.returned (O J (b:Int))/\∃ p:Regrown,w''=grow (redrawn W0 p.d) p.os:=fun d os=>Calls.regrown_of (HBk.out _)
  have Xq0:=cell_regrown q0
  have Xq1:=cell_regrown q1
  have Xq2:=cell_regrown q2
  have Xq3:=cell_regrown q3
  have Xq4:=cell_regrown q4
  have Xf0:=cell_regrown f0
  have Xf1:=cell_regrown f1
  have Xf2:=cell_regrown f2
  have Xf3:=cell_regrown f3
  have Xf4:=cell_regrown f4
  have Xf5:=cell_regrown f5
  clear q0 q1 q2 q3 q4 qs
  clear f0 f1 f2 f3 f4 f5 f6 f7 f8 f9 f10 f11 f12 f13 ff fs
  refine wp_region_quiet_below (by kernel_rfl) (by kernel_rfl) ?_
  repeat (quiet_step (first|exact cB _ _))
  refine wpQuiet_nil ?_
  intro _ hw'
  obtain⟨⟨dq,osq⟩,hw''⟩:=hw'
  subst hw''
  have HE1:Hid (Lk Xb w (grow (redrawn W0 dq) osq) B lo aS aH aF aL cS cH cF cL M f aK cK):=HE.out.below (below_regrown W0 dq osq)
  generalize grow (redrawn W0 dq) osq=w1 at *
  clear Xq0 Xq1 Xq2 Xq3 Xq4 Xf0 Xf1 Xf2 Xf3 Xf4 Xf5 HE
  clear cB
  obtain⟨q0,q1,q2,q3,q4,-,-,-,-,-,qs⟩:=Aj HE1.out.m.box
  obtain⟨f0,f1,f2,f3,f4,f5,f6,f7,f8,f9,f10,f11,f12,f13,ff,fs⟩:=Aa HE1.out.fb
  go_wp2_with fail
  rw[HJ.out] at f9
  have kH:∀ (d:Nat) (os:Array Obj),Calls Tryz.prog 111 #[.agg #[Y aS M.slots.length cS,Y aH M.heads.length cH,Y aF M.free.length cF,Y aL M.locks.length cL,O J M.now],O J (j:Int)] (grow (redrawn w1 d) os) fun e w''=>e=.returned (.bool true)/\∃ p:Regrown,w''=grow (redrawn w1 p.d) p.os:=fun d os=>Calls.regrown_of (HHs.out _)
  have kC:∀ (d:Nat) (os:Array Obj),Calls Tryz.prog 97 #[.agg #[Y aS M.slots.length cS,Y aH M.heads.length cH,Y aF M.free.length cF,Y aL M.locks.length cL,O J M.now],O J (b:Int)] (grow (redrawn w1 d) os) fun e w''=>e=.returned (.bool true)/\∃ p:Regrown,w''=grow (redrawn w1 p.d) p.os:=fun d os=>Calls.regrown_of (HCh.out _)
  have Xq0:=cell_regrown q0
  have Xq1:=cell_regrown q1
  have Xq2:=cell_regrown q2
  have Xq3:=cell_regrown q3
  have Xq4:=cell_regrown q4
  have Xf9:=cell_regrown f9
  clear q0 q1 q2 q3 q4 qs
  clear f0 f1 f2 f3 f4 f5 f6 f7 f8 f9 f10 f11 f12 f13 ff fs
  refine wp_region_quiet_below (by kernel_rfl) (by kernel_rfl) ?_
  repeat (quiet_step (first|exact kH _ _|exact kC _ _))
  refine wpQuiet_nil ?_
  intro _ hw'
  obtain⟨⟨dq,osq⟩,hw''⟩:=hw'
  subst hw''
  have HE2:Hid (Lk Xb w (grow (redrawn w1 dq) osq) B lo aS aH aF aL cS cH cF cL M f aK cK):=HE1.out.below (below_regrown w1 dq osq)
  generalize grow (redrawn w1 dq) osq=w2 at *
  clear Xq0 Xq1 Xq2 Xq3 Xq4 Xf9 HE1
  clear kH kC
  obtain⟨q0,q1,q2,q3,q4,-,-,-,-,-,qs⟩:=Aj HE2.out.m.box
  obtain⟨f0,f1,f2,f3,f4,f5,f6,f7,f8,f9,f10,f11,f12,f13,ff,fs⟩:=Aa HE2.out.fb
  rw[HJ.out] at f9
  go_wp2_with fail
  clear q0 q1 q2 q3 q4 qs
  clear f0 f1 f2 f3 f4 f5 f6 f7 f8 f9 f10 f11 f12 f13 ff fs
  refine(HLk.out _ (by exact HE2.out.below ⟨rfl,rfl,rfl,Nat.le_refl _,fun _ _=>rfl⟩)).mono ?_
  rintro e w3 ⟨rfl,h9⟩
  have HE3:Hid (Lk2 Xb w w3 (A8 B aS aH aF aL) B lo M' f aK cK):=h9
  clear HE2 h9
  obtain⟨f0,f1,f2,f3,f4,f5,f6,f7,f8,f9,f10,f11,f12,f13,ff,fs⟩:=Aa HE3.out.fb
  go_wp2_with fail
  have HE4:Hid (Lk2 Xb w _ (A8 B aS aH aF aL) B lo M' { f with e:=0 } aK cK):=HE3.out.store 13 (O J 0) { f with e:=0 } rfl
  clear HE3
  refine(Cc { f with e:=0 } 7 aK cK _).mono ?_
  rintro e w9 ⟨rfl,hb9⟩
  have HE9:Hid (Lk2 Xb w w9 (A8 B aS aH aF aL) B lo M' { f with e:=0 } aK cK):=HE4.out.below hb9
  clear HE4 hb9
  clear f0 f1 f2 f3 f4 f5 f6 f7 f8 f9 f10 f11 f12 f13 ff fs
  obtain⟨g0,g1,g2,g3,g4,g5,g6,g7,g8,g9,g10,g11,g12,g13,gf,gs⟩:=Aa HE9.out.zb
  go_wp2
  refine bodyPost_ret (v:=.agg #[O J ({ f with e:=0,pl:=7 }).c.kind,O J ({ f with e:=0,pl:=7 }).c.a,O J ({ f with e:=0,pl:=7 }).c.b,O J ({ f with e:=0,pl:=7 }).c.time,O J ({ f with e:=0,pl:=7 }).c.bk,O J ({ f with e:=0,pl:=7 }).c.slot,O J ({ f with e:=0,pl:=7 }).pl,O J ({ f with e:=0,pl:=7 }).cur,O J ({ f with e:=0,pl:=7 }).prev,O J ({ f with e:=0,pl:=7 }).slot,O J ({ f with e:=0,pl:=7 }).n,Y aK ({ f with e:=0,pl:=7 }).keys.length cK,.bool ({ f with e:=0,pl:=7 }).done,O J ({ f with e:=0,pl:=7 }).e]) (by simp[results,Tryz.results177,go_sem,toF,g0,g1,g2,g3,g4,g5,g6,g7,g8,g9,g10,g11,g12,g13]) rfl ⟨⟨aK,cK,rfl,HR.out.fine HE9.out.Ah.2 HZ.out,(fun ad h=>.inl h),fun _=>⟨rfl,rfl⟩⟩,HE9.out.Ah⟩
end
end Go.Proofs.YthhgoenomehobaaGreat.mm
