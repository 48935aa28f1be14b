/- Parts. -/
import Derived.Test.YthhgoenomehobaaGreatS07
import Derived.Test.YthhgoenomehobaaGreatS05
import Derived.Deep.QuietTactic
import Derived.BigQuiet
import Derived.Lib.QuietBelow
namespace Go.Proofs.YthhgoenomehobaaGreat.mm
set_option maxRecDepth 100000
set_option linter.unusedVariables false
open Go.Value renaming int → O, slice → Y
open Go.IntKind renaming i64 → J
section
open Go.ChangeShapes Go.WideShapes Go.ChangeAt Go.RowKit Go.Joins Go.Deep Go.Sort
variable {Xb:Ex}
def Ret(w w':World)(e:Ending)(g:Fr)(aK:Option Addr)(cK:Nat):Prop :=
 ∃ a c,e=.returned (.agg #[O J g.c.kind,O J g.c.a,O J g.c.b,O J g.c.time,O J g.c.bk,O J g.c.slot,O J g.pl,O J g.cur,O J g.prev,O J g.slot,O J g.n,Y a g.keys.length c,.bool g.done,O J g.e])/\Ag w' a c g.keys/\(∀ ad,a=some ad->aK=some ad\/w.heap.size<=ad.block)/\(g.done=false->a=aK/\c=cK)
theorem Ua{w1:World}{n:Nat}{a:Option Addr}{c:Nat}{l:List (Int × Int)}{v0 v1 v2 v3 v4 v5 v6 v7 v8 v9 v10 v11 v12 v13:Value}(r:Ag w1 a c l)(h:∀ ad,a=some ad->n+2<=ad.block):Ag ((((((((((((((w1.setCell ⟨n+1,0,none⟩ v0).setCell ⟨n+1,1,none⟩ v1).setCell ⟨n+1,2,none⟩ v2).setCell ⟨n+1,3,none⟩ v3).setCell ⟨n+1,4,none⟩ v4).setCell ⟨n+1,5,none⟩ v5).setCell ⟨n+1,6,none⟩ v6).setCell ⟨n+1,7,none⟩ v7).setCell ⟨n+1,8,none⟩ v8).setCell ⟨n+1,9,none⟩ v9).setCell ⟨n+1,10,none⟩ v10).setCell ⟨n+1,11,none⟩ v11).setCell ⟨n+1,12,none⟩ v12).setCell ⟨n+1,13,none⟩ v13) a c l:=by
 refine r.hi h (fun k hk=>?_)
 repeat rw[Below.heap_setCell _ _ _ _ (by dsimp only;omega)]
set_option maxHeartbeats 3200000 in
theorem b6j(M:Mm)(f:Fr)(B lo:Nat)(aS aH aF aL:Option Addr)(cS cH cF cL:Nat)(aK:Option Addr)(cK:Nat)(w:World)
  (m:Mine Xb w B lo aS aH aF aL cS cH cF cL M) (hM:Ok M) (hf:Fit M f) (r:Ag w aK cK f.keys) :
  Calls Tryz.prog 165 #[.pointer (some ⟨B,0,none⟩),.agg #[O J f.c.kind,O J f.c.a,O J f.c.b,O J f.c.time,O J f.c.bk,O J f.c.slot,O J f.pl,O J f.cur,O J f.prev,O J f.slot,O J f.n,Y aK f.keys.length cK,.bool f.done,O J f.e]] w fun e w'=>Ret w w' e (Jw M f) aK cK/\Below w.heap.size w w':=by
 have hns:=hM.ns
 have hnh:=hM.nh.2
 have hcur:=hf.cur.2
 have hc1:f.cur<=1000:=by omega
 have hn1:M.slots.length<=1000:=by omega
 obtain⟨b0,b1⟩:=Ej hM hf.call
 obtain⟨b,hb⟩:∃ b:Nat,G7 M.heads.length f.c=b:=⟨_,(Int.toNat_of_nonneg b0).symm⟩
 have hbl:b<M.heads.length:=by omega
 have hb4:(b:Int)<=1000:=by omega
 have hb5:(0:Int)<=b:=by omega
 have HR:Hid (Ag w aK cK f.keys):=r
 have HBk:Hid (∀ W:World,Calls Tryz.prog 34 #[.agg #[Y aS M.slots.length cS,Y aH M.heads.length cH,Y aF M.free.length cF,Y aL M.locks.length cL,O J M.now],.agg #[O J f.c.kind,O J f.c.a,O J f.c.b,O J f.c.time,O J f.c.bk,O J f.c.slot]] W fun e w'=>e=.returned (O J (b:Int))/\Below W.heap.size W w'):=fun W=>hb ▸ Dk aS _ aF aL _ _ _ _ cS cH cF cL M.now f.c W (by omega)
 by_cases hend:f.cur=-1 - (b:Int)
 ·have hres:Jw M f=Af f 5:=by unfold Jw;rw[hb,if_pos hend]
  rw[hres]
  have hq:(f.cur == -1 - (b:Int))=true:=by simp[hend]
  obtain⟨of,hof⟩:=frObj f aK cK
  obtain⟨oz,hoz⟩:∃ o:Obj,o=Ac:=⟨_,rfl⟩
  have HE:Hid (Lk Xb w ((w.alloc of).alloc oz) B lo aS aH aF aL cS cH cF cL M f aK cK):=Lk.first m f aK cK hof hoz
  obtain⟨q0,q1,q2,q3,q4,-,-,-,-,-,qs⟩:=Aj HE.out.m.box
  obtain⟨f0,f1,f2,f3,f4,f5,f6,f7,f8,f9,f10,f11,f12,f13,ff,fs⟩:=Aa HE.out.fb
  unfold Ac at hoz
  clear m hres hend hc1 hn1 hcur hns hnh hM hf hb b0 b1 r
  go_enter Tryz.func165,Tryz.ntmps165
  go_wp2_with fail
  rw[<- hof,<- hoz]
  generalize (w.alloc of).alloc oz=W0 at *
  subst hof hoz
  have cB:∀ (d:Nat) (os:Array Obj),Calls Tryz.prog 34 #[.agg #[Y aS M.slots.length cS,Y aH M.heads.length cH,Y aF M.free.length cF,Y aL M.locks.length cL,O J M.now],.agg #[O J f.c.kind,O J f.c.a,O J f.c.b,O J f.c.time,O J f.c.bk,O J f.c.slot]] (grow (redrawn W0 d) os) fun e w''=>e=.returned (O J (b:Int))/\∃ p:Regrown,w''=grow (redrawn W0 p.d) p.os:=fun d os=>Calls.regrown_of (HBk.out _)
  have cT:∀ (d:Nat) (os:Array Obj),Calls Tryz.prog 108 #[O J (b:Int)] (grow (redrawn W0 d) os) fun e w''=>e=.returned (O J (-1 - (b:Int)))/\∃ p:Regrown,w''=grow (redrawn W0 p.d) p.os:=fun d os=>Calls.regrown_of ((Jd _ _ hb5 hb4).mono (by rintro e w' ⟨rfl,rfl⟩;exact⟨rfl,Below.refl _ _⟩))
  have Q0:=cell_regrown q0;have Q1:=cell_regrown q1;have Q2:=cell_regrown q2;have Q3:=cell_regrown q3;have Q4:=cell_regrown q4
  have F0:=cell_regrown f0;have F1:=cell_regrown f1;have F2:=cell_regrown f2;have F3:=cell_regrown f3;have F4:=cell_regrown f4;have F5:=cell_regrown f5;have F7:=cell_regrown f7
  clear q0 q1 q2 q3 q4 qs f0 f1 f2 f3 f4 f5 f6 f7 f8 f9 f10 f11 f12 f13 ff fs
  refine wp_region_quiet_below (by kernel_rfl) (by kernel_rfl) ?_
  repeat (quiet_step (first|exact cB _ _|exact cT _ _))
  refine wpQuiet_nil ?_
  intro _ hw'
  obtain⟨⟨dq,osq⟩,hw''⟩:=hw'
  subst hw''
  have HB1:Hid _:=below_regrown W0 dq osq
  generalize grow (redrawn W0 dq) osq=w1 at *
  clear cB cT Q0 Q1 Q2 Q3 Q4 F0 F1 F2 F3 F4 F5 F7
  have HE1:Hid (Lk Xb w w1 B lo aS aH aF aL cS cH cF cL M f aK cK):=HE.out.below HB1.out
  clear HB1 HE
  obtain⟨q0,q1,q2,q3,q4,-,-,-,-,-,qs⟩:=Aj HE1.out.m.box
  obtain⟨f0,f1,f2,f3,f4,f5,f6,f7,f8,f9,f10,f11,f12,f13,ff,fs⟩:=Aa HE1.out.fb
  go_wp2_with fail
  refine(Np f 5 aK cK _ (HR.out.below HE1.out.bl)).mono ?_
  rintro e w9 ⟨a9,c9,rfl,hr9,hi9,hb9⟩
  have HK9:Hid (Ag w9 a9 c9 f.keys/\∀ ad,a9=some ad->w.heap.size+2<=ad.block):=⟨hr9,fun ad h=>Nat.le_trans (lt_of_block HE1.out.zb) (hi9 ad h)⟩
  have HE9:Hid (Lk Xb w w9 B lo aS aH aF aL cS cH cF cL M f aK cK):=HE1.out.below hb9
  clear HE1 hb9 hr9 hi9
  clear q0 q1 q2 q3 q4 qs f0 f1 f2 f3 f4 f5 f6 f7 f8 f9 f10 f11 f12 f13 ff fs
  obtain⟨g0,g1,g2,g3,g4,g5,g6,g7,g8,g9,g10,g11,g12,g13,gf,gs⟩:=Aa HE9.out.zb
  go_wp2
  refine bodyPost_ret (v:=.agg #[O J (Af f 5).c.kind,O J (Af f 5).c.a,O J (Af f 5).c.b,O J (Af f 5).c.time,O J (Af f 5).c.bk,O J (Af f 5).c.slot,O J (Af f 5).pl,O J (Af f 5).cur,O J (Af f 5).prev,O J (Af f 5).slot,O J (Af f 5).n,Y a9 (Af f 5).keys.length c9,.bool (Af f 5).done,O J (Af f 5).e]) (by simp[results,Tryz.results165,go_sem,Af,g0,g1,g2,g3,g4,g5,g6,g7,g8,g9,g10,g11,g12,g13]) rfl ⟨⟨a9,c9,rfl,Ua HK9.out.1 HK9.out.2,(fun ad h=>.inr (by have:=HK9.out.2 ad h;omega)),fun h=>by cases h⟩,Gj HE9.out.bl⟩
 have hq:(f.cur == -1 - (b:Int))=false:=by simpa using hend
 by_cases hat:D7 M f=true
 ·have h1:=Bv.1 hat
  obtain⟨j,hj⟩:∃ j:Nat,f.cur - 1=j:=⟨(f.cur - 1).toNat,by omega⟩
  have hjl:j<M.slots.length:=by omega
  obtain⟨gS,rfl,oS,lS,kS,-⟩:=Dc m.c.s (by omega)
  obtain⟨s,hs⟩:∃ s,s=A7 M (j:Int):=⟨_,rfl⟩
  have hst:stN f=j:=by unfold stN;rw[if_neg (by omega)];exact hj
  have hres:Jw M f=toF f (if lkK s f then 3 else 2):=by unfold Jw;rw[hb,if_neg hend,if_pos hat,hj,<- hs]
  rw[hres]
  have HSt:Hid (∀ (W:World),Mine Xb W B lo (some ⟨gS,0,none⟩) aH aF aL cS cH cF cL M->Calls Tryz.prog 200 #[.pointer (some ⟨B,0,none⟩),.agg #[O J f.c.kind,O J f.c.a,O J f.c.b,O J f.c.time,O J f.c.bk,O J f.c.slot,O J f.pl,O J f.cur,O J f.prev,O J f.slot,O J f.n,Y aK f.keys.length cK,.bool f.done,O J f.e]] W fun e w'=>e=.returned (.tuple #[O J (j:Int),.bool true])/\Below W.heap.size W w'):=fun W m'=>by
   have:=Bo M f B _ aH aF aL cS cH cF cL aK cK W m'.box hc1 hn1
   rwa [hst,hat] at this
  have HX:Hid (∀ W,Mine Xb W B lo (some ⟨gS,0,none⟩) aH aF aL cS cH cF cL M->W.cell? ⟨gS,j*6+1,none⟩=some (O J s.a)/\W.cell? ⟨gS,j*6+2,none⟩=some (O J s.b)):=fun W m'=>⟨(Bd m'.c.s hjl hs).2.1,(Bd m'.c.s hjl hs).2.2.1⟩
  have hk:(s.a==f.c.a && s.b==f.c.b)=lkK s f:=rfl
  cases hkk:lkK s f
  ·rw[hkk] at hk
   show Calls Tryz.prog 165 _ w fun e w'=>Ret w w' e (toF f 2) aK cK/\Below w.heap.size w w'
   have se:∀ W:World,(Op.equalIn 10000 30 (.agg #[O J s.a,O J s.b]) (.agg #[O J f.c.a,O J f.c.b])).run Tryz.prog W=.ok false W:=fun W=>by rw[P6,hk]
   obtain⟨of,hof⟩:=frObj f aK cK
   obtain⟨oz,hoz⟩:∃ o:Obj,o=Ac:=⟨_,rfl⟩
   have HE:Hid (Lk Xb w ((w.alloc of).alloc oz) B lo (some ⟨gS,0,none⟩) aH aF aL cS cH cF cL M f aK cK):=Lk.first m f aK cK hof hoz
   obtain⟨q0,q1,q2,q3,q4,-,-,-,-,-,qs⟩:=Aj HE.out.m.box
   obtain⟨f0,f1,f2,f3,f4,f5,f6,f7,f8,f9,f10,f11,f12,f13,ff,fs⟩:=Aa HE.out.fb
   unfold Ac at hoz
   clear m hk hkk hres hs hst hat h1 hend hc1 hn1 hcur hns hnh hM hf hb b0 b1 r
   go_enter Tryz.func165,Tryz.ntmps165
   go_wp2_with fail
   rw[<- hof,<- hoz]
   generalize (w.alloc of).alloc oz=W0 at *
   subst hof hoz
   have cB:∀ (d:Nat) (os:Array Obj),Calls Tryz.prog 34 #[.agg #[Y (some ⟨gS,0,none⟩) M.slots.length cS,Y aH M.heads.length cH,Y aF M.free.length cF,Y aL M.locks.length cL,O J M.now],.agg #[O J f.c.kind,O J f.c.a,O J f.c.b,O J f.c.time,O J f.c.bk,O J f.c.slot]] (grow (redrawn W0 d) os) fun e w''=>e=.returned (O J (b:Int))/\∃ p:Regrown,w''=grow (redrawn W0 p.d) p.os:=fun d os=>Calls.regrown_of (HBk.out _)
   have cT:∀ (d:Nat) (os:Array Obj),Calls Tryz.prog 108 #[O J (b:Int)] (grow (redrawn W0 d) os) fun e w''=>e=.returned (O J (-1 - (b:Int)))/\∃ p:Regrown,w''=grow (redrawn W0 p.d) p.os:=fun d os=>Calls.regrown_of ((Jd _ _ hb5 hb4).mono (by rintro e w' ⟨rfl,rfl⟩;exact⟨rfl,Below.refl _ _⟩))
   have Q0:=cell_regrown q0;have Q1:=cell_regrown q1;have Q2:=cell_regrown q2;have Q3:=cell_regrown q3;have Q4:=cell_regrown q4
   have F0:=cell_regrown f0;have F1:=cell_regrown f1;have F2:=cell_regrown f2;have F3:=cell_regrown f3;have F4:=cell_regrown f4;have F5:=cell_regrown f5;have F7:=cell_regrown f7
   clear q0 q1 q2 q3 q4 qs f0 f1 f2 f3 f4 f5 f6 f7 f8 f9 f10 f11 f12 f13 ff fs
   refine wp_region_quiet_below (by kernel_rfl) (by kernel_rfl) ?_
   repeat (quiet_step (first|exact cB _ _|exact cT _ _))
   refine wpQuiet_nil ?_
   intro _ hw'
   obtain⟨⟨dq,osq⟩,hw''⟩:=hw'
   subst hw''
   have HB1:Hid _:=below_regrown W0 dq osq
   generalize grow (redrawn W0 dq) osq=w1 at *
   clear cB cT Q0 Q1 Q2 Q3 Q4 F0 F1 F2 F3 F4 F5 F7
   have HE1:Hid (Lk Xb w w1 B lo (some ⟨gS,0,none⟩) aH aF aL cS cH cF cL M f aK cK):=HE.out.below HB1.out
   clear HB1 HE
   obtain⟨q0,q1,q2,q3,q4,-,-,-,-,-,qs⟩:=Aj HE1.out.m.box
   obtain⟨f0,f1,f2,f3,f4,f5,f6,f7,f8,f9,f10,f11,f12,f13,ff,fs⟩:=Aa HE1.out.fb
   go_wp2_with fail
   refine(HSt.out w1 HE1.out.m).mono ?_
   rintro e w3 ⟨rfl,hb3⟩
   have HE3:Hid (Lk Xb w w3 B lo (some ⟨gS,0,none⟩) aH aF aL cS cH cF cL M f aK cK):=HE1.out.below hb3
   clear HE1 hb3
   clear q0 q1 q2 q3 q4 qs f0 f1 f2 f3 f4 f5 f6 f7 f8 f9 f10 f11 f12 f13 ff fs
   obtain⟨q0,q1,q2,q3,q4,-,-,-,-,-,qs⟩:=Aj HE3.out.m.box
   obtain⟨f0,f1,f2,f3,f4,f5,f6,f7,f8,f9,f10,f11,f12,f13,ff,fs⟩:=Aa HE3.out.fb
   obtain⟨x1,x2⟩:=HX.out w3 HE3.out.m
   go_wp2_with fail
   go_quiet (fail)
   go_wp2_with fail
   have HE4:Hid (Lk Xb w (w3.drewN nq) B lo (some ⟨gS,0,none⟩) aH aF aL cS cH cF cL M f aK cK):=HE3.out.below ⟨rfl,rfl,rfl,Nat.le_refl _,fun _ _=>rfl⟩
   clear HE3
   refine(Cc f 2 aK cK _).mono ?_
   rintro e w9 ⟨rfl,hb9⟩
   have HE9:Hid (Lk Xb w w9 B lo (some ⟨gS,0,none⟩) aH aF aL cS cH cF cL M f aK cK):=HE4.out.below hb9
   clear HE4 hb9
   clear q0 q1 q2 q3 q4 qs f0 f1 f2 f3 f4 f5 f6 f7 f8 f9 f10 f11 f12 f13 ff fs
   obtain⟨g0,g1,g2,g3,g4,g5,g6,g7,g8,g9,g10,g11,g12,g13,gf,gs⟩:=Aa HE9.out.zb
   go_wp2
   refine bodyPost_ret (v:=.agg #[O J (toF f 2).c.kind,O J (toF f 2).c.a,O J (toF f 2).c.b,O J (toF f 2).c.time,O J (toF f 2).c.bk,O J (toF f 2).c.slot,O J (toF f 2).pl,O J (toF f 2).cur,O J (toF f 2).prev,O J (toF f 2).slot,O J (toF f 2).n,Y aK (toF f 2).keys.length cK,.bool (toF f 2).done,O J (toF f 2).e]) (by simp[results,Tryz.results165,go_sem,toF,g0,g1,g2,g3,g4,g5,g6,g7,g8,g9,g10,g11,g12,g13]) rfl ⟨⟨aK,cK,rfl,HR.out.below (Gj HE9.out.bl),(fun ad h=>.inl h),fun _=>⟨rfl,rfl⟩⟩,Gj HE9.out.bl⟩
  ·rw[hkk] at hk
   show Calls Tryz.prog 165 _ w fun e w'=>Ret w w' e (toF f 3) aK cK/\Below w.heap.size w w'
   have se:∀ W:World,(Op.equalIn 10000 30 (.agg #[O J s.a,O J s.b]) (.agg #[O J f.c.a,O J f.c.b])).run Tryz.prog W=.ok true W:=fun W=>by rw[P6,hk]
   obtain⟨of,hof⟩:=frObj f aK cK
   obtain⟨oz,hoz⟩:∃ o:Obj,o=Ac:=⟨_,rfl⟩
   have HE:Hid (Lk Xb w ((w.alloc of).alloc oz) B lo (some ⟨gS,0,none⟩) aH aF aL cS cH cF cL M f aK cK):=Lk.first m f aK cK hof hoz
   obtain⟨q0,q1,q2,q3,q4,-,-,-,-,-,qs⟩:=Aj HE.out.m.box
   obtain⟨f0,f1,f2,f3,f4,f5,f6,f7,f8,f9,f10,f11,f12,f13,ff,fs⟩:=Aa HE.out.fb
   unfold Ac at hoz
   clear m hk hkk hres hs hst hat h1 hend hc1 hn1 hcur hns hnh hM hf hb b0 b1 r
   go_enter Tryz.func165,Tryz.ntmps165
   go_wp2_with fail
   rw[<- hof,<- hoz]
   generalize (w.alloc of).alloc oz=W0 at *
   subst hof hoz
   have cB:∀ (d:Nat) (os:Array Obj),Calls Tryz.prog 34 #[.agg #[Y (some ⟨gS,0,none⟩) M.slots.length cS,Y aH M.heads.length cH,Y aF M.free.length cF,Y aL M.locks.length cL,O J M.now],.agg #[O J f.c.kind,O J f.c.a,O J f.c.b,O J f.c.time,O J f.c.bk,O J f.c.slot]] (grow (redrawn W0 d) os) fun e w''=>e=.returned (O J (b:Int))/\∃ p:Regrown,w''=grow (redrawn W0 p.d) p.os:=fun d os=>Calls.regrown_of (HBk.out _)
   have cT:∀ (d:Nat) (os:Array Obj),Calls Tryz.prog 108 #[O J (b:Int)] (grow (redrawn W0 d) os) fun e w''=>e=.returned (O J (-1 - (b:Int)))/\∃ p:Regrown,w''=grow (redrawn W0 p.d) p.os:=fun d os=>Calls.regrown_of ((Jd _ _ hb5 hb4).mono (by rintro e w' ⟨rfl,rfl⟩;exact⟨rfl,Below.refl _ _⟩))
   have Q0:=cell_regrown q0;have Q1:=cell_regrown q1;have Q2:=cell_regrown q2;have Q3:=cell_regrown q3;have Q4:=cell_regrown q4
   have F0:=cell_regrown f0;have F1:=cell_regrown f1;have F2:=cell_regrown f2;have F3:=cell_regrown f3;have F4:=cell_regrown f4;have F5:=cell_regrown f5;have F7:=cell_regrown f7
   clear q0 q1 q2 q3 q4 qs f0 f1 f2 f3 f4 f5 f6 f7 f8 f9 f10 f11 f12 f13 ff fs
   refine wp_region_quiet_below (by kernel_rfl) (by kernel_rfl) ?_
   repeat (quiet_step (first|exact cB _ _|exact cT _ _))
   refine wpQuiet_nil ?_
   intro _ hw'
   obtain⟨⟨dq,osq⟩,hw''⟩:=hw'
   subst hw''
   have HB1:Hid _:=below_regrown W0 dq osq
   generalize grow (redrawn W0 dq) osq=w1 at *
   clear cB cT Q0 Q1 Q2 Q3 Q4 F0 F1 F2 F3 F4 F5 F7
   have HE1:Hid (Lk Xb w w1 B lo (some ⟨gS,0,none⟩) aH aF aL cS cH cF cL M f aK cK):=HE.out.below HB1.out
   clear HB1 HE
   obtain⟨q0,q1,q2,q3,q4,-,-,-,-,-,qs⟩:=Aj HE1.out.m.box
   obtain⟨f0,f1,f2,f3,f4,f5,f6,f7,f8,f9,f10,f11,f12,f13,ff,fs⟩:=Aa HE1.out.fb
   go_wp2_with fail
   refine(HSt.out w1 HE1.out.m).mono ?_
   rintro e w3 ⟨rfl,hb3⟩
   have HE3:Hid (Lk Xb w w3 B lo (some ⟨gS,0,none⟩) aH aF aL cS cH cF cL M f aK cK):=HE1.out.below hb3
   clear HE1 hb3
   clear q0 q1 q2 q3 q4 qs f0 f1 f2 f3 f4 f5 f6 f7 f8 f9 f10 f11 f12 f13 ff fs
   obtain⟨q0,q1,q2,q3,q4,-,-,-,-,-,qs⟩:=Aj HE3.out.m.box
   obtain⟨f0,f1,f2,f3,f4,f5,f6,f7,f8,f9,f10,f11,f12,f13,ff,fs⟩:=Aa HE3.out.fb
   obtain⟨x1,x2⟩:=HX.out w3 HE3.out.m
   go_wp2_with fail
   go_quiet (fail)
   go_wp2_with fail
   have HE4:Hid (Lk Xb w (w3.drewN nq) B lo (some ⟨gS,0,none⟩) aH aF aL cS cH cF cL M f aK cK):=HE3.out.below ⟨rfl,rfl,rfl,Nat.le_refl _,fun _ _=>rfl⟩
   clear HE3
   refine(Cc f 3 aK cK _).mono ?_
   rintro e w9 ⟨rfl,hb9⟩
   have HE9:Hid (Lk Xb w w9 B lo (some ⟨gS,0,none⟩) aH aF aL cS cH cF cL M f aK cK):=HE4.out.below hb9
   clear HE4 hb9
   clear q0 q1 q2 q3 q4 qs f0 f1 f2 f3 f4 f5 f6 f7 f8 f9 f10 f11 f12 f13 ff fs
   obtain⟨g0,g1,g2,g3,g4,g5,g6,g7,g8,g9,g10,g11,g12,g13,gf,gs⟩:=Aa HE9.out.zb
   go_wp2
   refine bodyPost_ret (v:=.agg #[O J (toF f 3).c.kind,O J (toF f 3).c.a,O J (toF f 3).c.b,O J (toF f 3).c.time,O J (toF f 3).c.bk,O J (toF f 3).c.slot,O J (toF f 3).pl,O J (toF f 3).cur,O J (toF f 3).prev,O J (toF f 3).slot,O J (toF f 3).n,Y aK (toF f 3).keys.length cK,.bool (toF f 3).done,O J (toF f 3).e]) (by simp[results,Tryz.results165,go_sem,toF,g0,g1,g2,g3,g4,g5,g6,g7,g8,g9,g10,g11,g12,g13]) rfl ⟨⟨aK,cK,rfl,HR.out.below (Gj HE9.out.bl),(fun ad h=>.inl h),fun _=>⟨rfl,rfl⟩⟩,Gj HE9.out.bl⟩
 ·have hat0:D7 M f=false:=by simpa using hat
  have hres:Jw M f=toF f 0:=by unfold Jw;rw[hb,if_neg hend,if_neg hat]
  rw[hres]
  have HSt:Hid (∀ (W:World),Mine Xb W B lo aS aH aF aL cS cH cF cL M->Calls Tryz.prog 200 #[.pointer (some ⟨B,0,none⟩),.agg #[O J f.c.kind,O J f.c.a,O J f.c.b,O J f.c.time,O J f.c.bk,O J f.c.slot,O J f.pl,O J f.cur,O J f.prev,O J f.slot,O J f.n,Y aK f.keys.length cK,.bool f.done,O J f.e]] W fun e w'=>e=.returned (.tuple #[O J (stN f),.bool false])/\Below W.heap.size W w'):=fun W m'=>by
   have:=Bo M f B _ aH aF aL cS cH cF cL aK cK W m'.box hc1 hn1
   rwa [hat0] at this
  obtain⟨of,hof⟩:=frObj f aK cK
  obtain⟨oz,hoz⟩:∃ o:Obj,o=Ac:=⟨_,rfl⟩
  have HE:Hid (Lk Xb w ((w.alloc of).alloc oz) B lo aS aH aF aL cS cH cF cL M f aK cK):=Lk.first m f aK cK hof hoz
  obtain⟨q0,q1,q2,q3,q4,-,-,-,-,-,qs⟩:=Aj HE.out.m.box
  obtain⟨f0,f1,f2,f3,f4,f5,f6,f7,f8,f9,f10,f11,f12,f13,ff,fs⟩:=Aa HE.out.fb
  unfold Ac at hoz
  clear m hres hat hat0 hend hc1 hn1 hcur hns hnh hM hf hb b0 b1 r
  go_enter Tryz.func165,Tryz.ntmps165
  go_wp2_with fail
  rw[<- hof,<- hoz]
  generalize (w.alloc of).alloc oz=W0 at *
  subst hof hoz
  have cB:∀ (d:Nat) (os:Array Obj),Calls Tryz.prog 34 #[.agg #[Y aS M.slots.length cS,Y aH M.heads.length cH,Y aF M.free.length cF,Y aL M.locks.length cL,O J M.now],.agg #[O J f.c.kind,O J f.c.a,O J f.c.b,O J f.c.time,O J f.c.bk,O J f.c.slot]] (grow (redrawn W0 d) os) fun e w''=>e=.returned (O J (b:Int))/\∃ p:Regrown,w''=grow (redrawn W0 p.d) p.os:=fun d os=>Calls.regrown_of (HBk.out _)
  have cT:∀ (d:Nat) (os:Array Obj),Calls Tryz.prog 108 #[O J (b:Int)] (grow (redrawn W0 d) os) fun e w''=>e=.returned (O J (-1 - (b:Int)))/\∃ p:Regrown,w''=grow (redrawn W0 p.d) p.os:=fun d os=>Calls.regrown_of ((Jd _ _ hb5 hb4).mono (by rintro e w' ⟨rfl,rfl⟩;exact⟨rfl,Below.refl _ _⟩))
  have Q0:=cell_regrown q0;have Q1:=cell_regrown q1;have Q2:=cell_regrown q2;have Q3:=cell_regrown q3;have Q4:=cell_regrown q4
  have F0:=cell_regrown f0;have F1:=cell_regrown f1;have F2:=cell_regrown f2;have F3:=cell_regrown f3;have F4:=cell_regrown f4;have F5:=cell_regrown f5;have F7:=cell_regrown f7
  clear q0 q1 q2 q3 q4 qs f0 f1 f2 f3 f4 f5 f6 f7 f8 f9 f10 f11 f12 f13 ff fs
  refine wp_region_quiet_below (by kernel_rfl) (by kernel_rfl) ?_
  repeat (quiet_step (first|exact cB _ _|exact cT _ _))
  refine wpQuiet_nil ?_
  intro _ hw'
  obtain⟨⟨dq,osq⟩,hw''⟩:=hw'
  subst hw''
  have HB1:Hid _:=below_regrown W0 dq osq
  generalize grow (redrawn W0 dq) osq=w1 at *
  clear cB cT Q0 Q1 Q2 Q3 Q4 F0 F1 F2 F3 F4 F5 F7
  have HE1:Hid (Lk Xb w w1 B lo aS aH aF aL cS cH cF cL M f aK cK):=HE.out.below HB1.out
  clear HB1 HE
  obtain⟨q0,q1,q2,q3,q4,-,-,-,-,-,qs⟩:=Aj HE1.out.m.box
  obtain⟨f0,f1,f2,f3,f4,f5,f6,f7,f8,f9,f10,f11,f12,f13,ff,fs⟩:=Aa HE1.out.fb
  go_wp2_with fail
  refine(HSt.out w1 HE1.out.m).mono ?_
  rintro e w3 ⟨rfl,hb3⟩
  have HE3:Hid (Lk Xb w w3 B lo aS aH aF aL cS cH cF cL M f aK cK):=HE1.out.below hb3
  clear HE1 hb3
  clear q0 q1 q2 q3 q4 qs f0 f1 f2 f3 f4 f5 f6 f7 f8 f9 f10 f11 f12 f13 ff fs
  obtain⟨q0,q1,q2,q3,q4,-,-,-,-,-,qs⟩:=Aj HE3.out.m.box
  obtain⟨f0,f1,f2,f3,f4,f5,f6,f7,f8,f9,f10,f11,f12,f13,ff,fs⟩:=Aa HE3.out.fb
  go_wp2_with fail
  refine(Cc f 0 aK cK _).mono ?_
  rintro e w9 ⟨rfl,hb9⟩
  have HE9:Hid (Lk Xb w w9 B lo aS aH aF aL cS cH cF cL M f aK cK):=HE3.out.below hb9
  clear HE3 hb9
  clear q0 q1 q2 q3 q4 qs f0 f1 f2 f3 f4 f5 f6 f7 f8 f9 f10 f11 f12 f13 ff fs
  obtain⟨g0,g1,g2,g3,g4,g5,g6,g7,g8,g9,g10,g11,g12,g13,gf,gs⟩:=Aa HE9.out.zb
  go_wp2
  refine bodyPost_ret (v:=.agg #[O J (toF f 0).c.kind,O J (toF f 0).c.a,O J (toF f 0).c.b,O J (toF f 0).c.time,O J (toF f 0).c.bk,O J (toF f 0).c.slot,O J (toF f 0).pl,O J (toF f 0).cur,O J (toF f 0).prev,O J (toF f 0).slot,O J (toF f 0).n,Y aK (toF f 0).keys.length cK,.bool (toF f 0).done,O J (toF f 0).e]) (by simp[results,Tryz.results165,go_sem,toF,g0,g1,g2,g3,g4,g5,g6,g7,g8,g9,g10,g11,g12,g13]) rfl ⟨⟨aK,cK,rfl,HR.out.below (Gj HE9.out.bl),(fun ad h=>.inl h),fun _=>⟨rfl,rfl⟩⟩,Gj HE9.out.bl⟩
end
section
open Go.ChangeShapes Go.WideShapes Go.ChangeAt Go.RowKit Go.Joins
variable {Xb:Ex}
structure Lk2(Xb:Ex)(w w1:World)(Z:Nat->Prop)(B lo:Nat)(M:Mm)(f:Fr)(aK:Option Addr)(cK:Nat):Prop where
 zl:∀ k,Z k->k<w.heap.size
 fine:Fine w w1 Z
 mine:∃ aS aH aF aL cS cH cF cL,Mine Xb w1 B lo aS aH aF aL cS cH cF cL M/\∀ k,A8 B aS aH aF aL k->Z k\/w.heap.size+2<=k
 fb:w1.heap[w.heap.size]?=some (.cells #[O J f.c.kind,O J f.c.a,O J f.c.b,O J f.c.time,O J f.c.bk,O J f.c.slot,O J f.pl,O J f.cur,O J f.prev,O J f.slot,O J f.n,Y aK f.keys.length cK,.bool f.done,O J f.e] 47 (0,0))
 zb:w1.heap[w.heap.size+1]?=some Ac
theorem Lk.after{w w1 w2:World}{B lo:Nat}{aS aH aF aL:Option Addr}{cS cH cF cL:Nat}{M M':Mm}{f:Fr}{aK:Option Addr}{cK:Nat}(h:Lk Xb w w1 B lo aS aH aF aL cS cH cF cL M f aK cK)
  (hh:Has Xb w2 B lo (Up w1 (A8 B aS aH aF aL)) M') (hf:Fine w1 w2 (A8 B aS aH aF aL)):Lk2 Xb w w2 (A8 B aS aH aF aL) B lo M' f aK cK:=by
 have s1:=lt_of_block h.fb
 have s2:=lt_of_block h.zb
 refine⟨h.lt,?_,?_,?_,?_⟩
 ·exact(Fine.of_below (w:=w) (w':=w1) _ h.bl).trans hf fun _ _ h=>h
 ·obtain⟨bS,bH,bF,bL,dS,dH,dF,dL,m,hz⟩:=hh
  refine⟨bS,bH,bF,bL,dS,dH,dF,dL,m,fun k hk=>?_⟩
  rcases hz k hk with h3|h3
  ·exact .inl h3
  ·exact .inr (by omega)
 ·exact(hf.block _ s1 (fun h3=>by have:=h.lt _ h3;omega)).trans h.fb
 ·exact(hf.block _ s2 (fun h3=>by have:=h.lt _ h3;omega)).trans h.zb
theorem Lk.Ah{w w1:World}{B lo:Nat}{aS aH aF aL:Option Addr}{cS cH cF cL:Nat}{M:Mm}{f:Fr}{aK:Option Addr}{cK:Nat}{v0 v1 v2 v3 v4 v5 v6 v7 v8 v9 v10 v11 v12 v13:Value}(h:Lk Xb w w1 B lo aS aH aF aL cS cH cF cL M f aK cK):Has Xb ((((((((((((((w1.setCell ⟨w.heap.size+1,0,none⟩ v0).setCell ⟨w.heap.size+1,1,none⟩ v1).setCell ⟨w.heap.size+1,2,none⟩ v2).setCell ⟨w.heap.size+1,3,none⟩ v3).setCell ⟨w.heap.size+1,4,none⟩ v4).setCell ⟨w.heap.size+1,5,none⟩ v5).setCell ⟨w.heap.size+1,6,none⟩ v6).setCell ⟨w.heap.size+1,7,none⟩ v7).setCell ⟨w.heap.size+1,8,none⟩ v8).setCell ⟨w.heap.size+1,9,none⟩ v9).setCell ⟨w.heap.size+1,10,none⟩ v10).setCell ⟨w.heap.size+1,11,none⟩ v11).setCell ⟨w.heap.size+1,12,none⟩ v12).setCell ⟨w.heap.size+1,13,none⟩ v13) B lo (Up w (A8 B aS aH aF aL)) M /\
  Fine w ((((((((((((((w1.setCell ⟨w.heap.size+1,0,none⟩ v0).setCell ⟨w.heap.size+1,1,none⟩ v1).setCell ⟨w.heap.size+1,2,none⟩ v2).setCell ⟨w.heap.size+1,3,none⟩ v3).setCell ⟨w.heap.size+1,4,none⟩ v4).setCell ⟨w.heap.size+1,5,none⟩ v5).setCell ⟨w.heap.size+1,6,none⟩ v6).setCell ⟨w.heap.size+1,7,none⟩ v7).setCell ⟨w.heap.size+1,8,none⟩ v8).setCell ⟨w.heap.size+1,9,none⟩ v9).setCell ⟨w.heap.size+1,10,none⟩ v10).setCell ⟨w.heap.size+1,11,none⟩ v11).setCell ⟨w.heap.size+1,12,none⟩ v12).setCell ⟨w.heap.size+1,13,none⟩ v13) (A8 B aS aH aF aL):=by
 refine⟨⟨aS,aH,aF,aL,cS,cH,cF,cL,h.m.same (by simp) (fun k _ hk=>?_),fun k hk=>.inl hk⟩,.of_below _ (Gj h.bl)⟩
 have:=h.lt k hk
 repeat rw[Below.heap_setCell _ _ _ _ (by dsimp only;omega)]
section
variable {w w1 w2:World} {Z:Nat->Prop} {B lo:Nat} {M:Mm} {f:Fr} {aK:Option Addr} {cK:Nat}
theorem Lk2.below(h:Lk2 Xb w w1 Z B lo M f aK cK)(hb:Below w1.heap.size w1 w2):Lk2 Xb w w2 Z B lo M f aK cK:=by
 obtain⟨aS,aH,aF,aL,cS,cH,cF,cL,m,hz⟩:=h.mine
 exact⟨h.zl,h.fine.below hb,⟨aS,aH,aF,aL,cS,cH,cF,cL,m.below hb,hz⟩,(hb.block _ (lt_of_block h.fb)).trans h.fb,(hb.block _ (lt_of_block h.zb)).trans h.zb⟩
theorem Lk2.store(h:Lk2 Xb w w1 Z B lo M f aK cK)(j:Nat)(v:Value)(g:Fr)(hg:(#[O J f.c.kind,O J f.c.a,O J f.c.b,O J f.c.time,O J f.c.bk,O J f.c.slot,O J f.pl,O J f.cur,O J f.prev,O J f.slot,O J f.n,Y aK f.keys.length cK,.bool f.done,O J f.e]:Array Value).setIfInBounds j v=#[O J g.c.kind,O J g.c.a,O J g.c.b,O J g.c.time,O J g.c.bk,O J g.c.slot,O J g.pl,O J g.cur,O J g.prev,O J g.slot,O J g.n,Y aK g.keys.length cK,.bool g.done,O J g.e]) :
  Lk2 Xb w (w1.setCell ⟨w.heap.size,j,none⟩ v) Z B lo M g aK cK:=by
 obtain⟨aS,aH,aF,aL,cS,cH,cF,cL,m,hz⟩:=h.mine
 refine⟨h.zl,h.fine.set (.inr (Nat.le_refl _)) _ _,⟨aS,aH,aF,aL,cS,cH,cF,cL,m.same (by simp) (fun k _ hk=>?_),hz⟩,?_,by rw[Below.heap_setCell _ _ _ _ (by dsimp only;omega)];exact h.zb⟩
 ·have hk':k≠w.heap.size:=by
   rcases hz k hk with h3|h3
   ·have:=h.zl k h3;omega
   ·omega
  rw[Below.heap_setCell _ _ _ _ (by dsimp only;exact hk')]
 ·rw[block_setCell h.fb v,hg]
theorem Lk2.same(h:Lk2 Xb w w1 Z B lo M f aK cK)(hs:w1.heap.size<=w2.heap.size)(ho:w2.os=w1.os/\w2.tape=w1.tape/\w2.output=w1.output)(hk:∀ k,k≠w.heap.size+1->w2.heap[k]?=w1.heap[k]?):Has Xb w2 B lo (Up w Z) M/\Fine w w2 Z:=by
 obtain⟨aS,aH,aF,aL,cS,cH,cF,cL,m,hz⟩:=h.mine
 refine⟨⟨aS,aH,aF,aL,cS,cH,cF,cL,m.same hs (fun k _ h1=>hk k ?_),fun k h1=>?_⟩,⟨ho.1.trans h.fine.os,ho.2.1.trans h.fine.tape,ho.2.2.trans h.fine.output,Nat.le_trans h.fine.size hs,fun k h1 h2=>(hk k (by omega)).trans (h.fine.block k h1 h2)⟩⟩
 ·rcases hz k h1 with h3|h3
  ·have:=h.zl k h3;omega
  ·omega
 ·rcases hz k h1 with h3|h3
  ·exact .inl h3
  ·exact .inr (by omega)
theorem Lk2.Ah{v0 v1 v2 v3 v4 v5 v6 v7 v8 v9 v10 v11 v12 v13:Value}(h:Lk2 Xb w w1 Z B lo M f aK cK):Has Xb ((((((((((((((w1.setCell ⟨w.heap.size+1,0,none⟩ v0).setCell ⟨w.heap.size+1,1,none⟩ v1).setCell ⟨w.heap.size+1,2,none⟩ v2).setCell ⟨w.heap.size+1,3,none⟩ v3).setCell ⟨w.heap.size+1,4,none⟩ v4).setCell ⟨w.heap.size+1,5,none⟩ v5).setCell ⟨w.heap.size+1,6,none⟩ v6).setCell ⟨w.heap.size+1,7,none⟩ v7).setCell ⟨w.heap.size+1,8,none⟩ v8).setCell ⟨w.heap.size+1,9,none⟩ v9).setCell ⟨w.heap.size+1,10,none⟩ v10).setCell ⟨w.heap.size+1,11,none⟩ v11).setCell ⟨w.heap.size+1,12,none⟩ v12).setCell ⟨w.heap.size+1,13,none⟩ v13) B lo (Up w Z) M /\
  Fine w ((((((((((((((w1.setCell ⟨w.heap.size+1,0,none⟩ v0).setCell ⟨w.heap.size+1,1,none⟩ v1).setCell ⟨w.heap.size+1,2,none⟩ v2).setCell ⟨w.heap.size+1,3,none⟩ v3).setCell ⟨w.heap.size+1,4,none⟩ v4).setCell ⟨w.heap.size+1,5,none⟩ v5).setCell ⟨w.heap.size+1,6,none⟩ v6).setCell ⟨w.heap.size+1,7,none⟩ v7).setCell ⟨w.heap.size+1,8,none⟩ v8).setCell ⟨w.heap.size+1,9,none⟩ v9).setCell ⟨w.heap.size+1,10,none⟩ v10).setCell ⟨w.heap.size+1,11,none⟩ v11).setCell ⟨w.heap.size+1,12,none⟩ v12).setCell ⟨w.heap.size+1,13,none⟩ v13) Z:=by
 have hb:=Gj (w:=w1) (w1:=w1) (n:=w.heap.size) (v0:=v0) (v1:=v1) (v2:=v2) (v3:=v3) (v4:=v4) (v5:=v5) (v6:=v6) (v7:=v7) (v8:=v8) (v9:=v9) (v10:=v10) (v11:=v11) (v12:=v12) (v13:=v13) (Below.refl _ _)
 refine h.same hb.size ⟨hb.os,hb.tape,hb.output⟩ (fun k hk=>?_)
 repeat rw[Below.heap_setCell _ _ _ _ (by dsimp only;exact hk)]
end
set_option maxHeartbeats 3200000 in
theorem a7a(M:Mm)(f:Fr)(B lo:Nat)(aS aH aF aL:Option Addr)(cS cH cF cL:Nat)(aK:Option Addr)(cK:Nat)(w:World)
  (m:Mine Xb w B lo aS aH aF aL cS cH cF cL M) (hM:Ok M) (hf:Fit M f) (r:Ag w aK cK f.keys) (hz:∀ ad,aK=some ad->¬ A8 B aS aH aF aL ad.block) :
  Calls Tryz.prog 167 #[.pointer (some ⟨B,0,none⟩),.agg #[O J f.c.kind,O J f.c.a,O J f.c.b,O J f.c.time,O J f.c.bk,O J f.c.slot,O J f.pl,O J f.cur,O J f.prev,O J f.slot,O J f.n,Y aK f.keys.length cK,.bool f.done,O J f.e]] w fun e w'=>Ret w w' e (Iu M f) aK cK/\Has Xb w' B lo (Up w (A8 B aS aH aF aL)) (Iw M f)/\Fine w w' (A8 B aS aH aF aL):=by
 have hns:=hM.ns
 have hcur:=hf.cur.2
 have hc1:f.cur<=1000:=by omega
 have hn1:M.slots.length<=1000:=by omega
 have HR:Hid (Ag w aK cK f.keys):=r
 by_cases hat:D7 M f=true
 ·have h1:=Bv.1 hat
  have HOk:Hid (Ok M):=hM
  obtain⟨j,hj⟩:∃ j:Nat,f.cur - 1=j:=⟨(f.cur - 1).toNat,by omega⟩
  have hjl:j<M.slots.length:=by omega
  obtain⟨gS,rfl,oS,lS,kS,-⟩:=Dc m.c.s (by omega)
  have HZ:Hid (∀ ad,aK=some ad->¬ A8 B (some ⟨gS,0,none⟩) aH aF aL ad.block):=hz
  have HSl:Hid (Be M (j:Int)=true):=Cj.2 (by omega)
  have hst:stN f=j:=by unfold stN;rw[if_neg (by omega)];exact hj
  have hresM:Iw M f=holdN M j:=by unfold Iw;rw[if_pos hat,hj]
  rw[hresM]
  obtain⟨M',hM'⟩:∃ M',M'=holdN M j:=⟨_,rfl⟩
  have HSt:Hid (∀ (W:World),Mine Xb W B lo (some ⟨gS,0,none⟩) aH aF aL cS cH cF cL M->Calls Tryz.prog 200 #[.pointer (some ⟨B,0,none⟩),.agg #[O J f.c.kind,O J f.c.a,O J f.c.b,O J f.c.time,O J f.c.bk,O J f.c.slot,O J f.pl,O J f.cur,O J f.prev,O J f.slot,O J f.n,Y aK f.keys.length cK,.bool f.done,O J f.e]] W fun e w'=>e=.returned (.tuple #[O J (j:Int),.bool true])/\Below W.heap.size W w'):=fun W m'=>by
   have:=Bo M f B _ aH aF aL cS cH cF cL aK cK W m'.box hc1 hn1
   rwa [hst,hat] at this
  have HHd:Hid (∀ (W:World) (Z:Nat->Prop),Has Xb W B lo Z M->Calls Tryz.prog 201 #[.pointer (some ⟨B,0,none⟩),O J (j:Int)] W fun e w'=>e=.returned (.bool (Ut M j))/\Has Xb w' B lo (Up W Z) M'/\Fine W w' Z):=fun W Z h=>by rw[hM'];exact a6z h HOk.out HSl.out
  rw[<- hM']
  cases hcan:Ut M j
  ·have hres:Iu M f=toF f 0:=by unfold Iu;rw[hat,hj,hcan];rfl
   rw[hres]
   rw[hcan] at HHd
   obtain⟨of,hof⟩:=frObj f aK cK
   obtain⟨oz,hoz⟩:∃ o:Obj,o=Ac:=⟨_,rfl⟩
   have HE:Hid (Lk Xb w ((w.alloc of).alloc oz) B lo (some ⟨gS,0,none⟩) aH aF aL cS cH cF cL M f aK cK):=Lk.first m f aK cK hof hoz
   obtain⟨q0,q1,q2,q3,q4,-,-,-,-,-,qs⟩:=Aj HE.out.m.box
   obtain⟨f0,f1,f2,f3,f4,f5,f6,f7,f8,f9,f10,f11,f12,f13,ff,fs⟩:=Aa HE.out.fb
   unfold Ac at hoz
   clear m hres hst hat h1 hc1 hn1 hcur hns hM hf r hcan hM' hresM hz
   go_enter Tryz.func167,Tryz.ntmps167
   go_wp2_with fail
   rw[<- hof,<- hoz]
   generalize (w.alloc of).alloc oz=W0 at *
   subst hof hoz
   refine(HSt.out W0 HE.out.m).mono ?_
   rintro e w1 ⟨rfl,hb1⟩
   have HE1:Hid (Lk Xb w w1 B lo (some ⟨gS,0,none⟩) aH aF aL cS cH cF cL M f aK cK):=HE.out.below hb1
   clear HE hb1
   clear q0 q1 q2 q3 q4 qs f0 f1 f2 f3 f4 f5 f6 f7 f8 f9 f10 f11 f12 f13 ff fs
   obtain⟨q0,q1,q2,q3,q4,-,-,-,-,-,qs⟩:=Aj HE1.out.m.box
   obtain⟨f0,f1,f2,f3,f4,f5,f6,f7,f8,f9,f10,f11,f12,f13,ff,fs⟩:=Aa HE1.out.fb
   go_wp2_with fail
   refine(HHd.out w1 (A8 B (some ⟨gS,0,none⟩) aH aF aL) ⟨_,_,_,_,_,_,_,_,HE1.out.m,fun _ h=>h⟩).mono ?_
   rintro e w2 ⟨rfl,hh2,hf2⟩
   have HE2:Hid (Lk2 Xb w w2 (A8 B (some ⟨gS,0,none⟩) aH aF aL) B lo M' f aK cK):=HE1.out.after hh2 hf2
   clear HE1 hh2 hf2
   clear q0 q1 q2 q3 q4 qs f0 f1 f2 f3 f4 f5 f6 f7 f8 f9 f10 f11 f12 f13 ff fs
   obtain⟨f0,f1,f2,f3,f4,f5,f6,f7,f8,f9,f10,f11,f12,f13,ff,fs⟩:=Aa HE2.out.fb
   go_wp2_with fail
   refine(Cc f 0 aK cK _).mono ?_
   rintro e w9 ⟨rfl,hb9⟩
   have HE9:Hid (Lk2 Xb w w9 (A8 B (some ⟨gS,0,none⟩) aH aF aL) B lo M' f aK cK):=HE2.out.below hb9
   clear HE2 hb9
   clear f0 f1 f2 f3 f4 f5 f6 f7 f8 f9 f10 f11 f12 f13 ff fs
   obtain⟨g0,g1,g2,g3,g4,g5,g6,g7,g8,g9,g10,g11,g12,g13,gf,gs⟩:=Aa HE9.out.zb
   go_wp2
   refine bodyPost_ret (v:=.agg #[O J (toF f 0).c.kind,O J (toF f 0).c.a,O J (toF f 0).c.b,O J (toF f 0).c.time,O J (toF f 0).c.bk,O J (toF f 0).c.slot,O J (toF f 0).pl,O J (toF f 0).cur,O J (toF f 0).prev,O J (toF f 0).slot,O J (toF f 0).n,Y aK (toF f 0).keys.length cK,.bool (toF f 0).done,O J (toF f 0).e]) (by simp[results,Tryz.results167,go_sem,toF,g0,g1,g2,g3,g4,g5,g6,g7,g8,g9,g10,g11,g12,g13]) rfl ⟨⟨aK,cK,rfl,HR.out.fine HE9.out.Ah.2 HZ.out,(fun ad h=>.inl h),fun _=>⟨rfl,rfl⟩⟩,HE9.out.Ah⟩
  ·have hres:Iu M f=Ci f (j:Int) 4:=by unfold Iu;rw[hat,hj,hcan];rfl
   rw[hres]
   rw[hcan] at HHd
   obtain⟨of,hof⟩:=frObj f aK cK
   obtain⟨oz,hoz⟩:∃ o:Obj,o=Ac:=⟨_,rfl⟩
   have HE:Hid (Lk Xb w ((w.alloc of).alloc oz) B lo (some ⟨gS,0,none⟩) aH aF aL cS cH cF cL M f aK cK):=Lk.first m f aK cK hof hoz
   obtain⟨q0,q1,q2,q3,q4,-,-,-,-,-,qs⟩:=Aj HE.out.m.box
   obtain⟨f0,f1,f2,f3,f4,f5,f6,f7,f8,f9,f10,f11,f12,f13,ff,fs⟩:=Aa HE.out.fb
   unfold Ac at hoz
   clear m hres hst hat h1 hc1 hn1 hcur hns hM hf r hcan hM' hresM hz
   go_enter Tryz.func167,Tryz.ntmps167
   go_wp2_with fail
   rw[<- hof,<- hoz]
   generalize (w.alloc of).alloc oz=W0 at *
   subst hof hoz
   refine(HSt.out W0 HE.out.m).mono ?_
   rintro e w1 ⟨rfl,hb1⟩
   have HE1:Hid (Lk Xb w w1 B lo (some ⟨gS,0,none⟩) aH aF aL cS cH cF cL M f aK cK):=HE.out.below hb1
   clear HE hb1
   clear q0 q1 q2 q3 q4 qs f0 f1 f2 f3 f4 f5 f6 f7 f8 f9 f10 f11 f12 f13 ff fs
   obtain⟨q0,q1,q2,q3,q4,-,-,-,-,-,qs⟩:=Aj HE1.out.m.box
   obtain⟨f0,f1,f2,f3,f4,f5,f6,f7,f8,f9,f10,f11,f12,f13,ff,fs⟩:=Aa HE1.out.fb
   go_wp2_with fail
   refine(HHd.out w1 (A8 B (some ⟨gS,0,none⟩) aH aF aL) ⟨_,_,_,_,_,_,_,_,HE1.out.m,fun _ h=>h⟩).mono ?_
   rintro e w2 ⟨rfl,hh2,hf2⟩
   have HE2:Hid (Lk2 Xb w w2 (A8 B (some ⟨gS,0,none⟩) aH aF aL) B lo M' f aK cK):=HE1.out.after hh2 hf2
   clear HE1 hh2 hf2
   clear q0 q1 q2 q3 q4 qs f0 f1 f2 f3 f4 f5 f6 f7 f8 f9 f10 f11 f12 f13 ff fs
   obtain⟨f0,f1,f2,f3,f4,f5,f6,f7,f8,f9,f10,f11,f12,f13,ff,fs⟩:=Aa HE2.out.fb
   go_wp2_with fail
   have HE3:Hid (Lk2 Xb w _ (A8 B (some ⟨gS,0,none⟩) aH aF aL) B lo M' { f with slot:=(j:Int) } aK cK):=HE2.out.store 9 (O J (j:Int)) { f with slot:=(j:Int) } rfl
   clear HE2
   refine(Cc { f with slot:=(j:Int) } 4 aK cK _).mono ?_
   rintro e w9 ⟨rfl,hb9⟩
   have HE9:Hid (Lk2 Xb w w9 (A8 B (some ⟨gS,0,none⟩) aH aF aL) B lo M' { f with slot:=(j:Int) } aK cK):=HE3.out.below hb9
   clear HE3 hb9
   clear f0 f1 f2 f3 f4 f5 f6 f7 f8 f9 f10 f11 f12 f13 ff fs
   obtain⟨g0,g1,g2,g3,g4,g5,g6,g7,g8,g9,g10,g11,g12,g13,gf,gs⟩:=Aa HE9.out.zb
   go_wp2
   refine bodyPost_ret (v:=.agg #[O J (Ci f (j:Int) 4).c.kind,O J (Ci f (j:Int) 4).c.a,O J (Ci f (j:Int) 4).c.b,O J (Ci f (j:Int) 4).c.time,O J (Ci f (j:Int) 4).c.bk,O J (Ci f (j:Int) 4).c.slot,O J (Ci f (j:Int) 4).pl,O J (Ci f (j:Int) 4).cur,O J (Ci f (j:Int) 4).prev,O J (Ci f (j:Int) 4).slot,O J (Ci f (j:Int) 4).n,Y aK (Ci f (j:Int) 4).keys.length cK,.bool (Ci f (j:Int) 4).done,O J (Ci f (j:Int) 4).e]) (by simp[results,Tryz.results167,go_sem,Ci,toF,g0,g1,g2,g3,g4,g5,g6,g7,g8,g9,g10,g11,g12,g13]) rfl ⟨⟨aK,cK,rfl,HR.out.fine HE9.out.Ah.2 HZ.out,(fun ad h=>.inl h),fun _=>⟨rfl,rfl⟩⟩,HE9.out.Ah⟩
 ·have hat0:D7 M f=false:=by simpa using hat
  have hres:Iu M f=toF f 0:=by unfold Iu;rw[hat0];rfl
  have hresM:Iw M f=M:=by unfold Iw;rw[if_neg hat]
  rw[hres,hresM]
  have HSt:Hid (∀ (W:World),Mine Xb W B lo aS aH aF aL cS cH cF cL M->Calls Tryz.prog 200 #[.pointer (some ⟨B,0,none⟩),.agg #[O J f.c.kind,O J f.c.a,O J f.c.b,O J f.c.time,O J f.c.bk,O J f.c.slot,O J f.pl,O J f.cur,O J f.prev,O J f.slot,O J f.n,Y aK f.keys.length cK,.bool f.done,O J f.e]] W fun e w'=>e=.returned (.tuple #[O J (stN f),.bool false])/\Below W.heap.size W w'):=fun W m'=>by
   have:=Bo M f B _ aH aF aL cS cH cF cL aK cK W m'.box hc1 hn1
   rwa [hat0] at this
  obtain⟨of,hof⟩:=frObj f aK cK
  obtain⟨oz,hoz⟩:∃ o:Obj,o=Ac:=⟨_,rfl⟩
  have HE:Hid (Lk Xb w ((w.alloc of).alloc oz) B lo aS aH aF aL cS cH cF cL M f aK cK):=Lk.first m f aK cK hof hoz
  obtain⟨q0,q1,q2,q3,q4,-,-,-,-,-,qs⟩:=Aj HE.out.m.box
  obtain⟨f0,f1,f2,f3,f4,f5,f6,f7,f8,f9,f10,f11,f12,f13,ff,fs⟩:=Aa HE.out.fb
  unfold Ac at hoz
  clear m hres hresM hat hat0 hc1 hn1 hcur hns hM hf r hz
  go_enter Tryz.func167,Tryz.ntmps167
  go_wp2_with fail
  rw[<- hof,<- hoz]
  generalize (w.alloc of).alloc oz=W0 at *
  subst hof hoz
  refine(HSt.out W0 HE.out.m).mono ?_
  rintro e w1 ⟨rfl,hb1⟩
  have HE1:Hid (Lk Xb w w1 B lo aS aH aF aL cS cH cF cL M f aK cK):=HE.out.below hb1
  clear HE hb1
  clear q0 q1 q2 q3 q4 qs f0 f1 f2 f3 f4 f5 f6 f7 f8 f9 f10 f11 f12 f13 ff fs
  obtain⟨q0,q1,q2,q3,q4,-,-,-,-,-,qs⟩:=Aj HE1.out.m.box
  obtain⟨f0,f1,f2,f3,f4,f5,f6,f7,f8,f9,f10,f11,f12,f13,ff,fs⟩:=Aa HE1.out.fb
  go_wp2_with fail
  refine(Cc f 0 aK cK _).mono ?_
  rintro e w9 ⟨rfl,hb9⟩
  have HE9:Hid (Lk Xb w w9 B lo aS aH aF aL cS cH cF cL M f aK cK):=HE1.out.below hb9
  clear HE1 hb9
  clear q0 q1 q2 q3 q4 qs f0 f1 f2 f3 f4 f5 f6 f7 f8 f9 f10 f11 f12 f13 ff fs
  obtain⟨g0,g1,g2,g3,g4,g5,g6,g7,g8,g9,g10,g11,g12,g13,gf,gs⟩:=Aa HE9.out.zb
  go_wp2
  refine bodyPost_ret (v:=.agg #[O J (toF f 0).c.kind,O J (toF f 0).c.a,O J (toF f 0).c.b,O J (toF f 0).c.time,O J (toF f 0).c.bk,O J (toF f 0).c.slot,O J (toF f 0).pl,O J (toF f 0).cur,O J (toF f 0).prev,O J (toF f 0).slot,O J (toF f 0).n,Y aK (toF f 0).keys.length cK,.bool (toF f 0).done,O J (toF f 0).e]) (by simp[results,Tryz.results167,go_sem,toF,g0,g1,g2,g3,g4,g5,g6,g7,g8,g9,g10,g11,g12,g13]) rfl ⟨⟨aK,cK,rfl,HR.out.below (Gj HE9.out.bl),(fun ad h=>.inl h),fun _=>⟨rfl,rfl⟩⟩,HE9.out.Ah⟩
end
end Go.Proofs.YthhgoenomehobaaGreat.mm
