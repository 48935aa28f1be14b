/- Parts. -/
import Derived.Test.YthhgoenomehobaaGreatS08
import Derived.Deep.QuietTactic
import Derived.BigQuiet
import Derived.Lib.QuietBelow
namespace Go.Proofs.YthhgoenomehobaaGreat.mm
set_option maxRecDepth 100000
set_option linter.unusedVariables false
open Go.Value renaming int → O, slice → Y
open Go.IntKind renaming i64 → J
section
open Go.ChangeShapes Go.WideShapes Go.ChangeAt Go.RowKit Go.Joins Go.Deep Go.Sort
variable {Xb:Ex}
set_option maxHeartbeats 3200000 in
theorem a8g(M:Mm)(f:Fr)(B lo:Nat)(aS aH aF aL:Option Addr)(cS cH cF cL:Nat)(aK:Option Addr)(cK:Nat)(w:World)
  (m:Mine Xb w B lo aS aH aF aL cS cH cF cL M) (hM:Ok M) (hf:Fit M f) (r:Ag w aK cK f.keys) :
  Calls Tryz.prog 168 #[.pointer (some ⟨B,0,none⟩),.agg #[O J f.c.kind,O J f.c.a,O J f.c.b,O J f.c.time,O J f.c.bk,O J f.c.slot,O J f.pl,O J f.cur,O J f.prev,O J f.slot,O J f.n,Y aK f.keys.length cK,.bool f.done,O J f.e]] w fun e w'=>Ret w w' e (Hw M f) aK cK/\Below w.heap.size w w':=by
 have hns:=hM.ns
 have HR:Hid (Ag w aK cK f.keys):=r
 have HHs:Hid (∀ W:World,Calls Tryz.prog 111 #[.agg #[Y aS M.slots.length cS,Y aH M.heads.length cH,Y aF M.free.length cF,Y aL M.locks.length cL,O J M.now],O J f.slot] W fun e w'=>e=.returned (.bool (Be M f.slot))/\Below W.heap.size W w'):=fun W=>Fz aS aH aF aL _ _ _ _ cS cH cF cL M.now f.slot W (by omega)
 cases hsl:Be M f.slot
 ·have hres:Hw M f=toF f 0:=by unfold Hw;rw[hsl];rfl
  rw[hres]
  rw[hsl] at HHs
  obtain⟨of,hof⟩:=frObj f aK cK
  obtain⟨oz,hoz⟩:∃ o:Obj,o=Ac:=⟨_,rfl⟩
  have HE:Hid (Lk Xb w ((w.alloc of).alloc oz) B lo aS aH aF aL cS cH cF cL M f aK cK):=Lk.first m f aK cK hof hoz
  obtain⟨q0,q1,q2,q3,q4,-,-,-,-,-,qs⟩:=Aj HE.out.m.box
  obtain⟨f0,f1,f2,f3,f4,f5,f6,f7,f8,f9,f10,f11,f12,f13,ff,fs⟩:=Aa HE.out.fb
  unfold Ac at hoz
  clear m hres hsl hns hM hf r
  go_enter Tryz.func168,Tryz.ntmps168
  go_wp2_with fail
  rw[<- hof,<- hoz]
  generalize (w.alloc of).alloc oz=W0 at *
  subst hof hoz
  have cB:∀ (d:Nat) (os:Array Obj),Calls Tryz.prog 111 #[.agg #[Y aS M.slots.length cS,Y aH M.heads.length cH,Y aF M.free.length cF,Y aL M.locks.length cL,O J M.now],O J f.slot] (grow (redrawn W0 d) os) fun e w''=>e=.returned (.bool false)/\∃ p:Regrown,w''=grow (redrawn W0 p.d) p.os:=fun d os=>Calls.regrown_of (HHs.out _)
  have Q0:=cell_regrown q0;have Q1:=cell_regrown q1;have Q2:=cell_regrown q2;have Q3:=cell_regrown q3;have Q4:=cell_regrown q4
  have F9:=cell_regrown f9
  clear q0 q1 q2 q3 q4 qs f0 f1 f2 f3 f4 f5 f6 f7 f8 f9 f10 f11 f12 f13 ff fs
  refine wp_region_quiet_below (by kernel_rfl) (by kernel_rfl) ?_
  repeat (quiet_step (first|exact cB _ _))
  refine wpQuiet_nil ?_
  intro _ hw'
  obtain⟨⟨dq,osq⟩,hw''⟩:=hw'
  subst hw''
  have HB1:Hid _:=below_regrown W0 dq osq
  generalize grow (redrawn W0 dq) osq=w1 at *
  clear cB Q0 Q1 Q2 Q3 Q4 F9
  have HE1:Hid (Lk Xb w w1 B lo aS aH aF aL cS cH cF cL M f aK cK):=HE.out.below HB1.out
  clear HB1 HE
  obtain⟨q0,q1,q2,q3,q4,-,-,-,-,-,qs⟩:=Aj HE1.out.m.box
  obtain⟨f0,f1,f2,f3,f4,f5,f6,f7,f8,f9,f10,f11,f12,f13,ff,fs⟩:=Aa HE1.out.fb
  go_wp2_with fail
  refine(Cc f 0 aK cK _).mono ?_
  rintro e w9 ⟨rfl,hb9⟩
  have HE9:Hid (Lk Xb w w9 B lo aS aH aF aL cS cH cF cL M f aK cK):=HE1.out.below hb9
  clear HE1 hb9
  clear q0 q1 q2 q3 q4 qs f0 f1 f2 f3 f4 f5 f6 f7 f8 f9 f10 f11 f12 f13 ff fs
  obtain⟨g0,g1,g2,g3,g4,g5,g6,g7,g8,g9,g10,g11,g12,g13,gf,gs⟩:=Aa HE9.out.zb
  go_wp2
  refine bodyPost_ret (v:=.agg #[O J (toF f 0).c.kind,O J (toF f 0).c.a,O J (toF f 0).c.b,O J (toF f 0).c.time,O J (toF f 0).c.bk,O J (toF f 0).c.slot,O J (toF f 0).pl,O J (toF f 0).cur,O J (toF f 0).prev,O J (toF f 0).slot,O J (toF f 0).n,Y aK (toF f 0).keys.length cK,.bool (toF f 0).done,O J (toF f 0).e]) (by simp[results,Tryz.results168,go_sem,toF,g0,g1,g2,g3,g4,g5,g6,g7,g8,g9,g10,g11,g12,g13]) rfl ⟨⟨aK,cK,rfl,HR.out.below (Gj HE9.out.bl),(fun ad h=>.inl h),fun _=>⟨rfl,rfl⟩⟩,Gj HE9.out.bl⟩
 ·obtain⟨j,hj,hjl⟩:=(Fv M f.slot).1 hsl
  obtain⟨gS,rfl,oS,lS,kS,-⟩:=Dc m.c.s (by omega)
  obtain⟨s,hs⟩:∃ s,s=A7 M (j:Int):=⟨_,rfl⟩
  rw[hsl] at HHs
  rw[hj] at HHs
  have HX:Hid (∀ W,Mine Xb W B lo (some ⟨gS,0,none⟩) aH aF aL cS cH cF cL M->W.cell? ⟨gS,j*6,none⟩=some (O J s.refs)/\W.cell? ⟨gS,j*6+1,none⟩=some (O J s.a)/\W.cell? ⟨gS,j*6+2,none⟩=some (O J s.b) /\
   W.cell? ⟨gS,j*6+3,none⟩=some (O J s.unt)/\W.cell? ⟨gS,j*6+4,none⟩=some (.bool s.inn)/\W.cell? ⟨gS,j*6+5,none⟩=some (O J s.next)/\∀ q,W.frozen? ⟨gS,q,none⟩=false):=fun W m'=>Bd m'.c.s hjl hs
  have hres:Hw M f=if lkK s f && s.inn then (if M.now<s.unt then Af f 0 else toF f 6) else toF f 5:=by unfold Hw;rw[hsl,hj,<- hs];rfl
  rw[hres]
  have HJ:Hid (f.slot=j):=hj
  have se:∀ W:World,(Op.equalIn 10000 30 (.agg #[O J s.a,O J s.b]) (.agg #[O J f.c.a,O J f.c.b])).run Tryz.prog W=.ok (lkK s f) W:=fun W=>P6 _ _ _ _ W
  obtain⟨kk,hkk⟩:∃ kk,kk=lkK s f:=⟨_,rfl⟩
  obtain⟨inn,hin⟩:∃ i,i=s.inn:=⟨_,rfl⟩
  rw[<- hkk] at se ⊢
  rw[<- hin] at HX ⊢
  have HD:Hid (inn=s.inn):=hin
  clear hres hin hkk hj hs hsl
  cases kk
  ·show Calls Tryz.prog 168 _ w fun e w'=>Ret w w' e (toF f 5) aK cK/\Below w.heap.size w w'
   obtain⟨of,hof⟩:=frObj f aK cK
   obtain⟨oz,hoz⟩:∃ o:Obj,o=Ac:=⟨_,rfl⟩
   have HE:Hid (Lk Xb w ((w.alloc of).alloc oz) B lo (some ⟨gS,0,none⟩) aH aF aL cS cH cF cL M f aK cK):=Lk.first m f aK cK hof hoz
   obtain⟨q0,q1,q2,q3,q4,-,-,-,-,-,qs⟩:=Aj HE.out.m.box
   obtain⟨f0,f1,f2,f3,f4,f5,f6,f7,f8,f9,f10,f11,f12,f13,ff,fs⟩:=Aa HE.out.fb
   unfold Ac at hoz
   rw[HJ.out] at f9
   clear m hns hM hf r
   go_enter Tryz.func168,Tryz.ntmps168
   go_wp2_with fail
   rw[<- hof,<- hoz]
   generalize (w.alloc of).alloc oz=W0 at *
   subst hof hoz
   have cB:∀ (d:Nat) (os:Array Obj),Calls Tryz.prog 111 #[.agg #[Y (some ⟨gS,0,none⟩) M.slots.length cS,Y aH M.heads.length cH,Y aF M.free.length cF,Y aL M.locks.length cL,O J M.now],O J (j:Int)] (grow (redrawn W0 d) os) fun e w''=>e=.returned (.bool true)/\∃ p:Regrown,w''=grow (redrawn W0 p.d) p.os:=fun d os=>Calls.regrown_of (HHs.out _)
   have Q0:=cell_regrown q0;have Q1:=cell_regrown q1;have Q2:=cell_regrown q2;have Q3:=cell_regrown q3;have Q4:=cell_regrown q4
   have F9:=cell_regrown f9
   clear q0 q1 q2 q3 q4 qs f0 f1 f2 f3 f4 f5 f6 f7 f8 f9 f10 f11 f12 f13 ff fs
   refine wp_region_quiet_below (by kernel_rfl) (by kernel_rfl) ?_
   repeat (quiet_step (first|exact cB _ _))
   refine wpQuiet_nil ?_
   intro _ hw'
   obtain⟨⟨dq,osq⟩,hw''⟩:=hw'
   subst hw''
   have HB1:Hid _:=below_regrown W0 dq osq
   generalize grow (redrawn W0 dq) osq=w1 at *
   clear cB Q0 Q1 Q2 Q3 Q4 F9
   have HE1:Hid (Lk Xb w w1 B lo (some ⟨gS,0,none⟩) aH aF aL cS cH cF cL M f aK cK):=HE.out.below HB1.out
   clear HB1 HE
   obtain⟨q0,q1,q2,q3,q4,-,-,-,-,-,qs⟩:=Aj HE1.out.m.box
   obtain⟨f0,f1,f2,f3,f4,f5,f6,f7,f8,f9,f10,f11,f12,f13,ff,fs⟩:=Aa HE1.out.fb
   rw[HJ.out] at f9
   obtain⟨x0,x1,x2,x3,x4,x5,xf⟩:=HX.out w1 HE1.out.m
   have xs:gS<w1.heap.size:=cell_lt x0
   go_wp2_with fail
   go_region
   all_goals
    go_wp2_with fail
    rw[<- HJ.out]
    have hb3:=Ad w1 (.cells #[O J s.refs,O J s.a,O J s.b,O J s.unt,.bool inn,O J s.next] 64)
    have HE4:Hid (Lk Xb w ((w1.alloc (.cells #[O J s.refs,O J s.a,O J s.b,O J s.unt,.bool inn,O J s.next] 64)).drew) B lo (some ⟨gS,0,none⟩) aH aF aL cS cH cF cL M f aK cK):=HE1.out.below ⟨hb3.os,hb3.tape,hb3.output,hb3.size,hb3.block⟩
    clear HE1 hb3
    refine(Cc f 5 aK cK _).mono ?_
    rintro e w9 ⟨rfl,hb9⟩
    have HE9:Hid (Lk Xb w w9 B lo (some ⟨gS,0,none⟩) aH aF aL cS cH cF cL M f aK cK):=HE4.out.below hb9
    clear HE4 hb9
    clear q0 q1 q2 q3 q4 qs f0 f1 f2 f3 f4 f5 f6 f7 f8 f9 f10 f11 f12 f13 ff fs
    obtain⟨g0,g1,g2,g3,g4,g5,g6,g7,g8,g9,g10,g11,g12,g13,gf,gs⟩:=Aa HE9.out.zb
    go_wp2
    refine bodyPost_ret (v:=.agg #[O J (toF f 5).c.kind,O J (toF f 5).c.a,O J (toF f 5).c.b,O J (toF f 5).c.time,O J (toF f 5).c.bk,O J (toF f 5).c.slot,O J (toF f 5).pl,O J (toF f 5).cur,O J (toF f 5).prev,O J (toF f 5).slot,O J (toF f 5).n,Y aK (toF f 5).keys.length cK,.bool (toF f 5).done,O J (toF f 5).e]) (by simp[results,Tryz.results168,go_sem,toF,g0,g1,g2,g3,g4,g5,g6,g7,g8,g9,g10,g11,g12,g13]) rfl ⟨⟨aK,cK,rfl,HR.out.below (Gj HE9.out.bl),(fun ad h=>.inl h),fun _=>⟨rfl,rfl⟩⟩,Gj HE9.out.bl⟩
  ·cases inn
   ·show Calls Tryz.prog 168 _ w fun e w'=>Ret w w' e (toF f 5) aK cK/\Below w.heap.size w w'
    obtain⟨of,hof⟩:=frObj f aK cK
    obtain⟨oz,hoz⟩:∃ o:Obj,o=Ac:=⟨_,rfl⟩
    have HE:Hid (Lk Xb w ((w.alloc of).alloc oz) B lo (some ⟨gS,0,none⟩) aH aF aL cS cH cF cL M f aK cK):=Lk.first m f aK cK hof hoz
    obtain⟨q0,q1,q2,q3,q4,-,-,-,-,-,qs⟩:=Aj HE.out.m.box
    obtain⟨f0,f1,f2,f3,f4,f5,f6,f7,f8,f9,f10,f11,f12,f13,ff,fs⟩:=Aa HE.out.fb
    unfold Ac at hoz
    rw[HJ.out] at f9
    clear m hns hM hf r
    go_enter Tryz.func168,Tryz.ntmps168
    go_wp2_with fail
    rw[<- hof,<- hoz]
    generalize (w.alloc of).alloc oz=W0 at *
    subst hof hoz
    have cB:∀ (d:Nat) (os:Array Obj),Calls Tryz.prog 111 #[.agg #[Y (some ⟨gS,0,none⟩) M.slots.length cS,Y aH M.heads.length cH,Y aF M.free.length cF,Y aL M.locks.length cL,O J M.now],O J (j:Int)] (grow (redrawn W0 d) os) fun e w''=>e=.returned (.bool true)/\∃ p:Regrown,w''=grow (redrawn W0 p.d) p.os:=fun d os=>Calls.regrown_of (HHs.out _)
    have Q0:=cell_regrown q0;have Q1:=cell_regrown q1;have Q2:=cell_regrown q2;have Q3:=cell_regrown q3;have Q4:=cell_regrown q4
    have F9:=cell_regrown f9
    clear q0 q1 q2 q3 q4 qs f0 f1 f2 f3 f4 f5 f6 f7 f8 f9 f10 f11 f12 f13 ff fs
    refine wp_region_quiet_below (by kernel_rfl) (by kernel_rfl) ?_
    repeat (quiet_step (first|exact cB _ _))
    refine wpQuiet_nil ?_
    intro _ hw'
    obtain⟨⟨dq,osq⟩,hw''⟩:=hw'
    subst hw''
    have HB1:Hid _:=below_regrown W0 dq osq
    generalize grow (redrawn W0 dq) osq=w1 at *
    clear cB Q0 Q1 Q2 Q3 Q4 F9
    have HE1:Hid (Lk Xb w w1 B lo (some ⟨gS,0,none⟩) aH aF aL cS cH cF cL M f aK cK):=HE.out.below HB1.out
    clear HB1 HE
    obtain⟨q0,q1,q2,q3,q4,-,-,-,-,-,qs⟩:=Aj HE1.out.m.box
    obtain⟨f0,f1,f2,f3,f4,f5,f6,f7,f8,f9,f10,f11,f12,f13,ff,fs⟩:=Aa HE1.out.fb
    rw[HJ.out] at f9
    obtain⟨x0,x1,x2,x3,x4,x5,xf⟩:=HX.out w1 HE1.out.m
    have xs:gS<w1.heap.size:=cell_lt x0
    go_wp2_with fail
    go_region
    all_goals
     go_wp2_with fail
     rw[<- HJ.out]
     have hb3:=Ad w1 (.cells #[O J s.refs,O J s.a,O J s.b,O J s.unt,.bool false,O J s.next] 64)
     have HE4:Hid (Lk Xb w ((w1.alloc (.cells #[O J s.refs,O J s.a,O J s.b,O J s.unt,.bool false,O J s.next] 64)).drew) B lo (some ⟨gS,0,none⟩) aH aF aL cS cH cF cL M f aK cK):=HE1.out.below ⟨hb3.os,hb3.tape,hb3.output,hb3.size,hb3.block⟩
     clear HE1 hb3
     refine(Cc f 5 aK cK _).mono ?_
     rintro e w9 ⟨rfl,hb9⟩
     have HE9:Hid (Lk Xb w w9 B lo (some ⟨gS,0,none⟩) aH aF aL cS cH cF cL M f aK cK):=HE4.out.below hb9
     clear HE4 hb9
     clear q0 q1 q2 q3 q4 qs f0 f1 f2 f3 f4 f5 f6 f7 f8 f9 f10 f11 f12 f13 ff fs
     obtain⟨g0,g1,g2,g3,g4,g5,g6,g7,g8,g9,g10,g11,g12,g13,gf,gs⟩:=Aa HE9.out.zb
     go_wp2
     refine bodyPost_ret (v:=.agg #[O J (toF f 5).c.kind,O J (toF f 5).c.a,O J (toF f 5).c.b,O J (toF f 5).c.time,O J (toF f 5).c.bk,O J (toF f 5).c.slot,O J (toF f 5).pl,O J (toF f 5).cur,O J (toF f 5).prev,O J (toF f 5).slot,O J (toF f 5).n,Y aK (toF f 5).keys.length cK,.bool (toF f 5).done,O J (toF f 5).e]) (by simp[results,Tryz.results168,go_sem,toF,g0,g1,g2,g3,g4,g5,g6,g7,g8,g9,g10,g11,g12,g13]) rfl ⟨⟨aK,cK,rfl,HR.out.below (Gj HE9.out.bl),(fun ad h=>.inl h),fun _=>⟨rfl,rfl⟩⟩,Gj HE9.out.bl⟩
   ·by_cases hu:M.now<s.unt
    ·rw[if_pos hu]
     show Calls Tryz.prog 168 _ w fun e w'=>Ret w w' e (Af f 0) aK cK/\Below w.heap.size w w'
     have hu1:¬ s.unt<=M.now:=by omega
     obtain⟨of,hof⟩:=frObj f aK cK
     obtain⟨oz,hoz⟩:∃ o:Obj,o=Ac:=⟨_,rfl⟩
     have HE:Hid (Lk Xb w ((w.alloc of).alloc oz) B lo (some ⟨gS,0,none⟩) aH aF aL cS cH cF cL M f aK cK):=Lk.first m f aK cK hof hoz
     obtain⟨q0,q1,q2,q3,q4,-,-,-,-,-,qs⟩:=Aj HE.out.m.box
     obtain⟨f0,f1,f2,f3,f4,f5,f6,f7,f8,f9,f10,f11,f12,f13,ff,fs⟩:=Aa HE.out.fb
     unfold Ac at hoz
     rw[HJ.out] at f9
     clear m hns hM hf r
     go_enter Tryz.func168,Tryz.ntmps168
     go_wp2_with fail
     rw[<- hof,<- hoz]
     generalize (w.alloc of).alloc oz=W0 at *
     subst hof hoz
     have cB:∀ (d:Nat) (os:Array Obj),Calls Tryz.prog 111 #[.agg #[Y (some ⟨gS,0,none⟩) M.slots.length cS,Y aH M.heads.length cH,Y aF M.free.length cF,Y aL M.locks.length cL,O J M.now],O J (j:Int)] (grow (redrawn W0 d) os) fun e w''=>e=.returned (.bool true)/\∃ p:Regrown,w''=grow (redrawn W0 p.d) p.os:=fun d os=>Calls.regrown_of (HHs.out _)
     have Q0:=cell_regrown q0;have Q1:=cell_regrown q1;have Q2:=cell_regrown q2;have Q3:=cell_regrown q3;have Q4:=cell_regrown q4
     have F9:=cell_regrown f9
     clear q0 q1 q2 q3 q4 qs f0 f1 f2 f3 f4 f5 f6 f7 f8 f9 f10 f11 f12 f13 ff fs
     refine wp_region_quiet_below (by kernel_rfl) (by kernel_rfl) ?_
     repeat (quiet_step (first|exact cB _ _))
     refine wpQuiet_nil ?_
     intro _ hw'
     obtain⟨⟨dq,osq⟩,hw''⟩:=hw'
     subst hw''
     have HB1:Hid _:=below_regrown W0 dq osq
     generalize grow (redrawn W0 dq) osq=w1 at *
     clear cB Q0 Q1 Q2 Q3 Q4 F9
     have HE1:Hid (Lk Xb w w1 B lo (some ⟨gS,0,none⟩) aH aF aL cS cH cF cL M f aK cK):=HE.out.below HB1.out
     clear HB1 HE
     obtain⟨q0,q1,q2,q3,q4,-,-,-,-,-,qs⟩:=Aj HE1.out.m.box
     obtain⟨f0,f1,f2,f3,f4,f5,f6,f7,f8,f9,f10,f11,f12,f13,ff,fs⟩:=Aa HE1.out.fb
     rw[HJ.out] at f9
     obtain⟨x0,x1,x2,x3,x4,x5,xf⟩:=HX.out w1 HE1.out.m
     have xs:gS<w1.heap.size:=cell_lt x0
     go_wp2_with fail
     go_region
     all_goals
      go_wp2_with fail
      go_quiet (fail)
      go_wp2_with fail
      rw[<- HJ.out]
      have hb3:=Ad w1 (.cells #[O J s.refs,O J s.a,O J s.b,O J s.unt,.bool true,O J s.next] 64)
      have HE4:Hid (Lk Xb w ((w1.alloc (.cells #[O J s.refs,O J s.a,O J s.b,O J s.unt,.bool true,O J s.next] 64)).drewN (1+nq)) B lo (some ⟨gS,0,none⟩) aH aF aL cS cH cF cL M f aK cK):=HE1.out.below ⟨hb3.os,hb3.tape,hb3.output,hb3.size,hb3.block⟩
      clear HE1 hb3
      refine(Np f 0 aK cK _ (HR.out.below HE4.out.bl)).mono ?_
      rintro e w9 ⟨a9,c9,rfl,hr9,hi9,hb9⟩
      have HK9:Hid (Ag w9 a9 c9 f.keys/\∀ ad,a9=some ad->w.heap.size+2<=ad.block):=⟨hr9,fun ad h=>Nat.le_trans (lt_of_block HE4.out.zb) (hi9 ad h)⟩
      have HE9:Hid (Lk Xb w w9 B lo (some ⟨gS,0,none⟩) aH aF aL cS cH cF cL M f aK cK):=HE4.out.below hb9
      clear HE4 hb9 hr9 hi9
      clear q0 q1 q2 q3 q4 qs f0 f1 f2 f3 f4 f5 f6 f7 f8 f9 f10 f11 f12 f13 ff fs
      obtain⟨g0,g1,g2,g3,g4,g5,g6,g7,g8,g9,g10,g11,g12,g13,gf,gs⟩:=Aa HE9.out.zb
      go_wp2
      refine bodyPost_ret (v:=.agg #[O J (Af f 0).c.kind,O J (Af f 0).c.a,O J (Af f 0).c.b,O J (Af f 0).c.time,O J (Af f 0).c.bk,O J (Af f 0).c.slot,O J (Af f 0).pl,O J (Af f 0).cur,O J (Af f 0).prev,O J (Af f 0).slot,O J (Af f 0).n,Y a9 (Af f 0).keys.length c9,.bool (Af f 0).done,O J (Af f 0).e]) (by simp[results,Tryz.results168,go_sem,Af,g0,g1,g2,g3,g4,g5,g6,g7,g8,g9,g10,g11,g12,g13]) rfl ⟨⟨a9,c9,rfl,Ua HK9.out.1 HK9.out.2,(fun ad h=>.inr (by have:=HK9.out.2 ad h;omega)),fun h=>by cases h⟩,Gj HE9.out.bl⟩
    ·rw[if_neg hu]
     show Calls Tryz.prog 168 _ w fun e w'=>Ret w w' e (toF f 6) aK cK/\Below w.heap.size w w'
     have hu1:s.unt<=M.now:=by omega
     obtain⟨of,hof⟩:=frObj f aK cK
     obtain⟨oz,hoz⟩:∃ o:Obj,o=Ac:=⟨_,rfl⟩
     have HE:Hid (Lk Xb w ((w.alloc of).alloc oz) B lo (some ⟨gS,0,none⟩) aH aF aL cS cH cF cL M f aK cK):=Lk.first m f aK cK hof hoz
     obtain⟨q0,q1,q2,q3,q4,-,-,-,-,-,qs⟩:=Aj HE.out.m.box
     obtain⟨f0,f1,f2,f3,f4,f5,f6,f7,f8,f9,f10,f11,f12,f13,ff,fs⟩:=Aa HE.out.fb
     unfold Ac at hoz
     rw[HJ.out] at f9
     clear m hns hM hf r
     go_enter Tryz.func168,Tryz.ntmps168
     go_wp2_with fail
     rw[<- hof,<- hoz]
     generalize (w.alloc of).alloc oz=W0 at *
     subst hof hoz
     have cB:∀ (d:Nat) (os:Array Obj),Calls Tryz.prog 111 #[.agg #[Y (some ⟨gS,0,none⟩) M.slots.length cS,Y aH M.heads.length cH,Y aF M.free.length cF,Y aL M.locks.length cL,O J M.now],O J (j:Int)] (grow (redrawn W0 d) os) fun e w''=>e=.returned (.bool true)/\∃ p:Regrown,w''=grow (redrawn W0 p.d) p.os:=fun d os=>Calls.regrown_of (HHs.out _)
     have Q0:=cell_regrown q0;have Q1:=cell_regrown q1;have Q2:=cell_regrown q2;have Q3:=cell_regrown q3;have Q4:=cell_regrown q4
     have F9:=cell_regrown f9
     clear q0 q1 q2 q3 q4 qs f0 f1 f2 f3 f4 f5 f6 f7 f8 f9 f10 f11 f12 f13 ff fs
     refine wp_region_quiet_below (by kernel_rfl) (by kernel_rfl) ?_
     repeat (quiet_step (first|exact cB _ _))
     refine wpQuiet_nil ?_
     intro _ hw'
     obtain⟨⟨dq,osq⟩,hw''⟩:=hw'
     subst hw''
     have HB1:Hid _:=below_regrown W0 dq osq
     generalize grow (redrawn W0 dq) osq=w1 at *
     clear cB Q0 Q1 Q2 Q3 Q4 F9
     have HE1:Hid (Lk Xb w w1 B lo (some ⟨gS,0,none⟩) aH aF aL cS cH cF cL M f aK cK):=HE.out.below HB1.out
     clear HB1 HE
     obtain⟨q0,q1,q2,q3,q4,-,-,-,-,-,qs⟩:=Aj HE1.out.m.box
     obtain⟨f0,f1,f2,f3,f4,f5,f6,f7,f8,f9,f10,f11,f12,f13,ff,fs⟩:=Aa HE1.out.fb
     rw[HJ.out] at f9
     obtain⟨x0,x1,x2,x3,x4,x5,xf⟩:=HX.out w1 HE1.out.m
     have xs:gS<w1.heap.size:=cell_lt x0
     go_wp2_with fail
     go_region
     all_goals
      go_wp2_with fail
      go_quiet (fail)
      go_wp2_with fail
      rw[<- HJ.out]
      have hb3:=Ad w1 (.cells #[O J s.refs,O J s.a,O J s.b,O J s.unt,.bool true,O J s.next] 64)
      have HE4:Hid (Lk Xb w ((w1.alloc (.cells #[O J s.refs,O J s.a,O J s.b,O J s.unt,.bool true,O J s.next] 64)).drewN (1+nq)) B lo (some ⟨gS,0,none⟩) aH aF aL cS cH cF cL M f aK cK):=HE1.out.below ⟨hb3.os,hb3.tape,hb3.output,hb3.size,hb3.block⟩
      clear HE1 hb3
      refine(Cc f 6 aK cK _).mono ?_
      rintro e w9 ⟨rfl,hb9⟩
      have HE9:Hid (Lk Xb w w9 B lo (some ⟨gS,0,none⟩) aH aF aL cS cH cF cL M f aK cK):=HE4.out.below hb9
      clear HE4 hb9
      clear q0 q1 q2 q3 q4 qs f0 f1 f2 f3 f4 f5 f6 f7 f8 f9 f10 f11 f12 f13 ff fs
      obtain⟨g0,g1,g2,g3,g4,g5,g6,g7,g8,g9,g10,g11,g12,g13,gf,gs⟩:=Aa HE9.out.zb
      go_wp2
      refine bodyPost_ret (v:=.agg #[O J (toF f 6).c.kind,O J (toF f 6).c.a,O J (toF f 6).c.b,O J (toF f 6).c.time,O J (toF f 6).c.bk,O J (toF f 6).c.slot,O J (toF f 6).pl,O J (toF f 6).cur,O J (toF f 6).prev,O J (toF f 6).slot,O J (toF f 6).n,Y aK (toF f 6).keys.length cK,.bool (toF f 6).done,O J (toF f 6).e]) (by simp[results,Tryz.results168,go_sem,toF,g0,g1,g2,g3,g4,g5,g6,g7,g8,g9,g10,g11,g12,g13]) rfl ⟨⟨aK,cK,rfl,HR.out.below (Gj HE9.out.bl),(fun ad h=>.inl h),fun _=>⟨rfl,rfl⟩⟩,Gj HE9.out.bl⟩
end
end Go.Proofs.YthhgoenomehobaaGreat.mm
