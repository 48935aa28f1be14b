/- Parts. -/
import Derived.Test.YthhgoenomehobaaGreatS08
import Derived.Deep.QuietTactic
import Derived.BigQuiet
import Derived.Lib.QuietBelow
import Derived.Test.YthhgoenomehobaaGreatS09
import Derived.Test.YthhgoenomehobaaGreatS06
namespace Go.Proofs.YthhgoenomehobaaGreat.mm
set_option maxRecDepth 100000
set_option linter.unusedVariables false
open Go.Value renaming int → O, slice → Y
open Go.IntKind renaming i64 → J
section
open Go.ChangeShapes Go.WideShapes Go.ChangeAt Go.RowKit Go.Joins Go.Deep Go.Sort
variable {Xb:Ex}
def Dh(M:Mm)(f:Fr):Fr:=if Be M f.slot then { f with slot:=-1 } else f
set_option maxHeartbeats 3200000 in
theorem Ir(M:Mm)(f:Fr)(B lo:Nat)(aS aH aF aL:Option Addr)(cS cH cF cL:Nat)(aK:Option Addr)(cK:Nat)(w:World)
  (m:Mine Xb w B lo aS aH aF aL cS cH cF cL M) (hM:Ok M) :
  Calls Tryz.prog 202 #[.pointer (some ⟨B,0,none⟩),.agg #[O J f.c.kind,O J f.c.a,O J f.c.b,O J f.c.time,O J f.c.bk,O J f.c.slot,O J f.pl,O J f.cur,O J f.prev,O J f.slot,O J f.n,Y aK f.keys.length cK,.bool f.done,O J f.e]] w fun e w'=>e=.returned (.tuple #[.agg #[O J (Dh M f).c.kind,O J (Dh M f).c.a,O J (Dh M f).c.b,O J (Dh M f).c.time,O J (Dh M f).c.bk,O J (Dh M f).c.slot,O J (Dh M f).pl,O J (Dh M f).cur,O J (Dh M f).prev,O J (Dh M f).slot,O J (Dh M f).n,Y aK (Dh M f).keys.length cK,.bool (Dh M f).done,O J (Dh M f).e],.bool (Be M f.slot)])/\Has Xb w' B lo (Up w (A8 B aS aH aF aL)) (D8 M f)/\Fine w w' (A8 B aS aH aF aL):=by
 have hns:=hM.ns
 have HHs:Hid (∀ W:World,Calls Tryz.prog 111 #[.agg #[Y aS M.slots.length cS,Y aH M.heads.length cH,Y aF M.free.length cF,Y aL M.locks.length cL,O J M.now],O J f.slot] W fun e w'=>e=.returned (.bool (Be M f.slot))/\Below W.heap.size W w'):=fun W=>Fz aS aH aF aL _ _ _ _ cS cH cF cL M.now f.slot W (by omega)
 cases hsl:Be M f.slot
 ·have hres:Dh M f=f:=by unfold Dh;rw[hsl];rfl
  have hresM:D8 M f=M:=by unfold D8;rw[hsl];rfl
  rw[hres,hresM]
  rw[hsl] at HHs
  obtain⟨of,hof⟩:=frObj f aK cK
  obtain⟨oz,hoz⟩:∃ o:Obj,o=Ac:=⟨_,rfl⟩
  have HE:Hid (Lk Xb w ((w.alloc of).alloc oz) B lo aS aH aF aL cS cH cF cL M f aK cK):=Lk.first m f aK cK hof hoz
  obtain⟨q0,q1,q2,q3,q4,-,-,-,-,-,qs⟩:=Aj HE.out.m.box
  obtain⟨f0,f1,f2,f3,f4,f5,f6,f7,f8,f9,f10,f11,f12,f13,ff,fs⟩:=Aa HE.out.fb
  unfold Ac at hoz
  clear m hres hresM hsl hns hM
  go_enter Tryz.func202,Tryz.ntmps202
  go_wp2_with fail
  rw[<- hof,<- hoz]
  generalize (w.alloc of).alloc oz=W0 at *
  subst hof hoz
  have cB:∀ (d:Nat) (os:Array Obj),Calls Tryz.prog 111 #[.agg #[Y aS M.slots.length cS,Y aH M.heads.length cH,Y aF M.free.length cF,Y aL M.locks.length cL,O J M.now],O J f.slot] (grow (redrawn W0 d) os) fun e w''=>e=.returned (.bool false)/\∃ p:Regrown,w''=grow (redrawn W0 p.d) p.os:=fun d os=>Calls.regrown_of (HHs.out _)
  have Q0:=cell_regrown q0;have Q1:=cell_regrown q1;have Q2:=cell_regrown q2;have Q3:=cell_regrown q3;have Q4:=cell_regrown q4
  have F9:=cell_regrown f9
  clear q0 q1 q2 q3 q4 qs f0 f1 f2 f3 f4 f5 f6 f7 f8 f9 f10 f11 f12 f13 ff fs
  refine wp_region_quiet_below (by kernel_rfl) (by kernel_rfl) ?_
  repeat (quiet_step (first|exact cB _ _))
  refine wpQuiet_nil ?_
  intro _ hw'
  obtain⟨⟨dq,osq⟩,hw''⟩:=hw'
  subst hw''
  have HB1:Hid _:=below_regrown W0 dq osq
  generalize grow (redrawn W0 dq) osq=w1 at *
  clear cB Q0 Q1 Q2 Q3 Q4 F9
  have HE1:Hid (Lk Xb w w1 B lo aS aH aF aL cS cH cF cL M f aK cK):=HE.out.below HB1.out
  clear HB1 HE
  obtain⟨q0,q1,q2,q3,q4,-,-,-,-,-,qs⟩:=Aj HE1.out.m.box
  obtain⟨f0,f1,f2,f3,f4,f5,f6,f7,f8,f9,f10,f11,f12,f13,ff,fs⟩:=Aa HE1.out.fb
  obtain⟨g0,g1,g2,g3,g4,g5,g6,g7,g8,g9,g10,g11,g12,g13,gf,gs⟩:=Aa HE1.out.zb
  go_wp2
  refine bodyPost_ret (v:=.tuple #[.agg #[O J f.c.kind,O J f.c.a,O J f.c.b,O J f.c.time,O J f.c.bk,O J f.c.slot,O J f.pl,O J f.cur,O J f.prev,O J f.slot,O J f.n,Y aK f.keys.length cK,.bool f.done,O J f.e],.bool false]) (by simp[results,Tryz.results202,go_sem,g0,g1,g2,g3,g4,g5,g6,g7,g8,g9,g10,g11,g12,g13]) rfl ⟨rfl,HE1.out.Ah⟩
 ·have hres:Dh M f = { f with slot:=-1 }:=by unfold Dh;rw[hsl];rfl
  have hresM:D8 M f=Ec M f.slot:=by unfold D8;rw[hsl];rfl
  rw[hres,hresM]
  have HPt:Hid (∀ (W:World) (Z:Nat->Prop),Has Xb W B lo Z M->Calls Tryz.prog 197 #[.pointer (some ⟨B,0,none⟩),O J f.slot] W fun e w'=>e=.returned (.bool (decide (Ap M f.slot≠0)))/\Has Xb w' B lo (Up W Z) (Ec M f.slot)/\Fine W w' Z):=fun W Z h=>a1l h hM hsl
  generalize Ec M f.slot=M' at *
  generalize decide (Ap M f.slot≠0)=pr at *
  rw[hsl] at HHs
  obtain⟨of,hof⟩:=frObj f aK cK
  obtain⟨oz,hoz⟩:∃ o:Obj,o=Ac:=⟨_,rfl⟩
  have HE:Hid (Lk Xb w ((w.alloc of).alloc oz) B lo aS aH aF aL cS cH cF cL M f aK cK):=Lk.first m f aK cK hof hoz
  obtain⟨q0,q1,q2,q3,q4,-,-,-,-,-,qs⟩:=Aj HE.out.m.box
  obtain⟨f0,f1,f2,f3,f4,f5,f6,f7,f8,f9,f10,f11,f12,f13,ff,fs⟩:=Aa HE.out.fb
  unfold Ac at hoz
  clear m hres hresM hsl hns hM
  go_enter Tryz.func202,Tryz.ntmps202
  go_wp2_with fail
  rw[<- hof,<- hoz]
  generalize (w.alloc of).alloc oz=W0 at *
  subst hof hoz
  have cB:∀ (d:Nat) (os:Array Obj),Calls Tryz.prog 111 #[.agg #[Y aS M.slots.length cS,Y aH M.heads.length cH,Y aF M.free.length cF,Y aL M.locks.length cL,O J M.now],O J f.slot] (grow (redrawn W0 d) os) fun e w''=>e=.returned (.bool true)/\∃ p:Regrown,w''=grow (redrawn W0 p.d) p.os:=fun d os=>Calls.regrown_of (HHs.out _)
  have Q0:=cell_regrown q0;have Q1:=cell_regrown q1;have Q2:=cell_regrown q2;have Q3:=cell_regrown q3;have Q4:=cell_regrown q4
  have F9:=cell_regrown f9
  clear q0 q1 q2 q3 q4 qs f0 f1 f2 f3 f4 f5 f6 f7 f8 f9 f10 f11 f12 f13 ff fs
  refine wp_region_quiet_below (by kernel_rfl) (by kernel_rfl) ?_
  repeat (quiet_step (first|exact cB _ _))
  refine wpQuiet_nil ?_
  intro _ hw'
  obtain⟨⟨dq,osq⟩,hw''⟩:=hw'
  subst hw''
  have HB1:Hid _:=below_regrown W0 dq osq
  generalize grow (redrawn W0 dq) osq=w1 at *
  clear cB Q0 Q1 Q2 Q3 Q4 F9
  have HE1:Hid (Lk Xb w w1 B lo aS aH aF aL cS cH cF cL M f aK cK):=HE.out.below HB1.out
  clear HB1 HE
  obtain⟨q0,q1,q2,q3,q4,-,-,-,-,-,qs⟩:=Aj HE1.out.m.box
  obtain⟨f0,f1,f2,f3,f4,f5,f6,f7,f8,f9,f10,f11,f12,f13,ff,fs⟩:=Aa HE1.out.fb
  go_wp2_with fail
  refine(HPt.out w1 (A8 B aS aH aF aL) ⟨_,_,_,_,_,_,_,_,HE1.out.m,fun _ h=>h⟩).mono ?_
  rintro e w2 ⟨rfl,hh2,hf2⟩
  have HE2:Hid (Lk2 Xb w w2 (A8 B aS aH aF aL) B lo M' f aK cK):=HE1.out.after hh2 hf2
  clear HE1 hh2 hf2
  clear q0 q1 q2 q3 q4 qs f0 f1 f2 f3 f4 f5 f6 f7 f8 f9 f10 f11 f12 f13 ff fs
  obtain⟨f0,f1,f2,f3,f4,f5,f6,f7,f8,f9,f10,f11,f12,f13,ff,fs⟩:=Aa HE2.out.fb
  obtain⟨g0,g1,g2,g3,g4,g5,g6,g7,g8,g9,g10,g11,g12,g13,gf,gs⟩:=Aa HE2.out.zb
  have HE3:Hid (Lk2 Xb w (w2.setCell ⟨w.heap.size,9,none⟩ (O J (-1))) (A8 B aS aH aF aL) B lo M' { f with slot:=-1 } aK cK):=HE2.out.store 9 (O J (-1)) { f with slot:=-1 } rfl
  clear HE2
  go_wp2
  refine bodyPost_ret (v:=.tuple #[.agg #[O J ({ f with slot:=-1 }).c.kind,O J ({ f with slot:=-1 }).c.a,O J ({ f with slot:=-1 }).c.b,O J ({ f with slot:=-1 }).c.time,O J ({ f with slot:=-1 }).c.bk,O J ({ f with slot:=-1 }).c.slot,O J ({ f with slot:=-1 }).pl,O J ({ f with slot:=-1 }).cur,O J ({ f with slot:=-1 }).prev,O J ({ f with slot:=-1 }).slot,O J ({ f with slot:=-1 }).n,Y aK ({ f with slot:=-1 }).keys.length cK,.bool ({ f with slot:=-1 }).done,O J ({ f with slot:=-1 }).e],.bool true]) (by simp[results,Tryz.results202,go_sem,g0,g1,g2,g3,g4,g5,g6,g7,g8,g9,g10,g11,g12,g13]) rfl ⟨rfl,HE3.out.Ah⟩
theorem Lk2.all{w w1:World}{Z:Nat->Prop}{B lo:Nat}{M:Mm}{f:Fr}{aK:Option Addr}{cK:Nat}(h:Lk2 Xb w w1 Z B lo M f aK cK)(g:Fr) :
  Lk2 Xb w ((((((((((((((w1.setCell ⟨w.heap.size,0,none⟩ (O J g.c.kind)).setCell ⟨w.heap.size,1,none⟩ (O J g.c.a)).setCell ⟨w.heap.size,2,none⟩ (O J g.c.b)).setCell ⟨w.heap.size,3,none⟩ (O J g.c.time)).setCell ⟨w.heap.size,4,none⟩ (O J g.c.bk)).setCell ⟨w.heap.size,5,none⟩ (O J g.c.slot)).setCell ⟨w.heap.size,6,none⟩ (O J g.pl)).setCell ⟨w.heap.size,7,none⟩ (O J g.cur)).setCell ⟨w.heap.size,8,none⟩ (O J g.prev)).setCell ⟨w.heap.size,9,none⟩ (O J g.slot)).setCell ⟨w.heap.size,10,none⟩ (O J g.n)).setCell ⟨w.heap.size,11,none⟩ (Y aK g.keys.length cK)).setCell ⟨w.heap.size,12,none⟩ (.bool g.done)).setCell ⟨w.heap.size,13,none⟩ (O J g.e)) Z B lo M g aK cK :=
 ((((((((((((((h).store 0 (O J g.c.kind) ⟨⟨g.c.kind,f.c.a,f.c.b,f.c.time,f.c.bk,f.c.slot⟩,f.pl,f.cur,f.prev,f.slot,f.n,f.keys,f.done,f.e⟩ rfl).store 1 (O J g.c.a) ⟨⟨g.c.kind,g.c.a,f.c.b,f.c.time,f.c.bk,f.c.slot⟩,f.pl,f.cur,f.prev,f.slot,f.n,f.keys,f.done,f.e⟩ rfl).store 2 (O J g.c.b) ⟨⟨g.c.kind,g.c.a,g.c.b,f.c.time,f.c.bk,f.c.slot⟩,f.pl,f.cur,f.prev,f.slot,f.n,f.keys,f.done,f.e⟩ rfl).store 3 (O J g.c.time) ⟨⟨g.c.kind,g.c.a,g.c.b,g.c.time,f.c.bk,f.c.slot⟩,f.pl,f.cur,f.prev,f.slot,f.n,f.keys,f.done,f.e⟩ rfl).store 4 (O J g.c.bk) ⟨⟨g.c.kind,g.c.a,g.c.b,g.c.time,g.c.bk,f.c.slot⟩,f.pl,f.cur,f.prev,f.slot,f.n,f.keys,f.done,f.e⟩ rfl).store 5 (O J g.c.slot) ⟨⟨g.c.kind,g.c.a,g.c.b,g.c.time,g.c.bk,g.c.slot⟩,f.pl,f.cur,f.prev,f.slot,f.n,f.keys,f.done,f.e⟩ rfl).store 6 (O J g.pl) ⟨⟨g.c.kind,g.c.a,g.c.b,g.c.time,g.c.bk,g.c.slot⟩,g.pl,f.cur,f.prev,f.slot,f.n,f.keys,f.done,f.e⟩ rfl).store 7 (O J g.cur) ⟨⟨g.c.kind,g.c.a,g.c.b,g.c.time,g.c.bk,g.c.slot⟩,g.pl,g.cur,f.prev,f.slot,f.n,f.keys,f.done,f.e⟩ rfl).store 8 (O J g.prev) ⟨⟨g.c.kind,g.c.a,g.c.b,g.c.time,g.c.bk,g.c.slot⟩,g.pl,g.cur,g.prev,f.slot,f.n,f.keys,f.done,f.e⟩ rfl).store 9 (O J g.slot) ⟨⟨g.c.kind,g.c.a,g.c.b,g.c.time,g.c.bk,g.c.slot⟩,g.pl,g.cur,g.prev,g.slot,f.n,f.keys,f.done,f.e⟩ rfl).store 10 (O J g.n) ⟨⟨g.c.kind,g.c.a,g.c.b,g.c.time,g.c.bk,g.c.slot⟩,g.pl,g.cur,g.prev,g.slot,g.n,f.keys,f.done,f.e⟩ rfl).store 11 (Y aK g.keys.length cK) ⟨⟨g.c.kind,g.c.a,g.c.b,g.c.time,g.c.bk,g.c.slot⟩,g.pl,g.cur,g.prev,g.slot,g.n,g.keys,f.done,f.e⟩ rfl).store 12 (.bool g.done) ⟨⟨g.c.kind,g.c.a,g.c.b,g.c.time,g.c.bk,g.c.slot⟩,g.pl,g.cur,g.prev,g.slot,g.n,g.keys,g.done,f.e⟩ rfl).store 13 (O J g.e) ⟨⟨g.c.kind,g.c.a,g.c.b,g.c.time,g.c.bk,g.c.slot⟩,g.pl,g.cur,g.prev,g.slot,g.n,g.keys,g.done,g.e⟩ rfl
set_option maxHeartbeats 3200000 in
theorem a4d(M:Mm)(f:Fr)(B lo:Nat)(aS aH aF aL:Option Addr)(cS cH cF cL:Nat)(aK:Option Addr)(cK:Nat)(w:World)
  (m:Mine Xb w B lo aS aH aF aL cS cH cF cL M) (hM:Ok M) (r:Ag w aK cK f.keys) (hz:∀ ad,aK=some ad->¬ A8 B aS aH aF aL ad.block) :
  Calls Tryz.prog 169 #[.pointer (some ⟨B,0,none⟩),.agg #[O J f.c.kind,O J f.c.a,O J f.c.b,O J f.c.time,O J f.c.bk,O J f.c.slot,O J f.pl,O J f.cur,O J f.prev,O J f.slot,O J f.n,Y aK f.keys.length cK,.bool f.done,O J f.e]] w fun e w'=>Ret w w' e (Kr M f) aK cK/\Has Xb w' B lo (Up w (A8 B aS aH aF aL)) (D8 M f)/\Fine w w' (A8 B aS aH aF aL):=by
 have HR:Hid (Ag w aK cK f.keys):=r
 have HZ:Hid (∀ ad,aK=some ad->¬ A8 B aS aH aF aL ad.block):=hz
 have hres:Kr M f=toF (Dh M f) 0:=by unfold Kr Dh;split <;> rfl
 have hkeys:(Dh M f).keys=f.keys:=by unfold Dh;split <;> rfl
 have HLt:Hid (∀ (W:World),Mine Xb W B lo aS aH aF aL cS cH cF cL M->Calls Tryz.prog 202 #[.pointer (some ⟨B,0,none⟩),.agg #[O J f.c.kind,O J f.c.a,O J f.c.b,O J f.c.time,O J f.c.bk,O J f.c.slot,O J f.pl,O J f.cur,O J f.prev,O J f.slot,O J f.n,Y aK f.keys.length cK,.bool f.done,O J f.e]] W fun e w'=>e=.returned (.tuple #[.agg #[O J (Dh M f).c.kind,O J (Dh M f).c.a,O J (Dh M f).c.b,O J (Dh M f).c.time,O J (Dh M f).c.bk,O J (Dh M f).c.slot,O J (Dh M f).pl,O J (Dh M f).cur,O J (Dh M f).prev,O J (Dh M f).slot,O J (Dh M f).n,Y aK (Dh M f).keys.length cK,.bool (Dh M f).done,O J (Dh M f).e],.bool (Be M f.slot)])/\Has Xb w' B lo (Up W (A8 B aS aH aF aL)) (D8 M f)/\Fine W w' (A8 B aS aH aF aL)):=fun W m'=>Ir M f B lo aS aH aF aL cS cH cF cL aK cK W m' hM
 rw[hres]
 rw[<- hkeys] at HR
 generalize D8 M f=M' at *
 generalize Be M f.slot=had at *
 generalize Dh M f=g at *
 obtain⟨of,hof⟩:=frObj f aK cK
 obtain⟨oz,hoz⟩:∃ o:Obj,o=Ac:=⟨_,rfl⟩
 have HE:Hid (Lk Xb w ((w.alloc of).alloc oz) B lo aS aH aF aL cS cH cF cL M f aK cK):=Lk.first m f aK cK hof hoz
 obtain⟨q0,q1,q2,q3,q4,-,-,-,-,-,qs⟩:=Aj HE.out.m.box
 obtain⟨f0,f1,f2,f3,f4,f5,f6,f7,f8,f9,f10,f11,f12,f13,ff,fs⟩:=Aa HE.out.fb
 unfold Ac at hoz
 clear m hres hkeys hM r hz
 go_enter Tryz.func169,Tryz.ntmps169
 go_wp2_with fail
 rw[<- hof,<- hoz]
 generalize (w.alloc of).alloc oz=W0 at *
 subst hof hoz
 refine(HLt.out W0 HE.out.m).mono ?_
 rintro e w2 ⟨rfl,hh2,hf2⟩
 have HE2:Hid (Lk2 Xb w w2 (A8 B aS aH aF aL) B lo M' f aK cK):=HE.out.after hh2 hf2
 clear HE hh2 hf2
 clear q0 q1 q2 q3 q4 qs f0 f1 f2 f3 f4 f5 f6 f7 f8 f9 f10 f11 f12 f13 ff fs
 obtain⟨f0,f1,f2,f3,f4,f5,f6,f7,f8,f9,f10,f11,f12,f13,ff,fs⟩:=Aa HE2.out.fb
 go_wp2_with fail
 have HE3:Hid (Lk2 Xb w _ (A8 B aS aH aF aL) B lo M' g aK cK):=HE2.out.all g
 clear HE2
 refine(Cc g 0 aK cK _).mono ?_
 rintro e w9 ⟨rfl,hb9⟩
 have HE9:Hid (Lk2 Xb w w9 (A8 B aS aH aF aL) B lo M' g aK cK):=HE3.out.below hb9
 clear HE3 hb9
 clear f0 f1 f2 f3 f4 f5 f6 f7 f8 f9 f10 f11 f12 f13 ff fs
 obtain⟨g0,g1,g2,g3,g4,g5,g6,g7,g8,g9,g10,g11,g12,g13,gf,gs⟩:=Aa HE9.out.zb
 go_wp2
 refine bodyPost_ret (v:=.agg #[O J (toF g 0).c.kind,O J (toF g 0).c.a,O J (toF g 0).c.b,O J (toF g 0).c.time,O J (toF g 0).c.bk,O J (toF g 0).c.slot,O J (toF g 0).pl,O J (toF g 0).cur,O J (toF g 0).prev,O J (toF g 0).slot,O J (toF g 0).n,Y aK (toF g 0).keys.length cK,.bool (toF g 0).done,O J (toF g 0).e]) (by simp[results,Tryz.results169,go_sem,toF,g0,g1,g2,g3,g4,g5,g6,g7,g8,g9,g10,g11,g12,g13]) rfl ⟨⟨aK,cK,rfl,HR.out.fine HE9.out.Ah.2 HZ.out,(fun ad h=>.inl h),fun _=>⟨rfl,rfl⟩⟩,HE9.out.Ah⟩
set_option maxHeartbeats 3200000 in
theorem a7y(M:Mm)(f:Fr)(B lo:Nat)(aS aH aF aL:Option Addr)(cS cH cF cL:Nat)(aK:Option Addr)(cK:Nat)(w:World)
  (m:Mine Xb w B lo aS aH aF aL cS cH cF cL M) (hM:Ok M) (r:Ag w aK cK f.keys) (hz:∀ ad,aK=some ad->¬ A8 B aS aH aF aL ad.block) :
  Calls Tryz.prog 170 #[.pointer (some ⟨B,0,none⟩),.agg #[O J f.c.kind,O J f.c.a,O J f.c.b,O J f.c.time,O J f.c.bk,O J f.c.slot,O J f.pl,O J f.cur,O J f.prev,O J f.slot,O J f.n,Y aK f.keys.length cK,.bool f.done,O J f.e]] w fun e w'=>Ret w w' e (Nj M f) aK cK/\Has Xb w' B lo (Up w (A8 B aS aH aF aL)) (D8 M f)/\Fine w w' (A8 B aS aH aF aL):=by
 have HR:Hid (Ag w aK cK f.keys):=r
 have HZ:Hid (∀ ad,aK=some ad->¬ A8 B aS aH aF aL ad.block):=hz
 have hres:Nj M f=if Be M f.slot then Af (Dh M f) 5 else toF (Dh M f) 0:=by unfold Nj Dh;split <;> rfl
 have hkeys:(Dh M f).keys=f.keys:=by unfold Dh;split <;> rfl
 have HLt:Hid (∀ (W:World),Mine Xb W B lo aS aH aF aL cS cH cF cL M->Calls Tryz.prog 202 #[.pointer (some ⟨B,0,none⟩),.agg #[O J f.c.kind,O J f.c.a,O J f.c.b,O J f.c.time,O J f.c.bk,O J f.c.slot,O J f.pl,O J f.cur,O J f.prev,O J f.slot,O J f.n,Y aK f.keys.length cK,.bool f.done,O J f.e]] W fun e w'=>e=.returned (.tuple #[.agg #[O J (Dh M f).c.kind,O J (Dh M f).c.a,O J (Dh M f).c.b,O J (Dh M f).c.time,O J (Dh M f).c.bk,O J (Dh M f).c.slot,O J (Dh M f).pl,O J (Dh M f).cur,O J (Dh M f).prev,O J (Dh M f).slot,O J (Dh M f).n,Y aK (Dh M f).keys.length cK,.bool (Dh M f).done,O J (Dh M f).e],.bool (Be M f.slot)])/\Has Xb w' B lo (Up W (A8 B aS aH aF aL)) (D8 M f)/\Fine W w' (A8 B aS aH aF aL)):=fun W m'=>Ir M f B lo aS aH aF aL cS cH cF cL aK cK W m' hM
 rw[hres]
 rw[<- hkeys] at HR
 generalize D8 M f=M' at *
 generalize Be M f.slot=had at *
 generalize Dh M f=g at *
 cases had
 ·show Calls Tryz.prog 170 _ w fun e w'=>Ret w w' e (toF g 0) aK cK/\Has Xb w' B lo (Up w (A8 B aS aH aF aL)) M'/\Fine w w' (A8 B aS aH aF aL)
  obtain⟨of,hof⟩:=frObj f aK cK
  obtain⟨oz,hoz⟩:∃ o:Obj,o=Ac:=⟨_,rfl⟩
  have HE:Hid (Lk Xb w ((w.alloc of).alloc oz) B lo aS aH aF aL cS cH cF cL M f aK cK):=Lk.first m f aK cK hof hoz
  obtain⟨q0,q1,q2,q3,q4,-,-,-,-,-,qs⟩:=Aj HE.out.m.box
  obtain⟨f0,f1,f2,f3,f4,f5,f6,f7,f8,f9,f10,f11,f12,f13,ff,fs⟩:=Aa HE.out.fb
  unfold Ac at hoz
  clear m hres hkeys hM r hz
  go_enter Tryz.func170,Tryz.ntmps170
  go_wp2_with fail
  rw[<- hof,<- hoz]
  generalize (w.alloc of).alloc oz=W0 at *
  subst hof hoz
  refine(HLt.out W0 HE.out.m).mono ?_
  rintro e w2 ⟨rfl,hh2,hf2⟩
  have HE2:Hid (Lk2 Xb w w2 (A8 B aS aH aF aL) B lo M' f aK cK):=HE.out.after hh2 hf2
  clear HE hh2 hf2
  clear q0 q1 q2 q3 q4 qs f0 f1 f2 f3 f4 f5 f6 f7 f8 f9 f10 f11 f12 f13 ff fs
  obtain⟨f0,f1,f2,f3,f4,f5,f6,f7,f8,f9,f10,f11,f12,f13,ff,fs⟩:=Aa HE2.out.fb
  go_wp2_with fail
  have HE3:Hid (Lk2 Xb w _ (A8 B aS aH aF aL) B lo M' g aK cK):=HE2.out.all g
  clear HE2
  refine(Cc g 0 aK cK _).mono ?_
  rintro e w9 ⟨rfl,hb9⟩
  have HE9:Hid (Lk2 Xb w w9 (A8 B aS aH aF aL) B lo M' g aK cK):=HE3.out.below hb9
  clear HE3 hb9
  clear f0 f1 f2 f3 f4 f5 f6 f7 f8 f9 f10 f11 f12 f13 ff fs
  obtain⟨g0,g1,g2,g3,g4,g5,g6,g7,g8,g9,g10,g11,g12,g13,gf,gs⟩:=Aa HE9.out.zb
  go_wp2
  refine bodyPost_ret (v:=.agg #[O J (toF g 0).c.kind,O J (toF g 0).c.a,O J (toF g 0).c.b,O J (toF g 0).c.time,O J (toF g 0).c.bk,O J (toF g 0).c.slot,O J (toF g 0).pl,O J (toF g 0).cur,O J (toF g 0).prev,O J (toF g 0).slot,O J (toF g 0).n,Y aK (toF g 0).keys.length cK,.bool (toF g 0).done,O J (toF g 0).e]) (by simp[results,Tryz.results170,go_sem,toF,g0,g1,g2,g3,g4,g5,g6,g7,g8,g9,g10,g11,g12,g13]) rfl ⟨⟨aK,cK,rfl,HR.out.fine HE9.out.Ah.2 HZ.out,(fun ad h=>.inl h),fun _=>⟨rfl,rfl⟩⟩,HE9.out.Ah⟩
 ·show Calls Tryz.prog 170 _ w fun e w'=>Ret w w' e (Af g 5) aK cK/\Has Xb w' B lo (Up w (A8 B aS aH aF aL)) M'/\Fine w w' (A8 B aS aH aF aL)
  obtain⟨of,hof⟩:=frObj f aK cK
  obtain⟨oz,hoz⟩:∃ o:Obj,o=Ac:=⟨_,rfl⟩
  have HE:Hid (Lk Xb w ((w.alloc of).alloc oz) B lo aS aH aF aL cS cH cF cL M f aK cK):=Lk.first m f aK cK hof hoz
  obtain⟨q0,q1,q2,q3,q4,-,-,-,-,-,qs⟩:=Aj HE.out.m.box
  obtain⟨f0,f1,f2,f3,f4,f5,f6,f7,f8,f9,f10,f11,f12,f13,ff,fs⟩:=Aa HE.out.fb
  unfold Ac at hoz
  clear m hres hkeys hM r hz
  go_enter Tryz.func170,Tryz.ntmps170
  go_wp2_with fail
  rw[<- hof,<- hoz]
  generalize (w.alloc of).alloc oz=W0 at *
  subst hof hoz
  refine(HLt.out W0 HE.out.m).mono ?_
  rintro e w2 ⟨rfl,hh2,hf2⟩
  have HE2:Hid (Lk2 Xb w w2 (A8 B aS aH aF aL) B lo M' f aK cK):=HE.out.after hh2 hf2
  clear HE hh2 hf2
  clear q0 q1 q2 q3 q4 qs f0 f1 f2 f3 f4 f5 f6 f7 f8 f9 f10 f11 f12 f13 ff fs
  obtain⟨f0,f1,f2,f3,f4,f5,f6,f7,f8,f9,f10,f11,f12,f13,ff,fs⟩:=Aa HE2.out.fb
  go_wp2_with fail
  have HE3:Hid (Lk2 Xb w _ (A8 B aS aH aF aL) B lo M' g aK cK):=HE2.out.all g
  clear HE2
  refine(Np g 5 aK cK _ (HR.out.fine HE3.out.fine HZ.out)).mono ?_
  rintro e w9 ⟨a9,c9,rfl,hr9,hi9,hb9⟩
  have HK9:Hid (Ag w9 a9 c9 g.keys/\∀ ad,a9=some ad->w.heap.size+2<=ad.block):=⟨hr9,fun ad h=>Nat.le_trans (lt_of_block HE3.out.zb) (hi9 ad h)⟩
  have HE9:Hid (Lk2 Xb w w9 (A8 B aS aH aF aL) B lo M' g aK cK):=HE3.out.below hb9
  clear HE3 hb9 hr9 hi9
  clear f0 f1 f2 f3 f4 f5 f6 f7 f8 f9 f10 f11 f12 f13 ff fs
  obtain⟨g0,g1,g2,g3,g4,g5,g6,g7,g8,g9,g10,g11,g12,g13,gf,gs⟩:=Aa HE9.out.zb
  go_wp2
  refine bodyPost_ret (v:=.agg #[O J (Af g 5).c.kind,O J (Af g 5).c.a,O J (Af g 5).c.b,O J (Af g 5).c.time,O J (Af g 5).c.bk,O J (Af g 5).c.slot,O J (Af g 5).pl,O J (Af g 5).cur,O J (Af g 5).prev,O J (Af g 5).slot,O J (Af g 5).n,Y a9 (Af g 5).keys.length c9,.bool (Af g 5).done,O J (Af g 5).e]) (by simp[results,Tryz.results170,go_sem,Af,g0,g1,g2,g3,g4,g5,g6,g7,g8,g9,g10,g11,g12,g13]) rfl ⟨⟨a9,c9,rfl,Ua HK9.out.1 HK9.out.2,(fun ad h=>.inr (by have:=HK9.out.2 ad h;omega)),fun h=>by cases h⟩,HE9.out.Ah⟩
end
section
open Go.ChangeShapes Go.WideShapes Go.ChangeAt Go.RowKit Go.Joins
variable {Xb:Ex}
theorem Ez{w w1:World}{n:Nat}{a aK:Option Addr}{c cK:Nat}{l:List (Int × Int)}{v0 v1 v2 v3 v4 v5 v6 v7 v8 v9 v10 v11 v12 v13:Value}(hn:n=w.heap.size)(r:Ag w1 a c l)(r0:Ag w aK cK l)(hl:∀ ad,a=some ad->aK=some ad\/n+2<=ad.block) :
  Ag ((((((((((((((w1.setCell ⟨n+1,0,none⟩ v0).setCell ⟨n+1,1,none⟩ v1).setCell ⟨n+1,2,none⟩ v2).setCell ⟨n+1,3,none⟩ v3).setCell ⟨n+1,4,none⟩ v4).setCell ⟨n+1,5,none⟩ v5).setCell ⟨n+1,6,none⟩ v6).setCell ⟨n+1,7,none⟩ v7).setCell ⟨n+1,8,none⟩ v8).setCell ⟨n+1,9,none⟩ v9).setCell ⟨n+1,10,none⟩ v10).setCell ⟨n+1,11,none⟩ v11).setCell ⟨n+1,12,none⟩ v12).setCell ⟨n+1,13,none⟩ v13) a c l:=by
 refine⟨r.le,r.max,r.nil,?_⟩
 by_cases h0:l.length=0
 ·exact .inl h0
 rcases r.at_ with h|⟨b,o,e,hc⟩
 ·exact absurd h h0
 ·refine .inr ⟨b,o,e,fun i hi=>?_⟩
  have hb:b≠n+1:=by
   rcases hl _ e with h|h
   ·rcases r0.at_ with h'|⟨b',o',e',hc'⟩
    ·exact absurd h' h0
    ·have:=cell_lt (hc' 0 (by omega)).1
     rw[h] at e'
     injection e' with e'
     injection e' with e'
     omega
   ·dsimp only at h;omega
  have q:∀ x,(((((((((((((((w1.setCell ⟨n+1,0,none⟩ v0).setCell ⟨n+1,1,none⟩ v1).setCell ⟨n+1,2,none⟩ v2).setCell ⟨n+1,3,none⟩ v3).setCell ⟨n+1,4,none⟩ v4).setCell ⟨n+1,5,none⟩ v5).setCell ⟨n+1,6,none⟩ v6).setCell ⟨n+1,7,none⟩ v7).setCell ⟨n+1,8,none⟩ v8).setCell ⟨n+1,9,none⟩ v9).setCell ⟨n+1,10,none⟩ v10).setCell ⟨n+1,11,none⟩ v11).setCell ⟨n+1,12,none⟩ v12).setCell ⟨n+1,13,none⟩ v13)).cell? ⟨b,x,none⟩=w1.cell? ⟨b,x,none⟩:=fun x=>World.cell?_of_block (a:=⟨b,x,none⟩) (by
   dsimp only
   repeat rw[Below.heap_setCell _ _ _ _ (by dsimp only;exact hb)])
  rw[q,q]
  exact hc i hi
end
end Go.Proofs.YthhgoenomehobaaGreat.mm
