/- Parts. -/
import Derived.Test.YthhgoenomehobaaGreatP23
import Derived.Test.YthhgoenomehobaaGreatP14
import Derived.Test.YthhgoenomehobaaGreatP10
import Derived.Test.YthhgoenomehobaaGreatP08
import Derived.Test.YthhgoenomehobaaGreatP15
namespace Go.Proofs.YthhgoenomehobaaGreat.mm
set_option maxRecDepth 100000
set_option linter.unusedVariables false
open Go.Value renaming int → O, slice → Y
open Go.IntKind renaming i64 → J
open Go.Proofs.Tryz renaming prog → Pg
open Go renaming undef → Uz, World → Wq
open Go.ChangeShapes Go.WideShapes Go.ChangeAt Go.RowKit Go.Joins Go.Deep Go.Sort
set_option maxHeartbeats 3200000
section
variable {Xb:Ex}
def V8(t:Int)(B H b:Nat)(v1 v10 v11 v12 v13 v14 v15:Value):Act:=⟨#[.pointer (some ⟨B,0,none⟩),v1,O J t,Uz,.pointer (some ⟨H,0,none⟩),Uz,.pointer (some ⟨H+1,0,none⟩),O J (b:Int),Uz,Uz,v10,v11,v12,v13,v14,v15,Uz,Uz,Uz,Uz,Uz,Uz,Uz,Uz,Uz,Uz,Uz,Uz,Uz,Uz,Uz,Uz,Uz,Uz,Uz,Uz,Uz,Uz,Uz,Uz,Uz,Uz,Uz,Uz,Uz,Uz,Uz,Uz,Uz,Uz,Uz,Uz,Uz,Uz,Uz,Uz,Uz,Uz,Uz,Uz,Uz,Uz,Uz,Uz,Uz,Uz,Uz,Uz,Uz,Uz,Uz,Uz,Uz,Uz,Uz,Uz,Uz,Uz,Uz,Uz,Uz,Uz,Uz,Uz,Uz,Uz,Uz,Uz,Uz,Uz,Uz,Uz,Uz,Uz,Uz,Uz,Uz,Uz,Uz,Uz,Uz,Uz,Uz,Uz,Uz,Uz,Uz,Uz,Uz,Uz,Uz,Uz,Uz,Uz,Uz,Uz,Uz,Uz,Uz,Uz,Uz,Uz,Uz,Uz,Uz,Uz,Uz,Uz,Uz,Uz,Uz,Uz,Uz,Uz,Uz,Uz,Uz,Uz,Uz,Uz,Uz,Uz,Uz,Uz,Uz,Uz,Uz,Uz,Uz,Uz,Uz,Uz,Uz,Uz,Uz,Uz,Uz,Uz,Uz,Uz,Uz,Uz,Uz,Uz,Uz,Uz,Uz,Uz,Uz,Uz,Uz,Uz,Uz,Uz,Uz,Uz,Uz,Uz,Uz,Uz,Uz,Uz,Uz,Uz,Uz,Uz,Uz,Uz,Uz,Uz],[]⟩
def W74(t:Int)(w w1:Wq)(B b:Nat)(R:Ending->Wq->Prop):Prop :=
 ∀ C,C=Yu (Yu (Tryz.f74.body.getD .skip))->∀ v1 v10 v11 v12 v13 v14 v15,Code.wp Pg C (bodyPost Pg Tryz.f74 R) (V8 t B w.heap.size b v1 v10 v11 v12 v13 v14 v15) w1
theorem a9j(t:Int)(M:Mm)(f:Fr)(B lo:Nat)(aS aH aF aL:Option Addr)(cS cH cF cL:Nat)(aK:Option Addr)(cK:Nat)(w:Wq)
  (m:Mine Xb w B lo aS aH aF aL cS cH cF cL M) (hM:Ok M) (hf:Fit M f) (r:Am w aK cK f.keys) (hz:∀ ad,aK=some ad->¬ Ac B aS aH aF aL ad.block) {R:Ending->Wq->Prop}
  (HR:Hid (∀ (w1:Wq) (b:Nat),LH Xb w w1 B lo aS aH aF aL cS cH cF cL M f aK cK b->W74 t w w1 B b R)) :
  Calls Pg 74 #[.pointer (some ⟨B,0,none⟩),.agg #[O J f.c.kind,O J f.c.a,O J f.c.b,O J f.c.time,O J f.c.bk,O J f.c.slot,O J f.pl,O J f.cur,O J f.prev,O J f.slot,O J f.n,Y aK f.keys.length cK,.bool f.done,O J f.e],O J t] w R:=by
 have hns:=hM.ns
 have hnh:=hM.nh
 obtain⟨b0,b1⟩:0<=Ey M.heads.length f.c/\Ey M.heads.length f.c<M.heads.length:=He hM hf.call
 obtain⟨b,hb⟩:∃ b:Nat,Ey M.heads.length f.c=b:=⟨_,(Int.toNat_of_nonneg b0).symm⟩
 have hbl:b<M.heads.length:=by omega
 have HBk:Hid (∀ W:Wq,Calls Pg 113 #[.agg #[Y aS M.slots.length cS,Y aH M.heads.length cH,Y aF M.free.length cF,Y aL M.locks.length cL,O J M.now],.agg #[O J f.c.kind,O J f.c.a,O J f.c.b,O J f.c.time,O J f.c.bk,O J f.c.slot]] W fun e w'=>e=.returned (O J (b:Int))/\Below W.heap.size W w'):=fun W=>hb ▸ Hf aS aH aF aL _ _ _ _ cS cH cF cL M.now f.c W (by omega)
 obtain⟨of,hof⟩:=frObj f aK cK
 obtain⟨oz,hoz⟩:∃ o:Obj,o=Ae:=⟨_,rfl⟩
 have HE:Hid (Lk Xb w ((w.alloc of).alloc oz) B lo aS aH aF aL cS cH cF cL M f aK cK):=Lk.first m f aK cK hof hoz
 have HL:Hid (∀ w1,Lk Xb w w1 B lo aS aH aF aL cS cH cF cL M f aK cK->W74 t w w1 B b R):=fun w1 h=>HR.out w1 b ⟨h,r,hz,hM,hf,hbl,hb,hns,hnh.2⟩
 obtain⟨f0,f1,f2,f3,f4,f5,f6,f7,f8,f9,f10,f11,f12,f13,ff,fs⟩:=A8 HE.out.fb
 obtain⟨q0,q1,q2,q3,q4,-,-,-,-,-,qs⟩:=Af HE.out.m.box
 unfold Ae at hoz
 clear m hns hnh hM hf r hz b0 b1 hb hbl HR
 go_enter Tryz.func74,Tryz.ntmps74
 go_wp2_with fail
 rw[<- hof,<- hoz]
 generalize (w.alloc of).alloc oz=W0 at *
 subst hof hoz
 have cB:∀ (d:Nat) (os:Array Obj),Calls Pg 113 #[.agg #[Y aS M.slots.length cS,Y aH M.heads.length cH,Y aF M.free.length cF,Y aL M.locks.length cL,O J M.now],.agg #[O J f.c.kind,O J f.c.a,O J f.c.b,O J f.c.time,O J f.c.bk,O J f.c.slot]] (grow (redrawn W0 d) os) fun e w''=>e=.returned (O J (b:Int))/\∃ p:Regrown,w''=grow (redrawn W0 p.d) p.os:=fun d os=>Calls.regrown_of (HBk.out _)
 have Q0:=cell_regrown q0;have Q1:=cell_regrown q1;have Q2:=cell_regrown q2;have Q3:=cell_regrown q3;have Q4:=cell_regrown q4
 have F0:=cell_regrown f0;have F1:=cell_regrown f1;have F2:=cell_regrown f2;have F3:=cell_regrown f3;have F4:=cell_regrown f4;have F5:=cell_regrown f5
 clear q0 q1 q2 q3 q4 qs f0 f1 f2 f3 f4 f5 f6 f7 f8 f9 f10 f11 f12 f13 ff fs
 refine wp_region_quiet_below (by kernel_rfl) (by kernel_rfl) ?_
 repeat (quiet_step (first|exact cB _ _))
 refine wpQuiet_nil ?_
 intro _ hw'
 obtain⟨⟨dq,osq⟩,hw''⟩:=hw'
 subst hw''
 rename_i K hK
 exact hK _ _ (HL.out _ (HE.out.below (below_regrown W0 dq osq)) _ (by kernel_rfl) _ _ _ _ _ _ _)
end
section
variable {Xb:Ex}
section
variable {w w1:Wq} {B lo:Nat} {aS aH aF aL:Option Addr} {cS cH cF cL:Nat} {M:Mm} {f:Fr} {aK:Option Addr} {cK b:Nat}
theorem rsw0(t:Int)(H:LH Xb w w1 B lo aS aH aF aL cS cH cF cL M f aK cK b)(hp:f.pl=0){G:Fr}(HG:Hid ((if Ce M b=-1 then toF f 1 else f)=G)):W74 t w w1 B b (RQ Xb w (Ac B aS aH aF aL) B lo aK cK (Kz M b t) G):=by
 have hns:=H.ns
 have hbl:=H.bl
 have hnh:=H.nh
 obtain⟨f0,f1,f2,f3,f4,f5,f6,f7,f8,f9,f10,f11,f12,f13,ff,fs⟩:=A8 H.e.out.fb
 obtain⟨q0,q1,q2,q3,q4,-,-,-,-,-,qs⟩:=Af H.e.out.m.box
 rintro C rfl v1 v8 v9 v10 v11 v12 v13
 conv=>arg 2;whnf
 unfold V8
 rw[hp] at f6
 clear hp
 go_wp2_with fail
 refine(Q9 t ⟨_,_,_,_,_,_,_,_,H.e.out.m,fun _ h=>h⟩ H.ok.out hbl).mono ?_
 rintro e w2 ⟨rfl,hh2,hf2⟩
 have HE3:Hid _:=H.e.out.after hh2 hf2
 clear hh2 hf2 f0 f1 f2 f3 f4 f5 f6 f7 f8 f9 f10 f11 f12 f13 ff fs
 obtain⟨f0,f1,f2,f3,f4,f5,f6,f7,f8,f9,f10,f11,f12,f13,ff,fs⟩:=A8 HE3.out.fb
 have HE2:=HE3
 clear HE3
 cases hq:(Ce M b == -1)
 ·have h:¬ Ce M b=-1:=by simpa using hq
  rw[if_neg h] at HG
  clear h hq
  have hG:=HG.out
  clear HG
  subst hG
  obtain⟨l9,t9,b9,hQ⟩:=Uh HE2.out H.r.out H.z.out
  clear HE2 H f0 f1 f2 f3 f4 f5 f6 f7 f8 f9 f10 f11 f12 f13 ff fs q0 q1 q2 q3 q4 qs
  go_wp2_with (first|(have h9:=l9.out;refine We rfl (.tmp 4) rfl rfl h9 ?_;clear h9 l9)|refine Bd (f:=f) rfl (.tmp 6) _ rfl rfl rfl t9.out ?_)
  generalize World.setCells _ (w.heap.size+1) 0 (f.enc aK cK)=W9 at *
  exact bodyPost_ret (results_cell_row Tryz.results74 _ W9 (w.heap.size+1) 47 _ (0,0) _ rfl b9.out Tryz.underlying47 rfl (by kernel_rfl)) rfl hQ.out
 ·have h:Ce M b=-1:=by simpa using hq
  rw[if_pos h] at HG
  clear h hq
  go_wp2_with fail
  first|(go_at_call 124;refine(Dl 124 (.inr (.inr (.inr rfl))) _ HE2.out HG.out H.r.out H.z.out).mono ?_)|(go_at_call 73;refine(Bg _ HE2.out HG.out H.r.out H.z.out).mono ?_)
  rintro e w9 ⟨g,a,c,rfl,t9,b9,hQ⟩
  clear HE2 H HG f0 f1 f2 f3 f4 f5 f6 f7 f8 f9 f10 f11 f12 f13 ff fs q0 q1 q2 q3 q4 qs
  go_wp2_with (refine Bd (f:=g) rfl (.tmp 6) _ rfl rfl rfl t9.out ?_)
  generalize w9.setCells (w.heap.size+1) 0 (g.enc a c)=W9 at *
  exact bodyPost_ret (results_cell_row Tryz.results74 _ W9 (w.heap.size+1) 47 _ (0,0) _ rfl b9.out Tryz.underlying47 rfl (by kernel_rfl)) rfl hQ.out
theorem rsw1(t:Int)(H:LH Xb w w1 B lo aS aH aF aL cS cH cF cL M f aK cK b)(hp:f.pl=1){G:Fr}(HG:Hid (Ht f 0 (Bf M b) 2=G)):W74 t w w1 B b (RQ Xb w (Ac B aS aH aF aL) B lo aK cK M G):=by
 have hns:=H.ns
 have hbl:=H.bl
 have hnh:=H.nh
 obtain⟨f0,f1,f2,f3,f4,f5,f6,f7,f8,f9,f10,f11,f12,f13,ff,fs⟩:=A8 H.e.out.fb
 obtain⟨q0,q1,q2,q3,q4,-,-,-,-,-,qs⟩:=Af H.e.out.m.box
 rintro C rfl v1 v8 v9 v10 v11 v12 v13
 conv=>arg 2;whnf
 unfold V8
 rw[hp] at f6
 clear hp
 obtain⟨gH,hH,hc⟩:=H.head
 rw[hH] at q1
 go_wp2_with fail
 have hB0:B<w.heap.size:=H.e.out.lt B (.inl rfl)
 have hg0:gH<w.heap.size:=H.e.out.lt gH (.inr (.inr (.inl ⟨_,hH,rfl⟩)))
 have hBn:B≠w.heap.size:=by omega
 have hgn:gH≠w.heap.size:=by omega
 have hBm:w.heap.size≠B:=by omega
 have hgm:w.heap.size≠gH:=by omega
 rename_i K0 hK0
 apply En (R:=fun a=>∀ W2:Wq,Lk2 Xb w W2 (Ac B aS aH aF aL) B lo M ({ f with prev:=0,cur:=Bf M b }) aK cK->K0 a W2)
 ·intro tail0
  have tail:Hid _:=tail0
  clear tail0
  go_region
  all_goals exact tail.out _ (((H.e.out.store 8 (O J 0) { f with prev:=0 } rfl).store 7 (O J (Bf M b)) { f with prev:=0,cur:=Bf M b } rfl).two.below ⟨rfl,rfl,rfl,Nat.le_refl _,fun _ _=>rfl⟩)
 intro w2 h3
 have HE2:Hid _:=h3
 refine hK0 _ _ ?_
 clear h3 hK0 hB0 hg0 hBn hgn hBm hgm f0 f1 f2 f3 f4 f5 f6 f7 f8 f9 f10 f11 f12 f13 ff fs
 obtain⟨f0,f1,f2,f3,f4,f5,f6,f7,f8,f9,f10,f11,f12,f13,ff,fs⟩:=A8 HE2.out.fb
 go_wp2_with fail
 first|(go_at_call 124;refine(Dl 124 (.inr (.inr (.inr rfl))) _ HE2.out HG.out H.r.out H.z.out).mono ?_)|(go_at_call 73;refine(Bg _ HE2.out HG.out H.r.out H.z.out).mono ?_)
 rintro e w9 ⟨g,a,c,rfl,t9,b9,hQ⟩
 clear HE2 H HG f0 f1 f2 f3 f4 f5 f6 f7 f8 f9 f10 f11 f12 f13 ff fs q0 q1 q2 q3 q4 qs
 go_wp2_with (refine Bd (f:=g) rfl (.tmp 6) _ rfl rfl rfl t9.out ?_)
 generalize w9.setCells (w.heap.size+1) 0 (g.enc a c)=W9 at *
 exact bodyPost_ret (results_cell_row Tryz.results74 _ W9 (w.heap.size+1) 47 _ (0,0) _ rfl b9.out Tryz.underlying47 rfl (by kernel_rfl)) rfl hQ.out
theorem rsw2(t:Int)(H:LH Xb w w1 B lo aS aH aF aL cS cH cF cL M f aK cK b)(hp:f.pl=2)(hc:f.cur<=0){G:Fr}(HG:Hid (toF f 6=G)):W74 t w w1 B b (RQ Xb w (Ac B aS aH aF aL) B lo aK cK M G):=by
 have hns:=H.ns
 have hbl:=H.bl
 have hnh:=H.nh
 obtain⟨f0,f1,f2,f3,f4,f5,f6,f7,f8,f9,f10,f11,f12,f13,ff,fs⟩:=A8 H.e.out.fb
 obtain⟨q0,q1,q2,q3,q4,-,-,-,-,-,qs⟩:=Af H.e.out.m.box
 rintro C rfl v1 v8 v9 v10 v11 v12 v13
 conv=>arg 2;whnf
 unfold V8
 rw[hp] at f6
 clear hp
 have hI:decide (0<f.cur)=false:=by rw[decide_eq_false_iff_not];omega
 have HE2:Hid (Lk2 Xb w (w1) (Ac B aS aH aF aL) B lo M (f) aK cK):=H.e.out.two
 go_wp2_with (go_at_call 115;refine(Dx _ _ hI).mono ?_;rintro e w3 ⟨rfl,rfl⟩)
 first|(go_at_call 124;refine(Dl 124 (.inr (.inr (.inr rfl))) _ HE2.out HG.out H.r.out H.z.out).mono ?_)|(go_at_call 73;refine(Bg _ HE2.out HG.out H.r.out H.z.out).mono ?_)
 rintro e w9 ⟨g,a,c,rfl,t9,b9,hQ⟩
 clear HE2 H HG f0 f1 f2 f3 f4 f5 f6 f7 f8 f9 f10 f11 f12 f13 ff fs q0 q1 q2 q3 q4 qs
 go_wp2_with (refine Bd (f:=g) rfl (.tmp 6) _ rfl rfl rfl t9.out ?_)
 generalize w9.setCells (w.heap.size+1) 0 (g.enc a c)=W9 at *
 exact bodyPost_ret (results_cell_row Tryz.results74 _ W9 (w.heap.size+1) 47 _ (0,0) _ rfl b9.out Tryz.underlying47 rfl (by kernel_rfl)) rfl hQ.out
theorem rsw2b(t:Int)(H:LH Xb w w1 B lo aS aH aF aL cS cH cF cL M f aK cK b)(hp:f.pl=2){j:Nat}(hj:f.cur=(j:Int)+1)(hl:j<M.slots.length)(h5:(f.c.kind==5)=true)(hkl:¬ ((f.keys.length:Int)<100)){G:Fr}(HG:Hid (toF f 3=G)):W74 t w w1 B b (RQ Xb w (Ac B aS aH aF aL) B lo aK cK M G):=by
 have hns:=H.ns
 have hbl:=H.bl
 have hnh:=H.nh
 obtain⟨f0,f1,f2,f3,f4,f5,f6,f7,f8,f9,f10,f11,f12,f13,ff,fs⟩:=A8 H.e.out.fb
 obtain⟨q0,q1,q2,q3,q4,-,-,-,-,-,qs⟩:=Af H.e.out.m.box
 rintro C rfl v1 v8 v9 v10 v11 v12 v13
 conv=>arg 2;whnf
 unfold V8
 rw[hp] at f6
 clear hp
 obtain⟨gS,hS,xs,x0,x1,x2,x3,x4,x5⟩:=H.e.out.Iq hns hl
 rw[hS] at q0
 have hl':(j:Int)<(M.slots.length:Int):=by omega
 rw[hj] at f7
 have hI:decide (0<(j:Int)+1)=true:=by rw[decide_eq_true_iff];omega
 have hw1:IntKind.i64.wrap ((j:Int)+1 - 1)=(j:Int):=by rw[IntKind.wrap_i64];omega
 have hw2:wrap64 ((j:Int)+1 - 1)=(j:Int):=by unfold wrap64;omega
 have hw3:(j:Int)+1 - 1=(j:Int):=by omega
 have hkm:f.keys.length<=100:=H.fit.out.keys
 have hb3:=A7 w1 (.cells #[O J (Aa M j).refs,O J (Aa M j).a,O J (Aa M j).b,O J (Aa M j).unt,.bool (Aa M j).inn,O J (Aa M j).next] 64)
 have HB3:Hid _:=hb3
 clear hb3
 go_wp2_with (go_at_call 115;refine(Dx _ _ hI).mono ?_;rintro e w3 ⟨rfl,rfl⟩)
 go_region
 all_goals
  have HE2:Hid _:=(H.e.out.below HB3.out).two.below (w2:=(w1.alloc _).drew) ⟨rfl,rfl,rfl,Nat.le_refl _,fun _ _=>rfl⟩
  clear HB3
  go_wp2_with fail
  first|(go_at_call 124;refine(Dl 124 (.inr (.inr (.inr rfl))) _ HE2.out HG.out H.r.out H.z.out).mono ?_)|(go_at_call 73;refine(Bg _ HE2.out HG.out H.r.out H.z.out).mono ?_)
  rintro e w9 ⟨g,a,c,rfl,t9,b9,hQ⟩
  clear HE2 H HG f0 f1 f2 f3 f4 f5 f6 f7 f8 f9 f10 f11 f12 f13 ff fs q0 q1 q2 q3 q4 qs
  go_wp2_with (refine Bd (f:=g) rfl (.tmp 6) _ rfl rfl rfl t9.out ?_)
  generalize w9.setCells (w.heap.size+1) 0 (g.enc a c)=W9 at *
  exact bodyPost_ret (results_cell_row Tryz.results74 _ W9 (w.heap.size+1) 47 _ (0,0) _ rfl b9.out Tryz.underlying47 rfl (by kernel_rfl)) rfl hQ.out
theorem rsw2c(t:Int)(H:LH Xb w w1 B lo aS aH aF aL cS cH cF cL M f aK cK b)(hp:f.pl=2){j:Nat}(hj:f.cur=(j:Int)+1)(hl:j<M.slots.length)(h5:(f.c.kind==5)=false){G:Fr}(HG:Hid (toF f (if M.now<(Aa M j).unt then 3 else 4)=G)):W74 t w w1 B b (RQ Xb w (Ac B aS aH aF aL) B lo aK cK M G):=by
 have hns:=H.ns
 have hbl:=H.bl
 have hnh:=H.nh
 obtain⟨f0,f1,f2,f3,f4,f5,f6,f7,f8,f9,f10,f11,f12,f13,ff,fs⟩:=A8 H.e.out.fb
 obtain⟨q0,q1,q2,q3,q4,-,-,-,-,-,qs⟩:=Af H.e.out.m.box
 rintro C rfl v1 v8 v9 v10 v11 v12 v13
 conv=>arg 2;whnf
 unfold V8
 rw[hp] at f6
 clear hp
 obtain⟨gS,hS,xs,x0,x1,x2,x3,x4,x5⟩:=H.e.out.Iq hns hl
 rw[hS] at q0
 have hl':(j:Int)<(M.slots.length:Int):=by omega
 rw[hj] at f7
 have hI:decide (0<(j:Int)+1)=true:=by rw[decide_eq_true_iff];omega
 have hw1:IntKind.i64.wrap ((j:Int)+1 - 1)=(j:Int):=by rw[IntKind.wrap_i64];omega
 have hw2:wrap64 ((j:Int)+1 - 1)=(j:Int):=by unfold wrap64;omega
 have hw3:(j:Int)+1 - 1=(j:Int):=by omega
 have hb3:=A7 w1 (.cells #[O J (Aa M j).refs,O J (Aa M j).a,O J (Aa M j).b,O J (Aa M j).unt,.bool (Aa M j).inn,O J (Aa M j).next] 64)
 have HB3:Hid _:=hb3
 clear hb3
 have hq:M.now<(Aa M j).unt/\decide (M.now<(Aa M j).unt)=true\/¬ M.now<(Aa M j).unt/\decide (M.now<(Aa M j).unt)=false:=by
  by_cases h:M.now<(Aa M j).unt <;> simp[h]
 rcases hq with ⟨h,hq⟩|⟨h,hq⟩
 all_goals
  first|rw[if_pos h] at HG|rw[if_neg h] at HG
  go_wp2_with (go_at_call 115;refine(Dx _ _ hI).mono ?_;rintro e w3 ⟨rfl,rfl⟩)
  go_region
  go_wp2_with fail
  go_quiet (fail)
  have HE2:Hid _:=(H.e.out.below HB3.out).two.below (w2:=(w1.alloc _).drewN (1+nq)) ⟨rfl,rfl,rfl,Nat.le_refl _,fun _ _=>rfl⟩
  clear HB3 h
  go_wp2_with fail
  first|(go_at_call 124;refine(Dl 124 (.inr (.inr (.inr rfl))) _ HE2.out HG.out H.r.out H.z.out).mono ?_)|(go_at_call 73;refine(Bg _ HE2.out HG.out H.r.out H.z.out).mono ?_)
  rintro e w9 ⟨g,a,c,rfl,t9,b9,hQ⟩
  clear HE2 H HG f0 f1 f2 f3 f4 f5 f6 f7 f8 f9 f10 f11 f12 f13 ff fs q0 q1 q2 q3 q4 qs
  go_wp2_with (refine Bd (f:=g) rfl (.tmp 6) _ rfl rfl rfl t9.out ?_)
  generalize w9.setCells (w.heap.size+1) 0 (g.enc a c)=W9 at *
  exact bodyPost_ret (results_cell_row Tryz.results74 _ W9 (w.heap.size+1) 47 _ (0,0) _ rfl b9.out Tryz.underlying47 rfl (by kernel_rfl)) rfl hQ.out
theorem rsw3(t:Int)(H:LH Xb w w1 B lo aS aH aF aL cS cH cF cL M f aK cK b)(hp:f.pl=3){j:Nat}(hj:f.cur=(j:Int)+1)(hl:j<M.slots.length){G:Fr}(HG:Hid (Ht f ((j:Int)+1) (Aa M j).next 2=G)):W74 t w w1 B b (RQ Xb w (Ac B aS aH aF aL) B lo aK cK M G):=by
 have hns:=H.ns
 have hbl:=H.bl
 have hnh:=H.nh
 obtain⟨f0,f1,f2,f3,f4,f5,f6,f7,f8,f9,f10,f11,f12,f13,ff,fs⟩:=A8 H.e.out.fb
 obtain⟨q0,q1,q2,q3,q4,-,-,-,-,-,qs⟩:=Af H.e.out.m.box
 rintro C rfl v1 v8 v9 v10 v11 v12 v13
 conv=>arg 2;whnf
 unfold V8
 rw[hp] at f6
 clear hp
 obtain⟨gS,hS,xs,x0,x1,x2,x3,x4,x5⟩:=H.e.out.Iq hns hl
 rw[hS] at q0
 have hl':(j:Int)<(M.slots.length:Int):=by omega
 rw[hj] at f7
 have hI:decide (0<(j:Int)+1)=true:=by rw[decide_eq_true_iff];omega
 have hw1:IntKind.i64.wrap ((j:Int)+1 - 1)=(j:Int):=by rw[IntKind.wrap_i64];omega
 have hw2:wrap64 ((j:Int)+1 - 1)=(j:Int):=by unfold wrap64;omega
 have hw3:(j:Int)+1 - 1=(j:Int):=by omega
 go_wp2_with (go_at_call 115;refine(Dx _ _ hI).mono ?_;rintro e w3 ⟨rfl,rfl⟩)
 have hB0:B<w.heap.size:=H.e.out.lt B (.inl rfl)
 have hg0:gS<w.heap.size:=H.e.out.lt gS (.inr (.inl ⟨_,hS,rfl⟩))
 have hBn:B≠w.heap.size:=by omega
 have hgn:gS≠w.heap.size:=by omega
 have hBm:w.heap.size≠B:=by omega
 have hgm:w.heap.size≠gS:=by omega
 rename_i K0 hK0
 apply En (R:=fun a=>∀ W2:Wq,Lk2 Xb w W2 (Ac B aS aH aF aL) B lo M ({ f with prev:=(j:Int)+1,cur:=(Aa M j).next }) aK cK->K0 a W2)
 ·intro tail0
  have tail:Hid _:=tail0
  clear tail0
  go_region
  all_goals exact tail.out _ (((H.e.out.store 8 (O J ((j:Int)+1)) { f with prev:=(j:Int)+1 } rfl).store 7 (O J (Aa M j).next) { f with prev:=(j:Int)+1,cur:=(Aa M j).next } rfl).two.below ⟨rfl,rfl,rfl,Nat.le_refl _,fun _ _=>rfl⟩)
 intro w2 h3
 have HE2:Hid _:=h3
 refine hK0 _ _ ?_
 clear h3 hK0 hB0 hg0 hBn hgn hBm hgm x0 x1 x2 x3 x4 x5 xs f0 f1 f2 f3 f4 f5 f6 f7 f8 f9 f10 f11 f12 f13 ff fs
 obtain⟨f0,f1,f2,f3,f4,f5,f6,f7,f8,f9,f10,f11,f12,f13,ff,fs⟩:=A8 HE2.out.fb
 go_wp2_with fail
 first|(go_at_call 124;refine(Dl 124 (.inr (.inr (.inr rfl))) _ HE2.out HG.out H.r.out H.z.out).mono ?_)|(go_at_call 73;refine(Bg _ HE2.out HG.out H.r.out H.z.out).mono ?_)
 rintro e w9 ⟨g,a,c,rfl,t9,b9,hQ⟩
 clear HE2 H HG f0 f1 f2 f3 f4 f5 f6 f7 f8 f9 f10 f11 f12 f13 ff fs q0 q1 q2 q3 q4 qs
 go_wp2_with (refine Bd (f:=g) rfl (.tmp 6) _ rfl rfl rfl t9.out ?_)
 generalize w9.setCells (w.heap.size+1) 0 (g.enc a c)=W9 at *
 exact bodyPost_ret (results_cell_row Tryz.results74 _ W9 (w.heap.size+1) 47 _ (0,0) _ rfl b9.out Tryz.underlying47 rfl (by kernel_rfl)) rfl hQ.out
theorem rsw4(t:Int)(H:LH Xb w w1 B lo aS aH aF aL cS cH cF cL M f aK cK b)(hp:f.pl=4){j:Nat}(hj:f.cur=(j:Int)+1)(hl:j<M.slots.length){G:Fr}(HG:Hid ({ f with slot:=(j:Int),cur:=(Aa M j).next,pl:=5 } = G)):W74 t w w1 B b (RQ Xb w (Ac B aS aH aF aL) B lo aK cK (I7 M b f.prev j) G):=by
 have hns:=H.ns
 have hbl:=H.bl
 have hnh:=H.nh
 obtain⟨f0,f1,f2,f3,f4,f5,f6,f7,f8,f9,f10,f11,f12,f13,ff,fs⟩:=A8 H.e.out.fb
 obtain⟨q0,q1,q2,q3,q4,-,-,-,-,-,qs⟩:=Af H.e.out.m.box
 rintro C rfl v1 v8 v9 v10 v11 v12 v13
 conv=>arg 2;whnf
 unfold V8
 rw[hp] at f6
 clear hp
 rw[hj] at f7
 have hI:decide (0<(j:Int)+1)=true:=by rw[decide_eq_true_iff];omega
 have hw1:IntKind.i64.wrap ((j:Int)+1 - 1)=(j:Int):=by rw[IntKind.wrap_i64];omega
 have hw2:wrap64 ((j:Int)+1 - 1)=(j:Int):=by unfold wrap64;omega
 have hw3:(j:Int)+1 - 1=(j:Int):=by omega
 have hpr:=H.fit.out.prev
 go_wp2_with (go_at_call 115;refine(Dx _ _ hI).mono ?_;rintro e w3 ⟨rfl,rfl⟩)
 have HEa:Hid _:=H.e.out.store 9 (O J (j:Int)) { f with slot:=(j:Int) } rfl
 clear f0 f1 f2 f3 f4 f5 f6 f7 f8 f9 f10 f11 f12 f13 ff fs q0 q1 q2 q3 q4 qs
 generalize w1.setCell ⟨w.heap.size,9,none⟩ (O J (j:Int))=w2 at *
 obtain⟨f0,f1,f2,f3,f4,f5,f6,f7,f8,f9,f10,f11,f12,f13,ff,fs⟩:=A8 HEa.out.fb
 obtain⟨q0,q1,q2,q3,q4,-,-,-,-,-,qs⟩:=Af HEa.out.m.box
 obtain⟨gS,hS,xs,x0,x1,x2,x3,x4,x5⟩:=HEa.out.Iq hns hl
 rw[hS] at q0
 have hl':(j:Int)<(M.slots.length:Int):=by omega
 have hB0:B<w.heap.size:=HEa.out.lt B (.inl rfl)
 have hg0:gS<w.heap.size:=HEa.out.lt gS (.inr (.inl ⟨_,hS,rfl⟩))
 have hBn:B≠w.heap.size:=by omega
 have hgn:gS≠w.heap.size:=by omega
 have hBm:w.heap.size≠B:=by omega
 have hgm:w.heap.size≠gS:=by omega
 rename_i K0 hK0
 apply En (R:=fun a=>∀ W2:Wq,Lk Xb w W2 B lo aS aH aF aL cS cH cF cL M ({ f with slot:=(j:Int),cur:=(Aa M j).next }) aK cK->K0 a W2)
 ·intro tail0
  have tail:Hid _:=tail0
  clear tail0
  go_region
  all_goals exact tail.out _ ((HEa.out.store 7 (O J (Aa M j).next) { f with slot:=(j:Int),cur:=(Aa M j).next } rfl).below ⟨rfl,rfl,rfl,Nat.le_refl _,fun _ _=>rfl⟩)
 intro w3 h3
 have HE2:Hid _:=h3
 refine hK0 _ _ ?_
 clear h3 hK0 hB0 hg0 hBn hgn hBm hgm HEa x0 x1 x2 x3 x4 x5 xs q0 q1 q2 q3 q4 qs f0 f1 f2 f3 f4 f5 f6 f7 f8 f9 f10 f11 f12 f13 ff fs
 obtain⟨f0,f1,f2,f3,f4,f5,f6,f7,f8,f9,f10,f11,f12,f13,ff,fs⟩:=A8 HE2.out.fb
 obtain⟨q0,q1,q2,q3,q4,-,-,-,-,-,qs⟩:=Af HE2.out.m.box
 go_wp2_with fail
 refine(Xp ⟨_,_,_,_,_,_,_,_,HE2.out.m,fun _ h=>h⟩ H.ok.out hl hbl hpr.1 hpr.2).mono ?_
 rintro e w4 ⟨rfl,hh2,hf2⟩
 have HE3:Hid _:=HE2.out.after hh2 hf2
 clear hh2 hf2 HE2 f0 f1 f2 f3 f4 f5 f6 f7 f8 f9 f10 f11 f12 f13 ff fs
 obtain⟨f0,f1,f2,f3,f4,f5,f6,f7,f8,f9,f10,f11,f12,f13,ff,fs⟩:=A8 HE3.out.fb
 have HE2:=HE3
 clear HE3
 go_wp2_with fail
 first|(go_at_call 124;refine(Dl 124 (.inr (.inr (.inr rfl))) _ HE2.out HG.out H.r.out H.z.out).mono ?_)|(go_at_call 73;refine(Bg _ HE2.out HG.out H.r.out H.z.out).mono ?_)
 rintro e w9 ⟨g,a,c,rfl,t9,b9,hQ⟩
 clear HE2 H HG f0 f1 f2 f3 f4 f5 f6 f7 f8 f9 f10 f11 f12 f13 ff fs q0 q1 q2 q3 q4 qs
 go_wp2_with (refine Bd (f:=g) rfl (.tmp 6) _ rfl rfl rfl t9.out ?_)
 generalize w9.setCells (w.heap.size+1) 0 (g.enc a c)=W9 at *
 exact bodyPost_ret (results_cell_row Tryz.results74 _ W9 (w.heap.size+1) 47 _ (0,0) _ rfl b9.out Tryz.underlying47 rfl (by kernel_rfl)) rfl hQ.out
theorem rsw5(t:Int)(H:LH Xb w w1 B lo aS aH aF aL cS cH cF cL M f aK cK b)(hp:f.pl=5){j:Nat}(hj:f.slot=j)(hl:j<M.slots.length){G:Fr}(HG:Hid ({ f with slot:=-1,n:=if f.n<1000000 then f.n+1 else f.n,pl:=2 } = G)):W74 t w w1 B b (RQ Xb w (Ac B aS aH aF aL) B lo aK cK (Em M j) G):=by
 have hns:=H.ns
 have hbl:=H.bl
 have hnh:=H.nh
 obtain⟨f0,f1,f2,f3,f4,f5,f6,f7,f8,f9,f10,f11,f12,f13,ff,fs⟩:=A8 H.e.out.fb
 obtain⟨q0,q1,q2,q3,q4,-,-,-,-,-,qs⟩:=Af H.e.out.m.box
 rintro C rfl v1 v8 v9 v10 v11 v12 v13
 conv=>arg 2;whnf
 unfold V8
 rw[hp] at f6
 clear hp
 rw[hj] at f9
 have hs0:(0:Int)<=(j:Int):=by omega
 have hS:Dc M (j:Int)=true:=Eg.2 (by omega)
 have hn:=H.fit.out.n
 rw[Aj] at hn
 have hw:IntKind.i64.wrap (f.n+1)=f.n+1:=by rw[IntKind.wrap_i64];omega
 go_wp2_with fail
 refine(L9 ⟨_,_,_,_,_,_,_,_,H.e.out.m,fun _ h=>h⟩ H.ok.out hS).mono ?_
 rintro e w2 ⟨rfl,hh2,hf2⟩
 have HE3:Hid _:=H.e.out.after hh2 hf2
 clear hh2 hf2 f0 f1 f2 f3 f4 f5 f6 f7 f8 f9 f10 f11 f12 f13 ff fs
 obtain⟨f0,f1,f2,f3,f4,f5,f6,f7,f8,f9,f10,f11,f12,f13,ff,fs⟩:=A8 HE3.out.fb
 by_cases hq:f.n<1000000
 focus
  rw[if_pos hq] at HG
  have HE2:Hid (Lk2 Xb w ((w2.setCell ⟨w.heap.size,9,none⟩ (O J (-1))).setCell ⟨w.heap.size,10,none⟩ (O J (f.n+1))) (Ac B aS aH aF aL) B lo (Em M j) ({ f with slot:=-1,n:=f.n+1 }) aK cK):=(HE3.out.store 9 _ { f with slot:=-1 } rfl).store 10 _ _ rfl
  clear HE3
  go_wp2_with fail
 rotate_left
 focus
  rw[if_neg hq] at HG
  have HE2:Hid (Lk2 Xb w (w2.setCell ⟨w.heap.size,9,none⟩ (O J (-1))) (Ac B aS aH aF aL) B lo (Em M j) ({ f with slot:=-1 }) aK cK):=HE3.out.store 9 _ _ rfl
  clear HE3
  go_wp2_with fail
 all_goals
  first|(go_at_call 124;refine(Dl 124 (.inr (.inr (.inr rfl))) _ HE2.out HG.out H.r.out H.z.out).mono ?_)|(go_at_call 73;refine(Bg _ HE2.out HG.out H.r.out H.z.out).mono ?_)
  rintro e w9 ⟨g,a,c,rfl,t9,b9,hQ⟩
  clear HE2 H HG f0 f1 f2 f3 f4 f5 f6 f7 f8 f9 f10 f11 f12 f13 ff fs q0 q1 q2 q3 q4 qs
  go_wp2_with (refine Bd (f:=g) rfl (.tmp 6) _ rfl rfl rfl t9.out ?_)
  generalize w9.setCells (w.heap.size+1) 0 (g.enc a c)=W9 at *
  exact bodyPost_ret (results_cell_row Tryz.results74 _ W9 (w.heap.size+1) 47 _ (0,0) _ rfl b9.out Tryz.underlying47 rfl (by kernel_rfl)) rfl hQ.out
theorem rsw6(t:Int)(H:LH Xb w w1 B lo aS aH aF aL cS cH cF cL M f aK cK b)(hp:f.pl=6){G:Fr}(HG:Hid (Ag f 0=G)):W74 t w w1 B b (RQ Xb w (Ac B aS aH aF aL) B lo aK cK (L8 M b t) G):=by
 have hns:=H.ns
 have hbl:=H.bl
 have hnh:=H.nh
 obtain⟨f0,f1,f2,f3,f4,f5,f6,f7,f8,f9,f10,f11,f12,f13,ff,fs⟩:=A8 H.e.out.fb
 obtain⟨q0,q1,q2,q3,q4,-,-,-,-,-,qs⟩:=Af H.e.out.m.box
 rintro C rfl v1 v8 v9 v10 v11 v12 v13
 conv=>arg 2;whnf
 unfold V8
 rw[hp] at f6
 clear hp
 go_wp2_with fail
 refine(Lu t ⟨_,_,_,_,_,_,_,_,H.e.out.m,fun _ h=>h⟩ H.ok.out hbl).mono ?_
 rintro e w2 ⟨rfl,hh2,hf2⟩
 have HE3:Hid _:=H.e.out.after hh2 hf2
 clear hh2 hf2 f0 f1 f2 f3 f4 f5 f6 f7 f8 f9 f10 f11 f12 f13 ff fs
 obtain⟨f0,f1,f2,f3,f4,f5,f6,f7,f8,f9,f10,f11,f12,f13,ff,fs⟩:=A8 HE3.out.fb
 have HE2:=HE3
 clear HE3
 go_wp2_with fail
 first|(go_at_call 124;refine(Dl 124 (.inr (.inr (.inr rfl))) _ HE2.out HG.out H.r.out H.z.out).mono ?_)|(go_at_call 73;refine(Bg _ HE2.out HG.out H.r.out H.z.out).mono ?_)
 rintro e w9 ⟨g,a,c,rfl,t9,b9,hQ⟩
 clear HE2 H HG f0 f1 f2 f3 f4 f5 f6 f7 f8 f9 f10 f11 f12 f13 ff fs q0 q1 q2 q3 q4 qs
 go_wp2_with (refine Bd (f:=g) rfl (.tmp 6) _ rfl rfl rfl t9.out ?_)
 generalize w9.setCells (w.heap.size+1) 0 (g.enc a c)=W9 at *
 exact bodyPost_ret (results_cell_row Tryz.results74 _ W9 (w.heap.size+1) 47 _ (0,0) _ rfl b9.out Tryz.underlying47 rfl (by kernel_rfl)) rfl hQ.out
theorem b2f(t:Int)(H:LH Xb w w1 B lo aS aH aF aL cS cH cF cL M f aK cK b)(hor:(f.pl=3\/f.pl=4)/\f.cur<=0\/(f.pl=5)/\f.slot<0\/7<=f.pl){G:Fr}(HG:Hid (toF f 6=G)):W74 t w w1 B b (RQ Xb w (Ac B aS aH aF aL) B lo aK cK M G):=by
 have hns:=H.ns
 have hbl:=H.bl
 have hnh:=H.nh
 obtain⟨f0,f1,f2,f3,f4,f5,f6,f7,f8,f9,f10,f11,f12,f13,ff,fs⟩:=A8 H.e.out.fb
 obtain⟨q0,q1,q2,q3,q4,-,-,-,-,-,qs⟩:=Af H.e.out.m.box
 rintro C rfl v1 v8 v9 v10 v11 v12 v13
 conv=>arg 2;whnf
 unfold V8
 have HE2:Hid (Lk2 Xb w (w1) (Ac B aS aH aF aL) B lo M (f) aK cK):=H.e.out.two
 have hA:∀ n:Int,n<7->7<=f.pl->(f.pl==n)=false:=fun n h h'=>by rw[beq_eq_false_iff_ne];omega
 rcases hor with ⟨hp|hp,hc⟩|⟨hp,hc⟩|hp
 all_goals
  first
  | rw[hp] at f6
    try have hI:decide (0<f.cur)=false:=by rw[decide_eq_false_iff_not];omega
    try have hs0:¬ f.slot ≥ 0:=by omega
  | have p0:=hA 0 (by decide) hp
    have p1:=hA 1 (by decide) hp
    have p2:=hA 2 (by decide) hp
    have p3:=hA 3 (by decide) hp
    have p4:=hA 4 (by decide) hp
    have p5:=hA 5 (by decide) hp
    have p6:=hA 6 (by decide) hp
  clear hA
  go_wp2_with (go_at_call 115;refine(Dx _ _ (by assumption)).mono ?_;rintro e w3 ⟨rfl,rfl⟩)
  first|(go_at_call 124;refine(Dl 124 (.inr (.inr (.inr rfl))) _ HE2.out HG.out H.r.out H.z.out).mono ?_)|(go_at_call 73;refine(Bg _ HE2.out HG.out H.r.out H.z.out).mono ?_)
  rintro e w9 ⟨g,a,c,rfl,t9,b9,hQ⟩
  clear HE2 H HG f0 f1 f2 f3 f4 f5 f6 f7 f8 f9 f10 f11 f12 f13 ff fs q0 q1 q2 q3 q4 qs
  go_wp2_with (refine Bd (f:=g) rfl (.tmp 6) _ rfl rfl rfl t9.out ?_)
  generalize w9.setCells (w.heap.size+1) 0 (g.enc a c)=W9 at *
  exact bodyPost_ret (results_cell_row Tryz.results74 _ W9 (w.heap.size+1) 47 _ (0,0) _ rfl b9.out Tryz.underlying47 rfl (by kernel_rfl)) rfl hQ.out
end
end
end Go.Proofs.YthhgoenomehobaaGreat.mm
