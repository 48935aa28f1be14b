/- Parts. -/
import Derived.Test.YthhgoenomehobaaGreatP23
import Derived.Test.YthhgoenomehobaaGreatP14
import Derived.Test.YthhgoenomehobaaGreatP10
import Derived.Test.YthhgoenomehobaaGreatP08
import Derived.Test.YthhgoenomehobaaGreatP15
import Derived.Test.YthhgoenomehobaaGreatP31
import Derived.Test.YthhgoenomehobaaGreatP19
import Derived.Deep.RegionLaw
import Derived.Laws.AppendOwnNone
import Derived.BigRegion
import Derived.Deep.QuietTactic
import Derived.BigQuiet
import Derived.Lib.QuietBelow
import Derived.Test.YthhgoenomehobaaGreatP45
import Derived.Test.YthhgoenomehobaaGreatP43
import Derived.Test.YthhgoenomehobaaGreatP44
import Derived.Test.YthhgoenomehobaaGreatP24
namespace Go.Proofs.YthhgoenomehobaaGreat.mm
set_option maxRecDepth 100000
set_option linter.unusedVariables false
open Go.Value renaming int → O, slice → Y
open Go.IntKind renaming i64 → J
open Go.Proofs.Tryz renaming prog → Pg
open Go renaming undef → Uz, World → Wq
open Go.ChangeShapes Go.WideShapes Go.ChangeAt Go.RowKit Go.Joins Go.Deep Go.Sort
set_option maxHeartbeats 3200000
section
variable {Xb:Ex}
def V7(t:Int)(B H b:Nat)(v1 v9 v10 v11 v12 v13 v14:Value):Act:=⟨#[.pointer (some ⟨B,0,none⟩),v1,O J t,Uz,.pointer (some ⟨H,0,none⟩),Uz,.pointer (some ⟨H+1,0,none⟩),O J (b:Int),Uz,v9,v10,v11,v12,v13,v14,Uz,Uz,Uz,Uz,Uz,Uz,Uz,Uz,Uz,Uz,Uz,Uz,Uz,Uz,Uz,Uz,Uz,Uz,Uz,Uz,Uz,Uz,Uz,Uz,Uz,Uz,Uz,Uz,Uz,Uz,Uz,Uz,Uz,Uz,Uz,Uz,Uz,Uz,Uz,Uz,Uz,Uz,Uz,Uz,Uz,Uz,Uz,Uz,Uz,Uz,Uz,Uz,Uz,Uz,Uz,Uz,Uz,Uz,Uz,Uz,Uz,Uz,Uz,Uz,Uz,Uz,Uz,Uz,Uz,Uz,Uz,Uz,Uz,Uz,Uz,Uz,Uz,Uz,Uz,Uz,Uz,Uz,Uz,Uz,Uz,Uz,Uz,Uz,Uz,Uz,Uz,Uz,Uz,Uz,Uz,Uz,Uz,Uz,Uz,Uz,Uz,Uz,Uz,Uz,Uz,Uz,Uz,Uz,Uz,Uz,Uz,Uz,Uz,Uz,Uz,Uz,Uz,Uz,Uz,Uz,Uz,Uz,Uz,Uz,Uz,Uz,Uz,Uz,Uz,Uz,Uz,Uz,Uz,Uz,Uz,Uz,Uz,Uz,Uz,Uz],[]⟩
def W71(t:Int)(w w1:Wq)(B b:Nat)(R:Ending->Wq->Prop):Prop :=
 ∀ C,C=Yu (Yu (Tryz.f71.body.getD .skip))->∀ v1 v9 v10 v11 v12 v13 v14,Code.wp Pg C (bodyPost Pg Tryz.f71 R) (V7 t B w.heap.size b v1 v9 v10 v11 v12 v13 v14) w1
theorem a9c(t:Int)(M:Mm)(f:Fr)(B lo:Nat)(aS aH aF aL:Option Addr)(cS cH cF cL:Nat)(aK:Option Addr)(cK:Nat)(w:Wq)
  (m:Mine Xb w B lo aS aH aF aL cS cH cF cL M) (hM:Ok M) (hf:Fit M f) (r:Am w aK cK f.keys) (hz:∀ ad,aK=some ad->¬ Ac B aS aH aF aL ad.block) {R:Ending->Wq->Prop}
  (HR:Hid (∀ (w1:Wq) (b:Nat),LH Xb w w1 B lo aS aH aF aL cS cH cF cL M f aK cK b->W71 t w w1 B b R)) :
  Calls Pg 71 #[.pointer (some ⟨B,0,none⟩),.agg #[O J f.c.kind,O J f.c.a,O J f.c.b,O J f.c.time,O J f.c.bk,O J f.c.slot,O J f.pl,O J f.cur,O J f.prev,O J f.slot,O J f.n,Y aK f.keys.length cK,.bool f.done,O J f.e],O J t] w R:=by
 have hns:=hM.ns
 have hnh:=hM.nh
 obtain⟨b0,b1⟩:0<=Ey M.heads.length f.c/\Ey M.heads.length f.c<M.heads.length:=He hM hf.call
 obtain⟨b,hb⟩:∃ b:Nat,Ey M.heads.length f.c=b:=⟨_,(Int.toNat_of_nonneg b0).symm⟩
 have hbl:b<M.heads.length:=by omega
 have HBk:Hid (∀ W:Wq,Calls Pg 113 #[.agg #[Y aS M.slots.length cS,Y aH M.heads.length cH,Y aF M.free.length cF,Y aL M.locks.length cL,O J M.now],.agg #[O J f.c.kind,O J f.c.a,O J f.c.b,O J f.c.time,O J f.c.bk,O J f.c.slot]] W fun e w'=>e=.returned (O J (b:Int))/\Below W.heap.size W w'):=fun W=>hb ▸ Hf aS aH aF aL _ _ _ _ cS cH cF cL M.now f.c W (by omega)
 obtain⟨of,hof⟩:=frObj f aK cK
 obtain⟨oz,hoz⟩:∃ o:Obj,o=Ae:=⟨_,rfl⟩
 have HE:Hid (Lk Xb w ((w.alloc of).alloc oz) B lo aS aH aF aL cS cH cF cL M f aK cK):=Lk.first m f aK cK hof hoz
 have HL:Hid (∀ w1,Lk Xb w w1 B lo aS aH aF aL cS cH cF cL M f aK cK->W71 t w w1 B b R):=fun w1 h=>HR.out w1 b ⟨h,r,hz,hM,hf,hbl,hb,hns,hnh.2⟩
 obtain⟨f0,f1,f2,f3,f4,f5,f6,f7,f8,f9,f10,f11,f12,f13,ff,fs⟩:=A8 HE.out.fb
 obtain⟨q0,q1,q2,q3,q4,-,-,-,-,-,qs⟩:=Af HE.out.m.box
 unfold Ae at hoz
 clear m hns hnh hM hf r hz b0 b1 hb hbl HR
 go_enter Tryz.func71,Tryz.ntmps71
 go_wp2_with fail
 rw[<- hof,<- hoz]
 generalize (w.alloc of).alloc oz=W0 at *
 subst hof hoz
 have cB:∀ (d:Nat) (os:Array Obj),Calls Pg 113 #[.agg #[Y aS M.slots.length cS,Y aH M.heads.length cH,Y aF M.free.length cF,Y aL M.locks.length cL,O J M.now],.agg #[O J f.c.kind,O J f.c.a,O J f.c.b,O J f.c.time,O J f.c.bk,O J f.c.slot]] (grow (redrawn W0 d) os) fun e w''=>e=.returned (O J (b:Int))/\∃ p:Regrown,w''=grow (redrawn W0 p.d) p.os:=fun d os=>Calls.regrown_of (HBk.out _)
 have Q0:=cell_regrown q0;have Q1:=cell_regrown q1;have Q2:=cell_regrown q2;have Q3:=cell_regrown q3;have Q4:=cell_regrown q4
 have F0:=cell_regrown f0;have F1:=cell_regrown f1;have F2:=cell_regrown f2;have F3:=cell_regrown f3;have F4:=cell_regrown f4;have F5:=cell_regrown f5
 clear q0 q1 q2 q3 q4 qs f0 f1 f2 f3 f4 f5 f6 f7 f8 f9 f10 f11 f12 f13 ff fs
 refine wp_region_quiet_below (by kernel_rfl) (by kernel_rfl) ?_
 repeat (quiet_step (first|exact cB _ _))
 refine wpQuiet_nil ?_
 intro _ hw'
 obtain⟨⟨dq,osq⟩,hw''⟩:=hw'
 subst hw''
 rename_i K hK
 exact hK _ _ (HL.out _ (HE.out.below (below_regrown W0 dq osq)) _ (by kernel_rfl) _ _ _ _ _ _ _)
end
section
variable {Xb:Ex}
section
variable {w w1:Wq} {B lo:Nat} {aS aH aF aL:Option Addr} {cS cH cF cL:Nat} {M:Mm} {f:Fr} {aK:Option Addr} {cK b:Nat}
theorem rdr0(t:Int)(H:LH Xb w w1 B lo aS aH aF aL cS cH cF cL M f aK cK b)(hp:f.pl=0){G:Fr}(HG:Hid ((if Ce M b=-1 then toF f 1 else f)=G)):W71 t w w1 B b (RQ Xb w (Ac B aS aH aF aL) B lo aK cK (Kz M b t) G):=by
 have hns:=H.ns
 have hbl:=H.bl
 have hnh:=H.nh
 obtain⟨f0,f1,f2,f3,f4,f5,f6,f7,f8,f9,f10,f11,f12,f13,ff,fs⟩:=A8 H.e.out.fb
 obtain⟨q0,q1,q2,q3,q4,-,-,-,-,-,qs⟩:=Af H.e.out.m.box
 rintro C rfl v1 v8 v9 v10 v11 v12 v13
 conv=>arg 2;whnf
 unfold V7
 rw[hp] at f6
 clear hp
 go_wp2_with fail
 refine(Q9 t ⟨_,_,_,_,_,_,_,_,H.e.out.m,fun _ h=>h⟩ H.ok.out hbl).mono ?_
 rintro e w2 ⟨rfl,hh2,hf2⟩
 have HE3:Hid _:=H.e.out.after hh2 hf2
 clear hh2 hf2 f0 f1 f2 f3 f4 f5 f6 f7 f8 f9 f10 f11 f12 f13 ff fs
 obtain⟨f0,f1,f2,f3,f4,f5,f6,f7,f8,f9,f10,f11,f12,f13,ff,fs⟩:=A8 HE3.out.fb
 have HE2:=HE3
 clear HE3
 cases hq:(Ce M b == -1)
 ·have h:¬ Ce M b=-1:=by simpa using hq
  rw[if_neg h] at HG
  clear h hq
  have hG:=HG.out
  clear HG
  subst hG
  obtain⟨l9,t9,b9,hQ⟩:=Uh HE2.out H.r.out H.z.out
  clear HE2 H f0 f1 f2 f3 f4 f5 f6 f7 f8 f9 f10 f11 f12 f13 ff fs q0 q1 q2 q3 q4 qs
  go_wp2_with (first|(have h9:=l9.out;refine We rfl (.tmp 4) rfl rfl h9 ?_;clear h9 l9)|refine Bd (f:=f) rfl (.tmp 6) _ rfl rfl rfl t9.out ?_)
  generalize World.setCells _ (w.heap.size+1) 0 (f.enc aK cK)=W9 at *
  exact bodyPost_ret (results_cell_row Tryz.results71 _ W9 (w.heap.size+1) 47 _ (0,0) _ rfl b9.out Tryz.underlying47 rfl (by kernel_rfl)) rfl hQ.out
 ·have h:Ce M b=-1:=by simpa using hq
  rw[if_pos h] at HG
  clear h hq
  go_wp2_with fail
  first|(go_at_call 122;refine(Dl 122 (.inr (.inr (.inl rfl))) _ HE2.out HG.out H.r.out H.z.out).mono ?_)|(go_at_call 73;refine(Bg _ HE2.out HG.out H.r.out H.z.out).mono ?_)
  rintro e w9 ⟨g,a,c,rfl,t9,b9,hQ⟩
  clear HE2 H HG f0 f1 f2 f3 f4 f5 f6 f7 f8 f9 f10 f11 f12 f13 ff fs q0 q1 q2 q3 q4 qs
  go_wp2_with (refine Bd (f:=g) rfl (.tmp 6) _ rfl rfl rfl t9.out ?_)
  generalize w9.setCells (w.heap.size+1) 0 (g.enc a c)=W9 at *
  exact bodyPost_ret (results_cell_row Tryz.results71 _ W9 (w.heap.size+1) 47 _ (0,0) _ rfl b9.out Tryz.underlying47 rfl (by kernel_rfl)) rfl hQ.out
theorem rdr1(t:Int)(H:LH Xb w w1 B lo aS aH aF aL cS cH cF cL M f aK cK b)(hp:f.pl=1){G:Fr}(HG:Hid (Ht f 0 (Bf M b) 2=G)):W71 t w w1 B b (RQ Xb w (Ac B aS aH aF aL) B lo aK cK M G):=by
 have hns:=H.ns
 have hbl:=H.bl
 have hnh:=H.nh
 obtain⟨f0,f1,f2,f3,f4,f5,f6,f7,f8,f9,f10,f11,f12,f13,ff,fs⟩:=A8 H.e.out.fb
 obtain⟨q0,q1,q2,q3,q4,-,-,-,-,-,qs⟩:=Af H.e.out.m.box
 rintro C rfl v1 v8 v9 v10 v11 v12 v13
 conv=>arg 2;whnf
 unfold V7
 rw[hp] at f6
 clear hp
 obtain⟨gH,hH,hc⟩:=H.head
 rw[hH] at q1
 go_wp2_with fail
 have hB0:B<w.heap.size:=H.e.out.lt B (.inl rfl)
 have hg0:gH<w.heap.size:=H.e.out.lt gH (.inr (.inr (.inl ⟨_,hH,rfl⟩)))
 have hBn:B≠w.heap.size:=by omega
 have hgn:gH≠w.heap.size:=by omega
 have hBm:w.heap.size≠B:=by omega
 have hgm:w.heap.size≠gH:=by omega
 rename_i K0 hK0
 apply En (R:=fun a=>∀ W2:Wq,Lk2 Xb w W2 (Ac B aS aH aF aL) B lo M ({ f with prev:=0,cur:=Bf M b }) aK cK->K0 a W2)
 ·intro tail0
  have tail:Hid _:=tail0
  clear tail0
  go_region
  all_goals exact tail.out _ (((H.e.out.store 8 (O J 0) { f with prev:=0 } rfl).store 7 (O J (Bf M b)) { f with prev:=0,cur:=Bf M b } rfl).two.below ⟨rfl,rfl,rfl,Nat.le_refl _,fun _ _=>rfl⟩)
 intro w2 h3
 have HE2:Hid _:=h3
 refine hK0 _ _ ?_
 clear h3 hK0 hB0 hg0 hBn hgn hBm hgm f0 f1 f2 f3 f4 f5 f6 f7 f8 f9 f10 f11 f12 f13 ff fs
 obtain⟨f0,f1,f2,f3,f4,f5,f6,f7,f8,f9,f10,f11,f12,f13,ff,fs⟩:=A8 HE2.out.fb
 go_wp2_with fail
 first|(go_at_call 122;refine(Dl 122 (.inr (.inr (.inl rfl))) _ HE2.out HG.out H.r.out H.z.out).mono ?_)|(go_at_call 73;refine(Bg _ HE2.out HG.out H.r.out H.z.out).mono ?_)
 rintro e w9 ⟨g,a,c,rfl,t9,b9,hQ⟩
 clear HE2 H HG f0 f1 f2 f3 f4 f5 f6 f7 f8 f9 f10 f11 f12 f13 ff fs q0 q1 q2 q3 q4 qs
 go_wp2_with (refine Bd (f:=g) rfl (.tmp 6) _ rfl rfl rfl t9.out ?_)
 generalize w9.setCells (w.heap.size+1) 0 (g.enc a c)=W9 at *
 exact bodyPost_ret (results_cell_row Tryz.results71 _ W9 (w.heap.size+1) 47 _ (0,0) _ rfl b9.out Tryz.underlying47 rfl (by kernel_rfl)) rfl hQ.out
theorem rdr2(t:Int)(H:LH Xb w w1 B lo aS aH aF aL cS cH cF cL M f aK cK b)(hp:f.pl=2)(hc:f.cur<=0){G:Fr}(HG:Hid (Du f 5 5=G)):W71 t w w1 B b (RQ Xb w (Ac B aS aH aF aL) B lo aK cK M G):=by
 have hns:=H.ns
 have hbl:=H.bl
 have hnh:=H.nh
 obtain⟨f0,f1,f2,f3,f4,f5,f6,f7,f8,f9,f10,f11,f12,f13,ff,fs⟩:=A8 H.e.out.fb
 obtain⟨q0,q1,q2,q3,q4,-,-,-,-,-,qs⟩:=Af H.e.out.m.box
 rintro C rfl v1 v8 v9 v10 v11 v12 v13
 conv=>arg 2;whnf
 unfold V7
 rw[hp] at f6
 clear hp
 have hI:decide (0<f.cur)=false:=by rw[decide_eq_false_iff_not];omega
 have HE2:Hid (Lk2 Xb w (w1.setCell ⟨w.heap.size,13,none⟩ (O J 5)) (Ac B aS aH aF aL) B lo M ({ f with e:=5 }) aK cK):=H.e.out.two.store 13 _ _ rfl
 go_wp2_with (go_at_call 115;refine(Dx _ _ hI).mono ?_;rintro e w3 ⟨rfl,rfl⟩)
 first|(go_at_call 122;refine(Dl 122 (.inr (.inr (.inl rfl))) _ HE2.out HG.out H.r.out H.z.out).mono ?_)|(go_at_call 73;refine(Bg _ HE2.out HG.out H.r.out H.z.out).mono ?_)
 rintro e w9 ⟨g,a,c,rfl,t9,b9,hQ⟩
 clear HE2 H HG f0 f1 f2 f3 f4 f5 f6 f7 f8 f9 f10 f11 f12 f13 ff fs q0 q1 q2 q3 q4 qs
 go_wp2_with (refine Bd (f:=g) rfl (.tmp 6) _ rfl rfl rfl t9.out ?_)
 generalize w9.setCells (w.heap.size+1) 0 (g.enc a c)=W9 at *
 exact bodyPost_ret (results_cell_row Tryz.results71 _ W9 (w.heap.size+1) 47 _ (0,0) _ rfl b9.out Tryz.underlying47 rfl (by kernel_rfl)) rfl hQ.out
theorem rdr2b(t:Int)(H:LH Xb w w1 B lo aS aH aF aL cS cH cF cL M f aK cK b)(hp:f.pl=2){j:Nat}(hj:f.cur=(j:Int)+1)(hl:j<M.slots.length){G:Fr}(HG:Hid (toF f (if lkK (Aa M j) f then 4 else 3)=G)):W71 t w w1 B b (RQ Xb w (Ac B aS aH aF aL) B lo aK cK M G):=by
 have hns:=H.ns
 have hbl:=H.bl
 have hnh:=H.nh
 obtain⟨f0,f1,f2,f3,f4,f5,f6,f7,f8,f9,f10,f11,f12,f13,ff,fs⟩:=A8 H.e.out.fb
 obtain⟨q0,q1,q2,q3,q4,-,-,-,-,-,qs⟩:=Af H.e.out.m.box
 rintro C rfl v1 v8 v9 v10 v11 v12 v13
 conv=>arg 2;whnf
 unfold V7
 rw[hp] at f6
 clear hp
 obtain⟨gS,hS,xs,x0,x1,x2,x3,x4,x5⟩:=H.e.out.Iq hns hl
 rw[hS] at q0
 have hl':(j:Int)<(M.slots.length:Int):=by omega
 rw[hj] at f7
 have hI:decide (0<(j:Int)+1)=true:=by rw[decide_eq_true_iff];omega
 have hw1:IntKind.i64.wrap ((j:Int)+1 - 1)=(j:Int):=by rw[IntKind.wrap_i64];omega
 have hw2:wrap64 ((j:Int)+1 - 1)=(j:Int):=by unfold wrap64;omega
 have hw3:(j:Int)+1 - 1=(j:Int):=by omega
 have se:=LH.seq (Aa M j) f
 cases hk:lkK (Aa M j) f
 all_goals
  rw[hk] at se HG
  clear hk
  go_wp2_with (go_at_call 115;refine(Dx _ _ hI).mono ?_;rintro e w3 ⟨rfl,rfl⟩)
  go_quiet (fail)
  go_wp2_with fail
  have HE2:Hid (Lk2 Xb w (w1.drewN nq) (Ac B aS aH aF aL) B lo M (f) aK cK):=(H.e.out.below (w2:=w1.drewN nq) ⟨rfl,rfl,rfl,Nat.le_refl _,fun _ _=>rfl⟩).two
  first|(go_at_call 122;refine(Dl 122 (.inr (.inr (.inl rfl))) _ HE2.out HG.out H.r.out H.z.out).mono ?_)|(go_at_call 73;refine(Bg _ HE2.out HG.out H.r.out H.z.out).mono ?_)
  rintro e w9 ⟨g,a,c,rfl,t9,b9,hQ⟩
  clear HE2 H HG f0 f1 f2 f3 f4 f5 f6 f7 f8 f9 f10 f11 f12 f13 ff fs q0 q1 q2 q3 q4 qs
  go_wp2_with (refine Bd (f:=g) rfl (.tmp 6) _ rfl rfl rfl t9.out ?_)
  generalize w9.setCells (w.heap.size+1) 0 (g.enc a c)=W9 at *
  exact bodyPost_ret (results_cell_row Tryz.results71 _ W9 (w.heap.size+1) 47 _ (0,0) _ rfl b9.out Tryz.underlying47 rfl (by kernel_rfl)) rfl hQ.out
theorem rdr3(t:Int)(H:LH Xb w w1 B lo aS aH aF aL cS cH cF cL M f aK cK b)(hp:f.pl=3){j:Nat}(hj:f.cur=(j:Int)+1)(hl:j<M.slots.length){G:Fr}(HG:Hid (Ht f ((j:Int)+1) (Aa M j).next 2=G)):W71 t w w1 B b (RQ Xb w (Ac B aS aH aF aL) B lo aK cK M G):=by
 have hns:=H.ns
 have hbl:=H.bl
 have hnh:=H.nh
 obtain⟨f0,f1,f2,f3,f4,f5,f6,f7,f8,f9,f10,f11,f12,f13,ff,fs⟩:=A8 H.e.out.fb
 obtain⟨q0,q1,q2,q3,q4,-,-,-,-,-,qs⟩:=Af H.e.out.m.box
 rintro C rfl v1 v8 v9 v10 v11 v12 v13
 conv=>arg 2;whnf
 unfold V7
 rw[hp] at f6
 clear hp
 obtain⟨gS,hS,xs,x0,x1,x2,x3,x4,x5⟩:=H.e.out.Iq hns hl
 rw[hS] at q0
 have hl':(j:Int)<(M.slots.length:Int):=by omega
 rw[hj] at f7
 have hI:decide (0<(j:Int)+1)=true:=by rw[decide_eq_true_iff];omega
 have hw1:IntKind.i64.wrap ((j:Int)+1 - 1)=(j:Int):=by rw[IntKind.wrap_i64];omega
 have hw2:wrap64 ((j:Int)+1 - 1)=(j:Int):=by unfold wrap64;omega
 have hw3:(j:Int)+1 - 1=(j:Int):=by omega
 go_wp2_with (go_at_call 115;refine(Dx _ _ hI).mono ?_;rintro e w3 ⟨rfl,rfl⟩)
 have hB0:B<w.heap.size:=H.e.out.lt B (.inl rfl)
 have hg0:gS<w.heap.size:=H.e.out.lt gS (.inr (.inl ⟨_,hS,rfl⟩))
 have hBn:B≠w.heap.size:=by omega
 have hgn:gS≠w.heap.size:=by omega
 have hBm:w.heap.size≠B:=by omega
 have hgm:w.heap.size≠gS:=by omega
 rename_i K0 hK0
 apply En (R:=fun a=>∀ W2:Wq,Lk2 Xb w W2 (Ac B aS aH aF aL) B lo M ({ f with prev:=(j:Int)+1,cur:=(Aa M j).next }) aK cK->K0 a W2)
 ·intro tail0
  have tail:Hid _:=tail0
  clear tail0
  go_region
  all_goals exact tail.out _ (((H.e.out.store 8 (O J ((j:Int)+1)) { f with prev:=(j:Int)+1 } rfl).store 7 (O J (Aa M j).next) { f with prev:=(j:Int)+1,cur:=(Aa M j).next } rfl).two.below ⟨rfl,rfl,rfl,Nat.le_refl _,fun _ _=>rfl⟩)
 intro w2 h3
 have HE2:Hid _:=h3
 refine hK0 _ _ ?_
 clear h3 hK0 hB0 hg0 hBn hgn hBm hgm x0 x1 x2 x3 x4 x5 xs f0 f1 f2 f3 f4 f5 f6 f7 f8 f9 f10 f11 f12 f13 ff fs
 obtain⟨f0,f1,f2,f3,f4,f5,f6,f7,f8,f9,f10,f11,f12,f13,ff,fs⟩:=A8 HE2.out.fb
 go_wp2_with fail
 first|(go_at_call 122;refine(Dl 122 (.inr (.inr (.inl rfl))) _ HE2.out HG.out H.r.out H.z.out).mono ?_)|(go_at_call 73;refine(Bg _ HE2.out HG.out H.r.out H.z.out).mono ?_)
 rintro e w9 ⟨g,a,c,rfl,t9,b9,hQ⟩
 clear HE2 H HG f0 f1 f2 f3 f4 f5 f6 f7 f8 f9 f10 f11 f12 f13 ff fs q0 q1 q2 q3 q4 qs
 go_wp2_with (refine Bd (f:=g) rfl (.tmp 6) _ rfl rfl rfl t9.out ?_)
 generalize w9.setCells (w.heap.size+1) 0 (g.enc a c)=W9 at *
 exact bodyPost_ret (results_cell_row Tryz.results71 _ W9 (w.heap.size+1) 47 _ (0,0) _ rfl b9.out Tryz.underlying47 rfl (by kernel_rfl)) rfl hQ.out
theorem rdr4(t:Int)(H:LH Xb w w1 B lo aS aH aF aL cS cH cF cL M f aK cK b)(hp:f.pl=4){j:Nat}(hj:f.cur=(j:Int)+1)(hl:j<M.slots.length){G:Fr}(HG:Hid ({ f with slot:=(j:Int),e:=0,pl:=5 } = G)):W71 t w w1 B b (RQ Xb w (Ac B aS aH aF aL) B lo aK cK (I7 M b f.prev j) G):=by
 have hns:=H.ns
 have hbl:=H.bl
 have hnh:=H.nh
 obtain⟨f0,f1,f2,f3,f4,f5,f6,f7,f8,f9,f10,f11,f12,f13,ff,fs⟩:=A8 H.e.out.fb
 obtain⟨q0,q1,q2,q3,q4,-,-,-,-,-,qs⟩:=Af H.e.out.m.box
 rintro C rfl v1 v8 v9 v10 v11 v12 v13
 conv=>arg 2;whnf
 unfold V7
 rw[hp] at f6
 clear hp
 rw[hj] at f7
 have hI:decide (0<(j:Int)+1)=true:=by rw[decide_eq_true_iff];omega
 have hw1:IntKind.i64.wrap ((j:Int)+1 - 1)=(j:Int):=by rw[IntKind.wrap_i64];omega
 have hw2:wrap64 ((j:Int)+1 - 1)=(j:Int):=by unfold wrap64;omega
 have hw3:(j:Int)+1 - 1=(j:Int):=by omega
 have hpr:=H.fit.out.prev
 go_wp2_with (go_at_call 115;refine(Dx _ _ hI).mono ?_;rintro e w3 ⟨rfl,rfl⟩)
 refine(Xp ⟨_,_,_,_,_,_,_,_,H.e.out.m,fun _ h=>h⟩ H.ok.out hl hbl hpr.1 hpr.2).mono ?_
 rintro e w2 ⟨rfl,hh2,hf2⟩
 have HE3:Hid _:=H.e.out.after hh2 hf2
 clear hh2 hf2 f0 f1 f2 f3 f4 f5 f6 f7 f8 f9 f10 f11 f12 f13 ff fs
 obtain⟨f0,f1,f2,f3,f4,f5,f6,f7,f8,f9,f10,f11,f12,f13,ff,fs⟩:=A8 HE3.out.fb
 rw[hj] at f7
 have HE2:Hid (Lk2 Xb w ((w2.setCell ⟨w.heap.size,9,none⟩ (O J (j:Int))).setCell ⟨w.heap.size,13,none⟩ (O J 0)) (Ac B aS aH aF aL) B lo (I7 M b f.prev j) ({ f with slot:=(j:Int),e:=0 }) aK cK):=(HE3.out.store 9 _ { f with slot:=(j:Int) } rfl).store 13 _ _ rfl
 clear HE3
 go_wp2_with fail
 first|(go_at_call 122;refine(Dl 122 (.inr (.inr (.inl rfl))) _ HE2.out HG.out H.r.out H.z.out).mono ?_)|(go_at_call 73;refine(Bg _ HE2.out HG.out H.r.out H.z.out).mono ?_)
 rintro e w9 ⟨g,a,c,rfl,t9,b9,hQ⟩
 clear HE2 H HG f0 f1 f2 f3 f4 f5 f6 f7 f8 f9 f10 f11 f12 f13 ff fs q0 q1 q2 q3 q4 qs
 go_wp2_with (refine Bd (f:=g) rfl (.tmp 6) _ rfl rfl rfl t9.out ?_)
 generalize w9.setCells (w.heap.size+1) 0 (g.enc a c)=W9 at *
 exact bodyPost_ret (results_cell_row Tryz.results71 _ W9 (w.heap.size+1) 47 _ (0,0) _ rfl b9.out Tryz.underlying47 rfl (by kernel_rfl)) rfl hQ.out
theorem rdr5(t:Int)(H:LH Xb w w1 B lo aS aH aF aL cS cH cF cL M f aK cK b)(hp:f.pl=5){G:Fr}(HG:Hid (toF f 6=G)):W71 t w w1 B b (RQ Xb w (Ac B aS aH aF aL) B lo aK cK (L8 M b t) G):=by
 have hns:=H.ns
 have hbl:=H.bl
 have hnh:=H.nh
 obtain⟨f0,f1,f2,f3,f4,f5,f6,f7,f8,f9,f10,f11,f12,f13,ff,fs⟩:=A8 H.e.out.fb
 obtain⟨q0,q1,q2,q3,q4,-,-,-,-,-,qs⟩:=Af H.e.out.m.box
 rintro C rfl v1 v8 v9 v10 v11 v12 v13
 conv=>arg 2;whnf
 unfold V7
 rw[hp] at f6
 clear hp
 go_wp2_with fail
 refine(Lu t ⟨_,_,_,_,_,_,_,_,H.e.out.m,fun _ h=>h⟩ H.ok.out hbl).mono ?_
 rintro e w2 ⟨rfl,hh2,hf2⟩
 have HE3:Hid _:=H.e.out.after hh2 hf2
 clear hh2 hf2 f0 f1 f2 f3 f4 f5 f6 f7 f8 f9 f10 f11 f12 f13 ff fs
 obtain⟨f0,f1,f2,f3,f4,f5,f6,f7,f8,f9,f10,f11,f12,f13,ff,fs⟩:=A8 HE3.out.fb
 have HE2:=HE3
 clear HE3
 go_wp2_with fail
 first|(go_at_call 122;refine(Dl 122 (.inr (.inr (.inl rfl))) _ HE2.out HG.out H.r.out H.z.out).mono ?_)|(go_at_call 73;refine(Bg _ HE2.out HG.out H.r.out H.z.out).mono ?_)
 rintro e w9 ⟨g,a,c,rfl,t9,b9,hQ⟩
 clear HE2 H HG f0 f1 f2 f3 f4 f5 f6 f7 f8 f9 f10 f11 f12 f13 ff fs q0 q1 q2 q3 q4 qs
 go_wp2_with (refine Bd (f:=g) rfl (.tmp 6) _ rfl rfl rfl t9.out ?_)
 generalize w9.setCells (w.heap.size+1) 0 (g.enc a c)=W9 at *
 exact bodyPost_ret (results_cell_row Tryz.results71 _ W9 (w.heap.size+1) 47 _ (0,0) _ rfl b9.out Tryz.underlying47 rfl (by kernel_rfl)) rfl hQ.out
theorem rdr6(t:Int)(H:LH Xb w w1 B lo aS aH aF aL cS cH cF cL M f aK cK b)(hp:f.pl=6){j:Nat}(hj:f.slot=j)(hl:j<M.slots.length){G:Fr}(HG:Hid (Ag { f with slot:=-1 } f.e=G)):W71 t w w1 B b (RQ Xb w (Ac B aS aH aF aL) B lo aK cK (Em M j) G):=by
 have hns:=H.ns
 have hbl:=H.bl
 have hnh:=H.nh
 obtain⟨f0,f1,f2,f3,f4,f5,f6,f7,f8,f9,f10,f11,f12,f13,ff,fs⟩:=A8 H.e.out.fb
 obtain⟨q0,q1,q2,q3,q4,-,-,-,-,-,qs⟩:=Af H.e.out.m.box
 rintro C rfl v1 v8 v9 v10 v11 v12 v13
 conv=>arg 2;whnf
 unfold V7
 rw[hp] at f6
 clear hp
 rw[hj] at f9
 have hs0:¬ (j:Int)=-1:=by omega
 have hS:Dc M (j:Int)=true:=Eg.2 (by omega)
 go_wp2_with fail
 refine(L9 ⟨_,_,_,_,_,_,_,_,H.e.out.m,fun _ h=>h⟩ H.ok.out hS).mono ?_
 rintro e w2 ⟨rfl,hh2,hf2⟩
 have HE3:Hid _:=H.e.out.after hh2 hf2
 clear hh2 hf2 f0 f1 f2 f3 f4 f5 f6 f7 f8 f9 f10 f11 f12 f13 ff fs
 obtain⟨f0,f1,f2,f3,f4,f5,f6,f7,f8,f9,f10,f11,f12,f13,ff,fs⟩:=A8 HE3.out.fb
 have HE2:Hid (Lk2 Xb w (w2.setCell ⟨w.heap.size,9,none⟩ (O J (-1))) (Ac B aS aH aF aL) B lo (Em M j) ({ f with slot:=-1 }) aK cK):=HE3.out.store 9 _ _ rfl
 clear HE3
 go_wp2_with fail
 first|(go_at_call 122;refine(Dl 122 (.inr (.inr (.inl rfl))) _ HE2.out HG.out H.r.out H.z.out).mono ?_)|(go_at_call 73;refine(Bg _ HE2.out HG.out H.r.out H.z.out).mono ?_)
 rintro e w9 ⟨g,a,c,rfl,t9,b9,hQ⟩
 clear HE2 H HG f0 f1 f2 f3 f4 f5 f6 f7 f8 f9 f10 f11 f12 f13 ff fs q0 q1 q2 q3 q4 qs
 go_wp2_with (refine Bd (f:=g) rfl (.tmp 6) _ rfl rfl rfl t9.out ?_)
 generalize w9.setCells (w.heap.size+1) 0 (g.enc a c)=W9 at *
 exact bodyPost_ret (results_cell_row Tryz.results71 _ W9 (w.heap.size+1) 47 _ (0,0) _ rfl b9.out Tryz.underlying47 rfl (by kernel_rfl)) rfl hQ.out
theorem rdr6b(t:Int)(H:LH Xb w w1 B lo aS aH aF aL cS cH cF cL M f aK cK b)(hp:f.pl=6)(hs:f.slot=-1){G:Fr}(HG:Hid (Ag { f with slot:=-1 } f.e=G)):W71 t w w1 B b (RQ Xb w (Ac B aS aH aF aL) B lo aK cK M G):=by
 have hns:=H.ns
 have hbl:=H.bl
 have hnh:=H.nh
 obtain⟨f0,f1,f2,f3,f4,f5,f6,f7,f8,f9,f10,f11,f12,f13,ff,fs⟩:=A8 H.e.out.fb
 obtain⟨q0,q1,q2,q3,q4,-,-,-,-,-,qs⟩:=Af H.e.out.m.box
 rintro C rfl v1 v8 v9 v10 v11 v12 v13
 conv=>arg 2;whnf
 unfold V7
 rw[hp] at f6
 rw[hs] at f9
 have HF:Hid ({ f with slot:=-1,pl:=6 } = { f with slot:=-1 }):=by cases f;simp_all [Hid]
 clear hp hs
 have HE2:Hid (Lk2 Xb w (w1.setCell ⟨w.heap.size,9,none⟩ (O J (-1))) (Ac B aS aH aF aL) B lo M ({ f with slot:=-1,pl:=6 }) aK cK):=HF.out.symm ▸ H.e.out.two.store 9 (O J (-1)) { f with slot:=-1 } rfl
 rw[<- HF.out] at HG
 clear HF
 go_wp2_with fail
 first|(go_at_call 122;refine(Dl 122 (.inr (.inr (.inl rfl))) _ HE2.out HG.out H.r.out H.z.out).mono ?_)|(go_at_call 73;refine(Bg _ HE2.out HG.out H.r.out H.z.out).mono ?_)
 rintro e w9 ⟨g,a,c,rfl,t9,b9,hQ⟩
 clear HE2 H HG f0 f1 f2 f3 f4 f5 f6 f7 f8 f9 f10 f11 f12 f13 ff fs q0 q1 q2 q3 q4 qs
 go_wp2_with (refine Bd (f:=g) rfl (.tmp 6) _ rfl rfl rfl t9.out ?_)
 generalize w9.setCells (w.heap.size+1) 0 (g.enc a c)=W9 at *
 exact bodyPost_ret (results_cell_row Tryz.results71 _ W9 (w.heap.size+1) 47 _ (0,0) _ rfl b9.out Tryz.underlying47 rfl (by kernel_rfl)) rfl hQ.out
theorem b4c(t:Int)(H:LH Xb w w1 B lo aS aH aF aL cS cH cF cL M f aK cK b)(hor:(f.pl=3\/f.pl=4)/\f.cur<=0\/7<=f.pl){G:Fr}(HG:Hid (Du f 8 5=G)):W71 t w w1 B b (RQ Xb w (Ac B aS aH aF aL) B lo aK cK M G):=by
 have hns:=H.ns
 have hbl:=H.bl
 have hnh:=H.nh
 obtain⟨f0,f1,f2,f3,f4,f5,f6,f7,f8,f9,f10,f11,f12,f13,ff,fs⟩:=A8 H.e.out.fb
 obtain⟨q0,q1,q2,q3,q4,-,-,-,-,-,qs⟩:=Af H.e.out.m.box
 rintro C rfl v1 v8 v9 v10 v11 v12 v13
 conv=>arg 2;whnf
 unfold V7
 have HE2:Hid (Lk2 Xb w (w1.setCell ⟨w.heap.size,13,none⟩ (O J 8)) (Ac B aS aH aF aL) B lo M ({ f with e:=8 }) aK cK):=H.e.out.two.store 13 _ _ rfl
 have hA:∀ n:Int,n<7->7<=f.pl->(f.pl==n)=false:=fun n h h'=>by rw[beq_eq_false_iff_ne];omega
 rcases hor with ⟨hp|hp,hc⟩|hp
 all_goals
  first
  | rw[hp] at f6
    try have hI:decide (0<f.cur)=false:=by rw[decide_eq_false_iff_not];omega
    try have hs0:¬ f.slot ≥ 0:=by omega
  | have p0:=hA 0 (by decide) hp
    have p1:=hA 1 (by decide) hp
    have p2:=hA 2 (by decide) hp
    have p3:=hA 3 (by decide) hp
    have p4:=hA 4 (by decide) hp
    have p5:=hA 5 (by decide) hp
    have p6:=hA 6 (by decide) hp
  clear hA
  go_wp2_with (go_at_call 115;refine(Dx _ _ (by assumption)).mono ?_;rintro e w3 ⟨rfl,rfl⟩)
  first|(go_at_call 122;refine(Dl 122 (.inr (.inr (.inl rfl))) _ HE2.out HG.out H.r.out H.z.out).mono ?_)|(go_at_call 73;refine(Bg _ HE2.out HG.out H.r.out H.z.out).mono ?_)
  rintro e w9 ⟨g,a,c,rfl,t9,b9,hQ⟩
  clear HE2 H HG f0 f1 f2 f3 f4 f5 f6 f7 f8 f9 f10 f11 f12 f13 ff fs q0 q1 q2 q3 q4 qs
  go_wp2_with (refine Bd (f:=g) rfl (.tmp 6) _ rfl rfl rfl t9.out ?_)
  generalize w9.setCells (w.heap.size+1) 0 (g.enc a c)=W9 at *
  exact bodyPost_ret (results_cell_row Tryz.results71 _ W9 (w.heap.size+1) 47 _ (0,0) _ rfl b9.out Tryz.underlying47 rfl (by kernel_rfl)) rfl hQ.out
end
end
section
variable {Xb:Ex}
theorem Ij{ops:Array Oper}{o:Oper}{a:Act}{w:Wq}{K:Act->Wq->Prop}{Q:Exit->Act->Wq->Prop}{E:Prop}(hgd:o.guard=none)(s x:Operand)
  (ho:o.op=.call { callee:=.builtin .append,args:=#[s,x],argTypes:=#[45,45] })
  (base:Nat) (v:Value) (n:Nat) (xs:List Value) (hs:a.eval s=v) (hown:w.ownsRow base 30 2 v n xs)
  (ao:Option Addr) (cap:Nat) (l:List (Int × Int)) (hx:a.eval x=Y ao l.length cap) (hrow:Am w ao cap l) (h63:n+l.length<=1000) (hbase:base<=w.heap.size)
  (h:∀ v' w',w'.ownsRow base 30 2 v' (n+l.length) (xs++F6 l)->w.grownBy w' v.ownBlock->(v'.ownBlock=v.ownBlock\/v'.ownBlock=some w.heap.size)->K (a.put o.dst v') w') :
  if Region.wanted o (yielded ops a.tmps)=true then Oper.wp Pg o a w K Q else E:=by
 obtain⟨i0,hi,hz0,hz1,hz2⟩:=info_parts iK
 have hw:Region.wanted o (yielded ops a.tmps)=true:=by simp[Region.wanted,hgd]
 rw[if_pos hw]
 have hrun:∃ v' w',(Builtin.append_ #[45,45] o.type #[v,Y ao l.length cap]).run Pg w=.ok v' w'/\w'.ownsRow base 30 2 v' (n+l.length) (xs++F6 l)/\w.grownBy w' v.ownBlock/\(v'.ownBlock=v.ownBlock\/v'.ownBlock=some w.heap.size):=by
  cases ao with
  | none =>
   have hc:=hrow.nil rfl
   have hl:=hrow.le
   have hl0:l.length=0:=by omega
   have hn:=List.eq_nil_of_length_eq_zero hl0
   subst hn hc
   exact⟨v,w,run_append_owned_none w base 45 o.type 30 i0 2 Tryz.underlying45 hi v n xs hown,by simpa [F6] using hown,⟨rfl,rfl,rfl,Nat.le_refl _,fun _ _ _=>rfl⟩,.inl rfl⟩
  | some ad =>
   obtain⟨v',w',hr,h2,h3,-,h5⟩:=run_append_own_at (P:=Pg) w base 45 o.type 30 i0 (.agg #[O J 0,O J 0]) 2 16 Tryz.underlying45 hi hz0 hz1 hz2 rfl (by first|decide|exact Ex.ne _ _ (by decide)) v n xs hown ad l.length cap (F6 l) (by rw[Kw]) (hrow.src ad rfl) (Ux l) (by unfold maxLen;omega) (by omega) hbase
   exact⟨v',w',hr,h2,h3,h5⟩
 obtain⟨v',w',hr,h2,h3,h5⟩:=hrun
 unfold Oper.wp execOp
 simp only[ho,resolve,invoke,builtin,Sem.run_bind,Sem.run_pure,Result.andThen_ok,List.map_toArray,List.map_cons,List.map_nil,hs,hx,hr]
 exact h v' w' h2 h3 h5
theorem Lk.keys{w w1:Wq}{B lo:Nat}{aS aH aF aL:Option Addr}{cS cH cF cL:Nat}{M:Mm}{f:Fr}{aK:Option Addr}{cK:Nat}(h:Lk Xb w w1 B lo aS aH aF aL cS cH cF cL M f aK cK)(l:List (Int × Int))(n:Nat)(hn:l.length=n)(a:Option Addr)(c:Nat) :
  Lk Xb w (w1.setCell ⟨w.heap.size,11,none⟩ (Y a n c)) B lo aS aH aF aL cS cH cF cL M { f with keys:=l } a c:=by
 subst hn
 refine⟨h.bl.setCell (by simp) _,h.m.same (by simp) (fun k _ hk=>?_),h.lt,?_,by rw[Below.heap_setCell _ _ _ _ (by dsimp only;omega)];exact h.zb⟩
 ·have:=h.lt k hk
  rw[Below.heap_setCell _ _ _ _ (by dsimp only;omega)]
 ·rw[block_setCell h.fb];rfl
def b2w(x:Nat->Value):Act:=⟨#[x 0,x 1,x 2,x 3,x 4,x 5,x 6,x 7,x 8,x 9,x 10,x 11,x 12,x 13,x 14,x 15,x 16,x 17,x 18,x 19,x 20,x 21,x 22,x 23,x 24,x 25,x 26,x 27,x 28,x 29,x 30,x 31,x 32,x 33,x 34,x 35,x 36,x 37,x 38,x 39,x 40,x 41,x 42,x 43,x 44,x 45,x 46,x 47,x 48,x 49,x 50,x 51,x 52,x 53,x 54,x 55,x 56,x 57,x 58,x 59,x 60,x 61,x 62,x 63,x 64,x 65,x 66,x 67,x 68,x 69,x 70,x 71,x 72,x 73,x 74,x 75,x 76,x 77,x 78,x 79,x 80,x 81,x 82,x 83,x 84,x 85,x 86,x 87,x 88,x 89,x 90,x 91,x 92,x 93,x 94,x 95,x 96,x 97,x 98,x 99,x 100,x 101,x 102,x 103,x 104,x 105,x 106,x 107,x 108,x 109,x 110,x 111,x 112,x 113,x 114,x 115,x 116,x 117,x 118,x 119,x 120,x 121,x 122,x 123,x 124,x 125,x 126,x 127,x 128,x 129,x 130,x 131,x 132,x 133,x 134,x 135,x 136,x 137,x 138,x 139,x 140,x 141,x 142,x 143,x 144,x 145,x 146,x 147,x 148,x 149,x 150,x 151,x 152,x 153,x 154,x 155,x 156,x 157,x 158,x 159,x 160,x 161,x 162,x 163,x 164,x 165,x 166,x 167,x 168,x 169,x 170,x 171,x 172,x 173,x 174,x 175,x 176,x 177,x 178,x 179,x 180,x 181,x 182,x 183,x 184,x 185,x 186,x 187,x 188,x 189],[]⟩
theorem a3k{W W':Wq}{x y:Value}{t:TypeId}{A:Nat}(h:W.heap[A]?=some (.cells #[x,y] t (0,0))):∀ j u,[x,y][j]?=some u->W.cell? ((⟨A,0,none⟩:Addr).add j)=some u:=by
 intro j u hu
 rw[Addr.add_lit,cell_of_block h]
 simpa using hu
theorem Y6{W:Wq}{base A:Nat}(h:W.heap[A]?=some (.cells #[] 30 (0,0)))(hb:base<=A):W.ownsRow base 30 2 (Y (some ⟨A,0,none⟩) 0 0) 0 [] :=
 ⟨rfl,.inr ⟨A,0,#[],rfl,hb,h,Nat.le_refl _,Nat.zero_le _,rfl,rfl⟩⟩
theorem a9i(t:Int)(M:Mm)(c:Cl)(prev slot nn ee:Int)(keys:List (Int × Int))(B lo:Nat)(aS aH aF aL:Option Addr)(cS cH cF cL:Nat)(aK:Option Addr)(cK:Nat)(w:Wq)(b:Nat)
  (m:Mine Xb w B lo aS aH aF aL cS cH cF cL M) (HR:Hid (Am w aK cK keys)) (HZ:Hid (∀ ad,aK=some ad->¬ Ac B aS aH aF aL ad.block)) (j:Nat) (s:Sl) (hns:M.slots.length<=12) (hj:j<M.slots.length) (hs:s=Aa M j) (hk5:(c.kind==5)=true) (hkl:keys.length<100) (kk:List (Int × Int)) (hkk:kk=keys ++ [(s.a,s.b)])
  (HBk:Hid (∀ W:Wq,Calls Pg 113 #[.agg #[Y aS M.slots.length cS,Y aH M.heads.length cH,Y aF M.free.length cF,Y aL M.locks.length cL,O J M.now],.agg #[O J c.kind,O J c.a,O J c.b,O J c.time,O J c.bk,O J c.slot]] W fun e w'=>e=.returned (O J (b:Int))/\Below W.heap.size W w')) :
  Calls Pg 74 #[.pointer (some ⟨B,0,none⟩),.agg #[O J c.kind,O J c.a,O J c.b,O J c.time,O J c.bk,O J c.slot,O J 2,O J ((j:Int)+1),O J prev,O J slot,O J nn,Y aK keys.length cK,.bool false,O J ee],O J t] w fun e w'=>a0k w w' e (toF ⟨c,2,(j:Int)+1,prev,slot,nn,kk,false,ee⟩ 3)/\Has Xb w' B lo (Up w (Ac B aS aH aF aL)) (M)/\Fine w w' (Ac B aS aH aF aL):=by
 have HKK:Hid (kk=keys ++ [(s.a,s.b)]/\keys.length<100):=⟨hkk,hkl⟩
 have hkl2:(keys.length:Int)<100:=by omega
 clear hkk hkl
 obtain⟨gS,rfl,oS,lS,kS,-⟩:=Bh m.c.s (by omega)
 have HX:Hid (∀ W,Mine Xb W B lo (some ⟨gS,0,none⟩) aH aF aL cS cH cF cL M->W.cell? ⟨gS,j*6,none⟩=some (O J s.refs)/\W.cell? ⟨gS,j*6+1,none⟩=some (O J s.a)/\W.cell? ⟨gS,j*6+2,none⟩=some (O J s.b) /\
  W.cell? ⟨gS,j*6+3,none⟩=some (O J s.unt)/\W.cell? ⟨gS,j*6+4,none⟩=some (.bool s.inn)/\W.cell? ⟨gS,j*6+5,none⟩=some (O J s.next)/\∀ q,W.frozen? ⟨gS,q,none⟩=false):=fun W m'=>Ci m'.c.s hj hs
 clear hs
 have hw1:IntKind.i64.wrap ((j:Int)+1 - 1)=(j:Int):=by rw[IntKind.wrap_i64];omega
 have hw2:wrap64 ((j:Int)+1 - 1)=(j:Int):=by unfold wrap64;omega
 have hw3:(j:Int)+1 - 1=(j:Int):=by omega
 have HI:Hid (∀ W:Wq,Calls Pg 115 #[O J ((j:Int)+1)] W fun e w'=>e=.returned (.bool true)/\W=w'):=fun W=>a7v _ W (by rw[decide_eq_true_iff];omega)
 obtain⟨of,hof⟩:∃ o:Obj,o=.cells #[O J c.kind,O J c.a,O J c.b,O J c.time,O J c.bk,O J c.slot,O J 2,O J ((j:Int)+1),O J prev,O J slot,O J nn,Y aK keys.length cK,.bool false,O J ee] 47:=⟨_,rfl⟩
 obtain⟨oz,hoz⟩:∃ o:Obj,o=Ae:=⟨_,rfl⟩
 have HE:Hid (Lk Xb w ((w.alloc of).alloc oz) B lo (some ⟨gS,0,none⟩) aH aF aL cS cH cF cL M ⟨c,2,(j:Int)+1,prev,slot,nn,keys,false,ee⟩ aK cK):=Lk.first m ⟨c,2,(j:Int)+1,prev,slot,nn,keys,false,ee⟩ aK cK hof hoz
 obtain⟨f0,f1,f2,f3,f4,f5,f6,f7,f8,f9,f10,f11,f12,f13,ff,fs⟩:=A8 (show ((w.alloc of).alloc oz).heap[w.heap.size]?=some (.cells #[O J c.kind,O J c.a,O J c.b,O J c.time,O J c.bk,O J c.slot,O J 2,O J ((j:Int)+1),O J prev,O J slot,O J nn,Y aK keys.length cK,.bool false,O J ee] 47 (0,0)) from HE.out.fb)
 obtain⟨q0,q1,q2,q3,q4,-,-,-,-,-,qs⟩:=Af HE.out.m.box
 unfold Ae at hoz
 clear m
 go_enter Tryz.func74,Tryz.ntmps74
 go_wp2_with fail
 rw[<- hof,<- hoz]
 generalize (w.alloc of).alloc oz=W0 at *
 subst hof hoz
 have cB:∀ (d:Nat) (os:Array Obj),Calls Pg 113 #[.agg #[Y (some ⟨gS,0,none⟩) M.slots.length cS,Y aH M.heads.length cH,Y aF M.free.length cF,Y aL M.locks.length cL,O J M.now],.agg #[O J c.kind,O J c.a,O J c.b,O J c.time,O J c.bk,O J c.slot]] (grow (redrawn W0 d) os) fun e w''=>e=.returned (O J (b:Int))/\∃ p:Regrown,w''=grow (redrawn W0 p.d) p.os:=fun d os=>Calls.regrown_of (HBk.out _)
 have Xq0:=cell_regrown q0
 have Xq1:=cell_regrown q1
 have Xq2:=cell_regrown q2
 have Xq3:=cell_regrown q3
 have Xq4:=cell_regrown q4
 have Xf0:=cell_regrown f0
 have Xf1:=cell_regrown f1
 have Xf2:=cell_regrown f2
 have Xf3:=cell_regrown f3
 have Xf4:=cell_regrown f4
 have Xf5:=cell_regrown f5
 clear q0 q1 q2 q3 q4 qs
 clear f0 f1 f2 f3 f4 f5 f6 f7 f8 f9 f10 f11 f12 f13 ff fs
 refine wp_region_quiet_below (by kernel_rfl) (by kernel_rfl) ?_
 repeat (quiet_step (first|exact cB _ _))
 refine wpQuiet_nil ?_
 intro _ hw'
 obtain⟨⟨dq,osq⟩,hw''⟩:=hw'
 subst hw''
 have HE1:Hid (Lk Xb w (grow (redrawn W0 dq) osq) B lo (some ⟨gS,0,none⟩) aH aF aL cS cH cF cL M ⟨c,2,(j:Int)+1,prev,slot,nn,keys,false,ee⟩ aK cK):=HE.out.below (below_regrown W0 dq osq)
 generalize grow (redrawn W0 dq) osq=w1 at *
 clear Xq0 Xq1 Xq2 Xq3 Xq4 Xf0 Xf1 Xf2 Xf3 Xf4 Xf5 HE
 clear cB HBk
 obtain⟨f0,f1,f2,f3,f4,f5,f6,f7,f8,f9,f10,f11,f12,f13,ff,fs⟩:=A8 (show w1.heap[w.heap.size]?=some (.cells #[O J c.kind,O J c.a,O J c.b,O J c.time,O J c.bk,O J c.slot,O J 2,O J ((j:Int)+1),O J prev,O J slot,O J nn,Y aK keys.length cK,.bool false,O J ee] 47 (0,0)) from HE1.out.fb)
 obtain⟨q0,q1,q2,q3,q4,-,-,-,-,-,qs⟩:=Af HE1.out.m.box
 obtain⟨x0,x1,x2,x3,x4,x5,xf⟩:=HX.out w1 HE1.out.m
 have xs:gS<w1.heap.size:=cell_lt x0
 go_wp2_with (go_at_call 115;refine(HI.out _).mono ?_;rintro e w3 ⟨rfl,rfl⟩)
 go_region
 all_goals
  go_wp2_with fail
 have HE2:Hid (Lk Xb w (w1.alloc (.cells #[O J s.refs,O J s.a,O J s.b,O J s.unt,.bool s.inn,O J s.next] 64)).drew B lo (some ⟨gS,0,none⟩) aH aF aL cS cH cF cL M ⟨c,2,(j:Int)+1,prev,slot,nn,keys,false,ee⟩ aK cK):=HE1.out.below (A7 w1 (.cells #[O J s.refs,O J s.a,O J s.b,O J s.unt,.bool s.inn,O J s.next] 64)).drew
 have SB:(w1.alloc (.cells #[O J s.refs,O J s.a,O J s.b,O J s.unt,.bool s.inn,O J s.next] 64)).drew.heap[w1.heap.size]?=some (.cells #[O J s.refs,O J s.a,O J s.b,O J s.unt,.bool s.inn,O J s.next] 64):=heap_alloc_new w1 (.cells #[O J s.refs,O J s.a,O J s.b,O J s.unt,.bool s.inn,O J s.next] 64)
 have s1:(w1.alloc (.cells #[O J s.refs,O J s.a,O J s.b,O J s.unt,.bool s.inn,O J s.next] 64)).drew.cell? ⟨w1.heap.size,1,none⟩=some (O J s.a):=by rw[cell_of_block SB];rfl
 have s2:(w1.alloc (.cells #[O J s.refs,O J s.a,O J s.b,O J s.unt,.bool s.inn,O J s.next] 64)).drew.cell? ⟨w1.heap.size,2,none⟩=some (O J s.b):=by rw[cell_of_block SB];rfl
 clear HE1 x0 x1 x2 x3 x4 x5 xf xs SB
 clear q0 q1 q2 q3 q4 qs f0 f1 f2 f3 f4 f5 f6 f7 f8 f9 f10 f11 f12 f13 ff fs
 generalize (w1.alloc (.cells #[O J s.refs,O J s.a,O J s.b,O J s.unt,.bool s.inn,O J s.next] 64)).drew=w2 at *
 generalize w1.heap.size=X at *
 have sl:=cell_lt s1
 have HKr:Hid (∀ W:Wq,Below w2.heap.size w2 W->Am W aK cK keys):=fun W hb=>(HR.out.below HE2.out.bl).below hb
 obtain⟨i0,hi,hz0,hz1,hz2⟩:=info_parts iK
 have hkl:=HKK.out.2
 obtain⟨f0,f1,f2,f3,f4,f5,f6,f7,f8,f9,f10,f11,f12,f13,ff,fs⟩:=A8 (show w2.heap[w.heap.size]?=some (.cells #[O J c.kind,O J c.a,O J c.b,O J c.time,O J c.bk,O J c.slot,O J 2,O J ((j:Int)+1),O J prev,O J slot,O J nn,Y aK keys.length cK,.bool false,O J ee] 47 (0,0)) from HE2.out.fb)
 rename_i K0 hK0
 have tail:Hid (∀ (a:Act) (W:Wq) (g cap:Nat),a=b2w (fun k=>a.tmps.getD k Uz)->a.tmps.getD 4 Uz=.pointer (some ⟨w.heap.size,0,none⟩)->a.tmps.getD 6 Uz=.pointer (some ⟨w.heap.size+1,0,none⟩)->a.tmps.getD 8 Uz=.func (.func 124) #[] #[.pointer (some ⟨w.heap.size,0,none⟩)]->Lk Xb w W B lo (some ⟨gS,0,none⟩) aH aF aL cS cH cF cL M ⟨c,2,(j:Int)+1,prev,slot,nn,kk,false,ee⟩ (some ⟨g,0,none⟩) cap->Dk W (w.heap.size+2) (some ⟨g,0,none⟩) cap kk->K0 a W):=by
  intro a w4 g cap ha h4 h6 h8 hE4 hK5
  obtain⟨x,hx⟩:∃ x:Nat->Value,x=fun k=>a.tmps.getD k Uz:=⟨_,rfl⟩
  have e4:x 4=.pointer (some ⟨w.heap.size,0,none⟩):=by rw[hx];exact h4
  have e6:x 6=.pointer (some ⟨w.heap.size+1,0,none⟩):=by rw[hx];exact h6
  have e8:x 8=.func (.func 124) #[] #[.pointer (some ⟨w.heap.size,0,none⟩)]:=by rw[hx];exact h8
  rw[<- hx] at ha
  rw[ha]
  have HE4:Hid (Lk Xb w w4 B lo (some ⟨gS,0,none⟩) aH aF aL cS cH cF cL M ⟨c,2,(j:Int)+1,prev,slot,nn,kk,false,ee⟩ (some ⟨g,0,none⟩) cap):=hE4
  have HK5:Hid (Dk w4 (w.heap.size+2) (some ⟨g,0,none⟩) cap kk):=hK5
  clear ha h4 h6 h8 hE4 hK5 hx HE2 f0 f1 f2 f3 f4 f5 f6 f7 f8 f9 f10 f11 f12 f13 ff fs s1 s2 sl
  refine hK0 _ _ ?_
  clear hK0
  unfold b2w
  rw[e4,e6,e8]
  clear e4 e6 e8
  go_wp2_with fail
  refine(a9u ⟨c,2,(j:Int)+1,prev,slot,nn,kk,false,ee⟩ 3 w.heap.size (some ⟨g,0,none⟩) cap _ HE4.out.fb).mono ?_
  rintro e w9 ⟨rfl,hf9,hx9⟩
  have HK9:Hid (Dk w9 (w.heap.size+2) (some ⟨g,0,none⟩) cap kk):=HK5.out.fine hf9 (fun ad e=>by have:=(HK5.out.lt ad e).1;omega)
  have HE9:Hid (Lk2 Xb w w9 (Ac B (some ⟨gS,0,none⟩) aH aF aL) B lo M (toF ⟨c,2,(j:Int)+1,prev,slot,nn,kk,false,ee⟩ 3) (some ⟨g,0,none⟩) cap):=HE4.out.two.toA hf9 hx9
  clear HE4 HK5 hf9 hx9
  obtain⟨g0,g1,g2,g3,g4,g5,g6,g7,g8,g9,g10,g11,g12,g13,gf,gs⟩:=A8 HE9.out.zb
  go_wp2
  refine bodyPost_ret (v:=.agg #[O J (toF ⟨c,2,(j:Int)+1,prev,slot,nn,kk,false,ee⟩ 3).c.kind,O J (toF ⟨c,2,(j:Int)+1,prev,slot,nn,kk,false,ee⟩ 3).c.a,O J (toF ⟨c,2,(j:Int)+1,prev,slot,nn,kk,false,ee⟩ 3).c.b,O J (toF ⟨c,2,(j:Int)+1,prev,slot,nn,kk,false,ee⟩ 3).c.time,O J (toF ⟨c,2,(j:Int)+1,prev,slot,nn,kk,false,ee⟩ 3).c.bk,O J (toF ⟨c,2,(j:Int)+1,prev,slot,nn,kk,false,ee⟩ 3).c.slot,O J (toF ⟨c,2,(j:Int)+1,prev,slot,nn,kk,false,ee⟩ 3).pl,O J (toF ⟨c,2,(j:Int)+1,prev,slot,nn,kk,false,ee⟩ 3).cur,O J (toF ⟨c,2,(j:Int)+1,prev,slot,nn,kk,false,ee⟩ 3).prev,O J (toF ⟨c,2,(j:Int)+1,prev,slot,nn,kk,false,ee⟩ 3).slot,O J (toF ⟨c,2,(j:Int)+1,prev,slot,nn,kk,false,ee⟩ 3).n,Y (some ⟨g,0,none⟩) (toF ⟨c,2,(j:Int)+1,prev,slot,nn,kk,false,ee⟩ 3).keys.length cap,.bool (toF ⟨c,2,(j:Int)+1,prev,slot,nn,kk,false,ee⟩ 3).done,O J (toF ⟨c,2,(j:Int)+1,prev,slot,nn,kk,false,ee⟩ 3).e]) (by simp[results,Tryz.results74,go_sem,toF,g0,g1,g2,g3,g4,g5,g6,g7,g8,g9,g10,g11,g12,g13]) rfl ⟨⟨some ⟨g,0,none⟩,cap,rfl,HK9.out.D7⟩,HE9.out.D7⟩
 have hsz:=lt_of_block HE2.out.zb
 have hfin:Hid (∀ (u2:Wq) (g cap:Nat),Below w2.heap.size w2 u2->u2.ownsRow w2.heap.size 30 2 (Y (some ⟨g,0,none⟩) (keys.length+1) cap) (keys.length+1) (F6 keys ++ [O J s.a,O J s.b]) ->
   Lk Xb w (u2.setCell ⟨w.heap.size,11,none⟩ (Y (some ⟨g,0,none⟩) (keys.length+1) cap)) B lo (some ⟨gS,0,none⟩) aH aF aL cS cH cF cL M ⟨c,2,(j:Int)+1,prev,slot,nn,kk,false,ee⟩ (some ⟨g,0,none⟩) cap/\Dk (u2.setCell ⟨w.heap.size,11,none⟩ (Y (some ⟨g,0,none⟩) (keys.length+1) cap)) (w.heap.size+2) (some ⟨g,0,none⟩) cap kk):=by
  intro u2 g cap hb hO2
  have HK4:Dk u2 (w.heap.size+2) (some ⟨g,0,none⟩) cap kk:=⟨by
   rw[HKK.out.1,show (keys ++ [(s.a,s.b)]).length=keys.length+1 by simp,show F6 (keys ++ [(s.a,s.b)])=F6 keys ++ [O J s.a,O J s.b] by simp[F6]]
   exact ownsRow_le hO2 (by omega)⟩
  exact⟨(HE2.out.below hb).keys kk (keys.length+1) (by rw[HKK.out.1];simp) (some ⟨g,0,none⟩) cap,HK4.same (fun ad e=>by have:=(HK4.lt ad e).1;rw[Below.heap_setCell _ _ _ _ (by dsimp only;omega)])⟩
 go_region_law (first 
   | (refine Ij rfl (.tmp 76) (.tmp 78) rfl w2.heap.size (Y (some ⟨w2.heap.size,0,none⟩) 0 0) 0 [] (by simp[Act.eval]) (Y6 (heap_alloc_new w2 (.cells #[] 30)) (Nat.le_refl _)) aK cK keys (by simp[Act.eval]) (HKr.out _ (by exact(A7 w2 (.cells #[] 30)).drew)) (by omega) (by simp[World.drew] <;> omega) ?_;intro v1 u1 hown1 hgrow1 hblk1;have HO1:Hid (∀ W:Wq,Below u1.heap.size u1 W->W.ownsRow w2.heap.size 30 2 v1 keys.length (F6 keys)):=(fun W hb=>Bj (by simpa using hown1) (fun g hg=>hb.block g (hown1.lt g hg).2));have HB1:Hid (Below w2.heap.size w2 u1):=((A7 w2 (.cells #[] 30)).drew).grown hgrow1 (by simp[World.drew] <;> omega) (fun k h=>by cases h;simp <;> omega);have s1u:u1.cell? ⟨X,1,none⟩=some (O J s.a):=((Bv HB1.out).1 _ _ sl).trans s1;have s2u:u1.cell? ⟨X,2,none⟩=some (O J s.b):=((Bv HB1.out).1 _ _ sl).trans s2;have slu:=cell_lt s1u;clear hown1 hgrow1 hblk1)
   | (refine Ij rfl (.tmp 76) (.tmp 78) rfl w2.heap.size (Y (some ⟨w2.heap.size,0,none⟩) 0 0) 0 [] (by simp[Act.eval]) (Y6 ((Below.heap_alloc (w2.alloc (.cells #[] 30)) (.cells #[O J s.a,O J s.b] 30) w2.heap.size (by simp)).trans (heap_alloc_new w2 (.cells #[] 30))) (Nat.le_refl _)) aK cK keys (by simp[Act.eval]) (HKr.out _ (by exact(below_alloc2 w2 (.cells #[] 30) (.cells #[O J s.a,O J s.b] 30)).drew)) (by omega) (by simp[World.drew] <;> omega) ?_;intro v1 u1 hown1 hgrow1 hblk1;have HO1:Hid (∀ W:Wq,Below u1.heap.size u1 W->W.ownsRow w2.heap.size 30 2 v1 keys.length (F6 keys)):=(fun W hb=>Bj (by simpa using hown1) (fun g hg=>hb.block g (hown1.lt g hg).2));have HB1:Hid (Below w2.heap.size w2 u1):=((below_alloc2 w2 (.cells #[] 30) (.cells #[O J s.a,O J s.b] 30)).drew).grown hgrow1 (by simp[World.drew] <;> omega) (fun k h=>by cases h;simp <;> omega);have s1u:u1.cell? ⟨X,1,none⟩=some (O J s.a):=((Bv HB1.out).1 _ _ sl).trans s1;have s2u:u1.cell? ⟨X,2,none⟩=some (O J s.b):=((Bv HB1.out).1 _ _ sl).trans s2;have slu:=cell_lt s1u;have HS1:Hid (u1.heap[w2.heap.size+1]?=some (.cells #[O J s.a,O J s.b] 30)):=(hgrow1.block (w2.heap.size+1) (by simp[World.drew] <;> omega) (by intro h;simp[Value.ownBlock] at h)).trans (show ((w2.alloc (.cells #[] 30)).alloc (.cells #[O J s.a,O J s.b] 30)).heap[w2.heap.size+1]?=some (.cells #[O J s.a,O J s.b] 30) by simpa using heap_alloc_new (w2.alloc (.cells #[] 30)) (.cells #[O J s.a,O J s.b] 30));obtain⟨aX,haX⟩:∃ k,k=w2.heap.size+1:=⟨_,rfl⟩;rw[<- haX] at HS1;clear hown1 hgrow1 hblk1)
   | (refine Ij rfl (.tmp 76) (.tmp 78) rfl w2.heap.size (Y (some ⟨w2.heap.size+1,0,none⟩) 0 0) 0 [] (by simp[Act.eval]) (Y6 (show ((w2.alloc (.cells #[O J s.a,O J s.b] 30)).alloc (.cells #[] 30)).heap[w2.heap.size+1]?=some (.cells #[] 30) by simpa using heap_alloc_new (w2.alloc (.cells #[O J s.a,O J s.b] 30)) (.cells #[] 30)) (Nat.le_succ _)) aK cK keys (by simp[Act.eval]) (HKr.out _ (by exact(below_alloc2 w2 (.cells #[O J s.a,O J s.b] 30) (.cells #[] 30)).drew)) (by omega) (by simp[World.drew] <;> omega) ?_;intro v1 u1 hown1 hgrow1 hblk1;have HO1:Hid (∀ W:Wq,Below u1.heap.size u1 W->W.ownsRow w2.heap.size 30 2 v1 keys.length (F6 keys)):=(fun W hb=>Bj (by simpa using hown1) (fun g hg=>hb.block g (hown1.lt g hg).2));have HB1:Hid (Below w2.heap.size w2 u1):=((below_alloc2 w2 (.cells #[O J s.a,O J s.b] 30) (.cells #[] 30)).drew).grown hgrow1 (by simp[World.drew] <;> omega) (fun k h=>by cases h;simp <;> omega);have s1u:u1.cell? ⟨X,1,none⟩=some (O J s.a):=((Bv HB1.out).1 _ _ sl).trans s1;have s2u:u1.cell? ⟨X,2,none⟩=some (O J s.b):=((Bv HB1.out).1 _ _ sl).trans s2;have slu:=cell_lt s1u;have HS1:Hid (u1.heap[w2.heap.size]?=some (.cells #[O J s.a,O J s.b] 30)):=(hgrow1.block (w2.heap.size) (by simp[World.drew] <;> omega) (by intro h;simp[Value.ownBlock] at h)).trans ((Below.heap_alloc (w2.alloc (.cells #[O J s.a,O J s.b] 30)) (.cells #[] 30) w2.heap.size (by simp)).trans (heap_alloc_new w2 (.cells #[O J s.a,O J s.b] 30)));obtain⟨aX,haX⟩:∃ k,k=w2.heap.size:=⟨_,rfl⟩;rw[<- haX] at HS1;clear hown1 hgrow1 hblk1)
   | (have hS0:=HS1.out;refine Dt _ rfl (.tmp 79) (.tmp 82) 45 rfl w2.heap.size 30 i0 (.agg #[O J 0,O J 0]) 2 16 Tryz.underlying45 hi hz0 hz1 hz2 rfl (by first|decide|exact Ex.ne _ _ (by decide)) v1 keys.length (F6 keys) (by simp[Act.eval]) (HO1.out _ (by exact Below.refl _ u1)) ⟨aX,0,none⟩ 1 1 [O J s.a,O J s.b] (by simp[Act.eval,haX]) rfl (a3k (W':=w) (hS0)) (by intro u hu;simp at hu;rcases hu with rfl|rfl <;> rfl) (by unfold maxLen;omega) (by omega) (by have:=HB1.out.size;simp <;> omega) ?_;intro v2 u2 hown2 hgrow2 hnil2 hblk2;obtain⟨g,cap,rfl⟩:=ownsRow_form hown2 (by omega);have HB2:Hid (Below w2.heap.size w2 u2):=(HB1.out.trans ((Below.refl _ u1).mono HB1.out.size)).grown hgrow2 (by have:=HB1.out.size;simp <;> omega) (fun k h=>by have:=((HO1.out _ (Below.refl _ u1)).lt k h).1;exact this);have HO2:Hid (u2.ownsRow w2.heap.size 30 2 (Y (some ⟨g,0,none⟩) (keys.length+1) cap) (keys.length+1) (F6 keys ++ [O J s.a,O J s.b])):=hown2;clear hown2 hgrow2 hnil2 hblk2 f0 f1 f2 f3 f4 f5 f6 f7 f8 f9 f10 f11 f12 f13 ff fs;have HE3:Hid (Lk Xb w u2 B lo (some ⟨gS,0,none⟩) aH aF aL cS cH cF cL M ⟨c,2,(j:Int)+1,prev,slot,nn,keys,false,ee⟩ aK cK):=HE2.out.below HB2.out;obtain⟨f0,f1,f2,f3,f4,f5,f6,f7,f8,f9,f10,f11,f12,f13,ff,fs⟩:=A8 (show u2.heap[w.heap.size]?=some (.cells #[O J c.kind,O J c.a,O J c.b,O J c.time,O J c.bk,O J c.slot,O J 2,O J ((j:Int)+1),O J prev,O J slot,O J nn,Y aK keys.length cK,.bool false,O J ee] 47 (0,0)) from HE3.out.fb))
   | (refine Dt _ rfl (.tmp 79) (.tmp 82) 45 rfl w2.heap.size 30 i0 (.agg #[O J 0,O J 0]) 2 16 Tryz.underlying45 hi hz0 hz1 hz2 rfl (by first|decide|exact Ex.ne _ _ (by decide)) v1 keys.length (F6 keys) (by simp[Act.eval]) (HO1.out _ (by exact A7 u1 (.cells #[O J s.a,O J s.b] 30))) ⟨u1.heap.size,0,none⟩ 1 1 [O J s.a,O J s.b] (by simp[Act.eval]) rfl (a3k (W':=w) (heap_alloc_new u1 (.cells #[O J s.a,O J s.b] 30))) (by intro u hu;simp at hu;rcases hu with rfl|rfl <;> rfl) (by unfold maxLen;omega) (by omega) (by have:=HB1.out.size;simp <;> omega) ?_;intro v2 u2 hown2 hgrow2 hnil2 hblk2;obtain⟨g,cap,rfl⟩:=ownsRow_form hown2 (by omega);have HB2:Hid (Below w2.heap.size w2 u2):=(HB1.out.trans ((A7 u1 (.cells #[O J s.a,O J s.b] 30)).mono HB1.out.size)).grown hgrow2 (by have:=HB1.out.size;simp <;> omega) (fun k h=>by have:=((HO1.out _ (A7 u1 (.cells #[O J s.a,O J s.b] 30))).lt k h).1;exact this);have HO2:Hid (u2.ownsRow w2.heap.size 30 2 (Y (some ⟨g,0,none⟩) (keys.length+1) cap) (keys.length+1) (F6 keys ++ [O J s.a,O J s.b])):=hown2;clear hown2 hgrow2 hnil2 hblk2 f0 f1 f2 f3 f4 f5 f6 f7 f8 f9 f10 f11 f12 f13 ff fs;have HE3:Hid (Lk Xb w u2 B lo (some ⟨gS,0,none⟩) aH aF aL cS cH cF cL M ⟨c,2,(j:Int)+1,prev,slot,nn,keys,false,ee⟩ aK cK):=HE2.out.below HB2.out;obtain⟨f0,f1,f2,f3,f4,f5,f6,f7,f8,f9,f10,f11,f12,f13,ff,fs⟩:=A8 (show u2.heap[w.heap.size]?=some (.cells #[O J c.kind,O J c.a,O J c.b,O J c.time,O J c.bk,O J c.slot,O J 2,O J ((j:Int)+1),O J prev,O J slot,O J nn,Y aK keys.length cK,.bool false,O J ee] 47 (0,0)) from HE3.out.fb)))
 all_goals exact tail.out _ _ g cap rfl rfl rfl rfl (hfin.out u2 g cap HB2.out HO2.out).1 (hfin.out u2 g cap HB2.out HO2.out).2
end
section
variable {Xb:Ex}
theorem a8x(t:Int)(M:Mm)(f:Fr)(B lo:Nat)(aS aH aF aL:Option Addr)(cS cH cF cL:Nat)(aK:Option Addr)(cK:Nat)(w:Wq)
  (m:Mine Xb w B lo aS aH aF aL cS cH cF cL M) (hM:Ok M) (hf:Fit M f) (hk:f.c.kind=2) (r:Am w aK cK f.keys) (hz:∀ ad,aK=some ad->¬ Ac B aS aH aF aL ad.block) :
  Calls Pg 70 #[.pointer (some ⟨B,0,none⟩),.agg #[O J f.c.kind,O J f.c.a,O J f.c.b,O J f.c.time,O J f.c.bk,O J f.c.slot,O J f.pl,O J f.cur,O J f.prev,O J f.slot,O J f.n,Y aK f.keys.length cK,.bool f.done,O J f.e],O J t] w fun e w'=>Ret w w' e (adF M f) aK cK/\Has Xb w' B lo (Up w (Ac B aS aH aF aL)) (adM t M f)/\Fine w w' (Ac B aS aH aF aL):=by
 refine(a8w (R:=RQ Xb w (Ac B aS aH aF aL) B lo aK cK (adM t M f) (adF M f)) t M f B lo aS aH aF aL cS cH cF cL aK cK w m hM hf r hz fun w1 b H=>?_).mono fun e w' h=>⟨⟨aK,cK,h.1.1,h.1.2,fun _ h=>.inl h,fun _=>⟨rfl,rfl⟩⟩,h.2⟩
 have hb:bkN M f=b:=by unfold bkN;rw[H.bb.out];rfl
 have h8:f.pl=0\/f.pl=1\/f.pl=2\/f.pl=3\/f.pl=4\/f.pl=5\/f.pl=6\/f.pl=7\/8<=f.pl:=by have:=hf.pl;omega
 rcases h8 with hp|hp|hp|hp|hp|hp|hp|hp|hp
 ·rw[adF0 hp,adM0 hp]
  unfold Jf Iy a6j
  obtain⟨-,k2,k3⟩:=Uf hk hf.call
  have:=hM.now
  exact rad0 t H hp hk (by
   by_cases hF:M.free.length=0
   ·exact .inl ⟨hF,by rw[if_pos hF],by rw[if_pos hF]⟩
   ·exact .inr ⟨hF,by rw[if_neg hF],by rw[if_neg hF,if_neg (by omega)]⟩)
 ·rw[adF1 hp,adM1 hp]
  unfold P8 Eu
  rw[hb]
  exact rad1 t H hp rfl
 ·rw[adF2 hp,Il (by omega),hb]
  exact rad2 t H hp rfl
 ·rw[adF3 hp,Il (by omega)]
  unfold Ti
  rcases Io hf with ⟨h,h',-⟩|⟨j,hj,hl,h',hw,-⟩
  ·rw[h'];exact rad3 t H hp h rfl
  ·rw[h',hw];exact rad3b t H hp hj hl rfl
 ·rw[adF4 hp,Il (by omega)]
  unfold Nq
  rcases Io hf with ⟨h,h',-⟩|⟨j,hj,hl,h',hw,-⟩
  ·rw[h'];exact b1t t H (.inl ⟨hp,h⟩) rfl
  ·rw[h',hw];exact rad4 t H hp hj hl rfl
 ·rw[adF5 hp,adM5 hp]
  unfold Ko Jp
  rcases P7 hf with ⟨h,h'⟩|⟨j,hj,hl,h'⟩
  ·rw[h'];exact b1t t H (.inr (.inl ⟨.inl hp,h⟩)) rfl
  ·rw[h',hj,hb];exact rad5 t H hp hj hl (by rw[<- hj];rfl)
 ·rw[adF6 hp,adM6 hp]
  unfold Tf a0m
  rcases P7 hf with ⟨h,h'⟩|⟨j,hj,hl,h'⟩
  ·rw[h'];exact b1t t H (.inr (.inl ⟨.inr hp,h⟩)) rfl
  ·rw[h',hj];exact rad6 t H hp hj hl rfl
 ·rw[adF7 hp,adM7 hp]
  unfold Ew
  rw[hb]
  exact rad7 t H hp rfl
 ·rw[adF8 hp,Il (by omega)]
  exact b1t t H (.inr (.inr hp)) rfl
theorem a9d(t:Int)(M:Mm)(f:Fr)(B lo:Nat)(aS aH aF aL:Option Addr)(cS cH cF cL:Nat)(aK:Option Addr)(cK:Nat)(w:Wq)
  (m:Mine Xb w B lo aS aH aF aL cS cH cF cL M) (hM:Ok M) (hf:Fit M f) (hk:f.c.kind=3) (r:Am w aK cK f.keys) (hz:∀ ad,aK=some ad->¬ Ac B aS aH aF aL ad.block) :
  Calls Pg 71 #[.pointer (some ⟨B,0,none⟩),.agg #[O J f.c.kind,O J f.c.a,O J f.c.b,O J f.c.time,O J f.c.bk,O J f.c.slot,O J f.pl,O J f.cur,O J f.prev,O J f.slot,O J f.n,Y aK f.keys.length cK,.bool f.done,O J f.e],O J t] w fun e w'=>Ret w w' e (drF M f) aK cK/\Has Xb w' B lo (Up w (Ac B aS aH aF aL)) (drM t M f)/\Fine w w' (Ac B aS aH aF aL):=by
 refine(a9c (R:=RQ Xb w (Ac B aS aH aF aL) B lo aK cK (drM t M f) (drF M f)) t M f B lo aS aH aF aL cS cH cF cL aK cK w m hM hf r hz fun w1 b H=>?_).mono fun e w' h=>⟨⟨aK,cK,h.1.1,h.1.2,fun _ h=>.inl h,fun _=>⟨rfl,rfl⟩⟩,h.2⟩
 have hb:bkN M f=b:=by unfold bkN;rw[H.bb.out];rfl
 have h8:f.pl=0\/f.pl=1\/f.pl=2\/f.pl=3\/f.pl=4\/f.pl=5\/f.pl=6\/7<=f.pl:=by have:=hf.pl;omega
 rcases h8 with hp|hp|hp|hp|hp|hp|hp|hp
 ·rw[drF0 hp,drM0 hp]
  unfold Fh Eu
  rw[hb]
  exact rdr0 t H hp rfl
 ·rw[drF1 hp,Ip (by omega),hb]
  exact rdr1 t H hp rfl
 ·rw[drF2 hp,Ip (by omega)]
  unfold Tn
  rcases Io hf with ⟨h,h',-⟩|⟨j,hj,hl,h',hw,-⟩
  ·rw[h'];exact rdr2 t H hp h rfl
  ·rw[h',hw];exact rdr2b t H hp hj hl rfl
 ·rw[drF3 hp,Ip (by omega)]
  unfold Pi
  rcases Io hf with ⟨h,h',-⟩|⟨j,hj,hl,h',hw,-⟩
  ·rw[h'];exact b4c t H (.inl ⟨.inl hp,h⟩) rfl
  ·rw[h',hw,hj];exact rdr3 t H hp hj hl rfl
 ·rw[drF4 hp,drM4 hp]
  unfold Oz Gl
  rcases Io hf with ⟨h,h',-⟩|⟨j,hj,hl,h',hw,-⟩
  ·rw[h'];exact b4c t H (.inl ⟨.inr hp,h⟩) rfl
  ·rw[h',hw,hb];exact rdr4 t H hp hj hl rfl
 ·rw[drF5 hp,drM5 hp]
  unfold Ew
  rw[hb]
  exact rdr5 t H hp rfl
 ·rw[drF6 hp,drM6 hp]
  unfold Rx
  rcases P7 hf with ⟨h,h'⟩|⟨j,hj,hl,h'⟩
  ·rw[h'];exact rdr6b t H hp (by have:=hf.slot.1;omega) rfl
  ·rw[h',hj];exact rdr6 t H hp hj hl rfl
 ·rw[drF7 hp,Ip (by omega)]
  exact b4c t H (.inr hp) rfl
theorem a9k(t:Int)(M:Mm)(f:Fr)(B lo:Nat)(aS aH aF aL:Option Addr)(cS cH cF cL:Nat)(aK:Option Addr)(cK:Nat)(w:Wq)
  (m:Mine Xb w B lo aS aH aF aL cS cH cF cL M) (hM:Ok M) (hf:Fit M f) (hk:f.c.kind=4\/f.c.kind=5) (r:Am w aK cK f.keys) (hz:∀ ad,aK=some ad->¬ Ac B aS aH aF aL ad.block) :
  Calls Pg 74 #[.pointer (some ⟨B,0,none⟩),.agg #[O J f.c.kind,O J f.c.a,O J f.c.b,O J f.c.time,O J f.c.bk,O J f.c.slot,O J f.pl,O J f.cur,O J f.prev,O J f.slot,O J f.n,Y aK f.keys.length cK,.bool f.done,O J f.e],O J t] w fun e w'=>a0l w w' e (swF M f) aK cK f.keys/\Has Xb w' B lo (Up w (Ac B aS aH aF aL)) (swM t M f)/\Fine w w' (Ac B aS aH aF aL):=by
 by_cases hL:f.pl=2/\Ej M f=true/\f.c.kind=5/\f.keys.length<100
 ·obtain⟨hp,ha,h5,hkl⟩:=hL
  obtain⟨j,hj,hl,hw⟩:∃ j:Nat,f.cur=(j:Int)+1/\j<M.slots.length/\f.cur - 1=j:=by
   rcases Io hf with ⟨h,h',-⟩|⟨j,hj,hl,-,hw,-⟩
   ·rw[h'] at ha;cases ha
   ·exact⟨j,hj,hl,hw⟩
  obtain⟨b0,b1⟩:=He hM hf.call
  obtain⟨b,hb⟩:∃ b:Nat,Ey M.heads.length f.c=b:=⟨_,(Int.toNat_of_nonneg b0).symm⟩
  have hns:=hM.ns
  have hnh:=hM.nh
  rw[b2h hp,I4 (by omega)]
  unfold Eh N7
  rw[if_pos ha,if_pos h5,if_pos hkl,hw]
  have hd:=hf.done
  obtain⟨c,pl,cur,prev,slot,nn,keys,done,ee⟩:=f
  simp only at hp hj hd h5 hkl hb r
  subst hp hj hd
  exact(a9i t M c prev slot nn ee keys B lo aS aH aF aL cS cH cF cL aK cK w b m r hz j _ hns hl rfl (by simp[h5]) hkl _ rfl (fun W=>hb ▸ Hf aS aH aF aL _ _ _ _ cS cH cF cL M.now c W (by omega))).mono fun _ _ h=>⟨.inr h.1,h.2⟩
 have hky:(swF M f).keys=f.keys:=by
  by_cases h2:f.pl=2
  ·rw[b2h h2]
   unfold Eh N7
   by_cases ha:Ej M f=true
   ·rw[if_pos ha]
    by_cases h5:f.c.kind=5
    ·rw[if_pos h5,if_neg (fun h=>hL ⟨h2,ha,h5,h⟩)]
    ·rw[if_neg h5];split <;> rfl
   ·rw[if_neg ha];rfl
  ·unfold swF Fh Jm Jy Nk
   repeat' split
   all_goals first|rfl|exact absurd (by assumption) h2
 refine(a9j (R:=RQ Xb w (Ac B aS aH aF aL) B lo aK cK (swM t M f) (swF M f)) t M f B lo aS aH aF aL cS cH cF cL aK cK w m hM hf r hz fun w1 b H=>?_).mono fun e w' h=>⟨.inl ⟨h.1.1,hky,h.1.2⟩,h.2⟩
 have hb:bkN M f=b:=by unfold bkN;rw[H.bb.out];rfl
 have h8:f.pl=0\/f.pl=1\/f.pl=2\/f.pl=3\/f.pl=4\/f.pl=5\/f.pl=6\/7<=f.pl:=by have:=hf.pl;omega
 rcases h8 with hp|hp|hp|hp|hp|hp|hp|hp
 ·rw[swF0 hp,swM0 hp]
  unfold Fh Eu
  rw[hb]
  exact rsw0 t H hp rfl
 ·rw[swF1 hp,I4 (by omega),hb]
  exact rsw1 t H hp rfl
 ·rw[b2h hp,I4 (by omega)]
  unfold Eh N7
  rcases Io hf with ⟨h,h',-⟩|⟨j,hj,hl,h',hw,-⟩
  ·rw[h'];exact rsw2 t H hp h rfl
  ·rw[h',hw]
   by_cases h5:f.c.kind=5
   ·have hkl:¬ f.keys.length<100:=fun h=>hL ⟨hp,h',h5,h⟩
    rw[if_pos rfl,if_pos h5,if_neg hkl]
    exact rsw2b t H hp hj hl (by simp[h5]) (by omega) rfl
   ·rw[if_pos rfl,if_neg h5]
    exact rsw2c t H hp hj hl (by simp[h5]) (by split <;> rfl)
 ·rw[swF3 hp,I4 (by omega)]
  unfold Jm
  rcases Io hf with ⟨h,h',-⟩|⟨j,hj,hl,h',hw,-⟩
  ·rw[h'];exact b2f t H (.inl ⟨.inl hp,h⟩) rfl
  ·rw[h',hw,hj];exact rsw3 t H hp hj hl rfl
 ·rw[swF4 hp,swM4 hp]
  unfold Jy Gl
  rcases Io hf with ⟨h,h',-⟩|⟨j,hj,hl,h',hw,-⟩
  ·rw[h'];exact b2f t H (.inl ⟨.inr hp,h⟩) rfl
  ·rw[h',hw,hb];exact rsw4 t H hp hj hl rfl
 ·rw[swF5 hp,swM5 hp]
  unfold Nk Rx
  rcases P7 hf with ⟨h,h'⟩|⟨j,hj,hl,h'⟩
  ·rw[h'];exact b2f t H (.inr (.inl ⟨hp,h⟩)) rfl
  ·rw[h',hj];exact rsw5 t H hp hj hl rfl
 ·rw[swF6 hp,swM6 hp]
  unfold Ew
  rw[hb]
  exact rsw6 t H hp rfl
 ·rw[swF7 hp,I4 (by omega)]
  exact b2f t H (.inr (.inr hp)) rfl
end
section
variable {Xb:Ex}
theorem Zi{M:Mm}{f:Fr}{b:Nat}(hb:Ey M.heads.length f.c=b)(hpl:0<=f.pl/\f.pl<=9)(hcu:f.cur<=M.slots.length)(hsl:f.slot<M.slots.length) :
  (f.pl=0/\lkF M f=Rt f (Bf M b) 1/\lkM M f=M) \/
  (f.pl=1/\∃ j:Nat,f.cur=(j:Int)+1/\j<M.slots.length/\lkF M f=toF f (if lkK (Aa M j) f then 3 else 2)/\lkM M f=M) \/
  (f.pl=1/\f.cur<=0/\lkF M f=(if f.cur=-1 - (b:Int) then Ag f 5 else toF f 0)/\lkM M f=M) \/
  (f.pl=2/\∃ j:Nat,f.cur=(j:Int)+1/\j<M.slots.length/\lkF M f=Rt f (Aa M j).next 1/\lkM M f=M) \/
  (f.pl=3/\∃ j:Nat,f.cur=(j:Int)+1/\j<M.slots.length/\lkF M f=(if Qk M j then Fp f j 4 else toF f 0)/\lkM M f=holdN M j) \/
  (∃ j:Nat,f.slot=j/\j<M.slots.length/\((f.pl=4/\lkF M f=(if lkK (Aa M j) f && (Aa M j).inn then (if M.now<(Aa M j).unt then Ag f 0 else toF f 6) else toF f 5)/\lkM M f=M)\/(f.pl=5/\lkF M f=Fp f (-1) 0/\lkM M f=Em M j)\/(f.pl=6/\lkF M f=Ag { f with slot:=-1 } 5/\lkM M f=Em M j))) \/
  (((f.pl=2\/f.pl=3)/\f.cur<=0\/(f.pl=4\/f.pl=5\/f.pl=6)/\f.slot<0\/7<=f.pl)/\lkF M f=toF f 0/\lkM M f=M):=by
 have hA:∀ j:Nat,f.cur=(j:Int)+1->j<M.slots.length->Ej M f=true/\f.cur - 1=j:=fun j e h=>⟨Es.2 (by omega),by omega⟩
 have hA':f.cur<=0->Ej M f=false:=fun h=>by
  cases hx:Ej M f
  ·rfl
  ·have:=Es.1 hx;omega
 have hS:∀ j:Nat,f.slot=j->j<M.slots.length->Dc M f.slot=true:=fun j e h=>Eg.2 (by omega)
 have hS':f.slot<0->Dc M f.slot=false:=fun h=>by
  cases hx:Dc M f.slot
  ·rfl
  ·have:=Eg.1 hx;omega
 have hc:f.cur<=0\/∃ j:Nat,f.cur=(j:Int)+1/\j<M.slots.length:=by
  by_cases h:f.cur<=0
  ·exact .inl h
  ·exact .inr ⟨(f.cur - 1).toNat,by omega,by omega⟩
 have hs:f.slot<0\/∃ j:Nat,f.slot=j/\j<M.slots.length:=by
  by_cases h:f.slot<0
  ·exact .inl h
  ·exact .inr ⟨f.slot.toNat,by omega,by omega⟩
 have h7:f.pl=0\/f.pl=1\/f.pl=2\/f.pl=3\/f.pl=4\/f.pl=5\/f.pl=6\/7<=f.pl:=by omega
 unfold lkF lkM
 rcases h7 with h|h|h|h|h|h|h|h
 ·simp[h,Qy,hb]
 ·rcases hc with hc|⟨j,hj,hl⟩
  ·simp[h,U0,hb,hA' hc,hc]
  ·obtain⟨a1,a2⟩:=hA j hj hl
   refine .inr (.inl ⟨h,j,hj,hl,?_,by simp[h]⟩)
   have:¬ f.cur=-1 - (b:Int):=by omega
   simp[h,U0,hb,a1,a2,this]
 ·rcases hc with hc|⟨j,hj,hl⟩
  ·simp[h,Lr,hA' hc,hc]
  ·obtain⟨a1,a2⟩:=hA j hj hl
   exact .inr (.inr (.inr (.inl ⟨h,j,hj,hl,by simp[h,Lr,a1,a2],by simp[h]⟩)))
 ·rcases hc with hc|⟨j,hj,hl⟩
  ·simp[h,Ll,Lm,hA' hc,hc]
  ·obtain⟨a1,a2⟩:=hA j hj hl
   exact .inr (.inr (.inr (.inr (.inl ⟨h,j,hj,hl,by simp[h,Ll,a1,a2],by simp[h,Lm,a1,a2]⟩))))
 ·rcases hs with hs|⟨j,hj,hl⟩
  ·simp[h,Jv,hS' hs,hs]
  ·have a1:=hS j hj hl
   exact .inr (.inr (.inr (.inr (.inr (.inl ⟨j,hj,hl,.inl ⟨h,by simp[h,Jv,hj ▸ a1,hj],by simp[h]⟩⟩)))))
 ·rcases hs with hs|⟨j,hj,hl⟩
  ·simp[h,J4,Ee,hS' hs,hs]
  ·have a1:=hS j hj hl
   exact .inr (.inr (.inr (.inr (.inr (.inl ⟨j,hj,hl,.inr (.inl ⟨h,by simp[h,J4,a1],by simp[h,Ee,hj ▸ a1,hj]⟩)⟩)))))
 ·rcases hs with hs|⟨j,hj,hl⟩
  ·simp[h,Lp,Ee,hS' hs,hs]
  ·have a1:=hS j hj hl
   exact .inr (.inr (.inr (.inr (.inr (.inl ⟨j,hj,hl,.inr (.inr ⟨h,by simp[h,Lp,a1],by simp[h,Ee,hj ▸ a1,hj]⟩)⟩)))))
 ·refine .inr (.inr (.inr (.inr (.inr (.inr ⟨.inr (.inr h),?_,?_⟩)))))
  ·rw[if_neg (by omega),if_neg (by omega),if_neg (by omega),if_neg (by omega),if_neg (by omega),if_neg (by omega),if_neg (by omega)]
  ·rw[if_neg (by omega),if_neg (by omega),if_neg (by omega)]
theorem a1u(M:Mm)(f:Fr)(B lo:Nat)(aS aH aF aL:Option Addr)(cS cH cF cL:Nat)(aK:Option Addr)(cK:Nat)(w:Wq)
  (m:Mine Xb w B lo aS aH aF aL cS cH cF cL M) (hM:Ok M) (hf:Fit M f) (r:Am w aK cK f.keys) (hz:∀ ad,aK=some ad->¬ Ac B aS aH aF aL ad.block) :
  Calls Pg 69 #[.pointer (some ⟨B,0,none⟩),.agg #[O J f.c.kind,O J f.c.a,O J f.c.b,O J f.c.time,O J f.c.bk,O J f.c.slot,O J f.pl,O J f.cur,O J f.prev,O J f.slot,O J f.n,Y aK f.keys.length cK,.bool f.done,O J f.e]] w fun e w'=>Ret w w' e (lkF M f) aK cK/\Has Xb w' B lo (Up w (Ac B aS aH aF aL)) (lkM M f)/\Fine w w' (Ac B aS aH aF aL):=by
 refine(a9h (R:=RQ Xb w (Ac B aS aH aF aL) B lo aK cK (lkM M f) (lkF M f)) M f B lo aS aH aF aL cS cH cF cL aK cK w m hM hf r hz fun w1 b H=>?_).mono fun e w' h=>⟨⟨aK,cK,h.1.1,h.1.2,fun _ h=>.inl h,fun _=>⟨rfl,rfl⟩⟩,h.2⟩
 rcases Zi H.bb.out hf.pl hf.cur.2 hf.slot.2 with ⟨hp,hG,hN⟩|⟨hp,j,hj,hl,hG,hN⟩|⟨hp,hc,hG,hN⟩|⟨hp,j,hj,hl,hG,hN⟩|⟨hp,j,hj,hl,hG,hN⟩|⟨j,hj,hl,⟨hp,hG,hN⟩|⟨hp,hG,hN⟩|⟨hp,hG,hN⟩⟩|⟨hor,hG,hN⟩
 all_goals rw[hN]
 ·exact rlk0 H hp hG.symm
 ·exact rlk1 H hp hj hl hG.symm
 ·exact rlk2 H hp hc hG.symm
 ·exact rlk3 H hp hj hl hG.symm
 ·exact rlk4 H hp hj hl hG.symm
 ·exact rlk5 H hp hj hl hG.symm
 ·exact rlk6 H (.inl ⟨hp,hG.symm⟩) hj hl
 ·exact rlk6 H (.inr ⟨hp,hG.symm⟩) hj hl
 ·exact rlk8 H hor hG.symm
end
end Go.Proofs.YthhgoenomehobaaGreat.mm
