/- Parts. -/
import Derived.Test.YthhgoenomehobaaGreatP23
import Derived.Test.YthhgoenomehobaaGreatP14
namespace Go.Proofs.YthhgoenomehobaaGreat.mm
set_option maxRecDepth 100000
set_option linter.unusedVariables false
open Go.Value renaming int → O, slice → Y
open Go.IntKind renaming i64 → J
open Go.Proofs.Tryz renaming prog → Pg
open Go renaming undef → Uz, World → Wq
open Go.ChangeShapes Go.WideShapes Go.ChangeAt Go.RowKit Go.Joins Go.Deep Go.Sort
set_option maxHeartbeats 3200000
section
variable {Xb:Ex}
def Y5(B H b:Nat)(v1 v8 v9 v10 v11 v12 v13:Value):Act:=⟨#[.pointer (some ⟨B,0,none⟩),v1,Uz,.pointer (some ⟨H,0,none⟩),.pointer (some ⟨H+1,0,none⟩),O J (b:Int),Uz,Uz,v8,v9,v10,v11,v12,v13,Uz,Uz,Uz,Uz,Uz,Uz,Uz,Uz,Uz,Uz,Uz,Uz,Uz,Uz,Uz,Uz,Uz,Uz,Uz,Uz,Uz,Uz,Uz,Uz,Uz,Uz,Uz,Uz,Uz,Uz,Uz,Uz,Uz,Uz,Uz,Uz,Uz,Uz,Uz,Uz,Uz,Uz,Uz,Uz,Uz,Uz,Uz,Uz,Uz,Uz,Uz,Uz,Uz,Uz,Uz,Uz,Uz,Uz,Uz,Uz,Uz,Uz,Uz,Uz,Uz,Uz,Uz,Uz,Uz,Uz,Uz,Uz,Uz,Uz,Uz,Uz,Uz,Uz,Uz,Uz,Uz,Uz,Uz,Uz,Uz,Uz,Uz,Uz,Uz,Uz,Uz,Uz,Uz,Uz,Uz,Uz,Uz,Uz,Uz,Uz,Uz,Uz,Uz,Uz,Uz,Uz,Uz,Uz,Uz,Uz,Uz,Uz,Uz,Uz,Uz,Uz,Uz,Uz,Uz,Uz,Uz,Uz,Uz,Uz,Uz,Uz,Uz,Uz,Uz,Uz,Uz,Uz,Uz,Uz,Uz,Uz,Uz,Uz,Uz,Uz,Uz,Uz,Uz,Uz,Uz,Uz,Uz,Uz,Uz,Uz,Uz,Uz,Uz,Uz,Uz,Uz,Uz,Uz,Uz,Uz,Uz,Uz,Uz,Uz,Uz,Uz,Uz,Uz,Uz,Uz,Uz,Uz,Uz,Uz,Uz,Uz],[]⟩
def W69(w w1:Wq)(B b:Nat)(R:Ending->Wq->Prop):Prop :=
 ∀ C,C=Yu (Yu (Tryz.f69.body.getD .skip))->∀ v1 v8 v9 v10 v11 v12 v13,Code.wp Pg C (bodyPost Pg Tryz.f69 R) (Y5 B w.heap.size b v1 v8 v9 v10 v11 v12 v13) w1
theorem a9h(M:Mm)(f:Fr)(B lo:Nat)(aS aH aF aL:Option Addr)(cS cH cF cL:Nat)(aK:Option Addr)(cK:Nat)(w:Wq)
  (m:Mine Xb w B lo aS aH aF aL cS cH cF cL M) (hM:Ok M) (hf:Fit M f) (r:Am w aK cK f.keys) (hz:∀ ad,aK=some ad->¬ Ac B aS aH aF aL ad.block) {R:Ending->Wq->Prop}
  (HR:Hid (∀ (w1:Wq) (b:Nat),LH Xb w w1 B lo aS aH aF aL cS cH cF cL M f aK cK b->W69 w w1 B b R)) :
  Calls Pg 69 #[.pointer (some ⟨B,0,none⟩),.agg #[O J f.c.kind,O J f.c.a,O J f.c.b,O J f.c.time,O J f.c.bk,O J f.c.slot,O J f.pl,O J f.cur,O J f.prev,O J f.slot,O J f.n,Y aK f.keys.length cK,.bool f.done,O J f.e]] w R:=by
 have hns:=hM.ns
 have hnh:=hM.nh
 obtain⟨b0,b1⟩:0<=Ey M.heads.length f.c/\Ey M.heads.length f.c<M.heads.length:=He hM hf.call
 obtain⟨b,hb⟩:∃ b:Nat,Ey M.heads.length f.c=b:=⟨_,(Int.toNat_of_nonneg b0).symm⟩
 have hbl:b<M.heads.length:=by omega
 have HBk:Hid (∀ W:Wq,Calls Pg 113 #[.agg #[Y aS M.slots.length cS,Y aH M.heads.length cH,Y aF M.free.length cF,Y aL M.locks.length cL,O J M.now],.agg #[O J f.c.kind,O J f.c.a,O J f.c.b,O J f.c.time,O J f.c.bk,O J f.c.slot]] W fun e w'=>e=.returned (O J (b:Int))/\Below W.heap.size W w'):=fun W=>hb ▸ Hf aS aH aF aL _ _ _ _ cS cH cF cL M.now f.c W (by omega)
 obtain⟨of,hof⟩:=frObj f aK cK
 obtain⟨oz,hoz⟩:∃ o:Obj,o=Ae:=⟨_,rfl⟩
 have HE:Hid (Lk Xb w ((w.alloc of).alloc oz) B lo aS aH aF aL cS cH cF cL M f aK cK):=Lk.first m f aK cK hof hoz
 have HL:Hid (∀ w1,Lk Xb w w1 B lo aS aH aF aL cS cH cF cL M f aK cK->W69 w w1 B b R):=fun w1 h=>HR.out w1 b ⟨h,r,hz,hM,hf,hbl,hb,hns,hnh.2⟩
 obtain⟨f0,f1,f2,f3,f4,f5,f6,f7,f8,f9,f10,f11,f12,f13,ff,fs⟩:=A8 HE.out.fb
 obtain⟨q0,q1,q2,q3,q4,-,-,-,-,-,qs⟩:=Af HE.out.m.box
 unfold Ae at hoz
 clear m hns hnh hM hf r hz b0 b1 hb hbl HR
 go_enter Tryz.func69,Tryz.ntmps69
 go_wp2_with fail
 rw[<- hof,<- hoz]
 generalize (w.alloc of).alloc oz=W0 at *
 subst hof hoz
 have cB:∀ (d:Nat) (os:Array Obj),Calls Pg 113 #[.agg #[Y aS M.slots.length cS,Y aH M.heads.length cH,Y aF M.free.length cF,Y aL M.locks.length cL,O J M.now],.agg #[O J f.c.kind,O J f.c.a,O J f.c.b,O J f.c.time,O J f.c.bk,O J f.c.slot]] (grow (redrawn W0 d) os) fun e w''=>e=.returned (O J (b:Int))/\∃ p:Regrown,w''=grow (redrawn W0 p.d) p.os:=fun d os=>Calls.regrown_of (HBk.out _)
 have Q0:=cell_regrown q0;have Q1:=cell_regrown q1;have Q2:=cell_regrown q2;have Q3:=cell_regrown q3;have Q4:=cell_regrown q4
 have F0:=cell_regrown f0;have F1:=cell_regrown f1;have F2:=cell_regrown f2;have F3:=cell_regrown f3;have F4:=cell_regrown f4;have F5:=cell_regrown f5
 clear q0 q1 q2 q3 q4 qs f0 f1 f2 f3 f4 f5 f6 f7 f8 f9 f10 f11 f12 f13 ff fs
 refine wp_region_quiet_below (by kernel_rfl) (by kernel_rfl) ?_
 repeat (quiet_step (first|exact cB _ _))
 refine wpQuiet_nil ?_
 intro _ hw'
 obtain⟨⟨dq,osq⟩,hw''⟩:=hw'
 subst hw''
 rename_i K hK
 exact hK _ _ (HL.out _ (HE.out.below (below_regrown W0 dq osq)) _ (by kernel_rfl) _ _ _ _ _ _ _)
end
section
variable {Xb:Ex}
section
variable {w w1:Wq} {B lo:Nat} {aS aH aF aL:Option Addr} {cS cH cF cL:Nat} {M:Mm} {f:Fr} {aK:Option Addr} {cK b:Nat}
theorem rlk0(H:LH Xb w w1 B lo aS aH aF aL cS cH cF cL M f aK cK b)(hp:f.pl=0){G:Fr}(HG:Hid (Rt f (Bf M b) 1=G)):W69 w w1 B b (RQ Xb w (Ac B aS aH aF aL) B lo aK cK M G):=by
 have hns:=H.ns
 have hbl:=H.bl
 have hnh:=H.nh
 obtain⟨f0,f1,f2,f3,f4,f5,f6,f7,f8,f9,f10,f11,f12,f13,ff,fs⟩:=A8 H.e.out.fb
 obtain⟨q0,q1,q2,q3,q4,-,-,-,-,-,qs⟩:=Af H.e.out.m.box
 rintro C rfl v1 v8 v9 v10 v11 v12 v13
 conv=>arg 2;whnf
 unfold Y5
 rw[hp] at f6
 obtain⟨gH,hH,hc⟩:=H.head
 rw[hH] at q1
 have HE2:Hid (Lk2 Xb w (w1.setCell ⟨w.heap.size,7,none⟩ (O J (Bf M b))) (Ac B aS aH aF aL) B lo M ({ f with cur:=Bf M b }) aK cK):=H.e.out.two.store 7 _ _ rfl
 go_wp2_with fail
 first|(go_at_call 114;refine(Dl 114 (.inl rfl) _ HE2.out HG.out H.r.out H.z.out).mono ?_)|(go_at_call 73;refine(Bg _ HE2.out HG.out H.r.out H.z.out).mono ?_)
 rintro e w9 ⟨g,a,c,rfl,t9,b9,hQ⟩
 clear HE2 H HG f0 f1 f2 f3 f4 f5 f6 f7 f8 f9 f10 f11 f12 f13 ff fs q0 q1 q2 q3 q4 qs
 go_wp2_with (refine Bd (f:=g) rfl (.tmp 4) _ rfl rfl rfl t9.out ?_)
 generalize w9.setCells (w.heap.size+1) 0 (g.enc a c)=W9 at *
 exact bodyPost_ret (results_cell_row Tryz.results69 _ W9 (w.heap.size+1) 47 _ (0,0) _ rfl b9.out Tryz.underlying47 rfl (by kernel_rfl)) rfl hQ.out
theorem rlk1(H:LH Xb w w1 B lo aS aH aF aL cS cH cF cL M f aK cK b)(hp:f.pl=1){j:Nat}(hj:f.cur=(j:Int)+1)(hl:j<M.slots.length){G:Fr}(HG:Hid (toF f (if lkK (Aa M j) f then 3 else 2)=G)):W69 w w1 B b (RQ Xb w (Ac B aS aH aF aL) B lo aK cK M G):=by
 have hns:=H.ns
 have hbl:=H.bl
 have hnh:=H.nh
 obtain⟨f0,f1,f2,f3,f4,f5,f6,f7,f8,f9,f10,f11,f12,f13,ff,fs⟩:=A8 H.e.out.fb
 obtain⟨q0,q1,q2,q3,q4,-,-,-,-,-,qs⟩:=Af H.e.out.m.box
 rintro C rfl v1 v8 v9 v10 v11 v12 v13
 conv=>arg 2;whnf
 unfold Y5
 rw[hp] at f6
 obtain⟨gS,hS,xs,x0,x1,x2,x3,x4,x5⟩:=H.e.out.Iq hns hl
 rw[hS] at q0
 have hl':(j:Int)<(M.slots.length:Int):=by omega
 rw[hj] at f7
 have hI:decide (0<(j:Int)+1)=true:=by rw[decide_eq_true_iff];omega
 have hw1:IntKind.i64.wrap ((j:Int)+1 - 1)=(j:Int):=by rw[IntKind.wrap_i64];omega
 have hw2:wrap64 ((j:Int)+1 - 1)=(j:Int):=by unfold wrap64;omega
 have hw3:(j:Int)+1 - 1=(j:Int):=by omega
 have se:=LH.seq (Aa M j) f
 cases hk:lkK (Aa M j) f
 all_goals
  rw[hk] at se HG
  clear hk
  go_wp2_with (go_at_call 115;refine(Dx _ _ hI).mono ?_;rintro e w3 ⟨rfl,rfl⟩)
  go_quiet (fail)
  go_wp2_with fail
  have HE2:Hid (Lk2 Xb w (w1.drewN nq) (Ac B aS aH aF aL) B lo M (f) aK cK):=(H.e.out.below (w2:=w1.drewN nq) ⟨rfl,rfl,rfl,Nat.le_refl _,fun _ _=>rfl⟩).two
  first|(go_at_call 114;refine(Dl 114 (.inl rfl) _ HE2.out HG.out H.r.out H.z.out).mono ?_)|(go_at_call 73;refine(Bg _ HE2.out HG.out H.r.out H.z.out).mono ?_)
  rintro e w9 ⟨g,a,c,rfl,t9,b9,hQ⟩
  clear HE2 H HG f0 f1 f2 f3 f4 f5 f6 f7 f8 f9 f10 f11 f12 f13 ff fs q0 q1 q2 q3 q4 qs
  go_wp2_with (refine Bd (f:=g) rfl (.tmp 4) _ rfl rfl rfl t9.out ?_)
  generalize w9.setCells (w.heap.size+1) 0 (g.enc a c)=W9 at *
  exact bodyPost_ret (results_cell_row Tryz.results69 _ W9 (w.heap.size+1) 47 _ (0,0) _ rfl b9.out Tryz.underlying47 rfl (by kernel_rfl)) rfl hQ.out
theorem rlk2(H:LH Xb w w1 B lo aS aH aF aL cS cH cF cL M f aK cK b)(hp:f.pl=1)(hc:f.cur<=0){G:Fr}(HG:Hid ((if f.cur=-1 - (b:Int) then Ag f 5 else toF f 0)=G)):W69 w w1 B b (RQ Xb w (Ac B aS aH aF aL) B lo aK cK M G):=by
 have hns:=H.ns
 have hbl:=H.bl
 have hnh:=H.nh
 obtain⟨f0,f1,f2,f3,f4,f5,f6,f7,f8,f9,f10,f11,f12,f13,ff,fs⟩:=A8 H.e.out.fb
 obtain⟨q0,q1,q2,q3,q4,-,-,-,-,-,qs⟩:=Af H.e.out.m.box
 rintro C rfl v1 v8 v9 v10 v11 v12 v13
 conv=>arg 2;whnf
 unfold Y5
 rw[hp] at f6
 have hI:decide (0<f.cur)=false:=by rw[decide_eq_false_iff_not];omega
 have HF:Hid ({ f with pl:=1 } = f):=by cases f;simp_all [Hid]
 have HE2:Hid (Lk2 Xb w (w1) (Ac B aS aH aF aL) B lo M ({ f with pl:=1 }) aK cK):=HF.out.symm ▸ H.e.out.two
 have hq:f.cur=-1 - (b:Int)/\(f.cur == -((b:Int)+1))=true\/¬ f.cur=-1 - (b:Int)/\(f.cur == -((b:Int)+1))=false:=by
  by_cases h:f.cur=-1 - (b:Int)
  ·exact .inl ⟨h,by simp;omega⟩
  ·exact .inr ⟨h,by simp;omega⟩
 rcases hq with ⟨h,hq⟩|⟨h,hq⟩
 all_goals
  first|rw[if_pos h] at HG|rw[if_neg h] at HG
  rw[<- HF.out] at HG
  clear h HF
  go_wp2_with (go_at_call 115;refine(Dx _ _ hI).mono ?_;rintro e w3 ⟨rfl,rfl⟩)
  first|(go_at_call 114;refine(Dl 114 (.inl rfl) _ HE2.out HG.out H.r.out H.z.out).mono ?_)|(go_at_call 73;refine(Bg _ HE2.out HG.out H.r.out H.z.out).mono ?_)
  rintro e w9 ⟨g,a,c,rfl,t9,b9,hQ⟩
  clear HE2 H HG f0 f1 f2 f3 f4 f5 f6 f7 f8 f9 f10 f11 f12 f13 ff fs q0 q1 q2 q3 q4 qs
  go_wp2_with (refine Bd (f:=g) rfl (.tmp 4) _ rfl rfl rfl t9.out ?_)
  generalize w9.setCells (w.heap.size+1) 0 (g.enc a c)=W9 at *
  exact bodyPost_ret (results_cell_row Tryz.results69 _ W9 (w.heap.size+1) 47 _ (0,0) _ rfl b9.out Tryz.underlying47 rfl (by kernel_rfl)) rfl hQ.out
theorem rlk3(H:LH Xb w w1 B lo aS aH aF aL cS cH cF cL M f aK cK b)(hp:f.pl=2){j:Nat}(hj:f.cur=(j:Int)+1)(hl:j<M.slots.length){G:Fr}(HG:Hid (Rt f (Aa M j).next 1=G)):W69 w w1 B b (RQ Xb w (Ac B aS aH aF aL) B lo aK cK M G):=by
 have hns:=H.ns
 have hbl:=H.bl
 have hnh:=H.nh
 obtain⟨f0,f1,f2,f3,f4,f5,f6,f7,f8,f9,f10,f11,f12,f13,ff,fs⟩:=A8 H.e.out.fb
 obtain⟨q0,q1,q2,q3,q4,-,-,-,-,-,qs⟩:=Af H.e.out.m.box
 rintro C rfl v1 v8 v9 v10 v11 v12 v13
 conv=>arg 2;whnf
 unfold Y5
 rw[hp] at f6
 obtain⟨gS,hS,xs,x0,x1,x2,x3,x4,x5⟩:=H.e.out.Iq hns hl
 rw[hS] at q0
 have hl':(j:Int)<(M.slots.length:Int):=by omega
 rw[hj] at f7
 have hI:decide (0<(j:Int)+1)=true:=by rw[decide_eq_true_iff];omega
 have hw1:IntKind.i64.wrap ((j:Int)+1 - 1)=(j:Int):=by rw[IntKind.wrap_i64];omega
 have hw2:wrap64 ((j:Int)+1 - 1)=(j:Int):=by unfold wrap64;omega
 have hw3:(j:Int)+1 - 1=(j:Int):=by omega
 go_wp2_with (go_at_call 115;refine(Dx _ _ hI).mono ?_;rintro e w3 ⟨rfl,rfl⟩)
 go_region
 all_goals
  go_wp2_with fail
  have HE2:Hid (Lk2 Xb w ((w1.setCell ⟨w.heap.size,7,none⟩ (O J (Aa M j).next)).drew) (Ac B aS aH aF aL) B lo M ({ f with cur:=(Aa M j).next }) aK cK):=(H.e.out.two.store 7 _ { f with cur:=(Aa M j).next } rfl).below ⟨rfl,rfl,rfl,Nat.le_refl _,fun _ _=>rfl⟩
  first|(go_at_call 114;refine(Dl 114 (.inl rfl) _ HE2.out HG.out H.r.out H.z.out).mono ?_)|(go_at_call 73;refine(Bg _ HE2.out HG.out H.r.out H.z.out).mono ?_)
  rintro e w9 ⟨g,a,c,rfl,t9,b9,hQ⟩
  clear HE2 H HG f0 f1 f2 f3 f4 f5 f6 f7 f8 f9 f10 f11 f12 f13 ff fs q0 q1 q2 q3 q4 qs
  go_wp2_with (refine Bd (f:=g) rfl (.tmp 4) _ rfl rfl rfl t9.out ?_)
  generalize w9.setCells (w.heap.size+1) 0 (g.enc a c)=W9 at *
  exact bodyPost_ret (results_cell_row Tryz.results69 _ W9 (w.heap.size+1) 47 _ (0,0) _ rfl b9.out Tryz.underlying47 rfl (by kernel_rfl)) rfl hQ.out
theorem rlk4(H:LH Xb w w1 B lo aS aH aF aL cS cH cF cL M f aK cK b)(hp:f.pl=3){j:Nat}(hj:f.cur=(j:Int)+1)(hl:j<M.slots.length){G:Fr}(HG:Hid ((if Qk M j then Fp f j 4 else toF f 0)=G)):W69 w w1 B b (RQ Xb w (Ac B aS aH aF aL) B lo aK cK (holdN M j) G):=by
 have hns:=H.ns
 have hbl:=H.bl
 have hnh:=H.nh
 obtain⟨f0,f1,f2,f3,f4,f5,f6,f7,f8,f9,f10,f11,f12,f13,ff,fs⟩:=A8 H.e.out.fb
 obtain⟨q0,q1,q2,q3,q4,-,-,-,-,-,qs⟩:=Af H.e.out.m.box
 rintro C rfl v1 v8 v9 v10 v11 v12 v13
 conv=>arg 2;whnf
 unfold Y5
 rw[hp] at f6
 rw[hj] at f7
 have hI:decide (0<(j:Int)+1)=true:=by rw[decide_eq_true_iff];omega
 have hw1:IntKind.i64.wrap ((j:Int)+1 - 1)=(j:Int):=by rw[IntKind.wrap_i64];omega
 have hw2:wrap64 ((j:Int)+1 - 1)=(j:Int):=by unfold wrap64;omega
 have hw3:(j:Int)+1 - 1=(j:Int):=by omega
 have hS:Dc M (j:Int)=true:=Eg.2 (by omega)
 go_wp2_with (go_at_call 115;refine(Dx _ _ hI).mono ?_;rintro e w3 ⟨rfl,rfl⟩)
 refine(a1q ⟨_,_,_,_,_,_,_,_,H.e.out.m,fun _ h=>h⟩ H.ok.out hS).mono ?_
 rintro e w2 ⟨rfl,hh2,hf2⟩
 have HE3:Hid _:=H.e.out.after hh2 hf2
 clear hh2 hf2 f0 f1 f2 f3 f4 f5 f6 f7 f8 f9 f10 f11 f12 f13 ff fs
 obtain⟨f0,f1,f2,f3,f4,f5,f6,f7,f8,f9,f10,f11,f12,f13,ff,fs⟩:=A8 HE3.out.fb
 rw[hj] at f7
 cases hk:Qk M j
 all_goals
  rw[hk] at HG
  clear hk
 focus
  have HE2:=HE3
  go_wp2_with fail
 rotate_left
 focus
  have HE2:Hid (Lk2 Xb w (w2.setCell ⟨w.heap.size,9,none⟩ (O J (j:Int))) (Ac B aS aH aF aL) B lo (holdN M j) ({ f with slot:=(j:Int) }) aK cK):=HE3.out.store 9 _ _ rfl
  go_wp2_with fail
 all_goals
  clear HE3
  first|(go_at_call 114;refine(Dl 114 (.inl rfl) _ HE2.out HG.out H.r.out H.z.out).mono ?_)|(go_at_call 73;refine(Bg _ HE2.out HG.out H.r.out H.z.out).mono ?_)
  rintro e w9 ⟨g,a,c,rfl,t9,b9,hQ⟩
  clear HE2 H HG f0 f1 f2 f3 f4 f5 f6 f7 f8 f9 f10 f11 f12 f13 ff fs q0 q1 q2 q3 q4 qs
  go_wp2_with (refine Bd (f:=g) rfl (.tmp 4) _ rfl rfl rfl t9.out ?_)
  generalize w9.setCells (w.heap.size+1) 0 (g.enc a c)=W9 at *
  exact bodyPost_ret (results_cell_row Tryz.results69 _ W9 (w.heap.size+1) 47 _ (0,0) _ rfl b9.out Tryz.underlying47 rfl (by kernel_rfl)) rfl hQ.out
theorem rlk5(H:LH Xb w w1 B lo aS aH aF aL cS cH cF cL M f aK cK b)(hp:f.pl=4){j:Nat}(hj:f.slot=j)(hl:j<M.slots.length){G:Fr}(HG:Hid ((if lkK (Aa M j) f && (Aa M j).inn then (if M.now<(Aa M j).unt then Ag f 0 else toF f 6) else toF f 5)=G)):W69 w w1 B b (RQ Xb w (Ac B aS aH aF aL) B lo aK cK M G):=by
 have hns:=H.ns
 have hbl:=H.bl
 have hnh:=H.nh
 obtain⟨f0,f1,f2,f3,f4,f5,f6,f7,f8,f9,f10,f11,f12,f13,ff,fs⟩:=A8 H.e.out.fb
 obtain⟨q0,q1,q2,q3,q4,-,-,-,-,-,qs⟩:=Af H.e.out.m.box
 rintro C rfl v1 v8 v9 v10 v11 v12 v13
 conv=>arg 2;whnf
 unfold Y5
 rw[hp] at f6
 rw[hj] at f9
 obtain⟨gS,hS,xs,x0,x1,x2,x3,x4,x5⟩:=H.e.out.Iq hns hl
 rw[hS] at q0
 have hl':(j:Int)<(M.slots.length:Int):=by omega
 have se:=LH.seq (Aa M j) f
 have hs0:(0:Int)<=(j:Int):=by omega
 have HF:Hid ({ f with pl:=4,slot:=(j:Int) } = f):=by cases f;simp_all [Hid]
 have hb3:=A7 w1 (.cells #[O J (Aa M j).refs,O J (Aa M j).a,O J (Aa M j).b,O J (Aa M j).unt,.bool (Aa M j).inn,O J (Aa M j).next] 64)
 have HB3:Hid _:=hb3
 clear hb3
 cases hi:(Aa M j).inn
 all_goals
  cases hk:lkK (Aa M j) f
  all_goals
   rw[hi,hk] at HG
   rw[hk] at se
   rw[hi] at HB3 x4
   clear hi hk
   simp only[Bool.and_self,Bool.and_true,Bool.and_false,Bool.false_eq_true,if_true,if_false] at HG
   rw[<- HF.out] at HG
   go_wp2_with fail
   go_region
   have HE4:Hid _:=(H.e.out.below HB3.out).two.below (w2:=(w1.alloc _).drew) ⟨rfl,rfl,rfl,Nat.le_refl _,fun _ _=>rfl⟩
   rw[<- HF.out] at HE4
   clear HF HB3
   go_wp2_with fail
 rotate_left 3
 focus
  have hq:M.now<(Aa M j).unt/\decide (M.now<(Aa M j).unt)=true\/¬ M.now<(Aa M j).unt/\decide (M.now<(Aa M j).unt)=false:=by
   by_cases h:M.now<(Aa M j).unt <;> simp[h]
  rcases hq with ⟨h,hq⟩|⟨h,hq⟩
  all_goals
   first|rw[if_pos h] at HG|rw[if_neg h] at HG
   clear h
   go_quiet (fail)
   have HE2:Hid _:=HE4.out.below (w2:=(w1.alloc _).drewN (1+nq)) ⟨rfl,rfl,rfl,Nat.le_refl _,fun _ _=>rfl⟩
   clear HE4
   go_wp2_with fail
 rotate_left 2
 all_goals
  try (have HE2:=HE4;clear HE4)
  first|(go_at_call 114;refine(Dl 114 (.inl rfl) _ HE2.out HG.out H.r.out H.z.out).mono ?_)|(go_at_call 73;refine(Bg _ HE2.out HG.out H.r.out H.z.out).mono ?_)
  rintro e w9 ⟨g,a,c,rfl,t9,b9,hQ⟩
  clear HE2 H HG f0 f1 f2 f3 f4 f5 f6 f7 f8 f9 f10 f11 f12 f13 ff fs q0 q1 q2 q3 q4 qs
  go_wp2_with (refine Bd (f:=g) rfl (.tmp 4) _ rfl rfl rfl t9.out ?_)
  generalize w9.setCells (w.heap.size+1) 0 (g.enc a c)=W9 at *
  exact bodyPost_ret (results_cell_row Tryz.results69 _ W9 (w.heap.size+1) 47 _ (0,0) _ rfl b9.out Tryz.underlying47 rfl (by kernel_rfl)) rfl hQ.out
theorem rlk6(H:LH Xb w w1 B lo aS aH aF aL cS cH cF cL M f aK cK b){G:Fr}(hp:f.pl=5/\Fp f (-1) 0=G\/f.pl=6/\Ag { f with slot:=-1 } 5=G){j:Nat}(hj:f.slot=j)(hl:j<M.slots.length):W69 w w1 B b (RQ Xb w (Ac B aS aH aF aL) B lo aK cK (Em M j) G):=by
 have hns:=H.ns
 have hbl:=H.bl
 have hnh:=H.nh
 obtain⟨f0,f1,f2,f3,f4,f5,f6,f7,f8,f9,f10,f11,f12,f13,ff,fs⟩:=A8 H.e.out.fb
 obtain⟨q0,q1,q2,q3,q4,-,-,-,-,-,qs⟩:=Af H.e.out.m.box
 rintro C rfl v1 v8 v9 v10 v11 v12 v13
 conv=>arg 2;whnf
 unfold Y5
 rw[hj] at f9
 have hS:Dc M (j:Int)=true:=Eg.2 (by omega)
 have hs0:(0:Int)<=(j:Int):=by omega
 rcases hp with ⟨hp,hG⟩|⟨hp,hG⟩
 all_goals
  rw[hp] at f6
  have HG:Hid _:=hG
  clear hp hG
  go_wp2_with fail
  refine(L9 ⟨_,_,_,_,_,_,_,_,H.e.out.m,fun _ h=>h⟩ H.ok.out hS).mono ?_
  rintro e w2 ⟨rfl,hh2,hf2⟩
  have HE3:Hid _:=H.e.out.after hh2 hf2
  clear hh2 hf2 f0 f1 f2 f3 f4 f5 f6 f7 f8 f9 f10 f11 f12 f13 ff fs
  obtain⟨f0,f1,f2,f3,f4,f5,f6,f7,f8,f9,f10,f11,f12,f13,ff,fs⟩:=A8 HE3.out.fb
  have HE2:Hid (Lk2 Xb w (w2.setCell ⟨w.heap.size,9,none⟩ (O J (-1))) (Ac B aS aH aF aL) B lo (Em M j) ({ f with slot:=-1 }) aK cK):=HE3.out.store 9 _ _ rfl
  clear HE3
  go_wp2_with fail
  first|(go_at_call 114;refine(Dl 114 (.inl rfl) _ HE2.out HG.out H.r.out H.z.out).mono ?_)|(go_at_call 73;refine(Bg _ HE2.out HG.out H.r.out H.z.out).mono ?_)
  rintro e w9 ⟨g,a,c,rfl,t9,b9,hQ⟩
  clear HE2 H HG f0 f1 f2 f3 f4 f5 f6 f7 f8 f9 f10 f11 f12 f13 ff fs q0 q1 q2 q3 q4 qs
  go_wp2_with (refine Bd (f:=g) rfl (.tmp 4) _ rfl rfl rfl t9.out ?_)
  generalize w9.setCells (w.heap.size+1) 0 (g.enc a c)=W9 at *
  exact bodyPost_ret (results_cell_row Tryz.results69 _ W9 (w.heap.size+1) 47 _ (0,0) _ rfl b9.out Tryz.underlying47 rfl (by kernel_rfl)) rfl hQ.out
theorem rlk8(H:LH Xb w w1 B lo aS aH aF aL cS cH cF cL M f aK cK b)(hor:(f.pl=2\/f.pl=3)/\f.cur<=0\/(f.pl=4\/f.pl=5\/f.pl=6)/\f.slot<0\/7<=f.pl){G:Fr}(HG:Hid (toF f 0=G)):W69 w w1 B b (RQ Xb w (Ac B aS aH aF aL) B lo aK cK M G):=by
 have hns:=H.ns
 have hbl:=H.bl
 have hnh:=H.nh
 obtain⟨f0,f1,f2,f3,f4,f5,f6,f7,f8,f9,f10,f11,f12,f13,ff,fs⟩:=A8 H.e.out.fb
 obtain⟨q0,q1,q2,q3,q4,-,-,-,-,-,qs⟩:=Af H.e.out.m.box
 rintro C rfl v1 v8 v9 v10 v11 v12 v13
 conv=>arg 2;whnf
 unfold Y5
 have HE2:Hid (Lk2 Xb w (w1) (Ac B aS aH aF aL) B lo M (f) aK cK):=H.e.out.two
 have hA:∀ n:Int,n<7->7<=f.pl->(f.pl==n)=false:=fun n h h'=>by rw[beq_eq_false_iff_ne];omega
 rcases hor with ⟨hp|hp,hc⟩|⟨hp|hp|hp,hc⟩|hp
 all_goals
  first
  | rw[hp] at f6
    try have hI:decide (0<f.cur)=false:=by rw[decide_eq_false_iff_not];omega
    try have hs0:¬ f.slot ≥ 0:=by omega
  | have p0:=hA 0 (by decide) hp
    have p1:=hA 1 (by decide) hp
    have p2:=hA 2 (by decide) hp
    have p3:=hA 3 (by decide) hp
    have p4:=hA 4 (by decide) hp
    have p5:=hA 5 (by decide) hp
    have p6:=hA 6 (by decide) hp
  clear hA
  go_wp2_with (go_at_call 115;refine(Dx _ _ (by assumption)).mono ?_;rintro e w3 ⟨rfl,rfl⟩)
  first|(go_at_call 114;refine(Dl 114 (.inl rfl) _ HE2.out HG.out H.r.out H.z.out).mono ?_)|(go_at_call 73;refine(Bg _ HE2.out HG.out H.r.out H.z.out).mono ?_)
  rintro e w9 ⟨g,a,c,rfl,t9,b9,hQ⟩
  clear HE2 H HG f0 f1 f2 f3 f4 f5 f6 f7 f8 f9 f10 f11 f12 f13 ff fs q0 q1 q2 q3 q4 qs
  go_wp2_with (refine Bd (f:=g) rfl (.tmp 4) _ rfl rfl rfl t9.out ?_)
  generalize w9.setCells (w.heap.size+1) 0 (g.enc a c)=W9 at *
  exact bodyPost_ret (results_cell_row Tryz.results69 _ W9 (w.heap.size+1) 47 _ (0,0) _ rfl b9.out Tryz.underlying47 rfl (by kernel_rfl)) rfl hQ.out
end
end
end Go.Proofs.YthhgoenomehobaaGreat.mm
