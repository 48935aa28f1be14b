/- Parts. -/
import Derived.Test.YthhgoenomehobaaGreatP24
import Derived.Test.YthhgoenomehobaaGreatP19
namespace Go.Proofs.YthhgoenomehobaaGreat.mm
set_option maxRecDepth 100000
set_option linter.unusedVariables false
open Go.Value renaming int → O, slice → Y
open Go.IntKind renaming i64 → J
open Go.Proofs.Tryz renaming prog → Pg
open Go renaming World → Wq
open Go.ChangeShapes Go.WideShapes Go.ChangeAt Go.RowKit Go.Joins Go.Deep Go.Sort
set_option maxHeartbeats 3200000
section
variable {Xb:Ex}
theorem a6o(M:Mm)(f:Fr)(B lo:Nat)(aS aH aF aL:Option Addr)(cS cH cF cL:Nat)(aK:Option Addr)(cK:Nat)(w:Wq)
  (m:Mine Xb w B lo aS aH aF aL cS cH cF cL M) (hM:Ok M) (hf:Fit M f) (r:Am w aK cK f.keys) (hz:∀ ad,aK=some ad->¬ Ac B aS aH aF aL ad.block) {G:Fr} (HG:Hid (Jv M f=G)) :
  Calls Pg 168 #[.pointer (some ⟨B,0,none⟩),.agg #[O J f.c.kind,O J f.c.a,O J f.c.b,O J f.c.time,O J f.c.bk,O J f.c.slot,O J f.pl,O J f.cur,O J f.prev,O J f.slot,O J f.n,Y aK f.keys.length cK,.bool f.done,O J f.e]] w (Ib Xb w (Ac B aS aH aF aL) B lo aK cK M G):=by
 obtain⟨of,hof⟩:=frO f aK cK
 obtain⟨oz,hoz⟩:∃ o:Obj,o=Ae:=⟨_,rfl⟩
 obtain⟨b,H,hbn⟩:=LH.first m hM hf r hz hof hoz
 have hns:=H.ns
 have hbl:=H.bl
 have hnh:=H.nh
 obtain⟨f0,f1,f2,f3,f4,f5,f6,f7,f8,f9,f10,f11,f12,f13,ff,fs⟩:=A8 H.e.out.fb
 obtain⟨q0,q1,q2,q3,q4,-,-,-,-,-,qs⟩:=Af H.e.out.m.box
 unfold Ae at hoz
 clear m hM hf r hz
 go_enter Tryz.func168,Tryz.ntmps168
 go_wp2_with fail
 rw[<- hof,<- hoz]
 generalize (w.alloc of).alloc oz=W0 at *
 subst hof hoz
 have cS:∀ (d:Nat) (os:Array Obj),Calls Pg 111 #[.agg #[Y aS M.slots.length cS,Y aH M.heads.length cH,Y aF M.free.length cF,Y aL M.locks.length cL,O J M.now],O J f.slot] (grow (redrawn W0 d) os) fun e w''=>e=.returned (.bool (Dc M f.slot))/\∃ p:Regrown,w''=grow (redrawn W0 p.d) p.os:=fun d os=>Calls.regrown_of (H.sl _)
 have Q0:=cell_regrown q0;have Q1:=cell_regrown q1;have Q2:=cell_regrown q2;have Q3:=cell_regrown q3;have Q4:=cell_regrown q4
 have F9:=cell_regrown f9
 clear q0 q1 q2 q3 q4 qs f0 f1 f2 f3 f4 f5 f6 f7 f8 f9 f10 f11 f12 f13 ff fs
 refine wp_region_quiet_below (by kernel_rfl) (by kernel_rfl) ?_
 repeat (quiet_step (first|exact cS _ _))
 refine wpQuiet_nil ?_
 intro _ hw'
 obtain⟨⟨dq,osq⟩,hw''⟩:=hw'
 subst hw''
 have H1:=H.below (below_regrown W0 dq osq)
 clear H cS Q0 Q1 Q2 Q3 Q4 F9
 have H:=H1
 clear H1
 generalize grow (redrawn W0 dq) osq=w1 at *
 obtain⟨f0,f1,f2,f3,f4,f5,f6,f7,f8,f9,f10,f11,f12,f13,ff,fs⟩:=A8 H.e.out.fb
 obtain⟨q0,q1,q2,q3,q4,-,-,-,-,-,qs⟩:=Af H.e.out.m.box
 unfold Jv at HG
 rcases P7 H.fit.out with ⟨hs,h'⟩|⟨j,hj,hl,h'⟩
 ·rw[h'] at HG ⊢
  have HE2:Hid _:=H.e.out.two
  go_wp2_with fail
  refine(Et _ HE2.out HG.out H.r.out H.z.out).mono ?_
  rintro e w9 ⟨g,a,c,rfl,t9,b9,hQ⟩
  clear HE2 H HG f0 f1 f2 f3 f4 f5 f6 f7 f8 f9 f10 f11 f12 f13 ff fs q0 q1 q2 q3 q4 qs
  go_wp2_with (refine Bd (f:=g) rfl (.tmp 4) _ rfl rfl rfl t9.out ?_)
  generalize w9.setCells (w.heap.size+1) 0 (g.enc a c)=W9 at *
  exact bodyPost_ret (results_cell_row Tryz.results168 _ W9 (w.heap.size+1) 47 _ (0,0) _ rfl b9.out Tryz.underlying47 rfl (by kernel_rfl)) rfl hQ.out
 ·rw[h'] at HG ⊢
  rw[if_pos rfl] at HG
  have HF:Hid ({ f with slot:=(j:Int) } = f):=by rw[<- hj];exact rfl
  rw[hj] at HG f9
  obtain⟨gS,hS,xs,x0,x1,x2,x3,x4,x5⟩:=H.e.out.Iq hns hl
  rw[hS] at q0
  have hl':(j:Int)<(M.slots.length:Int):=by omega
  have se:=LH.seq (Aa M j) f
  have hb3:=A7 w1 (.cells #[O J (Aa M j).refs,O J (Aa M j).a,O J (Aa M j).b,O J (Aa M j).unt,.bool (Aa M j).inn,O J (Aa M j).next] 64)
  have HB3:Hid _:=hb3
  clear hb3 h' hj
  cases hi:(Aa M j).inn
  all_goals
   cases hk:lkK (Aa M j) f
   all_goals
    rw[hi,hk] at HG
    rw[hk] at se
    rw[hi] at HB3 x4
    clear hi hk
    simp only[Bool.and_self,Bool.and_true,Bool.and_false,Bool.false_eq_true,if_true,if_false] at HG
    rw[<- HF.out] at HG
    go_wp2_with fail
    go_region
    have HE4:Hid _:=(H.e.out.below HB3.out).two.below (w2:=(w1.alloc _).drew) ⟨rfl,rfl,rfl,Nat.le_refl _,fun _ _=>rfl⟩
    rw[<- HF.out] at HE4
    clear HF HB3
    go_wp2_with fail
  rotate_left 3
  focus
   have hq:M.now<(Aa M j).unt/\decide ((Aa M j).unt<=M.now)=false\/¬ M.now<(Aa M j).unt/\decide ((Aa M j).unt<=M.now)=true:=by
    by_cases h:M.now<(Aa M j).unt
    ·exact .inl ⟨h,by rw[decide_eq_false_iff_not];omega⟩
    ·exact .inr ⟨h,by rw[decide_eq_true_iff];omega⟩
   rcases hq with ⟨h,hq⟩|⟨h,hq⟩
   all_goals
    first|rw[if_pos h] at HG|rw[if_neg h] at HG
    clear h
    go_quiet (fail)
    have HE2:Hid _:=HE4.out.below (w2:=(w1.alloc _).drewN (1+nq)) ⟨rfl,rfl,rfl,Nat.le_refl _,fun _ _=>rfl⟩
    clear HE4
    go_wp2_with fail
  rotate_left 2
  all_goals
   try (have HE2:=HE4;clear HE4)
   first|(go_at_call 171;refine(Et _ HE2.out HG.out H.r.out H.z.out).mono ?_)|(go_at_call 199;refine(S9 _ HE2.out HG.out H.r.out H.z.out H.fit.out.keys).mono ?_)
   rintro e w9 ⟨g,a,c,rfl,t9,b9,hQ⟩
   clear HE2 H HG f0 f1 f2 f3 f4 f5 f6 f7 f8 f9 f10 f11 f12 f13 ff fs q0 q1 q2 q3 q4 qs
   go_wp2_with (refine Bd (f:=g) rfl (.tmp 4) _ rfl rfl rfl t9.out ?_)
   generalize w9.setCells (w.heap.size+1) 0 (g.enc a c)=W9 at *
   exact bodyPost_ret (results_cell_row Tryz.results168 _ W9 (w.heap.size+1) 47 _ (0,0) _ rfl b9.out Tryz.underlying47 rfl (by kernel_rfl)) rfl hQ.out
theorem a6n(M:Mm)(f:Fr)(B lo:Nat)(aS aH aF aL:Option Addr)(cS cH cF cL:Nat)(aK:Option Addr)(cK:Nat)(w:Wq)
  (m:Mine Xb w B lo aS aH aF aL cS cH cF cL M) (hM:Ok M) (hf:Fit M f) (r:Am w aK cK f.keys) (hz:∀ ad,aK=some ad->¬ Ac B aS aH aF aL ad.block) {G:Fr} (HG:Hid (Rt f (Bf M (bkN M f)) 1=G)) :
  Calls Pg 164 #[.pointer (some ⟨B,0,none⟩),.agg #[O J f.c.kind,O J f.c.a,O J f.c.b,O J f.c.time,O J f.c.bk,O J f.c.slot,O J f.pl,O J f.cur,O J f.prev,O J f.slot,O J f.n,Y aK f.keys.length cK,.bool f.done,O J f.e]] w (Ib Xb w (Ac B aS aH aF aL) B lo aK cK M G):=by
 obtain⟨of,hof⟩:=frO f aK cK
 obtain⟨oz,hoz⟩:∃ o:Obj,o=Ae:=⟨_,rfl⟩
 obtain⟨b,H,hbn⟩:=LH.first m hM hf r hz hof hoz
 have hns:=H.ns
 have hbl:=H.bl
 have hnh:=H.nh
 obtain⟨f0,f1,f2,f3,f4,f5,f6,f7,f8,f9,f10,f11,f12,f13,ff,fs⟩:=A8 H.e.out.fb
 obtain⟨q0,q1,q2,q3,q4,-,-,-,-,-,qs⟩:=Af H.e.out.m.box
 unfold Ae at hoz
 clear m hM hf r hz
 rw[hbn] at HG
 clear hbn
 go_enter Tryz.func164,Tryz.ntmps164
 go_wp2_with fail
 rw[<- hof,<- hoz]
 generalize (w.alloc of).alloc oz=W0 at *
 subst hof hoz
 have cB:∀ (d:Nat) (os:Array Obj),Calls Pg 34 #[.agg #[Y aS M.slots.length cS,Y aH M.heads.length cH,Y aF M.free.length cF,Y aL M.locks.length cL,O J M.now],.agg #[O J f.c.kind,O J f.c.a,O J f.c.b,O J f.c.time,O J f.c.bk,O J f.c.slot]] (grow (redrawn W0 d) os) fun e w''=>e=.returned (O J (b:Int))/\∃ p:Regrown,w''=grow (redrawn W0 p.d) p.os:=fun d os=>Calls.regrown_of (H.below (below_regrown W0 d os)).bk
 have Q0:=cell_regrown q0;have Q1:=cell_regrown q1;have Q2:=cell_regrown q2;have Q3:=cell_regrown q3;have Q4:=cell_regrown q4
 have F0:=cell_regrown f0;have F1:=cell_regrown f1;have F2:=cell_regrown f2;have F3:=cell_regrown f3;have F4:=cell_regrown f4;have F5:=cell_regrown f5
 clear q0 q1 q2 q3 q4 qs f0 f1 f2 f3 f4 f5 f6 f7 f8 f9 f10 f11 f12 f13 ff fs
 refine wp_region_quiet_below (by kernel_rfl) (by kernel_rfl) ?_
 repeat (quiet_step (first|exact cB _ _))
 refine wpQuiet_nil ?_
 intro _ hw'
 obtain⟨⟨dq,osq⟩,hw''⟩:=hw'
 subst hw''
 have H1:=H.below (below_regrown W0 dq osq)
 clear H cB Q0 Q1 Q2 Q3 Q4 F0 F1 F2 F3 F4 F5
 have H:=H1
 clear H1
 generalize grow (redrawn W0 dq) osq=w1 at *
 obtain⟨f0,f1,f2,f3,f4,f5,f6,f7,f8,f9,f10,f11,f12,f13,ff,fs⟩:=A8 H.e.out.fb
 obtain⟨q0,q1,q2,q3,q4,-,-,-,-,-,qs⟩:=Af H.e.out.m.box
 go_wp2_with fail
 refine(Gi aS _ aF aL _ _ _ _ cS cH cF cL M.now (b:Int) w1 (by omega)).mono ?_
 rw[show inB (b:Int) 0 ((M.heads.length:Int) - 1)=true from (Aj _ _ _).2 (by omega)]
 rintro e w2 ⟨rfl,hb2⟩
 have H2:=H.below hb2
 clear H hb2 f0 f1 f2 f3 f4 f5 f6 f7 f8 f9 f10 f11 f12 f13 ff fs q0 q1 q2 q3 q4 qs
 have H:=H2
 clear H2
 obtain⟨f0,f1,f2,f3,f4,f5,f6,f7,f8,f9,f10,f11,f12,f13,ff,fs⟩:=A8 H.e.out.fb
 obtain⟨q0,q1,q2,q3,q4,-,-,-,-,-,qs⟩:=Af H.e.out.m.box
 obtain⟨gH,hH,hc⟩:=H.head
 rw[hH] at q1
 have HE2:Hid _:=H.e.out.two.store 7 (O J (Bf M b)) { f with cur:=Bf M b } rfl
 go_wp2_with fail
 refine(Et _ HE2.out HG.out H.r.out H.z.out).mono ?_
 rintro e w9 ⟨g,a,c,rfl,t9,b9,hQ⟩
 clear HE2 H HG f0 f1 f2 f3 f4 f5 f6 f7 f8 f9 f10 f11 f12 f13 ff fs q0 q1 q2 q3 q4 qs
 go_wp2_with (refine Bd (f:=g) rfl (.tmp 4) _ rfl rfl rfl t9.out ?_)
 generalize w9.setCells (w.heap.size+1) 0 (g.enc a c)=W9 at *
 exact bodyPost_ret (results_cell_row Tryz.results164 _ W9 (w.heap.size+1) 47 _ (0,0) _ rfl b9.out Tryz.underlying47 rfl (by kernel_rfl)) rfl hQ.out
theorem a6m(M:Mm)(f:Fr)(B lo:Nat)(aS aH aF aL:Option Addr)(cS cH cF cL:Nat)(aK:Option Addr)(cK:Nat)(w:Wq)
  (m:Mine Xb w B lo aS aH aF aL cS cH cF cL M) (hM:Ok M) (hf:Fit M f) (r:Am w aK cK f.keys) (hz:∀ ad,aK=some ad->¬ Ac B aS aH aF aL ad.block) {G:Fr} (HG:Hid (Rt f (Bf M (bkN M f)) 3=G)) :
  Calls Pg 174 #[.pointer (some ⟨B,0,none⟩),.agg #[O J f.c.kind,O J f.c.a,O J f.c.b,O J f.c.time,O J f.c.bk,O J f.c.slot,O J f.pl,O J f.cur,O J f.prev,O J f.slot,O J f.n,Y aK f.keys.length cK,.bool f.done,O J f.e]] w (Ib Xb w (Ac B aS aH aF aL) B lo aK cK M G):=by
 obtain⟨of,hof⟩:=frO f aK cK
 obtain⟨oz,hoz⟩:∃ o:Obj,o=Ae:=⟨_,rfl⟩
 obtain⟨b,H,hbn⟩:=LH.first m hM hf r hz hof hoz
 have hns:=H.ns
 have hbl:=H.bl
 have hnh:=H.nh
 obtain⟨f0,f1,f2,f3,f4,f5,f6,f7,f8,f9,f10,f11,f12,f13,ff,fs⟩:=A8 H.e.out.fb
 obtain⟨q0,q1,q2,q3,q4,-,-,-,-,-,qs⟩:=Af H.e.out.m.box
 unfold Ae at hoz
 clear m hM hf r hz
 rw[hbn] at HG
 clear hbn
 go_enter Tryz.func174,Tryz.ntmps174
 go_wp2_with fail
 rw[<- hof,<- hoz]
 generalize (w.alloc of).alloc oz=W0 at *
 subst hof hoz
 have cB:∀ (d:Nat) (os:Array Obj),Calls Pg 34 #[.agg #[Y aS M.slots.length cS,Y aH M.heads.length cH,Y aF M.free.length cF,Y aL M.locks.length cL,O J M.now],.agg #[O J f.c.kind,O J f.c.a,O J f.c.b,O J f.c.time,O J f.c.bk,O J f.c.slot]] (grow (redrawn W0 d) os) fun e w''=>e=.returned (O J (b:Int))/\∃ p:Regrown,w''=grow (redrawn W0 p.d) p.os:=fun d os=>Calls.regrown_of (H.below (below_regrown W0 d os)).bk
 have Q0:=cell_regrown q0;have Q1:=cell_regrown q1;have Q2:=cell_regrown q2;have Q3:=cell_regrown q3;have Q4:=cell_regrown q4
 have F0:=cell_regrown f0;have F1:=cell_regrown f1;have F2:=cell_regrown f2;have F3:=cell_regrown f3;have F4:=cell_regrown f4;have F5:=cell_regrown f5
 clear q0 q1 q2 q3 q4 qs f0 f1 f2 f3 f4 f5 f6 f7 f8 f9 f10 f11 f12 f13 ff fs
 refine wp_region_quiet_below (by kernel_rfl) (by kernel_rfl) ?_
 repeat (quiet_step (first|exact cB _ _))
 refine wpQuiet_nil ?_
 intro _ hw'
 obtain⟨⟨dq,osq⟩,hw''⟩:=hw'
 subst hw''
 have H1:=H.below (below_regrown W0 dq osq)
 clear H cB Q0 Q1 Q2 Q3 Q4 F0 F1 F2 F3 F4 F5
 have H:=H1
 clear H1
 generalize grow (redrawn W0 dq) osq=w1 at *
 obtain⟨f0,f1,f2,f3,f4,f5,f6,f7,f8,f9,f10,f11,f12,f13,ff,fs⟩:=A8 H.e.out.fb
 obtain⟨q0,q1,q2,q3,q4,-,-,-,-,-,qs⟩:=Af H.e.out.m.box
 go_wp2_with fail
 refine(Gi aS _ aF aL _ _ _ _ cS cH cF cL M.now (b:Int) w1 (by omega)).mono ?_
 rw[show inB (b:Int) 0 ((M.heads.length:Int) - 1)=true from (Aj _ _ _).2 (by omega)]
 rintro e w2 ⟨rfl,hb2⟩
 have H2:=H.below hb2
 clear H hb2 f0 f1 f2 f3 f4 f5 f6 f7 f8 f9 f10 f11 f12 f13 ff fs q0 q1 q2 q3 q4 qs
 have H:=H2
 clear H2
 obtain⟨f0,f1,f2,f3,f4,f5,f6,f7,f8,f9,f10,f11,f12,f13,ff,fs⟩:=A8 H.e.out.fb
 obtain⟨q0,q1,q2,q3,q4,-,-,-,-,-,qs⟩:=Af H.e.out.m.box
 obtain⟨gH,hH,hc⟩:=H.head
 rw[hH] at q1
 have HE2:Hid _:=H.e.out.two.store 7 (O J (Bf M b)) { f with cur:=Bf M b } rfl
 go_wp2_with fail
 refine(Et _ HE2.out HG.out H.r.out H.z.out).mono ?_
 rintro e w9 ⟨g,a,c,rfl,t9,b9,hQ⟩
 clear HE2 H HG f0 f1 f2 f3 f4 f5 f6 f7 f8 f9 f10 f11 f12 f13 ff fs q0 q1 q2 q3 q4 qs
 go_wp2_with (refine Bd (f:=g) rfl (.tmp 4) _ rfl rfl rfl t9.out ?_)
 generalize w9.setCells (w.heap.size+1) 0 (g.enc a c)=W9 at *
 exact bodyPost_ret (results_cell_row Tryz.results174 _ W9 (w.heap.size+1) 47 _ (0,0) _ rfl b9.out Tryz.underlying47 rfl (by kernel_rfl)) rfl hQ.out
end
section
variable {Xb:Ex}
theorem b0e(M:Mm)(f:Fr)(B lo:Nat)(aS aH aF aL:Option Addr)(cS cH cF cL:Nat)(aK:Option Addr)(cK:Nat)(w:Wq)
  (m:Mine Xb w B lo aS aH aF aL cS cH cF cL M) (hM:Ok M) (hf:Fit M f) (r:Am w aK cK f.keys) (hz:∀ ad,aK=some ad->¬ Ac B aS aH aF aL ad.block) {G:Fr} (HG:Hid (Pi M f=G)) :
  Calls Pg 184 #[.pointer (some ⟨B,0,none⟩),.agg #[O J f.c.kind,O J f.c.a,O J f.c.b,O J f.c.time,O J f.c.bk,O J f.c.slot,O J f.pl,O J f.cur,O J f.prev,O J f.slot,O J f.n,Y aK f.keys.length cK,.bool f.done,O J f.e]] w (Ib Xb w (Ac B aS aH aF aL) B lo aK cK M G):=by
 obtain⟨of,hof⟩:=frO f aK cK
 obtain⟨oz,hoz⟩:∃ o:Obj,o=Ae:=⟨_,rfl⟩
 obtain⟨b,H,hbn⟩:=LH.first m hM hf r hz hof hoz
 have hns:=H.ns
 have hbl:=H.bl
 have hnh:=H.nh
 obtain⟨f0,f1,f2,f3,f4,f5,f6,f7,f8,f9,f10,f11,f12,f13,ff,fs⟩:=A8 H.e.out.fb
 obtain⟨q0,q1,q2,q3,q4,-,-,-,-,-,qs⟩:=Af H.e.out.m.box
 unfold Ae at hoz
 clear m hM hf r hz
 go_enter Tryz.func184,Tryz.ntmps184
 go_wp2_with fail
 rw[<- hof,<- hoz]
 generalize (w.alloc of).alloc oz=W0 at *
 subst hof hoz
 unfold Pi at HG
 rcases Io H.fit.out with ⟨hc,ha,-⟩|⟨j,hj,hl,ha,-⟩
 ·rw[ha] at HG
  have hLt:=Xn M f B lo aS aH aF aL cS cH cF cL aK cK W0 H.e.out.m H.ok.out H.fit.out ha
  clear hc ha
  refine hLt.mono ?_
  rintro e w2 ⟨rfl,hh2,hf2⟩
  have HE3:Hid _:=H.e.out.after hh2 hf2
  have t3:Hid (w2.there w.heap.size 0 14):=Az HE3.out.fb (by simp)
  have HE4:Hid _:=HE3.out.put f
  clear hLt hh2 hf2 HE3 f0 f1 f2 f3 f4 f5 f6 f7 f8 f9 f10 f11 f12 f13 ff fs q0 q1 q2 q3 q4 qs
  obtain⟨f0,f1,f2,f3,f4,f5,f6,f7,f8,f9,f10,f11,f12,f13,ff,fs⟩:=A8 HE4.out.fb
  go_wp2_with (refine Bd (f:=f) rfl (.tmp 3) _ rfl rfl rfl t3.out ?_;clear t3;generalize w2.setCells w.heap.size 0 (f.enc aK cK)=w3 at *)
  have HE2:=HE4
  clear HE4
  refine(a4f HE2.out HG.out H.r.out H.z.out).mono ?_
  rintro e w9 ⟨g,a,c,rfl,t9,b9,hQ⟩
  clear HE2 H HG f0 f1 f2 f3 f4 f5 f6 f7 f8 f9 f10 f11 f12 f13 ff fs
  go_wp2_with (refine Bd (f:=g) rfl (.tmp 4) _ rfl rfl rfl t9.out ?_)
  generalize w9.setCells (w.heap.size+1) 0 (g.enc a c)=W9 at *
  exact bodyPost_ret (results_cell_row Tryz.results184 _ W9 (w.heap.size+1) 47 _ (0,0) _ rfl b9.out Tryz.underlying47 rfl (by kernel_rfl)) rfl hQ.out
 ·rw[ha] at HG
  have hLt:=Vm M f B lo aS aH aF aL cS cH cF cL aK cK W0 H.e.out.m H.ok.out H.fit.out ha
  obtain⟨g0,hg⟩:∃ g:Fr,{ f with prev:=f.cur,cur:=(Aa M (f.cur - 1)).next } = g:=⟨_,rfl⟩
  have HRg:Hid (Am w aK cK g0.keys):=by rw[<- hg];exact H.r.out
  have HG2:Hid (toF g0 2=G):=by rw[<- hg];exact HG.out
  rw[hg] at hLt
  clear HG hg hj hl ha
  have HG:=HG2
  clear HG2
  refine hLt.mono ?_
  rintro e w2 ⟨rfl,hh2,hf2⟩
  have HE3:Hid _:=H.e.out.after hh2 hf2
  have t3:Hid (w2.there w.heap.size 0 14):=Az HE3.out.fb (by simp)
  have HE4:Hid _:=HE3.out.put g0
  clear hLt hh2 hf2 HE3 f0 f1 f2 f3 f4 f5 f6 f7 f8 f9 f10 f11 f12 f13 ff fs q0 q1 q2 q3 q4 qs
  obtain⟨f0,f1,f2,f3,f4,f5,f6,f7,f8,f9,f10,f11,f12,f13,ff,fs⟩:=A8 HE4.out.fb
  go_wp2_with (refine Bd (f:=g0) rfl (.tmp 3) _ rfl rfl rfl t3.out ?_;clear t3;generalize w2.setCells w.heap.size 0 (g0.enc aK cK)=w3 at *)
  have HE2:=HE4
  clear HE4
  refine(Et _ HE2.out HG.out HRg.out H.z.out).mono ?_
  rintro e w9 ⟨g,a,c,rfl,t9,b9,hQ⟩
  clear HE2 H HG HRg f0 f1 f2 f3 f4 f5 f6 f7 f8 f9 f10 f11 f12 f13 ff fs
  go_wp2_with (refine Bd (f:=g) rfl (.tmp 4) _ rfl rfl rfl t9.out ?_)
  generalize w9.setCells (w.heap.size+1) 0 (g.enc a c)=W9 at *
  exact bodyPost_ret (results_cell_row Tryz.results184 _ W9 (w.heap.size+1) 47 _ (0,0) _ rfl b9.out Tryz.underlying47 rfl (by kernel_rfl)) rfl hQ.out
theorem b0j(M:Mm)(f:Fr)(B lo:Nat)(aS aH aF aL:Option Addr)(cS cH cF cL:Nat)(aK:Option Addr)(cK:Nat)(w:Wq)
  (m:Mine Xb w B lo aS aH aF aL cS cH cF cL M) (hM:Ok M) (hf:Fit M f) (r:Am w aK cK f.keys) (hz:∀ ad,aK=some ad->¬ Ac B aS aH aF aL ad.block) {G:Fr} (HG:Hid (Jm M f=G)) :
  Calls Pg 192 #[.pointer (some ⟨B,0,none⟩),.agg #[O J f.c.kind,O J f.c.a,O J f.c.b,O J f.c.time,O J f.c.bk,O J f.c.slot,O J f.pl,O J f.cur,O J f.prev,O J f.slot,O J f.n,Y aK f.keys.length cK,.bool f.done,O J f.e]] w (Ib Xb w (Ac B aS aH aF aL) B lo aK cK M G):=by
 obtain⟨of,hof⟩:=frO f aK cK
 obtain⟨oz,hoz⟩:∃ o:Obj,o=Ae:=⟨_,rfl⟩
 obtain⟨b,H,hbn⟩:=LH.first m hM hf r hz hof hoz
 have hns:=H.ns
 have hbl:=H.bl
 have hnh:=H.nh
 obtain⟨f0,f1,f2,f3,f4,f5,f6,f7,f8,f9,f10,f11,f12,f13,ff,fs⟩:=A8 H.e.out.fb
 obtain⟨q0,q1,q2,q3,q4,-,-,-,-,-,qs⟩:=Af H.e.out.m.box
 unfold Ae at hoz
 clear m hM hf r hz
 go_enter Tryz.func192,Tryz.ntmps192
 go_wp2_with fail
 rw[<- hof,<- hoz]
 generalize (w.alloc of).alloc oz=W0 at *
 subst hof hoz
 unfold Jm at HG
 rcases Io H.fit.out with ⟨hc,ha,-⟩|⟨j,hj,hl,ha,-⟩
 ·rw[ha] at HG
  have hLt:=Xn M f B lo aS aH aF aL cS cH cF cL aK cK W0 H.e.out.m H.ok.out H.fit.out ha
  clear hc ha
  refine hLt.mono ?_
  rintro e w2 ⟨rfl,hh2,hf2⟩
  have HE3:Hid _:=H.e.out.after hh2 hf2
  have t3:Hid (w2.there w.heap.size 0 14):=Az HE3.out.fb (by simp)
  have HE4:Hid _:=HE3.out.put f
  clear hLt hh2 hf2 HE3 f0 f1 f2 f3 f4 f5 f6 f7 f8 f9 f10 f11 f12 f13 ff fs q0 q1 q2 q3 q4 qs
  obtain⟨f0,f1,f2,f3,f4,f5,f6,f7,f8,f9,f10,f11,f12,f13,ff,fs⟩:=A8 HE4.out.fb
  go_wp2_with (refine Bd (f:=f) rfl (.tmp 3) _ rfl rfl rfl t3.out ?_;clear t3;generalize w2.setCells w.heap.size 0 (f.enc aK cK)=w3 at *)
  have HE2:=HE4
  clear HE4
  refine(Xr HE2.out HG.out H.r.out H.z.out).mono ?_
  rintro e w9 ⟨g,a,c,rfl,t9,b9,hQ⟩
  clear HE2 H HG f0 f1 f2 f3 f4 f5 f6 f7 f8 f9 f10 f11 f12 f13 ff fs
  go_wp2_with (refine Bd (f:=g) rfl (.tmp 4) _ rfl rfl rfl t9.out ?_)
  generalize w9.setCells (w.heap.size+1) 0 (g.enc a c)=W9 at *
  exact bodyPost_ret (results_cell_row Tryz.results192 _ W9 (w.heap.size+1) 47 _ (0,0) _ rfl b9.out Tryz.underlying47 rfl (by kernel_rfl)) rfl hQ.out
 ·rw[ha] at HG
  have hLt:=Vm M f B lo aS aH aF aL cS cH cF cL aK cK W0 H.e.out.m H.ok.out H.fit.out ha
  obtain⟨g0,hg⟩:∃ g:Fr,{ f with prev:=f.cur,cur:=(Aa M (f.cur - 1)).next } = g:=⟨_,rfl⟩
  have HRg:Hid (Am w aK cK g0.keys):=by rw[<- hg];exact H.r.out
  have HG2:Hid (toF g0 2=G):=by rw[<- hg];exact HG.out
  rw[hg] at hLt
  clear HG hg hj hl ha
  have HG:=HG2
  clear HG2
  refine hLt.mono ?_
  rintro e w2 ⟨rfl,hh2,hf2⟩
  have HE3:Hid _:=H.e.out.after hh2 hf2
  have t3:Hid (w2.there w.heap.size 0 14):=Az HE3.out.fb (by simp)
  have HE4:Hid _:=HE3.out.put g0
  clear hLt hh2 hf2 HE3 f0 f1 f2 f3 f4 f5 f6 f7 f8 f9 f10 f11 f12 f13 ff fs q0 q1 q2 q3 q4 qs
  obtain⟨f0,f1,f2,f3,f4,f5,f6,f7,f8,f9,f10,f11,f12,f13,ff,fs⟩:=A8 HE4.out.fb
  go_wp2_with (refine Bd (f:=g0) rfl (.tmp 3) _ rfl rfl rfl t3.out ?_;clear t3;generalize w2.setCells w.heap.size 0 (g0.enc aK cK)=w3 at *)
  have HE2:=HE4
  clear HE4
  refine(Et _ HE2.out HG.out HRg.out H.z.out).mono ?_
  rintro e w9 ⟨g,a,c,rfl,t9,b9,hQ⟩
  clear HE2 H HG HRg f0 f1 f2 f3 f4 f5 f6 f7 f8 f9 f10 f11 f12 f13 ff fs
  go_wp2_with (refine Bd (f:=g) rfl (.tmp 4) _ rfl rfl rfl t9.out ?_)
  generalize w9.setCells (w.heap.size+1) 0 (g.enc a c)=W9 at *
  exact bodyPost_ret (results_cell_row Tryz.results192 _ W9 (w.heap.size+1) 47 _ (0,0) _ rfl b9.out Tryz.underlying47 rfl (by kernel_rfl)) rfl hQ.out
end
end Go.Proofs.YthhgoenomehobaaGreat.mm
