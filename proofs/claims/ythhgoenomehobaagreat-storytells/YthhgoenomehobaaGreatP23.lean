/- Parts. -/
import Derived.Test.YthhgoenomehobaaGreatP22
import Derived.Test.YthhgoenomehobaaGreatP18
namespace Go.Proofs.YthhgoenomehobaaGreat.mm
set_option maxRecDepth 100000
set_option linter.unusedVariables false
open Value renaming int → O, slice → Y
open IntKind renaming i64 → J
open Tryz renaming prog → Pg
open Go renaming World → Wq
open ChangeShapes WideShapes ChangeAt RowKit Joins Deep Go.Sort
set_option maxHeartbeats 0
section
variable {Xb:Ex}
theorem a9p(M:Mm)(f:Fr)(B lo:Nat)(aS aH aF aL:Option Addr)(cS cH cF cL:Nat)(aK:Option Addr)(cK:Nat)(w:Wq)
  (m:Mine Xb w B lo aS aH aF aL cS cH cF cL M) (hM:Ok M) (hf:Fit M f) (r:Az w aK cK f.t) (hz:∀ ad,aK=some ad->¬ Ac B aS aH aF aL ad.block) :
  Calls Pg 182 #[Ae B,Ai f aK cK] w fun e w'=>Ret w w' e (Ij f 0 (Bq M (bkN M f)) 2) aK cK/\Has Xb w' B lo (Up w (Ac B aS aH aF aL)) (M)/\Fine w w' (Ac B aS aH aF aL):=by
 unfold Ae Ai
 have ig:=hM.ns
 have jf:=hM.nh.2
 have o9:=hf.u.2
 have qQ:f.u<=1000:=by omega
 have rE:M.s.length<=1000:=by omega
 have xW:Qi (Ok M):=hM
 have HR:Qi (Az w aK cK f.t):=r
 obtain⟨b0,b1⟩:=Ia hM hf.call
 obtain⟨b,hb⟩:∃ b:Nat,Fz M.h.length f.c=b:=⟨_,(Int.toNat_of_nonneg b0).symm⟩
 have gy:b<M.h.length:=by omega
 have qJ:bkN M f=b:=by unfold bkN;rw[hb];rfl
 have ve:Qi (∀ W:Wq,Lk Xb w W B lo aS aH aF aL cS cH cF cL M f aK cK->Calls Pg 34 #[Cm aS aH aF aL cS cH cF cL M,Gj f.c] W fun e w'=>e=.returned (O J (b:Int))/\Lk Xb w w' B lo aS aH aF aL cS cH cF cL M f aK cK):=fun W h=>(hb ▸ G8 _ _ _ _ _ _ _ _ cS cH cF cL M.w f.c W (by omega):Calls Pg 34 _ W fun e w'=>e=.returned (O J (b:Int))/\Below W.heap.size W w').mono (fun e w' h'=>⟨h'.1,h.below h'.2⟩)
 rw[qJ]
 obtain⟨g,hg⟩:∃ g:Fr,g = { f with p:=0,u:=Bq M b }:=⟨_,rfl⟩
 have jm:Ij f 0 (Bq M b) 2=toF g 2:=by rw[hg];rfl
 have yl:g.t=f.t:=by rw[hg]
 rw[jm]
 have HFb:Qi (∀ W:Wq,Lk Xb w W B lo aS aH aF aL cS cH cF cL M f aK cK->Calls Pg 208 #[Ae B,O J (b:Int),Ai f aK cK] W fun e w'=>e=.returned (.tuple #[.agg #[O J g.c.k,O J g.c.a,O J g.c.b,O J g.c.t,O J g.c.q,O J g.c.h,O J g.l,O J g.u,O J g.p,O J g.h,O J g.n,Y aK g.t.length cK,.bool g.d,O J g.e],.bool true])/\Lk2 Xb w w' (Ac B aS aH aF aL) B lo M f aK cK):=fun W h=>by
  have:=Qk M f b B lo aS aH aF aL cS cH cF cL aK cK W h.m xW.o gy
  rw[<- hg] at this
  exact this.mono (fun e w' h'=>⟨h'.1,h.after h'.2.1 h'.2.2⟩)
 rw[<- yl] at HR
 have HZ:Qi (∀ ad,aK=some ad->¬ (Ac B aS aH aF aL) ad.block):=hz
 obtain⟨of,df⟩:=frObj f aK cK
 obtain⟨oz,bi⟩:∃ o:Obj,o=Ah:=⟨_,rfl⟩
 have HE:Qi (Lk Xb w ((w.alloc of).alloc oz) B lo aS aH aF aL cS cH cF cL M f aK cK):=Lk.first m f aK cK df bi
 obtain⟨q0,q1,q2,q3,q4,-,-,-,-,-,qs⟩:=Aj HE.o.m.box
 obtain⟨f0,f1,f2,f3,f4,f5,f6,f7,f8,f9,ay,au,aj,ak,ff,fs⟩:=A8 HE.o.fb
 unfold Ah at bi
 clear m qQ rE o9 ig jf hM hf r hz jm hg yl qJ hb b0 b1
 go_enter Tryz.func182,Tryz.ntmps182
 go_wp2_with fail
 rw[<- df,<- bi]
 generalize (w.alloc of).alloc oz=W0 at *
 subst df bi
 rename_i K0 qO
 apply Ey (R:=fun a=>∀ W2:Wq,Lk2 Xb w W2 (Ac B aS aH aF aL) B lo M g aK cK->K0 a W2)
 ·intro gq
  have pg:Qi _:=gq
  clear gq
  go_region_with (first|(go_at_call 34;refine(ve.o _ (by exact HE.o.below ⟨rfl,rfl,rfl,Nat.le_refl _,fun _ _=>rfl⟩)).mono ?_;rintro e w1 ⟨rfl,h9⟩;have gp:Qi (Lk Xb w w1 B lo aS aH aF aL cS cH cF cL M f aK cK):=h9;clear h9;obtain⟨f0,f1,f2,f3,f4,f5,f6,f7,f8,f9,ay,au,aj,ak,ff,fs⟩:=A8 gp.o.fb;obtain⟨q0,q1,q2,q3,q4,-,-,-,-,-,qs⟩:=Aj gp.o.m.box)|(go_at_call 208;refine(HFb.o _ (by exact gp.o.below ⟨rfl,rfl,rfl,Nat.le_refl _,fun _ _=>rfl⟩)).mono ?_;rintro e w2 ⟨rfl,h9⟩;have ai:Qi (Lk2 Xb w w2 (Ac B aS aH aF aL) B lo M f aK cK):=h9;clear h9;clear f0 f1 f2 f3 f4 f5 f6 f7 f8 f9 ay au aj ak ff fs;obtain⟨f0,f1,f2,f3,f4,f5,f6,f7,f8,f9,ay,au,aj,ak,ff,fs⟩:=A8 ai.o.fb))
  all_goals exact pg.o _ (ai.o.all g)
 ·intro w3 h3
  refine qO _ _ ?_
  have di:Qi (Lk2 Xb w w3 (Ac B aS aH aF aL) B lo M g aK cK):=h3
  clear h3 HE qO
  clear q0 q1 q2 q3 q4 qs
  clear f0 f1 f2 f3 f4 f5 f6 f7 f8 f9 ay au aj ak ff fs
  obtain⟨f0,f1,f2,f3,f4,f5,f6,f7,f8,f9,ay,au,aj,ak,ff,fs⟩:=A8 di.o.fb
  go_wp2_with fail
  refine(Hf g 2 aK cK _).mono ?_
  rintro e w9 ⟨rfl,qM⟩
  have qo:Qi (Lk2 Xb w w9 (Ac B aS aH aF aL) B lo M g aK cK):=di.o.below qM
  clear di qM
  clear f0 f1 f2 f3 f4 f5 f6 f7 f8 f9 ay au aj ak ff fs
  obtain⟨g0,g1,g2,g3,g4,g5,g6,g7,g8,g9,qm,pz,qi,qw,gf,gs⟩:=A8 qo.o.zb
  go_wp2
  refine bodyPost_ret (v:=.agg #[O J (toF g 2).c.k,O J (toF g 2).c.a,O J (toF g 2).c.b,O J (toF g 2).c.t,O J (toF g 2).c.q,O J (toF g 2).c.h,O J (toF g 2).l,O J (toF g 2).u,O J (toF g 2).p,O J (toF g 2).h,O J (toF g 2).n,Y aK (toF g 2).t.length cK,.bool (toF g 2).d,O J (toF g 2).e]) (by simp[results,Tryz.results182,go_sem,toF,g0,g1,g2,g3,g4,g5,g6,g7,g8,g9,qm,pz,qi,qw]) rfl ⟨⟨aK,cK,rfl,HR.o.fine qo.o.Dl.2 HZ.o,(fun ad h=>.inl h),fun _=>⟨rfl,rfl⟩⟩,qo.o.Dl⟩
end
end Go.Proofs.YthhgoenomehobaaGreat.mm
