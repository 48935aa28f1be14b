/- Parts. -/
import Derived.Test.YthhgoenomehobaaGreatP25
import Derived.Test.YthhgoenomehobaaGreatP22
namespace Go.Proofs.YthhgoenomehobaaGreat.mm
open Nat renaming le_refl → aC
open Go renaming lt_of_block → fC, Calls → aI, Ending → lZ, World → Wq
open Tryz
set_option maxRecDepth 100000
set_option linter.unusedVariables false
open Value renaming int → O, slice → Y
open IntKind renaming i64 → J
open Tryz renaming prog → Pg
open ChangeShapes WideShapes ChangeAt RowKit Joins Deep Go.Sort
set_option maxHeartbeats 0
section
variable {Xb:Ex}
section
variable {w W w2:Wq} {B lo:Nat} {aS aH aF aL:Option Addr} {cS cH cF cL:Nat} {M N:Mm} {f g:Fr} {aK:Option Addr} {cK:Nat} {e:lZ}
theorem Dn(h:Lk Xb w W B lo aS aH aF aL cS cH cF cL M f aK cK)(h':Ret W w2 e g aK cK/\Has Xb w2 B lo (Up W (Ac B aS aH aF aL)) N/\Fine W w2 (Ac B aS aH aF aL))(hk:g.t=f.t)(r:Az w aK cK f.t) :
  StQ w (fun e w'=>Ret w w' e g aK cK/\Has Xb w' B lo (Up w (Ac B aS aH aF aL)) N/\Fine w w' (Ac B aS aH aF aL)) e w2:=by
 obtain⟨⟨a2,c2,rfl,FY,LY,hd2⟩,ja,ik⟩:=h'
 have h2:=h.after ja ik
 have hs:=h2.same (w2:=w2.setCells (w.heap.size+1) 0 (g.enc a2 c2)) (by rw[setCells_size];exact aC _) (Au _ _ _) (fun k hk=>Af hk _ _ _)
 have hz:=fC h.zb
 refine⟨g,a2,c2,rfl,Be h2.zb (by simp),Bi h2.zb rfl,⟨a2,c2,rfl,Eo FY (fun h0 ad e _=>Af ?_ _ _ _),fun ad e=>(LY ad e).imp id (fun h'=>by omega),hd2⟩,hs⟩
 rcases LY ad e with h3|h3
 ·rcases r.at_ with h4|⟨b,o,h4,hc⟩
  ·rw[hk] at h0;exact absurd h4 h0
  ·have:=cell_lt (hc 0 (by rw[hk] at h0;omega)).1
   rw[h3] at h4
   injection h4 with h4
   rw[h4]
   dsimp only
   omega
 ·omega
theorem a5x(h:Lk Xb w W B lo aS aH aF aL cS cH cF cL M f aK cK)(h':a2s W w2 e g/\Has Xb w2 B lo (Up W (Ac B aS aH aF aL)) N/\Fine W w2 (Ac B aS aH aF aL)) :
  StQ w (fun e w'=>a2s w w' e g/\Has Xb w' B lo (Up w (Ac B aS aH aF aL)) N/\Fine w w' (Ac B aS aH aF aL)) e w2:=by
 obtain⟨⟨a2,c2,rfl,FY⟩,ja,ik⟩:=h'
 have h2:=h.after ja ik
 have hs:=h2.same (w2:=w2.setCells (w.heap.size+1) 0 (g.enc a2 c2)) (by rw[setCells_size];exact aC _) (Au _ _ _) (fun k hk=>Af hk _ _ _)
 have hz:=fC h.zb
 exact⟨g,a2,c2,rfl,Be h2.zb (by simp),Bi h2.zb rfl,⟨a2,c2,rfl,(FY.same fun ad e=>Af (by have:=(FY.lt ad e).1;omega) _ _ _).le (by omega)⟩,hs⟩
end
theorem Lu(M:Mm)(f:Fr)(B lo:Nat)(aS aH aF aL:Option Addr)(cS cH cF cL:Nat)(aK:Option Addr)(cK:Nat)(w:Wq)
  (m:Mine Xb w B lo aS aH aF aL cS cH cF cL M) (hd:f.d=false) {R:lZ->Wq->Prop} {n:Nat} {ar:Array Value}
  (hn:f.l=0/\n=164/\ar=#[Ae B,Ai f aK cK]\/f.l=1/\n=165/\ar=#[Ae B,Ai f aK cK]\/f.l=2/\n=166/\ar=#[Ae B,Ai f aK cK]\/f.l=3/\n=167/\ar=#[Ae B,Ai f aK cK]\/f.l=4/\n=168/\ar=#[Ae B,Ai f aK cK]\/f.l=5/\n=169/\ar=#[Ae B,Ai f aK cK]\/f.l=6/\n=170/\ar=#[Ae B,Ai f aK cK]\/7<=f.l/\n=171/\ar=#[Ai f aK cK,O J 0])
  (HP:Qi (∀ W,Lk Xb w W B lo aS aH aF aL cS cH cF cL M f aK cK->aI Pg n ar W (StQ w R))) :
  aI Pg 158 #[Ae B,Ai f aK cK] w R:=by
 unfold Ae Ai
 obtain⟨c,pl,sU,jh,jg,nn,gz,done,ee⟩:=f
 dsimp only at hd hn ⊢
 subst hd
 obtain⟨of,df⟩:∃ o:Obj,o=.cells #[O J c.k,O J c.a,O J c.b,O J c.t,O J c.q,O J c.h,O J pl,O J sU,O J jh,O J jg,O J nn,Y aK gz.length cK,.bool false,O J ee] 47:=⟨_,rfl⟩
 obtain⟨oz,bi⟩:∃ o:Obj,o=Ah:=⟨_,rfl⟩
 have HE:Qi (Lk Xb w ((w.alloc of).alloc oz) B lo aS aH aF aL cS cH cF cL M ⟨c,pl,sU,jh,jg,nn,gz,false,ee⟩ aK cK):=Lk.first m ⟨c,pl,sU,jh,jg,nn,gz,false,ee⟩ aK cK df bi
 unfold Ah at bi
 have hA:∀ k:Int,k<7->7<=pl->(pl==k)=false:=fun n h h'=>by rw[beq_eq_false_iff_ne];omega
 clear m
 rcases hn with ⟨rfl,rfl,rfl⟩|⟨rfl,rfl,rfl⟩|⟨rfl,rfl,rfl⟩|⟨rfl,rfl,rfl⟩|⟨rfl,rfl,rfl⟩|⟨rfl,rfl,rfl⟩|⟨rfl,rfl,rfl⟩|⟨h7,rfl,rfl⟩
 all_goals
  try (
   have p0:=hA 0 (by decide) h7
   have p1:=hA 1 (by decide) h7
   have p2:=hA 2 (by decide) h7
   have p3:=hA 3 (by decide) h7
   have p4:=hA 4 (by decide) h7
   have p5:=hA 5 (by decide) h7
   have p6:=hA 6 (by decide) h7
   clear h7)
  clear hA
  go_enter func158,ntmps158
  go_wp2_with fail
  rw[<- df,<- bi]
  generalize (w.alloc of).alloc oz=W0 at *
  subst df bi
  refine(HP.o _ HE.o).mono ?_
  rintro e w9 ⟨g,a,c9,rfl,t9,b9,hQ⟩
  clear HE HP
  go_wp2_with (refine Bl (f:=g) rfl (.tmp 4) _ rfl rfl rfl t9.o ?_)
  generalize w9.setCells (w.heap.size+1) 0 (g.enc a c9)=W9 at *
  exact bodyPost_ret (results_cell_row results158 _ W9 (w.heap.size+1) 47 _ (0,0) _ rfl b9.o underlying47 rfl (by kernel_rfl)) rfl hQ.o
theorem Jm(t:Int)(M:Mm)(f:Fr)(B lo:Nat)(aS aH aF aL:Option Addr)(cS cH cF cL:Nat)(aK:Option Addr)(cK:Nat)(w:Wq)
  (m:Mine Xb w B lo aS aH aF aL cS cH cF cL M) (hd:f.d=false) {R:lZ->Wq->Prop} {n:Nat} {ar:Array Value}
  (hn:f.l=0/\n=172/\ar=#[Ae B,Ai f aK cK]\/f.l=1/\n=173/\ar=#[Ae B,Ai f aK cK,O J t]\/f.l=2/\n=174/\ar=#[Ae B,Ai f aK cK]\/f.l=3/\n=175/\ar=#[Ae B,Ai f aK cK]\/f.l=4/\n=176/\ar=#[Ae B,Ai f aK cK]\/f.l=5/\n=177/\ar=#[Ae B,Ai f aK cK]\/f.l=6/\n=178/\ar=#[Ae B,Ai f aK cK]\/f.l=7/\n=179/\ar=#[Ae B,Ai f aK cK,O J t]\/8<=f.l/\n=180/\ar=#[Ai f aK cK])
  (HP:Qi (∀ W,Lk Xb w W B lo aS aH aF aL cS cH cF cL M f aK cK->aI Pg n ar W (StQ w R))) :
  aI Pg 159 #[Ae B,Ai f aK cK,O J t] w R:=by
 unfold Ae Ai
 obtain⟨c,pl,sU,jh,jg,nn,gz,done,ee⟩:=f
 dsimp only at hd hn ⊢
 subst hd
 obtain⟨of,df⟩:∃ o:Obj,o=.cells #[O J c.k,O J c.a,O J c.b,O J c.t,O J c.q,O J c.h,O J pl,O J sU,O J jh,O J jg,O J nn,Y aK gz.length cK,.bool false,O J ee] 47:=⟨_,rfl⟩
 obtain⟨oz,bi⟩:∃ o:Obj,o=Ah:=⟨_,rfl⟩
 have HE:Qi (Lk Xb w ((w.alloc of).alloc oz) B lo aS aH aF aL cS cH cF cL M ⟨c,pl,sU,jh,jg,nn,gz,false,ee⟩ aK cK):=Lk.first m ⟨c,pl,sU,jh,jg,nn,gz,false,ee⟩ aK cK df bi
 unfold Ah at bi
 have hA:∀ k:Int,k<8->8<=pl->(pl==k)=false:=fun n h h'=>by rw[beq_eq_false_iff_ne];omega
 clear m
 rcases hn with ⟨rfl,rfl,rfl⟩|⟨rfl,rfl,rfl⟩|⟨rfl,rfl,rfl⟩|⟨rfl,rfl,rfl⟩|⟨rfl,rfl,rfl⟩|⟨rfl,rfl,rfl⟩|⟨rfl,rfl,rfl⟩|⟨rfl,rfl,rfl⟩|⟨h7,rfl,rfl⟩
 all_goals
  try (
   have p0:=hA 0 (by decide) h7
   have p1:=hA 1 (by decide) h7
   have p2:=hA 2 (by decide) h7
   have p3:=hA 3 (by decide) h7
   have p4:=hA 4 (by decide) h7
   have p5:=hA 5 (by decide) h7
   have p6:=hA 6 (by decide) h7
   have p7:=hA 7 (by decide) h7
   clear h7)
  clear hA
  go_enter func159,ntmps159
  go_wp2_with fail
  rw[<- df,<- bi]
  generalize (w.alloc of).alloc oz=W0 at *
  subst df bi
  refine(HP.o _ HE.o).mono ?_
  rintro e w9 ⟨g,a,c9,rfl,t9,b9,hQ⟩
  clear HE HP
  go_wp2_with (refine Bl (f:=g) rfl (.tmp 6) _ rfl rfl rfl t9.o ?_)
  generalize w9.setCells (w.heap.size+1) 0 (g.enc a c9)=W9 at *
  exact bodyPost_ret (results_cell_row results159 _ W9 (w.heap.size+1) 47 _ (0,0) _ rfl b9.o underlying47 rfl (by kernel_rfl)) rfl hQ.o
end
section
variable {Xb:Ex}
theorem J9{M:Mm}{f:Fr}(hf:Fit M f):f.u<=0/\Fe M f=false/\stN f=0\/∃ j:Nat,f.u=(j:Int)+1/\j<M.s.length/\Fe M f=true/\f.u - 1=j/\stN f=j:=by
 have h2:=hf.u.2
 unfold stN
 by_cases h:f.u<=0
 ·refine .inl ⟨h,?_,af h⟩
  cases hx:Fe M f
  ·rfl
  ·have:=Fh.1 hx;omega
 ·exact .inr ⟨(f.u - 1).toNat,by omega,by omega,Fh.2 (by omega),by omega,by rw[ae h];omega⟩
theorem Qm{M:Mm}{f:Fr}(hf:Fit M f):f.h<0/\Dp M f.h=false\/∃ j:Nat,f.h=j/\j<M.s.length/\Dp M f.h=true:=by
 have h2:=hf.h.2
 by_cases h:f.h<0
 ·exact .inl ⟨h,b3p h⟩
 ·exact .inr ⟨f.h.toNat,by omega,by omega,Ez.2 (by omega)⟩
theorem Lk2.put{w w1:Wq}{Z:Nat->Prop}{B lo:Nat}{M:Mm}{f:Fr}{aK:Option Addr}{cK:Nat}(h:Lk2 Xb w w1 Z B lo M f aK cK)(g:Fr):Lk2 Xb w (w1.setCells w.heap.size 0 (g.enc aK cK)) Z B lo M g aK cK:=by
 obtain⟨aS,aH,aF,aL,cS,cH,cF,cL,m,hz⟩:=h.mine
 refine⟨h.zl,Hu h.fine (.inr (aC _)),⟨aS,aH,aF,aL,cS,cH,cF,cL,m.same (by rw[setCells_size];exact aC _) (fun k _ hk=>Af ?_ _ _ _),hz⟩,Bi h.fb rfl,(Af (by omega) _ _ _).trans h.zb⟩
 rcases hz k hk with h3|h3
 ·have:=h.zl k h3;omega
 ·omega
def Iw(Xb:Ex)(w:Wq)(Z:Nat->Prop)(B lo:Nat)(aK:Option Addr)(cK:Nat)(N:Mm)(G:Fr)(e:lZ)(V:Wq):Prop :=
 Ret w V e G aK cK/\Has Xb V B lo (Up w Z) N/\Fine w V Z
def RetN(Xb:Ex)(w:Wq)(Z:Nat->Prop)(B lo:Nat)(N:Mm)(G:Fr)(e:lZ)(V:Wq):Prop :=
 a2s w V e G/\Has Xb V B lo (Up w Z) N/\Fine w V Z
theorem frO(f:Fr)(aK:Option Addr)(cK:Nat):∃ o:Obj,o=.cells #[O J f.c.k,O J f.c.a,O J f.c.b,O J f.c.t,O J f.c.q,O J f.c.h,O J f.l,O J f.u,O J f.p,O J f.h,O J f.n,Y aK f.t.length cK,.bool f.d,O J f.e] 47:=⟨_,rfl⟩
section
variable {w V:Wq} {Z:Nat->Prop} {B lo:Nat} {N:Mm} {f G:Fr} {aK:Option Addr} {cK:Nat}
theorem a0d{e:lZ}(h:StQ w (RQ Xb w Z B lo aK cK N G) e V):StQ w (Iw Xb w Z B lo aK cK N G) e V:=by
 obtain⟨g,a,c,h1,h2,h3,h4⟩:=h
 exact⟨g,a,c,h1,h2,h3,⟨aK,cK,h4.1.1,h4.1.2,fun _ h=>.inl h,fun _=>⟨rfl,rfl⟩⟩,h4.2⟩
theorem Fp(k:Int)(h:Lk2 Xb w V Z B lo N f aK cK)(hG:toF f k=G)(hr:Az w aK cK f.t)(hz:∀ ad,aK=some ad->¬ Z ad.block):aI Pg 171 #[Ai f aK cK,O J k] V (StQ w (Iw Xb w Z B lo aK cK N G)) :=
 (Hf f k aK cK V).mono fun _ _ h1=>a0d (h1.1 ▸ Uc (h.below h1.2) hG hr hz)
theorem a5o(h:Lk2 Xb w V Z B lo N f aK cK)(hG:D5 f=G)(hr:Az w aK cK f.t)(hz:∀ ad,aK=some ad->¬ Z ad.block):aI Pg 180 #[Ai f aK cK] V (StQ w (Iw Xb w Z B lo aK cK N G)) :=
 (Xf f aK cK V).mono fun _ _ h1=>a0d (h1.1 ▸ Uc (h.below h1.2) hG hr hz)
theorem a6p(h:Lk2 Xb w V Z B lo N f aK cK)(hG:Ec f 8 5=G)(hr:Az w aK cK f.t)(hz:∀ ad,aK=some ad->¬ Z ad.block):aI Pg 188 #[Ai f aK cK] V (StQ w (Iw Xb w Z B lo aK cK N G)) :=
 (Qu f aK cK V).mono fun _ _ h1=>a0d (h1.1 ▸ Uc (h.below h1.2) hG hr hz)
theorem Zd(h:Lk2 Xb w V Z B lo N f aK cK)(hG:toF f 6=G)(hr:Az w aK cK f.t)(hz:∀ ad,aK=some ad->¬ Z ad.block):aI Pg 196 #[Ai f aK cK] V (StQ w (Iw Xb w Z B lo aK cK N G)) :=
 (Rx f aK cK V).mono fun _ _ h1=>a0d (h1.1 ▸ Uc (h.below h1.2) hG hr hz)
theorem a5h(k:Int)(h:Lk2 Xb w V Z B lo N f aK cK)(hG:Ak f k=G)(hr:Az w aK cK f.t)(hz:∀ ad,aK=some ad->¬ Z ad.block):aI Pg 199 #[Ai f aK cK,O J k] V (StQ w (RetN Xb w Z B lo N G)):=by
 unfold Ai
 subst hG
 have wB:=fC h.zb
 refine(Ua f k aK cK V (hr.fine h.fine hz)).mono ?_
 rintro e w2 ⟨a,c,rfl,hk,hb⟩
 have h2:=h.below hb
 have hs:=h2.same (w2:=w2.setCells (w.heap.size+1) 0 ((Ak f k).enc a c)) (by rw[setCells_size];exact aC _) (Au _ _ _) (fun k hk=>Af hk _ _ _)
 exact⟨Ak f k,a,c,rfl,Be h2.zb (by simp),Bi h2.zb rfl,⟨a,c,rfl,(hk.same fun ad e=>Af (by have:=(hk.lt ad e).1;omega) _ _ _).le (by omega)⟩,hs⟩
theorem Ub(k:Int)(h:Lk2 Xb w V Z B lo N f aK cK)(hG:Ak f k=G)(hr:Az w aK cK f.t)(hz:∀ ad,aK=some ad->¬ Z ad.block)(hm:f.t.length<=100):aI Pg 199 #[Ai f aK cK,O J k] V (StQ w (Iw Xb w Z B lo aK cK N G)) :=
 (a5h k h hG hr hz).mono fun e V' h=>by
  obtain⟨g,a,c,h1,h2,h3,⟨a',c',h4,h5⟩,h6⟩:=h
  subst hG
  exact⟨g,a,c,h1,h2,h3,⟨a',c',h4,h5.row (by show f.t.length<=1000;omega),fun ad e=>.inr (h5.lt ad e).1,fun h=>by cases h⟩,h6⟩
end
section
variable {w W W':Wq} {B lo:Nat} {aS aH aF aL:Option Addr} {cS cH cF cL:Nat} {M:Mm} {f:Fr} {aK:Option Addr} {cK b:Nat}
theorem LH.below(h:LH Xb w W B lo aS aH aF aL cS cH cF cL M f aK cK b)(hb:Below W.heap.size W W'):LH Xb w W' B lo aS aH aF aL cS cH cF cL M f aK cK b :=
 ⟨h.e.o.below hb,h.r,h.z,h.ok,h.fit,h.bl,h.bb,h.ns,h.nh⟩
theorem LH.first(m:Mine Xb w B lo aS aH aF aL cS cH cF cL M)(hM:Ok M)(hf:Fit M f)(r:Az w aK cK f.t)(hz:∀ ad,aK=some ad->¬ Ac B aS aH aF aL ad.block){o oz:Obj}(ho:o=.cells #[O J f.c.k,O J f.c.a,O J f.c.b,O J f.c.t,O J f.c.q,O J f.c.h,O J f.l,O J f.u,O J f.p,O J f.h,O J f.n,Y aK f.t.length cK,.bool f.d,O J f.e] 47)(bi:oz=Ah) :
  ∃ b:Nat,LH Xb w ((w.alloc o).alloc oz) B lo aS aH aF aL cS cH cF cL M f aK cK b/\bkN M f=b:=by
 obtain⟨b0,b1⟩:=Ia hM hf.call
 have hb:Fz M.h.length f.c=(bkN M f:Nat):=(Int.toNat_of_nonneg b0).symm
 exact⟨_,⟨Lk.first m f aK cK ho bi,r,hz,hM,hf,by have:=hb ▸ b1;omega,hb,hM.ns,hM.nh.2⟩,rfl⟩
theorem LH.stands(h:LH Xb w W B lo aS aH aF aL cS cH cF cL M f aK cK b):aI Pg 200 #[Ae B,Ai f aK cK] W fun e w'=>e=.returned (.tuple #[O J (stN f),.bool (Fe M f)])/\LH Xb w w' B lo aS aH aF aL cS cH cF cL M f aK cK b:=by
 unfold Ae Ai
 have:=h.ns
 have:=h.fit.o.u.2
 exact(Em M f B aS aH aF aL cS cH cF cL aK cK W h.e.o.m.box (by omega) (by omega)).mono fun _ _ h'=>⟨h'.1,h.below h'.2⟩
theorem LH.q(h:LH Xb w W B lo aS aH aF aL cS cH cF cL M f aK cK b):aI Pg 34 #[Cm aS aH aF aL cS cH cF cL M,Gj f.c] W fun e w'=>e=.returned (O J (b:Int))/\Below W.heap.size W w':=by
 unfold Gj Cm
 have:=h.nh
 exact h.bb.o ▸ G8 aS aH aF aL _ _ _ _ cS cH cF cL M.w f.c W (by omega)
theorem LH.sl(h:LH Xb w W B lo aS aH aF aL cS cH cF cL M f aK cK b)(W:Wq):aI Pg 111 #[Cm aS aH aF aL cS cH cF cL M,O J f.h] W fun e w'=>e=.returned (.bool (Dp M f.h))/\Below W.heap.size W w':=by
 unfold Cm
 have:=h.ns
 exact Ep aS aH aF aL _ _ _ _ cS cH cF cL M.w f.h W (by omega)
end
end
end Go.Proofs.YthhgoenomehobaaGreat.mm
