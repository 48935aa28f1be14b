/- Parts. -/
import Derived.Test.YthhgoenomehobaaGreatP16
import Derived.Test.YthhgoenomehobaaGreatP17
namespace Go.Proofs.YthhgoenomehobaaGreat.mm
open _root_.Array renaming any_eq_true' → jF, replicate → jG, all_eq_true' → jH
open Calls renaming regrown_of → jE
open Option renaming getD_some → jC, map_some → jD
open Bool renaming and_eq_true → cO, not_false → jA, true_and → jB
open Region renaming wanted → iY, binds → iZ, ready → bZ
open World.ownsRow renaming alloc → iV, kept → iW
open List renaming getElem_mem → bJ, replicate → aQ, range → aU, take_succ_eq_append_getElem → aV, all_eq_true → iR, getElem_inj → iU, mem_filter → bW
open Nat renaming le_refl → aC, mul_le_mul → iO, lt_of_not_le → iQ
open RowKit.Below renaming refl → dK, heap_alloc → fU
open Go renaming lt_of_block → fC, cell_regrown → fO, heap_alloc_new → fP, bodyPost_ret → gZ, Value → dU, Calls → aI, redrawn → iC, wp_region_quiet_below → iD, below_regrown → iG, results → iH, wpOp_mono → iJ, wpQuiet_nil → iL, Regrown → iM, undef → Uz, World → Wq
open Tryz
set_option maxRecDepth 100000
set_option linter.unusedVariables false
open Value renaming int → O, slice → Y
open IntKind renaming i64 → J
open Tryz renaming prog → Pg
set_option maxHeartbeats 0
variable {p:Fl->Bool}{o:Oper}(m:Mm){ag:Array Bool}{l:List Fl}{k:Nat}(f:Fr)(n:Int)(X:Nat)(aK:Option Addr)(cK:Nat){P:Program}{bn:Array Oper}{Q:Exit->Act->Wq->Prop}{id:Nat}{a:Act}{w0:Wq}{M:Mm}{aS aH aF aL:Option Addr}{cS cH cF cL:Nat}{L:Nat->Bool}{x:Nat->dU}{W:Wq}{v:dU}
section
open ChangeShapes WideShapes ChangeAt RowKit Joins Deep Go.Sort
variable {Xb:Ex}
theorem b3d(M:Mm)(f:Fr)(B lo:Nat)(aS aH aF aL:Option Addr)(cS cH cF cL:Nat)(aK:Option Addr)(cK:Nat)(w:Wq)
  (m:Mine Xb w B lo aS aH aF aL cS cH cF cL M) (hM:Ok M) (hf:Fit M f) (r:Az w aK cK f.t) (hz:∀ ad,aK=some ad->¬ Ac B aS aH aF aL ad.block) :
  aI Pg 177 #[Ae B,Ai f aK cK] w fun e w'=>Ret w w' e (Me M f) aK cK/\Has Xb w' B lo (Up w (Ac B aS aH aF aL)) (Lj M f)/\Fine w w' (Ac B aS aH aF aL):=by
 unfold Ae Ai
 have ig:=hM.ns
 have jf:=hM.nh.2
 have o9:=hf.u.2
 have qQ:f.u<=1000:=by omega
 have rE:M.s.length<=1000:=by omega
 have xW:Qi (Ok M):=hM
 have HR:Qi (Az w aK cK f.t):=r
 obtain⟨b0,b1⟩:=Ia hM hf.call
 obtain⟨b,hb⟩:∃ b:Nat,Fz M.h.length f.c=b:=⟨_,(Int.toNat_of_nonneg b0).symm⟩
 have gy:b<M.h.length:=by omega
 have qJ:bkN M f=b:=by unfold bkN;rw[hb];rfl
 cases hsl:Dp M f.h
 ·have jm:Me M f=D5 f:=by unfold Me;rw[hsl];rfl
  have jr:Lj M f=M:=by unfold Lj;rw[hsl];rfl
  rw[jm,jr]
  have EG:inB f.h 0 ((M.s.length:Int) - 1)=false:=hsl
  have ve:Qi (∀ W:Wq,aI Pg 34 #[Cm aS aH aF aL cS cH cF cL M,Gj f.c] W fun e w'=>e=.returned (O J (b:Int))/\Below W.heap.size W w'):=fun W=>hb ▸ G8 _ _ _ _ _ _ _ _ cS cH cF cL M.w f.c W (by omega)
  have yB:Qi (∀ W:Wq,aI Pg 111 #[Cm aS aH aF aL cS cH cF cL M,O J f.h] W fun e w'=>e=.returned (.bool false)/\Below W.heap.size W w'):=fun W=>EG ▸ Ep _ _ _ _ _ _ _ _ cS cH cF cL M.w _ W (by omega)
  have HZ:Qi (∀ ad,aK=some ad->¬ (Ac B aS aH aF aL) ad.block):=hz
  obtain⟨of,df⟩:=frObj f aK cK
  obtain⟨oz,bi⟩:∃ o:Obj,o=Ah:=⟨_,rfl⟩
  have HE:Qi (Lk Xb w ((w.alloc of).alloc oz) B lo aS aH aF aL cS cH cF cL M f aK cK):=Lk.first m f aK cK df bi
  obtain⟨q0,q1,q2,q3,q4,-,-,-,-,-,qs⟩:=Aj HE.o.m.box
  obtain⟨f0,f1,f2,f3,f4,f5,f6,f7,f8,f9,ay,au,aj,ak,ff,fs⟩:=A8 HE.o.fb
  unfold Ah at bi
  clear m qQ rE o9 ig jf hM hf r hz hsl EG jm jr qJ hb b0 b1
  go_enter func177,ntmps177
  go_wp2_with fail
  rw[<- df,<- bi]
  generalize (w.alloc of).alloc oz=W0 at *
  subst df bi
  have cB:∀ (d:Nat) (os:Array Obj),aI Pg 34 #[Cm aS aH aF aL cS cH cF cL M,Gj f.c] (grow (iC W0 d) os) fun e uh=>e=.returned (O J (b:Int))/\∃ p:iM,uh=grow (iC W0 p.d) p.os:=fun d os=>jE (ve.o _)
  have JW:=fO q0
  have JV:=fO q1
  have JU:=fO q2
  have JS:=fO q3
  have JR:=fO q4
  have VW:=fO f0
  have VV:=fO f1
  have VU:=fO f2
  have VT:=fO f3
  have VS:=fO f4
  have VR:=fO f5
  clear q0 q1 q2 q3 q4 qs
  clear f0 f1 f2 f3 f4 f5 f6 f7 f8 f9 ay au aj ak ff fs
  refine iD (by kernel_rfl) (by kernel_rfl) ?_
  repeat (quiet_step (first|exact cB _ _))
  refine iL ?_
  intro _ rq
  obtain⟨⟨dq,rD⟩,ql⟩:=rq
  subst ql
  have gp:Qi (Lk Xb w (grow (iC W0 dq) rD) B lo aS aH aF aL cS cH cF cL M f aK cK):=HE.o.below (iG W0 dq rD)
  generalize grow (iC W0 dq) rD=w1 at *
  clear JW JV JU JS JR VW VV VU VT VS VR HE
  clear cB
  obtain⟨q0,q1,q2,q3,q4,-,-,-,-,-,qs⟩:=Aj gp.o.m.box
  obtain⟨f0,f1,f2,f3,f4,f5,f6,f7,f8,f9,ay,au,aj,ak,ff,fs⟩:=A8 gp.o.fb
  go_wp2_with fail
  have kH:∀ (d:Nat) (os:Array Obj),aI Pg 111 #[Cm aS aH aF aL cS cH cF cL M,O J f.h] (grow (iC w1 d) os) fun e uh=>e=.returned (.bool false)/\∃ p:iM,uh=grow (iC w1 p.d) p.os:=fun d os=>jE (yB.o _)
  have JW:=fO q0
  have JV:=fO q1
  have JU:=fO q2
  have JS:=fO q3
  have JR:=fO q4
  have Xf9:=fO f9
  clear q0 q1 q2 q3 q4 qs
  clear f0 f1 f2 f3 f4 f5 f6 f7 f8 f9 ay au aj ak ff fs
  refine iD (by kernel_rfl) (by kernel_rfl) ?_
  repeat (quiet_step (first|exact kH _ _))
  refine iL ?_
  intro _ rq
  obtain⟨⟨dq,rD⟩,ql⟩:=rq
  subst ql
  have ai:Qi (Lk Xb w (grow (iC w1 dq) rD) B lo aS aH aF aL cS cH cF cL M f aK cK):=gp.o.below (iG w1 dq rD)
  generalize grow (iC w1 dq) rD=w2 at *
  clear JW JV JU JS JR Xf9 gp
  clear kH
  obtain⟨q0,q1,q2,q3,q4,-,-,-,-,-,qs⟩:=Aj ai.o.m.box
  obtain⟨f0,f1,f2,f3,f4,f5,f6,f7,f8,f9,ay,au,aj,ak,ff,fs⟩:=A8 ai.o.fb
  go_wp2_with fail
  clear q0 q1 q2 q3 q4 qs
  have di:Qi (Lk2 Xb w _ (Ac B aS aH aF aL) B lo M f aK cK):=ai.o.two
  clear ai
  refine(Xf f aK cK _).mono ?_
  rintro e w9 ⟨rfl,qM⟩
  have qo:Qi (Lk2 Xb w w9 (Ac B aS aH aF aL) B lo M f aK cK):=di.o.below qM
  clear di qM
  clear f0 f1 f2 f3 f4 f5 f6 f7 f8 f9 ay au aj ak ff fs
  obtain⟨g0,g1,g2,g3,g4,g5,g6,g7,g8,g9,qm,pz,qi,qw,gf,gs⟩:=A8 qo.o.zb
  go_wp2
  refine gZ (v:=.agg #[O J (D5 f).c.k,O J (D5 f).c.a,O J (D5 f).c.b,O J (D5 f).c.t,O J (D5 f).c.q,O J (D5 f).c.h,O J (D5 f).l,O J (D5 f).u,O J (D5 f).p,O J (D5 f).h,O J (D5 f).n,Y aK (D5 f).t.length cK,.bool (D5 f).d,O J (D5 f).e]) (by simp[iH,results177,go_sem,D5,g0,g1,g2,g3,g4,g5,g6,g7,g8,g9,qm,pz,qi,qw]) rfl ⟨⟨aK,cK,rfl,HR.o.fine qo.o.Dl.2 HZ.o,(fun ad h=>.inl h),fun _=>⟨rfl,rfl⟩⟩,qo.o.Dl⟩
 ·obtain⟨j,hj,uC⟩:=(a1j M f.h).1 hsl
  have jm:Me M f = { f with e:=0,l:=7 }:=by unfold Me;rw[hsl];rfl
  have jr:Lj M f=Tm M j b:=by unfold Lj;rw[hsl,qJ,hj];rfl
  rw[jm,jr]
  have EG:inB (j:Int) 0 ((M.s.length:Int) - 1)=true:=(Ar _ _ _).2 (by omega)
  have HJ:Qi (f.h=j):=hj
  have ve:Qi (∀ W:Wq,aI Pg 34 #[Cm aS aH aF aL cS cH cF cL M,Gj f.c] W fun e w'=>e=.returned (O J (b:Int))/\Below W.heap.size W w'):=fun W=>hb ▸ G8 _ _ _ _ _ _ _ _ cS cH cF cL M.w f.c W (by omega)
  have PZ:Qi (∀ W:Wq,aI Pg 97 #[Cm aS aH aF aL cS cH cF cL M,O J (b:Int)] W fun e w'=>e=.returned (.bool true)/\Below W.heap.size W w'):=fun W=>(show inB (b:Int) 0 ((M.h.length:Int) - 1)=true from (Ar _ _ _).2 (by omega)) ▸ H7 _ _ _ _ _ _ _ _ cS cH cF cL M.w (b:Int) W (by omega)
  have yB:Qi (∀ W:Wq,aI Pg 111 #[Cm aS aH aF aL cS cH cF cL M,O J (j:Int)] W fun e w'=>e=.returned (.bool true)/\Below W.heap.size W w'):=fun W=>EG ▸ Ep _ _ _ _ _ _ _ _ cS cH cF cL M.w _ W (by omega)
  have HLk:Qi (∀ W:Wq,Lk Xb w W B lo aS aH aF aL cS cH cF cL M f aK cK->aI Pg 206 #[Ae B,O J (b:Int),O J (j:Int)] W fun e w'=>e=.returned (.tuple #[])/\Lk2 Xb w w' (Ac B aS aH aF aL) B lo (Tm M j b) f aK cK):=fun W h=>(a7h ⟨_,_,_,_,_,_,_,_,h.m,fun _ h=>h⟩ xW.o uC gy).mono (fun e w' h'=>⟨h'.1,h.after h'.2.1 h'.2.2⟩)
  generalize Tm M j b=M' at *
  have HZ:Qi (∀ ad,aK=some ad->¬ (Ac B aS aH aF aL) ad.block):=hz
  obtain⟨of,df⟩:=frObj f aK cK
  obtain⟨oz,bi⟩:∃ o:Obj,o=Ah:=⟨_,rfl⟩
  have HE:Qi (Lk Xb w ((w.alloc of).alloc oz) B lo aS aH aF aL cS cH cF cL M f aK cK):=Lk.first m f aK cK df bi
  obtain⟨q0,q1,q2,q3,q4,-,-,-,-,-,qs⟩:=Aj HE.o.m.box
  obtain⟨f0,f1,f2,f3,f4,f5,f6,f7,f8,f9,ay,au,aj,ak,ff,fs⟩:=A8 HE.o.fb
  unfold Ah at bi
  clear m qQ rE o9 ig jf hM hf r hz hsl EG jm jr qJ hb b0 b1 hj
  go_enter func177,ntmps177
  go_wp2_with fail
  rw[<- df,<- bi]
  generalize (w.alloc of).alloc oz=W0 at *
  subst df bi
  have cB:∀ (d:Nat) (os:Array Obj),aI Pg 34 #[Cm aS aH aF aL cS cH cF cL M,Gj f.c] (grow (iC W0 d) os) fun e uh=>e=.returned (O J (b:Int))/\∃ p:iM,uh=grow (iC W0 p.d) p.os:=fun d os=>jE (ve.o _)
  have JW:=fO q0
  have JV:=fO q1
  have JU:=fO q2
  have JS:=fO q3
  have JR:=fO q4
  have VW:=fO f0
  have VV:=fO f1
  have VU:=fO f2
  have VT:=fO f3
  have VS:=fO f4
  have VR:=fO f5
  clear q0 q1 q2 q3 q4 qs
  clear f0 f1 f2 f3 f4 f5 f6 f7 f8 f9 ay au aj ak ff fs
  refine iD (by kernel_rfl) (by kernel_rfl) ?_
  repeat (quiet_step (first|exact cB _ _))
  refine iL ?_
  intro _ rq
  obtain⟨⟨dq,rD⟩,ql⟩:=rq
  subst ql
  have gp:Qi (Lk Xb w (grow (iC W0 dq) rD) B lo aS aH aF aL cS cH cF cL M f aK cK):=HE.o.below (iG W0 dq rD)
  generalize grow (iC W0 dq) rD=w1 at *
  clear JW JV JU JS JR VW VV VU VT VS VR HE
  clear cB
  obtain⟨q0,q1,q2,q3,q4,-,-,-,-,-,qs⟩:=Aj gp.o.m.box
  obtain⟨f0,f1,f2,f3,f4,f5,f6,f7,f8,f9,ay,au,aj,ak,ff,fs⟩:=A8 gp.o.fb
  go_wp2_with fail
  rw[HJ.o] at f9
  have kH:∀ (d:Nat) (os:Array Obj),aI Pg 111 #[Cm aS aH aF aL cS cH cF cL M,O J (j:Int)] (grow (iC w1 d) os) fun e uh=>e=.returned (.bool true)/\∃ p:iM,uh=grow (iC w1 p.d) p.os:=fun d os=>jE (yB.o _)
  have kC:∀ (d:Nat) (os:Array Obj),aI Pg 97 #[Cm aS aH aF aL cS cH cF cL M,O J (b:Int)] (grow (iC w1 d) os) fun e uh=>e=.returned (.bool true)/\∃ p:iM,uh=grow (iC w1 p.d) p.os:=fun d os=>jE (PZ.o _)
  have JW:=fO q0
  have JV:=fO q1
  have JU:=fO q2
  have JS:=fO q3
  have JR:=fO q4
  have Xf9:=fO f9
  clear q0 q1 q2 q3 q4 qs
  clear f0 f1 f2 f3 f4 f5 f6 f7 f8 f9 ay au aj ak ff fs
  refine iD (by kernel_rfl) (by kernel_rfl) ?_
  repeat (quiet_step (first|exact kH _ _|exact kC _ _))
  refine iL ?_
  intro _ rq
  obtain⟨⟨dq,rD⟩,ql⟩:=rq
  subst ql
  have ai:Qi (Lk Xb w (grow (iC w1 dq) rD) B lo aS aH aF aL cS cH cF cL M f aK cK):=gp.o.below (iG w1 dq rD)
  generalize grow (iC w1 dq) rD=w2 at *
  clear JW JV JU JS JR Xf9 gp
  clear kH kC
  obtain⟨q0,q1,q2,q3,q4,-,-,-,-,-,qs⟩:=Aj ai.o.m.box
  obtain⟨f0,f1,f2,f3,f4,f5,f6,f7,f8,f9,ay,au,aj,ak,ff,fs⟩:=A8 ai.o.fb
  rw[HJ.o] at f9
  go_wp2_with fail
  clear q0 q1 q2 q3 q4 qs
  clear f0 f1 f2 f3 f4 f5 f6 f7 f8 f9 ay au aj ak ff fs
  refine(HLk.o _ (by exact ai.o.below ⟨rfl,rfl,rfl,aC _,fun _ _=>rfl⟩)).mono ?_
  rintro e w3 ⟨rfl,h9⟩
  have di:Qi (Lk2 Xb w w3 (Ac B aS aH aF aL) B lo M' f aK cK):=h9
  clear ai h9
  obtain⟨f0,f1,f2,f3,f4,f5,f6,f7,f8,f9,ay,au,aj,ak,ff,fs⟩:=A8 di.o.fb
  go_wp2_with fail
  have mf:Qi (Lk2 Xb w _ (Ac B aS aH aF aL) B lo M' { f with e:=0 } aK cK):=di.o.store 13 (O J 0) { f with e:=0 } rfl
  clear di
  refine(Hf { f with e:=0 } 7 aK cK _).mono ?_
  rintro e w9 ⟨rfl,qM⟩
  have qo:Qi (Lk2 Xb w w9 (Ac B aS aH aF aL) B lo M' { f with e:=0 } aK cK):=mf.o.below qM
  clear mf qM
  clear f0 f1 f2 f3 f4 f5 f6 f7 f8 f9 ay au aj ak ff fs
  obtain⟨g0,g1,g2,g3,g4,g5,g6,g7,g8,g9,qm,pz,qi,qw,gf,gs⟩:=A8 qo.o.zb
  go_wp2
  refine gZ (v:=.agg #[O J ({ f with e:=0,l:=7 }).c.k,O J ({ f with e:=0,l:=7 }).c.a,O J ({ f with e:=0,l:=7 }).c.b,O J ({ f with e:=0,l:=7 }).c.t,O J ({ f with e:=0,l:=7 }).c.q,O J ({ f with e:=0,l:=7 }).c.h,O J ({ f with e:=0,l:=7 }).l,O J ({ f with e:=0,l:=7 }).u,O J ({ f with e:=0,l:=7 }).p,O J ({ f with e:=0,l:=7 }).h,O J ({ f with e:=0,l:=7 }).n,Y aK ({ f with e:=0,l:=7 }).t.length cK,.bool ({ f with e:=0,l:=7 }).d,O J ({ f with e:=0,l:=7 }).e]) (by simp[iH,results177,go_sem,toF,g0,g1,g2,g3,g4,g5,g6,g7,g8,g9,qm,pz,qi,qw]) rfl ⟨⟨aK,cK,rfl,HR.o.fine qo.o.Dl.2 HZ.o,(fun ad h=>.inl h),fun _=>⟨rfl,rfl⟩⟩,qo.o.Dl⟩
end
def Zu(jo cu jy:Nat):Wd:=⟨Vh jo cu,aQ jy idle⟩
def I9:Wd->List Pk->Wd
 | w,[]=>w
 | w,x :: l=>I9 (if doE w x=0 then doW w x else w) l
def nx(m:Mm)(y:Int):Int:=(Aa m y).next
section
section
variable {w:Wd} {G:List (List Mm)} {i:Nat} {t:Tk}
theorem a4n(i:Nat)(t:Tk):(stepT m i t).2.f.c=t.f.c:=by
 unfold stepT
 split
 ·exact lkF_c _ _
 split
 ·exact adF_c _ _
 split
 ·exact drF_c _ _
 split
 ·rfl
 ·exact swF_c _ _
end
end
structure Pst where
 s:Int
 c:Cl
 fro:Nat
 to:Nat
 e:Int
 h:Int
 n:Int
 t:List (Int × Int)
def Et(w:Wd)(x:Pk):Wd:=if doE w x=0 then doW w x else w
theorem Z9(w:Wd)(x:Pk)(l:List Pk):I9 w (x :: l)=I9 (Et w x) l:=rfl
theorem a1y:∀ (l l':List Pk) (w:Wd),I9 w (l++l')=I9 (I9 w l) l'
 | [],_,_=>rfl
 | x :: l,l',w=>by rw[List.cons_append,Z9,Z9,a1y l l']
theorem Za{l:List Pk}{n:Nat}(h:n<l.length)(w:Wd):I9 w (l.take (n+1))=Et (I9 w (l.take n)) l[n]:=by
 rw[aV h,a1y]
 rfl
def Kd(w:Wd)(x:Pk):Prop :=
 (x.tick=true/\w.m.w≠1000000/\doW w x=⟨{ w.m with w:=w.m.w+1 },w.t⟩) \/
 (x.tick=false/\x.step=true/\(0<=x.s/\x.s<w.t.length)/\w.t[x.s.toNat]?=some (Gt w x)/\(Gt w x).b=true/\doW w x=⟨(stepT w.m x.s.toNat (Gt w x)).1,w.t.set x.s.toNat (stepT w.m x.s.toNat (Gt w x)).2⟩) \/
 (x.tick=false/\x.step=false/\(0<=x.s/\x.s<w.t.length)/\w.t[x.s.toNat]?=some (Gt w x)/\(Gt w x).b=false/\Dh w.m.s.length w.m.h.length x.c=0/\(x.c.k=1->(Gt w x).u.length≠100)/\(x.c.k=6->x.c.h∈(Gt w x).u)/\doW w x=⟨w.m,w.t.set x.s.toNat ⟨true,Df x.c,(Gt w x).u⟩⟩)
theorem Kd.tick{w:Wd}{x:Pk}(h:x.tick=true)(hn:w.m.w≠1000000)(e:doW w x=⟨{ w.m with w:=w.m.w+1 },w.t⟩):Kd w x:=.inl ⟨h,hn,e⟩
theorem Kd.step{w:Wd}{x:Pk}(h:x.tick=false)(hs:x.step=true)(hr:0<=x.s/\x.s<w.t.length)(hi:w.t[x.s.toNat]?=some (Gt w x))(hb:(Gt w x).b=true)(e:doW w x=⟨(stepT w.m x.s.toNat (Gt w x)).1,w.t.set x.s.toNat (stepT w.m x.s.toNat (Gt w x)).2⟩):Kd w x:=.inr (.inl ⟨h,hs,hr,hi,hb,e⟩)
theorem Kd.begin{w:Wd}{x:Pk}(h:x.tick=false)(hs:x.step=false)(hr:0<=x.s/\x.s<w.t.length)(hi:w.t[x.s.toNat]?=some (Gt w x))(hb:(Gt w x).b=false)(hc:Dh w.m.s.length w.m.h.length x.c=0)(h1:x.c.k=1->(Gt w x).u.length≠100)(h6:x.c.k=6->x.c.h∈(Gt w x).u)(e:doW w x=⟨w.m,w.t.set x.s.toNat ⟨true,Df x.c,(Gt w x).u⟩⟩):Kd w x:=.inr (.inr ⟨h,hs,hr,hi,hb,hc,h1,h6,e⟩)
theorem a7z{w:Wd}{x:Pk}(h:doE w x=0):Kd w x:=by
 unfold doE at h
 by_cases ht:x.tick=true
 ·rw[af ht] at h
  by_cases hn:w.m.w=1000000
  ·rw[af hn] at h;omega
  ·exact .tick ht hn (by unfold doW;rw[af ht])
 rw[ae ht] at h
 have vZ:x.tick=false:=by simpa using ht
 by_cases hr:0<=x.s/\x.s<w.t.length
 ·rw[ae (by simpa using hr)] at h
  have hi:w.t[x.s.toNat]?=some (Gt w x):=by
   unfold Gt
   have:x.s.toNat<w.t.length:=by omega
   rw[List.getD_eq_getElem?_getD,List.getElem?_eq_getElem this]
   rfl
  by_cases hs:x.step=true
  ·rw[af hs] at h
   by_cases hb:(Gt w x).b=true
   ·exact .step vZ hs hr hi hb (by unfold doW;rw[ae ht,af hs])
   ·rw[ae hb] at h;omega
  ·rw[ae hs] at h
   unfold Zl at h
   by_cases hb:(Gt w x).b=true
   ·rw[af hb] at h;omega
   rw[ae hb] at h
   by_cases hc:Dh w.m.s.length w.m.h.length x.c=0
   ·rw[ae (by simpa using hc)] at h
    by_cases h1:x.c.k=1/\(Gt w x).u.length=100
    ·rw[af h1] at h;omega
    rw[ae h1] at h
    by_cases h6:x.c.k=6/\x.c.h ∉ (Gt w x).u
    ·rw[af h6] at h;omega
    refine .begin vZ (by simpa using hs) hr hi (by simpa using hb) hc (fun h=>fun e=>h1 ⟨h,e⟩) (fun h=>?_) (by unfold doW;rw[ae ht,ae hs])
    by_cases hm:x.c.h∈(Gt w x).u
    ·exact hm
    ·exact(h6 ⟨h,hm⟩).elim
   ·rw[af hc] at h;exact(hc h).elim
 ·rw[af (by simpa using hr)] at h;omega
structure Rs where
 w:Wd
 said:List Int
 past:List Pst
 beg:List Nat
def b0w(n:Nat)(x:Pk)(b:Nat)(t:Tk):Pst:=⟨x.s,t.f.c,b,n,t.f.e,t.f.h,t.f.n,t.f.t⟩
def Va(n:Nat)(s:Rs)(x:Pk):Rs :=
 if doE s.w x=0 then
  (if x.tick then ⟨doW s.w x,s.said ++ [0],s.past,s.beg⟩
   else if x.step then
    (if ((doW s.w x).t.getD x.s.toNat idle).b then ⟨doW s.w x,s.said ++ [0],s.past,s.beg⟩
    else ⟨doW s.w x,s.said ++ [0],s.past ++ [b0w n x (s.beg.getD x.s.toNat 0) ((doW s.w x).t.getD x.s.toNat idle)],s.beg⟩)
   else ⟨doW s.w x,s.said ++ [0],s.past,s.beg.set x.s.toNat n⟩)
 else ⟨s.w,s.said ++ [doE s.w x],s.past,s.beg⟩
def Vk:Nat->Rs->List Pk->Rs
 | _,s,[]=>s
 | n,s,x :: l=>Vk (n+1) (Va n s x) l
def rs0(w:Wd):Rs:=⟨w,[],[],aQ w.t.length 0⟩
def ofK(l:List Fl)(a b:Int):Option Fl:=l.find? (fun f=>f.a==a && f.b==b)
def lives:Option Fl->Int->Bool
 | some f,t=>decide (t<f.unt)
 | none,_=>false
def Ji:Option Fl->Int->Bool
 | some f,s=>f.h==s
 | none,_=>false
def U3(p:Pst)(x:Option Fl)(tx:Int)(y:Option Fl)(ty:Int):Bool :=
 if p.c.k=1/\p.e=0 then (lives x tx && Ji x p.h) || (lives y ty && Ji y p.h)
 else if p.c.k=1 then !lives x tx || !lives y ty
 else if p.c.k=2/\p.e=0 then x.isNone && Ji y p.h
 else if p.c.k=2/\p.e=6 then x.isSome || y.isSome
 else if p.c.k=3/\p.e=0 then x.isSome && (y.isNone || !(match x,y with|some f,some g=>f.h==g.h|_,_=>false))
 else if p.c.k=3 then x.isNone || y.isNone
 else true
def U4(p:Pst)(m m':Mm):Bool:=U3 p (ofK (Eb m) p.c.a p.c.b) m.w (ofK (Eb m') p.c.a p.c.b) m'.w
def Ew(aS aH aF aL:Option Addr)(cS cH cF cL:Nat)(aT:Option Addr)(cT:Nat)(W:Wd):dU:=.agg #[Y aS W.m.s.length cS,Y aH W.m.h.length cH,Y aF W.m.f.length cF,Y aL W.m.l.length cL,O J W.m.w,Y aT W.t.length cT]
def Oo(p:Pst)(aK:Option Addr)(cK:Nat):dU:=.agg #[O J p.s,O J p.c.k,O J p.c.a,O J p.c.b,O J p.c.t,O J p.c.q,O J p.c.h,O J p.fro,O J p.to,O J p.e,O J p.h,O J p.n,Y aK p.t.length cK]
def Qn(x:Pk):dU:=.agg #[O J x.s,.bool x.step,.bool x.tick,O J x.c.k,O J x.c.a,O J x.c.b,O J x.c.t,O J x.c.q,O J x.c.h]
section
open ChangeShapes WideShapes ChangeAt RowKit Joins Maps
theorem a0k(h:k<l.length)(h0:(l.take k).any p=false)(hx:p l[k]=false):(l.take (k+1)).any p=false:=by
 rw[aV h,List.any_append,h0]
 simp[hx]
end
section
open ChangeShapes WideShapes ChangeAt RowKit Joins Deep Go.Sort
variable {Xb:Ex}
theorem Qk(M:Mm)(f:Fr)(b:Nat)(B lo:Nat)(aS aH aF aL:Option Addr)(cS cH cF cL:Nat)(aK:Option Addr)(cK:Nat)(w:Wq)
  (m:Mine Xb w B lo aS aH aF aL cS cH cF cL M) (hM:Ok M) (gy:b<M.h.length) :
  aI Pg 208 #[Ae B,O J (b:Int),Ai f aK cK] w fun e w'=>e=.returned (.tuple #[.agg #[O J ({ f with p:=0,u:=Bq M b }).c.k,O J ({ f with p:=0,u:=Bq M b }).c.a,O J ({ f with p:=0,u:=Bq M b }).c.b,O J ({ f with p:=0,u:=Bq M b }).c.t,O J ({ f with p:=0,u:=Bq M b }).c.q,O J ({ f with p:=0,u:=Bq M b }).c.h,O J ({ f with p:=0,u:=Bq M b }).l,O J ({ f with p:=0,u:=Bq M b }).u,O J ({ f with p:=0,u:=Bq M b }).p,O J ({ f with p:=0,u:=Bq M b }).h,O J ({ f with p:=0,u:=Bq M b }).n,Y aK ({ f with p:=0,u:=Bq M b }).t.length cK,.bool ({ f with p:=0,u:=Bq M b }).d,O J ({ f with p:=0,u:=Bq M b }).e],.bool true])/\Has Xb w' B lo (Up w (Ac B aS aH aF aL)) M/\Fine w w' (Ac B aS aH aF aL):=by
 unfold Ae Ai
 have jf:=hM.nh.2
 obtain⟨gH,rfl,oH,lH,-,-⟩:=C9 m.c.h (by omega)
 obtain⟨x,hx⟩:∃ x,x=M.h[b]:=⟨_,rfl⟩
 have xA:Bq M b=x:=by rw[hx];simp[Bq,List.getD_eq_getElem?_getD,gy]
 rw[xA]
 have HX:Qi (∀ W,Mine Xb W B lo aS (some ⟨gH,0,none⟩) aF aL cS cH cF cL M->W.cell? ⟨gH,b,none⟩=some (O J x)):=fun W m'=>by rw[hx];exact(Gf m'.c.h gy).1
 have PZ:Qi (∀ W:Wq,aI Pg 97 #[Cm aS (some ⟨gH,0,none⟩) aF aL cS cH cF cL M,O J (b:Int)] W fun e w'=>e=.returned (.bool true)/\Below W.heap.size W w'):=fun W=>(show inB (b:Int) 0 ((M.h.length:Int) - 1)=true from (Ar _ _ _).2 (by omega)) ▸ H7 _ _ _ _ _ _ _ _ cS cH cF cL M.w (b:Int) W (by omega)
 obtain⟨of,df⟩:=frObj f aK cK
 obtain⟨oz,bi⟩:∃ o:Obj,o=Ah:=⟨_,rfl⟩
 have HE:Qi (Lk Xb w ((w.alloc of).alloc oz) B lo aS (some ⟨gH,0,none⟩) aF aL cS cH cF cL M f aK cK):=Lk.first m f aK cK df bi
 obtain⟨q0,q1,q2,q3,q4,-,-,-,-,-,qs⟩:=Aj m.box
 obtain⟨f0,f1,f2,f3,f4,f5,f6,f7,f8,f9,ay,au,aj,ak,ff,fs⟩:=A8 HE.o.fb
 unfold Ah at bi
 clear m hM jf hx xA oH lH
 go_enter func208,ntmps208
 go_wp2_with fail
 rw[<- df,<- bi]
 generalize (w.alloc of).alloc oz=W0 at *
 subst df bi
 clear q0 q1 q2 q3 q4 qs
 clear f0 f1 f2 f3 f4 f5 f6 f7 f8 f9 ay au aj ak ff fs
 refine(PZ.o W0).mono ?_
 rintro e w2 ⟨rfl,dm⟩
 have ai:Qi (Lk Xb w w2 B lo aS (some ⟨gH,0,none⟩) aF aL cS cH cF cL M f aK cK):=HE.o.below dm
 clear HE dm
 obtain⟨q0,q1,q2,q3,q4,-,-,-,-,-,qs⟩:=Aj ai.o.m.box
 obtain⟨f0,f1,f2,f3,f4,f5,f6,f7,f8,f9,ay,au,aj,ak,ff,fs⟩:=A8 ai.o.fb
 have hc:=HX.o w2 ai.o.m
 have ES:=cell_lt hc
 have yM:B<w.heap.size:=ai.o.lt B (.inl rfl)
 have BF:gH<w.heap.size:=ai.o.lt gH (.inr (.inr (.inl ⟨_,rfl,rfl⟩)))
 have yK:B≠w.heap.size:=by omega
 have yI:gH≠w.heap.size:=by omega
 have zq:w.heap.size≠B:=by omega
 have zh:w.heap.size≠gH:=by omega
 go_wp2_with fail
 rename_i K0 qO
 apply Ey (R:=fun a=>∀ W2:Wq,Lk2 Xb w W2 (Ac B aS (some ⟨gH,0,none⟩) aF aL) B lo M { f with p:=0,u:=x } aK cK->K0 a W2)
 ·intro gq
  have pg:Qi _:=gq
  clear gq
  go_region
  all_goals exact pg.o _ (((ai.o.store 8 (O J 0) { f with p:=0 } rfl).store 7 (O J x) { f with p:=0,u:=x } rfl).two.below ⟨rfl,rfl,rfl,aC _,fun _ _=>rfl⟩)
 intro w3 h3
 have di:Qi (Lk2 Xb w w3 (Ac B aS (some ⟨gH,0,none⟩) aF aL) B lo M { f with p:=0,u:=x } aK cK):=h3
 refine qO _ _ ?_
 clear h3 qO ai hc ES yM BF yK yI zq zh
 clear f0 f1 f2 f3 f4 f5 f6 f7 f8 f9 ay au aj ak ff fs
 obtain⟨f0,f1,f2,f3,f4,f5,f6,f7,f8,f9,ay,au,aj,ak,ff,fs⟩:=A8 di.o.fb
 clear q0 q1 q2 q3 q4 qs
 obtain⟨g0,g1,g2,g3,g4,g5,g6,g7,g8,g9,qm,pz,qi,qw,gf,gs⟩:=A8 di.o.zb
 go_wp2
 refine gZ (v:=.tuple #[.agg #[O J ({ f with p:=0,u:=x }).c.k,O J ({ f with p:=0,u:=x }).c.a,O J ({ f with p:=0,u:=x }).c.b,O J ({ f with p:=0,u:=x }).c.t,O J ({ f with p:=0,u:=x }).c.q,O J ({ f with p:=0,u:=x }).c.h,O J ({ f with p:=0,u:=x }).l,O J ({ f with p:=0,u:=x }).u,O J ({ f with p:=0,u:=x }).p,O J ({ f with p:=0,u:=x }).h,O J ({ f with p:=0,u:=x }).n,Y aK ({ f with p:=0,u:=x }).t.length cK,.bool ({ f with p:=0,u:=x }).d,O J ({ f with p:=0,u:=x }).e],.bool true]) (by simp[iH,results208,go_sem,g0,g1,g2,g3,g4,g5,g6,g7,g8,g9,qm,pz,qi,qw]) rfl ⟨rfl,di.o.Dl⟩
theorem Xk(M:Mm)(f:Fr)(B lo:Nat)(aS aH aF aL:Option Addr)(cS cH cF cL:Nat)(aK:Option Addr)(cK:Nat)(w:Wq)
  (m:Mine Xb w B lo aS aH aF aL cS cH cF cL M) (hM:Ok M) (hf:Fit M f) (jc:Fe M f=true) :
  aI Pg 209 #[Ae B,Ai f aK cK] w fun e w'=>e=.returned (.tuple #[.agg #[O J ({ f with p:=f.u,u:=(Aa M (f.u - 1)).next }).c.k,O J ({ f with p:=f.u,u:=(Aa M (f.u - 1)).next }).c.a,O J ({ f with p:=f.u,u:=(Aa M (f.u - 1)).next }).c.b,O J ({ f with p:=f.u,u:=(Aa M (f.u - 1)).next }).c.t,O J ({ f with p:=f.u,u:=(Aa M (f.u - 1)).next }).c.q,O J ({ f with p:=f.u,u:=(Aa M (f.u - 1)).next }).c.h,O J ({ f with p:=f.u,u:=(Aa M (f.u - 1)).next }).l,O J ({ f with p:=f.u,u:=(Aa M (f.u - 1)).next }).u,O J ({ f with p:=f.u,u:=(Aa M (f.u - 1)).next }).p,O J ({ f with p:=f.u,u:=(Aa M (f.u - 1)).next }).h,O J ({ f with p:=f.u,u:=(Aa M (f.u - 1)).next }).n,Y aK ({ f with p:=f.u,u:=(Aa M (f.u - 1)).next }).t.length cK,.bool ({ f with p:=f.u,u:=(Aa M (f.u - 1)).next }).d,O J ({ f with p:=f.u,u:=(Aa M (f.u - 1)).next }).e],.bool true])/\Has Xb w' B lo (Up w (Ac B aS aH aF aL)) M/\Fine w w' (Ac B aS aH aF aL):=by
 unfold Ae Ai
 have ig:=hM.ns
 have o9:=hf.u.2
 have qQ:f.u<=1000:=by omega
 have rE:M.s.length<=1000:=by omega
 have h1:=Fh.1 jc
 obtain⟨j,hj⟩:∃ j:Nat,f.u - 1=j:=⟨(f.u - 1).toNat,by omega⟩
 have uC:j<M.s.length:=by omega
 obtain⟨gS,rfl,oS,lS,kS,-⟩:=C9 m.c.s (by omega)
 obtain⟨s,hs⟩:∃ s,s=Aa M (j:Int):=⟨_,rfl⟩
 have wC:stN f=j:=by unfold stN;rw[ae (by omega)];exact hj
 rw[hj,<- hs]
 have uZ:Qi (∀ (W:Wq),Lk Xb w W B lo (some ⟨gS,0,none⟩) aH aF aL cS cH cF cL M f aK cK->aI Pg 200 #[Ae B,Ai f aK cK] W fun e w'=>e=.returned (.tuple #[O J ((j:Int)),.bool true])/\Lk Xb w w' B lo (some ⟨gS,0,none⟩) aH aF aL cS cH cF cL M f aK cK):=fun W h=>by
  have:=Em M f B _ _ _ _ cS cH cF cL aK cK W h.m.box qQ rE
  rw[wC,jc] at this
  exact this.mono (fun e w' h'=>⟨h'.1,h.below h'.2⟩)
 have HX:Qi (∀ W,Mine Xb W B lo (some ⟨gS,0,none⟩) aH aF aL cS cH cF cL M->W.cell? ⟨gS,j*6+1,none⟩=some (O J s.a)/\W.cell? ⟨gS,j*6+2,none⟩=some (O J s.b)/\W.cell? ⟨gS,j*6+5,none⟩=some (O J s.next)):=fun W m'=>⟨(D7 m'.c.s uC hs).2.1,(D7 m'.c.s uC hs).2.2.1,(D7 m'.c.s uC hs).2.2.2.2.2.1⟩
 obtain⟨of,df⟩:=frObj f aK cK
 obtain⟨oz,bi⟩:∃ o:Obj,o=Ah:=⟨_,rfl⟩
 have HE:Qi (Lk Xb w ((w.alloc of).alloc oz) B lo (some ⟨gS,0,none⟩) aH aF aL cS cH cF cL M f aK cK):=Lk.first m f aK cK df bi
 obtain⟨q0,q1,q2,q3,q4,-,-,-,-,-,qs⟩:=Aj HE.o.m.box
 obtain⟨f0,f1,f2,f3,f4,f5,f6,f7,f8,f9,ay,au,aj,ak,ff,fs⟩:=A8 HE.o.fb
 unfold Ah at bi
 clear m hM hf ig o9 qQ rE hs wC jc h1
 go_enter func209,ntmps209
 go_wp2_with fail
 rw[<- df,<- bi]
 generalize (w.alloc of).alloc oz=W0 at *
 subst df bi
 clear q0 q1 q2 q3 q4 qs
 clear f0 f1 f2 f3 f4 f5 f6 f7 f8 f9 ay au aj ak ff fs
 refine(uZ.o _ (by exact HE.o.below ⟨rfl,rfl,rfl,aC _,fun _ _=>rfl⟩)).mono ?_
 rintro e w1 ⟨rfl,h9⟩
 have gp:Qi (Lk Xb w w1 B lo (some ⟨gS,0,none⟩) aH aF aL cS cH cF cL M f aK cK):=h9
 clear HE h9
 obtain⟨q0,q1,q2,q3,q4,-,-,-,-,-,qs⟩:=Aj gp.o.m.box
 obtain⟨f0,f1,f2,f3,f4,f5,f6,f7,f8,f9,ay,au,aj,ak,ff,fs⟩:=A8 gp.o.fb
 obtain⟨x1,x2,x5⟩:=HX.o w1 gp.o.m
 have yM:B<w.heap.size:=gp.o.lt B (.inl rfl)
 have BF:gS<w.heap.size:=gp.o.lt gS (.inr (.inl ⟨_,rfl,rfl⟩))
 have yK:B≠w.heap.size:=by omega
 have yI:gS≠w.heap.size:=by omega
 have zq:w.heap.size≠B:=by omega
 have zh:w.heap.size≠gS:=by omega
 go_wp2_with fail
 rename_i K0 qO
 apply Ey (R:=fun a=>∀ W2:Wq,Lk2 Xb w W2 (Ac B (some ⟨gS,0,none⟩) aH aF aL) B lo M { f with p:=f.u,u:=s.next } aK cK->K0 a W2)
 ·intro gq
  have pg:Qi _:=gq
  clear gq
  go_region
  all_goals exact pg.o _ (((gp.o.store 8 (O J f.u) { f with p:=f.u } rfl).store 7 (O J s.next) { f with p:=f.u,u:=s.next } rfl).two.below ⟨rfl,rfl,rfl,aC _,fun _ _=>rfl⟩)
 intro w3 h3
 have ai:Qi (Lk2 Xb w w3 (Ac B (some ⟨gS,0,none⟩) aH aF aL) B lo M { f with p:=f.u,u:=s.next } aK cK):=h3
 refine qO _ _ ?_
 clear h3 qO gp x1 x2 x5 yM BF yK yI zq zh
 clear f0 f1 f2 f3 f4 f5 f6 f7 f8 f9 ay au aj ak ff fs
 obtain⟨f0,f1,f2,f3,f4,f5,f6,f7,f8,f9,ay,au,aj,ak,ff,fs⟩:=A8 ai.o.fb
 clear q0 q1 q2 q3 q4 qs
 obtain⟨g0,g1,g2,g3,g4,g5,g6,g7,g8,g9,qm,pz,qi,qw,gf,gs⟩:=A8 ai.o.zb
 go_wp2
 refine gZ (v:=.tuple #[.agg #[O J ({ f with p:=f.u,u:=s.next }).c.k,O J ({ f with p:=f.u,u:=s.next }).c.a,O J ({ f with p:=f.u,u:=s.next }).c.b,O J ({ f with p:=f.u,u:=s.next }).c.t,O J ({ f with p:=f.u,u:=s.next }).c.q,O J ({ f with p:=f.u,u:=s.next }).c.h,O J ({ f with p:=f.u,u:=s.next }).l,O J ({ f with p:=f.u,u:=s.next }).u,O J ({ f with p:=f.u,u:=s.next }).p,O J ({ f with p:=f.u,u:=s.next }).h,O J ({ f with p:=f.u,u:=s.next }).n,Y aK ({ f with p:=f.u,u:=s.next }).t.length cK,.bool ({ f with p:=f.u,u:=s.next }).d,O J ({ f with p:=f.u,u:=s.next }).e],.bool true]) (by simp[iH,results209,go_sem,g0,g1,g2,g3,g4,g5,g6,g7,g8,g9,qm,pz,qi,qw]) rfl ⟨rfl,ai.o.Dl⟩
theorem Yy(M:Mm)(f:Fr)(B lo:Nat)(aS aH aF aL:Option Addr)(cS cH cF cL:Nat)(aK:Option Addr)(cK:Nat)(w:Wq)
  (m:Mine Xb w B lo aS aH aF aL cS cH cF cL M) (hM:Ok M) (hf:Fit M f) (vX:Fe M f=false) :
  aI Pg 209 #[Ae B,Ai f aK cK] w fun e w'=>e=.returned (.tuple #[.agg #[O J f.c.k,O J f.c.a,O J f.c.b,O J f.c.t,O J f.c.q,O J f.c.h,O J f.l,O J f.u,O J f.p,O J f.h,O J f.n,Y aK f.t.length cK,.bool f.d,O J f.e],.bool false])/\Has Xb w' B lo (Up w (Ac B aS aH aF aL)) M/\Fine w w' (Ac B aS aH aF aL):=by
 unfold Ae Ai
 have ig:=hM.ns
 have o9:=hf.u.2
 have qQ:f.u<=1000:=by omega
 have rE:M.s.length<=1000:=by omega
 have uZ:Qi (∀ (W:Wq),Lk Xb w W B lo aS aH aF aL cS cH cF cL M f aK cK->aI Pg 200 #[Ae B,Ai f aK cK] W fun e w'=>e=.returned (.tuple #[O J (stN f),.bool false])/\Lk Xb w w' B lo aS aH aF aL cS cH cF cL M f aK cK):=fun W h=>by
  have:=Em M f B _ _ _ _ cS cH cF cL aK cK W h.m.box qQ rE
  rw[vX] at this
  exact this.mono (fun e w' h'=>⟨h'.1,h.below h'.2⟩)
 obtain⟨of,df⟩:=frObj f aK cK
 obtain⟨oz,bi⟩:∃ o:Obj,o=Ah:=⟨_,rfl⟩
 have HE:Qi (Lk Xb w ((w.alloc of).alloc oz) B lo aS aH aF aL cS cH cF cL M f aK cK):=Lk.first m f aK cK df bi
 obtain⟨q0,q1,q2,q3,q4,-,-,-,-,-,qs⟩:=Aj HE.o.m.box
 obtain⟨f0,f1,f2,f3,f4,f5,f6,f7,f8,f9,ay,au,aj,ak,ff,fs⟩:=A8 HE.o.fb
 unfold Ah at bi
 clear m hM hf ig o9 qQ rE vX
 go_enter func209,ntmps209
 go_wp2_with fail
 rw[<- df,<- bi]
 generalize (w.alloc of).alloc oz=W0 at *
 subst df bi
 clear q0 q1 q2 q3 q4 qs
 clear f0 f1 f2 f3 f4 f5 f6 f7 f8 f9 ay au aj ak ff fs
 refine(uZ.o _ (by exact HE.o.below ⟨rfl,rfl,rfl,aC _,fun _ _=>rfl⟩)).mono ?_
 rintro e w1 ⟨rfl,h9⟩
 have gp:Qi (Lk Xb w w1 B lo aS aH aF aL cS cH cF cL M f aK cK):=h9
 clear HE h9
 obtain⟨f0,f1,f2,f3,f4,f5,f6,f7,f8,f9,ay,au,aj,ak,ff,fs⟩:=A8 gp.o.fb
 obtain⟨g0,g1,g2,g3,g4,g5,g6,g7,g8,g9,qm,pz,qi,qw,gf,gs⟩:=A8 gp.o.zb
 go_wp2
 refine gZ (v:=.tuple #[.agg #[O J f.c.k,O J f.c.a,O J f.c.b,O J f.c.t,O J f.c.q,O J f.c.h,O J f.l,O J f.u,O J f.p,O J f.h,O J f.n,Y aK f.t.length cK,.bool f.d,O J f.e],.bool false]) (by simp[iH,results209,go_sem,g0,g1,g2,g3,g4,g5,g6,g7,g8,g9,qm,pz,qi,qw]) rfl ⟨rfl,gp.o.Dl⟩
end
section
open ChangeShapes WideShapes ChangeAt RowKit Joins Deep Go.Sort
theorem Yr(M:Mm)(aS aH aF aL:Option Addr)(cS cH cF cL:Nat)(w:Wq)(A:At w aS aH aF aL cS cH cF cL M) :
  aI Pg 55 #[Cm aS aH aF aL cS cH cF cL M] w fun e w' =>
   ∃ ao bg,e=.returned (.tuple #[Y ao (Gn M).length bg,O J (Gu M)])/\w'.ownsRow w.heap.size 61 4 (Y ao (Gn M).length bg) (Gn M).length (Hr (Gn M))/\Below w.heap.size w w':=by
 unfold Cm
 obtain⟨E0,lh⟩:∃ E0,E0=Gu M:=⟨_,rfl⟩
 obtain⟨L0,OU⟩:∃ L0,L0=Gn M:=⟨_,rfl⟩
 rw[<- lh,<- OU]
 have mr:Qi (E0=Gu M):=lh
 have RZ:Qi (L0=Gn M):=OU
 clear lh OU
 obtain⟨o1,vC⟩:∃ o:Obj,o=.cells #[Y aS M.s.length cS,Y aH M.h.length cH,Y aF M.f.length cF,Y aL M.l.length cL,O J M.w] 25:=⟨_,rfl⟩
 have b0:Below w.heap.size w (w.alloc o1):=A7 w o1
 have tq:Qi ((w.alloc o1).heap[w.heap.size]?=some o1):=fP _ _
 have HA:Qi (At w aS aH aF aL cS cH cF cL M):=A
 have ul:Qi _:=A.below b0
 clear A
 have hmf:∀ (fn:Fn) (first bg:Array dU) (w:Wq),(Instr.makeFunc fn first bg).run Pg w=.ok (.func fn first bg) w:=fun _ _ _ _=>rfl
 go_enter func55,ntmps55
 go_wp2_with fail
 rw[<- vC]
 generalize w.alloc o1=W0 at *
 subst vC
 refine(Wl M aS aH aF aL cS cH cF cL W0 ul.o).mono ?_
 rintro e w1 ⟨rfl,bu⟩
 have b1:=b0.trans (bu.mono b0.size)
 have iy:Qi (w1.heap[w.heap.size]?=_):=(bu.block w.heap.size (fC tq.o)).trans tq.o
 clear bu b0 tq ul
 by_cases hE:Gu M=0
 rotate_left
 ·have h':(Gu M != 0)=true:=by simpa using hE
  have HV:Qi (E0=Gu M/\L0=[]):=⟨mr.o,RZ.o.trans (by unfold Gn;rw[ae hE])⟩
  clear iy
  generalize Gu M=E at *
  go_wp2
  go_ret2
  exact⟨none,0,by rw[HV.o.1,HV.o.2];rfl,by rw[HV.o.2];exact World.ownsRow_nil _ _ _ _,b1⟩
 have IW:=(Kq M).1 hE
 have qh:=IW.ok
 have n0:=qh.ns
 have n1:=qh.nh
 have HV:Qi (E0=0/\L0=(Nb M).map (Bv M)):=⟨mr.o.trans hE,RZ.o.trans (by unfold Gn;rw[af hE])⟩
 rw[hE]
 clear hE mr RZ
 obtain⟨q0,q1,q2,q3,q4,f0,f1,f2,f3,f4,qs⟩:=Aj iy.o
 clear f0 f1 f2 f3 f4
 obtain⟨B,hB⟩:∃ B,B=w1.heap.size:=⟨_,rfl⟩
 have HBe:Qi (B=w1.heap.size):=hB
 have rW:Qi ((w1.alloc (.cells #[Y none 0 0] 56)).heap[B]?=some (.cells #[Y none 0 0] 56)):=by rw[hB];exact fP _ _
 have ug:Qi ((w1.alloc (.cells #[Y none 0 0] 56)).heap[w.heap.size]?=some (.cells #[Y aS M.s.length cS,Y aH M.h.length cH,Y aF M.f.length cF,Y aL M.l.length cL,O J M.w] 25 (0,0))):=(fU _ _ _ qs).trans iy.o
 have b2:=b1.alloc b1.size (.cells #[Y none 0 0] 56)
 have bX:w.heap.size<B:=by rw[hB];exact qs
 go_wp2
 rw[<- hB]
 clear hB q0 q1 q2 q3 q4 iy
 go_loopw [15] (fun i wr=>∃ b:Nat,b<=M.h.length/\i=O J b/\(∃ v,Qi (wr.heap[B]?=some (.cells #[v] 56 (0,0)))/\Qi (wr.ownsRow (B+1) 61 4 v ((Bc M b).map (Bv M)).length (Hr ((Bc M b).map (Bv M)))))/\Below w.heap.size w wr/\Qi (wr.heap[w.heap.size]?=some (.cells #[Y aS M.s.length cS,Y aH M.h.length cH,Y aF M.f.length cF,Y aL M.l.length cL,O J M.w] 25 (0,0))))
  (fun i _=>M.h.length - (intOf i).toNat)
 case atStart=>exact⟨0,Nat.zero_le _,rfl,⟨_,rW,World.ownsRow_nil _ _ _ _⟩,b2,ug⟩
 case round =>
  obtain⟨b,hb,rfl,⟨v,WX,HOr⟩,jd,HX⟩:=hrel
  clear rW ug b2 b1
  obtain⟨q0,q1,q2,q3,q4,f0,f1,f2,f3,f4,NF⟩:=Aj HX.o
  clear f0 f1 f2 f3 f4
  have lB:=fC WX.o
  by_cases gm:b<M.h.length
  ·have hal:=Iy M b
   have OL:b*M.s.length<=4*12:=iO (by omega) n0
   go_wp2_with fail
   have wC:Lst wr B wr.heap.size 56 61 4 #[Y aS M.s.length cS,Y aH M.h.length cH,Y aF M.f.length cF,Y aL M.l.length cL,O J M.w] (wr.alloc (.cells #[Y aS M.s.length cS,Y aH M.h.length cH,Y aF M.f.length cF,Y aL M.l.length cL,O J M.w] 25)) ((Bc M b ++ []).map (Bv M)).length (Hr ((Bc M b ++ []).map (Bv M))):=by
    rw[List.append_nil]
    refine⟨⟨v,(fU _ _ _ lB).trans WX.o,iV HOr.o _⟩,fP _ _,(dK _ _).alloc (by omega) _,by omega⟩
   refine(walk_any 100 #[.pointer (some ⟨w.heap.size,0,none⟩),.pointer (some ⟨B,0,none⟩)] M aS aH aF aL cS cH cF cL b wr qh gm fn72 (fun l W=>Lst wr B wr.heap.size 56 61 4 #[Y aS M.s.length cS,Y aH M.h.length cH,Y aF M.f.length cF,Y aL M.l.length cL,O J M.w] W ((Bc M b++l).map (Bv M)).length (Hr ((Bc M b++l).map (Bv M)))) wC (fun l W h=>h.box) (fun l W h=>HA.o.below (jd.trans (h.below.mono (by omega)))) ?_).mono ?_
   ·intro l a W hL ha hl
    have:=app72 M aS aH aF aL cS cH cF cL _ _ w.heap.size _ _ _ _ a hL (by rw[List.length_append];omega) ((hL.below.block w.heap.size bX).trans HX.o) (HA.o.below (jd.trans (hL.below.mono (by omega)))) ha n0
    rw[List.append_assoc] at this
    exact this
   rintro e w2 ⟨rfl,MI⟩
   rw[<- Hq] at MI
   obtain⟨⟨v2,FX,jk⟩,-,dm,-⟩:=MI
   have GY:Qi (w2.heap[B]?=some (.cells #[v2] 56 (0,0))):=FX
   have uw:Qi (w2.ownsRow (B+1) 61 4 v2 ((Bc M (b+1)).map (Bv M)).length (Hr ((Bc M (b+1)).map (Bv M)))):=jk
   have qW:Below w.heap.size w w2:=jd.trans (dm.mono (by omega))
   have sZ:Qi (w2.heap[w.heap.size]?=some (.cells #[Y aS M.s.length cS,Y aH M.h.length cH,Y aF M.f.length cF,Y aL M.l.length cL,O J M.w] 25 (0,0))):=(dm.block w.heap.size bX).trans HX.o
   clear FX jk dm wC WX HOr HX jd q0 q1 q2 q3 q4
   go_wp2
   go_roundw
   case rel=>exact⟨b+1,by omega,by go_num,⟨v2,GY,uw⟩,qW,sZ⟩
   case measure=>simp[intOf];omega
  ·obtain rfl:b=M.h.length:=by omega
   have jb:=Iy M M.h.length
   have OL:M.h.length*M.s.length<=4*12:=iO (by omega) n0
   obtain⟨ao,bg,rfl,qp⟩:=Ho.He HOr.o (by rw[List.length_map];omega)
   have HR:Qi (wr.ownsRow w.heap.size 61 4 (Y ao ((Nb M).map (Bv M)).length bg) ((Nb M).map (Bv M)).length (Hr ((Nb M).map (Bv M)))):=ownsRow_le HOr.o (by omega)
   clear qp
   obtain⟨c0,-,lB'⟩:=Aw WX.o
   have hlm:((Nb M).map (Bv M)).length=((Bc M M.h.length).map (Bv M)).length:=rfl
   clear WX HOr
   go_wp2
   go_ret2
   refine⟨ao,bg,?_,?_,jd⟩
   ·rw[HV.o.1,HV.o.2,hlm]
    simp
   ·rw[HV.o.2];exact HR.o
end
section
open Go RowKit
def Eu(x:Nat->dU)(d:Nat)(v:dU):Nat->dU:=fun k=>if k=d then v else x k
theorem Ad{i:Nat}{o:Oper}{a:Act}{w w':Wq}{v:dU}{K:Act->Wq->Prop}(hi:bn[i]?=some o)(hw:iY o (yielded bn a.tmps)=true)(hr:(execOp a.eval o).run P w=.ok (.value v) w')(h:K (a.put o.dst v) w'):wpOp P bn Q i K a w:=by
 refine wpOp_step hi fun K' hK=>?_
 rw[af hw]
 unfold Oper.wp
 rw[hr]
 exact hK _ _ h
theorem J6{i:Nat}{o:Oper}{a:Act}{w:Wq}{f:Nat}{args:Array dU}{K:Act->Wq->Prop}(hi:bn[i]?=some o)(hw:iY o (yielded bn a.tmps)=true)(hr:(execOp a.eval o).run P w=.ok (.enter f args) w)(h:aI P f args w fun e w'=>∃ v,e=.returned v/\K (a.put o.dst v) w'):wpOp P bn Q i K a w:=by
 refine wpOp_step hi fun K' hK=>?_
 rw[af hw]
 unfold Oper.wp
 rw[hr]
 refine Calls.mono h ?_
 rintro e w' ⟨v,rfl,hv⟩
 exact hK _ _ hv
theorem Ag{f:Nat->Option Bool}(h:o.guard=none):iY o f=true:=by unfold iY;rw[h]
theorem Ll{md:Region.Mode}{bn:Array Oper}{ag:Array Bool}(hr:bZ md bn ag=[])(hs:ag.size=bn.size)
  (he:((aU bn.size).all fun i=>((bn[i]?).map fun o=>o.after.all fun e=>decide (e.on<i)).getD true)=true):∀ n i,i<n->i<bn.size->ag.getD i false=true
 | 0,i,h,_=>by omega
 | n+1,i,h,hi=>by
  cases hl:ag.getD i false with
  | true=>rfl
  | false =>
   exfalso
   have gm:ag.getD i true=false:=by
    simpa [Array.getD_eq_getD_getElem?,hs,hi] using hl
   have hm:i∈bZ md bn ag:=by
    unfold bZ
    rw[bW]
    refine⟨by simpa using hi,?_⟩
    rw[gm]
    have h1:=iR.1 he i (by simpa using hi)
    have ho:bn[i]?=some bn[i]:=Array.getElem?_eq_getElem hi
    rw[ho] at h1 ⊢
    simp only[jD,jC] at h1 ⊢
    simp only[jA,jB]
    rw[jH] at h1 ⊢
    intro e hm
    have h2:=h1 e hm
    have h3:e.on<i:=by simpa using h2
    rw[Ll hr hs he n e.on (by omega) (by omega)]
    simp
   rw[hr] at hm
   cases hm
theorem Na(hm:P.follows .mixedOrders=true)(mk:(Nat->dU)->Act)(ha:a=mk fun k=>a.tmps.getD k Uz)(D:List Nat)(hN:D.Nodup)(hD:D.length=bn.size)(he:((aU bn.size).all fun i=>((bn[i]?).map fun o=>o.after.all fun e=>decide (e.on<i)).getD true)=true)(φ:Nat->dU->Wq->Prop)(mono:∀ i v w w',φ i v w->Below w.heap.size w w'->φ i v w')(step:∀ i,i<bn.size->∀ x W,Below w0.heap.size w0 W->(∀ d,d ∉ D->x d=a.tmps.getD d Uz) ->
   (∀ k,(((bn[i]?).map fun o=>o.after.any fun e=>e.on==k && iZ .any e).getD false)=true->φ k (x (D.getD k 0)) W) ->
   wpOp P bn Q i (fun a' W'=>∃ v,a'=mk (Eu x (D.getD i 0) v)/\φ i v W'/\Below W.heap.size W W') (mk x) W)(um:∀ x W,Below w0.heap.size w0 W->(∀ d,d ∉ D->x d=a.tmps.getD d Uz)->(∀ i,i<bn.size->φ i (x (D.getD i 0)) W)->Q .normal (mk x) W):(Code.region id bn true).wp P Q a w0:=by
 refine Gi hm (fun ag a' W=>∃ x,a'=mk x/\ag.size=bn.size/\Below w0.heap.size w0 W/\(∀ d,d ∉ D->x d=a.tmps.getD d Uz)/\∀ i,i<bn.size->ag.getD i false=true->φ i (x (D.getD i 0)) W) ?_ ?_ ?_
 ·refine⟨_,ha,by simp,(dK _ _).drew,fun d _=>rfl,fun i hi h=>?_⟩
  have:(jG bn.size false).getD i false=false:=by simp[Array.getD_eq_getD_getElem?,hi]
  rw[this] at h
  cases h
 ·rintro ag a' W i hi ⟨x,rfl,hs,hb,ku,hφ⟩
  obtain⟨h1,h2,o,ho,az⟩:=Fb hi
  refine iJ ?_ (step i h1 x W hb ku fun k hk=>?_)
  ·rintro BN W' ⟨v,rfl,hv,wW⟩
   refine⟨_,rfl,by simpa using hs,hb.trans (wW.mono hb.size),fun d hd=>?_,fun j hj hl=>?_⟩
   ·have:d≠D.getD i 0:=by
     rintro rfl
     refine hd ?_
     rw[List.getD_eq_getElem?_getD,List.getElem?_eq_getElem (by omega)]
     exact bJ _
    simp only[Eu,ae this]
    exact ku d hd
   ·by_cases e:j=i
    ·subst e
     simp only[Eu,af]
     exact hv
    ·have iw:D.getD j 0≠D.getD i 0:=by
      rw[List.getD_eq_getElem?_getD,List.getD_eq_getElem?_getD,List.getElem?_eq_getElem (by omega),List.getElem?_eq_getElem (by omega)]
      simp only[jC]
      intro hh
      exact e ((iU hN).1 hh)
     simp only[Eu,ae iw]
     have e':¬ i=j:=fun h=>e h.symm
     have vF:ag.getD j false=true:=by
      simpa [Array.getD_eq_getD_getElem?,e'] using hl
     exact mono _ _ _ _ (hφ j hj vF) wW
  ·rw[ho] at hk
   simp only[jD,jC] at hk
   rw[jF] at hk
   obtain⟨e,vO,uO⟩:=hk
   rw[cO] at uO
   have uX:e.on=k:=by simpa using uO.1
   have hl:=az e vO uO.2
   rw[uX] at hl
   refine hφ k ?_ hl
   refine iQ fun ZC=>?_
   have:ag.getD k false=false:=by simp[Array.getD_eq_getD_getElem?,hs,Nat.not_lt.2 ZC]
   rw[this] at hl
   cases hl
 ·rintro ag a' W hr ⟨x,rfl,hs,hb,ku,hφ⟩
  exact um x W hb ku fun i hi=>hφ i hi (Ll hr hs he (i+1) i (by omega) hi)
theorem Ot{md:Region.Mode}{bn:Array Oper}{ag:Array Bool}(hr:bZ md bn ag=[])(hs:ag.size=bn.size)
  (he:((aU bn.size).all fun i=>((bn[i]?).map fun o=>o.after.all fun e=>decide (e.on<i) || !iZ md e).getD true)=true):∀ n i,i<n->i<bn.size->ag.getD i false=true
 | 0,i,h,_=>by omega
 | n+1,i,h,hi=>by
  cases hl:ag.getD i false with
  | true=>rfl
  | false =>
   exfalso
   have gm:ag.getD i true=false:=by
    simpa [Array.getD_eq_getD_getElem?,hs,hi] using hl
   have hm:i∈bZ md bn ag:=by
    unfold bZ
    rw[bW]
    refine⟨by simpa using hi,?_⟩
    rw[gm]
    have h1:=iR.1 he i (by simpa using hi)
    have ho:bn[i]?=some bn[i]:=Array.getElem?_eq_getElem hi
    rw[ho] at h1 ⊢
    simp only[jD,jC] at h1 ⊢
    simp only[jA,jB]
    rw[jH] at h1 ⊢
    intro e hm
    have h2:=h1 e hm
    cases hb:iZ md e with
    | false=>simp
    | true =>
     rw[hb] at h2
     have h3:e.on<i:=by simpa using h2
     rw[Ot hr hs he n e.on (by omega) (by omega)]
     simp
   rw[hr] at hm
   cases hm
theorem Y0(hm:P.follows .mixedOrders=true)(mk:(Nat->dU)->Act)(ha:a=mk fun k=>a.tmps.getD k Uz)(D:List Nat)(hN:D.Nodup)(hD:D.length=bn.size)(he:((aU bn.size).all fun i=>((bn[i]?).map fun o=>o.after.all fun e=>decide (e.on<i) || !iZ .any e).getD true)=true)(φ:Nat->dU->Wq->Prop)(mono:∀ i v w w',φ i v w->Below w.heap.size w w'->φ i v w')(step:∀ i,i<bn.size->∀ x W,Below w0.heap.size w0 W->(∀ d,d ∉ D->x d=a.tmps.getD d Uz) ->
   (∀ k,(((bn[i]?).map fun o=>o.after.any fun e=>e.on==k && iZ .any e).getD false)=true->φ k (x (D.getD k 0)) W) ->
   wpOp P bn Q i (fun a' W'=>∃ v,a'=mk (Eu x (D.getD i 0) v)/\φ i v W'/\Below W.heap.size W W') (mk x) W)(um:∀ x W,Below w0.heap.size w0 W->(∀ d,d ∉ D->x d=a.tmps.getD d Uz)->(∀ i,i<bn.size->φ i (x (D.getD i 0)) W)->Q .normal (mk x) W):(Code.region id bn true).wp P Q a w0:=by
 refine Gi hm (fun ag a' W=>∃ x,a'=mk x/\ag.size=bn.size/\Below w0.heap.size w0 W/\(∀ d,d ∉ D->x d=a.tmps.getD d Uz)/\∀ i,i<bn.size->ag.getD i false=true->φ i (x (D.getD i 0)) W) ?_ ?_ ?_
 ·refine⟨_,ha,by simp,(dK _ _).drew,fun d _=>rfl,fun i hi h=>?_⟩
  have:(jG bn.size false).getD i false=false:=by simp[Array.getD_eq_getD_getElem?,hi]
  rw[this] at h
  cases h
 ·rintro ag a' W i hi ⟨x,rfl,hs,hb,ku,hφ⟩
  obtain⟨h1,h2,o,ho,az⟩:=Fb hi
  refine iJ ?_ (step i h1 x W hb ku fun k hk=>?_)
  ·rintro BN W' ⟨v,rfl,hv,wW⟩
   refine⟨_,rfl,by simpa using hs,hb.trans (wW.mono hb.size),fun d hd=>?_,fun j hj hl=>?_⟩
   ·have:d≠D.getD i 0:=by
     rintro rfl
     refine hd ?_
     rw[List.getD_eq_getElem?_getD,List.getElem?_eq_getElem (by omega)]
     exact bJ _
    simp only[Eu,ae this]
    exact ku d hd
   ·by_cases e:j=i
    ·subst e
     simp only[Eu,af]
     exact hv
    ·have iw:D.getD j 0≠D.getD i 0:=by
      rw[List.getD_eq_getElem?_getD,List.getD_eq_getElem?_getD,List.getElem?_eq_getElem (by omega),List.getElem?_eq_getElem (by omega)]
      simp only[jC]
      intro hh
      exact e ((iU hN).1 hh)
     simp only[Eu,ae iw]
     have e':¬ i=j:=fun h=>e h.symm
     have vF:ag.getD j false=true:=by
      simpa [Array.getD_eq_getD_getElem?,e'] using hl
     exact mono _ _ _ _ (hφ j hj vF) wW
  ·rw[ho] at hk
   simp only[jD,jC] at hk
   rw[jF] at hk
   obtain⟨e,vO,uO⟩:=hk
   rw[cO] at uO
   have uX:e.on=k:=by simpa using uO.1
   have hl:=az e vO uO.2
   rw[uX] at hl
   refine hφ k ?_ hl
   refine iQ fun ZC=>?_
   have:ag.getD k false=false:=by simp[Array.getD_eq_getD_getElem?,hs,Nat.not_lt.2 ZC]
   rw[this] at hl
   cases hl
 ·rintro ag a' W hr ⟨x,rfl,hs,hb,ku,hφ⟩
  exact um x W hb ku fun i hi=>hφ i hi (Ot hr hs he (i+1) i (by omega) hi)
theorem Nq{i j:Nat}(h:i≠j)(b:Bool):(ag.setIfInBounds i true).getD j b=ag.getD j b:=by
 simp[Array.getD_eq_getD_getElem?,h]
theorem U2{i:Nat}(h:i<ag.size):(ag.setIfInBounds i true).getD i false=true:=by
 simp[Array.getD_eq_getD_getElem?,h]
theorem a4v{i:Nat}(h:i<ag.size):ag.getD i true=ag.getD i false:=by
 simp[Array.getD_eq_getD_getElem?,h]
theorem Xz(hm:P.follows .mixedOrders=true)(mk:(Nat->dU)->Act)(ha:a=mk fun k=>a.tmps.getD k Uz)(D:List Nat)(hN:D.Nodup)(n:Nat)(hD:D.length=n)(hn:bn.size=n+2)(hA:((aU bn.size).all fun i=>((bn[i]?).map fun o=>o.after.all fun e=>decide (e.on<i)).getD true)=true)(he:((aU n).all fun i=>(aU (n+1)).any fun j=>decide (i<j) && ((bn[j]?).map fun o=>o.after.any fun e=>e.on==i && iZ .any e).getD false)=true)(UX:((bn[n+1]?).map fun o=>o.after.any fun e=>e.on==n && iZ .any e).getD false=true)(φ:Nat->dU->Wq->Prop)(mono:∀ i v w w',φ i v w->Below w.heap.size w w'->φ i v w')(step:∀ i,i<n->∀ x W,Below w0.heap.size w0 W->(∀ d,d ∉ D->x d=a.tmps.getD d Uz) ->
   (∀ k,k<n->(((bn[i]?).map fun o=>o.after.any fun e=>e.on==k && iZ .any e).getD false)=true->φ k (x (D.getD k 0)) W) ->
   wpOp P bn Q i (fun a' W'=>∃ v,a'=mk (Eu x (D.getD i 0) v)/\φ i v W'/\Below W.heap.size W W') (mk x) W)(um:∀ x W,Below w0.heap.size w0 W->(∀ d,d ∉ D->x d=a.tmps.getD d Uz)->(∀ i,i<n->φ i (x (D.getD i 0)) W)->wpOp P bn Q n (fun a' W'=>wpOp P bn Q (n+1) (fun BN W''=>Q .normal BN W'') a' W') (mk x) W):(Code.region id bn true).wp P Q a w0:=by
 -- whatever waits for what has not come up has not come up,and can't
 have yV:∀ (ag:Array Bool),(∀ j o,bn[j]?=some o->ag.getD j false=true->∀ e∈o.after,iZ .any e=true->ag.getD e.on false=true)->∀ i j,j<n+2->(((bn[j]?).map fun o=>o.after.any fun e=>e.on==i && iZ .any e).getD false)=true->ag.getD i false=false->ag.getD j false=false/\j ∉ bZ .any bn ag:=by
  intro ag hc i j hj h3 hl
  have ho:bn[j]?=some (bn[j]'(by omega)):=Array.getElem?_eq_getElem (by omega)
  rw[ho] at h3
  simp only[jD,jC] at h3
  rw[jF] at h3
  obtain⟨e,vO,uO⟩:=h3
  rw[cO] at uO
  have uX:e.on=i:=by simpa using uO.1
  refine⟨?_,fun hr=>?_⟩
  ·cases JE:ag.getD j false with
   | false=>rfl
   | true =>
    have:=hc j _ ho JE e vO uO.2
    rw[uX,hl] at this
    cases this
  ·obtain⟨-,-,o,LU,az⟩:=Fb hr
   rw[ho] at LU
   cases LU
   have:=az e vO uO.2
   rw[uX,hl] at this
   cases this
 have wn:∀ (ag:Array Bool),(∀ j o,bn[j]?=some o->ag.getD j false=true->∀ e∈o.after,iZ .any e=true->ag.getD e.on false=true)->∀ m i,n - i<=m->i<n->ag.getD i false=false->ag.getD n false=false/\n ∉ bZ .any bn ag:=by
  intro ag hc m
  induction m with
  | zero=>intro i h1 h2;omega
  | succ m ih =>
   intro i h1 h2 hl
   have h3:=iR.1 he i (by simpa using h2)
   obtain⟨j,hj,h4⟩:=List.any_eq_true.1 h3
   rw[cO] at h4
   have hij:i<j:=by simpa using h4.1
   have hjn:j<n+1:=by simpa using hj
   have h5:=yV ag hc i j (by omega) h4.2 hl
   by_cases e:j=n
   ·subst e;exact h5
   ·exact ih j (by omega) (by omega) h5.1
 refine Gi hm (fun ag a' W=>(ag.size=bn.size/\∀ j o,bn[j]?=some o->ag.getD j false=true->∀ e∈o.after,iZ .any e=true->ag.getD e.on false=true) /\
  ((ag.getD n false=false/\∃ x,a'=mk x/\Below w0.heap.size w0 W/\(∀ d,d ∉ D->x d=a.tmps.getD d Uz)/\∀ i,i<n->ag.getD i false=true->φ i (x (D.getD i 0)) W) \/
   (ag.getD n false=true/\ag.getD (n+1) false=false/\wpOp P bn Q (n+1) (fun BN W''=>Q .normal BN W'') a' W) \/
   (ag.getD (n+1) false=true/\Q .normal a' W))) ?_ ?_ ?_
 ·have hz:∀ i,(jG bn.size false).getD i false=false:=fun i=>by
   by_cases hi:i<bn.size <;> simp[Array.getD_eq_getD_getElem?,hi]
  refine⟨⟨by simp,fun j o _ hj=>?_⟩,.inl ⟨hz n,_,ha,(dK _ _).drew,fun d _=>rfl,fun i hi h=>?_⟩⟩
  ·rw[hz] at hj;cases hj
  ·rw[hz] at h;cases h
 ·rintro ag a' W i hi ⟨⟨hs,hc⟩,hJ⟩
  obtain⟨h1,h2,o,ho,az⟩:=Fb hi
  rw[a4v (by omega)] at h2
  have wV:∀ j o,bn[j]?=some o->(ag.setIfInBounds i true).getD j false=true->∀ e∈o.after,iZ .any e=true->(ag.setIfInBounds i true).getD e.on false=true:=by
   intro j o' hj hl e vO LZ
   have h3:ag.getD e.on false=true:=by
    by_cases ej:i=j
    ·subst ej
     rw[ho] at hj
     cases hj
     exact az e vO LZ
    ·rw[Nq ej] at hl
     exact hc j o' hj hl e vO LZ
   by_cases ee:i=e.on
   ·rw[<- ee];exact U2 (by omega)
   ·rw[Nq ee];exact h3
  have zQ:(ag.setIfInBounds i true).size=bn.size:=by simpa using hs
  rcases hJ with ⟨hl,x,rfl,hb,ku,hφ⟩|⟨hl,yj,hw⟩|⟨yj,hw⟩
  ·have yj:=yV ag hc n (n+1) (by omega) UX hl
   by_cases vw:i<n
   ·refine iJ ?_ (step i vw x W hb ku fun k hkn hk=>?_)
    ·rintro BN W' ⟨v,rfl,hv,wW⟩
     refine⟨⟨zQ,wV⟩,.inl ⟨by rw[Nq (by omega)];exact hl,_,rfl,hb.trans (wW.mono hb.size),fun d hd=>?_,fun j hj JE=>?_⟩⟩
     ·have:d≠D.getD i 0:=by
       rintro rfl
       refine hd ?_
       rw[List.getD_eq_getElem?_getD,List.getElem?_eq_getElem (by omega)]
       exact bJ _
      simp only[Eu,ae this]
      exact ku d hd
     ·by_cases e:j=i
      ·subst e
       simp only[Eu,af]
       exact hv
      ·have iw:D.getD j 0≠D.getD i 0:=by
        rw[List.getD_eq_getElem?_getD,List.getD_eq_getElem?_getD,List.getElem?_eq_getElem (by omega),List.getElem?_eq_getElem (by omega)]
        simp only[jC]
        intro hh
        exact e ((iU hN).1 hh)
       simp only[Eu,ae iw]
       rw[Nq (fun h=>e h.symm)] at JE
       exact mono _ _ _ _ (hφ j hj JE) wW
    ·rw[ho] at hk
     simp only[jD,jC] at hk
     rw[jF] at hk
     obtain⟨e,vO,uO⟩:=hk
     rw[cO] at uO
     have uX:e.on=k:=by simpa using uO.1
     have tJ:=az e vO uO.2
     rw[uX] at tJ
     exact hφ k hkn tJ
   ·by_cases zg:i=n
    ·subst zg
     have wJ:∀ k,k<i->ag.getD k false=true:=fun k hk=>by
      cases tJ:ag.getD k false with
      | true=>rfl
      | false=>exact absurd hi (wn ag hc _ k (aC _) hk tJ).2
     refine iJ ?_ (um x W hb ku fun k hk=>hφ k hk (wJ k hk))
     intro BN W' hw
     exact⟨⟨zQ,wV⟩,.inr (.inl ⟨U2 (by omega),by rw[Nq (by omega)];exact yj.1,hw⟩)⟩
    ·have:i=n+1:=by omega
     subst this
     exact absurd hi yj.2
  ·have:i=n+1:=by
    by_cases vw:i<n
    ·have:=(wn ag hc _ i (aC _) vw h2).1
     rw[hl] at this
     cases this
    ·by_cases zg:i=n
     ·subst zg
      rw[hl] at h2
      cases h2
     ·omega
   subst this
   refine iJ ?_ hw
   intro BN W' hq
   exact⟨⟨zQ,wV⟩,.inr (.inr ⟨U2 (by omega),hq⟩)⟩
  ·exfalso
   have hl:ag.getD n false=true:=by
    cases hl:ag.getD n false with
    | true=>rfl
    | false =>
     have:=(yV ag hc n (n+1) (by omega) UX hl).1
     rw[yj] at this
     cases this
   by_cases vw:i<n
   ·have:=(wn ag hc _ i (aC _) vw h2).1
    rw[hl] at this
    cases this
   ·by_cases zg:i=n
    ·subst zg
     rw[hl] at h2
     cases h2
    ·have:i=n+1:=by omega
     subst this
     rw[yj] at h2
     cases h2
 ·rintro ag a' W hr ⟨⟨hs,hc⟩,hJ⟩
  have all:=Ll hr hs hA
  rcases hJ with ⟨hl,-⟩|⟨-,hl,-⟩|⟨-,hw⟩
  ·rw[all (n+1) n (by omega) (by omega)] at hl;cases hl
  ·rw[all (n+2) (n+1) (by omega) (by omega)] at hl;cases hl
  ·exact hw
end
section
open ChangeShapes WideShapes ChangeAt RowKit Joins Maps
def upd(L:Nat->Bool)(i:Nat):Nat->Bool:=fun k=>if k=i then true else L k
def Gh(x:Nat->dU)(d:Nat)(v:dU):Nat->dU:=fun k=>if k=d then v else x k
theorem Yl{a b c d:dU}{p q:Bool}(h:Dj (if p then a else b) (if q then c else d))(hp:p=false)(hq:q=false):Dj b d:=by
 subst hp hq;exact h
theorem Zn{a b c d:dU}{p q:Bool}(h:Dj (if p then a else b) (if q then c else d))(hp:p=true)(hq:q=false):Dj a d:=by
 subst hp hq;exact h
theorem Zm{a b c d:dU}{p q:Bool}(h:Dj (if p then a else b) (if q then c else d))(hp:p=false)(hq:q=true):Dj b c:=by
 subst hp hq;exact h
structure Fx(w0:Wq)(M:Mm)(aS aH aF aL:Option Addr)(cS cH cF cL:Nat)(L:Nat->Bool)(x:Nat->dU)(W:Wq):Prop where
 box:W.heap[w0.heap.size]?=some (.cells #[Y aS M.s.length cS,Y aH M.h.length cH,Y aF M.f.length cF,Y aL M.l.length cL,O J M.w] 25 (0,0))
 zb:L 19=false->W.heap[w0.heap.size+1]?=some (.cells #[Y none 0 0,Y none 0 0,Y none 0 0,Y none 0 0,O J 0] 25 (0,0))
 fb:L 19=true->W.heap[w0.heap.size+1]?=some (.cells #[x 6,x 10,x 14,x 18,O J M.w] 25 (0,0))
 below:Below w0.heap.size w0 W
 p1:L 1=true->x 4=.pointer (some ⟨w0.heap.size,0,none⟩)
 p2:L 2=true->x 5=Y aS M.s.length cS
 p5:L 5=true->x 8=.pointer (some ⟨w0.heap.size,1,none⟩)
 p6:L 6=true->x 9=Y aH M.h.length cH
 p9:L 9=true->x 12=.pointer (some ⟨w0.heap.size,2,none⟩)
 p10:L 10=true->x 13=Y aF M.f.length cF
 p13:L 13=true->x 16=.pointer (some ⟨w0.heap.size,3,none⟩)
 p14:L 14=true->x 17=Y aL M.l.length cL
 p16:L 16=true->x 19=.pointer (some ⟨w0.heap.size,4,none⟩)
 p17:L 17=true->x 20=O J M.w
 b18:L 18=true->x 21=.agg #[x 6,x 10,x 14,x 18,O J M.w]
 r0:L 0=true->L 3=false->W.ownsRow (w0.heap.size+2) 64 6 (x 3) 0 []
 r3:L 3=true->W.ownsRow (w0.heap.size+2) 64 6 (x 6) M.s.length (encS M.s)
 r4:L 4=true->L 7=false->W.ownsRow (w0.heap.size+2) 3 1 (x 7) 0 []
 r7:L 7=true->W.ownsRow (w0.heap.size+2) 3 1 (x 10) M.h.length (encI M.h)
 r8:L 8=true->L 11=false->W.ownsRow (w0.heap.size+2) 3 1 (x 11) 0 []
 r11:L 11=true->W.ownsRow (w0.heap.size+2) 3 1 (x 14) M.f.length (encI M.f)
 r12:L 12=true->L 15=false->W.ownsRow (w0.heap.size+2) 3 1 (x 15) 0 []
 r15:L 15=true->W.ownsRow (w0.heap.size+2) 3 1 (x 18) M.l.length (encI M.l)
 d12:L 4=true->L 8=true->Dj (if L 7 then x 10 else x 7) (if L 11 then x 14 else x 11)
 d13:L 4=true->L 12=true->Dj (if L 7 then x 10 else x 7) (if L 15 then x 18 else x 15)
 d23:L 8=true->L 12=true->Dj (if L 11 then x 14 else x 11) (if L 15 then x 18 else x 15)
 e3:L 3=true->L 0=true
 e7:L 7=true->L 4=true
 e11:L 11=true->L 8=true
 e15:L 15=true->L 12=true
 e18:L 18=true->L 3=true/\L 7=true/\L 11=true/\L 15=true
 e19:L 19=true->L 18=true
theorem Fx.a1(F:Fx w0 M aS aH aF aL cS cH cF cL L x W):Fx w0 M aS aH aF aL cS cH cF cL (upd L 1) (Gh x 4 (.pointer (some ⟨w0.heap.size,0,none⟩))) W :=
 ⟨F.box,F.zb,F.fb,F.below,(fun _=>rfl),F.p2,F.p5,F.p6,F.p9,F.p10,F.p13,F.p14,F.p16,F.p17,F.b18,F.r0,F.r3,F.r4,F.r7,F.r8,F.r11,F.r12,F.r15,F.d12,F.d13,F.d23,F.e3,F.e7,F.e11,F.e15,F.e18,F.e19⟩
theorem Fx.a2(F:Fx w0 M aS aH aF aL cS cH cF cL L x W):Fx w0 M aS aH aF aL cS cH cF cL (upd L 2) (Gh x 5 (Y aS M.s.length cS)) W :=
 ⟨F.box,F.zb,F.fb,F.below,F.p1,(fun _=>rfl),F.p5,F.p6,F.p9,F.p10,F.p13,F.p14,F.p16,F.p17,F.b18,F.r0,F.r3,F.r4,F.r7,F.r8,F.r11,F.r12,F.r15,F.d12,F.d13,F.d23,F.e3,F.e7,F.e11,F.e15,F.e18,F.e19⟩
theorem Fx.a5(F:Fx w0 M aS aH aF aL cS cH cF cL L x W):Fx w0 M aS aH aF aL cS cH cF cL (upd L 5) (Gh x 8 (.pointer (some ⟨w0.heap.size,1,none⟩))) W :=
 ⟨F.box,F.zb,F.fb,F.below,F.p1,F.p2,(fun _=>rfl),F.p6,F.p9,F.p10,F.p13,F.p14,F.p16,F.p17,F.b18,F.r0,F.r3,F.r4,F.r7,F.r8,F.r11,F.r12,F.r15,F.d12,F.d13,F.d23,F.e3,F.e7,F.e11,F.e15,F.e18,F.e19⟩
theorem Fx.a6(F:Fx w0 M aS aH aF aL cS cH cF cL L x W):Fx w0 M aS aH aF aL cS cH cF cL (upd L 6) (Gh x 9 (Y aH M.h.length cH)) W :=
 ⟨F.box,F.zb,F.fb,F.below,F.p1,F.p2,F.p5,(fun _=>rfl),F.p9,F.p10,F.p13,F.p14,F.p16,F.p17,F.b18,F.r0,F.r3,F.r4,F.r7,F.r8,F.r11,F.r12,F.r15,F.d12,F.d13,F.d23,F.e3,F.e7,F.e11,F.e15,F.e18,F.e19⟩
theorem Fx.a9(F:Fx w0 M aS aH aF aL cS cH cF cL L x W):Fx w0 M aS aH aF aL cS cH cF cL (upd L 9) (Gh x 12 (.pointer (some ⟨w0.heap.size,2,none⟩))) W :=
 ⟨F.box,F.zb,F.fb,F.below,F.p1,F.p2,F.p5,F.p6,(fun _=>rfl),F.p10,F.p13,F.p14,F.p16,F.p17,F.b18,F.r0,F.r3,F.r4,F.r7,F.r8,F.r11,F.r12,F.r15,F.d12,F.d13,F.d23,F.e3,F.e7,F.e11,F.e15,F.e18,F.e19⟩
theorem Fx.a10(F:Fx w0 M aS aH aF aL cS cH cF cL L x W):Fx w0 M aS aH aF aL cS cH cF cL (upd L 10) (Gh x 13 (Y aF M.f.length cF)) W :=
 ⟨F.box,F.zb,F.fb,F.below,F.p1,F.p2,F.p5,F.p6,F.p9,(fun _=>rfl),F.p13,F.p14,F.p16,F.p17,F.b18,F.r0,F.r3,F.r4,F.r7,F.r8,F.r11,F.r12,F.r15,F.d12,F.d13,F.d23,F.e3,F.e7,F.e11,F.e15,F.e18,F.e19⟩
theorem Fx.a13(F:Fx w0 M aS aH aF aL cS cH cF cL L x W):Fx w0 M aS aH aF aL cS cH cF cL (upd L 13) (Gh x 16 (.pointer (some ⟨w0.heap.size,3,none⟩))) W :=
 ⟨F.box,F.zb,F.fb,F.below,F.p1,F.p2,F.p5,F.p6,F.p9,F.p10,(fun _=>rfl),F.p14,F.p16,F.p17,F.b18,F.r0,F.r3,F.r4,F.r7,F.r8,F.r11,F.r12,F.r15,F.d12,F.d13,F.d23,F.e3,F.e7,F.e11,F.e15,F.e18,F.e19⟩
theorem Fx.a14(F:Fx w0 M aS aH aF aL cS cH cF cL L x W):Fx w0 M aS aH aF aL cS cH cF cL (upd L 14) (Gh x 17 (Y aL M.l.length cL)) W :=
 ⟨F.box,F.zb,F.fb,F.below,F.p1,F.p2,F.p5,F.p6,F.p9,F.p10,F.p13,(fun _=>rfl),F.p16,F.p17,F.b18,F.r0,F.r3,F.r4,F.r7,F.r8,F.r11,F.r12,F.r15,F.d12,F.d13,F.d23,F.e3,F.e7,F.e11,F.e15,F.e18,F.e19⟩
theorem Fx.a16(F:Fx w0 M aS aH aF aL cS cH cF cL L x W):Fx w0 M aS aH aF aL cS cH cF cL (upd L 16) (Gh x 19 (.pointer (some ⟨w0.heap.size,4,none⟩))) W :=
 ⟨F.box,F.zb,F.fb,F.below,F.p1,F.p2,F.p5,F.p6,F.p9,F.p10,F.p13,F.p14,(fun _=>rfl),F.p17,F.b18,F.r0,F.r3,F.r4,F.r7,F.r8,F.r11,F.r12,F.r15,F.d12,F.d13,F.d23,F.e3,F.e7,F.e11,F.e15,F.e18,F.e19⟩
theorem Fx.a17(F:Fx w0 M aS aH aF aL cS cH cF cL L x W):Fx w0 M aS aH aF aL cS cH cF cL (upd L 17) (Gh x 20 (O J M.w)) W :=
 ⟨F.box,F.zb,F.fb,F.below,F.p1,F.p2,F.p5,F.p6,F.p9,F.p10,F.p13,F.p14,F.p16,(fun _=>rfl),F.b18,F.r0,F.r3,F.r4,F.r7,F.r8,F.r11,F.r12,F.r15,F.d12,F.d13,F.d23,F.e3,F.e7,F.e11,F.e15,F.e18,F.e19⟩
theorem Fx.lt(F:Fx w0 M aS aH aF aL cS cH cF cL L x W):w0.heap.size+1<W.heap.size:=by
 cases h:L 19
 ·exact fC (F.zb h)
 ·exact fC (F.fb h)
theorem Vu(W:Wq)(e:TypeId)(size lo:Nat)(h:lo<=W.heap.size):(W.alloc (.cells #[] e)).ownsRow lo e size (Y (some ⟨W.heap.size,0,none⟩) 0 0) 0 [] :=
 ⟨by simp,.inr ⟨W.heap.size,0,#[],rfl,h,fP _ _,aC _,Nat.zero_le _,by simp,by simp⟩⟩
theorem Dj.fresh(hv:∀ g,v.ownBlock=some g->g<W.heap.size):Dj v (Y (some ⟨W.heap.size,0,none⟩) 0 0):=fun g h e=>by
 have h1:=hv g h
 have e':some W.heap.size=some g:=e
 injection e' with e'
 omega
theorem Fx.lt1(F:Fx w0 M aS aH aF aL cS cH cF cL L x W)(h:L 4=true):∀ g,(if L 7 then x 10 else x 7).ownBlock=some g->g<W.heap.size:=by
 cases h3:L 7
 ·exact fun g hg=>((F.r4 h h3).lt g hg).2
 ·exact fun g hg=>((F.r7 h3).lt g hg).2
theorem Fx.lt2(F:Fx w0 M aS aH aF aL cS cH cF cL L x W)(h:L 8=true):∀ g,(if L 11 then x 14 else x 11).ownBlock=some g->g<W.heap.size:=by
 cases h3:L 11
 ·exact fun g hg=>((F.r8 h h3).lt g hg).2
 ·exact fun g hg=>((F.r11 h3).lt g hg).2
theorem Fx.lt3(F:Fx w0 M aS aH aF aL cS cH cF cL L x W)(h:L 12=true):∀ g,(if L 15 then x 18 else x 15).ownBlock=some g->g<W.heap.size:=by
 cases h3:L 15
 ·exact fun g hg=>((F.r12 h h3).lt g hg).2
 ·exact fun g hg=>((F.r15 h3).lt g hg).2
theorem Fx.a18(F:Fx w0 M aS aH aF aL cS cH cF cL L x W)(h3:L 3=true)(h7:L 7=true)(OX:L 11=true)(xB:L 15=true):Fx w0 M aS aH aF aL cS cH cF cL (upd L 18) (Gh x 21 (.agg #[x 6,x 10,x 14,x 18,O J M.w])) W :=
 ⟨F.box,F.zb,F.fb,F.below,F.p1,F.p2,F.p5,F.p6,F.p9,F.p10,F.p13,F.p14,F.p16,F.p17,(fun _=>rfl),F.r0,F.r3,F.r4,F.r7,F.r8,F.r11,F.r12,F.r15,F.d12,F.d13,F.d23,F.e3,F.e7,F.e11,F.e15,(fun _=>⟨h3,h7,OX,xB⟩),(fun _=>rfl)⟩
theorem Fx.b0(F:Fx w0 M aS aH aF aL cS cH cF cL L x W)(hn:L 0=false):Fx w0 M aS aH aF aL cS cH cF cL (upd L 0) (Gh x 3 (Y (some ⟨W.heap.size,0,none⟩) 0 0)) (W.alloc (.cells #[] 64)):=by
 have hf:L 3=false:=by
  cases h:L 3
  ·rfl
  ·rw[F.e3 h] at hn;cases hn
 exact⟨((fU _ _ _ (fC F.box)).trans F.box),(fun h=>(fU _ _ _ (fC (F.zb h))).trans (F.zb h)),(fun h=>(fU _ _ _ (fC (F.fb h))).trans (F.fb h)),(F.below.alloc F.below.size _),F.p1,F.p2,F.p5,F.p6,F.p9,F.p10,F.p13,F.p14,F.p16,F.p17,F.b18,(fun _ _=>Vu W 64 6 _ F.lt),(fun h=>iV (F.r3 h) _),(fun h h3=>iV (F.r4 h h3) _),(fun h=>iV (F.r7 h) _),(fun h h3=>iV (F.r8 h h3) _),(fun h=>iV (F.r11 h) _),(fun h h3=>iV (F.r12 h h3) _),(fun h=>iV (F.r15 h) _),F.d12,F.d13,F.d23,(fun _=>rfl),F.e7,F.e11,F.e15,F.e18,F.e19⟩
theorem Fx.b4(F:Fx w0 M aS aH aF aL cS cH cF cL L x W)(hn:L 4=false):Fx w0 M aS aH aF aL cS cH cF cL (upd L 4) (Gh x 7 (Y (some ⟨W.heap.size,0,none⟩) 0 0)) (W.alloc (.cells #[] 3)):=by
 have hf:L 7=false:=by
  cases h:L 7
  ·rfl
  ·rw[F.e7 h] at hn;cases hn
 exact⟨((fU _ _ _ (fC F.box)).trans F.box),(fun h=>(fU _ _ _ (fC (F.zb h))).trans (F.zb h)),(fun h=>(fU _ _ _ (fC (F.fb h))).trans (F.fb h)),(F.below.alloc F.below.size _),F.p1,F.p2,F.p5,F.p6,F.p9,F.p10,F.p13,F.p14,F.p16,F.p17,F.b18,(fun h h3=>iV (F.r0 h h3) _),(fun h=>iV (F.r3 h) _),(fun _ _=>Vu W 3 1 _ F.lt),(fun h=>iV (F.r7 h) _),(fun h h3=>iV (F.r8 h h3) _),(fun h=>iV (F.r11 h) _),(fun h h3=>iV (F.r12 h h3) _),(fun h=>iV (F.r15 h) _),(fun _ hb=>(by have:=(Dj.fresh (F.lt2 hb)).symm;show Dj (if L 7 then _ else _) _;rw[hf];exact this)),(fun _ hb=>(by have:=(Dj.fresh (F.lt3 hb)).symm;show Dj (if L 7 then _ else _) _;rw[hf];exact this)),F.d23,F.e3,(fun _=>rfl),F.e11,F.e15,F.e18,F.e19⟩
theorem Fx.b8(F:Fx w0 M aS aH aF aL cS cH cF cL L x W)(hn:L 8=false):Fx w0 M aS aH aF aL cS cH cF cL (upd L 8) (Gh x 11 (Y (some ⟨W.heap.size,0,none⟩) 0 0)) (W.alloc (.cells #[] 3)):=by
 have hf:L 11=false:=by
  cases h:L 11
  ·rfl
  ·rw[F.e11 h] at hn;cases hn
 exact⟨((fU _ _ _ (fC F.box)).trans F.box),(fun h=>(fU _ _ _ (fC (F.zb h))).trans (F.zb h)),(fun h=>(fU _ _ _ (fC (F.fb h))).trans (F.fb h)),(F.below.alloc F.below.size _),F.p1,F.p2,F.p5,F.p6,F.p9,F.p10,F.p13,F.p14,F.p16,F.p17,F.b18,(fun h h3=>iV (F.r0 h h3) _),(fun h=>iV (F.r3 h) _),(fun h h3=>iV (F.r4 h h3) _),(fun h=>iV (F.r7 h) _),(fun _ _=>Vu W 3 1 _ F.lt),(fun h=>iV (F.r11 h) _),(fun h h3=>iV (F.r12 h h3) _),(fun h=>iV (F.r15 h) _),(fun ha _=>(by have:=Dj.fresh (F.lt1 ha);show Dj _ (if L 11 then _ else _);rw[hf];exact this)),F.d13,(fun _ hb=>(by have:=(Dj.fresh (F.lt3 hb)).symm;show Dj (if L 11 then _ else _) _;rw[hf];exact this)),F.e3,F.e7,(fun _=>rfl),F.e15,F.e18,F.e19⟩
theorem Fx.b12(F:Fx w0 M aS aH aF aL cS cH cF cL L x W)(hn:L 12=false):Fx w0 M aS aH aF aL cS cH cF cL (upd L 12) (Gh x 15 (Y (some ⟨W.heap.size,0,none⟩) 0 0)) (W.alloc (.cells #[] 3)):=by
 have hf:L 15=false:=by
  cases h:L 15
  ·rfl
  ·rw[F.e15 h] at hn;cases hn
 exact⟨((fU _ _ _ (fC F.box)).trans F.box),(fun h=>(fU _ _ _ (fC (F.zb h))).trans (F.zb h)),(fun h=>(fU _ _ _ (fC (F.fb h))).trans (F.fb h)),(F.below.alloc F.below.size _),F.p1,F.p2,F.p5,F.p6,F.p9,F.p10,F.p13,F.p14,F.p16,F.p17,F.b18,(fun h h3=>iV (F.r0 h h3) _),(fun h=>iV (F.r3 h) _),(fun h h3=>iV (F.r4 h h3) _),(fun h=>iV (F.r7 h) _),(fun h h3=>iV (F.r8 h h3) _),(fun h=>iV (F.r11 h) _),(fun _ _=>Vu W 3 1 _ F.lt),(fun h=>iV (F.r15 h) _),F.d12,(fun ha _=>(by have:=Dj.fresh (F.lt1 ha);show Dj _ (if L 15 then _ else _);rw[hf];exact this)),(fun ha _=>(by have:=Dj.fresh (F.lt2 ha);show Dj _ (if L 15 then _ else _);rw[hf];exact this)),F.e3,F.e7,F.e11,(fun _=>rfl),F.e18,F.e19⟩
theorem Fx.c3(F:Fx w0 M aS aH aF aL cS cH cF cL L x W)(hl:L 0=true)(hf:L 3=false){v:dU}{W':Wq}(jk:W'.ownsRow (w0.heap.size+2) 64 6 v M.s.length (encS M.s))(hg:W.grownBy W' (x 3).ownBlock)(ru:v.ownBlock=(x 3).ownBlock\/v.ownBlock=some W.heap.size):Fx w0 M aS aH aF aL cS cH cF cL (upd L 3) (Gh x 6 v) W':=by
 have ho:=F.r0 hl hf
 have yw:L 18=true->false=true:=fun h=>by
  obtain⟨h3,h7,OX,xB⟩:=F.e18 h
  rw[<- hf];assumption
 exact⟨((hg.block _ (fC F.box) (fun h=>own_ne ho F.box (by first|decide|exact Ex.ne _ _ (by decide)) h.symm)).trans F.box),(fun h=>(hg.block _ (fC (F.zb h)) (fun h1=>own_ne ho (F.zb h) (by first|decide|exact Ex.ne _ _ (by decide)) h1.symm)).trans (F.zb h)),(fun h=>absurd (yw (F.e19 h)) (by simp)),(F.below.grown hg F.below.size (fun k hk=>by have:=(ho.lt k hk).1;omega)),F.p1,F.p2,F.p5,F.p6,F.p9,F.p10,F.p13,F.p14,F.p16,F.p17,(fun h=>absurd (yw h) (by simp)),(fun _ h=>by cases h),(fun _=>jk),(fun h h3=>iW (F.r4 h h3) hg (D9 (F.r4 h h3) ho (by first|decide|exact Ex.ne _ _ (by decide))).ne),(fun h=>iW (F.r7 h) hg (D9 (F.r7 h) ho (by first|decide|exact Ex.ne _ _ (by decide))).ne),(fun h h3=>iW (F.r8 h h3) hg (D9 (F.r8 h h3) ho (by first|decide|exact Ex.ne _ _ (by decide))).ne),(fun h=>iW (F.r11 h) hg (D9 (F.r11 h) ho (by first|decide|exact Ex.ne _ _ (by decide))).ne),(fun h h3=>iW (F.r12 h h3) hg (D9 (F.r12 h h3) ho (by first|decide|exact Ex.ne _ _ (by decide))).ne),(fun h=>iW (F.r15 h) hg (D9 (F.r15 h) ho (by first|decide|exact Ex.ne _ _ (by decide))).ne),F.d12,F.d13,F.d23,(fun _=>hl),F.e7,F.e11,F.e15,(fun h=>absurd (yw h) (by simp)),F.e19⟩
theorem Fx.c7(F:Fx w0 M aS aH aF aL cS cH cF cL L x W)(hl:L 4=true)(hf:L 7=false){v:dU}{W':Wq}(jk:W'.ownsRow (w0.heap.size+2) 3 1 v M.h.length (encI M.h))(hg:W.grownBy W' (x 7).ownBlock)(ru:v.ownBlock=(x 7).ownBlock\/v.ownBlock=some W.heap.size):Fx w0 M aS aH aF aL cS cH cF cL (upd L 7) (Gh x 10 v) W':=by
 have ho:=F.r4 hl hf
 have yw:L 18=true->false=true:=fun h=>by
  obtain⟨h3,h7,OX,xB⟩:=F.e18 h
  rw[<- hf];assumption
 exact⟨((hg.block _ (fC F.box) (fun h=>own_ne ho F.box (by first|decide|exact Ex.ne _ _ (by decide)) h.symm)).trans F.box),(fun h=>(hg.block _ (fC (F.zb h)) (fun h1=>own_ne ho (F.zb h) (by first|decide|exact Ex.ne _ _ (by decide)) h1.symm)).trans (F.zb h)),(fun h=>absurd (yw (F.e19 h)) (by simp)),(F.below.grown hg F.below.size (fun k hk=>by have:=(ho.lt k hk).1;omega)),F.p1,F.p2,F.p5,F.p6,F.p9,F.p10,F.p13,F.p14,F.p16,F.p17,(fun h=>absurd (yw h) (by simp)),(fun h h3=>iW (F.r0 h h3) hg (D9 (F.r0 h h3) ho (by first|decide|exact Ex.ne _ _ (by decide))).ne),(fun h=>iW (F.r3 h) hg (D9 (F.r3 h) ho (by first|decide|exact Ex.ne _ _ (by decide))).ne),(fun _ h=>by cases h),(fun _=>jk),(fun h h3=>iW (F.r8 h h3) hg (Yl (F.d12 hl h) hf h3).symm.ne),(fun h=>iW (F.r11 h) hg (Zm (F.d12 hl (F.e11 h)) hf h).symm.ne),(fun h h3=>iW (F.r12 h h3) hg (Yl (F.d13 hl h) hf h3).symm.ne),(fun h=>iW (F.r15 h) hg (Zm (F.d13 hl (F.e15 h)) hf h).symm.ne),(fun _ hb=>(by have hd:=(F.d12 hl hb).symm;rw[hf] at hd;exact(Dj.grown hd (F.lt2 hb) ru).symm)),(fun _ hb=>(by have hd:=(F.d13 hl hb).symm;rw[hf] at hd;exact(Dj.grown hd (F.lt3 hb) ru).symm)),F.d23,F.e3,(fun _=>hl),F.e11,F.e15,(fun h=>absurd (yw h) (by simp)),F.e19⟩
theorem Fx.c11(F:Fx w0 M aS aH aF aL cS cH cF cL L x W)(hl:L 8=true)(hf:L 11=false){v:dU}{W':Wq}(jk:W'.ownsRow (w0.heap.size+2) 3 1 v M.f.length (encI M.f))(hg:W.grownBy W' (x 11).ownBlock)(ru:v.ownBlock=(x 11).ownBlock\/v.ownBlock=some W.heap.size):Fx w0 M aS aH aF aL cS cH cF cL (upd L 11) (Gh x 14 v) W':=by
 have ho:=F.r8 hl hf
 have yw:L 18=true->false=true:=fun h=>by
  obtain⟨h3,h7,OX,xB⟩:=F.e18 h
  rw[<- hf];assumption
 exact⟨((hg.block _ (fC F.box) (fun h=>own_ne ho F.box (by first|decide|exact Ex.ne _ _ (by decide)) h.symm)).trans F.box),(fun h=>(hg.block _ (fC (F.zb h)) (fun h1=>own_ne ho (F.zb h) (by first|decide|exact Ex.ne _ _ (by decide)) h1.symm)).trans (F.zb h)),(fun h=>absurd (yw (F.e19 h)) (by simp)),(F.below.grown hg F.below.size (fun k hk=>by have:=(ho.lt k hk).1;omega)),F.p1,F.p2,F.p5,F.p6,F.p9,F.p10,F.p13,F.p14,F.p16,F.p17,(fun h=>absurd (yw h) (by simp)),(fun h h3=>iW (F.r0 h h3) hg (D9 (F.r0 h h3) ho (by first|decide|exact Ex.ne _ _ (by decide))).ne),(fun h=>iW (F.r3 h) hg (D9 (F.r3 h) ho (by first|decide|exact Ex.ne _ _ (by decide))).ne),(fun h h3=>iW (F.r4 h h3) hg (Yl (F.d12 h hl) h3 hf).ne),(fun h=>iW (F.r7 h) hg (Zn (F.d12 (F.e7 h) hl) h hf).ne),(fun _ h=>by cases h),(fun _=>jk),(fun h h3=>iW (F.r12 h h3) hg (Yl (F.d23 hl h) hf h3).symm.ne),(fun h=>iW (F.r15 h) hg (Zm (F.d23 hl (F.e15 h)) hf h).symm.ne),(fun ha _=>(by have hd:=F.d12 ha hl;rw[hf] at hd;exact Dj.grown hd (F.lt1 ha) ru)),F.d13,(fun _ hb=>(by have hd:=(F.d23 hl hb).symm;rw[hf] at hd;exact(Dj.grown hd (F.lt3 hb) ru).symm)),F.e3,F.e7,(fun _=>hl),F.e15,(fun h=>absurd (yw h) (by simp)),F.e19⟩
theorem Fx.c15(F:Fx w0 M aS aH aF aL cS cH cF cL L x W)(hl:L 12=true)(hf:L 15=false){v:dU}{W':Wq}(jk:W'.ownsRow (w0.heap.size+2) 3 1 v M.l.length (encI M.l))(hg:W.grownBy W' (x 15).ownBlock)(ru:v.ownBlock=(x 15).ownBlock\/v.ownBlock=some W.heap.size):Fx w0 M aS aH aF aL cS cH cF cL (upd L 15) (Gh x 18 v) W':=by
 have ho:=F.r12 hl hf
 have yw:L 18=true->false=true:=fun h=>by
  obtain⟨h3,h7,OX,xB⟩:=F.e18 h
  rw[<- hf];assumption
 exact⟨((hg.block _ (fC F.box) (fun h=>own_ne ho F.box (by first|decide|exact Ex.ne _ _ (by decide)) h.symm)).trans F.box),(fun h=>(hg.block _ (fC (F.zb h)) (fun h1=>own_ne ho (F.zb h) (by first|decide|exact Ex.ne _ _ (by decide)) h1.symm)).trans (F.zb h)),(fun h=>absurd (yw (F.e19 h)) (by simp)),(F.below.grown hg F.below.size (fun k hk=>by have:=(ho.lt k hk).1;omega)),F.p1,F.p2,F.p5,F.p6,F.p9,F.p10,F.p13,F.p14,F.p16,F.p17,(fun h=>absurd (yw h) (by simp)),(fun h h3=>iW (F.r0 h h3) hg (D9 (F.r0 h h3) ho (by first|decide|exact Ex.ne _ _ (by decide))).ne),(fun h=>iW (F.r3 h) hg (D9 (F.r3 h) ho (by first|decide|exact Ex.ne _ _ (by decide))).ne),(fun h h3=>iW (F.r4 h h3) hg (Yl (F.d13 h hl) h3 hf).ne),(fun h=>iW (F.r7 h) hg (Zn (F.d13 (F.e7 h) hl) h hf).ne),(fun h h3=>iW (F.r8 h h3) hg (Yl (F.d23 h hl) h3 hf).ne),(fun h=>iW (F.r11 h) hg (Zn (F.d23 (F.e11 h) hl) h hf).ne),(fun _ h=>by cases h),(fun _=>jk),F.d12,(fun ha _=>(by have hd:=F.d13 ha hl;rw[hf] at hd;exact Dj.grown hd (F.lt1 ha) ru)),(fun ha _=>(by have hd:=F.d23 ha hl;rw[hf] at hd;exact Dj.grown hd (F.lt2 ha) ru)),F.e3,F.e7,F.e11,(fun _=>hl),(fun h=>absurd (yw h) (by simp)),F.e19⟩
theorem Fx.s19(F:Fx w0 M aS aH aF aL cS cH cF cL L x W)(hl:L 18=true)(hf:L 19=false):Fx w0 M aS aH aF aL cS cH cF cL (upd L 19) x (J3 W (w0.heap.size+1) (x 6) (x 10) (x 14) (x 18) (O J M.w)) :=
 ⟨((Rt (by omega)).trans F.box),(fun h=>by cases h),(fun _=>Xt (F.zb hf) _ _ _ _ _),(F.below.trans (O9 _ _ _ _ _ _ _ _ (by omega))),F.p1,F.p2,F.p5,F.p6,F.p9,F.p10,F.p13,F.p14,F.p16,F.p17,F.b18,(fun h h3=>G9 (F.r0 h h3) (own_ne (F.r0 h h3) (F.zb hf) (by first|decide|exact Ex.ne _ _ (by decide))) _ _ _ _ _),(fun h=>G9 (F.r3 h) (own_ne (F.r3 h) (F.zb hf) (by first|decide|exact Ex.ne _ _ (by decide))) _ _ _ _ _),(fun h h3=>G9 (F.r4 h h3) (own_ne (F.r4 h h3) (F.zb hf) (by first|decide|exact Ex.ne _ _ (by decide))) _ _ _ _ _),(fun h=>G9 (F.r7 h) (own_ne (F.r7 h) (F.zb hf) (by first|decide|exact Ex.ne _ _ (by decide))) _ _ _ _ _),(fun h h3=>G9 (F.r8 h h3) (own_ne (F.r8 h h3) (F.zb hf) (by first|decide|exact Ex.ne _ _ (by decide))) _ _ _ _ _),(fun h=>G9 (F.r11 h) (own_ne (F.r11 h) (F.zb hf) (by first|decide|exact Ex.ne _ _ (by decide))) _ _ _ _ _),(fun h h3=>G9 (F.r12 h h3) (own_ne (F.r12 h h3) (F.zb hf) (by first|decide|exact Ex.ne _ _ (by decide))) _ _ _ _ _),(fun h=>G9 (F.r15 h) (own_ne (F.r15 h) (F.zb hf) (by first|decide|exact Ex.ne _ _ (by decide))) _ _ _ _ _),F.d12,F.d13,F.d23,F.e3,F.e7,F.e11,F.e15,F.e18,(fun _=>hl)⟩
end
section
open ChangeShapes WideShapes ChangeAt RowKit Joins Deep Go.Sort
theorem b2k(w:Wq)(hX:w.heap[X]?=some (.cells #[O J f.c.k,O J f.c.a,O J f.c.b,O J f.c.t,O J f.c.q,O J f.c.h,O J f.l,O J f.u,O J f.p,O J f.h,O J f.n,Y aK f.t.length cK,.bool f.d,O J f.e] 47 (0,0))) :
  aI Pg 124 #[O J n,Ae X] w fun e w'=>e=.returned (.agg #[O J (toF f n).c.k,O J (toF f n).c.a,O J (toF f n).c.b,O J (toF f n).c.t,O J (toF f n).c.q,O J (toF f n).c.h,O J (toF f n).l,O J (toF f n).u,O J (toF f n).p,O J (toF f n).h,O J (toF f n).n,Y aK (toF f n).t.length cK,.bool (toF f n).d,O J (toF f n).e])/\Fine w w' (fun k=>k=X)/\w'.heap[X]?=some (.cells #[O J (toF f n).c.k,O J (toF f n).c.a,O J (toF f n).c.b,O J (toF f n).c.t,O J (toF f n).c.q,O J (toF f n).c.h,O J (toF f n).l,O J (toF f n).u,O J (toF f n).p,O J (toF f n).h,O J (toF f n).n,Y aK (toF f n).t.length cK,.bool (toF f n).d,O J (toF f n).e] 47 (0,0)):=by
 unfold Ae
 obtain⟨f0,f1,f2,f3,f4,f5,f6,f7,f8,f9,ay,au,aj,ak,ff,fs⟩:=A8 hX
 have HX:Qi (w.heap[X]?=some (.cells #[O J f.c.k,O J f.c.a,O J f.c.b,O J f.c.t,O J f.c.q,O J f.c.h,O J f.l,O J f.u,O J f.p,O J f.h,O J f.n,Y aK f.t.length cK,.bool f.d,O J f.e] 47 (0,0))):=hX
 clear hX
 go_enter func124,ntmps124
 go_wp2
 refine gZ (v:=.agg #[O J (toF f n).c.k,O J (toF f n).c.a,O J (toF f n).c.b,O J (toF f n).c.t,O J (toF f n).c.q,O J (toF f n).c.h,O J (toF f n).l,O J (toF f n).u,O J (toF f n).p,O J (toF f n).h,O J (toF f n).n,Y aK (toF f n).t.length cK,.bool (toF f n).d,O J (toF f n).e]) (by simp[iH,results124,go_sem,toF]) rfl ⟨rfl,((Fine.refl w (fun k=>k=X)).set (k:=X) (.inl rfl) 6 _).below (A7 _ _),?_⟩
 rw[fU _ _ _ (by simp;exact fs),block_setCell HX.o]
 rfl
end
end Go.Proofs.YthhgoenomehobaaGreat.mm
