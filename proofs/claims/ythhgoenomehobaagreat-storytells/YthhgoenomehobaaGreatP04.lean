/- Parts. -/
import Derived.Test.YthhgoenomehobaaGreatP01
namespace Go.Proofs.YthhgoenomehobaaGreat.mm
set_option maxRecDepth 100000
set_option linter.unusedVariables false
open Value renaming int → O, slice → Y
open IntKind renaming i64 → J
open Tryz renaming prog → Pg
open Go renaming World → Wq
open ChangeShapes WideShapes ChangeAt RowKit
set_option maxHeartbeats 0
variable (ao:Option Addr)(bg:Nat)(l:List Int)(x:Int){S:List Sl}{a:Int}(M:Mm)(aS aH aF aL:Option Addr)(cS cH cF cL:Nat)(w:Wq){F:List Int}{k:Nat}
theorem Yt(h:k<S.length)(ha:a=k):Ha S a=decide (S[k].refs=0):=by
 subst ha
 simp[Ha,h]
theorem Ue(h:inB a 0 ((S.length:Int) - 1)=false):Ha S a=false:=by
 have:¬ (0<=a/\a<=(S.length:Int) - 1):=fun hh=>by rw[(Ar _ _ _).2 hh] at h;cases h
 rw[Bool.eq_false_iff]
 intro hh
 rw[Qy] at hh
 omega
theorem Sm(r:Dk w ao bg l) :
  Calls Pg 33 #[Y ao l.length bg,O J x] w fun e w'=>e=.returned (.bool (hasB l x))/\w=w':=by
 have:=Ic ao l.length bg l x w (Nat.le_refl _) (by have:=r.max;omega) r.at_
 rwa [List.take_length] at this
theorem Qw(h:k<F.length)(h0:Ha S F[k]=false)(H:Bo S [] F=Bo S (F.take k) (F.drop k)):Bo S [] F=5:=by
 rw[H,Nv S F k h,h0];rfl
theorem X6(h:k<F.length)(h0:Ha S F[k]=true)(h1:hasB (F.take k) F[k]=true)(H:Bo S [] F=Bo S (F.take k) (F.drop k)):Bo S [] F=6:=by
 rw[H,Nv S F k h,h0,h1];rfl
theorem Yp(h:k<F.length)(h0:Ha S F[k]=true)(h1:hasB (F.take k) F[k]=false)(H:Bo S [] F=Bo S (F.take k) (F.drop k)):Bo S [] F=Bo S (F.take (k+1)) (F.drop (k+1)):=by
 rw[H,Nv S F k h,h0,h1];rfl
theorem Xi(h:k<S.length)(h0:S[k].refs=0)(h1:hasB F (k:Int)=false)(H:Cc F 0 S=Cc F k (S.drop k)):Cc F 0 S=4:=by
 rw[H,Tt F S k h,h0,h1];rfl
theorem Q5(h:k<S.length)(h0:S[k].refs≠0\/hasB F (k:Int)=true)(H:Cc F 0 S=Cc F k (S.drop k)):Cc F 0 S=Cc F (k+1) (S.drop (k+1)):=by
 rw[H,Tt F S k h]
 rcases h0 with h0|h0
 ·rw[ae (by simp[h0])]
 ·rw[ae (by simp[h0])]
theorem Y5(A:At w aS aH aF aL cS cH cF cL M) :
  Calls Pg 88 #[Cm aS aH aF aL cS cH cF cL M] w fun e w' =>
   e=.returned (O J (if Bo M.s [] M.f≠0 then Bo M.s [] M.f else Cc M.f 0 M.s))/\Below w.heap.size w w':=by
 unfold Cm
 obtain⟨S,H,F,L,je⟩:=M
 obtain⟨rs,rh,rf,rl⟩:=A
 dsimp only at rs rh rf rl ⊢
 have m1:=rs.max;have m2:=rs.le;have m3:=rf.max;have m4:=rf.le
 have n1:S.length<=9223372036854775807:=by omega
 have n2:F.length<=9223372036854775807:=by omega
 obtain⟨Z,hZ⟩:∃ Z:Int,Z=(if Bo S [] F≠0 then Bo S [] F else Cc F 0 S):=⟨_,rfl⟩
 have HZ:Qi (Z=(if Bo S [] F≠0 then Bo S [] F else Cc F 0 S)):=hZ
 rw[<- hZ]
 clear hZ
 have RV:Qi (Jf w aS cS S):=rs
 have HRF:Qi (Dk w aF cF F):=rf
 clear rh rf rl rs
 go_enter Tryz.func88,Tryz.ntmps88
 go_wp2
 go_loopw [10] (fun i wr=>∃ k:Nat,k<=F.length/\i=O J k/\Below (w.heap.size+1) (w.alloc (.cells #[Y aS S.length cS,Y aH H.length cH,Y aF F.length cF,Y aL L.length cL,O J je] 25)) wr/\Qi (Bo S [] F=Bo S (F.take k) (F.drop k)))
  (fun i _=>F.length - (intOf i).toNat)
 case atStart=>exact⟨0,Nat.zero_le _,rfl,Below.refl _ _,by show _=_;rw[List.drop_zero,List.take_zero]⟩
 case round =>
  obtain⟨k,hk,rfl,hb,HE⟩:=hrel
  have jd:Below w.heap.size w wr:=(A7 w _).trans (hb.mono (by omega))
  obtain⟨q0,q1,q2,q3,q4,q5⟩:=En hb
  by_cases gm:k<F.length
  ·rcases HRF.o.at_ with h0|⟨b,o,rfl,hc⟩
   ·omega
   have c0:=hc k gm
   have lt:=cell_lt c0
   rw[<- (Ce jd).1 _ _ lt] at c0
   generalize hx:F[k]=x at c0
   have HX:Qi (F[k]=x):=hx
   clear hx
   cases h1:inB x 0 ((S.length:Int) - 1)
   ·have HV:Qi (Z=5):=by
     show _=_
     rw[HZ.o,Qw gm (by rw[HX.o];exact Ue h1) HE.o];rfl
    go_wp2_with (go_at_call 111;refine(Ep _ _ _ _ _ _ _ _ _ _ _ _ _ _ _ n1).mono ?_;rintro e w2 ⟨rfl,dm⟩)
    go_ret
    exact⟨Bf HV.o.symm,jd.trans (dm.mono jd.size)⟩
   have YT:=(Ar _ _ _).1 h1
   obtain⟨j,rfl⟩:∃ j:Nat,x=j:=⟨x.toNat,by omega⟩
   have hj:j<S.length:=by omega
   rcases RV.o.at_ with h0|⟨b2,o2,rfl,zk⟩
   ·omega
   have d0:=(zk j hj).1
   have lt2:=cell_lt d0
   rw[<- (Ce jd).1 _ _ lt2] at d0
   generalize hr:S[j].refs=r at d0
   have PQ:Qi (Ha S (F[k]'gm)=decide (r=0)):=by
    show _=_
    rw[HX.o,Yt hj rfl,hr]
   clear hr zk
   go_wp2_with fail
   refine(Ep _ _ _ _ _ _ _ _ _ _ _ _ _ _ _ n1).mono ?_
   rintro e w2 ⟨rfl,dm⟩
   have qW:=jd.trans (dm.mono jd.size)
   have vG:=hb.trans (dm.mono q5)
   replace d0:=((Ce dm).1 _ _ (cell_lt d0)).trans d0
   clear dm q0 q1 q2 q3 q4 c0
   obtain⟨q0,q1,q2,q3,q4,-⟩:=En vG
   by_cases xQ:r=0
   ·subst xQ
    have wQ:Qi (k=0\/∃ b' o',(some ⟨b,o,none⟩:Option Addr)=some ⟨b',o',none⟩/\∀ i (h:i<F.length),w2.cell? ⟨b',o'+i,none⟩=some (O J F[i])) :=
     .inr ⟨b,o,rfl,fun i hi=>((Ce qW).1 _ _ (cell_lt (hc i hi))).trans (hc i hi)⟩
    clear hc
    cases h2:hasB (F.take k) j
    ·have HV:Qi (Bo S [] F=Bo S (F.take (k+1)) (F.drop (k+1))):=Yp gm (by rw[PQ.o];rfl) (by rw[HX.o];exact h2) HE.o
     go_wp2_with (go_at_call 33;refine(Ic _ _ _ F _ _ hk (by omega) wQ.o).mono ?_;rintro e w1 ⟨rfl,rfl⟩)
     go_roundw
     case rel=>exact⟨k+1,by omega,by go_num,vG,HV⟩
     case measure=>simp[intOf];omega
    ·have HV:Qi (Z=6):=by
      show _=_
      rw[HZ.o,X6 gm (by rw[PQ.o];rfl) (by rw[HX.o];exact h2) HE.o];rfl
     go_wp2_with (go_at_call 33;refine(Ic _ _ _ F _ _ hk (by omega) wQ.o).mono ?_;rintro e w1 ⟨rfl,rfl⟩)
     go_ret
     exact⟨Bf HV.o.symm,qW⟩
   ·have IV:(r != 0)=true:=by simpa using xQ
    have HV:Qi (Z=5):=by
     show _=_
     rw[HZ.o,Qw gm (by rw[PQ.o];simpa using xQ) HE.o];rfl
    go_wp2
    go_ret
    exact⟨Bf HV.o.symm,qW⟩
  ·have rG:Qi (Z=Cc F 0 S):=by
    show _=_
    rw[HZ.o,HE.o,V4 S F k (by omega)];rfl
   clear HZ HE
   go_wp2
   go_loopw [38] (fun i wr=>∃ k:Nat,k<=S.length/\i=O J k/\Below (w.heap.size+1) (w.alloc (.cells #[Y aS S.length cS,Y aH H.length cH,Y aF F.length cF,Y aL L.length cL,O J je] 25)) wr/\Qi (Cc F 0 S=Cc F k (S.drop k)))
    (fun i _=>S.length - (intOf i).toNat)
   case atStart=>exact⟨0,Nat.zero_le _,rfl,hb,by show _=_;rw[List.drop_zero]⟩
   case round =>
    obtain⟨k2,yt,rfl,gu,HE⟩:=hrel
    clear jd hb q0 q1 q2 q3 q4 q5
    have jd:Below w.heap.size w wr:=(A7 w _).trans (gu.mono (by omega))
    obtain⟨q0,q1,q2,q3,q4,q5⟩:=En gu
    have q6:w.heap.size<wr.heap.size:=q5
    by_cases wI:k2<S.length
    ·rcases RV.o.at_ with h0|⟨b,o,rfl,hc⟩
     ·omega
     obtain⟨c0,c1,c2,c3,c4,c5⟩:=hc k2 wI
     have lt:=cell_lt c0
     rw[<- (Ce jd).1 _ _ lt] at c0 c1 c2 c3 c4 c5
     clear hc
     generalize hs:S[k2]=s at c0 c1 c2 c3 c4 c5
     obtain⟨r,a,bb,u,i,nx⟩:=s
     dsimp only at c0 c1 c2 c3 c4 c5
     have HS:Qi (S[k2]=⟨r,a,bb,u,i,nx⟩):=hs
     clear hs
     have qW:=jd.alloc jd.size (.cells #[O J r,O J a,O J bb,O J u,.bool i,O J nx] 64)
     have vG:=gu.alloc q5 (.cells #[O J r,O J a,O J bb,O J u,.bool i,O J nx] 64)
     have XH:Qi _:=HRF.o.below qW
     by_cases xQ:r=0
     ·subst xQ
      cases h2:hasB F k2
      ·have HV:Qi (Z=4):=by
        show _=_
        rw[rG.o,Xi wI (by rw[HS.o]) h2 HE.o]
       go_wp2_with (go_at_call 33;refine(Sm _ _ F _ _ XH.o).mono ?_;rintro e w1 ⟨rfl,rfl⟩)
       go_ret
       exact⟨Bf HV.o.symm,qW⟩
      ·have HV:Qi (Cc F 0 S=Cc F (k2+1) (S.drop (k2+1))):=Q5 wI (.inr h2) HE.o
       go_wp2_with (go_at_call 33;refine(Sm _ _ F _ _ XH.o).mono ?_;rintro e w1 ⟨rfl,rfl⟩)
       go_roundw
       case rel=>exact⟨k2+1,by omega,by go_num,vG,HV⟩
       case measure=>simp[intOf];omega
     ·have IV:(r==0)=false:=by simpa using xQ
      have HV:Qi (Cc F 0 S=Cc F (k2+1) (S.drop (k2+1))):=Q5 wI (.inl (by rw[HS.o];exact xQ)) HE.o
      go_wp2
      go_roundw
      case rel=>exact⟨k2+1,by omega,by go_num,vG,HV⟩
      case measure=>simp[intOf];omega
    ·have HV:Qi (Z=0):=by
      show _=_
      rw[rG.o,HE.o,V7 F S k2 (by omega)]
     go_wp2
     go_ret
     exact⟨Bf HV.o.symm,jd⟩
end Go.Proofs.YthhgoenomehobaaGreat.mm
