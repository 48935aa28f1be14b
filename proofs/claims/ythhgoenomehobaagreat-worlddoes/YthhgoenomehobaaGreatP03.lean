/- Parts. -/
import Derived.Test.YthhgoenomehobaaGreatP01
namespace Go.Proofs.YthhgoenomehobaaGreat.mm
set_option maxRecDepth 100000
set_option linter.unusedVariables false
open Go.Value renaming int → O, slice → Y
open Go.IntKind renaming i64 → J
open Go.Proofs.Tryz renaming prog → Pg
open Go renaming World → Wq
open Go.ChangeShapes Go.WideShapes Go.ChangeAt Go.RowKit
set_option maxHeartbeats 3200000
section
theorem U7(M:Mm)(aS aH aF aL:Option Addr)(cS cH cF cL:Nat)(w:Wq)(A:At w aS aH aF aL cS cH cF cL M)(hl:M.locks.length=M.heads.length) :
  Calls Pg 87 #[.agg #[Y aS M.slots.length cS,Y aH M.heads.length cH,Y aF M.free.length cF,Y aL M.locks.length cL,O J M.now]] w fun e w' =>
   e=.returned (O J (Ah (Bz M.heads.length M.slots.length) (M.heads.zip M.locks)))/\Below w.heap.size w w':=by
 obtain⟨S,H,F,L,now⟩:=M
 obtain⟨rs,rh,rf,rl⟩:=A
 dsimp only at rs rh rf rl hl ⊢
 have m1:=rs.max;have m2:=rs.le;have m3:=rh.max;have m4:=rh.le
 have n1:S.length<=9223372036854775807:=by omega
 have n2:H.length<=9223372036854775807:=by omega
 have hzl:(H.zip L).length=H.length:=by rw[List.length_zip];omega
 obtain⟨f,hf⟩:∃ f,f=Bz H.length S.length:=⟨_,rfl⟩
 have HF:Hid (f=Bz H.length S.length):=hf
 rw[<- hf]
 clear hf
 obtain⟨Z,hZ⟩:∃ Z,Z=H.zip L:=⟨_,rfl⟩
 have HZ:Hid (Z=H.zip L):=hZ
 rw[<- hZ] at hzl ⊢
 clear hZ
 have HL:Hid (Z.length=H.length):=hzl
 have HLL:Hid (L.length=H.length):=hl
 clear hzl hl
 have hz:=rh.at_
 have hz2:=rl.at_
 clear rh rf rl rs
 go_enter Tryz.func87,Tryz.ntmps87
 go_wp2
 rcases hz with h0|⟨b,o,rfl,hc⟩
 ·have HE:Hid (Ah f Z=0):=by
   show _=_
   rw[List.eq_nil_of_length_eq_zero (HL.out.trans h0)];rfl
  refine wp_loop_rounds 1 ?_
  rw[rounds_succ]
  go_wp2
  go_ret
  exact⟨Ba HE.out.symm,A7 _ _⟩
 ·rcases hz2 with h0|⟨b2,o2,rfl,hc2⟩
  ·have h0':H.length=0:=by rw[<- HLL.out];exact h0
   have HE:Hid (Ah f Z=0):=by
    show _=_
    rw[List.eq_nil_of_length_eq_zero (HL.out.trans h0')];rfl
   refine wp_loop_rounds 1 ?_
   rw[rounds_succ]
   go_wp2
   go_ret
   exact⟨Ba HE.out.symm,A7 _ _⟩
  go_loopw [8] (fun i wr=>∃ k:Nat,k<=H.length/\i=O J k/\Below (w.heap.size+1) (w.alloc (.cells #[Y aS S.length cS,Y (some ⟨b,o,none⟩) H.length cH,Y aF F.length cF,Y (some ⟨b2,o2,none⟩) L.length cL,O J now] 25)) wr/\Hid (Ah f Z=Ah f (Z.drop k)))
   (fun i _=>H.length - (intOf i).toNat)
  case atStart=>exact⟨0,Nat.zero_le _,rfl,Below.refl _ _,by show _=_;rw[List.drop_zero]⟩
  case round =>
   obtain⟨k,hk,rfl,hb,HE⟩:=hrel
   have hbw:Below w.heap.size w wr:=(A7 w _).trans (hb.mono (by omega))
   obtain⟨q0,q1,q2,q3,q4,q5⟩:=Eb hb
   by_cases hlt:k<H.length
   ·have hltL:k<L.length:=by have:=HLL.out;omega
    have hltZ:k<Z.length:=by have:=HL.out;omega
    have c0:=hc k hlt
    have d0:=hc2 k hltL
    have lt:=cell_lt c0
    have lt2:=cell_lt d0
    obtain⟨qc,-⟩:=Bv hbw
    rw[<- qc _ _ lt] at c0
    rw[<- qc _ _ lt2] at d0
    clear hc hc2 qc
    generalize hx:H[k]=x at c0
    generalize hy:L[k]=y at d0
    have HS:Hid (Z[k]=(x,y)):=by
     show _=_
     have e:Z[k]?=some (x,y):=by rw[HZ.out,List.getElem?_zip_eq_some];exact⟨by rw[List.getElem?_eq_getElem hlt,hx],by rw[List.getElem?_eq_getElem hltL,hy]⟩
     rw[List.getElem?_eq_getElem hltZ] at e
     exact Option.some.inj e
    clear hx hy
    by_cases hx0:x=0
    ·have HV:Hid (Ah f Z=5):=Hy hltZ (by rw[HS.out,HF.out];simp[Bz,hx0]) (by decide) HE.out
     subst hx0
     go_wp2
     go_ret
     exact⟨Ba HV.out.symm,hbw⟩
    have hx1:(x==0)=false:=by simpa using hx0
    cases h1:inB x (-(H.length:Int)) S.length
    ·have HV:Hid (Ah f Z=5):=Hy hltZ (by rw[HS.out,HF.out];simp[Bz,h1]) (by decide) HE.out
     go_wp2_with (go_at_call 127;refine(J5 _ _ _ _ _ _ _ _ _ _ _ _ _ _ _ n1 n2).mono ?_;rintro e w2 ⟨rfl,hb2⟩)
     go_ret
     exact⟨Ba HV.out.symm,hbw.trans (hb2.mono hbw.size)⟩
    go_wp2_with fail
    refine(J5 _ _ _ _ _ _ _ _ _ _ _ _ _ _ _ n1 n2).mono ?_
    rintro e w2 ⟨rfl,hb2⟩
    have hbx:=hbw.trans (hb2.mono hbw.size)
    have hby:=hb.trans (hb2.mono q5)
    replace d0:=((Bv hb2).1 _ _ (cell_lt d0)).trans d0
    clear hb2 q0 q1 q2 q3 q4
    obtain⟨q0,q1,q2,q3,q4,-⟩:=Eb hby
    cases h2:inB y (-1) 4
    ·have HV:Hid (Ah f Z=3):=Hy hltZ (by rw[HS.out,HF.out];simp[Bz,hx0,h1,h2]) (by decide) HE.out
     go_wp2_with (go_at_call 85;refine(Bq _ _ _ _).mono ?_;rintro e w1 ⟨rfl,rfl⟩)
     go_ret
     exact⟨Ba HV.out.symm,hbx⟩
    ·have HV:Hid (Ah f Z=Ah f (Z.drop (k+1))):=step_ok hltZ (by rw[HS.out,HF.out];simp[Bz,hx0,h1,h2]) HE.out
     go_wp2_with (go_at_call 85;refine(Bq _ _ _ _).mono ?_;rintro e w1 ⟨rfl,rfl⟩)
     go_roundw
     case rel=>exact⟨k+1,by omega,by go_num,hby,HV⟩
     case measure=>simp[intOf];omega
   ·have HV:Hid (Ah f Z=0):=by
     show _=_
     rw[HE.out,Ig f Z k (by have:=HL.out;omega)]
    go_wp2
    go_ret
    exact⟨Ba HV.out.symm,hbw⟩
end
section
theorem Xk{S:List Sl}{a:Int}{k:Nat}(h:k<S.length)(ha:a=k):Fz S a=decide (S[k].refs=0):=by
 subst ha
 simp[Fz,h]
theorem Sm{S:List Sl}{a:Int}(h:inB a 0 ((S.length:Int) - 1)=false):Fz S a=false:=by
 have:¬ (0<=a/\a<=(S.length:Int) - 1):=fun hh=>by rw[(Aj _ _ _).2 hh] at h;cases h
 rw[Bool.eq_false_iff]
 intro hh
 rw[Ih] at hh
 omega
theorem Qm(ao:Option Addr)(cap:Nat)(l:List Int)(x:Int)(w:Wq)(r:Cj w ao cap l) :
  Calls Pg 33 #[Y ao l.length cap,O J x] w fun e w'=>e=.returned (.bool (hasB l x))/\w=w':=by
 have:=Hg ao l.length cap l x w (Nat.le_refl _) (by have:=r.max;omega) r.at_
 rwa [List.take_length] at this
theorem Pn{S:List Sl}{F:List Int}{k:Nat}(h:k<F.length)(h0:Fz S F[k]=false)(H:Be S [] F=Be S (F.take k) (F.drop k)):Be S [] F=5:=by
 rw[H,Lj S F k h,h0];rfl
theorem V5{S:List Sl}{F:List Int}{k:Nat}(h:k<F.length)(h0:Fz S F[k]=true)(h1:hasB (F.take k) F[k]=true)(H:Be S [] F=Be S (F.take k) (F.drop k)):Be S [] F=6:=by
 rw[H,Lj S F k h,h0,h1];rfl
theorem Xj{S:List Sl}{F:List Int}{k:Nat}(h:k<F.length)(h0:Fz S F[k]=true)(h1:hasB (F.take k) F[k]=false)(H:Be S [] F=Be S (F.take k) (F.drop k)):Be S [] F=Be S (F.take (k+1)) (F.drop (k+1)):=by
 rw[H,Lj S F k h,h0,h1];rfl
theorem Vj{S:List Sl}{F:List Int}{k:Nat}(h:k<S.length)(h0:S[k].refs=0)(h1:hasB F (k:Int)=false)(H:Bl F 0 S=Bl F k (S.drop k)):Bl F 0 S=4:=by
 rw[H,Qz F S k h,h0,h1];rfl
theorem Ol{S:List Sl}{F:List Int}{k:Nat}(h:k<S.length)(h0:S[k].refs≠0\/hasB F (k:Int)=true)(H:Bl F 0 S=Bl F k (S.drop k)):Bl F 0 S=Bl F (k+1) (S.drop (k+1)):=by
 rw[H,Qz F S k h]
 rcases h0 with h0|h0
 ·rw[if_neg (by simp[h0])]
 ·rw[if_neg (by simp[h0])]
theorem Ws(M:Mm)(aS aH aF aL:Option Addr)(cS cH cF cL:Nat)(w:Wq)(A:At w aS aH aF aL cS cH cF cL M) :
  Calls Pg 88 #[.agg #[Y aS M.slots.length cS,Y aH M.heads.length cH,Y aF M.free.length cF,Y aL M.locks.length cL,O J M.now]] w fun e w' =>
   e=.returned (O J (if Be M.slots [] M.free≠0 then Be M.slots [] M.free else Bl M.free 0 M.slots))/\Below w.heap.size w w':=by
 obtain⟨S,H,F,L,now⟩:=M
 obtain⟨rs,rh,rf,rl⟩:=A
 dsimp only at rs rh rf rl ⊢
 have m1:=rs.max;have m2:=rs.le;have m3:=rf.max;have m4:=rf.le
 have n1:S.length<=9223372036854775807:=by omega
 have n2:F.length<=9223372036854775807:=by omega
 obtain⟨Z,hZ⟩:∃ Z:Int,Z=(if Be S [] F≠0 then Be S [] F else Bl F 0 S):=⟨_,rfl⟩
 have HZ:Hid (Z=(if Be S [] F≠0 then Be S [] F else Bl F 0 S)):=hZ
 rw[<- hZ]
 clear hZ
 have HRS:Hid (Ic w aS cS S):=rs
 have HRF:Hid (Cj w aF cF F):=rf
 clear rh rf rl rs
 go_enter Tryz.func88,Tryz.ntmps88
 go_wp2
 go_loopw [10] (fun i wr=>∃ k:Nat,k<=F.length/\i=O J k/\Below (w.heap.size+1) (w.alloc (.cells #[Y aS S.length cS,Y aH H.length cH,Y aF F.length cF,Y aL L.length cL,O J now] 25)) wr/\Hid (Be S [] F=Be S (F.take k) (F.drop k)))
  (fun i _=>F.length - (intOf i).toNat)
 case atStart=>exact⟨0,Nat.zero_le _,rfl,Below.refl _ _,by show _=_;rw[List.drop_zero,List.take_zero]⟩
 case round =>
  obtain⟨k,hk,rfl,hb,HE⟩:=hrel
  have hbw:Below w.heap.size w wr:=(A7 w _).trans (hb.mono (by omega))
  obtain⟨q0,q1,q2,q3,q4,q5⟩:=Eb hb
  by_cases hlt:k<F.length
  ·rcases HRF.out.at_ with h0|⟨b,o,rfl,hc⟩
   ·omega
   have c0:=hc k hlt
   have lt:=cell_lt c0
   rw[<- (Bv hbw).1 _ _ lt] at c0
   generalize hx:F[k]=x at c0
   have HX:Hid (F[k]=x):=hx
   clear hx
   cases h1:inB x 0 ((S.length:Int) - 1)
   ·have HV:Hid (Z=5):=by
     show _=_
     rw[HZ.out,Pn hlt (by rw[HX.out];exact Sm h1) HE.out];rfl
    go_wp2_with (go_at_call 111;refine(Ed _ _ _ _ _ _ _ _ _ _ _ _ _ _ _ n1).mono ?_;rintro e w2 ⟨rfl,hb2⟩)
    go_ret
    exact⟨Ba HV.out.symm,hbw.trans (hb2.mono hbw.size)⟩
   have hxb:=(Aj _ _ _).1 h1
   obtain⟨j,rfl⟩:∃ j:Nat,x=j:=⟨x.toNat,by omega⟩
   have hj:j<S.length:=by omega
   rcases HRS.out.at_ with h0|⟨b2,o2,rfl,hc2⟩
   ·omega
   have d0:=(hc2 j hj).1
   have lt2:=cell_lt d0
   rw[<- (Bv hbw).1 _ _ lt2] at d0
   generalize hr:S[j].refs=r at d0
   have HOK:Hid (Fz S (F[k]'hlt)=decide (r=0)):=by
    show _=_
    rw[HX.out,Xk hj rfl,hr]
   clear hr hc2
   go_wp2_with fail
   refine(Ed _ _ _ _ _ _ _ _ _ _ _ _ _ _ _ n1).mono ?_
   rintro e w2 ⟨rfl,hb2⟩
   have hbx:=hbw.trans (hb2.mono hbw.size)
   have hby:=hb.trans (hb2.mono q5)
   replace d0:=((Bv hb2).1 _ _ (cell_lt d0)).trans d0
   clear hb2 q0 q1 q2 q3 q4 c0
   obtain⟨q0,q1,q2,q3,q4,-⟩:=Eb hby
   by_cases hr0:r=0
   ·subst hr0
    have HAT:Hid (k=0\/∃ b' o',(some ⟨b,o,none⟩:Option Addr)=some ⟨b',o',none⟩/\∀ i (h:i<F.length),w2.cell? ⟨b',o'+i,none⟩=some (O J F[i])) :=
     .inr ⟨b,o,rfl,fun i hi=>((Bv hbx).1 _ _ (cell_lt (hc i hi))).trans (hc i hi)⟩
    clear hc
    cases h2:hasB (F.take k) j
    ·have HV:Hid (Be S [] F=Be S (F.take (k+1)) (F.drop (k+1))):=Xj hlt (by rw[HOK.out];rfl) (by rw[HX.out];exact h2) HE.out
     go_wp2_with (go_at_call 33;refine(Hg _ _ _ F _ _ hk (by omega) HAT.out).mono ?_;rintro e w1 ⟨rfl,rfl⟩)
     go_roundw
     case rel=>exact⟨k+1,by omega,by go_num,hby,HV⟩
     case measure=>simp[intOf];omega
    ·have HV:Hid (Z=6):=by
      show _=_
      rw[HZ.out,V5 hlt (by rw[HOK.out];rfl) (by rw[HX.out];exact h2) HE.out];rfl
     go_wp2_with (go_at_call 33;refine(Hg _ _ _ F _ _ hk (by omega) HAT.out).mono ?_;rintro e w1 ⟨rfl,rfl⟩)
     go_ret
     exact⟨Ba HV.out.symm,hbx⟩
   ·have hr1:(r != 0)=true:=by simpa using hr0
    have HV:Hid (Z=5):=by
     show _=_
     rw[HZ.out,Pn hlt (by rw[HOK.out];simpa using hr0) HE.out];rfl
    go_wp2
    go_ret
    exact⟨Ba HV.out.symm,hbx⟩
  ·have HZ2:Hid (Z=Bl F 0 S):=by
    show _=_
    rw[HZ.out,HE.out,Tu S F k (by omega)];rfl
   clear HZ HE
   go_wp2
   go_loopw [38] (fun i wr=>∃ k:Nat,k<=S.length/\i=O J k/\Below (w.heap.size+1) (w.alloc (.cells #[Y aS S.length cS,Y aH H.length cH,Y aF F.length cF,Y aL L.length cL,O J now] 25)) wr/\Hid (Bl F 0 S=Bl F k (S.drop k)))
    (fun i _=>S.length - (intOf i).toNat)
   case atStart=>exact⟨0,Nat.zero_le _,rfl,hb,by show _=_;rw[List.drop_zero]⟩
   case round =>
    obtain⟨k2,hk2,rfl,hb3,HE⟩:=hrel
    clear hbw hb q0 q1 q2 q3 q4 q5
    have hbw:Below w.heap.size w wr:=(A7 w _).trans (hb3.mono (by omega))
    obtain⟨q0,q1,q2,q3,q4,q5⟩:=Eb hb3
    have q6:w.heap.size<wr.heap.size:=q5
    by_cases hlt2:k2<S.length
    ·rcases HRS.out.at_ with h0|⟨b,o,rfl,hc⟩
     ·omega
     obtain⟨c0,c1,c2,c3,c4,c5⟩:=hc k2 hlt2
     have lt:=cell_lt c0
     rw[<- (Bv hbw).1 _ _ lt] at c0 c1 c2 c3 c4 c5
     clear hc
     generalize hs:S[k2]=s at c0 c1 c2 c3 c4 c5
     obtain⟨r,a,bb,u,i,nx⟩:=s
     dsimp only at c0 c1 c2 c3 c4 c5
     have HS:Hid (S[k2]=⟨r,a,bb,u,i,nx⟩):=hs
     clear hs
     have hbx:=hbw.alloc hbw.size (.cells #[O J r,O J a,O J bb,O J u,.bool i,O J nx] 64)
     have hby:=hb3.alloc q5 (.cells #[O J r,O J a,O J bb,O J u,.bool i,O J nx] 64)
     have HRF2:Hid _:=HRF.out.below hbx
     by_cases hr0:r=0
     ·subst hr0
      cases h2:hasB F k2
      ·have HV:Hid (Z=4):=by
        show _=_
        rw[HZ2.out,Vj hlt2 (by rw[HS.out]) h2 HE.out]
       go_wp2_with (go_at_call 33;refine(Qm _ _ F _ _ HRF2.out).mono ?_;rintro e w1 ⟨rfl,rfl⟩)
       go_ret
       exact⟨Ba HV.out.symm,hbx⟩
      ·have HV:Hid (Bl F 0 S=Bl F (k2+1) (S.drop (k2+1))):=Ol hlt2 (.inr h2) HE.out
       go_wp2_with (go_at_call 33;refine(Qm _ _ F _ _ HRF2.out).mono ?_;rintro e w1 ⟨rfl,rfl⟩)
       go_roundw
       case rel=>exact⟨k2+1,by omega,by go_num,hby,HV⟩
       case measure=>simp[intOf];omega
     ·have hr1:(r==0)=false:=by simpa using hr0
      have HV:Hid (Bl F 0 S=Bl F (k2+1) (S.drop (k2+1))):=Ol hlt2 (.inl (by rw[HS.out];exact hr0)) HE.out
      go_wp2
      go_roundw
      case rel=>exact⟨k2+1,by omega,by go_num,hby,HV⟩
      case measure=>simp[intOf];omega
    ·have HV:Hid (Z=0):=by
      show _=_
      rw[HZ2.out,HE.out,U2 F S k2 (by omega)]
     go_wp2
     go_ret
     exact⟨Ba HV.out.symm,hbw⟩
end
end Go.Proofs.YthhgoenomehobaaGreat.mm
