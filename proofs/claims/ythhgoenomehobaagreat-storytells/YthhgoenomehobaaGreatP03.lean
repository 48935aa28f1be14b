/- Parts. -/
import Derived.Test.YthhgoenomehobaaGreatP01
namespace Go.Proofs.YthhgoenomehobaaGreat.mm
open List renaming eq_nil_of_length_eq_zero → bQ
set_option maxRecDepth 100000
set_option linter.unusedVariables false
open Value renaming int → O, slice → Y
open IntKind renaming i64 → J
open Tryz renaming prog → Pg
open Go renaming World → Wq
open ChangeShapes WideShapes ChangeAt RowKit
set_option maxHeartbeats 0
theorem Ve(M:Mm)(aS aH aF aL:Option Addr)(cS cH cF cL:Nat)(w:Wq)(A:At w aS aH aF aL cS cH cF cL M)(hl:M.l.length=M.h.length) :
  Calls Pg 87 #[Cm aS aH aF aL cS cH cF cL M] w fun e w' =>
   e=.returned (O J (Ap (Cj M.h.length M.s.length) (M.h.zip M.l)))/\Below w.heap.size w w':=by
 unfold Cm
 obtain⟨S,H,F,L,je⟩:=M
 obtain⟨rs,rh,rf,rl⟩:=A
 dsimp only at rs rh rf rl hl ⊢
 have m1:=rs.max;have m2:=rs.le;have m3:=rh.max;have m4:=rh.le
 have n1:S.length<=9223372036854775807:=by omega
 have n2:H.length<=9223372036854775807:=by omega
 have hzl:(H.zip L).length=H.length:=by rw[List.length_zip];omega
 obtain⟨f,hf⟩:∃ f,f=Cj H.length S.length:=⟨_,rfl⟩
 have HF:Qi (f=Cj H.length S.length):=hf
 rw[<- hf]
 clear hf
 obtain⟨Z,hZ⟩:∃ Z,Z=H.zip L:=⟨_,rfl⟩
 have HZ:Qi (Z=H.zip L):=hZ
 rw[<- hZ] at hzl ⊢
 clear hZ
 have HL:Qi (Z.length=H.length):=hzl
 have XO:Qi (L.length=H.length):=hl
 clear hzl hl
 have hz:=rh.at_
 have pq:=rl.at_
 clear rh rf rl rs
 go_enter Tryz.func87,Tryz.ntmps87
 go_wp2
 rcases hz with h0|⟨b,o,rfl,hc⟩
 ·have HE:Qi (Ap f Z=0):=by
   show _=_
   rw[bQ (HL.o.trans h0)];rfl
  refine wp_loop_rounds 1 ?_
  rw[rounds_succ]
  go_wp2
  go_ret
  exact⟨Bf HE.o.symm,A7 _ _⟩
 ·rcases pq with h0|⟨b2,o2,rfl,zk⟩
  ·have OY:H.length=0:=by rw[<- XO.o];exact h0
   have HE:Qi (Ap f Z=0):=by
    show _=_
    rw[bQ (HL.o.trans OY)];rfl
   refine wp_loop_rounds 1 ?_
   rw[rounds_succ]
   go_wp2
   go_ret
   exact⟨Bf HE.o.symm,A7 _ _⟩
  go_loopw [8] (fun i wr=>∃ k:Nat,k<=H.length/\i=O J k/\Below (w.heap.size+1) (w.alloc (.cells #[Y aS S.length cS,Y (some ⟨b,o,none⟩) H.length cH,Y aF F.length cF,Y (some ⟨b2,o2,none⟩) L.length cL,O J je] 25)) wr/\Qi (Ap f Z=Ap f (Z.drop k)))
   (fun i _=>H.length - (intOf i).toNat)
  case atStart=>exact⟨0,Nat.zero_le _,rfl,Below.refl _ _,by show _=_;rw[List.drop_zero]⟩
  case round =>
   obtain⟨k,hk,rfl,hb,HE⟩:=hrel
   have jd:Below w.heap.size w wr:=(A7 w _).trans (hb.mono (by omega))
   obtain⟨q0,q1,q2,q3,q4,q5⟩:=En hb
   by_cases gm:k<H.length
   ·have EN:k<L.length:=by have:=XO.o;omega
    have xy:k<Z.length:=by have:=HL.o;omega
    have c0:=hc k gm
    have d0:=zk k EN
    have lt:=cell_lt c0
    have lt2:=cell_lt d0
    obtain⟨qc,-⟩:=Ce jd
    rw[<- qc _ _ lt] at c0
    rw[<- qc _ _ lt2] at d0
    clear hc zk qc
    generalize hx:H[k]=x at c0
    generalize hy:L[k]=y at d0
    have HS:Qi (Z[k]=(x,y)):=by
     show _=_
     have e:Z[k]?=some (x,y):=by rw[HZ.o,List.getElem?_zip_eq_some];exact⟨by rw[List.getElem?_eq_getElem gm,hx],by rw[List.getElem?_eq_getElem EN,hy]⟩
     rw[List.getElem?_eq_getElem xy] at e
     exact Option.some.inj e
    clear hx hy
    by_cases zN:x=0
    ·have HV:Qi (Ap f Z=5):=Io xy (by rw[HS.o,HF.o];simp[Cj,zN]) (by decide) HE.o
     subst zN
     go_wp2
     go_ret
     exact⟨Bf HV.o.symm,jd⟩
    have FV:(x==0)=false:=by simpa using zN
    cases h1:inB x (-(H.length:Int)) S.length
    ·have HV:Qi (Ap f Z=5):=Io xy (by rw[HS.o,HF.o];simp[Cj,h1]) (by decide) HE.o
     go_wp2_with (go_at_call 127;refine(Jr _ _ _ _ _ _ _ _ _ _ _ _ _ _ _ n1 n2).mono ?_;rintro e w2 ⟨rfl,dm⟩)
     go_ret
     exact⟨Bf HV.o.symm,jd.trans (dm.mono jd.size)⟩
    go_wp2_with fail
    refine(Jr _ _ _ _ _ _ _ _ _ _ _ _ _ _ _ n1 n2).mono ?_
    rintro e w2 ⟨rfl,dm⟩
    have qW:=jd.trans (dm.mono jd.size)
    have vG:=hb.trans (dm.mono q5)
    replace d0:=((Ce dm).1 _ _ (cell_lt d0)).trans d0
    clear dm q0 q1 q2 q3 q4
    obtain⟨q0,q1,q2,q3,q4,-⟩:=En vG
    cases h2:inB y (-1) 4
    ·have HV:Qi (Ap f Z=3):=Io xy (by rw[HS.o,HF.o];simp[Cj,zN,h1,h2]) (by decide) HE.o
     go_wp2_with (go_at_call 85;refine(Ci _ _ _ _).mono ?_;rintro e w1 ⟨rfl,rfl⟩)
     go_ret
     exact⟨Bf HV.o.symm,qW⟩
    ·have HV:Qi (Ap f Z=Ap f (Z.drop (k+1))):=step_ok xy (by rw[HS.o,HF.o];simp[Cj,zN,h1,h2]) HE.o
     go_wp2_with (go_at_call 85;refine(Ci _ _ _ _).mono ?_;rintro e w1 ⟨rfl,rfl⟩)
     go_roundw
     case rel=>exact⟨k+1,by omega,by go_num,vG,HV⟩
     case measure=>simp[intOf];omega
   ·have HV:Qi (Ap f Z=0):=by
     show _=_
     rw[HE.o,Iz f Z k (by have:=HL.o;omega)]
    go_wp2
    go_ret
    exact⟨Bf HV.o.symm,jd⟩
end Go.Proofs.YthhgoenomehobaaGreat.mm
