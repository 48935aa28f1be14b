/- Parts. -/
import Derived.Test.YthhgoenomehobaaGreatP20
import Derived.Test.YthhgoenomehobaaGreatP18
namespace Go.Proofs.YthhgoenomehobaaGreat.mm
open Addr renaming add_lit → lQ, add → lU
open _root_.Array renaming any_eq_true' → jF, replicate → jG
open RowKit renaming intOf → lN
open World renaming ownsRow_nil → eU
open Option renaming getD_some → jC, map_some → jD
open Bool renaming and_eq_true → cO, eq_false_iff → lM
open Tryz renaming underlying3 → lD, underlying23 → fA, underlying45 → lG, underlying30 → lI, underlying22 → fB, ntmps61 → lJ, func61 → lK, prog → Pg
open Region renaming wanted → iY, binds → iZ, ready → bZ
open DataW renaming trod → kV, trod_int → kW, weights → kX, trod_struct → kZ
open World.ownsRow renaming alloc → iV, lt → kU
open List renaming getElem_mem → bJ, range → aU, take_succ_eq_append_getElem → aV, length_map → kN, length_take → jO, length_append → gU, all_eq_true → iR, drop_zero → kP, mem_cons → aZ, append_assoc → bD, append_nil → gV, map_cons → bK, map_append → bG, take_zero → gX, take_length → jS, not_mem_nil → kQ, contains_iff_mem → kR, map_toArray → kT
open Nat renaming le_refl → aC, zero_le → aG, zero_add → dR, mul_le_mul → iO, mul_one → kM
open Joins renaming cell_of_block → dN, ownsRow_le → fQ, ownsRow_form → kK
open RowKit.Below renaming refl → dK, heap_alloc → fU
open Go renaming lt_of_block → fC, heap_alloc_new → fP, Value → dU, Calls → aI, execOp → kD, reachBytes → kE, wpList_append_own_at → gB, MemPlace → kG, info_parts → gG, DataW → kJ, maxLen → gJ, undef → Uz, World → Wq
open Tryz
set_option maxRecDepth 100000
set_option linter.unusedVariables false
open Value renaming int → O, slice → Y
open IntKind renaming i64 → J
set_option maxHeartbeats 0
variable (s:Int × Int)(ao:Option Addr)(bg:Nat)(l:List (Int × Int))(S:List Sl){P:Program}{bn:Array Oper}{Q:Exit->Act->Wq->Prop}{id i:Nat}{o:Oper}{a:Act}{w0 W:Wq}(x:Nat->dU){base:Nat}{iq:Nat->Bool}{kw:Bool}{t:TypeId}{f0 f1 f2 f3 f4 f5 f6 f7 f8:Field}{qR:Nat}{cs:List dU}{c:dU}(M:Mm)(v:dU)(all:List Int)(k:Int × Int)(aS aH aF aL:Option Addr)(cS cH cF cL b:Nat)
section
open ChangeShapes WideShapes ChangeAt RowKit Maps
theorem G6(w:Wq)(q:Nat):Below w.heap.size w (w.drewN q):=⟨rfl,rfl,rfl,aC _,fun _ _=>rfl⟩
set_option maxRecDepth 100000 in
theorem b1j(H F L:List Int)(je:Int)(aS aH aF aL:Option Addr)(cS cH cF cL:Nat)(w:Wq)(n1:S.length<=9223372036854775807)(n2:H.length<=9223372036854775807)(n3:L.length<=9223372036854775807)(h:12<S.length) :
  aI Pg 61 #[.agg #[.slice aS S.length cS,.slice aH H.length cH,.slice aF F.length cF,.slice aL L.length cL,.int .i64 je]] w fun e w'=>e=.returned (.int .i64 2)/\Below w.heap.size w w':=by
 go_enter lK,lJ
 go_wp2_with fail
 go_quiet (fail)
 go_wp2
 go_ret
 exact⟨rfl,(A7 _ _).trans ((G6 _ _).mono (by simp))⟩
set_option maxRecDepth 100000 in
theorem b1k(H F L:List Int)(je:Int)(aS aH aF aL:Option Addr)(cS cH cF cL:Nat)(w:Wq)(n1:S.length<=9223372036854775807)(n2:H.length<=9223372036854775807)(n3:L.length<=9223372036854775807)(h0:S.length<=12)(h:H.length<1) :
  aI Pg 61 #[.agg #[.slice aS S.length cS,.slice aH H.length cH,.slice aF F.length cF,.slice aL L.length cL,.int .i64 je]] w fun e w'=>e=.returned (.int .i64 2)/\Below w.heap.size w w':=by
 go_enter lK,lJ
 go_wp2_with fail
 go_quiet (fail)
 go_wp2
 go_ret
 exact⟨rfl,(A7 _ _).trans ((G6 _ _).mono (by simp))⟩
set_option maxRecDepth 100000 in
theorem b1l(H F L:List Int)(je:Int)(aS aH aF aL:Option Addr)(cS cH cF cL:Nat)(w:Wq)(n1:S.length<=9223372036854775807)(n2:H.length<=9223372036854775807)(n3:L.length<=9223372036854775807)(h0:S.length<=12)(h1:1<=H.length)(h:4<H.length) :
  aI Pg 61 #[.agg #[.slice aS S.length cS,.slice aH H.length cH,.slice aF F.length cF,.slice aL L.length cL,.int .i64 je]] w fun e w'=>e=.returned (.int .i64 2)/\Below w.heap.size w w':=by
 go_enter lK,lJ
 go_wp2_with fail
 go_quiet (fail)
 go_wp2
 go_ret
 exact⟨rfl,(A7 _ _).trans ((G6 _ _).mono (by simp))⟩
set_option maxRecDepth 100000 in
theorem b4h(H F L:List Int)(je:Int)(aS aH aF aL:Option Addr)(cS cH cF cL:Nat)(w:Wq)(n1:S.length<=9223372036854775807)(n2:H.length<=9223372036854775807)(n3:L.length<=9223372036854775807)(h0:S.length<=12)(h1:1<=H.length)(h2:H.length<=4)(h:L.length≠H.length) :
  aI Pg 61 #[.agg #[.slice aS S.length cS,.slice aH H.length cH,.slice aF F.length cF,.slice aL L.length cL,.int .i64 je]] w fun e w'=>e=.returned (.int .i64 4)/\Below w.heap.size w w':=by
 have hb:((L.length:Int) != (H.length:Int))=true:=by rw[bne_iff_ne];omega
 go_enter lK,lJ
 go_wp2_with fail
 go_quiet (fail)
 go_wp2
 go_ret
 exact⟨rfl,(A7 _ _).trans ((G6 _ _).mono (by simp))⟩
set_option maxRecDepth 100000 in
theorem b4j(H F L:List Int)(je:Int)(aS aH aF aL:Option Addr)(cS cH cF cL:Nat)(w:Wq)(n1:S.length<=9223372036854775807)(n2:H.length<=9223372036854775807)(n3:L.length<=9223372036854775807)(h0:S.length<=12)(h1:1<=H.length)(h2:H.length<=4)(h3:L.length=H.length)(h:je<0) :
  aI Pg 61 #[.agg #[.slice aS S.length cS,.slice aH H.length cH,.slice aF F.length cF,.slice aL L.length cL,.int .i64 je]] w fun e w'=>e=.returned (.int .i64 3)/\Below w.heap.size w w':=by
 have hb:((L.length:Int) != (H.length:Int))=false:=by rw[h3];simp
 clear h3
 go_enter lK,lJ
 go_wp2_with fail
 go_quiet (fail)
 go_wp2
 go_ret
 exact⟨rfl,(A7 _ _).trans ((G6 _ _).mono (by simp))⟩
set_option maxRecDepth 100000 in
theorem b4k(H F L:List Int)(je:Int)(aS aH aF aL:Option Addr)(cS cH cF cL:Nat)(w:Wq)(n1:S.length<=9223372036854775807)(n2:H.length<=9223372036854775807)(n3:L.length<=9223372036854775807)(h0:S.length<=12)(h1:1<=H.length)(h2:H.length<=4)(h3:L.length=H.length)(h4:0<=je)(h:1000000<je) :
  aI Pg 61 #[.agg #[.slice aS S.length cS,.slice aH H.length cH,.slice aF F.length cF,.slice aL L.length cL,.int .i64 je]] w fun e w'=>e=.returned (.int .i64 3)/\Below w.heap.size w w':=by
 have hb:((L.length:Int) != (H.length:Int))=false:=by rw[h3];simp
 clear h3
 go_enter lK,lJ
 go_wp2_with fail
 go_quiet (fail)
 go_wp2
 go_ret
 exact⟨rfl,(A7 _ _).trans ((G6 _ _).mono (by simp))⟩
theorem Qz{x lo hi:Int}(h:x<lo):inB x lo hi=false:=by
 rw[lM];intro hh;rw[Ar] at hh;omega
theorem Rf{x lo hi:Int}(h:hi<x):inB x lo hi=false:=by
 rw[lM];intro hh;rw[Ar] at hh;omega
theorem Oi{x lo hi:Int}(h0:lo<=x)(h1:x<=hi):inB x lo hi=true:=(Ar _ _ _).2 ⟨h0,h1⟩
set_option maxRecDepth 100000 in
theorem b4i(H F L:List Int)(je:Int)(aS aH aF aL:Option Addr)(cS cH cF cL:Nat)(w:Wq)(A:At w aS aH aF aL cS cH cF cL ⟨S,H,F,L,je⟩)(h0:S.length<=12)(h1:1<=H.length)(h2:H.length<=4)(h3:L.length=H.length)(h4:0<=je)(h5:je<=1000000) :
  aI Pg 61 #[.agg #[.slice aS S.length cS,.slice aH H.length cH,.slice aF F.length cF,.slice aL L.length cL,.int .i64 je]] w fun e w'=>e=.returned (.int .i64 (chk ⟨S,H,F,L,je⟩))/\Below w.heap.size w w':=by
 obtain⟨Z,hZ⟩:∃ Z:Int,Z=chk ⟨S,H,F,L,je⟩:=⟨_,rfl⟩
 have HC:Qi (Z=(if Ap (D8 H.length S.length) S≠0 then Ap (D8 H.length S.length) S
   else if Ap (Cj H.length S.length) (H.zip L)≠0 then Ap (Cj H.length S.length) (H.zip L)
   else if Bo S [] F≠0 then Bo S [] F
   else Cc F 0 S)):=by
  show _=_
  rw[hZ]
  unfold chk
  dsimp only
  rw[ae (by omega),ae (by simpa using h3),ae (by rw[Oi h4 h5];simp)]
 rw[<- hZ]
 clear hZ
 have RV:Qi _:=A.s
 have HRH:Qi _:=A.h
 have HRF:Qi _:=A.f
 have HRL:Qi _:=A.l
 have m3:=A.f.max
 have n3:F.length<=9223372036854775807:=by dsimp only at m3;omega
 clear m3
 have hb:((L.length:Int) != (H.length:Int))=false:=by rw[h3];simp
 have HLH:Qi (L.length=H.length):=h3
 clear A h3
 obtain⟨f,hf⟩:∃ f,f=D8 H.length S.length:=⟨_,rfl⟩
 have HF:Qi (f=D8 H.length S.length):=hf
 clear hf
 go_enter lK,lJ
 go_wp2_with fail
 go_quiet (fail)
 go_wp2
 go_loopw [46] (fun i wr=>∃ k:Nat,k<=S.length/\i=.int .i64 k/\Below (w.heap.size+1) (w.alloc (.cells #[.slice aS S.length cS,.slice aH H.length cH,.slice aF F.length cF,.slice aL L.length cL,.int .i64 je] 25)) wr/\Qi (Ap f S=Ap f (S.drop k)))
  (fun i _=>S.length - (lN i).toNat)
 case atStart=>exact⟨0,aG _,rfl,(G6 _ _).mono (by simp),by show _=_;rw[kP]⟩
 case round =>
  obtain⟨k,hk,rfl,bu,HE⟩:=hrel
  have jd:Below w.heap.size w wr:=(A7 w _).trans (bu.mono (by omega))
  obtain⟨q0,q1,q2,q3,q4,q5⟩:=En bu
  have q6:w.heap.size<wr.heap.size:=q5
  by_cases gm:k<S.length
  ·rcases RV.o.at_ with OY|⟨b,o,rfl,hc⟩
   ·omega
   obtain⟨c0,c1,c2,c3,c4,c5⟩:=hc k gm
   have lt:=cell_lt c0
   rw[<- (Ce jd).1 _ _ lt] at c0 c1 c2 c3 c4 c5
   clear hc
   generalize hs:S[k]=s at c0 c1 c2 c3 c4 c5
   obtain⟨r,a,bb,u,i,nx⟩:=s
   dsimp only at c0 c1 c2 c3 c4 c5
   have HS:Qi (S[k]=⟨r,a,bb,u,i,nx⟩):=hs
   clear hs
   have qW:=jd.alloc jd.size (.cells #[.int .i64 r,.int .i64 a,.int .i64 bb,.int .i64 u,.bool i,.int .i64 nx] 64)
   have vG:=bu.alloc q5 (.cells #[.int .i64 r,.int .i64 a,.int .i64 bb,.int .i64 u,.bool i,.int .i64 nx] 64)
   have MP:∀ e:Int,e≠0->D8 H.length S.length ⟨r,a,bb,u,i,nx⟩=e->Z=e:=fun e he hh=>by
    have h1:Ap f S=e:=Io gm (by rw[HS.o,HF.o];exact hh) he HE.o
    rw[HF.o] at h1
    rw[HC.o,h1,af he]
   have vg:Qi _:=MP
   clear MP
   by_cases g1:r<0
   ·have HV:Qi (Z=3):=vg.o 3 (by first|decide|exact Ex.ne _ _ (by decide)) (by simp[D8,Qz g1])
    go_wp2
    go_ret
    exact⟨Bf HV.o.symm,qW⟩
   have RG:0<=r:=by omega
   by_cases g2:1000<r
   ·have HV:Qi (Z=3):=vg.o 3 (by first|decide|exact Ex.ne _ _ (by decide)) (by simp[D8,Rf g2])
    go_wp2
    go_ret
    exact⟨Bf HV.o.symm,qW⟩
   have MN:r<=1000:=by omega
   by_cases g3:u<0
   ·have HV:Qi (Z=3):=vg.o 3 (by first|decide|exact Ex.ne _ _ (by decide)) (by simp[D8,Qz g3])
    go_wp2
    go_ret
    exact⟨Bf HV.o.symm,qW⟩
   have JP:0<=u:=by omega
   by_cases g4:2000000<u
   ·have HV:Qi (Z=3):=vg.o 3 (by first|decide|exact Ex.ne _ _ (by decide)) (by simp[D8,Rf g4])
    go_wp2
    go_ret
    exact⟨Bf HV.o.symm,qW⟩
   have VO:u<=2000000:=by omega
   go_wp2_with fail
   refine(Ug a bb _).mono ?_
   rintro e w1 ⟨rfl,dm⟩
   have BK:=qW.trans (dm.mono (by have:=jd.size;simp;omega))
   have hby2:=vG.trans (dm.mono (by simp;omega))
   have s5:w1.cell? ⟨wr.heap.size,5,none⟩=some (.int .i64 nx):=((Ce dm).1 _ _ (by simp)).trans (by simp)
   clear dm qW vG c0 c1 c2 c3 c4 c5 q0 q1 q2 q3 q4
   cases g5:Ei a bb
   ·have HV:Qi (Z=3):=vg.o 3 (by first|decide|exact Ex.ne _ _ (by decide)) (by simp[D8,g5])
    go_wp2
    go_ret
    exact⟨Bf HV.o.symm,BK⟩
   by_cases g6:(S.length:Int)<nx
   ·have HV:Qi (Z=5):=vg.o 5 (by first|decide|exact Ex.ne _ _ (by decide)) (by simp[D8,Oi RG MN,Oi JP VO,g5,Rf g6])
    go_wp2
    go_ret
    exact⟨Bf HV.o.symm,BK⟩
   have g6':nx<=(S.length:Int):=by omega
   by_cases g7:nx < -(H.length:Int)
   ·have HV:Qi (Z=5):=vg.o 5 (by first|decide|exact Ex.ne _ _ (by decide)) (by simp[D8,Oi RG MN,Oi JP VO,g5,Qz g7])
    go_wp2
    go_ret
    exact⟨Bf HV.o.symm,BK⟩
   have g7':-(H.length:Int)<=nx:=by omega
   have HV:Qi (Ap f S=Ap f (S.drop (k+1))):=step_ok gm (by rw[HS.o,HF.o];simp[D8,Oi RG MN,Oi JP VO,g5,Oi g7' g6']) HE.o
   go_wp2
   go_roundw
   case rel=>exact⟨k+1,by omega,by go_num,hby2,HV⟩
   case measure=>simp[lN];omega
  ·have sO:Qi (Z=(if Ap (Cj H.length S.length) (H.zip L)≠0 then Ap (Cj H.length S.length) (H.zip L)
     else if Bo S [] F≠0 then Bo S [] F
     else Cc F 0 S)):=by
    show _=_
    have h1:Ap f S=0:=by rw[HE.o,Iz f S k (by omega)]
    rw[HF.o] at h1
    rw[HC.o,h1,ae (by simp)]
   have XX:Qi (∀ j (hj:j<S.length),0<=S[j].refs):=fun j hj=>by
    have h1:Ap f S=0:=by rw[HE.o,Iz f S k (by omega)]
    have h2:=(Gv f S).1 h1 S[j] (bJ hj)
    rw[HF.o] at h2
    have:inB S[j].refs 0 1000=true:=by
     cases hh:inB S[j].refs 0 1000
     ·simp[D8,hh] at h2
     ·rfl
    exact((Ar _ _ _).1 this).1
   clear HC HE HF
   obtain⟨f,hf⟩:∃ f,f=Cj H.length S.length:=⟨_,rfl⟩
   have HF:Qi (f=Cj H.length S.length):=hf
   clear hf
   have HZL:Qi ((H.zip L).length=H.length):=by show _=_;rw[List.length_zip];have:=HLH.o;omega
   obtain⟨ZZ,hZZ⟩:∃ ZZ,ZZ=H.zip L:=⟨_,rfl⟩
   have RN:Qi (ZZ=H.zip L):=hZZ
   clear hZZ
   go_wp2
   go_loopw [87] (fun i wr=>∃ k:Nat,k<=H.length/\i=.int .i64 k/\Below (w.heap.size+1) (w.alloc (.cells #[.slice aS S.length cS,.slice aH H.length cH,.slice aF F.length cF,.slice aL L.length cL,.int .i64 je] 25)) wr/\Qi (Ap f ZZ=Ap f (ZZ.drop k)))
    (fun i _=>H.length - (lN i).toNat)
   case atStart=>exact⟨0,aG _,rfl,bu,by show _=_;rw[kP]⟩
   case round =>
    clear q0 q1 q2 q3 q4 q5 q6 jd bu
    obtain⟨k2,yt,rfl,bu,HE⟩:=hrel
    have jd:Below w.heap.size w wr:=(A7 w _).trans (bu.mono (by omega))
    obtain⟨q0,q1,q2,q3,q4,q5⟩:=En bu
    by_cases wI:k2<H.length
    ·have EN:k2<L.length:=by have:=HLH.o;omega
     have xy:k2<ZZ.length:=by have:=HZL.o;rw[RN.o];omega
     rcases HRH.o.at_ with OY|⟨b,o,rfl,hc⟩
     ·omega
     rcases HRL.o.at_ with OY|⟨b2,o2,rfl,zk⟩
     ·omega
     have c0:=hc k2 wI
     have d0:=zk k2 EN
     have lt:=cell_lt c0
     have lt2:=cell_lt d0
     rw[<- (Ce jd).1 _ _ lt] at c0
     rw[<- (Ce jd).1 _ _ lt2] at d0
     clear hc zk
     generalize hx:H[k2]=x at c0
     generalize hy:L[k2]=y at d0
     have HS:Qi (ZZ[k2]=(x,y)):=by
      show _=_
      have e:ZZ[k2]?=some (x,y):=by rw[RN.o,List.getElem?_zip_eq_some];exact⟨by rw[List.getElem?_eq_getElem wI,hx],by rw[List.getElem?_eq_getElem EN,hy]⟩
      rw[List.getElem?_eq_getElem xy] at e
      exact Option.some.inj e
     clear hx hy
     have jl:(k2:Int)<(L.length:Int):=by omega
     have MP:∀ e:Int,e≠0->Cj H.length S.length (x,y)=e->Z=e:=fun e he hh=>by
      have h1:Ap f ZZ=e:=Io xy (by rw[HS.o,HF.o];exact hh) he HE.o
      rw[HF.o,RN.o] at h1
      rw[sO.o,h1,af he]
     have vg:Qi _:=MP
     clear MP
     by_cases g1:x=0
     ·have HV:Qi (Z=5):=vg.o 5 (by first|decide|exact Ex.ne _ _ (by decide)) (by simp[Cj,g1])
      subst g1
      go_wp2
      go_ret
      exact⟨Bf HV.o.symm,jd⟩
     have RG:(x==0)=false:=by simpa using g1
     by_cases g2:(S.length:Int)<x
     ·have HV:Qi (Z=5):=vg.o 5 (by first|decide|exact Ex.ne _ _ (by decide)) (by simp[Cj,Rf g2])
      go_wp2
      go_ret
      exact⟨Bf HV.o.symm,jd⟩
     have MN:x<=(S.length:Int):=by omega
     by_cases g3:x < -(H.length:Int)
     ·have HV:Qi (Z=5):=vg.o 5 (by first|decide|exact Ex.ne _ _ (by decide)) (by simp[Cj,Qz g3])
      go_wp2
      go_ret
      exact⟨Bf HV.o.symm,jd⟩
     have JP:-(H.length:Int)<=x:=by omega
     by_cases g4:y < -1
     ·have HV:Qi (Z=3):=vg.o 3 (by first|decide|exact Ex.ne _ _ (by decide)) (by simp[Cj,g1,Oi JP MN,Qz g4])
      go_wp2
      go_ret
      exact⟨Bf HV.o.symm,jd⟩
     have VO:-1<=y:=by omega
     by_cases g5:4<y
     ·have HV:Qi (Z=3):=vg.o 3 (by first|decide|exact Ex.ne _ _ (by decide)) (by simp[Cj,g1,Oi JP MN,Rf g5])
      go_wp2
      go_ret
      exact⟨Bf HV.o.symm,jd⟩
     have g5':y<=4:=by omega
     have HV:Qi (Ap f ZZ=Ap f (ZZ.drop (k2+1))):=step_ok xy (by rw[HS.o,HF.o];simp[Cj,g1,Oi JP MN,Oi VO g5']) HE.o
     go_wp2
     go_roundw
     case rel=>exact⟨k2+1,by omega,by go_num,bu,HV⟩
     case measure=>simp[lN];omega
    ·have wz:Qi (Z=(if Bo S [] F≠0 then Bo S [] F else Cc F 0 S)):=by
      show _=_
      have h1:Ap f ZZ=0:=by rw[HE.o,Iz f ZZ k2 (by have:=HZL.o;rw[RN.o];omega)]
      rw[HF.o,RN.o] at h1
      rw[sO.o,h1,ae (by simp)]
     clear sO HE HF HZL RN
     have yG:=@run_makeMap Pg
     have q6:w.heap.size<wr.heap.size:=q5
     go_wp2
     obtain⟨G,hG⟩:∃ G,G=wr.heap.size:=⟨_,rfl⟩
     rw[<- hG]
     have GZ:Qi (Hw (wr.alloc (.map #[] 0)) G []):=by rw[hG];exact Hw.made wr
     have dm:=bu.alloc q5 (.map #[] 0)
     have hGl:w.heap.size<G:=by rw[hG];exact q5
     clear hG yG q0 q1 q2 q3 q4 q5 jd bu
     go_loopw [127] (fun i wr=>∃ k:Nat,k<=F.length/\i=.int .i64 k/\Below (w.heap.size+1) (w.alloc (.cells #[.slice aS S.length cS,.slice aH H.length cH,.slice aF F.length cF,.slice aL L.length cL,.int .i64 je] 25)) wr/\Hw wr G (F.take k)/\Qi (Bo S [] F=Bo S (F.take k) (F.drop k)))
      (fun i _=>F.length - (lN i).toNat)
     case atStart=>exact⟨0,aG _,rfl,dm,GZ.o,by show _=_;rw[kP,gX]⟩
     case round =>
      obtain⟨k3,BC,rfl,bu,VH,HE⟩:=hrel
      clear GZ dm
      have GZ:Qi (Hw wr G (F.take k3)):=VH
      clear VH
      have jd:Below w.heap.size w wr:=(A7 w _).trans (bu.mono (by omega))
      obtain⟨q0,q1,q2,q3,q4,q5⟩:=En bu
      by_cases rU:k3<F.length
      ·rcases HRF.o.at_ with OY|⟨b,o,rfl,hc⟩
       ·omega
       have c0:=hc k3 rU
       have lt:=cell_lt c0
       rw[<- (Ce jd).1 _ _ lt] at c0
       clear hc
       generalize hx:F[k3]=x at c0
       have HX:Qi (F[k3]=x):=hx
       clear hx
       have VQ:Ha S x=false->Z=5:=fun hh=>by
        rw[wz.o,Qw rU (by rw[HX.o];exact hh) HE.o];rfl
       have yC:Qi _:=VQ
       clear VQ
       by_cases g1:x<0
       ·have HV:Qi (Z=5):=yC.o (Ue (Qz g1))
        go_wp2
        go_ret
        exact⟨Bf HV.o.symm,jd⟩
       have RG:0<=x:=by omega
       by_cases g2:(S.length:Int)<=x
       ·have HV:Qi (Z=5):=yC.o (Ue (Rf (by omega)))
        go_wp2
        go_ret
        exact⟨Bf HV.o.symm,jd⟩
       have MN:x<(S.length:Int):=by omega
       obtain⟨j,rfl⟩:∃ j:Nat,x=j:=⟨x.toNat,by omega⟩
       have hj:j<S.length:=by omega
       rcases RV.o.at_ with OY|⟨b2,o2,rfl,zk⟩
       ·omega
       have d0:=(zk j hj).1
       have lt2:=cell_lt d0
       rw[<- (Ce jd).1 _ _ lt2] at d0
       clear zk
       generalize hr:S[j].refs=r at d0
       have PQ:Qi (Ha S (j:Int)=decide (r=0)):=by
        show _=_
        rw[Yt hj rfl,hr]
       have HRP:Qi (0<=r):=by
        have:=XX.o j hj
        show 0<=r
        rw[<- hr];exact this
       clear hr
       by_cases g3:0<r
       ·have HV:Qi (Z=5):=yC.o (by rw[PQ.o];simp;omega)
        go_wp2
        go_ret
        exact⟨Bf HV.o.symm,jd⟩
       have JP:r=0:=by have:=HRP.o;have:0<=r:=this;omega
       subst JP
       have tJ:=GZ.o.look (x:=(j:Int)) (wf64 (by omega) (by omega))
       cases g4:hasB (F.take k3) (j:Int)
       ·rw[g4] at tJ
        have HV:Qi (Bo S [] F=Bo S (F.take (k3+1)) (F.drop (k3+1))):=Yp rU (by rw[HX.o,PQ.o];rfl) (by rw[HX.o];exact g4) HE.o
        obtain⟨nn,QJ,D,ho,jc⟩:=GZ.o
        have HO:Qi (wr.ownsMap Pg 3 (plainElem Pg 4) G nn D):=ho
        have wQ:Qi _:=jc
        clear ho jc
        have HNN:Qi (nn<=(F.take k3).length):=QJ
        have LV:nn<=k3:=by rw[jO] at QJ;omega
        clear QJ
        go_wp2_with (at_mapUpdate;(refine wpList_mapUpdate_own (H:=Unit) _ rfl _ _ _ 155 rfl 3 4 law3 a2l (plainElem Pg 4) G nn D rfl HO.o (by unfold gJ;omega) _ _ (.int .i64 (j:Int)) rfl rfl (keyOf_int_mk lD (wf64 (by omega) (by omega))) (.lit (.bool true)) [] (plainElem_bool underlying4 true) ?_;intro w9 IY hg9))
        go_roundw
        case rel=>exact⟨k3+1,by omega,by go_num,bu.grown hg9 q5 (fun k h=>by cases h;exact hGl),by rw[aV rU,HX.o];exact Hw.put HNN.o HO.o wQ.o IY,HV⟩
        case measure=>simp[lN];omega
       ·rw[g4] at tJ
        have HV:Qi (Z=6):=by
         show _=_
         rw[wz.o,X6 rU (by rw[HX.o,PQ.o];rfl) (by rw[HX.o];exact g4) HE.o];rfl
        go_wp2
        go_ret
        exact⟨Bf HV.o.symm,jd⟩
      ·have rG:Qi (Z=Cc F 0 S):=by
        show _=_
        rw[wz.o,HE.o,V4 S F k3 (by omega)];rfl
       have XA:Qi (Hw wr G F):=by
        have:=GZ.o
        rwa [List.take_of_length_le (by omega)] at this
       clear wz HE GZ
       go_wp2
       go_loopw [156] (fun i wr=>∃ k:Nat,k<=S.length/\i=.int .i64 k/\Below (w.heap.size+1) (w.alloc (.cells #[.slice aS S.length cS,.slice aH H.length cH,.slice aF F.length cF,.slice aL L.length cL,.int .i64 je] 25)) wr/\Hw wr G F/\Qi (Cc F 0 S=Cc F k (S.drop k)))
        (fun i _=>S.length - (lN i).toNat)
       case atStart=>exact⟨0,aG _,rfl,bu,XA.o,by show _=_;rw[kP]⟩
       case round =>
        clear q0 q1 q2 q3 q4 q5 jd bu XA
        obtain⟨k4,OB,rfl,bu,VH,HE⟩:=hrel
        have GZ:Qi (Hw wr G F):=VH
        clear VH
        have jd:Below w.heap.size w wr:=(A7 w _).trans (bu.mono (by omega))
        obtain⟨q0,q1,q2,q3,q4,q5⟩:=En bu
        by_cases JC:k4<S.length
        ·rcases RV.o.at_ with OY|⟨b,o,rfl,hc⟩
         ·omega
         obtain⟨c0,c1,c2,c3,c4,c5⟩:=hc k4 JC
         have lt:=cell_lt c0
         rw[<- (Ce jd).1 _ _ lt] at c0 c1 c2 c3 c4 c5
         clear hc
         generalize hs:S[k4]=s at c0 c1 c2 c3 c4 c5
         obtain⟨r,a,bb,u,i,nx⟩:=s
         dsimp only at c0 c1 c2 c3 c4 c5
         have HS:Qi (S[k4]=⟨r,a,bb,u,i,nx⟩):=hs
         clear hs
         have qW:=jd.alloc jd.size (.cells #[.int .i64 r,.int .i64 a,.int .i64 bb,.int .i64 u,.bool i,.int .i64 nx] 64)
         have vG:=bu.alloc q5 (.cells #[.int .i64 r,.int .i64 a,.int .i64 bb,.int .i64 u,.bool i,.int .i64 nx] 64)
         have PN:Qi (Hw (wr.alloc (.cells #[.int .i64 r,.int .i64 a,.int .i64 bb,.int .i64 u,.bool i,.int .i64 nx] 64)) G F):=GZ.o.kept (fU _ _ _ GZ.o.lt)
         have tJ:=PN.o.look (x:=(k4:Int)) (wf64 (by omega) (by omega))
         by_cases g1:r=0
         ·subst g1
          cases g2:hasB F (k4:Int)
          ·rw[g2] at tJ
           have HV:Qi (Z=4):=by
            show _=_
            rw[rG.o,Xi JC (by rw[HS.o]) g2 HE.o]
           go_wp2
           go_ret
           exact⟨Bf HV.o.symm,qW⟩
          ·rw[g2] at tJ
           have HV:Qi (Cc F 0 S=Cc F (k4+1) (S.drop (k4+1))):=Q5 JC (.inr g2) HE.o
           go_wp2
           go_roundw
           case rel=>exact⟨k4+1,by omega,by go_num,vG,PN.o,HV⟩
           case measure=>simp[lN];omega
         ·have RG:(r==0)=false:=by simpa using g1
          have HV:Qi (Cc F 0 S=Cc F (k4+1) (S.drop (k4+1))):=Q5 JC (.inl (by rw[HS.o];exact g1)) HE.o
          clear tJ
          go_wp2
          go_roundw
          case rel=>exact⟨k4+1,by omega,by go_num,vG,PN.o,HV⟩
          case measure=>simp[lN];omega
        ·have HV:Qi (Z=0):=by
          show _=_
          rw[rG.o,HE.o,V7 F S k4 (by omega)]
         go_wp2
         go_ret
         exact⟨Bf HV.o.symm,jd⟩
theorem Xp(w:Wq)(lo:Nat)(A:Ans lo w v M) :
  aI Pg 61 #[v] w fun e w'=>e=.returned (.int .i64 (chk M))/\Below w.heap.size w w':=by
 obtain⟨aS,aH,aF,aL,cS,cH,cF,cL,rfl,A,-⟩:=A
 obtain⟨S,H,F,L,je⟩:=M
 have m1:=A.s.max;have m2:=A.h.max;have m4:=A.l.max
 dsimp only at m1 m2 m4
 have n1:S.length<=9223372036854775807:=by omega
 have n2:H.length<=9223372036854775807:=by omega
 have n3:L.length<=9223372036854775807:=by omega
 by_cases h0:12<S.length
 ·have e:chk ⟨S,H,F,L,je⟩=2:=by unfold chk;dsimp only;rw[af (.inl h0)]
  rw[e];exact b1j S H F L je aS aH aF aL cS cH cF cL w n1 n2 n3 h0
 by_cases h1:H.length<1
 ·have e:chk ⟨S,H,F,L,je⟩=2:=by unfold chk;dsimp only;rw[af (.inr (.inl h1))]
  rw[e];exact b1k S H F L je aS aH aF aL cS cH cF cL w n1 n2 n3 (by omega) h1
 by_cases h2:4<H.length
 ·have e:chk ⟨S,H,F,L,je⟩=2:=by unfold chk;dsimp only;rw[af (.inr (.inr h2))]
  rw[e];exact b1l S H F L je aS aH aF aL cS cH cF cL w n1 n2 n3 (by omega) (by omega) h2
 by_cases h3:L.length=H.length
 rotate_left
 ·have e:chk ⟨S,H,F,L,je⟩=4:=by unfold chk;dsimp only;rw[ae (by omega),af h3]
  rw[e];exact b4h S H F L je aS aH aF aL cS cH cF cL w n1 n2 n3 (by omega) (by omega) (by omega) h3
 by_cases h4:je<0
 ·have e:chk ⟨S,H,F,L,je⟩=3:=by unfold chk;dsimp only;rw[ae (by omega),ae (by simpa using h3),af (Qz h4)]
  rw[e];exact b4j S H F L je aS aH aF aL cS cH cF cL w n1 n2 n3 (by omega) (by omega) (by omega) h3 h4
 by_cases h5:1000000<je
 ·have e:chk ⟨S,H,F,L,je⟩=3:=by unfold chk;dsimp only;rw[ae (by omega),ae (by simpa using h3),af (Rf h5)]
  rw[e];exact b4k S H F L je aS aH aF aL cS cH cF cL w n1 n2 n3 (by omega) (by omega) (by omega) h3 (by omega) h5
 exact b4i S H F L je aS aH aF aL cS cH cF cL w A (by omega) (by omega) (by omega) h3 (by omega) (by omega)
end
section
open ChangeShapes WideShapes ChangeAt RowKit Joins
theorem b3n:Hi4 0 aS aH aF aL:=⟨fun _ _=>aG _,fun _ _=>aG _,fun _ _=>aG _,fun _ _=>aG _⟩
theorem a1x(l:List (Tk × TkV))(aS aH aF aL:Option Addr)(cS cH cF cL:Nat)(aT:Option Addr)(cT:Nat)(w:Wq)(A:At w aS aH aF aL cS cH cF cL M)(r:Gl w aT cT l) :
  aI Pg 17 #[.agg #[Y aS M.s.length cS,Y aH M.h.length cH,Y aF M.f.length cF,Y aL M.l.length cL,O J M.w,Y aT l.length cT]] w fun e w'=>e=.returned (O J (wE ⟨M,l.map (·.1)⟩))/\Below w.heap.size w w':=by
 have m1:=A.s.max;have m2:=A.h.max;have m3:=r.max
 obtain⟨E0,lh⟩:∃ x,x=wE ⟨M,l.map (·.1)⟩:=⟨_,rfl⟩
 rw[<- lh]
 have lq:Qi (E0=wE ⟨M,l.map (·.1)⟩):=lh
 clear lh
 obtain⟨om,vM⟩:∃ o:Obj,o=.cells #[Y aS M.s.length cS,Y aH M.h.length cH,Y aF M.f.length cF,Y aL M.l.length cL,O J M.w,Y aT l.length cT] 28:=⟨_,rfl⟩
 have b0:Below w.heap.size w (w.alloc om):=A7 w om
 have tq:Qi ((w.alloc om).heap[w.heap.size]?=some om):=fP w om
 have ul:Qi (Ans 0 (w.alloc om) (.agg #[Y aS M.s.length cS,Y aH M.h.length cH,Y aF M.f.length cF,Y aL M.l.length cL,O J M.w]) M):=⟨aS,aH,aF,aL,cS,cH,cF,cL,rfl,A.below b0,b3n _ _ _ _⟩
 have xh:Qi (Gl (w.alloc om) aT cT l):=r.below b0
 clear A r
 go_enter func17,ntmps17
 go_wp2_with fail
 rw[<- vM]
 generalize w.alloc om=W0 at *
 refine(Xp M _ W0 0 ul.o).mono ?_
 rintro e w1 ⟨rfl,bu⟩
 have iy:Qi (w1.heap[w.heap.size]?=some om):=(bu.block _ (fC tq.o)).trans tq.o
 have ww:Qi (Gl w1 aT cT l):=xh.o.below bu
 have b1:Below w.heap.size w w1:=b0.trans (bu.mono b0.size)
 clear tq ul xh bu b0
 subst vM
 obtain⟨q0,q1,q2,q3,q4,q5,qs⟩:=Bh iy.o
 by_cases hC:chk M=0
 rotate_left
 ·have h':(chk M != 0)=true:=by simpa using hC
  have HV:Qi (E0=chk M):=lq.o.trans (b2q hC)
  generalize chk M=C at *
  go_wp2
  go_ret
  exact⟨by rw[HV.o];rfl,b1⟩
 have HC:Qi (chk M=0):=hC
 rw[hC]
 clear hC
 by_cases hn:l.length<1\/5<l.length
 ·have HV:Qi (E0=3):=lq.o.trans (a6a HC.o (by simpa using hn))
  by_cases h1:l.length<1
  ·have h1':(l.length:Int)<1:=by omega
   clear hn
   go_wp2
   go_ret
   exact⟨by rw[HV.o];rfl,b1⟩
  ·have h1':¬ (l.length:Int)<1:=by omega
   have h2':(l.length:Int) > 5:=by omega
   clear hn
   go_wp2
   go_ret
   exact⟨by rw[HV.o];rfl,b1⟩
 have rW:Qi (E0=Ap (fun p:Tk × TkV=>tkE M p.1) l):=lq.o.trans ((a5z HC.o (by show ¬ ((l.map (·.1)).length<1\/5<(l.map (·.1)).length);rw[kN];exact hn)).trans (Qx _ _ _))
 clear lq
 have rE:¬ (l.length:Int)<1:=by omega
 have yE:¬ (l.length:Int) > 5:=by omega
 have hn0:¬ l.length=0:=by omega
 clear hn
 obtain⟨f,hf⟩:∃ f:Tk × TkV->Int,f=fun p=>tkE M p.1:=⟨_,rfl⟩
 rw[<- hf] at rW
 have HF:Qi (f=fun p:Tk × TkV=>tkE M p.1):=hf
 clear hf
 obtain⟨b,o,rfl⟩:=ww.o.addr (by omega)
 go_wp2
 go_loopw [28] (fun i wr=>∃ k:Nat,k<=l.length/\i=O J k/\Qi (Below w1.heap.size w1 wr)/\Qi (E0=Ap f (l.drop k)))
  (fun i _=>l.length - (lN i).toNat)
 case atStart=>exact⟨0,aG _,rfl,dK _ _,by show _=_;rw[kP];exact rW.o⟩
 case round =>
  obtain⟨k,hk,rfl,xm,HE⟩:=hrel
  clear rW q0 q1 q2 q3 q4 q5 rE yE
  have bw:Below w.heap.size w wr:=b1.trans (xm.o.mono b1.size)
  by_cases gm:k<l.length
  ·have QA:Qi (wr.heap[w.heap.size]?=_):=(xm.o.block _ qs).trans iy.o
   have xg:Qi (Gl wr (some ⟨b,o,none⟩) cT l):=ww.o.below xm.o
   have GM:=xg.o.u _ (bJ gm)
   have JF:=(xg.o.t _ (bJ gm)).max
   have AV:=xg.o.range gm
   have gy:b<wr.heap.size:=cell_lt (xg.o.cells gm).1
   obtain⟨p,hp⟩:∃ p,p=l[k]:=⟨_,rfl⟩
   rw[<- hp] at AV GM JF
   have HP:Qi (l[k]=p):=hp.symm
   clear hp
   obtain⟨⟨bz,g,hd⟩,⟨aK,cK,aD,cD⟩⟩:=p
   dsimp only at GM JF AV
   have lT:Qi (wr.rangeAt b (o+k*16) (Tk.enc ⟨bz,g,hd⟩ ⟨aK,cK,aD,cD⟩)):=AV
   have HG:Qi (f l[k]=tkE M ⟨bz,g,hd⟩):=by show _=_;rw[HF.o,HP.o]
   obtain⟨ot,QH⟩:∃ ot:Obj,ot=.cells #[.bool bz,O J g.c.k,O J g.c.a,O J g.c.b,O J g.c.t,O J g.c.q,O J g.c.h,O J g.l,O J g.u,O J g.p,O J g.h,O J g.n,Y aK g.t.length cK,.bool g.d,O J g.e,Y aD hd.length cD] 49:=⟨_,rfl⟩
   have qY:Qi ((wr.alloc ot).heap[wr.heap.size]?=some ot):=fP wr ot
   have b2:Below w.heap.size w (wr.alloc ot):=bw.alloc bw.size _
   have SG:Qi (Dk (wr.alloc ot) aD cD hd):=GM.below (A7 wr ot)
   have DR:Qi (Below w1.heap.size w1 (wr.alloc ot)):=xm.o.alloc xm.o.size _
   have rJ:Qi ((wr.alloc ot).heap[w.heap.size]?=_):=(fU _ _ _ (fC QA.o)).trans QA.o
   have m4:=GM.max
   clear GM QA xg xm bw AV HP
   have DW:(wr.alloc ot).cell? ⟨wr.heap.size,15,none⟩=some (Y aD hd.length cD):=(dN (qY.o.trans (congrArg some QH)) _).trans rfl
   obtain⟨W2,tu⟩:∃ W2,W2=wr.alloc ot:=⟨_,rfl⟩
   rw[<- tu] at qY b2 SG DR rJ DW
   subst QH
   have uY:Qi (W2=wr.alloc (.cells #[.bool bz,O J g.c.k,O J g.c.a,O J g.c.b,O J g.c.t,O J g.c.q,O J g.c.h,O J g.l,O J g.u,O J g.p,O J g.h,O J g.n,Y aK g.t.length cK,.bool g.d,O J g.e,Y aD hd.length cD] 49)):=tu
   clear tu
   by_cases hh:100<hd.length
   ·have HV:Qi (E0=2):=Ou gm HG.o (by rw[Xx hh];decide) HE.o |>.trans (Xx hh)
    have QM:(hd.length:Int) > 100:=by omega
    go_wp2_with (first|(have h9:=lT.o;refine a2r rfl _ rfl rfl h9 ?_;clear h9 lT)|(rw[<- uY.o];clear uY))
    go_ret
    exact⟨by rw[HV.o];rfl,b2⟩
   have QM:¬ (hd.length:Int) > 100:=by omega
   go_wp2_with (first|(have h9:=lT.o;refine a2r rfl _ rfl rfl h9 ?_;clear h9 lT)|(rw[<- uY.o];clear uY))
   generalize wr.heap.size=X at *
   clear DW
   go_loopw [39] (fun i wr=>∃ j:Nat,j<=hd.length/\i=O J j/\Qi (Below W2.heap.size W2 wr)/\Qi (Ap (hdE M) hd=Ap (hdE M) (hd.drop j)))
    (fun i _=>hd.length - (lN i).toNat)
   case atStart=>exact⟨0,aG _,rfl,dK _ _,by show _=_;rw[kP]⟩
   case round =>
    obtain⟨j,hj,rfl,SL,HEi⟩:=hrel
    have tH:Qi (wr.heap[w.heap.size]?=_):=(SL.o.block _ (fC rJ.o)).trans rJ.o
    have uj:Qi (wr.heap[X]?=_):=(SL.o.block _ (fC qY.o)).trans qY.o
    have b3:Below w.heap.size w wr:=b2.trans (SL.o.mono b2.size)
    have XP:Qi (Below w1.heap.size w1 wr):=DR.o.trans (SL.o.mono DR.o.size)
    have HD3:Qi (Dk wr aD cD hd):=SG.o.below SL.o
    obtain⟨q0,q1,q2,q3,q4,q5,NF⟩:=Bh tH.o
    clear rJ qY DR b2 SG
    by_cases uC:j<hd.length
    ·rcases HD3.o.at_ with h0|⟨bd,od,rfl,hc⟩
     ·omega
     have c0:=hc j uC
     clear hc
     obtain⟨a,ha⟩:∃ a,a=hd[j]:=⟨_,rfl⟩
     rw[<- ha] at c0
     by_cases hs:Dp M a=true
     ·have HV:Qi (Ap (hdE M) hd=Ap (hdE M) (hd.drop (j+1))):=Vp uC (by unfold hdE;rw[<- ha,af hs]) HEi.o
      have h1:¬ a<0:=by have:=(Ez.1 hs).1;omega
      have h2:¬ a ≥ (M.s.length:Int):=by have:=(Ez.1 hs).2;omega
      clear hs ha
      go_wp2
      go_roundw
      case rel=>exact⟨j+1,by omega,by go_num,SL,HV⟩
      case measure=>simp[lN];omega
     ·have HV5:Qi (Ap (hdE M) hd=5):=Ou uC (by unfold hdE;rw[<- ha,ae hs]) (by decide) HEi.o
      have HV:Qi (E0=5):=(Ou gm HG.o (by rw[Xv hh HV5.o];decide) HE.o).trans (Xv hh HV5.o)
      have QG:a<0\/a ≥ (M.s.length:Int):=Classical.byContradiction fun h=>hs (Ez.2 ⟨by omega,by omega⟩)
      clear hs ha
      by_cases h1:a<0
      ·clear QG
       go_wp2
       go_ret
       exact⟨by rw[HV.o];rfl,b3⟩
      ·have h2:a ≥ (M.s.length:Int):=by omega
       clear QG
       go_wp2
       go_ret
       exact⟨by rw[HV.o];rfl,b3⟩
    ·have AO:Qi (Ap (hdE M) hd=0):=drop_end (by omega) HEi.o
     have lF:Qi (wr.rangeAt X 1 (g.enc aK cK)):=Aq uj.o rfl
     have l5:Qi (wr.rangeAt w.heap.size 0 [Y aS M.s.length cS,Y aH M.h.length cH,Y aF M.f.length cF,Y aL M.l.length cL,O J M.w]):=Aq tH.o rfl
     have t0:wr.cell? ⟨X,0,none⟩=some (.bool bz):=by rw[dN uj.o];rfl
     clear HEi tH uj HD3
     cases bz
     ·have HV:Qi (E0=Ap f (l.drop (k+1))):=Vp gm (HG.o.trans (a2i hh AO.o rfl)) HE.o
      clear lF l5 q0 q1 q2 q3 q4 q5
      go_wp2
      go_roundw
      case rel=>exact⟨k+1,by omega,by go_num,XP,HV⟩
      case measure=>simp[lN];omega
     ·have rM:Qi (f l[k]=frE M.s.length M.h.length g):=HG.o.trans (a2h hh AO.o rfl)
      clear q0 q1 q2 q3 q4 q5
      go_wp2_with (first|(have h9:=l5.o;refine a4z rfl _ rfl rfl h9 ?_;clear h9 l5)|(have h9:=lF.o;refine Xy rfl _ rfl rfl h9 ?_;clear h9 lF))
      refine(a0a aS aH aF aL M.s.length M.h.length M.f.length M.l.length cS cH cF cL M.w g aK cK _ (by omega) (by omega) (by omega)).mono ?_
      rintro e w4 ⟨rfl,qK⟩
      have b4:Below w.heap.size w w4:=b3.trans (qK.mono b3.size)
      have HL4:Qi (Below w1.heap.size w1 w4):=XP.o.trans (qK.mono XP.o.size)
      clear qK t0 HG
      generalize frE M.s.length M.h.length g=C0 at *
      by_cases hC:C0=0
      ·subst hC
       have HV:Qi (E0=Ap f (l.drop (k+1))):=Vp gm rM.o HE.o
       go_wp2
       go_roundw
       case rel=>exact⟨k+1,by omega,by go_num,HL4,HV⟩
       case measure=>simp[lN];omega
      ·have h':(C0 != 0)=true:=by simpa using hC
       have HV:Qi (E0=C0):=Ou gm rM.o hC HE.o
       go_wp2
       go_ret
       exact⟨by rw[HV.o];rfl,b4⟩
  ·have HV:Qi (E0=0):=drop_end (by omega) HE.o
   go_wp2
   go_ret
   exact⟨by rw[HV.o];rfl,bw⟩
end
section
open ChangeShapes WideShapes ChangeAt RowKit Joins
variable {Xb:Ex}
theorem a3x(w:Wq)(B gS gH nS nH j b cS cH:Nat)(fv lv nv:dU)(x nx:Int)
  (hB:w.heap[B]?=some (.cells (List.toArray (Y (some ⟨gS,0,none⟩) nS cS :: Y (some ⟨gH,0,none⟩) nH cH :: fv :: lv :: nv :: Xb.rs)) Xb.rt (0,0))) (hj:j<nS) (hb:b<nH) (hn:nS<=12) (hh:nH<=4)
  (c5:w.cell? ⟨gS,j*6+5,none⟩=some (O J nx)) (ch:w.cell? ⟨gH,b,none⟩=some (O J x)) (fh:w.frozen? ⟨gH,b,none⟩=false) :
  aI Pg 123 #[Ae B,O J 0,O J j,O J b] w fun e w'=>e=.returned (.tuple #[])/\w'=w.setCell ⟨gH,b,none⟩ (O J nx):=by
 unfold Ae
 obtain⟨q0,q1,q2,q3,q4,-,-,-,-,-,qs⟩:=Aj hB
 clear hB
 go_enter func123,ntmps123
 go_wp2
 exact bodyPost_ret (v:=.tuple #[]) (by simp[results,results123]) rfl ⟨rfl,rfl⟩
theorem b1m(w:Wq)(B gS gH nS nH j b p cS cH:Nat)(fv lv nv:dU)(nx px:Int)
  (hB:w.heap[B]?=some (.cells (List.toArray (Y (some ⟨gS,0,none⟩) nS cS :: Y (some ⟨gH,0,none⟩) nH cH :: fv :: lv :: nv :: Xb.rs)) Xb.rt (0,0))) (hj:j<nS) (hb:b<nH) (hn:nS<=12) (hh:nH<=4) (hp:p<nS)
  (c5:w.cell? ⟨gS,j*6+5,none⟩=some (O J nx)) (d5:w.cell? ⟨gS,p*6+5,none⟩=some (O J px)) (fz:w.frozen? ⟨gS,p*6+5,none⟩=false) :
  aI Pg 123 #[Ae B,O J ((p:Int)+1),O J j,O J b] w fun e w'=>e=.returned (.tuple #[])/\w'=w.setCell ⟨gS,p*6+5,none⟩ (O J nx):=by
 unfold Ae
 obtain⟨q0,q1,q2,q3,q4,-,-,-,-,-,qs⟩:=Aj hB
 clear hB
 have e0:((p:Int)+1==0)=false:=by rw[beq_eq_false_iff_ne];omega
 go_enter func123,ntmps123
 go_wp2
 go_end0
 exact⟨rfl,rfl⟩
theorem Z8{M:Mm}{w:Wq}{B lo:Nat}{Z:Nat->Prop}{j b:Nat}{ah:Int}(H:Has Xb w B lo Z M)(hM:Ok M)(hj:j<M.s.length)(hb:b<M.h.length)(ha0:0<=ah)(hah:ah<=M.s.length) :
  aI Pg 123 #[Ae B,O J ah,O J j,O J b] w fun e w'=>e=.returned (.tuple #[])/\Has Xb w' B lo (Up w Z) (Ir M b ah j)/\Fine w w' Z:=by
 unfold Ae
 obtain⟨aS,aH,aF,aL,cS,cH,cF,cL,m,hf⟩:=H
 obtain⟨gS,rfl,oS,lS,-,-⟩:=C9 m.c.s (by omega)
 obtain⟨gH,rfl,oH,lH,-,-⟩:=C9 m.c.h (by omega)
 obtain⟨c0,c1,c2,c3,c4,c5,fz⟩:=Du m.c.s hj
 obtain⟨ch,fh⟩:=Gf m.c.h hb
 have zS:Z gS\/w.heap.size<=gS:=.inl (hf gS (.inr (.inl ⟨_,rfl,rfl⟩)))
 have zH:Z gH\/w.heap.size<=gH:=.inl (hf gH (.inr (.inr (.inl ⟨_,rfl,rfl⟩))))
 have hs:Aa M j=M.s[j]:=Fj hj
 by_cases ha:0<ah
 ·obtain⟨p,rfl⟩:∃ p:Nat,ah=(p:Int)+1:=⟨(ah - 1).toNat,by omega⟩
  have hp:p<M.s.length:=by omega
  obtain⟨_,_,_,_,_,d5,_⟩:=Du m.c.s hp
  refine(b1m w B gS gH _ _ j b p cS cH _ _ _ _ _ m.box hj hb hM.ns hM.nh.2 hp c5 d5 (fz _)).mono ?_
  rintro e w' ⟨rfl,rfl⟩
  unfold Ir
  rw[af ha,hs,show (p:Int)+1 - 1=p by omega,show Aa M p=M.s[p] from Fj hp,Int.toNat_natCast]
  exact⟨rfl,⟨_,_,_,_,_,_,_,_,m.U2 _ _ _ (U9 M.s p hp _),fun k hk=>.inl (hf k hk)⟩,(Fine.refl w Z).set zS _ _⟩
 ·obtain rfl:ah=0:=by omega
  refine(a3x w B gS gH _ _ j b cS cH _ _ _ _ _ m.box hj hb hM.ns hM.nh.2 c5 ch fh).mono ?_
  rintro e w' ⟨rfl,rfl⟩
  unfold Ir
  rw[ae ha,hs]
  exact⟨rfl,⟨_,_,_,_,_,_,_,_,m.setH b _,fun k hk=>.inl (hf k hk)⟩,(Fine.refl w Z).set zH _ _⟩
end
section
open ChangeShapes WideShapes ChangeAt RowKit Joins Deep
theorem own:ownKnob Pg.godebug=none:=by kernel_rfl
theorem cells3:Pg.cellsOf 3=1:=by kernel_rfl
theorem cells4:Pg.cellsOf 4=1:=by kernel_rfl
theorem cells37:Pg.cellsOf 30=2:=by kernel_rfl
theorem cells48:Pg.cellsOf 64=6:=by kernel_rfl
theorem cells29:Pg.cellsOf 25=5:=by kernel_rfl
theorem cells24:Pg.cellsOf 23=1:=by kernel_rfl
theorem cells27:Pg.cellsOf 22=1:=by kernel_rfl
theorem bytes3:Pg.bytesOf 3=8:=by kernel_rfl
theorem b3f:Pg.bytesOf 64=48:=by kernel_rfl
variable {H:Type} {enc:TypeId × dU->H} {w:Wq}
theorem Oc{x:kJ H × List kG}(ht:P.underlying t=some (.struct #[f0,f1,f2,f3,f4]))(h:kV enc P w base iq kw qR t cs=some x) :
  ∃ y0 y1 y2 y3 y4 n,x.1=.agg [y0.1,y1.1,y2.1,y3.1,y4.1]/\cs.length=P.cellsOf t/\kV enc P w base iq kw n f0.type ((cs.drop f0.offset).take (P.cellsOf f0.type))=some y0 /\
   kV enc P w base iq kw n f1.type ((cs.drop f1.offset).take (P.cellsOf f1.type))=some y1/\kV enc P w base iq kw n f2.type ((cs.drop f2.offset).take (P.cellsOf f2.type))=some y2 /\
   kV enc P w base iq kw n f3.type ((cs.drop f3.offset).take (P.cellsOf f3.type))=some y3/\kV enc P w base iq kw n f4.type ((cs.drop f4.offset).take (P.cellsOf f4.type))=some y4:=by
 obtain⟨xs,n,_,rfl,hl,jb,hf⟩:=kZ ht h
 match xs,jb with
 | [y0,y1,y2,y3,y4],_=>exact⟨y0,y1,y2,y3,y4,n,by simp,hl,by simpa using hf 0 f0 rfl,by simpa using hf 1 f1 rfl,by simpa using hf 2 f2 rfl,by simpa using hf 3 f3 rfl,by simpa using hf 4 f4 rfl⟩
theorem six(h:cs.length=6):∃ c0 c1 c2 c3 c4 c5,cs=[c0,c1,c2,c3,c4,c5]:=by
 match cs,h with
 | [c0,c1,c2,c3,c4,c5],_=>exact⟨_,_,_,_,_,_,rfl⟩
theorem a7t{x:kJ H × List kG}(h:kV enc Pg w 0 (fun _=>true) true qR 64 cs=some x):∃ s:Sl,cs=s.enc:=by
 obtain⟨y0,y1,y2,y3,y4,n,_,hl,h0,h1,h2,h3,h4⟩:=Oc underlying64 h
 rw[cells48] at hl
 obtain⟨c0,c1,c2,c3,c4,c5,rfl⟩:=six hl
 simp only[cells3,cells4,cells37] at h0 h1 h2 h3 h4
 obtain⟨r,e0,_⟩:=kW lD h0
 obtain⟨z0,z1,m,_,_,k0,k1⟩:=trod_struct2 lI h1
 simp only[cells3] at k0 k1
 obtain⟨a,e1,_⟩:=kW lD k0
 obtain⟨b,e2,_⟩:=kW lD k1
 obtain⟨u,e3,_⟩:=kW lD h2
 obtain⟨i,e4,_⟩:=DataW.trod_bool underlying4 h3
 obtain⟨nx,e5,_⟩:=kW lD h4
 simp at e0 e1 e2 e3 e4 e5
 subst e0 e1 e2 e3 e4 e5
 exact⟨⟨r,a,b,u,i,nx⟩,rfl⟩
theorem Q7{x:kJ H × List kG}(h:kV enc Pg w 0 (fun _=>true) true qR 23 [c]=some x)(hz:∀ n∈x.1.weights Pg 23,n<=kE) :
  ∃ l ao bg,c=.slice ao l.length bg/\Dk w ao bg l:=by
 rcases open_ints fA lD cells3 h with ⟨e,-⟩|⟨a,len,bg,zs,e,hb,hl,hm,jb,hx,hc,hwf⟩
 ·simp at e
  exact⟨[],none,0,e,aG _,by decide,fun _=>rfl,.inl rfl⟩
 ·simp at e jb
  subst e
  have gm:(zs.take len).length=len:=by rw[jO];omega
  refine⟨zs.take len,some a,bg,by rw[gm],by omega,?_,(fun h=>by cases h),?_⟩
  ·rw[hx] at hz
   have:=hz ((len+(bg - len))*8) (by simp[kX,fA,bytes3,lits,jb];left;omega)
   unfold kE at this
   rw[gm]
   omega
  ·by_cases h0:len=0
   ·left;omega
   ·right
    obtain⟨b,off,xq⟩:=a
    have uJ:xq=none:=by simpa [lU] using World.cell?_spot (hc 0 (by omega))
    subst uJ
    refine⟨b,off,rfl,fun i hi=>?_⟩
    have:=hc i (by omega)
    rw[lQ] at this
    rw[this]
    have uN:i<zs.length:=by omega
    simp[List.getD_eq_getElem?_getD,uN]
theorem a7u{x:kJ H × List kG}(h:kV enc Pg w 0 (fun _=>true) true qR 22 [c]=some x)(hz:∀ n∈x.1.weights Pg 22,n<=kE) :
  ∃ l ao bg,c=.slice ao l.length bg/\Jf w ao bg l:=by
 rcases open_slice fB h with ⟨e,-⟩|⟨a,len,bg,m,n,D,Pl,e,hb,hl,hm,yG,hx,hc⟩
 ·simp at e
  exact⟨[],none,0,e,aG _,by decide,fun _=>rfl,.inl rfl⟩
 ·simp at e yG
  subst e yG
  rw[cells48] at hc
  obtain⟨S,hS⟩:=@choose_lt Sl ⟨sl0⟩ len (fun i s=>w.cells? 0 (a.add (i*6)) 6=some s.enc) (fun i hi=>by
   obtain⟨cs',h1,h2⟩:=hc i (by omega)
   obtain⟨s,rfl⟩:=a7t h2
   exact⟨s,h1⟩)
  have gm:((aU len).map S).length=len:=by simp
  refine⟨(aU len).map S,some a,m,by rw[gm],by omega,?_,(fun h=>by cases h),?_⟩
  ·rw[hx] at hz
   have:=hz ((len+(m - len))*48) (by simp[kX,fB,b3f])
   unfold kE at this
   rw[gm]
   omega
  ·by_cases h0:len=0
   ·left;omega
   ·right
    obtain⟨b,off,xq⟩:=a
    have uJ:xq=none:=by
     have:=(World.cells?_some (hS 0 (by omega))).2.2 0 (by omega)
     simpa [lU] using World.cell?_spot this
    subst uJ
    refine⟨b,off,rfl,fun i hi=>?_⟩
    have uN:i<len:=by simpa using hi
    have k:∀ q,q<6->w.cell? ⟨b,off+i*6+q,none⟩=((S i).enc)[q]?:=fun q hq=>by
     have:=(World.cells?_some (hS i uN)).2.2 q hq
     rwa [lQ,lQ] at this
    have e:((aU len).map S)[i]=S i:=by simp
    rw[e]
    exact⟨k 0 (by omega),k 1 (by omega),k 2 (by omega),k 3 (by omega),k 4 (by omega),k 5 (by omega)⟩
end
section
open ChangeShapes WideShapes ChangeAt RowKit Joins Deep
theorem Px:Pg.cellsOf 32=6:=by kernel_rfl
theorem Wi:Pg.cellsOf 47=14:=by kernel_rfl
theorem a0r:Pg.cellsOf 36=1:=by kernel_rfl
theorem Yf:Pg.cellsOf 45=1:=by kernel_rfl
theorem a9j:Pg.bytesOf 30=16:=by kernel_rfl
variable {H:Type} {enc:TypeId × dU->H} {w:Wq}
theorem Ul{x:kJ H × List kG}(h:kV enc Pg w 0 (fun _=>true) true qR 32 cs=some x) :
  ∃ c:Cl,cs=[.int .i64 c.k,.int .i64 c.a,.int .i64 c.b,.int .i64 c.t,.int .i64 c.q,.int .i64 c.h]:=by
 obtain⟨y0,y1,y2,y3,y4,n,_,hl,h0,h1,h2,h3,h4⟩:=Oc underlying32 h
 rw[Px] at hl
 obtain⟨c0,c1,c2,c3,c4,c5,rfl⟩:=six hl
 simp only[cells3,cells37] at h0 h1 h2 h3 h4
 obtain⟨r,e0,_⟩:=kW lD h0
 obtain⟨z0,z1,m,_,_,k0,k1⟩:=trod_struct2 lI h1
 simp only[cells3] at k0 k1
 obtain⟨a,e1,_⟩:=kW lD k0
 obtain⟨b,e2,_⟩:=kW lD k1
 obtain⟨u,e3,_⟩:=kW lD h2
 obtain⟨i,e4,_⟩:=kW lD h3
 obtain⟨nx,e5,_⟩:=kW lD h4
 simp at e0 e1 e2 e3 e4 e5
 subst e0 e1 e2 e3 e4 e5
 exact⟨⟨r,a,b,u,i,nx⟩,rfl⟩
theorem a0h{x:kJ H × List kG}(ht:P.underlying t=some (.struct #[f0,f1,f2,f3,f4,f5,f6,f7,f8]))(h:kV enc P w base iq kw qR t cs=some x) :
  ∃ y0 y1 y2 y3 y4 y5 y6 y7 y8 n,x.1=.agg [y0.1,y1.1,y2.1,y3.1,y4.1,y5.1,y6.1,y7.1,y8.1]/\cs.length=P.cellsOf t/\kV enc P w base iq kw n f0.type ((cs.drop f0.offset).take (P.cellsOf f0.type))=some y0 /\
   kV enc P w base iq kw n f1.type ((cs.drop f1.offset).take (P.cellsOf f1.type))=some y1/\kV enc P w base iq kw n f2.type ((cs.drop f2.offset).take (P.cellsOf f2.type))=some y2 /\
   kV enc P w base iq kw n f3.type ((cs.drop f3.offset).take (P.cellsOf f3.type))=some y3/\kV enc P w base iq kw n f4.type ((cs.drop f4.offset).take (P.cellsOf f4.type))=some y4 /\
   kV enc P w base iq kw n f5.type ((cs.drop f5.offset).take (P.cellsOf f5.type))=some y5/\kV enc P w base iq kw n f6.type ((cs.drop f6.offset).take (P.cellsOf f6.type))=some y6 /\
   kV enc P w base iq kw n f7.type ((cs.drop f7.offset).take (P.cellsOf f7.type))=some y7/\kV enc P w base iq kw n f8.type ((cs.drop f8.offset).take (P.cellsOf f8.type))=some y8:=by
 obtain⟨xs,n,_,rfl,hl,jb,hf⟩:=kZ ht h
 match xs,jb with
 | [y0,y1,y2,y3,y4,y5,y6,y7,y8],_=>exact⟨y0,y1,y2,y3,y4,y5,y6,y7,y8,n,by simp,hl,by simpa using hf 0 f0 rfl,by simpa using hf 1 f1 rfl,by simpa using hf 2 f2 rfl,by simpa using hf 3 f3 rfl,by simpa using hf 4 f4 rfl,by simpa using hf 5 f5 rfl,by simpa using hf 6 f6 rfl,by simpa using hf 7 f7 rfl,by simpa using hf 8 f8 rfl⟩
theorem a7q{x:kJ H × List kG}(h:kV enc Pg w 0 (fun _=>true) true qR 30 cs=some x):∃ p:Int × Int,cs=[.int .i64 p.1,.int .i64 p.2]:=by
 obtain⟨z0,z1,m,_,hl,k0,k1⟩:=trod_struct2 lI h
 rw[cells37] at hl
 match cs,hl with
 | [c0,c1],_ =>
  simp only[cells3] at k0 k1
  obtain⟨a,e1,_⟩:=kW lD k0
  obtain⟨b,e2,_⟩:=kW lD k1
  simp at e1 e2
  subst e1 e2
  exact⟨(a,b),rfl⟩
theorem Yz{x:kJ H × List kG}(h:kV enc Pg w 0 (fun _=>true) true qR 45 [c]=some x)(hz:∀ n∈x.1.weights Pg 45,n<=kE) :
  ∃ l ao bg,c=.slice ao l.length bg/\Az w ao bg l:=by
 rcases open_slice lG h with ⟨e,-⟩|⟨a,len,bg,m,n,D,Pl,e,hb,hl,hm,yG,hx,hc⟩
 ·simp at e
  exact⟨[],none,0,e,aG _,by decide,fun _=>rfl,.inl rfl⟩
 ·simp at e yG
  subst e yG
  rw[cells37] at hc
  obtain⟨S,hS⟩:=@choose_lt (Int × Int) ⟨(0,0)⟩ len (fun i s=>w.cells? 0 (a.add (i*2)) 2=some [.int .i64 s.1,.int .i64 s.2]) (fun i hi=>by
   obtain⟨cs',h1,h2⟩:=hc i (by omega)
   obtain⟨s,rfl⟩:=a7q h2
   exact⟨s,h1⟩)
  have gm:((aU len).map S).length=len:=by simp
  refine⟨(aU len).map S,some a,m,by rw[gm],by omega,?_,(fun h=>by cases h),?_⟩
  ·rw[hx] at hz
   have:=hz ((len+(m - len))*16) (by simp[kX,lG,a9j])
   unfold kE at this
   rw[gm]
   omega
  ·by_cases h0:len=0
   ·left;omega
   ·right
    obtain⟨b,off,xq⟩:=a
    have uJ:xq=none:=by
     have:=(World.cells?_some (hS 0 (by omega))).2.2 0 (by omega)
     simpa [lU] using World.cell?_spot this
    subst uJ
    refine⟨b,off,rfl,fun i hi=>?_⟩
    have uN:i<len:=by simpa using hi
    have k:∀ q,q<2->w.cell? ⟨b,off+i*2+q,none⟩=([.int .i64 (S i).1,.int .i64 (S i).2]:List dU)[q]?:=fun q hq=>by
     have:=(World.cells?_some (hS i uN)).2.2 q hq
     rwa [lQ,lQ] at this
    have e:((aU len).map S)[i]=S i:=by simp
    rw[e]
    exact⟨k 0 (by omega),k 1 (by omega)⟩
theorem fourteen(h:cs.length=14):∃ c0 c1 c2 c3 c4 c5 c6 c7 c8 c9 c10 c11 c12 c13,cs=[c0,c1,c2,c3,c4,c5,c6,c7,c8,c9,c10,c11,c12,c13]:=by
 match cs,h with
 | [c0,c1,c2,c3,c4,c5,c6,c7,c8,c9,c10,c11,c12,c13],_=>exact⟨_,_,_,_,_,_,_,_,_,_,_,_,_,_,rfl⟩
end
section
open ChangeShapes WideShapes ChangeAt RowKit Joins Maps
theorem Dy{w w':Wq}{v:dU}{K:Act->Wq->Prop}(hi:bn[i]?=some o)(hg:o.guard=none)(hr:(kD a.eval o).run P w=.ok (.value v) w')(h:K (a.put o.dst v) w'):wpOp P bn Q i K a w:=by
 refine wpOp_step hi fun K' hK=>?_
 have hw:iY o (yielded bn a.tmps)=true:=by unfold iY;rw[hg]
 rw[af hw]
 unfold Oper.wp
 rw[hr]
 exact hK _ _ h
theorem a5b{w w':Wq}{K:Act->Wq->Prop}(hi:bn[i]?=some o)(hg:o.guard=none)(hr:(kD a.eval o).run P w=.ok .skip w')(h:K (a.put o.dst Uz) w'):wpOp P bn Q i K a w:=by
 refine wpOp_step hi fun K' hK=>?_
 have hw:iY o (yielded bn a.tmps)=true:=by unfold iY;rw[hg]
 rw[af hw]
 unfold Oper.wp
 rw[hr]
 exact hK _ _ h
theorem Fx.start{M:Mm}{aS aH aF aL:Option Addr}{cS cH cF cL:Nat}{x:Nat->dU}(hB:W.heap[w0.heap.size]?=some (.cells #[Y aS M.s.length cS,Y aH M.h.length cH,Y aF M.f.length cF,Y aL M.l.length cL,O J M.w] 25 (0,0)))(hR:W.heap[w0.heap.size+1]?=some (.cells #[Y none 0 0,Y none 0 0,Y none 0 0,Y none 0 0,O J 0] 25 (0,0)))(hb:Below w0.heap.size w0 W):Fx w0 M aS aH aF aL cS cH cF cL (fun _=>false) x W :=
 ⟨hB,fun _=>hR,(fun h=>by cases h),hb,(fun h=>by cases h),(fun h=>by cases h),(fun h=>by cases h),(fun h=>by cases h),(fun h=>by cases h),(fun h=>by cases h),(fun h=>by cases h),(fun h=>by cases h),(fun h=>by cases h),(fun h=>by cases h),(fun h=>by cases h),(fun h=>by cases h),(fun h=>by cases h),(fun h=>by cases h),(fun h=>by cases h),(fun h=>by cases h),(fun h=>by cases h),(fun h=>by cases h),(fun h=>by cases h),(fun h=>by cases h),(fun h=>by cases h),(fun h=>by cases h),(fun h=>by cases h),(fun h=>by cases h),(fun h=>by cases h),(fun h=>by cases h),(fun h=>by cases h),(fun h=>by cases h)⟩
theorem Gp{l:Array Bool}{i:Nat}(h:l.getD i true=false):l.getD i false=false:=by
 by_cases hi:i<l.size
 ·simpa [Array.getD_eq_getD_getElem?,hi] using h
 ·simp[Array.getD_eq_getD_getElem?,hi]
theorem Vy{md:Region.Mode}{bn:Array Oper}{ag:Array Bool}(hr:bZ md bn ag=[])(hs:ag.size=bn.size)
  (he:((aU bn.size).all fun i=>((bn[i]?).map fun o=>o.after.all fun e=>decide (e.on<i)).getD true)=true):∀ n i,i<n->i<bn.size->ag.getD i false=true
 | 0,i,h,_=>by omega
 | n+1,i,h,hi=>by
  cases hl:ag.getD i false with
  | true=>rfl
  | false =>
   exfalso
   have gm:ag.getD i true=false:=by
    simpa [Array.getD_eq_getD_getElem?,hs,hi] using hl
   have hm:i∈bZ md bn ag:=by
    unfold bZ
    rw[List.mem_filter]
    refine⟨by simpa using hi,?_⟩
    rw[gm]
    have h1:=iR.1 he i (by simpa using hi)
    have ho:bn[i]?=some bn[i]:=Array.getElem?_eq_getElem hi
    rw[ho] at h1 ⊢
    simp only[jD,jC] at h1 ⊢
    simp only[Bool.not_false,Bool.true_and]
    rw[Array.all_eq_true'] at h1 ⊢
    intro e hm
    have h2:=h1 e hm
    have h3:e.on<i:=by simpa using h2
    rw[Vy hr hs he n e.on (by omega) (by omega)]
    simp
   rw[hr] at hm
   cases hm
def Le(x:Nat->dU):Act:=⟨#[x 0,x 1,x 2,x 3,x 4,x 5,x 6,x 7,x 8,x 9,x 10,x 11,x 12,x 13,x 14,x 15,x 16,x 17,x 18,x 19,x 20,x 21],[]⟩
structure Jo(w0:Wq)(M:Mm)(aS aH aF aL:Option Addr)(cS cH cF cL:Nat)(ag:Array Bool)(x:Nat->dU)(W:Wq):Prop where
 n:ag.size=20
 x1:x 1=.pointer (some ⟨w0.heap.size,0,none⟩)
 x2:x 2=.pointer (some ⟨w0.heap.size+1,0,none⟩)
 f:Fx w0 M aS aH aF aL cS cH cF cL (fun i=>ag.getD i false) x W
theorem Jo.next{M:Mm}{aS aH aF aL:Option Addr}{cS cH cF cL:Nat}{ag:Array Bool}{x x':Nat->dU}{W W':Wq}(Jq:Jo w0 M aS aH aF aL cS cH cF cL ag x W)(i:Nat)(hi:i<20)(h1:x' 1=x 1)(h2:x' 2=x 2)(F:Fx w0 M aS aH aF aL cS cH cF cL (upd (fun k=>ag.getD k false) i) x' W'):Jo w0 M aS aH aF aL cS cH cF cL (ag.setIfInBounds i true) x' W':=by
 refine⟨by simpa using Jq.n,h1.trans Jq.x1,h2.trans Jq.x2,?_⟩
 have e:(fun k=>(ag.setIfInBounds i true).getD k false)=upd (fun k=>ag.getD k false) i:=by
  funext k
  have:=Jq.n
  by_cases hk:k=i
  ·subst hk
   simp[upd,Array.getD_eq_getD_getElem?,Jq.n,hi]
  ·have rO:¬ i=k:=fun e=>hk e.symm
   simp[upd,hk,Array.getD_eq_getD_getElem?,rO]
 rw[e]
 exact F
theorem Ry(base:Nat)(t e:TypeId)(i:TypeInfo)(z:dU)(size bytes:Nat)(ht:Pg.underlying t=some (.slice e))(hi:Pg.info? e=some i)(hz:i.zero=some z)(vk:i.size=size)(vG:i.bytes=bytes)(NK:z.cells.size=size)(qg:0<size)(s y:Nat)(o:Oper)(ho:o.op=.call { callee:=.builtin .append,args:=#[.tmp s,.tmp y],argTypes:=#[t,t] })(v:dU)(hs:(Le x).eval (.tmp s)=v)(jv:W.ownsRow base e size v 0 [])(ao:Option Addr)(m c:Nat)(jw:List dU)(hx:(Le x).eval (.tmp y)=Y ao m c)(hl:jw.length=m*size)(hn:ao=none->m=0/\c=0)(sQ:∀ ad,ao=some ad->∀ j u,jw[j]?=some u->W.cell? (ad.add j)=some u)(h1:∀ u∈jw,u.oneCell'=true)(RF:m<=gJ)(uz:m*bytes<=140737488355328)(vW:base<=W.heap.size) :
  ∃ v' W',(kD (Le x).eval o).run Pg W=.ok (.value v') W'/\W'.ownsRow base e size v' m jw/\W.grownBy W' v.ownBlock/\(v'.ownBlock=v.ownBlock\/v'.ownBlock=some W.heap.size):=by
 cases ao with
 | some ad =>
  obtain⟨v',w',hr,h2,h3,h4,h5⟩:=run_append_own_at (P:=Pg) W base t o.type e i z size bytes ht hi hz vk vG NK qg v 0 [] jv ad m c jw hl (sQ ad rfl) h1 (by omega) (by rw[dR];exact uz) vW
  rw[dR,List.nil_append] at h2
  refine⟨v',w',?_,h2,h3,h5⟩
  unfold kD
  simp only[ho,resolve,invoke,builtin,Sem.run_bind,Sem.run_pure,Result.andThen_ok,kT,bK,List.map_nil,hs,hx,hr]
 | none =>
  obtain⟨rfl,rfl⟩:=hn rfl
  have zf:jw=[]:=List.eq_nil_of_length_eq_zero (by rw[hl,Nat.zero_mul])
  subst zf
  have hr:=run_append_owned_none (P:=Pg) W base t o.type e i size ht hi v 0 [] jv
  refine⟨v,W,?_,jv,⟨rfl,rfl,rfl,aC _,fun _ _ _=>rfl⟩,.inl rfl⟩
  unfold kD
  simp only[ho,resolve,invoke,builtin,Sem.run_bind,Sem.run_pure,Result.andThen_ok,kT,bK,List.map_nil,hs,hx,hr]
theorem a3r(w:Wq)(A:At w aS aH aF aL cS cH cF cL M) :
  aI Pg 56 #[Cm aS aH aF aL cS cH cF cL M] w fun e w'=>∃ gS gH gF gL kS kH kF kL,
   e=.returned (.agg #[Y gS M.s.length kS,Y gH M.h.length kH,Y gF M.f.length kF,Y gL M.l.length kL,O J M.w]) /\
   Rw w' w.heap.size gS gH gF gL kS kH kF kL M/\Below w.heap.size w w':=by
 unfold Cm
 obtain⟨TP,UQ,DZ,DY,DX⟩:=gG iI
 obtain⟨iS0,hiS,hzS0,hzS1,hzS2⟩:=gG iS
 have m1:=A.s.max;have m2:=A.h.max;have m3:=A.f.max;have m4:=A.l.max
 have HA:Qi (At w aS aH aF aL cS cH cF cL M):=A
 clear A
 have b0:Below w.heap.size w ((w.alloc (.cells #[Y aS M.s.length cS,Y aH M.h.length cH,Y aF M.f.length cF,Y aL M.l.length cL,O J M.w] 25)).alloc (.cells #[Y none 0 0,Y none 0 0,Y none 0 0,Y none 0 0,O J 0] 25)):=below_alloc2 w _ _
 have tq:Qi (((w.alloc (.cells #[Y aS M.s.length cS,Y aH M.h.length cH,Y aF M.f.length cF,Y aL M.l.length cL,O J M.w] 25)).alloc (.cells #[Y none 0 0,Y none 0 0,Y none 0 0,Y none 0 0,O J 0] 25)).heap[w.heap.size]?=some (.cells #[Y aS M.s.length cS,Y aH M.h.length cH,Y aF M.f.length cF,Y aL M.l.length cL,O J M.w] 25 (0,0))):=by
  show _=_
  rw[fU _ _ _ (by simp),fP]
 have xh:Qi (((w.alloc (.cells #[Y aS M.s.length cS,Y aH M.h.length cH,Y aF M.f.length cF,Y aL M.l.length cL,O J M.w] 25)).alloc (.cells #[Y none 0 0,Y none 0 0,Y none 0 0,Y none 0 0,O J 0] 25)).heap[w.heap.size+1]?=some (.cells #[Y none 0 0,Y none 0 0,Y none 0 0,Y none 0 0,O J 0] 25 (0,0))):=by
  have:=fP (w.alloc (.cells #[Y aS M.s.length cS,Y aH M.h.length cH,Y aF M.f.length cF,Y aL M.l.length cL,O J M.w] 25)) (.cells #[Y none 0 0,Y none 0 0,Y none 0 0,Y none 0 0,O J 0] 25)
  rwa [show (w.alloc (.cells #[Y aS M.s.length cS,Y aH M.h.length cH,Y aF M.f.length cF,Y aL M.l.length cL,O J M.w] 25)).heap.size=w.heap.size+1 by simp] at this
 go_enter func56,ntmps56
 go_wp2_with fail
 rename_i K0 qO
 refine Gi (by kernel_rfl) (fun ag a W=>∃ x,a=Le x/\Jo w M aS aH aF aL cS cH cF cL ag x W) ?_ ?_ ?_
 ·refine⟨fun k=>match k with|0=>.agg #[Y aS M.s.length cS,Y aH M.h.length cH,Y aF M.f.length cF,Y aL M.l.length cL,O J M.w] | 1=>.pointer (some ⟨w.heap.size,0,none⟩)|2=>.pointer (some ⟨w.heap.size+1,0,none⟩)|_=>Uz,rfl,by simp,rfl,rfl,?_⟩
  have e:(fun i=>(jG 20 false).getD i false)=fun _=>false:=by
   funext i
   by_cases h:i<20 <;> simp[Array.getD_eq_getD_getElem?,h]
  show Fx w M aS aH aF aL cS cH cF cL (fun i=>(jG 20 false).getD i false) _ _
  rw[e]
  exact Fx.start tq.o xh.o b0.drew
 ·rintro ag a W i hi ⟨x,rfl,hJ⟩
  obtain⟨CP,x9,o,ho,az⟩:=Fb hi
  clear hi
  have hi1':i<20:=CP
  clear CP
  have hA:=HA.o.below hJ.f.below
  obtain⟨q0,q1,q2,q3,q4,-,-,-,-,-,qs⟩:=Aj hJ.f.box
  have FV:=hJ.x1
  have hlo:w.heap.size+2<=W.heap.size:=hJ.f.lt
  obtain rfl|rfl|rfl|rfl|rfl|rfl|rfl|rfl|rfl|rfl|rfl|rfl|rfl|rfl|rfl|rfl|rfl|rfl|rfl|rfl:i=0\/i=1\/i=2\/i=3\/i=4\/i=5\/i=6\/i=7\/i=8\/i=9\/i=10\/i=11\/i=12\/i=13\/i=14\/i=15\/i=16\/i=17\/i=18\/i=19:=by omega
  ·refine Dy rfl rfl (v:=Y (some ⟨W.heap.size,0,none⟩) 0 0) (w':=W.alloc (.cells #[] 64)) (by simp only[kD];simp[go_sem]) ⟨Gh x 3 _,rfl,hJ.next 0 (by omega) rfl rfl (hJ.f.b0 (Gp x9))⟩
  ·refine Dy rfl rfl (v:=.pointer (some ⟨w.heap.size,0,none⟩)) (w':=W) (by simp[kD,go_sem,(show (Le x).tmps[1]?.getD Uz=.pointer (some ⟨w.heap.size,0,none⟩) from FV)]) ⟨Gh x 4 _,rfl,hJ.next 1 (by omega) rfl rfl hJ.f.a1⟩
  ·have g1:ag.getD 1 false=true:=az ⟨1,.data⟩ (by simp at ho;subst ho;simp) rfl
   have IM:=hJ.f.p1 g1
   refine Dy rfl rfl (v:=Y aS M.s.length cS) (w':=W) (by simp[kD,go_sem,(show (Le x).tmps[4]?.getD Uz=.pointer (some ⟨w.heap.size,0,none⟩) from IM),q0]) ⟨Gh x 5 _,rfl,hJ.next 2 (by omega) rfl rfl hJ.f.a2⟩
  ·have qU:o.op=.call { callee:=.builtin .append,args:=#[.tmp 3,.tmp 5],argTypes:=#[22,22] }:=by simp at ho;subst ho;rfl
   have zi:o.dst=some 6:=by simp at ho;subst ho;rfl
   have rY:o.guard=none:=by simp at ho;subst ho;rfl
   have g0:ag.getD 0 false=true:=az ⟨0,.data⟩ (by simp at ho;subst ho;simp) rfl
   have g2:ag.getD 2 false=true:=az ⟨2,.data⟩ (by simp at ho;subst ho;simp) rfl
   have hs:=hJ.f.r0 g0 (Gp x9)
   have hy:=hJ.f.p2 g2
   obtain⟨v',W',hr,h2,h3,h5⟩:=Ry (W:=W) x (w.heap.size+2) 22 64 iS0 (.agg #[O J 0,O J 0,O J 0,O J 0,.bool false,O J 0]) 6 48 fB hiS hzS0 hzS1 hzS2 rfl (by first|decide|exact Ex.ne _ _ (by decide)) 3 5 o qU (x 3) rfl hs aS M.s.length cS (encS M.s) hy (Ie _) (fun h=>⟨by have:=hA.s.nil h;have:=hA.s.le;omega,hA.s.nil h⟩) hA.s.src (a0w _) (by unfold gJ;omega) (by omega) hlo
   exact Dy ho rY hr ⟨Gh x 6 v',by rw[zi];rfl,hJ.next 3 (by omega) rfl rfl (hJ.f.c3 g0 (Gp x9) h2 h3 h5)⟩
  ·refine Dy rfl rfl (v:=Y (some ⟨W.heap.size,0,none⟩) 0 0) (w':=W.alloc (.cells #[] 3)) (by simp only[kD];simp[go_sem]) ⟨Gh x 7 _,rfl,hJ.next 4 (by omega) rfl rfl (hJ.f.b4 (Gp x9))⟩
  ·refine Dy rfl rfl (v:=.pointer (some ⟨w.heap.size,1,none⟩)) (w':=W) (by simp[kD,go_sem,(show (Le x).tmps[1]?.getD Uz=.pointer (some ⟨w.heap.size,0,none⟩) from FV)]) ⟨Gh x 8 _,rfl,hJ.next 5 (by omega) rfl rfl hJ.f.a5⟩
  ·have g5:ag.getD 5 false=true:=az ⟨5,.data⟩ (by simp at ho;subst ho;simp) rfl
   have IM:=hJ.f.p5 g5
   refine Dy rfl rfl (v:=Y aH M.h.length cH) (w':=W) (by simp[kD,go_sem,(show (Le x).tmps[8]?.getD Uz=.pointer (some ⟨w.heap.size,1,none⟩) from IM),q1]) ⟨Gh x 9 _,rfl,hJ.next 6 (by omega) rfl rfl hJ.f.a6⟩
  ·have qU:o.op=.call { callee:=.builtin .append,args:=#[.tmp 7,.tmp 9],argTypes:=#[23,23] }:=by simp at ho;subst ho;rfl
   have zi:o.dst=some 10:=by simp at ho;subst ho;rfl
   have rY:o.guard=none:=by simp at ho;subst ho;rfl
   have g4:ag.getD 4 false=true:=az ⟨4,.data⟩ (by simp at ho;subst ho;simp) rfl
   have g6:ag.getD 6 false=true:=az ⟨6,.data⟩ (by simp at ho;subst ho;simp) rfl
   have hs:=hJ.f.r4 g4 (Gp x9)
   have hy:=hJ.f.p6 g6
   obtain⟨v',W',hr,h2,h3,h5⟩:=Ry (W:=W) x (w.heap.size+2) 23 3 TP (O J 0) 1 8 fA UQ DZ DY DX rfl (by first|decide|exact Ex.ne _ _ (by decide)) 7 9 o qU (x 7) rfl hs aH M.h.length cH (encI M.h) hy ((Dz _).trans (kM _).symm) (fun h=>⟨by have:=hA.h.nil h;have:=hA.h.le;omega,hA.h.nil h⟩) hA.h.src (Hg _) (by unfold gJ;omega) (by omega) hlo
   exact Dy ho rY hr ⟨Gh x 10 v',by rw[zi];rfl,hJ.next 7 (by omega) rfl rfl (hJ.f.c7 g4 (Gp x9) h2 h3 h5)⟩
  ·refine Dy rfl rfl (v:=Y (some ⟨W.heap.size,0,none⟩) 0 0) (w':=W.alloc (.cells #[] 3)) (by simp only[kD];simp[go_sem]) ⟨Gh x 11 _,rfl,hJ.next 8 (by omega) rfl rfl (hJ.f.b8 (Gp x9))⟩
  ·refine Dy rfl rfl (v:=.pointer (some ⟨w.heap.size,2,none⟩)) (w':=W) (by simp[kD,go_sem,(show (Le x).tmps[1]?.getD Uz=.pointer (some ⟨w.heap.size,0,none⟩) from FV)]) ⟨Gh x 12 _,rfl,hJ.next 9 (by omega) rfl rfl hJ.f.a9⟩
  ·have g9:ag.getD 9 false=true:=az ⟨9,.data⟩ (by simp at ho;subst ho;simp) rfl
   have IM:=hJ.f.p9 g9
   refine Dy rfl rfl (v:=Y aF M.f.length cF) (w':=W) (by simp[kD,go_sem,(show (Le x).tmps[12]?.getD Uz=.pointer (some ⟨w.heap.size,2,none⟩) from IM),q2]) ⟨Gh x 13 _,rfl,hJ.next 10 (by omega) rfl rfl hJ.f.a10⟩
  ·have qU:o.op=.call { callee:=.builtin .append,args:=#[.tmp 11,.tmp 13],argTypes:=#[23,23] }:=by simp at ho;subst ho;rfl
   have zi:o.dst=some 14:=by simp at ho;subst ho;rfl
   have rY:o.guard=none:=by simp at ho;subst ho;rfl
   have g8:ag.getD 8 false=true:=az ⟨8,.data⟩ (by simp at ho;subst ho;simp) rfl
   have qm:ag.getD 10 false=true:=az ⟨10,.data⟩ (by simp at ho;subst ho;simp) rfl
   have hs:=hJ.f.r8 g8 (Gp x9)
   have hy:=hJ.f.p10 qm
   obtain⟨v',W',hr,h2,h3,h5⟩:=Ry (W:=W) x (w.heap.size+2) 23 3 TP (O J 0) 1 8 fA UQ DZ DY DX rfl (by first|decide|exact Ex.ne _ _ (by decide)) 11 13 o qU (x 11) rfl hs aF M.f.length cF (encI M.f) hy ((Dz _).trans (kM _).symm) (fun h=>⟨by have:=hA.f.nil h;have:=hA.f.le;omega,hA.f.nil h⟩) hA.f.src (Hg _) (by unfold gJ;omega) (by omega) hlo
   exact Dy ho rY hr ⟨Gh x 14 v',by rw[zi];rfl,hJ.next 11 (by omega) rfl rfl (hJ.f.c11 g8 (Gp x9) h2 h3 h5)⟩
  ·refine Dy rfl rfl (v:=Y (some ⟨W.heap.size,0,none⟩) 0 0) (w':=W.alloc (.cells #[] 3)) (by simp only[kD];simp[go_sem]) ⟨Gh x 15 _,rfl,hJ.next 12 (by omega) rfl rfl (hJ.f.b12 (Gp x9))⟩
  ·refine Dy rfl rfl (v:=.pointer (some ⟨w.heap.size,3,none⟩)) (w':=W) (by simp[kD,go_sem,(show (Le x).tmps[1]?.getD Uz=.pointer (some ⟨w.heap.size,0,none⟩) from FV)]) ⟨Gh x 16 _,rfl,hJ.next 13 (by omega) rfl rfl hJ.f.a13⟩
  ·have qw:ag.getD 13 false=true:=az ⟨13,.data⟩ (by simp at ho;subst ho;simp) rfl
   have IM:=hJ.f.p13 qw
   refine Dy rfl rfl (v:=Y aL M.l.length cL) (w':=W) (by simp[kD,go_sem,(show (Le x).tmps[16]?.getD Uz=.pointer (some ⟨w.heap.size,3,none⟩) from IM),q3]) ⟨Gh x 17 _,rfl,hJ.next 14 (by omega) rfl rfl hJ.f.a14⟩
  ·have qU:o.op=.call { callee:=.builtin .append,args:=#[.tmp 15,.tmp 17],argTypes:=#[23,23] }:=by simp at ho;subst ho;rfl
   have zi:o.dst=some 18:=by simp at ho;subst ho;rfl
   have rY:o.guard=none:=by simp at ho;subst ho;rfl
   have qi:ag.getD 12 false=true:=az ⟨12,.data⟩ (by simp at ho;subst ho;simp) rfl
   have g14:ag.getD 14 false=true:=az ⟨14,.data⟩ (by simp at ho;subst ho;simp) rfl
   have hs:=hJ.f.r12 qi (Gp x9)
   have hy:=hJ.f.p14 g14
   obtain⟨v',W',hr,h2,h3,h5⟩:=Ry (W:=W) x (w.heap.size+2) 23 3 TP (O J 0) 1 8 fA UQ DZ DY DX rfl (by first|decide|exact Ex.ne _ _ (by decide)) 15 17 o qU (x 15) rfl hs aL M.l.length cL (encI M.l) hy ((Dz _).trans (kM _).symm) (fun h=>⟨by have:=hA.l.nil h;have:=hA.l.le;omega,hA.l.nil h⟩) hA.l.src (Hg _) (by unfold gJ;omega) (by omega) hlo
   exact Dy ho rY hr ⟨Gh x 18 v',by rw[zi];rfl,hJ.next 15 (by omega) rfl rfl (hJ.f.c15 qi (Gp x9) h2 h3 h5)⟩
  ·refine Dy rfl rfl (v:=.pointer (some ⟨w.heap.size,4,none⟩)) (w':=W) (by simp[kD,go_sem,(show (Le x).tmps[1]?.getD Uz=.pointer (some ⟨w.heap.size,0,none⟩) from FV)]) ⟨Gh x 19 _,rfl,hJ.next 16 (by omega) rfl rfl hJ.f.a16⟩
  ·have g16:ag.getD 16 false=true:=az ⟨16,.data⟩ (by simp at ho;subst ho;simp) rfl
   have IM:=hJ.f.p16 g16
   refine Dy rfl rfl (v:=O J M.w) (w':=W) (by simp[kD,go_sem,(show (Le x).tmps[19]?.getD Uz=.pointer (some ⟨w.heap.size,4,none⟩) from IM),q4]) ⟨Gh x 20 _,rfl,hJ.next 17 (by omega) rfl rfl hJ.f.a17⟩
  ·have g3:ag.getD 3 false=true:=az ⟨3,.data⟩ (by simp at ho;subst ho;simp) rfl
   have g7:ag.getD 7 false=true:=az ⟨7,.data⟩ (by simp at ho;subst ho;simp) rfl
   have pz:ag.getD 11 false=true:=az ⟨11,.data⟩ (by simp at ho;subst ho;simp) rfl
   have GN:ag.getD 15 false=true:=az ⟨15,.data⟩ (by simp at ho;subst ho;simp) rfl
   have g17:ag.getD 17 false=true:=az ⟨17,.data⟩ (by simp at ho;subst ho;simp) rfl
   have h20:=hJ.f.p17 g17
   obtain⟨_,_,e6⟩:=Bg (hJ.f.r3 g3)
   obtain⟨_,_,GR⟩:=Bg (hJ.f.r7 g7)
   obtain⟨_,_,MO⟩:=Bg (hJ.f.r11 pz)
   obtain⟨_,_,e18⟩:=Bg (hJ.f.r15 GN)
   refine Dy rfl rfl (v:=.agg #[x 6,x 10,x 14,x 18,O J M.w]) (w':=W) (by rw[e6,GR,MO,e18];simp[kD,go_sem,(show (Le x).tmps[20]?.getD Uz=O J M.w from h20),(show (Le x).tmps[6]?.getD Uz=_ from e6),(show (Le x).tmps[10]?.getD Uz=_ from GR),(show (Le x).tmps[14]?.getD Uz=_ from MO),(show (Le x).tmps[18]?.getD Uz=_ from e18)]) ⟨Gh x 21 _,rfl,hJ.next 18 (by omega) rfl rfl (hJ.f.a18 g3 g7 pz GN)⟩
  ·have g18:ag.getD 18 false=true:=az ⟨18,.data⟩ (by simp at ho;subst ho;simp) rfl
   have h21:=hJ.f.b18 g18
   have FU:=hJ.x2
   obtain⟨g3,g7,pz,GN⟩:=hJ.f.e18 g18
   obtain⟨_,_,e6⟩:=Bg (hJ.f.r3 g3)
   obtain⟨_,_,GR⟩:=Bg (hJ.f.r7 g7)
   obtain⟨_,_,MO⟩:=Bg (hJ.f.r11 pz)
   obtain⟨_,_,e18⟩:=Bg (hJ.f.r15 GN)
   obtain⟨r0,r1,r2,r3,r4,z0,z1,z2,z3,z4,zs⟩:=Aj (hJ.f.zb (Gp x9))
   refine a5b rfl rfl (w':=J3 W (w.heap.size+1) (x 6) (x 10) (x 14) (x 18) (O J M.w)) (by
    rw[e6,GR,MO,e18] at h21 ⊢
    simp[kD,go_sem,(show (Le x).tmps[2]?.getD Uz=_ from FU),(show (Le x).tmps[21]?.getD Uz=_ from h21),r0,r1,r2,r3,r4,z0,z1,z2,z3,z4]
    rfl) ⟨x,rfl,hJ.next 19 (by omega) rfl rfl (hJ.f.s19 g18 (Gp x9))⟩
 ·rintro ag a W hr ⟨x,rfl,hJ⟩
  have wJ:=Vy hr hJ.n (by kernel_rfl) 20
  have g3:ag.getD 3 false=true:=wJ 3 (by omega) (by show 3<20;omega)
  have g7:ag.getD 7 false=true:=wJ 7 (by omega) (by show 7<20;omega)
  have pz:ag.getD 11 false=true:=wJ 11 (by omega) (by show 11<20;omega)
  have GN:ag.getD 15 false=true:=wJ 15 (by omega) (by show 15<20;omega)
  have g19:ag.getD 19 false=true:=wJ 19 (by omega) (by show 19<20;omega)
  have g4:=hJ.f.e7 g7
  have g8:=hJ.f.e11 pz
  have qi:=hJ.f.e15 GN
  clear hr wJ
  have o3:=hJ.f.r3 g3
  have o7:=hJ.f.r7 g7
  have YR:=hJ.f.r11 pz
  have YQ:=hJ.f.r15 GN
  have d12:Dj (x 10) (x 14):=by have:=hJ.f.d12 g4 g8;rwa [af g7,af pz] at this
  have d13:Dj (x 10) (x 18):=by have:=hJ.f.d13 g4 qi;rwa [af g7,af GN] at this
  have d23:Dj (x 14) (x 18):=by have:=hJ.f.d23 g8 qi;rwa [af pz,af GN] at this
  have fb:=hJ.f.fb g19
  have lt:=hJ.f.lt
  have bl:=hJ.f.below
  obtain⟨gS,kS,e6⟩:=Bg o3
  obtain⟨gH,kH,GR⟩:=Bg o7
  obtain⟨gF,kF,MO⟩:=Bg YR
  obtain⟨gL,kL,e18⟩:=Bg YQ
  rw[e6] at o3 fb
  rw[GR] at o7 d12 d13 fb
  rw[MO] at YR d12 d23 fb
  rw[e18] at YQ d13 d23 fb
  have HF:Qi (Rw W w.heap.size gS gH gF gL kS kH kF kL M):=⟨fQ o3 (by omega),fQ o7 (by omega),fQ YR (by omega),fQ YQ (by omega),d12,d13,d23,by omega⟩
  obtain⟨r0,r1,r2,r3,r4,g0,g1,g2,g3,g4,rs⟩:=Aj fb
  have FU:=hJ.x2
  clear o3 o7 YR YQ d12 d13 d23 fb
  refine qO _ _ ?_
  go_wp2
  refine bodyPost_ret (v:=.agg #[Y gS M.s.length kS,Y gH M.h.length kH,Y gF M.f.length kF,Y gL M.l.length kL,O J M.w]) (by simp[results,results56,go_sem,Le,FU,r0,r1,r2,r3,r4]) rfl ⟨_,_,_,_,_,_,_,_,rfl,HF.o,bl⟩
end
section
open Go RowKit
def a4g(P:Program)(bn:Array Oper)(Q:Exit->Act->Wq->Prop)(K:Act->Wq->Prop):Nat->Nat->Act->Wq->Prop
 | 0,_=>K
 | c+1,i=>wpOp P bn Q i (a4g P bn Q K c (i+1))
theorem Y1(hm:P.follows .mixedOrders=true)(mk:(Nat->dU)->Act)(ha:a=mk fun k=>a.tmps.getD k Uz)(D:List Nat)(hN:D.Nodup)(n m:Nat)(hD:D.length=n)(hn:bn.size=n+m+1)(hA:((aU bn.size).all fun i=>((bn[i]?).map fun o=>o.after.all fun e=>decide (e.on<i)).getD true)=true)(he:((aU n).all fun i=>(aU (n+1)).any fun j=>decide (i<j) && ((bn[j]?).map fun o=>o.after.any fun e=>e.on==i && iZ .any e).getD false)=true)(UX:((aU m).all fun k=>((bn[n+k+1]?).map fun o=>o.after.any fun e=>e.on==n+k && iZ .any e).getD false)=true)(φ:Nat->dU->Wq->Prop)(mono:∀ i v w w',φ i v w->Below w.heap.size w w'->φ i v w')(step:∀ i,i<n->∀ x W,Below w0.heap.size w0 W->(∀ d,d ∉ D->x d=a.tmps.getD d Uz) ->
   (∀ k,k<n->(((bn[i]?).map fun o=>o.after.any fun e=>e.on==k && iZ .any e).getD false)=true->φ k (x (D.getD k 0)) W) ->
   wpOp P bn Q i (fun a' W'=>∃ v,a'=mk (Eu x (D.getD i 0) v)/\φ i v W'/\Below W.heap.size W W') (mk x) W)(um:∀ x W,Below w0.heap.size w0 W->(∀ d,d ∉ D->x d=a.tmps.getD d Uz)->(∀ i,i<n->φ i (x (D.getD i 0)) W)->a4g P bn Q (fun a' W'=>Q .normal a' W') (m+1) n (mk x) W):(Code.region id bn true).wp P Q a w0:=by
 have yV:∀ (ag:Array Bool),(∀ j o,bn[j]?=some o->ag.getD j false=true->∀ e∈o.after,iZ .any e=true->ag.getD e.on false=true)->∀ i j,j<n+m+1->(((bn[j]?).map fun o=>o.after.any fun e=>e.on==i && iZ .any e).getD false)=true->ag.getD i false=false->ag.getD j false=false/\j ∉ bZ .any bn ag:=by
  intro ag hc i j hj h3 hl
  have ho:bn[j]?=some (bn[j]'(by omega)):=Array.getElem?_eq_getElem (by omega)
  rw[ho] at h3
  simp only[jD,jC] at h3
  rw[jF] at h3
  obtain⟨e,vO,uO⟩:=h3
  rw[cO] at uO
  have uX:e.on=i:=by simpa using uO.1
  refine⟨?_,fun hr=>?_⟩
  ·cases JE:ag.getD j false with
   | false=>rfl
   | true =>
    have:=hc j _ ho JE e vO uO.2
    rw[uX,hl] at this
    cases this
  ·obtain⟨-,-,o,LU,az⟩:=Fb hr
   rw[ho] at LU
   cases LU
   have:=az e vO uO.2
   rw[uX,hl] at this
   cases this
 have wn:∀ (ag:Array Bool),(∀ j o,bn[j]?=some o->ag.getD j false=true->∀ e∈o.after,iZ .any e=true->ag.getD e.on false=true)->∀ c i,n - i<=c->i<n->ag.getD i false=false->ag.getD n false=false/\n ∉ bZ .any bn ag:=by
  intro ag hc c
  induction c with
  | zero=>intro i h1 h2;omega
  | succ c ih =>
   intro i h1 h2 hl
   have h3:=iR.1 he i (by simpa using h2)
   obtain⟨j,hj,h4⟩:=List.any_eq_true.1 h3
   rw[cO] at h4
   have hij:i<j:=by simpa using h4.1
   have hjn:j<n+1:=by simpa using hj
   have h5:=yV ag hc i j (by omega) h4.2 hl
   by_cases e:j=n
   ·subst e;exact h5
   ·exact ih j (by omega) (by omega) h5.1
 -- behind one that has not come up,none of the last has
 have wt:∀ (ag:Array Bool),(∀ j o,bn[j]?=some o->ag.getD j false=true->∀ e∈o.after,iZ .any e=true->ag.getD e.on false=true)->∀ k c,k+c<m->ag.getD (n+k) false=false->ag.getD (n+k+c+1) false=false/\n+k+c+1 ∉ bZ .any bn ag:=by
  intro ag hc k c
  induction c with
  | zero =>
   intro h1 hl
   exact yV ag hc (n+k) (n+k+1) (by omega) (iR.1 UX k (by simpa using h1)) hl
  | succ c ih =>
   intro h1 hl
   have h2:=ih (by omega) hl
   have h3:=iR.1 UX (k+(c+1)) (by simpa using h1)
   rw[show n+(k+(c+1))+1=n+k+(c+1)+1 by omega,show n+(k+(c+1))=n+k+c+1 by omega] at h3
   exact yV ag hc (n+k+c+1) (n+k+(c+1)+1) (by omega) h3 h2.1
 refine Gi hm (fun ag a' W=>(ag.size=bn.size/\∀ j o,bn[j]?=some o->ag.getD j false=true->∀ e∈o.after,iZ .any e=true->ag.getD e.on false=true) /\
  ((ag.getD n false=false/\∃ x,a'=mk x/\Below w0.heap.size w0 W/\(∀ d,d ∉ D->x d=a.tmps.getD d Uz)/\∀ i,i<n->ag.getD i false=true->φ i (x (D.getD i 0)) W) \/
   (∃ k,k<=m/\(∀ j,j<=k->ag.getD (n+j) false=true)/\(k<m->ag.getD (n+k+1) false=false)/\a4g P bn Q (fun a' W'=>Q .normal a' W') (m - k) (n+k+1) a' W))) ?_ ?_ ?_
 ·have hz:∀ i,(jG bn.size false).getD i false=false:=fun i=>by
   by_cases hi:i<bn.size <;> simp[Array.getD_eq_getD_getElem?,hi]
  refine⟨⟨by simp,fun j o _ hj=>?_⟩,.inl ⟨hz n,_,ha,(dK _ _).drew,fun d _=>rfl,fun i hi h=>?_⟩⟩
  ·rw[hz] at hj;cases hj
  ·rw[hz] at h;cases h
 ·rintro ag a' W i hi ⟨⟨hs,hc⟩,hJ⟩
  obtain⟨h1,h2,o,ho,az⟩:=Fb hi
  rw[a4v (by omega)] at h2
  have wV:∀ j o,bn[j]?=some o->(ag.setIfInBounds i true).getD j false=true->∀ e∈o.after,iZ .any e=true->(ag.setIfInBounds i true).getD e.on false=true:=by
   intro j o' hj hl e vO LZ
   have h3:ag.getD e.on false=true:=by
    by_cases ej:i=j
    ·subst ej
     rw[ho] at hj
     cases hj
     exact az e vO LZ
    ·rw[Nq ej] at hl
     exact hc j o' hj hl e vO LZ
   by_cases ee:i=e.on
   ·rw[<- ee];exact U2 (by omega)
   ·rw[Nq ee];exact h3
  have zQ:(ag.setIfInBounds i true).size=bn.size:=by simpa using hs
  rcases hJ with ⟨hl,x,rfl,hb,ku,hφ⟩|⟨k,hk,hl,yj,hw⟩
  ·by_cases vw:i<n
   ·refine wpOp_mono ?_ (step i vw x W hb ku fun k hkn hk=>?_)
    ·rintro BN W' ⟨v,rfl,hv,wW⟩
     refine⟨⟨zQ,wV⟩,.inl ⟨by rw[Nq (by omega)];exact hl,_,rfl,hb.trans (wW.mono hb.size),fun d hd=>?_,fun j hj JE=>?_⟩⟩
     ·have:d≠D.getD i 0:=by
       rintro rfl
       refine hd ?_
       rw[List.getD_eq_getElem?_getD,List.getElem?_eq_getElem (by omega)]
       exact bJ _
      simp only[Eu,ae this]
      exact ku d hd
     ·by_cases e:j=i
      ·subst e
       simp only[Eu,af]
       exact hv
      ·have iw:D.getD j 0≠D.getD i 0:=by
        rw[List.getD_eq_getElem?_getD,List.getD_eq_getElem?_getD,List.getElem?_eq_getElem (by omega),List.getElem?_eq_getElem (by omega)]
        simp only[jC]
        intro hh
        exact e ((List.getElem_inj hN).1 hh)
       simp only[Eu,ae iw]
       rw[Nq (fun h=>e h.symm)] at JE
       exact mono _ _ _ _ (hφ j hj JE) wW
    ·rw[ho] at hk
     simp only[jD,jC] at hk
     rw[jF] at hk
     obtain⟨e,vO,uO⟩:=hk
     rw[cO] at uO
     have uX:e.on=k:=by simpa using uO.1
     have tJ:=az e vO uO.2
     rw[uX] at tJ
     exact hφ k hkn tJ
   ·by_cases zg:i=n
    ·subst zg
     have wJ:∀ k,k<i->ag.getD k false=true:=fun k hk=>by
      cases tJ:ag.getD k false with
      | true=>rfl
      | false=>exact absurd hi (wn ag hc _ k (aC _) hk tJ).2
     refine wpOp_mono ?_ (um x W hb ku fun k hk=>hφ k hk (wJ k hk))
     intro BN W' hw
     refine⟨⟨zQ,wV⟩,.inr ⟨0,aG _,fun j hj=>?_,fun hm0=>?_,hw⟩⟩
     ·obtain rfl:j=0:=by omega
      exact U2 (by omega)
     ·rw[Nq (by omega)]
      exact(wt ag hc 0 0 (by omega) hl).1
    ·have h3:=wt ag hc 0 (i - n - 1) (by omega) hl
     rw[show n+0+(i - n - 1)+1=i by omega] at h3
     exact absurd hi h3.2
  ·have hn0:ag.getD n false=true:=hl 0 (aG _)
   have ry:k<m/\i=n+k+1:=by
    by_cases vw:i<n
    ·have:=(wn ag hc _ i (aC _) vw h2).1
     rw[hn0] at this
     cases this
    ·by_cases hik:i<=n+k
     ·have:=hl (i - n) (by omega)
      rw[show n+(i - n)=i by omega,h2] at this
      cases this
     ·by_cases e:i=n+k+1
      ·exact⟨by omega,e⟩
      ·have h3:=wt ag hc (k+1) (i - n - k - 2) (by omega) (yj (by omega))
       rw[show n+(k+1)+(i - n - k - 2)+1=i by omega] at h3
       exact absurd hi h3.2
   obtain⟨JF,rfl⟩:=ry
   rw[show m - k=(m - (k+1))+1 by omega] at hw
   refine wpOp_mono ?_ hw
   intro BN W' hq
   refine⟨⟨zQ,wV⟩,.inr ⟨k+1,JF,fun j hj=>?_,fun hm0=>?_,hq⟩⟩
   ·by_cases e:j=k+1
    ·subst e;exact U2 (by omega)
    ·rw[Nq (by omega)];exact hl j (by omega)
   ·rw[Nq (by omega)]
    exact(wt ag hc (k+1) 0 (by omega) (yj JF)).1
 ·rintro ag a' W hr ⟨⟨hs,hc⟩,hJ⟩
  have all:=Ll hr hs hA
  rcases hJ with ⟨hl,-⟩|⟨k,hk,-,hl,hw⟩
  ·rw[all (n+1) n (by omega) (by omega)] at hl;cases hl
  ·by_cases e:k=m
   ·subst e
    rw[Nat.sub_self] at hw
    exact hw
   ·have:=hl (by omega)
    rw[all (n+k+2) (n+k+1) (by omega) (by omega)] at this
    cases this
end
section
open ChangeShapes WideShapes ChangeAt RowKit Joins Maps
theorem At.b2d{w:Wq}{bs os:Nat}{aH aF aL:Option Addr}{cS cH cF cL:Nat}{M:Mm}(A:At w (some ⟨bs,os,none⟩) aH aF aL cS cH cF cL M){j:Nat}(hj:j<M.s.length):w.cell? ⟨bs,os+j*6+5,none⟩=some (O J M.s[j].next):=by
 rcases A.s.at_ with h0|⟨b,o,e,hc⟩
 ·omega
 cases e
 exact(hc j hj).2.2.2.2.2
theorem Us(w:Wq)(A:At w aS aH aF aL cS cH cF cL M)(qh:Ok M)(hb:b<M.h.length) :
  aI Pg 133 #[Cm aS aH aF aL cS cH cF cL M,O J b] w fun e w' =>
   ∃ ao n bg,e=.returned (.tuple #[Y ao n bg,.bool (Kw M b)])/\(Kw M b=true->n=(chL M b).length/\w'.ownsRow (w.heap.size+1) 3 1 (Y ao n bg) n (encI (chL M b)))/\Below w.heap.size w w':=by
 unfold Cm
 have n0:=qh.ns
 have n1:=qh.nh
 obtain⟨i0,hi,ng,qj,pq⟩:=gG iI
 obtain⟨R,hR⟩:∃ R,R=Kw M b:=⟨_,rfl⟩
 rw[<- hR]
 have HR:Qi (R=Kw M b):=hR
 clear hR
 obtain⟨LL,hL⟩:∃ LL,LL=chL M b:=⟨_,rfl⟩
 rw[<- hL]
 have HL:Qi (LL=chL M b):=hL
 clear hL
 have HA:Qi (At w aS aH aF aL cS cH cF cL M):=A
 have b0:Below w.heap.size w (w.alloc (.cells #[Y aS M.s.length cS,Y aH M.h.length cH,Y aF M.f.length cF,Y aL M.l.length cL,O J M.w] 25)):=A7 w _
 have tq:Qi ((w.alloc (.cells #[Y aS M.s.length cS,Y aH M.h.length cH,Y aF M.f.length cF,Y aL M.l.length cL,O J M.w] 25)).heap[w.heap.size]?=some (.cells #[Y aS M.s.length cS,Y aH M.h.length cH,Y aF M.f.length cF,Y aL M.l.length cL,O J M.w] 25)):=fP _ _
 have ML:=A.below b0
 clear A
 rcases ML.h.at_ with h0|⟨bh,oh,rfl,BJ⟩
 ·omega
 have d0:=BJ b hb
 clear ML BJ
 go_enter func133,ntmps133
 go_wp2
 go_loopw [17,6,7] (fun i v n wr=>∃ k:Nat,k<=M.s.length+1/\i=O J k/\∃ (l:List Int) (x:Int),n=O J x/\x<=M.s.length/\l.length=k/\Qi (wr.ownsRow (w.heap.size+1) 3 1 v l.length (encI l))/\Below w.heap.size w wr/\Qi (wr.heap[w.heap.size]?=some (.cells #[Y aS M.s.length cS,Y (some ⟨bh,oh,none⟩) M.h.length cH,Y aF M.f.length cF,Y aL M.l.length cL,O J M.w] 25 (0,0)))/\Qi ((k<=M.s.length->chL M b=l++I7 M.s (M.s.length - k) x/\chE M b=Jk M.s (M.s.length - k) x)/\(k=M.s.length+1->Kw M b=false)))
  (fun i _ _ _=>M.s.length+1 - (lN i).toNat)
 case atStart =>
  have hh:=qh.Zp hb
  have he:Bq M b=M.h[b]:=by simp[Bq,List.getD_eq_getElem?_getD,hb]
  rw[he] at hh
  refine⟨0,aG _,rfl,[],_,rfl,((Ar _ _ _).1 hh.2).2,rfl,eU _ _ _ _,b0,tq,?_⟩
  rw[<- he]
  exact⟨fun _=>⟨rfl,rfl⟩,fun h=>by omega⟩
 case round =>
  obtain⟨k,hk,rfl,l,x,rfl,hx,hl,HO,jd,HB,HE⟩:=hrel
  clear tq b0 d0
  obtain⟨ao,bg,rfl⟩:=Bg HO.o
  obtain⟨q0,q1,q2,q3,q4,f0,f1,f2,f3,f4,qs⟩:=Aj HB.o
  clear f0 f1 f2 f3 f4
  by_cases gm:k<M.s.length+1
  ·by_cases zN:x<=0
   ·have HV:Qi (R=(x == -(b:Int) - 1)/\LL=l):=by
     have hs:=Zh (S:=M.s) (k:=M.s.length - k) (.inl zN)
     obtain⟨h1,h2⟩:=HE.o.1 (by omega)
     rw[hs.1,gV] at h1
     rw[hs.2] at h2
     exact⟨by rw[HR.o,Kw,h2,show -(b:Int) - 1=-1 - (b:Int) by omega],by rw[HL.o,h1]⟩
    go_wp2
    go_ret2
    refine⟨ao,l.length,bg,?_,fun _=>⟨?_,?_⟩,jd⟩
    ·rw[HV.o.1];rfl
    ·rw[HV.o.2]
    ·rw[HV.o.2];exact HO.o
   ·obtain⟨j,rfl⟩:∃ j:Nat,x=(j:Int)+1:=⟨(x - 1).toNat,by omega⟩
    have hj:j<M.s.length:=by omega
    have CJ:(0:Int)<(j:Int)+1:=by omega
    have ai:Qi ((k+1<=M.s.length->chL M b=(l ++ [(j:Int)])++I7 M.s (M.s.length - (k+1)) M.s[j].next/\chE M b=Jk M.s (M.s.length - (k+1)) M.s[j].next)/\(k+1=M.s.length+1->Kw M b=false)):=by
     obtain⟨h1,h2⟩:=HE.o.1 (by omega)
     refine⟨fun ry=>?_,fun ry=>?_⟩
     ·have hg:=walk_go (S:=M.s) (k:=M.s.length - (k+1)) CJ
      rw[show M.s.length - (k+1)+1=M.s.length - k by omega] at hg
      have hn:Pe M.s ((j:Int)+1)=M.s[j].next:=by
       unfold Pe
       rw[show ((j:Int)+1 - 1).toNat=j by omega,getD_lt _ _ hj]
      rw[hn] at hg
      refine⟨?_,by rw[h2,hg.2]⟩
      rw[h1,hg.1,bD,show (j:Int)+1 - 1=j by omega]
      rfl
     ·rw[show M.s.length - k=0 by omega] at h2
      have h3:Jk M.s 0 ((j:Int)+1)=(j:Int)+1:=rfl
      rw[h3] at h2
      unfold Kw
      rw[h2]
      simp;omega
    have wS:=((Ar _ _ _).1 (I5 (qh.h _ (bJ hj))).2.2.2).2
    have VN:=HA.o.below jd
    rcases VN.s.at_ with h0|⟨bs,os,rfl,qV⟩
    ·omega
    have c5:=(qV j hj).2.2.2.2.2
    have lc5:=cell_lt c5
    clear VN qV HE
    go_wp2_with (at_builtin;refine gB _ rfl (.tmp 27) (.tmp 30) 23 rfl (w.heap.size+1) 3 i0 (O J 0) 1 8 fA hi ng qj pq rfl (by first|decide|exact Ex.ne _ _ (by decide)) _ _ _ rfl (iV HO.o _) ⟨wr.heap.size,0,none⟩ 1 1 [O J (j:Int)] rfl rfl (cell_one_new _ _ _) (by intro u hu;simp at hu;subst hu;rfl) (by unfold gJ;omega) (by omega) (by simp;omega) ?_;intro v2 w2 jk lg _ ji;obtain⟨g2,eu,rfl⟩:=kK jk (by omega);have uw:Qi (w2.ownsRow (w.heap.size+1) 3 1 (Y (some ⟨g2,0,none⟩) (l.length+1) eu) (l.length+1) (encI l ++ [O J (j:Int)])):=jk;have dm:Below w.heap.size w w2:=(jd.alloc jd.size _).grown lg (by simp;have:=jd.size;omega) (fun q hq=>by have:=(kU HO.o q hq).1;omega);have rJ:Qi (w2.heap[w.heap.size]?=some (.cells #[Y (some ⟨bs,os,none⟩) M.s.length cS,Y (some ⟨bh,oh,none⟩) M.h.length cH,Y aF M.f.length cF,Y aL M.l.length cL,O J M.w] 25 (0,0))):=Dt HB.o lg (own_ne HO.o HB.o (by first|decide|exact Ex.ne _ _ (by decide)));have d5:w2.cell? ⟨bs,os+j*6+5,none⟩=some (O J M.s[j].next):=(HA.o.below dm).b2d hj;clear jk lg ji q0 q1 q2 q3 q4 qs c5 lc5;obtain⟨q0,q1,q2,q3,q4,f0,f1,f2,f3,f4,qs⟩:=Aj rJ.o;clear f0 f1 f2 f3 f4)
    go_roundw
    case rel=>exact⟨k+1,by omega,by go_num,l ++ [(j:Int)],_,rfl,wS,by simp[hl],by rw[show (l ++ [(j:Int)]).length=l.length+1 by simp,show encI (l ++ [(j:Int)])=encI l ++ [O J (j:Int)] by simp[encI],<- hl];exact uw,dm,rJ,ai⟩
    case measure=>simp[lN];omega
  ·have hke:k=M.s.length+1:=by omega
   have HV:Qi (R=false):=HR.o.trans (HE.o.2 hke)
   go_wp2
   go_ret2
   exact⟨none,0,0,by rw[HV.o];rfl,(fun h=>by rw[HV.o] at h;cases h),jd⟩
theorem Uy(w:Wq)(A:At w aS aH aF aL cS cH cF cL M)(IW:OkC M) :
  aI Pg 95 #[Cm aS aH aF aL cS cH cF cL M] w fun e w' =>
   ∃ ao bg,e=.returned (Y ao ((Nb M).map (Bv M)).length bg)/\Ho w' ao bg ((Nb M).map (Bv M))/\Below w.heap.size w w':=by
 unfold Cm
 have qh:=IW.ok
 have n0:=qh.ns
 have n1:=qh.nh
 obtain⟨i0,hi,ng,qj,pq⟩:=gG iF
 have hlen0:=Iy M M.h.length
 have hal0:M.h.length*M.s.length<=4*12:=iO (by omega) n0
 obtain⟨LL,hLL⟩:∃ LL,LL=(Nb M).map (Bv M):=⟨_,rfl⟩
 rw[<- hLL]
 have XO:Qi (LL=(Nb M).map (Bv M)):=hLL
 clear hLL
 have HA:Qi (At w aS aH aF aL cS cH cF cL M):=A
 have b0:Below w.heap.size w (w.alloc (.cells #[Y aS M.s.length cS,Y aH M.h.length cH,Y aF M.f.length cF,Y aL M.l.length cL,O J M.w] 25)):=A7 w _
 have tq:Qi ((w.alloc (.cells #[Y aS M.s.length cS,Y aH M.h.length cH,Y aF M.f.length cF,Y aL M.l.length cL,O J M.w] 25)).heap[w.heap.size]?=some (.cells #[Y aS M.s.length cS,Y aH M.h.length cH,Y aF M.f.length cF,Y aL M.l.length cL,O J M.w] 25)):=fP _ _
 clear A
 go_enter func95,ntmps95
 go_wp2
 go_loopw [12,3] (fun i v wr=>∃ b:Nat,b<=M.h.length/\i=O J b/\Qi (wr.ownsRow (w.heap.size+1) 61 4 v ((Bc M b).map (Bv M)).length (Hr ((Bc M b).map (Bv M))))/\Below w.heap.size w wr/\Qi (wr.heap[w.heap.size]?=some (.cells #[Y aS M.s.length cS,Y aH M.h.length cH,Y aF M.f.length cF,Y aL M.l.length cL,O J M.w] 25 (0,0))))
  (fun i _ _=>M.h.length - (lN i).toNat)
 case atStart=>exact⟨0,aG _,rfl,eU _ _ _ _,b0,tq⟩
 case round =>
  obtain⟨b,hb,rfl,HO,jd,HB⟩:=hrel
  clear tq b0
  obtain⟨q0,q1,q2,q3,q4,f0,f1,f2,f3,f4,qs⟩:=Aj HB.o
  clear f0 f1 f2 f3 f4
  by_cases gm:b<M.h.length
  ·have yD:Qi _:=HA.o.below jd
   have hal:=Iy M b
   have OL:b*M.s.length<=4*12:=iO (by omega) n0
   go_wp2_with fail
   refine(Us M aS aH aF aL cS cH cF cL b wr yD.o qh gm).mono ?_
   rintro e w2 ⟨ao,n,bg,rfl,hr,dm⟩
   have hc:Kw M b=true:=(Wj M b).2 (IW.ends b gm)
   obtain⟨rfl,qp⟩:=hr hc
   rw[hc]
   have qW:=jd.trans (dm.mono jd.size)
   have uw:Qi (w2.ownsRow (w.heap.size+1) 61 4 _ ((Bc M b).map (Bv M)).length (Hr ((Bc M b).map (Bv M)))):=own_below HO.o dm
   have rJ:Qi (w2.heap[w.heap.size]?=_):=(dm.block w.heap.size qs).trans HB.o
   have uA:Qi (w2.ownsRow (wr.heap.size+1) 3 1 (Y ao (chL M b).length bg) (chL M b).length (encI (chL M b))):=qp
   have xX:Qi _:=qh.b5m gm
   have jb:(chL M b).length<=12:=Nat.le_trans (Kr _ _ _) n0
   have WY:Qi (Bc M (b+1)=Bc M b++chL M b):=Hq M b
   clear qp hr hc dm HO HB jd q0 q1 q2 q3 q4 qs yD
   generalize chL M b=l at *
   generalize Bc M b=al at *
   generalize wr.heap.size+1=lw at uA
   go_wp2
   go_loopw [23,3] (fun i v wr=>∃ k:Nat,k<=l.length/\i=O J k/\Qi (wr.ownsRow (w.heap.size+1) 61 4 v ((al++l.take k).map (Bv M)).length (Hr ((al++l.take k).map (Bv M))))/\Qi (wr.ownsRow lw 3 1 (Y ao l.length bg) l.length (encI l))/\Below w.heap.size w wr/\Qi (wr.heap[w.heap.size]?=some (.cells #[Y aS M.s.length cS,Y aH M.h.length cH,Y aF M.f.length cF,Y aL M.l.length cL,O J M.w] 25 (0,0))))
    (fun i _ _=>l.length - (lN i).toNat)
   case atStart=>exact⟨0,aG _,rfl,by rw[gX,gV];exact uw,uA,qW,rJ⟩
   case round =>
    obtain⟨k,hk,rfl,yR,zC,gu,tH⟩:=hrel
    clear uw uA qW rJ
    obtain⟨q0,q1,q2,q3,q4,f0,f1,f2,f3,f4,qs⟩:=Aj tH.o
    clear f0 f1 f2 f3 f4
    by_cases rU:k<l.length
    ·obtain⟨ax,cx,VA,UO⟩:=Dk.He zC.o (by omega)
     simp only[Value.slice.injEq,true_and] at VA
     obtain⟨rfl,rfl⟩:=VA
     rcases UO.at_ with h0|⟨bl,ol,rfl,ES⟩
     ·omega
     have d0:=ES k rU
     have vw:=xX.o l[k] (bJ rU)
     obtain⟨j,hj⟩:∃ j:Nat,l[k]=j:=⟨(l[k]).toNat,by omega⟩
     have HX:Qi (l[k]=j):=hj
     rw[hj] at d0 vw
     clear hj ES UO
     have EQ:j<M.s.length:=by omega
     have OW:=HA.o.below gu
     rcases OW.s.at_ with h0|⟨bs,os,rfl,qV⟩
     ·omega
     obtain⟨s0,s1,s2,s3,s4,s5⟩:=qV j EQ
     clear OW qV s0 s4 s5
     have hsl:Aa M j=M.s[j]:=Fj EQ
     generalize hM:M.s[j]=sj at s1 s2 s3 hsl
     obtain⟨r,ka,kb,u,ii,nx⟩:=sj
     dsimp only at s1 s2 s3
     have FP:Qi (Bv M j=⟨ka,kb,j,u⟩):=by unfold Bv;rw[hsl];rfl
     clear hM hsl
     have tJ:((al++l.take k).map (Bv M)).length<=100:=by
      simp only[kN,gU,jO]
      omega
     have HT:Qi ((al++l.take (k+1)).map (Bv M)=(al++l.take k).map (Bv M) ++ [Bv M j]):=by
      show _=_
      rw[aV rU,<- bD,bG,HX.o]
      rfl
     generalize (al++l.take k).map (Bv M)=fl at *
     obtain⟨fo,zu,rfl⟩:=Bg yR.o
     have RX:Qi (((wr.alloc (.cells #[O J ka,O J kb,O J (j:Int),O J u] 61)).drew).ownsRow (w.heap.size+1) 61 4 (Y fo fl.length zu) fl.length (Hr fl)):=(iV yR.o (.cells #[O J ka,O J kb,O J (j:Int),O J u] 61):(wr.alloc (.cells #[O J ka,O J kb,O J (j:Int),O J u] 61)).ownsRow (w.heap.size+1) 61 4 (Y fo fl.length zu) fl.length (Hr fl))
     have SI:Qi (∀ q y,(Fl.enc ⟨ka,kb,j,u⟩)[q]?=some y->((wr.alloc (.cells #[O J ka,O J kb,O J (j:Int),O J u] 61)).drew).cell? ((⟨wr.heap.size,0,none⟩:Addr).add q)=some y):=fun q y h=>a1c wr ⟨ka,kb,j,u⟩ q y h
     have hbs:=gu.size
     go_wp2_with fail
     go_region_law (refine Dq _ rfl (.tmp 27) (.tmp 42) 56 rfl (w.heap.size+1) 61 i0 (.agg #[O J 0,O J 0,O J 0,O J 0]) 4 32 underlying56 hi ng qj pq rfl (by first|decide|exact Ex.ne _ _ (by decide)) (Y fo fl.length zu) _ _ rfl RX.o ⟨wr.heap.size,0,none⟩ 1 1 (Fl.enc ⟨ka,kb,j,u⟩) rfl rfl SI.o (by intro x hx;simp only[Fl.enc,aZ,kQ,or_false] at hx;rcases hx with rfl|rfl|rfl|rfl <;> rfl) (by unfold gJ;omega) (by omega) (by simp;omega) ?_;intro v2 w2 jk lg _ ji;obtain⟨g2,eu,rfl⟩:=kK jk (by omega);have KJ:Qi (w2.ownsRow (w.heap.size+1) 61 4 (Y (some ⟨g2,0,none⟩) (fl.length+1) eu) (fl.length+1) (Hr fl++Fl.enc ⟨ka,kb,j,u⟩)):=jk;have PW:Qi ((wr.alloc (.cells #[O J ka,O J kb,O J (j:Int),O J u] 61)).grownBy w2 (Value.slice fo fl.length zu).ownBlock):=⟨lg.1,lg.2,lg.3,lg.4,lg.5⟩;clear jk lg ji)
     all_goals
      have tY:Below w.heap.size w w2:=(gu.alloc gu.size _).grown PW.o (by simp;omega) (fun q hq=>by have:=(kU yR.o q hq).1;omega)
      have yC:Qi (w2.heap[w.heap.size]?=some (.cells #[Y (some ⟨bs,os,none⟩) M.s.length cS,Y aH M.h.length cH,Y aF M.f.length cF,Y aL M.l.length cL,O J M.w] 25 (0,0))):=Dt tH.o PW.o (own_ne yR.o tH.o (by first|decide|exact Ex.ne _ _ (by decide)))
      have DK:Qi (w2.ownsRow lw 3 1 (Y (some ⟨bl,ol,none⟩) l.length bg) l.length (encI l)):=(iV zC.o _).kept PW.o (D9 zC.o yR.o (by first|decide|exact Ex.ne _ _ (by decide))).ne
      clear q0 q1 q2 q3 q4 qs d0 s1 s2 s3
      go_wp2
      go_roundw
      (case rel=>exact⟨k+1,by omega,by go_num,by rw[HT.o,show (fl ++ [Bv M j]).length=fl.length+1 by simp,show Hr (fl ++ [Bv M j])=Hr fl++Fl.enc ⟨ka,kb,j,u⟩ by simp[Hr,FP.o]];exact KJ,DK,tY,yC⟩)
      (case measure=>simp[lN];omega)
    ·have rO:k=l.length:=by omega
     have DL:Qi (wr.ownsRow (w.heap.size+1) 61 4 u3 ((Bc M (b+1)).map (Bv M)).length (Hr ((Bc M (b+1)).map (Bv M)))):=by
      have:=yR.o
      rw[rO,jS,<- WY.o] at this
      exact this
     go_wp2
     go_roundw
     case rel=>exact⟨b+1,by omega,by go_num,DL,gu,tH⟩
     case measure=>simp[lN];omega
  ·obtain rfl:b=M.h.length:=by omega
   obtain⟨fo,zu,rfl,qp⟩:=Ho.He HO.o (by rw[kN];omega)
   have HR:Qi (Ho wr fo zu ((Nb M).map (Bv M))):=qp
   clear qp HO
   have RY:Qi (LL.length=((Bc M M.h.length).map (Bv M)).length):=by rw[XO.o];rfl
   go_wp2
   go_ret
   refine⟨fo,zu,?_,?_,jd⟩
   ·rw[RY.o]
    simp
   ·rw[XO.o];exact HR.o
end
section
open ChangeShapes WideShapes ChangeAt RowKit Joins Maps
def Jb(l:List (Int × Int)):List dU:=l.flatMap fun k=>[O J k.1,O J k.2]
theorem Wy:Jb (s :: l)=[O J s.1,O J s.2] ++ Jb l:=by simp[Jb]
theorem a6r:(Jb l).length=l.length*2:=by
 induction l with
 | nil=>rfl
 | cons s l ih=>rw[Wy,gU,ih];simp;omega
theorem a6q(i q:Nat)(h:i<l.length)(hq:q<2):(Jb l)[i*2+q]?=[Value.int .i64 l[i].1,O J l[i].2][q]?:=by
 induction l generalizing i with
 | nil=>simp at h
 | cons s l ih =>
  rw[Wy]
  match i with
  | 0 =>
   rw[List.getElem?_append_left (by simp;omega)]
   simp
  | i+1 =>
   rw[List.getElem?_append_right (by simp;omega)]
   rw[show [Value.int .i64 s.1,O J s.2].length=2 from rfl,show (i+1)*2+q - 2=i*2+q by omega,ih i (by simpa using h)]
   simp
def KAt(w:Wq)(ao:Option Addr)(l:List (Int × Int)):Prop :=
 l.length=0\/∃ b o,ao=some ⟨b,o,none⟩/\∀ i (h:i<l.length),w.cell? ⟨b,o+i*2,none⟩=some (O J l[i].1)/\w.cell? ⟨b,o+i*2+1,none⟩=some (O J l[i].2)
theorem KAt.He{w:Wq}{base n bg:Nat}{ao:Option Addr}{S:List (Int × Int)}(h:w.ownsRow base 30 2 (Y ao n bg) n (Jb S)):KAt w ao S:=by
 have hl:=h.1
 rw[a6r] at hl
 have hn:S.length=n:=by omega
 subst hn
 rcases h.2 with ⟨h1,h0⟩|⟨g,VP,sU,hv,hg,hb,hc,-,hs,ht⟩
 ·exact .inl h0
 ·injection hv with h1 h2 h3
  subst h1 h3
  refine .inr ⟨g,0,rfl,fun i hi=>?_⟩
  have e:∀ q,q<2->w.cell? ⟨g,0+i*2+q,none⟩=[Value.int .i64 S[i].1,O J S[i].2][q]?:=fun q hq=>by
   rw[dR,h.cellAt _ (by omega),a6q S i q hi hq]
  exact⟨e 0 (by omega),e 1 (by omega)⟩
theorem b0s(k:Nat)(h:k<l.length)(x:Int × Int)(h0:¬ x∈l.take k)(hx:¬ x=l[k]):¬ x∈l.take (k+1):=by
 rw[aV h,List.mem_append]
 rintro (hh|hh)
 ·exact h0 hh
 ·simp at hh;exact hx hh
theorem a3h(a b:Int)(w:Wq)(BL:l.length<=1000)(jc:KAt w ao l) :
  aI Pg 157 #[Y ao l.length bg,.agg #[O J a,O J b]] w fun e w'=>∃ i:Int,e=.returned (O J i)/\decide (0<=i)=l.contains (a,b)/\Below w.heap.size w w':=by
 have wQ:Qi (KAt w ao l):=jc
 clear jc
 have b0:Below w.heap.size w (w.alloc (.cells #[O J a,O J b] 30)):=A7 _ _
 go_enter func157,ntmps157
 go_wp2
 go_loopw [8] (fun i wr=>∃ k q:Nat,k<=l.length/\i=O J k/\wr=(w.alloc (.cells #[O J a,O J b] 30)).drewN q/\Qi (¬ (a,b)∈l.take k)) (fun i _=>l.length - (lN i).toNat)
 case atStart=>exact⟨0,0,aG _,rfl,rfl,by show ¬ _;simp⟩
 case round =>
  obtain⟨k,q,hk,rfl,rfl,HC⟩:=hrel
  have jd:Below w.heap.size w ((w.alloc (.cells #[O J a,O J b] 30)).drewN q):=b0.trans ((Uu _ _).mono (by simp))
  by_cases gm:k<l.length
  ·rcases wQ.o with h0|⟨bk,ok,rfl,hc⟩
   ·omega
   obtain⟨c0,c1⟩:=hc k gm
   have lt:=cell_lt c0
   rw[<- (Ce jd).1 _ _ lt] at c0 c1
   clear hc
   have e0:((w.alloc (.cells #[O J a,O J b] 30)).drewN q).cell? ⟨w.heap.size,0,none⟩=some (O J a):=by rw[World.cell?_drewN];simp
   have e1:((w.alloc (.cells #[O J a,O J b] 30)).drewN q).cell? ⟨w.heap.size,1,none⟩=some (O J b):=by rw[World.cell?_drewN];simp
   generalize hwq:(w.alloc (.cells #[O J a,O J b] 30)).drewN q=wq at c0 c1 e0 e1 jd ⊢
   have HWQ:Qi _:=hwq
   clear hwq
   generalize hx:l[k]=x at c0 c1
   have HX:Qi (l[k]=x):=hx
   clear hx
   obtain⟨x0,x1⟩:=x
   dsimp only at c0 c1
   have ke:=Zq a b x0 x1
   by_cases hh:a=x0/\b=x1
   ·obtain⟨rfl,rfl⟩:=hh
    have HH:Qi (l.contains (a,b)=true):=by
     show _=_
     rw[kR,<- HX.o]
     exact bJ gm
    have hz:(a==a && b==b)=true:=by simp
    rw[hz] at ke
    go_wp2_with fail
    go_quiet (fail)
    go_wp2
    go_ret
    exact⟨k,rfl,by rw[HH.o];simp,jd.trans ((Uu _ _).mono jd.size)⟩
   ·have HH:Qi (¬ (a,b)∈l.take (k+1)):=b0s l k gm (a,b) HC.o (by rw[HX.o];intro he;injection he with h1 h2;exact hh ⟨h1,h2⟩)
    have hz:(a==x0 && b==x1)=false:=by
     rw[lM]
     intro h;simp at h;exact hh h
    rw[hz] at ke
    go_wp2_with fail
    go_quiet (fail)
    go_wp2
    go_roundw
    case rel=>exact⟨k+1,q+nq,by omega,by go_num,by rw[<- HWQ.o,World.drewN_drewN],HH⟩
    case measure=>simp[lN];omega
  ·have HH:Qi (l.contains (a,b)=false):=by
    show _=_
    rw[lM]
    intro h
    rw[kR] at h
    have:=HC.o
    rw[show k=l.length by omega,jS] at this
    exact this h
   go_wp2
   go_ret
   exact⟨-1,rfl,by rw[HH.o];rfl,jd⟩
theorem Y7(a b:Int)(w:Wq)(BL:l.length<=1000)(jc:KAt w ao l) :
  aI Pg 135 #[Y ao l.length bg,.agg #[O J a,O J b]] w fun e w'=>e=.returned (.bool (l.contains (a,b)))/\Below w.heap.size w w':=by
 have wQ:Qi (KAt w ao l):=jc
 have b0:Below w.heap.size w (w.alloc (.cells #[O J a,O J b] 30)):=A7 _ _
 have HAT2:Qi (KAt (w.alloc (.cells #[O J a,O J b] 30)) ao l):=by
  rcases jc with h0|⟨bk,ok,e,hc⟩
  ·exact .inl h0
  ·exact .inr ⟨bk,ok,e,fun i hi=>⟨((Ce b0).1 _ _ (cell_lt (hc i hi).1)).trans (hc i hi).1,((Ce b0).1 _ _ (cell_lt (hc i hi).1)).trans (hc i hi).2⟩⟩
 clear jc
 go_enter func135,ntmps135
 go_wp2_with fail
 refine(a3h _ _ l a b _ BL HAT2.o).mono ?_
 rintro e w1 ⟨i,rfl,hd,bu⟩
 have b1:=b0.trans (bu.mono b0.size)
 have HD:Qi _:=hd
 clear hd bu b0
 go_wp2
 go_ret
 refine⟨?_,b1⟩
 rw[<- HD.o]
 rfl
end
section
open ChangeShapes WideShapes ChangeAt RowKit Joins Maps
theorem iKF:(Pg.info? 30).map (fun i=>(i.zero,i.size,i.bytes))=some (some (.agg #[O J 0,O J 0]),2,16):=by kernel_rfl
theorem b2p(w:Wq)(a b:Int):∀ (j:Nat) (u:dU),[Value.int .i64 a,O J b][j]?=some u->(w.alloc (.cells #[O J a,O J b] 30)).cell? ((⟨w.heap.size,0,none⟩:Addr).add j)=some u:=by
 intro j u hu
 rw[lQ]
 match j,hu with
 | 0,hu=>simp at hu;subst hu;simp
 | 1,hu=>simp at hu;subst hu;simp
 | j+2,hu=>simp at hu
theorem a9x:hasK M all k=(all.map (keyAt M)).contains k:=rfl
theorem a1w(w:Wq)(A:At w aS aH aF aL cS cH cF cL M) :
  aI Pg 93 #[Cm aS aH aF aL cS cH cF cL M] w fun e w'=>e=.returned (O J (Gu M))/\Below w.heap.size w w':=by
 unfold Cm
 obtain⟨i0,hi,ng,qj,pq⟩:=gG iKF
 obtain⟨Z,hZ⟩:∃ Z,Z=Gu M:=⟨_,rfl⟩
 rw[<- hZ]
 have HZ:Qi (Z=Gu M):=hZ
 clear hZ
 obtain⟨o1,vC⟩:∃ o:Obj,o=.cells #[Y aS M.s.length cS,Y aH M.h.length cH,Y aF M.f.length cF,Y aL M.l.length cL,O J M.w] 25:=⟨_,rfl⟩
 have b0:Below w.heap.size w (w.alloc o1):=A7 w o1
 have tq:Qi ((w.alloc o1).heap[w.heap.size]?=some o1):=fP _ _
 have HA:Qi (At w aS aH aF aL cS cH cF cL M):=A
 have ul:Qi (Ans 0 (w.alloc o1) (.agg #[Y aS M.s.length cS,Y aH M.h.length cH,Y aF M.f.length cF,Y aL M.l.length cL,O J M.w]) M):=⟨aS,aH,aF,aL,cS,cH,cF,cL,rfl,A.below b0,⟨fun _ _=>aG _,fun _ _=>aG _,fun _ _=>aG _,fun _ _=>aG _⟩⟩
 clear A
 go_enter func93,ntmps93
 go_wp2_with fail
 rw[<- vC]
 generalize w.alloc o1=W0 at *
 subst vC
 refine(Xp M _ W0 0 ul.o).mono ?_
 rintro e w1 ⟨rfl,bu⟩
 have b1:=b0.trans (bu.mono b0.size)
 have iy:Qi (w1.heap[w.heap.size]?=_):=(bu.block w.heap.size (fC tq.o)).trans tq.o
 clear bu b0 tq ul
 by_cases hE:chk M=0
 rotate_left
 ·have h':(chk M != 0)=true:=by simpa using hE
  have HV:Qi (Z=chk M):=HZ.o.trans (by unfold Gu;rw[af hE])
  clear iy
  generalize chk M=E at *
  go_wp2
  go_ret
  exact⟨Bf HV.o.symm,b1⟩
 have qh:=(Ky M).1 hE
 have n0:=qh.ns
 have n1:=qh.nh
 have HC:Qi (Z=Qe M M.h.length 0 []):=HZ.o.trans (by unfold Gu;rw[ae (by simpa using hE)])
 rw[hE]
 clear hE HZ
 obtain⟨q0,q1,q2,q3,q4,f0,f1,f2,f3,f4,qs⟩:=Aj iy.o
 clear f0 f1 f2 f3 f4
 go_wp2
 clear q0 q1 q2 q3 q4
 go_loopw [19,4] (fun i v wr=>∃ b:Nat,b<=M.h.length/\i=O J b/\Qi (wr.ownsRow (w.heap.size+1) 30 2 v ((Bc M b).map (keyAt M)).length (Jb ((Bc M b).map (keyAt M))))/\Below w.heap.size w wr/\Qi (wr.heap[w.heap.size]?=some (.cells #[Y aS M.s.length cS,Y aH M.h.length cH,Y aF M.f.length cF,Y aL M.l.length cL,O J M.w] 25 (0,0)))/\Qi (Z=Qe M (M.h.length - b) b (Bc M b)))
  (fun i _ _=>M.h.length - (lN i).toNat)
 case atStart=>exact⟨0,aG _,rfl,eU _ _ _ _,b1,iy,HC⟩
 case round =>
  obtain⟨b,hb,rfl,HO,jd,HB,HE⟩:=hrel
  clear HC iy b1
  obtain⟨q0,q1,q2,q3,q4,f0,f1,f2,f3,f4,NF⟩:=Aj HB.o
  clear f0 f1 f2 f3 f4
  by_cases gm:b<M.h.length
  ·have YD:Qi _:=HA.o.below jd
   have hal:=Iy M b
   have OL:b*M.s.length<=4*12:=iO (by omega) n0
   go_wp2_with fail
   refine(Us M aS aH aF aL cS cH cF cL b wr YD.o qh gm).mono ?_
   rintro e w2 ⟨ao,nn,bg,rfl,hr,dm⟩
   have qW:=jd.trans (dm.mono jd.size)
   have uw:Qi (w2.ownsRow (w.heap.size+1) 30 2 u4 ((Bc M b).map (keyAt M)).length (Jb ((Bc M b).map (keyAt M)))):=own_below HO.o dm
   have rJ:Qi (w2.heap[w.heap.size]?=_):=(dm.block w.heap.size NF).trans HB.o
   have HS:Qi _:=Yi M b gm
   clear HO HB YD jd dm q0 q1 q2 q3 q4
   cases hc:Kw M b
   ·have HV:Qi (Z=4):=HE.o.trans (HS.o.trans (by rw[hc];rfl))
    clear hr HS HE
    go_wp2
    go_ret
    exact⟨Bf HV.o.symm,qW⟩
   ·obtain⟨rfl,qp⟩:=hr hc
    have xX:Qi _:=qh.b5m gm
    have uA:Qi (w2.ownsRow (wr.heap.size+1) 3 1 (Y ao (chL M b).length bg) (chL M b).length (encI (chL M b))):=qp
    have jb:(chL M b).length<=12:=Nat.le_trans (Kr _ _ _) n0
    have HD:Qi (Z=if Gs M b (Bc M b) (chL M b)≠0 then Gs M b (Bc M b) (chL M b) else Qe M (M.h.length - (b+1)) (b+1) (Bc M (b+1))):=HE.o.trans (HS.o.trans (by rw[hc];rfl))
    have WY:Qi (Bc M (b+1)=Bc M b++chL M b):=Hq M b
    clear qp HS HE hr hc
    generalize chL M b=l at *
    generalize UG:wr.heap.size+1=lw at uA
    clear UG
    go_wp2
    go_loopw [32,4] (fun i v wr=>∃ k:Nat,k<=l.length/\i=O J k/\Qi (wr.ownsRow (w.heap.size+1) 30 2 v ((Bc M b++l.take k).map (keyAt M)).length (Jb ((Bc M b++l.take k).map (keyAt M))))/\Qi (wr.ownsRow lw 3 1 (Y ao l.length bg) l.length (encI l))/\Below w.heap.size w wr/\Qi (wr.heap[w.heap.size]?=some (.cells #[Y aS M.s.length cS,Y aH M.h.length cH,Y aF M.f.length cF,Y aL M.l.length cL,O J M.w] 25 (0,0)))/\Qi (Gs M b (Bc M b) l=Gs M b (Bc M b++l.take k) (l.drop k)))
     (fun i _ _=>l.length - (lN i).toNat)
    case atStart=>exact⟨0,aG _,rfl,by rw[gX,gV];exact uw,uA,qW,rJ,by rw[gX,gV,kP];exact rfl⟩
    case round =>
     obtain⟨k,hk,rfl,yR,zC,gu,tH,di⟩:=hrel
     clear uw uA qW rJ
     obtain⟨q0,q1,q2,q3,q4,f0,f1,f2,f3,f4,YO⟩:=Aj tH.o
     clear f0 f1 f2 f3 f4
     by_cases rU:k<l.length
     ·obtain⟨ax,cx,VA,UO⟩:=Dk.He zC.o (by omega)
      simp only[Value.slice.injEq,true_and] at VA
      obtain⟨rfl,rfl⟩:=VA
      rcases UO.at_ with h0|⟨bl,ol,rfl,ES⟩
      ·omega
      have d0:=ES k rU
      have vw:=xX.o l[k] (bJ rU)
      obtain⟨j,hj⟩:∃ j:Nat,l[k]=j:=⟨(l[k]).toNat,by omega⟩
      have HX:Qi (l[k]=j):=hj
      rw[hj] at d0 vw
      clear hj ES UO
      have EQ:j<M.s.length:=by omega
      have OW:=HA.o.below gu
      rcases OW.s.at_ with h0|⟨bs,os,rfl,qV⟩
      ·omega
      obtain⟨s0,s1,s2,s3,s4,s5⟩:=qV j EQ
      clear OW qV
      have sS:=I5 (qh.h _ (bJ EQ))
      have hsl:Aa M j=M.s[j]:=Fj EQ
      generalize hM:M.s[j]=sj at s0 s1 s2 s3 s4 s5 hsl sS
      obtain⟨r,ka,kb,u,ii,nx⟩:=sj
      dsimp only at s0 s1 s2 s3 s4 s5 sS
      have IA:Qi (Aa M j=⟨r,ka,kb,u,ii,nx⟩):=hsl
      have EO:=sS.2.2.1
      have HK:Qi (Ei ka kb=true):=EO
      have HKy:Qi (keyAt M j=(ka,kb)):=by unfold keyAt;rw[hsl];exact rfl
      clear hM hsl sS EO
      have uZ:Qi _:=Xr M b (Bc M b) l k rU
      have MP:∀ e:Int,e≠0->Gg M b (Bc M b++l.take k) j=e->Z=e:=fun e he hh=>by
       have h1:=di.o.trans (uZ.o.trans (by rw[HX.o,hh,af he]))
       have:=HD.o
       rw[h1,af he] at this
       exact this
      have KX:Qi _:=MP
      clear MP
      have qW:=gu.alloc gu.size (.cells #[O J r,O J ka,O J kb,O J u,.bool ii,O J nx] 64)
      by_cases xQ:r=0
      ·subst xQ
       have HV:Qi (Z=5):=KX.o 5 (by first|decide|exact Ex.ne _ _ (by decide)) (by unfold Gg;rw[IA.o,af (.inl rfl)])
       go_wp2
       go_ret
       exact⟨Bf HV.o.symm,qW⟩
      have TY:(r==0)=false:=by simpa using xQ
      cases ii
      ·have HV:Qi (Z=5):=KX.o 5 (by first|decide|exact Ex.ne _ _ (by decide)) (by unfold Gg;rw[IA.o,af (.inr rfl)])
       go_wp2
       go_ret
       exact⟨Bf HV.o.symm,qW⟩
      have wz:Qi (Gg M b (Bc M b++l.take k) j=if Eh ka kb M.h.length≠b then 4 else if hasK M (Bc M b++l.take k) (ka,kb) then 6 else 0):=by
       show _=_
       unfold Gg
       rw[HKy.o,IA.o]
       dsimp only
       rw[ae (by rintro (h|h);exact xQ h;cases h)]
      obtain⟨o5,uQ⟩:∃ o:Obj,o=.cells #[O J r,O J ka,O J kb,O J u,.bool true,O J nx] 64:=⟨_,rfl⟩
      rw[<- uQ] at qW
      have PO:Qi ((wr.alloc o5).heap[wr.heap.size]?=some o5):=fP _ _
      have yC:Qi ((wr.alloc o5).heap[w.heap.size]?=_):=(fU _ _ _ YO).trans tH.o
      have KJ:Qi ((wr.alloc o5).ownsRow (w.heap.size+1) 30 2 u4 ((Bc M b++l.take k).map (keyAt M)).length (Jb ((Bc M b++l.take k).map (keyAt M)))):=iV yR.o _
      have DK:Qi ((wr.alloc o5).ownsRow lw 3 1 (Y (some ⟨bl,ol,none⟩) l.length bg) l.length (encI l)):=iV zC.o _
      go_wp2_with fail
      rw[<- uQ]
      generalize wr.alloc o5=W5 at *
      subst uQ
      clear yR zC tH gu q0 q1 q2 q3 q4 d0 s0 s1 s2 s3 s4 s5
      refine(S9 _ _ _ _ HK.o n1.1 n1.2).mono ?_
      rintro e w6 ⟨rfl,uD⟩
      have JJ:=qW.trans (uD.mono qW.size)
      have TV:w6.heap[wr.heap.size]?=_:=(uD.block wr.heap.size (fC PO.o)).trans PO.o
      have MS:Qi (w6.heap[wr.heap.size]?=some (.cells #[O J r,O J ka,O J kb,O J u,.bool true,O J nx] 64 (0,0))):=TV
      have SN:Qi (w6.heap[w.heap.size]?=_):=(uD.block w.heap.size (fC yC.o)).trans yC.o
      have DL:Qi (w6.ownsRow (w.heap.size+1) 30 2 u4 ((Bc M b++l.take k).map (keyAt M)).length (Jb ((Bc M b++l.take k).map (keyAt M)))):=own_below KJ.o uD
      have HR6:Qi (w6.ownsRow lw 3 1 (Y (some ⟨bl,ol,none⟩) l.length bg) l.length (encI l)):=own_below DK.o uD
      clear TV PO yC KJ DK qW uD
      have t1:w6.cell? ⟨wr.heap.size,1,none⟩=some (O J ka):=by rw[dN MS.o];rfl
      have t2:w6.cell? ⟨wr.heap.size,2,none⟩=some (O J kb):=by rw[dN MS.o];rfl
      by_cases CQ:Eh ka kb M.h.length=b
      rotate_left
      ·have Vs:(Eh ka kb M.h.length != (b:Int))=true:=by simpa using CQ
       have HV:Qi (Z=4):=KX.o 4 (by first|decide|exact Ex.ne _ _ (by decide)) (wz.o.trans (by rw[af CQ]))
       clear wz
       generalize Eh ka kb M.h.length=q at *
       go_wp2
       go_ret
       exact⟨Bf HV.o.symm,JJ⟩
      have BR:Qi (Gg M b (Bc M b++l.take k) j=if hasK M (Bc M b++l.take k) (ka,kb) then 6 else 0):=wz.o.trans (by rw[ae (by simpa using CQ)])
      rw[CQ]
      have Vs:((b:Int) != (b:Int))=false:=by simp
      have tJ:((Bc M b++l.take k).map (keyAt M)).length<=100:=by
       simp only[kN,gU,jO]
       omega
      have HT:Qi ((Bc M b++l.take (k+1)).map (keyAt M)=(Bc M b++l.take k).map (keyAt M) ++ [(ka,kb)]):=by
       show _=_
       rw[aV rU,<- bD,bG,HX.o]
       simp[HKy.o]
      rw[a9x] at BR
      have uk:Qi (Gg M b (Bc M b++l.take k) j=0->Gs M b (Bc M b) l=Gs M b (Bc M b++l.take (k+1)) (l.drop (k+1))):=fun hz=>di.o.trans (uZ.o.trans (by rw[HX.o,ae (by simpa using hz)]))
      clear wz CQ uZ di
      obtain⟨ko,TN,hkv⟩:=Bg DL.o
      subst hkv
      generalize (Bc M b++l.take k).map (keyAt M)=kl at *
      have HKA:Qi (KAt w6 ko kl):=KAt.He DL.o
      go_wp2_with fail
      refine(Y7 ko TN kl ka kb w6 (by omega) HKA.o).mono ?_
      rintro e w7 ⟨rfl,zn⟩
      have JI:=JJ.trans (zn.mono JJ.size)
      have HS7:Qi (w7.heap[wr.heap.size]?=_):=(zn.block wr.heap.size (fC MS.o)).trans MS.o
      have KZ:Qi (w7.heap[w.heap.size]?=some (.cells #[Y (some ⟨bs,os,none⟩) M.s.length cS,Y aH M.h.length cH,Y aF M.f.length cF,Y aL M.l.length cL,O J M.w] 25 (0,0))):=(zn.block w.heap.size (fC SN.o)).trans SN.o
      have HO7:Qi (w7.ownsRow (w.heap.size+1) 30 2 (Y ko kl.length TN) kl.length (Jb kl)):=own_below DL.o zn
      have XI:Qi (w7.ownsRow lw 3 1 (Y (some ⟨bl,ol,none⟩) l.length bg) l.length (encI l)):=own_below HR6.o zn
      clear MS SN DL HR6 HKA JJ zn t1 t2
      have t1:w7.cell? ⟨wr.heap.size,1,none⟩=some (O J ka):=by rw[dN HS7.o];rfl
      have t2:w7.cell? ⟨wr.heap.size,2,none⟩=some (O J kb):=by rw[dN HS7.o];rfl
      have ls7:=fC HS7.o
      cases hh:kl.contains (ka,kb)
      rotate_left
      ·have HV:Qi (Z=6):=KX.o 6 (by first|decide|exact Ex.ne _ _ (by decide)) (BR.o.trans (by rw[hh];rfl))
       clear BR
       go_wp2
       go_ret
       exact⟨Bf HV.o.symm,JI⟩
      have HV:Qi _:=uk.o (BR.o.trans (by rw[hh];rfl))
      clear BR hh uk
      have hbs:=JI.size
      go_wp2_with (at_builtin;refine gB _ rfl (.tmp 64) (.tmp 67) 45 rfl (w.heap.size+1) 30 i0 (.agg #[O J 0,O J 0]) 2 16 lG hi ng qj pq rfl (by first|decide|exact Ex.ne _ _ (by decide)) _ _ _ rfl (iV HO7.o _) ⟨w7.heap.size,0,none⟩ 1 1 [O J ka,O J kb] rfl rfl (b2p _ _ _) (by intro x hx;simp only[aZ,kQ,or_false] at hx;rcases hx with rfl|rfl <;> rfl) (by unfold gJ;omega) (by omega) (by simp;omega) ?_;intro v2 w8 QI ZF _ UH;obtain⟨g2,eu,rfl⟩:=kK QI (by omega);have PR:Qi (w8.ownsRow (w.heap.size+1) 30 2 (Y (some ⟨g2,0,none⟩) (kl.length+1) eu) (kl.length+1) (Jb kl ++ [O J ka,O J kb])):=QI;have hb8:Below w.heap.size w w8:=(JI.alloc JI.size _).grown ZF (by simp;omega) (fun q hq=>by have:=(kU HO7.o q hq).1;omega);have HB8:Qi (w8.heap[w.heap.size]?=some (.cells #[Y (some ⟨bs,os,none⟩) M.s.length cS,Y aH M.h.length cH,Y aF M.f.length cF,Y aL M.l.length cL,O J M.w] 25 (0,0))):=Dt KZ.o ZF (own_ne HO7.o KZ.o (by first|decide|exact Ex.ne _ _ (by decide)));have HR8:Qi (w8.ownsRow lw 3 1 (Y (some ⟨bl,ol,none⟩) l.length bg) l.length (encI l)):=(iV XI.o _).kept ZF (D9 XI.o HO7.o (by first|decide|exact Ex.ne _ _ (by decide))).ne;clear QI ZF UH)
      go_roundw
      case rel=>exact⟨k+1,by omega,by go_num,by rw[HT.o,show (kl ++ [(ka,kb)]).length=kl.length+1 by simp,show Jb (kl ++ [(ka,kb)])=Jb kl ++ [O J ka,O J kb] by simp[Jb]];exact PR,HR8,hb8,HB8,HV⟩
      case measure=>simp[lN];omega
     ·have rO:k=l.length:=by omega
      have HV:Qi (Z=Qe M (M.h.length - (b+1)) (b+1) (Bc M (b+1))):=by
       have h1:=di.o.trans (Zb M b (Bc M b) l k (by omega))
       have:=HD.o
       rw[h1,ae (by simp)] at this
       exact this
      have DL:Qi (wr.ownsRow (w.heap.size+1) 30 2 u4 ((Bc M (b+1)).map (keyAt M)).length (Jb ((Bc M (b+1)).map (keyAt M)))):=by
       have:=yR.o
       rw[rO,jS,<- WY.o] at this
       exact this
      go_wp2
      go_roundw
      case rel=>exact⟨b+1,by omega,by go_num,DL,gu,tH,HV⟩
      case measure=>simp[lN];omega
  ·have HV:Qi (Z=0):=HE.o.trans (a0t M b (by omega) _)
   go_wp2
   go_ret
   exact⟨Bf HV.o.symm,jd⟩
end
end Go.Proofs.YthhgoenomehobaaGreat.mm
