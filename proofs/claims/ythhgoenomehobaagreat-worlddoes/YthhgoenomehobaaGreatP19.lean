/- Parts. -/
import Derived.Test.YthhgoenomehobaaGreatP07
import Derived.Test.YthhgoenomehobaaGreatP06
import Derived.Deep.QuietTactic
import Derived.BigQuiet
import Derived.Test.YthhgoenomehobaaGreatP18
import Derived.Test.YthhgoenomehobaaGreatP14
import Derived.Test.YthhgoenomehobaaGreatP13
import Derived.Test.YthhgoenomehobaaGreatP08
import Derived.BigRegion
import Derived.Lib.QuietBelow
import Derived.Deep.Slices
import Derived.SizedLaws
import Derived.Carry
import Derived.Test.YthhgoenomehobaaGreatP12
import Derived.Test.YthhgoenomehobaaGreatP09
namespace Go.Proofs.YthhgoenomehobaaGreat.mm
set_option maxRecDepth 100000
set_option linter.unusedVariables false
open Go.Value renaming int → O, slice → Y
open Go.IntKind renaming i64 → J
open Go.Proofs.Tryz renaming prog → Pg
open Go renaming World → Wq
open Go.ChangeShapes Go.WideShapes Go.ChangeAt Go.RowKit
set_option maxHeartbeats 6400000
section
open Go.Maps
theorem Ez(w:Wq)(q:Nat):Below w.heap.size w (w.drewN q):=⟨rfl,rfl,rfl,Nat.le_refl _,fun _ _=>rfl⟩
set_option maxRecDepth 100000 in
theorem a8y(S:List Sl)(H F L:List Int)(now:Int)(aS aH aF aL:Option Addr)(cS cH cF cL:Nat)(w:Wq)(n1:S.length<=9223372036854775807)(n2:H.length<=9223372036854775807)(n3:L.length<=9223372036854775807)(h:12<S.length) :
  Calls Pg 61 #[.agg #[.slice aS S.length cS,.slice aH H.length cH,.slice aF F.length cF,.slice aL L.length cL,.int .i64 now]] w fun e w'=>e=.returned (.int .i64 2)/\Below w.heap.size w w':=by
 go_enter Tryz.func61,Tryz.ntmps61
 go_wp2_with fail
 go_quiet (fail)
 go_wp2
 go_ret
 exact⟨rfl,(A7 _ _).trans ((Ez _ _).mono (by simp))⟩
set_option maxRecDepth 100000 in
theorem a8z(S:List Sl)(H F L:List Int)(now:Int)(aS aH aF aL:Option Addr)(cS cH cF cL:Nat)(w:Wq)(n1:S.length<=9223372036854775807)(n2:H.length<=9223372036854775807)(n3:L.length<=9223372036854775807)(h0:S.length<=12)(h:H.length<1) :
  Calls Pg 61 #[.agg #[.slice aS S.length cS,.slice aH H.length cH,.slice aF F.length cF,.slice aL L.length cL,.int .i64 now]] w fun e w'=>e=.returned (.int .i64 2)/\Below w.heap.size w w':=by
 go_enter Tryz.func61,Tryz.ntmps61
 go_wp2_with fail
 go_quiet (fail)
 go_wp2
 go_ret
 exact⟨rfl,(A7 _ _).trans ((Ez _ _).mono (by simp))⟩
set_option maxRecDepth 100000 in
theorem a9a(S:List Sl)(H F L:List Int)(now:Int)(aS aH aF aL:Option Addr)(cS cH cF cL:Nat)(w:Wq)(n1:S.length<=9223372036854775807)(n2:H.length<=9223372036854775807)(n3:L.length<=9223372036854775807)(h0:S.length<=12)(h1:1<=H.length)(h:4<H.length) :
  Calls Pg 61 #[.agg #[.slice aS S.length cS,.slice aH H.length cH,.slice aF F.length cF,.slice aL L.length cL,.int .i64 now]] w fun e w'=>e=.returned (.int .i64 2)/\Below w.heap.size w w':=by
 go_enter Tryz.func61,Tryz.ntmps61
 go_wp2_with fail
 go_quiet (fail)
 go_wp2
 go_ret
 exact⟨rfl,(A7 _ _).trans ((Ez _ _).mono (by simp))⟩
set_option maxRecDepth 100000 in
theorem b1u(S:List Sl)(H F L:List Int)(now:Int)(aS aH aF aL:Option Addr)(cS cH cF cL:Nat)(w:Wq)(n1:S.length<=9223372036854775807)(n2:H.length<=9223372036854775807)(n3:L.length<=9223372036854775807)(h0:S.length<=12)(h1:1<=H.length)(h2:H.length<=4)(h:L.length≠H.length) :
  Calls Pg 61 #[.agg #[.slice aS S.length cS,.slice aH H.length cH,.slice aF F.length cF,.slice aL L.length cL,.int .i64 now]] w fun e w'=>e=.returned (.int .i64 4)/\Below w.heap.size w w':=by
 have hb:((L.length:Int) != (H.length:Int))=true:=by rw[bne_iff_ne];omega
 go_enter Tryz.func61,Tryz.ntmps61
 go_wp2_with fail
 go_quiet (fail)
 go_wp2
 go_ret
 exact⟨rfl,(A7 _ _).trans ((Ez _ _).mono (by simp))⟩
set_option maxRecDepth 100000 in
theorem b1w(S:List Sl)(H F L:List Int)(now:Int)(aS aH aF aL:Option Addr)(cS cH cF cL:Nat)(w:Wq)(n1:S.length<=9223372036854775807)(n2:H.length<=9223372036854775807)(n3:L.length<=9223372036854775807)(h0:S.length<=12)(h1:1<=H.length)(h2:H.length<=4)(h3:L.length=H.length)(h:now<0) :
  Calls Pg 61 #[.agg #[.slice aS S.length cS,.slice aH H.length cH,.slice aF F.length cF,.slice aL L.length cL,.int .i64 now]] w fun e w'=>e=.returned (.int .i64 3)/\Below w.heap.size w w':=by
 have hb:((L.length:Int) != (H.length:Int))=false:=by rw[h3];simp
 clear h3
 go_enter Tryz.func61,Tryz.ntmps61
 go_wp2_with fail
 go_quiet (fail)
 go_wp2
 go_ret
 exact⟨rfl,(A7 _ _).trans ((Ez _ _).mono (by simp))⟩
set_option maxRecDepth 100000 in
theorem b1x(S:List Sl)(H F L:List Int)(now:Int)(aS aH aF aL:Option Addr)(cS cH cF cL:Nat)(w:Wq)(n1:S.length<=9223372036854775807)(n2:H.length<=9223372036854775807)(n3:L.length<=9223372036854775807)(h0:S.length<=12)(h1:1<=H.length)(h2:H.length<=4)(h3:L.length=H.length)(h4:0<=now)(h:1000000<now) :
  Calls Pg 61 #[.agg #[.slice aS S.length cS,.slice aH H.length cH,.slice aF F.length cF,.slice aL L.length cL,.int .i64 now]] w fun e w'=>e=.returned (.int .i64 3)/\Below w.heap.size w w':=by
 have hb:((L.length:Int) != (H.length:Int))=false:=by rw[h3];simp
 clear h3
 go_enter Tryz.func61,Tryz.ntmps61
 go_wp2_with fail
 go_quiet (fail)
 go_wp2
 go_ret
 exact⟨rfl,(A7 _ _).trans ((Ez _ _).mono (by simp))⟩
theorem Pq{x lo hi:Int}(h:x<lo):inB x lo hi=false:=by
 rw[Bool.eq_false_iff];intro hh;rw[Aj] at hh;omega
theorem Pv{x lo hi:Int}(h:hi<x):inB x lo hi=false:=by
 rw[Bool.eq_false_iff];intro hh;rw[Aj] at hh;omega
theorem Nh{x lo hi:Int}(h0:lo<=x)(h1:x<=hi):inB x lo hi=true:=(Aj _ _ _).2 ⟨h0,h1⟩
set_option maxRecDepth 100000 in
theorem b1v(S:List Sl)(H F L:List Int)(now:Int)(aS aH aF aL:Option Addr)(cS cH cF cL:Nat)(w:Wq)(A:At w aS aH aF aL cS cH cF cL ⟨S,H,F,L,now⟩)
  (h0:S.length<=12) (h1:1<=H.length) (h2:H.length<=4) (h3:L.length=H.length) (h4:0<=now) (h5:now<=1000000) :
  Calls Pg 61 #[.agg #[.slice aS S.length cS,.slice aH H.length cH,.slice aF F.length cF,.slice aL L.length cL,.int .i64 now]] w fun e w'=>e=.returned (.int .i64 (chk ⟨S,H,F,L,now⟩))/\Below w.heap.size w w':=by
 obtain⟨Z,hZ⟩:∃ Z:Int,Z=chk ⟨S,H,F,L,now⟩:=⟨_,rfl⟩
 have HC:Hid (Z=(if Ah (Cb H.length S.length) S≠0 then Ah (Cb H.length S.length) S
   else if Ah (Bz H.length S.length) (H.zip L)≠0 then Ah (Bz H.length S.length) (H.zip L)
   else if Be S [] F≠0 then Be S [] F
   else Bl F 0 S)):=by
  show _=_
  rw[hZ]
  unfold chk
  dsimp only
  rw[if_neg (by omega),if_neg (by simpa using h3),if_neg (by rw[Nh h4 h5];simp)]
 rw[<- hZ]
 clear hZ
 have HRS:Hid _:=A.s
 have HRH:Hid _:=A.h
 have HRF:Hid _:=A.f
 have HRL:Hid _:=A.l
 have m3:=A.f.max
 have n3:F.length<=9223372036854775807:=by dsimp only at m3;omega
 clear m3
 have hb:((L.length:Int) != (H.length:Int))=false:=by rw[h3];simp
 have HLH:Hid (L.length=H.length):=h3
 clear A h3
 obtain⟨f,hf⟩:∃ f,f=Cb H.length S.length:=⟨_,rfl⟩
 have HF:Hid (f=Cb H.length S.length):=hf
 clear hf
 go_enter Tryz.func61,Tryz.ntmps61
 go_wp2_with fail
 go_quiet (fail)
 go_wp2
 go_loopw [46] (fun i wr=>∃ k:Nat,k<=S.length/\i=.int .i64 k/\Below (w.heap.size+1) (w.alloc (.cells #[.slice aS S.length cS,.slice aH H.length cH,.slice aF F.length cF,.slice aL L.length cL,.int .i64 now] 25)) wr/\Hid (Ah f S=Ah f (S.drop k)))
  (fun i _=>S.length - (intOf i).toNat)
 case atStart=>exact⟨0,Nat.zero_le _,rfl,(Ez _ _).mono (by simp),by show _=_;rw[List.drop_zero]⟩
 case round =>
  obtain⟨k,hk,rfl,hb1,HE⟩:=hrel
  have hbw:Below w.heap.size w wr:=(A7 w _).trans (hb1.mono (by omega))
  obtain⟨q0,q1,q2,q3,q4,q5⟩:=Eb hb1
  have q6:w.heap.size<wr.heap.size:=q5
  by_cases hlt:k<S.length
  ·rcases HRS.out.at_ with h0'|⟨b,o,rfl,hc⟩
   ·omega
   obtain⟨c0,c1,c2,c3,c4,c5⟩:=hc k hlt
   have lt:=cell_lt c0
   rw[<- (Bv hbw).1 _ _ lt] at c0 c1 c2 c3 c4 c5
   clear hc
   generalize hs:S[k]=s at c0 c1 c2 c3 c4 c5
   obtain⟨r,a,bb,u,i,nx⟩:=s
   dsimp only at c0 c1 c2 c3 c4 c5
   have HS:Hid (S[k]=⟨r,a,bb,u,i,nx⟩):=hs
   clear hs
   have hbx:=hbw.alloc hbw.size (.cells #[.int .i64 r,.int .i64 a,.int .i64 bb,.int .i64 u,.bool i,.int .i64 nx] 64)
   have hby:=hb1.alloc q5 (.cells #[.int .i64 r,.int .i64 a,.int .i64 bb,.int .i64 u,.bool i,.int .i64 nx] 64)
   have bad:∀ e:Int,e≠0->Cb H.length S.length ⟨r,a,bb,u,i,nx⟩=e->Z=e:=fun e he hh=>by
    have h1:Ah f S=e:=Hy hlt (by rw[HS.out,HF.out];exact hh) he HE.out
    rw[HF.out] at h1
    rw[HC.out,h1,if_pos he]
   have HBAD:Hid _:=bad
   clear bad
   by_cases g1:r<0
   ·have HV:Hid (Z=3):=HBAD.out 3 (by first|decide|exact Ex.ne _ _ (by decide)) (by simp[Cb,Pq g1])
    go_wp2
    go_ret
    exact⟨Ba HV.out.symm,hbx⟩
   have g1':0<=r:=by omega
   by_cases g2:1000<r
   ·have HV:Hid (Z=3):=HBAD.out 3 (by first|decide|exact Ex.ne _ _ (by decide)) (by simp[Cb,Pv g2])
    go_wp2
    go_ret
    exact⟨Ba HV.out.symm,hbx⟩
   have g2':r<=1000:=by omega
   by_cases g3:u<0
   ·have HV:Hid (Z=3):=HBAD.out 3 (by first|decide|exact Ex.ne _ _ (by decide)) (by simp[Cb,Pq g3])
    go_wp2
    go_ret
    exact⟨Ba HV.out.symm,hbx⟩
   have g3':0<=u:=by omega
   by_cases g4:2000000<u
   ·have HV:Hid (Z=3):=HBAD.out 3 (by first|decide|exact Ex.ne _ _ (by decide)) (by simp[Cb,Pv g4])
    go_wp2
    go_ret
    exact⟨Ba HV.out.symm,hbx⟩
   have g4':u<=2000000:=by omega
   go_wp2_with fail
   refine(Su a bb _).mono ?_
   rintro e w1 ⟨rfl,hb2⟩
   have hbx2:=hbx.trans (hb2.mono (by have:=hbw.size;simp;omega))
   have hby2:=hby.trans (hb2.mono (by simp;omega))
   have s5:w1.cell? ⟨wr.heap.size,5,none⟩=some (.int .i64 nx):=((Bv hb2).1 _ _ (by simp)).trans (by simp)
   clear hb2 hbx hby c0 c1 c2 c3 c4 c5 q0 q1 q2 q3 q4
   cases g5:E5 a bb
   ·have HV:Hid (Z=3):=HBAD.out 3 (by first|decide|exact Ex.ne _ _ (by decide)) (by simp[Cb,g5])
    go_wp2
    go_ret
    exact⟨Ba HV.out.symm,hbx2⟩
   by_cases g6:(S.length:Int)<nx
   ·have HV:Hid (Z=5):=HBAD.out 5 (by first|decide|exact Ex.ne _ _ (by decide)) (by simp[Cb,Nh g1' g2',Nh g3' g4',g5,Pv g6])
    go_wp2
    go_ret
    exact⟨Ba HV.out.symm,hbx2⟩
   have g6':nx<=(S.length:Int):=by omega
   by_cases g7:nx < -(H.length:Int)
   ·have HV:Hid (Z=5):=HBAD.out 5 (by first|decide|exact Ex.ne _ _ (by decide)) (by simp[Cb,Nh g1' g2',Nh g3' g4',g5,Pq g7])
    go_wp2
    go_ret
    exact⟨Ba HV.out.symm,hbx2⟩
   have g7':-(H.length:Int)<=nx:=by omega
   have HV:Hid (Ah f S=Ah f (S.drop (k+1))):=step_ok hlt (by rw[HS.out,HF.out];simp[Cb,Nh g1' g2',Nh g3' g4',g5,Nh g7' g6']) HE.out
   go_wp2
   go_roundw
   case rel=>exact⟨k+1,by omega,by go_num,hby2,HV⟩
   case measure=>simp[intOf];omega
  ·have HC2:Hid (Z=(if Ah (Bz H.length S.length) (H.zip L)≠0 then Ah (Bz H.length S.length) (H.zip L)
     else if Be S [] F≠0 then Be S [] F
     else Bl F 0 S)):=by
    show _=_
    have h1:Ah f S=0:=by rw[HE.out,Ig f S k (by omega)]
    rw[HF.out] at h1
    rw[HC.out,h1,if_neg (by simp)]
   have HGOOD:Hid (∀ j (hj:j<S.length),0<=S[j].refs):=fun j hj=>by
    have h1:Ah f S=0:=by rw[HE.out,Ig f S k (by omega)]
    have h2:=(Fv f S).1 h1 S[j] (List.getElem_mem hj)
    rw[HF.out] at h2
    have:inB S[j].refs 0 1000=true:=by
     cases hh:inB S[j].refs 0 1000
     ·simp[Cb,hh] at h2
     ·rfl
    exact((Aj _ _ _).1 this).1
   clear HC HE HF
   obtain⟨f,hf⟩:∃ f,f=Bz H.length S.length:=⟨_,rfl⟩
   have HF:Hid (f=Bz H.length S.length):=hf
   clear hf
   have HZL:Hid ((H.zip L).length=H.length):=by show _=_;rw[List.length_zip];have:=HLH.out;omega
   obtain⟨ZZ,hZZ⟩:∃ ZZ,ZZ=H.zip L:=⟨_,rfl⟩
   have HZZ:Hid (ZZ=H.zip L):=hZZ
   clear hZZ
   go_wp2
   go_loopw [87] (fun i wr=>∃ k:Nat,k<=H.length/\i=.int .i64 k/\Below (w.heap.size+1) (w.alloc (.cells #[.slice aS S.length cS,.slice aH H.length cH,.slice aF F.length cF,.slice aL L.length cL,.int .i64 now] 25)) wr/\Hid (Ah f ZZ=Ah f (ZZ.drop k)))
    (fun i _=>H.length - (intOf i).toNat)
   case atStart=>exact⟨0,Nat.zero_le _,rfl,hb1,by show _=_;rw[List.drop_zero]⟩
   case round =>
    clear q0 q1 q2 q3 q4 q5 q6 hbw hb1
    obtain⟨k2,hk2,rfl,hb1,HE⟩:=hrel
    have hbw:Below w.heap.size w wr:=(A7 w _).trans (hb1.mono (by omega))
    obtain⟨q0,q1,q2,q3,q4,q5⟩:=Eb hb1
    by_cases hlt2:k2<H.length
    ·have hltL:k2<L.length:=by have:=HLH.out;omega
     have hltZ:k2<ZZ.length:=by have:=HZL.out;rw[HZZ.out];omega
     rcases HRH.out.at_ with h0'|⟨b,o,rfl,hc⟩
     ·omega
     rcases HRL.out.at_ with h0'|⟨b2,o2,rfl,hc2⟩
     ·omega
     have c0:=hc k2 hlt2
     have d0:=hc2 k2 hltL
     have lt:=cell_lt c0
     have lt2:=cell_lt d0
     rw[<- (Bv hbw).1 _ _ lt] at c0
     rw[<- (Bv hbw).1 _ _ lt2] at d0
     clear hc hc2
     generalize hx:H[k2]=x at c0
     generalize hy:L[k2]=y at d0
     have HS:Hid (ZZ[k2]=(x,y)):=by
      show _=_
      have e:ZZ[k2]?=some (x,y):=by rw[HZZ.out,List.getElem?_zip_eq_some];exact⟨by rw[List.getElem?_eq_getElem hlt2,hx],by rw[List.getElem?_eq_getElem hltL,hy]⟩
      rw[List.getElem?_eq_getElem hltZ] at e
      exact Option.some.inj e
     clear hx hy
     have jl:(k2:Int)<(L.length:Int):=by omega
     have bad:∀ e:Int,e≠0->Bz H.length S.length (x,y)=e->Z=e:=fun e he hh=>by
      have h1:Ah f ZZ=e:=Hy hltZ (by rw[HS.out,HF.out];exact hh) he HE.out
      rw[HF.out,HZZ.out] at h1
      rw[HC2.out,h1,if_pos he]
     have HBAD:Hid _:=bad
     clear bad
     by_cases g1:x=0
     ·have HV:Hid (Z=5):=HBAD.out 5 (by first|decide|exact Ex.ne _ _ (by decide)) (by simp[Bz,g1])
      subst g1
      go_wp2
      go_ret
      exact⟨Ba HV.out.symm,hbw⟩
     have g1':(x==0)=false:=by simpa using g1
     by_cases g2:(S.length:Int)<x
     ·have HV:Hid (Z=5):=HBAD.out 5 (by first|decide|exact Ex.ne _ _ (by decide)) (by simp[Bz,Pv g2])
      go_wp2
      go_ret
      exact⟨Ba HV.out.symm,hbw⟩
     have g2':x<=(S.length:Int):=by omega
     by_cases g3:x < -(H.length:Int)
     ·have HV:Hid (Z=5):=HBAD.out 5 (by first|decide|exact Ex.ne _ _ (by decide)) (by simp[Bz,Pq g3])
      go_wp2
      go_ret
      exact⟨Ba HV.out.symm,hbw⟩
     have g3':-(H.length:Int)<=x:=by omega
     by_cases g4:y < -1
     ·have HV:Hid (Z=3):=HBAD.out 3 (by first|decide|exact Ex.ne _ _ (by decide)) (by simp[Bz,g1,Nh g3' g2',Pq g4])
      go_wp2
      go_ret
      exact⟨Ba HV.out.symm,hbw⟩
     have g4':-1<=y:=by omega
     by_cases g5:4<y
     ·have HV:Hid (Z=3):=HBAD.out 3 (by first|decide|exact Ex.ne _ _ (by decide)) (by simp[Bz,g1,Nh g3' g2',Pv g5])
      go_wp2
      go_ret
      exact⟨Ba HV.out.symm,hbw⟩
     have g5':y<=4:=by omega
     have HV:Hid (Ah f ZZ=Ah f (ZZ.drop (k2+1))):=step_ok hltZ (by rw[HS.out,HF.out];simp[Bz,g1,Nh g3' g2',Nh g4' g5']) HE.out
     go_wp2
     go_roundw
     case rel=>exact⟨k2+1,by omega,by go_num,hb1,HV⟩
     case measure=>simp[intOf];omega
    ·have HC3:Hid (Z=(if Be S [] F≠0 then Be S [] F else Bl F 0 S)):=by
      show _=_
      have h1:Ah f ZZ=0:=by rw[HE.out,Ig f ZZ k2 (by have:=HZL.out;rw[HZZ.out];omega)]
      rw[HF.out,HZZ.out] at h1
      rw[HC2.out,h1,if_neg (by simp)]
     clear HC2 HE HF HZL HZZ
     have hmm:=@run_makeMap Pg
     have q6:w.heap.size<wr.heap.size:=q5
     go_wp2
     obtain⟨G,hG⟩:∃ G,G=wr.heap.size:=⟨_,rfl⟩
     rw[<- hG]
     have HST:Hid (H7 (wr.alloc (.map #[] 0)) G []):=by rw[hG];exact H7.made wr
     have hb2:=hb1.alloc q5 (.map #[] 0)
     have hGl:w.heap.size<G:=by rw[hG];exact q5
     clear hG hmm q0 q1 q2 q3 q4 q5 hbw hb1
     go_loopw [127] (fun i wr=>∃ k:Nat,k<=F.length/\i=.int .i64 k/\Below (w.heap.size+1) (w.alloc (.cells #[.slice aS S.length cS,.slice aH H.length cH,.slice aF F.length cF,.slice aL L.length cL,.int .i64 now] 25)) wr/\H7 wr G (F.take k)/\Hid (Be S [] F=Be S (F.take k) (F.drop k)))
      (fun i _=>F.length - (intOf i).toNat)
     case atStart=>exact⟨0,Nat.zero_le _,rfl,hb2,HST.out,by show _=_;rw[List.drop_zero,List.take_zero]⟩
     case round =>
      obtain⟨k3,hk3,rfl,hb1,hST,HE⟩:=hrel
      clear HST hb2
      have HST:Hid (H7 wr G (F.take k3)):=hST
      clear hST
      have hbw:Below w.heap.size w wr:=(A7 w _).trans (hb1.mono (by omega))
      obtain⟨q0,q1,q2,q3,q4,q5⟩:=Eb hb1
      by_cases hlt3:k3<F.length
      ·rcases HRF.out.at_ with h0'|⟨b,o,rfl,hc⟩
       ·omega
       have c0:=hc k3 hlt3
       have lt:=cell_lt c0
       rw[<- (Bv hbw).1 _ _ lt] at c0
       clear hc
       generalize hx:F[k3]=x at c0
       have HX:Hid (F[k3]=x):=hx
       clear hx
       have bad5:Fz S x=false->Z=5:=fun hh=>by
        rw[HC3.out,Pn hlt3 (by rw[HX.out];exact hh) HE.out];rfl
       have HB5:Hid _:=bad5
       clear bad5
       by_cases g1:x<0
       ·have HV:Hid (Z=5):=HB5.out (Sm (Pq g1))
        go_wp2
        go_ret
        exact⟨Ba HV.out.symm,hbw⟩
       have g1':0<=x:=by omega
       by_cases g2:(S.length:Int)<=x
       ·have HV:Hid (Z=5):=HB5.out (Sm (Pv (by omega)))
        go_wp2
        go_ret
        exact⟨Ba HV.out.symm,hbw⟩
       have g2':x<(S.length:Int):=by omega
       obtain⟨j,rfl⟩:∃ j:Nat,x=j:=⟨x.toNat,by omega⟩
       have hj:j<S.length:=by omega
       rcases HRS.out.at_ with h0'|⟨b2,o2,rfl,hc2⟩
       ·omega
       have d0:=(hc2 j hj).1
       have lt2:=cell_lt d0
       rw[<- (Bv hbw).1 _ _ lt2] at d0
       clear hc2
       generalize hr:S[j].refs=r at d0
       have HOK:Hid (Fz S (j:Int)=decide (r=0)):=by
        show _=_
        rw[Xk hj rfl,hr]
       have HRP:Hid (0<=r):=by
        have:=HGOOD.out j hj
        show 0<=r
        rw[<- hr];exact this
       clear hr
       by_cases g3:0<r
       ·have HV:Hid (Z=5):=HB5.out (by rw[HOK.out];simp;omega)
        go_wp2
        go_ret
        exact⟨Ba HV.out.symm,hbw⟩
       have g3':r=0:=by have:=HRP.out;have:0<=r:=this;omega
       subst g3'
       have hlk:=HST.out.look (x:=(j:Int)) (wf64 (by omega) (by omega))
       cases g4:hasB (F.take k3) (j:Int)
       ·rw[g4] at hlk
        have HV:Hid (Be S [] F=Be S (F.take (k3+1)) (F.drop (k3+1))):=Xj hlt3 (by rw[HX.out,HOK.out];rfl) (by rw[HX.out];exact g4) HE.out
        obtain⟨nn,hnn,D,ho,hat⟩:=HST.out
        have HO:Hid (wr.ownsMap Pg 3 (plainElem Pg 4) G nn D):=ho
        have HAT:Hid _:=hat
        clear ho hat
        have HNN:Hid (nn<=(F.take k3).length):=hnn
        have hnl:nn<=k3:=by rw[List.length_take] at hnn;omega
        clear hnn
        go_wp2_with (at_mapUpdate;(refine wpList_mapUpdate_own (H:=Unit) _ rfl _ _ _ 155 rfl 3 4 law3 a0g (plainElem Pg 4) G nn D rfl HO.out (by unfold maxLen;omega) _ _ (.int .i64 (j:Int)) rfl rfl (keyOf_int_mk Tryz.underlying3 (wf64 (by omega) (by omega))) (.lit (.bool true)) [] (plainElem_bool Tryz.underlying4 true) ?_;intro w9 ho9 hg9))
        go_roundw
        case rel=>exact⟨k3+1,by omega,by go_num,hb1.grown hg9 q5 (fun k h=>by cases h;exact hGl),by rw[List.take_succ_eq_append_getElem hlt3,HX.out];exact H7.put HNN.out HO.out HAT.out ho9,HV⟩
        case measure=>simp[intOf];omega
       ·rw[g4] at hlk
        have HV:Hid (Z=6):=by
         show _=_
         rw[HC3.out,V5 hlt3 (by rw[HX.out,HOK.out];rfl) (by rw[HX.out];exact g4) HE.out];rfl
        go_wp2
        go_ret
        exact⟨Ba HV.out.symm,hbw⟩
      ·have HZ2:Hid (Z=Bl F 0 S):=by
        show _=_
        rw[HC3.out,HE.out,Tu S F k3 (by omega)];rfl
       have HST2:Hid (H7 wr G F):=by
        have:=HST.out
        rwa [List.take_of_length_le (by omega)] at this
       clear HC3 HE HST
       go_wp2
       go_loopw [156] (fun i wr=>∃ k:Nat,k<=S.length/\i=.int .i64 k/\Below (w.heap.size+1) (w.alloc (.cells #[.slice aS S.length cS,.slice aH H.length cH,.slice aF F.length cF,.slice aL L.length cL,.int .i64 now] 25)) wr/\H7 wr G F/\Hid (Bl F 0 S=Bl F k (S.drop k)))
        (fun i _=>S.length - (intOf i).toNat)
       case atStart=>exact⟨0,Nat.zero_le _,rfl,hb1,HST2.out,by show _=_;rw[List.drop_zero]⟩
       case round =>
        clear q0 q1 q2 q3 q4 q5 hbw hb1 HST2
        obtain⟨k4,hk4,rfl,hb1,hST,HE⟩:=hrel
        have HST:Hid (H7 wr G F):=hST
        clear hST
        have hbw:Below w.heap.size w wr:=(A7 w _).trans (hb1.mono (by omega))
        obtain⟨q0,q1,q2,q3,q4,q5⟩:=Eb hb1
        by_cases hlt4:k4<S.length
        ·rcases HRS.out.at_ with h0'|⟨b,o,rfl,hc⟩
         ·omega
         obtain⟨c0,c1,c2,c3,c4,c5⟩:=hc k4 hlt4
         have lt:=cell_lt c0
         rw[<- (Bv hbw).1 _ _ lt] at c0 c1 c2 c3 c4 c5
         clear hc
         generalize hs:S[k4]=s at c0 c1 c2 c3 c4 c5
         obtain⟨r,a,bb,u,i,nx⟩:=s
         dsimp only at c0 c1 c2 c3 c4 c5
         have HS:Hid (S[k4]=⟨r,a,bb,u,i,nx⟩):=hs
         clear hs
         have hbx:=hbw.alloc hbw.size (.cells #[.int .i64 r,.int .i64 a,.int .i64 bb,.int .i64 u,.bool i,.int .i64 nx] 64)
         have hby:=hb1.alloc q5 (.cells #[.int .i64 r,.int .i64 a,.int .i64 bb,.int .i64 u,.bool i,.int .i64 nx] 64)
         have HST4:Hid (H7 (wr.alloc (.cells #[.int .i64 r,.int .i64 a,.int .i64 bb,.int .i64 u,.bool i,.int .i64 nx] 64)) G F):=HST.out.kept (Below.heap_alloc _ _ _ HST.out.lt)
         have hlk:=HST4.out.look (x:=(k4:Int)) (wf64 (by omega) (by omega))
         by_cases g1:r=0
         ·subst g1
          cases g2:hasB F (k4:Int)
          ·rw[g2] at hlk
           have HV:Hid (Z=4):=by
            show _=_
            rw[HZ2.out,Vj hlt4 (by rw[HS.out]) g2 HE.out]
           go_wp2
           go_ret
           exact⟨Ba HV.out.symm,hbx⟩
          ·rw[g2] at hlk
           have HV:Hid (Bl F 0 S=Bl F (k4+1) (S.drop (k4+1))):=Ol hlt4 (.inr g2) HE.out
           go_wp2
           go_roundw
           case rel=>exact⟨k4+1,by omega,by go_num,hby,HST4.out,HV⟩
           case measure=>simp[intOf];omega
         ·have g1':(r==0)=false:=by simpa using g1
          have HV:Hid (Bl F 0 S=Bl F (k4+1) (S.drop (k4+1))):=Ol hlt4 (.inl (by rw[HS.out];exact g1)) HE.out
          clear hlk
          go_wp2
          go_roundw
          case rel=>exact⟨k4+1,by omega,by go_num,hby,HST4.out,HV⟩
          case measure=>simp[intOf];omega
        ·have HV:Hid (Z=0):=by
          show _=_
          rw[HZ2.out,HE.out,U2 F S k4 (by omega)]
         go_wp2
         go_ret
         exact⟨Ba HV.out.symm,hbw⟩
theorem a1n(M:Mm)(v:Value)(w:Wq)(lo:Nat)(A:Ans lo w v M) :
  Calls Pg 61 #[v] w fun e w'=>e=.returned (.int .i64 (chk M))/\Below w.heap.size w w':=by
 obtain⟨aS,aH,aF,aL,cS,cH,cF,cL,rfl,A,-⟩:=A
 obtain⟨S,H,F,L,now⟩:=M
 have m1:=A.s.max;have m2:=A.h.max;have m4:=A.l.max
 dsimp only at m1 m2 m4
 have n1:S.length<=9223372036854775807:=by omega
 have n2:H.length<=9223372036854775807:=by omega
 have n3:L.length<=9223372036854775807:=by omega
 by_cases h0:12<S.length
 ·have e:chk ⟨S,H,F,L,now⟩=2:=by unfold chk;dsimp only;rw[if_pos (.inl h0)]
  rw[e];exact a8y S H F L now aS aH aF aL cS cH cF cL w n1 n2 n3 h0
 by_cases h1:H.length<1
 ·have e:chk ⟨S,H,F,L,now⟩=2:=by unfold chk;dsimp only;rw[if_pos (.inr (.inl h1))]
  rw[e];exact a8z S H F L now aS aH aF aL cS cH cF cL w n1 n2 n3 (by omega) h1
 by_cases h2:4<H.length
 ·have e:chk ⟨S,H,F,L,now⟩=2:=by unfold chk;dsimp only;rw[if_pos (.inr (.inr h2))]
  rw[e];exact a9a S H F L now aS aH aF aL cS cH cF cL w n1 n2 n3 (by omega) (by omega) h2
 by_cases h3:L.length=H.length
 rotate_left
 ·have e:chk ⟨S,H,F,L,now⟩=4:=by unfold chk;dsimp only;rw[if_neg (by omega),if_pos h3]
  rw[e];exact b1u S H F L now aS aH aF aL cS cH cF cL w n1 n2 n3 (by omega) (by omega) (by omega) h3
 by_cases h4:now<0
 ·have e:chk ⟨S,H,F,L,now⟩=3:=by unfold chk;dsimp only;rw[if_neg (by omega),if_neg (by simpa using h3),if_pos (Pq h4)]
  rw[e];exact b1w S H F L now aS aH aF aL cS cH cF cL w n1 n2 n3 (by omega) (by omega) (by omega) h3 h4
 by_cases h5:1000000<now
 ·have e:chk ⟨S,H,F,L,now⟩=3:=by unfold chk;dsimp only;rw[if_neg (by omega),if_neg (by simpa using h3),if_pos (Pv h5)]
  rw[e];exact b1x S H F L now aS aH aF aL cS cH cF cL w n1 n2 n3 (by omega) (by omega) (by omega) h3 (by omega) h5
 exact b1v S H F L now aS aH aF aL cS cH cF cL w A (by omega) (by omega) (by omega) h3 (by omega) (by omega)
end
section
open Go.Joins
theorem a3d(aS aH aF aL:Option Addr):Hi4 0 aS aH aF aL:=⟨fun _ _=>Nat.zero_le _,fun _ _=>Nat.zero_le _,fun _ _=>Nat.zero_le _,fun _ _=>Nat.zero_le _⟩
theorem Zp(M:Mm)(l:List (Tk × TkV))(aS aH aF aL:Option Addr)(cS cH cF cL:Nat)(aT:Option Addr)(cT:Nat)(w:Wq)(A:At w aS aH aF aL cS cH cF cL M)(r:Ef w aT cT l) :
  Calls Pg 17 #[.agg #[Y aS M.slots.length cS,Y aH M.heads.length cH,Y aF M.free.length cF,Y aL M.locks.length cL,O J M.now,Y aT l.length cT]] w fun e w'=>e=.returned (O J (wE ⟨M,l.map (·.1)⟩))/\Below w.heap.size w w':=by
 have m1:=A.s.max;have m2:=A.h.max;have m3:=r.max
 obtain⟨E0,hE0⟩:∃ x,x=wE ⟨M,l.map (·.1)⟩:=⟨_,rfl⟩
 rw[<- hE0]
 have HV0:Hid (E0=wE ⟨M,l.map (·.1)⟩):=hE0
 clear hE0
 obtain⟨om,hom⟩:∃ o:Obj,o=.cells #[Y aS M.slots.length cS,Y aH M.heads.length cH,Y aF M.free.length cF,Y aL M.locks.length cL,O J M.now,Y aT l.length cT] 28:=⟨_,rfl⟩
 have b0:Below w.heap.size w (w.alloc om):=A7 w om
 have HB0:Hid ((w.alloc om).heap[w.heap.size]?=some om):=heap_alloc_new w om
 have HA0:Hid (Ans 0 (w.alloc om) (.agg #[Y aS M.slots.length cS,Y aH M.heads.length cH,Y aF M.free.length cF,Y aL M.locks.length cL,O J M.now]) M):=⟨aS,aH,aF,aL,cS,cH,cF,cL,rfl,A.below b0,a3d _ _ _ _⟩
 have HR0:Hid (Ef (w.alloc om) aT cT l):=r.below b0
 clear A r
 go_enter Tryz.func17,Tryz.ntmps17
 go_wp2_with fail
 rw[<- hom]
 generalize w.alloc om=W0 at *
 refine(a1n M _ W0 0 HA0.out).mono ?_
 rintro e w1 ⟨rfl,hb1⟩
 have HB1:Hid (w1.heap[w.heap.size]?=some om):=(hb1.block _ (lt_of_block HB0.out)).trans HB0.out
 have HR1:Hid (Ef w1 aT cT l):=HR0.out.below hb1
 have b1:Below w.heap.size w w1:=b0.trans (hb1.mono b0.size)
 clear HB0 HA0 HR0 hb1 b0
 subst hom
 obtain⟨q0,q1,q2,q3,q4,q5,qs⟩:=Bc HB1.out
 by_cases hC:chk M=0
 rotate_left
 ·have h':(chk M != 0)=true:=by simpa using hC
  have HV:Hid (E0=chk M):=HV0.out.trans (a9z hC)
  generalize chk M=C at *
  go_wp2
  go_ret
  exact⟨by rw[HV.out];rfl,b1⟩
 have HC:Hid (chk M=0):=hC
 rw[hC]
 clear hC
 by_cases hn:l.length<1\/5<l.length
 ·have HV:Hid (E0=3):=HV0.out.trans (a3r HC.out (by simpa using hn))
  by_cases h1:l.length<1
  ·have h1':(l.length:Int)<1:=by omega
   clear hn
   go_wp2
   go_ret
   exact⟨by rw[HV.out];rfl,b1⟩
  ·have h1':¬ (l.length:Int)<1:=by omega
   have h2':(l.length:Int) > 5:=by omega
   clear hn
   go_wp2
   go_ret
   exact⟨by rw[HV.out];rfl,b1⟩
 have HV1:Hid (E0=Ah (fun p:Tk × TkV=>tkE M p.1) l):=HV0.out.trans ((a3q HC.out (by show ¬ ((l.map (·.1)).length<1\/5<(l.map (·.1)).length);rw[List.length_map];exact hn)).trans (Po _ _ _))
 clear HV0
 have hn1:¬ (l.length:Int)<1:=by omega
 have hn5:¬ (l.length:Int) > 5:=by omega
 have hn0:¬ l.length=0:=by omega
 clear hn
 obtain⟨f,hf⟩:∃ f:Tk × TkV->Int,f=fun p=>tkE M p.1:=⟨_,rfl⟩
 rw[<- hf] at HV1
 have HF:Hid (f=fun p:Tk × TkV=>tkE M p.1):=hf
 clear hf
 obtain⟨b,o,rfl⟩:=HR1.out.addr (by omega)
 go_wp2
 go_loopw [28] (fun i wr=>∃ k:Nat,k<=l.length/\i=O J k/\Hid (Below w1.heap.size w1 wr)/\Hid (E0=Ah f (l.drop k)))
  (fun i _=>l.length - (intOf i).toNat)
 case atStart=>exact⟨0,Nat.zero_le _,rfl,Below.refl _ _,by show _=_;rw[List.drop_zero];exact HV1.out⟩
 case round =>
  obtain⟨k,hk,rfl,HBl,HE⟩:=hrel
  clear HV1 q0 q1 q2 q3 q4 q5 hn1 hn5
  have bw:Below w.heap.size w wr:=b1.trans (HBl.out.mono b1.size)
  by_cases hlt:k<l.length
  ·have HBr:Hid (wr.heap[w.heap.size]?=_):=(HBl.out.block _ qs).trans HB1.out
   have HRr:Hid (Ef wr (some ⟨b,o,none⟩) cT l):=HR1.out.below HBl.out
   have hHd:=HRr.out.held _ (List.getElem_mem hlt)
   have hkm:=(HRr.out.keys _ (List.getElem_mem hlt)).max
   have hrg:=HRr.out.range hlt
   have hbl:b<wr.heap.size:=cell_lt (HRr.out.cells hlt).1
   obtain⟨p,hp⟩:∃ p,p=l[k]:=⟨_,rfl⟩
   rw[<- hp] at hrg hHd hkm
   have HP:Hid (l[k]=p):=hp.symm
   clear hp
   obtain⟨⟨bz,g,hd⟩,⟨aK,cK,aD,cD⟩⟩:=p
   dsimp only at hHd hkm hrg
   have lT:Hid (wr.rangeAt b (o+k*16) (Tk.enc ⟨bz,g,hd⟩ ⟨aK,cK,aD,cD⟩)):=hrg
   have HG:Hid (f l[k]=tkE M ⟨bz,g,hd⟩):=by show _=_;rw[HF.out,HP.out]
   obtain⟨ot,hot⟩:∃ ot:Obj,ot=.cells #[.bool bz,O J g.c.kind,O J g.c.a,O J g.c.b,O J g.c.time,O J g.c.bk,O J g.c.slot,O J g.pl,O J g.cur,O J g.prev,O J g.slot,O J g.n,Y aK g.keys.length cK,.bool g.done,O J g.e,Y aD hd.length cD] 49:=⟨_,rfl⟩
   have HT2:Hid ((wr.alloc ot).heap[wr.heap.size]?=some ot):=heap_alloc_new wr ot
   have b2:Below w.heap.size w (wr.alloc ot):=bw.alloc bw.size _
   have HD2:Hid (Cj (wr.alloc ot) aD cD hd):=hHd.below (A7 wr ot)
   have HL2:Hid (Below w1.heap.size w1 (wr.alloc ot)):=HBl.out.alloc HBl.out.size _
   have HB2:Hid ((wr.alloc ot).heap[w.heap.size]?=_):=(Below.heap_alloc _ _ _ (lt_of_block HBr.out)).trans HBr.out
   have m4:=hHd.max
   clear hHd HBr HRr HBl bw hrg HP
   have t15:(wr.alloc ot).cell? ⟨wr.heap.size,15,none⟩=some (Y aD hd.length cD):=(cell_of_block (HT2.out.trans (congrArg some hot)) _).trans rfl
   obtain⟨W2,hW2⟩:∃ W2,W2=wr.alloc ot:=⟨_,rfl⟩
   rw[<- hW2] at HT2 b2 HD2 HL2 HB2 t15
   subst hot
   have HW2:Hid (W2=wr.alloc (.cells #[.bool bz,O J g.c.kind,O J g.c.a,O J g.c.b,O J g.c.time,O J g.c.bk,O J g.c.slot,O J g.pl,O J g.cur,O J g.prev,O J g.slot,O J g.n,Y aK g.keys.length cK,.bool g.done,O J g.e,Y aD hd.length cD] 49)):=hW2
   clear hW2
   by_cases hh:100<hd.length
   ·have HV:Hid (E0=2):=Nu hlt HG.out (by rw[Vy hh];decide) HE.out |>.trans (Vy hh)
    have hh':(hd.length:Int) > 100:=by omega
    go_wp2_with (first|(have h9:=lT.out;refine Ud rfl _ rfl rfl h9 ?_;clear h9 lT)|(rw[<- HW2.out];clear HW2))
    go_ret
    exact⟨by rw[HV.out];rfl,b2⟩
   have hh':¬ (hd.length:Int) > 100:=by omega
   go_wp2_with (first|(have h9:=lT.out;refine Ud rfl _ rfl rfl h9 ?_;clear h9 lT)|(rw[<- HW2.out];clear HW2))
   generalize wr.heap.size=X at *
   clear t15
   go_loopw [39] (fun i wr=>∃ j:Nat,j<=hd.length/\i=O J j/\Hid (Below W2.heap.size W2 wr)/\Hid (Ah (hdE M) hd=Ah (hdE M) (hd.drop j)))
    (fun i _=>hd.length - (intOf i).toNat)
   case atStart=>exact⟨0,Nat.zero_le _,rfl,Below.refl _ _,by show _=_;rw[List.drop_zero]⟩
   case round =>
    obtain⟨j,hj,rfl,HBi,HEi⟩:=hrel
    have HB3:Hid (wr.heap[w.heap.size]?=_):=(HBi.out.block _ (lt_of_block HB2.out)).trans HB2.out
    have HT3:Hid (wr.heap[X]?=_):=(HBi.out.block _ (lt_of_block HT2.out)).trans HT2.out
    have b3:Below w.heap.size w wr:=b2.trans (HBi.out.mono b2.size)
    have HL3:Hid (Below w1.heap.size w1 wr):=HL2.out.trans (HBi.out.mono HL2.out.size)
    have HD3:Hid (Cj wr aD cD hd):=HD2.out.below HBi.out
    obtain⟨q0,q1,q2,q3,q4,q5,qs'⟩:=Bc HB3.out
    clear HB2 HT2 HL2 b2 HD2
    by_cases hjl:j<hd.length
    ·rcases HD3.out.at_ with h0|⟨bd,od,rfl,hc⟩
     ·omega
     have c0:=hc j hjl
     clear hc
     obtain⟨a,ha⟩:∃ a,a=hd[j]:=⟨_,rfl⟩
     rw[<- ha] at c0
     by_cases hs:Dc M a=true
     ·have HV:Hid (Ah (hdE M) hd=Ah (hdE M) (hd.drop (j+1))):=Ug hjl (by unfold hdE;rw[<- ha,if_pos hs]) HEi.out
      have h1:¬ a<0:=by have:=(Eg.1 hs).1;omega
      have h2:¬ a ≥ (M.slots.length:Int):=by have:=(Eg.1 hs).2;omega
      clear hs ha
      go_wp2
      go_roundw
      case rel=>exact⟨j+1,by omega,by go_num,HBi,HV⟩
      case measure=>simp[intOf];omega
     ·have HV5:Hid (Ah (hdE M) hd=5):=Nu hjl (by unfold hdE;rw[<- ha,if_neg hs]) (by decide) HEi.out
      have HV:Hid (E0=5):=(Nu hlt HG.out (by rw[Vx hh HV5.out];decide) HE.out).trans (Vx hh HV5.out)
      have hs2:a<0\/a ≥ (M.slots.length:Int):=Classical.byContradiction fun h=>hs (Eg.2 ⟨by omega,by omega⟩)
      clear hs ha
      by_cases h1:a<0
      ·clear hs2
       go_wp2
       go_ret
       exact⟨by rw[HV.out];rfl,b3⟩
      ·have h2:a ≥ (M.slots.length:Int):=by omega
       clear hs2
       go_wp2
       go_ret
       exact⟨by rw[HV.out];rfl,b3⟩
    ·have HF0:Hid (Ah (hdE M) hd=0):=drop_end (by omega) HEi.out
     have lF:Hid (wr.rangeAt X 1 (g.enc aK cK)):=Au HT3.out rfl
     have l5:Hid (wr.rangeAt w.heap.size 0 [Y aS M.slots.length cS,Y aH M.heads.length cH,Y aF M.free.length cF,Y aL M.locks.length cL,O J M.now]):=Au HB3.out rfl
     have t0:wr.cell? ⟨X,0,none⟩=some (.bool bz):=by rw[cell_of_block HT3.out];rfl
     clear HEi HB3 HT3 HD3
     cases bz
     ·have HV:Hid (E0=Ah f (l.drop (k+1))):=Ug hlt (HG.out.trans (a0c hh HF0.out rfl)) HE.out
      clear lF l5 q0 q1 q2 q3 q4 q5
      go_wp2
      go_roundw
      case rel=>exact⟨k+1,by omega,by go_num,HL3,HV⟩
      case measure=>simp[intOf];omega
     ·have HG2:Hid (f l[k]=frE M.slots.length M.heads.length g):=HG.out.trans (a0b hh HF0.out rfl)
      clear q0 q1 q2 q3 q4 q5
      go_wp2_with (first|(have h9:=l5.out;refine b2o rfl _ rfl rfl h9 ?_;clear h9 l5)|(have h9:=lF.out;refine We rfl _ rfl rfl h9 ?_;clear h9 lF))
      refine(Yb aS aH aF aL M.slots.length M.heads.length M.free.length M.locks.length cS cH cF cL M.now g aK cK _ (by omega) (by omega) (by omega)).mono ?_
      rintro e w4 ⟨rfl,hb4⟩
      have b4:Below w.heap.size w w4:=b3.trans (hb4.mono b3.size)
      have HL4:Hid (Below w1.heap.size w1 w4):=HL3.out.trans (hb4.mono HL3.out.size)
      clear hb4 t0 HG
      generalize frE M.slots.length M.heads.length g=C0 at *
      by_cases hC:C0=0
      ·subst hC
       have HV:Hid (E0=Ah f (l.drop (k+1))):=Ug hlt HG2.out HE.out
       go_wp2
       go_roundw
       case rel=>exact⟨k+1,by omega,by go_num,HL4,HV⟩
       case measure=>simp[intOf];omega
      ·have h':(C0 != 0)=true:=by simpa using hC
       have HV:Hid (E0=C0):=Nu hlt HG2.out hC HE.out
       go_wp2
       go_ret
       exact⟨by rw[HV.out];rfl,b4⟩
  ·have HV:Hid (E0=0):=drop_end (by omega) HE.out
   go_wp2
   go_ret
   exact⟨by rw[HV.out];rfl,bw⟩
end
section
open Go.Joins Go.Deep Go.Sort
variable {Xb:Ex}
theorem P5(M:Mm)(f:Fr)(b:Nat)(B lo:Nat)(aS aH aF aL:Option Addr)(cS cH cF cL:Nat)(aK:Option Addr)(cK:Nat)(w:Wq)
  (m:Mine Xb w B lo aS aH aF aL cS cH cF cL M) (hM:Ok M) (hbl:b<M.heads.length) :
  Calls Pg 208 #[.pointer (some ⟨B,0,none⟩),O J (b:Int),.agg #[O J f.c.kind,O J f.c.a,O J f.c.b,O J f.c.time,O J f.c.bk,O J f.c.slot,O J f.pl,O J f.cur,O J f.prev,O J f.slot,O J f.n,Y aK f.keys.length cK,.bool f.done,O J f.e]] w fun e w'=>e=.returned (.tuple #[.agg #[O J ({ f with prev:=0,cur:=Bf M b }).c.kind,O J ({ f with prev:=0,cur:=Bf M b }).c.a,O J ({ f with prev:=0,cur:=Bf M b }).c.b,O J ({ f with prev:=0,cur:=Bf M b }).c.time,O J ({ f with prev:=0,cur:=Bf M b }).c.bk,O J ({ f with prev:=0,cur:=Bf M b }).c.slot,O J ({ f with prev:=0,cur:=Bf M b }).pl,O J ({ f with prev:=0,cur:=Bf M b }).cur,O J ({ f with prev:=0,cur:=Bf M b }).prev,O J ({ f with prev:=0,cur:=Bf M b }).slot,O J ({ f with prev:=0,cur:=Bf M b }).n,Y aK ({ f with prev:=0,cur:=Bf M b }).keys.length cK,.bool ({ f with prev:=0,cur:=Bf M b }).done,O J ({ f with prev:=0,cur:=Bf M b }).e],.bool true])/\Has Xb w' B lo (Up w (Ac B aS aH aF aL)) M/\Fine w w' (Ac B aS aH aF aL):=by
 have hnh:=hM.nh.2
 obtain⟨gH,rfl,oH,lH,-,-⟩:=Bh m.c.h (by omega)
 obtain⟨x,hx⟩:∃ x,x=M.heads[b]:=⟨_,rfl⟩
 have hhd:Bf M b=x:=by rw[hx];simp[Bf,List.getD_eq_getElem?_getD,hbl]
 rw[hhd]
 have HX:Hid (∀ W,Mine Xb W B lo aS (some ⟨gH,0,none⟩) aF aL cS cH cF cL M->W.cell? ⟨gH,b,none⟩=some (O J x)):=fun W m'=>by rw[hx];exact(Fe m'.c.h hbl).1
 have HCh:Hid (∀ W:Wq,Calls Pg 97 #[.agg #[Y aS M.slots.length cS,Y (some ⟨gH,0,none⟩) M.heads.length cH,Y aF M.free.length cF,Y aL M.locks.length cL,O J M.now],O J (b:Int)] W fun e w'=>e=.returned (.bool true)/\Below W.heap.size W w'):=fun W=>(show inB (b:Int) 0 ((M.heads.length:Int) - 1)=true from (Aj _ _ _).2 (by omega)) ▸ Gi _ _ _ _ _ _ _ _ cS cH cF cL M.now (b:Int) W (by omega)
 obtain⟨of,hof⟩:=frObj f aK cK
 obtain⟨oz,hoz⟩:∃ o:Obj,o=Ae:=⟨_,rfl⟩
 have HE:Hid (Lk Xb w ((w.alloc of).alloc oz) B lo aS (some ⟨gH,0,none⟩) aF aL cS cH cF cL M f aK cK):=Lk.first m f aK cK hof hoz
 obtain⟨q0,q1,q2,q3,q4,-,-,-,-,-,qs⟩:=Af m.box
 obtain⟨f0,f1,f2,f3,f4,f5,f6,f7,f8,f9,f10,f11,f12,f13,ff,fs⟩:=A8 HE.out.fb
 unfold Ae at hoz
 clear m hM hnh hx hhd oH lH
 go_enter Tryz.func208,Tryz.ntmps208
 go_wp2_with fail
 rw[<- hof,<- hoz]
 generalize (w.alloc of).alloc oz=W0 at *
 subst hof hoz
 clear q0 q1 q2 q3 q4 qs
 clear f0 f1 f2 f3 f4 f5 f6 f7 f8 f9 f10 f11 f12 f13 ff fs
 refine(HCh.out W0).mono ?_
 rintro e w2 ⟨rfl,hb2⟩
 have HE2:Hid (Lk Xb w w2 B lo aS (some ⟨gH,0,none⟩) aF aL cS cH cF cL M f aK cK):=HE.out.below hb2
 clear HE hb2
 obtain⟨q0,q1,q2,q3,q4,-,-,-,-,-,qs⟩:=Af HE2.out.m.box
 obtain⟨f0,f1,f2,f3,f4,f5,f6,f7,f8,f9,f10,f11,f12,f13,ff,fs⟩:=A8 HE2.out.fb
 have hc:=HX.out w2 HE2.out.m
 have hcl:=cell_lt hc
 have hB0:B<w.heap.size:=HE2.out.lt B (.inl rfl)
 have hg0:gH<w.heap.size:=HE2.out.lt gH (.inr (.inr (.inl ⟨_,rfl,rfl⟩)))
 have hBn:B≠w.heap.size:=by omega
 have hgn:gH≠w.heap.size:=by omega
 have hBm:w.heap.size≠B:=by omega
 have hgm:w.heap.size≠gH:=by omega
 go_wp2_with fail
 rename_i K0 hK0
 apply En (R:=fun a=>∀ W2:Wq,Lk2 Xb w W2 (Ac B aS (some ⟨gH,0,none⟩) aF aL) B lo M { f with prev:=0,cur:=x } aK cK->K0 a W2)
 ·intro tail0
  have tail:Hid _:=tail0
  clear tail0
  go_region
  all_goals exact tail.out _ (((HE2.out.store 8 (O J 0) { f with prev:=0 } rfl).store 7 (O J x) { f with prev:=0,cur:=x } rfl).two.below ⟨rfl,rfl,rfl,Nat.le_refl _,fun _ _=>rfl⟩)
 intro w3 h3
 have HE3:Hid (Lk2 Xb w w3 (Ac B aS (some ⟨gH,0,none⟩) aF aL) B lo M { f with prev:=0,cur:=x } aK cK):=h3
 refine hK0 _ _ ?_
 clear h3 hK0 HE2 hc hcl hB0 hg0 hBn hgn hBm hgm
 clear f0 f1 f2 f3 f4 f5 f6 f7 f8 f9 f10 f11 f12 f13 ff fs
 obtain⟨f0,f1,f2,f3,f4,f5,f6,f7,f8,f9,f10,f11,f12,f13,ff,fs⟩:=A8 HE3.out.fb
 clear q0 q1 q2 q3 q4 qs
 obtain⟨g0,g1,g2,g3,g4,g5,g6,g7,g8,g9,g10,g11,g12,g13,gf,gs⟩:=A8 HE3.out.zb
 go_wp2
 refine bodyPost_ret (v:=.tuple #[.agg #[O J ({ f with prev:=0,cur:=x }).c.kind,O J ({ f with prev:=0,cur:=x }).c.a,O J ({ f with prev:=0,cur:=x }).c.b,O J ({ f with prev:=0,cur:=x }).c.time,O J ({ f with prev:=0,cur:=x }).c.bk,O J ({ f with prev:=0,cur:=x }).c.slot,O J ({ f with prev:=0,cur:=x }).pl,O J ({ f with prev:=0,cur:=x }).cur,O J ({ f with prev:=0,cur:=x }).prev,O J ({ f with prev:=0,cur:=x }).slot,O J ({ f with prev:=0,cur:=x }).n,Y aK ({ f with prev:=0,cur:=x }).keys.length cK,.bool ({ f with prev:=0,cur:=x }).done,O J ({ f with prev:=0,cur:=x }).e],.bool true]) (by simp[results,Tryz.results208,go_sem,g0,g1,g2,g3,g4,g5,g6,g7,g8,g9,g10,g11,g12,g13]) rfl ⟨rfl,HE3.out.D7⟩
theorem Vm(M:Mm)(f:Fr)(B lo:Nat)(aS aH aF aL:Option Addr)(cS cH cF cL:Nat)(aK:Option Addr)(cK:Nat)(w:Wq)
  (m:Mine Xb w B lo aS aH aF aL cS cH cF cL M) (hM:Ok M) (hf:Fit M f) (hat:Ej M f=true) :
  Calls Pg 209 #[.pointer (some ⟨B,0,none⟩),.agg #[O J f.c.kind,O J f.c.a,O J f.c.b,O J f.c.time,O J f.c.bk,O J f.c.slot,O J f.pl,O J f.cur,O J f.prev,O J f.slot,O J f.n,Y aK f.keys.length cK,.bool f.done,O J f.e]] w fun e w'=>e=.returned (.tuple #[.agg #[O J ({ f with prev:=f.cur,cur:=(Aa M (f.cur - 1)).next }).c.kind,O J ({ f with prev:=f.cur,cur:=(Aa M (f.cur - 1)).next }).c.a,O J ({ f with prev:=f.cur,cur:=(Aa M (f.cur - 1)).next }).c.b,O J ({ f with prev:=f.cur,cur:=(Aa M (f.cur - 1)).next }).c.time,O J ({ f with prev:=f.cur,cur:=(Aa M (f.cur - 1)).next }).c.bk,O J ({ f with prev:=f.cur,cur:=(Aa M (f.cur - 1)).next }).c.slot,O J ({ f with prev:=f.cur,cur:=(Aa M (f.cur - 1)).next }).pl,O J ({ f with prev:=f.cur,cur:=(Aa M (f.cur - 1)).next }).cur,O J ({ f with prev:=f.cur,cur:=(Aa M (f.cur - 1)).next }).prev,O J ({ f with prev:=f.cur,cur:=(Aa M (f.cur - 1)).next }).slot,O J ({ f with prev:=f.cur,cur:=(Aa M (f.cur - 1)).next }).n,Y aK ({ f with prev:=f.cur,cur:=(Aa M (f.cur - 1)).next }).keys.length cK,.bool ({ f with prev:=f.cur,cur:=(Aa M (f.cur - 1)).next }).done,O J ({ f with prev:=f.cur,cur:=(Aa M (f.cur - 1)).next }).e],.bool true])/\Has Xb w' B lo (Up w (Ac B aS aH aF aL)) M/\Fine w w' (Ac B aS aH aF aL):=by
 have hns:=hM.ns
 have hcur:=hf.cur.2
 have hc1:f.cur<=1000:=by omega
 have hn1:M.slots.length<=1000:=by omega
 have h1:=Es.1 hat
 obtain⟨j,hj⟩:∃ j:Nat,f.cur - 1=j:=⟨(f.cur - 1).toNat,by omega⟩
 have hjl:j<M.slots.length:=by omega
 obtain⟨gS,rfl,oS,lS,kS,-⟩:=Bh m.c.s (by omega)
 obtain⟨s,hs⟩:∃ s,s=Aa M (j:Int):=⟨_,rfl⟩
 have hst:stN f=j:=by unfold stN;rw[if_neg (by omega)];exact hj
 rw[hj,<- hs]
 have HSt:Hid (∀ (W:Wq),Lk Xb w W B lo (some ⟨gS,0,none⟩) aH aF aL cS cH cF cL M f aK cK->Calls Pg 200 #[.pointer (some ⟨B,0,none⟩),.agg #[O J f.c.kind,O J f.c.a,O J f.c.b,O J f.c.time,O J f.c.bk,O J f.c.slot,O J f.pl,O J f.cur,O J f.prev,O J f.slot,O J f.n,Y aK f.keys.length cK,.bool f.done,O J f.e]] W fun e w'=>e=.returned (.tuple #[O J ((j:Int)),.bool true])/\Lk Xb w w' B lo (some ⟨gS,0,none⟩) aH aF aL cS cH cF cL M f aK cK):=fun W h=>by
  have:=Ea M f B _ _ _ _ cS cH cF cL aK cK W h.m.box hc1 hn1
  rw[hst,hat] at this
  exact this.mono (fun e w' h'=>⟨h'.1,h.below h'.2⟩)
 have HX:Hid (∀ W,Mine Xb W B lo (some ⟨gS,0,none⟩) aH aF aL cS cH cF cL M->W.cell? ⟨gS,j*6+1,none⟩=some (O J s.a)/\W.cell? ⟨gS,j*6+2,none⟩=some (O J s.b)/\W.cell? ⟨gS,j*6+5,none⟩=some (O J s.next)):=fun W m'=>⟨(Ci m'.c.s hjl hs).2.1,(Ci m'.c.s hjl hs).2.2.1,(Ci m'.c.s hjl hs).2.2.2.2.2.1⟩
 obtain⟨of,hof⟩:=frObj f aK cK
 obtain⟨oz,hoz⟩:∃ o:Obj,o=Ae:=⟨_,rfl⟩
 have HE:Hid (Lk Xb w ((w.alloc of).alloc oz) B lo (some ⟨gS,0,none⟩) aH aF aL cS cH cF cL M f aK cK):=Lk.first m f aK cK hof hoz
 obtain⟨q0,q1,q2,q3,q4,-,-,-,-,-,qs⟩:=Af HE.out.m.box
 obtain⟨f0,f1,f2,f3,f4,f5,f6,f7,f8,f9,f10,f11,f12,f13,ff,fs⟩:=A8 HE.out.fb
 unfold Ae at hoz
 clear m hM hf hns hcur hc1 hn1 hs hst hat h1
 go_enter Tryz.func209,Tryz.ntmps209
 go_wp2_with fail
 rw[<- hof,<- hoz]
 generalize (w.alloc of).alloc oz=W0 at *
 subst hof hoz
 clear q0 q1 q2 q3 q4 qs
 clear f0 f1 f2 f3 f4 f5 f6 f7 f8 f9 f10 f11 f12 f13 ff fs
 refine(HSt.out _ (by exact HE.out.below ⟨rfl,rfl,rfl,Nat.le_refl _,fun _ _=>rfl⟩)).mono ?_
 rintro e w1 ⟨rfl,h9⟩
 have HE1:Hid (Lk Xb w w1 B lo (some ⟨gS,0,none⟩) aH aF aL cS cH cF cL M f aK cK):=h9
 clear HE h9
 obtain⟨q0,q1,q2,q3,q4,-,-,-,-,-,qs⟩:=Af HE1.out.m.box
 obtain⟨f0,f1,f2,f3,f4,f5,f6,f7,f8,f9,f10,f11,f12,f13,ff,fs⟩:=A8 HE1.out.fb
 obtain⟨x1,x2,x5⟩:=HX.out w1 HE1.out.m
 have hB0:B<w.heap.size:=HE1.out.lt B (.inl rfl)
 have hg0:gS<w.heap.size:=HE1.out.lt gS (.inr (.inl ⟨_,rfl,rfl⟩))
 have hBn:B≠w.heap.size:=by omega
 have hgn:gS≠w.heap.size:=by omega
 have hBm:w.heap.size≠B:=by omega
 have hgm:w.heap.size≠gS:=by omega
 go_wp2_with fail
 rename_i K0 hK0
 apply En (R:=fun a=>∀ W2:Wq,Lk2 Xb w W2 (Ac B (some ⟨gS,0,none⟩) aH aF aL) B lo M { f with prev:=f.cur,cur:=s.next } aK cK->K0 a W2)
 ·intro tail0
  have tail:Hid _:=tail0
  clear tail0
  go_region
  all_goals exact tail.out _ (((HE1.out.store 8 (O J f.cur) { f with prev:=f.cur } rfl).store 7 (O J s.next) { f with prev:=f.cur,cur:=s.next } rfl).two.below ⟨rfl,rfl,rfl,Nat.le_refl _,fun _ _=>rfl⟩)
 intro w3 h3
 have HE2:Hid (Lk2 Xb w w3 (Ac B (some ⟨gS,0,none⟩) aH aF aL) B lo M { f with prev:=f.cur,cur:=s.next } aK cK):=h3
 refine hK0 _ _ ?_
 clear h3 hK0 HE1 x1 x2 x5 hB0 hg0 hBn hgn hBm hgm
 clear f0 f1 f2 f3 f4 f5 f6 f7 f8 f9 f10 f11 f12 f13 ff fs
 obtain⟨f0,f1,f2,f3,f4,f5,f6,f7,f8,f9,f10,f11,f12,f13,ff,fs⟩:=A8 HE2.out.fb
 clear q0 q1 q2 q3 q4 qs
 obtain⟨g0,g1,g2,g3,g4,g5,g6,g7,g8,g9,g10,g11,g12,g13,gf,gs⟩:=A8 HE2.out.zb
 go_wp2
 refine bodyPost_ret (v:=.tuple #[.agg #[O J ({ f with prev:=f.cur,cur:=s.next }).c.kind,O J ({ f with prev:=f.cur,cur:=s.next }).c.a,O J ({ f with prev:=f.cur,cur:=s.next }).c.b,O J ({ f with prev:=f.cur,cur:=s.next }).c.time,O J ({ f with prev:=f.cur,cur:=s.next }).c.bk,O J ({ f with prev:=f.cur,cur:=s.next }).c.slot,O J ({ f with prev:=f.cur,cur:=s.next }).pl,O J ({ f with prev:=f.cur,cur:=s.next }).cur,O J ({ f with prev:=f.cur,cur:=s.next }).prev,O J ({ f with prev:=f.cur,cur:=s.next }).slot,O J ({ f with prev:=f.cur,cur:=s.next }).n,Y aK ({ f with prev:=f.cur,cur:=s.next }).keys.length cK,.bool ({ f with prev:=f.cur,cur:=s.next }).done,O J ({ f with prev:=f.cur,cur:=s.next }).e],.bool true]) (by simp[results,Tryz.results209,go_sem,g0,g1,g2,g3,g4,g5,g6,g7,g8,g9,g10,g11,g12,g13]) rfl ⟨rfl,HE2.out.D7⟩
theorem Xn(M:Mm)(f:Fr)(B lo:Nat)(aS aH aF aL:Option Addr)(cS cH cF cL:Nat)(aK:Option Addr)(cK:Nat)(w:Wq)
  (m:Mine Xb w B lo aS aH aF aL cS cH cF cL M) (hM:Ok M) (hf:Fit M f) (hat0:Ej M f=false) :
  Calls Pg 209 #[.pointer (some ⟨B,0,none⟩),.agg #[O J f.c.kind,O J f.c.a,O J f.c.b,O J f.c.time,O J f.c.bk,O J f.c.slot,O J f.pl,O J f.cur,O J f.prev,O J f.slot,O J f.n,Y aK f.keys.length cK,.bool f.done,O J f.e]] w fun e w'=>e=.returned (.tuple #[.agg #[O J f.c.kind,O J f.c.a,O J f.c.b,O J f.c.time,O J f.c.bk,O J f.c.slot,O J f.pl,O J f.cur,O J f.prev,O J f.slot,O J f.n,Y aK f.keys.length cK,.bool f.done,O J f.e],.bool false])/\Has Xb w' B lo (Up w (Ac B aS aH aF aL)) M/\Fine w w' (Ac B aS aH aF aL):=by
 have hns:=hM.ns
 have hcur:=hf.cur.2
 have hc1:f.cur<=1000:=by omega
 have hn1:M.slots.length<=1000:=by omega
 have HSt:Hid (∀ (W:Wq),Lk Xb w W B lo aS aH aF aL cS cH cF cL M f aK cK->Calls Pg 200 #[.pointer (some ⟨B,0,none⟩),.agg #[O J f.c.kind,O J f.c.a,O J f.c.b,O J f.c.time,O J f.c.bk,O J f.c.slot,O J f.pl,O J f.cur,O J f.prev,O J f.slot,O J f.n,Y aK f.keys.length cK,.bool f.done,O J f.e]] W fun e w'=>e=.returned (.tuple #[O J (stN f),.bool false])/\Lk Xb w w' B lo aS aH aF aL cS cH cF cL M f aK cK):=fun W h=>by
  have:=Ea M f B _ _ _ _ cS cH cF cL aK cK W h.m.box hc1 hn1
  rw[hat0] at this
  exact this.mono (fun e w' h'=>⟨h'.1,h.below h'.2⟩)
 obtain⟨of,hof⟩:=frObj f aK cK
 obtain⟨oz,hoz⟩:∃ o:Obj,o=Ae:=⟨_,rfl⟩
 have HE:Hid (Lk Xb w ((w.alloc of).alloc oz) B lo aS aH aF aL cS cH cF cL M f aK cK):=Lk.first m f aK cK hof hoz
 obtain⟨q0,q1,q2,q3,q4,-,-,-,-,-,qs⟩:=Af HE.out.m.box
 obtain⟨f0,f1,f2,f3,f4,f5,f6,f7,f8,f9,f10,f11,f12,f13,ff,fs⟩:=A8 HE.out.fb
 unfold Ae at hoz
 clear m hM hf hns hcur hc1 hn1 hat0
 go_enter Tryz.func209,Tryz.ntmps209
 go_wp2_with fail
 rw[<- hof,<- hoz]
 generalize (w.alloc of).alloc oz=W0 at *
 subst hof hoz
 clear q0 q1 q2 q3 q4 qs
 clear f0 f1 f2 f3 f4 f5 f6 f7 f8 f9 f10 f11 f12 f13 ff fs
 refine(HSt.out _ (by exact HE.out.below ⟨rfl,rfl,rfl,Nat.le_refl _,fun _ _=>rfl⟩)).mono ?_
 rintro e w1 ⟨rfl,h9⟩
 have HE1:Hid (Lk Xb w w1 B lo aS aH aF aL cS cH cF cL M f aK cK):=h9
 clear HE h9
 obtain⟨f0,f1,f2,f3,f4,f5,f6,f7,f8,f9,f10,f11,f12,f13,ff,fs⟩:=A8 HE1.out.fb
 obtain⟨g0,g1,g2,g3,g4,g5,g6,g7,g8,g9,g10,g11,g12,g13,gf,gs⟩:=A8 HE1.out.zb
 go_wp2
 refine bodyPost_ret (v:=.tuple #[.agg #[O J f.c.kind,O J f.c.a,O J f.c.b,O J f.c.time,O J f.c.bk,O J f.c.slot,O J f.pl,O J f.cur,O J f.prev,O J f.slot,O J f.n,Y aK f.keys.length cK,.bool f.done,O J f.e],.bool false]) (by simp[results,Tryz.results209,go_sem,g0,g1,g2,g3,g4,g5,g6,g7,g8,g9,g10,g11,g12,g13]) rfl ⟨rfl,HE1.out.D7⟩
end
section
open Go.Joins Go.Deep Go.Sort
theorem a9u(f:Fr)(n:Int)(X:Nat)(aK:Option Addr)(cK:Nat)(w:Wq)(hX:w.heap[X]?=some (.cells #[O J f.c.kind,O J f.c.a,O J f.c.b,O J f.c.time,O J f.c.bk,O J f.c.slot,O J f.pl,O J f.cur,O J f.prev,O J f.slot,O J f.n,Y aK f.keys.length cK,.bool f.done,O J f.e] 47 (0,0))) :
  Calls Pg 124 #[O J n,.pointer (some ⟨X,0,none⟩)] w fun e w'=>e=.returned (.agg #[O J (toF f n).c.kind,O J (toF f n).c.a,O J (toF f n).c.b,O J (toF f n).c.time,O J (toF f n).c.bk,O J (toF f n).c.slot,O J (toF f n).pl,O J (toF f n).cur,O J (toF f n).prev,O J (toF f n).slot,O J (toF f n).n,Y aK (toF f n).keys.length cK,.bool (toF f n).done,O J (toF f n).e])/\Fine w w' (fun k=>k=X)/\w'.heap[X]?=some (.cells #[O J (toF f n).c.kind,O J (toF f n).c.a,O J (toF f n).c.b,O J (toF f n).c.time,O J (toF f n).c.bk,O J (toF f n).c.slot,O J (toF f n).pl,O J (toF f n).cur,O J (toF f n).prev,O J (toF f n).slot,O J (toF f n).n,Y aK (toF f n).keys.length cK,.bool (toF f n).done,O J (toF f n).e] 47 (0,0)):=by
 obtain⟨f0,f1,f2,f3,f4,f5,f6,f7,f8,f9,f10,f11,f12,f13,ff,fs⟩:=A8 hX
 have HX:Hid (w.heap[X]?=some (.cells #[O J f.c.kind,O J f.c.a,O J f.c.b,O J f.c.time,O J f.c.bk,O J f.c.slot,O J f.pl,O J f.cur,O J f.prev,O J f.slot,O J f.n,Y aK f.keys.length cK,.bool f.done,O J f.e] 47 (0,0))):=hX
 clear hX
 go_enter Tryz.func124,Tryz.ntmps124
 go_wp2
 refine bodyPost_ret (v:=.agg #[O J (toF f n).c.kind,O J (toF f n).c.a,O J (toF f n).c.b,O J (toF f n).c.time,O J (toF f n).c.bk,O J (toF f n).c.slot,O J (toF f n).pl,O J (toF f n).cur,O J (toF f n).prev,O J (toF f n).slot,O J (toF f n).n,Y aK (toF f n).keys.length cK,.bool (toF f n).done,O J (toF f n).e]) (by simp[results,Tryz.results124,go_sem,toF]) rfl ⟨rfl,((Fine.refl w (fun k=>k=X)).set (k:=X) (.inl rfl) 6 _).below (A7 _ _),?_⟩
 rw[Below.heap_alloc _ _ _ (by simp;exact fs),block_setCell HX.out]
 rfl
end
section
open Go.Joins Go.Deep
theorem own:ownKnob Pg.godebug=none:=by kernel_rfl
theorem cells3:Pg.cellsOf 3=1:=by kernel_rfl
theorem cells4:Pg.cellsOf 4=1:=by kernel_rfl
theorem cells37:Pg.cellsOf 30=2:=by kernel_rfl
theorem cells48:Pg.cellsOf 64=6:=by kernel_rfl
theorem cells29:Pg.cellsOf 25=5:=by kernel_rfl
theorem cells24:Pg.cellsOf 23=1:=by kernel_rfl
theorem cells27:Pg.cellsOf 22=1:=by kernel_rfl
theorem bytes3:Pg.bytesOf 3=8:=by kernel_rfl
theorem b0o:Pg.bytesOf 64=48:=by kernel_rfl
variable {H:Type} {enc:TypeId × Value->H} {w:Wq}
theorem N8{P:Program}{base:Nat}{spare:Nat->Bool}{held:Bool}{t:TypeId}{f0 f1 f2 f3 f4:Field}{fuel:Nat}{cs:List Value}{x:DataW H × List MemPlace}(ht:P.underlying t=some (.struct #[f0,f1,f2,f3,f4]))(h:DataW.trod enc P w base spare held fuel t cs=some x) :
  ∃ y0 y1 y2 y3 y4 n,x.1=.agg [y0.1,y1.1,y2.1,y3.1,y4.1]/\cs.length=P.cellsOf t/\DataW.trod enc P w base spare held n f0.type ((cs.drop f0.offset).take (P.cellsOf f0.type))=some y0 /\
   DataW.trod enc P w base spare held n f1.type ((cs.drop f1.offset).take (P.cellsOf f1.type))=some y1/\DataW.trod enc P w base spare held n f2.type ((cs.drop f2.offset).take (P.cellsOf f2.type))=some y2 /\
   DataW.trod enc P w base spare held n f3.type ((cs.drop f3.offset).take (P.cellsOf f3.type))=some y3/\DataW.trod enc P w base spare held n f4.type ((cs.drop f4.offset).take (P.cellsOf f4.type))=some y4:=by
 obtain⟨xs,n,_,rfl,hl,hlen,hf⟩:=DataW.trod_struct ht h
 match xs,hlen with
 | [y0,y1,y2,y3,y4],_=>exact⟨y0,y1,y2,y3,y4,n,by simp,hl,by simpa using hf 0 f0 rfl,by simpa using hf 1 f1 rfl,by simpa using hf 2 f2 rfl,by simpa using hf 3 f3 rfl,by simpa using hf 4 f4 rfl⟩
theorem six{cs:List Value}(h:cs.length=6):∃ c0 c1 c2 c3 c4 c5,cs=[c0,c1,c2,c3,c4,c5]:=by
 match cs,h with
 | [c0,c1,c2,c3,c4,c5],_=>exact⟨_,_,_,_,_,_,rfl⟩
theorem a5h{fuel:Nat}{cs:List Value}{x:DataW H × List MemPlace}(h:DataW.trod enc Pg w 0 (fun _=>true) true fuel 64 cs=some x):∃ s:Sl,cs=s.enc:=by
 obtain⟨y0,y1,y2,y3,y4,n,_,hl,h0,h1,h2,h3,h4⟩:=N8 Tryz.underlying64 h
 rw[cells48] at hl
 obtain⟨c0,c1,c2,c3,c4,c5,rfl⟩:=six hl
 simp only[cells3,cells4,cells37] at h0 h1 h2 h3 h4
 obtain⟨r,e0,_⟩:=DataW.trod_int Tryz.underlying3 h0
 obtain⟨z0,z1,m,_,_,k0,k1⟩:=trod_struct2 Tryz.underlying30 h1
 simp only[cells3] at k0 k1
 obtain⟨a,e1,_⟩:=DataW.trod_int Tryz.underlying3 k0
 obtain⟨b,e2,_⟩:=DataW.trod_int Tryz.underlying3 k1
 obtain⟨u,e3,_⟩:=DataW.trod_int Tryz.underlying3 h2
 obtain⟨i,e4,_⟩:=DataW.trod_bool Tryz.underlying4 h3
 obtain⟨nx,e5,_⟩:=DataW.trod_int Tryz.underlying3 h4
 simp at e0 e1 e2 e3 e4 e5
 subst e0 e1 e2 e3 e4 e5
 exact⟨⟨r,a,b,u,i,nx⟩,rfl⟩
theorem Om{fuel:Nat}{c:Value}{x:DataW H × List MemPlace}(h:DataW.trod enc Pg w 0 (fun _=>true) true fuel 23 [c]=some x)(hz:∀ n∈x.1.weights Pg 23,n<=reachBytes) :
  ∃ l ao cap,c=.slice ao l.length cap/\Cj w ao cap l:=by
 rcases open_ints Tryz.underlying23 Tryz.underlying3 cells3 h with ⟨e,-⟩|⟨a,len,cap,zs,e,hb,hl,hm,hlen,hx,hc,hwf⟩
 ·simp at e
  exact⟨[],none,0,e,Nat.zero_le _,by decide,fun _=>rfl,.inl rfl⟩
 ·simp at e hlen
  subst e
  have hlt:(zs.take len).length=len:=by rw[List.length_take];omega
  refine⟨zs.take len,some a,cap,by rw[hlt],by omega,?_,(fun h=>by cases h),?_⟩
  ·rw[hx] at hz
   have:=hz ((len+(cap - len))*8) (by simp[DataW.weights,Tryz.underlying23,bytes3,lits,hlen];left;omega)
   unfold reachBytes at this
   rw[hlt]
   omega
  ·by_cases h0:len=0
   ·left;omega
   ·right
    obtain⟨b,off,spot⟩:=a
    have hspot:spot=none:=by simpa [Addr.add] using World.cell?_spot (hc 0 (by omega))
    subst hspot
    refine⟨b,off,rfl,fun i hi=>?_⟩
    have:=hc i (by omega)
    rw[Addr.add_lit] at this
    rw[this]
    have hi':i<zs.length:=by omega
    simp[List.getD_eq_getElem?_getD,hi']
theorem a5i{fuel:Nat}{c:Value}{x:DataW H × List MemPlace}(h:DataW.trod enc Pg w 0 (fun _=>true) true fuel 22 [c]=some x)(hz:∀ n∈x.1.weights Pg 22,n<=reachBytes) :
  ∃ l ao cap,c=.slice ao l.length cap/\Ic w ao cap l:=by
 rcases open_slice Tryz.underlying22 h with ⟨e,-⟩|⟨a,len,cap,m,n,D,Pl,e,hb,hl,hm,hmm,hx,hc⟩
 ·simp at e
  exact⟨[],none,0,e,Nat.zero_le _,by decide,fun _=>rfl,.inl rfl⟩
 ·simp at e hmm
  subst e hmm
  rw[cells48] at hc
  obtain⟨S,hS⟩:=@choose_lt Sl ⟨sl0⟩ len (fun i s=>w.cells? 0 (a.add (i*6)) 6=some s.enc) (fun i hi=>by
   obtain⟨cs',h1,h2⟩:=hc i (by omega)
   obtain⟨s,rfl⟩:=a5h h2
   exact⟨s,h1⟩)
  have hlt:((List.range len).map S).length=len:=by simp
  refine⟨(List.range len).map S,some a,m,by rw[hlt],by omega,?_,(fun h=>by cases h),?_⟩
  ·rw[hx] at hz
   have:=hz ((len+(m - len))*48) (by simp[DataW.weights,Tryz.underlying22,b0o])
   unfold reachBytes at this
   rw[hlt]
   omega
  ·by_cases h0:len=0
   ·left;omega
   ·right
    obtain⟨b,off,spot⟩:=a
    have hspot:spot=none:=by
     have:=(World.cells?_some (hS 0 (by omega))).2.2 0 (by omega)
     simpa [Addr.add] using World.cell?_spot this
    subst hspot
    refine⟨b,off,rfl,fun i hi=>?_⟩
    have hi':i<len:=by simpa using hi
    have k:∀ q,q<6->w.cell? ⟨b,off+i*6+q,none⟩=((S i).enc)[q]?:=fun q hq=>by
     have:=(World.cells?_some (hS i hi')).2.2 q hq
     rwa [Addr.add_lit,Addr.add_lit] at this
    have e:((List.range len).map S)[i]=S i:=by simp
    rw[e]
    exact⟨k 0 (by omega),k 1 (by omega),k 2 (by omega),k 3 (by omega),k 4 (by omega),k 5 (by omega)⟩
end
section
open Go.Joins Go.Deep
theorem Ro:Pg.cellsOf 32=6:=by kernel_rfl
theorem Uo:Pg.cellsOf 47=14:=by kernel_rfl
theorem a6z:Pg.cellsOf 36=1:=by kernel_rfl
theorem a3z:Pg.cellsOf 45=1:=by kernel_rfl
theorem a6x:Pg.bytesOf 30=16:=by kernel_rfl
variable {H:Type} {enc:TypeId × Value->H} {w:Wq}
theorem Xt{fuel:Nat}{cs:List Value}{x:DataW H × List MemPlace}(h:DataW.trod enc Pg w 0 (fun _=>true) true fuel 32 cs=some x) :
  ∃ c:Cl,cs=[.int .i64 c.kind,.int .i64 c.a,.int .i64 c.b,.int .i64 c.time,.int .i64 c.bk,.int .i64 c.slot]:=by
 obtain⟨y0,y1,y2,y3,y4,n,_,hl,h0,h1,h2,h3,h4⟩:=N8 Tryz.underlying32 h
 rw[Ro] at hl
 obtain⟨c0,c1,c2,c3,c4,c5,rfl⟩:=six hl
 simp only[cells3,cells37] at h0 h1 h2 h3 h4
 obtain⟨r,e0,_⟩:=DataW.trod_int Tryz.underlying3 h0
 obtain⟨z0,z1,m,_,_,k0,k1⟩:=trod_struct2 Tryz.underlying30 h1
 simp only[cells3] at k0 k1
 obtain⟨a,e1,_⟩:=DataW.trod_int Tryz.underlying3 k0
 obtain⟨b,e2,_⟩:=DataW.trod_int Tryz.underlying3 k1
 obtain⟨u,e3,_⟩:=DataW.trod_int Tryz.underlying3 h2
 obtain⟨i,e4,_⟩:=DataW.trod_int Tryz.underlying3 h3
 obtain⟨nx,e5,_⟩:=DataW.trod_int Tryz.underlying3 h4
 simp at e0 e1 e2 e3 e4 e5
 subst e0 e1 e2 e3 e4 e5
 exact⟨⟨r,a,b,u,i,nx⟩,rfl⟩
theorem Yh{P:Program}{base:Nat}{spare:Nat->Bool}{held:Bool}{t:TypeId}{f0 f1 f2 f3 f4 f5 f6 f7 f8:Field}{fuel:Nat}{cs:List Value}{x:DataW H × List MemPlace}(ht:P.underlying t=some (.struct #[f0,f1,f2,f3,f4,f5,f6,f7,f8]))(h:DataW.trod enc P w base spare held fuel t cs=some x) :
  ∃ y0 y1 y2 y3 y4 y5 y6 y7 y8 n,x.1=.agg [y0.1,y1.1,y2.1,y3.1,y4.1,y5.1,y6.1,y7.1,y8.1]/\cs.length=P.cellsOf t/\DataW.trod enc P w base spare held n f0.type ((cs.drop f0.offset).take (P.cellsOf f0.type))=some y0 /\
   DataW.trod enc P w base spare held n f1.type ((cs.drop f1.offset).take (P.cellsOf f1.type))=some y1/\DataW.trod enc P w base spare held n f2.type ((cs.drop f2.offset).take (P.cellsOf f2.type))=some y2 /\
   DataW.trod enc P w base spare held n f3.type ((cs.drop f3.offset).take (P.cellsOf f3.type))=some y3/\DataW.trod enc P w base spare held n f4.type ((cs.drop f4.offset).take (P.cellsOf f4.type))=some y4 /\
   DataW.trod enc P w base spare held n f5.type ((cs.drop f5.offset).take (P.cellsOf f5.type))=some y5/\DataW.trod enc P w base spare held n f6.type ((cs.drop f6.offset).take (P.cellsOf f6.type))=some y6 /\
   DataW.trod enc P w base spare held n f7.type ((cs.drop f7.offset).take (P.cellsOf f7.type))=some y7/\DataW.trod enc P w base spare held n f8.type ((cs.drop f8.offset).take (P.cellsOf f8.type))=some y8:=by
 obtain⟨xs,n,_,rfl,hl,hlen,hf⟩:=DataW.trod_struct ht h
 match xs,hlen with
 | [y0,y1,y2,y3,y4,y5,y6,y7,y8],_=>exact⟨y0,y1,y2,y3,y4,y5,y6,y7,y8,n,by simp,hl,by simpa using hf 0 f0 rfl,by simpa using hf 1 f1 rfl,by simpa using hf 2 f2 rfl,by simpa using hf 3 f3 rfl,by simpa using hf 4 f4 rfl,by simpa using hf 5 f5 rfl,by simpa using hf 6 f6 rfl,by simpa using hf 7 f7 rfl,by simpa using hf 8 f8 rfl⟩
theorem a5d{fuel:Nat}{cs:List Value}{x:DataW H × List MemPlace}(h:DataW.trod enc Pg w 0 (fun _=>true) true fuel 30 cs=some x):∃ p:Int × Int,cs=[.int .i64 p.1,.int .i64 p.2]:=by
 obtain⟨z0,z1,m,_,hl,k0,k1⟩:=trod_struct2 Tryz.underlying30 h
 rw[cells37] at hl
 match cs,hl with
 | [c0,c1],_ =>
  simp only[cells3] at k0 k1
  obtain⟨a,e1,_⟩:=DataW.trod_int Tryz.underlying3 k0
  obtain⟨b,e2,_⟩:=DataW.trod_int Tryz.underlying3 k1
  simp at e1 e2
  subst e1 e2
  exact⟨(a,b),rfl⟩
theorem a5e{fuel:Nat}{c:Value}{x:DataW H × List MemPlace}(h:DataW.trod enc Pg w 0 (fun _=>true) true fuel 45 [c]=some x)(hz:∀ n∈x.1.weights Pg 45,n<=reachBytes) :
  ∃ l ao cap,c=.slice ao l.length cap/\Am w ao cap l:=by
 rcases open_slice Tryz.underlying45 h with ⟨e,-⟩|⟨a,len,cap,m,n,D,Pl,e,hb,hl,hm,hmm,hx,hc⟩
 ·simp at e
  exact⟨[],none,0,e,Nat.zero_le _,by decide,fun _=>rfl,.inl rfl⟩
 ·simp at e hmm
  subst e hmm
  rw[cells37] at hc
  obtain⟨S,hS⟩:=@choose_lt (Int × Int) ⟨(0,0)⟩ len (fun i s=>w.cells? 0 (a.add (i*2)) 2=some [.int .i64 s.1,.int .i64 s.2]) (fun i hi=>by
   obtain⟨cs',h1,h2⟩:=hc i (by omega)
   obtain⟨s,rfl⟩:=a5d h2
   exact⟨s,h1⟩)
  have hlt:((List.range len).map S).length=len:=by simp
  refine⟨(List.range len).map S,some a,m,by rw[hlt],by omega,?_,(fun h=>by cases h),?_⟩
  ·rw[hx] at hz
   have:=hz ((len+(m - len))*16) (by simp[DataW.weights,Tryz.underlying45,a6x])
   unfold reachBytes at this
   rw[hlt]
   omega
  ·by_cases h0:len=0
   ·left;omega
   ·right
    obtain⟨b,off,spot⟩:=a
    have hspot:spot=none:=by
     have:=(World.cells?_some (hS 0 (by omega))).2.2 0 (by omega)
     simpa [Addr.add] using World.cell?_spot this
    subst hspot
    refine⟨b,off,rfl,fun i hi=>?_⟩
    have hi':i<len:=by simpa using hi
    have k:∀ q,q<2->w.cell? ⟨b,off+i*2+q,none⟩=([.int .i64 (S i).1,.int .i64 (S i).2]:List Value)[q]?:=fun q hq=>by
     have:=(World.cells?_some (hS i hi')).2.2 q hq
     rwa [Addr.add_lit,Addr.add_lit] at this
    have e:((List.range len).map S)[i]=S i:=by simp
    rw[e]
    exact⟨k 0 (by omega),k 1 (by omega)⟩
theorem fourteen{cs:List Value}(h:cs.length=14):∃ c0 c1 c2 c3 c4 c5 c6 c7 c8 c9 c10 c11 c12 c13,cs=[c0,c1,c2,c3,c4,c5,c6,c7,c8,c9,c10,c11,c12,c13]:=by
 match cs,h with
 | [c0,c1,c2,c3,c4,c5,c6,c7,c8,c9,c10,c11,c12,c13],_=>exact⟨_,_,_,_,_,_,_,_,_,_,_,_,_,_,rfl⟩
end
section
open Go.Joins
def eqM(A B:Mm):Bool:=eqS A.slots B.slots && (eqI A.heads B.heads && (eqI A.free B.free && (eqI A.locks B.locks && A.now==B.now)))
theorem b0w(A B:Mm):eqM A B=true ↔ A=B:=by
 obtain⟨S,H,F,L,n⟩:=A
 obtain⟨S',H',F',L',n'⟩:=B
 simp only[eqM,Bool.and_eq_true,Y4,a3a,beq_iff_eq,Mm.mk.injEq]
theorem a5y(A B:Mm)(v1 v2:Value)(w:Wq)(lo1 lo2:Nat)(H1:Ans lo1 w v1 A)(H2:Ans lo2 w v2 B) :
  Calls Pg 64 #[v1,v2] w fun e w'=>e=.returned (.bool (eqM A B))/\Below w.heap.size w w':=by
 obtain⟨aS1,aH1,aF1,aL1,cS1,cH1,cF1,cL1,rfl,A1,-⟩:=H1
 obtain⟨aS2,aH2,aF2,aL2,cS2,cH2,cF2,cL2,rfl,A2,-⟩:=H2
 generalize hR:eqM A B=R
 have HR:Hid _:=hR
 clear hR
 have b0:Below w.heap.size w ((w.alloc (.cells #[Y aS1 A.slots.length cS1,Y aH1 A.heads.length cH1,Y aF1 A.free.length cF1,Y aL1 A.locks.length cL1,O J A.now] 25)).alloc (.cells #[Y aS2 B.slots.length cS2,Y aH2 B.heads.length cH2,Y aF2 B.free.length cF2,Y aL2 B.locks.length cL2,O J B.now] 25)):=below_alloc2 w _ _
 have HA0:Hid _:=A1.below b0
 have HB0:Hid _:=A2.below b0
 have HX0:Hid (((w.alloc (.cells #[Y aS1 A.slots.length cS1,Y aH1 A.heads.length cH1,Y aF1 A.free.length cF1,Y aL1 A.locks.length cL1,O J A.now] 25)).alloc (.cells #[Y aS2 B.slots.length cS2,Y aH2 B.heads.length cH2,Y aF2 B.free.length cF2,Y aL2 B.locks.length cL2,O J B.now] 25)).heap[w.heap.size]?=some (.cells #[Y aS1 A.slots.length cS1,Y aH1 A.heads.length cH1,Y aF1 A.free.length cF1,Y aL1 A.locks.length cL1,O J A.now] 25 (0,0))):=by show _=_;rw[Below.heap_alloc _ _ _ (by simp),heap_alloc_new]
 have HY0:Hid (((w.alloc (.cells #[Y aS1 A.slots.length cS1,Y aH1 A.heads.length cH1,Y aF1 A.free.length cF1,Y aL1 A.locks.length cL1,O J A.now] 25)).alloc (.cells #[Y aS2 B.slots.length cS2,Y aH2 B.heads.length cH2,Y aF2 B.free.length cF2,Y aL2 B.locks.length cL2,O J B.now] 25)).heap[w.heap.size+1]?=some (.cells #[Y aS2 B.slots.length cS2,Y aH2 B.heads.length cH2,Y aF2 B.free.length cF2,Y aL2 B.locks.length cL2,O J B.now] 25 (0,0))):=by
  have:=heap_alloc_new (w.alloc (.cells #[Y aS1 A.slots.length cS1,Y aH1 A.heads.length cH1,Y aF1 A.free.length cF1,Y aL1 A.locks.length cL1,O J A.now] 25)) (.cells #[Y aS2 B.slots.length cS2,Y aH2 B.heads.length cH2,Y aF2 B.free.length cF2,Y aL2 B.locks.length cL2,O J B.now] 25)
  rwa [show (w.alloc (.cells #[Y aS1 A.slots.length cS1,Y aH1 A.heads.length cH1,Y aF1 A.free.length cF1,Y aL1 A.locks.length cL1,O J A.now] 25)).heap.size=w.heap.size+1 by simp] at this
 clear A1 A2
 go_enter Tryz.func64,Tryz.ntmps64
 go_wp2_with fail
 generalize (w.alloc (.cells #[Y aS1 A.slots.length cS1,Y aH1 A.heads.length cH1,Y aF1 A.free.length cF1,Y aL1 A.locks.length cL1,O J A.now] 25)).alloc (.cells #[Y aS2 B.slots.length cS2,Y aH2 B.heads.length cH2,Y aF2 B.free.length cF2,Y aL2 B.locks.length cL2,O J B.now] 25)=W0 at *
 refine(a0t aS1 aS2 cS1 cS2 A.slots B.slots _ HA0.out.s HB0.out.s).mono ?_
 rintro e w1 ⟨rfl,hb1⟩
 have b1:=b0.trans (hb1.mono b0.size)
 have HX1:Hid _:=(hb1.block w.heap.size (lt_of_block HX0.out)).trans HX0.out
 have HY1:Hid _:=(hb1.block (w.heap.size+1) (lt_of_block HY0.out)).trans HY0.out
 have HA1:Hid _:=HA0.out.below hb1
 have HB1:Hid _:=HB0.out.below hb1
 clear hb1 b0 HX0 HY0 HA0 HB0
 obtain⟨q0,q1,q2,q3,q4,-,-,-,-,-,-⟩:=Af HX1.out
 obtain⟨r0,r1,r2,r3,r4,-,-,-,-,-,-⟩:=Af HY1.out
 cases h0:eqS A.slots B.slots
 ·have HV:Hid (R=false):=HR.out.symm.trans (by simp[eqM,h0])
  go_wp2
  go_ret
  exact⟨Gg HV.out.symm,b1⟩
 have Hh0:Hid _:=h0
 clear h0
 go_wp2_with fail
 refine(Lh aH1 aH2 cH1 cH2 A.heads B.heads _ HA1.out.h HB1.out.h).mono ?_
 rintro e w2 ⟨rfl,hb2⟩
 have b2:=b1.trans (hb2.mono b1.size)
 have HX2:Hid _:=(hb2.block w.heap.size (lt_of_block HX1.out)).trans HX1.out
 have HY2:Hid _:=(hb2.block (w.heap.size+1) (lt_of_block HY1.out)).trans HY1.out
 have HA2:Hid _:=HA1.out.below hb2
 have HB2:Hid _:=HB1.out.below hb2
 clear hb2 b1 HX1 HY1 HA1 HB1
 clear q0 q1 q2 q3 q4 r0 r1 r2 r3 r4
 obtain⟨q0,q1,q2,q3,q4,-,-,-,-,-,-⟩:=Af HX2.out
 obtain⟨r0,r1,r2,r3,r4,-,-,-,-,-,-⟩:=Af HY2.out
 cases h1:eqI A.heads B.heads
 ·have HV:Hid (R=false):=HR.out.symm.trans (by simp[eqM,Hh0.out,h1])
  go_wp2
  go_ret
  exact⟨Gg HV.out.symm,b2⟩
 have Hh1:Hid _:=h1
 clear h1
 go_wp2_with fail
 refine(Lh aF1 aF2 cF1 cF2 A.free B.free _ HA2.out.f HB2.out.f).mono ?_
 rintro e w3 ⟨rfl,hb3⟩
 have b3:=b2.trans (hb3.mono b2.size)
 have HX3:Hid _:=(hb3.block w.heap.size (lt_of_block HX2.out)).trans HX2.out
 have HY3:Hid _:=(hb3.block (w.heap.size+1) (lt_of_block HY2.out)).trans HY2.out
 have HA3:Hid _:=HA2.out.below hb3
 have HB3:Hid _:=HB2.out.below hb3
 clear hb3 b2 HX2 HY2 HA2 HB2
 clear q0 q1 q2 q3 q4 r0 r1 r2 r3 r4
 obtain⟨q0,q1,q2,q3,q4,-,-,-,-,-,-⟩:=Af HX3.out
 obtain⟨r0,r1,r2,r3,r4,-,-,-,-,-,-⟩:=Af HY3.out
 cases h2:eqI A.free B.free
 ·have HV:Hid (R=false):=HR.out.symm.trans (by simp[eqM,Hh0.out,Hh1.out,h2])
  go_wp2
  go_ret
  exact⟨Gg HV.out.symm,b3⟩
 have Hh2:Hid _:=h2
 clear h2
 go_wp2_with fail
 refine(Lh aL1 aL2 cL1 cL2 A.locks B.locks _ HA3.out.l HB3.out.l).mono ?_
 rintro e w4 ⟨rfl,hb4⟩
 have b4:=b3.trans (hb4.mono b3.size)
 have HX4:Hid _:=(hb4.block w.heap.size (lt_of_block HX3.out)).trans HX3.out
 have HY4:Hid _:=(hb4.block (w.heap.size+1) (lt_of_block HY3.out)).trans HY3.out
 have HA4:Hid _:=HA3.out.below hb4
 have HB4:Hid _:=HB3.out.below hb4
 clear hb4 b3 HX3 HY3 HA3 HB3
 clear q0 q1 q2 q3 q4 r0 r1 r2 r3 r4
 obtain⟨q0,q1,q2,q3,q4,-,-,-,-,-,-⟩:=Af HX4.out
 obtain⟨r0,r1,r2,r3,r4,-,-,-,-,-,-⟩:=Af HY4.out
 cases h3:eqI A.locks B.locks
 ·have HV:Hid (R=false):=HR.out.symm.trans (by simp[eqM,Hh0.out,Hh1.out,Hh2.out,h3])
  go_wp2
  go_ret
  exact⟨Gg HV.out.symm,b4⟩
 have Hh3:Hid _:=h3
 clear h3
 have HV:Hid (R=(A.now==B.now)):=HR.out.symm.trans (by simp[eqM,Hh0.out,Hh1.out,Hh2.out,Hh3.out])
 go_wp2
 go_ret
 exact⟨Gg HV.out.symm,b4⟩
end
section
open Go.Joins
def Qc(k:Nat):List Sl:=List.replicate k sl0
theorem Zu(k:Nat):Qc (k+1)=Qc k ++ [sl0]:=by simp[Qc,List.replicate_succ']
theorem Md(k:Nat):(Qc k).length=k:=by simp[Qc]
theorem a9o(w:Wq)(n:Nat)(hn:n=w.heap.size):∀ (j:Nat) (u:Value),(sl0.enc)[j]?=some u->(w.alloc (.cells #[O J 0,O J 0,O J 0,O J 0,.bool false,O J 0] 64)).cell? ((⟨n,0,none⟩:Addr).add j)=some u:=by
 subst hn
 intro j u hj
 rw[Addr.add_lit,cell_of_block (heap_alloc_new w _),Nat.zero_add]
 rw[<- hj]
 simp[sl0,Sl.enc]
theorem b2e(n m:Nat)(w:Wq)(hn:n<=12)(h1:1<=m)(h4:m<=4) :
  Calls Pg 21 #[O J n,O J m] w fun e w'=>∃ v,e=.returned v/\Ans w.heap.size w' v (L6 n m)/\Below w.heap.size w w':=by
 obtain⟨i0,hi,hz0,hz1,hz2⟩:=info_parts iI
 obtain⟨j0,hj,yz0,yz1,yz2⟩:=info_parts iS
 obtain⟨W0,hW0⟩:∃ W0,W0=w.alloc (.cells #[Y none 0 0,Y none 0 0,Y none 0 0,Y none 0 0,O J 0] 25):=⟨_,rfl⟩
 have HR:Hid (W0.heap[w.heap.size]?=some (.cells #[Y none 0 0,Y none 0 0,Y none 0 0,Y none 0 0,O J 0] 25)):=by rw[hW0];exact heap_alloc_new _ _
 have HW:Hid (Below w.heap.size w W0):=by rw[hW0];exact A7 _ _
 have hz:W0.heap.size=w.heap.size+1:=by rw[hW0];simp
 have G0:Gr W0 (w.heap.size+1) (w.heap.size+1) (W0.alloc (.cells #[Y none 0 0,Y none 0 0,Y none 0 0,Y none 0 0,O J 0] 25)) (Y none 0 0) (Y none 0 0) (Y none 0 0) (Y none 0 0) [] [] [] [] :=
  ⟨by have:=heap_alloc_new W0 (.cells #[Y none 0 0,Y none 0 0,Y none 0 0,Y none 0 0,O J 0] 25);rwa [hz] at this,World.ownsRow_nil _ _ _ _,World.ownsRow_nil _ _ _ _,World.ownsRow_nil _ _ _ _,World.ownsRow_nil _ _ _ _,(fun g h=>by cases h),(fun g h=>by cases h),(fun g h=>by cases h),Nat.le_refl _,(Below.refl _ _).alloc (by omega) _⟩
 clear hz
 go_enter Tryz.func21,Tryz.ntmps21
 go_wp2
 rw[<- hW0]
 clear hW0
 go_loopw [6] (fun i wr=>∃ k:Nat,k<=n/\i=O J ((n:Int) - 1 - (k:Int))/\∃ sv fv,Gr W0 (w.heap.size+1) (w.heap.size+1) wr sv (Y none 0 0) fv (Y none 0 0) (Qc k) [] (Gx n k) [])
  (fun i _=>(intOf i+1).toNat)
 case atStart=>exact⟨0,Nat.zero_le _,by simp,_,_,G0⟩
 case round =>
  obtain⟨k,hk,rfl,sv,fv,G⟩:=hrel
  clear G0
  obtain⟨ao,cap,rfl⟩:=Aq G.f
  obtain⟨aZ,cZ,rfl⟩:=Aq G.s
  rw[G6,Md] at G
  obtain⟨q0,q1,q2,q3,q4,f0,f1,f2,f3,f4,qs⟩:=Af G.box
  by_cases hlt:k<n
  ·have i1:0<=(n:Int) - 1 - (k:Int):=by omega
   go_wp2_with (first
    | (at_builtin;refine wpList_append_own_at _ rfl (.tmp 15) (.tmp 17) 23 rfl (w.heap.size+1) 3 i0 (O J 0) 1 8 Tryz.underlying23 hi hz0 hz1 hz2 rfl (by first|decide|exact Ex.ne _ _ (by decide)) _ _ _ rfl (G.f.alloc _) ⟨wr.heap.size,0,none⟩ 1 1 [O J ((n:Int) - 1 - (k:Int))] rfl rfl (Lt _ _ _ _ rfl) (by intro u hu;simp at hu;subst hu;rfl) (by rw[G6];unfold maxLen;omega) (by rw[G6];omega) (by simp;omega) ?_;intro v2 w2 ho2 hg2 _ hloc2;obtain⟨g2,cap2,rfl⟩:=ownsRow_form ho2 (by omega);have HG2:Hid ((wr.alloc (.cells #[O J ((n:Int) - 1 - (k:Int))] 3)).grownBy w2 (Value.slice ao k cap).ownBlock):=hg2;have G3:=G.a7l (x:=(n:Int) - 1 - (k:Int)) ho2 HG2.out hloc2;clear ho2 hg2 hloc2;clear q0 q1 q2 q3 q4 f0 f1 f2 f3 f4;obtain⟨q0,q1,q2,q3,q4,f0,f1,f2,f3,f4,qsx⟩:=Af (D6 G.box HG2.out (own_ne G.f G.box (by first|decide|exact Ex.ne _ _ (by decide))));have z2:w.heap.size+1<w2.heap.size:=qsx)
    | (at_builtin;refine wpList_append_own_at _ rfl (.tmp 21) (.tmp 23) 22 rfl (w.heap.size+1) 64 j0 (.agg #[O J 0,O J 0,O J 0,O J 0,.bool false,O J 0]) 6 48 Tryz.underlying22 hj yz0 yz1 yz2 rfl (by first|decide|exact Ex.ne _ _ (by decide)) _ _ _ rfl (G3.s.alloc _) ⟨w2.heap.size,0,none⟩ 1 1 sl0.enc rfl rfl (a9o _ _ (World.size_setCell ..).symm) (by intro u hu;simp only[Sl.enc,sl0,List.mem_cons,List.not_mem_nil,or_false] at hu;rcases hu with rfl|rfl|rfl|rfl|rfl|rfl <;> rfl) (by rw[Md];unfold maxLen;omega) (by rw[Md];omega) (by simp;omega) ?_;intro v3 w3 ho3 hg3 _ hloc3;obtain⟨g3,cap3,rfl⟩:=ownsRow_form ho3 (by omega);have HG3:Hid (((w2.setCell ⟨w.heap.size+1,2,none⟩ (Y (some ⟨g2,0,none⟩) ((Gx n k).length+1) cap2)).alloc (.cells #[O J 0,O J 0,O J 0,O J 0,.bool false,O J 0] 64)).grownBy w3 (Value.slice aZ k cZ).ownBlock):=hg3;have G4:=G3.b4e (x:=sl0) ho3 HG3.out hloc3;clear ho3 hg3 hloc3;clear q0 q1 q2 q3 q4 f0 f1 f2 f3 f4;obtain⟨q0,q1,q2,q3,q4,f0,f1,f2,f3,f4,qsy⟩:=Af (D6 G3.box HG3.out (own_ne G3.s G3.box (by first|decide|exact Ex.ne _ _ (by decide))))))
   go_roundw
   case rel=>exact⟨k+1,by omega,by go_num,_,_,by rw[Tv,Zu];exact G4⟩
   case measure=>simp[intOf];omega
  ·obtain rfl:k=n:=by omega
   have i1:(k:Int) - 1 - (k:Int)<0:=by omega
   go_wp2
   go_loopw [7] (fun i wr=>∃ j:Nat,j<=m/\i=O J ((j:Int)+1)/\∃ hv lv,Gr W0 (w.heap.size+1) (w.heap.size+1) wr (Y aZ k cZ) hv (Y ao k cap) lv (Qc k) (Hr j) (Gx k k) (O6 j))
    (fun i _=>(m+1) - (intOf i).toNat)
   case atStart=>exact⟨0,Nat.zero_le _,by simp,_,_,G⟩
   case round =>
    obtain⟨j,hj',rfl,hv,lv,G2⟩:=hrel
    clear G q0 q1 q2 q3 q4 f0 f1 f2 f3 f4 qs
    obtain⟨aH,cH,rfl⟩:=Aq G2.h
    obtain⟨aL,cL,rfl⟩:=Aq G2.l
    rw[G7,G9] at G2
    obtain⟨q0,q1,q2,q3,q4,f0,f1,f2,f3,f4,qs⟩:=Af G2.box
    by_cases hlt2:j<m
    ·have eV:-((j:Int)+1)=-1 - (j:Int):=by omega
     have HEV:Hid _:=eV
     clear eV
     go_wp2_with (first
      | (at_builtin;((refine wpList_append_own_at _ rfl (.tmp 32) (.tmp 35) 23 rfl (w.heap.size+1) 3 i0 (O J 0) 1 8 Tryz.underlying23 hi hz0 hz1 hz2 rfl (by first|decide|exact Ex.ne _ _ (by decide)) _ _ _ rfl (G2.h.alloc _) ⟨wr.heap.size,0,none⟩ 1 1 [O J (-((j:Int)+1))] rfl rfl (Lt _ _ _ _ rfl) (by intro u hu;simp at hu;subst hu;rfl) (by rw[G7];unfold maxLen;omega) (by rw[G7];omega) (by simp;omega) ?_;intro v2 w2 ho2 hg2 _ hloc2;obtain⟨g2,cap2,rfl⟩:=ownsRow_form ho2 (by omega);have HG2:Hid ((wr.alloc (.cells #[O J (-((j:Int)+1))] 3)).grownBy w2 (Value.slice aH j cH).ownBlock):=hg2;have G3:=G2.a7q (x:=-((j:Int)+1)) ho2 HG2.out hloc2;clear ho2 hg2 hloc2;clear q0 q1 q2 q3 q4 f0 f1 f2 f3 f4;obtain⟨q0,q1,q2,q3,q4,f0,f1,f2,f3,f4,qsx⟩:=Af (D6 G2.box HG2.out (own_ne G2.h G2.box (by first|decide|exact Ex.ne _ _ (by decide))));have z2:w.heap.size+1<w2.heap.size:=qsx)))
      | (at_builtin;refine wpList_append_own_at _ rfl (.tmp 39) (.tmp 40) 23 rfl (w.heap.size+1) 3 i0 (O J 0) 1 8 Tryz.underlying23 hi hz0 hz1 hz2 rfl (by first|decide|exact Ex.ne _ _ (by decide)) _ _ _ rfl (G3.l.alloc _) ⟨w2.heap.size,0,none⟩ 1 1 [O J (-1)] rfl rfl (Lt _ _ _ _ (World.size_setCell ..).symm) (by intro u hu;simp at hu;subst hu;rfl) (by rw[G9];unfold maxLen;omega) (by rw[G9];omega) (by simp;omega) ?_;intro v3 w3 ho3 hg3 _ hloc3;obtain⟨g3,cap3,rfl⟩:=ownsRow_form ho3 (by omega);have HG3:Hid (((w2.setCell ⟨w.heap.size+1,1,none⟩ (Y (some ⟨g2,0,none⟩) ((Hr j).length+1) cap2)).alloc (.cells #[O J (-1)] 3)).grownBy w3 (Value.slice aL j cL).ownBlock):=hg3;have G4:=G3.a7y (x:=-1) ho3 HG3.out hloc3;clear ho3 hg3 hloc3;clear q0 q1 q2 q3 q4 f0 f1 f2 f3 f4;obtain⟨q0,q1,q2,q3,q4,f0,f1,f2,f3,f4,qsy⟩:=Af (D6 G3.box HG3.out (own_ne G3.l G3.box (by first|decide|exact Ex.ne _ _ (by decide))))))
     go_roundw
     case rel=>exact⟨j+1,by omega,by go_num,_,_,by rw[Tz,U1,<- HEV.out];exact G4⟩
     case measure=>simp[intOf];omega
    ·obtain rfl:j=m:=by omega
     have HR2:Hid (wr.heap[w.heap.size]?=_):=(G2.below.block w.heap.size (by omega)).trans HR.out
     obtain⟨r0,r1,r2,r3,r4,g0,g1,g2,g3,g4,rs⟩:=Af HR2.out
     have A:=G2.ans (by rw[Md];omega) (by rw[G7];omega) (by rw[G6];omega) (by rw[G9];omega)
     have HA:Hid (Ans (w.heap.size+1) wr _ _):=A
     have HB:Hid (Below w.heap.size w wr):=HW.out.trans (G2.below.mono (by omega))
     clear A G2
     go_wp2
     refine bodyPost_ret (v:=.agg #[Y aZ k cZ,Y aH j cH,Y ao k cap,Y aL j cL,O J 0]) (by simp[results,Tryz.results21,go_sem,r0,r1,r2,r3,r4]) rfl ⟨_,rfl,?_,?_⟩
     ·exact(HA.out.off (by omega) (fun k hk=>Mc (w:=wr) hk)).mono (by omega)
     ·exact HB.out.trans (Jl wr _ _ _ _ _ _ _ (by omega))
end
end Go.Proofs.YthhgoenomehobaaGreat.mm
