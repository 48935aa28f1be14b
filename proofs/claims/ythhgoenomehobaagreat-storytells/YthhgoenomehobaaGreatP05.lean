/- Parts. -/
import Derived.Test.YthhgoenomehobaaGreatP03
import Derived.Test.YthhgoenomehobaaGreatP04
namespace Go.Proofs.YthhgoenomehobaaGreat.mm
open Tryz
set_option maxRecDepth 100000
set_option linter.unusedVariables false
open Value renaming int → O, slice → Y
open IntKind renaming i64 → J
open Tryz renaming prog → Pg
open Go renaming World → Wq
open ChangeShapes WideShapes ChangeAt RowKit
set_option maxHeartbeats 0
theorem check_any(M:Mm)(aS aH aF aL:Option Addr)(cS cH cF cL:Nat)(w:Wq)(A:At w aS aH aF aL cS cH cF cL M) :
  Calls Pg 40 #[Cm aS aH aF aL cS cH cF cL M] w fun e w' =>
   e=.returned (O J (chk M))/\Below w.heap.size w w':=by
 unfold Cm
 have m1:=A.s.max;have m2:=A.s.le;have m3:=A.h.max;have m4:=A.h.le;have m5:=A.l.max;have m6:=A.l.le
 have n1:M.s.length<=9223372036854775807:=by omega
 have n2:M.h.length<=9223372036854775807:=by omega
 have n3:M.l.length<=9223372036854775807:=by omega
 clear m1 m2 m3 m4 m5 m6
 by_cases h1:12<M.s.length
 ·have HV:Qi (chk M=2):=by show _=_;unfold chk;rw[af (.inl h1)]
  go_enter func40,ntmps40
  go_wp2
  go_ret
  exact⟨Bf HV.o.symm,A7 _ _⟩
 cases h2:inB (M.h.length:Int) 1 4
 ·have HV:Qi (chk M=2):=by
   show _=_;unfold chk
   have:¬ (1<=(M.h.length:Int)/\(M.h.length:Int)<=4):=fun hh=>by rw[(Ar _ _ _).2 hh] at h2;cases h2
   rw[af (by omega)]
  go_enter func40,ntmps40
  go_wp2_with (go_at_call 85;refine(Ci _ _ _ _).mono ?_;rintro e w1 ⟨rfl,rfl⟩)
  go_ret
  exact⟨Bf HV.o.symm,A7 _ _⟩
 have h2':=(Ar _ _ _).1 h2
 by_cases h3:M.l.length=M.h.length
 rotate_left
 ·have HV:Qi (chk M=4):=by
   show _=_;unfold chk
   rw[ae (by omega),af h3]
  have h3':((M.l.length:Int) != (M.h.length:Int))=true:=by rw[bne_iff_ne];omega
  go_enter func40,ntmps40
  go_wp2_with (go_at_call 85;refine(Ci _ _ _ _).mono ?_;rintro e w1 ⟨rfl,rfl⟩)
  go_ret
  exact⟨Bf HV.o.symm,A7 _ _⟩
 have h3':((M.l.length:Int) != (M.h.length:Int))=false:=by rw[h3];simp
 have H3:Qi (M.l.length=M.h.length):=h3
 clear h3
 cases h4:inB M.w 0 1000000
 ·have HV:Qi (chk M=3):=by
   show _=_;unfold chk
   rw[ae (by omega),ae (by simpa using H3.o),af h4]
  go_enter func40,ntmps40
  go_wp2_with (go_at_call 85;refine(Ci _ _ _ _).mono ?_;rintro e w1 ⟨rfl,rfl⟩)
  go_ret
  exact⟨Bf HV.o.symm,A7 _ _⟩
 have HC:Qi (chk M=(if Ap (D8 M.h.length M.s.length) M.s≠0 then Ap (D8 M.h.length M.s.length) M.s
   else if Ap (Cj M.h.length M.s.length) (M.h.zip M.l)≠0 then Ap (Cj M.h.length M.s.length) (M.h.zip M.l)
   else if Bo M.s [] M.f≠0 then Bo M.s [] M.f
   else Cc M.f 0 M.s)):=by
  show _=_
  unfold chk
  rw[ae (by omega),ae (by simpa using H3.o),ae (by rw[h4];simp)]
 have A1:=A.below (A7 w (.cells #[Y aS M.s.length cS,Y aH M.h.length cH,Y aF M.f.length cF,Y aL M.l.length cL,O J M.w] 25))
 have yD:Qi _:=A1
 clear A A1
 go_enter func40,ntmps40
 go_wp2_with (go_at_call 85;refine(Ci _ _ _ _).mono ?_;rintro e w1 ⟨rfl,rfl⟩)
 refine(Ws M aS aH aF aL cS cH cF cL _ yD.o).mono ?_
 rintro e w1 ⟨rfl,bu⟩
 have LC:Qi _:=yD.o.below bu
 have FV:=(A7 w (.cells #[Y aS M.s.length cS,Y aH M.h.length cH,Y aF M.f.length cF,Y aL M.l.length cL,O J M.w] 25)).trans (bu.mono (by simp))
 have hy1:=bu.mono (show w.heap.size+1<=_ by simp)
 clear bu yD
 obtain⟨q0,q1,q2,q3,q4,q5⟩:=En hy1
 generalize hE1:Ap (D8 M.h.length M.s.length) M.s=E1
 have gp:Qi _:=hE1
 clear hE1
 by_cases e1:E1=0
 rotate_left
 ·have e1':(E1 != 0)=true:=by simpa using e1
  have HV:Qi (chk M=E1):=by
   show _=_
   rw[HC.o,gp.o,af e1]
  go_wp2
  go_ret
  exact⟨Bf HV.o.symm,FV⟩
 subst e1
 go_wp2_with fail
 refine(Ve M aS aH aF aL cS cH cF cL _ LC.o H3.o).mono ?_
 rintro e w2 ⟨rfl,dm⟩
 have QB:Qi _:=LC.o.below dm
 have FU:=FV.trans (dm.mono FV.size)
 have hy2:=hy1.trans (dm.mono q5)
 clear dm LC q0 q1 q2 q3 q4 q5
 obtain⟨q0,q1,q2,q3,q4,q5⟩:=En hy2
 generalize hE2:Ap (Cj M.h.length M.s.length) (M.h.zip M.l)=E2
 have ai:Qi _:=hE2
 clear hE2
 by_cases e2:E2=0
 rotate_left
 ·have e2':(E2 != 0)=true:=by simpa using e2
  have HV:Qi (chk M=E2):=by
   show _=_
   rw[HC.o,gp.o,ai.o,ae (by simp),af e2]
  go_wp2
  go_ret
  exact⟨Bf HV.o.symm,FU⟩
 subst e2
 go_wp2_with fail
 refine(Y5 M aS aH aF aL cS cH cF cL _ QB.o).mono ?_
 rintro e w3 ⟨rfl,gu⟩
 have hx3:=FU.trans (gu.mono FU.size)
 generalize hE3:(if Bo M.s [] M.f≠0 then Bo M.s [] M.f else Cc M.f 0 M.s)=E3
 have HV:Qi (chk M=E3):=by
  show _=_
  rw[HC.o,gp.o,ai.o,ae (by simp),ae (by simp),hE3]
 clear hE3
 go_wp2
 go_ret
 exact⟨Bf HV.o.symm,hx3⟩
end Go.Proofs.YthhgoenomehobaaGreat.mm
