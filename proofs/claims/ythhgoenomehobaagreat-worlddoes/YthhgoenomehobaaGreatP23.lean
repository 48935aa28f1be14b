/- Parts. -/
import Derived.Test.YthhgoenomehobaaGreatP22
import Derived.Test.YthhgoenomehobaaGreatP18
import Derived.BigQuiet
import Derived.Deep.QuietTactic
import Derived.Test.YthhgoenomehobaaGreatP13
import Derived.Test.YthhgoenomehobaaGreatP14
import Derived.BigRegion
import Derived.Lib.QuietBelow
namespace Go.Proofs.YthhgoenomehobaaGreat.mm
set_option maxRecDepth 100000
set_option linter.unusedVariables false
open Go.Value renaming int → O, slice → Y
open Go.IntKind renaming i64 → J
open Go.Proofs.Tryz renaming prog → Pg
open Go renaming World → Wq
open Go.ChangeShapes Go.WideShapes Go.ChangeAt Go.RowKit Go.Joins Go.Deep
set_option maxHeartbeats 6400000
section
structure WM(w:Wq)(n0 B lo lo2:Nat)(aS aH aF aL:Option Addr)(cS cH cF cL:Nat)(M:Mm)(g cT n:Nat)(l:List (Tk × TkV)):Prop where
 m:Mine (Xw (some ⟨g,0,none⟩) n cT) w B lo aS aH aF aL cS cH cF cL M
 t:Bo w lo2 g cT l
 len:l.length=n
 ap:∀ k,Ac B aS aH aF aL k->¬ TB g l k
 ka:∀ p∈l,∀ a,p.2.aK=some a->a.block<w.heap.size/\a.block≠g/\∀ q∈l,∀ b,q.2.aH=some b->a.block≠b.block
 hlo:n0<=lo
 hlo2:n0<=lo2
def WP(n0 B:Nat)(W':Wd)(w w':Wq):Prop :=
 ∃ aS aH aF aL cS cH cF cL aT cT l,w'.heap[B]?=some (.cells #[Y aS (W'.m).slots.length cS,Y aH (W'.m).heads.length cH,Y aF (W'.m).free.length cF,Y aL (W'.m).locks.length cL,O J (W'.m).now,Y aT (List.length l) cT] 28 (0,0))/\At w' aS aH aF aL cS cH cF cL W'.m/\Hi4 n0 aS aH aF aL/\Ef w' aT cT l/\THi n0 aT l/\l.map (·.1)=W'.ts/\Kept w w' B n0
theorem Mine.a9n{Xb:Ex}{w:Wq}{B lo:Nat}{aS aH aF aL:Option Addr}{cS cH cF cL:Nat}{M:Mm}(m:Mine Xb w B lo aS aH aF aL cS cH cF cL M)(t:Int):Mine Xb (w.setCell ⟨B,4,none⟩ (O J t)) B lo aS aH aF aL cS cH cF cL { M with now:=t }:=by
 obtain⟨hB,⟨s,h,f,l,hf,hl,fl,lz⟩,m1,m2,m3,m4⟩:=m
 refine⟨?_,⟨ownsRow_setCell_other s (own_ne s hB (Ex.ne _ _ (by decide))) _,ownsRow_setCell_other h (own_ne h hB (Ex.ne _ _ (by decide))) _,ownsRow_setCell_other f (own_ne f hB (Ex.ne _ _ (by decide))) _,ownsRow_setCell_other l (own_ne l hB (Ex.ne _ _ (by decide))) _,hf,hl,fl,by rw[World.size_setCell];exact lz⟩,m1,m2,m3,m4⟩
 have:=block_setCell (i:=4) hB (O J t)
 simpa using this
theorem a6h{Xb:Ex}{w:Wq}{B lo:Nat}{aS aH aF aL:Option Addr}{cS cH cF cL:Nat}{M:Mm}(m:Mine Xb w B lo aS aH aF aL cS cH cF cL M)(h:M.now=1000000) :
  Calls Pg 105 #[.pointer (some ⟨B,0,none⟩)] w fun e w'=>e=.returned (O J 7)/\w'=w:=by
 obtain⟨q0,q1,q2,q3,q4,f0,f1,f2,f3,f4,qs⟩:=Af m.box
 rw[h] at q4
 clear m h
 go_enter Tryz.func105,Tryz.ntmps105
 go_wp2
 go_ret
 exact⟨rfl,rfl⟩
theorem b2l{Xb:Ex}{w:Wq}{B lo:Nat}{aS aH aF aL:Option Addr}{cS cH cF cL:Nat}{M:Mm}(m:Mine Xb w B lo aS aH aF aL cS cH cF cL M)(h:M.now≠1000000)(h0:0<=M.now/\M.now<=1000000) :
  Calls Pg 105 #[.pointer (some ⟨B,0,none⟩)] w fun e w'=>e=.returned (O J 0)/\w'=w.setCell ⟨B,4,none⟩ (O J (M.now+1)):=by
 obtain⟨q0,q1,q2,q3,q4,f0,f1,f2,f3,f4,qs⟩:=Af m.box
 clear m
 have h':(M.now==1000000)=false:=by simpa using h
 have hw:IntKind.i64.wrap (M.now+1)=M.now+1:=by rw[IntKind.wrap_i64];omega
 clear h
 generalize M.now=t at *
 go_enter Tryz.func105,Tryz.ntmps105
 go_wp2
 go_ret
 exact⟨rfl,rfl⟩
def Yl(M:Mm)(t:Tk)(c:Cl):Int :=
 if t.busy then 8 else if D5 M.slots.length M.heads.length c≠0 then D5 M.slots.length M.heads.length c
 else if c.kind=1/\100<=t.held.length then 7 else if c.kind=6/\hasB t.held c.slot=false then 6 else 0
def BegP(w:Wq)(lo2 g cT:Nat)(l:List (Tk × TkV))(i:Nat)(c:Cl)(E:Int)(e:Ending)(w':Wq):Prop :=
 e=.returned (O J E)/\((E≠0/\Below w.heap.size w w')\/(E=0/\(∃ h:i<l.length,Bo w' lo2 g cT (l.set i (⟨true,Cm c,l[i].1.held⟩,⟨none,0,l[i].2.aH,l[i].2.cH⟩)))/\Fine w w' (fun k=>k=g)))
theorem a7u{w:Wq}{a:Option Addr}{c:Nat}{l:List Int}(r:Cj w a c l)(n:Nat):Cj (w.drewN n) a c l:=Sr r fun _ _=>rfl
theorem a3v(M:Mm)(c:Cl)(aS aH aF aL:Option Addr)(cS cH cF cL:Nat)(g cT lo2 i:Nat)(l:List (Tk × TkV))(w:Wq)(T:Bo w lo2 g cT l)(hi:i<l.length)(m1:M.slots.length<=9223372036854775807)(m2:M.heads.length<=9223372036854775807) :
  Calls Pg 107 #[.agg #[Y aS M.slots.length cS,Y aH M.heads.length cH,Y aF M.free.length cF,Y aL M.locks.length cL,O J M.now],.pointer (some ⟨g,i*16,none⟩),.agg #[O J c.kind,O J c.a,O J c.b,O J c.time,O J c.bk,O J c.slot]] w (BegP w lo2 g cT l i c (Yl M l[i].1 c)):=by
 obtain⟨C0,hC0⟩:∃ x,x=D5 M.slots.length M.heads.length c:=⟨_,rfl⟩
 have HC0:Hid (C0=D5 M.slots.length M.heads.length c):=hC0
 obtain⟨E0,hE0⟩:∃ x,x=Yl M l[i].1 c:=⟨_,rfl⟩
 rw[<- hE0]
 have HV0:Hid (E0=if l[i].1.busy then 8 else if C0≠0 then C0 else if c.kind=1/\100<=l[i].1.held.length then 7 else if c.kind=6/\hasB l[i].1.held c.slot=false then 6 else 0):=by rw[hC0];exact hE0
 clear hE0 hC0
 have hgz:=T.glo.2
 obtain⟨ox,hox⟩:∃ o:Obj,o=.cells #[Y aS M.slots.length cS,Y aH M.heads.length cH,Y aF M.free.length cF,Y aL M.locks.length cL,O J M.now] 25:=⟨_,rfl⟩
 obtain⟨oy,hoy⟩:∃ o:Obj,o=.cells #[O J c.kind,O J c.a,O J c.b,O J c.time,O J c.bk,O J c.slot] 32:=⟨_,rfl⟩
 have b0:Below w.heap.size w ((w.alloc ox).alloc oy):=below_alloc2 w ox oy
 have HX0:Hid (((w.alloc ox).alloc oy).heap[w.heap.size]?=some ox):=by show _=_;rw[Below.heap_alloc _ _ _ (by simp),heap_alloc_new]
 have HY0:Hid (((w.alloc ox).alloc oy).heap[w.heap.size+1]?=some oy):=by
  have:=heap_alloc_new (w.alloc ox) oy
  rwa [show (w.alloc ox).heap.size=w.heap.size+1 by simp] at this
 have HT:Hid (Bo w lo2 g cT l):=T
 have HT0:Hid (Bo ((w.alloc ox).alloc oy) lo2 g cT l):=T.below b0
 have HI:Hid (Cj w l[i].2.aH l[i].2.cH l[i].1.held):=T.a0d.held _ (List.getElem_mem hi)
 have hhm:=T.hm _ (List.getElem_mem hi)
 have HRef:Hid (∀ (E:Int) (W:Wq),E0=E->E≠0->Below w.heap.size w W->BegP w lo2 g cT l i c E0 (.returned (O J E)) W):=fun E W h1 h2 h3=>⟨by rw[h1],.inl ⟨by rw[h1];exact h2,h3⟩⟩
 obtain⟨tb,htb⟩:∃ tb,tb=l[i].1.busy:=⟨_,rfl⟩
 obtain⟨hd,hhd⟩:∃ hd,hd=l[i].1.held:=⟨_,rfl⟩
 obtain⟨aD,haD⟩:∃ a,a=l[i].2.aH:=⟨_,rfl⟩
 obtain⟨cD,hcD⟩:∃ a,a=l[i].2.cH:=⟨_,rfl⟩
 rw[<- htb,<- hhd] at HV0
 rw[<- hhd,<- haD,<- hcD] at HI
 rw[<- hhd] at hhm
 have HTc:Hid (∀ W:Wq,Bo W lo2 g cT l->W.cell? ⟨g,i*16,none⟩=some (.bool tb)/\W.frozen? ⟨g,i*16,none⟩=false/\W.cell? ⟨g,i*16+15,none⟩=some (Y aD hd.length cD)):=fun W TW=>⟨by rw[htb];exact(TW.busy hi).1,(TW.busy hi).2,by rw[hhd,haD,hcD];exact(TW.Zb hi).1⟩
 obtain⟨e0,-,e2⟩:=HTc.out _ T
 clear T HT htb hhd haD hcD
 go_enter Tryz.func107,Tryz.ntmps107
 cases tb
 rotate_left
 ·have HV:Hid (E0=8):=HV0.out
  go_wp2
  go_ret
  exact HRef.out 8 _ HV.out (by decide) (by rw[<- hox,<- hoy];exact b0)
 go_wp2_with fail
 rw[<- hox,<- hoy]
 generalize (w.alloc ox).alloc oy=W0 at *
 subst hox hoy
 refine(Yo HC0.out aS aH aF aL M.free.length M.locks.length cS cH cF cL M.now W0 m1 m2).mono ?_
 rintro e w1 ⟨rfl,hb1⟩
 have HY1:Hid (w1.heap[w.heap.size+1]?=_):=(hb1.block _ (lt_of_block HY0.out)).trans HY0.out
 have HT1:Hid (Bo w1 lo2 g cT l):=HT0.out.below hb1
 have HI1:Hid (Cj w1 aD cD hd):=HI.out.below (b0.trans (hb1.mono b0.size))
 have b1:Below w.heap.size w w1:=b0.trans (hb1.mono b0.size)
 clear HX0 HY0 HT0 HI hb1 b0 e0 e2
 by_cases hC:C0=0
 rotate_left
 ·have h':(C0 != 0)=true:=by simpa using hC
  have HV:Hid (E0=C0):=by have:=HV0.out;rw[if_neg (by simp),if_pos hC] at this;exact this
  clear HV0
  go_wp2
  go_ret
  exact HRef.out C0 _ HV.out hC b1
 have HV1:Hid (E0=if c.kind=1/\100<=hd.length then 7 else if c.kind=6/\hasB hd c.slot=false then 6 else 0):=by have:=HV0.out;rw[if_neg (by simp),if_neg (by simpa using hC)] at this;exact this
 clear HV0 HC0
 subst hC
 obtain⟨d0,d1,d2⟩:=HTc.out _ HT1.out
 have y0:w1.cell? ⟨w.heap.size+1,0,none⟩=some (O J c.kind):=by rw[cell_of_block HY1.out];rfl
 have y5:w1.cell? ⟨w.heap.size+1,5,none⟩=some (O J c.slot):=by rw[cell_of_block HY1.out];rfl
 have lC:Hid (w1.rangeAt (w.heap.size+1) 0 [O J c.kind,O J c.a,O J c.b,O J c.time,O J c.bk,O J c.slot]):=Au HY1.out rfl
 have tF:Hid (w1.there g (i*16+1) 14):=HT1.out.there hi (by decide)
 by_cases hk1:c.kind=1
 ·by_cases hh:100<=hd.length
  ·have HV:Hid (E0=7):=by have:=HV1.out;rw[if_pos ⟨hk1,hh⟩] at this;exact this
   have hh':(100:Int)<=(hd.length:Int):=by omega
   rw[hk1] at y0
   clear HV1 lC
   go_wp2
   go_ret
   exact HRef.out 7 _ HV.out (by decide) b1
  ·have HV:Hid (E0=0):=by have:=HV1.out;rw[if_neg (fun h=>hh h.2),if_neg (fun h=>by have:=h.1;omega)] at this;exact this
   have hh':decide ((100:Int)<=(hd.length:Int))=false:=by simpa using (by omega:¬ (100:Int)<=(hd.length:Int))
   rw[hk1] at y0
   clear HV1 hh tF hk1
   go_wp2_with fail
   go_quiet (fail)
   have HT2:Hid (Bo (w1.drewN nq) lo2 g cT l):=HT1.out.same fun _ _ _=>rfl
   have lC2:Hid ((w1.drewN nq).rangeAt (w.heap.size+1) 0 [O J c.kind,O J c.a,O J c.b,O J c.time,O J c.bk,O J c.slot]):=lC.out
   have b2:Below w.heap.size w (w1.drewN nq):=below_drewN b1 nq
   clear HT1 HI1 lC b1 HY1 y0 y5 d0 d1 d2
   generalize w1.drewN nq=W2 at *
   go_wp2_with (refine b4i rfl _ rfl rfl lC2.out ?_)
   refine(Tc c W2).mono ?_
   rintro e w3 ⟨rfl,hb3⟩
   have HT3:Hid (Bo w3 lo2 g cT l):=HT2.out.below hb3
   have HF3:Hid (Fine w w3 (fun k=>k=g)):=.of_below _ (b2.trans (hb3.mono b2.size))
   obtain⟨d0,d1,d2⟩:=HTc.out _ HT3.out
   have tF:Hid ((w3.setCell ⟨g,i*16,none⟩ (.bool true)).there g (i*16+1) 14):=(HT3.out.setB hi true).there (by rw[List.length_set];exact hi) (by decide)
   clear hb3 HT2 lC2 b2
   go_wp2_with (refine Bd (f:=Cm c) rfl _ _ rfl rfl rfl tF.out ?_)
   go_ret
   refine⟨by rw[HV.out];rfl,.inr ⟨HV.out,⟨hi,?_⟩,?_⟩⟩
   ·have h1:=HT3.out.setB hi true
    have hi':i<(l.set i (⟨true,l[i].1.f,l[i].1.held⟩,l[i].2)).length:=by rw[List.length_set];exact hi
    have h2:=h1.a2c hi' (Cm c) none 0 (Ky _) (fun _ h=>by cases h) (fun h=>absurd rfl h) (fun h=>absurd rfl h)
    rw[List.set_set] at h2
    simpa using h2
   ·have h:=HF3.out.set (k:=g) (.inl rfl) (i*16) (.bool true)
    exact⟨(Ap _ _ _).1.trans h.os,(Ap _ _ _).2.1.trans h.tape,(Ap _ _ _).2.2.trans h.output,by rw[setCells_size];exact h.size,fun k h1 h2=>(Ad h2 _ _ _).trans (h.block k h1 h2)⟩
 by_cases hk6:c.kind=6
 ·have hq1:(c.kind==1)=false:=by simpa using hk1
  have hq6:(c.kind==6)=true:=by simpa using hk6
  have HV2:Hid (E0=if hasB hd c.slot=false then 6 else 0):=by
   have:=HV1.out
   rw[if_neg (fun h=>hk1 h.1)] at this
   show _=_
   rw[this]
   by_cases hb:hasB hd c.slot=false
   ·rw[if_pos ⟨hk6,hb⟩,if_pos hb]
   ·rw[if_neg (fun h=>hb h.2),if_neg hb]
  have HCt:Hid (∀ n,Calls Pg 33 #[Y aD hd.length cD,O J c.slot] (w1.drewN n) fun e w'=>e=.returned (.bool (hasB hd c.slot))/\w'=w1.drewN n):=fun n=>by
   have r:=a7u HI1.out n
   have h:=Hg aD hd.length cD hd c.slot (w1.drewN n) (Nat.le_refl _) (by have:=r.max;omega) r.at_
   refine h.mono ?_
   rintro e w' ⟨rfl,rfl⟩
   exact⟨by rw[List.take_length],rfl⟩
  clear HV1 tF hk1 hk6
  generalize hasB hd c.slot=hb at *
  go_wp2_with fail
  go_quiet (first|(go_at_call 33;exact Calls.quiet_of_same (HCt.out _)))
  cases hb
  ·have HV:Hid (E0=6):=HV2.out
   go_wp2
   go_ret
   exact HRef.out 6 _ HV.out (by decide) (below_drewN b1 nq)
  ·have HV:Hid (E0=0):=HV2.out
   have HT2:Hid (Bo (w1.drewN nq) lo2 g cT l):=HT1.out.same fun _ _ _=>rfl
   have lC2:Hid ((w1.drewN nq).rangeAt (w.heap.size+1) 0 [O J c.kind,O J c.a,O J c.b,O J c.time,O J c.bk,O J c.slot]):=lC.out
   have b2:Below w.heap.size w (w1.drewN nq):=below_drewN b1 nq
   clear HT1 HI1 lC b1 HY1 y0 y5 d0 d1 d2
   generalize w1.drewN nq=W2 at *
   go_wp2_with (refine b4i rfl _ rfl rfl lC2.out ?_)
   refine(Tc c W2).mono ?_
   rintro e w3 ⟨rfl,hb3⟩
   have HT3:Hid (Bo w3 lo2 g cT l):=HT2.out.below hb3
   have HF3:Hid (Fine w w3 (fun k=>k=g)):=.of_below _ (b2.trans (hb3.mono b2.size))
   obtain⟨d0,d1,d2⟩:=HTc.out _ HT3.out
   have tF:Hid ((w3.setCell ⟨g,i*16,none⟩ (.bool true)).there g (i*16+1) 14):=(HT3.out.setB hi true).there (by rw[List.length_set];exact hi) (by decide)
   clear hb3 HT2 lC2 b2
   go_wp2_with (refine Bd (f:=Cm c) rfl _ _ rfl rfl rfl tF.out ?_)
   go_ret
   refine⟨by rw[HV.out];rfl,.inr ⟨HV.out,⟨hi,?_⟩,?_⟩⟩
   ·have h1:=HT3.out.setB hi true
    have hi':i<(l.set i (⟨true,l[i].1.f,l[i].1.held⟩,l[i].2)).length:=by rw[List.length_set];exact hi
    have h2:=h1.a2c hi' (Cm c) none 0 (Ky _) (fun _ h=>by cases h) (fun h=>absurd rfl h) (fun h=>absurd rfl h)
    rw[List.set_set] at h2
    simpa using h2
   ·have h:=HF3.out.set (k:=g) (.inl rfl) (i*16) (.bool true)
    exact⟨(Ap _ _ _).1.trans h.os,(Ap _ _ _).2.1.trans h.tape,(Ap _ _ _).2.2.trans h.output,by rw[setCells_size];exact h.size,fun k h1 h2=>(Ad h2 _ _ _).trans (h.block k h1 h2)⟩
 ·have hq1:(c.kind==1)=false:=by simpa using hk1
  have hq6:(c.kind==6)=false:=by simpa using hk6
  have HV:Hid (E0=0):=by have:=HV1.out;rw[if_neg (fun h=>hk1 h.1),if_neg (fun h=>hk6 h.1)] at this;exact this
  clear HV1 tF hk1 hk6
  go_wp2_with fail
  go_quiet (fail)
  have HT2:Hid (Bo (w1.drewN nq) lo2 g cT l):=HT1.out.same fun _ _ _=>rfl
  have lC2:Hid ((w1.drewN nq).rangeAt (w.heap.size+1) 0 [O J c.kind,O J c.a,O J c.b,O J c.time,O J c.bk,O J c.slot]):=lC.out
  have b2:Below w.heap.size w (w1.drewN nq):=below_drewN b1 nq
  clear HT1 HI1 lC b1 HY1 y0 y5 d0 d1 d2
  generalize w1.drewN nq=W2 at *
  go_wp2_with (refine b4i rfl _ rfl rfl lC2.out ?_)
  refine(Tc c W2).mono ?_
  rintro e w3 ⟨rfl,hb3⟩
  have HT3:Hid (Bo w3 lo2 g cT l):=HT2.out.below hb3
  have HF3:Hid (Fine w w3 (fun k=>k=g)):=.of_below _ (b2.trans (hb3.mono b2.size))
  obtain⟨d0,d1,d2⟩:=HTc.out _ HT3.out
  have tF:Hid ((w3.setCell ⟨g,i*16,none⟩ (.bool true)).there g (i*16+1) 14):=(HT3.out.setB hi true).there (by rw[List.length_set];exact hi) (by decide)
  clear hb3 HT2 lC2 b2
  go_wp2_with (refine Bd (f:=Cm c) rfl _ _ rfl rfl rfl tF.out ?_)
  go_ret
  refine⟨by rw[HV.out];rfl,.inr ⟨HV.out,⟨hi,?_⟩,?_⟩⟩
  ·have h1:=HT3.out.setB hi true
   have hi':i<(l.set i (⟨true,l[i].1.f,l[i].1.held⟩,l[i].2)).length:=by rw[List.length_set];exact hi
   have h2:=h1.a2c hi' (Cm c) none 0 (Ky _) (fun _ h=>by cases h) (fun h=>absurd rfl h) (fun h=>absurd rfl h)
   rw[List.set_set] at h2
   simpa using h2
  ·have h:=HF3.out.set (k:=g) (.inl rfl) (i*16) (.bool true)
   exact⟨(Ap _ _ _).1.trans h.os,(Ap _ _ _).2.1.trans h.tape,(Ap _ _ _).2.2.trans h.output,by rw[setCells_size];exact h.size,fun k h1 h2=>(Ad h2 _ _ _).trans (h.block k h1 h2)⟩
end
section
def X6(Xb:Ex)(w:Wq)(B lo:Nat)(Z:Nat->Prop)(lo2 g cT:Nat)(l:List (Tk × TkV))(i:Nat)(M':Mm)(f':Fr)(h':List Int)(e:Ending)(w':Wq):Prop :=
 ∃ (a:Option Addr) (c:Nat),e=.returned (.agg #[O J ((f').c).kind,O J ((f').c).a,O J ((f').c).b,O J ((f').c).time,O J ((f').c).bk,O J ((f').c).slot,O J (f').pl,O J (f').cur,O J (f').prev,O J (f').slot,O J (f').n,Y a (f').keys.length c,.bool (f').done,O J (f').e])/\Am w' a c f'.keys/\(∀ ad,a=some ad->(∃ h:i<l.length,l[i].2.aK=some ad)\/w.heap.size<=ad.block)/\Has Xb w' B lo (Up w Z) M' /\
  (∃ h:i<l.length,Bo w' lo2 g cT (l.set i (⟨l[i].1.busy,l[i].1.f,h'⟩,l[i].2)))/\Fine w w' (fun k=>Z k\/TB g l k)
theorem Bo.fine{w w':Wq}{lo g cT:Nat}{l:List (Tk × TkV)}{Z:Nat->Prop}(T:Bo w lo g cT l)(hf:Fine w w' Z)(ap:∀ k,Z k->¬ TB g l k):Bo w' lo g cT l:=T.same fun k h hk=>hf.block k h (fun hz=>ap k hz hk)
theorem set_self{l:List (Tk × TkV)}{i:Nat}(h:i<l.length):l.set i (⟨l[i].1.busy,l[i].1.f,l[i].1.held⟩,⟨l[i].2.aK,l[i].2.cK,l[i].2.aH,l[i].2.cH⟩)=l:=List.set_getElem_self h
theorem Bo.b3k{w w1:Wq}{lo g cT i k gh cD:Nat}{l:List (Tk × TkV)}(T:Bo w lo g cT l)(hi:i<l.length)(hk:k<l[i].1.held.length)(ha:l[i].2.aH=some ⟨gh,0,none⟩)(hc:l[i].2.cH=cD)
  (ho:w1.ownsRow lo 3 1 (Y (some ⟨gh,0,none⟩) (l[i].1.held.eraseIdx k).length cD) (l[i].1.held.eraseIdx k).length (encI (l[i].1.held.eraseIdx k))) (hf:Fine w w1 (fun j=>j=gh)) :
  Bo (w1.setCell ⟨g,i*16+15,none⟩ (Y (some ⟨gh,0,none⟩) (l[i].1.held.eraseIdx k).length cD)) lo g cT (l.set i (⟨l[i].1.busy,l[i].1.f,l[i].1.held.eraseIdx k⟩,⟨l[i].2.aK,l[i].2.cK,some ⟨gh,0,none⟩,cD⟩)):=by
 refine T.setH hi (l[i].1.held.eraseIdx k) (some ⟨gh,0,none⟩) cD ?_ ho (fun j h hne=>hf.block j h (hne _ ha)) (fun x hx=>.inl ⟨⟨gh,0,none⟩,ha,by injection hx with hx;rw[<- hx]⟩)
 rw[List.length_eraseIdx_of_lt hk]
 have:=T.hm _ (List.getElem_mem hi)
 omega
theorem Tj{B:Nat}{t:TypeId}:∀ (vs:List Value) (o:Nat) (w:Wq) (cs:Array Value),w.heap[B]?=some (.cells cs t (0,0))->o+vs.length<=cs.size->(w.setCells B o vs).heap[B]?=some (.cells (cs.toList.take o++vs++cs.toList.drop (o+vs.length)).toArray t (0,0))
 | [],o,w,cs,h,hl=>by rw[World.setCells,h];simp
 | v :: vs,o,w,cs,h,hl=>by
  rw[World.setCells]
  simp only[List.length_cons] at hl
  have:=Tj vs (o+1) (w.setCell ⟨B,o,none⟩ v) _ (block_setCell (i:=o) h v) (by simp;omega)
  rw[this]
  congr 3
  have e1:(cs.toList.set o v).take (o+1)=cs.toList.take o ++ [v]:=by
   rw[List.set_eq_take_append_cons_drop,if_pos (by simp;omega),List.take_append,List.length_take,Nat.min_eq_left (by simp;omega),List.take_of_length_le (by rw[List.length_take];omega),show o+1 - o=1 by omega]
   rfl
  have e2:(cs.toList.set o v).drop (o+1+vs.length)=cs.toList.drop (o+(v :: vs).length):=by
   rw[List.drop_set_of_lt (by omega)]
   congr 1;simp;omega
  simp only[Array.toList_setIfInBounds]
  rw[e1,e2]
  simp
theorem Bi{B:Nat}{t:TypeId}{vs:List Value}{w:Wq}{cs:Array Value}(h:w.heap[B]?=some (.cells cs t (0,0)))(hl:vs.length=cs.size):(w.setCells B 0 vs).heap[B]?=some (.cells vs.toArray t (0,0)):=by
 rw[Tj vs 0 w cs h (by omega)]
 simp[hl]
theorem Gw{w w1:Wq}{Z:Nat->Prop}{B o:Nat}{vs:List Value}(h:Fine w w1 Z)(hB:Z B\/w.heap.size<=B):Fine w (w1.setCells B o vs) Z :=
 ⟨(Ap _ _ _).1.trans h.os,(Ap _ _ _).2.1.trans h.tape,(Ap _ _ _).2.2.trans h.output,by rw[setCells_size];exact h.size,fun k h1 h2=>(Ad (fun e=>hB.elim (fun hz=>h2 (by rw[e];exact hz)) (fun hz=>by omega)) _ _ _).trans (h.block k h1 h2)⟩
theorem Mine.a8i{Xb:Ex}{w:Wq}{B lo X:Nat}{aS aH aF aL:Option Addr}{cS cH cF cL:Nat}{M:Mm}{cs:Array Value}(m:Mine Xb w B lo aS aH aF aL cS cH cF cL M)(hX:w.heap[X]?=some (.cells cs 47 (0,0))):¬ Ac B aS aH aF aL X:=by
 have hne:∀ {lo2 size n c2:Nat} {e:TypeId} {a2:Option Addr} {xs:List Value},w.ownsRow lo2 e size (Y a2 n c2) n xs->e≠47->∀ ad2,a2=some ad2->ad2.block≠X:=by
  rintro lo2 size n c2 e a2 xs h2 ne ad2 rfl heq
  exact own_ne h2 hX ne (by show some ad2.block=_;rw[heq])
 rintro (hB|⟨ad2,e,hb⟩|⟨ad2,e,hb⟩|⟨ad2,e,hb⟩|⟨ad2,e,hb⟩)
 ·have h:=m.box
  rw[<- hB,hX] at h
  injection h with h
  injection h with _ h
  exact Ex.ne Xb 47 (by decide) h
 ·exact hne m.c.s (by decide) ad2 e hb
 ·exact hne m.c.h (by decide) ad2 e hb
 ·exact hne m.c.f (by decide) ad2 e hb
 ·exact hne m.c.l (by decide) ad2 e hb
theorem Has.cells{Xb:Ex}{w:Wq}{B lo X o:Nat}{Z:Nat->Prop}{M:Mm}{cs:Array Value}(h:Has Xb w B lo Z M)(hX:w.heap[X]?=some (.cells cs 47 (0,0)))(vs:List Value):Has Xb (w.setCells X o vs) B lo Z M:=by
 obtain⟨aS,aH,aF,aL,cS,cH,cF,cL,m,hf⟩:=h
 exact⟨aS,aH,aF,aL,cS,cH,cF,cL,m.same (by rw[setCells_size];exact Nat.le_refl _) (fun k _ hk=>Ad (fun e=>m.a8i hX (by rw[<- e];exact hk)) _ _ _),hf⟩
theorem a4u{Xb:Ex}(M:Mm)(B lo:Nat)(Z:Nat->Prop)(g cT lo2 i:Nat)(l:List (Tk × TkV))(w:Wq)(H:Has Xb w B lo Z M)(hM:Ok M)(T:Bo w lo2 g cT l)(hi:i<l.length)(ap:∀ k,Z k->¬ TB g l k)(hsl:∀ a∈l[i].1.held,Dc M a=true)(kz:∀ p∈l,∀ a,p.2.aK=some a->a.block<w.heap.size)(zz:∀ k,Z k->k<w.heap.size) :
  Calls Pg 162 #[.pointer (some ⟨B,0,none⟩),.pointer (some ⟨g,i*16,none⟩)] w (X6 Xb w B lo Z lo2 g cT l i (if l[i].1.f.c.slot∈l[i].1.held then Em M l[i].1.f.c.slot else M) (Ag l[i].1.f 0) (l[i].1.held.erase l[i].1.f.c.slot)):=by
 have hpi:=List.getElem_mem hi
 have hgz:=T.glo.2
 obtain⟨oz,hoz⟩:∃ o:Obj,o=.cells #[O J 0,O J 0,O J 0,O J 0,O J 0,O J 0,O J 0,O J 0,O J 0,O J 0,O J 0,Y none 0 0,.bool false,O J 0] 47:=⟨_,rfl⟩
 have b0:Below w.heap.size w (w.alloc oz):=A7 w oz
 have HZ0:Hid ((w.alloc oz).heap[w.heap.size]?=some oz):=heap_alloc_new w oz
 have HT0:Hid (Bo (w.alloc oz) lo2 g cT l):=T.below b0
 have HH0:Hid (Has Xb (w.alloc oz) B lo Z M):=H.below b0
 obtain⟨x,hx⟩:∃ x,x=l[i].1.f.c.slot:=⟨_,rfl⟩
 obtain⟨hd,hhd⟩:∃ hd,hd=l[i].1.held:=⟨_,rfl⟩
 obtain⟨aD,haD⟩:∃ a,a=l[i].2.aH:=⟨_,rfl⟩
 obtain⟨cD,hcD⟩:∃ a,a=l[i].2.cH:=⟨_,rfl⟩
 have c6:w.cell? ⟨g,i*16+6,none⟩=some (O J x):=by rw[hx];exact T.cell (q:=6) hi (by decide)
 have HX:Hid (x=l[i].1.f.c.slot):=hx
 have HD:Hid (hd=l[i].1.held):=hhd
 have HaD:Hid (aD=l[i].2.aH):=haD
 have HcD:Hid (cD=l[i].2.cH):=hcD
 have HTc:Hid (∀ W:Wq,Bo W lo2 g cT l->W.cell? ⟨g,i*16+15,none⟩=some (Y aD hd.length cD)/\W.frozen? ⟨g,i*16+15,none⟩=false):=fun W TW=>⟨by rw[hhd,haD,hcD];exact(TW.Zb hi).1,(TW.Zb hi).2⟩
 have HIx:Hid (Calls Pg 78 #[Y aD hd.length cD,O J x] (w.alloc oz) fun e w'=>∃ i:Int,e=.returned (O J i)/\Ue hd x i/\(w.alloc oz)=w'):=index_first aD cD hd x _ (by rw[haD,hcD,hhd];exact HT0.out.a0d.held _ hpi)
 have e15:=(HTc.out w T).1
 have HAp:Hid (∀ k,Z k->¬ TB g l k):=ap
 have HSl:Hid (∀ a∈hd,Dc M a=true):=by rw[hhd];exact hsl
 rw[<- hx,<- hhd]
 have HF0:Hid (Fine w (w.alloc oz) (fun k=>Z k\/TB g l k)):=.of_below _ b0
 have HTz:Hid (∀ (q:Tk × TkV),q.2.aK=l[i].2.aK->(∀ a,q.2.aH=some a->a.block<w.heap.size)->∀ k,w.heap.size<=k->¬ TB g (l.set i q) k):=fun q hq1 hq2 k hk htb=>by
  rcases htb with rfl|⟨p,hp,a,ha,rfl⟩|⟨p,hp,a,ha,rfl⟩
  ·omega
  ·rcases Ja hi hp with rfl|h
   ·have:=hq2 a ha;omega
   ·have:=(T.hlo h ha).2;omega
  ·rcases Ja hi hp with rfl|h
   ·rw[hq1] at ha;have:=kz _ hpi a ha;omega
   ·have:=kz p h a ha;omega
 have HTD:Hid (∀ a,aD=some a->a.block<w.heap.size):=fun a ha=>by rw[haD] at ha;exact(T.hlo hpi ha).2
 obtain⟨M0,hM0⟩:∃ M0,M0=if x∈hd then Em M x else M:=⟨_,rfl⟩
 obtain⟨h1,hh1⟩:∃ h1,h1=hd.erase x:=⟨_,rfl⟩
 rw[<- hM0,<- hh1]
 have HM0:Hid (M0=if x∈hd then Em M x else M):=hM0
 have HH1:Hid (h1=hd.erase x):=hh1
 have HZz:Hid (∀ k,Z k->k<w.heap.size):=zz
 have HDj:Hid (∀ gh,aD=some ⟨gh,0,none⟩->TB g l gh/\gh≠g):=fun gh e=>by
  have e':l[i].2.aH=some ⟨gh,0,none⟩:=by rw[<- haD];exact e
  exact⟨.inr (.inl ⟨_,hpi,_,e',rfl⟩),T.hg hpi e'⟩
 have zw0:(w.alloc oz).heap.size=w.heap.size+1:=by simp
 clear H T ap hsl hhd haD hcD hx hM0 hh1 kz zz
 go_enter Tryz.func162,Tryz.ntmps162
 go_wp2_with fail
 rw[<- hoz]
 generalize w.alloc oz=W0 at *
 subst hoz
 refine HIx.out.mono ?_
 rintro e w0' ⟨ix,rfl,hfi,rfl⟩
 clear HIx c6 e15
 rcases hfi with ⟨rfl,hnot⟩|⟨k,hk,rfl,hkx,hfst⟩
 ·have e1:h1=hd:=HH1.out.trans (List.erase_of_not_mem hnot)
  have e2:M0=M:=by have:=HM0.out;rw[if_neg hnot] at this;exact this
  clear hnot HM0 HH1
  obtain⟨a1,ha1⟩:∃ a1,a1=aD:=⟨_,rfl⟩
  obtain⟨c1,hc1⟩:∃ c1,c1=cD:=⟨_,rfl⟩
  have HA1:Hid (a1=l[i].2.aH):=ha1.trans HaD.out
  have HC1:Hid (c1=l[i].2.cH):=hc1.trans HcD.out
  have TW:Hid (Bo W0 lo2 g cT (l.set i (⟨l[i].1.busy,l[i].1.f,h1⟩,⟨l[i].2.aK,l[i].2.cK,a1,c1⟩))):=by
   rw[e1,ha1,hc1,HD.out,HaD.out,HcD.out,set_self hi];exact HT0.out
  have HTn:Hid (∀ k,w.heap.size<=k->¬ TB g (l.set i (⟨l[i].1.busy,l[i].1.f,h1⟩,⟨l[i].2.aK,l[i].2.cK,a1,c1⟩)) k):=HTz.out _ rfl (fun a h=>HTD.out a (by rw[<- ha1];exact h))
  have HW:Hid (Has Xb W0 B lo (Up w Z) M0):=by rw[e2];exact HH0.out.mono fun k _ h=>.inl h
  clear e1 e2 ha1 hc1 HT0 HH0
  have FW:Hid _:=HF0
  have ZW:Hid _:=HZ0
  obtain⟨W,hW⟩:∃ W,W=W0:=⟨_,rfl⟩
  rw[<- hW] at TW HW FW ZW ⊢
  clear hW HZ0 HF0
  have hi1:i<(l.set i (⟨l[i].1.busy,l[i].1.f,h1⟩,(⟨l[i].2.aK,l[i].2.cK,a1,c1⟩:TkV))).length:=by rw[List.length_set];exact hi
  have lF:Hid (W.rangeAt g (i*16+1) (l[i].1.f.enc l[i].2.aK l[i].2.cK)):=by
   have h:=TW.out.Q7 hi1
   rw[List.getElem_set_self] at h
   exact h
  have HKr:Hid (Am W l[i].2.aK l[i].2.cK l[i].1.f.keys):=by
   have h:=TW.out.keys _ (List.getElem_mem hi1)
   rw[List.getElem_set_self] at h
   exact h
  go_wp2_with (refine We rfl _ rfl rfl lF.out ?_)
  refine(Rz l[i].1.f 0 l[i].2.aK l[i].2.cK W HKr.out).mono ?_
  rintro e w3 ⟨a3,c3,rfl,hk3,hb3⟩
  have HZ3:Hid (w3.heap[w.heap.size]?=_):=(hb3.block _ (lt_of_block ZW.out)).trans ZW.out
  have t3:Hid (w3.there w.heap.size 0 14):=Az HZ3.out (by simp)
  have HB4:Hid ((w3.setCells w.heap.size 0 ((Ag l[i].1.f 0).enc a3 c3)).heap[w.heap.size]?=some (.cells #[O J ((Ag l[i].1.f 0).c).kind,O J ((Ag l[i].1.f 0).c).a,O J ((Ag l[i].1.f 0).c).b,O J ((Ag l[i].1.f 0).c).time,O J ((Ag l[i].1.f 0).c).bk,O J ((Ag l[i].1.f 0).c).slot,O J (Ag l[i].1.f 0).pl,O J (Ag l[i].1.f 0).cur,O J (Ag l[i].1.f 0).prev,O J (Ag l[i].1.f 0).slot,O J (Ag l[i].1.f 0).n,Y a3 (Ag l[i].1.f 0).keys.length c3,.bool (Ag l[i].1.f 0).done,O J (Ag l[i].1.f 0).e] 47 (0,0))):=Bi HZ3.out rfl
  have zW:=FW.out.size
  have hlt:w.heap.size<W.heap.size:=lt_of_block ZW.out
  have HH4:Hid (Has Xb (w3.setCells w.heap.size 0 ((Ag l[i].1.f 0).enc a3 c3)) B lo (Up w Z) M0):=(HW.out.below hb3).cells HZ3.out _
  have HT4:Hid (Bo (w3.setCells w.heap.size 0 ((Ag l[i].1.f 0).enc a3 c3)) lo2 g cT _):=(TW.out.below hb3).same fun k hk htb=>Ad (fun e=>HTn.out k (by rw[e];exact Nat.le_refl _) htb) _ _ _
  have HF4:Hid (Fine w (w3.setCells w.heap.size 0 ((Ag l[i].1.f 0).enc a3 c3)) (fun k=>Z k\/TB g l k)):=Gw (FW.out.below hb3) (.inr (Nat.le_refl _))
  have HK4:Hid (Am (w3.setCells w.heap.size 0 ((Ag l[i].1.f 0).enc a3 c3)) a3 c3 (Ag l[i].1.f 0).keys):=Ec (Am.own hk3.own HKr.out.max) fun _ ad e _=>Ad (by have:=(hk3.lt ad e).1;omega) _ _ _
  have HA4:Hid (∀ ad,a3=some ad->w.heap.size<=ad.block):=fun ad e=>by have:=(hk3.lt ad e).1;omega
  clear hk3 hb3 lF HKr TW HW FW ZW HZ3 HTn
  go_wp2_with (refine Bd (f:=Ag l[i].1.f 0) rfl _ _ rfl rfl rfl t3.out ?_)
  clear t3
  generalize w3.setCells w.heap.size 0 ((Ag l[i].1.f 0).enc a3 c3)=W4 at *
  refine bodyPost_ret (results_cell_row Tryz.results162 _ W4 w.heap.size 47 _ (0,0) _ rfl HB4.out Tryz.underlying47 rfl (by kernel_rfl)) rfl ?_
  exact⟨a3,c3,rfl,HK4.out,fun ad e=>.inr (HA4.out ad e),HH4.out,⟨hi,by have h:=HT4.out;rw[HA1.out,HC1.out] at h;exact h⟩,HF4.out⟩
 ·have e1:h1=hd.eraseIdx k:=HH1.out.trans (Tt hk hkx hfst)
  have hxm:x∈hd:=by rw[<- hkx];exact List.getElem_mem hk
  have e2:M0=Em M x:=by have:=HM0.out;rw[if_pos hxm] at this;exact this
  have HE1:Hid (h1=hd.eraseIdx k):=e1
  have HE2:Hid (M0=Em M x):=e2
  have HPut:Hid (Calls Pg 197 #[.pointer (some ⟨B,0,none⟩),O J x] W0 fun e w'=>e=.returned (.bool (decide (Dy M x≠0)))/\Has Xb w' B lo (Up W0 Z) (Em M x)/\Fine W0 w' Z):=Zn HH0.out hM (HSl.out x hxm)
  clear e1 e2 HM0 HH1 hkx hfst hxm HH0
  have hk0:decide ((0:Int)<=(k:Int))=true:=by simp
  go_wp2_with fail
  refine HPut.out.mono ?_
  rintro e w1 ⟨rfl,hHas,hFine⟩
  have HT1:Hid (Bo w1 lo2 g cT l):=HT0.out.fine hFine HAp.out
  have HZ1:Hid (w1.heap[w.heap.size]?=_):=(hFine.block _ (lt_of_block HZ0.out) (fun h=>by have:=HZz.out _ h;omega)).trans HZ0.out
  have HHs:Hid (Has Xb w1 B lo (Up w Z) (Em M x)):=hHas.mono fun j _ h=>h.imp id (fun h=>by omega)
  have HF1:Hid (Fine w w1 (fun k=>Z k\/TB g l k)):=HF0.out.trans hFine (fun j _ h=>.inl h)
  have hown:w1.ownsRow lo2 3 1 (Y aD hd.length cD) hd.length (encI hd):=by rw[HaD.out,HcD.out,HD.out];exact HT1.out.held _ hpi
  have hhm:hd.length<=1000:=by rw[HD.out];exact HT1.out.hm _ hpi
  clear hHas hFine HT0 HZ0 HF0 HPut
  obtain⟨gh,cap,hform⟩:=ownsRow_form hown (by omega)
  injection hform with hf1 hf2 hf3
  subst hf3
  clear hf2
  have HaG:Hid (aD=some ⟨gh,0,none⟩):=hf1
  rw[hf1] at hown
  have HDel:Hid (Calls Pg 198 #[Y (some ⟨gh,0,none⟩) hd.length cD,O J (k:Int),O J ((k:Int)+1)] w1 fun e w'=>e=.returned (Y (some ⟨gh,0,none⟩) (hd.eraseIdx k).length cD)/\w'.ownsRow lo2 3 1 (Y (some ⟨gh,0,none⟩) (hd.eraseIdx k).length cD) (hd.eraseIdx k).length (encI (hd.eraseIdx k))/\Fine w1 w' (fun k=>k=gh)):=by
   have h:=b0r gh cD k (k+1) lo2 hd w1 hown hk rfl hhm
   rw[show (((k+1:Nat)):Int)=(k:Int)+1 by omega] at h
   exact h
  obtain⟨d0,d1⟩:=HTc.out _ HT1.out
  rw[hf1] at d0
  clear hown
  have hwr:IntKind.i64.wrap ((k:Int)+1)=(k:Int)+1:=by rw[IntKind.wrap_i64];omega
  have hgh:=HDj.out gh hf1
  have hghz:gh<w.heap.size:=HTD.out _ hf1
  clear hf1
  go_wp2_with fail
  refine HDel.out.mono ?_
  rintro e w2 ⟨rfl,hown2,hF2⟩
  have T2:Hid (Bo (w2.setCell ⟨g,i*16+15,none⟩ (Y (some ⟨gh,0,none⟩) (hd.eraseIdx k).length cD)) lo2 g cT (l.set i (⟨l[i].1.busy,l[i].1.f,hd.eraseIdx k⟩,⟨l[i].2.aK,l[i].2.cK,some ⟨gh,0,none⟩,cD⟩))):=by
   have hk':k<l[i].1.held.length:=by rw[<- HD.out];exact hk
   have h:=HT1.out.b3k hi hk' (by rw[<- HaD.out];exact HaG.out) HcD.out.symm (by rw[<- HD.out];exact hown2) hF2
   rw[<- HD.out] at h
   exact h
  have hg1:w2.heap[g]?=w1.heap[g]?:=hF2.block g (HT1.out.glo.2) (fun e=>hgh.2 e.symm)
  have e15:w2.cell? ⟨g,i*16+15,none⟩=some (Y (some ⟨gh,0,none⟩) hd.length cD):=(World.cell?_of_block (a:=⟨g,i*16+15,none⟩) hg1).trans d0
  have f15:w2.frozen? ⟨g,i*16+15,none⟩=false:=(World.frozen?_of_block (a:=⟨g,i*16+15,none⟩) hg1).trans d1
  have HHw:Hid (Has Xb (w2.setCell ⟨g,i*16+15,none⟩ (Y (some ⟨gh,0,none⟩) (hd.eraseIdx k).length cD)) B lo (Up w Z) (Em M x)):=by
   have h:=HHs.out.fine hF2 (fun j _ hj e=>by
    subst e
    rcases hj with h|h
    ·exact HAp.out _ h hgh.1
    ·omega)
   refine h.same (by rw[World.size_setCell];exact Nat.le_refl _) fun j _ hj=>Below.heap_setCell _ _ _ _ ?_
   dsimp only
   rintro rfl
   rcases hj with h|h
   ·exact HAp.out _ h (.inl rfl)
   ·omega
  have HFw:Hid (Fine w (w2.setCell ⟨g,i*16+15,none⟩ (Y (some ⟨gh,0,none⟩) (hd.eraseIdx k).length cD)) (fun k=>Z k\/TB g l k)):=(HF1.out.trans hF2 (fun j _ h=>by subst h;exact .inr hgh.1)).set (.inl (.inr (.inl rfl))) _ _
  have HZw:Hid ((w2.setCell ⟨g,i*16+15,none⟩ (Y (some ⟨gh,0,none⟩) (hd.eraseIdx k).length cD)).heap[w.heap.size]?=_):=(Below.heap_setCell w2 ⟨g,i*16+15,none⟩ _ w.heap.size (by show w.heap.size≠g;omega)).trans ((hF2.block _ (lt_of_block HZ1.out) (by omega)).trans HZ1.out)
  obtain⟨a1,ha1⟩:∃ a1:Option Addr,a1=some ⟨gh,0,none⟩:=⟨_,rfl⟩
  obtain⟨c1,hc1⟩:∃ c1,c1=cD:=⟨_,rfl⟩
  have HA1:Hid (a1=l[i].2.aH):=ha1.trans (HaG.out.symm.trans HaD.out)
  have HC1:Hid (c1=l[i].2.cH):=hc1.trans HcD.out
  obtain⟨W,hW⟩:∃ W,W=w2.setCell ⟨g,i*16+15,none⟩ (Y (some ⟨gh,0,none⟩) (hd.eraseIdx k).length cD):=⟨_,rfl⟩
  rw[<- hW] at T2 HHw HFw HZw
  have TW:Hid (Bo W lo2 g cT (l.set i (⟨l[i].1.busy,l[i].1.f,h1⟩,⟨l[i].2.aK,l[i].2.cK,a1,c1⟩))):=by rw[HE1.out,ha1,hc1];exact T2.out
  have HTn:Hid (∀ k,w.heap.size<=k->¬ TB g (l.set i (⟨l[i].1.busy,l[i].1.f,h1⟩,⟨l[i].2.aK,l[i].2.cK,a1,c1⟩)) k):=HTz.out _ rfl (fun a h=>by rw[ha1] at h;injection h with h;rw[<- h];exact hghz)
  have HW:Hid (Has Xb W B lo (Up w Z) M0):=by rw[HE2.out];exact HHw.out
  have FW:Hid (Fine w W (fun k=>Z k\/TB g l k)):=HFw
  have ZW:Hid (W.heap[w.heap.size]?=_):=HZw
  clear T2 HHw HFw HZw HT1 HZ1 HHs HF1 hown2 hF2 HDel d0 d1 hg1 ha1 hc1
  have hi1:i<(l.set i (⟨l[i].1.busy,l[i].1.f,h1⟩,(⟨l[i].2.aK,l[i].2.cK,a1,c1⟩:TkV))).length:=by rw[List.length_set];exact hi
  have lF:Hid (W.rangeAt g (i*16+1) (l[i].1.f.enc l[i].2.aK l[i].2.cK)):=by
   have h:=TW.out.Q7 hi1
   rw[List.getElem_set_self] at h
   exact h
  have HKr:Hid (Am W l[i].2.aK l[i].2.cK l[i].1.f.keys):=by
   have h:=TW.out.keys _ (List.getElem_mem hi1)
   rw[List.getElem_set_self] at h
   exact h
  have lF2:Hid ((w2.setCell ⟨g,i*16+15,none⟩ (Y (some ⟨gh,0,none⟩) (hd.eraseIdx k).length cD)).rangeAt g (i*16+1) (l[i].1.f.enc l[i].2.aK l[i].2.cK)):=by rw[<- hW];exact lF.out
  go_wp2_with (refine We rfl _ rfl rfl lF2.out ?_)
  rw[<- hW]
  clear hW lF2 e15 f15
  refine(Rz l[i].1.f 0 l[i].2.aK l[i].2.cK W HKr.out).mono ?_
  rintro e w3 ⟨a3,c3,rfl,hk3,hb3⟩
  have HZ3:Hid (w3.heap[w.heap.size]?=_):=(hb3.block _ (lt_of_block ZW.out)).trans ZW.out
  have t3:Hid (w3.there w.heap.size 0 14):=Az HZ3.out (by simp)
  have HB4:Hid ((w3.setCells w.heap.size 0 ((Ag l[i].1.f 0).enc a3 c3)).heap[w.heap.size]?=some (.cells #[O J ((Ag l[i].1.f 0).c).kind,O J ((Ag l[i].1.f 0).c).a,O J ((Ag l[i].1.f 0).c).b,O J ((Ag l[i].1.f 0).c).time,O J ((Ag l[i].1.f 0).c).bk,O J ((Ag l[i].1.f 0).c).slot,O J (Ag l[i].1.f 0).pl,O J (Ag l[i].1.f 0).cur,O J (Ag l[i].1.f 0).prev,O J (Ag l[i].1.f 0).slot,O J (Ag l[i].1.f 0).n,Y a3 (Ag l[i].1.f 0).keys.length c3,.bool (Ag l[i].1.f 0).done,O J (Ag l[i].1.f 0).e] 47 (0,0))):=Bi HZ3.out rfl
  have zW:=FW.out.size
  have hlt:w.heap.size<W.heap.size:=lt_of_block ZW.out
  have HH4:Hid (Has Xb (w3.setCells w.heap.size 0 ((Ag l[i].1.f 0).enc a3 c3)) B lo (Up w Z) M0):=(HW.out.below hb3).cells HZ3.out _
  have HT4:Hid (Bo (w3.setCells w.heap.size 0 ((Ag l[i].1.f 0).enc a3 c3)) lo2 g cT _):=(TW.out.below hb3).same fun k hk htb=>Ad (fun e=>HTn.out k (by rw[e];exact Nat.le_refl _) htb) _ _ _
  have HF4:Hid (Fine w (w3.setCells w.heap.size 0 ((Ag l[i].1.f 0).enc a3 c3)) (fun k=>Z k\/TB g l k)):=Gw (FW.out.below hb3) (.inr (Nat.le_refl _))
  have HK4:Hid (Am (w3.setCells w.heap.size 0 ((Ag l[i].1.f 0).enc a3 c3)) a3 c3 (Ag l[i].1.f 0).keys):=Ec (Am.own hk3.own HKr.out.max) fun _ ad e _=>Ad (by have:=(hk3.lt ad e).1;omega) _ _ _
  have HA4:Hid (∀ ad,a3=some ad->w.heap.size<=ad.block):=fun ad e=>by have:=(hk3.lt ad e).1;omega
  clear hk3 hb3 lF HKr TW HW FW ZW HZ3 HTn
  go_wp2_with (refine Bd (f:=Ag l[i].1.f 0) rfl _ _ rfl rfl rfl t3.out ?_)
  clear t3
  generalize w3.setCells w.heap.size 0 ((Ag l[i].1.f 0).enc a3 c3)=W4 at *
  refine bodyPost_ret (results_cell_row Tryz.results162 _ W4 w.heap.size 47 _ (0,0) _ rfl HB4.out Tryz.underlying47 rfl (by kernel_rfl)) rfl ?_
  exact⟨a3,c3,rfl,HK4.out,fun ad e=>.inr (HA4.out ad e),HH4.out,⟨hi,by have h:=HT4.out;rw[HA1.out,HC1.out] at h;exact h⟩,HF4.out⟩
end
section
open Go.Sort
variable {Xb:Ex}
def Yu:Code->Code
 | .seq _ b=>b
 | c=>c
def StQ(w:Wq)(R:Ending->Wq->Prop)(e:Ending)(V:Wq):Prop :=
 ∃ (g:Fr) (a:Option Addr) (c:Nat),e=.returned (.agg #[O J g.c.kind,O J g.c.a,O J g.c.b,O J g.c.time,O J g.c.bk,O J g.c.slot,O J g.pl,O J g.cur,O J g.prev,O J g.slot,O J g.n,Y a g.keys.length c,.bool g.done,O J g.e])/\Hid (V.there (w.heap.size+1) 0 14)/\Hid ((V.setCells (w.heap.size+1) 0 (g.enc a c)).heap[w.heap.size+1]?=some (.cells #[O J g.c.kind,O J g.c.a,O J g.c.b,O J g.c.time,O J g.c.bk,O J g.c.slot,O J g.pl,O J g.cur,O J g.prev,O J g.slot,O J g.n,Y a g.keys.length c,.bool g.done,O J g.e] 47 (0,0)))/\Hid (R e (V.setCells (w.heap.size+1) 0 (g.enc a c)))
def RQ(Xb:Ex)(w:Wq)(Z:Nat->Prop)(B lo:Nat)(aK:Option Addr)(cK:Nat)(N:Mm)(G:Fr)(e:Ending)(V:Wq):Prop :=
 (e=.returned (.agg #[O J G.c.kind,O J G.c.a,O J G.c.b,O J G.c.time,O J G.c.bk,O J G.c.slot,O J G.pl,O J G.cur,O J G.prev,O J G.slot,O J G.n,Y aK G.keys.length cK,.bool G.done,O J G.e])/\Am V aK cK G.keys)/\Has Xb V B lo (Up w Z) N/\Fine w V Z
theorem Dx(n:Int)(w:Wq){r:Bool}(h:decide (0<n)=r):Calls Pg 115 #[O J n] w fun e w'=>e=.returned (.bool r)/\w=w':=by
 subst h
 go_enter Tryz.func115,Tryz.ntmps115
 go_wp2
 go_ret
 exact⟨rfl,rfl⟩
section
variable {w V:Wq} {Z:Nat->Prop} {B lo:Nat} {M:Mm} {f:Fr} {aK:Option Addr} {cK:Nat}
theorem Uh(h:Lk2 Xb w V Z B lo M f aK cK){G:Fr}(hr:Am w aK cK G.keys)(hz:∀ ad,aK=some ad->¬ Z ad.block) :
  Hid (V.rangeAt w.heap.size 0 (f.enc aK cK))/\Hid (V.there (w.heap.size+1) 0 14)/\Hid ((V.setCells (w.heap.size+1) 0 (G.enc aK cK)).heap[w.heap.size+1]?=some (.cells #[O J G.c.kind,O J G.c.a,O J G.c.b,O J G.c.time,O J G.c.bk,O J G.c.slot,O J G.pl,O J G.cur,O J G.prev,O J G.slot,O J G.n,Y aK G.keys.length cK,.bool G.done,O J G.e] 47 (0,0)))/\Hid (RQ Xb w Z B lo aK cK M G (.returned (.agg #[O J G.c.kind,O J G.c.a,O J G.c.b,O J G.c.time,O J G.c.bk,O J G.c.slot,O J G.pl,O J G.cur,O J G.prev,O J G.slot,O J G.n,Y aK G.keys.length cK,.bool G.done,O J G.e])) (V.setCells (w.heap.size+1) 0 (G.enc aK cK))):=by
 have hs:=h.same (w2:=V.setCells (w.heap.size+1) 0 (G.enc aK cK)) (by rw[setCells_size];exact Nat.le_refl _) (Ap _ _ _) (fun k hk=>Ad hk _ _ _)
 exact⟨Au h.fb rfl,Az h.zb (by simp),Bi h.zb rfl,⟨rfl,hr.fine hs.2 hz⟩,hs⟩
theorem Si(h:Lk2 Xb w V Z B lo M f aK cK){G H:Fr}(hG:H=G)(hr:Am w aK cK H.keys)(hz:∀ ad,aK=some ad->¬ Z ad.block) :
  StQ w (RQ Xb w Z B lo aK cK M G) (.returned (.agg #[O J H.c.kind,O J H.c.a,O J H.c.b,O J H.c.time,O J H.c.bk,O J H.c.slot,O J H.pl,O J H.cur,O J H.prev,O J H.slot,O J H.n,Y aK H.keys.length cK,.bool H.done,O J H.e])) V:=by
 subst hG
 exact⟨H,aK,cK,rfl,(Uh h hr hz).2⟩
theorem Dl(n:Nat)(hn:n=114\/n=117\/n=122\/n=124)(k:Int)(h:Lk2 Xb w V Z B lo M f aK cK){G:Fr}(hG:toF f k=G)(hr:Am w aK cK f.keys)(hz:∀ ad,aK=some ad->¬ Z ad.block):Calls Pg n #[O J k,.pointer (some ⟨w.heap.size,0,none⟩)] V (StQ w (RQ Xb w Z B lo aK cK M G)):=by
 have HE:Hid _:=(h.store 6 (O J k) (toF f k) rfl)
 obtain⟨f0,f1,f2,f3,f4,f5,f6,f7,f8,f9,f10,f11,f12,f13,ff,fs⟩:=A8 h.fb
 clear h
 have HX:Hid (∀ V',Lk2 Xb w V' Z B lo M (toF f k) aK cK->StQ w (RQ Xb w Z B lo aK cK M G) (.returned (.agg #[O J (((toF f k)).c).kind,O J (((toF f k)).c).a,O J (((toF f k)).c).b,O J (((toF f k)).c).time,O J (((toF f k)).c).bk,O J (((toF f k)).c).slot,O J ((toF f k)).pl,O J ((toF f k)).cur,O J ((toF f k)).prev,O J ((toF f k)).slot,O J ((toF f k)).n,Y aK ((toF f k)).keys.length cK,.bool ((toF f k)).done,O J ((toF f k)).e])) V'):=fun V' h=>Si h hG hr hz
 clear hG hr hz
 rcases hn with rfl|rfl|rfl|rfl
 ·go_enter Tryz.func114,Tryz.ntmps114
  go_wp2
  exact bodyPost_ret (v:=.agg #[O J (((toF f k)).c).kind,O J (((toF f k)).c).a,O J (((toF f k)).c).b,O J (((toF f k)).c).time,O J (((toF f k)).c).bk,O J (((toF f k)).c).slot,O J ((toF f k)).pl,O J ((toF f k)).cur,O J ((toF f k)).prev,O J ((toF f k)).slot,O J ((toF f k)).n,Y aK ((toF f k)).keys.length cK,.bool ((toF f k)).done,O J ((toF f k)).e]) (by simp[results,Tryz.results114,go_sem,toF]) rfl (HX.out _ (HE.out.below (A7 _ _)))
 ·go_enter Tryz.func117,Tryz.ntmps117
  go_wp2
  exact bodyPost_ret (v:=.agg #[O J (((toF f k)).c).kind,O J (((toF f k)).c).a,O J (((toF f k)).c).b,O J (((toF f k)).c).time,O J (((toF f k)).c).bk,O J (((toF f k)).c).slot,O J ((toF f k)).pl,O J ((toF f k)).cur,O J ((toF f k)).prev,O J ((toF f k)).slot,O J ((toF f k)).n,Y aK ((toF f k)).keys.length cK,.bool ((toF f k)).done,O J ((toF f k)).e]) (by simp[results,Tryz.results117,go_sem,toF]) rfl (HX.out _ (HE.out.below (A7 _ _)))
 ·go_enter Tryz.func122,Tryz.ntmps122
  go_wp2
  exact bodyPost_ret (v:=.agg #[O J (((toF f k)).c).kind,O J (((toF f k)).c).a,O J (((toF f k)).c).b,O J (((toF f k)).c).time,O J (((toF f k)).c).bk,O J (((toF f k)).c).slot,O J ((toF f k)).pl,O J ((toF f k)).cur,O J ((toF f k)).prev,O J ((toF f k)).slot,O J ((toF f k)).n,Y aK ((toF f k)).keys.length cK,.bool ((toF f k)).done,O J ((toF f k)).e]) (by simp[results,Tryz.results122,go_sem,toF]) rfl (HX.out _ (HE.out.below (A7 _ _)))
 ·go_enter Tryz.func124,Tryz.ntmps124
  go_wp2
  exact bodyPost_ret (v:=.agg #[O J (((toF f k)).c).kind,O J (((toF f k)).c).a,O J (((toF f k)).c).b,O J (((toF f k)).c).time,O J (((toF f k)).c).bk,O J (((toF f k)).c).slot,O J ((toF f k)).pl,O J ((toF f k)).cur,O J ((toF f k)).prev,O J ((toF f k)).slot,O J ((toF f k)).n,Y aK ((toF f k)).keys.length cK,.bool ((toF f k)).done,O J ((toF f k)).e]) (by simp[results,Tryz.results124,go_sem,toF]) rfl (HX.out _ (HE.out.below (A7 _ _)))
theorem Vo(f:Fr)(n:Int)(aK:Option Addr)(cK:Nat)(w:Wq) :
  Calls Pg 73 #[.agg #[O J f.c.kind,O J f.c.a,O J f.c.b,O J f.c.time,O J f.c.bk,O J f.c.slot,O J f.pl,O J f.cur,O J f.prev,O J f.slot,O J f.n,Y aK f.keys.length cK,.bool f.done,O J f.e],O J n] w fun e w'=>e=.returned (.agg #[O J (((Ag f n)).c).kind,O J (((Ag f n)).c).a,O J (((Ag f n)).c).b,O J (((Ag f n)).c).time,O J (((Ag f n)).c).bk,O J (((Ag f n)).c).slot,O J ((Ag f n)).pl,O J ((Ag f n)).cur,O J ((Ag f n)).prev,O J ((Ag f n)).slot,O J ((Ag f n)).n,Y aK ((Ag f n)).keys.length cK,.bool ((Ag f n)).done,O J ((Ag f n)).e])/\Below w.heap.size w w':=by
 go_enter Tryz.func73,Tryz.ntmps73
 go_wp2
 refine bodyPost_ret (v:=.agg #[O J (((Ag f n)).c).kind,O J (((Ag f n)).c).a,O J (((Ag f n)).c).b,O J (((Ag f n)).c).time,O J (((Ag f n)).c).bk,O J (((Ag f n)).c).slot,O J ((Ag f n)).pl,O J ((Ag f n)).cur,O J ((Ag f n)).prev,O J ((Ag f n)).slot,O J ((Ag f n)).n,Y aK ((Ag f n)).keys.length cK,.bool ((Ag f n)).done,O J ((Ag f n)).e]) (by simp[results,Tryz.results73,go_sem,Ag]) rfl ⟨rfl,?_⟩
 repeat (first|exact Below.refl _ _|refine Below.alloc ?_ (by simp <;> omega) _|refine Below.setCell ?_ (by simp <;> omega) _)
theorem Bg(n:Int)(h:Lk2 Xb w V Z B lo M f aK cK){G:Fr}(hG:Ag f n=G)(hr:Am w aK cK f.keys)(hz:∀ ad,aK=some ad->¬ Z ad.block):Calls Pg 73 #[.agg #[O J f.c.kind,O J f.c.a,O J f.c.b,O J f.c.time,O J f.c.bk,O J f.c.slot,O J f.pl,O J f.cur,O J f.prev,O J f.slot,O J f.n,Y aK f.keys.length cK,.bool f.done,O J f.e],O J n] V (StQ w (RQ Xb w Z B lo aK cK M G)) :=
 (Vo f n aK cK V).mono fun _ _ ⟨h1,h2⟩=>h1 ▸ Si (h.below h2) hG hr hz
end
structure LH(Xb:Ex)(w w1:Wq)(B lo:Nat)(aS aH aF aL:Option Addr)(cS cH cF cL:Nat)(M:Mm)(f:Fr)(aK:Option Addr)(cK b:Nat):Prop where
 e:Hid (Lk Xb w w1 B lo aS aH aF aL cS cH cF cL M f aK cK)
 r:Hid (Am w aK cK f.keys)
 z:Hid (∀ ad,aK=some ad->¬ Ac B aS aH aF aL ad.block)
 ok:Hid (Ok M)
 fit:Hid (Fit M f)
 bl:b<M.heads.length
 bb:Hid (Ey M.heads.length f.c=b)
 ns:M.slots.length<=12
 nh:M.heads.length<=4
section
variable {w w1:Wq} {B lo:Nat} {aS aH aF aL:Option Addr} {cS cH cF cL:Nat} {M:Mm} {f:Fr} {aK:Option Addr} {cK b:Nat}
theorem Lk.Iq(h:Lk Xb w w1 B lo aS aH aF aL cS cH cF cL M f aK cK)(ns:M.slots.length<=12){j:Nat}(hj:j<M.slots.length):∃ gS,aS=some ⟨gS,0,none⟩/\gS<w1.heap.size/\w1.cell? ⟨gS,j*6,none⟩=some (O J (Aa M j).refs)/\w1.cell? ⟨gS,j*6+1,none⟩=some (O J (Aa M j).a)/\w1.cell? ⟨gS,j*6+2,none⟩=some (O J (Aa M j).b)/\w1.cell? ⟨gS,j*6+3,none⟩=some (O J (Aa M j).unt)/\w1.cell? ⟨gS,j*6+4,none⟩=some (.bool (Aa M j).inn)/\w1.cell? ⟨gS,j*6+5,none⟩=some (O J (Aa M j).next):=by
 obtain⟨gS,hS,oS,lS,kS,-⟩:=Bh h.m.c.s (by omega)
 have hO:=h.m.c.s
 rw[hS] at hO
 obtain⟨x0,x1,x2,x3,x4,x5,-⟩:=Ci hO hj rfl
 exact⟨gS,hS,cell_lt x0,x0,x1,x2,x3,x4,x5⟩
theorem LH.head(h:LH Xb w w1 B lo aS aH aF aL cS cH cF cL M f aK cK b):∃ gH,aH=some ⟨gH,0,none⟩/\w1.cell? ⟨gH,b,none⟩=some (O J (Bf M b)):=by
 have:=h.nh
 have hbl:=h.bl
 obtain⟨gH,hH,oH,lH,-,-⟩:=Bh h.e.out.m.c.h (by omega)
 have hO:=h.e.out.m.c.h
 rw[hH] at hO
 refine⟨gH,hH,?_⟩
 rw[(Fe hO hbl).1]
 simp[Bf,List.getD_eq_getElem?_getD,hbl]
theorem LH.seq(s:Sl)(f:Fr)(W:Wq):(Op.equalIn 10000 30 (.agg #[O J s.a,O J s.b]) (.agg #[O J f.c.a,O J f.c.b])).run Pg W=.ok (lkK s f) W:=by rw[a7w];rfl
end
end
section
open Go.Sort
variable {Xb:Ex}
section
variable {w W w2:Wq} {B lo:Nat} {aS aH aF aL:Option Addr} {cS cH cF cL:Nat} {M N:Mm} {f g:Fr} {aK:Option Addr} {cK:Nat} {e:Ending}
theorem D9(h:Lk Xb w W B lo aS aH aF aL cS cH cF cL M f aK cK)(h':Ret W w2 e g aK cK/\Has Xb w2 B lo (Up W (Ac B aS aH aF aL)) N/\Fine W w2 (Ac B aS aH aF aL))(hk:g.keys=f.keys)(r:Am w aK cK f.keys) :
  StQ w (fun e w'=>Ret w w' e g aK cK/\Has Xb w' B lo (Up w (Ac B aS aH aF aL)) N/\Fine w w' (Ac B aS aH aF aL)) e w2:=by
 obtain⟨⟨a2,c2,rfl,hr2,hl2,hd2⟩,hh2,hf2⟩:=h'
 have h2:=h.after hh2 hf2
 have hs:=h2.same (w2:=w2.setCells (w.heap.size+1) 0 (g.enc a2 c2)) (by rw[setCells_size];exact Nat.le_refl _) (Ap _ _ _) (fun k hk=>Ad hk _ _ _)
 have hz:=lt_of_block h.zb
 refine⟨g,a2,c2,rfl,Az h2.zb (by simp),Bi h2.zb rfl,⟨a2,c2,rfl,Ec hr2 (fun h0 ad e _=>Ad ?_ _ _ _),fun ad e=>(hl2 ad e).imp id (fun h'=>by omega),hd2⟩,hs⟩
 rcases hl2 ad e with h3|h3
 ·rcases r.at_ with h4|⟨b,o,h4,hc⟩
  ·rw[hk] at h0;exact absurd h4 h0
  ·have:=cell_lt (hc 0 (by rw[hk] at h0;omega)).1
   rw[h3] at h4
   injection h4 with h4
   rw[h4]
   dsimp only
   omega
 ·omega
theorem a3o(h:Lk Xb w W B lo aS aH aF aL cS cH cF cL M f aK cK)(h':a0k W w2 e g/\Has Xb w2 B lo (Up W (Ac B aS aH aF aL)) N/\Fine W w2 (Ac B aS aH aF aL)) :
  StQ w (fun e w'=>a0k w w' e g/\Has Xb w' B lo (Up w (Ac B aS aH aF aL)) N/\Fine w w' (Ac B aS aH aF aL)) e w2:=by
 obtain⟨⟨a2,c2,rfl,hr2⟩,hh2,hf2⟩:=h'
 have h2:=h.after hh2 hf2
 have hs:=h2.same (w2:=w2.setCells (w.heap.size+1) 0 (g.enc a2 c2)) (by rw[setCells_size];exact Nat.le_refl _) (Ap _ _ _) (fun k hk=>Ad hk _ _ _)
 have hz:=lt_of_block h.zb
 exact⟨g,a2,c2,rfl,Az h2.zb (by simp),Bi h2.zb rfl,⟨a2,c2,rfl,(hr2.same fun ad e=>Ad (by have:=(hr2.lt ad e).1;omega) _ _ _).le (by omega)⟩,hs⟩
end
theorem Jw(M:Mm)(f:Fr)(B lo:Nat)(aS aH aF aL:Option Addr)(cS cH cF cL:Nat)(aK:Option Addr)(cK:Nat)(w:Wq)
  (m:Mine Xb w B lo aS aH aF aL cS cH cF cL M) (hd:f.done=false) {R:Ending->Wq->Prop} {n:Nat} {ar:Array Value}
  (hn:f.pl=0/\n=164/\ar=#[.pointer (some ⟨B,0,none⟩),.agg #[O J f.c.kind,O J f.c.a,O J f.c.b,O J f.c.time,O J f.c.bk,O J f.c.slot,O J f.pl,O J f.cur,O J f.prev,O J f.slot,O J f.n,Y aK f.keys.length cK,.bool f.done,O J f.e]]\/f.pl=1/\n=165/\ar=#[.pointer (some ⟨B,0,none⟩),.agg #[O J f.c.kind,O J f.c.a,O J f.c.b,O J f.c.time,O J f.c.bk,O J f.c.slot,O J f.pl,O J f.cur,O J f.prev,O J f.slot,O J f.n,Y aK f.keys.length cK,.bool f.done,O J f.e]]\/f.pl=2/\n=166/\ar=#[.pointer (some ⟨B,0,none⟩),.agg #[O J f.c.kind,O J f.c.a,O J f.c.b,O J f.c.time,O J f.c.bk,O J f.c.slot,O J f.pl,O J f.cur,O J f.prev,O J f.slot,O J f.n,Y aK f.keys.length cK,.bool f.done,O J f.e]]\/f.pl=3/\n=167/\ar=#[.pointer (some ⟨B,0,none⟩),.agg #[O J f.c.kind,O J f.c.a,O J f.c.b,O J f.c.time,O J f.c.bk,O J f.c.slot,O J f.pl,O J f.cur,O J f.prev,O J f.slot,O J f.n,Y aK f.keys.length cK,.bool f.done,O J f.e]]\/f.pl=4/\n=168/\ar=#[.pointer (some ⟨B,0,none⟩),.agg #[O J f.c.kind,O J f.c.a,O J f.c.b,O J f.c.time,O J f.c.bk,O J f.c.slot,O J f.pl,O J f.cur,O J f.prev,O J f.slot,O J f.n,Y aK f.keys.length cK,.bool f.done,O J f.e]]\/f.pl=5/\n=169/\ar=#[.pointer (some ⟨B,0,none⟩),.agg #[O J f.c.kind,O J f.c.a,O J f.c.b,O J f.c.time,O J f.c.bk,O J f.c.slot,O J f.pl,O J f.cur,O J f.prev,O J f.slot,O J f.n,Y aK f.keys.length cK,.bool f.done,O J f.e]]\/f.pl=6/\n=170/\ar=#[.pointer (some ⟨B,0,none⟩),.agg #[O J f.c.kind,O J f.c.a,O J f.c.b,O J f.c.time,O J f.c.bk,O J f.c.slot,O J f.pl,O J f.cur,O J f.prev,O J f.slot,O J f.n,Y aK f.keys.length cK,.bool f.done,O J f.e]]\/7<=f.pl/\n=171/\ar=#[.agg #[O J f.c.kind,O J f.c.a,O J f.c.b,O J f.c.time,O J f.c.bk,O J f.c.slot,O J f.pl,O J f.cur,O J f.prev,O J f.slot,O J f.n,Y aK f.keys.length cK,.bool f.done,O J f.e],O J 0])
  (HP:Hid (∀ W,Lk Xb w W B lo aS aH aF aL cS cH cF cL M f aK cK->Calls Pg n ar W (StQ w R))) :
  Calls Pg 158 #[.pointer (some ⟨B,0,none⟩),.agg #[O J f.c.kind,O J f.c.a,O J f.c.b,O J f.c.time,O J f.c.bk,O J f.c.slot,O J f.pl,O J f.cur,O J f.prev,O J f.slot,O J f.n,Y aK f.keys.length cK,.bool f.done,O J f.e]] w R:=by
 obtain⟨c,pl,cur,prev,slot,nn,keys,done,ee⟩:=f
 dsimp only at hd hn ⊢
 subst hd
 obtain⟨of,hof⟩:∃ o:Obj,o=.cells #[O J c.kind,O J c.a,O J c.b,O J c.time,O J c.bk,O J c.slot,O J pl,O J cur,O J prev,O J slot,O J nn,Y aK keys.length cK,.bool false,O J ee] 47:=⟨_,rfl⟩
 obtain⟨oz,hoz⟩:∃ o:Obj,o=Ae:=⟨_,rfl⟩
 have HE:Hid (Lk Xb w ((w.alloc of).alloc oz) B lo aS aH aF aL cS cH cF cL M ⟨c,pl,cur,prev,slot,nn,keys,false,ee⟩ aK cK):=Lk.first m ⟨c,pl,cur,prev,slot,nn,keys,false,ee⟩ aK cK hof hoz
 unfold Ae at hoz
 have hA:∀ k:Int,k<7->7<=pl->(pl==k)=false:=fun n h h'=>by rw[beq_eq_false_iff_ne];omega
 clear m
 rcases hn with ⟨rfl,rfl,rfl⟩|⟨rfl,rfl,rfl⟩|⟨rfl,rfl,rfl⟩|⟨rfl,rfl,rfl⟩|⟨rfl,rfl,rfl⟩|⟨rfl,rfl,rfl⟩|⟨rfl,rfl,rfl⟩|⟨h7,rfl,rfl⟩
 all_goals
  try (
   have p0:=hA 0 (by decide) h7
   have p1:=hA 1 (by decide) h7
   have p2:=hA 2 (by decide) h7
   have p3:=hA 3 (by decide) h7
   have p4:=hA 4 (by decide) h7
   have p5:=hA 5 (by decide) h7
   have p6:=hA 6 (by decide) h7
   clear h7)
  clear hA
  go_enter Tryz.func158,Tryz.ntmps158
  go_wp2_with fail
  rw[<- hof,<- hoz]
  generalize (w.alloc of).alloc oz=W0 at *
  subst hof hoz
  refine(HP.out _ HE.out).mono ?_
  rintro e w9 ⟨g,a,c9,rfl,t9,b9,hQ⟩
  clear HE HP
  go_wp2_with (refine Bd (f:=g) rfl (.tmp 4) _ rfl rfl rfl t9.out ?_)
  generalize w9.setCells (w.heap.size+1) 0 (g.enc a c9)=W9 at *
  exact bodyPost_ret (results_cell_row Tryz.results158 _ W9 (w.heap.size+1) 47 _ (0,0) _ rfl b9.out Tryz.underlying47 rfl (by kernel_rfl)) rfl hQ.out
theorem Iz(t:Int)(M:Mm)(f:Fr)(B lo:Nat)(aS aH aF aL:Option Addr)(cS cH cF cL:Nat)(aK:Option Addr)(cK:Nat)(w:Wq)
  (m:Mine Xb w B lo aS aH aF aL cS cH cF cL M) (hd:f.done=false) {R:Ending->Wq->Prop} {n:Nat} {ar:Array Value}
  (hn:f.pl=0/\n=172/\ar=#[.pointer (some ⟨B,0,none⟩),.agg #[O J f.c.kind,O J f.c.a,O J f.c.b,O J f.c.time,O J f.c.bk,O J f.c.slot,O J f.pl,O J f.cur,O J f.prev,O J f.slot,O J f.n,Y aK f.keys.length cK,.bool f.done,O J f.e]]\/f.pl=1/\n=173/\ar=#[.pointer (some ⟨B,0,none⟩),.agg #[O J f.c.kind,O J f.c.a,O J f.c.b,O J f.c.time,O J f.c.bk,O J f.c.slot,O J f.pl,O J f.cur,O J f.prev,O J f.slot,O J f.n,Y aK f.keys.length cK,.bool f.done,O J f.e],O J t]\/f.pl=2/\n=174/\ar=#[.pointer (some ⟨B,0,none⟩),.agg #[O J f.c.kind,O J f.c.a,O J f.c.b,O J f.c.time,O J f.c.bk,O J f.c.slot,O J f.pl,O J f.cur,O J f.prev,O J f.slot,O J f.n,Y aK f.keys.length cK,.bool f.done,O J f.e]]\/f.pl=3/\n=175/\ar=#[.pointer (some ⟨B,0,none⟩),.agg #[O J f.c.kind,O J f.c.a,O J f.c.b,O J f.c.time,O J f.c.bk,O J f.c.slot,O J f.pl,O J f.cur,O J f.prev,O J f.slot,O J f.n,Y aK f.keys.length cK,.bool f.done,O J f.e]]\/f.pl=4/\n=176/\ar=#[.pointer (some ⟨B,0,none⟩),.agg #[O J f.c.kind,O J f.c.a,O J f.c.b,O J f.c.time,O J f.c.bk,O J f.c.slot,O J f.pl,O J f.cur,O J f.prev,O J f.slot,O J f.n,Y aK f.keys.length cK,.bool f.done,O J f.e]]\/f.pl=5/\n=177/\ar=#[.pointer (some ⟨B,0,none⟩),.agg #[O J f.c.kind,O J f.c.a,O J f.c.b,O J f.c.time,O J f.c.bk,O J f.c.slot,O J f.pl,O J f.cur,O J f.prev,O J f.slot,O J f.n,Y aK f.keys.length cK,.bool f.done,O J f.e]]\/f.pl=6/\n=178/\ar=#[.pointer (some ⟨B,0,none⟩),.agg #[O J f.c.kind,O J f.c.a,O J f.c.b,O J f.c.time,O J f.c.bk,O J f.c.slot,O J f.pl,O J f.cur,O J f.prev,O J f.slot,O J f.n,Y aK f.keys.length cK,.bool f.done,O J f.e]]\/f.pl=7/\n=179/\ar=#[.pointer (some ⟨B,0,none⟩),.agg #[O J f.c.kind,O J f.c.a,O J f.c.b,O J f.c.time,O J f.c.bk,O J f.c.slot,O J f.pl,O J f.cur,O J f.prev,O J f.slot,O J f.n,Y aK f.keys.length cK,.bool f.done,O J f.e],O J t]\/8<=f.pl/\n=180/\ar=#[.agg #[O J f.c.kind,O J f.c.a,O J f.c.b,O J f.c.time,O J f.c.bk,O J f.c.slot,O J f.pl,O J f.cur,O J f.prev,O J f.slot,O J f.n,Y aK f.keys.length cK,.bool f.done,O J f.e]])
  (HP:Hid (∀ W,Lk Xb w W B lo aS aH aF aL cS cH cF cL M f aK cK->Calls Pg n ar W (StQ w R))) :
  Calls Pg 159 #[.pointer (some ⟨B,0,none⟩),.agg #[O J f.c.kind,O J f.c.a,O J f.c.b,O J f.c.time,O J f.c.bk,O J f.c.slot,O J f.pl,O J f.cur,O J f.prev,O J f.slot,O J f.n,Y aK f.keys.length cK,.bool f.done,O J f.e],O J t] w R:=by
 obtain⟨c,pl,cur,prev,slot,nn,keys,done,ee⟩:=f
 dsimp only at hd hn ⊢
 subst hd
 obtain⟨of,hof⟩:∃ o:Obj,o=.cells #[O J c.kind,O J c.a,O J c.b,O J c.time,O J c.bk,O J c.slot,O J pl,O J cur,O J prev,O J slot,O J nn,Y aK keys.length cK,.bool false,O J ee] 47:=⟨_,rfl⟩
 obtain⟨oz,hoz⟩:∃ o:Obj,o=Ae:=⟨_,rfl⟩
 have HE:Hid (Lk Xb w ((w.alloc of).alloc oz) B lo aS aH aF aL cS cH cF cL M ⟨c,pl,cur,prev,slot,nn,keys,false,ee⟩ aK cK):=Lk.first m ⟨c,pl,cur,prev,slot,nn,keys,false,ee⟩ aK cK hof hoz
 unfold Ae at hoz
 have hA:∀ k:Int,k<8->8<=pl->(pl==k)=false:=fun n h h'=>by rw[beq_eq_false_iff_ne];omega
 clear m
 rcases hn with ⟨rfl,rfl,rfl⟩|⟨rfl,rfl,rfl⟩|⟨rfl,rfl,rfl⟩|⟨rfl,rfl,rfl⟩|⟨rfl,rfl,rfl⟩|⟨rfl,rfl,rfl⟩|⟨rfl,rfl,rfl⟩|⟨rfl,rfl,rfl⟩|⟨h7,rfl,rfl⟩
 all_goals
  try (
   have p0:=hA 0 (by decide) h7
   have p1:=hA 1 (by decide) h7
   have p2:=hA 2 (by decide) h7
   have p3:=hA 3 (by decide) h7
   have p4:=hA 4 (by decide) h7
   have p5:=hA 5 (by decide) h7
   have p6:=hA 6 (by decide) h7
   have p7:=hA 7 (by decide) h7
   clear h7)
  clear hA
  go_enter Tryz.func159,Tryz.ntmps159
  go_wp2_with fail
  rw[<- hof,<- hoz]
  generalize (w.alloc of).alloc oz=W0 at *
  subst hof hoz
  refine(HP.out _ HE.out).mono ?_
  rintro e w9 ⟨g,a,c9,rfl,t9,b9,hQ⟩
  clear HE HP
  go_wp2_with (refine Bd (f:=g) rfl (.tmp 6) _ rfl rfl rfl t9.out ?_)
  generalize w9.setCells (w.heap.size+1) 0 (g.enc a c9)=W9 at *
  exact bodyPost_ret (results_cell_row Tryz.results159 _ W9 (w.heap.size+1) 47 _ (0,0) _ rfl b9.out Tryz.underlying47 rfl (by kernel_rfl)) rfl hQ.out
end
end Go.Proofs.YthhgoenomehobaaGreat.mm
