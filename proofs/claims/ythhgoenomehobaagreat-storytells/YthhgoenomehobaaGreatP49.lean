/- Parts. -/
import Derived.Test.YthhgoenomehobaaGreatP45
import Derived.Test.YthhgoenomehobaaGreatP43
namespace Go.Proofs.YthhgoenomehobaaGreat.mm
open Option.some renaming injEq → qA
open Exists renaming elim → pY
open Region renaming wanted → iY
open Joins renaming cell_of_block → dN
open RowKit.Below renaming refl → dK
open Go renaming lt_of_block → fC, Value → dU, Calls → aI, execOp → kD, yielded → qH, block_lt_of_cell → qI, undef → Uz, World → Wq
open Tryz
set_option maxRecDepth 100000
set_option linter.unusedVariables false
open Value renaming int → O, slice → Y
open IntKind renaming i64 → J
open Tryz renaming prog → Pg
open ChangeShapes WideShapes ChangeAt RowKit Joins Deep Maps
set_option maxHeartbeats 0
variable (v:dU)(V:List dU)(la lb:List Fl){P:Program}{bn:Array Oper}{Q:Exit->Act->Wq->Prop}{i:Nat}{A:Act}{x:Nat->dU}{o o2:Oper}{a:Act}{w w':Wq}{K:Act->Wq->Prop}{W:Wq}{id:Nat}{st:String}{Bx By Bp k:Nat}{F:Int}{p:Pst}{aK:Option Addr}{cK:Nat}{m n:Mm}{aS aH aF aL bS bH bF bL:Option Addr}{cS cH cF cL eS eH eF eL:Nat}{v5 u5:dU}{c1:Bool}{Ba Bb:Nat}{fs gs s ta tb:Int}{va vb:dU}{La Lb A1:Bool}{D:List Nat}{g d:Nat}{b:Bool}
def PtF(w:Wq)(v:dU)(o:Option Fl):Prop :=
 (v=.pointer none/\o=none)\/∃ (B:Nat) (f:Fl),v=.pointer (some ⟨B,0,none⟩)/\o=some f/\w.heap[B]?=some (.cells #[O J f.a,O J f.b,O J f.h,O J f.unt] 61 (0,0))
theorem PtF.below{v:dU}{o:Option Fl}(h:PtF w v o)(hb:Below w.heap.size w w'):PtF w' v o:=by
 rcases h with h|⟨B,f,h1,h2,h3⟩
 ·exact .inl h
 ·exact .inr ⟨B,f,h1,h2,(hb.block _ (fC h3)).trans h3⟩
theorem b0u(p:Pst)(aK:Option Addr)(cK X:Nat)(l:List Fl)(ao:Option Addr)(bg:Nat)(w:Wq)(hX:w.heap[X]?=some (.cells #[O J p.s,O J p.c.k,O J p.c.a,O J p.c.b,O J p.c.t,O J p.c.q,O J p.c.h,O J p.fro,O J p.to,O J p.e,O J p.h,O J p.n,Y aK p.t.length cK] 78 (0,0)))(jc:Ho w ao bg l) :
  aI Pg 136 (#[Y ao l.length bg] ++ #[.pointer (some ⟨X,0,none⟩)]) w fun e w'=>∃ v,e=.returned v/\PtF w' v (ofK l p.c.a p.c.b)/\Below w.heap.size w w':=by
 have m1:=jc.max
 have wQ:Qi (Ho w ao bg l):=jc
 have HX:Qi (w.heap[X]?=_):=hX
 clear jc hX
 go_enter func136,ntmps136
 go_wp2
 go_loopw [8] (fun i wr=>∃ k:Nat,k<=l.length/\i=O J k/\Qi (Below w.heap.size w wr)/\Qi ((l.take k).any (fun f=>f.a==p.c.a && f.b==p.c.b)=false)) (fun i _=>l.length - (intOf i).toNat)
 case atStart=>exact⟨0,Nat.zero_le _,rfl,dK _ _,by show _=_;simp⟩
 case round =>
  obtain⟨k,hk,rfl,HB,HC⟩:=hrel
  by_cases gm:k<l.length
  ·rcases (wQ.o.below HB.o).at_ with h0|⟨bk,ok,rfl,hc⟩
   ·omega
   obtain⟨c0,c1,c2,c3⟩:=hc k gm
   clear hc
   generalize hy:l[k]=y at c0 c1 c2 c3
   have HY:Qi (l[k]=y):=hy
   clear hy
   have MF:=(HB.o.block _ (fC HX.o)).trans HX.o
   have k2:wr.cell? ⟨X,2,none⟩=some (O J p.c.a):=by rw[dN MF];rfl
   have k3:wr.cell? ⟨X,3,none⟩=some (O J p.c.b):=by rw[dN MF];rfl
   have kx:X<wr.heap.size:=fC MF
   clear MF
   have se:∀ W:Wq,(Op.equalIn 10000 30 (.agg #[O J y.a,O J y.b]) (.agg #[O J p.c.a,O J p.c.b])).run Pg W=.ok (y.a==p.c.a && y.b==p.c.b) W:=fun W=>by rw[Zq]
   have HN:Qi (∀ o,Below w.heap.size w (wr.alloc o)):=fun o=>HB.o.alloc HB.o.size o
   have HZ:Qi ((wr.alloc (.cells #[O J y.a,O J y.b,O J y.h,O J y.unt] 61)).heap[wr.heap.size]?=some (.cells #[O J y.a,O J y.b,O J y.h,O J y.unt] 61 (0,0))):=heap_alloc_new _ _
   cases hh:(y.a==p.c.a && y.b==p.c.b)
   ·have HH:Qi ((l.take (k+1)).any (fun f=>f.a==p.c.a && f.b==p.c.b)=false):=a0k gm HC.o (by rw[HY.o];exact hh)
    rw[hh] at se
    clear hh HZ
    go_wp2
    go_roundw
    case rel=>exact⟨k+1,by omega,by go_num,HN.o _,HH⟩
    case measure=>simp[intOf];omega
   ·have HH:Qi (ofK l p.c.a p.c.b=some y):=by
     show _=_
     unfold ofK
     rw[a5i gm HC.o (by rw[HY.o];exact hh),List.getElem?_eq_getElem gm,HY.o]
    rw[hh] at se
    clear hh
    go_wp2
    go_ret
    exact⟨_,rfl,.inr ⟨_,y,rfl,HH.o,HZ.o⟩,HN.o _⟩
  ·have HH:Qi (l.any (fun f=>f.a==p.c.a && f.b==p.c.b)=false):=by
    have:=HC.o
    rw[show k=l.length by omega,List.take_length] at this
    exact this
   go_wp2
   go_ret
   exact⟨_,rfl,.inl ⟨rfl,a5j HH.o⟩,HB.o⟩
theorem Yw(o:Option Fl)(t:Int)(w:Wq)(h:PtF w v o) :
  aI Pg 137 #[v,O J t] w fun e w'=>e=.returned (.bool (lives o t))/\w=w':=by
 rcases h with ⟨rfl,rfl⟩|⟨B,f,rfl,rfl,hB⟩
 ·go_enter func137,ntmps137
  go_wp2
  go_ret
  exact⟨rfl,rfl⟩
 ·have c3:w.cell? ⟨B,3,none⟩=some (O J f.unt):=by rw[dN hB];rfl
  have hl:=fC hB
  go_enter func137,ntmps137
  go_wp2
  go_ret
  exact⟨rfl,rfl⟩
section
open Go.Sort
theorem Bj(hi:bn[i]?=some o)(hw:iY o (qH bn a.tmps)=false)(h:K (a.put o.dst Uz) w):wpOp P bn Q i K a w:=by
 refine wpOp_step hi fun K' hK=>?_
 rw[ae (by rw[hw];decide)]
 exact hK _ _ h
theorem b0m{x:Nat->dU}{d:Nat}(hc:(D.contains d && decide (d<A.tmps.size))=true):(mkA A D x).tmps[d]?=some (x d):=by
 rw[Bool.and_eq_true] at hc
 rw[Js,af ⟨by simpa using hc.1,by simpa using hc.2⟩]
theorem J5(hg:o.guard=some (g,b))(h2:bn[g]?=some o2)(hd:o2.dst=some d)(hc:(D.contains d && decide (d<A.tmps.size))=true)(hx:x d=.bool b):iY o (qH bn (mkA A D x).tmps)=true:=by
 have e:=b0m (x:=x) hc
 rw[hx] at e
 unfold iY qH
 simp[hg,h2,hd,e]
theorem Ld(hg:o.guard=some (g,b))(h2:bn[g]?=some o2)(hd:o2.dst=some d)(hc:(D.contains d && decide (d<A.tmps.size))=true)(hx:x d=.bool (!b)\/x d=Uz):iY o (qH bn (mkA A D x).tmps)=false:=by
 have e:=b0m (x:=x) hc
 unfold iY qH
 rcases hx with hx|hx
 ·rw[hx] at e
  cases b <;> simp[hg,h2,hd,e]
 ·rw[hx] at e
  cases b <;> simp[hg,h2,hd,e,Uz]
def opsL(s:String):Array Oper:=#[⟨some 32,.move (.tmp 14),174,s,#[],none⟩,⟨some 33,.move (.tmp 12),172,s,#[],none⟩,⟨some 34,.move (.tmp 2),3,s,#[],none⟩,⟨some 35,.call { callee:=.value (.tmp 32),args:=#[.tmp 33,.tmp 34],argTypes:=#[172,3] },4,s,#[⟨0,.data⟩,⟨1,.data⟩,⟨2,.data⟩],none⟩,⟨some 36,.move (.tmp 35),4,s,#[⟨3,.data⟩,⟨3,.chain⟩],none⟩,⟨some 37,.move (.tmp 12),172,s,#[⟨4,.guard⟩],some (4,true)⟩,⟨some 38,.nilCheck (.tmp 37),0,s,#[⟨5,.data⟩,⟨4,.guard⟩],some (4,true)⟩,⟨some 39,.fieldAddr 61 (.tmp 38) 1,0,s,#[⟨6,.data⟩,⟨4,.guard⟩],some (4,true)⟩,⟨some 40,.load 3 (.tmp 39),3,s,#[⟨7,.data⟩,⟨4,.guard⟩],some (4,true)⟩,⟨some 41,.fieldAddr 78 (.tmp 5) 5,0,s,#[⟨4,.guard⟩],some (4,true)⟩,⟨some 42,.load 3 (.tmp 41),3,s,#[⟨9,.data⟩,⟨4,.guard⟩],some (4,true)⟩,⟨some 43,.binOp .eql 3 (.tmp 40) (.tmp 42) 3,4,s,#[⟨8,.data⟩,⟨10,.data⟩,⟨4,.guard⟩],some (4,true)⟩,⟨some 44,.pick (.tmp 36) (.tmp 43) (.const (.bool false)),4,s,#[⟨4,.data⟩,⟨11,.data⟩],none⟩,⟨some 45,.move (.tmp 44),4,s,#[⟨12,.data⟩,⟨4,.chain⟩],none⟩,⟨some 46,.move (.tmp 14),174,s,#[⟨13,.guard⟩],some (13,false)⟩,⟨some 47,.move (.tmp 13),172,s,#[⟨13,.guard⟩],some (13,false)⟩,⟨some 48,.move (.tmp 4),3,s,#[⟨13,.guard⟩],some (13,false)⟩,⟨some 49,.call { callee:=.value (.tmp 46),args:=#[.tmp 47,.tmp 48],argTypes:=#[172,3] },4,s,#[⟨14,.data⟩,⟨15,.data⟩,⟨16,.data⟩,⟨13,.chain⟩,⟨13,.guard⟩],some (13,false)⟩,⟨some 50,.move (.tmp 49),4,s,#[⟨17,.data⟩,⟨17,.chain⟩,⟨13,.guard⟩],some (13,false)⟩,⟨some 51,.move (.tmp 13),172,s,#[⟨18,.guard⟩],some (18,true)⟩,⟨some 52,.nilCheck (.tmp 51),0,s,#[⟨19,.data⟩,⟨18,.guard⟩],some (18,true)⟩,⟨some 53,.fieldAddr 61 (.tmp 52) 1,0,s,#[⟨20,.data⟩,⟨18,.guard⟩],some (18,true)⟩,⟨some 54,.load 3 (.tmp 53),3,s,#[⟨21,.data⟩,⟨18,.guard⟩],some (18,true)⟩,⟨some 55,.fieldAddr 78 (.tmp 5) 5,0,s,#[⟨18,.guard⟩],some (18,true)⟩,⟨some 56,.load 3 (.tmp 55),3,s,#[⟨23,.data⟩,⟨18,.guard⟩],some (18,true)⟩,⟨some 57,.binOp .eql 3 (.tmp 54) (.tmp 56) 3,4,s,#[⟨22,.data⟩,⟨24,.data⟩,⟨18,.guard⟩],some (18,true)⟩,⟨some 58,.pick (.tmp 50) (.tmp 57) (.const (.bool false)),4,s,#[⟨18,.data⟩,⟨25,.data⟩,⟨13,.guard⟩],some (13,false)⟩,⟨some 59,.pick (.tmp 45) (.const (.bool true)) (.tmp 58),4,s,#[⟨13,.data⟩,⟨26,.data⟩],none⟩,⟨some 10,.assign (.tmp 59),4,s,#[⟨27,.data⟩,⟨18,.chain⟩,⟨0,.phase⟩,⟨1,.phase⟩,⟨2,.phase⟩,⟨3,.phase⟩,⟨4,.phase⟩,⟨5,.phase⟩,⟨6,.phase⟩,⟨7,.phase⟩,⟨8,.phase⟩,⟨9,.phase⟩,⟨10,.phase⟩,⟨11,.phase⟩,⟨12,.phase⟩,⟨13,.phase⟩,⟨14,.phase⟩,⟨15,.phase⟩,⟨16,.phase⟩,⟨17,.phase⟩,⟨18,.phase⟩,⟨19,.phase⟩,⟨20,.phase⟩,⟨21,.phase⟩,⟨22,.phase⟩,⟨23,.phase⟩,⟨24,.phase⟩,⟨25,.phase⟩,⟨26,.phase⟩,⟨27,.phase⟩],none⟩]
def dL:List Nat:=[32,33,34,35,36,37,38,39,40,41,42,43,44,45,46,47,48,49,50,51,52,53,54,55,56,57,58,59,10]
def vL(va vb:dU)(ta tb fs gs s:Int)(Bp Ba Bb:Nat)(La Lb A1:Bool):List dU:=[.func (.func 137) #[] #[],va,O J ta,.bool La,.bool La,cond La va Uz,cond La va Uz,cond La (.pointer (some ⟨Ba,2,none⟩)) Uz,cond La (O J fs) Uz,cond La (.pointer (some ⟨Bp,10,none⟩)) Uz,cond La (O J s) Uz,cond La (.bool (fs==s)) Uz,.bool A1,.bool A1,cond A1 Uz (.func (.func 137) #[] #[]),cond A1 Uz vb,cond A1 Uz (O J tb),cond A1 Uz (.bool Lb),cond A1 Uz (.bool Lb),cond A1 Uz (cond Lb (vb) Uz),cond A1 Uz (cond Lb (vb) Uz),cond A1 Uz (cond Lb (.pointer (some ⟨Bb,2,none⟩)) Uz),cond A1 Uz (cond Lb (O J gs) Uz),cond A1 Uz (cond Lb (.pointer (some ⟨Bp,10,none⟩)) Uz),cond A1 Uz (cond Lb (O J s) Uz),cond A1 Uz (cond Lb (.bool (gs==s)) Uz),cond A1 Uz (.bool (Lb && (gs==s))),.bool (A1 || (Lb && (gs==s))),.bool (A1 || (Lb && (gs==s)))]
theorem b1p(qg:A.tmps.size=156)(MO:A.eval (.tmp 14)=.func (.func 137) #[] #[])(RH:A.eval (.tmp 12)=va)(e2:A.eval (.tmp 2)=O J ta)(e13:A.eval (.tmp 13)=vb)(e4:A.eval (.tmp 4)=O J tb)(e5:A.eval (.tmp 5)=.pointer (some ⟨Bp,0,none⟩))(AA:W.cell? ⟨Bp,10,none⟩=some (O J s))(hA:La=true->va=.pointer (some ⟨Ba,0,none⟩)/\W.cell? ⟨Ba,2,none⟩=some (O J fs))(hB:Lb=true->vb=.pointer (some ⟨Bb,0,none⟩)/\W.cell? ⟨Bb,2,none⟩=some (O J gs))(hAe:A1=(La && (fs==s)))(cA:∀ V,Below W.heap.size W V->aI Pg 137 #[va,O J ta] V fun e w'=>e=.returned (.bool La)/\V=w')(cB:∀ V,Below W.heap.size W V->aI Pg 137 #[vb,O J tb] V fun e w'=>e=.returned (.bool Lb)/\V=w')(um:∀ x V,Below W.heap.size W V->x 10=.bool (A1 || (Lb && (gs==s)))->Q .normal (mkA A dL x) V):(Code.region id (opsL st) true).wp Pg Q A W:=by
 refine Na (by kernel_rfl) (mkA A dL) (Tv A dL) dL (by decide) rfl (by kernel_rfl) (fun i u _=>u=(vL va vb ta tb fs gs s Bp Ba Bb La Lb A1).getD i Uz) (fun _ _ _ _ h _=>h) ?_ ?_
 ·intro i hi x V hb ku az
  have ev:∀ q,(dL.contains q && decide (q<156))=true->(mkA A dL x).tmps[q]?.getD Uz=x q:=fun q h=>Jt x (by rw[qg];exact h)
  have put:∀ q u,dL.contains q=true->(mkA A dL x).put (some q) u=mkA A dL (Eu x q u):=fun q u h=>Vr (by simpa using h) u
  have E2:=Dw (A:=A) (D:=dL) x (k:=2) rfl e2
  have E4:=Dw (A:=A) (D:=dL) x (k:=4) rfl e4
  have E5:=Dw (A:=A) (D:=dL) x (k:=5) rfl e5
  have YI:=Dw (A:=A) (D:=dL) x (k:=12) rfl RH
  have E13:=Dw (A:=A) (D:=dL) x (k:=13) rfl e13
  have E14:=Dw (A:=A) (D:=dL) x (k:=14) rfl MO
  have MZ:∀ {q:Nat} {o:Oper},(opsL st)[q]?=some o->o.guard=some (4,true)->x 36=.bool true->iY o (qH (opsL st) (mkA A dL x).tmps)=true:=fun _ hg h=>J5 hg rfl rfl (by rw[qg];rfl) h
  have NC:∀ {q:Nat} {o:Oper},(opsL st)[q]?=some o->o.guard=some (4,true)->x 36=.bool (!true)\/x 36=Uz->iY o (qH (opsL st) (mkA A dL x).tmps)=false:=fun _ hg h=>Ld hg rfl rfl (by rw[qg];rfl) h
  have yU:∀ {q:Nat} {o:Oper},(opsL st)[q]?=some o->o.guard=some (13,false)->x 45=.bool false->iY o (qH (opsL st) (mkA A dL x).tmps)=true:=fun _ hg h=>J5 hg rfl rfl (by rw[qg];rfl) h
  have AQ:∀ {q:Nat} {o:Oper},(opsL st)[q]?=some o->o.guard=some (13,false)->x 45=.bool (!false)\/x 45=Uz->iY o (qH (opsL st) (mkA A dL x).tmps)=false:=fun _ hg h=>Ld hg rfl rfl (by rw[qg];rfl) h
  have yT:∀ {q:Nat} {o:Oper},(opsL st)[q]?=some o->o.guard=some (18,true)->x 50=.bool true->iY o (qH (opsL st) (mkA A dL x).tmps)=true:=fun _ hg h=>J5 hg rfl rfl (by rw[qg];rfl) h
  have uI:∀ {q:Nat} {o:Oper},(opsL st)[q]?=some o->o.guard=some (18,true)->x 50=.bool (!true)\/x 50=Uz->iY o (qH (opsL st) (mkA A dL x).tmps)=false:=fun _ hg h=>Ld hg rfl rfl (by rw[qg];rfl) h
  generalize mkA A dL x=A' at *
  have hi:i<29:=hi
  obtain⟨o',ho⟩:∃ o',(opsL st)[i]?=some o':=⟨_,Array.getElem?_eq_getElem hi⟩
  have qV:i=0\/i=1\/i=2\/i=3\/i=4\/i=5\/i=6\/i=7\/i=8\/i=9\/i=10\/i=11\/i=12\/i=13\/i=14\/i=15\/i=16\/i=17\/i=18\/i=19\/i=20\/i=21\/i=22\/i=23\/i=24\/i=25\/i=26\/i=27\/i=28:=by omega
  rcases qV with rfl|rfl|rfl|rfl|rfl|rfl|rfl|rfl|rfl|rfl|rfl|rfl|rfl|rfl|rfl|rfl|rfl|rfl|rfl|rfl|rfl|rfl|rfl|rfl|rfl|rfl|rfl|rfl|rfl
  all_goals
   have jk:=ho
   simp only[opsL,List.getElem?_toArray,List.getElem?_cons_zero,List.getElem?_cons_succ,qA] at jk
   subst jk
  ·exact Ad ho (Ag rfl) (v:=.func (.func 137) #[] #[]) (w':=V) (by simp[kD,go_sem,E14]) ⟨_,put 32 _ rfl,rfl,dK _ _⟩
  ·exact Ad ho (Ag rfl) (v:=va) (w':=V) (by simp[kD,go_sem,YI]) ⟨_,put 33 _ rfl,rfl,dK _ _⟩
  ·exact Ad ho (Ag rfl) (v:=O J ta) (w':=V) (by simp[kD,go_sem,E2]) ⟨_,put 34 _ rfl,rfl,dK _ _⟩
  ·have q32:x 32=.func (.func 137) #[] #[]:=az 0 (by kernel_rfl)
   have p32:=(ev 32 rfl).trans q32
   have q33:x 33=va:=az 1 (by kernel_rfl)
   have p33:=(ev 33 rfl).trans q33
   have q34:x 34=O J ta:=az 2 (by kernel_rfl)
   have p34:=(ev 34 rfl).trans q34
   refine J6 ho (Ag rfl) (f:=137) (args:=#[va,O J ta]) (by simp[kD,go_sem,p32,p33,p34]) ((cA V hb).mono ?_)
   rintro e w' ⟨h1,h2⟩
   subst h2
   exact⟨_,h1,_,put 35 _ rfl,rfl,dK _ _⟩
  ·have q35:x 35=.bool La:=az 3 (by kernel_rfl)
   have p35:=(ev 35 rfl).trans q35
   exact Ad ho (Ag rfl) (v:=.bool La) (w':=V) (by simp[kD,go_sem,p35]) ⟨_,put 36 _ rfl,rfl,dK _ _⟩
  ·have hg:x 36=.bool La:=az 4 (by kernel_rfl)
   cases La
   ·exact Bj ho (NC ho rfl (.inl hg)) ⟨Uz,put 37 _ rfl,rfl,dK _ _⟩
   ·exact Ad ho (MZ ho rfl hg) (v:=va) (w':=V) (by simp[kD,go_sem,YI]) ⟨_,put 37 _ rfl,rfl,dK _ _⟩
  ·have hg:x 36=.bool La:=az 4 (by kernel_rfl)
   cases La
   ·exact Bj ho (NC ho rfl (.inl hg)) ⟨Uz,put 38 _ rfl,rfl,dK _ _⟩
   ·have q37:x 37=va:=az 5 (by kernel_rfl)
    have p37:=(ev 37 rfl).trans q37
    have vA:=(hA rfl).1
    exact Ad ho (MZ ho rfl hg) (v:=va) (w':=V) (by simp[kD,go_sem,p37,vA]) ⟨_,put 38 _ rfl,rfl,dK _ _⟩
  ·have hg:x 36=.bool La:=az 4 (by kernel_rfl)
   cases La
   ·exact Bj ho (NC ho rfl (.inl hg)) ⟨Uz,put 39 _ rfl,rfl,dK _ _⟩
   ·have q38:x 38=va:=az 6 (by kernel_rfl)
    have p38:=(ev 38 rfl).trans q38
    have vA:=(hA rfl).1
    exact Ad ho (MZ ho rfl hg) (v:=.pointer (some ⟨Ba,2,none⟩)) (w':=V) (by simp[kD,go_sem,p38,vA]) ⟨_,put 39 _ rfl,rfl,dK _ _⟩
  ·have hg:x 36=.bool La:=az 4 (by kernel_rfl)
   cases La
   ·exact Bj ho (NC ho rfl (.inl hg)) ⟨Uz,put 40 _ rfl,rfl,dK _ _⟩
   ·have q39:x 39=.pointer (some ⟨Ba,2,none⟩):=az 7 (by kernel_rfl)
    have p39:=(ev 39 rfl).trans q39
    have kA:=(hb.cell (qI (hA rfl).2)).trans (hA rfl).2
    exact Ad ho (MZ ho rfl hg) (v:=O J fs) (w':=V) (by simp[kD,go_sem,p39,kA]) ⟨_,put 40 _ rfl,rfl,dK _ _⟩
  ·have hg:x 36=.bool La:=az 4 (by kernel_rfl)
   cases La
   ·exact Bj ho (NC ho rfl (.inl hg)) ⟨Uz,put 41 _ rfl,rfl,dK _ _⟩
   ·exact Ad ho (MZ ho rfl hg) (v:=.pointer (some ⟨Bp,10,none⟩)) (w':=V) (by simp[kD,go_sem,E5]) ⟨_,put 41 _ rfl,rfl,dK _ _⟩
  ·have hg:x 36=.bool La:=az 4 (by kernel_rfl)
   cases La
   ·exact Bj ho (NC ho rfl (.inl hg)) ⟨Uz,put 42 _ rfl,rfl,dK _ _⟩
   ·have q41:x 41=.pointer (some ⟨Bp,10,none⟩):=az 9 (by kernel_rfl)
    have p41:=(ev 41 rfl).trans q41
    have LM:=(hb.cell (qI AA)).trans AA
    exact Ad ho (MZ ho rfl hg) (v:=O J s) (w':=V) (by simp[kD,go_sem,p41,LM]) ⟨_,put 42 _ rfl,rfl,dK _ _⟩
  ·have hg:x 36=.bool La:=az 4 (by kernel_rfl)
   cases La
   ·exact Bj ho (NC ho rfl (.inl hg)) ⟨Uz,put 43 _ rfl,rfl,dK _ _⟩
   ·have q40:x 40=O J fs:=az 8 (by kernel_rfl)
    have p40:=(ev 40 rfl).trans q40
    have q42:x 42=O J s:=az 10 (by kernel_rfl)
    have p42:=(ev 42 rfl).trans q42
    exact Ad ho (MZ ho rfl hg) (v:=.bool (fs==s)) (w':=V) (by simp[kD,go_sem,p40,p42]) ⟨_,put 43 _ rfl,rfl,dK _ _⟩
  ·cases La
   ·have q36:x 36=.bool false:=az 4 (by kernel_rfl)
    have p36:=(ev 36 rfl).trans q36
    have q43:x 43=Uz:=az 11 (by kernel_rfl)
    have p43:=(ev 43 rfl).trans q43
    exact Ad ho (Ag rfl) (v:=.bool A1) (w':=V) (by simp[kD,go_sem,p36,p43,hAe]) ⟨_,put 44 _ rfl,rfl,dK _ _⟩
   ·have q36:x 36=.bool true:=az 4 (by kernel_rfl)
    have p36:=(ev 36 rfl).trans q36
    have q43:x 43=.bool (fs==s):=az 11 (by kernel_rfl)
    have p43:=(ev 43 rfl).trans q43
    exact Ad ho (Ag rfl) (v:=.bool A1) (w':=V) (by simp[kD,go_sem,p36,p43,hAe]) ⟨_,put 44 _ rfl,rfl,dK _ _⟩
  ·have q44:x 44=.bool A1:=az 12 (by kernel_rfl)
   have p44:=(ev 44 rfl).trans q44
   exact Ad ho (Ag rfl) (v:=.bool A1) (w':=V) (by simp[kD,go_sem,p44]) ⟨_,put 45 _ rfl,rfl,dK _ _⟩
  ·have hg:x 45=.bool A1:=az 13 (by kernel_rfl)
   cases A1
   ·exact Ad ho (yU ho rfl hg) (v:=.func (.func 137) #[] #[]) (w':=V) (by simp[kD,go_sem,E14]) ⟨_,put 46 _ rfl,rfl,dK _ _⟩
   ·exact Bj ho (AQ ho rfl (.inl hg)) ⟨Uz,put 46 _ rfl,rfl,dK _ _⟩
  ·have hg:x 45=.bool A1:=az 13 (by kernel_rfl)
   cases A1
   ·exact Ad ho (yU ho rfl hg) (v:=vb) (w':=V) (by simp[kD,go_sem,E13]) ⟨_,put 47 _ rfl,rfl,dK _ _⟩
   ·exact Bj ho (AQ ho rfl (.inl hg)) ⟨Uz,put 47 _ rfl,rfl,dK _ _⟩
  ·have hg:x 45=.bool A1:=az 13 (by kernel_rfl)
   cases A1
   ·exact Ad ho (yU ho rfl hg) (v:=O J tb) (w':=V) (by simp[kD,go_sem,E4]) ⟨_,put 48 _ rfl,rfl,dK _ _⟩
   ·exact Bj ho (AQ ho rfl (.inl hg)) ⟨Uz,put 48 _ rfl,rfl,dK _ _⟩
  ·have hg:x 45=.bool A1:=az 13 (by kernel_rfl)
   cases A1
   ·have q46:x 46=.func (.func 137) #[] #[]:=az 14 (by kernel_rfl)
    have p46:=(ev 46 rfl).trans q46
    have q47:x 47=vb:=az 15 (by kernel_rfl)
    have p47:=(ev 47 rfl).trans q47
    have q48:x 48=O J tb:=az 16 (by kernel_rfl)
    have p48:=(ev 48 rfl).trans q48
    refine J6 ho (yU ho rfl hg) (f:=137) (args:=#[vb,O J tb]) (by simp[kD,go_sem,p46,p47,p48]) ((cB V hb).mono ?_)
    rintro e w' ⟨h1,h2⟩
    subst h2
    exact⟨_,h1,_,put 49 _ rfl,rfl,dK _ _⟩
   ·exact Bj ho (AQ ho rfl (.inl hg)) ⟨Uz,put 49 _ rfl,rfl,dK _ _⟩
  ·have hg:x 45=.bool A1:=az 13 (by kernel_rfl)
   cases A1
   ·have q49:x 49=.bool Lb:=az 17 (by kernel_rfl)
    have p49:=(ev 49 rfl).trans q49
    exact Ad ho (yU ho rfl hg) (v:=.bool Lb) (w':=V) (by simp[kD,go_sem,p49]) ⟨_,put 50 _ rfl,rfl,dK _ _⟩
   ·exact Bj ho (AQ ho rfl (.inl hg)) ⟨Uz,put 50 _ rfl,rfl,dK _ _⟩
  ·have hg:x 50=cond A1 Uz (.bool Lb):=az 18 (by kernel_rfl)
   cases A1
   ·cases Lb
    ·exact Bj ho (uI ho rfl (.inl hg)) ⟨Uz,put 51 _ rfl,rfl,dK _ _⟩
    ·exact Ad ho (yT ho rfl hg) (v:=vb) (w':=V) (by simp[kD,go_sem,E13]) ⟨_,put 51 _ rfl,rfl,dK _ _⟩
   ·exact Bj ho (uI ho rfl (.inr hg)) ⟨Uz,put 51 _ rfl,rfl,dK _ _⟩
  ·have hg:x 50=cond A1 Uz (.bool Lb):=az 18 (by kernel_rfl)
   cases A1
   ·cases Lb
    ·exact Bj ho (uI ho rfl (.inl hg)) ⟨Uz,put 52 _ rfl,rfl,dK _ _⟩
    ·have q51:x 51=vb:=az 19 (by kernel_rfl)
     have p51:=(ev 51 rfl).trans q51
     have vB:=(hB rfl).1
     exact Ad ho (yT ho rfl hg) (v:=vb) (w':=V) (by simp[kD,go_sem,p51,vB]) ⟨_,put 52 _ rfl,rfl,dK _ _⟩
   ·exact Bj ho (uI ho rfl (.inr hg)) ⟨Uz,put 52 _ rfl,rfl,dK _ _⟩
  ·have hg:x 50=cond A1 Uz (.bool Lb):=az 18 (by kernel_rfl)
   cases A1
   ·cases Lb
    ·exact Bj ho (uI ho rfl (.inl hg)) ⟨Uz,put 53 _ rfl,rfl,dK _ _⟩
    ·have q52:x 52=vb:=az 20 (by kernel_rfl)
     have p52:=(ev 52 rfl).trans q52
     have vB:=(hB rfl).1
     exact Ad ho (yT ho rfl hg) (v:=.pointer (some ⟨Bb,2,none⟩)) (w':=V) (by simp[kD,go_sem,p52,vB]) ⟨_,put 53 _ rfl,rfl,dK _ _⟩
   ·exact Bj ho (uI ho rfl (.inr hg)) ⟨Uz,put 53 _ rfl,rfl,dK _ _⟩
  ·have hg:x 50=cond A1 Uz (.bool Lb):=az 18 (by kernel_rfl)
   cases A1
   ·cases Lb
    ·exact Bj ho (uI ho rfl (.inl hg)) ⟨Uz,put 54 _ rfl,rfl,dK _ _⟩
    ·have q53:x 53=.pointer (some ⟨Bb,2,none⟩):=az 21 (by kernel_rfl)
     have p53:=(ev 53 rfl).trans q53
     have kB:=(hb.cell (qI (hB rfl).2)).trans (hB rfl).2
     exact Ad ho (yT ho rfl hg) (v:=O J gs) (w':=V) (by simp[kD,go_sem,p53,kB]) ⟨_,put 54 _ rfl,rfl,dK _ _⟩
   ·exact Bj ho (uI ho rfl (.inr hg)) ⟨Uz,put 54 _ rfl,rfl,dK _ _⟩
  ·have hg:x 50=cond A1 Uz (.bool Lb):=az 18 (by kernel_rfl)
   cases A1
   ·cases Lb
    ·exact Bj ho (uI ho rfl (.inl hg)) ⟨Uz,put 55 _ rfl,rfl,dK _ _⟩
    ·exact Ad ho (yT ho rfl hg) (v:=.pointer (some ⟨Bp,10,none⟩)) (w':=V) (by simp[kD,go_sem,E5]) ⟨_,put 55 _ rfl,rfl,dK _ _⟩
   ·exact Bj ho (uI ho rfl (.inr hg)) ⟨Uz,put 55 _ rfl,rfl,dK _ _⟩
  ·have hg:x 50=cond A1 Uz (.bool Lb):=az 18 (by kernel_rfl)
   cases A1
   ·cases Lb
    ·exact Bj ho (uI ho rfl (.inl hg)) ⟨Uz,put 56 _ rfl,rfl,dK _ _⟩
    ·have q55:x 55=.pointer (some ⟨Bp,10,none⟩):=az 23 (by kernel_rfl)
     have TI:=(ev 55 rfl).trans q55
     have LM:=(hb.cell (qI AA)).trans AA
     exact Ad ho (yT ho rfl hg) (v:=O J s) (w':=V) (by simp[kD,go_sem,TI,LM]) ⟨_,put 56 _ rfl,rfl,dK _ _⟩
   ·exact Bj ho (uI ho rfl (.inr hg)) ⟨Uz,put 56 _ rfl,rfl,dK _ _⟩
  ·have hg:x 50=cond A1 Uz (.bool Lb):=az 18 (by kernel_rfl)
   cases A1
   ·cases Lb
    ·exact Bj ho (uI ho rfl (.inl hg)) ⟨Uz,put 57 _ rfl,rfl,dK _ _⟩
    ·have q54:x 54=O J gs:=az 22 (by kernel_rfl)
     have p54:=(ev 54 rfl).trans q54
     have q56:x 56=O J s:=az 24 (by kernel_rfl)
     have TG:=(ev 56 rfl).trans q56
     exact Ad ho (yT ho rfl hg) (v:=.bool (gs==s)) (w':=V) (by simp[kD,go_sem,p54,TG]) ⟨_,put 57 _ rfl,rfl,dK _ _⟩
   ·exact Bj ho (uI ho rfl (.inr hg)) ⟨Uz,put 57 _ rfl,rfl,dK _ _⟩
  ·have hg:x 45=.bool A1:=az 13 (by kernel_rfl)
   cases A1
   ·cases Lb
    ·have q50:x 50=.bool false:=az 18 (by kernel_rfl)
     have p50:=(ev 50 rfl).trans q50
     have TE:x 57=Uz:=az 25 (by kernel_rfl)
     have IK:=(ev 57 rfl).trans TE
     exact Ad ho (yU ho rfl hg) (v:=.bool (false && (gs==s))) (w':=V) (by simp[kD,go_sem,p50,IK]) ⟨_,put 58 _ rfl,rfl,dK _ _⟩
    ·have q50:x 50=.bool true:=az 18 (by kernel_rfl)
     have p50:=(ev 50 rfl).trans q50
     have TE:x 57=.bool (gs==s):=az 25 (by kernel_rfl)
     have IK:=(ev 57 rfl).trans TE
     exact Ad ho (yU ho rfl hg) (v:=.bool (true && (gs==s))) (w':=V) (by simp[kD,go_sem,p50,IK]) ⟨_,put 58 _ rfl,rfl,dK _ _⟩
   ·exact Bj ho (AQ ho rfl (.inl hg)) ⟨Uz,put 58 _ rfl,rfl,dK _ _⟩
  ·cases A1
   ·have q45:x 45=.bool false:=az 13 (by kernel_rfl)
    have p45:=(ev 45 rfl).trans q45
    have TD:x 58=.bool (Lb && (gs==s)):=az 26 (by kernel_rfl)
    have NH:=(ev 58 rfl).trans TD
    exact Ad ho (Ag rfl) (v:=.bool (false || (Lb && (gs==s)))) (w':=V) (by simp[kD,go_sem,p45,NH]) ⟨_,put 59 _ rfl,rfl,dK _ _⟩
   ·have q45:x 45=.bool true:=az 13 (by kernel_rfl)
    have p45:=(ev 45 rfl).trans q45
    have TD:x 58=Uz:=az 26 (by kernel_rfl)
    have NH:=(ev 58 rfl).trans TD
    exact Ad ho (Ag rfl) (v:=.bool (true || (Lb && (gs==s)))) (w':=V) (by simp[kD,go_sem,p45,NH]) ⟨_,put 59 _ rfl,rfl,dK _ _⟩
  ·have q59:x 59=.bool (A1 || (Lb && (gs==s))):=az 27 (by kernel_rfl)
   have TF:=(ev 59 rfl).trans q59
   exact Ad ho (Ag rfl) (v:=.bool (A1 || (Lb && (gs==s)))) (w':=V) (by simp[kD,go_sem,TF]) ⟨_,put 10 _ rfl,rfl,dK _ _⟩
 ·intro x V hb ku hφ
  exact um x V hb (hφ 28 (by show 28<29;decide))
end
section
open Go.Sort
theorem a2u(p:Pst)(x:Option Fl)(tx:Int)(y:Option Fl)(ty:Int) :
  (p.c.k=1/\p.e=0/\U3 p x tx y ty=((lives x tx && Ji x p.h) || (lives y ty && Ji y p.h)))\/(p.c.k=1/\(p.e==0)=false/\U3 p x tx y ty=(!lives x tx || !lives y ty)) \/
  (p.c.k=2/\p.e=0/\U3 p x tx y ty=(x.isNone && Ji y p.h))\/(p.c.k=2/\p.e=6/\U3 p x tx y ty=(x.isSome || y.isSome))\/(p.c.k=2/\(p.e==0)=false/\(p.e==6)=false/\U3 p x tx y ty=true) \/
  (p.c.k=3/\p.e=0/\U3 p x tx y ty=(x.isSome && (y.isNone || !(match x,y with|some f,some g=>f.h==g.h|_,_=>false))))\/(p.c.k=3/\(p.e==0)=false/\U3 p x tx y ty=(x.isNone || y.isNone)) \/
  ((p.c.k==1)=false/\(p.c.k==2)=false/\(p.c.k==3)=false/\U3 p x tx y ty=true):=by
 unfold U3
 by_cases k1:p.c.k=1
 ·by_cases e0:p.e=0
  ·exact .inl ⟨k1,e0,af ⟨k1,e0⟩⟩
  ·exact .inr (.inl ⟨k1,by simpa using e0,by rw[ae (fun h=>e0 h.2),af k1]⟩)
 ·by_cases k2:p.c.k=2
  ·have z:¬ p.c.k=3:=by omega
   by_cases e0:p.e=0
   ·exact .inr (.inr (.inl ⟨k2,e0,by rw[ae (fun h=>k1 h.1),ae k1,af ⟨k2,e0⟩]⟩))
   ·by_cases e6:p.e=6
    ·exact .inr (.inr (.inr (.inl ⟨k2,e6,by rw[ae (fun h=>k1 h.1),ae k1,ae (fun h=>e0 h.2),af ⟨k2,e6⟩]⟩)))
    ·exact .inr (.inr (.inr (.inr (.inl ⟨k2,by simpa using e0,by simpa using e6,by rw[ae (fun h=>k1 h.1),ae k1,ae (fun h=>e0 h.2),ae (fun h=>e6 h.2),ae (fun h=>z h.1),ae z]⟩))))
  ·by_cases k3:p.c.k=3
   ·by_cases e0:p.e=0
    ·exact .inr (.inr (.inr (.inr (.inr (.inl ⟨k3,e0,by rw[ae (fun h=>k1 h.1),ae k1,ae (fun h=>k2 h.1),ae (fun h=>k2 h.1),af ⟨k3,e0⟩];cases x <;> cases y <;> rfl⟩)))))
    ·exact .inr (.inr (.inr (.inr (.inr (.inr (.inl ⟨k3,by simpa using e0,by rw[ae (fun h=>k1 h.1),ae k1,ae (fun h=>k2 h.1),ae (fun h=>k2 h.1),ae (fun h=>e0 h.2),af k3]⟩))))))
   ·exact .inr (.inr (.inr (.inr (.inr (.inr (.inr ⟨by simpa using k1,by simpa using k2,by simpa using k3,by rw[ae (fun h=>k1 h.1),ae k1,ae (fun h=>k2 h.1),ae (fun h=>k2 h.1),ae (fun h=>k3 h.1),ae k3]⟩))))))
theorem Zj(p:Pst)(aK:Option Addr)(cK:Nat)(la lb:List Fl)(aA aB:Option Addr)(cA cB:Nat)(ta tb:Int)(w:Wq)(hA:Ho w aA cA la)(hB:Ho w aB cB lb) :
  aI Pg 94 #[Oo p aK cK,Y aA la.length cA,O J ta,Y aB lb.length cB,O J tb] w fun e w'=>e=.returned (.bool (U3 p (ofK la p.c.a p.c.b) ta (ofK lb p.c.a p.c.b) tb))/\Below w.heap.size w w':=by
 unfold Oo
 obtain⟨xa,hxa⟩:∃ x,x=ofK la p.c.a p.c.b:=⟨_,rfl⟩
 obtain⟨xb,YT⟩:∃ x,x=ofK lb p.c.a p.c.b:=⟨_,rfl⟩
 have qV:=a2u p xa ta xb tb
 obtain⟨R,hR⟩:∃ R,R=U3 p xa ta xb tb:=⟨_,rfl⟩
 rw[<- hxa,<- YT,<- hR]
 rw[<- hR] at qV
 have xU:Qi _:=qV
 have Hxa:Qi (xa=ofK la p.c.a p.c.b):=hxa
 have Hxb:Qi (xb=ofK lb p.c.a p.c.b):=YT
 clear qV hR hxa YT
 obtain⟨op,qU⟩:∃ o:Obj,o=.cells #[O J p.s,O J p.c.k,O J p.c.a,O J p.c.b,O J p.c.t,O J p.c.q,O J p.c.h,O J p.fro,O J p.to,O J p.e,O J p.h,O J p.n,Y aK p.t.length cK] 78:=⟨_,rfl⟩
 have yQ:Qi ((w.alloc op).heap[w.heap.size]?=some op):=heap_alloc_new w op
 have ul:Qi (Ho (w.alloc op) aA cA la):=hA.below (A7 w op)
 have tq:Qi (Ho (w.alloc op) aB cB lb):=hB.below (A7 w op)
 have uu:Qi (Below w.heap.size w (w.alloc op)):=A7 w op
 clear hA hB
 go_enter func94,ntmps94
 go_wp2_with fail
 rw[<- qU]
 generalize w.alloc op=V0 at *
 subst qU
 refine(b0u p aK cK w.heap.size la aA cA V0 yQ.o ul.o).mono ?_
 rintro e w1 ⟨va,rfl,CB,bu⟩
 have KI:Qi (w1.heap[w.heap.size]?=_):=(bu.block _ (fC yQ.o)).trans yQ.o
 have iy:Qi (Ho w1 aB cB lb):=tq.o.below bu
 have qZ:Qi (Below w.heap.size w w1):=uu.o.trans (bu.mono uu.o.size)
 rw[<- Hxa.o] at CB
 have HVa:Qi (PtF w1 va xa):=CB
 clear CB bu yQ ul tq uu Hxa
 go_wp2_with fail
 refine(b0u p aK cK w.heap.size lb aB cB w1 KI.o iy.o).mono ?_
 rintro e w2 ⟨vb,rfl,IP,dm⟩
 have VK:=(dm.block _ (fC KI.o)).trans KI.o
 have uo:Qi (Below w.heap.size w w2):=qZ.o.trans (dm.mono qZ.o.size)
 rw[<- Hxb.o] at IP
 have CB:=HVa.o.below dm
 have HLa:Qi (∀ W,Below w2.heap.size w2 W->aI Pg 137 #[va,O J ta] W fun e w'=>e=.returned (.bool (lives xa ta))/\W=w'):=fun W h=>Yw va xa ta W (CB.below h)
 have HLb:Qi (∀ W,Below w2.heap.size w2 W->aI Pg 137 #[vb,O J tb] W fun e w'=>e=.returned (.bool (lives xb tb))/\W=w'):=fun W h=>Yw vb xb tb W (IP.below h)
 have k1:w2.cell? ⟨w.heap.size,1,none⟩=some (O J p.c.k):=by rw[dN VK];rfl
 have k9:w2.cell? ⟨w.heap.size,9,none⟩=some (O J p.e):=by rw[dN VK];rfl
 have LM:w2.cell? ⟨w.heap.size,10,none⟩=some (O J p.h):=by rw[dN VK];rfl
 have kl:w.heap.size<w2.heap.size:=fC VK
 have qV:=xU.o
 clear dm KI iy qZ Hxb HVa VK xU
 rcases qV with ⟨h1,h2,hR⟩|⟨h1,h2,hR⟩|⟨h1,h2,hR⟩|⟨h1,h2,hR⟩|⟨h1,h2,h3,hR⟩|⟨h1,h2,hR⟩|⟨h1,h2,hR⟩|⟨h1,h2,h3,hR⟩
 all_goals
  have HR:Qi _:=hR
  clear hR
 ·rw[h1] at k1
  rw[h2] at k9
  clear h1 h2
  have OW:∃ (Ba:Nat) (fs:Int),(lives xa ta=true->va=.pointer (some ⟨Ba,0,none⟩)/\w2.cell? ⟨Ba,2,none⟩=some (O J fs))/\(lives xa ta && Ji xa p.h)=(lives xa ta && (fs==p.h)):=by
   rcases CB with ⟨-,rfl⟩|⟨Ba,fa,h1,rfl,ha⟩
   ·exact⟨0,0,fun h=>absurd h (by simp[lives]),rfl⟩
   ·exact⟨Ba,fa.h,fun _=>⟨h1,by rw[dN ha];rfl⟩,rfl⟩
  have hB3:∃ (Bb:Nat) (gs:Int),(lives xb tb=true->vb=.pointer (some ⟨Bb,0,none⟩)/\w2.cell? ⟨Bb,2,none⟩=some (O J gs))/\(lives xb tb && Ji xb p.h)=(lives xb tb && (gs==p.h)):=by
   rcases IP with ⟨-,rfl⟩|⟨Bb,fb,h1,rfl,hb⟩
   ·exact⟨0,0,fun h=>absurd h (by simp[lives]),rfl⟩
   ·exact⟨Bb,fb.h,fun _=>⟨h1,by rw[dN hb];rfl⟩,rfl⟩
  obtain⟨Ba,fs,hA4,hA5⟩:=OW
  obtain⟨Bb,gs,hB4,hB5⟩:=hB3
  have AC:Qi (R=((lives xa ta && (fs==p.h)) || (lives xb tb && (gs==p.h)))):=by show _=_;rw[HR.o,hA5,hB5]
  have BX:Qi _:=hA4
  have vK:Qi _:=hB4
  have Hk:Qi (w2.cell? ⟨w.heap.size,10,none⟩=some (O J p.h)):=LM
  clear CB IP hA4 hA5 hB4 hB5 HR
  go_wp2_with fail
  refine b1p rfl rfl rfl rfl rfl rfl rfl Hk.o BX.o vK.o rfl HLa.o HLb.o fun y w4 qK AA=>?_
  rw[<- AC.o] at AA
  simp only[mkA,dL,List.foldl_cons,List.foldl_nil,Act.put,List.setIfInBounds_toArray,List.set_cons_succ,List.set_cons_zero,AA]
  have FH:Qi (Below w.heap.size w w4):=uo.o.trans (qK.mono uo.o.size)
  clear AA qK HLa HLb k1 k9 LM BX vK
  go_wp2
  go_ret
  exact⟨rfl,FH.o⟩
 ·rw[h1] at k1
  clear h1 CB IP
  cases hl:lives xa ta
  all_goals
   cases hm:lives xb tb
   all_goals
    have HA:=HLa.o w2 (dK _ _)
    have HB:=HLb.o w2 (dK _ _)
    rw[hl] at HA
    rw[hm] at HB
    have HA':Qi (aI Pg 137 #[va,O J ta] w2 fun e w'=>e=.returned (.bool _)/\w2=w'):=HA
    have HB':Qi (aI Pg 137 #[vb,O J tb] w2 fun e w'=>e=.returned (.bool _)/\w2=w'):=HB
    rw[hl,hm] at HR
    clear HA HB HLa HLb hl hm
    go_wp2_with (first|(go_at_call 137;have h9:=HA'.o;clear HA';refine h9.mono ?_;clear h9;rintro e w3 ⟨rfl,rfl⟩)|(go_at_call 137;have h9:=HB'.o;clear HB';refine h9.mono ?_;clear h9;rintro e w3 ⟨rfl,rfl⟩))
    go_ret
    exact⟨by rw[HR.o];rfl,uo.o⟩
 ·rw[h1] at k1
  rw[h2] at k9
  clear h1 h2
  rcases CB with ⟨rfl,rfl⟩|⟨Ba,fa,rfl,rfl,ha⟩
  all_goals
   rcases IP with ⟨rfl,rfl⟩|⟨Bb,fb,rfl,rfl,hb⟩
   all_goals
    try (have a2:w2.cell? ⟨Ba,2,none⟩=some (O J fa.h):=(by rw[dN ha];rfl))
    try (have b2:w2.cell? ⟨Bb,2,none⟩=some (O J fb.h):=(by rw[dN hb];rfl))
    try (have al:Ba<w2.heap.size:=fC ha)
    try (have bl:Bb<w2.heap.size:=fC hb)
    try clear ha
    try clear hb
    try cases hs:(fb.h==p.h)
    all_goals
     go_wp2_with fail
     go_quiet (fail)
     go_wp2
     go_ret
     exact⟨by rw[HR.o];first|rfl|(simp[Ji,hs]),uo.o.trans ⟨rfl,rfl,rfl,Nat.le_refl _,fun _ _=>rfl⟩⟩
 ·rw[h1] at k1
  rw[h2] at k9
  clear h1 h2
  rcases CB with ⟨rfl,rfl⟩|⟨Ba,fa,rfl,rfl,ha⟩
  all_goals
   rcases IP with ⟨rfl,rfl⟩|⟨Bb,fb,rfl,rfl,hb⟩
   all_goals
    go_wp2
    go_ret
    exact⟨by rw[HR.o];rfl,uo.o⟩
 ·rw[h1] at k1
  clear h1
  go_wp2
  go_ret
  exact⟨by rw[HR.o];rfl,uo.o⟩
 ·rw[h1] at k1
  rw[h2] at k9
  clear h1 h2
  rcases CB with ⟨rfl,rfl⟩|⟨Ba,fa,rfl,rfl,ha⟩
  all_goals
   rcases IP with ⟨rfl,rfl⟩|⟨Bb,fb,rfl,rfl,hb⟩
   all_goals
    try (have a2:w2.cell? ⟨Ba,2,none⟩=some (O J fa.h):=(by rw[dN ha];rfl))
    try (have b2:w2.cell? ⟨Bb,2,none⟩=some (O J fb.h):=(by rw[dN hb];rfl))
    try (have al:Ba<w2.heap.size:=fC ha)
    try (have bl:Bb<w2.heap.size:=fC hb)
    try clear ha
    try clear hb
    try cases hs:(fa.h==fb.h)
    all_goals
     go_wp2_with fail
     go_quiet (fail)
     go_wp2
     go_ret
     exact⟨by rw[HR.o];first|rfl|(simp[hs]),uo.o.trans ⟨rfl,rfl,rfl,Nat.le_refl _,fun _ _=>rfl⟩⟩
 ·rw[h1] at k1
  clear h1
  rcases CB with ⟨rfl,rfl⟩|⟨Ba,fa,rfl,rfl,ha⟩
  all_goals
   rcases IP with ⟨rfl,rfl⟩|⟨Bb,fb,rfl,rfl,hb⟩
   all_goals
    go_wp2
    go_ret
    exact⟨by rw[HR.o];rfl,uo.o⟩
 ·go_wp2
  go_ret
  exact⟨by rw[HR.o];rfl,uo.o⟩
end
section
open Go.Sort
def Qg(s:String):Array Oper:=#[⟨some 55,.move (.tmp 8),3,s,#[],none⟩,⟨some 56,.binOp .lss 3 (.tmp 55) (.const (O J 0)) 3,4,s,#[⟨0,.data⟩],none⟩,⟨some 57,.move (.tmp 56),4,s,#[⟨1,.data⟩],none⟩,⟨some 58,.move (.tmp 10),3,s,#[⟨2,.guard⟩],some (2,true)⟩,⟨some 59,.fieldAddr 78 (.tmp 5) 2,0,s,#[⟨2,.guard⟩],some (2,true)⟩,⟨some 60,.load 3 (.tmp 59),3,s,#[⟨4,.data⟩,⟨2,.guard⟩],some (2,true)⟩,⟨some 61,.binOp .geq 3 (.tmp 58) (.tmp 60) 3,4,s,#[⟨3,.data⟩,⟨5,.data⟩,⟨2,.guard⟩],some (2,true)⟩,⟨some 62,.pick (.tmp 57) (.tmp 61) (.const (.bool false)),4,s,#[⟨2,.data⟩,⟨6,.data⟩],none⟩,⟨some 63,.move (.tmp 62),4,s,#[⟨7,.data⟩,⟨2,.chain⟩],none⟩,⟨some 64,.load 78 (.tmp 5),78,s,#[⟨8,.guard⟩],some (8,true)⟩,⟨some 65,.fieldAddr 28 (.tmp 12) 0,0,s,#[⟨8,.guard⟩],some (8,true)⟩,⟨some 66,.load 25 (.tmp 65),25,s,#[⟨10,.data⟩,⟨8,.guard⟩],some (8,true)⟩,⟨some 67,.call { callee:=.value (.func 95),args:=#[.tmp 66],argTypes:=#[25] },56,s,#[⟨11,.data⟩,⟨8,.chain⟩,⟨8,.guard⟩],some (8,true)⟩,⟨some 68,.fieldAddr 28 (.tmp 12) 0,0,s,#[⟨8,.guard⟩],some (8,true)⟩,⟨some 69,.fieldAddr 25 (.tmp 68) 4,0,s,#[⟨13,.data⟩,⟨8,.guard⟩],some (8,true)⟩,⟨some 70,.load 3 (.tmp 69),3,s,#[⟨14,.data⟩,⟨8,.guard⟩],some (8,true)⟩,⟨some 71,.fieldAddr 28 (.tmp 3) 0,0,s,#[⟨8,.guard⟩],some (8,true)⟩,⟨some 72,.load 25 (.tmp 71),25,s,#[⟨16,.data⟩,⟨8,.guard⟩],some (8,true)⟩,⟨some 73,.call { callee:=.value (.func 95),args:=#[.tmp 72],argTypes:=#[25] },56,s,#[⟨17,.data⟩,⟨12,.chain⟩,⟨8,.guard⟩],some (8,true)⟩,⟨some 74,.fieldAddr 28 (.tmp 3) 0,0,s,#[⟨8,.guard⟩],some (8,true)⟩,⟨some 75,.fieldAddr 25 (.tmp 74) 4,0,s,#[⟨19,.data⟩,⟨8,.guard⟩],some (8,true)⟩,⟨some 76,.load 3 (.tmp 75),3,s,#[⟨20,.data⟩,⟨8,.guard⟩],some (8,true)⟩,⟨some 77,.call { callee:=.value (.func 94),args:=#[.tmp 64,.tmp 67,.tmp 70,.tmp 73,.tmp 76],argTypes:=#[78,56,3,56,3] },4,s,#[⟨9,.data⟩,⟨12,.data⟩,⟨15,.data⟩,⟨18,.data⟩,⟨21,.data⟩,⟨18,.chain⟩,⟨8,.guard⟩],some (8,true)⟩,⟨some 78,.pick (.tmp 63) (.tmp 77) (.const (.bool false)),4,s,#[⟨8,.data⟩,⟨22,.data⟩],none⟩]
def dW:List Nat:=[55,56,57,58,59,60,61,62,63,64,65,66,67,68,69,70,71,72,73,74,75,76,77,78]
def a5v(V:List dU)(la lb:List Fl)(i:Nat)(u:dU)(W:Wq):Prop :=
 if i=12 then ∃ ao bg,u=Y ao la.length bg/\Ho W ao bg la else if i=18 then ∃ ao bg,u=Y ao lb.length bg/\Ho W ao bg lb else u=V.getD i Uz
theorem a3t(i:Nat)(u:dU)(w w':Wq)(h:a5v V la lb i u w)(hb:Below w.heap.size w w'):a5v V la lb i u w':=by
 unfold a5v at h ⊢
 by_cases h1:i=12
 ·rw[af h1] at h ⊢
  obtain⟨ao,bg,e,r⟩:=h
  exact⟨ao,bg,e,r.below hb⟩
 ·rw[ae h1] at h ⊢
  by_cases h2:i=18
  ·rw[af h2] at h ⊢
   obtain⟨ao,bg,e,r⟩:=h
   exact⟨ao,bg,e,r.below hb⟩
  ·rw[ae h2] at h ⊢
   exact h
theorem b4l(qg:A.tmps.size=84)(e8:A.eval (.tmp 8)=O J (-1))(GR:A.eval (.tmp 10)=O J k)(e5:A.eval (.tmp 5)=.pointer (some ⟨Bp,0,none⟩))(RH:A.eval (.tmp 12)=.pointer (some ⟨Bx,0,none⟩))(e3:A.eval (.tmp 3)=.pointer (some ⟨By,0,none⟩))(hf:p.fro<=k)(hp:W.heap[Bp]?=some (.cells #[O J p.s,O J p.c.k,O J p.c.a,O J p.c.b,O J p.c.t,O J p.c.q,O J p.c.h,O J p.fro,O J p.to,O J p.e,O J p.h,O J p.n,Y aK p.t.length cK] 78 (0,0)))(hx:W.heap[Bx]?=some (.cells #[Y aS m.s.length cS,Y aH m.h.length cH,Y aF m.f.length cF,Y aL m.l.length cL,O J m.w,v5] 28 (0,0)))(hy:W.heap[By]?=some (.cells #[Y bS n.s.length eS,Y bH n.h.length eH,Y bF n.f.length eF,Y bL n.l.length eL,O J n.w,u5] 28 (0,0)))(Am:At W aS aH aF aL cS cH cF cL m)(An:At W bS bH bF bL eS eH eF eL n)(om:OkC m)(on:OkC n)(um:∀ x V,Below W.heap.size W V->x 78=.bool (U4 p m n)->Q .normal (mkA A dW x) V):(Code.region id (Qg st) true).wp Pg Q A W:=by
 refine Na (by kernel_rfl) (mkA A dW) (Tv A dW) dW (by decide) rfl (by kernel_rfl) (a5v [O J (-1),.bool true,.bool true,O J k,.pointer (some ⟨Bp,7,none⟩),O J p.fro,.bool true,.bool true,.bool true,.agg #[O J p.s,O J p.c.k,O J p.c.a,O J p.c.b,O J p.c.t,O J p.c.q,O J p.c.h,O J p.fro,O J p.to,O J p.e,O J p.h,O J p.n,Y aK p.t.length cK],.pointer (some ⟨Bx,0,none⟩),.agg #[Y aS m.s.length cS,Y aH m.h.length cH,Y aF m.f.length cF,Y aL m.l.length cL,O J m.w],Uz,.pointer (some ⟨Bx,0,none⟩),.pointer (some ⟨Bx,4,none⟩),O J m.w,.pointer (some ⟨By,0,none⟩),.agg #[Y bS n.s.length eS,Y bH n.h.length eH,Y bF n.f.length eF,Y bL n.l.length eL,O J n.w],Uz,.pointer (some ⟨By,0,none⟩),.pointer (some ⟨By,4,none⟩),O J n.w,.bool (U4 p m n),.bool (U4 p m n)] (Eb m) (Eb n)) (a3t _ _ _) ?_ ?_
 ·intro i hi x V hb ku az
  have ev:∀ q,(dW.contains q && decide (q<84))=true->(mkA A dW x).tmps[q]?.getD Uz=x q:=fun q h=>Jt x (by rw[qg];exact h)
  have put:∀ q u,dW.contains q=true->(mkA A dW x).put (some q) u=mkA A dW (Eu x q u):=fun q u h=>Vr (by simpa using h) u
  have E3:=Dw (A:=A) (D:=dW) x (k:=3) rfl e3
  have E5:=Dw (A:=A) (D:=dW) x (k:=5) rfl e5
  have E8:=Dw (A:=A) (D:=dW) x (k:=8) rfl e8
  have E10:=Dw (A:=A) (D:=dW) x (k:=10) rfl GR
  have YI:=Dw (A:=A) (D:=dW) x (k:=12) rfl RH
  have LP:=(hb.block _ (fC hx)).trans hx
  have hy':=(hb.block _ (fC hy)).trans hy
  have vS:=(hb.block _ (fC hp)).trans hp
  obtain⟨x0,x1,x2,x3,x4,-,-⟩:=Bh LP
  obtain⟨y0,y1,y2,y3,y4,-,-⟩:=Bh hy'
  have z0:V.cell? ⟨Bp,0,none⟩=some (O J p.s):=by rw[dN vS];rfl
  have z1:V.cell? ⟨Bp,1,none⟩=some (O J p.c.k):=by rw[dN vS];rfl
  have z2:V.cell? ⟨Bp,2,none⟩=some (O J p.c.a):=by rw[dN vS];rfl
  have z3:V.cell? ⟨Bp,3,none⟩=some (O J p.c.b):=by rw[dN vS];rfl
  have z4:V.cell? ⟨Bp,4,none⟩=some (O J p.c.t):=by rw[dN vS];rfl
  have z5:V.cell? ⟨Bp,5,none⟩=some (O J p.c.q):=by rw[dN vS];rfl
  have z6:V.cell? ⟨Bp,6,none⟩=some (O J p.c.h):=by rw[dN vS];rfl
  have z7:V.cell? ⟨Bp,7,none⟩=some (O J p.fro):=by rw[dN vS];rfl
  have z8:V.cell? ⟨Bp,8,none⟩=some (O J p.to):=by rw[dN vS];rfl
  have z9:V.cell? ⟨Bp,9,none⟩=some (O J p.e):=by rw[dN vS];rfl
  have z10:V.cell? ⟨Bp,10,none⟩=some (O J p.h):=by rw[dN vS];rfl
  have z11:V.cell? ⟨Bp,11,none⟩=some (O J p.n):=by rw[dN vS];rfl
  have YK:V.cell? ⟨Bp,12,none⟩=some (Y aK p.t.length cK):=by rw[dN vS];rfl
  have IG:∀ {q:Nat} {o:Oper},(Qg st)[q]?=some o->o.guard=some (2,true)->x 57=.bool true->iY o (qH (Qg st) (mkA A dW x).tmps)=true:=fun _ hg h=>J5 hg rfl rfl (by rw[qg];rfl) h
  have zI:∀ {q:Nat} {o:Oper},(Qg st)[q]?=some o->o.guard=some (8,true)->x 63=.bool true->iY o (qH (Qg st) (mkA A dW x).tmps)=true:=fun _ hg h=>J5 hg rfl rfl (by rw[qg];rfl) h
  generalize mkA A dW x=A' at *
  have hi:i<24:=hi
  obtain⟨o',ho⟩:∃ o',(Qg st)[i]?=some o':=⟨_,Array.getElem?_eq_getElem hi⟩
  have qV:i=0\/i=1\/i=2\/i=3\/i=4\/i=5\/i=6\/i=7\/i=8\/i=9\/i=10\/i=11\/i=12\/i=13\/i=14\/i=15\/i=16\/i=17\/i=18\/i=19\/i=20\/i=21\/i=22\/i=23:=by omega
  rcases qV with rfl|rfl|rfl|rfl|rfl|rfl|rfl|rfl|rfl|rfl|rfl|rfl|rfl|rfl|rfl|rfl|rfl|rfl|rfl|rfl|rfl|rfl|rfl|rfl
  all_goals
   have jk:=ho
   simp only[Qg,List.getElem?_toArray,List.getElem?_cons_zero,List.getElem?_cons_succ,qA] at jk
   subst jk
  ·exact Ad ho (Ag rfl) (v:=O J (-1)) (w':=V) (by simp[kD,go_sem,E8]) ⟨_,put 55 _ rfl,rfl,dK _ _⟩
  ·have q55:x 55=O J (-1):=az 0 (by kernel_rfl)
   have TI:=(ev 55 rfl).trans q55
   exact Ad ho (Ag rfl) (v:=.bool true) (w':=V) (by simp[kD,go_sem,TI]) ⟨_,put 56 _ rfl,rfl,dK _ _⟩
  ·have q56:x 56=.bool true:=az 1 (by kernel_rfl)
   have TG:=(ev 56 rfl).trans q56
   exact Ad ho (Ag rfl) (v:=.bool true) (w':=V) (by simp[kD,go_sem,TG]) ⟨_,put 57 _ rfl,rfl,dK _ _⟩
  ·have hg:x 57=.bool true:=az 2 (by kernel_rfl)
   exact Ad ho (IG ho rfl hg) (v:=O J k) (w':=V) (by simp[kD,go_sem,E10]) ⟨_,put 58 _ rfl,rfl,dK _ _⟩
  ·have hg:x 57=.bool true:=az 2 (by kernel_rfl)
   exact Ad ho (IG ho rfl hg) (v:=.pointer (some ⟨Bp,7,none⟩)) (w':=V) (by simp[kD,go_sem,E5]) ⟨_,put 59 _ rfl,rfl,dK _ _⟩
  ·have hg:x 57=.bool true:=az 2 (by kernel_rfl)
   have q59:x 59=.pointer (some ⟨Bp,7,none⟩):=az 4 (by kernel_rfl)
   have TF:=(ev 59 rfl).trans q59
   exact Ad ho (IG ho rfl hg) (v:=O J p.fro) (w':=V) (by simp[kD,go_sem,TF,z7]) ⟨_,put 60 _ rfl,rfl,dK _ _⟩
  ·have hg:x 57=.bool true:=az 2 (by kernel_rfl)
   have TD:x 58=O J k:=az 3 (by kernel_rfl)
   have NH:=(ev 58 rfl).trans TD
   have q60:x 60=O J p.fro:=az 5 (by kernel_rfl)
   have p60:=(ev 60 rfl).trans q60
   exact Ad ho (IG ho rfl hg) (v:=.bool true) (w':=V) (by simp[kD,go_sem,NH,p60,hf]) ⟨_,put 61 _ rfl,rfl,dK _ _⟩
  ·have TE:x 57=.bool true:=az 2 (by kernel_rfl)
   have IK:=(ev 57 rfl).trans TE
   have q61:x 61=.bool true:=az 6 (by kernel_rfl)
   have p61:=(ev 61 rfl).trans q61
   exact Ad ho (Ag rfl) (v:=.bool true) (w':=V) (by simp[kD,go_sem,IK,p61]) ⟨_,put 62 _ rfl,rfl,dK _ _⟩
  ·have q62:x 62=.bool true:=az 7 (by kernel_rfl)
   have p62:=(ev 62 rfl).trans q62
   exact Ad ho (Ag rfl) (v:=.bool true) (w':=V) (by simp[kD,go_sem,p62]) ⟨_,put 63 _ rfl,rfl,dK _ _⟩
  ·have hg:x 63=.bool true:=az 8 (by kernel_rfl)
   exact Ad ho (zI ho rfl hg) (v:=.agg #[O J p.s,O J p.c.k,O J p.c.a,O J p.c.b,O J p.c.t,O J p.c.q,O J p.c.h,O J p.fro,O J p.to,O J p.e,O J p.h,O J p.n,Y aK p.t.length cK]) (w':=V) (by simp[kD,go_sem,E5,z0,z1,z2,z3,z4,z5,z6,z7,z8,z9,z10,z11,YK]) ⟨_,put 64 _ rfl,rfl,dK _ _⟩
  ·have hg:x 63=.bool true:=az 8 (by kernel_rfl)
   exact Ad ho (zI ho rfl hg) (v:=.pointer (some ⟨Bx,0,none⟩)) (w':=V) (by simp[kD,go_sem,YI]) ⟨_,put 65 _ rfl,rfl,dK _ _⟩
  ·have hg:x 63=.bool true:=az 8 (by kernel_rfl)
   have q65:x 65=.pointer (some ⟨Bx,0,none⟩):=az 10 (by kernel_rfl)
   have p65:=(ev 65 rfl).trans q65
   exact Ad ho (zI ho rfl hg) (v:=.agg #[Y aS m.s.length cS,Y aH m.h.length cH,Y aF m.f.length cF,Y aL m.l.length cL,O J m.w]) (w':=V) (by simp[kD,go_sem,p65,x0,x1,x2,x3,x4]) ⟨_,put 66 _ rfl,rfl,dK _ _⟩
  ·have hg:x 63=.bool true:=az 8 (by kernel_rfl)
   have p66:=(ev 66 rfl).trans (az 11 (by kernel_rfl):x 66=.agg #[Y aS m.s.length cS,Y aH m.h.length cH,Y aF m.f.length cF,Y aL m.l.length cL,O J m.w])
   refine J6 ho (zI ho rfl hg) (f:=95) (args:=#[.agg #[Y aS m.s.length cS,Y aH m.h.length cH,Y aF m.f.length cF,Y aL m.l.length cL,O J m.w]]) (by simp[go_sem,p66]) ((Uy m _ _ _ _ _ _ _ _ V (Am.below hb) om).mono ?_)
   rintro e w' ⟨ao,bg,h1,h2,h3⟩
   exact⟨_,h1,_,put 67 _ rfl,⟨ao,bg,rfl,h2⟩,h3⟩
  ·have hg:x 63=.bool true:=az 8 (by kernel_rfl)
   exact Ad ho (zI ho rfl hg) (v:=.pointer (some ⟨Bx,0,none⟩)) (w':=V) (by simp[kD,go_sem,YI]) ⟨_,put 68 _ rfl,rfl,dK _ _⟩
  ·have hg:x 63=.bool true:=az 8 (by kernel_rfl)
   have q68:x 68=.pointer (some ⟨Bx,0,none⟩):=az 13 (by kernel_rfl)
   have p68:=(ev 68 rfl).trans q68
   exact Ad ho (zI ho rfl hg) (v:=.pointer (some ⟨Bx,4,none⟩)) (w':=V) (by simp[kD,go_sem,p68]) ⟨_,put 69 _ rfl,rfl,dK _ _⟩
  ·have hg:x 63=.bool true:=az 8 (by kernel_rfl)
   have q69:x 69=.pointer (some ⟨Bx,4,none⟩):=az 14 (by kernel_rfl)
   have p69:=(ev 69 rfl).trans q69
   exact Ad ho (zI ho rfl hg) (v:=O J m.w) (w':=V) (by simp[kD,go_sem,p69,x4]) ⟨_,put 70 _ rfl,rfl,dK _ _⟩
  ·have hg:x 63=.bool true:=az 8 (by kernel_rfl)
   exact Ad ho (zI ho rfl hg) (v:=.pointer (some ⟨By,0,none⟩)) (w':=V) (by simp[kD,go_sem,E3]) ⟨_,put 71 _ rfl,rfl,dK _ _⟩
  ·have hg:x 63=.bool true:=az 8 (by kernel_rfl)
   have q71:x 71=.pointer (some ⟨By,0,none⟩):=az 16 (by kernel_rfl)
   have p71:=(ev 71 rfl).trans q71
   exact Ad ho (zI ho rfl hg) (v:=.agg #[Y bS n.s.length eS,Y bH n.h.length eH,Y bF n.f.length eF,Y bL n.l.length eL,O J n.w]) (w':=V) (by simp[kD,go_sem,p71,y0,y1,y2,y3,y4]) ⟨_,put 72 _ rfl,rfl,dK _ _⟩
  ·have hg:x 63=.bool true:=az 8 (by kernel_rfl)
   have p72:=(ev 72 rfl).trans (az 17 (by kernel_rfl):x 72=.agg #[Y bS n.s.length eS,Y bH n.h.length eH,Y bF n.f.length eF,Y bL n.l.length eL,O J n.w])
   refine J6 ho (zI ho rfl hg) (f:=95) (args:=#[.agg #[Y bS n.s.length eS,Y bH n.h.length eH,Y bF n.f.length eF,Y bL n.l.length eL,O J n.w]]) (by simp[go_sem,p72]) ((Uy n _ _ _ _ _ _ _ _ V (An.below hb) on).mono ?_)
   rintro e w' ⟨ao,bg,h1,h2,h3⟩
   exact⟨_,h1,_,put 73 _ rfl,⟨ao,bg,rfl,h2⟩,h3⟩
  ·have hg:x 63=.bool true:=az 8 (by kernel_rfl)
   exact Ad ho (zI ho rfl hg) (v:=.pointer (some ⟨By,0,none⟩)) (w':=V) (by simp[kD,go_sem,E3]) ⟨_,put 74 _ rfl,rfl,dK _ _⟩
  ·have hg:x 63=.bool true:=az 8 (by kernel_rfl)
   have q74:x 74=.pointer (some ⟨By,0,none⟩):=az 19 (by kernel_rfl)
   have p74:=(ev 74 rfl).trans q74
   exact Ad ho (zI ho rfl hg) (v:=.pointer (some ⟨By,4,none⟩)) (w':=V) (by simp[kD,go_sem,p74]) ⟨_,put 75 _ rfl,rfl,dK _ _⟩
  ·have hg:x 63=.bool true:=az 8 (by kernel_rfl)
   have q75:x 75=.pointer (some ⟨By,4,none⟩):=az 20 (by kernel_rfl)
   have p75:=(ev 75 rfl).trans q75
   exact Ad ho (zI ho rfl hg) (v:=O J n.w) (w':=V) (by simp[kD,go_sem,p75,y4]) ⟨_,put 76 _ rfl,rfl,dK _ _⟩
  ·have hg:x 63=.bool true:=az 8 (by kernel_rfl)
   have p64:=(ev 64 rfl).trans (az 9 (by kernel_rfl):x 64=.agg #[O J p.s,O J p.c.k,O J p.c.a,O J p.c.b,O J p.c.t,O J p.c.q,O J p.c.h,O J p.fro,O J p.to,O J p.e,O J p.h,O J p.n,Y aK p.t.length cK])
   have p70:=(ev 70 rfl).trans (az 15 (by kernel_rfl):x 70=O J m.w)
   have p76:=(ev 76 rfl).trans (az 21 (by kernel_rfl):x 76=O J n.w)
   have RD:∃ ao bg,x 67=Y ao (Eb m).length bg/\Ho V ao bg (Eb m):=az 12 (by kernel_rfl)
   have QZ:∃ ao bg,x 73=Y ao (Eb n).length bg/\Ho V ao bg (Eb n):=az 18 (by kernel_rfl)
   refine pY RD fun a67 RD=>?_
   refine pY RD fun c67 RD=>?_
   have p67:=(ev 67 rfl).trans RD.1
   refine pY QZ fun a73 QZ=>?_
   refine pY QZ fun c73 QZ=>?_
   have p73:=(ev 73 rfl).trans QZ.1
   refine J6 ho (zI ho rfl hg) (f:=94) (args:=#[.agg #[O J p.s,O J p.c.k,O J p.c.a,O J p.c.b,O J p.c.t,O J p.c.q,O J p.c.h,O J p.fro,O J p.to,O J p.e,O J p.h,O J p.n,Y aK p.t.length cK],Y a67 (Eb m).length c67,O J m.w,Y a73 (Eb n).length c73,O J n.w]) (by simp[go_sem,p64,p67,p70,p73,p76]) ((Zj p aK cK (Eb m) (Eb n) a67 a73 c67 c73 m.w n.w V RD.2 QZ.2).mono ?_)
   rintro e w' ⟨h1,h3⟩
   exact⟨_,h1,_,put 77 _ rfl,rfl,h3⟩
  ·have q63:x 63=.bool true:=az 8 (by kernel_rfl)
   have p63:=(ev 63 rfl).trans q63
   have q77:x 77=.bool (U4 p m n):=az 22 (by kernel_rfl)
   have p77:=(ev 77 rfl).trans q77
   exact Ad ho (Ag rfl) (v:=.bool (U4 p m n)) (w':=V) (by simp[kD,go_sem,p63,p77]) ⟨_,put 78 _ rfl,rfl,dK _ _⟩
 ·intro x V hb ku hφ
  exact um x V hb (hφ 23 (by show 23<24;decide))
theorem b6t(qg:A.tmps.size=84)(e8:A.eval (.tmp 8)=O J F)(GR:A.eval (.tmp 10)=O J k)(e5:A.eval (.tmp 5)=.pointer (some ⟨Bp,0,none⟩))(qQ:c1=decide (F<0))(hn:c1=true->k<p.fro)(hp:W.heap[Bp]?=some (.cells #[O J p.s,O J p.c.k,O J p.c.a,O J p.c.b,O J p.c.t,O J p.c.q,O J p.c.h,O J p.fro,O J p.to,O J p.e,O J p.h,O J p.n,Y aK p.t.length cK] 78 (0,0)))(um:∀ x V,Below W.heap.size W V->x 78=.bool false->Q .normal (mkA A dW x) V):(Code.region id (Qg st) true).wp Pg Q A W:=by
 refine Na (by kernel_rfl) (mkA A dW) (Tv A dW) dW (by decide) rfl (by kernel_rfl) (fun i u _=>u=([O J F,.bool c1,.bool c1,cond c1 (O J k) Uz,cond c1 (.pointer (some ⟨Bp,7,none⟩)) Uz,cond c1 (O J p.fro) Uz,cond c1 (.bool false) Uz,.bool false,.bool false,Uz,Uz,Uz,Uz,Uz,Uz,Uz,Uz,Uz,Uz,Uz,Uz,Uz,Uz,.bool false]:List dU).getD i Uz) (fun _ _ _ _ h _=>h) ?_ ?_
 ·intro i hi x V hb ku az
  have ev:∀ q,(dW.contains q && decide (q<84))=true->(mkA A dW x).tmps[q]?.getD Uz=x q:=fun q h=>Jt x (by rw[qg];exact h)
  have put:∀ q u,dW.contains q=true->(mkA A dW x).put (some q) u=mkA A dW (Eu x q u):=fun q u h=>Vr (by simpa using h) u
  have E5:=Dw (A:=A) (D:=dW) x (k:=5) rfl e5
  have E8:=Dw (A:=A) (D:=dW) x (k:=8) rfl e8
  have E10:=Dw (A:=A) (D:=dW) x (k:=10) rfl GR
  have vS:=(hb.block _ (fC hp)).trans hp
  have z7:V.cell? ⟨Bp,7,none⟩=some (O J p.fro):=by rw[dN vS];rfl
  have IG:∀ {q:Nat} {o:Oper},(Qg st)[q]?=some o->o.guard=some (2,true)->x 57=.bool true->iY o (qH (Qg st) (mkA A dW x).tmps)=true:=fun _ hg h=>J5 hg rfl rfl (by rw[qg];rfl) h
  have YL:∀ {q:Nat} {o:Oper},(Qg st)[q]?=some o->o.guard=some (2,true)->x 57=.bool (!true)\/x 57=Uz->iY o (qH (Qg st) (mkA A dW x).tmps)=false:=fun _ hg h=>Ld hg rfl rfl (by rw[qg];rfl) h
  have zJ:∀ {q:Nat} {o:Oper},(Qg st)[q]?=some o->o.guard=some (8,true)->x 63=.bool (!true)\/x 63=Uz->iY o (qH (Qg st) (mkA A dW x).tmps)=false:=fun _ hg h=>Ld hg rfl rfl (by rw[qg];rfl) h
  generalize mkA A dW x=A' at *
  have hi:i<24:=hi
  obtain⟨o',ho⟩:∃ o',(Qg st)[i]?=some o':=⟨_,Array.getElem?_eq_getElem hi⟩
  have qV:i=0\/i=1\/i=2\/i=3\/i=4\/i=5\/i=6\/i=7\/i=8\/i=9\/i=10\/i=11\/i=12\/i=13\/i=14\/i=15\/i=16\/i=17\/i=18\/i=19\/i=20\/i=21\/i=22\/i=23:=by omega
  rcases qV with rfl|rfl|rfl|rfl|rfl|rfl|rfl|rfl|rfl|rfl|rfl|rfl|rfl|rfl|rfl|rfl|rfl|rfl|rfl|rfl|rfl|rfl|rfl|rfl
  all_goals
   have jk:=ho
   simp only[Qg,List.getElem?_toArray,List.getElem?_cons_zero,List.getElem?_cons_succ,qA] at jk
   subst jk
  ·exact Ad ho (Ag rfl) (v:=O J F) (w':=V) (by simp[kD,go_sem,E8]) ⟨_,put 55 _ rfl,rfl,dK _ _⟩
  ·have TI:=(ev 55 rfl).trans (az 0 (by kernel_rfl):x 55=O J F)
   exact Ad ho (Ag rfl) (v:=.bool c1) (w':=V) (by simp[kD,go_sem,TI,qQ]) ⟨_,put 56 _ rfl,rfl,dK _ _⟩
  ·have TG:=(ev 56 rfl).trans (az 1 (by kernel_rfl):x 56=.bool c1)
   exact Ad ho (Ag rfl) (v:=.bool c1) (w':=V) (by simp[kD,go_sem,TG]) ⟨_,put 57 _ rfl,rfl,dK _ _⟩
  ·have hg:x 57=.bool c1:=az 2 (by kernel_rfl)
   cases c1
   ·exact Bj ho (YL ho rfl (.inl hg)) ⟨Uz,put 58 _ rfl,rfl,dK _ _⟩
   ·exact Ad ho (IG ho rfl hg) (v:=O J k) (w':=V) (by simp[kD,go_sem,E10]) ⟨_,put 58 _ rfl,rfl,dK _ _⟩
  ·have hg:x 57=.bool c1:=az 2 (by kernel_rfl)
   cases c1
   ·exact Bj ho (YL ho rfl (.inl hg)) ⟨Uz,put 59 _ rfl,rfl,dK _ _⟩
   ·exact Ad ho (IG ho rfl hg) (v:=.pointer (some ⟨Bp,7,none⟩)) (w':=V) (by simp[kD,go_sem,E5]) ⟨_,put 59 _ rfl,rfl,dK _ _⟩
  ·have hg:x 57=.bool c1:=az 2 (by kernel_rfl)
   cases c1
   ·exact Bj ho (YL ho rfl (.inl hg)) ⟨Uz,put 60 _ rfl,rfl,dK _ _⟩
   ·have TF:=(ev 59 rfl).trans (az 4 (by kernel_rfl):x 59=.pointer (some ⟨Bp,7,none⟩))
    exact Ad ho (IG ho rfl hg) (v:=O J p.fro) (w':=V) (by simp[kD,go_sem,TF,z7]) ⟨_,put 60 _ rfl,rfl,dK _ _⟩
  ·have hg:x 57=.bool c1:=az 2 (by kernel_rfl)
   cases c1
   ·exact Bj ho (YL ho rfl (.inl hg)) ⟨Uz,put 61 _ rfl,rfl,dK _ _⟩
   ·have NH:=(ev 58 rfl).trans (az 3 (by kernel_rfl):x 58=O J k)
    have p60:=(ev 60 rfl).trans (az 5 (by kernel_rfl):x 60=O J p.fro)
    have UE:=hn rfl
    exact Ad ho (IG ho rfl hg) (v:=.bool false) (w':=V) (by simp[kD,go_sem,NH,p60,UE]) ⟨_,put 61 _ rfl,rfl,dK _ _⟩
  ·cases c1
   ·have IK:=(ev 57 rfl).trans (az 2 (by kernel_rfl):x 57=.bool false)
    exact Ad ho (Ag rfl) (v:=.bool false) (w':=V) (by simp[kD,go_sem,IK]) ⟨_,put 62 _ rfl,rfl,dK _ _⟩
   ·have IK:=(ev 57 rfl).trans (az 2 (by kernel_rfl):x 57=.bool true)
    have p61:=(ev 61 rfl).trans (az 6 (by kernel_rfl):x 61=.bool false)
    exact Ad ho (Ag rfl) (v:=.bool false) (w':=V) (by simp[kD,go_sem,IK,p61]) ⟨_,put 62 _ rfl,rfl,dK _ _⟩
  ·have p62:=(ev 62 rfl).trans (az 7 (by kernel_rfl):x 62=.bool false)
   exact Ad ho (Ag rfl) (v:=.bool false) (w':=V) (by simp[kD,go_sem,p62]) ⟨_,put 63 _ rfl,rfl,dK _ _⟩
  ·have hg:x 63=.bool false:=az 8 (by kernel_rfl)
   exact Bj ho (zJ ho rfl (.inl hg)) ⟨Uz,put 64 _ rfl,rfl,dK _ _⟩
  ·have hg:x 63=.bool false:=az 8 (by kernel_rfl)
   exact Bj ho (zJ ho rfl (.inl hg)) ⟨Uz,put 65 _ rfl,rfl,dK _ _⟩
  ·have hg:x 63=.bool false:=az 8 (by kernel_rfl)
   exact Bj ho (zJ ho rfl (.inl hg)) ⟨Uz,put 66 _ rfl,rfl,dK _ _⟩
  ·have hg:x 63=.bool false:=az 8 (by kernel_rfl)
   exact Bj ho (zJ ho rfl (.inl hg)) ⟨Uz,put 67 _ rfl,rfl,dK _ _⟩
  ·have hg:x 63=.bool false:=az 8 (by kernel_rfl)
   exact Bj ho (zJ ho rfl (.inl hg)) ⟨Uz,put 68 _ rfl,rfl,dK _ _⟩
  ·have hg:x 63=.bool false:=az 8 (by kernel_rfl)
   exact Bj ho (zJ ho rfl (.inl hg)) ⟨Uz,put 69 _ rfl,rfl,dK _ _⟩
  ·have hg:x 63=.bool false:=az 8 (by kernel_rfl)
   exact Bj ho (zJ ho rfl (.inl hg)) ⟨Uz,put 70 _ rfl,rfl,dK _ _⟩
  ·have hg:x 63=.bool false:=az 8 (by kernel_rfl)
   exact Bj ho (zJ ho rfl (.inl hg)) ⟨Uz,put 71 _ rfl,rfl,dK _ _⟩
  ·have hg:x 63=.bool false:=az 8 (by kernel_rfl)
   exact Bj ho (zJ ho rfl (.inl hg)) ⟨Uz,put 72 _ rfl,rfl,dK _ _⟩
  ·have hg:x 63=.bool false:=az 8 (by kernel_rfl)
   exact Bj ho (zJ ho rfl (.inl hg)) ⟨Uz,put 73 _ rfl,rfl,dK _ _⟩
  ·have hg:x 63=.bool false:=az 8 (by kernel_rfl)
   exact Bj ho (zJ ho rfl (.inl hg)) ⟨Uz,put 74 _ rfl,rfl,dK _ _⟩
  ·have hg:x 63=.bool false:=az 8 (by kernel_rfl)
   exact Bj ho (zJ ho rfl (.inl hg)) ⟨Uz,put 75 _ rfl,rfl,dK _ _⟩
  ·have hg:x 63=.bool false:=az 8 (by kernel_rfl)
   exact Bj ho (zJ ho rfl (.inl hg)) ⟨Uz,put 76 _ rfl,rfl,dK _ _⟩
  ·have hg:x 63=.bool false:=az 8 (by kernel_rfl)
   exact Bj ho (zJ ho rfl (.inl hg)) ⟨Uz,put 77 _ rfl,rfl,dK _ _⟩
  ·have p63:=(ev 63 rfl).trans (az 8 (by kernel_rfl):x 63=.bool false)
   exact Ad ho (Ag rfl) (v:=.bool false) (w':=V) (by simp[kD,go_sem,p63]) ⟨_,put 78 _ rfl,rfl,dK _ _⟩
 ·intro x V hb ku hφ
  exact um x V hb (hφ 23 (by show 23<24;decide))
end
end Go.Proofs.YthhgoenomehobaaGreat.mm
