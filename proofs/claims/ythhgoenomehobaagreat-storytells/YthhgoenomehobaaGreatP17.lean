/- Parts. -/
import Derived.Test.YthhgoenomehobaaGreatP13
namespace Go.Proofs.YthhgoenomehobaaGreat.mm
open Go renaming cell_regrown → fO, bodyPost_ret → gZ, Calls → aI, redrawn → iC, wp_region_quiet_below → iD, World → Wq
open Tryz
set_option maxRecDepth 100000
set_option linter.unusedVariables false
open Value renaming int → O, slice → Y
open IntKind renaming i64 → J
open Tryz renaming prog → Pg
open ChangeShapes WideShapes ChangeAt RowKit Joins Deep Go.Sort
set_option maxHeartbeats 0
variable {w w1 w':Wq}{n lo uP:Nat}{e:Ending}{g:Fr}(ao:Option Addr)(bg:Nat){aK:Option Addr}{cK:Nat}{Z:Nat->Prop}{a:Option Addr}{c:Nat}{l:List (Int × Int)}(M:Mm)(f:Fr)(e0:Int)(B:Nat)
section
variable {Xb:Ex}
def Fa(M:Mm)(f:Fr):Fr:=if Dp M f.h then { f with h:=-1 } else f
theorem P7(lo:Nat)(aS aH aF aL:Option Addr)(cS cH cF cL:Nat)(aK:Option Addr)(cK:Nat)(w:Wq)(m:Mine Xb w B lo aS aH aF aL cS cH cF cL M)(hM:Ok M) :
  aI Pg 202 #[Ae B,Ai f aK cK] w fun e w'=>e=.returned (.tuple #[.agg #[O J (Fa M f).c.k,O J (Fa M f).c.a,O J (Fa M f).c.b,O J (Fa M f).c.t,O J (Fa M f).c.q,O J (Fa M f).c.h,O J (Fa M f).l,O J (Fa M f).u,O J (Fa M f).p,O J (Fa M f).h,O J (Fa M f).n,Y aK (Fa M f).t.length cK,.bool (Fa M f).d,O J (Fa M f).e],.bool (Dp M f.h)])/\Has Xb w' B lo (Up w (Ac B aS aH aF aL)) (Es M f)/\Fine w w' (Ac B aS aH aF aL):=by
 unfold Ae Ai
 have ig:=hM.ns
 have yB:Qi (∀ W:Wq,aI Pg 111 #[Cm aS aH aF aL cS cH cF cL M,O J f.h] W fun e w'=>e=.returned (.bool (Dp M f.h))/\Below W.heap.size W w'):=fun W=>Ep aS aH aF aL _ _ _ _ cS cH cF cL M.w f.h W (by omega)
 cases hsl:Dp M f.h
 ·have jm:Fa M f=f:=by unfold Fa;rw[hsl];rfl
  have jr:Es M f=M:=by unfold Es;rw[hsl];rfl
  rw[jm,jr]
  rw[hsl] at yB
  obtain⟨of,df⟩:=frObj f aK cK
  obtain⟨oz,bi⟩:∃ o:Obj,o=Ah:=⟨_,rfl⟩
  have HE:Qi (Lk Xb w ((w.alloc of).alloc oz) B lo aS aH aF aL cS cH cF cL M f aK cK):=Lk.first m f aK cK df bi
  obtain⟨q0,q1,q2,q3,q4,-,-,-,-,-,qs⟩:=Aj HE.o.m.box
  obtain⟨f0,f1,f2,f3,f4,f5,f6,f7,f8,f9,ay,au,aj,ak,ff,fs⟩:=A8 HE.o.fb
  unfold Ah at bi
  clear m jm jr hsl ig hM
  go_enter func202,ntmps202
  go_wp2_with fail
  rw[<- df,<- bi]
  generalize (w.alloc of).alloc oz=W0 at *
  subst df bi
  have cB:∀ (d:Nat) (os:Array Obj),aI Pg 111 #[Cm aS aH aF aL cS cH cF cL M,O J f.h] (grow (iC W0 d) os) fun e uh=>e=.returned (.bool false)/\∃ p:Regrown,uh=grow (iC W0 p.d) p.os:=fun d os=>Calls.regrown_of (yB.o _)
  have Q0:=fO q0;have Q1:=fO q1;have Q2:=fO q2;have Q3:=fO q3;have Q4:=fO q4
  have F9:=fO f9
  clear q0 q1 q2 q3 q4 qs f0 f1 f2 f3 f4 f5 f6 f7 f8 f9 ay au aj ak ff fs
  refine iD (by kernel_rfl) (by kernel_rfl) ?_
  repeat (quiet_step (first|exact cB _ _))
  refine wpQuiet_nil ?_
  intro _ rq
  obtain⟨⟨dq,rD⟩,ql⟩:=rq
  subst ql
  have iy:Qi _:=below_regrown W0 dq rD
  generalize grow (iC W0 dq) rD=w1 at *
  clear cB Q0 Q1 Q2 Q3 Q4 F9
  have gp:Qi (Lk Xb w w1 B lo aS aH aF aL cS cH cF cL M f aK cK):=HE.o.below iy.o
  clear iy HE
  obtain⟨q0,q1,q2,q3,q4,-,-,-,-,-,qs⟩:=Aj gp.o.m.box
  obtain⟨f0,f1,f2,f3,f4,f5,f6,f7,f8,f9,ay,au,aj,ak,ff,fs⟩:=A8 gp.o.fb
  obtain⟨g0,g1,g2,g3,g4,g5,g6,g7,g8,g9,qm,pz,qi,qw,gf,gs⟩:=A8 gp.o.zb
  go_wp2
  refine gZ (v:=.tuple #[.agg #[O J f.c.k,O J f.c.a,O J f.c.b,O J f.c.t,O J f.c.q,O J f.c.h,O J f.l,O J f.u,O J f.p,O J f.h,O J f.n,Y aK f.t.length cK,.bool f.d,O J f.e],.bool false]) (by simp[results,results202,go_sem,g0,g1,g2,g3,g4,g5,g6,g7,g8,g9,qm,pz,qi,qw]) rfl ⟨rfl,gp.o.Dl⟩
 ·have jm:Fa M f = { f with h:=-1 }:=by unfold Fa;rw[hsl];rfl
  have jr:Es M f=Ff M f.h:=by unfold Es;rw[hsl];rfl
  rw[jm,jr]
  have HPt:Qi (∀ (W:Wq) (Z:Nat->Prop),Has Xb W B lo Z M->aI Pg 197 #[Ae B,O J f.h] W fun e w'=>e=.returned (.bool (decide (Eg M f.h≠0)))/\Has Xb w' B lo (Up W Z) (Ff M f.h)/\Fine W w' Z):=fun W Z h=>a1u h hM hsl
  generalize Ff M f.h=M' at *
  generalize decide (Eg M f.h≠0)=pr at *
  rw[hsl] at yB
  obtain⟨of,df⟩:=frObj f aK cK
  obtain⟨oz,bi⟩:∃ o:Obj,o=Ah:=⟨_,rfl⟩
  have HE:Qi (Lk Xb w ((w.alloc of).alloc oz) B lo aS aH aF aL cS cH cF cL M f aK cK):=Lk.first m f aK cK df bi
  obtain⟨q0,q1,q2,q3,q4,-,-,-,-,-,qs⟩:=Aj HE.o.m.box
  obtain⟨f0,f1,f2,f3,f4,f5,f6,f7,f8,f9,ay,au,aj,ak,ff,fs⟩:=A8 HE.o.fb
  unfold Ah at bi
  clear m jm jr hsl ig hM
  go_enter func202,ntmps202
  go_wp2_with fail
  rw[<- df,<- bi]
  generalize (w.alloc of).alloc oz=W0 at *
  subst df bi
  have cB:∀ (d:Nat) (os:Array Obj),aI Pg 111 #[Cm aS aH aF aL cS cH cF cL M,O J f.h] (grow (iC W0 d) os) fun e uh=>e=.returned (.bool true)/\∃ p:Regrown,uh=grow (iC W0 p.d) p.os:=fun d os=>Calls.regrown_of (yB.o _)
  have Q0:=fO q0;have Q1:=fO q1;have Q2:=fO q2;have Q3:=fO q3;have Q4:=fO q4
  have F9:=fO f9
  clear q0 q1 q2 q3 q4 qs f0 f1 f2 f3 f4 f5 f6 f7 f8 f9 ay au aj ak ff fs
  refine iD (by kernel_rfl) (by kernel_rfl) ?_
  repeat (quiet_step (first|exact cB _ _))
  refine wpQuiet_nil ?_
  intro _ rq
  obtain⟨⟨dq,rD⟩,ql⟩:=rq
  subst ql
  have iy:Qi _:=below_regrown W0 dq rD
  generalize grow (iC W0 dq) rD=w1 at *
  clear cB Q0 Q1 Q2 Q3 Q4 F9
  have gp:Qi (Lk Xb w w1 B lo aS aH aF aL cS cH cF cL M f aK cK):=HE.o.below iy.o
  clear iy HE
  obtain⟨q0,q1,q2,q3,q4,-,-,-,-,-,qs⟩:=Aj gp.o.m.box
  obtain⟨f0,f1,f2,f3,f4,f5,f6,f7,f8,f9,ay,au,aj,ak,ff,fs⟩:=A8 gp.o.fb
  go_wp2_with fail
  refine(HPt.o w1 (Ac B aS aH aF aL) ⟨_,_,_,_,_,_,_,_,gp.o.m,fun _ h=>h⟩).mono ?_
  rintro e w2 ⟨rfl,ja,ik⟩
  have ai:Qi (Lk2 Xb w w2 (Ac B aS aH aF aL) B lo M' f aK cK):=gp.o.after ja ik
  clear gp ja ik
  clear q0 q1 q2 q3 q4 qs f0 f1 f2 f3 f4 f5 f6 f7 f8 f9 ay au aj ak ff fs
  obtain⟨f0,f1,f2,f3,f4,f5,f6,f7,f8,f9,ay,au,aj,ak,ff,fs⟩:=A8 ai.o.fb
  obtain⟨g0,g1,g2,g3,g4,g5,g6,g7,g8,g9,qm,pz,qi,qw,gf,gs⟩:=A8 ai.o.zb
  have di:Qi (Lk2 Xb w (w2.setCell ⟨w.heap.size,9,none⟩ (O J (-1))) (Ac B aS aH aF aL) B lo M' { f with h:=-1 } aK cK):=ai.o.store 9 (O J (-1)) { f with h:=-1 } rfl
  clear ai
  go_wp2
  refine gZ (v:=.tuple #[.agg #[O J ({ f with h:=-1 }).c.k,O J ({ f with h:=-1 }).c.a,O J ({ f with h:=-1 }).c.b,O J ({ f with h:=-1 }).c.t,O J ({ f with h:=-1 }).c.q,O J ({ f with h:=-1 }).c.h,O J ({ f with h:=-1 }).l,O J ({ f with h:=-1 }).u,O J ({ f with h:=-1 }).p,O J ({ f with h:=-1 }).h,O J ({ f with h:=-1 }).n,Y aK ({ f with h:=-1 }).t.length cK,.bool ({ f with h:=-1 }).d,O J ({ f with h:=-1 }).e],.bool true]) (by simp[results,results202,go_sem,g0,g1,g2,g3,g4,g5,g6,g7,g8,g9,qm,pz,qi,qw]) rfl ⟨rfl,di.o.Dl⟩
theorem Lk2.all{B lo:Nat}{M:Mm}{f:Fr}{aK:Option Addr}{cK:Nat}(h:Lk2 Xb w w1 Z B lo M f aK cK)(g:Fr) :
  Lk2 Xb w ((((((((((((((w1.setCell ⟨w.heap.size,0,none⟩ (O J g.c.k)).setCell ⟨w.heap.size,1,none⟩ (O J g.c.a)).setCell ⟨w.heap.size,2,none⟩ (O J g.c.b)).setCell ⟨w.heap.size,3,none⟩ (O J g.c.t)).setCell ⟨w.heap.size,4,none⟩ (O J g.c.q)).setCell ⟨w.heap.size,5,none⟩ (O J g.c.h)).setCell ⟨w.heap.size,6,none⟩ (O J g.l)).setCell ⟨w.heap.size,7,none⟩ (O J g.u)).setCell ⟨w.heap.size,8,none⟩ (O J g.p)).setCell ⟨w.heap.size,9,none⟩ (O J g.h)).setCell ⟨w.heap.size,10,none⟩ (O J g.n)).setCell ⟨w.heap.size,11,none⟩ (Y aK g.t.length cK)).setCell ⟨w.heap.size,12,none⟩ (.bool g.d)).setCell ⟨w.heap.size,13,none⟩ (O J g.e)) Z B lo M g aK cK :=
 ((((((((((((((h).store 0 (O J g.c.k) ⟨⟨g.c.k,f.c.a,f.c.b,f.c.t,f.c.q,f.c.h⟩,f.l,f.u,f.p,f.h,f.n,f.t,f.d,f.e⟩ rfl).store 1 (O J g.c.a) ⟨⟨g.c.k,g.c.a,f.c.b,f.c.t,f.c.q,f.c.h⟩,f.l,f.u,f.p,f.h,f.n,f.t,f.d,f.e⟩ rfl).store 2 (O J g.c.b) ⟨⟨g.c.k,g.c.a,g.c.b,f.c.t,f.c.q,f.c.h⟩,f.l,f.u,f.p,f.h,f.n,f.t,f.d,f.e⟩ rfl).store 3 (O J g.c.t) ⟨⟨g.c.k,g.c.a,g.c.b,g.c.t,f.c.q,f.c.h⟩,f.l,f.u,f.p,f.h,f.n,f.t,f.d,f.e⟩ rfl).store 4 (O J g.c.q) ⟨⟨g.c.k,g.c.a,g.c.b,g.c.t,g.c.q,f.c.h⟩,f.l,f.u,f.p,f.h,f.n,f.t,f.d,f.e⟩ rfl).store 5 (O J g.c.h) ⟨⟨g.c.k,g.c.a,g.c.b,g.c.t,g.c.q,g.c.h⟩,f.l,f.u,f.p,f.h,f.n,f.t,f.d,f.e⟩ rfl).store 6 (O J g.l) ⟨⟨g.c.k,g.c.a,g.c.b,g.c.t,g.c.q,g.c.h⟩,g.l,f.u,f.p,f.h,f.n,f.t,f.d,f.e⟩ rfl).store 7 (O J g.u) ⟨⟨g.c.k,g.c.a,g.c.b,g.c.t,g.c.q,g.c.h⟩,g.l,g.u,f.p,f.h,f.n,f.t,f.d,f.e⟩ rfl).store 8 (O J g.p) ⟨⟨g.c.k,g.c.a,g.c.b,g.c.t,g.c.q,g.c.h⟩,g.l,g.u,g.p,f.h,f.n,f.t,f.d,f.e⟩ rfl).store 9 (O J g.h) ⟨⟨g.c.k,g.c.a,g.c.b,g.c.t,g.c.q,g.c.h⟩,g.l,g.u,g.p,g.h,f.n,f.t,f.d,f.e⟩ rfl).store 10 (O J g.n) ⟨⟨g.c.k,g.c.a,g.c.b,g.c.t,g.c.q,g.c.h⟩,g.l,g.u,g.p,g.h,g.n,f.t,f.d,f.e⟩ rfl).store 11 (Y aK g.t.length cK) ⟨⟨g.c.k,g.c.a,g.c.b,g.c.t,g.c.q,g.c.h⟩,g.l,g.u,g.p,g.h,g.n,g.t,f.d,f.e⟩ rfl).store 12 (.bool g.d) ⟨⟨g.c.k,g.c.a,g.c.b,g.c.t,g.c.q,g.c.h⟩,g.l,g.u,g.p,g.h,g.n,g.t,g.d,f.e⟩ rfl).store 13 (O J g.e) ⟨⟨g.c.k,g.c.a,g.c.b,g.c.t,g.c.q,g.c.h⟩,g.l,g.u,g.p,g.h,g.n,g.t,g.d,g.e⟩ rfl
end
section
variable {Xb:Ex}
structure Ea(w:Wq)(lo:Nat)(a:Option Addr)(c:Nat)(l:List (Int × Int)):Prop where
 own:w.ownsRow lo 30 2 (Y a l.length c) l.length (G7 l)
theorem b0e(w:Wq)(lo:Nat):Ea w lo none 0 []:=⟨World.ownsRow_nil w lo 30 2⟩
theorem Ea.row(h:Ea w lo a c l)(hm:l.length<=1000):Az w a c l:=Az.own h.own (by omega)
theorem Ea.le(h:Ea w lo a c l)(hl:uP<=lo):Ea w uP a c l:=⟨ownsRow_le h.own hl⟩
theorem Ea.lt(h:Ea w lo a c l):∀ ad,a=some ad->lo<=ad.block/\ad.block<w.heap.size:=by
 rintro ad rfl
 rcases h.own.2 with ⟨hv,-⟩|⟨g,bg,sU,hv,hg,hb,-⟩
 ·cases hv
 ·injection hv with h1 _ _
  injection h1 with h1
  subst h1
  exact⟨hg,lt_of_block hb⟩
theorem Ea.same(h:Ea w lo a c l)(hk:∀ ad,a=some ad->w'.heap[ad.block]?=w.heap[ad.block]?):Ea w' lo a c l :=
 ⟨Cb h.own fun g hg=>by
  cases a with
  | none=>cases hg
  | some ad=>cases hg;exact hk ad rfl⟩
theorem Ea.fine(h:Ea w lo a c l)(hf:Fine w w' Z)(hz:∀ ad,a=some ad->¬ Z ad.block):Ea w' lo a c l :=
 h.same fun ad e=>hf.block _ (h.lt ad e).2 (hz ad e)
theorem Ea.below(h:Ea w lo a c l)(hb:Below w.heap.size w w'):Ea w' lo a c l :=
 h.same fun ad e=>hb.block _ (h.lt ad e).2
theorem Uh(l:List (Int × Int))(w:Wq)(r:Az w ao bg l) :
  aI Pg 104 #[Y ao l.length bg] w fun e w'=>∃ a c,e=.returned (Y a l.length c)/\Ea w' w.heap.size a c l/\Below w.heap.size w w':=by
 cases ao with
 | some ad =>
  refine(Xh ad bg l w r).mono ?_
  rintro e w' ⟨rfl,h1,h2⟩
  exact⟨_,_,rfl,⟨h1⟩,h2⟩
 | none =>
  have hc:=r.nil rfl
  have hl:l=[]:=List.eq_nil_of_length_eq_zero (by have:=r.le;omega)
  subst hc hl
  refine(Xg w).mono ?_
  rintro e w' ⟨rfl,rfl⟩
  exact⟨_,_,rfl,b0e _ _,Below.refl _ _⟩
theorem Ea.Dl(h:Ea w1 (n+2) a c l){v0 v1 v2 v3 v4 v5 v6 v7 v8 v9 v10 v11 v12 v13:Value}:Ea ((((((((((((((w1.setCell ⟨n+1,0,none⟩ v0).setCell ⟨n+1,1,none⟩ v1).setCell ⟨n+1,2,none⟩ v2).setCell ⟨n+1,3,none⟩ v3).setCell ⟨n+1,4,none⟩ v4).setCell ⟨n+1,5,none⟩ v5).setCell ⟨n+1,6,none⟩ v6).setCell ⟨n+1,7,none⟩ v7).setCell ⟨n+1,8,none⟩ v8).setCell ⟨n+1,9,none⟩ v9).setCell ⟨n+1,10,none⟩ v10).setCell ⟨n+1,11,none⟩ v11).setCell ⟨n+1,12,none⟩ v12).setCell ⟨n+1,13,none⟩ v13) n a c l :=
 (h.same fun ad e=>by
  have:=(h.lt ad e).1
  repeat rw[Below.heap_setCell _ _ _ _ (by dsimp only;omega)]).le (by omega)
def a2s(w w':Wq)(e:Ending)(g:Fr):Prop:=∃ a c,e=.returned (.agg #[O J g.c.k,O J g.c.a,O J g.c.b,O J g.c.t,O J g.c.q,O J g.c.h,O J g.l,O J g.u,O J g.p,O J g.h,O J g.n,Y a g.t.length c,.bool g.d,O J g.e])/\Ea w' w.heap.size a c g.t
def a9c(w w':Wq)(e:Ending)(g:Fr)(aK:Option Addr)(cK:Nat)(l:List (Int × Int)):Prop:=(e=.returned (.agg #[O J g.c.k,O J g.c.a,O J g.c.b,O J g.c.t,O J g.c.q,O J g.c.h,O J g.l,O J g.u,O J g.p,O J g.h,O J g.n,Y aK g.t.length cK,.bool g.d,O J g.e])/\g.t=l/\Az w' aK cK g.t)\/a2s w w' e g
theorem Ret.s(h:Ret w w' e g aK cK)(hd:g.d=false)(hl:g.t=l):a9c w w' e g aK cK l:=by
 obtain⟨a,c,h1,h2,-,h4⟩:=h
 obtain⟨rfl,rfl⟩:=h4 hd
 exact .inl ⟨h1,hl,h2⟩
theorem a9c.three(h:a9c w w' e g aK cK l)(hk:g.t.length<=1000):∃ a c,e=.returned (.agg #[O J g.c.k,O J g.c.a,O J g.c.b,O J g.c.t,O J g.c.q,O J g.c.h,O J g.l,O J g.u,O J g.p,O J g.h,O J g.n,Y a g.t.length c,.bool g.d,O J g.e])/\Az w' a c g.t/\(∀ ad,a=some ad->aK=some ad\/w.heap.size<=ad.block):=by
 rcases h with ⟨h1,-,h2⟩|⟨a,c,h1,h2⟩
 ·exact⟨aK,cK,h1,h2,fun _ h=>.inl h⟩
 ·exact⟨a,c,h1,h2.row hk,fun ad h=>.inr (h2.lt ad h).1⟩
theorem Ua(aK:Option Addr)(cK:Nat)(w:Wq)(r:Az w aK cK f.t) :
  aI Pg 199 #[Ai f aK cK,O J e0] w fun e w'=>∃ a c,e=.returned (.agg #[O J (Ak f e0).c.k,O J (Ak f e0).c.a,O J (Ak f e0).c.b,O J (Ak f e0).c.t,O J (Ak f e0).c.q,O J (Ak f e0).c.h,O J (Ak f e0).l,O J (Ak f e0).u,O J (Ak f e0).p,O J (Ak f e0).h,O J (Ak f e0).n,Y a (Ak f e0).t.length c,.bool (Ak f e0).d,O J (Ak f e0).e])/\Ea w' w.heap.size a c f.t/\Below w.heap.size w w':=by
 unfold Ai
 obtain⟨of,df⟩:=frObj f aK cK
 obtain⟨oz,bi⟩:∃ o:Obj,o=.cells #[O J 0,O J 0,O J 0,O J 0,O J 0,O J 0,O J 0,O J 0,O J 0,O J 0,O J 0,Y none 0 0,.bool false,O J 0] 47:=⟨_,rfl⟩
 have mr:Qi (Env w ((w.alloc of).alloc oz) _ []):=((⟨Below.refl _ _,(fun p hp=>by cases hp),(fun p hp=>by cases hp)⟩:Env w w [] []).alloc of).alloc oz
 rw[show (w.alloc of).heap.size=w.heap.size+1 by simp] at mr
 have HR:Qi (Az w aK cK f.t):=r
 clear r
 go_enter func199,ntmps199
 go_wp2_with fail
 rw[<- df,<- bi]
 generalize (w.alloc of).alloc oz=W0 at *
 subst df bi
 refine(Uh aK cK f.t W0 (HR.o.below mr.o.bl)).mono ?_
 rintro e w1 ⟨a1,c1,rfl,IV,bu⟩
 have gp:Qi _:=mr.o.below bu
 have ww:Qi (Ea w1 (w.heap.size+2) a1 c1 f.t):=IV.le (mr.o.lt (.head _))
 clear mr bu IV
 have GI:=gp.o.box _ (.head _)
 have QR:=gp.o.box _ (.tail _ (.head _))
 obtain⟨f0,f1,f2,f3,f4,f5,f6,f7,f8,f9,ay,au,aj,ak,ff,fs⟩:=A8 QR
 obtain⟨g0,g1,g2,g3,g4,g5,g6,g7,g8,g9,qm,pz,qi,qw,gf,gs⟩:=A8 GI
 have iw:w.heap.size+1≠w.heap.size:=by omega
 have xm:Qi (Below w.heap.size w w1):=gp.o.bl
 clear GI QR gp
 go_wp2
 refine gZ (v:=.agg #[O J (Ak f e0).c.k,O J (Ak f e0).c.a,O J (Ak f e0).c.b,O J (Ak f e0).c.t,O J (Ak f e0).c.q,O J (Ak f e0).c.h,O J (Ak f e0).l,O J (Ak f e0).u,O J (Ak f e0).p,O J (Ak f e0).h,O J (Ak f e0).n,Y a1 (Ak f e0).t.length c1,.bool (Ak f e0).d,O J (Ak f e0).e]) (by simp[results,results199,go_sem,Ak,g0,g1,g2,g3,g4,g5,g6,g7,g8,g9,qm,pz,qi,qw]) rfl ⟨a1,c1,rfl,(ww.o.same (fun ad hk=>?_)).le (by omega),?_⟩
 ·have:=(ww.o.lt ad hk).1
  repeat rw[Below.heap_setCell _ _ _ _ (by dsimp only;omega)]
 ·iterate 17 (refine Below.setCell ?_ (by dsimp only;omega) _)
  exact xm.o
end
end Go.Proofs.YthhgoenomehobaaGreat.mm
