/- Parts. -/
import Derived.Test.YthhgoenomehobaaGreatP15
import Derived.Test.YthhgoenomehobaaGreatP13
namespace Go.Proofs.YthhgoenomehobaaGreat.mm
open Tryz
set_option maxRecDepth 100000
set_option linter.unusedVariables false
open Value renaming int → O, slice → Y
open IntKind renaming i64 → J
open Tryz renaming prog → Pg
open Go renaming World → Wq
open ChangeShapes WideShapes ChangeAt RowKit Joins
variable {w w9 w1 w2:Wq}{o:Obj}(je yX n:Int){Z:Nat->Prop}{B lo:Nat}{aS aH aF aL:Option Addr}{cS cH cF cL:Nat}{M:Mm}{s:Int}{f g:Fr}{aK:Option Addr}{cK:Nat}
section
open Deep Go.Sort
variable {Xb:Ex}
theorem Lk.two(h:Lk Xb w w1 B lo aS aH aF aL cS cH cF cL M f aK cK):Lk2 Xb w w1 (Ac B aS aH aF aL) B lo M f aK cK :=
 ⟨h.lt,.of_below _ h.bl,⟨_,_,_,_,_,_,_,_,h.m,fun k hk=>.inl hk⟩,h.fb,h.zb⟩
theorem a0j(hb:Below ((w.alloc o).alloc Ah).heap.size ((w.alloc o).alloc Ah) w9):Below w.heap.size w w9/\w9.heap[w.heap.size+1]?=some Ah:=by
 have h0:((w.alloc o).alloc Ah).heap[w.heap.size+1]?=some Ah:=by
  have:=heap_alloc_new (w.alloc o) Ah
  simpa using this
 exact⟨(below_alloc2 w o Ah).trans (hb.mono (below_alloc2 w o Ah).size),(hb.block _ (lt_of_block h0)).trans h0⟩
theorem Xf(f:Fr)(aK:Option Addr)(cK:Nat)(w:Wq) :
  Calls Pg 180 #[Ai f aK cK] w fun e w'=>e=.returned (.agg #[O J (D5 f).c.k,O J (D5 f).c.a,O J (D5 f).c.b,O J (D5 f).c.t,O J (D5 f).c.q,O J (D5 f).c.h,O J (D5 f).l,O J (D5 f).u,O J (D5 f).p,O J (D5 f).h,O J (D5 f).n,Y aK (D5 f).t.length cK,.bool (D5 f).d,O J (D5 f).e])/\Below w.heap.size w w':=by
 unfold Ai
 go_enter func180,ntmps180
 go_wp2_with fail
 refine(Hf { f with e:=8 } 7 aK cK _).mono ?_
 rintro e w9 ⟨rfl,qM⟩
 have qo:Qi (Below w.heap.size w w9/\w9.heap[w.heap.size+1]?=some Ah):=a0j qM
 clear qM
 obtain⟨g0,g1,g2,g3,g4,g5,g6,g7,g8,g9,qm,pz,qi,qw,gf,gs⟩:=A8 qo.o.2
 go_wp2
 refine bodyPost_ret (v:=.agg #[O J (D5 f).c.k,O J (D5 f).c.a,O J (D5 f).c.b,O J (D5 f).c.t,O J (D5 f).c.q,O J (D5 f).c.h,O J (D5 f).l,O J (D5 f).u,O J (D5 f).p,O J (D5 f).h,O J (D5 f).n,Y aK (D5 f).t.length cK,.bool (D5 f).d,O J (D5 f).e]) (by simp[results,results180,go_sem,D5,toF,g0,g1,g2,g3,g4,g5,g6,g7,g8,g9,qm,pz,qi,qw]) rfl ⟨rfl,a2a qo.o.1⟩
theorem Zf(w:Wq)(h0:0<=je)(h1:je<=1000000)(h2:1<=yX)(h3:yX<=1000000) :
  Calls Pg 204 #[O J je,O J yX] w fun e w'=>e=.returned (O J (je+yX))/\w=w':=by
 have e1:decide (0<yX)=true:=by rw[decide_eq_true_iff];omega
 have e2:¬ (2000000 - yX<je):=by omega
 have e3:¬ (2000000<je+yX):=by omega
 go_enter func204,ntmps204
 go_wp2
 go_ret
 exact⟨rfl,rfl⟩
end
section
variable {Xb:Ex}
theorem Lk2.toA(h:Lk2 Xb w w1 Z B lo M f aK cK)(hf:Fine w1 w2 (fun k=>k=w.heap.size))(hx:w2.heap[w.heap.size]?=some (.cells #[O J g.c.k,O J g.c.a,O J g.c.b,O J g.c.t,O J g.c.q,O J g.c.h,O J g.l,O J g.u,O J g.p,O J g.h,O J g.n,Y aK g.t.length cK,.bool g.d,O J g.e] 47 (0,0))):Lk2 Xb w w2 Z B lo M g aK cK:=by
 obtain⟨aS,aH,aF,aL,cS,cH,cF,cL,m,hz⟩:=h.mine
 refine⟨h.zl,h.fine.trans hf (fun k h1 h2=>by omega),⟨aS,aH,aF,aL,cS,cH,cF,cL,m.same hf.size (fun k h1 h2=>hf.block k h1 ?_),hz⟩,hx,(hf.block _ (lt_of_block h.zb) (by omega)).trans h.zb⟩
 rcases hz k h2 with h3|h3
 ·have:=h.zl k h3;omega
 ·omega
theorem b0d(w:Wq){r:Bool}(h:decide (0<n)=r):Calls Pg 115 #[O J n] w fun e w'=>e=.returned (.bool r)/\w=w':=by
 subst h
 go_enter func115,ntmps115
 go_wp2
 go_ret
 exact⟨rfl,rfl⟩
end
section
variable {Xb:Ex}
theorem b3p(h:s<0):Dp M s=false:=by
 cases hx:Dp M s
 ·rfl
 ·have:=(Ez.1 hx).1
  omega
end
end Go.Proofs.YthhgoenomehobaaGreat.mm
