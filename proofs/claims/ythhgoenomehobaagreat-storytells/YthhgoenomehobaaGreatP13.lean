/- Parts. -/
import Derived.Test.YthhgoenomehobaaGreatP12
namespace Go.Proofs.YthhgoenomehobaaGreat.mm
open RowKit.Below renaming heap_setCell → dM, setCell → gQ
open Go renaming lt_of_block → fC, Value → dU, World → Wq
open Tryz
set_option maxRecDepth 100000
set_option linter.unusedVariables false
open Value renaming int → O, slice → Y
open IntKind renaming i64 → J
open Tryz renaming prog → Pg
open ChangeShapes WideShapes ChangeAt RowKit Joins
section
variable {Xb:Ex}
theorem Az.fine{w w':Wq}{Z:Nat->Prop}{ao:Option Addr}{bg:Nat}{l:List (Int × Int)}(r:Az w ao bg l)(hf:Fine w w' Z)(hz:∀ ad,ao=some ad->¬ Z ad.block):Az w' ao bg l:=by
 refine⟨r.le,r.max,r.nil,?_⟩
 rcases r.at_ with h|⟨b,o,e,hc⟩
 ·exact .inl h
 ·refine .inr ⟨b,o,e,fun i hi=>?_⟩
  have hb:b<w.heap.size:=by
   have:=(hc i hi).1
   exact cell_lt this
  have q:∀ x,w'.cell? ⟨b,x,none⟩=w.cell? ⟨b,x,none⟩:=fun x=>World.cell?_of_block (a:=⟨b,x,none⟩) (hf.block b hb (hz _ e))
  rw[q,q]
  exact hc i hi
theorem Hf(f:Fr)(n:Int)(aK:Option Addr)(cK:Nat)(w:Wq) :
  Calls Pg 171 #[Ai f aK cK,O J n] w fun e w'=>e=.returned (.agg #[O J (toF f n).c.k,O J (toF f n).c.a,O J (toF f n).c.b,O J (toF f n).c.t,O J (toF f n).c.q,O J (toF f n).c.h,O J (toF f n).l,O J (toF f n).u,O J (toF f n).p,O J (toF f n).h,O J (toF f n).n,Y aK (toF f n).t.length cK,.bool (toF f n).d,O J (toF f n).e])/\Below w.heap.size w w':=by
 unfold Ai
 go_enter func171,ntmps171
 go_wp2
 refine bodyPost_ret (v:=.agg #[O J (toF f n).c.k,O J (toF f n).c.a,O J (toF f n).c.b,O J (toF f n).c.t,O J (toF f n).c.q,O J (toF f n).c.h,O J (toF f n).l,O J (toF f n).u,O J (toF f n).p,O J (toF f n).h,O J (toF f n).n,Y aK (toF f n).t.length cK,.bool (toF f n).d,O J (toF f n).e]) (by simp[results,results171,go_sem,toF]) rfl ⟨rfl,?_⟩
 repeat (first|exact Below.refl _ _|refine Below.alloc ?_ (by simp <;> omega) _|refine gQ ?_ (by simp <;> omega) _)
def stN(f:Fr):Int:=if f.u<=0 then 0 else f.u - 1
theorem Em(M:Mm)(f:Fr)(B:Nat)(aS aH aF aL:Option Addr)(cS cH cF cL:Nat)(aK:Option Addr)(cK:Nat)(w:Wq)
  (hB:w.heap[B]?=some (.cells (List.toArray (Y aS M.s.length cS :: Y aH M.h.length cH :: Y aF M.f.length cF :: Y aL M.l.length cL :: O J M.w :: Xb.rs)) Xb.rt (0,0)))
  (hc:f.u<=1000) (hn:M.s.length<=1000) :
  Calls Pg 200 #[Ae B,Ai f aK cK] w fun e w'=>e=.returned (.tuple #[O J (stN f),.bool (Fe M f)])/\Below w.heap.size w w':=by
 unfold Ae Ai
 obtain⟨q0,q1,q2,q3,q4,-,-,-,-,-,qs⟩:=Aj hB
 clear hB
 by_cases h:f.u<=0
 ·have e1:stN f=0:=by unfold stN;rw[af h]
  have e2:Fe M f=false:=by
   cases hx:Fe M f
   ·rfl
   ·rw[Fh] at hx;omega
  rw[e1,e2]
  go_enter func200,ntmps200
  go_wp2_with (go_at_call 140;refine(Qb _ _ h).mono ?_;rintro e w1 ⟨rfl,rfl⟩)
  go_ret2
  exact⟨rfl,A7 _ _⟩
 ·have h':0<f.u:=by omega
  have e1:stN f=f.u - 1:=by unfold stN;rw[ae h]
  have e2:Fe M f=inB (f.u - 1) 0 ((M.s.length:Int) - 1):=by
   rw[Bool.eq_iff_iff,Fh,Ar]
   omega
  rw[e1,e2]
  have HS:Qi (∀ W:Wq,Calls Pg 111 #[Cm aS aH aF aL cS cH cF cL M,O J (f.u - 1)] W fun e w'=>e=.returned (.bool (inB (f.u - 1) 0 ((M.s.length:Int) - 1)))/\Below W.heap.size W w'):=fun W=>Ep aS aH aF aL _ _ _ _ cS cH cF cL M.w (f.u - 1) W (by omega)
  generalize inB (f.u - 1) 0 ((M.s.length:Int) - 1)=r at *
  clear e1 e2 hn
  go_enter func200,ntmps200
  go_wp2_with (first|(go_at_call 140;refine(Qa _ _ h' hc).mono ?_;rintro e w1 ⟨rfl,rfl⟩)|(go_at_call 111;refine(HS.o _).mono ?_;rintro e w2 ⟨rfl,dm⟩))
  go_ret2
  exact⟨rfl,(A7 _ _).trans (dm.mono (by simp))⟩
end
section
variable {Xb:Ex}
def Ah:Obj:=.cells #[O J 0,O J 0,O J 0,O J 0,O J 0,O J 0,O J 0,O J 0,O J 0,O J 0,O J 0,Y none 0 0,.bool false,O J 0] 47
structure Lk(Xb:Ex)(w w1:Wq)(B lo:Nat)(aS aH aF aL:Option Addr)(cS cH cF cL:Nat)(M:Mm)(f:Fr)(aK:Option Addr)(cK:Nat):Prop where
 bl:Below w.heap.size w w1
 m:Mine Xb w1 B lo aS aH aF aL cS cH cF cL M
 lt:∀ k,Ac B aS aH aF aL k->k<w.heap.size
 fb:w1.heap[w.heap.size]?=some (.cells #[O J f.c.k,O J f.c.a,O J f.c.b,O J f.c.t,O J f.c.q,O J f.c.h,O J f.l,O J f.u,O J f.p,O J f.h,O J f.n,Y aK f.t.length cK,.bool f.d,O J f.e] 47 (0,0))
 zb:w1.heap[w.heap.size+1]?=some Ah
theorem b3k{w:Wq}{B lo:Nat}{aS aH aF aL:Option Addr}{cS cH cF cL:Nat}{M:Mm}(m:Mine Xb w B lo aS aH aF aL cS cH cF cL M):∀ k,Ac B aS aH aF aL k->k<w.heap.size:=by
 rintro k (rfl|⟨ad,rfl,rfl⟩|⟨ad,rfl,rfl⟩|⟨ad,rfl,rfl⟩|⟨ad,rfl,rfl⟩)
 ·exact fC m.box
 ·exact(m.c.s.lt _ rfl).2
 ·exact(m.c.h.lt _ rfl).2
 ·exact(m.c.f.lt _ rfl).2
 ·exact(m.c.l.lt _ rfl).2
section
variable {w w1 w2:Wq} {B lo:Nat} {aS aH aF aL:Option Addr} {cS cH cF cL:Nat} {M:Mm} {f:Fr} {aK:Option Addr} {cK:Nat}
theorem Lk.below(h:Lk Xb w w1 B lo aS aH aF aL cS cH cF cL M f aK cK)(hb:Below w1.heap.size w1 w2):Lk Xb w w2 B lo aS aH aF aL cS cH cF cL M f aK cK :=
 ⟨h.bl.trans (hb.mono h.bl.size),h.m.below hb,h.lt,(hb.block _ (fC h.fb)).trans h.fb,(hb.block _ (fC h.zb)).trans h.zb⟩
theorem Lk.first(m:Mine Xb w B lo aS aH aF aL cS cH cF cL M)(f:Fr)(aK:Option Addr)(cK:Nat){o oz:Obj}(ho:o=.cells #[O J f.c.k,O J f.c.a,O J f.c.b,O J f.c.t,O J f.c.q,O J f.c.h,O J f.l,O J f.u,O J f.p,O J f.h,O J f.n,Y aK f.t.length cK,.bool f.d,O J f.e] 47)(hz:oz=Ah):Lk Xb w ((w.alloc o).alloc oz) B lo aS aH aF aL cS cH cF cL M f aK cK:=by
 subst ho hz
 have h2:=below_alloc2 w (.cells #[O J f.c.k,O J f.c.a,O J f.c.b,O J f.c.t,O J f.c.q,O J f.c.h,O J f.l,O J f.u,O J f.p,O J f.h,O J f.n,Y aK f.t.length cK,.bool f.d,O J f.e] 47) Ah
 refine⟨h2,m.below h2,b3k m,?_,?_⟩
 ·rw[Below.heap_alloc _ _ _ (by simp)];exact heap_alloc_new w _
 ·have:=heap_alloc_new (w.alloc (.cells #[O J f.c.k,O J f.c.a,O J f.c.b,O J f.c.t,O J f.c.q,O J f.c.h,O J f.l,O J f.u,O J f.p,O J f.h,O J f.n,Y aK f.t.length cK,.bool f.d,O J f.e] 47)) Ah
  simpa using this
theorem Lk.store(h:Lk Xb w w1 B lo aS aH aF aL cS cH cF cL M f aK cK)(j:Nat)(v:dU)(g:Fr)(hg:(#[O J f.c.k,O J f.c.a,O J f.c.b,O J f.c.t,O J f.c.q,O J f.c.h,O J f.l,O J f.u,O J f.p,O J f.h,O J f.n,Y aK f.t.length cK,.bool f.d,O J f.e]:Array dU).setIfInBounds j v=#[O J g.c.k,O J g.c.a,O J g.c.b,O J g.c.t,O J g.c.q,O J g.c.h,O J g.l,O J g.u,O J g.p,O J g.h,O J g.n,Y aK g.t.length cK,.bool g.d,O J g.e]) :
  Lk Xb w (w1.setCell ⟨w.heap.size,j,none⟩ v) B lo aS aH aF aL cS cH cF cL M g aK cK:=by
 refine⟨h.bl.setCell (by simp) _,h.m.same (by simp) (fun k _ hk=>?_),h.lt,?_,by rw[dM _ _ _ _ (by dsimp only;omega)];exact h.zb⟩
 ·have:=h.lt k hk
  rw[dM _ _ _ _ (by dsimp only;omega)]
 ·rw[block_setCell h.fb v,hg]
end
theorem a2a{w w1:Wq}{n:Nat}{v0 v1 v2 v3 v4 v5 v6 v7 v8 v9 v10 v11 v12 v13:dU}(h:Below n w w1):Below n w ((((((((((((((w1.setCell ⟨n+1,0,none⟩ v0).setCell ⟨n+1,1,none⟩ v1).setCell ⟨n+1,2,none⟩ v2).setCell ⟨n+1,3,none⟩ v3).setCell ⟨n+1,4,none⟩ v4).setCell ⟨n+1,5,none⟩ v5).setCell ⟨n+1,6,none⟩ v6).setCell ⟨n+1,7,none⟩ v7).setCell ⟨n+1,8,none⟩ v8).setCell ⟨n+1,9,none⟩ v9).setCell ⟨n+1,10,none⟩ v10).setCell ⟨n+1,11,none⟩ v11).setCell ⟨n+1,12,none⟩ v12).setCell ⟨n+1,13,none⟩ v13):=by
 iterate 14 (refine gQ ?_ (by dsimp only;omega) _)
 exact h
end
section
variable {Xb:Ex}
theorem D7{w:Wq}{lo gS n bg:Nat}{M:Mm}(h:w.ownsRow lo 64 6 (Y (some ⟨gS,0,none⟩) n bg) n (encS M.s)){j:Nat}(hj:j<M.s.length){s:Sl}(hs:s=Aa M j) :
  w.cell? ⟨gS,j*6,none⟩=some (O J s.refs)/\w.cell? ⟨gS,j*6+1,none⟩=some (O J s.a)/\w.cell? ⟨gS,j*6+2,none⟩=some (O J s.b) /\
  w.cell? ⟨gS,j*6+3,none⟩=some (O J s.unt)/\w.cell? ⟨gS,j*6+4,none⟩=some (.bool s.inn)/\w.cell? ⟨gS,j*6+5,none⟩=some (O J s.next)/\∀ q,w.frozen? ⟨gS,q,none⟩=false:=by
 have e:s=M.s[j]:=by rw[hs];simp[Aa,List.getD_eq_getElem?_getD,hj]
 rw[e]
 exact Du h hj
end
section
open Deep Go.Sort
variable {Xb:Ex}
def Ret(w w':Wq)(e:Ending)(g:Fr)(aK:Option Addr)(cK:Nat):Prop :=
 ∃ a c,e=.returned (.agg #[O J g.c.k,O J g.c.a,O J g.c.b,O J g.c.t,O J g.c.q,O J g.c.h,O J g.l,O J g.u,O J g.p,O J g.h,O J g.n,Y a g.t.length c,.bool g.d,O J g.e])/\Az w' a c g.t/\(∀ ad,a=some ad->aK=some ad\/w.heap.size<=ad.block)/\(g.d=false->a=aK/\c=cK)
theorem b5x{w1:Wq}{n:Nat}{a:Option Addr}{c:Nat}{l:List (Int × Int)}{v0 v1 v2 v3 v4 v5 v6 v7 v8 v9 v10 v11 v12 v13:dU}(r:Az w1 a c l)(h:∀ ad,a=some ad->n+2<=ad.block):Az ((((((((((((((w1.setCell ⟨n+1,0,none⟩ v0).setCell ⟨n+1,1,none⟩ v1).setCell ⟨n+1,2,none⟩ v2).setCell ⟨n+1,3,none⟩ v3).setCell ⟨n+1,4,none⟩ v4).setCell ⟨n+1,5,none⟩ v5).setCell ⟨n+1,6,none⟩ v6).setCell ⟨n+1,7,none⟩ v7).setCell ⟨n+1,8,none⟩ v8).setCell ⟨n+1,9,none⟩ v9).setCell ⟨n+1,10,none⟩ v10).setCell ⟨n+1,11,none⟩ v11).setCell ⟨n+1,12,none⟩ v12).setCell ⟨n+1,13,none⟩ v13) a c l:=by
 refine r.hi h (fun k hk=>?_)
 repeat rw[dM _ _ _ _ (by dsimp only;omega)]
end
section
variable {Xb:Ex}
structure Lk2(Xb:Ex)(w w1:Wq)(Z:Nat->Prop)(B lo:Nat)(M:Mm)(f:Fr)(aK:Option Addr)(cK:Nat):Prop where
 zl:∀ k,Z k->k<w.heap.size
 fine:Fine w w1 Z
 mine:∃ aS aH aF aL cS cH cF cL,Mine Xb w1 B lo aS aH aF aL cS cH cF cL M/\∀ k,Ac B aS aH aF aL k->Z k\/w.heap.size+2<=k
 fb:w1.heap[w.heap.size]?=some (.cells #[O J f.c.k,O J f.c.a,O J f.c.b,O J f.c.t,O J f.c.q,O J f.c.h,O J f.l,O J f.u,O J f.p,O J f.h,O J f.n,Y aK f.t.length cK,.bool f.d,O J f.e] 47 (0,0))
 zb:w1.heap[w.heap.size+1]?=some Ah
theorem Lk.after{w w1 w2:Wq}{B lo:Nat}{aS aH aF aL:Option Addr}{cS cH cF cL:Nat}{M M':Mm}{f:Fr}{aK:Option Addr}{cK:Nat}(h:Lk Xb w w1 B lo aS aH aF aL cS cH cF cL M f aK cK)
  (hh:Has Xb w2 B lo (Up w1 (Ac B aS aH aF aL)) M') (hf:Fine w1 w2 (Ac B aS aH aF aL)):Lk2 Xb w w2 (Ac B aS aH aF aL) B lo M' f aK cK:=by
 have s1:=fC h.fb
 have s2:=fC h.zb
 refine⟨h.lt,?_,?_,?_,?_⟩
 ·exact(Fine.of_below (w:=w) (w':=w1) _ h.bl).trans hf fun _ _ h=>h
 ·obtain⟨bS,bH,bF,bL,dS,dH,dF,dL,m,hz⟩:=hh
  refine⟨bS,bH,bF,bL,dS,dH,dF,dL,m,fun k hk=>?_⟩
  rcases hz k hk with h3|h3
  ·exact .inl h3
  ·exact .inr (by omega)
 ·exact(hf.block _ s1 (fun h3=>by have:=h.lt _ h3;omega)).trans h.fb
 ·exact(hf.block _ s2 (fun h3=>by have:=h.lt _ h3;omega)).trans h.zb
theorem Lk.Dl{w w1:Wq}{B lo:Nat}{aS aH aF aL:Option Addr}{cS cH cF cL:Nat}{M:Mm}{f:Fr}{aK:Option Addr}{cK:Nat}{v0 v1 v2 v3 v4 v5 v6 v7 v8 v9 v10 v11 v12 v13:dU}(h:Lk Xb w w1 B lo aS aH aF aL cS cH cF cL M f aK cK):Has Xb ((((((((((((((w1.setCell ⟨w.heap.size+1,0,none⟩ v0).setCell ⟨w.heap.size+1,1,none⟩ v1).setCell ⟨w.heap.size+1,2,none⟩ v2).setCell ⟨w.heap.size+1,3,none⟩ v3).setCell ⟨w.heap.size+1,4,none⟩ v4).setCell ⟨w.heap.size+1,5,none⟩ v5).setCell ⟨w.heap.size+1,6,none⟩ v6).setCell ⟨w.heap.size+1,7,none⟩ v7).setCell ⟨w.heap.size+1,8,none⟩ v8).setCell ⟨w.heap.size+1,9,none⟩ v9).setCell ⟨w.heap.size+1,10,none⟩ v10).setCell ⟨w.heap.size+1,11,none⟩ v11).setCell ⟨w.heap.size+1,12,none⟩ v12).setCell ⟨w.heap.size+1,13,none⟩ v13) B lo (Up w (Ac B aS aH aF aL)) M /\
  Fine w ((((((((((((((w1.setCell ⟨w.heap.size+1,0,none⟩ v0).setCell ⟨w.heap.size+1,1,none⟩ v1).setCell ⟨w.heap.size+1,2,none⟩ v2).setCell ⟨w.heap.size+1,3,none⟩ v3).setCell ⟨w.heap.size+1,4,none⟩ v4).setCell ⟨w.heap.size+1,5,none⟩ v5).setCell ⟨w.heap.size+1,6,none⟩ v6).setCell ⟨w.heap.size+1,7,none⟩ v7).setCell ⟨w.heap.size+1,8,none⟩ v8).setCell ⟨w.heap.size+1,9,none⟩ v9).setCell ⟨w.heap.size+1,10,none⟩ v10).setCell ⟨w.heap.size+1,11,none⟩ v11).setCell ⟨w.heap.size+1,12,none⟩ v12).setCell ⟨w.heap.size+1,13,none⟩ v13) (Ac B aS aH aF aL):=by
 refine⟨⟨aS,aH,aF,aL,cS,cH,cF,cL,h.m.same (by simp) (fun k _ hk=>?_),fun k hk=>.inl hk⟩,.of_below _ (a2a h.bl)⟩
 have:=h.lt k hk
 repeat rw[dM _ _ _ _ (by dsimp only;omega)]
section
variable {w w1 w2:Wq} {Z:Nat->Prop} {B lo:Nat} {M:Mm} {f:Fr} {aK:Option Addr} {cK:Nat}
theorem Lk2.below(h:Lk2 Xb w w1 Z B lo M f aK cK)(hb:Below w1.heap.size w1 w2):Lk2 Xb w w2 Z B lo M f aK cK:=by
 obtain⟨aS,aH,aF,aL,cS,cH,cF,cL,m,hz⟩:=h.mine
 exact⟨h.zl,h.fine.below hb,⟨aS,aH,aF,aL,cS,cH,cF,cL,m.below hb,hz⟩,(hb.block _ (fC h.fb)).trans h.fb,(hb.block _ (fC h.zb)).trans h.zb⟩
theorem Lk2.store(h:Lk2 Xb w w1 Z B lo M f aK cK)(j:Nat)(v:dU)(g:Fr)(hg:(#[O J f.c.k,O J f.c.a,O J f.c.b,O J f.c.t,O J f.c.q,O J f.c.h,O J f.l,O J f.u,O J f.p,O J f.h,O J f.n,Y aK f.t.length cK,.bool f.d,O J f.e]:Array dU).setIfInBounds j v=#[O J g.c.k,O J g.c.a,O J g.c.b,O J g.c.t,O J g.c.q,O J g.c.h,O J g.l,O J g.u,O J g.p,O J g.h,O J g.n,Y aK g.t.length cK,.bool g.d,O J g.e]) :
  Lk2 Xb w (w1.setCell ⟨w.heap.size,j,none⟩ v) Z B lo M g aK cK:=by
 obtain⟨aS,aH,aF,aL,cS,cH,cF,cL,m,hz⟩:=h.mine
 refine⟨h.zl,h.fine.set (.inr (Nat.le_refl _)) _ _,⟨aS,aH,aF,aL,cS,cH,cF,cL,m.same (by simp) (fun k _ hk=>?_),hz⟩,?_,by rw[dM _ _ _ _ (by dsimp only;omega)];exact h.zb⟩
 ·have rO:k≠w.heap.size:=by
   rcases hz k hk with h3|h3
   ·have:=h.zl k h3;omega
   ·omega
  rw[dM _ _ _ _ (by dsimp only;exact rO)]
 ·rw[block_setCell h.fb v,hg]
theorem Lk2.same(h:Lk2 Xb w w1 Z B lo M f aK cK)(hs:w1.heap.size<=w2.heap.size)(ho:w2.os=w1.os/\w2.tape=w1.tape/\w2.output=w1.output)(hk:∀ k,k≠w.heap.size+1->w2.heap[k]?=w1.heap[k]?):Has Xb w2 B lo (Up w Z) M/\Fine w w2 Z:=by
 obtain⟨aS,aH,aF,aL,cS,cH,cF,cL,m,hz⟩:=h.mine
 refine⟨⟨aS,aH,aF,aL,cS,cH,cF,cL,m.same hs (fun k _ h1=>hk k ?_),fun k h1=>?_⟩,⟨ho.1.trans h.fine.os,ho.2.1.trans h.fine.tape,ho.2.2.trans h.fine.output,Nat.le_trans h.fine.size hs,fun k h1 h2=>(hk k (by omega)).trans (h.fine.block k h1 h2)⟩⟩
 ·rcases hz k h1 with h3|h3
  ·have:=h.zl k h3;omega
  ·omega
 ·rcases hz k h1 with h3|h3
  ·exact .inl h3
  ·exact .inr (by omega)
theorem Lk2.Dl{v0 v1 v2 v3 v4 v5 v6 v7 v8 v9 v10 v11 v12 v13:dU}(h:Lk2 Xb w w1 Z B lo M f aK cK):Has Xb ((((((((((((((w1.setCell ⟨w.heap.size+1,0,none⟩ v0).setCell ⟨w.heap.size+1,1,none⟩ v1).setCell ⟨w.heap.size+1,2,none⟩ v2).setCell ⟨w.heap.size+1,3,none⟩ v3).setCell ⟨w.heap.size+1,4,none⟩ v4).setCell ⟨w.heap.size+1,5,none⟩ v5).setCell ⟨w.heap.size+1,6,none⟩ v6).setCell ⟨w.heap.size+1,7,none⟩ v7).setCell ⟨w.heap.size+1,8,none⟩ v8).setCell ⟨w.heap.size+1,9,none⟩ v9).setCell ⟨w.heap.size+1,10,none⟩ v10).setCell ⟨w.heap.size+1,11,none⟩ v11).setCell ⟨w.heap.size+1,12,none⟩ v12).setCell ⟨w.heap.size+1,13,none⟩ v13) B lo (Up w Z) M /\
  Fine w ((((((((((((((w1.setCell ⟨w.heap.size+1,0,none⟩ v0).setCell ⟨w.heap.size+1,1,none⟩ v1).setCell ⟨w.heap.size+1,2,none⟩ v2).setCell ⟨w.heap.size+1,3,none⟩ v3).setCell ⟨w.heap.size+1,4,none⟩ v4).setCell ⟨w.heap.size+1,5,none⟩ v5).setCell ⟨w.heap.size+1,6,none⟩ v6).setCell ⟨w.heap.size+1,7,none⟩ v7).setCell ⟨w.heap.size+1,8,none⟩ v8).setCell ⟨w.heap.size+1,9,none⟩ v9).setCell ⟨w.heap.size+1,10,none⟩ v10).setCell ⟨w.heap.size+1,11,none⟩ v11).setCell ⟨w.heap.size+1,12,none⟩ v12).setCell ⟨w.heap.size+1,13,none⟩ v13) Z:=by
 have hb:=a2a (w:=w1) (w1:=w1) (n:=w.heap.size) (v0:=v0) (v1:=v1) (v2:=v2) (v3:=v3) (v4:=v4) (v5:=v5) (v6:=v6) (v7:=v7) (v8:=v8) (v9:=v9) (v10:=v10) (v11:=v11) (v12:=v12) (v13:=v13) (Below.refl _ _)
 refine h.same hb.size ⟨hb.os,hb.tape,hb.output⟩ (fun k hk=>?_)
 repeat rw[dM _ _ _ _ (by dsimp only;exact hk)]
end
end
end Go.Proofs.YthhgoenomehobaaGreat.mm
