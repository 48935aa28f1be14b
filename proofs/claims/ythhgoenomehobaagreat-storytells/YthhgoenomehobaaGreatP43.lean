/- Parts. -/
import Derived.Test.YthhgoenomehobaaGreatP38
import Derived.Test.YthhgoenomehobaaGreatP40
import Derived.Test.YthhgoenomehobaaGreatP41
import Derived.Test.YthhgoenomehobaaGreatP37
import Derived.Test.YthhgoenomehobaaGreatP39
import Derived.Test.YthhgoenomehobaaGreatP42
namespace Go.Proofs.YthhgoenomehobaaGreat.mm
open Act renaming eval → oQ
open Option.some renaming injEq → qA
open Exists renaming elim → pY
open Option renaming getD_some → jC, map_some → jD
open Bool renaming and_eq_true → cO, or_eq_true → pX
open Value renaming slice → eX, okWide → pW, int → O, slice → Y
open Region renaming wanted → iY, binds → iZ
open DataW renaming trod → kV, trod_int → kW, weights → kX, weightsEach → pU, trod_struct → kZ, trod_bool → oK, weightsAll → pV
open World renaming size_setCell → eQ
open List renaming getElem_mem → bJ, length_set → dZ, range → aU, getElem_set_self → mF, getD_cons_zero → nZ, getD_cons_succ → oC, length_map → kN, eq_nil_of_length_eq_zero → bQ, all_eq_true → iR, mem_cons → aZ, mem_map → mG, nil_append → eP, mem_append → pJ, map_cons → bK, getElem_inj → iU, map_append → bG, getElem_append_left → pK, mem_range → pM, getElem_append_right → pO, mem_singleton → pR
open Tryz renaming underlying47 → mO, underlying3 → lD, underlying26 → oZ, f22 → pF, underlying28 → pG, underlying78 → pI, prog → Pg
open Nat renaming le_refl → aC, zero_le → aG, le_trans → dQ, zero_add → dR, lt_succ_self → oV, le_of_not_lt → oW
open Joins renaming cell_of_block → dN, block_setCell → dO, unfrozen_of_block → dP, ownsRow_le → fQ
open RowKit.Below renaming refl → dK, heap_alloc → fU, heap_setCell → dM
open Go renaming lt_of_block → fC, heap_alloc_new → fP, bodyPost_ret → gZ, Value → dU, Calls → aI, execOp → kD, ownsRow_setCell_other → dV, reachBytes → kE, MemPlace → kG, TypeId → dX, info_parts → gG, DataW → kJ, maxLen → gJ, undef → Uz, World → Wq
open Tryz
set_option maxRecDepth 100000
set_option linter.unusedVariables false
open IntKind renaming i64 → J
set_option maxHeartbeats 0
variable {r:Reach}{b0:Nat}{v:dU}{P:Program}{bn:Array Oper}{ag:Array Bool}{j:Nat}{Q:Exit->Act->Wq->Prop}{i:Nat}{o op:Oper}{base:Nat}{iq:Nat->Bool}{kw:Bool}{t:dX}{f0 f1 f2 f3 f4 f5 f6 f7:Field}{qR:Nat}{cs:List dU}{c0 c1 c2 c3 c4 c:dU}{e:dX}(E:Int){A:Act}{W:Wq}{id:Nat}{st:String}{k F:Nat}{s:String}{a:Act}{w0:Wq}{b:Act}{V w':Wq}{D:List Nat}
section
open Go RowKit
def Oh(bn:Array Oper)(j i:Nat):Bool:=((bn[j]?).map fun o=>o.after.any fun e=>e.on==i && iZ .any e).getD false
theorem Ov(ho:bn[j]?=some o)(h:∀ e∈o.after,iZ .any e=true->ag.getD e.on false=true)(he:Oh bn j i=true):ag.getD i false=true:=by
 unfold Oh at he
 rw[ho] at he
 simp only[jD,jC] at he
 rw[Array.any_eq_true'] at he
 obtain⟨e,vO,uO⟩:=he
 rw[cO] at uO
 have uX:e.on=i:=by simpa using uO.1
 rw[<- uX]
 exact h e vO uO.2
theorem Y9(hm:P.follows .mixedOrders=true)(mk:(Nat->dU)->Act)(D:Nat->Nat)(ch:List Nat)(V:Nat->dU)(zM:Nat->Nat)(Ω:Nat->(Nat->dU)->Wq->Prop)(x0:Nat->dU)(ha:a=mk x0)
  (hD:((aU bn.size).map D).Nodup)
  (hA:((aU bn.size).all fun i=>((bn[i]?).map fun o=>o.after.all fun e=>decide (e.on<i) || !iZ .any e).getD true)=true)
  (hC:((aU ch.length).all fun q=>decide (ch.getD q 0<bn.size) && (decide (q=0) || Oh bn (ch.getD q 0) (ch.getD (q - 1) 0)))=true) (hN:ch.Nodup)
  (hL:((aU bn.size).all fun i=>ch.contains i || (decide (ch.length<=zM i) || Oh bn (ch.getD (zM i) 0) i))=true)
  (h0:∀ W,Below w0.heap.size w0 W->W.heap.size=w0.heap.size->Ω 0 x0 W)
  (ins:∀ p x x' W,(∀ q,q<ch.length->x' (D (ch.getD q 0))=x (D (ch.getD q 0)))->Ω p x W->Ω p x' W)
  (pure:∀ i,i<bn.size->i ∉ ch->∀ p x W,p<=zM i->Ω p x W->(∀ k,k ∉ ch->k<bn.size->Oh bn i k=true->x (D k)=V k)->wpOp P bn Q i (fun a' W'=>a'=mk (Eu x (D i) (V i))/\W'=W) (mk x) W)
  (step:∀ q,q<ch.length->∀ x W,Ω q x W->(∀ k,k ∉ ch->k<bn.size->Oh bn (ch.getD q 0) k=true->x (D k)=V k)->wpOp P bn Q (ch.getD q 0) (fun a' W'=>∃ v,a'=mk (Eu x (D (ch.getD q 0)) v)/\Ω (q+1) (Eu x (D (ch.getD q 0)) v) W') (mk x) W)
  (um:∀ x W,Ω ch.length x W->(∀ i,i<bn.size->i ∉ ch->x (D i)=V i)->Q .normal (mk x) W):(Code.region id bn true).wp P Q a w0:=by
 have OC:∀ i j,i<bn.size->j<bn.size->D i=D j->i=j:=fun i j hi hj he=>by
  have h1:((aU bn.size).map D)[i]'(by simpa using hi)=((aU bn.size).map D)[j]'(by simpa using hj):=by simpa using he
  exact(iU hD).1 h1
 have ZN:∀ q,q<ch.length->ch.getD q 0<bn.size/\(q=0\/Oh bn (ch.getD q 0) (ch.getD (q - 1) 0)=true):=fun q hq=>by
  have:=iR.1 hC q (by simpa using hq)
  rw[cO,pX] at this
  exact⟨by simpa using this.1,this.2.imp (fun h=>by simpa using h) _root_.id⟩
 have JA:∀ i,i∈ch->∃ q,q<ch.length/\ch.getD q 0=i:=fun i hi=>by
  obtain⟨q,hq,e⟩:=List.getElem_of_mem hi
  exact⟨q,hq,by rw[List.getD_eq_getElem?_getD,List.getElem?_eq_getElem hq];exact e⟩
 have LW:∀ q,q<ch.length->ch.getD q 0∈ch:=fun q hq=>by
  rw[List.getD_eq_getElem?_getD,List.getElem?_eq_getElem hq];exact bJ hq
 have UY:∀ q q',q<ch.length->q'<ch.length->ch.getD q 0=ch.getD q' 0->q=q':=fun q q' h h' he=>by
  rw[List.getD_eq_getElem?_getD,List.getD_eq_getElem?_getD,List.getElem?_eq_getElem h,List.getElem?_eq_getElem h'] at he
  exact(iU hN).1 (by simpa using he)
 refine Gi hm (fun ag a' W=>(ag.size=bn.size/\∀ j o,bn[j]?=some o->ag.getD j false=true->∀ e∈o.after,iZ .any e=true->ag.getD e.on false=true) /\
  ∃ p x,p<=ch.length/\a'=mk x/\(∀ q,q<ch.length->(ag.getD (ch.getD q 0) false=true ↔ q<p))/\(∀ i,i<bn.size->i ∉ ch->ag.getD i false=true->x (D i)=V i)/\Ω p x W) ?_ ?_ ?_
 ·have hz:∀ i,(Array.replicate bn.size false).getD i false=false:=fun i=>by
   by_cases hi:i<bn.size <;> simp[Array.getD_eq_getD_getElem?,hi]
  refine⟨⟨by simp,fun j o _ hj=>?_⟩,0,x0,aG _,ha,fun q hq=>?_,fun i hi _ h=>?_,h0 _ ((dK _ _).drew) rfl⟩
  ·rw[hz] at hj;cases hj
  ·rw[hz];simp
  ·rw[hz] at h;cases h
 ·rintro ag a' W i hi ⟨⟨hs,hc⟩,p,x,hp,rfl,BJ,hV,hΩ⟩
  obtain⟨h1,h2,o,ho,az⟩:=Fb hi
  rw[a4v (by omega)] at h2
  have wV:∀ j o,bn[j]?=some o->(ag.setIfInBounds i true).getD j false=true->∀ e∈o.after,iZ .any e=true->(ag.setIfInBounds i true).getD e.on false=true:=by
   intro j o' hj hl e vO LZ
   have h3:ag.getD e.on false=true:=by
    by_cases ej:i=j
    ·subst ej
     rw[ho] at hj
     cases hj
     exact az e vO LZ
    ·rw[Nq ej] at hl
     exact hc j o' hj hl e vO LZ
   by_cases ee:i=e.on
   ·rw[<- ee];exact U2 (by omega)
   ·rw[Nq ee];exact h3
  have zQ:(ag.setIfInBounds i true).size=bn.size:=by simpa using hs
  have BH:∀ k,k ∉ ch->k<bn.size->Oh bn i k=true->x (D k)=V k:=fun k hk hks he=>hV k hks hk (Ov ho az he)
  by_cases vz:i∈ch
  ·obtain⟨q,hq,rfl⟩:=JA i vz
   have hqp:q=p:=by
    have h3:¬ q<p:=fun h=>by rw[(BJ q hq).2 h] at h2;cases h2
    rcases (ZN q hq).2 with h|h
    ·omega
    ·by_cases FZ:q=0
     ·omega
     ·have:=Ov ho az h
      have:=(BJ (q - 1) (by omega)).1 this
      omega
   subst hqp
   refine wpOp_mono ?_ (step q hq x W hΩ BH)
   rintro BN W' ⟨v,rfl,hΩ'⟩
   refine⟨⟨zQ,wV⟩,q+1,_,hq,rfl,fun r hr=>?_,fun j hj UN hl=>?_,hΩ'⟩
   ·by_cases e:r=q
    ·subst e
     rw[U2 (by omega)]
     simp
    ·rw[Nq (fun h=>e (UY r q hr hq h.symm)),BJ r hr]
     omega
   ·have iw:j≠ch.getD q 0:=fun e=>UN (by rw[e];exact vz)
    rw[Nq (fun h=>iw h.symm)] at hl
    have:D j≠D (ch.getD q 0):=fun e=>iw (OC _ _ hj h1 e)
    simp only[Eu,ae this]
    exact hV j hj UN hl
  ·have hlim:p<=zM i:=by
    have h3:=iR.1 hL i (by simpa using h1)
    rw[pX,pX] at h3
    rcases h3 with h|h|h
    ·exact absurd (by simpa using h) vz
    ·have:ch.length<=zM i:=by simpa using h
     omega
    ·refine Classical.byContradiction fun hn=>?_
     have hlp:zM i<p:=by omega
     have hl:=(BJ (zM i) (by omega)).2 hlp
     have hoj:bn[ch.getD (zM i) 0]?=some (bn[ch.getD (zM i) 0]'(ZN _ (by omega)).1):=Array.getElem?_eq_getElem _
     have:=Ov hoj (hc _ _ hoj hl) h
     rw[this] at h2
     cases h2
   refine wpOp_mono ?_ (pure i h1 vz p x W hlim hΩ BH)
   rintro BN W' ⟨rfl,rfl⟩
   refine⟨⟨zQ,wV⟩,p,_,hp,rfl,fun r hr=>?_,fun j hj UN hl=>?_,ins p x _ W' (fun q hq=>?_) hΩ⟩
   ·have iw:ch.getD r 0≠i:=fun e=>vz (by rw[<- e];exact LW r hr)
    rw[Nq (fun h=>iw h.symm)]
    exact BJ r hr
   rotate_left
   ·have iw:D (ch.getD q 0)≠D i:=fun e=>vz (by rw[<- OC _ _ (ZN q hq).1 h1 e];exact LW q hq)
    simp only[Eu,ae iw]
   ·by_cases e:j=i
    ·subst e;simp[Eu]
    ·have:D j≠D i:=fun h=>e (OC _ _ hj h1 h)
     rw[Nq (fun h=>e h.symm)] at hl
     simp only[Eu,ae this]
     exact hV j hj UN hl
 ·rintro ag a' W hr ⟨⟨hs,hc⟩,p,x,hp,rfl,BJ,hV,hΩ⟩
  have all:=Ot hr hs hA
  have hpE:p=ch.length:=by
   refine Classical.byContradiction fun hn=>?_
   have h1:=all _ (ch.getD p 0) (oV _) (ZN p (by omega)).1
   have:=(BJ p (by omega)).1 h1
   omega
  subst hpE
  exact um x W hΩ (fun i hi vz=>hV i hi vz (all _ i (oV _) hi))
end
section
open Go RowKit
def mkA(a:Act)(D:List Nat)(x:Nat->dU):Act:=D.foldl (fun b d=>b.put (some d) (x d)) a
theorem Js(D:List Nat)(x:Nat->dU):∀ (a:Act) (k:Nat),(mkA a D x).tmps[k]?=if k∈D/\k<a.tmps.size then some (x k) else a.tmps[k]?:=by
 induction D with
 | nil=>intro a k;simp[mkA]
 | cons d D ih =>
  intro a k
  show (mkA (a.put (some d) (x d)) D x).tmps[k]?=_
  rw[ih]
  simp only[Act.put,Array.size_setIfInBounds,Array.getElem?_setIfInBounds,aZ]
  by_cases h1:k<a.tmps.size
  ·by_cases h2:k∈D
   ·simp[h1,h2]
   ·by_cases h3:k=d
    ·subst h3;simp[h1,h2]
    ·have:¬ d=k:=fun e=>h3 e.symm
     simp[h1,h2,h3,this]
  ·by_cases h3:d=k
   ·subst h3;simp[h1]
   ·simp[h1,h3]
theorem L8(D:List Nat)(x:Nat->dU):∀ a:Act,(mkA a D x).defers=a.defers:=by
 induction D with
 | nil=>intro a;rfl
 | cons d D ih=>intro a;exact ih _
theorem Zk(h:∀ k:Nat,a.tmps[k]?=b.tmps[k]?)(hd:a.defers=b.defers):a=b:=by
 obtain⟨s,d⟩:=a
 obtain⟨s',d'⟩:=b
 have e:s=s':=Array.ext_getElem? h
 dsimp only at hd
 rw[e,hd]
theorem Tv(a:Act)(D:List Nat):a=mkA a D (fun d=>a.tmps.getD d Uz):=by
 refine Zk (fun k=>?_) (L8 _ _ _).symm
 rw[Js]
 split
 ·rename_i h;simp[Array.getD_eq_getD_getElem?,h.2]
 ·rfl
theorem Vr{x:Nat->dU}{d:Nat}(h:d∈D)(v:dU):(mkA a D x).put (some d) v=mkA a D (Eu x d v):=by
 refine Zk (fun k=>?_) ((L8 _ _ _).trans (L8 _ _ _).symm)
 have hs:(mkA a D x).tmps.size=a.tmps.size:=by
  have h1:=Js D x a
  refine Nat.le_antisymm (oW fun hh=>?_) (oW fun hh=>?_)
  ·have:=h1 a.tmps.size
   rw[ae (by omega),Array.getElem?_eq_none (aC _),Array.getElem?_eq_getElem hh] at this
   cases this
  ·have:=h1 (mkA a D x).tmps.size
   rw[Array.getElem?_eq_none (aC _),Array.getElem?_eq_getElem hh] at this
   split at this <;> cases this
 show ((mkA a D x).tmps.setIfInBounds d v)[k]?=_
 rw[Array.getElem?_setIfInBounds,Js,Js,hs]
 by_cases e:d=k
 ·subst e
  by_cases hk:d<a.tmps.size <;> simp[hk,h,Eu]
 ·have e':¬ k=d:=fun h=>e h.symm
  simp[e,Eu,e']
theorem b3v{x:Nat->dU}{d:Nat}(h:d ∉ D)(v:dU):mkA a D x=mkA a D (Eu x d v):=by
 refine Zk (fun k=>?_) ((L8 _ _ _).trans (L8 _ _ _).symm)
 rw[Js,Js]
 by_cases e:k=d
 ·subst e;simp[h]
 ·simp[Eu,e]
theorem b0n{x:Nat->dU}{k:Nat}(h:(D.contains k && decide (k<a.tmps.size))=true):(mkA a D x).eval (.tmp k)=x k:=by
 rw[cO] at h
 show (mkA a D x).tmps.getD k Uz=_
 rw[Array.getD_eq_getD_getElem?,Js,af ⟨by simpa using h.1,by simpa using h.2⟩]
 rfl
theorem a5r{x:Nat->dU}{k:Nat}(h:D.contains k=false):(mkA a D x).eval (.tmp k)=a.eval (.tmp k):=by
 show (mkA a D x).tmps.getD k Uz=a.tmps.getD k Uz
 rw[Array.getD_eq_getD_getElem?,Js,ae (fun hh=>by simp at h;exact h hh.1),Array.getD_eq_getD_getElem?]
theorem b4y{w:Wq}{K:Act->Wq->Prop}(hi:bn[i]?=some o)(hg:o.guard=none)(h:o.wp P a w K Q):wpOp P bn Q i K a w:=by
 unfold wpOp
 have hw:iY o (yielded bn a.tmps)=true:=by unfold iY;rw[hg]
 simp only[hi,hw,if_true]
 exact .inl h
def okA(bn:Array Oper)(D Dr:List Nat)(i:Nat)(o:Oper):Bool :=
 o.guard.isNone && (o.after.all fun e=>decide (e.on<i) || !iZ .any e) && match o.dst with|some d=>d==D.getD i 0 && Dr.contains d|none=>!Dr.contains (D.getD i 0)
theorem Iq(hm:P.follows .mixedOrders=true)(D Dr ch zM:List Nat)(V:List dU)(Ω:Nat->(Nat->dU)->Wq->Prop)
  (hB:(decide (((aU bn.size).map fun i=>D.getD i 0).Nodup) && ((aU bn.size).all fun i=>((bn[i]?).map (okA bn D Dr i)).getD true) && decide ch.Nodup
   && ((aU ch.length).all fun q=>decide (ch.getD q 0<bn.size) && (decide (q=0) || Oh bn (ch.getD q 0) (ch.getD (q - 1) 0)))
   && ((aU bn.size).all fun i=>ch.contains i || (decide (ch.length<=zM.getD i 0) || Oh bn (ch.getD (zM.getD i 0) 0) i)))=true)
  (h0:∀ W,Below w0.heap.size w0 W->W.heap.size=w0.heap.size->Ω 0 (fun d=>a.tmps.getD d Uz) W)
  (ins:∀ p x x' W,(∀ q,q<ch.length->x' (D.getD (ch.getD q 0) 0)=x (D.getD (ch.getD q 0) 0))->Ω p x W->Ω p x' W)
  (pure:∀ i,i<bn.size->i ∉ ch->∀ p x W,p<=zM.getD i 0->Ω p x W->(∀ k,k ∉ ch->k<bn.size->Oh bn i k=true->x (D.getD k 0)=V.getD k Uz)->∀ o,bn[i]?=some o->(kD (mkA a Dr x).eval o).run P W=.ok (.value (V.getD i Uz)) W)
  (step:∀ q,q<ch.length->∀ x W,Ω q x W->(∀ k,k ∉ ch->k<bn.size->Oh bn (ch.getD q 0) k=true->x (D.getD k 0)=V.getD k Uz)->∀ o,bn[ch.getD q 0]?=some o->o.wp P (mkA a Dr x) W (fun a' W'=>∃ v,a'=(mkA a Dr x).put o.dst v/\Ω (q+1) (Eu x (D.getD (ch.getD q 0) 0) v) W') Q)
  (um:∀ x W,Ω ch.length x W->(∀ i,i<bn.size->i ∉ ch->x (D.getD i 0)=V.getD i Uz)->Q .normal (mkA a Dr x) W):(Code.region id bn true).wp P Q a w0:=by
 simp only[cO,decide_eq_true_eq] at hB
 obtain⟨⟨⟨⟨hD,hO⟩,hN⟩,hC⟩,hL⟩:=hB
 have qh:∀ i o,bn[i]?=some o->o.guard=none/\(o.after.all fun e=>decide (e.on<i) || !iZ .any e)=true/\∀ x v,(mkA a Dr x).put o.dst v=mkA a Dr (Eu x (D.getD i 0) v):=fun i o ho=>by
  have hi:i<bn.size:=by
   rcases Nat.lt_or_ge i bn.size with h|h
   ·exact h
   ·rw[Array.getElem?_eq_none h] at ho;cases ho
  have h1:=iR.1 hO i (by simpa using hi)
  rw[ho] at h1
  simp only[jD,jC,okA,cO] at h1
  refine⟨by simpa using h1.1.1,h1.1.2,fun x v=>?_⟩
  have h2:=h1.2
  cases hd:o.dst with
  | some d =>
   rw[hd] at h2
   simp only[cO] at h2
   have e:d=D.getD i 0:=by simpa using h2.1
   rw[<- e]
   exact Vr (by simpa using h2.2) v
  | none =>
   rw[hd] at h2
   exact b3v (by simpa using h2) v
 have zL:∀ i,i<bn.size->∃ o,bn[i]?=some o:=fun i hi=>⟨_,Array.getElem?_eq_getElem hi⟩
 refine Y9 hm (mkA a Dr) (fun i=>D.getD i 0) ch (fun i=>V.getD i Uz) (fun i=>zM.getD i 0) Ω (fun d=>a.tmps.getD d Uz) (Tv a Dr) hD ?_ hC hN hL h0 ins ?_ ?_ um
 ·refine iR.2 fun i hi=>?_
  cases ho:bn[i]? with
  | none=>rfl
  | some o=>exact(qh i o ho).2.1
 ·intro i hi vz p x W hp hΩ BH
  obtain⟨o,ho⟩:=zL i hi
  obtain⟨g1,-,g3⟩:=qh i o ho
  exact Ad ho (by unfold iY;rw[g1]) (pure i hi vz p x W hp hΩ BH o ho) ⟨g3 x _,rfl⟩
 ·intro q hq x W hΩ BH
  have hc:=iR.1 hC q (by simpa using hq)
  rw[cO] at hc
  obtain⟨o,ho⟩:=zL (ch.getD q 0) (by simpa using hc.1)
  obtain⟨g1,-,g3⟩:=qh _ o ho
  refine b4y ho g1 (Oper.wp_mono ?_ (step q hq x W hΩ BH o ho))
  rintro a' W' ⟨v,rfl,h⟩
  exact⟨v,g3 x v,h⟩
end
section
open ChangeShapes WideShapes ChangeAt RowKit Joins Maps
structure a2t(w:Wq)(lo:Nat)(v:dU)(l:List (Tk × TkV)):Prop where
 row:w.ownsRow lo 49 16 v l.length (Fg l)
 u:∀ p∈l,w.ownsRow lo 3 1 (Y p.2.aH p.1.u.length p.2.cH) p.1.u.length (encI p.1.u)
 t:∀ p∈l,Ea w lo p.2.aK p.2.cK p.1.f.t
 dj:∀ i j (hi:i<l.length) (hj:j<l.length),i≠j->∀ a b,l[i].2.aH=some a->l[j].2.aH=some b->a.block≠b.block
theorem b2n(w:Wq)(lo:Nat):a2t w lo (Y none 0 0) []:=⟨World.ownsRow_nil w lo 49 16,(fun _ h=>by cases h),(fun _ h=>by cases h),(fun i j h=>by cases h)⟩
theorem a2t.snoc{w w':Wq}{lo X:Nat}{v v':dU}{l:List (Tk × TkV)}{cs:Array dU}(T:a2t w lo v l)(hX:w.heap[X]?=some (.cells cs 28 (0,0)))(hs:∀ k,k<w.heap.size->k≠X->v.ownBlock≠some k->w'.heap[k]?=w.heap[k]?)(hlo:lo<=w.heap.size)
  {t:Tk} {p:TkV} (row:w'.ownsRow lo 49 16 v' (l.length+1) (Fg l++t.enc p)) (hh:w'.ownsRow w.heap.size 3 1 (Y p.aH t.u.length p.cH) t.u.length (encI t.u)) (hk:Ea w' w.heap.size p.aK p.cK t.f.t):a2t w' lo v' (l ++ [(t,p)]):=by
 have EL:∀ q∈l,∀ a b,q.2.aH=some a->p.aH=some b->a.block≠b.block:=fun q hq a b ha hb=>by
  have h1:=T.u q hq
  rw[ha] at h1;rw[hb] at hh
  have:=(h1.lt a.block rfl).2
  have:=(hh.lt b.block rfl).1
  omega
 refine⟨by simpa [Fg] using row,fun q hq=>?_,fun q hq=>?_,fun i j hi hj iw a b ha hb=>?_⟩
 ·rcases pJ.1 hq with h|h
  ·have h1:=T.u q h
   exact Cb h1 fun g hg=>hs g (h1.lt g hg).2 (fun e=>own_ne h1 hX (by decide) (by rw[hg,e])) (fun e=>D9 h1 T.row (by decide) g hg e)
  ·obtain rfl:=pR.1 h
   exact fQ hh hlo
 ·rcases pJ.1 hq with h|h
  ·have h1:=T.t q h
   refine⟨Cb h1.own fun g hg=>hs g (h1.own.lt g hg).2 (fun e=>own_ne h1.own hX (by decide) (by rw[hg,e])) (fun e=>D9 h1.own T.row (by decide) g hg e)⟩
  ·obtain rfl:=pR.1 h
   exact hk.le hlo
 ·have hl:(l ++ [(t,p)]).length=l.length+1:=by simp
  by_cases h1:i<l.length
  ·rw[pK h1] at ha
   by_cases h2:j<l.length
   ·rw[pK h2] at hb
    exact T.dj i j h1 h2 iw a b ha hb
   ·have e2:j=l.length:=by omega
    subst e2
    rw[pO (aC _)] at hb
    exact EL _ (bJ h1) a b ha (by simpa using hb)
  ·have e1:i=l.length:=by omega
   subst e1
   rw[pO (aC _)] at ha
   have h2:j<l.length:=by omega
   rw[pK h2] at hb
   exact(EL _ (bJ h2) b a hb (by simpa using ha)).symm
theorem Rw.kept{w w':Wq}{lo dw X n:Nat}{aS aH aF aL:Option Addr}{cS cH cF cL:Nat}{M:Mm}{v:dU}{xs:List dU}{cs:Array dU}(R:Rw w lo aS aH aF aL cS cH cF cL M)(T:w.ownsRow dw 49 16 v n xs)(hX:w.heap[X]?=some (.cells cs 28 (0,0)))(hs:∀ k,k<w.heap.size->k≠X->v.ownBlock≠some k->w'.heap[k]?=w.heap[k]?)(hz:w.heap.size<=w'.heap.size):Rw w' lo aS aH aF aL cS cH cF cL M :=
 have q:∀ {lo e size n:Nat} {u:dU} {xs:List dU},w.ownsRow lo e size u n xs->e≠28->e≠49->w'.ownsRow lo e size u n xs:=fun {lo e size n u xs} h h1 h2=>Cb h fun g hg=>hs g (h.lt g hg).2 (fun e=>own_ne h hX h1 (by rw[hg,e])) (fun e=>D9 h T h2 g hg e)
 ⟨q R.s (by decide) (by decide),q R.h (by decide) (by decide),q R.f (by decide) (by decide),q R.l (by decide) (by decide),R.hf,R.hl,R.fl,dQ R.lz hz⟩
theorem Xq(base:Nat)(t ty e:dX)(i:TypeInfo)(z:dU)(size bytes:Nat)(ht:Pg.underlying t=some (.slice e))(hi:Pg.info? e=some i)(hz:i.zero=some z)(vk:i.size=size)(vG:i.bytes=bytes)(NK:z.cells.size=size)(qg:0<size)(g:Nat)(jv:W.ownsRow base e size (Y (some ⟨g,0,none⟩) 0 0) 0 [])(ao:Option Addr)(m c:Nat)(jw:List dU)(hl:jw.length=m*size)(hn:ao=none->m=0/\c=0)(sQ:∀ ad,ao=some ad->∀ j u,jw[j]?=some u->W.cell? (ad.add j)=some u)(h1:∀ u∈jw,u.oneCell'=true)(RF:m<=gJ)(uz:m*bytes<=140737488355328)(hb:base<=W.heap.size):∃ v' W',(Builtin.append_ #[t,t] ty #[Y (some ⟨g,0,none⟩) 0 0,Y ao m c]).run Pg W=.ok v' W'/\W'.ownsRow base e size v' m jw/\Below W.heap.size W W':=by
 cases ao with
 | none =>
  obtain⟨rfl,rfl⟩:=hn rfl
  obtain rfl:jw=[]:=bQ (by rw[hl,Nat.zero_mul])
  exact⟨_,_,run_append_owned_none (P:=Pg) W base t ty e i size ht hi _ 0 [] jv,jv,dK _ _⟩
 | some ad =>
  by_cases h0:m=0
  ·subst h0
   obtain rfl:jw=[]:=bQ (by rw[hl,Nat.zero_mul])
   subst vk
   exact⟨_,_,run_append_room_cells (P:=Pg) W t ty e i ht hi g 0 0 0 ad 0 c [] (by simp) (by simp) (by simp) (aC _) (by simp) (by simp),jv,dK _ _⟩
  ·obtain⟨v',w',hr,h2,h3⟩:=run_append_arg_grows (P:=Pg) W t ty e i z size bytes ht hi hz vk vG NK qg ⟨g,0,none⟩ 0 0 [] (by simp) (by simp) ad m c jw hl (sQ ad rfl) (by omega) (by omega) (by rw[dR];exact uz)
   rw[dR,eP] at h2
   exact⟨v',w',hr,fQ h2 hb,(dK _ _).grown h3 (aC _) (fun k h=>by cases h)⟩
theorem Ox{o:Oper}{W W':Wq}{v' vs vx:dU}{t:dX}{s y:Nat}(ho:o.op=.call { callee:=.builtin .append,args:=#[.tmp s,.tmp y],argTypes:=#[t,t] })(hs:a.eval (.tmp s)=vs)(hx:a.eval (.tmp y)=vx)(hr:(Builtin.append_ #[t,t] o.type #[vs,vx]).run Pg W=.ok v' W'):(kD a.eval o).run Pg W=.ok (.value v') W':=by
 unfold kD
 simp only[ho,resolve,invoke,builtin,Sem.run_bind,Sem.run_pure,Result.andThen_ok,List.map_toArray,bK,List.map_nil,hs,hx,hr]
theorem Xm(W:Wq)(e:dX)(size lo:Nat)(h:lo<=W.heap.size):(W.alloc (.cells #[] e)).ownsRow lo e size (Y (some ⟨W.heap.size,0,none⟩) 0 0) 0 [] :=
 ⟨by simp,.inr ⟨W.heap.size,0,#[],rfl,h,fP _ _,aC _,by decide,by simp,by simp⟩⟩
def b6n(n X:Nat)(t:Tk)(p:TkV):Nat->dU->Wq->Prop
 | 0,v,W=>∃ g,v=Y (some ⟨g,0,none⟩) 0 0/\W.ownsRow n 3 1 v 0 []
 | 1,v,_=>v=.pointer (some ⟨X,15,none⟩)
 | 2,v,_=>v=Y p.aH t.u.length p.cH
 | 3,v,W=>W.ownsRow n 3 1 v t.u.length (encI t.u)
 | 4,v,W=>∃ g,v=Y (some ⟨g,0,none⟩) 0 0/\W.ownsRow n 30 2 v 0 []
 | 5,v,_=>v=.pointer (some ⟨X,1,none⟩)
 | 6,v,_=>v=.pointer (some ⟨X,12,none⟩)
 | 7,v,_=>v=Y p.aK t.f.t.length p.cK
 | 8,v,W=>W.ownsRow n 30 2 v t.f.t.length (G7 t.f.t)
 | _,v,_=>v=.pointer (some ⟨X,15,none⟩)
theorem a7y(n X:Nat)(t:Tk)(p:TkV):∀ i v w w',b6n n X t p i v w->Below w.heap.size w w'->b6n n X t p i v w'
 | 0,v,w,w',⟨g,e,h⟩,hb=>⟨g,e,own_below h hb⟩
 | 1,v,w,w',h,hb=>h
 | 2,v,w,w',h,hb=>h
 | 3,v,w,w',h,hb=>own_below (show w.ownsRow _ _ _ _ _ _ from h) hb
 | 4,v,w,w',⟨g,e,h⟩,hb=>⟨g,e,own_below h hb⟩
 | 5,v,w,w',h,hb=>h
 | 6,v,w,w',h,hb=>h
 | 7,v,w,w',h,hb=>h
 | 8,v,w,w',h,hb=>own_below (show w.ownsRow _ _ _ _ _ _ from h) hb
 | _+9,v,w,w',h,hb=>h
def b5k(w:Wq)(M:Mm)(ts:List Tk)(e:Ending)(w':Wq):Prop :=
 ∃ gS gH gF gL kS kH kF kL aT cT l' dw,e=.returned (.agg #[Y gS M.s.length kS,Y gH M.h.length kH,Y gF M.f.length kF,Y gL M.l.length kL,O J M.w,Y aT (List.length l') cT]) /\
  Rw w' w.heap.size gS gH gF gL kS kH kF kL M/\LoM dw gS gH gF gL/\a2t w' dw (Y aT (List.length l') cT) l'/\l'.map (·.1)=ts/\w.heap.size<=dw/\Below w.heap.size w w'
theorem Zv(M:Mm)(l:List (Tk × TkV))(aS aH aF aL:Option Addr)(cS cH cF cL:Nat)(aT:Option Addr)(cT:Nat)(w:Wq)(A:At w aS aH aF aL cS cH cF cL M)(r:Gl w aT cT l) :
  aI Pg 14 #[.agg #[Y aS M.s.length cS,Y aH M.h.length cH,Y aF M.f.length cF,Y aL M.l.length cL,O J M.w,Y aT l.length cT]] w (b5k w M (l.map (·.1))):=by
 have m3:=r.max
 obtain⟨ox,jq⟩:∃ o:Obj,o=.cells #[Y aS M.s.length cS,Y aH M.h.length cH,Y aF M.f.length cF,Y aL M.l.length cL,O J M.w,Y aT l.length cT] 28:=⟨_,rfl⟩
 obtain⟨oz,bi⟩:∃ o:Obj,o=.cells #[Y none 0 0,Y none 0 0,Y none 0 0,Y none 0 0,O J 0,Y none 0 0] 28:=⟨_,rfl⟩
 have b0:Below w.heap.size w ((w.alloc ox).alloc oz):=below_alloc2 _ _ _
 have ni:Qi (((w.alloc ox).alloc oz).heap[w.heap.size]?=some ox):=by show _=_;rw[fU _ _ _ (by simp),fP]
 have rC:Qi (((w.alloc ox).alloc oz).heap[w.heap.size+1]?=some oz):=by
  have:=fP (w.alloc ox) oz
  rwa [show (w.alloc ox).heap.size=w.heap.size+1 by simp] at this
 have ul:Qi (At ((w.alloc ox).alloc oz) aS aH aF aL cS cH cF cL M):=A.below b0
 have xh:Qi (Gl w aT cT l):=r
 clear A r
 go_enter func14,ntmps14
 go_wp2_with fail
 rw[<- jq,<- bi]
 generalize (w.alloc ox).alloc oz=W0 at *
 refine(a3r M aS aH aF aL cS cH cF cL W0 ul.o).mono ?_
 rintro e w1 ⟨gS,gH,gF,gL,kS,kH,kF,kL,rfl,hR1,bu⟩
 have ug:Qi (w1.heap[w.heap.size]?=some ox):=(bu.block _ (fC ni.o)).trans ni.o
 have tN:Qi (w1.heap[w.heap.size+1]?=some oz):=(bu.block _ (fC rC.o)).trans rC.o
 have iy:Qi (Below w.heap.size w w1):=b0.trans (bu.mono b0.size)
 have ww:Qi (Rw w1 W0.heap.size gS gH gF gL kS kH kF kL M):=hR1
 have qj:w.heap.size+1<w1.heap.size:=fC tN.o
 have ng:w.heap.size<=W0.heap.size:=b0.size
 clear ni rC ul bu b0 hR1
 subst jq bi
 obtain⟨oo,hoo⟩:∃ o:Obj,o=.cells #[Y gS M.s.length kS,Y gH M.h.length kH,Y gF M.f.length kF,Y gL M.l.length kL,O J M.w,Y none 0 0] 28:=⟨_,rfl⟩
 have uw:Qi ((w1.alloc oo).heap[w1.heap.size]?=some oo):=fP _ _
 have sZ:Qi ((w1.alloc oo).heap[w.heap.size]?=_):=(fU _ _ _ (by omega)).trans ug.o
 have rG:Qi ((w1.alloc oo).heap[w.heap.size+1]?=_):=(fU _ _ _ (by omega)).trans tN.o
 have AC:Qi (Rw (w1.alloc oo) w.heap.size gS gH gF gL kS kH kF kL M):=by
  have h:=ww.o.below (A7 w1 oo)
  exact⟨fQ h.s ng,fQ h.h ng,fQ h.f ng,fQ h.l ng,h.hf,h.hl,h.fl,dQ ng h.lz⟩
 have DR:Qi (LoM w1.heap.size gS gH gF gL):=ww.o.lom
 have rJ:Qi (Below w.heap.size w (w1.alloc oo)):=iy.o.alloc iy.o.size _
 have pq:(w1.alloc oo).heap.size=w1.heap.size+1:=by simp
 obtain⟨q0,q1,q2,q3,q4,q5,qs⟩:=Bh sZ.o
 clear ug tN iy ww
 obtain⟨W2,tu⟩:∃ W2,W2=w1.alloc oo:=⟨_,rfl⟩
 rw[<- tu] at uw sZ rG AC rJ pq q0 q1 q2 q3 q4 q5 qs
 subst hoo
 have uY:Qi (W2=w1.alloc (.cells #[Y gS M.s.length kS,Y gH M.h.length kH,Y gF M.f.length kF,Y gL M.l.length kL,O J M.w,Y none 0 0] 28)):=tu
 clear tu
 go_wp2_with (first|(rw[<- uY.o];clear uY))
 clear q0 q1 q2 q3 q4 q5 qs sZ
 go_loopw [13] (fun i wr=>∃ (k:Nat) (lk:List (Tk × TkV)) (v:dU),k<=l.length/\i=O J k/\lk.length=k/\Qi (lk.map (·.1)=(l.take k).map (·.1))/\Qi (wr.heap[w1.heap.size]?=some (.cells #[Y gS M.s.length kS,Y gH M.h.length kH,Y gF M.f.length kF,Y gL M.l.length kL,O J M.w,v] 28 (0,0)))/\Qi (wr.heap[w.heap.size+1]?=some (.cells #[Y none 0 0,Y none 0 0,Y none 0 0,Y none 0 0,O J 0,Y none 0 0] 28 (0,0)))/\Qi (Rw wr w.heap.size gS gH gF gL kS kH kF kL M)/\Qi (a2t wr w1.heap.size v lk)/\Qi (Below w.heap.size w wr))
  (fun i _=>l.length - (intOf i).toNat)
 case atStart=>exact⟨0,[],Y none 0 0,aG _,rfl,rfl,rfl,uw,rG,AC,b2n _ _,rJ⟩
 case round =>
  obtain⟨k,lk,v,hk,rfl,tJ,HM,HO,HZ,HR,HT,HB⟩:=hrel
  clear uw rG AC rJ
  by_cases gm:k<l.length
  ·obtain⟨b,o,rfl⟩:=xh.o.addr (by omega)
   have xg:=xh.o.below HB.o
   have hI:=xg.u _ (bJ gm)
   have hK:=xg.t _ (bJ gm)
   have AV:=xg.range gm
   have gy:b<wr.heap.size:=cell_lt (xg.cells gm).1
   have HMk:Qi ((l.take (k+1)).map (·.1)=(l.take k).map (·.1) ++ [l[k].1]):=by show _=_;rw[List.take_add_one,List.getElem?_eq_getElem gm,bG];rfl
   generalize l[k]=p at *
   obtain⟨t,p⟩:=p
   dsimp only at hI hK AV HMk
   have lT:Qi (wr.rangeAt b (o+k*16) (t.enc p)):=AV
   obtain⟨ot,QH⟩:∃ o:Obj,o=.cells #[.bool t.b,O J t.f.c.k,O J t.f.c.a,O J t.f.c.b,O J t.f.c.t,O J t.f.c.q,O J t.f.c.h,O J t.f.l,O J t.f.u,O J t.f.p,O J t.f.h,O J t.f.n,Y p.aK t.f.t.length p.cK,.bool t.f.d,O J t.f.e,Y p.aH t.u.length p.cH] 49:=⟨_,rfl⟩
   have qY:Qi ((wr.alloc ot).heap[wr.heap.size]?=some ot):=fP _ _
   have dm:Below wr.heap.size wr (wr.alloc ot):=A7 _ _
   obtain⟨W3,zX⟩:∃ W3,W3=wr.alloc ot:=⟨_,rfl⟩
   have QE:W3.heap.size=wr.heap.size+1:=by rw[zX];simp
   rw[<- zX] at qY dm
   have HI3:Qi (Dk W3 p.aH p.cH t.u):=hI.below dm
   have SC:Qi (Az W3 p.aK p.cK t.f.t):=hK.below dm
   have vH:Qi (Below wr.heap.size wr W3):=dm
   clear dm hI hK AV xg
   subst QH
   have WV:Qi (W3=wr.alloc (.cells #[.bool t.b,O J t.f.c.k,O J t.f.c.a,O J t.f.c.b,O J t.f.c.t,O J t.f.c.q,O J t.f.c.h,O J t.f.l,O J t.f.u,O J t.f.p,O J t.f.h,O J t.f.n,Y p.aK t.f.t.length p.cK,.bool t.f.d,O J t.f.e,Y p.aH t.u.length p.cH] 49)):=zX
   clear zX
   go_wp2_with (first|(have h9:=lT.o;refine a2r rfl _ rfl rfl h9 ?_;clear h9 lT)|(rw[<- WV.o];clear WV))
   rename_i K0 qO
   obtain⟨TP,UQ,DZ,DY,DX⟩:=gG iI
   obtain⟨iK0,hiK,hzK0,hzK1,hzK2⟩:=gG iK
   refine Y1 (by kernel_rfl) (fun x=>⟨#[.agg #[Y aS M.s.length cS,Y aH M.h.length cH,Y aF M.f.length cF,Y aL M.l.length cL,O J M.w,Y (some ⟨b,o,none⟩) l.length cT],.pointer (some ⟨w.heap.size,0,none⟩),.pointer (some ⟨w.heap.size+1,0,none⟩),.pointer (some ⟨w1.heap.size,0,none⟩),Uz,.pointer (some ⟨wr.heap.size,0,none⟩),.pointer (some ⟨w.heap.size,0,none⟩),.agg #[Y aS M.s.length cS,Y aH M.h.length cH,Y aF M.f.length cF,Y aL M.l.length cL,O J M.w],.agg #[Y gS M.s.length kS,Y gH M.h.length kH,Y gF M.f.length kF,Y gL M.l.length kL,O J M.w],.agg #[Y gS M.s.length kS,Y gH M.h.length kH,Y gF M.f.length kF,Y gL M.l.length kL,O J M.w,Y none 0 0],.pointer (some ⟨w.heap.size,5,none⟩),Y (some ⟨b,o,none⟩) l.length cT,O J (l.length:Int),O J (k:Int),.bool true,.pointer (some ⟨b,o+k*16,none⟩),.agg #[.bool t.b,O J t.f.c.k,O J t.f.c.a,O J t.f.c.b,O J t.f.c.t,O J t.f.c.q,O J t.f.c.h,O J t.f.l,O J t.f.u,O J t.f.p,O J t.f.h,O J t.f.n,Y p.aK t.f.t.length p.cK,.bool t.f.d,O J t.f.e,Y p.aH t.u.length p.cH],x 17,x 18,x 19,x 20,x 21,x 22,x 23,x 24,x 25,x 26,x 27,x 28,u29,u30,u31,u32,u33,u34,u35,Uz],[]⟩) rfl [17,18,19,20,21,22,23,24,25,26] (by decide) 10 3 rfl rfl (by kernel_rfl) (by kernel_rfl) (by kernel_rfl) (b6n W3.heap.size wr.heap.size t p) (a7y _ _ _ _) ?_ ?_
   ·intro i hi x V hb ku az
    have MH:=(hb.block _ (fC qY.o)).trans qY.o
    obtain⟨t0,t1,t2,t3,t4,t5,t6,t7,t8,t9,SX,SV,ND,SS,SQ,DW,ts⟩:=a2g MH
    have hI:=HI3.o.below hb
    have hK:=SC.o.below hb
    have hz:=hb.size
    obtain rfl|rfl|rfl|rfl|rfl|rfl|rfl|rfl|rfl|rfl:i=0\/i=1\/i=2\/i=3\/i=4\/i=5\/i=6\/i=7\/i=8\/i=9:=by omega
    ·exact Ad rfl (Ag rfl) (v:=Y (some ⟨V.heap.size,0,none⟩) 0 0) (w':=V.alloc (.cells #[] 3)) (by simp only[kD];simp[go_sem]) ⟨_,rfl,⟨_,rfl,Xm V 3 1 _ hz⟩,A7 _ _⟩
    ·exact Ad rfl (Ag rfl) (v:=.pointer (some ⟨wr.heap.size,15,none⟩)) (w':=V) (by simp[kD,go_sem]) ⟨_,rfl,rfl,dK _ _⟩
    ·have p1:x 18=_:=az 1 (by decide) (by kernel_rfl)
     exact Ad rfl (Ag rfl) (v:=Y p.aH t.u.length p.cH) (w':=V) (by simp[kD,go_sem,p1,DW]) ⟨_,rfl,rfl,dK _ _⟩
    ·obtain⟨g,e0,o0⟩:=az 0 (by decide) (by kernel_rfl)
     have e0:x 17=_:=e0
     have p2:x 19=_:=az 2 (by decide) (by kernel_rfl)
     have o0:V.ownsRow _ 3 1 (x 17) 0 []:=o0
     rw[e0] at o0
     have m5:=hI.max
     obtain⟨v',V',hr,h2,h3⟩:=Xq (W:=V) W3.heap.size 23 23 3 TP (O J 0) 1 8 underlying23 UQ DZ DY DX rfl (by decide) g o0 p.aH t.u.length p.cH (encI t.u) ((Dz _).trans (Nat.mul_one _).symm) (fun h=>⟨by have:=hI.nil h;have:=hI.le;omega,hI.nil h⟩) hI.src (Hg _) (by unfold gJ;omega) (by omega) hz
     exact Ad rfl (Ag rfl) (v:=v') (w':=V') (Ox rfl e0 p2 hr) ⟨_,rfl,h2,h3⟩
    ·exact Ad rfl (Ag rfl) (v:=Y (some ⟨V.heap.size,0,none⟩) 0 0) (w':=V.alloc (.cells #[] 30)) (by simp only[kD];simp[go_sem]) ⟨_,rfl,⟨_,rfl,Xm V 30 2 _ hz⟩,A7 _ _⟩
    ·exact Ad rfl (Ag rfl) (v:=.pointer (some ⟨wr.heap.size,1,none⟩)) (w':=V) (by simp[kD,go_sem]) ⟨_,rfl,rfl,dK _ _⟩
    ·have p1:x 22=_:=az 5 (by decide) (by kernel_rfl)
     exact Ad rfl (Ag rfl) (v:=.pointer (some ⟨wr.heap.size,12,none⟩)) (w':=V) (by simp[kD,go_sem,p1]) ⟨_,rfl,rfl,dK _ _⟩
    ·have p1:x 23=_:=az 6 (by decide) (by kernel_rfl)
     exact Ad rfl (Ag rfl) (v:=Y p.aK t.f.t.length p.cK) (w':=V) (by simp[kD,go_sem,p1,ND]) ⟨_,rfl,rfl,dK _ _⟩
    ·obtain⟨g,e0,o0⟩:=az 4 (by decide) (by kernel_rfl)
     have e0:x 21=_:=e0
     have p2:x 24=_:=az 7 (by decide) (by kernel_rfl)
     have o0:V.ownsRow _ 30 2 (x 21) 0 []:=o0
     rw[e0] at o0
     have m5:=hK.max
     obtain⟨v',V',hr,h2,h3⟩:=Xq (W:=V) W3.heap.size 45 45 30 iK0 (.agg #[O J 0,O J 0]) 2 16 underlying45 hiK hzK0 hzK1 hzK2 rfl (by decide) g o0 p.aK t.f.t.length p.cK (G7 t.f.t) (Nc _) (fun h=>⟨by have:=hK.nil h;have:=hK.le;omega,hK.nil h⟩) hK.src (X3 _) (by unfold gJ;omega) (by omega) hz
     exact Ad rfl (Ag rfl) (v:=v') (w':=V') (Ox rfl e0 p2 hr) ⟨_,rfl,h2,h3⟩
    ·exact Ad rfl (Ag rfl) (v:=.pointer (some ⟨wr.heap.size,15,none⟩)) (w':=V) (by simp[kD,go_sem]) ⟨_,rfl,rfl,dK _ _⟩
   ·intro x V hb ku hφ
    have f3:V.ownsRow W3.heap.size 3 1 (x 20) t.u.length (encI t.u):=hφ 3 (by decide)
    have f8:V.ownsRow W3.heap.size 30 2 (x 25) t.f.t.length (G7 t.f.t):=hφ 8 (by decide)
    have f9:x 26=.pointer (some ⟨wr.heap.size,15,none⟩):=hφ 9 (by decide)
    have MH:=(hb.block _ (fC qY.o)).trans qY.o
    obtain⟨rV,sF,e3⟩:=Bg f3
    obtain⟨uf,tZ,e8⟩:=Bg f8
    obtain⟨t0,t1,t2,t3,t4,t5,t6,t7,t8,t9,SX,SV,ND,SS,SQ,DW,ts⟩:=a2g MH
    have QC:=dP MH 15
    refine Kt rfl (Ag rfl) (w':=V.setCell ⟨wr.heap.size,15,none⟩ (Y rV t.u.length sF)) (by simp[kD,go_sem,f9,e3,DW,QC]) ?_
    have T1:(V.setCell ⟨wr.heap.size,15,none⟩ (Y rV t.u.length sF)).heap[wr.heap.size]?=some (.cells #[.bool t.b,O J t.f.c.k,O J t.f.c.a,O J t.f.c.b,O J t.f.c.t,O J t.f.c.q,O J t.f.c.h,O J t.f.l,O J t.f.u,O J t.f.p,O J t.f.h,O J t.f.n,Y (((⟨p.aK,p.cK,rV,sF⟩:TkV)).aK) t.f.t.length (((⟨p.aK,p.cK,rV,sF⟩:TkV)).cK),.bool t.f.d,O J t.f.e,Y ((⟨p.aK,p.cK,rV,sF⟩:TkV)).aH t.u.length ((⟨p.aK,p.cK,rV,sF⟩:TkV)).cH] 49 (0,0)):=by
     have:=dO (i:=15) MH (Y rV t.u.length sF)
     simpa using this
    have Z1:(V.setCell ⟨wr.heap.size,15,none⟩ (Y rV t.u.length sF)).heap.size=V.heap.size:=eQ _ _ _
    have B1:Below wr.heap.size wr (V.setCell ⟨wr.heap.size,15,none⟩ (Y rV t.u.length sF)):=(vH.o.trans (hb.mono (by omega))).setCell (aC _) _
    have O3:(V.setCell ⟨wr.heap.size,15,none⟩ (Y rV t.u.length sF)).ownsRow W3.heap.size 3 1 (Y rV t.u.length sF) t.u.length (encI t.u):=dV (e3 ▸ f3) (own_ne (e3 ▸ f3) MH (by decide)) _
    have O8:(V.setCell ⟨wr.heap.size,15,none⟩ (Y rV t.u.length sF)).ownsRow W3.heap.size 30 2 (Y uf t.f.t.length tZ) t.f.t.length (G7 t.f.t):=dV (e8 ▸ f8) (own_ne (e8 ▸ f8) MH (by decide)) _
    generalize V.setCell ⟨wr.heap.size,15,none⟩ (Y rV t.u.length sF)=V1 at *
    clear t0 t1 t2 t3 t4 t5 t6 t7 t8 t9 SX SV ND SS SQ DW ts QC MH f3 f8 f9
    obtain⟨t0,t1,t2,t3,t4,t5,t6,t7,t8,t9,SX,SV,ND,SS,SQ,DW,ts⟩:=a2g T1
    have YK:=dP T1 12
    refine Ad rfl (Ag rfl) (v:=.pointer (some ⟨wr.heap.size,1,none⟩)) (w':=V1) (by simp[kD,go_sem]) ?_
    refine Ad rfl (Ag rfl) (v:=.pointer (some ⟨wr.heap.size,12,none⟩)) (w':=V1) (by simp[kD,go_sem]) ?_
    refine Kt rfl (Ag rfl) (w':=V1.setCell ⟨wr.heap.size,12,none⟩ (Y uf t.f.t.length tZ)) (by simp[kD,go_sem,e8,ND,YK]) ?_
    have rX:Qi ((V1.setCell ⟨wr.heap.size,12,none⟩ (Y uf t.f.t.length tZ)).heap[wr.heap.size]?=some (.cells #[.bool t.b,O J t.f.c.k,O J t.f.c.a,O J t.f.c.b,O J t.f.c.t,O J t.f.c.q,O J t.f.c.h,O J t.f.l,O J t.f.u,O J t.f.p,O J t.f.h,O J t.f.n,Y (((⟨uf,tZ,rV,sF⟩:TkV)).aK) t.f.t.length (((⟨uf,tZ,rV,sF⟩:TkV)).cK),.bool t.f.d,O J t.f.e,Y ((⟨uf,tZ,rV,sF⟩:TkV)).aH t.u.length ((⟨uf,tZ,rV,sF⟩:TkV)).cH] 49 (0,0))):=by
     have:=dO (i:=12) T1 (Y uf t.f.t.length tZ)
     show _=_
     simpa using this
    have vK:Qi (Below wr.heap.size wr (V1.setCell ⟨wr.heap.size,12,none⟩ (Y uf t.f.t.length tZ))):=B1.setCell (aC _) _
    have yR:Qi ((V1.setCell ⟨wr.heap.size,12,none⟩ (Y uf t.f.t.length tZ)).ownsRow W3.heap.size 3 1 (Y rV t.u.length sF) t.u.length (encI t.u)):=dV O3 (own_ne O3 T1 (by decide)) _
    have PR:Qi (Ea (V1.setCell ⟨wr.heap.size,12,none⟩ (Y uf t.f.t.length tZ)) W3.heap.size uf tZ t.f.t):=⟨dV O8 (own_ne O8 T1 (by decide)) _⟩
    clear t0 t1 t2 t3 t4 t5 t6 t7 t8 t9 SX SV ND SS SQ DW ts YK O3 O8 B1 Z1 ku hφ HI3 SC qY vH hb
    refine qO _ _ ?_
    generalize V1.setCell ⟨wr.heap.size,12,none⟩ (Y uf t.f.t.length tZ)=V2 at *
    clear T1 e3 e8
    obtain⟨iT0,hiT,hzT0,hzT1,hzT2⟩:=gG iT
    have yY:w1.heap.size<wr.heap.size:=fC HO.o
    have HOV:V2.heap[w1.heap.size]?=_:=(vK.o.block _ yY).trans HO.o
    obtain⟨y0,y1,y2,y3,y4,y5,ys⟩:=Bh HOV
    have TL:Qi (V2.rangeAt wr.heap.size 0 (t.enc ⟨uf,tZ,rV,sF⟩)):=Aq rX.o rfl
    have HTw:Qi (V2.ownsRow w1.heap.size 49 16 v lk.length (Fg lk)):=Cb HT.o.row fun g hg=>vK.o.block g (HT.o.row.lt g hg).2
    obtain⟨ov,UB⟩:∃ o:Obj,o=.cells #[.bool t.b,O J t.f.c.k,O J t.f.c.a,O J t.f.c.b,O J t.f.c.t,O J t.f.c.q,O J t.f.c.h,O J t.f.l,O J t.f.u,O J t.f.p,O J t.f.h,O J t.f.n,Y (((⟨uf,tZ,rV,sF⟩:TkV)).aK) t.f.t.length (((⟨uf,tZ,rV,sF⟩:TkV)).cK),.bool t.f.d,O J t.f.e,Y ((⟨uf,tZ,rV,sF⟩:TkV)).aH t.u.length ((⟨uf,tZ,rV,sF⟩:TkV)).cH] 49:=⟨_,rfl⟩
    have HC:Qi (∀ j u,(t.enc ⟨uf,tZ,rV,sF⟩)[j]?=some u->(V2.alloc ov).cell? ((⟨V2.heap.size,0,none⟩:Addr).add j)=some u):=fun j u h=>by
     rw[UB,Addr.add_lit,dR]
     exact(dN (fP V2 _) j).trans (by simpa [Tk.enc,Fr.enc] using h)
    have hzV:wr.heap.size+1<=V2.heap.size:=fC rX.o
    have HOW:Qi ((V2.alloc ov).heap[w1.heap.size]?=some (.cells #[Y gS M.s.length kS,Y gH M.h.length kH,Y gF M.f.length kF,Y gL M.l.length kL,O J M.w,v] 28 (0,0))):=(fU _ _ _ ys).trans HOV
    have KE:Qi ((V2.alloc ov).ownsRow w1.heap.size 49 16 v lk.length (Fg lk)):=HTw.o.alloc _
    have YC:Qi (Below wr.heap.size wr (V2.alloc ov)):=vK.o.alloc (by omega) _
    have YH:Qi ((V2.alloc ov).ownsRow W3.heap.size 3 1 (Y rV t.u.length sF) t.u.length (encI t.u)):=yR.o.alloc _
    have YG:Qi (Ea (V2.alloc ov) W3.heap.size uf tZ t.f.t):=PR.o.below (A7 _ _)
    have hza:(V2.alloc ov).heap.size=V2.heap.size+1:=by simp
    obtain⟨V3,hV3⟩:∃ V3,V3=V2.alloc ov:=⟨_,rfl⟩
    rw[<- hV3] at HC HOW KE YC YH YG hza
    subst UB
    have HV3:Qi (V3=V2.alloc (.cells #[.bool t.b,O J t.f.c.k,O J t.f.c.a,O J t.f.c.b,O J t.f.c.t,O J t.f.c.q,O J t.f.c.h,O J t.f.l,O J t.f.u,O J t.f.p,O J t.f.h,O J t.f.n,Y (((⟨uf,tZ,rV,sF⟩:TkV)).aK) t.f.t.length (((⟨uf,tZ,rV,sF⟩:TkV)).cK),.bool t.f.d,O J t.f.e,Y ((⟨uf,tZ,rV,sF⟩:TkV)).aH t.u.length ((⟨uf,tZ,rV,sF⟩:TkV)).cH] 49)):=hV3
    clear hV3 HTw yR PR vK rX HOV
    have hlk2:lk.length=k:=tJ
    have H6:Qi (∀ v6 w6,w6.ownsRow w1.heap.size 49 16 v6 (lk.length+1) (Fg lk++t.enc ⟨uf,tZ,rV,sF⟩)->V3.grownBy w6 v.ownBlock->w6.heap[w1.heap.size]?=some (.cells #[Y gS M.s.length kS,Y gH M.h.length kH,Y gF M.f.length kF,Y gL M.l.length kL,O J M.w,v] 28 (0,0)) /\
      (∀ k,k<wr.heap.size->k≠w1.heap.size->v.ownBlock≠some k->(w6.setCell ⟨w1.heap.size,5,none⟩ v6).heap[k]?=wr.heap[k]?)/\(w6.setCell ⟨w1.heap.size,5,none⟩ v6).ownsRow W3.heap.size 3 1 (Y rV t.u.length sF) t.u.length (encI t.u)/\Ea (w6.setCell ⟨w1.heap.size,5,none⟩ v6) W3.heap.size uf tZ t.f.t/\(w6.setCell ⟨w1.heap.size,5,none⟩ v6).ownsRow w1.heap.size 49 16 v6 (lk.length+1) (Fg lk++t.enc ⟨uf,tZ,rV,sF⟩)):=fun v6 w6 ho hg=>by
     have JL:w6.heap[w1.heap.size]?=some (.cells #[Y gS M.s.length kS,Y gH M.h.length kH,Y gF M.f.length kF,Y gL M.l.length kL,O J M.w,v] 28 (0,0)):=(hg.block _ (by omega) (own_ne KE.o HOW.o (by decide)).symm).trans HOW.o
     have o3:w6.ownsRow W3.heap.size 3 1 (Y rV t.u.length sF) t.u.length (encI t.u):=Cb YH.o fun g h=>hg.block g (YH.o.lt g h).2 (fun e=>D9 YH.o KE.o (by decide) g h e.symm)
     have o8:w6.ownsRow W3.heap.size 30 2 (Y uf t.f.t.length tZ) t.f.t.length (G7 t.f.t):=Cb YG.o.own fun g h=>hg.block g (YG.o.own.lt g h).2 (fun e=>D9 YG.o.own KE.o (by decide) g h e.symm)
     exact⟨JL,fun k hk iw hv=>(dM _ _ _ _ (by dsimp only;exact iw)).trans ((hg.block k (by omega) hv.symm).trans (YC.o.block k hk)),dV o3 (own_ne o3 JL (by decide)) _,⟨dV o8 (own_ne o8 JL (by decide)) _⟩,dV ho (own_ne ho JL (by decide)) _⟩
    dsimp only[Act.put]
    go_wp2_with (first|(have h9:=TL.o;refine a2r rfl (.tmp 5) rfl rfl h9 ?_;clear h9 TL)|(rw[<- HV3.o];clear HV3)|(at_builtin;refine wpList_append_own_at _ rfl (.tmp 30) (.tmp 32) 26 rfl w1.heap.size 49 iT0 (.agg #[.bool false,O J 0,O J 0,O J 0,O J 0,O J 0,O J 0,O J 0,O J 0,O J 0,O J 0,O J 0,Y none 0 0,.bool false,O J 0,Y none 0 0]) 16 160 oZ hiT hzT0 hzT1 hzT2 rfl (by decide) v lk.length (Fg lk) rfl KE.o ⟨V2.heap.size,0,none⟩ 1 1 (t.enc ⟨uf,tZ,rV,sF⟩) rfl rfl HC.o (by intro u hu;simp only[Tk.enc,Fr.enc,List.cons_append,eP,aZ,List.not_mem_nil,or_false] at hu;rcases hu with rfl|rfl|rfl|rfl|rfl|rfl|rfl|rfl|rfl|rfl|rfl|rfl|rfl|rfl|rfl|rfl <;> rfl) (by unfold gJ;omega) (by omega) (by omega) ?_;intro v6 w6 NU QO _ _;obtain⟨YU,TV,h36,h86,hr6⟩:=H6.o v6 w6 NU QO;obtain⟨a6,c6,rfl⟩:=Bg NU;have r5:=(dN YU 5).trans rfl;have z5:=dP YU 5;have hz6:V3.heap.size<=w6.heap.size:=QO.size;have Hhx:Qi (w6.heap[w1.heap.size]?=some (.cells #[Y gS M.s.length kS,Y gH M.h.length kH,Y gF M.f.length kF,Y gL M.l.length kL,O J M.w,v] 28 (0,0))):=YU;have Hhs:Qi (∀ k,k<wr.heap.size->k≠w1.heap.size->v.ownBlock≠some k->(w6.setCell ⟨w1.heap.size,5,none⟩ (Y a6 (lk.length+1) c6)).heap[k]?=wr.heap[k]?):=TV;have Hh3:Qi ((w6.setCell ⟨w1.heap.size,5,none⟩ (Y a6 (lk.length+1) c6)).ownsRow W3.heap.size 3 1 (Y rV t.u.length sF) t.u.length (encI t.u)):=h36;have Hh8:Qi (Ea (w6.setCell ⟨w1.heap.size,5,none⟩ (Y a6 (lk.length+1) c6)) W3.heap.size uf tZ t.f.t):=h86;have Hhr:Qi ((w6.setCell ⟨w1.heap.size,5,none⟩ (Y a6 (lk.length+1) c6)).ownsRow w1.heap.size 49 16 (Y a6 (lk.length+1) c6) (lk.length+1) (Fg lk++t.enc ⟨uf,tZ,rV,sF⟩)):=hr6;have Hos:Qi (w6.os=wr.os/\w6.tape=wr.tape/\w6.output=wr.output):=⟨QO.os.trans YC.o.os,QO.tape.trans YC.o.tape,QO.output.trans YC.o.output⟩;clear YU TV h36 h86 hr6 NU QO H6 KE HC HOW YH YG))
    go_roundw
    case rel =>
     clear hlk2
     subst tJ
     have hX6:(w6.setCell ⟨w1.heap.size,5,none⟩ (Y a6 (lk.length+1) c6)).heap[w1.heap.size]?=some (.cells #[Y gS M.s.length kS,Y gH M.h.length kH,Y gF M.f.length kF,Y gL M.l.length kL,O J M.w,Y a6 (lk.length+1) c6] 28 (0,0)):=by
      have:=dO (i:=5) Hhx.o (Y a6 (lk.length+1) c6)
      simpa using this
     have hz7:wr.heap.size<=(w6.setCell ⟨w1.heap.size,5,none⟩ (Y a6 (lk.length+1) c6)).heap.size:=by rw[eQ];omega
     have yj:w1.heap.size<=wr.heap.size:=Nat.le_of_lt yY
     have JD:wr.heap.size<=W3.heap.size:=by omega
     refine⟨lk.length+1,lk ++ [(t,⟨uf,tZ,rV,sF⟩)],_,by omega,by go_num,by simp,?_,hX6,?_,HR.o.kept HT.o.row HO.o Hhs.o hz7,HT.o.snoc HO.o Hhs.o yj Hhr.o (fQ Hh3.o JD) (Hh8.o.le JD),?_⟩
     ·show _=_
      rw[HMk.o,bG,HM.o];rfl
     ·have hzz:=fC HZ.o
      exact(Hhs.o _ hzz (by omega) (fun e=>by have:=(HT.o.row.lt _ e).1;omega)).trans HZ.o
     ·refine⟨Hos.o.1.trans HB.o.os,Hos.o.2.1.trans HB.o.tape,Hos.o.2.2.trans HB.o.output,dQ HB.o.size hz7,fun j hj=>?_⟩
      have:=HB.o.size
      exact(Hhs.o j (by omega) (by omega) (fun e=>by have:=(HT.o.row.lt _ e).1;omega)).trans (HB.o.block j hj)
    case measure=>simp[intOf];omega
  ·have QL:k=l.length:=by omega
   subst QL
   obtain⟨av,cv,rfl⟩:=Bg HT.o.row
   have l6:Qi (wr.rangeAt w1.heap.size 0 [Y gS M.s.length kS,Y gH M.h.length kH,Y gF M.f.length kF,Y gL M.l.length kL,O J M.w,Y av lk.length cv]):=Aq HO.o rfl
   have t6:Qi (wr.there (w.heap.size+1) 0 6):=Be HZ.o (by simp)
   have iw:w1.heap.size≠w.heap.size+1:=by omega
   obtain⟨W9,zV⟩:∃ W9,W9=wr.setCells (w.heap.size+1) 0 [Y gS M.s.length kS,Y gH M.h.length kH,Y gF M.f.length kF,Y gL M.l.length kL,O J M.w,Y av lk.length cv]:=⟨_,rfl⟩
   have IY:∀ j,j≠w.heap.size+1->W9.heap[j]?=wr.heap[j]?:=fun j hj=>by rw[zV];exact Af hj _ _ _
   have HZ9:Qi (W9.heap[w.heap.size+1]?=some (.cells #[Y gS M.s.length kS,Y gH M.h.length kH,Y gF M.f.length kF,Y gL M.l.length kL,O J M.w,Y av lk.length cv] 28 (0,0))):=by show _=_;rw[zV];exact Bi HZ.o rfl
   have hz9:W9.heap.size=wr.heap.size:=by rw[zV];exact setCells_size _ _ _
   have HF:Qi (b5k w M (l.map (·.1)) (.returned (.agg #[Y gS M.s.length kS,Y gH M.h.length kH,Y gF M.f.length kF,Y gL M.l.length kL,O J M.w,Y av lk.length cv])) W9):=by
    have q:∀ {lo e size n:Nat} {u:dU} {xs:List dU},wr.ownsRow lo e size u n xs->e≠28->W9.ownsRow lo e size u n xs:=fun {lo e size n u xs} h he=>Cb h fun g hg=>IY g (fun e'=>own_ne h HZ.o he (by rw[hg,e']))
    have R:=HR.o;have T:=HT.o
    refine⟨gS,gH,gF,gL,kS,kH,kF,kL,av,cv,lk,w1.heap.size,rfl,⟨q R.s (by decide),q R.h (by decide),q R.f (by decide),q R.l (by decide),R.hf,R.hl,R.fl,by rw[hz9];exact R.lz⟩,DR.o,⟨q T.row (by decide),fun p hp=>q (T.u p hp) (by decide),fun p hp=>⟨q (T.t p hp).own (by decide)⟩,T.dj⟩,?_,by omega,?_⟩
    ·rw[HM.o,List.take_length]
    ·rw[zV];exact Bd HB.o (by omega)
   clear HM HO HZ HR HT HB IY hz9
   go_wp2_with (first|(have h9:=l6.o;refine F8 rfl (.tmp 3) rfl rfl h9 ?_;clear h9 l6)|(refine Iu rfl (.tmp 2) (.tmp 36) rfl rfl rfl t6.o (by kernel_rfl) ?_;rw[<- zV];clear zV t6))
   obtain⟨r0,r1,r2,r3,r4,r5,rs⟩:=Bh HZ9.o
   refine gZ (v:=.agg #[Y gS M.s.length kS,Y gH M.h.length kH,Y gF M.f.length kF,Y gL M.l.length kL,O J M.w,Y av lk.length cv]) (by simp[results,results14,go_sem,r0,r1,r2,r3,r4,r5]) rfl HF.o
end
section
open ChangeShapes WideShapes ChangeAt RowKit Joins Deep
theorem Yh:Pg.cellsOf 49=16:=by kernel_rfl
theorem a2z:Pg.cellsOf 26=1:=by kernel_rfl
theorem a3a:Pg.cellsOf 28=6:=by kernel_rfl
theorem a6l:Pg.bytesOf 49=160:=by kernel_rfl
variable {H:Type} {enc:dX × dU->H} {w:Wq}
theorem trod_struct3{x:kJ H × List kG}(ht:P.underlying t=some (.struct #[f0,f1,f2]))(h:kV enc P w base iq kw qR t cs=some x) :
  ∃ y0 y1 y2 n,x.1=.agg [y0.1,y1.1,y2.1]/\cs.length=P.cellsOf t/\kV enc P w base iq kw n f0.type ((cs.drop f0.offset).take (P.cellsOf f0.type))=some y0 /\
   kV enc P w base iq kw n f1.type ((cs.drop f1.offset).take (P.cellsOf f1.type))=some y1/\kV enc P w base iq kw n f2.type ((cs.drop f2.offset).take (P.cellsOf f2.type))=some y2:=by
 obtain⟨xs,n,_,rfl,hl,jb,hf⟩:=kZ ht h
 match xs,jb with
 | [y0,y1,y2],_=>exact⟨y0,y1,y2,n,by simp,hl,by simpa using hf 0 f0 rfl,by simpa using hf 1 f1 rfl,by simpa using hf 2 f2 rfl⟩
theorem a7r{x:kJ H × List kG}(hf:kV enc Pg w 0 (fun _=>true) true qR 25 [c0,c1,c2,c3,c4]=some x)(hz:∀ n∈x.1.weights Pg 25,n<=kE):∃ M,Ans 0 w (.agg #[c0,c1,c2,c3,c4]) M:=by
 obtain⟨y0,y1,y2,y3,y4,n,hx,_,h0,h1,h2,h3,h4⟩:=Oc underlying25 hf
 simp only[cells27,cells24,cells3] at h0 h1 h2 h3 h4
 obtain⟨d,pl⟩:=x
 have hd:d=.agg [y0.1,y1.1,y2.1,y3.1,y4.1]:=hx
 subst hd
 have wB:∀ n,n∈y0.1.weights Pg 22\/n∈y1.1.weights Pg 23\/n∈y2.1.weights Pg 23\/n∈y3.1.weights Pg 23->n<=kE:=fun n hn=>hz n (by
  simp only[kX,underlying25,pU,bK,pJ]
  rcases hn with h|h|h|h
  ·exact .inl h
  ·exact .inr (.inl h)
  ·exact .inr (.inr (.inl h))
  ·exact .inr (.inr (.inr (.inl h))))
 obtain⟨S,aS,cS,rfl,rS⟩:=a7u h0 (fun n hn=>wB n (.inl hn))
 obtain⟨H,aH,cH,rfl,rH⟩:=Q7 h1 (fun n hn=>wB n (.inr (.inl hn)))
 obtain⟨F,aF,cF,rfl,rF⟩:=Q7 h2 (fun n hn=>wB n (.inr (.inr (.inl hn))))
 obtain⟨L,aL,cL,rfl,rL⟩:=Q7 h3 (fun n hn=>wB n (.inr (.inr (.inr hn))))
 obtain⟨je,e,_⟩:=kW lD h4
 simp at e
 subst e
 exact⟨⟨S,H,F,L,je⟩,aS,aH,aF,aL,cS,cH,cF,cL,rfl,⟨rS,rH,rF,rL⟩,⟨fun _ _=>aG _,fun _ _=>aG _,fun _ _=>aG _,fun _ _=>aG _⟩⟩
theorem a1t{x:kJ H × List kG}(hf:kV enc Pg w 0 (fun _=>true) true qR 47 cs=some x)(hz:∀ n∈x.1.weights Pg 47,n<=kE) :
  ∃ (f:Fr) (aK:Option Addr) (cK:Nat),cs=f.enc aK cK/\Az w aK cK f.t:=by
 obtain⟨y0,y1,y2,y3,y4,y5,y6,y7,y8,n,hx,hl,h0,h1,h2,h3,h4,h5,h6,h7,h8⟩:=a0h mO hf
 rw[Wi] at hl
 obtain⟨c0,c1,c2,c3,c4,c5,c6,c7,c8,c9,c10,c11,c12,c13,rfl⟩:=fourteen hl
 simp only[Px,cells3,cells4,a0r,Yf] at h0 h1 h2 h3 h4 h5 h6 h7 h8
 obtain⟨d,pl⟩:=x
 have hd:d=.agg [y0.1,y1.1,y2.1,y3.1,y4.1,y5.1,y6.1,y7.1,y8.1]:=hx
 subst hd
 have wB:∀ n,n∈y6.1.weights Pg 45->n<=kE:=fun n hn=>hz n (by
  simp only[kX,mO,pU,bK,pJ]
  exact .inr (.inr (.inr (.inr (.inr (.inr (.inl hn)))))))
 obtain⟨c,ec⟩:=Ul h0
 obtain⟨pl,e1,_⟩:=kW lD h1
 obtain⟨sU,e2,_⟩:=kW lD h2
 obtain⟨jh,e3,_⟩:=kW lD h3
 obtain⟨jg,e4,_⟩:=kW lD h4
 obtain⟨nn,e5,_⟩:=kW lD h5
 obtain⟨K,aK,cK,e6,rK⟩:=Yz h6 wB
 obtain⟨dn,e7,_⟩:=oK underlying4 h7
 obtain⟨ee,e8,_⟩:=kW underlying36 h8
 simp at ec e1 e2 e3 e4 e5 e7 e8
 obtain⟨rfl,rfl,rfl,rfl,rfl,rfl⟩:=ec
 subst e1 e2 e3 e4 e5 e6 e7 e8
 exact⟨⟨c,pl,sU,jh,jg,nn,K,dn,ee⟩,aK,cK,rfl,rK⟩
theorem a7v{x:kJ H × List kG}(hf:kV enc Pg w 0 (fun _=>true) true qR 49 cs=some x)(hz:∀ n∈x.1.weights Pg 49,n<=kE) :
  ∃ p:Tk × TkV,cs=p.1.enc p.2/\Az w p.2.aK p.2.cK p.1.f.t/\Dk w p.2.aH p.2.cH p.1.u:=by
 obtain⟨y0,y1,y2,n,hx,hl,h0,h1,h2⟩:=trod_struct3 underlying49 hf
 rw[Yh] at hl
 obtain⟨d,pl⟩:=x
 have hd:d=.agg [y0.1,y1.1,y2.1]:=hx
 subst hd
 have wB:∀ n,n∈y1.1.weights Pg 47\/n∈y2.1.weights Pg 23->n<=kE:=fun n hn=>hz n (by
  simp only[kX,underlying49,pU,bK,pJ]
  rcases hn with h|h
  ·exact .inr (.inl h)
  ·exact .inr (.inr (.inl h)))
 simp only[cells4,Wi,cells24] at h0 h1 h2
 match cs,hl with
 | [c0,c1,c2,c3,c4,c5,c6,c7,c8,c9,c10,c11,c12,c13,c14,c15],_ =>
  obtain⟨b,e0,_⟩:=oK underlying4 h0
  obtain⟨f,aK,cK,e1,rK⟩:=a1t h1 (fun n hn=>wB n (.inl hn))
  obtain⟨hd,aH,cH,e2,rH⟩:=Q7 h2 (fun n hn=>wB n (.inr hn))
  refine⟨(⟨b,f,hd⟩,⟨aK,cK,aH,cH⟩),?_,rK,rH⟩
  simp only[List.drop,List.take] at e0 e1
  simp only[List.cons.injEq,and_true] at e0
  show _=Value.bool b :: (f.enc aK cK ++ [.slice aH hd.length cH])
  rw[<- e1,<- e0,<- e2]
  rfl
theorem weightsAll_mem{P:Program}{e:dX}:∀ {a:List (kJ H)} {d:kJ H},d∈a->∀ {n:Nat},n∈d.weights P e->n∈pV P e a
 | x :: a,d,h,n,hn=>by
  unfold pV
  rcases aZ.1 h with rfl|h
  ·exact List.mem_append_left _ hn
  ·exact List.mem_append_right _ (weightsAll_mem h hn)
theorem Y8(ht:P.underlying t=some (.slice e)){a b:List (kJ H)}{d:kJ H}(hd:d∈a){n:Nat}(hn:n∈d.weights P e):n∈(DataW.slice a b).weights P t:=by
 simp only[kX,ht]
 have:=weightsAll_mem hd hn
 simp[this]
theorem a7w{x:kJ H × List kG}(h:kV enc Pg w 0 (fun _=>true) true qR 26 [c]=some x)(hz:∀ n∈x.1.weights Pg 26,n<=kE) :
  ∃ l ao bg,c=.slice ao l.length bg/\Gl w ao bg l:=by
 rcases open_slice oZ h with ⟨e,-⟩|⟨a,len,bg,m,n,D,Pl,e,hb,hl,hm,yG,hx,hc⟩
 ·simp at e
  exact⟨[],none,0,e,a2j w⟩
 ·simp at e yG
  subst e yG
  rw[Yh] at hc
  rw[hx] at hz
  obtain⟨S,hS⟩:=@choose_lt (Tk × TkV) ⟨(⟨false,⟨⟨0,0,0,0,0,0⟩,0,0,0,0,0,[],false,0⟩,[]⟩,⟨none,0,none,0⟩)⟩ len (fun i s=>w.cells? 0 (a.add (i*16)) 16=some (s.1.enc s.2)/\Az w s.2.aK s.2.cK s.1.f.t/\Dk w s.2.aH s.2.cH s.1.u) (fun i hi=>by
   obtain⟨cs',h1,h2⟩:=hc i (by omega)
   obtain⟨s,rfl,r1,r2⟩:=a7v h2 (fun n hn=>hz n (Y8 oZ (mG.2 ⟨i,pM.2 hi,rfl⟩) hn))
   exact⟨s,h1,r1,r2⟩)
  have gm:((aU len).map S).length=len:=by simp
  refine⟨(aU len).map S,some a,m,by rw[gm],by omega,?_,(fun h=>by cases h),?_,fun p hp=>?_,fun p hp=>?_⟩
  ·have:=hz ((len+(m - len))*160) (by simp[kX,oZ,a6l])
   unfold kE at this
   rw[gm]
   omega
  ·by_cases h0:len=0
   ·left;omega
   ·right
    obtain⟨b,off,xq⟩:=a
    have uJ:xq=none:=by
     have:=(World.cells?_some (hS 0 (by omega)).1).2.2 0 (by omega)
     obtain⟨v,hv⟩:=Sv (S 0).1 (S 0).2 (q:=0) (by omega)
     rw[hv] at this
     simpa [Addr.add] using World.cell?_spot this
    subst uJ
    refine⟨b,off,rfl,fun i hi q hq=>?_⟩
    have uN:i<len:=by simpa using hi
    have e:((aU len).map S)[i]=S i:=by simp
    rw[e]
    have:=(World.cells?_some (hS i uN).1).2.2 q hq
    rwa [Addr.add_lit,Addr.add_lit] at this
  ·obtain⟨i,hi,rfl⟩:=mG.1 hp
   exact(hS i (pM.1 hi)).2.1
  ·obtain⟨i,hi,rfl⟩:=mG.1 hp
   exact(hS i (pM.1 hi)).2.2
theorem b6h{d:kJ H}{p:List kG}(hv:pW Pg w r b0 28 v)(h:DataW.Trod enc Pg w 0 (fun _=>true) true 28 v d p)(hz:∀ n∈d.weights Pg 28,n<=kE) :
  ∃ (M:Mm) (l:List (Tk × TkV)) (aS aH aF aL:Option Addr) (cS cH cF cL:Nat) (aT:Option Addr) (cT:Nat),v=.agg #[.slice aS M.s.length cS,.slice aH M.h.length cH,.slice aF M.f.length cF,.slice aL M.l.length cL,.int .i64 M.w,.slice aT l.length cT]/\At w aS aH aF aL cS cH cF cL M/\Gl w aT cT l:=by
 obtain⟨cs,rfl,qg⟩:=okWide_struct pG hv
 obtain⟨l⟩:=cs
 rw[a3a] at qg
 obtain⟨c0,c1,c2,c3,c4,c5,rfl⟩:=six qg
 obtain⟨qR,hf⟩:=h
 obtain⟨z0,z1,m,hx,_,k0,k1⟩:=trod_struct2 pG hf
 simp only[Value.cells,cells29,a2z] at k0 k1
 have hd:d=.agg [z0.1,z1.1]:=congrArg Prod.fst hx
 subst hd
 have wB:∀ n,n∈z0.1.weights Pg 25\/n∈z1.1.weights Pg 26->n<=kE:=fun n hn=>hz n (by
  simp only[kX,pG,pU,bK,pJ]
  rcases hn with h|h
  ·exact .inl h
  ·exact .inr (.inl h))
 obtain⟨M,aS,aH,aF,aL,cS,cH,cF,cL,e,A,-⟩:=a7r (c0:=c0) (c1:=c1) (c2:=c2) (c3:=c3) (c4:=c4) k0 (fun n hn=>wB n (.inl hn))
 obtain⟨l,aT,cT,e5,r⟩:=a7w (c:=c5) k1 (fun n hn=>wB n (.inr hn))
 injection e with e
 simp only[Array.mk.injEq,List.cons.injEq,and_true] at e
 obtain⟨rfl,rfl,rfl,rfl,rfl⟩:=e
 subst e5
 exact⟨M,l,aS,aH,aF,aL,cS,cH,cF,cL,aT,cT,rfl,A,r⟩
theorem world_ans{M:Mm}{l:List (Tk × TkV)}{aS aH aF aL:Option Addr}{cS cH cF cL:Nat}{aT:Option Addr}{cT:Nat}(A:At w aS aH aF aL cS cH cF cL M)(r:Gl w aT cT l):Di 0 w (.agg #[.slice aS M.s.length cS,.slice aH M.h.length cH,.slice aF M.f.length cF,.slice aL M.l.length cL,.int .i64 M.w,.slice aT (l.map (·.1)).length cT]) ⟨M,l.map (·.1)⟩ :=
 ⟨aS,aH,aF,aL,cS,cH,cF,cL,aT,cT,l,rfl,A,⟨fun _ _=>aG _,fun _ _=>aG _,fun _ _=>aG _,fun _ _=>aG _⟩,rfl,r,⟨fun _ _=>aG _,fun _ _ _ _=>aG _,fun _ _ _ _=>aG _⟩⟩
end
section
open ChangeShapes WideShapes ChangeAt RowKit Joins Deep Maps
def Ku(w:Wq)(W:Wd)(x:Pk)(e:Ending)(w':Wq):Prop :=
 ∃ v,e=.returned (.tuple #[v,O J (doE W x)])/\Di w.heap.size w' v (if doE W x=0 then doW W x else w0W)/\Below w.heap.size w w'
theorem b6m{w:Wq}{dw:Nat}{aT:Option Addr}{cT:Nat}{l:List (Tk × TkV)}(T:a2t w dw (Y aT l.length cT) l)(n1:1<=l.length)(n5:l.length<=5)(hm:∀ p∈l,p.1.u.length<=1000)(km:∀ p∈l,p.1.f.t.length*16<=140737488351232) :
  ∃ g,aT=some ⟨g,0,none⟩/\Cf w dw g cT l/\∀ p∈l,∀ a,p.2.aK=some a->a.block<w.heap.size/\a.block≠g/\∀ q∈l,∀ b,q.2.aH=some b->a.block≠b.block:=by
 obtain⟨g,bg,hf⟩:=ownsRow_form T.row (by omega)
 injection hf with h1 h2 h3
 subst h1 h3
 have P:Qh w dw g cT l l.length:=⟨T.row,fun j hj _=>T.u _ (bJ hj),fun j hj _=>T.t _ (bJ hj),fun i j hi hj _ _=>T.dj i j hi hj⟩
 refine⟨g,rfl,P.own (aC _) n5 hm km,fun p hp a ha=>?_⟩
 have h1:=(T.t p hp).own
 rw[ha] at h1
 refine⟨(h1.lt a.block rfl).2,fun e=>D9 h1 T.row (by decide) a.block rfl (by rw[e];rfl),fun q hq b hb e=>?_⟩
 have h2:=T.u q hq
 rw[hb] at h2
 exact D9 h1 h2 (by decide) a.block rfl (by rw[e];rfl)
def I8:Code->Code
 | .seq _ b=>b
 | c=>c
def Om(B:Nat)(v0 v1 v11 v12:dU):Act:=⟨#[v0,v1,.pointer (some ⟨B,0,none⟩),.pointer (some ⟨B+1,0,none⟩),.pointer (some ⟨B+1+1,0,none⟩),O J 0,.func (.func 67) #[] #[],Uz,Uz,Uz,Uz,v11,v12,Uz,Uz,Uz,Uz,Uz,Uz,Uz,Uz,Uz,Uz,Uz,Uz,Uz,Uz,Uz,Uz,Uz,Uz,Uz,Uz,Uz,Uz,Uz,Uz,Uz,Uz,Uz,Uz,Uz,Uz,Uz,Uz,Uz,Uz,Uz,Uz,Uz,Uz,Uz,Uz,Uz,Uz,Uz,Uz,Uz,Uz,Uz,Uz,Uz,Uz,Uz,Uz,Uz,Uz,Uz,Uz,Uz,Uz,Uz,Uz,Uz,Uz,Uz,Uz,Uz,Uz,Uz,Uz,Uz,Uz,Uz,Uz,Uz,Uz,Uz,Uz,Uz,Uz,Uz,Uz,Uz,Uz,Uz,Uz,Uz,Uz,Uz,Uz,Uz,Uz,Uz,Uz,Uz,Uz,Uz,Uz,Uz,Uz,Uz,Uz,Uz,Uz,Uz,Uz,Uz,Uz,Uz,Uz,Uz,Uz,Uz,Uz,Uz,Uz,Uz,Uz,Uz,Uz,Uz,Uz,Uz,Uz,Uz,Uz,Uz,Uz,Uz,Uz,Uz,Uz,Uz,Uz,Uz,Uz,Uz,Uz,Uz,Uz,Uz,Uz,Uz,Uz,Uz,Uz,Uz,Uz,Uz,Uz,Uz,Uz,Uz,Uz,Uz,Uz,Uz,Uz,Uz,Uz,Uz,Uz,Uz,Uz,Uz,Uz,Uz,Uz,Uz,Uz,Uz,Uz,Uz,Uz,Uz,Uz,Uz,Uz,Uz,Uz,Uz,Uz,Uz,Uz,Uz,Uz,Uz,Uz,Uz,Uz,Uz,Uz,Uz,Uz,Uz,Uz,Uz,Uz,Uz,Uz,Uz,Uz,Uz,Uz,Uz,Uz,Uz,Uz,Uz,Uz,Uz,Uz,Uz,Uz,Uz,Uz,Uz,Uz,Uz,Uz,Uz,Uz,Uz,Uz,Uz,Uz,Uz,Uz,Uz,Uz,Uz,Uz,Uz,Uz,Uz,Uz,Uz,Uz,Uz,Uz,Uz,Uz,Uz,Uz,Uz,Uz,Uz,Uz,Uz,Uz,Uz,Uz],[]⟩
theorem Sz(w:Wq):aI Pg 67 #[O J E] w fun e w'=>e=.returned (.tuple #[.agg #[Y none 0 0,Y none 0 0,Y none 0 0,Y none 0 0,O J 0,Y none 0 0],O J E])/\Below w.heap.size w w':=by
 have b0:Below w.heap.size w (w.alloc (.cells #[Y none 0 0,Y none 0 0,Y none 0 0,Y none 0 0,O J 0,Y none 0 0] 28)):=A7 w _
 have rC:(w.alloc (.cells #[Y none 0 0,Y none 0 0,Y none 0 0,Y none 0 0,O J 0,Y none 0 0] 28)).heap[w.heap.size]?=some (.cells #[Y none 0 0,Y none 0 0,Y none 0 0,Y none 0 0,O J 0,Y none 0 0] 28 (0,0)):=fP w _
 have t6:Qi ((w.alloc (.cells #[Y none 0 0,Y none 0 0,Y none 0 0,Y none 0 0,O J 0,Y none 0 0] 28)).there w.heap.size 0 6):=Be rC (by simp)
 have tN:Qi (((w.alloc (.cells #[Y none 0 0,Y none 0 0,Y none 0 0,Y none 0 0,O J 0,Y none 0 0] 28)).setCells w.heap.size 0 [Y none 0 0,Y none 0 0,Y none 0 0,Y none 0 0,O J 0,Y none 0 0]).heap[w.heap.size]?=some (.cells #[Y none 0 0,Y none 0 0,Y none 0 0,Y none 0 0,O J 0,Y none 0 0] 28 (0,0))):=Bi rC rfl
 have b1:Below w.heap.size w ((w.alloc (.cells #[Y none 0 0,Y none 0 0,Y none 0 0,Y none 0 0,O J 0,Y none 0 0] 28)).setCells w.heap.size 0 [Y none 0 0,Y none 0 0,Y none 0 0,Y none 0 0,O J 0,Y none 0 0]):=Bd b0 (aC _)
 clear rC b0
 go_enter func67,ntmps67
 go_wp2_with (refine Iu rfl _ _ rfl rfl rfl t6.o (by kernel_rfl) ?_;clear t6)
 generalize (w.alloc _).setCells w.heap.size 0 _=W2 at *
 obtain⟨r0,r1,r2,r3,r4,r5,rs⟩:=Bh tN.o
 refine gZ (v:=.tuple #[.agg #[Y none 0 0,Y none 0 0,Y none 0 0,Y none 0 0,O J 0,Y none 0 0],O J E]) (by simp[results,results67,go_sem,r0,r1,r2,r3,r4,r5]) rfl ⟨rfl,b1⟩
theorem a9u{w W3 V:Wq}{W:Wd}{x:Pk}{E:Int}(Hb:Below w.heap.size w W3)(hE:doE W x=E)(h0:E≠0)(hb:Below W3.heap.size W3 V){n:Nat}(hn:w.heap.size<=n):Ku w W x (.returned (.tuple #[.agg #[Y none 0 0,Y none 0 0,Y none 0 0,Y none 0 0,O J 0,Y none 0 0],O J E])) (V.setCells n 0 [Y none 0 0,Y none 0 0,Y none 0 0,Y none 0 0,O J 0,Y none 0 0]):=by
 refine⟨_,by rw[hE],?_,Bd (Hb.trans (hb.mono Hb.size)) hn⟩
 rw[ae (by rw[hE];exact h0)]
 exact a2o _ _
theorem Oe{w W3 V:Wq}{n0:Nat}{W WW:Wd}{x:Pk}(h:WP n0 w.heap.size WW W3 V)(HZ:W3.heap[w.heap.size+1+1]?=some (.cells #[Y none 0 0,Y none 0 0,Y none 0 0,Y none 0 0,O J 0,Y none 0 0] 28 (0,0)))(hn:w.heap.size+1+1<n0)(Hb:Below w.heap.size w W3)(hE:doE W x=0)(hW:WW=doW W x) :
  ∃ c0 c1 c2 c3 c4 c5,V.rangeAt w.heap.size 0 [c0,c1,c2,c3,c4,c5]/\V.there (w.heap.size+1+1) 0 6/\(#[c0,c1,c2,c3,c4,c5].all (·.oneCell'))=true/\(V.setCells (w.heap.size+1+1) 0 [c0,c1,c2,c3,c4,c5]).heap[w.heap.size+1+1]?=some (.cells #[c0,c1,c2,c3,c4,c5] 28 (0,0)) /\
   Ku w W x (.returned (.tuple #[.agg #[c0,c1,c2,c3,c4,c5],O J 0])) (V.setCells (w.heap.size+1+1) 0 [c0,c1,c2,c3,c4,c5]):=by
 obtain⟨xK,xN,xO,xM,xE,xI,xJ,xG,xe,xC,l2,qW,hA,JO,zY,wK,tC,hK⟩:=h
 have GV:V.heap[w.heap.size+1+1]?=some (.cells #[Y none 0 0,Y none 0 0,Y none 0 0,Y none 0 0,O J 0,Y none 0 0] 28 (0,0)):=(hK.block _ hn (by omega)).trans HZ
 have uQ:∀ vs:List dU,∀ k,k≠w.heap.size+1+1->(V.setCells (w.heap.size+1+1) 0 vs).heap[k]?=V.heap[k]?:=fun vs k hk=>Af hk _ _ _
 refine⟨Y xK WW.m.s.length xE,Y xN WW.m.h.length xI,Y xO WW.m.f.length xJ,Y xM WW.m.l.length xG,O J WW.m.w,Y xe l2.length xC,Aq qW rfl,Be GV (by simp),by kernel_rfl,Bi GV rfl,?_⟩
 refine⟨_,congrArg (fun z=>Ending.returned (.tuple #[_,O J z])) hE.symm,?_,Bd (Hb.trans (hK.down (by omega) (aC _))) (by omega)⟩
 rw[af hE,<- hW]
 refine⟨xK,xN,xO,xM,xE,xI,xJ,xG,xe,xC,l2,by rw[<- tC,kN],hA.off JO (g:=w.heap.size+1+1) (by omega) (uQ _),JO.mono (by omega),tC.symm,?_,wK.mono (by omega)⟩
 refine⟨zY.le,zY.max,zY.nil,?_,fun p hp=>Eo (zY.t p hp) fun _ ad e _=>uQ _ _ (by have:=wK.t p hp ad e;omega),fun p hp=>Uf (zY.u p hp) fun ad e=>uQ _ _ (by have:=wK.u p hp ad e;omega)⟩
 rcases zY.at_ with h0|⟨b,o,e,hc⟩
 ·exact .inl h0
 ·have wW:=uQ [Y xK WW.m.s.length xE,Y xN WW.m.h.length xI,Y xO WW.m.f.length xJ,Y xM WW.m.l.length xG,O J WW.m.w,Y xe l2.length xC] b (by have:=wK.row _ e;dsimp only at this;omega)
  exact .inr ⟨b,o,e,fun i hi q hq=>(World.cell?_of_block (a:=⟨b,o+i*16+q,none⟩) wW).trans (hc i hi q hq)⟩
theorem Zz{W:Wd}(x:Pk)(aS aH aF aL:Option Addr)(cS cH cF cL:Nat)(aT:Option Addr)(cT:Nat)(w:Wq)(hv:Di 0 w (.agg #[Y aS W.m.s.length cS,Y aH W.m.h.length cH,Y aF W.m.f.length cF,Y aL W.m.l.length cL,O J W.m.w,Y aT W.t.length cT]) W)(hW:wE W=0)
  (HR:Qi (∀ (W3:Wq) (n0 dw:Nat) (aS aH aF aL:Option Addr) (cS cH cF cL g cT n:Nat) (M:Mm) (l:List (Tk × TkV)),WM W3 n0 w.heap.size n0 dw aS aH aF aL cS cH cF cL M g cT n l->Ok M->wE ⟨M,l.map (·.1)⟩=0->W3.heap[w.heap.size+1]?=some (.cells #[O J x.s,.bool x.step,.bool x.tick,O J x.c.k,O J x.c.a,O J x.c.b,O J x.c.t,O J x.c.q,O J x.c.h] 34 (0,0))->W3.heap[w.heap.size+2]?=some (.cells #[Y none 0 0,Y none 0 0,Y none 0 0,Y none 0 0,O J 0,Y none 0 0] 28 (0,0))->w.heap.size+2<n0->Below w.heap.size w W3 ->
   ∀ C,C=I8 (I8 (I8 (Tryz.f22.body.getD .skip)))->∀ v0 v1 v11 v12,Code.wp Pg C (bodyPost Pg pF (Ku w ⟨M,l.map (·.1)⟩ x)) (Om w.heap.size v0 v1 v11 v12) W3)) :
  aI Pg 22 #[Ew aS aH aF aL cS cH cF cL aT cT W,Qn x] w (Ku w W x):=by
 unfold Ew Qn
 obtain⟨lt,A,hi,tC,hT,wK⟩:=hv.parts
 have hl:lt.length=W.t.length:=by rw[tC,kN]
 obtain⟨ox,jq⟩:∃ o:Obj,o=.cells #[Y aS W.m.s.length cS,Y aH W.m.h.length cH,Y aF W.m.f.length cF,Y aL W.m.l.length cL,O J W.m.w,Y aT W.t.length cT] 28:=⟨_,rfl⟩
 obtain⟨oy,uM⟩:∃ o:Obj,o=.cells #[O J x.s,.bool x.step,.bool x.tick,O J x.c.k,O J x.c.a,O J x.c.b,O J x.c.t,O J x.c.q,O J x.c.h] 34:=⟨_,rfl⟩
 obtain⟨oz,bi⟩:∃ o:Obj,o=.cells #[Y none 0 0,Y none 0 0,Y none 0 0,Y none 0 0,O J 0,Y none 0 0] 28:=⟨_,rfl⟩
 have z1:(w.alloc ox).heap.size=w.heap.size+1:=by simp
 have z2:((w.alloc ox).alloc oy).heap.size=w.heap.size+2:=by simp
 have b0:Below w.heap.size w (((w.alloc ox).alloc oy).alloc oz):=(below_alloc2 w ox oy).alloc (by omega) _
 have ni:Qi ((((w.alloc ox).alloc oy).alloc oz).heap[w.heap.size]?=some ox):=by show _=_;rw[fU _ _ _ (by omega),fU _ _ _ (by omega),fP]
 have tV:Qi ((((w.alloc ox).alloc oy).alloc oz).heap[w.heap.size+1]?=some oy):=by
  have:=fP (w.alloc ox) oy
  rw[z1] at this
  show _=_
  rw[fU _ _ _ (by omega)];exact this
 have rC:Qi ((((w.alloc ox).alloc oy).alloc oz).heap[w.heap.size+2]?=some oz):=by
  have:=fP ((w.alloc ox).alloc oy) oz
  rwa [z2] at this
 have FC:=Ko.1 hW
 have hM:Ok W.m:=(Ky W.m).1 FC.1
 have Hkm:Qi (∀ t∈W.t,t.u.length<=1000/\t.f.t.length*16<=140737488351232):=fun t ht=>by
  rw[tC] at ht
  obtain⟨p,hp,rfl⟩:=mG.1 ht
  exact⟨by have:=(Po.1 (FC.2.2.2 p.1 (by rw[tC];exact mG.2 ⟨p,hp,rfl⟩))).1;omega,(hT.t p hp).max⟩
 have BP:Qi (aI Pg 14 #[Ew aS aH aF aL cS cH cF cL aT cT W] (((w.alloc ox).alloc oy).alloc oz) (b5k (((w.alloc ox).alloc oy).alloc oz) W.m W.t)):=by
  have h:=Zv W.m lt aS aH aF aL cS cH cF cL aT cT _ (A.below b0) (hT.below b0)
  rw[<- tC,hl] at h
  exact h
 have l6:Qi ((((w.alloc ox).alloc oy).alloc oz).rangeAt w.heap.size 0 [Y aS W.m.s.length cS,Y aH W.m.h.length cH,Y aF W.m.f.length cF,Y aL W.m.l.length cL,O J W.m.w,Y aT W.t.length cT]):=Aq (ni.o.trans (congrArg some jq)) rfl
 have Hn:Qi (1<=W.t.length/\W.t.length<=5):=⟨FC.2.1,FC.2.2.1⟩
 have HM:Qi (Ok W.m):=hM
 have HE:Qi (wE W=0):=hW
 clear hv A hi hT wK FC hM hW tC hl
 obtain⟨W0,zo⟩:∃ W0,W0=((w.alloc ox).alloc oy).alloc oz:=⟨_,rfl⟩
 rw[<- zo] at ni tV rC BP l6 b0
 subst jq uM bi
 have uG:Qi (W0=((w.alloc (.cells #[Y aS W.m.s.length cS,Y aH W.m.h.length cH,Y aF W.m.f.length cF,Y aL W.m.l.length cL,O J W.m.w,Y aT W.t.length cT] 28)).alloc (.cells #[O J x.s,.bool x.step,.bool x.tick,O J x.c.k,O J x.c.a,O J x.c.b,O J x.c.t,O J x.c.q,O J x.c.h] 34)).alloc (.cells #[Y none 0 0,Y none 0 0,Y none 0 0,Y none 0 0,O J 0,Y none 0 0] 28)):=zo
 clear zo z1 z2
 go_enter func22,ntmps22
 go_wp2_with (first|(rw[<- uG.o];clear uG)|(have h9:=l6.o;refine F8 rfl (.tmp 2) rfl rfl h9 ?_;clear h9 l6))
 refine BP.o.mono ?_
 rintro e w2 ⟨gS,gH,gF,gL,kS,kH,kF,kL,xe,c1,l1,dw,rfl,VJ,MI,VG,GH,hlo2,dm⟩
 have yj:l1.length=W.t.length:=by rw[<- GH,kN]
 obtain⟨g,rfl,hT3,BC⟩:=b6m VG (by have:=Hn.o;omega) (by have:=Hn.o;omega) (fun p hp=>(Hkm.o p.1 (by rw[<- GH];exact mG.2 ⟨p,hp,rfl⟩)).1) (fun p hp=>(Hkm.o p.1 (by rw[<- GH];exact mG.2 ⟨p,hp,rfl⟩)).2)
 have ng:w.heap.size+2<W0.heap.size:=fC rC.o
 have sZ:Qi (w2.heap[w.heap.size]?=_):=(dm.block _ (fC ni.o)).trans ni.o
 have t6:Qi (w2.there w.heap.size 0 6):=Be sZ.o (by simp)
 have NP:=b5i HM.o VJ MI hT3 BC hlo2 (show w.heap.size<W0.heap.size by omega) sZ.o rfl
 have MQ:(w2.setCells w.heap.size 0 [Y gS W.m.s.length kS,Y gH W.m.h.length kH,Y gF W.m.f.length kF,Y gL W.m.l.length kL,O J W.m.w,Y (some ⟨g,0,none⟩) l1.length c1]).heap[w.heap.size+1]?=_:=(Af (by omega) _ _ _).trans ((dm.block _ (fC tV.o)).trans tV.o)
 have uF:(w2.setCells w.heap.size 0 [Y gS W.m.s.length kS,Y gH W.m.h.length kH,Y gF W.m.f.length kF,Y gL W.m.l.length kL,O J W.m.w,Y (some ⟨g,0,none⟩) l1.length c1]).heap[w.heap.size+2]?=_:=(Af (by omega) _ _ _).trans ((dm.block _ (fC rC.o)).trans rC.o)
 have b3:Below w.heap.size w (w2.setCells w.heap.size 0 [Y gS W.m.s.length kS,Y gH W.m.h.length kH,Y gF W.m.f.length kF,Y gL W.m.l.length kL,O J W.m.w,Y (some ⟨g,0,none⟩) l1.length c1]):=Bd (b0.trans (dm.mono b0.size)) (aC _)
 have HG:Qi (∀ C a,C=I8 (I8 (I8 (Tryz.f22.body.getD .skip)))->∀ v0 v1 v11 v12,a=Om w.heap.size v0 v1 v11 v12->Code.wp Pg C (bodyPost Pg pF (Ku w W x)) a (w2.setCells w.heap.size 0 [Y gS W.m.s.length kS,Y gH W.m.h.length kH,Y gF W.m.f.length kF,Y gL W.m.l.length kL,O J W.m.w,Y (some ⟨g,0,none⟩) l1.length c1])):=fun C a hC v0 v1 v11 v12 ha=>by
  have wo:W=⟨W.m,l1.map (·.1)⟩:=by rw[GH]
  rw[wo,ha]
  exact HR.o _ _ _ _ _ _ _ _ _ _ _ _ _ _ W.m l1 NP HM.o (by rw[<- wo];exact HE.o) MQ uF (by omega) b3 C hC v0 v1 v11 v12
 clear VJ MI VG GH hlo2 dm hT3 BC NP MQ uF b3 sZ tV rC ni BP yj
 rename_i K1 JM K0 qO
 have IC:Qi _:=JM
 clear JM
 go_wp2_with (refine Iu rfl _ _ rfl rfl rfl t6.o (by kernel_rfl) ?_;clear t6)
 refine IC.o _ _ (HG.o _ _ (by kernel_rfl) (.agg #[Y aS W.m.s.length cS,Y aH W.m.h.length cH,Y aF W.m.f.length cF,Y aL W.m.l.length cL,O J W.m.w,Y aT W.t.length cT]) (.agg #[O J x.s,.bool x.step,.bool x.tick,O J x.c.k,O J x.c.a,O J x.c.b,O J x.c.t,O J x.c.q,O J x.c.h]) (.agg #[Y aS W.m.s.length cS,Y aH W.m.h.length cH,Y aF W.m.f.length cF,Y aL W.m.l.length cL,O J W.m.w,Y aT W.t.length cT]) (.agg #[Y gS W.m.s.length kS,Y gH W.m.h.length kH,Y gF W.m.f.length kF,Y gL W.m.l.length kL,O J W.m.w,Y (some ⟨g,0,none⟩) l1.length c1]) (by kernel_rfl))
end
section
open ChangeShapes WideShapes ChangeAt RowKit Joins Deep Maps
structure PkH(w W3:Wq)(n0 dw:Nat)(aS aH aF aL:Option Addr)(cS cH cF cL g cT n:Nat)(M:Mm)(l:List (Tk × TkV))(x:Pk):Prop where
 wm:WM W3 n0 w.heap.size n0 dw aS aH aF aL cS cH cF cL M g cT n l
 ok:Ok M
 we:wE ⟨M,l.map (·.1)⟩=0
 bx:W3.heap[w.heap.size+1]?=some (.cells #[O J x.s,.bool x.step,.bool x.tick,O J x.c.k,O J x.c.a,O J x.c.b,O J x.c.t,O J x.c.q,O J x.c.h] 34 (0,0))
 bz:W3.heap[w.heap.size+2]?=some (.cells #[Y none 0 0,Y none 0 0,Y none 0 0,Y none 0 0,O J 0,Y none 0 0] 28 (0,0))
 big:w.heap.size+2<n0
 bel:Below w.heap.size w W3
theorem Vw{w W3 V:Wq}{W:Wd}{x:Pk}{E:Int}(HZ:W3.heap[w.heap.size+2]?=some (.cells #[Y none 0 0,Y none 0 0,Y none 0 0,Y none 0 0,O J 0,Y none 0 0] 28 (0,0)))(Hb:Below w.heap.size w W3)(hE:doE W x=E)(h0:E≠0)(hb:Below W3.heap.size W3 V) :
  Qi (V.there (w.heap.size+1+1) 0 6)/\Qi ((V.setCells (w.heap.size+1+1) 0 [Y none 0 0,Y none 0 0,Y none 0 0,Y none 0 0,O J 0,Y none 0 0]).heap[w.heap.size+1+1]?=some (.cells #[Y none 0 0,Y none 0 0,Y none 0 0,Y none 0 0,O J 0,Y none 0 0] 28 (0,0)))/\Qi (Ku w W x (.returned (.tuple #[.agg #[Y none 0 0,Y none 0 0,Y none 0 0,Y none 0 0,O J 0,Y none 0 0],O J E])) (V.setCells (w.heap.size+1+1) 0 [Y none 0 0,Y none 0 0,Y none 0 0,Y none 0 0,O J 0,Y none 0 0])):=by
 have h:=(hb.block _ (fC HZ)).trans HZ
 exact⟨Be h (by simp),Bi h rfl,a9u Hb hE h0 hb (by omega)⟩
section
variable {w W3:Wq} {n0 dw:Nat} {aS aH aF aL:Option Addr} {cS cH cF cL g cT n:Nat} {M:Mm} {l:List (Tk × TkV)} {x:Pk}
theorem b4b(h:PkH w W3 n0 dw aS aH aF aL cS cH cF cL g cT n M l x)(ht:x.tick=true)(hn:M.w=1000000)(v0 v1 v11 v12:dU) :
  Code.wp Pg (I8 (I8 (I8 (Tryz.f22.body.getD .skip)))) (bodyPost Pg pF (Ku w ⟨M,l.map (·.1)⟩ x)) (Om w.heap.size v0 v1 v11 v12) W3:=by
 have hE:Qi (doE ⟨M,l.map (·.1)⟩ x=7):=by show _=_;unfold doE;rw[af ht,af hn]
 obtain⟨x0,x1,x2,x3,x4,x5,x6,x7,x8,xs⟩:=Ql h.bx
 obtain⟨q0,q1,q2,q3,q4,q5,qs⟩:=Bh h.wm.m.box
 rw[ht] at x2
 rw[hn] at q4
 have HZ:Qi (W3.heap[w.heap.size+2]?=some (.cells #[Y none 0 0,Y none 0 0,Y none 0 0,Y none 0 0,O J 0,Y none 0 0] 28 (0,0))):=h.bz
 have Hb:Qi (Below w.heap.size w W3):=h.bel
 have HF:Qi (∀ V,aI Pg 67 #[O J 7] V fun e w'=>e=.returned (.tuple #[.agg #[Y none 0 0,Y none 0 0,Y none 0 0,Y none 0 0,O J 0,Y none 0 0],O J 7])/\Below V.heap.size V w'):=fun V=>Sz 7 V
 clear h ht hn
 unfold Om
 conv=>arg 2;whnf
 go_wp2_with fail
 refine(HF.o _).mono ?_
 rintro e V ⟨rfl,hb⟩
 obtain⟨t6,r6,HR⟩:=Vw HZ.o Hb.o hE.o (by decide) hb
 clear HF hE Hb HZ hb x0 x1 x2 x3 x4 x5 x6 x7 x8 q0 q1 q2 q3 q4 q5
 go_wp2_with (refine Iu rfl _ _ rfl rfl rfl t6.o (by kernel_rfl) ?_;clear t6)
 generalize V.setCells (w.heap.size+1+1) 0 _=V2 at *
 obtain⟨r0,r1,r2,r3,r4,r5,rs⟩:=Bh r6.o
 refine gZ (v:=.tuple #[.agg #[Y none 0 0,Y none 0 0,Y none 0 0,Y none 0 0,O J 0,Y none 0 0],O J 7]) (by simp[results,results22,go_sem,r0,r1,r2,r3,r4,r5]) rfl HR.o
end
end
section
open ChangeShapes WideShapes ChangeAt RowKit Joins Deep Maps
def b6l(k F:Nat)(s:String):Array Oper:=#[⟨some k,.move (.tmp 7),113,s,#[],none⟩,⟨some (k+1),.fieldAddr 28 (.tmp 2) 0,0,s,#[],none⟩,⟨some (k+2),.move (.tmp 7),113,s,#[],none⟩,⟨some (k+3),.nilCheck (.tmp (k+2)),0,s,#[⟨2,.data⟩],none⟩,⟨some (k+4),.fieldAddr 49 (.tmp (k+3)) 1,0,s,#[⟨3,.data⟩],none⟩,⟨some (k+5),.load 47 (.tmp (k+4)),47,s,#[⟨4,.data⟩],none⟩,⟨some (k+6),.fieldAddr 34 (.tmp 3) 0,0,s,#[],none⟩,⟨some (k+7),.load 3 (.tmp (k+6)),3,s,#[⟨6,.data⟩],none⟩,
 ⟨some (k+8),.call { callee:=.value (.func F),args:=#[.tmp (k+1),.tmp (k+5),.tmp (k+7)],argTypes:=#[116,47,3] },47,s,#[⟨1,.data⟩,⟨5,.data⟩,⟨7,.data⟩],none⟩,⟨some (k+9),.nilCheck (.tmp k),0,s,#[⟨0,.data⟩,⟨0,.phase⟩,⟨1,.phase⟩,⟨2,.phase⟩,⟨3,.phase⟩,⟨4,.phase⟩,⟨5,.phase⟩,⟨6,.phase⟩,⟨7,.phase⟩,⟨8,.phase⟩],none⟩,⟨some (k+10),.fieldAddr 49 (.tmp (k+9)) 1,0,s,#[⟨9,.data⟩,⟨0,.phase⟩,⟨1,.phase⟩,⟨2,.phase⟩,⟨3,.phase⟩,⟨4,.phase⟩,⟨5,.phase⟩,⟨6,.phase⟩,⟨7,.phase⟩,⟨8,.phase⟩],none⟩,
 ⟨none,.store 47 (.tmp (k+10)) (.tmp (k+8)),0,s,#[⟨10,.data⟩,⟨8,.data⟩,⟨8,.chain⟩,⟨0,.phase⟩,⟨1,.phase⟩,⟨2,.phase⟩,⟨3,.phase⟩,⟨4,.phase⟩,⟨5,.phase⟩,⟨6,.phase⟩,⟨7,.phase⟩,⟨8,.phase⟩],none⟩]
def dS(k:Nat):List Nat:=[k,k+1,k+2,k+3,k+4,k+5,k+6,k+7,k+8,k+9,k+10]
theorem evS(x:Nat->dU)(qg:A.tmps.size=263)(hk:k+10<263)(j:Nat)(hj:j<11):(mkA A (dS k) x).tmps[k+j]?.getD Uz=x (k+j):=by
 have h:((dS k).contains (k+j) && decide (k+j<A.tmps.size))=true:=by
  rw[qg,cO]
  refine⟨?_,by simp;omega⟩
  have:j=0\/j=1\/j=2\/j=3\/j=4\/j=5\/j=6\/j=7\/j=8\/j=9\/j=10:=by omega
  rcases this with rfl|rfl|rfl|rfl|rfl|rfl|rfl|rfl|rfl|rfl|rfl <;> simp[dS]
 have h':=b0n (a:=A) (D:=dS k) (x:=x) (k:=k+j) h
 rwa [oQ,Array.getD_eq_getD_getElem?] at h'
theorem evO(x:Nat->dU){j:Nat}{v:dU}(hk:j<k)(h:A.eval (.tmp j)=v):(mkA A (dS k) x).tmps[j]?.getD Uz=v:=by
 have h':=a5r (a:=A) (D:=dS k) (x:=x) (k:=j) (by simp[dS];omega)
 rw[h,oQ,Array.getD_eq_getD_getElem?] at h'
 exact h'
theorem a3d{x:Operand}{a:Act}{V:Wq}{g o:Nat}{f:Fr}{aK:Option Addr}{cK:Nat}(ho:op.op=.load 47 x)(hx:a.eval x=.pointer (some ⟨g,o,none⟩))(h:V.rangeAt g o (f.enc aK cK)):(kD a.eval op).run Pg V=.ok (.value (.agg #[O J f.c.k,O J f.c.a,O J f.c.b,O J f.c.t,O J f.c.q,O J f.c.h,O J f.l,O J f.u,O J f.p,O J f.h,O J f.n,Y aK f.t.length cK,.bool f.d,O J f.e])) V:=by
 unfold kD
 simp only[ho,hx,Instr.loadAt,Instr.sureAddr,Sem.run_bind,Sem.run_pure,Result.andThen_ok,run_loadVar_mid V g o 47 (f.enc aK cK) _ h mO rfl (by kernel_rfl)]
 rfl
theorem b2s{w:Wq}{K:Act->Wq->Prop}{Q:Exit->Act->Wq->Prop}{f:Nat}{args:Array dU}(hr:(kD a.eval op).run P w=.ok (.enter f args) w)(h:aI P f args w fun e w'=>∃ v,e=.returned v/\K (a.put op.dst v) w'):op.wp P a w K Q:=by
 unfold Oper.wp
 rw[hr]
 refine h.mono ?_
 rintro e w' ⟨v,rfl,hk⟩
 exact hk
theorem hr_lt{g o:Nat}{f:Fr}{aK:Option Addr}{cK:Nat}(h:W.rangeAt g o (f.enc aK cK)):g<W.heap.size:=cell_lt (h 0 _ rfl)
theorem b1q{B g o:Nat}{ti:Int}{f G:Fr}{aK:Option Addr}{cK:Nat}{Φ:Option Addr->Nat->Wq->Prop}(hk:(k=178/\F=70)\/(k=191/\F=71)\/(k=127/\F=74))(qg:A.tmps.size=263)(e2:A.eval (.tmp 2)=.pointer (some ⟨B,0,none⟩))(e3:A.eval (.tmp 3)=.pointer (some ⟨B+1,0,none⟩))(e7:A.eval (.tmp 7)=.pointer (some ⟨g,o,none⟩))
  (hx:W.cell? ⟨B+1,0,none⟩=some (O J ti)) (hr:W.rangeAt g (o+1) (f.enc aK cK))
  (hC:∀ V,Below W.heap.size W V->aI Pg F #[Ae B,Ai f aK cK,O J ti] V fun e w'=>∃ a c,e=.returned (.agg #[O J G.c.k,O J G.c.a,O J G.c.b,O J G.c.t,O J G.c.q,O J G.c.h,O J G.l,O J G.u,O J G.p,O J G.h,O J G.n,Y a G.t.length c,.bool G.d,O J G.e])/\Φ a c w')
  (ht:∀ a c w',Φ a c w'->w'.there g (o+1) 14)
  (um:∀ x a c w',Φ a c w'->Q .normal (mkA A (dS k) x) (w'.setCells g (o+1) (G.enc a c))):(Code.region id (b6l k F s) true).wp Pg Q A W:=by
 have hF:∀ args V,(callFunc F args).run Pg V=.ok (.enter F args) V:=by rcases hk with ⟨rfl,rfl⟩|⟨rfl,rfl⟩|⟨rfl,rfl⟩ <;> exact fun _ _=>by kernel_rfl
 refine Iq (by kernel_rfl) (dS k ++ [1000]) (dS k) [8,11] [1,0,1,1,1,0,1,0,0,2,1,0]
  [.pointer (some ⟨g,o,none⟩),.pointer (some ⟨B,0,none⟩),.pointer (some ⟨g,o,none⟩),.pointer (some ⟨g,o,none⟩),.pointer (some ⟨g,o+1,none⟩),.agg #[O J f.c.k,O J f.c.a,O J f.c.b,O J f.c.t,O J f.c.q,O J f.c.h,O J f.l,O J f.u,O J f.p,O J f.h,O J f.n,Y aK f.t.length cK,.bool f.d,O J f.e],.pointer (some ⟨B+1,0,none⟩),O J ti,Uz,.pointer (some ⟨g,o,none⟩),.pointer (some ⟨g,o+1,none⟩),Uz]
  (fun p x V=>(p=0->Below W.heap.size W V)/\(p=1->∃ a c,x (k+8)=.agg #[O J G.c.k,O J G.c.a,O J G.c.b,O J G.c.t,O J G.c.q,O J G.c.h,O J G.l,O J G.u,O J G.p,O J G.h,O J G.n,Y a G.t.length c,.bool G.d,O J G.e]/\Φ a c V)/\(p=2->∃ a c w',Φ a c w'/\V=w'.setCells g (o+1) (G.enc a c))) ?_ (fun V h _=>⟨fun _=>h,(fun h=>by cases h),(fun h=>by cases h)⟩) ?_ ?_ ?_ ?_
 ·rcases hk with ⟨rfl,rfl⟩|⟨rfl,rfl⟩|⟨rfl,rfl⟩ <;> kernel_rfl
 ·rintro p x x' V h hp
  have h8:x' (k+8)=x (k+8):=h 0 (by decide)
  exact⟨hp.1,fun e=>by rw[h8];exact hp.2.1 e,hp.2.2⟩
 ·intro i hi vz p x V hp hΩ hd o' ho
  have hi:i<12:=hi
  have yt:7<k/\k+10<263:=by omega
  have n8:i≠8/\i≠11:=⟨fun e=>vz (by simp[e]),fun e=>vz (by simp[e])⟩
  have E2:=evO x (by omega:2<k) e2
  have E3:=evO x (by omega:3<k) e3
  have E7:=evO x (by omega:7<k) e7
  have ev:=evS x qg yt.2
  generalize mkA A (dS k) x=A' at *
  have:i=0\/i=1\/i=2\/i=3\/i=4\/i=5\/i=6\/i=7\/i=9\/i=10:=by omega
  have hb:i=5\/i=7->Below W.heap.size W V:=fun h=>by
   obtain rfl:p=0:=Nat.le_zero.1 (by rcases h with rfl|rfl <;> exact hp)
   exact hΩ.1 rfl
  rcases this with rfl|rfl|rfl|rfl|rfl|rfl|rfl|rfl|rfl|rfl
  all_goals
   simp only[b6l,List.getElem?_toArray,List.getElem?_cons_zero,List.getElem?_cons_succ,qA] at ho
   subst ho
  ·simp[kD,go_sem,E7]
  ·simp[kD,go_sem,E2]
  ·simp[kD,go_sem,E7]
  ·have:=(ev 2 (by decide)).trans (hd 2 (by decide) (by show 2<12;decide) (by kernel_rfl))
   simp[kD,go_sem,this]
  ·have:=(ev 3 (by decide)).trans (hd 3 (by decide) (by show 3<12;decide) (by kernel_rfl))
   simp[kD,go_sem,this]
  ·have:=(ev 4 (by decide)).trans (hd 4 (by decide) (by show 4<12;decide) (by kernel_rfl))
   have TY:V.rangeAt g (o+1) (f.enc aK cK):=Ed hr (hb (.inl rfl)) (hr_lt hr)
   exact a3d rfl (by rw[oQ,Array.getD_eq_getD_getElem?];exact this) TY
  ·simp[kD,go_sem,E3]
  ·have:=(ev 6 (by decide)).trans (hd 6 (by decide) (by show 6<12;decide) (by kernel_rfl))
   have LP:=((Ce (hb (.inr rfl))).1 _ _ (cell_lt hx)).trans hx
   simp[kD,go_sem,this,LP]
  ·have:=(ev 0 (by decide)).trans (hd 0 (by decide) (by show 0<12;decide) (by kernel_rfl))
   rw[Nat.add_zero] at this
   simp[kD,go_sem,this]
  ·have:=(ev 9 (by decide)).trans (hd 9 (by decide) (by show 9<12;decide) (by kernel_rfl))
   simp[kD,go_sem,this]
 ·intro q hq x V hΩ hd o' ho
  have hq:q<2:=hq
  have yt:7<k/\k+10<263:=by omega
  have ev:=evS x qg yt.2
  obtain rfl|rfl:q=0\/q=1:=by omega
  all_goals
   simp only[b6l,nZ,oC,List.getElem?_toArray,List.getElem?_cons_zero,List.getElem?_cons_succ,qA] at ho
   subst ho
  ·have h1:=(ev 1 (by decide)).trans (hd 1 (by decide) (by show 1<12;decide) (by kernel_rfl))
   have h5:=(ev 5 (by decide)).trans (hd 5 (by decide) (by show 5<12;decide) (by kernel_rfl))
   have h7:=(ev 7 (by decide)).trans (hd 7 (by decide) (by show 7<12;decide) (by kernel_rfl))
   generalize mkA A (dS k) x=A' at *
   refine b2s (f:=F) (args:=#[.pointer (some ⟨B,0,none⟩),.agg #[O J f.c.k,O J f.c.a,O J f.c.b,O J f.c.t,O J f.c.q,O J f.c.h,O J f.l,O J f.u,O J f.p,O J f.h,O J f.n,Y aK f.t.length cK,.bool f.d,O J f.e],O J ti]) (by simp[go_sem,h1,h5,h7,hF]) ((hC V (hΩ.1 rfl)).mono ?_)
   rintro e w' ⟨a,c,he,h⟩
   refine⟨.agg #[O J G.c.k,O J G.c.a,O J G.c.b,O J G.c.t,O J G.c.q,O J G.c.h,O J G.l,O J G.u,O J G.p,O J G.h,O J G.n,Y a G.t.length c,.bool G.d,O J G.e],he,.agg #[O J G.c.k,O J G.c.a,O J G.c.b,O J G.c.t,O J G.c.q,O J G.c.h,O J G.l,O J G.u,O J G.p,O J G.h,O J G.n,Y a G.t.length c,.bool G.d,O J G.e],rfl,(fun h=>by cases h),fun _=>⟨a,c,?_,h⟩,(fun h=>by cases h)⟩
   show Eu x (k+8) _ (k+8)=_
   simp[Eu]
  ·have AA:=(ev 10 (by decide)).trans (hd 10 (by decide) (by show 10<12;decide) (by kernel_rfl))
   have h8:=ev 8 (by decide)
   have hΩ1:=hΩ.2.1 rfl
   generalize mkA A (dS k) x=A' at *
   refine pY hΩ1 fun a h1=>?_
   refine pY h1 fun c h2=>?_
   exact wp_store_mid 47 (.tmp (k+10)) (.tmp (k+8)) rfl g (o+1) #[O J G.c.k,O J G.c.a,O J G.c.b,O J G.c.t,O J G.c.q,O J G.c.h,O J G.l,O J G.u,O J G.p,O J G.h,O J G.n,Y a G.t.length c,.bool G.d,O J G.e] (by rw[oQ,Array.getD_eq_getD_getElem?];exact AA) (by rw[oQ,Array.getD_eq_getD_getElem?];exact h8.trans h2.1) (ht a c V h2.2) (by kernel_rfl) (by kernel_rfl) ⟨Uz,rfl,(fun h=>by cases h),(fun h=>by cases h),fun _=>⟨a,c,V,h2.2,rfl⟩⟩
 ·rintro x V hΩ -
  obtain⟨a,c,w',h,rfl⟩:=hΩ.2.2 rfl
  exact um x a c w' h
end
section
open ChangeShapes WideShapes ChangeAt RowKit Joins Deep Go.Sort
variable {Xb:Ex}
theorem b1i(t:Int)(M:Mm)(f:Fr)(B lo:Nat)(aS aH aF aL:Option Addr)(cS cH cF cL:Nat)(aK:Option Addr)(cK:Nat)(w:Wq)
  (m:Mine Xb w B lo aS aH aF aL cS cH cF cL M) (hM:Ok M) (hf:Fit M f) (hk:f.c.k=2) (r:Az w aK cK f.t) (hz:∀ ad,aK=some ad->¬ Ac B aS aH aF aL ad.block) :
  aI Pg 70 #[Ae B,Ai f aK cK,O J t] w fun e w'=>Ret w w' e (adF M f) aK cK/\Has Xb w' B lo (Up w (Ac B aS aH aF aL)) (adM t M f)/\Fine w w' (Ac B aS aH aF aL):=by
 unfold Ae Ai
 refine(b1h (R:=RQ Xb w (Ac B aS aH aF aL) B lo aK cK (adM t M f) (adF M f)) t M f B lo aS aH aF aL cS cH cF cL aK cK w m hM hf r hz fun w1 b H=>?_).mono fun e w' h=>⟨⟨aK,cK,h.1.1,h.1.2,fun _ h=>.inl h,fun _=>⟨rfl,rfl⟩⟩,h.2⟩
 have hb:bkN M f=b:=by unfold bkN;rw[H.bb.o];rfl
 have h8:f.l=0\/f.l=1\/f.l=2\/f.l=3\/f.l=4\/f.l=5\/f.l=6\/f.l=7\/8<=f.l:=by have:=hf.l;omega
 rcases h8 with hp|hp|hp|hp|hp|hp|hp|hp|hp
 ·rw[adF0 hp,adM0 hp]
  unfold Kv Jl a8s
  obtain⟨-,k2,k3⟩:=Vo hk hf.call
  have:=hM.w
  exact rad0 t H hp hk (by
   by_cases hF:M.f.length=0
   ·exact .inl ⟨hF,by rw[af hF],by rw[af hF]⟩
   ·exact .inr ⟨hF,by rw[ae hF],by rw[ae hF,ae (by omega)]⟩)
 ·rw[adF1 hp,adM1 hp]
  unfold Qo Fq
  rw[hb]
  exact rad1 t H hp rfl
 ·rw[adF2 hp,J8 (by omega),hb]
  exact rad2 t H hp rfl
 ·rw[adF3 hp,J8 (by omega)]
  unfold Un
  rcases J9 hf with ⟨h,h',-⟩|⟨j,hj,hl,h',hw,-⟩
  ·rw[h'];exact rad3 t H hp h rfl
  ·rw[h',hw];exact rad3b t H hp hj hl rfl
 ·rw[adF4 hp,J8 (by omega)]
  unfold Oq
  rcases J9 hf with ⟨h,h',-⟩|⟨j,hj,hl,h',hw,-⟩
  ·rw[h'];exact b4g t H (.inl ⟨hp,h⟩) rfl
  ·rw[h',hw];exact rad4 t H hp hj hl rfl
 ·rw[adF5 hp,adM5 hp]
  unfold Me Lj
  rcases Qm hf with ⟨h,h'⟩|⟨j,hj,hl,h'⟩
  ·rw[h'];exact b4g t H (.inr (.inl ⟨.inl hp,h⟩)) rfl
  ·rw[h',hj,hb];exact rad5 t H hp hj hl (by rw[<- hj];rfl)
 ·rw[adF6 hp,adM6 hp]
  unfold Um a2v
  rcases Qm hf with ⟨h,h'⟩|⟨j,hj,hl,h'⟩
  ·rw[h'];exact b4g t H (.inr (.inl ⟨.inr hp,h⟩)) rfl
  ·rw[h',hj];exact rad6 t H hp hj hl rfl
 ·rw[adF7 hp,adM7 hp]
  unfold Fv
  rw[hb]
  exact rad7 t H hp rfl
 ·rw[adF8 hp,J8 (by omega)]
  exact b4g t H (.inr (.inr hp)) rfl
theorem b1o(t:Int)(M:Mm)(f:Fr)(B lo:Nat)(aS aH aF aL:Option Addr)(cS cH cF cL:Nat)(aK:Option Addr)(cK:Nat)(w:Wq)
  (m:Mine Xb w B lo aS aH aF aL cS cH cF cL M) (hM:Ok M) (hf:Fit M f) (hk:f.c.k=3) (r:Az w aK cK f.t) (hz:∀ ad,aK=some ad->¬ Ac B aS aH aF aL ad.block) :
  aI Pg 71 #[Ae B,Ai f aK cK,O J t] w fun e w'=>Ret w w' e (drF M f) aK cK/\Has Xb w' B lo (Up w (Ac B aS aH aF aL)) (drM t M f)/\Fine w w' (Ac B aS aH aF aL):=by
 unfold Ae Ai
 refine(b1n (R:=RQ Xb w (Ac B aS aH aF aL) B lo aK cK (drM t M f) (drF M f)) t M f B lo aS aH aF aL cS cH cF cL aK cK w m hM hf r hz fun w1 b H=>?_).mono fun e w' h=>⟨⟨aK,cK,h.1.1,h.1.2,fun _ h=>.inl h,fun _=>⟨rfl,rfl⟩⟩,h.2⟩
 have hb:bkN M f=b:=by unfold bkN;rw[H.bb.o];rfl
 have h8:f.l=0\/f.l=1\/f.l=2\/f.l=3\/f.l=4\/f.l=5\/f.l=6\/7<=f.l:=by have:=hf.l;omega
 rcases h8 with hp|hp|hp|hp|hp|hp|hp|hp
 ·rw[drF0 hp,drM0 hp]
  unfold Gm Fq
  rw[hb]
  exact rdr0 t H hp rfl
 ·rw[drF1 hp,Ja (by omega),hb]
  exact rdr1 t H hp rfl
 ·rw[drF2 hp,Ja (by omega)]
  unfold Ut
  rcases J9 hf with ⟨h,h',-⟩|⟨j,hj,hl,h',hw,-⟩
  ·rw[h'];exact rdr2 t H hp h rfl
  ·rw[h',hw];exact rdr2b t H hp hj hl rfl
 ·rw[drF3 hp,Ja (by omega)]
  unfold Qs
  rcases J9 hf with ⟨h,h',-⟩|⟨j,hj,hl,h',hw,-⟩
  ·rw[h'];exact b6s t H (.inl ⟨.inl hp,h⟩) rfl
  ·rw[h',hw,hj];exact rdr3 t H hp hj hl rfl
 ·rw[drF4 hp,drM4 hp]
  unfold Qj H9
  rcases J9 hf with ⟨h,h',-⟩|⟨j,hj,hl,h',hw,-⟩
  ·rw[h'];exact b6s t H (.inl ⟨.inr hp,h⟩) rfl
  ·rw[h',hw,hb];exact rdr4 t H hp hj hl rfl
 ·rw[drF5 hp,drM5 hp]
  unfold Fv
  rw[hb]
  exact rdr5 t H hp rfl
 ·rw[drF6 hp,drM6 hp]
  unfold U8
  rcases Qm hf with ⟨h,h'⟩|⟨j,hj,hl,h'⟩
  ·rw[h'];exact rdr6b t H hp (by have:=hf.h.1;omega) rfl
  ·rw[h',hj];exact rdr6 t H hp hj hl rfl
 ·rw[drF7 hp,Ja (by omega)]
  exact b6s t H (.inr hp) rfl
theorem b1w(t:Int)(M:Mm)(f:Fr)(B lo:Nat)(aS aH aF aL:Option Addr)(cS cH cF cL:Nat)(aK:Option Addr)(cK:Nat)(w:Wq)
  (m:Mine Xb w B lo aS aH aF aL cS cH cF cL M) (hM:Ok M) (hf:Fit M f) (hk:f.c.k=4\/f.c.k=5) (r:Az w aK cK f.t) (hz:∀ ad,aK=some ad->¬ Ac B aS aH aF aL ad.block) :
  aI Pg 74 #[Ae B,Ai f aK cK,O J t] w fun e w'=>a9c w w' e (swF M f) aK cK f.t/\Has Xb w' B lo (Up w (Ac B aS aH aF aL)) (swM t M f)/\Fine w w' (Ac B aS aH aF aL):=by
 unfold Ae Ai
 by_cases hL:f.l=2/\Fe M f=true/\f.c.k=5/\f.t.length<100
 ·obtain⟨hp,ha,h5,ut⟩:=hL
  obtain⟨j,hj,hl,hw⟩:∃ j:Nat,f.u=(j:Int)+1/\j<M.s.length/\f.u - 1=j:=by
   rcases J9 hf with ⟨h,h',-⟩|⟨j,hj,hl,-,hw,-⟩
   ·rw[h'] at ha;cases ha
   ·exact⟨j,hj,hl,hw⟩
  obtain⟨b0,b1⟩:=Ia hM hf.call
  obtain⟨b,hb⟩:∃ b:Nat,Fz M.h.length f.c=b:=⟨_,(Int.toNat_of_nonneg b0).symm⟩
  have ig:=hM.ns
  have jf:=hM.nh
  rw[b4r hp,Ip (by omega)]
  unfold F6 Ob
  rw[af ha,af h5,af ut,hw]
  have hd:=hf.d
  obtain⟨c,pl,sU,jh,jg,nn,gz,done,ee⟩:=f
  simp only at hp hj hd h5 ut hb r
  subst hp hj hd
  exact(b1u t M c jh jg nn ee gz B lo aS aH aF aL cS cH cF cL aK cK w b m r hz j _ ig hl rfl (by simp[h5]) ut _ rfl (fun W=>hb ▸ Ib aS aH aF aL _ _ _ _ cS cH cF cL M.w c W (by omega))).mono fun _ _ h=>⟨.inr h.1,h.2⟩
 have vN:(swF M f).t=f.t:=by
  by_cases h2:f.l=2
  ·rw[b4r h2]
   unfold F6 Ob
   by_cases ha:Fe M f=true
   ·rw[af ha]
    by_cases h5:f.c.k=5
    ·rw[af h5,ae (fun h=>hL ⟨h2,ha,h5,h⟩)]
    ·rw[ae h5];split <;> rfl
   ·rw[ae ha];rfl
  ·unfold swF Gm Lc Mc Oj
   repeat' split
   all_goals first|rfl|exact absurd (by assumption) h2
 refine(b1v (R:=RQ Xb w (Ac B aS aH aF aL) B lo aK cK (swM t M f) (swF M f)) t M f B lo aS aH aF aL cS cH cF cL aK cK w m hM hf r hz fun w1 b H=>?_).mono fun e w' h=>⟨.inl ⟨h.1.1,vN,h.1.2⟩,h.2⟩
 have hb:bkN M f=b:=by unfold bkN;rw[H.bb.o];rfl
 have h8:f.l=0\/f.l=1\/f.l=2\/f.l=3\/f.l=4\/f.l=5\/f.l=6\/7<=f.l:=by have:=hf.l;omega
 rcases h8 with hp|hp|hp|hp|hp|hp|hp|hp
 ·rw[swF0 hp,swM0 hp]
  unfold Gm Fq
  rw[hb]
  exact rsw0 t H hp rfl
 ·rw[swF1 hp,Ip (by omega),hb]
  exact rsw1 t H hp rfl
 ·rw[b4r hp,Ip (by omega)]
  unfold F6 Ob
  rcases J9 hf with ⟨h,h',-⟩|⟨j,hj,hl,h',hw,-⟩
  ·rw[h'];exact rsw2 t H hp h rfl
  ·rw[h',hw]
   by_cases h5:f.c.k=5
   ·have ut:¬ f.t.length<100:=fun h=>hL ⟨hp,h',h5,h⟩
    rw[af rfl,af h5,ae ut]
    exact rsw2b t H hp hj hl (by simp[h5]) (by omega) rfl
   ·rw[af rfl,ae h5]
    exact rsw2c t H hp hj hl (by simp[h5]) (by split <;> rfl)
 ·rw[swF3 hp,Ip (by omega)]
  unfold Lc
  rcases J9 hf with ⟨h,h',-⟩|⟨j,hj,hl,h',hw,-⟩
  ·rw[h'];exact b4p t H (.inl ⟨.inl hp,h⟩) rfl
  ·rw[h',hw,hj];exact rsw3 t H hp hj hl rfl
 ·rw[swF4 hp,swM4 hp]
  unfold Mc H9
  rcases J9 hf with ⟨h,h',-⟩|⟨j,hj,hl,h',hw,-⟩
  ·rw[h'];exact b4p t H (.inl ⟨.inr hp,h⟩) rfl
  ·rw[h',hw,hb];exact rsw4 t H hp hj hl rfl
 ·rw[swF5 hp,swM5 hp]
  unfold Oj U8
  rcases Qm hf with ⟨h,h'⟩|⟨j,hj,hl,h'⟩
  ·rw[h'];exact b4p t H (.inr (.inl ⟨hp,h⟩)) rfl
  ·rw[h',hj];exact rsw5 t H hp hj hl rfl
 ·rw[swF6 hp,swM6 hp]
  unfold Fv
  rw[hb]
  exact rsw6 t H hp rfl
 ·rw[swF7 hp,Ip (by omega)]
  exact b4p t H (.inr (.inr hp)) rfl
end
section
open ChangeShapes WideShapes ChangeAt RowKit Joins Deep Maps
def a9b(W:Wq)(n0 B:Nat)(aS aH aF aL:Option Addr)(g n cT:Nat)(aK:Option Addr)(G:Fr)(N:Mm)(a:Option Addr)(c:Nat)(w':Wq):Prop :=
 Az w' a c G.t/\(∀ ad,a=some ad->aK=some ad\/W.heap.size<=ad.block)/\Has (Xw (some ⟨g,0,none⟩) n cT) w' B n0 (Up W (Ac B aS aH aF aL)) N/\Fine W w' (Ac B aS aH aF aL)
theorem Zy{n0 B:Nat}{aS aH aF aL:Option Addr}{g n cT:Nat}{aK a:Option Addr}{c:Nat}{G:Fr}{N:Mm}(hb:Below W.heap.size W V)(h1:Az w' a c G.t)(h2:∀ ad,a=some ad->aK=some ad\/V.heap.size<=ad.block)(h3:Has (Xw (some ⟨g,0,none⟩) n cT) w' B n0 (Up V (Ac B aS aH aF aL)) N)(h4:Fine V w' (Ac B aS aH aF aL)):a9b W n0 B aS aH aF aL g n cT aK G N a c w' :=
 ⟨h1,fun ad e=>(h2 ad e).imp id (dQ hb.size),h3.mono fun k _ h=>h.imp id (dQ hb.size),(Fine.of_below _ hb).trans h4 fun _ _ h=>h⟩
section
variable {w W3:Wq} {n0 dw:Nat} {aS aH aF aL:Option Addr} {cS cH cF cL g cT n:Nat} {M:Mm} {l:List (Tk × TkV)} {x:Pk} {B lo:Nat}
theorem a3w(h:WM W3 n0 B lo dw aS aH aF aL cS cH cF cL M g cT n l){i:Nat}(hi:i<l.length){G:Fr}{N:Mm}{a:Option Addr}{c:Nat}{w':Wq}(hp:a9b W3 lo B aS aH aF aL g n cT l[i].2.aK G N a c w') :
  w'.there g (i*16+1) 14/\Cf (w'.setCells g (i*16+1) (G.enc a c)) dw g cT (l.set i (⟨l[i].1.b,G,l[i].1.u⟩,⟨a,c,l[i].2.aH,l[i].2.cH⟩))/\Has (Xw (some ⟨g,0,none⟩) n cT) (w'.setCells g (i*16+1) (G.enc a c)) B lo (Up W3 (Ac B aS aH aF aL)) N/\Fine W3 (w'.setCells g (i*16+1) (G.enc a c)) (fun k=>Ac B aS aH aF aL k\/TB g l k):=by
 obtain⟨h1,h2,h3,h4⟩:=hp
 have qP:=bJ hi
 have vT:=h.t.glo
 have T:=h.t.fine h4 h.ap
 refine⟨T.there hi (by decide),T.a4j hi G a c h1 (fun ad e=>?_) (fun _ ad e=>?_) (fun _ q hq y b hy hb=>?_),h3.same (by rw[setCells_size];exact aC _) fun k _ hk=>Af ?_ _ _ _,Hu (h4.mono fun k hk=>.inl hk) (.inl (.inr (.inl rfl)))⟩
 ·rcases h2 ad e with h'|h'
  ·exact h.t.klo _ qP ad h'
  ·omega
 ·rcases h2 ad e with h'|h'
  ·exact(h.ka _ qP ad h').2.1
  ·omega
 ·rcases h2 y hy with h'|h'
  ·exact(h.ka _ qP y h').2.2 q hq b hb
  ·have:=(h.t.hlo hq hb).2;omega
 ·rintro rfl
  rcases hk with hk|hk
  ·exact h.ap _ hk (.inl rfl)
  ·omega
theorem U1(h:WM W3 n0 B lo dw aS aH aF aL cS cH cF cL M g cT n l){i:Nat}(hi:i<l.length){G:Fr}{H:List Int}{v:TkV}{N:Mm}{V:Wq}{b:Bool}(T:Cf V dw g cT (l.set i (⟨b,G,H⟩,v)))(HH:Has (Xw (some ⟨g,0,none⟩) n cT) V B lo (Up W3 (Ac B aS aH aF aL)) N)(hf:Kept W3 V B n0) :
  V.cell? ⟨g,i*16+1+12,none⟩=some (.bool G.d)/\V.cell? ⟨g,i*16,none⟩=some (.bool b)/\V.frozen? ⟨g,i*16,none⟩=false/\g<V.heap.size /\
  WP n0 B ⟨N,(l.map (·.1)).set i ⟨!G.d,G,H⟩⟩ W3 (V.setCell ⟨g,i*16,none⟩ (.bool (!G.d))):=by
 have rQ:i<(l.set i (⟨b,G,H⟩,v)).length:=by rw[dZ];exact hi
 have vU:(l.set i (⟨b,G,H⟩,v))[i]'rQ=(⟨b,G,H⟩,v):=mF ..
 have vT:=h.t.glo
 have c13:=T.cell (q:=13) rQ (by decide)
 have cb:=T.b rQ
 have T2:=T.setB rQ (!G.d)
 rw[vU] at c13 cb
 rw[vU,List.set_set] at T2
 refine⟨c13,cb.1,cb.2,T.glo.2,Vd (HH.same (by rw[eQ];exact aC _) fun k _ hk=>dM _ _ _ _ ?_) T2 (by rw[dZ];exact h.len) h.hlo h.hlo2 ⟨hf.os,hf.tape,hf.output,by rw[eQ];exact hf.size,fun k hk iw=>(dM _ _ _ _ ?_).trans (hf.block k hk iw)⟩ (by rw[List.map_set])⟩
 ·dsimp only
  rintro rfl
  rcases hk with hk|hk
  ·exact h.ap _ hk (.inl rfl)
  ·omega
 ·dsimp only
  have:=h.hlo2
  omega
theorem b0z(h:WM W3 n0 B lo dw aS aH aF aL cS cH cF cL M g cT n l)(hM:Ok M){i:Nat}(hi:i<l.length)(hf:Fit M l[i].1.f){F:Nat}(hk:(l[i].1.f.c.k=2/\F=70)\/(l[i].1.f.c.k=3/\F=71)\/((l[i].1.f.c.k=4\/l[i].1.f.c.k=5)/\F=74)) :
  ∃ G N,stepT M i l[i].1=(N,⟨!G.d,G,l[i].1.u⟩)/\∀ V,Below W3.heap.size W3 V->aI Pg F #[Ae B,Ai (l[i].1.f) (l[i].2.aK) (l[i].2.cK),O J (i:Int)] V fun e w'=>∃ a c,e=.returned (.agg #[O J G.c.k,O J G.c.a,O J G.c.b,O J G.c.t,O J G.c.q,O J G.c.h,O J G.l,O J G.u,O J G.p,O J G.h,O J G.n,Y a G.t.length c,.bool G.d,O J G.e])/\a9b W3 lo B aS aH aF aL g n cT l[i].2.aK G N a c w':=by
 unfold Ae Ai
 have qP:=bJ hi
 have hr:∀ V,Below W3.heap.size W3 V->Az V l[i].2.aK l[i].2.cK l[i].1.f.t:=fun V hb=>(h.t.t _ qP).below hb
 have hz:∀ ad,l[i].2.aK=some ad->¬ Ac B aS aH aF aL ad.block:=fun ad e h'=>h.ap _ h' (.inr (.inr ⟨_,qP,ad,e,rfl⟩))
 rcases hk with ⟨hk,rfl⟩|⟨hk,rfl⟩|⟨hk,rfl⟩
 ·refine⟨adF M l[i].1.f,adM i M l[i].1.f,by unfold stepT;rw[ae (by omega),af hk];rfl,fun V hb=>(b1i (i:Int) M _ B lo aS aH aF aL cS cH cF cL _ _ V (h.m.below hb) hM hf hk (hr V hb) hz).mono ?_⟩
  rintro e w' ⟨⟨a,c,h1,h2,h3,-⟩,h4,h5⟩
  exact⟨a,c,h1,Zy hb h2 h3 h4 h5⟩
 ·refine⟨drF M l[i].1.f,drM i M l[i].1.f,by unfold stepT;rw[ae (by omega),ae (by omega),af hk];rfl,fun V hb=>(b1o (i:Int) M _ B lo aS aH aF aL cS cH cF cL _ _ V (h.m.below hb) hM hf hk (hr V hb) hz).mono ?_⟩
  rintro e w' ⟨⟨a,c,h1,h2,h3,-⟩,h4,h5⟩
  exact⟨a,c,h1,Zy hb h2 h3 h4 h5⟩
 ·refine⟨swF M l[i].1.f,swM i M l[i].1.f,by unfold stepT;rw[ae (by omega),ae (by omega),ae (by omega),ae (by omega)];rfl,fun V hb=>(b1w (i:Int) M _ B lo aS aH aF aL cS cH cF cL _ _ V (h.m.below hb) hM hf hk (hr V hb) hz).mono ?_⟩
  rintro e w' ⟨h0,h4,h5⟩
  obtain⟨a,c,h1,h2,h3⟩:=h0.three (a0e hf)
  exact⟨a,c,h1,Zy hb h2 h3 h4 h5⟩
theorem Xn(h:PkH w W3 n0 dw aS aH aF aL cS cH cF cL g cT n M l x)(ht:x.tick=false)(hx:x.s=i)(hi:i<l.length)(hs:x.step=true)(hb:l[i].1.b=true)(hf:Fit M l[i].1.f)(hk:(l[i].1.f.c.k=2/\F=70)\/(l[i].1.f.c.k=3/\F=71)\/((l[i].1.f.c.k=4\/l[i].1.f.c.k=5)/\F=74))(hE:Qi (doE ⟨M,l.map (·.1)⟩ x=0))(hW:Qi (doW ⟨M,l.map (·.1)⟩ x=⟨(stepT M i l[i].1).1,(l.map (·.1)).set i (stepT M i l[i].1).2⟩))(v0 v1 v11 v12:dU) :
  Code.wp Pg (I8 (I8 (I8 (Tryz.f22.body.getD .skip)))) (bodyPost Pg pF (Ku w ⟨M,l.map (·.1)⟩ x)) (Om w.heap.size v0 v1 v11 v12) W3:=by
 obtain⟨G,N,wC,hC⟩:=b0z h.wm h.ok hi hf hk
 have HC:Qi (∀ V,Below W3.heap.size W3 V->aI Pg F #[Ae w.heap.size,Ai (l[i].1.f) (l[i].2.aK) (l[i].2.cK),O J (i:Int)] V fun e w'=>∃ a c,e=.returned (.agg #[O J G.c.k,O J G.c.a,O J G.c.b,O J G.c.t,O J G.c.q,O J G.c.h,O J G.l,O J G.u,O J G.p,O J G.h,O J G.n,Y a G.t.length c,.bool G.d,O J G.e])/\a9b W3 n0 w.heap.size aS aH aF aL g n cT l[i].2.aK G N a c w'):=hC
 have tu:Qi (doW ⟨M,l.map (·.1)⟩ x=⟨N,(l.map (·.1)).set i ⟨!G.d,G,l[i].1.u⟩⟩):=by show _=_;rw[hW.o,wC]
 obtain⟨x0,x1,x2,x3,x4,x5,x6,x7,x8,xs⟩:=Ql h.bx
 obtain⟨q0,q1,q2,q3,q4,q5,qs⟩:=Bh h.wm.m.box
 have d0:=(h.wm.t.b hi).1
 have d1:W3.cell? ⟨g,i*16+1,none⟩=_:=h.wm.t.cell (q:=1) hi (by decide)
 have lF:Qi (W3.rangeAt g (i*16+1) (l[i].1.f.enc l[i].2.aK l[i].2.cK)):=h.wm.t.Rn hi
 have HP:Qi (PkH w W3 n0 dw aS aH aF aL cS cH cF cL g cT n M l x):=h
 rw[hb] at d0
 rw[ht] at x2
 rw[hs] at x1
 rw[hx] at x0
 have hn:(i:Int)<(n:Int):=by have:=h.wm.len;omega
 have yE:n<=5:=by rw[<- h.wm.len];exact h.wm.t.few
 have Hhk:=hk
 clear hC wC hW h ht hs hx hb hf hk
 unfold Om
 conv=>arg 2;whnf
 obtain⟨kd,OA⟩:∃ kd,kd=l[i].1.f.c.k:=⟨_,rfl⟩
 rw[<- OA] at Hhk
 have d1':W3.cell? ⟨g,i*16+1,none⟩=some (O J kd):=by rw[OA];exact d1
 clear d1
 rcases Hhk with ⟨rfl,rfl⟩|⟨rfl,rfl⟩|⟨rfl|rfl,rfl⟩
 all_goals
  go_wp2_with fail
  refine b1q (by omega) rfl rfl rfl rfl x0 lF.o HC.o (fun a c V hp=>(a3w HP.o.wm hi hp).1) fun y a c V hp=>?_
  obtain⟨-,T4,H4,F4⟩:=a3w HP.o.wm hi hp
  have K4:=HP.o.wm.kept F4
  obtain⟨c13,cb,cf,cg,wR⟩:=U1 HP.o.wm hi T4 H4 K4
  obtain⟨c0,c1,c2,c3,c4,c5,r6,t6,o6,b6,hQ⟩:=Oe wR HP.o.bz HP.o.big HP.o.bel hE.o tu.o.symm
  have R6:Qi _:=r6
  have T6:Qi _:=t6
  have HQ:Qi _:=hQ
  obtain⟨z0,z1,z2,z3,z4,z5,zs⟩:=Bh b6
  simp only[mkA,dS,List.foldl_cons,List.foldl_nil,Act.put,List.setIfInBounds_toArray,Nat.reduceAdd,List.set_cons_succ,List.set_cons_zero]
  clear r6 t6 hQ wR K4 T4 H4 F4 hp HC lF HP hE tu x0 x1 x2 x3 x4 x5 x6 x7 x8 q0 q1 q2 q3 q4 q5 d0 d1'
  generalize V.setCells g (i*16+1) (G.enc a c)=W4 at *
  go_wp2_with (first|(refine F8 rfl _ rfl rfl R6.o ?_;clear R6)|(refine Iu rfl _ _ rfl rfl rfl T6.o o6 ?_;clear T6))
  generalize (W4.setCell ⟨g,i*16,none⟩ (.bool (!G.d))).setCells (w.heap.size+1+1) 0 [c0,c1,c2,c3,c4,c5]=W6 at *
  refine gZ (v:=.tuple #[.agg #[c0,c1,c2,c3,c4,c5],O J 0]) (by simp[results,results22,go_sem,z0,z1,z2,z3,z4,z5]) rfl HQ.o
end
end
section
open ChangeShapes WideShapes ChangeAt RowKit Joins Deep Maps
theorem Y2{w w':Wq}{v:dU}{K:Act->Wq->Prop}{Q:Exit->Act->Wq->Prop}(hr:(kD a.eval op).run P w=.ok (.value v) w')(h:K (a.put op.dst v) w'):op.wp P a w K Q:=by
 unfold Oper.wp
 rw[hr]
 exact h
theorem wp_skip{w w':Wq}{K:Act->Wq->Prop}{Q:Exit->Act->Wq->Prop}(hr:(kD a.eval op).run P w=.ok .skip w')(h:K (a.put op.dst Uz) w'):op.wp P a w K Q:=by
 unfold Oper.wp
 rw[hr]
 exact h
theorem b6o{w V w2:Wq}{n0 B lo dw:Nat}{aS aH aF aL:Option Addr}{cS cH cF cL:Nat}{M N:Mm}{g cT n i g2 eu:Nat}{l:List (Tk × TkV)}{F:Fr}{H:List Int}{a:Option Addr}{c:Nat}{o:Obj}{b:Bool}{s:Int}(h:WM w n0 B lo dw aS aH aF aL cS cH cF cL M g cT n l)(hi:i<l.length)
  (T:Cf V dw g cT (l.set i (⟨b,F,H⟩,⟨a,c,l[i].2.aH,l[i].2.cH⟩))) (HH:Has (Xw (some ⟨g,0,none⟩) n cT) V B lo (Up w (Ac B aS aH aF aL)) N) (hf:Fine w V (fun k=>Ac B aS aH aF aL k\/TB g l k))
  (ho:w2.ownsRow dw 3 1 (Y (some ⟨g2,0,none⟩) (H.length+1) eu) (H.length+1) (encI H ++ [O J s])) (hg:(V.alloc o).grownBy w2 (eX l[i].2.aH H.length l[i].2.cH).ownBlock)
  (hl:(some g2:Option Nat)=(eX l[i].2.aH H.length l[i].2.cH).ownBlock\/some g2=some (V.alloc o).heap.size) (hn:H.length<=100) :
  Cf (w2.setCell ⟨g,i*16+15,none⟩ (Y (some ⟨g2,0,none⟩) (H.length+1) eu)) dw g cT (l.set i (⟨b,F,H ++ [s]⟩,⟨a,c,some ⟨g2,0,none⟩,eu⟩))/\Has (Xw (some ⟨g,0,none⟩) n cT) (w2.setCell ⟨g,i*16+15,none⟩ (Y (some ⟨g2,0,none⟩) (H.length+1) eu)) B lo (Up w (Ac B aS aH aF aL)) N/\Kept w (w2.setCell ⟨g,i*16+15,none⟩ (Y (some ⟨g2,0,none⟩) (H.length+1) eu)) B n0:=by
 have qP:=bJ hi
 have zU:∀ k,k<V.heap.size->(∀ ad,l[i].2.aH=some ad->k≠ad.block)->w2.heap[k]?=V.heap[k]?:=fun k hk iw=>by
  refine(hg.block k (by simp;omega) (fun e=>?_)).trans (fU _ _ _ hk)
  cases ha:l[i].2.aH with
  | none=>rw[ha] at e;cases e
  | some ad=>rw[ha] at e;injection e with e;exact iw ad ha e
 have CO:i<(l.set i (⟨b,F,H⟩,(⟨a,c,l[i].2.aH,l[i].2.cH⟩:TkV))).length:=by rw[dZ];exact hi
 have OH:(l.set i (⟨b,F,H⟩,(⟨a,c,l[i].2.aH,l[i].2.cH⟩:TkV)))[i]'CO=(⟨b,F,H⟩,⟨a,c,l[i].2.aH,l[i].2.cH⟩):=mF ..
 have hz:(V.alloc o).heap.size=V.heap.size+1:=by simp
 have T4:=T.setH (w1:=w2) CO (H ++ [s]) (some ⟨g2,0,none⟩) eu (by simp;omega) (by
  rw[show (H ++ [s]).length=H.length+1 by simp,show encI (H ++ [s])=encI H ++ [O J s] by simp[encI]]
  exact ho) (by rw[OH];exact zU) (fun x hx=>by
  rw[OH]
  injection hx with hx
  subst hx
  rcases hl with e|e
  ·cases ha:l[i].2.aH with
   | none=>rw[ha] at e;cases e
   | some ad=>rw[ha] at e;injection e with e;exact .inl ⟨ad,rfl,e⟩
  ·injection e with e
   exact .inr (by show V.heap.size<=g2;omega))
 rw[OH,List.set_set,show (H ++ [s]).length=H.length+1 by simp] at T4
 have vT:=h.t.glo
 have zO:w.heap.size<=V.heap.size:=hf.size
 have uq:∀ k,k≠g->(w2.setCell ⟨g,i*16+15,none⟩ (Y (some ⟨g2,0,none⟩) (H.length+1) eu)).heap[k]?=w2.heap[k]?:=fun k hk=>dM _ _ _ _ (by dsimp only;exact hk)
 refine⟨T4,HH.same (by rw[eQ];have:=hg.size;omega) fun k hk wB=>?_,?_⟩
 ·have iw:¬ TB g l k\/w.heap.size<=k:=wB.imp (h.ap k) id
  rw[uq k (by
   rintro rfl
   rcases iw with h'|h'
   ·exact h' (.inl rfl)
   ·omega)]
  refine zU k hk (fun ad e=>?_)
  rintro rfl
  rcases iw with h'|h'
  ·exact h' (.inr (.inl ⟨_,qP,ad,e,rfl⟩))
  ·have:=(h.t.hlo qP e).2;omega
 ·have gu:=h.kept hf
  have h1:=h.hlo2
  have qg:=h.size
  refine⟨hg.os.trans gu.os,hg.tape.trans gu.tape,hg.output.trans gu.output,by rw[eQ];have:=hg.size;omega,fun k hk iw=>?_⟩
  refine(uq k (by omega)).trans ((zU k (by omega) (fun ad e h'=>?_)).trans (gu.block k hk iw))
  have:=(h.t.hlo qP e).1
  omega
def b6i(s:String):Array Oper:=#[⟨some 162,.move (.tmp 7),113,s,#[],none⟩,⟨some 163,.move (.tmp 7),113,s,#[],none⟩,⟨some 164,.nilCheck (.tmp 163),0,s,#[⟨1,.data⟩],none⟩,⟨some 165,.fieldAddr 49 (.tmp 164) 2,0,s,#[⟨2,.data⟩],none⟩,⟨some 166,.load 23 (.tmp 165),23,s,#[⟨3,.data⟩],none⟩,⟨some 167,.move (.tmp 7),113,s,#[],none⟩,⟨some 168,.nilCheck (.tmp 167),0,s,#[⟨5,.data⟩],none⟩,⟨some 169,.fieldAddr 49 (.tmp 168) 1,0,s,#[⟨6,.data⟩],none⟩,⟨some 170,.fieldAddr 47 (.tmp 169) 4,0,s,#[⟨7,.data⟩],none⟩,⟨some 171,.load 3 (.tmp 170),3,s,#[⟨8,.data⟩],none⟩,⟨some 172,.buildSlice 23 1 #[(0,.tmp 171)],23,s,#[⟨9,.data⟩],none⟩,
 ⟨some 173,.call { callee:=.builtin .append,args:=#[.tmp 166,.tmp 172],argTypes:=#[23,23] },23,s,#[⟨4,.data⟩,⟨10,.data⟩],none⟩,⟨some 174,.nilCheck (.tmp 162),0,s,#[⟨0,.data⟩,⟨0,.phase⟩,⟨1,.phase⟩,⟨2,.phase⟩,⟨3,.phase⟩,⟨4,.phase⟩,⟨5,.phase⟩,⟨6,.phase⟩,⟨7,.phase⟩,⟨8,.phase⟩,⟨9,.phase⟩,⟨10,.phase⟩,⟨11,.phase⟩],none⟩,⟨some 175,.fieldAddr 49 (.tmp 174) 2,0,s,#[⟨12,.data⟩,⟨0,.phase⟩,⟨1,.phase⟩,⟨2,.phase⟩,⟨3,.phase⟩,⟨4,.phase⟩,⟨5,.phase⟩,⟨6,.phase⟩,⟨7,.phase⟩,⟨8,.phase⟩,⟨9,.phase⟩,⟨10,.phase⟩,⟨11,.phase⟩],none⟩,
 ⟨none,.store 23 (.tmp 175) (.tmp 173),0,s,#[⟨13,.data⟩,⟨11,.data⟩,⟨11,.chain⟩,⟨0,.phase⟩,⟨1,.phase⟩,⟨2,.phase⟩,⟨3,.phase⟩,⟨4,.phase⟩,⟨5,.phase⟩,⟨6,.phase⟩,⟨7,.phase⟩,⟨8,.phase⟩,⟨9,.phase⟩,⟨10,.phase⟩,⟨11,.phase⟩],none⟩]
def dA:List Nat:=[162,163,164,165,166,167,168,169,170,171,172,173,174,175]
theorem Jt(x:Nat->dU){k:Nat}(h:(D.contains k && decide (k<A.tmps.size))=true):(mkA A D x).tmps[k]?.getD Uz=x k:=by
 have h':=b0n (a:=A) (D:=D) (x:=x) (k:=k) h
 rwa [oQ,Array.getD_eq_getD_getElem?] at h'
theorem Dw(x:Nat->dU){k:Nat}{v:dU}(h:D.contains k=false)(hv:A.eval (.tmp k)=v):(mkA A D x).tmps[k]?.getD Uz=v:=by
 have h':=a5r (a:=A) (D:=D) (x:=x) (k:=k) h
 rw[hv,oQ,Array.getD_eq_getD_getElem?] at h'
 exact h'
theorem Y3(w:Wq)(v:dU)(e:dX):(w.alloc (.cells #[v] e)).cell? ⟨w.heap.size,0,none⟩=some v:=by
 rw[dN (fP w _)]
 rfl
theorem a9i{lo b cD:Nat}{aD:Option Addr}{H:List Int}{s:Int}(jv:V.ownsRow lo 3 1 (Y aD H.length cD) H.length (encI H))(hb:V.cell? ⟨b,0,none⟩=some (O J s))(hn:H.length<=100)(hlo:lo<=V.heap.size) :
  ∃ g2 eu w',(Builtin.append_ #[23,23] 23 #[Y aD H.length cD,Y (some ⟨b,0,none⟩) 1 1]).run Pg V=.ok (Y (some ⟨g2,0,none⟩) (H.length+1) eu) w'/\w'.ownsRow lo 3 1 (Y (some ⟨g2,0,none⟩) (H.length+1) eu) (H.length+1) (encI H ++ [O J s])/\V.grownBy w' (eX aD H.length cD).ownBlock/\((some g2:Option Nat)=(eX aD H.length cD).ownBlock\/some g2=some V.heap.size):=by
 obtain⟨i0,uS,ng,qj,pq⟩:=gG iI
 obtain⟨v',w',hr,h2,h3,-,h5⟩:=run_append_own_at (w:=V) lo 23 23 3 i0 (O J 0) 1 8 underlying23 uS ng qj pq rfl (by decide) _ _ _ jv ⟨b,0,none⟩ 1 1 [O J s] rfl (fun j u hj=>by
  cases j with
  | zero=>injection hj with hj;subst hj;exact hb
  | succ j=>simp at hj) (fun u hu=>by simp at hu;subst hu;rfl) (by unfold gJ;omega) (by omega) hlo
 obtain⟨g2,eu,rfl⟩:=ownsRow_form h2 (by omega)
 exact⟨g2,eu,w',hr,h2,h3,h5⟩
theorem b4m{g o lo:Nat}{s:Int}{H:List Int}{aD:Option Addr}{cD:Nat}(qg:A.tmps.size=263)(e7:A.eval (.tmp 7)=.pointer (some ⟨g,o,none⟩))(xB:W.cell? ⟨g,o+15,none⟩=some (Y aD H.length cD))(QC:W.frozen? ⟨g,o+15,none⟩=false)(AA:W.cell? ⟨g,o+10,none⟩=some (O J s))(jv:W.ownsRow lo 3 1 (Y aD H.length cD) H.length (encI H))(iw:∀ ad,aD=some ad->ad.block≠g)(hn:H.length<=100)(hlo:lo<=W.heap.size)(um:∀ x V ob w2 g2 eu,Below W.heap.size W V->V.heap.size=W.heap.size->w2.ownsRow lo 3 1 (Y (some ⟨g2,0,none⟩) (H.length+1) eu) (H.length+1) (encI H ++ [O J s])->(V.alloc ob).grownBy w2 (eX aD H.length cD).ownBlock->((some g2:Option Nat)=(eX aD H.length cD).ownBlock\/some g2=some (V.alloc ob).heap.size) ->
   Q .normal (mkA A dA x) (w2.setCell ⟨g,o+15,none⟩ (Y (some ⟨g2,0,none⟩) (H.length+1) eu))):(Code.region id (b6i st) true).wp Pg Q A W:=by
 refine Iq (by kernel_rfl) (dA ++ [1000]) dA [10,11,14] [2,2,2,2,1,2,2,2,2,0,0,0,3,2,0]
  [.pointer (some ⟨g,o,none⟩),.pointer (some ⟨g,o,none⟩),.pointer (some ⟨g,o,none⟩),.pointer (some ⟨g,o+15,none⟩),Y aD H.length cD,.pointer (some ⟨g,o,none⟩),.pointer (some ⟨g,o,none⟩),.pointer (some ⟨g,o+1,none⟩),.pointer (some ⟨g,o+10,none⟩),O J s,Uz,Uz,.pointer (some ⟨g,o,none⟩),.pointer (some ⟨g,o+15,none⟩),Uz]
  (fun p x V=>(p=0->Below W.heap.size W V/\V.heap.size=W.heap.size)/\(p=1->∃ V0,Below W.heap.size W V0/\V0.heap.size=W.heap.size/\V=V0.alloc (.cells #[O J s] 3)/\x 172=Y (some ⟨V0.heap.size,0,none⟩) 1 1) /\
   (p=2->∃ V0 ob g2 eu,Below W.heap.size W V0/\V0.heap.size=W.heap.size/\V.ownsRow lo 3 1 (Y (some ⟨g2,0,none⟩) (H.length+1) eu) (H.length+1) (encI H ++ [O J s])/\(V0.alloc ob).grownBy V (eX aD H.length cD).ownBlock/\((some g2:Option Nat)=(eX aD H.length cD).ownBlock\/some g2=some (V0.alloc ob).heap.size)/\x 173=Y (some ⟨g2,0,none⟩) (H.length+1) eu) /\
   (p=3->∃ V0 ob w2 g2 eu,Below W.heap.size W V0/\V0.heap.size=W.heap.size/\w2.ownsRow lo 3 1 (Y (some ⟨g2,0,none⟩) (H.length+1) eu) (H.length+1) (encI H ++ [O J s])/\(V0.alloc ob).grownBy w2 (eX aD H.length cD).ownBlock/\((some g2:Option Nat)=(eX aD H.length cD).ownBlock\/some g2=some (V0.alloc ob).heap.size)/\V=w2.setCell ⟨g,o+15,none⟩ (Y (some ⟨g2,0,none⟩) (H.length+1) eu)))
  (by kernel_rfl) (fun V h hs=>⟨fun _=>⟨h,hs⟩,(fun h=>by cases h),(fun h=>by cases h),(fun h=>by cases h)⟩) ?_ ?_ ?_ ?_
 ·rintro p x x' V h hp
  have h1:x' 172=x 172:=h 0 (by decide)
  have h2:x' 173=x 173:=h 1 (by decide)
  exact⟨hp.1,fun e=>by rw[h1];exact hp.2.1 e,fun e=>by rw[h2];exact hp.2.2.1 e,hp.2.2.2⟩
 ·intro i hi vz p x V hp hΩ hd o' ho
  have hi:i<15:=hi
  have n8:i≠10/\i≠11/\i≠14:=⟨fun e=>vz (by simp[e]),fun e=>vz (by simp[e]),fun e=>vz (by simp[e])⟩
  have E7:=Dw (A:=A) (D:=dA) x (k:=7) rfl e7
  have ev:∀ k,(dA.contains k && decide (k<263))=true->(mkA A dA x).tmps[k]?.getD Uz=x k:=fun k h=>Jt x (by rw[qg];exact h)
  have hc:(i=4\/i=9)->∀ q,q<W.heap.size->V.heap[q]?=W.heap[q]?:=fun h q hq=>by
   have AY:p=0\/p=1:=by
    have:p<=1:=by rcases h with rfl|rfl;exact hp;exact dQ hp (by decide)
    omega
   rcases AY with rfl|rfl
   ·exact(hΩ.1 rfl).1.block q hq
   ·obtain⟨V0,hb,hs,rfl,-⟩:=hΩ.2.1 rfl
    exact(fU _ _ _ (by omega)).trans (hb.block q hq)
  generalize mkA A dA x=A' at *
  have:i=0\/i=1\/i=2\/i=3\/i=4\/i=5\/i=6\/i=7\/i=8\/i=9\/i=12\/i=13:=by omega
  rcases this with rfl|rfl|rfl|rfl|rfl|rfl|rfl|rfl|rfl|rfl|rfl|rfl
  all_goals
   simp only[b6i,List.getElem?_toArray,List.getElem?_cons_zero,List.getElem?_cons_succ,qA] at ho
   subst ho
  ·simp[kD,go_sem,E7]
  ·simp[kD,go_sem,E7]
  ·have:=(ev 163 rfl).trans (hd 1 (by decide) (by show 1<15;decide) (by kernel_rfl))
   simp[kD,go_sem,this]
  ·have:=(ev 164 rfl).trans (hd 2 (by decide) (by show 2<15;decide) (by kernel_rfl))
   simp[kD,go_sem,this]
  ·have:=(ev 165 rfl).trans (hd 3 (by decide) (by show 3<15;decide) (by kernel_rfl))
   have h15':=(World.cell?_of_block (a:=⟨g,o+15,none⟩) (hc (.inl rfl) g (cell_lt xB))).trans xB
   simp[kD,go_sem,this,h15']
  ·simp[kD,go_sem,E7]
  ·have:=(ev 167 rfl).trans (hd 5 (by decide) (by show 5<15;decide) (by kernel_rfl))
   simp[kD,go_sem,this]
  ·have:=(ev 168 rfl).trans (hd 6 (by decide) (by show 6<15;decide) (by kernel_rfl))
   simp[kD,go_sem,this]
  ·have:=(ev 169 rfl).trans (hd 7 (by decide) (by show 7<15;decide) (by kernel_rfl))
   simp[kD,go_sem,this]
  ·have:=(ev 170 rfl).trans (hd 8 (by decide) (by show 8<15;decide) (by kernel_rfl))
   have h10':=(World.cell?_of_block (a:=⟨g,o+10,none⟩) (hc (.inr rfl) g (cell_lt xB))).trans AA
   simp[kD,go_sem,this,h10']
  ·have:=(ev 162 rfl).trans (hd 0 (by decide) (by show 0<15;decide) (by kernel_rfl))
   simp[kD,go_sem,this]
  ·have:=(ev 174 rfl).trans (hd 12 (by decide) (by show 12<15;decide) (by kernel_rfl))
   simp[kD,go_sem,this]
 ·intro q hq x V hΩ hd o' ho
  have hq:q<3:=hq
  have ev:∀ k,(dA.contains k && decide (k<263))=true->(mkA A dA x).tmps[k]?.getD Uz=x k:=fun k h=>Jt x (by rw[qg];exact h)
  obtain rfl|rfl|rfl:q=0\/q=1\/q=2:=by omega
  all_goals
   simp only[b6i,nZ,oC,List.getElem?_toArray,List.getElem?_cons_zero,List.getElem?_cons_succ,qA] at ho
   subst ho
  ·have h9:=(ev 171 rfl).trans (hd 9 (by decide) (by show 9<15;decide) (by kernel_rfl))
   have hb:=hΩ.1 rfl
   generalize mkA A dA x=A' at *
   refine Y2 (v:=Y (some ⟨V.heap.size,0,none⟩) 1 1) (w':=V.alloc (.cells #[O J s] 3)) (by simp[go_sem,h9]) ⟨_,rfl,(fun h=>by cases h),fun _=>⟨V,hb.1,hb.2,rfl,?_⟩,(fun h=>by cases h),(fun h=>by cases h)⟩
   show Eu x 172 _ 172=_
   simp[Eu]
  ·have h4:=(ev 166 rfl).trans (hd 4 (by decide) (by show 4<15;decide) (by kernel_rfl))
   have AA:=ev 172 rfl
   generalize mkA A dA x=A' at *
   refine pY (hΩ.2.1 rfl) fun V0 hV=>?_
   have hoV:V.ownsRow lo 3 1 (Y aD H.length cD) H.length (encI H):=by
    rw[hV.2.2.1]
    exact(Cb jv fun k hk=>hV.1.block k (jv.lt k hk).2).alloc _
   have hcV:V.cell? ⟨V0.heap.size,0,none⟩=some (O J s):=by
    rw[hV.2.2.1]
    exact Y3 V0 _ _
   have hzV:V.heap.size=W.heap.size+1:=by rw[hV.2.2.1,<- hV.2.1];simp
   refine pY (a9i hoV hcV hn (by omega)) fun g2 h1=>?_
   refine pY h1 fun eu h2=>?_
   refine pY h2 fun w' h3=>?_
   refine Y2 (Ox rfl (by rw[oQ,Array.getD_eq_getD_getElem?];exact h4) (by rw[oQ,Array.getD_eq_getD_getElem?];exact AA.trans hV.2.2.2) h3.1) ⟨_,rfl,(fun h=>by cases h),(fun h=>by cases h),fun _=>⟨V0,.cells #[O J s] 3,g2,eu,hV.1,hV.2.1,h3.2.1,?_,?_,?_⟩,(fun h=>by cases h)⟩
   ·rw[<- hV.2.2.1];exact h3.2.2.1
   ·rw[<- hV.2.2.1];exact h3.2.2.2
   ·show Eu x 173 _ 173=_
    simp[Eu]
  ·have zt:=(ev 175 rfl).trans (hd 13 (by decide) (by show 13<15;decide) (by kernel_rfl))
   have OX:=ev 173 rfl
   generalize mkA A dA x=A' at *
   refine pY (hΩ.2.2.1 rfl) fun V0 hV=>?_
   refine pY hV fun ob hV=>?_
   refine pY hV fun g2 hV=>?_
   refine pY hV fun eu hV=>?_
   have gm:=cell_lt xB
   have EW:V.heap[g]?=W.heap[g]?:=(hV.2.2.2.1.block g (by simp;omega) (fun e=>by
    cases aD with
    | none=>cases e
    | some ad=>injection e with e;exact iw ad rfl e.symm)).trans ((fU _ _ _ (by omega)).trans (hV.1.block g gm))
   have c15:=(World.cell?_of_block (a:=⟨g,o+15,none⟩) EW).trans xB
   have BM:=(World.frozen?_of_block (a:=⟨g,o+15,none⟩) EW).trans QC
   have h11':=OX.trans hV.2.2.2.2.2
   exact wp_skip (w':=V.setCell ⟨g,o+15,none⟩ (Y (some ⟨g2,0,none⟩) (H.length+1) eu)) (by simp[kD,go_sem,zt,h11',c15,BM]) ⟨_,rfl,(fun h=>by cases h),(fun h=>by cases h),(fun h=>by cases h),fun _=>⟨V0,ob,V,g2,eu,hV.1,hV.2.1,hV.2.2.1,hV.2.2.2.1,hV.2.2.2.2.1,rfl⟩⟩
 ·rintro x V hΩ -
  obtain⟨V0,ob,w2,g2,eu,h1,h2,h3,h4,h5,rfl⟩:=hΩ.2.2.2 rfl
  exact um x V0 ob w2 g2 eu h1 h2 h3 h4 h5
end
section
open ChangeShapes WideShapes ChangeAt RowKit Joins Deep
theorem a6m:Pg.cellsOf 78=13:=by kernel_rfl
variable {H:Type} {enc:dX × dU->H} {w:Wq}
theorem a0g{x:kJ H × List kG}(ht:P.underlying t=some (.struct #[f0,f1,f2,f3,f4,f5,f6,f7]))(h:kV enc P w base iq kw qR t cs=some x) :
  ∃ y0 y1 y2 y3 y4 y5 y6 y7 n,x.1=.agg [y0.1,y1.1,y2.1,y3.1,y4.1,y5.1,y6.1,y7.1]/\cs.length=P.cellsOf t/\kV enc P w base iq kw n f0.type ((cs.drop f0.offset).take (P.cellsOf f0.type))=some y0 /\
   kV enc P w base iq kw n f1.type ((cs.drop f1.offset).take (P.cellsOf f1.type))=some y1/\kV enc P w base iq kw n f2.type ((cs.drop f2.offset).take (P.cellsOf f2.type))=some y2 /\
   kV enc P w base iq kw n f3.type ((cs.drop f3.offset).take (P.cellsOf f3.type))=some y3/\kV enc P w base iq kw n f4.type ((cs.drop f4.offset).take (P.cellsOf f4.type))=some y4 /\
   kV enc P w base iq kw n f5.type ((cs.drop f5.offset).take (P.cellsOf f5.type))=some y5/\kV enc P w base iq kw n f6.type ((cs.drop f6.offset).take (P.cellsOf f6.type))=some y6 /\
   kV enc P w base iq kw n f7.type ((cs.drop f7.offset).take (P.cellsOf f7.type))=some y7:=by
 obtain⟨xs,n,_,rfl,hl,jb,hf⟩:=kZ ht h
 match xs,jb with
 | [y0,y1,y2,y3,y4,y5,y6,y7],_=>exact⟨y0,y1,y2,y3,y4,y5,y6,y7,n,by simp,hl,by simpa using hf 0 f0 rfl,by simpa using hf 1 f1 rfl,by simpa using hf 2 f2 rfl,by simpa using hf 3 f3 rfl,by simpa using hf 4 f4 rfl,by simpa using hf 5 f5 rfl,by simpa using hf 6 f6 rfl,by simpa using hf 7 f7 rfl⟩
theorem open_past{d:kJ H}{pl:List kG}(hv:pW Pg w r b0 78 v)(h:DataW.Trod enc Pg w 0 (fun _=>true) true 78 v d pl)(hz:∀ n∈d.weights Pg 78,n<=kE) :
  ∃ (p:Pst) (a b:Int) (aK:Option Addr) (cK:Nat),v=.agg #[.int .i64 p.s,.int .i64 p.c.k,.int .i64 p.c.a,.int .i64 p.c.b,.int .i64 p.c.t,.int .i64 p.c.q,.int .i64 p.c.h,.int .i64 a,.int .i64 b,.int .i64 p.e,.int .i64 p.h,.int .i64 p.n,.slice aK p.t.length cK]:=by
 obtain⟨cs,rfl,qg⟩:=okWide_struct pI hv
 obtain⟨l⟩:=cs
 rw[a6m] at qg
 obtain⟨qR,hf⟩:=h
 obtain⟨y0,y1,y2,y3,y4,y5,y6,y7,n,hx,_,h0,h1,h2,h3,h4,h5,h6,h7⟩:=a0g pI hf
 have hd:d=.agg [y0.1,y1.1,y2.1,y3.1,y4.1,y5.1,y6.1,y7.1]:=hx
 subst hd
 have wB:∀ n,n∈y7.1.weights Pg 45->n<=kE:=fun n hn=>hz n (by
  simp only[kX,pI,pU,bK,pJ]
  exact .inr (.inr (.inr (.inr (.inr (.inr (.inr (.inl hn))))))))
 match l,qg with
 | [c0,c1,c2,c3,c4,c5,c6,c7,c8,c9,c10,c11,c12],_ =>
  simp only[Value.cells,Px,cells3,a0r,Yf] at h0 h1 h2 h3 h4 h5 h6 h7
  obtain⟨tk,e0,_⟩:=kW lD h0
  obtain⟨c,ec⟩:=Ul h1
  obtain⟨a,e2,_⟩:=kW lD h2
  obtain⟨b,e3,_⟩:=kW lD h3
  obtain⟨ee,e4,_⟩:=kW underlying36 h4
  obtain⟨sl,e5,_⟩:=kW lD h5
  obtain⟨nn,e6,_⟩:=kW lD h6
  obtain⟨K,aK,cK,e7,rK⟩:=Yz h7 wB
  simp at e0 ec e2 e3 e4 e5 e6
  obtain⟨rfl,rfl,rfl,rfl,rfl,rfl⟩:=ec
  subst e0 e2 e3 e4 e5 e6 e7
  exact⟨⟨tk,c,0,0,ee,sl,nn,K⟩,a,b,aK,cK,rfl⟩
end
end Go.Proofs.YthhgoenomehobaaGreat.mm
