/- Parts. -/
import Derived.Test.YthhgoenomehobaaGreatP15
import Derived.Test.YthhgoenomehobaaGreatP37
namespace Go.Proofs.YthhgoenomehobaaGreat.mm
set_option maxRecDepth 100000
set_option linter.unusedVariables false
open Go renaming World → Wq
section
open Go Go.RowKit
def Nb(ops:Array Oper)(j i:Nat):Bool:=((ops[j]?).map fun o=>o.after.any fun e=>e.on==i && Region.binds .any e).getD false
theorem Nv{ops:Array Oper}{listed:Array Bool}{j i:Nat}{o:Oper}(ho:ops[j]?=some o)(h:∀ e∈o.after,Region.binds .any e=true->listed.getD e.on false=true)(he:Nb ops j i=true):listed.getD i false=true:=by
 unfold Nb at he
 rw[ho] at he
 simp only[Option.map_some,Option.getD_some] at he
 rw[Array.any_eq_true'] at he
 obtain⟨e,hem,hek⟩:=he
 rw[Bool.and_eq_true] at hek
 have hon:e.on=i:=by simpa using hek.1
 rw[<- hon]
 exact h e hem hek.2
theorem X4{P:Program}{ops:Array Oper}{Q:Exit->Act->Wq->Prop}{id:Nat}{a:Act}{w0:Wq}(hm:P.follows .mixedOrders=true)(mk:(Nat->Value)->Act)(D:Nat->Nat)(ch:List Nat)(V:Nat->Value)(lim:Nat->Nat)(Ω:Nat->(Nat->Value)->Wq->Prop)(x0:Nat->Value)(ha:a=mk x0)
  (hD:((List.range ops.size).map D).Nodup)
  (hA:((List.range ops.size).all fun i=>((ops[i]?).map fun o=>o.after.all fun e=>decide (e.on<i) || !Region.binds .any e).getD true)=true)
  (hC:((List.range ch.length).all fun q=>decide (ch.getD q 0<ops.size) && (decide (q=0) || Nb ops (ch.getD q 0) (ch.getD (q - 1) 0)))=true) (hN:ch.Nodup)
  (hL:((List.range ops.size).all fun i=>ch.contains i || (decide (ch.length<=lim i) || Nb ops (ch.getD (lim i) 0) i))=true)
  (h0:∀ W,Below w0.heap.size w0 W->W.heap.size=w0.heap.size->Ω 0 x0 W)
  (ins:∀ p x x' W,(∀ q,q<ch.length->x' (D (ch.getD q 0))=x (D (ch.getD q 0)))->Ω p x W->Ω p x' W)
  (pure:∀ i,i<ops.size->i ∉ ch->∀ p x W,p<=lim i->Ω p x W->(∀ k,k ∉ ch->k<ops.size->Nb ops i k=true->x (D k)=V k)->wpOp P ops Q i (fun a' W'=>a'=mk (Di x (D i) (V i))/\W'=W) (mk x) W)
  (step:∀ q,q<ch.length->∀ x W,Ω q x W->(∀ k,k ∉ ch->k<ops.size->Nb ops (ch.getD q 0) k=true->x (D k)=V k)->wpOp P ops Q (ch.getD q 0) (fun a' W'=>∃ v,a'=mk (Di x (D (ch.getD q 0)) v)/\Ω (q+1) (Di x (D (ch.getD q 0)) v) W') (mk x) W)
  (fin:∀ x W,Ω ch.length x W->(∀ i,i<ops.size->i ∉ ch->x (D i)=V i)->Q .normal (mk x) W):(Code.region id ops true).wp P Q a w0:=by
 have hinj:∀ i j,i<ops.size->j<ops.size->D i=D j->i=j:=fun i j hi hj he=>by
  have h1:((List.range ops.size).map D)[i]'(by simpa using hi)=((List.range ops.size).map D)[j]'(by simpa using hj):=by simpa using he
  exact(List.getElem_inj hD).1 h1
 have hCq:∀ q,q<ch.length->ch.getD q 0<ops.size/\(q=0\/Nb ops (ch.getD q 0) (ch.getD (q - 1) 0)=true):=fun q hq=>by
  have:=List.all_eq_true.1 hC q (by simpa using hq)
  rw[Bool.and_eq_true,Bool.or_eq_true] at this
  exact⟨by simpa using this.1,this.2.imp (fun h=>by simpa using h) _root_.id⟩
 have hmem:∀ i,i∈ch->∃ q,q<ch.length/\ch.getD q 0=i:=fun i hi=>by
  obtain⟨q,hq,e⟩:=List.getElem_of_mem hi
  exact⟨q,hq,by rw[List.getD_eq_getElem?_getD,List.getElem?_eq_getElem hq];exact e⟩
 have hmem':∀ q,q<ch.length->ch.getD q 0∈ch:=fun q hq=>by
  rw[List.getD_eq_getElem?_getD,List.getElem?_eq_getElem hq];exact List.getElem_mem hq
 have hcinj:∀ q q',q<ch.length->q'<ch.length->ch.getD q 0=ch.getD q' 0->q=q':=fun q q' h h' he=>by
  rw[List.getD_eq_getElem?_getD,List.getD_eq_getElem?_getD,List.getElem?_eq_getElem h,List.getElem?_eq_getElem h'] at he
  exact(List.getElem_inj hN).1 (by simpa using he)
 refine Gu hm (fun listed a' W=>(listed.size=ops.size/\∀ j o,ops[j]?=some o->listed.getD j false=true->∀ e∈o.after,Region.binds .any e=true->listed.getD e.on false=true) /\
  ∃ p x,p<=ch.length/\a'=mk x/\(∀ q,q<ch.length->(listed.getD (ch.getD q 0) false=true ↔ q<p))/\(∀ i,i<ops.size->i ∉ ch->listed.getD i false=true->x (D i)=V i)/\Ω p x W) ?_ ?_ ?_
 ·have hz:∀ i,(Array.replicate ops.size false).getD i false=false:=fun i=>by
   by_cases hi:i<ops.size <;> simp[Array.getD_eq_getD_getElem?,hi]
  refine⟨⟨by simp,fun j o _ hj=>?_⟩,0,x0,Nat.zero_le _,ha,fun q hq=>?_,fun i hi _ h=>?_,h0 _ ((Below.refl _ _).drew) rfl⟩
  ·rw[hz] at hj;cases hj
  ·rw[hz];simp
  ·rw[hz] at h;cases h
 ·rintro listed a' W i hi ⟨⟨hs,hc⟩,p,x,hp,rfl,hch,hV,hΩ⟩
  obtain⟨h1,h2,o,ho,hpre⟩:=Fa hi
  rw[a2p (by omega)] at h2
  have hc':∀ j o,ops[j]?=some o->(listed.setIfInBounds i true).getD j false=true->∀ e∈o.after,Region.binds .any e=true->(listed.setIfInBounds i true).getD e.on false=true:=by
   intro j o' hj hl e hem heb
   have h3:listed.getD e.on false=true:=by
    by_cases ej:i=j
    ·subst ej
     rw[ho] at hj
     cases hj
     exact hpre e hem heb
    ·rw[La ej] at hl
     exact hc j o' hj hl e hem heb
   by_cases ee:i=e.on
   ·rw[<- ee];exact Rl (by omega)
   ·rw[La ee];exact h3
  have hs':(listed.setIfInBounds i true).size=ops.size:=by simpa using hs
  have hdep:∀ k,k ∉ ch->k<ops.size->Nb ops i k=true->x (D k)=V k:=fun k hk hks he=>hV k hks hk (Nv ho hpre he)
  by_cases hic:i∈ch
  ·obtain⟨q,hq,rfl⟩:=hmem i hic
   have hqp:q=p:=by
    have h3:¬ q<p:=fun h=>by rw[(hch q hq).2 h] at h2;cases h2
    rcases (hCq q hq).2 with h|h
    ·omega
    ·by_cases hq0:q=0
     ·omega
     ·have:=Nv ho hpre h
      have:=(hch (q - 1) (by omega)).1 this
      omega
   subst hqp
   refine wpOp_mono ?_ (step q hq x W hΩ hdep)
   rintro a'' W' ⟨v,rfl,hΩ'⟩
   refine⟨⟨hs',hc'⟩,q+1,_,hq,rfl,fun r hr=>?_,fun j hj hjc hl=>?_,hΩ'⟩
   ·by_cases e:r=q
    ·subst e
     rw[Rl (by omega)]
     simp
    ·rw[La (fun h=>e (hcinj r q hr hq h.symm)),hch r hr]
     omega
   ·have hne:j≠ch.getD q 0:=fun e=>hjc (by rw[e];exact hic)
    rw[La (fun h=>hne h.symm)] at hl
    have:D j≠D (ch.getD q 0):=fun e=>hne (hinj _ _ hj h1 e)
    simp only[Di,if_neg this]
    exact hV j hj hjc hl
  ·have hlim:p<=lim i:=by
    have h3:=List.all_eq_true.1 hL i (by simpa using h1)
    rw[Bool.or_eq_true,Bool.or_eq_true] at h3
    rcases h3 with h|h|h
    ·exact absurd (by simpa using h) hic
    ·have:ch.length<=lim i:=by simpa using h
     omega
    ·refine Classical.byContradiction fun hn=>?_
     have hlp:lim i<p:=by omega
     have hl:=(hch (lim i) (by omega)).2 hlp
     have hoj:ops[ch.getD (lim i) 0]?=some (ops[ch.getD (lim i) 0]'(hCq _ (by omega)).1):=Array.getElem?_eq_getElem _
     have:=Nv hoj (hc _ _ hoj hl) h
     rw[this] at h2
     cases h2
   refine wpOp_mono ?_ (pure i h1 hic p x W hlim hΩ hdep)
   rintro a'' W' ⟨rfl,rfl⟩
   refine⟨⟨hs',hc'⟩,p,_,hp,rfl,fun r hr=>?_,fun j hj hjc hl=>?_,ins p x _ W' (fun q hq=>?_) hΩ⟩
   ·have hne:ch.getD r 0≠i:=fun e=>hic (by rw[<- e];exact hmem' r hr)
    rw[La (fun h=>hne h.symm)]
    exact hch r hr
   rotate_left
   ·have hne:D (ch.getD q 0)≠D i:=fun e=>hic (by rw[<- hinj _ _ (hCq q hq).1 h1 e];exact hmem' q hq)
    simp only[Di,if_neg hne]
   ·by_cases e:j=i
    ·subst e;simp[Di]
    ·have:D j≠D i:=fun h=>e (hinj _ _ hj h1 h)
     rw[La (fun h=>e h.symm)] at hl
     simp only[Di,if_neg this]
     exact hV j hj hjc hl
 ·rintro listed a' W hr ⟨⟨hs,hc⟩,p,x,hp,rfl,hch,hV,hΩ⟩
  have all:=Nr hr hs hA
  have hpE:p=ch.length:=by
   refine Classical.byContradiction fun hn=>?_
   have h1:=all _ (ch.getD p 0) (Nat.lt_succ_self _) (hCq p (by omega)).1
   have:=(hch p (by omega)).1 h1
   omega
  subst hpE
  exact fin x W hΩ (fun i hi hic=>hV i hi hic (all _ i (Nat.lt_succ_self _) hi))
end
end Go.Proofs.YthhgoenomehobaaGreat.mm
