/- Parts. -/
import Derived.Test.YthhgoenomehobaaGreatP38
namespace Go.Proofs.YthhgoenomehobaaGreat.mm
set_option maxRecDepth 100000
set_option linter.unusedVariables false
open Go renaming undef → Uz, World → Wq
section
open Go Go.RowKit
def mkA(a:Act)(D:List Nat)(x:Nat->Value):Act:=D.foldl (fun b d=>b.put (some d) (x d)) a
theorem J6(D:List Nat)(x:Nat->Value):∀ (a:Act) (k:Nat),(mkA a D x).tmps[k]?=if k∈D/\k<a.tmps.size then some (x k) else a.tmps[k]?:=by
 induction D with
 | nil=>intro a k;simp[mkA]
 | cons d D ih =>
  intro a k
  show (mkA (a.put (some d) (x d)) D x).tmps[k]?=_
  rw[ih]
  simp only[Act.put,Array.size_setIfInBounds,Array.getElem?_setIfInBounds,List.mem_cons]
  by_cases h1:k<a.tmps.size
  ·by_cases h2:k∈D
   ·simp[h1,h2]
   ·by_cases h3:k=d
    ·subst h3;simp[h1,h2]
    ·have:¬ d=k:=fun e=>h3 e.symm
     simp[h1,h2,h3,this]
  ·by_cases h3:d=k
   ·subst h3;simp[h1]
   ·simp[h1,h3]
theorem Ji(D:List Nat)(x:Nat->Value):∀ a:Act,(mkA a D x).defers=a.defers:=by
 induction D with
 | nil=>intro a;rfl
 | cons d D ih=>intro a;exact ih _
theorem Xz{a b:Act}(h:∀ k:Nat,a.tmps[k]?=b.tmps[k]?)(hd:a.defers=b.defers):a=b:=by
 obtain⟨s,d⟩:=a
 obtain⟨s',d'⟩:=b
 have e:s=s':=Array.ext_getElem? h
 dsimp only at hd
 rw[e,hd]
theorem Zj(a:Act)(D:List Nat):a=mkA a D (fun d=>a.tmps.getD d Uz):=by
 refine Xz (fun k=>?_) (Ji _ _ _).symm
 rw[J6]
 split
 ·rename_i h;simp[Array.getD_eq_getD_getElem?,h.2]
 ·rfl
theorem Y7{a:Act}{D:List Nat}{x:Nat->Value}{d:Nat}(h:d∈D)(v:Value):(mkA a D x).put (some d) v=mkA a D (Di x d v):=by
 refine Xz (fun k=>?_) ((Ji _ _ _).trans (Ji _ _ _).symm)
 have hs:(mkA a D x).tmps.size=a.tmps.size:=by
  have h1:=J6 D x a
  refine Nat.le_antisymm (Nat.le_of_not_lt fun hh=>?_) (Nat.le_of_not_lt fun hh=>?_)
  ·have:=h1 a.tmps.size
   rw[if_neg (by omega),Array.getElem?_eq_none (Nat.le_refl _),Array.getElem?_eq_getElem hh] at this
   cases this
  ·have:=h1 (mkA a D x).tmps.size
   rw[Array.getElem?_eq_none (Nat.le_refl _),Array.getElem?_eq_getElem hh] at this
   split at this <;> cases this
 show ((mkA a D x).tmps.setIfInBounds d v)[k]?=_
 rw[Array.getElem?_setIfInBounds,J6,J6,hs]
 by_cases e:d=k
 ·subst e
  by_cases hk:d<a.tmps.size <;> simp[hk,h,Di]
 ·have e':¬ k=d:=fun h=>e h.symm
  simp[e,Di,e']
theorem b1j{a:Act}{D:List Nat}{x:Nat->Value}{d:Nat}(h:d ∉ D)(v:Value):mkA a D x=mkA a D (Di x d v):=by
 refine Xz (fun k=>?_) ((Ji _ _ _).trans (Ji _ _ _).symm)
 rw[J6,J6]
 by_cases e:k=d
 ·subst e;simp[h]
 ·simp[Di,e]
theorem a8f{a:Act}{D:List Nat}{x:Nat->Value}{k:Nat}(h:(D.contains k && decide (k<a.tmps.size))=true):(mkA a D x).eval (.tmp k)=x k:=by
 rw[Bool.and_eq_true] at h
 show (mkA a D x).tmps.getD k Uz=_
 rw[Array.getD_eq_getD_getElem?,J6,if_pos ⟨by simpa using h.1,by simpa using h.2⟩]
 rfl
theorem a3j{a:Act}{D:List Nat}{x:Nat->Value}{k:Nat}(h:D.contains k=false):(mkA a D x).eval (.tmp k)=a.eval (.tmp k):=by
 show (mkA a D x).tmps.getD k Uz=a.tmps.getD k Uz
 rw[Array.getD_eq_getD_getElem?,J6,if_neg (fun hh=>by simp at h;exact h hh.1),Array.getD_eq_getD_getElem?]
theorem b2p{P:Program}{ops:Array Oper}{Q:Exit->Act->Wq->Prop}{i:Nat}{o:Oper}{a:Act}{w:Wq}{K:Act->Wq->Prop}(hi:ops[i]?=some o)(hg:o.guard=none)(h:o.wp P a w K Q):wpOp P ops Q i K a w:=by
 unfold wpOp
 have hw:Region.wanted o (yielded ops a.tmps)=true:=by unfold Region.wanted;rw[hg]
 simp only[hi,hw,if_true]
 exact .inl h
def okA(ops:Array Oper)(D Dr:List Nat)(i:Nat)(o:Oper):Bool :=
 o.guard.isNone && (o.after.all fun e=>decide (e.on<i) || !Region.binds .any e) && match o.dst with|some d=>d==D.getD i 0 && Dr.contains d|none=>!Dr.contains (D.getD i 0)
theorem I5{P:Program}{ops:Array Oper}{Q:Exit->Act->Wq->Prop}{id:Nat}{a:Act}{w0:Wq}(hm:P.follows .mixedOrders=true)(D Dr ch lim:List Nat)(V:List Value)(Ω:Nat->(Nat->Value)->Wq->Prop)
  (hB:(decide (((List.range ops.size).map fun i=>D.getD i 0).Nodup) && ((List.range ops.size).all fun i=>((ops[i]?).map (okA ops D Dr i)).getD true) && decide ch.Nodup
   && ((List.range ch.length).all fun q=>decide (ch.getD q 0<ops.size) && (decide (q=0) || Nb ops (ch.getD q 0) (ch.getD (q - 1) 0)))
   && ((List.range ops.size).all fun i=>ch.contains i || (decide (ch.length<=lim.getD i 0) || Nb ops (ch.getD (lim.getD i 0) 0) i)))=true)
  (h0:∀ W,Below w0.heap.size w0 W->W.heap.size=w0.heap.size->Ω 0 (fun d=>a.tmps.getD d Uz) W)
  (ins:∀ p x x' W,(∀ q,q<ch.length->x' (D.getD (ch.getD q 0) 0)=x (D.getD (ch.getD q 0) 0))->Ω p x W->Ω p x' W)
  (pure:∀ i,i<ops.size->i ∉ ch->∀ p x W,p<=lim.getD i 0->Ω p x W->(∀ k,k ∉ ch->k<ops.size->Nb ops i k=true->x (D.getD k 0)=V.getD k Uz)->∀ o,ops[i]?=some o->(execOp (mkA a Dr x).eval o).run P W=.ok (.value (V.getD i Uz)) W)
  (step:∀ q,q<ch.length->∀ x W,Ω q x W->(∀ k,k ∉ ch->k<ops.size->Nb ops (ch.getD q 0) k=true->x (D.getD k 0)=V.getD k Uz)->∀ o,ops[ch.getD q 0]?=some o->o.wp P (mkA a Dr x) W (fun a' W'=>∃ v,a'=(mkA a Dr x).put o.dst v/\Ω (q+1) (Di x (D.getD (ch.getD q 0) 0) v) W') Q)
  (fin:∀ x W,Ω ch.length x W->(∀ i,i<ops.size->i ∉ ch->x (D.getD i 0)=V.getD i Uz)->Q .normal (mkA a Dr x) W):(Code.region id ops true).wp P Q a w0:=by
 simp only[Bool.and_eq_true,decide_eq_true_eq] at hB
 obtain⟨⟨⟨⟨hD,hO⟩,hN⟩,hC⟩,hL⟩:=hB
 have hok:∀ i o,ops[i]?=some o->o.guard=none/\(o.after.all fun e=>decide (e.on<i) || !Region.binds .any e)=true/\∀ x v,(mkA a Dr x).put o.dst v=mkA a Dr (Di x (D.getD i 0) v):=fun i o ho=>by
  have hi:i<ops.size:=by
   rcases Nat.lt_or_ge i ops.size with h|h
   ·exact h
   ·rw[Array.getElem?_eq_none h] at ho;cases ho
  have h1:=List.all_eq_true.1 hO i (by simpa using hi)
  rw[ho] at h1
  simp only[Option.map_some,Option.getD_some,okA,Bool.and_eq_true] at h1
  refine⟨by simpa using h1.1.1,h1.1.2,fun x v=>?_⟩
  have h2:=h1.2
  cases hd:o.dst with
  | some d =>
   rw[hd] at h2
   simp only[Bool.and_eq_true] at h2
   have e:d=D.getD i 0:=by simpa using h2.1
   rw[<- e]
   exact Y7 (by simpa using h2.2) v
  | none =>
   rw[hd] at h2
   exact b1j (by simpa using h2) v
 have some_of:∀ i,i<ops.size->∃ o,ops[i]?=some o:=fun i hi=>⟨_,Array.getElem?_eq_getElem hi⟩
 refine X4 hm (mkA a Dr) (fun i=>D.getD i 0) ch (fun i=>V.getD i Uz) (fun i=>lim.getD i 0) Ω (fun d=>a.tmps.getD d Uz) (Zj a Dr) hD ?_ hC hN hL h0 ins ?_ ?_ fin
 ·refine List.all_eq_true.2 fun i hi=>?_
  cases ho:ops[i]? with
  | none=>rfl
  | some o=>exact(hok i o ho).2.1
 ·intro i hi hic p x W hp hΩ hdep
  obtain⟨o,ho⟩:=some_of i hi
  obtain⟨g1,-,g3⟩:=hok i o ho
  exact Ak ho (by unfold Region.wanted;rw[g1]) (pure i hi hic p x W hp hΩ hdep o ho) ⟨g3 x _,rfl⟩
 ·intro q hq x W hΩ hdep
  have hc:=List.all_eq_true.1 hC q (by simpa using hq)
  rw[Bool.and_eq_true] at hc
  obtain⟨o,ho⟩:=some_of (ch.getD q 0) (by simpa using hc.1)
  obtain⟨g1,-,g3⟩:=hok _ o ho
  refine b2p ho g1 (Oper.wp_mono ?_ (step q hq x W hΩ hdep o ho))
  rintro a' W' ⟨v,rfl,h⟩
  exact⟨v,g3 x v,h⟩
end
end Go.Proofs.YthhgoenomehobaaGreat.mm
