/- Parts. -/
import Derived.Test.YthhgoenomehobaaGreatChecked
import Derived.ProofKit
import Derived.OpenShut
import Derived.WalkLawsBesides
import Derived.WalkSpells
namespace Go.Proofs.YthhgoenomehobaaGreat.mm
open List renaming replicate → aQ, range → aU, take_succ_eq_append_getElem → aV, drop_eq_getElem_cons → aW, drop_of_length_le → aY, mem_cons → aZ, nodup_append → bC, append_assoc → bD, map_append → bG, nodup_nil → bI
open Go renaming Calls → aI, rounds_succ → aJ, wp_loop_rounds → aO, World → Wq
open Nat renaming le_refl → aC, zero_le → aG
open Tryz
set_option maxRecDepth 100000
set_option linter.unusedVariables false
open Value renaming int → O, slice → Y
open IntKind renaming i64 → J
open Tryz renaming prog → Pg
set_option maxHeartbeats 0
variable {α:Type}{p:Prop}{nh ns:Nat}(f:α->Int)(ao:Option Addr)(n bg:Nat)(l:List Int)(x lo hi:Int)(k:Nat)(aS aH aF aL:Option Addr)(nS nH nF nL cS cH cF cL:Nat)(je a b:Int)(w:Wq){W w1:Wq}(F:List Int)
theorem ae{c:Prop}{_:Decidable c}(h:¬ c){α:Sort _}{t e:α}:ite c t e=e:=if_neg h
theorem af{c:Prop}{_:Decidable c}(h:c){α:Sort _}{t e:α}:ite c t e=t:=if_pos h
def Qi(p:Prop):Prop:=p
theorem Qi.o(h:Qi p):p:=h
structure Sl where
 refs:Int
 a:Int
 b:Int
 unt:Int
 inn:Bool
 next:Int
structure Mm where
 s:List Sl
 h:List Int
 f:List Int
 l:List Int
 w:Int
def sl0:Sl:=⟨0,0,0,0,false,0⟩
def m0:Mm:=⟨[],[],[],[],0⟩
def inB(x lo hi:Int):Bool:=decide (lo<=x) && decide (x<=hi)
theorem Ar:inB x lo hi=true ↔ lo<=x/\x<=hi:=by simp[inB]
def Ei(a b:Int):Bool:=inB a 0 15 && inB b 0 15
theorem L6:Ei a b=true ↔ (0<=a/\a<=15)/\(0<=b/\b<=15):=by simp[Ei,inB]
def D8(nh ns:Nat)(s:Sl):Int :=
 if inB s.refs 0 1000 && inB s.unt 0 2000000 && Ei s.a s.b then (if inB s.next (-(nh:Int)) ns then 0 else 5) else 3
def Cj(nh ns:Nat)(p:Int × Int):Int :=
 if p.1≠0/\inB p.1 (-(nh:Int)) ns then (if inB p.2 (-1) 4 then 0 else 3) else 5
def Ap{α:Type}(f:α->Int):List α->Int
 | []=>0
 | x :: l=>if f x≠0 then f x else Ap f l
theorem Lr(l:List α)(k:Nat)(h:k<l.length) :
  Ap f (l.drop k)=if f l[k] ≠ 0 then f l[k] else Ap f (l.drop (k+1)):=by
 rw[aW h];rfl
theorem Iz(l:List α)(k:Nat)(h:l.length<=k):Ap f (l.drop k)=0:=by
 rw[aY h];rfl
theorem Gv(l:List α):Ap f l=0 ↔ ∀ x∈l,f x=0:=by
 induction l with
 | nil=>simp[Ap]
 | cons x l ih =>
  simp only[Ap,aZ,forall_eq_or_imp]
  by_cases h:f x=0
  ·simp[h,ih]
  ·simp[h]
def hasB(l:List Int)(x:Int):Bool:=l.contains x
theorem Oz:hasB l x=true ↔ x∈l:=by simp[hasB]
theorem Xa:hasB l x=false ↔ ¬ x∈l:=by simp[hasB]
def Ha(S:List Sl)(a:Int):Bool:=decide (0<=a) && (decide (a<S.length) && decide ((S.getD a.toNat sl0).refs=0))
theorem Qy(S:List Sl)(a:Int):Ha S a=true ↔ 0<=a/\a<S.length/\(S.getD a.toNat sl0).refs=0:=by simp[Ha]
def Bo(S:List Sl):List Int->List Int->Int
 | _,[]=>0
 | pre,a :: l=>if Ha S a then (if hasB pre a then 6 else Bo S (pre ++ [a]) l) else 5
def Cc(F:List Int):Nat->List Sl->Int
 | _,[]=>0
 | i,s :: l=>if s.refs==0 && !hasB F (i:Int) then 4 else Cc F (i+1) l
theorem Nv(S:List Sl)(l:List Int)(k:Nat)(h:k<l.length) :
  Bo S (l.take k) (l.drop k)=if Ha S l[k] then (if hasB (l.take k) l[k] then 6 else Bo S (l.take (k+1)) (l.drop (k+1))) else 5:=by
 rw[aW h,aV h];rfl
theorem V4(S:List Sl)(l:List Int)(k:Nat)(h:l.length<=k):Bo S (l.take k) (l.drop k)=0:=by
 rw[aY h];rfl
theorem Tt(S:List Sl)(k:Nat)(h:k<S.length) :
  Cc F k (S.drop k)=if S[k].refs==0 && !hasB F (k:Int) then 4 else Cc F (k+1) (S.drop (k+1)):=by
 rw[aW h];rfl
theorem V7(S:List Sl)(k:Nat)(h:S.length<=k):Cc F k (S.drop k)=0:=by
 rw[aY h];rfl
def chk(m:Mm):Int :=
 if 12<m.s.length\/m.h.length<1\/4<m.h.length then 2
 else if m.l.length≠m.h.length then 4
 else if inB m.w 0 1000000=false then 3
 else if Ap (D8 m.h.length m.s.length) m.s≠0 then Ap (D8 m.h.length m.s.length) m.s
 else if Ap (Cj m.h.length m.s.length) (m.h.zip m.l)≠0 then Ap (Cj m.h.length m.s.length) (m.h.zip m.l)
 else if Bo m.s [] m.f≠0 then Bo m.s [] m.f
 else Cc m.f 0 m.s
structure Ok(m:Mm):Prop where
 ns:m.s.length<=12
 nh:1<=m.h.length/\m.h.length<=4
 nl:m.l.length=m.h.length
 w:0<=m.w/\m.w<=1000000
 h:∀ s∈m.s,D8 m.h.length m.s.length s=0
 chain:∀ p∈m.h.zip m.l,Cj m.h.length m.s.length p=0
 f:∀ a∈m.f,Ha m.s a=true
 nodup:m.f.Nodup
 all:∀ i,i<m.s.length->(m.s.getD i sl0).refs=0->(i:Int)∈m.f
theorem Td(S:List Sl)(pre l:List Int)(hp:pre.Nodup):Bo S pre l=0 ↔ (∀ a∈l,Ha S a=true)/\(pre++l).Nodup:=by
 induction l generalizing pre with
 | nil=>simp[Bo,hp]
 | cons a l ih =>
  simp only[Bo,aZ,forall_eq_or_imp]
  by_cases h1:Ha S a=true
  ·by_cases h2:a∈pre
   ·simp[h1,h2,Oz,bC]
    intro _ _ _ _
    exact⟨a,h2,fun h=>absurd rfl h⟩
   ·have vS:(pre ++ [a]).Nodup:=by
     rw[bC];simp[hp]
     intro x hx e;subst e;exact h2 hx
    have:=ih (pre ++ [a]) vS
    rw[bD] at this
    simp only[h1,h2,Oz,if_true,if_false,true_and]
    exact this
  ·simp[h1]
theorem Tu(S:List Sl)(k:Nat):Cc F k S=0 ↔ ∀ i,i<S.length->(S.getD i sl0).refs=0->((k+i:Nat):Int)∈F:=by
 induction S generalizing k with
 | nil=>simp[Cc]
 | cons s l ih =>
  simp only[Cc]
  by_cases h:s.refs==0 && !hasB F (k:Int)
  ·rw[af h]
   simp only[Bool.and_eq_true,beq_iff_eq,Bool.not_eq_true'] at h
   constructor
   ·intro e;omega
   ·intro hh
    have:=hh 0 (by simp) (by simpa using h.1)
    simp only[Nat.add_zero] at this
    rw[<- Oz] at this
    rw[this] at h;simp at h
  ·rw[ae h,ih]
   constructor
   ·intro hh i hi hr
    match i with
    | 0 =>
     simp at hr
     simp[hr,Oz] at h
     simpa using h
    | i+1 =>
     have:=hh i (by simp at hi;omega) (by simpa using hr)
     rwa [show k+1+i=k+(i+1) by omega] at this
   ·intro hh i hi hr
    have:=hh (i+1) (by simp;omega) (by simpa using hr)
    rwa [show k+(i+1)=k+1+i by omega] at this
theorem Ky(m:Mm):chk m=0 ↔ Ok m:=by
 unfold chk
 constructor
 ·intro h
  split at h
  ·omega
  split at h
  ·omega
  split at h
  ·omega
  split at h
  ·omega
  split at h
  ·omega
  split at h
  ·omega
  rename_i h1 h2 h3 h4 h5 h6
  have h3':inB m.w 0 1000000=true:=by simpa using h3
  simp only[ne_eq,Decidable.not_not] at h4 h5 h6 h2
  have hf:=(Td m.s [] m.f bI).1 h6
  have hl:=(Tu m.f m.s 0).1 h
  refine⟨by omega,by omega,h2,(Ar _ _ _).1 h3',(Gv _ _).1 h4,(Gv _ _).1 h5,hf.1,by simpa using hf.2,?_⟩
  intro i hi hr
  have:=hl i hi hr
  simpa using this
 ·intro h
  rw[ae (by have:=h.ns;have:=h.nh;omega),ae (by simpa using h.nl),ae (by rw[(Ar _ _ _).2 h.w];simp),
   ae (by simpa using (Gv _ _).2 h.h),ae (by simpa using (Gv _ _).2 h.chain),
   ae (by simpa using (Td m.s [] m.f bI).2 ⟨h.f,by simpa using h.nodup⟩)]
  exact(Tu m.f m.s 0).2 fun i hi hr=>by simpa using h.all i hi hr
def Gw(m:Mm):Int:=m.f.getD (m.f.length - 1) 0
def Pj(m:Mm)(ka kb u:Int):Mm :=
 { m with s:=m.s.set (Gw m).toNat ⟨1,ka,kb,u,false,(m.s.getD (Gw m).toNat sl0).next⟩,f:=m.f.take (m.f.length - 1) }
def Eg(m:Mm)(i:Int):Int:=(m.s.getD i.toNat sl0).refs
def Jv(m:Mm)(i r:Int):List Sl:=m.s.set i.toNat { m.s.getD i.toNat sl0 with refs:=r }
def a9z(m:Mm)(i:Int):Mm:={ m with s:=Jv m i (Eg m i+1) }
def Vj(m:Mm)(i:Int):Mm:={ m with s:=Jv m i (Eg m i - 1),f:=if Eg m i=1 then m.f ++ [i] else m.f }
def Dp(m:Mm)(i:Int):Bool:=inB i 0 ((m.s.length:Int) - 1)
def Uk(m:Mm)(ka kb u:Int):Int :=
 if chk m≠0 then chk m else if Ei ka kb=false then 3 else if inB u 0 2000000=false then 3 else if m.f.length=0 then 7 else 0
def Pm(m:Mm)(ka kb u:Int):Mm:=if Uk m ka kb u=0 then Pj m ka kb u else m0
def a0f(m:Mm)(ka kb u:Int):Int:=if Uk m ka kb u=0 then Gw m else 0
def letE(m:Mm)(i:Int):Int :=
 if chk m≠0 then chk m else if Dp m i=false then 5 else if Eg m i=0 then 8 else 0
def letM(m:Mm)(i:Int):Mm:=if letE m i=0 then Vj m i else m0
def Vh(jo cu:Nat):Mm :=
 { s:=aQ jo sl0,h:=(aU cu).map fun (b:Nat)=>-1 - (b:Int),f:=(aU jo).map fun (a:Nat)=>(jo:Int) - 1 - (a:Int),l:=aQ cu (-1),w:=0 }
def Zt(jo cu:Int):Int:=if inB jo 0 12 && inB cu 1 4 then 0 else 3
theorem getD_lt(S:List Sl)(j:Nat)(h:j<S.length):S.getD j sl0=S[j]:=by simp[List.getD_eq_getElem?_getD,h]
theorem I5{s:Sl}(h:D8 nh ns s=0):inB s.refs 0 1000=true/\inB s.unt 0 2000000=true/\Ei s.a s.b=true/\inB s.next (-(nh:Int)) ns=true:=by
 unfold D8 at h
 split at h
 ·rename_i h1
  split at h
  ·rename_i h2
   simp only[Bool.and_eq_true] at h1
   exact⟨h1.1.1,h1.1.2,h1.2,h2⟩
  ·omega
 ·omega
theorem a3f{m:Mm}(hF:0<m.f.length):m.f=m.f.take (m.f.length - 1) ++ [Gw m]:=by
 have hl:Gw m=m.f[m.f.length - 1]:=by
  have:m.f.length - 1<m.f.length:=by omega
  simp[Gw,List.getD_eq_getElem?_getD,this]
 rw[hl]
 have:=aV (l:=m.f) (i:=m.f.length - 1) (by omega)
 rw[<- this,show m.f.length - 1+1=m.f.length by omega,List.take_length]
theorem b3r{m:Mm}(h:Ok m)(hF:0<m.f.length):0<=Gw m/\Gw m<m.s.length/\Eg m (Gw m)=0:=by
 have hm:Gw m∈m.f:=by rw[a3f hF];simp
 exact(Qy _ _).1 (h.f _ hm)
theorem a1j(m:Mm)(i:Int):Dp m i=true ↔ ∃ j:Nat,i=j/\j<m.s.length:=by
 unfold Dp
 rw[Ar]
 constructor
 ·intro h
  exact⟨i.toNat,by omega,by omega⟩
 ·rintro ⟨j,rfl,h⟩
  omega
def Pe(S:List Sl)(n:Int):Int:=(S.getD (n - 1).toNat sl0).next
def I7(S:List Sl):Nat->Int->List Int
 | 0,_=>[]
 | k+1,n=>if 0<n then (n - 1) :: I7 S k (Pe S n) else []
def Jk(S:List Sl):Nat->Int->Int
 | 0,n=>n
 | k+1,n=>if 0<n then Jk S k (Pe S n) else n
def Bq(M:Mm)(b:Nat):Int:=M.h.getD b 0
def chL(M:Mm)(b:Nat):List Int:=I7 M.s M.s.length (Bq M b)
def chE(M:Mm)(b:Nat):Int:=Jk M.s M.s.length (Bq M b)
def Kw(M:Mm)(b:Nat):Bool:=chE M b == -1 - (b:Int)
def Aa(M:Mm)(a:Int):Sl:=M.s.getD a.toNat sl0
def keyAt(M:Mm)(a:Int):Int × Int:=((Aa M a).a,(Aa M a).b)
def Eh(a b:Int)(n:Nat):Int:=(7*a+3*b+a*b) % n
def hasK(M:Mm)(all:List Int)(k:Int × Int):Bool:=(all.map (keyAt M)).contains k
def a4x(M:Mm)(all:List Int)(k:Int × Int):Int:=(all.find? fun a=>keyAt M a==k).getD 0
def Gg(M:Mm)(b:Nat)(all:List Int)(a:Int):Int :=
 if (Aa M a).refs=0\/(Aa M a).inn=false then 5
 else if Eh (Aa M a).a (Aa M a).b M.h.length≠b then 4
 else if hasK M all (keyAt M a) then 6 else 0
def Gs(M:Mm)(b:Nat):List Int->List Int->Int
 | _,[]=>0
 | all,a :: l=>if Gg M b all a≠0 then Gg M b all a else Gs M b (all ++ [a]) l
def Qe(M:Mm):Nat->Nat->List Int->Int
 | 0,_,_=>0
 | k+1,b,all=>if Kw M b then (if Gs M b all (chL M b)≠0 then Gs M b all (chL M b) else Qe M k (b+1) (all++chL M b)) else 4
def Gu(M:Mm):Int:=if chk M≠0 then chk M else Qe M M.h.length 0 []
def Bc(M:Mm)(b:Nat):List Int:=(aU b).flatMap (chL M)
def Nb(M:Mm):List Int:=Bc M M.h.length
theorem Hq(M:Mm)(b:Nat):Bc M (b+1)=Bc M b++chL M b:=by simp[Bc,List.range_succ]
theorem Xr(M:Mm)(b:Nat)(all l:List Int)(k:Nat)(h:k<l.length) :
  Gs M b (all++l.take k) (l.drop k)=if Gg M b (all++l.take k) l[k] ≠ 0 then Gg M b (all++l.take k) l[k] else Gs M b (all++l.take (k+1)) (l.drop (k+1)):=by
 rw[aW h,aV h,<- bD];rfl
theorem Zb(M:Mm)(b:Nat)(all l:List Int)(k:Nat)(h:l.length<=k):Gs M b (all++l.take k) (l.drop k)=0:=by
 rw[aY h];rfl
theorem Yi(M:Mm)(b:Nat)(h:b<M.h.length) :
  Qe M (M.h.length - b) b (Bc M b)=if Kw M b then (if Gs M b (Bc M b) (chL M b)≠0 then Gs M b (Bc M b) (chL M b) else Qe M (M.h.length - (b+1)) (b+1) (Bc M (b+1))) else 4:=by
 rw[show M.h.length - b=(M.h.length - (b+1))+1 by omega,Hq];rfl
theorem a0t(M:Mm)(b:Nat)(h:M.h.length<=b)(all:List Int):Qe M (M.h.length - b) b all=0:=by
 rw[show M.h.length - b=0 by omega];rfl
structure OkC(M:Mm):Prop where
 ok:Ok M
 ends:∀ b,b<M.h.length->chE M b=-1 - (b:Int)
 u:∀ b,b<M.h.length->∀ a∈chL M b,(Aa M a).refs≠0/\(Aa M a).inn=true/\Eh (Aa M a).a (Aa M a).b M.h.length=b
 t:((Nb M).map (keyAt M)).Nodup
theorem P5(M:Mm)(all:List Int)(k:Int × Int):hasK M all k=true ↔ k∈all.map (keyAt M):=by simp[hasK]
theorem Ru(M:Mm)(b:Nat)(all:List Int)(a:Int):Gg M b all a=0 ↔ ((Aa M a).refs≠0/\(Aa M a).inn=true/\Eh (Aa M a).a (Aa M a).b M.h.length=b)/\¬ keyAt M a∈all.map (keyAt M):=by
 unfold Gg
 rw[<- P5]
 by_cases h1:(Aa M a).refs=0\/(Aa M a).inn=false
 ·rw[af h1]
  constructor
  ·intro h;omega
  ·rintro ⟨⟨h,h',_⟩,_⟩
   rcases h1 with h1|h1
   ·exact absurd h1 h
   ·rw[h'] at h1;cases h1
 rw[ae h1]
 have h1':(Aa M a).refs≠0/\(Aa M a).inn=true:=by
  refine⟨fun h=>h1 (.inl h),?_⟩
  cases h:(Aa M a).inn
  ·exact absurd (.inr h) h1
  ·rfl
 by_cases h2:Eh (Aa M a).a (Aa M a).b M.h.length=b
 ·rw[ae (by simpa using h2)]
  cases h3:hasK M all (keyAt M a)
  ·simp[h1',h2]
  ·simp
 ·rw[af h2]
  constructor
  ·intro h;omega
  ·rintro ⟨⟨_,_,h⟩,_⟩;exact absurd h h2
theorem a4h(M:Mm)(b:Nat)(l:List Int):∀ all:List Int,(all.map (keyAt M)).Nodup->(Gs M b all l=0 ↔ (∀ a∈l,(Aa M a).refs≠0/\(Aa M a).inn=true/\Eh (Aa M a).a (Aa M a).b M.h.length=b)/\((all++l).map (keyAt M)).Nodup):=by
 induction l with
 | nil=>intro all h;simp[Gs];exact h
 | cons a l ih =>
  intro all hn
  simp only[Gs]
  by_cases h:Gg M b all a=0
  ·rw[ae (by simpa using h)]
   have h':=(Ru M b all a).1 h
   have UE:((all ++ [a]).map (keyAt M)).Nodup:=by
    rw[bG,bC]
    refine⟨hn,by simp,?_⟩
    intro x hx y hy e
    simp at hy
    subst hy
    subst e
    exact h'.2 hx
   rw[ih (all ++ [a]) UE,bD]
   simp only[aZ,forall_eq_or_imp,List.cons_append,List.nil_append]
   constructor
   ·rintro ⟨h1,h2⟩;exact⟨⟨h'.1,h1⟩,h2⟩
   ·rintro ⟨⟨_,h1⟩,h2⟩;exact⟨h1,h2⟩
  ·rw[af h]
   constructor
   ·intro hh;exact absurd hh h
   ·rintro ⟨h1,h2⟩
    exfalso
    apply h
    rw[Ru]
    refine⟨h1 a (by simp),fun hm=>?_⟩
    rw[bG,bC] at h2
    exact h2.2.2 _ hm _ (by simp) rfl
theorem Wj(M:Mm)(b:Nat):Kw M b=true ↔ chE M b=-1 - (b:Int):=by simp[Kw]
theorem Yj(M:Mm):∀ (k b:Nat),b+k=M.h.length->((Bc M b).map (keyAt M)).Nodup ->
  (Qe M k b (Bc M b)=0 ↔ (∀ c,b<=c->c<M.h.length->chE M c=-1 - (c:Int)/\∀ a∈chL M c,(Aa M a).refs≠0/\(Aa M a).inn=true/\Eh (Aa M a).a (Aa M a).b M.h.length=c)/\((Nb M).map (keyAt M)).Nodup)
 | 0,b,hb,hn=>by
  have:b=M.h.length:=by omega
  subst this
  simp only[Qe,true_iff]
  exact⟨fun c h1 h2=>by omega,hn⟩
 | k+1,b,hb,hn=>by
  simp only[Qe]
  cases hc:Kw M b
  ·simp only[Bool.false_eq_true,if_false]
   constructor
   ·intro h;omega
   ·rintro ⟨h,_⟩
    have:=(Wj M b).2 (h b (aC _) (by omega)).1
    rw[hc] at this;cases this
  ·have wV:=(Wj M b).1 hc
   simp only[if_true]
   have hs:=a4h M b (chL M b) (Bc M b) hn
   rw[<- Hq] at hs ⊢
   by_cases h:Gs M b (Bc M b) (chL M b)=0
   ·rw[ae (by simpa using h)]
    have h':=hs.1 h
    rw[Yj M k (b+1) (by omega) h'.2]
    constructor
    ·rintro ⟨h1,h2⟩
     refine⟨fun c qQ zk=>?_,h2⟩
     by_cases e:c=b
     ·subst e;exact⟨wV,h'.1⟩
     ·exact h1 c (by omega) zk
    ·rintro ⟨h1,h2⟩
     exact⟨fun c qQ zk=>h1 c (by omega) zk,h2⟩
   ·rw[af h]
    constructor
    ·intro hh;exact absurd hh h
    ·rintro ⟨h1,h2⟩
     exfalso
     apply h
     rw[hs]
     refine⟨(h1 b (aC _) (by omega)).2,?_⟩
     have e:Nb M=Bc M (b+1)++((aU (M.h.length - (b+1))).map (· + (b+1))).flatMap (chL M):=by
      unfold Nb Bc
      rw[<- List.flatMap_append]
      congr 1
      rw[show M.h.length=(b+1)+(M.h.length - (b+1)) by omega,List.range_add]
      simp[Nat.add_comm]
     rw[e,bG,bC] at h2
     exact h2.1
theorem Kq(M:Mm):Gu M=0 ↔ OkC M:=by
 unfold Gu
 by_cases h:chk M=0
 ·rw[ae (by simpa using h),show ([]:List Int)=Bc M 0 from rfl,Yj M M.h.length 0 (by omega) (by simp[Bc])]
  constructor
  ·rintro ⟨h1,h2⟩
   exact⟨(Ky M).1 h,fun b hb=>(h1 b (aG _) hb).1,fun b hb=>(h1 b (aG _) hb).2,h2⟩
  ·rintro ⟨_,h1,h2,h3⟩
   exact⟨fun c _ hc=>⟨h1 c hc,h2 c hc⟩,h3⟩
 ·rw[af h]
  constructor
  ·intro hh;exact absurd hh h
  ·intro hh;exact absurd ((Ky M).2 hh.ok) h
structure Cl where
 k:Int
 a:Int
 b:Int
 t:Int
 q:Int
 h:Int
structure Fr where
 c:Cl
 l:Int
 u:Int
 p:Int
 h:Int
 n:Int
 t:List (Int × Int)
 d:Bool
 e:Int
def Dh(nS nH:Nat)(c:Cl):Int :=
 if c.k=1\/c.k=3 then (if Ei c.a c.b then 0 else 3)
 else if c.k=2 then (if inB c.t 1 1000000 && Ei c.a c.b then 0 else 3)
 else if c.k=4\/c.k=5 then (if inB c.q 0 ((nH:Int) - 1) then 0 else 5)
 else if c.k=6 then (if inB c.h 0 ((nS:Int) - 1) then 0 else 5)
 else 4
def frE(nS nH:Nat)(f:Fr):Int :=
 if Dh nS nH f.c≠0 then Dh nS nH f.c
 else if inB f.l 0 9=false\/inB f.n 0 1000000=false\/f.d=true then 3
 else if inB f.u (-(nH:Int)) nS=false\/inB f.p 0 nS=false\/inB f.h (-1) ((nS:Int) - 1)=false then 5
 else if 100<f.t.length then 2 else 0
def Fz(nH:Nat)(c:Cl):Int :=
 if c.k=4\/c.k=5 then c.q
 else if Ei c.a c.b then (if 1<=nH/\nH<=4 then Eh c.a c.b nH else 0) else 0
def Df(c:Cl):Fr:=⟨c,0,0,0,-1,0,[],false,0⟩
def Ak(f:Fr)(e:Int):Fr:={ f with d:=true,e:=e }
theorem Yd{nS nH:Nat}{k a b t bk sl:Int}(h:k=1\/k=3):Dh nS nH ⟨k,a,b,t,bk,sl⟩=if Ei a b then 0 else 3:=by
 unfold Dh;rw[af h]
theorem U5{nS nH:Nat}{a b t bk sl:Int}:Dh nS nH ⟨2,a,b,t,bk,sl⟩=if inB t 1 1000000 && Ei a b then 0 else 3:=by
 unfold Dh;rw[ae (by simp),af rfl]
theorem a0p{nS nH:Nat}{k a b t bk sl:Int}(h:k=4\/k=5):Dh nS nH ⟨k,a,b,t,bk,sl⟩=if inB bk 0 ((nH:Int) - 1) then 0 else 5:=by
 unfold Dh;rw[ae (by dsimp only;omega),ae (by dsimp only;omega),af h]
theorem Ur{nS nH:Nat}{a b t bk sl:Int}:Dh nS nH ⟨6,a,b,t,bk,sl⟩=if inB sl 0 ((nS:Int) - 1) then 0 else 5:=by
 unfold Dh;rw[ae (by simp),ae (by simp),ae (by simp),af rfl]
theorem a0q{nS nH:Nat}{k a b t bk sl:Int}(h:k<1\/6<k):Dh nS nH ⟨k,a,b,t,bk,sl⟩=4:=by
 unfold Dh;rw[ae (by dsimp only;omega),ae (by dsimp only;omega),ae (by dsimp only;omega),ae (by dsimp only;omega)]
section
open ChangeShapes WideShapes ChangeAt RowKit
theorem Ce{n:Nat}(hb:Below n W w1):(∀ b o,b<n->w1.cell? ⟨b,o,none⟩=W.cell? ⟨b,o,none⟩)/\(∀ b o,b<n->w1.frozen? ⟨b,o,none⟩=W.frozen? ⟨b,o,none⟩) :=
 ⟨fun b o h=>hb.cell (p:=⟨b,o,none⟩) h,fun b o h=>hb.frozen (p:=⟨b,o,none⟩) h⟩
theorem cell_lt{w:Wq}{b o:Nat}{v:Value}(h:w.cell? ⟨b,o,none⟩=some v):b<w.heap.size:=by
 refine Nat.lt_of_not_le fun hh=>?_
 unfold World.cell? at h
 rw[Array.getElem?_eq_none hh] at h
 cases h
structure Dk(w:Wq)(ao:Option Addr)(bg:Nat)(l:List Int):Prop where
 le:l.length<=bg
 max:l.length*8<=140737488351232
 nil:ao=none->bg=0
 at_:l.length=0\/∃ b o,ao=some ⟨b,o,none⟩/\∀ i (h:i<l.length),w.cell? ⟨b,o+i,none⟩=some (O J l[i])
structure Jf(w:Wq)(ao:Option Addr)(bg:Nat)(l:List Sl):Prop where
 le:l.length<=bg
 max:l.length*48<=140737488351232
 nil:ao=none->bg=0
 at_:l.length=0\/∃ b o,ao=some ⟨b,o,none⟩/\∀ i (h:i<l.length),
  w.cell? ⟨b,o+i*6,none⟩=some (O J l[i].refs)/\w.cell? ⟨b,o+i*6+1,none⟩=some (O J l[i].a)/\w.cell? ⟨b,o+i*6+2,none⟩=some (O J l[i].b) /\
  w.cell? ⟨b,o+i*6+3,none⟩=some (O J l[i].unt)/\w.cell? ⟨b,o+i*6+4,none⟩=some (.bool l[i].inn)/\w.cell? ⟨b,o+i*6+5,none⟩=some (O J l[i].next)
theorem Dk.below{w w':Wq}{ao:Option Addr}{bg:Nat}{l:List Int}(r:Dk w ao bg l)(hb:Below w.heap.size w w'):Dk w' ao bg l:=by
 refine⟨r.le,r.max,r.nil,?_⟩
 rcases r.at_ with h|⟨b,o,h,hc⟩
 ·exact .inl h
 ·exact .inr ⟨b,o,h,fun i hi=>(hb.cell (p:=⟨b,o+i,none⟩) (cell_lt (hc i hi))).trans (hc i hi)⟩
theorem Jf.below{w w':Wq}{ao:Option Addr}{bg:Nat}{l:List Sl}(r:Jf w ao bg l)(hb:Below w.heap.size w w'):Jf w' ao bg l:=by
 refine⟨r.le,r.max,r.nil,?_⟩
 rcases r.at_ with h|⟨b,o,h,hc⟩
 ·exact .inl h
 ·refine .inr ⟨b,o,h,fun i hi=>?_⟩
  obtain⟨c0,c1,c2,c3,c4,c5⟩:=hc i hi
  have lt:=cell_lt c0
  obtain⟨q,_⟩:=Ce hb
  exact⟨(q _ _ lt).trans c0,(q _ _ lt).trans c1,(q _ _ lt).trans c2,(q _ _ lt).trans c3,(q _ _ lt).trans c4,(q _ _ lt).trans c5⟩
structure At(w:Wq)(aS aH aF aL:Option Addr)(cS cH cF cL:Nat)(M:Mm):Prop where
 s:Jf w aS cS M.s
 h:Dk w aH cH M.h
 f:Dk w aF cF M.f
 l:Dk w aL cL M.l
theorem At.below{w w':Wq}{aS aH aF aL:Option Addr}{cS cH cF cL:Nat}{M:Mm}(r:At w aS aH aF aL cS cH cF cL M)(hb:Below w.heap.size w w'):At w' aS aH aF aL cS cH cF cL M :=
 ⟨r.s.below hb,r.h.below hb,r.f.below hb,r.l.below hb⟩
theorem A7(o:Obj):Below w.heap.size w (w.alloc o):=(Below.refl _ _).alloc (aC _) _
theorem En{w wr:Wq}{v0 v1 v2 v3 v4:Value}{t:TypeId}(hb:Below (w.heap.size+1) (w.alloc (.cells #[v0,v1,v2,v3,v4] t)) wr) :
  wr.cell? ⟨w.heap.size,0,none⟩=some v0/\wr.cell? ⟨w.heap.size,1,none⟩=some v1/\wr.cell? ⟨w.heap.size,2,none⟩=some v2/\wr.cell? ⟨w.heap.size,3,none⟩=some v3/\wr.cell? ⟨w.heap.size,4,none⟩=some v4/\w.heap.size+1<=wr.heap.size:=by
 obtain⟨q,_⟩:=Ce hb
 refine⟨(q _ _ (by omega)).trans (by simp),(q _ _ (by omega)).trans (by simp),(q _ _ (by omega)).trans (by simp),(q _ _ (by omega)).trans (by simp),(q _ _ (by omega)).trans (by simp),?_⟩
 have:=hb.size
 simpa using this
theorem Ci :
  aI Pg 85 #[O J x,O J lo,O J hi] w fun e w'=>e=.returned (.bool (inB x lo hi))/\w=w':=by
 by_cases h:lo<=x
 ·go_enter func85,ntmps85
  go_wp2
  go_ret
  exact⟨by simp[inB,h],rfl⟩
 ·have h':x<lo:=by omega
  go_enter func85,ntmps85
  go_wp2
  go_ret
  exact⟨by simp[inB];omega,rfl⟩
theorem Ep(hn:nS<=9223372036854775807) :
  aI Pg 111 #[.agg #[Y aS nS cS,Y aH nH cH,Y aF nF cF,Y aL nL cL,O J je],O J a] w fun e w'=>e=.returned (.bool (inB a 0 ((nS:Int) - 1)))/\Below w.heap.size w w':=by
 by_cases h:0<=a
 ·by_cases h2:a<nS
  ·go_enter func111,ntmps111
   go_wp2
   go_ret
   refine⟨?_,A7 _ _⟩
   rw[show inB a 0 ((nS:Int) - 1)=true from (Ar _ _ _).2 ⟨h,by omega⟩];rfl
  ·have h3:(nS:Int)<=a:=by omega
   go_enter func111,ntmps111
   go_wp2
   go_ret
   refine⟨?_,A7 _ _⟩
   rw[show inB a 0 ((nS:Int) - 1)=false by simp[inB];omega];rfl
 ·have h':a<0:=by omega
  go_enter func111,ntmps111
  go_wp2
  go_ret
  refine⟨?_,A7 _ _⟩
  rw[show inB a 0 ((nS:Int) - 1)=false by simp[inB];omega];rfl
theorem Jr(hn:nS<=9223372036854775807)(hh:nH<=9223372036854775807) :
  aI Pg 127 #[.agg #[Y aS nS cS,Y aH nH cH,Y aF nF cF,Y aL nL cL,O J je],O J a] w fun e w'=>e=.returned (.bool (inB a (-(nH:Int)) nS))/\Below w.heap.size w w':=by
 go_enter func127,ntmps127
 go_wp2_with (go_at_call 85;refine(Ci _ _ _ _).mono ?_;rintro e w1 ⟨rfl,rfl⟩)
 go_ret
 exact⟨rfl,A7 _ _⟩
theorem X5 :
  aI Pg 138 #[.agg #[O J a,O J b]] w fun e w'=>e=.returned (.agg #[O J a,O J b])/\(w.alloc (.cells #[O J a,O J b] 30)).alloc (.cells #[O J a,O J b] 175)=w':=by
 go_enter func138,ntmps138
 go_wp2
 exact bodyPost_ret (v:=.agg #[O J a,O J b]) (by simp[results,results138,go_sem]) rfl ⟨rfl,rfl⟩
theorem P6(h:Ei a b=true) :
  aI Pg 96 #[.agg #[O J a,O J b]] w fun e w'=>e=.returned (O J 0)/\Below w.heap.size w w':=by
 obtain⟨⟨h0,h1⟩,h2,h3⟩:=(L6 a b).1 h
 clear h
 have i0:∀ w,(Instr.index 175 (.agg #[O J a,O J b]) (O J 0)).run Pg w=.ok (O J a) w:=fun _=>by kernel_rfl
 have i1:∀ w,(Instr.index 175 (.agg #[O J a,O J b]) (O J 1)).run Pg w=.ok (O J b) w:=fun _=>by kernel_rfl
 go_enter func96,ntmps96
 go_wp2_with (first|(go_at_call 138;refine(X5 _ _ _).mono ?_;rintro e w1 ⟨rfl,rfl⟩))
 refine aO 3 ?_
 rw[aJ]
 go_wp2
 rw[aJ]
 go_wp2
 rw[aJ]
 go_wp2
 go_ret
 refine⟨rfl,?_⟩
 repeat (first|exact Below.refl _ _|refine Below.alloc ?_ (by simp <;> omega) _)
theorem Xe(h:Ei a b=false) :
  aI Pg 96 #[.agg #[O J a,O J b]] w fun e w'=>e=.returned (O J 3)/\Below w.heap.size w w':=by
 have hc:a<0\/(0<=a/\15<a)\/(0<=a/\a<=15/\b<0)\/(0<=a/\a<=15/\0<=b/\15<b):=by
  have:¬ ((0<=a/\a<=15)/\(0<=b/\b<=15)):=fun hh=>by rw[(L6 a b).2 hh] at h;cases h
  omega
 clear h
 have i0:∀ w,(Instr.index 175 (.agg #[O J a,O J b]) (O J 0)).run Pg w=.ok (O J a) w:=fun _=>by kernel_rfl
 have i1:∀ w,(Instr.index 175 (.agg #[O J a,O J b]) (O J 1)).run Pg w=.ok (O J b) w:=fun _=>by kernel_rfl
 rcases hc with h|⟨h1,h2⟩|⟨h1,h2,h3⟩|⟨h1,h2,h3,h4⟩
 all_goals
  go_enter func96,ntmps96
  go_wp2_with (first|(go_at_call 138;refine(X5 _ _ _).mono ?_;rintro e w1 ⟨rfl,rfl⟩))
  refine aO 3 ?_
  rw[aJ]
  go_wp2
  try (rw[aJ];go_wp2)
  go_ret
  refine⟨rfl,?_⟩
  repeat (first|exact Below.refl _ _|refine Below.alloc ?_ (by simp <;> omega) _)
theorem a3i :
  aI Pg 96 #[.agg #[O J a,O J b]] w fun e w'=>e=.returned (O J (if Ei a b then 0 else 3))/\Below w.heap.size w w':=by
 cases h:Ei a b
 ·exact Xe a b w h
 ·exact P6 a b w h
end
def Ae(B:Nat):Value:=.pointer (some ⟨B,0,none⟩)
def Gj(c:Cl):Value:=.agg #[O J c.k,O J c.a,O J c.b,O J c.t,O J c.q,O J c.h]
def Ai(f:Fr)(aK:Option Addr)(cK:Nat):Value:=.agg #[O J f.c.k,O J f.c.a,O J f.c.b,O J f.c.t,O J f.c.q,O J f.c.h,O J f.l,O J f.u,O J f.p,O J f.h,O J f.n,Y aK f.t.length cK,.bool f.d,O J f.e]
def Cm(aS aH aF aL:Option Addr)(cS cH cF cL:Nat)(M:Mm):Value:=.agg #[Y aS M.s.length cS,Y aH M.h.length cH,Y aF M.f.length cF,Y aL M.l.length cL,O J M.w]
section
open ChangeShapes WideShapes ChangeAt RowKit
theorem a9y(h:k<l.length)(x:Int)(h0:hasB (l.take k) x=false)(hx:¬ x=l[k]):hasB (l.take (k+1)) x=false:=by
 rw[Xa] at h0 ⊢
 rw[aV h,List.mem_append,List.mem_singleton]
 rintro (h|h)
 ·exact h0 h
 ·exact hx h
theorem b3l(n:Nat)(h:k<l.length)(hk:k<n)(x:Int)(hx:x=l[k]):hasB (l.take n) x=true:=by
 rw[Oz]
 subst hx
 have:(l.take n)[k]?=some l[k]:=by rw[List.getElem?_take_of_lt hk];exact List.getElem?_eq_getElem h
 exact List.mem_of_getElem? this
theorem a7d(hn:n<=l.length)(BL:n<=9223372036854775807)(jc:n=0\/∃ b o,ao=some ⟨b,o,none⟩/\∀ i (h:i<l.length),w.cell? ⟨b,o+i,none⟩=some (O J l[i])) :
  aI Pg 78 #[Y ao n bg,O J x] w fun e w'=>∃ i:Int,e=.returned (O J i)/\decide (0<=i)=hasB (l.take n) x/\w=w':=by
 rcases jc with rfl|⟨b,o,rfl,hc⟩
 ·go_enter func78,ntmps78
  go_wp2
  refine aO 1 ?_
  rw[aJ]
  go_wp2
  go_ret
  exact⟨-1,rfl,by simp[hasB],rfl⟩
 ·go_enter func78,ntmps78
  go_wp2
  go_loop [8] (fun i=>∃ k:Nat,k<=n/\i=O J k/\Qi (hasB (l.take k) x=false)) (fun i=>n - (intOf i).toNat)
  case atStart=>exact⟨0,aG _,rfl,by show _=_;simp[hasB]⟩
  case round =>
   obtain⟨k,hk,rfl,HC⟩:=hrel
   by_cases gm:k<n
   ·have ut:k<l.length:=by omega
    have BI:=hc k ut
    clear hc
    by_cases hx:x=l[k]
    ·have HH:Qi (hasB (l.take n) x=true):=b3l l k n ut gm x hx
     generalize l[k]=y at BI hx
     subst hx
     go_wp2
     go_ret
     exact⟨k,rfl,by rw[HH.o];simp,rfl⟩
    ·have HH:Qi (hasB (l.take (k+1)) x=false):=a9y l k ut x HC.o hx
     have LP:(x==l[k])=false:=by simpa using hx
     go_wp2
     go_round
     case rel=>exact⟨k+1,by omega,by go_num,HH⟩
     case measure=>simp[intOf];omega
   ·obtain rfl:k=n:=by omega
    go_wp2
    go_ret
    exact⟨-1,rfl,by rw[HC.o];rfl,rfl⟩
theorem Ic(hn:n<=l.length)(BL:n<=9223372036854775807)(jc:n=0\/∃ b o,ao=some ⟨b,o,none⟩/\∀ i (h:i<l.length),w.cell? ⟨b,o+i,none⟩=some (O J l[i])) :
  aI Pg 33 #[Y ao n bg,O J x] w fun e w'=>e=.returned (.bool (hasB (l.take n) x))/\w=w':=by
 go_enter func33,ntmps33
 go_wp2_with (go_at_call 78;refine(a7d _ _ _ l _ _ hn BL jc).mono ?_;rintro e w1 ⟨i,rfl,hd,rfl⟩)
 go_ret
 exact⟨rfl,rfl⟩
end
section
open ChangeShapes WideShapes ChangeAt RowKit
theorem Bf{k:IntKind}{a b:Int}(h:a=b):Ending.returned (.int k a)=.returned (.int k b):=by rw[h]
theorem Io{f:α->Int}{l:List α}{k:Nat}(h:k<l.length){e:Int}(he:f l[k]=e)(h0:e≠0)(H:Ap f l=Ap f (l.drop k)):Ap f l=e:=by
 rw[H,Lr f l k h,he,af h0]
theorem step_ok{f:α->Int}{l:List α}{k:Nat}(h:k<l.length)(he:f l[k]=0)(H:Ap f l=Ap f (l.drop k)):Ap f l=Ap f (l.drop (k+1)):=by
 rw[H,Lr f l k h,he,ae (by simp)]
theorem Ws(M:Mm)(aS aH aF aL:Option Addr)(cS cH cF cL:Nat)(w:Wq)(A:At w aS aH aF aL cS cH cF cL M) :
  aI Pg 86 #[Cm aS aH aF aL cS cH cF cL M] w fun e w' =>
   e=.returned (O J (Ap (D8 M.h.length M.s.length) M.s))/\Below w.heap.size w w':=by
 unfold Cm
 obtain⟨S,H,F,L,je⟩:=M
 obtain⟨rs,rh,rf,rl⟩:=A
 dsimp only at rs rh rf rl ⊢
 have m1:=rs.max;have m2:=rs.le;have m3:=rh.max;have m4:=rh.le
 have n1:S.length<=9223372036854775807:=by omega
 have n2:H.length<=9223372036854775807:=by omega
 obtain⟨f,hf⟩:∃ f,f=D8 H.length S.length:=⟨_,rfl⟩
 have HF:Qi (f=D8 H.length S.length):=hf
 rw[<- hf]
 clear hf
 have hz:=rs.at_
 clear rh rf rl rs
 go_enter func86,ntmps86
 go_wp2
 rcases hz with h0|⟨b,o,rfl,hc⟩
 ·have HE:Qi (Ap f S=0):=by
   show _=_
   rw[List.eq_nil_of_length_eq_zero h0];rfl
  refine aO 1 ?_
  rw[aJ]
  go_wp2
  go_ret
  exact⟨Bf HE.o.symm,A7 _ _⟩
 ·go_loopw [9] (fun i wr=>∃ k:Nat,k<=S.length/\i=O J k/\Below (w.heap.size+1) (w.alloc (.cells #[Y (some ⟨b,o,none⟩) S.length cS,Y aH H.length cH,Y aF F.length cF,Y aL L.length cL,O J je] 25)) wr/\Qi (Ap f S=Ap f (S.drop k)))
   (fun i _=>S.length - (intOf i).toNat)
  case atStart=>exact⟨0,aG _,rfl,Below.refl _ _,by show _=_;rw[List.drop_zero]⟩
  case round =>
   obtain⟨k,hk,rfl,hb,HE⟩:=hrel
   have jd:Below w.heap.size w wr:=(A7 w _).trans (hb.mono (by omega))
   obtain⟨q0,q1,q2,q3,q4,q5⟩:=En hb
   by_cases gm:k<S.length
   ·obtain⟨c0,c1,c2,c3,c4,c5⟩:=hc k gm
    have lt:=cell_lt c0
    obtain⟨qc,-⟩:=Ce jd
    rw[<- qc _ _ lt] at c0 c1 c2 c3 c4 c5
    clear hc qc
    have lt':b<wr.heap.size:=cell_lt c0
    generalize hs:S[k]=s at c0 c1 c2 c3 c4 c5
    obtain⟨r,a,bb,u,i,nx⟩:=s
    dsimp only at c0 c1 c2 c3 c4 c5
    have HS:Qi (S[k]=⟨r,a,bb,u,i,nx⟩):=hs
    clear hs
    cases h1:inB r 0 1000
    ·have HV:Qi (Ap f S=3):=Io gm (by rw[HS.o,HF.o];simp[D8,h1]) (by decide) HE.o
     go_wp2_with (go_at_call 85;refine(Ci _ _ _ _).mono ?_;rintro e w1 ⟨rfl,rfl⟩)
     go_ret
     exact⟨Bf HV.o.symm,jd.alloc jd.size _⟩
    cases h2:inB u 0 2000000
    ·have HV:Qi (Ap f S=3):=Io gm (by rw[HS.o,HF.o];simp[D8,h2]) (by decide) HE.o
     go_wp2_with (go_at_call 85;refine(Ci _ _ _ _).mono ?_;rintro e w1 ⟨rfl,rfl⟩)
     go_ret
     exact⟨Bf HV.o.symm,jd.alloc jd.size _⟩
    cases h3:Ei a bb
    ·have HV:Qi (Ap f S=3):=Io gm (by rw[HS.o,HF.o];simp[D8,h3]) (by decide) HE.o
     go_wp2_with (first|(go_at_call 85;refine(Ci _ _ _ _).mono ?_;rintro e w1 ⟨rfl,rfl⟩)|(go_at_call 96;refine(Xe _ _ _ h3).mono ?_;rintro e w1 ⟨rfl,bu⟩))
     go_ret
     exact⟨Bf HV.o.symm,(jd.alloc jd.size _).trans (bu.mono (by have:=jd.size;simp;omega))⟩
    go_wp2_with (go_at_call 85;refine(Ci _ _ _ _).mono ?_;rintro e w1 ⟨rfl,rfl⟩)
    refine(P6 _ _ _ h3).mono ?_
    rintro e w1 ⟨rfl,bu⟩
    have qW:Below w.heap.size w w1:=(jd.alloc jd.size _).trans (bu.mono (by have:=jd.size;simp;omega))
    have vG:=(hb.alloc q5 (.cells #[O J r,O J a,O J bb,O J u,.bool i,O J nx] 64)).trans (bu.mono (by simp;omega))
    have s5:w1.cell? ⟨wr.heap.size,5,none⟩=some (O J nx):=((Ce bu).1 _ _ (by simp)).trans (by simp)
    have z1:wr.heap.size+1<=w1.heap.size:=by have:=bu.size;simpa using this
    clear bu c0 c1 c2 c3 c4 c5 q0 q1 q2 q3 q4
    obtain⟨q0,q1,q2,q3,q4,-⟩:=En vG
    cases h4:inB nx (-(H.length:Int)) S.length
    ·have HV:Qi (Ap f S=5):=Io gm (by rw[HS.o,HF.o];simp[D8,h1,h2,h3,h4]) (by decide) HE.o
     go_wp2_with (go_at_call 127;refine(Jr _ _ _ _ _ _ _ _ _ _ _ _ _ _ _ n1 n2).mono ?_;rintro e w2 ⟨rfl,dm⟩)
     go_ret
     exact⟨Bf HV.o.symm,qW.trans (dm.mono qW.size)⟩
    ·have HV:Qi (Ap f S=Ap f (S.drop (k+1))):=step_ok gm (by rw[HS.o,HF.o];simp[D8,h1,h2,h3,h4]) HE.o
     go_wp2_with (go_at_call 127;refine(Jr _ _ _ _ _ _ _ _ _ _ _ _ _ _ _ n1 n2).mono ?_;rintro e w2 ⟨rfl,dm⟩)
     go_roundw
     case rel=>exact⟨k+1,by omega,by go_num,vG.trans (dm.mono (by omega)),HV⟩
     case measure=>simp[intOf];omega
   ·have HV:Qi (Ap f S=0):=by
     show _=_
     rw[HE.o,Iz f S k (by omega)]
    go_wp2
    go_ret
    exact⟨Bf HV.o.symm,jd⟩
end
end Go.Proofs.YthhgoenomehobaaGreat.mm
