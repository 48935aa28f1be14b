/- Parts. -/
import Derived.Test.YthhgoenomehobaaGreatP01
import Derived.Deep.RegionLaw
import Derived.Maps.AppendAt
namespace Go.Proofs.YthhgoenomehobaaGreat.mm
set_option maxRecDepth 100000
set_option linter.unusedVariables false
open Go.Value renaming int → O, slice → Y
open Go.IntKind renaming i64 → J
open Go.Proofs.Tryz renaming prog → Pg
open Go renaming World → Wq
section
theorem getD_lt(S:List Sl)(j:Nat)(h:j<S.length):S.getD j sl0=S[j]:=by simp[List.getD_eq_getElem?_getD,h]
theorem Wv(S:List Sl)(j:Nat)(s:Sl)(h:j<S.length):(S.set j s).getD j sl0=s:=by simp[List.getD_eq_getElem?_getD,h]
theorem Va(S:List Sl)(i j:Nat)(s:Sl)(h:j≠i):(S.set j s).getD i sl0=S.getD i sl0:=by simp[List.getD_eq_getElem?_getD,List.getElem?_set_ne h]
theorem Ok.set{m:Mm}(h:Ok m)(j:Nat)(s:Sl)(hs:Cb m.heads.length m.slots.length s=0)(F:List Int)(h1:∀ a∈F,Fz (m.slots.set j s) a=true)(h2:F.Nodup)
  (h3:∀ i,i<m.slots.length->((m.slots.set j s).getD i sl0).refs=0->(i:Int)∈F):Ok { m with slots:=m.slots.set j s,free:=F }:=by
 refine⟨by simpa using h.ns,h.nh,h.nl,h.now,?_,?_,h1,h2,?_⟩
 ·intro x hx
  dsimp only at hx ⊢
  rw[List.length_set]
  rcases List.mem_or_eq_of_mem_set hx with hx|rfl
  ·exact h.slot x hx
  ·exact hs
 ·intro p hp
  dsimp only at hp ⊢
  rw[List.length_set]
  exact h.chain p hp
 ·intro i hi hr
  exact h3 i (by simpa using hi) hr
theorem Ii{nh ns:Nat}{s:Sl}(h:Cb nh ns s=0):inB s.refs 0 1000=true/\inB s.unt 0 2000000=true/\E5 s.a s.b=true/\inB s.next (-(nh:Int)) ns=true:=by
 unfold Cb at h
 split at h
 ·rename_i h1
  split at h
  ·rename_i h2
   simp only[Bool.and_eq_true] at h1
   exact⟨h1.1.1,h1.1.2,h1.2,h2⟩
  ·omega
 ·omega
theorem a4n{nh ns:Nat}{s:Sl}(h1:inB s.refs 0 1000=true)(h2:inB s.unt 0 2000000=true)(h3:E5 s.a s.b=true)(h4:inB s.next (-(nh:Int)) ns=true):Cb nh ns s=0:=by
 simp[Cb,h1,h2,h3,h4]
theorem a0w{m:Mm}(hF:0<m.free.length):m.free=m.free.take (m.free.length - 1) ++ [G8 m]:=by
 have hl:G8 m=m.free[m.free.length - 1]:=by
  have:m.free.length - 1<m.free.length:=by omega
  simp[G8,List.getD_eq_getElem?_getD,this]
 rw[hl]
 have:=List.take_succ_eq_append_getElem (l:=m.free) (i:=m.free.length - 1) (by omega)
 rw[<- this,show m.free.length - 1+1=m.free.length by omega,List.take_length]
theorem b1f{m:Mm}(h:Ok m)(hF:0<m.free.length):0<=G8 m/\G8 m<m.slots.length/\Dy m (G8 m)=0:=by
 have hm:G8 m∈m.free:=by rw[a0w hF];simp
 exact(Ih _ _).1 (h.free _ hm)
theorem Zc(m:Mm)(i:Int):Dc m i=true ↔ ∃ j:Nat,i=j/\j<m.slots.length:=by
 unfold Dc
 rw[Aj]
 constructor
 ·intro h
  exact⟨i.toNat,by omega,by omega⟩
 ·rintro ⟨j,rfl,h⟩
  omega
end
section
def Rh(S:List Sl)(n:Int):Int:=(S.getD (n - 1).toNat sl0).next
def Ia(S:List Sl):Nat->Int->List Int
 | 0,_=>[]
 | k+1,n=>if 0<n then (n - 1) :: Ia S k (Rh S n) else []
def Ld(S:List Sl):Nat->Int->Int
 | 0,n=>n
 | k+1,n=>if 0<n then Ld S k (Rh S n) else n
def Bf(M:Mm)(b:Nat):Int:=M.heads.getD b 0
def chL(M:Mm)(b:Nat):List Int:=Ia M.slots M.slots.length (Bf M b)
def chE(M:Mm)(b:Nat):Int:=Ld M.slots M.slots.length (Bf M b)
def Rq(M:Mm)(b:Nat):Bool:=chE M b == -1 - (b:Int)
def Aa(M:Mm)(a:Int):Sl:=M.slots.getD a.toNat sl0
def keyAt(M:Mm)(a:Int):Int × Int:=((Aa M a).a,(Aa M a).b)
def Eo(a b:Int)(n:Nat):Int:=(7*a+3*b+a*b) % n
def hasK(M:Mm)(all:List Int)(k:Int × Int):Bool:=(all.map (keyAt M)).contains k
def a2r(M:Mm)(all:List Int)(k:Int × Int):Int:=(all.find? fun a=>keyAt M a==k).getD 0
def I9(M:Mm)(b:Nat)(all:List Int)(a:Int):Int :=
 if (Aa M a).refs=0\/(Aa M a).inn=false then 5
 else if Eo (Aa M a).a (Aa M a).b M.heads.length≠b then 4
 else if hasK M all (keyAt M a) then 6 else 0
def I8(M:Mm)(b:Nat):List Int->List Int->Int
 | _,[]=>0
 | all,a :: l=>if I9 M b all a≠0 then I9 M b all a else I8 M b (all ++ [a]) l
def U8(M:Mm):Nat->Nat->List Int->Int
 | 0,_,_=>0
 | k+1,b,all=>if Rq M b then (if I8 M b all (chL M b)≠0 then I8 M b all (chL M b) else U8 M k (b+1) (all++chL M b)) else 4
def Kq(M:Mm):Int:=if chk M≠0 then chk M else U8 M M.heads.length 0 []
def C9(M:Mm)(b:Nat):List Int:=(List.range b).flatMap (chL M)
def Qg(M:Mm):List Int:=C9 M M.heads.length
theorem Ie(M:Mm)(b:Nat):C9 M (b+1)=C9 M b++chL M b:=by simp[C9,List.range_succ]
theorem a1z(M:Mm)(b:Nat)(all l:List Int)(k:Nat)(h:k<l.length) :
  I8 M b (all++l.take k) (l.drop k)=if I9 M b (all++l.take k) l[k] ≠ 0 then I9 M b (all++l.take k) l[k] else I8 M b (all++l.take (k+1)) (l.drop (k+1)):=by
 rw[List.drop_eq_getElem_cons h,List.take_succ_eq_append_getElem h,<- List.append_assoc];rfl
theorem a5z(M:Mm)(b:Nat)(all l:List Int)(k:Nat)(h:l.length<=k):I8 M b (all++l.take k) (l.drop k)=0:=by
 rw[List.drop_of_length_le h];rfl
theorem a4b(M:Mm)(b:Nat)(h:b<M.heads.length) :
  U8 M (M.heads.length - b) b (C9 M b)=if Rq M b then (if I8 M b (C9 M b) (chL M b)≠0 then I8 M b (C9 M b) (chL M b) else U8 M (M.heads.length - (b+1)) (b+1) (C9 M (b+1))) else 4:=by
 rw[show M.heads.length - b=(M.heads.length - (b+1))+1 by omega,Ie];rfl
theorem a7a(M:Mm)(b:Nat)(h:M.heads.length<=b)(all:List Int):U8 M (M.heads.length - b) b all=0:=by
 rw[show M.heads.length - b=0 by omega];rfl
structure OkC(M:Mm):Prop where
 ok:Ok M
 ends:∀ b,b<M.heads.length->chE M b=-1 - (b:Int)
 held:∀ b,b<M.heads.length->∀ a∈chL M b,(Aa M a).refs≠0/\(Aa M a).inn=true/\Eo (Aa M a).a (Aa M a).b M.heads.length=b
 keys:((Qg M).map (keyAt M)).Nodup
theorem Nz(M:Mm)(all:List Int)(k:Int × Int):hasK M all k=true ↔ k∈all.map (keyAt M):=by simp[hasK]
theorem Qb(M:Mm)(b:Nat)(all:List Int)(a:Int):I9 M b all a=0 ↔ ((Aa M a).refs≠0/\(Aa M a).inn=true/\Eo (Aa M a).a (Aa M a).b M.heads.length=b)/\¬ keyAt M a∈all.map (keyAt M):=by
 unfold I9
 rw[<- Nz]
 by_cases h1:(Aa M a).refs=0\/(Aa M a).inn=false
 ·rw[if_pos h1]
  constructor
  ·intro h;omega
  ·rintro ⟨⟨h,h',_⟩,_⟩
   rcases h1 with h1|h1
   ·exact absurd h1 h
   ·rw[h'] at h1;cases h1
 rw[if_neg h1]
 have h1':(Aa M a).refs≠0/\(Aa M a).inn=true:=by
  refine⟨fun h=>h1 (.inl h),?_⟩
  cases h:(Aa M a).inn
  ·exact absurd (.inr h) h1
  ·rfl
 by_cases h2:Eo (Aa M a).a (Aa M a).b M.heads.length=b
 ·rw[if_neg (by simpa using h2)]
  cases h3:hasK M all (keyAt M a)
  ·simp[h1',h2]
  ·simp
 ·rw[if_pos h2]
  constructor
  ·intro h;omega
  ·rintro ⟨⟨_,_,h⟩,_⟩;exact absurd h h2
theorem a2a(M:Mm)(b:Nat)(l:List Int):∀ all:List Int,(all.map (keyAt M)).Nodup->(I8 M b all l=0 ↔ (∀ a∈l,(Aa M a).refs≠0/\(Aa M a).inn=true/\Eo (Aa M a).a (Aa M a).b M.heads.length=b)/\((all++l).map (keyAt M)).Nodup):=by
 induction l with
 | nil=>intro all h;simp[I8];exact h
 | cons a l ih =>
  intro all hn
  simp only[I8]
  by_cases h:I9 M b all a=0
  ·rw[if_neg (by simpa using h)]
   have h':=(Qb M b all a).1 h
   have hn':((all ++ [a]).map (keyAt M)).Nodup:=by
    rw[List.map_append,List.nodup_append]
    refine⟨hn,by simp,?_⟩
    intro x hx y hy e
    simp at hy
    subst hy
    subst e
    exact h'.2 hx
   rw[ih (all ++ [a]) hn',List.append_assoc]
   simp only[List.mem_cons,forall_eq_or_imp,List.cons_append,List.nil_append]
   constructor
   ·rintro ⟨h1,h2⟩;exact⟨⟨h'.1,h1⟩,h2⟩
   ·rintro ⟨⟨_,h1⟩,h2⟩;exact⟨h1,h2⟩
  ·rw[if_pos h]
   constructor
   ·intro hh;exact absurd hh h
   ·rintro ⟨h1,h2⟩
    exfalso
    apply h
    rw[Qb]
    refine⟨h1 a (by simp),fun hm=>?_⟩
    rw[List.map_append,List.nodup_append] at h2
    exact h2.2.2 _ hm _ (by simp) rfl
theorem Yt(M:Mm)(b:Nat):Rq M b=true ↔ chE M b=-1 - (b:Int):=by simp[Rq]
theorem Xc(M:Mm):∀ (k b:Nat),b+k=M.heads.length->((C9 M b).map (keyAt M)).Nodup ->
  (U8 M k b (C9 M b)=0 ↔ (∀ c,b<=c->c<M.heads.length->chE M c=-1 - (c:Int)/\∀ a∈chL M c,(Aa M a).refs≠0/\(Aa M a).inn=true/\Eo (Aa M a).a (Aa M a).b M.heads.length=c)/\((Qg M).map (keyAt M)).Nodup)
 | 0,b,hb,hn=>by
  have:b=M.heads.length:=by omega
  subst this
  simp only[U8,true_iff]
  exact⟨fun c h1 h2=>by omega,hn⟩
 | k+1,b,hb,hn=>by
  simp only[U8]
  cases hc:Rq M b
  ·simp only[Bool.false_eq_true,if_false]
   constructor
   ·intro h;omega
   ·rintro ⟨h,_⟩
    have:=(Yt M b).2 (h b (Nat.le_refl _) (by omega)).1
    rw[hc] at this;cases this
  ·have hc':=(Yt M b).1 hc
   simp only[if_true]
   have hs:=a2a M b (chL M b) (C9 M b) hn
   rw[<- Ie] at hs ⊢
   by_cases h:I8 M b (C9 M b) (chL M b)=0
   ·rw[if_neg (by simpa using h)]
    have h':=hs.1 h
    rw[Xc M k (b+1) (by omega) h'.2]
    constructor
    ·rintro ⟨h1,h2⟩
     refine⟨fun c hc1 hc2=>?_,h2⟩
     by_cases e:c=b
     ·subst e;exact⟨hc',h'.1⟩
     ·exact h1 c (by omega) hc2
    ·rintro ⟨h1,h2⟩
     exact⟨fun c hc1 hc2=>h1 c (by omega) hc2,h2⟩
   ·rw[if_pos h]
    constructor
    ·intro hh;exact absurd hh h
    ·rintro ⟨h1,h2⟩
     exfalso
     apply h
     rw[hs]
     refine⟨(h1 b (Nat.le_refl _) (by omega)).2,?_⟩
     have e:Qg M=C9 M (b+1)++((List.range (M.heads.length - (b+1))).map (· + (b+1))).flatMap (chL M):=by
      unfold Qg C9
      rw[<- List.flatMap_append]
      congr 1
      rw[show M.heads.length=(b+1)+(M.heads.length - (b+1)) by omega,List.range_add]
      simp[Nat.add_comm]
     rw[e,List.map_append,List.nodup_append] at h2
     exact h2.1
theorem a4c(M:Mm):Kq M=0 ↔ OkC M:=by
 unfold Kq
 by_cases h:chk M=0
 ·rw[if_neg (by simpa using h),show ([]:List Int)=C9 M 0 from rfl,Xc M M.heads.length 0 (by omega) (by simp[C9])]
  constructor
  ·rintro ⟨h1,h2⟩
   exact⟨(Ku M).1 h,fun b hb=>(h1 b (Nat.zero_le _) hb).1,fun b hb=>(h1 b (Nat.zero_le _) hb).2,h2⟩
  ·rintro ⟨_,h1,h2,h3⟩
   exact⟨fun c _ hc=>⟨h1 c hc,h2 c hc⟩,h3⟩
 ·rw[if_pos h]
  constructor
  ·intro hh;exact absurd hh h
  ·intro hh;exact absurd ((Ku M).2 hh.ok) h
end
section
structure Cl where
 kind:Int
 a:Int
 b:Int
 time:Int
 bk:Int
 slot:Int
structure Fr where
 c:Cl
 pl:Int
 cur:Int
 prev:Int
 slot:Int
 n:Int
 keys:List (Int × Int)
 done:Bool
 e:Int
def D5(nS nH:Nat)(c:Cl):Int :=
 if c.kind=1\/c.kind=3 then (if E5 c.a c.b then 0 else 3)
 else if c.kind=2 then (if inB c.time 1 1000000 && E5 c.a c.b then 0 else 3)
 else if c.kind=4\/c.kind=5 then (if inB c.bk 0 ((nH:Int) - 1) then 0 else 5)
 else if c.kind=6 then (if inB c.slot 0 ((nS:Int) - 1) then 0 else 5)
 else 4
def frE(nS nH:Nat)(f:Fr):Int :=
 if D5 nS nH f.c≠0 then D5 nS nH f.c
 else if inB f.pl 0 9=false\/inB f.n 0 1000000=false\/f.done=true then 3
 else if inB f.cur (-(nH:Int)) nS=false\/inB f.prev 0 nS=false\/inB f.slot (-1) ((nS:Int) - 1)=false then 5
 else if 100<f.keys.length then 2 else 0
def Ey(nH:Nat)(c:Cl):Int :=
 if c.kind=4\/c.kind=5 then c.bk
 else if E5 c.a c.b then (if 1<=nH/\nH<=4 then Eo c.a c.b nH else 0) else 0
def Cm(c:Cl):Fr:=⟨c,0,0,0,-1,0,[],false,0⟩
def Ag(f:Fr)(e:Int):Fr:={ f with done:=true,e:=e }
theorem X8{nS nH:Nat}{k a b t bk sl:Int}(h:k=1\/k=3):D5 nS nH ⟨k,a,b,t,bk,sl⟩=if E5 a b then 0 else 3:=by
 unfold D5;rw[if_pos h]
theorem Rn{nS nH:Nat}{a b t bk sl:Int}:D5 nS nH ⟨2,a,b,t,bk,sl⟩=if inB t 1 1000000 && E5 a b then 0 else 3:=by
 unfold D5;rw[if_neg (by simp),if_pos rfl]
theorem Yp{nS nH:Nat}{k a b t bk sl:Int}(h:k=4\/k=5):D5 nS nH ⟨k,a,b,t,bk,sl⟩=if inB bk 0 ((nH:Int) - 1) then 0 else 5:=by
 unfold D5;rw[if_neg (by dsimp only;omega),if_neg (by dsimp only;omega),if_pos h]
theorem Tm{nS nH:Nat}{a b t bk sl:Int}:D5 nS nH ⟨6,a,b,t,bk,sl⟩=if inB sl 0 ((nS:Int) - 1) then 0 else 5:=by
 unfold D5;rw[if_neg (by simp),if_neg (by simp),if_neg (by simp),if_pos rfl]
theorem Yr{nS nH:Nat}{k a b t bk sl:Int}(h:k<1\/6<k):D5 nS nH ⟨k,a,b,t,bk,sl⟩=4:=by
 unfold D5;rw[if_neg (by dsimp only;omega),if_neg (by dsimp only;omega),if_neg (by dsimp only;omega),if_neg (by dsimp only;omega)]
end
section
def I7(M:Mm)(b:Nat)(ahead a:Int):Mm :=
 if 0<ahead then { M with slots:=M.slots.set (ahead - 1).toNat { Aa M (ahead - 1) with next:=(Aa M a).next } } else { M with heads:=M.heads.set b (Aa M a).next }
def Path(S:List Sl):Int->List Int->Int->Prop
 | n,[],e=>n=e/\n<=0
 | n,a :: l,e=>n=a+1/\0<=a/\Path S (S.getD a.toNat sl0).next l e
theorem Xv(S:List Sl):∀ (k:Nat) (n:Int),Ld S k n<=0->Path S n (Ia S k n) (Ld S k n)/\(Ia S k n).length<=k
 | 0,n,h=>⟨⟨rfl,h⟩,by simp[Ia]⟩
 | k+1,n,h=>by
  simp only[Ld,Ia] at h ⊢
  by_cases hn:0<n
  ·rw[if_pos hn] at h
   rw[if_pos hn,if_pos hn]
   have:=Xv S k _ h
   exact⟨⟨by omega,by omega,this.1⟩,by simpa using this.2⟩
  ·rw[if_neg hn] at h
   rw[if_neg hn,if_neg hn]
   exact⟨⟨rfl,h⟩,by simp⟩
theorem U3{S:List Sl}:∀ {n:Int} {l:List Int} {e:Int},Path S n l e->∀ a∈l,0<=a
 | _,[],_,_,_,ha=>by cases ha
 | _,x :: l,_,h,a,ha=>by
  rcases List.mem_cons.1 ha with rfl|ha
  ·exact h.2.1
  ·exact U3 h.2.2 a ha
theorem a3m{S:List Sl}{N:Nat}(hs:∀ s∈S,s.next<=N)(h0:(0:Int)<=N):∀ {n:Int} {l:List Int} {e:Int},n<=N->Path S n l e->∀ a∈l,a<N
 | _,[],_,_,_,_,ha=>by cases ha
 | n,x :: l,_,hn,h,a,ha=>by
  rcases List.mem_cons.1 ha with rfl|ha
  ·have:=h.1;omega
  ·refine a3m hs h0 (n:=(S.getD x.toNat sl0).next) ?_ h.2.2 a ha
   by_cases hx:x.toNat<S.length
   ·rw[getD_lt S _ hx];exact hs _ (List.getElem_mem hx)
   ·rw[List.getD_eq_getElem?_getD,List.getElem?_eq_none (by omega)];exact h0
theorem few':∀ (n:Nat) (l:List Int),l.Nodup->(∀ a∈l,0<=a/\a<n)->l.length<=n
 | 0,l,hn,h=>by
  match l,h with
  | [],_=>simp
  | a :: _,h=>have:=h a (by simp);omega
 | n+1,l,hn,h=>by
  have h1:=few' n (l.erase (n:Int)) (hn.erase _) (fun a ha=>by
   have h3:=(hn.mem_erase_iff).1 ha
   have h4:=h a h3.2
   have h5:=h3.1
   omega)
  rw[List.length_erase] at h1
  split at h1 <;> omega
theorem OkC.path{M:Mm}(h:OkC M){b:Nat}(hb:b<M.heads.length):Path M.slots (Bf M b) (chL M b) (-1 - (b:Int)):=by
 have e:=h.ends b hb
 have:=(Xv M.slots M.slots.length (Bf M b) (by show chE M b<=0;omega)).1
 rw[show Ld M.slots M.slots.length (Bf M b)=-1 - (b:Int) from e] at this
 exact this
theorem Ok.a0x{M:Mm}(h:Ok M){b:Nat}(hb:b<M.heads.length):Bf M b≠0/\inB (Bf M b) (-(M.heads.length:Int)) M.slots.length=true:=by
 have hl:b<M.locks.length:=by have:=h.nl;omega
 have hz:b<(M.heads.zip M.locks).length:=by simp;omega
 have:=h.chain _ (List.getElem_mem hz)
 simp only[List.getElem_zip,Bz] at this
 have e:Bf M b=M.heads[b]:=by simp[Bf,List.getD_eq_getElem?_getD,hb]
 rw[e]
 split at this
 ·rename_i hh;exact hh
 ·omega
theorem OkC.slots{M:Mm}(h:OkC M){b:Nat}(hb:b<M.heads.length):∀ a∈chL M b,0<=a/\a<M.slots.length:=by
 intro a ha
 have hp:=h.path hb
 refine⟨U3 hp a ha,a3m (fun s hs=>?_) (by omega) ?_ hp a ha⟩
 ·have:=(Ii (h.ok.slot s hs)).2.2.2
  exact((Aj _ _ _).1 this).2
 ·exact((Aj _ _ _).1 (h.ok.a0x hb).2).2
theorem Ri{α β:Type}{f:α->β}:∀ {l:List α},(l.map f).Nodup->l.Nodup
 | [],_=>by simp
 | a :: l,h=>by
  rw[List.map_cons,List.nodup_cons] at h
  rw[List.nodup_cons]
  exact⟨fun hm=>h.1 (List.mem_map_of_mem hm),Ri h.2⟩
theorem a0n(M:Mm){b:Nat}(hb:b<M.heads.length):∃ l2,Qg M=C9 M b++chL M b++l2/\l2=((List.range (M.heads.length - (b+1))).map (· + (b+1))).flatMap (chL M):=by
 refine⟨_,?_,rfl⟩
 rw[<- Ie]
 unfold Qg C9
 rw[<- List.flatMap_append]
 congr 1
 rw[show M.heads.length=(b+1)+(M.heads.length - (b+1)) by omega,List.range_add]
 simp[Nat.add_comm]
theorem OkC.nodup{M:Mm}(h:OkC M){b:Nat}(hb:b<M.heads.length):(chL M b).Nodup:=by
 obtain⟨l2,e,_⟩:=a0n M hb
 have:=Ri h.keys
 rw[e,List.nodup_append,List.nodup_append] at this
 exact this.1.2.1
end
section
theorem a3x(a b:Int){n:Nat}(hn:1<=n):0<=Eo a b n/\Eo a b n<n:=⟨Int.emod_nonneg _ (by omega),Int.emod_lt_of_pos _ (by omega)⟩
theorem Ok.turn{M:Mm}(h:Ok M){j b:Nat}(hj:j<M.slots.length){nx hd:Int}{inn:Bool}(h1:inB nx (-(M.heads.length:Int)) M.slots.length=true)(h2:hd≠0/\inB hd (-(M.heads.length:Int)) M.slots.length=true) :
  Ok { M with slots:=M.slots.set j { Aa M j with next:=nx,inn:=inn },heads:=M.heads.set b hd }:=by
 have hs:Aa M j=M.slots[j]:=by simp[Aa,List.getD_eq_getElem?_getD,hj]
 have hgood:=Ii (h.slot _ (List.getElem_mem hj))
 have hr:∀ i:Nat,((M.slots.set j { Aa M j with next:=nx,inn:=inn }).getD i sl0).refs=(M.slots.getD i sl0).refs:=fun i=>by
  by_cases e:j=i
  ·subst e;rw[Wv _ _ _ hj];rfl
  ·rw[Va _ _ _ _ e]
 refine⟨by simpa using h.ns,by simpa using h.nh,by simpa using h.nl,h.now,?_,?_,?_,h.nodup,?_⟩
 ·intro x hx
  dsimp only at hx ⊢
  rw[List.length_set,List.length_set]
  rcases List.mem_or_eq_of_mem_set hx with hx|rfl
  ·exact h.slot x hx
  ·rw[hs]
   exact a4n hgood.1 hgood.2.1 hgood.2.2.1 h1
 ·intro p hp
  dsimp only at hp ⊢
  rw[List.length_set,List.length_set]
  obtain⟨i,hi,rfl⟩:=List.getElem_of_mem hp
  have hi':i<(M.heads.zip M.locks).length:=by simpa using hi
  have:=h.chain _ (List.getElem_mem hi')
  rw[List.getElem_zip] at this ⊢
  rw[List.getElem_set]
  unfold Bz at this ⊢
  dsimp only at this ⊢
  by_cases e:b=i
  ·rw[if_pos e,if_pos h2]
   split at this
   ·exact this
   ·omega
  ·rw[if_neg e];exact this
 ·intro a ha
  have:=(Ih _ _).1 (h.free a ha)
  rw[Ih]
  refine⟨this.1,by simpa using this.2.1,?_⟩
  rw[hr];exact this.2.2
 ·intro i hi hr'
  dsimp only at hi hr'
  rw[hr] at hr'
  exact h.all i (by simpa using hi) hr'
end
section
open Go.ChangeShapes Go.WideShapes Go.ChangeAt Go.RowKit
theorem Ov(b:Int)(w:Wq)(h0:0<=b)(h1:b<=1000):Calls Pg 108 #[O J b] w fun e w'=>e=.returned (O J (-1 - b))/\w=w':=by
 go_enter Tryz.func108,Tryz.ntmps108
 go_wp2
 go_ret
 exact⟨by go_num,rfl⟩
theorem a2o(b:Int)(w:Wq)(h0:0<=b)(h1:b<=1000):Calls Pg 214 #[O J b] w fun e w'=>e=.returned (O J (b+1))/\w=w':=by
 go_enter Tryz.func214,Tryz.ntmps214
 go_wp2
 go_ret
 exact⟨by go_num,rfl⟩
theorem Ot(n:Int)(w:Wq)(h:n<=0):Calls Pg 140 #[O J n] w fun e w'=>e=.returned (.tuple #[O J 0,.bool false])/\w=w':=by
 go_enter Tryz.func140,Tryz.ntmps140
 go_wp2
 go_ret2
 exact⟨rfl,rfl⟩
theorem Oq(n:Int)(w:Wq)(h:0<n)(h1:n<=1000):Calls Pg 140 #[O J n] w fun e w'=>e=.returned (.tuple #[O J (n - 1),.bool true])/\w=w':=by
 go_enter Tryz.func140,Tryz.ntmps140
 go_wp2
 go_ret2
 exact⟨by go_num,rfl⟩
theorem Gi(aS aH aF aL:Option Addr)(nS nH nF nL cS cH cF cL:Nat)(now a:Int)(w:Wq)(hn:nH<=9223372036854775807) :
  Calls Pg 97 #[.agg #[Y aS nS cS,Y aH nH cH,Y aF nF cF,Y aL nL cL,O J now],O J a] w fun e w'=>e=.returned (.bool (inB a 0 ((nH:Int) - 1)))/\Below w.heap.size w w':=by
 by_cases h:0<=a
 ·by_cases h2:a<nH
  ·go_enter Tryz.func97,Tryz.ntmps97
   go_wp2
   go_ret
   refine⟨?_,A7 _ _⟩
   rw[show inB a 0 ((nH:Int) - 1)=true from (Aj _ _ _).2 ⟨h,by omega⟩];rfl
  ·have h3:(nH:Int)<=a:=by omega
   go_enter Tryz.func97,Tryz.ntmps97
   go_wp2
   go_ret
   refine⟨?_,A7 _ _⟩
   rw[show inB a 0 ((nH:Int) - 1)=false by simp[inB];omega];rfl
 ·have h':a<0:=by omega
  go_enter Tryz.func97,Tryz.ntmps97
  go_wp2
  go_ret
  refine⟨?_,A7 _ _⟩
  rw[show inB a 0 ((nH:Int) - 1)=false by simp[inB];omega];rfl
theorem Dt{P:Program}(w:Wq){ops:Array Oper}{o:Oper}{a:Act}{K:Act->Wq->Prop}{Q:Exit->Act->Wq->Prop}{E:Prop}(hgd:o.guard=none)(s x:Operand)(t:TypeId)
  (ho:o.op=.call { callee:=.builtin .append,args:=#[s,x],argTypes:=#[t,t] })
  (base:Nat) (e:TypeId) (i:TypeInfo) (z:Value) (size bytes:Nat) (ht:P.underlying t=some (.slice e)) (hi:P.info? e=some i) (hz:i.zero=some z)
  (hsize:i.size=size) (hby:i.bytes=bytes) (hzs:z.cells.size=size) (hsz:0<size)
  (v:Value) (n:Nat) (xs:List Value) (hs:a.eval s=v) (hown:w.ownsRow base e size v n xs)
  (ad:Addr) (m c:Nat) (news:List Value) (hx:a.eval x=Y (some ad) m c) (hl:news.length=m*size) (hnews:∀ j u,news[j]?=some u->w.cell? (ad.add j)=some u) (h1:∀ u∈news,u.oneCell'=true)
  (h63:n+m<=maxLen) (hbytes:(n+m)*bytes<=140737488355328) (hbase:base<=w.heap.size)
  (h:∀ v' w',w'.ownsRow base e size v' (n+m) (xs++news)->w.grownBy w' v.ownBlock->(v'=Y none 0 0 ↔ v=Y none 0 0/\m=0)->(v'.ownBlock=v.ownBlock\/v'.ownBlock=some w.heap.size)->K (a.put o.dst v') w') :
  if Region.wanted o (yielded ops a.tmps)=true then Oper.wp P o a w K Q else E:=by
 have hw:Region.wanted o (yielded ops a.tmps)=true:=by simp[Region.wanted,hgd]
 rw[if_pos hw]
 obtain⟨v',w',hr,h2,h3,h4,h5⟩:=run_append_own_at (P:=P) w base t o.type e i z size bytes ht hi hz hsize hby hzs hsz v n xs hown ad m c news hl hnews h1 h63 hbytes hbase
 unfold Oper.wp execOp
 simp only[ho,resolve,invoke,builtin,Sem.run_bind,Sem.run_pure,Result.andThen_ok,List.map_toArray,List.map_cons,List.map_nil,hs,hx,hr]
 exact h v' w' h2 h3 h4 h5
end
end Go.Proofs.YthhgoenomehobaaGreat.mm
