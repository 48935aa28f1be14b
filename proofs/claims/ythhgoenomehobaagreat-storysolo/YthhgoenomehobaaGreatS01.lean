/- Parts. -/
namespace Go.Proofs.YthhgoenomehobaaGreat.mm
set_option maxRecDepth 100000
set_option linter.unusedVariables false
section
structure Sl where
 refs:Int
 a:Int
 b:Int
 unt:Int
 inn:Bool
 next:Int
structure Mm where
 slots:List Sl
 heads:List Int
 free:List Int
 locks:List Int
 now:Int
def sl0:Sl:=⟨0,0,0,0,false,0⟩
def m0:Mm:=⟨[],[],[],[],0⟩
def b6m(x y:Sl):Bool:=x.refs==y.refs && (x.a==y.a && (x.b==y.b && (x.unt==y.unt && (x.inn==y.inn && x.next==y.next))))
theorem b2j(x y:Sl):b6m x y=true ↔ x=y:=by
 cases x;cases y;simp[b6m]
theorem Z7(x:Sl):b6m x x=true:=(b2j x x).2 rfl
def inB(x lo hi:Int):Bool:=decide (lo<=x) && decide (x<=hi)
theorem Ai(x lo hi:Int):inB x lo hi=true ↔ lo<=x/\x<=hi:=by simp[inB]
def Ee(a b:Int):Bool:=inB a 0 15 && inB b 0 15
theorem Sr(a b:Int):Ee a b=true ↔ (0<=a/\a<=15)/\(0<=b/\b<=15):=by simp[Ee,inB]
def Em(nh ns:Nat)(s:Sl):Int :=
 if inB s.refs 0 1000 && inB s.unt 0 2000000 && Ee s.a s.b then (if inB s.next (-(nh:Int)) ns then 0 else 5) else 3
def F8(nh ns:Nat)(p:Int × Int):Int :=
 if p.1≠0/\inB p.1 (-(nh:Int)) ns then (if inB p.2 (-1) 4 then 0 else 3) else 5
def Az{α:Type}(f:α->Int):List α->Int
 | []=>0
 | x :: l=>if f x≠0 then f x else Az f l
theorem Me{α:Type}(f:α->Int)(l:List α)(k:Nat)(h:k<l.length) :
  Az f (l.drop k)=if f l[k] ≠ 0 then f l[k] else Az f (l.drop (k+1)):=by
 rw[List.drop_eq_getElem_cons h];rfl
theorem Qo{α:Type}(f:α->Int)(l:List α)(k:Nat)(h:l.length<=k):Az f (l.drop k)=0:=by
 rw[List.drop_of_length_le h];rfl
theorem Ia{α:Type}(f:α->Int)(l:List α):Az f l=0 ↔ ∀ x∈l,f x=0:=by
 induction l with
 | nil=>simp[Az]
 | cons x l ih =>
  simp only[Az,List.mem_cons,forall_eq_or_imp]
  by_cases h:f x=0
  ·simp[h,ih]
  ·simp[h]
def hasB(l:List Int)(x:Int):Bool:=l.contains x
theorem Oy(l:List Int)(x:Int):hasB l x=true ↔ x∈l:=by simp[hasB]
theorem a0w(l:List Int)(x:Int):hasB l x=false ↔ ¬ x∈l:=by simp[hasB]
def I4(S:List Sl)(a:Int):Bool:=decide (0<=a) && (decide (a<S.length) && decide ((S.getD a.toNat sl0).refs=0))
theorem Et(S:List Sl)(a:Int):I4 S a=true ↔ 0<=a/\a<S.length/\(S.getD a.toNat sl0).refs=0:=by simp[I4]
def D6(S:List Sl):List Int->List Int->Int
 | _,[]=>0
 | pre,a :: l=>if I4 S a then (if hasB pre a then 6 else D6 S (pre ++ [a]) l) else 5
def Dw(F:List Int):Nat->List Sl->Int
 | _,[]=>0
 | i,s :: l=>if s.refs==0 && !hasB F (i:Int) then 4 else Dw F (i+1) l
theorem O6(S:List Sl)(l:List Int)(k:Nat)(h:k<l.length) :
  D6 S (l.take k) (l.drop k)=if I4 S l[k] then (if hasB (l.take k) l[k] then 6 else D6 S (l.take (k+1)) (l.drop (k+1))) else 5:=by
 rw[List.drop_eq_getElem_cons h,List.take_succ_eq_append_getElem h];rfl
theorem a0t(S:List Sl)(l:List Int)(k:Nat)(h:l.length<=k):D6 S (l.take k) (l.drop k)=0:=by
 rw[List.drop_of_length_le h];rfl
theorem Tf(F:List Int)(S:List Sl)(k:Nat)(h:k<S.length) :
  Dw F k (S.drop k)=if S[k].refs==0 && !hasB F (k:Int) then 4 else Dw F (k+1) (S.drop (k+1)):=by
 rw[List.drop_eq_getElem_cons h];rfl
theorem a1g(F:List Int)(S:List Sl)(k:Nat)(h:S.length<=k):Dw F k (S.drop k)=0:=by
 rw[List.drop_of_length_le h];rfl
def chk(m:Mm):Int :=
 if 12<m.slots.length\/m.heads.length<1\/4<m.heads.length then 2
 else if m.locks.length≠m.heads.length then 4
 else if inB m.now 0 1000000=false then 3
 else if Az (Em m.heads.length m.slots.length) m.slots≠0 then Az (Em m.heads.length m.slots.length) m.slots
 else if Az (F8 m.heads.length m.slots.length) (m.heads.zip m.locks)≠0 then Az (F8 m.heads.length m.slots.length) (m.heads.zip m.locks)
 else if D6 m.slots [] m.free≠0 then D6 m.slots [] m.free
 else Dw m.free 0 m.slots
structure Ok(m:Mm):Prop where
 ns:m.slots.length<=12
 nh:1<=m.heads.length/\m.heads.length<=4
 nl:m.locks.length=m.heads.length
 now:0<=m.now/\m.now<=1000000
 slot:∀ s∈m.slots,Em m.heads.length m.slots.length s=0
 chain:∀ p∈m.heads.zip m.locks,F8 m.heads.length m.slots.length p=0
 free:∀ a∈m.free,I4 m.slots a=true
 nodup:m.free.Nodup
 all:∀ i,i<m.slots.length->(m.slots.getD i sl0).refs=0->(i:Int)∈m.free
theorem Ry(S:List Sl)(pre l:List Int)(hp:pre.Nodup):D6 S pre l=0 ↔ (∀ a∈l,I4 S a=true)/\(pre++l).Nodup:=by
 induction l generalizing pre with
 | nil=>simp[D6,hp]
 | cons a l ih =>
  simp only[D6,List.mem_cons,forall_eq_or_imp]
  by_cases h1:I4 S a=true
  ·by_cases h2:a∈pre
   ·simp[h1,h2,Oy,List.nodup_append]
    intro _ _ _ _
    exact⟨a,h2,fun h=>absurd rfl h⟩
   ·have hp':(pre ++ [a]).Nodup:=by
     rw[List.nodup_append];simp[hp]
     intro x hx e;subst e;exact h2 hx
    have:=ih (pre ++ [a]) hp'
    rw[List.append_assoc] at this
    simp only[h1,h2,Oy,if_true,if_false,true_and]
    exact this
  ·simp[h1]
theorem Ti(F:List Int)(S:List Sl)(k:Nat):Dw F k S=0 ↔ ∀ i,i<S.length->(S.getD i sl0).refs=0->((k+i:Nat):Int)∈F:=by
 induction S generalizing k with
 | nil=>simp[Dw]
 | cons s l ih =>
  simp only[Dw]
  by_cases h:s.refs==0 && !hasB F (k:Int)
  ·rw[if_pos h]
   simp only[Bool.and_eq_true,beq_iff_eq,Bool.not_eq_true'] at h
   constructor
   ·intro e;omega
   ·intro hh
    have:=hh 0 (by simp) (by simpa using h.1)
    simp only[Nat.add_zero] at this
    rw[<- Oy] at this
    rw[this] at h;simp at h
  ·rw[if_neg h,ih]
   constructor
   ·intro hh i hi hr
    match i with
    | 0 =>
     simp at hr
     simp[hr,Oy] at h
     simpa using h
    | i+1 =>
     have:=hh i (by simp at hi;omega) (by simpa using hr)
     rwa [show k+1+i=k+(i+1) by omega] at this
   ·intro hh i hi hr
    have:=hh (i+1) (by simp;omega) (by simpa using hr)
    rwa [show k+(i+1)=k+1+i by omega] at this
theorem Nl(m:Mm):chk m=0 ↔ Ok m:=by
 unfold chk
 constructor
 ·intro h
  split at h
  ·omega
  split at h
  ·omega
  split at h
  ·omega
  split at h
  ·omega
  split at h
  ·omega
  split at h
  ·omega
  rename_i h1 h2 h3 h4 h5 h6
  have h3':inB m.now 0 1000000=true:=by simpa using h3
  simp only[ne_eq,Decidable.not_not] at h4 h5 h6 h2
  have hf:=(Ry m.slots [] m.free List.nodup_nil).1 h6
  have hl:=(Ti m.free m.slots 0).1 h
  refine⟨by omega,by omega,h2,(Ai _ _ _).1 h3',(Ia _ _).1 h4,(Ia _ _).1 h5,hf.1,by simpa using hf.2,?_⟩
  intro i hi hr
  have:=hl i hi hr
  simpa using this
 ·intro h
  rw[if_neg (by have:=h.ns;have:=h.nh;omega),if_neg (by simpa using h.nl),if_neg (by rw[(Ai _ _ _).2 h.now];simp),
   if_neg (by simpa using (Ia _ _).2 h.slot),if_neg (by simpa using (Ia _ _).2 h.chain),
   if_neg (by simpa using (Ry m.slots [] m.free List.nodup_nil).2 ⟨h.free,by simpa using h.nodup⟩)]
  exact(Ti m.free m.slots 0).2 fun i hi hr=>by simpa using h.all i hi hr
def Eo(m:Mm):Int:=m.free.getD (m.free.length - 1) 0
def Hf(m:Mm)(ka kb u:Int):Mm :=
 { m with slots:=m.slots.set (Eo m).toNat ⟨1,ka,kb,u,false,(m.slots.getD (Eo m).toNat sl0).next⟩,free:=m.free.take (m.free.length - 1) }
def Ap(m:Mm)(i:Int):Int:=(m.slots.getD i.toNat sl0).refs
def Dp(m:Mm)(i r:Int):List Sl:=m.slots.set i.toNat { m.slots.getD i.toNat sl0 with refs:=r }
def Gn(m:Mm)(i:Int):Mm:={ m with slots:=Dp m i (Ap m i+1) }
def Lt(m:Mm)(i:Int):Mm:={ m with slots:=Dp m i (Ap m i - 1),free:=if Ap m i=1 then m.free ++ [i] else m.free }
def Be(m:Mm)(i:Int):Bool:=inB i 0 ((m.slots.length:Int) - 1)
def Uj(m:Mm)(ka kb u:Int):Int :=
 if chk m≠0 then chk m else if Ee ka kb=false then 3 else if inB u 0 2000000=false then 3 else if m.free.length=0 then 7 else 0
def Pj(m:Mm)(ka kb u:Int):Mm:=if Uj m ka kb u=0 then Hf m ka kb u else m0
def Zu(m:Mm)(ka kb u:Int):Int:=if Uj m ka kb u=0 then Eo m else 0
def letE(m:Mm)(i:Int):Int :=
 if chk m≠0 then chk m else if Be m i=false then 5 else if Ap m i=0 then 8 else 0
def letM(m:Mm)(i:Int):Mm:=if letE m i=0 then Lt m i else m0
def Gs(many buckets:Nat):Mm :=
 { slots:=List.replicate many sl0,heads:=(List.range buckets).map fun (b:Nat)=>-1 - (b:Int),free:=(List.range many).map fun (a:Nat)=>(many:Int) - 1 - (a:Int),locks:=List.replicate buckets (-1),now:=0 }
def Xe(many buckets:Int):Int:=if inB many 0 12 && inB buckets 1 4 then 0 else 3
end
section
theorem getD_lt(S:List Sl)(j:Nat)(h:j<S.length):S.getD j sl0=S[j]:=by simp[List.getD_eq_getElem?_getD,h]
theorem Gm(S:List Sl)(j:Nat)(s:Sl)(h:j<S.length):(S.set j s).getD j sl0=s:=by simp[List.getD_eq_getElem?_getD,h]
theorem Eb(S:List Sl)(i j:Nat)(s:Sl)(h:j≠i):(S.set j s).getD i sl0=S.getD i sl0:=by simp[List.getD_eq_getElem?_getD,List.getElem?_set_ne h]
theorem Ok.set{m:Mm}(h:Ok m)(j:Nat)(s:Sl)(hs:Em m.heads.length m.slots.length s=0)(F:List Int)(h1:∀ a∈F,I4 (m.slots.set j s) a=true)(h2:F.Nodup)
  (h3:∀ i,i<m.slots.length->((m.slots.set j s).getD i sl0).refs=0->(i:Int)∈F):Ok { m with slots:=m.slots.set j s,free:=F }:=by
 refine⟨by simpa using h.ns,h.nh,h.nl,h.now,?_,?_,h1,h2,?_⟩
 ·intro x hx
  dsimp only at hx ⊢
  rw[List.length_set]
  rcases List.mem_or_eq_of_mem_set hx with hx|rfl
  ·exact h.slot x hx
  ·exact hs
 ·intro p hp
  dsimp only at hp ⊢
  rw[List.length_set]
  exact h.chain p hp
 ·intro i hi hr
  exact h3 i (by simpa using hi) hr
theorem Gf{nh ns:Nat}{s:Sl}(h:Em nh ns s=0):inB s.refs 0 1000=true/\inB s.unt 0 2000000=true/\Ee s.a s.b=true/\inB s.next (-(nh:Int)) ns=true:=by
 unfold Em at h
 split at h
 ·rename_i h1
  split at h
  ·rename_i h2
   simp only[Bool.and_eq_true] at h1
   exact⟨h1.1.1,h1.1.2,h1.2,h2⟩
  ·omega
 ·omega
theorem Pv{nh ns:Nat}{s:Sl}(h1:inB s.refs 0 1000=true)(h2:inB s.unt 0 2000000=true)(h3:Ee s.a s.b=true)(h4:inB s.next (-(nh:Int)) ns=true):Em nh ns s=0:=by
 simp[Em,h1,h2,h3,h4]
theorem Qp{m:Mm}(hF:0<m.free.length):m.free=m.free.take (m.free.length - 1) ++ [Eo m]:=by
 have hl:Eo m=m.free[m.free.length - 1]:=by
  have:m.free.length - 1<m.free.length:=by omega
  simp[Eo,List.getD_eq_getElem?_getD,this]
 rw[hl]
 have:=List.take_succ_eq_append_getElem (l:=m.free) (i:=m.free.length - 1) (by omega)
 rw[<- this,show m.free.length - 1+1=m.free.length by omega,List.take_length]
theorem Sz{m:Mm}(h:Ok m)(hF:0<m.free.length):0<=Eo m/\Eo m<m.slots.length/\Ap m (Eo m)=0:=by
 have hm:Eo m∈m.free:=by rw[Qp hF];simp
 exact(Et _ _).1 (h.free _ hm)
theorem a5l{m:Mm}(h:Ok m){ka kb u:Int}(hk:Ee ka kb=true)(hu:inB u 0 2000000=true)(hF:0<m.free.length):Ok (Hf m ka kb u):=by
 obtain⟨l0,l1,l2⟩:=Sz h hF
 obtain⟨j,hj⟩:∃ j:Nat,Eo m=j:=⟨(Eo m).toNat,by omega⟩
 have hsp:=Qp hF
 have hnd:=h.nodup
 rw[hsp,List.nodup_append] at hnd
 have hjS:j<m.slots.length:=by omega
 unfold Hf
 rw[hj] at *
 rw[Int.toNat_natCast]
 have hgood:=Gf (h.slot _ (List.getElem_mem hjS))
 refine h.set j _ (Pv rfl hu hk ?_) _ ?_ hnd.1 ?_
 ·rw[getD_lt _ _ hjS];exact hgood.2.2.2
 ·intro a ha
  have hne:a≠j:=hnd.2.2 a ha j (by simp)
  have hf:=(Et _ _).1 (h.free a (List.mem_of_mem_take ha))
  rw[Et]
  refine⟨hf.1,by simpa using hf.2.1,?_⟩
  rw[Eb _ _ _ _ (by omega)]
  exact hf.2.2
 ·intro i hi hr
  by_cases e:j=i
  ·subst e
   rw[Gm _ _ _ hjS] at hr
   simp at hr
  ·rw[Eb _ _ _ _ e] at hr
   have:=h.all i hi hr
   rw[hsp,List.mem_append,List.mem_singleton] at this
   rcases this with h|h
   ·exact h
   ·omega
theorem a5e{m:Mm}{i:Nat}(h:i<m.slots.length):Ap m i=m.slots[i].refs:=by simp[Ap,List.getD_eq_getElem?_getD,h]
theorem Xm{m:Mm}{j:Nat}(h:j<m.slots.length)(r:Int):Dp m j r=m.slots.set j { m.slots[j] with refs:=r }:=by
 simp[Dp,List.getD_eq_getElem?_getD,h]
theorem a5m{m:Mm}(h:Ok m){j:Nat}(hj:j<m.slots.length){r:Int}(h0:0<r)(h1:r<=1000)(hr:Ap m j≠0):Ok { m with slots:=Dp m j r }:=by
 rw[Xm hj]
 rw[a5e hj] at hr
 have hgood:=Gf (h.slot _ (List.getElem_mem hj))
 refine h.set j _ (Pv (s:={ m.slots[j] with refs:=r }) ((Ai _ _ _).2 ⟨Int.le_of_lt h0,h1⟩) hgood.2.1 hgood.2.2.1 hgood.2.2.2) m.free ?_ h.nodup ?_
 ·intro a ha
  have hf:=(Et _ _).1 (h.free a ha)
  have hne:a≠j:=by
   rintro rfl
   rw[Int.toNat_natCast,getD_lt _ _ hj] at hf
   exact hr hf.2.2
  rw[Et]
  refine⟨hf.1,by simpa using hf.2.1,?_⟩
  rw[Eb _ _ _ _ (by omega)]
  exact hf.2.2
 ·intro i hi hr'
  by_cases e:j=i
  ·subst e
   rw[Gm _ _ _ hj] at hr'
   dsimp only at hr'
   omega
  ·rw[Eb _ _ _ _ e] at hr'
   exact h.all i hi hr'
theorem Fv(m:Mm)(i:Int):Be m i=true ↔ ∃ j:Nat,i=j/\j<m.slots.length:=by
 unfold Be
 rw[Ai]
 constructor
 ·intro h
  exact⟨i.toNat,by omega,by omega⟩
 ·rintro ⟨j,rfl,h⟩
  omega
theorem b5l{m:Mm}(h:Ok m){i:Int}(hi:Be m i=true)(h0:0<Ap m i)(h1:Ap m i<1000):Ok (Gn m i):=by
 obtain⟨j,rfl,hj⟩:=(Fv m i).1 hi
 exact a5m h hj (by omega) (by omega) (by omega)
theorem b9l{m:Mm}(h:Ok m){i:Int}(hi:Be m i=true)(h0:0<Ap m i)(h1:Ap m i<=1000):Ok (Lt m i):=by
 obtain⟨j,rfl,hj⟩:=(Fv m i).1 hi
 by_cases hl:Ap m j=1
 ·have e:Lt m j = { m with slots:=Dp m j 0,free:=m.free ++ [(j:Int)] }:=by simp[Lt,hl]
  rw[e,Xm hj]
  rw[a5e hj] at hl
  have hgood:=Gf (h.slot _ (List.getElem_mem hj))
  have hnj:(j:Int) ∉ m.free:=fun hm=>by
   have hf:=(Et _ _).1 (h.free _ hm)
   rw[Int.toNat_natCast,getD_lt _ _ hj,hl] at hf
   omega
  refine h.set j _ (Pv (s:={ m.slots[j] with refs:=0 }) rfl hgood.2.1 hgood.2.2.1 hgood.2.2.2) _ ?_ ?_ ?_
  ·intro a ha
   rw[List.mem_append,List.mem_singleton] at ha
   rw[Et]
   rcases ha with ha|rfl
   ·have hf:=(Et _ _).1 (h.free a ha)
    have hne:a≠j:=by rintro rfl;exact hnj ha
    refine⟨hf.1,by simpa using hf.2.1,?_⟩
    rw[Eb _ _ _ _ (by omega)]
    exact hf.2.2
   ·refine⟨by omega,by simpa using hj,?_⟩
    rw[Int.toNat_natCast,Gm _ _ _ hj]
  ·rw[List.nodup_append]
   refine⟨h.nodup,by simp,fun a ha b hb=>?_⟩
   rw[List.mem_singleton] at hb
   subst hb
   rintro rfl
   exact hnj ha
  ·intro i hi' hr'
   rw[List.mem_append,List.mem_singleton]
   by_cases e:j=i
   ·exact .inr (by omega)
   ·rw[Eb _ _ _ _ e] at hr'
    exact .inl (h.all i hi' hr')
 ·have e:Lt m j = { m with slots:=Dp m j (Ap m j - 1) }:=by simp[Lt,hl]
  rw[e]
  exact a5m h hj (by omega) (by omega) (by omega)
theorem a7f(m:Mm)(i k:Int):Be (Gn m i) k=Be m k:=by simp[Be,Gn,Dp]
theorem a8i{m:Mm}{i:Int}(hi:Be m i=true):Ap (Gn m i) i=Ap m i+1:=by
 obtain⟨j,rfl,hj⟩:=(Fv m i).1 hi
 simp[Gn,Ap,Dp,List.getD_eq_getElem?_getD,hj]
def G6(m:Mm)(i r:Int):Mm:={ m with slots:=Dp m i r }
theorem Y9{m:Mm}{i:Int}(hi:Be m i=true):G6 m i (Ap m i)=m:=by
 obtain⟨j,rfl,hj⟩:=(Fv m i).1 hi
 obtain⟨S,H,F,L,n⟩:=m
 dsimp only at hj
 have e:(S.getD j sl0)=S[j]:=getD_lt S j hj
 simp only[G6,Dp,Ap,Int.toNat_natCast,e,Mm.mk.injEq,and_true]
 exact List.set_getElem_self hj
theorem a7b{m:Mm}{i:Int}:Gn m i=G6 m i (Ap m i+1):=rfl
theorem Z4{m:Mm}{i:Int}(hi:Be m i=true)(r:Int):Ap (G6 m i r) i=r:=by
 obtain⟨j,rfl,hj⟩:=(Fv m i).1 hi
 simp[G6,Ap,Dp,List.getD_eq_getElem?_getD,hj]
theorem a9l{m:Mm}{i:Int}(hi:Be m i=true)(r q:Int):G6 (G6 m i r) i q=G6 m i q:=by
 obtain⟨j,rfl,hj⟩:=(Fv m i).1 hi
 simp[G6,Dp,List.getD_eq_getElem?_getD,hj]
theorem a1m{m:Mm}{i:Int}(hi:Be m i=true)(r:Int)(hr:r≠1):Lt (G6 m i r) i=G6 m i (r - 1):=by
 have h:Lt (G6 m i r) i=G6 (G6 m i r) i (Ap (G6 m i r) i - 1):=by
  have e:=Z4 hi r
  unfold Lt
  rw[e,if_neg hr]
  rfl
 rw[h,Z4 hi,a9l hi]
end
section
def J8(S:List Sl)(n:Int):Int:=(S.getD (n - 1).toNat sl0).next
def H5(S:List Sl):Nat->Int->List Int
 | 0,_=>[]
 | k+1,n=>if 0<n then (n - 1) :: H5 S k (J8 S n) else []
def Ie(S:List Sl):Nat->Int->Int
 | 0,n=>n
 | k+1,n=>if 0<n then Ie S k (J8 S n) else n
def Ar(M:Mm)(b:Nat):Int:=M.heads.getD b 0
def chL(M:Mm)(b:Nat):List Int:=H5 M.slots M.slots.length (Ar M b)
def chE(M:Mm)(b:Nat):Int:=Ie M.slots M.slots.length (Ar M b)
def U3(M:Mm)(b:Nat):Bool:=chE M b == -1 - (b:Int)
def A7(M:Mm)(a:Int):Sl:=M.slots.getD a.toNat sl0
def keyAt(M:Mm)(a:Int):Int × Int:=((A7 M a).a,(A7 M a).b)
def Eh(a b:Int)(n:Nat):Int:=(7*a+3*b+a*b) % n
def hasK(M:Mm)(all:List Int)(k:Int × Int):Bool:=(all.map (keyAt M)).contains k
def a4n(M:Mm)(all:List Int)(k:Int × Int):Int:=(all.find? fun a=>keyAt M a==k).getD 0
def Ja(M:Mm)(b:Nat)(all:List Int)(a:Int):Int :=
 if (A7 M a).refs=0\/(A7 M a).inn=false then 5
 else if Eh (A7 M a).a (A7 M a).b M.heads.length≠b then 4
 else if hasK M all (keyAt M a) then 6 else 0
def J9(M:Mm)(b:Nat):List Int->List Int->Int
 | _,[]=>0
 | all,a :: l=>if Ja M b all a≠0 then Ja M b all a else J9 M b (all ++ [a]) l
def Uw(M:Mm):Nat->Nat->List Int->Int
 | 0,_,_=>0
 | k+1,b,all=>if U3 M b then (if J9 M b all (chL M b)≠0 then J9 M b all (chL M b) else Uw M k (b+1) (all++chL M b)) else 4
def O4(M:Mm):Int:=if chk M≠0 then chk M else Uw M M.heads.length 0 []
def Bg(M:Mm)(b:Nat):List Int:=(List.range b).flatMap (chL M)
def Ba(M:Mm):List Int:=Bg M M.heads.length
theorem Jb(M:Mm)(b:Nat):Bg M (b+1)=Bg M b++chL M b:=by simp[Bg,List.range_succ]
theorem a3q(M:Mm)(b:Nat)(all l:List Int)(k:Nat)(h:k<l.length) :
  J9 M b (all++l.take k) (l.drop k)=if Ja M b (all++l.take k) l[k] ≠ 0 then Ja M b (all++l.take k) l[k] else J9 M b (all++l.take (k+1)) (l.drop (k+1)):=by
 rw[List.drop_eq_getElem_cons h,List.take_succ_eq_append_getElem h,<- List.append_assoc];rfl
theorem a8j(M:Mm)(b:Nat)(all l:List Int)(k:Nat)(h:l.length<=k):J9 M b (all++l.take k) (l.drop k)=0:=by
 rw[List.drop_of_length_le h];rfl
theorem a6d(M:Mm)(b:Nat)(h:b<M.heads.length) :
  Uw M (M.heads.length - b) b (Bg M b)=if U3 M b then (if J9 M b (Bg M b) (chL M b)≠0 then J9 M b (Bg M b) (chL M b) else Uw M (M.heads.length - (b+1)) (b+1) (Bg M (b+1))) else 4:=by
 rw[show M.heads.length - b=(M.heads.length - (b+1))+1 by omega,Jb];rfl
theorem b0c(M:Mm)(b:Nat)(h:M.heads.length<=b)(all:List Int):Uw M (M.heads.length - b) b all=0:=by
 rw[show M.heads.length - b=0 by omega];rfl
structure OkC(M:Mm):Prop where
 ok:Ok M
 ends:∀ b,b<M.heads.length->chE M b=-1 - (b:Int)
 held:∀ b,b<M.heads.length->∀ a∈chL M b,(A7 M a).refs≠0/\(A7 M a).inn=true/\Eh (A7 M a).a (A7 M a).b M.heads.length=b
 keys:((Ba M).map (keyAt M)).Nodup
theorem Gq(M:Mm)(all:List Int)(k:Int × Int):hasK M all k=true ↔ k∈all.map (keyAt M):=by simp[hasK]
theorem Qx(M:Mm)(b:Nat)(all:List Int)(a:Int):Ja M b all a=0 ↔ ((A7 M a).refs≠0/\(A7 M a).inn=true/\Eh (A7 M a).a (A7 M a).b M.heads.length=b)/\¬ keyAt M a∈all.map (keyAt M):=by
 unfold Ja
 rw[<- Gq]
 by_cases h1:(A7 M a).refs=0\/(A7 M a).inn=false
 ·rw[if_pos h1]
  constructor
  ·intro h;omega
  ·rintro ⟨⟨h,h',_⟩,_⟩
   rcases h1 with h1|h1
   ·exact absurd h1 h
   ·rw[h'] at h1;cases h1
 rw[if_neg h1]
 have h1':(A7 M a).refs≠0/\(A7 M a).inn=true:=by
  refine⟨fun h=>h1 (.inl h),?_⟩
  cases h:(A7 M a).inn
  ·exact absurd (.inr h) h1
  ·rfl
 by_cases h2:Eh (A7 M a).a (A7 M a).b M.heads.length=b
 ·rw[if_neg (by simpa using h2)]
  cases h3:hasK M all (keyAt M a)
  ·simp[h1',h2]
  ·simp
 ·rw[if_pos h2]
  constructor
  ·intro h;omega
  ·rintro ⟨⟨_,_,h⟩,_⟩;exact absurd h h2
theorem a3r(M:Mm)(b:Nat)(l:List Int):∀ all:List Int,(all.map (keyAt M)).Nodup->(J9 M b all l=0 ↔ (∀ a∈l,(A7 M a).refs≠0/\(A7 M a).inn=true/\Eh (A7 M a).a (A7 M a).b M.heads.length=b)/\((all++l).map (keyAt M)).Nodup):=by
 induction l with
 | nil=>intro all h;simp[J9];exact h
 | cons a l ih =>
  intro all hn
  simp only[J9]
  by_cases h:Ja M b all a=0
  ·rw[if_neg (by simpa using h)]
   have h':=(Qx M b all a).1 h
   have hn':((all ++ [a]).map (keyAt M)).Nodup:=by
    rw[List.map_append,List.nodup_append]
    refine⟨hn,by simp,?_⟩
    intro x hx y hy e
    simp at hy
    subst hy
    subst e
    exact h'.2 hx
   rw[ih (all ++ [a]) hn',List.append_assoc]
   simp only[List.mem_cons,forall_eq_or_imp,List.cons_append,List.nil_append]
   constructor
   ·rintro ⟨h1,h2⟩;exact⟨⟨h'.1,h1⟩,h2⟩
   ·rintro ⟨⟨_,h1⟩,h2⟩;exact⟨h1,h2⟩
  ·rw[if_pos h]
   constructor
   ·intro hh;exact absurd hh h
   ·rintro ⟨h1,h2⟩
    exfalso
    apply h
    rw[Qx]
    refine⟨h1 a (by simp),fun hm=>?_⟩
    rw[List.map_append,List.nodup_append] at h2
    exact h2.2.2 _ hm _ (by simp) rfl
theorem a0g(M:Mm)(b:Nat):U3 M b=true ↔ chE M b=-1 - (b:Int):=by simp[U3]
theorem Yg(M:Mm):∀ (k b:Nat),b+k=M.heads.length->((Bg M b).map (keyAt M)).Nodup ->
  (Uw M k b (Bg M b)=0 ↔ (∀ c,b<=c->c<M.heads.length->chE M c=-1 - (c:Int)/\∀ a∈chL M c,(A7 M a).refs≠0/\(A7 M a).inn=true/\Eh (A7 M a).a (A7 M a).b M.heads.length=c)/\((Ba M).map (keyAt M)).Nodup)
 | 0,b,hb,hn=>by
  have:b=M.heads.length:=by omega
  subst this
  simp only[Uw,true_iff]
  exact⟨fun c h1 h2=>by omega,hn⟩
 | k+1,b,hb,hn=>by
  simp only[Uw]
  cases hc:U3 M b
  ·simp only[Bool.false_eq_true,if_false]
   constructor
   ·intro h;omega
   ·rintro ⟨h,_⟩
    have:=(a0g M b).2 (h b (Nat.le_refl _) (by omega)).1
    rw[hc] at this;cases this
  ·have hc':=(a0g M b).1 hc
   simp only[if_true]
   have hs:=a3r M b (chL M b) (Bg M b) hn
   rw[<- Jb] at hs ⊢
   by_cases h:J9 M b (Bg M b) (chL M b)=0
   ·rw[if_neg (by simpa using h)]
    have h':=hs.1 h
    rw[Yg M k (b+1) (by omega) h'.2]
    constructor
    ·rintro ⟨h1,h2⟩
     refine⟨fun c hc1 hc2=>?_,h2⟩
     by_cases e:c=b
     ·subst e;exact⟨hc',h'.1⟩
     ·exact h1 c (by omega) hc2
    ·rintro ⟨h1,h2⟩
     exact⟨fun c hc1 hc2=>h1 c (by omega) hc2,h2⟩
   ·rw[if_pos h]
    constructor
    ·intro hh;exact absurd hh h
    ·rintro ⟨h1,h2⟩
     exfalso
     apply h
     rw[hs]
     refine⟨(h1 b (Nat.le_refl _) (by omega)).2,?_⟩
     have e:Ba M=Bg M (b+1)++((List.range (M.heads.length - (b+1))).map (· + (b+1))).flatMap (chL M):=by
      unfold Ba Bg
      rw[<- List.flatMap_append]
      congr 1
      rw[show M.heads.length=(b+1)+(M.heads.length - (b+1)) by omega,List.range_add]
      simp[Nat.add_comm]
     rw[e,List.map_append,List.nodup_append] at h2
     exact h2.1
theorem U4(M:Mm):O4 M=0 ↔ OkC M:=by
 unfold O4
 by_cases h:chk M=0
 ·rw[if_neg (by simpa using h),show ([]:List Int)=Bg M 0 from rfl,Yg M M.heads.length 0 (by omega) (by simp[Bg])]
  constructor
  ·rintro ⟨h1,h2⟩
   exact⟨(Nl M).1 h,fun b hb=>(h1 b (Nat.zero_le _) hb).1,fun b hb=>(h1 b (Nat.zero_le _) hb).2,h2⟩
  ·rintro ⟨_,h1,h2,h3⟩
   exact⟨fun c _ hc=>⟨h1 c hc,h2 c hc⟩,h3⟩
 ·rw[if_pos h]
  constructor
  ·intro hh;exact absurd hh h
  ·intro hh;exact absurd ((Nl M).2 hh.ok) h
end
section
structure Cl where
 kind:Int
 a:Int
 b:Int
 time:Int
 bk:Int
 slot:Int
structure Fr where
 c:Cl
 pl:Int
 cur:Int
 prev:Int
 slot:Int
 n:Int
 keys:List (Int × Int)
 done:Bool
 e:Int
def Df(nS nH:Nat)(c:Cl):Int :=
 if c.kind=1\/c.kind=3 then (if Ee c.a c.b then 0 else 3)
 else if c.kind=2 then (if inB c.time 1 1000000 && Ee c.a c.b then 0 else 3)
 else if c.kind=4\/c.kind=5 then (if inB c.bk 0 ((nH:Int) - 1) then 0 else 5)
 else if c.kind=6 then (if inB c.slot 0 ((nS:Int) - 1) then 0 else 5)
 else 4
def frE(nS nH:Nat)(f:Fr):Int :=
 if Df nS nH f.c≠0 then Df nS nH f.c
 else if inB f.pl 0 9=false\/inB f.n 0 1000000=false\/f.done=true then 3
 else if inB f.cur (-(nH:Int)) nS=false\/inB f.prev 0 nS=false\/inB f.slot (-1) ((nS:Int) - 1)=false then 5
 else if 100<f.keys.length then 2 else 0
def G7(nH:Nat)(c:Cl):Int :=
 if c.kind=4\/c.kind=5 then c.bk
 else if Ee c.a c.b then (if 1<=nH/\nH<=4 then Eh c.a c.b nH else 0) else 0
def Aw(c:Cl):Fr:=⟨c,0,0,0,-1,0,[],false,0⟩
def Af(f:Fr)(e:Int):Fr:={ f with done:=true,e:=e }
theorem a6c{nS nH:Nat}{k a b t bk sl:Int}(h:k=1\/k=3):Df nS nH ⟨k,a,b,t,bk,sl⟩=if Ee a b then 0 else 3:=by
 unfold Df;rw[if_pos h]
theorem Yc{nS nH:Nat}{a b t bk sl:Int}:Df nS nH ⟨2,a,b,t,bk,sl⟩=if inB t 1 1000000 && Ee a b then 0 else 3:=by
 unfold Df;rw[if_neg (by simp),if_pos rfl]
theorem a9z{nS nH:Nat}{k a b t bk sl:Int}(h:k=4\/k=5):Df nS nH ⟨k,a,b,t,bk,sl⟩=if inB bk 0 ((nH:Int) - 1) then 0 else 5:=by
 unfold Df;rw[if_neg (by dsimp only;omega),if_neg (by dsimp only;omega),if_pos h]
theorem a0f{nS nH:Nat}{a b t bk sl:Int}:Df nS nH ⟨6,a,b,t,bk,sl⟩=if inB sl 0 ((nS:Int) - 1) then 0 else 5:=by
 unfold Df;rw[if_neg (by simp),if_neg (by simp),if_neg (by simp),if_pos rfl]
theorem b0a{nS nH:Nat}{k a b t bk sl:Int}(h:k<1\/6<k):Df nS nH ⟨k,a,b,t,bk,sl⟩=4:=by
 unfold Df;rw[if_neg (by dsimp only;omega),if_neg (by dsimp only;omega),if_neg (by dsimp only;omega),if_neg (by dsimp only;omega)]
end
section
def ownB(M:Mm)(a:Int):Nat:=(Eh (A7 M a).a (A7 M a).b M.heads.length).toNat
def Gz(M:Mm)(a:Int):Mm:={ M with slots:=M.slots.set a.toNat { A7 M a with next:=Ar M (ownB M a),inn:=true },heads:=M.heads.set (ownB M a) (a+1) }
def Jn(a:Int):List Int->Int->Int->Int
 | [],ah,_=>ah
 | c :: l,ah,la=>Jn a l (if c==a then la else ah) (c+1)
def Ey(M:Mm)(b:Nat)(ahead a:Int):Mm :=
 if 0<ahead then { M with slots:=M.slots.set (ahead - 1).toNat { A7 M (ahead - 1) with next:=(A7 M a).next } } else { M with heads:=M.heads.set b (A7 M a).next }
def Path(S:List Sl):Int->List Int->Int->Prop
 | n,[],e=>n=e/\n<=0
 | n,a :: l,e=>n=a+1/\0<=a/\Path S (S.getD a.toNat sl0).next l e
theorem O0(S:List Sl):∀ (k:Nat) (n:Int),Ie S k n<=0->Path S n (H5 S k n) (Ie S k n)/\(H5 S k n).length<=k
 | 0,n,h=>⟨⟨rfl,h⟩,by simp[H5]⟩
 | k+1,n,h=>by
  simp only[Ie,H5] at h ⊢
  by_cases hn:0<n
  ·rw[if_pos hn] at h
   rw[if_pos hn,if_pos hn]
   have:=O0 S k _ h
   exact⟨⟨by omega,by omega,this.1⟩,by simpa using this.2⟩
  ·rw[if_neg hn] at h
   rw[if_neg hn,if_neg hn]
   exact⟨⟨rfl,h⟩,by simp⟩
theorem Nv(S:List Sl):∀ (k:Nat) (n:Int) (l:List Int) (e:Int),Path S n l e->l.length<=k->H5 S k n=l/\Ie S k n=e
 | k,n,[],e,h,hl=>by
  obtain⟨rfl,h⟩:=h
  cases k with
  | zero=>exact⟨rfl,rfl⟩
  | succ k=>simp only[Ie,H5];rw[if_neg (by omega),if_neg (by omega)];exact⟨rfl,rfl⟩
 | 0,n,a :: l,e,h,hl=>by simp at hl
 | k+1,n,a :: l,e,h,hl=>by
  obtain⟨rfl,h0,h⟩:=h
  have:=Nv S k _ l e h (by simpa using hl)
  simp only[Ie,H5,J8]
  rw[if_pos (by omega),if_pos (by omega),show a+1 - 1=a by omega]
  rw[this.1,this.2]
  exact⟨rfl,rfl⟩
theorem Ll{S S':List Sl}:∀ {n:Int} {l:List Int} {e:Int},(∀ a∈l,(S'.getD a.toNat sl0).next=(S.getD a.toNat sl0).next)->Path S n l e->Path S' n l e
 | _,[],_,_,h=>h
 | _,a :: l,_,hh,h=>by
  refine⟨h.1,h.2.1,?_⟩
  rw[hh a (by simp)]
  exact Ll (fun x hx=>hh x (by simp[hx])) h.2.2
def Nb(S:List Sl):Int->List Int->Int->Prop
 | n,[],e=>n=e
 | n,a :: l,e=>n=a+1/\0<=a/\Nb S (S.getD a.toNat sl0).next l e
theorem Xh{S:List Sl}:∀ {n:Int} {l1 l2:List Int} {e:Int},Path S n (l1++l2) e ↔ ∃ m,Nb S n l1 m/\Path S m l2 e
 | n,[],l2,e=>by simp[Nb]
 | n,a :: l1,l2,e=>by
  simp only[List.cons_append,Path,Nb,Xh (l1:=l1)]
  constructor
  ·rintro ⟨h1,h2,m,h3,h4⟩;exact⟨m,⟨h1,h2,h3⟩,h4⟩
  ·rintro ⟨m,⟨h1,h2,h3⟩,h4⟩;exact⟨h1,h2,m,h3,h4⟩
theorem P9{S:List Sl}:∀ {n:Int} {l:List Int} {p e:Int},Nb S n (l ++ [p]) e ↔ Nb S n l (p+1)/\0<=p/\(S.getD p.toNat sl0).next=e
 | n,[],p,e=>by simp[Nb]
 | n,a :: l,p,e=>by
  simp only[List.cons_append,Nb,P9 (l:=l)]
  constructor
  ·rintro ⟨h1,h2,h3,h4⟩;exact⟨⟨h1,h2,h3⟩,h4⟩
  ·rintro ⟨⟨h1,h2,h3⟩,h4⟩;exact⟨h1,h2,h3,h4⟩
theorem Tu{S S':List Sl}:∀ {n:Int} {l:List Int} {e:Int},(∀ a∈l,(S'.getD a.toNat sl0).next=(S.getD a.toNat sl0).next)->Nb S n l e->Nb S' n l e
 | _,[],_,_,h=>h
 | _,a :: l,_,hh,h=>by
  refine⟨h.1,h.2.1,?_⟩
  rw[hh a (by simp)]
  exact Tu (fun x hx=>hh x (by simp[hx])) h.2.2
theorem Us{S:List Sl}:∀ {n:Int} {l:List Int} {e:Int},Path S n l e->∀ a∈l,0<=a
 | _,[],_,_,_,ha=>by cases ha
 | _,x :: l,_,h,a,ha=>by
  rcases List.mem_cons.1 ha with rfl|ha
  ·exact h.2.1
  ·exact Us h.2.2 a ha
theorem a5d{S:List Sl}{N:Nat}(hs:∀ s∈S,s.next<=N)(h0:(0:Int)<=N):∀ {n:Int} {l:List Int} {e:Int},n<=N->Path S n l e->∀ a∈l,a<N
 | _,[],_,_,_,_,ha=>by cases ha
 | n,x :: l,_,hn,h,a,ha=>by
  rcases List.mem_cons.1 ha with rfl|ha
  ·have:=h.1;omega
  ·refine a5d hs h0 (n:=(S.getD x.toNat sl0).next) ?_ h.2.2 a ha
   by_cases hx:x.toNat<S.length
   ·rw[getD_lt S _ hx];exact hs _ (List.getElem_mem hx)
   ·rw[List.getD_eq_getElem?_getD,List.getElem?_eq_none (by omega)];exact h0
theorem b0s:∀ (n:Nat) (l:List Int),l.Nodup->(∀ a∈l,0<=a/\a<n)->l.length<=n
 | 0,l,hn,h=>by
  match l,h with
  | [],_=>simp
  | a :: _,h=>have:=h a (by simp);omega
 | n+1,l,hn,h=>by
  have h1:=b0s n (l.erase (n:Int)) (hn.erase _) (fun a ha=>by
   have h3:=(hn.mem_erase_iff).1 ha
   have h4:=h a h3.2
   have h5:=h3.1
   omega)
  rw[List.length_erase] at h1
  split at h1 <;> omega
theorem OkC.path{M:Mm}(h:OkC M){b:Nat}(hb:b<M.heads.length):Path M.slots (Ar M b) (chL M b) (-1 - (b:Int)):=by
 have e:=h.ends b hb
 have:=(O0 M.slots M.slots.length (Ar M b) (by show chE M b<=0;omega)).1
 rw[show Ie M.slots M.slots.length (Ar M b)=-1 - (b:Int) from e] at this
 exact this
theorem Ok.O8{M:Mm}(h:Ok M){b:Nat}(hb:b<M.heads.length):Ar M b≠0/\inB (Ar M b) (-(M.heads.length:Int)) M.slots.length=true:=by
 have hl:b<M.locks.length:=by have:=h.nl;omega
 have hz:b<(M.heads.zip M.locks).length:=by simp;omega
 have:=h.chain _ (List.getElem_mem hz)
 simp only[List.getElem_zip,F8] at this
 have e:Ar M b=M.heads[b]:=by simp[Ar,List.getD_eq_getElem?_getD,hb]
 rw[e]
 split at this
 ·rename_i hh;exact hh
 ·omega
theorem OkC.slots{M:Mm}(h:OkC M){b:Nat}(hb:b<M.heads.length):∀ a∈chL M b,0<=a/\a<M.slots.length:=by
 intro a ha
 have hp:=h.path hb
 refine⟨Us hp a ha,a5d (fun s hs=>?_) (by omega) ?_ hp a ha⟩
 ·have:=(Gf (h.ok.slot s hs)).2.2.2
  exact((Ai _ _ _).1 this).2
 ·exact((Ai _ _ _).1 (h.ok.O8 hb).2).2
theorem a7u{M:Mm}{n:Nat}{a:Int}:a∈Bg M n ↔ ∃ b,b<n/\a∈chL M b:=by simp[Bg]
theorem E5{M:Mm}{a:Int}:a∈Ba M ↔ ∃ b,b<M.heads.length/\a∈chL M b:=a7u
theorem Gi{α β:Type}{f:α->β}:∀ {l:List α},(l.map f).Nodup->l.Nodup
 | [],_=>by simp
 | a :: l,h=>by
  rw[List.map_cons,List.nodup_cons] at h
  rw[List.nodup_cons]
  exact⟨fun hm=>h.1 (List.mem_map_of_mem hm),Gi h.2⟩
theorem Hy(M:Mm){b:Nat}(hb:b<M.heads.length):∃ l2,Ba M=Bg M b++chL M b++l2/\l2=((List.range (M.heads.length - (b+1))).map (· + (b+1))).flatMap (chL M):=by
 refine⟨_,?_,rfl⟩
 rw[<- Jb]
 unfold Ba Bg
 rw[<- List.flatMap_append]
 congr 1
 rw[show M.heads.length=(b+1)+(M.heads.length - (b+1)) by omega,List.range_add]
 simp[Nat.add_comm]
theorem OkC.nodup{M:Mm}(h:OkC M){b:Nat}(hb:b<M.heads.length):(chL M b).Nodup:=by
 obtain⟨l2,e,_⟩:=Hy M hb
 have:=Gi h.keys
 rw[e,List.nodup_append,List.nodup_append] at this
 exact this.1.2.1
theorem OkC.Ha{M:Mm}(h:OkC M):∀ a∈Ba M,0<=a/\a<M.slots.length:=by
 intro a ha
 obtain⟨b,hb,hm⟩:=E5.1 ha
 exact h.slots hb a hm
end
section
theorem Kz(a b:Int){n:Nat}(hn:1<=n):0<=Eh a b n/\Eh a b n<n:=⟨Int.emod_nonneg _ (by omega),Int.emod_lt_of_pos _ (by omega)⟩
theorem b6c{M:Mm}(h:Ok M)(a:Int):ownB M a<M.heads.length:=by
 have:=Kz (A7 M a).a (A7 M a).b h.nh.1
 unfold ownB;omega
theorem b6b{M:Mm}(h:Ok M)(a:Int):(ownB M a:Int)=Eh (A7 M a).a (A7 M a).b M.heads.length:=by
 have:=Kz (A7 M a).a (A7 M a).b h.nh.1
 unfold ownB;omega
theorem Es{f g:Nat->List Int}:∀ {l:List Nat},(∀ c∈l,f c=g c)->l.flatMap f=l.flatMap g
 | [],_=>rfl
 | c :: l,h=>by
  rw[List.flatMap_cons,List.flatMap_cons,h c (by simp),Es (fun x hx=>h x (by simp[hx]))]
theorem U1{M M':Mm}{b:Nat}(hb:b<M.heads.length)(hl:M'.heads.length=M.heads.length)(h:∀ c,c<M.heads.length->c≠b->chL M' c=chL M c) :
  ∃ l1 l2,Ba M=l1++chL M b++l2/\Ba M'=l1++chL M' b++l2:=by
 obtain⟨x,e,ex⟩:=Hy M hb
 obtain⟨y,e',ey⟩:=Hy M' (b:=b) (by omega)
 have h1:Bg M' b=Bg M b:=Es fun c hc=>by
  rw[List.mem_range] at hc
  exact h c (by omega) (by omega)
 have h2:y=x:=by
  rw[ex,ey,hl]
  refine Es fun c hc=>?_
  simp only[List.mem_map,List.mem_range] at hc
  obtain⟨d,hd,rfl⟩:=hc
  exact h _ (by omega) (by omega)
 exact⟨Bg M b,x,e,by rw[e',h1,h2]⟩
theorem Xp{M:Mm}{S:List Sl}{H:List Int}{j:Nat}{s:Sl}(hj:j<M.slots.length)(hS:S=M.slots.set j s)(x:Int):A7 { M with slots:=S,heads:=H } x=if x.toNat=j then s else A7 M x:=by
 subst hS
 unfold A7
 dsimp only
 by_cases e:x.toNat=j
 ·rw[if_pos e,e,Gm _ _ _ hj]
 ·rw[if_neg e,Eb _ _ _ _ (fun h=>e h.symm)]
theorem U8{M:Mm}{S:List Sl}{b c:Nat}{n:Int}(hb:b<M.heads.length):Ar { M with slots:=S,heads:=M.heads.set b n } c=if c=b then n else Ar M c:=by
 unfold Ar
 dsimp only
 by_cases e:c=b
 ·subst e;rw[if_pos rfl];simp[List.getD_eq_getElem?_getD,hb]
 ·rw[if_neg e];simp[List.getD_eq_getElem?_getD,List.getElem?_set_ne (fun h=>e h.symm)]
theorem Ok.turn{M:Mm}(h:Ok M){j b:Nat}(hj:j<M.slots.length){nx hd:Int}{inn:Bool}(h1:inB nx (-(M.heads.length:Int)) M.slots.length=true)(h2:hd≠0/\inB hd (-(M.heads.length:Int)) M.slots.length=true) :
  Ok { M with slots:=M.slots.set j { A7 M j with next:=nx,inn:=inn },heads:=M.heads.set b hd }:=by
 have hs:A7 M j=M.slots[j]:=by simp[A7,List.getD_eq_getElem?_getD,hj]
 have hgood:=Gf (h.slot _ (List.getElem_mem hj))
 have hr:∀ i:Nat,((M.slots.set j { A7 M j with next:=nx,inn:=inn }).getD i sl0).refs=(M.slots.getD i sl0).refs:=fun i=>by
  by_cases e:j=i
  ·subst e;rw[Gm _ _ _ hj];rfl
  ·rw[Eb _ _ _ _ e]
 refine⟨by simpa using h.ns,by simpa using h.nh,by simpa using h.nl,h.now,?_,?_,?_,h.nodup,?_⟩
 ·intro x hx
  dsimp only at hx ⊢
  rw[List.length_set,List.length_set]
  rcases List.mem_or_eq_of_mem_set hx with hx|rfl
  ·exact h.slot x hx
  ·rw[hs]
   exact Pv hgood.1 hgood.2.1 hgood.2.2.1 h1
 ·intro p hp
  dsimp only at hp ⊢
  rw[List.length_set,List.length_set]
  obtain⟨i,hi,rfl⟩:=List.getElem_of_mem hp
  have hi':i<(M.heads.zip M.locks).length:=by simpa using hi
  have:=h.chain _ (List.getElem_mem hi')
  rw[List.getElem_zip] at this ⊢
  rw[List.getElem_set]
  unfold F8 at this ⊢
  dsimp only at this ⊢
  by_cases e:b=i
  ·rw[if_pos e,if_pos h2]
   split at this
   ·exact this
   ·omega
  ·rw[if_neg e];exact this
 ·intro a ha
  have:=(Et _ _).1 (h.free a ha)
  rw[Et]
  refine⟨this.1,by simpa using this.2.1,?_⟩
  rw[hr];exact this.2.2
 ·intro i hi hr'
  dsimp only at hi hr'
  rw[hr] at hr'
  exact h.all i (by simpa using hi) hr'
structure Linked(M M':Mm)(a:Int)(b:Nat):Prop where
 okc:OkC M'
 nh:M'.heads.length=M.heads.length
 ns:M'.slots.length=M.slots.length
 at_:chL M' b=a :: chL M b
 else_:∀ c,c<M.heads.length->c≠b->chL M' c=chL M c
 key:∀ x,keyAt M' x=keyAt M x
 unt:∀ x,(A7 M' x).unt=(A7 M x).unt
 refs:∀ x,(A7 M' x).refs=(A7 M x).refs
theorem a4x{M:Mm}(h:OkC M){a:Int}(ha:Be M a=true)(hr:Ap M a≠0)(hk:hasK M (Ba M) (keyAt M a)=false):Linked M (Gz M a) a (ownB M a):=by
 obtain⟨j,rfl,hj⟩:=(Fv M a).1 ha
 have hb:=b6c h.ok j
 have hbe:=b6b h.ok j
 have hhd:=h.ok.O8 hb
 have hnk:¬ keyAt M j∈(Ba M).map (keyAt M):=fun hm=>by rw[(Gq M _ _).2 hm] at hk;cases hk
 have hna:¬ (j:Int)∈Ba M:=fun hm=>hnk (List.mem_map_of_mem hm)
 have hok:Ok (Gz M j):=h.ok.turn (b:=ownB M j) hj hhd.2 ⟨by omega,by rw[Ai];omega⟩
 have hsl:∀ x,A7 (Gz M j) x=if x.toNat=j then { A7 M j with next:=Ar M (ownB M j),inn:=true } else A7 M x:=fun x=>Xp (j:=j) hj rfl x
 have hsx:∀ x:Int,x.toNat=j->A7 M x=A7 M j:=fun x hx=>by unfold A7;rw[hx,Int.toNat_natCast]
 have key:∀ x,keyAt (Gz M j) x=keyAt M x:=fun x=>by
  unfold keyAt;rw[hsl];split
  ·rename_i e;rw[hsx x e]
  ·rfl
 have unt:∀ x,(A7 (Gz M j) x).unt=(A7 M x).unt:=fun x=>by
  rw[hsl];split
  ·rename_i e;rw[hsx x e]
  ·rfl
 have refs:∀ x,(A7 (Gz M j) x).refs=(A7 M x).refs:=fun x=>by
  rw[hsl];split
  ·rename_i e;rw[hsx x e]
  ·rfl
 have hhead:∀ c,Ar (Gz M j) c=if c=ownB M j then (j:Int)+1 else Ar M c:=fun c=>U8 hb
 have nh:(Gz M j).heads.length=M.heads.length:=by simp[Gz]
 have ns:(Gz M j).slots.length=M.slots.length:=by simp[Gz]
 have cong:∀ c,c<M.heads.length->Path (Gz M j).slots (Ar M c) (chL M c) (-1 - (c:Int)):=fun c hc=>by
  refine Ll (fun x hx=>?_) (h.path hc)
  have:=hsl x
  have hx0:=h.slots hc x hx
  have hne:x.toNat≠j:=fun e=>hna (E5.2 ⟨c,hc,by rw[show (j:Int)=x by omega];exact hx⟩)
  rw[if_neg hne] at this
  unfold A7 at this
  rw[this]
 have other:∀ c,c<M.heads.length->c≠ownB M j->chL (Gz M j) c=chL M c/\chE (Gz M j) c=-1 - (c:Int):=fun c hc hne=>by
  have hw:=(O0 M.slots M.slots.length (Ar M c) (by show chE M c<=0;have:=h.ends c hc;omega)).2
  have:=Nv _ M.slots.length _ _ _ (cong c hc) hw
  unfold chL chE
  rw[hhead,if_neg hne,ns]
  exact this
 have own:chL (Gz M j) (ownB M j)=(j:Int) :: chL M (ownB M j)/\chE (Gz M j) (ownB M j)=-1 - (ownB M j:Int):=by
  have hp:Path (Gz M j).slots ((j:Int)+1) ((j:Int) :: chL M (ownB M j)) (-1 - (ownB M j:Int)):=by
   refine⟨rfl,by omega,?_⟩
   have:=hsl j
   rw[if_pos (Int.toNat_natCast j)] at this
   unfold A7 at this
   rw[this]
   exact cong _ hb
  have hlen:((j:Int) :: chL M (ownB M j)).length<=M.slots.length:=by
   refine b0s _ _ ?_ ?_
   ·rw[List.nodup_cons]
    exact⟨fun hm=>hna (E5.2 ⟨_,hb,hm⟩),h.nodup hb⟩
   ·intro x hx
    rcases List.mem_cons.1 hx with rfl|hx
    ·omega
    ·exact h.slots hb x hx
  have:=Nv _ M.slots.length _ _ _ hp hlen
  unfold chL chE
  rw[hhead,if_pos rfl,ns]
  exact this
 obtain⟨l1,l2,e1,e2⟩:=U1 hb nh (fun c hc hne=>(other c hc hne).1)
 refine⟨⟨hok,?_,?_,?_⟩,nh,ns,own.1,fun c hc hne=>(other c hc hne).1,key,unt,refs⟩
 ·intro c hc
  rw[nh] at hc
  by_cases e:c=ownB M j
  ·subst e;exact own.2
  ·exact(other c hc e).2
 ·intro c hc x hx
  rw[nh] at hc ⊢
  have inn:∀ x,(A7 M x).inn=true->(A7 (Gz M j) x).inn=true:=fun x hh=>by
   rw[hsl];split
   ·rfl
   ·exact hh
  have bk:∀ x,Eh (A7 (Gz M j) x).a (A7 (Gz M j) x).b M.heads.length=Eh (A7 M x).a (A7 M x).b M.heads.length:=fun x=>by
   have:=key x
   unfold keyAt at this
   injection this with t1 t2
   rw[t1,t2]
  by_cases e:c=ownB M j
  ·subst e
   rw[own.1] at hx
   rcases List.mem_cons.1 hx with rfl|hx
   ·refine⟨by rw[refs];exact hr,?_,by rw[bk,<- hbe]⟩
    rw[hsl,if_pos (Int.toNat_natCast j)]
   ·have:=h.held _ hb x hx
    exact⟨by rw[refs];exact this.1,inn x this.2.1,by rw[bk];exact this.2.2⟩
  ·rw[(other c hc e).1] at hx
   have:=h.held _ hc x hx
   exact⟨by rw[refs];exact this.1,inn x this.2.1,by rw[bk];exact this.2.2⟩
 ·rw[show keyAt (Gz M j)=keyAt M from funext key,e2,own.1]
  have hk2:=h.keys
  rw[e1] at hk2
  have hp:(l1++(j:Int) :: chL M (ownB M j)++l2).Perm ((j:Int) :: (l1++chL M (ownB M j)++l2)):=by
   simp only[List.append_assoc,List.cons_append]
   exact List.perm_middle
  rw[(hp.map _).nodup_iff,List.map_cons,List.nodup_cons]
  exact⟨by rw[<- e1];exact hnk,hk2⟩
theorem a1a{M M':Mm}{a:Int}{b:Nat}(hb:b<M.heads.length)(L:Linked M M' a b):(Ba M').Perm (a :: Ba M):=by
 obtain⟨l1,l2,e1,e2⟩:=U1 hb L.nh L.else_
 rw[e2,L.at_,e1]
 simp only[List.append_assoc,List.cons_append]
 exact List.perm_middle
def a4w(l:List Int):Int:=match l.getLast? with|none=>0|some p=>p+1
theorem a3a(l:List Int)(c:Int):a4w (l ++ [c])=c+1:=by simp[a4w]
theorem Vl{a:Int}:∀ {l:List Int} {ah la:Int},¬ a∈l->Jn a l ah la=ah
 | [],_,_,_=>rfl
 | c :: l,ah,la,h=>by
  simp only[List.mem_cons,not_or] at h
  simp only[Jn]
  rw[if_neg (by simpa using fun e=>h.1 (Eq.symm e))]
  exact Vl h.2
theorem Ou{a:Int}:∀ {l1 l2:List Int} {ah la:Int},¬ a∈l1->¬ a∈l2->Jn a (l1++a :: l2) ah la=match l1.getLast? with|none=>la|some p=>p+1
 | [],l2,ah,la,_,h=>by simp only[List.nil_append,Jn];rw[if_pos (by simp)];exact Vl h
 | c :: l,l2,ah,la,h,h'=>by
  simp only[List.mem_cons,not_or] at h
  simp only[List.cons_append,Jn]
  rw[if_neg (by simpa using fun e=>h.1 (Eq.symm e)),Ou h.2 h']
  cases l with
  | nil=>rfl
  | cons d l=>simp[List.getLast?_cons]
structure a2g(M M':Mm)(a:Int)(b:Nat):Prop where
 okc:OkC M'
 nh:M'.heads.length=M.heads.length
 ns:M'.slots.length=M.slots.length
 at_:∃ l1 l2,chL M b=l1++a :: l2/\chL M' b=l1++l2
 else_:∀ c,c<M.heads.length->c≠b->chL M' c=chL M c
 key:∀ x,keyAt M' x=keyAt M x
 unt:∀ x,(A7 M' x).unt=(A7 M x).unt
 refs:∀ x,(A7 M' x).refs=(A7 M x).refs
theorem a2q{M:Mm}(h:OkC M){b:Nat}(hb:b<M.heads.length){a:Int}(ha:a∈chL M b):a2g M (Ey M b (Jn a (chL M b) 0 0) a) a b:=by
 obtain⟨l1,l2,hl⟩:=List.append_of_mem ha
 have hnd:=h.nodup hb
 rw[hl,List.nodup_append,List.nodup_cons] at hnd
 have na1:¬ a∈l1:=fun hm=>hnd.2.2 a hm a (by simp) rfl
 have na2:=hnd.2.1.1
 have hah:Jn a (chL M b) 0 0=a4w l1:=by rw[hl,Ou na1 na2];rfl
 have ha0:=h.slots hb a ha
 have hsa:A7 M a=M.slots[a.toNat]'(by omega):=by simp[A7,List.getD_eq_getElem?_getD,show a.toNat<M.slots.length by omega]
 have hnx:inB (A7 M a).next (-(M.heads.length:Int)) M.slots.length=true:=by
  rw[hsa];exact(Gf (h.ok.slot _ (List.getElem_mem _))).2.2.2
 have hpath:=h.path hb
 rw[hl,Xh] at hpath
 obtain⟨m,hp1,hm,-,hp2⟩:=hpath
 have hp2':Path M.slots (A7 M a).next l2 (-1 - (b:Int)):=hp2
 have hlen:∀ c,c<M.heads.length->(chL M c).length<=M.slots.length:=fun c hc=>(O0 M.slots M.slots.length (Ar M c) (by show chE M c<=0;have:=h.ends c hc;omega)).2
 have apart:∀ c,c<M.heads.length->c≠b->∀ x,x∈chL M b->¬ x∈chL M c:=fun c hc hne x hx hx'=>by
  have:=(h.held b hb x hx).2.2
  have:=(h.held c hc x hx').2.2
  omega
 -- what is asked of a memory that is so changed
 have fin:∀ M':Mm,Ok M'->M'.heads.length=M.heads.length->M'.slots.length=M.slots.length->(∀ x,keyAt M' x=keyAt M x)->(∀ x,(A7 M' x).unt=(A7 M x).unt)->(∀ x,(A7 M' x).refs=(A7 M x).refs)->(∀ x,(A7 M' x).inn=(A7 M x).inn) ->
   Path M'.slots (Ar M' b) (l1++l2) (-1 - (b:Int))->(∀ c,c<M.heads.length->c≠b->Path M'.slots (Ar M' c) (chL M c) (-1 - (c:Int)))->a2g M M' a b:=by
  intro M' hok nh ns key unt refs inn pb pc
  have own:chL M' b=l1++l2/\chE M' b=-1 - (b:Int):=by
   unfold chL chE
   rw[ns]
   refine Nv _ _ _ _ _ pb ?_
   have:=hlen b hb
   rw[hl] at this
   simp only[List.length_append,List.length_cons] at this ⊢
   omega
  have other:∀ c,c<M.heads.length->c≠b->chL M' c=chL M c/\chE M' c=-1 - (c:Int):=fun c hc hne=>by
   have:=Nv _ M.slots.length _ _ _ (pc c hc hne) (hlen c hc)
   unfold chL chE
   rw[ns]
   exact this
  obtain⟨k1,k2,e1,e2⟩:=U1 hb nh (fun c hc hne=>(other c hc hne).1)
  refine⟨⟨hok,?_,?_,?_⟩,nh,ns,⟨l1,l2,hl,own.1⟩,fun c hc hne=>(other c hc hne).1,key,unt,refs⟩
  ·intro c hc
   rw[nh] at hc
   by_cases e:c=b
   ·subst e;exact own.2
   ·exact(other c hc e).2
  ·intro c hc x hx
   rw[nh] at hc ⊢
   have hx':x∈chL M c:=by
    by_cases e:c=b
    ·subst e
     rw[own.1] at hx
     rw[hl]
     rcases List.mem_append.1 hx with hx|hx
     ·simp[hx]
     ·simp[hx]
    ·rw[<- (other c hc e).1];exact hx
   have:=h.held _ hc x hx'
   have hk:=key x
   unfold keyAt at hk
   injection hk with t1 t2
   exact⟨by rw[refs];exact this.1,by rw[inn];exact this.2.1,by rw[t1,t2];exact this.2.2⟩
  ·rw[show keyAt M'=keyAt M from funext key,e2,own.1]
   have hk2:=h.keys
   rw[e1,hl] at hk2
   have hp:(k1++(l1++a :: l2)++k2).Perm (a :: (k1++(l1++l2)++k2)):=by
    have:k1++(l1++a :: l2)++k2=(k1++l1)++a :: (l2++k2):=by simp
    rw[this]
    refine List.perm_middle.trans ?_
    simp
   rw[(hp.map _).nodup_iff,List.map_cons,List.nodup_cons] at hk2
   exact hk2.2
 rw[hah]
 rcases (show l1=[]\/∃ l' p,l1=l' ++ [p] by
   rcases List.eq_nil_or_concat l1 with h1|⟨l',p,h1⟩
   ·exact .inl h1
   ·exact .inr ⟨l',p,by rw[h1,List.concat_eq_append]⟩) with rfl|⟨l',p,rfl⟩
 ·rw[show a4w []=0 from rfl]
  unfold Ey
  rw[if_neg (by omega)]
  have hq:Ar M b=m:=hp1
  refine fin _ ?_ (by simp) rfl (fun _=>rfl) (fun _=>rfl) (fun _=>rfl) (fun _=>rfl) ?_ ?_
  ·have hn0:(A7 M a).next≠0:=by
    intro h0
    rw[h0] at hp2'
    cases l2 with
    | nil=>have:=hp2'.1;omega
    | cons x l=>have:=hp2'.1;have:=hp2'.2.1;omega
   have:=h.ok.turn (j:=a.toNat) (b:=b) (inn:=(A7 M a).inn) (by omega) hnx ⟨hn0,hnx⟩
   have he:M.slots.set a.toNat { A7 M (a.toNat:Int) with next:=(A7 M a).next,inn:=(A7 M a).inn } = M.slots:=by
    rw[show ((a.toNat:Nat):Int)=a by omega]
    show M.slots.set a.toNat (A7 M a)=_
    rw[hsa,List.set_getElem_self]
   rw[he] at this
   exact this
  ·have:=U8 (M:=M) (S:=M.slots) (b:=b) (c:=b) (n:=(A7 M a).next) hb
   rw[if_pos rfl] at this
   show Path M.slots (Ar { M with heads:=M.heads.set b (A7 M a).next } b) _ _
   rw[show Ar { M with heads:=M.heads.set b (A7 M a).next } b=(A7 M a).next from this]
   exact hp2'
  ·intro c hc hne
   have:=U8 (M:=M) (S:=M.slots) (b:=b) (c:=c) (n:=(A7 M a).next) hb
   rw[if_neg hne] at this
   show Path M.slots (Ar { M with heads:=M.heads.set b (A7 M a).next } c) _ _
   rw[show Ar { M with heads:=M.heads.set b (A7 M a).next } c=Ar M c from this]
   exact h.path hc
 ·rw[a3a]
  rw[P9] at hp1
  have hpm:p∈chL M b:=by rw[hl];simp
  have hp0:=h.slots hb p hpm
  unfold Ey
  rw[if_pos (by omega),show p+1 - 1=p by omega]
  have hjp:p.toNat<M.slots.length:=by omega
  have hsl:∀ x,A7 { M with slots:=M.slots.set p.toNat { A7 M p with next:=(A7 M a).next } } x=if x.toNat=p.toNat then { A7 M p with next:=(A7 M a).next } else A7 M x:=fun x=>Xp (H:=M.heads) hjp rfl x
  have hsx:∀ x:Int,x.toNat=p.toNat->A7 M x=A7 M p:=fun x hx=>by unfold A7;rw[hx]
  have hpn:¬ p∈l':=by
   intro hm
   rw[List.nodup_append] at hnd
   exact hnd.1.2.2 p hm p (by simp) rfl
  have hpn2:¬ p∈l2:=fun hm=>hnd.2.2 p (by simp) p (by simp[hm]) rfl
  have nxt:∀ x,x∈chL M b\/(∃ c,c<M.heads.length/\c≠b/\x∈chL M c)->x≠p->((M.slots.set p.toNat { A7 M p with next:=(A7 M a).next }).getD x.toNat sl0).next=(M.slots.getD x.toNat sl0).next:=fun x hx hne=>by
   have hx0:0<=x:=by
    rcases hx with hx|⟨c,hc,_,hx⟩
    ·exact(h.slots hb x hx).1
    ·exact(h.slots hc x hx).1
   rw[Eb _ _ _ _ (by omega)]
  refine fin _ ?_ rfl (by simp) ?_ ?_ ?_ ?_ ?_ ?_
  ·have hhd:=h.ok.O8 hb
   have:=h.ok.turn (j:=p.toNat) (b:=b) (hd:=Ar M b) (inn:=(A7 M p).inn) hjp hnx hhd
   rw[show ((p.toNat:Nat):Int)=p by omega] at this
   have he:M.heads.set b (Ar M b)=M.heads:=by
    rw[show Ar M b=M.heads[b] by simp[Ar,List.getD_eq_getElem?_getD,hb],List.set_getElem_self]
   rw[he] at this
   exact this
  ·intro x;unfold keyAt;rw[hsl];split
   ·rename_i e;rw[hsx x e]
   ·rfl
  ·intro x;rw[hsl];split
   ·rename_i e;rw[hsx x e]
   ·rfl
  ·intro x;rw[hsl];split
   ·rename_i e;rw[hsx x e]
   ·rfl
  ·intro x;rw[hsl];split
   ·rename_i e;rw[hsx x e]
   ·rfl
  ·show Path (M.slots.set p.toNat { A7 M p with next:=(A7 M a).next }) (Ar M b) (l' ++ [p] ++ l2) (-1 - (b:Int))
   rw[Xh]
   refine⟨(A7 M a).next,?_,Ll (fun x hx=>nxt x (.inl (by rw[hl];simp[hx])) (fun e=>hpn2 (e ▸ hx))) hp2'⟩
   rw[P9]
   refine⟨Tu (fun x hx=>nxt x (.inl (by rw[hl];simp[hx])) (fun e=>hpn (e ▸ hx))) hp1.1,hp1.2.1,?_⟩
   rw[Gm _ _ _ hjp]
  ·intro c hc hne
   exact Ll (fun x hx=>nxt x (.inr ⟨c,hc,hne,hx⟩) (fun e=>apart c hc hne p hpm (e ▸ hx))) (h.path hc)
end
section
def toF(f:Fr)(n:Int):Fr:={ f with pl:=n }
def Bl(f:Fr)(c n:Int):Fr:={ f with cur:=c,pl:=n }
def Ci(f:Fr)(s n:Int):Fr:={ f with slot:=s,pl:=n }
def D7(M:Mm)(f:Fr):Bool:=inB f.cur 1 M.slots.length
def lkK(s:Sl)(f:Fr):Bool:=s.a==f.c.a && s.b==f.c.b
def Ec(M:Mm)(a:Int):Mm:=if Ap M a=0 then M else Lt M a
def Ut(M:Mm)(a:Int):Bool:=decide (0<Ap M a) && decide (Ap M a<1000)
def holdN(M:Mm)(a:Int):Mm:=if Ut M a then Gn M a else M
def E8(M:Mm)(f:Fr):Fr:=Bl f (Ar M (G7 M.heads.length f.c).toNat) 1
def Jw(M:Mm)(f:Fr):Fr :=
 if f.cur=-1 - G7 M.heads.length f.c then Af f 5
 else if D7 M f then toF f (if lkK (A7 M (f.cur - 1)) f then 3 else 2) else toF f 0
def Fa(M:Mm)(f:Fr):Fr:=if D7 M f then Bl f (A7 M (f.cur - 1)).next 1 else toF f 0
def Iu(M:Mm)(f:Fr):Fr:=if D7 M f && Ut M (f.cur - 1) then Ci f (f.cur - 1) 4 else toF f 0
def Iw(M:Mm)(f:Fr):Mm:=if D7 M f then holdN M (f.cur - 1) else M
def Hw(M:Mm)(f:Fr):Fr :=
 if Be M f.slot then
  (if lkK (A7 M f.slot) f && (A7 M f.slot).inn then (if M.now<(A7 M f.slot).unt then Af f 0 else toF f 6) else toF f 5)
 else toF f 0
def D8(M:Mm)(f:Fr):Mm:=if Be M f.slot then Ec M f.slot else M
def Kr(M:Mm)(f:Fr):Fr:=if Be M f.slot then Ci f (-1) 0 else toF f 0
def Nj(M:Mm)(f:Fr):Fr:=if Be M f.slot then Af { f with slot:=-1 } 5 else toF f 0
def lkF(M:Mm)(f:Fr):Fr :=
 if f.pl=0 then E8 M f else if f.pl=1 then Jw M f else if f.pl=2 then Fa M f else if f.pl=3 then Iu M f
 else if f.pl=4 then Hw M f else if f.pl=5 then Kr M f else if f.pl=6 then Nj M f else toF f 0
def lkM(M:Mm)(f:Fr):Mm :=
 if f.pl=3 then Iw M f else if f.pl=5 then D8 M f else if f.pl=6 then D8 M f else M
structure Fit(M:Mm)(f:Fr):Prop where
 call:Df M.slots.length M.heads.length f.c=0
 pl:0<=f.pl/\f.pl<=9
 n:inB f.n 0 1000000=true
 done:f.done=false
 cur:-(M.heads.length:Int)<=f.cur/\f.cur<=M.slots.length
 prev:0<=f.prev/\f.prev<=M.slots.length
 slot:-1<=f.slot/\f.slot<M.slots.length
 keys:f.keys.length<=100
theorem a4u{M:Mm}{f:Fr}:frE M.slots.length M.heads.length f=0 ↔ Fit M f:=by
 constructor
 ·intro h
  unfold frE at h
  by_cases h1:Df M.slots.length M.heads.length f.c=0
  ·rw[if_neg (by simpa using h1)] at h
   by_cases h2:inB f.pl 0 9=false\/inB f.n 0 1000000=false\/f.done=true
   ·rw[if_pos h2] at h;omega
   ·rw[if_neg h2] at h
    by_cases h3:inB f.cur (-(M.heads.length:Int)) M.slots.length=false\/inB f.prev 0 M.slots.length=false\/inB f.slot (-1) ((M.slots.length:Int) - 1)=false
    ·rw[if_pos h3] at h;omega
    ·rw[if_neg h3] at h
     by_cases h4:100<f.keys.length
     ·rw[if_pos h4] at h;omega
     ·simp only[not_or,Bool.not_eq_false,Bool.not_eq_true,Ai] at h2 h3
      exact⟨h1,h2.1,(Ai _ _ _).2 h2.2.1,h2.2.2,h3.1,h3.2.1,⟨h3.2.2.1,by have:=h3.2.2.2;omega⟩,by omega⟩
  ·rw[if_pos h1] at h;exact absurd h h1
 ·rintro ⟨h1,h2,h3,h4,h5,h6,h7,h8⟩
  unfold frE
  rw[if_neg (by simpa using h1),if_neg,if_neg,if_neg (by omega)]
  ·simp only[not_or,Bool.not_eq_false,Ai]
   exact⟨h5,h6,h7.1,by omega⟩
  ·simp only[not_or,Bool.not_eq_false,Bool.not_eq_true]
   exact⟨(Ai _ _ _).2 h2,h3,h4⟩
theorem Ej{M:Mm}{c:Cl}(hM:Ok M)(h:Df M.slots.length M.heads.length c=0):0<=G7 M.heads.length c/\G7 M.heads.length c<M.heads.length:=by
 obtain⟨n1,n2⟩:=hM.nh
 by_cases hb:c.kind=4\/c.kind=5
 ·unfold Df at h
  rw[if_neg (by omega),if_neg (by omega),if_pos hb] at h
  cases hi:inB c.bk 0 ((M.heads.length:Int) - 1)
  ·rw[hi] at h;simp at h
  ·rw[Ai] at hi
   unfold G7
   rw[if_pos hb]
   omega
 ·unfold G7
  rw[if_neg hb]
  by_cases hk:Ee c.a c.b=true
  ·rw[if_pos hk,if_pos ⟨n1,n2⟩]
   exact Kz c.a c.b n1
  ·rw[if_neg hk]
   omega
theorem Bv{M:Mm}{f:Fr}:D7 M f=true ↔ 1<=f.cur/\f.cur<=M.slots.length:=by unfold D7;rw[Ai]
theorem Cj{M:Mm}{i:Int}:Be M i=true ↔ 0<=i/\i<M.slots.length:=by
 unfold Be
 rw[Ai]
 omega
theorem Xo{M:Mm}{i:Int}(h:Be M i=true):A7 M i∈M.slots:=by
 obtain⟨j,rfl,hj⟩:=(Fv M i).1 h
 unfold A7
 rw[Int.toNat_natCast,getD_lt _ _ hj]
 exact List.getElem_mem hj
theorem L6{M:Mm}(hM:Ok M){i:Int}(h:Be M i=true):0<=Ap M i/\Ap M i<=1000:=by
 have:=(Gf (hM.slot _ (Xo h))).1
 rw[Ai] at this
 exact this
theorem Nz{M:Mm}(hM:Ok M){i:Int}(h:Be M i=true):-(M.heads.length:Int)<=(A7 M i).next/\(A7 M i).next<=M.slots.length:=by
 have:=(Gf (hM.slot _ (Xo h))).2.2.2
 rwa [Ai] at this
theorem Ov{M:Mm}{a:Int}:Ut M a=true ↔ 0<Ap M a/\Ap M a<1000:=by simp[Ut]
theorem Va{M:Mm}(hM:Ok M){a:Int}(h:Be M a=true):Ok (Ec M a):=by
 unfold Ec
 split
 ·exact hM
 ·have:=L6 hM h
  exact b9l hM h (by omega) (by omega)
structure Like(M M':Mm):Prop where
 heads:M'.heads=M.heads
 locks:M'.locks=M.locks
 now:M'.now=M.now
 slots:M'.slots=M.slots\/∃ j r,j<M.slots.length/\M'.slots=M.slots.set j { M.slots.getD j sl0 with refs:=r }
theorem Like.refl(M:Mm):Like M M:=⟨rfl,rfl,rfl,.inl rfl⟩
theorem Like.len{M M':Mm}(h:Like M M'):M'.slots.length=M.slots.length:=by
 rcases h.slots with e|⟨j,r,_,e⟩ <;> rw[e]
 simp
theorem Yr{M:Mm}{i:Int}(h:Be M i=true)(r:Int)(F:List Int):Like M { M with slots:=Dp M i r,free:=F }:=by
 obtain⟨j,rfl,hj⟩:=(Fv M i).1 h
 exact⟨rfl,rfl,rfl,.inr ⟨j,r,hj,by simp[Dp]⟩⟩
theorem a2w{M:Mm}{i:Int}(h:Be M i=true):Like M (holdN M i):=by
 unfold holdN
 split
 ·exact Yr h _ _
 ·exact .refl M
theorem Yz{M:Mm}{i:Int}(h:Be M i=true):Like M (Ec M i):=by
 unfold Ec
 split
 ·exact .refl M
 ·exact Yr h _ _
theorem Ko{M:Mm}{f:Fr}(h:D7 M f=true):Be M (f.cur - 1)=true:=by
 rw[Bv] at h
 rw[Cj]
 omega
theorem b1l(M:Mm)(f:Fr):Like M (lkM M f):=by
 unfold lkM Iw D8
 repeat' split
 ·exact a2w (Ko (by assumption))
 ·exact .refl M
 ·exact Yz (by assumption)
 ·exact .refl M
 ·exact Yz (by assumption)
 ·exact .refl M
 ·exact .refl M
theorem a4z(M:Mm)(f:Fr):(lkF M f).c=f.c:=by
 unfold lkF E8 Jw Fa Iu Hw Kr Nj
 repeat' split
 all_goals rfl
theorem Jj(M:Mm)(f:Fr):(lkF M f).keys=f.keys:=by
 unfold lkF E8 Jw Fa Iu Hw Kr Nj
 repeat' split
 all_goals rfl
theorem Fit.to{M:Mm}{f:Fr}(h:Fit M f){n:Int}(h1:0<=n/\n<=9):Fit M (toF f n):=⟨h.call,h1,h.n,h.done,h.cur,h.prev,h.slot,h.keys⟩
theorem Fit.a4q{M:Mm}{f:Fr}(h:Fit M f){c n:Int}(h1:0<=n/\n<=9)(h2:-(M.heads.length:Int)<=c/\c<=M.slots.length):Fit M (Bl f c n):=⟨h.call,h1,h.n,h.done,h2,h.prev,h.slot,h.keys⟩
theorem Fit.a2v{M:Mm}{f:Fr}(h:Fit M f){s n:Int}(h1:0<=n/\n<=9)(h2:-1<=s/\s<M.slots.length):Fit M (Ci f s n):=⟨h.call,h1,h.n,h.done,h.cur,h.prev,h2,h.keys⟩
theorem Fit.like{M M':Mm}{f:Fr}(h:Fit M f)(hl:Like M M'):Fit M' f:=by
 have e1:=hl.len
 have e2:=hl.heads
 refine⟨?_,h.pl,h.n,h.done,?_,?_,?_,h.keys⟩
 ·rw[e1,e2];exact h.call
 ·rw[e1,e2];exact h.cur
 ·rw[e1];exact h.prev
 ·rw[e1];exact h.slot
theorem b5s{M:Mm}{f:Fr}(hM:Ok M)(h:Fit M f)(hd:(lkF M f).done=false):Fit (lkM M f) (lkF M f):=by
 refine Fit.like ?_ (b1l M f)
 revert hd
 unfold lkF E8 Jw Fa Iu Hw Kr Nj
 have hb:=Ej hM h.call
 repeat' split
 all_goals intro hd
 all_goals first
  | (cases hd;done)
  | exact h.to (by omega)
  | exact h.a2v (by omega) (by omega)
  | skip
 ·refine h.a4q (by omega) ?_
  have hh:=(hM.O8 (b:=(G7 M.heads.length f.c).toNat) (by omega)).2
  rwa [Ai] at hh
 ·rename_i ha
  exact h.a4q (by omega) (Nz hM (Ko ha))
 ·rename_i ha
  simp only[Bool.and_eq_true] at ha
  have:=Cj.1 (Ko ha.1)
  exact h.a2v (by omega) (by omega)
end
section
def dif(l1 l2:List Sl):Nat->Nat
 | 0=>0
 | k+1=>dif l1 l2 k+if b6m (l1.getD k sl0) (l2.getD k sl0) then 0 else 1
theorem Rl(l:List Sl):∀ k,dif l l k=0
 | 0=>rfl
 | k+1=>by
  unfold dif
  rw[Rl l k,Z7]
  rfl
theorem getD_set_ne(l:List Sl){j k:Nat}(x:Sl)(h:j≠k):(l.set j x).getD k sl0=l.getD k sl0:=by
 rw[List.getD_eq_getElem?_getD,List.getD_eq_getElem?_getD,List.getElem?_set_ne h]
theorem a4t(l:List Sl)(j:Nat)(x:Sl):∀ k,dif l (l.set j x) k<=if j<k then 1 else 0
 | 0=>by simp[dif]
 | k+1=>by
  have ih:=a4t l j x k
  unfold dif
  by_cases e:j=k
  ·subst e
   rw[if_neg (Nat.lt_irrefl _)] at ih
   rw[if_pos (Nat.lt_succ_self _)]
   split <;> omega
  ·rw[getD_set_ne l x e,Z7]
   simp only[if_true,Nat.add_zero]
   by_cases h:j<k
   ·rw[if_pos h] at ih;rw[if_pos (by omega)];exact ih
   ·rw[if_neg h] at ih;omega
end
section
def Ak(M:Mm)(b:Nat):Int:=M.locks.getD b 0
def Bh(M:Mm)(b:Nat)(t:Int):Mm:={ M with locks:=M.locks.set b t }
def J7(M:Mm)(a:Int)(b:Nat):Mm:={ M with slots:=M.slots.set a.toNat { A7 M a with next:=Ar M b,inn:=true },heads:=M.heads.set b (a+1) }
def bkN(M:Mm)(f:Fr):Nat:=(G7 M.heads.length f.c).toNat
def Zw(M:Mm)(f:Fr):Int:=if 2000000<M.now+f.c.time then 2000000 else M.now+f.c.time
def Am(f:Fr):Fr:={ f with e:=8,pl:=7 }
def Ih(M:Mm)(f:Fr):Fr:=if M.free.length=0 then Af f 7 else Ci f (Eo M) 1
def Hm(M:Mm)(f:Fr):Mm:=if M.free.length=0 then M else Hf M f.c.a f.c.b (Zw M f)
def Nc(M:Mm)(f:Fr):Fr:=if Ak M (bkN M f)=-1 then toF f 2 else f
def Dz(M:Mm)(f:Fr)(t:Int):Mm:=if Ak M (bkN M f)=-1 then Bh M (bkN M f) t else M
def Lu(M:Mm)(f:Fr):Fr:=if D7 M f then toF f (if lkK (A7 M (f.cur - 1)) f then 6 else 4) else toF f 5
def Jm(M:Mm)(f:Fr):Fr:=if D7 M f then Bl f (A7 M (f.cur - 1)).next 3 else Am f
def Jl(M:Mm)(f:Fr):Fr:=if Be M f.slot then { f with e:=0,pl:=7 } else Am f
def Ig(M:Mm)(f:Fr):Mm:=if Be M f.slot then J7 M f.slot (bkN M f) else M
def Om(M:Mm)(f:Fr):Fr:=if Be M f.slot then { f with slot:=-1,e:=6,pl:=7 } else Am f
def O3(M:Mm)(f:Fr):Mm:=if Be M f.slot then Ec M f.slot else M
def Du(M:Mm)(f:Fr)(t:Int):Mm:=if Ak M (bkN M f)=t then Bh M (bkN M f) (-1) else M
def adF(M:Mm)(f:Fr):Fr :=
 if f.pl=0 then Ih M f else if f.pl=1 then Nc M f else if f.pl=2 then Bl f (Ar M (bkN M f)) 3 else if f.pl=3 then Lu M f
 else if f.pl=4 then Jm M f else if f.pl=5 then Jl M f else if f.pl=6 then Om M f else if f.pl=7 then Af f f.e else Am f
def adM(t:Int)(M:Mm)(f:Fr):Mm :=
 if f.pl=0 then Hm M f else if f.pl=1 then Dz M f t else if f.pl=5 then Ig M f else if f.pl=6 then O3 M f else if f.pl=7 then Du M f t else M
theorem b3o{M:Mm}{f:Fr}(h:f.pl=0):adF M f=Ih M f:=by unfold adF;rw[if_pos h]
theorem b7u{M:Mm}{f:Fr}(h:f.pl=1):adF M f=Nc M f:=by unfold adF;rw[if_neg (by omega),if_pos h]
theorem b7v{M:Mm}{f:Fr}(h:f.pl=2):adF M f=Bl f (Ar M (bkN M f)) 3:=by unfold adF;rw[if_neg (by omega),if_neg (by omega),if_pos h]
theorem a9o{M:Mm}{f:Fr}(h:f.pl=3):adF M f=Lu M f:=by unfold adF;rw[if_neg (by omega),if_neg (by omega),if_neg (by omega),if_pos h]
theorem b7w{M:Mm}{f:Fr}(h:f.pl=4):adF M f=Jm M f:=by unfold adF;rw[if_neg (by omega),if_neg (by omega),if_neg (by omega),if_neg (by omega),if_pos h]
theorem b7x{M:Mm}{f:Fr}(h:f.pl=5):adF M f=Jl M f:=by unfold adF;rw[if_neg (by omega),if_neg (by omega),if_neg (by omega),if_neg (by omega),if_neg (by omega),if_pos h]
theorem b7y{M:Mm}{f:Fr}(h:f.pl=6):adF M f=Om M f:=by unfold adF;rw[if_neg (by omega),if_neg (by omega),if_neg (by omega),if_neg (by omega),if_neg (by omega),if_neg (by omega),if_pos h]
theorem b3p{M:Mm}{f:Fr}(h:f.pl=7):adF M f=Af f f.e:=by unfold adF;rw[if_neg (by omega),if_neg (by omega),if_neg (by omega),if_neg (by omega),if_neg (by omega),if_neg (by omega),if_neg (by omega),if_pos h]
theorem adF8{M:Mm}{f:Fr}(h:8<=f.pl):adF M f=Am f:=by unfold adF;rw[if_neg (by omega),if_neg (by omega),if_neg (by omega),if_neg (by omega),if_neg (by omega),if_neg (by omega),if_neg (by omega),if_neg (by omega)]
theorem b3r{M:Mm}{f:Fr}{t:Int}(h:f.pl=0):adM t M f=Hm M f:=by unfold adM;rw[if_pos h]
theorem b7z{M:Mm}{f:Fr}{t:Int}(h:f.pl=1):adM t M f=Dz M f t:=by unfold adM;rw[if_neg (by omega),if_pos h]
theorem b8a{M:Mm}{f:Fr}{t:Int}(h:f.pl=5):adM t M f=Ig M f:=by unfold adM;rw[if_neg (by omega),if_neg (by omega),if_pos h]
theorem b8b{M:Mm}{f:Fr}{t:Int}(h:f.pl=6):adM t M f=O3 M f:=by unfold adM;rw[if_neg (by omega),if_neg (by omega),if_neg (by omega),if_pos h]
theorem b3s{M:Mm}{f:Fr}{t:Int}(h:f.pl=7):adM t M f=Du M f t:=by unfold adM;rw[if_neg (by omega),if_neg (by omega),if_neg (by omega),if_neg (by omega),if_pos h]
theorem H9{M:Mm}{f:Fr}{t:Int}(h:f.pl≠0/\f.pl≠1/\f.pl≠5/\f.pl≠6/\f.pl≠7):adM t M f=M:=by unfold adM;rw[if_neg h.1,if_neg h.2.1,if_neg h.2.2.1,if_neg h.2.2.2.1,if_neg h.2.2.2.2]
theorem b7n(M:Mm)(f:Fr):(adF M f).c=f.c:=by
 unfold adF Ih Nc Lu Jm Jl Om
 repeat' split
 all_goals rfl
theorem Jg(M:Mm)(f:Fr):(adF M f).keys=f.keys:=by
 unfold adF Ih Nc Lu Jm Jl Om
 repeat' split
 all_goals rfl
theorem Zg{nS nH:Nat}{c:Cl}(hk:c.kind=2)(h:Df nS nH c=0):Ee c.a c.b=true/\1<=c.time/\c.time<=1000000:=by
 obtain⟨k,a,b,t,bk,sl⟩:=c
 have hk':k=2:=hk
 subst hk'
 rw[Yc] at h
 cases hb:inB t 1 1000000 && Ee a b
 ·rw[hb] at h;simp at h
 ·simp only[Bool.and_eq_true,Ai] at hb
  exact⟨hb.2,hb.1⟩
theorem a5n{M:Mm}{f:Fr}(hM:Ok M)(h1:1<=f.c.time):inB (Zw M f) 0 2000000=true:=by
 have:=hM.now
 rw[Ai]
 unfold Zw
 split <;> omega
structure Vj(M M':Mm)(b:Nat):Prop where
 now:M'.now=M.now
 ns:M'.slots.length=M.slots.length
 nh:M'.heads.length=M.heads.length
 nl:M'.locks.length=M.locks.length
 heads:∀ i,i≠b->M'.heads[i]?=M.heads[i]?
 locks:∀ i,i≠b->M'.locks[i]?=M.locks[i]?
 dif:∀ k,dif M.slots M'.slots k<=1
 free:M'.free.length<=M.free.length+1/\M.free.length<=M'.free.length+1
theorem Vj.refl(M:Mm)(b:Nat):Vj M M b:=⟨rfl,rfl,rfl,rfl,fun _ _=>rfl,fun _ _=>rfl,(fun k=>by rw[Rl];omega),by omega⟩
theorem Rn(l:List Sl)(j:Nat)(x:Sl)(k:Nat):dif l (l.set j x) k<=1:=by
 have:=a4t l j x k
 split at this <;> omega
theorem a9c(M:Mm)(b:Nat)(ka kb u:Int):Vj M (Hf M ka kb u) b :=
 ⟨rfl,by simp[Hf],rfl,rfl,fun _ _=>rfl,fun _ _=>rfl,(fun k=>Rn _ _ _ k),by simp[Hf];omega⟩
theorem Ud(M:Mm)(b:Nat)(t:Int):Vj M (Bh M b t) b :=
 ⟨rfl,rfl,rfl,by simp[Bh],fun _ _=>rfl,(fun i hi=>by simp only[Bh];rw[List.getElem?_set_ne (by omega)]),(fun k=>by show dif M.slots M.slots k<=1;rw[Rl];omega),by simp[Bh]⟩
theorem a7m(M:Mm)(a:Int)(b:Nat):Vj M (J7 M a b) b :=
 ⟨rfl,by simp[J7],by simp[J7],rfl,(fun i hi=>by simp only[J7];rw[List.getElem?_set_ne (by omega)]),fun _ _=>rfl,(fun k=>Rn _ _ _ k),by simp[J7]⟩
theorem Uh(M:Mm)(a:Int)(b:Nat):Vj M (Ec M a) b:=by
 unfold Ec
 split
 ·exact .refl M b
 ·refine⟨rfl,by simp[Lt,Dp],rfl,rfl,fun _ _=>rfl,fun _ _=>rfl,(fun k=>Rn _ _ _ k),?_⟩
  unfold Lt
  dsimp only
  split
  ·simp only[List.length_append,List.length_cons,List.length_nil];omega
  ·omega
theorem a9p(t:Int)(M:Mm)(f:Fr):Vj M (adM t M f) (bkN M f):=by
 unfold adM Hm Dz Ig O3 Du
 repeat' split
 all_goals first
  | exact .refl _ _
  | exact a9c _ _ _ _ _
  | exact Ud _ _ _
  | exact a7m _ _ _
  | exact Uh _ _ _
theorem Fit.near{M M':Mm}{f:Fr}{b:Nat}(h:Fit M f)(hl:Vj M M' b):Fit M' f:=by
 have e1:=hl.ns
 have e2:=hl.nh
 refine⟨?_,h.pl,h.n,h.done,?_,?_,?_,h.keys⟩
 ·rw[e1,e2];exact h.call
 ·rw[e1,e2];exact h.cur
 ·rw[e1];exact h.prev
 ·rw[e1];exact h.slot
theorem Fit.late{M:Mm}{f:Fr}(h:Fit M f):Fit M (Am f):=⟨h.call,by simp[Am],h.n,h.done,h.cur,h.prev,h.slot,h.keys⟩
theorem b3q{M:Mm}{f:Fr}(t:Int)(hM:Ok M)(h:Fit M f)(hd:(adF M f).done=false):Fit (adM t M f) (adF M f):=by
 refine Fit.near ?_ (a9p t M f)
 revert hd
 unfold adF Ih Nc Lu Jm Jl Om
 have hb:=Ej hM h.call
 repeat' split
 all_goals intro hd
 all_goals first
  | (cases hd;done)
  | exact h.late
  | exact h
  | exact h.to (by omega)
  | skip
 ·rename_i hf
  have:=Sz hM (by omega)
  exact h.a2v (by omega) (by omega)
 ·refine h.a4q (by omega) ?_
  have hh:=(hM.O8 (b:=bkN M f) (by unfold bkN;omega)).2
  rwa [Ai] at hh
 ·rename_i ha
  exact h.a4q (by omega) (Nz hM (Ko ha))
 ·exact⟨h.call,by simp,h.n,h.done,h.cur,h.prev,h.slot,h.keys⟩
 ·exact⟨h.call,by simp,h.n,h.done,h.cur,h.prev,by constructor <;> simp <;> omega,h.keys⟩
theorem Zl{M:Mm}(h:Ok M)(b:Nat){t:Int}(ht:-1<=t/\t<=4):Ok (Bh M b t):=by
 refine⟨h.ns,h.nh,by simp[Bh,h.nl],h.now,h.slot,?_,h.free,h.nodup,h.all⟩
 intro p hp
 simp only[Bh] at hp ⊢
 obtain⟨i,hi,e⟩:=List.getElem_of_mem hp
 rw[List.getElem_zip] at e
 have hi':i<M.heads.length/\i<M.locks.length:=by simp at hi;omega
 have h0:=h.chain (M.heads[i]'hi'.1,M.locks[i]'hi'.2) (by
  rw[<- List.getElem_zip (h:=by simp;omega)]
  exact List.getElem_mem _)
 subst e
 unfold F8 at h0 ⊢
 dsimp only at h0 ⊢
 by_cases hc:M.heads[i]'hi'.1≠0/\inB (M.heads[i]'hi'.1) (-(M.heads.length:Int)) M.slots.length
 ·rw[if_pos hc] at h0 ⊢
  rw[if_pos]
  rw[List.getElem_set]
  split
  ·rw[Ai];exact ht
  ·by_cases hl:inB (M.locks[i]'hi'.2) (-1) 4=true
   ·exact hl
   ·rw[if_neg hl] at h0;omega
 ·rw[if_neg hc] at h0;omega
end
section
def Nr:Nat->Mm->Fr->Mm × Fr × Bool
 | 0,M,f=>(M,f,false)
 | k+1,M,f=>if (lkF M f).done then (lkM M f,lkF M f,true) else Nr k (lkM M f) (lkF M f)
theorem Le{M:Mm}{f:Fr}{k:Nat}(h:(lkF M f).done=false):Nr (k+1) M f=Nr k (lkM M f) (lkF M f):=by
 show (if (lkF M f).done then (lkM M f,lkF M f,true) else Nr k (lkM M f) (lkF M f))=_
 rw[h];rfl
theorem Py{M:Mm}{f:Fr}{k:Nat}(h:(lkF M f).done=true):Nr (k+1) M f=(lkM M f,lkF M f,true):=by
 show (if (lkF M f).done then (lkM M f,lkF M f,true) else Nr k (lkM M f) (lkF M f))=_
 rw[h];rfl
def Found(M:Mm)(c:Cl)(l:List Int)(X:Mm)(g:Fr):Prop :=
 match l.find? (fun a=>keyAt M a==(c.a,c.b)) with
 | none=>X=M/\g.e=5
 | some a=>if M.now<(A7 M a).unt then X=Gn M a/\g.e=0/\g.slot=a else X=M/\g.e=5
theorem b9c{M:Mm}{f:Fr}(h:f.pl=0):lkF M f=E8 M f:=by unfold lkF;rw[if_pos h]
theorem b1k{M:Mm}{f:Fr}(h:f.pl=1):lkF M f=Jw M f:=by unfold lkF;rw[if_neg (by omega),if_pos h]
theorem b5r{M:Mm}{f:Fr}(h:f.pl=2):lkF M f=Fa M f:=by unfold lkF;rw[if_neg (by omega),if_neg (by omega),if_pos h]
theorem b9d{M:Mm}{f:Fr}(h:f.pl=3):lkF M f=Iu M f:=by unfold lkF;rw[if_neg (by omega),if_neg (by omega),if_neg (by omega),if_pos h]
theorem b9e{M:Mm}{f:Fr}(h:f.pl=4):lkF M f=Hw M f:=by unfold lkF;rw[if_neg (by omega),if_neg (by omega),if_neg (by omega),if_neg (by omega),if_pos h]
theorem lkF5{M:Mm}{f:Fr}(h:f.pl=5):lkF M f=Kr M f:=by unfold lkF;rw[if_neg (by omega),if_neg (by omega),if_neg (by omega),if_neg (by omega),if_neg (by omega),if_pos h]
theorem b9f{M:Mm}{f:Fr}(h:f.pl=6):lkF M f=Nj M f:=by unfold lkF;rw[if_neg (by omega),if_neg (by omega),if_neg (by omega),if_neg (by omega),if_neg (by omega),if_neg (by omega),if_pos h]
theorem lkF7{M:Mm}{f:Fr}(h:7<=f.pl):lkF M f=toF f 0:=by unfold lkF;rw[if_neg (by omega),if_neg (by omega),if_neg (by omega),if_neg (by omega),if_neg (by omega),if_neg (by omega),if_neg (by omega)]
theorem Dv{M:Mm}{f:Fr}(h:f.pl≠3/\f.pl≠5/\f.pl≠6):lkM M f=M:=by unfold lkM;rw[if_neg h.1,if_neg h.2.1,if_neg h.2.2]
theorem b9g{M:Mm}{f:Fr}(h:f.pl=3):lkM M f=Iw M f:=by unfold lkM;rw[if_pos h]
theorem lkM5{M:Mm}{f:Fr}(h:f.pl=5):lkM M f=D8 M f:=by unfold lkM;rw[if_neg (by omega),if_pos h]
theorem b9h{M:Mm}{f:Fr}(h:f.pl=6):lkM M f=D8 M f:=by unfold lkM;rw[if_neg (by omega),if_neg (by omega),if_pos h]
theorem a1s{M:Mm}{a:Int}(h:Be M a=true):A7 (Gn M a) a = { A7 M a with refs:=Ap M a+1 }:=by
 obtain⟨j,rfl,hj⟩:=(Fv M a).1 h
 unfold A7 Gn Dp
 dsimp only
 rw[Int.toNat_natCast,Gm _ _ _ hj]
theorem a8h{M:Mm}{a:Int}(h:Be M a=true)(hr:0<Ap M a):Ec (Gn M a) a=M:=by
 unfold Ec
 rw[if_neg (by rw[a8i h];omega),a7b,a1m h _ (by omega),show Ap M a+1 - 1=Ap M a by omega,Y9 h]
theorem a1p{M:Mm}(hM:OkC M)(hr:∀ i,Be M i=true->Ap M i≠1000){c:Cl}{b:Nat}(hb:b<M.heads.length)(hbk:G7 M.heads.length c=b) :
  ∀ (l:List Int) (k:Nat) (f:Fr),f.c=c->f.pl=1->f.done=false->Path M.slots f.cur l (-1 - (b:Int))->(∀ a∈l,a∈chL M b)->2*l.length+5<=k ->
   ∃ X g,Nr k M f=(X,g,true)/\Found M c l X g
 | [],k+1,f,hc,hp,hd,hpath,hin,hk=>by
  have e:lkF M f=Af f 5:=by
   rw[b1k hp]
   unfold Jw
   rw[if_pos (by rw[hc,hbk];exact hpath.1)]
  refine⟨M,Af f 5,?_,?_⟩
  ·rw[Py (by rw[e];rfl),e,Dv (by omega)]
  ·exact⟨rfl,rfl⟩
 | a :: l,k+4,f,hc,hp,hd,hpath,hin,hk=>by
  obtain⟨h1,h2,h3⟩:=hpath
  have ha:=hM.slots hb a (hin a (by simp))
  have hsl:Be M a=true:=Cj.2 ha
  have hcur:f.cur - 1=a:=by omega
  have hat:D7 M f=true:=Bv.2 (by omega)
  have hheld:=hM.held b hb a (hin a (by simp))
  have hrf:=L6 hM.ok hsl
  have hrr:Ap M a≠0:=hheld.1
  have hrm:=hr a hsl
  by_cases hkey:lkK (A7 M a) f=true
  ·have hkc:(keyAt M a==(c.a,c.b))=true:=by
    unfold lkK at hkey
    rw[hc] at hkey
    simp only[Bool.and_eq_true,beq_iff_eq] at hkey
    unfold keyAt
    rw[hkey.1,hkey.2]
    exact beq_self_eq_true _
   have hf:(a :: l).find? (fun a=>keyAt M a==(c.a,c.b))=some a:=List.find?_cons_of_pos hkc
   have e1:lkF M f=toF f 3:=by
    rw[b1k hp]
    unfold Jw
    rw[if_neg (by rw[hc,hbk];omega),if_pos hat,hcur,hkey]
    rfl
   have e2:lkF M (toF f 3)=Ci (toF f 3) a 4:=by
    rw[b9d rfl]
    unfold Iu
    have hat':D7 M (toF f 3)=true:=hat
    have:Ut M ((toF f 3).cur - 1)=true:=by
     show Ut M (f.cur - 1)=true
     rw[hcur,Ov]
     omega
    rw[hat',this]
    show (if (true && true)=true then Ci (toF f 3) (f.cur - 1) 4 else _)=_
    rw[hcur];rfl
   have e2m:lkM M (toF f 3)=Gn M a:=by
    rw[b9g rfl]
    unfold Iw
    have hat':D7 M (toF f 3)=true:=hat
    rw[if_pos hat']
    show holdN M (f.cur - 1)=_
    rw[hcur]
    unfold holdN
    rw[if_pos (Ov.2 (by omega))]
   have hsl':Be (Gn M a) a=true:=by rw[a7f];exact hsl
   have hs':=a1s hsl
   obtain⟨f4,h4⟩:∃ x,x=Ci (toF f 3) a 4:=⟨_,rfl⟩
   have p4:f4.pl=4:=by rw[h4];rfl
   have s4:f4.slot=a:=by rw[h4];rfl
   have k4:lkK (A7 (Gn M a) a) f4=true:=by rw[h4,hs'];exact hkey
   have i4:(A7 (Gn M a) a).inn=true:=by rw[hs'];exact hheld.2.1
   have u4:(A7 (Gn M a) a).unt=(A7 M a).unt:=by rw[hs']
   have n4:(Gn M a).now=M.now:=rfl
   have d4:f4.done=false:=by rw[h4];exact hd
   have e3:lkF (Gn M a) f4=if M.now<(A7 M a).unt then Af f4 0 else toF f4 6:=by
    rw[b9e p4]
    unfold Hw
    rw[s4,if_pos hsl',k4,i4,u4,n4]
    rfl
   have r1:Nr (k+4) M f=Nr (k+2) (Gn M a) f4:=by
    rw[Le (by rw[e1];exact hd),e1,Dv (by omega),Le (by rw[e2];exact hd),e2,e2m,h4]
   rw[r1]
   by_cases hu:M.now<(A7 M a).unt
   ·rw[if_pos hu] at e3
    refine⟨Gn M a,Af f4 0,?_,?_⟩
    ·rw[Py (by rw[e3];rfl),e3,Dv (by omega)]
    ·unfold Found
     rw[hf]
     dsimp only
     rw[if_pos hu]
     exact⟨rfl,rfl,s4⟩
   ·rw[if_neg hu] at e3
    have e5:lkF (Gn M a) (toF f4 6)=Af { toF f4 6 with slot:=-1 } 5:=by
     rw[b9f rfl]
     unfold Nj
     have:Be (Gn M a) (toF f4 6).slot=true:=by show Be (Gn M a) f4.slot=true;rw[s4];exact hsl'
     rw[if_pos this]
    have e5m:lkM (Gn M a) (toF f4 6)=M:=by
     rw[b9h rfl]
     unfold D8
     have:(toF f4 6).slot=a:=s4
     rw[this,if_pos hsl']
     exact a8h hsl (by omega)
    refine⟨M,Af { toF f4 6 with slot:=-1 } 5,?_,?_⟩
    ·rw[Le (by rw[e3];exact d4),e3,Dv (by omega),Py (by rw[e5];rfl),e5,e5m]
    ·unfold Found
     rw[hf]
     dsimp only
     rw[if_neg hu]
     exact⟨rfl,rfl⟩
  ·have hkey':lkK (A7 M a) f=false:=by simpa using hkey
   have hkc:¬ (keyAt M a==(c.a,c.b))=true:=by
    intro hh
    apply hkey
    unfold keyAt at hh
    simp only[beq_iff_eq,Prod.mk.injEq] at hh
    unfold lkK
    rw[hc,hh.1,hh.2]
    simp
   have hf:(a :: l).find? (fun a=>keyAt M a==(c.a,c.b))=l.find? (fun a=>keyAt M a==(c.a,c.b)):=List.find?_cons_of_neg hkc
   have e1:lkF M f=toF f 2:=by
    rw[b1k hp]
    unfold Jw
    rw[if_neg (by rw[hc,hbk];omega),if_pos hat,hcur,hkey']
    rfl
   have e2:lkF M (toF f 2)=Bl (toF f 2) (A7 M a).next 1:=by
    rw[b5r rfl]
    unfold Fa
    have hat':D7 M (toF f 2)=true:=hat
    rw[if_pos hat']
    show Bl (toF f 2) (A7 M (f.cur - 1)).next 1=_
    rw[hcur]
   have r1:Nr (k+4) M f=Nr (k+2) M (Bl (toF f 2) (A7 M a).next 1):=by
    rw[Le (by rw[e1];exact hd),e1,Dv (by omega),Le (by rw[e2];exact hd),e2,Dv (by show _/\_/\_;simp[toF])]
   obtain⟨X,g,h5,h6⟩:=a1p hM hr hb hbk l (k+2) (Bl (toF f 2) (A7 M a).next 1) hc rfl hd h3 (fun x hx=>hin x (by simp[hx])) (by simp at hk;omega)
   refine⟨X,g,by rw[r1,h5],?_⟩
   unfold Found at h6 ⊢
   rw[hf]
   exact h6
 | [],0,f,hc,hp,hd,hpath,hin,hk=>by simp at hk
 | a :: l,0,f,hc,hp,hd,hpath,hin,hk=>by simp at hk
 | a :: l,1,f,hc,hp,hd,hpath,hin,hk=>by simp at hk
 | a :: l,2,f,hc,hp,hd,hpath,hin,hk=>by simp at hk
 | a :: l,3,f,hc,hp,hd,hpath,hin,hk=>by simp at hk
theorem b6i{M:Mm}(hM:OkC M)(hr:∀ i,Be M i=true->Ap M i≠1000){c:Cl}(hk:c.kind=1)(hkey:Ee c.a c.b=true) :
  ∃ X g,Nr (2*M.slots.length+6) M (Aw c)=(X,g,true)/\Found M c (chL M (G7 M.heads.length c).toNat) X g:=by
 have hcall:Df M.slots.length M.heads.length c=0:=by
  unfold Df
  rw[if_pos (.inl hk),if_pos hkey]
 obtain⟨b0,b1⟩:=Ej hM.ok hcall
 obtain⟨b,hb⟩:∃ b:Nat,G7 M.heads.length c=b:=⟨(G7 M.heads.length c).toNat,by omega⟩
 have e0:lkF M (Aw c)=Bl (Aw c) (Ar M b) 1:=by
  rw[b9c rfl]
  unfold E8
  show Bl (Aw c) (Ar M (G7 M.heads.length c).toNat) 1=_
  rw[hb];rfl
 have hlen:(chL M b).length<=M.slots.length:=(O0 M.slots M.slots.length (Ar M b) (by have:=hM.ends b (by omega);unfold chE at this;omega)).2
 obtain⟨X,g,h1,h2⟩:=a1p hM hr (b:=b) (by omega) hb (chL M b) (2*M.slots.length+5) (Bl (Aw c) (Ar M b) 1) rfl rfl rfl (hM.path (by omega)) (fun a ha=>ha) (by omega)
 refine⟨X,g,?_,?_⟩
 ·rw[Le (by rw[e0];rfl),e0,Dv (by show _/\_/\_;simp[Aw]),h1]
 ·rw[hb]
  exact h2
end
end Go.Proofs.YthhgoenomehobaaGreat.mm
