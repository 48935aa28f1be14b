/- Parts. -/
namespace Go.Proofs.YthhgoenomehobaaGreat.mm
set_option maxRecDepth 100000
set_option linter.unusedVariables false
section
structure Sl where
 refs:Int
 a:Int
 b:Int
 unt:Int
 inn:Bool
 next:Int
structure Mm where
 slots:List Sl
 heads:List Int
 free:List Int
 locks:List Int
 now:Int
def sl0:Sl:=⟨0,0,0,0,false,0⟩
def m0:Mm:=⟨[],[],[],[],0⟩
def slEq(x y:Sl):Bool:=x.refs==y.refs && (x.a==y.a && (x.b==y.b && (x.unt==y.unt && (x.inn==y.inn && x.next==y.next))))
theorem slEq_iff(x y:Sl):slEq x y=true ↔ x=y:=by
 cases x;cases y;simp[slEq]
theorem Yd(x:Sl):slEq x x=true:=(slEq_iff x x).2 rfl
def inB(x lo hi:Int):Bool:=decide (lo<=x) && decide (x<=hi)
theorem Ah(x lo hi:Int):inB x lo hi=true ↔ lo<=x/\x<=hi:=by simp[inB]
def keyB(a b:Int):Bool:=inB a 0 15 && inB b 0 15
theorem Rh(a b:Int):keyB a b=true ↔ (0<=a/\a<=15)/\(0<=b/\b<=15):=by simp[keyB,inB]
def Ei(nh ns:Nat)(s:Sl):Int :=
 if inB s.refs 0 1000 && inB s.unt 0 2000000 && keyB s.a s.b then (if inB s.next (-(nh:Int)) ns then 0 else 5) else 3
def Dz(nh ns:Nat)(p:Int × Int):Int :=
 if p.1≠0/\inB p.1 (-(nh:Int)) ns then (if inB p.2 (-1) 4 then 0 else 3) else 5
def Au{α:Type}(f:α->Int):List α->Int
 | []=>0
 | x :: l=>if f x≠0 then f x else Au f l
theorem Jl{α:Type}(f:α->Int)(l:List α)(k:Nat)(h:k<l.length) :
  Au f (l.drop k)=if f l[k] ≠ 0 then f l[k] else Au f (l.drop (k+1)):=by
 rw[List.drop_eq_getElem_cons h];rfl
theorem Pm{α:Type}(f:α->Int)(l:List α)(k:Nat)(h:l.length<=k):Au f (l.drop k)=0:=by
 rw[List.drop_of_length_le h];rfl
theorem Gj{α:Type}(f:α->Int)(l:List α):Au f l=0 ↔ ∀ x∈l,f x=0:=by
 induction l with
 | nil=>simp[Au]
 | cons x l ih =>
  simp only[Au,List.mem_cons,forall_eq_or_imp]
  by_cases h:f x=0
  ·simp[h,ih]
  ·simp[h]
def hasB(l:List Int)(x:Int):Bool:=l.contains x
theorem O4(l:List Int)(x:Int):hasB l x=true ↔ x∈l:=by simp[hasB]
theorem a0r(l:List Int)(x:Int):hasB l x=false ↔ ¬ x∈l:=by simp[hasB]
def I7(S:List Sl)(a:Int):Bool:=decide (0<=a) && (decide (a<S.length) && decide ((S.getD a.toNat sl0).refs=0))
theorem Dp(S:List Sl)(a:Int):I7 S a=true ↔ 0<=a/\a<S.length/\(S.getD a.toNat sl0).refs=0:=by simp[I7]
def Cb(S:List Sl):List Int->List Int->Int
 | _,[]=>0
 | pre,a :: l=>if I7 S a then (if hasB pre a then 6 else Cb S (pre ++ [a]) l) else 5
def Dh(F:List Int):Nat->List Sl->Int
 | _,[]=>0
 | i,s :: l=>if s.refs==0 && !hasB F (i:Int) then 4 else Dh F (i+1) l
theorem Ku(S:List Sl)(l:List Int)(k:Nat)(h:k<l.length) :
  Cb S (l.take k) (l.drop k)=if I7 S l[k] then (if hasB (l.take k) l[k] then 6 else Cb S (l.take (k+1)) (l.drop (k+1))) else 5:=by
 rw[List.drop_eq_getElem_cons h,List.take_succ_eq_append_getElem h];rfl
theorem Yz(S:List Sl)(l:List Int)(k:Nat)(h:l.length<=k):Cb S (l.take k) (l.drop k)=0:=by
 rw[List.drop_of_length_le h];rfl
theorem Qg(F:List Int)(S:List Sl)(k:Nat)(h:k<S.length) :
  Dh F k (S.drop k)=if S[k].refs==0 && !hasB F (k:Int) then 4 else Dh F (k+1) (S.drop (k+1)):=by
 rw[List.drop_eq_getElem_cons h];rfl
theorem Z9(F:List Int)(S:List Sl)(k:Nat)(h:S.length<=k):Dh F k (S.drop k)=0:=by
 rw[List.drop_of_length_le h];rfl
def chk(m:Mm):Int :=
 if 12<m.slots.length\/m.heads.length<1\/4<m.heads.length then 2
 else if m.locks.length≠m.heads.length then 4
 else if inB m.now 0 1000000=false then 3
 else if Au (Ei m.heads.length m.slots.length) m.slots≠0 then Au (Ei m.heads.length m.slots.length) m.slots
 else if Au (Dz m.heads.length m.slots.length) (m.heads.zip m.locks)≠0 then Au (Dz m.heads.length m.slots.length) (m.heads.zip m.locks)
 else if Cb m.slots [] m.free≠0 then Cb m.slots [] m.free
 else Dh m.free 0 m.slots
structure Ok(m:Mm):Prop where
 ns:m.slots.length<=12
 nh:1<=m.heads.length/\m.heads.length<=4
 nl:m.locks.length=m.heads.length
 now:0<=m.now/\m.now<=1000000
 slot:∀ s∈m.slots,Ei m.heads.length m.slots.length s=0
 chain:∀ p∈m.heads.zip m.locks,Dz m.heads.length m.slots.length p=0
 free:∀ a∈m.free,I7 m.slots a=true
 nodup:m.free.Nodup
 all:∀ i,i<m.slots.length->(m.slots.getD i sl0).refs=0->(i:Int)∈m.free
theorem Qc(S:List Sl)(pre l:List Int)(hp:pre.Nodup):Cb S pre l=0 ↔ (∀ a∈l,I7 S a=true)/\(pre++l).Nodup:=by
 induction l generalizing pre with
 | nil=>simp[Cb,hp]
 | cons a l ih =>
  simp only[Cb,List.mem_cons,forall_eq_or_imp]
  by_cases h1:I7 S a=true
  ·by_cases h2:a∈pre
   ·simp[h1,h2,O4,List.nodup_append]
    intro _ _ _ _
    exact⟨a,h2,fun h=>absurd rfl h⟩
   ·have hp':(pre ++ [a]).Nodup:=by
     rw[List.nodup_append];simp[hp]
     intro x hx e;subst e;exact h2 hx
    have:=ih (pre ++ [a]) hp'
    rw[List.append_assoc] at this
    simp only[h1,h2,O4,if_true,if_false,true_and]
    exact this
  ·simp[h1]
theorem Qh(F:List Int)(S:List Sl)(k:Nat):Dh F k S=0 ↔ ∀ i,i<S.length->(S.getD i sl0).refs=0->((k+i:Nat):Int)∈F:=by
 induction S generalizing k with
 | nil=>simp[Dh]
 | cons s l ih =>
  simp only[Dh]
  by_cases h:s.refs==0 && !hasB F (k:Int)
  ·rw[if_pos h]
   simp only[Bool.and_eq_true,beq_iff_eq,Bool.not_eq_true'] at h
   constructor
   ·intro e;omega
   ·intro hh
    have:=hh 0 (by simp) (by simpa using h.1)
    simp only[Nat.add_zero] at this
    rw[<- O4] at this
    rw[this] at h;simp at h
  ·rw[if_neg h,ih]
   constructor
   ·intro hh i hi hr
    match i with
    | 0 =>
     simp at hr
     simp[hr,O4] at h
     simpa using h
    | i+1 =>
     have:=hh i (by simp at hi;omega) (by simpa using hr)
     rwa [show k+1+i=k+(i+1) by omega] at this
   ·intro hh i hi hr
    have:=hh (i+1) (by simp;omega) (by simpa using hr)
    rwa [show k+(i+1)=k+1+i by omega] at this
theorem Jh(m:Mm):chk m=0 ↔ Ok m:=by
 unfold chk
 constructor
 ·intro h
  split at h
  ·omega
  split at h
  ·omega
  split at h
  ·omega
  split at h
  ·omega
  split at h
  ·omega
  split at h
  ·omega
  rename_i h1 h2 h3 h4 h5 h6
  have h3':inB m.now 0 1000000=true:=by simpa using h3
  simp only[ne_eq,Decidable.not_not] at h4 h5 h6 h2
  have hf:=(Qc m.slots [] m.free List.nodup_nil).1 h6
  have hl:=(Qh m.free m.slots 0).1 h
  refine⟨by omega,by omega,h2,(Ah _ _ _).1 h3',(Gj _ _).1 h4,(Gj _ _).1 h5,hf.1,by simpa using hf.2,?_⟩
  intro i hi hr
  have:=hl i hi hr
  simpa using this
 ·intro h
  rw[if_neg (by have:=h.ns;have:=h.nh;omega),if_neg (by simpa using h.nl),if_neg (by rw[(Ah _ _ _).2 h.now];simp),
   if_neg (by simpa using (Gj _ _).2 h.slot),if_neg (by simpa using (Gj _ _).2 h.chain),
   if_neg (by simpa using (Qc m.slots [] m.free List.nodup_nil).2 ⟨h.free,by simpa using h.nodup⟩)]
  exact(Qh m.free m.slots 0).2 fun i hi hr=>by simpa using h.all i hi hr
def Em(m:Mm):Int:=m.free.getD (m.free.length - 1) 0
def Ik(m:Mm)(ka kb u:Int):Mm :=
 { m with slots:=m.slots.set (Em m).toNat ⟨1,ka,kb,u,false,(m.slots.getD (Em m).toNat sl0).next⟩,free:=m.free.take (m.free.length - 1) }
def Be(m:Mm)(i:Int):Int:=(m.slots.getD i.toNat sl0).refs
def Dx(m:Mm)(i r:Int):List Sl:=m.slots.set i.toNat { m.slots.getD i.toNat sl0 with refs:=r }
def Z7(m:Mm)(i:Int):Mm:={ m with slots:=Dx m i (Be m i+1) }
def putM(m:Mm)(i:Int):Mm:={ m with slots:=Dx m i (Be m i - 1),free:=if Be m i=1 then m.free ++ [i] else m.free }
def isSl(m:Mm)(i:Int):Bool:=inB i 0 ((m.slots.length:Int) - 1)
def Vo(m:Mm)(ka kb u:Int):Int :=
 if chk m≠0 then chk m else if keyB ka kb=false then 3 else if inB u 0 2000000=false then 3 else if m.free.length=0 then 7 else 0
def Qm(m:Mm)(ka kb u:Int):Mm:=if Vo m ka kb u=0 then Ik m ka kb u else m0
def a1o(m:Mm)(ka kb u:Int):Int:=if Vo m ka kb u=0 then Em m else 0
def letE(m:Mm)(i:Int):Int :=
 if chk m≠0 then chk m else if isSl m i=false then 5 else if Be m i=0 then 8 else 0
def letM(m:Mm)(i:Int):Mm:=if letE m i=0 then putM m i else m0
def newM(many buckets:Nat):Mm :=
 { slots:=List.replicate many sl0,heads:=(List.range buckets).map fun (b:Nat)=>-1 - (b:Int),free:=(List.range many).map fun (a:Nat)=>(many:Int) - 1 - (a:Int),locks:=List.replicate buckets (-1),now:=0 }
def newE(many buckets:Int):Int:=if inB many 0 12 && inB buckets 1 4 then 0 else 3
end
section
theorem getD_lt(S:List Sl)(j:Nat)(h:j<S.length):S.getD j sl0=S[j]:=by simp[List.getD_eq_getElem?_getD,h]
theorem Fa(S:List Sl)(j:Nat)(s:Sl)(h:j<S.length):(S.set j s).getD j sl0=s:=by simp[List.getD_eq_getElem?_getD,h]
theorem Di(S:List Sl)(i j:Nat)(s:Sl)(h:j≠i):(S.set j s).getD i sl0=S.getD i sl0:=by simp[List.getD_eq_getElem?_getD,List.getElem?_set_ne h]
theorem Ok.set{m:Mm}(h:Ok m)(j:Nat)(s:Sl)(hs:Ei m.heads.length m.slots.length s=0)(F:List Int)(h1:∀ a∈F,I7 (m.slots.set j s) a=true)(h2:F.Nodup)
  (h3:∀ i,i<m.slots.length->((m.slots.set j s).getD i sl0).refs=0->(i:Int)∈F):Ok { m with slots:=m.slots.set j s,free:=F }:=by
 refine⟨by simpa using h.ns,h.nh,h.nl,h.now,?_,?_,h1,h2,?_⟩
 ·intro x hx
  dsimp only at hx ⊢
  rw[List.length_set]
  rcases List.mem_or_eq_of_mem_set hx with hx|rfl
  ·exact h.slot x hx
  ·exact hs
 ·intro p hp
  dsimp only at hp ⊢
  rw[List.length_set]
  exact h.chain p hp
 ·intro i hi hr
  exact h3 i (by simpa using hi) hr
theorem Ej{nh ns:Nat}{s:Sl}(h:Ei nh ns s=0):inB s.refs 0 1000=true/\inB s.unt 0 2000000=true/\keyB s.a s.b=true/\inB s.next (-(nh:Int)) ns=true:=by
 unfold Ei at h
 split at h
 ·rename_i h1
  split at h
  ·rename_i h2
   simp only[Bool.and_eq_true] at h1
   exact⟨h1.1.1,h1.1.2,h1.2,h2⟩
  ·omega
 ·omega
theorem O3{nh ns:Nat}{s:Sl}(h1:inB s.refs 0 1000=true)(h2:inB s.unt 0 2000000=true)(h3:keyB s.a s.b=true)(h4:inB s.next (-(nh:Int)) ns=true):Ei nh ns s=0:=by
 simp[Ei,h1,h2,h3,h4]
theorem V9{m:Mm}(hF:0<m.free.length):m.free=m.free.take (m.free.length - 1) ++ [Em m]:=by
 have hl:Em m=m.free[m.free.length - 1]:=by
  have:m.free.length - 1<m.free.length:=by omega
  simp[Em,List.getD_eq_getElem?_getD,this]
 rw[hl]
 have:=List.take_succ_eq_append_getElem (l:=m.free) (i:=m.free.length - 1) (by omega)
 rw[<- this,show m.free.length - 1+1=m.free.length by omega,List.take_length]
theorem Ws{m:Mm}(h:Ok m)(hF:0<m.free.length):0<=Em m/\Em m<m.slots.length/\Be m (Em m)=0:=by
 have hm:Em m∈m.free:=by rw[V9 hF];simp
 exact(Dp _ _).1 (h.free _ hm)
theorem take_ok{m:Mm}(h:Ok m){ka kb u:Int}(hk:keyB ka kb=true)(hu:inB u 0 2000000=true)(hF:0<m.free.length):Ok (Ik m ka kb u):=by
 obtain⟨l0,l1,l2⟩:=Ws h hF
 obtain⟨j,hj⟩:∃ j:Nat,Em m=j:=⟨(Em m).toNat,by omega⟩
 have hsp:=V9 hF
 have hnd:=h.nodup
 rw[hsp,List.nodup_append] at hnd
 have hjS:j<m.slots.length:=by omega
 unfold Ik
 rw[hj] at *
 rw[Int.toNat_natCast]
 have hgood:=Ej (h.slot _ (List.getElem_mem hjS))
 refine h.set j _ (O3 rfl hu hk ?_) _ ?_ hnd.1 ?_
 ·rw[getD_lt _ _ hjS];exact hgood.2.2.2
 ·intro a ha
  have hne:a≠j:=hnd.2.2 a ha j (by simp)
  have hf:=(Dp _ _).1 (h.free a (List.mem_of_mem_take ha))
  rw[Dp]
  refine⟨hf.1,by simpa using hf.2.1,?_⟩
  rw[Di _ _ _ _ (by omega)]
  exact hf.2.2
 ·intro i hi hr
  by_cases e:j=i
  ·subst e
   rw[Fa _ _ _ hjS] at hr
   simp at hr
  ·rw[Di _ _ _ _ e] at hr
   have:=h.all i hi hr
   rw[hsp,List.mem_append,List.mem_singleton] at this
   rcases this with h|h
   ·exact h
   ·omega
theorem a6v{m:Mm}{i:Nat}(h:i<m.slots.length):Be m i=m.slots[i].refs:=by simp[Be,List.getD_eq_getElem?_getD,h]
theorem Vl{m:Mm}{j:Nat}(h:j<m.slots.length)(r:Int):Dx m j r=m.slots.set j { m.slots[j] with refs:=r }:=by
 simp[Dx,List.getD_eq_getElem?_getD,h]
theorem a7v{m:Mm}(h:Ok m){j:Nat}(hj:j<m.slots.length){r:Int}(h0:0<r)(h1:r<=1000)(hr:Be m j≠0):Ok { m with slots:=Dx m j r }:=by
 rw[Vl hj]
 rw[a6v hj] at hr
 have hgood:=Ej (h.slot _ (List.getElem_mem hj))
 refine h.set j _ (O3 (s:={ m.slots[j] with refs:=r }) ((Ah _ _ _).2 ⟨Int.le_of_lt h0,h1⟩) hgood.2.1 hgood.2.2.1 hgood.2.2.2) m.free ?_ h.nodup ?_
 ·intro a ha
  have hf:=(Dp _ _).1 (h.free a ha)
  have hne:a≠j:=by
   rintro rfl
   rw[Int.toNat_natCast,getD_lt _ _ hj] at hf
   exact hr hf.2.2
  rw[Dp]
  refine⟨hf.1,by simpa using hf.2.1,?_⟩
  rw[Di _ _ _ _ (by omega)]
  exact hf.2.2
 ·intro i hi hr'
  by_cases e:j=i
  ·subst e
   rw[Fa _ _ _ hj] at hr'
   dsimp only at hr'
   omega
  ·rw[Di _ _ _ _ e] at hr'
   exact h.all i hi hr'
theorem Hg(m:Mm)(i:Int):isSl m i=true ↔ ∃ j:Nat,i=j/\j<m.slots.length:=by
 unfold isSl
 rw[Ah]
 constructor
 ·intro h
  exact⟨i.toNat,by omega,by omega⟩
 ·rintro ⟨j,rfl,h⟩
  omega
theorem hold_ok{m:Mm}(h:Ok m){i:Int}(hi:isSl m i=true)(h0:0<Be m i)(h1:Be m i<1000):Ok (Z7 m i):=by
 obtain⟨j,rfl,hj⟩:=(Hg m i).1 hi
 exact a7v h hj (by omega) (by omega) (by omega)
theorem put_ok{m:Mm}(h:Ok m){i:Int}(hi:isSl m i=true)(h0:0<Be m i)(h1:Be m i<=1000):Ok (putM m i):=by
 obtain⟨j,rfl,hj⟩:=(Hg m i).1 hi
 by_cases hl:Be m j=1
 ·have e:putM m j = { m with slots:=Dx m j 0,free:=m.free ++ [(j:Int)] }:=by simp[putM,hl]
  rw[e,Vl hj]
  rw[a6v hj] at hl
  have hgood:=Ej (h.slot _ (List.getElem_mem hj))
  have hnj:(j:Int) ∉ m.free:=fun hm=>by
   have hf:=(Dp _ _).1 (h.free _ hm)
   rw[Int.toNat_natCast,getD_lt _ _ hj,hl] at hf
   omega
  refine h.set j _ (O3 (s:={ m.slots[j] with refs:=0 }) rfl hgood.2.1 hgood.2.2.1 hgood.2.2.2) _ ?_ ?_ ?_
  ·intro a ha
   rw[List.mem_append,List.mem_singleton] at ha
   rw[Dp]
   rcases ha with ha|rfl
   ·have hf:=(Dp _ _).1 (h.free a ha)
    have hne:a≠j:=by rintro rfl;exact hnj ha
    refine⟨hf.1,by simpa using hf.2.1,?_⟩
    rw[Di _ _ _ _ (by omega)]
    exact hf.2.2
   ·refine⟨by omega,by simpa using hj,?_⟩
    rw[Int.toNat_natCast,Fa _ _ _ hj]
  ·rw[List.nodup_append]
   refine⟨h.nodup,by simp,fun a ha b hb=>?_⟩
   rw[List.mem_singleton] at hb
   subst hb
   rintro rfl
   exact hnj ha
  ·intro i hi' hr'
   rw[List.mem_append,List.mem_singleton]
   by_cases e:j=i
   ·exact .inr (by omega)
   ·rw[Di _ _ _ _ e] at hr'
    exact .inl (h.all i hi' hr')
 ·have e:putM m j = { m with slots:=Dx m j (Be m j - 1) }:=by simp[putM,hl]
  rw[e]
  exact a7v h hj (by omega) (by omega) (by omega)
end
section
def J9(S:List Sl)(n:Int):Int:=(S.getD (n - 1).toNat sl0).next
def Gz(S:List Sl):Nat->Int->List Int
 | 0,_=>[]
 | k+1,n=>if 0<n then (n - 1) :: Gz S k (J9 S n) else []
def Jf(S:List Sl):Nat->Int->Int
 | 0,n=>n
 | k+1,n=>if 0<n then Jf S k (J9 S n) else n
def Ar(M:Mm)(b:Nat):Int:=M.heads.getD b 0
def chL(M:Mm)(b:Nat):List Int:=Gz M.slots M.slots.length (Ar M b)
def chE(M:Mm)(b:Nat):Int:=Jf M.slots M.slots.length (Ar M b)
def chOk(M:Mm)(b:Nat):Bool:=chE M b == -1 - (b:Int)
def A7(M:Mm)(a:Int):Sl:=M.slots.getD a.toNat sl0
def keyAt(M:Mm)(a:Int):Int × Int:=((A7 M a).a,(A7 M a).b)
def Fe(a b:Int)(n:Nat):Int:=(7*a+3*b+a*b) % n
def hasK(M:Mm)(all:List Int)(k:Int × Int):Bool:=(all.map (keyAt M)).contains k
def whoK(M:Mm)(all:List Int)(k:Int × Int):Int:=(all.find? fun a=>keyAt M a==k).getD 0
def Jw(M:Mm)(b:Nat)(all:List Int)(a:Int):Int :=
 if (A7 M a).refs=0\/(A7 M a).inn=false then 5
 else if Fe (A7 M a).a (A7 M a).b M.heads.length≠b then 4
 else if hasK M all (keyAt M a) then 6 else 0
def Jv(M:Mm)(b:Nat):List Int->List Int->Int
 | _,[]=>0
 | all,a :: l=>if Jw M b all a≠0 then Jw M b all a else Jv M b (all ++ [a]) l
def chkB(M:Mm):Nat->Nat->List Int->Int
 | 0,_,_=>0
 | k+1,b,all=>if chOk M b then (if Jv M b all (chL M b)≠0 then Jv M b all (chL M b) else chkB M k (b+1) (all++chL M b)) else 4
def chkC(M:Mm):Int:=if chk M≠0 then chk M else chkB M M.heads.length 0 []
def Bq(M:Mm)(b:Nat):List Int:=(List.range b).flatMap (chL M)
def allC(M:Mm):List Int:=Bq M M.heads.length
theorem Hu(M:Mm)(b:Nat):Bq M (b+1)=Bq M b++chL M b:=by simp[Bq,List.range_succ]
theorem a3c(M:Mm)(b:Nat)(all l:List Int)(k:Nat)(h:k<l.length) :
  Jv M b (all++l.take k) (l.drop k)=if Jw M b (all++l.take k) l[k] ≠ 0 then Jw M b (all++l.take k) l[k] else Jv M b (all++l.take (k+1)) (l.drop (k+1)):=by
 rw[List.drop_eq_getElem_cons h,List.take_succ_eq_append_getElem h,<- List.append_assoc];rfl
theorem a6y(M:Mm)(b:Nat)(all l:List Int)(k:Nat)(h:l.length<=k):Jv M b (all++l.take k) (l.drop k)=0:=by
 rw[List.drop_of_length_le h];rfl
theorem a4k(M:Mm)(b:Nat)(h:b<M.heads.length) :
  chkB M (M.heads.length - b) b (Bq M b)=if chOk M b then (if Jv M b (Bq M b) (chL M b)≠0 then Jv M b (Bq M b) (chL M b) else chkB M (M.heads.length - (b+1)) (b+1) (Bq M (b+1))) else 4:=by
 rw[show M.heads.length - b=(M.heads.length - (b+1))+1 by omega,Hu];rfl
theorem chkB_end(M:Mm)(b:Nat)(h:M.heads.length<=b)(all:List Int):chkB M (M.heads.length - b) b all=0:=by
 rw[show M.heads.length - b=0 by omega];rfl
structure OkC(M:Mm):Prop where
 ok:Ok M
 ends:∀ b,b<M.heads.length->chE M b=-1 - (b:Int)
 held:∀ b,b<M.heads.length->∀ a∈chL M b,(A7 M a).refs≠0/\(A7 M a).inn=true/\Fe (A7 M a).a (A7 M a).b M.heads.length=b
 keys:((allC M).map (keyAt M)).Nodup
theorem G7(M:Mm)(all:List Int)(k:Int × Int):hasK M all k=true ↔ k∈all.map (keyAt M):=by simp[hasK]
theorem Q8(M:Mm)(b:Nat)(all:List Int)(a:Int):Jw M b all a=0 ↔ ((A7 M a).refs≠0/\(A7 M a).inn=true/\Fe (A7 M a).a (A7 M a).b M.heads.length=b)/\¬ keyAt M a∈all.map (keyAt M):=by
 unfold Jw
 rw[<- G7]
 by_cases h1:(A7 M a).refs=0\/(A7 M a).inn=false
 ·rw[if_pos h1]
  constructor
  ·intro h;omega
  ·rintro ⟨⟨h,h',_⟩,_⟩
   rcases h1 with h1|h1
   ·exact absurd h1 h
   ·rw[h'] at h1;cases h1
 rw[if_neg h1]
 have h1':(A7 M a).refs≠0/\(A7 M a).inn=true:=by
  refine⟨fun h=>h1 (.inl h),?_⟩
  cases h:(A7 M a).inn
  ·exact absurd (.inr h) h1
  ·rfl
 by_cases h2:Fe (A7 M a).a (A7 M a).b M.heads.length=b
 ·rw[if_neg (by simpa using h2)]
  cases h3:hasK M all (keyAt M a)
  ·simp[h1',h2]
  ·simp
 ·rw[if_pos h2]
  constructor
  ·intro h;omega
  ·rintro ⟨⟨_,_,h⟩,_⟩;exact absurd h h2
theorem a3d(M:Mm)(b:Nat)(l:List Int):∀ all:List Int,(all.map (keyAt M)).Nodup->(Jv M b all l=0 ↔ (∀ a∈l,(A7 M a).refs≠0/\(A7 M a).inn=true/\Fe (A7 M a).a (A7 M a).b M.heads.length=b)/\((all++l).map (keyAt M)).Nodup):=by
 induction l with
 | nil=>intro all h;simp[Jv];exact h
 | cons a l ih =>
  intro all hn
  simp only[Jv]
  by_cases h:Jw M b all a=0
  ·rw[if_neg (by simpa using h)]
   have h':=(Q8 M b all a).1 h
   have hn':((all ++ [a]).map (keyAt M)).Nodup:=by
    rw[List.map_append,List.nodup_append]
    refine⟨hn,by simp,?_⟩
    intro x hx y hy e
    simp at hy
    subst hy
    subst e
    exact h'.2 hx
   rw[ih (all ++ [a]) hn',List.append_assoc]
   simp only[List.mem_cons,forall_eq_or_imp,List.cons_append,List.nil_append]
   constructor
   ·rintro ⟨h1,h2⟩;exact⟨⟨h'.1,h1⟩,h2⟩
   ·rintro ⟨⟨_,h1⟩,h2⟩;exact⟨h1,h2⟩
  ·rw[if_pos h]
   constructor
   ·intro hh;exact absurd hh h
   ·rintro ⟨h1,h2⟩
    exfalso
    apply h
    rw[Q8]
    refine⟨h1 a (by simp),fun hm=>?_⟩
    rw[List.map_append,List.nodup_append] at h2
    exact h2.2.2 _ hm _ (by simp) rfl
theorem a0a(M:Mm)(b:Nat):chOk M b=true ↔ chE M b=-1 - (b:Int):=by simp[chOk]
theorem Xi(M:Mm):∀ (k b:Nat),b+k=M.heads.length->((Bq M b).map (keyAt M)).Nodup ->
  (chkB M k b (Bq M b)=0 ↔ (∀ c,b<=c->c<M.heads.length->chE M c=-1 - (c:Int)/\∀ a∈chL M c,(A7 M a).refs≠0/\(A7 M a).inn=true/\Fe (A7 M a).a (A7 M a).b M.heads.length=c)/\((allC M).map (keyAt M)).Nodup)
 | 0,b,hb,hn=>by
  have:b=M.heads.length:=by omega
  subst this
  simp only[chkB,true_iff]
  exact⟨fun c h1 h2=>by omega,hn⟩
 | k+1,b,hb,hn=>by
  simp only[chkB]
  cases hc:chOk M b
  ·simp only[Bool.false_eq_true,if_false]
   constructor
   ·intro h;omega
   ·rintro ⟨h,_⟩
    have:=(a0a M b).2 (h b (Nat.le_refl _) (by omega)).1
    rw[hc] at this;cases this
  ·have hc':=(a0a M b).1 hc
   simp only[if_true]
   have hs:=a3d M b (chL M b) (Bq M b) hn
   rw[<- Hu] at hs ⊢
   by_cases h:Jv M b (Bq M b) (chL M b)=0
   ·rw[if_neg (by simpa using h)]
    have h':=hs.1 h
    rw[Xi M k (b+1) (by omega) h'.2]
    constructor
    ·rintro ⟨h1,h2⟩
     refine⟨fun c hc1 hc2=>?_,h2⟩
     by_cases e:c=b
     ·subst e;exact⟨hc',h'.1⟩
     ·exact h1 c (by omega) hc2
    ·rintro ⟨h1,h2⟩
     exact⟨fun c hc1 hc2=>h1 c (by omega) hc2,h2⟩
   ·rw[if_pos h]
    constructor
    ·intro hh;exact absurd hh h
    ·rintro ⟨h1,h2⟩
     exfalso
     apply h
     rw[hs]
     refine⟨(h1 b (Nat.le_refl _) (by omega)).2,?_⟩
     have e:allC M=Bq M (b+1)++((List.range (M.heads.length - (b+1))).map (· + (b+1))).flatMap (chL M):=by
      unfold allC Bq
      rw[<- List.flatMap_append]
      congr 1
      rw[show M.heads.length=(b+1)+(M.heads.length - (b+1)) by omega,List.range_add]
      simp[Nat.add_comm]
     rw[e,List.map_append,List.nodup_append] at h2
     exact h2.1
theorem Sj(M:Mm):chkC M=0 ↔ OkC M:=by
 unfold chkC
 by_cases h:chk M=0
 ·rw[if_neg (by simpa using h),show ([]:List Int)=Bq M 0 from rfl,Xi M M.heads.length 0 (by omega) (by simp[Bq])]
  constructor
  ·rintro ⟨h1,h2⟩
   exact⟨(Jh M).1 h,fun b hb=>(h1 b (Nat.zero_le _) hb).1,fun b hb=>(h1 b (Nat.zero_le _) hb).2,h2⟩
  ·rintro ⟨_,h1,h2,h3⟩
   exact⟨fun c _ hc=>⟨h1 c hc,h2 c hc⟩,h3⟩
 ·rw[if_pos h]
  constructor
  ·intro hh;exact absurd hh h
  ·intro hh;exact absurd ((Jh M).2 hh.ok) h
end
section
structure Cl where
 kind:Int
 a:Int
 b:Int
 time:Int
 bk:Int
 slot:Int
structure Fr where
 c:Cl
 pl:Int
 cur:Int
 prev:Int
 slot:Int
 n:Int
 keys:List (Int × Int)
 done:Bool
 e:Int
def Dw(nS nH:Nat)(c:Cl):Int :=
 if c.kind=1\/c.kind=3 then (if keyB c.a c.b then 0 else 3)
 else if c.kind=2 then (if inB c.time 1 1000000 && keyB c.a c.b then 0 else 3)
 else if c.kind=4\/c.kind=5 then (if inB c.bk 0 ((nH:Int) - 1) then 0 else 5)
 else if c.kind=6 then (if inB c.slot 0 ((nS:Int) - 1) then 0 else 5)
 else 4
def frE(nS nH:Nat)(f:Fr):Int :=
 if Dw nS nH f.c≠0 then Dw nS nH f.c
 else if inB f.pl 0 9=false\/inB f.n 0 1000000=false\/f.done=true then 3
 else if inB f.cur (-(nH:Int)) nS=false\/inB f.prev 0 nS=false\/inB f.slot (-1) ((nS:Int) - 1)=false then 5
 else if 100<f.keys.length then 2 else 0
def bkOf(nH:Nat)(c:Cl):Int :=
 if c.kind=4\/c.kind=5 then c.bk
 else if keyB c.a c.b then (if 1<=nH/\nH<=4 then Fe c.a c.b nH else 0) else 0
def newF(c:Cl):Fr:=⟨c,0,0,0,-1,0,[],false,0⟩
def endF(f:Fr)(e:Int):Fr:={ f with done:=true,e:=e }
theorem Ry{nS nH:Nat}{k a b t bk sl:Int}(h:k=1\/k=3):Dw nS nH ⟨k,a,b,t,bk,sl⟩=if keyB a b then 0 else 3:=by
 unfold Dw;rw[if_pos h]
theorem Xd{nS nH:Nat}{a b t bk sl:Int}:Dw nS nH ⟨2,a,b,t,bk,sl⟩=if inB t 1 1000000 && keyB a b then 0 else 3:=by
 unfold Dw;rw[if_neg (by simp),if_pos rfl]
theorem callE_bk{nS nH:Nat}{k a b t bk sl:Int}(h:k=4\/k=5):Dw nS nH ⟨k,a,b,t,bk,sl⟩=if inB bk 0 ((nH:Int) - 1) then 0 else 5:=by
 unfold Dw;rw[if_neg (by dsimp only;omega),if_neg (by dsimp only;omega),if_pos h]
theorem Rz{nS nH:Nat}{a b t bk sl:Int}:Dw nS nH ⟨6,a,b,t,bk,sl⟩=if inB sl 0 ((nS:Int) - 1) then 0 else 5:=by
 unfold Dw;rw[if_neg (by simp),if_neg (by simp),if_neg (by simp),if_pos rfl]
theorem callE_no{nS nH:Nat}{k a b t bk sl:Int}(h:k<1\/6<k):Dw nS nH ⟨k,a,b,t,bk,sl⟩=4:=by
 unfold Dw;rw[if_neg (by dsimp only;omega),if_neg (by dsimp only;omega),if_neg (by dsimp only;omega),if_neg (by dsimp only;omega)]
end
section
def ownB(M:Mm)(a:Int):Nat:=(Fe (A7 M a).a (A7 M a).b M.heads.length).toNat
def Gw(M:Mm)(a:Int):Mm:={ M with slots:=M.slots.set a.toNat { A7 M a with next:=Ar M (ownB M a),inn:=true },heads:=M.heads.set (ownB M a) (a+1) }
def Jy(a:Int):List Int->Int->Int->Int
 | [],ah,_=>ah
 | c :: l,ah,la=>Jy a l (if c==a then la else ah) (c+1)
def cutM(M:Mm)(b:Nat)(ahead a:Int):Mm :=
 if 0<ahead then { M with slots:=M.slots.set (ahead - 1).toNat { A7 M (ahead - 1) with next:=(A7 M a).next } } else { M with heads:=M.heads.set b (A7 M a).next }
def Path(S:List Sl):Int->List Int->Int->Prop
 | n,[],e=>n=e/\n<=0
 | n,a :: l,e=>n=a+1/\0<=a/\Path S (S.getD a.toNat sl0).next l e
theorem Ox(S:List Sl):∀ (k:Nat) (n:Int),Jf S k n<=0->Path S n (Gz S k n) (Jf S k n)/\(Gz S k n).length<=k
 | 0,n,h=>⟨⟨rfl,h⟩,by simp[Gz]⟩
 | k+1,n,h=>by
  simp only[Jf,Gz] at h ⊢
  by_cases hn:0<n
  ·rw[if_pos hn] at h
   rw[if_pos hn,if_pos hn]
   have:=Ox S k _ h
   exact⟨⟨by omega,by omega,this.1⟩,by simpa using this.2⟩
  ·rw[if_neg hn] at h
   rw[if_neg hn,if_neg hn]
   exact⟨⟨rfl,h⟩,by simp⟩
theorem Kz(S:List Sl):∀ (k:Nat) (n:Int) (l:List Int) (e:Int),Path S n l e->l.length<=k->Gz S k n=l/\Jf S k n=e
 | k,n,[],e,h,hl=>by
  obtain⟨rfl,h⟩:=h
  cases k with
  | zero=>exact⟨rfl,rfl⟩
  | succ k=>simp only[Jf,Gz];rw[if_neg (by omega),if_neg (by omega)];exact⟨rfl,rfl⟩
 | 0,n,a :: l,e,h,hl=>by simp at hl
 | k+1,n,a :: l,e,h,hl=>by
  obtain⟨rfl,h0,h⟩:=h
  have:=Kz S k _ l e h (by simpa using hl)
  simp only[Jf,Gz,J9]
  rw[if_pos (by omega),if_pos (by omega),show a+1 - 1=a by omega]
  rw[this.1,this.2]
  exact⟨rfl,rfl⟩
theorem Lr{S S':List Sl}:∀ {n:Int} {l:List Int} {e:Int},(∀ a∈l,(S'.getD a.toNat sl0).next=(S.getD a.toNat sl0).next)->Path S n l e->Path S' n l e
 | _,[],_,_,h=>h
 | _,a :: l,_,hh,h=>by
  refine⟨h.1,h.2.1,?_⟩
  rw[hh a (by simp)]
  exact Lr (fun x hx=>hh x (by simp[hx])) h.2.2
def N9(S:List Sl):Int->List Int->Int->Prop
 | n,[],e=>n=e
 | n,a :: l,e=>n=a+1/\0<=a/\N9 S (S.getD a.toNat sl0).next l e
theorem X5{S:List Sl}:∀ {n:Int} {l1 l2:List Int} {e:Int},Path S n (l1++l2) e ↔ ∃ m,N9 S n l1 m/\Path S m l2 e
 | n,[],l2,e=>by simp[N9]
 | n,a :: l1,l2,e=>by
  simp only[List.cons_append,Path,N9,X5 (l1:=l1)]
  constructor
  ·rintro ⟨h1,h2,m,h3,h4⟩;exact⟨m,⟨h1,h2,h3⟩,h4⟩
  ·rintro ⟨m,⟨h1,h2,h3⟩,h4⟩;exact⟨h1,h2,m,h3,h4⟩
theorem Nj{S:List Sl}:∀ {n:Int} {l:List Int} {p e:Int},N9 S n (l ++ [p]) e ↔ N9 S n l (p+1)/\0<=p/\(S.getD p.toNat sl0).next=e
 | n,[],p,e=>by simp[N9]
 | n,a :: l,p,e=>by
  simp only[List.cons_append,N9,Nj (l:=l)]
  constructor
  ·rintro ⟨h1,h2,h3,h4⟩;exact⟨⟨h1,h2,h3⟩,h4⟩
  ·rintro ⟨⟨h1,h2,h3⟩,h4⟩;exact⟨h1,h2,h3,h4⟩
theorem Qj{S S':List Sl}:∀ {n:Int} {l:List Int} {e:Int},(∀ a∈l,(S'.getD a.toNat sl0).next=(S.getD a.toNat sl0).next)->N9 S n l e->N9 S' n l e
 | _,[],_,_,h=>h
 | _,a :: l,_,hh,h=>by
  refine⟨h.1,h.2.1,?_⟩
  rw[hh a (by simp)]
  exact Qj (fun x hx=>hh x (by simp[hx])) h.2.2
theorem U4{S:List Sl}:∀ {n:Int} {l:List Int} {e:Int},Path S n l e->∀ a∈l,0<=a
 | _,[],_,_,_,ha=>by cases ha
 | _,x :: l,_,h,a,ha=>by
  rcases List.mem_cons.1 ha with rfl|ha
  ·exact h.2.1
  ·exact U4 h.2.2 a ha
theorem a6n{S:List Sl}{N:Nat}(hs:∀ s∈S,s.next<=N)(h0:(0:Int)<=N):∀ {n:Int} {l:List Int} {e:Int},n<=N->Path S n l e->∀ a∈l,a<N
 | _,[],_,_,_,_,ha=>by cases ha
 | n,x :: l,_,hn,h,a,ha=>by
  rcases List.mem_cons.1 ha with rfl|ha
  ·have:=h.1;omega
  ·refine a6n hs h0 (n:=(S.getD x.toNat sl0).next) ?_ h.2.2 a ha
   by_cases hx:x.toNat<S.length
   ·rw[getD_lt S _ hx];exact hs _ (List.getElem_mem hx)
   ·rw[List.getD_eq_getElem?_getD,List.getElem?_eq_none (by omega)];exact h0
theorem few':∀ (n:Nat) (l:List Int),l.Nodup->(∀ a∈l,0<=a/\a<n)->l.length<=n
 | 0,l,hn,h=>by
  match l,h with
  | [],_=>simp
  | a :: _,h=>have:=h a (by simp);omega
 | n+1,l,hn,h=>by
  have h1:=few' n (l.erase (n:Int)) (hn.erase _) (fun a ha=>by
   have h3:=(hn.mem_erase_iff).1 ha
   have h4:=h a h3.2
   have h5:=h3.1
   omega)
  rw[List.length_erase] at h1
  split at h1 <;> omega
theorem OkC.path{M:Mm}(h:OkC M){b:Nat}(hb:b<M.heads.length):Path M.slots (Ar M b) (chL M b) (-1 - (b:Int)):=by
 have e:=h.ends b hb
 have:=(Ox M.slots M.slots.length (Ar M b) (by show chE M b<=0;omega)).1
 rw[show Jf M.slots M.slots.length (Ar M b)=-1 - (b:Int) from e] at this
 exact this
theorem Ok.O5{M:Mm}(h:Ok M){b:Nat}(hb:b<M.heads.length):Ar M b≠0/\inB (Ar M b) (-(M.heads.length:Int)) M.slots.length=true:=by
 have hl:b<M.locks.length:=by have:=h.nl;omega
 have hz:b<(M.heads.zip M.locks).length:=by simp;omega
 have:=h.chain _ (List.getElem_mem hz)
 simp only[List.getElem_zip,Dz] at this
 have e:Ar M b=M.heads[b]:=by simp[Ar,List.getD_eq_getElem?_getD,hb]
 rw[e]
 split at this
 ·rename_i hh;exact hh
 ·omega
theorem OkC.slots{M:Mm}(h:OkC M){b:Nat}(hb:b<M.heads.length):∀ a∈chL M b,0<=a/\a<M.slots.length:=by
 intro a ha
 have hp:=h.path hb
 refine⟨U4 hp a ha,a6n (fun s hs=>?_) (by omega) ?_ hp a ha⟩
 ·have:=(Ej (h.ok.slot s hs)).2.2.2
  exact((Ah _ _ _).1 this).2
 ·exact((Ah _ _ _).1 (h.ok.O5 hb).2).2
theorem a6e{M:Mm}{n:Nat}{a:Int}:a∈Bq M n ↔ ∃ b,b<n/\a∈chL M b:=by simp[Bq]
theorem Ai{M:Mm}{a:Int}:a∈allC M ↔ ∃ b,b<M.heads.length/\a∈chL M b:=a6e
theorem F6{α β:Type}{f:α->β}:∀ {l:List α},(l.map f).Nodup->l.Nodup
 | [],_=>by simp
 | a :: l,h=>by
  rw[List.map_cons,List.nodup_cons] at h
  rw[List.nodup_cons]
  exact⟨fun hm=>h.1 (List.mem_map_of_mem hm),F6 h.2⟩
theorem J8(M:Mm){b:Nat}(hb:b<M.heads.length):∃ l2,allC M=Bq M b++chL M b++l2/\l2=((List.range (M.heads.length - (b+1))).map (· + (b+1))).flatMap (chL M):=by
 refine⟨_,?_,rfl⟩
 rw[<- Hu]
 unfold allC Bq
 rw[<- List.flatMap_append]
 congr 1
 rw[show M.heads.length=(b+1)+(M.heads.length - (b+1)) by omega,List.range_add]
 simp[Nat.add_comm]
theorem OkC.nodup{M:Mm}(h:OkC M){b:Nat}(hb:b<M.heads.length):(chL M b).Nodup:=by
 obtain⟨l2,e,_⟩:=J8 M hb
 have:=F6 h.keys
 rw[e,List.nodup_append,List.nodup_append] at this
 exact this.1.2.1
theorem OkC.Eo{M:Mm}(h:OkC M):∀ a∈allC M,0<=a/\a<M.slots.length:=by
 intro a ha
 obtain⟨b,hb,hm⟩:=Ai.1 ha
 exact h.slots hb a hm
end
section
theorem Nw(a b:Int){n:Nat}(hn:1<=n):0<=Fe a b n/\Fe a b n<n:=⟨Int.emod_nonneg _ (by omega),Int.emod_lt_of_pos _ (by omega)⟩
theorem ownB_lt{M:Mm}(h:Ok M)(a:Int):ownB M a<M.heads.length:=by
 have:=Nw (A7 M a).a (A7 M a).b h.nh.1
 unfold ownB;omega
theorem ownB_eq{M:Mm}(h:Ok M)(a:Int):(ownB M a:Int)=Fe (A7 M a).a (A7 M a).b M.heads.length:=by
 have:=Nw (A7 M a).a (A7 M a).b h.nh.1
 unfold ownB;omega
theorem Eg{f g:Nat->List Int}:∀ {l:List Nat},(∀ c∈l,f c=g c)->l.flatMap f=l.flatMap g
 | [],_=>rfl
 | c :: l,h=>by
  rw[List.flatMap_cons,List.flatMap_cons,h c (by simp),Eg (fun x hx=>h x (by simp[hx]))]
theorem Xa{M M':Mm}{b:Nat}(hb:b<M.heads.length)(hl:M'.heads.length=M.heads.length)(h:∀ c,c<M.heads.length->c≠b->chL M' c=chL M c) :
  ∃ l1 l2,allC M=l1++chL M b++l2/\allC M'=l1++chL M' b++l2:=by
 obtain⟨x,e,ex⟩:=J8 M hb
 obtain⟨y,e',ey⟩:=J8 M' (b:=b) (by omega)
 have h1:Bq M' b=Bq M b:=Eg fun c hc=>by
  rw[List.mem_range] at hc
  exact h c (by omega) (by omega)
 have h2:y=x:=by
  rw[ex,ey,hl]
  refine Eg fun c hc=>?_
  simp only[List.mem_map,List.mem_range] at hc
  obtain⟨d,hd,rfl⟩:=hc
  exact h _ (by omega) (by omega)
 exact⟨Bq M b,x,e,by rw[e',h1,h2]⟩
theorem Q7{M:Mm}{S:List Sl}{H:List Int}{j:Nat}{s:Sl}(hj:j<M.slots.length)(hS:S=M.slots.set j s)(x:Int):A7 { M with slots:=S,heads:=H } x=if x.toNat=j then s else A7 M x:=by
 subst hS
 unfold A7
 dsimp only
 by_cases e:x.toNat=j
 ·rw[if_pos e,e,Fa _ _ _ hj]
 ·rw[if_neg e,Di _ _ _ _ (fun h=>e h.symm)]
theorem Sz{M:Mm}{S:List Sl}{b c:Nat}{n:Int}(hb:b<M.heads.length):Ar { M with slots:=S,heads:=M.heads.set b n } c=if c=b then n else Ar M c:=by
 unfold Ar
 dsimp only
 by_cases e:c=b
 ·subst e;rw[if_pos rfl];simp[List.getD_eq_getElem?_getD,hb]
 ·rw[if_neg e];simp[List.getD_eq_getElem?_getD,List.getElem?_set_ne (fun h=>e h.symm)]
theorem Ok.turn{M:Mm}(h:Ok M){j b:Nat}(hj:j<M.slots.length){nx hd:Int}{inn:Bool}(h1:inB nx (-(M.heads.length:Int)) M.slots.length=true)(h2:hd≠0/\inB hd (-(M.heads.length:Int)) M.slots.length=true) :
  Ok { M with slots:=M.slots.set j { A7 M j with next:=nx,inn:=inn },heads:=M.heads.set b hd }:=by
 have hs:A7 M j=M.slots[j]:=by simp[A7,List.getD_eq_getElem?_getD,hj]
 have hgood:=Ej (h.slot _ (List.getElem_mem hj))
 have hr:∀ i:Nat,((M.slots.set j { A7 M j with next:=nx,inn:=inn }).getD i sl0).refs=(M.slots.getD i sl0).refs:=fun i=>by
  by_cases e:j=i
  ·subst e;rw[Fa _ _ _ hj];rfl
  ·rw[Di _ _ _ _ e]
 refine⟨by simpa using h.ns,by simpa using h.nh,by simpa using h.nl,h.now,?_,?_,?_,h.nodup,?_⟩
 ·intro x hx
  dsimp only at hx ⊢
  rw[List.length_set,List.length_set]
  rcases List.mem_or_eq_of_mem_set hx with hx|rfl
  ·exact h.slot x hx
  ·rw[hs]
   exact O3 hgood.1 hgood.2.1 hgood.2.2.1 h1
 ·intro p hp
  dsimp only at hp ⊢
  rw[List.length_set,List.length_set]
  obtain⟨i,hi,rfl⟩:=List.getElem_of_mem hp
  have hi':i<(M.heads.zip M.locks).length:=by simpa using hi
  have:=h.chain _ (List.getElem_mem hi')
  rw[List.getElem_zip] at this ⊢
  rw[List.getElem_set]
  unfold Dz at this ⊢
  dsimp only at this ⊢
  by_cases e:b=i
  ·rw[if_pos e,if_pos h2]
   split at this
   ·exact this
   ·omega
  ·rw[if_neg e];exact this
 ·intro a ha
  have:=(Dp _ _).1 (h.free a ha)
  rw[Dp]
  refine⟨this.1,by simpa using this.2.1,?_⟩
  rw[hr];exact this.2.2
 ·intro i hi hr'
  dsimp only at hi hr'
  rw[hr] at hr'
  exact h.all i (by simpa using hi) hr'
structure Linked(M M':Mm)(a:Int)(b:Nat):Prop where
 okc:OkC M'
 nh:M'.heads.length=M.heads.length
 ns:M'.slots.length=M.slots.length
 at_:chL M' b=a :: chL M b
 else_:∀ c,c<M.heads.length->c≠b->chL M' c=chL M c
 key:∀ x,keyAt M' x=keyAt M x
 unt:∀ x,(A7 M' x).unt=(A7 M x).unt
 refs:∀ x,(A7 M' x).refs=(A7 M x).refs
theorem a5v{M:Mm}(h:OkC M){a:Int}(ha:isSl M a=true)(hr:Be M a≠0)(hk:hasK M (allC M) (keyAt M a)=false):Linked M (Gw M a) a (ownB M a):=by
 obtain⟨j,rfl,hj⟩:=(Hg M a).1 ha
 have hb:=ownB_lt h.ok j
 have hbe:=ownB_eq h.ok j
 have hhd:=h.ok.O5 hb
 have hnk:¬ keyAt M j∈(allC M).map (keyAt M):=fun hm=>by rw[(G7 M _ _).2 hm] at hk;cases hk
 have hna:¬ (j:Int)∈allC M:=fun hm=>hnk (List.mem_map_of_mem hm)
 have hok:Ok (Gw M j):=h.ok.turn (b:=ownB M j) hj hhd.2 ⟨by omega,by rw[Ah];omega⟩
 have hsl:∀ x,A7 (Gw M j) x=if x.toNat=j then { A7 M j with next:=Ar M (ownB M j),inn:=true } else A7 M x:=fun x=>Q7 (j:=j) hj rfl x
 have hsx:∀ x:Int,x.toNat=j->A7 M x=A7 M j:=fun x hx=>by unfold A7;rw[hx,Int.toNat_natCast]
 have key:∀ x,keyAt (Gw M j) x=keyAt M x:=fun x=>by
  unfold keyAt;rw[hsl];split
  ·rename_i e;rw[hsx x e]
  ·rfl
 have unt:∀ x,(A7 (Gw M j) x).unt=(A7 M x).unt:=fun x=>by
  rw[hsl];split
  ·rename_i e;rw[hsx x e]
  ·rfl
 have refs:∀ x,(A7 (Gw M j) x).refs=(A7 M x).refs:=fun x=>by
  rw[hsl];split
  ·rename_i e;rw[hsx x e]
  ·rfl
 have hhead:∀ c,Ar (Gw M j) c=if c=ownB M j then (j:Int)+1 else Ar M c:=fun c=>Sz hb
 have nh:(Gw M j).heads.length=M.heads.length:=by simp[Gw]
 have ns:(Gw M j).slots.length=M.slots.length:=by simp[Gw]
 have cong:∀ c,c<M.heads.length->Path (Gw M j).slots (Ar M c) (chL M c) (-1 - (c:Int)):=fun c hc=>by
  refine Lr (fun x hx=>?_) (h.path hc)
  have:=hsl x
  have hx0:=h.slots hc x hx
  have hne:x.toNat≠j:=fun e=>hna (Ai.2 ⟨c,hc,by rw[show (j:Int)=x by omega];exact hx⟩)
  rw[if_neg hne] at this
  unfold A7 at this
  rw[this]
 have other:∀ c,c<M.heads.length->c≠ownB M j->chL (Gw M j) c=chL M c/\chE (Gw M j) c=-1 - (c:Int):=fun c hc hne=>by
  have hw:=(Ox M.slots M.slots.length (Ar M c) (by show chE M c<=0;have:=h.ends c hc;omega)).2
  have:=Kz _ M.slots.length _ _ _ (cong c hc) hw
  unfold chL chE
  rw[hhead,if_neg hne,ns]
  exact this
 have own:chL (Gw M j) (ownB M j)=(j:Int) :: chL M (ownB M j)/\chE (Gw M j) (ownB M j)=-1 - (ownB M j:Int):=by
  have hp:Path (Gw M j).slots ((j:Int)+1) ((j:Int) :: chL M (ownB M j)) (-1 - (ownB M j:Int)):=by
   refine⟨rfl,by omega,?_⟩
   have:=hsl j
   rw[if_pos (Int.toNat_natCast j)] at this
   unfold A7 at this
   rw[this]
   exact cong _ hb
  have hlen:((j:Int) :: chL M (ownB M j)).length<=M.slots.length:=by
   refine few' _ _ ?_ ?_
   ·rw[List.nodup_cons]
    exact⟨fun hm=>hna (Ai.2 ⟨_,hb,hm⟩),h.nodup hb⟩
   ·intro x hx
    rcases List.mem_cons.1 hx with rfl|hx
    ·omega
    ·exact h.slots hb x hx
  have:=Kz _ M.slots.length _ _ _ hp hlen
  unfold chL chE
  rw[hhead,if_pos rfl,ns]
  exact this
 obtain⟨l1,l2,e1,e2⟩:=Xa hb nh (fun c hc hne=>(other c hc hne).1)
 refine⟨⟨hok,?_,?_,?_⟩,nh,ns,own.1,fun c hc hne=>(other c hc hne).1,key,unt,refs⟩
 ·intro c hc
  rw[nh] at hc
  by_cases e:c=ownB M j
  ·subst e;exact own.2
  ·exact(other c hc e).2
 ·intro c hc x hx
  rw[nh] at hc ⊢
  have inn:∀ x,(A7 M x).inn=true->(A7 (Gw M j) x).inn=true:=fun x hh=>by
   rw[hsl];split
   ·rfl
   ·exact hh
  have bk:∀ x,Fe (A7 (Gw M j) x).a (A7 (Gw M j) x).b M.heads.length=Fe (A7 M x).a (A7 M x).b M.heads.length:=fun x=>by
   have:=key x
   unfold keyAt at this
   injection this with t1 t2
   rw[t1,t2]
  by_cases e:c=ownB M j
  ·subst e
   rw[own.1] at hx
   rcases List.mem_cons.1 hx with rfl|hx
   ·refine⟨by rw[refs];exact hr,?_,by rw[bk,<- hbe]⟩
    rw[hsl,if_pos (Int.toNat_natCast j)]
   ·have:=h.held _ hb x hx
    exact⟨by rw[refs];exact this.1,inn x this.2.1,by rw[bk];exact this.2.2⟩
  ·rw[(other c hc e).1] at hx
   have:=h.held _ hc x hx
   exact⟨by rw[refs];exact this.1,inn x this.2.1,by rw[bk];exact this.2.2⟩
 ·rw[show keyAt (Gw M j)=keyAt M from funext key,e2,own.1]
  have hk2:=h.keys
  rw[e1] at hk2
  have hp:(l1++(j:Int) :: chL M (ownB M j)++l2).Perm ((j:Int) :: (l1++chL M (ownB M j)++l2)):=by
   simp only[List.append_assoc,List.cons_append]
   exact List.perm_middle
  rw[(hp.map _).nodup_iff,List.map_cons,List.nodup_cons]
  exact⟨by rw[<- e1];exact hnk,hk2⟩
def lastN(l:List Int):Int:=match l.getLast? with|none=>0|some p=>p+1
theorem a2m(l:List Int)(c:Int):lastN (l ++ [c])=c+1:=by simp[lastN]
theorem Ul{a:Int}:∀ {l:List Int} {ah la:Int},¬ a∈l->Jy a l ah la=ah
 | [],_,_,_=>rfl
 | c :: l,ah,la,h=>by
  simp only[List.mem_cons,not_or] at h
  simp only[Jy]
  rw[if_neg (by simpa using fun e=>h.1 (Eq.symm e))]
  exact Ul h.2
theorem Qp{a:Int}:∀ {l1 l2:List Int} {ah la:Int},¬ a∈l1->¬ a∈l2->Jy a (l1++a :: l2) ah la=match l1.getLast? with|none=>la|some p=>p+1
 | [],l2,ah,la,_,h=>by simp only[List.nil_append,Jy];rw[if_pos (by simp)];exact Ul h
 | c :: l,l2,ah,la,h,h'=>by
  simp only[List.mem_cons,not_or] at h
  simp only[List.cons_append,Jy]
  rw[if_neg (by simpa using fun e=>h.1 (Eq.symm e)),Qp h.2 h']
  cases l with
  | nil=>rfl
  | cons d l=>simp[List.getLast?_cons]
structure a3v(M M':Mm)(a:Int)(b:Nat):Prop where
 okc:OkC M'
 nh:M'.heads.length=M.heads.length
 ns:M'.slots.length=M.slots.length
 at_:∃ l1 l2,chL M b=l1++a :: l2/\chL M' b=l1++l2
 else_:∀ c,c<M.heads.length->c≠b->chL M' c=chL M c
 key:∀ x,keyAt M' x=keyAt M x
 unt:∀ x,(A7 M' x).unt=(A7 M x).unt
 refs:∀ x,(A7 M' x).refs=(A7 M x).refs
theorem cut_ok{M:Mm}(h:OkC M){b:Nat}(hb:b<M.heads.length){a:Int}(ha:a∈chL M b):a3v M (cutM M b (Jy a (chL M b) 0 0) a) a b:=by
 obtain⟨l1,l2,hl⟩:=List.append_of_mem ha
 have hnd:=h.nodup hb
 rw[hl,List.nodup_append,List.nodup_cons] at hnd
 have na1:¬ a∈l1:=fun hm=>hnd.2.2 a hm a (by simp) rfl
 have na2:=hnd.2.1.1
 have hah:Jy a (chL M b) 0 0=lastN l1:=by rw[hl,Qp na1 na2];rfl
 have ha0:=h.slots hb a ha
 have hsa:A7 M a=M.slots[a.toNat]'(by omega):=by simp[A7,List.getD_eq_getElem?_getD,show a.toNat<M.slots.length by omega]
 have hnx:inB (A7 M a).next (-(M.heads.length:Int)) M.slots.length=true:=by
  rw[hsa];exact(Ej (h.ok.slot _ (List.getElem_mem _))).2.2.2
 have hpath:=h.path hb
 rw[hl,X5] at hpath
 obtain⟨m,hp1,hm,-,hp2⟩:=hpath
 have hp2':Path M.slots (A7 M a).next l2 (-1 - (b:Int)):=hp2
 have hlen:∀ c,c<M.heads.length->(chL M c).length<=M.slots.length:=fun c hc=>(Ox M.slots M.slots.length (Ar M c) (by show chE M c<=0;have:=h.ends c hc;omega)).2
 have apart:∀ c,c<M.heads.length->c≠b->∀ x,x∈chL M b->¬ x∈chL M c:=fun c hc hne x hx hx'=>by
  have:=(h.held b hb x hx).2.2
  have:=(h.held c hc x hx').2.2
  omega
 -- what is asked of a memory that is so changed
 have fin:∀ M':Mm,Ok M'->M'.heads.length=M.heads.length->M'.slots.length=M.slots.length->(∀ x,keyAt M' x=keyAt M x)->(∀ x,(A7 M' x).unt=(A7 M x).unt)->(∀ x,(A7 M' x).refs=(A7 M x).refs)->(∀ x,(A7 M' x).inn=(A7 M x).inn) ->
   Path M'.slots (Ar M' b) (l1++l2) (-1 - (b:Int))->(∀ c,c<M.heads.length->c≠b->Path M'.slots (Ar M' c) (chL M c) (-1 - (c:Int)))->a3v M M' a b:=by
  intro M' hok nh ns key unt refs inn pb pc
  have own:chL M' b=l1++l2/\chE M' b=-1 - (b:Int):=by
   unfold chL chE
   rw[ns]
   refine Kz _ _ _ _ _ pb ?_
   have:=hlen b hb
   rw[hl] at this
   simp only[List.length_append,List.length_cons] at this ⊢
   omega
  have other:∀ c,c<M.heads.length->c≠b->chL M' c=chL M c/\chE M' c=-1 - (c:Int):=fun c hc hne=>by
   have:=Kz _ M.slots.length _ _ _ (pc c hc hne) (hlen c hc)
   unfold chL chE
   rw[ns]
   exact this
  obtain⟨k1,k2,e1,e2⟩:=Xa hb nh (fun c hc hne=>(other c hc hne).1)
  refine⟨⟨hok,?_,?_,?_⟩,nh,ns,⟨l1,l2,hl,own.1⟩,fun c hc hne=>(other c hc hne).1,key,unt,refs⟩
  ·intro c hc
   rw[nh] at hc
   by_cases e:c=b
   ·subst e;exact own.2
   ·exact(other c hc e).2
  ·intro c hc x hx
   rw[nh] at hc ⊢
   have hx':x∈chL M c:=by
    by_cases e:c=b
    ·subst e
     rw[own.1] at hx
     rw[hl]
     rcases List.mem_append.1 hx with hx|hx
     ·simp[hx]
     ·simp[hx]
    ·rw[<- (other c hc e).1];exact hx
   have:=h.held _ hc x hx'
   have hk:=key x
   unfold keyAt at hk
   injection hk with t1 t2
   exact⟨by rw[refs];exact this.1,by rw[inn];exact this.2.1,by rw[t1,t2];exact this.2.2⟩
  ·rw[show keyAt M'=keyAt M from funext key,e2,own.1]
   have hk2:=h.keys
   rw[e1,hl] at hk2
   have hp:(k1++(l1++a :: l2)++k2).Perm (a :: (k1++(l1++l2)++k2)):=by
    have:k1++(l1++a :: l2)++k2=(k1++l1)++a :: (l2++k2):=by simp
    rw[this]
    refine List.perm_middle.trans ?_
    simp
   rw[(hp.map _).nodup_iff,List.map_cons,List.nodup_cons] at hk2
   exact hk2.2
 rw[hah]
 rcases (show l1=[]\/∃ l' p,l1=l' ++ [p] by
   rcases List.eq_nil_or_concat l1 with h1|⟨l',p,h1⟩
   ·exact .inl h1
   ·exact .inr ⟨l',p,by rw[h1,List.concat_eq_append]⟩) with rfl|⟨l',p,rfl⟩
 ·rw[show lastN []=0 from rfl]
  unfold cutM
  rw[if_neg (by omega)]
  have hq:Ar M b=m:=hp1
  refine fin _ ?_ (by simp) rfl (fun _=>rfl) (fun _=>rfl) (fun _=>rfl) (fun _=>rfl) ?_ ?_
  ·have hn0:(A7 M a).next≠0:=by
    intro h0
    rw[h0] at hp2'
    cases l2 with
    | nil=>have:=hp2'.1;omega
    | cons x l=>have:=hp2'.1;have:=hp2'.2.1;omega
   have:=h.ok.turn (j:=a.toNat) (b:=b) (inn:=(A7 M a).inn) (by omega) hnx ⟨hn0,hnx⟩
   have he:M.slots.set a.toNat { A7 M (a.toNat:Int) with next:=(A7 M a).next,inn:=(A7 M a).inn } = M.slots:=by
    rw[show ((a.toNat:Nat):Int)=a by omega]
    show M.slots.set a.toNat (A7 M a)=_
    rw[hsa,List.set_getElem_self]
   rw[he] at this
   exact this
  ·have:=Sz (M:=M) (S:=M.slots) (b:=b) (c:=b) (n:=(A7 M a).next) hb
   rw[if_pos rfl] at this
   show Path M.slots (Ar { M with heads:=M.heads.set b (A7 M a).next } b) _ _
   rw[show Ar { M with heads:=M.heads.set b (A7 M a).next } b=(A7 M a).next from this]
   exact hp2'
  ·intro c hc hne
   have:=Sz (M:=M) (S:=M.slots) (b:=b) (c:=c) (n:=(A7 M a).next) hb
   rw[if_neg hne] at this
   show Path M.slots (Ar { M with heads:=M.heads.set b (A7 M a).next } c) _ _
   rw[show Ar { M with heads:=M.heads.set b (A7 M a).next } c=Ar M c from this]
   exact h.path hc
 ·rw[a2m]
  rw[Nj] at hp1
  have hpm:p∈chL M b:=by rw[hl];simp
  have hp0:=h.slots hb p hpm
  unfold cutM
  rw[if_pos (by omega),show p+1 - 1=p by omega]
  have hjp:p.toNat<M.slots.length:=by omega
  have hsl:∀ x,A7 { M with slots:=M.slots.set p.toNat { A7 M p with next:=(A7 M a).next } } x=if x.toNat=p.toNat then { A7 M p with next:=(A7 M a).next } else A7 M x:=fun x=>Q7 (H:=M.heads) hjp rfl x
  have hsx:∀ x:Int,x.toNat=p.toNat->A7 M x=A7 M p:=fun x hx=>by unfold A7;rw[hx]
  have hpn:¬ p∈l':=by
   intro hm
   rw[List.nodup_append] at hnd
   exact hnd.1.2.2 p hm p (by simp) rfl
  have hpn2:¬ p∈l2:=fun hm=>hnd.2.2 p (by simp) p (by simp[hm]) rfl
  have nxt:∀ x,x∈chL M b\/(∃ c,c<M.heads.length/\c≠b/\x∈chL M c)->x≠p->((M.slots.set p.toNat { A7 M p with next:=(A7 M a).next }).getD x.toNat sl0).next=(M.slots.getD x.toNat sl0).next:=fun x hx hne=>by
   have hx0:0<=x:=by
    rcases hx with hx|⟨c,hc,_,hx⟩
    ·exact(h.slots hb x hx).1
    ·exact(h.slots hc x hx).1
   rw[Di _ _ _ _ (by omega)]
  refine fin _ ?_ rfl (by simp) ?_ ?_ ?_ ?_ ?_ ?_
  ·have hhd:=h.ok.O5 hb
   have:=h.ok.turn (j:=p.toNat) (b:=b) (hd:=Ar M b) (inn:=(A7 M p).inn) hjp hnx hhd
   rw[show ((p.toNat:Nat):Int)=p by omega] at this
   have he:M.heads.set b (Ar M b)=M.heads:=by
    rw[show Ar M b=M.heads[b] by simp[Ar,List.getD_eq_getElem?_getD,hb],List.set_getElem_self]
   rw[he] at this
   exact this
  ·intro x;unfold keyAt;rw[hsl];split
   ·rename_i e;rw[hsx x e]
   ·rfl
  ·intro x;rw[hsl];split
   ·rename_i e;rw[hsx x e]
   ·rfl
  ·intro x;rw[hsl];split
   ·rename_i e;rw[hsx x e]
   ·rfl
  ·intro x;rw[hsl];split
   ·rename_i e;rw[hsx x e]
   ·rfl
  ·show Path (M.slots.set p.toNat { A7 M p with next:=(A7 M a).next }) (Ar M b) (l' ++ [p] ++ l2) (-1 - (b:Int))
   rw[X5]
   refine⟨(A7 M a).next,?_,Lr (fun x hx=>nxt x (.inl (by rw[hl];simp[hx])) (fun e=>hpn2 (e ▸ hx))) hp2'⟩
   rw[Nj]
   refine⟨Qj (fun x hx=>nxt x (.inl (by rw[hl];simp[hx])) (fun e=>hpn (e ▸ hx))) hp1.1,hp1.2.1,?_⟩
   rw[Fa _ _ _ hjp]
  ·intro c hc hne
   exact Lr (fun x hx=>nxt x (.inr ⟨c,hc,hne,hx⟩) (fun e=>apart c hc hne p hpm (e ▸ hx))) (h.path hc)
end
section
def toF(f:Fr)(n:Int):Fr:={ f with pl:=n }
def curF(f:Fr)(c n:Int):Fr:={ f with cur:=c,pl:=n }
def Ci(f:Fr)(s n:Int):Fr:={ f with slot:=s,pl:=n }
def isAt(M:Mm)(f:Fr):Bool:=inB f.cur 1 M.slots.length
def lkK(s:Sl)(f:Fr):Bool:=s.a==f.c.a && s.b==f.c.b
def putN(M:Mm)(a:Int):Mm:=if Be M a=0 then M else putM M a
def canH(M:Mm)(a:Int):Bool:=decide (0<Be M a) && decide (Be M a<1000)
def holdN(M:Mm)(a:Int):Mm:=if canH M a then Z7 M a else M
def Cm(M:Mm)(f:Fr):Fr:=curF f (Ar M (bkOf M.heads.length f.c).toNat) 1
def N8(M:Mm)(f:Fr):Fr :=
 if f.cur=-1 - bkOf M.heads.length f.c then endF f 5
 else if isAt M f then toF f (if lkK (A7 M (f.cur - 1)) f then 3 else 2) else toF f 0
def Ed(M:Mm)(f:Fr):Fr:=if isAt M f then curF f (A7 M (f.cur - 1)).next 1 else toF f 0
def H6(M:Mm)(f:Fr):Fr:=if isAt M f && canH M (f.cur - 1) then Ci f (f.cur - 1) 4 else toF f 0
def I8(M:Mm)(f:Fr):Mm:=if isAt M f then holdN M (f.cur - 1) else M
def G8(M:Mm)(f:Fr):Fr :=
 if isSl M f.slot then
  (if lkK (A7 M f.slot) f && (A7 M f.slot).inn then (if M.now<(A7 M f.slot).unt then endF f 0 else toF f 6) else toF f 5)
 else toF f 0
def Cj(M:Mm)(f:Fr):Mm:=if isSl M f.slot then putN M f.slot else M
def Gx(M:Mm)(f:Fr):Fr:=if isSl M f.slot then Ci f (-1) 0 else toF f 0
def Ju(M:Mm)(f:Fr):Fr:=if isSl M f.slot then endF { f with slot:=-1 } 5 else toF f 0
def lkF(M:Mm)(f:Fr):Fr :=
 if f.pl=0 then Cm M f else if f.pl=1 then N8 M f else if f.pl=2 then Ed M f else if f.pl=3 then H6 M f
 else if f.pl=4 then G8 M f else if f.pl=5 then Gx M f else if f.pl=6 then Ju M f else toF f 0
def lkM(M:Mm)(f:Fr):Mm :=
 if f.pl=3 then I8 M f else if f.pl=5 then Cj M f else if f.pl=6 then Cj M f else M
structure Fit(M:Mm)(f:Fr):Prop where
 call:Dw M.slots.length M.heads.length f.c=0
 pl:0<=f.pl/\f.pl<=9
 n:inB f.n 0 1000000=true
 done:f.done=false
 cur:-(M.heads.length:Int)<=f.cur/\f.cur<=M.slots.length
 prev:0<=f.prev/\f.prev<=M.slots.length
 slot:-1<=f.slot/\f.slot<M.slots.length
 keys:f.keys.length<=100
theorem a4x{M:Mm}{f:Fr}:frE M.slots.length M.heads.length f=0 ↔ Fit M f:=by
 constructor
 ·intro h
  unfold frE at h
  by_cases h1:Dw M.slots.length M.heads.length f.c=0
  ·rw[if_neg (by simpa using h1)] at h
   by_cases h2:inB f.pl 0 9=false\/inB f.n 0 1000000=false\/f.done=true
   ·rw[if_pos h2] at h;omega
   ·rw[if_neg h2] at h
    by_cases h3:inB f.cur (-(M.heads.length:Int)) M.slots.length=false\/inB f.prev 0 M.slots.length=false\/inB f.slot (-1) ((M.slots.length:Int) - 1)=false
    ·rw[if_pos h3] at h;omega
    ·rw[if_neg h3] at h
     by_cases h4:100<f.keys.length
     ·rw[if_pos h4] at h;omega
     ·simp only[not_or,Bool.not_eq_false,Bool.not_eq_true,Ah] at h2 h3
      exact⟨h1,h2.1,(Ah _ _ _).2 h2.2.1,h2.2.2,h3.1,h3.2.1,⟨h3.2.2.1,by have:=h3.2.2.2;omega⟩,by omega⟩
  ·rw[if_pos h1] at h;exact absurd h h1
 ·rintro ⟨h1,h2,h3,h4,h5,h6,h7,h8⟩
  unfold frE
  rw[if_neg (by simpa using h1),if_neg,if_neg,if_neg (by omega)]
  ·simp only[not_or,Bool.not_eq_false,Ah]
   exact⟨h5,h6,h7.1,by omega⟩
  ·simp only[not_or,Bool.not_eq_false,Bool.not_eq_true]
   exact⟨(Ah _ _ _).2 h2,h3,h4⟩
theorem a0w{nS nH:Nat}{c:Cl}(hk:c.kind=1)(h:Dw nS nH c=0):keyB c.a c.b=true:=by
 unfold Dw at h
 rw[if_pos (.inl hk)] at h
 cases hb:keyB c.a c.b
 ·rw[hb] at h;simp at h
 ·rfl
theorem Du{M:Mm}{c:Cl}(hM:Ok M)(h:Dw M.slots.length M.heads.length c=0):0<=bkOf M.heads.length c/\bkOf M.heads.length c<M.heads.length:=by
 obtain⟨n1,n2⟩:=hM.nh
 by_cases hb:c.kind=4\/c.kind=5
 ·unfold Dw at h
  rw[if_neg (by omega),if_neg (by omega),if_pos hb] at h
  cases hi:inB c.bk 0 ((M.heads.length:Int) - 1)
  ·rw[hi] at h;simp at h
  ·rw[Ah] at hi
   unfold bkOf
   rw[if_pos hb]
   omega
 ·unfold bkOf
  rw[if_neg hb]
  by_cases hk:keyB c.a c.b=true
  ·rw[if_pos hk,if_pos ⟨n1,n2⟩]
   exact Nw c.a c.b n1
  ·rw[if_neg hk]
   omega
theorem Bg{M:Mm}{f:Fr}:isAt M f=true ↔ 1<=f.cur/\f.cur<=M.slots.length:=by unfold isAt;rw[Ah]
theorem Aq{M:Mm}{i:Int}:isSl M i=true ↔ 0<=i/\i<M.slots.length:=by
 unfold isSl
 rw[Ah]
 omega
theorem Q5{M:Mm}{i:Int}(h:isSl M i=true):A7 M i∈M.slots:=by
 obtain⟨j,rfl,hj⟩:=(Hg M i).1 h
 unfold A7
 rw[Int.toNat_natCast,getD_lt _ _ hj]
 exact List.getElem_mem hj
theorem L8{M:Mm}(hM:Ok M){i:Int}(h:isSl M i=true):0<=Be M i/\Be M i<=1000:=by
 have:=(Ej (hM.slot _ (Q5 h))).1
 rw[Ah] at this
 exact this
theorem L6{M:Mm}(hM:Ok M){i:Int}(h:isSl M i=true):-(M.heads.length:Int)<=(A7 M i).next/\(A7 M i).next<=M.slots.length:=by
 have:=(Ej (hM.slot _ (Q5 h))).2.2.2
 rwa [Ah] at this
theorem Le{M:Mm}{a:Int}:canH M a=true ↔ 0<Be M a/\Be M a<1000:=by simp[canH]
theorem a6u{M:Mm}(hM:Ok M){a:Int}(h:isSl M a=true):Ok (putN M a):=by
 unfold putN
 split
 ·exact hM
 ·have:=L8 hM h
  exact put_ok hM h (by omega) (by omega)
structure Like(M M':Mm):Prop where
 heads:M'.heads=M.heads
 locks:M'.locks=M.locks
 now:M'.now=M.now
 slots:M'.slots=M.slots\/∃ j r,j<M.slots.length/\M'.slots=M.slots.set j { M.slots.getD j sl0 with refs:=r }
theorem Like.refl(M:Mm):Like M M:=⟨rfl,rfl,rfl,.inl rfl⟩
theorem Like.len{M M':Mm}(h:Like M M'):M'.slots.length=M.slots.length:=by
 rcases h.slots with e|⟨j,r,_,e⟩ <;> rw[e]
 simp
theorem Xx{M:Mm}{i:Int}(h:isSl M i=true)(r:Int)(F:List Int):Like M { M with slots:=Dx M i r,free:=F }:=by
 obtain⟨j,rfl,hj⟩:=(Hg M i).1 h
 exact⟨rfl,rfl,rfl,.inr ⟨j,r,hj,by simp[Dx]⟩⟩
theorem a2h{M:Mm}{i:Int}(h:isSl M i=true):Like M (holdN M i):=by
 unfold holdN
 split
 ·exact Xx h _ _
 ·exact .refl M
theorem Y8{M:Mm}{i:Int}(h:isSl M i=true):Like M (putN M i):=by
 unfold putN
 split
 ·exact .refl M
 ·exact Xx h _ _
theorem Gl{M:Mm}{f:Fr}(h:isAt M f=true):isSl M (f.cur - 1)=true:=by
 rw[Bg] at h
 rw[Aq]
 omega
theorem Wv(M:Mm)(f:Fr):Like M (lkM M f):=by
 unfold lkM I8 Cj
 repeat' split
 ·exact a2h (Gl (by assumption))
 ·exact .refl M
 ·exact Y8 (by assumption)
 ·exact .refl M
 ·exact Y8 (by assumption)
 ·exact .refl M
 ·exact .refl M
theorem lkF_c(M:Mm)(f:Fr):(lkF M f).c=f.c:=by
 unfold lkF Cm N8 Ed H6 G8 Gx Ju
 repeat' split
 all_goals rfl
theorem Iy(M:Mm)(f:Fr):(lkF M f).keys=f.keys:=by
 unfold lkF Cm N8 Ed H6 G8 Gx Ju
 repeat' split
 all_goals rfl
theorem Fit.to{M:Mm}{f:Fr}(h:Fit M f){n:Int}(h1:0<=n/\n<=9):Fit M (toF f n):=⟨h.call,h1,h.n,h.done,h.cur,h.prev,h.slot,h.keys⟩
theorem Fit.curTo{M:Mm}{f:Fr}(h:Fit M f){c n:Int}(h1:0<=n/\n<=9)(h2:-(M.heads.length:Int)<=c/\c<=M.slots.length):Fit M (curF f c n):=⟨h.call,h1,h.n,h.done,h2,h.prev,h.slot,h.keys⟩
theorem Fit.a5e{M:Mm}{f:Fr}(h:Fit M f){s n:Int}(h1:0<=n/\n<=9)(h2:-1<=s/\s<M.slots.length):Fit M (Ci f s n):=⟨h.call,h1,h.n,h.done,h.cur,h.prev,h2,h.keys⟩
theorem Fit.like{M M':Mm}{f:Fr}(h:Fit M f)(hl:Like M M'):Fit M' f:=by
 have e1:=hl.len
 have e2:=hl.heads
 refine⟨?_,h.pl,h.n,h.done,?_,?_,?_,h.keys⟩
 ·rw[e1,e2];exact h.call
 ·rw[e1,e2];exact h.cur
 ·rw[e1];exact h.prev
 ·rw[e1];exact h.slot
theorem lkF_fit{M:Mm}{f:Fr}(hM:Ok M)(h:Fit M f)(hd:(lkF M f).done=false):Fit (lkM M f) (lkF M f):=by
 refine Fit.like ?_ (Wv M f)
 revert hd
 unfold lkF Cm N8 Ed H6 G8 Gx Ju
 have hb:=Du hM h.call
 repeat' split
 all_goals intro hd
 all_goals first
  | (cases hd;done)
  | exact h.to (by omega)
  | exact h.a5e (by omega) (by omega)
  | skip
 ·refine h.curTo (by omega) ?_
  have hh:=(hM.O5 (b:=(bkOf M.heads.length f.c).toNat) (by omega)).2
  rwa [Ah] at hh
 ·rename_i ha
  exact h.curTo (by omega) (L6 hM (Gl ha))
 ·rename_i ha
  simp only[Bool.and_eq_true] at ha
  have:=Aq.1 (Gl ha.1)
  exact h.a5e (by omega) (by omega)
end
section
def dif(l1 l2:List Sl):Nat->Nat
 | 0=>0
 | k+1=>dif l1 l2 k+if slEq (l1.getD k sl0) (l2.getD k sl0) then 0 else 1
theorem Qq(l:List Sl):∀ k,dif l l k=0
 | 0=>rfl
 | k+1=>by
  unfold dif
  rw[Qq l k,Yd]
  rfl
theorem getD_set_ne(l:List Sl){j k:Nat}(x:Sl)(h:j≠k):(l.set j x).getD k sl0=l.getD k sl0:=by
 rw[List.getD_eq_getElem?_getD,List.getD_eq_getElem?_getD,List.getElem?_set_ne h]
theorem a4o(l:List Sl)(j:Nat)(x:Sl):∀ k,dif l (l.set j x) k<=if j<k then 1 else 0
 | 0=>by simp[dif]
 | k+1=>by
  have ih:=a4o l j x k
  unfold dif
  by_cases e:j=k
  ·subst e
   rw[if_neg (Nat.lt_irrefl _)] at ih
   rw[if_pos (Nat.lt_succ_self _)]
   split <;> omega
  ·rw[getD_set_ne l x e,Yd]
   simp only[if_true,Nat.add_zero]
   by_cases h:j<k
   ·rw[if_pos h] at ih;rw[if_pos (by omega)];exact ih
   ·rw[if_neg h] at ih;omega
end
section
def Aj(M:Mm)(b:Nat):Int:=M.locks.getD b 0
def Fq(M:Mm)(b:Nat)(t:Int):Mm:={ M with locks:=M.locks.set b t }
def J7(M:Mm)(a:Int)(b:Nat):Mm:={ M with slots:=M.slots.set a.toNat { A7 M a with next:=Ar M b,inn:=true },heads:=M.heads.set b (a+1) }
def bkN(M:Mm)(f:Fr):Nat:=(bkOf M.heads.length f.c).toNat
def untA(M:Mm)(f:Fr):Int:=if 2000000<M.now+f.c.time then 2000000 else M.now+f.c.time
def Az(f:Fr):Fr:={ f with e:=8,pl:=7 }
def Hw(M:Mm)(f:Fr):Fr:=if M.free.length=0 then endF f 7 else Ci f (Em M) 1
def Gu(M:Mm)(f:Fr):Mm:=if M.free.length=0 then M else Ik M f.c.a f.c.b (untA M f)
def Jr(M:Mm)(f:Fr):Fr:=if Aj M (bkN M f)=-1 then toF f 2 else f
def Cf(M:Mm)(f:Fr)(t:Int):Mm:=if Aj M (bkN M f)=-1 then Fq M (bkN M f) t else M
def Nu(M:Mm)(f:Fr):Fr:=if isAt M f then toF f (if lkK (A7 M (f.cur - 1)) f then 6 else 4) else toF f 5
def Ip(M:Mm)(f:Fr):Fr:=if isAt M f then curF f (A7 M (f.cur - 1)).next 3 else Az f
def Io(M:Mm)(f:Fr):Fr:=if isSl M f.slot then { f with e:=0,pl:=7 } else Az f
def Gt(M:Mm)(f:Fr):Mm:=if isSl M f.slot then J7 M f.slot (bkN M f) else M
def Nr(M:Mm)(f:Fr):Fr:=if isSl M f.slot then { f with slot:=-1,e:=6,pl:=7 } else Az f
def Ns(M:Mm)(f:Fr):Mm:=if isSl M f.slot then putN M f.slot else M
def D6(M:Mm)(f:Fr)(t:Int):Mm:=if Aj M (bkN M f)=t then Fq M (bkN M f) (-1) else M
def adF(M:Mm)(f:Fr):Fr :=
 if f.pl=0 then Hw M f else if f.pl=1 then Jr M f else if f.pl=2 then curF f (Ar M (bkN M f)) 3 else if f.pl=3 then Nu M f
 else if f.pl=4 then Ip M f else if f.pl=5 then Io M f else if f.pl=6 then Nr M f else if f.pl=7 then endF f f.e else Az f
def adM(t:Int)(M:Mm)(f:Fr):Mm :=
 if f.pl=0 then Gu M f else if f.pl=1 then Cf M f t else if f.pl=5 then Gt M f else if f.pl=6 then Ns M f else if f.pl=7 then D6 M f t else M
theorem adF0{M:Mm}{f:Fr}(h:f.pl=0):adF M f=Hw M f:=by unfold adF;rw[if_pos h]
theorem adF1{M:Mm}{f:Fr}(h:f.pl=1):adF M f=Jr M f:=by unfold adF;rw[if_neg (by omega),if_pos h]
theorem adF2{M:Mm}{f:Fr}(h:f.pl=2):adF M f=curF f (Ar M (bkN M f)) 3:=by unfold adF;rw[if_neg (by omega),if_neg (by omega),if_pos h]
theorem adF3{M:Mm}{f:Fr}(h:f.pl=3):adF M f=Nu M f:=by unfold adF;rw[if_neg (by omega),if_neg (by omega),if_neg (by omega),if_pos h]
theorem adF4{M:Mm}{f:Fr}(h:f.pl=4):adF M f=Ip M f:=by unfold adF;rw[if_neg (by omega),if_neg (by omega),if_neg (by omega),if_neg (by omega),if_pos h]
theorem adF5{M:Mm}{f:Fr}(h:f.pl=5):adF M f=Io M f:=by unfold adF;rw[if_neg (by omega),if_neg (by omega),if_neg (by omega),if_neg (by omega),if_neg (by omega),if_pos h]
theorem adF6{M:Mm}{f:Fr}(h:f.pl=6):adF M f=Nr M f:=by unfold adF;rw[if_neg (by omega),if_neg (by omega),if_neg (by omega),if_neg (by omega),if_neg (by omega),if_neg (by omega),if_pos h]
theorem adF7{M:Mm}{f:Fr}(h:f.pl=7):adF M f=endF f f.e:=by unfold adF;rw[if_neg (by omega),if_neg (by omega),if_neg (by omega),if_neg (by omega),if_neg (by omega),if_neg (by omega),if_neg (by omega),if_pos h]
theorem adF8{M:Mm}{f:Fr}(h:8<=f.pl):adF M f=Az f:=by unfold adF;rw[if_neg (by omega),if_neg (by omega),if_neg (by omega),if_neg (by omega),if_neg (by omega),if_neg (by omega),if_neg (by omega),if_neg (by omega)]
theorem adM0{M:Mm}{f:Fr}{t:Int}(h:f.pl=0):adM t M f=Gu M f:=by unfold adM;rw[if_pos h]
theorem adM1{M:Mm}{f:Fr}{t:Int}(h:f.pl=1):adM t M f=Cf M f t:=by unfold adM;rw[if_neg (by omega),if_pos h]
theorem adM5{M:Mm}{f:Fr}{t:Int}(h:f.pl=5):adM t M f=Gt M f:=by unfold adM;rw[if_neg (by omega),if_neg (by omega),if_pos h]
theorem adM6{M:Mm}{f:Fr}{t:Int}(h:f.pl=6):adM t M f=Ns M f:=by unfold adM;rw[if_neg (by omega),if_neg (by omega),if_neg (by omega),if_pos h]
theorem adM7{M:Mm}{f:Fr}{t:Int}(h:f.pl=7):adM t M f=D6 M f t:=by unfold adM;rw[if_neg (by omega),if_neg (by omega),if_neg (by omega),if_neg (by omega),if_pos h]
theorem Gp{M:Mm}{f:Fr}{t:Int}(h:f.pl≠0/\f.pl≠1/\f.pl≠5/\f.pl≠6/\f.pl≠7):adM t M f=M:=by unfold adM;rw[if_neg h.1,if_neg h.2.1,if_neg h.2.2.1,if_neg h.2.2.2.1,if_neg h.2.2.2.2]
theorem adF_c(M:Mm)(f:Fr):(adF M f).c=f.c:=by
 unfold adF Hw Jr Nu Ip Io Nr
 repeat' split
 all_goals rfl
theorem Il(M:Mm)(f:Fr):(adF M f).keys=f.keys:=by
 unfold adF Hw Jr Nu Ip Io Nr
 repeat' split
 all_goals rfl
theorem P6{nS nH:Nat}{c:Cl}(hk:c.kind=2)(h:Dw nS nH c=0):keyB c.a c.b=true/\1<=c.time/\c.time<=1000000:=by
 obtain⟨k,a,b,t,bk,sl⟩:=c
 have hk':k=2:=hk
 subst hk'
 rw[Xd] at h
 cases hb:inB t 1 1000000 && keyB a b
 ·rw[hb] at h;simp at h
 ·simp only[Bool.and_eq_true,Ah] at hb
  exact⟨hb.2,hb.1⟩
theorem Zp{M:Mm}{f:Fr}(hM:Ok M)(h1:1<=f.c.time):inB (untA M f) 0 2000000=true:=by
 have:=hM.now
 rw[Ah]
 unfold untA
 split <;> omega
structure Near(M M':Mm)(b:Nat):Prop where
 now:M'.now=M.now
 ns:M'.slots.length=M.slots.length
 nh:M'.heads.length=M.heads.length
 nl:M'.locks.length=M.locks.length
 heads:∀ i,i≠b->M'.heads[i]?=M.heads[i]?
 locks:∀ i,i≠b->M'.locks[i]?=M.locks[i]?
 dif:∀ k,dif M.slots M'.slots k<=1
 free:M'.free.length<=M.free.length+1/\M.free.length<=M'.free.length+1
theorem Near.refl(M:Mm)(b:Nat):Near M M b:=⟨rfl,rfl,rfl,rfl,fun _ _=>rfl,fun _ _=>rfl,(fun k=>by rw[Qq];omega),by omega⟩
theorem Qr(l:List Sl)(j:Nat)(x:Sl)(k:Nat):dif l (l.set j x) k<=1:=by
 have:=a4o l j x k
 split at this <;> omega
theorem a7q(M:Mm)(b:Nat)(ka kb u:Int):Near M (Ik M ka kb u) b :=
 ⟨rfl,by simp[Ik],rfl,rfl,fun _ _=>rfl,fun _ _=>rfl,(fun k=>Qr _ _ _ k),by simp[Ik];omega⟩
theorem Tt(M:Mm)(b:Nat)(t:Int):Near M (Fq M b t) b :=
 ⟨rfl,rfl,rfl,by simp[Fq],fun _ _=>rfl,(fun i hi=>by simp only[Fq];rw[List.getElem?_set_ne (by omega)]),(fun k=>by show dif M.slots M.slots k<=1;rw[Qq];omega),by simp[Fq]⟩
theorem a5u(M:Mm)(a:Int)(b:Nat):Near M (J7 M a b) b :=
 ⟨rfl,by simp[J7],by simp[J7],rfl,(fun i hi=>by simp only[J7];rw[List.getElem?_set_ne (by omega)]),fun _ _=>rfl,(fun k=>Qr _ _ _ k),by simp[J7]⟩
theorem U5(M:Mm)(a:Int)(b:Nat):Near M (putN M a) b:=by
 unfold putN
 split
 ·exact .refl M b
 ·refine⟨rfl,by simp[putM,Dx],rfl,rfl,fun _ _=>rfl,fun _ _=>rfl,(fun k=>Qr _ _ _ k),?_⟩
  unfold putM
  dsimp only
  split
  ·simp only[List.length_append,List.length_cons,List.length_nil];omega
  ·omega
theorem adM_near(t:Int)(M:Mm)(f:Fr):Near M (adM t M f) (bkN M f):=by
 unfold adM Gu Cf Gt Ns D6
 repeat' split
 all_goals first
  | exact .refl _ _
  | exact a7q _ _ _ _ _
  | exact Tt _ _ _
  | exact a5u _ _ _
  | exact U5 _ _ _
theorem Fit.near{M M':Mm}{f:Fr}{b:Nat}(h:Fit M f)(hl:Near M M' b):Fit M' f:=by
 have e1:=hl.ns
 have e2:=hl.nh
 refine⟨?_,h.pl,h.n,h.done,?_,?_,?_,h.keys⟩
 ·rw[e1,e2];exact h.call
 ·rw[e1,e2];exact h.cur
 ·rw[e1];exact h.prev
 ·rw[e1];exact h.slot
theorem Fit.late{M:Mm}{f:Fr}(h:Fit M f):Fit M (Az f):=⟨h.call,by simp[Az],h.n,h.done,h.cur,h.prev,h.slot,h.keys⟩
theorem adF_fit{M:Mm}{f:Fr}(t:Int)(hM:Ok M)(h:Fit M f)(hd:(adF M f).done=false):Fit (adM t M f) (adF M f):=by
 refine Fit.near ?_ (adM_near t M f)
 revert hd
 unfold adF Hw Jr Nu Ip Io Nr
 have hb:=Du hM h.call
 repeat' split
 all_goals intro hd
 all_goals first
  | (cases hd;done)
  | exact h.late
  | exact h
  | exact h.to (by omega)
  | skip
 ·rename_i hf
  have:=Ws hM (by omega)
  exact h.a5e (by omega) (by omega)
 ·refine h.curTo (by omega) ?_
  have hh:=(hM.O5 (b:=bkN M f) (by unfold bkN;omega)).2
  rwa [Ah] at hh
 ·rename_i ha
  exact h.curTo (by omega) (L6 hM (Gl ha))
 ·exact⟨h.call,by simp,h.n,h.done,h.cur,h.prev,h.slot,h.keys⟩
 ·exact⟨h.call,by simp,h.n,h.done,h.cur,h.prev,by constructor <;> simp <;> omega,h.keys⟩
theorem lock_ok{M:Mm}(h:Ok M)(b:Nat){t:Int}(ht:-1<=t/\t<=4):Ok (Fq M b t):=by
 refine⟨h.ns,h.nh,by simp[Fq,h.nl],h.now,h.slot,?_,h.free,h.nodup,h.all⟩
 intro p hp
 simp only[Fq] at hp ⊢
 obtain⟨i,hi,e⟩:=List.getElem_of_mem hp
 rw[List.getElem_zip] at e
 have hi':i<M.heads.length/\i<M.locks.length:=by simp at hi;omega
 have h0:=h.chain (M.heads[i]'hi'.1,M.locks[i]'hi'.2) (by
  rw[<- List.getElem_zip (h:=by simp;omega)]
  exact List.getElem_mem _)
 subst e
 unfold Dz at h0 ⊢
 dsimp only at h0 ⊢
 by_cases hc:M.heads[i]'hi'.1≠0/\inB (M.heads[i]'hi'.1) (-(M.heads.length:Int)) M.slots.length
 ·rw[if_pos hc] at h0 ⊢
  rw[if_pos]
  rw[List.getElem_set]
  split
  ·rw[Ah];exact ht
  ·by_cases hl:inB (M.locks[i]'hi'.2) (-1) 4=true
   ·exact hl
   ·rw[if_neg hl] at h0;omega
 ·rw[if_neg hc] at h0;omega
end
section
theorem lkF0{M:Mm}{f:Fr}(h:f.pl=0):lkF M f=Cm M f:=by unfold lkF;rw[if_pos h]
theorem lkF1{M:Mm}{f:Fr}(h:f.pl=1):lkF M f=N8 M f:=by unfold lkF;rw[if_neg (by omega),if_pos h]
theorem lkF2{M:Mm}{f:Fr}(h:f.pl=2):lkF M f=Ed M f:=by unfold lkF;rw[if_neg (by omega),if_neg (by omega),if_pos h]
theorem lkF3{M:Mm}{f:Fr}(h:f.pl=3):lkF M f=H6 M f:=by unfold lkF;rw[if_neg (by omega),if_neg (by omega),if_neg (by omega),if_pos h]
theorem lkF4{M:Mm}{f:Fr}(h:f.pl=4):lkF M f=G8 M f:=by unfold lkF;rw[if_neg (by omega),if_neg (by omega),if_neg (by omega),if_neg (by omega),if_pos h]
theorem lkF5{M:Mm}{f:Fr}(h:f.pl=5):lkF M f=Gx M f:=by unfold lkF;rw[if_neg (by omega),if_neg (by omega),if_neg (by omega),if_neg (by omega),if_neg (by omega),if_pos h]
theorem lkF6{M:Mm}{f:Fr}(h:f.pl=6):lkF M f=Ju M f:=by unfold lkF;rw[if_neg (by omega),if_neg (by omega),if_neg (by omega),if_neg (by omega),if_neg (by omega),if_neg (by omega),if_pos h]
theorem lkF7{M:Mm}{f:Fr}(h:7<=f.pl):lkF M f=toF f 0:=by unfold lkF;rw[if_neg (by omega),if_neg (by omega),if_neg (by omega),if_neg (by omega),if_neg (by omega),if_neg (by omega),if_neg (by omega)]
theorem Dq{M:Mm}{f:Fr}(h:f.pl≠3/\f.pl≠5/\f.pl≠6):lkM M f=M:=by unfold lkM;rw[if_neg h.1,if_neg h.2.1,if_neg h.2.2]
theorem lkM3{M:Mm}{f:Fr}(h:f.pl=3):lkM M f=I8 M f:=by unfold lkM;rw[if_pos h]
theorem lkM5{M:Mm}{f:Fr}(h:f.pl=5):lkM M f=Cj M f:=by unfold lkM;rw[if_neg (by omega),if_pos h]
theorem lkM6{M:Mm}{f:Fr}(h:f.pl=6):lkM M f=Cj M f:=by unfold lkM;rw[if_neg (by omega),if_neg (by omega),if_pos h]
end
end Go.Proofs.YthhgoenomehobaaGreat.mm
