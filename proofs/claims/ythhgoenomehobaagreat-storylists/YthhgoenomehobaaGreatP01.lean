/- Parts. -/
namespace Go.Proofs.YthhgoenomehobaaGreat.mm
set_option maxRecDepth 100000
set_option linter.unusedVariables false
section
structure Sl where
 refs:Int
 a:Int
 b:Int
 unt:Int
 inn:Bool
 next:Int
structure Mm where
 slots:List Sl
 heads:List Int
 free:List Int
 locks:List Int
 now:Int
def sl0:Sl:=⟨0,0,0,0,false,0⟩
def m0:Mm:=⟨[],[],[],[],0⟩
def slEq(x y:Sl):Bool:=x.refs==y.refs && (x.a==y.a && (x.b==y.b && (x.unt==y.unt && (x.inn==y.inn && x.next==y.next))))
theorem Uu(x y:Sl):slEq x y=true ↔ x=y:=by
 cases x;cases y;simp[slEq]
theorem Qz(x:Sl):slEq x x=true:=(Uu x x).2 rfl
def inB(x lo hi:Int):Bool:=decide (lo<=x) && decide (x<=hi)
theorem Ag(x lo hi:Int):inB x lo hi=true ↔ lo<=x/\x<=hi:=by simp[inB]
def keyB(a b:Int):Bool:=inB a 0 15 && inB b 0 15
theorem P9(a b:Int):keyB a b=true ↔ (0<=a/\a<=15)/\(0<=b/\b<=15):=by simp[keyB,inB]
def Ea(nh ns:Nat)(s:Sl):Int :=
 if inB s.refs 0 1000 && inB s.unt 0 2000000 && keyB s.a s.b then (if inB s.next (-(nh:Int)) ns then 0 else 5) else 3
def Dp(nh ns:Nat)(p:Int × Int):Int :=
 if p.1≠0/\inB p.1 (-(nh:Int)) ns then (if inB p.2 (-1) 4 then 0 else 3) else 5
def Ak{α:Type}(f:α->Int):List α->Int
 | []=>0
 | x :: l=>if f x≠0 then f x else Ak f l
theorem Iq{α:Type}(f:α->Int)(l:List α)(k:Nat)(h:k<l.length) :
  Ak f (l.drop k)=if f l[k] ≠ 0 then f l[k] else Ak f (l.drop (k+1)):=by
 rw[List.drop_eq_getElem_cons h];rfl
theorem O1{α:Type}(f:α->Int)(l:List α)(k:Nat)(h:l.length<=k):Ak f (l.drop k)=0:=by
 rw[List.drop_of_length_le h];rfl
theorem Ff{α:Type}(f:α->Int)(l:List α):Ak f l=0 ↔ ∀ x∈l,f x=0:=by
 induction l with
 | nil=>simp[Ak]
 | cons x l ih =>
  simp only[Ak,List.mem_cons,forall_eq_or_imp]
  by_cases h:f x=0
  ·simp[h,ih]
  ·simp[h]
def hasB(l:List Int)(x:Int):Bool:=l.contains x
theorem Jv(l:List Int)(x:Int):hasB l x=true ↔ x∈l:=by simp[hasB]
theorem Yg(l:List Int)(x:Int):hasB l x=false ↔ ¬ x∈l:=by simp[hasB]
def Gy(S:List Sl)(a:Int):Bool:=decide (0<=a) && (decide (a<S.length) && decide ((S.getD a.toNat sl0).refs=0))
theorem Dh(S:List Sl)(a:Int):Gy S a=true ↔ 0<=a/\a<S.length/\(S.getD a.toNat sl0).refs=0:=by simp[Gy]
def Bl(S:List Sl):List Int->List Int->Int
 | _,[]=>0
 | pre,a :: l=>if Gy S a then (if hasB pre a then 6 else Bl S (pre ++ [a]) l) else 5
def D7(F:List Int):Nat->List Sl->Int
 | _,[]=>0
 | i,s :: l=>if s.refs==0 && !hasB F (i:Int) then 4 else D7 F (i+1) l
theorem Jk(S:List Sl)(l:List Int)(k:Nat)(h:k<l.length) :
  Bl S (l.take k) (l.drop k)=if Gy S l[k] then (if hasB (l.take k) l[k] then 6 else Bl S (l.take (k+1)) (l.drop (k+1))) else 5:=by
 rw[List.drop_eq_getElem_cons h,List.take_succ_eq_append_getElem h];rfl
theorem Xe(S:List Sl)(l:List Int)(k:Nat)(h:l.length<=k):Bl S (l.take k) (l.drop k)=0:=by
 rw[List.drop_of_length_le h];rfl
theorem Oi(F:List Int)(S:List Sl)(k:Nat)(h:k<S.length) :
  D7 F k (S.drop k)=if S[k].refs==0 && !hasB F (k:Int) then 4 else D7 F (k+1) (S.drop (k+1)):=by
 rw[List.drop_eq_getElem_cons h];rfl
theorem Xj(F:List Int)(S:List Sl)(k:Nat)(h:S.length<=k):D7 F k (S.drop k)=0:=by
 rw[List.drop_of_length_le h];rfl
def chk(m:Mm):Int :=
 if 12<m.slots.length\/m.heads.length<1\/4<m.heads.length then 2
 else if m.locks.length≠m.heads.length then 4
 else if inB m.now 0 1000000=false then 3
 else if Ak (Ea m.heads.length m.slots.length) m.slots≠0 then Ak (Ea m.heads.length m.slots.length) m.slots
 else if Ak (Dp m.heads.length m.slots.length) (m.heads.zip m.locks)≠0 then Ak (Dp m.heads.length m.slots.length) (m.heads.zip m.locks)
 else if Bl m.slots [] m.free≠0 then Bl m.slots [] m.free
 else D7 m.free 0 m.slots
structure Ok(m:Mm):Prop where
 ns:m.slots.length<=12
 nh:1<=m.heads.length/\m.heads.length<=4
 nl:m.locks.length=m.heads.length
 now:0<=m.now/\m.now<=1000000
 slot:∀ s∈m.slots,Ea m.heads.length m.slots.length s=0
 chain:∀ p∈m.heads.zip m.locks,Dp m.heads.length m.slots.length p=0
 free:∀ a∈m.free,Gy m.slots a=true
 nodup:m.free.Nodup
 all:∀ i,i<m.slots.length->(m.slots.getD i sl0).refs=0->(i:Int)∈m.free
theorem Og(S:List Sl)(pre l:List Int)(hp:pre.Nodup):Bl S pre l=0 ↔ (∀ a∈l,Gy S a=true)/\(pre++l).Nodup:=by
 induction l generalizing pre with
 | nil=>simp[Bl,hp]
 | cons a l ih =>
  simp only[Bl,List.mem_cons,forall_eq_or_imp]
  by_cases h1:Gy S a=true
  ·by_cases h2:a∈pre
   ·simp[h1,h2,Jv,List.nodup_append]
    intro _ _ _ _
    exact⟨a,h2,fun h=>absurd rfl h⟩
   ·have hp':(pre ++ [a]).Nodup:=by
     rw[List.nodup_append];simp[hp]
     intro x hx e;subst e;exact h2 hx
    have:=ih (pre ++ [a]) hp'
    rw[List.append_assoc] at this
    simp only[h1,h2,Jv,if_true,if_false,true_and]
    exact this
  ·simp[h1]
theorem Oj(F:List Int)(S:List Sl)(k:Nat):D7 F k S=0 ↔ ∀ i,i<S.length->(S.getD i sl0).refs=0->((k+i:Nat):Int)∈F:=by
 induction S generalizing k with
 | nil=>simp[D7]
 | cons s l ih =>
  simp only[D7]
  by_cases h:s.refs==0 && !hasB F (k:Int)
  ·rw[if_pos h]
   simp only[Bool.and_eq_true,beq_iff_eq,Bool.not_eq_true'] at h
   constructor
   ·intro e;omega
   ·intro hh
    have:=hh 0 (by simp) (by simpa using h.1)
    simp only[Nat.add_zero] at this
    rw[<- Jv] at this
    rw[this] at h;simp at h
  ·rw[if_neg h,ih]
   constructor
   ·intro hh i hi hr
    match i with
    | 0 =>
     simp at hr
     simp[hr,Jv] at h
     simpa using h
    | i+1 =>
     have:=hh i (by simp at hi;omega) (by simpa using hr)
     rwa [show k+1+i=k+(i+1) by omega] at this
   ·intro hh i hi hr
    have:=hh (i+1) (by simp;omega) (by simpa using hr)
    rwa [show k+(i+1)=k+1+i by omega] at this
theorem G9(m:Mm):chk m=0 ↔ Ok m:=by
 unfold chk
 constructor
 ·intro h
  split at h
  ·omega
  split at h
  ·omega
  split at h
  ·omega
  split at h
  ·omega
  split at h
  ·omega
  split at h
  ·omega
  rename_i h1 h2 h3 h4 h5 h6
  have h3':inB m.now 0 1000000=true:=by simpa using h3
  simp only[ne_eq,Decidable.not_not] at h4 h5 h6 h2
  have hf:=(Og m.slots [] m.free List.nodup_nil).1 h6
  have hl:=(Oj m.free m.slots 0).1 h
  refine⟨by omega,by omega,h2,(Ag _ _ _).1 h3',(Ff _ _).1 h4,(Ff _ _).1 h5,hf.1,by simpa using hf.2,?_⟩
  intro i hi hr
  have:=hl i hi hr
  simpa using this
 ·intro h
  rw[if_neg (by have:=h.ns;have:=h.nh;omega),if_neg (by simpa using h.nl),if_neg (by rw[(Ag _ _ _).2 h.now];simp),
   if_neg (by simpa using (Ff _ _).2 h.slot),if_neg (by simpa using (Ff _ _).2 h.chain),
   if_neg (by simpa using (Og m.slots [] m.free List.nodup_nil).2 ⟨h.free,by simpa using h.nodup⟩)]
  exact(Oj m.free m.slots 0).2 fun i hi hr=>by simpa using h.all i hi hr
def Eb(m:Mm):Int:=m.free.getD (m.free.length - 1) 0
def Ie(m:Mm)(ka kb u:Int):Mm :=
 { m with slots:=m.slots.set (Eb m).toNat ⟨1,ka,kb,u,false,(m.slots.getD (Eb m).toNat sl0).next⟩,free:=m.free.take (m.free.length - 1) }
def Bd(m:Mm)(i:Int):Int:=(m.slots.getD i.toNat sl0).refs
def Dx(m:Mm)(i r:Int):List Sl:=m.slots.set i.toNat { m.slots.getD i.toNat sl0 with refs:=r }
def Zm(m:Mm)(i:Int):Mm:={ m with slots:=Dx m i (Bd m i+1) }
def putM(m:Mm)(i:Int):Mm:={ m with slots:=Dx m i (Bd m i - 1),free:=if Bd m i=1 then m.free ++ [i] else m.free }
def isSl(m:Mm)(i:Int):Bool:=inB i 0 ((m.slots.length:Int) - 1)
def U5(m:Mm)(ka kb u:Int):Int :=
 if chk m≠0 then chk m else if keyB ka kb=false then 3 else if inB u 0 2000000=false then 3 else if m.free.length=0 then 7 else 0
def Om(m:Mm)(ka kb u:Int):Mm:=if U5 m ka kb u=0 then Ie m ka kb u else m0
def Yy(m:Mm)(ka kb u:Int):Int:=if U5 m ka kb u=0 then Eb m else 0
def letE(m:Mm)(i:Int):Int :=
 if chk m≠0 then chk m else if isSl m i=false then 5 else if Bd m i=0 then 8 else 0
def letM(m:Mm)(i:Int):Mm:=if letE m i=0 then putM m i else m0
def newM(many buckets:Nat):Mm :=
 { slots:=List.replicate many sl0,heads:=(List.range buckets).map fun (b:Nat)=>-1 - (b:Int),free:=(List.range many).map fun (a:Nat)=>(many:Int) - 1 - (a:Int),locks:=List.replicate buckets (-1),now:=0 }
def newE(many buckets:Int):Int:=if inB many 0 12 && inB buckets 1 4 then 0 else 3
end
section
theorem getD_lt(S:List Sl)(j:Nat)(h:j<S.length):S.getD j sl0=S[j]:=by simp[List.getD_eq_getElem?_getD,h]
theorem En(S:List Sl)(j:Nat)(s:Sl)(h:j<S.length):(S.set j s).getD j sl0=s:=by simp[List.getD_eq_getElem?_getD,h]
theorem D8(S:List Sl)(i j:Nat)(s:Sl)(h:j≠i):(S.set j s).getD i sl0=S.getD i sl0:=by simp[List.getD_eq_getElem?_getD,List.getElem?_set_ne h]
theorem Ok.set{m:Mm}(h:Ok m)(j:Nat)(s:Sl)(hs:Ea m.heads.length m.slots.length s=0)(F:List Int)(h1:∀ a∈F,Gy (m.slots.set j s) a=true)(h2:F.Nodup)
  (h3:∀ i,i<m.slots.length->((m.slots.set j s).getD i sl0).refs=0->(i:Int)∈F):Ok { m with slots:=m.slots.set j s,free:=F }:=by
 refine⟨by simpa using h.ns,h.nh,h.nl,h.now,?_,?_,h1,h2,?_⟩
 ·intro x hx
  dsimp only at hx ⊢
  rw[List.length_set]
  rcases List.mem_or_eq_of_mem_set hx with hx|rfl
  ·exact h.slot x hx
  ·exact hs
 ·intro p hp
  dsimp only at hp ⊢
  rw[List.length_set]
  exact h.chain p hp
 ·intro i hi hr
  exact h3 i (by simpa using hi) hr
theorem Eg{nh ns:Nat}{s:Sl}(h:Ea nh ns s=0):inB s.refs 0 1000=true/\inB s.unt 0 2000000=true/\keyB s.a s.b=true/\inB s.next (-(nh:Int)) ns=true:=by
 unfold Ea at h
 split at h
 ·rename_i h1
  split at h
  ·rename_i h2
   simp only[Bool.and_eq_true] at h1
   exact⟨h1.1.1,h1.1.2,h1.2,h2⟩
  ·omega
 ·omega
theorem Lm{nh ns:Nat}{s:Sl}(h1:inB s.refs 0 1000=true)(h2:inB s.unt 0 2000000=true)(h3:keyB s.a s.b=true)(h4:inB s.next (-(nh:Int)) ns=true):Ea nh ns s=0:=by
 simp[Ea,h1,h2,h3,h4]
theorem Tj{m:Mm}(hF:0<m.free.length):m.free=m.free.take (m.free.length - 1) ++ [Eb m]:=by
 have hl:Eb m=m.free[m.free.length - 1]:=by
  have:m.free.length - 1<m.free.length:=by omega
  simp[Eb,List.getD_eq_getElem?_getD,this]
 rw[hl]
 have:=List.take_succ_eq_append_getElem (l:=m.free) (i:=m.free.length - 1) (by omega)
 rw[<- this,show m.free.length - 1+1=m.free.length by omega,List.take_length]
theorem Un{m:Mm}(h:Ok m)(hF:0<m.free.length):0<=Eb m/\Eb m<m.slots.length/\Bd m (Eb m)=0:=by
 have hm:Eb m∈m.free:=by rw[Tj hF];simp
 exact(Dh _ _).1 (h.free _ hm)
theorem take_ok{m:Mm}(h:Ok m){ka kb u:Int}(hk:keyB ka kb=true)(hu:inB u 0 2000000=true)(hF:0<m.free.length):Ok (Ie m ka kb u):=by
 obtain⟨l0,l1,l2⟩:=Un h hF
 obtain⟨j,hj⟩:∃ j:Nat,Eb m=j:=⟨(Eb m).toNat,by omega⟩
 have hsp:=Tj hF
 have hnd:=h.nodup
 rw[hsp,List.nodup_append] at hnd
 have hjS:j<m.slots.length:=by omega
 unfold Ie
 rw[hj] at *
 rw[Int.toNat_natCast]
 have hgood:=Eg (h.slot _ (List.getElem_mem hjS))
 refine h.set j _ (Lm rfl hu hk ?_) _ ?_ hnd.1 ?_
 ·rw[getD_lt _ _ hjS];exact hgood.2.2.2
 ·intro a ha
  have hne:a≠j:=hnd.2.2 a ha j (by simp)
  have hf:=(Dh _ _).1 (h.free a (List.mem_of_mem_take ha))
  rw[Dh]
  refine⟨hf.1,by simpa using hf.2.1,?_⟩
  rw[D8 _ _ _ _ (by omega)]
  exact hf.2.2
 ·intro i hi hr
  by_cases e:j=i
  ·subst e
   rw[En _ _ _ hjS] at hr
   simp at hr
  ·rw[D8 _ _ _ _ e] at hr
   have:=h.all i hi hr
   rw[hsp,List.mem_append,List.mem_singleton] at this
   rcases this with h|h
   ·exact h
   ·omega
theorem a4g{m:Mm}{i:Nat}(h:i<m.slots.length):Bd m i=m.slots[i].refs:=by simp[Bd,List.getD_eq_getElem?_getD,h]
theorem U1{m:Mm}{j:Nat}(h:j<m.slots.length)(r:Int):Dx m j r=m.slots.set j { m.slots[j] with refs:=r }:=by
 simp[Dx,List.getD_eq_getElem?_getD,h]
theorem a5b{m:Mm}(h:Ok m){j:Nat}(hj:j<m.slots.length){r:Int}(h0:0<r)(h1:r<=1000)(hr:Bd m j≠0):Ok { m with slots:=Dx m j r }:=by
 rw[U1 hj]
 rw[a4g hj] at hr
 have hgood:=Eg (h.slot _ (List.getElem_mem hj))
 refine h.set j _ (Lm (s:={ m.slots[j] with refs:=r }) ((Ag _ _ _).2 ⟨Int.le_of_lt h0,h1⟩) hgood.2.1 hgood.2.2.1 hgood.2.2.2) m.free ?_ h.nodup ?_
 ·intro a ha
  have hf:=(Dh _ _).1 (h.free a ha)
  have hne:a≠j:=by
   rintro rfl
   rw[Int.toNat_natCast,getD_lt _ _ hj] at hf
   exact hr hf.2.2
  rw[Dh]
  refine⟨hf.1,by simpa using hf.2.1,?_⟩
  rw[D8 _ _ _ _ (by omega)]
  exact hf.2.2
 ·intro i hi hr'
  by_cases e:j=i
  ·subst e
   rw[En _ _ _ hj] at hr'
   dsimp only at hr'
   omega
  ·rw[D8 _ _ _ _ e] at hr'
   exact h.all i hi hr'
theorem Gl(m:Mm)(i:Int):isSl m i=true ↔ ∃ j:Nat,i=j/\j<m.slots.length:=by
 unfold isSl
 rw[Ag]
 constructor
 ·intro h
  exact⟨i.toNat,by omega,by omega⟩
 ·rintro ⟨j,rfl,h⟩
  omega
theorem hold_ok{m:Mm}(h:Ok m){i:Int}(hi:isSl m i=true)(h0:0<Bd m i)(h1:Bd m i<1000):Ok (Zm m i):=by
 obtain⟨j,rfl,hj⟩:=(Gl m i).1 hi
 exact a5b h hj (by omega) (by omega) (by omega)
theorem put_ok{m:Mm}(h:Ok m){i:Int}(hi:isSl m i=true)(h0:0<Bd m i)(h1:Bd m i<=1000):Ok (putM m i):=by
 obtain⟨j,rfl,hj⟩:=(Gl m i).1 hi
 by_cases hl:Bd m j=1
 ·have e:putM m j = { m with slots:=Dx m j 0,free:=m.free ++ [(j:Int)] }:=by simp[putM,hl]
  rw[e,U1 hj]
  rw[a4g hj] at hl
  have hgood:=Eg (h.slot _ (List.getElem_mem hj))
  have hnj:(j:Int) ∉ m.free:=fun hm=>by
   have hf:=(Dh _ _).1 (h.free _ hm)
   rw[Int.toNat_natCast,getD_lt _ _ hj,hl] at hf
   omega
  refine h.set j _ (Lm (s:={ m.slots[j] with refs:=0 }) rfl hgood.2.1 hgood.2.2.1 hgood.2.2.2) _ ?_ ?_ ?_
  ·intro a ha
   rw[List.mem_append,List.mem_singleton] at ha
   rw[Dh]
   rcases ha with ha|rfl
   ·have hf:=(Dh _ _).1 (h.free a ha)
    have hne:a≠j:=by rintro rfl;exact hnj ha
    refine⟨hf.1,by simpa using hf.2.1,?_⟩
    rw[D8 _ _ _ _ (by omega)]
    exact hf.2.2
   ·refine⟨by omega,by simpa using hj,?_⟩
    rw[Int.toNat_natCast,En _ _ _ hj]
  ·rw[List.nodup_append]
   refine⟨h.nodup,by simp,fun a ha b hb=>?_⟩
   rw[List.mem_singleton] at hb
   subst hb
   rintro rfl
   exact hnj ha
  ·intro i hi' hr'
   rw[List.mem_append,List.mem_singleton]
   by_cases e:j=i
   ·exact .inr (by omega)
   ·rw[D8 _ _ _ _ e] at hr'
    exact .inl (h.all i hi' hr')
 ·have e:putM m j = { m with slots:=Dx m j (Bd m j - 1) }:=by simp[putM,hl]
  rw[e]
  exact a5b h hj (by omega) (by omega) (by omega)
end
section
def Ja(S:List Sl)(n:Int):Int:=(S.getD (n - 1).toNat sl0).next
def G7(S:List Sl):Nat->Int->List Int
 | 0,_=>[]
 | k+1,n=>if 0<n then (n - 1) :: G7 S k (Ja S n) else []
def Ij(S:List Sl):Nat->Int->Int
 | 0,n=>n
 | k+1,n=>if 0<n then Ij S k (Ja S n) else n
def Au(M:Mm)(b:Nat):Int:=M.heads.getD b 0
def chL(M:Mm)(b:Nat):List Int:=G7 M.slots M.slots.length (Au M b)
def chE(M:Mm)(b:Nat):Int:=Ij M.slots M.slots.length (Au M b)
def chOk(M:Mm)(b:Nat):Bool:=chE M b == -1 - (b:Int)
def A8(M:Mm)(a:Int):Sl:=M.slots.getD a.toNat sl0
def keyAt(M:Mm)(a:Int):Int × Int:=((A8 M a).a,(A8 M a).b)
def Eo(a b:Int)(n:Nat):Int:=(7*a+3*b+a*b) % n
def hasK(M:Mm)(all:List Int)(k:Int × Int):Bool:=(all.map (keyAt M)).contains k
def whoK(M:Mm)(all:List Int)(k:Int × Int):Int:=(all.find? fun a=>keyAt M a==k).getD 0
def Jc(M:Mm)(b:Nat)(all:List Int)(a:Int):Int :=
 if (A8 M a).refs=0\/(A8 M a).inn=false then 5
 else if Eo (A8 M a).a (A8 M a).b M.heads.length≠b then 4
 else if hasK M all (keyAt M a) then 6 else 0
def Jb(M:Mm)(b:Nat):List Int->List Int->Int
 | _,[]=>0
 | all,a :: l=>if Jc M b all a≠0 then Jc M b all a else Jb M b (all ++ [a]) l
def chkB(M:Mm):Nat->Nat->List Int->Int
 | 0,_,_=>0
 | k+1,b,all=>if chOk M b then (if Jb M b all (chL M b)≠0 then Jb M b all (chL M b) else chkB M k (b+1) (all++chL M b)) else 4
def chkC(M:Mm):Int:=if chk M≠0 then chk M else chkB M M.heads.length 0 []
def Bo(M:Mm)(b:Nat):List Int:=(List.range b).flatMap (chL M)
def allC(M:Mm):List Int:=Bo M M.heads.length
theorem Gs(M:Mm)(b:Nat):Bo M (b+1)=Bo M b++chL M b:=by simp[Bo,List.range_succ]
theorem a0g(M:Mm)(b:Nat)(all l:List Int)(k:Nat)(h:k<l.length) :
  Jb M b (all++l.take k) (l.drop k)=if Jc M b (all++l.take k) l[k] ≠ 0 then Jc M b (all++l.take k) l[k] else Jb M b (all++l.take (k+1)) (l.drop (k+1)):=by
 rw[List.drop_eq_getElem_cons h,List.take_succ_eq_append_getElem h,<- List.append_assoc];rfl
theorem a4h(M:Mm)(b:Nat)(all l:List Int)(k:Nat)(h:l.length<=k):Jb M b (all++l.take k) (l.drop k)=0:=by
 rw[List.drop_of_length_le h];rfl
theorem a1l(M:Mm)(b:Nat)(h:b<M.heads.length) :
  chkB M (M.heads.length - b) b (Bo M b)=if chOk M b then (if Jb M b (Bo M b) (chL M b)≠0 then Jb M b (Bo M b) (chL M b) else chkB M (M.heads.length - (b+1)) (b+1) (Bo M (b+1))) else 4:=by
 rw[show M.heads.length - b=(M.heads.length - (b+1))+1 by omega,Gs];rfl
theorem chkB_end(M:Mm)(b:Nat)(h:M.heads.length<=b)(all:List Int):chkB M (M.heads.length - b) b all=0:=by
 rw[show M.heads.length - b=0 by omega];rfl
structure OkC(M:Mm):Prop where
 ok:Ok M
 ends:∀ b,b<M.heads.length->chE M b=-1 - (b:Int)
 held:∀ b,b<M.heads.length->∀ a∈chL M b,(A8 M a).refs≠0/\(A8 M a).inn=true/\Eo (A8 M a).a (A8 M a).b M.heads.length=b
 keys:((allC M).map (keyAt M)).Nodup
theorem Ir(M:Mm)(all:List Int)(k:Int × Int):hasK M all k=true ↔ k∈all.map (keyAt M):=by simp[hasK]
theorem Oa(M:Mm)(b:Nat)(all:List Int)(a:Int):Jc M b all a=0 ↔ ((A8 M a).refs≠0/\(A8 M a).inn=true/\Eo (A8 M a).a (A8 M a).b M.heads.length=b)/\¬ keyAt M a∈all.map (keyAt M):=by
 unfold Jc
 rw[<- Ir]
 by_cases h1:(A8 M a).refs=0\/(A8 M a).inn=false
 ·rw[if_pos h1]
  constructor
  ·intro h;omega
  ·rintro ⟨⟨h,h',_⟩,_⟩
   rcases h1 with h1|h1
   ·exact absurd h1 h
   ·rw[h'] at h1;cases h1
 rw[if_neg h1]
 have h1':(A8 M a).refs≠0/\(A8 M a).inn=true:=by
  refine⟨fun h=>h1 (.inl h),?_⟩
  cases h:(A8 M a).inn
  ·exact absurd (.inr h) h1
  ·rfl
 by_cases h2:Eo (A8 M a).a (A8 M a).b M.heads.length=b
 ·rw[if_neg (by simpa using h2)]
  cases h3:hasK M all (keyAt M a)
  ·simp[h1',h2]
  ·simp
 ·rw[if_pos h2]
  constructor
  ·intro h;omega
  ·rintro ⟨⟨_,_,h⟩,_⟩;exact absurd h h2
theorem a0h(M:Mm)(b:Nat)(l:List Int):∀ all:List Int,(all.map (keyAt M)).Nodup->(Jb M b all l=0 ↔ (∀ a∈l,(A8 M a).refs≠0/\(A8 M a).inn=true/\Eo (A8 M a).a (A8 M a).b M.heads.length=b)/\((all++l).map (keyAt M)).Nodup):=by
 induction l with
 | nil=>intro all h;simp[Jb];exact h
 | cons a l ih =>
  intro all hn
  simp only[Jb]
  by_cases h:Jc M b all a=0
  ·rw[if_neg (by simpa using h)]
   have h':=(Oa M b all a).1 h
   have hn':((all ++ [a]).map (keyAt M)).Nodup:=by
    rw[List.map_append,List.nodup_append]
    refine⟨hn,by simp,?_⟩
    intro x hx y hy e
    simp at hy
    subst hy
    subst e
    exact h'.2 hx
   rw[ih (all ++ [a]) hn',List.append_assoc]
   simp only[List.mem_cons,forall_eq_or_imp,List.cons_append,List.nil_append]
   constructor
   ·rintro ⟨h1,h2⟩;exact⟨⟨h'.1,h1⟩,h2⟩
   ·rintro ⟨⟨_,h1⟩,h2⟩;exact⟨h1,h2⟩
  ·rw[if_pos h]
   constructor
   ·intro hh;exact absurd hh h
   ·rintro ⟨h1,h2⟩
    exfalso
    apply h
    rw[Oa]
    refine⟨h1 a (by simp),fun hm=>?_⟩
    rw[List.map_append,List.nodup_append] at h2
    exact h2.2.2 _ hm _ (by simp) rfl
theorem Ua(M:Mm)(b:Nat):chOk M b=true ↔ chE M b=-1 - (b:Int):=by simp[chOk]
theorem Vf(M:Mm):∀ (k b:Nat),b+k=M.heads.length->((Bo M b).map (keyAt M)).Nodup ->
  (chkB M k b (Bo M b)=0 ↔ (∀ c,b<=c->c<M.heads.length->chE M c=-1 - (c:Int)/\∀ a∈chL M c,(A8 M a).refs≠0/\(A8 M a).inn=true/\Eo (A8 M a).a (A8 M a).b M.heads.length=c)/\((allC M).map (keyAt M)).Nodup)
 | 0,b,hb,hn=>by
  have:b=M.heads.length:=by omega
  subst this
  simp only[chkB,true_iff]
  exact⟨fun c h1 h2=>by omega,hn⟩
 | k+1,b,hb,hn=>by
  simp only[chkB]
  cases hc:chOk M b
  ·simp only[Bool.false_eq_true,if_false]
   constructor
   ·intro h;omega
   ·rintro ⟨h,_⟩
    have:=(Ua M b).2 (h b (Nat.le_refl _) (by omega)).1
    rw[hc] at this;cases this
  ·have hc':=(Ua M b).1 hc
   simp only[if_true]
   have hs:=a0h M b (chL M b) (Bo M b) hn
   rw[<- Gs] at hs ⊢
   by_cases h:Jb M b (Bo M b) (chL M b)=0
   ·rw[if_neg (by simpa using h)]
    have h':=hs.1 h
    rw[Vf M k (b+1) (by omega) h'.2]
    constructor
    ·rintro ⟨h1,h2⟩
     refine⟨fun c hc1 hc2=>?_,h2⟩
     by_cases e:c=b
     ·subst e;exact⟨hc',h'.1⟩
     ·exact h1 c (by omega) hc2
    ·rintro ⟨h1,h2⟩
     exact⟨fun c hc1 hc2=>h1 c (by omega) hc2,h2⟩
   ·rw[if_pos h]
    constructor
    ·intro hh;exact absurd hh h
    ·rintro ⟨h1,h2⟩
     exfalso
     apply h
     rw[hs]
     refine⟨(h1 b (Nat.le_refl _) (by omega)).2,?_⟩
     have e:allC M=Bo M (b+1)++((List.range (M.heads.length - (b+1))).map (· + (b+1))).flatMap (chL M):=by
      unfold allC Bo
      rw[<- List.flatMap_append]
      congr 1
      rw[show M.heads.length=(b+1)+(M.heads.length - (b+1)) by omega,List.range_add]
      simp[Nat.add_comm]
     rw[e,List.map_append,List.nodup_append] at h2
     exact h2.1
theorem Q9(M:Mm):chkC M=0 ↔ OkC M:=by
 unfold chkC
 by_cases h:chk M=0
 ·rw[if_neg (by simpa using h),show ([]:List Int)=Bo M 0 from rfl,Vf M M.heads.length 0 (by omega) (by simp[Bo])]
  constructor
  ·rintro ⟨h1,h2⟩
   exact⟨(G9 M).1 h,fun b hb=>(h1 b (Nat.zero_le _) hb).1,fun b hb=>(h1 b (Nat.zero_le _) hb).2,h2⟩
  ·rintro ⟨_,h1,h2,h3⟩
   exact⟨fun c _ hc=>⟨h1 c hc,h2 c hc⟩,h3⟩
 ·rw[if_pos h]
  constructor
  ·intro hh;exact absurd hh h
  ·intro hh;exact absurd ((G9 M).2 hh.ok) h
end
section
structure Cl where
 kind:Int
 a:Int
 b:Int
 time:Int
 bk:Int
 slot:Int
structure Fr where
 c:Cl
 pl:Int
 cur:Int
 prev:Int
 slot:Int
 n:Int
 keys:List (Int × Int)
 done:Bool
 e:Int
def E5(nS nH:Nat)(c:Cl):Int :=
 if c.kind=1\/c.kind=3 then (if keyB c.a c.b then 0 else 3)
 else if c.kind=2 then (if inB c.time 1 1000000 && keyB c.a c.b then 0 else 3)
 else if c.kind=4\/c.kind=5 then (if inB c.bk 0 ((nH:Int) - 1) then 0 else 5)
 else if c.kind=6 then (if inB c.slot 0 ((nS:Int) - 1) then 0 else 5)
 else 4
def frE(nS nH:Nat)(f:Fr):Int :=
 if E5 nS nH f.c≠0 then E5 nS nH f.c
 else if inB f.pl 0 9=false\/inB f.n 0 1000000=false\/f.done=true then 3
 else if inB f.cur (-(nH:Int)) nS=false\/inB f.prev 0 nS=false\/inB f.slot (-1) ((nS:Int) - 1)=false then 5
 else if 100<f.keys.length then 2 else 0
def bkOf(nH:Nat)(c:Cl):Int :=
 if c.kind=4\/c.kind=5 then c.bk
 else if keyB c.a c.b then (if 1<=nH/\nH<=4 then Eo c.a c.b nH else 0) else 0
def newF(c:Cl):Fr:=⟨c,0,0,0,-1,0,[],false,0⟩
def endF(f:Fr)(e:Int):Fr:={ f with done:=true,e:=e }
theorem a1j{nS nH:Nat}{k a b t bk sl:Int}(h:k=1\/k=3):E5 nS nH ⟨k,a,b,t,bk,sl⟩=if keyB a b then 0 else 3:=by
 unfold E5;rw[if_pos h]
theorem V6{nS nH:Nat}{a b t bk sl:Int}:E5 nS nH ⟨2,a,b,t,bk,sl⟩=if inB t 1 1000000 && keyB a b then 0 else 3:=by
 unfold E5;rw[if_neg (by simp),if_pos rfl]
theorem Y6{nS nH:Nat}{k a b t bk sl:Int}(h:k=4\/k=5):E5 nS nH ⟨k,a,b,t,bk,sl⟩=if inB bk 0 ((nH:Int) - 1) then 0 else 5:=by
 unfold E5;rw[if_neg (by dsimp only;omega),if_neg (by dsimp only;omega),if_pos h]
theorem X6{nS nH:Nat}{a b t bk sl:Int}:E5 nS nH ⟨6,a,b,t,bk,sl⟩=if inB sl 0 ((nS:Int) - 1) then 0 else 5:=by
 unfold E5;rw[if_neg (by simp),if_neg (by simp),if_neg (by simp),if_pos rfl]
theorem callE_no{nS nH:Nat}{k a b t bk sl:Int}(h:k<1\/6<k):E5 nS nH ⟨k,a,b,t,bk,sl⟩=4:=by
 unfold E5;rw[if_neg (by dsimp only;omega),if_neg (by dsimp only;omega),if_neg (by dsimp only;omega),if_neg (by dsimp only;omega)]
end
section
def ownB(M:Mm)(a:Int):Nat:=(Eo (A8 M a).a (A8 M a).b M.heads.length).toNat
def Fz(M:Mm)(a:Int):Mm:={ M with slots:=M.slots.set a.toNat { A8 M a with next:=Au M (ownB M a),inn:=true },heads:=M.heads.set (ownB M a) (a+1) }
def Le(a:Int):List Int->Int->Int->Int
 | [],ah,_=>ah
 | c :: l,ah,la=>Le a l (if c==a then la else ah) (c+1)
def cutM(M:Mm)(b:Nat)(ahead a:Int):Mm :=
 if 0<ahead then { M with slots:=M.slots.set (ahead - 1).toNat { A8 M (ahead - 1) with next:=(A8 M a).next } } else { M with heads:=M.heads.set b (A8 M a).next }
def Path(S:List Sl):Int->List Int->Int->Prop
 | n,[],e=>n=e/\n<=0
 | n,a :: l,e=>n=a+1/\0<=a/\Path S (S.getD a.toNat sl0).next l e
theorem Np(S:List Sl):∀ (k:Nat) (n:Int),Ij S k n<=0->Path S n (G7 S k n) (Ij S k n)/\(G7 S k n).length<=k
 | 0,n,h=>⟨⟨rfl,h⟩,by simp[G7]⟩
 | k+1,n,h=>by
  simp only[Ij,G7] at h ⊢
  by_cases hn:0<n
  ·rw[if_pos hn] at h
   rw[if_pos hn,if_pos hn]
   have:=Np S k _ h
   exact⟨⟨by omega,by omega,this.1⟩,by simpa using this.2⟩
  ·rw[if_neg hn] at h
   rw[if_neg hn,if_neg hn]
   exact⟨⟨rfl,h⟩,by simp⟩
theorem Jn(S:List Sl):∀ (k:Nat) (n:Int) (l:List Int) (e:Int),Path S n l e->l.length<=k->G7 S k n=l/\Ij S k n=e
 | k,n,[],e,h,hl=>by
  obtain⟨rfl,h⟩:=h
  cases k with
  | zero=>exact⟨rfl,rfl⟩
  | succ k=>simp only[Ij,G7];rw[if_neg (by omega),if_neg (by omega)];exact⟨rfl,rfl⟩
 | 0,n,a :: l,e,h,hl=>by simp at hl
 | k+1,n,a :: l,e,h,hl=>by
  obtain⟨rfl,h0,h⟩:=h
  have:=Jn S k _ l e h (by simpa using hl)
  simp only[Ij,G7,Ja]
  rw[if_pos (by omega),if_pos (by omega),show a+1 - 1=a by omega]
  rw[this.1,this.2]
  exact⟨rfl,rfl⟩
theorem Ko{S S':List Sl}:∀ {n:Int} {l:List Int} {e:Int},(∀ a∈l,(S'.getD a.toNat sl0).next=(S.getD a.toNat sl0).next)->Path S n l e->Path S' n l e
 | _,[],_,_,h=>h
 | _,a :: l,_,hh,h=>by
  refine⟨h.1,h.2.1,?_⟩
  rw[hh a (by simp)]
  exact Ko (fun x hx=>hh x (by simp[hx])) h.2.2
def Kw(S:List Sl):Int->List Int->Int->Prop
 | n,[],e=>n=e
 | n,a :: l,e=>n=a+1/\0<=a/\Kw S (S.getD a.toNat sl0).next l e
theorem Ut{S:List Sl}:∀ {n:Int} {l1 l2:List Int} {e:Int},Path S n (l1++l2) e ↔ ∃ m,Kw S n l1 m/\Path S m l2 e
 | n,[],l2,e=>by simp[Kw]
 | n,a :: l1,l2,e=>by
  simp only[List.cons_append,Path,Kw,Ut (l1:=l1)]
  constructor
  ·rintro ⟨h1,h2,m,h3,h4⟩;exact⟨m,⟨h1,h2,h3⟩,h4⟩
  ·rintro ⟨m,⟨h1,h2,h3⟩,h4⟩;exact⟨h1,h2,m,h3,h4⟩
theorem La{S:List Sl}:∀ {n:Int} {l:List Int} {p e:Int},Kw S n (l ++ [p]) e ↔ Kw S n l (p+1)/\0<=p/\(S.getD p.toNat sl0).next=e
 | n,[],p,e=>by simp[Kw]
 | n,a :: l,p,e=>by
  simp only[List.cons_append,Kw,La (l:=l)]
  constructor
  ·rintro ⟨h1,h2,h3,h4⟩;exact⟨⟨h1,h2,h3⟩,h4⟩
  ·rintro ⟨⟨h1,h2,h3⟩,h4⟩;exact⟨h1,h2,h3,h4⟩
theorem Ol{S S':List Sl}:∀ {n:Int} {l:List Int} {e:Int},(∀ a∈l,(S'.getD a.toNat sl0).next=(S.getD a.toNat sl0).next)->Kw S n l e->Kw S' n l e
 | _,[],_,_,h=>h
 | _,a :: l,_,hh,h=>by
  refine⟨h.1,h.2.1,?_⟩
  rw[hh a (by simp)]
  exact Ol (fun x hx=>hh x (by simp[hx])) h.2.2
theorem Qv{S:List Sl}:∀ {n:Int} {l:List Int} {e:Int},Path S n l e->∀ a∈l,0<=a
 | _,[],_,_,_,ha=>by cases ha
 | _,x :: l,_,h,a,ha=>by
  rcases List.mem_cons.1 ha with rfl|ha
  ·exact h.2.1
  ·exact Qv h.2.2 a ha
theorem a3z{S:List Sl}{N:Nat}(hs:∀ s∈S,s.next<=N)(h0:(0:Int)<=N):∀ {n:Int} {l:List Int} {e:Int},n<=N->Path S n l e->∀ a∈l,a<N
 | _,[],_,_,_,_,ha=>by cases ha
 | n,x :: l,_,hn,h,a,ha=>by
  rcases List.mem_cons.1 ha with rfl|ha
  ·have:=h.1;omega
  ·refine a3z hs h0 (n:=(S.getD x.toNat sl0).next) ?_ h.2.2 a ha
   by_cases hx:x.toNat<S.length
   ·rw[getD_lt S _ hx];exact hs _ (List.getElem_mem hx)
   ·rw[List.getD_eq_getElem?_getD,List.getElem?_eq_none (by omega)];exact h0
theorem few':∀ (n:Nat) (l:List Int),l.Nodup->(∀ a∈l,0<=a/\a<n)->l.length<=n
 | 0,l,hn,h=>by
  match l,h with
  | [],_=>simp
  | a :: _,h=>have:=h a (by simp);omega
 | n+1,l,hn,h=>by
  have h1:=few' n (l.erase (n:Int)) (hn.erase _) (fun a ha=>by
   have h3:=(hn.mem_erase_iff).1 ha
   have h4:=h a h3.2
   have h5:=h3.1
   omega)
  rw[List.length_erase] at h1
  split at h1 <;> omega
theorem OkC.path{M:Mm}(h:OkC M){b:Nat}(hb:b<M.heads.length):Path M.slots (Au M b) (chL M b) (-1 - (b:Int)):=by
 have e:=h.ends b hb
 have:=(Np M.slots M.slots.length (Au M b) (by show chE M b<=0;omega)).1
 rw[show Ij M.slots M.slots.length (Au M b)=-1 - (b:Int) from e] at this
 exact this
theorem Ok.Lp{M:Mm}(h:Ok M){b:Nat}(hb:b<M.heads.length):Au M b≠0/\inB (Au M b) (-(M.heads.length:Int)) M.slots.length=true:=by
 have hl:b<M.locks.length:=by have:=h.nl;omega
 have hz:b<(M.heads.zip M.locks).length:=by simp;omega
 have:=h.chain _ (List.getElem_mem hz)
 simp only[List.getElem_zip,Dp] at this
 have e:Au M b=M.heads[b]:=by simp[Au,List.getD_eq_getElem?_getD,hb]
 rw[e]
 split at this
 ·rename_i hh;exact hh
 ·omega
theorem OkC.slots{M:Mm}(h:OkC M){b:Nat}(hb:b<M.heads.length):∀ a∈chL M b,0<=a/\a<M.slots.length:=by
 intro a ha
 have hp:=h.path hb
 refine⟨Qv hp a ha,a3z (fun s hs=>?_) (by omega) ?_ hp a ha⟩
 ·have:=(Eg (h.ok.slot s hs)).2.2.2
  exact((Ag _ _ _).1 this).2
 ·exact((Ag _ _ _).1 (h.ok.Lp hb).2).2
theorem a3g{M:Mm}{n:Nat}{a:Int}:a∈Bo M n ↔ ∃ b,b<n/\a∈chL M b:=by simp[Bo]
theorem Du{M:Mm}{a:Int}:a∈allC M ↔ ∃ b,b<M.heads.length/\a∈chL M b:=a3g
theorem Hy{α β:Type}{f:α->β}:∀ {l:List α},(l.map f).Nodup->l.Nodup
 | [],_=>by simp
 | a :: l,h=>by
  rw[List.map_cons,List.nodup_cons] at h
  rw[List.nodup_cons]
  exact⟨fun hm=>h.1 (List.mem_map_of_mem hm),Hy h.2⟩
theorem Nv(M:Mm){b:Nat}(hb:b<M.heads.length):∃ l2,allC M=Bo M b++chL M b++l2/\l2=((List.range (M.heads.length - (b+1))).map (· + (b+1))).flatMap (chL M):=by
 refine⟨_,?_,rfl⟩
 rw[<- Gs]
 unfold allC Bo
 rw[<- List.flatMap_append]
 congr 1
 rw[show M.heads.length=(b+1)+(M.heads.length - (b+1)) by omega,List.range_add]
 simp[Nat.add_comm]
theorem OkC.nodup{M:Mm}(h:OkC M){b:Nat}(hb:b<M.heads.length):(chL M b).Nodup:=by
 obtain⟨l2,e,_⟩:=Nv M hb
 have:=Hy h.keys
 rw[e,List.nodup_append,List.nodup_append] at this
 exact this.1.2.1
theorem OkC.G8{M:Mm}(h:OkC M):∀ a∈allC M,0<=a/\a<M.slots.length:=by
 intro a ha
 obtain⟨b,hb,hm⟩:=Du.1 ha
 exact h.slots hb a hm
end
section
theorem Q5(a b:Int){n:Nat}(hn:1<=n):0<=Eo a b n/\Eo a b n<n:=⟨Int.emod_nonneg _ (by omega),Int.emod_lt_of_pos _ (by omega)⟩
theorem ownB_lt{M:Mm}(h:Ok M)(a:Int):ownB M a<M.heads.length:=by
 have:=Q5 (A8 M a).a (A8 M a).b h.nh.1
 unfold ownB;omega
theorem ownB_eq{M:Mm}(h:Ok M)(a:Int):(ownB M a:Int)=Eo (A8 M a).a (A8 M a).b M.heads.length:=by
 have:=Q5 (A8 M a).a (A8 M a).b h.nh.1
 unfold ownB;omega
theorem Fg{f g:Nat->List Int}:∀ {l:List Nat},(∀ c∈l,f c=g c)->l.flatMap f=l.flatMap g
 | [],_=>rfl
 | c :: l,h=>by
  rw[List.flatMap_cons,List.flatMap_cons,h c (by simp),Fg (fun x hx=>h x (by simp[hx]))]
theorem V4{M M':Mm}{b:Nat}(hb:b<M.heads.length)(hl:M'.heads.length=M.heads.length)(h:∀ c,c<M.heads.length->c≠b->chL M' c=chL M c) :
  ∃ l1 l2,allC M=l1++chL M b++l2/\allC M'=l1++chL M' b++l2:=by
 obtain⟨x,e,ex⟩:=Nv M hb
 obtain⟨y,e',ey⟩:=Nv M' (b:=b) (by omega)
 have h1:Bo M' b=Bo M b:=Fg fun c hc=>by
  rw[List.mem_range] at hc
  exact h c (by omega) (by omega)
 have h2:y=x:=by
  rw[ex,ey,hl]
  refine Fg fun c hc=>?_
  simp only[List.mem_map,List.mem_range] at hc
  obtain⟨d,hd,rfl⟩:=hc
  exact h _ (by omega) (by omega)
 exact⟨Bo M b,x,e,by rw[e',h1,h2]⟩
theorem O9{M:Mm}{S:List Sl}{H:List Int}{j:Nat}{s:Sl}(hj:j<M.slots.length)(hS:S=M.slots.set j s)(x:Int):A8 { M with slots:=S,heads:=H } x=if x.toNat=j then s else A8 M x:=by
 subst hS
 unfold A8
 dsimp only
 by_cases e:x.toNat=j
 ·rw[if_pos e,e,En _ _ _ hj]
 ·rw[if_neg e,D8 _ _ _ _ (fun h=>e h.symm)]
theorem Qk{M:Mm}{S:List Sl}{b c:Nat}{n:Int}(hb:b<M.heads.length):Au { M with slots:=S,heads:=M.heads.set b n } c=if c=b then n else Au M c:=by
 unfold Au
 dsimp only
 by_cases e:c=b
 ·subst e;rw[if_pos rfl];simp[List.getD_eq_getElem?_getD,hb]
 ·rw[if_neg e];simp[List.getD_eq_getElem?_getD,List.getElem?_set_ne (fun h=>e h.symm)]
theorem Ok.turn{M:Mm}(h:Ok M){j b:Nat}(hj:j<M.slots.length){nx hd:Int}{inn:Bool}(h1:inB nx (-(M.heads.length:Int)) M.slots.length=true)(h2:hd≠0/\inB hd (-(M.heads.length:Int)) M.slots.length=true) :
  Ok { M with slots:=M.slots.set j { A8 M j with next:=nx,inn:=inn },heads:=M.heads.set b hd }:=by
 have hs:A8 M j=M.slots[j]:=by simp[A8,List.getD_eq_getElem?_getD,hj]
 have hgood:=Eg (h.slot _ (List.getElem_mem hj))
 have hr:∀ i:Nat,((M.slots.set j { A8 M j with next:=nx,inn:=inn }).getD i sl0).refs=(M.slots.getD i sl0).refs:=fun i=>by
  by_cases e:j=i
  ·subst e;rw[En _ _ _ hj];rfl
  ·rw[D8 _ _ _ _ e]
 refine⟨by simpa using h.ns,by simpa using h.nh,by simpa using h.nl,h.now,?_,?_,?_,h.nodup,?_⟩
 ·intro x hx
  dsimp only at hx ⊢
  rw[List.length_set,List.length_set]
  rcases List.mem_or_eq_of_mem_set hx with hx|rfl
  ·exact h.slot x hx
  ·rw[hs]
   exact Lm hgood.1 hgood.2.1 hgood.2.2.1 h1
 ·intro p hp
  dsimp only at hp ⊢
  rw[List.length_set,List.length_set]
  obtain⟨i,hi,rfl⟩:=List.getElem_of_mem hp
  have hi':i<(M.heads.zip M.locks).length:=by simpa using hi
  have:=h.chain _ (List.getElem_mem hi')
  rw[List.getElem_zip] at this ⊢
  rw[List.getElem_set]
  unfold Dp at this ⊢
  dsimp only at this ⊢
  by_cases e:b=i
  ·rw[if_pos e,if_pos h2]
   split at this
   ·exact this
   ·omega
  ·rw[if_neg e];exact this
 ·intro a ha
  have:=(Dh _ _).1 (h.free a ha)
  rw[Dh]
  refine⟨this.1,by simpa using this.2.1,?_⟩
  rw[hr];exact this.2.2
 ·intro i hi hr'
  dsimp only at hi hr'
  rw[hr] at hr'
  exact h.all i (by simpa using hi) hr'
structure Linked(M M':Mm)(a:Int)(b:Nat):Prop where
 okc:OkC M'
 nh:M'.heads.length=M.heads.length
 ns:M'.slots.length=M.slots.length
 at_:chL M' b=a :: chL M b
 else_:∀ c,c<M.heads.length->c≠b->chL M' c=chL M c
 key:∀ x,keyAt M' x=keyAt M x
 unt:∀ x,(A8 M' x).unt=(A8 M x).unt
 refs:∀ x,(A8 M' x).refs=(A8 M x).refs
theorem a2x{M:Mm}(h:OkC M){a:Int}(ha:isSl M a=true)(hr:Bd M a≠0)(hk:hasK M (allC M) (keyAt M a)=false):Linked M (Fz M a) a (ownB M a):=by
 obtain⟨j,rfl,hj⟩:=(Gl M a).1 ha
 have hb:=ownB_lt h.ok j
 have hbe:=ownB_eq h.ok j
 have hhd:=h.ok.Lp hb
 have hnk:¬ keyAt M j∈(allC M).map (keyAt M):=fun hm=>by rw[(Ir M _ _).2 hm] at hk;cases hk
 have hna:¬ (j:Int)∈allC M:=fun hm=>hnk (List.mem_map_of_mem hm)
 have hok:Ok (Fz M j):=h.ok.turn (b:=ownB M j) hj hhd.2 ⟨by omega,by rw[Ag];omega⟩
 have hsl:∀ x,A8 (Fz M j) x=if x.toNat=j then { A8 M j with next:=Au M (ownB M j),inn:=true } else A8 M x:=fun x=>O9 (j:=j) hj rfl x
 have hsx:∀ x:Int,x.toNat=j->A8 M x=A8 M j:=fun x hx=>by unfold A8;rw[hx,Int.toNat_natCast]
 have key:∀ x,keyAt (Fz M j) x=keyAt M x:=fun x=>by
  unfold keyAt;rw[hsl];split
  ·rename_i e;rw[hsx x e]
  ·rfl
 have unt:∀ x,(A8 (Fz M j) x).unt=(A8 M x).unt:=fun x=>by
  rw[hsl];split
  ·rename_i e;rw[hsx x e]
  ·rfl
 have refs:∀ x,(A8 (Fz M j) x).refs=(A8 M x).refs:=fun x=>by
  rw[hsl];split
  ·rename_i e;rw[hsx x e]
  ·rfl
 have hhead:∀ c,Au (Fz M j) c=if c=ownB M j then (j:Int)+1 else Au M c:=fun c=>Qk hb
 have nh:(Fz M j).heads.length=M.heads.length:=by simp[Fz]
 have ns:(Fz M j).slots.length=M.slots.length:=by simp[Fz]
 have cong:∀ c,c<M.heads.length->Path (Fz M j).slots (Au M c) (chL M c) (-1 - (c:Int)):=fun c hc=>by
  refine Ko (fun x hx=>?_) (h.path hc)
  have:=hsl x
  have hx0:=h.slots hc x hx
  have hne:x.toNat≠j:=fun e=>hna (Du.2 ⟨c,hc,by rw[show (j:Int)=x by omega];exact hx⟩)
  rw[if_neg hne] at this
  unfold A8 at this
  rw[this]
 have other:∀ c,c<M.heads.length->c≠ownB M j->chL (Fz M j) c=chL M c/\chE (Fz M j) c=-1 - (c:Int):=fun c hc hne=>by
  have hw:=(Np M.slots M.slots.length (Au M c) (by show chE M c<=0;have:=h.ends c hc;omega)).2
  have:=Jn _ M.slots.length _ _ _ (cong c hc) hw
  unfold chL chE
  rw[hhead,if_neg hne,ns]
  exact this
 have own:chL (Fz M j) (ownB M j)=(j:Int) :: chL M (ownB M j)/\chE (Fz M j) (ownB M j)=-1 - (ownB M j:Int):=by
  have hp:Path (Fz M j).slots ((j:Int)+1) ((j:Int) :: chL M (ownB M j)) (-1 - (ownB M j:Int)):=by
   refine⟨rfl,by omega,?_⟩
   have:=hsl j
   rw[if_pos (Int.toNat_natCast j)] at this
   unfold A8 at this
   rw[this]
   exact cong _ hb
  have hlen:((j:Int) :: chL M (ownB M j)).length<=M.slots.length:=by
   refine few' _ _ ?_ ?_
   ·rw[List.nodup_cons]
    exact⟨fun hm=>hna (Du.2 ⟨_,hb,hm⟩),h.nodup hb⟩
   ·intro x hx
    rcases List.mem_cons.1 hx with rfl|hx
    ·omega
    ·exact h.slots hb x hx
  have:=Jn _ M.slots.length _ _ _ hp hlen
  unfold chL chE
  rw[hhead,if_pos rfl,ns]
  exact this
 obtain⟨l1,l2,e1,e2⟩:=V4 hb nh (fun c hc hne=>(other c hc hne).1)
 refine⟨⟨hok,?_,?_,?_⟩,nh,ns,own.1,fun c hc hne=>(other c hc hne).1,key,unt,refs⟩
 ·intro c hc
  rw[nh] at hc
  by_cases e:c=ownB M j
  ·subst e;exact own.2
  ·exact(other c hc e).2
 ·intro c hc x hx
  rw[nh] at hc ⊢
  have inn:∀ x,(A8 M x).inn=true->(A8 (Fz M j) x).inn=true:=fun x hh=>by
   rw[hsl];split
   ·rfl
   ·exact hh
  have bk:∀ x,Eo (A8 (Fz M j) x).a (A8 (Fz M j) x).b M.heads.length=Eo (A8 M x).a (A8 M x).b M.heads.length:=fun x=>by
   have:=key x
   unfold keyAt at this
   injection this with t1 t2
   rw[t1,t2]
  by_cases e:c=ownB M j
  ·subst e
   rw[own.1] at hx
   rcases List.mem_cons.1 hx with rfl|hx
   ·refine⟨by rw[refs];exact hr,?_,by rw[bk,<- hbe]⟩
    rw[hsl,if_pos (Int.toNat_natCast j)]
   ·have:=h.held _ hb x hx
    exact⟨by rw[refs];exact this.1,inn x this.2.1,by rw[bk];exact this.2.2⟩
  ·rw[(other c hc e).1] at hx
   have:=h.held _ hc x hx
   exact⟨by rw[refs];exact this.1,inn x this.2.1,by rw[bk];exact this.2.2⟩
 ·rw[show keyAt (Fz M j)=keyAt M from funext key,e2,own.1]
  have hk2:=h.keys
  rw[e1] at hk2
  have hp:(l1++(j:Int) :: chL M (ownB M j)++l2).Perm ((j:Int) :: (l1++chL M (ownB M j)++l2)):=by
   simp only[List.append_assoc,List.cons_append]
   exact List.perm_middle
  rw[(hp.map _).nodup_iff,List.map_cons,List.nodup_cons]
  exact⟨by rw[<- e1];exact hnk,hk2⟩
def lastN(l:List Int):Int:=match l.getLast? with|none=>0|some p=>p+1
theorem Zr(l:List Int)(c:Int):lastN (l ++ [c])=c+1:=by simp[lastN]
theorem Si{a:Int}:∀ {l:List Int} {ah la:Int},¬ a∈l->Le a l ah la=ah
 | [],_,_,_=>rfl
 | c :: l,ah,la,h=>by
  simp only[List.mem_cons,not_or] at h
  simp only[Le]
  rw[if_neg (by simpa using fun e=>h.1 (Eq.symm e))]
  exact Si h.2
theorem U9{a:Int}:∀ {l1 l2:List Int} {ah la:Int},¬ a∈l1->¬ a∈l2->Le a (l1++a :: l2) ah la=match l1.getLast? with|none=>la|some p=>p+1
 | [],l2,ah,la,_,h=>by simp only[List.nil_append,Le];rw[if_pos (by simp)];exact Si h
 | c :: l,l2,ah,la,h,h'=>by
  simp only[List.mem_cons,not_or] at h
  simp only[List.cons_append,Le]
  rw[if_neg (by simpa using fun e=>h.1 (Eq.symm e)),U9 h.2 h']
  cases l with
  | nil=>rfl
  | cons d l=>simp[List.getLast?_cons]
structure Cutted(M M':Mm)(a:Int)(b:Nat):Prop where
 okc:OkC M'
 nh:M'.heads.length=M.heads.length
 ns:M'.slots.length=M.slots.length
 at_:∃ l1 l2,chL M b=l1++a :: l2/\chL M' b=l1++l2
 else_:∀ c,c<M.heads.length->c≠b->chL M' c=chL M c
 key:∀ x,keyAt M' x=keyAt M x
 unt:∀ x,(A8 M' x).unt=(A8 M x).unt
 refs:∀ x,(A8 M' x).refs=(A8 M x).refs
theorem cut_ok{M:Mm}(h:OkC M){b:Nat}(hb:b<M.heads.length){a:Int}(ha:a∈chL M b):Cutted M (cutM M b (Le a (chL M b) 0 0) a) a b:=by
 obtain⟨l1,l2,hl⟩:=List.append_of_mem ha
 have hnd:=h.nodup hb
 rw[hl,List.nodup_append,List.nodup_cons] at hnd
 have na1:¬ a∈l1:=fun hm=>hnd.2.2 a hm a (by simp) rfl
 have na2:=hnd.2.1.1
 have hah:Le a (chL M b) 0 0=lastN l1:=by rw[hl,U9 na1 na2];rfl
 have ha0:=h.slots hb a ha
 have hsa:A8 M a=M.slots[a.toNat]'(by omega):=by simp[A8,List.getD_eq_getElem?_getD,show a.toNat<M.slots.length by omega]
 have hnx:inB (A8 M a).next (-(M.heads.length:Int)) M.slots.length=true:=by
  rw[hsa];exact(Eg (h.ok.slot _ (List.getElem_mem _))).2.2.2
 have hpath:=h.path hb
 rw[hl,Ut] at hpath
 obtain⟨m,hp1,hm,-,hp2⟩:=hpath
 have hp2':Path M.slots (A8 M a).next l2 (-1 - (b:Int)):=hp2
 have hlen:∀ c,c<M.heads.length->(chL M c).length<=M.slots.length:=fun c hc=>(Np M.slots M.slots.length (Au M c) (by show chE M c<=0;have:=h.ends c hc;omega)).2
 have apart:∀ c,c<M.heads.length->c≠b->∀ x,x∈chL M b->¬ x∈chL M c:=fun c hc hne x hx hx'=>by
  have:=(h.held b hb x hx).2.2
  have:=(h.held c hc x hx').2.2
  omega
 -- what is asked of a memory that is so changed
 have fin:∀ M':Mm,Ok M'->M'.heads.length=M.heads.length->M'.slots.length=M.slots.length->(∀ x,keyAt M' x=keyAt M x)->(∀ x,(A8 M' x).unt=(A8 M x).unt)->(∀ x,(A8 M' x).refs=(A8 M x).refs)->(∀ x,(A8 M' x).inn=(A8 M x).inn) ->
   Path M'.slots (Au M' b) (l1++l2) (-1 - (b:Int))->(∀ c,c<M.heads.length->c≠b->Path M'.slots (Au M' c) (chL M c) (-1 - (c:Int)))->Cutted M M' a b:=by
  intro M' hok nh ns key unt refs inn pb pc
  have own:chL M' b=l1++l2/\chE M' b=-1 - (b:Int):=by
   unfold chL chE
   rw[ns]
   refine Jn _ _ _ _ _ pb ?_
   have:=hlen b hb
   rw[hl] at this
   simp only[List.length_append,List.length_cons] at this ⊢
   omega
  have other:∀ c,c<M.heads.length->c≠b->chL M' c=chL M c/\chE M' c=-1 - (c:Int):=fun c hc hne=>by
   have:=Jn _ M.slots.length _ _ _ (pc c hc hne) (hlen c hc)
   unfold chL chE
   rw[ns]
   exact this
  obtain⟨k1,k2,e1,e2⟩:=V4 hb nh (fun c hc hne=>(other c hc hne).1)
  refine⟨⟨hok,?_,?_,?_⟩,nh,ns,⟨l1,l2,hl,own.1⟩,fun c hc hne=>(other c hc hne).1,key,unt,refs⟩
  ·intro c hc
   rw[nh] at hc
   by_cases e:c=b
   ·subst e;exact own.2
   ·exact(other c hc e).2
  ·intro c hc x hx
   rw[nh] at hc ⊢
   have hx':x∈chL M c:=by
    by_cases e:c=b
    ·subst e
     rw[own.1] at hx
     rw[hl]
     rcases List.mem_append.1 hx with hx|hx
     ·simp[hx]
     ·simp[hx]
    ·rw[<- (other c hc e).1];exact hx
   have:=h.held _ hc x hx'
   have hk:=key x
   unfold keyAt at hk
   injection hk with t1 t2
   exact⟨by rw[refs];exact this.1,by rw[inn];exact this.2.1,by rw[t1,t2];exact this.2.2⟩
  ·rw[show keyAt M'=keyAt M from funext key,e2,own.1]
   have hk2:=h.keys
   rw[e1,hl] at hk2
   have hp:(k1++(l1++a :: l2)++k2).Perm (a :: (k1++(l1++l2)++k2)):=by
    have:k1++(l1++a :: l2)++k2=(k1++l1)++a :: (l2++k2):=by simp
    rw[this]
    refine List.perm_middle.trans ?_
    simp
   rw[(hp.map _).nodup_iff,List.map_cons,List.nodup_cons] at hk2
   exact hk2.2
 rw[hah]
 rcases (show l1=[]\/∃ l' p,l1=l' ++ [p] by
   rcases List.eq_nil_or_concat l1 with h1|⟨l',p,h1⟩
   ·exact .inl h1
   ·exact .inr ⟨l',p,by rw[h1,List.concat_eq_append]⟩) with rfl|⟨l',p,rfl⟩
 ·rw[show lastN []=0 from rfl]
  unfold cutM
  rw[if_neg (by omega)]
  have hq:Au M b=m:=hp1
  refine fin _ ?_ (by simp) rfl (fun _=>rfl) (fun _=>rfl) (fun _=>rfl) (fun _=>rfl) ?_ ?_
  ·have hn0:(A8 M a).next≠0:=by
    intro h0
    rw[h0] at hp2'
    cases l2 with
    | nil=>have:=hp2'.1;omega
    | cons x l=>have:=hp2'.1;have:=hp2'.2.1;omega
   have:=h.ok.turn (j:=a.toNat) (b:=b) (inn:=(A8 M a).inn) (by omega) hnx ⟨hn0,hnx⟩
   have he:M.slots.set a.toNat { A8 M (a.toNat:Int) with next:=(A8 M a).next,inn:=(A8 M a).inn } = M.slots:=by
    rw[show ((a.toNat:Nat):Int)=a by omega]
    show M.slots.set a.toNat (A8 M a)=_
    rw[hsa,List.set_getElem_self]
   rw[he] at this
   exact this
  ·have:=Qk (M:=M) (S:=M.slots) (b:=b) (c:=b) (n:=(A8 M a).next) hb
   rw[if_pos rfl] at this
   show Path M.slots (Au { M with heads:=M.heads.set b (A8 M a).next } b) _ _
   rw[show Au { M with heads:=M.heads.set b (A8 M a).next } b=(A8 M a).next from this]
   exact hp2'
  ·intro c hc hne
   have:=Qk (M:=M) (S:=M.slots) (b:=b) (c:=c) (n:=(A8 M a).next) hb
   rw[if_neg hne] at this
   show Path M.slots (Au { M with heads:=M.heads.set b (A8 M a).next } c) _ _
   rw[show Au { M with heads:=M.heads.set b (A8 M a).next } c=Au M c from this]
   exact h.path hc
 ·rw[Zr]
  rw[La] at hp1
  have hpm:p∈chL M b:=by rw[hl];simp
  have hp0:=h.slots hb p hpm
  unfold cutM
  rw[if_pos (by omega),show p+1 - 1=p by omega]
  have hjp:p.toNat<M.slots.length:=by omega
  have hsl:∀ x,A8 { M with slots:=M.slots.set p.toNat { A8 M p with next:=(A8 M a).next } } x=if x.toNat=p.toNat then { A8 M p with next:=(A8 M a).next } else A8 M x:=fun x=>O9 (H:=M.heads) hjp rfl x
  have hsx:∀ x:Int,x.toNat=p.toNat->A8 M x=A8 M p:=fun x hx=>by unfold A8;rw[hx]
  have hpn:¬ p∈l':=by
   intro hm
   rw[List.nodup_append] at hnd
   exact hnd.1.2.2 p hm p (by simp) rfl
  have hpn2:¬ p∈l2:=fun hm=>hnd.2.2 p (by simp) p (by simp[hm]) rfl
  have nxt:∀ x,x∈chL M b\/(∃ c,c<M.heads.length/\c≠b/\x∈chL M c)->x≠p->((M.slots.set p.toNat { A8 M p with next:=(A8 M a).next }).getD x.toNat sl0).next=(M.slots.getD x.toNat sl0).next:=fun x hx hne=>by
   have hx0:0<=x:=by
    rcases hx with hx|⟨c,hc,_,hx⟩
    ·exact(h.slots hb x hx).1
    ·exact(h.slots hc x hx).1
   rw[D8 _ _ _ _ (by omega)]
  refine fin _ ?_ rfl (by simp) ?_ ?_ ?_ ?_ ?_ ?_
  ·have hhd:=h.ok.Lp hb
   have:=h.ok.turn (j:=p.toNat) (b:=b) (hd:=Au M b) (inn:=(A8 M p).inn) hjp hnx hhd
   rw[show ((p.toNat:Nat):Int)=p by omega] at this
   have he:M.heads.set b (Au M b)=M.heads:=by
    rw[show Au M b=M.heads[b] by simp[Au,List.getD_eq_getElem?_getD,hb],List.set_getElem_self]
   rw[he] at this
   exact this
  ·intro x;unfold keyAt;rw[hsl];split
   ·rename_i e;rw[hsx x e]
   ·rfl
  ·intro x;rw[hsl];split
   ·rename_i e;rw[hsx x e]
   ·rfl
  ·intro x;rw[hsl];split
   ·rename_i e;rw[hsx x e]
   ·rfl
  ·intro x;rw[hsl];split
   ·rename_i e;rw[hsx x e]
   ·rfl
  ·show Path (M.slots.set p.toNat { A8 M p with next:=(A8 M a).next }) (Au M b) (l' ++ [p] ++ l2) (-1 - (b:Int))
   rw[Ut]
   refine⟨(A8 M a).next,?_,Ko (fun x hx=>nxt x (.inl (by rw[hl];simp[hx])) (fun e=>hpn2 (e ▸ hx))) hp2'⟩
   rw[La]
   refine⟨Ol (fun x hx=>nxt x (.inl (by rw[hl];simp[hx])) (fun e=>hpn (e ▸ hx))) hp1.1,hp1.2.1,?_⟩
   rw[En _ _ _ hjp]
  ·intro c hc hne
   exact Ko (fun x hx=>nxt x (.inr ⟨c,hc,hne,hx⟩) (fun e=>apart c hc hne p hpm (e ▸ hx))) (h.path hc)
end
section
def toF(f:Fr)(n:Int):Fr:={ f with pl:=n }
def curF(f:Fr)(c n:Int):Fr:={ f with cur:=c,pl:=n }
def Ci(f:Fr)(s n:Int):Fr:={ f with slot:=s,pl:=n }
def isAt(M:Mm)(f:Fr):Bool:=inB f.cur 1 M.slots.length
def lkK(s:Sl)(f:Fr):Bool:=s.a==f.c.a && s.b==f.c.b
def putN(M:Mm)(a:Int):Mm:=if Bd M a=0 then M else putM M a
def canH(M:Mm)(a:Int):Bool:=decide (0<Bd M a) && decide (Bd M a<1000)
def holdN(M:Mm)(a:Int):Mm:=if canH M a then Zm M a else M
def Dl(M:Mm)(f:Fr):Fr:=curF f (Au M (bkOf M.heads.length f.c).toNat) 1
def O5(M:Mm)(f:Fr):Fr :=
 if f.cur=-1 - bkOf M.heads.length f.c then endF f 5
 else if isAt M f then toF f (if lkK (A8 M (f.cur - 1)) f then 3 else 2) else toF f 0
def Ef(M:Mm)(f:Fr):Fr:=if isAt M f then curF f (A8 M (f.cur - 1)).next 1 else toF f 0
def Ig(M:Mm)(f:Fr):Fr:=if isAt M f && canH M (f.cur - 1) then Ci f (f.cur - 1) 4 else toF f 0
def Gz(M:Mm)(f:Fr):Mm:=if isAt M f then holdN M (f.cur - 1) else M
def H5(M:Mm)(f:Fr):Fr :=
 if isSl M f.slot then
  (if lkK (A8 M f.slot) f && (A8 M f.slot).inn then (if M.now<(A8 M f.slot).unt then endF f 0 else toF f 6) else toF f 5)
 else toF f 0
def Bq(M:Mm)(f:Fr):Mm:=if isSl M f.slot then putN M f.slot else M
def Iw(M:Mm)(f:Fr):Fr:=if isSl M f.slot then Ci f (-1) 0 else toF f 0
def Mc(M:Mm)(f:Fr):Fr:=if isSl M f.slot then endF { f with slot:=-1 } 5 else toF f 0
def lkF(M:Mm)(f:Fr):Fr :=
 if f.pl=0 then Dl M f else if f.pl=1 then O5 M f else if f.pl=2 then Ef M f else if f.pl=3 then Ig M f
 else if f.pl=4 then H5 M f else if f.pl=5 then Iw M f else if f.pl=6 then Mc M f else toF f 0
def lkM(M:Mm)(f:Fr):Mm :=
 if f.pl=3 then Gz M f else if f.pl=5 then Bq M f else if f.pl=6 then Bq M f else M
structure Fit(M:Mm)(f:Fr):Prop where
 call:E5 M.slots.length M.heads.length f.c=0
 pl:0<=f.pl/\f.pl<=9
 n:inB f.n 0 1000000=true
 done:f.done=false
 cur:-(M.heads.length:Int)<=f.cur/\f.cur<=M.slots.length
 prev:0<=f.prev/\f.prev<=M.slots.length
 slot:-1<=f.slot/\f.slot<M.slots.length
 keys:f.keys.length<=100
theorem a1z{M:Mm}{f:Fr}:frE M.slots.length M.heads.length f=0 ↔ Fit M f:=by
 constructor
 ·intro h
  unfold frE at h
  by_cases h1:E5 M.slots.length M.heads.length f.c=0
  ·rw[if_neg (by simpa using h1)] at h
   by_cases h2:inB f.pl 0 9=false\/inB f.n 0 1000000=false\/f.done=true
   ·rw[if_pos h2] at h;omega
   ·rw[if_neg h2] at h
    by_cases h3:inB f.cur (-(M.heads.length:Int)) M.slots.length=false\/inB f.prev 0 M.slots.length=false\/inB f.slot (-1) ((M.slots.length:Int) - 1)=false
    ·rw[if_pos h3] at h;omega
    ·rw[if_neg h3] at h
     by_cases h4:100<f.keys.length
     ·rw[if_pos h4] at h;omega
     ·simp only[not_or,Bool.not_eq_false,Bool.not_eq_true,Ag] at h2 h3
      exact⟨h1,h2.1,(Ag _ _ _).2 h2.2.1,h2.2.2,h3.1,h3.2.1,⟨h3.2.2.1,by have:=h3.2.2.2;omega⟩,by omega⟩
  ·rw[if_pos h1] at h;exact absurd h h1
 ·rintro ⟨h1,h2,h3,h4,h5,h6,h7,h8⟩
  unfold frE
  rw[if_neg (by simpa using h1),if_neg,if_neg,if_neg (by omega)]
  ·simp only[not_or,Bool.not_eq_false,Ag]
   exact⟨h5,h6,h7.1,by omega⟩
  ·simp only[not_or,Bool.not_eq_false,Bool.not_eq_true]
   exact⟨(Ag _ _ _).2 h2,h3,h4⟩
theorem Dv{M:Mm}{c:Cl}(hM:Ok M)(h:E5 M.slots.length M.heads.length c=0):0<=bkOf M.heads.length c/\bkOf M.heads.length c<M.heads.length:=by
 obtain⟨n1,n2⟩:=hM.nh
 by_cases hb:c.kind=4\/c.kind=5
 ·unfold E5 at h
  rw[if_neg (by omega),if_neg (by omega),if_pos hb] at h
  cases hi:inB c.bk 0 ((M.heads.length:Int) - 1)
  ·rw[hi] at h;simp at h
  ·rw[Ag] at hi
   unfold bkOf
   rw[if_pos hb]
   omega
 ·unfold bkOf
  rw[if_neg hb]
  by_cases hk:keyB c.a c.b=true
  ·rw[if_pos hk,if_pos ⟨n1,n2⟩]
   exact Q5 c.a c.b n1
  ·rw[if_neg hk]
   omega
theorem Ce{M:Mm}{f:Fr}:isAt M f=true ↔ 1<=f.cur/\f.cur<=M.slots.length:=by unfold isAt;rw[Ag]
theorem Bi{M:Mm}{i:Int}:isSl M i=true ↔ 0<=i/\i<M.slots.length:=by
 unfold isSl
 rw[Ag]
 omega
theorem U2{M:Mm}{i:Int}(h:isSl M i=true):A8 M i∈M.slots:=by
 obtain⟨j,rfl,hj⟩:=(Gl M i).1 h
 unfold A8
 rw[Int.toNat_natCast,getD_lt _ _ hj]
 exact List.getElem_mem hj
theorem Nk{M:Mm}(hM:Ok M){i:Int}(h:isSl M i=true):0<=Bd M i/\Bd M i<=1000:=by
 have:=(Eg (hM.slot _ (U2 h))).1
 rw[Ag] at this
 exact this
theorem Jp{M:Mm}(hM:Ok M){i:Int}(h:isSl M i=true):-(M.heads.length:Int)<=(A8 M i).next/\(A8 M i).next<=M.slots.length:=by
 have:=(Eg (hM.slot _ (U2 h))).2.2.2
 rwa [Ag] at this
theorem Oq{M:Mm}{a:Int}:canH M a=true ↔ 0<Bd M a/\Bd M a<1000:=by simp[canH]
theorem putN_ok{M:Mm}(hM:Ok M){a:Int}(h:isSl M a=true):Ok (putN M a):=by
 unfold putN
 split
 ·exact hM
 ·have:=Nk hM h
  exact put_ok hM h (by omega) (by omega)
structure Like(M M':Mm):Prop where
 heads:M'.heads=M.heads
 locks:M'.locks=M.locks
 now:M'.now=M.now
 slots:M'.slots=M.slots\/∃ j r,j<M.slots.length/\M'.slots=M.slots.set j { M.slots.getD j sl0 with refs:=r }
theorem Like.refl(M:Mm):Like M M:=⟨rfl,rfl,rfl,.inl rfl⟩
theorem Like.len{M M':Mm}(h:Like M M'):M'.slots.length=M.slots.length:=by
 rcases h.slots with e|⟨j,r,_,e⟩ <;> rw[e]
 simp
theorem Vu{M:Mm}{i:Int}(h:isSl M i=true)(r:Int)(F:List Int):Like M { M with slots:=Dx M i r,free:=F }:=by
 obtain⟨j,rfl,hj⟩:=(Gl M i).1 h
 exact⟨rfl,rfl,rfl,.inr ⟨j,r,hj,by simp[Dx]⟩⟩
theorem Zn{M:Mm}{i:Int}(h:isSl M i=true):Like M (holdN M i):=by
 unfold holdN
 split
 ·exact Vu h _ _
 ·exact .refl M
theorem Wj{M:Mm}{i:Int}(h:isSl M i=true):Like M (putN M i):=by
 unfold putN
 split
 ·exact .refl M
 ·exact Vu h _ _
theorem I8{M:Mm}{f:Fr}(h:isAt M f=true):isSl M (f.cur - 1)=true:=by
 rw[Ce] at h
 rw[Bi]
 omega
theorem lkM_like(M:Mm)(f:Fr):Like M (lkM M f):=by
 unfold lkM Gz Bq
 repeat' split
 ·exact Zn (I8 (by assumption))
 ·exact .refl M
 ·exact Wj (by assumption)
 ·exact .refl M
 ·exact Wj (by assumption)
 ·exact .refl M
 ·exact .refl M
theorem lkF_c(M:Mm)(f:Fr):(lkF M f).c=f.c:=by
 unfold lkF Dl O5 Ef Ig H5 Iw Mc
 repeat' split
 all_goals rfl
theorem Hu(M:Mm)(f:Fr):(lkF M f).keys=f.keys:=by
 unfold lkF Dl O5 Ef Ig H5 Iw Mc
 repeat' split
 all_goals rfl
theorem Fit.to{M:Mm}{f:Fr}(h:Fit M f){n:Int}(h1:0<=n/\n<=9):Fit M (toF f n):=⟨h.call,h1,h.n,h.done,h.cur,h.prev,h.slot,h.keys⟩
theorem Fit.curTo{M:Mm}{f:Fr}(h:Fit M f){c n:Int}(h1:0<=n/\n<=9)(h2:-(M.heads.length:Int)<=c/\c<=M.slots.length):Fit M (curF f c n):=⟨h.call,h1,h.n,h.done,h2,h.prev,h.slot,h.keys⟩
theorem Fit.a2h{M:Mm}{f:Fr}(h:Fit M f){s n:Int}(h1:0<=n/\n<=9)(h2:-1<=s/\s<M.slots.length):Fit M (Ci f s n):=⟨h.call,h1,h.n,h.done,h.cur,h.prev,h2,h.keys⟩
theorem Fit.like{M M':Mm}{f:Fr}(h:Fit M f)(hl:Like M M'):Fit M' f:=by
 have e1:=hl.len
 have e2:=hl.heads
 refine⟨?_,h.pl,h.n,h.done,?_,?_,?_,h.keys⟩
 ·rw[e1,e2];exact h.call
 ·rw[e1,e2];exact h.cur
 ·rw[e1];exact h.prev
 ·rw[e1];exact h.slot
theorem lkF_fit{M:Mm}{f:Fr}(hM:Ok M)(h:Fit M f)(hd:(lkF M f).done=false):Fit (lkM M f) (lkF M f):=by
 refine Fit.like ?_ (lkM_like M f)
 revert hd
 unfold lkF Dl O5 Ef Ig H5 Iw Mc
 have hb:=Dv hM h.call
 repeat' split
 all_goals intro hd
 all_goals first
  | (cases hd;done)
  | exact h.to (by omega)
  | exact h.a2h (by omega) (by omega)
  | skip
 ·refine h.curTo (by omega) ?_
  have hh:=(hM.Lp (b:=(bkOf M.heads.length f.c).toNat) (by omega)).2
  rwa [Ag] at hh
 ·rename_i ha
  exact h.curTo (by omega) (Jp hM (I8 ha))
 ·rename_i ha
  simp only[Bool.and_eq_true] at ha
  have:=Bi.1 (I8 ha.1)
  exact h.a2h (by omega) (by omega)
end
section
def dif(l1 l2:List Sl):Nat->Nat
 | 0=>0
 | k+1=>dif l1 l2 k+if slEq (l1.getD k sl0) (l2.getD k sl0) then 0 else 1
theorem Ot(l:List Sl):∀ k,dif l l k=0
 | 0=>rfl
 | k+1=>by
  unfold dif
  rw[Ot l k,Qz]
  rfl
theorem getD_set_ne(l:List Sl){j k:Nat}(x:Sl)(h:j≠k):(l.set j x).getD k sl0=l.getD k sl0:=by
 rw[List.getD_eq_getElem?_getD,List.getD_eq_getElem?_getD,List.getElem?_set_ne h]
theorem a1q(l:List Sl)(j:Nat)(x:Sl):∀ k,dif l (l.set j x) k<=if j<k then 1 else 0
 | 0=>by simp[dif]
 | k+1=>by
  have ih:=a1q l j x k
  unfold dif
  by_cases e:j=k
  ·subst e
   rw[if_neg (Nat.lt_irrefl _)] at ih
   rw[if_pos (Nat.lt_succ_self _)]
   split <;> omega
  ·rw[getD_set_ne l x e,Qz]
   simp only[if_true,Nat.add_zero]
   by_cases h:j<k
   ·rw[if_pos h] at ih;rw[if_pos (by omega)];exact ih
   ·rw[if_neg h] at ih;omega
end
section
def Ar(M:Mm)(b:Nat):Int:=M.locks.getD b 0
def G6(M:Mm)(b:Nat)(t:Int):Mm:={ M with locks:=M.locks.set b t }
def I9(M:Mm)(a:Int)(b:Nat):Mm:={ M with slots:=M.slots.set a.toNat { A8 M a with next:=Au M b,inn:=true },heads:=M.heads.set b (a+1) }
def bkN(M:Mm)(f:Fr):Nat:=(bkOf M.heads.length f.c).toNat
def untA(M:Mm)(f:Fr):Int:=if 2000000<M.now+f.c.time then 2000000 else M.now+f.c.time
def Am(f:Fr):Fr:={ f with e:=8,pl:=7 }
def J7(M:Mm)(f:Fr):Fr:=if M.free.length=0 then endF f 7 else Ci f (Eb M) 1
def Gv(M:Mm)(f:Fr):Mm:=if M.free.length=0 then M else Ie M f.c.a f.c.b (untA M f)
def Ld(M:Mm)(f:Fr):Fr:=if Ar M (bkN M f)=-1 then toF f 2 else f
def Cm(M:Mm)(f:Fr)(t:Int):Mm:=if Ar M (bkN M f)=-1 then G6 M (bkN M f) t else M
def Pq(M:Mm)(f:Fr):Fr:=if isAt M f then toF f (if lkK (A8 M (f.cur - 1)) f then 6 else 4) else toF f 5
def Je(M:Mm)(f:Fr):Fr:=if isAt M f then curF f (A8 M (f.cur - 1)).next 3 else Am f
def Jd(M:Mm)(f:Fr):Fr:=if isSl M f.slot then { f with e:=0,pl:=7 } else Am f
def I7(M:Mm)(f:Fr):Mm:=if isSl M f.slot then I9 M f.slot (bkN M f) else M
def Po(M:Mm)(f:Fr):Fr:=if isSl M f.slot then { f with slot:=-1,e:=6,pl:=7 } else Am f
def Oc(M:Mm)(f:Fr):Mm:=if isSl M f.slot then putN M f.slot else M
def D5(M:Mm)(f:Fr)(t:Int):Mm:=if Ar M (bkN M f)=t then G6 M (bkN M f) (-1) else M
def adF(M:Mm)(f:Fr):Fr :=
 if f.pl=0 then J7 M f else if f.pl=1 then Ld M f else if f.pl=2 then curF f (Au M (bkN M f)) 3 else if f.pl=3 then Pq M f
 else if f.pl=4 then Je M f else if f.pl=5 then Jd M f else if f.pl=6 then Po M f else if f.pl=7 then endF f f.e else Am f
def adM(t:Int)(M:Mm)(f:Fr):Mm :=
 if f.pl=0 then Gv M f else if f.pl=1 then Cm M f t else if f.pl=5 then I7 M f else if f.pl=6 then Oc M f else if f.pl=7 then D5 M f t else M
theorem adF0{M:Mm}{f:Fr}(h:f.pl=0):adF M f=J7 M f:=by unfold adF;rw[if_pos h]
theorem adF1{M:Mm}{f:Fr}(h:f.pl=1):adF M f=Ld M f:=by unfold adF;rw[if_neg (by omega),if_pos h]
theorem adF2{M:Mm}{f:Fr}(h:f.pl=2):adF M f=curF f (Au M (bkN M f)) 3:=by unfold adF;rw[if_neg (by omega),if_neg (by omega),if_pos h]
theorem adF3{M:Mm}{f:Fr}(h:f.pl=3):adF M f=Pq M f:=by unfold adF;rw[if_neg (by omega),if_neg (by omega),if_neg (by omega),if_pos h]
theorem adF4{M:Mm}{f:Fr}(h:f.pl=4):adF M f=Je M f:=by unfold adF;rw[if_neg (by omega),if_neg (by omega),if_neg (by omega),if_neg (by omega),if_pos h]
theorem adF5{M:Mm}{f:Fr}(h:f.pl=5):adF M f=Jd M f:=by unfold adF;rw[if_neg (by omega),if_neg (by omega),if_neg (by omega),if_neg (by omega),if_neg (by omega),if_pos h]
theorem adF6{M:Mm}{f:Fr}(h:f.pl=6):adF M f=Po M f:=by unfold adF;rw[if_neg (by omega),if_neg (by omega),if_neg (by omega),if_neg (by omega),if_neg (by omega),if_neg (by omega),if_pos h]
theorem adF7{M:Mm}{f:Fr}(h:f.pl=7):adF M f=endF f f.e:=by unfold adF;rw[if_neg (by omega),if_neg (by omega),if_neg (by omega),if_neg (by omega),if_neg (by omega),if_neg (by omega),if_neg (by omega),if_pos h]
theorem adF8{M:Mm}{f:Fr}(h:8<=f.pl):adF M f=Am f:=by unfold adF;rw[if_neg (by omega),if_neg (by omega),if_neg (by omega),if_neg (by omega),if_neg (by omega),if_neg (by omega),if_neg (by omega),if_neg (by omega)]
theorem adM0{M:Mm}{f:Fr}{t:Int}(h:f.pl=0):adM t M f=Gv M f:=by unfold adM;rw[if_pos h]
theorem adM1{M:Mm}{f:Fr}{t:Int}(h:f.pl=1):adM t M f=Cm M f t:=by unfold adM;rw[if_neg (by omega),if_pos h]
theorem adM5{M:Mm}{f:Fr}{t:Int}(h:f.pl=5):adM t M f=I7 M f:=by unfold adM;rw[if_neg (by omega),if_neg (by omega),if_pos h]
theorem adM6{M:Mm}{f:Fr}{t:Int}(h:f.pl=6):adM t M f=Oc M f:=by unfold adM;rw[if_neg (by omega),if_neg (by omega),if_neg (by omega),if_pos h]
theorem adM7{M:Mm}{f:Fr}{t:Int}(h:f.pl=7):adM t M f=D5 M f t:=by unfold adM;rw[if_neg (by omega),if_neg (by omega),if_neg (by omega),if_neg (by omega),if_pos h]
theorem Il{M:Mm}{f:Fr}{t:Int}(h:f.pl≠0/\f.pl≠1/\f.pl≠5/\f.pl≠6/\f.pl≠7):adM t M f=M:=by unfold adM;rw[if_neg h.1,if_neg h.2.1,if_neg h.2.2.1,if_neg h.2.2.2.1,if_neg h.2.2.2.2]
theorem adF_c(M:Mm)(f:Fr):(adF M f).c=f.c:=by
 unfold adF J7 Ld Pq Je Jd Po
 repeat' split
 all_goals rfl
theorem Hg(M:Mm)(f:Fr):(adF M f).keys=f.keys:=by
 unfold adF J7 Ld Pq Je Jd Po
 repeat' split
 all_goals rfl
theorem U8{nS nH:Nat}{c:Cl}(hk:c.kind=2)(h:E5 nS nH c=0):keyB c.a c.b=true/\1<=c.time/\c.time<=1000000:=by
 obtain⟨k,a,b,t,bk,sl⟩:=c
 have hk':k=2:=hk
 subst hk'
 rw[V6] at h
 cases hb:inB t 1 1000000 && keyB a b
 ·rw[hb] at h;simp at h
 ·simp only[Bool.and_eq_true,Ag] at hb
  exact⟨hb.2,hb.1⟩
theorem a5e{M:Mm}{f:Fr}(hM:Ok M)(h1:1<=f.c.time):inB (untA M f) 0 2000000=true:=by
 have:=hM.now
 rw[Ag]
 unfold untA
 split <;> omega
structure Near(M M':Mm)(b:Nat):Prop where
 now:M'.now=M.now
 ns:M'.slots.length=M.slots.length
 nh:M'.heads.length=M.heads.length
 nl:M'.locks.length=M.locks.length
 heads:∀ i,i≠b->M'.heads[i]?=M.heads[i]?
 locks:∀ i,i≠b->M'.locks[i]?=M.locks[i]?
 dif:∀ k,dif M.slots M'.slots k<=1
 free:M'.free.length<=M.free.length+1/\M.free.length<=M'.free.length+1
theorem Near.refl(M:Mm)(b:Nat):Near M M b:=⟨rfl,rfl,rfl,rfl,fun _ _=>rfl,fun _ _=>rfl,(fun k=>by rw[Ot];omega),by omega⟩
theorem Ou(l:List Sl)(j:Nat)(x:Sl)(k:Nat):dif l (l.set j x) k<=1:=by
 have:=a1q l j x k
 split at this <;> omega
theorem a4x(M:Mm)(b:Nat)(ka kb u:Int):Near M (Ie M ka kb u) b :=
 ⟨rfl,by simp[Ie],rfl,rfl,fun _ _=>rfl,fun _ _=>rfl,(fun k=>Ou _ _ _ k),by simp[Ie];omega⟩
theorem Qp(M:Mm)(b:Nat)(t:Int):Near M (G6 M b t) b :=
 ⟨rfl,rfl,rfl,by simp[G6],fun _ _=>rfl,(fun i hi=>by simp only[G6];rw[List.getElem?_set_ne (by omega)]),(fun k=>by show dif M.slots M.slots k<=1;rw[Ot];omega),by simp[G6]⟩
theorem a2w(M:Mm)(a:Int)(b:Nat):Near M (I9 M a b) b :=
 ⟨rfl,by simp[I9],by simp[I9],rfl,(fun i hi=>by simp only[I9];rw[List.getElem?_set_ne (by omega)]),fun _ _=>rfl,(fun k=>Ou _ _ _ k),by simp[I9]⟩
theorem Qw(M:Mm)(a:Int)(b:Nat):Near M (putN M a) b:=by
 unfold putN
 split
 ·exact .refl M b
 ·refine⟨rfl,by simp[putM,Dx],rfl,rfl,fun _ _=>rfl,fun _ _=>rfl,(fun k=>Ou _ _ _ k),?_⟩
  unfold putM
  dsimp only
  split
  ·simp only[List.length_append,List.length_cons,List.length_nil];omega
  ·omega
theorem Y1(t:Int)(M:Mm)(f:Fr):Near M (adM t M f) (bkN M f):=by
 unfold adM Gv Cm I7 Oc D5
 repeat' split
 all_goals first
  | exact .refl _ _
  | exact a4x _ _ _ _ _
  | exact Qp _ _ _
  | exact a2w _ _ _
  | exact Qw _ _ _
theorem Fit.near{M M':Mm}{f:Fr}{b:Nat}(h:Fit M f)(hl:Near M M' b):Fit M' f:=by
 have e1:=hl.ns
 have e2:=hl.nh
 refine⟨?_,h.pl,h.n,h.done,?_,?_,?_,h.keys⟩
 ·rw[e1,e2];exact h.call
 ·rw[e1,e2];exact h.cur
 ·rw[e1];exact h.prev
 ·rw[e1];exact h.slot
theorem Fit.late{M:Mm}{f:Fr}(h:Fit M f):Fit M (Am f):=⟨h.call,by simp[Am],h.n,h.done,h.cur,h.prev,h.slot,h.keys⟩
theorem adF_fit{M:Mm}{f:Fr}(t:Int)(hM:Ok M)(h:Fit M f)(hd:(adF M f).done=false):Fit (adM t M f) (adF M f):=by
 refine Fit.near ?_ (Y1 t M f)
 revert hd
 unfold adF J7 Ld Pq Je Jd Po
 have hb:=Dv hM h.call
 repeat' split
 all_goals intro hd
 all_goals first
  | (cases hd;done)
  | exact h.late
  | exact h
  | exact h.to (by omega)
  | skip
 ·rename_i hf
  have:=Un hM (by omega)
  exact h.a2h (by omega) (by omega)
 ·refine h.curTo (by omega) ?_
  have hh:=(hM.Lp (b:=bkN M f) (by unfold bkN;omega)).2
  rwa [Ag] at hh
 ·rename_i ha
  exact h.curTo (by omega) (Jp hM (I8 ha))
 ·exact⟨h.call,by simp,h.n,h.done,h.cur,h.prev,h.slot,h.keys⟩
 ·exact⟨h.call,by simp,h.n,h.done,h.cur,h.prev,by constructor <;> simp <;> omega,h.keys⟩
theorem lock_ok{M:Mm}(h:Ok M)(b:Nat){t:Int}(ht:-1<=t/\t<=4):Ok (G6 M b t):=by
 refine⟨h.ns,h.nh,by simp[G6,h.nl],h.now,h.slot,?_,h.free,h.nodup,h.all⟩
 intro p hp
 simp only[G6] at hp ⊢
 obtain⟨i,hi,e⟩:=List.getElem_of_mem hp
 rw[List.getElem_zip] at e
 have hi':i<M.heads.length/\i<M.locks.length:=by simp at hi;omega
 have h0:=h.chain (M.heads[i]'hi'.1,M.locks[i]'hi'.2) (by
  rw[<- List.getElem_zip (h:=by simp;omega)]
  exact List.getElem_mem _)
 subst e
 unfold Dp at h0 ⊢
 dsimp only at h0 ⊢
 by_cases hc:M.heads[i]'hi'.1≠0/\inB (M.heads[i]'hi'.1) (-(M.heads.length:Int)) M.slots.length
 ·rw[if_pos hc] at h0 ⊢
  rw[if_pos]
  rw[List.getElem_set]
  split
  ·rw[Ag];exact ht
  ·by_cases hl:inB (M.locks[i]'hi'.2) (-1) 4=true
   ·exact hl
   ·rw[if_neg hl] at h0;omega
 ·rw[if_neg hc] at h0;omega
end
section
theorem lkF0{M:Mm}{f:Fr}(h:f.pl=0):lkF M f=Dl M f:=by unfold lkF;rw[if_pos h]
theorem lkF1{M:Mm}{f:Fr}(h:f.pl=1):lkF M f=O5 M f:=by unfold lkF;rw[if_neg (by omega),if_pos h]
theorem lkF2{M:Mm}{f:Fr}(h:f.pl=2):lkF M f=Ef M f:=by unfold lkF;rw[if_neg (by omega),if_neg (by omega),if_pos h]
theorem lkF3{M:Mm}{f:Fr}(h:f.pl=3):lkF M f=Ig M f:=by unfold lkF;rw[if_neg (by omega),if_neg (by omega),if_neg (by omega),if_pos h]
theorem lkF4{M:Mm}{f:Fr}(h:f.pl=4):lkF M f=H5 M f:=by unfold lkF;rw[if_neg (by omega),if_neg (by omega),if_neg (by omega),if_neg (by omega),if_pos h]
theorem lkF5{M:Mm}{f:Fr}(h:f.pl=5):lkF M f=Iw M f:=by unfold lkF;rw[if_neg (by omega),if_neg (by omega),if_neg (by omega),if_neg (by omega),if_neg (by omega),if_pos h]
theorem lkF6{M:Mm}{f:Fr}(h:f.pl=6):lkF M f=Mc M f:=by unfold lkF;rw[if_neg (by omega),if_neg (by omega),if_neg (by omega),if_neg (by omega),if_neg (by omega),if_neg (by omega),if_pos h]
theorem lkF7{M:Mm}{f:Fr}(h:7<=f.pl):lkF M f=toF f 0:=by unfold lkF;rw[if_neg (by omega),if_neg (by omega),if_neg (by omega),if_neg (by omega),if_neg (by omega),if_neg (by omega),if_neg (by omega)]
theorem Dy{M:Mm}{f:Fr}(h:f.pl≠3/\f.pl≠5/\f.pl≠6):lkM M f=M:=by unfold lkM;rw[if_neg h.1,if_neg h.2.1,if_neg h.2.2]
theorem lkM3{M:Mm}{f:Fr}(h:f.pl=3):lkM M f=Gz M f:=by unfold lkM;rw[if_pos h]
theorem lkM5{M:Mm}{f:Fr}(h:f.pl=5):lkM M f=Bq M f:=by unfold lkM;rw[if_neg (by omega),if_pos h]
theorem lkM6{M:Mm}{f:Fr}(h:f.pl=6):lkM M f=Bq M f:=by unfold lkM;rw[if_neg (by omega),if_neg (by omega),if_pos h]
end
end Go.Proofs.YthhgoenomehobaaGreat.mm
