/- Parts. -/
import Derived.Test.YthhgoenomehobaaGreatS01
import Derived.Test.YthhgoenomehobaaGreatS03
import Derived.Test.YthhgoenomehobaaGreatS02
namespace Go.Proofs.YthhgoenomehobaaGreat.mm
set_option maxRecDepth 100000
set_option linter.unusedVariables false
section
def Bf(M:Mm):List Fl:=(Ba M).map (Bj M)
theorem run_go{nf:Mm->Fr->Fr}{nm:Mm->Fr->Mm}{k:Nat}{M:Mm}{f:Fr}(h:(nf M f).done=false):run nf nm (k+1) M f=run nf nm k (nm M f) (nf M f):=by
 show (if (nf M f).done then (nm M f,nf M f,true) else run nf nm k (nm M f) (nf M f))=_
 rw[h];rfl
theorem run_end{nf:Mm->Fr->Fr}{nm:Mm->Fr->Mm}{k:Nat}{M:Mm}{f:Fr}(h:(nf M f).done=true):run nf nm (k+1) M f=(nm M f,nf M f,true):=by
 show (if (nf M f).done then (nm M f,nf M f,true) else run nf nm k (nm M f) (nf M f))=_
 rw[h];rfl
theorem L8{S S':List Sl}(h:∀ n:Int,J8 S' n=J8 S n):∀ (k:Nat) (n:Int),H5 S' k n=H5 S k n/\Ie S' k n=Ie S k n
 | 0,n=>⟨rfl,rfl⟩
 | k+1,n=>by
  unfold H5 Ie
  rw[h n,(L8 h k _).1,(L8 h k _).2]
  exact⟨rfl,rfl⟩
theorem Tn{M M':Mm}{s:Int}(h:OkC M)(ho:Ok M')(hh:M'.heads=M.heads)(hn:M'.slots.length=M.slots.length)(hs:s ∉ Ba M)(hs0:0<=s)
  (hx:∀ x:Int,x.toNat≠s.toNat->A7 M' x=A7 M x) (hnx:(A7 M' s).next=(A7 M s).next) :
  OkC M'/\(∀ b,chL M' b=chL M b)/\Ba M'=Ba M/\∀ a∈Ba M,A7 M' a=A7 M a:=by
 have hnext:∀ n:Int,J8 M'.slots n=J8 M.slots n:=fun n=>by
  by_cases e:(n - 1).toNat=s.toNat
  ·have h1:(A7 M' s).next=(A7 M s).next:=hnx
   unfold A7 at h1
   unfold J8
   rw[e];exact h1
  ·have h1:=hx (n - 1) e
   unfold A7 at h1
   unfold J8
   rw[h1]
 have hL:∀ b,chL M' b=chL M b:=fun b=>by unfold chL Ar;rw[hn,hh];exact(L8 hnext _ _).1
 have hE:∀ b,chE M' b=chE M b:=fun b=>by unfold chE Ar;rw[hn,hh];exact(L8 hnext _ _).2
 have hA:Ba M'=Ba M:=by unfold Ba Bg;rw[hh];exact Es fun c _=>hL c
 have hat:∀ a∈Ba M,A7 M' a=A7 M a:=fun a ha=>hx a fun e=>hs (by
  have:=(h.Ha a ha).1
  rw[show s=a by omega];exact ha)
 refine⟨⟨ho,fun b hb=>?_,fun b hb a ha=>?_,?_⟩,hL,hA,hat⟩
 ·rw[hh] at hb;rw[hE];exact h.ends b hb
 ·rw[hh] at hb
  rw[hL] at ha
  rw[hat a (E5.2 ⟨b,hb,ha⟩),hh]
  exact h.held b hb a ha
 ·rw[hA]
  have:(Ba M).map (keyAt M')=(Ba M).map (keyAt M):=List.map_congr_left fun a ha=>by unfold keyAt;rw[hat a ha]
  rw[this];exact h.keys
theorem a6q{M M':Mm}(hA:Ba M'=Ba M)(hat:∀ a∈Ba M,A7 M' a=A7 M a):Bf M'=Bf M:=by
 unfold Bf
 rw[hA]
 exact List.map_congr_left fun a ha=>by unfold Bj;rw[hat a ha]
theorem Ic{M:Mm}{S:List Sl}{F:List Int}{s:Int}{v:Sl}(hs:Be M s=true)(hS:S=M.slots.set s.toNat v)(x:Int):A7 { M with slots:=S,free:=F } x=if x.toNat=s.toNat then v else A7 M x:=by
 obtain⟨j,rfl,hj⟩:=(Fv M s).1 hs
 subst hS
 unfold A7
 rw[List.getD_eq_getElem?_getD,List.getD_eq_getElem?_getD,Int.toNat_natCast,List.getElem?_set]
 by_cases e:j=x.toNat
 ·subst e;simp[hj]
 ·rw[if_neg e,if_neg (fun h=>e h.symm)]
theorem Rz{M:Mm}(h:OkC M){s:Int}(hr:Ap M s=0):s ∉ Ba M:=fun hm=>by
 obtain⟨b,hb,ha⟩:=E5.1 hm
 exact(h.held b hb s ha).1 hr
theorem Ns{M:Mm}(h:OkC M)(b:Nat){t:Int}(ht:-1<=t/\t<=4):OkC (Bh M b t):=⟨Zl h.ok b ht,h.ends,h.held,h.keys⟩
theorem V7{M:Mm}(h:OkC M){b:Nat}(hb:b<M.heads.length):(chL M b).length<=M.slots.length:=by
 have h1:=b0s M.slots.length (chL M b) (h.nodup hb) (h.slots hb)
 exact h1
theorem b3y{M:Mm}(hM:OkC M){c:Cl}{b:Nat}(hb:b<M.heads.length) :
  ∀ (l:List Int) (k:Nat) (f:Fr),f.c=c->f.pl=3->f.done=false->Path M.slots f.cur l (-1 - (b:Int))->(∀ a∈l,a∈chL M b)->2*l.length+1<=k ->
   ∃ k' f',run adF (adM 0) k M f=run adF (adM 0) k' M f'/\k<=k'+(2*l.length+1)/\f'.c=c/\f'.done=false/\f'.slot=f.slot/\f'.pl=if l.any (fun a=>keyAt M a==(c.a,c.b)) then 6 else 5:=by
 intro l
 induction l with
 | nil =>
  intro k f hc hp hd hpath hin hk
  obtain⟨k,rfl⟩:∃ k0,k=k0+1:=⟨k - 1,by omega⟩
  have hat:D7 M f=false:=by
   have h1:f.cur=-1 - (b:Int):=hpath.1
   cases h:D7 M f
   ·rfl
   ·rw[Bv] at h;omega
  have e:adF M f=toF f 5:=by rw[a9o hp];unfold Lu;rw[hat];rfl
  have em:adM 0 M f=M:=H9 (by omega)
  refine⟨k,toF f 5,?_,by simp,hc,hd,rfl,rfl⟩
  rw[run_go (by rw[e];exact hd),e,em]
 | cons a l ih =>
  intro k f hc hp hd hpath hin hk
  obtain⟨k,rfl⟩:∃ k0,k=k0+1:=⟨k - 1,by omega⟩
  obtain⟨h1,h2,h3⟩:=hpath
  have ha:=hM.slots hb a (hin a (by simp))
  have hcur:f.cur - 1=a:=by omega
  have hat:D7 M f=true:=Bv.2 (by omega)
  have em:adM 0 M f=M:=H9 (by omega)
  have hkk:lkK (A7 M a) f=(keyAt M a==(c.a,c.b)):=by
   unfold lkK keyAt
   rw[hc]
   rfl
  cases hkey:(keyAt M a==(c.a,c.b))
  ·have e:adF M f=toF f 4:=by rw[a9o hp];unfold Lu;rw[hat,hcur,hkk,hkey];rfl
   obtain⟨k2,rfl⟩:∃ k2,k=k2+1:=⟨k - 1,by simp only[List.length_cons] at hk;omega⟩
   have e2:adF M (toF f 4)=Bl (toF f 4) (A7 M a).next 3:=by
    rw[b7w rfl];unfold Jm
    rw[if_pos (show D7 M (toF f 4)=true from hat)]
    show Bl (toF f 4) (A7 M (f.cur - 1)).next 3=_
    rw[hcur]
   have em2:adM 0 M (toF f 4)=M:=H9 (by simp[toF])
   obtain⟨k',f',r1,r2,r3,r4,r5,r6⟩:=ih k2 (Bl (toF f 4) (A7 M a).next 3) hc rfl hd h3 (fun x hx=>hin x (by simp[hx])) (by simp only[List.length_cons] at hk;omega)
   refine⟨k',f',?_,by simp only[List.length_cons];omega,r3,r4,r5,?_⟩
   ·rw[run_go (by rw[e];exact hd),e,em,run_go (by rw[e2];exact hd),e2,em2]
    exact r1
   ·rw[r6,List.any_cons,hkey]
    rfl
  ·have e:adF M f=toF f 6:=by rw[a9o hp];unfold Lu;rw[hat,hcur,hkk,hkey];rfl
   refine⟨k,toF f 6,?_,by simp only[List.length_cons];omega,hc,hd,rfl,?_⟩
   ·rw[run_go (by rw[e];exact hd),e,em]
   ·rw[List.any_cons,hkey]
    rfl
theorem Yb{M:Mm}(hM:Ok M){c:Cl}(hk:¬ (c.kind=4\/c.kind=5))(hkey:Ee c.a c.b=true):G7 M.heads.length c=Eh c.a c.b M.heads.length:=by
 obtain⟨n1,n2⟩:=hM.nh
 unfold G7
 rw[if_neg hk,if_pos hkey,if_pos ⟨n1,n2⟩]
theorem Xn{l:List Int}{b:Nat}{t:Int}(h:∀ x∈l,x=-1):(l.set b t).set b (-1)=l:=by
 rw[List.set_set]
 apply List.ext_getElem?
 intro i
 rw[List.getElem?_set]
 by_cases e:b=i
 ·subst e
  rw[if_pos rfl]
  by_cases hb:b<l.length
  ·rw[if_pos hb,List.getElem?_eq_getElem hb,h _ (List.getElem_mem hb)]
  ·rw[if_neg hb,List.getElem?_eq_none (by omega)]
 ·rw[if_neg e]
theorem Ob{M:Mm}{b:Nat}{t:Int}(hb:b<M.locks.length):Ak (Bh M b t) b=t:=by
 unfold Ak Bh
 simp[List.getD_eq_getElem?_getD,hb]
end
section
open Go.ChangeShapes Go.WideShapes Go.ChangeAt Go.RowKit Go.Joins
variable {Xb:Ex}
structure Env(w0 w:World)(L:List (Nat × Obj))(K:List (Value × Mm)):Prop where
 bl:Below w0.heap.size w0 w
 box:∀ p∈L,w.heap[p.1]?=some p.2
 mem:∀ p∈K,Ans 0 w p.1 p.2
theorem Env.below{w0 w w':World}{L:List (Nat × Obj)}{K:List (Value × Mm)}(E:Env w0 w L K)(hb:Below w.heap.size w w'):Env w0 w' L K :=
 ⟨E.bl.trans (hb.mono E.bl.size),fun p hp=>(hb.block p.1 (by
  have:=E.box p hp
  exact(Array.getElem?_eq_some_iff.1 this).1)).trans (E.box p hp),fun p hp=>(E.mem p hp).below hb⟩
theorem Env.alloc{w0 w:World}{L:List (Nat × Obj)}{K:List (Value × Mm)}(E:Env w0 w L K)(o:Obj):Env w0 (w.alloc o) ((w.heap.size,o) :: L) K:=by
 have h:=E.below (Ad w o)
 refine⟨h.bl,fun p hp=>?_,h.mem⟩
 rcases List.mem_cons.1 hp with rfl|hp
 ·exact heap_alloc_new w o
 ·exact h.box p hp
theorem Env.lt{w0 w:World}{L:List (Nat × Obj)}{K:List (Value × Mm)}(E:Env w0 w L K){B:Nat}{o:Obj}(h:(B,o)∈L):B<w.heap.size:=(Array.getElem?_eq_some_iff.1 (E.box _ h)).1
end
section
def Dl(f:Fr)(p c n:Int):Fr:={ f with prev:=p,cur:=c,pl:=n }
def Cf(f:Fr)(e n:Int):Fr:={ f with e:=e,pl:=n }
def Fh(M:Mm)(f:Fr):Fr:=if Ak M (bkN M f)=-1 then toF f 1 else f
def Mc(M:Mm)(f:Fr):Fr:=if D7 M f then toF f (if lkK (A7 M (f.cur - 1)) f then 4 else 3) else Cf f 5 5
def Jo(M:Mm)(f:Fr):Fr:=if D7 M f then Dl f f.cur (A7 M (f.cur - 1)).next 2 else Cf f 8 5
def Oq(M:Mm)(f:Fr):Fr:=if D7 M f then { f with slot:=f.cur - 1,e:=0,pl:=5 } else Cf f 8 5
def Gl(M:Mm)(f:Fr):Mm:=if D7 M f then Ey M (bkN M f) f.prev (f.cur - 1) else M
def Gv(M:Mm)(f:Fr):Mm:=if Be M f.slot then Ec M f.slot else M
def drF(M:Mm)(f:Fr):Fr :=
 if f.pl=0 then Fh M f else if f.pl=1 then Dl f 0 (Ar M (bkN M f)) 2 else if f.pl=2 then Mc M f else if f.pl=3 then Jo M f
 else if f.pl=4 then Oq M f else if f.pl=5 then toF f 6 else if f.pl=6 then Af { f with slot:=-1 } f.e else Cf f 8 5
def drM(t:Int)(M:Mm)(f:Fr):Mm :=
 if f.pl=0 then Dz M f t else if f.pl=4 then Gl M f else if f.pl=5 then Du M f t else if f.pl=6 then Gv M f else M
theorem b8g{M:Mm}{f:Fr}(h:f.pl=0):drF M f=Fh M f:=by unfold drF;rw[if_pos h]
theorem b8h{M:Mm}{f:Fr}(h:f.pl=1):drF M f=Dl f 0 (Ar M (bkN M f)) 2:=by unfold drF;rw[if_neg (by omega),if_pos h]
theorem b0g{M:Mm}{f:Fr}(h:f.pl=2):drF M f=Mc M f:=by unfold drF;rw[if_neg (by omega),if_neg (by omega),if_pos h]
theorem b8i{M:Mm}{f:Fr}(h:f.pl=3):drF M f=Jo M f:=by unfold drF;rw[if_neg (by omega),if_neg (by omega),if_neg (by omega),if_pos h]
theorem b8j{M:Mm}{f:Fr}(h:f.pl=4):drF M f=Oq M f:=by unfold drF;rw[if_neg (by omega),if_neg (by omega),if_neg (by omega),if_neg (by omega),if_pos h]
theorem b4n{M:Mm}{f:Fr}(h:f.pl=5):drF M f=toF f 6:=by unfold drF;rw[if_neg (by omega),if_neg (by omega),if_neg (by omega),if_neg (by omega),if_neg (by omega),if_pos h]
theorem b4o{M:Mm}{f:Fr}(h:f.pl=6):drF M f=Af { f with slot:=-1 } f.e:=by unfold drF;rw[if_neg (by omega),if_neg (by omega),if_neg (by omega),if_neg (by omega),if_neg (by omega),if_neg (by omega),if_pos h]
theorem drF7{M:Mm}{f:Fr}(h:7<=f.pl):drF M f=Cf f 8 5:=by unfold drF;rw[if_neg (by omega),if_neg (by omega),if_neg (by omega),if_neg (by omega),if_neg (by omega),if_neg (by omega),if_neg (by omega)]
theorem b8k{M:Mm}{f:Fr}{t:Int}(h:f.pl=0):drM t M f=Dz M f t:=by unfold drM;rw[if_pos h]
theorem b8l{M:Mm}{f:Fr}{t:Int}(h:f.pl=4):drM t M f=Gl M f:=by unfold drM;rw[if_neg (by omega),if_pos h]
theorem b4q{M:Mm}{f:Fr}{t:Int}(h:f.pl=5):drM t M f=Du M f t:=by unfold drM;rw[if_neg (by omega),if_neg (by omega),if_pos h]
theorem b4r{M:Mm}{f:Fr}{t:Int}(h:f.pl=6):drM t M f=Gv M f:=by unfold drM;rw[if_neg (by omega),if_neg (by omega),if_neg (by omega),if_pos h]
theorem Gp{M:Mm}{f:Fr}{t:Int}(h:f.pl≠0/\f.pl≠4/\f.pl≠5/\f.pl≠6):drM t M f=M:=by unfold drM;rw[if_neg h.1,if_neg h.2.1,if_neg h.2.2.1,if_neg h.2.2.2]
theorem b7o(M:Mm)(f:Fr):(drF M f).c=f.c:=by
 unfold drF Fh Mc Jo Oq
 repeat' split
 all_goals rfl
theorem L9(M:Mm)(f:Fr):(drF M f).keys=f.keys:=by
 unfold drF Fh Mc Jo Oq
 repeat' split
 all_goals rfl
theorem a0v(l:List Sl)(j k:Nat)(x:Sl):(l.set j x).getD k sl0=if j=k/\j<l.length then x else l.getD k sl0:=by
 rw[List.getD_eq_getElem?_getD,List.getD_eq_getElem?_getD,List.getElem?_set]
 by_cases e:j=k
 ·subst e
  by_cases h:j<l.length
  ·rw[if_pos rfl,if_pos h,if_pos ⟨rfl,h⟩];rfl
  ·rw[if_pos rfl,if_neg h,if_neg (fun h'=>h h'.2),List.getElem?_eq_none (by omega)]
 ·rw[if_neg e,if_neg (fun h=>e h.1)]
theorem Yh(M:Mm)(b:Nat)(p a:Int):Vj M (Ey M b p a) b:=by
 unfold Ey
 split
 ·exact⟨rfl,by simp,rfl,rfl,fun _ _=>rfl,fun _ _=>rfl,(fun k=>Rn _ _ _ k),by simp⟩
 ·exact⟨rfl,rfl,by simp,rfl,(fun i hi=>by dsimp only;rw[List.getElem?_set_ne (by omega)]),fun _ _=>rfl,(fun k=>by show dif M.slots M.slots k<=1;rw[Rl];omega),by simp⟩
theorem b0h(t:Int)(M:Mm)(f:Fr):Vj M (drM t M f) (bkN M f):=by
 unfold drM Dz Gl Du Gv
 repeat' split
 all_goals first
  | exact .refl _ _
  | exact Ud _ _ _
  | exact Yh _ _ _ _
  | exact Uh _ _ _
theorem Fit.err{M:Mm}{f:Fr}(h:Fit M f)(e:Int){n:Int}(h1:0<=n/\n<=9):Fit M (Cf f e n):=⟨h.call,h1,h.n,h.done,h.cur,h.prev,h.slot,h.keys⟩
theorem Fit.Zp{M:Mm}{f:Fr}(h:Fit M f){p c n:Int}(h1:0<=n/\n<=9)(h2:-(M.heads.length:Int)<=c/\c<=M.slots.length)(h3:0<=p/\p<=M.slots.length):Fit M (Dl f p c n):=⟨h.call,h1,h.n,h.done,h2,h3,h.slot,h.keys⟩
theorem b4p{M:Mm}{f:Fr}(t:Int)(hM:Ok M)(h:Fit M f)(hd:(drF M f).done=false):Fit (drM t M f) (drF M f):=by
 refine Fit.near ?_ (b0h t M f)
 revert hd
 unfold drF Fh Mc Jo Oq
 have hb:=Ej hM h.call
 have hhd:-(M.heads.length:Int)<=Ar M (bkN M f)/\Ar M (bkN M f)<=M.slots.length:=by
  have hh:=(hM.O8 (b:=bkN M f) (by unfold bkN;omega)).2
  rwa [Ai] at hh
 repeat' split
 all_goals intro hd
 all_goals first
  | (cases hd;done)
  | exact h
  | exact h.to (by omega)
  | exact h.err _ (by omega)
  | exact h.Zp (by omega) hhd (by omega)
  | skip
 ·rename_i ha
  exact h.Zp (by omega) (Nz hM (Ko ha)) (by have:=Bv.1 ha;omega)
 ·rename_i ha
  have:=Bv.1 ha
  exact⟨h.call,by simp,h.n,h.done,h.cur,h.prev,by constructor <;> simp <;> omega,h.keys⟩
end
section
def Goes(nf:Mm->Fr->Fr)(nm:Mm->Fr->Mm):Nat->Mm->Fr->Mm->Fr->Prop
 | 0,_,_,_,_=>False
 | k+1,M,f,X,g=>Ok M/\(((nf M f).done=true/\X=nm M f/\g=nf M f)\/((nf M f).done=false/\Goes nf nm k (nm M f) (nf M f) X g))
theorem Di{nf:Mm->Fr->Fr}{nm:Mm->Fr->Mm}{k:Nat}{M N X:Mm}{f f' g:Fr}(h:Ok M)(e:nf M f=f')(em:nm M f=N)(hd:f'.done=false)(hg:Goes nf nm k N f' X g):Goes nf nm (k+1) M f X g:=by
 subst e em
 exact⟨h,.inr ⟨hd,hg⟩⟩
theorem S9{nf:Mm->Fr->Fr}{nm:Mm->Fr->Mm}{k:Nat}{M N:Mm}{f f':Fr}(h:Ok M)(e:nf M f=f')(em:nm M f=N)(hd:f'.done=true):Goes nf nm (k+1) M f N f':=by
 subst e em
 exact⟨h,.inl ⟨hd,rfl,rfl⟩⟩
theorem Si{nf:Mm->Fr->Fr}{nm:Mm->Fr->Mm}:∀ {k:Nat} {M X:Mm} {f g:Fr},Goes nf nm k M f X g->run nf nm k M f=(X,g,true)
 | 0,_,_,_,_,h=>h.elim
 | k+1,M,X,f,g,⟨_,.inl ⟨hd,hX,hg⟩⟩=>by rw[run_end hd,hX,hg]
 | k+1,M,X,f,g,⟨_,.inr ⟨hd,h⟩⟩=>by rw[run_go hd,Si h]
def Fp(l:List Int):Int:=match l.getLast? with|none=>0|some p=>p+1
theorem Oa(l:List Int)(a:Int):Fp (l ++ [a])=a+1:=by simp[Fp]
theorem b4w{M:Mm}(hM:OkC M){c:Cl}{b:Nat}(hb:b<M.heads.length) :
  ∀ (l l1:List Int) (k:Nat) (f:Fr),chL M b=l1++l->f.c=c->f.pl=2->f.done=false->f.prev=Fp l1->Path M.slots f.cur l (-1 - (b:Int))->2*l.length+1<=k ->
   ∃ k' f',(∀ X g,Goes drF (drM 0) k' M f' X g->Goes drF (drM 0) k M f X g)/\k<=k'+(2*l.length+1)/\f'.c=c/\f'.done=false/\f'.slot=f.slot /\
    match l.find? (fun a=>keyAt M a==(c.a,c.b)) with
    | none=>f'.pl=5/\f'.e=5
    | some a=>f'.pl=4/\f'.cur=a+1/\∃ m1 m2,chL M b=m1++a :: m2/\f'.prev=Fp m1:=by
 intro l
 induction l with
 | nil =>
  intro l1 k f hl hc hp hd hpr hpath hk
  obtain⟨k,rfl⟩:∃ k0,k=k0+1:=⟨k - 1,by omega⟩
  have hat:D7 M f=false:=by
   have h1:f.cur=-1 - (b:Int):=hpath.1
   cases h:D7 M f
   ·rfl
   ·rw[Bv] at h;omega
  have e:drF M f=Cf f 5 5:=by rw[b0g hp];unfold Mc;rw[hat];rfl
  have em:drM 0 M f=M:=Gp (by omega)
  exact⟨k,Cf f 5 5,fun X g h=>Di hM.ok e em hd h,by simp,hc,hd,rfl,rfl,rfl⟩
 | cons a l ih =>
  intro l1 k f hl hc hp hd hpr hpath hk
  obtain⟨k,rfl⟩:∃ k0,k=k0+1:=⟨k - 1,by omega⟩
  obtain⟨h1,h2,h3⟩:=hpath
  have ha:=hM.slots hb a (by rw[hl];simp)
  have hcur:f.cur - 1=a:=by omega
  have hat:D7 M f=true:=Bv.2 (by omega)
  have em:drM 0 M f=M:=Gp (by omega)
  have hkk:lkK (A7 M a) f=(keyAt M a==(c.a,c.b)):=by
   unfold lkK keyAt
   rw[hc]
   rfl
  cases hkey:(keyAt M a==(c.a,c.b))
  ·have e:drF M f=toF f 3:=by rw[b0g hp];unfold Mc;rw[hat,hcur,hkk,hkey];rfl
   obtain⟨k2,rfl⟩:∃ k2,k=k2+1:=⟨k - 1,by simp only[List.length_cons] at hk;omega⟩
   have e2:drF M (toF f 3)=Dl (toF f 3) f.cur (A7 M a).next 2:=by
    rw[b8i rfl];unfold Jo
    rw[if_pos (show D7 M (toF f 3)=true from hat)]
    show Dl (toF f 3) f.cur (A7 M (f.cur - 1)).next 2=_
    rw[hcur]
   have em2:drM 0 M (toF f 3)=M:=Gp (by simp[toF])
   obtain⟨k',f',r1,r2,r3,r4,r5,r6⟩:=ih (l1 ++ [a]) k2 (Dl (toF f 3) f.cur (A7 M a).next 2) (by rw[hl];simp) hc rfl hd (by rw[Oa];show f.cur=a+1;omega) h3 (by simp only[List.length_cons] at hk;omega)
   refine⟨k',f',fun X g h=>Di hM.ok e em hd (Di hM.ok e2 em2 hd (r1 X g h)),by simp only[List.length_cons];omega,r3,r4,r5,?_⟩
   rw[List.find?_cons_of_neg (by rw[hkey];simp)]
   exact r6
  ·have e:drF M f=toF f 4:=by rw[b0g hp];unfold Mc;rw[hat,hcur,hkk,hkey];rfl
   refine⟨k,toF f 4,fun X g h=>Di hM.ok e em hd h,by simp only[List.length_cons];omega,hc,hd,rfl,?_⟩
   rw[List.find?_cons_of_pos (by rw[hkey])]
   exact⟨rfl,by show f.cur=a+1;omega,l1,l,hl,hpr⟩
theorem Vy{M M':Mm}{a:Int}{b:Nat}(hb:b<M.heads.length)(C:a2g M M' a b):∃ p q,Ba M=p++a :: q/\Ba M'=p++q:=by
 obtain⟨l1,l2,e1,e2⟩:=C.at_
 obtain⟨r1,s1,t1⟩:=Hy M hb
 obtain⟨r2,s2,t2⟩:=Hy M' (b:=b) (by rw[C.nh];exact hb)
 have hA:Bg M' b=Bg M b:=by
  unfold Bg
  exact Es fun c hc=>C.else_ c (by have:=List.mem_range.1 hc;omega) (by have:=List.mem_range.1 hc;omega)
 have hR:r2=r1:=by
  rw[t2,t1,C.nh]
  refine Es fun c hc=>?_
  obtain⟨d,hd,rfl⟩:=List.mem_map.1 hc
  have:=List.mem_range.1 hd
  exact C.else_ _ (by omega) (by omega)
 refine⟨Bg M b++l1,l2++r1,?_,?_⟩
 ·rw[s1,e1];simp
 ·rw[s2,e2,hA,hR];simp
def Dropped(M:Mm)(c:Cl)(X:Mm)(g:Fr):Prop :=
 if hasK M (Ba M) (c.a,c.b) then ∃ a p q,Ba M=p++a :: q/\keyAt M a=(c.a,c.b)/\g.e=0/\OkC X/\X.locks=M.locks/\X.slots.length=M.slots.length/\Bf X=(p++q).map (Bj M)/\Ap X a=Ap M a - 1
 else X=M/\g.e=5
end
section
def Oj(M:Mm)(f:Fr):List (Int × Int):=if f.keys.length<100 then f.keys ++ [keyAt M (f.cur - 1)] else f.keys
def Fg(M:Mm)(f:Fr):Fr :=
 if D7 M f then (if f.c.kind=5 then { f with keys:=Oj M f,pl:=3 } else if M.now<(A7 M (f.cur - 1)).unt then toF f 3 else toF f 4) else toF f 6
def Hr(M:Mm)(f:Fr):Fr:=if D7 M f then Dl f f.cur (A7 M (f.cur - 1)).next 2 else toF f 6
def Ls(M:Mm)(f:Fr):Fr:=if D7 M f then { f with slot:=f.cur - 1,cur:=(A7 M (f.cur - 1)).next,pl:=5 } else toF f 6
def J5(M:Mm)(f:Fr):Fr:=if Be M f.slot then { f with slot:=-1,n:=if f.n<1000000 then f.n+1 else f.n,pl:=2 } else toF f 6
def swF(M:Mm)(f:Fr):Fr :=
 if f.pl=0 then Fh M f else if f.pl=1 then Dl f 0 (Ar M (bkN M f)) 2 else if f.pl=2 then Fg M f else if f.pl=3 then Hr M f
 else if f.pl=4 then Ls M f else if f.pl=5 then J5 M f else if f.pl=6 then Af f 0 else toF f 6
def swM(t:Int)(M:Mm)(f:Fr):Mm :=
 if f.pl=0 then Dz M f t else if f.pl=4 then Gl M f else if f.pl=5 then Gv M f else if f.pl=6 then Du M f t else M
theorem a4e{M:Mm}{f:Fr}(h:f.pl=0):swF M f=Fh M f:=by unfold swF;rw[if_pos h]
theorem a4f{M:Mm}{f:Fr}(h:f.pl=1):swF M f=Dl f 0 (Ar M (bkN M f)) 2:=by unfold swF;rw[if_neg (by omega),if_pos h]
theorem Xx{M:Mm}{f:Fr}(h:f.pl=2):swF M f=Fg M f:=by unfold swF;rw[if_neg (by omega),if_neg (by omega),if_pos h]
theorem a4g{M:Mm}{f:Fr}(h:f.pl=3):swF M f=Hr M f:=by unfold swF;rw[if_neg (by omega),if_neg (by omega),if_neg (by omega),if_pos h]
theorem a8x{M:Mm}{f:Fr}(h:f.pl=4):swF M f=Ls M f:=by unfold swF;rw[if_neg (by omega),if_neg (by omega),if_neg (by omega),if_neg (by omega),if_pos h]
theorem a8y{M:Mm}{f:Fr}(h:f.pl=5):swF M f=J5 M f:=by unfold swF;rw[if_neg (by omega),if_neg (by omega),if_neg (by omega),if_neg (by omega),if_neg (by omega),if_pos h]
theorem b6o{M:Mm}{f:Fr}(h:f.pl=6):swF M f=Af f 0:=by unfold swF;rw[if_neg (by omega),if_neg (by omega),if_neg (by omega),if_neg (by omega),if_neg (by omega),if_neg (by omega),if_pos h]
theorem swF7{M:Mm}{f:Fr}(h:7<=f.pl):swF M f=toF f 6:=by unfold swF;rw[if_neg (by omega),if_neg (by omega),if_neg (by omega),if_neg (by omega),if_neg (by omega),if_neg (by omega),if_neg (by omega)]
theorem b6q{M:Mm}{f:Fr}{t:Int}(h:f.pl=0):swM t M f=Dz M f t:=by unfold swM;rw[if_pos h]
theorem b9o{M:Mm}{f:Fr}{t:Int}(h:f.pl=4):swM t M f=Gl M f:=by unfold swM;rw[if_neg (by omega),if_pos h]
theorem b9p{M:Mm}{f:Fr}{t:Int}(h:f.pl=5):swM t M f=Gv M f:=by unfold swM;rw[if_neg (by omega),if_neg (by omega),if_pos h]
theorem b6r{M:Mm}{f:Fr}{t:Int}(h:f.pl=6):swM t M f=Du M f t:=by unfold swM;rw[if_neg (by omega),if_neg (by omega),if_neg (by omega),if_pos h]
theorem Ep{M:Mm}{f:Fr}{t:Int}(h:f.pl≠0/\f.pl≠4/\f.pl≠5/\f.pl≠6):swM t M f=M:=by unfold swM;rw[if_neg h.1,if_neg h.2.1,if_neg h.2.2.1,if_neg h.2.2.2]
theorem b2v(M:Mm)(f:Fr):(swF M f).c=f.c:=by
 unfold swF Fh Fg Hr Ls J5
 repeat' split
 all_goals rfl
theorem b2w(M:Mm)(f:Fr):(swF M f).keys=f.keys\/(f.c.kind=5/\f.keys.length<100/\(swF M f).keys=f.keys ++ [keyAt M (f.cur - 1)]):=by
 unfold swF Fh Fg Hr Ls J5
 repeat' split
 all_goals first
  | exact .inl rfl
  | skip
 all_goals
  show Oj M f=f.keys\/_
  unfold Oj
  split
  ·exact .inr ⟨by assumption,by assumption,rfl⟩
  ·exact .inl rfl
theorem b2x(t:Int)(M:Mm)(f:Fr):Vj M (swM t M f) (bkN M f):=by
 unfold swM Dz Gl Du Gv
 repeat' split
 all_goals first
  | exact .refl _ _
  | exact Ud _ _ _
  | exact Yh _ _ _ _
  | exact Uh _ _ _
theorem b6p{M:Mm}{f:Fr}(t:Int)(hM:Ok M)(h:Fit M f)(hd:(swF M f).done=false):Fit (swM t M f) (swF M f):=by
 refine Fit.near ?_ (b2x t M f)
 revert hd
 unfold swF Fh Fg Hr Ls J5
 have hb:=Ej hM h.call
 have hhd:-(M.heads.length:Int)<=Ar M (bkN M f)/\Ar M (bkN M f)<=M.slots.length:=by
  have hh:=(hM.O8 (b:=bkN M f) (by unfold bkN;omega)).2
  rwa [Ai] at hh
 have hn:=h.n
 rw[Ai] at hn
 repeat' split
 all_goals intro hd
 all_goals first
  | (cases hd;done)
  | exact h
  | exact h.to (by omega)
  | exact h.Zp (by omega) hhd (by omega)
  | skip
 ·refine⟨h.call,by simp,h.n,h.done,h.cur,h.prev,h.slot,?_⟩
  show (Oj M f).length<=100
  unfold Oj
  have:=h.keys
  split
  ·simp only[List.length_append,List.length_cons,List.length_nil];omega
  ·exact this
 ·rename_i ha
  exact h.Zp (by omega) (Nz hM (Ko ha)) (by have:=Bv.1 ha;omega)
 ·rename_i ha
  have:=Bv.1 ha
  exact⟨h.call,by simp,h.n,h.done,Nz hM (Ko ha),h.prev,by constructor <;> simp <;> omega,h.keys⟩
 ·exact⟨h.call,by simp,(by rw[Ai];dsimp only;omega),h.done,h.cur,h.prev,by constructor <;> simp <;> omega,h.keys⟩
 ·exact⟨h.call,by simp,(by rw[Ai];dsimp only;omega),h.done,h.cur,h.prev,by constructor <;> simp <;> omega,h.keys⟩
end
section
theorem Qy{a:Int}:∀ {l1 l1' l2 l2':List Int},l1++a :: l2=l1'++a :: l2'->¬ a∈l1->¬ a∈l1'->l1=l1'/\l2=l2'
 | [],[],_,_,h,_,_=>by simpa using h
 | [],y :: l1',_,_,h,_,h2=>by
  simp only[List.nil_append,List.cons_append,List.cons.injEq] at h
  exact(h2 (by rw[h.1];simp)).elim
 | x :: l1,[],_,_,h,h1,_=>by
  simp only[List.nil_append,List.cons_append,List.cons.injEq] at h
  exact(h1 (by rw[h.1];simp)).elim
 | x :: l1,y :: l1',_,_,h,h1,h2=>by
  simp only[List.cons_append,List.cons.injEq] at h
  obtain⟨e1,e2⟩:=Qy h.2 (fun hm=>h1 (by simp[hm])) (fun hm=>h2 (by simp[hm]))
  exact⟨by rw[h.1,e1],e2⟩
structure Sw(M N:Mm)(b:Nat)(l:List Int):Prop where
 okc:OkC N
 nh:N.heads.length=M.heads.length
 ns:N.slots.length=M.slots.length
 now:N.now=M.now
 locks:N.locks=M.locks.set b 0
 at_:chL N b=l
 else_:∀ c,c<M.heads.length->c≠b->chL N c=chL M c
 key:∀ x,keyAt N x=keyAt M x
 unt:∀ x,(A7 N x).unt=(A7 M x).unt
theorem a3w{N:Mm}{b:Nat}{p a x:Int}(h:0<p->x.toNat≠(p - 1).toNat):A7 (Ey N b p a) x=A7 N x:=by
 unfold Ey
 split
 ·rename_i hp
  unfold A7
  dsimp only
  rw[a0v,if_neg (fun e=>h hp e.1.symm)]
 ·rfl
theorem a7i{l:List Int}(h:0<Fp l):Fp l - 1∈l:=by
 unfold Fp at h ⊢
 cases e:l.getLast? with
 | none=>rw[e] at h;simp at h
 | some p =>
  have:=List.mem_of_getLast? e
  simpa using this
set_option maxHeartbeats 800000 in
theorem b9q{M N:Mm}{b:Nat}(hb:b<M.heads.length){l1 l2:List Int}{a:Int}(S:Sw M N b (l1++a :: l2)) :
  Ok (Ey N b (Fp l1) a)/\Sw M (Ec (Ey N b (Fp l1) a) a) b (l1++l2)/\Be N a=true/\Be (Ey N b (Fp l1) a) a=true /\
   ∀ n,Path N.slots n l2 (-1 - (b:Int))->Path (Ec (Ey N b (Fp l1) a) a).slots n l2 (-1 - (b:Int)):=by
 have hbN:b<N.heads.length:=by rw[S.nh];exact hb
 have hach:a∈chL N b:=by rw[S.at_];simp
 have hnd:=S.okc.nodup hbN
 rw[S.at_,List.nodup_append,List.nodup_cons] at hnd
 have na1:¬ a∈l1:=fun h=>hnd.2.2 a h a (by simp) rfl
 have hah:Jn a (chL N b) 0 0=Fp l1:=by rw[S.at_,Ou na1 hnd.2.1.1];rfl
 have C:=a2q S.okc hbN hach
 rw[hah] at C
 obtain⟨N3,hN3⟩:∃ N3,N3=Ey N b (Fp l1) a:=⟨_,rfl⟩
 rw[<- hN3] at C ⊢
 have hmem:a∈Ba N:=E5.2 ⟨b,hbN,hach⟩
 have hasl:=S.okc.Ha a hmem
 obtain⟨m1,m2,s1,s2⟩:=C.at_
 have hnd2:=S.okc.nodup hbN
 rw[s1,List.nodup_append,List.nodup_cons] at hnd2
 have nm1:¬ a∈m1:=fun h=>hnd2.2.2 a h a (by simp) rfl
 rw[S.at_] at s1
 obtain⟨rfl,rfl⟩:=Qy s1 na1 nm1
 have hsl:Be N a=true:=Cj.2 hasl
 have hsl3:Be N3 a=true:=by rw[Cj,C.ns];exact hasl
 have hr0:Ap N3 a≠0:=by
  show (A7 N3 a).refs≠0
  rw[C.refs]
  exact(S.okc.held b hbN a hach).1
 obtain⟨p,q,hpq,hpq'⟩:=Vy hbN C
 have hoff:a ∉ Ba N3:=by
  rw[hpq']
  have hnn:=Gi S.okc.keys
  rw[hpq,List.nodup_append,List.nodup_cons] at hnn
  rw[List.mem_append]
  rintro (h|h)
  ·exact hnn.2.2 a h a (by simp) rfl
  ·exact hnn.2.1.1 h
 obtain⟨N5,hN5⟩:∃ N5,N5=Ec N3 a:=⟨_,rfl⟩
 rw[<- hN5]
 have ok5:Ok N5:=by rw[hN5];exact Va C.okc.ok hsl3
 have hN5':N5=Lt N3 a:=by rw[hN5];unfold Ec;rw[if_neg hr0]
 have hs5:∀ x:Int,A7 N5 x=if x.toNat=a.toNat then { A7 N3 a with refs:=Ap N3 a - 1 } else A7 N3 x:=fun x=>by
  rw[hN5'];exact Ic hsl3 rfl x
 have hsx:∀ x:Int,x.toNat=a.toNat->A7 N3 x=A7 N3 a:=fun x hx=>by unfold A7;rw[hx]
 have h5n:N5.slots.length=N3.slots.length:=by rw[hN5'];simp[Lt,Dp]
 have h5h:N5.heads=N3.heads:=by rw[hN5'];rfl
 obtain⟨oc5,hL5,hA5,hat5⟩:=Tn C.okc ok5 h5h h5n hoff hasl.1 (fun x hx=>by rw[hs5,if_neg hx]) (by rw[hs5,if_pos rfl])
 have key5:∀ x,keyAt N5 x=keyAt N3 x:=fun x=>by
  unfold keyAt;rw[hs5];split
  ·rename_i e;rw[hsx x e]
  ·rfl
 have unt5:∀ x,(A7 N5 x).unt=(A7 N3 x).unt:=fun x=>by
  rw[hs5];split
  ·rename_i e;rw[hsx x e]
  ·rfl
 have next5:∀ x,(A7 N5 x).next=(A7 N3 x).next:=fun x=>by
  rw[hs5];split
  ·rename_i e;rw[hsx x e]
  ·rfl
 refine⟨C.okc.ok,⟨oc5,by rw[h5h,C.nh,S.nh],by rw[h5n,C.ns,S.ns],?_,?_,by rw[hL5,s2],fun c hc hne=>?_,fun x=>by rw[key5,C.key,S.key],fun x=>by rw[unt5,C.unt,S.unt]⟩,hsl,hsl3,fun n hp=>?_⟩
 ·rw[hN5',<- S.now,hN3];unfold Ey;split <;> rfl
 ·rw[hN5',<- S.locks,hN3];unfold Ey;split <;> rfl
 ·rw[hL5,C.else_ c (by rw[S.nh];exact hc) hne,S.else_ c hc hne]
 ·refine Ll (fun x hx=>?_) hp
  show (A7 N5 x).next=(A7 N x).next
  rw[next5,hN3,a3w]
  intro hp0 e
  have hm:=a7i hp0
  have h1:=S.okc.slots hbN (Fp l1 - 1) (by rw[S.at_];simp[hm])
  have h2:=S.okc.slots hbN x (by rw[S.at_];simp[hx])
  have hxe:x=Fp l1 - 1:=by omega
  exact hnd.2.2 (Fp l1 - 1) hm x (by simp[hx]) hxe.symm
def Qh(M:Mm)(a:Int):Bool:=decide ((A7 M a).unt<=M.now)
theorem b6w{M:Mm}{c:Cl}{b:Nat}(hb:b<M.heads.length)(hbl:b<M.locks.length)(hk4:c.kind=4)(hbk:c.bk=b) :
  ∀ (l l1:List Int) (k:Nat) (N:Mm) (f:Fr),Sw M N b (l1++l)->f.c=c->f.pl=2->f.done=false->f.prev=Fp l1->0<=f.n/\f.n+l.length<=1000000->Path N.slots f.cur l (-1 - (b:Int))->3*l.length+2<=k ->
   ∃ N' g,Goes swF (swM 0) k N f (Bh N' b (-1)) g/\Sw M N' b (l1++l.filter (fun a=>!Qh M a))/\g.e=0/\g.n=f.n+((l.length:Int) - (l.filter (fun a=>!Qh M a)).length):=by
 have hbn:∀ (N:Mm) (f:Fr),f.c=c->bkN N f=b:=fun N f h2=>by
  unfold bkN G7;rw[h2,if_pos (.inl hk4),hbk];rfl
 intro l
 induction l with
 | nil =>
  intro l1 k N f S hc hp hd hpr hn hpath hk
  obtain⟨k,rfl⟩:∃ k0,k=k0+2:=⟨k - 2,by simp only[List.length_nil] at hk;omega⟩
  have hat:D7 N f=false:=by
   have h1:f.cur=-1 - (b:Int):=hpath.1
   cases h:D7 N f
   ·rfl
   ·rw[Bv] at h;omega
  have e:swF N f=toF f 6:=by rw[Xx hp];unfold Fg;rw[hat];rfl
  have em:swM 0 N f=N:=Ep (by omega)
  have hl:Ak N b=0:=by unfold Ak;rw[S.locks];simp[List.getD_eq_getElem?_getD,hbl]
  have e2:swF N (toF f 6)=Af (toF f 6) 0:=b6o rfl
  have em2:swM 0 N (toF f 6)=Bh N b (-1):=by rw[b6r rfl];unfold Du;rw[hbn N (toF f 6) hc,if_pos hl]
  exact⟨N,Af (toF f 6) 0,Di S.okc.ok e em hd (S9 S.okc.ok e2 em2 rfl),by simpa using S,rfl,by simp;rfl⟩
 | cons a l ih =>
  intro l1 k N f S hc hp hd hpr hn hpath hk
  obtain⟨k,rfl⟩:∃ k0,k=k0+3:=⟨k - 3,by simp only[List.length_cons] at hk;omega⟩
  simp only[List.length_cons] at hk hn
  obtain⟨h1,h2,h3⟩:=hpath
  have hbN:b<N.heads.length:=by rw[S.nh];exact hb
  have ha:=S.okc.slots hbN a (by rw[S.at_];simp)
  have hcur:f.cur - 1=a:=by omega
  have hat:D7 N f=true:=Bv.2 (by omega)
  have em:swM 0 N f=N:=Ep (by omega)
  have hkn:¬ f.c.kind=5:=by rw[hc];omega
  by_cases ho:M.now<(A7 M a).unt
  ·have hov:Qh M a=false:=by unfold Qh;simpa using ho
   have e:swF N f=toF f 3:=by
    rw[Xx hp];unfold Fg
    rw[if_pos hat,if_neg hkn,hcur,S.now,S.unt,if_pos ho]
   have e2:swF N (toF f 3)=Dl (toF f 3) f.cur (A7 N a).next 2:=by
    rw[a4g rfl];unfold Hr
    rw[if_pos (show D7 N (toF f 3)=true from hat)]
    show Dl (toF f 3) f.cur (A7 N (f.cur - 1)).next 2=_
    rw[hcur]
   have em2:swM 0 N (toF f 3)=N:=Ep (by simp[toF])
   obtain⟨N',g,r1,r2,r3,r4⟩:=ih (l1 ++ [a]) (k+1) N (Dl (toF f 3) f.cur (A7 N a).next 2) (by simpa using S) hc rfl hd (by rw[Oa];show f.cur=a+1;omega) (by show 0<=f.n/\f.n+(l.length:Int)<=1000000;omega) h3 (by omega)
   refine⟨N',g,Di S.okc.ok e em hd (Di S.okc.ok e2 em2 hd r1),?_,r3,?_⟩
   ·rw[List.filter_cons_of_pos (by rw[hov];rfl)]
    simpa using r2
   ·rw[r4,List.filter_cons_of_pos (by rw[hov];rfl)]
    show f.n+_=_
    simp only[List.length_cons]
    omega
  ·have hov:Qh M a=true:=by unfold Qh;simp;omega
   have e:swF N f=toF f 4:=by
    rw[Xx hp];unfold Fg
    rw[if_pos hat,if_neg hkn,hcur,S.now,S.unt,if_neg ho]
   obtain⟨okc3,S',hsl,hsl3,hpt⟩:=b9q hb S
   obtain⟨f4,hf4⟩:∃ f4:Fr,f4 = { toF f 4 with slot:=f.cur - 1,cur:=(A7 N a).next,pl:=5 }:=⟨_,rfl⟩
   have e2:swF N (toF f 4)=f4:=by
    rw[a8x rfl];unfold Ls
    rw[if_pos (show D7 N (toF f 4)=true from hat),hf4]
    show ({ toF f 4 with slot:=f.cur - 1,cur:=(A7 N (f.cur - 1)).next,pl:=5 }:Fr)=_
    rw[hcur]
   have em2:swM 0 N (toF f 4)=Ey N b (Fp l1) a:=by
    rw[b9o rfl];unfold Gl
    rw[if_pos (show D7 N (toF f 4)=true from hat),hbn N (toF f 4) hc]
    show Ey N b f.prev (f.cur - 1)=_
    rw[hpr,hcur]
   have c4:f4.c=c:=by rw[hf4];exact hc
   have s4:f4.slot=a:=by rw[hf4];exact hcur
   obtain⟨f5,hf5⟩:∃ f5:Fr,f5 = { f4 with slot:=-1,n:=f.n+1,pl:=2 }:=⟨_,rfl⟩
   have e3:swF (Ey N b (Fp l1) a) f4=f5:=by
    rw[a8y (by rw[hf4])];unfold J5
    rw[if_pos (by rw[s4];exact hsl3),hf5]
    have hn4:f4.n=f.n:=by rw[hf4];rfl
    rw[hn4,if_pos (by omega)]
   have em3:swM 0 (Ey N b (Fp l1) a) f4=Ec (Ey N b (Fp l1) a) a:=by
    rw[b9p (by rw[hf4])];unfold Gv
    rw[s4,if_pos hsl3]
   have d4:f4.done=false:=by rw[hf4];exact hd
   have d5:f5.done=false:=by rw[hf5];exact d4
   have n5:f5.n=f.n+1:=by rw[hf5]
   obtain⟨N',g,r1,r2,r3,r4⟩:=ih l1 k (Ec (Ey N b (Fp l1) a) a) f5 S' (by rw[hf5];exact c4) (by rw[hf5]) d5 (by rw[hf5,hf4];exact hpr) (by rw[n5];omega) (by rw[hf5,hf4];exact hpt _ h3) (by omega)
   refine⟨N',g,Di S.okc.ok e em hd (Di S.okc.ok e2 em2 d4 (Di okc3 e3 em3 d5 r1)),?_,r3,?_⟩
   ·rw[List.filter_cons_of_neg (by rw[hov];simp)]
    exact r2
   ·rw[r4,n5,List.filter_cons_of_neg (by rw[hov];simp)]
    simp only[List.length_cons]
    omega
theorem b5u{M:Mm}(hM:OkC M)(b:Nat):Sw M (Bh M b 0) b (chL M b) :=
 ⟨Ns hM b (by omega),rfl,rfl,rfl,rfl,rfl,fun _ _ _=>rfl,fun _=>rfl,fun _=>rfl⟩
theorem a7q{M:Mm}{b:Nat}{t:Int}(hlk:∀ x∈M.locks,x=-1):Bh (Bh M b t) b (-1)=M:=by
 unfold Bh
 dsimp only
 rw[Xn hlk]
theorem b2z{M N:Mm}{b:Nat}(hM:OkC M)(hb:b<M.heads.length)(S:Sw M N b ((chL M b).filter (fun a=>!Qh M a))) :
  Bf N=(Bf M).filter (fun f=>!(decide (f.unt<=M.now) && (chL M b).contains f.slot))/\((Bf M).length:Int) - (Bf N).length=(chL M b).length - ((chL M b).filter (fun a=>!Qh M a)).length:=by
 obtain⟨r1,s1,t1⟩:=Hy M hb
 obtain⟨r2,s2,t2⟩:=Hy N (b:=b) (by rw[S.nh];exact hb)
 have hA:Bg N b=Bg M b:=by
  unfold Bg
  exact Es fun c hc=>S.else_ c (by have:=List.mem_range.1 hc;omega) (by have:=List.mem_range.1 hc;omega)
 have hR:r2=r1:=by
  rw[t2,t1,S.nh]
  refine Es fun c hc=>?_
  obtain⟨d,hd,rfl⟩:=List.mem_map.1 hc
  have:=List.mem_range.1 hd
  exact S.else_ _ (by omega) (by omega)
 rw[S.at_,hA,hR] at s2
 have hnn:=Gi hM.keys
 rw[s1,List.nodup_append,List.nodup_append] at hnn
 have hfl:∀ a,Bj N a=Bj M a:=fun a=>by
  have h1:=S.key a
  unfold keyAt at h1
  simp only[Prod.mk.injEq] at h1
  unfold Bj
  rw[h1.1,h1.2,S.unt]
 have hfe:Bj N=Bj M:=funext hfl
 have hfil:(Ba M).filter ((fun f:Fl=>!(decide (f.unt<=M.now) && (chL M b).contains f.slot)) ∘ Bj M)=Ba N:=by
  rw[s1,s2,List.filter_append,List.filter_append]
  congr 1
  ·congr 1
   ·refine List.filter_eq_self.2 fun a ha=>?_
    have hn:¬ a∈chL M b:=fun h=>hnn.1.2.2 a ha a h rfl
    simp[Function.comp,Bj,hn]
   ·refine List.filter_congr fun a ha=>?_
    simp only[Function.comp,Bj,Qh]
    have:(chL M b).contains a=true:=by simpa using ha
    rw[this,Bool.and_true]
    rfl
  ·refine List.filter_eq_self.2 fun a ha=>?_
   have hn:¬ a∈chL M b:=fun h=>hnn.2.2 a (by simp[h]) a ha rfl
   simp[Function.comp,Bj,hn]
 constructor
 ·unfold Bf
  rw[List.filter_map,hfil,hfe]
 ·unfold Bf
  rw[List.length_map,List.length_map,s1,s2]
  simp only[List.length_append]
  omega
theorem b5o{M:Mm}(hM:OkC M){c:Cl}{b:Nat}(hb:b<M.heads.length)(hbl:b<M.locks.length)(hk5:c.kind=5)(hbk:c.bk=b) :
  ∀ (l:List Int) (k:Nat) (f:Fr),(∀ a∈l,a∈chL M b)->f.c=c->f.pl=2->f.done=false->f.keys.length+l.length<=100->Path M.slots f.cur l (-1 - (b:Int))->2*l.length+2<=k ->
   ∃ g,Goes swF (swM 0) k (Bh M b 0) f (Bh (Bh M b 0) b (-1)) g/\g.e=0/\g.keys=f.keys++l.map (keyAt M):=by
 have hbn:∀ (N:Mm) (f:Fr),f.c=c->bkN N f=b:=fun N f h2=>by
  unfold bkN G7;rw[h2,if_pos (.inr hk5),hbk];rfl
 have hok:Ok (Bh M b 0):=Zl hM.ok b (by omega)
 intro l
 induction l with
 | nil =>
  intro k f hin hc hp hd hn hpath hk
  obtain⟨k,rfl⟩:∃ k0,k=k0+2:=⟨k - 2,by simp only[List.length_nil] at hk;omega⟩
  have hat:D7 (Bh M b 0) f=false:=by
   have h1:f.cur=-1 - (b:Int):=hpath.1
   cases h:D7 (Bh M b 0) f
   ·rfl
   ·rw[Bv] at h;omega
  have e:swF (Bh M b 0) f=toF f 6:=by rw[Xx hp];unfold Fg;rw[hat];rfl
  have em:swM 0 (Bh M b 0) f=Bh M b 0:=Ep (by omega)
  have hl:Ak (Bh M b 0) b=0:=Ob hbl
  have e2:swF (Bh M b 0) (toF f 6)=Af (toF f 6) 0:=b6o rfl
  have em2:swM 0 (Bh M b 0) (toF f 6)=Bh (Bh M b 0) b (-1):=by rw[b6r rfl];unfold Du;rw[hbn _ (toF f 6) hc,if_pos hl]
  exact⟨Af (toF f 6) 0,Di hok e em hd (S9 hok e2 em2 rfl),rfl,by simp;rfl⟩
 | cons a l ih =>
  intro k f hin hc hp hd hn hpath hk
  simp only[List.length_cons] at hk hn
  obtain⟨k,rfl⟩:∃ k0,k=k0+2:=⟨k - 2,by omega⟩
  obtain⟨h1,h2,h3⟩:=hpath
  have ha:=hM.slots hb a (hin a (by simp))
  have hcur:f.cur - 1=a:=by omega
  have hat:D7 (Bh M b 0) f=true:=Bv.2 (by show 1<=f.cur/\f.cur<=(M.slots.length:Int);omega)
  have em:swM 0 (Bh M b 0) f=Bh M b 0:=Ep (by omega)
  obtain⟨f3,hf3⟩:∃ f3:Fr,f3 = { f with keys:=f.keys ++ [keyAt M a],pl:=3 }:=⟨_,rfl⟩
  have e:swF (Bh M b 0) f=f3:=by
   rw[Xx hp];unfold Fg
   rw[if_pos hat,if_pos (by rw[hc];exact hk5),hf3]
   unfold Oj
   rw[if_pos (by omega),hcur]
   rfl
  have d3:f3.done=false:=by rw[hf3];exact hd
  have hat3:D7 (Bh M b 0) f3=true:=by rw[hf3];exact hat
  obtain⟨f4,hf4⟩:∃ f4:Fr,f4=Dl f3 f3.cur (A7 M a).next 2:=⟨_,rfl⟩
  have e2:swF (Bh M b 0) f3=f4:=by
   rw[a4g (by rw[hf3])];unfold Hr
   rw[if_pos hat3,hf4]
   have hc3:f3.cur=f.cur:=by rw[hf3]
   rw[hc3,hcur]
   rfl
  have em2:swM 0 (Bh M b 0) f3=Bh M b 0:=Ep (by rw[hf3];simp)
  have k4:f4.keys=f.keys ++ [keyAt M a]:=by rw[hf4,hf3];rfl
  obtain⟨g,r1,r2,r3⟩:=ih k f4 (fun x hx=>hin x (by simp[hx])) (by rw[hf4,hf3];exact hc) (by rw[hf4];rfl) (by rw[hf4];exact d3) (by rw[k4];simp only[List.length_append,List.length_cons,List.length_nil];omega) (by rw[hf4];exact h3) (by omega)
  refine⟨g,Di hok e em d3 (Di hok e2 em2 (by rw[hf4];exact d3) r1),r2,?_⟩
  rw[r3,k4]
  simp
end
section
def ptr(b:Nat):List Int->Int
 | []=>-1 - (b:Int)
 | a :: _=>a+1
theorem a1k{S:List Sl}{n:Int}{l:List Int}{b:Nat}(h:Path S n l (-1 - (b:Int))):n=ptr b l:=by
 cases l with
 | nil=>exact h.1
 | cons a l=>exact h.1
theorem Yy{S:List Sl}{b:Nat}:∀ {l1:List Int} {n a:Int} {l2:List Int},Path S n (l1++a :: l2) (-1 - (b:Int))->(S.getD a.toNat sl0).next=ptr b l2
 | [],n,a,l2,h=>a1k h.2.2
 | x :: l1,n,a,l2,h=>Yy (l1:=l1) h.2.2
theorem OkC.Tm{M:Mm}(h:OkC M){b:Nat}(hb:b<M.heads.length){l1 l2:List Int}{a:Int}(e:chL M b=l1++a :: l2):(A7 M a).next=ptr b l2:=by
 have:=h.path hb
 rw[e] at this
 exact Yy this
theorem OkC.Wy{M:Mm}(h:OkC M){b:Nat}(hb:b<M.heads.length):Ar M b=ptr b (chL M b):=a1k (h.path hb)
structure Eff(M M':Mm)(b:Nat)(l:List Int)(d:Int->Int):Prop where
 okc:OkC M'
 nh:M'.heads.length=M.heads.length
 ns:M'.slots.length=M.slots.length
 nl:M'.locks.length=M.locks.length
 now:M'.now=M.now
 at_:chL M' b=l
 else_:∀ c,c<M.heads.length->c≠b->chL M' c=chL M c
 refs:∀ k,Be M k=true->Ap M' k=Ap M k+d k
 key:∀ k,Be M k=true->Ap M k≠0->keyAt M' k=keyAt M k/\(A7 M' k).unt=(A7 M k).unt
theorem b1r{M M':Mm}(h:OkC M)(ho:Ok M')(hh:M'.heads=M.heads)(hn:M'.slots.length=M.slots.length)(hnx:∀ x,(A7 M' x).next=(A7 M x).next)
  (hx:∀ a∈Ba M,keyAt M' a=keyAt M a/\(A7 M' a).inn=(A7 M a).inn/\(A7 M' a).refs≠0):OkC M'/\(∀ b,chL M' b=chL M b)/\Ba M'=Ba M:=by
 have hnext:∀ n:Int,J8 M'.slots n=J8 M.slots n:=fun n=>hnx (n - 1)
 have hL:∀ b,chL M' b=chL M b:=fun b=>by unfold chL Ar;rw[hn,hh];exact(L8 hnext _ _).1
 have hE:∀ b,chE M' b=chE M b:=fun b=>by unfold chE Ar;rw[hn,hh];exact(L8 hnext _ _).2
 have hA:Ba M'=Ba M:=by unfold Ba Bg;rw[hh];exact Es fun c _=>hL c
 refine⟨⟨ho,fun b hb=>?_,fun b hb a ha=>?_,?_⟩,hL,hA⟩
 ·rw[hh] at hb;rw[hE];exact h.ends b hb
 ·rw[hh] at hb
  rw[hL] at ha
  obtain⟨x1,x2,x3⟩:=hx a (E5.2 ⟨b,hb,ha⟩)
  obtain⟨y1,y2,y3⟩:=h.held b hb a ha
  unfold keyAt at x1
  simp only[Prod.mk.injEq] at x1
  rw[x1.1,x1.2,hh]
  exact⟨x3,by rw[x2];exact y2,y3⟩
 ·rw[hA]
  have:(Ba M).map (keyAt M')=(Ba M).map (keyAt M):=List.map_congr_left fun a ha=>(hx a ha).1
  rw[this];exact h.keys
theorem Eff.refl{M:Mm}(h:OkC M)(b:Nat):Eff M M b (chL M b) (fun _=>0) :=
 ⟨h,rfl,rfl,rfl,rfl,rfl,fun _ _ _=>rfl,fun _ _=>by omega,fun _ _ _=>⟨rfl,rfl⟩⟩
theorem a1e{M:Mm}(h:OkC M)(b c:Nat){t:Int}(ht:-1<=t/\t<=4):Eff M (Bh M b t) c (chL M c) (fun _=>0) :=
 ⟨Ns h b ht,rfl,rfl,by simp[Bh],rfl,rfl,fun _ _ _=>rfl,(fun k hk=>by show Ap M k=Ap M k+0;omega),fun _ _ _=>⟨rfl,rfl⟩⟩
theorem a1n{M M':Mm}(h:OkC M)(b:Nat){s r:Int}(hs:Be M s=true)(ho:Ok M'){F:List Int}(e:M' = { M with slots:=Dp M s r,free:=F })(hr:s∈Ba M->r≠0):Eff M M' b (chL M b) (fun k=>if k=s then r - Ap M s else 0):=by
 have hs0:=(Cj.1 hs).1
 have hs5:∀ x:Int,A7 M' x=if x.toNat=s.toNat then { A7 M s with refs:=r } else A7 M x:=fun x=>by
  rw[e];exact Ic hs rfl x
 have hsx:∀ x:Int,x.toNat=s.toNat->A7 M x=A7 M s:=fun x hx=>by unfold A7;rw[hx]
 have hkey:∀ x,keyAt M' x=keyAt M x:=fun x=>by
  unfold keyAt;rw[hs5];split
  ·rename_i e;rw[hsx x e]
  ·rfl
 have hunt:∀ x,(A7 M' x).unt=(A7 M x).unt:=fun x=>by
  rw[hs5];split
  ·rename_i e;rw[hsx x e]
  ·rfl
 have hh:M'.heads=M.heads:=by rw[e]
 have hn:M'.slots.length=M.slots.length:=by rw[e];simp[Dp]
 obtain⟨oc,hL,hA⟩:=b1r h ho hh hn (fun x=>by
   rw[hs5];split
   ·rename_i e;rw[hsx x e]
   ·rfl) (fun a ha=>by
   refine⟨hkey a,?_,?_⟩
   ·rw[hs5];split
    ·rename_i e;rw[hsx a e]
    ·rfl
   ·have ha0:=(h.Ha a ha).1
    rw[hs5];split
    ·rename_i e
     have:a=s:=by omega
     subst this
     exact hr ha
    ·obtain⟨c,hc,hm⟩:=E5.1 ha
     exact(h.held c hc a hm).1)
 refine⟨oc,by rw[hh],hn,by rw[e],by rw[e],hL b,fun c _ _=>hL c,fun k hk=>?_,fun k _ _=>⟨hkey k,hunt k⟩⟩
 have hk0:=(Cj.1 hk).1
 show (A7 M' k).refs=(A7 M k).refs+_
 rw[hs5]
 by_cases ek:k=s
 ·subst ek
  rw[if_pos rfl,if_pos rfl]
  show r=(A7 M k).refs+(r - Ap M k)
  have:Ap M k=(A7 M k).refs:=rfl
  omega
 ·rw[if_neg (by omega),if_neg ek]
  omega
theorem Oe{M:Mm}(h:OkC M)(b:Nat){s:Int}(hs:Be M s=true)(h0:0<Ap M s)(hm:s∈Ba M->2<=Ap M s):Eff M (Ec M s) b (chL M b) (fun k=>if k=s then -1 else 0):=by
 have hr:=L6 h.ok hs
 have he:Ec M s = { M with slots:=Dp M s (Ap M s - 1),free:=if Ap M s=1 then M.free ++ [s] else M.free }:=by
  unfold Ec;rw[if_neg (by omega)];rfl
 have:=a1n h b hs (Va h.ok hs) he (fun hm'=>by have:=hm hm';omega)
 have ed:(fun k=>if k=s then Ap M s - 1 - Ap M s else 0)=fun k=>if k=s then (-1:Int) else 0:=by
  funext k;split <;> omega
 rw[ed] at this
 exact this
theorem a0y{M:Mm}(h:OkC M)(b:Nat){s:Int}(hs:Be M s=true)(h0:0<Ap M s)(h1:Ap M s<1000):Eff M (Gn M s) b (chL M b) (fun k=>if k=s then 1 else 0):=by
 have he:Gn M s = { M with slots:=Dp M s (Ap M s+1),free:=M.free }:=rfl
 have:=a1n h b hs (b5l h.ok hs h0 h1) he (fun _=>by omega)
 have ed:(fun k=>if k=s then Ap M s+1 - Ap M s else 0)=fun k=>if k=s then (1:Int) else 0:=by
  funext k;split <;> omega
 rw[ed] at this
 exact this
theorem b3c{M:Mm}(h:OkC M)(b:Nat){ka kb u:Int}(hk:Ee ka kb=true)(hu:inB u 0 2000000=true)(hF:0<M.free.length) :
  Eff M (Hf M ka kb u) b (chL M b) (fun k=>if k=Eo M then 1 else 0)/\Eo M ∉ Ba M/\Be M (Eo M)=true/\Ap M (Eo M)=0/\keyAt (Hf M ka kb u) (Eo M)=(ka,kb)/\(A7 (Hf M ka kb u) (Eo M)).unt=u:=by
 obtain⟨l0,l1,l2⟩:=Sz h.ok hF
 obtain⟨s,hs⟩:∃ s,s=Eo M:=⟨_,rfl⟩
 rw[<- hs] at l0 l1 l2 ⊢
 have hsl:Be M s=true:=Cj.2 ⟨l0,l1⟩
 have hoff:s ∉ Ba M:=Rz h l2
 obtain⟨M1,hM1⟩:∃ M1,M1=Hf M ka kb u:=⟨_,rfl⟩
 have hs1:∀ x:Int,A7 M1 x=if x.toNat=s.toNat then ⟨1,ka,kb,u,false,(A7 M s).next⟩ else A7 M x:=fun x=>by
  rw[hM1];exact Ic hsl (by rw[hs];rfl) x
 have ok1:Ok M1:=by rw[hM1];exact a5l h.ok hk hu hF
 have h1h:M1.heads=M.heads:=by rw[hM1];rfl
 have h1n:M1.slots.length=M.slots.length:=by rw[hM1];simp[Hf]
 obtain⟨oc1,hL1,hA1,hat1⟩:=Tn h ok1 h1h h1n hoff l0 (fun x hx=>by rw[hs1,if_neg hx]) (by rw[hs1,if_pos rfl])
 rw[<- hM1]
 refine⟨⟨oc1,by rw[h1h],h1n,by rw[hM1];rfl,by rw[hM1];rfl,hL1 b,fun c _ _=>hL1 c,fun k hk=>?_,fun k hk hr=>?_⟩,hoff,hsl,l2,?_,?_⟩
 ·have hk0:=(Cj.1 hk).1
  show (A7 M1 k).refs=(A7 M k).refs+_
  rw[hs1]
  by_cases ek:k=s
  ·subst ek
   rw[if_pos rfl,if_pos rfl]
   have:(A7 M k).refs=0:=l2
   show (1:Int)=(A7 M k).refs+1
   omega
  ·rw[if_neg (by omega),if_neg ek]
   omega
 ·have hk0:=(Cj.1 hk).1
  have hne:k.toNat≠s.toNat:=fun e=>hr (by rw[show k=s by omega];exact l2)
  unfold keyAt
  rw[hs1,if_neg hne]
  exact⟨rfl,rfl⟩
 ·unfold keyAt;rw[hs1,if_pos rfl]
 ·rw[hs1,if_pos rfl]
theorem b1g{M:Mm}(h:OkC M){s:Int}(hs:Be M s=true)(hr:Ap M s≠0)(hk:hasK M (Ba M) (keyAt M s)=false){b:Nat}(hb:ownB M s=b):Eff M (J7 M s b) b (s :: chL M b) (fun _=>0):=by
 have L:=a4x h hs hr hk
 have e:Gz M s=J7 M s b:=by unfold Gz J7;rw[hb]
 rw[e,hb] at L
 refine⟨L.okc,L.nh,L.ns,rfl,rfl,L.at_,L.else_,fun k _=>?_,fun k _ _=>⟨L.key k,L.unt k⟩⟩
 have:=L.refs k
 show (A7 (J7 M s b) k).refs=(A7 M k).refs+0
 omega
theorem a4r{M:Mm}(h:OkC M){b:Nat}(hb:b<M.heads.length){l1 l2:List Int}{a:Int}(e:chL M b=l1++a :: l2):Eff M (Ey M b (Fp l1) a) b (l1++l2) (fun _=>0):=by
 have hach:a∈chL M b:=by rw[e];simp
 have hnd:=h.nodup hb
 rw[e,List.nodup_append,List.nodup_cons] at hnd
 have na1:¬ a∈l1:=fun h=>hnd.2.2 a h a (by simp) rfl
 have hah:Jn a (chL M b) 0 0=Fp l1:=by rw[e,Ou na1 hnd.2.1.1];rfl
 have C:=a2q h hb hach
 rw[hah] at C
 obtain⟨m1,m2,s1,s2⟩:=C.at_
 have hnd2:=h.nodup hb
 rw[s1,List.nodup_append,List.nodup_cons] at hnd2
 have nm1:¬ a∈m1:=fun h=>hnd2.2.2 a h a (by simp) rfl
 rw[e] at s1
 obtain⟨rfl,rfl⟩:=Qy s1 na1 nm1
 refine⟨C.okc,C.nh,C.ns,?_,?_,s2,C.else_,fun k _=>?_,fun k _ _=>⟨C.key k,C.unt k⟩⟩
 ·unfold Ey;split <;> rfl
 ·unfold Ey;split <;> rfl
 ·have:=C.refs k
  show (A7 (Ey M b (Fp l1) a) k).refs=(A7 M k).refs+0
  omega
end
section
variable {Xb:Ex}
structure Tk where
 busy:Bool
 f:Fr
 held:List Int
structure Wd where
 m:Mm
 ts:List Tk
def Key(f:Fr):Int × Int:=(f.c.a,f.c.b)
def G8(f:Fr):Prop:=(f.c.kind=2/\2<=f.pl)\/(f.c.kind=3/\1<=f.pl/\f.pl<=5)\/((f.c.kind=4\/f.c.kind=5)/\1<=f.pl)
def Ei(f:Fr):Bool:=decide (0<=f.slot) && !(f.c.kind==2 && f.pl==7)
def hand(t:Tk)(k:Int):Int:=if t.busy && Ei t.f && t.f.slot==k then 1 else 0
def cnt(t:Tk)(k:Int):Int:=(t.held.count k:Int)+hand t k
def H8(m:Mm)(k:Int):Int:=if k∈Ba m then 1 else 0
def Qc(ts:List Tk)(k:Int):Int:=(ts.map (fun t=>cnt t k)).sum
def adds(f:Fr):Prop:=f.c.kind=2/\1<=f.pl/\f.pl<=6
def Rest(m:Mm)(f:Fr)(l1 l2:List Int):Prop:=chL m (bkN m f)=l1++l2/\f.cur=ptr (bkN m f) l2
def NoK(m:Mm)(f:Fr)(l:List Int):Prop:=∀ a∈l,keyAt m a≠Key f
def a9n(f:Fr):Prop:=f.pl<=6/\(f.pl<=3->f.slot=-1)/\(4<=f.pl->0<=f.slot)
def b7l(m:Mm)(f:Fr):Prop :=
 f.pl<=7/\(f.pl=0->f.slot=-1)/\(1<=f.pl->f.pl<=6->Be m f.slot=true/\f.slot ∉ Ba m/\keyAt m f.slot=Key f) /\
 (f.pl=3->∃ l1 l2,Rest m f l1 l2/\NoK m f l1)/\(f.pl=4->∃ l1 a l2,Rest m f l1 (a :: l2)/\NoK m f (l1 ++ [a])) /\
 (f.pl=5->NoK m f (chL m (bkN m f)))/\(f.pl=7->(f.e=0/\0<=f.slot)\/(f.e=6/\f.slot=-1))
def a2i(m:Mm)(f:Fr):Prop :=
 f.pl<=6/\(f.pl<=4->f.slot=-1)/\(f.pl=2->∃ l1 l2,Rest m f l1 l2/\NoK m f l1/\f.prev=Fp l1) /\
 (f.pl=3->∃ l1 a l2,Rest m f l1 (a :: l2)/\NoK m f (l1 ++ [a])/\f.prev=Fp l1) /\
 (f.pl=4->∃ l1 a l2,Rest m f l1 (a :: l2)/\keyAt m a=Key f/\f.prev=Fp l1)/\(5<=f.pl->(f.e=5/\f.slot=-1)\/(f.e=0/\Be m f.slot=true))
def Zf(m:Mm)(f:Fr):Prop :=
 f.pl<=6/\(f.pl≠5->f.slot=-1)/\(f.c.kind=5->f.pl≠4/\f.pl≠5)/\(f.pl=2->∃ l1 l2,Rest m f l1 l2/\f.prev=Fp l1) /\
 (f.pl=3\/f.pl=4->∃ l1 a l2,Rest m f l1 (a :: l2)/\f.prev=Fp l1) /\
 (f.pl=5->Be m f.slot=true/\∃ l1 l2,Rest m f l1 l2/\f.prev=Fp l1)
structure FI(m:Mm)(t:Tk):Prop where
 fit:Fit m t.f
 kind:1<=t.f.c.kind/\t.f.c.kind<=6
 look:t.f.c.kind=1->a9n t.f/\t.held.length<100
 add:t.f.c.kind=2->b7l m t.f
 drop:t.f.c.kind=3->a2i m t.f
 sweep:t.f.c.kind=4\/t.f.c.kind=5->Zf m t.f
 leave:t.f.c.kind=6->t.f.slot=-1/\t.f.c.slot∈t.held
structure Bi(w:Wd):Prop where
 okc:OkC w.m
 nt:1<=w.ts.length/\w.ts.length<=5
 fi:∀ t∈w.ts,t.busy=true->FI w.m t
 held:∀ t∈w.ts,t.held.length<=100/\∀ a∈t.held,Be w.m a=true
 refs:∀ k,Be w.m k=true->Ap w.m k=H8 w.m k+Qc w.ts k
 lockI:∀ (i:Nat) t,w.ts[i]?=some t->t.busy=true->G8 t.f->Ak w.m (bkN w.m t.f)=i
 lockO:∀ b,b<w.m.heads.length->Ak w.m b ≠ -1->∃ (i:Nat) (t:Tk),Ak w.m b=i/\w.ts[i]?=some t/\t.busy=true/\G8 t.f/\bkN w.m t.f=b
 own:∀ (i j:Nat) ti tj,w.ts[i]?=some ti->w.ts[j]?=some tj->i≠j->ti.busy=true->tj.busy=true->adds ti.f->adds tj.f->ti.f.slot≠tj.f.slot
theorem Vu(t:Tk)(k:Int):0<=cnt t k:=by
 unfold cnt hand
 split <;> omega
theorem Xv:∀ (ts:List Tk) (i:Nat) (t t':Tk) (k:Int),ts[i]?=some t->Qc (ts.set i t') k=Qc ts k - cnt t k+cnt t' k
 | [],i,t,t',k,h=>by simp at h
 | x :: ts,0,t,t',k,h=>by
  have hx:x=t:=by simpa using h
  subst hx
  show cnt t' k+Qc ts k=cnt x k+Qc ts k - cnt x k+cnt t' k
  omega
 | x :: ts,i+1,t,t',k,h=>by
  have h':ts[i]?=some t:=by simpa using h
  have:=Xv ts i t t' k h'
  show cnt x k+Qc (ts.set i t') k=cnt x k+Qc ts k - cnt t k+cnt t' k
  omega
theorem a1w(ts:List Tk)(k:Int):0<=Qc ts k:=by
 induction ts with
 | nil=>exact Int.le_refl 0
 | cons x ts ih =>
  have:=Vu x k
  show 0<=cnt x k+Qc ts k
  omega
theorem a5i(ts:List Tk)(t:Tk)(k:Int)(h:t∈ts):cnt t k<=Qc ts k:=by
 induction ts with
 | nil=>cases h
 | cons x ts ih =>
  have h0:=a1w ts k
  have h1:=Vu x k
  show cnt t k<=cnt x k+Qc ts k
  rcases List.mem_cons.1 h with rfl|h
  ·omega
  ·have:=ih h
   omega
theorem Kt(m:Mm)(k:Int):0<=H8 m k/\H8 m k<=1:=by
 unfold H8
 split <;> omega
theorem b0x{t:Tk}(hb:t.busy=true)(hi:Ei t.f=true):hand t t.f.slot=1:=by
 unfold hand
 rw[hb,hi]
 simp
theorem Bi.Ei{w:Wd}(I:Bi w){t:Tk}(ht:t∈w.ts)(hb:t.busy=true)(hi:Ei t.f=true)(hs:Be w.m t.f.slot=true):1+H8 w.m t.f.slot<=Ap w.m t.f.slot:=by
 have h1:=I.refs _ hs
 have h2:=a5i w.ts t t.f.slot ht
 have h3:=b0x hb hi
 unfold cnt at h2
 omega
theorem Bi.b8t{w:Wd}(I:Bi w){t:Tk}(ht:t∈w.ts){a:Int}(ha:a∈t.held):1+H8 w.m a<=Ap w.m a:=by
 have h1:=I.refs _ ((I.held t ht).2 a ha)
 have h2:=a5i w.ts t a ht
 have h3:0<t.held.count a:=List.count_pos_iff.2 ha
 have h4:0<=hand t a:=by unfold hand;split <;> omega
 unfold cnt at h2
 omega
theorem Zj{m m':Mm}(h:m'.heads.length=m.heads.length)(f:Fr):bkN m' f=bkN m f:=by unfold bkN;rw[h]
theorem FI.other{m m':Mm}{b:Nat}{l:List Int}{d:Int->Int}{t:Tk}(F:FI m t)(hM:OkC m)(E:Eff m m' b l d)
  (hc:G8 t.f->bkN m t.f=b->l=chL m b) (hr:adds t.f->Ap m t.f.slot≠0) (ha:adds t.f->t.f.slot ∉ Ba m'):FI m' t:=by
 have hbk:=Zj E.nh t.f
 have hbl:bkN m t.f<m.heads.length:=by
  have:=Ej hM.ok F.fit.call
  unfold bkN;omega
 have hch:G8 t.f->chL m' (bkN m' t.f)=chL m (bkN m t.f):=fun h=>by
  rw[hbk]
  by_cases e:bkN m t.f=b
  ·rw[e,E.at_,hc h e]
  ·exact E.else_ _ hbl e
 have hky:∀ a,a∈chL m (bkN m t.f)->keyAt m' a=keyAt m a:=fun a hm=>by
  have h1:=hM.held _ hbl a hm
  exact(E.key a (Cj.2 (hM.slots hbl a hm)) h1.1).1
 have hsl:∀ x,Be m' x=Be m x:=fun x=>by unfold Be;rw[E.ns]
 have hrest:G8 t.f->∀ {l1 l2},Rest m t.f l1 l2->Rest m' t.f l1 l2:=fun h l1 l2 R=>⟨(hch h).trans R.1,by rw[hbk];exact R.2⟩
 have hno:∀ {l1 l2:List Int},chL m (bkN m t.f)=l1++l2->NoK m t.f l1->NoK m' t.f l1:=fun e N a hm=>by
  rw[hky a (by rw[e];simp[hm])];exact N a hm
 have hfit:Fit m' t.f:=by
  have h:=F.fit
  refine⟨?_,h.pl,h.n,h.done,?_,?_,?_,h.keys⟩
  ·rw[E.ns,E.nh];exact h.call
  ·rw[E.ns,E.nh];exact h.cur
  ·rw[E.ns];exact h.prev
  ·rw[E.ns];exact h.slot
 refine⟨hfit,F.kind,F.look,fun hk=>?_,fun hk=>?_,fun hk=>?_,F.leave⟩
 ·obtain⟨a1,a2,a3,a4,a5,a6,a7⟩:=F.add hk
  refine⟨a1,a2,fun p1 p2=>?_,fun p=>?_,fun p=>?_,fun p=>?_,a7⟩
  ·obtain⟨x1,x2,x3⟩:=a3 p1 p2
   exact⟨by rw[hsl];exact x1,ha ⟨hk,p1,p2⟩,((E.key _ x1 (hr ⟨hk,p1,p2⟩)).1).trans x3⟩
  ·obtain⟨l1,l2,R,N⟩:=a4 p
   have hl:G8 t.f:=.inl ⟨hk,by omega⟩
   exact⟨l1,l2,hrest hl R,hno R.1 N⟩
  ·obtain⟨l1,a,l2,R,N⟩:=a5 p
   have hl:G8 t.f:=.inl ⟨hk,by omega⟩
   exact⟨l1,a,l2,hrest hl R,hno (l2:=l2) (by rw[R.1];simp) N⟩
  ·have hl:G8 t.f:=.inl ⟨hk,by omega⟩
   intro a hm
   rw[hch hl] at hm
   rw[hky a hm]
   exact a6 p a hm
 ·obtain⟨a1,a2,a3,a4,a5,a6⟩:=F.drop hk
  refine⟨a1,a2,fun p=>?_,fun p=>?_,fun p=>?_,fun p=>?_⟩
  ·obtain⟨l1,l2,R,N,q⟩:=a3 p
   have hl:G8 t.f:=.inr (.inl ⟨hk,by omega,by omega⟩)
   exact⟨l1,l2,hrest hl R,hno R.1 N,q⟩
  ·obtain⟨l1,a,l2,R,N,q⟩:=a4 p
   have hl:G8 t.f:=.inr (.inl ⟨hk,by omega,by omega⟩)
   exact⟨l1,a,l2,hrest hl R,hno (l2:=l2) (by rw[R.1];simp) N,q⟩
  ·obtain⟨l1,a,l2,R,N,q⟩:=a5 p
   have hl:G8 t.f:=.inr (.inl ⟨hk,by omega,by omega⟩)
   exact⟨l1,a,l2,hrest hl R,by rw[hky a (by rw[R.1];simp)];exact N,q⟩
  ·rcases a6 p with h|h
   ·exact .inl h
   ·exact .inr ⟨h.1,by rw[hsl];exact h.2⟩
 ·obtain⟨a1,a2,a3,a4,a5,a6⟩:=F.sweep hk
  refine⟨a1,a2,a3,fun p=>?_,fun p=>?_,fun p=>?_⟩
  ·obtain⟨l1,l2,R,q⟩:=a4 p
   exact⟨l1,l2,hrest (.inr (.inr ⟨hk,by omega⟩)) R,q⟩
  ·obtain⟨l1,a,l2,R,q⟩:=a5 p
   exact⟨l1,a,l2,hrest (.inr (.inr ⟨hk,by omega⟩)) R,q⟩
  ·obtain⟨x,l1,l2,R,q⟩:=a6 p
   exact⟨by rw[hsl];exact x,l1,l2,hrest (.inr (.inr ⟨hk,by omega⟩)) R,q⟩
end
section
theorem a4p{m:Mm}{f f':Fr}(h:f'.c=f.c):bkN m f'=bkN m f:=by unfold bkN;rw[h]
theorem Ip{ts:List Tk}{i j:Nat}{t' u:Tk}(h:(ts.set i t')[j]?=some u):(j=i/\u=t'/\i<ts.length)\/(j≠i/\ts[j]?=some u):=by
 rw[List.getElem?_set] at h
 by_cases e:i=j
 ·subst e
  rw[if_pos rfl] at h
  by_cases hl:i<ts.length
  ·rw[if_pos hl] at h
   exact .inl ⟨rfl,by simpa using h.symm,hl⟩
  ·rw[if_neg hl] at h;cases h
 ·rw[if_neg e] at h
  exact .inr ⟨fun h'=>e h'.symm,h⟩
theorem Ef{f:Fr}(h:adds f)(hs:0<=f.slot):Ei f=true:=by
 unfold Ei
 obtain⟨h1,h2,h3⟩:=h
 simp only[Bool.and_eq_true,decide_eq_true_eq,Bool.not_eq_true',Bool.and_eq_false_iff]
 refine⟨hs,.inr ?_⟩
 simp;omega
theorem Bi.Rh{w:Wd}(I:Bi w){u:Tk}(hu:u∈w.ts)(hb:u.busy=true)(ha:adds u.f):Be w.m u.f.slot=true/\Ap w.m u.f.slot≠0/\u.f.slot ∉ Ba w.m:=by
 obtain⟨x1,x2,x3⟩:=((I.fi u hu hb).add ha.1).2.2.1 ha.2.1 ha.2.2
 have h0:=(Cj.1 x1).1
 have:=I.Ei hu hb (Ef ha h0) x1
 have:=(Kt w.m u.f.slot).1
 exact⟨x1,by omega,x2⟩
set_option maxHeartbeats 800000 in
theorem Sj{w:Wd}(I:Bi w){i:Nat}{t t':Tk}{m':Mm}{l:List Int}{d:Int->Int}(hi:w.ts[i]?=some t)(hb:t.busy=true)
  (E:Eff w.m m' (bkN w.m t.f) l d) (hl:l=chL w.m (bkN w.m t.f)\/G8 t.f)
  (hc:t'.f.c=t.f.c) (hfi:t'.busy=true->FI m' t') (hheld:t'.held.length<=100/\∀ a∈t'.held,Be w.m a=true)
  (hsub:∀ x∈Ba m',x∈Ba w.m\/(adds t.f/\x=t.f.slot))
  (hcnt:∀ k,Be w.m k=true->d k=H8 m' k - H8 w.m k+(cnt t' k - cnt t k))
  (hown:t'.busy=true->adds t'.f->(adds t.f/\t'.f.slot=t.f.slot)\/Ap w.m t'.f.slot=0)
  (hl1:t'.busy=true->G8 t'.f->Ak m' (bkN w.m t.f)=i)
  (hl2:∀ c,c≠bkN w.m t.f->Ak m' c=Ak w.m c)
  (hl3:Ak m' (bkN w.m t.f)=Ak w.m (bkN w.m t.f)\/Ak w.m (bkN w.m t.f)=-1\/Ak w.m (bkN w.m t.f)=i)
  (hl4:Ak m' (bkN w.m t.f)=-1\/(Ak m' (bkN w.m t.f)=i/\t'.busy=true/\G8 t'.f)\/(Ak m' (bkN w.m t.f)=Ak w.m (bkN w.m t.f)/\Ak w.m (bkN w.m t.f)≠i)) :
  Bi ⟨m',w.ts.set i t'⟩:=by
 have htm:t∈w.ts:=List.mem_of_getElem? hi
 have hsl:∀ x,Be m' x=Be w.m x:=fun x=>by unfold Be;rw[E.ns]
 have hbk:∀ f:Fr,bkN m' f=bkN w.m f:=fun f=>Zj E.nh f
 refine⟨E.okc,by simpa using I.nt,fun u hu hbu=>?_,fun u hu=>?_,fun k hk=>?_,fun j u hj hbu hL=>?_,fun b hbb hne=>?_,fun j1 j2 u1 u2 h1 h2 hne b1 b2 a1 a2=>?_⟩
 ·obtain⟨j,hj⟩:=List.mem_iff_getElem?.1 hu
  rcases Ip hj with ⟨rfl,rfl,_⟩|⟨hji,hj'⟩
  ·exact hfi hbu
  ·have hum:=List.mem_of_getElem? hj'
   refine(I.fi u hum hbu).other I.okc E (fun hL he=>?_) (fun ha=>(I.Rh hum hbu ha).2.1) (fun ha hm=>?_)
   ·rcases hl with h|h
    ·exact h
    ·have e1:=I.lockI i t hi hb h
     have e2:=I.lockI j u hj' hbu hL
     rw[he,e1] at e2
     exact(hji (by omega)).elim
   ·rcases hsub _ hm with h|⟨h,e⟩
    ·exact(I.Rh hum hbu ha).2.2 h
    ·exact I.own j i u t hj' hi hji hbu hb ha h e
 ·obtain⟨j,hj⟩:=List.mem_iff_getElem?.1 hu
  rcases Ip hj with ⟨rfl,rfl,_⟩|⟨hji,hj'⟩
  ·exact⟨hheld.1,fun a ha=>by show Be m' a=true;rw[hsl];exact hheld.2 a ha⟩
  ·have h:=I.held u (List.mem_of_getElem? hj')
   exact⟨h.1,fun a ha=>by show Be m' a=true;rw[hsl];exact h.2 a ha⟩
 ·have hk':Be w.m k=true:=by rw[<- hsl];exact hk
  have h1:=E.refs k hk'
  have h2:=I.refs k hk'
  have h3:=Xv w.ts i t t' k hi
  have h4:=hcnt k hk'
  show Ap m' k=H8 m' k+Qc (w.ts.set i t') k
  omega
 ·show Ak m' (bkN m' u.f)=j
  rw[hbk]
  rcases Ip hj with ⟨rfl,rfl,_⟩|⟨hji,hj'⟩
  ·rw[a4p hc];exact hl1 hbu hL
  ·have e:=I.lockI j u hj' hbu hL
   by_cases hbb:bkN w.m u.f=bkN w.m t.f
   ·rw[hbb] at e ⊢
    rcases hl3 with h|h|h
    ·rw[h];exact e
    ·rw[h] at e;omega
    ·rw[h] at e;exact(hji (by omega)).elim
   ·rw[hl2 _ hbb];exact e
 ·have hbb':b<w.m.heads.length:=by rw[<- E.nh];exact hbb
  have hil:i<w.ts.length:=(List.getElem?_eq_some_iff.1 hi).1
  have keep:Ak m' b=Ak w.m b->Ak w.m b≠i->∃ (j:Nat) (u:Tk),Ak m' b=j/\(w.ts.set i t')[j]?=some u/\u.busy=true/\G8 u.f/\bkN m' u.f=b:=fun e hni=>by
   have hne':Ak w.m b ≠ -1:=by rw[<- e];exact hne
   obtain⟨j,u,x1,x2,x3,x4,x5⟩:=I.lockO b hbb' hne'
   have hji:j≠i:=fun h=>hni (by rw[x1,h])
   exact⟨j,u,e.trans x1,by rw[List.getElem?_set_ne (fun h=>hji h.symm)];exact x2,x3,x4,by rw[hbk];exact x5⟩
  by_cases hbe:b=bkN w.m t.f
  ·subst hbe
   rcases hl4 with h|⟨h,h',h''⟩|⟨h,h'⟩
   ·exact(hne h).elim
   ·exact⟨i,t',h,by rw[List.getElem?_set_self hil],h',h'',by rw[hbk,a4p hc]⟩
   ·exact keep h h'
  ·refine keep (hl2 b hbe) fun h=>?_
   have hne':Ak w.m b ≠ -1:=by omega
   obtain⟨j,u,x1,x2,x3,x4,x5⟩:=I.lockO b hbb' hne'
   have hji:j=i:=by omega
   subst hji
   rw[hi] at x2
   injection x2 with x2
   subst x2
   exact hbe x5.symm
 ·rcases Ip h1 with ⟨rfl,rfl,_⟩|⟨e1,g1⟩ <;> rcases Ip h2 with ⟨rfl,rfl,_⟩|⟨e2,g2⟩
  ·exact(hne rfl).elim
  ·have hum:=List.mem_of_getElem? g2
   rcases hown b1 a1 with ⟨x,y⟩|y
   ·rw[y];exact I.own _ _ t u2 hi g2 hne hb b2 x a2
   ·intro e
    rw[e] at y
    exact(I.Rh hum b2 a2).2.1 y
  ·have hum:=List.mem_of_getElem? g1
   rcases hown b2 a2 with ⟨x,y⟩|y
   ·rw[y];exact I.own _ _ u1 t g1 hi hne b1 hb a1 x
   ·intro e
    rw[<- e] at y
    exact(I.Rh hum b1 a1).2.1 y
  ·exact I.own j1 j2 u1 u2 g1 g2 hne b1 b2 a1 a2
theorem Ff{w:Wd}(I:Bi w){i:Nat}{t t':Tk}{m':Mm}{d:Int->Int}(hi:w.ts[i]?=some t)(hb:t.busy=true)
  (E:Eff w.m m' (bkN w.m t.f) (chL w.m (bkN w.m t.f)) d) (hlk:m'.locks=w.m.locks)
  (hc:t'.f.c=t.f.c) (hfi:t'.busy=true->FI m' t') (hheld:t'.held.length<=100/\∀ a∈t'.held,Be w.m a=true)
  (hcnt:∀ k,Be w.m k=true->d k=cnt t' k - cnt t k)
  (hown:t'.busy=true->adds t'.f->(adds t.f/\t'.f.slot=t.f.slot)\/Ap w.m t'.f.slot=0)
  (hL:G8 t.f ↔ (t'.busy=true/\G8 t'.f)):Bi ⟨m',w.ts.set i t'⟩:=by
 have hA:Ba m'=Ba w.m:=by
  unfold Ba Bg
  rw[E.nh]
  refine Es fun c hc=>?_
  have:=List.mem_range.1 hc
  by_cases e:c=bkN w.m t.f
  ·rw[e];exact E.at_
  ·exact E.else_ c this e
 have hla:∀ c,Ak m' c=Ak w.m c:=fun c=>by unfold Ak;rw[hlk]
 have hmp:∀ k,H8 m' k=H8 w.m k:=fun k=>by unfold H8;rw[hA]
 refine Sj I hi hb E (.inl rfl) hc hfi hheld (fun x hx=>.inl (by rw[<- hA];exact hx)) (fun k hk=>by rw[hmp,hcnt k hk];omega) hown ?_ (fun c _=>hla c) (.inl (hla _)) ?_
 ·intro h1 h2
  rw[hla]
  exact I.lockI i t hi hb (hL.2 ⟨h1,h2⟩)
 ·by_cases h:G8 t.f
  ·exact .inr (.inl ⟨by rw[hla];exact I.lockI i t hi hb h,(hL.1 h).1,(hL.1 h).2⟩)
  ·refine .inr (.inr ⟨hla _,fun e=>?_⟩)
   have hbl:bkN w.m t.f<w.m.heads.length:=by
    have:=Ej I.okc.ok (I.fi t (List.mem_of_getElem? hi) hb).fit.call
    unfold bkN;omega
   obtain⟨j,u,x1,x2,x3,x4,x5⟩:=I.lockO _ hbl (by omega)
   have hji:j=i:=by omega
   subst hji
   rw[hi] at x2
   injection x2 with x2
   subst x2
   exact h x4
end
section
theorem Ik{t:Tk}(hb:t.busy=true)(hi:Ei t.f=true)(k:Int):cnt t k=(t.held.count k:Int)+if k=t.f.slot then 1 else 0:=by
 unfold cnt hand
 rw[hb,hi]
 by_cases e:k=t.f.slot
 ·subst e;simp
 ·have:(t.f.slot==k)=false:=by simpa using fun h=>e h.symm
  rw[this,if_neg e];simp
theorem Dq{t:Tk}(h:t.busy=false\/Ei t.f=false)(k:Int):cnt t k=(t.held.count k:Int):=by
 unfold cnt hand
 rcases h with h|h
 ·rw[h];simp
 ·rw[h];simp
theorem Fe{f:Fr}(h:f.c.kind≠2):Ei f=decide (0<=f.slot):=by
 unfold Ei
 have:(f.c.kind==2)=false:=by simpa using h
 rw[this];simp
theorem Iq{f:Fr}(h:f.slot=-1):Ei f=false:=by
 unfold Ei
 rw[h];rfl
theorem Lh{m:Mm}{k:Int}(h:k∈Ba m):H8 m k=1:=by unfold H8;rw[if_pos h]
def I9(m:Mm)(t:Tk):Tk:=⟨!(lkF m t.f).done,lkF m t.f,if (lkF m t.f).done && (lkF m t.f).e==0 then t.held ++ [(lkF m t.f).slot] else t.held⟩
def Vf(t:Tk):Tk:=⟨false,Af t.f 0,t.held.erase t.f.c.slot⟩
section
variable {w:Wd} {i:Nat} {t:Tk}
theorem V8{f:Fr}(h:f.c.kind=1):¬ G8 f/\¬ adds f:=by
 unfold G8 adds
 omega
theorem Iy{m':Mm}{g:Fr}{d:Int->Int}(I:Bi w)(hi:w.ts[i]?=some t)(hb:t.busy=true)(hk:t.f.c.kind=1)(eg:lkF w.m t.f=g)(em:lkM w.m t.f=m')(hd:g.done=false)
  (E:Eff w.m m' (bkN w.m t.f) (chL w.m (bkN w.m t.f)) d) (hl:m'.locks=w.m.locks) (hst:a9n g) (hcnt:∀ k,Be w.m k=true->d k=cnt ⟨true,g,t.held⟩ k - cnt t k):Bi ⟨m',w.ts.set i (I9 w.m t)⟩:=by
 have htm:=List.mem_of_getElem? hi
 have F:=I.fi t htm hb
 have hgc:g.c=t.f.c:=by rw[<- eg];exact a4z _ _
 have e:I9 w.m t=⟨true,g,t.held⟩:=by unfold I9;rw[eg,hd];rfl
 rw[e]
 have hk':g.c.kind=1:=by rw[hgc];exact hk
 refine Ff I hi hb E hl hgc (fun _=>?_) (I.held t htm) hcnt (fun _ h=>((V8 hk').2 h).elim) ⟨fun h=>((V8 hk).1 h).elim,fun h=>((V8 hk').1 h.2).elim⟩
 refine⟨?_,by show 1<=g.c.kind/\g.c.kind<=6;omega,fun _=>⟨hst,(F.look hk).2⟩,fun h=>?_,fun h=>?_,fun h=>?_,fun h=>?_⟩
 ·have:=b5s I.okc.ok F.fit (by rw[eg];exact hd)
  rw[eg,em] at this
  exact this
 ·have h':g.c.kind=2:=h;omega
 ·have h':g.c.kind=3:=h;omega
 ·have h':g.c.kind=4\/g.c.kind=5:=h;omega
 ·have h':g.c.kind=6:=h;omega
theorem Ue{m':Mm}{g:Fr}{d:Int->Int}{held':List Int}(I:Bi w)(hi:w.ts[i]?=some t)(hb:t.busy=true)(hk:t.f.c.kind=1)(eg:lkF w.m t.f=g)(hd:g.done=true)
  (hh:(if g.e==0 then t.held ++ [g.slot] else t.held)=held')
  (E:Eff w.m m' (bkN w.m t.f) (chL w.m (bkN w.m t.f)) d) (hl:m'.locks=w.m.locks) (hheld:held'.length<=100/\∀ a∈held',Be w.m a=true) (hcnt:∀ k,Be w.m k=true->d k=(held'.count k:Int) - cnt t k):Bi ⟨m',w.ts.set i (I9 w.m t)⟩:=by
 have hgc:g.c=t.f.c:=by rw[<- eg];exact a4z _ _
 have e:I9 w.m t=⟨false,g,held'⟩:=by unfold I9;rw[eg,hd,<- hh];rfl
 rw[e]
 refine Ff I hi hb E hl hgc (fun h=>by cases h) hheld (fun k hk'=>?_) (fun h=>by cases h) ⟨fun h=>((V8 hk).1 h).elim,fun h=>by cases h.1⟩
 rw[hcnt k hk',Dq (t:=⟨false,g,held'⟩) (.inl rfl)]
set_option maxHeartbeats 800000 in
theorem a7r(I:Bi w)(hi:w.ts[i]?=some t)(hb:t.busy=true)(hk:t.f.c.kind=1):Bi ⟨lkM w.m t.f,w.ts.set i (I9 w.m t)⟩:=by
 have htm:=List.mem_of_getElem? hi
 have F:=I.fi t htm hb
 obtain⟨⟨s1,s2,s3⟩,hlt⟩:=F.look hk
 have hfd:=F.fit.done
 have hpl:=F.fit.pl
 have hh:=I.held t htm
 have hR:Eff w.m w.m (bkN w.m t.f) (chL w.m (bkN w.m t.f)) (fun _=>0):=Eff.refl I.okc _
 have hsame:∀ g:Fr,g.c.kind=1->g.slot=t.f.slot->∀ k:Int,(0:Int)=cnt ⟨true,g,t.held⟩ k - cnt t k:=fun g h1 h2 k=>by
  have e:cnt ⟨true,g,t.held⟩ k=cnt t k:=by
   unfold cnt hand
   dsimp only
   rw[hb,Fe (f:=g) (by omega),Fe (f:=t.f) (by omega),h2]
  omega
 have hneg:t.f.slot=-1->∀ k,cnt t k=(t.held.count k:Int):=fun h k=>Dq (.inr (Iq h)) k
 have hpos:0<=t.f.slot->∀ k,cnt t k=(t.held.count k:Int)+if k=t.f.slot then 1 else 0:=fun h k=>Ik hb (by rw[Fe (by omega)];simpa using h) k
 have hsl:0<=t.f.slot->Be w.m t.f.slot=true:=fun h=>Cj.2 ⟨h,F.fit.slot.2⟩
 have hp:t.f.pl=0\/t.f.pl=1\/t.f.pl=2\/t.f.pl=3\/t.f.pl=4\/t.f.pl=5\/t.f.pl=6:=by omega
 rcases hp with p|p|p|p|p|p|p
 ·rw[Dv (by omega)]
  have hs:=s2 (by omega)
  refine Iy I hi hb hk (b9c p) (Dv (by omega)) hfd hR rfl ⟨by simp[E8,Bl],(fun _=>hs),(fun h=>by simp[E8,Bl] at h)⟩ (fun k _=>by refine hsame _ ?_ ?_ k;exact hk;rfl)
 ·rw[Dv (by omega)]
  have hs:=s2 (by omega)
  have e:=b1k (M:=w.m) p
  unfold Jw at e
  by_cases h1:t.f.cur=-1 - G7 w.m.heads.length t.f.c
  ·rw[if_pos h1] at e
   exact Ue I hi hb hk e rfl rfl hR rfl hh (fun k _=>by rw[hneg hs];show (0:Int)=(t.held.count k:Int) - _;omega)
  ·rw[if_neg h1] at e
   by_cases h2:D7 w.m t.f=true
   ·rw[if_pos h2] at e
    refine Iy I hi hb hk e (Dv (by omega)) hfd hR rfl ⟨?_,(fun _=>hs),(fun h=>?_)⟩ (fun k _=>by refine hsame _ ?_ ?_ k;exact hk;rfl)
    ·show (if lkK (A7 w.m (t.f.cur - 1)) t.f=true then (3:Int) else 2)<=6
     split <;> omega
    ·have h':4<=if lkK (A7 w.m (t.f.cur - 1)) t.f=true then (3:Int) else 2:=h
     split at h' <;> omega
   ·rw[if_neg h2] at e
    exact Iy I hi hb hk e (Dv (by omega)) hfd hR rfl ⟨by simp[toF],(fun _=>hs),(fun h=>by simp[toF] at h)⟩ (fun k _=>by refine hsame _ ?_ ?_ k;exact hk;rfl)
 ·rw[Dv (by omega)]
  have hs:=s2 (by omega)
  have e:=b5r (M:=w.m) p
  unfold Fa at e
  by_cases h2:D7 w.m t.f=true
  ·rw[if_pos h2] at e
   exact Iy I hi hb hk e (Dv (by omega)) hfd hR rfl ⟨by simp[Bl],(fun _=>hs),(fun h=>by simp[Bl] at h)⟩ (fun k _=>by refine hsame _ ?_ ?_ k;exact hk;rfl)
  ·rw[if_neg h2] at e
   exact Iy I hi hb hk e (Dv (by omega)) hfd hR rfl ⟨by simp[toF],(fun _=>hs),(fun h=>by simp[toF] at h)⟩ (fun k _=>by refine hsame _ ?_ ?_ k;exact hk;rfl)
 ·have hs:=s2 (by omega)
  have e:=b9d (M:=w.m) p
  have em:=b9g (M:=w.m) p
  unfold Iu at e
  unfold Iw holdN at em
  by_cases h2:D7 w.m t.f=true
  ·by_cases h3:Ut w.m (t.f.cur - 1)=true
   ·rw[if_pos (by rw[h2,h3];rfl)] at e
    rw[if_pos h2,if_pos h3] at em
    rw[em]
    have h3':=Ov.1 h3
    have hE:=a0y I.okc (bkN w.m t.f) (Ko h2) h3'.1 h3'.2
    have h0:=(Cj.1 (Ko h2)).1
    refine Iy I hi hb hk e em hfd hE rfl ⟨by simp[Ci],(fun h=>by simp[Ci] at h),(fun _=>h0)⟩ (fun k _=>?_)
    rw[hneg hs,Ik (t:=⟨true,Ci t.f (t.f.cur - 1) 4,t.held⟩) rfl (by rw[Fe (f:=Ci t.f (t.f.cur - 1) 4) (by show t.f.c.kind≠2;omega)];exact decide_eq_true h0)]
    show (if k=t.f.cur - 1 then (1:Int) else 0)=(t.held.count k:Int)+(if k=t.f.cur - 1 then 1 else 0) - _
    omega
   ·rw[if_neg (by rw[h2];simpa using h3)] at e
    rw[if_pos h2,if_neg h3] at em
    rw[em]
    exact Iy I hi hb hk e em hfd hR rfl ⟨by simp[toF],(fun _=>hs),(fun h=>by simp[toF] at h)⟩ (fun k _=>by refine hsame _ ?_ ?_ k;exact hk;rfl)
  ·rw[if_neg (by simpa using fun h=>(h2 h).elim)] at e
   rw[if_neg h2] at em
   rw[em]
   exact Iy I hi hb hk e em hfd hR rfl ⟨by simp[toF],(fun _=>hs),(fun h=>by simp[toF] at h)⟩ (fun k _=>by refine hsame _ ?_ ?_ k;exact hk;rfl)
 ·rw[Dv (by omega)]
  have h0:=s3 (by omega)
  have hs:=hsl h0
  have e:=b9e (M:=w.m) p
  unfold Hw at e
  rw[if_pos hs] at e
  by_cases h1:(lkK (A7 w.m t.f.slot) t.f && (A7 w.m t.f.slot).inn)=true
  ·rw[if_pos h1] at e
   by_cases h2:w.m.now<(A7 w.m t.f.slot).unt
   ·rw[if_pos h2] at e
    refine Ue I hi hb hk e rfl rfl hR rfl ⟨?_,fun a ha=>?_⟩ (fun k _=>?_)
    ·show (t.held ++ [t.f.slot]).length<=100
     simp only[List.length_append,List.length_cons,List.length_nil];omega
    ·have ha':a∈t.held ++ [t.f.slot]:=ha
     rcases List.mem_append.1 ha' with h|h
     ·exact hh.2 a h
     ·have:a=t.f.slot:=by simpa using h
      rw[this];exact hs
    ·rw[hpos h0]
     show (0:Int)=((t.held ++ [t.f.slot]).count k:Int) - _
     rw[List.count_append,List.count_cons,List.count_nil]
     by_cases ek:k=t.f.slot
     ·subst ek;simp
     ·have:(t.f.slot==k)=false:=by simpa using fun h=>ek h.symm
      rw[this,if_neg ek];simp
   ·rw[if_neg h2] at e
    exact Iy I hi hb hk e (Dv (by omega)) hfd hR rfl ⟨by simp[toF],(fun h=>by simp[toF] at h),(fun _=>h0)⟩ (fun k _=>by refine hsame _ ?_ ?_ k;exact hk;rfl)
  ·rw[if_neg h1] at e
   exact Iy I hi hb hk e (Dv (by omega)) hfd hR rfl ⟨by simp[toF],(fun h=>by simp[toF] at h),(fun _=>h0)⟩ (fun k _=>by refine hsame _ ?_ ?_ k;exact hk;rfl)
 ·have h0:=s3 (by omega)
  have hs:=hsl h0
  have e:=lkF5 (M:=w.m) p
  have em:=lkM5 (M:=w.m) p
  unfold Kr at e
  unfold D8 at em
  rw[if_pos hs] at e em
  rw[em]
  have hin:=I.Ei htm hb (by rw[Fe (by omega)];simpa using h0) hs
  have hmp:=(Kt w.m t.f.slot)
  have hE:=Oe I.okc (bkN w.m t.f) hs (by omega) (fun hm=>by have:=Lh hm;omega)
  refine Iy I hi hb hk e em hfd hE (by unfold Ec;split <;> rfl) ⟨by simp[Ci],(fun _=>rfl),(fun h=>by simp[Ci] at h)⟩ (fun k _=>?_)
  rw[hpos h0,Dq (t:=⟨true,Ci t.f (-1) 0,t.held⟩) (.inr rfl)]
  show (if k=t.f.slot then (-1:Int) else 0)=(t.held.count k:Int) - _
  split <;> omega
 ·have h0:=s3 (by omega)
  have hs:=hsl h0
  have e:=b9f (M:=w.m) p
  have em:=b9h (M:=w.m) p
  unfold Nj at e
  unfold D8 at em
  rw[if_pos hs] at e em
  rw[em]
  have hin:=I.Ei htm hb (by rw[Fe (by omega)];simpa using h0) hs
  have hmp:=(Kt w.m t.f.slot)
  have hE:=Oe I.okc (bkN w.m t.f) hs (by omega) (fun hm=>by have:=Lh hm;omega)
  refine Ue I hi hb hk e rfl rfl hE (by unfold Ec;split <;> rfl) hh (fun k _=>?_)
  rw[hpos h0]
  show (if k=t.f.slot then (-1:Int) else 0)=(t.held.count k:Int) - _
  split <;> omega
theorem a3b(I:Bi w)(hi:w.ts[i]?=some t)(hb:t.busy=true)(hk:t.f.c.kind=6):Bi ⟨Ec w.m t.f.c.slot,w.ts.set i (Vf t)⟩:=by
 have htm:=List.mem_of_getElem? hi
 have F:=I.fi t htm hb
 obtain⟨l1,l2⟩:=F.leave hk
 have hh:=I.held t htm
 have hs:=hh.2 _ l2
 have hin:=I.b8t htm l2
 have hmp:=(Kt w.m t.f.c.slot)
 have hE:=Oe I.okc (bkN w.m t.f) hs (by omega) (fun hm=>by have:=Lh hm;omega)
 have hnl:¬ G8 t.f:=by unfold G8;omega
 refine Ff I hi hb hE (by unfold Ec;split <;> rfl) rfl (fun h=>by cases h) ⟨?_,fun a ha=>hh.2 a (List.mem_of_mem_erase ha)⟩ (fun k _=>?_) (fun h=>by cases h) ⟨fun h=>(hnl h).elim,fun h=>by cases h.1⟩
 ·have:(t.held.erase t.f.c.slot).length<=t.held.length:=List.length_erase_le
  show (t.held.erase t.f.c.slot).length<=100
  omega
 ·rw[Dq (t:=Vf t) (.inl rfl),Dq (t:=t) (.inr (Iq l1))]
  show (if k=t.f.c.slot then (-1:Int) else 0)=((t.held.erase t.f.c.slot).count k:Int) - _
  rw[List.count_erase]
  by_cases ek:k=t.f.c.slot
  ·subst ek
   have:0<t.held.count t.f.c.slot:=List.count_pos_iff.2 l2
   simp
   omega
  ·have:(t.f.c.slot==k)=false:=by simpa using fun h=>ek h.symm
   rw[if_neg ek,this];simp
end
end
section
theorem Td{m:Mm}{b c:Nat}{v:Int}(h:c≠b):Ak (Bh m b v) c=Ak m c:=by
 unfold Ak Bh
 dsimp only
 rw[List.getD_eq_getElem?_getD,List.getD_eq_getElem?_getD,List.getElem?_set_ne (by omega)]
section
variable {w:Wd} {i:Nat} {t t':Tk}
theorem Bi.bk(I:Bi w)(hi:w.ts[i]?=some t)(hb:t.busy=true):bkN w.m t.f<w.m.heads.length/\bkN w.m t.f<w.m.locks.length:=by
 have F:=I.fi t (List.mem_of_getElem? hi) hb
 have:=Ej I.okc.ok F.fit.call
 have h:=I.okc.ok.nl
 unfold bkN
 omega
theorem Bi.Bc(I:Bi w)(hi:w.ts[i]?=some t):(-1:Int)<=i/\(i:Int)<=4:=by
 have h1:i<w.ts.length:=(List.getElem?_eq_some_iff.1 hi).1
 have:=I.nt.2
 omega
theorem X6(I:Bi w)(hi:w.ts[i]?=some t)(hb:t.busy=true)(hf:Ak w.m (bkN w.m t.f)=-1)(hc:t'.f.c=t.f.c)(hb':t'.busy=true)(hL:G8 t'.f)
  (hfi:FI (Bh w.m (bkN w.m t.f) i) t') (hh:t'.held=t.held) (hcnt:∀ k,cnt t' k=cnt t k) (hown:adds t'.f->adds t.f/\t'.f.slot=t.f.slot):Bi ⟨Bh w.m (bkN w.m t.f) i,w.ts.set i t'⟩:=by
 have hbk:=I.bk hi hb
 have hE:=a1e I.okc (bkN w.m t.f) (bkN w.m t.f) (t:=i) (I.Bc hi)
 have hA:Ba (Bh w.m (bkN w.m t.f) i)=Ba w.m:=rfl
 refine Sj I hi hb hE (.inl rfl) hc (fun _=>hfi) (by rw[hh];exact I.held t (List.mem_of_getElem? hi)) (fun x hx=>.inl hx) (fun k _=>?_) (fun _ h=>.inl (hown h)) (fun _ _=>Ob hbk.2) (fun c hne=>Td hne) (.inr (.inl hf)) (.inr (.inl ⟨Ob hbk.2,hb',hL⟩))
 show (0:Int)=H8 w.m k - H8 w.m k+_
 rw[hcnt k];omega
theorem X7(I:Bi w)(hi:w.ts[i]?=some t)(hb:t.busy=true)(hL:G8 t.f)(hc:t'.f.c=t.f.c)(hn:t'.busy=true->¬ G8 t'.f)
  (hfi:t'.busy=true->FI (Bh w.m (bkN w.m t.f) (-1)) t') (hh:t'.held=t.held) (hcnt:∀ k,cnt t' k=cnt t k) (hown:t'.busy=true->¬ adds t'.f):Bi ⟨Bh w.m (bkN w.m t.f) (-1),w.ts.set i t'⟩:=by
 have hbk:=I.bk hi hb
 have hE:=a1e I.okc (bkN w.m t.f) (bkN w.m t.f) (t:=-1) (by omega)
 refine Sj I hi hb hE (.inl rfl) hc hfi (by rw[hh];exact I.held t (List.mem_of_getElem? hi)) (fun x hx=>.inl hx) (fun k _=>?_) (fun h1 h2=>(hown h1 h2).elim) (fun h1 h2=>(hn h1 h2).elim) (fun c hne=>Td hne) (.inr (.inr (I.lockI i t hi hb hL))) (.inl (Ob hbk.2))
 show (0:Int)=H8 w.m k - H8 w.m k+_
 rw[hcnt k];omega
theorem U9{m':Mm}{l:List Int}{d:Int->Int}(I:Bi w)(hi:w.ts[i]?=some t)(hb:t.busy=true)(hL:G8 t.f)(E:Eff w.m m' (bkN w.m t.f) l d)(hlk:m'.locks=w.m.locks)
  (hc:t'.f.c=t.f.c) (hb':t'.busy=true) (hL':G8 t'.f) (hfi:FI m' t') (hh:t'.held=t.held) (hsub:∀ x∈Ba m',x∈Ba w.m\/(adds t.f/\x=t.f.slot))
  (hcnt:∀ k,Be w.m k=true->d k=H8 m' k - H8 w.m k+(cnt t' k - cnt t k)) (hown:¬ adds t'.f):Bi ⟨m',w.ts.set i t'⟩:=by
 have hla:∀ c,Ak m' c=Ak w.m c:=fun c=>by unfold Ak;rw[hlk]
 have e:=I.lockI i t hi hb hL
 exact Sj I hi hb E (.inr hL) hc (fun _=>hfi) (by rw[hh];exact I.held t (List.mem_of_getElem? hi)) hsub hcnt (fun _ h=>(hown h).elim) (fun _ _=>by rw[hla];exact e) (fun c _=>hla c) (.inl (hla _)) (.inr (.inl ⟨by rw[hla];exact e,hb',hL'⟩))
theorem a5a{M M':Mm}{b:Nat}{l:List Int}{d:Int->Int}(hb:b<M.heads.length)(E:Eff M M' b l d)(x:Int):x∈Ba M' ↔ x∈l\/∃ c,c<M.heads.length/\c≠b/\x∈chL M c:=by
 rw[E5]
 constructor
 ·rintro ⟨c,hc,hx⟩
  rw[E.nh] at hc
  by_cases e:c=b
  ·subst e;rw[E.at_] at hx;exact .inl hx
  ·rw[E.else_ c hc e] at hx;exact .inr ⟨c,hc,e,hx⟩
 ·rintro (h|⟨c,hc,e,hx⟩)
  ·exact⟨b,by rw[E.nh];exact hb,by rw[E.at_];exact h⟩
  ·exact⟨c,by rw[E.nh];exact hc,by rw[E.else_ c hc e];exact hx⟩
theorem a1h{M:Mm}{b:Nat}(hb:b<M.heads.length)(x:Int):x∈Ba M ↔ x∈chL M b\/∃ c,c<M.heads.length/\c≠b/\x∈chL M c:=by
 rw[E5]
 constructor
 ·rintro ⟨c,hc,hx⟩
  by_cases e:c=b
  ·subst e;exact .inl hx
  ·exact .inr ⟨c,hc,e,hx⟩
 ·rintro (h|⟨c,hc,e,hx⟩)
  ·exact⟨b,hb,h⟩
  ·exact⟨c,hc,hx⟩
def Cb(g:Fr)(t:Tk):Tk:=⟨!g.done,g,t.held⟩
theorem Ib{m:Mm}{f:Fr}{l1 l2:List Int}(hM:OkC m)(hb:bkN m f<m.heads.length)(R:Rest m f l1 l2):(D7 m f=true ↔ ∃ a l,l2=a :: l)/\∀ a l,l2=a :: l->f.cur - 1=a:=by
 refine⟨⟨fun h=>?_,fun ⟨a,l,e⟩=>?_⟩,fun a l e=>?_⟩
 ·cases l2 with
  | nil =>
   have h2:f.cur=-1 - ((bkN m f:Nat):Int):=R.2
   rw[Bv] at h
   omega
  | cons a l=>exact⟨a,l,rfl⟩
 ·subst e
  have h2:f.cur=a+1:=R.2
  have:=hM.slots hb a (by rw[R.1];simp)
  rw[Bv]
  omega
 ·subst e
  have h2:f.cur=a+1:=R.2
  omega
theorem b6a{m:Mm}{f:Fr}(hM:OkC m)(hk:¬ (f.c.kind=4\/f.c.kind=5))(hkey:Ee f.c.a f.c.b=true)(h:NoK m f (chL m (bkN m f))):hasK m (Ba m) (Key f)=false:=by
 cases e:hasK m (Ba m) (Key f)
 ·rfl
 ·exfalso
  rw[Gq,List.mem_map] at e
  obtain⟨a,hm,he⟩:=e
  obtain⟨b',hb',ha⟩:=E5.1 hm
  have hbu:=(hM.held b' hb' a ha).2.2
  have hk1:(A7 m a).a=f.c.a/\(A7 m a).b=f.c.b:=by unfold keyAt Key at he;simpa using he
  rw[hk1.1,hk1.2] at hbu
  have hbk:=Yb hM.ok hk hkey
  have:bkN m f=b':=by unfold bkN;rw[hbk,hbu];simp
  rw[this] at h
  exact h a ha he
theorem a3h{m:Mm}{f:Fr}{a:Int}:lkK (A7 m a) f=true ↔ keyAt m a=Key f:=by
 unfold lkK keyAt Key
 simp
set_option maxHeartbeats 1600000 in
theorem a9t(I:Bi w)(hi:w.ts[i]?=some t)(hb:t.busy=true)(hk:t.f.c.kind=2):Bi ⟨adM i w.m t.f,w.ts.set i (Cb (adF w.m t.f) t)⟩:=by
 have htm:=List.mem_of_getElem? hi
 have F:=I.fi t htm hb
 have hbk:=I.bk hi hb
 obtain⟨a1,a2,a3,a4,a5,a6,a7⟩:=F.add hk
 obtain⟨k1,k2,k3⟩:=Zg hk F.fit.call
 have hfd:=F.fit.done
 have hpl:=F.fit.pl
 have hh:=I.held t htm
 have hR:Eff w.m w.m (bkN w.m t.f) (chL w.m (bkN w.m t.f)) (fun _=>0):=Eff.refl I.okc _
 have hfit:∀ g,adF w.m t.f=g->g.done=false->Fit (adM i w.m t.f) g:=fun g e hd=>by
  have:=b3q (i:Int) I.okc.ok F.fit (by rw[e];exact hd)
  rwa [e] at this
 have hmk:∀ (m':Mm) (g:Fr),adM i w.m t.f=m'->adF w.m t.f=g->g.done=false->g.c=t.f.c->b7l m' g->FI m' (Cb g t):=fun m' g em e hd hc hst=>by
  have hkk:g.c.kind=2:=by rw[hc];exact hk
  refine⟨by rw[<- em];exact hfit g e hd,by show 1<=g.c.kind/\g.c.kind<=6;omega,fun h=>?_,fun _=>hst,fun h=>?_,fun h=>?_,fun h=>?_⟩
  ·have h':g.c.kind=1:=h;omega
  ·have h':g.c.kind=3:=h;omega
  ·have h':g.c.kind=4\/g.c.kind=5:=h;omega
  ·have h':g.c.kind=6:=h;omega
 have hbusy:∀ g:Fr,g.done=false->(Cb g t).busy=true:=fun g h=>by unfold Cb;rw[h];rfl
 have hsame:∀ g:Fr,g.done=false->Ei g=Ei t.f->g.slot=t.f.slot->∀ k,cnt (Cb g t) k=cnt t k:=fun g hd h1 h2 k=>by
  unfold cnt hand Cb
  dsimp only
  rw[hd,hb,h1,h2]
  rfl
 have hp:t.f.pl=0\/t.f.pl=1\/t.f.pl=2\/t.f.pl=3\/t.f.pl=4\/t.f.pl=5\/t.f.pl=6\/t.f.pl=7:=by omega
 rcases hp with p|p|p|p|p|p|p|p
 ·have e:=b3o (M:=w.m) p
  have em:=b3r (M:=w.m) (t:=(i:Int)) p
  have hs:=a2 p
  unfold Ih at e
  unfold Hm at em
  by_cases hF:w.m.free.length=0
  ·rw[if_pos hF] at e em
   rw[e,em]
   refine Ff I hi hb hR rfl rfl (fun h=>by cases h) hh (fun k _=>?_) (fun h=>by cases h) ⟨fun h=>?_,fun h=>by cases h.1⟩
   ·rw[Dq (t:=Cb (Af t.f 7) t) (.inl rfl),Dq (t:=t) (.inr (Iq hs))]
    show (0:Int)=(t.held.count k:Int) - (t.held.count k:Int);omega
   ·unfold G8 at h;omega
  ·rw[if_neg hF] at e em
   obtain⟨hE,hoff,hsl,hr0,hky,hun⟩:=b3c I.okc (bkN w.m t.f) k1 (a5n I.okc.ok k2) (by omega:0<w.m.free.length)
   have h0:=(Cj.1 hsl).1
   have hA:Ba (Hf w.m t.f.c.a t.f.c.b (Zw w.m t.f))=Ba w.m:=by
    unfold Ba Bg
    rw[hE.nh]
    refine Es fun c hc=>?_
    have:=List.mem_range.1 hc
    by_cases e:c=bkN w.m t.f
    ·rw[e];exact hE.at_
    ·exact hE.else_ c this e
   have hg:adds (Ci t.f (Eo w.m) 1):=⟨hk,by simp[Ci],by simp[Ci]⟩
   have hih:Ei (Ci t.f (Eo w.m) 1)=true:=Ef hg h0
   rw[e,em]
   refine Ff I hi hb hE rfl rfl (fun _=>?_) hh (fun k _=>?_) (fun _ _=>.inr hr0) ⟨fun h=>?_,fun h=>?_⟩
   ·refine hmk _ _ em e hfd rfl ⟨by simp[Ci],(fun h=>by simp[Ci] at h),(fun _ _=>⟨?_,?_,hky⟩),(fun h=>by simp[Ci] at h),(fun h=>by simp[Ci] at h),(fun h=>by simp[Ci] at h),(fun h=>by simp[Ci] at h)⟩
    ·show Be _ (Eo w.m)=true
     unfold Be
     rw[hE.ns]
     exact hsl
    ·show Eo w.m ∉ _
     rw[hA];exact hoff
   ·rw[Ik (t:=Cb (Ci t.f (Eo w.m) 1) t) (hbusy _ hfd) hih,Dq (t:=t) (.inr (Iq hs))]
    show (if k=Eo w.m then (1:Int) else 0)=(t.held.count k:Int)+(if k=Eo w.m then 1 else 0) - (t.held.count k:Int)
    omega
   ·unfold G8 at h;omega
   ·have h2:G8 (Ci t.f (Eo w.m) 1):=h.2
    unfold G8 Ci at h2
    dsimp only at h2
    omega
 ·obtain⟨x1,x2,x3⟩:=a3 (by omega) (by omega)
  have e:=b7u (M:=w.m) p
  have em:=b7z (M:=w.m) (t:=(i:Int)) p
  unfold Nc at e
  unfold Dz at em
  by_cases hF:Ak w.m (bkN w.m t.f)=-1
  ·rw[if_pos hF] at e em
   rw[e,em]
   have h0:=(Cj.1 x1).1
   have hg:adds (toF t.f 2):=⟨hk,by simp[toF],by simp[toF]⟩
   have ha:adds t.f:=⟨hk,by omega,by omega⟩
   refine X6 I hi hb hF rfl (hbusy _ hfd) (.inl ⟨hk,by simp[Cb,toF]⟩) ?_ rfl (hsame _ hfd (by rw[Ef hg h0,Ef ha h0]) rfl) (fun _=>⟨ha,rfl⟩)
   exact hmk _ _ em e hfd rfl ⟨by simp[toF],(fun h=>by simp[toF] at h),(fun _ _=>⟨x1,x2,x3⟩),(fun h=>by simp[toF] at h),(fun h=>by simp[toF] at h),(fun h=>by simp[toF] at h),(fun h=>by simp[toF] at h)⟩
  ·rw[if_neg hF] at e em
   rw[e,em]
   have ht:Cb t.f t=t:=by
    unfold Cb
    rw[hfd]
    obtain⟨bb,ff,hl⟩:=t
    have:bb=true:=hb
    subst this
    rfl
   rw[ht]
   have:w.ts.set i t=w.ts:=by
    apply List.ext_getElem?
    intro j
    rw[List.getElem?_set]
    split
    ·rename_i e;subst e
     split
     ·exact hi.symm
     ·rename_i h;rw[List.getElem?_eq_none (by omega)] at hi;cases hi
    ·rfl
   rw[this]
   exact I
 ·obtain⟨x1,x2,x3⟩:=a3 (by omega) (by omega)
  have h0:=(Cj.1 x1).1
  have e:=b7v (M:=w.m) p
  have em:adM (i:Int) w.m t.f=w.m:=H9 (by omega)
  rw[e,em]
  have hg:adds (Bl t.f (Ar w.m (bkN w.m t.f)) 3):=⟨hk,by simp[Bl],by simp[Bl]⟩
  have ha:adds t.f:=⟨hk,by omega,by omega⟩
  refine Ff I hi hb hR rfl rfl (fun _=>?_) hh (fun k _=>?_) (fun _ _=>.inl ⟨ha,rfl⟩) ⟨fun _=>⟨hbusy _ hfd,.inl ⟨hk,by simp[Cb,Bl]⟩⟩,fun _=>.inl ⟨hk,by omega⟩⟩
  ·refine hmk _ _ em e hfd rfl ⟨by simp[Bl],(fun h=>by simp[Bl] at h),(fun _ _=>⟨x1,x2,x3⟩),(fun _=>⟨[],chL w.m (bkN w.m t.f),⟨rfl,I.okc.Wy hbk.1⟩,fun a h=>by cases h⟩),(fun h=>by simp[Bl] at h),(fun h=>by simp[Bl] at h),(fun h=>by simp[Bl] at h)⟩
  ·rw[hsame (Bl t.f (Ar w.m (bkN w.m t.f)) 3) hfd (by rw[Ef hg h0,Ef ha h0]) rfl];omega
 ·obtain⟨x1,x2,x3⟩:=a3 (by omega) (by omega)
  have h0:=(Cj.1 x1).1
  obtain⟨l1,l2,R,N⟩:=a4 p
  obtain⟨hat,hcur⟩:=Ib I.okc hbk.1 R
  have ha:adds t.f:=⟨hk,by omega,by omega⟩
  have em:adM (i:Int) w.m t.f=w.m:=H9 (by omega)
  have e:=a9o (M:=w.m) p
  unfold Lu at e
  have done:∀ n:Int,adF w.m t.f=toF t.f n->4<=n->n<=6->(n=4->∃ l1 a l2,Rest w.m (toF t.f n) l1 (a :: l2)/\NoK w.m (toF t.f n) (l1 ++ [a]))->(n=5->NoK w.m (toF t.f n) (chL w.m (bkN w.m (toF t.f n))))->Bi ⟨adM (i:Int) w.m t.f,w.ts.set i (Cb (adF w.m t.f) t)⟩:=fun n e' h4 h6 q4 q5=>by
   rw[e',em]
   have hg:adds (toF t.f n):=⟨hk,by show 1<=n;omega,h6⟩
   refine Ff I hi hb hR rfl rfl (fun _=>?_) hh (fun k _=>?_) (fun _ _=>.inl ⟨ha,rfl⟩) ⟨fun _=>⟨hbusy _ hfd,.inl ⟨hk,by show 2<=n;omega⟩⟩,fun _=>.inl ⟨hk,by omega⟩⟩
   ·refine hmk _ _ em e' hfd rfl ⟨by show n<=7;omega,(fun h=>by have h':n=0:=h;omega),(fun _ _=>⟨x1,x2,x3⟩),(fun h=>by have h':n=3:=h;omega),q4,q5,(fun h=>by have h':n=7:=h;omega)⟩
   ·rw[hsame (toF t.f n) hfd (by rw[Ef hg h0,Ef ha h0]) rfl];omega
  cases l2 with
  | nil =>
   have hna:D7 w.m t.f=false:=by
    cases h:D7 w.m t.f
    ·rfl
    ·obtain⟨a,l,e⟩:=hat.1 h;cases e
   rw[hna] at e
   refine done 5 e (by omega) (by omega) (fun h=>by omega) (fun _ a hm=>?_)
   have hm':a∈chL w.m (bkN w.m t.f):=hm
   rw[R.1,List.append_nil] at hm'
   exact N a hm'
  | cons a l2 =>
   have hya:D7 w.m t.f=true:=hat.2 ⟨a,l2,rfl⟩
   rw[if_pos hya,hcur a l2 rfl] at e
   by_cases hkk:lkK (A7 w.m a) t.f=true
   ·rw[if_pos hkk] at e
    exact done 6 e (by omega) (by omega) (fun h=>by omega) (fun h=>by omega)
   ·rw[if_neg hkk] at e
    refine done 4 e (by omega) (by omega) (fun _=>⟨l1,a,l2,R,fun x hx=>?_⟩) (fun h=>by omega)
    rcases List.mem_append.1 hx with h|h
    ·exact N x h
    ·have:x=a:=by simpa using h
     rw[this]
     exact fun h=>hkk (a3h.2 h)
 ·obtain⟨x1,x2,x3⟩:=a3 (by omega) (by omega)
  have h0:=(Cj.1 x1).1
  obtain⟨l1,a,l2,R,N⟩:=a5 p
  obtain⟨hat,hcur⟩:=Ib I.okc hbk.1 R
  have ha:adds t.f:=⟨hk,by omega,by omega⟩
  have em:adM (i:Int) w.m t.f=w.m:=H9 (by omega)
  have e:=b7w (M:=w.m) p
  unfold Jm at e
  rw[if_pos (hat.2 ⟨a,l2,rfl⟩),hcur a l2 rfl] at e
  rw[e,em]
  have hg:adds (Bl t.f (A7 w.m a).next 3):=⟨hk,by simp[Bl],by simp[Bl]⟩
  refine Ff I hi hb hR rfl rfl (fun _=>?_) hh (fun k _=>?_) (fun _ _=>.inl ⟨ha,rfl⟩) ⟨fun _=>⟨hbusy _ hfd,.inl ⟨hk,by simp[Cb,Bl]⟩⟩,fun _=>.inl ⟨hk,by omega⟩⟩
  ·refine hmk _ _ em e hfd rfl ⟨by simp[Bl],(fun h=>by simp[Bl] at h),(fun _ _=>⟨x1,x2,x3⟩),(fun _=>⟨l1 ++ [a],l2,⟨?_,I.okc.Tm hbk.1 R.1⟩,N⟩),(fun h=>by simp[Bl] at h),(fun h=>by simp[Bl] at h),(fun h=>by simp[Bl] at h)⟩
   have:=R.1
   show chL w.m (bkN w.m t.f)=_
   rw[this];simp
  ·rw[hsame (Bl t.f (A7 w.m a).next 3) hfd (by rw[Ef hg h0,Ef ha h0]) rfl];omega
 ·obtain⟨x1,x2,x3⟩:=a3 (by omega) (by omega)
  have h0:=(Cj.1 x1).1
  have N:=a6 p
  have ha:adds t.f:=⟨hk,by omega,by omega⟩
  have hnk:=b6a I.okc (by omega) k1 N
  have hr:=(I.Rh htm hb ha).2.1
  have hob:ownB w.m t.f.slot=bkN w.m t.f:=by
   unfold keyAt Key at x3
   simp only[Prod.mk.injEq] at x3
   unfold ownB bkN
   rw[x3.1,x3.2,Yb I.okc.ok (by omega) k1]
  have hE:=b1g I.okc x1 hr (by rw[x3];exact hnk) hob
  have e:=b7x (M:=w.m) p
  have em:=b8a (M:=w.m) (t:=(i:Int)) p
  unfold Jl at e
  unfold Ig at em
  rw[if_pos x1] at e em
  rw[e,em]
  have hmem:∀ x,x∈Ba (J7 w.m t.f.slot (bkN w.m t.f)) ↔ x=t.f.slot\/x∈Ba w.m:=fun x=>by
   rw[a5a hbk.1 hE,a1h hbk.1,List.mem_cons,or_assoc]
  have hih:Ei t.f=true:=Ef ha h0
  have hig:Ei { t.f with e:=0,pl:=7 } = false:=by
   unfold Ei
   have:(t.f.c.kind==2)=true:=by simpa using hk
   dsimp only
   rw[this];simp
  refine U9 I hi hb (.inl ⟨hk,by omega⟩) hE rfl rfl (hbusy _ hfd) (.inl ⟨hk,by simp[Cb]⟩) ?_ rfl (fun x hx=>?_) (fun k _=>?_) (fun h=>by have:=h.2.2;simp[Cb] at this)
  ·exact hmk _ _ em e hfd rfl ⟨by simp,(fun h=>by simp at h),(fun _ h=>by simp at h),(fun h=>by simp at h),(fun h=>by simp at h),(fun h=>by simp at h),(fun _=>.inl ⟨rfl,h0⟩)⟩
  ·rcases (hmem x).1 hx with h|h
   ·exact .inr ⟨ha,h⟩
   ·exact .inl h
  ·rw[Ik hb hih,Dq (t:=Cb { t.f with e:=0,pl:=7 } t) (.inr hig)]
   show (0:Int)=H8 (J7 w.m t.f.slot (bkN w.m t.f)) k - H8 w.m k+((t.held.count k:Int) - ((t.held.count k:Int)+if k=t.f.slot then 1 else 0))
   unfold H8
   by_cases ek:k=t.f.slot
   ·rw[if_pos ((hmem k).2 (.inl ek)),if_pos ek,if_neg (by rw[ek];exact x2)];omega
   ·by_cases em':k∈Ba w.m
    ·rw[if_pos ((hmem k).2 (.inr em')),if_neg ek,if_pos em'];omega
    ·rw[if_neg (fun h=>((hmem k).1 h).elim ek em'),if_neg ek,if_neg em'];omega
 ·obtain⟨x1,x2,x3⟩:=a3 (by omega) (by omega)
  have h0:=(Cj.1 x1).1
  have ha:adds t.f:=⟨hk,by omega,by omega⟩
  have hih:Ei t.f=true:=Ef ha h0
  have hin:=I.Ei htm hb hih x1
  have hmp:=(Kt w.m t.f.slot)
  have hE:=Oe I.okc (bkN w.m t.f) x1 (by omega) (fun hm=>by have:=Lh hm;omega)
  have e:=b7y (M:=w.m) p
  have em:=b8b (M:=w.m) (t:=(i:Int)) p
  unfold Om at e
  unfold O3 at em
  rw[if_pos x1] at e em
  rw[e,em]
  refine Ff I hi hb hE (by unfold Ec;split <;> rfl) rfl (fun _=>?_) hh (fun k _=>?_) (fun _ h=>by have:=h.2.2;simp[Cb] at this) ⟨fun _=>⟨hbusy _ hfd,.inl ⟨hk,by simp[Cb]⟩⟩,fun _=>.inl ⟨hk,by omega⟩⟩
  ·exact hmk _ _ em e hfd rfl ⟨by simp,(fun h=>by simp at h),(fun _ h=>by simp at h),(fun h=>by simp at h),(fun h=>by simp at h),(fun h=>by simp at h),(fun _=>.inr ⟨rfl,rfl⟩)⟩
  ·rw[Ik hb hih,Dq (t:=Cb { t.f with slot:=-1,e:=6,pl:=7 } t) (.inr rfl)]
   show (if k=t.f.slot then (-1:Int) else 0)=(t.held.count k:Int) - ((t.held.count k:Int)+if k=t.f.slot then 1 else 0)
   split <;> omega
 ·have hL:G8 t.f:=.inl ⟨hk,by omega⟩
  have e:=b3p (M:=w.m) p
  have em:=b3s (M:=w.m) (t:=(i:Int)) p
  unfold Du at em
  rw[if_pos (I.lockI i t hi hb hL)] at em
  rw[e,em]
  refine X7 I hi hb hL rfl (fun h=>by cases h) (fun h=>by cases h) rfl (fun k=>?_) (fun h=>by cases h)
  rw[Dq (t:=Cb (Af t.f t.f.e) t) (.inl rfl),Dq (t:=t) (.inr (by
   unfold Ei
   have h1:(t.f.c.kind==2)=true:=by simpa using hk
   have h2:(t.f.pl==7)=true:=by simpa using p
   rw[h1,h2];simp))]
  rfl
end
end
section
section
variable {w:Wd} {i:Nat} {t:Tk}
theorem a1r{ts:List Tk}(hi:ts[i]?=some t):ts.set i t=ts:=by
 apply List.ext_getElem?
 intro j
 rw[List.getElem?_set]
 split
 ·rename_i e;subst e
  split
  ·exact hi.symm
  ·rename_i h;rw[List.getElem?_eq_none (by omega)] at hi;cases hi
 ·rfl
theorem Za(hb:t.busy=true)(hd:t.f.done=false):Cb t.f t=t:=by
 unfold Cb
 rw[hd]
 obtain⟨bb,ff,hl⟩:=t
 have:bb=true:=hb
 subst this
 rfl
theorem a4s{M M':Mm}(h:OkC M){b:Nat}(hb:b<M.heads.length){l1 l2:List Int}{a:Int}{d:Int->Int}(e:chL M b=l1++a :: l2)(E:Eff M M' b (l1++l2) d)(x:Int):x∈Ba M' ↔ x∈Ba M/\x≠a:=by
 have hnd:=h.nodup hb
 rw[e,List.nodup_append,List.nodup_cons] at hnd
 have na1:¬ a∈l1:=fun h=>hnd.2.2 a h a (by simp) rfl
 have hnn:=Gi h.keys
 rw[a5a hb E,a1h hb,e]
 constructor
 ·rintro (hx|⟨c,hc,hne,hx⟩)
  ·refine⟨.inl ?_,?_⟩
   ·rcases List.mem_append.1 hx with h|h
    ·simp[h]
    ·simp[h]
   ·rintro rfl
    rcases List.mem_append.1 hx with h|h
    ·exact na1 h
    ·exact hnd.2.1.1 h
  ·refine⟨.inr ⟨c,hc,hne,hx⟩,?_⟩
   rintro rfl
   have h1:=(h.held c hc x hx).2.2
   have h2:=(h.held b hb x (by rw[e];simp)).2.2
   omega
 ·rintro ⟨hx|hx,hne⟩
  ·left
   simp only[List.mem_append,List.mem_cons] at hx ⊢
   rcases hx with h|h|h
   ·exact .inl h
   ·exact(hne h).elim
   ·exact .inr h
  ·exact .inr hx
set_option maxHeartbeats 1600000 in
theorem drop_step(I:Bi w)(hi:w.ts[i]?=some t)(hb:t.busy=true)(hk:t.f.c.kind=3):Bi ⟨drM i w.m t.f,w.ts.set i (Cb (drF w.m t.f) t)⟩:=by
 have htm:=List.mem_of_getElem? hi
 have F:=I.fi t htm hb
 have hbk:=I.bk hi hb
 obtain⟨a1,a2,a3,a4,a5,a6⟩:=F.drop hk
 have hfd:=F.fit.done
 have hpl:=F.fit.pl
 have hh:=I.held t htm
 have hR:Eff w.m w.m (bkN w.m t.f) (chL w.m (bkN w.m t.f)) (fun _=>0):=Eff.refl I.okc _
 have hmk:∀ (m':Mm) (g:Fr),drM i w.m t.f=m'->drF w.m t.f=g->g.done=false->g.c=t.f.c->a2i m' g->FI m' (Cb g t):=fun m' g em e hd hc hst=>by
  have hkk:g.c.kind=3:=by rw[hc];exact hk
  have hf:=b4p (i:Int) I.okc.ok F.fit (by rw[e];exact hd)
  rw[e,em] at hf
  refine⟨hf,by show 1<=g.c.kind/\g.c.kind<=6;omega,fun h=>?_,fun h=>?_,fun _=>hst,fun h=>?_,fun h=>?_⟩
  ·have h':g.c.kind=1:=h;omega
  ·have h':g.c.kind=2:=h;omega
  ·have h':g.c.kind=4\/g.c.kind=5:=h;omega
  ·have h':g.c.kind=6:=h;omega
 have hbusy:∀ g:Fr,g.done=false->(Cb g t).busy=true:=fun g h=>by unfold Cb;rw[h];rfl
 have hna:∀ g:Fr,g.c=t.f.c->¬ adds g:=fun g hc h=>by have:=h.1;rw[hc] at this;omega
 have hsame:∀ g:Fr,g.done=false->g.c=t.f.c->g.slot=t.f.slot->∀ k,cnt (Cb g t) k=cnt t k:=fun g hd h1 h2 k=>by
  unfold cnt hand Cb
  dsimp only
  rw[hd,hb,Fe (f:=g) (by rw[h1];omega),Fe (f:=t.f) (by omega),h2]
  rfl
 have go:∀ g:Fr,drF w.m t.f=g->drM i w.m t.f=w.m->g.done=false->g.c=t.f.c->g.slot=t.f.slot->a2i w.m g->(G8 t.f ↔ G8 g)->Bi ⟨drM i w.m t.f,w.ts.set i (Cb (drF w.m t.f) t)⟩:=fun g e em hd hc hs hst hL=>by
  rw[e,em]
  refine Ff I hi hb hR rfl hc (fun _=>hmk _ _ em e hd hc hst) hh (fun k _=>by rw[hsame g hd hc hs];omega) (fun _ h=>(hna g hc h).elim) ⟨fun h=>⟨hbusy _ hd,hL.1 h⟩,fun h=>hL.2 h.2⟩
 have hp:t.f.pl=0\/t.f.pl=1\/t.f.pl=2\/t.f.pl=3\/t.f.pl=4\/t.f.pl=5\/t.f.pl=6:=by omega
 have hLd:∀ n:Int,1<=n->n<=5->∀ g:Fr,g.c=t.f.c->g.pl=n->G8 g:=fun n h1 h2 g hc hn=>.inr (.inl ⟨by rw[hc];exact hk,by omega,by omega⟩)
 rcases hp with p|p|p|p|p|p|p
 ·have hs:=a2 (by omega)
  have e:=b8g (M:=w.m) p
  have em:=b8k (M:=w.m) (t:=(i:Int)) p
  unfold Fh at e
  unfold Dz at em
  by_cases hF:Ak w.m (bkN w.m t.f)=-1
  ·rw[if_pos hF] at e em
   rw[e,em]
   refine X6 I hi hb hF rfl (hbusy _ hfd) (hLd 1 (by omega) (by omega) _ rfl rfl) ?_ rfl (hsame (toF t.f 1) hfd rfl rfl) (fun h=>(hna (toF t.f 1) rfl h).elim)
   exact hmk _ _ em e hfd rfl ⟨by simp[toF],(fun _=>hs),(fun h=>by simp[toF] at h),(fun h=>by simp[toF] at h),(fun h=>by simp[toF] at h),(fun h=>by simp[toF] at h)⟩
  ·rw[if_neg hF] at e em
   rw[e,em,Za hb hfd,a1r hi]
   exact I
 ·have hs:=a2 (by omega)
  refine go _ (b8h p) (Gp (by omega)) hfd rfl rfl ⟨by simp[Dl],(fun _=>hs),(fun _=>⟨[],chL w.m (bkN w.m t.f),⟨rfl,I.okc.Wy hbk.1⟩,(fun a h=>by cases h),rfl⟩),(fun h=>by simp[Dl] at h),(fun h=>by simp[Dl] at h),(fun h=>by simp[Dl] at h)⟩ ⟨fun _=>hLd 2 (by omega) (by omega) _ rfl rfl,fun _=>hLd 1 (by omega) (by omega) _ rfl p⟩
 ·have hs:=a2 (by omega)
  obtain⟨l1,l2,R,N,q⟩:=a3 p
  obtain⟨hat,hcur⟩:=Ib I.okc hbk.1 R
  have e:=b0g (M:=w.m) p
  unfold Mc at e
  have hLt:G8 t.f:=hLd 2 (by omega) (by omega) _ rfl p
  cases l2 with
  | nil =>
   have hno:D7 w.m t.f=false:=by
    cases h:D7 w.m t.f
    ·rfl
    ·obtain⟨a,l,e⟩:=hat.1 h;cases e
   rw[hno] at e
   exact go _ e (Gp (by omega)) hfd rfl rfl ⟨by simp[Cf],(fun h=>by simp[Cf] at h),(fun h=>by simp[Cf] at h),(fun h=>by simp[Cf] at h),(fun h=>by simp[Cf] at h),(fun _=>.inl ⟨rfl,hs⟩)⟩ ⟨fun _=>hLd 5 (by omega) (by omega) _ rfl rfl,fun _=>hLt⟩
  | cons a l2 =>
   rw[if_pos (hat.2 ⟨a,l2,rfl⟩),hcur a l2 rfl] at e
   by_cases hkk:lkK (A7 w.m a) t.f=true
   ·rw[if_pos hkk] at e
    exact go _ e (Gp (by omega)) hfd rfl rfl ⟨by simp[toF],(fun _=>hs),(fun h=>by simp[toF] at h),(fun h=>by simp[toF] at h),(fun _=>⟨l1,a,l2,R,a3h.1 hkk,q⟩),(fun h=>by simp[toF] at h)⟩ ⟨fun _=>hLd 4 (by omega) (by omega) _ rfl rfl,fun _=>hLt⟩
   ·rw[if_neg hkk] at e
    refine go _ e (Gp (by omega)) hfd rfl rfl ⟨by simp[toF],(fun _=>hs),(fun h=>by simp[toF] at h),(fun _=>⟨l1,a,l2,R,fun x hx=>?_,q⟩),(fun h=>by simp[toF] at h),(fun h=>by simp[toF] at h)⟩ ⟨fun _=>hLd 3 (by omega) (by omega) _ rfl rfl,fun _=>hLt⟩
    rcases List.mem_append.1 hx with h|h
    ·exact N x h
    ·have:x=a:=by simpa using h
     rw[this]
     exact fun h=>hkk (a3h.2 h)
 ·have hs:=a2 (by omega)
  obtain⟨l1,a,l2,R,N,q⟩:=a4 p
  obtain⟨hat,hcur⟩:=Ib I.okc hbk.1 R
  have e:=b8i (M:=w.m) p
  unfold Jo at e
  rw[if_pos (hat.2 ⟨a,l2,rfl⟩),hcur a l2 rfl] at e
  have hca:=hcur a l2 rfl
  refine go _ e (Gp (by omega)) hfd rfl rfl ⟨by simp[Dl],(fun _=>hs),(fun _=>⟨l1 ++ [a],l2,⟨?_,I.okc.Tm hbk.1 R.1⟩,N,?_⟩),(fun h=>by simp[Dl] at h),(fun h=>by simp[Dl] at h),(fun h=>by simp[Dl] at h)⟩ ⟨fun _=>hLd 2 (by omega) (by omega) _ rfl rfl,fun _=>hLd 3 (by omega) (by omega) _ rfl p⟩
  ·have:=R.1
   show chL w.m (bkN w.m t.f)=_
   rw[this];simp
  ·rw[Oa]
   show t.f.cur=a+1
   omega
 ·have hs:=a2 (by omega)
  obtain⟨l1,a,l2,R,hka,q⟩:=a5 p
  obtain⟨hat,hcur⟩:=Ib I.okc hbk.1 R
  have hca:=hcur a l2 rfl
  have e:=b8j (M:=w.m) p
  have em:=b8l (M:=w.m) (t:=(i:Int)) p
  unfold Oq at e
  unfold Gl at em
  rw[if_pos (hat.2 ⟨a,l2,rfl⟩)] at e em
  rw[q,hca] at em
  have hE:=a4r I.okc hbk.1 R.1
  have hmem:=a4s I.okc hbk.1 R.1 hE
  have hach:a∈Ba w.m:=E5.2 ⟨_,hbk.1,by rw[R.1];simp⟩
  have hasl:=I.okc.Ha a hach
  rw[e,em]
  obtain⟨g,hg⟩:∃ g:Fr,g = { t.f with slot:=t.f.cur - 1,e:=0,pl:=5 }:=⟨_,rfl⟩
  rw[<- hg] at e ⊢
  have gc:g.c=t.f.c:=by rw[hg]
  have gs:g.slot=a:=by rw[hg];exact hca
  have gd:g.done=false:=by rw[hg];exact hfd
  have gp:g.pl=5:=by rw[hg]
  refine U9 I hi hb (hLd 4 (by omega) (by omega) _ rfl p) hE (by unfold Ey;split <;> rfl) gc (hbusy _ gd) (hLd 5 (by omega) (by omega) g gc gp) ?_ rfl (fun x hx=>.inl ((hmem x).1 hx).1) (fun k _=>?_) (hna g gc)
  ·refine hmk _ _ em e gd gc ⟨by omega,(fun h=>by omega),(fun h=>by omega),(fun h=>by omega),(fun h=>by omega),(fun _=>.inr ⟨by rw[hg],?_⟩)⟩
   rw[gs,Cj,hE.ns];exact hasl
  ·rw[Dq (t:=t) (.inr (Iq hs)),Ik (t:=Cb g t) (hbusy _ gd) (by rw[Fe (f:=(Cb g t).f) (by show g.c.kind≠2;rw[gc];omega)];show decide (0<=g.slot)=true;rw[gs];exact decide_eq_true hasl.1)]
   show (0:Int)=H8 _ k - H8 w.m k+((t.held.count k:Int)+(if k=g.slot then 1 else 0) - (t.held.count k:Int))
   rw[gs]
   unfold H8
   by_cases ek:k=a
   ·subst ek
    rw[if_neg (fun h=>((hmem k).1 h).2 rfl),if_pos hach,if_pos rfl];omega
   ·by_cases em':k∈Ba w.m
    ·rw[if_pos ((hmem k).2 ⟨em',ek⟩),if_pos em',if_neg ek];omega
    ·rw[if_neg (fun h=>em' ((hmem k).1 h).1),if_neg em',if_neg ek];omega
 ·have hL:G8 t.f:=hLd 5 (by omega) (by omega) _ rfl p
  have e:=b4n (M:=w.m) p
  have em:=b4q (M:=w.m) (t:=(i:Int)) p
  unfold Du at em
  rw[if_pos (I.lockI i t hi hb hL)] at em
  rw[e,em]
  refine X7 I hi hb hL rfl (fun _ h=>?_) (fun _=>?_) rfl (hsame (toF t.f 6) hfd rfl rfl) (fun _=>hna (toF t.f 6) rfl)
  ·have h2:G8 (toF t.f 6):=h
   unfold G8 toF at h2
   dsimp only at h2
   omega
  ·exact hmk _ _ em e hfd rfl ⟨by simp[toF],(fun h=>by simp[toF] at h),(fun h=>by simp[toF] at h),(fun h=>by simp[toF] at h),(fun h=>by simp[toF] at h),(fun _=>a6 (by omega))⟩
 ·have hnL:¬ G8 t.f:=by unfold G8;omega
  have e:=b4o (M:=w.m) p
  have em:=b4r (M:=w.m) (t:=(i:Int)) p
  unfold Gv at em
  rcases a6 (by omega) with ⟨_,hs⟩|⟨_,hs⟩
  ·rw[if_neg (by rw[hs,Cj];omega)] at em
   rw[e,em]
   refine Ff I hi hb hR rfl rfl (fun h=>by cases h) hh (fun k _=>?_) (fun h=>by cases h) ⟨fun h=>(hnL h).elim,fun h=>by cases h.1⟩
   rw[Dq (t:=t) (.inr (Iq hs)),Dq (t:=Cb (Af { t.f with slot:=-1 } t.f.e) t) (.inl rfl)]
   show (0:Int)=(t.held.count k:Int) - (t.held.count k:Int)
   omega
  ·rw[if_pos hs] at em
   rw[e,em]
   have h0:=(Cj.1 hs).1
   have hih:Ei t.f=true:=by rw[Fe (by omega)];exact decide_eq_true h0
   have hin:=I.Ei htm hb hih hs
   have hmp:=(Kt w.m t.f.slot)
   have hE:=Oe I.okc (bkN w.m t.f) hs (by omega) (fun hm=>by have:=Lh hm;omega)
   refine Ff I hi hb hE (by unfold Ec;split <;> rfl) rfl (fun h=>by cases h) hh (fun k _=>?_) (fun h=>by cases h) ⟨fun h=>(hnL h).elim,fun h=>by cases h.1⟩
   rw[Ik hb hih,Dq (t:=Cb (Af { t.f with slot:=-1 } t.f.e) t) (.inl rfl)]
   show (if k=t.f.slot then (-1:Int) else 0)=(t.held.count k:Int) - ((t.held.count k:Int)+if k=t.f.slot then 1 else 0)
   split <;> omega
end
end
section
section
variable {w:Wd} {i:Nat} {t:Tk}
set_option maxHeartbeats 1600000 in
theorem a4j(I:Bi w)(hi:w.ts[i]?=some t)(hb:t.busy=true)(hk:t.f.c.kind=4\/t.f.c.kind=5):Bi ⟨swM i w.m t.f,w.ts.set i (Cb (swF w.m t.f) t)⟩:=by
 have htm:=List.mem_of_getElem? hi
 have F:=I.fi t htm hb
 have hbk:=I.bk hi hb
 have hk2:t.f.c.kind≠2:=by omega
 obtain⟨a1,a2,a3,a4,a5,a6⟩:=F.sweep hk
 have hfd:=F.fit.done
 have hpl:=F.fit.pl
 have hh:=I.held t htm
 have hR:Eff w.m w.m (bkN w.m t.f) (chL w.m (bkN w.m t.f)) (fun _=>0):=Eff.refl I.okc _
 have hmk:∀ (m':Mm) (g:Fr),swM i w.m t.f=m'->swF w.m t.f=g->g.done=false->g.c=t.f.c->Zf m' g->FI m' (Cb g t):=fun m' g em e hd hc hst=>by
  have hkk:g.c.kind=4\/g.c.kind=5:=by rw[hc];exact hk
  have hf:=b6p (i:Int) I.okc.ok F.fit (by rw[e];exact hd)
  rw[e,em] at hf
  refine⟨hf,by show 1<=g.c.kind/\g.c.kind<=6;omega,fun h=>?_,fun h=>?_,fun h=>?_,fun _=>hst,fun h=>?_⟩
  ·have h':g.c.kind=1:=h;omega
  ·have h':g.c.kind=2:=h;omega
  ·have h':g.c.kind=3:=h;omega
  ·have h':g.c.kind=6:=h;omega
 have hbusy:∀ g:Fr,g.done=false->(Cb g t).busy=true:=fun g h=>by unfold Cb;rw[h];rfl
 have hna:∀ g:Fr,g.c=t.f.c->¬ adds g:=fun g hc h=>by have:=h.1;rw[hc] at this;exact hk2 this
 have hsame:∀ g:Fr,g.done=false->g.c=t.f.c->g.slot=t.f.slot->∀ k,cnt (Cb g t) k=cnt t k:=fun g hd h1 h2 k=>by
  unfold cnt hand Cb
  dsimp only
  rw[hd,hb,Fe (f:=g) (by rw[h1];exact hk2),Fe (f:=t.f) hk2,h2]
  rfl
 have hLs:∀ g:Fr,g.c=t.f.c->1<=g.pl->G8 g:=fun g hc hn=>.inr (.inr ⟨by rw[hc];exact hk,hn⟩)
 have go:∀ g:Fr,swF w.m t.f=g->swM i w.m t.f=w.m->g.done=false->g.c=t.f.c->g.slot=t.f.slot->Zf w.m g->1<=t.f.pl->1<=g.pl->Bi ⟨swM i w.m t.f,w.ts.set i (Cb (swF w.m t.f) t)⟩:=fun g e em hd hc hs hst h1 h2=>by
  rw[e,em]
  refine Ff I hi hb hR rfl hc (fun _=>hmk _ _ em e hd hc hst) hh (fun k _=>by rw[hsame g hd hc hs];omega) (fun _ h=>(hna g hc h).elim) ⟨fun _=>⟨hbusy _ hd,hLs g hc h2⟩,fun _=>hLs t.f rfl h1⟩
 have hp:t.f.pl=0\/t.f.pl=1\/t.f.pl=2\/t.f.pl=3\/t.f.pl=4\/t.f.pl=5\/t.f.pl=6:=by omega
 rcases hp with p|p|p|p|p|p|p
 ·have hs:=a2 (by omega)
  have e:=a4e (M:=w.m) p
  have em:=b6q (M:=w.m) (t:=(i:Int)) p
  unfold Fh at e
  unfold Dz at em
  by_cases hF:Ak w.m (bkN w.m t.f)=-1
  ·rw[if_pos hF] at e em
   rw[e,em]
   refine X6 I hi hb hF rfl (hbusy _ hfd) (hLs (toF t.f 1) rfl (by simp[toF])) ?_ rfl (hsame (toF t.f 1) hfd rfl rfl) (fun h=>(hna (toF t.f 1) rfl h).elim)
   exact hmk _ _ em e hfd rfl ⟨by simp[toF],(fun _=>hs),(fun _=>by simp[toF]),(fun h=>by simp[toF] at h),(fun h=>by simp[toF] at h),(fun h=>by simp[toF] at h)⟩
  ·rw[if_neg hF] at e em
   rw[e,em,Za hb hfd,a1r hi]
   exact I
 ·have hs:=a2 (by omega)
  exact go _ (a4f p) (Ep (by omega)) hfd rfl rfl ⟨by simp[Dl],(fun _=>hs),(fun _=>by simp[Dl]),(fun _=>⟨[],chL w.m (bkN w.m t.f),⟨rfl,I.okc.Wy hbk.1⟩,rfl⟩),(fun h=>by simp[Dl] at h),(fun h=>by simp[Dl] at h)⟩ (by omega) (by simp[Dl])
 ·have hs:=a2 (by omega)
  obtain⟨l1,l2,R,q⟩:=a4 p
  obtain⟨hat,hcur⟩:=Ib I.okc hbk.1 R
  have e:=Xx (M:=w.m) p
  unfold Fg at e
  cases l2 with
  | nil =>
   have hno:D7 w.m t.f=false:=by
    cases h:D7 w.m t.f
    ·rfl
    ·obtain⟨a,l,e⟩:=hat.1 h;cases e
   rw[hno] at e
   exact go _ e (Ep (by omega)) hfd rfl rfl ⟨by simp[toF],(fun _=>hs),(fun _=>by simp[toF]),(fun h=>by simp[toF] at h),(fun h=>by simp[toF] at h),(fun h=>by simp[toF] at h)⟩ (by omega) (by simp[toF])
  | cons a l2 =>
   rw[if_pos (hat.2 ⟨a,l2,rfl⟩)] at e
   by_cases h5:t.f.c.kind=5
   ·rw[if_pos h5] at e
    exact go _ e (Ep (by omega)) hfd rfl rfl ⟨by simp,(fun _=>hs),(fun _=>by simp),(fun h=>by simp at h),(fun _=>⟨l1,a,l2,R,q⟩),(fun h=>by simp at h)⟩ (by omega) (by simp)
   ·rw[if_neg h5] at e
    by_cases hu:w.m.now<(A7 w.m (t.f.cur - 1)).unt
    ·rw[if_pos hu] at e
     exact go _ e (Ep (by omega)) hfd rfl rfl ⟨by simp[toF],(fun _=>hs),(fun h=>(h5 h).elim),(fun h=>by simp[toF] at h),(fun _=>⟨l1,a,l2,R,q⟩),(fun h=>by simp[toF] at h)⟩ (by omega) (by simp[toF])
    ·rw[if_neg hu] at e
     exact go _ e (Ep (by omega)) hfd rfl rfl ⟨by simp[toF],(fun _=>hs),(fun h=>(h5 h).elim),(fun h=>by simp[toF] at h),(fun _=>⟨l1,a,l2,R,q⟩),(fun h=>by simp[toF] at h)⟩ (by omega) (by simp[toF])
 ·have hs:=a2 (by omega)
  obtain⟨l1,a,l2,R,q⟩:=a5 (.inl p)
  obtain⟨hat,hcur⟩:=Ib I.okc hbk.1 R
  have hca:=hcur a l2 rfl
  have e:=a4g (M:=w.m) p
  unfold Hr at e
  rw[if_pos (hat.2 ⟨a,l2,rfl⟩),hca] at e
  refine go _ e (Ep (by omega)) hfd rfl rfl ⟨by simp[Dl],(fun _=>hs),(fun _=>by simp[Dl]),(fun _=>⟨l1 ++ [a],l2,⟨?_,I.okc.Tm hbk.1 R.1⟩,?_⟩),(fun h=>by simp[Dl] at h),(fun h=>by simp[Dl] at h)⟩ (by omega) (by simp[Dl])
  ·have:=R.1
   show chL w.m (bkN w.m t.f)=_
   rw[this];simp
  ·rw[Oa]
   show t.f.cur=a+1
   omega
 ·have hs:=a2 (by omega)
  have hk4:t.f.c.kind=4:=by
   rcases hk with h|h
   ·exact h
   ·exact absurd p (a3 h).1
  obtain⟨l1,a,l2,R,q⟩:=a5 (.inr p)
  obtain⟨hat,hcur⟩:=Ib I.okc hbk.1 R
  have hca:=hcur a l2 rfl
  have e:=a8x (M:=w.m) p
  have em:=b9o (M:=w.m) (t:=(i:Int)) p
  unfold Ls at e
  unfold Gl at em
  rw[if_pos (hat.2 ⟨a,l2,rfl⟩)] at e em
  rw[q,hca] at em
  rw[hca] at e
  have hE:=a4r I.okc hbk.1 R.1
  have hmem:=a4s I.okc hbk.1 R.1 hE
  have hach:a∈Ba w.m:=E5.2 ⟨_,hbk.1,by rw[R.1];simp⟩
  have hasl:=I.okc.Ha a hach
  have hnx:=I.okc.Tm hbk.1 R.1
  rw[e,em]
  obtain⟨g,hg⟩:∃ g:Fr,g = { t.f with slot:=a,cur:=(A7 w.m a).next,pl:=5 }:=⟨_,rfl⟩
  rw[<- hg] at e ⊢
  have gc:g.c=t.f.c:=by rw[hg]
  have gs:g.slot=a:=by rw[hg]
  have gd:g.done=false:=by rw[hg];exact hfd
  have gp:g.pl=5:=by rw[hg]
  have gb:bkN (Ey w.m (bkN w.m t.f) (Fp l1) a) g=bkN w.m t.f:=by rw[Zj hE.nh,a4p gc]
  refine U9 I hi hb (hLs t.f rfl (by omega)) hE (by unfold Ey;split <;> rfl) gc (hbusy _ gd) (hLs g gc (by omega)) ?_ rfl (fun x hx=>.inl ((hmem x).1 hx).1) (fun k _=>?_) (hna g gc)
  ·refine hmk _ _ em e gd gc ⟨by omega,(fun h=>by omega),(fun h=>by rw[gc] at h;omega),(fun h=>by omega),(fun h=>by omega),(fun _=>⟨?_,l1,l2,⟨?_,?_⟩,?_⟩)⟩
   ·rw[gs,Cj,hE.ns];exact hasl
   ·rw[gb];exact hE.at_
   ·rw[gb,hg];exact hnx
   ·rw[hg];exact q
  ·rw[Dq (t:=t) (.inr (Iq hs)),Ik (t:=Cb g t) (hbusy _ gd) (by rw[Fe (f:=(Cb g t).f) (by show g.c.kind≠2;rw[gc];omega)];show decide (0<=g.slot)=true;rw[gs];exact decide_eq_true hasl.1)]
   show (0:Int)=H8 _ k - H8 w.m k+((t.held.count k:Int)+(if k=g.slot then 1 else 0) - (t.held.count k:Int))
   rw[gs]
   unfold H8
   by_cases ek:k=a
   ·subst ek
    rw[if_neg (fun h=>((hmem k).1 h).2 rfl),if_pos hach,if_pos rfl];omega
   ·by_cases em':k∈Ba w.m
    ·rw[if_pos ((hmem k).2 ⟨em',ek⟩),if_pos em',if_neg ek];omega
    ·rw[if_neg (fun h=>em' ((hmem k).1 h).1),if_neg em',if_neg ek];omega
 ·obtain⟨hs,l1,l2,R,q⟩:=a6 p
  have hk4:t.f.c.kind=4:=by
   rcases hk with h|h
   ·exact h
   ·exact absurd p (a3 h).2
  have h0:=(Cj.1 hs).1
  have hih:Ei t.f=true:=by rw[Fe (by omega)];exact decide_eq_true h0
  have hin:=I.Ei htm hb hih hs
  have hmp:=(Kt w.m t.f.slot)
  have hE:=Oe I.okc (bkN w.m t.f) hs (by omega) (fun hm=>by have:=Lh hm;omega)
  have e:=a8y (M:=w.m) p
  have em:=b9p (M:=w.m) (t:=(i:Int)) p
  unfold J5 at e
  unfold Gv at em
  rw[if_pos hs] at e em
  rw[e,em]
  obtain⟨g,hg⟩:∃ g:Fr,g = { t.f with slot:=-1,n:=if t.f.n<1000000 then t.f.n+1 else t.f.n,pl:=2 }:=⟨_,rfl⟩
  rw[<- hg] at e ⊢
  have gc:g.c=t.f.c:=by rw[hg]
  have gs:g.slot=-1:=by rw[hg]
  have gd:g.done=false:=by rw[hg];exact hfd
  have gp:g.pl=2:=by rw[hg]
  have gb:bkN (Ec w.m t.f.slot) g=bkN w.m t.f:=by rw[Zj hE.nh,a4p gc]
  refine Ff I hi hb hE (by unfold Ec;split <;> rfl) gc (fun _=>?_) hh (fun k _=>?_) (fun _ h=>(hna g gc h).elim) ⟨fun _=>⟨hbusy _ gd,hLs g gc (by omega)⟩,fun _=>hLs t.f rfl (by omega)⟩
  ·refine hmk _ _ em e gd gc ⟨by omega,(fun _=>gs),(fun h=>by rw[gc] at h;omega),(fun _=>⟨l1,l2,⟨?_,?_⟩,?_⟩),(fun h=>by omega),(fun h=>by omega)⟩
   ·rw[gb,hE.at_];exact R.1
   ·rw[gb,hg];exact R.2
   ·rw[hg];exact q
  ·rw[Ik hb hih,Dq (t:=Cb g t) (.inr (Iq gs))]
   show (if k=t.f.slot then (-1:Int) else 0)=(t.held.count k:Int) - ((t.held.count k:Int)+if k=t.f.slot then 1 else 0)
   split <;> omega
 ·have hs:=a2 (by omega)
  have hL:G8 t.f:=hLs t.f rfl (by omega)
  have e:=b6o (M:=w.m) p
  have em:=b6r (M:=w.m) (t:=(i:Int)) p
  unfold Du at em
  rw[if_pos (I.lockI i t hi hb hL)] at em
  rw[e,em]
  refine X7 I hi hb hL rfl (fun h=>by cases h) (fun h=>by cases h) rfl (fun k=>?_) (fun h=>by cases h)
  rw[Dq (t:=Cb (Af t.f 0) t) (.inl rfl),Dq (t:=t) (.inr (Iq hs))]
  rfl
theorem a9g(I:Bi w)(h:w.m.now<1000000):Bi ⟨{ w.m with now:=w.m.now+1 },w.ts⟩:=by
 have hok:Ok { w.m with now:=w.m.now+1 }:=by
  have o:=I.okc.ok
  exact⟨o.ns,o.nh,o.nl,⟨by have:=o.now;show 0<=w.m.now+1;omega,by show w.m.now+1<=1000000;omega⟩,o.slot,o.chain,o.free,o.nodup,o.all⟩
 refine⟨⟨hok,I.okc.ends,I.okc.held,I.okc.keys⟩,I.nt,fun t ht hb=>?_,I.held,I.refs,I.lockI,I.lockO,I.own⟩
 have F:=I.fi t ht hb
 exact⟨⟨F.fit.call,F.fit.pl,F.fit.n,F.fit.done,F.fit.cur,F.fit.prev,F.fit.slot,F.fit.keys⟩,F.kind,F.look,F.add,F.drop,F.sweep,F.leave⟩
end
end
section
structure Pk where
 Bc:Int
 step:Bool
 tick:Bool
 c:Cl
def stepT(m:Mm)(i:Nat)(t:Tk):Mm × Tk :=
 if t.f.c.kind=1 then (lkM m t.f,I9 m t) else if t.f.c.kind=2 then (adM i m t.f,Cb (adF m t.f) t) else if t.f.c.kind=3 then (drM i m t.f,Cb (drF m t.f) t)
 else if t.f.c.kind=6 then (if t.f.c.slot∈t.held then Ec m t.f.c.slot else m,Vf t) else (swM i m t.f,Cb (swF m t.f) t)
def idle:Tk:=⟨false,⟨⟨0,0,0,0,0,0⟩,0,0,0,0,0,[],false,0⟩,[]⟩
def H7(w:Wd)(x:Pk):Tk:=w.ts.getD x.Bc.toNat idle
def Vm(w:Wd)(x:Pk):Int :=
 if (H7 w x).busy then 8 else if Df w.m.slots.length w.m.heads.length x.c≠0 then Df w.m.slots.length w.m.heads.length x.c
 else if x.c.kind=1/\(H7 w x).held.length=100 then 7 else if x.c.kind=6/\x.c.slot ∉ (H7 w x).held then 6 else 0
def doE(w:Wd)(x:Pk):Int :=
 if x.tick then (if w.m.now=1000000 then 7 else 0) else if ¬ (0<=x.Bc/\x.Bc<w.ts.length) then 5
 else if x.step then (if (H7 w x).busy then 0 else 8) else Vm w x
def doW(w:Wd)(x:Pk):Wd :=
 if x.tick then ⟨{ w.m with now:=w.m.now+1 },w.ts⟩
 else if x.step then ⟨(stepT w.m x.Bc.toNat (H7 w x)).1,w.ts.set x.Bc.toNat (stepT w.m x.Bc.toNat (H7 w x)).2⟩
 else ⟨w.m,w.ts.set x.Bc.toNat ⟨true,Aw x.c,(H7 w x).held⟩⟩
section
variable {w:Wd} {i:Nat} {t:Tk}
theorem a0b(I:Bi w)(hi:w.ts[i]?=some t)(hb:t.busy=true):Bi ⟨(stepT w.m i t).1,w.ts.set i (stepT w.m i t).2⟩:=by
 have F:=I.fi t (List.mem_of_getElem? hi) hb
 have hk:=F.kind
 unfold stepT
 by_cases h1:t.f.c.kind=1
 ·rw[if_pos h1];exact a7r I hi hb h1
 rw[if_neg h1]
 by_cases h2:t.f.c.kind=2
 ·rw[if_pos h2];exact a9t I hi hb h2
 rw[if_neg h2]
 by_cases h3:t.f.c.kind=3
 ·rw[if_pos h3];exact drop_step I hi hb h3
 rw[if_neg h3]
 by_cases h6:t.f.c.kind=6
 ·rw[if_pos h6,if_pos (F.leave h6).2];exact a3b I hi hb h6
 rw[if_neg h6]
 exact a4j I hi hb (by omega)
theorem b5g{M:Mm}{c:Cl}(h:Df M.slots.length M.heads.length c=0):Fit M (Aw c):=by
 refine⟨h,by simp[Aw],(show inB 0 0 1000000=true by decide),rfl,?_,?_,?_,by simp[Aw]⟩
 ·simp only[Aw];omega
 ·simp only[Aw];omega
 ·simp only[Aw];omega
theorem Yd{nS nH:Nat}{c:Cl}(h:Df nS nH c=0):1<=c.kind/\c.kind<=6:=by
 unfold Df at h
 by_cases h1:c.kind=1\/c.kind=3
 ·omega
 rw[if_neg h1] at h
 by_cases h2:c.kind=2
 ·omega
 rw[if_neg h2] at h
 by_cases h3:c.kind=4\/c.kind=5
 ·omega
 rw[if_neg h3] at h
 by_cases h4:c.kind=6
 ·omega
 rw[if_neg h4] at h
 omega
theorem a2k{c:Cl}(I:Bi w)(hi:w.ts[i]?=some t)(hb:t.busy=false)(hc:Df w.m.slots.length w.m.heads.length c=0)(h1:c.kind=1->t.held.length≠100)(h6:c.kind=6->c.slot∈t.held):Bi ⟨w.m,w.ts.set i ⟨true,Aw c,t.held⟩⟩:=by
 have htm:=List.mem_of_getElem? hi
 have hk:=Yd hc
 have hh:=I.held t htm
 have hil:i<w.ts.length:=(List.getElem?_eq_some_iff.1 hi).1
 have hnL:¬ G8 (Aw c):=by unfold G8 Aw;dsimp only;omega
 have hna:¬ adds (Aw c):=by unfold adds Aw;dsimp only;omega
 refine⟨I.okc,by simpa using I.nt,fun u hu hbu=>?_,fun u hu=>?_,fun k hk'=>?_,fun j u hj hbu hL=>?_,fun b hbb hne=>?_,fun j1 j2 u1 u2 g1 g2 hne b1 b2 a1 a2=>?_⟩
 ·obtain⟨j,hj⟩:=List.mem_iff_getElem?.1 hu
  rcases Ip hj with ⟨rfl,rfl,_⟩|⟨hji,hj'⟩
  ·refine⟨b5g hc,hk,fun h=>⟨⟨by simp[Aw],(fun _=>rfl),(fun h=>by simp[Aw] at h)⟩,?_⟩,fun h=>⟨by simp[Aw],(fun _=>rfl),(fun h=>by simp[Aw] at h),(fun h=>by simp[Aw] at h),(fun h=>by simp[Aw] at h),(fun h=>by simp[Aw] at h),(fun h=>by simp[Aw] at h)⟩,
    fun h=>⟨by simp[Aw],(fun _=>rfl),(fun h=>by simp[Aw] at h),(fun h=>by simp[Aw] at h),(fun h=>by simp[Aw] at h),(fun h=>by simp[Aw] at h)⟩,fun h=>⟨by simp[Aw],(fun _=>rfl),(fun _=>by simp[Aw]),(fun h=>by simp[Aw] at h),(fun h=>by simp[Aw] at h),(fun h=>by simp[Aw] at h)⟩,fun h=>⟨rfl,h6 h⟩⟩
   have:=h1 h
   show t.held.length<100
   omega
  ·exact I.fi u (List.mem_of_getElem? hj') hbu
 ·obtain⟨j,hj⟩:=List.mem_iff_getElem?.1 hu
  rcases Ip hj with ⟨rfl,rfl,_⟩|⟨hji,hj'⟩
  ·exact hh
  ·exact I.held u (List.mem_of_getElem? hj')
 ·have h2:=I.refs k hk'
  have h3:=Xv w.ts i t ⟨true,Aw c,t.held⟩ k hi
  have h4:cnt ⟨true,Aw c,t.held⟩ k=(t.held.count k:Int):=Dq (.inr rfl) k
  have h5:cnt t k=(t.held.count k:Int):=Dq (.inl hb) k
  show Ap w.m k=H8 w.m k+Qc (w.ts.set i ⟨true,Aw c,t.held⟩) k
  omega
 ·rcases Ip hj with ⟨rfl,rfl,_⟩|⟨hji,hj'⟩
  ·exact(hnL hL).elim
  ·exact I.lockI j u hj' hbu hL
 ·obtain⟨j,u,x1,x2,x3,x4,x5⟩:=I.lockO b hbb hne
  have hji:j≠i:=fun h=>by
   subst h
   rw[hi] at x2
   injection x2 with x2
   subst x2
   rw[hb] at x3;cases x3
  exact⟨j,u,x1,by rw[List.getElem?_set_ne (fun h=>hji h.symm)];exact x2,x3,x4,x5⟩
 ·rcases Ip g1 with ⟨rfl,rfl,_⟩|⟨e1,k1⟩
  ·exact(hna a1).elim
  ·rcases Ip g2 with ⟨rfl,rfl,_⟩|⟨e2,k2⟩
   ·exact(hna a2).elim
   ·exact I.own j1 j2 u1 u2 k1 k2 hne b1 b2 a1 a2
theorem Nw{x:Pk}(I:Bi w)(h:doE w x=0):Bi (doW w x):=by
 unfold doE at h
 unfold doW
 by_cases ht:x.tick=true
 ·rw[if_pos ht] at h ⊢
  by_cases hn:w.m.now=1000000
  ·rw[if_pos hn] at h;omega
  ·exact a9g I (by have:=I.okc.ok.now;omega)
 rw[if_neg ht] at h ⊢
 by_cases hr:0<=x.Bc/\x.Bc<w.ts.length
 ·rw[if_neg (by simpa using hr)] at h
  have hi:w.ts[x.Bc.toNat]?=some (H7 w x):=by
   unfold H7
   have:x.Bc.toNat<w.ts.length:=by omega
   rw[List.getD_eq_getElem?_getD,List.getElem?_eq_getElem this]
   rfl
  by_cases hs:x.step=true
  ·rw[if_pos hs] at h ⊢
   by_cases hb:(H7 w x).busy=true
   ·exact a0b I hi hb
   ·rw[if_neg hb] at h;omega
  ·rw[if_neg hs] at h ⊢
   unfold Vm at h
   by_cases hb:(H7 w x).busy=true
   ·rw[if_pos hb] at h;omega
   rw[if_neg hb] at h
   by_cases hc:Df w.m.slots.length w.m.heads.length x.c=0
   ·rw[if_neg (by simpa using hc)] at h
    by_cases h1:x.c.kind=1/\(H7 w x).held.length=100
    ·rw[if_pos h1] at h;omega
    rw[if_neg h1] at h
    by_cases h6:x.c.kind=6/\x.c.slot ∉ (H7 w x).held
    ·rw[if_pos h6] at h;omega
    refine a2k I hi (by simpa using hb) hc (fun h=>fun e=>h1 ⟨h,e⟩) (fun h=>?_)
    by_cases hm:x.c.slot∈(H7 w x).held
    ·exact hm
    ·exact(h6 ⟨h,hm⟩).elim
   ·rw[if_pos hc] at h;exact(hc h).elim
 ·rw[if_pos (by simpa using hr)] at h;omega
end
end
section
def Js(many buckets tasks:Nat):Wd:=⟨Gs many buckets,List.replicate tasks idle⟩
theorem b1o{many buckets b:Nat}(hb:b<buckets):Ar (Gs many buckets) b=-1 - (b:Int):=by
 unfold Ar Gs
 simp[List.getD_eq_getElem?_getD,hb]
theorem Ug{many buckets b:Nat}(hb:b<buckets):chL (Gs many buckets) b=[]/\chE (Gs many buckets) b=-1 - (b:Int):=by
 unfold chL chE
 rw[b1o hb]
 cases (Gs many buckets).slots.length with
 | zero=>exact⟨rfl,rfl⟩
 | succ k =>
  unfold H5 Ie
  rw[if_neg (by omega),if_neg (by omega)]
  exact⟨rfl,rfl⟩
theorem Zm(many buckets:Nat):Ba (Gs many buckets)=[]:=by
 unfold Ba Bg
 have hl:(Gs many buckets).heads.length=buckets:=by simp[Gs]
 rw[hl]
 apply List.flatMap_eq_nil_iff.2
 intro b hb
 exact(Ug (List.mem_range.1 hb)).1
theorem b5w{many buckets:Nat}(h1:many<=12)(h2:1<=buckets/\buckets<=4):Ok (Gs many buckets):=by
 have hl:(Gs many buckets).heads.length=buckets:=by simp[Gs]
 have hs:(Gs many buckets).slots.length=many:=by simp[Gs]
 refine⟨by rw[hs];exact h1,by rw[hl];exact h2,by simp[Gs],by simp[Gs],fun s hm=>?_,fun p hm=>?_,fun a hm=>?_,?_,fun i hi _=>?_⟩
 ·have:s=sl0:=by
   have h:s∈List.replicate many sl0:=hm
   exact List.eq_of_mem_replicate h
  rw[this,hl,hs]
  unfold Em
  have e1:(inB sl0.refs 0 1000 && inB sl0.unt 0 2000000 && Ee sl0.a sl0.b)=true:=by decide
  rw[if_pos e1,if_pos]
  rw[Ai]
  show -(buckets:Int)<=0/\(0:Int)<=many
  omega
 ·obtain⟨i,hi,e⟩:=List.getElem_of_mem hm
  rw[List.getElem_zip] at e
  have hi':i<buckets:=by simp[Gs] at hi;omega
  subst e
  rw[hl,hs]
  unfold F8
  have e1:(Gs many buckets).heads[i]'(by rw[hl];exact hi')=-1 - (i:Int):=by simp[Gs]
  have e2:(Gs many buckets).locks[i]'(by simp[Gs];exact hi')=-1:=by simp[Gs]
  dsimp only
  rw[e1,e2]
  rw[if_pos ⟨by omega,by rw[Ai];omega⟩,if_pos (by first|decide|exact Ex.ne _ _ (by decide))]
 ·have h:a∈(List.range many).map fun (a:Nat)=>(many:Int) - 1 - (a:Int):=hm
  obtain⟨j,hj,rfl⟩:=List.mem_map.1 h
  have:=List.mem_range.1 hj
  rw[Et]
  refine⟨by omega,by rw[hs];omega,?_⟩
  show ((List.replicate many sl0).getD _ sl0).refs=0
  rw[List.getD_eq_getElem?_getD,List.getElem?_replicate]
  split <;> rfl
 ·show ((List.range many).map fun (a:Nat)=>(many:Int) - 1 - (a:Int)).Nodup
  refine List.Pairwise.map _ (fun a b hab=>?_) List.nodup_range
  omega
 ·rw[hs] at hi
  show (i:Int)∈(List.range many).map fun (a:Nat)=>(many:Int) - 1 - (a:Int)
  exact List.mem_map.2 ⟨many - 1 - i,List.mem_range.2 (by omega),by omega⟩
theorem b5z{many buckets:Nat}(h1:many<=12)(h2:1<=buckets/\buckets<=4):OkC (Gs many buckets):=by
 have hl:(Gs many buckets).heads.length=buckets:=by simp[Gs]
 refine⟨b5w h1 h2,fun b hb=>?_,fun b hb a ha=>?_,?_⟩
 ·rw[hl] at hb;exact(Ug hb).2
 ·rw[hl] at hb;rw[(Ug hb).1] at ha;cases ha
 ·rw[Zm];exact List.nodup_nil
theorem a8w(n:Nat)(k:Int):Qc (List.replicate n idle) k=0:=by
 induction n with
 | zero=>rfl
 | succ n ih =>
  have h0:cnt idle k=0:=by rw[Dq (.inl rfl)];rfl
  show cnt idle k+Qc (List.replicate n idle) k=0
  omega
theorem a5b{many buckets tasks:Nat}(h1:many<=12)(h2:1<=buckets/\buckets<=4)(h3:1<=tasks/\tasks<=5):Bi (Js many buckets tasks):=by
 have hid:∀ {j:Nat} {t:Tk},(Js many buckets tasks).ts[j]?=some t->t=idle:=fun {j t} h=>by
  have h':(List.replicate tasks idle)[j]?=some t:=h
  rw[List.getElem?_replicate] at h'
  split at h'
  ·injection h' with h';exact h'.symm
  ·cases h'
 have him:∀ t∈(Js many buckets tasks).ts,t=idle:=fun t ht=>List.eq_of_mem_replicate ht
 have hs:(Gs many buckets).slots.length=many:=by simp[Gs]
 refine⟨b5z h1 h2,by simpa [Js] using h3,fun t ht hb=>?_,fun t ht=>?_,fun k hk=>?_,fun i t hi hb=>?_,fun b hb hne=>?_,fun i j ti tj hi hj _ hb=>?_⟩
 ·rw[him t ht] at hb;cases hb
 ·rw[him t ht];exact⟨by simp[idle],fun a ha=>by cases ha⟩
 ·have e1:Qc (Js many buckets tasks).ts k=0:=a8w tasks k
  have e2:H8 (Js many buckets tasks).m k=0:=by unfold H8;rw[if_neg];show k ∉ Ba (Gs many buckets);rw[Zm];simp
  have e3:Ap (Js many buckets tasks).m k=0:=by
   show ((List.replicate many sl0).getD _ sl0).refs=0
   rw[List.getD_eq_getElem?_getD,List.getElem?_replicate]
   split <;> rfl
  omega
 ·rw[hid hi] at hb;cases hb
 ·exfalso
  apply hne
  have hb':b<buckets:=by simpa [Js,Gs] using hb
  show (List.replicate buckets (-1:Int)).getD b 0=-1
  rw[List.getD_eq_getElem?_getD,List.getElem?_replicate,if_pos hb']
  rfl
 ·rw[hid hi] at hb;cases hb
def b6h:Wd->List Pk->Wd
 | w,[]=>w
 | w,x :: l=>b6h (if doE w x=0 then doW w x else w) l
theorem a5f:∀ (l:List Pk) {w:Wd},Bi w->Bi (b6h w l)
 | [],_,I=>I
 | x :: l,w,I=>by
  unfold b6h
  refine a5f l ?_
  split
  ·rename_i h;exact Nw I h
  ·exact I
end
end Go.Proofs.YthhgoenomehobaaGreat.mm
