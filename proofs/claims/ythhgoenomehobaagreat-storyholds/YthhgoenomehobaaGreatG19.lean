/- Parts. -/
import Derived.Test.YthhgoenomehobaaGreatG04
namespace Go.Proofs.YthhgoenomehobaaGreat.mm
set_option maxRecDepth 100000
set_option linter.unusedVariables false
section
structure a1u(m:Mm)(B:Nat->Prop)(P:Mm->Prop):Prop where
 same:P m
 lock:∀ b (v:Int),(-1<=v/\v<=4)->P (Fq m b v)
 put:∀ s,isSl m s=true->1+mapd m s<=Be m s->P (putN m s)
 hold:∀ s,isSl m s=true->0<Be m s->Be m s<1000->P (Z7 m s)
 take:∀ ka kb u,keyB ka kb=true->inB u 0 2000000=true->0<m.free.length->P (Ik m ka kb u)
 link:∀ s b,B b->b<m.heads.length->isSl m s=true->s ∉ allC m->Be m s≠0->hasK m (allC m) (keyAt m s)=false->ownB m s=b->P (J7 m s b)
 cut:∀ b l1 a l2,B b->b<m.heads.length->chL m b=l1++a :: l2->P (cutM m b (Ea l1) a)
section
variable {w:Wd} {i:Nat} {t:Tk}
theorem a2u{P:Mm->Prop}(I:WInv w)(C:a1u w.m (fun b=>b=bkN w.m t.f/\hasL t.f) P)(hi:w.ts[i]?=some t)(hb:t.busy=true)(hk:t.f.c.kind=1):P (lkM w.m t.f)  :=by
 obtain⟨h0,hlock,hput,hhold,htake,hlink,hcut⟩:=C
 have htm:=List.mem_of_getElem? hi
 have F:=I.fi t htm hb
 have hput:isSl w.m t.f.slot=true->P (putN w.m t.f.slot):=fun hs =>
  hput _ hs (I.Df htm hb (by rw[Cc (by omega)];exact decide_eq_true (Aq.1 hs).1) hs)
 unfold lkM I8 Cj holdN
 split
 ·split
  ·rename_i ha
   split
   ·rename_i hc
    have:=Le.1 hc
    exact hhold _ (Gl ha) this.1 this.2
   ·exact h0
  ·exact h0
 ·split
  ·split
   ·exact hput (by assumption)
   ·exact h0
  ·split
   ·split
    ·exact hput (by assumption)
    ·exact h0
   ·exact h0
theorem a3z{P:Mm->Prop}(I:WInv w)(C:a1u w.m (fun b=>b=bkN w.m t.f/\hasL t.f) P)(hi:w.ts[i]?=some t)(hb:t.busy=true)(hk:t.f.c.kind=2):P (adM i w.m t.f)  :=by
 obtain⟨h0,hlock,hput,hhold,htake,hlink,hcut⟩:=C
 have htm:=List.mem_of_getElem? hi
 have F:=I.fi t htm hb
 have hbk:=I.bk hi hb
 obtain⟨k1,k2,k3⟩:=P6 hk F.fit.call
 have S:=F.add hk
 have htk:=I.task hi
 unfold adM Gu Cf Gt Ns D6
 split
 ·split
  ·exact h0
  ·exact htake _ _ _ k1 (Zp I.okc.ok k2) (by omega)
 split
 ·split
  ·exact hlock _ _ htk
  ·exact h0
 split
 ·rename_i p
  have ha:adds t.f:=⟨hk,by omega,by omega⟩
  obtain⟨x1,x2,x3⟩:=S.2.2.1 ha.2.1 ha.2.2
  rw[if_pos x1]
  have hnk:=U3 I.okc (by omega) k1 (S.2.2.2.2.2.1 p)
  have hob:ownB w.m t.f.slot=bkN w.m t.f:=by
   have x3':=x3
   unfold keyAt Key at x3'
   simp only[Prod.mk.injEq] at x3'
   unfold ownB bkN
   rw[x3'.1,x3'.2,Yr I.okc.ok (by omega) k1]
  exact hlink _ _ ⟨rfl,.inl ⟨hk,by omega⟩⟩ hbk.1 x1 x2 (I.Jg htm hb ha).2.1 (by rw[x3];exact hnk) hob
 split
 ·rename_i p
  have ha:adds t.f:=⟨hk,by omega,by omega⟩
  obtain⟨x1,x2,x3⟩:=S.2.2.1 ha.2.1 ha.2.2
  rw[if_pos x1]
  exact hput _ x1 (I.Df htm hb (D7 ha (Aq.1 x1).1) x1)
 split
 ·split
  ·exact hlock _ _ (by omega)
  ·exact h0
 ·exact h0
theorem a2d{P:Mm->Prop}(I:WInv w)(C:a1u w.m (fun b=>b=bkN w.m t.f/\hasL t.f) P)(hi:w.ts[i]?=some t)(hb:t.busy=true)(hk:t.f.c.kind=3):P (drM i w.m t.f)  :=by
 obtain⟨h0,hlock,hput,hhold,htake,hlink,hcut⟩:=C
 have htm:=List.mem_of_getElem? hi
 have F:=I.fi t htm hb
 have hbk:=I.bk hi hb
 have htk:=I.task hi
 obtain⟨a1,a2,a3,a4,a5,a6⟩:=F.drop hk
 unfold drM Cf Ew D6 Ff
 split
 ·split
  ·exact hlock _ _ htk
  ·exact h0
 split
 ·rename_i p
  obtain⟨l1,a,l2,R,_,q⟩:=a5 p
  obtain⟨hat,hcur⟩:=Bh I.okc hbk.1 R
  rw[if_pos (hat.2 ⟨a,l2,rfl⟩),q,hcur a l2 rfl]
  exact hcut _ _ _ _ ⟨rfl,.inr (.inl ⟨hk,by omega,by omega⟩)⟩ hbk.1 R.1
 split
 ·split
  ·exact hlock _ _ (by omega)
  ·exact h0
 split
 ·split
  ·rename_i hs
   exact hput _ hs (I.Df htm hb (by rw[Cc (by omega)];exact decide_eq_true (Aq.1 hs).1) hs)
  ·exact h0
 ·exact h0
theorem Zo{P:Mm->Prop}(I:WInv w)(C:a1u w.m (fun b=>b=bkN w.m t.f/\hasL t.f) P)(hi:w.ts[i]?=some t)(hb:t.busy=true)(hk:t.f.c.kind=4\/t.f.c.kind=5):P (swM i w.m t.f)  :=by
 obtain⟨h0,hlock,hput,hhold,htake,hlink,hcut⟩:=C
 have htm:=List.mem_of_getElem? hi
 have F:=I.fi t htm hb
 have hbk:=I.bk hi hb
 have htk:=I.task hi
 have hk2:t.f.c.kind≠2:=by omega
 obtain⟨a1,a2,a3,a4,a5,a6⟩:=F.sweep hk
 unfold swM Cf Ew D6 Ff
 split
 ·split
  ·exact hlock _ _ htk
  ·exact h0
 split
 ·rename_i p
  obtain⟨l1,a,l2,R,q⟩:=a5 (.inr p)
  obtain⟨hat,hcur⟩:=Bh I.okc hbk.1 R
  rw[if_pos (hat.2 ⟨a,l2,rfl⟩),q,hcur a l2 rfl]
  exact hcut _ _ _ _ ⟨rfl,.inr (.inr ⟨hk,by rw[p];decide⟩)⟩ hbk.1 R.1
 split
 ·split
  ·rename_i hs
   exact hput _ hs (I.Df htm hb (by rw[Cc hk2];exact decide_eq_true (Aq.1 hs).1) hs)
  ·exact h0
 split
 ·split
  ·exact hlock _ _ ⟨Int.le_refl _,by decide⟩
  ·exact h0
 ·exact h0
theorem Ru{P:Mm->Prop}(I:WInv w)(C:a1u w.m (fun b=>b=bkN w.m t.f/\hasL t.f) P)(hi:w.ts[i]?=some t)(hb:t.busy=true):P (stepT w.m i t).1  :=by
 have C':=C
 obtain⟨h0,hlock,hput,hhold,htake,hlink,hcut⟩:=C'
 have htm:=List.mem_of_getElem? hi
 have F:=I.fi t htm hb
 have hk:=F.kind
 unfold stepT
 by_cases h1:t.f.c.kind=1
 ·rw[if_pos h1];exact a2u I C hi hb h1
 rw[if_neg h1]
 by_cases h2:t.f.c.kind=2
 ·rw[if_pos h2];exact a3z I C hi hb h2
 rw[if_neg h2]
 by_cases h3:t.f.c.kind=3
 ·rw[if_pos h3];exact a2d I C hi hb h3
 rw[if_neg h3]
 by_cases h6:t.f.c.kind=6
 ·have hm:=(F.leave h6).2
  rw[if_pos h6,if_pos hm]
  exact hput _ ((I.held t htm).2 _ hm) (I.a5g htm hm)
 rw[if_neg h6]
 exact Zo I C hi hb (by omega)
end
end
section
def nx(m:Mm)(y:Int):Int:=(A7 m y).next
structure Calm(m m':Mm):Prop where
 nh:m'.heads.length=m.heads.length
 now:m.now<=m'.now
 next:∀ y,nx m' y=nx m y
 chs:∀ c,c<m.heads.length->chL m' c=chL m c
 inn:∀ y,(A7 m' y).inn=true->(A7 m y).inn=true/\keyAt m' y=keyAt m y/\(A7 m' y).unt=(A7 m y).unt
 keep:∀ y,y∈allC m->keyAt m' y=keyAt m y
structure Lkd(m m':Mm)(s:Int)(c:Nat):Prop where
 nh:m'.heads.length=m.heads.length
 now:m.now<=m'.now
 lt:c<m.heads.length
 s0:0<=s
 off:s ∉ allC m
 at_:chL m' c=s :: chL m c
 else_:∀ d,d<m.heads.length->d≠c->chL m' d=chL m d
 other:∀ y:Int,y.toNat≠s.toNat->A7 m' y=A7 m y
 next:nx m' s=ptr c (chL m c)
 key:∀ y,keyAt m' y=keyAt m y
structure Cutd(m m':Mm)(c:Nat)(l1:List Int)(a:Int)(l2:List Int):Prop where
 nh:m'.heads.length=m.heads.length
 now:m.now<=m'.now
 lt:c<m.heads.length
 is:chL m c=l1++a :: l2
 at_:chL m' c=l1++l2
 else_:∀ d,d<m.heads.length->d≠c->chL m' d=chL m d
 key:∀ y,keyAt m' y=keyAt m y
 unt:∀ y,(A7 m' y).unt=(A7 m y).unt
 inn:∀ y,(A7 m' y).inn=(A7 m y).inn
 next:∀ y:Int,(0<Ea l1->y.toNat≠(Ea l1 - 1).toNat)->nx m' y=nx m y
 jump:0<Ea l1->nx m' (Ea l1 - 1)=nx m a
def Mv(m m':Mm):Prop:=Calm m m'\/(∃ s c,Lkd m m' s c)\/∃ c l1 a l2,Cutd m m' c l1 a l2
theorem Xf{m m':Mm}{b:Nat}{s r:Int}{F:List Int}{d:Int->Int}(hs:isSl m s=true)(e:m' = { m with slots:=Dx m s r,free:=F })(E:Eff m m' b (chL m b) d):Calm m m':=by
 have hs5:∀ x:Int,A7 m' x=if x.toNat=s.toNat then { A7 m s with refs:=r } else A7 m x:=fun x=>by
  rw[e];exact Ig hs rfl x
 have hsx:∀ x:Int,x.toNat=s.toNat->A7 m x=A7 m s:=fun x hx=>by unfold A7;rw[hx]
 refine⟨E.nh,by rw[E.now];omega,fun y=>?_,fun c hc=>?_,fun y hy=>?_,fun y hy=>?_⟩
 ·unfold nx;rw[hs5];split
  ·rename_i e;rw[hsx y e]
  ·rfl
 ·by_cases e:c=b
  ·rw[e];exact E.at_
  ·exact E.else_ c hc e
 ·rw[hs5] at hy ⊢
  unfold keyAt
  rw[hs5]
  split
  ·rename_i e;rw[if_pos e] at hy;rw[hsx y e];exact⟨hy,rfl,rfl⟩
  ·rename_i e;rw[if_neg e] at hy;exact⟨hy,rfl,rfl⟩
 ·unfold keyAt;rw[hs5];split
  ·rename_i e;rw[hsx y e]
  ·rfl
theorem a0y{w:Wd}{B:Nat->Prop}(I:WInv w):a1u w.m B (Mv w.m):=by
 have h0:0<w.m.heads.length:=by have:=I.okc.ok.nh;omega
 refine⟨.inl ?_,fun b v hv=>.inl ?_,fun s hs hr=>?_,fun s hs h1 h2=>.inl ?_,fun ka kb u hk hu hF=>.inl ?_,fun s b _ hb hs hoff hr hk ho=>.inr (.inl ⟨s,b,?_⟩),fun b l1 a l2 _ hb e=>.inr (.inr ⟨b,l1,a,l2,?_⟩)⟩
 ·exact⟨rfl,Int.le_refl _,fun _=>rfl,fun _ _=>rfl,fun _ h=>⟨h,rfl,rfl⟩,fun _ _=>rfl⟩
 ·exact⟨rfl,Int.le_refl _,fun _=>rfl,fun _ _=>rfl,fun _ h=>⟨h,rfl,rfl⟩,fun _ _=>rfl⟩
 ·have hmp:=Gm w.m s
  have hE:=Ic I.okc 0 hs (by omega) (fun hm=>by have:=G9 hm;omega)
  have he:putN w.m s = { w.m with slots:=Dx w.m s (Be w.m s - 1),free:=if Be w.m s=1 then w.m.free ++ [s] else w.m.free }:=by
   unfold putN;rw[if_neg (by omega)];rfl
  exact .inl (Xf hs he hE)
 ·exact Xf hs rfl (Qy I.okc 0 hs h1 h2)
 ·obtain⟨hE,hoff,hsl,hr0,hky,hun⟩:=Ro I.okc 0 hk hu hF
  have hs1:∀ x:Int,A7 (Ik w.m ka kb u) x=if x.toNat=(Em w.m).toNat then ⟨1,ka,kb,u,false,(A7 w.m (Em w.m)).next⟩ else A7 w.m x:=fun x=>Ig hsl rfl x
  have hsx:∀ x:Int,x.toNat=(Em w.m).toNat->A7 w.m x=A7 w.m (Em w.m):=fun x hx=>by unfold A7;rw[hx]
  refine⟨hE.nh,Int.le_refl _,fun y=>?_,fun c hc=>?_,fun y hy=>?_,fun y hy=>?_⟩
  ·unfold nx;rw[hs1];split
   ·rename_i e;rw[hsx y e]
   ·rfl
  ·by_cases e:c=0
   ·rw[e];exact hE.at_
   ·exact hE.else_ c hc e
  ·rw[hs1] at hy
   split at hy
   ·cases hy
   ·rename_i e
    unfold keyAt
    rw[hs1,if_neg e]
    exact⟨hy,rfl,rfl⟩
  ·obtain⟨c,hc,hm⟩:=Ai.1 hy
   exact(hE.key y (Aq.2 (I.okc.Eo y hy)) (I.okc.held c hc y hm).1).1
 ·have hE:=O9 I.okc hs hr hk ho
  have L:=a5v I.okc hs hr hk
  have e:Gw w.m s=J7 w.m s b:=by unfold Gw J7;rw[ho]
  rw[e,ho] at L
  have hs0:=(Aq.1 hs).1
  have hss:∀ x:Int,A7 (J7 w.m s b) x=if x.toNat=s.toNat then { A7 w.m s with next:=Ar w.m b,inn:=true } else A7 w.m x:=fun x=>by
   obtain⟨j,rfl,hj⟩:=(Hg w.m s).1 hs
   have:=Q7 (M:=w.m) (S:=w.m.slots.set j { A7 w.m j with next:=Ar w.m b,inn:=true }) (H:=w.m.heads.set b ((j:Int)+1)) hj rfl x
   rw[Int.toNat_natCast]
   exact this
  refine⟨hE.nh,Int.le_refl _,hb,hs0,hoff,hE.at_,hE.else_,fun y hy=>by rw[hss,if_neg hy],?_,L.key⟩
  unfold nx
  rw[hss,if_pos rfl]
  exact I.okc.Hf hb
 ·have hE:=Nc I.okc hb e
  have hk:=a4m w.m b (Ea l1) a
  have hkk:∀ y,keyAt (cutM w.m b (Ea l1) a) y=keyAt w.m y:=fun y=>by
   have:=hk.slot y.toNat
   unfold keyAt A7
   rw[this.1,this.2.1]
  refine⟨hE.nh,by rw[hE.now];omega,hb,e,hE.at_,hE.else_,hkk,fun y=>(hk.slot y.toNat).2.2.1,fun y=>(hk.slot y.toNat).2.2.2,fun y hy=>?_,fun hp=>?_⟩
  ·unfold nx;rw[a3h hy]
  ·have hm:=O8 hp
   have hsl:=I.okc.slots hb (Ea l1 - 1) (by rw[e];simp[hm])
   unfold nx cutM
   rw[if_pos hp]
   unfold A7
   dsimp only
   rw[O1,if_pos ⟨rfl,by omega⟩]
theorem Ti:∀ l:List Int,0<Ea l->∃ q,l=q ++ [Ea l - 1]
 | [],h=>by simp[Ea] at h
 | [x],_=>⟨[],by simp[Ea]⟩
 | x :: y :: l,h=>by
  have e:Ea (x :: y :: l)=Ea (y :: l):=by unfold Ea;rw[List.getLast?_cons_cons]
  rw[e] at h ⊢
  obtain⟨q,hq⟩:=Ti (y :: l) h
  exact⟨x :: q,by rw[List.cons_append,<- hq]⟩
def Lead(m:Mm)(b:Nat)(a:Int):Nat->Int->Prop
 | 0,_=>False
 | k+1,n=>n=a+1\/(n<=0/\n ≠ -1 - (b:Int))\/(0<n/\Lead m b a k (nx m (n - 1)))
theorem Pg{m:Mm}(hM:OkC m){c:Nat}(hc:c<m.heads.length){b:Nat}{a:Int}:∀ (l l1:List Int),chL m c=l1++l->(c=b->a∈l)->∃ k,Lead m b a k (ptr c l)
 | [],l1,e,h=>⟨1,.inr (.inl ⟨by show -1 - (c:Int)<=0;omega,fun e'=>by have e'':-1 - (c:Int)=-1 - (b:Int):=e';exact absurd (h (by omega)) (by simp)⟩)⟩
 | x :: l,l1,e,h=>by
  have hx:=hM.slots hc x (by rw[e];simp)
  by_cases ex:x=a
  ·subst ex
   exact⟨1,.inl rfl⟩
  ·obtain⟨k,hk⟩:=Pg hM hc (b:=b) (a:=a) l (l1 ++ [x]) (by rw[e];simp) (fun h'=>by
    rcases List.mem_cons.1 (h h') with h2|h2
    ·exact(ex h2.symm).elim
    ·exact h2)
   refine⟨k+1,.inr (.inr ⟨by show 0<x+1;omega,?_⟩)⟩
   have:=hM.Ey hc (a:=x) e
   show Lead m b a k (nx m (x+1 - 1))
   rw[show x+1 - 1=x by omega]
   unfold nx
   rw[this]
   exact hk
theorem mv_lead{m m':Mm}(hM:OkC m)(hM':OkC m')(V:Mv m m'){b:Nat}{a:Int}(ha:a∈chL m b)(ha':a∈chL m' b)(hb:b<m.heads.length):∀ (k:Nat) (n:Int),Lead m b a k n->∃ k',Lead m' b a k' n:=by
 intro k
 induction k using Nat.strongRecOn with
 | ind k ih =>
  intro n h
  cases k with
  | zero=>exact h.elim
  | succ k =>
   rcases h with h|h|⟨h1,h2⟩
   ·exact⟨1,.inl h⟩
   ·exact⟨1,.inr (.inl h)⟩
   ·have go:nx m' (n - 1)=nx m (n - 1)->∃ k',Lead m' b a k' n:=fun e=>by
     obtain⟨k',hk'⟩:=ih k (by omega) _ h2
     exact⟨k'+1,.inr (.inr ⟨h1,by rw[e];exact hk'⟩)⟩
    rcases V with C|⟨s,c,C⟩|⟨c,l1,d,l2,C⟩
    ·exact go (C.next _)
    ·by_cases e:(n - 1).toNat=s.toNat
     ·have hs0:=C.s0
      have en:n - 1=s:=by omega
      obtain⟨k',hk'⟩:=Pg hM' (c:=c) (by rw[C.nh];exact C.lt) (b:=b) (a:=a) (chL m c) [s] (by rw[C.at_];rfl) (fun h=>by rw[h];exact ha)
      exact⟨k'+1,.inr (.inr ⟨h1,by rw[en,C.next];exact hk'⟩)⟩
     ·exact go (by unfold nx;rw[C.other _ e])
    ·by_cases hp:0<Ea l1/\(n - 1).toNat=(Ea l1 - 1).toNat
     ·obtain⟨hp,e⟩:=hp
      have en:n - 1=Ea l1 - 1:=by omega
      have hlm:=O8 hp
      obtain⟨q,hq⟩:=Ti l1 hp
      have hch:chL m c=q++(Ea l1 - 1) :: (d :: l2):=by
       rw[C.is]
       generalize Ea l1 - 1=z at hq ⊢
       rw[hq]
       simp
      have hnx:nx m (n - 1)=d+1:=by
       have h5:=hM.Ey C.lt hch
       unfold nx
       rw[en,h5]
       rfl
      have hd:=hM.slots C.lt d (by rw[C.is];simp)
      rw[hnx] at h2
      cases k with
      | zero=>exact h2.elim
      | succ k =>
       rcases h2 with h|h|⟨h3,h4⟩
       ·exfalso
        have hda:d=a:=by omega
        subst hda
        -- d has been cut
        have hnd:=hM.nodup C.lt
        rw[C.is,List.nodup_append,List.nodup_cons] at hnd
        have e1:=(hM.held b hb d ha).2.2
        have e2:=(hM.held c C.lt d (by rw[C.is];simp)).2.2
        have hbc:b=c:=by omega
        subst hbc
        rw[C.at_] at ha'
        rcases List.mem_append.1 ha' with h|h
        ·exact hnd.2.2 d h d (by simp) rfl
        ·exact hnd.2.1.1 h
       ·omega
       ·rw[show d+1 - 1=d by omega] at h4
        obtain⟨k',hk'⟩:=ih k (by omega) _ h4
        exact⟨k'+1,.inr (.inr ⟨h1,by rw[en,C.jump hp];exact hk'⟩)⟩
     ·exact go (C.next _ (fun h e=>hp ⟨h,e⟩))
end
section
def live(m:Mm)(K:Int × Int):Prop:=∃ a∈allC m,keyAt m a=K/\m.now<(A7 m a).unt
def Oy(H:List Mm)(y:Int):Prop:=∃ v∈H,y∈allC v
structure LI(H:List Mm)(m:Mm)(f:Fr):Prop where
 here:m∈H
 okH:∀ v∈H,OkC v
 closed:∀ y,Oy H y->0<nx m y->Oy H (nx m y - 1)
 inns:∀ y,Oy H y->(A7 m y).inn=true->∃ v∈H,y∈allC v/\keyAt v y=keyAt m y/\(A7 v y).unt=(A7 m y).unt/\v.now<=m.now
 cur:1<=f.pl->f.pl<=3->0<f.cur->Oy H (f.cur - 1)
 slot:4<=f.pl->Oy H f.slot
 over:f.pl=6->∃ v∈H,¬ live v (Key f)
 lead:(∀ v∈H,live v (Key f))->∃ a,(∀ v∈H,a∈allC v/\keyAt v a=Key f)/\(1<=f.pl->f.pl<=2->∃ k,Lead m (bkN m f) a k f.cur)/\(f.pl=2->f.cur≠a+1)
theorem Pq{m:Mm}(hM:OkC m){x y:Int}(hx:x∈allC m)(hy:y∈allC m)(e:keyAt m x=keyAt m y):x=y:=Xt (keyAt m) (allC m) hM.keys x hx y hy e
theorem Tf{m:Mm}{f:Fr}(hM:OkC m)(hk:¬ (f.c.kind=4\/f.c.kind=5))(hkey:keyB f.c.a f.c.b=true){a:Int}(hm:a∈allC m)(he:keyAt m a=Key f):a∈chL m (bkN m f):=by
 obtain⟨b',hb',ha⟩:=Ai.1 hm
 have hbu:=(hM.held b' hb' a ha).2.2
 have hk1:(A7 m a).a=f.c.a/\(A7 m a).b=f.c.b:=by unfold keyAt Key at he;simpa using he
 rw[hk1.1,hk1.2] at hbu
 have hbk:=Yr hM.ok hk hkey
 have:bkN m f=b':=by unfold bkN;rw[hbk,hbu];simp
 rw[this];exact ha
theorem Zc{m:Mm}(hM:OkC m){y:Int}(hy:y∈allC m)(h:0<nx m y):nx m y - 1∈allC m:=by
 obtain⟨c,hc,hm⟩:=Ai.1 hy
 obtain⟨l1,l2,e⟩:=List.append_of_mem hm
 have h1:=hM.Ey hc e
 have h2:nx m y=ptr c l2:=h1
 rw[h2] at h ⊢
 cases l2 with
 | nil=>exact absurd h (by show ¬ (0:Int) < -1 - (c:Int);omega)
 | cons z l2 =>
  have:ptr c (z :: l2) - 1=z:=by show z+1 - 1=z;omega
  rw[this]
  exact Ai.2 ⟨c,hc,by rw[e];simp⟩
section
variable {H:List Mm} {m m':Mm} {f:Fr}
theorem Gn{y:Int}:Oy (m' :: H) y ↔ y∈allC m'\/Oy H y:=by
 unfold Oy
 constructor
 ·rintro ⟨v,hv,hy⟩
  rcases List.mem_cons.1 hv with rfl|hv
  ·exact .inl hy
  ·exact .inr ⟨v,hv,hy⟩
 ·rintro (h|⟨v,hv,hy⟩)
  ·exact⟨m',by simp,h⟩
  ·exact⟨v,by simp[hv],hy⟩
theorem li_start(hM:OkC m){c:Cl}:LI [m] m (newF c):=by
 refine⟨by simp,fun v hv=>?_,fun y hy h=>?_,fun y hy h=>?_,fun h=>?_,fun h=>?_,fun h=>?_,fun h=>?_⟩
 ·have:v=m:=by simpa using hv
  rw[this];exact hM
 ·obtain⟨v,hv,hy⟩:=hy
  have:v=m:=by simpa using hv
  rw[this] at hy
  exact⟨m,by simp,Zc hM hy h⟩
 ·obtain⟨v,hv,hy⟩:=hy
  have:v=m:=by simpa using hv
  rw[this] at hy
  exact⟨m,by simp,hy,rfl,rfl,Int.le_refl _⟩
 ·simp[newF] at h
 ·simp[newF] at h
 ·simp[newF] at h
 ·obtain⟨a,ha,he,_⟩:=h m (by simp)
  refine⟨a,fun v hv=>?_,fun h=>by simp[newF] at h,fun h=>by simp[newF] at h⟩
  have:v=m:=by simpa using hv
  rw[this];exact⟨ha,he⟩
set_option maxHeartbeats 800000 in
theorem li_mem(L:LI H m f)(hM:OkC m)(hM':OkC m')(V:Mv m m')(hk:¬ (f.c.kind=4\/f.c.kind=5))(hkey:keyB f.c.a f.c.b=true)(hb:bkN m f<m.heads.length):LI (m' :: H) m' f:=by
 have hy0:∀ y,Oy H y->0<=y:=fun y ⟨v,hv,hy⟩=>((L.okH v hv).Eo y hy).1
 have hnh:m'.heads.length=m.heads.length:=by
  rcases V with C|⟨s,c,C⟩|⟨c,l1,d,l2,C⟩
  ·exact C.nh
  ·exact C.nh
  ·exact C.nh
 have hnow:m.now<=m'.now:=by
  rcases V with C|⟨s,c,C⟩|⟨c,l1,d,l2,C⟩
  ·exact C.now
  ·exact C.now
  ·exact C.now
 -- what is mapped now,and was
 have hin:∀ y,y ∉ allC m'->Oy H y->nx m' y=nx m y/\((A7 m' y).inn=true->(A7 m y).inn=true/\keyAt m' y=keyAt m y/\(A7 m' y).unt=(A7 m y).unt):=fun y hn hw=>by
  have h0:=hy0 y hw
  rcases V with C|⟨s,c,C⟩|⟨c,l1,d,l2,C⟩
  ·exact⟨C.next y,C.inn y⟩
  ·have hs:s∈allC m':=Ai.2 ⟨c,by rw[C.nh];exact C.lt,by rw[C.at_];simp⟩
   have hne:y.toNat≠s.toNat:=fun e=>hn (by have:=C.s0;rw[show y=s by omega];exact hs)
   have e:=C.other y hne
   exact⟨by unfold nx;rw[e],fun h=>⟨by rw[<- e];exact h,C.key y,by rw[e]⟩⟩
  ·refine⟨C.next y fun hp e=>hn ?_,fun h=>⟨by rw[<- C.inn];exact h,C.key y,C.unt y⟩⟩
   have hl:=O8 hp
   have:y=Ea l1 - 1:=by omega
   rw[this]
   exact Ai.2 ⟨c,by rw[C.nh];exact C.lt,by rw[C.at_];simp[hl]⟩
 refine⟨by simp,fun v hv=>?_,fun y hy h=>?_,fun y hy h=>?_,fun h1 h2 h3=>Gn.2 (.inr (L.cur h1 h2 h3)),fun h=>Gn.2 (.inr (L.slot h)),fun h=>?_,fun h=>?_⟩
 ·rcases List.mem_cons.1 hv with rfl|hv
  ·exact hM'
  ·exact L.okH v hv
 ·by_cases hm:y∈allC m'
  ·exact Gn.2 (.inl (Zc hM' hm h))
  ·have hw:Oy H y:=(Gn.1 hy).resolve_left hm
   rw[(hin y hm hw).1] at h ⊢
   exact Gn.2 (.inr (L.closed y hw h))
 ·by_cases hm:y∈allC m'
  ·exact⟨m',by simp,hm,rfl,rfl,Int.le_refl _⟩
  ·have hw:Oy H y:=(Gn.1 hy).resolve_left hm
   obtain⟨i1,i2,i3⟩:=(hin y hm hw).2 h
   obtain⟨v,hv,v1,v2,v3,v4⟩:=L.inns y hw i1
   exact⟨v,by simp[hv],v1,by rw[v2,i2],by rw[v3,i3],by omega⟩
 ·obtain⟨v,hv,hl⟩:=L.over h
  exact⟨v,by simp[hv],hl⟩
 ·obtain⟨a,a1,a2,a3⟩:=L.lead (fun v hv=>h v (by simp[hv]))
  obtain⟨ha,hka⟩:=a1 m L.here
  obtain⟨x,hx,hkx,_⟩:=h m' (by simp)
  have ha':a∈allC m'/\keyAt m' a=Key f:=by
   rcases V with C|⟨s,c,C⟩|⟨c,l1,d,l2,C⟩
   ·refine⟨?_,by rw[C.keep a ha];exact hka⟩
    obtain⟨c,hc,hm⟩:=Ai.1 ha
    exact Ai.2 ⟨c,by rw[C.nh];exact hc,by rw[C.chs c hc];exact hm⟩
   ·refine⟨?_,by rw[C.key a];exact hka⟩
    obtain⟨e,he,hm⟩:=Ai.1 ha
    by_cases ec:e=c
    ·subst ec;exact Ai.2 ⟨e,by rw[C.nh];exact he,by rw[C.at_];simp[hm]⟩
    ·exact Ai.2 ⟨e,by rw[C.nh];exact he,by rw[C.else_ e he ec];exact hm⟩
   ·refine⟨?_,by rw[C.key a];exact hka⟩
    have hx2:x∈allC m:=by
     obtain⟨e,he,hm⟩:=Ai.1 hx
     rw[C.nh] at he
     by_cases ec:e=c
     ·subst ec
      rw[C.at_] at hm
      refine Ai.2 ⟨e,he,?_⟩
      rw[C.is]
      rcases List.mem_append.1 hm with h|h
      ·simp[h]
      ·simp[h]
     ·exact Ai.2 ⟨e,he,by rw[<- C.else_ e he ec];exact hm⟩
    have:x=a:=Pq hM hx2 ha (by rw[<- C.key x,hkx,hka])
    rw[<- this];exact hx
  refine⟨a,fun v hv=>?_,fun h1 h2=>?_,a3⟩
  ·rcases List.mem_cons.1 hv with rfl|hv
   ·exact ha'
   ·exact a1 v hv
  ·obtain⟨k,hk'⟩:=a2 h1 h2
   rw[Kr hnh f]
   have hc1:=Tf hM hk hkey ha hka
   have hc2:=Tf hM' hk hkey ha'.1 ha'.2
   rw[Kr hnh f] at hc2
   exact mv_lead hM hM' V hc1 hc2 hb k _ hk'
theorem LI.frame{g:Fr}(L:LI H m f)(hk:Key g=Key f)(hc:1<=g.pl->g.pl<=3->0<g.cur->Oy H (g.cur - 1))(hs:4<=g.pl->Oy H g.slot)(ho:g.pl=6->∃ v∈H,¬ live v (Key f))
  (hl:∀ a,(∀ v∈H,a∈allC v/\keyAt v a=Key f)->(1<=f.pl->f.pl<=2->∃ k,Lead m (bkN m f) a k f.cur)->(f.pl=2->f.cur≠a+1)->(1<=g.pl->g.pl<=2->∃ k,Lead m (bkN m g) a k g.cur)/\(g.pl=2->g.cur≠a+1)):LI H m g:=by
 refine⟨L.here,L.okH,L.closed,L.inns,hc,hs,fun h=>by rw[hk];exact ho h,fun h=>?_⟩
 rw[hk] at h ⊢
 obtain⟨a,a1,a2,a3⟩:=L.lead h
 obtain⟨b1,b2⟩:=hl a a1 a2 a3
 exact⟨a,a1,b1,b2⟩
set_option maxHeartbeats 800000 in
theorem li_own(L:LI H m f)(hM:OkC m)(hM':OkC (lkM m f))(V:Mv m (lkM m f))(F:Fit m f)(hk:f.c.kind=1)(hp6:f.pl<=6)(h3:4<=f.pl->0<=f.slot)(hd:(lkF m f).done=false):LI (lkM m f :: H) (lkM m f) (lkF m f):=by
 have hkey:=a0w hk F.call
 have hnk:¬ (f.c.kind=4\/f.c.kind=5):=by omega
 have hbi:=Du hM.ok F.call
 have hb:bkN m f<m.heads.length:=by unfold bkN;omega
 have L1:=li_mem L hM hM' V hnk hkey hb
 have hpl:=F.pl
 have to0:∀ g:Fr,g.c=f.c->g.pl=0->LI (lkM m f :: H) (lkM m f) g:=fun g hc h0=>L1.frame (by unfold Key;rw[hc]) (fun h=>by omega) (fun h=>by omega) (fun h=>by omega) (fun a _ _ _=>⟨fun h=>by omega,fun h=>by omega⟩)
 have hp:f.pl=0\/f.pl=1\/f.pl=2\/f.pl=3\/f.pl=4\/f.pl=5\/f.pl=6:=by omega
 rcases hp with p|p|p|p|p|p|p
 ·have em:lkM m f=m:=Dq (by omega)
  rw[em] at L1 ⊢
  rw[lkF0 p]
  have hh:(Cm m f).cur=ptr (bkN m f) (chL m (bkN m f)):=hM.Hf hb
  refine L1.frame rfl (fun _ _ h=>?_) (fun h=>by simp[Cm,curF] at h) (fun h=>by simp[Cm,curF] at h) (fun a ha _ _=>⟨fun _ _=>?_,fun h=>by simp[Cm,curF] at h⟩)
  ·rw[hh] at h ⊢
   cases hc:chL m (bkN m f) with
   | nil=>rw[hc] at h;exact absurd h (by show ¬ (0:Int) < -1 - ((bkN m f:Nat):Int);omega)
   | cons z l =>
    have:ptr (bkN m f) (z :: l) - 1=z:=by show z+1 - 1=z;omega
    rw[this]
    exact Gn.2 (.inl (Ai.2 ⟨_,hb,by rw[hc];simp⟩))
  ·obtain⟨x1,x2⟩:=ha m (by simp)
   have hca:=Tf hM hnk hkey x1 x2
   have:=Pg hM hb (b:=bkN m f) (a:=a) (chL m (bkN m f)) [] rfl (fun _=>hca)
   rw[hh]
   exact this
 ·have em:lkM m f=m:=Dq (by omega)
  rw[em] at L1 to0 ⊢
  have e:=lkF1 (M:=m) p
  unfold N8 at e
  by_cases h1:f.cur=-1 - bkOf m.heads.length f.c
  ·rw[if_pos h1] at e
   rw[e] at hd;cases hd
  ·rw[if_neg h1] at e
   by_cases h2:isAt m f=true
   ·rw[if_pos h2] at e
    rw[e]
    have hsl:=Bg.1 h2
    by_cases hkk:lkK (A7 m (f.cur - 1)) f=true
    ·rw[if_pos hkk]
     exact L1.frame rfl (fun _ _ h=>L1.cur (by omega) (by omega) h) (fun h=>by simp[toF] at h) (fun h=>by simp[toF] at h) (fun a _ _ _=>⟨fun _ h=>by simp[toF] at h,fun h=>by simp[toF] at h⟩)
    ·rw[if_neg hkk]
     refine L1.frame rfl (fun _ _ h=>L1.cur (by omega) (by omega) h) (fun h=>by simp[toF] at h) (fun h=>by simp[toF] at h) (fun a ha hl _=>⟨fun _ _=>hl (by omega) (by omega),fun _ he=>hkk (Ob.2 ?_)⟩)
     have he':f.cur=a+1:=he
     rw[show f.cur - 1=a by omega]
     exact(ha m (by simp)).2
   ·rw[if_neg h2] at e
    rw[e]
    exact to0 _ rfl rfl
 ·have em:lkM m f=m:=Dq (by omega)
  rw[em] at L1 to0 ⊢
  have e:=lkF2 (M:=m) p
  unfold Ed at e
  by_cases h2:isAt m f=true
  ·rw[if_pos h2] at e
   rw[e]
   have hsl:=Bg.1 h2
   refine L1.frame rfl (fun _ _ h=>?_) (fun h=>by simp[curF] at h) (fun h=>by simp[curF] at h) (fun a ha hl hne=>⟨fun _ _=>?_,fun h=>by simp[curF] at h⟩)
   ·exact L1.closed (f.cur - 1) (L1.cur (by omega) (by omega) (by omega)) h
   ·obtain⟨k,hk'⟩:=hl (by omega) (by omega)
    cases k with
    | zero=>exact hk'.elim
    | succ k =>
     rcases hk' with h|h|⟨_,h⟩
     ·exact(hne p h).elim
     ·omega
     ·exact⟨k,h⟩
  ·rw[if_neg h2] at e
   rw[e]
   exact to0 _ rfl rfl
 ·have e:=lkF3 (M:=m) p
  unfold H6 at e
  by_cases h2:(isAt m f && canH m (f.cur - 1))=true
  ·rw[if_pos h2] at e
   rw[e]
   rw[Bool.and_eq_true] at h2
   have hsl:=Bg.1 h2.1
   exact L1.frame rfl (fun _ h=>by simp[Ci] at h) (fun _=>L1.cur (by omega) (by omega) (by omega)) (fun h=>by simp[Ci] at h) (fun a _ _ _=>⟨fun _ h=>by simp[Ci] at h,fun h=>by simp[Ci] at h⟩)
  ·rw[if_neg h2] at e
   rw[e]
   exact to0 _ rfl rfl
 ·have em:lkM m f=m:=Dq (by omega)
  rw[em] at L1 to0 ⊢
  have h0:=h3 (by omega)
  have hs:isSl m f.slot=true:=Aq.2 ⟨h0,F.slot.2⟩
  have e:=lkF4 (M:=m) p
  unfold G8 at e
  rw[if_pos hs] at e
  by_cases h1:(lkK (A7 m f.slot) f && (A7 m f.slot).inn)=true
  ·rw[if_pos h1] at e
   rw[Bool.and_eq_true] at h1
   by_cases h2:m.now<(A7 m f.slot).unt
   ·rw[if_pos h2] at e
    rw[e] at hd;cases hd
   ·rw[if_neg h2] at e
    rw[e]
    refine L1.frame rfl (fun _ h=>by simp[toF] at h) (fun _=>L1.slot (by omega)) (fun _=>?_) (fun a _ _ _=>⟨fun _ h=>by simp[toF] at h,fun h=>by simp[toF] at h⟩)
    by_cases hall:∀ v∈(m :: H),live v (Key f)
    ·exfalso
     obtain⟨a,a1,_,_⟩:=L1.lead hall
     obtain⟨v,hv,v1,v2,v3,v4⟩:=L1.inns f.slot (L1.slot (by omega)) h1.2
     have hks:=Ob.1 h1.1
     have e1:f.slot=a:=Pq (L1.okH v hv) v1 (a1 v hv).1 (by rw[v2,hks,(a1 v hv).2])
     obtain⟨x,hx,hkx,hlt⟩:=hall m (by simp)
     have e2:x=a:=Pq hM hx (a1 m (by simp)).1 (by rw[hkx,(a1 m (by simp)).2])
     rw[e2,<- e1] at hlt
     exact h2 hlt
    ·simp only[Classical.not_forall] at hall
     obtain⟨v,hv,hn⟩:=hall
     exact⟨v,hv,hn⟩
  ·rw[if_neg h1] at e
   rw[e]
   exact L1.frame rfl (fun _ h=>by simp[toF] at h) (fun _=>L1.slot (by omega)) (fun h=>by simp[toF] at h) (fun a _ _ _=>⟨fun _ h=>by simp[toF] at h,fun h=>by simp[toF] at h⟩)
 ·have h0:=h3 (by omega)
  have hs:isSl m f.slot=true:=Aq.2 ⟨h0,F.slot.2⟩
  have e:=lkF5 (M:=m) p
  unfold Gx at e
  rw[if_pos hs] at e
  rw[e]
  exact to0 _ rfl rfl
 ·have h0:=h3 (by omega)
  have hs:isSl m f.slot=true:=Aq.2 ⟨h0,F.slot.2⟩
  have e:=lkF6 (M:=m) p
  unfold Ju at e
  rw[if_pos hs] at e
  rw[e] at hd;cases hd
theorem li_end(L:LI H m f)(hM:OkC m)(F:Fit m f)(hk:f.c.kind=1)(hp6:f.pl<=6)(h3:4<=f.pl->0<=f.slot)(hd:(lkF m f).done=true) :
  ((lkF m f).e=0/\∃ v∈H,(lkF m f).slot∈allC v/\keyAt v (lkF m f).slot=Key f/\v.now<(A7 v (lkF m f).slot).unt)\/((lkF m f).e=5/\∃ v∈H,¬ live v (Key f)):=by
 have hpl:=F.pl
 have hfd:=F.done
 have hbi:=Du hM.ok F.call
 have hnd:∀ g:Fr,lkF m f=g->g.done=f.done->False:=fun g e h=>by rw[e,h,hfd] at hd;cases hd
 have hp:f.pl=0\/f.pl=1\/f.pl=2\/f.pl=3\/f.pl=4\/f.pl=5\/f.pl=6:=by omega
 rcases hp with p|p|p|p|p|p|p
 ·exact(hnd _ (lkF0 p) rfl).elim
 ·have e:=lkF1 (M:=m) p
  unfold N8 at e
  by_cases h1:f.cur=-1 - bkOf m.heads.length f.c
  ·rw[if_pos h1] at e
   rw[e]
   refine .inr ⟨rfl,?_⟩
   by_cases hall:∀ v∈H,live v (Key f)
   ·exfalso
    obtain⟨a,a1,a2,_⟩:=L.lead hall
    obtain⟨k,hk'⟩:=a2 (by omega) (by omega)
    have ha:=((L.okH m L.here).Eo a (a1 m L.here).1).1
    have hbe:((bkN m f:Nat):Int)=bkOf m.heads.length f.c:=by unfold bkN;omega
    cases k with
    | zero=>exact hk'.elim
    | succ k =>
     rcases hk' with h|⟨_,h⟩|⟨h,_⟩
     ·omega
     ·exact h (by rw[hbe];exact h1)
     ·omega
   ·simp only[Classical.not_forall] at hall
    obtain⟨v,hv,hn⟩:=hall
    exact⟨v,hv,hn⟩
  ·rw[if_neg h1] at e
   by_cases h2:isAt m f=true
   ·rw[if_pos h2] at e;exact(hnd _ e rfl).elim
   ·rw[if_neg h2] at e;exact(hnd _ e rfl).elim
 ·have e:=lkF2 (M:=m) p
  unfold Ed at e
  by_cases h2:isAt m f=true
  ·rw[if_pos h2] at e;exact(hnd _ e rfl).elim
  ·rw[if_neg h2] at e;exact(hnd _ e rfl).elim
 ·have e:=lkF3 (M:=m) p
  unfold H6 at e
  by_cases h2:(isAt m f && canH m (f.cur - 1))=true
  ·rw[if_pos h2] at e;exact(hnd _ e rfl).elim
  ·rw[if_neg h2] at e;exact(hnd _ e rfl).elim
 ·have h0:=h3 (by omega)
  have hs:isSl m f.slot=true:=Aq.2 ⟨h0,F.slot.2⟩
  have e:=lkF4 (M:=m) p
  unfold G8 at e
  rw[if_pos hs] at e
  by_cases h1:(lkK (A7 m f.slot) f && (A7 m f.slot).inn)=true
  ·rw[if_pos h1] at e
   rw[Bool.and_eq_true] at h1
   by_cases h2:m.now<(A7 m f.slot).unt
   ·rw[if_pos h2] at e
    rw[e]
    obtain⟨v,hv,v1,v2,v3,v4⟩:=L.inns f.slot (L.slot (by omega)) h1.2
    refine .inl ⟨rfl,v,hv,v1,by rw[<- Ob.1 h1.1];exact v2,?_⟩
    show v.now<(A7 v f.slot).unt
    rw[v3];omega
   ·rw[if_neg h2] at e;exact(hnd _ e rfl).elim
  ·rw[if_neg h1] at e;exact(hnd _ e rfl).elim
 ·have h0:=h3 (by omega)
  have hs:isSl m f.slot=true:=Aq.2 ⟨h0,F.slot.2⟩
  have e:=lkF5 (M:=m) p
  unfold Gx at e
  rw[if_pos hs] at e
  exact(hnd _ e rfl).elim
 ·have h0:=h3 (by omega)
  have hs:isSl m f.slot=true:=Aq.2 ⟨h0,F.slot.2⟩
  have e:=lkF6 (M:=m) p
  unfold Ju at e
  rw[if_pos hs] at e
  rw[e]
  exact .inr ⟨rfl,L.over p⟩
end
end
section
def mapK(m:Mm)(K:Int × Int):Prop:=∃ a∈allC m,keyAt m a=K
def Adj(H:List Mm)(v v':Mm):Prop:=∃ p q,H=p++v' :: v :: q
theorem Zu{H:List Mm}{v v' x:Mm}(h:Adj H v v'):Adj (x :: H) v v':=by
 obtain⟨p,q,e⟩:=h
 exact⟨x :: p,q,by rw[e];rfl⟩
structure AI(H:List Mm)(f:Fr):Prop where
 twice:f.pl=6\/(f.pl=7/\f.e=6)->∃ v∈H,mapK v (Key f)
 ok:f.pl=7->f.e=0->∃ v v',Adj H v v'/\¬ mapK v (Key f)/\f.slot∈allC v'/\keyAt v' f.slot=Key f
structure DI(H:List Mm)(f:Fr):Prop where
 who:5<=f.pl->f.e=5->∃ v∈H,¬ mapK v (Key f)
 ok:5<=f.pl->f.e=0->∃ v v',Adj H v v'/\mapK v (Key f)/\¬ mapK v' (Key f)
theorem ai_new(H:List Mm)(c:Cl):AI H (newF c):=⟨fun h=>by simp[newF] at h,fun h=>by simp[newF] at h⟩
theorem di_new(H:List Mm)(c:Cl):DI H (newF c):=⟨fun h=>by simp[newF] at h,fun h=>by simp[newF] at h⟩
theorem AI.grow{H:List Mm}{f:Fr}(A:AI H f)(x:Mm):AI (x :: H) f :=
 ⟨fun h=>by obtain⟨v,hv,e⟩:=A.twice h;exact⟨v,by simp[hv],e⟩,fun h1 h2=>by obtain⟨v,v',a,r⟩:=A.ok h1 h2;exact⟨v,v',Zu a,r⟩⟩
theorem DI.grow{H:List Mm}{f:Fr}(A:DI H f)(x:Mm):DI (x :: H) f :=
 ⟨fun h1 h2=>by obtain⟨v,hv,e⟩:=A.who h1 h2;exact⟨v,by simp[hv],e⟩,fun h1 h2=>by obtain⟨v,v',a,r⟩:=A.ok h1 h2;exact⟨v,v',Zu a,r⟩⟩
section
variable {w:Wd} {i:Nat} {t:Tk} {H:List Mm}
set_option maxHeartbeats 800000 in
theorem ai_own(I:WInv w)(hi:w.ts[i]?=some t)(hb:t.busy=true)(hk:t.f.c.kind=2)(A:AI (w.m :: H) t.f):AI (adM i w.m t.f :: w.m :: H) (adF w.m t.f):=by
 have htm:=List.mem_of_getElem? hi
 have F:=I.fi t htm hb
 have hbk:=I.bk hi hb
 obtain⟨a1,a2,a3,a4,a5,a6,a7⟩:=F.add hk
 obtain⟨k1,k2,k3⟩:=P6 hk F.fit.call
 have hpl:=F.fit.pl
 have early:∀ g:Fr,adF w.m t.f=g->g.pl<=5->AI (adM i w.m t.f :: w.m :: H) (adF w.m t.f):=fun g e h=>by
  rw[e];exact⟨fun h'=>by omega,fun h'=>by omega⟩
 have hp:t.f.pl=0\/t.f.pl=1\/t.f.pl=2\/t.f.pl=3\/t.f.pl=4\/t.f.pl=5\/t.f.pl=6\/t.f.pl=7:=by omega
 rcases hp with p|p|p|p|p|p|p|p
 ·have e:=adF0 (M:=w.m) p
  unfold Hw at e
  by_cases hF:w.m.free.length=0
  ·rw[if_pos hF] at e
   exact early _ e (by show t.f.pl<=5;omega)
  ·rw[if_neg hF] at e
   exact early _ e (by simp[Ci])
 ·have e:=adF1 (M:=w.m) p
  unfold Jr at e
  by_cases hF:Aj w.m (bkN w.m t.f)=-1
  ·rw[if_pos hF] at e;exact early _ e (by simp[toF])
  ·rw[if_neg hF] at e;exact early _ e (by omega)
 ·exact early _ (adF2 p) (by simp[curF])
 ·obtain⟨l1,l2,R,N⟩:=a4 p
  obtain⟨hat,hcur⟩:=Bh I.okc hbk.1 R
  have e:=adF3 (M:=w.m) p
  unfold Nu at e
  cases l2 with
  | nil =>
   have hno:isAt w.m t.f=false:=by
    cases h:isAt w.m t.f
    ·rfl
    ·obtain⟨a,l,e⟩:=hat.1 h;cases e
   rw[hno] at e
   exact early _ e (by simp[toF])
  | cons a l2 =>
   rw[if_pos (hat.2 ⟨a,l2,rfl⟩),hcur a l2 rfl] at e
   by_cases hkk:lkK (A7 w.m a) t.f=true
   ·rw[if_pos hkk] at e
    rw[e]
    exact⟨fun _=>⟨w.m,by simp,a,Ai.2 ⟨_,hbk.1,by rw[R.1];simp⟩,Ob.1 hkk⟩,fun h=>by simp[toF] at h⟩
   ·rw[if_neg hkk] at e
    exact early _ e (by simp[toF])
 ·obtain⟨l1,a,l2,R,N⟩:=a5 p
  obtain⟨hat,hcur⟩:=Bh I.okc hbk.1 R
  have e:=adF4 (M:=w.m) p
  unfold Ip at e
  rw[if_pos (hat.2 ⟨a,l2,rfl⟩)] at e
  exact early _ e (by simp[curF])
 ·have ha:adds t.f:=⟨hk,by omega,by omega⟩
  obtain⟨x1,x2,x3⟩:=a3 (by omega) (by omega)
  have hnk:=U3 I.okc (by omega) k1 (a6 p)
  have hob:ownB w.m t.f.slot=bkN w.m t.f:=by
   have x3':=x3
   unfold keyAt Key at x3'
   simp only[Prod.mk.injEq] at x3'
   unfold ownB bkN
   rw[x3'.1,x3'.2,Yr I.okc.ok (by omega) k1]
  have hE:=O9 I.okc x1 (I.Jg htm hb ha).2.1 (by rw[x3];exact hnk) hob
  have e:=adF5 (M:=w.m) p
  have em:=adM5 (M:=w.m) (t:=(i:Int)) p
  unfold Io at e
  unfold Gt at em
  rw[if_pos x1] at e em
  rw[e,em]
  refine⟨fun h=>by rcases h with h|h <;> simp at h,fun _ _=>⟨w.m,_,⟨[],H,rfl⟩,?_,?_,?_⟩⟩
  ·rintro ⟨y,hy,hky⟩
   have:hasK w.m (allC w.m) (Key t.f)=true:=by
    rw[G7,List.mem_map];exact⟨y,hy,hky⟩
   rw[hnk] at this;cases this
  ·exact(Za hbk.1 hE _).2 (.inl (by simp))
  ·have:=(hE.key _ x1 (I.Jg htm hb ha).2.1).1
   exact this.trans x3
 ·have e:=adF6 (M:=w.m) p
  unfold Nr at e
  obtain⟨x1,x2,x3⟩:=a3 (by omega) (by omega)
  rw[if_pos x1] at e
  rw[e]
  obtain⟨v,hv,hm⟩:=A.twice (.inl p)
  exact⟨fun _=>⟨v,by simp only[List.mem_cons] at hv ⊢;exact .inr hv,hm⟩,fun _ h=>by simp at h⟩
 ·have e:=adF7 (M:=w.m) p
  rw[e]
  have G:=A.grow (adM i w.m t.f)
  exact⟨G.twice,G.ok⟩
set_option maxHeartbeats 800000 in
theorem di_own(I:WInv w)(hi:w.ts[i]?=some t)(hb:t.busy=true)(hk:t.f.c.kind=3)(A:DI (w.m :: H) t.f):DI (drM i w.m t.f :: w.m :: H) (drF w.m t.f):=by
 have htm:=List.mem_of_getElem? hi
 have F:=I.fi t htm hb
 have hbk:=I.bk hi hb
 obtain⟨a1,a2,a3,a4,a5,a6⟩:=F.drop hk
 have k1:=drop_key hk F.fit.call
 have hpl:=F.fit.pl
 have early:∀ g:Fr,drF w.m t.f=g->g.pl<=4->DI (drM i w.m t.f :: w.m :: H) (drF w.m t.f):=fun g e h=>by
  rw[e];exact⟨fun h'=>by omega,fun h'=>by omega⟩
 have hp:t.f.pl=0\/t.f.pl=1\/t.f.pl=2\/t.f.pl=3\/t.f.pl=4\/t.f.pl=5\/t.f.pl=6:=by omega
 rcases hp with p|p|p|p|p|p|p
 ·have e:=drF0 (M:=w.m) p
  unfold En at e
  by_cases hF:Aj w.m (bkN w.m t.f)=-1
  ·rw[if_pos hF] at e;exact early _ e (by simp[toF])
  ·rw[if_neg hF] at e;exact early _ e (by omega)
 ·exact early _ (drF1 p) (by simp[Bd])
 ·obtain⟨l1,l2,R,N,q⟩:=a3 p
  obtain⟨hat,hcur⟩:=Bh I.okc hbk.1 R
  have e:=drF2 (M:=w.m) p
  unfold Kt at e
  cases l2 with
  | nil =>
   have hno:isAt w.m t.f=false:=by
    cases h:isAt w.m t.f
    ·rfl
    ·obtain⟨a,l,e⟩:=hat.1 h;cases e
   rw[hno] at e
   have hnk:=U3 I.okc (by omega) k1 (fun a hm=>by rw[R.1,List.append_nil] at hm;exact N a hm)
   have e':drF w.m t.f=errF t.f 5 5:=e
   rw[e']
   refine⟨fun _ _=>⟨w.m,by simp,?_⟩,fun _ h=>by simp[errF] at h⟩
   rintro ⟨y,hy,hky⟩
   have:hasK w.m (allC w.m) (Key t.f)=true:=by
    rw[G7,List.mem_map];exact⟨y,hy,hky⟩
   rw[hnk] at this;cases this
  | cons a l2 =>
   rw[if_pos (hat.2 ⟨a,l2,rfl⟩)] at e
   refine early _ e ?_
   show (if lkK (A7 w.m (t.f.cur - 1)) t.f=true then (4:Int) else 3)<=4
   split <;> omega
 ·obtain⟨l1,a,l2,R,N,q⟩:=a4 p
  obtain⟨hat,hcur⟩:=Bh I.okc hbk.1 R
  have e:=drF3 (M:=w.m) p
  unfold I4 at e
  rw[if_pos (hat.2 ⟨a,l2,rfl⟩)] at e
  exact early _ e (by simp[Bd])
 ·obtain⟨l1,a,l2,R,hka,q⟩:=a5 p
  obtain⟨hat,hcur⟩:=Bh I.okc hbk.1 R
  have hca:=hcur a l2 rfl
  have e:=drF4 (M:=w.m) p
  have em:=drM4 (M:=w.m) (t:=(i:Int)) p
  unfold Nh at e
  unfold Ew at em
  rw[if_pos (hat.2 ⟨a,l2,rfl⟩)] at e em
  rw[q,hca] at em
  have hE:=Nc I.okc hbk.1 R.1
  have hmem:=Yu I.okc hbk.1 R.1 hE
  have hach:a∈allC w.m:=Ai.2 ⟨_,hbk.1,by rw[R.1];simp⟩
  rw[e,em]
  refine⟨fun _ h=>by simp at h,fun _ _=>⟨w.m,_,⟨[],H,rfl⟩,⟨a,hach,hka⟩,?_⟩⟩
  rintro ⟨y,hy,hky⟩
  obtain⟨y1,y2⟩:=(hmem y).1 hy
  obtain⟨c,hc,hm⟩:=Ai.1 y1
  have hkk:=(hE.key y (Aq.2 (I.okc.Eo y y1)) (I.okc.held c hc y hm).1).1
  have hky':keyAt w.m y=Key t.f:=by rw[<- hkk];exact hky
  exact y2 (Pq I.okc y1 hach (by rw[hky',hka]))
 ·rw[drF5 p]
  have G:=A.grow (drM i w.m t.f)
  exact⟨fun _ h=>G.who (by omega) h,fun _ h=>G.ok (by omega) h⟩
 ·rw[drF6 p]
  have G:=A.grow (drM i w.m t.f)
  exact⟨fun _ h=>G.who (by omega) h,fun _ h=>G.ok (by omega) h⟩
end
end
section
structure GInv(w:Wd)(G:List (List Mm)):Prop where
 inv:WInv w
 len:G.length=w.ts.length
 look:∀ (i:Nat) t H,w.ts[i]?=some t->G[i]?=some H->t.busy=true->t.f.c.kind=1->LI H w.m t.f
 add:∀ (i:Nat) t H,w.ts[i]?=some t->G[i]?=some H->t.busy=true->t.f.c.kind=2->(∃ H',H=w.m :: H')/\AI H t.f
 drop:∀ (i:Nat) t H,w.ts[i]?=some t->G[i]?=some H->t.busy=true->t.f.c.kind=3->(∃ H',H=w.m :: H')/\DI H t.f
def Qn(m:Mm)(G:List (List Mm)):List (List Mm):=G.map (fun H=>m :: H)
theorem Gq{m:Mm}{G:List (List Mm)}{i:Nat}{H:List Mm}(h:(Qn m G)[i]?=some H):∃ H0,G[i]?=some H0/\H=m :: H0:=by
 unfold Qn at h
 rw[List.getElem?_map] at h
 cases e:G[i]? with
 | none=>rw[e] at h;cases h
 | some H0=>rw[e] at h;injection h with h;exact⟨H0,rfl,h.symm⟩
theorem a4j(m:Mm):Mv m { m with now:=m.now+1 } :=
 .inl ⟨rfl,by show m.now<=m.now+1;omega,fun _=>rfl,fun _ _=>rfl,fun _ h=>⟨h,rfl,rfl⟩,fun _ _=>rfl⟩
theorem a4i(m:Mm):Mv m m:=.inl ⟨rfl,Int.le_refl _,fun _=>rfl,fun _ _=>rfl,fun _ h=>⟨h,rfl,rfl⟩,fun _ _=>rfl⟩
section
variable {w:Wd} {G:List (List Mm)} {i:Nat} {t:Tk}
theorem U7{m':Mm}{H:List Mm}(I:WInv w)(hi:w.ts[i]?=some t)(hb:t.busy=true)(hk:t.f.c.kind=1)(hM':OkC m')(V:Mv w.m m')(L:LI H w.m t.f):LI (m' :: H) m' t.f:=by
 have F:=I.fi t (List.mem_of_getElem? hi) hb
 exact li_mem L I.okc hM' V (by omega) (a0w hk F.fit.call) (I.bk hi hb).1
theorem g_tick(g:GInv w G)(h:w.m.now<1000000):GInv ⟨{ w.m with now:=w.m.now+1 },w.ts⟩ (Qn { w.m with now:=w.m.now+1 } G):=by
 have I':=Yj g.inv h
 refine⟨I',by simpa [Qn] using g.len,fun i t H hi hG hb hk=>?_,fun i t H hi hG hb hk=>?_,fun i t H hi hG hb hk=>?_⟩
 ·obtain⟨H0,h0,rfl⟩:=Gq hG
  exact U7 g.inv hi hb hk I'.okc (a4j w.m) (g.look i t H0 hi h0 hb hk)
 ·obtain⟨H0,h0,rfl⟩:=Gq hG
  exact⟨⟨H0,rfl⟩,(g.add i t H0 hi h0 hb hk).2.grow _⟩
 ·obtain⟨H0,h0,rfl⟩:=Gq hG
  exact⟨⟨H0,rfl⟩,(g.drop i t H0 hi h0 hb hk).2.grow _⟩
theorem g_begin{c:Cl}(g:GInv w G)(hi:w.ts[i]?=some t)(hb:t.busy=false)(hc:Dw w.m.slots.length w.m.heads.length c=0)(h1:c.kind=1->t.held.length≠100)(h6:c.kind=6->c.slot∈t.held) :
  GInv ⟨w.m,w.ts.set i ⟨true,newF c,t.held⟩⟩ ((Qn w.m G).set i [w.m]):=by
 have I':=Uo g.inv hi hb hc h1 h6
 have own:∀ {j:Nat} {u:Tk} {H:List Mm},(w.ts.set i ⟨true,newF c,t.held⟩)[j]?=some u->((Qn w.m G).set i [w.m])[j]?=some H->(j=i/\u=⟨true,newF c,t.held⟩/\H=[w.m])\/(j≠i/\w.ts[j]?=some u/\∃ H0,G[j]?=some H0/\H=w.m :: H0):=fun {j u H} hj hG=>by
  rcases Eb hj with ⟨rfl,rfl,hl⟩|⟨hji,hj'⟩
  ·rw[List.getElem?_set_self (by simp[Qn];rw[g.len];exact hl)] at hG
   injection hG with hG
   exact .inl ⟨rfl,rfl,hG.symm⟩
  ·rw[List.getElem?_set_ne (fun h=>hji h.symm)] at hG
   exact .inr ⟨hji,hj',Gq hG⟩
 refine⟨I',by simpa [Qn] using g.len,fun j u H hj hG hb' hk=>?_,fun j u H hj hG hb' hk=>?_,fun j u H hj hG hb' hk=>?_⟩
 ·rcases own hj hG with ⟨rfl,rfl,rfl⟩|⟨hji,hj',H0,h0,rfl⟩
  ·exact li_start g.inv.okc
  ·exact U7 g.inv hj' hb' hk I'.okc (a4i w.m) (g.look j u H0 hj' h0 hb' hk)
 ·rcases own hj hG with ⟨rfl,rfl,rfl⟩|⟨hji,hj',H0,h0,rfl⟩
  ·exact⟨⟨[],rfl⟩,ai_new _ _⟩
  ·exact⟨⟨H0,rfl⟩,(g.add j u H0 hj' h0 hb' hk).2.grow _⟩
 ·rcases own hj hG with ⟨rfl,rfl,rfl⟩|⟨hji,hj',H0,h0,rfl⟩
  ·exact⟨⟨[],rfl⟩,di_new _ _⟩
  ·exact⟨⟨H0,rfl⟩,(g.drop j u H0 hj' h0 hb' hk).2.grow _⟩
theorem Mc(m:Mm)(i:Nat)(t:Tk):(stepT m i t).2.f.c=t.f.c:=by
 unfold stepT
 split
 ·exact lkF_c _ _
 split
 ·exact adF_c _ _
 split
 ·exact drF_c _ _
 split
 ·rfl
 ·exact swF_c _ _
theorem g_step(g:GInv w G)(hi:w.ts[i]?=some t)(hb:t.busy=true):GInv ⟨(stepT w.m i t).1,w.ts.set i (stepT w.m i t).2⟩ (Qn (stepT w.m i t).1 G):=by
 have I:=g.inv
 have I':=Ld I hi hb
 have V:=Ru I (a0y I) hi hb
 have htm:=List.mem_of_getElem? hi
 have F:=I.fi t htm hb
 have hM':OkC (stepT w.m i t).1:=I'.okc
 have hkc:=Mc w.m i t
 refine⟨I',by simpa [Qn] using g.len,fun j u H hj hG hb' hk=>?_,fun j u H hj hG hb' hk=>?_,fun j u H hj hG hb' hk=>?_⟩
 ·obtain⟨H0,h0,rfl⟩:=Gq hG
  rcases Eb hj with ⟨rfl,rfl,hl⟩|⟨hji,hj'⟩
  ·have hk':t.f.c.kind=1:=by rw[<- hkc];exact hk
   have L:=g.look j t H0 hi h0 hb hk'
   have e:stepT w.m j t=(lkM w.m t.f,Jd w.m t):=by unfold stepT;rw[if_pos hk']
   rw[e] at hb' hM' V ⊢
   have hd:(lkF w.m t.f).done=false:=by
    have:(!(lkF w.m t.f).done)=true:=hb'
    simpa using this
   obtain⟨⟨s1,s2,s3⟩,_⟩:=F.look hk'
   exact li_own L I.okc hM' V F.fit hk' s1 s3 hd
  ·exact U7 I hj' hb' hk hM' V (g.look j u H0 hj' h0 hb' hk)
 ·obtain⟨H0,h0,rfl⟩:=Gq hG
  rcases Eb hj with ⟨rfl,rfl,hl⟩|⟨hji,hj'⟩
  ·have hk':t.f.c.kind=2:=by rw[<- hkc];exact hk
   obtain⟨⟨H1,rfl⟩,A⟩:=g.add j t H0 hi h0 hb hk'
   have e:stepT w.m j t=(adM j w.m t.f,Am (adF w.m t.f) t):=by unfold stepT;rw[if_neg (by omega),if_pos hk']
   rw[e]
   exact⟨⟨_,rfl⟩,ai_own I hi hb hk' A⟩
  ·exact⟨⟨H0,rfl⟩,(g.add j u H0 hj' h0 hb' hk).2.grow _⟩
 ·obtain⟨H0,h0,rfl⟩:=Gq hG
  rcases Eb hj with ⟨rfl,rfl,hl⟩|⟨hji,hj'⟩
  ·have hk':t.f.c.kind=3:=by rw[<- hkc];exact hk
   obtain⟨⟨H1,rfl⟩,A⟩:=g.drop j t H0 hi h0 hb hk'
   have e:stepT w.m j t=(drM j w.m t.f,Am (drF w.m t.f) t):=by unfold stepT;rw[if_neg (by omega),if_neg (by omega),if_pos hk']
   rw[e]
   exact⟨⟨_,rfl⟩,di_own I hi hb hk' A⟩
  ·exact⟨⟨H0,rfl⟩,(g.drop j u H0 hj' h0 hb' hk).2.grow _⟩
theorem look_wit{H:List Mm}(g:GInv w G)(hi:w.ts[i]?=some t)(hG:G[i]?=some H)(hb:t.busy=true)(hk:t.f.c.kind=1)(hd:(lkF w.m t.f).done=true) :
  ((lkF w.m t.f).e=0/\∃ v∈H,(lkF w.m t.f).slot∈allC v/\keyAt v (lkF w.m t.f).slot=Key t.f/\v.now<(A7 v (lkF w.m t.f).slot).unt)\/((lkF w.m t.f).e=5/\∃ v∈H,¬ live v (Key t.f)):=by
 have F:=g.inv.fi t (List.mem_of_getElem? hi) hb
 obtain⟨⟨s1,s2,s3⟩,_⟩:=F.look hk
 exact li_end (g.look i t H hi hG hb hk) g.inv.okc F.fit hk s1 s3 hd
theorem add_wit{H:List Mm}(g:GInv w G)(hi:w.ts[i]?=some t)(hG:G[i]?=some H)(hb:t.busy=true)(hk:t.f.c.kind=2)(hd:(adF w.m t.f).done=true) :
  (adF w.m t.f).e=7\/((adF w.m t.f).e=6/\∃ v∈H,mapK v (Key t.f))\/((adF w.m t.f).e=0/\∃ v v',Adj H v v'/\¬ mapK v (Key t.f)/\(adF w.m t.f).slot∈allC v'/\keyAt v' (adF w.m t.f).slot=Key t.f):=by
 have F:=g.inv.fi t (List.mem_of_getElem? hi) hb
 have hfd:=F.fit.done
 obtain⟨a1,a2,a3,a4,a5,a6,a7⟩:=F.add hk
 have A:=(g.add i t H hi hG hb hk).2
 have hpl:=F.fit.pl
 by_cases p:t.f.pl=7
 ·rw[adF7 p]
  rcases a7 p with ⟨h,_⟩|⟨h,_⟩
  ·exact .inr (.inr ⟨h,A.ok p h⟩)
  ·exact .inr (.inl ⟨h,A.twice (.inr ⟨p,h⟩)⟩)
 ·left
  revert hd
  unfold adF Hw Jr Nu Ip Io Nr
  repeat' split
  all_goals intro hd
  all_goals first
   | rfl
   | omega
   | (exfalso;have hd':t.f.done=true:=hd;rw[hfd] at hd';cases hd')
theorem drop_wit{H:List Mm}(g:GInv w G)(hi:w.ts[i]?=some t)(hG:G[i]?=some H)(hb:t.busy=true)(hk:t.f.c.kind=3)(hd:(drF w.m t.f).done=true) :
  ((drF w.m t.f).e=5/\∃ v∈H,¬ mapK v (Key t.f))\/((drF w.m t.f).e=0/\∃ v v',Adj H v v'/\mapK v (Key t.f)/\¬ mapK v' (Key t.f)):=by
 have F:=g.inv.fi t (List.mem_of_getElem? hi) hb
 have hfd:=F.fit.done
 obtain⟨a1,a2,a3,a4,a5,a6⟩:=F.drop hk
 have A:=(g.drop i t H hi hG hb hk).2
 by_cases p:t.f.pl=6
 ·rw[drF6 p]
  rcases a6 (by omega) with ⟨h,_⟩|⟨h,_⟩
  ·exact .inl ⟨h,A.who (by omega) h⟩
  ·exact .inr ⟨h,A.ok (by omega) h⟩
 ·exfalso
  revert hd
  unfold drF En Kt I4 Nh
  repeat' split
  all_goals intro hd
  all_goals first
   | omega
   | (have hd':t.f.done=true:=hd;rw[hfd] at hd';cases hd')
end
end
section
structure Pst where
 task:Int
 c:Cl
 fro:Nat
 to:Nat
 e:Int
 slot:Int
 n:Int
 keys:List (Int × Int)
def Kw(w:Wd)(x:Pk):Wd:=if doE w x=0 then doW w x else w
theorem Y9(w:Wd)(x:Pk)(l:List Pk):runW w (x :: l)=runW (Kw w x) l:=rfl
theorem a1h:∀ (l l':List Pk) (w:Wd),runW w (l++l')=runW (runW w l) l'
 | [],_,_=>rfl
 | x :: l,l',w=>by rw[List.cons_append,Y9,Y9,a1h l l']
theorem Ya{l:List Pk}{n:Nat}(h:n<l.length)(w:Wd):runW w (l.take (n+1))=Kw (runW w (l.take n)) l[n]:=by
 rw[List.take_succ_eq_append_getElem h,a1h]
 rfl
def Kd (w : Wd) (x : Pk) : Prop :=
  (x.tick=true ∧ w.m.now≠1000000 ∧ doW w x=⟨{ w.m with now:=w.m.now+1 },w.ts⟩) ∨
  (x.tick=false ∧ x.step=true ∧ (0<=x.task/\x.task<w.ts.length) ∧ w.ts[x.task.toNat]?=some (tkAt w x) ∧ (tkAt w x).busy=true ∧ doW w x=⟨(stepT w.m x.task.toNat (tkAt w x)).1,w.ts.set x.task.toNat (stepT w.m x.task.toNat (tkAt w x)).2⟩) ∨
  (x.tick=false ∧ x.step=false ∧ (0<=x.task/\x.task<w.ts.length) ∧ w.ts[x.task.toNat]?=some (tkAt w x) ∧ (tkAt w x).busy=false ∧ Dw w.m.slots.length w.m.heads.length x.c=0 ∧ (x.c.kind=1->(tkAt w x).held.length≠100) ∧ (x.c.kind=6->x.c.slot∈(tkAt w x).held) ∧ doW w x=⟨w.m,w.ts.set x.task.toNat ⟨true,newF x.c,(tkAt w x).held⟩⟩)
theorem Kd.tick {w : Wd} {x : Pk} (h:x.tick=true) (hn:w.m.now≠1000000) (e:doW w x=⟨{ w.m with now:=w.m.now+1 },w.ts⟩) : Kd w x := .inl ⟨h,hn,e⟩
theorem Kd.step {w : Wd} {x : Pk} (h:x.tick=false) (hs:x.step=true) (hr:0<=x.task/\x.task<w.ts.length) (hi:w.ts[x.task.toNat]?=some (tkAt w x)) (hb:(tkAt w x).busy=true) (e:doW w x=⟨(stepT w.m x.task.toNat (tkAt w x)).1,w.ts.set x.task.toNat (stepT w.m x.task.toNat (tkAt w x)).2⟩) : Kd w x := .inr (.inl ⟨h,hs,hr,hi,hb,e⟩)
theorem Kd.begin {w : Wd} {x : Pk} (h:x.tick=false) (hs:x.step=false) (hr:0<=x.task/\x.task<w.ts.length) (hi:w.ts[x.task.toNat]?=some (tkAt w x)) (hb:(tkAt w x).busy=false) (hc:Dw w.m.slots.length w.m.heads.length x.c=0) (h1:x.c.kind=1->(tkAt w x).held.length≠100) (h6:x.c.kind=6->x.c.slot∈(tkAt w x).held) (e:doW w x=⟨w.m,w.ts.set x.task.toNat ⟨true,newF x.c,(tkAt w x).held⟩⟩) : Kd w x := .inr (.inr ⟨h,hs,hr,hi,hb,hc,h1,h6,e⟩)
theorem Kd.rule {w : Wd} {x : Pk} {motive : Kd w x -> Prop} (tick : ∀ (h:x.tick=true) (hn:w.m.now≠1000000) (e:doW w x=⟨{ w.m with now:=w.m.now+1 },w.ts⟩),motive (Kd.tick h hn e)) (step : ∀ (h:x.tick=false) (hs:x.step=true) (hr:0<=x.task/\x.task<w.ts.length) (hi:w.ts[x.task.toNat]?=some (tkAt w x)) (hb:(tkAt w x).busy=true) (e:doW w x=⟨(stepT w.m x.task.toNat (tkAt w x)).1,w.ts.set x.task.toNat (stepT w.m x.task.toNat (tkAt w x)).2⟩),motive (Kd.step h hs hr hi hb e)) (begin : ∀ (h:x.tick=false) (hs:x.step=false) (hr:0<=x.task/\x.task<w.ts.length) (hi:w.ts[x.task.toNat]?=some (tkAt w x)) (hb:(tkAt w x).busy=false) (hc:Dw w.m.slots.length w.m.heads.length x.c=0) (h1:x.c.kind=1->(tkAt w x).held.length≠100) (h6:x.c.kind=6->x.c.slot∈(tkAt w x).held) (e:doW w x=⟨w.m,w.ts.set x.task.toNat ⟨true,newF x.c,(tkAt w x).held⟩⟩),motive (Kd.begin h hs hr hi hb hc h1 h6 e)) (k : Kd w x) : motive k := by
  rcases k with ⟨h,hn,e⟩ | ⟨h,hs,hr,hi,hb,e⟩ | ⟨h,hs,hr,hi,hb,hc,h1,h6,e⟩
  · exact tick h hn e
  · exact step h hs hr hi hb e
  · exact begin h hs hr hi hb hc h1 h6 e
theorem Y6{w:Wd}{x:Pk}(h:doE w x=0):Kd w x:=by
 unfold doE at h
 by_cases ht:x.tick=true
 ·rw[if_pos ht] at h
  by_cases hn:w.m.now=1000000
  ·rw[if_pos hn] at h;omega
  ·exact .tick ht hn (by unfold doW;rw[if_pos ht])
 rw[if_neg ht] at h
 have ht':x.tick=false:=by simpa using ht
 by_cases hr:0<=x.task/\x.task<w.ts.length
 ·rw[if_neg (by simpa using hr)] at h
  have hi:w.ts[x.task.toNat]?=some (tkAt w x):=by
   unfold tkAt
   have:x.task.toNat<w.ts.length:=by omega
   rw[List.getD_eq_getElem?_getD,List.getElem?_eq_getElem this]
   rfl
  by_cases hs:x.step=true
  ·rw[if_pos hs] at h
   by_cases hb:(tkAt w x).busy=true
   ·exact .step ht' hs hr hi hb (by unfold doW;rw[if_neg ht,if_pos hs])
   ·rw[if_neg hb] at h;omega
  ·rw[if_neg hs] at h
   unfold Un at h
   by_cases hb:(tkAt w x).busy=true
   ·rw[if_pos hb] at h;omega
   rw[if_neg hb] at h
   by_cases hc:Dw w.m.slots.length w.m.heads.length x.c=0
   ·rw[if_neg (by simpa using hc)] at h
    by_cases h1:x.c.kind=1/\(tkAt w x).held.length=100
    ·rw[if_pos h1] at h;omega
    rw[if_neg h1] at h
    by_cases h6:x.c.kind=6/\x.c.slot ∉ (tkAt w x).held
    ·rw[if_pos h6] at h;omega
    refine .begin ht' (by simpa using hs) hr hi (by simpa using hb) hc (fun h=>fun e=>h1 ⟨h,e⟩) (fun h=>?_) (by unfold doW;rw[if_neg ht,if_neg hs])
    by_cases hm:x.c.slot∈(tkAt w x).held
    ·exact hm
    ·exact(h6 ⟨h,hm⟩).elim
   ·rw[if_pos hc] at h;exact(hc h).elim
 ·rw[if_pos (by simpa using hr)] at h;omega
structure Rs where
 w:Wd
 said:List Int
 past:List Pst
 beg:List Nat
def overP(n:Nat)(x:Pk)(b:Nat)(t:Tk):Pst:=⟨x.task,t.f.c,b,n,t.f.e,t.f.slot,t.f.n,t.f.keys⟩
def Gy(n:Nat)(s:Rs)(x:Pk):Rs :=
 if doE s.w x=0 then
  (if x.tick then ⟨doW s.w x,s.said ++ [0],s.past,s.beg⟩
   else if x.step then
    (if ((doW s.w x).ts.getD x.task.toNat idle).busy then ⟨doW s.w x,s.said ++ [0],s.past,s.beg⟩
    else ⟨doW s.w x,s.said ++ [0],s.past ++ [overP n x (s.beg.getD x.task.toNat 0) ((doW s.w x).ts.getD x.task.toNat idle)],s.beg⟩)
   else ⟨doW s.w x,s.said ++ [0],s.past,s.beg.set x.task.toNat n⟩)
 else ⟨s.w,s.said ++ [doE s.w x],s.past,s.beg⟩
def runR:Nat->Rs->List Pk->Rs
 | _,s,[]=>s
 | n,s,x :: l=>runR (n+1) (Gy n s x) l
def rs0(w:Wd):Rs:=⟨w,[],[],List.replicate w.ts.length 0⟩
theorem stepR_w(n:Nat)(s:Rs)(x:Pk):(Gy n s x).w=Kw s.w x:=by
 unfold Gy Kw
 by_cases h:doE s.w x=0
 ·rw[if_pos h,if_pos h]
  repeat' split
  all_goals rfl
 ·rw[if_neg h,if_neg h]
structure Ix(m:Nat->Mm)(n b:Nat)(H:List Mm):Prop where
 lt:b<n
 head:∃ q,H=m n :: q
 all:∀ v∈H,∃ j,b<=j/\j<n/\v=m (j+1)
 adj:∀ v v',Adj H v v'->∃ j,b<=j/\j<n/\v=m j/\v'=m (j+1)
theorem Ix.rest{m:Nat->Mm}{n b:Nat}{H:List Mm}(h:Ix m n b H)(e:m (n+1)=m n):Ix m (n+1) b H:=by
 obtain⟨h1,⟨q,h2⟩,h3,h4⟩:=h
 refine⟨by omega,⟨q,by rw[e];exact h2⟩,fun v hv=>?_,fun v v' hv=>?_⟩
 ·obtain⟨j,a,b,c⟩:=h3 v hv;exact⟨j,a,by omega,c⟩
 ·obtain⟨j,a,b,c⟩:=h4 v v' hv;exact⟨j,a,by omega,c⟩
theorem Ix.grow{m:Nat->Mm}{n b:Nat}{H:List Mm}(h:Ix m n b H):Ix m (n+1) b (m (n+1) :: H):=by
 obtain⟨h1,⟨q,rfl⟩,h3,h4⟩:=h
 refine⟨by omega,⟨_,rfl⟩,fun v hv=>?_,fun v v' hv=>?_⟩
 ·rcases List.mem_cons.1 hv with rfl|hv
  ·exact⟨n,by omega,by omega,rfl⟩
  ·obtain⟨j,a,b,c⟩:=h3 v hv;exact⟨j,a,by omega,c⟩
 ·obtain⟨p,q',e⟩:=hv
  cases p with
  | nil =>
   rw[List.nil_append] at e
   injection e with e1 e2
   injection e2 with e2 e3
   exact⟨n,by omega,by omega,e2.symm,e1.symm⟩
  | cons y p =>
   rw[List.cons_append] at e
   injection e with e1 e2
   obtain⟨j,a,b,c⟩:=h4 v v' ⟨p,q',e2⟩
   exact⟨j,a,by omega,c⟩
theorem Ix.start{m:Nat->Mm}{n:Nat}(v:Mm)(e:v=m (n+1)):Ix m (n+1) n [v]:=by
 subst e
 refine⟨by omega,⟨[],rfl⟩,fun v hv=>?_,fun v v' hv=>?_⟩
 ·rw[List.mem_singleton] at hv;exact⟨n,by omega,by omega,hv⟩
 ·obtain⟨p,q,e⟩:=hv
  have:=congrArg List.length e
  simp at this
  omega
def ofK(l:List Fl)(a b:Int):Option Fl:=l.find? (fun f=>f.a==a && f.b==b)
def lives:Option Fl->Int->Bool
 | some f,t=>decide (t<f.unt)
 | none,_=>false
def Na:Option Fl->Int->Bool
 | some f,s=>f.slot==s
 | none,_=>false
def accF(p:Pst)(x:Option Fl)(tx:Int)(y:Option Fl)(ty:Int):Bool :=
 if p.c.kind=1/\p.e=0 then (lives x tx && Na x p.slot) || (lives y ty && Na y p.slot)
 else if p.c.kind=1 then !lives x tx || !lives y ty
 else if p.c.kind=2/\p.e=0 then x.isNone && Na y p.slot
 else if p.c.kind=2/\p.e=6 then x.isSome || y.isSome
 else if p.c.kind=3/\p.e=0 then x.isSome && (y.isNone || !(match x,y with|some f,some g=>f.slot==g.slot|_,_=>false))
 else if p.c.kind=3 then x.isNone || y.isNone
 else true
def accM(p:Pst)(m m':Mm):Bool:=accF p (ofK (Bj m) p.c.a p.c.b) m.now (ofK (Bj m') p.c.a p.c.b) m'.now
theorem Og{m:Mm}(hM:OkC m){x:Int}(hx:x∈allC m){a b:Int}(hk:keyAt m x=(a,b)):ofK (Bj m) a b=some (D8 m x):=by
 have hp:∀ y,((D8 m y).a==a && (D8 m y).b==b)=true ↔ keyAt m y=(a,b):=fun y=>by
  simp only[D8,keyAt,Bool.and_eq_true,beq_iff_eq,Prod.mk.injEq]
 cases h:ofK (Bj m) a b with
 | none =>
  exfalso
  have:=List.find?_eq_none.1 h (D8 m x) (List.mem_map_of_mem hx)
  exact this ((hp x).2 hk)
 | some f =>
  have h1:=List.find?_some h
  have h2:=List.mem_of_find?_eq_some h
  obtain⟨y,hy,rfl⟩:=List.mem_map.1 h2
  rw[Pq hM hy hx (((hp y).1 h1).trans hk.symm)]
theorem Rk{m:Mm}{a b:Int}(h:¬ mapK m (a,b)):ofK (Bj m) a b=none:=by
 rw[ofK,List.find?_eq_none]
 intro f hf hp
 obtain⟨y,hy,rfl⟩:=List.mem_map.1 hf
 refine h ⟨y,hy,?_⟩
 simpa only[D8,keyAt,Bool.and_eq_true,beq_iff_eq,Prod.mk.injEq] using hp
theorem ofK_live{m:Mm}(hM:OkC m){a b:Int}(h:¬ live m (a,b)):lives (ofK (Bj m) a b) m.now=false:=by
 by_cases hm:mapK m (a,b)
 ·obtain⟨x,hx,hk⟩:=hm
  rw[Og hM hx hk]
  unfold lives
  rw[decide_eq_false_iff_not]
  exact fun hl=>h ⟨x,hx,hk,hl⟩
 ·rw[Rk hm];rfl
structure SI(w0:Wd)(l:List Pk)(n:Nat)(s:Rs)(G:List (List Mm)):Prop where
 w:s.w=runW w0 (l.take n)
 g:GInv s.w G
 bl:s.beg.length=s.w.ts.length
 ix:∀ (i:Nat) t H b,s.w.ts[i]?=some t->t.busy=true->G[i]?=some H->s.beg[i]?=some b->Ix (fun j=>(runW w0 (l.take j)).m) n b H
 past:∀ p∈s.past,p.fro<=p.to/\p.to<n/\∃ j,p.fro<=j/\j<=p.to/\accM p (runW w0 (l.take j)).m (runW w0 (l.take (j+1))).m=true
theorem okc_at{w0:Wd}(I:WInv w0)(l:List Pk)(j:Nat):OkC (runW w0 (l.take j)).m:=(X6 _ I).okc
theorem si_step{w0:Wd}(I0:WInv w0){l:List Pk}{n:Nat}(hn:n<l.length){s:Rs}{G:List (List Mm)}(S:SI w0 l n s G):∃ G',SI w0 l (n+1) (Gy n s l[n]) G':=by
 have hw:runW w0 (l.take (n+1))=Kw s.w l[n]:=by rw[Ya hn,S.w]
 have hlt:∀ p∈s.past,p.fro<=p.to/\p.to<n+1/\∃ j,p.fro<=j/\j<=p.to/\accM p (runW w0 (l.take j)).m (runW w0 (l.take (j+1))).m=true:=fun p hp=>by
  obtain⟨a,b,c⟩:=S.past p hp
  exact⟨a,by omega,c⟩
 generalize l[n]=x at hw ⊢
 by_cases hE:doE s.w x=0
 ·have hw1:runW w0 (l.take (n+1))=doW s.w x:=by rw[hw];unfold Kw;rw[if_pos hE]
  cases Y6 hE using Kd.rule with
  | tick h hnow e =>
   have est:Gy n s x=⟨doW s.w x,s.said ++ [0],s.past,s.beg⟩:=by unfold Gy;rw[if_pos hE,if_pos h]
   rw[est]
   have g':=g_tick S.g (by have:=S.g.inv.okc.ok.now;omega)
   rw[<- show doW s.w x=_ from e] at g'
   refine⟨_,hw1.symm,g',by show s.beg.length=(doW s.w x).ts.length;rw[e];exact S.bl,fun i t H b hi hb hG hbg=>?_,hlt⟩
   obtain⟨H0,h0,rfl⟩:=Gq hG
   have hi':s.w.ts[i]?=some t:=by have h2:(doW s.w x).ts[i]?=some t:=hi;rwa [e] at h2
   have:=(S.ix i t H0 b hi' hb h0 hbg).grow
   rwa [show (runW w0 (l.take (n+1))).m = { s.w.m with now:=s.w.m.now+1 } by rw[hw1,e]] at this
  | begin h hs hr hi hb hc h1 h6 e =>
   have est:Gy n s x=⟨doW s.w x,s.said ++ [0],s.past,s.beg.set x.task.toNat n⟩:=by unfold Gy;rw[if_pos hE,if_neg (by simp[h]),if_neg (by simp[hs])]
   rw[est]
   have g':=g_begin S.g hi hb hc h1 h6
   rw[<- show doW s.w x=_ from e] at g'
   have em:(runW w0 (l.take (n+1))).m=s.w.m:=by rw[hw1,e]
   have em':(runW w0 (l.take n)).m=s.w.m:=by rw[S.w]
   refine⟨_,hw1.symm,g',by show (s.beg.set _ n).length=(doW s.w x).ts.length;rw[e,List.length_set,List.length_set];exact S.bl,fun i t H b hi' hb' hG hbg=>?_,hlt⟩
   have hi2:(s.w.ts.set x.task.toNat ⟨true,newF x.c,(tkAt s.w x).held⟩)[i]?=some t:=by have h2:(doW s.w x).ts[i]?=some t:=hi';rwa [e] at h2
   have hbg2:(s.beg.set x.task.toNat n)[i]?=some b:=hbg
   rcases Eb hi2 with ⟨rfl,rfl,hl⟩|⟨hji,hj'⟩
   ·rw[List.getElem?_set_self (by simp[Qn];rw[S.g.len];exact hl)] at hG
    rw[List.getElem?_set_self (by rw[S.bl];exact hl)] at hbg2
    injection hG with hG
    injection hbg2 with hbg2
    subst hG hbg2
    exact Ix.start _ em.symm
   ·rw[List.getElem?_set_ne (fun h=>hji h.symm)] at hG hbg2
    obtain⟨H0,h0,rfl⟩:=Gq hG
    have:=(S.ix i t H0 b hj' hb' h0 hbg2).grow
    rwa [em] at this
  | step h hs hr hi hb e =>
   have g':=g_step S.g hi hb
   have em:(runW w0 (l.take (n+1))).m=(stepT s.w.m x.task.toNat (tkAt s.w x)).1:=by rw[hw1,e]
   rw[<- show doW s.w x=_ from e] at g'
   have hil:x.task.toNat<s.w.ts.length:=by omega
   have hnew:(doW s.w x).ts.getD x.task.toNat idle=(stepT s.w.m x.task.toNat (tkAt s.w x)).2:=by
    rw[e,List.getD_eq_getElem?_getD,List.getElem?_set_self hil];rfl
   obtain⟨H,hH⟩:∃ H,G[x.task.toNat]?=some H:=⟨_,List.getElem?_eq_getElem (by rw[S.g.len];exact hil)⟩
   obtain⟨b,hbg⟩:∃ b,s.beg[x.task.toNat]?=some b:=⟨_,List.getElem?_eq_getElem (by rw[S.bl];exact hil)⟩
   have X:=S.ix _ _ H b hi hb hH hbg
   have hix:∀ (i:Nat) t H b,(doW s.w x).ts[i]?=some t->t.busy=true->(Qn (stepT s.w.m x.task.toNat (tkAt s.w x)).1 G)[i]?=some H->s.beg[i]?=some b->Ix (fun j=>(runW w0 (l.take j)).m) (n+1) b H:=fun i t H' b' hi' hb' hG hbg'=>by
    obtain⟨H0,h0,rfl⟩:=Gq hG
    have hi2:(s.w.ts.set x.task.toNat (stepT s.w.m x.task.toNat (tkAt s.w x)).2)[i]?=some t:=by rwa [e] at hi'
    have key:Ix (fun j=>(runW w0 (l.take j)).m) n b' H0:=by
     rcases Eb hi2 with ⟨rfl,rfl,hl⟩|⟨hji,hj'⟩
     ·exact S.ix _ _ H0 b' hi hb h0 hbg'
     ·exact S.ix i t H0 b' hj' hb' h0 hbg'
    have:=key.grow
    rwa [em] at this
   have hbl:s.beg.length=(doW s.w x).ts.length:=by rw[e,List.length_set];exact S.bl
   by_cases hbz:((doW s.w x).ts.getD x.task.toNat idle).busy=true
   ·have est:Gy n s x=⟨doW s.w x,s.said ++ [0],s.past,s.beg⟩:=by unfold Gy;rw[if_pos hE,if_neg (by simp[h]),if_pos hs,if_pos hbz]
    rw[est]
    exact⟨_,hw1.symm,g',hbl,hix,hlt⟩
   ·have est:Gy n s x=⟨doW s.w x,s.said ++ [0],s.past ++ [overP n x (s.beg.getD x.task.toNat 0) ((doW s.w x).ts.getD x.task.toNat idle)],s.beg⟩:=by unfold Gy;rw[if_pos hE,if_neg (by simp[h]),if_pos hs,if_neg hbz]
    rw[est]
    refine⟨_,hw1.symm,g',hbl,hix,fun p hp=>?_⟩
    rcases List.mem_append.1 hp with hp|hp
    ·exact hlt p hp
    rw[List.mem_singleton] at hp
    have hbv:s.beg.getD x.task.toNat 0=b:=by rw[List.getD_eq_getElem?_getD,hbg];rfl
    rw[hbv,hnew] at hp
    have hbz':(stepT s.w.m x.task.toNat (tkAt s.w x)).2.busy=false:=by rw[hnew] at hbz;simpa using hbz
    have ok:∀ j,OkC (runW w0 (l.take j)).m:=fun j=>okc_at I0 l j
    have hto:p.to=n/\p.fro=b:=by rw[hp];exact⟨rfl,rfl⟩
    have hx:=X.lt
    refine⟨by omega,by omega,?_⟩
    rw[hto.1,hto.2]
    have F:=S.g.inv.fi _ (List.mem_of_getElem? hi) hb
    have hk:=F.kind
    have hc:p.c=(tkAt s.w x).f.c:=by rw[hp];exact Mc _ _ _
    by_cases k1:(tkAt s.w x).f.c.kind=1
    ·have es:stepT s.w.m x.task.toNat (tkAt s.w x)=(lkM s.w.m (tkAt s.w x).f,Jd s.w.m (tkAt s.w x)):=by unfold stepT;rw[if_pos k1]
     rw[es] at hp hbz'
     have hd:(lkF s.w.m (tkAt s.w x).f).done=true:=by
      have:(!(lkF s.w.m (tkAt s.w x).f).done)=false:=hbz'
      simpa using this
     have hpe:p.e=(lkF s.w.m (tkAt s.w x).f).e:=by rw[hp];rfl
     have hps:p.slot=(lkF s.w.m (tkAt s.w x).f).slot:=by rw[hp];rfl
     rcases look_wit S.g hi hH hb k1 hd with ⟨he,v,hv,hm,hkk,hu⟩|⟨he,v,hv,hl⟩
     ·obtain⟨j,j1,j2,rfl⟩:=X.all v hv
      refine⟨j,j1,by omega,?_⟩
      unfold accM accF
      rw[if_pos ⟨by rw[hc];exact k1,by rw[hpe];exact he⟩,hc,Og (ok (j+1)) hm hkk]
      have e1:lives (some (D8 (runW w0 (l.take (j+1))).m (lkF s.w.m (tkAt s.w x).f).slot)) (runW w0 (l.take (j+1))).m.now=true:=by
       unfold lives
       rw[decide_eq_true_iff]
       exact hu
      have e2:Na (some (D8 (runW w0 (l.take (j+1))).m (lkF s.w.m (tkAt s.w x).f).slot)) p.slot=true:=by
       unfold Na
       rw[beq_iff_eq,hps]
       rfl
      rw[e1,e2]
      simp
     ·obtain⟨j,j1,j2,rfl⟩:=X.all v hv
      refine⟨j,j1,by omega,?_⟩
      unfold accM accF
      rw[if_neg (by rw[hpe,he];omega),if_pos (by rw[hc];exact k1),hc]
      have:=ofK_live (ok (j+1)) (a:=(tkAt s.w x).f.c.a) (b:=(tkAt s.w x).f.c.b) hl
      rw[this]
      simp
    by_cases k2:(tkAt s.w x).f.c.kind=2
    ·have es:stepT s.w.m x.task.toNat (tkAt s.w x)=(adM x.task.toNat s.w.m (tkAt s.w x).f,Am (adF s.w.m (tkAt s.w x).f) (tkAt s.w x)):=by unfold stepT;rw[if_neg k1,if_pos k2]
     rw[es] at hp hbz'
     have hd:(adF s.w.m (tkAt s.w x).f).done=true:=by
      have:(!(adF s.w.m (tkAt s.w x).f).done)=false:=hbz'
      simpa using this
     have hpe:p.e=(adF s.w.m (tkAt s.w x).f).e:=by rw[hp];rfl
     have hps:p.slot=(adF s.w.m (tkAt s.w x).f).slot:=by rw[hp];rfl
     have hk2:p.c.kind=2:=by rw[hc];exact k2
     rcases add_wit S.g hi hH hb k2 hd with he|⟨he,v,hv,hm⟩|⟨he,v,v',hv,hm,hs',hkk⟩
     ·refine⟨b,by omega,by omega,?_⟩
      unfold accM accF
      rw[if_neg (by omega),if_neg (by omega),if_neg (by rw[hpe,he];omega),if_neg (by rw[hpe,he];omega),if_neg (by omega),if_neg (by omega)]
     ·obtain⟨j,j1,j2,rfl⟩:=X.all v hv
      obtain⟨y,hy,hyk⟩:=hm
      refine⟨j,j1,by omega,?_⟩
      unfold accM accF
      rw[if_neg (by omega),if_neg (by omega),if_neg (by rw[hpe,he];omega),if_pos ⟨hk2,by rw[hpe];exact he⟩,hc,Og (ok (j+1)) hy hyk]
      simp
     ·obtain⟨j,j1,j2,rfl,rfl⟩:=X.adj v v' hv
      refine⟨j,j1,by omega,?_⟩
      unfold accM accF
      rw[if_neg (by omega),if_neg (by omega),if_pos ⟨hk2,by rw[hpe];exact he⟩,hc,Og (ok (j+1)) hs' hkk,Rk hm]
      have e2:Na (some (D8 (runW w0 (l.take (j+1))).m (adF s.w.m (tkAt s.w x).f).slot)) p.slot=true:=by
       unfold Na
       rw[beq_iff_eq,hps]
       rfl
      rw[e2]
      rfl
    by_cases k3:(tkAt s.w x).f.c.kind=3
    ·have es:stepT s.w.m x.task.toNat (tkAt s.w x)=(drM x.task.toNat s.w.m (tkAt s.w x).f,Am (drF s.w.m (tkAt s.w x).f) (tkAt s.w x)):=by unfold stepT;rw[if_neg k1,if_neg k2,if_pos k3]
     rw[es] at hp hbz'
     have hd:(drF s.w.m (tkAt s.w x).f).done=true:=by
      have:(!(drF s.w.m (tkAt s.w x).f).done)=false:=hbz'
      simpa using this
     have hpe:p.e=(drF s.w.m (tkAt s.w x).f).e:=by rw[hp];rfl
     have hk3:p.c.kind=3:=by rw[hc];exact k3
     rcases drop_wit S.g hi hH hb k3 hd with ⟨he,v,hv,hm⟩|⟨he,v,v',hv,hm,hm'⟩
     ·obtain⟨j,j1,j2,rfl⟩:=X.all v hv
      refine⟨j,j1,by omega,?_⟩
      unfold accM accF
      rw[if_neg (by omega),if_neg (by omega),if_neg (by omega),if_neg (by omega),if_neg (by rw[hpe,he];omega),if_pos hk3,hc,Rk (m:=(runW w0 (l.take (j+1))).m) hm]
      simp
     ·obtain⟨j,j1,j2,rfl,rfl⟩:=X.adj v v' hv
      obtain⟨y,hy,hyk⟩:=hm
      refine⟨j,j1,by omega,?_⟩
      unfold accM accF
      rw[if_neg (by omega),if_neg (by omega),if_neg (by omega),if_neg (by omega),if_pos ⟨hk3,by rw[hpe];exact he⟩,hc,Og (ok j) hy hyk,Rk (m:=(runW w0 (l.take (j+1))).m) hm']
      rfl
    ·refine⟨b,by omega,by omega,?_⟩
     unfold accM accF
     rw[if_neg (by rw[hc];omega),if_neg (by rw[hc];omega),if_neg (by rw[hc];omega),if_neg (by rw[hc];omega),if_neg (by rw[hc];omega),if_neg (by rw[hc];omega)]
 ·have hw1:runW w0 (l.take (n+1))=s.w:=by rw[hw];unfold Kw;rw[if_neg hE]
  have est:Gy n s x=⟨s.w,s.said ++ [doE s.w x],s.past,s.beg⟩:=by unfold Gy;rw[if_neg hE]
  rw[est]
  refine⟨G,hw1.symm,S.g,S.bl,fun i t H b hi hb hG hbg=>(S.ix i t H b hi hb hG hbg).rest ?_,hlt⟩
  show (runW w0 (l.take (n+1))).m=(runW w0 (l.take n)).m
  rw[hw1,S.w]
theorem si_run{w0:Wd}(I0:WInv w0){l:List Pk}:∀ (k n:Nat) (s:Rs) (G:List (List Mm)),n+k=l.length->SI w0 l n s G->∃ G',SI w0 l l.length (runR n s (l.drop n)) G'
 | 0,n,s,G,hk,S=>by
  obtain rfl:n=l.length:=by omega
  rw[List.drop_length]
  exact⟨G,S⟩
 | k+1,n,s,G,hk,S=>by
  have hn:n<l.length:=by omega
  obtain⟨G',S'⟩:=si_step I0 hn S
  rw[List.drop_eq_getElem_cons hn]
  exact si_run I0 k (n+1) _ G' (by omega) S'
theorem si_zero{w0:Wd}(I0:WInv w0)(hb:∀ t∈w0.ts,t.busy=false)(l:List Pk):SI w0 l 0 (rs0 w0) (List.replicate w0.ts.length []):=by
 have nb:∀ {i:Nat} {t:Tk},w0.ts[i]?=some t->t.busy=true->False:=fun hi h=>by
  have:=hb _ (List.mem_of_getElem? hi)
  rw[h] at this
  cases this
 refine⟨rfl,⟨I0,by simp[rs0],(fun i t H hi _ h=>(nb hi h).elim),(fun i t H hi _ h=>(nb hi h).elim),(fun i t H hi _ h=>(nb hi h).elim)⟩,by simp[rs0],(fun i t H b hi h=>(nb hi h).elim),fun p hp=>by cases hp⟩
theorem Zi{w0:Wd}(I0:WInv w0)(hb:∀ t∈w0.ts,t.busy=false)(l:List Pk) :
  (runR 0 (rs0 w0) l).w=runW w0 l/\∀ p∈(runR 0 (rs0 w0) l).past,p.fro<=p.to/\p.to<l.length/\∃ j,p.fro<=j/\j<=p.to/\accM p (runW w0 (l.take j)).m (runW w0 (l.take (j+1))).m=true:=by
 obtain⟨G,S⟩:=si_run I0 l.length 0 (rs0 w0) _ (by omega) (si_zero I0 hb l)
 rw[List.drop_zero] at S
 have:=S.w
 rw[List.take_length] at this
 exact⟨this,S.past⟩
end
section
structure Acy(m:Mm)(S:List Int):Prop where
 nodup:S.Nodup
 all:∀ y,y∈S ↔ isSl m y=true/\y ∉ allC m
 down:∀ p y q,S=p++y :: q->0<nx m y->nx m y - 1∈allC m\/nx m y - 1∈p
theorem acy_new(many buckets:Nat):Acy (newM many buckets) ((List.range many).map fun (a:Nat)=>(a:Int)):=by
 have hs:(newM many buckets).slots.length=many:=by simp[newM]
 refine⟨?_,fun y=>?_,fun p y q e h=>?_⟩
 ·refine List.Pairwise.map _ (fun a b hab=>?_) List.nodup_range
  omega
 ·rw[Zb,Aq,hs,List.mem_map]
  constructor
  ·rintro ⟨j,hj,rfl⟩
   have:=List.mem_range.1 hj
   exact⟨⟨by omega,by omega⟩,by simp⟩
  ·rintro ⟨⟨h1,h2⟩,_⟩
   exact⟨y.toNat,List.mem_range.2 (by omega),by omega⟩
 ·have e0:nx (newM many buckets) y=0:=by
   show ((List.replicate many sl0).getD _ sl0).next=0
   rw[List.getD_eq_getElem?_getD,List.getElem?_replicate]
   split <;> rfl
  omega
theorem Tz{S:List Int}(hn:S.Nodup){s:Int}{p:List Int}{y:Int}{q:List Int}(e:S.erase s=p++y :: q):∃ p' q',S=p'++y :: q'/\∀ z∈p',z=s\/z∈p:=by
 by_cases hs:s∈S
 ·obtain⟨a,b,rfl⟩:=List.append_of_mem hs
  have hna:s ∉ a:=by
   rw[List.nodup_append] at hn
   exact fun h=>hn.2.2 s h s (by simp) rfl
  have he:(a++s :: b).erase s=a++b:=by
   rw[List.erase_append_right _ hna,List.erase_cons_head]
  rw[he] at e
  rcases List.append_eq_append_iff.1 e with ⟨c,h1,h2⟩|⟨c,h1,h2⟩
  · -- p=a++c,b=c++y :: q
   refine⟨a++s :: c,q,by rw[h2];simp,fun z hz=>?_⟩
   simp only[List.mem_append,List.mem_cons] at hz
   rcases hz with h|h|h
   ·exact .inr (by rw[h1];simp[h])
   ·exact .inl h
   ·exact .inr (by rw[h1];simp[h])
  · -- a=p++c,y :: q=c++b
   cases c with
   | nil =>
    simp only[List.nil_append] at h2
    refine⟨a ++ [s],q,by rw[<- h2];simp,fun z hz=>?_⟩
    simp only[List.mem_append,List.mem_singleton] at hz
    rcases hz with h|h
    ·exact .inr (by rw[h1] at h;simpa using h)
    ·exact .inl h
   | cons x c =>
    simp only[List.cons_append,List.cons.injEq] at h2
    refine⟨p,c++s :: b,by rw[h1,h2.1];simp,fun z hz=>.inr hz⟩
 ·rw[List.erase_of_not_mem hs] at e
  exact⟨p,q,e,fun z hz=>.inr hz⟩
theorem acy_mv{m m':Mm}{S:List Int}(A:Acy m S)(hM:OkC m)(hM':OkC m')(hn:m'.slots.length=m.slots.length)(V:Mv m m'):∃ S',Acy m' S':=by
 have hsl:∀ y,isSl m' y=isSl m y:=fun y=>by unfold isSl;rw[hn]
 rcases V with C|⟨s,c,C⟩|⟨c,l1,d,l2,C⟩
 ·have hA:∀ y,y∈allC m' ↔ y∈allC m:=fun y=>by
   rw[Ai,Ai]
   constructor
   ·rintro ⟨b,hb,h⟩;rw[C.nh] at hb;exact⟨b,hb,by rw[<- C.chs b hb];exact h⟩
   ·rintro ⟨b,hb,h⟩;exact⟨b,by rw[C.nh];exact hb,by rw[C.chs b hb];exact h⟩
  refine⟨S,A.nodup,fun y=>by rw[hsl,hA];exact A.all y,fun p y q e h=>?_⟩
  rw[C.next] at h ⊢
  rw[hA]
  exact A.down p y q e h
 ·have hA:∀ y,y∈allC m' ↔ y=s\/y∈allC m:=fun y=>by
   rw[Ai,Ai]
   constructor
   ·rintro ⟨b,hb,h⟩
    rw[C.nh] at hb
    by_cases e:b=c
    ·subst e;rw[C.at_] at h
     rcases List.mem_cons.1 h with h|h
     ·exact .inl h
     ·exact .inr ⟨b,hb,h⟩
    ·rw[C.else_ b hb e] at h;exact .inr ⟨b,hb,h⟩
   ·rintro (rfl|⟨b,hb,h⟩)
    ·exact⟨c,by rw[C.nh];exact C.lt,by rw[C.at_];simp⟩
    ·by_cases e:b=c
     ·subst e;exact⟨b,by rw[C.nh];exact hb,by rw[C.at_];simp[h]⟩
     ·exact⟨b,by rw[C.nh];exact hb,by rw[C.else_ b hb e];exact h⟩
  refine⟨S.erase s,A.nodup.erase s,fun y=>?_,fun p y q e h=>?_⟩
  ·rw[A.nodup.mem_erase_iff,A.all,hsl,hA]
   constructor
   ·rintro ⟨h1,h2,h3⟩;exact⟨h2,fun h=>h.elim h1 h3⟩
   ·rintro ⟨h1,h2⟩;exact⟨fun h=>h2 (.inl h),h1,fun h=>h2 (.inr h)⟩
  ·obtain⟨p',q',e',hp⟩:=Tz A.nodup e
   have hy:y∈S.erase s:=by rw[e];simp
   have hy1:=(A.nodup.mem_erase_iff).1 hy
   have hy2:=(A.all y).1 hy1.2
   have h0:=(Aq.1 hy2.1).1
   have hne:y.toNat≠s.toNat:=fun e=>hy1.1 (by have:=C.s0;omega)
   have en:nx m' y=nx m y:=by unfold nx;rw[C.other y hne]
   rw[en] at h ⊢
   rw[hA]
   rcases A.down p' y q' e' h with h1|h1
   ·exact .inl (.inr h1)
   ·rcases hp _ h1 with h2|h2
    ·exact .inl (.inl h2)
    ·exact .inr h2
 ·have hnd:=hM.nodup C.lt
  rw[C.is,List.nodup_append,List.nodup_cons] at hnd
  have hdm:d∈allC m:=Ai.2 ⟨c,C.lt,by rw[C.is];simp⟩
  have hA:∀ y,y∈allC m' ↔ y∈allC m/\y≠d:=fun y=>by
   constructor
   ·intro h
    obtain⟨b,hb,h⟩:=Ai.1 h
    rw[C.nh] at hb
    by_cases e:b=c
    ·subst e;rw[C.at_] at h
     refine⟨Ai.2 ⟨b,hb,by rw[C.is];rcases List.mem_append.1 h with h|h <;> simp[h]⟩,?_⟩
     rintro rfl
     rcases List.mem_append.1 h with h|h
     ·exact hnd.2.2 y h y (by simp) rfl
     ·exact hnd.2.1.1 h
    ·rw[C.else_ b hb e] at h
     refine⟨Ai.2 ⟨b,hb,h⟩,?_⟩
     rintro rfl
     have h1:=(hM.held b hb y h).2.2
     have h2:=(hM.held c C.lt y (by rw[C.is];simp)).2.2
     omega
   ·rintro ⟨h,hne⟩
    obtain⟨b,hb,h⟩:=Ai.1 h
    by_cases e:b=c
    ·subst e
     refine Ai.2 ⟨b,by rw[C.nh];exact hb,?_⟩
     rw[C.is] at h
     rw[C.at_]
     simp only[List.mem_append,List.mem_cons] at h ⊢
     rcases h with h|h|h
     ·exact .inl h
     ·exact(hne h).elim
     ·exact .inr h
    ·exact Ai.2 ⟨b,by rw[C.nh];exact hb,by rw[C.else_ b hb e];exact h⟩
  have hdS:d ∉ S:=fun h=>((A.all d).1 h).2 hdm
  have hdsl:=Aq.2 (hM.Eo d hdm)
  have keepn:∀ y,isSl m y=true->y ∉ allC m'->nx m' y=nx m y:=fun y hy hn'=>by
   refine C.next y fun hp e=>hn' ?_
   have hl:=O8 hp
   have h0:=(Aq.1 hy).1
   have:y=Ea l1 - 1:=by omega
   rw[this]
   exact Ai.2 ⟨c,by rw[C.nh];exact C.lt,by rw[C.at_];simp[hl]⟩
  refine⟨d :: S,List.nodup_cons.2 ⟨hdS,A.nodup⟩,fun y=>?_,fun p y q e h=>?_⟩
  ·rw[List.mem_cons,A.all,hsl,hA]
   constructor
   ·rintro (rfl|⟨h1,h2⟩)
    ·exact⟨hdsl,fun h=>h.2 rfl⟩
    ·exact⟨h1,fun h=>h2 h.1⟩
   ·rintro ⟨h1,h2⟩
    by_cases ey:y=d
    ·exact .inl ey
    ·exact .inr ⟨h1,fun h=>h2 ⟨h,ey⟩⟩
  ·cases p with
   | nil =>
    simp only[List.nil_append,List.cons.injEq] at e
    obtain⟨rfl,rfl⟩:=e
    left
    have hn':d ∉ allC m':=fun h=>((hA d).1 h).2 rfl
    rw[keepn d hdsl hn'] at h ⊢
    have hnx:nx m d=ptr c l2:=hM.Ey C.lt C.is
    rw[hnx] at h ⊢
    cases l2 with
    | nil=>exact absurd h (by show ¬ (0:Int) < -1 - (c:Int);omega)
    | cons z l2 =>
     have:ptr c (z :: l2) - 1=z:=by show z+1 - 1=z;omega
     rw[this]
     exact Ai.2 ⟨c,by rw[C.nh];exact C.lt,by rw[C.at_];simp⟩
   | cons x p =>
    simp only[List.cons_append,List.cons.injEq] at e
    obtain⟨rfl,e⟩:=e
    have hyS:y∈S:=by rw[e];simp
    have hy2:=(A.all y).1 hyS
    have hn':y ∉ allC m':=fun h=>hy2.2 ((hA y).1 h).1
    rw[keepn y hy2.1 hn'] at h ⊢
    rcases A.down p y q e h with h1|h1
    ·by_cases ez:nx m y - 1=d
     ·exact .inr (by rw[ez];simp)
     ·exact .inl ((hA _).2 ⟨h1,ez⟩)
    ·exact .inr (by simp[h1])
end
end Go.Proofs.YthhgoenomehobaaGreat.mm
