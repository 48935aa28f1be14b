/- Parts. -/
import Derived.Test.YthhgoenomehobaaGreatP04
namespace Go.Proofs.YthhgoenomehobaaGreat.mm
set_option maxRecDepth 100000
set_option linter.unusedVariables false
section
structure Z8(m:Mm)(B:Nat->Prop)(P:Mm->Prop):Prop where
 same:P m
 lock:∀ b (v:Int),(-1<=v/\v<=4)->P (G6 m b v)
 put:∀ s,isSl m s=true->1+mapd m s<=Bd m s->P (putN m s)
 hold:∀ s,isSl m s=true->0<Bd m s->Bd m s<1000->P (Zm m s)
 take:∀ ka kb u,keyB ka kb=true->inB u 0 2000000=true->0<m.free.length->P (Ie m ka kb u)
 link:∀ s b,B b->b<m.heads.length->isSl m s=true->s ∉ allC m->Bd m s≠0->hasK m (allC m) (keyAt m s)=false->ownB m s=b->P (I9 m s b)
 cut:∀ b l1 a l2,B b->b<m.heads.length->chL m b=l1++a :: l2->P (cutM m b (Fh l1) a)
section
variable {w:Wd} {i:Nat} {t:Tk}
theorem a0a{P:Mm->Prop}(I:WInv w)(C:Z8 w.m (fun b=>b=bkN w.m t.f/\hasL t.f) P)(hi:w.ts[i]?=some t)(hb:t.busy=true)(hk:t.f.c.kind=1):P (lkM w.m t.f)  :=by
 obtain⟨h0,hlock,hput,hhold,htake,hlink,hcut⟩:=C
 have htm:=List.mem_of_getElem? hi
 have F:=I.fi t htm hb
 have hput:isSl w.m t.f.slot=true->P (putN w.m t.f.slot):=fun hs =>
  hput _ hs (I.D9 htm hb (by rw[Cj (by omega)];exact decide_eq_true (Bi.1 hs).1) hs)
 unfold lkM Gz Bq holdN
 split
 ·split
  ·rename_i ha
   split
   ·rename_i hc
    have:=Oq.1 hc
    exact hhold _ (I8 ha) this.1 this.2
   ·exact h0
  ·exact h0
 ·split
  ·split
   ·exact hput (by assumption)
   ·exact h0
  ·split
   ·split
    ·exact hput (by assumption)
    ·exact h0
   ·exact h0
theorem a1b{P:Mm->Prop}(I:WInv w)(C:Z8 w.m (fun b=>b=bkN w.m t.f/\hasL t.f) P)(hi:w.ts[i]?=some t)(hb:t.busy=true)(hk:t.f.c.kind=2):P (adM i w.m t.f)  :=by
 obtain⟨h0,hlock,hput,hhold,htake,hlink,hcut⟩:=C
 have htm:=List.mem_of_getElem? hi
 have F:=I.fi t htm hb
 have hbk:=I.bk hi hb
 obtain⟨k1,k2,k3⟩:=U8 hk F.fit.call
 have S:=F.add hk
 have htk:=I.task hi
 unfold adM Gv Cm I7 Oc D5
 split
 ·split
  ·exact h0
  ·exact htake _ _ _ k1 (a5e I.okc.ok k2) (by omega)
 split
 ·split
  ·exact hlock _ _ htk
  ·exact h0
 split
 ·rename_i p
  have ha:adds t.f:=⟨hk,by omega,by omega⟩
  obtain⟨x1,x2,x3⟩:=S.2.2.1 ha.2.1 ha.2.2
  rw[if_pos x1]
  have hnk:=a3m I.okc (by omega) k1 (S.2.2.2.2.2.1 p)
  have hob:ownB w.m t.f.slot=bkN w.m t.f:=by
   have x3':=x3
   unfold keyAt Key at x3'
   simp only[Prod.mk.injEq] at x3'
   unfold ownB bkN
   rw[x3'.1,x3'.2,bk_of I.okc.ok (by omega) k1]
  exact hlink _ _ ⟨rfl,.inl ⟨hk,by omega⟩⟩ hbk.1 x1 x2 (I.Nu htm hb ha).2.1 (by rw[x3];exact hnk) hob
 split
 ·rename_i p
  have ha:adds t.f:=⟨hk,by omega,by omega⟩
  obtain⟨x1,x2,x3⟩:=S.2.2.1 ha.2.1 ha.2.2
  rw[if_pos x1]
  exact hput _ x1 (I.D9 htm hb (D6 ha (Bi.1 x1).1) x1)
 split
 ·split
  ·exact hlock _ _ (by omega)
  ·exact h0
 ·exact h0
theorem Zh{P:Mm->Prop}(I:WInv w)(C:Z8 w.m (fun b=>b=bkN w.m t.f/\hasL t.f) P)(hi:w.ts[i]?=some t)(hb:t.busy=true)(hk:t.f.c.kind=3):P (drM i w.m t.f)  :=by
 obtain⟨h0,hlock,hput,hhold,htake,hlink,hcut⟩:=C
 have htm:=List.mem_of_getElem? hi
 have F:=I.fi t htm hb
 have hbk:=I.bk hi hb
 have htk:=I.task hi
 obtain⟨a1,a2,a3,a4,a5,a6⟩:=F.drop hk
 unfold drM Cm Ei D5 Et
 split
 ·split
  ·exact hlock _ _ htk
  ·exact h0
 split
 ·rename_i p
  obtain⟨l1,a,l2,R,_,q⟩:=a5 p
  obtain⟨hat,hcur⟩:=Di I.okc hbk.1 R
  rw[if_pos (hat.2 ⟨a,l2,rfl⟩),q,hcur a l2 rfl]
  exact hcut _ _ _ _ ⟨rfl,.inr (.inl ⟨hk,by omega,by omega⟩)⟩ hbk.1 R.1
 split
 ·split
  ·exact hlock _ _ (by omega)
  ·exact h0
 split
 ·split
  ·rename_i hs
   exact hput _ hs (I.D9 htm hb (by rw[Cj (by omega)];exact decide_eq_true (Bi.1 hs).1) hs)
  ·exact h0
 ·exact h0
theorem Xy{P:Mm->Prop}(I:WInv w)(C:Z8 w.m (fun b=>b=bkN w.m t.f/\hasL t.f) P)(hi:w.ts[i]?=some t)(hb:t.busy=true)(hk:t.f.c.kind=4\/t.f.c.kind=5):P (swM i w.m t.f)  :=by
 obtain⟨h0,hlock,hput,hhold,htake,hlink,hcut⟩:=C
 have htm:=List.mem_of_getElem? hi
 have F:=I.fi t htm hb
 have hbk:=I.bk hi hb
 have htk:=I.task hi
 have hk2:t.f.c.kind≠2:=by omega
 obtain⟨a1,a2,a3,a4,a5,a6⟩:=F.sweep hk
 unfold swM Cm Ei D5 Et
 split
 ·split
  ·exact hlock _ _ htk
  ·exact h0
 split
 ·rename_i p
  obtain⟨l1,a,l2,R,q⟩:=a5 (.inr p)
  obtain⟨hat,hcur⟩:=Di I.okc hbk.1 R
  rw[if_pos (hat.2 ⟨a,l2,rfl⟩),q,hcur a l2 rfl]
  exact hcut _ _ _ _ ⟨rfl,.inr (.inr ⟨hk,by rw[p];decide⟩)⟩ hbk.1 R.1
 split
 ·split
  ·rename_i hs
   exact hput _ hs (I.D9 htm hb (by rw[Cj hk2];exact decide_eq_true (Bi.1 hs).1) hs)
  ·exact h0
 split
 ·split
  ·exact hlock _ _ ⟨Int.le_refl _,by decide⟩
  ·exact h0
 ·exact h0
theorem Px{P:Mm->Prop}(I:WInv w)(C:Z8 w.m (fun b=>b=bkN w.m t.f/\hasL t.f) P)(hi:w.ts[i]?=some t)(hb:t.busy=true):P (stepT w.m i t).1  :=by
 have C':=C
 obtain⟨h0,hlock,hput,hhold,htake,hlink,hcut⟩:=C'
 have htm:=List.mem_of_getElem? hi
 have F:=I.fi t htm hb
 have hk:=F.kind
 unfold stepT
 by_cases h1:t.f.c.kind=1
 ·rw[if_pos h1];exact a0a I C hi hb h1
 rw[if_neg h1]
 by_cases h2:t.f.c.kind=2
 ·rw[if_pos h2];exact a1b I C hi hb h2
 rw[if_neg h2]
 by_cases h3:t.f.c.kind=3
 ·rw[if_pos h3];exact Zh I C hi hb h3
 rw[if_neg h3]
 by_cases h6:t.f.c.kind=6
 ·have hm:=(F.leave h6).2
  rw[if_pos h6,if_pos hm]
  exact hput _ ((I.held t htm).2 _ hm) (I.heldIn htm hm)
 rw[if_neg h6]
 exact Xy I C hi hb (by omega)
end
end
section
def nx(m:Mm)(y:Int):Int:=(A8 m y).next
structure Calm(m m':Mm):Prop where
 nh:m'.heads.length=m.heads.length
 now:m.now<=m'.now
 next:∀ y,nx m' y=nx m y
 chs:∀ c,c<m.heads.length->chL m' c=chL m c
 inn:∀ y,(A8 m' y).inn=true->(A8 m y).inn=true/\keyAt m' y=keyAt m y/\(A8 m' y).unt=(A8 m y).unt
 keep:∀ y,y∈allC m->keyAt m' y=keyAt m y
structure Lkd(m m':Mm)(s:Int)(c:Nat):Prop where
 nh:m'.heads.length=m.heads.length
 now:m.now<=m'.now
 lt:c<m.heads.length
 s0:0<=s
 off:s ∉ allC m
 at_:chL m' c=s :: chL m c
 else_:∀ d,d<m.heads.length->d≠c->chL m' d=chL m d
 other:∀ y:Int,y.toNat≠s.toNat->A8 m' y=A8 m y
 next:nx m' s=ptr c (chL m c)
 key:∀ y,keyAt m' y=keyAt m y
structure Cutd(m m':Mm)(c:Nat)(l1:List Int)(a:Int)(l2:List Int):Prop where
 nh:m'.heads.length=m.heads.length
 now:m.now<=m'.now
 lt:c<m.heads.length
 is:chL m c=l1++a :: l2
 at_:chL m' c=l1++l2
 else_:∀ d,d<m.heads.length->d≠c->chL m' d=chL m d
 key:∀ y,keyAt m' y=keyAt m y
 unt:∀ y,(A8 m' y).unt=(A8 m y).unt
 inn:∀ y,(A8 m' y).inn=(A8 m y).inn
 next:∀ y:Int,(0<Fh l1->y.toNat≠(Fh l1 - 1).toNat)->nx m' y=nx m y
 jump:0<Fh l1->nx m' (Fh l1 - 1)=nx m a
def Mv(m m':Mm):Prop:=Calm m m'\/(∃ s c,Lkd m m' s c)\/∃ c l1 a l2,Cutd m m' c l1 a l2
theorem Va{m m':Mm}{b:Nat}{s r:Int}{F:List Int}{d:Int->Int}(hs:isSl m s=true)(e:m' = { m with slots:=Dx m s r,free:=F })(E:Eff m m' b (chL m b) d):Calm m m':=by
 have hs5:∀ x:Int,A8 m' x=if x.toNat=s.toNat then { A8 m s with refs:=r } else A8 m x:=fun x=>by
  rw[e];exact J4 hs rfl x
 have hsx:∀ x:Int,x.toNat=s.toNat->A8 m x=A8 m s:=fun x hx=>by unfold A8;rw[hx]
 refine⟨E.nh,by rw[E.now];omega,fun y=>?_,fun c hc=>?_,fun y hy=>?_,fun y hy=>?_⟩
 ·unfold nx;rw[hs5];split
  ·rename_i e;rw[hsx y e]
  ·rfl
 ·by_cases e:c=b
  ·rw[e];exact E.at_
  ·exact E.else_ c hc e
 ·rw[hs5] at hy ⊢
  unfold keyAt
  rw[hs5]
  split
  ·rename_i e;rw[if_pos e] at hy;rw[hsx y e];exact⟨hy,rfl,rfl⟩
  ·rename_i e;rw[if_neg e] at hy;exact⟨hy,rfl,rfl⟩
 ·unfold keyAt;rw[hs5];split
  ·rename_i e;rw[hsx y e]
  ·rfl
theorem mv_cases{w:Wd}{B:Nat->Prop}(I:WInv w):Z8 w.m B (Mv w.m):=by
 have h0:0<w.m.heads.length:=by have:=I.okc.ok.nh;omega
 refine⟨.inl ?_,fun b v hv=>.inl ?_,fun s hs hr=>?_,fun s hs h1 h2=>.inl ?_,fun ka kb u hk hu hF=>.inl ?_,fun s b _ hb hs hoff hr hk ho=>.inr (.inl ⟨s,b,?_⟩),fun b l1 a l2 _ hb e=>.inr (.inr ⟨b,l1,a,l2,?_⟩)⟩
 ·exact⟨rfl,Int.le_refl _,fun _=>rfl,fun _ _=>rfl,fun _ h=>⟨h,rfl,rfl⟩,fun _ _=>rfl⟩
 ·exact⟨rfl,Int.le_refl _,fun _=>rfl,fun _ _=>rfl,fun _ h=>⟨h,rfl,rfl⟩,fun _ _=>rfl⟩
 ·have hmp:=Ia w.m s
  have hE:=Iz I.okc 0 hs (by omega) (fun hm=>by have:=Gp hm;omega)
  have he:putN w.m s = { w.m with slots:=Dx w.m s (Bd w.m s - 1),free:=if Bd w.m s=1 then w.m.free ++ [s] else w.m.free }:=by
   unfold putN;rw[if_neg (by omega)];rfl
  exact .inl (Va hs he hE)
 ·exact Va hs rfl (Uj I.okc 0 hs h1 h2)
 ·obtain⟨hE,hoff,hsl,hr0,hky,hun⟩:=Ux I.okc 0 hk hu hF
  have hs1:∀ x:Int,A8 (Ie w.m ka kb u) x=if x.toNat=(Eb w.m).toNat then ⟨1,ka,kb,u,false,(A8 w.m (Eb w.m)).next⟩ else A8 w.m x:=fun x=>J4 hsl rfl x
  have hsx:∀ x:Int,x.toNat=(Eb w.m).toNat->A8 w.m x=A8 w.m (Eb w.m):=fun x hx=>by unfold A8;rw[hx]
  refine⟨hE.nh,Int.le_refl _,fun y=>?_,fun c hc=>?_,fun y hy=>?_,fun y hy=>?_⟩
  ·unfold nx;rw[hs1];split
   ·rename_i e;rw[hsx y e]
   ·rfl
  ·by_cases e:c=0
   ·rw[e];exact hE.at_
   ·exact hE.else_ c hc e
  ·rw[hs1] at hy
   split at hy
   ·cases hy
   ·rename_i e
    unfold keyAt
    rw[hs1,if_neg e]
    exact⟨hy,rfl,rfl⟩
  ·obtain⟨c,hc,hm⟩:=Du.1 hy
   exact(hE.key y (Bi.2 (I.okc.G8 y hy)) (I.okc.held c hc y hm).1).1
 ·have hE:=Uo I.okc hs hr hk ho
  have L:=a2x I.okc hs hr hk
  have e:Fz w.m s=I9 w.m s b:=by unfold Fz I9;rw[ho]
  rw[e,ho] at L
  have hs0:=(Bi.1 hs).1
  have hss:∀ x:Int,A8 (I9 w.m s b) x=if x.toNat=s.toNat then { A8 w.m s with next:=Au w.m b,inn:=true } else A8 w.m x:=fun x=>by
   obtain⟨j,rfl,hj⟩:=(Gl w.m s).1 hs
   have:=O9 (M:=w.m) (S:=w.m.slots.set j { A8 w.m j with next:=Au w.m b,inn:=true }) (H:=w.m.heads.set b ((j:Int)+1)) hj rfl x
   rw[Int.toNat_natCast]
   exact this
  refine⟨hE.nh,Int.le_refl _,hb,hs0,hoff,hE.at_,hE.else_,fun y hy=>by rw[hss,if_neg hy],?_,L.key⟩
  unfold nx
  rw[hss,if_pos rfl]
  exact I.okc.Jy hb
 ·have hE:=Qa I.okc hb e
  have hk:=a1n w.m b (Fh l1) a
  have hkk:∀ y,keyAt (cutM w.m b (Fh l1) a) y=keyAt w.m y:=fun y=>by
   have:=hk.slot y.toNat
   unfold keyAt A8
   rw[this.1,this.2.1]
  refine⟨hE.nh,by rw[hE.now];omega,hb,e,hE.at_,hE.else_,hkk,fun y=>(hk.slot y.toNat).2.2.1,fun y=>(hk.slot y.toNat).2.2.2,fun y hy=>?_,fun hp=>?_⟩
  ·unfold nx;rw[a0l hy]
  ·have hm:=a2s hp
   have hsl:=I.okc.slots hb (Fh l1 - 1) (by rw[e];simp[hm])
   unfold nx cutM
   rw[if_pos hp]
   unfold A8
   dsimp only
   rw[P6,if_pos ⟨rfl,by omega⟩]
end
section
section
variable {w:Wd} {G:List (List Mm)} {i:Nat} {t:Tk}
theorem Ob(m:Mm)(i:Nat)(t:Tk):(stepT m i t).2.f.c=t.f.c:=by
 unfold stepT
 split
 ·exact lkF_c _ _
 split
 ·exact adF_c _ _
 split
 ·exact drF_c _ _
 split
 ·rfl
 ·exact swF_c _ _
end
end
section
structure Pst where
 task:Int
 c:Cl
 fro:Nat
 to:Nat
 e:Int
 slot:Int
 n:Int
 keys:List (Int × Int)
def Ib(w:Wd)(x:Pk):Wd:=if doE w x=0 then doW w x else w
theorem Qy(w:Wd)(x:Pk)(l:List Pk):runW w (x :: l)=runW (Ib w x) l:=rfl
theorem Yv:∀ (l l':List Pk) (w:Wd),runW w (l++l')=runW (runW w l) l'
 | [],_,_=>rfl
 | x :: l,l',w=>by rw[List.cons_append,Qy,Qy,Yv l l']
theorem Wl{l:List Pk}{n:Nat}(h:n<l.length)(w:Wd):runW w (l.take (n+1))=Ib (runW w (l.take n)) l[n]:=by
 rw[List.take_succ_eq_append_getElem h,Yv]
 rfl
def Kd (w : Wd) (x : Pk) : Prop :=
  (x.tick=true ∧ w.m.now≠1000000 ∧ doW w x=⟨{ w.m with now:=w.m.now+1 },w.ts⟩) ∨
  (x.tick=false ∧ x.step=true ∧ (0<=x.task/\x.task<w.ts.length) ∧ w.ts[x.task.toNat]?=some (tkAt w x) ∧ (tkAt w x).busy=true ∧ doW w x=⟨(stepT w.m x.task.toNat (tkAt w x)).1,w.ts.set x.task.toNat (stepT w.m x.task.toNat (tkAt w x)).2⟩) ∨
  (x.tick=false ∧ x.step=false ∧ (0<=x.task/\x.task<w.ts.length) ∧ w.ts[x.task.toNat]?=some (tkAt w x) ∧ (tkAt w x).busy=false ∧ E5 w.m.slots.length w.m.heads.length x.c=0 ∧ (x.c.kind=1->(tkAt w x).held.length≠100) ∧ (x.c.kind=6->x.c.slot∈(tkAt w x).held) ∧ doW w x=⟨w.m,w.ts.set x.task.toNat ⟨true,newF x.c,(tkAt w x).held⟩⟩)
theorem Kd.tick {w : Wd} {x : Pk} (h:x.tick=true) (hn:w.m.now≠1000000) (e:doW w x=⟨{ w.m with now:=w.m.now+1 },w.ts⟩) : Kd w x := .inl ⟨h,hn,e⟩
theorem Kd.step {w : Wd} {x : Pk} (h:x.tick=false) (hs:x.step=true) (hr:0<=x.task/\x.task<w.ts.length) (hi:w.ts[x.task.toNat]?=some (tkAt w x)) (hb:(tkAt w x).busy=true) (e:doW w x=⟨(stepT w.m x.task.toNat (tkAt w x)).1,w.ts.set x.task.toNat (stepT w.m x.task.toNat (tkAt w x)).2⟩) : Kd w x := .inr (.inl ⟨h,hs,hr,hi,hb,e⟩)
theorem Kd.begin {w : Wd} {x : Pk} (h:x.tick=false) (hs:x.step=false) (hr:0<=x.task/\x.task<w.ts.length) (hi:w.ts[x.task.toNat]?=some (tkAt w x)) (hb:(tkAt w x).busy=false) (hc:E5 w.m.slots.length w.m.heads.length x.c=0) (h1:x.c.kind=1->(tkAt w x).held.length≠100) (h6:x.c.kind=6->x.c.slot∈(tkAt w x).held) (e:doW w x=⟨w.m,w.ts.set x.task.toNat ⟨true,newF x.c,(tkAt w x).held⟩⟩) : Kd w x := .inr (.inr ⟨h,hs,hr,hi,hb,hc,h1,h6,e⟩)
theorem Kd.rule {w : Wd} {x : Pk} {motive : Kd w x -> Prop} (tick : ∀ (h:x.tick=true) (hn:w.m.now≠1000000) (e:doW w x=⟨{ w.m with now:=w.m.now+1 },w.ts⟩),motive (Kd.tick h hn e)) (step : ∀ (h:x.tick=false) (hs:x.step=true) (hr:0<=x.task/\x.task<w.ts.length) (hi:w.ts[x.task.toNat]?=some (tkAt w x)) (hb:(tkAt w x).busy=true) (e:doW w x=⟨(stepT w.m x.task.toNat (tkAt w x)).1,w.ts.set x.task.toNat (stepT w.m x.task.toNat (tkAt w x)).2⟩),motive (Kd.step h hs hr hi hb e)) (begin : ∀ (h:x.tick=false) (hs:x.step=false) (hr:0<=x.task/\x.task<w.ts.length) (hi:w.ts[x.task.toNat]?=some (tkAt w x)) (hb:(tkAt w x).busy=false) (hc:E5 w.m.slots.length w.m.heads.length x.c=0) (h1:x.c.kind=1->(tkAt w x).held.length≠100) (h6:x.c.kind=6->x.c.slot∈(tkAt w x).held) (e:doW w x=⟨w.m,w.ts.set x.task.toNat ⟨true,newF x.c,(tkAt w x).held⟩⟩),motive (Kd.begin h hs hr hi hb hc h1 h6 e)) (k : Kd w x) : motive k := by
  rcases k with ⟨h,hn,e⟩ | ⟨h,hs,hr,hi,hb,e⟩ | ⟨h,hs,hr,hi,hb,hc,h1,h6,e⟩
  · exact tick h hn e
  · exact step h hs hr hi hb e
  · exact begin h hs hr hi hb hc h1 h6 e
theorem Jo{w:Wd}{x:Pk}(h:doE w x=0):Kd w x:=by
 unfold doE at h
 by_cases ht:x.tick=true
 ·rw[if_pos ht] at h
  by_cases hn:w.m.now=1000000
  ·rw[if_pos hn] at h;omega
  ·exact .tick ht hn (by unfold doW;rw[if_pos ht])
 rw[if_neg ht] at h
 have ht':x.tick=false:=by simpa using ht
 by_cases hr:0<=x.task/\x.task<w.ts.length
 ·rw[if_neg (by simpa using hr)] at h
  have hi:w.ts[x.task.toNat]?=some (tkAt w x):=by
   unfold tkAt
   have:x.task.toNat<w.ts.length:=by omega
   rw[List.getD_eq_getElem?_getD,List.getElem?_eq_getElem this]
   rfl
  by_cases hs:x.step=true
  ·rw[if_pos hs] at h
   by_cases hb:(tkAt w x).busy=true
   ·exact .step ht' hs hr hi hb (by unfold doW;rw[if_neg ht,if_pos hs])
   ·rw[if_neg hb] at h;omega
  ·rw[if_neg hs] at h
   unfold Y2 at h
   by_cases hb:(tkAt w x).busy=true
   ·rw[if_pos hb] at h;omega
   rw[if_neg hb] at h
   by_cases hc:E5 w.m.slots.length w.m.heads.length x.c=0
   ·rw[if_neg (by simpa using hc)] at h
    by_cases h1:x.c.kind=1/\(tkAt w x).held.length=100
    ·rw[if_pos h1] at h;omega
    rw[if_neg h1] at h
    by_cases h6:x.c.kind=6/\x.c.slot ∉ (tkAt w x).held
    ·rw[if_pos h6] at h;omega
    refine .begin ht' (by simpa using hs) hr hi (by simpa using hb) hc (fun h=>fun e=>h1 ⟨h,e⟩) (fun h=>?_) (by unfold doW;rw[if_neg ht,if_neg hs])
    by_cases hm:x.c.slot∈(tkAt w x).held
    ·exact hm
    ·exact(h6 ⟨h,hm⟩).elim
   ·rw[if_pos hc] at h;exact(hc h).elim
 ·rw[if_pos (by simpa using hr)] at h;omega
structure Rs where
 w:Wd
 said:List Int
 past:List Pst
 beg:List Nat
def overP(n:Nat)(x:Pk)(b:Nat)(t:Tk):Pst:=⟨x.task,t.f.c,b,n,t.f.e,t.f.slot,t.f.n,t.f.keys⟩
def Ew(n:Nat)(s:Rs)(x:Pk):Rs :=
 if doE s.w x=0 then
  (if x.tick then ⟨doW s.w x,s.said ++ [0],s.past,s.beg⟩
   else if x.step then
    (if ((doW s.w x).ts.getD x.task.toNat idle).busy then ⟨doW s.w x,s.said ++ [0],s.past,s.beg⟩
    else ⟨doW s.w x,s.said ++ [0],s.past ++ [overP n x (s.beg.getD x.task.toNat 0) ((doW s.w x).ts.getD x.task.toNat idle)],s.beg⟩)
   else ⟨doW s.w x,s.said ++ [0],s.past,s.beg.set x.task.toNat n⟩)
 else ⟨s.w,s.said ++ [doE s.w x],s.past,s.beg⟩
def runR:Nat->Rs->List Pk->Rs
 | _,s,[]=>s
 | n,s,x :: l=>runR (n+1) (Ew n s x) l
def rs0(w:Wd):Rs:=⟨w,[],[],List.replicate w.ts.length 0⟩
theorem Xp(n:Nat)(s:Rs)(x:Pk):(Ew n s x).w=Ib s.w x:=by
 unfold Ew Ib
 by_cases h:doE s.w x=0
 ·rw[if_pos h,if_pos h]
  repeat' split
  all_goals rfl
 ·rw[if_neg h,if_neg h]
end
section
structure Still(m m':Mm)(b:Nat):Prop where
 nh:m'.heads.length=m.heads.length
 ch:chL m' b=chL m b
 sl:∀ a∈chL m b,keyAt m' a=keyAt m a/\(A8 m' a).unt=(A8 m a).unt
 now:m.now<=m'.now
theorem Still.refl(m:Mm)(b:Nat):Still m m b:=⟨rfl,rfl,fun _ _=>⟨rfl,rfl⟩,Int.le_refl _⟩
theorem Fp{M M':Mm}{b b0:Nat}{l:List Int}{d:Int->Int}(h:OkC M)(E:Eff M M' b0 l d)(hb:b<M.heads.length)(hne:b≠b0\/l=chL M b0):Still M M' b:=by
 refine⟨E.nh,?_,fun a ha=>?_,by rw[E.now];exact Int.le_refl _⟩
 ·by_cases e:b=b0
  ·subst e
   rcases hne with h1|h1
   ·exact(h1 rfl).elim
   ·rw[E.at_,h1]
  ·exact E.else_ b hb e
 ·have hm:a∈allC M:=Du.2 ⟨b,hb,ha⟩
  exact E.key a (Bi.2 (h.G8 a hm)) (fun hr=>Uh h hr hm)
section
variable {w:Wd} {i j:Nat} {t u:Tk}
theorem Rj(I:WInv w)(hi:w.ts[i]?=some t)(hb:t.busy=true)(hL:hasL t.f)(hj:w.ts[j]?=some u)(hbu:u.busy=true)(hne:j≠i):Still w.m (stepT w.m j u).1 (bkN w.m t.f):=by
 have hbk:=(I.bk hi hb).1
 have apart:∀ b,b=bkN w.m u.f/\hasL u.f->bkN w.m t.f≠b:=fun b h e=>by
  have e1:=I.lockI i t hi hb hL
  have e2:=I.lockI j u hj hbu h.2
  rw[<- h.1,<- e,e1] at e2
  exact hne (by omega)
 refine Px (P:=fun m'=>Still w.m m' (bkN w.m t.f)) I ⟨.refl _ _,fun b v hv=>?_,fun s hs hr=>?_,fun s hs h1 h2=>?_,fun ka kb un hk hu hF=>?_,fun s b hB hb' hs hoff hr hk ho=>?_,fun b l1 a l2 hB hb' e=>?_⟩ hj hbu
 ·exact Fp I.okc (Pi I.okc b (bkN w.m t.f) hv) hbk (.inr rfl)
 ·have hmp:=Ia w.m s
  exact Fp I.okc (Iz I.okc (bkN w.m t.f) hs (by omega) (fun hm=>by have:=Gp hm;omega)) hbk (.inr rfl)
 ·exact Fp I.okc (Uj I.okc (bkN w.m t.f) hs h1 h2) hbk (.inr rfl)
 ·exact Fp I.okc (Ux I.okc (bkN w.m t.f) hk hu hF).1 hbk (.inr rfl)
 ·exact Fp I.okc (Uo I.okc hs hr hk ho) hbk (.inl (apart b hB))
 ·exact Fp I.okc (Qa I.okc hb' e) hbk (.inl (apart b hB))
theorem U4{f:Fr}(hk:f.c.kind=4\/f.c.kind=5)(h:1<=f.pl):hasL f:=.inr (.inr ⟨hk,h⟩)
structure LiI(m:Mm)(f:Fr):Prop where
 none:f.pl<=1->f.keys=[]
 see:f.pl=2->∃ l1 l2,Rest m f l1 l2/\f.keys=l1.map (keyAt m)
 pass:f.pl=3->∃ l1 a l2,Rest m f l1 (a :: l2)/\f.keys=(l1 ++ [a]).map (keyAt m)
 all:f.pl=6->f.keys=(chL m (bkN m f)).map (keyAt m)
theorem Gu{m m':Mm}{f:Fr}{l1 l2:List Int}(S:Still m m' (bkN m f))(R:Rest m f l1 l2):Rest m' f l1 l2:=by
 unfold Rest
 rw[Oe S.nh,S.ch]
 exact R
theorem Me{m m':Mm}{b:Nat}(S:Still m m' b){l:List Int}(h:∀ a∈l,a∈chL m b):l.map (keyAt m')=l.map (keyAt m):=List.map_congr_left fun a ha=>(S.sl a (h a ha)).1
theorem LiI.still{m m':Mm}{f:Fr}(L:LiI m f)(S:1<=f.pl->Still m m' (bkN m f)):LiI m' f:=by
 refine⟨L.none,fun p=>?_,fun p=>?_,fun p=>?_⟩
 ·obtain⟨l1,l2,R,e⟩:=L.see p
  have S':=S (by omega)
  refine⟨l1,l2,Gu S' R,?_⟩
  rw[Me S' (fun a ha=>by rw[R.1];exact List.mem_append_left _ ha)]
  exact e
 ·obtain⟨l1,a,l2,R,e⟩:=L.pass p
  have S':=S (by omega)
  refine⟨l1,a,l2,Gu S' R,?_⟩
  rw[Me S' (fun x hx=>by rw[R.1];rcases List.mem_append.1 hx with h|h <;> simp_all)]
  exact e
 ·have S':=S (by omega)
  rw[Oe S'.nh,S'.ch,Me S' (fun a ha=>ha)]
  exact L.all p
theorem li_new(m:Mm)(c:Cl):LiI m (newF c):=⟨fun _=>rfl,(fun h=>by simp[newF] at h),(fun h=>by simp[newF] at h),fun h=>by simp[newF] at h⟩
theorem Lj{m:Mm}(h:OkC m){b:Nat}(hb:b<m.heads.length):(chL m b).length<=12:=Nat.le_trans (chL_len h hb) h.ok.ns
theorem li_step(I:WInv w)(hi:w.ts[i]?=some t)(hb:t.busy=true)(hk:t.f.c.kind=5)(L:LiI w.m t.f)(hd:(swF w.m t.f).done=false):LiI (swM i w.m t.f) (swF w.m t.f):=by
 have F:=I.fi t (List.mem_of_getElem? hi) hb
 have hbk:=I.bk hi hb
 obtain⟨a1,a2,a3,a4,a5,a6⟩:=F.sweep (.inr hk)
 have hpl:=F.fit.pl
 have hn:=a3 hk
 have hp:t.f.pl=0\/t.f.pl=1\/t.f.pl=2\/t.f.pl=3\/t.f.pl=6:=by omega
 rcases hp with p|p|p|p|p
 ·have e:=swF0 (M:=w.m) p
  unfold Eh at e
  rw[e]
  split
  ·exact⟨fun _=>L.none (by omega),(fun h=>by simp[toF] at h),(fun h=>by simp[toF] at h),fun h=>by simp[toF] at h⟩
  ·exact⟨fun _=>L.none (by omega),(fun h=>by omega),(fun h=>by omega),fun h=>by omega⟩
 ·rw[swF1 p,Dz (by omega)]
  refine⟨(fun h=>by simp[Bv] at h),(fun _=>⟨[],chL w.m (bkN w.m t.f),⟨rfl,I.okc.Jy hbk.1⟩,L.none (by omega)⟩),(fun h=>by simp[Bv] at h),fun h=>by simp[Bv] at h⟩
 ·obtain⟨l1,l2,R,ek⟩:=L.see p
  obtain⟨hat,hcur⟩:=Di I.okc hbk.1 R
  rw[swF2 p,Dz (by omega)]
  unfold Es
  cases l2 with
  | nil =>
   have hno:isAt w.m t.f=false:=by
    cases h:isAt w.m t.f
    ·rfl
    ·obtain⟨a,l,e⟩:=hat.1 h;cases e
   rw[hno,if_neg (by simp)]
   refine⟨(fun h=>by simp[toF] at h),(fun h=>by simp[toF] at h),(fun h=>by simp[toF] at h),fun _=>?_⟩
   show t.f.keys=(chL w.m (bkN w.m t.f)).map (keyAt w.m)
   rw[R.1,List.append_nil]
   exact ek
  | cons a l2 =>
   have hca:=hcur a l2 rfl
   rw[if_pos (hat.2 ⟨a,l2,rfl⟩),if_pos hk]
   have hfew:=Lj I.okc hbk.1
   rw[R.1,List.length_append] at hfew
   have hlen:t.f.keys.length<100:=by rw[ek,List.length_map];omega
   refine⟨(fun h=>by simp at h),(fun h=>by simp at h),(fun _=>⟨l1,a,l2,R,?_⟩),fun h=>by simp at h⟩
   show Kz w.m t.f=_
   unfold Kz
   rw[if_pos hlen,hca,ek,List.map_append]
   rfl
 ·obtain⟨l1,a,l2,R,ek⟩:=L.pass p
  obtain⟨hat,hcur⟩:=Di I.okc hbk.1 R
  have hca:=hcur a l2 rfl
  rw[swF3 p,Dz (by omega)]
  unfold Fq
  rw[if_pos (hat.2 ⟨a,l2,rfl⟩),hca]
  refine⟨(fun h=>by simp[Bv] at h),(fun _=>⟨l1 ++ [a],l2,⟨?_,I.okc.Iy hbk.1 R.1⟩,ek⟩),(fun h=>by simp[Bv] at h),fun h=>by simp[Bv] at h⟩
  show chL w.m (bkN w.m t.f)=_
  rw[R.1];simp
 ·rw[swF6 p] at hd
  cases hd
structure SwI(n0:Int)(m:Mm)(f:Fr):Prop where
 now:n0<=m.now
 see:f.pl=2\/f.pl=5->∃ l1 l2,Rest m f l1 l2/\f.prev=Fh l1/\∀ a∈l1,n0<(A8 m a).unt
 pass:f.pl=3->∃ l1 a l2,Rest m f l1 (a :: l2)/\f.prev=Fh l1/\∀ x∈l1 ++ [a],n0<(A8 m x).unt
 cut:f.pl=4->∃ l1 a l2,Rest m f l1 (a :: l2)/\f.prev=Fh l1/\∀ x∈l1,n0<(A8 m x).unt
 all:f.pl=6->∀ x∈chL m (bkN m f),n0<(A8 m x).unt
theorem SwI.still{n0:Int}{m m':Mm}{f:Fr}(L:SwI n0 m f)(hn:m.now<=m'.now)(S:1<=f.pl->Still m m' (bkN m f)):SwI n0 m' f:=by
 refine⟨Int.le_trans L.now hn,fun p=>?_,fun p=>?_,fun p=>?_,fun p=>?_⟩
 ·obtain⟨l1,l2,R,q,h⟩:=L.see p
  have S':=S (by omega)
  exact⟨l1,l2,Gu S' R,q,fun a ha=>by rw[(S'.sl a (by rw[R.1];exact List.mem_append_left _ ha)).2];exact h a ha⟩
 ·obtain⟨l1,a,l2,R,q,h⟩:=L.pass p
  have S':=S (by omega)
  exact⟨l1,a,l2,Gu S' R,q,fun x hx=>by rw[(S'.sl x (by rw[R.1];rcases List.mem_append.1 hx with h|h <;> simp_all)).2];exact h x hx⟩
 ·obtain⟨l1,a,l2,R,q,h⟩:=L.cut p
  have S':=S (by omega)
  exact⟨l1,a,l2,Gu S' R,q,fun x hx=>by rw[(S'.sl x (by rw[R.1];exact List.mem_append_left _ hx)).2];exact h x hx⟩
 ·have S':=S (by omega)
  rw[Oe S'.nh,S'.ch]
  exact fun x hx=>by rw[(S'.sl x hx).2];exact L.all p x hx
theorem sw_new(m:Mm)(c:Cl):SwI m.now m (newF c):=⟨Int.le_refl _,(fun h=>by simp[newF] at h),(fun h=>by simp[newF] at h),(fun h=>by simp[newF] at h),fun h=>by simp[newF] at h⟩
theorem sw_step{n0:Int}(I:WInv w)(hi:w.ts[i]?=some t)(hb:t.busy=true)(hk:t.f.c.kind=4)(L:SwI n0 w.m t.f)(hd:(swF w.m t.f).done=false):SwI n0 (swM i w.m t.f) (swF w.m t.f):=by
 have htm:=List.mem_of_getElem? hi
 have F:=I.fi t htm hb
 have hbk:=I.bk hi hb
 obtain⟨a1,a2,a3,a4,a5,a6⟩:=F.sweep (.inl hk)
 have hpl:=F.fit.pl
 have hp:t.f.pl=0\/t.f.pl=1\/t.f.pl=2\/t.f.pl=3\/t.f.pl=4\/t.f.pl=5\/t.f.pl=6:=by omega
 rcases hp with p|p|p|p|p|p|p
 ·have e:=swF0 (M:=w.m) p
  have em:=swM0 (M:=w.m) (t:=(i:Int)) p
  unfold Eh at e
  unfold Cm at em
  by_cases hF:Ar w.m (bkN w.m t.f)=-1
  ·rw[if_pos hF] at e em
   rw[e,em]
   exact⟨L.now,(fun h=>by simp[toF] at h),(fun h=>by simp[toF] at h),(fun h=>by simp[toF] at h),fun h=>by simp[toF] at h⟩
  ·rw[if_neg hF] at e em
   rw[e,em]
   exact L
 ·rw[swF1 p,Dz (by omega)]
  refine⟨L.now,(fun _=>⟨[],chL w.m (bkN w.m t.f),⟨rfl,I.okc.Jy hbk.1⟩,rfl,fun a ha=>by cases ha⟩),(fun h=>by simp[Bv] at h),(fun h=>by simp[Bv] at h),fun h=>by simp[Bv] at h⟩
 ·obtain⟨l1,l2,R,q,hu⟩:=L.see (.inl p)
  obtain⟨hat,hcur⟩:=Di I.okc hbk.1 R
  rw[swF2 p,Dz (by omega)]
  unfold Es
  cases l2 with
  | nil =>
   have hno:isAt w.m t.f=false:=by
    cases h:isAt w.m t.f
    ·rfl
    ·obtain⟨a,l,e⟩:=hat.1 h;cases e
   rw[hno,if_neg (by simp)]
   refine⟨L.now,(fun h=>by simp[toF] at h),(fun h=>by simp[toF] at h),(fun h=>by simp[toF] at h),fun _=>?_⟩
   show ∀ x∈chL w.m (bkN w.m t.f),_
   rw[R.1,List.append_nil]
   exact hu
  | cons a l2 =>
   have hca:=hcur a l2 rfl
   rw[if_pos (hat.2 ⟨a,l2,rfl⟩),if_neg (by omega),hca]
   by_cases hlt:w.m.now<(A8 w.m a).unt
   ·rw[if_pos hlt]
    refine⟨L.now,(fun h=>by simp[toF] at h),(fun _=>⟨l1,a,l2,R,q,fun x hx=>?_⟩),(fun h=>by simp[toF] at h),fun h=>by simp[toF] at h⟩
    rcases List.mem_append.1 hx with h|h
    ·exact hu x h
    ·rw[List.mem_singleton] at h
     subst h
     have:=L.now
     omega
   ·rw[if_neg hlt]
    exact⟨L.now,(fun h=>by simp[toF] at h),(fun h=>by simp[toF] at h),(fun _=>⟨l1,a,l2,R,q,hu⟩),fun h=>by simp[toF] at h⟩
 ·obtain⟨l1,a,l2,R,q,hu⟩:=L.pass p
  obtain⟨hat,hcur⟩:=Di I.okc hbk.1 R
  have hca:=hcur a l2 rfl
  rw[swF3 p,Dz (by omega)]
  unfold Fq
  rw[if_pos (hat.2 ⟨a,l2,rfl⟩),hca]
  refine⟨L.now,(fun _=>⟨l1 ++ [a],l2,⟨?_,I.okc.Iy hbk.1 R.1⟩,?_,hu⟩),(fun h=>by simp[Bv] at h),(fun h=>by simp[Bv] at h),fun h=>by simp[Bv] at h⟩
  ·show chL w.m (bkN w.m t.f)=_
   rw[R.1];simp
  ·rw[O4]
   show t.f.cur=a+1
   omega
 ·obtain⟨l1,a,l2,R,q,hu⟩:=L.cut p
  obtain⟨hat,hcur⟩:=Di I.okc hbk.1 R
  have hca:=hcur a l2 rfl
  have e:=swF4 (M:=w.m) p
  have em:=swM4 (M:=w.m) (t:=(i:Int)) p
  unfold Kv at e
  unfold Ei at em
  rw[if_pos (hat.2 ⟨a,l2,rfl⟩)] at e em
  rw[q,hca] at em
  rw[hca] at e
  have hE:=Qa I.okc hbk.1 R.1
  have hnx:=I.okc.Iy hbk.1 R.1
  rw[e,em]
  have gb:bkN (cutM w.m (bkN w.m t.f) (Fh l1) a) { t.f with slot:=a,cur:=(A8 w.m a).next,pl:=5 } = bkN w.m t.f:=by rw[Oe hE.nh];rfl
  refine⟨by rw[hE.now];exact L.now,(fun _=>⟨l1,l2,⟨?_,?_⟩,q,fun x hx=>?_⟩),(fun h=>by simp at h),(fun h=>by simp at h),fun h=>by simp at h⟩
  ·rw[gb];exact hE.at_
  ·rw[gb];exact hnx
  ·have hm:x∈allC w.m:=Du.2 ⟨_,hbk.1,by rw[R.1];exact List.mem_append_left _ hx⟩
   rw[(hE.key x (Bi.2 (I.okc.G8 x hm)) (fun hr=>Uh I.okc hr hm)).2]
   exact hu x hx
 ·obtain⟨l1,l2,R,q,hu⟩:=L.see (.inr p)
  obtain⟨hs,-⟩:=a6 p
  have h0:=(Bi.1 hs).1
  have hih:D9 t.f=true:=by rw[Cj (by omega)];exact decide_eq_true h0
  have hin:=I.D9 htm hb hih hs
  have hmp:=(Ia w.m t.f.slot)
  have hE:=Iz I.okc (bkN w.m t.f) hs (by omega) (fun hm=>by have:=Gp hm;omega)
  have S:=Fp I.okc hE hbk.1 (.inr rfl)
  have e:=swF5 (M:=w.m) p
  have em:=swM5 (M:=w.m) (t:=(i:Int)) p
  unfold Ii at e
  unfold Et at em
  rw[if_pos hs] at e em
  rw[e,em]
  refine⟨by rw[hE.now];exact L.now,(fun _=>⟨l1,l2,Gu S R,q,fun x hx=>?_⟩),(fun h=>by simp at h),(fun h=>by simp at h),fun h=>by simp at h⟩
  rw[(S.sl x (by rw[R.1];exact List.mem_append_left _ hx)).2]
  exact hu x hx
 ·rw[swF6 p] at hd
  cases hd
end
structure SW(w0:Wd)(l:List Pk)(n:Nat)(s:Rs):Prop where
 w:s.w=runW w0 (l.take n)
 inv:WInv s.w
 bl:s.beg.length=s.w.ts.length
 bn:∀ b∈s.beg,b<=n
 li:∀ (i:Nat) t,s.w.ts[i]?=some t->t.busy=true->t.f.c.kind=5->LiI s.w.m t.f
 sw:∀ (i:Nat) t b,s.w.ts[i]?=some t->t.busy=true->t.f.c.kind=4->s.beg[i]?=some b->SwI (runW w0 (l.take b)).m.now s.w.m t.f
 past:∀ p∈s.past,p.fro<=p.to/\p.to<n/\(p.c.kind=5->p.keys=(chL (runW w0 (l.take (p.to+1))).m p.c.bk.toNat).map (keyAt (runW w0 (l.take (p.to+1))).m)) /\
  (p.c.kind=4->∀ x∈chL (runW w0 (l.take (p.to+1))).m p.c.bk.toNat,(runW w0 (l.take p.fro)).m.now<(A8 (runW w0 (l.take (p.to+1))).m x).unt)
theorem Y3{m:Mm}{f:Fr}(hk:f.c.kind=4\/f.c.kind=5):bkN m f=f.c.bk.toNat:=by unfold bkN bkOf;rw[if_pos hk]
theorem Xt{w0:Wd}{l:List Pk}{n:Nat}(hn:n<l.length){s:Rs}(S:SW w0 l n s):SW w0 l (n+1) (Ew n s l[n]):=by
 have hw:runW w0 (l.take (n+1))=Ib s.w l[n]:=by rw[Wl hn,S.w]
 have hlt:∀ p∈s.past,p.fro<=p.to/\p.to<n+1/\(p.c.kind=5->p.keys=(chL (runW w0 (l.take (p.to+1))).m p.c.bk.toNat).map (keyAt (runW w0 (l.take (p.to+1))).m)) /\
  (p.c.kind=4->∀ x∈chL (runW w0 (l.take (p.to+1))).m p.c.bk.toNat,(runW w0 (l.take p.fro)).m.now<(A8 (runW w0 (l.take (p.to+1))).m x).unt):=fun p hp=>by
  obtain⟨a,b,c⟩:=S.past p hp
  exact⟨a,by omega,c⟩
 have hbn:∀ b∈s.beg,b<=n+1:=fun b hb=>by have:=S.bn b hb;omega
 generalize l[n]=x at hw ⊢
 by_cases hE:doE s.w x=0
 ·have hw1:runW w0 (l.take (n+1))=doW s.w x:=by rw[hw];unfold Ib;rw[if_pos hE]
  have I':WInv (doW s.w x):=Nb S.inv hE
  cases Jo hE using Kd.rule with
  | tick h hnow e =>
   have est:Ew n s x=⟨doW s.w x,s.said ++ [0],s.past,s.beg⟩:=by unfold Ew;rw[if_pos hE,if_pos h]
   rw[est]
   have hts:∀ {i:Nat} {t:Tk},(doW s.w x).ts[i]?=some t->s.w.ts[i]?=some t:=fun {i t} h2=>by rwa [e] at h2
   have hm:(doW s.w x).m = { s.w.m with now:=s.w.m.now+1 }:=by rw[e]
   have St:∀ b,Still s.w.m (doW s.w x).m b:=fun b=>by rw[hm];exact⟨rfl,rfl,fun _ _=>⟨rfl,rfl⟩,by show s.w.m.now<=s.w.m.now+1;omega⟩
   exact⟨hw1.symm,I',by show s.beg.length=(doW s.w x).ts.length;rw[e];exact S.bl,hbn,(fun i t hi hb hk=>(S.li i t (hts hi) hb hk).still (fun _=>St _)),(fun i t b hi hb hk hbg=>(S.sw i t b (hts hi) hb hk hbg).still (St 0).now (fun _=>St _)),hlt⟩
  | begin h hs hr hi hb hc h1 h6 e =>
   have est:Ew n s x=⟨doW s.w x,s.said ++ [0],s.past,s.beg.set x.task.toNat n⟩:=by unfold Ew;rw[if_pos hE,if_neg (by simp[h]),if_neg (by simp[hs])]
   rw[est]
   have hm:(doW s.w x).m=s.w.m:=by rw[e]
   have em':(runW w0 (l.take n)).m=s.w.m:=by rw[S.w]
   have hts:∀ {i:Nat} {t:Tk},(doW s.w x).ts[i]?=some t->(i=x.task.toNat/\t=⟨true,newF x.c,(tkAt s.w x).held⟩/\i<s.w.ts.length)\/(i≠x.task.toNat/\s.w.ts[i]?=some t):=fun {i t} h2=>by
    rw[e] at h2
    rcases Fv h2 with ⟨h3,h4,h5⟩|h3
    ·exact .inl ⟨h3,h4,by omega⟩
    ·exact .inr h3
   refine⟨hw1.symm,I',by show (s.beg.set _ n).length=(doW s.w x).ts.length;rw[e,List.length_set,List.length_set];exact S.bl,fun b hb=>?_,fun i t hi' hb' hk=>?_,fun i t b hi' hb' hk hbg=>?_,hlt⟩
   ·rcases List.mem_or_eq_of_mem_set hb with h|h
    ·exact hbn b h
    ·omega
   ·show LiI (doW s.w x).m t.f
    rw[hm]
    rcases hts hi' with ⟨-,rfl,-⟩|⟨-,h2⟩
    ·exact li_new _ _
    ·exact S.li i t h2 hb' hk
   ·show SwI _ (doW s.w x).m t.f
    rw[hm]
    have hbg2:(s.beg.set x.task.toNat n)[i]?=some b:=hbg
    rcases hts hi' with ⟨rfl,rfl,hl⟩|⟨hne,h2⟩
    ·rw[List.getElem?_set_self (by rw[S.bl];exact hl)] at hbg2
     injection hbg2 with hbg2
     subst hbg2
     rw[em']
     exact sw_new _ _
    ·rw[List.getElem?_set_ne (fun h=>hne h.symm)] at hbg2
     exact S.sw i t b h2 hb' hk hbg2
  | step h hs hr hi hb e =>
   have hm:(doW s.w x).m=(stepT s.w.m x.task.toNat (tkAt s.w x)).1:=by rw[e]
   have hil:x.task.toNat<s.w.ts.length:=by omega
   have hnew:(doW s.w x).ts.getD x.task.toNat idle=(stepT s.w.m x.task.toNat (tkAt s.w x)).2:=by
    rw[e,List.getD_eq_getElem?_getD,List.getElem?_set_self hil];rfl
   obtain⟨b,hbg⟩:∃ b,s.beg[x.task.toNat]?=some b:=⟨_,List.getElem?_eq_getElem (by rw[S.bl];exact hil)⟩
   have hbl:s.beg.length=(doW s.w x).ts.length:=by rw[e,List.length_set];exact S.bl
   have hts:∀ {i:Nat} {t:Tk},(doW s.w x).ts[i]?=some t->(i=x.task.toNat/\t=(stepT s.w.m x.task.toNat (tkAt s.w x)).2)\/(i≠x.task.toNat/\s.w.ts[i]?=some t):=fun {i t} h2=>by
    rw[e] at h2
    rcases Fv h2 with ⟨h3,h4,h5⟩|h3
    ·exact .inl ⟨h3,h4⟩
    ·exact .inr h3
   have hkc:=Ob s.w.m x.task.toNat (tkAt s.w x)
   have hnow:s.w.m.now<=(doW s.w x).m.now:=by
    rw[hm]
    exact Px (P:=fun m'=>s.w.m.now<=m'.now) S.inv ⟨Int.le_refl _,fun _ _ _=>Int.le_refl _,(fun s' _ _=>by unfold putN;split <;> exact Int.le_refl _),fun _ _ _ _=>Int.le_refl _,fun _ _ _ _ _ _=>Int.le_refl _,fun _ _ _ _ _ _ _ _ _=>Int.le_refl _,(fun b' l1 a l2 _ _ _=>by unfold cutM;split <;> exact Int.le_refl _)⟩ hi hb
   have hsw:∀ k,(tkAt s.w x).f.c.kind=k->(k=4\/k=5)->stepT s.w.m x.task.toNat (tkAt s.w x)=(swM x.task.toNat s.w.m (tkAt s.w x).f,Be (swF s.w.m (tkAt s.w x).f) (tkAt s.w x)):=fun k hk hk'=>by
    unfold stepT;rw[if_neg (by omega),if_neg (by omega),if_neg (by omega),if_neg (by omega)]
   have hli:∀ (i:Nat) t,(doW s.w x).ts[i]?=some t->t.busy=true->t.f.c.kind=5->LiI (doW s.w x).m t.f:=fun i t hi' hb' hk=>by
    rcases hts hi' with ⟨rfl,rfl⟩|⟨hne,h2⟩
    ·rw[hkc] at hk
     have es:=hsw 5 hk (.inr rfl)
     rw[hm]
     rw[es] at hb' ⊢
     have hd:(swF s.w.m (tkAt s.w x).f).done=false:=by
      have:(!(swF s.w.m (tkAt s.w x).f).done)=true:=hb'
      simpa using this
     exact li_step S.inv hi hb hk (S.li _ _ hi hb hk) hd
    ·rw[hm]
     exact(S.li i t h2 hb' hk).still (fun hp=>Rj S.inv h2 hb' (U4 (.inr hk) hp) hi hb (fun h=>hne h.symm))
   have hswi:∀ (i:Nat) t b,(doW s.w x).ts[i]?=some t->t.busy=true->t.f.c.kind=4->s.beg[i]?=some b->SwI (runW w0 (l.take b)).m.now (doW s.w x).m t.f:=fun i t b' hi' hb' hk hbg'=>by
    rcases hts hi' with ⟨rfl,rfl⟩|⟨hne,h2⟩
    ·rw[hkc] at hk
     have es:=hsw 4 hk (.inl rfl)
     rw[hm]
     rw[es] at hb' ⊢
     have hd:(swF s.w.m (tkAt s.w x).f).done=false:=by
      have:(!(swF s.w.m (tkAt s.w x).f).done)=true:=hb'
      simpa using this
     exact sw_step S.inv hi hb hk (S.sw _ _ b' hi hb hk hbg') hd
    ·refine(S.sw i t b' h2 hb' hk hbg').still hnow (fun hp=>?_)
     rw[hm]
     exact Rj S.inv h2 hb' (U4 (.inl hk) hp) hi hb (fun h=>hne h.symm)
   by_cases hbz:((doW s.w x).ts.getD x.task.toNat idle).busy=true
   ·have est:Ew n s x=⟨doW s.w x,s.said ++ [0],s.past,s.beg⟩:=by unfold Ew;rw[if_pos hE,if_neg (by simp[h]),if_pos hs,if_pos hbz]
    rw[est]
    exact⟨hw1.symm,I',hbl,hbn,hli,hswi,hlt⟩
   ·have est:Ew n s x=⟨doW s.w x,s.said ++ [0],s.past ++ [overP n x (s.beg.getD x.task.toNat 0) ((doW s.w x).ts.getD x.task.toNat idle)],s.beg⟩:=by unfold Ew;rw[if_pos hE,if_neg (by simp[h]),if_pos hs,if_neg hbz]
    rw[est]
    refine⟨hw1.symm,I',hbl,hbn,hli,hswi,fun p hp=>?_⟩
    rcases List.mem_append.1 hp with hp|hp
    ·exact hlt p hp
    rw[List.mem_singleton] at hp
    have hbv:s.beg.getD x.task.toNat 0=b:=by rw[List.getD_eq_getElem?_getD,hbg];rfl
    rw[hbv,hnew] at hp
    have hbz':(stepT s.w.m x.task.toNat (tkAt s.w x)).2.busy=false:=by rw[hnew] at hbz;simpa using hbz
    have hto:p.to=n/\p.fro=b:=by rw[hp];exact⟨rfl,rfl⟩
    have hbb:=S.bn b (List.mem_of_getElem? hbg)
    have hc:p.c=(tkAt s.w x).f.c:=by rw[hp];exact hkc
    have F:=S.inv.fi _ (List.mem_of_getElem? hi) hb
    have hbk:=S.inv.bk hi hb
    -- the last step of a List or a Sweep
    have last:∀ k,(tkAt s.w x).f.c.kind=k->(k=4\/k=5)->(tkAt s.w x).f.pl=6/\Still s.w.m (doW s.w x).m (bkN s.w.m (tkAt s.w x).f)/\p.keys=(tkAt s.w x).f.keys:=fun k hk hk'=>by
     have es:=hsw k hk hk'
     rw[es] at hp hbz'
     have hd:(swF s.w.m (tkAt s.w x).f).done=true:=by
      have:(!(swF s.w.m (tkAt s.w x).f).done)=false:=hbz'
      simpa using this
     have hfd:=F.fit.done
     have p6:(tkAt s.w x).f.pl=6:=by
      by_cases p6:(tkAt s.w x).f.pl=6
      ·exact p6
      ·exfalso
       revert hd
       unfold swF Eh Es Fq Kv Ii
       repeat' split
       all_goals intro hd
       all_goals first
        | omega
        | (have hd':(tkAt s.w x).f.done=true:=hd;rw[hfd] at hd';cases hd')
     refine⟨p6,?_,?_⟩
     ·rw[hm,es]
      show Still s.w.m (swM x.task.toNat s.w.m (tkAt s.w x).f) _
      rw[swM6 p6]
      unfold D5
      split
      ·exact Fp S.inv.okc (Pi S.inv.okc _ (bkN s.w.m (tkAt s.w x).f) (by omega)) hbk.1 (.inr rfl)
      ·exact .refl _ _
     ·rw[hp]
      show (swF s.w.m (tkAt s.w x).f).keys=_
      rw[swF6 p6]
      rfl
    refine⟨by omega,by omega,fun hk=>?_,fun hk=>?_⟩
    ·rw[hc] at hk
     obtain⟨p6,St,ek⟩:=last 5 hk (.inr rfl)
     rw[hto.1,hw1,hc,<- Y3 (m:=s.w.m) (.inr hk),St.ch,Me St (fun a ha=>ha),ek]
     exact(S.li _ _ hi hb hk).all p6
    ·rw[hc] at hk
     obtain⟨p6,St,ek⟩:=last 4 hk (.inl rfl)
     rw[hto.1,hto.2,hw1,hc,<- Y3 (m:=s.w.m) (.inl hk),St.ch]
     intro y hy
     rw[(St.sl y hy).2]
     exact(S.sw _ _ b hi hb hk hbg).all p6 y hy
 ·have hw1:runW w0 (l.take (n+1))=s.w:=by rw[hw];unfold Ib;rw[if_neg hE]
  have est:Ew n s x=⟨s.w,s.said ++ [doE s.w x],s.past,s.beg⟩:=by unfold Ew;rw[if_neg hE]
  rw[est]
  exact⟨hw1.symm,S.inv,S.bl,hbn,S.li,S.sw,hlt⟩
theorem sw_run{w0:Wd}{l:List Pk}:∀ (k n:Nat) (s:Rs),n+k=l.length->SW w0 l n s->SW w0 l l.length (runR n s (l.drop n))
 | 0,n,s,hk,S=>by
  obtain rfl:n=l.length:=by omega
  rw[List.drop_length]
  exact S
 | k+1,n,s,hk,S=>by
  have hn:n<l.length:=by omega
  rw[List.drop_eq_getElem_cons hn]
  exact sw_run k (n+1) _ (by omega) (Xt hn S)
theorem Xq{w0:Wd}(I0:WInv w0)(hb:∀ t∈w0.ts,t.busy=false)(l:List Pk):∀ p∈(runR 0 (rs0 w0) l).past,p.fro<=p.to/\p.to<l.length /\
  (p.c.kind=5->p.keys=(chL (runW w0 (l.take (p.to+1))).m p.c.bk.toNat).map (keyAt (runW w0 (l.take (p.to+1))).m)) /\
  (p.c.kind=4->∀ x∈chL (runW w0 (l.take (p.to+1))).m p.c.bk.toNat,(runW w0 (l.take p.fro)).m.now<(A8 (runW w0 (l.take (p.to+1))).m x).unt):=by
 have nb:∀ {i:Nat} {t:Tk},w0.ts[i]?=some t->t.busy=true->False:=fun hi h=>by
  have:=hb _ (List.mem_of_getElem? hi)
  rw[h] at this
  cases this
 have S:SW w0 l 0 (rs0 w0):=⟨rfl,I0,by simp[rs0],(fun b h=>by have:=List.eq_of_mem_replicate h;omega),(fun i t hi h=>(nb hi h).elim),(fun i t b hi h=>(nb hi h).elim),fun p hp=>by cases hp⟩
 have:=sw_run l.length 0 (rs0 w0) (by omega) S
 rw[List.drop_zero] at this
 exact this.past
end
end Go.Proofs.YthhgoenomehobaaGreat.mm
