/- Parts. -/
import Derived.Test.YthhgoenomehobaaGreatS37
import Derived.Test.YthhgoenomehobaaGreatS04
namespace Go.Proofs.YthhgoenomehobaaGreat.mm
set_option maxRecDepth 100000
set_option linter.unusedVariables false
section
def waits(m:Mm)(f:Fr):Prop:=Ak m (bkN m f) ≠ -1/\((f.c.kind=2/\f.pl=1)\/((f.c.kind=3\/f.c.kind=4\/f.c.kind=5)/\f.pl=0))
section
variable {w:Wd} {i:Nat} {t:Tk}
end
end
section
def Ed(w:Wd)(i:Nat):Wd:=match w.ts[i]? with
 | none=>w
 | some t=>if t.busy then ⟨(stepT w.m i t).1,w.ts.set i (stepT w.m i t).2⟩ else w
def I7(w:Wd):Wd:=(List.range w.ts.length).foldl Ed w
section
variable {w:Wd} {i:Nat} {t:Tk}
theorem Zi(h:w.ts[i]?=none):Ed w i=w:=by unfold Ed;rw[h]
theorem Zh(h:w.ts[i]?=some t)(hb:t.busy=false):Ed w i=w:=by unfold Ed;rw[h];simp[hb]
theorem Rj(h:w.ts[i]?=some t)(hb:t.busy=true):Ed w i=⟨(stepT w.m i t).1,w.ts.set i (stepT w.m i t).2⟩:=by unfold Ed;rw[h];simp[hb]
theorem b8d(I:Bi w)(i:Nat):Bi (Ed w i):=by
 cases h:w.ts[i]? with
 | none=>rw[Zi h];exact I
 | some t =>
  cases hb:t.busy with
  | false=>rw[Zh h hb];exact I
  | true=>rw[Rj h hb];exact a0b I h hb
theorem a9x{j:Nat}(hne:j≠i):(Ed w i).ts[j]?=w.ts[j]?:=by
 cases h:w.ts[i]? with
 | none=>rw[Zi h]
 | some t =>
  cases hb:t.busy with
  | false=>rw[Zh h hb]
  | true=>rw[Rj h hb];exact List.getElem?_set_ne (fun e=>hne e.symm)
end
end
section
def sufIn(l:List Int)(n:Int):Nat:=(l.dropWhile (fun x=>decide (x+1≠n))).length
def b9n(m:Mm)(n:Int):Nat:=((List.range m.heads.length).map (fun c=>sufIn (chL m c) n)).sum
def b7q:List Int->Int->Nat
 | [],_=>0
 | x :: l,y=>if x=y then 0 else b7q l y+1
def hop(m:Mm)(S:List Int)(n:Int):Nat:=if n<=0 then 0 else if n - 1∈Ba m then b9n m n else b7q S (n - 1)+13
end
section
def rounds:Nat->Wd->Wd
 | 0,w=>w
 | n+1,w=>rounds n (I7 w)
theorem Og:∀ (a b:Nat) (w:Wd),rounds (a+b) w=rounds b (rounds a w)
 | 0,b,w=>by rw[Nat.zero_add];rfl
 | a+1,b,w=>by
  rw[show a+1+b=(a+b)+1 by omega]
  exact Og a b (I7 w)
end
section
def Idle(w:Wd):Prop:=∀ t∈w.ts,t.busy=false
theorem Po{w:Wd}:∀ (L:List Nat),(∀ j∈L,∀ t,w.ts[j]?=some t->t.busy=false)->L.foldl Ed w=w
 | [],_=>rfl
 | j :: L,h=>by
  have hj:Ed w j=w:=by
   cases e:w.ts[j]? with
   | none=>exact Zi e
   | some t=>exact Zh e (h j (by simp) t e)
  rw[List.foldl_cons,hj]
  exact Po L (fun k hk=>h k (by simp[hk]))
theorem a3o{w:Wd}(h:Idle w):I7 w=w:=Po _ (fun j _ t hj=>h t (List.mem_of_getElem? hj))
theorem Pe{w:Wd}(h:Idle w):∀ n,rounds n w=w
 | 0=>rfl
 | n+1=>by
  show rounds n (I7 w)=w
  rw[a3o h]
  exact Pe h n
theorem Qu{w:Wd}{i:Nat}(hi:i<w.ts.length)(ho:∀ (j:Nat) t,w.ts[j]?=some t->j≠i->t.busy=false):I7 w=Ed w i:=by
 unfold I7
 obtain⟨p,q,e⟩:=List.append_of_mem (List.mem_range.2 hi)
 have hn:(p++i :: q).Nodup:=e ▸ List.nodup_range
 rw[List.nodup_append,List.nodup_cons] at hn
 rw[e,List.foldl_append,List.foldl_cons]
 have hp:p.foldl Ed w=w:=Po p (fun j hj t ht=>ho j t ht (fun h=>hn.2.2 j hj i (by simp) h))
 rw[hp]
 refine Po q (fun j hj t ht=>?_)
 have hji:j≠i:=fun h=>hn.2.1.1 (h ▸ hj)
 rw[a9x hji] at ht
 exact ho j t ht hji
theorem a8l{ts:List Tk}{i:Nat}{t':Tk}(ho:∀ (j:Nat) t,ts[j]?=some t->j≠i->t.busy=false):∀ (j:Nat) t,(ts.set i t')[j]?=some t->j≠i->t.busy=false:=fun j t hj hne=>by
 rcases Ip hj with ⟨h,_,_⟩|⟨_,h⟩
 ·exact(hne h).elim
 ·exact ho j t h hne
theorem Ru{f g:Nat->List Int}:∀ {l:List Nat},(∀ x∈l,f x=g x)->l.flatMap f=l.flatMap g
 | [],_=>rfl
 | a :: l,h=>by
  rw[List.flatMap_cons,List.flatMap_cons,h a (by simp),Ru fun x hx=>h x (by simp[hx])]
theorem a1v{nf:Mm->Fr->Fr}{nm:Mm->Fr->Mm}{i:Nat}{held:List Int}{ts:List Tk}(hi:i<ts.length)(ho:∀ (j:Nat) t,ts[j]?=some t->j≠i->t.busy=false)
  (K:Fr->Prop) (hK:∀ m f,K f->K (nf m f)) (hst:∀ m f,K f->stepT m i ⟨true,f,held⟩=(nm m f,⟨!(nf m f).done,nf m f,held⟩)) {X:Mm} {g:Fr} :
  ∀ (n:Nat) (m:Mm) (f:Fr),K f->run nf nm n m f=(X,g,true)->∃ j,j<=n/\rounds j ⟨m,ts.set i ⟨true,f,held⟩⟩=⟨X,ts.set i ⟨false,g,held⟩⟩
 | 0,m,f,_,h=>by
  have h2:(m,f,false)=(X,g,true):=h
  injection h2 with _ h2
  injection h2 with _ h2
  cases h2
 | n+1,m,f,hk,h=>by
  have hr:I7 ⟨m,ts.set i ⟨true,f,held⟩⟩=⟨nm m f,ts.set i ⟨!(nf m f).done,nf m f,held⟩⟩:=by
   rw[Qu (i:=i) (by simpa using hi) (a8l ho),Rj (t:=⟨true,f,held⟩) (List.getElem?_set_self hi) rfl]
   show (⟨(stepT m i ⟨true,f,held⟩).1,(ts.set i ⟨true,f,held⟩).set i (stepT m i ⟨true,f,held⟩).2⟩:Wd)=_
   rw[hst m f hk,List.set_set]
  cases hd:(nf m f).done with
  | true =>
   rw[run_end hd] at h
   injection h with h1 h2
   injection h2 with h2 _
   refine⟨1,by omega,?_⟩
   show I7 _=_
   rw[hr,hd,h1,h2]
   rfl
  | false =>
   rw[run_go hd] at h
   obtain⟨j,hj,e⟩:=a1v hi ho K hK hst n (nm m f) (nf m f) (hK m f hk) h
   refine⟨j+1,by omega,?_⟩
   show rounds j (I7 _)=_
   rw[hr,hd]
   exact e
theorem Xi:∀ (n:Nat) {w:Wd},Bi w->Bi (rounds n w)
 | 0,_,I=>I
 | n+1,w,I=>by
  refine Xi n ?_
  unfold I7
  have:∀ (L:List Nat) (v:Wd),Bi v->Bi (L.foldl Ed v):=fun L=>by
   induction L with
   | nil=>exact fun v h=>h
   | cons j L ih=>exact fun v h=>ih _ (b8d h j)
  exact this _ _ I
theorem a2x{w:Wd}(I:Bi w)(h:Idle w):∀ x∈w.m.locks,x=-1:=fun x hx=>by
 obtain⟨b,hb,rfl⟩:=List.getElem_of_mem hx
 have hbh:b<w.m.heads.length:=by rw[<- I.okc.ok.nl];exact hb
 have e:Ak w.m b=w.m.locks[b]:=by simp[Ak,List.getD_eq_getElem?_getD,hb]
 rw[<- e]
 by_cases hl:Ak w.m b=-1
 ·exact hl
 ·obtain⟨i,t,_,h2,h3,_⟩:=I.lockO b hbh hl
  rw[h t (List.mem_of_getElem? h2)] at h3
  cases h3
end
end Go.Proofs.YthhgoenomehobaaGreat.mm
