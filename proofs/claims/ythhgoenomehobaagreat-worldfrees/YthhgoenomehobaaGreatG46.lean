/- Parts. -/
import Derived.Test.YthhgoenomehobaaGreatG19
import Derived.Test.YthhgoenomehobaaGreatG04
namespace Go.Proofs.YthhgoenomehobaaGreat.mm
set_option maxRecDepth 100000
set_option linter.unusedVariables false
section
def suf(m:Mm)(f:Fr):Nat:=((chL m (bkN m f)).dropWhile (fun x=>decide (x+1≠f.cur))).length
theorem Ny{n:Int}:∀ (l1 l2:List Int),(∀ x∈l1,x+1≠n)->(l1++l2).dropWhile (fun x=>decide (x+1≠n))=l2.dropWhile (fun x=>decide (x+1≠n))
 | [],l2,_=>rfl
 | x :: l1,l2,h=>by
  have hx:decide (x+1≠n)=true:=by simpa using h x (by simp)
  have:=Ny l1 l2 (fun y hy=>h y (by simp[hy]))
  simp only[List.cons_append,List.dropWhile_cons,hx,if_true]
  exact this
theorem Ef{m:Mm}{f:Fr}{l1 l2:List Int}(hM:OkC m)(hb:bkN m f<m.heads.length)(R:Rest m f l1 l2):suf m f=l2.length:=by
 unfold suf
 have hs:=hM.slots hb
 rw[R.1] at hs ⊢
 have hnd:=hM.nodup hb
 rw[R.1] at hnd
 cases l2 with
 | nil =>
  have hc:f.cur=-1 - ((bkN m f:Nat):Int):=R.2
  rw[Ny l1 [] (fun x hx=>by have:=(hs x (by simp[hx])).1;omega)]
  rfl
 | cons a l2 =>
  have hc:f.cur=a+1:=R.2
  rw[List.nodup_append] at hnd
  rw[Ny l1 (a :: l2) (fun x hx e=>hnd.2.2 x hx a (by simp) (by omega))]
  rw[List.dropWhile_cons_of_neg (by simp[hc])]
def rem(m:Mm)(f:Fr):Nat :=
 if f.c.kind=1 then 0
 else if f.c.kind=2 then (if f.pl=0 then 34 else if f.pl=1 then 33 else if f.pl=2 then 32 else if f.pl=3 then 2*suf m f+4 else if f.pl=4 then 2*suf m f+3 else if f.pl=7 then 1 else 3)
 else if f.c.kind=3 then (if f.pl=0 then 34 else if f.pl=1 then 33 else if f.pl=2 then 2*suf m f+4 else if f.pl=3 then 2*suf m f+3 else if f.pl=4 then 3 else if f.pl=5 then 2 else 1)
 else if f.c.kind=6 then 1
 else (if f.pl=0 then 42 else if f.pl=1 then 41 else if f.pl=2 then 3*suf m f+3 else if f.pl=3 then 3*suf m f+2 else if f.pl=4 then 3*suf m f+2 else if f.pl=5 then 3*suf m f+4 else 2)
def remT(m:Mm)(t:Tk):Nat:=if t.busy then rem m t.f else 0
def waits(m:Mm)(f:Fr):Prop:=Aj m (bkN m f) ≠ -1/\((f.c.kind=2/\f.pl=1)\/((f.c.kind=3\/f.c.kind=4\/f.c.kind=5)/\f.pl=0))
theorem Eu{m:Mm}{g:Fr}{h:List Int}(hd:g.done=false):remT m ⟨!g.done,g,h⟩=rem m g:=by unfold remT;rw[hd];rfl
theorem Oj{m:Mm}{g:Fr}{h:List Int}(hd:g.done=true):remT m ⟨!g.done,g,h⟩=0:=by unfold remT;rw[hd];rfl
section
variable {w:Wd} {i:Nat} {t:Tk}
theorem rem2{m:Mm}{f:Fr}(h:f.c.kind=2):rem m f=(if f.pl=0 then 34 else if f.pl=1 then 33 else if f.pl=2 then 32 else if f.pl=3 then 2*suf m f+4 else if f.pl=4 then 2*suf m f+3 else if f.pl=7 then 1 else 3):=by
 unfold rem;rw[if_neg (by omega),if_pos h]
theorem rem3{m:Mm}{f:Fr}(h:f.c.kind=3):rem m f=(if f.pl=0 then 34 else if f.pl=1 then 33 else if f.pl=2 then 2*suf m f+4 else if f.pl=3 then 2*suf m f+3 else if f.pl=4 then 3 else if f.pl=5 then 2 else 1):=by
 unfold rem;rw[if_neg (by omega),if_neg (by omega),if_pos h]
theorem rem4{m:Mm}{f:Fr}(h:f.c.kind=4\/f.c.kind=5):rem m f=(if f.pl=0 then 42 else if f.pl=1 then 41 else if f.pl=2 then 3*suf m f+3 else if f.pl=3 then 3*suf m f+2 else if f.pl=4 then 3*suf m f+2 else if f.pl=5 then 3*suf m f+4 else 2):=by
 unfold rem;rw[if_neg (by omega),if_neg (by omega),if_neg (by omega),if_neg (by omega)]
set_option maxHeartbeats 800000 in
theorem add_rem(I:WInv w)(hi:w.ts[i]?=some t)(hb:t.busy=true)(hk:t.f.c.kind=2):(waits w.m t.f/\stepT w.m i t=(w.m,t))\/remT (stepT w.m i t).1 (stepT w.m i t).2<rem w.m t.f:=by
 have htm:=List.mem_of_getElem? hi
 have F:=I.fi t htm hb
 have hbk:=I.bk hi hb
 have I':=Ld I hi hb
 obtain⟨a1,a2,a3,a4,a5,a6,a7⟩:=F.add hk
 have hfd:=F.fit.done
 have hpl:=F.fit.pl
 have hlen:=P9 I.okc hbk.1
 have hns:=I.okc.ok.ns
 have es:stepT w.m i t=(adM i w.m t.f,Am (adF w.m t.f) t):=by unfold stepT;rw[if_neg (by omega),if_pos hk]
 rw[es] at I' ⊢
 dsimp only at I' ⊢
 have small:∀ g:Fr,adF w.m t.f=g->g.done=false->g.c=t.f.c->(g.pl=1\/g.pl=2\/g.pl=5\/g.pl=6\/g.pl=7)->∀ n,rem w.m t.f=n->(if g.pl=1 then 33 else if g.pl=2 then 32 else if g.pl=7 then 1 else 3)<n->remT (adM i w.m t.f) (Am (adF w.m t.f) t)<rem w.m t.f:=fun g e hd hc hg n hn hlt=>by
  rw[e]
  have h1:remT (adM i w.m t.f) (Am g t)=rem (adM i w.m t.f) g:=Eu hd
  rw[h1,hn,rem2 (by rw[hc];exact hk)]
  rcases hg with h|h|h|h|h <;> rw[h] at hlt ⊢ <;> simpa using hlt
 have hp:t.f.pl=0\/t.f.pl=1\/t.f.pl=2\/t.f.pl=3\/t.f.pl=4\/t.f.pl=5\/t.f.pl=6\/t.f.pl=7:=by omega
 rcases hp with p|p|p|p|p|p|p|p
 ·right
  have e:=adF0 (M:=w.m) p
  unfold Hw at e
  have hr:rem w.m t.f=34:=by rw[rem2 hk,if_pos p]
  by_cases hF:w.m.free.length=0
  ·rw[if_pos hF] at e
   rw[e,hr]
   have:remT (adM i w.m t.f) (Am (endF t.f 7) t)=0:=Oj rfl
   omega
  ·rw[if_neg hF] at e
   exact small _ e hfd rfl (.inl rfl) 34 hr (by simp[Ci])
 ·have e:=adF1 (M:=w.m) p
  have em:=adM1 (M:=w.m) (t:=(i:Int)) p
  unfold Jr at e
  unfold Cf at em
  have hr:rem w.m t.f=33:=by rw[rem2 hk,if_neg (by omega),if_pos p]
  by_cases hF:Aj w.m (bkN w.m t.f)=-1
  ·right
   rw[if_pos hF] at e
   exact small _ e hfd rfl (.inr (.inl rfl)) 33 hr (by simp[toF])
  ·left
   rw[if_neg hF] at e em
   exact⟨⟨hF,.inl ⟨hk,p⟩⟩,by rw[e,em,La hb hfd]⟩
 ·right
  have e:=adF2 (M:=w.m) p
  have em:adM (i:Int) w.m t.f=w.m:=Gp (by omega)
  have hr:rem w.m t.f=32:=by rw[rem2 hk,if_neg (by omega),if_neg (by omega),if_pos p]
  rw[e,em,hr]
  have h1:remT w.m (Am (curF t.f (Ar w.m (bkN w.m t.f)) 3) t)=rem w.m (curF t.f (Ar w.m (bkN w.m t.f)) 3):=Eu hfd
  have R:Rest w.m (curF t.f (Ar w.m (bkN w.m t.f)) 3) [] (chL w.m (bkN w.m t.f)):=⟨rfl,I.okc.Hf hbk.1⟩
  have hs:=Ef (f:=curF t.f (Ar w.m (bkN w.m t.f)) 3) I.okc hbk.1 R
  rw[h1,rem2 (f:=curF t.f (Ar w.m (bkN w.m t.f)) 3) hk,hs]
  simp[curF] <;> omega
 ·right
  obtain⟨l1,l2,R,N⟩:=a4 p
  obtain⟨hat,hcur⟩:=Bh I.okc hbk.1 R
  have hs:=Ef I.okc hbk.1 R
  have em:adM (i:Int) w.m t.f=w.m:=Gp (by omega)
  have hr:rem w.m t.f=2*l2.length+4:=by rw[rem2 hk,if_neg (by omega),if_neg (by omega),if_neg (by omega),if_pos p,hs]
  have e:=adF3 (M:=w.m) p
  unfold Nu at e
  cases l2 with
  | nil =>
   have hno:isAt w.m t.f=false:=by
    cases h:isAt w.m t.f
    ·rfl
    ·obtain⟨a,l,e⟩:=hat.1 h;cases e
   rw[hno] at e
   exact small (toF t.f 5) e hfd rfl (.inr (.inr (.inl rfl))) _ hr (by simp[toF])
  | cons a l2 =>
   rw[if_pos (hat.2 ⟨a,l2,rfl⟩),hcur a l2 rfl] at e
   simp only[List.length_cons] at hr
   by_cases hkk:lkK (A7 w.m a) t.f=true
   ·rw[if_pos hkk] at e
    exact small _ e hfd rfl (.inr (.inr (.inr (.inl rfl)))) _ hr (by simp[toF] <;> omega)
   ·rw[if_neg hkk] at e
    rw[e,em,hr]
    have h1:remT w.m (Am (toF t.f 4) t)=rem w.m (toF t.f 4):=Eu hfd
    have hs':suf w.m (toF t.f 4)=suf w.m t.f:=rfl
    rw[h1,rem2 (f:=toF t.f 4) hk,hs',hs]
    simp[toF] <;> omega
 ·right
  obtain⟨l1,a,l2,R,N⟩:=a5 p
  obtain⟨hat,hcur⟩:=Bh I.okc hbk.1 R
  have hs:=Ef I.okc hbk.1 R
  have em:adM (i:Int) w.m t.f=w.m:=Gp (by omega)
  have hr:rem w.m t.f=2*(l2.length+1)+3:=by rw[rem2 hk,if_neg (by omega),if_neg (by omega),if_neg (by omega),if_neg (by omega),if_pos p,hs];rfl
  have e:=adF4 (M:=w.m) p
  unfold Ip at e
  rw[if_pos (hat.2 ⟨a,l2,rfl⟩),hcur a l2 rfl] at e
  rw[e,em,hr]
  have h1:remT w.m (Am (curF t.f (A7 w.m a).next 3) t)=rem w.m (curF t.f (A7 w.m a).next 3):=Eu hfd
  have R':Rest w.m (curF t.f (A7 w.m a).next 3) (l1 ++ [a]) l2:=⟨by show chL w.m (bkN w.m t.f)=_;rw[R.1];simp,I.okc.Ey hbk.1 R.1⟩
  have hs':=Ef (f:=curF t.f (A7 w.m a).next 3) I.okc hbk.1 R'
  rw[h1,rem2 (f:=curF t.f (A7 w.m a).next 3) hk,hs']
  simp[curF] <;> omega
 ·right
  obtain⟨x1,x2,x3⟩:=a3 (by omega) (by omega)
  have e:=adF5 (M:=w.m) p
  unfold Io at e
  rw[if_pos x1] at e
  have hr:rem w.m t.f=3:=by rw[rem2 hk,if_neg (by omega),if_neg (by omega),if_neg (by omega),if_neg (by omega),if_neg (by omega),if_neg (by omega)]
  exact small _ e hfd rfl (.inr (.inr (.inr (.inr rfl)))) 3 hr (by simp)
 ·right
  obtain⟨x1,x2,x3⟩:=a3 (by omega) (by omega)
  have e:=adF6 (M:=w.m) p
  unfold Nr at e
  rw[if_pos x1] at e
  have hr:rem w.m t.f=3:=by rw[rem2 hk,if_neg (by omega),if_neg (by omega),if_neg (by omega),if_neg (by omega),if_neg (by omega),if_neg (by omega)]
  exact small _ e hfd rfl (.inr (.inr (.inr (.inr rfl)))) 3 hr (by simp)
 ·right
  have hr:rem w.m t.f=1:=by rw[rem2 hk,if_neg (by omega),if_neg (by omega),if_neg (by omega),if_neg (by omega),if_neg (by omega),if_pos p]
  rw[adF7 p,hr]
  have:remT (adM i w.m t.f) (Am (endF t.f t.f.e) t)=0:=Oj rfl
  omega
end
end
section
section
variable {w:Wd} {i:Nat} {t:Tk}
set_option maxHeartbeats 800000 in
theorem drop_rem(I:WInv w)(hi:w.ts[i]?=some t)(hb:t.busy=true)(hk:t.f.c.kind=3):(waits w.m t.f/\stepT w.m i t=(w.m,t))\/remT (stepT w.m i t).1 (stepT w.m i t).2<rem w.m t.f:=by
 have htm:=List.mem_of_getElem? hi
 have F:=I.fi t htm hb
 have hbk:=I.bk hi hb
 obtain⟨a1,a2,a3,a4,a5,a6⟩:=F.drop hk
 have hfd:=F.fit.done
 have hpl:=F.fit.pl
 have hlen:=P9 I.okc hbk.1
 have hns:=I.okc.ok.ns
 have es:stepT w.m i t=(drM i w.m t.f,Am (drF w.m t.f) t):=by unfold stepT;rw[if_neg (by omega),if_neg (by omega),if_pos hk]
 rw[es]
 dsimp only
 have hp:t.f.pl=0\/t.f.pl=1\/t.f.pl=2\/t.f.pl=3\/t.f.pl=4\/t.f.pl=5\/t.f.pl=6:=by omega
 rcases hp with p|p|p|p|p|p|p
 ·have e:=drF0 (M:=w.m) p
  have em:=drM0 (M:=w.m) (t:=(i:Int)) p
  unfold En at e
  unfold Cf at em
  by_cases hF:Aj w.m (bkN w.m t.f)=-1
  ·right
   rw[if_pos hF] at e
   rw[e]
   have h1:remT (drM i w.m t.f) (Am (toF t.f 1) t)=rem (drM i w.m t.f) (toF t.f 1):=Eu hfd
   rw[h1,rem3 hk,rem3 (f:=toF t.f 1) hk,if_pos p]
   simp[toF]
  ·left
   rw[if_neg hF] at e em
   exact⟨⟨hF,.inr ⟨.inl hk,p⟩⟩,by rw[e,em,La hb hfd]⟩
 ·right
  have em:drM (i:Int) w.m t.f=w.m:=Ee (by omega)
  have R:Rest w.m (Bd t.f 0 (Ar w.m (bkN w.m t.f)) 2) [] (chL w.m (bkN w.m t.f)):=⟨rfl,I.okc.Hf hbk.1⟩
  have hs:=Ef (f:=Bd t.f 0 (Ar w.m (bkN w.m t.f)) 2) I.okc hbk.1 R
  rw[drF1 p,em]
  have h1:remT w.m (Am (Bd t.f 0 (Ar w.m (bkN w.m t.f)) 2) t)=rem w.m (Bd t.f 0 (Ar w.m (bkN w.m t.f)) 2):=Eu hfd
  have hr:rem w.m t.f=33:=by rw[rem3 hk,if_neg (by omega),if_pos p]
  rw[h1,hr,rem3 (f:=Bd t.f 0 (Ar w.m (bkN w.m t.f)) 2) hk,hs]
  simp[Bd] <;> omega
 ·right
  obtain⟨l1,l2,R,N,q⟩:=a3 p
  obtain⟨hat,hcur⟩:=Bh I.okc hbk.1 R
  have hs:=Ef I.okc hbk.1 R
  have em:drM (i:Int) w.m t.f=w.m:=Ee (by omega)
  have hr:rem w.m t.f=2*l2.length+4:=by rw[rem3 hk,if_neg (by omega),if_neg (by omega),if_pos p,hs]
  have e:=drF2 (M:=w.m) p
  unfold Kt at e
  rw[em,hr]
  cases l2 with
  | nil =>
   have hno:isAt w.m t.f=false:=by
    cases h:isAt w.m t.f
    ·rfl
    ·obtain⟨a,l,e⟩:=hat.1 h;cases e
   rw[hno] at e
   have e':drF w.m t.f=errF t.f 5 5:=e
   rw[e']
   have h1:remT w.m (Am (errF t.f 5 5) t)=rem w.m (errF t.f 5 5):=Eu hfd
   rw[h1,rem3 (f:=errF t.f 5 5) hk]
   simp[errF]
  | cons a l2 =>
   rw[if_pos (hat.2 ⟨a,l2,rfl⟩),hcur a l2 rfl] at e
   by_cases hkk:lkK (A7 w.m a) t.f=true
   ·rw[if_pos hkk] at e
    rw[e]
    have h1:remT w.m (Am (toF t.f 4) t)=rem w.m (toF t.f 4):=Eu hfd
    rw[h1,rem3 (f:=toF t.f 4) hk]
    simp[toF] <;> omega
   ·rw[if_neg hkk] at e
    rw[e]
    have h1:remT w.m (Am (toF t.f 3) t)=rem w.m (toF t.f 3):=Eu hfd
    have hs':suf w.m (toF t.f 3)=suf w.m t.f:=rfl
    rw[h1,rem3 (f:=toF t.f 3) hk,hs',hs]
    simp[toF] <;> omega
 ·right
  obtain⟨l1,a,l2,R,N,q⟩:=a4 p
  obtain⟨hat,hcur⟩:=Bh I.okc hbk.1 R
  have hs:=Ef I.okc hbk.1 R
  have em:drM (i:Int) w.m t.f=w.m:=Ee (by omega)
  have hr:rem w.m t.f=2*(l2.length+1)+3:=by rw[rem3 hk,if_neg (by omega),if_neg (by omega),if_neg (by omega),if_pos p,hs];rfl
  have e:=drF3 (M:=w.m) p
  unfold I4 at e
  rw[if_pos (hat.2 ⟨a,l2,rfl⟩),hcur a l2 rfl] at e
  rw[e,em,hr]
  have h1:remT w.m (Am (Bd t.f t.f.cur (A7 w.m a).next 2) t)=rem w.m (Bd t.f t.f.cur (A7 w.m a).next 2):=Eu hfd
  have R':Rest w.m (Bd t.f t.f.cur (A7 w.m a).next 2) (l1 ++ [a]) l2:=⟨by show chL w.m (bkN w.m t.f)=_;rw[R.1];simp,I.okc.Ey hbk.1 R.1⟩
  have hs':=Ef (f:=Bd t.f t.f.cur (A7 w.m a).next 2) I.okc hbk.1 R'
  rw[h1,rem3 (f:=Bd t.f t.f.cur (A7 w.m a).next 2) hk,hs']
  simp[Bd] <;> omega
 ·right
  obtain⟨l1,a,l2,R,_,q⟩:=a5 p
  obtain⟨hat,hcur⟩:=Bh I.okc hbk.1 R
  have e:=drF4 (M:=w.m) p
  unfold Nh at e
  rw[if_pos (hat.2 ⟨a,l2,rfl⟩)] at e
  rw[e]
  have h1:remT (drM i w.m t.f) (Am { t.f with slot:=t.f.cur - 1,e:=0,pl:=5 } t)=rem (drM i w.m t.f) { t.f with slot:=t.f.cur - 1,e:=0,pl:=5 }:=Eu hfd
  rw[h1,rem3 hk,rem3 (f:={ t.f with slot:=t.f.cur - 1,e:=0,pl:=5 }) hk,p]
  simp
 ·right
  rw[drF5 p]
  have h1:remT (drM i w.m t.f) (Am (toF t.f 6) t)=rem (drM i w.m t.f) (toF t.f 6):=Eu hfd
  rw[h1,rem3 hk,rem3 (f:=toF t.f 6) hk,p]
  simp[toF]
 ·right
  rw[drF6 p]
  have h1:remT (drM i w.m t.f) (Am (endF { t.f with slot:=-1 } t.f.e) t)=0:=Oj rfl
  rw[h1,rem3 hk,p]
  simp
set_option maxHeartbeats 800000 in
theorem a7o(I:WInv w)(hi:w.ts[i]?=some t)(hb:t.busy=true)(hk:t.f.c.kind=4\/t.f.c.kind=5):(waits w.m t.f/\stepT w.m i t=(w.m,t))\/remT (stepT w.m i t).1 (stepT w.m i t).2<rem w.m t.f:=by
 have htm:=List.mem_of_getElem? hi
 have F:=I.fi t htm hb
 have hbk:=I.bk hi hb
 have hfd:=F.fit.done
 have hpl:=F.fit.pl
 have hlen:=P9 I.okc hbk.1
 have hns:=I.okc.ok.ns
 have hwk:t.f.c.kind=3\/t.f.c.kind=4\/t.f.c.kind=5:=by omega
 have es:stepT w.m i t=(swM i w.m t.f,Am (swF w.m t.f) t):=by unfold stepT;rw[if_neg (by omega),if_neg (by omega),if_neg (by omega),if_neg (by omega)]
 obtain⟨a1,a2,a3,a4,a5,a6⟩:=F.sweep hk
 have hp:t.f.pl=0\/t.f.pl=1\/t.f.pl=2\/t.f.pl=3\/t.f.pl=4\/t.f.pl=5\/t.f.pl=6:=by clear a2 a3 a4 a5 a6;omega
 have h5:=fun h=>a5 h
 clear a2 a3
 rw[es]
 dsimp only
 rcases hp with p|p|p|p|p|p|p
 ·clear a4 a5 a6 h5
  have e:=swF0 (M:=w.m) p
  have em:=swM0 (M:=w.m) (t:=(i:Int)) p
  unfold En at e
  unfold Cf at em
  by_cases hF:Aj w.m (bkN w.m t.f)=-1
  ·right
   rw[if_pos hF] at e
   rw[e]
   have h1:remT (swM i w.m t.f) (Am (toF t.f 1) t)=rem (swM i w.m t.f) (toF t.f 1):=Eu hfd
   rw[h1,rem4 hk,rem4 (f:=toF t.f 1) hk,if_pos p]
   simp[toF]
  ·left
   rw[if_neg hF] at e em
   exact⟨⟨hF,.inr ⟨hwk,p⟩⟩,by rw[e,em,La hb hfd]⟩
 ·right
  clear a4 a5 a6 h5
  have em:swM (i:Int) w.m t.f=w.m:=Fb (by omega)
  have R:Rest w.m (Bd t.f 0 (Ar w.m (bkN w.m t.f)) 2) [] (chL w.m (bkN w.m t.f)):=⟨rfl,I.okc.Hf hbk.1⟩
  have hs:=Ef (f:=Bd t.f 0 (Ar w.m (bkN w.m t.f)) 2) I.okc hbk.1 R
  rw[swF1 p,em]
  have h1:remT w.m (Am (Bd t.f 0 (Ar w.m (bkN w.m t.f)) 2) t)=rem w.m (Bd t.f 0 (Ar w.m (bkN w.m t.f)) 2):=Eu hfd
  have hr:rem w.m t.f=41:=by rw[rem4 hk,if_neg (by omega),if_pos p]
  rw[h1,hr,rem4 (f:=Bd t.f 0 (Ar w.m (bkN w.m t.f)) 2) hk,hs]
  simp[Bd] <;> omega
 ·right
  obtain⟨l1,l2,R,q⟩:=a4 p
  clear a4 a5 a6 h5
  obtain⟨hat,hcur⟩:=Bh I.okc hbk.1 R
  have hs:=Ef I.okc hbk.1 R
  have em:swM (i:Int) w.m t.f=w.m:=Fb (by omega)
  have hr:rem w.m t.f=3*l2.length+3:=by rw[rem4 hk,if_neg (by omega),if_neg (by omega),if_pos p,hs]
  have e:=swF2 (M:=w.m) p
  unfold Gi at e
  rw[em,hr]
  cases l2 with
  | nil =>
   have hno:isAt w.m t.f=false:=by
    cases h:isAt w.m t.f
    ·rfl
    ·obtain⟨a,l,e⟩:=hat.1 h;cases e
   rw[hno] at e
   have e':swF w.m t.f=toF t.f 6:=e
   rw[e']
   have h1:remT w.m (Am (toF t.f 6) t)=rem w.m (toF t.f 6):=Eu hfd
   rw[h1,rem4 (f:=toF t.f 6) hk]
   simp[toF]
  | cons a l2 =>
   rw[if_pos (hat.2 ⟨a,l2,rfl⟩)] at e
   have h3:∀ g:Fr,swF w.m t.f=g->g.done=false->g.c=t.f.c->(g.pl=3\/g.pl=4)->g.cur=t.f.cur->remT w.m (Am (swF w.m t.f) t)<3*(a :: l2).length+3:=fun g e hd hc hgp hgc=>by
    rw[e]
    have h1:remT w.m (Am g t)=rem w.m g:=Eu hd
    have hs':suf w.m g=suf w.m t.f:=by unfold suf;rw[Yp hc,hgc]
    rw[h1,rem4 (f:=g) (by rw[hc];exact hk),hs',hs]
    simp only[List.length_cons]
    rcases hgp with h|h <;> rw[h] <;> simp <;> omega
   by_cases h5:t.f.c.kind=5
   ·rw[if_pos h5] at e
    exact h3 _ e hfd rfl (.inl rfl) rfl
   ·rw[if_neg h5] at e
    by_cases hu:w.m.now<(A7 w.m (t.f.cur - 1)).unt
    ·rw[if_pos hu] at e
     exact h3 _ e hfd rfl (.inl rfl) rfl
    ·rw[if_neg hu] at e
     exact h3 _ e hfd rfl (.inr rfl) rfl
 ·right
  obtain⟨l1,a,l2,R,q⟩:=h5 (.inl p)
  clear a4 a5 a6 h5
  obtain⟨hat,hcur⟩:=Bh I.okc hbk.1 R
  have hs:=Ef I.okc hbk.1 R
  have em:swM (i:Int) w.m t.f=w.m:=Fb (by omega)
  have hr:rem w.m t.f=3*(l2.length+1)+2:=by rw[rem4 hk,if_neg (by omega),if_neg (by omega),if_neg (by omega),if_pos p,hs];rfl
  have e:=swF3 (M:=w.m) p
  unfold Ih at e
  rw[if_pos (hat.2 ⟨a,l2,rfl⟩),hcur a l2 rfl] at e
  rw[e,em,hr]
  have h1:remT w.m (Am (Bd t.f t.f.cur (A7 w.m a).next 2) t)=rem w.m (Bd t.f t.f.cur (A7 w.m a).next 2):=Eu hfd
  have R':Rest w.m (Bd t.f t.f.cur (A7 w.m a).next 2) (l1 ++ [a]) l2:=⟨by show chL w.m (bkN w.m t.f)=_;rw[R.1];simp,I.okc.Ey hbk.1 R.1⟩
  have hs':=Ef (f:=Bd t.f t.f.cur (A7 w.m a).next 2) I.okc hbk.1 R'
  rw[h1,rem4 (f:=Bd t.f t.f.cur (A7 w.m a).next 2) hk,hs']
  simp[Bd] <;> omega
 ·right
  obtain⟨l1,a,l2,R,q⟩:=h5 (.inr p)
  clear a4 a5 a6 h5
  obtain⟨hat,hcur⟩:=Bh I.okc hbk.1 R
  have hca:=hcur a l2 rfl
  have hs:=Ef I.okc hbk.1 R
  have hr:rem w.m t.f=3*(l2.length+1)+2:=by rw[rem4 hk,if_neg (by omega),if_neg (by omega),if_neg (by omega),if_neg (by omega),if_pos p,hs];rfl
  have e:=swF4 (M:=w.m) p
  have em:=swM4 (M:=w.m) (t:=(i:Int)) p
  unfold Np at e
  unfold Ew at em
  rw[if_pos (hat.2 ⟨a,l2,rfl⟩)] at e em
  rw[q,hca] at em
  rw[hca] at e
  have hE:=Nc I.okc hbk.1 R.1
  have hnx:=I.okc.Ey hbk.1 R.1
  obtain⟨g,hg⟩:∃ g:Fr,g = { t.f with slot:=a,cur:=(A7 w.m a).next,pl:=5 }:=⟨_,rfl⟩
  rw[<- hg] at e
  rw[e,em,hr]
  have gc:g.c=t.f.c:=by rw[hg]
  have gd:g.done=false:=by rw[hg];exact hfd
  have gp:g.pl=5:=by rw[hg]
  have gb:bkN (cutM w.m (bkN w.m t.f) (Ea l1) a) g=bkN w.m t.f:=by rw[Kr hE.nh,Yp gc]
  have R':Rest (cutM w.m (bkN w.m t.f) (Ea l1) a) g l1 l2:=⟨by rw[gb];exact hE.at_,by rw[gb,hg];exact hnx⟩
  have hs':=Ef hE.okc (by rw[gb,hE.nh];exact hbk.1) R'
  have h1:remT (cutM w.m (bkN w.m t.f) (Ea l1) a) (Am g t)=rem (cutM w.m (bkN w.m t.f) (Ea l1) a) g:=Eu gd
  rw[h1,rem4 (f:=g) (by rw[gc];exact hk),hs',gp]
  simp <;> omega
 ·right
  obtain⟨hs,l1,l2,R,q⟩:=a6 p
  clear a4 a5 a6 h5
  have hsf:=Ef I.okc hbk.1 R
  have hr:rem w.m t.f=3*l2.length+4:=by rw[rem4 hk,if_neg (by omega),if_neg (by omega),if_neg (by omega),if_neg (by omega),if_neg (by omega),if_pos p,hsf]
  have h0:=(Aq.1 hs).1
  have hin:=I.Df htm hb (by rw[Cc (by omega)];exact decide_eq_true h0) hs
  have hmp:=(Gm w.m t.f.slot)
  have hE:=Ic I.okc (bkN w.m t.f) hs (by omega) (fun hm=>by have:=G9 hm;omega)
  have e:=swF5 (M:=w.m) p
  have em:=swM5 (M:=w.m) (t:=(i:Int)) p
  unfold Jp at e
  unfold Ff at em
  rw[if_pos hs] at e em
  obtain⟨g,hg⟩:∃ g:Fr,g = { t.f with slot:=-1,n:=if t.f.n<1000000 then t.f.n+1 else t.f.n,pl:=2 }:=⟨_,rfl⟩
  rw[<- hg] at e
  rw[e,em,hr]
  have gc:g.c=t.f.c:=by rw[hg]
  have gd:g.done=false:=by rw[hg];exact hfd
  have gp:g.pl=2:=by rw[hg]
  have gb:bkN (putN w.m t.f.slot) g=bkN w.m t.f:=by rw[Kr hE.nh,Yp gc]
  have R':Rest (putN w.m t.f.slot) g l1 l2:=⟨by rw[gb,hE.at_];exact R.1,by rw[gb,hg];exact R.2⟩
  have hs':=Ef hE.okc (by rw[gb,hE.nh];exact hbk.1) R'
  have h1:remT (putN w.m t.f.slot) (Am g t)=rem (putN w.m t.f.slot) g:=Eu gd
  rw[h1,rem4 (f:=g) (by rw[gc];exact hk),hs',gp]
  simp <;> omega
 ·right
  clear a4 a5 a6 h5
  rw[swF6 p]
  have h1:remT (swM i w.m t.f) (Am (endF t.f 0) t)=0:=Oj rfl
  rw[h1,rem4 hk,p]
  simp
theorem a1m(I:WInv w)(hi:w.ts[i]?=some t)(hb:t.busy=true)(h1:t.f.c.kind≠1):(waits w.m t.f/\stepT w.m i t=(w.m,t))\/remT (stepT w.m i t).1 (stepT w.m i t).2<rem w.m t.f:=by
 have F:=I.fi t (List.mem_of_getElem? hi) hb
 have hk:=F.kind
 by_cases h2:t.f.c.kind=2
 ·exact add_rem I hi hb h2
 by_cases h3:t.f.c.kind=3
 ·exact drop_rem I hi hb h3
 by_cases h6:t.f.c.kind=6
 ·right
  have es:(stepT w.m i t).2=Lc t:=by unfold stepT;rw[if_neg h1,if_neg h2,if_neg h3,if_pos h6]
  have hr:rem w.m t.f=1:=by unfold rem;rw[if_neg h1,if_neg h2,if_neg h3,if_pos h6]
  rw[es,hr]
  show remT _ (Lc t)<1
  unfold remT Lc
  simp
 ·exact a7o I hi hb (by omega)
theorem a6j{j:Nat}{u:Tk}(I:WInv w)(hi:w.ts[i]?=some t)(hb:t.busy=true)(hj:w.ts[j]?=some u)(hne:j≠i):remT (stepT w.m i t).1 u=remT w.m u:=by
 unfold remT
 by_cases hbu:u.busy=true
 ·rw[if_pos hbu,if_pos hbu]
  have FU:=I.fi u (List.mem_of_getElem? hj) hbu
  have hbku:=I.bk hj hbu
  have hch:(stepT w.m i t).1.heads.length=w.m.heads.length/\(hasL u.f->chL (stepT w.m i t).1 (bkN w.m u.f)=chL w.m (bkN w.m u.f)):=by
   refine Ru (P:=fun m'=>m'.heads.length=w.m.heads.length/\(hasL u.f->chL m' (bkN w.m u.f)=chL w.m (bkN w.m u.f))) I ?_ hi hb
   have h0:0<w.m.heads.length:=by have:=I.okc.ok.nh;omega
   have calm:∀ {m':Mm} {d:Int->Int},Eff w.m m' 0 (chL w.m 0) d->m'.heads.length=w.m.heads.length/\(hasL u.f->chL m' (bkN w.m u.f)=chL w.m (bkN w.m u.f)):=fun {m' d} E=>⟨E.nh,fun _=>by
    by_cases e:bkN w.m u.f=0
    ·rw[e];exact E.at_
    ·exact E.else_ _ hbku.1 e⟩
   have apart:∀ b,b=bkN w.m t.f/\hasL t.f->hasL u.f->bkN w.m u.f≠b:=fun b hB hL e=>by
    have e1:=I.lockI i t hi hb hB.2
    have e2:=I.lockI j u hj hbu hL
    rw[e,hB.1,e1] at e2
    exact hne (by omega)
   refine⟨⟨rfl,fun _=>rfl⟩,fun b v hv=>⟨rfl,fun _=>rfl⟩,fun s hs hr=>?_,fun s hs h1 h2=>calm (Qy I.okc 0 hs h1 h2),fun ka kb uu hk hu hF=>calm (Ro I.okc 0 hk hu hF).1,fun s b hB hb' hs hoff hr hk ho=>?_,fun b l1 a l2 hB hb' e=>?_⟩
   ·have hmp:=Gm w.m s
    exact calm (Ic I.okc 0 hs (by omega) (fun hm=>by have:=G9 hm;omega))
   ·have E:=O9 I.okc hs hr hk ho
    exact⟨E.nh,fun hL=>E.else_ _ hbku.1 (apart b hB hL)⟩
   ·have E:=Nc I.okc hb' e
    exact⟨E.nh,fun hL=>E.else_ _ hbku.1 (apart b hB hL)⟩
  by_cases hL:hasL u.f
  ·have hs:suf (stepT w.m i t).1 u.f=suf w.m u.f:=by unfold suf;rw[Kr hch.1,hch.2 hL]
   unfold rem
   rw[hs]
  ·unfold rem
   unfold hasL at hL
   have hpl:=FU.fit.pl
   have hkd:=FU.kind
   by_cases k1:u.f.c.kind=1
   ·rw[if_pos k1,if_pos k1]
   rw[if_neg k1,if_neg k1]
   by_cases k2:u.f.c.kind=2
   ·rw[if_pos k2,if_pos k2]
    have hp:u.f.pl=0\/u.f.pl=1:=by omega
    rcases hp with p|p <;> rw[p] <;> simp
   rw[if_neg k2,if_neg k2]
   by_cases k3:u.f.c.kind=3
   ·rw[if_pos k3,if_pos k3]
    have h6:=(FU.drop k3).1
    have hp:u.f.pl=0\/u.f.pl=6:=by omega
    rcases hp with p|p <;> rw[p] <;> simp
   rw[if_neg k3,if_neg k3]
   by_cases k6:u.f.c.kind=6
   ·rw[if_pos k6,if_pos k6]
   rw[if_neg k6,if_neg k6]
   have hp:u.f.pl=0:=by omega
   rw[hp];simp
 ·rw[if_neg hbu,if_neg hbu]
end
end
section
def Bl(w:Wd)(i:Nat):Wd:=match w.ts[i]? with
 | none=>w
 | some t=>if t.busy then ⟨(stepT w.m i t).1,w.ts.set i (stepT w.m i t).2⟩ else w
def Fp(w:Wd):Wd:=(List.range w.ts.length).foldl Bl w
def Phi(w:Wd):Nat:=(w.ts.map (remT w.m)).sum
section
variable {w:Wd} {i:Nat} {t:Tk}
theorem Ko(h:w.ts[i]?=none):Bl w i=w:=by unfold Bl;rw[h]
theorem Jz(h:w.ts[i]?=some t)(hb:t.busy=false):Bl w i=w:=by unfold Bl;rw[h];simp[hb]
theorem J6(h:w.ts[i]?=some t)(hb:t.busy=true):Bl w i=⟨(stepT w.m i t).1,w.ts.set i (stepT w.m i t).2⟩:=by unfold Bl;rw[h];simp[hb]
theorem Zv(I:WInv w)(i:Nat):WInv (Bl w i):=by
 cases h:w.ts[i]? with
 | none=>rw[Ko h];exact I
 | some t =>
  cases hb:t.busy with
  | false=>rw[Jz h hb];exact I
  | true=>rw[J6 h hb];exact Ld I h hb
theorem Vr{j:Nat}(hne:j≠i):(Bl w i).ts[j]?=w.ts[j]?:=by
 cases h:w.ts[i]? with
 | none=>rw[Ko h]
 | some t =>
  cases hb:t.busy with
  | false=>rw[Jz h hb]
  | true=>rw[J6 h hb];exact List.getElem?_set_ne (fun e=>hne e.symm)
theorem at_len:(Bl w i).ts.length=w.ts.length:=by
 cases h:w.ts[i]? with
 | none=>rw[Ko h]
 | some t =>
  cases hb:t.busy with
  | false=>rw[Jz h hb]
  | true=>rw[J6 h hb];simp
theorem a7j:∀ (ts:List Tk) (i:Nat) (t t':Tk) (f g:Tk->Nat),ts[i]?=some t->(∀ (j:Nat) u,ts[j]?=some u->j≠i->g u=f u)->((ts.set i t').map g).sum+f t=(ts.map f).sum+g t'
 | [],i,t,t',f,g,h,_=>by simp at h
 | x :: ts,0,t,t',f,g,h,ho=>by
  have hx:x=t:=by simpa using h
  subst hx
  have he:ts.map g=ts.map f:=List.map_congr_left fun u hu=>by
   obtain⟨j,hj⟩:=List.mem_iff_getElem?.1 hu
   exact ho (j+1) u (by simpa using hj) (by omega)
  show g t'+(ts.map g).sum+f x=f x+(ts.map f).sum+g t'
  rw[he];omega
 | x :: ts,i+1,t,t',f,g,h,ho=>by
  have h':ts[i]?=some t:=by simpa using h
  have ih:=a7j ts i t t' f g h' (fun j u hj hne=>ho (j+1) u (by simpa using hj) (by omega))
  have h0:=ho 0 x (by simp) (by omega)
  show g x+((ts.set i t').map g).sum+f t=f x+(ts.map f).sum+g t'
  omega
theorem a1a(I:WInv w)(hi:w.ts[i]?=some t)(hb:t.busy=true):Phi (Bl w i)+remT w.m t=Phi w+remT (stepT w.m i t).1 (stepT w.m i t).2:=by
 rw[J6 hi hb]
 exact a7j w.ts i t (stepT w.m i t).2 (remT w.m) (remT (stepT w.m i t).1) hi (fun j u hj hne=>a6j I hi hb hj hne)
theorem look_rem(hk:t.f.c.kind=1):remT (stepT w.m i t).1 (stepT w.m i t).2=0:=by
 have hc:=Mc w.m i t
 unfold remT
 split
 ·unfold rem
  rw[if_pos (by rw[hc];exact hk)]
 ·rfl
theorem phi_le(I:WInv w)(i:Nat):Phi (Bl w i)<=Phi w:=by
 cases h:w.ts[i]? with
 | none=>rw[Ko h];exact Nat.le_refl _
 | some t =>
  cases hb:t.busy with
  | false=>rw[Jz h hb];exact Nat.le_refl _
  | true =>
   have hp:=a1a I h hb
   have hr:remT w.m t=rem w.m t.f:=by unfold remT;rw[hb];rfl
   by_cases h1:t.f.c.kind=1
   ·have:=look_rem (w:=w) (i:=i) h1
    omega
   ·rcases a1m I h hb h1 with ⟨_,e⟩|h2
    ·rw[e] at hp
     have hp':Phi (Bl w i)+remT w.m t=Phi w+remT w.m t:=hp
     omega
    ·omega
theorem phi_lt(I:WInv w)(hi:w.ts[i]?=some t)(hb:t.busy=true)(h1:t.f.c.kind≠1)(hw:¬ waits w.m t.f):Phi (Bl w i)<Phi w:=by
 have hp:=a1a I hi hb
 have hr:remT w.m t=rem w.m t.f:=by unfold remT;rw[hb];rfl
 rcases a1m I hi hb h1 with ⟨h,_⟩|h2
 ·exact(hw h).elim
 ·omega
theorem Qw:∀ (l:List Nat) {w:Wd},WInv w->WInv (l.foldl Bl w)/\Phi (l.foldl Bl w)<=Phi w
 | [],w,I=>⟨I,Nat.le_refl _⟩
 | i :: l,w,I=>by
  have h:=Qw l (Zv I i)
  exact⟨h.1,Nat.le_trans h.2 (phi_le I i)⟩
theorem V5{j:Nat}:∀ (l:List Nat) {w:Wd},j ∉ l->(l.foldl Bl w).ts[j]?=w.ts[j]?
 | [],w,_=>rfl
 | i :: l,w,h=>by
  simp only[List.mem_cons,not_or] at h
  show (l.foldl Bl (Bl w i)).ts[j]?=_
  rw[V5 l h.2,Vr h.1]
theorem a0l:∀ (l:List Nat) {w:Wd},(l.foldl Bl w).ts.length=w.ts.length
 | [],w=>rfl
 | i :: l,w=>by
  show (l.foldl Bl (Bl w i)).ts.length=_
  rw[a0l l,at_len]
theorem range_split{j n:Nat}(h:j<n):∃ l2,List.range n=List.range j++j :: l2:=by
 obtain⟨k,rfl⟩:∃ k,n=j+(k+1):=⟨n - j - 1,by omega⟩
 refine⟨(List.range k).map (fun x=>j+(x+1)),?_⟩
 rw[List.range_add]
 congr 1
 rw[List.range_succ_eq_map]
 simp[Function.comp]
theorem a2v(hi:w.ts[i]?=some t)(hk:t.f.c.kind=1):(stepT w.m i t).1.locks=w.m.locks/\(stepT w.m i t).1.heads.length=w.m.heads.length:=by
 have e:(stepT w.m i t).1=lkM w.m t.f:=by unfold stepT;rw[if_pos hk]
 rw[e]
 have h:=Wv w.m t.f
 exact⟨h.locks,by rw[h.heads]⟩
theorem V8{n:Nat}:∀ (l:List Nat) {w:Wd},l.Nodup->(∀ i∈l,∀ t,w.ts[i]?=some t->t.busy=true->t.f.c.kind=1)->(l.foldl Bl w).m.locks=w.m.locks/\(l.foldl Bl w).m.heads.length=w.m.heads.length
 | [],w,_,_=>⟨rfl,rfl⟩
 | i :: l,w,hn,h=>by
  rw[List.nodup_cons] at hn
  have h1:(Bl w i).m.locks=w.m.locks/\(Bl w i).m.heads.length=w.m.heads.length:=by
   cases hi:w.ts[i]? with
   | none=>rw[Ko hi];exact⟨rfl,rfl⟩
   | some t =>
    cases hb:t.busy with
    | false=>rw[Jz hi hb];exact⟨rfl,rfl⟩
    | true=>rw[J6 hi hb];exact a2v hi (h i (by simp) t hi hb)
  have h2:=V8 (n:=n) l (w:=Bl w i) hn.2 (fun j hj t ht hb=>by
   rw[Vr (fun e=>hn.1 (by rw[<- e];exact hj))] at ht
   exact h j (by simp[hj]) t ht hb)
  exact⟨h2.1.trans h1.1,h2.2.trans h1.2⟩
theorem least{P:Nat->Prop}:∀ n,(∃ k,k<n/\P k)->∃ k,k<n/\P k/\∀ j,j<k->¬ P j
 | 0,h=>by obtain⟨k,hk,_⟩:=h;omega
 | n+1,⟨k,hk,hp⟩=>by
  by_cases h:∃ j,j<n/\P j
  ·obtain⟨j,h1,h2,h3⟩:=least n h
   exact⟨j,by omega,h2,h3⟩
  ·have:k=n:=by
    by_cases e:k<n
    ·exact(h ⟨k,e,hp⟩).elim
    ·omega
   subst this
   exact⟨k,by omega,hp,fun j hj hpj=>h ⟨j,hj,hpj⟩⟩
theorem Yg{j:Nat}{u:Tk}(I:WInv w)(hj:w.ts[j]?=some u)(hbu:u.busy=true)(h1:u.f.c.kind≠1)(hw:¬ waits ((List.range j).foldl Bl w).m u.f):Phi (Fp w)<Phi w:=by
 have hjl:j<w.ts.length:=(List.getElem?_eq_some_iff.1 hj).1
 obtain⟨l2,e⟩:=range_split hjl
 unfold Fp
 rw[e,List.foldl_append,List.foldl_cons]
 obtain⟨I1,p1⟩:=Qw (List.range j) I
 have hj1:((List.range j).foldl Bl w).ts[j]?=some u:=by rw[V5 _ (by simp)];exact hj
 have h2:=phi_lt I1 hj1 hbu h1 hw
 have h3:=(Qw l2 (Zv I1 j)).2
 omega
theorem round_lt(I:WInv w)(h:∃ (i:Nat) (t:Tk),w.ts[i]?=some t/\t.busy=true/\t.f.c.kind≠1):Phi (Fp w)<Phi w:=by
 by_cases hA:∃ (j:Nat) (u:Tk),w.ts[j]?=some u/\u.busy=true/\hasL u.f
 ·obtain⟨j,u,hj,hbu,hL⟩:=hA
  refine Yg I hj hbu (by unfold hasL at hL;omega) fun hw=>?_
  obtain⟨_,hw⟩:=hw
  unfold hasL at hL
  omega
 ·have hfree:∀ b,b<w.m.heads.length->Aj w.m b=-1:=fun b hb=>by
   by_cases e:Aj w.m b=-1
   ·exact e
   ·obtain⟨j,u,_,x2,x3,x4,_⟩:=I.lockO b hb e
    exact(hA ⟨j,u,x2,x3,x4⟩).elim
  obtain⟨i,t,hi,hb,h1⟩:=h
  obtain⟨k,hk,⟨t',hi',hb',h1'⟩,hmin⟩:=least (P:=fun k=>∃ t:Tk,w.ts[k]?=some t/\t.busy=true/\t.f.c.kind≠1) (i+1) ⟨i,by omega,t,hi,hb,h1⟩
  refine Yg I hi' hb' h1' fun hw=>hw.1 ?_
  have hq:=V8 (n:=0) (List.range k) (w:=w) List.nodup_range (fun j hj u hu hbu=>by
   by_cases e:u.f.c.kind=1
   ·exact e
   ·exact(hmin j (List.mem_range.1 hj) ⟨u,hu,hbu,e⟩).elim)
  have hbk:=I.bk hi' hb'
  unfold Aj
  rw[hq.1,Kr hq.2]
  exact hfree _ hbk.1
theorem rem_le(I:WInv w)(ht:t∈w.ts):remT w.m t<=42:=by
 unfold remT
 split
 ·rename_i hb
  have F:=I.fi t ht hb
  have hs:suf w.m t.f<=12:=by
   have hbk:bkN w.m t.f<w.m.heads.length:=by
    have:=Du I.okc.ok F.fit.call
    unfold bkN;omega
   have h1:=P9 I.okc hbk
   have h2:=I.okc.ok.ns
   have h3:suf w.m t.f<=(chL w.m (bkN w.m t.f)).length:=by
    unfold suf
    exact(List.dropWhile_suffix _).length_le
   omega
  unfold rem
  repeat' split
  all_goals omega
 ·omega
theorem phi_max(I:WInv w):Phi w<=210:=by
 have h:∀ ts:List Tk,(∀ t∈ts,t∈w.ts)->(ts.map (remT w.m)).sum<=42*ts.length:=by
  intro ts
  induction ts with
  | nil=>intro _;simp
  | cons x ts ih =>
   intro hm
   have h1:=ih (fun t ht=>hm t (by simp[ht]))
   have h2:=rem_le I (hm x (by simp))
   show remT w.m x+(ts.map (remT w.m)).sum<=42*(ts.length+1)
   omega
 have h1:=h w.ts (fun t ht=>ht)
 have h2:=I.nt.2
 unfold Phi
 omega
end
end
section
def Yh(l:List Int)(n:Int):Nat:=(l.dropWhile (fun x=>decide (x+1≠n))).length
def Ua(m:Mm)(n:Int):Nat:=((List.range m.heads.length).map (fun c=>Yh (chL m c) n)).sum
def Qo:List Int->Int->Nat
 | [],_=>0
 | x :: l,y=>if x=y then 0 else Qo l y+1
def hop(m:Mm)(S:List Int)(n:Int):Nat:=if n<=0 then 0 else if n - 1∈allC m then Ua m n else Qo S (n - 1)+13
def ownP(m:Mm)(b:Nat)(n:Int):Prop:=n=-1 - (b:Int)\/n - 1∈chL m b
theorem a7g{l:List Int}{n:Int}(h:∀ x∈l,x+1≠n):Yh l n=0:=by
 unfold Yh
 have:=Ny (n:=n) l [] h
 rw[List.append_nil] at this
 rw[this];rfl
theorem sufIn_at{l1 l2:List Int}{a:Int}(h:¬ a∈l1):Yh (l1++a :: l2) (a+1)=l2.length+1:=by
 unfold Yh
 rw[Ny l1 (a :: l2) (fun x hx e=>h (by rw[show a=x by omega];exact hx))]
 rw[List.dropWhile_cons_of_neg (by simp)]
 rfl
theorem sum_one{f:Nat->Nat}{n c:Nat}(hc:c<n)(h:∀ d,d<n->d≠c->f d=0):((List.range n).map f).sum=f c:=by
 obtain⟨l2,e⟩:=range_split hc
 have hnd:(List.range n).Nodup:=List.nodup_range
 rw[e] at hnd
 rw[List.nodup_append,List.nodup_cons] at hnd
 have z:∀ l:List Nat,(∀ d∈l,f d=0)->(l.map f).sum=0:=by
  intro l
  induction l with
  | nil=>intro _;rfl
  | cons x l ih =>
   intro hl
   have h1:=hl x (by simp)
   have h2:=ih (fun d hd=>hl d (by simp[hd]))
   show f x+(l.map f).sum=0
   omega
 have hm:∀ d,d∈List.range n->d<n:=fun d hd=>List.mem_range.1 hd
 rw[e] at hm ⊢
 rw[List.map_append,List.sum_append,List.map_cons,List.sum_cons]
 rw[z (List.range c) (fun d hd=>h d (hm d (by simp at hd ⊢;exact .inl hd)) (fun e'=>by have:=List.mem_range.1 hd;omega)),z l2 (fun d hd=>h d (hm d (by simp[hd])) (fun e'=>hnd.2.1.1 (by rw[<- e'];exact hd)))]
 omega
theorem Ub{m:Mm}(hM:OkC m){c:Nat}(hc:c<m.heads.length){l1 l2:List Int}{a:Int}(e:chL m c=l1++a :: l2):Ua m (a+1)=l2.length+1:=by
 unfold Ua
 have hnd:=hM.nodup hc
 rw[e,List.nodup_append] at hnd
 rw[sum_one (f:=fun c=>Yh (chL m c) (a+1)) hc (fun d hd hne=>?_)]
 ·rw[e]
  exact sufIn_at (fun h=>hnd.2.2 a h a (by simp) rfl)
 ·refine a7g fun x hx ex=>?_
  have hxa:x=a:=by omega
  subst hxa
  have h1:=(hM.held d hd x hx).2.2
  have h2:=(hM.held c hc x (by rw[e];simp)).2.2
  omega
theorem Y7:∀ {S:List Int} {p q:List Int} {y:Int},S=p++y :: q->¬ y∈p->Qo S y=p.length
 | _,[],q,y,rfl,_=>by simp[Qo]
 | _,x :: p,q,y,rfl,h=>by
  simp only[List.mem_cons,not_or] at h
  show Qo (x :: (p++y :: q)) y=_
  unfold Qo
  rw[if_neg (fun e=>h.1 e.symm),Y7 (S:=p++y :: q) rfl h.2]
  rfl
theorem pos_lt:∀ {p:List Int} (r:List Int) {z:Int},z∈p->Qo (p++r) z<p.length
 | x :: p,r,z,h=>by
  show Qo (x :: (p++r)) z<p.length+1
  unfold Qo
  by_cases e:x=z
  ·rw[if_pos e];omega
  ·rw[if_neg e]
   rcases List.mem_cons.1 h with h'|h'
   ·exact(e h'.symm).elim
   ·have:=pos_lt r h'
    omega
theorem a1n{m:Mm}(hM:OkC m){z:Int}(hz:z∈allC m):1<=Ua m (z+1)/\Ua m (z+1)<=12:=by
 obtain⟨c,hc,hm⟩:=Ai.1 hz
 obtain⟨l1,l2,e⟩:=List.append_of_mem hm
 have h1:=Ub hM hc e
 have h2:=P9 hM hc
 have h3:=hM.ok.ns
 rw[e] at h2
 simp only[List.length_append,List.length_cons] at h2
 omega
theorem a0t{m:Mm}{S:List Int}(hM:OkC m)(A:Acy m S){n:Int}(h0:0<n)(hs:isSl m (n - 1)=true):hop m S (nx m (n - 1))<hop m S n:=by
 have e0:hop m S n=if n - 1∈allC m then Ua m n else Qo S (n - 1)+13:=by unfold hop;rw[if_neg (by omega)]
 by_cases hin:n - 1∈allC m
 ·rw[e0,if_pos hin]
  have hs1:=a1n hM hin
  rw[show n - 1+1=n by omega] at hs1
  by_cases hn:nx m (n - 1)<=0
  ·unfold hop;rw[if_pos hn];omega
  ·have hin':=Zc hM hin (by omega)
   unfold hop
   rw[if_neg hn,if_pos hin']
   obtain⟨c,hc,hm⟩:=Ai.1 hin
   obtain⟨l1,l2,e⟩:=List.append_of_mem hm
   have h1:=Ub hM hc e
   rw[show n - 1+1=n by omega] at h1
   have hnx:nx m (n - 1)=ptr c l2:=hM.Ey hc e
   cases l2 with
   | nil=>rw[hnx] at hn;exact(hn (by show -1 - (c:Int)<=0;omega)).elim
   | cons z l2 =>
    have h2:=Ub hM hc (l1:=l1 ++ [n - 1]) (a:=z) (l2:=l2) (by rw[e];simp)
    have hz:nx m (n - 1)=z+1:=hnx
    rw[hz,h2,h1]
    simp
 ·rw[e0,if_neg hin]
  have hyS:n - 1∈S:=(A.all _).2 ⟨hs,hin⟩
  obtain⟨p,q,e⟩:=List.append_of_mem hyS
  have hnd:=A.nodup
  rw[e,List.nodup_append] at hnd
  have hyp:¬ (n - 1)∈p:=fun h=>hnd.2.2 _ h _ (by simp) rfl
  rw[Y7 e hyp]
  by_cases hn:nx m (n - 1)<=0
  ·unfold hop;rw[if_pos hn];omega
  ·rcases A.down p _ q e (by omega) with h|h
   ·have h1:=a1n hM h
    rw[show nx m (n - 1) - 1+1=nx m (n - 1) by omega] at h1
    unfold hop
    rw[if_neg hn,if_pos h]
    omega
   ·have hz:nx m (n - 1) - 1∈S:=by rw[e];simp[h]
    have hz':=((A.all _).1 hz).2
    unfold hop
    rw[if_neg hn,if_neg hz']
    have:=pos_lt (p:=p) ((n - 1) :: q) h
    rw[<- e] at this
    omega
def own1 (m : Mm) (b : Nat) (n : Int) (x y : Nat) : Nat := if n = -1 - (b : Int) then x else if n - 1 ∈ chL m b then x else y
open Classical in
theorem own1_eq (m : Mm) (b : Nat) (n : Int) (x y : Nat) : own1 m b n x y = if ownP m b n then x else y := by
  unfold own1 ownP
  by_cases h1 : n = -1 - (b : Int)
  · rw [if_pos h1, if_pos (.inl h1)]
  · rw [if_neg h1]
    by_cases h2 : n - 1 ∈ chL m b
    · rw [if_pos h2, if_pos (.inr h2)]
    · rw [if_neg h2, if_neg (fun h => h.elim h1 h2)]
def mu (m:Mm) (S:List Int) (f:Fr):Nat :=
 if f.pl=0 then 31
 else if f.pl=1 then 2*hop m S f.cur+own1 m (bkN m f) f.cur 4 36
 else if f.pl=2 then (if isAt m f=true then 2*hop m S f.cur+own1 m (bkN m f) f.cur 3 35 else 32)
 else if f.pl=3 then (if f.cur - 1∈chL m (bkN m f)/\keyAt m (f.cur - 1)=Key f then 3 else 35)
 else if f.pl=4 then (if f.slot∈chL m (bkN m f)/\keyAt m f.slot=Key f then 2 else 34)
 else if f.pl=5 then 33 else 1
open Classical in
set_option maxHeartbeats 800000 in
theorem mu_step{w:Wd}{i:Nat}{t:Tk}{S:List Int}(I:WInv w)(A:Acy w.m S)(hi:w.ts[i]?=some t)(hb:t.busy=true)(hk:t.f.c.kind=1):(lkF w.m t.f).done=true\/mu w.m S (lkF w.m t.f)<mu w.m S t.f:=by
 have htm:=List.mem_of_getElem? hi
 have F:=I.fi t htm hb
 have hbk:=I.bk hi hb
 obtain⟨⟨s1,s2,s3⟩,_⟩:=F.look hk
 have hpl:=F.fit.pl
 have hbe:((bkN w.m t.f:Nat):Int)=bkOf w.m.heads.length t.f.c:=by
  have:=Du I.okc.ok F.fit.call
  unfold bkN;omega
 have hp:t.f.pl=0\/t.f.pl=1\/t.f.pl=2\/t.f.pl=3\/t.f.pl=4\/t.f.pl=5\/t.f.pl=6:=by omega
 have m0:∀ g:Fr,g.pl=0->mu w.m S g=31:=fun g h=>by simp only [mu, own1_eq];rw[if_pos h]
 have m1:∀ g:Fr,g.pl=1->mu w.m S g=2*hop w.m S g.cur+(if ownP w.m (bkN w.m g) g.cur then 4 else 36):=fun g h=>by simp only [mu, own1_eq];rw[if_neg (by omega),if_pos h]
 have m2:∀ g:Fr,g.pl=2->mu w.m S g=(if isAt w.m g=true then 2*hop w.m S g.cur+(if ownP w.m (bkN w.m g) g.cur then 3 else 35) else 32):=fun g h=>by simp only [mu, own1_eq];rw[if_neg (by omega),if_neg (by omega),if_pos h]
 have m3:∀ g:Fr,g.pl=3->mu w.m S g=(if g.cur - 1∈chL w.m (bkN w.m g)/\keyAt w.m (g.cur - 1)=Key g then 3 else 35):=fun g h=>by simp only [mu, own1_eq];rw[if_neg (by omega),if_neg (by omega),if_neg (by omega),if_pos h]
 have m4:∀ g:Fr,g.pl=4->mu w.m S g=(if g.slot∈chL w.m (bkN w.m g)/\keyAt w.m g.slot=Key g then 2 else 34):=fun g h=>by simp only [mu, own1_eq];rw[if_neg (by omega),if_neg (by omega),if_neg (by omega),if_neg (by omega),if_pos h]
 have m5:∀ g:Fr,g.pl=5->mu w.m S g=33:=fun g h=>by simp only [mu, own1_eq];rw[if_neg (by omega),if_neg (by omega),if_neg (by omega),if_neg (by omega),if_neg (by omega),if_pos h]
 have m6:∀ g:Fr,g.pl=6->mu w.m S g=1:=fun g h=>by simp only [mu, own1_eq];rw[if_neg (by omega),if_neg (by omega),if_neg (by omega),if_neg (by omega),if_neg (by omega),if_neg (by omega)]
 rcases hp with p|p|p|p|p|p|p
 ·right
  rw[lkF0 p,m0 _ p,m1 (Cm w.m t.f) rfl]
  have hh:(Cm w.m t.f).cur=ptr (bkN w.m t.f) (chL w.m (bkN w.m t.f)):=I.okc.Hf hbk.1
  have hg:bkN w.m (Cm w.m t.f)=bkN w.m t.f:=rfl
  rw[hg,hh]
  cases hc:chL w.m (bkN w.m t.f) with
  | nil =>
   have hz:ptr (bkN w.m t.f) []=-1 - ((bkN w.m t.f:Nat):Int):=rfl
   rw[if_pos (.inl hz)]
   unfold hop
   rw[if_pos (by rw[hz];omega)]
   omega
  | cons a l =>
   have hz:ptr (bkN w.m t.f) (a :: l)=a+1:=rfl
   have ha:a∈allC w.m:=Ai.2 ⟨_,hbk.1,by rw[hc];simp⟩
   have h0:=(I.okc.Eo a ha).1
   rw[hz,if_pos (.inr (by rw[show a+1 - 1=a by omega,hc];simp))]
   have:=a1n I.okc ha
   unfold hop
   rw[if_neg (by omega),show a+1 - 1=a by omega,if_pos ha]
   omega
 ·have e:=lkF1 (M:=w.m) p
  unfold N8 at e
  by_cases h1:t.f.cur=-1 - bkOf w.m.heads.length t.f.c
  ·left;rw[if_pos h1] at e;rw[e];rfl
  ·right
   rw[if_neg h1] at e
   rw[m1 _ p]
   by_cases h2:isAt w.m t.f=true
   ·rw[if_pos h2] at e
    have hsl:=Bg.1 h2
    have hss:=Gl h2
    have hpos:=a0t I.okc A (n:=t.f.cur) (by omega) hss
    by_cases hkk:lkK (A7 w.m (t.f.cur - 1)) t.f=true
    ·rw[if_pos hkk] at e
     rw[e,m3 (toF t.f 3) rfl]
     have hky:=Ob.1 hkk
     by_cases ho:t.f.cur - 1∈chL w.m (bkN w.m t.f)
     ·rw[if_pos ⟨ho,hky⟩];split <;> omega
     ·rw[if_neg (fun h=>ho h.1),if_neg (fun h=>by rcases h with h|h;omega;exact ho h)];omega
    ·rw[if_neg hkk] at e
     rw[e,m2 (toF t.f 2) rfl,if_pos (show isAt w.m (toF t.f 2)=true from h2)]
     show 2*hop w.m S t.f.cur+(if ownP w.m (bkN w.m t.f) t.f.cur then 3 else 35)<_
     split <;> omega
   ·rw[if_neg h2] at e
    rw[e,m0 _ rfl]
    have hno:¬ ownP w.m (bkN w.m t.f) t.f.cur:=fun h=>by
     rcases h with h|h
     ·exact h1 (by rw[<- hbe];exact h)
     ·have:=I.okc.slots hbk.1 _ h
      exact h2 (Bg.2 (by omega))
    rw[if_neg hno];omega
 ·right
  have e:=lkF2 (M:=w.m) p
  unfold Ed at e
  rw[m2 _ p]
  by_cases h2:isAt w.m t.f=true
  ·rw[if_pos h2] at e
   rw[if_pos h2]
   have hsl:=Bg.1 h2
   have hss:=Gl h2
   have hpos:=a0t I.okc A (n:=t.f.cur) (by omega) hss
   rw[e,m1 (curF t.f (A7 w.m (t.f.cur - 1)).next 1) rfl]
   show 2*hop w.m S (nx w.m (t.f.cur - 1))+(if ownP w.m (bkN w.m t.f) (nx w.m (t.f.cur - 1)) then 4 else 36)<_
   by_cases ho:ownP w.m (bkN w.m t.f) t.f.cur
   ·rw[if_pos ho]
    have hm:t.f.cur - 1∈chL w.m (bkN w.m t.f):=by
     rcases ho with h|h
     ·omega
     ·exact h
    obtain⟨l1,l2,e'⟩:=List.append_of_mem hm
    have hnx:nx w.m (t.f.cur - 1)=ptr (bkN w.m t.f) l2:=I.okc.Ey hbk.1 e'
    have ho':ownP w.m (bkN w.m t.f) (nx w.m (t.f.cur - 1)):=by
     rw[hnx]
     cases l2 with
     | nil=>exact .inl rfl
     | cons z l2=>exact .inr (by show z+1 - 1∈_;rw[show z+1 - 1=z by omega,e'];simp)
    rw[if_pos ho'];omega
   ·rw[if_neg ho];split <;> omega
  ·rw[if_neg h2] at e
   rw[e,m0 _ rfl,if_neg h2]
   omega
 ·right
  have e:=lkF3 (M:=w.m) p
  unfold H6 at e
  rw[m3 _ p]
  by_cases h2:(isAt w.m t.f && canH w.m (t.f.cur - 1))=true
  ·rw[if_pos h2] at e
   rw[e,m4 (Ci t.f (t.f.cur - 1) 4) rfl]
   show (if t.f.cur - 1∈chL w.m (bkN w.m t.f)/\keyAt w.m (t.f.cur - 1)=Key t.f then 2 else 34)<_
   split <;> omega
  ·rw[if_neg h2] at e
   rw[e,m0 _ rfl]
   by_cases ho:t.f.cur - 1∈chL w.m (bkN w.m t.f)/\keyAt w.m (t.f.cur - 1)=Key t.f
   ·exfalso
    apply h2
    have hs:=I.okc.slots hbk.1 _ ho.1
    have hr:=(I.okc.held _ hbk.1 _ ho.1).1
    have hsl:isSl w.m (t.f.cur - 1)=true:=Aq.2 hs
    have hr1:=L8 I.okc.ok hsl
    have hr2:=I.few hsl
    have hr3:Be w.m (t.f.cur - 1)≠0:=hr
    rw[Bg.2 (by omega),Le.2 (by omega)]
    rfl
   ·rw[if_neg ho];omega
 ·have h0:=s3 (by omega)
  have hs:isSl w.m t.f.slot=true:=Aq.2 ⟨h0,F.fit.slot.2⟩
  have e:=lkF4 (M:=w.m) p
  unfold G8 at e
  rw[if_pos hs] at e
  rw[m4 _ p]
  by_cases h1:(lkK (A7 w.m t.f.slot) t.f && (A7 w.m t.f.slot).inn)=true
  ·rw[if_pos h1] at e
   by_cases h2:w.m.now<(A7 w.m t.f.slot).unt
   ·left;rw[if_pos h2] at e;rw[e];rfl
   ·right
    rw[if_neg h2] at e
    rw[e,m6 _ rfl]
    split <;> omega
  ·right
   rw[if_neg h1] at e
   rw[e,m5 _ rfl]
   have hno:¬ (t.f.slot∈chL w.m (bkN w.m t.f)/\keyAt w.m t.f.slot=Key t.f):=fun h=>h1 (by
    rw[Ob.2 h.2,(I.okc.held _ hbk.1 _ h.1).2.1];rfl)
   rw[if_neg hno];omega
 ·right
  have h0:=s3 (by omega)
  have hs:isSl w.m t.f.slot=true:=Aq.2 ⟨h0,F.fit.slot.2⟩
  have e:=lkF5 (M:=w.m) p
  unfold Gx at e
  rw[if_pos hs] at e
  rw[e,m0 _ rfl,m5 _ p]
  omega
 ·left
  have h0:=s3 (by omega)
  have hs:isSl w.m t.f.slot=true:=Aq.2 ⟨h0,F.fit.slot.2⟩
  have e:=lkF6 (M:=w.m) p
  unfold Ju at e
  rw[if_pos hs] at e
  rw[e];rfl
end
section
structure Fz(m m':Mm):Prop where
 nh:m'.heads.length=m.heads.length
 ns:m'.slots.length=m.slots.length
 chs:∀ c,chL m' c=chL m c
 key:∀ y,keyAt m' y=keyAt m y
 next:∀ y,nx m' y=nx m y
theorem Fz.all{m m':Mm}(z:Fz m m'):allC m'=allC m:=by
 unfold allC Bq
 rw[z.nh]
 exact Eg fun c _=>z.chs c
theorem look_fz(m:Mm)(f:Fr):Fz m (lkM m f):=by
 have h:=Wv m f
 have hs:∀ y:Int,(A7 (lkM m f) y).next=(A7 m y).next/\keyAt (lkM m f) y=keyAt m y:=fun y=>by
  unfold keyAt A7
  rcases h.slots with e|⟨j,r,hj,e⟩
  ·rw[e];exact⟨rfl,rfl⟩
  ·rw[e,O1]
   split
   ·rename_i ej;rw[<- ej.1];exact⟨rfl,rfl⟩
   ·exact⟨rfl,rfl⟩
 have hn:∀ n:Int,J9 (lkM m f).slots n=J9 m.slots n:=fun n=>(hs (n - 1)).1
 refine⟨by rw[h.heads],h.len,fun c=>?_,fun y=>(hs y).2,fun y=>(hs y).1⟩
 unfold chL Ar
 rw[h.len,h.heads]
 exact(Ij hn _ _).1
theorem fz_hop{m m':Mm}(z:Fz m m')(S:List Int)(n:Int):hop m' S n=hop m S n:=by
 unfold hop Ua
 rw[z.all,z.nh]
 have:(fun c=>Yh (chL m' c) n)=fun c=>Yh (chL m c) n:=by funext c;rw[z.chs]
 rw[this]
open Classical in
theorem fz_mu{m m':Mm}(z:Fz m m')(S:List Int)(f:Fr):mu m' S f=mu m S f:=by
 have hb:=Kr z.nh f
 have ho:∀ n,ownP m' (bkN m' f) n ↔ ownP m (bkN m f) n:=fun n=>by unfold ownP;rw[hb,z.chs]
 have hi:isAt m' f=isAt m f:=by unfold isAt;rw[z.ns]
 simp only [mu, own1_eq]
 rw[fz_hop z,hi,hb,z.chs,z.key,z.key]
 have ho':∀ n,ownP m' (bkN m f) n ↔ ownP m (bkN m f) n:=fun n=>by rw[<- hb];exact hb ▸ ho n
 simp only[ho']
theorem fz_acy{m m':Mm}{S:List Int}(z:Fz m m')(A:Acy m S):Acy m' S:=by
 refine⟨A.nodup,fun y=>?_,fun p y q e h=>?_⟩
 ·have:isSl m' y=isSl m y:=by unfold isSl;rw[z.ns]
  rw[this,z.all];exact A.all y
 ·rw[z.next] at h ⊢
  rw[z.all];exact A.down p y q e h
theorem acy_len{m:Mm}{S:List Int}(hM:Ok m)(A:Acy m S):S.length<=12:=by
 have h:=few' m.slots.length S A.nodup (fun a ha=>Aq.1 ((A.all a).1 ha).1)
 have:=hM.ns
 omega
theorem pos_le:∀ (S:List Int) (y:Int),Qo S y<=S.length
 | [],_=>Nat.le_refl _
 | x :: S,y=>by
  unfold Qo
  split
  ·omega
  ·have:=pos_le S y
   simp only[List.length_cons]
   omega
theorem hop_le{m:Mm}{S:List Int}(hM:OkC m)(A:Acy m S)(n:Int):hop m S n<=25:=by
 unfold hop
 split
 ·omega
 ·split
  ·rename_i h
   have:=a1n hM h
   rw[show n - 1+1=n by omega] at this
   omega
  ·have h1:=pos_le S (n - 1)
   have h2:=acy_len hM.ok A
   omega
open Classical in
theorem mu_le{m:Mm}{S:List Int}(hM:OkC m)(A:Acy m S)(f:Fr):1<=mu m S f/\mu m S f<=86:=by
 have h:=hop_le hM A f.cur
 simp only [mu, own1_eq]
 repeat' split
 all_goals omega
structure Qk(w:Wd)(S:List Int)(k:Nat->Nat):Prop where
 inv:WInv w
 acy:Acy w.m S
 look:∀ (i:Nat) t,w.ts[i]?=some t->t.busy=true->t.f.c.kind=1/\mu w.m S t.f<=k i
theorem q_step{w:Wd}{S:List Int}{k:Nat->Nat}(Q:Qk w S k)(i:Nat):Qk (Bl w i) S (fun j=>if j=i then k i - 1 else k j):=by
 have weak:Qk w S (fun j=>if j=i then k i - 1 else k j)\/∃ t,w.ts[i]?=some t/\t.busy=true:=by
  by_cases h:∃ t,w.ts[i]?=some t/\t.busy=true
  ·exact .inr h
  ·refine .inl ⟨Q.inv,Q.acy,fun j t hj hb=>?_⟩
   have hne:j≠i:=fun e=>h ⟨t,by rw[<- e];exact hj,hb⟩
   rw[if_neg hne];exact Q.look j t hj hb
 by_cases h:∃ t,w.ts[i]?=some t/\t.busy=true
 ·obtain⟨t,hi,hb⟩:=h
  obtain⟨hk,hm⟩:=Q.look i t hi hb
  have e1:(stepT w.m i t).1=lkM w.m t.f:=by unfold stepT;rw[if_pos hk]
  have e2:(stepT w.m i t).2=Jd w.m t:=by unfold stepT;rw[if_pos hk]
  have z:=look_fz w.m t.f
  rw[J6 hi hb]
  refine⟨Ld Q.inv hi hb,by show Acy (stepT w.m i t).1 S;rw[e1];exact fz_acy z Q.acy,fun j u hj hbu=>?_⟩
  show u.f.c.kind=1/\mu (stepT w.m i t).1 S u.f<=_
  rw[e1,fz_mu z]
  rcases Eb hj with ⟨rfl,rfl,_⟩|⟨hji,hj'⟩
  ·rw[if_pos rfl]
   rw[e2] at hbu ⊢
   have hd:(lkF w.m t.f).done=false:=by
    have:(!(lkF w.m t.f).done)=true:=hbu
    simpa using this
   refine⟨by show (lkF w.m t.f).c.kind=1;rw[lkF_c];exact hk,?_⟩
   show mu w.m S (lkF w.m t.f)<=_
   rcases mu_step Q.inv Q.acy hi hb hk with h|h
   ·rw[hd] at h;cases h
   ·omega
  ·rw[if_neg hji];exact Q.look j u hj' hbu
 ·rcases weak with q|q
  ·have e:Bl w i=w:=by
    cases h':w.ts[i]? with
    | none=>exact Ko h'
    | some t =>
     cases hb:t.busy with
     | false=>exact Jz h' hb
     | true=>exact(h ⟨t,h',hb⟩).elim
   rw[e];exact q
  ·exact(h q).elim
theorem q_fold{S:List Int}:∀ (l:List Nat) {w:Wd} {k:Nat->Nat},l.Nodup->Qk w S k->Qk (l.foldl Bl w) S (fun j=>if j∈l then k j - 1 else k j)
 | [],w,k,_,Q=>by simpa using Q
 | i :: l,w,k,hn,Q=>by
  rw[List.nodup_cons] at hn
  have h:=q_fold l hn.2 (q_step Q i)
  refine⟨h.inv,h.acy,fun j t hj hb=>?_⟩
  obtain⟨h1,h2⟩:=h.look j t hj hb
  refine⟨h1,Nat.le_trans h2 ?_⟩
  by_cases e:j=i
  ·subst e
   rw[if_neg hn.1,if_pos rfl,if_pos (by simp)]
   omega
  ·by_cases hm:j∈l
   ·rw[if_pos hm,if_neg e,if_pos (by simp[hm])];omega
   ·rw[if_neg hm,if_neg e,if_neg (by simp[hm,e])];omega
theorem q_round{w:Wd}{S:List Int}{n:Nat}(Q:Qk w S (fun _=>n)):Qk (Fp w) S (fun _=>n - 1):=by
 have h:=q_fold (List.range w.ts.length) List.nodup_range Q
 refine⟨h.inv,h.acy,fun j t hj hb=>?_⟩
 obtain⟨h1,h2⟩:=h.look j t hj hb
 have hl:j<w.ts.length:=by
  have:=(List.getElem?_eq_some_iff.1 hj).1
  have e:(Fp w).ts.length=w.ts.length:=a0l _
  omega
 rw[if_pos (List.mem_range.2 hl)] at h2
 exact⟨h1,h2⟩
def rounds:Nat->Wd->Wd
 | 0,w=>w
 | n+1,w=>rounds n (Fp w)
theorem Jb:∀ (a b:Nat) (w:Wd),rounds (a+b) w=rounds b (rounds a w)
 | 0,b,w=>by rw[Nat.zero_add];rfl
 | a+1,b,w=>by
  rw[show a+1+b=(a+b)+1 by omega]
  exact Jb a b (Fp w)
theorem a1d{S:List Int}:∀ (n:Nat) {w:Wd},Qk w S (fun _=>n)->Qk (rounds n w) S (fun _=>0)
 | 0,w,Q=>Q
 | n+1,w,Q=>a1d n (by simpa using q_round Q)
theorem at_acy{w:Wd}(I:WInv w)(h:∃ S,Acy w.m S)(i:Nat):∃ S,Acy (Bl w i).m S:=by
 cases hi:w.ts[i]? with
 | none=>rw[Ko hi];exact h
 | some t =>
  cases hb:t.busy with
  | false=>rw[Jz hi hb];exact h
  | true =>
   obtain⟨S,A⟩:=h
   rw[J6 hi hb]
   have I':=Ld I hi hb
   have V:=Ru I (a0y I) hi hb
   have hn:(stepT w.m i t).1.slots.length=w.m.slots.length:=by
    obtain⟨b,l,d,_,E,_⟩:=any_turn I hi hb
    exact E.ns
   exact acy_mv A I.okc I'.okc hn V
theorem a0k:∀ (l:List Nat) {w:Wd},WInv w->(∃ S,Acy w.m S)->∃ S,Acy (l.foldl Bl w).m S
 | [],w,_,h=>h
 | i :: l,w,I,h=>a0k l (Zv I i) (at_acy I h i)
theorem Tu:∀ (n:Nat) {w:Wd},WInv w->(∃ S,Acy w.m S)->Phi w<=n->∃ r,r<=n/\WInv (rounds r w)/\(∃ S,Acy (rounds r w).m S)/\∀ (i:Nat) t,(rounds r w).ts[i]?=some t->t.busy=true->t.f.c.kind=1
 | n,w,I,hS,hp=>by
  by_cases h:∃ (i:Nat) (t:Tk),w.ts[i]?=some t/\t.busy=true/\t.f.c.kind≠1
  ·have hlt:=round_lt I h
   have I1:WInv (Fp w):=(Qw _ I).1
   cases n with
   | zero=>omega
   | succ n =>
    obtain⟨r,h1,h2,h3,h4⟩:=Tu n I1 (a0k _ I hS) (by omega)
    exact⟨r+1,by omega,h2,h3,h4⟩
  ·refine⟨0,Nat.zero_le _,I,hS,fun i t hi hb=>?_⟩
   by_cases e:t.f.c.kind=1
   ·exact e
   ·exact(h ⟨i,t,hi,hb,e⟩).elim
theorem all_end{w:Wd}(I:WInv w)(hS:∃ S,Acy w.m S):∃ r,r<=296/\WInv (rounds r w)/\(∀ t∈(rounds r w).ts,t.busy=false)/\∀ b,b<(rounds r w).m.heads.length->Aj (rounds r w).m b=-1:=by
 obtain⟨r,h1,I1,⟨S,A⟩,h4⟩:=Tu 210 I hS (phi_max I)
 have Q:Qk (rounds r w) S (fun _=>86):=⟨I1,A,fun i t hi hb=>⟨h4 i t hi hb,(mu_le I1.okc A t.f).2⟩⟩
 have Q0:=a1d 86 Q
 rw[<- Jb] at Q0
 have hidle:∀ t∈(rounds (r+86) w).ts,t.busy=false:=fun t ht=>by
  obtain⟨i,hi⟩:=List.mem_iff_getElem?.1 ht
  cases hb:t.busy with
  | false=>rfl
  | true =>
   have h5:=(Q0.look i t hi hb).2
   have h6:=(mu_le Q0.inv.okc Q0.acy t.f).1
   omega
 refine⟨r+86,by omega,Q0.inv,hidle,fun b hb=>?_⟩
 by_cases e:Aj (rounds (r+86) w).m b=-1
 ·exact e
 ·obtain⟨j,u,_,x2,x3,_,_⟩:=Q0.inv.lockO b hb e
  have:=hidle u (List.mem_of_getElem? x2)
  rw[this] at x3;cases x3
end
section
theorem pick_acy{w:Wd}{x:Pk}(I:WInv w)(hS:∃ S,Acy w.m S)(h:doE w x=0):∃ S,Acy (doW w x).m S:=by
 unfold doE at h
 unfold doW
 by_cases ht:x.tick=true
 ·rw[if_pos ht]
  obtain⟨S,A⟩:=hS
  exact⟨S,A.nodup,A.all,A.down⟩
 rw[if_neg ht] at h ⊢
 by_cases hr:0<=x.task/\x.task<w.ts.length
 ·rw[if_neg (by simpa using hr)] at h
  have hi:w.ts[x.task.toNat]?=some (tkAt w x):=by
   unfold tkAt
   have:x.task.toNat<w.ts.length:=by omega
   rw[List.getD_eq_getElem?_getD,List.getElem?_eq_getElem this]
   rfl
  by_cases hs:x.step=true
  ·rw[if_pos hs] at h ⊢
   by_cases hb:(tkAt w x).busy=true
   ·have:=at_acy I hS x.task.toNat
    rw[J6 hi hb] at this
    exact this
   ·rw[if_neg hb] at h;omega
  ·rw[if_neg hs]
   exact hS
 ·rw[if_pos (by simpa using hr)] at h;omega
theorem Zg:∀ (l:List Pk) {w:Wd},WInv w->(∃ S,Acy w.m S)->∃ S,Acy (runW w l).m S
 | [],_,_,h=>h
 | x :: l,w,I,h=>by
  unfold runW
  by_cases e:doE w x=0
  ·rw[if_pos e];exact Zg l (J4 I e) (pick_acy I h e)
  ·rw[if_neg e];exact Zg l I h
theorem new_ends{many buckets tasks:Nat}(h1:many<=12)(h2:1<=buckets/\buckets<=4)(h3:1<=tasks/\tasks<=5)(l:List Pk) :
  ∃ r,r<=296/\WInv (rounds r (runW (newW many buckets tasks) l))/\(∀ t∈(rounds r (runW (newW many buckets tasks) l)).ts,t.busy=false)/\∀ b,b<(rounds r (runW (newW many buckets tasks) l)).m.heads.length->Aj (rounds r (runW (newW many buckets tasks) l)).m b=-1 :=
 all_end (X6 l (U2 h1 h2 h3)) (Zg l (U2 h1 h2 h3) ⟨_,acy_new many buckets⟩)
theorem a7f:∀ (l1 l2:List Int),l1.Nodup->(∀ x∈l1,x∈l2)->l1.length<=l2.length
 | [],_,_,_=>Nat.zero_le _
 | x :: l1,l2,hn,h=>by
  rw[List.nodup_cons] at hn
  have hx:=h x (by simp)
  have ih:=a7f l1 (l2.erase x) hn.2 (fun y hy=>(List.mem_erase_of_ne (fun e=>hn.1 (by rw[<- e];exact hy))).2 (h y (by simp[hy])))
  rw[List.length_erase_of_mem hx] at ih
  have:0<l2.length:=List.length_pos_of_mem hx
  simp only[List.length_cons]
  omega
theorem Yi{k:Int}:∀ (ts:List Tk),(∀ t∈ts,t.busy=false/\t.held=[])->sumC ts k=0
 | [],_=>rfl
 | x :: ts,h=>by
  have h1:=Yi (k:=k) ts (fun t ht=>h t (by simp[ht]))
  obtain⟨x1,x2⟩:=h x (by simp)
  have h2:cnt x k=0:=by rw[Ce (.inl x1),x2];rfl
  show cnt x k+sumC ts k=0
  omega
theorem all_free{w:Wd}(I:WInv w)(h:∀ t∈w.ts,t.busy=false/\t.held=[])(hA:allC w.m=[]):w.m.free.length=w.m.slots.length:=by
 have hall:∀ i,i<w.m.slots.length->(i:Int)∈w.m.free:=fun i hi=>by
  refine I.okc.ok.all i hi ?_
  have hs:isSl w.m (i:Int)=true:=Aq.2 (by omega)
  have h1:=I.refs i hs
  have h2:mapd w.m (i:Int)=0:=by unfold mapd;rw[hA];simp
  have h3:=Yi (k:=(i:Int)) w.ts h
  have h4:Be w.m (i:Int)=(w.m.slots.getD i sl0).refs:=by unfold Be;rw[Int.toNat_natCast]
  omega
 have h1:=a7f ((List.range w.m.slots.length).map fun (a:Nat)=>(a:Int)) w.m.free (List.Pairwise.map _ (fun a b hab=>by omega) List.nodup_range) (fun x hx=>by
  obtain⟨j,hj,rfl⟩:=List.mem_map.1 hx
  exact hall j (List.mem_range.1 hj))
 have h2:=few' w.m.slots.length w.m.free I.okc.ok.nodup (fun a ha=>by
  have:=(Dp _ _).1 (I.okc.ok.free a ha)
  exact⟨this.1,this.2.1⟩)
 rw[List.length_map,List.length_range] at h1
 omega
end
section
def Idle(w:Wd):Prop:=∀ t∈w.ts,t.busy=false
theorem a5m{w:Wd}(h:∀ (j:Nat) t,w.ts[j]?=some t->t.busy=false):Idle w:=fun t ht=>by
 obtain⟨j,hj⟩:=List.mem_iff_getElem?.1 ht
 exact h j t hj
theorem Nz{w:Wd}:∀ (L:List Nat),(∀ j∈L,∀ t,w.ts[j]?=some t->t.busy=false)->L.foldl Bl w=w
 | [],_=>rfl
 | j :: L,h=>by
  have hj:Bl w j=w:=by
   cases e:w.ts[j]? with
   | none=>exact Ko e
   | some t=>exact Jz e (h j (by simp) t e)
  rw[List.foldl_cons,hj]
  exact Nz L (fun k hk=>h k (by simp[hk]))
theorem a3a{w:Wd}(h:Idle w):Fp w=w:=Nz _ (fun j _ t hj=>h t (List.mem_of_getElem? hj))
theorem Nk{w:Wd}(h:Idle w):∀ n,rounds n w=w
 | 0=>rfl
 | n+1=>by
  show rounds n (Fp w)=w
  rw[a3a h]
  exact Nk h n
theorem Vj{w:Wd}{i:Nat}(hi:i<w.ts.length)(ho:∀ (j:Nat) t,w.ts[j]?=some t->j≠i->t.busy=false):Fp w=Bl w i:=by
 unfold Fp
 obtain⟨p,q,e⟩:=List.append_of_mem (List.mem_range.2 hi)
 have hn:(p++i :: q).Nodup:=e ▸ List.nodup_range
 rw[List.nodup_append,List.nodup_cons] at hn
 rw[e,List.foldl_append,List.foldl_cons]
 have hp:p.foldl Bl w=w:=Nz p (fun j hj t ht=>ho j t ht (fun h=>hn.2.2 j hj i (by simp) h))
 rw[hp]
 refine Nz q (fun j hj t ht=>?_)
 have hji:j≠i:=fun h=>hn.2.1.1 (h ▸ hj)
 rw[Vr hji] at ht
 exact ho j t ht hji
theorem Yc{ts:List Tk}{i:Nat}{t':Tk}(ho:∀ (j:Nat) t,ts[j]?=some t->j≠i->t.busy=false):∀ (j:Nat) t,(ts.set i t')[j]?=some t->j≠i->t.busy=false:=fun j t hj hne=>by
 rcases Eb hj with ⟨h,_,_⟩|⟨_,h⟩
 ·exact(hne h).elim
 ·exact ho j t h hne
theorem Qb{f g:Nat->List Int}:∀ {l:List Nat},(∀ x∈l,f x=g x)->l.flatMap f=l.flatMap g
 | [],_=>rfl
 | a :: l,h=>by
  rw[List.flatMap_cons,List.flatMap_cons,h a (by simp),Qb fun x hx=>h x (by simp[hx])]
theorem a1k{nf:Mm->Fr->Fr}{nm:Mm->Fr->Mm}{i:Nat}{held:List Int}{ts:List Tk}(hi:i<ts.length)(ho:∀ (j:Nat) t,ts[j]?=some t->j≠i->t.busy=false)
  (K:Fr->Prop) (hK:∀ m f,K f->K (nf m f)) (hst:∀ m f,K f->stepT m i ⟨true,f,held⟩=(nm m f,⟨!(nf m f).done,nf m f,held⟩)) {X:Mm} {g:Fr} :
  ∀ (n:Nat) (m:Mm) (f:Fr),K f->run nf nm n m f=(X,g,true)->∃ j,j<=n/\rounds j ⟨m,ts.set i ⟨true,f,held⟩⟩=⟨X,ts.set i ⟨false,g,held⟩⟩
 | 0,m,f,_,h=>by
  have h2:(m,f,false)=(X,g,true):=h
  injection h2 with _ h2
  injection h2 with _ h2
  cases h2
 | n+1,m,f,hk,h=>by
  have hr:Fp ⟨m,ts.set i ⟨true,f,held⟩⟩=⟨nm m f,ts.set i ⟨!(nf m f).done,nf m f,held⟩⟩:=by
   rw[Vj (i:=i) (by simpa using hi) (Yc ho),J6 (t:=⟨true,f,held⟩) (List.getElem?_set_self hi) rfl]
   show (⟨(stepT m i ⟨true,f,held⟩).1,(ts.set i ⟨true,f,held⟩).set i (stepT m i ⟨true,f,held⟩).2⟩:Wd)=_
   rw[hst m f hk,List.set_set]
  cases hd:(nf m f).done with
  | true =>
   rw[run_end hd] at h
   injection h with h1 h2
   injection h2 with h2 _
   refine⟨1,by omega,?_⟩
   show Fp _=_
   rw[hr,hd,h1,h2]
   rfl
  | false =>
   rw[run_go hd] at h
   obtain⟨j,hj,e⟩:=a1k hi ho K hK hst n (nm m f) (nf m f) (hK m f hk) h
   refine⟨j+1,by omega,?_⟩
   show rounds j (Fp _)=_
   rw[hr,hd]
   exact e
theorem Ls:∀ (n:Nat) {w:Wd},WInv w->WInv (rounds n w)
 | 0,_,I=>I
 | n+1,w,I=>by
  refine Ls n ?_
  unfold Fp
  have:∀ (L:List Nat) (v:Wd),WInv v->WInv (L.foldl Bl v):=fun L=>by
   induction L with
   | nil=>exact fun v h=>h
   | cons j L ih=>exact fun v h=>ih _ (Zv h j)
  exact this _ _ I
theorem a2i{w:Wd}(I:WInv w)(h:Idle w):∀ x∈w.m.locks,x=-1:=fun x hx=>by
 obtain⟨b,hb,rfl⟩:=List.getElem_of_mem hx
 have hbh:b<w.m.heads.length:=by rw[<- I.okc.ok.nl];exact hb
 have e:Aj w.m b=w.m.locks[b]:=by simp[Aj,List.getD_eq_getElem?_getD,hb]
 rw[<- e]
 by_cases hl:Aj w.m b=-1
 ·exact hl
 ·obtain⟨i,t,_,h2,h3,_⟩:=I.lockO b hbh hl
  rw[h t (List.mem_of_getElem? h2)] at h3
  cases h3
theorem a2n{w:Wd}(I:WInv w)(h:Idle w){k:Nat}{t:Tk}{a:Int}{l:List Int}(hk:w.ts[k]?=some t)(ht:t.held=a :: l){n:Nat}(hn:1<=n) :
  doE w ⟨k,false,false,⟨6,0,0,0,0,a⟩⟩=0/\(∃ t',rounds n (doW w ⟨k,false,false,⟨6,0,0,0,0,a⟩⟩)=⟨putN w.m a,w.ts.set k t'⟩/\t'.busy=false/\t'.held=l)/\WInv (rounds n (doW w ⟨k,false,false,⟨6,0,0,0,0,a⟩⟩))/\Bj (putN w.m a)=Bj w.m:=by
 have hkl:k<w.ts.length:=(List.getElem?_eq_some_iff.1 hk).1
 have hta:tkAt w ⟨k,false,false,⟨6,0,0,0,0,a⟩⟩=t:=by
  unfold tkAt
  show w.ts.getD (Int.toNat (k:Int)) idle=t
  rw[Int.toNat_natCast,List.getD_eq_getElem?_getD,hk]
  rfl
 have hb:=h t (List.mem_of_getElem? hk)
 have hh:=(I.held t (List.mem_of_getElem? hk)).2 a (by rw[ht];simp)
 have hE:doE w ⟨k,false,false,⟨6,0,0,0,0,a⟩⟩=0:=by
  unfold doE
  rw[if_neg (by simp),if_neg (by show ¬ ¬ (0<=(k:Int)/\(k:Int)<w.ts.length);omega),if_neg (by simp)]
  unfold Un
  have hc:Dw w.m.slots.length w.m.heads.length ⟨6,0,0,0,0,a⟩=0:=by
   rw[Rz,if_pos]
   rw[Ah]
   have:=Aq.1 hh
   omega
  rw[hta,hb,if_neg (by simp),if_neg (by simpa using hc),if_neg (by simp),if_neg (by simp[ht])]
 have I':=J4 I hE
 have hdo:doW w ⟨k,false,false,⟨6,0,0,0,0,a⟩⟩=⟨w.m,w.ts.set k ⟨true,newF ⟨6,0,0,0,0,a⟩,t.held⟩⟩:=by
  unfold doW
  rw[if_neg (by simp),if_neg (by simp),hta]
  rfl
 have ho:∀ (j:Nat) u,w.ts[j]?=some u->j≠k->u.busy=false:=fun j u hj _=>h u (List.mem_of_getElem? hj)
 obtain⟨t',ht'⟩:∃ t':Tk,t'=⟨false,endF (newF ⟨6,0,0,0,0,a⟩) 0,l⟩:=⟨_,rfl⟩
 have hr:Fp (doW w ⟨k,false,false,⟨6,0,0,0,0,a⟩⟩)=⟨putN w.m a,w.ts.set k t'⟩:=by
  rw[hdo,Vj (i:=k) (by simpa using hkl) (Yc ho),J6 (t:=⟨true,newF ⟨6,0,0,0,0,a⟩,t.held⟩) (List.getElem?_set_self hkl) rfl]
  have es:stepT w.m k ⟨true,newF ⟨6,0,0,0,0,a⟩,t.held⟩=(putN w.m a,t'):=by
   unfold stepT
   rw[if_neg (by simp[newF]),if_neg (by simp[newF]),if_neg (by simp[newF]),if_pos (by rfl)]
   show (if a∈t.held then putN w.m a else w.m,Lc ⟨true,newF ⟨6,0,0,0,0,a⟩,t.held⟩)=_
   rw[if_pos (by rw[ht];simp),ht']
   unfold Lc
   show (_,(⟨false,endF (newF ⟨6,0,0,0,0,a⟩) 0,t.held.erase a⟩:Tk))=_
   rw[ht,List.erase_cons_head]
  show (⟨(stepT w.m k ⟨true,newF ⟨6,0,0,0,0,a⟩,t.held⟩).1,(w.ts.set k ⟨true,newF ⟨6,0,0,0,0,a⟩,t.held⟩).set k (stepT w.m k ⟨true,newF ⟨6,0,0,0,0,a⟩,t.held⟩).2⟩:Wd)=_
  rw[es,List.set_set]
 have hid:Idle ⟨putN w.m a,w.ts.set k t'⟩:=a5m fun j u hj=>by
  rcases Eb hj with ⟨_,rfl,_⟩|⟨_,hj'⟩
  ·rw[ht']
  ·exact h u (List.mem_of_getElem? hj')
 obtain⟨n',rfl⟩:∃ n',n=n'+1:=⟨n - 1,by omega⟩
 have hrs:rounds (n'+1) (doW w ⟨k,false,false,⟨6,0,0,0,0,a⟩⟩)=⟨putN w.m a,w.ts.set k t'⟩:=by
  show rounds n' (Fp _)=_
  rw[hr]
  exact Nk hid n'
 refine⟨hE,⟨t',hrs,by rw[ht'],by rw[ht']⟩,Ls _ I',?_⟩
 have h1:=I.refs a hh
 have h2:1<=sumC w.ts a:=by
  have h3:=Zj w.ts t a (List.mem_of_getElem? hk)
  have h4:1<=cnt t a:=by
   rw[Ce (.inl hb),ht]
   simp only[List.count_cons_self]
   omega
  omega
 have hmp:=Gm w.m a
 have hEf:=Ic I.okc 0 hh (by omega) (fun hm=>by have:=G9 hm;omega)
 have h0:0<w.m.heads.length:=by have:=I.okc.ok.nh;omega
 have hch:∀ b,b<w.m.heads.length->chL (putN w.m a) b=chL w.m b:=fun b hb'=>by
  by_cases e:b=0
  ·rw[e];exact hEf.at_
  ·exact hEf.else_ b hb' e
 have hA:allC (putN w.m a)=allC w.m:=by
  unfold allC Bq
  rw[hEf.nh]
  exact Qb fun b hb'=>hch b (List.mem_range.1 hb')
 unfold Bj
 rw[hA]
 refine List.map_congr_left fun x hx=>?_
 have hk2:=hEf.key x (Aq.2 (I.okc.Eo x hx)) (fun hr=>a0n I.okc hr hx)
 have e1:(A7 (putN w.m a) x).a=(A7 w.m x).a/\(A7 (putN w.m a) x).b=(A7 w.m x).b:=by
  have:=hk2.1
  unfold keyAt at this
  injection this with a1 a2
  exact⟨a1,a2⟩
 unfold D8
 rw[e1.1,e1.2,hk2.2]
theorem a4q{w:Wd}(I:WInv w)(h:Idle w)(hh:∀ t∈w.ts,t.held=[]){f:Fl}{l:List Fl}(hf:Bj w.m=f :: l){n:Nat}(hn:30<=n) :
  doE w ⟨0,false,false,⟨3,f.a,f.b,0,0,0⟩⟩=0/\Idle (rounds n (doW w ⟨0,false,false,⟨3,f.a,f.b,0,0,0⟩⟩))/\(∀ t∈(rounds n (doW w ⟨0,false,false,⟨3,f.a,f.b,0,0,0⟩⟩)).ts,t.held=[])/\WInv (rounds n (doW w ⟨0,false,false,⟨3,f.a,f.b,0,0,0⟩⟩)) /\
  Bj (rounds n (doW w ⟨0,false,false,⟨3,f.a,f.b,0,0,0⟩⟩)).m=l:=by
 have hlen:=I.nt.1
 obtain⟨x,hx,hfx⟩:∃ x∈allC w.m,D8 w.m x=f:=by
  have:f∈Bj w.m:=by rw[hf];simp
  obtain⟨x,hx,e⟩:=List.mem_map.1 this
  exact⟨x,hx,e⟩
 have hkx:keyAt w.m x=(f.a,f.b):=by rw[<- hfx];rfl
 have hkey:keyB f.a f.b=true:=by
  have hs:=Ej (I.okc.ok.slot _ (Q5 (Aq.2 (I.okc.Eo x hx))))
  have e1:(A7 w.m x).a=f.a/\(A7 w.m x).b=f.b:=by rw[<- hfx];exact⟨rfl,rfl⟩
  rw[<- e1.1,<- e1.2]
  exact hs.2.2.1
 obtain⟨t,ht0⟩:∃ t,w.ts[0]?=some t:=⟨_,List.getElem?_eq_getElem (by omega)⟩
 have hta:tkAt w ⟨0,false,false,⟨3,f.a,f.b,0,0,0⟩⟩=t:=by
  unfold tkAt
  show w.ts.getD (Int.toNat 0) idle=t
  rw[Int.toNat_zero,List.getD_eq_getElem?_getD,ht0]
  rfl
 have hb:=h t (List.mem_of_getElem? ht0)
 have hE:doE w ⟨0,false,false,⟨3,f.a,f.b,0,0,0⟩⟩=0:=by
  unfold doE
  rw[if_neg (by simp),if_neg (by show ¬ ¬ ((0:Int)<=0/\(0:Int)<w.ts.length);omega),if_neg (by simp)]
  unfold Un
  have hc:Dw w.m.slots.length w.m.heads.length ⟨3,f.a,f.b,0,0,0⟩=0:=by rw[Ry (.inr rfl),if_pos hkey]
  rw[hta,hb,if_neg (by simp),if_neg (by simpa using hc),if_neg (by simp),if_neg (by simp)]
 have hdo:doW w ⟨0,false,false,⟨3,f.a,f.b,0,0,0⟩⟩=⟨w.m,w.ts.set 0 ⟨true,newF ⟨3,f.a,f.b,0,0,0⟩,t.held⟩⟩:=by
  unfold doW
  rw[if_neg (by simp),if_neg (by simp),hta]
  rfl
 have ho:∀ (j:Nat) u,w.ts[j]?=some u->j≠0->u.busy=false:=fun j u hj _=>h u (List.mem_of_getElem? hj)
 obtain⟨X,g,hG,hD⟩:=dr_all I.okc (a2i I h) hkey
 obtain⟨j,hj,e⟩:=a1k (nf:=drF) (nm:=drM 0) (held:=t.held) (by omega:0<w.ts.length) ho (fun f=>f.c.kind=3) (fun m f hk=>by rw[drF_c];exact hk) (fun m f hk=>by unfold stepT;rw[if_neg (by show ¬ f.c.kind=1;omega),if_neg (by show ¬ f.c.kind=2;omega),if_pos hk];rfl) _ w.m (newF ⟨3,f.a,f.b,0,0,0⟩) rfl (a0q hG)
 have hid:Idle ⟨X,w.ts.set 0 ⟨false,g,t.held⟩⟩:=a5m fun j u hj=>by
  rcases Eb hj with ⟨_,rfl,_⟩|⟨_,hj'⟩
  ·rfl
  ·exact h u (List.mem_of_getElem? hj')
 have hns:=I.okc.ok.ns
 have hrs:rounds n (doW w ⟨0,false,false,⟨3,f.a,f.b,0,0,0⟩⟩)=⟨X,w.ts.set 0 ⟨false,g,t.held⟩⟩:=by
  rw[hdo,show n=j+(n - j) by omega,Jb,e]
  exact Nk hid _
 have I2:=Ls n (J4 I hE)
 rw[hrs] at I2 ⊢
 refine⟨hE,hid,fun u hu=>?_,I2,?_⟩
 ·obtain⟨j,hj⟩:=List.mem_iff_getElem?.1 hu
  rcases Eb hj with ⟨_,rfl,_⟩|⟨_,hj'⟩
  ·exact hh t (List.mem_of_getElem? ht0)
  ·exact hh u (List.mem_of_getElem? hj')
 ·unfold Dropped at hD
  have hhas:hasK w.m (allC w.m) (f.a,f.b)=true:=by
   unfold hasK
   rw[List.contains_iff_mem]
   exact List.mem_map.2 ⟨x,hx,hkx⟩
  rw[if_pos (by exact hhas)] at hD
  obtain⟨a,p,q,e1,e2,-,-,-,-,e3,-⟩:=hD
  show Bj X=l
  rw[e3]
  unfold Bj at hf
  rw[e1] at hf
  cases p with
  | nil =>
   rw[List.nil_append,List.map_cons] at hf
   exact(List.cons.inj hf).2
  | cons y p =>
   exfalso
   rw[List.cons_append,List.map_cons] at hf
   injection hf with hf _
   have hya:y∈allC w.m:=by rw[e1];simp
   have haa:a∈allC w.m:=by rw[e1];simp
   have hky:keyAt w.m y=(f.a,f.b):=by rw[<- hf];rfl
   have hya2:=Pq I.okc hya haa (hky.trans e2.symm)
   have hnd:(allC w.m).Nodup:=F6 I.okc.keys
   rw[e1,hya2,List.cons_append,List.nodup_cons] at hnd
   exact hnd.1 (by simp)
theorem free_end{w:Wd}(I:WInv w)(h:Idle w)(hh:∀ t∈w.ts,t.held=[])(hf:Bj w.m=[]):w.m.free.length=w.m.slots.length :=
 all_free I (fun t ht=>⟨h t ht,hh t ht⟩) (by unfold Bj at hf;exact List.map_eq_nil_iff.1 hf)
end
end Go.Proofs.YthhgoenomehobaaGreat.mm
