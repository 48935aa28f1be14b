/- Parts. -/
import Derived.Test.YthhgoenomehobaaGreatS04
namespace Go.Proofs.YthhgoenomehobaaGreat.mm
set_option maxRecDepth 100000
set_option linter.unusedVariables false
section
def nx(m:Mm)(y:Int):Int:=(A7 m y).next
end
section
theorem a7h{m:Mm}{f:Fr}(hM:OkC m)(hk:¬ (f.c.kind=4\/f.c.kind=5))(hkey:Ee f.c.a f.c.b=true){a:Int}(hm:a∈Ba m)(he:keyAt m a=Key f):a∈chL m (bkN m f):=by
 obtain⟨b',hb',ha⟩:=E5.1 hm
 have hbu:=(hM.held b' hb' a ha).2.2
 have hk1:(A7 m a).a=f.c.a/\(A7 m a).b=f.c.b:=by unfold keyAt Key at he;simpa using he
 rw[hk1.1,hk1.2] at hbu
 have hbk:=Yb hM.ok hk hkey
 have:bkN m f=b':=by unfold bkN;rw[hbk,hbu];simp
 rw[this];exact ha
section
variable {H:List Mm} {m m':Mm} {f:Fr}
end
end
section
section
variable {w:Wd} {G:List (List Mm)} {i:Nat} {t:Tk}
theorem a4a(m:Mm)(i:Nat)(t:Tk):(stepT m i t).2.f.c=t.f.c:=by
 unfold stepT
 split
 ·exact a4z _ _
 split
 ·exact b7n _ _
 split
 ·exact b7o _ _
 split
 ·rfl
 ·exact b2v _ _
end
end
section
structure Pst where
 Bc:Int
 c:Cl
 fro:Nat
 to:Nat
 e:Int
 slot:Int
 n:Int
 keys:List (Int × Int)
def Tj(w:Wd)(x:Pk):Wd:=if doE w x=0 then doW w x else w
def Kd (w : Wd) (x : Pk) : Prop :=
  (x.tick=true ∧ w.m.now≠1000000 ∧ doW w x=⟨{ w.m with now:=w.m.now+1 },w.ts⟩) ∨
  (x.tick=false ∧ x.step=true ∧ (0<=x.Bc/\x.Bc<w.ts.length) ∧ w.ts[x.Bc.toNat]?=some (H7 w x) ∧ (H7 w x).busy=true ∧ doW w x=⟨(stepT w.m x.Bc.toNat (H7 w x)).1,w.ts.set x.Bc.toNat (stepT w.m x.Bc.toNat (H7 w x)).2⟩) ∨
  (x.tick=false ∧ x.step=false ∧ (0<=x.Bc/\x.Bc<w.ts.length) ∧ w.ts[x.Bc.toNat]?=some (H7 w x) ∧ (H7 w x).busy=false ∧ Df w.m.slots.length w.m.heads.length x.c=0 ∧ (x.c.kind=1->(H7 w x).held.length≠100) ∧ (x.c.kind=6->x.c.slot∈(H7 w x).held) ∧ doW w x=⟨w.m,w.ts.set x.Bc.toNat ⟨true,Aw x.c,(H7 w x).held⟩⟩)
theorem Kd.tick {w : Wd} {x : Pk} (h:x.tick=true) (hn:w.m.now≠1000000) (e:doW w x=⟨{ w.m with now:=w.m.now+1 },w.ts⟩) : Kd w x := .inl ⟨h,hn,e⟩
theorem Kd.step {w : Wd} {x : Pk} (h:x.tick=false) (hs:x.step=true) (hr:0<=x.Bc/\x.Bc<w.ts.length) (hi:w.ts[x.Bc.toNat]?=some (H7 w x)) (hb:(H7 w x).busy=true) (e:doW w x=⟨(stepT w.m x.Bc.toNat (H7 w x)).1,w.ts.set x.Bc.toNat (stepT w.m x.Bc.toNat (H7 w x)).2⟩) : Kd w x := .inr (.inl ⟨h,hs,hr,hi,hb,e⟩)
theorem Kd.begin {w : Wd} {x : Pk} (h:x.tick=false) (hs:x.step=false) (hr:0<=x.Bc/\x.Bc<w.ts.length) (hi:w.ts[x.Bc.toNat]?=some (H7 w x)) (hb:(H7 w x).busy=false) (hc:Df w.m.slots.length w.m.heads.length x.c=0) (h1:x.c.kind=1->(H7 w x).held.length≠100) (h6:x.c.kind=6->x.c.slot∈(H7 w x).held) (e:doW w x=⟨w.m,w.ts.set x.Bc.toNat ⟨true,Aw x.c,(H7 w x).held⟩⟩) : Kd w x := .inr (.inr ⟨h,hs,hr,hi,hb,hc,h1,h6,e⟩)
theorem Kd.rule {w : Wd} {x : Pk} {motive : Kd w x -> Prop} (tick : ∀ (h:x.tick=true) (hn:w.m.now≠1000000) (e:doW w x=⟨{ w.m with now:=w.m.now+1 },w.ts⟩),motive (Kd.tick h hn e)) (step : ∀ (h:x.tick=false) (hs:x.step=true) (hr:0<=x.Bc/\x.Bc<w.ts.length) (hi:w.ts[x.Bc.toNat]?=some (H7 w x)) (hb:(H7 w x).busy=true) (e:doW w x=⟨(stepT w.m x.Bc.toNat (H7 w x)).1,w.ts.set x.Bc.toNat (stepT w.m x.Bc.toNat (H7 w x)).2⟩),motive (Kd.step h hs hr hi hb e)) (begin : ∀ (h:x.tick=false) (hs:x.step=false) (hr:0<=x.Bc/\x.Bc<w.ts.length) (hi:w.ts[x.Bc.toNat]?=some (H7 w x)) (hb:(H7 w x).busy=false) (hc:Df w.m.slots.length w.m.heads.length x.c=0) (h1:x.c.kind=1->(H7 w x).held.length≠100) (h6:x.c.kind=6->x.c.slot∈(H7 w x).held) (e:doW w x=⟨w.m,w.ts.set x.Bc.toNat ⟨true,Aw x.c,(H7 w x).held⟩⟩),motive (Kd.begin h hs hr hi hb hc h1 h6 e)) (k : Kd w x) : motive k := by
  rcases k with ⟨h,hn,e⟩ | ⟨h,hs,hr,hi,hb,e⟩ | ⟨h,hs,hr,hi,hb,hc,h1,h6,e⟩
  · exact tick h hn e
  · exact step h hs hr hi hb e
  · exact begin h hs hr hi hb hc h1 h6 e
theorem a8b{w:Wd}{x:Pk}(h:doE w x=0):Kd w x:=by
 unfold doE at h
 by_cases ht:x.tick=true
 ·rw[if_pos ht] at h
  by_cases hn:w.m.now=1000000
  ·rw[if_pos hn] at h;omega
  ·exact .tick ht hn (by unfold doW;rw[if_pos ht])
 rw[if_neg ht] at h
 have ht':x.tick=false:=by simpa using ht
 by_cases hr:0<=x.Bc/\x.Bc<w.ts.length
 ·rw[if_neg (by simpa using hr)] at h
  have hi:w.ts[x.Bc.toNat]?=some (H7 w x):=by
   unfold H7
   have:x.Bc.toNat<w.ts.length:=by omega
   rw[List.getD_eq_getElem?_getD,List.getElem?_eq_getElem this]
   rfl
  by_cases hs:x.step=true
  ·rw[if_pos hs] at h
   by_cases hb:(H7 w x).busy=true
   ·exact .step ht' hs hr hi hb (by unfold doW;rw[if_neg ht,if_pos hs])
   ·rw[if_neg hb] at h;omega
  ·rw[if_neg hs] at h
   unfold Vm at h
   by_cases hb:(H7 w x).busy=true
   ·rw[if_pos hb] at h;omega
   rw[if_neg hb] at h
   by_cases hc:Df w.m.slots.length w.m.heads.length x.c=0
   ·rw[if_neg (by simpa using hc)] at h
    by_cases h1:x.c.kind=1/\(H7 w x).held.length=100
    ·rw[if_pos h1] at h;omega
    rw[if_neg h1] at h
    by_cases h6:x.c.kind=6/\x.c.slot ∉ (H7 w x).held
    ·rw[if_pos h6] at h;omega
    refine .begin ht' (by simpa using hs) hr hi (by simpa using hb) hc (fun h=>fun e=>h1 ⟨h,e⟩) (fun h=>?_) (by unfold doW;rw[if_neg ht,if_neg hs])
    by_cases hm:x.c.slot∈(H7 w x).held
    ·exact hm
    ·exact(h6 ⟨h,hm⟩).elim
   ·rw[if_pos hc] at h;exact(hc h).elim
 ·rw[if_pos (by simpa using hr)] at h;omega
structure Rs where
 w:Wd
 said:List Int
 past:List Pst
 beg:List Nat
def b1s(n:Nat)(x:Pk)(b:Nat)(t:Tk):Pst:=⟨x.Bc,t.f.c,b,n,t.f.e,t.f.slot,t.f.n,t.f.keys⟩
def Pi(n:Nat)(s:Rs)(x:Pk):Rs :=
 if doE s.w x=0 then
  (if x.tick then ⟨doW s.w x,s.said ++ [0],s.past,s.beg⟩
   else if x.step then
    (if ((doW s.w x).ts.getD x.Bc.toNat idle).busy then ⟨doW s.w x,s.said ++ [0],s.past,s.beg⟩
    else ⟨doW s.w x,s.said ++ [0],s.past ++ [b1s n x (s.beg.getD x.Bc.toNat 0) ((doW s.w x).ts.getD x.Bc.toNat idle)],s.beg⟩)
   else ⟨doW s.w x,s.said ++ [0],s.past,s.beg.set x.Bc.toNat n⟩)
 else ⟨s.w,s.said ++ [doE s.w x],s.past,s.beg⟩
def Qv:Nat->Rs->List Pk->Rs
 | _,s,[]=>s
 | n,s,x :: l=>Qv (n+1) (Pi n s x) l
def rs0(w:Wd):Rs:=⟨w,[],[],List.replicate w.ts.length 0⟩
theorem b6n(n:Nat)(s:Rs)(x:Pk):(Pi n s x).w=Tj s.w x:=by
 unfold Pi Tj
 by_cases h:doE s.w x=0
 ·rw[if_pos h,if_pos h]
  repeat' split
  all_goals rfl
 ·rw[if_neg h,if_neg h]
end
end Go.Proofs.YthhgoenomehobaaGreat.mm
